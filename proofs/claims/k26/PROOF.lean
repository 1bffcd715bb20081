import PyProof.Rows.All
import Wide.All
import OpenK.AllK
import Wide.FinOn
import Lean
import PyProof.EqAt
import PyProof.EqKinds
import PyProof.TupleCall
import PySem.Challenge.RW_rowsbeneath_k26_packings_and_chains_chec
set_option Elab.async false
set_option linter.all false
set_option maxRecDepth 100000
set_option maxHeartbeats 0
abbrev ZF:=PySem.W.Frag
section
open PySem PySem.Spec PyProof.Rows
def AK:=@Heap.get?_push_of_some
def AL:=@List.getElem?_eq_getElem
def AM:=@List.length_map
def AN:=@List.getElem?_eq_some_iff
def AO:=@Heap.get?_push_size
def AQ:=@Heap.lt_size
def AR:=@Nat.le_refl
def AS:=@Bool.false_ne_true
def AT:=@List.length_append
def AU:=@List.mem_singleton
def AV:=@List.size_toArray
def AW:=@Nat.ne_of_lt
def AX:=@List.mem_cons_self
def AY:=@List.map_append
def AZ:=@List.mem_cons
def A0:=@Array.length_toList
def A1:=@Int.toNat_natCast
def A2:=@List.mem_cons_of_mem
def A3:=@List.mem_range
def A4:=@PySem.boot_len
def A5:=@List.getElem?_map
def A6:=@List.mem_of_getElem?
def A7:=@List.length_take
def A8:=@Nat.le_trans
def A9:=@List.mem_append_right
def Ba:=@List.append_nil
def Bb:=@Heap.size_push
def Bc:=@List.mem_filter
def Bd:=@Nat.lt_of_lt_of_le
def Be:=@Option.some.inj
def Bf:=@List.take_length
def Bh:=@Bool.and_eq_true
def Bi:=@List.take_of_length_le
def Bj:=@List.length_cons
def Bk:=@PySem.W.mg_none_of
def Bm:=@List.getD_eq_getElem?_getD
def Bo:=@List.mem_map
def Bp:=@List.filter_append
def Bq:=@List.getElem_mem
def Bs:=@List.range_succ
def Bv:=@Nat.zero_le
def Bx:=@PySem.F.plainAttrs_list
def By:=@List.take_succ
def Bz:=@PyProof.Rows.callWith_type1
def BA:=@List.mem_append
def BB:=@List.map_cons
def BC:=@List.all_eq_true
def BD:=@PySem.F.type_list_append
def BE:=@PySem.F.slot_list_append
def BF:=@Bool.eq_iff_iff
def BG:=@List.length_drop
def BH:=@List.lookup_cons
def BI:=@Nat.lt_succ_self
def BJ:=@List.append_assoc
def BK:=@PySem.W.mg_of
def BL:=@List.mem_append_left
def BM:=@PySem.W.kia_one
def BN:=@List.not_mem_nil
def BO:=@Nat.lt_irrefl
def BP:=@List.nodup_append
def BQ:=@List.flatten_cons
def BR:=@List.take_append_drop
def BS:=@Nat.le_succ
def BU:=@Bool.eq_false_iff
def BV:=@Nat.ne_of_gt
def BW:=@List.map_map
def BY:=@PySem.mem_of_lookup
def BZ:=@List.contains_iff_mem
def B3:=@List.find?_cons
def B5:=@PyProof.Rows.boot_int
def B6:=@List.getElem?_append_right
def B8:=@List.drop_eq_getElem_cons
def B9:=@List.length_pos_iff
def Ca:=@List.getElem_of_mem
def Cb:=@Nat.le_of_lt
def Cd:=@List.nodup_cons
def Ce:=@List.length_eq_zero_iff
def Cf:=@List.any_cons
def Cg:=@List.length_replicate
def Ch:=@List.all_map
def Ci:=@List.map_nil
end
set_option hygiene false in
local macro_rules|`(tactic| walk_at "l")=>`(tactic| first|(cases h;subst_vars;rfl)|((repeat rcases h with ⟨_,h⟩)<;>(subst_vars;rfl)))
set_option hygiene false in
local macro_rules|`(tactic| walk_at "o")=>`(tactic| refine F.ok ZZ (fun vs H Q E h=>by walk_at "l") (fun Cr A outer s H vs Q E hr h=>?_))
set_option hygiene false in
local macro_rules|`(tactic| walk_at "ob")=>`(tactic| refine F.okb ZZ (fun vs H Q E h=>by walk_at "l") (fun Cr A outer s H vs Q E hr h=>?_))
local macro_rules|`(tactic| walk_at "0")=>`(tactic| exact fun _ _ _ _ _ _ us hl=>match us,hl with|[],_=>rfl)
local macro_rules|`(tactic| walk_at "1")=>`(tactic| exact fun _ _ _ _ _ _ us hl=>match us,hl with|[_],_=>rfl)
local macro_rules|`(tactic| walk_at "2")=>`(tactic| exact fun _ _ _ _ _ _ us hl=>match us,hl with|[_,_],_=>rfl)
local macro_rules|`(tactic| walk_at "3")=>`(tactic| exact fun _ _ _ _ _ _ us hl=>match us,hl with|[_,_,_],_=>rfl)
local macro_rules|`(tactic| walk_at "4")=>`(tactic| exact fun _ _ _ _ _ _ us hl=>match us,hl with|[_,_,_,_],_=>rfl)
local macro_rules|`(tactic| walk_at "5")=>`(tactic| exact fun _ _ _ _ _ _ us hl=>match us,hl with|[_,_,_,_,_],_=>rfl)
local macro_rules|`(tactic| walk_at "6")=>`(tactic| exact fun _ _ _ _ _ _ us hl=>match us,hl with|[_,_,_,_,_,_],_=>rfl)
local macro_rules|`(tactic| walk_at "7")=>`(tactic| exact fun _ _ _ _ _ _ us hl=>match us,hl with|[_,_,_,_,_,_,_],_=>rfl)
local macro_rules|`(tactic| walk_at "8")=>`(tactic| exact fun _ _ _ _ _ _ us hl=>match us,hl with|[_,_,_,_,_,_,_,_],_=>rfl)
local macro_rules|`(tactic| walk_at "9")=>`(tactic| exact fun _ _ _ _ _ _ us hl=>match us,hl with|[_,_,_,_,_,_,_,_,_],_=>rfl)
theorem zk {p:Prop} (h:p:=by decide +kernel):p:=h
theorem zo {p:Prop} (h:p:=by lia):p:=h
theorem zd {p:Prop} (h:p:=by decide):p:=h
theorem CM (h:Nat.ble n 1000=true:=by rfl):n<=PySem.sizeLine:=Nat.le_trans (Nat.le_of_ble_eq_true h) zd
namespace L2
open PySem PySem.Spec PyProof.Rows
abbrev cJ:=Sum Int Str
def jv:cJ->Value->Bool
 | .inl k,v=>Value.isInt k v
 | .inr x,v=>Value.isStrOf x v
def yT (w:World):cJ->Int
 | .inl k=>hashInt k
 | .inr x=>hashStr w x
theorem bh:∀ {k:cJ} {v:Value},jv k v=true->(∃ i t,k=Sum.inl i/\v=Value.int i t)\/(∃ x t,k=Sum.inr x/\v=Value.str x t)
 | .inl i,v,h=>by
  obtain ⟨t,e⟩:=Value.isInt_shape (k:=i) (v:=v) h;exact .inl ⟨i,t,rfl,e⟩
 | .inr x,v,h=>by
  obtain ⟨t,e⟩:=Value.isStrOf_shape (x:=x) (v:=v) h;exact .inr ⟨x,t,rfl,e⟩
theorem pe (i:Int) (t:Tok):jv (.inl i) (.int i t)=true:=by simp [jv,Value.isInt]
theorem pf (x:Str) (t:Tok):jv (.inr x) (.str x t)=true:=by simp [jv,Value.isStrOf]
theorem vw (a b:Int):decide ((Sum.inl a:cJ)=Sum.inl b)=(a == b):=by
 by_cases e:a=b
 ·subst e;simp
 ·have h:¬ (Sum.inl a:cJ)=Sum.inl b:=fun q=>e (Sum.inl.inj q);rw [decide_eq_false h];exact (beq_eq_false_iff_ne.mpr e).symm
theorem vy (a b:Str):decide ((Sum.inr a:cJ)=Sum.inr b)=decide (a=b):=by
 by_cases e:a=b
 ·subst e;simp
 ·have h:¬ (Sum.inr a:cJ)=Sum.inr b:=fun q=>e (Sum.inr.inj q);rw [decide_eq_false h,decide_eq_false e]
theorem vz (a:Int) (b:Str):decide ((Sum.inl a:cJ)=Sum.inr b)=false:=decide_eq_false (fun q=>nomatch q)
theorem vA (a:Str) (b:Int):decide ((Sum.inr a:cJ)=Sum.inl b)=false:=decide_eq_false (fun q=>nomatch q)
def aU (prog:Program) (w:World):PySem.KeyKind prog w cJ where
 is:=jv
 hash:=yT w
 inj:=fun v a b ha hb=>by
  rcases bh ha with ⟨i,t,rfl,rfl⟩|⟨x,t,rfl,rfl⟩
  ·rcases bh hb with ⟨j,u,rfl,e⟩|⟨y,u,rfl,e⟩
   ·injection e with e1 _;rw [e1]
   ·exact nomatch e
  ·rcases bh hb with ⟨j,u,rfl,e⟩|⟨y,u,rfl,e⟩
   ·exact nomatch e
   ·injection e with e1 _;rw [e1]
 byValue:=fun k v h=>by
  rcases bh h with ⟨i,t,rfl,rfl⟩|⟨x,t,rfl,rfl⟩<;>rfl
 pyHash:=fun hv h=>by
  rcases bh hv with ⟨i,t,rfl,rfl⟩|⟨x,t,rfl,rfl⟩
  ·exact wpAny_pyHash_int h
  ·exact wpAny_pyHash_str h
 eqBool:=fun hu hv h=>by
  rcases bh hu with ⟨i,t,rfl,rfl⟩|⟨x,t,rfl,rfl⟩
  ·rcases bh hv with ⟨j,u,rfl,rfl⟩|⟨y,u,rfl,rfl⟩
   ·rw [vw] at h;exact wpAny_eqBool_int h
   ·rw [vz] at h;exact SeqAt.EqAt.int_str i t y u _ _ _ _ h
  ·rcases bh hv with ⟨j,u,rfl,rfl⟩|⟨y,u,rfl,rfl⟩
   ·rw [vA] at h;exact SeqAt.EqAt.str_int x t j u _ _ _ _ h
   ·rw [vy] at h;exact wpAny_eqBool_str h
 «strs»:=fun k x t v h=>by
  rcases bh h with ⟨i,u,rfl,e⟩|⟨y,u,rfl,e⟩
  ·exact nomatch e
  ·injection e with e1 _;subst e1;cases v<;>rfl
theorem kS (prog:Program) (w:World) (i:Int) (t:Tok):(aU prog w).is (.inl i) (.int i t)=true:=pe i t
theorem kT (prog:Program) (w:World) (x:Str) (t:Tok):(aU prog w).is (.inr x) (.str x t)=true:=pf x t
inductive V where
 | non|bl (b:Bool)|int (i:Int)|str (x:Str)|byt (b:Array UInt8)|flt (b:UInt64)|ref (a:Addr)|ty (n:String)
 deriving DecidableEq
def CG:V->Value->Prop
 | .non,u=>u=Value.none
 | .bl b,u=>u=Value.bool b
 | .int i,u=>∃ t,u=Value.int i t
 | .str x,u=>∃ t,u=Value.str x t
 | .byt b,u=>∃ t,u=Value.bytes b t
 | .flt b,u=>∃ t,u=Value.float b t
 | .ref a,u=>u=Value.ref a
 | .ty n,u=>u=Value.type n
abbrev CD:List V->List Value->Prop:=Paired CG
variable {us:List Value} {xs:List V}
theorem CD.length (r:CD xs us):xs.length=us.length:=Paired.length r
theorem CD.get:∀ {xs:List V} {us:List Value} {i:Nat} {x:V},CD xs us->xs[i]?=some x->∃ u,us[i]?=some u/\CG x u
 | _,_,_,_,.nil,e=>by simp at e
 | _,_,0,_,.cons r _,e=>by simp at e;subst e;exact ⟨_,rfl,r⟩
 | _,_,i+1,x,.cons _ t,e=>by
  obtain ⟨u,h1,h2⟩:=CD.get (i:=i) (x:=x) t (by simpa using e);exact ⟨u,by simpa using h1,h2⟩
variable {u:Value} {x:V}
theorem CD.set (r:CG x u):∀ {xs:List V} {us:List Value} (i:Nat),CD xs us->CD (xs.set i x) (us.set i u)
 | _,_,_,.nil=>.nil
 | _,_,0,.cons _ t=>.cons r t
 | _,_,i+1,.cons q t=>.cons q (CD.set r i t)
theorem CD.append:∀ {xs ys:List V} {us ws:List Value},CD xs us->CD ys ws->CD (xs++ys) (us++ws)
 | _,_,_,_,.nil,s=>s
 | _,_,_,_,.cons r t,s=>.cons r (CD.append t s)
theorem CD.take:∀ {xs:List V} {us:List Value} (n:Nat),CD xs us->CD (xs.take n) (us.take n)
 | _,_,0,_=>.nil
 | _,_,_+1,.nil=>.nil
 | _,_,n+1,.cons r t=>.cons r (CD.take n t)
theorem CD.drop:∀ {xs:List V} {us:List Value} (n:Nat),CD xs us->CD (xs.drop n) (us.drop n)
 | _,_,0,r=>r
 | _,_,_+1,.nil=>.nil
 | _,_,n+1,.cons _ t=>CD.drop n t
def DM:Option V->Option Value->Prop
 | some v,some u=>CG v u
 | none,none=>True
 | _,_=>False
def KV {κ:Type}:List (κ×V)->List (κ×Value)->Prop:=Paired fun (p:κ×V) (q:κ×Value)=>p.1=q.1/\CG p.2 q.2
def kV:cJ->V
 | .inl i=>.int i
 | .inr x=>.str x
inductive HO where
 | lst (xs:List V)
 | tup (xs:List V)
 | dK (kvs:List (cJ×V))|dT (kvs:List (List cJ×V))
 | set (S:Int->Bool) (n:Nat)
 | ins (C dx:Addr) (fs:List (Str×V))
 | own (x:Addr)
 | xd (fs:List (Str×V))
 | met (f x:Addr)
 | rng (lo hi:Int)
 | frz (o:Obj) (u:HO)
 | tbl (ps:Array Value)
 | ext (φ:Heap->Prop)
abbrev Hp:=Addr->Option HO
def aB (H:Hp) (a:Addr) (o:HO):Hp:=fun b=>if b=a then some o else H b
variable {o:HO} {a:Addr} {H:Hp}
theorem af:aB H a o a=some o:=by unfold aB;rw [if_pos rfl]
variable {b:Addr}
theorem az (h:b≠a):aB H a o b=H b:=by unfold aB;rw [if_neg h]
theorem xp {o u:HO} (h:H a=some o) (h':H b=some u) (d:o≠u):a≠b:=by
 intro e;subst e;rw [h] at h';exact d (Be h')
theorem aD (h:H a=some o) (h':H b=none):a≠b:=by
 intro e;subst e;rw [h] at h';cases h'
def E8 (h:Heap) (a:Addr) (Cv:Array Value):Prop:=∃ o,h.get? a=some o/\(o.cls,o.dict)=(Value.type "tuple",none)/\∃ n,o.data=Data.seq Cv n
variable {Cv:Array Value} {h:Heap}
theorem E8.up (p:E8 h a Cv):IsTup h a Cv:=let ⟨o,e,c,d⟩:=p;⟨o,e,(Prod.mk.inj c).1,d⟩
theorem E8.lt (p:E8 h a Cv):a < h.objs.size:=let ⟨_,e,_⟩:=p;AQ e
theorem E8.new (h:Heap) (Cv:Array Value):E8 (h.push { cls:=.type "tuple",data:=.seq Cv }) h.objs.size Cv:=⟨_,AO _ rfl,rfl,_,rfl⟩
section
variable (P:Program) (w:World)
def CO (H:Hp) (h:Heap) (a:Addr):HO->Prop
 | .lst xs=>xs.length<=sizeLine/\∃ (its:List Value) (n:Nat),CD xs its/\h.get? a=some { cls:=.type "list",data:=.seq its.toArray n }
 | .tup xs=>xs.length<=sizeLine/\∃ its:List Value,CD xs its/\E8 h a its.toArray
 | .dK kvs=>kvs.length<=sizeLine/\(a == sysModules)=false/\∃ vs,KV kvs vs/\h.DictOf (aU P w) a vs
 | .dT kvs=>kvs.length<=sizeLine/\(a == sysModules)=false/\∃ xs:List (List cJ×Addr×Value),
   Paired (fun (p:List cJ×V) (q:List cJ×Addr×Value)=>p.1=q.1/\H q.2.1=some (.tup (p.1.map kV))/\CG p.2 q.2.2) kvs xs /\
   ∃ o es ep,h.get? a=some o/\o.ExactDict/\o.data=.dict es ep/\es.toList=xs.map (entryOfKey (tupleKind (aU P w)))/\(xs.map (·.1)).Nodup
 | .set S n=>h.SetOf (intKind P w) a S n
 | .ins C dx fs=>H dx=some (.own a)/\fs.length<=1000/\dx≠a/\h.get? a=some (PySem.W.instObj C dx) /\
   ∃ mA,h.Ns1 dx mA/\(∀ f,DM (fs.lookup f) (mA f))/\PySem.Within mA (fs.map (·.1))
 | .own _=>∃ o,h.get? a=some o
 | .xd fs=>∃ mA,h.Ns1 a mA/\∀ f,DM (fs.lookup f) (mA f)
 | .rng lo hi=>∃ t u v,h.get? a=some { cls:=.type "range",data:=.fields #[.int lo t,.int hi u,.int 1 v] }
 | .frz o u=>h.get? a=some o/\CO H h a u
 | .tbl ps=>h.get? a=some { cls:=.none,data:=.fields ps }
 | .met f x=>h.get? a=some (PySem.W.methodObj (.ref f) (.ref x))
 | .ext φ=>φ h/\(∃ o,h.get? a=some o)/\∀ h1 h2:Heap,φ h1->(∀ o,h1.get? a=some o->h2.get? a=some o)->φ h2
def DN (H:Hp) (h:Heap):Prop:=∀ a o,H a=some o->CO P w H h a o
end
section
variable {P:Program} {w:World} {H H':Hp} {h h':Heap} {a:Addr} {o:HO}
theorem CO.lt (x:CO P w H h a o):a < h.objs.size:=by
 cases o with
 | lst xs=>obtain ⟨_,_,_,_,e⟩:=x;exact AQ e
 | tup xs=>obtain ⟨_,_,_,p⟩:=x;exact p.lt
 | dK kvs=>obtain ⟨_,_,_,_,o,_,_,e,_⟩:=x;exact AQ e
 | dT kvs=>obtain ⟨_,_,_,_,o,_,_,e,_⟩:=x;exact AQ e
 | set S n=>obtain ⟨o,_,_,_,e,_⟩:=x;exact AQ e
 | ins C dx fs=>obtain ⟨_,_,_,e,_⟩:=x;exact AQ e
 | own y=>obtain ⟨_,e⟩:=x;exact AQ e
 | xd fs=>obtain ⟨_,⟨_,_,_,e,_⟩,_⟩:=x;exact AQ e
 | rng lo hi=>obtain ⟨_,_,_,e⟩:=x;exact AQ e
 | frz ob u=>obtain ⟨e,_⟩:=x;exact AQ e
 | tbl ps=>exact AQ (show h.get? a=some _ from x)
 | met f y=>exact AQ (show h.get? a=some _ from x)
 | ext φ=>obtain ⟨_,⟨_,e⟩,_⟩:=x;exact AQ e
theorem Paired.mapP {α β:Type} {F G:α->β->Prop}:∀ {l₁:List α} {l₂:List β},Paired F l₁ l₂->(∀ a b,F a b->G a b)->Paired G l₁ l₂
 | _,_,.nil,_=>.nil
 | _,_,.cons r t,f=>.cons (f _ _ r) (Paired.mapP t f)
theorem CO.stay (x:CO P w H h a o) (k:∀ b u,(b=a\/H b=some (.own a))->h.get? b=some u->h'.get? b=some u)
  (ho:∀ b,H b=some (.own a)->H' b=some (.own a)) (ht:∀ b xs,H b=some (.tup xs)->H' b=some (.tup xs)):CO P w H' h' a o:=by
 induction o with
 | lst xs=>obtain ⟨z,its,n,r,e⟩:=x;exact ⟨z,its,n,r,k _ _ (.inl rfl) e⟩
 | tup xs=>obtain ⟨z,its,r,ob,e,c⟩:=x;exact ⟨z,its,r,ob,k _ _ (.inl rfl) e,c⟩
 | dK kvs=>obtain ⟨z,y,vs,r,ob,es,ep,e,c⟩:=x;exact ⟨z,y,vs,r,ob,es,ep,k _ _ (.inl rfl) e,c⟩
 | dT kvs=>
  obtain ⟨z,y,xs,r,ob,es,ep,e,c⟩:=x;exact ⟨z,y,xs,Paired.mapP r fun p q z=>⟨z.1,ht _ _ z.2.1,z.2.2⟩,ob,es,ep,k _ _ (.inl rfl) e,c⟩
 | set S n=>obtain ⟨ob,es,ep,t,e,c⟩:=x;exact ⟨ob,es,ep,t,k _ _ (.inl rfl) e,c⟩
 | ins C dx fs=>
  obtain ⟨d,z,ne,e,mA,⟨od,es,ep,e2,c⟩,r⟩:=x;exact ⟨ho _ d,z,ne,k _ _ (.inl rfl) e,mA,⟨od,es,ep,k _ _ (.inr d) e2,c⟩,r⟩
 | own y=>obtain ⟨ob,e⟩:=x;exact ⟨ob,k _ _ (.inl rfl) e⟩
 | xd fs=>obtain ⟨mA,⟨od,es,ep,e,c⟩,r⟩:=x;exact ⟨mA,⟨od,es,ep,k _ _ (.inl rfl) e,c⟩,r⟩
 | rng lo hi=>obtain ⟨t,u,v,e⟩:=x;exact ⟨t,u,v,k _ _ (.inl rfl) e⟩
 | frz ob u ih=>obtain ⟨e,q⟩:=x;exact ⟨k _ _ (.inl rfl) e,ih q⟩
 | tbl ps=>
  have e:h.get? a=some { cls:=.none,data:=.fields ps }:=x;show h'.get? a=some { cls:=.none,data:=.fields ps };exact k a _ (.inl rfl) e
 | met f y=>
  have e:h.get? a=some (PySem.W.methodObj (.ref f) (.ref y)):=x;show h'.get? a=some (PySem.W.methodObj (.ref f) (.ref y));exact k a _ (.inl rfl) e
 | ext φ=>obtain ⟨p,⟨o,e⟩,st⟩:=x;exact ⟨st _ _ p fun o q=>k _ _ (.inl rfl) q,⟨o,k _ _ (.inl rfl) e⟩,st⟩
theorem DN.lt (x:DN P w H h) (e:H a=some o):a < h.objs.size:=(x a o e).lt
theorem DN.fresh (x:DN P w H h) (e:h.objs.size<=a):H a=none:=by
 cases q:H a with
 | none=>rfl
 | some u=>exact absurd (Bd (x.lt q) e) (BO _)
theorem DN.kept (x:DN P w H h) (k:∀ b u,h.get? b=some u->h'.get? b=some u):DN P w H h':=fun a o e=>
 (x a o e).stay (fun b u _ q=>k b u q) (fun _ q=>q) fun _ _ q=>q
theorem DN.laid (x:DN P w H h) (k:∀ b u,h.get? b=some u->h'.get? b=some u) (hp:h.objs.size<=a) (new:CO P w (aB H a o) h' a o):DN P w (aB H a o) h':=fun b u e=>by
 have hn:=x.fresh hp;by_cases hb:b=a
 ·subst hb;rw [af] at e;cases e;exact new
 ·rw [az hb] at e;exact (x b u e).stay (fun c v _ q=>k c v q) (fun c q=>by rw [az (aD q hn)];exact q) fun c xs q=>by rw [az (aD q hn)];exact q
end
def Rd (H:Hp) (a:Addr) (u:HO):Prop:=H a=some u\/∃ o,H a=some (.frz o u)
variable {w:World} {P:Program}
theorem Rd.ok {u:HO} (r:Rd H a u) (x:DN P w H h):CO P w H h a u:=by
 rcases r with r|⟨o,r⟩
 ·exact x a u r
 ·obtain ⟨_,q⟩:=x a _ r;exact q
def xh:Option HO->Prop
 | some (.lst _)=>True
 | some (.dK _)=>True
 | some (.dT _)=>True
 | some (.set _ _)=>True
 | some (.ins _ _ _)=>True
 | some (.ext _)=>True
 | _=>False
section
variable {P:Program} {w:World} {H:Hp} {h h':Heap} {x e:Addr} {o':HO}
theorem DN.write (ok:DN P w H h) (mu:xh (H x)) (he:e=x\/H e=some (.own x)) (k:∀ b u,b≠e->h.get? b=some u->h'.get? b=some u) (heo:∃ u,h'.get? e=some u)
  (new:CO P w (aB H x o') h' x o'):DN P w (aB H x o') h':=fun b u q=>by
 have nown:∀ c y,H c=some (.own y)->c≠x:=fun c y r z=>by subst z;rw [r] at mu;exact mu
 have ntup:∀ c xs,H c=some (.tup xs)->c≠x:=fun c xs r z=>by subst z;rw [r] at mu;exact mu
 by_cases hb:b=x
 ·subst hb;rw [af] at q;cases q;exact new
 ·rw [az hb] at q;by_cases hbe:b=e
  ·have q':H b=some (.own x):=by
    rcases he with z|z
    ·exact absurd (hbe.trans z) hb
    ·rw [hbe];exact z
   rw [q] at q';cases q';obtain ⟨v,hv⟩:=heo;exact ⟨v,by rw [hbe];exact hv⟩
  ·refine (ok b u q).stay (fun c v hc r=>k c v ?_ r) (fun c r=>by rw [az (nown c b r)];exact r) fun c xs r=>by rw [az (ntup c xs r)];exact r
   rcases hc with rfl|hc
   ·exact hbe
   ·rintro rfl;rcases he with z|z
    ·exact nown c b hc z
    ·rw [hc] at z;cases z;exact hb rfl
end
structure Un (fs ex:List Addr) (H H':Hp) (h h':Heap):Prop where
 keep:∀ b o,h.get? b=some o->H b=none->b∉fs->b∉ex->h'.get? b=some o
 slot:∀ b o,h.get? b=some o->H b=none->b∈fs->b∉ex->∃ sl,h'.get? b=some { o with slots:=sl }
 free:∀ b o,h.get? b=some o->H b=none->b∉ex->H' b=none
 there:∀ b o,h.get? b=some o->b∉ex->∃ o',h'.get? b=some o'
 tups:∀ b xs,H b=some (.tup xs)->H' b=some (.tup xs)
 frzs:∀ b o u,H b=some (.frz o u)->H' b=some (.frz o u)
 tbls:∀ b ps,H b=some (.tbl ps)->∃ more,H' b=some (.tbl (ps++more))
section
variable {fs fs' ex ex':List Addr} {H H1 H2:Hp} {h h1 h2 h':Heap} {a x e:Addr} {o:HO}
theorem Un.any (u:Un fs ex H H1 h h1) {ob:Obj} (q:h.get? b=some ob) (n:H b=none) (hx:b∉ex):∃ sl,h1.get? b=some { ob with slots:=sl }:=by
 by_cases hb:b∈fs
 ·exact u.slot b ob q n hb hx
 ·exact ⟨ob.slots,u.keep b ob q n hb hx⟩
theorem Un.kept (k:∀ b u,h.get? b=some u->h'.get? b=some u):Un fs ex H H h h':=
 ⟨fun b ob q _ _ _=>k b ob q,fun b ob q _ _ _=>⟨ob.slots,k b ob q⟩,fun _ _ _ n _=>n,fun b ob q _=>⟨ob,k b ob q⟩,fun _ _ q=>q,fun _ _ _ q=>q,fun _ ps q=>⟨#[],by rw [q];simp⟩⟩
theorem Un.refl:Un fs ex H H h h:=Un.kept fun _ _ q=>q
theorem Un.laid (k:∀ b u,h.get? b=some u->h'.get? b=some u) (hp:h.objs.size<=a) (hn:H a=none):Un fs ex H (aB H a o) h h' where
 keep:=fun b u q _ _ _=>k b u q
 slot:=fun b u q _ _ _=>⟨u.slots,k b u q⟩
 free:=fun b u q n _=>by rw [az (AW (Bd (AQ q) hp))];exact n
 there:=fun b u q _=>⟨u,k b u q⟩
 tups:=fun b xs q=>by rw [az (aD q hn)];exact q
 frzs:=fun b u xs q=>by rw [az (aD q hn)];exact q
 tbls:=fun b ps q=>⟨#[],by rw [az (aD q hn),q];simp⟩
theorem Un.write (mu:xh (H x)) (he:e=x\/H e=some (.own x)) (k:∀ b u,b≠e->h.get? b=some u->h'.get? b=some u) (heo:∃ u,h'.get? e=some u):Un fs ex H (aB H x o) h h':=by
 have hx:∀ b,H b=none->b≠x:=fun b n z=>by subst z;rw [n] at mu;exact mu
 have hb:∀ b,H b=none->b≠e:=fun b n z=>by
  subst z;rcases he with r|r
  ·exact hx b n r
  ·rw [n] at r;cases r
 have hm:∀ b u,H b=some u->¬ xh (some u)->b≠x:=fun b u q nm z=>by subst z;rw [q] at mu;exact nm mu
 refine ⟨fun b u q n _ _=>k b u (hb b n) q,fun b u q n _ _=>⟨u.slots,k b u (hb b n) q⟩,fun b u q n _=>by rw [az (hx b n)];exact n,fun b u q _=>?_,
  fun b xs q=>by rw [az (hm b _ q fun z=>z)];exact q,fun b u xs q=>by rw [az (hm b _ q fun z=>z)];exact q,fun b ps q=>⟨#[],by rw [az (hm b _ q fun z=>z),q];simp⟩⟩
 by_cases hbe:b=e
 ·subst hbe;exact heo
 ·exact ⟨u,k b u hbe q⟩
end
def yM (h:Heap) (H:Hp):List Addr:=(List.range h.objs.size).filter fun a=>(H a).isSome
def jU (h:Heap) (H:Hp):Heap:=PySem.W.hideAll h (yM h H)
theorem ph (h:Heap) (H:Hp):(jU h H).objs.size=h.objs.size:=PySem.W.hideAll_size _ _
theorem qG {o:Obj} (e:h.get? b=some o) (n:H b=none):(jU h H).get? b=some o:=
 PySem.W.hideAll_get _ e fun hm=>by
  have q:(H b).isSome=true:=(Bc.mp hm).2;rw [n] at q;simp at q
theorem tK {o:Obj} (e:(jU h H).get? b=some o):h.get? b=some o/\H b=none:=by
 have e':h.get? b=some o:=PySem.W.of_hideAll (yM h H) e;refine ⟨e',?_⟩;cases q:H b with
 | none=>rfl
 | some x=>
  have hm:b∈yM h H:=Bc.mpr ⟨A3.mpr (AQ e'),by simp [q]⟩;have z:(jU h H).get? b=none:=PySem.W.hideAll_none (yM h H) hm;rw [z] at e;cases e
structure Mod (K:ZF) (mg:Str->Option Value) (base:Heap):Prop where
 kin:K.In base
 glob:base.Ns mainGlobals mg
 blt:∃ mb,base.Ns builtinsNs mb/\∀ x:Str,x≠"__name__"->mb x=bootBuiltins x
 nolimit:base.NoLimit
structure Cx where
 prog:Program
 w:World
 K:ZF
 mg:Str->Option Value
 base:Heap
 A:Around
 N:List Str
 s₀:Shared
 H₀:Hp
 env:Env
 outer:List Env
 stack:List Env
 ex:List Addr
 fn:Str->Bool
 calm:Bool
 pn:List (Addr×Obj)
 xe:Value->Shared->Prop
def my (l:List Env):List Addr:=l.filterMap (·.frame)
abbrev Cx.fs (X:Cx):List Addr:=my X.outer
def yU (sc:Scope) (x:Str):Prop:=sc.names.lookup x=some .local\/sc.names.lookup x=some .cell\/sc.names.lookup x=some .free
def xi (sc:Scope) (x:Str):Prop:=sc.names.lookup x=some .local\/sc.names.lookup x=some .cell
def yV (env:Env) (h:Heap) (m:Str->Option Value) (x:Str) (u:Value):Prop:=
 (env.kindOf x=some .local/\m x=some u)\/((env.kindOf x=some .cell\/env.kindOf x=some .free)/\∃ c,env.cells.lookup x=some c/\h.IsCell c (some u))
structure Cx.Ok (X:Cx):Prop where
 mod:Mod X.K X.mg X.base
 kind:X.env.scope.kind=.function
 glob:X.env.globals=mainGlobals
 blt:X.env.builtins=builtinsNs
 above:X.s₀.heap.objs.size<=X.env.locals
 inj:∀ x y c,X.env.cells.lookup x=some c->X.env.cells.lookup y=some c->x=y
 has:∀ x,(X.env.kindOf x=some .cell\/X.env.kindOf x=some .free)->∃ c,X.env.cells.lookup x=some c
 cab:∀ x c,X.fn x=true->X.env.cells.lookup x=some c->X.s₀.heap.objs.size<=c
 hd:X.calm=true->X.A.handled=none
 frames:X.A.frames=some X.stack
 stk:X.stack=X.outer\/(X.stack=X.env::X.outer/\X.env.frame=some X.env.locals)
 exf:∀ b∈X.ex,b≠X.env.locals/\∀ x c,X.env.cells.lookup x=some c->c≠b
 bs:∀ b o,X.base.get? b=some o->X.s₀.heap.get? b=some o/\X.H₀ b=none
 bsz:X.base.objs.size<=X.s₀.heap.objs.size
 noex:∀ b o,X.base.get? b=some o->b∉X.ex
 exfs:∀ b∈X.ex,b∉X.fs
 funs:X.s₀.heap.FunFrames X.base X.outer
 frf:∀ b∈X.fs,X.H₀ b=none
structure CB (X:Cx) (Cj:List (Addr×Obj)) (σ:List (Option V)) (H:Hp) (s:Shared):Prop where
 ok:X.Ok
 os:s.os=X.s₀.os
 bare:AllBare s.gens
 base:Un X.fs X.ex X.H₀ H X.s₀.heap s.heap
 loc:∃ m,s.heap.Ns X.env.locals m/\∀ (i:Nat) (x:Str) (v:V),X.N[i]?=some x->σ[i]?=some (some v)->yU X.env.scope x->∃ u,CG v u/\yV X.env s.heap m x u
 cell:∀ x c,X.env.cells.lookup x=some c->∃ v,s.heap.IsCell c v
 free:H X.env.locals=none
 freeC:∀ x c,X.env.cells.lookup x=some c->H c=none
 pin:∀ p∈X.pn++Cj,s.heap.get? p.1=some p.2/\H p.1=none/\p.1≠X.env.locals/\p.1∉X.fs/\∀ v,p.2.data≠.cell v
 hok:DN X.prog X.w H s.heap
 len:σ.length=X.N.length
section
variable {X:Cx} {Cj:List (Addr×Obj)} {σ:List (Option V)} {H H':Hp} {s:Shared} {h':Heap}
theorem Cx.Ok.nofr (ok:X.Ok) {o:Obj} (e:X.base.get? b=some o):b∉X.fs:=fun hb=>by
 have:=(ok.funs.mem hb).1;rw [e] at this;cases this
theorem CB.bs (I:CB X Cj σ H s):∀ b o,X.base.get? b=some o->s.heap.get? b=some o/\H b=none:=fun b o e=>
 ⟨I.base.keep b o (I.ok.bs b o e).1 (I.ok.bs b o e).2 (I.ok.nofr e) (I.ok.noex b o e),I.base.free b o (I.ok.bs b o e).1 (I.ok.bs b o e).2 (I.ok.noex b o e)⟩
theorem CB.bk (I:CB X Cj σ H s):∀ b o,X.base.get? b=some o->s.heap.get? b=some o:=fun b o e=>(I.bs b o e).1
theorem CB.mod (I:CB X Cj σ H s):Mod X.K X.mg X.base:=I.ok.mod
theorem CB.kIn (I:CB X Cj σ H s):X.K.In s.heap:=I.ok.mod.kin.keeps I.bk
theorem CB.lt (I:CB X Cj σ H s):X.env.locals < s.heap.objs.size:=let ⟨_,hn,_⟩:=I.loc;hn.lt
theorem CB.sz (I:CB X Cj σ H s):X.s₀.heap.objs.size<=s.heap.objs.size:=A8 I.ok.above (Cb I.lt)
theorem CB.nofs (I:CB X Cj σ H s) (h:s.heap.objs.size<=a):a∉X.fs:=fun hb=>by
 obtain ⟨_,o,ho,_⟩:=I.ok.funs.mem hb;exact absurd (Bd (AQ ho) (A8 I.sz h)) (BO _)
theorem CB.cne (I:CB X Cj σ H s):∀ x c,X.env.cells.lookup x=some c->c≠X.env.locals:=fun x c e z=>by
 obtain ⟨v,o,ho,hd⟩:=I.cell x c e;obtain ⟨m,⟨o',es,ep,ho',hd',_⟩,_⟩:=I.loc;rw [z,ho'] at ho;cases ho;rw [hd'] at hd;cases hd
theorem CB.funs (I:CB X Cj σ H s):s.heap.FunFrames X.base X.outer:=by
 have all:∀ (l:List Env),(∀ b∈my l,b∈X.fs)->X.s₀.heap.FunFrames X.base l->s.heap.FunFrames X.base l:=by
  intro l;induction l with
  | nil=>intro _ _;trivial
  | cons env r ih=>
   intro hs hl;obtain ⟨hk,⟨L,o,hf,hn,ho,hd⟩,hr⟩:=hl;have hL:L∈X.fs:=hs L (by unfold my;rw [List.filterMap_cons,hf];exact AX);obtain ⟨sl,e⟩:=I.base.slot L o ho (I.ok.frf L hL) hL fun z=>I.ok.exfs L z hL;exact ⟨hk,⟨L,_,hf,hn,e,hd⟩,ih (fun b hb=>hs b (by unfold my;rw [List.filterMap_cons,hf];exact A2 _ hb)) hr⟩
 exact all X.outer (fun _ hb=>hb) I.ok.funs
theorem CB.stack (I:CB X Cj σ H s):s.heap.FunFrames X.base X.stack:=by
 rcases I.ok.stk with e|⟨e,hf⟩
 ·rw [e];exact I.funs
 ·rw [e];obtain ⟨m,hn,_⟩:=I.loc;refine .cons (by rw [I.ok.kind];decide) hf hn ?_ I.funs;exact Heap.get?_none_of_le (A8 I.ok.bsz I.ok.above)
theorem CB.stkSub (I:CB X Cj σ H s):∀ b∈my X.stack,b∈X.env.locals::X.fs:=fun b hb=>by
 rcases I.ok.stk with e|⟨e,hf⟩
 ·rw [e] at hb;exact A2 _ hb
 ·rw [e] at hb;unfold my at hb;rw [List.filterMap_cons,hf] at hb;exact hb
theorem CB.stkFree (I:CB X Cj σ H s):∀ b∈my X.stack,H b=none:=fun b hb=>by
 rcases AZ.mp (I.stkSub b hb) with e|hb
 ·rw [e];exact I.free
 ·obtain ⟨_,o,ho,_⟩:=I.ok.funs.mem hb;exact I.base.free b o ho (I.ok.frf b hb) fun z=>I.ok.exfs b z hb
theorem CB.step {g':Array GenState} {t':Nat} {d':Drawn} {ch:List Addr} (I:CB X Cj σ H s)
  (hch:∀ b∈ch,(b∈X.ex\/X.s₀.heap.objs.size<=b)/\b≠X.env.locals/\(∀ x c,X.env.cells.lookup x=some c->c≠b)/\∀ p∈X.pn++Cj,p.1≠b)
  (keep:∀ b o,b≠X.env.locals->b∉X.fs->b∉ch->s.heap.get? b=some o->H b=none->h'.get? b=some o)
  (slot:∀ b o,b≠X.env.locals->b∈X.fs->b∉ch->s.heap.get? b=some o->H b=none->∃ sl,h'.get? b=some { o with slots:=sl }) (free:∀ b o,b∉ch->s.heap.get? b=some o->H b=none->H' b=none)
  (there:∀ b o,b∉ch->s.heap.get? b=some o->∃ o',h'.get? b=some o')
  (tups:∀ b xs,H b=some (.tup xs)->H' b=some (.tup xs)) (frzs:∀ b o u,H b=some (.frz o u)->H' b=some (.frz o u)) (tbls:∀ b ps,H b=some (.tbl ps)->∃ more,H' b=some (.tbl (ps++more)))
  (ns:∀ m,s.heap.Ns X.env.locals m->h'.Ns X.env.locals m) (hok:DN X.prog X.w H' h') (hg:AllBare g') :
  CB X Cj σ H' { s with heap:=h',gens:=g',drawn:=d',toks:=t' }:=by
 have neL:∀ b o,X.s₀.heap.get? b=some o->b≠X.env.locals:=fun b o e=>AW (Bd (AQ e) I.ok.above);have neC:∀ b o,X.s₀.heap.get? b=some o->b∉X.ex->b∉ch:=fun b o e hx hb=>by
  rcases (hch b hb).1 with z|z
  ·exact hx z
  ·exact absurd (Bd (AQ e) z) (BO _)
 have cellK:∀ x c,X.env.cells.lookup x=some c->∀ v,s.heap.IsCell c v->h'.IsCell c v:=fun x c e v ⟨o,ho,hd⟩=>by
  have nch:c∉ch:=fun z=>(hch c z).2.2.1 x c e rfl;by_cases hc:c∈X.fs
  ·obtain ⟨sl,q⟩:=slot c o (I.cne x c e) hc nch ho (I.freeC x c e);exact ⟨_,q,hd⟩
  ·exact ⟨o,keep c o (I.cne x c e) hc nch ho (I.freeC x c e),hd⟩
 refine ⟨I.ok,I.os,hg,⟨fun b o e n hb hx=>?_,fun b o e n hb hx=>?_,fun b o e n hx=>?_,fun b o e hx=>?_,fun b xs e=>tups b xs (I.base.tups b xs e),fun b o xs e=>frzs b o xs (I.base.frzs b o xs e),fun b ps e=>?_⟩,?_,fun x c e=>?_,?_,fun x c e=>?_,fun p hp=>?_,hok,I.len⟩
 ·exact keep b o (neL b o e) hb (neC b o e hx) (I.base.keep b o e n hb hx) (I.base.free b o e n hx)
 ·obtain ⟨sl,e1⟩:=I.base.slot b o e n hb hx;obtain ⟨sl',e2⟩:=slot b _ (neL b o e) hb (neC b o e hx) e1 (I.base.free b o e n hx);exact ⟨sl',e2⟩
 ·obtain ⟨o',e1⟩:=I.base.there b o e hx;exact free b o' (neC b o e hx) e1 (I.base.free b o e n hx)
 ·obtain ⟨o',e1⟩:=I.base.there b o e hx;exact there b o' (neC b o e hx) e1
 ·obtain ⟨m1,e1⟩:=I.base.tbls b ps e;obtain ⟨m2,e2⟩:=tbls b _ e1;exact ⟨m1++m2,by rw [e2,Array.append_assoc]⟩
 ·obtain ⟨m,hn,hl⟩:=I.loc;refine ⟨m,ns m hn,fun i x v e1 e2 e3=>?_⟩;obtain ⟨u,r,l⟩:=hl i x v e1 e2 e3;refine ⟨u,r,?_⟩;rcases l with l|⟨k,c,e,z⟩
  ·exact .inl l
  ·exact .inr ⟨k,c,e,cellK x c e _ z⟩
 ·obtain ⟨v,z⟩:=I.cell x c e;exact ⟨v,cellK x c e v z⟩
 ·obtain ⟨m,⟨o,_,_,ho,_⟩,_⟩:=I.loc;exact free _ o (fun z=>(hch _ z).2.1 rfl) ho I.free
 ·obtain ⟨v,o,ho,hd⟩:=I.cell x c e;exact free c o (fun z=>(hch c z).2.2.1 x c e rfl) ho (I.freeC x c e)
 ·obtain ⟨e,n,ne,nf,d⟩:=I.pin p hp;have nch:p.1∉ch:=fun z=>(hch p.1 z).2.2.2 p hp rfl;exact ⟨keep p.1 p.2 ne nf nch e n,free p.1 p.2 nch e n,ne,nf,d⟩
theorem CB.un {t':Nat} (I:CB X Cj σ H s) (u:Un X.fs [] H H' s.heap h') (hok:DN X.prog X.w H' h'):CB X Cj σ H' { s with heap:=h',toks:=t' }:=by
 obtain ⟨m,⟨o,es,ep,ho,r⟩,_⟩:=id I.loc;obtain ⟨sl,hL⟩:=u.any ho I.free (by simp);exact I.step (g':=s.gens) (d':=s.drawn) (ch:=[]) (fun _ z=>nomatch z) (fun b o _ hb _ e n=>u.keep b o e n hb (by simp)) (fun b o _ hb _ e n=>u.slot b o e n hb (by simp)) (fun b o _ e n=>u.free b o e n (by simp)) (fun b o _ e=>u.there b o e (by simp)) u.tups u.frzs u.tbls (fun m' hm=>by
  obtain ⟨o',es',ep',ho',r'⟩:=hm;rw [ho] at ho';cases ho';exact ⟨_,es',ep',hL,r'⟩) hok I.bare
variable {ch:List Addr}
theorem CB.call {g':Array GenState} {t':Nat} {d':Drawn} (I:CB X Cj σ H s) (u:Un (my X.stack) ch H H' s.heap h') (hok:DN X.prog X.w H' h') (hg:AllBare g')
  (hch:∀ b∈ch,(b∈X.ex\/X.s₀.heap.objs.size<=b)/\b≠X.env.locals/\(∀ x c,X.env.cells.lookup x=some c->c≠b)/\∀ p∈X.pn++Cj,p.1≠b) :
  CB X Cj σ H' { s with heap:=h',gens:=g',drawn:=d',toks:=t' }:=by
 obtain ⟨m,⟨o,es,ep,ho,r⟩,_⟩:=id I.loc;obtain ⟨sl,hL⟩:=u.any ho I.free fun z=>(hch _ z).2.1 rfl;exact I.step (ch:=ch) hch (fun b o hL hb hc e n=>u.keep b o e n (fun z=>(AZ.mp (I.stkSub b z)).elim hL hb) hc) (fun b o _ _ hc e n=>u.any e n hc) (fun b o hc e n=>u.free b o e n hc) (fun b o hc e=>u.there b o e hc) u.tups u.frzs u.tbls (fun m' hm=>by
  obtain ⟨o',es',ep',ho',r'⟩:=hm;rw [ho] at ho';cases ho';exact ⟨_,es',ep',hL,r'⟩) hok hg
theorem CB.turned {t':Nat} {it:Addr} (I:CB X Cj σ H s) (k:∀ b o,b≠it->s.heap.get? b=some o->h'.get? b=some o) (hn:H it=none) (hL:it≠X.env.locals)
  (h1:it∈X.ex\/X.s₀.heap.objs.size<=it) (h2:∀ x c,X.env.cells.lookup x=some c->c≠it) (h3:∀ p∈X.pn++Cj,p.1≠it):CB X Cj σ H { s with heap:=h',toks:=t' }:=by
 have nit:∀ b u,H b=some u->b≠it:=fun b u e z=>by rw [z,hn] at e;cases e
 refine I.step (g':=s.gens) (d':=s.drawn) (ch:=[it]) (fun b hb=>?_) (fun b o _ _ hc e _=>k b o (fun z=>hc (by simp [z])) e) (fun b o _ _ hc e _=>⟨o.slots,k b o (fun z=>hc (by simp [z])) e⟩) (fun _ _ _ _ n=>n)
  (fun b o hc e=>⟨o,k b o (fun z=>hc (by simp [z])) e⟩) (fun _ _ e=>e) (fun _ _ _ e=>e) (fun b ps e=>⟨#[],by rw [e];simp⟩) (fun m hm=>?_) (fun b u e=>?_) I.bare
 ·have e:b=it:=by simpa using hb
  subst e;exact ⟨h1,hL,h2,h3⟩
 ·obtain ⟨o,es,ep,ho,r⟩:=hm;exact ⟨o,es,ep,k _ o (Ne.symm hL) ho,r⟩
 ·refine (I.hok b u e).stay (fun c v hc q=>k c v ?_ q) (fun _ q=>q) fun _ _ q=>q;rcases hc with z|z
  ·rw [z];exact nit b u e
  ·exact nit c _ z
theorem CB.tok (I:CB X Cj σ H s) (t:Nat):CB X Cj σ H { s with toks:=t }:=I.un (h':=s.heap) (t':=t) Un.refl I.hok
theorem CB.kept {t':Nat} (I:CB X Cj σ H s) (k:∀ b u,s.heap.get? b=some u->h'.get? b=some u):CB X Cj σ H { s with heap:=h',toks:=t' }:=I.un (Un.kept k) (I.hok.kept k)
theorem CB.laid {t':Nat} (I:CB X Cj σ H s) (k:∀ b u,s.heap.get? b=some u->h'.get? b=some u) (hp:s.heap.objs.size<=a) (new:CO X.prog X.w (aB H a o) h' a o) :
  CB X Cj σ (aB H a o) { s with heap:=h',toks:=t' }:=I.un (Un.laid k hp (I.hok.fresh hp)) (I.hok.laid k hp new)
theorem CB.write {x e:Addr} {o:HO} {t':Nat} (I:CB X Cj σ H s) (mu:xh (H x)) (he:e=x\/H e=some (.own x)) (k:∀ b u,b≠e->s.heap.get? b=some u->h'.get? b=some u) (heo:∃ u,h'.get? e=some u)
  (new:CO X.prog X.w (aB H x o) h' x o):CB X Cj σ (aB H x o) { s with heap:=h',toks:=t' }:=I.un (Un.write mu he k heo) (I.hok.write mu he k heo new)
theorem CB.weak {σ':List (Option V)} (I:CB X Cj σ H s) (hl:σ'.length=σ.length) (w:∀ (i:Nat) v,σ'[i]?=some (some v)->σ[i]?=some (some v)):CB X Cj σ' H s:=
 ⟨I.ok,I.os,I.bare,I.base,let ⟨m,hn,hl'⟩:=I.loc;⟨m,hn,fun i x v e1 e2 e3=>hl' i x v e1 (w i v e2) e3⟩,I.cell,I.free,I.freeC,I.pin,I.hok,hl.trans I.len⟩
theorem CB.pins_of {pins':List (Addr×Obj)} (I:CB X Cj σ H s) (h:∀ p∈pins',s.heap.get? p.1=some p.2/\H p.1=none/\p.1≠X.env.locals/\p.1∉X.fs/\∀ v,p.2.data≠.cell v):CB X pins' σ H s:=
 ⟨I.ok,I.os,I.bare,I.base,I.loc,I.cell,I.free,I.freeC,fun p hp=>(BA.mp hp).elim (fun z=>I.pin p (BL _ z)) (h p),I.hok,I.len⟩
variable {i j:Nat}
theorem kU {N:List Str} (hN:N.Nodup) {x:Str} (a:N[i]?=some x) (b:N[j]?=some x):i=j:=by
 obtain ⟨h1,e1⟩:=AN.mp a;obtain ⟨h2,e2⟩:=AN.mp b;exact (List.getElem_inj hN).mp (e1.trans e2.symm)
variable {v:V}
theorem gi {M:Model} {A:Around} {E:Value->Shared->Prop} {x:Str} {Q:Unit->Shared->Prop} (I:CB X Cj σ H s) (hN:X.N.Nodup) (hi:X.N[i]?=some x) (hx:xi X.env.scope x) (r:CG v u)
  (h:∀ s',CB X Cj (σ.set i (some v)) H s'->(∃ a,Heap.SameBut a s.heap s'.heap/\(a=X.env.locals\/X.env.cells.lookup x=some a))->Q () s') (hf:X.fn x=true\/X.env.scope.names.lookup x=some .local:=by first|exact .inl rfl|exact .inr rfl|assumption):wpAny M A (storeName X.env x u) Q E s:=by
 obtain ⟨m,hn,hl⟩:=id I.loc;have hcls:(X.env.scope.kind == .class || (X.env.scope.kind == .module && X.env.locals != X.env.globals))=false:=by rw [I.ok.kind];rfl
 have hiσ:i < σ.length:=by rw [I.len];exact (AN.mp hi).1
 have cne:=I.cne;have tracked:∀ {a:Addr} {h':Heap},(∃ o,s.heap.get? a=some o/\H a=none)->Heap.SameBut a s.heap h'->DN X.prog X.w H h':=fun {a h'} ha hs b ob e=>by
  obtain ⟨_,_,hfree⟩:=ha;refine (I.hok b ob e).stay (fun c w' hc q=>(hs.2 c ?_).trans q) (fun _ q=>q) fun _ _ q=>q;rintro rfl;rcases hc with rfl|hc
  ·rw [hfree] at e;cases e
  ·rw [hfree] at hc;cases hc
 rcases hx with hk|hk
 ·refine wpAny_storeName_local hk hn (fun h' hn' hs=>?_) hcls;obtain ⟨oL,_,_,hoL,_⟩:=id hn;refine h _ ⟨I.ok,I.os,I.bare,⟨fun b o e n hb hx=>?_,fun b o e n hb hx=>?_,I.base.free,fun b o e hx=>?_,I.base.tups,I.base.frzs,I.base.tbls⟩,⟨_,hn',fun j y v' e1 e2 e3=>?_⟩,fun y c e=>?_,I.free,I.freeC,fun p hp=>?_,tracked ⟨oL,hoL,I.free⟩ hs,by simpa using I.len⟩ ⟨_,hs,.inl rfl⟩
  ·exact (hs.2 b (AW (Bd (AQ e) I.ok.above))).trans (I.base.keep b o e n hb hx)
  ·obtain ⟨sl,e1⟩:=I.base.slot b o e n hb hx;exact ⟨sl,(hs.2 b (AW (Bd (AQ e) I.ok.above))).trans e1⟩
  ·obtain ⟨o',e1⟩:=I.base.there b o e hx;exact ⟨o',(hs.2 b (AW (Bd (AQ e) I.ok.above))).trans e1⟩
  ·by_cases hj:j=i
   ·subst hj;rw [hi] at e1;cases e1;rw [List.getElem?_set_self hiσ] at e2;cases e2;exact ⟨u,r,.inl ⟨hk,by simp⟩⟩
   ·rw [List.getElem?_set_ne (Ne.symm hj)] at e2;obtain ⟨u',r',q⟩:=hl j y v' e1 e2 e3;refine ⟨u',r',?_⟩;rcases q with ⟨k,e⟩|⟨k,c,e,z⟩
    ·refine .inl ⟨k,?_⟩;have:y≠x:=fun e=>hj (kU hN e1 (e ▸ hi));simp [this,e]
    ·exact .inr ⟨k,c,e,z.sameBut hs (cne y c e)⟩
  ·obtain ⟨w',z⟩:=I.cell y c e;exact ⟨w',z.sameBut hs (cne y c e)⟩
  ·obtain ⟨e,n,ne,nf,d⟩:=I.pin p hp;exact ⟨(hs.2 p.1 ne).trans e,n,ne,nf,d⟩
 ·have hfn:X.fn x=true:=by
   rcases hf with z|z
   ·exact z
   ·rw [z] at hk;cases hk
  obtain ⟨c,hc⟩:=I.ok.has x (.inl hk);obtain ⟨w',z⟩:=I.cell x c hc;refine wpAny_storeName_cell I.ok.kind hk hc z (fun h' hc' hs=>?_);obtain ⟨oc,hoc,hocd⟩:=id z;refine h { s with heap:=h' } ⟨I.ok,I.os,I.bare,⟨fun b o e n hb hx=>?_,fun b o e n hb hx=>?_,I.base.free,fun b o e hx=>?_,I.base.tups,I.base.frzs,I.base.tbls⟩,⟨m,hn.sameBut hs (Ne.symm (cne x c hc)),fun j y v' e1 e2 e3=>?_⟩,fun y c' e=>?_,I.free,I.freeC,fun p hp=>?_,tracked ⟨oc,hoc,I.freeC x c hc⟩ hs,by simpa using I.len⟩ ⟨c,hs,.inr hc⟩
  ·exact (hs.2 b (AW (Bd (AQ e) (I.ok.cab x c hfn hc)))).trans (I.base.keep b o e n hb hx)
  ·obtain ⟨sl,e1⟩:=I.base.slot b o e n hb hx;exact ⟨sl,(hs.2 b (AW (Bd (AQ e) (I.ok.cab x c hfn hc)))).trans e1⟩
  ·obtain ⟨o',e1⟩:=I.base.there b o e hx;exact ⟨o',(hs.2 b (AW (Bd (AQ e) (I.ok.cab x c hfn hc)))).trans e1⟩
  ·by_cases hj:j=i
   ·subst hj;rw [hi] at e1;cases e1;rw [List.getElem?_set_self hiσ] at e2;cases e2;exact ⟨u,r,.inr ⟨.inl hk,c,hc,hc'⟩⟩
   ·rw [List.getElem?_set_ne (Ne.symm hj)] at e2;obtain ⟨u',r',q⟩:=hl j y v' e1 e2 e3;refine ⟨u',r',?_⟩;rcases q with q|⟨k,c',e,z'⟩
    ·exact .inl q
    ·refine .inr ⟨k,c',e,z'.sameBut hs ?_⟩;rintro rfl;exact hj (kU hN e1 (I.ok.inj _ _ _ e hc ▸ hi))
  ·by_cases hcc:c'=c
   ·subst hcc;exact ⟨_,hc'⟩
   ·obtain ⟨w2,z2⟩:=I.cell y c' e;exact ⟨w2,z2.sameBut hs hcc⟩
  ·obtain ⟨e,n,ne,nf,d⟩:=I.pin p hp;refine ⟨(hs.2 p.1 ?_).trans e,n,ne,nf,d⟩;intro q;rw [q,hoc] at e;have q':oc=p.2:=Be e;exact d w' (by rw [<-q'];exact hocd)
theorem kW {M:Model} {A:Around} {E:Value->Shared->Prop} {x:Str} {Q:Unit->Shared->Prop} (I:CB X Cj σ H s) (hN:X.N.Nodup) (hi:X.N[i]?=some x) (hx:xi X.env.scope x) (r:CG v u)
  (h:∀ s',CB X Cj (σ.set i (some v)) H s'->Q () s') (hf:X.fn x=true\/X.env.scope.names.lookup x=some .local:=by first|exact .inl rfl|exact .inr rfl|assumption):wpAny M A (storeName X.env x u) Q E s:=
 gi I hN hi hx r (fun s' I' _=>h s' I') hf
theorem CB.call' {s':Shared} (I:CB X Cj σ H s) (ho:s'.os=s.os) (u:Un (my X.stack) ch H H' s.heap s'.heap) (hok:DN X.prog X.w H' s'.heap) (hg:AllBare s'.gens)
  (hch:∀ b∈ch,(b∈X.ex\/X.s₀.heap.objs.size<=b)/\b≠X.env.locals/\(∀ x c,X.env.cells.lookup x=some c->c≠b)/\∀ p∈X.pn++Cj,p.1≠b):CB X Cj σ H' s':=by
 obtain ⟨h',g',d',t',o'⟩:=s';have e:o'=s.os:=ho;subst e;exact I.call (g':=g') (t':=t') (d':=d') u hok hg hch
end
abbrev XK:=Value->Option Addr->Hp->Prop
abbrev St:=List (Option V)
abbrev VK:=V->Hp->Prop
abbrev TE:=St->Hp->VK->Prop
abbrev TT:=St->Hp->(Bool->Hp->Prop)->Prop
abbrev TA:=St->Hp->(List V->Hp->Prop)->Prop
structure eX where
 nx:St->Hp->Prop
 rt:VK
 bk:St->Hp->Prop:=fun _ _=>False
 ct:St->Hp->Prop:=fun _ _=>False
abbrev TS:=eX->St->Hp->Prop
inductive EP (X:Cx) (Cj:List (Addr×Obj)) (σ:St) (Q:VK) (u:Value) (s':Shared):Prop
 | mk (v H':_):CB X Cj σ H' s'->CG v u->Q v H'->EP X Cj σ Q u s'
def TP (X:Cx) (Cj:List (Addr×Obj)) (σ:St) (Q:Bool->Hp->Prop) (b:Bool) (s':Shared):Prop:=∃ H',CB X Cj σ H' s'/\Q b H'
inductive AP (X:Cx) (Cj:List (Addr×Obj)) (σ:St) (Q:List V->Hp->Prop) (us:List Value) (s':Shared):Prop
 | mk (vs H':_):CB X Cj σ H' s'->CD vs us->Q vs H'->AP X Cj σ Q us s'
def SP (X:Cx) (Cj:List (Addr×Obj)) (D:eX) (f:Flow) (s':Shared):Prop:=
 match f with
 | .next=>∃ σ' H',CB X Cj σ' H' s'/\D.nx σ' H'
 | .brk=>∃ σ' H',CB X Cj σ' H' s'/\D.bk σ' H'
 | .cont=>∃ σ' H',CB X Cj σ' H' s'/\D.ct σ' H'
 | .ret u=>∃ v σ' H',CB X Cj σ' H' s'/\CG v u/\D.rt v H'
structure PE (X:Cx) (e:Expr) (t:TE):Prop where
 run:∀ (Cj:List (Addr×Obj)) (s:Shared) (σ:St) (H:Hp) (Q:VK),CB X Cj σ H s->t σ H Q->wpAny (model X.prog X.w) X.A (eval e X.env) (EP X Cj σ Q) X.xe s
instance {X:Cx} {e:Expr} {t:TE}:CoeFun (PE X e t) fun _=>∀ (Cj:List (Addr×Obj)) (s:Shared) (σ:St) (H:Hp) (Q:VK),CB X Cj σ H s->t σ H Q->wpAny (model X.prog X.w) X.A (eval e X.env) (EP X Cj σ Q) X.xe s:=⟨PE.run⟩
structure PT (X:Cx) (e:Expr) (t:TT):Prop where
 run:∀ (Cj:List (Addr×Obj)) (s:Shared) (σ:St) (H:Hp) (Q:Bool->Hp->Prop),CB X Cj σ H s->t σ H Q->wpAny (model X.prog X.w) X.A (isTrue e X.env (eval e X.env)) (TP X Cj σ Q) X.xe s
instance {X:Cx} {e:Expr} {t:TT}:CoeFun (PT X e t) fun _=>∀ (Cj:List (Addr×Obj)) (s:Shared) (σ:St) (H:Hp) (Q:Bool->Hp->Prop),CB X Cj σ H s->t σ H Q->wpAny (model X.prog X.w) X.A (isTrue e X.env (eval e X.env)) (TP X Cj σ Q) X.xe s:=⟨PT.run⟩
structure PW (X:Cx) (e:Expr) (t:TT):Prop where
 run:∀ (whole:Sem Value) (Cj:List (Addr×Obj)) (s:Shared) (σ:St) (H:Hp) (Q:Bool->Hp->Prop),CB X Cj σ H s->t σ H Q->wpAny (model X.prog X.w) X.A (isTrue e X.env whole) (TP X Cj σ Q) X.xe s
instance {X:Cx} {e:Expr} {t:TT}:CoeFun (PW X e t) fun _=>∀ (whole:Sem Value) (Cj:List (Addr×Obj)) (s:Shared) (σ:St) (H:Hp) (Q:Bool->Hp->Prop),CB X Cj σ H s->t σ H Q->wpAny (model X.prog X.w) X.A (isTrue e X.env whole) (TP X Cj σ Q) X.xe s:=⟨PW.run⟩
variable {e:Expr} {X:Cx}
theorem PW.pt {t:TT} (h:PW X e t):PT X e t:=⟨fun Cj s σ H Q I q=>h _ Cj s σ H Q I q⟩
structure PA (X:Cx) (es:List Expr) (t:TA):Prop where
 run:∀ (pos:Pos) (Cj:List (Addr×Obj)) (s:Shared) (σ:St) (H:Hp) (Q:List V->Hp->Prop),CB X Cj σ H s->t σ H Q->wpAny (model X.prog X.w) X.A (spliced (backTo pos (starEach es X.env))) (AP X Cj σ Q) X.xe s
instance {X:Cx} {es:List Expr} {t:TA}:CoeFun (PA X es t) fun _=>∀ (pos:Pos) (Cj:List (Addr×Obj)) (s:Shared) (σ:St) (H:Hp) (Q:List V->Hp->Prop),CB X Cj σ H s->t σ H Q->wpAny (model X.prog X.w) X.A (spliced (backTo pos (starEach es X.env))) (AP X Cj σ Q) X.xe s:=⟨PA.run⟩
structure PS (X:Cx) (st:Stmt) (t:TS):Prop where
 run:∀ (Cj:List (Addr×Obj)) (s:Shared) (σ:St) (H:Hp) (D:eX),CB X Cj σ H s->t D σ H->wpAny (model X.prog X.w) X.A (exec st X.env) (SP X Cj D) X.xe s
instance {X:Cx} {st:Stmt} {t:TS}:CoeFun (PS X st t) fun _=>∀ (Cj:List (Addr×Obj)) (s:Shared) (σ:St) (H:Hp) (D:eX),CB X Cj σ H s->t D σ H->wpAny (model X.prog X.w) X.A (exec st X.env) (SP X Cj D) X.xe s:=⟨PS.run⟩
structure Fv (X:Cx) (st:List Stmt) (t:TS):Prop where
 run:∀ (Cj:List (Addr×Obj)) (s:Shared) (σ:St) (H:Hp) (D:eX),CB X Cj σ H s->t D σ H->wpAny (model X.prog X.w) X.A (execs st X.env) (SP X Cj D) X.xe s
instance {X:Cx} {st:List Stmt} {t:TS}:CoeFun (Fv X st t) fun _=>∀ (Cj:List (Addr×Obj)) (s:Shared) (σ:St) (H:Hp) (D:eX),CB X Cj σ H s->t D σ H->wpAny (model X.prog X.w) X.A (execs st X.env) (SP X Cj D) X.xe s:=⟨Fv.run⟩
variable {s:Shared} {E:Value->Shared->Prop} {A:Around} {M:Model}
theorem bA {α:Type} {t:Sem α} {Q Q':α->Shared->Prop} (h:wpAny M A t Q E s) (hQ:∀ a s,Q a s->Q' a s):wpAny M A t Q' E s:=wpAny_mono h hQ fun _ _ x=>x
section
variable {X:Cx}
inductive gY (i:Nat) (σ:St) (H:Hp) (Q:VK):Prop
 | mk (v:_):σ[i]?=some (some v)->Q v H->gY i σ H Q
def tC (v:V):TE:=fun _ H Q=>Q v H
variable {pos:Pos}
theorem vB {i:Nat} {x:Str} (hN:X.N[i]?=some x) (hv:yU X.env.scope x) (hd:(x == ("__debug__":Str))=false:=by decide) (hcd:(x == ("__classdict__":Str))=false:=by decide):PE X (.Name x pos) (gY i):=by
 refine ⟨?_⟩;intro Cj s σ H Q I h;obtain ⟨v,e,h⟩:=h;obtain ⟨m,hn,hl⟩:=I.loc;obtain ⟨u,r,l⟩:=hl i x v hN e hv;have fin:EP X Cj σ Q u s:=⟨v,H,I,r,h⟩;rcases l with ⟨hk,hm⟩|⟨hk,c,hc,hcell⟩
 ·exact wpAny_Name (wpAny_loadName_local I.ok.kind hk hn hm fin) hd
 ·rcases hk with hk|hk
  ·exact wpAny_Name (wpAny_loadName_cell I.ok.kind hk hc hcell fin) hd
  ·exact wpAny_Name (wpAny_loadName_free I.ok.kind hk hc hcell fin hcd) hd
theorem ag {i j pos}:PE X (.Constant (.int i) j pos) (tC (.int i)):=⟨fun _ _ _ H _ I h=>wpAny_Constant_int ⟨.int i,H,I.tok _,⟨_,rfl⟩,h⟩⟩
theorem bG {b j pos}:PE X (.Constant (.bool b) j pos) (tC (.bl b)):=⟨fun _ _ _ H _ I h=>Constant_bool ⟨.bl b,H,I,rfl,h⟩⟩
theorem ik {j pos}:PE X (.Constant .none j pos) (tC .non):=⟨fun _ _ _ H _ I h=>Constant_none ⟨.non,H,I,rfl,h⟩⟩
theorem aI {x j pos}:PE X (.Constant (.str x) j pos) (tC (.str x)):=⟨fun _ _ _ H _ I h=>Calls.Constant_str ⟨.str x,H,I.tok _,⟨_,rfl⟩,h⟩⟩
def Gl (X:Cx) (x:Str):Prop:=X.env.kindOf x=some .globalImplicit
variable {Q:Value->Shared->Prop} {σ:St} {Cj:List (Addr×Obj)}
theorem hJ {E:Value->Shared->Prop} {x:Str} {pos:Pos} (I:CB X Cj σ H s) (hg:Gl X x) (hm:X.mg x=some u) (h:Q u s)
  (hd:(x == ("__debug__":Str))=false:=by decide):wpAny (model X.prog X.w) X.A (eval (.Name x pos) X.env) Q E s:=
 Calls.Name_function_global I.ok.kind hg (Calls.loadGlobal_global (by rw [I.ok.glob];exact I.mod.glob.keeps I.bk) hm h) hd
theorem c8 {E:Value->Shared->Prop} {x:Str} {pos:Pos} (I:CB X Cj σ H s) (hg:Gl X x) (hm:X.mg x=none) (hv:bootBuiltins x=some u) (h:Q u s)
  (hn:x≠"__name__":=by decide) (hd:(x == ("__debug__":Str))=false:=by decide):wpAny (model X.prog X.w) X.A (eval (.Name x pos) X.env) Q E s:=by
 obtain ⟨mb,h1,h2⟩:=I.mod.blt;exact Calls.Name_function_global I.ok.kind hg (Calls.loadGlobal_builtin (by rw [I.ok.glob];exact I.mod.glob.keeps I.bk) hm (by rw [I.ok.blt];exact h1.keeps I.bk) ((h2 x hn).trans hv) h) hd
variable {v:V}
theorem fE {x:Str} (hg:Gl X x) (hm:X.mg x=some u) (r:CG v u) (hd:(x == ("__debug__":Str))=false:=by decide):PE X (.Name x pos) (tC v):=
 ⟨fun _ _ _ H _ I h=>hJ I hg hm ⟨v,H,I,r,h⟩ hd⟩
theorem tL {x:Str} (hg:Gl X x) (hm:X.mg x=none) (hv:bootBuiltins x=some u) (r:CG v u) (hn:x≠"__name__":=by decide) (hd:(x == ("__debug__":Str))=false:=by decide):PE X (.Name x pos) (tC v):=
 ⟨fun _ _ _ H _ I h=>c8 I hg hm hv ⟨v,H,I,r,h⟩ hn hd⟩
variable {a b:Expr} {ta tb:TE} {pos:Pos}
def PC (X:Cx) (op:CmpOp) (a b:Expr) (t:TE):Prop:=
 ∀ (Cj:List (Addr×Obj)) (s:Shared) (σ:St) (H:Hp) (Q:VK),CB X Cj σ H s->t σ H Q->
  wpAny (model X.prog X.w) X.A (eval a X.env) (fun v s₁=>wpAny (model X.prog X.w) X.A (eval b X.env) (fun u s₂=>wpAny (model X.prog X.w) X.A (compareOp op v u) (EP X Cj σ Q) X.xe s₂) X.xe s₁) X.xe s
inductive zT (Q:Bool->Hp->Prop) (x:V) (H1:Hp):Prop
 | mk (c:_):x=.bl c->Q c H1->zT Q x H1
def tB (t:TE):TT:=fun σ H Q=>t σ H fun x H1=>zT Q x H1
variable {t:TE}
theorem vC {op:CmpOp} (h:PC X op a b t) (h1:behindInMarks op b=false:=by first|exact nobehind _ zd zd|rfl):PT X (.Compare a [op] [b] pos) (tB t):=by
 refine ⟨?_⟩;intro Cj s σ H Q I hw;refine wpAny_isTrue_Compare1 (bA (h Cj s σ H _ I hw) fun v s1 h1=>bA h1 fun u s2 h2=>bA h2 fun c s3 ⟨x,H1,I1,r1,q1⟩=>?_) h1;obtain ⟨d,rfl,q⟩:=q1;cases r1;exact wpAny_truthy_bool ⟨H1,I1,q⟩
theorem aW (h:PE X e t) (he:∀ whole,isTrue e X.env whole=(do let v <-whole;standAt e.pos;holding [v] (truthy v)):=by intro _;rfl):PT X e (tB t):=by
 refine ⟨?_⟩;intro Cj s σ H Q I hw;refine isTrue_plain (bA (h Cj s σ H _ I hw) fun v s1 ⟨x,H1,I1,r1,q1⟩=>?_) (he _);obtain ⟨d,rfl,q⟩:=q1;cases r1;exact wpAny_truthy_bool ⟨H1,I1,q⟩
variable {tA tB':TT} {rest:List Expr}
def yW (t u:TT):TT:=fun σ H Q=>t σ H fun c H1=>if c=true then u σ H1 Q else Q false H1
def Ao (t u:TT):TT:=fun σ H Q=>t σ H fun c H1=>if c=true then Q true H1 else u σ H1 Q
def yX (t:TT):TT:=fun σ H Q=>t σ H fun c H1=>Q (!c) H1
theorem fF (ha:PT X a tA):PW X (.BoolOp .And [a] pos) tA:=by
 refine ⟨?_⟩;intro wh Cj s σ H Q I h;refine isTrue_and (bA (ha Cj s σ H Q I h) fun c s1 e=>?_);cases c with
 | true=>exact isTrue_and_nil e
 | false=>exact e
theorem c9 (ha:PT X a tA):PW X (.BoolOp .Or [a] pos) tA:=by
 refine ⟨?_⟩;intro wh Cj s σ H Q I h;refine isTrue_or (bA (ha Cj s σ H Q I h) fun c s1 e=>?_);cases c with
 | false=>exact isTrue_or_nil e
 | true=>exact e
theorem il (ha:PT X a tA) (hb:PW X (.BoolOp .And (b::rest) pos) tB'):PW X (.BoolOp .And (a::b::rest) pos) (yW tA tB'):=by
 refine ⟨?_⟩;intro wh Cj s σ H Q I h;refine isTrue_and (bA (ha Cj s σ H _ I h) fun c s1 ⟨H1,I1,q1⟩=>?_);cases c with
 | true=>exact hb wh Cj s1 σ H1 Q I1 q1
 | false=>exact ⟨H1,I1,q1⟩
theorem dS (ha:PT X a tA) (hb:PW X (.BoolOp .Or (b::rest) pos) tB'):PW X (.BoolOp .Or (a::b::rest) pos) (Ao tA tB'):=by
 refine ⟨?_⟩;intro wh Cj s σ H Q I h;refine isTrue_or (bA (ha Cj s σ H _ I h) fun c s1 ⟨H1,I1,q1⟩=>?_);cases c with
 | true=>exact ⟨H1,I1,q1⟩
 | false=>exact hb wh Cj s1 σ H1 Q I1 q1
theorem cq (ha:PT X a tA):PT X (.UnaryOp .Not a pos) (yX tA):=by
 refine ⟨?_⟩;intro Cj s σ H Q I h;exact isTrue_not (ha Cj s σ H (fun c H1=>Q (!c) H1) I h)
inductive qH (tb:TE) (σ:St) (Q:VK) (x:V) (H1:Hp):Prop
 | mk (c:_):x=.bl c->(if c=true then tb σ H1 Q else Q (.bl false) H1)->qH tb σ Q x H1
def xq (ta tb:TE):TE:=fun σ H Q=>ta σ H fun x H1=>qH tb σ Q x H1
inductive u5 (tb:TE) (σ:St) (Q:VK) (x:V) (H1:Hp):Prop
 | mk (c:_):x=.bl c->(if c=true then Q (.bl true) H1 else tb σ H1 Q)->u5 tb σ Q x H1
def yY (ta tb:TE):TE:=fun σ H Q=>ta σ H fun x H1=>u5 tb σ Q x H1
inductive qI (Q:VK) (x:V) (H1:Hp):Prop
 | mk (c:_):x=.bl c->Q (.bl (!c)) H1->qI Q x H1
def xr (ta:TE):TE:=fun σ H Q=>ta σ H fun x H1=>qI Q x H1
theorem cr {op} (h:PE X a t):PE X (.BoolOp op [a] pos) t:=⟨fun Cj s σ H Q I hw=>BoolOp_one (h Cj s σ H Q I hw)⟩
theorem bP (ha:PE X a ta) (hb:PE X (.BoolOp .And (b::rest) pos) tb):PE X (.BoolOp .And (a::b::rest) pos) (xq ta tb):=by
 refine ⟨?_⟩;intro Cj s σ H Q I h;refine BoolOp_and (bA (ha Cj s σ H _ I h) fun v s1 ⟨x,H1,I1,r1,q1⟩=>?_);obtain ⟨c,rfl,q1⟩:=q1;cases r1;refine wpAny_truthy_bool ?_;cases c with
 | true=>exact hb Cj s1 σ H1 Q I1 q1
 | false=>exact ⟨.bl false,H1,I1,rfl,q1⟩
theorem xt (ha:PE X a ta) (hb:PE X (.BoolOp .Or (b::rest) pos) tb):PE X (.BoolOp .Or (a::b::rest) pos) (yY ta tb):=by
 refine ⟨?_⟩;intro Cj s σ H Q I h;refine BoolOp_or (bA (ha Cj s σ H _ I h) fun v s1 ⟨x,H1,I1,r1,q1⟩=>?_);obtain ⟨c,rfl,q1⟩:=q1;cases r1;refine wpAny_truthy_bool ?_;cases c with
 | false=>exact hb Cj s1 σ H1 Q I1 q1
 | true=>exact ⟨.bl true,H1,I1,rfl,q1⟩
theorem mz (ha:PE X a ta):PE X (.UnaryOp .Not a pos) (xr ta):=by
 refine ⟨?_⟩;intro Cj s σ H Q I h;refine UnaryOp_ (bA (ha Cj s σ H _ I h) fun v s1 ⟨x,H1,I1,r1,q1⟩=>?_);obtain ⟨c,rfl,q1⟩:=q1;cases r1;exact not_of (wpAny_truthy_bool ⟨.bl (!c),H1,I1,rfl,q1⟩)
def Ap (t:TT) (ta tb:TE):TE:=fun σ H Q=>t σ H fun c H1=>if c=true then ta σ H1 Q else tb σ H1 Q
theorem kX {c:Expr} (hc:PT X c tA) (ha:PE X a ta) (hb:PE X b tb):PE X (.IfExp c a b pos) (Ap tA ta tb):=by
 refine ⟨?_⟩;intro Cj s σ H Q I h;refine wpAny_IfExp (bA (hc Cj s σ H _ I h) fun d s1 ⟨H1,I1,q1⟩=>?_);cases d with
 | true=>exact ha Cj s1 σ H1 Q I1 q1
 | false=>exact hb Cj s1 σ H1 Q I1 q1
end
def Cz (K:ZF) (H:Hp) (a:Addr) (xs:List V):Prop:=
 Rd H a (.lst xs) ∨
  ∃ (o:Obj) (its:Array Value) (n:Nat),K.lookup a=some o/\o.cls=.type "list"/\o.dict=none/\o.data=.seq its n/\its.size<=sizeLine/\CD xs its.toList
def CI (K:ZF) (H:Hp) (a:Addr) (xs:List V):Prop:=
 Rd H a (.tup xs) ∨
  ∃ (o:Obj) (its:Array Value) (n:Nat),K.lookup a=some o/\o.cls=.type "tuple"/\o.data=.seq its n/\its.size<=sizeLine/\CD xs its.toList
def yZ:Value->Option V
 | .none=>some .non
 | .bool b=>some (.bl b)
 | .int i _=>some (.int i)
 | .str x _=>some (.str x)
 | .bytes b _=>some (.byt b)
 | .float b _=>some (.flt b)
 | .ref a=>some (.ref a)
 | .type n=>some (.ty n)
 | _=>none
theorem CG.abs (r:CG x u):yZ u=some x:=by
 cases x with
 | non=>cases r;rfl
 | bl _=>cases r;rfl
 | int _=>obtain ⟨t,rfl⟩:=r;rfl
 | str _=>obtain ⟨t,rfl⟩:=r;rfl
 | byt _=>obtain ⟨t,rfl⟩:=r;rfl
 | flt _=>obtain ⟨t,rfl⟩:=r;rfl
 | ref _=>cases r;rfl
 | ty _=>cases r;rfl
variable {y:V}
theorem CG.inj (r:CG x u) (q:CG y u):x=y:=Be (r.abs.symm.trans q.abs)
theorem CD.inj:∀ {xs ys:List V} {us:List Value},CD xs us->CD ys us->xs=ys
 | _,_,_,.nil,.nil=>rfl
 | _,_,_,.cons r t,.cons r' t'=>by rw [r.inj r',CD.inj t t']
section
variable {X:Cx} {Cj:List (Addr×Obj)} {σ:St} {H:Hp} {s:Shared} {a:Addr} {xs ys:List V}
variable {K:ZF}
theorem Cz.of (h:H a=some (.lst xs)):Cz K H a xs:=.inl (.inl h)
theorem CI.of (h:H a=some (.tup xs)):CI K H a xs:=.inl (.inl h)
theorem CB.list (I:CB X Cj σ H s) (h:Cz X.K H a xs):∃ its:List Value,CD xs its/\PlainL s.heap a its.toArray/\xs.length<=sizeLine:=by
 rcases h with h|⟨o,its,n,hk,hc,hd,hs,hz,r⟩
 ·obtain ⟨z,its,n,r,e⟩:=h.ok I.hok;exact ⟨its,r,⟨_,n,e,rfl,rfl,rfl⟩,z⟩
 ·refine ⟨its.toList,r,⟨o,n,I.kIn a o hk,hc,hd,by simpa using hs⟩,?_⟩;have e:=r.length;simp only [A0] at e;lia
theorem CB.tuple (I:CB X Cj σ H s) (h:CI X.K H a xs):∃ its:List Value,CD xs its/\IsTup s.heap a its.toArray/\xs.length<=sizeLine:=by
 rcases h with h|⟨o,its,n,hk,hc,hs,hz,r⟩
 ·obtain ⟨z,its,r,p⟩:=h.ok I.hok;exact ⟨its,r,p.up,z⟩
 ·refine ⟨its.toList,r,⟨o,I.kIn a o hk,hc,n,by simpa using hs⟩,?_⟩;have e:=r.length;simp only [A0] at e;lia
theorem CB.list_inj (I:CB X Cj σ H s) (h:Cz X.K H a xs) (h':Cz X.K H a ys):xs=ys:=by
 obtain ⟨its,r,⟨o,n,e,_,_,d⟩,_⟩:=I.list h;obtain ⟨its',r',⟨o',n',e',_,_,d'⟩,_⟩:=I.list h';rw [e] at e';cases e';rw [d] at d';injection d' with d1 _;have:its=its':=by simpa using congrArg Array.toList d1
 subst this;exact r.inj r'
theorem CB.tuple_inj (I:CB X Cj σ H s) (h:CI X.K H a xs) (h':CI X.K H a ys):xs=ys:=by
 obtain ⟨its,r,⟨o,e,_,n,d⟩,_⟩:=I.tuple h;obtain ⟨its',r',⟨o',e',_,n',d'⟩,_⟩:=I.tuple h';rw [e] at e';cases e';rw [d] at d';injection d' with d1 _;have:its=its':=by simpa using congrArg Array.toList d1
 subst this;exact r.inj r'
end
abbrev Cx.wish (X:Cx) (E:Value->Shared->Prop):Cx:={ X with xe:=E }
abbrev Cx.nox (X:Cx):Cx:=X.wish fun _ _=>False
theorem Cx.Ok.wish (ok:X.Ok) (E:Value->Shared->Prop):(X.wish E).Ok:=
 ⟨ok.mod,ok.kind,ok.glob,ok.blt,ok.above,ok.inj,ok.has,ok.cab,ok.hd,ok.frames,ok.stk,ok.exf,ok.bs,ok.bsz,ok.noex,ok.exfs,ok.funs,ok.frf⟩
theorem Cx.Ok.unwish (ok:(X.wish E).Ok):X.Ok:=
 ⟨ok.mod,ok.kind,ok.glob,ok.blt,ok.above,ok.inj,ok.has,ok.cab,ok.hd,ok.frames,ok.stk,ok.exf,ok.bs,ok.bsz,ok.noex,ok.exfs,ok.funs,ok.frf⟩
section
variable {X:Cx} {Cj:List (Addr×Obj)} {σ:St} {H:Hp} {s:Shared} {E:Value->Shared->Prop}
theorem CB.wish (I:CB X Cj σ H s) (E:Value->Shared->Prop):CB (X.wish E) Cj σ H s:=⟨I.ok.wish E,I.os,I.bare,I.base,I.loc,I.cell,I.free,I.freeC,I.pin,I.hok,I.len⟩
theorem CB.unwish (I:CB (X.wish E) Cj σ H s):CB X Cj σ H s:=⟨I.ok.unwish,I.os,I.bare,I.base,I.loc,I.cell,I.free,I.freeC,I.pin,I.hok,I.len⟩
theorem SP.unwish {D:eX} {f:Flow} {s':Shared} (h:SP (X.wish E) Cj D f s'):SP X Cj D f s':=by
 cases f with
 | next=>obtain ⟨σ',H',I,q⟩:=h;exact ⟨σ',H',I.unwish,q⟩
 | brk=>obtain ⟨σ',H',I,q⟩:=h;exact ⟨σ',H',I.unwish,q⟩
 | cont=>obtain ⟨σ',H',I,q⟩:=h;exact ⟨σ',H',I.unwish,q⟩
 | ret u=>obtain ⟨v,σ',H',I,r,q⟩:=h;exact ⟨v,σ',H',I.unwish,r,q⟩
theorem Fv.nox {st:List Stmt} {t:TS} (h:Fv X.nox st t):Fv X st t:=⟨fun Cj s σ H D I hw=>
 wpAny_mono (h Cj s σ H D (I.wish _) hw) (fun _ _ q=>q.unwish) fun _ _ z=>False.elim z⟩
end
section
variable {X:Cx} {st:Stmt} {rest:List Stmt} {t u:TS} {e:Expr} {te:TE} {pos:Pos}
def xu:TS:=fun D σ H=>D.nx σ H
def y2 (t u:TS):TS:=fun D σ H=>t { D with nx:=u D } σ H
theorem aA:Fv X [] xu:=⟨fun _ _ σ H _ I h=>wpAny_execs_nil ⟨σ,H,I,h⟩⟩
theorem ah (h1:PS X st t) (h2:Fv X rest u):Fv X (st::rest) (y2 t u):=by
 refine ⟨?_⟩;intro Cj s σ H D I h;refine wpAny_execs_cons (bA (h1 Cj s σ H { D with nx:=u D } I h) fun f s1 q=>?_);cases f with
 | next=>
  obtain ⟨σ',H',I',q⟩:=q;exact h2 Cj s1 σ' H' D I' q
 | ret v=>exact q
 | brk=>exact q
 | cont=>exact q
theorem ai (h1:PS X st t):Fv X [st] t:=by
 refine ⟨?_⟩;intro Cj s σ H D I h;refine wpAny_execs_cons (bA (h1 Cj s σ H D I h) fun f s1 q=>?_);cases f with
 | next=>exact wpAny_execs_nil q
 | ret v=>exact q
 | brk=>exact q
 | cont=>exact q
theorem CB.quiet {Cj:List (Addr×Obj)} {σ:St} (I:CB X Cj σ H s):interactive X.env=false:=by simp [interactive,I.ok.kind]
def xw (te:TE):TS:=fun D σ H=>te σ H fun _ H1=>D.nx σ H1
theorem cT (he:PE X e te) (hs:swapsWith e none pos.line X.env=pure false:=by rfl):PS X (.Expr e pos) (xw te):=by
 refine ⟨?_⟩;intro Cj s σ H D I h;exact wpAny_Expr_any (bA (he Cj s σ H _ I h) fun v s1 ⟨x,H1,I1,r1,q1⟩=>⟨σ,H1,I1,q1⟩) I.quiet hs
def y3 (te:TE):TS:=fun D σ H=>te σ H D.rt
theorem al (he:PE X e te):PS X (.Return (some e) pos) (y3 te):=by
 refine ⟨?_⟩;intro Cj s σ H D I h;exact wpAny_Return_some (bA (he Cj s σ H _ I h) fun v s1 ⟨x,H1,I1,r1,q1⟩=>⟨x,σ,H1,I1,r1,q1⟩)
def y4 (c:TT) (t u:TS):TS:=fun D σ H=>c σ H fun b H1=>if b=true then t D σ H1 else u D σ H1
theorem aN {c:Expr} {a b:List Stmt} {tc:TT} (hc:PT X c tc) (ha:Fv X a t) (hb:Fv X b u):PS X (.If c a b pos) (y4 tc t u):=by
 refine ⟨?_⟩;intro Cj s σ H D I h;refine wpAny_If (bA (hc Cj s σ H _ I h) fun d s1 ⟨H1,I1,q1⟩=>?_);cases d with
 | true=>exact ha Cj s1 σ H1 D I1 q1
 | false=>exact hb Cj s1 σ H1 D I1 q1
def vD:TS:=fun _ _ _=>False
theorem qJ:PS X st vD:=⟨fun _ _ _ _ _ _ h=>h.elim⟩
end
abbrev TG:=V->St->Hp->(St->Hp->Prop)->Prop
abbrev vE:=List V->St->Hp->(St->Hp->Prop)->Prop
def PG (X:Cx) (target:Expr) (t:TG):Prop:=
 ∀ (Cj:List (Addr×Obj)) (s:Shared) (σ:St) (H:Hp) (v:V) (u:Value) (Q:St->Hp->Prop),CB X Cj σ H s->CG v u->t v σ H Q->
  wpAny (model X.prog X.w) X.A (assign target X.env u) (fun _ s'=>∃ σ' H',CB X Cj σ' H' s'/\Q σ' H') X.xe s
def xx (X:Cx) (ts:List Expr) (t:vE):Prop:=
 ∀ (Cj:List (Addr×Obj)) (s:Shared) (σ:St) (H:Hp) (vs:List V) (us:List Value) (Q:St->Hp->Prop),CB X Cj σ H s->CD vs us->t vs σ H Q->
  wpAny (model X.prog X.w) X.A (assignInOrder ((assignEach ts X.env).map (·.2)) us) (fun _ s'=>∃ σ' H',CB X Cj σ' H' s'/\Q σ' H') X.xe s
abbrev vF:=V->V->V->Hp->(Hp->Prop)->Prop
def xy (X:Cx) (t:vF):Prop:=
 ∀ (Cj:List (Addr×Obj)) (s:Shared) (σ:St) (H:Hp) (o i v:V) (ov iv u:Value) (Q:Hp->Prop),CB X Cj σ H s->CG o ov->CG i iv->CG v u->t o i v H Q->
  wpAny (model X.prog X.w) X.A (setItem ov iv u) (fun _ s'=>∃ H',CB X Cj σ H' s'/\Q H') X.xe s
section
variable {X:Cx} {pos:Pos}
def fG (i:Nat):TG:=fun v σ H Q=>Q (σ.set i (some v)) H
variable {i:Nat}
theorem eF {x:Str} (hN:X.N.Nodup) (hi:X.N[i]?=some x) (hx:xi X.env.scope x) (hf:X.fn x=true\/X.env.scope.names.lookup x=some .local:=by first|exact .inl rfl|exact .inr rfl|assumption):PG X (.Name x pos) (fG i):=by
 intro Cj s σ H v u Q I r h;exact wpAny_assign_Name (kW I hN hi hx r (fun s' I'=>⟨_,H,I',h⟩) hf)
theorem cZ {i:Nat} {x:Str} (hN:X.N.Nodup) (hi:X.N[i]?=some x:=by rfl) (hx:xi X.env.scope x:=by exact Or.inl rfl) (hf:X.fn x=true\/X.env.scope.names.lookup x=some .local:=by first|exact .inl rfl|exact .inr rfl|assumption):PG X (.Name x pos) (fG i):=eF hN hi hx hf
def xz:vE:=fun vs σ H Q=>vs=[]/\Q σ H
inductive nZ (t:TG) (u:vE) (vs:List V) (σ:St) (H:Hp) (Q:St->Hp->Prop):Prop
 | mk (v r:_):vs=v::r->(t v σ H fun σ' H'=>u r σ' H' Q)->nZ t u vs σ H Q
theorem dh:xx X [] xz:=by
 intro Cj s σ H vs us Q I r h;obtain ⟨e,h⟩:=h;subst e;cases r;exact assignInOrder_nil ⟨σ,H,I,h⟩
variable {es:List Expr}
theorem bu {t:TG} {u:vE} (h1:PG X e t) (h2:xx X es u)
  (hs:(assignEach (e::es) X.env).map (·.2)=assign e X.env::(assignEach es X.env).map (·.2):=by rfl):xx X (e::es) (nZ t u):=by
 intro Cj s σ H vs us Q I r h;obtain ⟨v,vr,e1,h⟩:=h;subst e1;cases r with
 | cons r rr=>
  rw [hs];refine assignInOrder_cons (bA (h1 Cj s σ H _ _ _ I r h) fun _ s1 ⟨σ1,H1,I1,q1⟩=>?_);exact h2 Cj s1 σ1 H1 _ _ Q I1 rr q1
inductive tN (K:ZF) (n:Nat) (t:vE) (v:V) (σ:St) (H:Hp) (Q:St->Hp->Prop):Prop
 | mk (a xs:_):v=.ref a->CI K H a xs->xs.length=n->t xs σ H Q->tN K n t v σ H Q
theorem gj {k:Nat} {t:vE} {n:Nat} (hc:X.calm=true) (h:xx X es t)
  (hn:(assignEach es X.env).length=n:=by rfl) (hst:(assignEach es X.env).findIdx? (·.1)=none:=by rfl):PG X (.Tuple es k pos) (tN X.K n t):=by
 intro Cj s σ H v u Q I r hw;obtain ⟨a,xs,e1,hq,hl,hw⟩:=hw;subst e1;cases r;obtain ⟨its,rv,ht,hz⟩:=I.tuple hq;refine assign_Tuple_tuple (I.ok.hd hc) ht (by simp [hn,<-hl,rv.length]) hst fun h' hx=>?_;have I1:CB X Cj σ H { s with heap:=h' }:=I.kept (t':=s.toks) fun b o e=>hx b o (AW (AQ e)) e;exact h Cj _ σ H xs _ Q I1 (by simpa using rv) hw
def y6 (to ti:TE) (t:vF):TG:=fun v σ H Q=>to σ H fun o H1=>ti σ H1 fun i H2=>t o i v H2 fun H3=>Q σ H3
theorem im {o i:Expr} {to ti:TE} {t:vF} (ho:PE X o to) (hi:PE X i ti) (hs:xy X t)
  (ha:∀ v,assign (.Subscript o i pos) X.env v=(do
   let ov <-holding [v] (eval o X.env)
   let iv <-holding [v,ov] (eval i X.env)
   standAt pos
   holding [v,ov,iv] (setItem ov iv v)
   release [v,ov,iv] []):=by intro _;rfl):PG X (.Subscript o i pos) (y6 to ti t):=by
 intro Cj s σ H v u Q I r h;rw [ha];refine wpAny_bind (wpAny_holding (bA (ho Cj s σ H _ I h) fun ov s1 ⟨x,H1,I1,r1,q1⟩=>?_));refine wpAny_bind (wpAny_holding (bA (hi Cj s1 σ H1 _ I1 q1) fun iv s2 ⟨y,H2,I2,r2,q2⟩=>?_));refine wpAny_bind (wpAny_standAt (wpAny_bind (wpAny_holding (bA (hs Cj s2 σ H2 x y v ov iv u _ I2 r1 r2 r q2) fun _ s3 ⟨H3,I3,q3⟩=>?_))));exact wpAny_release ⟨σ,H3,I3,q3⟩
def vG (te:TE) (g:TG):TS:=fun D σ H=>te σ H fun x H1=>g x σ H1 D.nx
variable {te:TE}
theorem jV {tg e:Expr} {g:TG} (he:PE X e te) (hg:PG X tg g) (hs:swapsWithSole [tg] e pos.line X.env=pure false:=by rfl) (hw:swappedStores [tg] e X.env=pure none:=by rfl)
  (h1:(assignEach [tg] X.env).map (·.2)=[assign tg X.env]:=by rfl):PS X (.Assign [tg] e pos) (vG te g):=by
 refine ⟨?_⟩;intro Cj s σ H D I h;refine wpAny_Assign_stores (bA (he Cj s σ H _ I h) fun v s1 ⟨x,H1,I1,r1,q1⟩=>?_) hs hw;rw [h1];exact bA (hg Cj s1 σ H1 x v _ I1 r1 q1) fun _ s2 q=>q
theorem dH {x:Str} {pos':Pos} (hN:X.N.Nodup) (hi:X.N[i]?=some x) (hx:xi X.env.scope x) (he:PE X e te) (hs:swapsWith e (some (.Name x pos')) pos.line X.env=pure false:=by rfl) (hf:X.fn x=true\/X.env.scope.names.lookup x=some .local:=by first|exact .inl rfl|exact .inr rfl|assumption) :
  PS X (.Assign [.Name x pos'] e pos) (vG te (fG i)):=by
 refine ⟨?_⟩;intro Cj s σ H D I h;refine wpAny_Assign_Name (bA (he Cj s σ H _ I h) fun v s1 ⟨y,H1,I1,r1,q1⟩=>?_) hs;exact kW I1 hN hi hx r1 (fun s2 I2=>⟨_,H1,I2,q1⟩) hf
theorem eY {i:Nat} {x:Str} {e:Expr} {te:TE} {pos':Pos} (hN:X.N.Nodup) (he:PE X e te) (hi:X.N[i]?=some x:=by rfl) (hx:xi X.env.scope x:=by exact Or.inl rfl) (hs:swapsWith e (some (.Name x pos')) pos.line X.env=pure false:=by rfl) (hf:X.fn x=true\/X.env.scope.names.lookup x=some .local:=by first|exact .inl rfl|exact .inr rfl|assumption):PS X (.Assign [.Name x pos'] e pos) (vG te (fG i)):=dH hN hi hx he hs hf
end
structure It where
 go:Nat->Hp->Prop
 yld:Nat->Hp->V->Hp->Prop
 stop:Nat->Hp->Prop
def io (X:Cx) (Cj:List (Addr×Obj)) (H:Hp) (b:Addr):Prop:=
 H b=none/\b≠X.env.locals/\b∉X.fs/\(b∈X.ex\/X.s₀.heap.objs.size<=b)/\(∀ x c,X.env.cells.lookup x=some c->c≠b)/\∀ p∈X.pn++Cj,p.1≠b
variable {σ:St} {Cj:List (Addr×Obj)}
theorem CB.fpOk {H H':Hp} (I:CB X Cj σ H s) (hb:s.heap.objs.size<=b) (hn:H' b=none):io X Cj H' b:=by
 refine ⟨hn,BV (Bd I.lt hb),I.nofs hb,.inr (A8 I.sz hb),fun x c e z=>?_,fun p hp z=>?_⟩
 ·obtain ⟨v,q⟩:=I.cell x c e;exact absurd (Bd q.lt (by rw [z];exact hb)) (BO _)
 ·exact absurd (Bd (AQ (I.pin p hp).1) (by rw [z];exact hb)) (BO _)
structure jW (P:Program) (w:World) (K:ZF) (tg:Expr) (J:It) (fp:List Addr) (it:Addr) (tn:Nat->Heap->Prop):Prop where
 mem:it∈fp
 obj:∀ i h,tn i h->∀ b∈fp,∃ o,h.get? b=some o/\∀ v,o.data≠.cell v
 keep:∀ i h h',tn i h->(∀ b∈fp,∀ o,h.get? b=some o->h'.get? b=some o)->tn i h'
 item:∀ (X:Cx),X.prog=P->X.w=w->X.K=K->X.calm=true->∀ (i:Nat) (Cj:List (Addr×Obj)) (s:Shared) (σ:St) (H:Hp) (E:Value->Shared->Prop),CB X Cj σ H s->(∀ b∈fp,io X Cj H b)->tn i s.heap->J.go i H->
  wpAny (model P w) X.A (pyNext (.ref it)) (fun r s1=>∃ u,r=some u /\
   wpAny (model P w) X.A (letOwnedTupleGo tg (.ref it) u) (fun _ s2=>∃ x H',CB X Cj σ H' s2/\CG x u/\J.yld i H x H'/\tn (i+1) s2.heap/\∀ b∈fp,H' b=none) E s1) E s
 done:∀ (X:Cx),X.prog=P->X.w=w->X.K=K->X.calm=true->∀ (i:Nat) (Cj:List (Addr×Obj)) (s:Shared) (σ:St) (H:Hp) (E:Value->Shared->Prop),CB X Cj σ H s->(∀ b∈fp,io X Cj H b)->tn i s.heap->J.stop i H->
  wpAny (model P w) X.A (pyNext (.ref it)) (fun r s1=>r=none/\CB X Cj σ H s1) E s
 self:∀ (A:Around) (i:Nat) (s:Shared) (Q:Value->Shared->Prop) (E:Value->Shared->Prop),tn i s.heap->Q (.ref it) s->wpAny (model P w) A (pyIter (.ref it)) Q E s
abbrev TI:=St->Hp->(It->Hp->Prop)->Prop
inductive yN (X:Cx) (Cj:List (Addr×Obj)) (σ:St) (tg:Expr) (R:It->Hp->Prop) (itv:Value) (s2:Shared):Prop
 | mk (it:Addr) (fp:List Addr) (tn:Nat->Heap->Prop) (J:It) (H':Hp):itv=.ref it->CB X Cj σ H' s2->jW X.prog X.w X.K tg J fp it tn->tn 0 s2.heap->(∀ b∈fp,io X Cj H' b)->R J H'->yN X Cj σ tg R itv s2
structure PI (X:Cx) (tg iter:Expr) (wi:TI):Prop where
 run:∀ (Cj:List (Addr×Obj)) (s:Shared) (σ:St) (H:Hp) (R:It->Hp->Prop),CB X Cj σ H s->wi σ H R->
  wpAny (model X.prog X.w) X.A (eval iter X.env) (fun v s1=>wpAny (model X.prog X.w) X.A (pyIter v) (yN X Cj σ tg R) X.xe s1) X.xe s
instance {X:Cx} {tg iter:Expr} {wi:TI}:CoeFun (PI X tg iter wi) fun _=>∀ (Cj:List (Addr×Obj)) (s:Shared) (σ:St) (H:Hp) (R:It->Hp->Prop),CB X Cj σ H s->wi σ H R->
  wpAny (model X.prog X.w) X.A (eval iter X.env) (fun v s1=>wpAny (model X.prog X.w) X.A (pyIter v) (yN X Cj σ tg R) X.xe s1) X.xe s:=⟨PI.run⟩
theorem kY {M:Model} {A:Around} {E:Value->Shared->Prop} {tg:Expr} {it:Addr} {u:Value} {o:Obj} {n:String} {vs:Array Value} {Q:Unit->Shared->Prop} (ho:s.heap.get? it=some o) (hc:o.cls=.type n) (hd:o.data=.fields vs)
  (hn:["enumerate","zip","dict_itemiterator","dict_reverseitemiterator","odict_iterator","itertools.zip_longest","itertools.pairwise"].contains n=false) (hQ:Q () s):wpAny M A (letOwnedTupleGo tg (.ref it) u) Q E s:=by
 unfold letOwnedTupleGo;cases tg<;>first
  | exact wpAny_pure hQ
  | (cases u<;>first
    | exact wpAny_pure hQ
    | (refine wpAny_bind (wpAny_load ho ?_)
       rw [hc,hd];show wpAny M A (if (["enumerate","zip","dict_itemiterator","dict_reverseitemiterator","odict_iterator","itertools.zip_longest","itertools.pairwise"].contains n && vs[0]? == some (rawInt _))=true then _ else _) Q E s;rw [if_neg (by intro h;rw [hn,Bool.false_and] at h;cases h)];exact wpAny_pure hQ))
def xj (K:ZF) (a:Addr):It:=
 ⟨fun i H=>∃ xs x,Cz K H a xs/\xs[i]?=some x,fun i H x H'=>H'=H/\∀ xs,Cz K H a xs->xs[i]?=some x,fun i H=>∃ xs,Cz K H a xs/\xs.length<=i⟩
def za (K:ZF) (a:Addr):It:=
 ⟨fun i H=>∃ xs x,CI K H a xs/\xs[i]?=some x,fun i H x H'=>H'=H/\∀ xs,CI K H a xs->xs[i]?=some x,fun i H=>∃ xs,CI K H a xs/\xs.length<=i⟩
def tH (lo:Int) (n:Nat):It:=⟨fun i _=>i < n,fun i H x H'=>H'=H/\x=.int (lo+i),fun i _=>n<=i⟩
variable {tg:Expr} {K:ZF}
theorem pi (a it:Addr):jW P w K tg (xj K a) [it] it (fun i h=>h.IsListIter it a i) where
 mem:=by simp
 obj:=fun i h st b hb=>by
  have e:b=it:=by simpa using hb
  subst e;obtain ⟨o,e,c,d⟩:=st;exact ⟨o,e,fun v z=>by rw [d] at z;cases z⟩
 keep:=fun i h h' st k=>st.at fun o e=>k it (by simp) o e
 item:=by
  intro X hP hw hK hc i Cj s σ H E I hf st hg;subst hP hw hK;obtain ⟨xs,x,hq,hx⟩:=hg;obtain ⟨its,rv,p,hz⟩:=I.list hq;obtain ⟨u,hu,ru⟩:=rv.get hx;obtain ⟨f0,f1,f2,f3,f4,f5⟩:=hf it (by simp);refine wpAny_pyNext_list_item st p.isList (x:=u) (by simpa using hu) fun h' st' sb=>?_;have I1:CB X Cj σ H { s with heap:=h' }:=I.turned (t':=s.toks) (fun b o hb e=>(sb.2 b hb).trans e) f0 f1 f3 f4 f5;obtain ⟨o,e,c,d⟩:=id st';exact ⟨u,rfl,kY (s:={ s with heap:=h' }) e c d zd ⟨x,H,I1,ru,⟨rfl,fun ys hy=>by rw [I.list_inj hy hq];exact hx⟩,st',fun b hb=>(hf b hb).1⟩⟩
 done:=by
  intro X hP hw hK hc i Cj s σ H E I hf st hg;subst hP hw hK;obtain ⟨xs,hq,hx⟩:=hg;obtain ⟨its,rv,p,hz⟩:=I.list hq;obtain ⟨f0,f1,f2,f3,f4,f5⟩:=hf it (by simp);have hl:=rv.length;exact wpAny_pyNext_list_end (I.ok.hd hc) st p.isList (by simp;lia) fun h' eb=>⟨rfl,I.turned (t':=s.toks) (fun b o hb e=>eb b o hb e) f0 f1 f3 f4 f5⟩
 self:=fun _ _ _ _ _ st h=>wpAny_pyIter_listiter st h
theorem mB (a it:Addr):jW P w K tg (za K a) [it] it (fun i h=>h.IsTupleIter it a i) where
 mem:=by simp
 obj:=fun i h st b hb=>by
  have e:b=it:=by simpa using hb
  subst e;obtain ⟨o,e,c,d⟩:=st;exact ⟨o,e,fun v z=>by rw [d] at z;cases z⟩
 keep:=fun i h h' st k=>st.at fun o e=>k it (by simp) o e
 item:=by
  intro X hP hw hK hc i Cj s σ H E I hf st hg;subst hP hw hK;obtain ⟨xs,x,hq,hx⟩:=hg;obtain ⟨its,rv,p,hz⟩:=I.tuple hq;obtain ⟨u,hu,ru⟩:=rv.get hx;obtain ⟨f0,f1,f2,f3,f4,f5⟩:=hf it (by simp);refine wpAny_pyNext_tuple_item st (show s.heap.IsTuple a its.toArray from p) (x:=u) (by simpa using hu) fun h' st' sb=>?_;have I1:CB X Cj σ H { s with heap:=h' }:=I.turned (t':=s.toks) (fun b o hb e=>(sb.2 b hb).trans e) f0 f1 f3 f4 f5;obtain ⟨o,e,c,d⟩:=id st';exact ⟨u,rfl,kY (s:={ s with heap:=h' }) e c d zd ⟨x,H,I1,ru,⟨rfl,fun ys hy=>by rw [I.tuple_inj hy hq];exact hx⟩,st',fun b hb=>(hf b hb).1⟩⟩
 done:=by
  intro X hP hw hK hc i Cj s σ H E I hf st hg;subst hP hw hK;obtain ⟨xs,hq,hx⟩:=hg;obtain ⟨its,rv,p,hz⟩:=I.tuple hq;obtain ⟨f0,f1,f2,f3,f4,f5⟩:=hf it (by simp);have hl:=rv.length;exact wpAny_pyNext_tuple_end (I.ok.hd hc) st (show s.heap.IsTuple a its.toArray from p) (by simp;lia) fun h' eb=>⟨rfl,I.turned (t':=s.toks) (fun b o hb e=>eb b o hb e) f0 f1 f3 f4 f5⟩
 self:=fun _ _ _ _ _ st h=>wpAny_pyIter_tupleiter st h
theorem mC (it:Addr) (lo:Int) (n:Nat):jW P w K tg (tH lo n) [it] it (fun i h=>IsRangeIter h it (lo+(i:Nat)*1) ((n:Int) - (i:Nat)) 1) where
 mem:=by simp
 obj:=fun i h st b hb=>by
  have e:b=it:=by simpa using hb
  subst e;exact ⟨_,st,fun v z=>by
   have z':Data.fields _=Data.cell v:=z;cases z'⟩
 keep:=fun i h h' st k=>k it (by simp) _ st
 item:=by
  intro X hP hw hK hc i Cj s σ H E I hf st hg;subst hP hw hK;obtain ⟨f0,f1,f2,f3,f4,f5⟩:=hf it (by simp);have W:=Walks.range (prog:=X.prog) (w:=X.w) (I.ok.hd hc) it lo 1 n;refine W.item i s _ _ hg st fun v h' tk hv st' kk=>?_;obtain ⟨t,rfl⟩:=hv;have I1:CB X Cj σ H { s with heap:=h',toks:=tk }:=I.turned (fun b o hb e=>kk b o (by simpa using hb) e) f0 f1 f3 f4 f5;refine ⟨_,rfl,kY (s:={ s with heap:=h',toks:=tk }) (n:="range_iterator") st' rfl rfl zd ⟨.int (lo+i),H,I1,⟨t,?_⟩,⟨rfl,rfl⟩,st',fun b hb=>(hf b hb).1⟩⟩;rw [Int.mul_one]
 done:=by
  intro X hP hw hK hc i Cj s σ H E I hf st hg;subst hP hw hK;obtain ⟨f0,f1,f2,f3,f4,f5⟩:=hf it (by simp);exact wpAny_pyNext_range_end (I.ok.hd hc) st (by have:n<=i:=hg;lia) fun h' eb=>⟨rfl,I.turned (t':=s.toks) (fun b o hb e=>eb b o hb e) f0 f1 f3 f4 f5⟩
 self:=fun _ _ _ _ _ st h=>wpAny_pyIter_rangeiter st h
section
variable {X:Cx} {tg:Expr}
inductive qK (K:ZF) (R:It->Hp->Prop) (x:V) (H1:Hp):Prop
 | mk (a:_):x=.ref a->(∃ xs,Cz K H1 a xs)->R (xj K a) H1->qK K R x H1
def xA (K:ZF) (tl:TE):TI:=fun σ H R=>tl σ H fun x H1=>qK K R x H1
inductive u7 (K:ZF) (R:It->Hp->Prop) (x:V) (H1:Hp):Prop
 | mk (a:_):x=.ref a->(∃ xs,CI K H1 a xs)->R (za K a) H1->u7 K R x H1
def zb (K:ZF) (tl:TE):TI:=fun σ H R=>tl σ H fun x H1=>u7 K R x H1
variable {tl:TE} {l:Expr}
theorem bn (hl:PE X l tl):PI X tg l (xA X.K tl):=by
 refine ⟨?_⟩;intro Cj s σ H R I h;refine bA (hl Cj s σ H _ I h) fun v s1 ⟨x,H1,I1,r1,q1⟩=>?_;obtain ⟨a,e,⟨xs,hq⟩,q⟩:=q1;subst e;cases r1;obtain ⟨its,rv,p,hz⟩:=I1.list hq;refine wpAny_pyIter_list p.isList ?_;refine ⟨s1.heap.objs.size,[s1.heap.objs.size],_,_,H1,rfl,I1.kept (t':=s1.toks) fun b o e=>AK _ e,pi a _,⟨_,AO _ rfl,rfl,rfl⟩,fun b hb=>?_,q⟩;have e:b=s1.heap.objs.size:=by simpa using hb
 subst e;exact I1.fpOk (AR _) (I1.hok.fresh (AR _))
theorem qL (hl:PE X l tl):PI X tg l (zb X.K tl):=by
 refine ⟨?_⟩;intro Cj s σ H R I h;refine bA (hl Cj s σ H _ I h) fun v s1 ⟨x,H1,I1,r1,q1⟩=>?_;obtain ⟨a,e,⟨xs,hq⟩,q⟩:=q1;subst e;cases r1;obtain ⟨its,rv,p,hz⟩:=I1.tuple hq;refine wpAny_pyIter_tuple (show s1.heap.IsTuple a its.toArray from p) ?_;refine ⟨s1.heap.objs.size,[s1.heap.objs.size],_,_,H1,rfl,I1.kept (t':=s1.toks) fun b o e=>AK _ e,mB a _,⟨_,AO _ rfl,rfl,rfl⟩,fun b hb=>?_,q⟩;have e:b=s1.heap.objs.size:=by simpa using hb
 subst e;exact I1.fpOk (AR _) (I1.hok.fresh (AR _))
theorem kZ {R:It->Hp->Prop} {E:Value->Shared->Prop} {lo hi:Int} {t u v:Tok} {tk:Nat} (I:CB X Cj σ H s) (h1:-(2 ^ 62)<=lo) (h2:lo < 2 ^ 62) (h3:-(2 ^ 62)<=hi) (h4:hi < 2 ^ 62)
  (q:R (tH lo (hi - lo).toNat) H):wpAny (model X.prog X.w) X.A (pyIter (.ref s.heap.objs.size)) (yN X Cj σ tg R) E { s with heap:=s.heap.push { cls:=.type "range",data:=.fields #[.int lo t,.int hi u,.int 1 v] },toks:=tk }:=by
 refine wpAny_pyIter_range (IsRange.new ..) (small_one h1 h2 h3 h4) ?_;have I1:CB X Cj σ H { s with heap:=s.heap.push { cls:=.type "range",data:=.fields #[.int lo t,.int hi u,.int 1 v] },toks:=tk }:=I.kept fun b o e=>AK _ e;refine ⟨(s.heap.push { cls:=.type "range",data:=.fields #[.int lo t,.int hi u,.int 1 v] }).objs.size,[(s.heap.push { cls:=.type "range",data:=.fields #[.int lo t,.int hi u,.int 1 v] }).objs.size],_,_,H,rfl,
  I1.kept (t':=tk) fun b o e=>AK _ e,mC _ lo (hi - lo).toNat,?_,fun b hb=>?_,q⟩
 ·have e1:lo+((0:Nat):Int)*1=lo:=by simp
  have e2:(((hi - lo).toNat:Nat):Int) - ((0:Nat):Int)=Builtin.Range.rangeSize lo hi 1:=by rw [rangeSize_one];split<;>lia
  show IsRangeIter _ _ (lo+((0:Nat):Int)*1) ((((hi - lo).toNat:Nat):Int) - ((0:Nat):Int)) 1;rw [e1,e2];exact AO _ rfl
 ·have e:b=(s.heap.push { cls:=.type "range",data:=.fields #[.int lo t,.int hi u,.int 1 v] }).objs.size:=by simpa using hb
  subst e;exact I1.fpOk (AR _) (I1.hok.fresh (AR _))
inductive qM (R:It->Hp->Prop) (vs:List V) (H1:Hp):Prop
 | mk (j:Int):vs=[.int j]->-(2 ^ 62)<=j->j < 2 ^ 62->R (tH 0 j.toNat) H1->qM R vs H1
def u8 (ta:TA):TI:=fun σ H R=>ta σ H fun vs H1=>qM R vs H1
inductive qN (R:It->Hp->Prop) (vs:List V) (H1:Hp):Prop
 | mk (i j:Int):vs=[.int i,.int j]->(-(2 ^ 62)<=i/\i < 2 ^ 62/\-(2 ^ 62)<=j/\j < 2 ^ 62)->R (tH i (j - i).toNat) H1->qN R vs H1
def xB (ta:TA):TI:=fun σ H R=>ta σ H fun vs H1=>qN R vs H1
variable {p pos:Pos} {ta:TA}
theorem bB {a:Expr} (hg:Gl X "range") (hm:X.mg "range"=none) (ha:PA X [a] ta) (hs:starEach [a] X.env=[(false,eval a X.env)]:=by rfl):PI X tg (.Call (.Name "range" p) [a] [] pos) (u8 ta):=by
 refine ⟨?_⟩;intro Cj s σ H R I h;refine Call_ (c8 I hg hm boot_range (Bz (bA (ha pos Cj s σ H _ I h) fun us s1 ⟨vs,H1,I1,r1,q1⟩=>?_) hs rfl));obtain ⟨j,e,q1,q2,q⟩:=q1;subst e;cases r1 with
 | cons r rr=>
  cases rr;obtain ⟨t,rfl⟩:=r;exact call_range_1 (kZ I1 zo zo q1 q2 (by simpa using q))
theorem pj {a b:Expr} {p pos:Pos} (hg:Gl X "range") (hm:X.mg "range"=none) (ha:PA X [a,b] ta) (hs:starEach [a,b] X.env=[(false,eval a X.env),(false,eval b X.env)]:=by rfl) (hs2:starEach [b] X.env=[(false,eval b X.env)]:=by rfl) :
  PI X tg (.Call (.Name "range" p) [a,b] [] pos) (xB ta):=by
 refine ⟨?_⟩;intro Cj s σ H R I h;refine Call_ (c8 I hg hm boot_range (Bz (bA (ha pos Cj s σ H _ I h) fun us s1 ⟨vs,H1,I1,r1,q1⟩=>?_) (by rw [hs,hs2]) (by rw [hs2];rfl)));obtain ⟨i,j,e,⟨q1,q2,q3,q4⟩,q⟩:=q1;subst e;cases r1 with
 | cons r rr=>
  cases rr with
  | cons r' rr=>
   cases rr;obtain ⟨t,rfl⟩:=r;obtain ⟨t',rfl⟩:=r';exact call_range_2 (kZ I1 q1 q2 q3 q4 q)
def zc (wi:TI) (g:TG) (tb:TS):TS:=fun D σ H=>wi σ H fun J H1=>∃ W:Nat->Nat->St->Hp->Prop,(∃ m,W 0 m σ H1)/\∀ i m σ H,W i m σ H->
 (J.stop i H/\D.nx σ H)\/(J.go i H/\∃ N:St->Hp->Prop,(∀ σ' H',N σ' H'->∃ m',m' < m/\W (i+1) m' σ' H')/\∀ x H',J.yld i H x H'->g x σ H' fun σ2 H2=>tb { D with nx:=N,ct:=N,bk:=D.nx } σ2 H2)
def cu (fp:List Addr) (h:Heap):List (Addr×Obj):=fp.filterMap fun b=>(h.get? b).map fun o=>(b,o)
variable {fp:List Addr}
theorem dI {o:Obj} (hb:b∈fp) (e:h.get? b=some o):(b,o)∈cu fp h:=List.mem_filterMap.mpr ⟨b,hb,by rw [e];rfl⟩
theorem gk {p:Addr×Obj} (hp:p∈cu fp h):p.1∈fp/\h.get? p.1=some p.2:=by
 obtain ⟨b,hb,e⟩:=List.mem_filterMap.mp hp;cases q:h.get? b with
 | none=>rw [q] at e;cases e
 | some o=>
  rw [q] at e;have e':(b,o)=p:=Be e;subst e';exact ⟨hb,q⟩
theorem CB.pinned (I:CB X Cj σ H s) (hf:∀ b∈fp,io X Cj H b) (ho:∀ b∈fp,∃ o,s.heap.get? b=some o/\∀ v,o.data≠.cell v):CB X (Cj++cu fp s.heap) σ H s:=
 I.pins_of fun p hp=>(BA.mp hp).elim (fun z=>I.pin p (A9 _ z)) fun z=>by
  obtain ⟨hb,e⟩:=gk z;obtain ⟨f0,f1,f2,_⟩:=hf p.1 hb;obtain ⟨o,e',d⟩:=ho p.1 hb;rw [e] at e';cases e';exact ⟨e,f0,f1,f2,d⟩
theorem CB.unpinned {Cj pl:List (Addr×Obj)} (I:CB X (Cj++pl) σ H s):CB X Cj σ H s:=I.pins_of fun p hp=>I.pin p (A9 _ (BL _ hp))
theorem bY {iter:Expr} {body:List Stmt} {wi:TI} {g:TG} {tb:TS} {pos:Pos} (hp:PassesOwn (model X.prog X.w) X.A X.env X.xe) (hc:X.calm=true) (hi:PI X tg iter wi) (hg:PG X tg g) (hb:Fv X body tb)
  (hs:∀ x,foldedSetIterable iter X.env x=pure x:=by intro _;rfl):PS X (.For tg iter body [] pos) (zc wi g tb):=by
 refine ⟨?_⟩;intro Cj s σ H D I h;refine wpAny_For (bA (hi Cj s σ H _ I h) fun v s1 h1=>bA h1 fun itv s2 h2=>?_) hs;obtain ⟨it,fp,tn,J,H2,e,I2,T,st2,f2,W,⟨m0,w0⟩,turn⟩:=h2;subst e;have stat:∀ {H':Hp},(∀ b∈fp,H' b=none)->∀ b∈fp,io X Cj H' b:=fun hn b hb=>⟨hn b hb,(f2 b hb).2⟩;refine codeAny_forLoop_any (fun n s'=>∃ i σ' H',CB X Cj σ' H' s'/\tn i s'.heap/\(∀ b∈fp,H' b=none)/\W i n σ' H') ?_ m0 ⟨0,σ,H2,I2,st2,fun b hb=>(f2 b hb).1,w0⟩;rintro n s3 ⟨i,σ3,H3,I3,st3,fr3,w3⟩;rcases turn i n σ3 H3 w3 with ⟨stop,qn⟩|⟨go,N,hN,step⟩
 ·refine wpAny_passesOwn hp (bA (T.done X rfl rfl rfl hc i Cj s3 σ3 H3 X.xe I3 (stat fr3) st3 stop) fun r s4 ⟨hr,I4⟩=>?_);subst hr;exact wpAny_execs_nil ⟨σ3,H3,I4,qn⟩
 ·refine wpAny_passesOwn hp (bA (T.item X rfl rfl rfl hc i Cj s3 σ3 H3 X.xe I3 (stat fr3) st3 go) fun r s4 ⟨u,hr,h4⟩=>?_);subst hr;refine wpAny_passesOwn hp (bA h4 fun _ s5 ⟨x,H5,I5,r5,y5,st5,fr5⟩=>?_);have I5':=I5.pinned (stat fr5) (T.obj _ _ st5);refine wpAny_passesOwn hp (bA (hg _ s5 σ3 H5 x u _ I5' r5 (step x H5 y5)) fun _ s6 ⟨σ6,H6,I6,q6⟩=>?_);refine wpAny_passesOwn hp (bA (hb _ s6 σ6 H6 _ I6 q6) fun f s7 q7=>?_);have again:∀ {σ7:St} {H7:Hp},CB X (Cj++cu fp s5.heap) σ7 H7 s7->N σ7 H7->∃ m,m < n/\∃ i σ' H',CB X Cj σ' H' s7/\tn i s7.heap/\(∀ b∈fp,H' b=none)/\W i m σ' H':=fun {σ7 H7} I7 n7=>by
   obtain ⟨m',hm,w7⟩:=hN σ7 H7 n7;refine ⟨m',hm,i+1,σ7,H7,I7.unpinned,T.keep _ _ _ st5 fun b hb o e=>(I7.pin (b,o) (A9 _ (A9 _ (dI hb e)))).1,fun b hb=>?_,w7⟩;obtain ⟨o,e,d⟩:=T.obj _ _ st5 b hb;exact (I7.pin (b,o) (A9 _ (A9 _ (dI hb e)))).2.1
  cases f with
  | next=>obtain ⟨σ7,H7,I7,n7⟩:=q7;exact again I7 n7
  | cont=>obtain ⟨σ7,H7,I7,n7⟩:=q7;exact again I7 n7
  | brk=>obtain ⟨σ7,H7,I7,q7⟩:=q7;exact ⟨σ7,H7,I7.unpinned,q7⟩
  | ret v=>obtain ⟨x7,σ7,H7,I7,r7,q7⟩:=q7;exact ⟨x7,σ7,H7,I7.unpinned,r7,q7⟩
end
theorem dz {g:TG} {tb:TS} {D:eX} (Pv:Nat->St->Hp->Prop) (h0:Pv 0 σ H) (hl:∀ i σ H,i<=xs.length->Pv i σ H->Cz K H a xs)
  (hs:∀ i x σ H,xs[i]?=some x->Pv i σ H->g x σ H fun σ2 H2=>tb { D with nx:=Pv (i+1),ct:=Pv (i+1),bk:=D.nx } σ2 H2) (hd:∀ σ H,Pv xs.length σ H->D.nx σ H) :
  ∃ W:Nat->Nat->St->Hp->Prop,(∃ m,W 0 m σ H)/\∀ i m σ H,W i m σ H->
   ((xj K a).stop i H/\D.nx σ H)\/((xj K a).go i H/\∃ N:St->Hp->Prop,(∀ σ' H',N σ' H'->∃ m',m' < m/\W (i+1) m' σ' H')/\∀ x H',(xj K a).yld i H x H'->g x σ H' fun σ2 H2=>tb { D with nx:=N,ct:=N,bk:=D.nx } σ2 H2):=by
 refine ⟨fun i m σ H=>m=xs.length - i/\i<=xs.length/\Pv i σ H,⟨xs.length,by simp,Bv _,h0⟩,?_⟩;rintro i m σ H ⟨rfl,hi,p⟩;have q:=hl i σ H hi p;by_cases Cu:i < xs.length
 ·refine .inr ⟨⟨xs,xs[i],q,by simp [Cu]⟩,Pv (i+1),fun σ' H' p'=>⟨xs.length - (i+1),zo,rfl,Cu,p'⟩,fun x H' y=>?_⟩;obtain ⟨e,y⟩:=y;subst e;exact hs i x σ _ (y xs q) p
 ·have e:i=xs.length:=by lia
  subst e;exact .inl ⟨⟨xs,q,AR _⟩,hd σ H p⟩
theorem c7 {lo:Int} {n:Nat} {g:TG} {tb:TS} {D:eX} (Pv:Nat->St->Hp->Prop) (h0:Pv 0 σ H)
  (hs:∀ i σ H,i < n->Pv i σ H->g (.int (lo+i)) σ H fun σ2 H2=>tb { D with nx:=Pv (i+1),ct:=Pv (i+1),bk:=D.nx } σ2 H2) (hd:∀ σ H,Pv n σ H->D.nx σ H) :
  ∃ W:Nat->Nat->St->Hp->Prop,(∃ m,W 0 m σ H)/\∀ i m σ H,W i m σ H->
   ((tH lo n).stop i H/\D.nx σ H)\/((tH lo n).go i H/\∃ N:St->Hp->Prop,(∀ σ' H',N σ' H'->∃ m',m' < m/\W (i+1) m' σ' H')/\∀ x H',(tH lo n).yld i H x H'->g x σ H' fun σ2 H2=>tb { D with nx:=N,ct:=N,bk:=D.nx } σ2 H2):=by
 refine ⟨fun i m σ H=>m=n - i/\i<=n/\Pv i σ H,⟨n,by simp,Bv _,h0⟩,?_⟩;rintro i m σ H ⟨rfl,hi,p⟩;by_cases Cu:i < n
 ·refine .inr ⟨Cu,Pv (i+1),fun σ' H' p'=>⟨n - (i+1),zo,rfl,Cu,p'⟩,fun x H' y=>?_⟩;obtain ⟨e,y⟩:=y;subst e y;exact hs i σ _ Cu p
 ·have e:i=n:=by lia
  subst e;exact .inl ⟨AR _,hd σ H p⟩
abbrev R2:=V->V->Hp->VK->Prop
def eG (X:Cx) (f:Value->Value->Sem Value) (r:R2):Prop:=
 ∀ (Cj:List (Addr×Obj)) (s:Shared) (σ:St) (H:Hp) (x y:V) (v u:Value) (Q:VK),CB X Cj σ H s->CG x v->CG y u->r x y H Q->
  wpAny (model X.prog X.w) X.A (f v u) (EP X Cj σ Q) X.xe s
def ze (X:Cx) (f:Value->Sem Value) (r:V->Hp->VK->Prop):Prop:=
 ∀ (Cj:List (Addr×Obj)) (s:Shared) (σ:St) (H:Hp) (x:V) (v:Value) (Q:VK),CB X Cj σ H s->CG x v->r x H Q->
  wpAny (model X.prog X.w) X.A (f v) (EP X Cj σ Q) X.xe s
def bJ (X:Cx) (f:Value) (r:List V->Hp->VK->Prop):Prop:=
 ∀ (Cj:List (Addr×Obj)) (s:Shared) (σ:St) (H:Hp) (xs:List V) (us:List Value) (Q:VK),CB X Cj σ H s->CD xs us->r xs H Q->
  wpAny (model X.prog X.w) X.A (call f us) (EP X Cj σ Q) X.xe s
def zf (X:Cx) (r:V->Hp->(Bool->Hp->Prop)->Prop):Prop:=
 ∀ (Cj:List (Addr×Obj)) (s:Shared) (σ:St) (H:Hp) (x:V) (v:Value) (Q:Bool->Hp->Prop),CB X Cj σ H s->CG x v->r x H Q->
  wpAny (model X.prog X.w) X.A (truthy v) (TP X Cj σ Q) X.xe s
def u9 (r:R2) (ta tb:TE):TE:=fun σ H Q=>ta σ H fun x H1=>tb σ H1 fun y H2=>r x y H2 Q
def Aq (r:V->Hp->VK->Prop) (ta:TE):TE:=fun σ H Q=>ta σ H fun x H1=>r x H1 Q
inductive rI (C:Int->Int->Prop) (g:Int->Int->V) (x:V) (y:V) (H:Hp) (Q:VK):Prop
 | mk (i j:_):x=.int i->y=.int j->C i j->Q (g i j) H->rI C g x y H Q
inductive tO (g:Int->Int->V) (x:V) (y:V) (H:Hp) (Q:VK):Prop
 | mk (i j:_):x=.int i->y=.int j->Q (g i j) H->tO g x y H Q
inductive rU (g:Int->V) (x:V) (H:Hp) (Q:VK):Prop
 | mk (i:_):x=.int i->Q (g i) H->rU g x H Q
section
variable {X:Cx} {a b c:Expr} {ta tb tc:TE} {pos:Pos}
theorem vH (ha:PE X a ta) (hb:PE X b tb) {R:V->V->Hp->Prop} (I:CB X Cj σ H s)
  (h:ta σ H fun x H1=>tb σ H1 fun y H2=>R x y H2) {Q:Value->Shared->Prop} {f:Value->Value->Sem Value}
  (hf:∀ v u s2 x y H2,CB X Cj σ H2 s2->CG x v->CG y u->R x y H2->wpAny (model X.prog X.w) X.A (f v u) Q X.xe s2) :
  wpAny (model X.prog X.w) X.A (eval a X.env) (fun v s₁=>wpAny (model X.prog X.w) X.A (eval b X.env) (fun u s₂=>wpAny (model X.prog X.w) X.A (f v u) Q X.xe s₂) X.xe s₁) X.xe s:=by
 refine bA (ha Cj s σ H _ I h) fun v s1 ⟨x,H1,I1,r1,q1⟩=>?_;refine bA (hb Cj s1 σ H1 _ I1 q1) fun u s2 ⟨y,H2,I2,r2,q2⟩=>?_;exact hf v u s2 x y H2 I2 r1 r2 q2
theorem aK {op:Operator} {r:R2} (ho:eG X (binaryOp op) r) (ha:PE X a ta) (hb:PE X b tb):PE X (.BinOp a op b pos) (u9 r ta tb):=by
 refine ⟨?_⟩;intro Cj s σ H Q I h;exact wpAny_BinOp (vH ha hb I h fun v u s2 x y H2 I2 rx ry q=>ho Cj s2 σ H2 x y v u Q I2 rx ry q)
theorem qO {op:UnaryOp} {r:V->Hp->VK->Prop} (ho:ze X (unaryOp op) r) (ha:PE X a ta):PE X (.UnaryOp op a pos) (Aq r ta):=by
 refine ⟨?_⟩;intro Cj s σ H Q I h;exact UnaryOp_ (bA (ha Cj s σ H _ I h) fun v s1 ⟨x,H1,I1,r1,q1⟩=>ho Cj s1 σ H1 x v Q I1 r1 q1)
theorem xk {f:Value->Value->Sem Value} {C:Int->Int->Prop} {g:Int->Int->Int}
  (rule:∀ (i j:Int) (t u:Tok) (s:Shared) (Q:Value->Shared->Prop) (E:Value->Shared->Prop),C i j->Q (.int (g i j) s.toks) { s with toks:=s.toks+1 }->wpAny (model X.prog X.w) X.A (f (.int i t) (.int j u)) Q E s) :
  eG X f (rI C fun i j=>.int (g i j)):=by
 intro Cj s σ H x y v u Q I rx ry h;obtain ⟨i,j,rfl,rfl,hc,q⟩:=h;obtain ⟨t,rfl⟩:=rx;obtain ⟨t',rfl⟩:=ry;exact rule i j t t' s _ _ hc ⟨.int (g i j),H,I.tok _,⟨_,rfl⟩,q⟩
theorem xC {f:Value->Value->Sem Value} {g:Int->Int->Int}
  (rule:∀ (i j:Int) (t u:Tok) (s:Shared) (Q:Value->Shared->Prop) (E:Value->Shared->Prop),Q (.int (g i j) s.toks) { s with toks:=s.toks+1 }->wpAny (model X.prog X.w) X.A (f (.int i t) (.int j u)) Q E s) :
  eG X f (tO fun i j=>.int (g i j)):=by
 intro Cj s σ H x y v u Q I rx ry h;obtain ⟨i,j,rfl,rfl,q⟩:=h;obtain ⟨t,rfl⟩:=rx;obtain ⟨t',rfl⟩:=ry;exact rule i j t t' s _ _ ⟨.int (g i j),H,I.tok _,⟨_,rfl⟩,q⟩
theorem tP {f:Value->Value->Sem Value} {g:Int->Int->Bool}
  (rule:∀ (i j:Int) (t u:Tok) (s:Shared) (Q:Value->Shared->Prop) (E:Value->Shared->Prop),Q (.bool (g i j)) s->wpAny (model X.prog X.w) X.A (f (.int i t) (.int j u)) Q E s) :
  eG X f (tO fun i j=>.bl (g i j)):=by
 intro Cj s σ H x y v u Q I rx ry h;obtain ⟨i,j,rfl,rfl,q⟩:=h;obtain ⟨t,rfl⟩:=rx;obtain ⟨t',rfl⟩:=ry;exact rule i j t t' s _ _ ⟨.bl (g i j),H,I,rfl,q⟩
def zg (i j:Int):Prop:=0 < j/\j < 1073741824
def xD (i j:Int):Prop:=0<=j/\j<=1000000/\i.natAbs < 2 ^ 64
def G3 (i j:Int):Prop:=(-(2 ^ 64) < i/\i < 2 ^ 64)\/(-(2 ^ 64) < j/\j < 2 ^ 64)
theorem G3.ok {i j:Int} (h:G3 i j):IntMulOk i j:=by
 rcases h with ⟨h1,h2⟩|⟨h1,h2⟩
 ·exact .of_left (intBits_le_64 h1 h2)
 ·exact .of_right (intBits_le_64 h1 h2)
theorem bZ:eG X (binaryOp .Add) (tO fun i j=>.int (i+j)):=xC fun _ _ _ _ _ _ _ q=>add_int q
theorem gm:eG X (binaryOp .Sub) (tO fun i j=>.int (i - j)):=xC fun _ _ _ _ _ _ _ q=>sub_int q
theorem fc:eG X (binaryOp .Mult) (rI G3 fun i j=>.int (i*j)):=xk fun _ _ _ _ _ _ _ hc q=>mul_int q hc.ok
theorem tQ:eG X (binaryOp .FloorDiv) (rI zg fun i j=>.int (i / j)):=xk fun i j _ _ _ _ _ hc q=>by
 have h1:(0:Int) < j:=hc.1;have h2:j < 1073741824:=hc.2;exact floordiv_int zo (by rw [Int.fdiv_eq_ediv_of_nonneg i zo];exact q) (.inl (PyProof.noPylong_small zo))
theorem gn:eG X (binaryOp .Mod) (rI (fun _ j=>0 < j) fun i j=>.int (i % j)):=xk fun i j _ _ _ _ _ hc q=>by
 have h1:(0:Int) < j:=hc;exact mod_int' zo (by rw [Int.fmod_eq_emod_of_nonneg i zo];exact q)
theorem vJ:eG X (binaryOp .Pow) (rI xD fun i j=>.int (i ^ j.toNat)):=xk fun _ _ _ _ _ _ _ hc q=>pow_int_small hc.1 hc.2.1 hc.2.2 q
theorem vK:eG X (binaryOp .LShift) (rI xD fun i j=>.int (i*2 ^ j.toNat)):=xk fun _ _ _ _ _ _ _ hc q=>lshift_int_small hc.1 hc.2.1 hc.2.2 q
theorem Ar {f:Value->Sem Value} {g:Int->Int}
  (rule:∀ (i:Int) (t:Tok) (s:Shared) (Q:Value->Shared->Prop) (E:Value->Shared->Prop),Q (.int (g i) s.toks) { s with toks:=s.toks+1 }->wpAny (model X.prog X.w) X.A (f (.int i t)) Q E s) :
  ze X f (rU fun i=>.int (g i)):=by
 intro Cj s σ H x v Q I rx h;obtain ⟨i,rfl,q⟩:=h;obtain ⟨t,rfl⟩:=rx;exact rule i t s _ _ ⟨.int (g i),H,I.tok _,⟨_,rfl⟩,q⟩
theorem mD:ze X (unaryOp .USub) (rU fun i=>.int (-i)):=Ar fun _ _ _ _ _ q=>neg_int q
end
def xE:V->V->Bool
 | .non,.non=>true|.non,.int _=>true|.int _,.non=>true|.non,.bl _=>true|.bl _,.non=>true|.non,.str _=>true|.str _,.non=>true
 | .int _,.int _=>true|.bl _,.bl _=>true|.str _,.str _=>true|.byt _,.byt _=>true
 | .int _,.str _=>true|.str _,.int _=>true|.bl _,.str _=>true|.str _,.bl _=>true
 | _,_=>false
def zU:R2:=fun x y H Q=>xE x y=true/\Q (.bl (decide (x=y))) H
def As:R2:=fun x y H Q=>xE x y=true/\Q (.bl (!decide (x=y))) H
theorem oe {i j:Int}:decide (V.int i=V.int j)=(i == j):=by
 rw [BF];simp
theorem qP {i j:Bool}:decide (V.bl i=V.bl j)=(i == j):=by
 rw [BF];simp
theorem og {i j:Str}:decide (V.str i=V.str j)=(i == j):=by
 rw [BF];simp
theorem oh {i j:Array UInt8}:decide (V.byt i=V.byt j)=(i.toList == j.toList):=by
 rw [BF];cases i;cases j;simp
section
variable {X:Cx} {a b c:Expr} {ta tb tc:TE} {pos:Pos}
theorem bd {Q:VK} {k k':Bool} (I:CB X Cj σ H s) (q:Q (.bl k) H) (e:k=k'):EP X Cj σ Q (.bool k') s:=by
 subst e;exact ⟨.bl k,H,I,rfl,q⟩
theorem bC:eG X (compareOp .Eq) zU:=by
 intro Cj s σ H x y v u Q I rx ry h;obtain ⟨hs,q⟩:=h;cases x with
 | non=>
  cases rx;cases y with
  | non=>cases ry;exact PySem.EqNone.eq_none_none (bd I q (by simp))
  | bl j=>cases ry;exact PySem.EqNone.eq_none_bool (bd I q (by simp))
  | int j=>obtain ⟨t',rfl⟩:=ry;exact PySem.EqNone.eq_none_int (bd I q (by simp))
  | str j=>obtain ⟨t',rfl⟩:=ry;exact PySem.EqNone.eq_none_str (bd I q (by simp))
  | _=>exact absurd (show false=true from hs) AS
 | bl i=>
  cases rx;cases y with
  | non=>cases ry;exact PySem.EqNone.eq_bool_none (bd I q (by simp))
  | bl j=>cases ry;exact eq_bool (bd I q qP)
  | str j=>obtain ⟨t',rfl⟩:=ry;exact PySem.EqMixed.eq_bool_str (bd I q (by simp))
  | _=>exact absurd (show false=true from hs) AS
 | int i=>
  obtain ⟨t,rfl⟩:=rx;cases y with
  | non=>cases ry;exact PySem.EqNone.eq_int_none (bd I q (by simp))
  | int j=>obtain ⟨t',rfl⟩:=ry;exact eq_int (bd I q oe)
  | str j=>obtain ⟨t',rfl⟩:=ry;exact PySem.EqMixed.eq_int_str (bd I q (by simp))
  | _=>exact absurd (show false=true from hs) AS
 | str i=>
  obtain ⟨t,rfl⟩:=rx;cases y with
  | non=>cases ry;exact PySem.EqNone.eq_str_none (bd I q (by simp))
  | bl j=>cases ry;exact PySem.EqMixed.eq_str_bool (bd I q (by simp))
  | int j=>obtain ⟨t',rfl⟩:=ry;exact PySem.EqMixed.eq_str_int (bd I q (by simp))
  | str j=>obtain ⟨t',rfl⟩:=ry;exact eq_str (bd I q og)
  | _=>exact absurd (show false=true from hs) AS
 | byt i=>
  obtain ⟨t,rfl⟩:=rx;cases y with
  | byt j=>obtain ⟨t',rfl⟩:=ry;exact PySem.W.eq_bytes (bd I q oh)
  | _=>exact absurd (show false=true from hs) AS
 | _=>cases y<;>exact absurd (show false=true from hs) AS
theorem vb:eG X (compareOp .NotEq) As:=by
 intro Cj s σ H x y v u Q I rx ry h;obtain ⟨hs,q⟩:=h;cases x with
 | non=>
  cases rx;cases y with
  | non=>cases ry;exact PySem.EqNone.ne_none_none (bd I q (by simp))
  | bl j=>cases ry;exact PySem.EqNone.ne_none_bool (bd I q (by simp))
  | int j=>obtain ⟨t',rfl⟩:=ry;exact PySem.EqNone.ne_none_int (bd I q (by simp))
  | str j=>obtain ⟨t',rfl⟩:=ry;exact PySem.EqNone.ne_none_str (bd I q (by simp))
  | _=>exact absurd (show false=true from hs) AS
 | bl i=>
  cases rx;cases y with
  | non=>cases ry;exact PySem.EqNone.ne_bool_none (bd I q (by simp))
  | bl j=>cases ry;exact ne_bool (bd I q (congrArg not qP))
  | str j=>obtain ⟨t',rfl⟩:=ry;exact PySem.EqMixed.ne_bool_str (bd I q (by simp))
  | _=>exact absurd (show false=true from hs) AS
 | int i=>
  obtain ⟨t,rfl⟩:=rx;cases y with
  | non=>cases ry;exact PySem.EqNone.ne_int_none (bd I q (by simp))
  | int j=>obtain ⟨t',rfl⟩:=ry;exact ne_int (bd I q (congrArg not oe))
  | str j=>obtain ⟨t',rfl⟩:=ry;exact PySem.EqMixed.ne_int_str (bd I q (by simp))
  | _=>exact absurd (show false=true from hs) AS
 | str i=>
  obtain ⟨t,rfl⟩:=rx;cases y with
  | non=>cases ry;exact PySem.EqNone.ne_str_none (bd I q (by simp))
  | bl j=>cases ry;exact PySem.EqMixed.ne_str_bool (bd I q (by simp))
  | int j=>obtain ⟨t',rfl⟩:=ry;exact PySem.EqMixed.ne_str_int (bd I q (by simp))
  | str j=>obtain ⟨t',rfl⟩:=ry;exact ne_str (bd I q (congrArg not og))
  | _=>exact absurd (show false=true from hs) AS
 | byt i=>
  obtain ⟨t,rfl⟩:=rx;cases y with
  | byt j=>obtain ⟨t',rfl⟩:=ry;exact PySem.W.ne_bytes (bd I q (congrArg not oh))
  | _=>exact absurd (show false=true from hs) AS
 | _=>cases y<;>exact absurd (show false=true from hs) AS
theorem jw:eG X (compareOp .Lt) (tO fun i j=>.bl (decide (i < j))):=tP fun _ _ _ _ _ _ _ q=>lt_int q
theorem k5:eG X (compareOp .LtE) (tO fun i j=>.bl (decide (i<=j))):=tP fun _ _ _ _ _ _ _ q=>le_int q
theorem qQ:eG X (compareOp .Gt) (tO fun i j=>.bl (decide (j < i))):=tP fun _ _ _ _ _ _ _ q=>gt_int q
theorem qR:eG X (compareOp .GtE) (tO fun i j=>.bl (decide (j<=i))):=tP fun _ _ _ _ _ _ _ q=>ge_int q
variable {op:CmpOp}
theorem qS (b:Expr) (h:op≠.In:=by decide) (h2:op≠.NotIn:=by decide):behindInMarks op b=false:=by
 have e1:(op == CmpOp.In)=false:=by cases op<;>first|rfl|exact absurd rfl h
 have e2:(op == CmpOp.NotIn)=false:=by cases op<;>first|rfl|exact absurd rfl h2
 cases b<;>simp [behindInMarks,e1,e2]
variable {r:R2}
theorem cH (ho:eG X (compareOp op) r) (ha:PE X a ta) (hb:PE X b tb) (hm:behindInMarks op b=false:=by first|exact qS _|rfl):PE X (.Compare a [op] [b] pos) (u9 r ta tb):=by
 refine ⟨?_⟩;intro Cj s σ H Q I h;exact wpAny_Compare1 (vH ha hb I h fun v u s2 x y H2 I2 rx ry q=>ho Cj s2 σ H2 x y v u Q I2 rx ry q) hm
inductive qT (Q:Bool->Hp->Prop) (x:V) (H':Hp):Prop
 | mk (k:_):x=.bl k->Q k H'->qT Q x H'
def oi (t:TE):TT:=fun σ H Q=>t σ H fun x H'=>qT Q x H'
theorem aC (ho:eG X (compareOp op) r) (ha:PE X a ta) (hb:PE X b tb) (hm:behindInMarks op b=false:=by first|exact qS _|rfl):PT X (.Compare a [op] [b] pos) (oi (u9 r ta tb)):=by
 refine ⟨?_⟩;intro Cj s σ H Q I h;refine wpAny_isTrue_Compare1 (bA (ha Cj s σ H _ I h) fun v s1 ⟨x,H1,I1,r1,q1⟩=>bA (hb Cj s1 σ H1 _ I1 q1) fun u s2 ⟨y,H2,I2,r2,q2⟩=>
  bA (ho Cj s2 σ H2 x y v u _ I2 r1 r2 q2) fun c s3 ⟨z,H3,I3,r3,k,e,q3⟩=>?_) hm
 subst e;cases r3;exact wpAny_truthy_bool ⟨H3,I3,q3⟩
inductive oj (r':R2) (tc:TE) (σ:St) (Q:VK) (y:V) (z:V) (H3:Hp):Prop
 | mk (k:_):z=.bl k->(if k=true then tc σ H3 fun w' H4=>r' y w' H4 Q else Q (.bl false) H3)->oj r' tc σ Q y z H3
def qU (r r':R2) (ta tb tc:TE):TE:=fun σ H Q=>ta σ H fun x H1=>tb σ H1 fun y H2=>r x y H2 fun z H3=>oj r' tc σ Q y z H3
theorem k6 {op op':CmpOp} {r r':R2} (ho:eG X (compareOp op) r) (ho':eG X (compareOp op') r') (ha:PE X a ta) (hb:PE X b tb) (hc:PE X c tc)
  (hm:lastMarks [op,op'] [b,c]=false:=by with_unfolding_all rfl):PE X (.Compare a [op,op'] [b,c] pos) (qU r r' ta tb tc):=by
 refine ⟨?_⟩;intro Cj s σ H Q I h;refine Compare_chain (bA (ha Cj s σ H _ I h) fun v s1 ⟨x,H1,I1,r1,q1⟩=>chain_link (bA (hb Cj s1 σ H1 _ I1 q1) fun u s2 ⟨y,H2,I2,r2,q2⟩=>
  bA (ho Cj s2 σ H2 x y v u _ I2 r1 r2 q2) fun d s3 ⟨z,H3,I3,r3,k,e,q3⟩=>?_)) hm
 subst e;cases r3;refine wpAny_truthy_bool ?_;cases k with
 | false=>exact ite_ff ⟨.bl false,H3,I3,rfl,q3⟩
 | true=>exact ite_tt (chain_last (bA (hc Cj s3 σ H3 _ I3 q3) fun w' s4 ⟨z',H4,I4,r4,q4⟩=>ho' Cj s4 σ H4 y z' u w' Q I4 r2 r4 q4))
theorem qV {op op':CmpOp} {r r':R2} (ho:eG X (compareOp op) r) (ho':eG X (compareOp op') r') (ha:PE X a ta) (hb:PE X b tb) (hc:PE X c tc)
  (hm:lastMarks [op,op'] [b,c]=false:=by with_unfolding_all rfl):PT X (.Compare a [op,op'] [b,c] pos) (oi (qU r r' ta tb tc)):=by
 refine ⟨?_⟩;intro Cj s σ H Q I h;refine isTrue_chain (bA (ha Cj s σ H _ I h) fun v s1 ⟨x,H1,I1,r1,q1⟩=>test_link (bA (hb Cj s1 σ H1 _ I1 q1) fun u s2 ⟨y,H2,I2,r2,q2⟩=>
  bA (ho Cj s2 σ H2 x y v u _ I2 r1 r2 q2) fun d s3 ⟨z,H3,I3,r3,k,e,q3⟩=>?_)) hm
 subst e;cases r3;refine wpAny_truthy_bool ?_;cases k with
 | false=>
  obtain ⟨k',e',q'⟩:=q3;cases e';exact ite_ff ⟨H3,I3,q'⟩
 | true=>
  refine ite_tt (test_last (bA (hc Cj s3 σ H3 _ I3 q3) fun w' s4 ⟨z',H4,I4,r4,q4⟩=>bA (ho' Cj s4 σ H4 y z' u w' _ I4 r2 r4 q4) fun d' s5 ⟨z2,H5,I5,r5,k2,e2,q5⟩=>?_));subst e2;cases r5;exact wpAny_truthy_bool ⟨H5,I5,q5⟩
def xF (K:ZF) (x:V) (H:Hp) (k:Bool):Prop:=
 match x with
 | .non=>k=false
 | .bl b=>k=b
 | .int i=>k=(i != 0)
 | .str y=>y.length<=sizeLine/\k=((y.length:Int) != 0)
 | .byt y=>y.size<=sizeLine/\k=((y.size:Int) != 0)
 | .ref p=>(∃ xs,Cz K H p xs/\k=!xs.isEmpty)\/(∃ xs,CI K H p xs/\k=!xs.isEmpty)\/∃ kvs,H p=some (.dK kvs)/\k=!kvs.isEmpty
 | _=>False
theorem mE {κ:Type} {kvs:List (κ×V)} {vs:List (κ×Value)} (r:KV kvs vs):(!vs.isEmpty)=!kvs.isEmpty:=by
 cases r<;>rfl
theorem ip {its:List Value} (r:CD xs its):(!its.toArray.isEmpty)=!xs.isEmpty:=by
 cases r<;>simp
theorem iq:(sizeLine:Nat) < 2 ^ 63:=by rw [sizeLine_eq];decide
theorem vL:zf X (fun x H Q=>∃ k,xF X.K x H k/\Q k H):=by
 intro Cj s σ H x v Q I rx h;obtain ⟨k,e,q⟩:=h;have hl:=iq;have hs:sizeLine=16777216:=sizeLine_eq;cases x with
 | non=>
  cases rx;have e':k=false:=e;subst e';exact truthy_none ⟨H,I,q⟩
 | bl b=>
  cases rx;have e':k=b:=e;subst e';exact wpAny_truthy_bool ⟨H,I,q⟩
 | int i=>
  obtain ⟨t,rfl⟩:=rx;have e':k=(i != 0):=e;subst e';exact PySem.P.truthy_int ⟨H,I,q⟩
 | str y=>
  obtain ⟨t,rfl⟩:=rx;obtain ⟨hy,e'⟩:y.length<=sizeLine/\k=((y.length:Int) != 0):=e;subst e';exact PySem.P.truthy_str zo ⟨H,I.tok _,q⟩
 | byt y=>
  obtain ⟨t,rfl⟩:=rx;obtain ⟨hy,e'⟩:y.size<=sizeLine/\k=((y.size:Int) != 0):=e;subst e';exact PySem.W.truthy_bytes zo ⟨H,I.tok _,q⟩
 | ref p=>
  cases rx;have e':(∃ xs,Cz X.K H p xs/\k=!xs.isEmpty)\/(∃ xs,CI X.K H p xs/\k=!xs.isEmpty)\/∃ kvs,H p=some (.dK kvs)/\k=!kvs.isEmpty:=e;rcases e' with ⟨xs,hx,e'⟩|⟨xs,hx,e'⟩|⟨kvs,hx,e'⟩
  ·subst e';obtain ⟨its,r,pl,hz⟩:=I.list hx;have Ck:=r.length;exact wpAny_truthy_list pl.isList (by simp only [AV];lia) ⟨H,I.tok _,by rw [ip r];exact q⟩
  ·subst e';obtain ⟨its,r,pl,hz⟩:=I.tuple hx;have Ck:=r.length;exact truthy_tuple pl (by simp only [AV];lia) ⟨H,I.tok _,by rw [ip r];exact q⟩
  ·subst e';obtain ⟨hz,hS,vs,r,m⟩:kvs.length<=sizeLine/\(p == sysModules)=false/\∃ vs,KV kvs vs/\s.heap.DictOf (aU X.prog X.w) p vs:=I.hok p _ hx;have Ck:kvs.length=vs.length:=Paired.length r;exact wpAny_truthy_dict hS m zo ⟨H,I.tok _,by rw [mE r];exact q⟩
 | _=>exact (show False from e).elim
theorem qW (ha:PE X a ta) (he:∀ whole,isTrue a X.env whole=(do let v <-whole;standAt a.pos;holding [v] (truthy v))) :
  PT X a (fun σ H Q=>ta σ H fun x H'=>∃ k,xF X.K x H' k/\Q k H'):=by
 refine ⟨?_⟩;intro Cj s σ H Q I h;exact isTrue_plain (bA (ha Cj s σ H _ I h) fun v s1 ⟨x,H1,I1,r1,q1⟩=>vL Cj s1 σ H1 x v Q I1 r1 q1) (he _)
theorem ir:eG X (binaryOp .Add) (fun x y H Q=>∃ i j,x=.str i/\y=.str j/\i.length+j.length<=sizeLine/\Q (.str (i++j)) H):=by
 intro Cj s σ H x y v u Q I rx ry h;obtain ⟨i,j,rfl,rfl,hz,q⟩:=h;obtain ⟨t,rfl⟩:=rx;obtain ⟨t',rfl⟩:=ry;exact add_str (fun t' tk=>⟨.str (i++j),H,I.tok _,⟨_,rfl⟩,q⟩) hz
theorem cK (r:CD [x] us):∃ u,us=[u]/\CG x u:=by
 cases r with
 | cons r1 r2=>cases r2;exact ⟨_,rfl,r1⟩
theorem qX (r:CD [x,y] us):∃ u w',us=[u,w']/\CG x u/\CG y w':=by
 cases r with
 | cons r1 r2=>
  cases r2 with
  | cons r3 r4=>cases r4;exact ⟨_,_,rfl,r1,r3⟩
theorem pk (hc:X.calm=true):bJ X (.builtin "max") (fun xs H Q=>∃ i j,xs=[.int i,.int j]/\Q (.int (if j > i then j else i)) H):=by
 intro Cj s σ H xs us Q I r h;obtain ⟨i,j,rfl,q⟩:=h;obtain ⟨u,w',rfl,⟨t,rfl⟩,⟨t',rfl⟩⟩:=qX r;refine max_two_ints (I.ok.hd hc) fun h' tk k=>⟨_,H,I.kept k,?_,q⟩;by_cases hj:j > i
 ·rw [if_pos hj,if_pos hj];exact ⟨_,rfl⟩
 ·rw [if_neg hj,if_neg hj];exact ⟨_,rfl⟩
theorem gp (hc:X.calm=true):bJ X (.builtin "min") (fun xs H Q=>∃ i j,xs=[.int i,.int j]/\Q (.int (if j < i then j else i)) H):=by
 intro Cj s σ H xs us Q I r h;obtain ⟨i,j,rfl,q⟩:=h;obtain ⟨u,w',rfl,⟨t,rfl⟩,⟨t',rfl⟩⟩:=qX r;refine min_two_ints (I.ok.hd hc) fun h' tk k=>⟨_,H,I.kept k,?_,q⟩;by_cases hj:j < i
 ·rw [if_pos hj,if_pos hj];exact ⟨_,rfl⟩
 ·rw [if_neg hj,if_neg hj];exact ⟨_,rfl⟩
theorem pq:bJ X (.type "int") (fun xs H Q=>(∃ i,xs=[.int i]/\Q (.int i) H)\/∃ k,xs=[.bl k]/\Q (.int (if k then 1 else 0)) H):=by
 intro Cj s σ H xs us Q I r h;rcases h with ⟨i,rfl,q⟩|⟨k,rfl,q⟩
 ·obtain ⟨u,rfl,t,rfl⟩:=cK r;exact call_int_int ⟨.int i,H,I,⟨_,rfl⟩,q⟩
 ·obtain ⟨u,rfl,r1⟩:=cK r;cases r1;exact call_int_bool ⟨.int (if k then 1 else 0),H,I.tok _,⟨_,rfl⟩,q⟩
theorem fH:bJ X (.type "str") (fun xs H Q=>∃ i,xs=[.int i]/\i.natAbs.log2 < 1920/\Q (.str (toString i)) H):=by
 intro Cj s σ H xs us Q I r h;obtain ⟨i,rfl,hz,q⟩:=h;obtain ⟨u,rfl,t,rfl⟩:=cK r;exact PySem.P.str_of_int hz ⟨.str _,H,I.tok _,⟨_,rfl⟩,q⟩
end
structure Fh (h:Heap) (x dx C:Addr) (mA:Str->Option Value):Prop where
 obj:h.get? x=some (PySem.W.instObj C dx)
 ns:h.Ns1 dx mA
 ne:dx≠x
variable {mA:Str->Option Value} {dx:Addr}
theorem pA (n:h.Ns1 dx mA):∃ od,h.get? dx=some od/\∀ name,PySem.W.lookIn name od=some (mA name):=by
 obtain ⟨o,es,ep,ho,hd,hk,_,hm⟩:=n;refine ⟨o,ho,fun name=>?_⟩;have e:=hm name;unfold nsFind findBy at e;rw [<-Array.find?_toList] at e;unfold PySem.W.lookIn;rw [hd];dsimp only;split
 ·rename_i y q;rw [q] at e;exact congrArg some e
 ·rename_i q;rw [q] at e;have a:es.toList.any (·.refKey)=false:=by
   rw [List.any_eq_false];intro y hy;obtain ⟨z,t,hkey⟩:=hk y (Array.mem_toList_iff.mp hy);simp [DictEntry.refKey,hkey]
  have a':¬ es.toList.any (·.refKey)=true:=by rw [a];exact AS
  rw [if_neg a'];exact congrArg some e
theorem Fh.look {x dx C:Addr} (I:Fh h x dx C mA):∃ od,PySem.W.InstAt h x (PySem.W.instObj C dx) C (some od)/\∀ name,PySem.W.lookIn name od=some (mA name):=
 let ⟨od,ho,hl⟩:=pA I.ns
 ⟨od,⟨I.obj,rfl,rfl,ho⟩,hl⟩
section
variable {prog:Program} {w:World} {A:Around} {E:Value->Shared->Prop} {s:Shared} {K:ZF} {x dx C f:Addr} {mA:Str->Option Value} {name:Str} {v:Value}
theorem tR {expr:Bool} {Q:Value->Shared->Prop} (X:K.In s.heap) (I:Fh s.heap x dx C mA) (hg:PySem.W.plainGet K C name=true) (hh:PySem.W.hasDictIn K C=true)
  (ha:PySem.W.findIn K (.ref C) name=some none) (hv:mA name=some v) (hv':PySem.W.handedIn v=true) (h:Q v { s with toks:=s.toks+1 }) :
  wpAny (model prog w) A (getAttr (.ref x) name expr) Q E s:=by
 obtain ⟨od,J,hl⟩:=I.look;exact PySem.W.get_value X J (PySem.W.plainGet_of hg).1 (PySem.W.findObj_own hh ha rfl (by rw [hl,hv])) hv' h
theorem qY {pl:Sem Bool} {Q:Value×List Value->Shared->Prop} (X:K.In s.heap) (I:Fh s.heap x dx C mA) (hg:PySem.W.plainGet K C name=true)
  (hf:PySem.W.findIn K (.ref C) name=some (some (.ref f))) (ht:PySem.W.isFn K (.ref f)=true) (hv:mA name=none) (h:Q (.ref f,[.ref x]) s) :
  wpAny (model prog w) A (getMethod (.ref x) name pl) Q E s:=by
 obtain ⟨od,J,hl⟩:=I.look;exact PySem.W.method_fn X J (PySem.W.plainGet_of hg).1 (PySem.W.plainGet_of hg).2 hf (beq_iff_eq.mp ht) (by show (PySem.W.lookIn name od).map (·.isSome)=some false;rw [hl,hv];rfl) h
theorem tT {ns:List Str} {Q:Unit->Shared->Prop} (X:K.In s.heap) (I:Fh s.heap x dx C mA)
  (hs:PySem.W.findIn K (.ref C) "__setattr__"=some (some (.builtin "object.__setattr__"))) (hp:PySem.W.plainOver K C=true) (ht:PySem.W.takerIn K C name=some none) (hh:PySem.W.hasDictIn K C=true)
  (hw:PySem.Within mA ns) (hsz:ns.length<=sizeLine)
  (h:∀ h',Fh h' x dx C (fun y=>if y=name then some v else mA y)->Heap.SameBut dx s.heap h'->Q () { s with heap:=h',toks:=s.toks+2 }) :
  wpAny (model prog w) A (setAttr (.ref x) name v) Q E s:=by
 obtain ⟨od,J,hl⟩:=I.look;refine PySem.W.set_plain X J hs (PySem.W.osa_open (s:={ s with toks:=s.toks+1 }) (r:=none) X J hp ht fun b=>?_);obtain ⟨cd,hc,hd'⟩:=PySem.W.any_some hh;have hx:s.heap.get? x=some ⟨.ref C,some dx,.plain,#[]⟩:=I.obj;refine wpAny_bind (wpAny_pure (wpAny_bind (wpAny_bind (wpAny_loadPart hx (wpAny_bind (PySem.W.Looks.here (s:={ s with toks:=s.toks+1 }) (PySem.W.looks_clsIn X hc) ?_))))));rw [hd'];refine wpAny_pure (a:=some dx) (wpAny_bind (wpAny_pure (wpAny_bind ?_)));refine wpAny_nsSet1 (s:={ s with toks:=s.toks+1 }) I.ns fun h' hn2 hs2=>?_;obtain ⟨oD,esD,epD,hoD,hdD,hcD⟩:=hn2.count (PySem.Within.cons name v hw);refine wpAny_bind (wpAny_lookBehind hoD (by rw [hdD];exact pastItsLine_dict (A8 hcD (by rw [Bj];lia))) ?_);exact wpAny_pure (h _ ⟨(hs2.2 _ (Ne.symm I.ne)).trans I.obj,hn2,I.ne⟩ hs2)
theorem qZ {R:Result->Shared->Prop} {vs:List Value} {kw:List (Str×Value)} (X:K.In s.heap) (hm:PySem.W.makesIn K C=true)
  (hi:PySem.W.findIn K (.ref C) "__init__"=some (some (.ref f))) (hf:PySem.W.typeIn K (.ref f)=some (.type "function"))
  (h:codeAny (model prog w) (A.under (.builtin "type.__call__" ⟨.ref C::vs,kw⟩)) (.call (.ref f) ⟨.ref (s.heap.objs.size+1)::vs,kw⟩) (PySem.W.InitBack (s.heap.objs.size+1) R)
   { s with heap:=(s.heap.push PySem.W.emptyDict).push (PySem.W.instObj C s.heap.objs.size) }) :
  codeAny (model prog w) A (.call (.ref C) ⟨vs,kw⟩) R s:=by
 obtain ⟨hh,g,d,t,os⟩:=s;exact PySem.W.make_core (PySem.W.makes_of X hm) (PySem.W.looks_findIn X hi) (fun self=>PySem.W.bind_fn X self hf) (.inl rfl) h
end
def eZ (f:Str) (v:V):List (Str×V)->List (Str×V)
 | []=>[(f,v)]
 | (g,x)::r=>if g=f then (g,v)::r else (g,x)::eZ f v r
theorem gP (f g:Str) (v:V):∀ fs:List (Str×V),(eZ f v fs).lookup g=if g=f then some v else fs.lookup g
 | []=>by
  show List.lookup g [(f,v)]=_;by_cases h:g=f
  ·have hb:(g == f)=true:=beq_iff_eq.mpr h;simp only [List.lookup,hb,if_pos h]
  ·have hb:(g == f)=false:=beq_eq_false_iff_ne.mpr h;simp only [List.lookup,hb,if_neg h]
 | (k,x)::r=>by
  have ih:=gP f g v r;rw [show eZ f v ((k,x)::r)=(if k=f then (k,v)::r else (k,x)::eZ f v r) from rfl];by_cases hk:k=f
  ·rw [if_pos hk];by_cases h:g=k
   ·have hb:(g == k)=true:=beq_iff_eq.mpr h;simp only [List.lookup,hb,if_pos (h.trans hk)]
   ·have hb:(g == k)=false:=beq_eq_false_iff_ne.mpr h;simp only [List.lookup,hb,if_neg (fun e:g=f=>h (e.trans hk.symm))]
  ·rw [if_neg hk];by_cases h:g=k
   ·have hb:(g == k)=true:=beq_iff_eq.mpr h;simp only [List.lookup,hb,if_neg (fun e:g=f=>hk (h.symm.trans e))]
   ·have hb:(g == k)=false:=beq_eq_false_iff_ne.mpr h;simp only [List.lookup,hb];exact ih
theorem gq (f:Str) (v:V):∀ fs:List (Str×V),f∈(eZ f v fs).map (·.1)/\∀ g,g∈fs.map (·.1)->g∈(eZ f v fs).map (·.1)
 | []=>⟨by simp [eZ],fun g h=>by simp at h⟩
 | (k,x)::r=>by
  obtain ⟨i1,i2⟩:=gq f v r;rw [show eZ f v ((k,x)::r)=(if k=f then (k,v)::r else (k,x)::eZ f v r) from rfl];by_cases hk:k=f
  ·rw [if_pos hk];subst hk;exact ⟨by simp,fun g h=>by simpa using h⟩
  ·rw [if_neg hk];refine ⟨?_,fun g h=>?_⟩
   ·rw [BB];exact A2 _ i1
   ·rw [BB] at h ⊢;rcases AZ.mp h with e|e
    ·exact AZ.mpr (.inl e)
    ·exact A2 _ (i2 g e)
theorem gQ (f:Str) (v:V):∀ fs:List (Str×V),(eZ f v fs).length<=fs.length+1
 | []=>by simp [eZ]
 | (k,x)::r=>by
  have ih:=gQ f v r;rw [show eZ f v ((k,x)::r)=(if k=f then (k,v)::r else (k,x)::eZ f v r) from rfl];by_cases hk:k=f
  ·rw [if_pos hk,Bj,Bj];lia
  ·rw [if_neg hk,Bj,Bj];lia
variable {v:V}
theorem DM.some_of {o:Option Value} (r:DM (some v) o):∃ u,o=some u/\CG v u:=by
 cases o with
 | none=>exact (show False from r).elim
 | some u=>exact ⟨u,rfl,r⟩
theorem DM.none_of {o:Option Value} (r:DM none o):o=none:=by
 cases o with
 | none=>rfl
 | some u=>exact (show False from r).elim
theorem pB (r:CG v u):PySem.W.handedIn u=true:=by
 cases v with
 | non=>cases (show u=Value.none from r);rfl
 | bl b=>cases (show u=Value.bool b from r);rfl
 | int i=>obtain ⟨t,e⟩:=(show ∃ t,u=Value.int i t from r);cases e;rfl
 | str x=>obtain ⟨t,e⟩:=(show ∃ t,u=Value.str x t from r);cases e;rfl
 | byt b=>obtain ⟨t,e⟩:=(show ∃ t,u=Value.bytes b t from r);cases e;rfl
 | flt b=>obtain ⟨t,e⟩:=(show ∃ t,u=Value.float b t from r);cases e;rfl
 | ref a=>cases (show u=Value.ref a from r);rfl
 | ty n=>cases (show u=Value.type n from r);rfl
section
variable {P:Program} {w:World} {H H':Hp} {h h':Heap} {a C dx:Addr} {fs fs':List (Str×V)}
theorem hV (hok:DN P w H h) (e:H a=some (.ins C dx fs)):∃ mA,Fh h a dx C mA/\(∀ f,DM (fs.lookup f) (mA f))/\PySem.Within mA (fs.map (·.1))/\fs.length<=1000/\H dx=some (.own a):=by
 obtain ⟨d,z,ne,ob,mA,n,r,q⟩:=(show CO P w H h a (.ins C dx fs) from hok a _ e);exact ⟨mA,⟨ob,n,ne⟩,r,q,z,d⟩
end
structure FY (K:ZF) (C:Addr):Prop where
 pg:PySem.W.plainGet K C Str.empty=true
 hd:PySem.W.hasDictIn K C=true
 po:PySem.W.plainOver K C=true
 sa:PySem.W.findIn K (.ref C) "__setattr__"=some (some (.builtin "object.__setattr__"))
variable {C:Addr}
theorem FY.get (c:FY K C) (f:Str):PySem.W.plainGet K C f=true:=c.pg
def Dz (K:ZF) (C:Addr) (f:Str):Prop:=PySem.W.findIn K (.ref C) f=some none
variable {f:Str}
theorem Dz.taker (n:Dz K C f):PySem.W.takerIn K C f=some none:=by
 unfold PySem.W.takerIn;rw [show PySem.W.findIn K (.ref C) f=some none from n];rfl
structure tU (K:ZF) (C:Addr) (m:Str) (f:Addr):Prop where
 at_:PySem.W.findIn K (.ref C) m=some (some (.ref f))
 fn:PySem.W.isFn K (.ref f)=true
 kp:PySem.W.keepIn K (.ref f)=true
section
variable {X:Cx} {Cj:List (Addr×Obj)} {σ:St} {H:Hp} {s:Shared} {a C dx:Addr} {fs:List (Str×V)} {f:Str} {v:V} {A:Around} {E:Value->Shared->Prop}
theorem mF {b:Bool} {Q:Value->Shared->Prop} (I:CB X Cj σ H s) (e:H a=some (.ins C dx fs)) (c:FY X.K C) (n:Dz X.K C f) (l:fs.lookup f=some v)
  (h:∀ u s',CB X Cj σ H s'->CG v u->Q u s'):wpAny (model X.prog X.w) A (getAttr (.ref a) f b) Q E s:=by
 obtain ⟨mA,O,r,_,_,_⟩:=hV I.hok e;obtain ⟨u,hu,ru⟩:=DM.some_of (v:=v) (o:=mA f) (by rw [<-l];exact r f);exact tR I.kIn O (c.get f) c.hd n hu (pB ru) (h u _ (I.tok _) ru)
theorem iu {m:Str} {g:Addr} {pl:Sem Bool} {Q:Value×List Value->Shared->Prop} (I:CB X Cj σ H s) (e:H a=some (.ins C dx fs)) (c:FY X.K C) (k:tU X.K C m g) (l:fs.lookup m=none)
  (h:Q (.ref g,[.ref a]) s):wpAny (model X.prog X.w) A (getMethod (.ref a) m pl) Q E s:=by
 obtain ⟨mA,O,r,_,_,_⟩:=hV I.hok e;have hn:mA m=none:=DM.none_of (by rw [<-l];exact r m);exact qY I.kIn O (c.get m) k.at_ k.fn hn h
theorem mG {Q:Unit->Shared->Prop} (I:CB X Cj σ H s) (e:H a=some (.ins C dx fs)) (c:FY X.K C) (n:Dz X.K C f) (hl:fs.length < 1000) (ry:CG y u)
  (h:∀ s',CB X Cj σ (aB H a (.ins C dx (eZ f y fs))) s'->Q () s'):wpAny (model X.prog X.w) A (setAttr (.ref a) f u) Q E s:=by
 obtain ⟨mA,O,r,wi,_,ho⟩:=hV I.hok e;have hz:(fs.map (·.1)).length<=sizeLine:=by rw [AM,sizeLine_eq];lia
 refine tT I.kIn O c.sa c.po n.taker c.hd wi hz fun h' O' sb=>h _ ?_;have hd:∃ o,h'.get? dx=some o:=let ⟨o,_,_,e',_⟩:=O'.ns;⟨o,e'⟩;refine I.write (x:=a) (e:=dx) (by rw [e];exact True.intro) (.inr ho) (fun b q hb z=>(sb.2 b hb).trans z) hd ?_;refine ⟨by rw [az O.ne];exact ho,?_,O.ne,O'.obj,_,O'.ns,fun g=>?_,fun g hg=>?_⟩
 ·have:=gQ f y fs;lia
 ·show DM ((eZ f y fs).lookup g) (if g=f then some u else mA g);rw [gP];by_cases q:g=f
  ·rw [if_pos q,if_pos q];exact ry
  ·rw [if_neg q,if_neg q];exact r g
 ·by_cases q:g=f
  ·rw [q];exact (gq f y fs).1
  ·refine (gq f y fs).2 g (wi g fun z=>hg ?_);show (if g=f then some u else mA g)=none;rw [if_neg q];exact z
theorem CB.made (I:CB X Cj σ H s):CB X Cj σ (aB (aB H s.heap.objs.size (.own (s.heap.objs.size+1))) (s.heap.objs.size+1) (.ins C s.heap.objs.size []))
  { s with heap:=(s.heap.push PySem.W.emptyDict).push (PySem.W.instObj C s.heap.objs.size) }:=by
 have e1:(s.heap.push PySem.W.emptyDict).get? s.heap.objs.size=some PySem.W.emptyDict:=AO s.heap rfl;have e2:((s.heap.push PySem.W.emptyDict).push (PySem.W.instObj C s.heap.objs.size)).get? (s.heap.objs.size+1)=some (PySem.W.instObj C s.heap.objs.size):=by
  have:=AO (s.heap.push PySem.W.emptyDict) (o:=PySem.W.instObj C s.heap.objs.size) rfl
  rwa [Bb] at this
 have e3:(s.heap.push PySem.W.emptyDict).Ns s.heap.objs.size (fun _=>none):=⟨PySem.W.emptyDict,#[],_,e1,rfl,(fun e he=>absurd he (by simp)),fun _=>rfl⟩;have I1:=I.laid (a:=s.heap.objs.size) (o:=.own (s.heap.objs.size+1)) (h':=s.heap.push PySem.W.emptyDict) (t':=s.toks) (fun b u q=>AK _ q) (AR _) ⟨_,e1⟩;refine I1.laid (a:=s.heap.objs.size+1) (o:=.ins C s.heap.objs.size []) (t':=s.toks) (fun b u q=>AK _ q) (Nat.le_of_eq (Bb _ _)) ?_;have ne:s.heap.objs.size≠s.heap.objs.size+1:=AW (BI _);refine ⟨by rw [az ne,af],Bv _,ne,e2,fun _=>none,(Heap.Ns1.of_empty e3).at fun o q=>AK _ q,fun _=>True.intro,fun y hy=>absurd rfl hy⟩
theorem tV {prog:Program} {w:World} {env:Env} {pos:Pos} {s:Shared} {Q:Value->Shared->Prop} (hb:attributeBase e f env (eval e env)=eval e env)
  (h:wpAny (model prog w) A (eval e env) (fun o s₁=>wpAny (model prog w) A (getAttr o f true) Q E s₁) E s):wpAny (model prog w) A (eval (.Attribute e f pos) env) Q E s:=
 Attribute_any_ h (by rw [arm_eval_Attribute,hb])
end
inductive vc (K:ZF) (f:Str) (Q:VK) (x:V) (H1:Hp):Prop
 | mk (a C dx fs v:_):x=.ref a->H1 a=some (.ins C dx fs)->FY K C->Dz K C f->fs.lookup f=some v->Q v H1->vc K f Q x H1
def zh (K:ZF) (ta:TE) (f:Str):TE:=fun σ H Q=>ta σ H fun x H1=>vc K f Q x H1
inductive vd (K:ZF) (f:Str) (D:eX) (σ:St) (y:V) (x:V) (H2:Hp):Prop
 | mk (a C dx fs:_):x=.ref a->H2 a=some (.ins C dx fs)->FY K C->Dz K C f->fs.length < 1000->D.nx σ (aB H2 a (.ins C dx (eZ f y fs)))->vd K f D σ y x H2
def zi (K:ZF) (ta tv:TE) (f:Str):TS:=fun D σ H=>tv σ H fun y H1=>ta σ H1 fun x H2=>vd K f D σ y x H2
section
variable {X:Cx} {o e value:Expr} {f:Str} {pos pos' tpos:Pos} {ta tv:TE}
theorem da (he:PE X e ta) (hb:attributeBase e f X.env (eval e X.env)=eval e X.env):PE X (.Attribute e f pos) (zh X.K ta f):=by
 refine ⟨?_⟩;intro Cj s σ H Q I h;refine tV hb (bA (he Cj s σ H _ I h) fun u s1 ⟨x,H1,I1,rx,a,C,dx,fs,v,ex,ea,c,n,l,q⟩=>?_);subst ex;obtain rfl:u=Value.ref a:=rx;exact mF I1 ea c n l fun u' s2 I2 ru=>⟨v,H1,I2,ru,q⟩
theorem cv (ha:PE X o ta) (hv:PE X value tv) (hs:swapsWith value (some (.Attribute o f pos')) pos.line X.env=pure false):PS X (.Assign [.Attribute o f pos'] value pos) (zi X.K ta tv f):=by
 refine ⟨?_⟩;intro Cj s σ H D I h;refine plainObj_wpAny_Assign_Attribute (bA (hv Cj s σ H _ I h) fun u s1 ⟨y,H1,I1,ry,q⟩=>bA (ha Cj s1 σ H1 _ I1 q) fun ov s2 ⟨x,H2,I2,rx,a,C,dx,fs,ex,ea,c,n,l,q2⟩=>?_) hs;subst ex;obtain rfl:ov=Value.ref a:=rx;exact mG I2 ea c n l ry fun s3 I3=>⟨σ,_,I3,q2⟩
end
section
variable {X:Cx} {Cj:List (Addr×Obj)} {σ:St} {H:Hp} {s:Shared} {A:Around} {E:Value->Shared->Prop} {Q:Value->Shared->Prop} {c:Value} {b:Bool}
inductive Dr (K:ZF) (H:Hp):V->Value->Prop where
 | non:Dr K H .non (.type "NoneType")
 | bl (x:Bool):Dr K H (.bl x) (.type "bool")
 | int (i:Int):Dr K H (.int i) (.type "int")
 | str (x:Str):Dr K H (.str x) (.type "str")
 | flt (x:UInt64):Dr K H (.flt x) (.type "float")
 | lst {a:Addr} {xs:List V} (e:H a=some (.lst xs)):Dr K H (.ref a) (.type "list")
 | frz {a:Addr} {o:Obj} {xs:List V} (e:H a=some (.frz o (.lst xs))):Dr K H (.ref a) (.type "list")
 | tup {a:Addr} {xs:List V} (e:H a=some (.tup xs)):Dr K H (.ref a) (.type "tuple")
 | dK {a:Addr} {kvs:List (cJ×V)} (e:H a=some (.dK kvs)):Dr K H (.ref a) (.type "dict")
 | dT {a:Addr} {kvs:List (List cJ×V)} (e:H a=some (.dT kvs)):Dr K H (.ref a) (.type "dict")
 | ins {a C dx:Addr} {fs:List (Str×V)} (e:H a=some (.ins C dx fs)) (cl:FY K C) (ha:PySem.W.findIn K (.ref C) "__class__"=some (some (.builtin "object.__class__")))
   (hn:PySem.W.specialIn K (.builtin "object.__class__") "__get__"=some (some (.builtin "getset_descriptor.__get__"))) (htk:PySem.W.takesIn K (.builtin "object.__class__")=some true)
   (hm:PySem.W.mroIn K C (.type "object")=some true):Dr K H (.ref a) (.ref C)
theorem pC {u t:Value} (I:CB X Cj σ H s) (rx:CG x u) (ty:Dr X.K H x t) (e:PySem.W.kitOne X.K t c=some b) (h:∀ tk,Q (.bool b) { s with toks:=tk }) :
  wpAny (model X.prog X.w) A (call (.builtin "isinstance") [u,c]) Q E s:=by
 cases ty with
 | non=>cases (show u=Value.none from rx);exact BM PySem.W.kitx_none I.kIn True.intro e (fun z=>nomatch z) h
 | bl y=>cases (show u=Value.bool y from rx);exact BM PySem.W.kitx_bool I.kIn True.intro e (fun z=>nomatch z) h
 | int i=>obtain ⟨t,q⟩:=(show ∃ t,u=Value.int i t from rx);cases q;exact BM PySem.W.kitx_int I.kIn True.intro e (fun z=>nomatch z) h
 | str y=>obtain ⟨t,q⟩:=(show ∃ t,u=Value.str y t from rx);cases q;exact BM PySem.W.kitx_str I.kIn True.intro e (fun z=>nomatch z) h
 | flt y=>obtain ⟨t,q⟩:=(show ∃ t,u=Value.float y t from rx);cases q;exact BM PySem.W.kitx_float I.kIn True.intro e (fun z=>nomatch z) h
 | @lst a xs ea=>
  cases (show u=Value.ref a from rx);obtain ⟨_,_,n,_,h1⟩:=(show CO X.prog X.w H s.heap a (.lst xs) from I.hok a _ ea);exact BM PySem.W.kitx_list I.kIn ⟨_,h1,rfl⟩ e (fun z=>nomatch z) h
 | @frz a ob xs ea=>
  cases (show u=Value.ref a from rx);obtain ⟨_,_,_,n,_,h1⟩:=(show CO X.prog X.w H s.heap a (.frz ob (.lst xs)) from I.hok a _ ea);exact BM PySem.W.kitx_list I.kIn ⟨_,h1,rfl⟩ e (fun z=>nomatch z) h
 | @tup a xs ea=>
  cases (show u=Value.ref a from rx);obtain ⟨_,_,_,p⟩:=(show CO X.prog X.w H s.heap a (.tup xs) from I.hok a _ ea);obtain ⟨o,h1,h2,_⟩:=p;exact BM PySem.W.kitx_tuple I.kIn ⟨o,h1,(Prod.mk.inj h2).1⟩ e (fun z=>nomatch z) h
 | @dK a kvs ea=>
  cases (show u=Value.ref a from rx);obtain ⟨_,_,vs,_,p⟩:=(show CO X.prog X.w H s.heap a (.dK kvs) from I.hok a _ ea);obtain ⟨o,es,ep,h1,h2,_⟩:=p;exact BM PySem.W.kitx_dict I.kIn ⟨o,h1,h2.1⟩ e (fun z=>nomatch z) h
 | @dT a kvs ea=>
  cases (show u=Value.ref a from rx);obtain ⟨_,_,xs,_,o,es,ep,h1,h2,_⟩:=(show CO X.prog X.w H s.heap a (.dT kvs) from I.hok a _ ea);exact BM PySem.W.kitx_dict I.kIn ⟨o,h1,h2.1⟩ e (fun z=>nomatch z) h
 | @ins a C dx fs ea cl ha hn htk hm=>
  cases (show u=Value.ref a from rx);obtain ⟨mA,O,_⟩:=hV I.hok ea;obtain ⟨od,J,_⟩:=O.look;exact BM (PySem.W.kitx_own (cl.get _) cl.hd ha hn htk hm) I.kIn J e (fun z=>nomatch z) h
end
structure CY (k:Nat) (A:Around):Prop where
 hd:A.handled=none
 dp:A.depth+3*k+5 < recursionLimit
 un:A.units+16*k+200 < cLine
theorem CY.mono {j k:Nat} (r:CY k A) (h:j<=k):CY j A:=⟨r.hd,by have:=r.dp;lia,by have:=r.un;lia⟩
theorem CY.m {j k:Nat} (r:CY k A) (h:j<=k:=by decide):CY j A:=r.mono h
theorem CY.deeper {k:Nat} (r:CY (k+1) A) (env:Env):CY k (A.deeper env):=
 ⟨r.hd,by have:=r.dp;show A.depth+1+3*k+5 < _;lia,by have:=r.un;show A.units+3+16*k+200 < _;lia⟩
variable {kw:List (Str×Value)}
theorem mH:(A.under (.builtin "type.__call__" ⟨.ref C::us,kw⟩)).depth=A.depth+1:=by
 first|rfl|simp [Around.under,Code.weight,Code.isCreation,Code.isGuard,Code.isCaller,Code.frames,Code.isFrame,guardIds]
theorem mI:(A.under (.builtin "type.__call__" ⟨.ref C::us,kw⟩)).units=A.units+1:=by
 first|rfl|simp [Around.under,Code.cUnits,Code.frames,Code.isFrame]
theorem CY.make {k:Nat} (r:CY (k+1) A) (C:Addr) (us:List Value) (kw:List (Str×Value)):CY k (A.under (.builtin "type.__call__" ⟨.ref C::us,kw⟩)):=
 ⟨r.hd,by have:=r.dp;rw [mH];lia,by have:=r.un;rw [mI];lia⟩
theorem CY.depth {k:Nat} (r:CY k A):A.depth < recursionLimit:=by have:=r.dp;lia
def pE:TA:=fun _ H Q=>Q [] H
def k7 (ta:TE) (tr:TA):TA:=fun σ H Q=>ta σ H fun x H1=>tr σ H1 fun xs H2=>Q (x::xs) H2
section
variable {X:Cx} {e:Expr} {es:List Expr} {te:TE} {t:TA} {pos:Pos}
theorem ab:PA X [] pE:=⟨fun _ _ _ _ H Q I h=>Calls.spliced_nil ⟨[],H,I,.nil,h⟩⟩
theorem aa (ha:PE X e te) (hr:PA X es t) (hs:starEach (e::es) X.env=(false,eval e X.env)::starEach es X.env:=by rfl):PA X (e::es) (k7 te t):=by
 refine ⟨?_⟩;intro pos Cj s σ H Q I h;rw [hs];show wpAny _ _ (spliced ((false,eval e X.env)::backTo pos (starEach es X.env))) _ _ s;refine Calls.spliced_cons (bA (ha Cj s σ H _ I h) fun u s1 ⟨x,H1,I1,r1,q1⟩=>?_);exact bA (hr pos Cj s1 σ H1 _ I1 q1) fun us s2 ⟨xs,H2,I2,r2,q2⟩=>⟨x::xs,H2,I2,.cons r1 r2,q2⟩
def zj (t:TA):TE:=fun σ H Q=>t σ H fun xs H1=>xs.length<=sizeLine/\∀ p,H1 p=none->Q (.ref p) (aB H1 p (.tup xs))
def zl (t:TA):TE:=fun σ H Q=>t σ H fun xs H1=>xs.length<=sizeLine/\∀ p,H1 p=none->Q (.ref p) (aB H1 p (.lst xs))
theorem cM {x1} (h:PA X es t):PE X (.Tuple es x1 pos) (zj t):=by
 refine ⟨?_⟩;intro Cj s σ H Q I hq;refine wpAny_Tuple_spliced (bA (h pos Cj s σ H _ I hq) fun us s1 ⟨xs,H1,I1,r,z,q⟩=>⟨by rw [<-r.length];exact z,?_⟩);have hf:H1 s1.heap.objs.size=none:=I1.hok.fresh (AR _);refine ⟨.ref s1.heap.objs.size,aB H1 s1.heap.objs.size (.tup xs),I1.laid (t':=s1.toks) (fun b u e=>AK _ e) (AR _) ?_,rfl,q _ hf⟩;exact ⟨z,us,r,⟨_,AO _ rfl,rfl,_,rfl⟩⟩
theorem au (h:PA X es t):PE X (.List es pos) (zl t):=by
 refine ⟨?_⟩;intro Cj s σ H Q I hq;refine wpAny_List_spliced (bA (h pos Cj s σ H _ I hq) fun us s1 ⟨xs,H1,I1,r,z,q⟩=>⟨by rw [<-r.length];exact z,?_⟩);have hf:H1 s1.heap.objs.size=none:=I1.hok.fresh (AR _);refine ⟨.ref s1.heap.objs.size,aB H1 s1.heap.objs.size (.lst xs),I1.laid (t':=s1.toks) (fun b u e=>AK _ e) (AR _) ?_,rfl,q _ hf⟩;exact ⟨z,us,0,r,AO _ rfl⟩
end
abbrev Sp:=List V->Hp->VK->XK->Prop
abbrev qF:=List Env->Hp->Shared->XK->Value->Shared->Prop
structure Fk (P:Program) (w:World) (K:ZF) (mg:Str->Option Value) (base:Heap) (A:Around) (outer:List Env) (s:Shared) (H:Hp):Prop where
 frames:A.frames=some outer
 mod:Mod K mg base
 bs:∀ b o,base.get? b=some o->s.heap.get? b=some o/\H b=none
 bsz:base.objs.size<=s.heap.objs.size
 funs:s.heap.FunFrames base outer
 frf:∀ b∈my outer,H b=none
 hok:DN P w H s.heap
 bare:AllBare s.gens
inductive CE (outer:List Env) (P:Program) (w:World) (H:Hp) (s:Shared) (Q:VK) (u:Value) (s':Shared):Prop
 | mk (v H':_):s'.os=s.os->AllBare s'.gens->Un (my outer) [] H H' s.heap s'.heap->DN P w H' s'.heap->CG v u->Q v H'->CE outer P w H s Q u s'
def CR (CX:qF) (outer:List Env) (P:Program) (w:World) (H:Hp) (s:Shared) (Q:VK) (E:XK) (r:Result) (s':Shared):Prop:=
 match r with
 | .ok (.ret u)=>CE outer P w H s Q u s'
 | .ok _=>False
 | .error e=>CX outer H s E e s'
structure aT (P:Program) (w:World) (K:ZF) (mg:Str->Option Value) (base:Heap) (CX:qF) (k:Nat) (f:Addr) (fd:FuncData) (ps:List Str) (sp:Sp):Prop where
 len:∀ vs H Q E,sp vs H Q E->vs.length=ps.length
 run:∀ (A:Around) (outer:List Env) (s:Shared) (H:Hp) (args:Args) (us:List Value) (vs:List V) (Q:VK) (E:XK),CY k A->Fk P w K mg base A outer s H->BindsTo s fd args (ps.zip us)->CD vs us->sp vs H Q E->
  codeAny (model P w) A (.call (.ref f) args) (CR CX outer P w H s Q E) s
variable {outer:List Env} {base:Heap} {mg:Str->Option Value}
theorem Fk.make (e:Fk P w K mg base A outer s H) (C:Addr) (us:List Value) (kw:List (Str×Value)) :
  Fk P w K mg base (A.under (.builtin "type.__call__" ⟨.ref C::us,kw⟩)) outer s H:=⟨by first|exact e.frames|(simpa [Around.under,Code.envs,Code.isFrame,pushEnvs] using e.frames),e.mod,e.bs,e.bsz,e.funs,e.frf,e.hok,e.bare⟩
section
variable {X:Cx} {Cj:List (Addr×Obj)} {σ:St} {H:Hp} {s s':Shared}
theorem CB.env0 (I:CB X Cj σ H s):Fk X.prog X.w X.K X.mg X.base X.A X.stack s H:=
 ⟨I.ok.frames,I.ok.mod,I.bs,A8 I.ok.bsz I.sz,I.stack,I.stkFree,I.hok,I.bare⟩
theorem CB.after {Q:VK} (I:CB X Cj σ H s) (h:CE X.stack X.prog X.w H s Q u s'):EP X Cj σ Q u s':=by
 obtain ⟨v,H',os,bare,un,hok,r,q⟩:=h;obtain ⟨hh,g,d,t,os'⟩:=s';obtain rfl:os'=s.os:=os;exact ⟨v,H',I.call (h':=hh) (g':=g) (d':=d) (t':=t) (ch:=[]) un hok bare (fun b z=>absurd z (by simp)),r,q⟩
end
def ve (sp:Sp) (dvs:List V) (E:XK) (t:TA):TE:=fun σ H Q=>t σ H fun vs H1=>sp (vs++dvs) H1 Q E
def xG (C:Addr) (sp:Sp) (dvs:List V) (E:XK) (t:TA):TE:=fun σ H Q=>t σ H fun vs H1=>∀ x dx,H1 x=none->H1 dx=none->dx≠x->
 sp (.ref x::(vs++dvs)) (aB (aB H1 dx (.own x)) x (.ins C dx [])) (fun v H2=>v=.non/\Q (.ref x) H2) E
def Dv (K:ZF) (fd:FuncData) (ps:List Str) (ds:List Value):Prop:=
 ∀ (s:Shared) (us:List Value),K.In s.heap->(us++ds).length=ps.length->BindsTo s fd ⟨us,[]⟩ (ps.zip (us++ds))
variable {ps:List Str}
theorem Dv.all {fd:FuncData} (h:∀ us:List Value,us.length=ps.length->bindArgs fd ⟨us,[]⟩=pure (ps.zip us)):Dv K fd ps []:=fun s us _ hl=>by
 rw [Ba] at hl ⊢;exact .of_eq (h us hl)
def gr (CX:qF) (X:Cx) (E:XK):Prop:=∀ (Cj:List (Addr×Obj)) (σ:St) (H:Hp) (s:Shared) (e:Value) (s':Shared),CB X Cj σ H s->CX X.stack H s E e s'->X.xe e s'
section
variable {X:Cx} {CX:qF} {k:Nat} {f C:Addr} {fd:FuncData} {ps:List Str} {sp:Sp} {dvs:List V} {ds:List Value} {E:XK} {x m:Str} {p pos apos:Pos} {e o:Expr} {es:List Expr} {ta:TE} {t:TA}
theorem jX {Cj:List (Addr×Obj)} {σ:St} {H:Hp} {s:Shared} {Q:VK} {us:List Value} {vs:List V} (F:aT X.prog X.w X.K X.mg X.base CX k f fd ps sp) (hr:CY k X.A) (hb:Dv X.K fd ps ds) (hd:CD dvs ds) (hx:gr CX X E)
  (I:CB X Cj σ H s) (r:CD vs us) (h:sp (vs++dvs) H Q E):wpAny (model X.prog X.w) X.A (call (.ref f) us) (EP X Cj σ Q) X.xe s:=by
 have r2:CD (vs++dvs) (us++ds):=r.append hd;have hl:(us++ds).length=ps.length:=by rw [<-r2.length];exact F.len _ _ _ _ h
 refine wpAny_call (codeAny_mono (F.run X.A X.stack s H ⟨us,[]⟩ (us++ds) (vs++dvs) Q E hr I.env0 (hb s us I.kIn hl) r2 h) fun r s' hq=>?_);cases r with
 | error e=>exact hx Cj σ H s e s' I hq
 | ok fl=>
  cases fl with
  | ret u=>exact I.after hq
  | next=>exact False.elim hq
  | brk=>exact False.elim hq
  | cont=>exact False.elim hq
theorem tW (F:aT X.prog X.w X.K X.mg X.base CX k f fd ps sp) (hr:CY k X.A) (hg:Gl X x) (hm:X.mg x=some (.ref f)) (hk:PySem.W.keepIn X.K (.ref f)=true) (hb:Dv X.K fd ps ds) (hd:CD dvs ds) (hx:gr CX X E)
  (ha:PA X (e::es) t) (hdb:(x == ("__debug__":Str))=false:=by decide) (he:starEach (e::es) X.env=(false,eval e X.env)::starEach es X.env:=by rfl) (hpl:(backTo pos (starEach es X.env)).any (·.1)=false:=by rfl) :
  PE X (.Call (.Name x p) (e::es) [] pos) (ve sp dvs E t):=by
 refine ⟨?_⟩;intro Cj s σ H Q I h;refine wpAny_Call_Name_kw (hJ I hg hm ?_ hdb);refine PySem.W.callWith_K (h₀:=X.base) I.ok.mod.kin hk (bA (ha pos Cj s σ H _ I h) fun us s1 ⟨vs,H1,I1,r,q⟩=>⟨I1.kIn,?_⟩) he hpl;exact jX F hr hb hd hx I1 r q
theorem q0 (F:aT X.prog X.w X.K X.mg X.base CX k f fd ps sp) (hr:CY k X.A) (hg:Gl X x) (hm:X.mg x=some (.ref f)) (hk:PySem.W.keepIn X.K (.ref f)=true) (hb:Dv X.K fd ps ds) (hd:CD dvs ds) (hx:gr CX X E)
  (hdb:(x == ("__debug__":Str))=false:=by decide):PE X (.Call (.Name x p) [] [] pos) (ve sp dvs E pE):=by
 refine ⟨?_⟩;intro Cj s σ H Q I h;refine wpAny_Call_Name_kw (hJ I hg hm ?_ hdb);exact PySem.W.callWith_K0 I.kIn hk (jX (us:=[]) F hr hb hd hx I .nil h)
structure Mk (K:ZF) (C f:Addr):Prop where
 makes:PySem.W.makesIn K C=true
 init:PySem.W.findIn K (.ref C) "__init__"=some (some (.ref f))
 fn:PySem.W.isFn K (.ref f)=true
 kp:PySem.W.keepIn K (.ref C)=true
theorem rc {Cj:List (Addr×Obj)} {σ:St} {H:Hp} {s:Shared} {Q:VK} {us:List Value} {vs:List V} (M:Mk X.K C f) (F:aT X.prog X.w X.K X.mg X.base CX k f fd ps sp) (hr:CY (k+1) X.A) (hb:Dv X.K fd ps ds) (hd:CD dvs ds)
  (hx:gr CX X E) (I:CB X Cj σ H s) (r:CD vs us)
  (h:∀ x dx,H x=none->H dx=none->dx≠x->sp (.ref x::(vs++dvs)) (aB (aB H dx (.own x)) x (.ins C dx [])) (fun v H2=>v=.non/\Q (.ref x) H2) E) :
  wpAny (model X.prog X.w) X.A (call (.ref C) us) (EP X Cj σ Q) X.xe s:=by
 have hq:=h (s.heap.objs.size+1) s.heap.objs.size (I.hok.fresh (BS _)) (I.hok.fresh (AR _)) (AW (BI _));have I2:=CB.made (C:=C) I;have r2:CD (V.ref (s.heap.objs.size+1)::(vs++dvs)) (Value.ref (s.heap.objs.size+1)::(us++ds)):=.cons rfl (r.append hd);have hl:(Value.ref (s.heap.objs.size+1)::us++ds).length=ps.length:=by
  have e:=r2.length;rw [F.len _ _ _ _ hq] at e;exact e.symm
 refine wpAny_call (qZ (f:=f) I.kIn M.makes M.init (beq_iff_eq.mp M.fn) (codeAny_mono (F.run _ X.stack _ _ ⟨Value.ref (s.heap.objs.size+1)::us,[]⟩ (Value.ref (s.heap.objs.size+1)::(us++ds)) _ _ E (hr.make C us [])
  (I2.env0.make C us []) (hb _ (Value.ref (s.heap.objs.size+1)::us) I2.kIn hl) r2 hq) fun r s' hq'=>?_))
 cases r with
 | error e=>exact hx Cj σ _ _ e s' I2 hq'
 | ok fl=>
  cases fl with
  | ret u=>
   obtain ⟨v,H',I3,rv,ev,q3⟩:=I2.after hq';subst ev;exact ⟨rv,⟨V.ref (s.heap.objs.size+1),H',I3,rfl,q3⟩⟩
  | next=>exact False.elim hq'
  | brk=>exact False.elim hq'
  | cont=>exact False.elim hq'
theorem dJ (M:Mk X.K C f) (F:aT X.prog X.w X.K X.mg X.base CX k f fd ps sp) (hr:CY (k+1) X.A) (hg:Gl X x) (hm:X.mg x=some (.ref C)) (hb:Dv X.K fd ps ds) (hd:CD dvs ds) (hx:gr CX X E)
  (ha:PA X (e::es) t) (hdb:(x == ("__debug__":Str))=false:=by decide) (he:starEach (e::es) X.env=(false,eval e X.env)::starEach es X.env:=by rfl) (hpl:(backTo pos (starEach es X.env)).any (·.1)=false:=by rfl) :
  PE X (.Call (.Name x p) (e::es) [] pos) (xG C sp dvs E t):=by
 refine ⟨?_⟩;intro Cj s σ H Q I h;refine wpAny_Call_Name_kw (hJ I hg hm ?_ hdb);refine PySem.W.callWith_K (h₀:=X.base) I.ok.mod.kin M.kp (bA (ha pos Cj s σ H _ I h) fun us s1 ⟨vs,H1,I1,r,q⟩=>⟨I1.kIn,?_⟩) he hpl;exact rc M F hr hb hd hx I1 r q
end
structure PK (X:Cx) (kws:List Keyword) (t:TA):Prop where
 run:∀ (pos:Pos) (Cj:List (Addr×Obj)) (s:Shared) (σ:St) (H:Hp) (Q:List V->Hp->Prop),CB X Cj σ H s->t σ H Q->wpAny (model X.prog X.w) X.A (evalAll ((backToKw pos (keywordEach kws X.env)).map (·.2))) (AP X Cj σ Q) X.xe s
instance {X:Cx} {kws:List Keyword} {t:TA}:CoeFun (PK X kws t) fun _=>∀ (pos:Pos) (Cj:List (Addr×Obj)) (s:Shared) (σ:St) (H:Hp) (Q:List V->Hp->Prop),CB X Cj σ H s->t σ H Q->wpAny (model X.prog X.w) X.A (evalAll ((backToKw pos (keywordEach kws X.env)).map (·.2))) (AP X Cj σ Q) X.xe s:=⟨PK.run⟩
section
variable {X:Cx} {CX:qF} {k:Nat} {f C:Addr} {fd:FuncData} {ps ks:List Str} {sp:Sp} {E:XK} {x m:Str} {p pos apos kpos:Pos} {e o:Expr} {es:List Expr} {kws:List Keyword} {te ta:TE} {t tk:TA} {nm:Option Str}
theorem vM:PK X [] pE:=⟨fun _ _ _ _ H Q I h=>wpAny_evalAll_nil ⟨[],H,I,.nil,h⟩⟩
theorem tX (ha:PE X e te) (hr:PK X kws t):PK X (⟨nm,e,kpos⟩::kws) (k7 te t):=by
 refine ⟨?_⟩;intro pos Cj s σ H Q I h;show wpAny _ _ (evalAll ((do let v <-eval e X.env;standAt pos;pure v)::(backToKw pos (keywordEach kws X.env)).map (·.2))) _ _ s;refine wpAny_evalAll_cons (wpAny_bind (bA (ha Cj s σ H _ I h) fun u s1 ⟨x,H1,I1,r1,q1⟩=>wpAny_bind (wpAny_standAt (wpAny_pure ?_))));exact bA (hr pos Cj s1 σ H1 _ I1 q1) fun us s2 ⟨xs,H2,I2,r2,q2⟩=>⟨x::xs,H2,I2,.cons r1 r2,q2⟩
variable {g:List Value->List Value->List Value} {gV:List V->List V->List V}
end
structure ar (N P:List Str) (sc:Scope):Prop where
 kind:sc.kind=.function
 co:sc.isCoroutine=false
 gen:sc.isGenerator=false
 nd:N.Nodup
 pre:N.take P.length=P
 par:∀ x∈P,sc.names.lookup x=some .local\/sc.names.lookup x=some .cell
 nofree:∀ y∈sc.names,y.2≠.free
variable {sc:Scope}
theorem cE {N P:List Str} (h:N.Nodup/\(∀ x∈P,sc.names.lookup x=some .local\/sc.names.lookup x=some .cell)/\∀ y∈sc.names,y.2≠.free) (a:sc.kind=.function:=by rfl) (b:sc.isCoroutine=false:=by rfl) (c:sc.isGenerator=false:=by rfl) (d:N.take P.length=P:=by rfl):ar N P sc:=⟨a,b,c,h.1,d,h.2.1,h.2.2⟩
variable {n:Nat}
variable {kindOf:Str->Option NameKind}
theorem jx {x:Str}:∀ {binds:List (Str×Value)} {m:Str->Option Value},(∀ v,(x,v)∉binds)->bindL kindOf binds m x=m x
 | [],_,_=>rfl
 | (n,v)::r,m,h=>by
  unfold bindL;rw [jx fun w hw=>h w (A2 _ hw)];split
  ·have:x≠n:=by rintro rfl;exact h v AX
   simp [this]
  ·rfl
theorem jy {x:Str}:∀ {binds:List (Str×Value)} {m:Str->Option Value},(∀ v,(x,v)∉binds)->bindC kindOf binds m x=m x
 | [],_,_=>rfl
 | (n,v)::r,m,h=>by
  unfold bindC;rw [jy fun w hw=>h w (A2 _ hw)];split
  ·rfl
  ·have:x≠n:=by rintro rfl;exact h v AX
   simp [this]
theorem jz {x:Str} {v:Value}:∀ {P:List Str} {vs:List Value} {i:Nat} {m:Str->Option Value},P.Nodup->P[i]?=some x->vs[i]?=some v->kindOf x=some .local->
  bindL kindOf (P.zip vs) m x=some v
 | [],_,_,_,_,h,_,_=>by simp at h
 | _::_,[],_,_,_,_,h,_=>by simp at h
 | p::P,w::vs,0,m,nd,h1,h2,hk=>by
  simp at h1 h2;subst h1;subst h2;show bindL kindOf ((p,w)::P.zip vs) m p=_;unfold bindL;rw [jx fun v hv=>(Cd.mp nd).1 (List.of_mem_zip hv).1,if_pos hk];simp
 | p::P,w::vs,i+1,m,nd,h1,h2,hk=>by
  show bindL kindOf ((p,w)::P.zip vs) m x=_;unfold bindL;exact jz (i:=i) (Cd.mp nd).2 (by simpa using h1) (by simpa using h2) hk
theorem jA {x:Str} {v:Value}:∀ {P:List Str} {vs:List Value} {i:Nat} {m:Str->Option Value},P.Nodup->P[i]?=some x->vs[i]?=some v->kindOf x≠some .local->
  bindC kindOf (P.zip vs) m x=some v
 | [],_,_,_,_,h,_,_=>by simp at h
 | _::_,[],_,_,_,_,h,_=>by simp at h
 | p::P,w::vs,0,m,nd,h1,h2,hk=>by
  simp at h1 h2;subst h1;subst h2;show bindC kindOf ((p,w)::P.zip vs) m p=_;unfold bindC;rw [jy fun v hv=>(Cd.mp nd).1 (List.of_mem_zip hv).1,if_neg hk];simp
 | p::P,w::vs,i+1,m,nd,h1,h2,hk=>by
  show bindC kindOf ((p,w)::P.zip vs) m x=_;unfold bindC;exact jA (i:=i) (Cd.mp nd).2 (by simpa using h1) (by simpa using h2) hk
def gR (N:List Str) (vs:List V):St:=vs.map some++List.replicate (N.length - vs.length) none
def mJ (CX:qF) (P:Program) (w:World) (K:ZF) (mg:Str->Option Value) (base:Heap) (N:List Str) (qual:Str) (scope:Scope) (f:Addr) (cd:Value) (A:Around) (outer:List Env) (s:Shared) (H:Hp) (E:XK):Cx where
 prog:=P
 w:=w
 K:=K
 mg:=mg
 base:=base
 A:=A.deeper (envOfC qual scope s.heap.objs.size f cd)
 N:=N
 s₀:=s
 H₀:=H
 env:=envOfC qual scope s.heap.objs.size f cd
 outer:=outer
 stack:=envOfC qual scope s.heap.objs.size f cd::outer
 ex:=[]
 calm:=true
 fn:=fun _=>true
 pn:=[]
 xe:=fun e s'=>wpAny (model P w) (A.deeper (envOfC qual scope s.heap.objs.size f cd)) (leaving (envOfC qual scope s.heap.objs.size f cd) e) (fun _ s''=>CX outer H s E e s'') (fun e' s''=>CX outer H s E e' s'') s'
theorem k9 {x:Str} (h:sc.names.lookup x=some .cell):∃ c,(cellsFrom n sc.names []).lookup x=some c:=by
 have q:=PySem.W.cellsFrom_some sc.names n [] (.inl h);exact Option.isSome_iff_exists.mp q
theorem pF {CX:qF} {P:Program} {w:World} {K:ZF} {mg:Str->Option Value} {base:Heap} {N ps:List Str} {qual:Str} {scope:Scope} {f:Addr} {cd:Value} {A:Around} {outer:List Env} {s s1:Shared} {H:Hp} {E:XK} {us:List Value} {vs:List V}
  (S:ar N ps scope) (hd:A.handled=none) (e0:Fk P w K mg base A outer s H) (hl:vs.length=ps.length) (r:CD vs us)
  (x:InCallC s s.heap.objs.size (bindL (envOfC qual scope s.heap.objs.size f cd).kindOf (ps.zip us) fun _=>none) (cellsFrom (s.heap.objs.size+1) scope.names []) (bindC (envOfC qual scope s.heap.objs.size f cd).kindOf (ps.zip us) fun _=>none) s1) :
  CB (mJ CX P w K mg base N qual scope f cd A outer s H E) [] (gR N vs) H s1:=by
 have hpl:ps.length<=N.length:=by have:=congrArg List.length S.pre;rw [A7] at this;lia
 obtain ⟨h1,tk,rfl,hk⟩:=x.done;have noA:∀ b:Addr,b∉(mJ CX P w K mg base N qual scope f cd A outer s H E).ex:=fun b z=>absurd (show b∈([]:List Addr) from z) (by simp);refine ⟨⟨e0.mod,S.kind,rfl,rfl,AR _,fun y z c h1 h2=>?_,fun y hy=>?_,fun y c _ h=>?_,fun _=>hd,Around.frames_deeper e0.frames,.inr ⟨rfl,rfl⟩,fun b z=>absurd z (noA b),e0.bs,e0.bsz,fun b _ _=>noA b,fun b z=>absurd z (noA b),e0.funs,e0.frf⟩,
  rfl,e0.bare,Un.kept hk,⟨_,x.toInCall.ns,fun i y v h1 h2 h3=>?_⟩,fun y c h=>⟨_,x.cell y c h⟩,e0.hok.fresh (AR _),fun y c h=>?_,fun p hp=>absurd (show p∈([]:List (Addr×Obj)) from hp) (by simp),e0.hok.kept hk,?_⟩
 ·exact name_of_addr x.apart (BY h1) (BY h2)
 ·have hy:scope.names.lookup y=some .cell\/scope.names.lookup y=some .free:=hy;rcases hy with hy|hy
  ·exact k9 hy
  ·exact absurd rfl (S.nofree _ (BY hy))
 ·exact Cb (x.above y c (BY h))
 ·have hi:i < vs.length:=by
   unfold gR at h2;by_cases hi:i < vs.length
   ·exact hi
   ·rw [B6 (by simpa using hi)] at h2;rw [List.getElem?_replicate] at h2;split at h2<;>cases h2
  have ha:vs[i]?=some v:=by
   unfold gR at h2;rw [List.getElem?_append_left (by simpa using hi),A5] at h2;cases e:vs[i]? with
   | none=>rw [e] at h2;cases h2
   | some a=>rw [e] at h2;cases h2;rfl
  obtain ⟨u,hu,rv⟩:=r.get ha;have hp:ps[i]?=some y:=by
   rw [<-S.pre,List.getElem?_take_of_lt zo];exact h1
  have ndP:ps.Nodup:=by rw [<-S.pre];exact S.nd.sublist (List.take_sublist _ _)
  refine ⟨u,rv,?_⟩;rcases S.par y (A6 hp) with k|k
  ·exact .inl ⟨k,jz ndP hp hu k⟩
  ·obtain ⟨c,e⟩:=k9 (n:=s.heap.objs.size+1) k;refine .inr ⟨.inl k,c,e,?_⟩;have q:=x.cell y c e;rw [jA ndP hp hu (by show scope.names.lookup y≠_;rw [k];decide)] at q;exact q
 ·exact e0.hok.fresh (Cb (x.above y c (BY h)))
 ·unfold gR;show _=N.length;rw [AT,AM,Cg];lia
theorem xH {CX:qF} {P:Program} {w:World} {K:ZF} {mg:Str->Option Value} {base:Heap} {k:Nat} {f:Addr} {name qual:Str} {params:Arguments} {body:List Stmt} {scope:Scope} {dV kV doc pm Cr ct oc:Value} {an od:Option Addr}
  {osl:Array (Option Value)} {N ps:List Str} {sp:Sp} (lk:K.lookup f=some ⟨oc,od,.func (PySem.W.fnOf name qual params body scope dV kV doc pm an Cr ct),osl⟩) (hcd:PySem.W.codeIn K Cr qual=true) (S:ar N ps scope)
  (len:∀ vs H Q E,sp vs H Q E->vs.length=ps.length)
  (hbody:∀ (A:Around) (outer:List Env) (s:Shared) (H:Hp) (vs:List V) (Q:VK) (E:XK),CY k (A.deeper (envOfC qual scope s.heap.objs.size f Cr))->sp vs H Q E->
   ∃ t,Fv (mJ CX P w K mg base N qual scope f Cr A outer s H E) body t/\t { nx:=fun _ H'=>Q .non H',rt:=Q } (gR N vs) H) :
  aT P w K mg base CX (k+1) f (PySem.W.fnOf name qual params body scope dV kV doc pm an Cr ct) ps sp:=by
 refine ⟨len,fun A outer s H args us vs Q E hr e0 hb r hsp=>?_⟩;have hl:=len _ _ _ _ hsp;have KX:K.In s.heap:=e0.mod.kin.keeps fun b o e=>(e0.bs b o e).1;have lim:s.heap.NoLimit:=e0.mod.nolimit.keeps fun b o e=>(e0.bs b o e).1;have hkind:∀ y∈ps.zip us,scope.names.lookup y.1=some .local\/(scope.names.lookup y.1=some .cell/\((cellsFrom (s.heap.objs.size+1) scope.names []).lookup y.1).isSome=true):=fun ⟨n,v⟩ hy=>by
  rcases S.par n (List.of_mem_zip hy).1 with q|q
  ·exact .inl q
  ·exact .inr ⟨q,PySem.W.cellsFrom_some _ _ _ (.inl q)⟩
 refine codeAny_call_function hr.depth (KX _ _ lk) rfl S.co S.gen rfl (PySem.W.codeRec_of KX hcd) (hb _ _ _ _ ?_);refine wpAny_newFunctionEnv_cells S.kind hkind fun env he s1 x=>?_;subst he;refine ⟨lim.keeps x.toInCall.keep,codeAny_func ?_⟩;obtain ⟨t,ht,hq⟩:=hbody A outer s H vs Q E (hr.deeper _) hsp;have I:CB (mJ CX P w K mg base N qual scope f Cr A outer s H E) [] (gR N vs) H s1:=pF S hr.hd e0 hl r x;refine wpAny_mono (ht [] s1 (gR N vs) H _ I hq) (fun fl s' hs=>?_) fun e s' hs=>hs;have fin:∀ {σ':St} {H':Hp} {v:V} {u:Value},CB (mJ CX P w K mg base N qual scope f Cr A outer s H E) [] σ' H' s'->CG v u->Q v H'->CE outer P w H s Q u s':=
  fun {σ' H' v u} J rv q=>⟨v,H',J.os,J.bare,J.base,J.hok,rv,q⟩
 cases fl with
 | ret u=>
  obtain ⟨v,σ',H',J,rv,q⟩:=hs;exact fin J rv q
 | next=>
  obtain ⟨σ',H',J,q⟩:=hs;exact fin (v:=V.non) (u:=Value.none) J rfl q
 | brk=>
  obtain ⟨_,_,_,q⟩:=hs;exact False.elim q
 | cont=>
  obtain ⟨_,_,_,q⟩:=hs;exact False.elim q
section
variable {X:Cx} {x:Str} {p pos:Pos} {e:Expr} {es:List Expr} {t:TA} {id T:String} {r:List V->Hp->VK->Prop}
def zm (r:List V->Hp->VK->Prop) (t:TA):TE:=fun σ H Q=>t σ H fun vs H1=>r vs H1 Q
theorem ao (hc:bJ X (.builtin id) r) (hg:Gl X x) (hm:X.mg x=none) (hv:bootBuiltins x=some (.builtin id)) (ha:PA X (e::es) t) (hn:x≠"__name__":=by decide) (hdb:(x == ("__debug__":Str))=false:=by decide)
  (he:starEach (e::es) X.env=(false,eval e X.env)::starEach es X.env:=by rfl) (hpl:(backTo pos (starEach es X.env)).any (·.1)=false:=by rfl):PE X (.Call (.Name x p) (e::es) [] pos) (zm r t):=by
 refine ⟨?_⟩;intro Cj s σ H Q I h;refine wpAny_Call_Name_kw (c8 I hg hm hv ?_ hn hdb);exact PyProof.Rows.callWith_builtin1 (bA (ha pos Cj s σ H _ I h) fun us s1 ⟨vs,H1,I1,r1,q1⟩=>hc Cj s1 σ H1 vs us Q I1 r1 q1) he hpl
theorem bm (hc:bJ X (.type T) r) (hg:Gl X x) (hm:X.mg x=none) (hv:bootBuiltins x=some (.type T)) (ha:PA X (e::es) t) (hn:x≠"__name__":=by decide) (hdb:(x == ("__debug__":Str))=false:=by decide)
  (he:starEach (e::es) X.env=(false,eval e X.env)::starEach es X.env:=by rfl) (hpl:(backTo pos (starEach es X.env)).any (·.1)=false:=by rfl):PE X (.Call (.Name x p) (e::es) [] pos) (zm r t):=by
 refine ⟨?_⟩;intro Cj s σ H Q I h;refine wpAny_Call_Name_kw (c8 I hg hm hv ?_ hn hdb);exact Bz (bA (ha pos Cj s σ H _ I h) fun us s1 ⟨vs,H1,I1,r1,q1⟩=>hc Cj s1 σ H1 vs us Q I1 r1 q1) he hpl
end
end L2
namespace HT
open PySem PyProof.Rows
section
open PySem.SeqAt
open PySem.AutoSeq1 (wpAny_loadPart')
open PySem.MeetsSeq PySem.MeetsSeq2 PySem.MeetsSeq3
end
section
variable {prog:Program} {w:World} {A:Around} {E:Value->Shared->Prop} {s:Shared}
def sIx (n d:Nat):Option Int->Nat
 | none=>d
 | some v=>if v < 0 then (v+(n:Int)).toNat else min v.toNat n
end
end HT
namespace L2
open PySem PySem.Spec PyProof.Rows
abbrev TO:=St->Hp->(Option Int->Hp->Prop)->Prop
structure PO (X:Cx) (e:Option Expr) (t:TO):Prop where
 run:∀ (Cj:List (Addr×Obj)) (s:Shared) (σ:St) (H:Hp) (Q:Option Int->Hp->Prop),CB X Cj σ H s->t σ H Q->
  wpAny (model X.prog X.w) X.A (evalPart e X.env) (fun u s'=>∃ o H',CB X Cj σ H' s'/\IsPart u o/\Q o H') X.xe s
instance {X:Cx} {e:Option Expr} {t:TO}:CoeFun (PO X e t) fun _=>∀ (Cj:List (Addr×Obj)) (s:Shared) (σ:St) (H:Hp) (Q:Option Int->Hp->Prop),CB X Cj σ H s->t σ H Q->
  wpAny (model X.prog X.w) X.A (evalPart e X.env) (fun u s'=>∃ o H',CB X Cj σ H' s'/\IsPart u o/\Q o H') X.xe s:=⟨PO.run⟩
def tY:TO:=fun _ H Q=>Q none H
inductive re (Q:Option Int->Hp->Prop) (x:V) (H1:Hp):Prop
 | mk (i:_):x=.int i->Q (some i) H1->re Q x H1
def xI (t:TE):TO:=fun σ H Q=>t σ H fun x H1=>re Q x H1
section
variable {X:Cx} {e:Expr} {te:TE} {lo hi:Option Expr} {tl th:TO} {pos p2:Pos}
theorem bQ:PO X none tY:=by
 refine ⟨?_⟩;intro Cj s σ H Q I h;rw [evalPart_none];exact wpAny_pure ⟨none,H,I,.none,h⟩
theorem bR (h:PE X e te):PO X (some e) (xI te):=by
 refine ⟨?_⟩;intro Cj s σ H Q I hw;rw [evalPart_some];refine bA (h Cj s σ H _ I hw) fun u s1 ⟨x,H1,I1,r1,q1⟩=>?_;obtain ⟨i,rfl,q⟩:=q1;obtain ⟨t,rfl⟩:=r1;exact ⟨some i,H1,I1,.int i t,q⟩
def zV (X:Cx) (r:V->Option Int->Option Int->Hp->VK->Prop):Prop:=
 ∀ (Cj:List (Addr×Obj)) (s:Shared) (σ:St) (H:Hp) (x:V) (v vl vu:Value) (lo hi:Option Int) (sl:Addr) (Q:VK),CB X Cj σ H s->CG x v->s.heap.IsSliceOf sl vl vu .none->IsPart vl lo->IsPart vu hi->r x lo hi H Q->
  ∃ T id,typeLookup (.type T) "__getitem__"=pure (some (.builtin id))/\s.TypeIs v T/\wpAny (model X.prog X.w) X.A (getItem v (.ref sl)) (EP X Cj σ Q) X.xe s
def At (r:V->Option Int->Option Int->Hp->VK->Prop) (te:TE) (tl th:TO):TE:=fun σ H Q=>te σ H fun x H1=>tl σ H1 fun l H2=>th σ H2 fun u H3=>r x l u H3 Q
theorem bD {r:V->Option Int->Option Int->Hp->VK->Prop} (hr:zV X r) (he:PE X e te) (hl:PO X lo tl) (hu:PO X hi th):PE X (.Subscript e (.Slice lo hi none p2) pos) (At r te tl th):=by
 refine ⟨?_⟩;intro Cj s σ H Q I h;refine Subscript_ (bA (he Cj s σ H _ I h) fun v s1 ⟨x,H1,I1,r1,q1⟩=>?_);refine wpAny_Slice (bA (hl Cj s1 σ H1 _ I1 q1) fun vl s2 ⟨l,H2,I2,pl,q2⟩=>bA (hu Cj s2 σ H2 _ I2 q2) fun vu s3 ⟨u,H3,I3,pu,q3⟩=>?_);rw [evalPart_none];refine wpAny_pure ?_;have I4:CB X Cj σ H3 { s3 with heap:=s3.heap.push { cls:=.type "slice",data:=.fields #[vl,vu,.none] } }:=I3.kept (t':=s3.toks) fun b ob q=>AK _ q;obtain ⟨T,id,hT,ht,hg⟩:=hr Cj { s3 with heap:=s3.heap.push { cls:=.type "slice",data:=.fields #[vl,vu,.none] } } σ H3 x v vl vu l u s3.heap.objs.size Q I4 r1 (Heap.IsSliceOf.new ..) pl pu q3;show wpAny (model X.prog X.w) X.A (subscriptTail e (.Slice lo hi none p2) v (.ref s3.heap.objs.size)) (EP X Cj σ Q) X.xe { s3 with heap:=s3.heap.push { cls:=.type "slice",data:=.fields #[vl,vu,.none] } };exact tail_any (ops:=[.ref s3.heap.objs.size,v]) ht hT hg (by with_unfolding_all rfl)
def lh (xs:List V) (lo hi:Option Int):List V:=(xs.drop (HT.sIx xs.length 0 lo)).take (HT.sIx xs.length xs.length hi - HT.sIx xs.length 0 lo)
theorem li (xs:List V) (lo hi:Option Int):(lh xs lo hi).length<=xs.length:=by
 unfold lh;rw [A7,BG];lia
end
def tZ (n:Nat) (i:Int):Option Nat:=if 0<=i then (if i < n then some i.toNat else none) else if -(n:Int)<=i then some (i+n).toNat else none
def mv {α:Type} (xs:List α) (i:Int):Option α:=(tZ xs.length i).bind fun j=>xs[j]?
variable {j:Nat} {i:Int} {n:Nat}
theorem om (h:tZ n i=some j):seqIndex? i n=some j/\j < n/\-(n:Int)<=i/\i < n:=by
 unfold tZ at h;by_cases h0:0<=i
 ·rw [if_pos h0] at h;by_cases h1:i < n
  ·rw [if_pos h1] at h;have e:i.toNat=j:=Be h;exact ⟨by rw [seqIndex_of h0 h1,e],zo,zo,h1⟩
  ·rw [if_neg h1] at h;cases h
 ·rw [if_neg h0] at h;by_cases h1:-(n:Int)<=i
  ·rw [if_pos h1] at h;have e:(i+n).toNat=j:=Be h;exact ⟨by rw [seqIndex_neg zo h1,e],zo,h1,zo⟩
  ·rw [if_neg h1] at h;cases h
theorem on {α:Type} {xs:List α} {v:α} (h:mv xs i=some v):∃ j,seqIndex? i xs.length=some j/\xs[j]?=some v/\j < xs.length/\-(xs.length:Int)<=i/\i < xs.length:=by
 unfold mv at h;cases e:tZ xs.length i with
 | none=>rw [e] at h;cases h
 | some j=>
  rw [e] at h;obtain ⟨h1,h2,h3,h4⟩:=om e;exact ⟨j,h1,h,h2,h3,h4⟩
theorem a8 {α:Type} {xs:List α} {v:α} (h:xs[j]?=some v):mv xs (j:Int)=some v:=by
 have hj:j < xs.length:=(AN.mp h).1;have e:tZ xs.length (j:Int)=some j:=by
  unfold tZ;rw [if_pos zo,if_pos zo];simp
 unfold mv;rw [e];exact h
def ua (b:Expr):Prop:=∀ o i,subscripted b false o i=operate [o,i] (getItem o i)
def Gz (X:Cx) (r:R2):Prop:=
 ∀ (value slice:Expr) (Cj:List (Addr×Obj)) (s:Shared) (σ:St) (H:Hp) (x y:V) (v u:Value) (Q:VK),CB X Cj σ H s->CG x v->CG y u->r x y H Q->
  subscripted slice false v u=operate [v,u] (getItem v u)->wpAny (model X.prog X.w) X.A (subscriptTail value slice v u) (EP X Cj σ Q) X.xe s
def Au (X:Cx) (id:String) (r:V->List V->Hp->VK->Prop):Prop:=
 ∀ (Cj:List (Addr×Obj)) (s:Shared) (σ:St) (H:Hp) (x:V) (xs:List V) (v:Value) (us:List Value) (Q:VK),CB X Cj σ H s->CG x v->CD xs us->r x xs H Q->
  wpAny (model X.prog X.w) X.A (call (.builtin id) (v::us)) (EP X Cj σ Q) X.xe s
section
variable {X:Cx} {a b:Expr} {ta tb:TE} {pos:Pos}
variable {r r':R2}
theorem Gz.or (h:Gz X r) (h':Gz X r'):Gz X (fun x y H Q=>r x y H Q\/r' x y H Q):=by
 intro value slice Cj s σ H x y v u Q I rx ry q hs;rcases q with q|q
 ·exact h value slice Cj s σ H x y v u Q I rx ry q hs
 ·exact h' value slice Cj s σ H x y v u Q I rx ry q hs
theorem aq (hr:Gz X r) (ha:PE X a ta) (hb:PE X b tb) (hs:ua b:=by intro _ _;rfl):PE X (.Subscript a b pos) (u9 r ta tb):=by
 refine ⟨?_⟩;intro Cj s σ H Q I h;exact Subscript_ (vH ha hb I h fun v u s2 x y H2 I2 rx ry q=>hr a b Cj s2 σ H2 x y v u Q I2 rx ry q (hs _ _))
inductive gu (K:ZF) (x:V) (y:V) (H:Hp) (Q:VK):Prop
 | mk (p xs i v:_):x=.ref p->y=.int i->Cz K H p xs->mv xs i=some v->Q v H->gu K x y H Q
inductive pG (K:ZF) (x:V) (y:V) (H:Hp) (Q:VK):Prop
 | mk (p xs i v:_):x=.ref p->y=.int i->CI K H p xs->mv xs i=some v->Q v H->pG K x y H Q
theorem aG:Gz X (gu X.K):=by
 intro value slice Cj s σ H x y v u Q I rx ry h hs;obtain ⟨p,xs,i,z,rfl,rfl,hq,he,q⟩:=h;cases rx;obtain ⟨t,rfl⟩:=ry;obtain ⟨its,r,pl,hz⟩:=I.list hq;obtain ⟨j,h1,h2,h3,h4,h5⟩:=on he;obtain ⟨w,ew,rw'⟩:=r.get h2;have hl:=r.length;have hn:=iq;have fin:EP X Cj σ Q w s:=⟨z,H,I,rw',q⟩;by_cases h0:0<=i
 ·have hj:i.toNat=j:=by
   rw [seqIndex_of h0 h5] at h1;exact Be h1
  exact item_listR pl.isList h0 zo (by rw [hj];simpa using ew) fin hs
 ·have hj:(i+(its.toArray.size:Int)).toNat=j:=by
   rw [seqIndex_neg zo h4] at h1;rw [AV,<-hl];exact Be h1
  exact subscriptTail_builtinR (x:=w) pl.isList.typeIs slot_list_getitem.lookup
   (wpAny_getItem_list_neg (Q:=fun r s'=>r=w/\EP X Cj σ Q r s') pl.isList zo (by rw [AV]<;>lia) zo (by rw [hj];simpa using ew) ⟨rfl,fin⟩) hs
theorem aL:Gz X (pG X.K):=by
 intro value slice Cj s σ H x y v u Q I rx ry h hs;obtain ⟨p,xs,i,z,rfl,rfl,hq,he,q⟩:=h;cases rx;obtain ⟨t,rfl⟩:=ry;obtain ⟨its,r,pl,hz⟩:=I.tuple hq;obtain ⟨j,h1,h2,h3,h4,h5⟩:=on he;obtain ⟨w,ew,rw'⟩:=r.get h2;have hl:=r.length;have hn:=iq;have fin:EP X Cj σ Q w s:=⟨z,H,I,rw',q⟩;exact subscriptTail_builtinR (x:=w) pl.typeIs slot_tuple_getitem.lookup
  (getItem_tuple (j:=j) (Q:=fun r s'=>r=w/\EP X Cj σ Q r s') pl zo zo (by rw [AV,<-hl];exact h1) (by simpa using ew) ⟨rfl,fin⟩) hs
theorem mK (its:List Value) (n j:Nat) (u:Value):Obj.mapSeq (·.setIfInBounds j u) { cls:=.type "list",data:=.seq its.toArray n }={ cls:=.type "list",data:=.seq (its.set j u).toArray n }:=by
 simp [Obj.mapSeq]
variable {xs:List V} {p:Addr} {s:Shared} {H:Hp} {σ:St} {Cj:List (Addr×Obj)}
theorem CB.lst (I:CB X Cj σ H s) (h:H p=some (.lst xs)) :
  ∃ (its:List Value) (n:Nat),CD xs its/\s.heap.get? p=some { cls:=.type "list",data:=.seq its.toArray n }/\xs.length<=sizeLine:=by
 obtain ⟨z,its,n,r,e⟩:=I.hok p _ h;exact ⟨its,n,r,e,z⟩
theorem CB.lstUpd {xs ys:List V} {its its':List Value} {n n':Nat} {f:Obj->Obj} (I:CB X Cj σ H s) (h:H p=some (.lst xs))
  (ho:s.heap.get? p=some { cls:=.type "list",data:=.seq its.toArray n }) (hf:f { cls:=.type "list",data:=.seq its.toArray n }={ cls:=.type "list",data:=.seq its'.toArray n' }) (r:CD ys its') (hz:ys.length<=sizeLine) (t:Nat) :
  CB X Cj σ (aB H p (.lst ys)) { s with heap:=s.heap.update p f,toks:=t }:=by
 have e:(s.heap.update p f).get? p=some { cls:=.type "list",data:=.seq its'.toArray n' }:=by
  rw [Heap.get?_update_self f ho (by rw [hf]<;>rfl),hf]
 refine I.write (x:=p) (e:=p) (by rw [h];trivial) (.inl rfl) (fun b u hb q=>(Heap.get?_update_other _ _ (Ne.symm hb)).trans q) ⟨_,e⟩ ?_;exact ⟨hz,its',n',r,e⟩
inductive vf (o:V) (i:V) (v:V) (H:Hp) (Q:Hp->Prop):Prop
 | mk (p xs k j:_):o=.ref p->i=.int k->H p=some (.lst xs)->tZ xs.length k=some j->Q (aB H p (.lst (xs.set j v)))->vf o i v H Q
theorem dY:xy X vf:=by
 intro Cj s σ H o i v ov iv u Q I ro ri rv h;obtain ⟨p,xs,k,j,rfl,rfl,hp,hj,q⟩:=h;cases ro;obtain ⟨t,rfl⟩:=ri;obtain ⟨its,n,r,ho,hz⟩:=I.lst hp;obtain ⟨h1,h2,h3,h4⟩:=om hj;have hl:=r.length;have hn:=iq;have I':CB X Cj σ (aB H p (.lst (xs.set j v))) { s with heap:=s.heap.update p (Obj.mapSeq (·.setIfInBounds j u)) }:=
  I.lstUpd hp ho (mK its n j u) (r.set rv j) (by rw [List.length_set];exact hz) s.toks
 by_cases h0:0<=k
 ·have hk:k.toNat=j:=by
   rw [seqIndex_of h0 h4] at h1;exact Be h1
  exact PySem.W.ki_setAt ho h0 zo (by rw [AV,<-hl];exact h4) (by rw [hk];exact ⟨_,I',q⟩)
 ·have hk:(k+(its.toArray.size:Int)).toNat=j:=by
   rw [seqIndex_neg zo h3] at h1;rw [AV,<-hl];exact Be h1
  exact PySem.W.ki_setBack ho zo (by rw [AV,<-hl];exact h3) zo (by rw [hk];exact ⟨_,I',q⟩)
theorem jY (lo hi:Option Int) (n:Nat):(sliceBounds lo hi none n).1=((HT.sIx n 0 lo:Nat):Int)/\(sliceBounds lo hi none n).2.1=((HT.sIx n n hi:Nat):Int)/\(sliceBounds lo hi none n).2.2=1:=by
 refine ⟨?_,?_,rfl⟩
 ·cases lo with
  | none=>simp [sliceBounds,HT.sIx]
  | some i=>
   simp only [sliceBounds,HT.sIx,Option.getD_none,show (1:Int) > 0 by decide,if_true];by_cases h:i < 0
   ·simp only [h,if_true]<;>lia
   ·simp only [h,if_false]<;>lia
 ·cases hi with
  | none=>simp [sliceBounds,HT.sIx]
  | some i=>
   simp only [sliceBounds,HT.sIx,Option.getD_none,show (1:Int) > 0 by decide,if_true];by_cases h:i < 0
   ·simp only [h,if_true]<;>lia
   ·simp only [h,if_false]<;>lia
theorem jn (its:List Value) (lo hi:Option Int):slicePick its.toArray lo hi none=((its.drop (HT.sIx its.length 0 lo)).take (HT.sIx its.length its.length hi - HT.sIx its.length 0 lo)).toArray:=by
 obtain ⟨h1,h2,h3⟩:=jY lo hi its.toArray.size;unfold slicePick;rw [h1,h2,h3];simp only [sliceRange_one,pick_run,AV]<;>rfl
inductive pH (K:ZF) (x:V) (lo:Option Int) (hi:Option Int) (H:Hp) (Q:VK):Prop
 | mk (a xs:_):x=.ref a->Cz K H a xs->(∀ p,H p=none->Q (.ref p) (aB H p (.lst (lh xs lo hi))))->pH K x lo hi H Q
theorem bS:zV X (pH X.K):=by
 intro Cj s σ H x v vl vu lo hi sl Q I rx hs pl pu h;obtain ⟨a,xs,rfl,hx,q⟩:=h;cases rx;obtain ⟨its,r,ht,hz⟩:=I.list hx;have Ck:=r.length;refine ⟨"list",_,slot_list_getitem.lookup,ht.isList.typeIs,?_⟩;refine wpAny_getItem_list_slice ht.isList hs pl pu .none (by simp) ?_ (by rw [AV]<;>lia);rw [jn,<-Ck];refine ⟨.ref s.heap.objs.size,_,I.laid (t':=s.toks) (o:=.lst (lh xs lo hi)) (fun b ob q=>AK _ q) (AR _) ?_,rfl,q _ (I.hok.fresh (AR _))⟩;exact ⟨A8 (li xs lo hi) hz,_,0,(r.drop (HT.sIx xs.length 0 lo)).take (HT.sIx xs.length xs.length hi - HT.sIx xs.length 0 lo),AO _ rfl⟩
def dU:V->Bool
 | .non=>true
 | .bl _=>true
 | .int _=>true
 | .str _=>true
 | _=>false
def oq:V->V->Bool
 | .non,.non=>true
 | .bl a,.bl b=>a == b
 | .bl a,.int b=>(if a then 1 else 0) == b
 | .int a,.bl b=>a == (if b then 1 else 0)
 | .int a,.int b=>a == b
 | .str a,.str b=>a == b
 | _,_=>false
variable {u v:Value} {y x:V} {A:Around}
theorem rf (ry:CG y u) (rx:CG x v) (fy:dU y=true) (fx:dU x=true):SeqAt.EqAt A s u v (oq y x):=by
 cases y with
 | non=>
  cases ry;cases x with
  | non=>cases rx;exact SeqAt.EqAt.same _
  | bl b=>cases rx;exact SeqAt.EqAt.none_bool b
  | int b=>obtain ⟨t,rfl⟩:=rx;exact SeqAt.EqAt.none_int b t
  | str b=>obtain ⟨t,rfl⟩:=rx;exact SeqAt.EqAt.none_str b t
  | _=>exact absurd (show false=true from fx) AS
 | bl a=>
  cases ry;cases x with
  | non=>cases rx;exact SeqAt.EqAt.bool_none a
  | bl b=>cases rx;exact SeqAt.EqAt.bool_bool a b
  | int b=>obtain ⟨t,rfl⟩:=rx;exact SeqAt.EqAt.bool_int a b t
  | str b=>obtain ⟨t,rfl⟩:=rx;exact SeqAt.EqAt.bool_str a b t
  | _=>exact absurd (show false=true from fx) AS
 | int a=>
  obtain ⟨t',rfl⟩:=ry;cases x with
  | non=>cases rx;exact SeqAt.EqAt.int_none a t'
  | bl b=>cases rx;exact SeqAt.EqAt.int_bool a t' b
  | int b=>obtain ⟨t,rfl⟩:=rx;exact SeqAt.EqAt.int_int a t' b t
  | str b=>obtain ⟨t,rfl⟩:=rx;exact SeqAt.EqAt.int_str a t' b t
  | _=>exact absurd (show false=true from fx) AS
 | str a=>
  obtain ⟨t',rfl⟩:=ry;cases x with
  | non=>cases rx;exact SeqAt.EqAt.str_none a t'
  | bl b=>cases rx;exact SeqAt.EqAt.str_bool a t' b
  | int b=>obtain ⟨t,rfl⟩:=rx;exact SeqAt.EqAt.str_int a t' b t
  | str b=>obtain ⟨t,rfl⟩:=rx;exact SeqAt.EqAt.str_str a t' b t
  | _=>exact absurd (show false=true from fx) AS
 | _=>exact absurd (show false=true from fy) AS
def ub (x:V) (u:Value):Bool:=match u with
 | .none=>oq .non x
 | .bool b=>oq (.bl b) x
 | .int i _=>oq (.int i) x
 | .str z _=>oq (.str z) x
 | _=>false
theorem rg (r:CG y u) (f:dU y=true):ub x u=oq y x:=by
 cases y with
 | non=>cases r;rfl
 | bl b=>cases r;rfl
 | int i=>obtain ⟨t,rfl⟩:=r;rfl
 | str z=>obtain ⟨t,rfl⟩:=r;rfl
 | _=>exact absurd (show false=true from f) AS
theorem jZ:∀ {xs:List V} {us:List Value},CD xs us->xs.all dU=true->us.any (ub x)=xs.any fun y=>oq y x
 | _,_,.nil,_=>rfl
 | y::xs,u::us,.cons r t,f=>by
  rw [List.all_cons,Bh] at f;rw [Cf,Cf,rg r f.1,jZ t f.2]
theorem iw (rx:CG x v) (fx:dU x=true):∀ {xs:List V} {us:List Value},CD xs us->xs.all dU=true->∀ u∈us,SeqAt.EqAt A s u v (ub x u)
 | _,_,.nil,_=>fun u hu=>by cases hu
 | y::xs,u::us,.cons r t,f=>fun u' hu=>by
  rw [List.all_cons,Bh] at f;rcases AZ.mp hu with rfl|hu
  ·rw [rg r f.1];exact rf r rx f.1 fx
  ·exact iw rx fx t f.2 u' hu
def jB (x:V) (xs:List V):Bool:=xs.any fun y=>oq y x
inductive yO (K:ZF) (neg:Bool) (x:V) (y:V) (H:Hp) (Q:VK):Prop
 | mk (p xs:_):y=.ref p->(Cz K H p xs\/CI K H p xs)->dU x=true->xs.all dU=true->Q (.bl (if neg then !jB x xs else jB x xs)) H->yO K neg x y H Q
theorem eI:eG X (compareOp .In) (yO X.K false):=by
 intro Cj s σ H x y v u Q I rx ry h;obtain ⟨p,xs,rfl,hq,fx,fs,q⟩:=h;cases ry;rcases hq with hq|hq
 ·obtain ⟨its,r,pl,hz⟩:=I.list hq;refine SeqAt.in_listAt (ub x) pl.isList (fun w hw=>iw rx fx r fs w (by simpa using hw)) ⟨.bl _,H,I,rfl,?_⟩;rw [show its.toArray.any (ub x)=its.any (ub x) by simp,jZ r fs];exact q
 ·obtain ⟨its,r,pl,hz⟩:=I.tuple hq;refine SeqAt.in_tupleAt (ub x) pl (fun w hw=>iw rx fx r fs w (by simpa using hw)) ⟨.bl _,H,I,rfl,?_⟩;rw [show its.toArray.any (ub x)=its.any (ub x) by simp,jZ r fs];exact q
theorem aw:bJ X (.builtin "len") (fun xs H Q=>∃ p ys,xs=[.ref p]/\(Cz X.K H p ys\/CI X.K H p ys)/\Q (.int ys.length) H):=by
 intro Cj s σ H xs us Q I r h;obtain ⟨p,ys,rfl,hq,q⟩:=h;obtain ⟨u,rfl,rx⟩:=cK r;cases rx;have hn:=iq;rcases hq with hq|hq
 ·obtain ⟨its,r',pl,hz⟩:=I.list hq;have Ck:=r'.length;exact Calls.call_len_list pl.isList (by simp only [AV]<;>lia) ⟨.int ys.length,H,I.tok _,⟨s.toks+1,by rw [AV,Ck]⟩,q⟩
 ·obtain ⟨its,r',pl,hz⟩:=I.tuple hq;have Ck:=r'.length;exact len_tuple pl (by simp only [AV]<;>lia) ⟨.int ys.length,H,I.tok _,⟨s.toks+1,by rw [AV,Ck]⟩,q⟩
theorem j0:bJ X (.type "list") (fun xs H Q=>∃ p ys,xs=[.ref p]/\(Cz X.K H p ys\/CI X.K H p ys)/\∀ l,H l=none->Q (.ref l) (aB H l (.lst ys))):=by
 intro Cj s σ H xs us Q I r h;obtain ⟨p,ys,rfl,hq,q⟩:=h;obtain ⟨u,rfl,rx⟩:=cK r;cases rx;have fin:∀ (its:List Value),CD ys its->ys.length<=sizeLine->∀ (h':Heap) (c':Nat),(∀ b o',s.heap.get? b=some o'->h'.get? b=some o')->
   h'.get? s.heap.objs.size=some { cls:=.type "list",dict:=none,data:=.seq its.toArray c',slots:=#[] }->EP X Cj σ Q (.ref s.heap.objs.size) { s with heap:=h' }:=fun its r' hz h' c' kp e=>
  ⟨.ref s.heap.objs.size,_,I.laid (t':=s.toks) kp (AR _) (show CO X.prog X.w _ h' _ (.lst ys) from ⟨hz,its,c',r',e⟩),rfl,q _ (I.hok.fresh (AR _))⟩
 rcases hq with hq|hq
 ·obtain ⟨its,r',pl,hz⟩:=I.list hq;have Ck:=r'.length;obtain ⟨o,ho,hc,n,hd⟩:=pl.isList;exact call_list_seq p (.inl rfl) ho hc hd (fun h' c' kp e=>fin its r' hz h' c' kp e) (by simp only [AV]<;>lia)
 ·obtain ⟨its,r',pl,hz⟩:=I.tuple hq;have Ck:=r'.length;obtain ⟨o,ho,hc,n,hd⟩:=pl;exact call_list_seq p (.inr rfl) ho hc hd (fun h' c' kp e=>fin its r' hz h' c' kp e) (by simp only [AV]<;>lia)
theorem cw:bJ X (.type "tuple") (fun xs H Q=>∃ p ys,xs=[.ref p]/\((Cz X.K H p ys/\∀ l,H l=none->Q (.ref l) (aB H l (.tup ys)))\/(CI X.K H p ys/\Q (.ref p) H))):=by
 intro Cj s σ H xs us Q I r h;obtain ⟨p,ys,rfl,h⟩:=h;obtain ⟨u,rfl,rx⟩:=cK r;cases rx;rcases h with ⟨hq,q⟩|⟨hq,q⟩
 ·obtain ⟨its,r',pl,hz⟩:=I.list hq;have Ck:=r'.length;refine call_tuple_list pl.isList (fun h' kp=>?_) (by simp only [AV]<;>lia);have I1:CB X Cj σ H { s with heap:=h' }:=I.kept (t':=s.toks) kp;have I2:CB X Cj σ (aB H h'.objs.size (.tup ys)) { s with heap:=h'.push { cls:=.type "tuple",data:=.seq its.toArray } }:=
   I1.laid (t':=s.toks) (fun b o e=>AK _ e) (AR _) (show CO X.prog X.w _ _ _ (.tup ys) from ⟨hz,its,r',E8.new _ _⟩)
  exact ⟨.ref h'.objs.size,_,I2,rfl,q _ (I1.hok.fresh (AR _))⟩
 ·obtain ⟨its,r',pl,hz⟩:=I.tuple hq;exact call_tuple_same pl ⟨.ref p,H,I,rfl,q⟩
def zW (K:ZF) (T:String) (x:V) (H:Hp):Prop:=match x with
 | .str _=>T="str"
 | .int _=>T="int"
 | .ref p=>(T="list"/\∃ xs,Cz K H p xs)\/(T="tuple"/\∃ o,K.lookup p=some o/\o.cls=.type "tuple"/\o.dict=none) ∨
   (T="dict"/\((∃ kvs,H p=some (.dK kvs))\/∃ kvs,H p=some (.dT kvs)))\/(T="set"/\∃ S n,H p=some (.set S n))
 | _=>False
theorem vN {T:String} (I:CB X Cj σ H s) (r:CG x v) (ty:zW X.K T x H) :
  s.TypeIs v T/\∀ a,v=.ref a->∃ ob,s.heap.get? a=some ob/\ob.dict=none:=by
 cases x with
 | str z=>
  obtain ⟨t,rfl⟩:=r;cases (show T="str" from ty);exact ⟨typeIs_str s z t,fun _ e=>nomatch e⟩
 | int i=>
  obtain ⟨t,rfl⟩:=r;cases (show T="int" from ty);exact ⟨typeIs_int s i t,fun _ e=>nomatch e⟩
 | ref p=>
  cases r;rcases ty with ⟨rfl,xs,hq⟩|⟨rfl,o,hk,hc,hd⟩|⟨rfl,hk⟩|⟨rfl,S,n,hk⟩
  ·obtain ⟨its,_,pl,_⟩:=I.list hq;refine ⟨pl.isList.typeIs,fun a e=>?_⟩;cases e;obtain ⟨o,n,e,c,hd,_⟩:=pl;exact ⟨o,e,hd⟩
  ·refine ⟨⟨o,I.kIn p o hk,hc⟩,fun a e=>?_⟩;cases e;exact ⟨o,I.kIn _ o hk,hd⟩
  ·have z:∃ o,s.heap.get? p=some o/\o.ExactDict:=by
    rcases hk with ⟨kvs,hk⟩|⟨kvs,hk⟩
    ·obtain ⟨_,_,_,_,o,_,_,e,ex,_⟩:=I.hok p _ hk;exact ⟨o,e,ex⟩
    ·obtain ⟨_,_,_,_,o,_,_,e,ex,_⟩:=I.hok p _ hk;exact ⟨o,e,ex⟩
   obtain ⟨o,e,ex⟩:=z;refine ⟨⟨o,e,ex.1⟩,fun a e2=>?_⟩;cases e2;exact ⟨o,e,ex.2.1⟩
  ·obtain ⟨o,_,_,_,e,ex,_⟩:=I.hok p _ hk;refine ⟨⟨o,e,ex.1⟩,fun a e2=>?_⟩;cases e2;exact ⟨o,e,ex.2.1⟩
 | _=>exact False.elim ty
def Av (K:ZF) (T:String) (r:V->List V->Hp->VK->Prop) (to:TE) (t:TA):TE:=fun σ H Q=>to σ H fun x H1=>zW K T x H1/\t σ H1 fun xs H2=>r x xs H2 Q
variable {o e:Expr} {es:List Expr} {to:TE} {t:TA} {name:Str} {apos cpos:Pos} {T id:String} {r:V->List V->Hp->VK->Prop}
theorem fb (pa:PlainAttrs T) (slot:Slot T name id) (hty:typeOf (.builtin id)=pure (.type "method_descriptor")) (hm:Au X id r) (ho:PE X o to) (ha:PA X (e::es) t)
  (hbase:attributeBase o name X.env (eval o X.env)=eval o X.env:=by rfl)
  (hfew:((backTo cpos (starEach (e::es) X.env)).all (fun x=>!x.1) && (backToKw cpos (keywordEach [] X.env)).all (fun x=>x.1.isSome)
   && decide ((e::es).length+([]:List Keyword).length+(if ([]:List Keyword).isEmpty then 0 else 1) < 30))=true:=by rfl)
  (hline:(apos.endLine == cpos.line)=true:=by rfl) (hs:starEach (e::es) X.env=(false,eval e X.env)::starEach es X.env:=by rfl) (hplain:(backTo cpos (starEach es X.env)).any (·.1)=false:=by rfl) :
  PE X (.Call (.Attribute o name apos) (e::es) [] cpos) (Av X.K T r to t):=by
 refine ⟨?_⟩;intro Cj s σ H Q I h;refine wpAny_Call_method_late hbase hfew hline rfl (bA (ho Cj s σ H _ I h) fun v s1 ⟨x,H1,I1,r1,ty,q1⟩=>?_);obtain ⟨h1,h2⟩:=vN I1 r1 ty;refine ⟨T,id,pa,slot,hty,h1,h2,?_⟩;have hA:=ha cpos Cj s1 σ H1 _ I1 q1;rw [hs] at hA ⊢;refine Calls.callWith_builtin (by show (false || (backTo cpos (starEach es X.env)).any (·.1))=false;rw [hplain]<;>rfl) (Calls.evalArgs_plain ?_);exact bA hA fun us s2 ⟨vs,H2,I2,r2,q2⟩=>hm Cj s2 σ H2 x vs v us Q I2 r1 r2 q2
end
def zn (X:Cx) (id:String) (r:V->List V->Hp->VK->Prop):Prop:=
 ∀ (Cj:List (Addr×Obj)) (s:Shared) (σ:St) (H:Hp) (x:V) (xs:List V) (v:Value) (us:List Value) (Q:VK),CB X Cj σ H s->CG x v->CD xs us->r x xs H Q->
  wpAny (model X.prog X.w) X.A (call (.builtin id) (v::us)) (EP X Cj σ Q) X.xe s
theorem CD.one:∀ {x:V} {us:List Value},CD [x] us->∃ u,us=[u]/\CG x u
 | _,_,.cons r .nil=>⟨_,rfl,r⟩
theorem CD.rep {xs:List V} {us:List Value} (h:CD xs us):∀ k:Nat,CD (List.replicate k xs).flatten (List.replicate k us).flatten
 | 0=>.nil
 | k+1=>by
  rw [List.replicate_succ,List.replicate_succ,BQ,BQ];exact CD.append h (CD.rep h k)
theorem jC (its:List Value):∀ (k:Nat) (acc:List Value),
  List.foldl (fun x1 x2=>x1++x2) acc.toArray (List.replicate k its.toArray)=(acc++(List.replicate k its).flatten).toArray
 | 0,acc=>by simp
 | k+1,acc=>by
  have e:acc.toArray++its.toArray=(acc++its).toArray:=by simp
  have e2:(acc++its)++(List.replicate k its).flatten=acc++(List.replicate (k+1) its).flatten:=by
   rw [List.replicate_succ,BQ,BJ]
  rw [<-e2,<-jC its k (acc++its),<-e,List.replicate_succ,List.foldl_cons]
section
variable {X:Cx} {Cj:List (Addr×Obj)} {σ:St} {H:Hp} {s:Shared} {l b:Addr} {xs ys zs:List V}
theorem CB.lset {its its':List Value} {n:Nat} {f:Array Value->Array Value} {t':Nat} (I:CB X Cj σ H s) (hH:H l=some (.lst xs))
  (e:s.heap.get? l=some { cls:=.type "list",data:=.seq its.toArray n }) (hf:f its.toArray=its'.toArray) (hv:CD ys its') (hz:ys.length<=sizeLine) :
  CB X Cj σ (aB H l (.lst ys)) { s with heap:=s.heap.update l (Obj.mapSeq f),toks:=t' }:=by
 have q:=PySem.IsL.update e f;rw [hf] at q;refine I.write (x:=l) (e:=l) (by rw [hH];exact trivial) (.inl rfl) (fun b' u hb hu=>(Heap.get?_update_other s.heap (Obj.mapSeq f) (Ne.symm hb)).trans hu) ⟨_,q⟩ ?_;exact ⟨hz,its',_,hv,q⟩
theorem CB.lnew {its:List Value} {t':Nat} (I:CB X Cj σ H s) (hv:CD ys its) (hz:ys.length<=sizeLine) :
  CB X Cj σ (aB H s.heap.objs.size (.lst ys)) { s with heap:=s.heap.push { cls:=.type "list",data:=.seq its.toArray },toks:=t' }:=
 I.laid (fun _ _ q=>AK _ q) (AR _) ⟨hz,its,0,hv,AO _ rfl⟩
theorem CB.fresh (I:CB X Cj σ H s):H s.heap.objs.size=none:=I.hok.fresh (AR _)
theorem CB.lstM (I:CB X Cj σ H s) (hH:H l=some (.lst xs)):xs.length<=sizeLine/\∃ (its:List Value) (n:Nat),CD xs its/\xs.length=its.length/\s.heap.get? l=some { cls:=.type "list",data:=.seq its.toArray n }:=by
 obtain ⟨z,its,n,r,e⟩:=I.hok l _ hH;exact ⟨z,its,n,r,r.length,e⟩
theorem lj (h:n<=sizeLine):Builtin.List.listTooLong n=false:=by
 unfold Builtin.List.listTooLong;exact decide_eq_false zo
end
section
variable {X:Cx}
inductive ou (x:V) (vs:List V) (H:Hp) (Q:VK):Prop
 | mk (l xs y:_):x=.ref l->vs=[y]->H l=some (.lst xs)->xs.length < sizeLine->Q .non (aB H l (.lst (xs++[y])))->ou x vs H Q
theorem cF:zn X "list.append" ou:=by
 intro Cj s σ H x vs v us Q I rx rv h;obtain ⟨l,xs,y,rfl,rfl,hH,hz,q⟩:=h;cases rx;obtain ⟨u,rfl,ru⟩:=rv.one;obtain ⟨z,its,n,r,hl,e⟩:=I.lstM hH;refine call_meets F.slot_list_append ⟨_,e,rfl⟩ F.entry_list_append (F.args_list_append_2 _ _) (PySem.list_append l its.toArray n u (by rw [AV];lia)) ⟨e,?_⟩;refine ⟨.non,_,I.lset (its':=its++[u]) hH e (by simp) (r.append (.cons ru .nil)) ?_,rfl,q⟩;rw [AT,List.length_singleton];lia
inductive ow (x:V) (vs:List V) (H:Hp) (Q:VK):Prop
 | mk (l b xs zs:_):x=.ref l->vs=[.ref b]->H l=some (.lst xs)->H b=some (.lst zs)->xs.length+zs.length<=sizeLine->Q .non (aB H l (.lst (xs++zs)))->ow x vs H Q
theorem pI:zn X "list.extend" ow:=by
 intro Cj s σ H x vs v us Q I rx rv h;obtain ⟨l,b,xs,zs,rfl,rfl,hH,hB,hz,q⟩:=h;cases rx;obtain ⟨u,rfl,ru⟩:=rv.one;cases ru;obtain ⟨z,its,n,r,hl,e⟩:=I.lstM hH;obtain ⟨z2,its2,n2,r2,hl2,e2⟩:=I.lstM hB;have hsz:its.toArray.size+its2.toArray.size<=sizeLine:=by rw [AV,AV];lia
 have hlong:¬ (!its.toArray.isEmpty && Builtin.List.listTooLong (its.toArray.size+its2.toArray.size))=true:=by
  rw [lj hsz,Bool.and_false];exact AS
 refine call_meets F.slot_list_extend ⟨_,e,rfl⟩ F.entry_list_extend (F.args_list_extend_2 _ _)
  (AutoSeq1.list_extend_list_list_0 l its.toArray n b its2.toArray n2 hlong (by rw [AV];lia) zo) ⟨e,e2,?_⟩
 refine ⟨.non,_,I.lset (its':=its++its2) hH e (by simp) (r.append r2) ?_,rfl,q⟩;rw [AT];lia
inductive uc (x:V) (y:V) (H:Hp) (Q:VK):Prop
 | mk (l b xs zs:_):x=.ref l->y=.ref b->H l=some (.lst xs)->H b=some (.lst zs)->xs.length+zs.length<=sizeLine->(∀ p,H p=none->Q (.ref p) (aB H p (.lst (xs++zs))))->uc x y H Q
theorem bH:eG X (binaryOp .Add) uc:=by
 intro Cj s σ H x y v u Q I rx ry h;obtain ⟨l,b,xs,zs,rfl,rfl,hH,hB,hz,q⟩:=h;cases rx;cases ry;obtain ⟨z,its,n,r,hl,e⟩:=I.lstM hH;obtain ⟨z2,its2,n2,r2,hl2,e2⟩:=I.lstM hB;refine PySem.P.add_list e e2 ?_ (by rw [AV,AV];lia);have ea:its.toArray++its2.toArray=(its++its2).toArray:=by simp
 rw [ea];exact ⟨.ref _,_,I.lnew (t':=s.toks) (r.append r2) (by rw [AT];lia),rfl,q _ I.fresh⟩
inductive xJ (x:V) (y:V) (H:Hp) (Q:VK):Prop
 | mk (l k xs:_):x=.ref l->y=.int k->H l=some (.lst xs)->-(2 ^ 63)<=k->k < 2 ^ 63->xs.length*k.toNat<=sizeLine->(∀ p,H p=none->Q (.ref p) (aB H p (.lst (List.replicate k.toNat xs).flatten)))->xJ x y H Q
theorem ud {α:Type} (xs:List α) (k:Nat):(List.replicate k xs).flatten.length=k*xs.length:=by
 induction k with
 | zero=>simp
 | succ k ih=>rw [List.replicate_succ,BQ,AT,ih,Nat.succ_mul,Nat.add_comm]
theorem rh:eG X (binaryOp .Mult) xJ:=by
 intro Cj s σ H x y v u Q I rx ry h;obtain ⟨l,k,xs,rfl,rfl,hH,h1,h2,hz,q⟩:=h;cases rx;obtain ⟨t,rfl⟩:=ry;obtain ⟨z,its,n,r,hl,e⟩:=I.lstM hH;have Ck:its.toArray.size*k.toNat<=sizeLine:=by rw [AV,<-hl];exact hz
 have hcap:¬ its.toArray.size*k.toNat > (2 ^ 63 - 1) / 8:=by
  have:(sizeLine:Nat)<=(2 ^ 63 - 1) / 8:=by decide
  lia
 have hfit:¬ (!Builtin.List.listFitsIndex k)=true:=by
  rw [fitsIndex_both h1 h2];exact AS
 have hlong:¬ Builtin.List.listTooLong (its.toArray.size*k.toNat)=true:=by
  rw [lj Ck];exact AS
 have hnew:List.foldl (fun x1 x2=>x1++x2) #[] (List.replicate (if its.toArray.isEmpty=true then 0 else k.toNat) its.toArray)=(List.replicate k.toNat its).flatten.toArray:=by
  have f0:∀ m:Nat,List.foldl (fun x1 x2=>x1++x2) #[] (List.replicate m its.toArray)=(List.replicate m its).flatten.toArray:=fun m=>by
   have:=jC its m [];rw [List.nil_append] at this;exact this
  rw [f0];cases its with
  | nil=>simp
  | cons a r'=>rw [if_neg (by simp)]
 refine wpAny_binaryOp_repeat_ref (T:="list") (U:="int") zd ⟨_,e,rfl⟩ (fun s'=>typeIs_int s' k t) noFill_list_mul F.fills_int_mul F.slot_int_rmul repeat_list F.slot_int_index.lookup
  (call_meets F.slot_int_rmul (typeIs_int s k t) F.entry_int_rmul (F.args_int_rmul_2 _ _) (int___rmul___int_list k t l its.toArray n)
   ⟨e,rfl,⟨_,e,rfl⟩,call_meets F.slot_list_mul ⟨_,e,rfl⟩ F.entry_list_mul (F.args_list_mul_2 _ _) (AutoListH.list___mul___list_int_3 l its.toArray n k t hfit hcap hlong) ⟨e,?_⟩⟩)
 rw [hnew];exact ⟨.ref _,_,I.lnew (t':=s.toks) (r.rep k.toNat) (by rw [ud,Nat.mul_comm];exact hz),rfl,q _ I.fresh⟩
end
end L2
namespace Att
open PySem PySem.W PySem.Calls PyProof.Rows
variable {h:Heap} {P:Params}
theorem El:∀ (ns:List Int) (vs:List Value),WellAll P h vs (ns.map WData.int)->IntsAre vs ns:=by
 intro ns;induction ns with
 | nil=>
  intro vs w;rw [Ci] at w;cases w;exact .nil
 | cons n ns ih=>
  intro vs w;rw [BB] at w;cases w with
  | cons a b=>
   cases a;exact .cons _ _ (ih _ b)
variable {n:Nat} {l:OpenLaw}
theorem FW (hn:l.most=some n) {P:Params} {h:Heap} {args:List WData} {vals:List Value}
  (hpre:l.row.toRowW.claim.pre args=true) (hwl:WellAll P h vals args) :
  ∃ a vs ns,vals=[Value.ref a]/\args=[WData.list (ns.map WData.int)]/\h.get? a=some { cls:=.type "list",data:=.seq vs.toArray }/\IntsAre vs ns/\ns.length<=n:=by
 have hsh:WShape.hasAll [] args [.list .int]=true:=(pre_splitW hpre).1;have hc:l.pre.holds [] { args:=args }=true:=(pre_splitW hpre).2;obtain ⟨d,r,rfl,h1,h2⟩:=hasAllW_cons hsh;obtain rfl:=hasAllW_nil h2;obtain ⟨xs,rfl,h3⟩:=hasW_list h1;obtain ⟨ns,rfl⟩:=items_int h3;have Ck:ns.length<=n:=by
  unfold OpenLaw.pre at hc;have h4:(WTm.not (.lt (.lit (.int (n:Int))) (.len (.arg 0)))).holds [] { args:=[.list (ns.map .int)] }=true:=by
   have h4:=(holds_andW hc).1;rw [hn] at h4;exact h4
  have h5:=condW_of h4 (w_not (w_lt w_lit (w_len_list (w_arg rfl))));rw [AM] at h5;refine Nat.le_of_not_lt fun q=>?_;have q':(n:Int) < ((ns.length:Nat):Int):=by lia
  first
   | (rw [decide_eq_true q'] at h5;exact absurd h5 zd)
   | (simp at h5;lia)
 cases hwl with
 | cons w1 w2=>
  cases w2;cases w1 with
  | list ho hall=>exact ⟨_,_,ns,rfl,rfl,ho,El ns _ hall,Ck⟩
theorem FN (l:OpenLaw) (args:List WData):l.row.toRowW.claim.post args (.bool true) args=true:=
 postW_of (r:=l.row.toRowW) (X:=(true == true))
  (show WShape.has [] (.bool true) .bool=true by first|rfl|decide|simp [WShape.has,WShape.arms,WShape.armsAll])
  (show (WTm.eq .res (.lit (.bool true))).value [] { args:=args,res:=some (.bool true),after:=args }=some (.bool (true == true)) from w_eq_bool (w_res rfl) w_lit) rfl
theorem attach_call {l:OpenLaw} {n:Nat} {q:Program} {loose:List Str} {XP:(Str->Option Value)->Heap->Prop} {YP:World->Heap->Prop} {d:DefRec}
  (hn:l.most=some n) (hdf:d.params.defaults=[])
  (call:∀ (w:World) (s₀ s₁:Shared) (mg mb:Str->Option Value) (fa:Addr) (o:Obj) (pm cd doc:Value) (a:Addr) (vs:List Value) (ns:List Int),
   Ground q loose [] XP w s₀ mg mb s₁.heap->YP w s₁.heap->
   s₁.heap.get? fa=some o->o.data=.func (docDef d.name d.params d.body d.scope pm cd doc)->s₁.heap.CodeRec cd d.name->mg d.name=some (.ref fa)->
   s₁.heap.get? a=some { cls:=.type "list",data:=.seq vs.toArray }->IntsAre vs ns->ns.length<=n->s₁.gens=#[]->
   codeAny (model l.prog w) callerA (.call (.ref fa) ⟨[.ref a],[]⟩) (fun r s'=>r=.ok (.ret (.bool true))/\OldK s₁.heap s'.heap/\s'.os=s₁.os/\AllBare s'.gens) s₁) :
  WalkO q loose XP YP l.row.toRowW d [] (fun f vs=>PySem.call f vs):=by
 intro w s₀ s₁ mg mb G Y fa o pm cd doc dV kV ho hd hcd hD hmg hg args vals as hpre hlay hrd hwl hlo;obtain rfl:dV=.none:=Dflts.none hD hdf;obtain rfl:kV=.none:=Dflts.noKw hD;obtain ⟨a,vs,ns,rfl,rfl,hobj,hints,Ck⟩:=FW hn hpre hwl;refine enter_call (codeAny_mono (call w s₀ s₁ mg mb fa o pm cd doc a vs ns G Y ho (fd_plain hd) hcd hmg hobj hints Ck hg) fun r s' hq=>?_);obtain ⟨rfl,h2,h3,h4⟩:=hq;exact ⟨.inl ⟨.bool true,.bool true,[],rfl,fun _=>rfl,.bool true,FN l _,fun _=>⟨List.Pairwise.nil,fun _ hm=>(nomatch hm)⟩⟩,h2,h3,h4⟩
section
variable {prog:Program} {w:World} {A:Around} {E:Value->Shared->Prop} {s:Shared} {K:Frag}
end
end Att
namespace L2
open PySem PySem.Spec PyProof.Rows
theorem jD:∀ {vs:List Value} {ns:List Int},IntsAre vs ns->CD (ns.map V.int) vs
 | _,_,.nil=>.nil
 | _,_,.cons n t h=>.cons ⟨t,rfl⟩ (jD h)
def ue (H:Hp):Prop:=∀ b,H b=none\/∃ o xs,H b=some (.frz o (.lst xs))
theorem rj {P:Program} {w:World} {K:ZF} {mg mb:Str->Option Value} {CX:qF} {k:Nat} {fa a:Addr} {fd:FuncData} {x:Str} {sp:Sp} {s₁:Shared} {vs:List Value} {ns:List Int}
  (KX:K.In s₁.heap) (hns:s₁.heap.Ns mainGlobals mg) (hb:s₁.heap.Ns builtinsNs mb) (hbb:∀ x:Str,x≠"__name__"->mb x=bootBuiltins x) (hlim:s₁.heap.NoLimit) (hg:s₁.gens=#[])
  (ha:s₁.heap.get? a=some { cls:=.type "list",data:=.seq vs.toArray }) (hi:IntsAre vs ns) (hl:ns.length<=sizeLine) (hr:CY k callerA)
  (F:∀ base:Heap,K.In base->base.Ns mainGlobals mg->aT P w K mg base CX k fa fd [x] sp) (hbind:∀ (s:Shared) (u:Value),BindsTo s fd ⟨[u],[]⟩ [(x,u)])
  (hsp:∀ H:Hp,ue H->Cz K H a (ns.map V.int)->sp [.ref a] H (fun v _=>v=.bl true) fun _ _ _=>False)
  (hCX:∀ H e s',CX [] H s₁ (fun _ _ _=>False) e s'->False) :
  codeAny (model P w) callerA (.call (.ref fa) ⟨[.ref a],[]⟩) (fun r s'=>r=.ok (.ret (.bool true))/\OldK s₁.heap s'.heap/\s'.os=s₁.os/\AllBare s'.gens) s₁:=by
 have rv:=jD hi;have lenV:=hi.length;have core:∀ H:Hp,ue H->Cz K H a (ns.map V.int)->DN P w H s₁.heap->(∀ b,H b≠none->b=a)->(H a≠none->K.lookup a=none)->
   codeAny (model P w) callerA (.call (.ref fa) ⟨[.ref a],[]⟩) (fun r s'=>r=.ok (.ret (.bool true))/\OldK s₁.heap s'.heap/\s'.os=s₁.os/\AllBare s'.gens) s₁:=by
  intro H hO hS hok hA hK;have base_of:∀ {b:Addr} {o:Obj},s₁.heap.get? b=some o->H b=none->(jU s₁.heap H).get? b=some o:=fun e n=>qG e n;have noA:∀ {b:Addr} {o:Obj} {es:Array DictEntry} {ep:Nat},s₁.heap.get? b=some o->o.data=.dict es ep->H b=none:=fun {b o es ep} e d=>by
   cases q:H b with
   | none=>rfl
   | some u=>
    have e':b=a:=hA b (by rw [q];simp);subst e';rw [ha] at e;cases e;have d':Data.seq vs.toArray _=Data.dict es ep:=d;cases d'
  have nsK:∀ {b:Addr} {m:Str->Option Value},s₁.heap.Ns b m->(jU s₁.heap H).Ns b m:=fun {b m} ⟨o,es,ep,e,d,r⟩=>⟨o,es,ep,base_of e (noA e d),d,r⟩;have hKb:K.In (jU s₁.heap H):=fun b o e=>base_of (KX b o e) (by
   cases q:H b with
   | none=>rfl
   | some u=>
    have e':b=a:=hA b (by rw [q];simp);subst e';rw [hK (by rw [q];simp)] at e;cases e)
  have hM:Mod K mg (jU s₁.heap H):=⟨hKb,nsK hns,⟨mb,nsK hb,hbb⟩,let ⟨mc,h1,h2⟩:=hlim;⟨mc,nsK h1,h2⟩⟩;have e0:Fk P w K mg (jU s₁.heap H) callerA [] s₁ H:=⟨rfl,hM,fun b o e=>tK e,Nat.le_of_eq (ph _ _),trivial,fun b hb=>absurd (show b∈([]:List Addr) from hb) (by simp),hok,.of_eq hg⟩;refine codeAny_mono ((F _ hKb (nsK hns)).run callerA [] s₁ H ⟨[.ref a],[]⟩ [.ref a] [.ref a] _ _ hr e0 (hbind s₁ (.ref a)) (.cons rfl .nil) (hsp H hO hS)) fun r s' h=>?_;cases r with
  | error e=>exact (hCX H e s' h).elim
  | ok fl=>
   cases fl with
   | next=>exact False.elim h
   | brk=>exact False.elim h
   | cont=>exact False.elim h
   | ret u=>
    obtain ⟨v,H',os,bare,un,hok',r',q⟩:=h;have q':v=.bl true:=q;subst q';obtain rfl:u=Value.bool true:=r';refine ⟨rfl,OldK.of_keep fun b o e=>?_,os,bare⟩;cases q:H b with
    | none=>exact un.keep b o e q (by intro z;exact absurd (show b∈([]:List Addr) from z) (by simp)) (by simp)
    | some u=>
     rcases hO b with z|⟨ob,xs,z⟩
     ·rw [q] at z;cases z
     ·have z2:=un.frzs b ob _ z;obtain ⟨e1,_⟩:=hok b _ z;obtain ⟨e2,_⟩:=hok' b _ z2;rw [e] at e1;cases e1;exact e2
 cases hk:K.lookup a with
 | some o=>
  have e:=KX a o hk;rw [ha] at e;cases e;refine core (fun _=>none) (fun _=>.inl rfl) (.inr ⟨_,vs.toArray,_,hk,rfl,rfl,rfl,by rw [AV,lenV];exact hl,by simpa using rv⟩) (fun b u z=>by have z':(none:Option HO)=some u:=z;cases z') (fun b z=>absurd rfl z) fun z=>absurd rfl z
 | none=>
  refine core (fun b=>if b=a then some (.frz { cls:=.type "list",data:=.seq vs.toArray } (.lst (ns.map V.int))) else none) (fun b=>?_) (.inl (.inr ⟨{ cls:=.type "list",data:=.seq vs.toArray },if_pos rfl⟩)) (fun b u z=>?_) (fun b z=>?_) fun _=>hk
  ·by_cases hb:b=a
   ·exact .inr ⟨_,_,if_pos hb⟩
   ·exact .inl (if_neg hb)
  ·by_cases hb:b=a
   ·have z':=(if_pos hb).symm.trans z;cases z';subst hb;exact ⟨ha,by rw [AM];exact hl,vs,_,rv,ha⟩
   ·have z':=(if_neg hb).symm.trans z;cases z'
  ·by_cases hb:b=a
   ·exact hb
   ·exact absurd (if_neg hb) z
theorem uf {l:PySem.W.OpenLaw} {n k:Nat} {q:Program} {loose:List Str} {XP:(Str->Option Value)->Heap->Prop} {YP:World->Heap->Prop} {d:DefRec} {K:Params->ZF} {CX:World->qF} {sp:World->Sp} {x:Str}
  (hn:l.most=some n) (hn2:n<=sizeLine) (hdf:d.params.defaults=[]) (hr:CY k callerA)
  (hY:∀ (w:World) (h:Heap),YP w h->(K w.params).In h)
  (F:∀ (w:World) (mg:Str->Option Value) (fa:Addr) (h:Heap),(K w.params).In h->h.Ns mainGlobals mg->mg d.name=some (.ref fa)->
   ∃ fd:FuncData,(∀ (s:Shared) (u:Value),BindsTo s fd ⟨[u],[]⟩ [(x,u)]) /\
    ∀ base:Heap,(K w.params).In base->base.Ns mainGlobals mg->aT l.prog w (K w.params) mg base (CX w) k fa fd [x] (sp w))
  (hsp:∀ (w:World) (H:Hp) (a:Addr) (ns:List Int),ns.length<=n->ue H->Cz (K w.params) H a (ns.map V.int)->sp w [.ref a] H (fun v _=>v=.bl true) fun _ _ _=>False)
  (hCX:∀ (w:World) (H:Hp) (s:Shared) (e:Value) (s':Shared),CX w [] H s (fun _ _ _=>False) e s'->False) :
  PySem.W.WalkO q loose XP YP l.row.toRowW d [] (fun f vs=>PySem.call f vs):=by
 refine Att.attach_call hn hdf fun w s₀ s₁ mg mb fa o pm cd doc a vs ns G Y ho hd hcd hmg hobj hints Ck hg=>?_;have KX:=hY w _ Y;obtain ⟨fd,hb,hF⟩:=F w mg fa _ KX G.T.g hmg;exact rj KX G.T.g G.T.b G.T.builtins G.T.nolimit hg hobj hints (A8 Ck hn2) hr hF hb (fun H hO hS=>hsp w H a ns Ck hO hS) fun H e s'=>hCX w H s₁ e s'
theorem rk {l:PySem.W.OpenLaw} {n k:Nat} {q:Program} {loose:List Str} {XP:(Str->Option Value)->Heap->Prop} {YP:World->Heap->Prop} {d:DefRec} {K:Params->ZF} {CX:qF} {sp:ZF->Sp} {x:Str}
  (hn:l.most=some n) (hn2:n<=sizeLine) (hdf:d.params.defaults=[]) (hr:CY k callerA)
  (hY:∀ (w:World) (h:Heap),YP w h->(K w.params).In h)
  (F:∀ (w:World) (mg:Str->Option Value) (fa:Addr) (h:Heap),(K w.params).In h->h.Ns mainGlobals mg->mg d.name=some (.ref fa)->
   ∃ fd:FuncData,(∀ (s:Shared) (u:Value),BindsTo s fd ⟨[u],[]⟩ [(x,u)]) /\
    ∀ base:Heap,(K w.params).In base->base.Ns mainGlobals mg->aT l.prog w (K w.params) mg base CX k fa fd [x] (sp (K w.params)))
  (hsp:∀ (K:ZF) (H:Hp) (a:Addr) (ns:List Int),ns.length<=n->ue H->Cz K H a (ns.map V.int)->sp K [.ref a] H (fun v _=>v=.bl true) fun _ _ _=>False)
  (hCX:∀ (H:Hp) (s:Shared) (e:Value) (s':Shared),CX [] H s (fun _ _ _=>False) e s'->False) :
  PySem.W.WalkO q loose XP YP l.row.toRowW d [] (fun f vs=>PySem.call f vs):=
 uf (K:=K) (CX:=fun _=>CX) (sp:=fun w=>sp (K w.params)) hn hn2 hdf hr hY F (fun w H a ns h1 h2 h3=>hsp (K w.params) H a ns h1 h2 h3) fun _ H s e s'=>hCX H s e s'
end L2
namespace L2
open PySem PySem.Spec PyProof.Rows
def bf (s:Stmt) (j:Nat):Stmt:=match s with
 | .ClassDef _ _ _ body _ _ _ _ _ _ _=>body.getD j (.Pass ⟨0,0,0,0⟩)
 | _=>.Pass ⟨0,0,0,0⟩
def cU (s:Stmt):Arguments:=match s with
 | .FunctionDef _ a _ _ _ _ _ _ _ _=>a
 | _=>{ posonlyargs:=[],args:=[],vararg:=none,kwonlyargs:=[],kw_defaults:=[],kwarg:=none,defaults:=[] }
def ck (s:Stmt):List Stmt:=match s with
 | .FunctionDef _ _ b _ _ _ _ _ _ _=>b
 | _=>[]
def aj (s:Stmt):Scope:=match s with
 | .FunctionDef _ _ _ _ _ _ sc _ _ _=>sc
 | _=>{ kind:=.function,names:=[],isGenerator:=false,isCoroutine:=false }
abbrev bT:qF:=fun _ _ _ _ _ _=>False
abbrev E0:XK:=fun _ _ _=>False
variable {X:Cx}
theorem dZ:gr bT X E0:=fun _ _ _ _ _ _ _ h=>h.elim
structure C7 (K:ZF) (x qual:Str) (st:Stmt) (f:Addr) (fd:FuncData):Prop where
 ex:∃ (oc:Value) (od:Option Addr) (kV doc pm:Value) (an:Option Addr) (Cr ct:Value) (osl:Array (Option Value)),
  fd=PySem.W.fnOf x qual (cU st) (ck st) (aj st) .none kV doc pm an Cr ct/\K.lookup f=some ⟨oc,od,.func fd,osl⟩/\PySem.W.codeIn K Cr qual=true
 kp:PySem.W.keepIn K (.ref f)=true
section
variable {P:Program} {w:World} {K:ZF} {mg:Str->Option Value} {base:Heap}
variable {fd:FuncData} {f:Addr} {st:Stmt} {x qual:Str}
theorem C7.ok {N ps:List Str} {k:Nat} {sp:Sp} (F:C7 K x qual st f fd) (S:ar N ps (aj st)) (len:∀ vs H Q E,sp vs H Q E->vs.length=ps.length)
  (hbody:∀ (Cr:Value) (A:Around) (outer:List Env) (s:Shared) (H:Hp) (vs:List V) (Q:VK) (E:XK),CY k (A.deeper (envOfC qual (aj st) s.heap.objs.size f Cr))->sp vs H Q E->
   ∃ t,Fv (mJ bT P w K mg base N qual (aj st) f Cr A outer s H E).nox (ck st) t/\t { nx:=fun _ H'=>Q .non H',rt:=Q } (gR N vs) H):aT P w K mg base bT (k+1) f fd ps sp:=by
 obtain ⟨oc,od,kV,doc,pm,an,Cr,ct,osl,rfl,lk,hcd⟩:=F.ex;refine xH lk hcd S len fun A outer s H vs Q E hr hsp=>?_;obtain ⟨t,h,q⟩:=hbody Cr A outer s H vs Q E hr hsp;exact ⟨t,h.nox,q⟩
theorem C7.binds {ps:List Str} (F:C7 K x qual st f fd)
  (h:∀ (kV doc pm:Value) (an:Option Addr) (Cr ct:Value) (us:List Value),us.length=ps.length->bindArgs (PySem.W.fnOf x qual (cU st) (ck st) (aj st) .none kV doc pm an Cr ct) ⟨us,[]⟩=pure (ps.zip us)):Dv K fd ps []:=by
 obtain ⟨oc,od,kV,doc,pm,an,Cr,ct,osl,rfl,lk,hcd⟩:=F.ex;exact .all (h kV doc pm an Cr ct)
theorem rm {oc:Value} {od an:Option Addr} {osl:Array (Option Value)} {kV doc pm Cr ct:Value} (l:K.lookup f=some ⟨oc,od,.func (PySem.W.fnOf x qual (cU st) (ck st) (aj st) .none kV doc pm an Cr ct),osl⟩)
  (c:PySem.W.codeIn K Cr qual=true) (k:PySem.W.keepIn K (.ref f)=true):C7 K x qual st f (PySem.W.fnOf x qual (cU st) (ck st) (aj st) .none kV doc pm an Cr ct):=⟨⟨oc,od,kV,doc,pm,an,Cr,ct,osl,rfl,l,c⟩,k⟩
end
section
variable {X:Cx}
theorem pv (i:Nat) {x:Str} {pos:Pos} (hN:X.N[i]?=some x:=by rfl) (hv:yU X.env.scope x:=by first|exact Or.inl rfl|exact Or.inr (Or.inl rfl)|exact Or.inr (Or.inr rfl)) (hd:(x == ("__debug__":Str))=false:=by decide)
  (hcd:(x == ("__classdict__":Str))=false:=by decide):PE X (.Name x pos) (gY i):=vB hN hv hd hcd
end
variable {A B:Prop}
theorem cb (h:B):if false=true then A else B:=by
 rw [if_neg AS];exact h
theorem bM (h:A):if true=true then A else B:=by
 rw [if_pos rfl];exact h
theorem bz {c A B:Prop} [Decidable c] (h1:c->A) (h2:¬ c->B):if c then A else B:=by
 by_cases h:c
 ·rw [if_pos h];exact h1 h
 ·rw [if_neg h];exact h2 h
def Cw (H H':Hp):Prop:=∀ b o,H b=some o->H' b=some o
theorem Cw.refl (H:Hp):Cw H H:=fun _ _ h=>h
variable {H H1 H2:Hp}
theorem Cw.trans (a:Cw H H1) (b:Cw H1 H2):Cw H H2:=fun c o h=>b c o (a c o h)
theorem Cw.free {H H':Hp} (e:Cw H H') {l:Addr} (h:H' l=Option.none):H l=Option.none:=by
 cases q:H l with
 | none=>rfl
 | some o=>
  rw [e l o q] at h;cases h
theorem Cw.seq {K:ZF} {H H':Hp} {a:Addr} {xs:List V} (e:Cw H H') (h:Cz K H a xs):Cz K H' a xs:=by
 rcases h with (h|⟨o,h⟩)|h
 ·exact .inl (.inl (e _ _ h))
 ·exact .inl (.inr ⟨o,e _ _ h⟩)
 ·exact .inr h
theorem fe (env:Env):∀ (names:List (Str×NameKind)) (cs:List (Str×Addr)),(∀ x∈names,x.2=.free->∃ c,env.cells.lookup x.1=some c)->(∀ x c,cs.lookup x=some c->env.cells.lookup x=some c)->
  ∃ cl,(forIn names cs fun (p:Str×NameKind) (r:List (Str×Addr))=>(if (p.2 == NameKind.free)=true then do let c <-cellOf env p.1;pure (ForInStep.yield ((p.1,c)::r)) else pure (ForInStep.yield r):Sem (ForInStep (List (Str×Addr)))))=(pure cl:Sem (List (Str×Addr))) /\
   (∀ x c,cl.lookup x=some c->env.cells.lookup x=some c)/\(∀ x,(∃ c,cs.lookup x=some c)->∃ c,cl.lookup x=some c)/\∀ x∈names,x.2=.free->∃ c,cl.lookup x.1=some c
 | [],cs,_,h=>⟨cs,rfl,h,fun _ z=>z,fun _ z=>nomatch z⟩
 | (n,k)::r,cs,hn,h=>by
  by_cases e:k=.free
  ·subst e;obtain ⟨c,hc⟩:=hn (n,.free) AX rfl;have h':∀ x c',((n,c)::cs).lookup x=some c'->env.cells.lookup x=some c':=fun x c' q=>by
    rw [BH] at q;cases ex:x == n with
    | true=>
     rw [ex] at q;have:x=n:=by simpa using ex
     subst this;cases q;exact hc
    | false=>rw [ex] at q;exact h x c' q
   obtain ⟨cl,e1,e2,e3,e4⟩:=fe env r ((n,c)::cs) (fun x hx=>hn x (A2 _ hx)) h';refine ⟨cl,?_,e2,fun x ⟨c',q⟩=>e3 x ?_,fun x hx hf=>?_⟩
   ·rw [List.forIn_cons];rw [if_pos (show (((n,NameKind.free):Str×NameKind).2 == NameKind.free)=true from by rfl)];unfold cellOf;rw [hc];exact e1
   ·rw [BH];cases ex:x == n with
    | true=>exact ⟨c,rfl⟩
    | false=>exact ⟨c',q⟩
   ·rcases AZ.mp hx with z|z
    ·subst z;exact e3 n ⟨c,by rw [BH];simp⟩
    ·exact e4 x z hf
  ·obtain ⟨cl,e1,e2,e3,e4⟩:=fe env r cs (fun x hx=>hn x (A2 _ hx)) h;refine ⟨cl,?_,e2,e3,fun x hx hf=>?_⟩
   ·rw [List.forIn_cons];rw [if_neg (show ¬ (((n,k):Str×NameKind).2 == NameKind.free)=true by simpa using e)];exact e1
   ·rcases AZ.mp hx with z|z
    ·subst z;exact absurd hf e
    ·exact e4 x z hf
variable {sc:Scope} {env:Env}
theorem iy (hn:∀ x∈sc.names,x.2=.free->∃ c,env.cells.lookup x.1=some c) :
  ∃ cl,closureFor sc env=pure cl/\(∀ x c,cl.lookup x=some c->env.cells.lookup x=some c)/\∀ x∈sc.names,x.2=.free->∃ c,cl.lookup x.1=some c:=by
 obtain ⟨cl,e1,e2,_,e4⟩:=fe env sc.names [] hn (fun x c z=>by cases z);refine ⟨cl,?_,e2,e4⟩;unfold closureFor;exact (congrArg (fun (m:Sem (List (Str×Addr)))=>m >>= fun r=>pure r) e1)
theorem ce {κ:Type}:∀ {l:List (Str×κ)} {x:Str} {k:κ},l.lookup x=some k->(x,k)∈l
 | [],_,_,h=>by cases h
 | (n,k')::r,x,k,h=>by
  rw [BH] at h;cases e:x == n with
  | true=>
   rw [e] at h;have:x=n:=by simpa using e
   subst this;cases h;exact AX
  | false=>
   rw [e] at h;exact A2 _ (ce h)
def gv (env:Env) (x:Str) (k:NameKind):NameKind:=if (k == NameKind.free && env.scope.kind == .function && env.kindOf x == some .cell)=true then .cell else k
theorem iz {env:Env}:∀ {names:List (Str×NameKind)} {x:Str},
  (names.map fun (p:Str×NameKind)=>match p with|(n,k)=>if (k == NameKind.free && env.scope.kind == .function && env.kindOf n == some .cell)=true then (n,NameKind.cell) else (n,k)).lookup x=(names.lookup x).map (gv env x)
 | [],x=>rfl
 | (n,k)::r,x=>by
  rw [BB];by_cases e:x=n
  ·subst e;dsimp only;by_cases c:(k == NameKind.free && env.scope.kind == .function && env.kindOf x == some .cell)=true
   ·rw [if_pos c];have z:gv env x k=.cell:=if_pos c;simp [BH,z]
   ·rw [if_neg c];have z:gv env x k=k:=if_neg c;simp [BH,z]
  ·have e':(x == n)=false:=by simpa using e
   dsimp only;rw [BH (a:=x) (b:=k),e'];show _=(r.lookup x).map (gv env x);rw [<-iz];by_cases c:(k == NameKind.free && env.scope.kind == .function && env.kindOf n == some .cell)=true
   ·rw [if_pos c,BH,e']
   ·rw [if_neg c,BH,e']
variable {C:Addr}
theorem dL {cl:List (Str×Addr)} {x:Str}:(compEnvC sc cl C env).kindOf x=(sc.names.lookup x).map (gv env x):=iz
def pJ (N:List Str) (sc0 sc:Scope) (N':List Str) (ix:List (Option Nat)):Bool:=
 sc.kind == .function && ix.length == N'.length &&
 sc.names.all (fun p=>p.2 != .cell && (p.2 != .free || (sc0.names.lookup p.1 == some .cell || sc0.names.lookup p.1 == some .free)) && (p.2 != .local || sc.names.lookup p.1 == some .local)) &&
 (List.range N'.length).all fun j=>match ix[j]?,N'[j]? with
  | some (some i),some x=>N[i]? == some x && sc.names.lookup x == some .free
  | _,_=>true
theorem jE {N:List Str} {sc0 sc:Scope} {N':List Str} {ix:List (Option Nat)} (h:pJ N sc0 sc N' ix=true) :
  sc.kind=.function/\ix.length=N'.length/\(∀ p∈sc.names,p.2≠.cell)/\(∀ p∈sc.names,p.2=.free->sc0.names.lookup p.1=some .cell\/sc0.names.lookup p.1=some .free) /\
   (∀ p∈sc.names,p.2=.local->sc.names.lookup p.1=some .local)/\∀ (j i:Nat) (x:Str),ix[j]?=some (some i)->N'[j]?=some x->N[i]?=some x/\sc.names.lookup x=some .free:=by
 unfold pJ at h;simp only [Bh,BC,beq_iff_eq,bne_iff_ne,Bool.or_eq_true,ne_eq] at h;obtain ⟨⟨⟨h1,h2⟩,h3⟩,h4⟩:=h;refine ⟨h1,h2,fun p hp=>(h3 p hp).1.1,fun p hp hf=>?_,fun p hp hl=>?_,fun j i x e1 e2=>?_⟩
 ·rcases (h3 p hp).1.2 with z|z
  ·exact absurd hf z
  ·exact z
 ·rcases (h3 p hp).2 with z|z
  ·exact absurd hl z
  ·exact z
 ·have hj:j < N'.length:=(AN.mp e2).1;have:=h4 j (A3.mpr hj);rw [e1,e2] at this;simpa using this
def jl (X:Cx) (sc:Scope) (N':List Str) (C:Addr) (cl:List (Str×Addr)) (s:Shared) (H:Hp) (fp:List Addr):Cx:=
 { X with N:=N',s₀:=s,H₀:=H,env:=compEnvC sc cl C X.env,outer:=X.stack,stack:=X.stack,ex:=fp,fn:=fun _=>false,pn:=[],xe:=fun _ _=>False }
def hX (ix:List (Option Nat)) (σ:St):St:=ix.map fun o=>match o with|some i=>(σ[i]?).getD none|none=>none
def Ek:St->St->Prop
 | [],[]=>True
 | none::r,_::r'=>Ek r r'
 | some v::r,w::r'=>w=some v/\Ek r r'
 | _,_=>False
theorem Ek.spec:∀ {a b:St},Ek a b->a.length=b.length/\∀ (i:Nat) v,a[i]?=some (some v)->b[i]?=some (some v)
 | [],[],_=>⟨rfl,fun _ _ z=>by simp at z⟩
 | [],_::_,h=>h.elim
 | none::r,[],h=>h.elim
 | some v::r,[],h=>h.elim
 | none::r,w::r',h=>by
  obtain ⟨e1,e2⟩:=Ek.spec (a:=r) (b:=r') h;refine ⟨by simp [e1],fun i v z=>?_⟩;cases i with
  | zero=>simp at z
  | succ i=>simpa using e2 i v (by simpa using z)
 | some u::r,w::r',h=>by
  obtain ⟨e0,h⟩:=h;obtain ⟨e1,e2⟩:=Ek.spec (a:=r) (b:=r') h;refine ⟨by simp [e1],fun i v z=>?_⟩;cases i with
  | zero=>simp at z;subst z;simp [e0]
  | succ i=>simpa using e2 i v (by simpa using z)
structure PF (X:Cx) (ifs:List Expr) (t:TT):Prop where
 run:∀ (Cj:List (Addr×Obj)) (s:Shared) (σ:St) (H:Hp) (Q:Bool->Hp->Prop),CB X Cj σ H s->t σ H Q->
  wpAny (model X.prog X.w) X.A (forIn ifs true fun c r=>if r=true then do let ok <-isTrue c X.env (eval c X.env);pure (ForInStep.yield ok) else pure (ForInStep.yield r)) (TP X Cj σ Q) X.xe s
instance {X:Cx} {ifs:List Expr} {t:TT}:CoeFun (PF X ifs t) fun _=>∀ (Cj:List (Addr×Obj)) (s:Shared) (σ:St) (H:Hp) (Q:Bool->Hp->Prop),CB X Cj σ H s->t σ H Q->
  wpAny (model X.prog X.w) X.A (forIn ifs true fun c r=>if r=true then do let ok <-isTrue c X.env (eval c X.env);pure (ForInStep.yield ok) else pure (ForInStep.yield r)) (TP X Cj σ Q) X.xe s:=⟨PF.run⟩
def ug:TT:=fun _ H Q=>Q true H
theorem cA:PF X [] ug:=⟨fun Cj s σ H Q I h=>wpAny_tests_nil ⟨H,I,h⟩⟩
theorem cN {c:Expr} {t:TT} (h:PT X c t):PF X [c] t:=⟨fun Cj s σ H Q I q=>wpAny_tests_one (h Cj s σ H Q I q)⟩
def ll (J:It) (g:TG) (tf:TT) (te:TE) (ix:List (Option Nat)) (σ:St) (H1:Hp) (Q:VK):Prop:=∃ W:Nat->Nat->List V->Hp->Prop,(∃ m,W 0 m [] H1)/\∀ i m ys H,W i m ys H->
 (J.stop i H/\ys.length<=sizeLine/\∀ D,H D=none->Q (.ref D) (aB H D (.lst ys))) ∨
 (J.go i H/\ys.length<=sizeLine/\∀ x H',J.yld i H x H'->g x (hX ix σ) H' fun σ2 H2=>Ek (hX ix σ) σ2/\tf σ2 H2 fun b H3=>if b=true then te σ2 H3 fun y H4=>∃ m',m' < m/\W (i+1) m' (ys++[y]) H4 else ∃ m',m' < m/\W (i+1) m' ys H3)
def vg (wi:TI) (g:TG) (tf:TT) (te:TE) (ix:List (Option Nat)):TE:=fun σ H Q=>wi σ H fun J H1=>ll J g tf te ix σ H1 Q
section
variable {X:Cx} {tg elt iter:Expr} {ifs:List Expr} {sc:Scope} {N':List Str} {ix:List (Option Nat)} {Cj:List (Addr×Obj)} {σ:St} {H2:Hp} {s2:Shared} {fp:List Addr} {cl:List (Str×Addr)} {C:Addr} {pos:Pos}
theorem vO (I:CB X Cj σ H2 s2) (hix:pJ X.N X.env.scope sc N' ix=true) (e2:∀ x c,cl.lookup x=some c->X.env.cells.lookup x=some c) (e3:∀ x∈sc.names,x.2=.free->∃ c,cl.lookup x.1=some c)
  (f2:∀ b∈fp,io X Cj H2 b) (fo:∀ b∈fp,∃ o,s2.heap.get? b=some o) (hC:s2.heap.objs.size<=C):(jl X sc N' C cl s2 H2 fp).Ok:=by
 obtain ⟨k1,_,k3,_,_,_⟩:=jE hix;refine ⟨I.ok.mod,k1,I.ok.glob,I.ok.blt,hC,fun x y c a b=>I.ok.inj x y c (e2 x c a) (e2 y c b),fun x hx=>?_,fun x c z=>(by cases z),I.ok.hd,I.ok.frames,.inl rfl,fun b hb=>?_,I.bs,A8 I.ok.bsz I.sz,fun b o e hb=>?_,fun b hb hf=>?_,I.stack,I.stkFree⟩
 ·have hx':(compEnvC sc cl C X.env).kindOf x=some .cell\/(compEnvC sc cl C X.env).kindOf x=some .free:=hx;rw [dL] at hx';cases q:sc.names.lookup x with
  | none=>rw [q] at hx';rcases hx' with z|z<;>cases z
  | some k=>
   have hm:=ce q;have hf:k=.free:=by
    rw [q] at hx';have nk:=k3 _ hm;cases k with
    | free=>rfl
    | cell=>exact absurd rfl nk
    | _=>rcases hx' with z|z<;>(simp [gv] at z)
   exact e3 (x,k) hm hf
 ·obtain ⟨o,ho⟩:=fo b hb;exact ⟨AW (Bd (AQ ho) hC),fun x c q=>(f2 b hb).2.2.2.2.1 x c (e2 x c q)⟩
 ·have hb':b∈fp:=hb;rcases (f2 b hb').2.2.2.1 with z|z
  ·exact I.ok.noex b o e z
  ·exact absurd (Bd (AQ e) (A8 I.ok.bsz z)) (BO _)
 ·have hb':b∈fp:=hb;rcases AZ.mp (I.stkSub b hf) with z|z
  ·exact (f2 b hb').2.1 z
  ·exact (f2 b hb').2.2.1 z
end
section
variable {X:Cx} {tg elt iter:Expr} {ifs:List Expr} {sc sc0:Scope} {N N':List Str} {ix:List (Option Nat)} {pos:Pos} {wi:TI} {g:TG} {tf:TT} {te:TE}
structure EN (X:Cx) (Cj:List (Addr×Obj)) (σ:St) (H:Hp) (s:Shared) (C:Addr):Prop where
 inv:CB X Cj σ H s
 ns:∃ m,s.heap.Ns C m
 free:H C=none
 loc:C≠X.env.locals
 cel:∀ x c,X.env.cells.lookup x=some c->c≠C
 abv:X.s₀.heap.objs.size<=C
 pin:∀ p∈X.pn++Cj,p.1≠C
variable {s:Shared} {σ:St} {Cj:List (Addr×Obj)}
theorem EN.gone {h':Heap} (L:EN X Cj σ H s C) (sb:Heap.SameBut C s.heap h'):CB X Cj σ H { s with heap:=h' }:=
 L.inv.turned (it:=C) (t':=s.toks) (fun b o hb e=>(sb.2 b hb).trans e) L.free L.loc (.inr L.abv) L.cel L.pin
theorem ox {Cj:List (Addr×Obj)} {σ:St} {H:Hp} {s:Shared} {Q:VK} {use:Option (Value->Sem Unit)} {Qf:Value->Shared->Prop} {cpos:Pos} (hc:X.calm=true) (hix:pJ X.N X.env.scope sc N' ix=true) (hi:PI X tg iter wi)
  (hg:∀ C cl s H fp,PG (jl X sc N' C cl s H fp) tg g) (hf:∀ C cl s H fp,PF (jl X sc N' C cl s H fp) ifs tf) (he:∀ C cl s H fp,PE (jl X sc N' C cl s H fp) elt te)
  (hs:∀ x,foldedSetIterable iter X.env x=pure x) (I:CB X Cj σ H s) (h:vg wi g tf te ix σ H Q)
  (hend:∀ (C D:Addr) (H':Hp) (s':Shared),EN X Cj σ H' s' C->Q (.ref D) H'->compPost (model X.prog X.w) X.A X.xe use Qf (.ref D) C (.ok .next) s') :
  wpAny (model X.prog X.w) X.A (comprehension (.ListComp elt [⟨tg,iter,ifs,0⟩] sc pos) sc X.env cpos (newList []) false (eval iter X.env) use) Qf X.xe s:=by
 obtain ⟨hk,Ck,hcell,hfreeX,hnames,hat⟩:=jE hix;obtain ⟨cl,e1,e2,e3⟩:=iy (env:=X.env) (sc:=sc) (fun x hx hf=>I.ok.has x.1 (hfreeX x hx hf));refine wpAny_comprehension_free (use:=use) (cl:=cl) rfl hs e1 hk hnames (bA (hi Cj s σ H _ I h) fun v s1 h1=>bA h1 fun itv s2 h2=>?_);obtain ⟨it,fp,tn,J,H2,e,I2,T,st2,f2,W,⟨m0,w0⟩,turn⟩:=h2;subst e;refine wpAny_newObj_type (wpAny_newFunctionEnv hcell (by intro y hy;simp at hy) (fun h₁ hns₁ hsb₁=>?_) hk);dsimp only at hns₁ hsb₁ ⊢;generalize hH2:s2.heap.push { cls:=.type "list",dict:=none,data:=.seq ([]:List Value).toArray }=G2 at hns₁ hsb₁ ⊢;have hCs:G2.objs.size=s2.heap.objs.size+1:=by rw [<-hH2,Bb]
 have hDC:s2.heap.objs.size≠G2.objs.size:=by rw [hCs];exact AW (BI _)
 have hCle:s2.heap.objs.size<=G2.objs.size:=by rw [hCs];exact BS _
 have belowC:∀ b,b < s2.heap.objs.size->b≠G2.objs.size:=fun b hb=>by rw [hCs];exact AW (Nat.lt_succ_of_lt hb)
 have belowD:∀ b,b < s2.heap.objs.size->b≠s2.heap.objs.size:=fun b hb=>AW hb;have old:∀ b o,s2.heap.get? b=some o->h₁.get? b=some o:=fun b o e=>hsb₁.extBut b o (belowC b (AQ e)) (AK _ (hH2 ▸ AK _ e));have hacc:h₁.get? s2.heap.objs.size=some { cls:=.type "list",data:=.seq ([]:List Value).toArray }:=hsb₁.extBut _ _ hDC (AK _ (hH2 ▸ AO _ rfl));have fo:∀ b∈fp,∃ o,s2.heap.get? b=some o:=fun b hb=>let ⟨o,ho,_⟩:=T.obj _ _ st2 b hb;⟨o,ho⟩;have fD:∀ b∈fp,b≠s2.heap.objs.size:=fun b hb=>let ⟨o,ho⟩:=fo b hb;belowD b (AQ ho);have ok':(jl X sc N' G2.objs.size cl s2 H2 fp).Ok:=vO I2 hix e2 e3 f2 fo hCle;have HD:H2 s2.heap.objs.size=none:=I2.hok.fresh (AR _);have HC:H2 G2.objs.size=none:=I2.hok.fresh hCle;have I4:CB (jl X sc N' G2.objs.size cl s2 H2 fp) [] (hX ix σ) H2 { s2 with heap:=h₁,toks:=s2.toks+([]:List (Str×Value)).length }:=by
  refine ⟨ok',rfl,I2.bare,Un.kept old,⟨_,hns₁,fun j x v a b c=>?_⟩,fun x c q=>?_,HC,fun x c q=>I2.freeC x c (e2 x c q),fun p hp=>(by cases hp),I2.hok.kept old,?_⟩
  ·
   have a':N'[j]?=some x:=a;have b':(ix.map fun o=>match o with|some i=>(σ[i]?).getD none|none=>none)[j]?=some (some v):=b;rw [A5] at b';cases q:ix[j]? with
   | none=>rw [q] at b';cases b'
   | some o=>
    rw [q] at b';cases o with
    | none=>cases b'
    | some i=>
     obtain ⟨n1,n2⟩:=hat j i x q a';have b'':(σ[i]?).getD none=some v:=Be b';have sv:σ[i]?=some (some v):=by
      cases z:σ[i]? with
      | none=>rw [z] at b'';cases b''
      | some y=>rw [z] at b'';exact congrArg some b''
     obtain ⟨m,hn,hl⟩:=I2.loc;have kx:=hfreeX (x,.free) (ce n2) rfl;obtain ⟨u,r,lk⟩:=hl i x v n1 sv (.inr kx);refine ⟨u,r,.inr ⟨?_,?_⟩⟩
     ·show (compEnvC sc cl G2.objs.size X.env).kindOf x=some .cell\/(compEnvC sc cl G2.objs.size X.env).kindOf x=some .free;rw [dL,n2];show some (gv X.env x .free)=some .cell\/some (gv X.env x .free)=some .free;unfold gv;split
      ·exact .inl rfl
      ·exact .inr rfl
     ·obtain ⟨c1,hc1⟩:=e3 (x,.free) (ce n2) rfl;refine ⟨c1,hc1,?_⟩;have hc2:=e2 x c1 hc1;rcases lk with ⟨z,_⟩|⟨_,c,hcc,hcl⟩
      ·have z':X.env.scope.names.lookup x=some .local:=z;rcases kx with y|y<;>(rw [y] at z';cases z')
      ·rw [hc2] at hcc;cases hcc;obtain ⟨o,ho,hd⟩:=hcl;exact ⟨o,old c1 o ho,hd⟩
  ·obtain ⟨v,o,ho,hd⟩:=I2.cell x c (e2 x c q);exact ⟨v,o,old c o ho,hd⟩
  ·show (ix.map _).length=N'.length;rw [AM,Ck]
 have cellD:∀ x c,cl.lookup x=some c->c≠s2.heap.objs.size:=fun x c q z=>by
  obtain ⟨v,o,ho,hd⟩:=I2.cell x c (e2 x c q);exact belowD c (AQ ho) z
 have loop:∀ s₃:Shared,s₃={ s2 with heap:=h₁,toks:=s2.toks+([]:List (Str×Value)).length }->
   codeAny (model X.prog X.w) X.A (.compLoop (.ListComp elt [⟨tg,iter,ifs,0⟩] sc pos) 0 (.ref it) (.ref s2.heap.objs.size) (compEnvC sc cl G2.objs.size X.env))
    (compPost (model X.prog X.w) X.A X.xe use Qf (.ref s2.heap.objs.size) G2.objs.size) s₃:=by
  rintro s₃ rfl;refine codeAny_loop rfl (fun n s'=>∃ i ys H' its k,CB (jl X sc N' G2.objs.size cl s2 H2 fp) [] (hX ix σ) H' s'/\tn i s'.heap/\(∀ b∈fp,H' b=none)/\H' s2.heap.objs.size=none /\
   CD ys its/\s'.heap.get? s2.heap.objs.size=some { cls:=.type "list",data:=.seq its.toArray k }/\W i n ys H') ?_ m0
   ⟨0,[],H2,[],_,I4,T.keep _ _ _ st2 (fun b _ o e=>old b o e),fun b hb=>(f2 b hb).1,HD,.nil,hacc,w0⟩
  rintro n s5 ⟨i,ys,H5,its,k,I5,st5,fr5,hD5,vv,oD,w5⟩;show wpAny _ X.A ((compTurn (.ListComp elt [⟨tg,iter,ifs,0⟩] sc pos) 0 (.ref it) (.ref s2.heap.objs.size) (compEnvC sc cl G2.objs.size X.env)).onRaise (fun x=>do noteFrame x (compEnvC sc cl G2.objs.size X.env);theTreesLotGoes x)) _ _ s5;refine wpAny_noted ?_;rw [compTurn_list];have I5p:CB (jl X sc N' G2.objs.size cl s2 H2 fp) [(s2.heap.objs.size,{ cls:=.type "list",data:=.seq its.toArray k })] (hX ix σ) H5 s5:=I5.pins_of fun p hp=>by
   have hp':p=(s2.heap.objs.size,{ cls:=.type "list",data:=.seq its.toArray k }):=by simpa using hp
   subst hp';refine ⟨oD,hD5,hDC,fun hb=>?_,fun v z=>(by cases z)⟩;obtain ⟨_,o,ho,_⟩:=I2.stack.mem (show s2.heap.objs.size∈my X.stack from hb);exact BO _ (AQ ho)
  have fpk:∀ {H':Hp},(∀ b∈fp,H' b=none)->∀ b∈fp,io (jl X sc N' G2.objs.size cl s2 H2 fp) [(s2.heap.objs.size,({ cls:=.type "list",data:=.seq its.toArray k }:Obj))] H' b:=fun {H'} hn b hb=>by
   refine ⟨hn b hb,(ok'.exf b hb).1,ok'.exfs b hb,.inl hb,(ok'.exf b hb).2,fun p hp=>?_⟩;have hp':p=(s2.heap.objs.size,({ cls:=.type "list",data:=.seq its.toArray k }:Obj)):=by
    have z:p∈([]:List (Addr×Obj))++[(s2.heap.objs.size,({ cls:=.type "list",data:=.seq its.toArray k }:Obj))]:=hp;simpa using z
   subst hp';exact (fD b hb).symm
  rcases turn i n ys H5 w5 with ⟨stop,hz,qn⟩|⟨go,hz,step⟩
  ·refine wpAny_bind (wpAny_standAt (wpAny_bind (wpAny_mono (T.done (jl X sc N' G2.objs.size cl s2 H2 fp) rfl rfl rfl hc i _ s5 (hX ix σ) H5 (fun _ _=>False) I5p (fpk fr5) st5 stop) (fun r s6 ⟨hr,I6⟩=>?_) fun _ _ f=>f.elim)));subst hr;refine wpAny_pure ?_;obtain ⟨m,hn,_⟩:=I6.loc;have oD6:s6.heap.get? s2.heap.objs.size=some { cls:=.type "list",data:=.seq its.toArray k }:=(I6.pin (s2.heap.objs.size,{ cls:=.type "list",data:=.seq its.toArray k }) (by show _∈([]:List (Addr×Obj))++_;simp)).1;have u6:Un (my X.stack) fp H2 H5 s2.heap s6.heap:=I6.base;have HC5:H5 G2.objs.size=none:=I6.free;refine hend _ _ (aB H5 s2.heap.objs.size (.lst ys)) s6 ⟨?_,⟨m,hn⟩,by rw [az hDC.symm];exact HC5,(belowC _ I2.lt).symm,fun x c q=>?_,A8 I2.sz hCle,fun p hp=>?_⟩ (qn _ hD5)
   ·refine I2.call' (s':=s6) (ch:=fp) I6.os ?_ ?_ I6.bare fun b hb=>⟨(f2 b hb).2.2.2.1,(f2 b hb).2.1,(f2 b hb).2.2.2.2.1,(f2 b hb).2.2.2.2.2⟩
    ·refine ⟨fun b o e n nf nx=>u6.keep b o e n nf nx,fun b o e n nf nx=>u6.slot b o e n nf nx,fun b o e n nx=>?_,fun b o e nx=>u6.there b o e nx,fun b xs e=>?_,fun b o u e=>?_,fun b ps e=>?_⟩
     ·rw [az (belowD b (AQ e))];exact u6.free b o e n nx
     ·rw [az (aD e HD)];exact u6.tups b xs e
     ·rw [az (aD e HD)];exact u6.frzs b o u e
     ·rw [az (aD e HD)];exact u6.tbls b ps e
    ·intro b o e;by_cases hb:b=s2.heap.objs.size
     ·subst hb;rw [af] at e;cases e;exact ⟨hz,its,k,vv,oD6⟩
     ·rw [az hb] at e;refine (I6.hok b o e).stay (fun c v hcc q=>q) (fun c q=>?_) fun c xs q=>?_
      ·rw [az (aD q hD5)];exact q
      ·rw [az (aD q hD5)];exact q
   ·obtain ⟨v,o,ho,hd⟩:=I2.cell x c q;exact belowC c (AQ ho)
   ·exact belowC p.1 (AQ (I2.pin p hp).1)
  ·refine wpAny_bind (wpAny_standAt (wpAny_bind (wpAny_mono (T.item (jl X sc N' G2.objs.size cl s2 H2 fp) rfl rfl rfl hc i _ s5 (hX ix σ) H5 (fun _ _=>False) I5p (fpk fr5) st5 go) (fun r s6 ⟨u,hr,h6⟩=>?_) fun _ _ f=>f.elim)));subst hr;refine wpAny_bind (wpAny_mono h6 (fun _ s7 ⟨x,H7,I7,r7,y7,st7,fr7⟩=>?_) fun _ _ f=>f.elim);have I7':=I7.pinned (fpk fr7) (T.obj _ _ st7);refine wpAny_bind (wpAny_mono (hg _ _ _ _ _ _ s7 (hX ix σ) H7 x u _ I7' r7 (step x H7 y7)) (fun _ s8 ⟨σ8,H8,I8,x8,q8⟩=>?_) fun _ _ f=>f.elim);obtain ⟨xl,xv⟩:=x8.spec;have keepT:∀ {σ9:St} {H9:Hp} {s9:Shared} {pl:List (Addr×Obj)},(∀ p∈cu fp s7.heap,p∈pl)->CB (jl X sc N' G2.objs.size cl s2 H2 fp) pl σ9 H9 s9->tn (i+1) s9.heap/\∀ b∈fp,H9 b=none:=fun {σ9 H9 s9 pl} hp I9=>by
    have pn:∀ b o,b∈fp->s7.heap.get? b=some o->s9.heap.get? b=some o/\H9 b=none:=fun b o hb e=>by
     have:=I9.pin (b,o) (A9 _ (hp _ (dI hb e)));exact ⟨this.1,this.2.1⟩
    refine ⟨T.keep _ _ _ st7 fun b hb o e=>(pn b o hb e).1,fun b hb=>?_⟩;obtain ⟨o,e,_⟩:=T.obj _ _ st7 b hb;exact (pn b o hb e).2
   refine wpAny_bind (wpAny_mono (hf _ _ _ _ _ _ s8 σ8 H8 _ I8 q8) (fun ok s9 ⟨H9,I9,q9⟩=>?_) fun _ _ f=>f.elim);have pD:∀ {σ9:St} {H9:Hp} {s9:Shared},CB (jl X sc N' G2.objs.size cl s2 H2 fp) ([(s2.heap.objs.size,({ cls:=.type "list",data:=.seq its.toArray k }:Obj))]++cu fp s7.heap) σ9 H9 s9->
     s9.heap.get? s2.heap.objs.size=some { cls:=.type "list",data:=.seq its.toArray k }/\H9 s2.heap.objs.size=none:=fun {σ9 H9 s9} I9=>by
    have:=I9.pin (s2.heap.objs.size,{ cls:=.type "list",data:=.seq its.toArray k }) (A9 _ (BL _ (by simp)));exact ⟨this.1,this.2.1⟩
   cases ok with
   | false=>
    obtain ⟨m',hm,w9⟩:=(show ∃ m',m' < n/\W (i+1) m' ys H9 from by simpa using q9);obtain ⟨t9,fr9⟩:=keepT (fun p hp=>A9 _ hp) I9;obtain ⟨oD9,hD9⟩:=pD I9;refine wpAny_pure ⟨rfl,m',hm,i+1,ys,H9,its,k,(I9.pins_of (pins':=[]) fun p hp=>nomatch hp).weak xl xv,t9,fr9,hD9,vv,oD9,w9⟩
   | true=>
    have q9':te σ8 H9 fun y H4=>∃ m',m' < n/\W (i+1) m' (ys++[y]) H4:=by simpa using q9
    refine wpAny_bind (wpAny_bind (wpAny_mono (he _ _ _ _ _ _ s9 σ8 H9 _ I9 q9') (fun yv sA ⟨y,HA,IA,rA,m',hm,wA⟩=>?_) fun _ _ f=>f.elim));obtain ⟨oDA,hDA⟩:=pD IA;have hsz:its.toArray.size<=sizeLine:=by rw [AV,<-vv.length];exact hz
    refine wpAny_bind (wpAny_list_append_plain (hsz:=hsz) ⟨_,oDA⟩ fun h9 pl9 sb9=>?_);have IB:CB (jl X sc N' G2.objs.size cl s2 H2 fp) (cu fp s7.heap) σ8 HA sA:=IA.pins_of fun p hp=>IA.pin p (A9 _ (A9 _ hp));have IC:CB (jl X sc N' G2.objs.size cl s2 H2 fp) (cu fp s7.heap) σ8 HA { sA with heap:=h9 }:=IB.turned (it:=s2.heap.objs.size) (t':=sA.toks) (fun b o hb e=>(sb9.2 b hb).trans e) hDA hDC (.inr (AR _)) (fun x c q=>cellD x c q) fun p hp=>by
     have hp':p∈cu fp s7.heap:=by
      have z:p∈([]:List (Addr×Obj))++cu fp s7.heap:=hp;simpa using z
     exact fD p.1 (gk hp').1
    obtain ⟨t9,fr9⟩:=keepT (fun p hp=>hp) IC;obtain ⟨k',oD'⟩:=pl9;refine wpAny_pure (wpAny_pure ⟨rfl,m',hm,i+1,ys++[y],HA,its++[yv],k',(IC.pins_of (pins':=[]) fun p hp=>nomatch hp).weak xl xv,t9,fr9,hDA,vv.append (.cons rA .nil),?_,wA⟩);show h9.get? s2.heap.objs.size=_;rw [oD'];simp
 exact codeAny_compStart_list (loop _ rfl) (T.self X.A 0 _ _ _ (T.keep _ _ _ st2 (fun b _ o e=>old b o e)) (loop _ rfl))
theorem cf (hc:X.calm=true) (hix:pJ N sc0 sc N' ix=true) (hi:PI X tg iter wi)
  (hg:∀ C cl s H fp,PG (jl X sc N' C cl s H fp) tg g) (hf:∀ C cl s H fp,PF (jl X sc N' C cl s H fp) ifs tf) (he:∀ C cl s H fp,PE (jl X sc N' C cl s H fp) elt te)
  (eN:X.N=N:=by rfl) (eS:X.env.scope=sc0:=by rfl) (hs:∀ x,foldedSetIterable iter X.env x=pure x:=by intro _;rfl) :
  PE X (.ListComp elt [⟨tg,iter,ifs,0⟩] sc pos) (vg wi g tf te ix):=by
 refine ⟨?_⟩;intro Cj s σ H Q I h;subst eN eS;rw [eval_ListComp];refine ox (use:=none) hc hix hi hg hf he hs I h fun C D H' s' L q=>?_;obtain ⟨m,hn⟩:=L.ns;exact ⟨m,hn,fun h' sb=>⟨.ref D,H',L.gone sb,rfl,q⟩⟩
def rn (i:Nat) (t:TE):TS:=fun D σ H=>t σ H fun v H1=>D.nx (σ.set i (some v)) H1
theorem iA {i:Nat} {y:Str} {py spos:Pos} (hN:X.N.Nodup) (hiy:X.N[i]?=some y) (hy:X.env.scope.names.lookup y=some .local) (hc:X.calm=true) (hix:pJ N sc0 sc N' ix=true) (hi:PI X tg iter wi)
  (hg:∀ C cl s H fp,PG (jl X sc N' C cl s H fp) tg g) (hf:∀ C cl s H fp,PF (jl X sc N' C cl s H fp) ifs tf) (he:∀ C cl s H fp,PE (jl X sc N' C cl s H fp) elt te)
  (eN:X.N=N:=by rfl) (eS:X.env.scope=sc0:=by rfl) (hs:∀ x,foldedSetIterable iter X.env x=pure x:=by intro _;rfl)
  (hsw:swapsWith (.ListComp elt [⟨tg,iter,ifs,0⟩] sc pos) (some (.Name y py)) spos.line X.env=pure true:=by rfl) :
  PS X (.Assign [.Name y py] (.ListComp elt [⟨tg,iter,ifs,0⟩] sc pos) spos) (rn i (vg wi g tf te ix)):=by
 refine ⟨?_⟩;intro Cj s σ H Dn I h;subst eN eS;rw [exec_Assign_Name_used _ _ _ _ hsw];refine wpAny_bind (wpAny_standAt (wpAny_bind ?_));show wpAny _ X.A (do let _ <-comprehension (.ListComp elt [⟨tg,iter,ifs,0⟩] sc pos) sc X.env _ (newList []) false (eval iter X.env) (some (assign (.Name y py) X.env))) _ _ s;refine wpAny_bind (wpAny_mono (ox (use:=some (assign (.Name y py) X.env)) (Qf:=fun _ s'=>SP X Cj Dn .next s') hc hix hi hg hf he hs I h fun C D H' s' L q=>?_) (fun _ s' hq=>wpAny_pure (wpAny_pure hq)) fun _ _ e=>e);show wpAny _ X.A (assign (.Name y py) X.env (.ref D)) _ _ s';refine wpAny_assign_Name (gi L.inv hN hiy (.inl hy) (v:=.ref D) rfl (fun s1 I1 hsb=>?_) (.inr hy));obtain ⟨a,sb,ha⟩:=hsb;have haC:C≠a:=by
  rcases ha with z|z
  ·rw [z];exact L.loc
  ·exact (L.cel y a z).symm
 obtain ⟨m,hn⟩:=L.ns;have L1:EN X Cj (σ.set i (some (.ref D))) H' s1 C:=⟨I1,⟨m,hn.sameBut sb haC⟩,L.free,L.loc,L.cel,L.abv,L.pin⟩;exact ⟨m,hn.sameBut sb haC,fun h' sb'=>⟨_,H',L1.gone sb',q⟩⟩
end
end L2
namespace L2
open PySem
def Nx (Pv:Nat->List V->Hp->Prop) (n i:Nat) (ys:List V) (H:Hp):Prop:=∃ m',m' < n - i/\(m'=n - (i+1)/\i+1<=n/\Pv (i+1) ys H)
variable {H:Hp} {n i:Nat}
theorem Nx.mk {Pv:Nat->List V->Hp->Prop} {ys:List V} (h:i < n) (p:Pv (i+1) ys H):Nx Pv n i ys H:=⟨n - (i+1),zo,rfl,h,p⟩
theorem bU {K:ZF} {a:Addr} {xs:List V} {g:TG} {tf:TT} {te:TE} {ix:List (Option Nat)} {σ:St} {Q:VK} (Pv:Nat->List V->Hp->Prop) (h0:Pv 0 [] H)
  (hl:∀ i ys H,i<=xs.length->Pv i ys H->Cz K H a xs/\ys.length<=sizeLine)
  (hs:∀ i x ys H,xs[i]?=some x->Pv i ys H->g x (hX ix σ) H fun σ2 H2=>Ek (hX ix σ) σ2/\tf σ2 H2 fun b H3=>if b=true then te σ2 H3 fun y H4=>Nx Pv xs.length i (ys++[y]) H4 else Nx Pv xs.length i ys H3)
  (hd:∀ ys H,Pv xs.length ys H->∀ D,H D=none->Q (.ref D) (aB H D (.lst ys))) :
  ll (xj K a) g tf te ix σ H Q:=by
 refine ⟨fun i m ys H=>m=xs.length - i/\i<=xs.length/\Pv i ys H,⟨xs.length,by simp,Bv _,h0⟩,?_⟩;rintro i m ys H ⟨rfl,hi,p⟩;obtain ⟨q,hz⟩:=hl i ys H hi p;by_cases Cu:i < xs.length
 ·refine .inr ⟨⟨xs,xs[i],q,by simp [Cu]⟩,hz,fun x H' y=>?_⟩;obtain ⟨e,y⟩:=y;subst e;exact hs i x ys _ (y xs q) p
 ·have e:i=xs.length:=by lia
  subst e;exact .inl ⟨⟨xs,q,AR _⟩,hz,hd ys H p⟩
theorem cV {lo:Int} {n:Nat} {g:TG} {tf:TT} {te:TE} {ix:List (Option Nat)} {σ:St} {Q:VK} (Pv:Nat->List V->Hp->Prop) (h0:Pv 0 [] H)
  (hl:∀ i ys H,i<=n->Pv i ys H->ys.length<=sizeLine)
  (hs:∀ i ys H,i < n->Pv i ys H->g (.int (lo+i)) (hX ix σ) H fun σ2 H2=>Ek (hX ix σ) σ2/\tf σ2 H2 fun b H3=>if b=true then te σ2 H3 fun y H4=>Nx Pv n i (ys++[y]) H4 else Nx Pv n i ys H3)
  (hd:∀ ys H,Pv n ys H->∀ D,H D=none->Q (.ref D) (aB H D (.lst ys))) :
  ll (tH lo n) g tf te ix σ H Q:=by
 refine ⟨fun i m ys H=>m=n - i/\i<=n/\Pv i ys H,⟨n,by simp,Bv _,h0⟩,?_⟩;rintro i m ys H ⟨rfl,hi,p⟩;have hz:=hl i ys H hi p;by_cases Cu:i < n
 ·refine .inr ⟨Cu,hz,fun x H' y=>?_⟩;obtain ⟨e,y⟩:=y;subst e y;exact hs i ys _ Cu p
 ·have e:i=n:=by lia
  subst e;exact .inl ⟨AR _,hz,hd ys H p⟩
theorem cB {σ:St} {A B:Hp->Prop} (h:A H):ug σ H fun b H3=>if b=true then A H3 else B H3:=by
 show if true=true then A H else B H;rw [if_pos rfl];exact h
end L2
namespace L2
open PySem PySem.Spec PyProof.Rows
def rp (w:World) (p:Str×V) (e:DictEntry):Prop:=e.hash=hashStr w p.1/\(∃ t,e.key=.str p.1 t)/\CG p.2 e.val
def hZ (w:World) (K:ZF) (a:Addr) (kvs:List (Str×V)):Prop:=
 ∃ (es:Array DictEntry) (ep:Nat),K.lookup a=some { cls:=.type "dict",data:=.dict es ep }/\Paired (rp w) kvs es.toList
variable {w:World} {P:Program}
theorem lq:∀ {kvs:List (Str×V)} {es:List DictEntry},Paired (rp w) kvs es->∀ e∈es,∃ k,(strKind P w).is k e.key=true/\e.hash=(strKind P w).hash k
 | _,_,.nil,_,h=>nomatch h
 | (x,y)::r,e::es,.cons h t,e',he=>by
  rcases AZ.mp he with z|z
  ·subst z;obtain ⟨h1,⟨tk,h2⟩,h3⟩:=h;refine ⟨x,?_,h1⟩;rw [h2];show Value.isStrOf x (.str x tk)=true;simp [Value.isStrOf]
  ·exact lq t e' z
section
variable {X:Cx}
theorem cm:∀ {ns:List Int} {us:List Value},CD (ns.map V.int) us->IntsAre us ns
 | [],_,.nil=>.nil
 | n::r,_,.cons h t=>by
  obtain ⟨tk,rfl⟩:=h;exact .cons n tk (cm t)
theorem cX:∀ {ns:List Int} {us:List Value},IntsAre us ns->CD (ns.map V.int) us
 | _,_,.nil=>.nil
 | _,_,.cons n t r=>.cons ⟨t,rfl⟩ (cX r)
theorem gS:bJ X (.builtin "sorted") (fun xs H Q=>∃ (a:Addr) (ns:List Int),xs=[.ref a]/\Cz X.K H a (ns.map V.int)/\ns.length < 64 /\
  ∀ (p:Addr) (ns':List Int),H p=none->ns'.Perm ns->ns'.Pairwise (·<=·)->Q (.ref p) (aB H p (.lst (ns'.map V.int)))):=by
 intro Cj s σ H xs us Q I r h;obtain ⟨a,ns,rfl,hS,hn,q⟩:=h;cases r with
 | cons r0 rr=>
  cases rr;cases r0;obtain ⟨its,rv,pl,hz⟩:=I.list hS;have hl:its.length=ns.length:=by rw [<-rv.length,AM]
  refine sorted_ints pl.isList (cm rv) zo fun out ns' hI hp hs=>?_;obtain ⟨e,he⟩:=sortedAll_at s.heap its out;have hl':ns'.length=ns.length:=hp.length_eq;have sz:(64:Nat)<=sizeLine:=by decide
  have v':=cX hI;refine ⟨.ref (s.heap.objs.size+1),_,I.laid (t':=s.toks) (a:=s.heap.objs.size+1) (o:=.lst (ns'.map V.int)) (fun b o e=>sortedAll_old e) (BS _) ?_,rfl,q _ _ (I.hok.fresh (BS _)) hp hs⟩;refine ⟨by rw [AM];lia,out.toList,e,v',?_⟩;rw [he]
end
mutual
inductive Dt (K:ZF) (H:Hp):V->PyData->Prop
 | non:Dt K H .non .none
 | bl (b:Bool):Dt K H (.bl b) (.bool b)
 | int (i:Int):Dt K H (.int i) (.int i)
 | str (x:Str):Dt K H (.str x) (.str x)
 | lst {a:Addr} {xs:List V} {ds:List PyData}:Cz K H a xs->Dl K H xs ds->Dt K H (.ref a) (.list ds)
 | tup {a:Addr} {xs:List V} {ds:List PyData}:CI K H a xs->Dl K H xs ds->Dt K H (.ref a) (.tuple ds)
inductive Dl (K:ZF) (H:Hp):List V->List PyData->Prop
 | nil:Dl K H [] []
 | cons {v:V} {d:PyData} {vs:List V} {ds:List PyData}:Dt K H v d->Dl K H vs ds->Dl K H (v::vs) (d::ds)
end
section
variable {X:Cx} {Cj:List (Addr×Obj)} {σ:St} {H:Hp} {s:Shared}
mutual
theorem Dt.reads (I:CB X Cj σ H s):∀ {v:V} {d:PyData} {u:Value},Dt X.K H v d->CG v u->∃ as,Reads s.heap u d as
 | _,_,_,.non,r=>by cases r;exact ⟨_,.none⟩
 | _,_,_,.bl b,r=>by cases r;exact ⟨_,.bool b⟩
 | _,_,_,.int i,r=>by obtain ⟨t,rfl⟩:=r;exact ⟨_,.int i t⟩
 | _,_,_,.str x,r=>by obtain ⟨t,rfl⟩:=r;exact ⟨_,.str x t⟩
 | _,_,_,.lst hS hA,r=>by
  cases r;obtain ⟨its,rv,⟨o,n,e,c,dd,hd⟩,hz⟩:=I.list hS;obtain ⟨as,ha⟩:=Dl.reads I hA rv;first
   | exact ⟨_,.list e c hd (by simpa using ha)⟩
   | exact ⟨_,.list e c dd (by simpa using ha)⟩
 | _,_,_,.tup hS hA,r=>by
  cases r;obtain ⟨its,rv,⟨o,e,c,n,hd⟩,hz⟩:=I.tuple hS;obtain ⟨as,ha⟩:=Dl.reads I hA rv;exact ⟨_,.tuple e c hd (by simpa using ha)⟩
theorem Dl.reads (I:CB X Cj σ H s):∀ {vs:List V} {ds:List PyData} {us:List Value},Dl X.K H vs ds->CD vs us->∃ as,ReadsAll s.heap us ds as
 | _,_,_,.nil,.nil=>⟨_,.nil⟩
 | _,_,_,.cons h t,.cons r rr=>by
  obtain ⟨a1,h1⟩:=Dt.reads I h r;obtain ⟨a2,h2⟩:=Dl.reads I t rr;exact ⟨_,.cons h1 h2⟩
end
end
section
variable {X:Cx}
inductive GC (K:ZF) (x:V) (y:V) (H:Hp) (Q:VK):Prop
 | mk (dx dy:_):Dt K H x dx->Dt K H y dy->dx.canLay0=true->dy.canLay0=true->min dx.depth dy.depth<=60->Q (.bl (PyData.eqv dx dy)) H->GC K x y H Q
inductive Fq (K:ZF) (x:V) (y:V) (H:Hp) (Q:VK):Prop
 | mk (dx dy:_):Dt K H x dx->Dt K H y dy->dx.canLay0=true->dy.canLay0=true->min dx.depth dy.depth<=60->Q (.bl (!PyData.eqv dx dy)) H->Fq K x y H Q
theorem Fj {k:Nat} (hr:CY k X.A):eG X (compareOp .Eq) (GC X.K):=by
 intro Cj s σ H x y v u Q I rx ry h;obtain ⟨dx,dy,h1,h2,c1,c2,dp,q⟩:=h;obtain ⟨as,ra⟩:=h1.reads I rx;obtain ⟨bs,rb⟩:=h2.reads I ry;exact SeqAt.compareEq_reads ra rb c1 c2 (by have:=hr.un;lia) ⟨.bl _,H,I,rfl,q⟩
theorem DT {k:Nat} (hr:CY k X.A):eG X (compareOp .NotEq) (Fq X.K):=by
 intro Cj s σ H x y v u Q I rx ry h;obtain ⟨dx,dy,h1,h2,c1,c2,dp,q⟩:=h;obtain ⟨as,ra⟩:=h1.reads I rx;obtain ⟨bs,rb⟩:=h2.reads I ry;exact SeqAt.compareNe_reads ra rb c1 c2 (by have:=hr.un;lia) ⟨.bl _,H,I,rfl,q⟩
end
def EJ (ns:List Int):PyData:=.list (ns.map .int)
variable {H:Hp} {K:ZF}
theorem Eo:∀ (ns:List Int),Dl K H (ns.map V.int) (ns.map PyData.int)
 | []=>.nil
 | n::r=>.cons (.int n) (Eo r)
variable {ns:List Int} {a:Addr}
theorem FC (h:Cz K H a (ns.map V.int)):Dt K H (.ref a) (EJ ns):=.lst h (Eo ns)
theorem DH:∀ ns:List Int,PyData.canLayAll0 (ns.map PyData.int)=true
 | []=>rfl
 | n::r=>by
  show (true && PyData.canLayAll0 (r.map PyData.int))=true;rw [DH r];rfl
theorem Ey:∀ ns:List Int,PyData.depthAll (ns.map PyData.int)<=1
 | []=>by simp [PyData.depthAll]
 | n::r=>by
  have:=Ey r;simp only [BB,PyData.depthAll,PyData.depth];lia
theorem Eh:∀ a b:List Int,PyData.eqvAll (a.map PyData.int) (b.map PyData.int)=decide (a=b)
 | [],[]=>by simp [PyData.eqvAll]
 | [],y::b=>by simp [PyData.eqvAll]
 | x::a,[]=>by simp [PyData.eqvAll]
 | x::a,y::b=>by
  simp only [BB,PyData.eqvAll,PyData.eqv,Eh a b];by_cases e:x=y<;>by_cases e':a=b<;>simp [e,e']
theorem FU (a b:List Int):PyData.eqv (EJ a) (EJ b)=decide (a=b):=Eh a b
variable {Q:VK}
theorem ES {p q:Addr} {a b:List Int} (ha:Cz K H p (a.map V.int)) (hb:Cz K H q (b.map V.int)) (h:Q (.bl (!decide (a=b))) H):Fq K (.ref p) (.ref q) H Q:=by
 refine ⟨_,_,FC ha,FC hb,DH a,DH b,?_,by rw [FU];exact h⟩;have:=Ey a;have e:(EJ a).depth=1+PyData.depthAll (a.map PyData.int)\/(EJ a).depth=PyData.depthAll (a.map PyData.int)+1:=by
  refine .inr ?_;simp only [EJ,PyData.depth]
 lia
variable {s:Shared} {σ:St} {Cj:List (Addr×Obj)} {X:Cx}
theorem CB.turnedS {H H':Hp} {h':Heap} {t':Nat} {ch:List Addr} (I:CB X Cj σ H s) (hf:∀ b∈ch,io X Cj H b)
  (k:∀ b o,b∉ch->s.heap.get? b=some o->h'.get? b=some o) (hH:∀ b o,H b=some o->H' b=some o) (hN:∀ b,b < s.heap.objs.size->H b=none->H' b=none)
  (new:∀ b o,H b=none->H' b=some o->CO X.prog X.w H' h' b o):CB X Cj σ H' { s with heap:=h',toks:=t' }:=by
 refine I.step (g':=s.gens) (d':=s.drawn) (ch:=ch) (fun b hb=>?_) (fun b o _ _ hc e _=>k b o hc e) (fun b o _ _ hc e _=>⟨o.slots,k b o hc e⟩) (fun b o _ e n=>hN b (AQ e) n)
  (fun b o hc e=>⟨o,k b o hc e⟩) (fun b xs e=>hH b _ e) (fun b o u e=>hH b _ e) (fun b ps e=>⟨#[],by rw [hH b _ e];simp⟩) (fun m hm=>?_) (fun b u e=>?_) I.bare
 ·obtain ⟨_,f1,_,f3,f4,f5⟩:=hf b hb;exact ⟨f3,f1,f4,f5⟩
 ·obtain ⟨o,es,ep,ho,r⟩:=hm;exact ⟨o,es,ep,k _ o (fun z=>(hf _ z).2.1 rfl) ho,r⟩
 ·cases q:H b with
  | none=>exact new b u q e
  | some v=>
   rw [hH b v q] at e;cases e;refine (I.hok b u q).stay (fun c v hc q'=>k c v (fun z=>?_) q') (fun c q'=>hH c _ q') fun c xs q'=>hH c _ q';have n:=(hf c z).1;rcases hc with rfl|hc
   ·rw [q] at n;cases n
   ·rw [hc] at n;cases n
def Itz (K:ZF) (l1 l2:Addr):It:=
 ⟨fun i H=>∃ xs ys x y,Cz K H l1 xs/\Cz K H l2 ys/\xs[i]?=some x/\ys[i]?=some y,
  fun i H v H'=>∃ T x y,v=.ref T/\H T=none/\H'=aB H T (.tup [x,y])/\(∀ xs,Cz K H l1 xs->xs[i]?=some x)/\∀ ys,Cz K H l2 ys->ys[i]?=some y,
  fun i H=>∃ xs ys,Cz K H l1 xs/\Cz K H l2 ys/\(xs.length<=i\/ys.length<=i)⟩
theorem Gm {P:Program} {w:World} {K:ZF} {elts:List Expr} {kt:Nat} {tp:Pos} {z TI TO i1 i2 l1 l2:Addr} (D:ZipApart z TI TO i1 i2 l1 l2) :
  jW P w K (.Tuple elts kt tp) (Itz K l1 l2) [z,TI,TO,i1,i2] z (fun i h=>IsZip h z TI TO .none/\IsPair h TI (.ref i1) (.ref i2)/\(∃ a b,IsPair h TO a b)/\h.IsListIter i1 l1 i/\h.IsListIter i2 l2 i) where
 mem:=by simp
 obj:=fun i h st b hb=>by
  obtain ⟨hz,hTI,⟨a,c,hTO⟩,⟨o1,h1,_,d1⟩,⟨o2,h2,_,d2⟩⟩:=st;simp at hb;rcases hb with rfl|rfl|rfl|rfl|rfl
  ·exact ⟨_,hz,fun v q=>by cases q⟩
  ·exact ⟨_,hTI,fun v q=>by cases q⟩
  ·exact ⟨_,hTO,fun v q=>by cases q⟩
  ·exact ⟨_,h1,fun v q=>by rw [d1] at q;cases q⟩
  ·exact ⟨_,h2,fun v q=>by rw [d2] at q;cases q⟩
 keep:=fun i h h' st k=>by
  obtain ⟨hz,hTI,⟨a,c,hTO⟩,h1,h2⟩:=st;exact ⟨k z (by simp) _ hz,k TI (by simp) _ hTI,⟨a,c,k TO (by simp) _ hTO⟩,h1.at fun o e=>k i1 (by simp) o e,h2.at fun o e=>k i2 (by simp) o e⟩
 item:=by
  intro X hP hw hK hc i Cj s σ H E I hf st hg;subst hP hw hK;obtain ⟨xs,ys,x,y,hx,hy,ex,ey⟩:=hg;obtain ⟨hz,hTI,⟨a,c,hTO⟩,h1,h2⟩:=st;obtain ⟨its1,rv1,p1,z1⟩:=I.list hx;obtain ⟨its2,rv2,p2,z2⟩:=I.list hy;obtain ⟨u1,eu1,ru1⟩:=rv1.get ex;obtain ⟨u2,eu2,ru2⟩:=rv2.get ey;refine wpAny_pyNext_zip_item D hz hTI hTO h1 h2 p1.isList p2.isList (x:=u1) (y:=u2) (by simpa using eu1) (by simpa using eu2) fun h' a1 a2 a3 a4 a5 a6 a7=>⟨_,rfl,?_⟩;refine wpAny_letOwnedTupleGo_zip a1 fun h'' b1 b2=>?_;have hT:H s.heap.objs.size=none:=I.hok.fresh (AR _);have low:∀ b o,s.heap.get? b=some o->b≠s.heap.objs.size:=fun b o e=>AW (AQ e);refine ⟨.ref s.heap.objs.size,aB H s.heap.objs.size (.tup [x,y]),?_,rfl,⟨s.heap.objs.size,x,y,rfl,hT,rfl,fun xs' h=>by rw [I.list_inj h hx];exact ex,fun ys' h=>by rw [I.list_inj h hy];exact ey⟩,?_,fun b hb=>?_⟩
  ·show CB X Cj σ (aB H s.heap.objs.size (.tup [x,y])) { s with heap:=h'',toks:=s.toks };refine CB.turnedS (s:=s) (h':=h'') (t':=s.toks) (ch:=[z,TO,i1,i2]) I (fun b hb=>hf b ?_) (fun b o hc e=>?_) (fun b o e=>by rw [az (aD e hT)];exact e) (fun b hb n=>by rw [az (AW hb)];exact n) fun b o n e=>?_
   ·simp at hb ⊢;rcases hb with rfl|rfl|rfl|rfl<;>simp
   ·simp at hc;exact b2.extBut b o hc.1 (a7 b o hc.1 hc.2.1 hc.2.2.1 hc.2.2.2 e)
   ·by_cases eb:b=s.heap.objs.size
    ·subst eb;rw [af] at e;cases e;refine ⟨CM,[u1,u2],.cons ru1 (.cons ru2 .nil),_,b2.extBut _ _ ?_ a5,rfl,_,rfl⟩;exact fun q=>low z _ hz q.symm
    ·rw [az eb,n] at e;cases e
  ·refine ⟨b1,b2.extBut _ _ D.TIz (a7 _ _ D.TIz D.TITO D.TIi1 D.TIi2 hTI),⟨_,_,b2.extBut _ _ D.TOz a2⟩,a3.at fun o e=>b2.extBut _ o D.i1z e,a4.at fun o e=>b2.extBut _ o D.i2z e⟩
  ·have n:=(hf b hb).1;have:b≠s.heap.objs.size:=by
    simp at hb;obtain ⟨_,q1,_⟩:=id h1;obtain ⟨_,q2,_⟩:=id h2;rcases hb with rfl|rfl|rfl|rfl|rfl
    ·exact low _ _ hz
    ·exact low _ _ hTI
    ·exact low _ _ hTO
    ·exact low _ _ q1
    ·exact low _ _ q2
   rw [az this];exact n
 done:=by
  intro X hP hw hK hc i Cj s σ H E I hf st hg;subst hP hw hK;obtain ⟨xs,ys,hx,hy,hl⟩:=hg;obtain ⟨hz,hTI,⟨a,c,hTO⟩,h1,h2⟩:=st;obtain ⟨its1,rv1,p1,z1⟩:=I.list hx;obtain ⟨its2,rv2,p2,z2⟩:=I.list hy;have e1:=rv1.length;have e2:=rv2.length;have hend:its1.toArray[i]?=none\/its2.toArray[i]?=none:=by
   rcases hl with h|h
   ·exact .inl (by simp;lia)
   ·exact .inr (by simp;lia)
  refine wpAny_pyNext_zip_end (I.ok.hd hc) D hz hTI hTO h1 h2 p1.isList p2.isList hend fun h' k=>⟨rfl,?_⟩;refine I.turnedS (t':=s.toks) (ch:=[z,TO,i1,i2]) (fun b hb=>hf b ?_) (fun b o hc e=>?_) (fun b o e=>e) (fun b hb n=>n) fun b o n e=>?_
  ·simp at hb ⊢;rcases hb with rfl|rfl|rfl|rfl<;>simp
  ·simp at hc;exact k b o hc.1 hc.2.1 hc.2.2.1 hc.2.2.2 e
  ·rw [n] at e;cases e
 self:=fun _ _ _ _ _ st h=>wpAny_pyIter_zip st.1 h
section
variable {X:Cx}
inductive GL (K:ZF) (R:It->Hp->Prop) (vs:List V) (H1:Hp):Prop
 | mk (l1 l2:_):vs=[.ref l1,.ref l2]->(∃ xs,Cz K H1 l1 xs)->(∃ ys,Cz K H1 l2 ys)->R (Itz K l1 l2) H1->GL K R vs H1
def iZip (K:ZF) (ta:TA):TI:=fun σ H R=>ta σ H fun vs H1=>GL K R vs H1
theorem Gh:bootBuiltins "zip"=some (.type "zip"):=by decide +kernel
theorem Gv {elts:List Expr} {kt:Nat} {tp:Pos} {a b:Expr} {ta:TA} {p pos:Pos} (hg:Gl X "zip") (hm:X.mg "zip"=none) (ha:PA X [a,b] ta) (hs:starEach [a,b] X.env=[(false,eval a X.env),(false,eval b X.env)]:=by rfl) (hs2:starEach [b] X.env=[(false,eval b X.env)]:=by rfl) :
  PI X (.Tuple elts kt tp) (.Call (.Name "zip" p) [a,b] [] pos) (iZip X.K ta):=by
 refine ⟨?_⟩;intro Cj s σ H R I h;refine Call_ (c8 I hg hm Gh (Bz (bA (ha pos Cj s σ H _ I h) fun us s1 ⟨vs,H1,I1,r1,q1⟩=>?_) (by rw [hs,hs2]) (by rw [hs2];rfl)));obtain ⟨l1,l2,e,⟨xs,hx⟩,⟨ys,hy⟩,q⟩:=q1;subst e;cases r1 with
 | cons r rr=>
  cases rr with
  | cons r' rr=>
   cases rr;cases r;cases r';obtain ⟨its1,rv1,p1,z1⟩:=I1.list hx;obtain ⟨its2,rv2,p2,z2⟩:=I1.list hy;refine call_zip_2 p1.isList p2.isList fun h' a1 a2 a3 a4 a5 a6 a7=>?_;refine wpAny_pyIter_zip a1 ?_;have lt1:l1 < s1.heap.objs.size:=by obtain ⟨_,e,_⟩:=p1.isList;exact AQ e
   have lt2:l2 < s1.heap.objs.size:=by obtain ⟨_,e,_⟩:=p2.isList;exact AQ e
   refine ⟨_,[s1.heap.objs.size+4,s1.heap.objs.size+2,s1.heap.objs.size+3,s1.heap.objs.size,s1.heap.objs.size+1],_,_,H1,rfl,I1.kept (t':=s1.toks) a7,Gm (PyProof.Rows.zipApart_new lt1 lt2),⟨a1,a2,⟨_,_,a3⟩,a4,a5⟩,fun b hb=>?_,q⟩;have hb':s1.heap.objs.size<=b:=by
    simp only [AZ,BN,or_false] at hb;rcases hb with e|e|e|e|e<;>rw [e]
    ·exact Nat.le_add_right _ _
    ·exact Nat.le_add_right _ _
    ·exact Nat.le_add_right _ _
    ·exact AR _
    ·exact Nat.le_add_right _ _
   exact I1.fpOk hb' (I1.hok.fresh hb')
end
def He (K:ZF) (a:Addr) (n:Nat):It:=
 ⟨fun i H=>∃ xs,Cz K H a xs/\xs.length=n/\i < n,fun i H x H'=>H'=H/\∀ xs,Cz K H a xs->xs[n - 1 - i]?=some x,fun i _=>n<=i⟩
theorem Gb {tg:Expr} (a it:Addr) (n:Nat):jW P w K tg (He K a n) [it] it (fun i h=>h.IsRevIter it a ((n:Int) - 1 - (min i n:Nat))) where
 mem:=by simp
 obj:=fun i h st b hb=>by
  have e:b=it:=by simpa using hb
  subst e;obtain ⟨o,e,c,d⟩:=st;exact ⟨o,e,fun v z=>by rw [d] at z;cases z⟩
 keep:=fun i h h' st k=>st.at fun o e=>k it (by simp) o e
 item:=by
  intro X hP hw hK hc i Cj s σ H E I hf st hg;subst hP hw hK;obtain ⟨xs,hq,hn,hi⟩:=hg;obtain ⟨its,rv,p,hz⟩:=I.list hq;have hj:n - 1 - i < xs.length:=by lia
  obtain ⟨u,hu,ru⟩:=rv.get (i:=n - 1 - i) (x:=xs[n - 1 - i]) (by simp [hj]);obtain ⟨f0,f1,f2,f3,f4,f5⟩:=hf it (by simp);have st':s.heap.IsRevIter it a ((n - 1 - i:Nat):Int):=by
   rw [show ((n - 1 - i:Nat):Int)=(n:Int) - 1 - (min i n:Nat) by lia];exact st
  refine wpAny_pyNext_rev_item st' p.isList (x:=u) (by simpa using hu) fun h' st2 sb=>?_;have I1:CB X Cj σ H { s with heap:=h' }:=I.turned (t':=s.toks) (fun b o hb e=>(sb.2 b hb).trans e) f0 f1 f3 f4 f5;obtain ⟨o,e,c,d⟩:=id st2;refine ⟨u,rfl,kY (s:={ s with heap:=h' }) e c d zd ⟨xs[n - 1 - i],H,I1,ru,⟨rfl,fun ys hy=>by rw [I.list_inj hy hq];simp [hj]⟩,?_,fun b hb=>(hf b hb).1⟩⟩;rw [show (n:Int) - 1 - (min (i+1) n:Nat)=((n - 1 - i:Nat):Int) - 1 by lia];exact st2
 done:=by
  intro X hP hw hK hc i Cj s σ H E I hf st hg;subst hP hw hK;have hg':n<=i:=hg;obtain ⟨f0,f1,f2,f3,f4,f5⟩:=hf it (by simp);have st':s.heap.IsRevIter it a (-1):=by
   rw [show (-1:Int)=(n:Int) - 1 - (min i n:Nat) by lia];exact st
  exact wpAny_pyNext_rev_end (I.ok.hd hc) st' fun h' eb=>⟨rfl,I.turned (t':=s.toks) (fun b o hb e=>eb b o hb e) f0 f1 f3 f4 f5⟩
 self:=fun _ _ _ _ _ st h=>wpAny_pyIter_revIter st h
section
variable {X:Cx} {tg:Expr}
inductive GP (K:ZF) (R:It->Hp->Prop) (vs:List V) (H1:Hp):Prop
 | mk (a xs:_):vs=[.ref a]->Cz K H1 a xs->R (He K a xs.length) H1->GP K R vs H1
def iRev (K:ZF) (ta:TA):TI:=fun σ H R=>ta σ H fun vs H1=>GP K R vs H1
theorem GZ {a:Expr} {ta:TA} {p pos:Pos} (hg:Gl X "reversed") (hm:X.mg "reversed"=none) (ha:PA X [a] ta) (hs:starEach [a] X.env=[(false,eval a X.env)]:=by rfl):PI X tg (.Call (.Name "reversed" p) [a] [] pos) (iRev X.K ta):=by
 refine ⟨?_⟩;intro Cj s σ H R I h;refine Call_ (c8 I hg hm PyProof.Rows.boot_reversed (Bz (bA (ha pos Cj s σ H _ I h) fun us s1 ⟨vs,H1,I1,r1,q1⟩=>?_) hs rfl));obtain ⟨l,xs,e,hx,q⟩:=q1;subst e;cases r1 with
 | cons r rr=>
  cases rr;cases r;obtain ⟨its,rv,p1,z1⟩:=I1.list hx;refine call_reversed_list p1.isList ?_;have hl:(its.toArray.size:Int)=xs.length:=by rw [AV,<-rv.length]
  have hr:(s1.heap.push (revObj l ((its.toArray.size:Int) - 1))).IsRevIter s1.heap.objs.size l ((xs.length:Int) - 1 - (min 0 xs.length:Nat)):=by
   refine ⟨_,AO _ rfl,rfl,?_⟩;rw [show (xs.length:Int) - 1 - (min 0 xs.length:Nat)=(its.toArray.size:Int) - 1 by lia];rfl
  refine wpAny_pyIter_revIter (s:={ s1 with heap:=s1.heap.push (revObj l ((its.toArray.size:Int) - 1)) }) hr ?_;refine ⟨s1.heap.objs.size,[s1.heap.objs.size],_,_,H1,rfl,I1.kept (t':=s1.toks) fun b o e=>AK _ e,Gb l _ xs.length,hr,fun b hb=>?_,q⟩;have e:b=s1.heap.objs.size:=by simpa using hb
  subst e;exact I1.fpOk (AR _) (I1.hok.fresh (AR _))
end
variable {xs:List V}
theorem GD {g:TG} {tb:TS} {D:eX} (Pv:Nat->St->Hp->Prop) (h0:Pv 0 σ H) (hl:∀ i σ H,i<=xs.length->Pv i σ H->Cz K H a xs)
  (hs:∀ i x σ H,i < xs.length->xs[xs.length - 1 - i]?=some x->Pv i σ H->g x σ H fun σ2 H2=>tb { D with nx:=Pv (i+1),ct:=Pv (i+1),bk:=D.nx } σ2 H2) (hd:∀ σ H,Pv xs.length σ H->D.nx σ H) :
  ∃ W:Nat->Nat->St->Hp->Prop,(∃ m,W 0 m σ H)/\∀ i m σ H,W i m σ H->
   ((He K a xs.length).stop i H/\D.nx σ H)\/((He K a xs.length).go i H/\∃ N:St->Hp->Prop,(∀ σ' H',N σ' H'->∃ m',m' < m/\W (i+1) m' σ' H')/\∀ x H',(He K a xs.length).yld i H x H'->g x σ H' fun σ2 H2=>tb { D with nx:=N,ct:=N,bk:=D.nx } σ2 H2):=by
 refine ⟨fun i m σ H=>m=xs.length - i/\i<=xs.length/\Pv i σ H,⟨xs.length,by simp,Bv _,h0⟩,?_⟩;rintro i m σ H ⟨rfl,hi,p⟩;have q:=hl i σ H hi p;by_cases Cu:i < xs.length
 ·refine .inr ⟨⟨xs,q,rfl,Cu⟩,Pv (i+1),fun σ' H' p'=>⟨xs.length - (i+1),zo,rfl,Cu,p'⟩,fun x H' y=>?_⟩;obtain ⟨e,y⟩:=y;subst e;exact hs i x σ _ Cu (y xs q) p
 ·have e:i=xs.length:=by lia
  subst e;exact .inl ⟨AR _,hd σ H p⟩
section
variable {X:Cx}
theorem E9:bJ X (.builtin "isinstance") (fun xs H Q=>∃ i,xs=[.int i,.ty "int"]/\Q (.bl true) H):=by
 intro Cj s σ H xs us Q I r h;obtain ⟨i,rfl,q⟩:=h;cases r with
 | cons r0 rr=>
  cases rr with
  | cons r1 rr=>
   cases rr;obtain ⟨t,rfl⟩:=r0;cases r1;exact IsiPair.int_int ⟨.bl true,H,I,rfl,q⟩
theorem ET:bJ X (.builtin "isinstance") (fun xs H Q=>∃ i,xs=[.int i,.ty "bool"]/\Q (.bl false) H):=by
 intro Cj s σ H xs us Q I r h;obtain ⟨i,rfl,q⟩:=h;cases r with
 | cons r0 rr=>
  cases rr with
  | cons r1 rr=>
   cases rr;obtain ⟨t,rfl⟩:=r0;cases r1;exact IsiPair.int_bool ⟨.bl false,H,I.tok _,rfl,q⟩
theorem Dm {x:Str} {n:String} {pos:Pos} (hg:Gl X x) (hm:X.mg x=none) (hv:bootBuiltins x=some (.type n)) (hn:x≠"__name__":=by decide) (hd:(x == ("__debug__":Str))=false:=by decide):PE X (.Name x pos) (tC (.ty n)):=
 tL hg hm hv rfl hn hd
theorem EL {P:Program}:∀ {kvs:List (Str×V)} {es:List DictEntry},Paired (rp w) kvs es->∃ vs:List (Str×Value),Pairs (strKind P w) es vs/\vs.map (·.1)=kvs.map (·.1)
 | _,_,.nil=>⟨[],.nil,rfl⟩
 | (x,y)::r,e::es,.cons h t=>by
  obtain ⟨vs,p,q⟩:=EL (P:=P) t;obtain ⟨h1,⟨tk,h2⟩,h3⟩:=h;refine ⟨(x,e.val)::vs,.cons ?_ rfl p,by rw [BB,BB,q]⟩;rw [h2];show Value.isStrOf x (.str x tk)=true;simp [Value.isStrOf]
theorem EM {P:Program} {w:World}:∀ {ks:List Str} {us:List Value},us.length=ks.length->(∀ (j:Nat) k u,ks[j]?=some k->us[j]?=some u->(strKind P w).is k u=true)->CD (ks.map V.str) us
 | [],[],_,_=>.nil
 | k::ks,[],h,_=>by cases h
 | [],u::us,h,_=>by cases h
 | k::ks,u::us,h,hv=>by
  refine .cons ?_ (EM (P:=P) (w:=w) (by simpa using h) fun j k' u' a b=>hv (j+1) k' u' (by simpa using a) (by simpa using b));obtain ⟨t,e⟩:=Value.isStrOf_shape (hv 0 k u rfl rfl);exact ⟨t,e⟩
theorem EC (hc:X.calm=true):bJ X (.type "list") (fun xs H Q=>∃ a kvs,xs=[.ref a]/\hZ X.w X.K a kvs/\(kvs.map (·.1)).Nodup/\(a == sysModules)=false/\kvs.length<=1000/\∀ p,H p=none->Q (.ref p) (aB H p (.lst (kvs.map fun kv=>V.str kv.1)))):=by
 intro Cj s σ H xs us Q I r h;obtain ⟨a,kvs,rfl,⟨es,ep,hk,hp⟩,nd,lo,hz,q⟩:=h;cases r with
 | cons r0 rr=>
  cases rr;cases r0;have ho:=I.kIn a _ hk;obtain ⟨vs,pv,ek⟩:=EL (P:=X.prog) hp;have hat:s.heap.DictAt (strKind X.prog X.w) a vs ep:=⟨_,es,ho,⟨rfl,rfl,rfl⟩,rfl,fun e he'=>lq hp e (by simpa using he'),pv,by rw [ek];exact nd⟩;have hl:vs.length=kvs.length:=by
   have:=congrArg List.length ek;simpa using this
  have sz:(1000:Nat)<=sizeLine:=by decide
  refine PySem.W.kdl_call (PySem.W.kdl_dict (knd:=strKind X.prog X.w) (kvs:=vs) (ep:=ep) lo) (I.ok.hd hc) hat zo fun h' tk acc' c' hkeep hD hacc=>?_;have hv:CD ((kvs.map (·.1)).map V.str) acc'.toList:=by
   refine EM (P:=X.prog) (w:=X.w) (by rw [A0,hacc.1,AM,hl]) fun j k u e1 e2=>?_;obtain ⟨k',x',e3,e4⟩:=hacc.2 j u (by rw [<-Array.getElem?_toList];exact e2);rw [<-ek,A5,e3] at e1;have:k'=k:=by simpa using e1
   rw [<-this];exact e4
  have e0:kvs.map (fun kv=>V.str kv.1)=(kvs.map (·.1)).map V.str:=by rw [BW];rfl
  refine ⟨.ref s.heap.objs.size,aB H s.heap.objs.size (.lst (kvs.map fun kv=>V.str kv.1)),I.laid (t':=tk) hkeep (AR _) ?_,rfl,q _ (I.hok.fresh (AR _))⟩;refine ⟨by rw [AM];lia,acc'.toList,c',by rw [e0];exact hv,?_⟩;rw [hD]
end
theorem ED (Cv:Array Value):slicePick Cv none none (some (-1))=Cv.toList.reverse.toArray:=by
 unfold slicePick sliceBounds;have e:sliceRange ((Cv.size:Int) - 1) (-1) (-1)=(List.range Cv.size).map fun k=>Cv.size - 1 - k:=by
  unfold sliceRange;rw [if_neg zd];by_cases h:(Cv.size:Int) - 1 > -1
  ·rw [if_pos h];have e2:(((Cv.size:Int) - 1 - -1 - -1 - 1) / (- -1)).toNat=Cv.size:=by
    rw [show (- -1:Int)=1 by decide,Int.ediv_one];lia
   dsimp only;rw [e2];refine List.map_congr_left fun k hk=>?_;have:=A3.mp hk;lia
  ·rw [if_neg h];have:Cv.size=0:=by lia
   rw [this];rfl
 show ((sliceRange ((Cv.size:Int) - 1) (-1) (-1)).filterMap (Cv[·]?)).toArray=_;rw [e]
 congr 1
 apply List.ext_getElem?;intro i;have hall:∀ n,n<=Cv.size->((List.range n).map fun k=>Cv.size - 1 - k).filterMap (Cv[·]?)=(Cv.toList.reverse).take n:=by
  intro n;induction n with
  | zero=>intro _;simp
  | succ n ih=>
   intro hn;rw [Bs,AY,List.filterMap_append,ih zo];have Cu:Cv.size - 1 - n < Cv.size:=by lia
   have hg:Cv[Cv.size - 1 - n]?=some Cv[Cv.size - 1 - n]:=Array.getElem?_eq_getElem Cu;have hr:n < Cv.toList.reverse.length:=by simp;lia
   rw [List.take_succ_eq_append_getElem hr];simp [hg]
 rw [hall Cv.size (AR _),Bi (by simp)]
section
variable {X:Cx} {e:Expr} {te:TE} {pos p2 cp:Pos} {j:Nat}
theorem EQ {s1:Expr} (he:PE X e te) (hs:PE X s1 (tC (.int (-1)))):PE X (.Subscript e (.Slice none none (some s1) p2) pos) (fun σ H Q=>te σ H fun x H1=>∃ a xs,x=.ref a/\Cz X.K H1 a xs/\∀ p,H1 p=none->Q (.ref p) (aB H1 p (.lst xs.reverse))):=by
 refine ⟨?_⟩;intro Cj s σ H Q I h;refine Subscript_ (bA (he Cj s σ H _ I h) fun v s1 ⟨x,H1,I1,r1,q1⟩=>?_);obtain ⟨a,xs,rfl,hx,q⟩:=q1;cases r1;refine wpAny_Slice ?_;rw [evalPart_none];refine wpAny_pure (wpAny_pure ?_);rw [evalPart_some];refine bA (hs Cj s1 σ H1 (fun v H2=>v=.int (-1)/\H2=H1) I1 ⟨rfl,rfl⟩) fun vs s3 ⟨y,H3,I3,r3,e3,e4⟩=>?_;subst e3 e4;obtain ⟨t,rfl⟩:=r3;have I4:CB X Cj σ H3 { s3 with heap:=s3.heap.push { cls:=.type "slice",data:=.fields #[.none,.none,.int (-1) t] } }:=I3.kept (t':=s3.toks) fun b ob q=>AK _ q;obtain ⟨its,r,ht,hz⟩:=I4.list hx;refine PyProof.Rows.tail_any (ops:=[.ref a,.ref s3.heap.objs.size]) (T:="list") ht.isList.typeIs slot_list_getitem.lookup (wpAny_getItem_list_slice (st:=some (-1)) ht.isList (Heap.IsSliceOf.new ..) .none .none (.int _ _) (by simp) ?_ (by rw [AV,<-r.length];exact hz)) (by with_unfolding_all rfl);have ee:slicePick its.toArray none none (some (-1))=its.reverse.toArray:=by rw [ED]
 rw [ee];refine ⟨.ref _,_,I4.laid (t':=s3.toks) (o:=.lst xs.reverse) (fun b ob q=>AK _ q) (AR _) ?_,rfl,q _ (I4.hok.fresh (AR _))⟩;refine ⟨by rw [List.length_reverse];exact hz,its.reverse,0,?_,AO _ rfl⟩;have rev:∀ {xs:List V} {us:List Value},CD xs us->CD xs.reverse us.reverse:=fun {xs us} h=>by
  induction h with
  | nil=>exact .nil
  | cons h t ih=>
   rw [List.reverse_cons,List.reverse_cons];exact ih.append (.cons h .nil)
 exact rev r
end
section
variable {X:Cx}
theorem Dh {T:String}:bJ X (.builtin "isinstance") (fun xs H Q=>∃ x t b,xs=[x,.ty T]/\Dr X.K H x t/\PySem.W.kitOne X.K t (.type T)=some b/\Q (.bl b) H):=by
 intro Cj s σ H xs us Q I r h;obtain ⟨x,t,b,rfl,ty,e,q⟩:=h;cases r with
 | cons r0 rr=>
  cases rr with
  | cons r1 rr=>
   cases rr;cases r1;exact pC I r0 ty e fun tk=>⟨.bl b,H,I.tok _,rfl,q⟩
theorem DK:eG X (compareOp .IsNot) (fun x y H Q=>∃ i j,x=.bl i/\y=.bl j/\Q (.bl (i != j)) H):=by
 intro Cj s σ H x y v u Q I rx ry h;obtain ⟨i,j,rfl,rfl,q⟩:=h;cases rx;cases ry;exact PyProof.Rows.isnot_bool ⟨.bl _,H,I,rfl,q⟩
theorem Ga:eG X (binaryOp .FloorDiv) (rI (fun _ j=>0 < j/\j < 18446744073709551616) fun i j=>.int (i / j)):=xk fun i j _ _ _ _ _ hc q=>by
 have h1:(0:Int) < j:=hc.1;have h2:j < 18446744073709551616:=hc.2;refine floordiv_int zo (by rw [Int.fdiv_eq_ediv_of_nonneg i zo];exact q) (.inl (PyProof.noPylong_of_log2 ?_));have h3:j.natAbs≠0:=by lia
 have:j.natAbs.log2 < 64:=(Nat.log2_lt h3).mpr (by show j.natAbs < 2 ^ 64;lia);lia
theorem D4 (hc:X.calm=true):bJ X (.builtin "all") (fun xs H Q=>∃ (p:Addr) (bs:List Bool),xs=[.ref p]/\Cz X.K H p (bs.map V.bl)/\Q (.bl (bs.all id)) H):=by
 intro Cj s σ H xs us Q I r h;obtain ⟨p,bs,rfl,hS,q⟩:=h;obtain ⟨u,rfl,rx⟩:=cK r;cases rx;obtain ⟨its,rv,pl,hz⟩:=I.list hS;have Ck:=rv.length;rw [AM] at Ck;have Cq:p≠s.heap.objs.size:=by
  obtain ⟨o,ho,_⟩:=pl.isList;exact AW (AQ ho)
 refine call_all_walk (wpAny_pyIter_list pl.isList ?_);refine ⟨s.heap.objs.size,_,_,_,_,_,fun i=>bs.getD i true,rfl,Walks.list (A:=X.A.in1) (I.ok.hd hc) s.heap.objs.size p Cq its.toArray,⟨⟨_,AO _ rfl,rfl,rfl⟩,pl.isList.at fun o e=>AK _ e⟩,?_,?_⟩
 ·intro i v s' Q' E' hv hq;have hv':its[i]?=some v:=by simpa using hv
  have Cu:i < its.length:=(AN.mp hv').1;have hb:i < bs.length:=by lia
  obtain ⟨u,hu,ru⟩:=rv.get (i:=i) (x:=.bl bs[i]) (by simp [hb]);rw [hv'] at hu;cases hu;cases ru;refine wpAny_truthy_bool ?_;have e:bs.getD i true=bs[i]:=by simp [List.getD,hb]
  dsimp only at hq;rw [e] at hq;exact hq
 ·intro h' tk hk;have e:(List.range its.toArray.size).all (fun i=>bs.getD i true)=bs.all id:=by
   rw [AV,<-Ck,BF,BC,BC];constructor
   ·intro z x hx;obtain ⟨i,hi,e⟩:=Ca hx;have:=z i (A3.mpr hi);rw [show bs.getD i true=bs[i] by simp [List.getD,hi],e] at this;exact this
   ·intro z i hi;have hi':=A3.mp hi;rw [show bs.getD i true=bs[i] by simp [List.getD,hi']];exact z _ (Bq hi')
  rw [e];exact ⟨.bl _,H,I.kept fun b o e=>hk b o (fun z=>absurd (AQ e) (by rw [AU.mp z];exact BO _)) (AK _ e),rfl,q⟩
end
section
variable {κ:Type} [DecidableEq κ]
def Di (kvs:List (κ×V)) (k:κ):Option V:=(kvs.find? fun kv=>decide (kv.1=k)).map (·.2)
def Eb (kvs:List (κ×V)) (k:κ) (v:V):List (κ×V):=
 if (kvs.any fun kv=>decide (kv.1=k))=true then kvs.map (fun kv=>if kv.1=k then (kv.1,v) else kv) else kvs++[(k,v)]
variable {r:List (κ×V)} {p:κ×V}
theorem DD {k:κ} (e:p.1=k):Di (p::r) k=some p.2:=by simp [Di,B3,e]
theorem Dk {k:κ} (e:¬ p.1=k):Di (p::r) k=Di r k:=by simp [Di,B3,e]
theorem Eu (k:κ):∀ kvs:List (κ×V),(kvs.any fun kv=>decide (kv.1=k))=(Di kvs k).isSome
 | []=>rfl
 | p::r=>by
  rw [Cf];by_cases e:p.1=k
  ·simp only [DD e,decide_eq_true e,Bool.true_or,Option.isSome_some]
  ·rw [Dk e,decide_eq_false e,Bool.false_or];exact Eu k r
theorem Eg (kvs:List (κ×V)) (k:κ) (v:V):(Eb kvs k v).length<=kvs.length+1:=by
 unfold Eb;split
 ·rw [AM];lia
 ·rw [AT,Bj,List.length_nil];lia
variable {kvs:List (κ×V)}
theorem Gq {k:κ} (v:V) (h:Di kvs k=none):Eb kvs k v=kvs++[(k,v)]:=by
 unfold Eb;rw [Eu,h];exact if_neg zd
theorem DM.isSome_eq {o:Option V} {u:Option Value} (r:DM o u):o.isSome=u.isSome:=by
 cases o with
 | none=>cases u with
  | none=>rfl
  | some _=>exact (show False from r).elim
 | some _=>cases u with
  | none=>exact (show False from r).elim
  | some _=>rfl
variable {vs:List (κ×Value)}
theorem KV.val (r:KV kvs vs) (k:κ):DM (Di kvs k) (valueAt vs k):=by
 unfold KV at r;induction r with
 | nil=>exact True.intro
 | @cons p q ps qs h t ih=>
  obtain ⟨h1,h2⟩:=h;by_cases e:p.1=k
  ·have e':q.1=k:=h1.symm.trans e;have b:valueAt (q::qs) k=some q.2:=by simp [valueAt,B3,e']
   rw [DD e,b];exact h2
  ·have e':¬ q.1=k:=fun z=>e (h1.trans z);have b:valueAt (q::qs) k=valueAt qs k:=by simp [valueAt,B3,e']
   rw [Dk e,b];exact ih
theorem KV.any (r:KV kvs vs) (k:κ):(kvs.any fun kv=>decide (kv.1=k))=vs.any fun kv=>decide (kv.1=k):=by
 unfold KV at r;induction r with
 | nil=>rfl
 | cons h t ih=>rw [Cf,Cf,ih,h.1]
variable {u:Value} {y:V}
theorem KV.repl (r:KV kvs vs) (k:κ) (ry:CG y u) :
  KV (kvs.map fun kv=>if kv.1=k then (kv.1,y) else kv) (vs.map fun kv=>if kv.1=k then (kv.1,u) else kv):=by
 unfold KV at r ⊢;induction r with
 | nil=>exact .nil
 | @cons p q ps qs h t ih=>
  rw [BB,BB];refine .cons ?_ ih;obtain ⟨h1,h2⟩:=h;by_cases e:p.1=k
  ·rw [if_pos e,if_pos (h1.symm.trans e)];exact ⟨h1,ry⟩
  ·rw [if_neg e,if_neg (fun z=>e (h1.trans z))];exact ⟨h1,h2⟩
theorem KV.put (r:KV kvs vs) (k:κ) (ry:CG y u):KV (Eb kvs k y) (stored vs k u):=by
 unfold Eb stored;rw [r.any k];by_cases e:(vs.any fun kv=>decide (kv.1=k))=true
 ·rw [if_pos e,if_pos e];exact r.repl k ry
 ·rw [if_neg e,if_neg e];exact Paired.snoc r ⟨rfl,ry⟩
theorem KV.length (r:KV kvs vs):kvs.length=vs.length:=Paired.length r
end
variable {u:Value}
theorem Fd {k:cJ} (r:CG (kV k) u):(aU P w).is k u=true:=by
 cases k with
 | inl i=>obtain ⟨t,e⟩:=(show ∃ t,u=Value.int i t from r);subst e;exact kS P w i t
 | inr x=>obtain ⟨t,e⟩:=(show ∃ t,u=Value.str x t from r);subst e;exact kT P w x t
theorem EG:∀ {ks:List cJ} {us:List Value},CD (ks.map kV) us->ItemsAre (aU P w) ks us
 | [],_,r=>by rw [Ci] at r;cases r;exact .nil
 | k::ks,_,r=>by
  rw [BB] at r;cases r with
  | cons h t=>exact .cons (Fd h) (EG t)
abbrev KT (H:Hp):List (List cJ×V)->List (List cJ×Addr×Value)->Prop:=Paired fun p q=>p.1=q.1/\H q.2.1=some (.tup (p.1.map kV))/\CG p.2 q.2.2
variable {kvs:List (List cJ×V)}
theorem KT.val {xs:List (List cJ×Addr×Value)} (r:KT H kvs xs) (k:List cJ):DM (Di kvs k) ((atKey xs k).map (·.2)):=by
 induction r with
 | nil=>exact True.intro
 | @cons p q ps qs h t ih=>
  obtain ⟨h1,_,h2⟩:=h;by_cases e:p.1=k
  ·have e':q.1=k:=h1.symm.trans e;have b:atKey (q::qs) k=some q.2:=by simp [atKey,B3,e']
   rw [DD e,b];exact h2
  ·have e':¬ q.1=k:=fun z=>e (h1.trans z);have b:atKey (q::qs) k=atKey qs k:=by simp [atKey,B3,e']
   rw [Dk e,b];exact ih
variable {y:V}
theorem KT.repl {xs:List (List cJ×Addr×Value)} (r:KT H kvs xs) (k:List cJ) (ry:CG y u) :
  KT H (kvs.map fun kv=>if kv.1=k then (kv.1,y) else kv) (xs.map (putAt k u)):=by
 induction r with
 | nil=>exact .nil
 | @cons p q ps qs h t ih=>
  rw [BB,BB];refine .cons ?_ ih;obtain ⟨h1,h2,h3⟩:=h;unfold putAt;by_cases e:p.1=k
  ·rw [if_pos e,if_pos (h1.symm.trans e)];exact ⟨h1,h2,ry⟩
  ·rw [if_neg e,if_neg (fun z=>e (h1.trans z))];exact ⟨h1,h2,h3⟩
theorem KT.put {xs:List (List cJ×Addr×Value)} (r:KT H kvs xs) (k:List cJ) {b:Addr} (hb:H b=some (.tup (k.map kV))) (ry:CG y u) :
  KT H (Eb kvs k y) (storedH xs k b u):=by
 have e:(kvs.any fun kv=>decide (kv.1=k))=(atKey xs k).isSome:=by
  rw [Eu,(r.val k).isSome_eq,Option.isSome_map]
 unfold Eb storedH;rw [e];by_cases q:(atKey xs k).isSome=true
 ·rw [if_pos q,if_pos q];exact r.repl k ry
 ·rw [if_neg q,if_neg q];exact Paired.snoc r ⟨rfl,hb,ry⟩
theorem KT.keeps {H H':Hp} {xs:List (List cJ×Addr×Value)} (r:KT H kvs xs) (ht:∀ b ys,H b=some (.tup ys)->H' b=some (.tup ys)):KT H' kvs xs:=
 Paired.mapP r fun _ _ z=>⟨z.1,ht _ _ z.2.1,z.2.2⟩
section
variable {P:Program} {w:World} {H:Hp} {h:Heap} {a:Addr}
theorem GN {u:HO} (ok:DN P w H h) (e:Rd H a u):CO P w H h a u:=e.ok ok
theorem Fa {kvs:List (cJ×V)} (ok:DN P w H h) (e:Rd H a (.dK kvs)):kvs.length<=sizeLine/\(a == sysModules)=false/\∃ vs,KV kvs vs/\h.DictOf (aU P w) a vs:=
 show CO P w H h a (.dK kvs) from GN ok e
theorem GO {kvs:List (cJ×V)} (ok:DN P w H h) (e:H a=some (.dK kvs)):kvs.length<=sizeLine/\(a == sysModules)=false/\∃ vs,KV kvs vs/\h.DictOf (aU P w) a vs:=Fa ok (.inl e)
theorem Ew {ks:List cJ} (ok:DN P w H h) (e:H a=some (.tup (ks.map kV))):(tupleKind (aU P w)).is h ks a:=by
 obtain ⟨_,its,r,o,h1,h2,n,h3⟩:=(show CO P w H h a (.tup (ks.map kV)) from ok a _ e);exact ⟨o,its.toArray,n,h1,(Prod.mk.inj h2).1,h3,by simpa using EG r⟩
theorem Fx (ok:DN P w H h) (e:Rd H a (.dT kvs)):kvs.length<=sizeLine/\(a == sysModules)=false /\
  ∃ xs,KT H kvs xs/\h.DictOfH (tupleKind (aU P w)) a xs:=by
 obtain ⟨z,y,xs,r,o,es,ep,h1,h2,h3,h4,h5⟩:=(show CO P w H h a (.dT kvs) from GN ok e);refine ⟨z,y,xs,r,o,es,ep,h1,h2,h3,h4,fun x hx=>?_,h5⟩;have all:∀ {l:List (List cJ×V)} {m:List (List cJ×Addr×Value)},KT H l m->∀ x∈m,(tupleKind (aU P w)).is h x.1 x.2.1:=by
  intro l m q;induction q with
  | nil=>intro x hx;exact nomatch hx
  | @cons p q ps qs hq t ih=>
   intro x hx;rcases AZ.mp hx with e|hx
   ·subst e;exact Ew ok (by rw [<-hq.1];exact hq.2.1)
   ·exact ih x hx
 exact all r x hx
theorem Hd (ok:DN P w H h) (e:H a=some (.dT kvs)):kvs.length<=sizeLine/\(a == sysModules)=false /\
  ∃ xs,KT H kvs xs/\h.DictOfH (tupleKind (aU P w)) a xs:=Fx ok (.inl e)
end
def Ez (H:Hp) (a:Addr) (y:V) (r:Option V):Prop:=
 (∃ kvs k,Rd H a (.dK kvs)/\y=kV k/\r=Di kvs k)\/∃ kvs k b,Rd H a (.dT kvs)/\y=.ref b/\H b=some (.tup (k.map kV))/\r=Di kvs k
def Gg (H:Hp) (a:Addr) (y v:V) (H':Hp):Prop:=
 (∃ kvs k,H a=some (.dK kvs)/\y=kV k/\kvs.length < sizeLine/\H'=aB H a (.dK (Eb kvs k v))) ∨
 ∃ kvs k b,H a=some (.dT kvs)/\y=.ref b/\H b=some (.tup (k.map kV))/\kvs.length < sizeLine/\H'=aB H a (.dT (Eb kvs k v))
theorem Ez.k {kvs:List (cJ×V)} {k:cJ} (e:H a=some (.dK kvs)):Ez H a (kV k) (Di kvs k):=.inl ⟨kvs,k,.inl e,rfl,rfl⟩
variable {v:V}
theorem Gg.k {kvs:List (cJ×V)} {k:cJ} (e:H a=some (.dK kvs)) (hl:kvs.length < sizeLine):Gg H a (kV k) v (aB H a (.dK (Eb kvs k v))):=.inl ⟨kvs,k,e,rfl,hl,rfl⟩
section
variable {X:Cx} {Cj:List (Addr×Obj)} {σ:St} {H:Hp} {s:Shared} {a:Addr} {y v:V} {u r:Value} {o:Option V} {A:Around} {E:Value->Shared->Prop}
theorem CB.big (I:CB X Cj σ H s):sysModules < s.heap.objs.size:=by
 have h:mainGlobals < s.heap.objs.size:=(I.mod.glob.keeps I.bk).lt;exact Nat.lt_trans zd h
theorem FM {Q:Value->Shared->Prop} (hu:A.units+1 < cLine) (I:CB X Cj σ H s) (g:Ez H a y (some v)) (ry:CG y u) (h:∀ w' s',CB X Cj σ H s'->CG v w'->Q w' s') :
  wpAny (model X.prog X.w) A (getItem (.ref a) u) Q E s:=by
 rcases g with ⟨kvs,k,e,ey,l⟩|⟨kvs,k,b,e,ey,eb,l⟩
 ·subst ey;obtain ⟨z,hd,vs,rel,dd⟩:=Fa I.hok e;obtain ⟨w',hw,rw'⟩:=DM.some_of (v:=v) (o:=valueAt vs k) (by rw [l];exact rel.val k);exact wpAny_getItem_of (Fd ry) dd.mapOf hw (h w' _ (I.tok _) rw')
 ·subst ey;cases (show u=Value.ref b from ry);obtain ⟨z,hd,xs,rel,dd⟩:=Fx I.hok e;obtain ⟨w',hw,rw'⟩:=DM.some_of (v:=v) (o:=(atKey xs k).map (·.2)) (by rw [l];exact rel.val k);obtain ⟨p,hp,hp2⟩:=Option.map_eq_some_iff.mp hw;refine wpAny_getItem_heap (tupleKind_room_in1 hu) (Ew I.hok eb) dd hp ?_;rw [hp2];exact h w' _ (I.tok _) rw'
theorem d_in {Q:Value->Shared->Prop} (hu:A.units+1 < cLine) (I:CB X Cj σ H s) (g:Ez H a y o) (ry:CG y u) (h:∀ s',CB X Cj σ H s'->Q (.bool o.isSome) s') :
  wpAny (model X.prog X.w) A (compareOp .In u (.ref a)) Q E s:=by
 rcases g with ⟨kvs,k,e,ey,l⟩|⟨kvs,k,b,e,ey,eb,l⟩
 ·subst ey;obtain ⟨z,hd,vs,rel,dd⟩:=Fa I.hok e;refine wpAny_in_of (Fd ry) hd dd.mapOf ?_;rw [<-(rel.val k).isSome_eq,<-l];exact h _ (I.tok _)
 ·subst ey;cases (show u=Value.ref b from ry);obtain ⟨z,hd,xs,rel,dd⟩:=Fx I.hok e;refine wpAny_in_heap (tupleKind_room_in1 hu) (Ew I.hok eb) hd dd ?_;have q:=(rel.val k).isSome_eq;rw [Option.isSome_map] at q;rw [<-q,<-l];exact h _ (I.tok _)
theorem EZ {h':Heap} {t':Nat} {ob:HO} (I:CB X Cj σ H s) (mu:xh (H a)) (hs:Heap.SameBut a s.heap h') (he:∃ q,h'.get? a=some q) (new:CO X.prog X.w (aB H a ob) h' a ob) :
  CB X Cj σ (aB H a ob) { s with heap:=h',toks:=t' }:=
 I.write (x:=a) (e:=a) mu (.inl rfl) (fun b q hb z=>(hs.2 b hb).trans z) he new
theorem GY {H':Hp} {h':Heap} {kvs:List (cJ×V)} {vs:List (cJ×Value)} (z:kvs.length<=sizeLine) (hd:(a == sysModules)=false) (rel:KV kvs vs) (dd:h'.DictOf (aU P w) a vs) :
  CO P w H' h' a (.dK kvs):=⟨z,hd,vs,rel,dd⟩
theorem FE {H':Hp} {Q:Unit->Shared->Prop} (hu:A.units+1 < cLine) (I:CB X Cj σ H s) (g:Gg H a y v H') (ry:CG y u) (rv:CG v r) (h:∀ s',CB X Cj σ H' s'->Q () s') :
  wpAny (model X.prog X.w) A (setItem (.ref a) u r) Q E s:=by
 rcases g with ⟨kvs,k,e,ey,l,eH⟩|⟨kvs,k,b,e,ey,eb,l,eH⟩
 ·subst ey eH;obtain ⟨z,hd,vs,rel,dd⟩:=GO I.hok e;have hz:vs.length<=sizeLine:=by rw [<-rel.length];exact z
  have hl:(Eb kvs k v).length<=sizeLine:=by have:=Eg kvs k v;lia
  refine wpAny_setItem_pairs (hsz:=hz) (Fd ry) dd fun h' dd' hs=>h _ ?_;have he:∃ q,h'.get? a=some q:=let ⟨q,_,_,hq,_⟩:=dd';⟨q,hq⟩;exact EZ I (by rw [e];exact True.intro) hs he (GY hl hd (rel.put k rv) dd')
 ·subst ey eH;cases (show u=Value.ref b from ry);obtain ⟨z,hd,xs,rel,dd⟩:=Hd I.hok e;have hz:xs.length<=sizeLine:=by rw [<-Paired.length rel];exact z
  have hl:(Eb kvs k v).length<=sizeLine:=by have:=Eg kvs k v;lia
  refine wpAny_setItem_heap (hsz:=hz) (tupleKind_room_in1 hu) (Ew I.hok eb) dd fun h' dd' hs=>h _ ?_;obtain ⟨q,es,ep,hq,h2,h3,h4,_,h5⟩:=dd';refine EZ I (by rw [e];exact True.intro) hs ⟨q,hq⟩ ⟨hl,hd,_,(rel.put k eb rv).keeps fun c ys ec=>?_,q,es,ep,hq,h2,h3,h4,h5⟩;rw [az (xp ec e (fun z=>nomatch z))];exact ec
end
section
variable {X:Cx} {Cj:List (Addr×Obj)} {σ:St} {H:Hp} {s:Shared} {a:Addr} {kvs:List (cJ×V)} {k:cJ} {u:Value} {A:Around} {E:Value->Shared->Prop}
theorem Hj {Q:Value->Shared->Prop} (I:CB X Cj σ H s) (e:Rd H a (.dK kvs)) (h:∀ t s',CB X Cj σ H s'->Q (.int kvs.length t) s'):wpAny (model X.prog X.w) A (call (.builtin "len") [.ref a]) Q E s:=by
 obtain ⟨z,hd,vs,rel,dd⟩:=Fa I.hok e;refine call_len_dict hd dd (by rw [<-rel.length];rw [sizeLine_eq] at z;lia) ?_;rw [<-rel.length];exact h _ _ (I.tok _)
end
def Hi (i:Expr):Prop:=∀ ov iv,subscripted i false ov iv=operate [ov,iv] (getItem ov iv)
theorem GH {prog:Program} {w:World} {A:Around} {E:Value->Shared->Prop} {s:Shared} {env:Env} {value slice:Expr} {pos:Pos} {T id:String} {Q:Value->Shared->Prop}
  (hl:typeLookup (.type T) "__getitem__"=pure (some (.builtin id))) (hs:Hi slice)
  (h:wpAny (model prog w) A (eval value env) (fun o s₁=>wpAny (model prog w) A (eval slice env) (fun i s₂=>s₂.TypeIs o T/\wpAny (model prog w) A (getItem o i) Q E s₂) E s₁) E s) :
  wpAny (model prog w) A (eval (.Subscript value slice pos) env) Q E s:=by
 refine Subscript_ (wpAny_mono h (fun o s₁ h₁=>wpAny_mono h₁ (fun i s₂ h₂=>?_) fun _ _ x=>x) fun _ _ x=>x);obtain ⟨hT,h₂⟩:=h₂;unfold subscriptTail;refine wpAny_bind ?_;rw [getitemInPython_of_ne hT.not_modules];refine wpAny_bind (wpAny_specialOf hT hl ?_);have fin:wpAny (model prog w) A (subscripted slice false o i) (fun r s₃=>wpAny (model prog w) A (letTemporaryGo value o r >>= fun _=>pure r) Q E s₃) E s₂:=by
  rw [hs o i];exact wpAny_operating (wpAny_mono h₂ (fun r s₃ h₃=>wpAny_bind (wpAny_letTemporaryGo (wpAny_pure h₃))) fun _ _ x=>x)
 first
  | exact wpAny_pure (wpAny_bind fin)
  | exact wpAny_bind (wpAny_pure (wpAny_bind fin))
  | exact wpAny_bind fin
theorem Ff {o:Option V} (I:CB X Cj σ H s) (g:Ez H a y o):s.TypeIs (.ref a) "dict":=by
 rcases g with ⟨kvs,k,e,_,_⟩|⟨kvs,k,b,e,_,_,_⟩
 ·obtain ⟨_,_,vs,_,dd⟩:=Fa I.hok e;exact dd.typeIs
 ·obtain ⟨_,_,xs,_,dd⟩:=Fx I.hok e;exact dd.typeIs
inductive Gj (Q:VK) (x:V) (y:V) (H2:Hp):Prop
 | mk (a v:_):x=.ref a->Ez H2 a y (some v)->Q v H2->Gj Q x y H2
def Hk (td ty:TE):TE:=fun σ H Q=>td σ H fun x H1=>ty σ H1 fun y H2=>Gj Q x y H2
inductive GQ (Q:VK) (y:V) (x:V) (H2:Hp):Prop
 | mk (a o:_):x=.ref a->Ez H2 a y o->Q (.bl o.isSome) H2->GQ Q y x H2
def tDIn (ty td:TE):TE:=fun σ H Q=>ty σ H fun y H1=>td σ H1 fun x H2=>GQ Q y x H2
inductive Gc (D:eX) (σ:St) (v:V) (x:V) (y:V) (H3:Hp):Prop
 | mk (a H4:_):x=.ref a->Gg H3 a y v H4->D.nx σ H4->Gc D σ v x y H3
def G9 (td ty tv:TE):TS:=fun D σ H=>tv σ H fun v H1=>td σ H1 fun x H2=>ty σ H2 fun y H3=>Gc D σ v x y H3
section
variable {X:Cx} {o i e value:Expr} {pos pos' tpos:Pos} {td ty tv:TE}
theorem FA (hu:X.A.units+1 < cLine) (ho:PE X o td) (hi:PE X i ty) (hs:Hi i:=by intro _ _;rfl):PE X (.Subscript o i pos) (Hk td ty):=by
 refine ⟨?_⟩;intro Cj s σ H Q I h;refine GH PySem.F.slot_dict_getitem.lookup hs (bA (ho Cj s σ H _ I h) fun u s1 ⟨x,H1,I1,rx,q1⟩=>bA (hi Cj s1 σ H1 _ I1 q1) fun iv s2 ⟨y,H2,I2,ry,a,v,ex,g,q2⟩=>?_);subst ex;obtain rfl:u=Value.ref a:=rx;exact ⟨Ff I2 g,FM hu I2 g ry fun w' s3 I3 rw'=>⟨v,H2,I3,rw',q2⟩⟩
theorem GX (hu:X.A.units+1 < cLine) (hi:PE X i ty) (ho:PE X o td):PC X .In i o (tDIn ty td):=by
 intro Cj s σ H Q I h;refine bA (hi Cj s σ H _ I h) fun iv s1 ⟨y,H1,I1,ry,q1⟩=>bA (ho Cj s1 σ H1 _ I1 q1) fun u s2 ⟨x,H2,I2,rx,a,ov,ex,g,q2⟩=>?_;subst ex;obtain rfl:u=Value.ref a:=rx;exact d_in hu I2 g ry fun s3 I3=>⟨.bl ov.isSome,H2,I3,rfl,q2⟩
theorem GB (hu:X.A.units+1 < cLine) (ho:PE X o td) (hi:PE X i ty) (hv:PE X value tv) (hs:swapsWith value (some (.Subscript o i pos')) pos.line X.env=pure false) :
  PS X (.Assign [.Subscript o i pos'] value pos) (G9 td ty tv):=by
 refine ⟨?_⟩;intro Cj s σ H D I h;refine wpAny_Assign_Subscript (bA (hv Cj s σ H _ I h) fun r s1 ⟨v,H1,I1,rv,q1⟩=>bA (ho Cj s1 σ H1 _ I1 q1) fun u s2 ⟨x,H2,I2,rx,q2⟩=>bA (hi Cj s2 σ H2 _ I2 q2) fun iv s3 ⟨y,H3,I3,ry,a,H4,ex,g,q3⟩=>?_) hs;subst ex;obtain rfl:u=Value.ref a:=rx;exact FE hu I3 g ry rv fun s4 I4=>⟨σ,H4,I4,q3⟩
end
theorem F8 (h:Heap) (hb:sysModules < h.objs.size):CO P w H (h.push { cls:=.type "dict",data:=.dict #[] }) h.objs.size (.dK []):=
 ⟨Bv _,beq_eq_false_iff_ne.mpr (Ne.symm (AW hb)),[],.nil,Heap.DictOf.new h⟩
def GU:TE:=fun _ H Q=>∀ p,H p=none->Q (.ref p) (aB H p (.dK []))
section
variable {X:Cx} {pos:Pos}
theorem D1:PE X (.Dict [] [] pos) GU:=⟨fun Cj s σ H Q I h=>
 wpAny_Dict_empty ⟨.ref s.heap.objs.size,_,I.laid (a:=s.heap.objs.size) (o:=.dK []) (t':=s.toks) (fun _ _ q=>AK _ q) (AR _) (F8 s.heap I.big),rfl,h _ (I.hok.fresh (AR _))⟩⟩
end
def G7 (Pt Pf:St->Hp->Prop) (t:TT):TT:=fun σ H Q=>(∀ H',Pt σ H'->Q true H')/\(∀ H',Pf σ H'->Q false H')/\t σ H fun b H'=>if b=true then Pt σ H' else Pf σ H'
variable {e:Expr}
theorem Gr {t:TT} (Pt Pf:St->Hp->Prop) (h:PT X e t):PT X e (G7 Pt Pf t):=by
 refine ⟨?_⟩;intro Cj s σ H Q I hq;refine bA (h Cj s σ H _ I hq.2.2) fun b s1 ⟨H1,I1,q⟩=>⟨H1,I1,?_⟩;cases b with
 | true=>exact hq.1 H1 (by simpa using q)
 | false=>exact hq.2.1 H1 (by simpa using q)
theorem F7 {K:ZF} {a:Addr} {xs:List V} {g:TG} {tf:TT} {te:TE} {ix:List (Option Nat)} {σ:St} {Q:VK} (Pv:Nat->List V->Hp->Prop) (h0:Pv 0 [] H)
  (hl:∀ i ys H,i<=xs.length->Pv i ys H->CI K H a xs/\ys.length<=sizeLine)
  (hs:∀ i x ys H,xs[i]?=some x->Pv i ys H->g x (hX ix σ) H fun σ2 H2=>Ek (hX ix σ) σ2/\tf σ2 H2 fun b H3=>if b=true then te σ2 H3 fun y H4=>Nx Pv xs.length i (ys++[y]) H4 else Nx Pv xs.length i ys H3)
  (hd:∀ ys H,Pv xs.length ys H->∀ D,H D=none->Q (.ref D) (aB H D (.lst ys))) :
  ll (za K a) g tf te ix σ H Q:=by
 refine ⟨fun i m ys H=>m=xs.length - i/\i<=xs.length/\Pv i ys H,⟨xs.length,by simp,Bv _,h0⟩,?_⟩;rintro i m ys H ⟨rfl,hi,p⟩;obtain ⟨q,hz⟩:=hl i ys H hi p;by_cases Cu:i < xs.length
 ·refine .inr ⟨⟨xs,xs[i],q,by simp [Cu]⟩,hz,fun x H' y=>?_⟩;obtain ⟨e,y⟩:=y;subst e;exact hs i x ys _ (y xs q) p
 ·have e:i=xs.length:=by lia
  subst e;exact .inl ⟨⟨xs,q,AR _⟩,hz,hd ys H p⟩
def DC (H H':Hp):Prop:=∀ a xs,H a=some (.tup xs)->H' a=some (.tup xs)
theorem DC.trans {H H1 H2:Hp} (a:DC H H1) (b:DC H1 H2):DC H H2:=fun c x e=>b c x (a c x e)
theorem CC {H H':Hp} (s:Cw H H'):DC H H':=fun a xs e=>s _ _ e
def Gy (x:Str):Bool:=(PyData.str x).canLay0
mutual
inductive Td (H:Hp):V->PyData->Prop
 | int (i:Int):Td H (.int i) (.int i)
 | str (x:Str) (h:Gy x=true):Td H (.str x) (.str x)
 | tup {a:Addr} {xs:List V} {ds:List PyData}:H a=some (.tup xs)->C9 H xs ds->Td H (.ref a) (.tuple ds)
inductive C9 (H:Hp):List V->List PyData->Prop
 | nil:C9 H [] []
 | cons {v:V} {d:PyData} {vs:List V} {ds:List PyData}:Td H v d->C9 H vs ds->C9 H (v::vs) (d::ds)
end
mutual
theorem Td.kt {H H':Hp} (k:DC H H'):∀ {v:V} {d:PyData},Td H v d->Td H' v d
 | _,_,.int i=>.int i
 | _,_,.str x h=>.str x h
 | _,_,.tup e t=>.tup (k _ _ e) (C9.kt k t)
theorem C9.kt {H H':Hp} (k:DC H H'):∀ {vs:List V} {ds:List PyData},C9 H vs ds->C9 H' vs ds
 | _,_,.nil=>.nil
 | _,_,.cons h t=>.cons (Td.kt k h) (C9.kt k t)
end
mutual
theorem Td.dt:∀ {v:V} {d:PyData},Td H v d->Dt K H v d
 | _,_,.int i=>.int i
 | _,_,.str x _=>.str x
 | _,_,.tup e t=>.tup (CI.of e) (C9.dt t)
theorem C9.dt:∀ {vs:List V} {ds:List PyData},C9 H vs ds->Dl K H vs ds
 | _,_,.nil=>.nil
 | _,_,.cons h t=>.cons (Td.dt h) (C9.dt t)
end
mutual
theorem Td.lay:∀ {v:V} {d:PyData},Td H v d->d.canLay0=true
 | _,_,.int i=>rfl
 | _,_,.str x h=>h
 | _,_,.tup e t=>C9.lay t
theorem C9.lay:∀ {vs:List V} {ds:List PyData},C9 H vs ds->PyData.canLayAll0 ds=true
 | _,_,.nil=>rfl
 | _,_,.cons h t=>by
  simp only [PyData.canLayAll0,Td.lay h,C9.lay t,Bool.and_self]
end
theorem C9.length:∀ {vs:List V} {ds:List PyData},C9 H vs ds->vs.length=ds.length
 | _,_,.nil=>rfl
 | _,_,.cons _ t=>by rw [Bj,Bj,C9.length t]
def CQ (ps:List Nat) (led:Bool):SetTable:={ mask:=7,place:=ps.toArray,dummies:=#[],finger:=0,led:=led,moves:=0,plain:=true }
theorem Hh:∀ (led:Bool) (h:Fin 8),(CQ [] led).freeSlot (h.val:Int)=some (h.val,false):=by decide +kernel
theorem Hb:∀ (led:Bool) (p h:Fin 8),p≠h->(CQ [p.val] led).freeSlot (h.val:Int)=some (h.val,false):=by decide +kernel
theorem put0:∀ (led:Bool) (h:Fin 8),(CQ [] led).put h.val=(CQ [h.val] led,0):=by decide +kernel
theorem put1:∀ (led:Bool) (p h:Fin 8),p≠h->(CQ [p.val] led).put h.val=(if h.val < p.val then (CQ [h.val,p.val] led,0) else (CQ [p.val,h.val] led,1)):=by decide +kernel
theorem Ha:∀ (led:Bool),(CQ [] led).fits 0=true:=by decide +kernel
theorem Hg (led:Bool) (p:Nat):(CQ [p] led).fits 1=true:=by cases led<;>rfl
theorem Hc (led:Bool) (p q:Nat):(CQ [p,q] led).fits 2=true:=by cases led<;>rfl
theorem Hf (led:Bool) (p:Nat):(CQ [p] led).tooFull=false:=by cases led<;>rfl
theorem G6 (led:Bool) (p q:Nat):(CQ [p,q] led).tooFull=false:=by cases led<;>rfl
def Dc (k:Nat):List Nat->List Nat
 | []=>[k]
 | [p]=>if k=p then [p] else if k < p then [k,p] else [p,k]
 | l=>l
inductive D8:List Nat->List (Int×Value)->Prop
 | nil:D8 [] []
 | cons {p:Nat} {t:Tok} {ps:List Nat} {es:List (Int×Value)}:D8 ps es->D8 (p::ps) (((p:Int),.int p t)::es)
variable {es:Array (Int×Value)} {ps:List Nat}
theorem FV {led:Bool} {k:Nat} {t:Tok} (he:D8 ps es.toList) (hl:ps=[]\/∃ p,ps=[p]/\p≠k/\p < 8) (hk:k < 8) :
  ∃ es',layNew (CQ ps led) es (k:Int) (.int k t)=(es',CQ (Dc k ps) led,false,false)/\D8 (Dc k ps) es'.toList:=by
 rcases hl with rfl|⟨p,rfl,Cq,hp⟩
 ·have e0:es=#[]:=by
   generalize hl:es.toList=l at he;cases he;exact Array.toList_eq_nil_iff.mp hl
  subst e0;refine ⟨#[((k:Int),.int k t)],?_,.cons .nil⟩;unfold layNew;rw [Hh led ⟨k,hk⟩];dsimp only;rw [put0 led ⟨k,hk⟩];dsimp only;rfl
 ·obtain ⟨tp,e0⟩:∃ tp,es=#[((p:Int),.int p tp)]:=by
   generalize hl:es.toList=l at he;cases he with
   | @cons _ tp _ _ r=>
    cases r;refine ⟨tp,?_⟩;rw [<-Array.toArray_toList (xs:=es),hl]
  subst e0;have hne':(⟨p,hp⟩:Fin 8)≠⟨k,hk⟩:=fun z=>Cq (congrArg Fin.val z);unfold layNew;rw [Hb led ⟨p,hp⟩ ⟨k,hk⟩ hne'];dsimp only;rw [put1 led ⟨p,hp⟩ ⟨k,hk⟩ hne'];by_cases Cu:k < p
  ·have e1:Dc k [p]=[k,p]:=by simp [Dc,Cu,Ne.symm Cq]
   rw [e1];refine ⟨#[((k:Int),.int k t),((p:Int),.int p tp)],?_,.cons (.cons .nil)⟩;dsimp only;rw [if_pos Cu];rfl
  ·have e1:Dc k [p]=[p,k]:=by simp [Dc,Cu,Ne.symm Cq]
   rw [e1];refine ⟨#[((p:Int),.int p tp),((k:Int),.int k t)],?_,.cons (.cons .nil)⟩;dsimp only;rw [if_neg Cu];rfl
def DO (h:Heap) (a:Addr) (ps:List Nat) (led:Bool):Prop:=∃ o es ep,h.get? a=some o/\o.ExactSet/\o.data=.set es ep (CQ ps led)/\D8 ps es.toList
variable {prog:Program}
theorem D8.elems {es:List (Int×Value)} (h:D8 ps es) (hp:∀ p∈ps,p < 8):ElemsOf (intKind prog w) es:=by
 induction h with
 | nil=>exact fun e he=>nomatch he
 | @cons p t ps es _ ih=>
  intro e he;rcases AZ.mp he with z|z
  ·subst z;refine ⟨⟨p,intKind_is _ _ _ _,?_⟩,rfl⟩;have:=hp p AX;have hh:∀ q:Fin 8,(q.val:Int)=hashInt (q.val:Int):=by decide +kernel
   exact hh ⟨p,hp p AX⟩
  ·exact ih (fun q hq=>hp q (A2 _ hq)) e z
theorem Gn (k p:Nat) (t:Tok):Value.isInt (k:Int) (.int (p:Int) t)=decide (k=p):=by
 by_cases h:k=p
 ·subst h;simp [Value.isInt]
 ·have:(k:Int)≠(p:Int):=by lia
  have h2:(p:Int)≠(k:Int):=by lia
  simp [Value.isInt,h,this,h2]
variable {l:List (Int×Value)}
theorem Fi {k:Nat} (h:D8 ps l) (hl:ps=[]\/∃ p,ps=[p]):l.findIdx? (fun e=>Value.isInt (k:Int) e.2)=if k∈ps then some 0 else none:=by
 cases h with
 | nil=>rfl
 | @cons p t ps es r=>
  have:ps=[]:=by rcases hl with z|⟨q,z⟩<;>simp_all
  subst this;cases r;rw [List.findIdx?_cons];dsimp only;rw [Gn];by_cases z:k=p
  ·subst z;simp
  ·simp [z]
theorem D8.size {es:List (Int×Value)} (h:D8 ps es):es.length=ps.length:=by
 induction h with
 | nil=>rfl
 | cons _ ih=>rw [Bj,Bj,ih]
variable {led:Bool}
theorem E4 (h:ps.length<=2):(CQ ps led).fits ps.length=true:=by
 match ps,h with
 | [],_=>exact Ha led
 | [p],_=>exact Hg led p
 | [p,q],_=>exact Hc led p q
section
variable {prog:Program} {w:World} {A:Around} {E:Value->Shared->Prop} {s:Shared}
theorem FP {k:Nat} {t:Tok} {Q:Bool->Shared->Prop} (hS:DO s.heap a ps led) (hl:ps=[]\/∃ p,ps=[p]) (hp:∀ p∈ps,p < 8) (hk:k < 8)
  (h:∀ b h',Heap.SameBut a s.heap h'->DO h' a (Dc k ps) led->Q b { s with heap:=h' }):wpAny (model prog w) A (setAddHashed a (.int k t) ((intKind prog w).hash (k:Int))) Q E s:=by
 obtain ⟨o,es,ep,ho,hex,hd,hE⟩:=hS;have hel:=hE.elems (prog:=prog) (w:=w) hp;have hl2:ps.length<=2:=by rcases hl with rfl|⟨p,rfl⟩<;>simp
 have hsz:es.size=ps.length:=by rw [<-A0];exact hE.size
 have hf:(CQ ps led).fits es.size=true:=by rw [hsz];exact E4 hl2
 have hkey:(intKind prog w).is (k:Int) (.int k t)=true:=intKind_is _ _ _ _;unfold setAddHashed setAddHashedIn;refine wpAny_holding (wpAny_bind (wpAny_setState_of ho hd hf ?_));dsimp only;rw [byScan_of (knd:=intKind prog w) rfl (by rw [hsz];unfold scanBound;lia) hel];simp only [↓reduceIte];unfold setAddByScan;refine wpAny_bind ?_;refine wpAny_bind (wpAny_rule ?_);refine wpAny_bind (wpAny_setScan_of hkey ho hd hf hel ?_);have hh:(intKind prog w).hash (k:Int)=(k:Int):=by
  have:∀ q:Fin 8,hashInt (q.val:Int)=(q.val:Int):=by decide +kernel
  exact this ⟨k,hk⟩
 have e:s={ s with heap:=s.heap }:=by cases s;rfl
 have hfind:=Fi (k:=k) hE hl;rw [show List.findIdx? (fun e=>(intKind prog w).is (k:Int) e.2) es.toList=if k∈ps then some 0 else none from hfind];by_cases hm:k∈ps
 ·rw [if_pos hm];dsimp only;refine wpAny_pure (wpAny_pure ?_);have hin:Dc k ps=ps:=by
   rcases hl with rfl|⟨p,rfl⟩
   ·exact absurd hm (by simp)
   ·have:k=p:=by simpa using hm
    simp [Dc,this]
  rw [e];exact h _ s.heap (Heap.SameBut.refl a s.heap) ⟨o,es,ep,ho,hex,by rw [hin];exact hd,by rw [hin];exact hE⟩
 ·rw [if_neg hm];dsimp only;have hnp:ps=[]\/∃ p,ps=[p]/\p≠k/\p < 8:=by
   rcases hl with rfl|⟨p,rfl⟩
   ·exact .inl rfl
   ·exact .inr ⟨p,rfl,fun z=>hm (by simp [z]),hp p AX⟩
  obtain ⟨es',eL,hE'⟩:=FV (led:=led) (t:=t) hE hnp hk;rw [hh,eL];dsimp only;refine wpAny_bind (wpAny_pure ?_);have pl:(CQ (Dc k ps) led).plain=true:=rfl;rw [if_pos pl];refine wpAny_bind ?_;rw [hashByValue_scannable 8 (x:=.int k t) rfl];refine wpAny_pure ?_;rw [if_pos (show plainKind (Value.int (k:Int) t)=true from rfl)];have lins:Dc k ps=[k]\/∃ p q,Dc k ps=[p,q]:=by
   rcases hnp with rfl|⟨p,rfl,ne,_⟩
   ·exact .inl rfl
   ·by_cases Cu:k < p
    ·exact .inr ⟨k,p,by simp [Dc,Cu,Ne.symm ne]⟩
    ·exact .inr ⟨p,k,by simp [Dc,Cu,Ne.symm ne]⟩
  have hsz':es'.size=(Dc k ps).length:=by rw [<-A0];exact hE'.size
  have hz:es'.size<=2:=by rw [hsz'];rcases lins with z|⟨p,q,z⟩<;>rw [z]<;>simp
  refine wpAny_bind (wpAny_storeSet_of ho hd ?_ (fits_of_scanBound (by unfold scanBound;lia)));have nf:(CQ (Dc k ps) led).tooFull=false:=by
   rcases lins with z|⟨p,q,z⟩
   ·rw [z];exact Hf led _
   ·rw [z];exact G6 led _ _
  rw [nf];simp only [Bool.not_false,Bool.and_false,Bool.false_eq_true,↓reduceIte];refine wpAny_pure ?_;dsimp only;refine wpAny_pure (h _ _ (Heap.SameBut.update s.heap a _) ?_);have hg:(s.heap.update a (Obj.putSet es' (CQ (Dc k ps) led))).get? a=some { o with data:=.set es' (ep+1) (CQ (Dc k ps) led) }:=by
   have:=Heap.get?_update_self (Obj.putSet es' (CQ (Dc k ps) led)) ho (by rw [putSet_of es' (CQ (Dc k ps) led) hd];rfl);rw [putSet_of es' (CQ (Dc k ps) led) hd] at this;exact this
  exact ⟨_,es',ep+1,hg,hex,rfl,hE'⟩
end
def CF (ns:List Nat):List Nat:=ns.foldl (fun ps k=>Dc k ps) []
theorem Fm (ns:List Nat) (k:Nat):CF (ns++[k])=Dc k (CF ns):=by simp [CF]
variable {h h':Heap}
theorem DO.keep (S:DO h a ps led) (k:∀ o,h.get? a=some o->h'.get? a=some o):DO h' a ps led:=by
 obtain ⟨o,es,ep,ho,r⟩:=S;exact ⟨o,es,ep,k o ho,r⟩
variable {i:Nat}
theorem Fl {ns:List Nat} (h2:ns.length<=2) (h8:∀ k∈ns,k < 8) (hi:i < ns.length):(CF (ns.take i)=[]\/∃ p,CF (ns.take i)=[p])/\∀ p∈CF (ns.take i),p < 8:=by
 match ns,h2,hi with
 | [],_,hi=>simp at hi
 | [k],_,hi=>
  have:i=0:=by simpa using hi
  subst this;exact ⟨.inl rfl,fun p hp=>by simp [CF] at hp⟩
 | [k,m],_,hi=>
  have:i=0\/i=1:=by simp at hi;lia
  rcases this with rfl|rfl
  ·exact ⟨.inl rfl,fun p hp=>by simp [CF] at hp⟩
  ·refine ⟨.inr ⟨k,rfl⟩,fun p hp=>?_⟩;have:p=k:=by simpa [CF,Dc] using hp
   rw [this];exact h8 k AX
section
variable {prog:Program} {w:World} {A:Around} {R:Result->Shared->Prop} {I:Addr} {fp wr:List Addr} {G:Array GenState->Array GenState->Prop} {n:Nat} {P:Nat->Value->Prop} {St:Nat->Shared->Prop}
theorem EX (W:WalksS prog w A.in1 I fp wr G n P St) (S:Addr) (hSf:S∉fp) (ns:List Nat) (hn:ns.length=n) (h2:n<=2) (h8:∀ k∈ns,k < 8) (led:Bool)
  (hval:∀ i v,P i v->∃ t k,ns[i]?=some k/\v=.int (k:Int) t) :
  ∀ (k i:Nat) (s:Shared),n - i=k->i<=n->St i s->DO s.heap S (CF (ns.take i)) led->
   (∀ s',Moved (S::wr) G s s'->DO s'.heap S (CF ns) led->R (.ok (.ret .none)) s')->
   codeAny (model prog w) A (.builtin "set.update.loop" ⟨[.ref S,.ref I],[]⟩) R s:=by
 have hSw:S∉wr:=fun h=>hSf (W.sub _ h);have hsub:∀ b∈wr,b∈S::wr:=fun b hb=>A2 _ hb;intro k;induction k with
 | zero=>
  intro i s hk hi hst hS hR;have hin:i=n:=by lia
  subst hin;refine codeAny_builtin F.entry_set_update_loop ?_;rw [Around.under_plainId F.plain_set_update_loop _];show wpAny _ A.in1 (pyNext (.ref I) >>= _) _ _ s;refine wpAny_bind (W.done s _ _ hst fun s' hm=>?_);show wpAny _ A.in1 (ret Value.none) _ _ s';refine wpAny_pure (hR s' (hm.mono hsub) ?_);rw [<-hn,Bf] at hS;exact hS.keep fun o ho=>hm.heap S _ hSw ho
 | succ k ih=>
  intro i s hk hi hst hS hR;have Cu:i < n:=by lia
  refine codeAny_builtin F.entry_set_update_loop ?_;rw [Around.under_plainId F.plain_set_update_loop _];show wpAny _ A.in1 (pyNext (.ref I) >>= _) _ _ s;refine wpAny_bind (W.item i s _ _ Cu hst fun v s' hP hst' hm=>?_);obtain ⟨t,q,hq,rfl⟩:=hval i v hP;have hS':=hS.keep fun o ho=>hm.heap S _ hSw ho;show wpAny _ A.in1 (holding [Value.int (q:Int) t] (setAdd S (.int (q:Int) t)) >>= _) _ _ s';refine wpAny_bind (wpAny_holding ?_);unfold setAdd;refine wpAny_holding ?_;refine wpAny_bind ((intKind prog w).pyHash (k:=(q:Int)) (intKind_is _ _ _ _) ?_);obtain ⟨f1,f2⟩:=Fl (by lia:ns.length<=2) h8 (by lia:i < ns.length);refine FP (s:={ s' with toks:=s'.toks+1 }) hS' f1 f2 (h8 q (A6 hq)) fun b h' hsb hS2=>?_;have et:ns.take (i+1)=ns.take i++[q]:=by
   rw [By,hq];rfl
  refine wpAny_pure ⟨plainId_quiet F.plain_set_update_loop _,ih (i+1) _ zo Cu (W.frame _ s' _ _ hst' (BS _) fun b hb o e=>?_) (by rw [et,Fm];exact hS2) fun s'' hm'' hS''=>?_⟩
  ·rw [hsb.2 b (fun h:b=S=>hSf (by rw [<-h];exact hb))];exact e
  ·refine hR s'' (Moved.trans W.gtrans ((hm.mono hsub).then_heap (BS _) fun b o hb e=>?_) hm'') hS'';rw [hsb.2 b (fun h:b=S=>hb (by rw [h];exact AX))];exact e
end
section
variable {prog:Program} {w:World} {A:Around} {E:Value->Shared->Prop} {s:Shared}
def CJ (w:World):Bool:=!w.params.followText "set-order"
theorem Ee (a:Value) {Q₁:Value->Shared->Prop}
  (h:Q₁ (.ref s.heap.objs.size) { s with heap:=s.heap.push { cls:=.type "set",dict:=none,data:=.set #[] 0 (.fresh 0 0 (CJ w)) } }) :
  codeAny (model prog w) A (.call (.builtin "set.__new__") ⟨[.type "set",a],[]⟩) (wants Q₁ E) s:=by
 refine codeAny_of_tree ?_;show wpAny _ A.in1 (do checkBuiltinCall "set.__new__" ⟨[.type "set",a],[]⟩;again (.builtin "set.__new__" ⟨[.type "set",a],[]⟩)) _ _ s;refine wpAny_bind (wpAny_of_eq (F.newCall_set_1 a) (wpAny_pure ⟨plainId_quiet F.plain_set_new _,codeAny_builtin F.entry_set_new ?_⟩));rw [Around.under_plainId F.plain_set_new _];unfold Builtin.«set.__new__» Builtin.Frozenset.newClass;have hsub:=sub_set_self;obtain ⟨hp,g,d,tk,os⟩:=s;dsimp only
 wp_walk
 refine wpAny_askSetting (wpAny_pure ?_);dsimp only;simp only [newObj];refine wpAny_bind (wpAny_alloc (wpAny_pure ?_));exact wpAny_pure h
end
section
variable {prog:Program} {w:World} {A:Around} {E:Value->Shared->Prop} {s:Shared}
theorem Ev {l:Addr} {Cv:Array Value} {ns:List Nat} {Q:Value->Shared->Prop}
  (hh:A.handled=none) (hl:s.heap.IsList l Cv) (hi:IntsAre Cv.toList (ns.map fun (k:Nat)=>(k:Int))) (h2:ns.length<=2) (h8:∀ k∈ns,k < 8)
  (h:∀ (h':Heap) (tk:Nat),DO h' s.heap.objs.size (CF ns) (CJ w)->(∀ b o,b < s.heap.objs.size->s.heap.get? b=some o->h'.get? b=some o)->Q (.ref s.heap.objs.size) { s with heap:=h',toks:=tk }) :
  wpAny (model prog w) A (call (.type "set") [.ref l]) Q E s:=by
 have Ck:ns.length=Cv.size:=by
  have:=hi.length;rw [A0,AM] at this;lia
 obtain ⟨c,tl,hmro⟩:=PySem.F.called_set.mro;have hmade:=PySem.F.called_set.made;have hsub:=PySem.F.called_set.sub;refine wpAny_call (codeAny_of_tree ?_);show wpAny _ _ (callAny (.type "set") _) _ _ _;refine wpAny_pure ⟨Code.quiet_builtin _ zk,codeAny_builtin PySem.F.entry_type_call ?_⟩;rw [Around.under_plain (weight_type_call_type "set" [.ref l] []) rfl];have h1:=PySem.F.called_set.notType;have h2':=PySem.F.called_set.canCreate;have hct:=PySem.F.typeCall_set_1 (.ref l);repeat (any_goals (first|assumption|wp_step))
 refine codeAny_mono (Ee (.ref l) (E:=E) (Q₁:=fun obj s₁=>obj=.ref s.heap.objs.size/\s₁={ s with heap:=s.heap.push { cls:=.type "set",dict:=none,data:=.set #[] 0 (.fresh 0 0 (CJ w)) } }) ⟨rfl,rfl⟩) fun r s₁ hr=>?_;cases r with
 | error e=>exact hr
 | ok fl=>
  cases fl with
  | ret obj=>
   obtain ⟨rfl,rfl⟩:=hr;have hS:(s.heap.push { cls:=.type "set",dict:=none,data:=.set #[] 0 (.fresh 0 0 (CJ w)) }).get? s.heap.objs.size=some { cls:=.type "set",dict:=none,data:=.set #[] 0 (.fresh 0 0 (CJ w)) }:=AO _ rfl;have hT:Shared.TypeIs { s with heap:=s.heap.push { cls:=.type "set",dict:=none,data:=.set #[] 0 (.fresh 0 0 (CJ w)) } } (.ref s.heap.objs.size) "set":=⟨_,hS,rfl⟩;have hli:=PySem.F.called_set.init.lookup;have hbi:=PySem.F.called_set.init.bind (.ref s.heap.objs.size);repeat (any_goals (first|assumption|wp_step))
   refine codeAny_mono (codeAny_call_builtin (R:=wants (fun r s₂=>r=.none/\∃ h' tk,s₂={ s with heap:=h',toks:=tk }/\DO h' s.heap.objs.size (CF ns) (CJ w) /\
     (∀ b o,b < s.heap.objs.size->s.heap.get? b=some o->h'.get? b=some o)) E) PySem.F.called_set.init.plain PySem.F.entry_set_init (PySem.check_set_init_1 hT ?_)) fun r₂ s₂ hr₂=>?_
   ·obtain ⟨ol,hol,hcl,nl,hdl⟩:=hl;obtain ⟨ocls,odict,odata,oslots⟩:=ol;simp only at hcl hdl;subst hcl;subst hdl;have hol':(s.heap.push { cls:=.type "set",dict:=none,data:=.set #[] 0 (.fresh 0 0 (CJ w)) }).get? l=some { cls:=.type "list",dict:=odict,data:=.seq Cv nl,slots:=oslots }:=AK _ hol;have hsls:=PySem.F.sub_list_set;have hslf:=PySem.F.sub_list_frozenset;have Cq:(Value.type "list" == Value.type "dict")=false:=by decide
    have hl1:(s.heap.push { cls:=.type "set",dict:=none,data:=.set #[] 0 (.fresh 0 0 (CJ w)) }).IsList l Cv:=⟨_,hol',rfl,nl,rfl⟩;unfold Builtin.«set.__init__» noKeywords Builtin.Frozenset.updateFrom;generalize hPI:pyIter=PI
    wp_walk
    subst hPI;refine wpAny_pyIter_list hl1 ?_;refine wpAny_bind (wpAny_runValue ?_);have hlS:l < s.heap.objs.size:=AQ hol;have hh3:A.in1.in1.in1.handled=none:=by simp [hh]
    have hneI:l≠(s.heap.push { cls:=.type "set",dict:=none,data:=.set #[] 0 (.fresh 0 0 (CJ w)) }).objs.size:=by
     rw [Bb];exact AW (Nat.lt_succ_of_lt hlS)
    have hSf:s.heap.objs.size∉[(s.heap.push { cls:=.type "set",dict:=none,data:=.set #[] 0 (.fresh 0 0 (CJ w)) }).objs.size,l]:=by
     rw [Bb];simp only [AZ,AU,BN,or_false,not_or];exact ⟨AW (BI _),BV hlS⟩
    have hval:∀ (i:Nat) (v:Value),Cv[i]?=some v->∃ t k,ns[i]?=some k/\v=.int (k:Int) t:=fun i v hv=>by
     obtain ⟨t,e⟩:=IntsAre.int_at hi i v (by rw [Array.getElem?_toList];exact hv);have Cu:i < Cv.size:=(Array.getElem?_eq_some_iff.mp hv).1;refine ⟨t,ns[i],AL zo,?_⟩;rw [e]
     congr 1
     simp [List.getD,show i < ns.length by lia]
    refine EX ((Walks.list hh3 _ l hneI Cv).toS) s.heap.objs.size hSf ns Ck zo h8 (CJ w) hval (Cv.size - 0) 0 _ zo (Bv _)
     ⟨⟨_,AO _ rfl,rfl,rfl⟩,(hl1.push _)⟩ ?hS0 ?hR
    case hS0=>
     have hget:((s.heap.push { cls:=.type "set",dict:=none,data:=.set #[] 0 (.fresh 0 0 (CJ w)) }).push { cls:=.type "list_iterator",data:=.fields #[.ref l,.int 0 0] }).get? s.heap.objs.size
       = some { cls:=.type "set",dict:=none,data:=.set #[] 0 (.fresh 0 0 (CJ w)) }:=AK _ hS
     exact ⟨_,#[],0,hget,⟨rfl,rfl,rfl⟩,rfl,.nil⟩
    case hR=>
     intro s' hm hS';obtain ⟨h',g',d',tk',os'⟩:=s';have eg:g'=s.gens:=hm.gens;have ed:d'=s.drawn:=hm.drawn;have eo:os'=s.os:=hm.os;subst eg;subst ed;subst eo;show wpAny _ _ _ _ _ _;refine wpAny_pure ?_;show wpAny _ _ (ret Value.none) _ _ _;refine wpAny_pure ⟨rfl,h',tk',rfl,hS',fun b o hb e=>?_⟩;have hb1:b≠s.heap.objs.size:=AW hb;have hb2:b≠(s.heap.push { cls:=.type "set",dict:=none,data:=.set #[] 0 (.fresh 0 0 (CJ w)) }).objs.size:=by
      rw [Bb];exact AW (Nat.lt_succ_of_lt hb)
     exact hm.heap b o (by simp only [AZ,AU,BN,or_false,not_or];exact ⟨hb1,hb2⟩) (AK _ (AK _ e))
   ·cases r₂ with
    | error e=>exact hr₂
    | ok fl₂=>
     cases fl₂ with
     | ret r=>
      obtain ⟨rfl,h',tk,rfl,hS',hk'⟩:=hr₂;repeat (any_goals (first|assumption|wp_step))
      exact h _ _ hS' hk'
     | _=>exact hr₂.elim
  | _=>exact hr.elim
end
theorem CA:Slot "set_iterator" "__next__" "set_iterator.__next__":=
 .of (owner:="set_iterator") (n:="__next__") (by rw [typeLookup_type,builtinLookup_eq_fast];kernel_rfl) zk zk zk
  (by first|exact .inl zk|exact .inr zk) (by rw [isSubtype_type];kernel_rfl)
theorem CU:Slot "set_iterator" "__iter__" "set_iterator.__iter__":=
 .of (owner:="set_iterator") (n:="__iter__") (by rw [typeLookup_type,builtinLookup_eq_fast];kernel_rfl) zk zk zk
  (by first|exact .inl zk|exact .inr zk) (by rw [isSubtype_type];kernel_rfl)
theorem CP:entryFor table "set_iterator.__next__"=some Builtin.«set_iterator.__next__»:=entryFor_of_tree (by kernel_rfl)
theorem CT (a:Value):argsOk "set_iterator.__next__" ⟨[a],[]⟩:=by unfold argsOk;kernel_rfl
theorem DB:entryFor table "set.__iter__"=some Builtin.«frozenset.__iter__»:=
 entryFor_alias (id':="frozenset.__iter__") (by kernel_rfl) rfl zk (by kernel_rfl)
variable {α:Type}
theorem Fs (next:Nat->Nat):∀ (n k:Nat) (left:List α) (out:Array α),left.length=n->((pickOrder.go next n k left out).toList).Perm (out.toList++left)
 | 0,k,left,out,h=>by
  have:left=[]:=Ce.mp h;subst this;simp [pickOrder.go]
 | n+1,k,left,out,h=>by
  have Cu:next k % left.length < left.length:=Nat.mod_lt _ zo;rw [pickOrder.go,AL Cu];dsimp only;refine (Fs next n (k+1) _ _ (by rw [List.length_eraseIdx,if_pos Cu];lia)).trans ?_;rw [Array.toList_push,BJ];refine List.Perm.append_left _ ?_;have:=List.perm_middle (a:=left[next k % left.length]) (l₁:=left.take (next k % left.length)) (l₂:=left.drop (next k % left.length+1));rw [List.eraseIdx_eq_take_drop_succ,List.singleton_append];refine this.symm.trans ?_;rw [<-B8 Cu,BR]
theorem FX (next:Nat->Nat) (xs:Array α):(pickOrder next xs).toList.Perm xs.toList:=by
 have:=Fs next xs.size 0 xs.toList #[] (by simp);simpa [pickOrder] using this
def CV (w:World) (a:Addr) (ep:Nat) (es:Array (Int×Value)):Array (Int×Value):=if w.params.followText "set-order" then pickOrder (w.params.setOrder a ep) es else es
theorem Do (w:World) (a:Addr) (ep:Nat) (es:Array (Int×Value)):(CV w a ep es).toList.Perm es.toList:=by
 unfold CV;split
 ·exact FX _ _
 ·exact .refl _
def C8 (w:World) (ps:List Nat) (i:Nat):Nat:=if w.params.followText "set-order" then 0 else match i with
 | 0=>0
 | j+1=>ps.getD j 0+1
structure DR (w:World) (h:Heap) (a:Addr) (ps:List Nat) (es:Array (Int×Value)) (ep:Nat):Prop where
 at_:∃ o,h.get? a=some o/\o.ExactSet/\o.data=.set es ep (CQ ps (CJ w))
 ent:D8 ps es.toList
 two:ps.length<=2
 rise:ps.Pairwise (· < ·)
variable {ep:Nat}
theorem DR.size (S:DR w h a ps es ep):es.size=ps.length:=by
 rw [<-A0];exact S.ent.size
theorem E7 (h2:ps.length<=2) (hr:ps.Pairwise (· < ·)):∀ i,i<=ps.length->SetTable.below ps.toArray (match i with|0=>0|j+1=>ps.getD j 0+1)=i:=by
 match ps,h2,hr with
 | [],_,_=>
  intro i hi;have:i=0:=by simpa using hi
  subst this;rfl
 | [p],_,_=>
  intro i hi;have:i=0\/i=1:=by simp at hi;lia
  rcases this with rfl|rfl
  ·simp [SetTable.below,SetTable.below.go]
  ·simp [SetTable.below,SetTable.below.go]
 | [p,q],_,hr=>
  intro i hi;have hpq:p < q:=by simpa using hr
  have:i=0\/i=1\/i=2:=by simp at hi;lia
  rcases this with rfl|rfl|rfl
  ·simp [SetTable.below,SetTable.below.go]
  ·have:¬ q < p+1:=by lia
   simp [SetTable.below,SetTable.below.go,this]
  ·simp [SetTable.below,SetTable.below.go]
section
variable {prog:Program} {w:World} {A:Around} {E:Value->Shared->Prop} {s:Shared}
theorem DQ {Q:Option (Value×Nat)->Shared->Prop} (S:DR w s.heap a ps es ep) (hi:i<=ps.length)
  (h:Q (((CV w a ep es)[i]?).map fun e=>(e.2,C8 w ps (i+1))) s):wpAny (model prog w) A (setNext a (C8 w ps i) i ep) Q E s:=by
 obtain ⟨o,ho,hex,hd⟩:=S.at_;have hf:(CQ ps (CJ w)).fits es.size=true:=by rw [S.size];exact E4 S.two
 unfold setNext;refine wpAny_bind (wpAny_setState_of ho hd hf ?_);dsimp only;refine wpAny_bind ?_;unfold setsByText;refine wpAny_bind (wpAny_askSetting (wpAny_pure ?_));dsimp only;cases hb:w.params.followText "set-order" with
 | true=>
  have hb':(model prog w).w.params.followText "set-order"=true:=hb;rw [if_pos hb'];rw [if_neg (by simp)];unfold setWalk;refine wpAny_bind (wpAny_bind (wpAny_setState_of ho hd hf ?_));dsimp only;unfold setsByText;refine wpAny_bind (wpAny_bind (wpAny_askSetting (wpAny_pure ?_)));dsimp only;rw [if_pos hb'];refine wpAny_bind (wpAny_askSetting (wpAny_pure (wpAny_pure ?_)));have e1:CV w a ep es=pickOrder (w.params.setOrder a ep) es:=by unfold CV;rw [if_pos hb]
  have e2:∀ j,C8 w ps j=0:=fun j=>by unfold C8;rw [if_pos hb]
  rw [e1,e2] at h;rw [e2];exact h
 | false=>
  have hb':¬ (model prog w).w.params.followText "set-order"=true:=by
   show ¬ w.params.followText "set-order"=true;rw [hb];exact AS
  rw [if_neg hb'];have hled:CJ w=true:=by unfold CJ;rw [hb];rfl
  rw [hled];split
  ·rename_i hz;exact Bool.noConfusion (show false=true from hz)
  ·refine wpAny_bind ?_;show wpAny _ _ (pure PUnit.unit) _ _ _;refine wpAny_pure (wpAny_pure ?_);have e1:CV w a ep es=es:=by unfold CV;rw [if_neg (by rw [hb];exact AS)]
   have e2:∀ j,C8 w ps j=(match j with|0=>0|j+1=>ps.getD j 0+1):=fun j=>by unfold C8;rw [if_neg (by rw [hb];exact AS)]
   rw [e1,e2] at h;rw [e2];have hbl:=E7 S.two S.rise i hi;have hplace:(CQ ps true).place=ps.toArray:=rfl;rw [hplace,hbl];have hsz:=S.size;by_cases Cu:i < ps.length
   ·have g1:es[i]?=some es[i]:=Array.getElem?_eq_getElem zo;have g2:ps.toArray[i]?=some ps[i]:=by simp [Cu]
    rw [g1,g2];rw [g1] at h;have g3:ps.getD i 0=ps[i]:=by simp [List.getD,Cu]
    have h':Q (some (es[i].2,ps.getD i 0+1)) s:=h;rw [g3] at h';exact h'
   ·have g1:es[i]?=none:=Array.getElem?_eq_none zo;rw [g1];rw [g1] at h;exact h
def DA (h:Heap) (it a:Addr) (slot i n ep:Nat):Prop:=∃ o,h.get? it=some o/\o.cls=.type "set_iterator"/\o.data=.fields #[.int slot 0,.int i 0,.ref a,.int n 0,.int ep 0]
variable {it:Addr}
theorem DA.typeIs {slot i n ep:Nat} (h:DA s.heap it a slot i n ep):s.TypeIs (.ref it) "set_iterator":=let ⟨o,ho,hc,_⟩:=h;⟨o,ho,hc⟩
theorem FS {x:Int×Value} {Q:Option Value->Shared->Prop} (hit:DA s.heap it a (C8 w ps i) i ps.length ep) (S:DR w s.heap a ps es ep) (hi:i < ps.length)
  (hx:(CV w a ep es)[i]?=some x) (hQ:∀ h',DA h' it a (C8 w ps (i+1)) (i+1) ps.length ep->Heap.SameBut it s.heap h'->Q (some x.2) { s with heap:=h' }):wpAny (model prog w) A (pyNext (.ref it)) Q E s:=by
 obtain ⟨o,ho,hc,hd⟩:=id hit;obtain ⟨oS,hoS,hexS,hdS⟩:=S.at_;have hf:(CQ ps (CJ w)).fits es.size=true:=by rw [S.size];exact E4 S.two
 unfold pyNext;refine wpAny_bind (wpAny_attempt (wpAny_callSpecial?_slot (name:=Str.ofString "__next__") hit.typeIs CA
  (wpAny_call_entry CA hit.typeIs CP ?_ (CT _))))
 show wpAny _ _ (fieldsOf (.ref it) >>= _) _ _ s;refine wpAny_bind (wpAny_fieldsOf ho hd ?_);dsimp only;show wpAny _ _ (setEntries a >>= _) _ _ s;refine wpAny_bind (wpAny_setEntries_of hoS hdS hf ?_);have hsz:((es.size:Int) != (ps.length:Int))=false:=by rw [S.size];simp
 rw [hsz];simp only [Bool.false_eq_true,if_false];show wpAny _ _ (setNext a (Int.toNat (C8 w ps i:Int)) (Int.toNat (i:Int)) (Int.toNat (ep:Int)) >>= _) _ _ s;rw [A1,A1,A1];refine wpAny_bind (DQ S zo ?_);rw [hx];show wpAny _ _ (setField (.ref it) 0 (rawInt (C8 w ps (i+1))) >>= _) _ _ s;refine wpAny_bind (wpAny_setField ho hd (by simp) ?_);have hg1:=Heap.get?_update_self (h:=s.heap) (a:=it) (o:=o) (Obj.mapFields (·.setIfInBounds 0 (rawInt (C8 w ps (i+1))))) ho (Obj.isFreed_of_fields (Obj.data_mapFields hd _));refine wpAny_bind (wpAny_setField hg1 (Obj.data_mapFields hd _) (by simp) ?_);refine wpAny_pure ⟨x.2,rfl,wpAny_pure (hQ _ ?_ ((Heap.SameBut.update ..).trans (Heap.SameBut.update ..)))⟩;exact ⟨_,Heap.get?_update_self _ hg1 (Obj.isFreed_of_fields (Obj.data_mapFields (Obj.data_mapFields hd _) _)),(Obj.cls_mapFields ..).trans ((Obj.cls_mapFields ..).trans hc),by
  rw [Obj.data_mapFields (Obj.data_mapFields hd _)];simp [rawInt]⟩
theorem Gd {Q:Option Value->Shared->Prop} (hh:A.handled=none) (hit:DA s.heap it a (C8 w ps ps.length) ps.length ps.length ep) (S:DR w s.heap a ps es ep)
  (hQ:∀ h',Heap.ExtBut it s.heap h'->Q none { s with heap:=h' }):wpAny (model prog w) A (pyNext (.ref it)) Q E s:=by
 obtain ⟨o,ho,hc,hd⟩:=id hit;obtain ⟨oS,hoS,hexS,hdS⟩:=S.at_;have hf:(CQ ps (CJ w)).fits es.size=true:=by rw [S.size];exact E4 S.two
 unfold pyNext;refine wpAny_bind (wpAny_attempt (wpAny_callSpecial?_slot (name:=Str.ofString "__next__") hit.typeIs CA
  (wpAny_call_entry CA hit.typeIs CP ?_ (CT _))))
 show wpAny _ _ (fieldsOf (.ref it) >>= _) _ _ s;refine wpAny_bind (wpAny_fieldsOf ho hd ?_);dsimp only;show wpAny _ _ (setEntries a >>= _) _ _ s;refine wpAny_bind (wpAny_setEntries_of hoS hdS hf ?_);have hsz:((es.size:Int) != (ps.length:Int))=false:=by rw [S.size];simp
 rw [hsz];simp only [Bool.false_eq_true,if_false];show wpAny _ _ (setNext a (Int.toNat (C8 w ps ps.length:Int)) (Int.toNat (ps.length:Int)) (Int.toNat (ep:Int)) >>= _) _ _ s;rw [A1,A1,A1];refine wpAny_bind (DQ S (AR _) ?_);have ho':(CV w a ep es)[ps.length]?=none:=by
  refine Array.getElem?_eq_none ?_;have:=(Do w a ep es).length_eq;rw [A0,A0,S.size] at this;lia
 rw [ho'];show wpAny _ _ (setField (.ref it) 2 .none >>= _) _ _ s;refine wpAny_bind (wpAny_setField ho hd (by simp) ?_);show wpAny _ _ (newExc (.type "StopIteration") [] >>= _) _ _ _;refine wpAny_bind ?_;simp only [newExc,newTuple];refine wpAny_bind (wpAny_newObj_type ?_ (by size_fits));refine wpAny_bind (m:=firstArgMember _ _) (wpAny_of_eq (a:=Value.none) (by first|rfl|(simp only [firstArgMember];rfl)) ?_);refine wpAny_newObj_type ?_ (by size_fits);simp only [raiseNew];refine wpAny_bind (wpAny_handled ?_);first|rw [show A.in1.handled=none from hh]|rw [hh]
 refine wpAny_bind (wpAny_pure (wpAny_throw ?_));refine wpAny_bind (wpAny_isInstance (T:="StopIteration") (b:=true) ⟨_,AO _ rfl,rfl⟩ isSubtype_stop ?_);exact wpAny_pure (hQ _ (((Heap.SameBut.update ..).extBut.push _).push _))
theorem DR.keep (S:DR w h a ps es ep) (k:∀ o,h.get? a=some o->h'.get? a=some o):DR w h' a ps es ep:=by
 obtain ⟨⟨o,ho,r⟩,a1,a2,a3⟩:=S;exact ⟨⟨o,k o ho,r⟩,a1,a2,a3⟩
end
theorem Dd:entryFor table "set_iterator.__iter__"=some Builtin.«dict_keyiterator.__iter__»:=
 entryFor_alias (id':="dict_keyiterator.__iter__") (by kernel_rfl) (by first|rfl|decide +kernel|(unfold String.splitOn;simp +decide [String.splitOnAux])) zk (by kernel_rfl)
theorem Dg (a:Value):argsOk "set_iterator.__iter__" ⟨[a],[]⟩:=by unfold argsOk;kernel_rfl
theorem Fc {prog:Program} {w:World} {A:Around} (hh:A.handled=none) (I a:Addr) (Cq:a≠I) (ps:List Nat) (es:Array (Int×Value)) (ep:Nat) :
  Walks prog w A I [I,a] [I] ps.length (fun i v=>∃ x,(CV w a ep es)[i]?=some x/\v=x.2) (fun i h=>DA h I a (C8 w ps i) i ps.length ep/\DR w h a ps es ep) where
 sub:=fun b hb=>by simp at hb;simp [hb]
 frame:=fun _ _ _ st hk=>⟨let ⟨o,ho,r⟩:=st.1;⟨o,hk I (by simp) o ho,r⟩,st.2.keep fun o e=>hk a (by simp) o e⟩
 item:=fun i s Q E hi st hQ=>by
  have Cu:i < (CV w a ep es).size:=by
   have:=(Do w a ep es).length_eq;rw [A0,A0,st.2.size] at this;lia
  refine FS st.1 st.2 hi (x:=(CV w a ep es)[i]) (Array.getElem?_eq_getElem Cu) fun h' hit' hs'=>?_;exact hQ _ h' s.toks ⟨_,Array.getElem?_eq_getElem Cu,rfl⟩ ⟨hit',st.2.keep fun o e=>hs'.extBut a o Cq e⟩ fun b o hb e=>hs'.extBut b o (fun h=>hb (by simp [h])) e
 done:=fun s Q E st hQ=>Gd hh st.1 st.2 fun h' he'=>hQ h' s.toks fun b o hb e=>he' b o (fun h=>hb (by simp [h])) e
 self:=fun _ _ _ _ st hQ=>by
  refine wpAny_pyIter_slot st.1.typeIs CU (wpAny_call_entry CU st.1.typeIs Dd ?_ (Dg _));show wpAny _ _ (ret (.ref I)) _ _ _;exact wpAny_pure ⟨_,rfl,"set_iterator",_,st.1.typeIs,CA.lookup,hQ⟩
section
variable {prog:Program} {w:World} {A:Around} {E:Value->Shared->Prop} {s:Shared}
theorem Fp {Q:Value->Shared->Prop} (S:DR w s.heap a ps es ep)
  (hQ:Q (.ref s.heap.objs.size) { s with heap:=s.heap.push { cls:=.type "set_iterator",data:=.fields #[.int 0 0,.int 0 0,.ref a,.int ps.length 0,.int ep 0] } }):wpAny (model prog w) A (pyIter (.ref a)) Q E s:=by
 obtain ⟨o,ho,hex,hd⟩:=S.at_;have hf:(CQ ps (CJ w)).fits es.size=true:=by rw [S.size];exact E4 S.two
 have hT:s.TypeIs (.ref a) "set":=⟨o,ho,hex.1⟩;refine wpAny_pyIter_slot hT PySem.F.slot_set_iter (wpAny_call_entry PySem.F.slot_set_iter hT DB ?_ (PySem.F.args_set_iter_1 _));unfold Builtin.«frozenset.__iter__» Builtin.Frozenset.slot0 slotArgs;simp only [List.isEmpty_nil,Bool.not_true,Bool.false_eq_true,↓reduceIte,bind_assoc,List.length_nil,bne_self_eq_false];unfold Builtin.Frozenset.addrOf Builtin.Frozenset.sizeOf;refine wpAny_bind (wpAny_pure ?_);try dsimp only
 refine wpAny_bind (wpAny_pure ?_);refine wpAny_bind (wpAny_bind (wpAny_setEntries_of ho hd hf (wpAny_pure ?_)));unfold setDrawn;refine wpAny_bind (wpAny_bind (wpAny_setState_of ho hd hf ?_));dsimp only;unfold setsByText;refine wpAny_bind (wpAny_bind (wpAny_askSetting (wpAny_pure ?_)));refine wpAny_pure ?_;split
 ·rename_i hz;rw [Bh] at hz;exact Bool.noConfusion (show false=true from hz.2)
 ·refine wpAny_bind (wpAny_pure ?_);refine wpAny_bind (wpAny_setEpoch_of ho hd hf ?_);refine wpAny_bind (wpAny_newObj_type (wpAny_pure ⟨_,rfl,"set_iterator",_,⟨_,AO _ rfl,rfl⟩,CA.lookup,?_⟩));rw [S.size];exact hQ
theorem DY:typeLookup (.type "set") "__len__"=pure (some (.builtin "set.__len__")):=by rw [typeLookup_type,builtinLookup_eq_fast];kernel_rfl
theorem EB {Q:List Value->Shared->Prop} (hh:A.handled=none) (S:DR w s.heap a ps es ep)
  (hQ:∀ s' acc,(∀ b o,s.heap.get? b=some o->s'.heap.get? b=some o)->s.heap.objs.size<=s'.heap.objs.size->s'.gens=s.gens->s'.drawn=s.drawn->s'.os=s.os->ItemsOf (fun i v=>∃ x,(CV w a ep es)[i]?=some x/\v=x.2) acc ps.length->Q acc.toList s') :
  wpAny (model prog w) A (collect (.ref a)) Q E s:=by
 have hn:ps.length<=sizeLine:=A8 S.two zd;unfold collect;refine wpAny_bind (wpAny_runValue (codeAny_builtin PySem.F.entry_proto_collect ?_));rw [Around.under_plainId PySem.F.plain_proto_collect _];show wpAny _ A.in1 (newList [] >>= fun l=>again (.builtin "list.__iadd__" ⟨[l,.ref a],[]⟩)) _ _ s;refine wpAny_bind (wpAny_newObj_type ?_);refine wpAny_pure ⟨plainId_quiet PySem.F.plain_list_iadd _,codeAny_builtin PySem.F.entry_list_iadd ?_⟩;rw [Around.under_plainId PySem.F.plain_list_iadd _];show wpAny _ A.in1 (Builtin.List.listExtendWith (.ref s.heap.objs.size) (.ref a) (.ref s.heap.objs.size)) _ _ _;unfold Builtin.List.listExtendWith;obtain ⟨o,ho,hex,hd⟩:=id S.at_;have ha:a < s.heap.objs.size:=AQ ho;have S1:DR w (s.heap.push { cls:=.type "list",data:=.seq ([]:List Value).toArray }) a ps es ep:=S.keep fun o e=>AK _ e;have hT:Shared.TypeIs { s with heap:=s.heap.push { cls:=.type "list",data:=.seq ([]:List Value).toArray } } (.ref a) "set":=⟨o,AK _ ho,hex.1⟩;refine wpAny_bind (wpAny_typeOf (T:="set") (v:=.ref a) hT ?_);have h1:Builtin.List.listSameRef (.ref s.heap.objs.size) (.ref a)=false:=by
  show (s.heap.objs.size == a)=false;have:¬ s.heap.objs.size=a:=BV ha;simpa using this
 have h2:(Value.type "set" == Value.type "list")=false:=by decide
 have h3:(Value.type "set" == Value.type "tuple")=false:=by decide
 simp only [h1,h2,h3,Bool.or_false,Bool.false_eq_true,if_false];refine wpAny_bind (Fp S1 ?_);refine wpAny_bind (wpAny_holding ?_);unfold Builtin.List.listLengthHint;refine wpAny_bind (wpAny_specialOf (T:="set") (v:=.ref a) ⟨o,AK _ (AK _ ho),hex.1⟩ DY ?_)
 wp_delta
 refine wpAny_bind (wpAny_isInstance (T:="set") (v:=.ref a) (b:=true) ⟨o,AK _ (AK _ ho),hex.1⟩ (by rw [isSubtype_type];kernel_rfl) ?_);show wpAny _ A.in1 (typeOf (Value.ref a) >>= _) _ _ _;refine wpAny_bind (wpAny_typeOf (T:="set") (v:=.ref a) ⟨o,AK _ (AK _ ho),hex.1⟩ ?_);refine wpAny_pure ?_;split
 ·refine wpAny_bind (wpAny_rule ?_);generalize hH:s.heap.push { cls:=.type "list",data:=.seq ([]:List Value).toArray }=H at S1 hT ⊢;have hHs:H.objs.size=s.heap.objs.size+1:=by rw [<-hH,Bb]
  have hS:(H.push { cls:=.type "set_iterator",data:=.fields #[.int 0 0,.int 0 0,.ref a,.int ps.length 0,.int ep 0] }).get? s.heap.objs.size=some { cls:=.type "list",data:=.seq ([]:List Value).toArray }:=AK _ (hH ▸ AO _ rfl);unfold Builtin.List.listTouch;refine wpAny_bind (wpAny_bind (listUpdate_at hS rfl ?_ (by size_fits) (by size_fits)));have hS1:=get?_update_seq (n:=0) hS (·.push .none);refine listUpdate_at hS1 rfl ?_ (by simp;exact A8 (by decide:1<=2) zd) (by simp);have hS2:=get?_update_seq hS1 (·.pop);have sb:Heap.SameBut s.heap.objs.size (H.push { cls:=.type "set_iterator",data:=.fields #[.int 0 0,.int 0 0,.ref a,.int ps.length 0,.int ep 0] }) (((H.push { cls:=.type "set_iterator",data:=.fields #[.int 0 0,.int 0 0,.ref a,.int ps.length 0,.int ep 0] }).update s.heap.objs.size (Obj.mapSeq (·.push .none))).update s.heap.objs.size (Obj.mapSeq (·.pop))):=(Heap.SameBut.update ..).trans (Heap.SameBut.update ..);generalize ((H.push { cls:=.type "set_iterator",data:=.fields #[.int 0 0,.int 0 0,.ref a,.int ps.length 0,.int ep 0] }).update s.heap.objs.size (Obj.mapSeq (·.push .none))).update s.heap.objs.size (Obj.mapSeq (·.pop))=H2 at *;have hIS:H.objs.size≠s.heap.objs.size:=by rw [hHs];exact BV (BI _)
  have haS:a≠s.heap.objs.size:=AW ha;have haI:a≠H.objs.size:=by rw [hHs];exact AW (Nat.lt_succ_of_lt ha)
  have hSf:s.heap.objs.size∉[H.objs.size,a]:=fun hm=>by
   rcases AZ.mp hm with z|z
   ·exact hIS z.symm
   ·exact haS (AU.mp z).symm
  have hst:DA H2 H.objs.size a (C8 w ps 0) 0 ps.length ep/\DR w H2 a ps es ep:=by
   refine ⟨⟨_,sb.extBut _ _ hIS (AO _ rfl),rfl,?_⟩,S1.keep fun o e=>sb.extBut _ _ haS (AK _ e)⟩;have:C8 w ps 0=0:=by unfold C8;split<;>rfl
   rw [this];rfl
  refine wpAny_pure ⟨plainId_quiet PySem.F.plain_extend_loop _,codeAny_extend_loopS (Fc (prog:=prog) (w:=w) (A:=A.in1) hh H.objs.size a haI ps es ep).toS hn _ hSf _ ps.length 0 _ _ _ rfl (Bv _) hst hS2 (ItemsOf.nil _) fun s' acc' c' hm hS' hacc=>?_⟩;show wpAny _ A (load s.heap.objs.size >>= _) _ _ s';refine wpAny_bind (wpAny_load hS' ?_);refine wpAny_pure (hQ s' acc' (fun b ob e=>hm.heap b ob (fun hb=>?_) (sb.extBut _ _ (AW (AQ e)) (AK _ (hH ▸ AK _ e)))) (Cb (AQ hS')) hm.gens hm.drawn hm.os hacc);have Cu:=AQ e;rcases AZ.mp hb with h|h
  ·exact absurd Cu (h ▸ BO _)
  ·rw [AU.mp h,hHs] at Cu;exact absurd Cu (Nat.not_lt.mpr (BS _))
 ·rename_i hz;exact absurd zk hz
theorem Em:∀ {a b:List Int},a.Perm b->a.Pairwise (·<=·)->b.Pairwise (·<=·)->a=b
 | [],b,p,_,_=>(List.nil_perm.mp p).symm
 | x::a,b,p,ha,hb=>by
  cases b with
  | nil=>exact absurd p.length_eq (by simp)
  | cons y b=>
   have hx:∀ {z},z∈a->x<=z:=fun h=>List.rel_of_pairwise_cons ha h;have hy:∀ {z},z∈b->y<=z:=fun h=>List.rel_of_pairwise_cons hb h;have e:x=y:=by
    have m1:x∈y::b:=p.subset AX;have m2:y∈x::a:=p.symm.subset AX;rcases AZ.mp m1 with z|z
    ·exact z
    ·rcases AZ.mp m2 with z2|z2
     ·exact z2.symm
     ·exact Int.le_antisymm (hx z2) (hy z)
   subst e;rw [Em (List.Perm.cons_inv p) (List.Pairwise.of_cons ha) (List.Pairwise.of_cons hb)]
theorem FL {es:List (Int×Value)} (h:D8 ps es):IntsAre (es.map (·.2)) (ps.map fun (k:Nat)=>(k:Int)):=by
 induction h with
 | nil=>exact .nil
 | cons _ ih=>exact .cons _ _ ih
theorem Ex {f:Nat->Option (Int×Value)} {acc:Array Value} (h:ItemsOf (fun i v=>∃ x,l[i]?=some x/\v=x.2) acc l.length):acc.toList=l.map (·.2):=by
 refine List.ext_getElem (by rw [A0,h.1,AM]) fun i h1 h2=>?_;obtain ⟨x,e1,e2⟩:=h.2 i (acc.toList[i]) (by rw [<-Array.getElem?_toList];exact AL h1);rw [e2,List.getElem_map];obtain ⟨_,e3⟩:=AN.mp e1;rw [e3]
theorem FJ {us vs:List Value} (p:us.Perm vs) (h:IntsAre vs ns):∃ ms,IntsAre us ms/\ms.Perm ns:=by
 induction p generalizing ns with
 | nil=>exact ⟨ns,h,.refl _⟩
 | cons x _ ih=>
  cases h with
  | cons n t r=>
   obtain ⟨ms,a,b⟩:=ih r;exact ⟨n::ms,.cons n t a,b.cons n⟩
 | swap x y l=>
  cases h with
  | cons n t r=>
   cases r with
   | cons m u r=>exact ⟨m::n::_,.cons m u (.cons n t r),.swap ..⟩
 | trans _ _ ih1 ih2=>
  obtain ⟨ms,a,b⟩:=ih2 h;obtain ⟨ks,c,d⟩:=ih1 a;exact ⟨ks,c,d.trans b⟩
theorem EV {Q:Value->Shared->Prop} (hh:A.handled=none) (S:DR w s.heap a ps es ep)
  (h:∀ (s':Shared) (D:Addr) (out:Array Value) (c:Nat),(∀ b o,s.heap.get? b=some o->s'.heap.get? b=some o)->s'.gens=s.gens->s'.drawn=s.drawn->s'.os=s.os->s.heap.objs.size<=D->s'.heap.get? D=some (seqObj "list" out c)->
   IntsAre out.toList (ps.map fun (k:Nat)=>(k:Int))->Q (.ref D) s'):wpAny (model prog w) A (call (.builtin "sorted") [.ref a]) Q E s:=by
 refine Calls.call_function_entry kind_sorted plain_sorted entry_sorted (args_sorted1 _) ?_;unfold Builtin.«sorted»;refine wpAny_bind (m:=checkCount "sorted" 1 1 _) (wpAny_pure ?_);refine wpAny_bind (EB hh S fun s1 acc keep hsz hg hdr hos hacc=>?_);have hord:=(Do w a ep es).length_eq;rw [A0,A0,S.size] at hord;have eacc:acc.toList=(CV w a ep es).toList.map (·.2):=by
  refine Ex (f:=fun _=>none) ?_;have:(fun (i:Nat) (v:Value)=>∃ x:Int×Value,(CV w a ep es)[i]?=some x/\v=x.2)=fun (i:Nat) (v:Value)=>∃ x:Int×Value,(CV w a ep es).toList[i]?=some x/\v=x.2:=by
   funext i v;rw [Array.getElem?_toList]
  rw [this] at hacc;rw [A0,hord];exact hacc
 obtain ⟨ms,hI,hp⟩:=FJ ((Do w a ep es).map (·.2)) (FL S.ent);rw [<-eacc] at hI;have hz:acc.toList.length<=2:=by rw [hI.length,hp.length_eq,AM];exact S.two
 refine wpAny_bind (wpAny_newList ?_ (A8 hz zd));have hoL:(s1.heap.push (seqObj "list" acc.toList.toArray 0)).get? s1.heap.objs.size=some (seqObj "list" acc.toList.toArray 0):=AO _ rfl;show wpAny _ _ _ _ _ { s1 with heap:=s1.heap.push (seqObj "list" acc.toList.toArray 0) };refine wpAny_bind (wpAny_holding (wpAny_call_entry slot_list_sort ⟨_,hoL,rfl⟩ entry_list_sort (list_sort_tree hoL hI zo fun out ns' a1 a2 a3=>⟨_,rfl,?_⟩) (args_list_sort _)));have ens:ns'=ps.map fun (k:Nat)=>(k:Int):=Em (a2.trans hp) a3 (by
  rw [List.pairwise_map];exact S.rise.imp fun h=>by lia)
 have Cu:s1.heap.objs.size < (s1.heap.push (seqObj "list" acc.toList.toArray 0)).objs.size:=AQ hoL;obtain ⟨c,hc⟩:=sortedHeap_at (out:=out) hoL;refine wpAny_pure ⟨_,rfl,h _ _ out c (fun b o e=>?_) hg hdr hos hsz hc (by rw [<-ens];exact a1)⟩;have hb:=AQ (keep b o e);show (sortedHeap _ _ _ _).get? b=some o;rw [sortedHeap_old (AW hb) (Nat.lt_trans hb Cu)];exact AK _ (keep b o e)
end
def Cy (ns:List Nat):List V:=ns.map fun (k:Nat)=>V.int (k:Int)
def E6 (w:World) (a:Addr) (ps:List Nat):HO:=.ext fun h=>DO h a ps (CJ w)
theorem CZ {ns:List Nat}:Cy ns=(ns.map fun (k:Nat)=>(k:Int)).map V.int:=by unfold Cy;rw [BW];rfl
theorem DE {ns:List Nat} (h2:ns.length<=2):(CF ns).length<=2/\(CF ns).Pairwise (· < ·)/\∀ k,k∈CF ns↔k∈ns:=by
 match ns,h2 with
 | [],_=>exact ⟨by simp [CF],by simp [CF],fun k=>by simp [CF]⟩
 | [a],_=>exact ⟨by simp [CF,Dc],by simp [CF,Dc],fun k=>by simp [CF,Dc]⟩
 | [a,b],_=>
  have e:CF [a,b]=if b=a then [a] else if b < a then [b,a] else [a,b]:=rfl;rw [e];split
  ·rename_i h;subst h;exact ⟨by simp,by simp,fun k=>by simp⟩
  ·rename_i h;split
   ·rename_i h2;exact ⟨by simp,by simpa using h2,fun k=>by simp [or_comm]⟩
   ·rename_i h2;exact ⟨by simp,by simp;lia,fun k=>by simp⟩
section
variable {X:Cx}
theorem FK (hc:X.calm=true):bJ X (.type "set") (fun xs H Q=>∃ (l:Addr) (ns:List Nat),xs=[.ref l]/\Cz X.K H l (Cy ns)/\ns.length<=2/\(∀ k∈ns,k < 8)/\∀ a,H a=none->Q (.ref a) (aB H a (E6 X.w a (CF ns)))):=by
 intro Cj s σ H xs us Q I r h;obtain ⟨l,ns,rfl,hS,h2,h8,q⟩:=h;obtain ⟨u,rfl,rx⟩:=cK r;cases rx;obtain ⟨its,rv,pl,hz⟩:=I.list hS;rw [CZ] at rv;refine Ev (ns:=ns) (I.ok.hd hc) pl.isList (by simpa using cm rv) h2 h8 fun h' tk S keep=>?_;have hk:∀ b o,s.heap.get? b=some o->h'.get? b=some o:=fun b o e=>keep b o (AQ e) e;refine ⟨.ref s.heap.objs.size,_,I.laid (t':=tk) (a:=s.heap.objs.size) (o:=E6 X.w s.heap.objs.size (CF ns)) hk (AR _) ?_,rfl,q _ (I.hok.fresh (AR _))⟩;obtain ⟨o,es,ep,ho,hr⟩:=id S;exact ⟨S,⟨o,ho⟩,fun h1 h2 S1 k=>S1.keep k⟩
theorem EY (hc:X.calm=true):bJ X (.builtin "sorted") (fun xs H Q=>∃ (a:Addr) (ps:List Nat),xs=[.ref a]/\H a=some (E6 X.w a ps)/\ps.length<=2/\ps.Pairwise (· < ·)/\∀ p,H p=none->Q (.ref p) (aB H p (.lst (Cy ps)))):=by
 intro Cj s σ H xs us Q I r h;obtain ⟨a,ps,rfl,hS,h2,hr,q⟩:=h;obtain ⟨u,rfl,rx⟩:=cK r;cases rx;obtain ⟨S,_,_⟩:=(show CO X.prog X.w H s.heap a (E6 X.w a ps) from I.hok a _ hS);obtain ⟨o,es,ep,ho,hex,hd,hE⟩:=S;refine EV (I.ok.hd hc) (⟨⟨o,ho,hex,hd⟩,hE,h2,hr⟩:DR X.w s.heap a ps es ep) fun s' D out c keep hg hdr hos hD hout hI=>?_;obtain ⟨h',g',d',tk',os'⟩:=s';have eg:g'=s.gens:=hg;have ed:d'=s.drawn:=hdr;have eo:os'=s.os:=hos;subst eg ed eo;refine ⟨.ref D,_,I.laid (t':=tk') (a:=D) (o:=.lst (Cy ps)) keep hD ?_,rfl,q _ (I.hok.fresh hD)⟩;have v:=cX hI;rw [<-CZ] at v;refine ⟨?_,out.toList,c,v,?_⟩
 ·unfold Cy;rw [AM];exact A8 h2 zd
 ·have:=hout;simpa [seqObj] using this
theorem GG (a:Str):Str.empty++a=a:=by
 show (⟨(#[]:Array Nat)++a.cps⟩:Str)=a;simp
theorem Gs {a:Str} {te:TE} {j:Nat} {p1 p2 p3:Pos} (he:PE X e te) (ha:a.length<=sizeLine:=by decide +kernel):PE X (.JoinedStr [.Constant (.str a) j p1,.FormattedValue e (-1) none p2] p3)
  (fun σ H Q=>te σ H fun x H1=>∃ i:Int,x=.int i/\i.natAbs.log2 < 1920/\(a++(toString i:Str)).length<=sizeLine/\Q (.str (a++(toString i:Str))) H1):=by
 refine ⟨?_⟩;intro Cj s σ H Q I h;refine JoinedStr_many (joinParts_cons (Calls.Constant_str ?_));dsimp only;rw [GG];refine ⟨ha,joinParts_cons (FormattedValue_plain (bA (he Cj _ σ H _ (I.tok _) h) fun u s1 ⟨x,H1,I1,r1,i,ex,hi,hz,q⟩=>?_))⟩;subst ex;obtain ⟨t,rfl⟩:=r1;refine formatField_int_small hi ?_;exact ⟨hz,joinParts_nil ⟨.str _,H1,I1.tok _,⟨_,rfl⟩,q⟩ hz⟩
theorem GA (hc:X.calm=true):bJ X (.builtin "any") (fun xs H Q=>∃ (p:Addr) (bs:List Bool),xs=[.ref p]/\Cz X.K H p (bs.map V.bl)/\Q (.bl (bs.any id)) H):=by
 intro Cj s σ H xs us Q I r h;obtain ⟨p,bs,rfl,hS,q⟩:=h;obtain ⟨u,rfl,rx⟩:=cK r;cases rx;obtain ⟨its,rv,pl,hz⟩:=I.list hS;have Ck:=rv.length;rw [AM] at Ck;have Cq:p≠s.heap.objs.size:=by
  obtain ⟨o,ho,_⟩:=pl.isList;exact AW (AQ ho)
 refine call_any_walk (wpAny_pyIter_list pl.isList ?_);refine ⟨s.heap.objs.size,_,_,_,_,_,fun i=>bs.getD i false,rfl,Walks.list (A:=X.A.in1) (I.ok.hd hc) s.heap.objs.size p Cq its.toArray,⟨⟨_,AO _ rfl,rfl,rfl⟩,pl.isList.at fun o e=>AK _ e⟩,?_,?_⟩
 ·intro i v s' Q' E' hv hq;have hv':its[i]?=some v:=by simpa using hv
  have Cu:i < its.length:=(AN.mp hv').1;have hb:i < bs.length:=by lia
  obtain ⟨u,hu,ru⟩:=rv.get (i:=i) (x:=.bl bs[i]) (by simp [hb]);rw [hv'] at hu;cases hu;cases ru;refine wpAny_truthy_bool ?_;have e:bs.getD i false=bs[i]:=by simp [List.getD,hb]
  dsimp only at hq;rw [e] at hq;exact hq
 ·intro h' tk hk;have e:(List.range its.toArray.size).any (fun i=>bs.getD i false)=bs.any id:=by
   rw [AV,<-Ck,BF,List.any_eq_true,List.any_eq_true];constructor
   ·rintro ⟨i,hi,z⟩;have hi':=A3.mp hi;rw [show bs.getD i false=bs[i] by simp [List.getD,hi']] at z;exact ⟨_,Bq hi',z⟩
   ·rintro ⟨x,hx,z⟩;obtain ⟨i,hi,e⟩:=Ca hx;refine ⟨i,A3.mpr hi,?_⟩;rw [show bs.getD i false=bs[i] by simp [List.getD,hi],e];exact z
  rw [e];exact ⟨.bl _,H,I.kept fun b o e=>hk b o (fun z=>absurd (AQ e) (by rw [AU.mp z];exact BO _)) (AK _ e),rfl,q⟩
inductive FD (X:Cx) (m:Str) (t:TA) (σ:St) (Q:VK) (x:V) (H1:Hp):Prop
 | mk (a dx C f:Addr) (fs:List (Str×V)) (fd:FuncData) (k:Nat) (ps:List Str) (sp:Sp):x=.ref a->H1 a=some (.ins C dx fs)->fs.lookup m=none->FY X.K C->tU X.K C m f->aT X.prog X.w X.K X.mg X.base bT k f fd ps sp->CY k X.A->Dv X.K fd ps []->(t σ H1 fun vs H2=>sp (.ref a::vs) H2 Q E0)->FD X m t σ Q x H1
def GW (X:Cx) (m:Str) (ta:TE) (t:TA):TE:=fun σ H Q=>ta σ H fun x H1=>FD X m t σ Q x H1
variable {ta:TE} {o:Expr}
theorem Fe {pl:Sem Bool} {es:List Expr} {m:Str} {t:TA} {pos apos:Pos} (he:PE X o ta) (ha:PA X (e::es) t)
  (hst:starEach (e::es) X.env=(false,eval e X.env)::starEach es X.env:=by rfl) (hpl:(backTo pos (starEach es X.env)).any (·.1)=false:=by rfl)
  (ht:eval (.Call (.Attribute o m apos) (e::es) [] pos) X.env=(do
   let ov <-eval o X.env
   standAt apos.atName
   let (f,first) <-holding [ov] (getMethod ov m pl)
   callWith pos f first (backTo pos (starEach (e::es) X.env)) (backToKw pos (keywordEach [] X.env))):=by rfl) :
  PE X (.Call (.Attribute o m apos) (e::es) [] pos) (GW X m ta t):=by
 refine ⟨?_⟩;intro Cj s σ H Q I h;refine PySem.W.methodCall_KW (pl:=pl) (bA (he Cj s σ H _ I h) fun u s1 ⟨x,H1,I1,rx,a,dx,C,f,fs,fd,k,ps,sp,ex,ea,l,c,hm,F,hr,hb,q⟩=>?_) ht;subst ex;obtain rfl:u=Value.ref a:=rx;refine iu I1 ea c hm l ?_;refine PySem.W.callWith_K (first:=[.ref a]) (h₀:=X.base) I.ok.mod.kin hm.kp (bA (ha pos Cj s1 σ H1 _ I1 q) fun us s2 ⟨vs,H2,I2,r,q2⟩=>⟨I2.kIn,?_⟩) hst hpl;exact jX (us:=.ref a::us) (vs:=.ref a::vs) (dvs:=[]) (ds:=[]) F hr hb .nil dZ I2 (.cons rfl r) (by rw [Ba];exact q2)
inductive E5 (X:Cx) (m:Str) (Q:VK) (x:V) (H1:Hp):Prop
 | mk (a dx C f:Addr) (fs:List (Str×V)) (fd:FuncData) (k:Nat) (ps:List Str) (sp:Sp):x=.ref a->H1 a=some (.ins C dx fs)->fs.lookup m=none->FY X.K C->tU X.K C m f->aT X.prog X.w X.K X.mg X.base bT k f fd ps sp->CY k X.A->Dv X.K fd ps []->sp [.ref a] H1 Q E0->E5 X m Q x H1
def GK (X:Cx) (m:Str) (ta:TE):TE:=fun σ H Q=>ta σ H fun x H1=>E5 X m Q x H1
theorem De {pl:Sem Bool} {m:Str} {pos apos:Pos} (he:PE X o ta)
  (ht:eval (.Call (.Attribute o m apos) [] [] pos) X.env=(do
   let ov <-eval o X.env
   standAt apos.atName
   let (f,first) <-holding [ov] (getMethod ov m pl)
   callWith pos f first (backTo pos (starEach [] X.env)) (backToKw pos (keywordEach [] X.env))):=by rfl) :
  PE X (.Call (.Attribute o m apos) [] [] pos) (GK X m ta):=by
 refine ⟨?_⟩;intro Cj s σ H Q I h;refine PySem.W.methodCall_KW (pl:=pl) (bA (he Cj s σ H _ I h) fun u s1 ⟨x,H1,I1,rx,a,dx,C,f,fs,fd,k,ps,sp,ex,ea,l,c,hm,F,hr,hb,q⟩=>?_) ht;subst ex;obtain rfl:u=Value.ref a:=rx;refine iu I1 ea c hm l ?_;exact PySem.W.callWith_K0 (first:=[.ref a]) I1.kIn hm.kp (jX (us:=[.ref a]) (vs:=[.ref a]) (dvs:=[]) (ds:=[]) F hr hb .nil dZ I1 (.cons rfl .nil) q)
end
def G5 (K:ZF) (l:Addr):It:=
 ⟨fun i H=>∃ xs x,Cz K H l xs/\xs[i]?=some x,
  fun i H v H'=>∃ T x,v=.ref T/\H T=none/\H'=aB H T (.tup [.int i,x])/\∀ xs,Cz K H l xs->xs[i]?=some x,
  fun i H=>∃ xs,Cz K H l xs/\xs.length<=i⟩
theorem FG {P:Program} {w:World} {K:ZF} {elts:List Expr} {kt:Nat} {tp:Pos} {e it l:Addr} (Cq:e≠it) :
  jW P w K (.Tuple elts kt tp) (G5 K l) [e,it] e (fun i h=>(∃ old,IsEnum h e it i old)/\h.IsListIter it l i) where
 mem:=by simp
 obj:=fun i h st b hb=>by
  obtain ⟨⟨old,he⟩,⟨o1,h1,_,d1⟩⟩:=st;simp at hb;rcases hb with rfl|rfl
  ·exact ⟨_,he,fun v q=>by cases q⟩
  ·exact ⟨_,h1,fun v q=>by rw [d1] at q;cases q⟩
 keep:=fun i h h' st k=>by
  obtain ⟨⟨old,he⟩,h1⟩:=st;exact ⟨⟨old,k e (by simp) _ he⟩,h1.at fun o q=>k it (by simp) o q⟩
 item:=by
  intro X hP hw hK hc i Cj s σ H E I hf st hg;subst hP hw hK;obtain ⟨xs,x,hx,ex⟩:=hg;obtain ⟨⟨old,he⟩,h1⟩:=st;obtain ⟨its1,rv1,p1,z1⟩:=I.list hx;obtain ⟨u1,eu1,ru1⟩:=rv1.get ex;refine wpAny_pyNext_enum_item he h1 p1.isList (x:=u1) (by simpa using eu1) Cq fun h' a1 a2 a3 a4 a5=>⟨_,rfl,?_⟩;refine wpAny_letOwnedTupleGo_enum a1 fun h'' b1 b2=>?_;have hT:H s.heap.objs.size=none:=I.hok.fresh (AR _);have low:∀ b o,s.heap.get? b=some o->b≠s.heap.objs.size:=fun b o q=>AW (AQ q);refine ⟨.ref s.heap.objs.size,aB H s.heap.objs.size (.tup [.int i,x]),?_,rfl,⟨s.heap.objs.size,x,rfl,hT,rfl,fun xs' h=>by rw [I.list_inj h hx];exact ex⟩,?_,fun b hb=>?_⟩
  ·show CB X Cj σ (aB H s.heap.objs.size (.tup [.int i,x])) { s with heap:=h'',toks:=s.toks+1 };refine CB.turnedS (s:=s) (h':=h'') (t':=s.toks+1) (ch:=[e,it]) I (fun b hb=>hf b hb) (fun b o hc q=>?_) (fun b o q=>by rw [az (aD q hT)];exact q) (fun b hb n=>by rw [az (AW hb)];exact n) fun b o n q=>?_
   ·simp at hc;exact b2.extBut b o hc.1 (a5 b o hc.1 hc.2 q)
   ·by_cases eb:b=s.heap.objs.size
    ·subst eb;rw [af] at q;cases q;refine ⟨CM,[.int i s.toks,u1],.cons ⟨_,rfl⟩ (.cons ru1 .nil),_,b2.extBut _ _ ?_ a3,rfl,_,rfl⟩;exact fun z=>low e _ he z.symm
    ·rw [az eb,n] at q;cases q
  ·refine ⟨⟨_,b1⟩,a2.at fun o q=>b2.extBut _ o Cq.symm q⟩
  ·have n:=(hf b hb).1;have:b≠s.heap.objs.size:=by
    simp at hb;obtain ⟨_,q1,_⟩:=id h1;rcases hb with rfl|rfl
    ·exact low _ _ he
    ·exact low _ _ q1
   rw [az this];exact n
 done:=by
  intro X hP hw hK hc i Cj s σ H E I hf st hg;subst hP hw hK;obtain ⟨xs,hx,hl⟩:=hg;obtain ⟨⟨old,he⟩,h1⟩:=st;obtain ⟨its1,rv1,p1,z1⟩:=I.list hx;have e1:=rv1.length;refine wpAny_pyNext_enum_end (I.ok.hd hc) he h1 p1.isList (by simp;lia) fun h' k=>⟨rfl,?_⟩;obtain ⟨f0,f1,f2,f3,f4,f5⟩:=hf it (by simp);exact I.turned (t':=s.toks) (fun b o hb q=>k b o hb q) f0 f1 f3 f4 f5
 self:=fun _ _ _ _ _ st h=>wpAny_pyIter_enum st.1.choose_spec h
section
variable {X:Cx}
inductive F9 (K:ZF) (R:It->Hp->Prop) (vs:List V) (H1:Hp):Prop
 | mk (l:_):vs=[.ref l]->(∃ xs,Cz K H1 l xs)->R (G5 K l) H1->F9 K R vs H1
def Fz (K:ZF) (ta:TA):TI:=fun σ H R=>ta σ H fun vs H1=>F9 K R vs H1
theorem EK:bootBuiltins "enumerate"=some (.type "enumerate"):=by decide +kernel
theorem D6 {elts:List Expr} {kt:Nat} {tp:Pos} {a:Expr} {ta:TA} {p pos:Pos} (hg:Gl X "enumerate") (hm:X.mg "enumerate"=none) (ha:PA X [a] ta) (hs:starEach [a] X.env=[(false,eval a X.env)]:=by rfl) :
  PI X (.Tuple elts kt tp) (.Call (.Name "enumerate" p) [a] [] pos) (Fz X.K ta):=by
 refine ⟨?_⟩;intro Cj s σ H R I h;refine Call_ (c8 I hg hm EK (Bz (bA (ha pos Cj s σ H _ I h) fun us s1 ⟨vs,H1,I1,r1,q1⟩=>?_) hs rfl));obtain ⟨l,e,⟨xs,hx⟩,q⟩:=q1;subst e;cases r1 with
 | cons r rr=>
  cases rr;cases r;obtain ⟨its1,rv1,p1,z1⟩:=I1.list hx;refine call_enumerate_list p1.isList fun h' a1 a2 a3 a4=>?_;refine wpAny_pyIter_enum a1 ?_;refine ⟨_,[s1.heap.objs.size+1,s1.heap.objs.size],_,_,H1,rfl,I1.kept (t':=s1.toks) a4,FG (BV (BI _)),⟨⟨_,a1⟩,a2⟩,fun b hb=>?_,q⟩;have hb':s1.heap.objs.size<=b:=by
   simp only [AZ,BN,or_false] at hb;rcases hb with e|e<;>rw [e]
   ·exact Nat.le_add_right _ _
   ·exact AR _
  exact I1.fpOk hb' (I1.hok.fresh hb')
end
theorem D3 {l:Addr} {g:TG} {tb:TS} {D:eX} (Pv:Nat->St->Hp->Prop) (h0:Pv 0 σ H) (hl:∀ i σ H,i<=xs.length->Pv i σ H->Cz K H l xs)
  (hs:∀ i x σ H T,xs[i]?=some x->H T=none->Pv i σ H->g (.ref T) σ (aB H T (.tup [.int i,x])) fun σ2 H2=>tb { D with nx:=Pv (i+1),ct:=Pv (i+1),bk:=D.nx } σ2 H2) (hd:∀ σ H,Pv xs.length σ H->D.nx σ H) :
  ∃ W:Nat->Nat->St->Hp->Prop,(∃ m,W 0 m σ H)/\∀ i m σ H,W i m σ H->
   ((G5 K l).stop i H/\D.nx σ H)\/((G5 K l).go i H/\∃ N:St->Hp->Prop,(∀ σ' H',N σ' H'->∃ m',m' < m/\W (i+1) m' σ' H')/\∀ x H',(G5 K l).yld i H x H'->g x σ H' fun σ2 H2=>tb { D with nx:=N,ct:=N,bk:=D.nx } σ2 H2):=by
 refine ⟨fun i m σ H=>m=xs.length - i/\i<=xs.length/\Pv i σ H,⟨xs.length,by simp,Bv _,h0⟩,?_⟩;rintro i m σ H ⟨rfl,hi,p⟩;have q:=hl i σ H hi p;by_cases Cu:i < xs.length
 ·refine .inr ⟨⟨xs,xs[i],q,by simp [Cu]⟩,Pv (i+1),fun σ' H' p'=>⟨xs.length - (i+1),zo,rfl,Cu,p'⟩,fun v H' y=>?_⟩;obtain ⟨T,x,e1,hT,e2,hy⟩:=y;subst e1 e2;exact hs i x σ H T (hy xs q) hT p
 ·have e:i=xs.length:=by lia
  subst e;exact .inl ⟨⟨xs,q,AR _⟩,hd σ H p⟩
theorem Ef:bootBuiltins "range"=some (.type "range"):=by decide +kernel
theorem FH:bootBuiltins "max"=some (.builtin "max"):=by decide +kernel
def DI (ns:List Nat):List V:=ns.map fun (k:Nat)=>V.int (k:Int)
theorem Fo (ns:List Nat):DI ns=(ns.map fun (k:Nat)=>(k:Int)).map V.int:=by unfold DI;rw [BW];rfl
section
variable {X:Cx}
theorem Ej:bJ X (.type "range") (fun xs H Q=>∃ n:Nat,xs=[.int n]/\∀ p,H p=none->Q (.ref p) (aB H p (.rng 0 n))):=by
 intro Cj s σ H xs us Q I r h;obtain ⟨n,rfl,q⟩:=h;obtain ⟨u,rfl,t,rfl⟩:=cK r;refine call_range_1 ⟨.ref _,_,I.laid (fun b u e=>AK _ e) (AR _) ?_,rfl,q _ I.fresh⟩;exact ⟨_,_,_,AO _ rfl⟩
theorem FT:∀ (n:Nat) (acc:Array Value),ItemsOf (fun i v=>∃ t,v=Value.int (0+(i:Int)*1) t) acc n->CD (DI (List.range n)) acc.toList:=by
 intro n acc h;obtain ⟨h1,h2⟩:=h;have key:∀ (l:List Value) (k:Nat),(∀ i v,l[i]?=some v->∃ t,v=Value.int ((k+i:Nat):Int) t)->CD (DI (List.range' k l.length)) l:=by
  intro l;induction l with
  | nil=>intro k _;exact .nil
  | cons x l ih=>
   intro k hk;have:=hk 0 x (by simp);refine .cons (show CG (V.int ((k:Nat):Int)) x from by obtain ⟨t,rfl⟩:=this;exact ⟨t,by simp⟩) ?_;exact ih (k+1) fun i v e=>by
    obtain ⟨t,rfl⟩:=hk (i+1) v (by simpa using e);exact ⟨t,by congr 2;lia⟩
 have e:=key acc.toList 0 fun i v e=>by
  obtain ⟨hi,e'⟩:=AN.mp e;have hi':i < acc.size:=by simpa using hi
  have:=h2 i v (by rw [<-Array.getElem?_toList];exact e);obtain ⟨t,ht⟩:=this;exact ⟨t,by rw [ht];congr 1;lia⟩
 rw [A0,h1] at e;rw [List.range_eq_range'];exact e
theorem EA (hc:X.calm=true):bJ X (.type "list") (fun xs H Q=>∃ (p:Addr) (n:Nat),xs=[.ref p]/\H p=some (.rng 0 n)/\n<=100000/\∀ l,H l=none->Q (.ref l) (aB H l (.lst (DI (List.range n))))):=by
 intro Cj s σ H xs us Q I r h;obtain ⟨p,n,rfl,hp,hn,q⟩:=h;obtain ⟨u,rfl,rx⟩:=cK r;cases rx;obtain ⟨t,u,v,e⟩:=I.hok p _ hp;have sz:(100000:Nat)<=sizeLine:=by decide
 refine call_list_range (I.ok.hd hc) e (small_one zo zo zo zo) (n:=n) (by rw [rangeSize_one];split<;>lia) zo fun h' tk acc c k o it=>?_;have vv:=FT n acc it;have hl:(DI (List.range n)).length=n:=by simp [DI]
 refine ⟨.ref _,_,I.laid k (AR _) ?_,rfl,q _ I.fresh⟩;exact ⟨by rw [hl];lia,acc.toList,c,vv,by simpa using o⟩
end
section
variable {prog:Program} {w:World} {A:Around} {R:Result->Shared->Prop} {it ax S:Addr} {vs:List Value} {ns:List Int} {kw:List (Str×Value)}
def G8 (v:Value) (c:Nat):Obj:={ cls:=.type "list",dict:=none,data:=.seq #[v,v] c,slots:=#[] }
def GF (ns:List Int) (m:Int):Prop:=m∈ns/\∀ x∈ns,x<=m
theorem DL:(toString "max"++toString ".loop":String)="max.loop":=by decide
theorem Ec (hi:IntsAre vs ns) (i:Nat) (v:Value) (h:vs.toArray[i]?=some v):∃ t,v=.int (ns.getD i 0) t:=by
 have h':vs[i]?=some v:=by simpa using h
 have hl:=hi.length;have Cu:i < vs.length:=(AN.mp h').1;obtain ⟨t,ht⟩:=hi.get i ns[i] (by simp [show i < ns.length by lia]);rw [h'] at ht;cases ht;exact ⟨t,by simp [List.getD,show i < ns.length by lia]⟩
theorem Gk {l:List Int} {b x:Int} (h:GF l b):GF (l++[x]) (if x > b then x else b):=by
 obtain ⟨h1,h2⟩:=h;by_cases c:x > b
 ·rw [if_pos c];refine ⟨by simp,fun y hy=>?_⟩;rcases BA.mp hy with z|z
  ·have:=h2 y z;lia
  ·have:y=x:=by simpa using z
   lia
 ·rw [if_neg c];refine ⟨BL _ h1,fun y hy=>?_⟩;rcases BA.mp hy with z|z
  ·exact h2 y z
  ·have:y=x:=by simpa using z
   lia
theorem GI (hh:A.handled=none) (Cq:ax≠it) (hS:S∉[it,ax]) (hi:IntsAre vs ns):∀ (k j:Nat) (s:Shared) (b:Int) (t:Tok) (c:Nat),vs.length - j=k->j<=vs.length->GF (ns.take j) b->
  (s.heap.IsListIter it ax j/\s.heap.IsList ax vs.toArray)->s.heap.get? S=some (G8 (.int b t) c)->
  (∀ m t' h' tk,GF ns m->(∀ b o,b≠it->b≠S->s.heap.get? b=some o->h'.get? b=some o)->R (.ok (.ret (.int m t'))) { s with heap:=h',toks:=tk })->codeAny (model prog w) A (.builtin "max.loop" ⟨[.ref it,.none,.ref S],kw⟩) R s:=by
 have W:=Walks.list (prog:=prog) (w:=w) (A:=A.in1) hh it ax Cq vs.toArray;have Ck:=hi.length;have cmp:=CmpOf.ints_gt (prog:=prog) (w:=w) (A:=A.in1) (P:=fun i v=>vs.toArray[i]?=some v) (fun i=>ns.getD i 0) (fun i v h=>Ec hi i v h);have nw:S∉[it]:=fun z=>hS (by simp at z;simp [z]);intro k;induction k with
 | zero=>
  intro j s b t c hk hj hb st oS hR;have ej:j=vs.toArray.size:=by rw [AV];lia
  refine codeAny_builtin F.entry_max_loop ?_;rw [Around.under_plainId F.plain_max_loop _];show wpAny _ A.in1 (seqItems? (.ref S) >>= _) _ _ s;refine wpAny_bind (wpAny_seqItems oS rfl ?_);show wpAny _ A.in1 (tryCatch (pyNext (.ref it)) _ >>= _) _ _ s;refine wpAny_bind (wpAny_tryCatch (W.done s _ _ (ej ▸ st) fun h' tk keep=>?_));have oS':=keep S _ nw oS;show wpAny _ A.in1 (updateSeq S (fun _=>#[]) >>= _) _ _ _;refine wpAny_bind (wpAny_updateSeq oS' rfl (wpAny_bind (wpAny_letGo (wpAny_pure ?_))));rw [Bi zo] at hb;exact hR b t _ tk hb fun a o ha hs e=>(Heap.get?_update_other _ _ (Ne.symm hs)).trans (keep a o (by simpa using ha) e)
 | succ k ih=>
  intro j s b t c hk hj hb st oS hR;have Cu:j < vs.toArray.size:=by rw [AV];lia
  refine codeAny_builtin F.entry_max_loop ?_;rw [Around.under_plainId F.plain_max_loop _];show wpAny _ A.in1 (seqItems? (.ref S) >>= _) _ _ s;refine wpAny_bind (wpAny_seqItems oS rfl ?_);show wpAny _ A.in1 (tryCatch (pyNext (.ref it)) _ >>= _) _ _ s;refine wpAny_bind (wpAny_tryCatch (W.item j s _ _ Cu st fun v h' tk hP st' keep=>?_));have oS':=keep S _ nw oS;obtain ⟨tv,rfl⟩:=Ec hi j v hP;have et:ns.take (j+1)=ns.take j++[ns.getD j 0]:=by
   have:j < ns.length:=by simp at Cu;lia
   rw [By];simp [List.getD,this]
  have hb':=Gk (x:=ns.getD j 0) hb;rw [<-et] at hb';have more:∀ a o,a≠it->a≠S->s.heap.get? a=some o->h'.get? a=some o:=fun a o ha _ e=>keep a o (by simpa using ha) e;show wpAny _ A.in1 (tryCatch (holding [Value.int (ns.getD j 0) tv,.int (ns.getD j 0) tv] (richCompare .Gt (.int (ns.getD j 0) tv) (.int b t) >>= _)) _ >>= _) _ _ _;refine wpAny_bind (wpAny_tryCatch (wpAny_holding (wpAny_bind ?_)));obtain ⟨i,hiN,ei⟩:∃ i,i < ns.length/\ns.getD i 0=b:=by
   obtain ⟨i,h1,h2⟩:=Ca (List.mem_of_mem_take hb.1);exact ⟨i,h1,by simp [List.getD,h1,h2]⟩
  have key:∀ (Q:Value->Shared->Prop) (E:Value->Shared->Prop) (s:Shared),Q (.bool (decide (ns.getD j 0 > b))) s->wpAny (model prog w) A.in1 (richCompare .Gt (.int (ns.getD j 0) tv) (.int b t)) Q E s:=fun Q E s hq=>by
   have c2:=CmpOf.ints_gt (prog:=prog) (w:=w) (A:=A.in1) (P:=fun (i:Nat) v=>v=(if i=0 then Value.int (ns.getD j 0) tv else .int b t)) (fun i=>if i=0 then ns.getD j 0 else b) (fun i v h=>by
    subst h;by_cases z:i=0
    ·exact ⟨tv,by simp [z]⟩
    ·exact ⟨t,by simp [z]⟩)
   exact c2 0 1 _ _ s Q E (by simp) (by simp) (by simpa using hq)
  refine key _ _ _ (wpAny_bind (wpAny_holding (wpAny_truthy_bool (wpAny_bind (wpAny_letGo (wpAny_pure ?_))))));by_cases hgt:ns.getD j 0 > b
  ·rw [if_pos hgt] at hb';rw [if_pos (decide_eq_true hgt)];refine wpAny_bind (wpAny_updateSeq oS' rfl (wpAny_bind (wpAny_letGo ?_)));rw [DL];refine wpAny_pure ⟨plainId_quiet F.plain_max_loop _,ih (j+1) _ (ns.getD j 0) tv _ zo (by simp at Cu;lia) hb' ?_ (Heap.get?_update_self _ oS' rfl) fun m t' g tk' hm kk=>?_⟩
   ·exact W.frame _ _ _ st' fun a ha o e=>(Heap.get?_update_other _ _ (fun z:S=a=>hS (by rw [z];exact ha))).trans e
   ·exact hR m t' g tk' hm fun a o ha hs e=>kk a o ha hs ((Heap.get?_update_other _ _ (Ne.symm hs)).trans (more a o ha hs e))
  ·rw [if_neg hgt] at hb';rw [if_neg (by rw [decide_eq_false hgt];exact AS)];refine wpAny_bind (wpAny_letGo ?_);rw [DL];refine wpAny_pure ⟨plainId_quiet F.plain_max_loop _,ih (j+1) _ b t c zo (by simp at Cu;lia) hb' st' oS' fun m t' g tk' hm kk=>?_⟩;exact hR m t' g tk' hm fun a o ha hs e=>kk a o ha hs (more a o ha hs e)
end
section
variable {prog:Program} {w:World} {A:Around} {R:Result->Shared->Prop} {it ax S:Addr} {vs:List Value} {ns:List Int} {kw:List (Str×Value)}
def GS (c:Nat):Obj:={ cls:=.type "list",dict:=none,data:=.seq #[] c,slots:=#[] }
variable {c:Nat}
theorem Gw (hh:A.handled=none) (Cq:ax≠it) (hS:S∉[it,ax]) (hi:IntsAre vs ns) (h0:0 < vs.length) (st:s.heap.IsListIter it ax 0/\s.heap.IsList ax vs.toArray) (oS:s.heap.get? S=some (GS c))
  (hR:∀ m t' h' tk,GF ns m->(∀ b o,b≠it->b≠S->s.heap.get? b=some o->h'.get? b=some o)->R (.ok (.ret (.int m t'))) { s with heap:=h',toks:=tk }):codeAny (model prog w) A (.builtin "max.loop" ⟨[.ref it,.none,.ref S],kw⟩) R s:=by
 have W:=Walks.list (prog:=prog) (w:=w) (A:=A.in1) hh it ax Cq vs.toArray;have Ck:=hi.length;have nw:S∉[it]:=fun z=>hS (by simp at z;simp [z]);refine codeAny_builtin F.entry_max_loop ?_;rw [Around.under_plainId F.plain_max_loop _];show wpAny _ A.in1 (seqItems? (.ref S) >>= _) _ _ s;refine wpAny_bind (wpAny_seqItems oS rfl ?_);show wpAny _ A.in1 (tryCatch (pyNext (.ref it)) _ >>= _) _ _ s;refine wpAny_bind (wpAny_tryCatch (W.item 0 s _ _ (by simpa using h0) st fun v h' tk hP st' keep=>?_));have oS':=keep S _ nw oS;obtain ⟨tv,rfl⟩:=Ec hi 0 v hP;have e1:GF (ns.take 1) (ns.getD 0 0):=by
  cases ns with
  | nil=>rw [Ck] at h0;exact absurd h0 (by simp)
  | cons n r=>exact ⟨by simp,fun x hx=>by simp at hx;simp [hx]⟩
 show wpAny _ A.in1 (updateSeq S (fun _=>#[Value.int (ns.getD 0 0) tv,.int (ns.getD 0 0) tv]) >>= _) _ _ _;refine wpAny_bind (wpAny_updateSeq oS' rfl ?_);rw [DL];refine wpAny_pure ⟨plainId_quiet F.plain_max_loop _,GI hh Cq hS hi _ 1 _ (ns.getD 0 0) tv _ rfl zo e1 ?_ (Heap.get?_update_self _ oS' rfl) fun m t' g tk' hm kk=>?_⟩
 ·exact W.frame _ _ _ st' fun a ha o e=>(Heap.get?_update_other _ _ (fun z:S=a=>hS (by rw [z];exact ha))).trans e
 ·exact hR m t' g tk' hm fun a o ha hs e=>kk a o ha hs ((Heap.get?_update_other _ _ (Ne.symm hs)).trans (keep a o (by simpa using ha) e))
theorem GJ (hh:A.handled=none) (Cq:ax≠it) (hS:S∉[it,ax]) (nm:Str) (d:Value) (st:s.heap.IsListIter it ax 0/\s.heap.IsList ax #[]) (oS:s.heap.get? S=some (GS c))
  (hR:∀ h' tk,(∀ b o,b≠it->b≠S->s.heap.get? b=some o->h'.get? b=some o)->R (.ok (.ret d)) { s with heap:=h',toks:=tk }):codeAny (model prog w) A (.builtin "max.loop" ⟨[.ref it,.none,.ref S],[(nm,d)]⟩) R s:=by
 have W:=Walks.list (prog:=prog) (w:=w) (A:=A.in1) hh it ax Cq #[];have nw:S∉[it]:=fun z=>hS (by simp at z;simp [z]);refine codeAny_builtin F.entry_max_loop ?_;rw [Around.under_plainId F.plain_max_loop _];show wpAny _ A.in1 (seqItems? (.ref S) >>= _) _ _ s;refine wpAny_bind (wpAny_seqItems oS rfl ?_);show wpAny _ A.in1 (tryCatch (pyNext (.ref it)) _ >>= _) _ _ s;refine wpAny_bind (wpAny_tryCatch (W.done s _ _ st fun h' tk keep=>?_));refine wpAny_bind (wpAny_rule (wpAny_pure ?_));exact hR h' tk fun a o ha hs e=>keep a o (by simpa using ha) e
end
section
variable {prog:Program} {w:World} {A:Around} {E:Value->Shared->Prop} {s:Shared} {vs:List Value} {ns:List Int} {l:Addr} {Q:Value->Shared->Prop}
variable {o:Obj}
theorem G1 (Cu:l < h.objs.size):(h.push o).objs.size∉[h.objs.size,l]:=fun z=>by
 rcases AZ.mp z with z|z
 ·rw [Bb] at z;exact absurd z (Nat.succ_ne_self _)
 ·have z':=AU.mp z;rw [Bb] at z';rw [<-z'] at Cu;exact absurd Cu (Nat.not_lt.mpr (BS _))
theorem Ge (Cu:l < h.objs.size):l≠(h.push o).objs.size:=AW (by rw [Bb];exact Nat.lt_succ_of_lt Cu)
theorem Gi (a v:Value):argsOk "max" ⟨[a],[(Str.ofString "default",v)]⟩:=by unfold argsOk;kernel_rfl
theorem Go {d:Value} (hh:A.handled=none) (hl:s.heap.IsList l vs.toArray) (hi:IntsAre vs ns) (h:∀ m t h' tk,GF ns m->(∀ b o,s.heap.get? b=some o->h'.get? b=some o)->Q (.int m t) { s with heap:=h',toks:=tk })
  (hd:ns=[]->∀ h' tk,(∀ b o,s.heap.get? b=some o->h'.get? b=some o)->Q d { s with heap:=h',toks:=tk }):wpAny (model prog w) A (call (.builtin "max") [.ref l] [(Str.ofString "default",d)]) Q E s:=by
 have Cu:l < s.heap.objs.size:=let ⟨o,e,_⟩:=hl;AQ e;have Ck:=hi.length;refine kmb_tree F.kind_max F.plain_max F.entry_max (Gi _ _) ?_;show wpAny _ A.in1 (Builtin.Builtins.bindParams "max" ["key","default"] 0 ⟨[],[(Str.ofString "default",d)]⟩ >>= _) _ _ s;refine wpAny_bind (wpAny_of_eq (show _=pure [none,some d] from rfl) (wpAny_bind (wpAny_pure (wpAny_bind (wpAny_pyIter_list hl ?_)))));refine wpAny_bind (wpAny_newObj_type ?_);rw [DL];cases ns with
 | nil=>
  have ev:vs=[]:=Ce.mp (by simpa using Ck);subst ev;refine wpAny_pure ⟨plainId_quiet F.plain_max_loop _,GJ hh (AW Cu) (G1 Cu) _ d ⟨⟨_,AK _ (AO _ rfl),rfl,rfl⟩,hl.at fun o e=>AK _ (AK _ e)⟩ (AO _ rfl) fun h' tk kk=>hd rfl h' tk fun b o e=>?_⟩;exact kk b o (AW (AQ e)) (Ge (AQ e)) (AK _ (AK _ e))
 | cons n r=>
  refine wpAny_pure ⟨plainId_quiet F.plain_max_loop _,Gw hh (AW Cu) (G1 Cu) hi (by rw [Ck];simp) ⟨⟨_,AK _ (AO _ rfl),rfl,rfl⟩,hl.at fun o e=>AK _ (AK _ e)⟩ (AO _ rfl) fun m t h' tk hm kk=>h m t h' tk hm fun b o e=>?_⟩;exact kk b o (AW (AQ e)) (Ge (AQ e)) (AK _ (AK _ e))
end
section
variable {X:Cx}
def Gx (X:Cx) (f:Value) (ks:List Str) (r:List V->List V->Hp->VK->Prop):Prop:=
 ∀ (Cj:List (Addr×Obj)) (s:Shared) (σ:St) (H:Hp) (xs zs:List V) (us ws:List Value) (Q:VK),CB X Cj σ H s->CD xs us->CD zs ws->r xs zs H Q->
  wpAny (model X.prog X.w) X.A (call f us (ks.zip ws)) (EP X Cj σ Q) X.xe s
def tCBK (r:List V->List V->Hp->VK->Prop) (t tk:TA):TE:=fun σ H Q=>t σ H fun vs H1=>tk σ H1 fun zs H2=>r vs zs H2 Q
theorem FQ {x:Str} {p pos:Pos} {es:List Expr} {kws:List Keyword} {t tk:TA} {id:String} {ks:List Str} {r:List V->List V->Hp->VK->Prop} (hc:Gx X (.builtin id) ks r) (hg:Gl X x) (hm:X.mg x=none) (hv:bootBuiltins x=some (.builtin id)) (ha:PA X (e::es) t) (hkw:PK X kws tk)
  (hks:(backToKw pos (keywordEach kws X.env)).filterMap (·.1)=ks:=by rfl) (hn:x≠"__name__":=by decide) (hdb:(x == ("__debug__":Str))=false:=by decide)
  (he:backTo pos (starEach (e::es) X.env)=(false,eval e X.env)::backTo pos (starEach es X.env):=by rfl) (hpl:(backTo pos (starEach (e::es) X.env)).any (·.1)=false:=by rfl)
  (hall:(backToKw pos (keywordEach kws X.env)).all (·.1.isSome)=true:=by rfl) (hno:(backToKw pos (keywordEach kws X.env)).any (·.1.isNone)=false:=by rfl):PE X (.Call (.Name x p) (e::es) kws pos) (tCBK r t tk):=by
 refine ⟨fun Cj s σ H Q I h=>?_⟩;refine wpAny_Call_Name_kw (c8 I hg hm hv ?_ hn hdb);refine callWith_kw (bA (ha pos Cj s σ H _ I h) fun us s1 ⟨vs,H1,I1,r1,q1⟩=>?_) he hpl hall hno;refine bA (hkw pos Cj s1 σ H1 _ I1 q1) fun ws s2 ⟨zs,H2,I2,r2,q2⟩=>?_;rw [hks];exact hc Cj s2 σ H2 vs zs us ws Q I2 r1 r2 q2
theorem FO (hc:X.calm=true):Gx X (.builtin "max") ["default"] (fun xs zs H Q=>∃ (l:Addr) (ns:List Int) (d:V),xs=[.ref l]/\zs=[d]/\Cz X.K H l (ns.map V.int)/\(∀ m,GF ns m->Q (.int m) H)/\(ns=[]->Q d H)):=by
 intro Cj s σ H xs zs us ws Q I r rz h;obtain ⟨l,ns,d,rfl,rfl,hS,q,qd⟩:=h;obtain ⟨u,rfl,rx⟩:=cK r;obtain ⟨du,rfl,rd⟩:=cK rz;cases rx;obtain ⟨its,rv,pl,hz⟩:=I.list hS;exact Go (I.ok.hd hc) pl.isList (cm rv) (fun m t h' tk hm k=>⟨.int m,H,I.kept k,⟨t,rfl⟩,q m hm⟩) fun e h' tk k=>⟨d,H,I.kept k,rd,qd e⟩
end
end L2
namespace PySem
open Sem (wp)
def tupIt (l:Addr):Obj:={ cls:=.type "tuple_iterator",data:=.fields #[.ref l,.int 0 0] }
def enumOver (it:Addr):Obj:={ cls:=.type "enumerate",data:=.fields #[.none,.bool false,.ref it,rawInt 0,.none,.none] }
theorem FR (l:Addr) (Cv:Array Value) (n:Nat) (od:Option Addr) (os:Array (Option Value)):Meets (Builtin.«enumerate.__new__» ⟨[.type "enumerate",.ref l],[]⟩) (fun _ R s=>
  s.heap.get? l=some { cls:=.type "tuple",dict:=od,data:=.seq Cv n,slots:=os }/\R (.ok (.ret (.ref (s.heap.push (tupIt l)).objs.size))) { s with heap:=(s.heap.push (tupIt l)).push (enumOver s.heap.objs.size) }):=
 .of_wp fun prog w A R s both=>by
  rcases s with ⟨hp,gs,dr,tk,sys⟩;have there:=both.1;have good:=both.2;have under:=sub_enumerate;have isT:hp.IsTuple l Cv:=⟨_,there,rfl,n,rfl⟩
  wp_walk using wpAny_loadPart' there
  refine wpAny_stack_any fun _=>wpAny_pure ?_;split
  ·rename_i c _ _ _ _ _;rcases hb:(c == Value.type "enumerate") with _|_<;>(wp_walk using wpAny_loadPart' there,wpAny_pyIter_tuple isT;exact ⟨_,rfl,good⟩)
  ·(wp_walk using wpAny_loadPart' there,wpAny_pyIter_tuple isT;exact ⟨_,rfl,good⟩)
section
variable {prog:Program} {w:World} {A:Around} {E:Value->Shared->Prop} {s:Shared}
theorem enum_of_tuple {l:Addr} {Cv:Array Value} {Q:Value->Shared->Prop} (isT:s.heap.IsTuple l Cv)
  (h:Q (.ref (s.heap.objs.size+1)) { s with heap:=(s.heap.push (tupIt l)).push (enumOver s.heap.objs.size) }):wpAny (model prog w) A (call (.type "enumerate") [.ref l]) Q E s:=by
 obtain ⟨o,there,isC,n,isD⟩:=isT;cases o with
 | mk oc od odt osl=>
  dsimp only at isC isD;subst isC isD;have sz:(s.heap.push (tupIt l)).objs.size=s.heap.objs.size+1:=Bb ..;have lies:((s.heap.push (tupIt l)).push (enumOver s.heap.objs.size)).get? (s.heap.objs.size+1)=some (enumOver s.heap.objs.size):=sz ▸ AO (s.heap.push (tupIt l)) rfl;refine callType_new F.called_enumerate zd (F.typeCall_enumerate_1 _) (F.newCall_enumerate_1 _) (fun x=>F.args_object_init_2 x _) F.entry_enumerate_new (FR l Cv n od osl) ⟨there,?_⟩;show _/\_;rw [sz];exact ⟨⟨_,lies,rfl⟩,h⟩
end
section
variable {prog:Program} {w:World} {A:Around} {E:Value->Shared->Prop} {s:Shared}
variable {Cv:Array Value} {i:Nat} {it t:Addr}
theorem DX {x:Value} {Q:Value->Shared->Prop} (hit:s.heap.IsTupleIter it t i) (ht:s.heap.IsTuple t Cv) (hx:Cv[i]?=some x)
  (hQ:∀ h',h'.IsTupleIter it t (i+1)->Heap.SameBut it s.heap h'->Q x { s with heap:=h' }):wpAny (model prog w) A (Builtin.SmallTypes.nextOf (.ref it)) Q E s:=by
 obtain ⟨o,ho,hc,hd⟩:=id hit;obtain ⟨ol,hol,_,nl,hdl⟩:=ht;unfold Builtin.SmallTypes.nextOf;refine wpAny_bind (wpAny_callSpecial?_slot (name:=Str.ofString "__next__") hit.typeIs F.slot_tuple_iterator_next
  (wpAny_call_entry F.slot_tuple_iterator_next hit.typeIs F.entry_tuple_iterator_next ?_ (F.args_tuple_iterator_next_1 _)))
 show wpAny _ _ (field (.ref it) 0 >>= _) _ _ s;refine wpAny_bind (wpAny_field ho hd (x:=.ref t) rfl ?_);show wpAny _ _ (if (Value.ref t == Value.none)=true then _ else _) _ _ s;rw [if_neg (show ¬ ((Value.ref t == Value.none)=true) from AS)];show wpAny _ _ (field (.ref it) 1 >>= _) _ _ s;refine wpAny_bind (wpAny_field ho hd (x:=.int i 0) rfl ?_);show wpAny _ _ (seqItems? (.ref t) >>= _) _ _ s;refine wpAny_bind (wpAny_seqItems hol hdl ?_);simp only [A1,hx];refine wpAny_bind (wpAny_setField ho hd (by simp) (wpAny_pure ⟨x,rfl,wpAny_pure (hQ _ ?_ (Heap.SameBut.update ..))⟩));exact ⟨_,Heap.get?_update_self _ ho (Obj.isFreed_of_fields (Obj.data_mapFields hd _)),(Obj.cls_mapFields ..).trans hc,by
  rw [Obj.data_mapFields hd];simp [rawInt]⟩
theorem nextOf_tuple_end {Q:Value->Shared->Prop} (hh:A.handled=none) (hit:s.heap.IsTupleIter it t i) (ht:s.heap.IsTuple t Cv) (hx:Cv[i]?=none)
  (hE:∀ h' e,Heap.ExtBut it s.heap h'->(∃ o,h'.get? e=some o/\o.cls=.type "StopIteration")->E (.ref e) { s with heap:=h' }):wpAny (model prog w) A (Builtin.SmallTypes.nextOf (.ref it)) Q E s:=by
 obtain ⟨o,ho,hc,hd⟩:=id hit;obtain ⟨ol,hol,_,nl,hdl⟩:=ht;unfold Builtin.SmallTypes.nextOf;refine wpAny_bind (wpAny_callSpecial?_slot (name:=Str.ofString "__next__") hit.typeIs F.slot_tuple_iterator_next
  (wpAny_call_entry F.slot_tuple_iterator_next hit.typeIs F.entry_tuple_iterator_next ?_ (F.args_tuple_iterator_next_1 _)))
 show wpAny _ _ (field (.ref it) 0 >>= _) _ _ s;refine wpAny_bind (wpAny_field ho hd (x:=.ref t) rfl ?_);show wpAny _ _ (if (Value.ref t == Value.none)=true then _ else _) _ _ s;rw [if_neg (show ¬ ((Value.ref t == Value.none)=true) from AS)];show wpAny _ _ (field (.ref it) 1 >>= _) _ _ s;refine wpAny_bind (wpAny_field ho hd (x:=.int i 0) rfl ?_);show wpAny _ _ (seqItems? (.ref t) >>= _) _ _ s;refine wpAny_bind (wpAny_seqItems hol hdl ?_);simp only [A1,hx];refine wpAny_bind (wpAny_rule (wpAny_bind (wpAny_setField ho hd (by simp) ?_)));show wpAny _ _ (newExc (.type "StopIteration") [] >>= _) _ _ _;refine wpAny_bind ?_;simp only [newExc,newTuple];refine wpAny_bind (wpAny_newObj_type ?_ (by size_fits));refine wpAny_bind (m:=firstArgMember _ _) (wpAny_of_eq (a:=Value.none) (by first|rfl|(simp only [firstArgMember];rfl)) ?_);refine wpAny_newObj_type ?_ (by size_fits);simp only [raiseNew];refine wpAny_bind (wpAny_handled ?_);first|rw [show A.in1.handled=none from hh]|rw [hh]
 refine wpAny_bind (wpAny_pure (wpAny_throw ?_));exact hE _ _ (((Heap.SameBut.update ..).extBut.push _).push _) ⟨_,AO _ rfl,rfl⟩
end
theorem drawsTuple {prog:Program} {w:World} {A:Around} (hh:A.handled=none) (it l:Addr) (Cq:l≠it) (Cv:Array Value) :
  Draws prog w A it [it,l] Cv.size (fun i v=>Cv[i]?=some v) (fun i h=>h.IsTupleIter it l i/\h.IsTuple l Cv) where
 live:=fun _ _ st=>let ⟨o,ho,_⟩:=st.1;⟨o,ho⟩
 frame:=fun _ _ _ st hk=>⟨let ⟨o,ho,r⟩:=st.1;⟨o,hk it (by simp) o ho,r⟩,let ⟨o,ho,r⟩:=st.2;⟨o,hk l (by simp) o ho,r⟩⟩
 item:=fun i s Q E hi st hQ=>by
  refine DX st.1 st.2 (x:=Cv[i]) (by simp [hi]) fun h' hit' hs'=>?_;exact hQ _ h' s.toks (by simp [hi]) ⟨hit',st.2.extBut hs'.extBut Cq⟩ hs'
 done:=fun s Q E st hE=>nextOf_tuple_end hh st.1 st.2 (by simp) hE
end PySem
namespace L2
open PySem PySem.Spec PyProof.Rows
variable {i:Nat} {it l:Addr} {h h':Heap}
theorem xK (a:h.IsTupleIter it l i) (k:∀ o,h.get? it=some o->h'.get? it=some o):h'.IsTupleIter it l i:=let ⟨o,b,c⟩:=a;⟨o,k o b,c⟩
variable {Cv:Array Value}
theorem vh (t:h.IsTuple l Cv) (a:h.IsTupleIter it l i):l≠it:=by
 rintro rfl;obtain ⟨o,x,c,_⟩:=t;obtain ⟨o',x',c',_⟩:=a;rw [x] at x';cases x';rw [c] at c';injection c' with z;exact absurd z zd
variable {e:Addr}
theorem pK {prog:Program} {w:World} {A:Around} {E:Value->Shared->Prop} {s:Shared} {old:Value} {Q:Option Value->Shared->Prop} (hh:A.handled=none) (he:IsEnum s.heap e it i old) (h1:s.heap.IsTupleIter it l i) (isT:s.heap.IsTuple l Cv) (hi:Cv.size<=i)
  (hQ:∀ h',Heap.ExtBut it s.heap h'->Q none { s with heap:=h' }):wpAny (model prog w) A (pyNext (.ref e)) Q E s:=by
 have hT:s.TypeIs (.ref e) "enumerate":=⟨_,he,rfl⟩;unfold pyNext;refine wpAny_bind (wpAny_attempt (wpAny_callSpecial?_slot (name:=Str.ofString "__next__") hT PySem.F.slot_enumerate_next (wpAny_call_entry PySem.F.slot_enumerate_next hT PySem.F.entry_enumerate_next ?_ (PySem.F.args_enumerate_next_1 _))));show wpAny _ _ (field (.ref e) 2 >>= _) _ _ _;refine wpAny_bind (wpAny_field he rfl (x:=.ref it) rfl ?_);refine wpAny_bind (PySem.nextOf_tuple_end hh h1 isT (Array.getElem?_eq_none hi) fun h' x he' hx'=>?_);obtain ⟨o,ho,hc⟩:=hx';refine wpAny_bind (wpAny_isInstance (T:="StopIteration") (b:=true) ⟨o,ho,hc⟩ isSubtype_stop ?_);exact wpAny_pure (hQ _ he')
def rq (K:ZF) (l:Addr):It:=
 ⟨fun i H=>∃ xs x,CI K H l xs/\xs[i]?=some x,
  fun i H v H'=>∃ T x,v=.ref T/\H T=none/\H'=aB H T (.tup [.int i,x])/\∀ xs,CI K H l xs->xs[i]?=some x,
  fun i H=>∃ xs,CI K H l xs/\xs.length<=i⟩
theorem mL {P:Program} {w:World} {K:ZF} {elts:List Expr} {kt:Nat} {tp:Pos} {e it l:Addr} (Cq:e≠it) :
  jW P w K (.Tuple elts kt tp) (rq K l) [e,it] e (fun i h=>(∃ old,IsEnum h e it i old)/\h.IsTupleIter it l i) where
 mem:=by simp
 obj:=fun i h st b hb=>by
  obtain ⟨⟨old,he⟩,⟨o1,h1,_,d1⟩⟩:=st;simp at hb;rcases hb with rfl|rfl
  ·exact ⟨_,he,fun v q=>by cases q⟩
  ·exact ⟨_,h1,fun v q=>by rw [d1] at q;cases q⟩
 keep:=fun i h h' st k=>by
  obtain ⟨⟨old,he⟩,h1⟩:=st;exact ⟨⟨old,k e (by simp) _ he⟩,xK h1 fun o q=>k it (by simp) o q⟩
 item:=by
  intro X hP hw hK hc i Cj s σ H E I hf st hg;subst hP hw hK;obtain ⟨xs,x,hx,ex⟩:=hg;obtain ⟨⟨old,he⟩,h1⟩:=st;obtain ⟨its1,rv1,p1,z1⟩:=I.tuple hx;obtain ⟨u1,eu1,ru1⟩:=rv1.get ex;have isT:s.heap.IsTuple l its1.toArray:=let ⟨o,a,b,n,c⟩:=p1;⟨o,a,b,n,c⟩;have nl:l≠it:=vh isT h1;have ne2:e∉[it,l]:=by
   intro m;simp only [AZ,BN,or_false] at m;rcases m with m|m
   ·exact Cq m
   ·subst m;obtain ⟨o,a,b,_⟩:=isT;rw [show s.heap.get? e=_ from he] at a;cases a;injection b with z;exact absurd z zd
  have Cu:i < its1.toArray.size:=by
   have:=(AN.mp eu1).1;simpa using this
  refine wpAny_pyNext_enum_itemD (PySem.drawsTuple (A:=X.A.in1) (show X.A.in1.handled=none from I.ok.hd hc) it l nl its1.toArray) he ⟨h1,isT⟩ Cu Cq ne2 fun v h' tk px a1 a2' a3 a4 a5=>⟨_,rfl,?_⟩;have evu:v=u1:=by
   have e2:its1.toArray[i]?=some u1:=by simpa using eu1
   rw [e2] at px;exact (Be px).symm
  subst evu;have a2:=a2'.1;refine wpAny_letOwnedTupleGo_enum a1 fun h'' b1 b2=>?_;have hT:H s.heap.objs.size=none:=I.hok.fresh (AR _);have low:∀ b o,s.heap.get? b=some o->b≠s.heap.objs.size:=fun b o q=>AW (AQ q);refine ⟨.ref s.heap.objs.size,aB H s.heap.objs.size (.tup [.int i,x]),?_,rfl,⟨s.heap.objs.size,x,rfl,hT,rfl,fun xs' h=>by rw [I.tuple_inj h hx];exact ex⟩,?_,fun b hb=>?_⟩
  ·show CB X Cj σ (aB H s.heap.objs.size (.tup [.int i,x])) { s with heap:=h'',toks:=tk+1 };refine CB.turnedS (s:=s) (h':=h'') (t':=tk+1) (ch:=[e,it]) I (fun b hb=>hf b hb) (fun b o hc q=>?_) (fun b o q=>by rw [az (aD q hT)];exact q) (fun b hb n=>by rw [az (AW hb)];exact n) fun b o n q=>?_
   ·simp at hc;exact b2.extBut b o hc.1 (a5 b o hc.1 hc.2 q)
   ·by_cases eb:b=s.heap.objs.size
    ·subst eb;rw [af] at q;cases q;refine ⟨CM,[.int i tk,v],.cons ⟨_,rfl⟩ (.cons ru1 .nil),_,b2.extBut _ _ ?_ a3,rfl,_,rfl⟩;exact fun z=>low e _ he z.symm
    ·rw [az eb,n] at q;cases q
  ·refine ⟨⟨_,b1⟩,xK a2 fun o q=>b2.extBut _ o Cq.symm q⟩
  ·have n:=(hf b hb).1;have:b≠s.heap.objs.size:=by
    simp at hb;obtain ⟨_,q1,_⟩:=id h1;rcases hb with rfl|rfl
    ·exact low _ _ he
    ·exact low _ _ q1
   rw [az this];exact n
 done:=by
  intro X hP hw hK hc i Cj s σ H E I hf st hg;subst hP hw hK;obtain ⟨xs,hx,hl⟩:=hg;obtain ⟨⟨old,he⟩,h1⟩:=st;obtain ⟨its1,rv1,p1,z1⟩:=I.tuple hx;have e1:=rv1.length;have isT:s.heap.IsTuple l its1.toArray:=let ⟨o,a,b,n,c⟩:=p1;⟨o,a,b,n,c⟩;have nl:l≠it:=vh isT h1;refine pK (I.ok.hd hc) he h1 isT (by simp;lia) fun h' k=>⟨rfl,?_⟩;obtain ⟨f0,f1,f2,f3,f4,f5⟩:=hf it (by simp);exact I.turned (t':=s.toks) (fun b o hb q=>k b o hb q) f0 f1 f3 f4 f5
 self:=fun _ _ _ _ _ st h=>wpAny_pyIter_enum st.1.choose_spec h
section
variable {X:Cx}
inductive oy (K:ZF) (R:It->Hp->Prop) (vs:List V) (H1:Hp):Prop
 | mk (l:_):vs=[.ref l]->(∃ xs,CI K H1 l xs)->R (rq K l) H1->oy K R vs H1
def rB (K:ZF) (ta:TA):TI:=fun σ H R=>ta σ H fun vs H1=>oy K R vs H1
theorem rC {elts:List Expr} {kt:Nat} {tp:Pos} {a:Expr} {ta:TA} {p pos:Pos} (hg:Gl X "enumerate") (hm:X.mg "enumerate"=none) (ha:PA X [a] ta) (hs:starEach [a] X.env=[(false,eval a X.env)]:=by rfl) :
  PI X (.Tuple elts kt tp) (.Call (.Name "enumerate" p) [a] [] pos) (rB X.K ta):=by
 refine ⟨?_⟩;intro Cj s σ H R I h;refine Call_ (c8 I hg hm EK (Bz (bA (ha pos Cj s σ H _ I h) fun us s1 ⟨vs,H1,I1,r1,q1⟩=>?_) hs rfl));obtain ⟨l,e,⟨xs,hx⟩,q⟩:=q1;subst e;cases r1 with
 | cons r rr=>
  cases rr;cases r;obtain ⟨its1,rv1,p1,z1⟩:=I1.tuple hx;have isT:s1.heap.IsTuple l its1.toArray:=let ⟨o,a,b,n,c⟩:=p1;⟨o,a,b,n,c⟩;refine PySem.enum_of_tuple isT ?_;have sz:(s1.heap.push (PySem.tupIt l)).objs.size=s1.heap.objs.size+1:=Bb ..;have a1:IsEnum ((s1.heap.push (PySem.tupIt l)).push (PySem.enumOver s1.heap.objs.size)) (s1.heap.objs.size+1) s1.heap.objs.size 0 .none:=sz ▸ AO (s1.heap.push (PySem.tupIt l)) rfl;have a2:((s1.heap.push (PySem.tupIt l)).push (PySem.enumOver s1.heap.objs.size)).IsTupleIter s1.heap.objs.size l 0:=⟨_,AK _ (AO _ rfl),rfl,rfl⟩;have a4:∀ b o,s1.heap.get? b=some o->((s1.heap.push (PySem.tupIt l)).push (PySem.enumOver s1.heap.objs.size)).get? b=some o:=fun b o x=>AK _ (AK _ x);refine wpAny_pyIter_enum a1 ?_;refine ⟨_,[s1.heap.objs.size+1,s1.heap.objs.size],_,_,H1,rfl,I1.kept (t':=s1.toks) a4,mL (BV (BI _)),⟨⟨_,a1⟩,a2⟩,fun b hb=>?_,q⟩;have hb':s1.heap.objs.size<=b:=by
   simp only [AZ,BN,or_false] at hb;rcases hb with e|e<;>rw [e]
   ·exact Nat.le_add_right _ _
   ·exact AR _
  exact I1.fpOk hb' (I1.hok.fresh hb')
end
theorem pL {K:ZF} {xs:List V} {g:TG} {tb:TS} {D:eX} {σ:St} {H:Hp} (Pv:Nat->St->Hp->Prop) (h0:Pv 0 σ H) (hl:∀ i σ H,i<=xs.length->Pv i σ H->CI K H l xs)
  (hs:∀ i x σ H T,xs[i]?=some x->H T=none->Pv i σ H->g (.ref T) σ (aB H T (.tup [.int i,x])) fun σ2 H2=>tb { D with nx:=Pv (i+1),ct:=Pv (i+1),bk:=D.nx } σ2 H2) (hd:∀ σ H,Pv xs.length σ H->D.nx σ H) :
  ∃ W:Nat->Nat->St->Hp->Prop,(∃ m,W 0 m σ H)/\∀ i m σ H,W i m σ H->
   ((rq K l).stop i H/\D.nx σ H)\/((rq K l).go i H/\∃ N:St->Hp->Prop,(∀ σ' H',N σ' H'->∃ m',m' < m/\W (i+1) m' σ' H')/\∀ x H',(rq K l).yld i H x H'->g x σ H' fun σ2 H2=>tb { D with nx:=N,ct:=N,bk:=D.nx } σ2 H2):=by
 refine ⟨fun i m σ H=>m=xs.length - i/\i<=xs.length/\Pv i σ H,⟨xs.length,by simp,Bv _,h0⟩,?_⟩;rintro i m σ H ⟨rfl,hi,p⟩;have q:=hl i σ H hi p;by_cases Cu:i < xs.length
 ·refine .inr ⟨⟨xs,xs[i],q,by simp [Cu]⟩,Pv (i+1),fun σ' H' p'=>⟨xs.length - (i+1),zo,rfl,Cu,p'⟩,fun v H' y=>?_⟩;obtain ⟨T,x,e1,hT,e2,hy⟩:=y;subst e1 e2;exact hs i x σ H T (hy xs q) hT p
 ·have e:i=xs.length:=by lia
  subst e;exact .inl ⟨⟨xs,q,AR _⟩,hd σ H p⟩
end L2
namespace L3
open PySem L2
def cG (i:Nat):Stmt:=PySem.Challenge.pw_rowsbeneath_k26_packings_and_chains_chec.main.body.getD i (.Pass ⟨0,0,0,0⟩)
abbrev j3:Stmt:=cG 2
abbrev ia:Stmt:=cG 3
abbrev vP:Stmt:=cG 15
abbrev j6:Stmt:=cG 35
abbrev mM:Stmt:=cG 36
abbrev mN:Stmt:=cG 37
abbrev vQ:Stmt:=cG 38
abbrev j7:Stmt:=cG 39
abbrev j8:Stmt:=cG 40
abbrev j9:Stmt:=cG 53
abbrev rD:Stmt:=cG 55
abbrev ka:Stmt:=cG 56
abbrev rE:Stmt:=cG 57
abbrev iB:Stmt:=cG 58
abbrev rF:Stmt:=cG 59
abbrev mO:Stmt:=cG 60
abbrev lu:Stmt:=cG 73
abbrev mP:Stmt:=cG 17
abbrev fI:Stmt:=cG 18
abbrev kb:Stmt:=cG 19
abbrev kc:Stmt:=cG 20
abbrev ke:Stmt:=cG 61
abbrev dA:Stmt:=cG 62
abbrev eJ:Stmt:=cG 63
abbrev iC:Stmt:=cG 64
def Fn (P:Program) (w:World) (K:ZF) (mg:Str->Option Value) (base:Heap) (x:Str) (k:Nat) (ps:List Str) (sp:Sp):Prop:=
 ∃ (f:Addr) (fd:FuncData),mg x=some (.ref f)/\PySem.W.keepIn K (.ref f)=true/\Dv K fd ps []/\aT P w K mg base bT k f fd ps sp
def Aw (sp:Sp) (t:TA):TE:=fun σ H Q=>t σ H fun vs H1=>sp vs H1 Q E0
variable {sp:Sp} {x:Str} {X:Cx}
theorem ap {k:Nat} {ps:List Str} {p pos:Pos} {e:Expr} {es:List Expr} {t:TA} (h:Fn X.prog X.w X.K X.mg X.base x k ps sp) (hr:CY k X.A) (hg:Gl X x) (ha:PA X (e::es) t) (hdb:(x == ("__debug__":Str))=false:=by decide)
  (he:starEach (e::es) X.env=(false,eval e X.env)::starEach es X.env:=by rfl) (hpl:(backTo pos (starEach es X.env)).any (·.1)=false:=by rfl):PE X (.Call (.Name x p) (e::es) [] pos) (Aw sp t):=by
 obtain ⟨f,fd,hm,hk,hb,F⟩:=h;refine ⟨?_⟩;intro Cj s σ H Q I q;have ha':PA X (e::es) t:=ha;refine tW (dvs:=[]) (E:=E0) F hr hg hm hk hb .nil dZ ha' hdb he hpl Cj s σ H Q I ?_;show t σ H fun vs H1=>sp (vs++[]) H1 Q E0;have e2:(fun vs H1=>sp (vs++[]) H1 Q E0)=fun vs H1=>sp vs H1 Q E0:=by
  funext vs H1;rw [Ba]
 rw [e2];exact q
theorem vR {k:Nat} {p pos:Pos} (h:Fn X.prog X.w X.K X.mg X.base x k [] sp) (hr:CY k X.A) (hg:Gl X x) (hdb:(x == ("__debug__":Str))=false:=by decide):PE X (.Call (.Name x p) [] [] pos) (fun _ H Q=>sp [] H Q E0):=by
 obtain ⟨f,fd,hm,hk,hb,F⟩:=h;refine ⟨?_⟩;intro Cj s σ H Q I q;exact q0 (dvs:=[]) (E:=E0) F hr hg hm hk hb .nil dZ hdb Cj s σ H Q I q
variable {o:HO} {p:Addr} {H:Hp}
theorem ae (h:H p=none):Cw H (aB H p o):=fun b u e=>by rw [az (aD e h)];exact e
theorem nw {H H':Hp} {a:Addr} {o:HO} (n:H a=none) (z:aB H a o=H'):Cw H H'/\H' a=some o:=z ▸ ⟨ae n,af⟩
variable {H2:Hp}
theorem ak (hp:H p=none) (s:Cw H H2):Cw H (aB H2 p o):=fun b u e=>by rw [az (aD e hp)];exact s b u e
variable {b:Bool} {A B:Prop}
theorem bp (e:b=false) (h:B):if b=true then A else B:=by rw [e];exact cb h
theorem db (e:b=true) (h:A):if b=true then A else B:=by rw [e];exact bM h
theorem bE:bootBuiltins "isinstance"=some (.builtin "isinstance"):=by decide +kernel
theorem cg:bootBuiltins "list"=some (.type "list"):=by decide +kernel
theorem jF:bootBuiltins "str"=some (.type "str"):=by decide +kernel
theorem dM:bootBuiltins "bool"=some (.type "bool"):=by decide +kernel
theorem bO:bootBuiltins "tuple"=some (.type "tuple"):=by decide +kernel
theorem eK:bootBuiltins "all"=some (.builtin "all"):=by decide +kernel
structure Bl (mg:Str->Option Value):Prop where
 len:mg "len"=none
 int:mg "int"=none
 max:mg "max"=none
 min:mg "min"=none
 range:mg "range"=none
 isinstance:mg "isinstance"=none
 list:mg "list"=none
 str:mg "str"=none
 bool:mg "bool"=none
 tuple:mg "tuple"=none
 all:mg "all"=none
def vS (x y z:Int):HO:=.lst [.int x,.int y,.int z]
def CW (H:Hp) (p:Addr):Prop:=∃ x y z:Int,H p=some (vS x y z)
def Dy (p:Addr) (H H':Hp):Prop:=∀ b o,H b=some o->b≠p->H' b=some o
theorem Dy.refl (p:Addr) (H:Hp):Dy p H H:=fun _ _ e _=>e
variable {H1:Hp}
theorem Dy.trans (a:Dy p H H1) (b:Dy p H1 H2):Dy p H H2:=fun c o e n=>b c o (a c o e n) n
theorem Dy.same (a:Dy p H H1) (b:Cw H1 H2):Dy p H H2:=fun c o e n=>b c o (a c o e n)
theorem rG (b:Cw H H1):Dy p H H1:=fun c o e _=>b c o e
theorem CW.same (a:CW H p) (b:Cw H H1):CW H1 p:=let ⟨x,y,z,e⟩:=a;⟨x,y,z,b _ _ e⟩
theorem CW.ne {p q:Addr} (a:CW H p) (h:H q=none):p≠q:=let ⟨_,_,_,e⟩:=a;aD e h
inductive mQ (K:ZF) (vs:List V) (H:Hp) (Q:VK) (Z3:XK):Prop
 | mk (a:Addr) (ns:List Int) (k:Int):vs=[.ref a,.int k]->Cz K H a (ns.map V.int)->0<=k->(∀ c:Int,Q (.int c) H)->mQ K vs H Q Z3
inductive iD (vs:List V) (H:Hp) (Q:VK) (Z3:XK):Prop
 | mk (c:Int):vs=[.int c]->(∀ (p:Addr) H',H p=none->Cw H H'->CW H' p->Q (.ref p) H')->iD vs H Q Z3
inductive dq (vs:List V) (H:Hp) (Q:VK) (Z3:XK):Prop
 | mk (p:Addr) (m:Nat):vs=[.ref p,.int m]->CW H p->0 < m->m < 18446744073709551616->(∀ (r:Nat) H',r < m->CW H' p->Dy p H H'->Q (.int r) H')->dq vs H Q Z3
variable {P:Program} {w:World} {K:ZF} {mg:Str->Option Value} {base:Heap} {C fi aS aE aF aO:Addr} {t1 t2 t3 t4 t5 tM:Tok}
theorem vT:ar ["_law_script","_law_k"] ["_law_script","_law_k"] (aj rD):=cE zk
variable {fd:FuncData} {f:Addr}
theorem uh (F:C7 K "_law_cell" "_law_cell" rD f fd) (T:Bl mg):aT P w K mg base bT 1 f fd ["_law_script","_law_k"] (mQ K):=by
 have ZZ:=vT
 walk_at "o"
 ·obtain ⟨a,ns,k,rfl,hS,h0,q⟩:=h;refine ⟨_,ah (aN (aC jw (pv 1) (ao aw (by rfl) T.len A4 (aa (pv 0) ab))) (ai (al (aq aG (pv 0) (pv 1)))) aA)
   (ai (al (aK bZ (aK fc ag (pv 1)) ag))),?_⟩
  refine ⟨_,rfl,_,rfl,a,_,rfl,.inl hS,_,_,rfl,rfl,_,rfl,?_⟩;refine bz (fun h=>?_) (fun h=>?_)
  ·have hl:k < ((ns.map V.int).length:Int):=of_decide_eq_true h;rw [AM] at hl;obtain ⟨n,rfl⟩:∃ n:Nat,k=n:=⟨k.toNat,zo⟩;have hn:n < ns.length:=by lia
   refine ⟨_,rfl,_,rfl,a,_,_,_,rfl,rfl,hS,a8 (v:=.int ns[n]) (by simp [hn]),q _⟩
  ·exact ⟨_,rfl,_,_,rfl,rfl,.inl ⟨zd,zd⟩,_,_,rfl,rfl,q _⟩
theorem rH:ar ["_law_cell_here"] ["_law_cell_here"] (aj ka):=cE zk
theorem pM (F:C7 K "_law_stream" "_law_stream" ka f fd) (T:Bl mg):aT P w K mg base bT 1 f fd ["_law_cell_here"] iD:=by
 have ZZ:=rH
 walk_at "o"
 ·obtain ⟨c,rfl,q⟩:=h;refine ⟨_,ai (al (au (aa (aK fc (pv 0) (bm pq (by rfl) T.int B5 (aa (cH qR (pv 0) (aK vJ ag ag)) ab)))
   (aa (aK gn (pv 0) ag) (aa ag ab))))),?_⟩
  refine ⟨_,rfl,_,rfl,_,_,rfl,rfl,⟨zd,zd,zd⟩,_,_,rfl,rfl,.inr ⟨_,rfl,?_⟩⟩;refine ⟨_,_,rfl,rfl,.inr (by split<;>decide),_,rfl,_,_,rfl,rfl,(by show (0:Int) < 2147483629;decide),CM,fun l hl=>?_⟩;exact q l _ hl (ae hl) ⟨_,_,_,af⟩
theorem ER:ar ["_law_stream_here","_law_many","_law_digit","_law_number"] ["_law_stream_here","_law_many"] (aj rE):=cE zk
theorem lv {n m:Int} (hm:0 < m) (h:m < 2 ^ 64):-(2 ^ 64) < n % m/\n % m < 2 ^ 64:=by
 have:=Int.emod_nonneg n (show m≠0 by lia);have:=Int.emod_lt_of_pos n hm;lia
theorem ui (F:C7 K "_law_take" "_law_take" rE f fd):aT P w K mg base bT 1 f fd ["_law_stream_here","_law_many"] dq:=by
 have ZZ:=ER
 walk_at "o"
 ·obtain ⟨p,m,rfl,⟨x,y,z,hp⟩,m0,m1,q⟩:=h;have fin:∀ (e x' y' z':Int) H1,0<=e->e < m->Dy p H H1->Q (.int e) (aB H1 p (vS x' y' z')):=fun e x' y' z' H1 h0 h1 b=>by
   have:=q e.toNat (aB H1 p (vS x' y' z')) zo ⟨_,_,_,af⟩ (fun c o e n=>by rw [az n];exact b c o e n);rw [Int.toNat_of_nonneg h0] at this;exact this
  have b1:∀ o,Dy p H (aB H p o):=fun o c u e n=>by rw [az n];exact e
  refine ⟨_,ah (aN (aC qQ (aq aG (pv 0) ag) ag)
    (ah (eY (i:=2) ER.nd (aK gn (aq aG (pv 0) ag) (pv 1)))
    (ah (jV (aK Ga (aq aG (pv 0) ag) (pv 1)) (im (pv 0) ag dY))
    (ai (al (pv 2))))) aA)
   (ah (jV (aK bZ (aq aG (pv 0) ag) ag) (im (pv 0) ag dY))
   (ah (eY (i:=3) ER.nd (aK gn (aK bZ (aK fc (aK bZ (aq aG (pv 0) ag) (aK fc ag (aq aG (pv 0) ag))) ag) ag) ag))
   (ah (eY (i:=3) ER.nd (aK gn (aK fc (pv 3) (pv 3)) ag))
   (ai (al (aK gn (aK tQ (aK gn (aK bZ (aK fc (pv 3) (pv 3)) (aK fc ag (aq aG (pv 0) ag))) ag) ag) (pv 1))))))),?_⟩
  refine ⟨_,rfl,p,_,_,_,rfl,rfl,Cz.of hp,rfl,_,_,rfl,rfl,_,rfl,?_⟩;refine bz (fun h=>?_) (fun h=>?_)
  ·refine ⟨_,rfl,p,_,_,_,rfl,rfl,Cz.of hp,rfl,_,rfl,_,_,rfl,rfl,(by show (0:Int) < (m:Int);lia),?_⟩;refine ⟨_,rfl,p,_,_,_,rfl,rfl,Cz.of hp,rfl,_,rfl,_,_,rfl,rfl,⟨by show (0:Int) < (m:Int);lia,by show (m:Int) < 18446744073709551616;lia⟩,?_⟩;refine ⟨_,rfl,p,_,_,_,rfl,rfl,hp,rfl,?_⟩;refine ⟨_,rfl,?_⟩;exact fin _ _ _ _ _ (Int.emod_nonneg _ zo) (Int.emod_lt_of_pos _ zo) (Dy.refl _ _)
  ·refine ⟨_,rfl,p,_,_,_,rfl,rfl,Cz.of hp,rfl,_,_,rfl,rfl,?_⟩;refine ⟨_,rfl,p,_,_,_,rfl,rfl,hp,rfl,?_⟩;refine ⟨_,rfl,p,_,_,_,rfl,rfl,Cz.of af,rfl,_,rfl,p,_,_,_,rfl,rfl,Cz.of af,rfl,_,_,rfl,rfl,.inl ⟨zd,zd⟩,_,_,rfl,rfl,_,_,rfl,rfl,.inr ⟨zd,zd⟩,_,_,rfl,rfl,_,_,rfl,rfl,(by show (0:Int) < 2147483647;decide),?_⟩;refine ⟨_,rfl,_,rfl,_,_,rfl,rfl,.inl (lv zd zd),_,_,rfl,rfl,(by show (0:Int) < 2147483629;decide),?_⟩;refine ⟨_,rfl,_,rfl,_,_,rfl,rfl,.inl (lv zd zd),_,rfl,p,_,_,_,rfl,rfl,Cz.of af,rfl,_,_,rfl,rfl,.inl ⟨zd,zd⟩,_,_,rfl,rfl,_,_,rfl,rfl,(by show (0:Int) < 2147483587;decide),_,_,rfl,rfl,⟨zd,zd⟩,_,rfl,_,_,rfl,rfl,(by show (0:Int) < (m:Int);lia),?_⟩;exact fin _ _ _ _ _ (Int.emod_nonneg _ zo) (Int.emod_lt_of_pos _ zo) (Dy.refl _ _)
theorem zp (x:V) (ys:List V):mv (x::ys) 0=some x:=a8 (j:=0) rfl
theorem xL (a b:Int):decide (V.int a=V.int b)=decide (a=b):=by
 by_cases h:a=b
 ·subst h;simp
 ·have:V.int a≠V.int b:=fun z=>h (V.int.inj z);simp [h,this]
theorem zq (a b:Str):decide (V.str a=V.str b)=decide (a=b):=by
 by_cases h:a=b
 ·subst h;simp
 ·have:V.str a≠V.str b:=fun z=>h (V.str.inj z);simp [h,this]
variable {n:Str} {m:Nat} {us:List V}
theorem mw (h:us.length+1=m):(decide (us.length+1=m) && decide (n=n))=true:=by simp [h]
theorem gZ {n w:Str} (h:decide (n=w)=false):(decide (us.length+1=m) && decide (n=w))=false:=by rw [h,Bool.and_false]
structure xm (K:ZF) (mg:Str->Option Value) (w:World) (aO:Addr) (t1 t2 t3 t4:Tok) (fs:Str->V):Prop where
 inner:mg "HIGHEST_INNER"=some (.int 7 t1)
 word:mg "HIGHEST_WORD"=some (.int 16777215 t2)
 field:mg "HIGHEST_FIELD"=some (.int 2 t3)
 sel:mg "HIGHEST_SELECTED"=some (.int 3 t4)
 ops:mg "OPS"=some (.ref aO)
 dict:hZ w K aO [("+",fs "+"),("-",fs "-"),("&",fs "&"),("|",fs "|"),("^",fs "^"),("<<",fs "<<"),(">>",fs ">>"),("<",fs "<"),("=",fs "=")]
 lo:(aO == sysModules)=false
def EE:List Str:=["+","-","&","|","^","<<",">>","<","="]
inductive kf (vs:List V) (H:Hp) (Q:VK) (Z3:XK):Prop
 | mk (i:Int):vs=[.int i]->Q (.bl true) H->kf vs H Q Z3
inductive dB (vs:List V) (H:Hp) (Q:VK) (Z3:XK):Prop
 | mk (i lo hi:Int):vs=[.int i,.int lo,.int hi]->lo<=i->i<=hi->Q (.bl true) H->dB vs H Q Z3
def vi:Sp:=fun vs H Q _=>vs=[]/\∀ p,H p=none->Q (.ref p) (aB H p (.lst (EE.map V.str)))
inductive eh (vs:List V) (H:Hp) (Q:VK) (Z3:XK):Prop
 | mk (p:Addr) (n w:Str) (us:List V) (m:Nat):vs=[.ref p,.str w,.int m]->H p=some (.tup (.str n::us))->Q (.bl (decide (us.length+1=m) && decide (n=w))) H->eh vs H Q Z3
inductive mS (hi:Int) (vs:List V) (H:Hp) (Q:VK) (Z3:XK):Prop
 | mk (i:Int):vs=[.int i]->0<=i->i<=hi->Q (.bl true) H->mS hi vs H Q Z3
inductive Dq (H:Hp) (v:V):Prop
 | mk (p:Addr) (n:Str) (i:Int):v=.ref p->H p=some (.tup [.str n,.int i])->((n="is"/\0<=i/\i<=3)\/(n="by"/\0<=i/\i<=2))->Dq H v
inductive CS (H:Hp) (v:V) (o:Option Nat):Prop
 | mk (p:Addr) (n:Str) (i:Int):v=.ref p->H p=some (.tup [.str n,.int i])->((n="in"/\0<=i/\i<=7/\o=some i.toNat)\/(n="number"/\0<=i/\i<=16777215/\o=none)\/(n="field"/\0<=i/\i<=2/\o=none))->CS H v o
variable {v:V}
theorem Dq.kt {H H':Hp} (k:DC H H') (h:Dq H v):Dq H' v:=let ⟨p,n,i,a,b,c⟩:=h;⟨p,n,i,a,k _ _ b,c⟩
theorem CS.kt {H H':Hp} (k:DC H H') {o:Option Nat} (h:CS H v o):CS H' v o:=let ⟨p,n,i,a,b,c⟩:=h;⟨p,n,i,a,k _ _ b,c⟩
inductive rJ (vs:List V) (H:Hp) (Q:VK) (Z3:XK):Prop
 | mk (v:_):vs=[v]->Dq H v->Q (.bl true) H->rJ vs H Q Z3
inductive iE (vs:List V) (H:Hp) (Q:VK) (Z3:XK):Prop
 | mk (v o:_):vs=[v]->CS H v o->Q (.bl true) H->iE vs H Q Z3
structure Md where
 kind:Nat
 to:Nat
 src:List (Option Nat)
inductive DV (H:Hp):V->Md->Prop
 | get {p:Addr} {n:Nat} {s:V}:H p=some (.tup [.str "get",.int n,s])->n < 8->Dq H s->DV H (.ref p) ⟨0,n,[]⟩
 | ask {p:Addr} {n:Nat} {s:V}:H p=some (.tup [.str "ask",.int n,s])->n < 8->Dq H s->DV H (.ref p) ⟨1,n,[]⟩
 | cell {p:Addr} {n:Nat} {s:V} {o:Option Nat}:H p=some (.tup [.str "cell",.int n,s])->n < 8->CS H s o->DV H (.ref p) ⟨2,n,[o]⟩
 | two {p:Addr} {n:Nat} {f:Str} {s s':V} {o o':Option Nat}:H p=some (.tup [.str "two",.int n,.str f,s,s'])->n < 8->f∈EE->CS H s o->CS H s' o'->DV H (.ref p) ⟨3,n,[o,o']⟩
 | put {p:Addr} {s s':V} {o:Option Nat}:H p=some (.tup [.str "put",s,s'])->Dq H s->CS H s' o->DV H (.ref p) ⟨4,0,[o]⟩
 | tell {p:Addr} {s s':V} {o:Option Nat}:H p=some (.tup [.str "tell",s,s'])->Dq H s->CS H s' o->DV H (.ref p) ⟨5,0,[o]⟩
 | store {p:Addr} {s s':V} {o o':Option Nat}:H p=some (.tup [.str "store",s,s'])->CS H s o->CS H s' o'->DV H (.ref p) ⟨6,0,[o,o']⟩
theorem DV.kt {H H':Hp} (k:DC H H') {m:Md} (h:DV H v m):DV H' v m:=by
 cases h with
 | get a b c=>exact .get (k _ _ a) b (c.kt k)
 | ask a b c=>exact .ask (k _ _ a) b (c.kt k)
 | cell a b c=>exact .cell (k _ _ a) b (c.kt k)
 | two a b c d e=>exact .two (k _ _ a) b c (d.kt k) (e.kt k)
 | put a b c=>exact .put (k _ _ a) (b.kt k) (c.kt k)
 | tell a b c=>exact .tell (k _ _ a) (b.kt k) (c.kt k)
 | store a b c=>exact .store (k _ _ a) (b.kt k) (c.kt k)
inductive iF (vs:List V) (H:Hp) (Q:VK) (Z3:XK):Prop
 | mk (v m:_):vs=[v]->DV H v m->(∀ H',Cw H H'->Q (.bl true) H')->iF vs H Q Z3
section
variable {P:Program} {w:World} {K:ZF} {mg:Str->Option Value} {base:Heap} {aO:Addr} {t1 t2 t3 t4:Tok} {fs:Str->V}
theorem oz:ar ["thing"] ["thing"] (aj j3):=cE zk
theorem rK (F:C7 K "is_whole" "is_whole" j3 f fd) (T:Bl mg):aT P w K mg base bT 1 f fd ["thing"] kf:=by
 have ZZ:=oz
 walk_at "o"
 ·obtain ⟨i,rfl,q⟩:=h;refine ⟨_,ai (al (bP (ao E9 (by rfl) T.isinstance bE (aa (pv 0) (aa (Dm (by rfl) T.int B5) ab))) (cr (mz (ao ET (by rfl) T.isinstance bE (aa (pv 0) (aa (Dm (by rfl) T.bool dM) ab))))))),?_⟩;exact ⟨_,rfl,i,rfl,_,rfl,bM ⟨_,rfl,i,rfl,_,rfl,q⟩⟩
theorem ly:ar ["thing","low","high"] ["thing","low","high"] (aj ia):=cE zk
theorem pN (F:C7 K "is_within" "is_within" ia f fd) (WH:Fn P w K mg base "is_whole" 1 ["thing"] kf):aT P w K mg base bT 2 f fd ["thing","low","high"] dB:=by
 have ZZ:=ly
 walk_at "o"
 ·obtain ⟨i,lo,hi,rfl,h1,h2,q⟩:=h;refine ⟨_,ai (al (bP (ap WH hr rfl (aa (pv 0) ab)) (cr (k6 k5 k5 (pv 1) (pv 0) (pv 2))))),?_⟩;refine ⟨_,rfl,i,rfl,_,rfl,bM ?_⟩;refine ⟨_,rfl,_,rfl,_,_,rfl,rfl,_,rfl,db (by simpa using h1) ?_⟩;refine ⟨_,rfl,_,_,rfl,rfl,?_⟩;show Q (.bl (decide (i<=hi))) H;rw [decide_eq_true h2];exact q
theorem xM:ar [] [] (aj vP):=cE zk
theorem vU (F:C7 K "ops_told" "ops_told" vP f fd) (T:Bl mg) (C:xm K mg w aO t1 t2 t3 t4 fs):aT P w K mg base bT 1 f fd [] vi:=by
 have ZZ:=xM
 walk_at "o"
 ·obtain ⟨rfl,q⟩:=h;refine ⟨_,ai (al (bm (EC rfl) (by rfl) T.list cg (aa (fE (v:=.ref aO) rfl C.ops rfl) ab))),?_⟩;exact ⟨aO,_,rfl,C.dict,(show EE.Nodup from by decide +kernel),C.lo,(by show 9<=1000;decide),fun p hp=>q p hp⟩
theorem rL:ar ["thing","word","many"] ["thing","word","many"] (aj j6):=cE zk
theorem pO (F:C7 K "is_headed" "is_headed" j6 f fd) (T:Bl mg):aT P w K mg base bT 1 f fd ["thing","word","many"] eh:=by
 have ZZ:=rL
 walk_at "o"
 ·obtain ⟨p,n,w,us,m,rfl,hp,q⟩:=h;refine ⟨_,ai (al (bP (ao (Dh (T:="tuple")) (by rfl) T.isinstance bE (aa (pv 0) (aa (Dm (by rfl) T.tuple bO) ab)))
   (bP (cH bC (ao aw (by rfl) T.len A4 (aa (pv 0) ab)) (pv 2)) (cr (cH bC (aq aL (pv 0) ag) (pv 1)))))),?_⟩
  refine ⟨_,rfl,.ref p,_,_,rfl,.tup hp,rfl,_,rfl,bM ?_⟩;refine ⟨_,rfl,p,_,rfl,.inr (CI.of hp),_,rfl,rfl,_,rfl,?_⟩;rw [xL];have e:decide (((V.str n::us).length:Int)=(m:Int))=decide (us.length+1=m):=by
   rw [Bj];by_cases h:us.length+1=m
   ·subst h;simp
   ·have:¬ ((us.length+1:Nat):Int)=(m:Int):=by lia
    simp only [h,this,decide_false]
  rw [e];refine bz (fun h=>?_) (fun h=>?_)
  ·refine ⟨_,rfl,p,_,_,_,rfl,rfl,CI.of hp,zp _ _,_,rfl,rfl,?_⟩;rw [zq];rw [h,Bool.true_and] at q;exact q
  ·rw [BU.mpr h,Bool.false_and] at q;exact q
theorem uj:ar ["thing"] ["thing"] (aj mM):=cE zk
theorem rM (F:C7 K "is_inner" "is_inner" mM f fd) (C:xm K mg w aO t1 t2 t3 t4 fs) (WI:Fn P w K mg base "is_within" 2 ["thing","low","high"] dB):aT P w K mg base bT 3 f fd ["thing"] (mS 7):=by
 have ZZ:=uj
 walk_at "o"
 ·obtain ⟨i,rfl,h1,h2,q⟩:=h;refine ⟨_,ai (al (ap WI hr rfl (aa (pv 0) (aa ag (aa (fE (v:=.int 7) rfl C.inner ⟨_,rfl⟩) ab))))),?_⟩;exact ⟨_,rfl,i,0,7,rfl,h1,h2,q⟩
theorem uk:ar ["thing"] ["thing"] (aj mN):=cE zk
theorem rO (F:C7 K "is_field" "is_field" mN f fd) (C:xm K mg w aO t1 t2 t3 t4 fs) (WI:Fn P w K mg base "is_within" 2 ["thing","low","high"] dB):aT P w K mg base bT 3 f fd ["thing"] (mS 2):=by
 have ZZ:=uk
 walk_at "o"
 ·obtain ⟨i,rfl,h1,h2,q⟩:=h;refine ⟨_,ai (al (ap WI hr rfl (aa (pv 0) (aa ag (aa (fE (v:=.int 2) rfl C.field ⟨_,rfl⟩) ab))))),?_⟩;exact ⟨_,rfl,i,0,2,rfl,h1,h2,q⟩
theorem xN:ar ["thing"] ["thing"] (aj vQ):=cE zk
theorem vV (F:C7 K "is_sel" "is_sel" vQ f fd) (C:xm K mg w aO t1 t2 t3 t4 fs) (WI:Fn P w K mg base "is_within" 2 ["thing","low","high"] dB) (HD:Fn P w K mg base "is_headed" 1 ["thing","word","many"] eh) (FI:Fn P w K mg base "is_field" 3 ["thing"] (mS 2)) :
  aT P w K mg base bT 4 f fd ["thing"] rJ:=by
 have ZZ:=xN
 walk_at "o"
 ·obtain ⟨v,rfl,⟨p,n,i,rfl,hp,hn⟩,q⟩:=h;refine ⟨_,ah (aN (aW (ap HD hr.m rfl (aa (pv 0) (aa aI (aa ag ab))))) (ai (al (ap WI hr.m rfl (aa (aq aL (pv 0) ag) (aa ag (aa (fE (v:=.int 3) rfl C.sel ⟨_,rfl⟩) ab)))))) aA)
   (ai (al (bP (ap HD hr.m rfl (aa (pv 0) (aa aI (aa ag ab)))) (cr (ap FI hr rfl (aa (aq aL (pv 0) ag) ab)))))),?_⟩
  rcases hn with ⟨rfl,h1,h2⟩|⟨rfl,h1,h2⟩
  ·refine ⟨_,rfl,p,_,_,_,2,rfl,hp,_,rfl,db (mw rfl) ?_⟩;exact ⟨_,rfl,p,_,_,_,rfl,rfl,CI.of hp,rfl,i,0,3,rfl,h1,h2,q⟩
  ·refine ⟨_,rfl,p,_,_,_,2,rfl,hp,_,rfl,bp (gZ zk) ?_⟩;refine ⟨_,rfl,p,_,_,_,2,rfl,hp,_,rfl,db (mw rfl) ?_⟩;exact ⟨_,rfl,p,_,_,_,rfl,rfl,CI.of hp,rfl,i,rfl,h1,h2,q⟩
theorem rP:ar ["thing"] ["thing"] (aj j7):=cE zk
theorem pP (F:C7 K "is_source" "is_source" j7 f fd) (C:xm K mg w aO t1 t2 t3 t4 fs) (WI:Fn P w K mg base "is_within" 2 ["thing","low","high"] dB) (HD:Fn P w K mg base "is_headed" 1 ["thing","word","many"] eh) (FI:Fn P w K mg base "is_field" 3 ["thing"] (mS 2)) (IN:Fn P w K mg base "is_inner" 3 ["thing"] (mS 7)) :
  aT P w K mg base bT 4 f fd ["thing"] iE:=by
 have ZZ:=rP
 walk_at "o"
 ·obtain ⟨v,o,rfl,⟨p,n,i,rfl,hp,hn⟩,q⟩:=h;refine ⟨_,ah (aN (aW (ap HD hr.m rfl (aa (pv 0) (aa aI (aa ag ab))))) (ai (al (ap IN hr rfl (aa (aq aL (pv 0) ag) ab)))) aA)
   (ah (aN (aW (ap HD hr.m rfl (aa (pv 0) (aa aI (aa ag ab))))) (ai (al (ap WI hr.m rfl (aa (aq aL (pv 0) ag) (aa ag (aa (fE (v:=.int 16777215) rfl C.word ⟨_,rfl⟩) ab)))))) aA)
   (ai (al (bP (ap HD hr.m rfl (aa (pv 0) (aa aI (aa ag ab)))) (cr (ap FI hr rfl (aa (aq aL (pv 0) ag) ab))))))),?_⟩
  rcases hn with ⟨rfl,h1,h2,_⟩|⟨rfl,h1,h2,_⟩|⟨rfl,h1,h2,_⟩
  ·refine ⟨_,rfl,p,_,_,_,2,rfl,hp,_,rfl,db (mw rfl) ?_⟩;exact ⟨_,rfl,p,_,_,_,rfl,rfl,CI.of hp,rfl,i,rfl,h1,h2,q⟩
  ·refine ⟨_,rfl,p,_,_,_,2,rfl,hp,_,rfl,bp (gZ zk) ?_⟩;refine ⟨_,rfl,p,_,_,_,2,rfl,hp,_,rfl,db (mw rfl) ?_⟩;exact ⟨_,rfl,p,_,_,_,rfl,rfl,CI.of hp,rfl,i,0,16777215,rfl,h1,h2,q⟩
  ·refine ⟨_,rfl,p,_,_,_,2,rfl,hp,_,rfl,bp (gZ zk) ?_⟩;refine ⟨_,rfl,p,_,_,_,2,rfl,hp,_,rfl,bp (gZ zk) ?_⟩;refine ⟨_,rfl,p,_,_,_,2,rfl,hp,_,rfl,db (mw rfl) ?_⟩;exact ⟨_,rfl,p,_,_,_,rfl,rfl,CI.of hp,rfl,i,rfl,h1,h2,q⟩
end
theorem vW:∀ f∈EE,jB (.str f) (EE.map V.str)=true:=by decide +kernel
section
variable {P:Program} {w:World} {K:ZF} {mg:Str->Option Value} {base:Heap} {aO:Addr} {t1 t2 t3 t4:Tok} {fs:Str->V}
theorem rQ:ar ["thing"] ["thing"] (aj j8):=cE zk
theorem pQ (F:C7 K "is_step" "is_step" j8 f fd) (HD:Fn P w K mg base "is_headed" 1 ["thing","word","many"] eh) (IN:Fn P w K mg base "is_inner" 3 ["thing"] (mS 7)) (SE:Fn P w K mg base "is_sel" 4 ["thing"] rJ) (SO:Fn P w K mg base "is_source" 4 ["thing"] iE) (OP:Fn P w K mg base "ops_told" 1 [] vi) :
  aT P w K mg base bT 5 f fd ["thing"] iF:=by
 have ZZ:=rQ
 walk_at "o"
 ·obtain ⟨v,m,rfl,ht,q⟩:=h;refine ⟨_,ah (aN (PW.pt (dS (aW (ap HD hr.m rfl (aa (pv 0) (aa aI (aa ag ab))))) (c9 (aW (ap HD hr.m rfl (aa (pv 0) (aa aI (aa ag ab)))))))) (ai (al (bP (ap IN hr.m rfl (aa (aq aL (pv 0) ag) ab)) (cr (ap SE hr rfl (aa (aq aL (pv 0) ag) ab)))))) aA)
   (ah (aN (aW (ap HD hr.m rfl (aa (pv 0) (aa aI (aa ag ab))))) (ai (al (bP (ap IN hr.m rfl (aa (aq aL (pv 0) ag) ab)) (cr (ap SO hr rfl (aa (aq aL (pv 0) ag) ab)))))) aA)
   (ah (aN (aW (ap HD hr.m rfl (aa (pv 0) (aa aI (aa ag ab))))) (ai (al (bP (ap IN hr.m rfl (aa (aq aL (pv 0) ag) ab)) (bP (cH eI (aq aL (pv 0) ag) (vR OP hr.m rfl) rfl) (bP (ap SO hr rfl (aa (aq aL (pv 0) ag) ab)) (cr (ap SO hr rfl (aa (aq aL (pv 0) ag) ab)))))))) aA)
   (ah (aN (PW.pt (dS (aW (ap HD hr.m rfl (aa (pv 0) (aa aI (aa ag ab))))) (c9 (aW (ap HD hr.m rfl (aa (pv 0) (aa aI (aa ag ab)))))))) (ai (al (bP (ap SE hr rfl (aa (aq aL (pv 0) ag) ab)) (cr (ap SO hr rfl (aa (aq aL (pv 0) ag) ab)))))) aA)
   (ai (al (bP (ap HD hr.m rfl (aa (pv 0) (aa aI (aa ag ab)))) (bP (ap SO hr rfl (aa (aq aL (pv 0) ag) ab)) (cr (ap SO hr rfl (aa (aq aL (pv 0) ag) ab)))))))))),?_⟩
  cases ht with
  | @get p n s hp hn hs=>
   refine ⟨_,rfl,p,_,_,_,3,rfl,hp,_,rfl,db (mw rfl) ?_⟩;refine ⟨_,rfl,p,_,_,_,rfl,rfl,CI.of hp,rfl,n,rfl,zo,zo,_,rfl,bM ?_⟩;exact ⟨_,rfl,p,_,_,_,rfl,rfl,CI.of hp,rfl,_,rfl,hs,q _ (Cw.refl _)⟩
  | @ask p n s hp hn hs=>
   refine ⟨_,rfl,p,_,_,_,3,rfl,hp,_,rfl,bp (gZ zk) ?_⟩;refine ⟨_,rfl,p,_,_,_,3,rfl,hp,_,rfl,db (mw rfl) ?_⟩;refine ⟨_,rfl,p,_,_,_,rfl,rfl,CI.of hp,rfl,n,rfl,zo,zo,_,rfl,bM ?_⟩;exact ⟨_,rfl,p,_,_,_,rfl,rfl,CI.of hp,rfl,_,rfl,hs,q _ (Cw.refl _)⟩
  | @cell p n s o hp hn hs=>
   refine ⟨_,rfl,p,_,_,_,3,rfl,hp,_,rfl,bp (gZ zk) ?_⟩;refine ⟨_,rfl,p,_,_,_,3,rfl,hp,_,rfl,bp (gZ zk) ?_⟩;refine ⟨_,rfl,p,_,_,_,3,rfl,hp,_,rfl,db (mw rfl) ?_⟩;refine ⟨_,rfl,p,_,_,_,rfl,rfl,CI.of hp,rfl,n,rfl,zo,zo,_,rfl,bM ?_⟩;exact ⟨_,rfl,p,_,_,_,rfl,rfl,CI.of hp,rfl,_,_,rfl,hs,q _ (Cw.refl _)⟩
  | @two p n f s s' o o' hp hn hf hs hs2=>
   refine ⟨_,rfl,p,_,_,_,3,rfl,hp,_,rfl,bp (gZ zk) ?_⟩;refine ⟨_,rfl,p,_,_,_,3,rfl,hp,_,rfl,bp (gZ zk) ?_⟩;refine ⟨_,rfl,p,_,_,_,3,rfl,hp,_,rfl,bp (gZ zk) ?_⟩;refine ⟨_,rfl,p,_,_,_,5,rfl,hp,_,rfl,db (mw rfl) ?_⟩;refine ⟨_,rfl,p,_,_,_,rfl,rfl,CI.of hp,rfl,n,rfl,zo,zo,_,rfl,bM ?_⟩;refine ⟨_,rfl,p,_,_,_,rfl,rfl,CI.of hp,rfl,rfl,fun l nl=>?_⟩;have s1:=ae (o:=.lst (EE.map V.str)) nl;refine ⟨l,_,rfl,.inl (Cz.of af),rfl,zk,_,rfl,db (vW _ hf) ?_⟩;refine ⟨_,rfl,p,_,_,_,rfl,rfl,CI.of (s1 _ _ hp),rfl,_,_,rfl,hs.kt (CC s1),_,rfl,bM ?_⟩;exact ⟨_,rfl,p,_,_,_,rfl,rfl,CI.of (s1 _ _ hp),rfl,_,_,rfl,hs2.kt (CC s1),q _ s1⟩
  | @put p s s' o hp hs hs2=>
   refine ⟨_,rfl,p,_,_,_,3,rfl,hp,_,rfl,bp (gZ zk) ?_⟩;refine ⟨_,rfl,p,_,_,_,3,rfl,hp,_,rfl,bp (gZ zk) ?_⟩;refine ⟨_,rfl,p,_,_,_,3,rfl,hp,_,rfl,bp (gZ zk) ?_⟩;refine ⟨_,rfl,p,_,_,_,5,rfl,hp,_,rfl,bp (gZ zk) ?_⟩;refine ⟨_,rfl,p,_,_,_,3,rfl,hp,_,rfl,db (mw rfl) ?_⟩;refine ⟨_,rfl,p,_,_,_,rfl,rfl,CI.of hp,rfl,_,rfl,hs,_,rfl,bM ?_⟩;exact ⟨_,rfl,p,_,_,_,rfl,rfl,CI.of hp,rfl,_,_,rfl,hs2,q _ (Cw.refl _)⟩
  | @tell p s s' o hp hs hs2=>
   refine ⟨_,rfl,p,_,_,_,3,rfl,hp,_,rfl,bp (gZ zk) ?_⟩;refine ⟨_,rfl,p,_,_,_,3,rfl,hp,_,rfl,bp (gZ zk) ?_⟩;refine ⟨_,rfl,p,_,_,_,3,rfl,hp,_,rfl,bp (gZ zk) ?_⟩;refine ⟨_,rfl,p,_,_,_,5,rfl,hp,_,rfl,bp (gZ zk) ?_⟩;refine ⟨_,rfl,p,_,_,_,3,rfl,hp,_,rfl,bp (gZ zk) ?_⟩;refine ⟨_,rfl,p,_,_,_,3,rfl,hp,_,rfl,db (mw rfl) ?_⟩;refine ⟨_,rfl,p,_,_,_,rfl,rfl,CI.of hp,rfl,_,rfl,hs,_,rfl,bM ?_⟩;exact ⟨_,rfl,p,_,_,_,rfl,rfl,CI.of hp,rfl,_,_,rfl,hs2,q _ (Cw.refl _)⟩
  | @store p s s' o o' hp hs hs2=>
   refine ⟨_,rfl,p,_,_,_,3,rfl,hp,_,rfl,bp (gZ zk) ?_⟩;refine ⟨_,rfl,p,_,_,_,3,rfl,hp,_,rfl,bp (gZ zk) ?_⟩;refine ⟨_,rfl,p,_,_,_,3,rfl,hp,_,rfl,bp (gZ zk) ?_⟩;refine ⟨_,rfl,p,_,_,_,5,rfl,hp,_,rfl,bp (gZ zk) ?_⟩;refine ⟨_,rfl,p,_,_,_,3,rfl,hp,_,rfl,bp (gZ zk) ?_⟩;refine ⟨_,rfl,p,_,_,_,3,rfl,hp,_,rfl,bp (gZ zk) ?_⟩;refine ⟨_,rfl,p,_,_,_,3,rfl,hp,_,rfl,db (mw rfl) ?_⟩;refine ⟨_,rfl,p,_,_,_,rfl,rfl,CI.of hp,rfl,_,_,rfl,hs,_,rfl,bM ?_⟩;exact ⟨_,rfl,p,_,_,_,rfl,rfl,CI.of hp,rfl,_,_,rfl,hs2,q _ (Cw.refl _)⟩
def Ax:Nat->Str
 | 0=>"Get"
 | 1=>"Ask"
 | 2=>"Cell"
 | 3=>"Two"
 | 4=>"Put"
 | 5=>"Tell"
 | _=>"Store"
def Ay:Nat->List Str
 | 0=>["to","sel"]
 | 1=>["to","sel"]
 | 2=>["to","source"]
 | 3=>["to","op","one","other"]
 | 4=>["sel","source"]
 | 5=>["sel","source"]
 | _=>["at","source"]
structure Ct (K:ZF) (mg:Str->Option Value) (C fi:Nat->Addr):Prop where
 cls:∀ k,k < 7->FY K (C k)
 na:∀ k,k < 7->∀ f∈Ay k,Dz K (C k) f
 mk_:∀ k,k < 7->Mk K (C k) (fi k)
 mg:∀ k,k < 7->mg (Ax k)=some (.ref (C k))
inductive gy (C:Addr) (a:Str) (b:Str) (vs:List V) (H:Hp) (Q:VK) (Z3:XK):Prop
 | mk (x dx:Addr) (u v:V):vs=[.ref x,u,v]->H x=some (.ins C dx [])->Q .non (aB (aB H x (.ins C dx [(a,u)])) x (.ins C dx [(a,u),(b,v)]))->gy C a b vs H Q Z3
inductive vX (C:Addr) (a:Str) (b:Str) (c:Str) (d:Str) (vs:List V) (H:Hp) (Q:VK) (Z3:XK):Prop
 | mk (x dx:Addr) (u v y z:V):vs=[.ref x,u,v,y,z]->H x=some (.ins C dx [])->Q .non (aB (aB (aB (aB H x (.ins C dx [(a,u)])) x (.ins C dx [(a,u),(b,v)])) x (.ins C dx [(a,u),(b,v),(c,y)])) x (.ins C dx [(a,u),(b,v),(c,y),(d,z)]))->vX C a b c d vs H Q Z3
abbrev zr:Stmt:=bf (cG 43) 0
theorem zt:ar ["self","to","sel"] ["self","to","sel"] (aj zr):=cE zk
theorem xO {C fi:Nat->Addr} (F:C7 K "__init__" "Get.__init__" zr f fd) (T:Ct K mg C fi):aT P w K mg base bT 1 f fd ["self","to","sel"] (gy (C 0) "to" "sel"):=by
 have ZZ:=zt
 walk_at "o"
 ·obtain ⟨x,dx,u,v,rfl,hx,q⟩:=h;refine ⟨_,ah (cv (pv 0) (pv 1) rfl) (ai (cv (pv 0) (pv 2) rfl)),?_⟩;refine ⟨_,rfl,_,rfl,x,C 0,dx,_,rfl,hx,T.cls 0 zd,(T.na 0 zd "to" zk),(by show 0 < 1000;decide),?_⟩;exact ⟨_,rfl,_,rfl,x,C 0,dx,_,rfl,af,T.cls 0 zd,(T.na 0 zd "sel" zk),(by show 1 < 1000;decide),q⟩
abbrev zu:Stmt:=bf (cG 44) 0
theorem zv:ar ["self","to","sel"] ["self","to","sel"] (aj zu):=cE zk
theorem xP {C fi:Nat->Addr} (F:C7 K "__init__" "Ask.__init__" zu f fd) (T:Ct K mg C fi):aT P w K mg base bT 1 f fd ["self","to","sel"] (gy (C 1) "to" "sel"):=by
 have ZZ:=zv
 walk_at "o"
 ·obtain ⟨x,dx,u,v,rfl,hx,q⟩:=h;refine ⟨_,ah (cv (pv 0) (pv 1) rfl) (ai (cv (pv 0) (pv 2) rfl)),?_⟩;refine ⟨_,rfl,_,rfl,x,C 1,dx,_,rfl,hx,T.cls 1 zd,(T.na 1 zd "to" zk),(by show 0 < 1000;decide),?_⟩;exact ⟨_,rfl,_,rfl,x,C 1,dx,_,rfl,af,T.cls 1 zd,(T.na 1 zd "sel" zk),(by show 1 < 1000;decide),q⟩
abbrev zw:Stmt:=bf (cG 45) 0
theorem zx:ar ["self","to","source"] ["self","to","source"] (aj zw):=cE zk
theorem xQ {C fi:Nat->Addr} (F:C7 K "__init__" "Cell.__init__" zw f fd) (T:Ct K mg C fi):aT P w K mg base bT 1 f fd ["self","to","source"] (gy (C 2) "to" "source"):=by
 have ZZ:=zx
 walk_at "o"
 ·obtain ⟨x,dx,u,v,rfl,hx,q⟩:=h;refine ⟨_,ah (cv (pv 0) (pv 1) rfl) (ai (cv (pv 0) (pv 2) rfl)),?_⟩;refine ⟨_,rfl,_,rfl,x,C 2,dx,_,rfl,hx,T.cls 2 zd,(T.na 2 zd "to" zk),(by show 0 < 1000;decide),?_⟩;exact ⟨_,rfl,_,rfl,x,C 2,dx,_,rfl,af,T.cls 2 zd,(T.na 2 zd "source" zk),(by show 1 < 1000;decide),q⟩
abbrev zy:Stmt:=bf (cG 46) 0
theorem zA:ar ["self","to","op","one","other"] ["self","to","op","one","other"] (aj zy):=cE zk
theorem xR {C fi:Nat->Addr} (F:C7 K "__init__" "Two.__init__" zy f fd) (T:Ct K mg C fi):aT P w K mg base bT 1 f fd ["self","to","op","one","other"] (vX (C 3) "to" "op" "one" "other"):=by
 have ZZ:=zA
 walk_at "o"
 ·obtain ⟨x,dx,u,v,y,z,rfl,hx,q⟩:=h;refine ⟨_,ah (cv (pv 0) (pv 1) rfl) (ah (cv (pv 0) (pv 2) rfl) (ah (cv (pv 0) (pv 3) rfl) (ai (cv (pv 0) (pv 4) rfl)))),?_⟩;refine ⟨_,rfl,_,rfl,x,C 3,dx,_,rfl,hx,T.cls 3 zd,(T.na 3 zd "to" zk),(by show 0 < 1000;decide),?_⟩;refine ⟨_,rfl,_,rfl,x,C 3,dx,_,rfl,af,T.cls 3 zd,(T.na 3 zd "op" zk),(by show 1 < 1000;decide),?_⟩;refine ⟨_,rfl,_,rfl,x,C 3,dx,_,rfl,af,T.cls 3 zd,(T.na 3 zd "one" zk),(by show 2 < 1000;decide),?_⟩;exact ⟨_,rfl,_,rfl,x,C 3,dx,_,rfl,af,T.cls 3 zd,(T.na 3 zd "other" zk),(by show 3 < 1000;decide),q⟩
abbrev zB:Stmt:=bf (cG 47) 0
theorem zC:ar ["self","sel","source"] ["self","sel","source"] (aj zB):=cE zk
theorem xS {C fi:Nat->Addr} (F:C7 K "__init__" "Put.__init__" zB f fd) (T:Ct K mg C fi):aT P w K mg base bT 1 f fd ["self","sel","source"] (gy (C 4) "sel" "source"):=by
 have ZZ:=zC
 walk_at "o"
 ·obtain ⟨x,dx,u,v,rfl,hx,q⟩:=h;refine ⟨_,ah (cv (pv 0) (pv 1) rfl) (ai (cv (pv 0) (pv 2) rfl)),?_⟩;refine ⟨_,rfl,_,rfl,x,C 4,dx,_,rfl,hx,T.cls 4 zd,(T.na 4 zd "sel" zk),(by show 0 < 1000;decide),?_⟩;exact ⟨_,rfl,_,rfl,x,C 4,dx,_,rfl,af,T.cls 4 zd,(T.na 4 zd "source" zk),(by show 1 < 1000;decide),q⟩
abbrev zD:Stmt:=bf (cG 48) 0
theorem zE:ar ["self","sel","source"] ["self","sel","source"] (aj zD):=cE zk
theorem xT {C fi:Nat->Addr} (F:C7 K "__init__" "Tell.__init__" zD f fd) (T:Ct K mg C fi):aT P w K mg base bT 1 f fd ["self","sel","source"] (gy (C 5) "sel" "source"):=by
 have ZZ:=zE
 walk_at "o"
 ·obtain ⟨x,dx,u,v,rfl,hx,q⟩:=h;refine ⟨_,ah (cv (pv 0) (pv 1) rfl) (ai (cv (pv 0) (pv 2) rfl)),?_⟩;refine ⟨_,rfl,_,rfl,x,C 5,dx,_,rfl,hx,T.cls 5 zd,(T.na 5 zd "sel" zk),(by show 0 < 1000;decide),?_⟩;exact ⟨_,rfl,_,rfl,x,C 5,dx,_,rfl,af,T.cls 5 zd,(T.na 5 zd "source" zk),(by show 1 < 1000;decide),q⟩
abbrev zF:Stmt:=bf (cG 49) 0
theorem zG:ar ["self","at","source"] ["self","at","source"] (aj zF):=cE zk
theorem xU {C fi:Nat->Addr} (F:C7 K "__init__" "Store.__init__" zF f fd) (T:Ct K mg C fi):aT P w K mg base bT 1 f fd ["self","at","source"] (gy (C 6) "at" "source"):=by
 have ZZ:=zG
 walk_at "o"
 ·obtain ⟨x,dx,u,v,rfl,hx,q⟩:=h;refine ⟨_,ah (cv (pv 0) (pv 1) rfl) (ai (cv (pv 0) (pv 2) rfl)),?_⟩;refine ⟨_,rfl,_,rfl,x,C 6,dx,_,rfl,hx,T.cls 6 zd,(T.na 6 zd "at" zk),(by show 0 < 1000;decide),?_⟩;exact ⟨_,rfl,_,rfl,x,C 6,dx,_,rfl,af,T.cls 6 zd,(T.na 6 zd "source" zk),(by show 1 < 1000;decide),q⟩
end
inductive CN (C:Nat->Addr) (H:Hp):V->Md->Prop
 | get {a dx:Addr} {n:Nat} {v:V}:H a=some (.ins (C 0) dx [("to",.int n),("sel",v)])->n < 8->CN C H (.ref a) ⟨0,n,[]⟩
 | ask {a dx:Addr} {n:Nat} {v:V}:H a=some (.ins (C 1) dx [("to",.int n),("sel",v)])->n < 8->CN C H (.ref a) ⟨1,n,[]⟩
 | cell {a dx:Addr} {n:Nat} {s:V} {o:Option Nat}:H a=some (.ins (C 2) dx [("to",.int n),("source",s)])->n < 8->CS H s o->CN C H (.ref a) ⟨2,n,[o]⟩
 | two {a dx:Addr} {n:Nat} {f s s':V} {o o':Option Nat}:H a=some (.ins (C 3) dx [("to",.int n),("op",f),("one",s),("other",s')])->n < 8->CS H s o->CS H s' o'->CN C H (.ref a) ⟨3,n,[o,o']⟩
 | put {a dx:Addr} {v s:V} {o:Option Nat}:H a=some (.ins (C 4) dx [("sel",v),("source",s)])->CS H s o->CN C H (.ref a) ⟨4,0,[o]⟩
 | tell {a dx:Addr} {v s:V} {o:Option Nat}:H a=some (.ins (C 5) dx [("sel",v),("source",s)])->CS H s o->CN C H (.ref a) ⟨5,0,[o]⟩
 | store {a dx:Addr} {s s':V} {o o':Option Nat}:H a=some (.ins (C 6) dx [("at",s),("source",s')])->CS H s o->CS H s' o'->CN C H (.ref a) ⟨6,0,[o,o']⟩
theorem CN.same {C:Nat->Addr} {H H':Hp} (s:Cw H H') {m:Md} (h:CN C H v m):CN C H' v m:=by
 have k:=CC s;cases h with
 | get a b=>exact .get (s _ _ a) b
 | ask a b=>exact .ask (s _ _ a) b
 | cell a b c=>exact .cell (s _ _ a) b (c.kt k)
 | two a b c d=>exact .two (s _ _ a) b (c.kt k) (d.kt k)
 | put a b=>exact .put (s _ _ a) (b.kt k)
 | tell a b=>exact .tell (s _ _ a) (b.kt k)
 | store a b c=>exact .store (s _ _ a) (b.kt k) (c.kt k)
theorem CN.at_ {C:Nat->Addr} {m:Md} (h:CN C H v m):∃ (a dx:Addr) (fs:List (Str×V)),v=.ref a/\H a=some (.ins (C m.kind) dx fs)/\m.kind < 7/\fs.lookup ("uses_way":Str)=none/\fs.lookup ("sources":Str)=none/\fs.lookup ("targets":Str)=none/\fs.lookup ("touched":Str)=none/\fs.lookup ("reads":Str)=none/\fs.lookup ("writes":Str)=none:=by
 cases h with
 | get a b=>exact ⟨_,_,_,rfl,a,(by show 0 < 7;decide),rfl,rfl,rfl,rfl,rfl,rfl⟩
 | ask a b=>exact ⟨_,_,_,rfl,a,(by show 1 < 7;decide),rfl,rfl,rfl,rfl,rfl,rfl⟩
 | cell a b c=>exact ⟨_,_,_,rfl,a,(by show 2 < 7;decide),rfl,rfl,rfl,rfl,rfl,rfl⟩
 | two a b c d=>exact ⟨_,_,_,rfl,a,(by show 3 < 7;decide),rfl,rfl,rfl,rfl,rfl,rfl⟩
 | put a b=>exact ⟨_,_,_,rfl,a,(by show 4 < 7;decide),rfl,rfl,rfl,rfl,rfl,rfl⟩
 | tell a b=>exact ⟨_,_,_,rfl,a,(by show 5 < 7;decide),rfl,rfl,rfl,rfl,rfl,rfl⟩
 | store a b c=>exact ⟨_,_,_,rfl,a,(by show 6 < 7;decide),rfl,rfl,rfl,rfl,rfl,rfl⟩
def kg (m:Md):List Nat:=if m.kind < 4 then [m.to] else []
theorem CN.tgt8 {C:Nat->Addr} {m:Md} (h:CN C H v m):(kg m).length<=2/\∀ k∈kg m,k < 8:=by
 cases h<;>simp_all [kg]
abbrev cx:=Str×Int
def iG (x:cx):Prop:=(x.1="is"/\0<=x.2/\x.2<=3)\/(x.1="by"/\0<=x.2/\x.2<=2)
def eu (x:cx):Prop:=(x.1="in"/\0<=x.2/\x.2<=7)\/(x.1="number"/\0<=x.2/\x.2<=16777215)\/(x.1="field"/\0<=x.2/\x.2<=2)
inductive Pt (H:Hp) (v:V) (x:cx):Prop
 | mk (p:_):v=.ref p->H p=some (.tup [.str x.1,.int x.2])->Pt H v x
def rR (x:cx):Option Nat:=if x.1="in" then some x.2.toNat else none
theorem Pt.kt {H H':Hp} (k:DC H H') {x:cx} (h:Pt H v x):Pt H' v x:=let ⟨p,a,b⟩:=h;⟨p,a,k _ _ b⟩
theorem Pt.sel {x:cx} (h:Pt H v x) (c:iG x):Dq H v:=let ⟨p,a,b⟩:=h;⟨p,x.1,x.2,a,b,c⟩
theorem Pt.src {x:cx} (h:Pt H v x) (c:eu x):CS H v (rR x):=by
 obtain ⟨p,a,b⟩:=h;refine ⟨p,x.1,x.2,a,b,?_⟩;rcases c with ⟨e,h0,h1⟩|⟨e,h0,h1⟩|⟨e,h0,h1⟩
 ·exact .inl ⟨e,h0,h1,by unfold rR;rw [if_pos e]⟩
 ·exact .inr (.inl ⟨e,h0,h1,by unfold rR;rw [e];rfl⟩)
 ·exact .inr (.inr ⟨e,h0,h1,by unfold rR;rw [e];rfl⟩)
inductive Sd
 | get (n:Nat) (x:cx)
 | ask (n:Nat) (x:cx)
 | cell (n:Nat) (x:cx)
 | two (n:Nat) (f:Str) (x y:cx)
 | put (x y:cx)
 | tell (x y:cx)
 | store (x y:cx)
def rS:Sd->Md
 | .get n _=>⟨0,n,[]⟩
 | .ask n _=>⟨1,n,[]⟩
 | .cell n x=>⟨2,n,[rR x]⟩
 | .two n _ x y=>⟨3,n,[rR x,rR y]⟩
 | .put _ y=>⟨4,0,[rR y]⟩
 | .tell _ y=>⟨5,0,[rR y]⟩
 | .store x y=>⟨6,0,[rR x,rR y]⟩
inductive Db (H:Hp):V->Sd->Prop
 | get {p:Addr} {n:Nat} {s:V} {x:cx}:H p=some (.tup [.str "get",.int n,s])->n < 8->Pt H s x->iG x->Db H (.ref p) (.get n x)
 | ask {p:Addr} {n:Nat} {s:V} {x:cx}:H p=some (.tup [.str "ask",.int n,s])->n < 8->Pt H s x->iG x->Db H (.ref p) (.ask n x)
 | cell {p:Addr} {n:Nat} {s:V} {x:cx}:H p=some (.tup [.str "cell",.int n,s])->n < 8->Pt H s x->eu x->Db H (.ref p) (.cell n x)
 | two {p:Addr} {n:Nat} {f:Str} {s s':V} {x y:cx}:H p=some (.tup [.str "two",.int n,.str f,s,s'])->n < 8->f∈EE->Pt H s x->eu x->Pt H s' y->eu y->Db H (.ref p) (.two n f x y)
 | put {p:Addr} {s s':V} {x y:cx}:H p=some (.tup [.str "put",s,s'])->Pt H s x->iG x->Pt H s' y->eu y->Db H (.ref p) (.put x y)
 | tell {p:Addr} {s s':V} {x y:cx}:H p=some (.tup [.str "tell",s,s'])->Pt H s x->iG x->Pt H s' y->eu y->Db H (.ref p) (.tell x y)
 | store {p:Addr} {s s':V} {x y:cx}:H p=some (.tup [.str "store",s,s'])->Pt H s x->eu x->Pt H s' y->eu y->Db H (.ref p) (.store x y)
variable {d:Sd}
theorem Db.kt {H H':Hp} (k:DC H H') (h:Db H v d):Db H' v d:=by
 cases h with
 | get a b c e=>exact .get (k _ _ a) b (c.kt k) e
 | ask a b c e=>exact .ask (k _ _ a) b (c.kt k) e
 | cell a b c e=>exact .cell (k _ _ a) b (c.kt k) e
 | two a b f c e g i=>exact .two (k _ _ a) b f (c.kt k) e (g.kt k) i
 | put a c e g i=>exact .put (k _ _ a) (c.kt k) e (g.kt k) i
 | tell a c e g i=>exact .tell (k _ _ a) (c.kt k) e (g.kt k) i
 | store a c e g i=>exact .store (k _ _ a) (c.kt k) e (g.kt k) i
theorem Db.tol (h:Db H v d):DV H v (rS d):=by
 cases h with
 | get a b c e=>exact .get a b (c.sel e)
 | ask a b c e=>exact .ask a b (c.sel e)
 | cell a b c e=>exact .cell a b (c.src e)
 | two a b f c e g i=>exact .two a b f (c.src e) (g.src i)
 | put a c e g i=>exact .put a (c.sel e) (g.src i)
 | tell a c e g i=>exact .tell a (c.sel e) (g.src i)
 | store a c e g i=>exact .store a (c.src e) (g.src i)
inductive Ep (C:Nat->Addr) (H:Hp):V->V->Sd->Prop
 | get {a dx p:Addr} {n:Nat} {s:V} {x:cx}:H a=some (.ins (C 0) dx [("to",.int n),("sel",s)])->H p=some (.tup [.str "get",.int n,s])->n < 8->Pt H s x->iG x->Ep C H (.ref a) (.ref p) (.get n x)
 | ask {a dx p:Addr} {n:Nat} {s:V} {x:cx}:H a=some (.ins (C 1) dx [("to",.int n),("sel",s)])->H p=some (.tup [.str "ask",.int n,s])->n < 8->Pt H s x->iG x->Ep C H (.ref a) (.ref p) (.ask n x)
 | cell {a dx p:Addr} {n:Nat} {s:V} {x:cx}:H a=some (.ins (C 2) dx [("to",.int n),("source",s)])->H p=some (.tup [.str "cell",.int n,s])->n < 8->Pt H s x->eu x->Ep C H (.ref a) (.ref p) (.cell n x)
 | two {a dx p:Addr} {n:Nat} {f:Str} {s s':V} {x y:cx}:H a=some (.ins (C 3) dx [("to",.int n),("op",.str f),("one",s),("other",s')])->H p=some (.tup [.str "two",.int n,.str f,s,s'])->n < 8->f∈EE->Pt H s x->eu x->Pt H s' y->eu y->Ep C H (.ref a) (.ref p) (.two n f x y)
 | put {a dx p:Addr} {s s':V} {x y:cx}:H a=some (.ins (C 4) dx [("sel",s),("source",s')])->H p=some (.tup [.str "put",s,s'])->Pt H s x->iG x->Pt H s' y->eu y->Ep C H (.ref a) (.ref p) (.put x y)
 | tell {a dx p:Addr} {s s':V} {x y:cx}:H a=some (.ins (C 5) dx [("sel",s),("source",s')])->H p=some (.tup [.str "tell",s,s'])->Pt H s x->iG x->Pt H s' y->eu y->Ep C H (.ref a) (.ref p) (.tell x y)
 | store {a dx p:Addr} {s s':V} {x y:cx}:H a=some (.ins (C 6) dx [("at",s),("source",s')])->H p=some (.tup [.str "store",s,s'])->Pt H s x->eu x->Pt H s' y->eu y->Ep C H (.ref a) (.ref p) (.store x y)
variable {u:V}
theorem Ep.same {C:Nat->Addr} {H H':Hp} (s:Cw H H') (h:Ep C H v u d):Ep C H' v u d:=by
 have k:=CC s;cases h with
 | get o a b c e=>exact .get (s _ _ o) (k _ _ a) b (c.kt k) e
 | ask o a b c e=>exact .ask (s _ _ o) (k _ _ a) b (c.kt k) e
 | cell o a b c e=>exact .cell (s _ _ o) (k _ _ a) b (c.kt k) e
 | two o a b f c e g i=>exact .two (s _ _ o) (k _ _ a) b f (c.kt k) e (g.kt k) i
 | put o a c e g i=>exact .put (s _ _ o) (k _ _ a) (c.kt k) e (g.kt k) i
 | tell o a c e g i=>exact .tell (s _ _ o) (k _ _ a) (c.kt k) e (g.kt k) i
 | store o a c e g i=>exact .store (s _ _ o) (k _ _ a) (c.kt k) e (g.kt k) i
theorem Ep.sv {C:Nat->Addr} (h:Ep C H v u d):CN C H v (rS d):=by
 cases h with
 | get o a b c e=>exact .get o b
 | ask o a b c e=>exact .ask o b
 | cell o a b c e=>exact .cell o b (c.src e)
 | two o a b f c e g i=>exact .two o b (c.src e) (g.src i)
 | put o a c e g i=>exact .put o (g.src i)
 | tell o a c e g i=>exact .tell o (g.src i)
 | store o a c e g i=>exact .store o (c.src e) (g.src i)
theorem Ep.tolD {C:Nat->Addr} (h:Ep C H v u d):Db H u d:=by
 cases h with
 | get o a b c e=>exact .get a b c e
 | ask o a b c e=>exact .ask a b c e
 | cell o a b c e=>exact .cell a b c e
 | two o a b f c e g i=>exact .two a b f c e g i
 | put o a c e g i=>exact .put a c e g i
 | tell o a c e g i=>exact .tell a c e g i
 | store o a c e g i=>exact .store a c e g i
inductive fJ (P:Program) (w:World) (K:ZF) (mg:Str->Option Value) (base:Heap) (f:Addr) (ps:List Str) (sp:Sp):Prop
 | mk (fd:_):aT P w K mg base bT 1 f fd ps sp->Dv K fd ps []->fJ P w K mg base f ps sp
inductive iH (C:Nat->Addr) (vs:List V) (H:Hp) (Q:VK) (Z3:XK):Prop
 | mk (v d:_):vs=[v]->Db H v d->(∀ u H',Cw H H'->Ep C H' u v d->Q u H')->iH C vs H Q Z3
section
variable {P:Program} {w:World} {K:ZF} {mg:Str->Option Value} {base:Heap} {C fi:Nat->Addr}
theorem rT:ar ["told"] ["told"] (aj j9):=cE zk
theorem pR (F:C7 K "step_of" "step_of" j9 f fd) (T:Ct K mg C fi) (IS:Fn P w K mg base "is_step" 5 ["thing"] iF) (I0:fJ P w K mg base (fi 0) ["self","to","sel"] (gy (C 0) "to" "sel")) (I1:fJ P w K mg base (fi 1) ["self","to","sel"] (gy (C 1) "to" "sel")) (I2:fJ P w K mg base (fi 2) ["self","to","source"] (gy (C 2) "to" "source")) (I3:fJ P w K mg base (fi 3) ["self","to","op","one","other"] (vX (C 3) "to" "op" "one" "other")) (I4:fJ P w K mg base (fi 4) ["self","sel","source"] (gy (C 4) "sel" "source")) (I5:fJ P w K mg base (fi 5) ["self","sel","source"] (gy (C 5) "sel" "source")) (I6:fJ P w K mg base (fi 6) ["self","at","source"] (gy (C 6) "at" "source")) :
  aT P w K mg base bT 6 f fd ["told"] (iH C):=by
 have ZZ:=rT
 walk_at "o"
 ·obtain ⟨v,m,rfl,ht,q⟩:=h;obtain ⟨fd0,F0,b0⟩:=I0;obtain ⟨Cn,F1,b1⟩:=I1;obtain ⟨fd2,F2,b2⟩:=I2;obtain ⟨fd3,F3,b3⟩:=I3;obtain ⟨fd4,F4,b4⟩:=I4;obtain ⟨fd5,F5,b5⟩:=I5;obtain ⟨fd6,F6,b6⟩:=I6;refine ⟨_,ah (aN (cq (aW (ap IS hr rfl (aa (pv 0) ab)))) (ai qJ) aA)
   (ah (aN (aC bC (aq aL (pv 0) ag) aI) (ai (al (dJ (T.mk_ 0 zd) F0 hr.m rfl (T.mg 0 zd) b0 .nil dZ (aa (aq aL (pv 0) ag) (aa (aq aL (pv 0) ag) ab))))) aA)
   (ah (aN (aC bC (aq aL (pv 0) ag) aI) (ai (al (dJ (T.mk_ 1 zd) F1 hr.m rfl (T.mg 1 zd) b1 .nil dZ (aa (aq aL (pv 0) ag) (aa (aq aL (pv 0) ag) ab))))) aA)
   (ah (aN (aC bC (aq aL (pv 0) ag) aI) (ai (al (dJ (T.mk_ 2 zd) F2 hr.m rfl (T.mg 2 zd) b2 .nil dZ (aa (aq aL (pv 0) ag) (aa (aq aL (pv 0) ag) ab))))) aA)
   (ah (aN (aC bC (aq aL (pv 0) ag) aI) (ai (al (dJ (T.mk_ 3 zd) F3 hr.m rfl (T.mg 3 zd) b3 .nil dZ (aa (aq aL (pv 0) ag) (aa (aq aL (pv 0) ag) (aa (aq aL (pv 0) ag) (aa (aq aL (pv 0) ag) ab))))))) aA)
   (ah (aN (aC bC (aq aL (pv 0) ag) aI) (ai (al (dJ (T.mk_ 4 zd) F4 hr.m rfl (T.mg 4 zd) b4 .nil dZ (aa (aq aL (pv 0) ag) (aa (aq aL (pv 0) ag) ab))))) aA)
   (ah (aN (aC bC (aq aL (pv 0) ag) aI) (ai (al (dJ (T.mk_ 5 zd) F5 hr.m rfl (T.mg 5 zd) b5 .nil dZ (aa (aq aL (pv 0) ag) (aa (aq aL (pv 0) ag) ab))))) aA)
   (ai (al (dJ (T.mk_ 6 zd) F6 hr.m rfl (T.mg 6 zd) b6 .nil dZ (aa (aq aL (pv 0) ag) (aa (aq aL (pv 0) ag) ab))))))))))),?_⟩
  refine ⟨_,rfl,v,_,rfl,ht.tol,fun H1 s1=>⟨_,rfl,cb ?_⟩⟩;have ht1:=ht.kt (CC s1);cases ht1 with
  | @get p n s x hp hn hs hc=>
   refine ⟨_,rfl,p,_,_,_,rfl,rfl,CI.of hp,rfl,rfl,_,rfl,db zk ?_⟩;refine ⟨_,rfl,p,_,_,_,rfl,rfl,CI.of hp,rfl,_,rfl,p,_,_,_,rfl,rfl,CI.of hp,rfl,fun x dx nx nd ne=>⟨x,dx,_,_,rfl,af,rfl,?_⟩⟩;exact q _ _ (s1.trans (ak nx (ak nx (ak nx (ae nd))))) (.get af ((ak nx (ak nx (ak nx (ae nd)))) _ _ hp) hn (hs.kt (CC (ak nx (ak nx (ak nx (ae nd)))))) hc)
  | @ask p n s x hp hn hs hc=>
   refine ⟨_,rfl,p,_,_,_,rfl,rfl,CI.of hp,rfl,rfl,_,rfl,bp zk ?_⟩;refine ⟨_,rfl,p,_,_,_,rfl,rfl,CI.of hp,rfl,rfl,_,rfl,db zk ?_⟩;refine ⟨_,rfl,p,_,_,_,rfl,rfl,CI.of hp,rfl,_,rfl,p,_,_,_,rfl,rfl,CI.of hp,rfl,fun x dx nx nd ne=>⟨x,dx,_,_,rfl,af,rfl,?_⟩⟩;exact q _ _ (s1.trans (ak nx (ak nx (ak nx (ae nd))))) (.ask af ((ak nx (ak nx (ak nx (ae nd)))) _ _ hp) hn (hs.kt (CC (ak nx (ak nx (ak nx (ae nd)))))) hc)
  | @cell p n s x hp hn hs hc=>
   refine ⟨_,rfl,p,_,_,_,rfl,rfl,CI.of hp,rfl,rfl,_,rfl,bp zk ?_⟩;refine ⟨_,rfl,p,_,_,_,rfl,rfl,CI.of hp,rfl,rfl,_,rfl,bp zk ?_⟩;refine ⟨_,rfl,p,_,_,_,rfl,rfl,CI.of hp,rfl,rfl,_,rfl,db zk ?_⟩;refine ⟨_,rfl,p,_,_,_,rfl,rfl,CI.of hp,rfl,_,rfl,p,_,_,_,rfl,rfl,CI.of hp,rfl,fun x dx nx nd ne=>⟨x,dx,_,_,rfl,af,rfl,?_⟩⟩;exact q _ _ (s1.trans (ak nx (ak nx (ak nx (ae nd))))) (.cell af ((ak nx (ak nx (ak nx (ae nd)))) _ _ hp) hn (hs.kt (CC (ak nx (ak nx (ak nx (ae nd)))))) hc)
  | @two p n f s s' x y hp hn hf hs hc hs2 hc2=>
   refine ⟨_,rfl,p,_,_,_,rfl,rfl,CI.of hp,rfl,rfl,_,rfl,bp zk ?_⟩;refine ⟨_,rfl,p,_,_,_,rfl,rfl,CI.of hp,rfl,rfl,_,rfl,bp zk ?_⟩;refine ⟨_,rfl,p,_,_,_,rfl,rfl,CI.of hp,rfl,rfl,_,rfl,bp zk ?_⟩;refine ⟨_,rfl,p,_,_,_,rfl,rfl,CI.of hp,rfl,rfl,_,rfl,db zk ?_⟩;refine ⟨_,rfl,p,_,_,_,rfl,rfl,CI.of hp,rfl,_,rfl,p,_,_,_,rfl,rfl,CI.of hp,rfl,_,rfl,p,_,_,_,rfl,rfl,CI.of hp,rfl,_,rfl,p,_,_,_,rfl,rfl,CI.of hp,rfl,fun x dx nx nd ne=>⟨x,dx,_,_,_,_,rfl,af,rfl,?_⟩⟩;exact q _ _ (s1.trans (ak nx (ak nx (ak nx (ak nx (ak nx (ae nd))))))) (.two af ((ak nx (ak nx (ak nx (ak nx (ak nx (ae nd)))))) _ _ hp) hn hf (hs.kt (CC (ak nx (ak nx (ak nx (ak nx (ak nx (ae nd)))))))) hc (hs2.kt (CC (ak nx (ak nx (ak nx (ak nx (ak nx (ae nd)))))))) hc2)
  | @put p s s' x y hp hs hc hs2 hc2=>
   refine ⟨_,rfl,p,_,_,_,rfl,rfl,CI.of hp,rfl,rfl,_,rfl,bp zk ?_⟩;refine ⟨_,rfl,p,_,_,_,rfl,rfl,CI.of hp,rfl,rfl,_,rfl,bp zk ?_⟩;refine ⟨_,rfl,p,_,_,_,rfl,rfl,CI.of hp,rfl,rfl,_,rfl,bp zk ?_⟩;refine ⟨_,rfl,p,_,_,_,rfl,rfl,CI.of hp,rfl,rfl,_,rfl,bp zk ?_⟩;refine ⟨_,rfl,p,_,_,_,rfl,rfl,CI.of hp,rfl,rfl,_,rfl,db zk ?_⟩;refine ⟨_,rfl,p,_,_,_,rfl,rfl,CI.of hp,rfl,_,rfl,p,_,_,_,rfl,rfl,CI.of hp,rfl,fun x dx nx nd ne=>⟨x,dx,_,_,rfl,af,rfl,?_⟩⟩;exact q _ _ (s1.trans (ak nx (ak nx (ak nx (ae nd))))) (.put af ((ak nx (ak nx (ak nx (ae nd)))) _ _ hp) (hs.kt (CC (ak nx (ak nx (ak nx (ae nd)))))) hc (hs2.kt (CC (ak nx (ak nx (ak nx (ae nd)))))) hc2)
  | @tell p s s' x y hp hs hc hs2 hc2=>
   refine ⟨_,rfl,p,_,_,_,rfl,rfl,CI.of hp,rfl,rfl,_,rfl,bp zk ?_⟩;refine ⟨_,rfl,p,_,_,_,rfl,rfl,CI.of hp,rfl,rfl,_,rfl,bp zk ?_⟩;refine ⟨_,rfl,p,_,_,_,rfl,rfl,CI.of hp,rfl,rfl,_,rfl,bp zk ?_⟩;refine ⟨_,rfl,p,_,_,_,rfl,rfl,CI.of hp,rfl,rfl,_,rfl,bp zk ?_⟩;refine ⟨_,rfl,p,_,_,_,rfl,rfl,CI.of hp,rfl,rfl,_,rfl,bp zk ?_⟩;refine ⟨_,rfl,p,_,_,_,rfl,rfl,CI.of hp,rfl,rfl,_,rfl,db zk ?_⟩;refine ⟨_,rfl,p,_,_,_,rfl,rfl,CI.of hp,rfl,_,rfl,p,_,_,_,rfl,rfl,CI.of hp,rfl,fun x dx nx nd ne=>⟨x,dx,_,_,rfl,af,rfl,?_⟩⟩;exact q _ _ (s1.trans (ak nx (ak nx (ak nx (ae nd))))) (.tell af ((ak nx (ak nx (ak nx (ae nd)))) _ _ hp) (hs.kt (CC (ak nx (ak nx (ak nx (ae nd)))))) hc (hs2.kt (CC (ak nx (ak nx (ak nx (ae nd)))))) hc2)
  | @store p s s' x y hp hs hc hs2 hc2=>
   refine ⟨_,rfl,p,_,_,_,rfl,rfl,CI.of hp,rfl,rfl,_,rfl,bp zk ?_⟩;refine ⟨_,rfl,p,_,_,_,rfl,rfl,CI.of hp,rfl,rfl,_,rfl,bp zk ?_⟩;refine ⟨_,rfl,p,_,_,_,rfl,rfl,CI.of hp,rfl,rfl,_,rfl,bp zk ?_⟩;refine ⟨_,rfl,p,_,_,_,rfl,rfl,CI.of hp,rfl,rfl,_,rfl,bp zk ?_⟩;refine ⟨_,rfl,p,_,_,_,rfl,rfl,CI.of hp,rfl,rfl,_,rfl,bp zk ?_⟩;refine ⟨_,rfl,p,_,_,_,rfl,rfl,CI.of hp,rfl,rfl,_,rfl,bp zk ?_⟩;refine ⟨_,rfl,p,_,_,_,rfl,rfl,CI.of hp,rfl,_,rfl,p,_,_,_,rfl,rfl,CI.of hp,rfl,fun x dx nx nd ne=>⟨x,dx,_,_,rfl,af,rfl,?_⟩⟩;exact q _ _ (s1.trans (ak nx (ak nx (ak nx (ae nd))))) (.store af ((ak nx (ak nx (ak nx (ae nd)))) _ _ hp) (hs.kt (CC (ak nx (ak nx (ak nx (ae nd)))))) hc (hs2.kt (CC (ak nx (ak nx (ak nx (ae nd)))))) hc2)
end
inductive mU (C:Nat->Addr) (ks:List Nat) (vs:List V) (H:Hp) (Q:VK) (Z3:XK):Prop
 | mk (v m:_):vs=[v]->CN C H v m->m.kind∈ks->(∀ p,H p=none->Q (.ref p) (aB H p (.lst (Cy (kg m)))))->mU C ks vs H Q Z3
inductive lA (C:Nat->Addr) (ks:List Nat) (vs:List V) (H:Hp) (Q:VK) (Z3:XK):Prop
 | mk (v m:_):vs=[v]->CN C H v m->m.kind∈ks->(∀ p us,H p=none->Paired (CS H) us m.src->Q (.ref p) (aB H p (.lst us)))->lA C ks vs H Q Z3
inductive ul (C:Nat->Addr) (ks:List Nat) (vs:List V) (H:Hp) (Q:VK) (Z3:XK):Prop
 | mk (v m:_):vs=[v]->CN C H v m->m.kind∈ks->Q (.bl (decide (m.kind≠3))) H->ul C ks vs H Q Z3
section
variable {P:Program} {w:World} {K:ZF} {mg:Str->Option Value} {base:Heap} {C fi:Nat->Addr}
abbrev vY:Stmt:=bf (cG 42) 3
theorem xV:ar ["self"] ["self"] (aj vY):=cE zk
theorem mV (F:C7 K "targets" "Step.targets" vY f fd) (T:Ct K mg C fi):aT P w K mg base bT 1 f fd ["self"] (mU C [4,5,6]):=by
 have ZZ:=xV
 walk_at "o"
 ·obtain ⟨v,m,rfl,hv,hk,q⟩:=h;refine ⟨_,ai (al (au ab)),?_⟩;cases hv with
  | @get a dx n v ha hn=>
   exact absurd hk (by show ¬ 0∈([4,5,6]:List Nat);decide)
  | @ask a dx n v ha hn=>
   exact absurd hk (by show ¬ 1∈([4,5,6]:List Nat);decide)
  | @cell a dx n s o ha hn hs=>
   exact absurd hk (by show ¬ 2∈([4,5,6]:List Nat);decide)
  | @two a dx n f s s' o o' ha hn hs hs2=>
   exact absurd hk (by show ¬ 3∈([4,5,6]:List Nat);decide)
  | @put a dx v s o ha hs=>
   exact ⟨CM,fun p hp=>q p hp⟩
  | @tell a dx v s o ha hs=>
   exact ⟨CM,fun p hp=>q p hp⟩
  | @store a dx s s' o o' ha hs hs2=>
   exact ⟨CM,fun p hp=>q p hp⟩
abbrev vZ:Stmt:=bf (cG 43) 4
theorem xW:ar ["self"] ["self"] (aj vZ):=cE zk
theorem v0 (F:C7 K "targets" "Get.targets" vZ f fd) (T:Ct K mg C fi):aT P w K mg base bT 1 f fd ["self"] (mU C [0]):=by
 have ZZ:=xW
 walk_at "o"
 ·obtain ⟨v,m,rfl,hv,hk,q⟩:=h;refine ⟨_,ai (al (au (aa (da (pv 0) rfl) ab))),?_⟩;cases hv with
  | @get a dx n v ha hn=>
   exact ⟨_,rfl,a,C 0,dx,_,_,rfl,ha,T.cls 0 zd,T.na 0 zd "to" zk,rfl,CM,fun p hp=>q p hp⟩
  | @ask a dx n v ha hn=>
   exact absurd hk (by show ¬ 1∈([0]:List Nat);decide)
  | @cell a dx n s o ha hn hs=>
   exact absurd hk (by show ¬ 2∈([0]:List Nat);decide)
  | @two a dx n f s s' o o' ha hn hs hs2=>
   exact absurd hk (by show ¬ 3∈([0]:List Nat);decide)
  | @put a dx v s o ha hs=>
   exact absurd hk (by show ¬ 4∈([0]:List Nat);decide)
  | @tell a dx v s o ha hs=>
   exact absurd hk (by show ¬ 5∈([0]:List Nat);decide)
  | @store a dx s s' o o' ha hs hs2=>
   exact absurd hk (by show ¬ 6∈([0]:List Nat);decide)
abbrev wc:Stmt:=bf (cG 44) 4
theorem xX:ar ["self"] ["self"] (aj wc):=cE zk
theorem wd (F:C7 K "targets" "Ask.targets" wc f fd) (T:Ct K mg C fi):aT P w K mg base bT 1 f fd ["self"] (mU C [1]):=by
 have ZZ:=xX
 walk_at "o"
 ·obtain ⟨v,m,rfl,hv,hk,q⟩:=h;refine ⟨_,ai (al (au (aa (da (pv 0) rfl) ab))),?_⟩;cases hv with
  | @get a dx n v ha hn=>
   exact absurd hk (by show ¬ 0∈([1]:List Nat);decide)
  | @ask a dx n v ha hn=>
   exact ⟨_,rfl,a,C 1,dx,_,_,rfl,ha,T.cls 1 zd,T.na 1 zd "to" zk,rfl,CM,fun p hp=>q p hp⟩
  | @cell a dx n s o ha hn hs=>
   exact absurd hk (by show ¬ 2∈([1]:List Nat);decide)
  | @two a dx n f s s' o o' ha hn hs hs2=>
   exact absurd hk (by show ¬ 3∈([1]:List Nat);decide)
  | @put a dx v s o ha hs=>
   exact absurd hk (by show ¬ 4∈([1]:List Nat);decide)
  | @tell a dx v s o ha hs=>
   exact absurd hk (by show ¬ 5∈([1]:List Nat);decide)
  | @store a dx s s' o o' ha hs hs2=>
   exact absurd hk (by show ¬ 6∈([1]:List Nat);decide)
abbrev we:Stmt:=bf (cG 45) 4
theorem xY:ar ["self"] ["self"] (aj we):=cE zk
theorem wf (F:C7 K "targets" "Cell.targets" we f fd) (T:Ct K mg C fi):aT P w K mg base bT 1 f fd ["self"] (mU C [2]):=by
 have ZZ:=xY
 walk_at "o"
 ·obtain ⟨v,m,rfl,hv,hk,q⟩:=h;refine ⟨_,ai (al (au (aa (da (pv 0) rfl) ab))),?_⟩;cases hv with
  | @get a dx n v ha hn=>
   exact absurd hk (by show ¬ 0∈([2]:List Nat);decide)
  | @ask a dx n v ha hn=>
   exact absurd hk (by show ¬ 1∈([2]:List Nat);decide)
  | @cell a dx n s o ha hn hs=>
   exact ⟨_,rfl,a,C 2,dx,_,_,rfl,ha,T.cls 2 zd,T.na 2 zd "to" zk,rfl,CM,fun p hp=>q p hp⟩
  | @two a dx n f s s' o o' ha hn hs hs2=>
   exact absurd hk (by show ¬ 3∈([2]:List Nat);decide)
  | @put a dx v s o ha hs=>
   exact absurd hk (by show ¬ 4∈([2]:List Nat);decide)
  | @tell a dx v s o ha hs=>
   exact absurd hk (by show ¬ 5∈([2]:List Nat);decide)
  | @store a dx s s' o o' ha hs hs2=>
   exact absurd hk (by show ¬ 6∈([2]:List Nat);decide)
abbrev wg:Stmt:=bf (cG 46) 5
theorem xZ:ar ["self"] ["self"] (aj wg):=cE zk
theorem wj (F:C7 K "targets" "Two.targets" wg f fd) (T:Ct K mg C fi):aT P w K mg base bT 1 f fd ["self"] (mU C [3]):=by
 have ZZ:=xZ
 walk_at "o"
 ·obtain ⟨v,m,rfl,hv,hk,q⟩:=h;refine ⟨_,ai (al (au (aa (da (pv 0) rfl) ab))),?_⟩;cases hv with
  | @get a dx n v ha hn=>
   exact absurd hk (by show ¬ 0∈([3]:List Nat);decide)
  | @ask a dx n v ha hn=>
   exact absurd hk (by show ¬ 1∈([3]:List Nat);decide)
  | @cell a dx n s o ha hn hs=>
   exact absurd hk (by show ¬ 2∈([3]:List Nat);decide)
  | @two a dx n f s s' o o' ha hn hs hs2=>
   exact ⟨_,rfl,a,C 3,dx,_,_,rfl,ha,T.cls 3 zd,T.na 3 zd "to" zk,rfl,CM,fun p hp=>q p hp⟩
  | @put a dx v s o ha hs=>
   exact absurd hk (by show ¬ 4∈([3]:List Nat);decide)
  | @tell a dx v s o ha hs=>
   exact absurd hk (by show ¬ 5∈([3]:List Nat);decide)
  | @store a dx s s' o o' ha hs hs2=>
   exact absurd hk (by show ¬ 6∈([3]:List Nat);decide)
abbrev wk:Stmt:=bf (cG 42) 1
theorem ya:ar ["self"] ["self"] (aj wk):=cE zk
theorem rV (F:C7 K "sources" "Step.sources" wk f fd) (T:Ct K mg C fi):aT P w K mg base bT 1 f fd ["self"] (lA C [0,1]):=by
 have ZZ:=ya
 walk_at "o"
 ·obtain ⟨v,m,rfl,hv,hk,q⟩:=h;refine ⟨_,ai (al (au ab)),?_⟩;cases hv with
  | @get a dx n v ha hn=>
   exact ⟨CM,fun p hp=>q p [] hp .nil⟩
  | @ask a dx n v ha hn=>
   exact ⟨CM,fun p hp=>q p [] hp .nil⟩
  | @cell a dx n s o ha hn hs=>
   exact absurd hk (by show ¬ 2∈([0,1]:List Nat);decide)
  | @two a dx n f s s' o o' ha hn hs hs2=>
   exact absurd hk (by show ¬ 3∈([0,1]:List Nat);decide)
  | @put a dx v s o ha hs=>
   exact absurd hk (by show ¬ 4∈([0,1]:List Nat);decide)
  | @tell a dx v s o ha hs=>
   exact absurd hk (by show ¬ 5∈([0,1]:List Nat);decide)
  | @store a dx s s' o o' ha hs hs2=>
   exact absurd hk (by show ¬ 6∈([0,1]:List Nat);decide)
abbrev wl:Stmt:=bf (cG 45) 3
theorem yb:ar ["self"] ["self"] (aj wl):=cE zk
theorem wm (F:C7 K "sources" "Cell.sources" wl f fd) (T:Ct K mg C fi):aT P w K mg base bT 1 f fd ["self"] (lA C [2]):=by
 have ZZ:=yb
 walk_at "o"
 ·obtain ⟨v,m,rfl,hv,hk,q⟩:=h;refine ⟨_,ai (al (au (aa (da (pv 0) rfl) ab))),?_⟩;cases hv with
  | @get a dx n v ha hn=>
   exact absurd hk (by show ¬ 0∈([2]:List Nat);decide)
  | @ask a dx n v ha hn=>
   exact absurd hk (by show ¬ 1∈([2]:List Nat);decide)
  | @cell a dx n s o ha hn hs=>
   exact ⟨_,rfl,a,C 2,dx,_,_,rfl,ha,T.cls 2 zd,T.na 2 zd "source" zk,rfl,CM,fun p hp=>q p _ hp (.cons hs .nil)⟩
  | @two a dx n f s s' o o' ha hn hs hs2=>
   exact absurd hk (by show ¬ 3∈([2]:List Nat);decide)
  | @put a dx v s o ha hs=>
   exact absurd hk (by show ¬ 4∈([2]:List Nat);decide)
  | @tell a dx v s o ha hs=>
   exact absurd hk (by show ¬ 5∈([2]:List Nat);decide)
  | @store a dx s s' o o' ha hs hs2=>
   exact absurd hk (by show ¬ 6∈([2]:List Nat);decide)
abbrev wn:Stmt:=bf (cG 47) 4
theorem yc:ar ["self"] ["self"] (aj wn):=cE zk
theorem wo (F:C7 K "sources" "Put.sources" wn f fd) (T:Ct K mg C fi):aT P w K mg base bT 1 f fd ["self"] (lA C [4]):=by
 have ZZ:=yc
 walk_at "o"
 ·obtain ⟨v,m,rfl,hv,hk,q⟩:=h;refine ⟨_,ai (al (au (aa (da (pv 0) rfl) ab))),?_⟩;cases hv with
  | @get a dx n v ha hn=>
   exact absurd hk (by show ¬ 0∈([4]:List Nat);decide)
  | @ask a dx n v ha hn=>
   exact absurd hk (by show ¬ 1∈([4]:List Nat);decide)
  | @cell a dx n s o ha hn hs=>
   exact absurd hk (by show ¬ 2∈([4]:List Nat);decide)
  | @two a dx n f s s' o o' ha hn hs hs2=>
   exact absurd hk (by show ¬ 3∈([4]:List Nat);decide)
  | @put a dx v s o ha hs=>
   exact ⟨_,rfl,a,C 4,dx,_,_,rfl,ha,T.cls 4 zd,T.na 4 zd "source" zk,rfl,CM,fun p hp=>q p _ hp (.cons hs .nil)⟩
  | @tell a dx v s o ha hs=>
   exact absurd hk (by show ¬ 5∈([4]:List Nat);decide)
  | @store a dx s s' o o' ha hs hs2=>
   exact absurd hk (by show ¬ 6∈([4]:List Nat);decide)
abbrev wq:Stmt:=bf (cG 48) 4
theorem yd:ar ["self"] ["self"] (aj wq):=cE zk
theorem wt (F:C7 K "sources" "Tell.sources" wq f fd) (T:Ct K mg C fi):aT P w K mg base bT 1 f fd ["self"] (lA C [5]):=by
 have ZZ:=yd
 walk_at "o"
 ·obtain ⟨v,m,rfl,hv,hk,q⟩:=h;refine ⟨_,ai (al (au (aa (da (pv 0) rfl) ab))),?_⟩;cases hv with
  | @get a dx n v ha hn=>
   exact absurd hk (by show ¬ 0∈([5]:List Nat);decide)
  | @ask a dx n v ha hn=>
   exact absurd hk (by show ¬ 1∈([5]:List Nat);decide)
  | @cell a dx n s o ha hn hs=>
   exact absurd hk (by show ¬ 2∈([5]:List Nat);decide)
  | @two a dx n f s s' o o' ha hn hs hs2=>
   exact absurd hk (by show ¬ 3∈([5]:List Nat);decide)
  | @put a dx v s o ha hs=>
   exact absurd hk (by show ¬ 4∈([5]:List Nat);decide)
  | @tell a dx v s o ha hs=>
   exact ⟨_,rfl,a,C 5,dx,_,_,rfl,ha,T.cls 5 zd,T.na 5 zd "source" zk,rfl,CM,fun p hp=>q p _ hp (.cons hs .nil)⟩
  | @store a dx s s' o o' ha hs hs2=>
   exact absurd hk (by show ¬ 6∈([5]:List Nat);decide)
abbrev wu:Stmt:=bf (cG 46) 4
theorem ye:ar ["self"] ["self"] (aj wu):=cE zk
theorem wv (F:C7 K "sources" "Two.sources" wu f fd) (T:Ct K mg C fi):aT P w K mg base bT 1 f fd ["self"] (lA C [3]):=by
 have ZZ:=ye
 walk_at "o"
 ·obtain ⟨v,m,rfl,hv,hk,q⟩:=h;refine ⟨_,ai (al (au (aa (da (pv 0) rfl) (aa (da (pv 0) rfl) ab)))),?_⟩;cases hv with
  | @get a dx n v ha hn=>
   exact absurd hk (by show ¬ 0∈([3]:List Nat);decide)
  | @ask a dx n v ha hn=>
   exact absurd hk (by show ¬ 1∈([3]:List Nat);decide)
  | @cell a dx n s o ha hn hs=>
   exact absurd hk (by show ¬ 2∈([3]:List Nat);decide)
  | @two a dx n f s s' o o' ha hn hs hs2=>
   exact ⟨_,rfl,a,C 3,dx,_,_,rfl,ha,T.cls 3 zd,T.na 3 zd "one" zk,rfl,_,rfl,a,C 3,dx,_,_,rfl,ha,T.cls 3 zd,T.na 3 zd "other" zk,rfl,CM,fun p hp=>q p _ hp (.cons hs (.cons hs2 .nil))⟩
  | @put a dx v s o ha hs=>
   exact absurd hk (by show ¬ 4∈([3]:List Nat);decide)
  | @tell a dx v s o ha hs=>
   exact absurd hk (by show ¬ 5∈([3]:List Nat);decide)
  | @store a dx s s' o o' ha hs hs2=>
   exact absurd hk (by show ¬ 6∈([3]:List Nat);decide)
abbrev ww:Stmt:=bf (cG 49) 3
theorem yf:ar ["self"] ["self"] (aj ww):=cE zk
theorem wx (F:C7 K "sources" "Store.sources" ww f fd) (T:Ct K mg C fi):aT P w K mg base bT 1 f fd ["self"] (lA C [6]):=by
 have ZZ:=yf
 walk_at "o"
 ·obtain ⟨v,m,rfl,hv,hk,q⟩:=h;refine ⟨_,ai (al (au (aa (da (pv 0) rfl) (aa (da (pv 0) rfl) ab)))),?_⟩;cases hv with
  | @get a dx n v ha hn=>
   exact absurd hk (by show ¬ 0∈([6]:List Nat);decide)
  | @ask a dx n v ha hn=>
   exact absurd hk (by show ¬ 1∈([6]:List Nat);decide)
  | @cell a dx n s o ha hn hs=>
   exact absurd hk (by show ¬ 2∈([6]:List Nat);decide)
  | @two a dx n f s s' o o' ha hn hs hs2=>
   exact absurd hk (by show ¬ 3∈([6]:List Nat);decide)
  | @put a dx v s o ha hs=>
   exact absurd hk (by show ¬ 4∈([6]:List Nat);decide)
  | @tell a dx v s o ha hs=>
   exact absurd hk (by show ¬ 5∈([6]:List Nat);decide)
  | @store a dx s s' o o' ha hs hs2=>
   exact ⟨_,rfl,a,C 6,dx,_,_,rfl,ha,T.cls 6 zd,T.na 6 zd "at" zk,rfl,_,rfl,a,C 6,dx,_,_,rfl,ha,T.cls 6 zd,T.na 6 zd "source" zk,rfl,CM,fun p hp=>q p _ hp (.cons hs (.cons hs2 .nil))⟩
abbrev wz:Stmt:=bf (cG 42) 0
theorem yg:ar ["self"] ["self"] (aj wz):=cE zk
theorem gz (F:C7 K "uses_way" "Step.uses_way" wz f fd) (T:Ct K mg C fi):aT P w K mg base bT 1 f fd ["self"] (ul C [0,1,2,4,5,6]):=by
 have ZZ:=yg
 walk_at "o"
 ·obtain ⟨v,m,rfl,hv,hk,q⟩:=h;refine ⟨_,ai (al bG),?_⟩;cases hv with
  | @get a dx n v ha hn=>
   exact q
  | @ask a dx n v ha hn=>
   exact q
  | @cell a dx n s o ha hn hs=>
   exact q
  | @two a dx n f s s' o o' ha hn hs hs2=>
   exact absurd hk (by show ¬ 3∈([0,1,2,4,5,6]:List Nat);decide)
  | @put a dx v s o ha hs=>
   exact q
  | @tell a dx v s o ha hs=>
   exact q
  | @store a dx s s' o o' ha hs hs2=>
   exact q
abbrev wB:Stmt:=bf (cG 46) 3
theorem yh:ar ["self"] ["self"] (aj wB):=cE zk
theorem wC (F:C7 K "uses_way" "Two.uses_way" wB f fd) (T:Ct K mg C fi):aT P w K mg base bT 1 f fd ["self"] (ul C [3]):=by
 have ZZ:=yh
 walk_at "o"
 ·obtain ⟨v,m,rfl,hv,hk,q⟩:=h;refine ⟨_,ai (al bG),?_⟩;cases hv with
  | @get a dx n v ha hn=>
   exact absurd hk (by show ¬ 0∈([3]:List Nat);decide)
  | @ask a dx n v ha hn=>
   exact absurd hk (by show ¬ 1∈([3]:List Nat);decide)
  | @cell a dx n s o ha hn hs=>
   exact absurd hk (by show ¬ 2∈([3]:List Nat);decide)
  | @two a dx n f s s' o o' ha hn hs hs2=>
   exact q
  | @put a dx v s o ha hs=>
   exact absurd hk (by show ¬ 4∈([3]:List Nat);decide)
  | @tell a dx v s o ha hs=>
   exact absurd hk (by show ¬ 5∈([3]:List Nat);decide)
  | @store a dx s s' o o' ha hs hs2=>
   exact absurd hk (by show ¬ 6∈([3]:List Nat);decide)
end
structure rW (mg:Str->Option Value):Prop where
 sorted:mg "sorted"=none
 set:mg "set"=none
 any:mg "any"=none
 enumerate:mg "enumerate"=none
 reversed:mg "reversed"=none
theorem cY:bootBuiltins "sorted"=some (.builtin "sorted"):=by decide +kernel
theorem jG:bootBuiltins "set"=some (.type "set"):=by decide +kernel
theorem pS:bootBuiltins "any"=some (.builtin "any"):=by decide +kernel
def rN (k:Nat):Str:="r"++(toString (k:Int):Str)
def aJ (l:List Str):List V:=l.map V.str
def rX (m:Md) (ns:List Nat):List Str:=(CF ns).map rN++(if m.kind=3 then [] else [("way":Str)])
def pT (m:Md):List Nat:=m.src.filterMap id
def cO (m:Md):List Str:=rX m (pT m)
def bg (m:Md):List Str:=rX m (kg m)
theorem mX:∀ k < 8,((k:Nat):Int).natAbs.log2 < 1920:=by decide
theorem wD:∀ k < 8,(rN k).length<=10:=by decide +kernel
theorem CN.in8 {C:Nat->Addr} {m:Md} (h:CN C H v m):(pT m).length<=2/\∀ k∈pT m,k < 8:=by
 have one:∀ {s:V} {o:Option Nat},CS H s o->∀ k,o=some k->k < 8:=by
  rintro s o ⟨p,n,i,_,_,⟨_,h0,h7,e⟩|⟨_,_,_,e⟩|⟨_,_,_,e⟩⟩ k hk
  ·rw [e] at hk;have:=Be hk;lia
  ·rw [e] at hk;cases hk
  ·rw [e] at hk;cases hk
 have two:∀ {l:List (Option Nat)},l.length<=2->(∀ o∈l,∀ k,o=some k->k < 8)->(l.filterMap id).length<=2/\∀ k∈l.filterMap id,k < 8:=by
  intro l hl ho;refine ⟨A8 (List.length_filterMap_le _ _) hl,fun k hk=>?_⟩;obtain ⟨o,h1,h2⟩:=List.mem_filterMap.mp hk;exact ho o h1 k h2
 cases h with
 | get a b=>exact two (by simp) (by simp)
 | ask a b=>exact two (by simp) (by simp)
 | cell a b c=>exact two (by simp) (by intro o ho;rw [AU.mp ho];exact one c)
 | two a b c d=>exact two (by simp) (by
   intro o ho;rcases AZ.mp ho with z|z
   ·rw [z];exact one c
   ·rw [AU.mp z];exact one d)
 | put a c=>exact two (by simp) (by intro o ho;rw [AU.mp ho];exact one c)
 | tell a c=>exact two (by simp) (by intro o ho;rw [AU.mp ho];exact one c)
 | store a c d=>exact two (by simp) (by
   intro o ho;rcases AZ.mp ho with z|z
   ·rw [z];exact one c
   ·rw [AU.mp z];exact one d)
def iI (P:Program) (w:World) (K:ZF) (mg:Str->Option Value) (base:Heap) (C:Addr) (nm:Str) (n:Nat) (ps:List Str) (sp:Sp):Prop:=∃ f fd,tU K C nm f/\aT P w K mg base bT n f fd ps sp/\Dv K fd ps []
structure zH (P:Program) (w:World) (K:ZF) (mg:Str->Option Value) (base:Heap) (C:Nat->Addr):Prop where
 uw:∀ k,k < 7->∃ ks,k∈ks/\iI P w K mg base (C k) "uses_way" 1 ["self"] (ul C ks)
 so:∀ k,k < 7->∃ ks,k∈ks/\iI P w K mg base (C k) "sources" 1 ["self"] (lA C ks)
 tg:∀ k,k < 7->∃ ks,k∈ks/\iI P w K mg base (C k) "targets" 1 ["self"] (mU C ks)
abbrev eA:Stmt:=bf (cG 42) 6
abbrev kh:Stmt:=bf (cG 42) 4
abbrev kj:Stmt:=bf (cG 42) 5
inductive gA (C:Nat->Addr) (vs:List V) (H:Hp) (Q:VK) (Z3:XK):Prop
 | mk (v:V) (m:Md) (l:Addr) (ns:List Nat):vs=[v,.ref l]->CN C H v m->H l=some (.lst (Cy ns))->ns.length<=2->(∀ k∈ns,k < 8)->(∀ p H',Cw H H'->H p=none->H' p=some (.lst (aJ (rX m ns)))->Q (.ref p) H')->gA C vs H Q Z3
inductive wE (C:Nat->Addr) (vs:List V) (H:Hp) (Q:VK) (Z3:XK):Prop
 | mk (v:V) (m:Md):vs=[v]->CN C H v m->(∀ p H',Cw H H'->H p=none->H' p=some (.lst (aJ (cO m)))->Q (.ref p) H')->wE C vs H Q Z3
inductive wF (C:Nat->Addr) (vs:List V) (H:Hp) (Q:VK) (Z3:XK):Prop
 | mk (v:V) (m:Md):vs=[v]->CN C H v m->(∀ p H',Cw H H'->H p=none->H' p=some (.lst (aJ (bg m)))->Q (.ref p) H')->wF C vs H Q Z3
section
variable {P:Program} {w:World} {K:ZF} {mg:Str->Option Value} {base:Heap} {C fi:Nat->Addr}
theorem EI:ar ["self","inner","names"] ["self","inner"] (aj eA):=cE zk
theorem Az:(["r"]:List Str).Nodup:=by decide +kernel
theorem cC (F:C7 K "touched" "Step.touched" eA f fd) (T:Ct K mg C fi) (B:rW mg) (U:zH P w K mg base C):aT P w K mg base bT 2 f fd ["self","inner"] (gA C):=by
 have ZZ:=EI
 walk_at "o"
 ·obtain ⟨v,m,l,ns,rfl,hv,hl,h2,h8,q⟩:=h;have sz:(1000:Nat)<=sizeLine:=by decide
  refine ⟨_,ah (iA (i:=2) EI.nd rfl rfl (N':=["r"]) (ix:=[none]) (sc0:=aj eA) (N:=["self","inner","names"]) rfl zk (bn (ao (EY rfl) (by rfl) B.sorted cY (aa (bm (FK rfl) (by rfl) B.set jG (aa (pv 1) ab)) ab)))
    (fun C' cl s H fp=>cZ (i:=0) Az) (fun _ _ _ _ _=>cA) (fun C' cl s H fp=>Gs (pv 0)))
   (ai (al (kX (aW (De (pv 0))) (aK bH (pv 2) (au (aa aI ab))) (pv 2)))),?_⟩
  obtain ⟨f1,f2,f3⟩:=DE h2;refine ⟨_,rfl,l,ns,rfl,Cz.of hl,h2,h8,fun a na=>⟨a,CF ns,rfl,af,f1,f2,fun p np=>⟨p,rfl,⟨_,Cz.of af⟩,?_⟩⟩⟩;have s1:Cw H (aB (aB H a (E6 w a (CF ns))) p (.lst (Cy (CF ns)))):=(ae na).trans (ae np);have e1:(aB (aB H a (E6 w a (CF ns))) p (.lst (Cy (CF ns)))) p=some (.lst (Cy (CF ns))):=af;generalize hH:aB (aB H a (E6 w a (CF ns))) p (.lst (Cy (CF ns)))=H1 at s1 e1;have hH':aB (aB H a (E6 ((mJ bT P w K mg base ["self","inner","names"] "Step.touched" (aj eA) f Cr A outer s H E).nox.w) a (CF ns))) p (.lst (Cy (CF ns)))=H1:=hH;rw [hH'];refine bU (K:=K) (a:=p) (xs:=Cy (CF ns)) (fun i ys H'=>H'=H1/\ys=(aJ ((CF ns).map rN)).take i) ⟨rfl,rfl⟩ (fun i ys H' hi ⟨a1,a2⟩=>by
    subst a1 a2;refine ⟨Cz.of e1,?_⟩;rw [A7];have:(aJ ((CF ns).map rN)).length<=2:=by unfold aJ;rw [AM,AM];exact f1
    lia) ?_ ?_
  ·rintro i x ys H' hx ⟨rfl,rfl⟩;have Cu:i < (Cy (CF ns)).length:=(AN.mp hx).1;have hlt':i < (CF ns).length:=by unfold Cy at Cu;rw [AM] at Cu;exact Cu
   have ex:x=.int ((CF ns)[i]:Int):=by
    have:=(AN.mp hx).2;rw [<-this];unfold Cy;rw [List.getElem_map]
   subst ex;have k8:(CF ns)[i] < 8:=h8 _ ((f3 _).mp (Bq hlt'));refine ⟨trivial,cB ?_⟩;refine ⟨_,rfl,_,rfl,mX _ k8,A8 (wD _ k8) zd,?_⟩;refine Nx.mk Cu ⟨rfl,?_⟩;have g:(aJ ((CF ns).map rN))[i]?=some (.str (rN (CF ns)[i])):=by
    unfold aJ;rw [A5,A5,AL hlt'];rfl
   rw [By,g];rfl
  ·rintro ys H' ⟨rfl,rfl⟩ D hD;have eys:(aJ ((CF ns).map rN)).take (Cy (CF ns)).length=aJ ((CF ns).map rN):=by
    refine Bi ?_;unfold aJ Cy;rw [AM,AM,AM];exact AR _
   rw [eys];generalize zz:aB H' D _=H2;have s2:Cw H' H2:=zz ▸ ae hD;have e2:H2 D=some (.lst (aJ ((CF ns).map rN))):=zz ▸ af;clear zz;have s02:=s1.trans s2;have nD:H D=none:=s1.free hD;obtain ⟨ad,dx,fs,rfl,ha,hk,l1,_⟩:=hv.at_;obtain ⟨ks,hks,fu,fdu,Mu,Fu,Bu⟩:=U.uw m.kind hk;refine ⟨_,rfl,ad,dx,C m.kind,fu,fs,fdu,1,["self"],_,rfl,s02 _ _ ha,l1,T.cls _ hk,Mu,Fu,hr,Bu,.ref ad,m,rfl,hv.same s02,hks,_,rfl,?_⟩;refine bz (fun h=>?_) (fun h=>?_)
   ·have h3:m.kind≠3:=of_decide_eq_true h;refine ⟨_,rfl,CM,fun lw nw=>?_⟩;have s3:=ae (o:=.lst [.str "way"]) nw;refine ⟨D,lw,_,_,rfl,rfl,s3 _ _ e2,af,?_,fun r nr=>?_⟩
    ·unfold aJ;rw [AM,AM];show _+1<=_;lia
    have s4:=ae (o:=.lst (aJ ((CF ns).map rN)++[.str "way"])) nr;refine q r _ (s02.trans (s3.trans s4)) (s02.free (s3.free nr)) ?_;rw [af];unfold rX aJ;rw [if_neg h3,AY];rfl
   ·have h3:m.kind=3:=by
     by_cases z:m.kind=3
     ·exact z
     ·exact absurd (decide_eq_true z) h
    refine ⟨_,rfl,q D _ s02 nD ?_⟩;rw [e2];unfold rX;rw [if_pos h3,Ba]
end
theorem di (h:X.K=K):Gz X (pG K):=by
 subst h;exact aL
theorem dN (h:X.K=K):eG X (compareOp .In) (yO K false):=by
 subst h;exact eI
theorem iJ (x:Str) (l:List Str):jB (.str x) (aJ l)=l.contains x:=by
 unfold jB aJ;rw [List.any_map,BF,List.any_eq_true,BZ];constructor
 ·rintro ⟨y,hy,e⟩;have:y=x:=by simpa [oq] using e
  rw [<-this];exact hy
 ·intro hx;exact ⟨x,hx,by simp [oq]⟩
theorem gB (l:List Str):(aJ l).all dU=true:=by
 unfold aJ;rw [Ch,BC];intro x _;rfl
def ff (names:List Str) (m:Md):Bool:=names.any fun x=>(cO m++bg m).contains x
def cW (a b:Md):Bool:=ff (bg a) b || ff (bg b) a
theorem ib {m:Md} {ns:List Nat} (h:ns.length<=2):(rX m ns).length<=3:=by
 obtain ⟨f1,_⟩:=DE h;unfold rX;rw [AT,AM];split<;>simp<;>lia
structure wG (P:Program) (w:World) (K:ZF) (mg:Str->Option Value) (base:Heap) (C:Nat->Addr):Prop extends zH P w K mg base C where
 to:∀ k,k < 7->iI P w K mg base (C k) "touched" 2 ["self","inner"] (gA C)
structure wH (P:Program) (w:World) (K:ZF) (mg:Str->Option Value) (base:Heap) (C:Nat->Addr):Prop where
 rd:∀ k,k < 7->iI P w K mg base (C k) "reads" 3 ["self"] (wE C)
 wr:∀ k,k < 7->iI P w K mg base (C k) "writes" 3 ["self"] (wF C)
section
variable {P:Program} {w:World} {K:ZF} {mg:Str->Option Value} {base:Heap} {C fi:Nat->Addr}
theorem rY:ar ["self"] ["self"] (aj kj):=cE zk
theorem cP (F:C7 K "writes" "Step.writes" kj f fd) (T:Ct K mg C fi) (U:wG P w K mg base C):aT P w K mg base bT 3 f fd ["self"] (wF C):=by
 have ZZ:=rY
 walk_at "o"
 ·obtain ⟨v,m,rfl,hv,q⟩:=h;refine ⟨_,ai (al (Fe (pv 0) (aa (De (pv 0)) ab))),?_⟩;obtain ⟨ad,dx,fs,rfl,ha,hk,l1,l2,l3,l4,l5,l6⟩:=hv.at_;obtain ⟨ft,fdt,Mt,Ft,Bt⟩:=U.to m.kind hk;obtain ⟨ks,hks,fg,fdg,Mg,Fg,Bg⟩:=U.tg m.kind hk;refine ⟨_,rfl,ad,dx,C m.kind,ft,fs,fdt,2,["self","inner"],_,rfl,ha,l4,T.cls _ hk,Mt,Ft,hr,Bt,?_⟩;refine ⟨_,rfl,ad,dx,C m.kind,fg,fs,fdg,1,["self"],_,rfl,ha,l3,T.cls _ hk,Mg,Fg,hr.m,Bg,.ref ad,m,rfl,hv,hks,fun p np=>?_⟩;have s1:=ae (o:=.lst (Cy (kg m))) np;refine ⟨.ref ad,m,p,kg m,rfl,hv.same s1,af,hv.tgt8.1,hv.tgt8.2,fun r H' s2 nr er=>?_⟩;exact q r H' (s1.trans s2) (s1.free nr) er
theorem um:ar ["self"] ["self"] (aj kh):=cE zk
theorem yi:(["source"]:List Str).Nodup:=by decide +kernel
theorem de (F:C7 K "reads" "Step.reads" kh f fd) (T:Ct K mg C fi) (U:wG P w K mg base C):aT P w K mg base bT 3 f fd ["self"] (wE C):=by
 have ZZ:=um
 walk_at "o"
 ·obtain ⟨v,m,rfl,hv,q⟩:=h;have sz:(1000:Nat)<=sizeLine:=by decide
  refine ⟨_,ai (al (Fe (pv 0) (aa (cf (N':=["source"]) (ix:=[none]) (sc0:=aj kh) (N:=["self"]) rfl zk (bn (De (pv 0)))
    (fun C' cl s H fp=>cZ (i:=0) yi) (fun _ _ _ _ _=>cN (aC bC (aq (di (K:=K) rfl) (pv 0) ag) aI)) (fun C' cl s H fp=>aq (di (K:=K) rfl) (pv 0) ag (fun _ _=>rfl))) ab))),?_⟩
  obtain ⟨ad,dx,fs,rfl,ha,hk,l1,l2,l3,l4,l5,l6⟩:=hv.at_;obtain ⟨ft,fdt,Mt,Ft,Bt⟩:=U.to m.kind hk;obtain ⟨ks,hks,fg,fdg,Mg,Fg,Bg⟩:=U.so m.kind hk;refine ⟨_,rfl,ad,dx,C m.kind,ft,fs,fdt,2,["self","inner"],_,rfl,ha,l4,T.cls _ hk,Mt,Ft,hr,Bt,?_⟩;refine ⟨_,rfl,ad,dx,C m.kind,fg,fs,fdg,1,["self"],_,rfl,ha,l2,T.cls _ hk,Mg,Fg,hr.m,Bg,.ref ad,m,rfl,hv,hks,fun p us np Co=>?_⟩;generalize zz:aB H p _=H1;have ⟨s1,e1⟩:=nw np zz;clear zz;have lus:=Co.length;have l8:m.src.length<=2:=by cases hv<;>simp
  refine ⟨p,rfl,⟨_,Cz.of e1⟩,?_⟩;refine bU (K:=K) (a:=p) (xs:=us) (fun i ys H'=>H'=H1/\ys=Cy ((m.src.take i).filterMap id)) ⟨rfl,rfl⟩ (fun i ys H' hi ⟨a1,a2⟩=>by
    subst a1 a2;refine ⟨Cz.of e1,?_⟩;unfold Cy;rw [AM];have:=List.length_filterMap_le (f:=id) (l:=m.src.take i);rw [A7] at this;lia) ?_ ?_
  ·rintro i x ys H' hx ⟨rfl,rfl⟩;have Cu:i < us.length:=(AN.mp hx).1;have hlt':i < m.src.length:=by lia
   have gsrc:m.src[i]?=some m.src[i]:=AL hlt';have hso:CS H x m.src[i]:=by
    have hxs:us[i]=x:=(AN.mp hx).2;have key:∀ {a:List V} {b:List (Option Nat)},Paired (CS H) a b->∀ (j:Nat) (h1:j < a.length) (h2:j < b.length),CS H a[j] b[j]:=by
     intro a b hp;induction hp with
     | nil=>intro j h1;simp at h1
     | cons hh _ ih=>
      intro j h1 h2;cases j with
      | zero=>exact hh
      | succ j=>exact ih j (by simpa using h1) (by simpa using h2)
    have:=key Co i Cu hlt';rw [hxs] at this;exact this
   obtain ⟨ps,n,iv,rfl,hps,hn⟩:=hso;have hps1:=s1 _ _ hps;have et:m.src.take (i+1)=m.src.take i++[m.src[i]]:=by
    rw [By,gsrc];rfl
   refine ⟨trivial,_,rfl,ps,_,_,_,rfl,rfl,CI.of hps1,rfl,rfl,_,rfl,?_⟩;rcases hn with ⟨rfl,h0,h7,eo⟩|⟨rfl,h0,h7,eo⟩|⟨rfl,h0,h7,eo⟩
   ·refine db zk ?_;refine ⟨_,rfl,ps,_,_,_,rfl,rfl,CI.of hps1,rfl,?_⟩;refine Nx.mk Cu ⟨rfl,?_⟩;rw [et,List.filterMap_append,eo];unfold Cy;rw [AY];have:((iv.toNat:Nat):Int)=iv:=Int.toNat_of_nonneg h0;simp [this]
   ·refine bp zk ?_;refine Nx.mk Cu ⟨rfl,?_⟩;rw [et,List.filterMap_append,eo];simp
   ·refine bp zk ?_;refine Nx.mk Cu ⟨rfl,?_⟩;rw [et,List.filterMap_append,eo];simp
  ·rintro ys H' ⟨rfl,rfl⟩ D hD;rw [lus,Bf];have s2:=ae (o:=.lst (Cy (pT m))) hD;refine ⟨.ref ad,m,D,pT m,rfl,hv.same (s1.trans s2),af,hv.in8.1,hv.in8.2,fun r H2 s3 nr er=>?_⟩;exact q r H2 ((s1.trans s2).trans s3) ((s1.trans s2).free nr) er
inductive gC (C:Nat->Addr) (vs:List V) (H:Hp) (Q:VK) (Z3:XK):Prop
 | mk (p:Addr) (names:List Str) (v:V) (m:Md):vs=[.ref p,v]->H p=some (.lst (aJ names))->names.length<=3->CN C H v m->(∀ H',Cw H H'->Q (.bl (ff names m)) H')->gC C vs H Q Z3
inductive eO (C:Nat->Addr) (vs:List V) (H:Hp) (Q:VK) (Z3:XK):Prop
 | mk (v u:V) (m n:Md):vs=[v,u]->CN C H v m->CN C H u n->(∀ H',Cw H H'->Q (.bl (cW m n)) H')->eO C vs H Q Z3
theorem EH:ar ["names","step","touched"] ["names","step"] (aj fI):=cE zk
theorem zI:(["name","touched"]:List Str).Nodup:=by decide +kernel
theorem mY (F:C7 K "touches" "touches" fI f fd) (T:Ct K mg C fi) (B:rW mg) (U:wH P w K mg base C):aT P w K mg base bT 4 f fd ["names","step"] (gC C):=by
 have ZZ:=EH
 walk_at "o"
 ·obtain ⟨p,names,v,m,rfl,hp,h3,hv,q⟩:=h;have sz:(1000:Nat)<=sizeLine:=by decide
  refine ⟨_,ah (dH (i:=2) EH.nd rfl (Or.inr rfl) (aK bH (De (pv 1)) (De (pv 1))))
   (ai (al (ao (GA rfl) (by rfl) B.any pS (aa (cf (N':=["name","touched"]) (ix:=[none,some 2]) (sc0:=aj fI) (N:=["names","step","touched"]) rfl zk (bn (pv 0))
    (fun C' cl s H fp=>cZ (i:=0) zI) (fun _ _ _ _ _=>cA) (fun C' cl s H fp=>cH (dN (K:=K) rfl) (pv 0) (pv 1) rfl)) ab)))),?_⟩
  obtain ⟨ad,dx,fs,rfl,ha,hk,l1,l2,l3,l4,l5,l6⟩:=hv.at_;obtain ⟨fr,fdr,Mr,Fr,Br⟩:=U.rd m.kind hk;obtain ⟨fw,fdw,Mw,Fw,Bw⟩:=U.wr m.kind hk;refine ⟨_,rfl,ad,dx,C m.kind,fr,fs,fdr,3,["self"],_,rfl,ha,l5,T.cls _ hk,Mr,Fr,hr,Br,.ref ad,m,rfl,hv,fun p1 H1 s1 n1 e1=>?_⟩;refine ⟨_,rfl,ad,dx,C m.kind,fw,fs,fdw,3,["self"],_,rfl,s1 _ _ ha,l6,T.cls _ hk,Mw,Fw,hr,Bw,.ref ad,m,rfl,hv.same s1,fun p2 H2 s2 n2 e2=>?_⟩;have lr:=ib (m:=m) hv.in8.1;have lw:=ib (m:=m) hv.tgt8.1;refine ⟨p1,p2,_,_,rfl,rfl,s2 _ _ e1,e2,?_,fun p3 n3=>?_⟩
  ·unfold aJ;rw [AM,AM];have:(cO m).length<=3:=lr;have:(bg m).length<=3:=lw;lia
  have ecat:aJ (cO m)++aJ (bg m)=aJ (cO m++bg m):=by unfold aJ;rw [AY]
  rw [ecat];generalize zz:aB H2 p3 _=H3;have s3:Cw H2 H3:=zz ▸ ae n3;have e3:H3 p3=some (.lst (aJ (cO m++bg m))):=zz ▸ af;clear zz;have s03:=(s1.trans s2).trans s3;refine ⟨_,rfl,p,rfl,⟨_,Cz.of (s03 _ _ hp)⟩,?_⟩;have ln:(aJ names).length=names.length:=by unfold aJ;rw [AM]
  refine bU (K:=K) (a:=p) (xs:=aJ names) (fun i ys H'=>H'=H3/\ys=((names.take i).map fun x=>(cO m++bg m).contains x).map V.bl) ⟨rfl,rfl⟩ (fun i ys H' hi ⟨a1,a2⟩=>by
    subst a1 a2;refine ⟨Cz.of (s03 _ _ hp),?_⟩;rw [AM,AM,A7];lia) ?_ ?_
  ·rintro i x ys H' hx ⟨rfl,rfl⟩;have Cu:i < (aJ names).length:=(AN.mp hx).1;have hlt':i < names.length:=by lia
   have ex:x=.str names[i]:=by
    have:=(AN.mp hx).2;rw [<-this];unfold aJ;rw [List.getElem_map]
   subst ex;refine ⟨⟨rfl,trivial⟩,cB ?_⟩;refine ⟨_,rfl,_,rfl,p3,_,rfl,.inl (Cz.of e3),rfl,gB _,?_⟩;refine Nx.mk Cu ⟨rfl,?_⟩;have et:names.take (i+1)=names.take i++[names[i]]:=by
    rw [By,AL hlt'];rfl
   rw [et,AY,AY];show _++[V.bl (jB (.str names[i]) (aJ (cO m++bg m)))]=_;rw [iJ];rfl
  ·rintro ys H' ⟨rfl,rfl⟩ D hD;rw [ln,Bf];have s4:=ae (o:=.lst ((names.map fun x=>(cO m++bg m).contains x).map V.bl)) hD;refine ⟨D,names.map fun x=>(cO m++bg m).contains x,rfl,Cz.of af,?_⟩;have ea:(names.map fun x=>(cO m++bg m).contains x).any id=ff names m:=by
    unfold ff;rw [List.any_map];rfl
   rw [ea];exact q _ (s03.trans s4)
theorem uo:ar ["one","other"] ["one","other"] (aj mP):=cE zk
theorem rZ (F:C7 K "meets" "meets" mP f fd) (T:Ct K mg C fi) (U:wH P w K mg base C) (TC:Fn P w K mg base "touches" 4 ["names","step"] (gC C)):aT P w K mg base bT 5 f fd ["one","other"] (eO C):=by
 have ZZ:=uo
 walk_at "o"
 ·obtain ⟨v,u,m,n,rfl,hv,hu,q⟩:=h;refine ⟨_,ai (al (xt (ap TC hr rfl (aa (De (pv 0)) (aa (pv 1) ab))) (cr (ap TC hr rfl (aa (De (pv 1)) (aa (pv 0) ab)))))),?_⟩;obtain ⟨a1,dx1,fs1,rfl,ha1,hk1,_,_,_,_,_,w1⟩:=hv.at_;obtain ⟨a2,dx2,fs2,rfl,ha2,hk2,_,_,_,_,_,w2⟩:=hu.at_;obtain ⟨f1,Cn,M1,F1,B1⟩:=U.wr m.kind hk1;obtain ⟨f2,fd2,M2,F2,B2⟩:=U.wr n.kind hk2;refine ⟨_,rfl,a1,dx1,C m.kind,f1,fs1,Cn,3,["self"],_,rfl,ha1,w1,T.cls _ hk1,M1,F1,hr.m,B1,.ref a1,m,rfl,hv,fun p1 H1 s1 n1 e1=>?_⟩;refine ⟨_,rfl,p1,bg m,.ref a2,n,rfl,e1,ib hv.tgt8.1,hu.same s1,fun H2 s2=>⟨_,rfl,?_⟩⟩;have s02:=s1.trans s2;refine bz (fun h=>?_) (fun h=>?_)
  ·have:=q H2 s02;unfold cW at this;rw [h,Bool.true_or] at this;exact this
  ·refine ⟨_,rfl,a2,dx2,C n.kind,f2,fs2,fd2,3,["self"],_,rfl,s02 _ _ ha2,w2,T.cls _ hk2,M2,F2,hr.m,B2,.ref a2,n,rfl,hu.same s02,fun p3 H3 s3 n3 e3=>?_⟩;refine ⟨_,rfl,p3,bg n,.ref a1,m,rfl,e3,ib hu.tgt8.1,hv.same (s02.trans s3),fun H4 s4=>?_⟩;have:=q H4 (s02.trans (s3.trans s4));unfold cW at this;rw [BU.mpr h,Bool.false_or] at this;exact this
end
end L3
namespace L2
open PySem PySem.Spec PyProof.Rows
abbrev Kn:=cJ ⊕ List cJ
section
variable (P:Program) (w:World)
inductive Du (h:Heap):List Kn->List Value->Prop
 | nil:Du h [] []
 | key {k:cJ} {v:Value} {ks:List Kn} {vs:List Value}:(aU P w).is k v=true->Du h ks vs->Du h (.inl k::ks) (v::vs)
 | tup {l:List cJ} {a:Addr} {ks:List Kn} {vs:List Value}:IsTupleKey (aU P w) h l a->Du h ks vs->Du h (.inr l::ks) (.ref a::vs)
def Da (h:Heap) (ks:List Kn) (a:Addr):Prop:=∃ o Cv n,h.get? a=some o/\o.cls=.type "tuple"/\o.data=.seq Cv n/\Du P w h ks Cv.toList
def dv:Kn->Int
 | .inl k=>(aU P w).hash k
 | .inr l=>tupleKeyHash (aU P w) l
def eP:Kn->Nat
 | .inl _=>1
 | .inr l=>l.length+1
end
section
variable {P:Program} {w:World} {h:Heap} {s:Shared} {A:Around} {E:Value->Shared->Prop}
variable {a:Addr}
theorem jH {k:cJ}:¬ (aU P w).is k (.ref a)=true:=fun e=>by
 rcases bh e with ⟨i,t,_,e⟩|⟨x,t,_,e⟩<;>cases e
variable {vs:List Value} {x y:List Kn}
theorem Du.inj (hx:Du P w h x vs) (hy:Du P w h y vs):x=y:=by
 induction hx generalizing y with
 | nil=>cases hy;rfl
 | key h1 _ ih=>
  cases hy with
  | key h2 t2=>rw [(aU P w).inj _ _ _ h1 h2,ih t2]
  | tup h2 t2=>exact absurd h1 jH
 | tup h1 _ ih=>
  cases hy with
  | key h2 t2=>exact absurd h2 jH
  | tup h2 t2=>rw [h1.inj h2,ih t2]
variable {ks:List Kn}
theorem Da.typeIs (x:Da P w s.heap ks a):s.TypeIs (.ref a) "tuple":=let ⟨o,_,_,ho,hc,_⟩:=x;⟨o,ho,hc⟩
theorem Da.inj (hx:Da P w h x a) (hy:Da P w h y a):x=y:=by
 obtain ⟨o,Cv,n,ho,_,hd,hi⟩:=hx;obtain ⟨o',items',n',ho',_,hd',hi'⟩:=hy;obtain rfl:o=o':=Be (ho.symm.trans ho');rw [hd] at hd';injection hd' with h1 _;subst h1;exact hi.inj hi'
theorem Du.mono {h':Heap} (hx:Du P w h x vs) (k:∀ l a,IsTupleKey (aU P w) h l a->IsTupleKey (aU P w) h' l a):Du P w h' x vs:=by
 induction hx with
 | nil=>exact .nil
 | key h1 _ ih=>exact .key h1 ih
 | tup h1 _ ih=>exact .tup (k _ _ h1) ih
theorem Da.keeps {h':Heap} {a d:Addr} {o:Obj} {es ep} (x:Da P w h ks a) (ho:h.get? d=some o) (hd:o.data=.dict es ep) (hs:Heap.SameBut d h h'):Da P w h' ks a:=by
 obtain ⟨o',Cv,n,ho',hc,hd',hi⟩:=x;have Cq:a≠d:=by
  rintro rfl;obtain rfl:o'=o:=Be (ho'.symm.trans ho);rw [hd] at hd';exact nomatch hd'
 exact ⟨o',Cv,n,(hs.2 a Cq).trans ho',hc,hd',hi.mono fun _ _ t=>t.keeps ho hd hs⟩
def iK (P:Program) (w:World) (ks:List Kn):Int:=reduceHash (Builtin.Tuple.tupleHashOf (ks.map (dv P w)))
def gD (ks:List Kn):Nat:=(ks.map eP).sum+1
theorem lB {Q:Int->Shared->Prop} (hu:A.units+8 < cLine) (hk:Da P w s.heap ks a) (h:Q (iK P w ks) { s with toks:=s.toks+gD ks }) :
  wpAny (model P w) A (pyHash (.ref a)) Q E s:=by
 have hT:=hk.typeIs;obtain ⟨o,Cv,n,ho,_,hd,hi⟩:=hk;unfold pyHash;first|unfold pyHashByItsType|skip
 first|refine wpAny_bind (wpAny_cRoomFor_or (.inr zo) ?_)|skip
 refine wpAny_bind (wpAny_specialOf hT F.slot_tuple_hash.lookup ?_);show wpAny _ _ (if (some (Value.builtin "tuple.__hash__") == some Value.none)=true then _ else _) Q E s;rw [if_neg (by rw [beq_builtin_none];exact AS)];refine wpAny_bind (wpAny_specialOf hT F.slot_tuple_hash.lookup ?_);show wpAny _ _ (callSpecialIfBoundUnlessNone? (.ref a) "__hash__" _ >>= _) Q E s;refine wpAny_bind (wpAny_callSpecialIfBoundUnlessNone?_slot hT F.slot_tuple_hash (wpAny_call_entry F.slot_tuple_hash hT F.entry_tuple_hash ?_ (F.args_tuple_hash_1 _)));show wpAny _ _ (Builtin.Tuple.tupleItemsOf (.ref a) >>= _) _ _ s;refine wpAny_bind (wpAny_tupleItemsOf ho hd ?_);refine wpAny_bind ?_;rw [<-Array.forIn_toList];refine wpAny_forIn_list _
  (fun rest (b:Array Int) s'=>∃ done left,ks=done++left/\Du P w s.heap left rest/\b.toList=done.map (dv P w)/\s'={ s with toks:=s.toks+(done.map eP).sum })
  _ ?_ ?_ _ _ ⟨[],ks,rfl,hi,rfl,rfl⟩
 ·rintro x rest b s' ⟨done,left,rfl,hl,hb,rfl⟩;cases hl with
  | @key k _ ks' _ h1 hl'=>
   refine wpAny_bind ((aU P w).pyHash h1 ?_);first
    | exact wpAny_pure ⟨done++[.inl k],ks',by simp,hl',by simp [hb,dv],by simp [Nat.add_assoc,eP]⟩
    | exact wpAny_bind (wpAny_pure (wpAny_pure ⟨done++[.inl k],ks',by simp,hl',by simp [hb,dv],by simp [Nat.add_assoc,eP]⟩))
  | @tup l b' ks' _ h1 hl'=>
   refine wpAny_bind (wpAny_pyHash_tuple (by show A.units+1 < cLine;lia) h1 ?_);first
    | exact wpAny_pure ⟨done++[.inr l],ks',by simp,hl',by simp [hb,dv],by simp [Nat.add_assoc,eP]⟩
    | exact wpAny_bind (wpAny_pure (wpAny_pure ⟨done++[.inr l],ks',by simp,hl',by simp [hb,dv],by simp [Nat.add_assoc,eP]⟩))
 ·rintro b s' ⟨done,left,rfl,hl,hb,rfl⟩;cases hl;rw [Ba] at h;show wpAny _ _ (retInt (Builtin.Tuple.tupleHashOf b.toList)) _ _ _;rw [hb];refine wpAny_ret_mkInt ?_;show wpAny _ _ (if (decide (-(2:Int) ^ 63<=Builtin.Tuple.tupleHashOf (done.map (dv P w))) && decide (Builtin.Tuple.tupleHashOf (done.map (dv P w)) < 2 ^ 63))=true then _ else _) Q E _;unfold iK reduceHash gD at h;by_cases hr:(decide (-(2:Int) ^ 63<=Builtin.Tuple.tupleHashOf (done.map (dv P w))) && decide (Builtin.Tuple.tupleHashOf (done.map (dv P w)) < 2 ^ 63))=true
  ·rw [if_pos hr];rw [if_pos hr] at h;exact wpAny_pure (by simpa [Nat.add_assoc] using h)
  ·rw [if_neg hr];rw [if_neg hr] at h;exact wpAny_bind (wpAny_rule (wpAny_pure (by simpa [Nat.add_assoc] using h)))
variable {Cv:Array Value} {b:Addr} {v:Value}
theorem pU {k:cJ} (hu:A.units < cLine) (h:(aU P w).is k v=true) (ht:s.heap.IsTuple b Cv):SeqAt.EqAt A s v (.ref b) false:=by
 rcases bh h with ⟨i,t,rfl,rfl⟩|⟨x,t,rfl,rfl⟩
 ·exact SeqAt.EqAt.int_tuple i t ht hu
 ·exact SeqAt.EqAt.str_tuple x t ht hu
theorem pV {k:cJ} (hu:A.units < cLine) (h:(aU P w).is k v=true) (ht:s.heap.IsTuple b Cv):SeqAt.EqAt A s (.ref b) v false:=by
 rcases bh h with ⟨i,t,rfl,rfl⟩|⟨x,t,rfl,rfl⟩
 ·exact SeqAt.EqAt.tuple_int i t ht hu
 ·exact SeqAt.EqAt.tuple_str x t ht hu
theorem iL {l:List cJ} (x:IsTupleKey (aU P w) h l a):∃ Cv,h.IsTuple a Cv:=let ⟨o,Cv,n,ho,hc,hd,_⟩:=x;⟨Cv,o,ho,hc,n,hd⟩
theorem wI {u v:Value} {us vs:List Value} {Q:Bool->Shared->Prop} (hu:A.units < cLine) (hx:Du P w s.heap x (u::us)) (hy:Du P w s.heap y (v::vs))
  (h:∀ a b x' y',x=a::x'->y=b::y'->Du P w s.heap x' us->Du P w s.heap y' vs->Q (decide (a=b)) s):wpAny (model P w) A (eqBool u v) Q E s:=by
 cases hx with
 | @key k _ ks _ h1 t1=>
  cases hy with
  | @key k2 _ ks2 _ h2 t2=>
   refine (aU P w).eqBool h1 h2 ?_;have:=h _ _ _ _ rfl rfl t1 t2;simpa using this
  | @tup l b ks2 _ h2 t2=>
   obtain ⟨Cv,ht⟩:=iL h2;refine pU hu h1 ht P w E Q ?_;have:=h _ _ _ _ rfl rfl t1 t2;simpa using this
 | @tup l a ks _ h1 t1=>
  cases hy with
  | @key k2 _ ks2 _ h2 t2=>
   obtain ⟨Cv,ht⟩:=iL h1;refine pV hu h2 ht P w E Q ?_;have:=h _ _ _ _ rfl rfl t1 t2;simpa using this
  | @tup l2 b ks2 _ h2 t2=>
   refine wpAny_eqBool_tuple hu h1 h2 ?_;have:=h _ _ _ _ rfl rfl t1 t2;simpa using this
theorem kl {R:Fin->Shared->Prop} (hu:A.units < cLine) (hx:Da P w s.heap x a) (hy:Da P w s.heap y b) (h:R (.done (.ret (.bool (decide (x=y))))) s) :
  wpAny (model P w) A (Builtin.«tuple.__eq__» ⟨[.ref a,.ref b],[]⟩) R E s:=by
 have hTb:=hy.typeIs;obtain ⟨oa,xs,na,hoa,_,hda,hia⟩:=hx;obtain ⟨ob,ys,nb,hob,_,hdb,hib⟩:=hy;show wpAny _ _ (isInstance (.ref b) (.type "tuple") >>= _) _ _ s;refine wpAny_bind (wpAny_isInstance hTb isSubtype_tuple_tuple ?_);simp only [Bool.not_true,Bool.false_eq_true,if_false];refine wpAny_bind (wpAny_tupleItemsOf hoa hda ?_);refine wpAny_bind (wpAny_tupleItemsOf hob hdb ?_);refine wpAny_bind ?_;refine wpAny_forIn_list _
  (fun rest r s'=>r.1=none/\s'=s/\∃ x' y' xs' ys',rest=List.zip xs' ys'/\Du P w s.heap x' xs'/\Du P w s.heap y' ys'/\decide (x'=y')=decide (x=y)/\(xs'.length == ys'.length)=(xs.size == ys.size))
  _ ?_ ?_ _ _ ⟨rfl,rfl,x,y,xs.toList,ys.toList,rfl,hia,hib,rfl,by simp⟩
 ·rintro ⟨u,v⟩ rest r s' ⟨hr,rfl,x',y',xs',ys',hz,hx',hy',hdec,Ck⟩;cases xs' with
  | nil=>simp at hz
  | cons u' xs''=>
   cases ys' with
   | nil=>simp at hz
   | cons v' ys''=>
    simp only [List.zip_cons_cons,List.cons.injEq,Prod.mk.injEq] at hz;obtain ⟨⟨rfl,rfl⟩,rfl⟩:=hz;refine wpAny_bind (wI hu hx' hy' ?_);rintro k1 k2 x'' y'' rfl rfl hx'' hy'';by_cases hk:k1=k2
    ·subst hk;rw [decide_eq_true rfl];simp only [Bool.not_true,Bool.false_eq_true,if_false];refine wpAny_pure ⟨rfl,rfl,x'',y'',xs'',ys'',rfl,hx'',hy'',?_,by simpa using Ck⟩;rw [<-hdec];by_cases hxy:x''=y''
     ·simp [hxy]
     ·simp [hxy]
    ·rw [decide_eq_false hk];simp only [Bool.not_false,if_true];have hf:decide (x=y)=false:=by rw [<-hdec];simp [hk]
     rw [hf] at h;exact wpAny_bind (wpAny_pure (wpAny_pure (wpAny_pure h)))
 ·rintro ⟨r1,r2⟩ s' ⟨hr,rfl,x',y',xs',ys',hz,hx',hy',hdec,Ck⟩;simp only at hr;subst hr;refine wpAny_pure ?_;have hfin:(xs.size == ys.size)=decide (x=y):=by
   rw [<-hdec,<-Ck];cases hx'<;>cases hy'<;>first|(exfalso;simp at hz;done)|simp
  show R (.done (.ret (.bool (xs.size == ys.size)))) s';rw [hfin];exact h
variable {Q:Bool->Shared->Prop}
theorem lC (hu:A.units+8 < cLine) (hx:Da P w s.heap x a) (hy:Da P w s.heap y b) (h:Q (decide (x=y)) s) :
  wpAny (model P w) A (eqBool (.ref a) (.ref b)) Q E s:=by
 unfold eqBool;try with_reducible refine wpAny_holding ?_
 show wpAny _ _ (if (Value.ref a == Value.ref b)=true then _ else _) Q E s;by_cases hab:(Value.ref a == Value.ref b)=true
 ·rw [if_pos hab];have e:a=b:=by have:=eq_of_beq hab;injection this
  subst e;obtain rfl:=hx.inj hy;exact wpAny_bind (wpAny_rule (wpAny_pure (by simpa using h)))
 ·rw [if_neg hab];exact wpAny_bind (wpAny_richCompare_same_room (op:=.Eq) hx.typeIs hy.typeIs F.slot_tuple_eq
   (wpAny_call_entry F.slot_tuple_eq hx.typeIs F.entry_tuple_eq (kl (by show A.units+1 < cLine;lia) hx hy ⟨_,rfl,(fun e=>nomatch e),wpAny_truthy_bool h⟩) (F.args_tuple_eq_2 _ _)) zo)
theorem lD (n:Nat) {ks:List cJ} (hk:IsTupleKey (aU P w) s.heap ks a) (h:Q true s):wpAny (model P w) A (eqIsQuiet (n+1) (.ref a)) Q E s:=by
 have hT:=hk.typeIs;obtain ⟨o,Cv,n',ho,_,hd,hi⟩:=hk;unfold eqIsQuiet;refine wpAny_bind (wpAny_specialOf hT F.slot_tuple_eq.lookup ?_);show wpAny _ _ (isInstance (.ref a) (.type "tuple") >>= _) _ _ s;refine wpAny_bind (wpAny_isInstance hT isSubtype_tuple_tuple ?_);simp only [Bool.not_true,Bool.false_eq_true,if_false];refine wpAny_bind (wpAny_seqItems ho hd ?_);refine wpAny_bind ?_;show wpAny _ _ (forIn Cv _ _) _ _ s;rw [<-Array.forIn_toList];refine wpAny_forIn_list _ (fun rest r s'=>r.1=none/\s'=s/\∀ v∈rest,carriedByValue v=true) _ ?_ ?_ _ _ ⟨rfl,rfl,hi.byValue⟩
 ·rintro v rest r s' ⟨hr,rfl,hall⟩;rw [eqIsQuiet_byValue _ (hall v AX)];refine wpAny_bind (wpAny_pure ?_);simp only [Bool.not_true,Bool.false_eq_true,if_false];exact wpAny_pure ⟨rfl,rfl,fun u hu'=>hall u (A2 _ hu')⟩
 ·rintro ⟨r1,r2⟩ s' ⟨hr,rfl,_⟩;simp only at hr;subst hr;exact wpAny_pure h
theorem mZ (hk:Da P w s.heap ks a) (h:Q true s):wpAny (model P w) A (eqIsQuiet 8 (.ref a)) Q E s:=by
 have hT:=hk.typeIs;obtain ⟨o,Cv,n,ho,_,hd,hi⟩:=hk;unfold eqIsQuiet;refine wpAny_bind (wpAny_specialOf hT F.slot_tuple_eq.lookup ?_);show wpAny _ _ (isInstance (.ref a) (.type "tuple") >>= _) _ _ s;refine wpAny_bind (wpAny_isInstance hT isSubtype_tuple_tuple ?_);simp only [Bool.not_true,Bool.false_eq_true,if_false];refine wpAny_bind (wpAny_seqItems ho hd ?_);refine wpAny_bind ?_;show wpAny _ _ (forIn Cv _ _) _ _ s;rw [<-Array.forIn_toList];refine wpAny_forIn_list _ (fun rest r s'=>r.1=none/\s'=s/\∃ ks',Du P w s.heap ks' rest) _ ?_ ?_ _ _ ⟨rfl,rfl,ks,hi⟩
 ·rintro v rest r s' ⟨hr,rfl,ks',hall⟩;cases hall with
  | key h1 t1=>
   rw [eqIsQuiet_byValue _ ((aU P w).byValue _ _ h1)];refine wpAny_bind (wpAny_pure ?_);simp only [Bool.not_true,Bool.false_eq_true,if_false];exact wpAny_pure ⟨rfl,rfl,_,t1⟩
  | tup h1 t1=>
   refine wpAny_bind (lD 6 h1 ?_);simp only [Bool.not_true,Bool.false_eq_true,if_false];exact wpAny_pure ⟨rfl,rfl,_,t1⟩
 ·rintro ⟨r1,r2⟩ s' ⟨hr,rfl,_⟩;simp only at hr;subst hr;exact wpAny_pure h
end
def iM (P:Program) (w:World):HeapKind P w (List Kn) where
 is:=Da P w
 hash:=iK P w
 draws:=gD
 room:=fun A=>A.units+8 < cLine
 inj:=fun hx hy=>hx.inj hy
 keeps:=fun x ho hd hs=>x.keeps ho hd hs
 pyHash:=fun hu hk h=>lB hu hk h
 eqBool:=fun hu hx hy h=>lC hu hx hy h
 quiet:=fun hk h=>mZ hk h
section
variable {P:Program} {w:World} {K:Type} [DecidableEq K] {knd:HeapKind P w K} {s:Shared} {A:Around} {E:Value->Shared->Prop}
theorem lE {d a:Addr} {xs:List (K×Addr×Value)} {k:K} {v:Value} {Q:Value->Shared->Prop} (hu:knd.room A) (hkey:knd.is s.heap k a) (hm:s.heap.DictOfH knd d xs) (hsz:xs.length<=sizeLine)
  (h1:∀ p,(k,p)∈xs->Q p.2 { s with toks:=s.toks+knd.draws k })
  (h2:k∉xs.map (·.1)->∀ h',h'.DictOfH knd d (xs++[(k,a,v)])->Heap.SameBut d s.heap h'->Q v { s with heap:=h',toks:=s.toks+knd.draws k }) :
  wpAny (model P w) A (dictSetDefault d (.ref a) v) Q E s:=by
 obtain ⟨o,es,ep,ho,hc,hd,he,his,hn⟩:=hm;unfold dictSetDefault;try with_reducible refine wpAny_holding ?_
 refine wpAny_bind (knd.pyHash hu hkey ?_);refine wpAny_bind (wpAny_dictFind_heap (s:={ s with toks:=s.toks+knd.draws k }) hu hkey ho hd he his hn ?_ ?_)
 ·intro hno;have hnot:k∉xs.map (·.1):=not_mem_keys_of_get hno;refine wpAny_bind (wpAny_rule (wpAny_bind (wpAny_updateDictKeys (hz:=by have e:=size_of_entries he;lia) (s:={ s with toks:=s.toks+knd.draws k }) ho hd (wpAny_pure (h2 hnot _ ⟨_,_,ep+1,Heap.get?_update_self _ ho (Obj.isFreed_of_dict (Obj.data_mapDictKeys hd _)),
   hc.mapDictKeys _,Obj.data_mapDictKeys hd _,?_,?_,?_⟩ (Heap.SameBut.update ..))))))
  ·simp [he,entryOfKey]
  ·intro x hx;rcases BA.mp hx with hx|hx
   ·exact knd.keeps (his x hx) ho hd (Heap.SameBut.update ..)
   ·simp only [AU] at hx;subst hx;exact knd.keeps hkey ho hd (Heap.SameBut.update ..)
  ·rw [AY,BP];refine ⟨hn,by simp,?_⟩;intro x hx y hy;simp only [BB,Ci,AU] at hy;subst hy;exact fun e=>hnot (e ▸ hx)
 ·intro j p hj;refine wpAny_bind (wpAny_dictEntries (s:={ s with toks:=s.toks+knd.draws k }) ho hd ?_);rw [entry_at he j,hj];exact wpAny_bind (wpAny_rule (wpAny_pure (h1 p (A6 hj))))
theorem jo (knd:HeapKind P w K) (d a:Addr) (hd:(d == sysModules)=false) (v:Value) :
  MeetsIn P w (Builtin.«dict.setdefault» ⟨[.ref d,.ref a,v],[]⟩) (fun A R s=>knd.room A.in1/\∃ k xs,knd.is s.heap k a/\s.heap.DictOfH knd d xs/\xs.length<=sizeLine /\
   (∀ p,(k,p)∈xs->R (.ok (.ret p.2)) { s with toks:=s.toks+knd.draws k }) /\
   (k∉xs.map (·.1)->∀ h',h'.DictOfH knd d (xs++[(k,a,v)])->Heap.SameBut d s.heap h'->R (.ok (.ret v)) { s with heap:=h',toks:=s.toks+knd.draws k })):=
 .of_wp fun A R s ⟨hu,k,xs,hk,hm,hz,h1,h2⟩=>by
  unfold Builtin.«dict.setdefault»;refine wpAny_bind ?_;unfold Builtin.Dict.keyAndDefault;refine wpAny_bind (wpAny_notOrdered_dict (let ⟨o,_,_,ho,hc,_⟩:=hm;⟨o,ho,hc.1⟩) ?_);show wpAny _ _ (pure (d,Value.ref a,some v)) _ _ s;refine wpAny_pure ?_;show wpAny _ _ (if (d == sysModules)=true then _ else (dictSetDefault d (.ref a) v >>= _)) _ _ s;rw [if_neg (by rw [hd];exact AS)];exact wpAny_bind (lE hu hk hm hz (fun p hp=>wpAny_pure ⟨_,rfl,h1 p hp⟩) fun hn h' hm' hs'=>wpAny_pure ⟨v,rfl,h2 hn h' hm' hs'⟩)
end
inductive fK (H:Hp):List Kn->List V->Prop
 | nil:fK H [] []
 | key {k:cJ} {ks:List Kn} {vs:List V}:fK H ks vs->fK H (.inl k::ks) (kV k::vs)
 | tup {l:List cJ} {c:Addr} {ks:List Kn} {vs:List V}:H c=some (.tup (l.map kV))->fK H ks vs->fK H (.inr l::ks) (.ref c::vs)
def jI (H:Hp) (ks:List Kn) (b:Addr):Prop:=∃ vs,H b=some (.tup vs)/\fK H ks vs
variable {vs:List V} {ks:List Kn} {h:Heap} {H:Hp} {w:World} {P:Program}
theorem pW (ok:DN P w H h) (n:fK H ks vs):∀ {us:List Value},CD vs us->Du P w h ks us:=by
 induction n with
 | nil=>intro us r;cases r;exact .nil
 | key _ ih=>intro us r;cases r with|cons a t=>exact .key (Fd a) (ih t)
 | tup e _ ih=>
  intro us r;cases r with
  | cons a t=>
   cases a;exact .tup (Ew ok e) (ih t)
variable {b:Addr}
theorem oA (ok:DN P w H h) (n:jI H ks b):Da P w h ks b:=by
 obtain ⟨vs,e,n⟩:=n;obtain ⟨_,its,r,o,h1,h2,n',h3⟩:=(show CO P w H h b (.tup vs) from ok b _ e);exact ⟨o,its.toArray,n',h1,(Prod.mk.inj h2).1,h3,by simpa using pW ok n r⟩
abbrev Dx:=List (List Kn×Addr×Addr)
def vx (xs:Dx):List (List Kn×Addr×Value):=xs.map fun x=>(x.1,x.2.1,Value.ref x.2.2)
def zX (P:Program) (w:World) (a:Addr) (xs:Dx) (h:Heap):Prop:=xs.length<=sizeLine/\(a == sysModules)=false/\∃ o es ep,h.get? a=some o/\o.ExactDict/\o.data=.dict es ep/\es.toList=(vx xs).map (entryOfKey (iM P w))/\((vx xs).map (·.1)).Nodup
def wJ (P:Program) (w:World) (a:Addr) (xs:Dx):HO:=.ext (zX P w a xs)
def FZ (P:Program) (w:World) (H:Hp) (a:Addr) (xs:Dx):Prop:=(xs=[]/\H a=some (.dK []))\/H a=some (wJ P w a xs)
variable {xs:Dx} {a:Addr}
theorem FZ.of (n:FZ P w H a xs) (ok:DN P w H h):zX P w a xs h:=by
 rcases n with ⟨rfl,e⟩|e
 ·obtain ⟨z,hd,vs,rel,o,es,ep,h1,h2,h3,h4,h5,h6⟩:=GO ok e;cases rel;have e0:es.toList=[]:=by
   have:=h5.length;simpa using this
  exact ⟨zd,hd,o,es,ep,h1,h2,h3,e0,.nil⟩
 ·exact (show CO P w H h a (wJ P w a xs) from ok a _ e).1
theorem FZ.mut (n:FZ P w H a xs):xh (H a):=by
 rcases n with ⟨rfl,e⟩|e<;>rw [e]<;>exact True.intro
theorem FZ.ne {ys:List V} (n:FZ P w H a xs) (e:H b=some (.tup ys)):b≠a:=by
 rintro rfl;rcases n with ⟨_,z⟩|z<;>rw [z] at e<;>cases e
section
variable {X:Cx}
def zY (X:Cx) (a:Addr) (vs:List V) (H:Hp) (Q:VK):Prop:=∃ xs b ks v,vs=[.ref b,.ref v]/\FZ X.prog X.w H a xs/\xs.length+1<=sizeLine/\jI H ks b/\(∀ x∈xs,jI H x.1 x.2.1) /\
 (∀ b' v',(ks,b',v')∈xs->Q (.ref v') H)/\(ks∉xs.map (·.1)->Q (.ref v) (aB H a (wJ X.prog X.w a (xs++[(ks,b,v)]))))
def AA (X:Cx) (to:TE) (t:TA):TE:=fun σ H Q=>to σ H fun x H1=>∃ a xs0,x=.ref a/\FZ X.prog X.w H1 a xs0/\t σ H1 fun vs H2=>zY X a vs H2 Q
theorem uq {k:Nat} (hr:CY k X.A) {Cj:List (Addr×Obj)} {σ:St} {s:Shared} {us:List Value} {Q:VK} (I:CB X Cj σ H s) (rv:CD vs us) (h:zY X a vs H Q) :
  wpAny (model X.prog X.w) X.A (call (.builtin "dict.setdefault") (.ref a::us)) (EP X Cj σ Q) X.xe s:=by
 obtain ⟨xs,b,ks,v,rfl,hn,hz,hk,hall,q1,q2⟩:=h;cases rv with
 | cons r1 rv=>
  cases rv with
  | cons r2 rv=>
   cases rv;cases r1;cases r2;obtain ⟨z,hd,o,es,ep,ho,hc,hda,he,hnd⟩:=hn.of I.hok;have dd:s.heap.DictOfH (iM X.prog X.w) a (vx xs):=⟨o,es,ep,ho,hc,hda,he,fun x hx=>by
    obtain ⟨y,hy,rfl⟩:=Bo.mp hx;exact oA I.hok (hall y hy),hnd⟩
   have hl:(vx xs).length=xs.length:=AM ..;have hm:(vx xs).map (·.1)=xs.map (·.1):=by unfold vx;rw [BW];rfl
   refine call_meetsIn PySem.F.slot_dict_setdefault ⟨o,ho,hc.1⟩ PySem.F.entry_dict_setdefault (PySem.F.args_dict_setdefault_3 _ _ _) (jo (iM X.prog X.w) a b hd (.ref v)) ⟨?_,ks,vx xs,oA I.hok hk,dd,zo,fun p hp=>?_,fun hno h' dd' hs=>?_⟩
   ·have:=hr.un;show X.A.units+1+8 < cLine;lia
   ·obtain ⟨y,hy,e⟩:=Bo.mp hp;cases e;exact ⟨.ref y.2.2,_,I.tok _,rfl,q1 y.2.1 y.2.2 hy⟩
   ·obtain ⟨o',es',ep',g1,g2,g3,g4,_,g5⟩:=dd';rw [hm] at hno;have ev:vx xs++[(ks,b,Value.ref v)]=vx (xs++[(ks,b,v)]):=by unfold vx;rw [AY];rfl
    rw [ev] at g4 g5;refine ⟨.ref v,_,EZ (ob:=wJ X.prog X.w a (xs++[(ks,b,v)])) I hn.mut hs ⟨o',g1⟩ ⟨⟨by rw [AT];exact hz,hd,o',es',ep',g1,g2,g3,g4,g5⟩,⟨o',g1⟩,fun h1 h2 p kk=>?_⟩,rfl,q2 hno⟩;obtain ⟨z1,z2,o3,es3,ep3,f1,f2⟩:=p;exact ⟨z1,z2,o3,es3,ep3,kk _ f1,f2⟩
variable {o e:Expr} {es:List Expr} {to:TE} {t:TA} {apos cpos:Pos}
theorem pX {k:Nat} (hr:CY k X.A) (ho:PE X o to) (ha:PA X (e::es) t)
  (hbase:attributeBase o "setdefault" X.env (eval o X.env)=eval o X.env:=by rfl)
  (hfew:((backTo cpos (starEach (e::es) X.env)).all (fun x=>!x.1) && (backToKw cpos (keywordEach [] X.env)).all (fun x=>x.1.isSome)
   && decide ((e::es).length+([]:List Keyword).length+(if ([]:List Keyword).isEmpty then 0 else 1) < 30))=true:=by rfl)
  (hline:(apos.endLine == cpos.line)=true:=by rfl) (hs:starEach (e::es) X.env=(false,eval e X.env)::starEach es X.env:=by rfl) (hplain:(backTo cpos (starEach es X.env)).any (·.1)=false:=by rfl) :
  PE X (.Call (.Attribute o "setdefault" apos) (e::es) [] cpos) (AA X to t):=by
 refine ⟨?_⟩;intro Cj s σ H Q I h;refine wpAny_Call_method_late hbase hfew hline rfl (bA (ho Cj s σ H _ I h) fun v s1 ⟨x,H1,I1,r1,a,xs0,ex,hn,q1⟩=>?_);subst ex;cases r1;obtain ⟨_,_,o',es',ep',g1,g2,_⟩:=hn.of I1.hok;refine ⟨"dict","dict.setdefault",PySem.F.plainAttrs_dict,PySem.F.slot_dict_setdefault,PySem.F.type_dict_setdefault,⟨o',g1,g2.1⟩,fun b eb=>?_,?_⟩
 ·cases eb;exact ⟨o',g1,g2.2.1⟩
 have hA:=ha cpos Cj s1 σ H1 _ I1 q1;rw [hs] at hA ⊢;refine Calls.callWith_builtin (by show (false || (backTo cpos (starEach es X.env)).any (·.1))=false;rw [hplain]<;>rfl) (Calls.evalArgs_plain ?_);exact bA hA fun us s2 ⟨vs,H2,I2,r2,q2⟩=>uq hr I2 r2 q2
def zJ (P:Program) (w:World) (to:TE) (t:TA):TE:=fun σ H Q=>to σ H fun x H1=>∃ a xs0,x=.ref a/\FZ P w H1 a xs0/\t σ H1 fun vs H2=>∃ xs b ks v,vs=[.ref b,.ref v]/\FZ P w H2 a xs/\xs.length+1<=sizeLine/\jI H2 ks b/\(∀ x∈xs,jI H2 x.1 x.2.1) /\
 (∀ b' v',(ks,b',v')∈xs->Q (.ref v') H2)/\(ks∉xs.map (·.1)->Q (.ref v) (aB H2 a (wJ P w a (xs++[(ks,b,v)]))))
theorem nh {k:Nat} (hP:X.prog=P) (hw:X.w=w) (hr:CY k X.A) (ho:PE X o to) (ha:PA X (e::es) t)
  (hbase:attributeBase o "setdefault" X.env (eval o X.env)=eval o X.env:=by rfl)
  (hfew:((backTo cpos (starEach (e::es) X.env)).all (fun x=>!x.1) && (backToKw cpos (keywordEach [] X.env)).all (fun x=>x.1.isSome)
   && decide ((e::es).length+([]:List Keyword).length+(if ([]:List Keyword).isEmpty then 0 else 1) < 30))=true:=by rfl)
  (hline:(apos.endLine == cpos.line)=true:=by rfl) (hs:starEach (e::es) X.env=(false,eval e X.env)::starEach es X.env:=by rfl) (hplain:(backTo cpos (starEach es X.env)).any (·.1)=false:=by rfl) :
  PE X (.Call (.Attribute o "setdefault" apos) (e::es) [] cpos) (zJ P w to t):=by
 subst hP hw;exact pX hr ho ha hbase hfew hline hs hplain
end
end L2
namespace L3
open PySem L2
variable {H H':Hp}
theorem CW.kt {p:Addr} (g:CW H p) (b:Dy p H H'):DC H H':=fun a xs e=>b a _ e (by
 rintro rfl;obtain ⟨x,y,z,h⟩:=g;rw [h] at e;cases e)
inductive gE (vs:List V) (H:Hp) (Q:VK) (Z3:XK):Prop
 | mk (p:Addr) (m:Nat):vs=[.ref p,.int m]->CW H p->0 < m->m<=8->(∀ v o H',CS H' v o->CW H' p->Dy p H H'->Q v H')->gE vs H Q Z3
inductive ni (vs:List V) (H:Hp) (Q:VK) (Z3:XK):Prop
 | mk (p:Addr):vs=[.ref p]->CW H p->(∀ v H',Dq H' v->CW H' p->Dy p H H'->Q v H')->ni vs H Q Z3
inductive km (vs:List V) (H:Hp) (Q:VK) (Z3:XK):Prop
 | mk (p:Addr) (m k:Nat):vs=[.ref p,.int m,.int k]->CW H p->0 < m->m<=8->0 < k->k<=1000->(∀ v d H',DV H' v d->CW H' p->Dy p H H'->Q v H')->km vs H Q Z3
variable {P:Program} {w:World} {K:ZF} {mg:Str->Option Value} {base:Heap} {C fi aS aE aF aO:Addr} {t1 t2 t3 t4 t5 tM:Tok}
theorem EF:ar ["_law_stream_here","_law_many","_law_way"] ["_law_stream_here","_law_many"] (aj iB):=cE zk
variable {fd:FuncData} {f:Addr}
theorem nj (F:C7 K "_law_source" "_law_source" iB f fd) (TK:Fn P w K mg base "_law_take" 1 ["_law_stream_here","_law_many"] dq):aT P w K mg base bT 2 f fd ["_law_stream_here","_law_many"] gE:=by
 have ZZ:=EF
 walk_at "o"
 ·obtain ⟨p,m,rfl,hp,m0,m8,q⟩:=h;refine ⟨_,ah (eY (i:=2) EF.nd (ap TK hr rfl (aa (pv 0) (aa ag ab))))
   (ah (aN (aC jw (pv 2) ag) (ai (al (cM (aa aI (aa (ap TK hr rfl (aa (pv 0) (aa (pv 1) ab))) ab))))) aA)
   (ah (aN (aC bC (pv 2) ag) (ai (al (cM (aa aI (aa (ap TK hr rfl (aa (pv 0) (aa (aq aG (au (aa ag (aa (aK vK ag ag) ab))) (ap TK hr rfl (aa (pv 0) (aa ag ab)))) ab))) ab))))) aA)
   (ai (al (cM (aa aI (aa (ap TK hr rfl (aa (pv 0) (aa ag ab))) ab))))))),?_⟩
  refine ⟨_,rfl,p,5,rfl,hp,zd,zd,fun r1 H1 l1 g1 b1=>?_⟩;refine ⟨_,rfl,_,_,rfl,rfl,_,rfl,bz (fun h=>?_) (fun h=>?_)⟩
  ·refine ⟨_,rfl,_,rfl,p,m,rfl,g1,m0,zo,fun r2 H2 l2 g2 b2=>⟨CM,fun t nt=>?_⟩⟩;have s3:=ae (o:=.tup [.str "in",.int r2]) nt;exact q _ (some r2) _ ⟨t,_,_,rfl,af,.inl ⟨rfl,zo,zo,by simp⟩⟩ (g2.same s3) ((b1.trans b2).same s3)
  ·refine ⟨_,rfl,rfl,_,rfl,bz (fun h2=>?_) (fun h2=>?_)⟩
   ·refine ⟨_,rfl,_,_,rfl,rfl,⟨zd,zd,zd⟩,CM,fun lm nm=>?_⟩;have s2:=ae (o:=.lst [.int 3,.int 16777216]) nm;have e2:(aB H1 lm (.lst [.int 3,.int 16777216])) lm=some (.lst [.int 3,.int 16777216]):=af;have g2:=g1.same s2;refine ⟨_,rfl,p,2,rfl,g2,zd,zd,fun r3 H3 l3 g3 b3=>?_⟩;have e3:=b3 _ _ e2 (g1.ne nm).symm;obtain ⟨k,ek,k0,k1⟩:∃ k:Nat,mv [V.int 3,V.int 16777216] (r3:Int)=some (.int k)/\0 < k/\k<=16777216:=by
     rcases (by lia:r3=0\/r3=1) with rfl|rfl
     ·exact ⟨3,rfl,zd,zd⟩
     ·exact ⟨16777216,rfl,zd,zd⟩
    refine ⟨lm,_,_,_,rfl,rfl,Cz.of e3,ek,p,k,rfl,g3,k0,zo,fun r4 H4 l4 g4 b4=>⟨CM,fun t nt=>?_⟩⟩;have s5:=ae (o:=.tup [.str "number",.int r4]) nt;exact q _ none _ ⟨t,_,_,rfl,af,.inr (.inl ⟨rfl,zo,zo,rfl⟩)⟩ (g4.same s5) ((((b1.same s2).trans b3).trans b4).same s5)
   ·refine ⟨_,rfl,p,3,rfl,g1,zd,zd,fun r2 H2 l2 g2 b2=>⟨CM,fun t nt=>?_⟩⟩;have s3:=ae (o:=.tup [.str "field",.int r2]) nt;exact q _ none _ ⟨t,_,_,rfl,af,.inr (.inr ⟨rfl,zo,zo,rfl⟩)⟩ (g2.same s3) ((b1.trans b2).same s3)
theorem wK:ar ["_law_stream_here"] ["_law_stream_here"] (aj rF):=cE zk
theorem ur (F:C7 K "_law_sel" "_law_sel" rF f fd) (TK:Fn P w K mg base "_law_take" 1 ["_law_stream_here","_law_many"] dq):aT P w K mg base bT 2 f fd ["_law_stream_here"] ni:=by
 have ZZ:=wK
 walk_at "o"
 ·obtain ⟨p,rfl,hp,q⟩:=h;refine ⟨_,ah (aN (aC bC (ap TK hr rfl (aa (pv 0) (aa ag ab))) ag) (ai (al (cM (aa aI (aa (ap TK hr rfl (aa (pv 0) (aa ag ab))) ab))))) aA)
   (ai (al (cM (aa aI (aa (ap TK hr rfl (aa (pv 0) (aa ag ab))) ab))))),?_⟩
  refine ⟨_,rfl,p,2,rfl,hp,zd,zd,fun r1 H1 l1 g1 b1=>⟨rfl,_,rfl,bz (fun h=>?_) (fun h=>?_)⟩⟩
  ·refine ⟨_,rfl,p,4,rfl,g1,zd,zd,fun r2 H2 l2 g2 b2=>⟨CM,fun t nt=>?_⟩⟩;have s3:=ae (o:=.tup [.str "is",.int r2]) nt;exact q _ _ ⟨t,_,_,rfl,af,.inl ⟨rfl,zo,zo⟩⟩ (g2.same s3) ((b1.trans b2).same s3)
  ·refine ⟨_,rfl,p,3,rfl,g1,zd,zd,fun r2 H2 l2 g2 b2=>⟨CM,fun t nt=>?_⟩⟩;have s3:=ae (o:=.tup [.str "by",.int r2]) nt;exact q _ _ ⟨t,_,_,rfl,af,.inr ⟨rfl,zo,zo⟩⟩ (g2.same s3) ((b1.trans b2).same s3)
theorem En:ar ["_law_stream_here","_law_many","_law_ways","_law_way","_law_to","_law_op"] ["_law_stream_here","_law_many","_law_ways"] (aj mO):=cE zk
theorem r8 (F:C7 K "_law_step" "_law_step" mO f fd) (TK:Fn P w K mg base "_law_take" 1 ["_law_stream_here","_law_many"] dq) (SO:Fn P w K mg base "_law_source" 2 ["_law_stream_here","_law_many"] gE) (SE:Fn P w K mg base "_law_sel" 2 ["_law_stream_here"] ni) :
  aT P w K mg base bT 3 f fd ["_law_stream_here","_law_many","_law_ways"] km:=by
 have ZZ:=En
 walk_at "o"
 ·obtain ⟨p,m,k,rfl,hp,m0,m8,k0,k1,q⟩:=h;refine ⟨_,ah (eY (i:=3) En.nd (ap TK hr.m rfl (aa (pv 0) (aa (pv 2) ab))))
   (ah (eY (i:=4) En.nd (ap TK hr.m rfl (aa (pv 0) (aa (pv 1) ab))))
   (ah (aN (aC qQ (pv 3) ag)
    (ah (eY (i:=5) En.nd (aq aG (au (aa aI (aa aI (aa aI (aa aI (aa aI (aa aI (aa aI (aa aI (aa aI ab)))))))))) (ap TK hr.m rfl (aa (pv 0) (aa ag ab)))))
    (ai (al (cM (aa aI (aa (pv 4) (aa (pv 5) (aa (ap SO hr rfl (aa (pv 0) (aa (pv 1) ab))) (aa (ap SO hr rfl (aa (pv 0) (aa (pv 1) ab))) ab))))))))) aA)
   (ah (aN (aC jw (pv 3) ag) (ai (al (cM (aa (aq aG (au (aa aI (aa aI ab))) (pv 3)) (aa (pv 4) (aa (ap SE hr rfl (aa (pv 0) ab)) ab)))))) aA)
   (ah (aN (aC bC (pv 3) ag) (ai (al (cM (aa aI (aa (pv 4) (aa (ap SO hr rfl (aa (pv 0) (aa (pv 1) ab))) ab)))))) aA)
   (ah (aN (aC bC (pv 3) ag) (ai (al (cM (aa aI (aa (ap SO hr rfl (aa (pv 0) (aa (pv 1) ab))) (aa (ap SO hr rfl (aa (pv 0) (aa (pv 1) ab))) ab)))))) aA)
   (ai (al (cM (aa (aq aG (au (aa aI (aa aI ab))) (aK gm (pv 3) ag)) (aa (ap SE hr rfl (aa (pv 0) ab)) (aa (ap SO hr rfl (aa (pv 0) (aa (pv 1) ab))) ab))))))))))),?_⟩
  refine ⟨_,rfl,_,rfl,p,k,rfl,hp,k0,zo,fun r1 H1 l1 g1 b1=>?_⟩;refine ⟨_,rfl,_,rfl,p,m,rfl,g1,m0,zo,fun r2 H2 l2 g2 b2=>?_⟩;have B2:=b1.trans b2;refine ⟨_,rfl,_,_,rfl,rfl,_,rfl,bz (fun h=>?_) (fun h=>?_)⟩
  ·refine ⟨CM,fun lo no=>?_⟩;have s3:=ae (o:=.lst [.str "+",.str "-",.str "&",.str "|",.str "^",.str "<<",.str ">>",.str "<",.str "="]) no;have e3:(aB H2 lo (.lst [.str "+",.str "-",.str "&",.str "|",.str "^",.str "<<",.str ">>",.str "<",.str "="])) lo=some (.lst [.str "+",.str "-",.str "&",.str "|",.str "^",.str "<<",.str ">>",.str "<",.str "="]):=af;generalize aB H2 lo (.lst [V.str "+",.str "-",.str "&",.str "|",.str "^",.str "<<",.str ">>",.str "<",.str "="])=H3 at *;refine ⟨_,rfl,p,9,rfl,g2.same s3,zd,zd,fun r4 H4 l4 g4 b4=>?_⟩;have eo:=b4 _ _ e3 (g2.ne no).symm;obtain ⟨o,ho,mo⟩:∃ o:Str,mv [V.str "+",.str "-",.str "&",.str "|",.str "^",.str "<<",.str ">>",.str "<",.str "="] (r4:Int)=some (.str o)/\o∈EE:=by
    rcases (by lia:r4=0\/r4=1\/r4=2\/r4=3\/r4=4\/r4=5\/r4=6\/r4=7\/r4=8) with rfl|rfl|rfl|rfl|rfl|rfl|rfl|rfl|rfl<;>exact ⟨_,rfl,zk⟩
   refine ⟨lo,_,_,_,rfl,rfl,Cz.of eo,ho,?_⟩;refine ⟨_,rfl,_,rfl,_,rfl,_,rfl,p,m,rfl,g4,m0,m8,fun v o1 H5 hv g5 b5=>?_⟩;refine ⟨_,rfl,_,rfl,p,m,rfl,g5,m0,m8,fun u o2 H6 hu g6 b6=>⟨CM,fun t nt=>?_⟩⟩;have s7:=ae (o:=.tup [.str "two",.int r2,.str o,v,u]) nt;exact q _ _ _ (.two af zo mo (hv.kt ((g5.kt b6).trans (CC s7))) (hu.kt (CC s7))) (g6.same s7) (((((B2.same s3).trans b4).trans b5).trans b6).same s7)
  ·refine ⟨_,rfl,_,_,rfl,rfl,_,rfl,bz (fun h2=>?_) (fun h2=>?_)⟩
   ·refine ⟨CM,fun lg ng=>?_⟩;have s3:=ae (o:=.lst [.str "get",.str "ask"]) ng;have e3:(aB H2 lg (.lst [.str "get",.str "ask"])) lg=some (.lst [.str "get",.str "ask"]):=af;generalize aB H2 lg (.lst [V.str "get",.str "ask"])=H3 at *;have h2':(r1:Int) < 2:=of_decide_eq_true h2;rcases (by lia:r1=0\/r1=1) with rfl|rfl
    ·refine ⟨_,rfl,lg,_,_,_,rfl,rfl,Cz.of e3,rfl,_,rfl,_,rfl,p,rfl,g2.same s3,fun v H4 hv g4 b4=>⟨CM,fun t nt=>?_⟩⟩;have s5:=ae (o:=.tup [.str "get",.int r2,v]) nt;exact q _ _ _ (.get af zo (hv.kt (CC s5))) (g4.same s5) (((B2.same s3).trans b4).same s5)
    ·refine ⟨_,rfl,lg,_,_,_,rfl,rfl,Cz.of e3,rfl,_,rfl,_,rfl,p,rfl,g2.same s3,fun v H4 hv g4 b4=>⟨CM,fun t nt=>?_⟩⟩;have s5:=ae (o:=.tup [.str "ask",.int r2,v]) nt;exact q _ _ _ (.ask af zo (hv.kt (CC s5))) (g4.same s5) (((B2.same s3).trans b4).same s5)
   ·refine ⟨_,rfl,rfl,_,rfl,bz (fun h3=>?_) (fun h3=>?_)⟩
    ·refine ⟨_,rfl,_,rfl,_,rfl,p,m,rfl,g2,m0,m8,fun v o H3 hv g3 b3=>⟨CM,fun t nt=>?_⟩⟩;have s4:=ae (o:=.tup [.str "cell",.int r2,v]) nt;exact q _ _ _ (.cell af zo (hv.kt (CC s4))) (g3.same s4) ((B2.trans b3).same s4)
    ·refine ⟨_,rfl,rfl,_,rfl,bz (fun h4=>?_) (fun h4=>?_)⟩
     ·refine ⟨_,rfl,_,rfl,p,m,rfl,g2,m0,m8,fun v o1 H3 hv g3 b3=>?_⟩;refine ⟨_,rfl,_,rfl,p,m,rfl,g3,m0,m8,fun u o2 H4 hu g4 b4=>⟨CM,fun t nt=>?_⟩⟩;have s5:=ae (o:=.tup [.str "store",v,u]) nt;exact q _ _ _ (.store af (hv.kt ((g3.kt b4).trans (CC s5))) (hu.kt (CC s5))) (g4.same s5) (((B2.trans b3).trans b4).same s5)
     ·refine ⟨CM,fun lg ng=>?_⟩;have s3:=ae (o:=.lst [.str "put",.str "tell"]) ng;have e3:(aB H2 lg (.lst [.str "put",.str "tell"])) lg=some (.lst [.str "put",.str "tell"]):=af;generalize aB H2 lg (.lst [V.str "put",.str "tell"])=H3 at *;have x1:¬ (5:Int) < (r1:Int):=fun z=>h (decide_eq_true z);have x2:¬ (r1:Int) < 2:=fun z=>h2 (decide_eq_true z);have x3:¬ r1=2:=fun z=>h3 (by subst z;decide);have x4:¬ r1=3:=fun z=>h4 (by subst z;decide);rcases (by lia:r1=4\/r1=5) with rfl|rfl
      ·refine ⟨_,rfl,_,_,rfl,rfl,lg,_,_,_,rfl,rfl,Cz.of e3,rfl,_,rfl,p,rfl,g2.same s3,fun v H4 hv g4 b4=>?_⟩;refine ⟨_,rfl,_,rfl,p,m,rfl,g4,m0,m8,fun u o H5 hu g5 b5=>⟨CM,fun t nt=>?_⟩⟩;have s6:=ae (o:=.tup [.str "put",v,u]) nt;exact q _ _ _ (.put af (hv.kt ((g4.kt b5).trans (CC s6))) (hu.kt (CC s6))) (g5.same s6) ((((B2.same s3).trans b4).trans b5).same s6)
      ·refine ⟨_,rfl,_,_,rfl,rfl,lg,_,_,_,rfl,rfl,Cz.of e3,rfl,_,rfl,p,rfl,g2.same s3,fun v H4 hv g4 b4=>?_⟩;refine ⟨_,rfl,_,rfl,p,m,rfl,g4,m0,m8,fun u o H5 hu g5 b5=>⟨CM,fun t nt=>?_⟩⟩;have s6:=ae (o:=.tup [.str "tell",v,u]) nt;exact q _ _ _ (.tell af (hv.kt ((g4.kt b5).trans (CC s6))) (hu.kt (CC s6))) (g5.same s6) ((((B2.same s3).trans b4).trans b5).same s6)
def kd:Sd->Nat
 | .get _ _=>0
 | .ask _ _=>1
 | .cell _ _=>2
 | .two _ _ _ _=>3
 | .put _ _=>4
 | .tell _ _=>5
 | .store _ _=>6
variable {x:cx}
theorem kn (h:iG x):Gy x.1=true:=by rcases h with ⟨e,_⟩|⟨e,_⟩<;>(rw [e];decide +kernel)
theorem fh (h:eu x):Gy x.1=true:=by rcases h with ⟨e,_⟩|⟨e,_⟩|⟨e,_⟩<;>(rw [e];decide +kernel)
theorem wL:∀ f∈EE,Gy f=true:=by decide +kernel
variable {v:V}
theorem Pt.td (h:Pt H v x) (o:Gy x.1=true):Td H v (.tuple [.str x.1,.int x.2]):=by
 obtain ⟨p,rfl,hp⟩:=h;exact .tup hp (.cons (.str _ o) (.cons (.int _) .nil))
theorem bj {α β:Type} {F:α->β->Prop} {x:α} {y:β} (h:F x y):∀ {xs:List α} {ys:List β},Paired F xs ys->Paired F (xs++[x]) (ys++[y])
 | _,_,.nil=>.cons h .nil
 | _,_,.cons a t=>.cons a (bj h t)
theorem oB {X:Cx} (h:X.K=K) {T:String}:bJ X (.builtin "isinstance") (fun xs H Q=>∃ x t b,xs=[x,.ty T]/\Dr K H x t/\PySem.W.kitOne K t (.type T)=some b/\Q (.bl b) H):=by
 subst h;exact Dh
def iN (H:Hp) (x:V) (o:Option Nat):Prop:=
 ((∃ s,x=.str s)/\o=none)\/((∃ i,x=.int i)/\o=none)\/(∃ (p:Addr) (n:Str) (i:Int),x=.ref p/\H p=some (.tup [.str n,.int i])/\n≠"in"/\o=none)\/(∃ (p:Addr) (k:Nat),x=.ref p/\H p=some (.tup [.str "in",.int k])/\k < 8/\o=some k)
theorem Dq.part {x:V}:Dq H x->iN H x none:=by
 rintro ⟨p,n,i,rfl,e,⟨rfl,_⟩|⟨rfl,_⟩⟩
 ·exact .inr (.inr (.inl ⟨p,_,i,rfl,e,zk,rfl⟩))
 ·exact .inr (.inr (.inl ⟨p,_,i,rfl,e,zk,rfl⟩))
theorem CS.part {x:V} {o:Option Nat}:CS H x o->iN H x o:=by
 rintro ⟨p,n,i,rfl,e,⟨rfl,h0,h7,rfl⟩|⟨rfl,_,_,rfl⟩|⟨rfl,_,_,rfl⟩⟩
 ·obtain ⟨k,rfl⟩:∃ k:Nat,i=k:=⟨i.toNat,zo⟩;exact .inr (.inr (.inr ⟨p,k,rfl,e,zo,by simp⟩))
 ·exact .inr (.inr (.inl ⟨p,_,i,rfl,e,zk,rfl⟩))
 ·exact .inr (.inr (.inl ⟨p,_,i,rfl,e,zk,rfl⟩))
structure AB (H:Hp) (p:Addr) (nm:Str) (xs:List V) (os:List (Option Nat)) (m:Md):Prop where
 at_:H p=some (.tup (.str nm::xs))
 pr:Paired (iN H) (.str nm::xs) os
 os_:os.filterMap id=pT m
 len:xs.length<=4
 to_:m.kind < 4->xs[0]?=some (.int m.to)/\m.to < 8
 four:jB (.str nm) [.str "get",.str "ask",.str "cell",.str "two"]=decide (m.kind < 4)
 three:(!decide (V.str nm=V.str "two"))=decide (m.kind≠3)
theorem sd:jB (.str "get") [.str "get",.str "ask",.str "cell",.str "two"]=decide (0 < 4):=by decide +kernel
theorem pY:(!decide (V.str "get"=V.str "two"))=decide (0≠3):=by decide +kernel
theorem se:jB (.str "ask") [.str "get",.str "ask",.str "cell",.str "two"]=decide (1 < 4):=by decide +kernel
theorem pZ:(!decide (V.str "ask"=V.str "two"))=decide (1≠3):=by decide +kernel
theorem p0:jB (.str "cell") [.str "get",.str "ask",.str "cell",.str "two"]=decide (2 < 4):=by decide +kernel
theorem nn:(!decide (V.str "cell"=V.str "two"))=decide (2≠3):=by decide +kernel
theorem sf:jB (.str "two") [.str "get",.str "ask",.str "cell",.str "two"]=decide (3 < 4):=by decide +kernel
theorem p4:(!decide (V.str "two"=V.str "two"))=decide (3≠3):=by decide +kernel
theorem sh:jB (.str "put") [.str "get",.str "ask",.str "cell",.str "two"]=decide (4 < 4):=by decide +kernel
theorem qa:(!decide (V.str "put"=V.str "two"))=decide (4≠3):=by decide +kernel
theorem qb:jB (.str "tell") [.str "get",.str "ask",.str "cell",.str "two"]=decide (5 < 4):=by decide +kernel
theorem nq:(!decide (V.str "tell"=V.str "two"))=decide (5≠3):=by decide +kernel
theorem nu:jB (.str "store") [.str "get",.str "ask",.str "cell",.str "two"]=decide (6 < 4):=by decide +kernel
theorem lG:(!decide (V.str "store"=V.str "two"))=decide (6≠3):=by decide +kernel
variable {m:Md}
theorem DV.parts (h:DV H v m):∃ p nm xs os,v=.ref p/\AB H p nm xs os m:=by
 have s:∀ z:Str,iN H (.str z) none:=fun z=>.inl ⟨⟨z,rfl⟩,rfl⟩;have n:∀ z:Int,iN H (.int z) none:=fun z=>.inr (.inl ⟨⟨z,rfl⟩,rfl⟩);cases h with
 | get a b c=>exact ⟨_,_,_,_,rfl,a,.cons (s _) (.cons (n _) (.cons c.part .nil)),rfl,by simp,fun _=>⟨rfl,b⟩,sd,pY⟩
 | ask a b c=>exact ⟨_,_,_,_,rfl,a,.cons (s _) (.cons (n _) (.cons c.part .nil)),rfl,by simp,fun _=>⟨rfl,b⟩,se,pZ⟩
 | cell a b c=>exact ⟨_,_,_,_,rfl,a,.cons (s _) (.cons (n _) (.cons c.part .nil)),rfl,by simp,fun _=>⟨rfl,b⟩,p0,nn⟩
 | two a b c d e=>exact ⟨_,_,_,_,rfl,a,.cons (s _) (.cons (n _) (.cons (s _) (.cons d.part (.cons e.part .nil)))),rfl,by simp,fun _=>⟨rfl,b⟩,sf,p4⟩
 | put a b c=>exact ⟨_,_,_,_,rfl,a,.cons (s _) (.cons b.part (.cons c.part .nil)),rfl,by simp,fun z=>absurd (show 4 < 4 from z) zd,sh,qa⟩
 | tell a b c=>exact ⟨_,_,_,_,rfl,a,.cons (s _) (.cons b.part (.cons c.part .nil)),rfl,by simp,fun z=>absurd (show 5 < 4 from z) zd,qb,nq⟩
 | store a b c=>exact ⟨_,_,_,_,rfl,a,.cons (s _) (.cons b.part (.cons c.part .nil)),rfl,by simp,fun z=>absurd (show 6 < 4 from z) zd,nu,lG⟩
theorem aQ {α β:Type} {F:α->β->Prop}:∀ {xs:List α} {ys:List β},Paired F xs ys->∀ {i:Nat} {x:α},xs[i]?=some x->∃ y,ys[i]?=some y/\F x y
 | _,_,.nil,_,_,h=>by simp at h
 | _,_,.cons a t,0,x,h=>⟨_,rfl,by simpa using (by simpa using h:_=x) ▸ a⟩
 | _,_,.cons a t,i+1,x,h=>by simpa using aQ t (by simpa using h)
theorem dC {H J:Hp} {a:Addr} {o:HO} (s:Cw H J) (n:H a=none):Cw H (aB J a o):=fun b u e=>by rw [az (aD e n)];exact s b u e
def fj (m:Md):List Str:=if m.kind=3 then [] else [("way":Str)]
def fL (m:Md):List Str:=(pT m).map rN++fj m
def dG (m:Md):List Str:=(kg m).map rN++fj m
inductive fk (vs:List V) (H:Hp) (Q:VK) (Z3:XK):Prop
 | mk (v:V) (m:Md):vs=[v]->DV H v m->(∀ t a b H',Cw H H'->H' t=some (.tup [.ref a,.ref b])->H' a=some (.lst (aJ (fL m)))->H' b=some (.lst (aJ (dG m)))->Q (.ref t) H')->fk vs H Q Z3
section
variable {P:Program} {w:World} {K:ZF} {mg:Str->Option Value} {base:Heap} {C:Nat->Addr}
theorem DU:ar ["_law_told","_law_reads","_law_writes"] ["_law_told"] (aj eJ):=cE zk
theorem oC:∀ k < 8,("r":Str).length+(toString ((k:Nat):Int):Str).length<=10:=by decide +kernel
theorem wM:(["_law_part"]:List Str).Nodup:=by decide +kernel
theorem lH (F:C7 K "_law_touched" "_law_touched" eJ f fd) (B:Bl mg):aT P w K mg base bT 1 f fd ["_law_told"] fk:=by
 have ZZ:=DU
 walk_at "o"
 ·obtain ⟨v,m,rfl,hv,q⟩:=h;obtain ⟨p,nm,xs,os,rfl,T⟩:=hv.parts;have sz:(1000:Nat)<=sizeLine:=by decide
  refine ⟨_,ah (iA (i:=1) DU.nd rfl rfl (N':=["_law_part"]) (ix:=[none]) (sc0:=aj eJ) (N:=["_law_told","_law_reads","_law_writes"]) rfl zk (qL (pv 0))
    (fun C' cl s H fp=>cZ (i:=0) wM)
    (fun _ _ _ _ _=>cN (PW.pt (il (aW (ao (oB (K:=K) rfl (T:="tuple")) (by rfl) B.isinstance bE (aa (pv 0) (aa (Dm (by rfl) B.tuple bO) ab)))) (fF (aC bC (aq (di (K:=K) rfl) (pv 0) ag) aI)))))
    (fun C' cl s H fp=>aK ir aI (bm fH (by rfl) B.str jF (aa (aq (di (K:=K) rfl) (pv 0) ag) ab))))
   (ah (eY (i:=2) DU.nd (au ab))
   (ah (aN (aC eI (aq aL (pv 0) ag) (cM (aa aI (aa aI (aa aI (aa aI ab))))) rfl)
    (ai (cT (fb Bx BE BD cF (pv 2) (aa (aK ir aI (bm fH (by rfl) B.str jF (aa (aq aL (pv 0) ag) ab))) ab)))) aA)
   (ah (aN (aC vb (aq aL (pv 0) ag) aI)
    (ah (cT (fb Bx BE BD cF (pv 1) (aa aI ab)))
    (ai (cT (fb Bx BE BD cF (pv 2) (aa aI ab))))) aA)
   (ai (al (cM (aa (pv 1) (aa (pv 2) ab)))))))),?_⟩
  refine ⟨_,rfl,p,rfl,⟨_,CI.of T.at_⟩,?_⟩;have ol:os.length=(V.str nm::xs).length:=T.pr.length.symm;refine F7 (K:=K) (a:=p) (xs:=.str nm::xs) (fun i ys H'=>H'=H/\ys=aJ (((os.take i).filterMap id).map rN)) ⟨rfl,rfl⟩ (fun i ys H' hi ⟨a1,a2⟩=>by
    subst a1 a2;refine ⟨CI.of T.at_,?_⟩;unfold aJ;rw [AM,AM];have h1:=List.length_filterMap_le id (os.take i);have h2:(os.take i).length<=os.length:=by rw [A7];lia
    have h3:(V.str nm::xs).length<=5:=by have:=T.len;simp;lia
    lia) ?_ ?_
  ·rintro i x ys H' hx ⟨rfl,rfl⟩;have Cu:i < (V.str nm::xs).length:=(AN.mp hx).1;obtain ⟨o,ho,hp⟩:=aQ T.pr hx;have tk:os.take (i+1)=os.take i++[o]:=by rw [By,ho];rfl
   have no:o=none->Nx (fun i ys H2=>H2=H'/\ys=aJ (((os.take i).filterMap id).map rN)) (V.str nm::xs).length i (aJ (((os.take i).filterMap id).map rN)) H':=fun e=>Nx.mk Cu ⟨rfl,by rw [tk,e];simp⟩;refine ⟨trivial,?_⟩;rcases hp with ⟨⟨z,rfl⟩,e⟩|⟨⟨z,rfl⟩,e⟩|⟨r,n,z,rfl,hr',hn,e⟩|⟨r,k,rfl,hr',k8,e⟩
   ·exact ⟨_,rfl,_,_,_,rfl,.str _,rfl,_,rfl,cb (cb (no e))⟩
   ·exact ⟨_,rfl,_,_,_,rfl,.int _,rfl,_,rfl,cb (cb (no e))⟩
   ·refine ⟨_,rfl,_,_,_,rfl,.tup hr',rfl,_,rfl,bM ?_⟩;refine ⟨_,rfl,r,_,_,_,rfl,rfl,CI.of hr',rfl,rfl,_,rfl,?_⟩;refine bp (by simpa using hn) (no e)
   ·refine ⟨_,rfl,_,_,_,rfl,.tup hr',rfl,_,rfl,bM ?_⟩;refine ⟨_,rfl,r,_,_,_,rfl,rfl,CI.of hr',rfl,rfl,_,rfl,db (by simp) ?_⟩;refine ⟨_,rfl,r,_,_,_,rfl,rfl,CI.of hr',rfl,_,rfl,mX _ k8,_,_,rfl,rfl,A8 (oC _ k8) zd,?_⟩;refine Nx.mk Cu ⟨rfl,?_⟩;rw [tk,e];simp [aJ,rN]
  ·rintro ys H' ⟨rfl,rfl⟩ D hD;have eo:os.take (V.str nm::xs).length=os:=by rw [<-ol];exact Bf
   rw [eo,T.os_];generalize zz:aB H' D _=H1;have s1:Cw H' H1:=zz ▸ ae hD;have e1:H1 D=some (.lst (aJ ((pT m).map rN))):=zz ▸ af;clear zz;refine ⟨CM,fun W hW=>?_⟩;have s2:=ae (o:=.lst []) hW;have e2:(aB H1 W (.lst [])) W=some (.lst []):=af;have DW:D≠W:=aD e1 hW;generalize aB H1 W (.lst [])=H2 at *;have a0:mv (V.str nm::xs) 0=some (V.str nm):=show mv (V.str nm::xs) ((0:Nat):Int)=_ from a8 rfl;have fD:H' D=none:=hD;have fW:H' W=none:=s1.free hW;refine ⟨_,rfl,p,_,_,_,rfl,rfl,CI.of (s2 _ _ (s1 _ _ T.at_)),a0,CM,fun t4 n4=>?_⟩;generalize zz:aB H2 t4 _=H3;have ⟨s3,e4⟩:=nw n4 zz;clear zz;have S3:Cw H' H3:=(s1.trans s2).trans s3;have d3:=s3 _ _ (s2 _ _ e1);have w3:=s3 _ _ e2;have fin:∀ J,Cw H' J->J D=some (.lst (aJ (fL m)))->J W=some (.lst (aJ (dG m)))->∀ t,J t=none->Q (.ref t) (aB J t (.tup [.ref D,.ref W])):=fun J a b c t nt=>q t D W _ (a.trans (ae nt)) af (ae nt _ _ b) (ae nt _ _ c);have rl:(aJ ((pT m).map rN)).length<=5:=by
    unfold aJ;rw [AM,AM,<-T.os_];have h1:=List.length_filterMap_le id os;have h3:(V.str nm::xs).length<=5:=by have:=T.len;simp;lia
    lia
   have tl:(kg m).length<=1:=by unfold kg;split<;>simp
   refine ⟨t4,_,rfl,.inr (CI.of e4),rfl,rfl,_,rfl,?_⟩;refine bz (fun h=>?_) (fun h=>?_)
   ·have k4:m.kind < 4:=of_decide_eq_true (T.four ▸ h);obtain ⟨x0,m8⟩:=T.to_ k4;have a1:mv (V.str nm::xs) 1=some (.int m.to):=show mv (V.str nm::xs) ((1:Nat):Int)=_ from a8 (by simpa using x0);refine ⟨_,rfl,.inl ⟨rfl,_,Cz.of w3⟩,_,rfl,p,_,_,_,rfl,rfl,CI.of (S3 _ _ T.at_),a1,_,rfl,mX _ m8,_,_,rfl,rfl,A8 (oC _ m8) zd,W,_,_,rfl,rfl,w3,(by show 0 < sizeLine;decide),?_⟩;have S4:Cw H' (aB H3 W (.lst ([]++[.str (rN m.to)]))):=dC S3 fW;have d4:(aB H3 W (.lst ([]++[.str (rN m.to)]))) D=some (.lst (aJ ((pT m).map rN))):=by rw [az DW];exact d3
    have w4:(aB H3 W (.lst ([]++[.str (rN m.to)]))) W=some (.lst (aJ ((kg m).map rN))):=by rw [af];unfold kg;rw [if_pos k4];rfl
    refine ⟨_,rfl,p,_,_,_,rfl,rfl,CI.of (S4 _ _ T.at_),a0,rfl,_,rfl,?_⟩;refine bz (fun h2=>?_) (fun h2=>?_)
    ·have k3:m.kind≠3:=of_decide_eq_true (T.three ▸ h2);refine ⟨_,rfl,.inl ⟨rfl,_,Cz.of d4⟩,D,_,_,rfl,rfl,d4,(by have:=rl;lia),?_⟩;refine ⟨_,rfl,.inl ⟨rfl,_,Cz.of (show aB _ D _ W=_ from (az DW.symm).trans w4)⟩,W,_,_,rfl,rfl,(az DW.symm).trans w4,(by have:=tl;unfold aJ;rw [AM,AM];lia),?_⟩;refine ⟨_,rfl,_,rfl,CM,fun t nt=>fin _ (dC (dC S4 fD) fW) ?_ ?_ t nt⟩
     ·rw [az DW,af];unfold fL fj aJ;rw [if_neg k3,AY];rfl
     ·rw [af];unfold dG fj aJ;rw [if_neg k3,AY];rfl
    ·have k3:m.kind=3:=by
      by_cases z:m.kind=3
      ·exact z
      ·exact absurd (T.three.trans (decide_eq_true z)) h2
     refine ⟨_,rfl,_,rfl,CM,fun t nt=>fin _ S4 ?_ ?_ t nt⟩
     ·rw [d4];unfold fL fj;rw [if_pos k3,Ba]
     ·rw [w4];unfold dG fj;rw [if_pos k3,Ba]
   ·have k4:¬ m.kind < 4:=fun z=>h (T.four.trans (decide_eq_true z));have w4:H3 W=some (.lst (aJ ((kg m).map rN))):=by rw [w3];unfold kg;rw [if_neg k4];rfl
    refine ⟨_,rfl,p,_,_,_,rfl,rfl,CI.of (S3 _ _ T.at_),a0,rfl,_,rfl,?_⟩;refine bz (fun h2=>?_) (fun h2=>?_)
    ·have k3:m.kind≠3:=of_decide_eq_true (T.three ▸ h2);refine ⟨_,rfl,.inl ⟨rfl,_,Cz.of d3⟩,D,_,_,rfl,rfl,d3,(by have:=rl;lia),?_⟩;refine ⟨_,rfl,.inl ⟨rfl,_,Cz.of (show aB _ D _ W=_ from (az DW.symm).trans w4)⟩,W,_,_,rfl,rfl,(az DW.symm).trans w4,(by have:=tl;unfold aJ;rw [AM,AM];lia),?_⟩;refine ⟨_,rfl,_,rfl,CM,fun t nt=>fin _ (dC (dC S3 fD) fW) ?_ ?_ t nt⟩
     ·rw [az DW,af];unfold fL fj aJ;rw [if_neg k3,AY];rfl
     ·rw [af];unfold dG fj aJ;rw [if_neg k3,AY];rfl
    ·have k3:m.kind=3:=by
      by_cases z:m.kind=3
      ·exact z
      ·exact absurd (T.three.trans (decide_eq_true z)) h2
     refine ⟨_,rfl,_,rfl,CM,fun t nt=>fin _ S3 ?_ ?_ t nt⟩
     ·rw [d3];unfold fL fj;rw [if_pos k3,Ba]
     ·rw [w4];unfold dG fj;rw [if_pos k3,Ba]
end
theorem fm:∀ l:List Str,Dl K H (aJ l) (l.map PyData.str)
 | []=>.nil
 | x::l=>.cons (.str x) (fm l)
theorem gT:∀ l:List Str,(∀ x∈l,Gy x=true)->PyData.canLayAll0 (l.map PyData.str)=true
 | [],_=>rfl
 | x::l,h=>by
  have h1:(PyData.str x).canLay0=true:=h x (AX ..);have h2:=gT l fun y hy=>h y (A2 _ hy);simp only [BB,PyData.canLayAll0,h1,h2,Bool.and_self]
variable {l:List Str}
theorem lI (h:∀ x∈l,Gy x=true):(PyData.list (l.map PyData.str)).canLay0=true:=by
 have:=gT l h;simpa only [PyData.canLay0] using this
theorem lJ (l:List Str):PyData.eqv (.list (l.map PyData.str)) (.list [])=l.isEmpty:=by cases l<;>rfl
theorem zK:∀ k < 8,Gy (rN k)=true:=by decide +kernel
theorem yj:Gy "way"=true:=by decide +kernel
theorem DV.ok_w (h:DV H v m):∀ x∈dG m,Gy x=true:=by
 obtain ⟨p,nm,xs,os,_,T⟩:=h.parts;intro x hx;unfold dG at hx;rcases BA.mp hx with z|z
 ·obtain ⟨k,hk,rfl⟩:=Bo.mp z;unfold kg at hk;split at hk
  ·rename_i k4;rw [AU.mp hk];exact zK _ (T.to_ k4).2
  ·cases hk
 ·unfold fj at z;split at z
  ·cases z
  ·rw [AU.mp z];exact yj
theorem DV.len_r (h:DV H v m):(fL m).length<=10/\(dG m).length<=10/\(pT m).length<=2/\(kg m).length<=2:=by
 have a:(pT m).length<=2:=by
  unfold pT;cases h<;>exact A8 (List.length_filterMap_le _ _) (by simp)
 have b:(kg m).length<=1:=by unfold kg;split<;>simp
 have c:(fj m).length<=1:=by unfold fj;split<;>simp
 refine ⟨?_,?_,a,zo⟩
 ·unfold fL;rw [AT,AM];lia
 ·unfold dG;rw [AT,AM];lia
theorem ic {ns:List Nat} (h:ns.length<=2) (x:Str):x∈rX m ns↔x∈ns.map rN++fj m:=by
 obtain ⟨_,_,f3⟩:=DE h;unfold rX fj;rw [BA,BA,Bo,Bo];simp only [f3]
def oE (m n:Md):Bool:=(dG m).any (fun x=>(fL n++dG n).contains x) || (dG n).any fun x=>(fL m).contains x
theorem lK {v u:V} {m n:Md} (hm:DV H v m) (hn:DV H u n):oE m n=cW m n:=by
 obtain ⟨_,_,a1,a2⟩:=hm.len_r;obtain ⟨_,_,b1,b2⟩:=hn.len_r;have ra:∀ x,x∈cO m↔x∈fL m:=fun x=>ic a1 x;have wa:∀ x,x∈bg m↔x∈dG m:=fun x=>ic a2 x;have rb:∀ x,x∈cO n↔x∈fL n:=fun x=>ic b1 x;have wb:∀ x,x∈bg n↔x∈dG n:=fun x=>ic b2 x;unfold oE cW ff;rw [BF];simp only [Bool.or_eq_true,List.any_eq_true,BZ,BA,ra,wa,rb,wb];constructor
 ·rintro (⟨x,h1,h2⟩|⟨x,h1,h2⟩)
  ·exact .inl ⟨x,h1,h2⟩
  ·exact .inr ⟨x,h1,.inl h2⟩
 ·rintro (⟨x,h1,h2⟩|⟨x,h1,h2|h2⟩)
  ·exact .inl ⟨x,h1,h2⟩
  ·exact .inr ⟨x,h1,h2⟩
  ·exact .inl ⟨x,h2,.inr h1⟩
variable {i:Nat} {p:Str->Bool}
theorem eQ {x:Str} (h:l[i]?=some x):(l.take (i+1)).filter p=(l.take i).filter p++if p x=true then [x] else []:=by
 rw [By,h,Bp];cases e:p x<;>simp [e]
theorem jJ:(!(l.filter p).isEmpty)=l.any p:=by
 induction l with
 | nil=>rfl
 | cons x l ih=>
  rw [List.filter_cons,Cf];cases e:p x
  ·simpa [e] using ih
  ·simp [e]
theorem fM (a b:List Str):aJ a++aJ b=aJ (a++b):=(AY ..).symm
theorem oF {x:V} (h:(aJ l)[i]?=some x):∃ z,x=.str z/\l[i]?=some z:=by
 unfold aJ at h;rw [A5] at h;cases e:l[i]? with
 | none=>rw [e] at h;cases h
 | some z=>rw [e] at h;exact ⟨z,(Be h).symm,rfl⟩
theorem dD (l:List Str):(aJ l).length=l.length:=AM ..
inductive fN (vs:List V) (H:Hp) (Q:VK) (Z3:XK):Prop
 | mk (v u:V) (m n:Md):vs=[v,u]->DV H v m->DV H u n->(∀ H',Cw H H'->Q (.bl (cW m n)) H')->fN vs H Q Z3
section
variable {P:Program} {w:World} {K:ZF} {mg:Str->Option Value} {base:Heap} {C:Nat->Addr}
theorem EW:ar ["_law_one","_law_other","_law_mine","_law_others"] ["_law_one","_law_other"] (aj iC):=cE zk
theorem yk:(["_law_place","_law_others"]:List Str).Nodup:=by decide +kernel
theorem yl:(["_law_place","_law_mine"]:List Str).Nodup:=by decide +kernel
theorem si (F:C7 K "_law_meet" "_law_meet" iC f fd) (LT:Fn P w K mg base "_law_touched" 1 ["_law_told"] fk):aT P w K mg base bT 2 f fd ["_law_one","_law_other"] fN:=by
 have ZZ:=EW
 walk_at "o"
 ·obtain ⟨v,u,m,n,rfl,hv,hu,q⟩:=h;have sz:(1000:Nat)<=sizeLine:=by decide
  obtain ⟨l1,l2,_,_⟩:=hv.len_r;obtain ⟨l3,l4,_,_⟩:=hu.len_r;refine ⟨_,ah (dH (i:=2) EW.nd rfl (Or.inr rfl) (ap LT hr rfl (aa (pv 0) ab)))
   (ah (dH (i:=3) EW.nd rfl (Or.inr rfl) (ap LT hr rfl (aa (pv 1) ab)))
   (ah (aN (aC (DT hr) (cf (N':=["_law_place","_law_others"]) (ix:=[none,some 3]) (sc0:=aj iC) (N:=["_law_one","_law_other","_law_mine","_law_others"]) rfl zk (bn (aq aL (pv 2) ag))
     (fun C' cl s H fp=>cZ (i:=0) yk)
     (fun _ _ _ _ _=>cN (aC (dN (K:=K) rfl) (pv 0) (aK bH (aq (di (K:=K) rfl) (pv 1) ag) (aq (di (K:=K) rfl) (pv 1) ag)) rfl))
     (fun C' cl s H fp=>pv 0)) (au ab)) (ai (al bG)) aA)
   (ai (al (cH (DT hr) (cf (N':=["_law_place","_law_mine"]) (ix:=[none,some 2]) (sc0:=aj iC) (N:=["_law_one","_law_other","_law_mine","_law_others"]) rfl zk (bn (aq aL (pv 3) ag))
     (fun C' cl s H fp=>cZ (i:=0) yl)
     (fun _ _ _ _ _=>cN (aC (dN (K:=K) rfl) (pv 0) (aq (di (K:=K) rfl) (pv 1) ag) rfl))
     (fun C' cl s H fp=>pv 0)) (au ab)))))),?_⟩
  refine ⟨_,rfl,v,m,rfl,hv,fun t1 r1 w1 H1 s1 et1 er1 ew1=>?_⟩;refine ⟨_,rfl,u,n,rfl,hu.kt (CC s1),fun t2 r2 w2 H2 s2 et2 er2 ew2=>?_⟩;have et1':=s2 _ _ et1;have er1':=s2 _ _ er1;have ew1':=s2 _ _ ew1;have S2:=s1.trans s2;refine ⟨_,rfl,t1,_,_,_,rfl,rfl,CI.of et1',rfl,w1,rfl,⟨_,Cz.of ew1'⟩,?_⟩;refine bU (K:=K) (a:=w1) (xs:=aJ (dG m)) (fun i ys H'=>Cw H2 H'/\ys=aJ (((dG m).take i).filter fun x=>(fL n++dG n).contains x)) ⟨Cw.refl _,rfl⟩ (fun i ys H' hi ⟨a1,a2⟩=>by
    subst a2;refine ⟨Cz.of (a1 _ _ ew1'),?_⟩;rw [dD];have h1:=List.length_filter_le (fun x=>(fL n++dG n).contains x) ((dG m).take i);have h2:((dG m).take i).length<=(dG m).length:=by rw [A7];lia
    lia) ?_ ?_
  ·rintro i x ys H' hx ⟨a1,rfl⟩;have Cu:i < (aJ (dG m)).length:=(AN.mp hx).1;obtain ⟨z,rfl,hz⟩:=oF hx;refine ⟨⟨rfl,trivial⟩,?_⟩;refine ⟨_,rfl,_,rfl,t2,_,_,_,rfl,rfl,CI.of (a1 _ _ et2),rfl,_,rfl,t2,_,_,_,rfl,rfl,CI.of (a1 _ _ et2),rfl,r2,w2,_,_,rfl,rfl,a1 _ _ er2,a1 _ _ ew2,(by rw [dD,dD];lia),fun c nc=>?_⟩;have a2:=a1.trans (ae (o:=.lst (aJ (fL n)++aJ (dG n))) nc);refine ⟨c,_,rfl,.inl (Cz.of af),rfl,(by rw [fM];exact gB _),_,rfl,?_⟩;have eb:jB (.str z) (aJ (fL n)++aJ (dG n))=(fL n++dG n).contains z:=by rw [fM,iJ]
   refine bz (fun h=>?_) (fun h=>?_)
   ·have h':(fL n++dG n).contains z=true:=eb ▸ h;refine ⟨_,rfl,Nx.mk Cu ⟨a2,?_⟩⟩;rw [eQ hz,if_pos h',<-fM];rfl
   ·have h':¬ (fL n++dG n).contains z=true:=fun y=>h (eb.trans y);refine Nx.mk Cu ⟨a2,?_⟩;rw [eQ hz,if_neg h',Ba]
  ·rintro ys H3 ⟨s3,rfl⟩ D hD;rw [dD,Bf];generalize zz:aB H3 D _=H4;have s4:Cw H3 H4:=zz ▸ ae hD;have e4:H4 D=some (.lst (aJ ((dG m).filter fun x=>(fL n++dG n).contains x))):=zz ▸ af;clear zz;refine ⟨CM,fun e ne=>?_⟩;generalize zz:aB H4 e _=H5;have ⟨s5,e5⟩:=nw ne zz;clear zz;have S5:Cw H2 H5:=s3.trans (s4.trans s5);refine ⟨_,_,.lst (Cz.of (s5 _ _ e4)) (fm _),.lst (Cz.of e5) .nil,lI (fun x hx=>hv.ok_w x (Bc.mp hx).1),rfl,A8 (Nat.min_le_right _ _) zd,_,rfl,?_⟩;rw [lJ,jJ];refine bz (fun h=>?_) (fun h=>?_)
   ·have:cW m n=true:=by rw [<-lK hv hu];unfold oE;rw [h];rfl
    rw [<-this];exact q _ (S2.trans S5)
   ·have hf:(dG m).any (fun x=>(fL n++dG n).contains x)=false:=by simpa using h
    refine ⟨_,rfl,t2,_,_,_,rfl,rfl,CI.of (S5 _ _ et2),rfl,w2,rfl,⟨_,Cz.of (S5 _ _ ew2)⟩,?_⟩;refine bU (K:=K) (a:=w2) (xs:=aJ (dG n)) (fun i ys H'=>H'=H5/\ys=aJ (((dG n).take i).filter fun x=>(fL m).contains x)) ⟨rfl,rfl⟩ (fun i ys H' hi ⟨a1,a2⟩=>by
      subst a1 a2;refine ⟨Cz.of (S5 _ _ ew2),?_⟩;rw [dD];have h1:=List.length_filter_le (fun x=>(fL m).contains x) ((dG n).take i);have h2:((dG n).take i).length<=(dG n).length:=by rw [A7];lia
      lia) ?_ ?_
    ·rintro i x ys H' hx ⟨rfl,rfl⟩;have Cu:i < (aJ (dG n)).length:=(AN.mp hx).1;obtain ⟨z,rfl,hz⟩:=oF hx;refine ⟨⟨rfl,trivial⟩,?_⟩;refine ⟨_,rfl,_,rfl,t1,_,_,_,rfl,rfl,CI.of (S5 _ _ et1'),rfl,r1,_,rfl,.inl (Cz.of (S5 _ _ er1')),rfl,gB _,_,rfl,?_⟩;have eb:jB (.str z) (aJ (fL m))=(fL m).contains z:=iJ _ _;refine bz (fun h=>?_) (fun h=>?_)
     ·have h':(fL m).contains z=true:=eb ▸ h;refine ⟨_,rfl,Nx.mk Cu ⟨rfl,?_⟩⟩;rw [eQ hz,if_pos h',<-fM];rfl
     ·have h':¬ (fL m).contains z=true:=fun y=>h (eb.trans y);refine Nx.mk Cu ⟨rfl,?_⟩;rw [eQ hz,if_neg h',Ba]
    ·rintro ys H6 ⟨rfl,rfl⟩ D2 hD2;rw [dD,Bf];generalize zz:aB H6 D2 _=H7;have s7:Cw H6 H7:=zz ▸ ae hD2;have e7:H7 D2=some (.lst (aJ ((dG n).filter fun x=>(fL m).contains x))):=zz ▸ af;clear zz;refine ⟨CM,fun e' ne'=>?_⟩;generalize zz:aB H7 e' _=H8;have ⟨s8,e8⟩:=nw ne' zz;clear zz;refine ⟨_,_,.lst (Cz.of (s8 _ _ e7)) (fm _),.lst (Cz.of e8) .nil,lI (fun x hx=>hu.ok_w x (Bc.mp hx).1),rfl,A8 (Nat.min_le_right _ _) zd,?_⟩;rw [lJ,jJ];have:cW m n=(dG n).any fun x=>(fL m).contains x:=by rw [<-lK hv hu];unfold oE;rw [hf];rfl
     rw [<-this];exact q _ (S2.trans (S5.trans (s7.trans s8)))
end
end L3
namespace TK
def mx (l:List Nat):Nat:=l.foldl max 0
def qc (f:Nat->Nat->Bool) (n:Nat) (l:List Nat):List Nat:=((List.range n).filter fun o=>f o n).map fun o=>l.getD o 0+1
def be (f:Nat->Nat->Bool):Nat->List Nat
 | 0=>[]
 | n+1=>be f n++[mx (qc f n (be f n))]
theorem bW (f:Nat->Nat->Bool):∀ n,(be f n).length=n
 | 0=>rfl
 | n+1=>by rw [be,AT,bW f n];rfl
theorem gF (l:List Nat):∀ a,a<=l.foldl max a/\(∀ x∈l,x<=l.foldl max a)/\(l.foldl max a=a\/l.foldl max a∈l):=by
 induction l with
 | nil=>intro a;exact ⟨AR _,fun x h=>(nomatch h),.inl rfl⟩
 | cons y l ih=>
  intro a;obtain ⟨h1,h2,h3⟩:=ih (max a y);rw [List.foldl_cons];refine ⟨zo,fun x hx=>?_,?_⟩
  ·rcases AZ.mp hx with rfl|hx
   ·lia
   ·exact h2 x hx
  ·rcases h3 with h3|h3
   ·rcases Nat.le_total a y with h|h
    ·exact .inr (by rw [h3,Nat.max_eq_right h];exact AX ..)
    ·exact .inl (by rw [h3,Nat.max_eq_left h])
   ·exact .inr (A2 _ h3)
variable {x:Nat} {l:List Nat}
theorem nv (h:x∈l):x<=mx l:=(gF l 0).2.1 x h
theorem ko (h:l≠[]):mx l∈l:=by
 rcases (gF l 0).2.2 with e|e
 ·cases l with
  | nil=>exact absurd rfl h
  | cons y l=>
   have:=(gF (y::l) 0).2.1 y (AX ..);have y0:y=0:=by rw [e] at this;lia
   show mx (y::l)∈_;have:mx (y::l)=y:=by rw [y0] at e ⊢;exact e
   rw [this];exact AX ..
 ·exact e
theorem sj (l:List Nat) (b:Nat):mx (l++[b])=max (mx l) b:=by unfold mx;rw [List.foldl_append];rfl
def bF (l:List Nat):Nat:=if l=[] then 0 else mx l+1
theorem kq (h:x∈l):x < bF l:=by
 unfold bF;rw [if_neg (List.ne_nil_of_mem h)];have:=nv h;lia
theorem eR (l:List Nat) (b:Nat):bF (l++[b])=max (bF l) (b+1):=by
 unfold bF;rw [if_neg (by simp),sj];split
 ·rename_i h;subst h;show max 0 b+1=_;lia
 ·lia
theorem gG (f:Nat->Nat->Bool) (n:Nat):mx (qc f n (be f n))<=bF (be f n):=by
 by_cases h:qc f n (be f n)=[]
 ·rw [h];exact Bv _
 ·have:=ko h;unfold qc at this;obtain ⟨o,ho,e⟩:=Bo.mp this;have ho':o < n:=A3.mp (Bc.mp ho).1;have hm:(be f n).getD o 0∈be f n:=by
   rw [Bm,AL (by rw [bW];exact ho')];exact Bq _
  have:=kq hm;unfold qc;rw [<-e];lia
def dX (l:List Nat) (n:Nat):List (List Nat):=(List.range (bF (l.take n))).map fun k=>(List.range n).filter fun i=>l.getD i 0 == k
theorem fO (l:List Nat) (n:Nat):(dX l n).length=bF (l.take n):=by unfold dX;rw [AM,List.length_range]
theorem iO {i b k:Nat} (h:l[i]?=some b):((List.range (i+1)).filter fun j=>l.getD j 0 == k)=((List.range i).filter fun j=>l.getD j 0 == k)++if b=k then [i] else []:=by
 rw [Bs,Bp]
 congr 1
 have e:l.getD i 0=b:=by rw [Bm,h];rfl
 by_cases z:b=k
 ·simp [z,h]
 ·simp [z,h]
theorem sk {i k:Nat} (hi:i<=l.length) (h:bF (l.take i)<=k):((List.range i).filter fun j=>l.getD j 0 == k)=[]:=by
 rw [List.filter_eq_nil_iff];intro j hj e;have hj':j < i:=A3.mp hj;have ej:l.getD j 0=k:=by simpa using e
 have hm:l.getD j 0∈l.take i:=by
  rw [Bm,AL zo];have:(l.take i)[j]?=some l[j]:=by rw [List.getElem?_take_of_lt hj',AL zo]
  exact A6 this
 have:=kq hm;lia
variable {i b:Nat}
theorem jK (h:l[i]?=some b):l.take (i+1)=l.take i++[b]:=by rw [By,h];rfl
theorem sn (h:l[i]?=some b) (e:b=bF (l.take i)):dX l (i+1)=dX l i++[[i]]:=by
 have hi:i<=l.length:=Cb (AN.mp h).1;unfold dX;rw [jK h,eR,show max (bF (l.take i)) (b+1)=bF (l.take i)+1 by lia,Bs (n:=bF (l.take i)),AY]
 congr 1
 ·refine List.map_congr_left fun k hk=>?_;have hk':k < bF (l.take i):=A3.mp hk;rw [iO h,if_neg zo,Ba]
 ·show [List.filter _ _]=_;rw [iO h,if_pos e,sk hi (AR _)];rfl
theorem sq (h:l[i]?=some b) (e:b < bF (l.take i)):∃ xs,(dX l i)[b]?=some xs/\dX l (i+1)=(dX l i).set b (xs++[i]):=by
 refine ⟨(List.range i).filter fun j=>l.getD j 0 == b,?_,?_⟩
 ·unfold dX;rw [A5,List.getElem?_range e];rfl
 ·refine List.ext_getElem? fun k=>?_;have en:bF (l.take (i+1))=bF (l.take i):=by rw [jK h,eR];lia
  by_cases hk:k < bF (l.take i)
  ·unfold dX;rw [en,A5,List.getElem?_range hk,List.getElem?_set];simp only [Option.map_some,AM,List.length_range];rw [iO h];by_cases z:b=k
   ·subst z;simp [e]
   ·simp [z,List.getElem?_range hk]
  ·rw [List.getElem?_eq_none (by rw [fO,en];lia),List.getElem?_eq_none (by rw [List.length_set,fO];lia)]
variable {n:Nat}
theorem kr (f:Nat->Nat->Bool) (h:i < n):(be f n)[i]?=some (mx (qc f i (be f i)))/\(be f n).take i=be f i:=by
 induction n with
 | zero=>lia
 | succ n ih=>
  by_cases e:i=n
  ·subst e;have l:=bW f i;refine ⟨?_,?_⟩
   ·show (be f i++[_])[i]?=_;rw [B6 zo,l];simp
   ·show (be f i++[_]).take i=_;rw [List.take_append_of_le_length zo,Bi zo]
  ·obtain ⟨h1,h2⟩:=ih zo;have l:=bW f n;refine ⟨?_,?_⟩
   ·show (be f n++[_])[i]?=_;rw [List.getElem?_append_left zo,h1]
   ·show (be f n++[_]).take i=_;rw [List.take_append_of_le_length zo,h2]
theorem ut (f:Nat->Nat->Bool) (h:(be f n)[i]?=some b):b<=bF ((be f n).take i):=by
 have hi:i < n:=by have:=(AN.mp h).1;rw [bW] at this;exact this
 obtain ⟨h1,h2⟩:=kr f hi;rw [h1] at h;cases h;rw [h2];exact gG f i
theorem lL (f:Nat->Nat->Bool) (n:Nat) (l:List Nat) (i:Nat):(((List.range (i+1)).filter fun o=>f o n).map fun o=>l.getD o 0+1)=(((List.range i).filter fun o=>f o n).map fun o=>l.getD o 0+1)++if f i n=true then [l.getD i 0+1] else []:=by
 rw [Bs,Bp,AY]
 congr 1
 by_cases h:f i n=true<;>simp [h]
theorem iP (f:Nat->Nat->Bool) (n:Nat):bF (be f n)<=n:=by
 induction n with
 | zero=>exact AR _
 | succ n ih=>
  show bF (be f n++[_])<=_;rw [eR];have:=gG f n;lia
end TK
namespace L2
open PySem PySem.Spec PyProof.Rows
def jL (z:Str) (N:List Str) (sc0 sc:Scope) (N':List Str) (ix:List (Option Nat)):Bool:=
 sc.kind == .function && ix.length == N'.length && (sc.names.filter fun p=>p.2 == .cell) == [(z,.cell)] && sc.names.lookup z == some .cell &&
 sc.names.all (fun p=>(p.2 != .free || (sc0.names.lookup p.1 == some .cell || sc0.names.lookup p.1 == some .free)) && (p.2 != .local || sc.names.lookup p.1 == some .local)) &&
 (List.range N'.length).all fun j=>match ix[j]?,N'[j]? with
  | some (some i),some x=>N[i]? == some x && sc.names.lookup x == some .free
  | _,_=>true
variable {z:Str}
theorem iQ {N:List Str} {sc0 sc:Scope} {N':List Str} {ix:List (Option Nat)} (h:jL z N sc0 sc N' ix=true) :
  sc.kind=.function/\ix.length=N'.length/\((sc.names.filter fun p=>p.2 == .cell)=[(z,.cell)]/\sc.names.lookup z=some .cell)/\(∀ p∈sc.names,p.2=.free->sc0.names.lookup p.1=some .cell\/sc0.names.lookup p.1=some .free) /\
   (∀ p∈sc.names,p.2=.local->sc.names.lookup p.1=some .local)/\∀ (j i:Nat) (x:Str),ix[j]?=some (some i)->N'[j]?=some x->N[i]?=some x/\sc.names.lookup x=some .free:=by
 unfold jL at h;simp only [Bh,BC,beq_iff_eq,bne_iff_ne,Bool.or_eq_true,ne_eq] at h;obtain ⟨⟨⟨⟨⟨h1,h2⟩,h5⟩,h6⟩,h3⟩,h4⟩:=h;refine ⟨h1,h2,⟨h5,h6⟩,fun p hp hf=>?_,fun p hp hl=>?_,fun j i x e1 e2=>?_⟩
 ·rcases (h3 p hp).1 with z|z
  ·exact absurd hf z
  ·exact z
 ·rcases (h3 p hp).2 with z|z
  ·exact absurd hl z
  ·exact z
 ·have hj:j < N'.length:=(AN.mp e2).1;have:=h4 j (A3.mpr hj);rw [e1,e2] at this;simpa using this
theorem iR:∀ (ns:List (Str×NameKind)) (n:Nat) (acc:List (Str×Addr)) (h:Heap),(ns.filter fun p=>p.2 == .cell)=[]->cellsFrom n ns acc=acc/\pushCells h ns=h
 | [],_,_,_,_=>⟨rfl,rfl⟩
 | (x,k)::r,n,acc,h,e=>by
  rw [List.filter_cons] at e;unfold cellsFrom pushCells;split at e
  ·cases e
  ·rename_i q;have q':¬ (k == NameKind.cell)=true:=q;rw [if_neg q',if_neg q'];exact iR r n acc h e
theorem jM:∀ (ns:List (Str×NameKind)) (n:Nat) (acc:List (Str×Addr)) (h:Heap),(ns.filter fun p=>p.2 == .cell)=[(z,.cell)]->cellsFrom n ns acc=(z,n)::acc/\pushCells h ns=h.push { cls:=.type "cell",data:=.cell none }
 | [],_,_,_,e=>by cases e
 | (x,k)::r,n,acc,h,e=>by
  rw [List.filter_cons] at e;unfold cellsFrom pushCells;split at e
  ·rename_i q;have q':(k == NameKind.cell)=true:=q;rw [if_pos q',if_pos q'];injection e with e1 e2;cases e1;exact iR r _ _ _ e2
  ·rename_i q;have q':¬ (k == NameKind.cell)=true:=q;rw [if_neg q',if_neg q'];exact jM r n acc h e
theorem uu {M:Model} {A:Around} {E:Value->Shared->Prop} {s:Shared} {z:Str} {scope:Scope} {globals:Addr} {closure:List (Str×Addr)} {qual:Str} {env:Env} {Q:Env->Shared->Prop}
  (hz:(scope.names.filter fun p=>p.2 == .cell)=[(z,.cell)])
  (hQ:∀ h':Heap,h'.Ns s.heap.objs.size (fun _=>none)->h'.IsCell (s.heap.objs.size+1) none->(∀ b o,s.heap.get? b=some o->h'.get? b=some o)->
   Q (newEnv scope s.heap.objs.size globals ((z,s.heap.objs.size+1)::closure) qual none .none (some env) builtinsNs) { s with heap:=h' }) :
  wpAny M A (newFunctionEnv scope globals closure [] qual none .none (some env)) Q E s:=by
 simp only [newFunctionEnv,Option.isSome_some,if_true];refine wpAny_bind (wpAny_alloc ?_);refine wpAny_bind (wpAny_layCells _ (fun name kind cells=>by cases hkc:kind == NameKind.cell<;>simp [hkc]) _ _ _ _ ?_);have e:=jM scope.names (s.heap.push { cls:=.type "dict",data:=.dict #[] }).objs.size closure (s.heap.push { cls:=.type "dict",data:=.dict #[] }) hz;rw [Bb] at e;rw [show ({ s with heap:=s.heap.push { cls:=.type "dict",data:=.dict #[] } }:Shared).heap.objs.size=s.heap.objs.size+1 from Bb ..,e.1,e.2];rw [List.forIn_nil];refine wpAny_bind (wpAny_pure (wpAny_pure (hQ _ ?_ ?_ ?_)))
 ·exact (Heap.Ns.new s.heap (.type "dict")).keeps fun b o e=>AK _ e
 ·have:=AO (o:={ cls:=.type "cell",data:=.cell none }) (s.heap.push { cls:=.type "dict",data:=.dict #[] }) rfl;rw [Bb] at this;exact ⟨_,this,rfl⟩
 ·exact fun b o e=>AK _ (AK _ e)
def jp (z:Str) (X:Cx) (sc:Scope) (N':List Str) (C:Addr) (cl:List (Str×Addr)) (s:Shared) (H:Hp) (fp:List Addr):Cx:={ jl X sc N' C cl s H fp with fn:=fun x=>x == z }
section
variable {X:Cx} {z:Str} {tg elt iter:Expr} {ifs:List Expr} {sc:Scope} {N':List Str} {ix:List (Option Nat)} {Cj:List (Addr×Obj)} {σ:St} {H2:Hp} {s2:Shared} {fp:List Addr} {cl:List (Str×Addr)} {C n:Addr} {pos:Pos}
variable {c:Addr} {x:Str}
theorem eT (h:((z,n)::cl).lookup x=some c):(x=z/\c=n)\/cl.lookup x=some c:=by
 rw [BH] at h;cases e:x == z with
 | true=>rw [e] at h;cases h;exact .inl ⟨by simpa using e,rfl⟩
 | false=>rw [e] at h;exact .inr h
theorem oG (h:cl.lookup x=some c) (hx:x≠z):((z,n)::cl).lookup x=some c:=by
 rw [BH,show (x == z)=false by simpa using hx];exact h
theorem oH:((z,n)::cl).lookup z=some n:=by rw [BH,show (z == z)=true by simp]
theorem oI (I:CB X Cj σ H2 s2) (h:X.env.cells.lookup x=some c):c < s2.heap.objs.size:=by
 obtain ⟨v,o,ho,_⟩:=I.cell x c h;exact AQ ho
theorem wN (I:CB X Cj σ H2 s2) (hix:jL z X.N X.env.scope sc N' ix=true) (e2:∀ x c,cl.lookup x=some c->X.env.cells.lookup x=some c) (e3:∀ x∈sc.names,x.2=.free->∃ c,cl.lookup x.1=some c)
  (f2:∀ b∈fp,io X Cj H2 b) (fo:∀ b∈fp,∃ o,s2.heap.get? b=some o) (hC:s2.heap.objs.size<=C) (hn:s2.heap.objs.size<=n):(jp z X sc N' C ((z,n)::cl) s2 H2 fp).Ok:=by
 obtain ⟨k1,_,⟨k3,k4⟩,_,_,_⟩:=iQ hix;refine ⟨I.ok.mod,k1,I.ok.glob,I.ok.blt,hC,fun x y c a b=>?_,fun x hx=>?_,fun x c z' q=>?_,I.ok.hd,I.ok.frames,.inl rfl,fun b hb=>?_,I.bs,A8 I.ok.bsz I.sz,fun b o e hb=>?_,fun b hb hf=>?_,I.stack,I.stkFree⟩
 ·rcases eT a with ⟨ax,ac⟩|a'<;>rcases eT b with ⟨bx,bc⟩|b'
  ·rw [ax,bx]
  ·have:=oI I (e2 y c b');rw [ac] at this;exact absurd this (Nat.not_lt.mpr hn)
  ·have:=oI I (e2 x c a');rw [bc] at this;exact absurd this (Nat.not_lt.mpr hn)
  ·exact I.ok.inj x y c (e2 x c a') (e2 y c b')
 ·have hx':(compEnvC sc ((z,n)::cl) C X.env).kindOf x=some .cell\/(compEnvC sc ((z,n)::cl) C X.env).kindOf x=some .free:=hx;rw [dL] at hx';cases q:sc.names.lookup x with
  | none=>rw [q] at hx';rcases hx' with z|z<;>cases z
  | some k=>
   have hm:=ce q;by_cases hxz:x=z
   ·subst hxz;exact ⟨n,oH⟩
   ·have hf:k=.free:=by
     rw [q] at hx';cases k with
     | free=>rfl
     | cell=>
      have:(x,NameKind.cell)∈sc.names.filter fun p=>p.2 == .cell:=Bc.mpr ⟨hm,rfl⟩;rw [k3] at this;cases AU.mp this;exact absurd rfl hxz
     | _=>rcases hx' with z|z<;>(simp [gv] at z)
    obtain ⟨c,hc⟩:=e3 (x,k) hm hf;exact ⟨c,oG hc hxz⟩
 ·have hz:x=z:=by
   have z2:(x == z)=true:=z';simpa using z2
  subst hz;have:((x,n)::cl).lookup x=some c:=q;rw [oH] at this;cases this;exact hn
 ·obtain ⟨o,ho⟩:=fo b hb;refine ⟨AW (Bd (AQ ho) hC),fun x c q=>?_⟩;rcases eT q with ⟨_,rfl⟩|q'
  ·exact (AW (Bd (AQ ho) hn)).symm
  ·exact (f2 b hb).2.2.2.2.1 x c (e2 x c q')
 ·have hb':b∈fp:=hb;rcases (f2 b hb').2.2.2.1 with z|z
  ·exact I.ok.noex b o e z
  ·exact absurd (Bd (AQ e) (A8 I.ok.bsz z)) (BO _)
 ·have hb':b∈fp:=hb;rcases AZ.mp (I.stkSub b hf) with z|z
  ·exact (f2 b hb').2.1 z
  ·exact (f2 b hb').2.2.1 z
end
section
variable {X:Cx} {z:Str} {tg elt iter:Expr} {ifs:List Expr} {sc sc0:Scope} {N N':List Str} {ix:List (Option Nat)} {pos:Pos} {wi:TI} {g:TG} {tf:TT} {te:TE}
theorem lM {Cj:List (Addr×Obj)} {σ:St} {H:Hp} {s:Shared} {Q:VK} {use:Option (Value->Sem Unit)} {Qf:Value->Shared->Prop} {cpos:Pos} (hc:X.calm=true) (hix:jL z X.N X.env.scope sc N' ix=true) (hi:PI X tg iter wi)
  (hg:∀ C cl s H fp,PG (jp z X sc N' C cl s H fp) tg g) (hf:∀ C cl s H fp,PF (jp z X sc N' C cl s H fp) ifs tf) (he:∀ C cl s H fp,PE (jp z X sc N' C cl s H fp) elt te)
  (hs:∀ x,foldedSetIterable iter X.env x=pure x) (I:CB X Cj σ H s) (h:vg wi g tf te ix σ H Q)
  (hend:∀ (C D:Addr) (H':Hp) (s':Shared),EN X Cj σ H' s' C->Q (.ref D) H'->compPost (model X.prog X.w) X.A X.xe use Qf (.ref D) C (.ok .next) s') :
  wpAny (model X.prog X.w) X.A (comprehension (.ListComp elt [⟨tg,iter,ifs,0⟩] sc pos) sc X.env cpos (newList []) false (eval iter X.env) use) Qf X.xe s:=by
 obtain ⟨hk,Ck,⟨hcz,hzl⟩,hfreeX,hnames,hat⟩:=iQ hix;obtain ⟨cl,e1,e2,e3⟩:=iy (env:=X.env) (sc:=sc) (fun x hx hf=>I.ok.has x.1 (hfreeX x hx hf));refine wpAny_comprehension_free (use:=use) (cl:=cl) rfl hs e1 hk hnames (bA (hi Cj s σ H _ I h) fun v s1 h1=>bA h1 fun itv s2 h2=>?_);obtain ⟨it,fp,tn,J,H2,e,I2,T,st2,f2,W,⟨m0,w0⟩,turn⟩:=h2;subst e;refine wpAny_newObj_type (uu hcz fun h₁ hns₁ hcl₁ kp₁=>?_);dsimp only at hns₁ hcl₁ kp₁ ⊢;generalize hH2:s2.heap.push { cls:=.type "list",dict:=none,data:=.seq ([]:List Value).toArray }=G2 at hns₁ hcl₁ kp₁ ⊢;have hCs:G2.objs.size=s2.heap.objs.size+1:=by rw [<-hH2,Bb]
 have hDC:s2.heap.objs.size≠G2.objs.size:=by rw [hCs];exact AW (BI _)
 have hCle:s2.heap.objs.size<=G2.objs.size:=by rw [hCs];exact BS _
 have belowC:∀ b,b < s2.heap.objs.size->b≠G2.objs.size:=fun b hb=>by rw [hCs];exact AW (Nat.lt_succ_of_lt hb)
 have belowD:∀ b,b < s2.heap.objs.size->b≠s2.heap.objs.size:=fun b hb=>AW hb;have old:∀ b o,s2.heap.get? b=some o->h₁.get? b=some o:=fun b o e=>kp₁ b o (hH2 ▸ AK _ e);have hacc:h₁.get? s2.heap.objs.size=some { cls:=.type "list",data:=.seq ([]:List Value).toArray }:=kp₁ _ _ (hH2 ▸ AO _ rfl);have hnle:s2.heap.objs.size<=G2.objs.size+1:=A8 hCle (BS _);have hnD:G2.objs.size+1≠s2.heap.objs.size:=by rw [hCs];exact (AW (Nat.lt_succ_of_lt (BI _))).symm
 have fo:∀ b∈fp,∃ o,s2.heap.get? b=some o:=fun b hb=>let ⟨o,ho,_⟩:=T.obj _ _ st2 b hb;⟨o,ho⟩;have fD:∀ b∈fp,b≠s2.heap.objs.size:=fun b hb=>let ⟨o,ho⟩:=fo b hb;belowD b (AQ ho);have ok':(jp z X sc N' G2.objs.size ((z,G2.objs.size+1)::cl) s2 H2 fp).Ok:=wN I2 hix e2 e3 f2 fo hCle hnle;have HD:H2 s2.heap.objs.size=none:=I2.hok.fresh (AR _);have HC:H2 G2.objs.size=none:=I2.hok.fresh hCle;have I4:CB (jp z X sc N' G2.objs.size ((z,G2.objs.size+1)::cl) s2 H2 fp) [] (hX ix σ) H2 { s2 with heap:=h₁ }:=by
  refine ⟨ok',rfl,I2.bare,Un.kept old,⟨_,hns₁,fun j x v a b c=>?_⟩,fun x c q=>?_,HC,fun x c q=>(eT q).elim (fun e=>e.2 ▸ I2.hok.fresh hnle) (fun q=>I2.freeC x c (e2 x c q)),fun p hp=>(by cases hp),I2.hok.kept old,?_⟩
  ·
   have a':N'[j]?=some x:=a;have b':(ix.map fun o=>match o with|some i=>(σ[i]?).getD none|none=>none)[j]?=some (some v):=b;rw [A5] at b';cases q:ix[j]? with
   | none=>rw [q] at b';cases b'
   | some o=>
    rw [q] at b';cases o with
    | none=>cases b'
    | some i=>
     obtain ⟨n1,n2⟩:=hat j i x q a';have b'':(σ[i]?).getD none=some v:=Be b';have sv:σ[i]?=some (some v):=by
      cases zz:σ[i]? with
      | none=>rw [zz] at b'';cases b''
      | some y=>rw [zz] at b'';exact congrArg some b''
     obtain ⟨m,hn,hl⟩:=I2.loc;have kx:=hfreeX (x,.free) (ce n2) rfl;obtain ⟨u,r,lk⟩:=hl i x v n1 sv (.inr kx);refine ⟨u,r,.inr ⟨?_,?_⟩⟩
     ·show (compEnvC sc ((z,G2.objs.size+1)::cl) G2.objs.size X.env).kindOf x=some .cell\/(compEnvC sc ((z,G2.objs.size+1)::cl) G2.objs.size X.env).kindOf x=some .free;rw [dL,n2];show some (gv X.env x .free)=some .cell\/some (gv X.env x .free)=some .free;unfold gv;split
      ·exact .inl rfl
      ·exact .inr rfl
     ·obtain ⟨c1,hc1⟩:=e3 (x,.free) (ce n2) rfl;refine ⟨c1,oG hc1 (fun y=>by rw [y,hzl] at n2;cases n2),?_⟩;have hc2:=e2 x c1 hc1;rcases lk with ⟨z,_⟩|⟨_,c,hcc,hcl⟩
      ·have z':X.env.scope.names.lookup x=some .local:=z;rcases kx with y|y<;>(rw [y] at z';cases z')
      ·rw [hc2] at hcc;cases hcc;obtain ⟨o,ho,hd⟩:=hcl;exact ⟨o,old c1 o ho,hd⟩
  ·rcases eT q with ⟨_,rfl⟩|q
   ·exact ⟨none,hcl₁⟩
   ·obtain ⟨v,o,ho,hd⟩:=I2.cell x c (e2 x c q);exact ⟨v,o,old c o ho,hd⟩
  ·show (ix.map _).length=N'.length;rw [AM,Ck]
 have cellD:∀ x c,((z,G2.objs.size+1)::cl).lookup x=some c->c≠s2.heap.objs.size:=fun x c q y=>by
  rcases eT q with ⟨_,rfl⟩|q
  ·exact hnD y
  ·obtain ⟨v,o,ho,hd⟩:=I2.cell x c (e2 x c q);exact belowD c (AQ ho) y
 have loop:∀ s₃:Shared,s₃={ s2 with heap:=h₁ }->
   codeAny (model X.prog X.w) X.A (.compLoop (.ListComp elt [⟨tg,iter,ifs,0⟩] sc pos) 0 (.ref it) (.ref s2.heap.objs.size) (compEnvC sc ((z,G2.objs.size+1)::cl) G2.objs.size X.env))
    (compPost (model X.prog X.w) X.A X.xe use Qf (.ref s2.heap.objs.size) G2.objs.size) s₃:=by
  rintro s₃ rfl;refine codeAny_loop rfl (fun n s'=>∃ i ys H' its k,CB (jp z X sc N' G2.objs.size ((z,G2.objs.size+1)::cl) s2 H2 fp) [] (hX ix σ) H' s'/\tn i s'.heap/\(∀ b∈fp,H' b=none)/\H' s2.heap.objs.size=none /\
   CD ys its/\s'.heap.get? s2.heap.objs.size=some { cls:=.type "list",data:=.seq its.toArray k }/\W i n ys H') ?_ m0
   ⟨0,[],H2,[],_,I4,T.keep _ _ _ st2 (fun b _ o e=>old b o e),fun b hb=>(f2 b hb).1,HD,.nil,hacc,w0⟩
  rintro n s5 ⟨i,ys,H5,its,k,I5,st5,fr5,hD5,vv,oD,w5⟩;show wpAny _ X.A ((compTurn (.ListComp elt [⟨tg,iter,ifs,0⟩] sc pos) 0 (.ref it) (.ref s2.heap.objs.size) (compEnvC sc ((z,G2.objs.size+1)::cl) G2.objs.size X.env)).onRaise (fun x=>do noteFrame x (compEnvC sc ((z,G2.objs.size+1)::cl) G2.objs.size X.env);theTreesLotGoes x)) _ _ s5;refine wpAny_noted ?_;rw [compTurn_list];have I5p:CB (jp z X sc N' G2.objs.size ((z,G2.objs.size+1)::cl) s2 H2 fp) [(s2.heap.objs.size,{ cls:=.type "list",data:=.seq its.toArray k })] (hX ix σ) H5 s5:=I5.pins_of fun p hp=>by
   have hp':p=(s2.heap.objs.size,{ cls:=.type "list",data:=.seq its.toArray k }):=by simpa using hp
   subst hp';refine ⟨oD,hD5,hDC,fun hb=>?_,fun v z=>(by cases z)⟩;obtain ⟨_,o,ho,_⟩:=I2.stack.mem (show s2.heap.objs.size∈my X.stack from hb);exact BO _ (AQ ho)
  have fpk:∀ {H':Hp},(∀ b∈fp,H' b=none)->∀ b∈fp,io (jp z X sc N' G2.objs.size ((z,G2.objs.size+1)::cl) s2 H2 fp) [(s2.heap.objs.size,({ cls:=.type "list",data:=.seq its.toArray k }:Obj))] H' b:=fun {H'} hn b hb=>by
   refine ⟨hn b hb,(ok'.exf b hb).1,ok'.exfs b hb,.inl hb,(ok'.exf b hb).2,fun p hp=>?_⟩;have hp':p=(s2.heap.objs.size,({ cls:=.type "list",data:=.seq its.toArray k }:Obj)):=by
    have z:p∈([]:List (Addr×Obj))++[(s2.heap.objs.size,({ cls:=.type "list",data:=.seq its.toArray k }:Obj))]:=hp;simpa using z
   subst hp';exact (fD b hb).symm
  rcases turn i n ys H5 w5 with ⟨stop,hz,qn⟩|⟨go,hz,step⟩
  ·refine wpAny_bind (wpAny_standAt (wpAny_bind (wpAny_mono (T.done (jp z X sc N' G2.objs.size ((z,G2.objs.size+1)::cl) s2 H2 fp) rfl rfl rfl hc i _ s5 (hX ix σ) H5 (fun _ _=>False) I5p (fpk fr5) st5 stop) (fun r s6 ⟨hr,I6⟩=>?_) fun _ _ f=>f.elim)));subst hr;refine wpAny_pure ?_;obtain ⟨m,hn,_⟩:=I6.loc;have oD6:s6.heap.get? s2.heap.objs.size=some { cls:=.type "list",data:=.seq its.toArray k }:=(I6.pin (s2.heap.objs.size,{ cls:=.type "list",data:=.seq its.toArray k }) (by show _∈([]:List (Addr×Obj))++_;simp)).1;have u6:Un (my X.stack) fp H2 H5 s2.heap s6.heap:=I6.base;have HC5:H5 G2.objs.size=none:=I6.free;refine hend _ _ (aB H5 s2.heap.objs.size (.lst ys)) s6 ⟨?_,⟨m,hn⟩,by rw [az hDC.symm];exact HC5,(belowC _ I2.lt).symm,fun x c q=>?_,A8 I2.sz hCle,fun p hp=>?_⟩ (qn _ hD5)
   ·refine I2.call' (s':=s6) (ch:=fp) I6.os ?_ ?_ I6.bare fun b hb=>⟨(f2 b hb).2.2.2.1,(f2 b hb).2.1,(f2 b hb).2.2.2.2.1,(f2 b hb).2.2.2.2.2⟩
    ·refine ⟨fun b o e n nf nx=>u6.keep b o e n nf nx,fun b o e n nf nx=>u6.slot b o e n nf nx,fun b o e n nx=>?_,fun b o e nx=>u6.there b o e nx,fun b xs e=>?_,fun b o u e=>?_,fun b ps e=>?_⟩
     ·rw [az (belowD b (AQ e))];exact u6.free b o e n nx
     ·rw [az (aD e HD)];exact u6.tups b xs e
     ·rw [az (aD e HD)];exact u6.frzs b o u e
     ·rw [az (aD e HD)];exact u6.tbls b ps e
    ·intro b o e;by_cases hb:b=s2.heap.objs.size
     ·subst hb;rw [af] at e;cases e;exact ⟨hz,its,k,vv,oD6⟩
     ·rw [az hb] at e;refine (I6.hok b o e).stay (fun c v hcc q=>q) (fun c q=>?_) fun c xs q=>?_
      ·rw [az (aD q hD5)];exact q
      ·rw [az (aD q hD5)];exact q
   ·obtain ⟨v,o,ho,hd⟩:=I2.cell x c q;exact belowC c (AQ ho)
   ·exact belowC p.1 (AQ (I2.pin p hp).1)
  ·refine wpAny_bind (wpAny_standAt (wpAny_bind (wpAny_mono (T.item (jp z X sc N' G2.objs.size ((z,G2.objs.size+1)::cl) s2 H2 fp) rfl rfl rfl hc i _ s5 (hX ix σ) H5 (fun _ _=>False) I5p (fpk fr5) st5 go) (fun r s6 ⟨u,hr,h6⟩=>?_) fun _ _ f=>f.elim)));subst hr;refine wpAny_bind (wpAny_mono h6 (fun _ s7 ⟨x,H7,I7,r7,y7,st7,fr7⟩=>?_) fun _ _ f=>f.elim);have I7':=I7.pinned (fpk fr7) (T.obj _ _ st7);refine wpAny_bind (wpAny_mono (hg _ _ _ _ _ _ s7 (hX ix σ) H7 x u _ I7' r7 (step x H7 y7)) (fun _ s8 ⟨σ8,H8,I8,x8,q8⟩=>?_) fun _ _ f=>f.elim);obtain ⟨xl,xv⟩:=x8.spec;have keepT:∀ {σ9:St} {H9:Hp} {s9:Shared} {pl:List (Addr×Obj)},(∀ p∈cu fp s7.heap,p∈pl)->CB (jp z X sc N' G2.objs.size ((z,G2.objs.size+1)::cl) s2 H2 fp) pl σ9 H9 s9->tn (i+1) s9.heap/\∀ b∈fp,H9 b=none:=fun {σ9 H9 s9 pl} hp I9=>by
    have pn:∀ b o,b∈fp->s7.heap.get? b=some o->s9.heap.get? b=some o/\H9 b=none:=fun b o hb e=>by
     have:=I9.pin (b,o) (A9 _ (hp _ (dI hb e)));exact ⟨this.1,this.2.1⟩
    refine ⟨T.keep _ _ _ st7 fun b hb o e=>(pn b o hb e).1,fun b hb=>?_⟩;obtain ⟨o,e,_⟩:=T.obj _ _ st7 b hb;exact (pn b o hb e).2
   refine wpAny_bind (wpAny_mono (hf _ _ _ _ _ _ s8 σ8 H8 _ I8 q8) (fun ok s9 ⟨H9,I9,q9⟩=>?_) fun _ _ f=>f.elim);have pD:∀ {σ9:St} {H9:Hp} {s9:Shared},CB (jp z X sc N' G2.objs.size ((z,G2.objs.size+1)::cl) s2 H2 fp) ([(s2.heap.objs.size,({ cls:=.type "list",data:=.seq its.toArray k }:Obj))]++cu fp s7.heap) σ9 H9 s9->
     s9.heap.get? s2.heap.objs.size=some { cls:=.type "list",data:=.seq its.toArray k }/\H9 s2.heap.objs.size=none:=fun {σ9 H9 s9} I9=>by
    have:=I9.pin (s2.heap.objs.size,{ cls:=.type "list",data:=.seq its.toArray k }) (A9 _ (BL _ (by simp)));exact ⟨this.1,this.2.1⟩
   cases ok with
   | false=>
    obtain ⟨m',hm,w9⟩:=(show ∃ m',m' < n/\W (i+1) m' ys H9 from by simpa using q9);obtain ⟨t9,fr9⟩:=keepT (fun p hp=>A9 _ hp) I9;obtain ⟨oD9,hD9⟩:=pD I9;refine wpAny_pure ⟨rfl,m',hm,i+1,ys,H9,its,k,(I9.pins_of (pins':=[]) fun p hp=>nomatch hp).weak xl xv,t9,fr9,hD9,vv,oD9,w9⟩
   | true=>
    have q9':te σ8 H9 fun y H4=>∃ m',m' < n/\W (i+1) m' (ys++[y]) H4:=by simpa using q9
    refine wpAny_bind (wpAny_bind (wpAny_mono (he _ _ _ _ _ _ s9 σ8 H9 _ I9 q9') (fun yv sA ⟨y,HA,IA,rA,m',hm,wA⟩=>?_) fun _ _ f=>f.elim));obtain ⟨oDA,hDA⟩:=pD IA;have hsz:its.toArray.size<=sizeLine:=by rw [AV,<-vv.length];exact hz
    refine wpAny_bind (wpAny_list_append_plain (hsz:=hsz) ⟨_,oDA⟩ fun h9 pl9 sb9=>?_);have IB:CB (jp z X sc N' G2.objs.size ((z,G2.objs.size+1)::cl) s2 H2 fp) (cu fp s7.heap) σ8 HA sA:=IA.pins_of fun p hp=>IA.pin p (A9 _ (A9 _ hp));have IC:CB (jp z X sc N' G2.objs.size ((z,G2.objs.size+1)::cl) s2 H2 fp) (cu fp s7.heap) σ8 HA { sA with heap:=h9 }:=IB.turned (it:=s2.heap.objs.size) (t':=sA.toks) (fun b o hb e=>(sb9.2 b hb).trans e) hDA hDC (.inr (AR _)) (fun x c q=>cellD x c q) fun p hp=>by
     have hp':p∈cu fp s7.heap:=by
      have z:p∈([]:List (Addr×Obj))++cu fp s7.heap:=hp;simpa using z
     exact fD p.1 (gk hp').1
    obtain ⟨t9,fr9⟩:=keepT (fun p hp=>hp) IC;obtain ⟨k',oD'⟩:=pl9;refine wpAny_pure (wpAny_pure ⟨rfl,m',hm,i+1,ys++[y],HA,its++[yv],k',(IC.pins_of (pins':=[]) fun p hp=>nomatch hp).weak xl xv,t9,fr9,hDA,vv.append (.cons rA .nil),?_,wA⟩);show h9.get? s2.heap.objs.size=_;rw [oD'];simp
 exact codeAny_compStart_list (loop _ rfl) (T.self X.A 0 _ _ _ (T.keep _ _ _ st2 (fun b _ o e=>old b o e)) (loop _ rfl))
theorem wO (hc:X.calm=true) (hix:jL z N sc0 sc N' ix=true) (hi:PI X tg iter wi)
  (hg:∀ C cl s H fp,PG (jp z X sc N' C cl s H fp) tg g) (hf:∀ C cl s H fp,PF (jp z X sc N' C cl s H fp) ifs tf) (he:∀ C cl s H fp,PE (jp z X sc N' C cl s H fp) elt te)
  (eN:X.N=N:=by rfl) (eS:X.env.scope=sc0:=by rfl) (hs:∀ x,foldedSetIterable iter X.env x=pure x:=by intro _;rfl) :
  PE X (.ListComp elt [⟨tg,iter,ifs,0⟩] sc pos) (vg wi g tf te ix):=by
 refine ⟨?_⟩;intro Cj s σ H Q I h;subst eN eS;rw [eval_ListComp];refine lM (use:=none) hc hix hi hg hf he hs I h fun C D H' s' L q=>?_;obtain ⟨m,hn⟩:=L.ns;exact ⟨m,hn,fun h' sb=>⟨.ref D,H',L.gone sb,rfl,q⟩⟩
end
section
variable {X:Cx}
def sr (K:ZF) (ta:TA):TI:=fun σ H R=>Fz K ta σ H R\/rB K ta σ H R
theorem su {elts:List Expr} {kt:Nat} {tp:Pos} {a:Expr} {ta:TA} {p pos:Pos} (hg:Gl X "enumerate") (hm:X.mg "enumerate"=none) (ha:PA X [a] ta) (hs:starEach [a] X.env=[(false,eval a X.env)]:=by rfl):PI X (.Tuple elts kt tp) (.Call (.Name "enumerate" p) [a] [] pos) (sr X.K ta):=
 ⟨fun Cj s σ H R I h=>h.elim ((D6 hg hm ha hs).run Cj s σ H R I) ((rC hg hm ha hs).run Cj s σ H R I)⟩
end
variable {K:ZF}
theorem ym {l:Addr} {xs:List V} {g:TG} {tb:TS} {D:eX} {σ:St} {H:Hp} {ta:TA} (hta:∀ Q:List V->Hp->Prop,Q [.ref l] H->ta σ H Q) (Pv:Nat->St->Hp->Prop) (h0:Pv 0 σ H) (hl:(∀ i σ H,i<=xs.length->Pv i σ H->Cz K H l xs)\/(∀ i σ H,i<=xs.length->Pv i σ H->CI K H l xs))
  (hs:∀ i x σ H T,xs[i]?=some x->H T=none->Pv i σ H->g (.ref T) σ (aB H T (.tup [.int i,x])) fun σ2 H2=>tb { D with nx:=Pv (i+1),ct:=Pv (i+1),bk:=D.nx } σ2 H2) (hd:∀ σ H,Pv xs.length σ H->D.nx σ H) :
  sr K ta σ H fun it H=>∃ W:Nat->Nat->St->Hp->Prop,(∃ m,W 0 m σ H)/\∀ i m σ H,W i m σ H->
   (it.stop i H/\D.nx σ H)\/(it.go i H/\∃ N:St->Hp->Prop,(∀ σ' H',N σ' H'->∃ m',m' < m/\W (i+1) m' σ' H')/\∀ x H',it.yld i H x H'->g x σ H' fun σ2 H2=>tb { D with nx:=N,ct:=N,bk:=D.nx } σ2 H2):=by
 rcases hl with hl|hl
 ·exact .inl (hta _ ⟨l,rfl,⟨xs,hl 0 σ H (Bv _) h0⟩,D3 Pv h0 hl hs hd⟩)
 ·exact .inr (hta _ ⟨l,rfl,⟨xs,hl 0 σ H (Bv _) h0⟩,pL Pv h0 hl hs hd⟩)
theorem ci {X:Cx} (h:X.K=K):Gz X (gu K):=by
 subst h;exact aG
end L2
namespace L3
open PySem L2
variable {K:ZF}
theorem iS {X:Cx} (h:X.K=K):Gz X (fun x y H Q=>gu K x y H Q\/pG K x y H Q):=Gz.or (ci h) (di h)
variable {l:List Nat}
theorem uv {m:Int} (h:GF (l.map fun (k:Nat)=>(k:Int)) m):m=(TK.mx l:Nat):=by
 obtain ⟨h1,h2⟩:=h;obtain ⟨k,hk,rfl⟩:=Bo.mp h1;have a:=TK.nv hk;have b:=h2 _ (Bo.mpr ⟨_,TK.ko (List.ne_nil_of_mem hk),rfl⟩);lia
theorem cj (l:List Nat) (k:Nat):Cy l++[V.int (k:Int)]=Cy (l++[k]):=by unfold Cy;rw [AY];rfl
theorem ca {i k:Nat} (h:l[i]?=some k):(Cy l)[i]?=some (.int (k:Int)):=by unfold Cy;rw [A5,h];rfl
theorem am (l:List Nat):(Cy l).length=l.length:=by unfold Cy;rw [AM]
def GM (H:Hp) (a:Addr) (zs:List V):Prop:=H a=some (.lst zs)\/H a=some (.tup zs)
variable {zs:List V} {a:Addr} {H H':Hp}
theorem GM.same (s:Cw H H') (h:GM H a zs):GM H' a zs:=h.imp (s _ _) (s _ _)
variable {Q:VK} {i:Nat}
theorem GM.ix {z:V} (h:GM H a zs) (e:zs[i]?=some z) (q:Q z H):gu K (.ref a) (.int (i:Int)) H Q\/pG K (.ref a) (.int (i:Int)) H Q:=
 h.imp (fun h=>⟨a,_,_,_,rfl,rfl,Cz.of h,a8 e,q⟩) (fun h=>⟨a,_,_,_,rfl,rfl,CI.of h,a8 e,q⟩)
def bI (ms:List Md) (i j:Nat):Bool:=match ms[i]?,ms[j]? with
 | some m,some n=>cW m n
 | _,_=>false
def aP (ms:List Md) (n:Nat):List Nat:=TK.be (bI ms) n
def oJ (C:Nat->Addr):Sp:=fun vs H Q _=>∃ (a:Addr) (zs:List V) (ms:List Md),vs=[.ref a]/\GM H a zs/\Paired (CN C H) zs ms/\zs.length<=200/\∀ l H',Cw H H'->H l=none->H' l=some (.lst (Cy (aP ms ms.length)))->Q (.ref l) H'
inductive JB (H:Hp) (a l:Addr) (ms:List Md) (i:Nat) (σ:St) (H':Hp):Prop
 | mk (v2 v3 v4:Option V):σ=[some (.ref a),some (.ref l),v2,v3,v4]->Cw H H'->H' l=some (.lst (Cy (aP ms i)))->JB H a l ms i σ H'
section
variable {P:Program} {w:World} {K:ZF} {mg:Str->Option Value} {base:Heap} {C fi:Nat->Addr}
theorem DZ:ar ["steps","told","at","step","ahead"] ["steps"] (aj kc):=cE zk
theorem ux:(["other","told","steps","step"]:List Str).Nodup:=by decide +kernel
theorem sw {f:Addr} {fd:FuncData} (F:C7 K "beats_told" "beats_told" kc f fd) (B:Bl mg) (B2:rW mg) (ME:Fn P w K mg base "meets" 5 ["one","other"] (eO C)):aT P w K mg base bT 6 f fd ["steps"] (oJ C):=by
 have ZZ:=DZ
 walk_at "o"
 ·obtain ⟨a,zs,ms,rfl,hS,hP,hz,q⟩:=h;have sz:(1000:Nat)<=sizeLine:=by decide
  have hml:zs.length=ms.length:=hP.length;refine ⟨_,ah (dH (i:=1) DZ.nd rfl (Or.inr rfl) (au ab))
   (ah (bY PassesOwn.never rfl (su rfl B2.enumerate (aa (pv 0) ab)) (gj rfl (bu (cZ (i:=2) DZ.nd) (bu (eF (i:=3) DZ.nd rfl (Or.inr rfl)) dh)))
    (ah (iA (i:=4) DZ.nd rfl rfl (N':=["other","told","steps","step"]) (ix:=[none,some 1,some 0,some 3]) (sc0:=aj kc) (N:=["steps","told","at","step","ahead"]) rfl zk (bB rfl B.range (aa (pv 2) ab))
      (fun C' cl s H fp=>cZ (i:=0) ux)
      (fun _ _ _ _ _=>cN (aW (ap ME (hr.mono zd) rfl (aa (aq (iS (K:=K) rfl) (pv 2) (pv 0)) (aa (pv 3) ab)))))
      (fun C' cl s H fp=>aK bZ (aq (ci (K:=K) rfl) (pv 1) (pv 0)) ag))
    (ai (cT (fb Bx BE BD cF (pv 1) (aa (FQ (FO rfl) (by rfl) B.max FH (aa (pv 4) ab) (tX ag vM)) ab))))))
   (ai (al (pv 1)))),?_⟩
  refine ⟨CM,fun l nl=>?_⟩;generalize zz:aB H l _=H0;have ⟨s0,e0⟩:=nw nl zz;clear zz;have nla:l≠a:=by
   rintro rfl;rcases hS with h|h<;>rw [h] at nl<;>cases nl
  refine ym (K:=K) (l:=a) (xs:=zs) (fun Q' h=>⟨_,rfl,h⟩) (fun i σ H'=>JB H a l ms i σ H') ⟨none,none,none,rfl,s0,e0⟩ (hS.elim (fun h=>.inl fun _ _ H' _ ⟨_,_,_,_,s',_⟩=>Cz.of (s' _ _ h)) (fun h=>.inr fun _ _ H' _ ⟨_,_,_,_,s',_⟩=>CI.of (s' _ _ h))) ?_ ?_
  ·rintro i x σ H1 T1 hx nT ⟨v2,v3,v4,rfl,s1,e1⟩;obtain ⟨n,hn,hxn⟩:=aQ hP hx;have hi:i < zs.length:=(AN.mp hx).1;have s2:=ae (o:=.tup [.int (i:Int),x]) nT;have nlT:l≠T1:=aD e1 nT;refine ⟨T1,_,rfl,CI.of af,rfl,_,_,rfl,_,_,rfl,rfl,?_⟩;generalize aB H1 T1 (.tup [.int (i:Int),x])=H2 at *;have e2:=s2 _ _ e1;have s02:=s1.trans s2;refine ⟨_,rfl,(i:Int),rfl,zo,zo,?_⟩;refine cV (lo:=0) (fun j ys H'=>Cw H2 H'/\ys=Cy (((List.range j).filter fun o=>bI ms o i).map fun o=>(aP ms i).getD o 0+1)) ⟨Cw.refl _,rfl⟩ (fun j ys H' hj ⟨_,a2⟩=>by
     have hj':j<=i:=by simpa using hj
     rw [a2,am,AM];have:=List.length_filter_le (fun o=>bI ms o i) (List.range j);rw [List.length_range] at this;lia) ?_ ?_
   ·rintro j ys H3 hj ⟨s3,rfl⟩;have hj':j < i:=by simpa using hj
    have hjz:j < zs.length:=by lia
    obtain ⟨m,hm,hzm⟩:=aQ hP (AL hjz);have s03:=s02.trans s3;refine ⟨⟨rfl,rfl,rfl,trivial⟩,?_⟩;rw [Int.zero_add];refine ⟨_,rfl,_,rfl,(hS.same s03).ix (AL hjz) ?_⟩;refine ⟨_,rfl,_,_,m,n,rfl,hzm.same s03,hxn.same s03,fun H4 s4=>⟨_,rfl,?_⟩⟩;have ef:bI ms j i=cW m n:=by unfold bI;rw [hm,hn]
    refine bz (fun h=>?_) (fun h=>?_)
    ·have ev:(aP ms i)[j]?=some ((aP ms i).getD j 0):=by
      have hl:j < (aP ms i).length:=by unfold aP;rw [TK.bW];exact hj'
      rw [Bm,AL hl];rfl
     refine ⟨_,rfl,_,rfl,l,_,_,_,rfl,rfl,Cz.of ((s3.trans s4) _ _ e2),a8 (ca ev),_,_,rfl,rfl,?_⟩;refine Nx.mk (by simpa using hj') ⟨s3.trans s4,?_⟩;rw [TK.lL,if_pos (ef.trans h),<-cj];rfl
    ·refine Nx.mk (by simpa using hj') ⟨s3.trans s4,?_⟩;rw [TK.lL,if_neg (fun z=>h (ef.symm.trans z)),Ba]
   ·rintro ys H3 ⟨s3,e3⟩ la nla2;rw [A1] at e3;subst e3;generalize zz:aB H3 la _=H4;have s4:Cw H3 H4:=zz ▸ ae nla2;have e4:H4 la=some (.lst (Cy (((List.range i).filter fun o=>bI ms o i).map fun o=>(aP ms i).getD o 0+1))):=zz ▸ af;clear zz;have e5:=(s3.trans s4) _ _ e2;have s05:=s02.trans (s3.trans s4);have fin:∀ m:Nat,m=TK.mx (TK.qc (bI ms) i (aP ms i))->∀ σ,(∃ v2 v3 v4:Option V,σ=[some (.ref a),some (.ref l),v2,v3,v4])->JB H a l ms (i+1) σ (aB H4 l (.lst (Cy (aP ms i)++[.int (m:Int)]))):=by
     rintro m rfl σ ⟨v2,v3,v4,rfl⟩;refine ⟨_,_,_,rfl,ak nl s05,?_⟩;rw [cj];exact af
    have Ck:(Cy (aP ms i)).length+1<=sizeLine:=by rw [am];unfold aP;rw [TK.bW];lia
    refine ⟨_,rfl,.inl ⟨rfl,_,Cz.of e5⟩,_,rfl,la,_,_,rfl,rfl,(by rw [CZ] at e4;exact Cz.of e4),fun m hm=>?_,fun h0=>?_⟩
    ·rw [uv hm];exact ⟨l,_,_,rfl,rfl,e5,Ck,fin _ rfl _ ⟨_,_,_,rfl⟩⟩
    ·refine ⟨l,_,_,rfl,rfl,e5,Ck,fin 0 ?_ _ ⟨_,_,_,rfl⟩⟩;have:TK.qc (bI ms) i (aP ms i)=[]:=List.map_eq_nil_iff.mp h0;rw [this];rfl
  ·rintro σ H1 ⟨v2,v3,v4,rfl,s1,e1⟩;refine ⟨_,rfl,?_⟩;rw [hml] at e1;exact q l H1 s1 nl e1
end
abbrev oK (H:Hp) (a:Addr) (xs:List Nat):Prop:=H a=some (.lst (Cy xs))
structure LL (H0 H:Hp) (l:Addr) (as:List Addr) (xss:List (List Nat)):Prop where
 ls:H l=some (.lst (as.map V.ref))
 it:Paired (oK H) as xss
 nd:as.Nodup
 fr:∀ a∈as,H0 a=none
theorem gH {α β:Type} {F G:α->β->Prop}:∀ {xs:List α} {ys:List β},Paired F xs ys->(∀ (j:Nat) x z,xs[j]?=some x->F x z->G x z)->Paired G xs ys
 | _,_,.nil,_=>.nil
 | _,_,.cons a t,h=>.cons (h 0 _ _ rfl a) (gH t fun j x z hx f=>h (j+1) x z hx f)
theorem iT {α β:Type} {F G:α->β->Prop} {y:β}:∀ {xs:List α} {ys:List β} {b:Nat},Paired F xs ys->(∀ x,xs[b]?=some x->G x y)->(∀ (j:Nat) x z,j≠b->xs[j]?=some x->F x z->G x z)->Paired G xs (ys.set b y)
 | _,_,_,.nil,_,_=>.nil
 | _,_,0,.cons a t,h1,h2=>.cons (h1 _ rfl) (gH t fun j x z hx f=>h2 (j+1) x z zo hx f)
 | _,_,b+1,.cons a t,h1,h2=>.cons (h2 0 _ _ zo rfl a) (iT (b:=b) t (fun x hx=>h1 x hx) (fun j x z hj hx f=>h2 (j+1) x z zo hx f))
def eB (ms:List Md) (n:Nat):List (List Nat):=TK.dX (aP ms ms.length) n
def iU (C:Nat->Addr):Sp:=fun vs H Q _=>∃ (a:Addr) (zs:List V) (ms:List Md),vs=[.ref a]/\GM H a zs/\Paired (CN C H) zs ms/\zs.length<=200/\∀ l as H',Cw H H'->H l=none->l∉as->LL H H' l as (eB ms ms.length)->Q (.ref l) H'
inductive JP (H2:Hp) (a l:Addr) (ms:List Md) (i:Nat) (σ:St) (H':Hp):Prop
 | mk (v2 v3:Option V) (as:List Addr):σ=[some (.ref a),some (.ref l),v2,v3]->Dy l H2 H'->LL H2 H' l as (eB ms i)->JP H2 a l ms i σ H'
variable {xs:List Nat}
theorem sx {H2 H5:Hp} {a l:Addr} {as:List Addr} {xss:List (List Nat)} {ms:List Md} {b i:Nat} (b5:Dy l H2 H5) (L5:LL H2 H5 l as xss) (el:H2 l=some (.lst [])) (hx:xss[b]?=some xs) (hs:xss.set b (xs++[i])=eB ms (i+1)) :
  ∃ ad,as[b]?=some ad/\H5 ad=some (.lst (Cy xs))/\∀ v2 v3,JP H2 a l ms (i+1) [some (.ref a),some (.ref l),v2,v3] (aB H5 ad (.lst (Cy xs++[.int (i:Int)]))):=by
 have hb:b < as.length:=by rw [L5.it.length];exact (AN.mp hx).1
 obtain ⟨xs',hx',hl⟩:=aQ L5.it (AL hb);rw [hx] at hx';cases hx';have hn:H2 as[b]=none:=L5.fr _ (Bq hb);have nl:l≠as[b]:=fun z=>by rw [<-z,el] at hn;cases hn
 refine ⟨as[b],AL hb,hl,fun v2 v3=>⟨v2,v3,as,rfl,fun c u e nc=>?_,?_,?_,L5.nd,L5.fr⟩⟩
 ·rw [az (aD e hn)];exact b5 c u e nc
 ·rw [az nl];exact L5.ls
 ·rw [<-hs];refine iT L5.it (fun x h=>?_) (fun j x z hj h f=>?_)
  ·rw [AL hb] at h;cases h;show aB _ _ _ _=_;rw [af,cj]
  ·show aB _ _ _ _=_;rw [az ?_]
   ·exact f
   ·rintro rfl;exact hj ((List.getElem?_inj zo L5.nd).mp ((AL hb).trans h.symm)).symm
theorem ny {n k:Nat} (h:(TK.dX l n)[k]?=some xs):xs.length<=n:=by
 unfold TK.dX at h;rw [A5] at h;obtain ⟨j,_,rfl⟩:=Option.map_eq_some_iff.mp h;have:=List.length_filter_le (fun i=>l.getD i 0 == j) (List.range n)
 rwa [List.length_range] at this
section
variable {P:Program} {w:World} {K:ZF} {mg:Str->Option Value} {base:Heap} {C fi:Nat->Addr}
theorem D5:ar ["steps","beats","at","beat"] ["steps"] (aj kb):=cE zk
theorem qe {f:Addr} {fd:FuncData} (F:C7 K "packed" "packed" kb f fd) (B:Bl mg) (B2:rW mg) (BT:Fn P w K mg base "beats_told" 6 ["steps"] (oJ C)):aT P w K mg base bT 7 f fd ["steps"] (iU C):=by
 have ZZ:=D5
 walk_at "o"
 ·obtain ⟨a,zs,ms,rfl,hS,hP,hz,q⟩:=h;have sz:(1000:Nat)<=sizeLine:=by decide
  have hml:zs.length=ms.length:=hP.length;refine ⟨_,ah (eY (i:=1) D5.nd (au ab))
   (ah (bY PassesOwn.never rfl (D6 rfl B2.enumerate (aa (ap BT hr rfl (aa (pv 0) ab)) ab)) (gj rfl (bu (cZ (i:=2) D5.nd) (bu (cZ (i:=3) D5.nd) dh)))
    (ah (aN (aC bC (pv 3) (ao aw (by rfl) B.len A4 (aa (pv 1) ab))) (ai (cT (fb Bx BE BD cF (pv 1) (aa (au ab) ab)))) aA)
    (ai (cT (fb Bx BE BD cF (aq aG (pv 1) (pv 3)) (aa (pv 2) ab))))))
   (ai (al (pv 1)))),?_⟩
  refine ⟨CM,fun l nl=>?_⟩;generalize zz:aB H l _=H1;have ⟨s0,e0⟩:=nw nl zz;clear zz;refine ⟨_,rfl,a,zs,ms,rfl,hS.same s0,Paired.mapP hP fun _ _ h=>h.same s0,hz,fun lt H2 s2 nlt e2=>?_⟩;have el2:=s2 _ _ e0;have nll:lt≠l:=fun z=>by rw [z,e0] at nlt;cases nlt
  have hnl:(aP ms ms.length).length=ms.length:=TK.bW _ _;refine ⟨lt,rfl,⟨_,Cz.of e2⟩,?_⟩;refine D3 (K:=K) (l:=lt) (xs:=Cy (aP ms ms.length)) (fun i σ H'=>JP H2 a l ms i σ H') ⟨none,none,[],rfl,fun _ _ h _=>h,⟨el2,.nil,.nil,fun _ h=>(nomatch h)⟩⟩ (fun i σ H' _ ⟨_,_,_,_,b',_⟩=>Cz.of (b' _ _ e2 nll)) ?_ ?_
  ·rintro i x σ H3 T1 hx nT ⟨v2,v3,as,rfl,b3,L3⟩;have hi:i < ms.length:=by
    have:=(AN.mp hx).1;rw [am,hnl] at this;exact this
   obtain ⟨b,hb⟩:∃ b,(aP ms ms.length)[i]?=some b:=⟨_,AL zo⟩;have hx':x=.int (b:Int):=by
    rw [ca hb] at hx;exact (Be hx).symm
   subst hx';have hle:=TK.ut (bI ms) hb;have s4:=ae (o:=.tup [.int (i:Int),.int (b:Int)]) nT;refine ⟨T1,_,rfl,CI.of af,rfl,_,_,rfl,_,_,rfl,rfl,?_⟩;generalize aB H3 T1 (.tup [.int (i:Int),.int (b:Int)])=H4 at *;have L4:LL H2 H4 l as (eB ms i):=⟨s4 _ _ L3.ls,Paired.mapP L3.it fun _ _ h=>s4 _ _ h,L3.nd,L3.fr⟩;have b4:Dy l H2 H4:=b3.same s4;have la:as.length=(eB ms i).length:=L4.it.length;have ld:(eB ms i).length=TK.bF ((aP ms ms.length).take i):=TK.fO _ _;have sm:∀ {k:Nat} {xs:List Nat},(eB ms i)[k]?=some xs->xs.length<=i:=fun h=>ny h;refine ⟨_,rfl,_,rfl,l,_,rfl,.inl (Cz.of L4.ls),rfl,_,rfl,bz (fun h=>?_) (fun h=>?_)⟩
   ·have hbe:b=TK.bF ((aP ms ms.length).take i):=by
     have:=V.int.inj (of_decide_eq_true h);rw [AM,la,ld] at this;lia
    refine ⟨_,rfl,.inl ⟨rfl,_,Cz.of L4.ls⟩,CM,fun la' nla=>?_⟩;generalize zz:aB H4 la' _=H5;have ⟨s5,e5⟩:=nw nla zz;clear zz;have nl5:l≠la':=aD L4.ls nla;have n2:H2 la'=none:=by
     cases e:H2 la' with
     | none=>rfl
     | some o=>rw [b4 _ _ e nl5.symm] at nla;cases nla
    refine ⟨l,_,_,rfl,rfl,s5 _ _ L4.ls,(by rw [AM];have:=TK.iP (bI ms) i;have t:=(TK.kr (bI ms) hi).2;unfold aP at ld;rw [t] at ld;lia),?_⟩;have L6:LL H2 (aB H5 l (.lst (as.map V.ref++[.ref la']))) l (as++[la']) (eB ms i++[[]]):=by
     refine ⟨by rw [af,AY];rfl,?_,?_,fun c hc=>?_⟩
     ·refine bj ?_ (gH L4.it fun j x z hx f=>?_)
      ·show aB _ _ _ _=_;rw [az nl5.symm];exact e5
      ·show aB _ _ _ _=_;have:x≠l:=fun z=>by
        have:=L4.fr x (A6 hx);rw [z,el2] at this;cases this
       rw [az this];exact s5 _ _ f
     ·rw [BP];refine ⟨L4.nd,by simp,fun c hc d hd=>?_⟩;rw [AU.mp hd];rintro rfl;obtain ⟨j,hj⟩:=List.mem_iff_getElem?.mp hc;obtain ⟨_,_,z⟩:=aQ L4.it hj;rw [z] at nla;cases nla
     ·rcases BA.mp hc with hc|hc
      ·exact L4.fr c hc
      ·rw [AU.mp hc];exact n2
    have b6:Dy l H2 (aB H5 l (.lst (as.map V.ref++[.ref la']))):=fun c u e nc=>by rw [az nc];exact (b4.same s5) c u e nc
    have hx6:(eB ms i++[[]])[b]?=some []:=by rw [B6 zo,hbe,ld,Nat.sub_self];rfl
    have hs6:(eB ms i++[[]]).set b ([]++[i])=eB ms (i+1):=by
     show _=TK.dX _ _;rw [TK.sn hb hbe,List.set_append_right _ _ zo,hbe,ld,Nat.sub_self];rfl
    obtain ⟨ad,h1,h2,h3⟩:=sx (a:=a) b6 L6 el2 hx6 hs6;generalize aB H5 l (.lst (as.map V.ref++[.ref la']))=H6 at *;refine ⟨_,rfl,_,rfl,l,_,_,.ref ad,rfl,rfl,Cz.of L6.ls,a8 (by rw [A5,h1];rfl),.inl ⟨rfl,_,Cz.of h2⟩,_,rfl,ad,_,_,rfl,rfl,h2,(by show 0+1<=sizeLine;decide),h3 _ _⟩
   ·have hbe:b < TK.bF ((aP ms ms.length).take i):=by
     have Cq:b≠(as.map V.ref).length:=fun z=>h (decide_eq_true (by rw [z]));rw [AM,la,ld] at Cq;have:b<=TK.bF ((aP ms ms.length).take i):=hle;lia
    obtain ⟨xs,hx6,hs6⟩:=TK.sq hb hbe;obtain ⟨ad,h1,h2,h3⟩:=sx (a:=a) b4 L4 el2 hx6 hs6.symm;have:=sm hx6;refine ⟨_,rfl,_,rfl,l,_,_,.ref ad,rfl,rfl,Cz.of L4.ls,a8 (by rw [A5,h1];rfl),.inl ⟨rfl,_,Cz.of h2⟩,_,rfl,ad,_,_,rfl,rfl,h2,(by rw [am];lia),h3 _ _⟩
  ·rintro σ H3 ⟨v2,v3,as,rfl,b3,L3⟩;rw [am,hnl] at L3;have s01:=s0.trans s2;refine ⟨_,rfl,q l as H3 (fun c u e=>b3 c u (s01 c u e) (aD e nl)) nl (fun z=>by have:=L3.fr l z;rw [el2] at this;cases this) ⟨L3.ls,L3.it,L3.nd,fun c hc=>?_⟩⟩;cases e:H c with
   | none=>rfl
   | some u=>
    have:=s01 _ _ e;rw [L3.fr c hc] at this;cases this
end
variable {v:V}
theorem Dq.pt (h:Dq H v):∃ x,Pt H v x/\iG x:=let ⟨p,x,n,a,b,c⟩:=h;⟨(x,n),⟨p,a,b⟩,c⟩
theorem CS.pt {o:Option Nat} (h:CS H v o):∃ x,Pt H v x/\eu x:=by
 obtain ⟨p,x,n,a,b,c⟩:=h;refine ⟨(x,n),⟨p,a,b⟩,?_⟩;rcases c with ⟨e,h0,h1,_⟩|⟨e,h0,h1,_⟩|⟨e,h0,h1,_⟩
 ·exact .inl ⟨e,h0,h1⟩
 ·exact .inr (.inl ⟨e,h0,h1⟩)
 ·exact .inr (.inr ⟨e,h0,h1⟩)
theorem DV.toD {m:Md} (h:DV H v m):∃ d,Db H v d:=by
 cases h with
 | get a b c=>obtain ⟨x,h1,h2⟩:=c.pt;exact ⟨_,.get a b h1 h2⟩
 | ask a b c=>obtain ⟨x,h1,h2⟩:=c.pt;exact ⟨_,.ask a b h1 h2⟩
 | cell a b c=>obtain ⟨x,h1,h2⟩:=c.pt;exact ⟨_,.cell a b h1 h2⟩
 | two a b f c e=>obtain ⟨x,h1,h2⟩:=c.pt;obtain ⟨y,h3,h4⟩:=e.pt;exact ⟨_,.two a b f h1 h2 h3 h4⟩
 | put a c e=>obtain ⟨x,h1,h2⟩:=c.pt;obtain ⟨y,h3,h4⟩:=e.pt;exact ⟨_,.put a h1 h2 h3 h4⟩
 | tell a c e=>obtain ⟨x,h1,h2⟩:=c.pt;obtain ⟨y,h3,h4⟩:=e.pt;exact ⟨_,.tell a h1 h2 h3 h4⟩
 | store a c e=>obtain ⟨x,h1,h2⟩:=c.pt;obtain ⟨y,h3,h4⟩:=e.pt;exact ⟨_,.store a h1 h2 h3 h4⟩
def sy (x:cx):PyData:=.tuple [.str x.1,.int x.2]
def zZ:Sd->PyData
 | .get n x=>.tuple [.str "get",.int n,sy x]
 | .ask n x=>.tuple [.str "ask",.int n,sy x]
 | .cell n x=>.tuple [.str "cell",.int n,sy x]
 | .two n f x y=>.tuple [.str "two",.int n,.str f,sy x,sy y]
 | .put x y=>.tuple [.str "put",sy x,sy y]
 | .tell x y=>.tuple [.str "tell",sy x,sy y]
 | .store x y=>.tuple [.str "store",sy x,sy y]
theorem wP:∀ z∈(["get","ask","cell","two","put","tell","store"]:List Str),Gy z=true:=by decide +kernel
variable {d:Sd}
theorem Db.dd (h:Db H v d):Td H v (zZ d):=by
 cases h with
 | get a b c e=>exact .tup a (.cons (.str _ (wP _ zk)) (.cons (.int _) (.cons (c.td (kn e)) .nil)))
 | ask a b c e=>exact .tup a (.cons (.str _ (wP _ zk)) (.cons (.int _) (.cons (c.td (kn e)) .nil)))
 | cell a b c e=>exact .tup a (.cons (.str _ (wP _ zk)) (.cons (.int _) (.cons (c.td (fh e)) .nil)))
 | two a b f c e g i=>exact .tup a (.cons (.str _ (wP _ zk)) (.cons (.int _) (.cons (.str _ (wL _ f)) (.cons (c.td (fh e)) (.cons (g.td (fh i)) .nil)))))
 | put a c e g i=>exact .tup a (.cons (.str _ (wP _ zk)) (.cons (c.td (kn e)) (.cons (g.td (fh i)) .nil)))
 | tell a c e g i=>exact .tup a (.cons (.str _ (wP _ zk)) (.cons (c.td (kn e)) (.cons (g.td (fh i)) .nil)))
 | store a c e g i=>exact .tup a (.cons (.str _ (wP _ zk)) (.cons (c.td (fh e)) (.cons (g.td (fh i)) .nil)))
def nz (x:cx):Kn:=.inr [.inr x.1,.inl x.2]
def sB:Sd->List Kn
 | .get n x=>[.inl (.inr "get"),.inl (.inl n),nz x]
 | .ask n x=>[.inl (.inr "ask"),.inl (.inl n),nz x]
 | .cell n x=>[.inl (.inr "cell"),.inl (.inl n),nz x]
 | .two n f x y=>[.inl (.inr "two"),.inl (.inl n),.inl (.inr f),nz x,nz y]
 | .put x y=>[.inl (.inr "put"),nz x,nz y]
 | .tell x y=>[.inl (.inr "tell"),nz x,nz y]
 | .store x y=>[.inl (.inr "store"),nz x,nz y]
variable {x y:cx}
theorem cI (h:nz x=nz y):x=y:=by
 unfold nz at h;injection h with h;injection h with h1 h2;injection h2 with h2;injection h1 with h1;injection h2 with h2;exact Prod.ext h1 h2
def vj (s:Str):Nat:=if s="get" then 0 else if s="ask" then 1 else if s="cell" then 2 else if s="two" then 3 else if s="put" then 4 else if s="tell" then 5 else 6
def AC:List Kn->Nat
 | .inl (.inr s)::_=>vj s
 | _=>7
theorem sC (d:Sd):AC (sB d)=kd d:=by
 have h0:vj "get"=0:=by decide +kernel
 have h1:vj "ask"=1:=by decide +kernel
 have h2:vj "cell"=2:=by decide +kernel
 have h3:vj "two"=3:=by decide +kernel
 have h4:vj "put"=4:=by decide +kernel
 have h5:vj "tell"=5:=by decide +kernel
 have h6:vj "store"=6:=by decide +kernel
 cases d<;>assumption
theorem wQ {d e:Sd} (h:sB d=sB e):d=e:=by
 have hk:kd d=kd e:=by rw [<-sC,<-sC,h]
 cases d<;>cases e<;>first|(exfalso;simp [kd] at hk;done)|skip
 all_goals
  simp only [sB,List.cons.injEq,Sum.inl.injEq,Sum.inr.injEq,and_true,true_and] at h
 ·rw [Int.ofNat.inj h.1,cI h.2]
 ·rw [Int.ofNat.inj h.1,cI h.2]
 ·rw [Int.ofNat.inj h.1,cI h.2]
 ·rw [Int.ofNat.inj h.1,h.2.1,cI h.2.2.1,cI h.2.2.2]
 ·rw [cI h.1,cI h.2]
 ·rw [cI h.1,cI h.2]
 ·rw [cI h.1,cI h.2]
theorem Pt.nest {ks:List Kn} {vs:List V} (h:Pt H v x) (t:fK H ks vs):fK H (nz x::ks) (v::vs):=by
 obtain ⟨p,rfl,hp⟩:=h;exact .tup hp t
theorem Db.nest {p:Addr} (h:Db H (.ref p) d):jI H (sB d) p:=by
 cases h with
 | get a b c e=>exact ⟨_,a,.key (k:=.inr "get") (.key (k:=.inl _) (c.nest .nil))⟩
 | ask a b c e=>exact ⟨_,a,.key (k:=.inr "ask") (.key (k:=.inl _) (c.nest .nil))⟩
 | cell a b c e=>exact ⟨_,a,.key (k:=.inr "cell") (.key (k:=.inl _) (c.nest .nil))⟩
 | two a b f c e g i=>exact ⟨_,a,.key (k:=.inr "two") (.key (k:=.inl _) (.key (k:=.inr _) (c.nest (g.nest .nil))))⟩
 | put a c e g i=>exact ⟨_,a,.key (k:=.inr "put") (c.nest (g.nest .nil))⟩
 | tell a c e g i=>exact ⟨_,a,.key (k:=.inr "tell") (c.nest (g.nest .nil))⟩
 | store a c e g i=>exact ⟨_,a,.key (k:=.inr "store") (c.nest (g.nest .nil))⟩
theorem oM:∀ {us:List V} {ds:List Sd},Paired (Db H) us ds->C9 H us (ds.map zZ)
 | _,_,.nil=>.nil
 | _,_,.cons a t=>.cons a.dd (oM t)
def lN:Sp:=fun vs H Q _=>∃ (p:Addr) (n:Nat),vs=[.ref p,.int (n:Int)]/\n<=100/\CW H p/\∀ (l:Addr) (us:List V) (ds:List Sd) (H':Hp),H l=none->H' l=some (.lst us)->Paired (Db H') us ds->us.length<=n->CW H' p->Dy p H H'->p≠l->Q (.ref l) H'
theorem lO {l e:Addr} {us:List V} {ds:List PyData} (hl:H l=some (.lst us)) (he:H e=some (.lst [])) (t:C9 H us ds) (q:Q (.bl (!us.isEmpty)) H):Fq K (.ref l) (.ref e) H Q:=by
 refine ⟨_,_,.lst (Cz.of hl) t.dt,.lst (Cz.of he) .nil,t.lay,rfl,A8 (Nat.min_le_right _ _) zd,?_⟩;have:PyData.eqv (.list ds) (.list [])=us.isEmpty:=by
  have:=t.length;cases us<;>cases ds<;>first|rfl|(simp at this)
 rw [this];exact q
inductive JS (H:Hp) (p l:Addr) (n m k:Nat) (i:Nat) (σ:St) (H':Hp):Prop
 | mk (v5:Option V) (us:List V) (ds:List Sd):σ=[some (.ref p),some (.int (n:Int)),some (.int (m:Int)),some (.int (k:Int)),some (.ref l),v5]->CW H' p->Dy p H H'->H' l=some (.lst us)->Paired (Db H') us ds->us.length=i->JS H p l n m k i σ H'
section
variable {P:Program} {w:World} {K:ZF} {mg:Str->Option Value} {base:Heap} {C fi:Nat->Addr}
theorem DG:ar ["_law_stream_here","_law_most","_law_many","_law_ways","_law_found","_law_k"] ["_law_stream_here","_law_most"] (aj ke):=cE zk
variable {r:Nat}
theorem uy (h:r < 6):∃ m:Nat,mv [V.int 1,.int 2,.int 3,.int 5,.int 8,.int 8] (r:Int)=some (.int m)/\0 < m/\m<=8:=by
 rcases (by lia:r=0\/r=1\/r=2\/r=3\/r=4\/r=5) with rfl|rfl|rfl|rfl|rfl|rfl
 ·exact ⟨1,rfl,zd,zd⟩
 ·exact ⟨2,rfl,zd,zd⟩
 ·exact ⟨3,rfl,zd,zd⟩
 ·exact ⟨5,rfl,zd,zd⟩
 ·exact ⟨8,rfl,zd,zd⟩
 ·exact ⟨8,rfl,zd,zd⟩
theorem uz (h:r < 6):∃ k:Nat,mv [V.int 12,.int 12,.int 24,.int 7,.int 6,.int 100] (r:Int)=some (.int k)/\0 < k/\k<=1000:=by
 rcases (by lia:r=0\/r=1\/r=2\/r=3\/r=4\/r=5) with rfl|rfl|rfl|rfl|rfl|rfl
 ·exact ⟨12,rfl,zd,zd⟩
 ·exact ⟨12,rfl,zd,zd⟩
 ·exact ⟨24,rfl,zd,zd⟩
 ·exact ⟨7,rfl,zd,zd⟩
 ·exact ⟨6,rfl,zd,zd⟩
 ·exact ⟨100,rfl,zd,zd⟩
theorem qf {f:Addr} {fd:FuncData} (F:C7 K "_law_steps" "_law_steps" ke f fd) (B:Bl mg) (TK:Fn P w K mg base "_law_take" 1 ["_law_stream_here","_law_many"] dq) (SP:Fn P w K mg base "_law_step" 3 ["_law_stream_here","_law_many","_law_ways"] km) :
  aT P w K mg base bT 4 f fd ["_law_stream_here","_law_most"] lN:=by
 have ZZ:=DG
 walk_at "o"
 ·obtain ⟨p,n,rfl,hn,hp,q⟩:=h;have sz:(1000:Nat)<=sizeLine:=by decide
  refine ⟨_,ah (eY (i:=2) DG.nd (aq aG (au (aa ag (aa ag (aa ag (aa ag (aa ag (aa ag ab))))))) (ap TK hr.m rfl (aa (pv 0) (aa ag ab)))))
   (ah (eY (i:=3) DG.nd (aq aG (au (aa ag (aa ag (aa ag (aa ag (aa ag (aa ag ab))))))) (ap TK hr.m rfl (aa (pv 0) (aa ag ab)))))
   (ah (eY (i:=4) DG.nd (au ab))
   (ah (bY PassesOwn.never rfl (bB rfl B.range (aa (ap TK hr.m rfl (aa (pv 0) (aa (aK bZ (pv 1) ag) ab))) ab)) (cZ (i:=5) DG.nd)
    (ai (aN (PW.pt (il (aC (DT hr) (pv 4) (au ab)) (fF (aC bC (ap TK hr.m rfl (aa (pv 0) (aa ag ab))) ag))))
     (ai (cT (fb Bx BE BD cF (pv 4) (aa (aq aG (pv 4) (ap TK hr.m rfl (aa (pv 0) (aa (ao aw (by rfl) B.len A4 (aa (pv 4) ab)) ab)))) ab))))
     (ai (cT (fb Bx BE BD cF (pv 4) (aa (ap SP hr rfl (aa (pv 0) (aa (pv 2) (aa (pv 3) ab)))) ab)))))))
   (ai (al (pv 4)))))),?_⟩
  refine ⟨CM,fun l1 n1=>?_⟩;have s1:=ae (o:=.lst [.int 1,.int 2,.int 3,.int 5,.int 8,.int 8]) n1;have e1:(aB H l1 (.lst [.int 1,.int 2,.int 3,.int 5,.int 8,.int 8])) l1=some (.lst [.int 1,.int 2,.int 3,.int 5,.int 8,.int 8]):=af;generalize aB H l1 (.lst [V.int 1,.int 2,.int 3,.int 5,.int 8,.int 8])=H1 at *;refine ⟨_,rfl,p,6,rfl,hp.same s1,zd,zd,fun r2 H2 t2 g2 b2=>?_⟩;obtain ⟨m,em,m0,m8⟩:=uy t2;refine ⟨l1,_,_,_,rfl,rfl,Cz.of (b2 _ _ e1 (hp.ne n1).symm),em,?_⟩;refine ⟨CM,fun l3 n3=>?_⟩;have s3:=ae (o:=.lst [.int 12,.int 12,.int 24,.int 7,.int 6,.int 100]) n3;have e3:(aB H2 l3 (.lst [.int 12,.int 12,.int 24,.int 7,.int 6,.int 100])) l3=some (.lst [.int 12,.int 12,.int 24,.int 7,.int 6,.int 100]):=af;generalize aB H2 l3 (.lst [V.int 12,.int 12,.int 24,.int 7,.int 6,.int 100])=H3 at *;refine ⟨_,rfl,p,6,rfl,g2.same s3,zd,zd,fun r4 H4 t4 g4 b4=>?_⟩;obtain ⟨k,ek,k0,k1⟩:=uz t4;refine ⟨l3,_,_,_,rfl,rfl,Cz.of (b4 _ _ e3 (g2.ne n3).symm),ek,?_⟩;have B4:Dy p H H4:=((((rG s1).trans b2).same s3).trans b4);refine ⟨CM,fun l nl=>?_⟩;have pl:p≠l:=g4.ne nl;have nlH:H l=none:=by
   cases e:H l with
   | none=>rfl
   | some o=>rw [B4 _ _ e pl.symm] at nl;cases nl
  generalize zz:aB H4 l _=H5;have ⟨s5,e5⟩:=nw nl zz;clear zz;refine ⟨_,rfl,_,rfl,_,_,rfl,rfl,p,n+1,rfl,g4.same s5,zo,zo,fun r6 H6 t6 g6 b6=>⟨(r6:Int),rfl,zo,zo,?_⟩⟩;refine c7 (lo:=0) (fun i σ H'=>JS H p l n m k i σ H') ⟨none,[],[],rfl,g6,(B4.same s5).trans b6,b6 _ _ e5 pl.symm,.nil,rfl⟩ ?_ ?_
  ·rintro i σ H7 hi ⟨v5,us,ds,rfl,g7,b7,e7,p7,hl7⟩;have hi':i < r6:=by simpa using hi
   have put:∀ (H8:Hp) (v:V) (d:Sd) (v5:Option V),CW H8 p->Dy p H H8->H8 l=some (.lst us)->Paired (Db H8) us ds->Db H8 v d->JS H p l n m k (i+1) [some (.ref p),some (.int (n:Int)),some (.int (m:Int)),some (.int (k:Int)),some (.ref l),v5] (aB H8 l (.lst (us++[v]))):=by
    intro H8 v d v5 g8 b8 e8 p8 hv;have kt:DC H8 (aB H8 l (.lst (us++[v]))):=fun c xs e=>by
     rw [az (fun z=>by rw [z,e8] at e;cases e)];exact e
    refine ⟨v5,us++[v],ds++[d],rfl,?_,fun c u e nc=>?_,af,bj (hv.kt kt) (Paired.mapP p8 fun _ _ h=>h.kt kt),by rw [AT,hl7];rfl⟩
    ·obtain ⟨x,y,z,e⟩:=g8;exact ⟨x,y,z,by rw [az pl];exact e⟩
    ·rw [az (fun z=>by rw [z,nlH] at e;cases e)];exact b8 c u e nc
   have td7:=oM p7;refine ⟨_,rfl,CM,fun le ne=>?_⟩;have s8:=ae (o:=.lst []) ne;have e8':(aB H7 le (.lst [])) le=some (.lst []):=af;have nle:l≠le:=aD e7 ne;generalize aB H7 le (.lst [])=H8 at *;have g8:=g7.same s8;have b8:=b7.same s8;have e8:=s8 _ _ e7;have p8:Paired (Db H8) us ds:=Paired.mapP p7 fun _ _ h=>h.kt (CC s8);refine lO e8 e8' (td7.kt (CC s8)) ?_;refine ⟨_,rfl,bz (fun Cq=>?_) (fun Cq=>?_)⟩
   ·have hpos:0 < us.length:=by
     cases us with
     | nil=>cases Cq
     | cons _ _=>exact Nat.succ_pos _
    refine ⟨_,rfl,p,6,rfl,g8,zd,zd,fun r9 H9 t9 g9 b9=>⟨rfl,_,rfl,bz (fun h0=>?_) (fun h0=>?_)⟩⟩
    ·have e9:=b9 _ _ e8 pl.symm;have p9:Paired (Db H9) us ds:=Paired.mapP p8 fun _ _ h=>h.kt (g8.kt b9);refine ⟨_,rfl,.inl ⟨rfl,_,Cz.of e9⟩,_,rfl,_,rfl,_,rfl,l,_,rfl,.inl (Cz.of e9),p,us.length,rfl,g9,hpos,zo,fun r10 H10 t10 g10 b10=>?_⟩;have e10:=b10 _ _ e9 pl.symm;have p10:Paired (Db H10) us ds:=Paired.mapP p9 fun _ _ h=>h.kt (g9.kt b10);obtain ⟨d,hd,td⟩:=aQ p10 (AL t10);exact ⟨l,_,_,_,rfl,rfl,Cz.of e10,a8 (AL t10),l,us,_,rfl,rfl,e10,zo,put H10 _ d _ g10 ((b8.trans b9).trans b10) e10 p10 td⟩
    ·have e9:=b9 _ _ e8 pl.symm;refine ⟨_,rfl,.inl ⟨rfl,_,Cz.of e9⟩,_,rfl,_,rfl,_,rfl,p,m,k,rfl,g9,m0,m8,k0,k1,fun v md H10 hv g10 b10=>?_⟩;obtain ⟨d,hd⟩:=hv.toD;have e10:=b10 _ _ e9 pl.symm;exact ⟨l,us,v,rfl,rfl,e10,zo,put H10 v d _ g10 ((b8.trans b9).trans b10) e10 (Paired.mapP p8 fun _ _ h=>h.kt ((g8.kt b9).trans (g9.kt b10))) hd⟩
   ·refine ⟨_,rfl,.inl ⟨rfl,_,Cz.of e8⟩,_,rfl,_,rfl,_,rfl,p,m,k,rfl,g8,m0,m8,k0,k1,fun v md H10 hv g10 b10=>?_⟩;obtain ⟨d,hd⟩:=hv.toD;have e10:=b10 _ _ e8 pl.symm;exact ⟨l,us,v,rfl,rfl,e10,zo,put H10 v d _ g10 (b8.trans b10) e10 (Paired.mapP p8 fun _ _ h=>h.kt (g8.kt b10)) hd⟩
  ·rintro σ H7 ⟨v5,us,ds,rfl,g7,b7,e7,p7,hl7⟩;have:us.length=r6:=by simpa using hl7
   exact ⟨_,rfl,q l us ds H7 nlH e7 p7 zo g7 b7 pl⟩
end
variable {u:V} {C:Nat->Addr}
theorem Ep.kp (s:∀ b c dx fs,H b=some (.ins c dx fs)->H' b=some (.ins c dx fs)) (k:DC H H') (h:Ep C H v u d):Ep C H' v u d:=by
 cases h with
 | get o a b c e=>exact .get (s _ _ _ _ o) (k _ _ a) b (c.kt k) e
 | ask o a b c e=>exact .ask (s _ _ _ _ o) (k _ _ a) b (c.kt k) e
 | cell o a b c e=>exact .cell (s _ _ _ _ o) (k _ _ a) b (c.kt k) e
 | two o a b f c e g i=>exact .two (s _ _ _ _ o) (k _ _ a) b f (c.kt k) e (g.kt k) i
 | put o a c e g i=>exact .put (s _ _ _ _ o) (k _ _ a) (c.kt k) e (g.kt k) i
 | tell o a c e g i=>exact .tell (s _ _ _ _ o) (k _ _ a) (c.kt k) e (g.kt k) i
 | store o a c e g i=>exact .store (s _ _ _ _ o) (k _ _ a) (c.kt k) e (g.kt k) i
def GV (C:Nat->Addr) (H:Hp) (v:V) (d:Sd):Prop:=∃ u,Ep C H v u d
theorem GV.same (h:GV C H v d) (s:Cw H H'):GV C H' v d:=let ⟨u,o⟩:=h;⟨u,o.same s⟩
def sD (C:Nat->Addr):Sp:=fun vs H Q _=>∃ (p lt:Addr) (us:List V) (ds:List Sd),vs=[.ref p,.ref lt]/\CW H p/\H lt=some (.lst us)/\p≠lt/\Paired (Db H) us ds/\us.length<=100/\∀ (l:Addr) (zs:List V) (H':Hp),H l=none->H' l=some (.lst zs)->Paired (GV C H') zs ds->CW H' p->Dy p H H'->p≠l->Q (.ref l) H'
structure JO (P:Program) (w:World) (C:Nat->Addr) (H2:Hp) (a:Addr) (ds:List Sd) (i:Nat) (ys:List V) (H':Hp) (xs:Dx):Prop where
 bt:Dy a H2 H'
 dc:FZ P w H' a xs
 ob:∀ x∈xs,∃ d,x.1=sB d/\Ep C H' (.ref x.2.2) (.ref x.2.1) d
 pr:Paired (GV C H') ys (ds.take i)
 ln:ys.length=i
 xl:xs.length<=i
theorem Ep.ref (h:Ep C H v u d):∃ a p,v=.ref a/\u=.ref p:=by cases h<;>exact ⟨_,_,rfl,rfl⟩
theorem Db.ref (h:Db H u d):∃ p,u=.ref p:=by cases h<;>exact ⟨_,rfl⟩
section
variable {P:Program} {w:World} {K:ZF} {mg:Str->Option Value} {base:Heap} {C fi:Nat->Addr}
theorem Gp:ar ["_law_stream_here","_law_told","_law_made"] ["_law_stream_here","_law_told"] (aj dA):=cE zk
theorem yn:(["_law_one"]:List Str).Nodup:=by decide +kernel
theorem wR:(["_law_one","_law_made"]:List Str).Nodup:=by decide +kernel
theorem uA {f:Addr} {fd:FuncData} (F:C7 K "_law_objects" "_law_objects" dA f fd) (TK:Fn P w K mg base "_law_take" 1 ["_law_stream_here","_law_many"] dq) (SO:Fn P w K mg base "step_of" 6 ["told"] (iH C)):aT P w K mg base bT 7 f fd ["_law_stream_here","_law_told"] (sD C):=by
 have ZZ:=Gp
 walk_at "o"
 ·obtain ⟨p,lt,us,ds,rfl,hp,Cu,plt,hP,h100,q⟩:=h;have sz:(1000:Nat)<=sizeLine:=by decide
  refine ⟨_,ah (dH (i:=2) Gp.nd rfl (Or.inr rfl) D1)
   (ah (aN (aC bC (ap TK hr.m rfl (aa (pv 0) (aa ag ab))) ag)
     (ai (al (cf (N':=["_law_one"]) (ix:=[none]) (sc0:=aj dA) (N:=["_law_stream_here","_law_told","_law_made"]) rfl zk (bn (pv 1))
      (fun C' cl s H fp=>cZ (i:=0) yn) (fun _ _ _ _ _=>cA) (fun C' cl s H fp=>ap SO hr.m rfl (aa (pv 0) ab))))) aA)
   (ai (al (cf (N':=["_law_one","_law_made"]) (ix:=[none,some 2]) (sc0:=aj dA) (N:=["_law_stream_here","_law_told","_law_made"]) rfl zk (bn (pv 1))
      (fun C' cl s H fp=>cZ (i:=0) wR) (fun _ _ _ _ _=>cA) (fun C' cl s H fp=>nh (P:=P) (w:=w) (k:=6) rfl rfl hr.m (pv 1) (aa (pv 0) (aa (ap SO hr.m rfl (aa (pv 0) ab)) ab))))))),?_⟩
  refine fun a na=>?_;have s1:=ae (o:=.dK []) na;have e1:(aB H a (.dK [])) a=some (.dK []):=af;have pa':p≠a:=hp.ne na;generalize aB H a (.dK [])=H1 at *;refine ⟨_,rfl,p,2,rfl,hp.same s1,zd,zd,fun r2 H2 t2 g2 b2=>⟨rfl,_,rfl,?_⟩⟩;have B2:Dy p H H2:=(rG s1).trans b2;have elt:H2 lt=some (.lst us):=B2 _ _ Cu plt.symm;have P2:Paired (Db H2) us ds:=Paired.mapP hP fun _ _ h=>h.kt ((CC s1).trans ((hp.same s1).kt b2));have ea:H2 a=some (.dK []):=b2 _ _ e1 pa'.symm;have nla:lt≠a:=fun z=>by rw [z,na] at Cu;cases Cu
  refine bz (fun h=>?_) (fun h=>?_)
  ·refine ⟨_,rfl,lt,rfl,⟨_,Cz.of elt⟩,?_⟩;refine bU (K:=K) (a:=lt) (xs:=us) (fun i ys H'=>Cw H2 H'/\Paired (GV C H') ys (ds.take i)/\ys.length=i) ⟨Cw.refl _,.nil,rfl⟩ (fun i ys H' hi ⟨a1,a2,a3⟩=>⟨Cz.of (a1 _ _ elt),zo⟩) ?_ ?_
   ·rintro j x ys H4 hx ⟨a1,a2,a3⟩;have hlt':j < us.length:=(AN.mp hx).1;obtain ⟨d,hd,td⟩:=aQ P2 hx;refine ⟨trivial,cB ?_⟩;refine ⟨_,rfl,x,d,rfl,td.kt (CC a1),fun z H5 s5 hz=>?_⟩;refine Nx.mk hlt' ⟨a1.trans s5,?_,by rw [AT,a3];rfl⟩;rw [By,hd];exact bj ⟨_,hz⟩ (Paired.mapP a2 fun _ _ h=>h.same s5)
   ·rintro zs H4 ⟨a1,a2,a3⟩ ls nls;have ml:ds.take us.length=ds:=by rw [P2.length];exact Bf
    rw [ml] at a2;have s5:=ae (o:=.lst zs) nls;have pls:p≠ls:=(g2.same a1).ne nls;refine q ls zs _ ?_ af (Paired.mapP a2 fun _ _ h=>h.same s5) ((g2.same a1).same s5) ((B2.same a1).same s5) pls;cases e:H ls with
    | none=>rfl
    | some o=>rw [a1 _ _ (B2 _ _ e pls.symm)] at nls;cases nls
  ·refine ⟨_,rfl,lt,rfl,⟨_,Cz.of elt⟩,?_⟩;refine bU (K:=K) (a:=lt) (xs:=us) (fun i ys H'=>∃ xs,JO P w C H2 a ds i ys H' xs) ⟨[],fun _ _ h _=>h,.inl ⟨rfl,ea⟩,fun _ h=>(nomatch h),.nil,rfl,AR _⟩ (fun i ys H' hi ⟨xs,J⟩=>⟨Cz.of (J.bt _ _ elt nla),by have:=J.ln;lia⟩) ?_ ?_
   ·rintro j x ys H4 hx ⟨xs,J⟩;have hlt':j < us.length:=(AN.mp hx).1;obtain ⟨d,hd,td⟩:=aQ P2 hx;have nt:∀ {H5:Hp} {b:Addr} {zz:List V} ,H5 a=H4 a->H5 b=some (.tup zz)->b≠a:=fun e5 e z=>by
     rw [z,e5] at e;rcases J.dc with ⟨_,y⟩|y<;>rw [y] at e<;>cases e
    have kt24:DC H2 H4:=fun b zz e=>J.bt b _ e fun z=>by rw [z,ea] at e;cases e
    have td4:=td.kt kt24;refine ⟨⟨rfl,trivial⟩,cB ?_⟩;obtain ⟨b,rfl⟩:=td.ref;refine ⟨_,rfl,a,xs,rfl,J.dc,_,rfl,_,rfl,.ref b,d,rfl,td4,fun z H5 s5 hz=>?_⟩;obtain ⟨oz1,_,rfl,eb⟩:=hz.ref;have dc5:FZ P w H5 a xs:=J.dc.imp (fun ⟨e0,y⟩=>⟨e0,s5 _ _ y⟩) (fun y=>s5 _ _ y);have ob5:∀ x∈xs,∃ d,x.1=sB d/\Ep C H5 (.ref x.2.2) (.ref x.2.1) d:=fun x hx=>let ⟨d,e,o⟩:=J.ob x hx;⟨d,e,o.same s5⟩;have pr5:Paired (GV C H5) ys (ds.take j):=Paired.mapP J.pr fun _ _ h=>h.same s5;have bt5:Dy a H2 H5:=J.bt.same s5;have ln:=J.ln;have xl:=J.xl;refine ⟨xs,b,sB d,oz1,rfl,dc5,zo,(td4.kt (CC s5)).nest,fun x hx=>?_,fun b' v' hm=>?_,fun hno=>?_⟩
    ·obtain ⟨d',e,o⟩:=ob5 x hx;rw [e];exact o.tolD.nest
    ·obtain ⟨d',e,o⟩:=ob5 _ hm;have ed:d=d':=wQ e;subst ed;refine Nx.mk hlt' ⟨xs,bt5,dc5,ob5,?_,by rw [AT,ln];rfl,zo⟩;rw [By,hd];exact bj ⟨_,o⟩ pr5
    ·have ki:∀ c C' dx fs,H5 c=some (.ins C' dx fs)->aB H5 a (wJ P w a (xs++[(sB d,b,oz1)])) c=some (.ins C' dx fs):=fun c C' dx fs e=>by
      rw [az (fun z=>by rw [z] at e;rcases dc5 with ⟨_,y⟩|y<;>rw [y] at e<;>cases e)];exact e
     have kk:DC H5 (aB H5 a (wJ P w a (xs++[(sB d,b,oz1)]))):=fun c zz e=>by
      rw [az (dc5.ne e)];exact e
     refine Nx.mk hlt' ⟨xs++[(sB d,b,oz1)],fun c u e nc=>by rw [az nc];exact bt5 c u e nc,.inr af,fun x hx=>?_,?_,by rw [AT,ln];rfl,by rw [AT];show xs.length+1<=j+1;lia⟩
     ·rcases BA.mp hx with hx|hx
      ·obtain ⟨d',e,o⟩:=ob5 x hx;exact ⟨d',e,o.kp ki kk⟩
      ·rw [AU.mp hx];exact ⟨d,rfl,hz.kp ki kk⟩
     ·rw [By,hd];exact bj ⟨_,hz.kp ki kk⟩ (Paired.mapP pr5 fun _ _ ⟨u,o⟩=>⟨u,o.kp ki kk⟩)
   ·rintro zs H4 ⟨xs,J⟩ ls nls;have a2:=J.pr;have ml:ds.take us.length=ds:=by rw [P2.length];exact Bf
    rw [ml] at a2;have s5:=ae (o:=.lst zs) nls;have g4:CW H4 p:=let ⟨x,y,z,e⟩:=g2;⟨x,y,z,J.bt _ _ e pa'⟩;have pls:p≠ls:=g4.ne nls;have B4:Dy p H H4:=fun c u e nc=>J.bt c u (B2 c u e nc) (aD e na);refine q ls zs _ ?_ af (Paired.mapP a2 fun _ _ h=>h.same s5) (g4.same s5) (B4.same s5) pls;cases e:H ls with
    | none=>rfl
    | some o=>rw [B4 _ _ e pls.symm] at nls;cases nls
end
end L3
namespace L2
open PySem PySem.Spec PyProof.Rows
theorem jq (t:SetTable) (n:Nat):(t.orStandIn n).led=t.led:=by
 unfold SetTable.orStandIn;split<;>rfl
theorem nA (t:SetTable) (es:Array (Int×Value)) (h:Int) (x:Value):(layNew t es h x).2.1.led=t.led:=by
 unfold layNew;split
 ·exact (jq _ _).trans rfl
 ·rfl
variable {n:Nat} {t t':SetTable}
theorem qg {hs:Array Int} {order:Array Nat} (he:t.relaid hs n=some (t',order)):t'.led=t.led/\t'.dummies=#[]/\t'.place.toList.Pairwise (· < ·):=by
 unfold SetTable.relaid SetTable.laid at he;cases hc:SetTable.layClean (SetTable.sizeAbove n - 1) hs with
 | none=>rw [hc] at he;cases he
 | some o=>
  rw [hc] at he;have:=Be he;have e:=(Prod.ext_iff.mp this).1;dsimp only at e;rw [<-e];refine ⟨rfl,rfl,?_⟩;dsimp only;rw [List.pairwise_map];refine List.Pairwise.filterMap (R:=fun a b=>a < b) _ (fun a b hab x hx y hy=>?_) List.pairwise_lt_range;cases h1:o.getD a none with
  | none=>rw [h1] at hx;cases hx
  | some u=>
   cases h2:o.getD b none with
   | none=>rw [h2] at hy;cases hy
   | some v=>
    rw [h1] at hx;rw [h2] at hy;have hx':(a,u)=x:=by simpa using hx
    have hy':(b,v)=y:=by simpa using hy
    rw [<-hx',<-hy'];exact hab
def sE (t:SetTable):Prop:=t.place.toList.Pairwise (· < ·)/\t.dummies=#[]
theorem dj (t:SetTable) (n:Nat):sE (t.standIn n):=⟨by
 show (Array.range n).toList.Pairwise (· < ·);rw [Array.toList_range];exact List.pairwise_lt_range,rfl⟩
theorem qh (t:SetTable) (es:Array (Int×Value)) (n:Nat):(relayAll t es n).2.1.led=t.led/\sE (relayAll t es n).2.1:=by
 unfold relayAll;split
 ·rename_i t' order he;obtain ⟨a,b,c⟩:=qg he;dsimp only;split
  ·exact ⟨a,c,b⟩
  ·exact ⟨rfl,dj _ _⟩
 ·exact ⟨rfl,dj _ _⟩
variable {j:Nat} {xs:Array Nat}
theorem iV (hr:xs.toList.Pairwise (· < ·)):∀ (fuel lo hi:Nat),lo<=hi->hi<=xs.size->hi - lo<=fuel->(∀ i (h:i < xs.size),i < lo->xs[i] < j)->(∀ i (h:i < xs.size),hi<=i->j<=xs[i])->
  (∀ i (h:i < xs.size),i < SetTable.below.go xs j fuel lo hi->xs[i] < j)/\(∀ i (h:i < xs.size),SetTable.below.go xs j fuel lo hi<=i->j<=xs[i])/\SetTable.below.go xs j fuel lo hi<=xs.size
 | 0,lo,hi,h1,h2,h3,h4,h5=>by
  have:lo=hi:=by lia
  subst this;exact ⟨h4,h5,h2⟩
 | fuel+1,lo,hi,h1,h2,h3,h4,h5=>by
  have mono:∀ (a b:Nat) (ha:a < xs.size) (hb:b < xs.size),a<=b->xs[a]<=xs[b]:=fun a b ha hb hab=>by
   rcases Nat.lt_or_eq_of_le hab with h|h
   ·have:=List.pairwise_iff_getElem.mp hr a b (by simpa using ha) (by simpa using hb) h;simp only [Array.getElem_toList] at this;lia
   ·subst h;lia
  rw [SetTable.below.go];by_cases Cu:lo < hi
  ·rw [if_pos Cu];have hm:(lo+hi) / 2 < xs.size:=by lia
   have eg:xs.getD ((lo+hi) / 2) j=xs[(lo+hi) / 2]:=by simp [hm]
   dsimp only;rw [eg];by_cases hc:xs[(lo+hi) / 2] < j
   ·rw [if_pos hc];refine iV hr fuel _ hi (by lia) h2 (by lia) (fun i h hi'=>?_) h5;have:=mono i ((lo+hi) / 2) h hm (by lia);lia
   ·rw [if_neg hc];refine iV hr fuel lo _ (by lia) (by lia) (by lia) h4 (fun i h hi'=>?_);have:=mono ((lo+hi) / 2) i hm h hi';lia
  ·rw [if_neg Cu];have:lo=hi:=by lia
   subst this;exact ⟨h4,h5,h2⟩
theorem iW (j:Nat) (hr:xs.toList.Pairwise (· < ·)):(∀ i (h:i < xs.size),i < SetTable.below xs j->xs[i] < j)/\(∀ i (h:i < xs.size),SetTable.below xs j<=i->j<=xs[i])/\SetTable.below xs j<=xs.size:=
 iV hr xs.size 0 xs.size (Bv _) (AR _) (by lia) (fun i h hi=>absurd hi (by lia)) (fun i h hi=>absurd h (by lia))
theorem nB (h:t.slot j=.empty):t.place[SetTable.below t.place j]?≠some j:=by
 intro e;unfold SetTable.slot at h;dsimp only at h;rw [e] at h;simp at h
theorem ku (hd:t.dummies=#[]):t.slot j≠.dummy:=by
 unfold SetTable.slot;dsimp only;split
 ·exact fun h=>nomatch h
 ·rw [hd];have:SetTable.has #[] j=false:=by simp [SetTable.has]
  rw [this];simp
theorem jr (t:SetTable) (p:SetTable.Probe):(t.advance p).dummy=p.dummy:=by
 unfold SetTable.advance;split<;>rfl
theorem gU {hashAt:Nat->Int} {h:Int} (hd:t.dummies=#[]):∀ (fuel:Nat) (p:SetTable.Probe) (j:Nat) (d:Option Nat),p.dummy=none->SetTable.probe.go t hashAt h fuel p=some (.empty j d)->t.slot j=.empty/\d=none
 | 0,p,j,d,_,e=>by cases e
 | fuel+1,p,j,d,hp,e=>by
  rw [SetTable.probe.go] at e;cases hs:t.slot p.j with
  | empty=>
   rw [hs] at e;dsimp only at e;have:=Be e;have e1:p.j=j/\p.dummy=d:=by simpa using this
   exact ⟨e1.1 ▸ hs,e1.2 ▸ hp⟩
  | dummy=>exact absurd hs (ku hd)
  | live i=>
   rw [hs] at e;dsimp only at e;split at e
   ·cases Be e
   ·exact gU hd fuel _ j d ((jr _ _).trans hp) e
theorem uB (hR:sE t) (he:t.slot j=.empty):sE (t.put j).1:=by
 obtain ⟨hr,hd⟩:=hR;refine ⟨?_,?_⟩
 ·show (SetTable.insertAt t.place (SetTable.below t.place j) j).toList.Pairwise (· < ·);rw [SetTable.toList_insertAt];obtain ⟨b1,b2,b3⟩:=iW j hr;have Cq:=nB he;generalize SetTable.below t.place j=p at *;have gl:∀ (i:Nat) (h:i < t.place.size),t.place.toList[i]'(by simpa using h)=t.place[i]:=fun i h=>by simp
  refine List.pairwise_append.mpr ⟨hr.sublist (List.take_sublist _ _),?_,?_⟩
  ·refine List.pairwise_cons.mpr ⟨fun y hy=>?_,hr.sublist (List.drop_sublist _ _)⟩;obtain ⟨k,hk,rfl⟩:=List.mem_iff_getElem.mp hy;rw [List.getElem_drop];have hk':p+k < t.place.size:=by simpa [Nat.lt_sub_iff_add_lt,Nat.add_comm] using hk
   rw [gl _ hk'];have h0:p < t.place.size:=by lia
   have h1:=b2 p h0 (AR _);have h2:t.place[p]≠j:=fun z=>Cq (by rw [Array.getElem?_eq_getElem h0,z]);have h3:t.place[p]<=t.place[p+k]:=by
    rcases Nat.eq_zero_or_pos k with rfl|hk0
    ·exact AR _
    ·have:=List.pairwise_iff_getElem.mp hr p (p+k) (by simpa using h0) (by simpa using hk') (by lia);rw [gl _ h0,gl _ hk'] at this;lia
   lia
  ·intro x hx y hy;obtain ⟨k,hk,rfl⟩:=List.mem_iff_getElem.mp hx;rw [List.getElem_take];have hk1:k < p:=by have:=hk;rw [A7] at this;lia
   have hk2:k < t.place.size:=by lia
   rw [gl _ hk2];have h1:=b1 k hk2 hk1;rcases AZ.mp hy with rfl|hy
   ·exact h1
   ·obtain ⟨q,hq,rfl⟩:=List.mem_iff_getElem.mp hy;rw [List.getElem_drop];have hq':p+q < t.place.size:=by simpa [Nat.lt_sub_iff_add_lt,Nat.add_comm] using hq
    rw [gl _ hq'];have:=b2 (p+q) hq' (by lia);lia
 ·show (if SetTable.has t.dummies j then SetTable.eraseAt t.dummies (SetTable.below t.dummies j) else t.dummies)=#[];rw [hd];have:SetTable.has #[] j=false:=by simp [SetTable.has]
  rw [this];rfl
theorem nC (hR:sE t) (es:Array (Int×Value)) (h:Int) (x:Value):sE (layNew t es h x).2.1:=by
 unfold layNew;split
 ·rename_i slot wasDummy he;unfold SetTable.freeSlot at he;split at he
  ·rename_i j d hp;obtain ⟨h1,h2⟩:=gU hR.2 _ _ j d rfl hp;subst h2;have e1:j=slot:=by
    have:=Be he;exact (Prod.ext_iff.mp this).1
   subst e1;show sE (SetTable.orStandIn _ _);unfold SetTable.orStandIn;split
   ·exact uB hR h1
   ·exact dj _ _
  ·cases he
 ·exact dj _ _
def gI (e:Int×Value):Int:=match e.2 with
 | .int s _=>s
 | _=>0
def Gu (prog:Program) (w:World) (es:List (Int×Value)) (ss:List Int):Prop:=ElemsOf (intKind prog w) es/\(es.map gI).Perm ss/\ss.Nodup
def Ds (prog:Program) (w:World) (h:Heap) (a:Addr) (ss:List Int):Prop:=∃ o es ep t,h.get? a=some o/\o.ExactSet/\o.data=.set es ep t/\t.fits es.size=true/\t.led=CJ w/\sE t/\Gu prog w es.toList ss
def eC (x:Int) (ss:List Int):List Int:=if x∈ss then ss else ss++[x]
variable {ss:List Int} {es:List (Int×Value)} {w:World} {prog:Program}
theorem Gu.is (h:Gu prog w es ss) {e:Int×Value} (he:e∈es):∃ t,e.2=.int (gI e) t:=by
 obtain ⟨⟨k,hk,_⟩,_⟩:=h.1 e he;obtain ⟨t,z⟩:=Value.isInt_shape hk;refine ⟨t,?_⟩;unfold gI;rw [z]
theorem Gu.find (h:Gu prog w es ss) (x:Int):(∃ e∈es,(intKind prog w).is x e.2=true)↔x∈ss:=by
 rw [<-h.2.1.mem_iff,Bo];constructor
 ·rintro ⟨e,he,hx⟩;refine ⟨e,he,?_⟩;obtain ⟨t,z⟩:=Value.isInt_shape hx;unfold gI;rw [z]
 ·rintro ⟨e,he,rfl⟩;obtain ⟨t,z⟩:=h.is he;refine ⟨e,he,?_⟩;rw [z];exact intKind_is _ _ _ _
section
variable {prog:Program} {w:World} {A:Around} {E:Value->Shared->Prop} {s:Shared}
variable {a:Addr} {h:Heap}
theorem jN {o:Obj} {es:Array (Int×Value)} {ep:Nat} (ho:h.get? a=some o) (hex:o.ExactSet) (hd:o.data=.set es ep t)
  {es':Array (Int×Value)} {t':SetTable} {ss':List Int} (hE:Gu prog w es'.toList ss') (hf:t'.fits es'.size=true) (hl:t'.led=CJ w) (hp:sE t') :
  (h.update a (Obj.putSet es' t')).get? a=some { o with data:=.set es' (ep+1) t' }/\Ds prog w (h.update a (Obj.putSet es' t')) a ss':=by
 have hg:(h.update a (Obj.putSet es' t')).get? a=some { o with data:=.set es' (ep+1) t' }:=by
  have:=Heap.get?_update_self (Obj.putSet es' t') ho (by rw [putSet_of es' t' hd];rfl);rw [putSet_of es' t' hd] at this;exact this
 exact ⟨hg,_,es',ep+1,t',hg,hex,rfl,hf,hl,hp,hE⟩
theorem oN {g:Bool->Sem Unit} (hg:∀ (b:Bool) (s₁:Shared) (Q':Unit->Shared->Prop),Q' () s₁->wpAny (model prog w) A (g b) Q' E s₁)
  {a:Addr} {o:Obj} {es:Array (Int×Value)} {ep:Nat} {t:SetTable} (ho:s.heap.get? a=some o) (hex:o.ExactSet) (hd:o.data=.set es ep t)
  {es1:Array (Int×Value)} {t2:SetTable} {ss':List Int} (hE:Gu prog w es1.toList ss')
  (hb1:es1.size < scanBound) (hf2:t2.fits es1.size=true) (hl2:t2.led=CJ w) (hp2:sE t2) {wasDummy:Bool} {R:Option Bool->Shared->Prop}
  (h:∀ h',Heap.SameBut a s.heap h'->Ds prog w h' a ss'->R (some true) { s with heap:=h' }) :
  wpAny (model prog w) A (do
    storeSet a es1 t2
    if (!wasDummy && t2.tooFull)=true then do
      g (relayAll t2 es1 (SetTable.grown es1.size)).2.2
      storeSet a (relayAll t2 es1 (SetTable.grown es1.size)).1 (relayAll t2 es1 (SetTable.grown es1.size)).2.1
      pure (some true)
     else pure (some true)) R E s:=by
 refine wpAny_bind (wpAny_storeSet_of ho hd ?_ (fits_of_scanBound hb1));obtain ⟨ho1,hS1⟩:=jN (prog:=prog) ho hex hd hE hf2 hl2 hp2;have hsb1:=Heap.SameBut.update s.heap a (Obj.putSet es1 t2);split
 ·have hp:=relayAll_perm t2 es1 (SetTable.grown es1.size);have hfr:=relayAll_fits t2 es1 (SetTable.grown es1.size);obtain ⟨hfl1,hfl2⟩:=qh t2 es1 (SetTable.grown es1.size);generalize hRl:relayAll t2 es1 (SetTable.grown es1.size)=Rl at hp hfr hfl1 hfl2 ⊢;obtain ⟨es2,t3,gave2⟩:=Rl;dsimp only at hp hfr hfl1 hfl2 ⊢;have hE2:Gu prog w es2.toList ss':=⟨hE.1.perm hp,(hp.map _).trans hE.2.1,hE.2.2⟩;have hsz:es2.size=es1.size:=by rw [<-A0,hp.length_eq,A0]
  have hb2:es2.size < scanBound:=by rw [hsz];exact hb1
  refine wpAny_bind (hg _ _ _ ?_);refine wpAny_bind (wpAny_storeSet_of ho1 rfl ?_ (fits_of_scanBound hb2));obtain ⟨_,hS2⟩:=jN (prog:=prog) ho1 hex rfl hE2 hfr (hfl1.trans hl2) hfl2;exact wpAny_pure (h _ (hsb1.trans (Heap.SameBut.update _ a _)) hS2)
 ·exact wpAny_pure (h _ hsb1 hS1)
theorem wS {x:Int} {tk:Tok} {Q:Bool->Shared->Prop} (hS:Ds prog w s.heap a ss) (hroom:ss.length+1 < scanBound)
  (h:∀ b h',Heap.SameBut a s.heap h'->Ds prog w h' a (eC x ss)->Q b { s with heap:=h' }) :
  wpAny (model prog w) A (setAddHashed a (.int x tk) ((intKind prog w).hash x)) Q E s:=by
 obtain ⟨o,es,ep,t,ho,hex,hd,hf,hl,hp,hE⟩:=hS;have hn:es.size=ss.length:=by rw [<-hE.2.1.length_eq,AM,A0]
 have hb:es.size < scanBound:=by lia
 have hkey:(intKind prog w).is x (.int x tk)=true:=intKind_is _ _ _ _;have hsc:Value.scannable (.int x tk)=true:=rfl;have hel:=hE.1;unfold setAddHashed setAddHashedIn;refine wpAny_holding (wpAny_bind (wpAny_setState_of ho hd hf ?_));dsimp only;rw [byScan_of hsc hb hel];simp only [↓reduceIte];unfold setAddByScan;refine wpAny_bind ?_;refine wpAny_bind (wpAny_rule ?_);refine wpAny_bind (wpAny_setScan_of hkey ho hd hf hel ?_);cases hr:List.findIdx? (fun e=>(intKind prog w).is x e.2) es.toList with
 | some j=>
  dsimp only;obtain ⟨hj,hpj,_⟩:=List.findIdx?_eq_some_iff_getElem.mp hr;have hm:x∈ss:=(hE.find x).mp ⟨es.toList[j],Bq hj,hpj⟩;refine wpAny_pure (wpAny_pure ?_);have e:s={ s with heap:=s.heap }:=by cases s;rfl
  rw [e];refine h _ s.heap (Heap.SameBut.refl a s.heap) ⟨o,es,ep,t,ho,hex,hd,hf,hl,hp,?_⟩;unfold eC;rw [if_pos hm];exact hE
 | none=>
  dsimp only;have hm:x∉ss:=fun z=>by
   obtain ⟨e,he,hp⟩:=(hE.find x).mpr z;have:=List.findIdx?_eq_none_iff.mp hr e he;rw [hp] at this;exact Bool.noConfusion this
  have hgw:∀ (b:Bool) {s₁:Shared} {Q':Unit->Shared->Prop},Q' () s₁->wpAny (model prog w) A (match b with|true=>rule "set.scan.the-table-gave-way"|false=>pure ()) Q' E s₁:=
   fun b s₁ Q' hq=>by cases b<;>first|exact wpAny_pure hq|exact wpAny_rule hq
  have hperm:=layNew_perm t es ((intKind prog w).hash x) (.int x tk);have hfits:=layNew_fits t es ((intKind prog w).hash x) (.int x tk);have hfl1:=nA t es ((intKind prog w).hash x) (.int x tk);have hfl2:=nC hp es ((intKind prog w).hash x) (.int x tk);generalize hL:layNew t es ((intKind prog w).hash x) (.int x tk)=L at hperm hfits hfl1 hfl2 ⊢;obtain ⟨es1,t1,wasDummy,gave⟩:=L;dsimp only at hperm hfits hfl1 hfl2 ⊢;rw [Array.toList_push] at hperm;have hE1:Gu prog w es1.toList (eC x ss):=by
   refine ⟨(hel.push hkey hsc).perm hperm,?_,?_⟩
   ·refine (hperm.map gI).trans ?_;rw [AY];unfold eC;rw [if_neg hm];exact hE.2.1.append_right _
   ·unfold eC;rw [if_neg hm];refine BP.mpr ⟨hE.2.2,by simp,?_⟩;intro y hy z hz e;rw [AU.mp hz] at e;exact hm (e ▸ hy)
  have hb1':es1.size < scanBound:=by rw [<-A0,hperm.length_eq,AT,A0,hn];simpa using hroom
  refine wpAny_bind (hgw _ ?_);have hend:∀ h',Heap.SameBut a s.heap h'->Ds prog w h' a (eC x ss)->Q true { s with heap:=h' }:=fun h' hsb hS'=>h _ h' hsb hS';split
  ·refine wpAny_bind ?_;rw [hashByValue_scannable 8 hsc];refine wpAny_pure ?_;refine oN ?_ ho hex hd hE1 hb1' ?_ ?_ ?_ ?_
   ·intro b s₁ Q' hq;cases b<;>first|exact wpAny_pure hq|exact wpAny_rule hq
   ·split
    ·exact hfits
    ·exact SetTable.fits_plain_off hfits
   ·split
    ·exact hfl1.trans hl
    ·exact hfl1.trans hl
   ·split
    ·exact hfl2
    ·exact hfl2
   ·intro h' hsb hS';dsimp only;exact wpAny_pure (hend h' hsb hS')
  ·refine wpAny_bind (wpAny_pure ?_);simp only [↓reduceIte];refine oN ?_ ho hex hd hE1 hb1' hfits (hfl1.trans hl) hfl2 ?_
   ·intro b s₁ Q' hq;cases b<;>first|exact wpAny_pure hq|exact wpAny_rule hq
   ·intro h' hsb hS';dsimp only;exact wpAny_pure (hend h' hsb hS')
theorem Ds.keep {h h':Heap} (S:Ds prog w h a ss) (k:∀ o,h.get? a=some o->h'.get? a=some o):Ds prog w h' a ss:=by
 obtain ⟨o,es,ep,t,ho,r⟩:=S;exact ⟨o,es,ep,t,k o ho,r⟩
end
def dk (ns:List Int):List Int:=ns.foldl (fun ps k=>eC k ps) []
theorem nE (ns:List Int) (k:Int):dk (ns++[k])=eC k (dk ns):=by simp [dk]
theorem jO (ns:List Int):(dk ns).length<=ns.length:=by
 have h:∀ (l acc:List Int),(l.foldl (fun ps k=>eC k ps) acc).length<=acc.length+l.length:=by
  intro l;induction l with
  | nil=>intro acc;simp
  | cons x l ih=>
   intro acc;rw [List.foldl_cons];refine A8 (ih _) ?_;unfold eC;split<;>simp<;>lia
 simpa [dk] using h ns []
theorem uC:Gu prog w [] []:=⟨fun e he=>absurd he (by simp),List.Perm.refl _,List.nodup_nil⟩
variable {vs:List Value}
theorem qi (h:IntsAre vs ss):vs.length=ss.length:=by
 induction h with
 | nil=>rfl
 | cons _ _ _ ih=>rw [Bj,Bj,ih]
theorem sF (h:IntsAre vs ss):∀ (i:Nat) (v:Value),vs[i]?=some v->∃ t k,ss[i]?=some k/\v=.int k t:=by
 induction h with
 | nil=>intro i v e;simp at e
 | cons y t _ ih=>
  intro i v e;cases i with
  | zero=>exact ⟨t,y,rfl,by simpa using e.symm⟩
  | succ i=>exact ih i v (by simpa using e)
section
variable {prog:Program} {w:World} {A:Around} {R:Result->Shared->Prop} {I:Addr} {fp wr:List Addr} {G:Array GenState->Array GenState->Prop} {n:Nat} {P:Nat->Value->Prop} {St:Nat->Shared->Prop}
theorem qj (W:WalksS prog w A.in1 I fp wr G n P St) (S:Addr) (hSf:S∉fp) (ns:List Int) (hn:ns.length=n) (h2:n+1 < scanBound)
  (hval:∀ i v,P i v->∃ t k,ns[i]?=some k/\v=.int k t) :
  ∀ (k i:Nat) (s:Shared),n - i=k->i<=n->St i s->Ds prog w s.heap S (dk (ns.take i))->
   (∀ s',Moved (S::wr) G s s'->Ds prog w s'.heap S (dk ns)->R (.ok (.ret .none)) s')->
   codeAny (model prog w) A (.builtin "set.update.loop" ⟨[.ref S,.ref I],[]⟩) R s:=by
 have hSw:S∉wr:=fun h=>hSf (W.sub _ h);have hsub:∀ b∈wr,b∈S::wr:=fun b hb=>A2 _ hb;intro k;induction k with
 | zero=>
  intro i s hk hi hst hS hR;have hin:i=n:=by lia
  subst hin;refine codeAny_builtin F.entry_set_update_loop ?_;rw [Around.under_plainId F.plain_set_update_loop _];show wpAny _ A.in1 (pyNext (.ref I) >>= _) _ _ s;refine wpAny_bind (W.done s _ _ hst fun s' hm=>?_);show wpAny _ A.in1 (ret Value.none) _ _ s';refine wpAny_pure (hR s' (hm.mono hsub) ?_);rw [<-hn,Bf] at hS;exact hS.keep fun o ho=>hm.heap S _ hSw ho
 | succ k ih=>
  intro i s hk hi hst hS hR;have Cu:i < n:=by lia
  refine codeAny_builtin F.entry_set_update_loop ?_;rw [Around.under_plainId F.plain_set_update_loop _];show wpAny _ A.in1 (pyNext (.ref I) >>= _) _ _ s;refine wpAny_bind (W.item i s _ _ Cu hst fun v s' hP hst' hm=>?_);obtain ⟨t,q,hq,rfl⟩:=hval i v hP;have hS':=hS.keep fun o ho=>hm.heap S _ hSw ho;show wpAny _ A.in1 (holding [Value.int q t] (setAdd S (.int q t)) >>= _) _ _ s';refine wpAny_bind (wpAny_holding ?_);unfold setAdd;refine wpAny_holding ?_;refine wpAny_bind ((intKind prog w).pyHash (k:=q) (intKind_is _ _ _ _) ?_);have f1:=jO (ns.take i);rw [A7] at f1;refine wS (s:={ s' with toks:=s'.toks+1 }) hS' (by lia) fun b h' hsb hS2=>?_;have et:ns.take (i+1)=ns.take i++[q]:=by
   rw [By,hq];rfl
  refine wpAny_pure ⟨plainId_quiet F.plain_set_update_loop _,ih (i+1) _ (by lia) Cu (W.frame _ s' _ _ hst' (BS _) fun b hb o e=>?_) (by rw [et,nE];exact hS2) fun s'' hm'' hS''=>?_⟩
  ·rw [hsb.2 b (fun h:b=S=>hSf (by rw [<-h];exact hb))];exact e
  ·refine hR s'' (Moved.trans W.gtrans ((hm.mono hsub).then_heap (BS _) fun b o hb e=>?_) hm'') hS'';rw [hsb.2 b (fun h:b=S=>hb (by rw [h];exact AX))];exact e
end
section
variable {prog:Program} {w:World} {A:Around} {E:Value->Shared->Prop} {s:Shared}
theorem lP {l:Addr} {Cv:Array Value} {ns:List Int} {Q:Value->Shared->Prop}
  (hh:A.handled=none) (hl:s.heap.IsList l Cv) (hi:IntsAre Cv.toList ns) (h2:ns.length+1 < scanBound)
  (h:∀ (h':Heap) (tk:Nat),Ds prog w h' s.heap.objs.size (dk ns)->(∀ b o,b < s.heap.objs.size->s.heap.get? b=some o->h'.get? b=some o)->Q (.ref s.heap.objs.size) { s with heap:=h',toks:=tk }) :
  wpAny (model prog w) A (call (.type "set") [.ref l]) Q E s:=by
 have Ck:ns.length=Cv.size:=by
  have:=qi hi;rw [A0] at this;lia
 obtain ⟨c,tl,hmro⟩:=PySem.F.called_set.mro;have hmade:=PySem.F.called_set.made;have hsub:=PySem.F.called_set.sub;refine wpAny_call (codeAny_of_tree ?_);show wpAny _ _ (callAny (.type "set") _) _ _ _;refine wpAny_pure ⟨Code.quiet_builtin _ zk,codeAny_builtin PySem.F.entry_type_call ?_⟩;rw [Around.under_plain (weight_type_call_type "set" [.ref l] []) rfl];have h1:=PySem.F.called_set.notType;have h2':=PySem.F.called_set.canCreate;have hct:=PySem.F.typeCall_set_1 (.ref l);repeat (any_goals (first|assumption|wp_step))
 refine codeAny_mono (Ee (.ref l) (E:=E) (Q₁:=fun obj s₁=>obj=.ref s.heap.objs.size/\s₁={ s with heap:=s.heap.push { cls:=.type "set",dict:=none,data:=.set #[] 0 (.fresh 0 0 (CJ w)) } }) ⟨rfl,rfl⟩) fun r s₁ hr=>?_;cases r with
 | error e=>exact hr
 | ok fl=>
  cases fl with
  | ret obj=>
   obtain ⟨rfl,rfl⟩:=hr;have hS:(s.heap.push { cls:=.type "set",dict:=none,data:=.set #[] 0 (.fresh 0 0 (CJ w)) }).get? s.heap.objs.size=some { cls:=.type "set",dict:=none,data:=.set #[] 0 (.fresh 0 0 (CJ w)) }:=AO _ rfl;have hT:Shared.TypeIs { s with heap:=s.heap.push { cls:=.type "set",dict:=none,data:=.set #[] 0 (.fresh 0 0 (CJ w)) } } (.ref s.heap.objs.size) "set":=⟨_,hS,rfl⟩;have hli:=PySem.F.called_set.init.lookup;have hbi:=PySem.F.called_set.init.bind (.ref s.heap.objs.size);repeat (any_goals (first|assumption|wp_step))
   refine codeAny_mono (codeAny_call_builtin (R:=wants (fun r s₂=>r=.none/\∃ h' tk,s₂={ s with heap:=h',toks:=tk }/\Ds prog w h' s.heap.objs.size (dk ns) /\
     (∀ b o,b < s.heap.objs.size->s.heap.get? b=some o->h'.get? b=some o)) E) PySem.F.called_set.init.plain PySem.F.entry_set_init (PySem.check_set_init_1 hT ?_)) fun r₂ s₂ hr₂=>?_
   ·obtain ⟨ol,hol,hcl,nl,hdl⟩:=hl;obtain ⟨ocls,odict,odata,oslots⟩:=ol;simp only at hcl hdl;subst hcl;subst hdl;have hol':(s.heap.push { cls:=.type "set",dict:=none,data:=.set #[] 0 (.fresh 0 0 (CJ w)) }).get? l=some { cls:=.type "list",dict:=odict,data:=.seq Cv nl,slots:=oslots }:=AK _ hol;have hsls:=PySem.F.sub_list_set;have hslf:=PySem.F.sub_list_frozenset;have Cq:(Value.type "list" == Value.type "dict")=false:=by decide
    have hl1:(s.heap.push { cls:=.type "set",dict:=none,data:=.set #[] 0 (.fresh 0 0 (CJ w)) }).IsList l Cv:=⟨_,hol',rfl,nl,rfl⟩;unfold Builtin.«set.__init__» noKeywords Builtin.Frozenset.updateFrom;generalize hPI:pyIter=PI
    wp_walk
    subst hPI;refine wpAny_pyIter_list hl1 ?_;refine wpAny_bind (wpAny_runValue ?_);have hlS:l < s.heap.objs.size:=AQ hol;have hh3:A.in1.in1.in1.handled=none:=by simp [hh]
    have hneI:l≠(s.heap.push { cls:=.type "set",dict:=none,data:=.set #[] 0 (.fresh 0 0 (CJ w)) }).objs.size:=by
     rw [Bb];exact AW (Nat.lt_succ_of_lt hlS)
    have hSf:s.heap.objs.size∉[(s.heap.push { cls:=.type "set",dict:=none,data:=.set #[] 0 (.fresh 0 0 (CJ w)) }).objs.size,l]:=by
     rw [Bb];simp only [AZ,AU,BN,or_false,not_or];exact ⟨AW (BI _),BV hlS⟩
    have hval:∀ (i:Nat) (v:Value),Cv[i]?=some v->∃ t k,ns[i]?=some k/\v=.int k t:=fun i v hv=>
     sF hi i v (by rw [Array.getElem?_toList];exact hv)
    refine qj ((Walks.list hh3 _ l hneI Cv).toS) s.heap.objs.size hSf ns Ck (by lia) hval (Cv.size - 0) 0 _ (by lia) (Bv _)
     ⟨⟨_,AO _ rfl,rfl,rfl⟩,(hl1.push _)⟩ ?hS0 ?hR
    case hS0=>
     have hget:((s.heap.push { cls:=.type "set",dict:=none,data:=.set #[] 0 (.fresh 0 0 (CJ w)) }).push { cls:=.type "list_iterator",data:=.fields #[.ref l,.int 0 0] }).get? s.heap.objs.size
       = some { cls:=.type "set",dict:=none,data:=.set #[] 0 (.fresh 0 0 (CJ w)) }:=AK _ hS
     exact ⟨_,#[],0,_,hget,⟨rfl,rfl,rfl⟩,rfl,rfl,rfl,⟨List.Pairwise.nil,rfl⟩,uC⟩
    case hR=>
     intro s' hm hS';obtain ⟨h',g',d',tk',os'⟩:=s';have eg:g'=s.gens:=hm.gens;have ed:d'=s.drawn:=hm.drawn;have eo:os'=s.os:=hm.os;subst eg;subst ed;subst eo;show wpAny _ _ _ _ _ _;refine wpAny_pure ?_;show wpAny _ _ (ret Value.none) _ _ _;refine wpAny_pure ⟨rfl,h',tk',rfl,hS',fun b o hb e=>?_⟩;have hb1:b≠s.heap.objs.size:=AW hb;have hb2:b≠(s.heap.push { cls:=.type "set",dict:=none,data:=.set #[] 0 (.fresh 0 0 (CJ w)) }).objs.size:=by
      rw [Bb];exact AW (Nat.lt_succ_of_lt hb)
     exact hm.heap b o (by simp only [AZ,AU,BN,or_false,not_or];exact ⟨hb1,hb2⟩) (AK _ (AK _ e))
   ·cases r₂ with
    | error e=>exact hr₂
    | ok fl₂=>
     cases fl₂ with
     | ret r=>
      obtain ⟨rfl,h',tk,rfl,hS',hk'⟩:=hr₂;repeat (any_goals (first|assumption|wp_step))
      exact h _ _ hS' hk'
     | _=>exact hr₂.elim
  | _=>exact hr.elim
end
section
variable {prog:Program} {w:World} {A:Around} {E:Value->Shared->Prop} {s:Shared} {M:Model}
theorem ky {src:Source} {Q:Nat->Shared->Prop} (hn:n≠0) (h:∀ i d,i < n->Q i { s with drawn:=d }):wpAny M A (choose src n) Q E s:=by
 intro Γ p _;show Sem.wp M Γ (.choose src n .pure) _ _ p s;rw [Sem.wp_choose];exact ⟨hn,h _ _ (Nat.mod_lt _ (Nat.pos_of_ne_zero hn))⟩
theorem dW {α:Type}:∀ (n:Nat) (xs:List α) (s:Shared) {Q:List α->Shared->Prop},xs.length=n->(∀ ys d,ys.Perm xs->Q ys { s with drawn:=d })->wpAny M A (drawOrder n xs) Q E s
 | 0,xs,s,Q,hl,h=>by
  have:xs=[]:=Ce.mp hl;subst this;have e:s={ s with drawn:=s.drawn }:=by cases s;rfl
  rw [e];exact wpAny_pure (h [] _ (.refl _))
 | n+1,[],s,Q,hl,h=>by simp at hl
 | n+1,x::xs,s,Q,hl,h=>by
  show wpAny M A (choose .order (x::xs).length >>= _) Q E s;refine wpAny_bind (ky (by simp) fun i d hi=>?_);rw [AL hi];dsimp only;refine wpAny_bind (dW n ((x::xs).eraseIdx i) _ (by rw [List.length_eraseIdx,if_pos hi];lia) fun ys d2 hp=>wpAny_pure ?_);refine h _ d2 ?_;have hm:=List.perm_middle (a:=(x::xs)[i]) (l₁:=(x::xs).take i) (l₂:=(x::xs).drop (i+1));rw [<-B8 hi,BR] at hm;refine (hp.cons _).trans ?_;rw [List.eraseIdx_eq_take_drop_succ];exact hm.symm
end
structure Fb (prog:Program) (w:World) (h:Heap) (a:Addr) (es:Array (Int×Value)) (ep:Nat) (t:SetTable):Prop where
 at_:∃ o,h.get? a=some o/\o.ExactSet/\o.data=.set es ep t
 fits:t.fits es.size=true
 led:t.led=CJ w
 ris:sE t
variable {ep:Nat} {a:Addr} {h h':Heap}
theorem Fb.keep {es:Array (Int×Value)} (S:Fb prog w h a es ep t) (k:∀ o,h.get? a=some o->h'.get? a=some o):Fb prog w h' a es ep t:=by
 obtain ⟨⟨o,ho,r⟩,a1,a2,a3⟩:=S;exact ⟨⟨o,k o ho,r⟩,a1,a2,a3⟩
def iX (w:World) (t:SetTable) (i slot:Nat):Prop:=w.params.followText "set-order"=true\/∀ k (h:k < t.place.size),t.place[k] < slot↔k < i
section
variable {prog:Program} {w:World} {A:Around} {E:Value->Shared->Prop} {s:Shared}
theorem Fb.psize {es:Array (Int×Value)} (S:Fb prog w h a es ep t):t.place.size=es.size:=by
 have:=S.fits;unfold SetTable.fits at this;rw [Bh] at this;simpa using this.1
theorem iY {es:Array (Int×Value)} {ep i slot:Nat} {Q:Option (Value×Nat)->Shared->Prop} (S:Fb prog w s.heap a es ep t) (hm:w.params.followText "set-order"=true\/t.plain=true\/es.size<=1) (hi:i<=es.size) (hs:iX w t i slot)
  (h:∀ r,(i=es.size->r=none)->(∀ Cu:i < (CV w a ep es).size,∃ slot',r=some ((CV w a ep es)[i].2,slot')/\iX w t (i+1) slot')->Q r s):wpAny (model prog w) A (setNext a slot i ep) Q E s:=by
 obtain ⟨o,ho,hex,hd⟩:=S.at_;have hf:=S.fits;have hord:=(Do w a ep es).length_eq;rw [A0,A0] at hord;unfold setNext;refine wpAny_bind (wpAny_setState_of ho hd hf ?_);dsimp only;refine wpAny_bind ?_;unfold setsByText;refine wpAny_bind (wpAny_askSetting (wpAny_pure ?_));dsimp only;cases hb:w.params.followText "set-order" with
 | true=>
  have hb':(model prog w).w.params.followText "set-order"=true:=hb;rw [if_pos hb'];rw [if_neg (by simp)];unfold setWalk;refine wpAny_bind (wpAny_bind (wpAny_setState_of ho hd hf ?_));dsimp only;unfold setsByText;refine wpAny_bind (wpAny_bind (wpAny_askSetting (wpAny_pure ?_)));dsimp only;rw [if_pos hb'];refine wpAny_bind (wpAny_askSetting (wpAny_pure (wpAny_pure ?_)));have e1:CV w a ep es=pickOrder (w.params.setOrder a ep) es:=by unfold CV;rw [if_pos hb]
  refine h _ (fun z=>?_) (fun Cu=>?_)
  ·have:(pickOrder (w.params.setOrder a ep) es)[i]?=none:=Array.getElem?_eq_none (by rw [<-e1,hord];lia);show Option.map _ ((pickOrder (w.params.setOrder a ep) es)[i]?)=none;rw [this];rfl
  ·refine ⟨slot,?_,.inl hb⟩;have:(pickOrder (w.params.setOrder a ep) es)[i]?=some (CV w a ep es)[i]:=by rw [<-e1];exact Array.getElem?_eq_getElem Cu
   show Option.map _ ((pickOrder (w.params.setOrder a ep) es)[i]?)=_;rw [this];rfl
 | false=>
  have hb':¬ (model prog w).w.params.followText "set-order"=true:=by
   show ¬ w.params.followText "set-order"=true;rw [hb];exact AS
  rw [if_neg hb'];have hled:t.led=true:=by rw [S.led];unfold CJ;rw [hb];rfl
  have h1:t.plain=true\/es.size<=1:=by
   rcases hm with z|z
   ·rw [hb] at z;cases z
   ·exact z
  have hps:=S.psize;have e1:CV w a ep es=es:=by unfold CV;rw [if_neg (by rw [hb];exact AS)]
  have hs':∀ k (h:k < t.place.size),t.place[k] < slot↔k < i:=by
   rcases hs with z|z
   ·rw [hb] at z;cases z
   ·exact z
  have hbl:SetTable.below t.place slot=i:=by
   obtain ⟨b1,b2,b3⟩:=iW slot S.ris.1;generalize SetTable.below t.place slot=r at *;rcases Nat.lt_trichotomy r i with h|h|h
   ·have hr:r < t.place.size:=by lia
    have:=b2 r hr (AR _);have:=(hs' r hr).mpr h;lia
   ·exact h
   ·have hr:i < t.place.size:=by lia
    have:=b1 i hr h;have:=(hs' i hr).mp this;lia
  split
  ·rename_i hz;have hz':(!t.plain && decide (es.size > 1))=true:=hz;rw [Bh] at hz';have h2:=of_decide_eq_true hz'.2;rcases h1 with h1|h1
   ·rw [h1] at hz';exact absurd hz'.1 zd
   ·lia
  ·refine wpAny_bind ?_;have hmb:(if (!t.led && !es.isEmpty)=true then (unsupported "set:maker-not-led":Sem Unit) else pure PUnit.unit)=pure PUnit.unit:=by rw [hled];rfl
   show wpAny _ _ (if (!t.led && !es.isEmpty)=true then (unsupported "set:maker-not-led":Sem Unit) else pure PUnit.unit) _ _ _;rw [hmb];refine wpAny_pure (wpAny_pure ?_);rw [hbl];refine h _ (fun z=>?_) (fun Cu=>?_)
   ·rw [Array.getElem?_eq_none (by lia)]
   ·rw [hord] at Cu;have hlp:i < t.place.size:=by lia
    have g1:es[i]?=some es[i]:=Array.getElem?_eq_getElem Cu;have g2:t.place[i]?=some t.place[i]:=Array.getElem?_eq_getElem hlp;refine ⟨t.place[i]+1,?_,.inr fun k hk=>?_⟩
    ·rw [g1,g2];simp [e1]
    ·constructor
     ·intro hk2;rcases Nat.lt_or_ge i k with hik|hik
      ·have:=List.pairwise_iff_getElem.mp S.ris.1 i k (by simpa using hlp) (by simpa using hk) hik;simp only [Array.getElem_toList] at this;lia
      ·lia
     ·intro hk2;rcases Nat.lt_or_eq_of_le (Nat.le_of_lt_succ hk2) with hik|hik
      ·have:=List.pairwise_iff_getElem.mp S.ris.1 k i (by simpa using hk) (by simpa using hlp) hik;simp only [Array.getElem_toList] at this;lia
      ·subst hik;lia
end
section
variable {prog:Program} {w:World} {A:Around} {E:Value->Shared->Prop} {s:Shared}
variable {i slot:Nat} {it:Addr}
theorem nF {es:Array (Int×Value)} {Q:Option Value->Shared->Prop} (hit:DA s.heap it a slot i es.size ep) (S:Fb prog w s.heap a es ep t) (hm:w.params.followText "set-order"=true\/t.plain=true\/es.size<=1) (hi:i < es.size) (hs:iX w t i slot)
  (hQ:∀ h' slot' x,(CV w a ep es)[i]?=some x->DA h' it a slot' (i+1) es.size ep->iX w t (i+1) slot'->Heap.SameBut it s.heap h'->Q (some x.2) { s with heap:=h' }):wpAny (model prog w) A (pyNext (.ref it)) Q E s:=by
 obtain ⟨o,ho,hc,hd⟩:=id hit;obtain ⟨oS,hoS,hexS,hdS⟩:=S.at_;have hf:=S.fits;have hord:=(Do w a ep es).length_eq;rw [A0,A0] at hord;have Cu:i < (CV w a ep es).size:=by rw [hord];exact hi
 unfold pyNext;refine wpAny_bind (wpAny_attempt (wpAny_callSpecial?_slot (name:=Str.ofString "__next__") hit.typeIs CA
  (wpAny_call_entry CA hit.typeIs CP ?_ (CT _))))
 show wpAny _ _ (fieldsOf (.ref it) >>= _) _ _ s;refine wpAny_bind (wpAny_fieldsOf ho hd ?_);dsimp only;show wpAny _ _ (setEntries a >>= _) _ _ s;refine wpAny_bind (wpAny_setEntries_of hoS hdS hf ?_);have hsz:((es.size:Int) != (es.size:Int))=false:=by simp
 rw [hsz];simp only [Bool.false_eq_true,if_false];show wpAny _ _ (setNext a (Int.toNat (slot:Int)) (Int.toNat (i:Int)) (Int.toNat (ep:Int)) >>= _) _ _ s;rw [A1,A1,A1];refine wpAny_bind (iY S hm (by lia) hs fun r _ hr=>?_);obtain ⟨slot',rfl,hs'⟩:=hr Cu;show wpAny _ _ (setField (.ref it) 0 (rawInt slot') >>= _) _ _ s;refine wpAny_bind (wpAny_setField ho hd (by simp) ?_);have hg1:=Heap.get?_update_self (h:=s.heap) (a:=it) (o:=o) (Obj.mapFields (·.setIfInBounds 0 (rawInt slot'))) ho (Obj.isFreed_of_fields (Obj.data_mapFields hd _));refine wpAny_bind (wpAny_setField hg1 (Obj.data_mapFields hd _) (by simp) ?_);refine wpAny_pure ⟨_,rfl,wpAny_pure (hQ _ slot' _ (Array.getElem?_eq_getElem Cu) ?_ hs' ((Heap.SameBut.update ..).trans (Heap.SameBut.update ..)))⟩;exact ⟨_,Heap.get?_update_self _ hg1 (Obj.isFreed_of_fields (Obj.data_mapFields (Obj.data_mapFields hd _) _)),(Obj.cls_mapFields ..).trans ((Obj.cls_mapFields ..).trans hc),by
  rw [Obj.data_mapFields (Obj.data_mapFields hd _)];simp [rawInt]⟩
theorem qk {es:Array (Int×Value)} {Q:Option Value->Shared->Prop} (hh:A.handled=none) (hit:DA s.heap it a slot es.size es.size ep) (S:Fb prog w s.heap a es ep t) (hm:w.params.followText "set-order"=true\/t.plain=true\/es.size<=1) (hs:iX w t es.size slot)
  (hQ:∀ h',Heap.ExtBut it s.heap h'->Q none { s with heap:=h' }):wpAny (model prog w) A (pyNext (.ref it)) Q E s:=by
 obtain ⟨o,ho,hc,hd⟩:=id hit;obtain ⟨oS,hoS,hexS,hdS⟩:=S.at_;have hf:=S.fits;unfold pyNext;refine wpAny_bind (wpAny_attempt (wpAny_callSpecial?_slot (name:=Str.ofString "__next__") hit.typeIs CA
  (wpAny_call_entry CA hit.typeIs CP ?_ (CT _))))
 show wpAny _ _ (fieldsOf (.ref it) >>= _) _ _ s;refine wpAny_bind (wpAny_fieldsOf ho hd ?_);dsimp only;show wpAny _ _ (setEntries a >>= _) _ _ s;refine wpAny_bind (wpAny_setEntries_of hoS hdS hf ?_);have hsz:((es.size:Int) != (es.size:Int))=false:=by simp
 rw [hsz];simp only [Bool.false_eq_true,if_false];show wpAny _ _ (setNext a (Int.toNat (slot:Int)) (Int.toNat (es.size:Int)) (Int.toNat (ep:Int)) >>= _) _ _ s;rw [A1,A1,A1];refine wpAny_bind (iY S hm (AR _) hs fun r hr _=>?_);rw [hr rfl];show wpAny _ _ (setField (.ref it) 2 .none >>= _) _ _ s;refine wpAny_bind (wpAny_setField ho hd (by simp) ?_);show wpAny _ _ (newExc (.type "StopIteration") [] >>= _) _ _ _;refine wpAny_bind ?_;simp only [newExc,newTuple];refine wpAny_bind (wpAny_newObj_type ?_ (by size_fits));refine wpAny_bind (m:=firstArgMember _ _) (wpAny_of_eq (a:=Value.none) (by first|rfl|(simp only [firstArgMember];rfl)) ?_);refine wpAny_newObj_type ?_ (by size_fits);simp only [raiseNew];refine wpAny_bind (wpAny_handled ?_);first|rw [show A.in1.handled=none from hh]|rw [hh]
 refine wpAny_bind (wpAny_pure (wpAny_throw ?_));refine wpAny_bind (wpAny_isInstance (T:="StopIteration") (b:=true) ⟨_,AO _ rfl,rfl⟩ isSubtype_stop ?_);exact wpAny_pure (hQ _ (((Heap.SameBut.update ..).extBut.push _).push _))
def Ed (h:Heap) (it a T:Addr) (i n ep:Nat):Prop:=∃ o,h.get? it=some o/\o.cls=.type "set_iterator"/\o.data=.fields #[.ref T,.int i 0,.ref a,.int n 0,.int ep 0]
def G4 (h:Heap) (T:Addr) (ps:List Nat):Prop:=∃ o m,h.get? T=some o/\o.data=.seq ((ps.map fun (i:Nat)=>rawInt i).toArray) m
variable {T:Addr}
theorem Ed.typeIs (h:Ed s.heap it a T i n ep):s.TypeIs (.ref it) "set_iterator":=let ⟨o,ho,hc,_⟩:=h;⟨o,ho,hc⟩
variable {ps:List Nat}
theorem nG {es:Array (Int×Value)} {p:Nat} {x:Int×Value} {Q:Option Value->Shared->Prop} (hit:Ed s.heap it a T i es.size ep) (hT:G4 s.heap T ps) (S:Fb prog w s.heap a es ep t)
  (hp:ps[i]?=some p) (hx:es[p]?=some x)
  (hQ:∀ h',Ed h' it a T (i+1) es.size ep->Heap.SameBut it s.heap h'->Q (some x.2) { s with heap:=h' }):wpAny (model prog w) A (pyNext (.ref it)) Q E s:=by
 obtain ⟨o,ho,hc,hd⟩:=id hit;obtain ⟨oS,hoS,hexS,hdS⟩:=S.at_;obtain ⟨oT,mT,hoT,mw⟩:=hT;have hf:=S.fits;unfold pyNext;refine wpAny_bind (wpAny_attempt (wpAny_callSpecial?_slot (name:=Str.ofString "__next__") hit.typeIs CA
  (wpAny_call_entry CA hit.typeIs CP ?_ (CT _))))
 show wpAny _ _ (fieldsOf (.ref it) >>= _) _ _ s;refine wpAny_bind (wpAny_fieldsOf ho hd ?_);dsimp only;show wpAny _ _ (setEntries a >>= _) _ _ s;refine wpAny_bind (wpAny_setEntries_of hoS hdS hf ?_);have hsz:((es.size:Int) != (es.size:Int))=false:=by simp
 rw [hsz];simp only [Bool.false_eq_true,if_false];show wpAny _ _ (seqItems? (.ref T) >>= _) _ _ s;refine wpAny_bind (wpAny_seqItems hoT mw ?_);dsimp only;have hpl:((ps.map fun (i:Nat)=>rawInt i).toArray)[(i:Int).toNat]?=some (.int (p:Int) 0):=by
  rw [A1,List.getElem?_toArray,A5,hp];rfl
 rw [hpl];dsimp only;unfold setNextDrawn;refine wpAny_bind (wpAny_bind (wpAny_setState_of hoS hdS hf ?_));dsimp only;have hep:(ep != (ep:Int).toNat)=false:=by rw [A1];simp
 rw [hep];simp only [Bool.false_eq_true,if_false];rw [A1,hx];dsimp only;refine wpAny_pure ?_;refine wpAny_bind (wpAny_setField ho hd (by simp) ?_);refine wpAny_pure ⟨x.2,rfl,wpAny_pure (hQ _ ?_ (Heap.SameBut.update ..))⟩;exact ⟨_,Heap.get?_update_self _ ho (Obj.isFreed_of_fields (Obj.data_mapFields hd _)),(Obj.cls_mapFields ..).trans hc,by
  rw [Obj.data_mapFields hd];simp [rawInt]⟩
theorem ql {es:Array (Int×Value)} {Q:Option Value->Shared->Prop} (hh:A.handled=none) (hit:Ed s.heap it a T es.size es.size ep) (hT:G4 s.heap T ps) (S:Fb prog w s.heap a es ep t)
  (hp:ps.length=es.size) (hQ:∀ h',Heap.ExtBut it s.heap h'->Q none { s with heap:=h' }):wpAny (model prog w) A (pyNext (.ref it)) Q E s:=by
 obtain ⟨o,ho,hc,hd⟩:=id hit;obtain ⟨oS,hoS,hexS,hdS⟩:=S.at_;obtain ⟨oT,mT,hoT,mw⟩:=hT;have hf:=S.fits;unfold pyNext;refine wpAny_bind (wpAny_attempt (wpAny_callSpecial?_slot (name:=Str.ofString "__next__") hit.typeIs CA
  (wpAny_call_entry CA hit.typeIs CP ?_ (CT _))))
 show wpAny _ _ (fieldsOf (.ref it) >>= _) _ _ s;refine wpAny_bind (wpAny_fieldsOf ho hd ?_);dsimp only;show wpAny _ _ (setEntries a >>= _) _ _ s;refine wpAny_bind (wpAny_setEntries_of hoS hdS hf ?_);have hsz:((es.size:Int) != (es.size:Int))=false:=by simp
 rw [hsz];simp only [Bool.false_eq_true,if_false];show wpAny _ _ (seqItems? (.ref T) >>= _) _ _ s;refine wpAny_bind (wpAny_seqItems hoT mw ?_);dsimp only;have hpl:((ps.map fun (i:Nat)=>rawInt i).toArray)[(es.size:Int).toNat]?=none:=by
  rw [A1,List.getElem?_toArray];exact List.getElem?_eq_none (by rw [AM,hp];exact AR _)
 rw [hpl];dsimp only;refine wpAny_bind (wpAny_setField ho hd (by simp) ?_);have hg1:=Heap.get?_update_self (h:=s.heap) (a:=it) (o:=o) (Obj.mapFields (·.setIfInBounds 0 (rawInt 0))) ho (Obj.isFreed_of_fields (Obj.data_mapFields hd _));refine wpAny_bind (wpAny_setField hg1 (Obj.data_mapFields hd _) (by simp) ?_);show wpAny _ _ (newExc (.type "StopIteration") [] >>= _) _ _ _;refine wpAny_bind ?_;simp only [newExc,newTuple];refine wpAny_bind (wpAny_newObj_type ?_ (by size_fits));refine wpAny_bind (m:=firstArgMember _ _) (wpAny_of_eq (a:=Value.none) (by first|rfl|(simp only [firstArgMember];rfl)) ?_);refine wpAny_newObj_type ?_ (by size_fits);simp only [raiseNew];refine wpAny_bind (wpAny_handled ?_);first|rw [show A.in1.handled=none from hh]|rw [hh]
 refine wpAny_bind (wpAny_pure (wpAny_throw ?_));refine wpAny_bind (wpAny_isInstance (T:="StopIteration") (b:=true) ⟨_,AO _ rfl,rfl⟩ isSubtype_stop ?_);exact wpAny_pure (hQ _ ((((Heap.SameBut.update ..).trans (Heap.SameBut.update ..)).extBut.push _).push _))
end
theorem G4.keep {T:Addr} {ps:List Nat} (S:G4 h T ps) (k:∀ o,h.get? T=some o->h'.get? T=some o):G4 h' T ps:=let ⟨o,m,ho,r⟩:=S;⟨o,m,k o ho,r⟩
variable {A:Around}
theorem wT {prog:Program} (hh:A.handled=none) (I a:Addr) (Cq:a≠I) (es:Array (Int×Value)) (ep:Nat) (t:SetTable) (hm:w.params.followText "set-order"=true\/t.plain=true\/es.size<=1) :
  Walks prog w A I [I,a] [I] es.size (fun i v=>∃ x,(CV w a ep es)[i]?=some x/\v=x.2) (fun i h=>(∃ slot,DA h I a slot i es.size ep/\iX w t i slot)/\Fb prog w h a es ep t) where
 sub:=fun b hb=>by simp at hb;simp [hb]
 frame:=fun _ _ _ st hk=>⟨let ⟨sl,⟨o,ho,r⟩,r2⟩:=st.1;⟨sl,⟨o,hk I (by simp) o ho,r⟩,r2⟩,st.2.keep fun o e=>hk a (by simp) o e⟩
 item:=fun i s Q E hi st hQ=>by
  obtain ⟨⟨sl,h1,h2⟩,h3⟩:=st;refine nF h1 h3 hm hi h2 fun h' sl' x hx hit' hs' hsb=>?_;exact hQ _ h' s.toks ⟨_,hx,rfl⟩ ⟨⟨sl',hit',hs'⟩,h3.keep fun o e=>hsb.extBut a o Cq e⟩ fun b o hb e=>hsb.extBut b o (fun h=>hb (by simp [h])) e
 done:=fun s Q E st hQ=>by
  obtain ⟨⟨sl,h1,h2⟩,h3⟩:=st;exact qk hh h1 h3 hm h2 fun h' he'=>hQ h' s.toks fun b o hb e=>he' b o (fun h=>hb (by simp [h])) e
 self:=fun _ _ _ _ st hQ=>by
  obtain ⟨⟨sl,h1,h2⟩,h3⟩:=st;refine wpAny_pyIter_slot h1.typeIs CU (wpAny_call_entry CU h1.typeIs Dd ?_ (Dg _));show wpAny _ _ (ret (.ref I)) _ _ _;exact wpAny_pure ⟨_,rfl,"set_iterator",_,h1.typeIs,CA.lookup,hQ⟩
theorem sH {es:Array (Int×Value)}:∀ {l:List Nat},(∀ p∈l,p < es.size)->l.filterMap (es[·]?)=l.map (fun p=>es.getD p (0,.none))
 | [],_=>rfl
 | p::l,h=>by
  have hp:=h p AX;rw [List.filterMap_cons_some (b:=es.getD p (0,.none)) (by simp [hp]),BB,sH fun q hq=>h q (A2 _ hq)]
theorem wU {prog:Program} {w:World} (hh:A.handled=none) (I a T:Addr) (Cq:a≠I) (hne2:T≠I) (es:Array (Int×Value)) (ep:Nat) (t:SetTable) (ps:List Nat) (hp:ps.Perm (List.range es.size)) :
  Walks prog w A I [I,a,T] [I] es.size (fun i v=>∃ x,((ps.filterMap (es[·]?)))[i]?=some x/\v=x.2) (fun i h=>Ed h I a T i es.size ep/\G4 h T ps/\Fb prog w h a es ep t) where
 sub:=fun b hb=>by simp at hb;simp [hb]
 frame:=fun _ _ _ st hk=>⟨let ⟨o,ho,r⟩:=st.1;⟨o,hk I (by simp) o ho,r⟩,st.2.1.keep fun o e=>hk T (by simp) o e,st.2.2.keep fun o e=>hk a (by simp) o e⟩
 item:=fun i s Q E hi st hQ=>by
  have hpl:ps.length=es.size:=by rw [hp.length_eq,List.length_range]
  have Cu:i < ps.length:=by lia
  have hpi:ps[i] < es.size:=A3.mp (hp.subset (Bq Cu));have hfm:=sH (es:=es) (fun p hp'=>A3.mp (hp.subset hp'):∀ p∈ps,p < es.size);refine nG st.1 st.2.1 st.2.2 (AL Cu) (Array.getElem?_eq_getElem hpi) fun h' hit' hsb=>?_;refine hQ _ h' s.toks ⟨es[ps[i]],?_,rfl⟩ ⟨hit',st.2.1.keep fun o e=>hsb.extBut T o hne2 e,st.2.2.keep fun o e=>hsb.extBut a o Cq e⟩ fun b o hb e=>hsb.extBut b o (fun h=>hb (by simp [h])) e;rw [hfm,A5,AL Cu];simp [hpi]
 done:=fun s Q E st hQ=>ql hh st.1 st.2.1 st.2.2 (by rw [hp.length_eq,List.length_range]) fun h' he'=>hQ h' s.toks fun b o hb e=>he' b o (fun h=>hb (by simp [h])) e
 self:=fun _ _ _ _ st hQ=>by
  refine wpAny_pyIter_slot st.1.typeIs CU (wpAny_call_entry CU st.1.typeIs Dd ?_ (Dg _));show wpAny _ _ (ret (.ref I)) _ _ _;exact wpAny_pure ⟨_,rfl,"set_iterator",_,st.1.typeIs,CA.lookup,hQ⟩
structure yo (prog:Program) (w:World) (h:Heap) (a:Addr) (es:Array (Int×Value)) (h1:Heap) (I:Addr):Prop where
 keep:∀ b o,h.get? b=some o->h1.get? b=some o
 size:h.objs.size<=h1.objs.size
 it:h.objs.size<=I
 walk:∃ (ord:List (Int×Value)) (fp:List Addr) (St:Nat->Heap->Prop),ord.Perm es.toList/\(∀ b∈fp,b=a\/h.objs.size<=b)/\St 0 h1 /\
  ∀ A:Around,A.handled=none->Walks prog w A I fp [I] es.size (fun i v=>∃ x,ord[i]?=some x/\v=x.2) St
section
variable {prog:Program} {w:World} {A:Around} {E:Value->Shared->Prop} {s:Shared}
theorem uD {es:Array (Int×Value)} {Q:Value->Shared->Prop} (S:Fb prog w s.heap a es ep t) (hz:es.size<=1000)
  (hQ:∀ h1 I d,yo prog w s.heap a es h1 I->Q (.ref I) { s with heap:=h1,drawn:=d }):wpAny (model prog w) A (pyIter (.ref a)) Q E s:=by
 obtain ⟨o,ho,hex,hd⟩:=S.at_;have hf:=S.fits;have hT:s.TypeIs (.ref a) "set":=⟨o,ho,hex.1⟩;have ha:a < s.heap.objs.size:=AQ ho;refine wpAny_pyIter_slot hT PySem.F.slot_set_iter (wpAny_call_entry PySem.F.slot_set_iter hT DB ?_ (PySem.F.args_set_iter_1 _));unfold Builtin.«frozenset.__iter__» Builtin.Frozenset.slot0 slotArgs;simp only [List.isEmpty_nil,Bool.not_true,Bool.false_eq_true,↓reduceIte,bind_assoc,List.length_nil,bne_self_eq_false];unfold Builtin.Frozenset.addrOf Builtin.Frozenset.sizeOf;refine wpAny_bind (wpAny_pure ?_);try dsimp only
 refine wpAny_bind (wpAny_pure ?_);refine wpAny_bind (wpAny_bind (wpAny_setEntries_of ho hd hf (wpAny_pure ?_)));unfold setDrawn;refine wpAny_bind (wpAny_bind (wpAny_setState_of ho hd hf ?_));dsimp only;unfold setsByText;refine wpAny_bind (wpAny_bind (wpAny_askSetting (wpAny_pure ?_)));refine wpAny_pure ?_;split
 ·rename_i hzz;refine wpAny_bind ?_;refine dW es.size (List.range es.size) s (by simp) fun ps d hp=>?_;refine wpAny_bind (wpAny_newTuple ?_ (by rw [AM,hp.length_eq,List.length_range];exact A8 hz zd));refine wpAny_bind (wpAny_setEpoch_of (s:={ s with heap:=s.heap.push { cls:=.type "tuple",data:=.seq ((ps.map fun (i:Nat)=>rawInt i)).toArray },drawn:=d }) (AK _ ho) hd hf ?_);refine wpAny_bind (wpAny_newObj_type (wpAny_pure ⟨_,rfl,"set_iterator",_,⟨_,AO _ rfl,rfl⟩,CA.lookup,?_⟩));have Cq:a≠(s.heap.push { cls:=.type "tuple",data:=.seq ((ps.map fun (i:Nat)=>rawInt i)).toArray }).objs.size:=by rw [Bb];exact AW (Nat.lt_succ_of_lt ha)
  have hne2:s.heap.objs.size≠(s.heap.push { cls:=.type "tuple",data:=.seq ((ps.map fun (i:Nat)=>rawInt i)).toArray }).objs.size:=by rw [Bb];exact AW (BI _)
  refine hQ _ _ d ⟨fun b o e=>AK _ (AK _ e),by rw [Bb,Bb];lia,by rw [Bb];lia,_,_,_,?_,?_,?_,fun A' hh=>wU hh _ a s.heap.objs.size Cq hne2 es ep t ps hp⟩
  ·have:=hp.filterMap (es[·]?);rw [filterMap_getElem?_range] at this;exact this
  ·intro b hb;simp only [AZ,BN,or_false] at hb;rcases hb with rfl|rfl|rfl
   ·right;rw [Bb];lia
   ·left;rfl
   ·right;exact AR _
  ·exact ⟨⟨_,AO _ rfl,rfl,rfl⟩,⟨_,_,AK _ (AO _ rfl),rfl⟩,S.keep fun o e=>AK _ (AK _ e)⟩
 ·rename_i hzz;have hm:w.params.followText "set-order"=true\/t.plain=true\/es.size<=1:=by
   cases hb:w.params.followText "set-order" with
   | true=>exact .inl rfl
   | false=>
    right;by_cases h1:es.size<=1
    ·exact .inr h1
    ·left;cases hp:t.plain with
     | true=>rfl
     | false=>
      refine absurd ?_ hzz;show (!(w.params.followText "set-order") && (!t.plain && decide (es.size > 1)))=true;rw [hb,hp];simp;lia
  refine wpAny_bind (wpAny_pure ?_);refine wpAny_bind (wpAny_setEpoch_of ho hd hf ?_);refine wpAny_bind (wpAny_newObj_type (wpAny_pure ⟨_,rfl,"set_iterator",_,⟨_,AO _ rfl,rfl⟩,CA.lookup,?_⟩));have Cq:a≠s.heap.objs.size:=AW ha;refine hQ _ _ s.drawn ⟨fun b o e=>AK _ e,by rw [Bb];lia,AR _,(CV w a ep es).toList,[s.heap.objs.size,a],(fun i h=>(∃ slot,DA h s.heap.objs.size a slot i es.size ep/\iX w t i slot)/\Fb prog w h a es ep t),Do w a ep es,?_,?_,fun A' hh=>?_⟩
  ·intro b hb;simp only [AZ,BN,or_false] at hb;rcases hb with rfl|rfl
   ·right;exact AR _
   ·left;rfl
  ·exact ⟨⟨0,⟨_,AO _ rfl,rfl,rfl⟩,.inr fun k _=>⟨fun h=>absurd h (Nat.not_lt_zero _),fun h=>absurd h (Nat.not_lt_zero _)⟩⟩,S.keep fun o e=>AK _ e⟩
  ·have hw:=wT (prog:=prog) hh s.heap.objs.size a Cq es ep t hm;have e:(fun (i:Nat) (v:Value)=>∃ x:Int×Value,(CV w a ep es)[i]?=some x/\v=x.2)=fun (i:Nat) (v:Value)=>∃ x:Int×Value,(CV w a ep es).toList[i]?=some x/\v=x.2:=by
    funext i v;rw [Array.getElem?_toList]
   rw [e] at hw;exact hw
theorem nH {es:Array (Int×Value)} {Q:List Value->Shared->Prop} (hh:A.handled=none) (S:Fb prog w s.heap a es ep t) (hz:es.size<=1000)
  (hQ:∀ s' (acc:Array Value) (ord:List (Int×Value)),(∀ b o,s.heap.get? b=some o->s'.heap.get? b=some o)->s.heap.objs.size<=s'.heap.objs.size->s'.gens=s.gens->s'.os=s.os->ord.Perm es.toList->ItemsOf (fun i v=>∃ x,ord[i]?=some x/\v=x.2) acc es.size->Q acc.toList s') :
  wpAny (model prog w) A (collect (.ref a)) Q E s:=by
 have hn:es.size<=sizeLine:=A8 hz zd;unfold collect;refine wpAny_bind (wpAny_runValue (codeAny_builtin PySem.F.entry_proto_collect ?_));rw [Around.under_plainId PySem.F.plain_proto_collect _];show wpAny _ A.in1 (newList [] >>= fun l=>again (.builtin "list.__iadd__" ⟨[l,.ref a],[]⟩)) _ _ s;refine wpAny_bind (wpAny_newObj_type ?_);refine wpAny_pure ⟨plainId_quiet PySem.F.plain_list_iadd _,codeAny_builtin PySem.F.entry_list_iadd ?_⟩;rw [Around.under_plainId PySem.F.plain_list_iadd _];show wpAny _ A.in1 (Builtin.List.listExtendWith (.ref s.heap.objs.size) (.ref a) (.ref s.heap.objs.size)) _ _ _;unfold Builtin.List.listExtendWith;obtain ⟨o,ho,hex,hd⟩:=id S.at_;have ha:a < s.heap.objs.size:=AQ ho;have S1:Fb prog w (s.heap.push { cls:=.type "list",data:=.seq ([]:List Value).toArray }) a es ep t:=S.keep fun o e=>AK _ e;have hT:Shared.TypeIs { s with heap:=s.heap.push { cls:=.type "list",data:=.seq ([]:List Value).toArray } } (.ref a) "set":=⟨o,AK _ ho,hex.1⟩;refine wpAny_bind (wpAny_typeOf (T:="set") (v:=.ref a) hT ?_);have h1:Builtin.List.listSameRef (.ref s.heap.objs.size) (.ref a)=false:=by
  show (s.heap.objs.size == a)=false;have:¬ s.heap.objs.size=a:=BV ha;simpa using this
 have h2:(Value.type "set" == Value.type "list")=false:=by decide
 have h3:(Value.type "set" == Value.type "tuple")=false:=by decide
 simp only [h1,h2,h3,Bool.or_false,Bool.false_eq_true,if_false];refine wpAny_bind (uD S1 hz fun hq I d B=>?_);have ho1:=B.keep _ _ (AK { cls:=.type "list",data:=.seq ([]:List Value).toArray } ho);refine wpAny_bind (wpAny_holding ?_);unfold Builtin.List.listLengthHint;refine wpAny_bind (wpAny_specialOf (T:="set") (v:=.ref a) ⟨o,ho1,hex.1⟩ DY ?_)
 wp_delta
 refine wpAny_bind (wpAny_isInstance (T:="set") (v:=.ref a) (b:=true) ⟨o,ho1,hex.1⟩ (by rw [isSubtype_type];kernel_rfl) ?_);show wpAny _ A.in1 (typeOf (Value.ref a) >>= _) _ _ _;refine wpAny_bind (wpAny_typeOf (T:="set") (v:=.ref a) ⟨o,ho1,hex.1⟩ ?_);refine wpAny_pure ?_;split
 ·refine wpAny_bind (wpAny_rule ?_);obtain ⟨keepB,sizeB,itB,ord,fp,St,hperm,hfp,hst0,hW⟩:=B;rw [Bb] at sizeB itB hfp;have hS:hq.get? s.heap.objs.size=some { cls:=.type "list",data:=.seq ([]:List Value).toArray }:=keepB _ _ (AO _ rfl);unfold Builtin.List.listTouch;refine wpAny_bind (wpAny_bind (listUpdate_at hS rfl ?_ (by size_fits) (by size_fits)));have hS1:=get?_update_seq (n:=0) hS (·.push .none);refine listUpdate_at hS1 rfl ?_ (by simp;exact A8 (by decide:1<=2) zd) (by simp);have hS2:=get?_update_seq hS1 (·.pop);have sb:Heap.SameBut s.heap.objs.size hq ((hq.update s.heap.objs.size (Obj.mapSeq (·.push .none))).update s.heap.objs.size (Obj.mapSeq (·.pop))):=(Heap.SameBut.update ..).trans (Heap.SameBut.update ..);generalize (hq.update s.heap.objs.size (Obj.mapSeq (·.push .none))).update s.heap.objs.size (Obj.mapSeq (·.pop))=H2 at *;have hSf:s.heap.objs.size∉fp:=fun hm=>by
   rcases hfp _ hm with z|z
   ·exact absurd z (BV ha)
   ·lia
  have hst:St 0 H2:=(hW A.in1 hh).frame 0 hq H2 hst0 fun b hb o e=>sb.extBut b o (fun z=>hSf (z ▸ hb)) e;refine wpAny_pure ⟨plainId_quiet PySem.F.plain_extend_loop _,codeAny_extend_loopS (hW A.in1 hh).toS hn _ hSf _ es.size 0 _ _ _ rfl (Bv _) hst hS2 (ItemsOf.nil _) fun s' acc' c' hm hS' hacc=>?_⟩;show wpAny _ A (load s.heap.objs.size >>= _) _ _ s';refine wpAny_bind (wpAny_load hS' ?_);refine wpAny_pure (hQ s' acc' ord (fun b ob e=>hm.heap b ob (fun hb=>?_) (sb.extBut _ _ (AW (AQ e)) (keepB _ _ (AK _ e)))) (Cb (AQ hS')) hm.gens hm.os hperm hacc);have Cu:=AQ e;rcases AZ.mp hb with h|h
  ·exact absurd Cu (h ▸ BO _)
  ·rw [AU.mp h] at Cu;exact absurd Cu (Nat.not_lt.mpr (A8 (BS _) itB))
 ·rename_i hz;exact absurd zk hz
theorem fP (h:Gu prog w es ss):∀ {l:List (Int×Value)},(∀ e∈l,e∈es)->IntsAre (l.map (·.2)) (l.map gI)
 | [],_=>.nil
 | e::l,hl=>by
  obtain ⟨t,z⟩:=h.is (hl e AX);rw [BB,BB,z];exact .cons _ _ (fP h fun x hx=>hl x (A2 _ hx))
theorem qm {Q:Value->Shared->Prop} (hh:A.handled=none) (S:Ds prog w s.heap a ss) (hz:ss.length < 64)
  (h:∀ (s':Shared) (D:Addr) (out:Array Value) (c:Nat) (ss':List Int),(∀ b o,s.heap.get? b=some o->s'.heap.get? b=some o)->s'.gens=s.gens->s'.os=s.os->s.heap.objs.size<=D->s'.heap.get? D=some (seqObj "list" out c)->
   IntsAre out.toList ss'->ss'.Perm ss->ss'.Pairwise (·<=·)->Q (.ref D) s'):wpAny (model prog w) A (call (.builtin "sorted") [.ref a]) Q E s:=by
 obtain ⟨o,es,ep,t,ho,hex,hd,hf,hl,hp,hE⟩:=S;have hn:es.size=ss.length:=by rw [<-hE.2.1.length_eq,AM,A0]
 have S1:Fb prog w s.heap a es ep t:=⟨⟨o,ho,hex,hd⟩,hf,hl,hp⟩;refine Calls.call_function_entry kind_sorted plain_sorted entry_sorted (args_sorted1 _) ?_;unfold Builtin.«sorted»;refine wpAny_bind (m:=checkCount "sorted" 1 1 _) (wpAny_pure ?_);refine wpAny_bind (nH hh S1 (by lia) fun s1 acc ord keep hsz hg hos hperm hacc=>?_);have hord:ord.length=es.size:=by simpa using hperm.length_eq
 have eacc:acc.toList=ord.map (·.2):=by
  refine Ex (f:=fun _=>none) ?_;rw [hord];exact hacc
 have hI:IntsAre acc.toList (ord.map gI):=by
  rw [eacc];exact fP hE fun e he=>hperm.subset he
 have hpp:(ord.map gI).Perm ss:=(hperm.map gI).trans hE.2.1;have hz':acc.toList.length < 64:=by rw [eacc,AM];lia
 refine wpAny_bind (wpAny_newList ?_ (A8 (Cb hz') zd));have hoL:(s1.heap.push (seqObj "list" acc.toList.toArray 0)).get? s1.heap.objs.size=some (seqObj "list" acc.toList.toArray 0):=AO _ rfl;show wpAny _ _ _ _ _ { s1 with heap:=s1.heap.push (seqObj "list" acc.toList.toArray 0) };refine wpAny_bind (wpAny_holding (wpAny_call_entry slot_list_sort ⟨_,hoL,rfl⟩ entry_list_sort (list_sort_tree hoL hI (by lia) fun out ns' a1 a2 a3=>⟨_,rfl,?_⟩) (args_list_sort _)));have Cu:s1.heap.objs.size < (s1.heap.push (seqObj "list" acc.toList.toArray 0)).objs.size:=AQ hoL;obtain ⟨c,hc⟩:=sortedHeap_at (out:=out) hoL;refine wpAny_pure ⟨_,rfl,h _ _ out c ns' (fun b o e=>?_) hg hos hsz hc a1 (a2.trans hpp) a3⟩;have hb:=AQ (keep b o e);show (sortedHeap _ _ _ _).get? b=some o;rw [sortedHeap_old (AW hb) (Nat.lt_trans hb Cu)];exact AK _ (keep b o e)
end
variable {s s':Shared} {H:Hp} {σ:St} {Cj:List (Addr×Obj)} {X:Cx}
theorem CB.drew (I:CB X Cj σ H s) (h1:s'.heap=s.heap) (h2:s'.gens=s.gens) (h3:s'.os=s.os):CB X Cj σ H s':=by
 obtain ⟨h',g',d',t',o'⟩:=s';obtain ⟨h,g,d,t,o⟩:=s;dsimp only at h1 h2 h3;subst h1 h2 h3;exact ⟨I.ok,I.os,I.bare,I.base,I.loc,I.cell,I.free,I.freeC,I.pin,I.hok,I.len⟩
def lQ (P:Program) (w:World) (a:Addr) (ss:List Int):HO:=.ext fun h=>Ds P w h a ss
section
variable {X:Cx}
theorem qo (hc:X.calm=true):bJ X (.type "set") (fun xs H Q=>∃ (l:Addr) (ss:List Int),xs=[.ref l]/\Cz X.K H l (ss.map V.int)/\ss.length<=60/\∀ a,H a=none->Q (.ref a) (aB H a (lQ X.prog X.w a (dk ss)))):=by
 intro Cj s σ H xs us Q I r h;obtain ⟨l,ss,rfl,hS,h2,q⟩:=h;obtain ⟨u,rfl,rx⟩:=cK r;cases rx;obtain ⟨its,rv,pl,hz⟩:=I.list hS;refine lP (ns:=ss) (I.ok.hd hc) pl.isList (by simpa using cm rv) (by unfold scanBound;lia) fun h' tk S keep=>?_;have hk:∀ b o,s.heap.get? b=some o->h'.get? b=some o:=fun b o e=>keep b o (AQ e) e;refine ⟨.ref s.heap.objs.size,_,I.laid (t':=tk) (a:=s.heap.objs.size) (o:=lQ X.prog X.w s.heap.objs.size (dk ss)) hk (AR _) ?_,rfl,q _ (I.hok.fresh (AR _))⟩;obtain ⟨o,es,ep,t,ho,hr⟩:=id S;exact ⟨S,⟨o,ho⟩,fun h1 h2 S1 k=>S1.keep k⟩
theorem js (hc:X.calm=true):bJ X (.builtin "sorted") (fun xs H Q=>∃ (a:Addr) (ss:List Int),xs=[.ref a]/\H a=some (lQ X.prog X.w a ss)/\ss.length<=60/\∀ (p:Addr) (ss':List Int),H p=none->ss'.Perm ss->ss'.Pairwise (·<=·)->Q (.ref p) (aB H p (.lst (ss'.map V.int)))):=by
 intro Cj s σ H xs us Q I r h;obtain ⟨a,ss,rfl,hS,h2,q⟩:=h;obtain ⟨u,rfl,rx⟩:=cK r;cases rx;obtain ⟨S,_,_⟩:=(show CO X.prog X.w H s.heap a (lQ X.prog X.w a ss) from I.hok a _ hS);refine qm (I.ok.hd hc) S (by lia) fun s' D out c ss' keep hg hos hD hout hI hp hs=>?_;have I1:CB X Cj σ (aB H D (.lst (ss'.map V.int))) { s with heap:=s'.heap,toks:=s'.toks }:=I.laid (t':=s'.toks) (a:=D) (o:=.lst (ss'.map V.int)) keep hD (by
  refine ⟨?_,out.toList,c,cX hI,?_⟩
  ·rw [AM,hp.length_eq];exact A8 h2 zd
  ·have:=hout;simpa [seqObj] using this)
 exact ⟨.ref D,_,I1.drew rfl hg hos,rfl,q _ ss' (I.hok.fresh hD) hp hs⟩
end
section
variable {prog:Program} {w:World} {A:Around} {R:Result->Shared->Prop} {it ax S:Addr} {vs:List Value} {ns:List Int} {kw:List (Str×Value)}
def vk (ns:List Int) (m:Int):Prop:=m∈ns/\∀ x∈ns,m<=x
theorem dP:(toString "min"++toString ".loop":String)="min.loop":=by decide
theorem sI {l:List Int} {b x:Int} (h:vk l b):vk (l++[x]) (if x < b then x else b):=by
 obtain ⟨h1,h2⟩:=h;by_cases c:x < b
 ·rw [if_pos c];refine ⟨by simp,fun y hy=>?_⟩;rcases BA.mp hy with z|z
  ·have:=h2 y z;lia
  ·have:y=x:=by simpa using z
   lia
 ·rw [if_neg c];refine ⟨BL _ h1,fun y hy=>?_⟩;rcases BA.mp hy with z|z
  ·exact h2 y z
  ·have:y=x:=by simpa using z
   lia
theorem uE (hh:A.handled=none) (Cq:ax≠it) (hS:S∉[it,ax]) (hi:IntsAre vs ns):∀ (k j:Nat) (s:Shared) (b:Int) (t:Tok) (c:Nat),vs.length - j=k->j<=vs.length->vk (ns.take j) b->
  (s.heap.IsListIter it ax j/\s.heap.IsList ax vs.toArray)->s.heap.get? S=some (G8 (.int b t) c)->
  (∀ m t' h' tk,vk ns m->(∀ b o,b≠it->b≠S->s.heap.get? b=some o->h'.get? b=some o)->R (.ok (.ret (.int m t'))) { s with heap:=h',toks:=tk })->codeAny (model prog w) A (.builtin "min.loop" ⟨[.ref it,.none,.ref S],kw⟩) R s:=by
 have W:=Walks.list (prog:=prog) (w:=w) (A:=A.in1) hh it ax Cq vs.toArray;have Ck:=hi.length;have cmp:=CmpOf.ints_lt (prog:=prog) (w:=w) (A:=A.in1) (P:=fun i v=>vs.toArray[i]?=some v) (fun i=>ns.getD i 0) (fun i v h=>Ec hi i v h);have nw:S∉[it]:=fun z=>hS (by simp at z;simp [z]);intro k;induction k with
 | zero=>
  intro j s b t c hk hj hb st oS hR;have ej:j=vs.toArray.size:=by rw [AV];lia
  refine codeAny_builtin F.entry_min_loop ?_;rw [Around.under_plainId F.plain_min_loop _];show wpAny _ A.in1 (seqItems? (.ref S) >>= _) _ _ s;refine wpAny_bind (wpAny_seqItems oS rfl ?_);show wpAny _ A.in1 (tryCatch (pyNext (.ref it)) _ >>= _) _ _ s;refine wpAny_bind (wpAny_tryCatch (W.done s _ _ (ej ▸ st) fun h' tk keep=>?_));have oS':=keep S _ nw oS;show wpAny _ A.in1 (updateSeq S (fun _=>#[]) >>= _) _ _ _;refine wpAny_bind (wpAny_updateSeq oS' rfl (wpAny_bind (wpAny_letGo (wpAny_pure ?_))));rw [Bi (by lia)] at hb;exact hR b t _ tk hb fun a o ha hs e=>(Heap.get?_update_other _ _ (Ne.symm hs)).trans (keep a o (by simpa using ha) e)
 | succ k ih=>
  intro j s b t c hk hj hb st oS hR;have Cu:j < vs.toArray.size:=by rw [AV];lia
  refine codeAny_builtin F.entry_min_loop ?_;rw [Around.under_plainId F.plain_min_loop _];show wpAny _ A.in1 (seqItems? (.ref S) >>= _) _ _ s;refine wpAny_bind (wpAny_seqItems oS rfl ?_);show wpAny _ A.in1 (tryCatch (pyNext (.ref it)) _ >>= _) _ _ s;refine wpAny_bind (wpAny_tryCatch (W.item j s _ _ Cu st fun v h' tk hP st' keep=>?_));have oS':=keep S _ nw oS;obtain ⟨tv,rfl⟩:=Ec hi j v hP;have et:ns.take (j+1)=ns.take j++[ns.getD j 0]:=by
   have:j < ns.length:=by simp at Cu;lia
   rw [By];simp [List.getD,this]
  have hb':=sI (x:=ns.getD j 0) hb;rw [<-et] at hb';have more:∀ a o,a≠it->a≠S->s.heap.get? a=some o->h'.get? a=some o:=fun a o ha _ e=>keep a o (by simpa using ha) e;show wpAny _ A.in1 (tryCatch (holding [Value.int (ns.getD j 0) tv,.int (ns.getD j 0) tv] (richCompare .Lt (.int (ns.getD j 0) tv) (.int b t) >>= _)) _ >>= _) _ _ _;refine wpAny_bind (wpAny_tryCatch (wpAny_holding (wpAny_bind ?_)));obtain ⟨i,hiN,ei⟩:∃ i,i < ns.length/\ns.getD i 0=b:=by
   obtain ⟨i,h1,h2⟩:=Ca (List.mem_of_mem_take hb.1);exact ⟨i,h1,by simp [List.getD,h1,h2]⟩
  have key:∀ (Q:Value->Shared->Prop) (E:Value->Shared->Prop) (s:Shared),Q (.bool (decide (ns.getD j 0 < b))) s->wpAny (model prog w) A.in1 (richCompare .Lt (.int (ns.getD j 0) tv) (.int b t)) Q E s:=fun Q E s hq=>by
   have c2:=CmpOf.ints_lt (prog:=prog) (w:=w) (A:=A.in1) (P:=fun (i:Nat) v=>v=(if i=0 then Value.int (ns.getD j 0) tv else .int b t)) (fun i=>if i=0 then ns.getD j 0 else b) (fun i v h=>by
    subst h;by_cases z:i=0
    ·exact ⟨tv,by simp [z]⟩
    ·exact ⟨t,by simp [z]⟩)
   exact c2 0 1 _ _ s Q E (by simp) (by simp) (by simpa using hq)
  refine key _ _ _ (wpAny_bind (wpAny_holding (wpAny_truthy_bool (wpAny_bind (wpAny_letGo (wpAny_pure ?_))))));by_cases hgt:ns.getD j 0 < b
  ·rw [if_pos hgt] at hb';rw [if_pos (decide_eq_true hgt)];refine wpAny_bind (wpAny_updateSeq oS' rfl (wpAny_bind (wpAny_letGo ?_)));rw [dP];refine wpAny_pure ⟨plainId_quiet F.plain_min_loop _,ih (j+1) _ (ns.getD j 0) tv _ (by lia) (by simp at Cu;lia) hb' ?_ (Heap.get?_update_self _ oS' rfl) fun m t' g tk' hm kk=>?_⟩
   ·exact W.frame _ _ _ st' fun a ha o e=>(Heap.get?_update_other _ _ (fun z:S=a=>hS (by rw [z];exact ha))).trans e
   ·exact hR m t' g tk' hm fun a o ha hs e=>kk a o ha hs ((Heap.get?_update_other _ _ (Ne.symm hs)).trans (more a o ha hs e))
  ·rw [if_neg hgt] at hb';rw [if_neg (by rw [decide_eq_false hgt];exact AS)];refine wpAny_bind (wpAny_letGo ?_);rw [dP];refine wpAny_pure ⟨plainId_quiet F.plain_min_loop _,ih (j+1) _ b t c (by lia) (by simp at Cu;lia) hb' st' oS' fun m t' g tk' hm kk=>?_⟩;exact hR m t' g tk' hm fun a o ha hs e=>kk a o ha hs (more a o ha hs e)
theorem sJ (hh:A.handled=none) (Cq:ax≠it) (hS:S∉[it,ax]) (hi:IntsAre vs ns) (h0:0 < vs.length) {c:Nat} (st:s.heap.IsListIter it ax 0/\s.heap.IsList ax vs.toArray) (oS:s.heap.get? S=some (GS c))
  (hR:∀ m t' h' tk,vk ns m->(∀ b o,b≠it->b≠S->s.heap.get? b=some o->h'.get? b=some o)->R (.ok (.ret (.int m t'))) { s with heap:=h',toks:=tk }):codeAny (model prog w) A (.builtin "min.loop" ⟨[.ref it,.none,.ref S],kw⟩) R s:=by
 have W:=Walks.list (prog:=prog) (w:=w) (A:=A.in1) hh it ax Cq vs.toArray;have Ck:=hi.length;have nw:S∉[it]:=fun z=>hS (by simp at z;simp [z]);refine codeAny_builtin F.entry_min_loop ?_;rw [Around.under_plainId F.plain_min_loop _];show wpAny _ A.in1 (seqItems? (.ref S) >>= _) _ _ s;refine wpAny_bind (wpAny_seqItems oS rfl ?_);show wpAny _ A.in1 (tryCatch (pyNext (.ref it)) _ >>= _) _ _ s;refine wpAny_bind (wpAny_tryCatch (W.item 0 s _ _ (by simpa using h0) st fun v h' tk hP st' keep=>?_));have oS':=keep S _ nw oS;obtain ⟨tv,rfl⟩:=Ec hi 0 v hP;have e1:vk (ns.take 1) (ns.getD 0 0):=by
  cases ns with
  | nil=>rw [Ck] at h0;exact absurd h0 (by simp)
  | cons n r=>exact ⟨by simp,fun x hx=>by simp at hx;simp [hx]⟩
 show wpAny _ A.in1 (updateSeq S (fun _=>#[Value.int (ns.getD 0 0) tv,.int (ns.getD 0 0) tv]) >>= _) _ _ _;refine wpAny_bind (wpAny_updateSeq oS' rfl ?_);rw [dP];refine wpAny_pure ⟨plainId_quiet F.plain_min_loop _,uE hh Cq hS hi _ 1 _ (ns.getD 0 0) tv _ rfl (by lia) e1 ?_ (Heap.get?_update_self _ oS' rfl) fun m t' g tk' hm kk=>?_⟩
 ·exact W.frame _ _ _ st' fun a ha o e=>(Heap.get?_update_other _ _ (fun z:S=a=>hS (by rw [z];exact ha))).trans e
 ·exact hR m t' g tk' hm fun a o ha hs e=>kk a o ha hs ((Heap.get?_update_other _ _ (Ne.symm hs)).trans (keep a o (by simpa using ha) e))
end
section
variable {prog:Program} {w:World} {A:Around} {E:Value->Shared->Prop} {s:Shared} {vs:List Value} {ns:List Int} {l:Addr} {Q:Value->Shared->Prop}
theorem uF (hh:A.handled=none) (hl:s.heap.IsList l vs.toArray) (hi:IntsAre vs ns) (h0:0 < vs.length) (h:∀ m t h' tk,vk ns m->(∀ b o,s.heap.get? b=some o->h'.get? b=some o)->Q (.int m t) { s with heap:=h',toks:=tk }):wpAny (model prog w) A (call (.builtin "min") [.ref l]) Q E s:=by
 have Cu:l < s.heap.objs.size:=let ⟨o,e,_⟩:=hl;AQ e;refine kmb_tree F.kind_min F.plain_min F.entry_min (F.args_min1 _) ?_;show wpAny _ A.in1 (Builtin.Builtins.bindParams "min" ["key","default"] 0 ⟨[],[]⟩ >>= _) _ _ s;refine wpAny_bind (wpAny_of_eq (show _=pure [none,none] from rfl) (wpAny_bind (wpAny_pure (wpAny_bind (wpAny_pyIter_list hl ?_)))));refine wpAny_bind (wpAny_newObj_type ?_);rw [dP];refine wpAny_pure ⟨plainId_quiet F.plain_min_loop _,sJ hh (AW Cu) ?_ hi h0 ⟨⟨_,AK _ (AO _ rfl),rfl,rfl⟩,hl.at fun o e=>AK _ (AK _ e)⟩ (AO _ rfl) fun m t h' tk hm kk=>h m t h' tk hm fun b o e=>?_⟩
 ·exact G1 Cu
 ·exact kk b o (AW (AQ e)) (Ge (AQ e)) (AK _ (AK _ e))
end
section
variable {X:Cx}
theorem qp (hc:X.calm=true):bJ X (.builtin "min") (fun xs H Q=>∃ (l:Addr) (ns:List Int),xs=[.ref l]/\Cz X.K H l (ns.map V.int)/\ns≠[]/\∀ m,vk ns m->Q (.int m) H):=by
 intro Cj s σ H xs us Q I r h;obtain ⟨l,ns,rfl,hS,h0,q⟩:=h;obtain ⟨u,rfl,rx⟩:=cK r;cases rx;obtain ⟨its,rv,pl,hz⟩:=I.list hS;have hi:=cm rv;refine uF (I.ok.hd hc) pl.isList hi (by rw [hi.length];exact B9.mpr h0) fun m t h' tk hm k=>⟨.int m,H,I.kept k,⟨t,rfl⟩,q m hm⟩
inductive yp (x:V) (vs:List V) (H:Hp) (Q:VK):Prop
 | mk (l xs y:_) (i:Int):x=.ref l->vs=[.int i,y]->H l=some (.lst xs)->0<=i->i<=xs.length->xs.length<=100000->Q .non (aB H l (.lst (xs.take i.toNat++y::xs.drop i.toNat)))->yp x vs H Q
theorem qq:zn X "list.insert" yp:=by
 intro Cj s σ H x vs v us Q I rx rv h;obtain ⟨l,xs,y,i,rfl,rfl,hH,h0,hi,h2,q⟩:=h;cases rx;have sz:(100001:Nat)<=sizeLine:=by decide
 obtain ⟨u1,u2,rfl,r1,r2⟩:=qX rv;obtain ⟨t,rfl⟩:=r1;obtain ⟨z,its,n,rr,hl,e⟩:=I.lstM hH;have fit:Builtin.List.listFitsIndex i=true:=fitsIndex_both (by lia) (by lia);refine call_meets PySem.F.slot_list_insert ⟨_,e,rfl⟩ PySem.F.entry_list_insert (PySem.F.args_list_insert_3 _ _ _) (PySem.AutoSeq1.list_insert_list_int_val_1 l its.toArray n i t u2 (by simp [fit]) (by rw [AV];lia)) ⟨e,?_⟩;have e1:(if i < 0 then (i+(its.toArray.size:Int)).toNat else min i.toNat its.toArray.size)=i.toNat:=by
  rw [if_neg (by lia),AV];lia
 refine ⟨.non,_,I.lset (its':=its.take i.toNat++u2::its.drop i.toNat) hH e ?_ ((rr.take i.toNat).append (.cons r2 (rr.drop i.toNat))) ?_,rfl,q⟩
 ·show (its.toArray.extract 0 (if i < 0 then (i+(its.toArray.size:Int)).toNat else min i.toNat its.toArray.size)).push u2++its.toArray.extract (if i < 0 then (i+(its.toArray.size:Int)).toNat else min i.toNat its.toArray.size)=_;rw [e1];apply Array.ext';simp;exact Bi (by rw [BG];lia)
 ·rw [AT,Bj,A7,BG];lia
end
def G0 (K:ZF) (H:Hp) (x y:V):Prop:=(x=y/\(dU x=true\/∃ a,x=.ref a))\/∃ d,Dt K H x d/\Dt K H y d/\d.canLay0=true/\d.depth<=50/\PyData.eqv d d=true
variable {x:V}
theorem sL (h:dU x=true):oq x x=true:=by
 cases x<;>first|rfl|(simp [oq];done)|cases h
theorem G0.at {x y:V} {u v:Value} (I:CB X Cj σ H s) (h:G0 X.K H x y) (rx:CG x u) (ry:CG y v) (hu:A.units+60 < cLine):SeqAt.EqAt A s u v true:=by
 rcases h with ⟨rfl,hf|⟨a,rfl⟩⟩|⟨d,h1,h2,c,dp,e⟩
 ·have:=rf (A:=A) (s:=s) rx ry hf hf;rw [sL hf] at this;exact this
 ·cases rx;cases ry;exact SeqAt.EqAt.same _
 ·obtain ⟨as,ra⟩:=h1.reads I rx;obtain ⟨bs,rb⟩:=h2.reads I ry;have:=SeqAt.eqAt_reads d d A s u v as bs ra rb c c (by lia);rw [e] at this;exact this
theorem fQ {α β:Type} {F:α->β->Prop}:∀ {xs:List α} {ys:List β},Paired F xs ys->∀ (j:Nat) (h1:j < xs.length) (h2:j < ys.length),F xs[j] ys[j]
 | _,_,.cons h t,0,_,_=>h
 | _,_,.cons h t,j+1,h1,h2=>fQ t j (by simpa using h1) (by simpa using h2)
theorem wV {k:Nat} (hr:CY k X.A):eG X (compareOp .NotEq) (fun x y H Q=>∃ p q xs ys,x=.ref p/\y=.ref q/\Cz X.K H p xs/\Cz X.K H q ys/\Paired (G0 X.K H) xs ys/\Q (.bl false) H):=by
 intro Cj s σ H x y v u Q I rx ry h;obtain ⟨p,q,xs,ys,rfl,rfl,h1,h2,hp,k⟩:=h;cases rx;cases ry;obtain ⟨its,rv,pl,_⟩:=I.list h1;obtain ⟨its2,rv2,pl2,_⟩:=I.list h2;have n1:=rv.length;have n2:=rv2.length;have n3:=hp.length;have hu:X.A.units+200 < cLine:=by have:=hr.un;lia
 have:=SeqAt.RcNeAt.lists (A:=X.A) (e:=fun _=>true) pl.isList pl2.isList (by rw [AV,AV];lia) (by lia) (fun j j1 j2=>by
  have a1:j < its.length:=by simpa using j1
  have a2:j < its2.length:=by simpa using j2
  have r1:=fQ rv j (by lia) a1;have r2:=fQ rv2 j (by lia) a2;have e:=fQ hp j (by lia) (by lia);have:=G0.at (A:=X.A.in1) I e r1 r2 (by show X.A.units+1+60 < cLine;lia);simpa using this)
 refine this X.prog X.w X.xe _ ?_;have e:(List.range its.toArray.size).all (fun _=>true)=true:=by rw [BC];intros;rfl
 rw [e];exact ⟨.bl false,H,I,rfl,k⟩
theorem uG {K:ZF} {l:Addr} {xs:List V} {g:TG} {tf:TT} {te:TE} {ix:List (Option Nat)} {σ:St} {Q:VK} (Pv:Nat->List V->Hp->Prop) (h0:Pv 0 [] H)
  (hl:∀ i ys H,i<=xs.length->Pv i ys H->Cz K H l xs/\ys.length<=sizeLine)
  (hs:∀ i x ys H T,xs[i]?=some x->H T=none->Pv i ys H->g (.ref T) (hX ix σ) (aB H T (.tup [.int i,x])) fun σ2 H2=>Ek (hX ix σ) σ2/\tf σ2 H2 fun b H3=>if b=true then te σ2 H3 fun y H4=>Nx Pv xs.length i (ys++[y]) H4 else Nx Pv xs.length i ys H3)
  (hd:∀ ys H,Pv xs.length ys H->∀ D,H D=none->Q (.ref D) (aB H D (.lst ys))):ll (G5 K l) g tf te ix σ H Q:=by
 refine ⟨fun i m ys H=>m=xs.length - i/\i<=xs.length/\Pv i ys H,⟨xs.length,by simp,Bv _,h0⟩,?_⟩;rintro i m ys H ⟨rfl,hi,p⟩;obtain ⟨q,hz⟩:=hl i ys H hi p;by_cases Cu:i < xs.length
 ·refine .inr ⟨⟨xs,xs[i],q,by simp [Cu]⟩,hz,fun v H' y=>?_⟩;obtain ⟨T,x,e1,hT,e2,hy⟩:=y;subst e1 e2;exact hs i x ys H T (hy xs q) hT p
 ·have e:i=xs.length:=by lia
  subst e;exact .inl ⟨⟨xs,q,AR _⟩,hz,hd ys H p⟩
theorem g0:isSubtype (.type "range_iterator") (.type "reversed")=pure false:=by rw [isSubtype_type];kernel_rfl
section
variable {prog:Program} {w:World} {A:Around} {E:Value->Shared->Prop} {s:Shared}
def yP (n:Nat) (t u v:Tok):Obj:={ cls:=.type "range",data:=.fields #[.int 0 t,.int n u,.int 1 v] }
def xn (n:Nat):Obj:={ cls:=.type "range_iterator",data:=.fields #[rawInt ((n:Int) - 1),rawInt n,rawInt (-1)] }
theorem kz {x y z:Int} {t u v:Tok} {Q:(Int×Int×Int)->Shared->Prop} (ho:s.heap.get? a=some { cls:=.type "range",data:=.fields #[.int x t,.int y u,.int z v] }) (h:Q (x,y,z) s):wpAny (model prog w) A (Builtin.Range.rangeFields (.ref a)) Q E s:=by
 unfold Builtin.Range.rangeFields;refine wpAny_bind (wpAny_field ho rfl (x:=.int x t) rfl ?_);refine wpAny_bind (wpAny_of_eq (a:=some x) rfl ?_);refine wpAny_bind (wpAny_field ho rfl (x:=.int y u) rfl ?_);refine wpAny_bind (wpAny_of_eq (a:=some y) rfl ?_);refine wpAny_bind (wpAny_field ho rfl (x:=.int z v) rfl ?_);refine wpAny_bind (wpAny_of_eq (a:=some z) rfl ?_);exact wpAny_pure h
theorem iZ {t u v:Tok} {Q:Value->Shared->Prop} (ho:s.heap.get? a=some (yP n t u v)) (hn:n < 2 ^ 62)
  (h:Q (.ref s.heap.objs.size) { s with heap:=s.heap.push (xn n) }):wpAny (model prog w) A (call (.builtin "range.__reversed__") [.ref a]) Q E s:=by
 refine wpAny_call_entry PySem.F.slot_range_reversed ⟨_,ho,rfl⟩ PySem.F.entry_range_reversed ?_ (PySem.F.args_range_reversed_1 _);unfold Builtin.«range.__reversed__»;refine wpAny_bind (wpAny_of_eq (a:=Value.ref a) rfl ?_);refine wpAny_bind (kz ho ?_);dsimp only;have e:Builtin.Range.rangeSize 0 (n:Int) 1=(n:Int):=by rw [rangeSize_one];split<;>lia
 have f:∀ i:Int,-(2 ^ 63)<=i->i < 2 ^ 63->Builtin.Range.rangeFitsLong i=true:=fun i h1 h2=>by
  unfold Builtin.Range.rangeFitsLong;rw [Bh];exact ⟨decide_eq_true h1,decide_eq_true h2⟩
 rw [e,f 0 zd zd,f n (by lia) (by lia),f 1 zd zd,f (-1) zd zd,f (0 - 1) zd zd];simp only [Bool.and_self,Bool.not_true,Bool.false_eq_true,if_false,if_true,↓reduceIte];refine wpAny_bind (wpAny_newObj_type (wpAny_pure ⟨_,rfl,?_⟩));have e2:(0:Int)+((n:Int) - 1)*1=(n:Int) - 1:=by lia
 rw [e2];exact h
theorem i7 {t u v:Tok} {Q₁:Value->Shared->Prop} (ho:s.heap.get? a=some (yP n t u v)) (hn:n < 2 ^ 62)
  (h:Q₁ (.ref s.heap.objs.size) { s with heap:=s.heap.push (xn n) }) :
  codeAny (model prog w) A (.call (.builtin "reversed.__new__") ⟨[.type "reversed",.ref a],[]⟩) (wants Q₁ E) s:=by
 have hT:s.TypeIs (.ref a) "range":=⟨_,ho,rfl⟩;refine codeAny_of_tree ?_;show wpAny _ A.in1 (do checkBuiltinCall "reversed.__new__" ⟨[.type "reversed",.ref a],[]⟩;again (.builtin "reversed.__new__" ⟨[.type "reversed",.ref a],[]⟩)) _ _ s;refine wpAny_bind (wpAny_of_eq (PySem.F.newCall_reversed_1 _) (wpAny_pure ⟨plainId_quiet PySem.F.plain_reversed_new _,codeAny_builtin PySem.F.entry_reversed_new ?_⟩));rw [Around.under_plainId PySem.F.plain_reversed_new _];unfold Builtin.«reversed.__new__»;refine wpAny_bind (wpAny_of_eq (newClass_reversed _) ?_);try dsimp only
 refine wpAny_bind (wpAny_of_eq (a:=()) (by first|rfl|kernel_rfl) ?_);refine wpAny_bind (wpAny_of_eq (a:=()) (by first|rfl|kernel_rfl) ?_);try dsimp only
 refine wpAny_bind (wpAny_specialOf hT PySem.F.slot_range_reversed.lookup ?_);try dsimp only
 refine wpAny_bind (wpAny_of_eq (PySem.F.slot_range_reversed.bind _) ?_);try dsimp only
 first
 | rw [if_neg (show ¬ ((Value.builtin "range.__reversed__" == Value.none)=true) from AS)]
 | (show wpAny _ _ (if (Value.builtin "range.__reversed__" == Value.none)=true then _ else _) _ _ _;rw [if_neg (show ¬ ((Value.builtin "range.__reversed__" == Value.none)=true) from AS)])
 refine wpAny_bind (wpAny_rule ?_);refine wpAny_bind (m:=runValue (.call (.builtin "range.__reversed__") ⟨[.ref a],[]⟩)) (show wpAny _ _ (call (.builtin "range.__reversed__") [.ref a]) _ _ _ from iZ ho hn ?_);first
 | exact wpAny_pure h
 | exact wpAny_bind (wpAny_pure (wpAny_pure h))
theorem i8 {t u v:Tok} {Q:Value->Shared->Prop} (ho:s.heap.get? a=some (yP n t u v)) (hn:n < 2 ^ 62)
  (h:Q (.ref s.heap.objs.size) { s with heap:=s.heap.push (xn n) }):wpAny (model prog w) A (call (.type "reversed") [.ref a]) Q E s:=by
 refine callType_other (U:="range_iterator") (Q₁:=fun obj s₁=>obj=.ref s.heap.objs.size/\s₁={ s with heap:=s.heap.push (xn n) }) zk PySem.F.create_reversed ⟨_,_,PySem.F.mro_reversed⟩ PySem.F.made_reversed g0 (PySem.F.typeCall_reversed_1 _) (i7 ho hn ⟨rfl,rfl⟩) ?_;rintro obj s₁ ⟨rfl,rfl⟩;exact ⟨⟨_,AO _ rfl,rfl⟩,h⟩
end
def yq (n:Nat):It:=⟨fun i _=>i < n,fun i H x H'=>H'=H/\x=.int ((n:Int) - 1 - i),fun i _=>n<=i⟩
theorem lR {P:Program} {K:ZF} {tg:Expr} (it:Addr) (n:Nat):jW P w K tg (yq n) [it] it (fun i h=>IsRangeIter h it ((n:Int) - 1+(i:Nat)*(-1)) ((n:Int) - (i:Nat)) (-1)) where
 mem:=by simp
 obj:=fun i h st b hb=>by
  have e:b=it:=by simpa using hb
  subst e;exact ⟨_,st,fun v z=>by
   have z':Data.fields _=Data.cell v:=z;cases z'⟩
 keep:=fun i h h' st k=>k it (by simp) _ st
 item:=by
  intro X hP hw hK hc i Cj s σ H E I hf st hg;subst hP hw hK;obtain ⟨f0,f1,f2,f3,f4,f5⟩:=hf it (by simp);have W:=Walks.range (prog:=X.prog) (w:=X.w) (I.ok.hd hc) it ((n:Int) - 1) (-1) n;refine W.item i s _ _ hg st fun v h' tk hv st' kk=>?_;obtain ⟨t,rfl⟩:=hv;have I1:CB X Cj σ H { s with heap:=h',toks:=tk }:=I.turned (fun b o hb e=>kk b o (by simpa using hb) e) f0 f1 f3 f4 f5;refine ⟨_,rfl,kY (s:={ s with heap:=h',toks:=tk }) (n:="range_iterator") st' rfl rfl zd ⟨.int ((n:Int) - 1 - i),H,I1,⟨t,?_⟩,⟨rfl,rfl⟩,st',fun b hb=>(hf b hb).1⟩⟩
  congr 1
  lia
 done:=by
  intro X hP hw hK hc i Cj s σ H E I hf st hg;subst hP hw hK;obtain ⟨f0,f1,f2,f3,f4,f5⟩:=hf it (by simp);exact wpAny_pyNext_range_end (I.ok.hd hc) st (by have:n<=i:=hg;lia) fun h' eb=>⟨rfl,I.turned (t':=s.toks) (fun b o hb e=>eb b o hb e) f0 f1 f3 f4 f5⟩
 self:=fun _ _ _ _ _ st h=>wpAny_pyIter_rangeiter st h
section
variable {X:Cx} {tg:Expr}
inductive vm (R:It->Hp->Prop) (vs:List V) (H1:Hp):Prop
 | mk (a:Addr) (n:Nat):vs=[.ref a]->H1 a=some (.rng 0 n)->n < 2 ^ 62->R (yq n) H1->vm R vs H1
def zL (ta:TA):TI:=fun σ H R=>ta σ H fun vs H1=>vm R vs H1
theorem uH {a:Expr} {ta:TA} {p pos:Pos} (hg:Gl X "reversed") (hm:X.mg "reversed"=none) (ha:PA X [a] ta) (hs:starEach [a] X.env=[(false,eval a X.env)]:=by rfl):PI X tg (.Call (.Name "reversed" p) [a] [] pos) (zL ta):=by
 refine ⟨?_⟩;intro Cj s σ H R I h;refine Call_ (c8 I hg hm PyProof.Rows.boot_reversed (Bz (bA (ha pos Cj s σ H _ I h) fun us s1 ⟨vs,H1,I1,r1,q1⟩=>?_) hs rfl));obtain ⟨l,n,e,hx,hn,q⟩:=q1;subst e;cases r1 with
 | cons r rr=>
  cases rr;cases r;obtain ⟨t,u,v,ho⟩:=I1.hok l _ hx;refine i8 (n:=n) (t:=t) (u:=u) (v:=v) (by simpa [yP] using ho) hn ?_;have hr:IsRangeIter (s1.heap.push (xn n)) s1.heap.objs.size ((n:Int) - 1+((0:Nat):Int)*(-1)) ((n:Int) - ((0:Nat):Int)) (-1):=by
   have e1:(n:Int) - 1+((0:Nat):Int)*(-1)=(n:Int) - 1:=by lia
   have e2:(n:Int) - ((0:Nat):Int)=n:=by lia
   rw [e1,e2];exact AO _ rfl
  refine wpAny_pyIter_rangeiter (s:={ s1 with heap:=s1.heap.push (xn n) }) hr ?_;refine ⟨s1.heap.objs.size,[s1.heap.objs.size],_,_,H1,rfl,I1.kept (t':=s1.toks) fun b o e=>AK _ e,lR _ n,hr,fun b hb=>?_,q⟩;have e:b=s1.heap.objs.size:=by simpa using hb
  subst e;exact I1.fpOk (AR _) (I1.hok.fresh (AR _))
end
theorem sM {n:Nat} {g:TG} {tb:TS} {D:eX} (Pv:Nat->St->Hp->Prop) (h0:Pv 0 σ H)
  (hs:∀ i σ H,i < n->Pv i σ H->g (.int ((n:Int) - 1 - i)) σ H fun σ2 H2=>tb { D with nx:=Pv (i+1),ct:=Pv (i+1),bk:=D.nx } σ2 H2) (hd:∀ σ H,Pv n σ H->D.nx σ H) :
  ∃ W:Nat->Nat->St->Hp->Prop,(∃ m,W 0 m σ H)/\∀ i m σ H,W i m σ H->
   ((yq n).stop i H/\D.nx σ H)\/((yq n).go i H/\∃ N:St->Hp->Prop,(∀ σ' H',N σ' H'->∃ m',m' < m/\W (i+1) m' σ' H')/\∀ x H',(yq n).yld i H x H'->g x σ H' fun σ2 H2=>tb { D with nx:=N,ct:=N,bk:=D.nx } σ2 H2):=by
 refine ⟨fun i m σ H=>m=n - i/\i<=n/\Pv i σ H,⟨n,by simp,Bv _,h0⟩,?_⟩;rintro i m σ H ⟨rfl,hi,p⟩;by_cases Cu:i < n
 ·refine .inr ⟨Cu,Pv (i+1),fun σ' H' p'=>⟨n - (i+1),by lia,rfl,Cu,p'⟩,fun x H' y=>?_⟩;obtain ⟨e,y⟩:=y;subst e;subst y;exact hs i σ _ Cu p
 ·have e:i=n:=by lia
  subst e;exact .inl ⟨AR _,hd σ H p⟩
end L2
namespace TK
abbrev Ti:=Option Int
abbrev Tb:=Option (List Ti)
def vI (o:Ti):Int:=o.getD 0
def i9 (n:Nat):Ti->Bool
 | some i=>decide (0<=i) && decide (i < (n:Int))
 | none=>false
def df (n:Nat):Tb->Bool
 | none=>false
 | some l=>l.all (i9 n) && decide ((l.map vI).Pairwise (· < ·))
def cQ (l:List Ti):List Nat:=l.map fun o=>(vI o).toNat
def jm (b:Tb):List Nat:=cQ (b.getD [])
def bq (bs:List Tb):List Nat:=bs.flatMap jm
def bN (bs:List Tb) (i:Nat):Nat:=bs.findIdx fun b=>(jm b).contains i
def nI (n:Nat) (bs:List Tb):Bool:=bs.all fun b=>df n b && decide (b≠some [])
def jt (f:Nat->Nat->Bool) (n:Nat) (bs:List Tb):Bool:=(List.range n).all fun l=>(List.range l).all fun e=>!(decide (bN bs l<=bN bs e) && f e l)
def dE (f:Nat->Nat->Bool) (n:Nat):Option (List Tb)->Bool
 | none=>false
 | some bs=>nI n bs && ((decide (bq bs).Nodup && decide ((bq bs).length=n)) && jt f n bs)
def kA (f:Nat->Nat->Bool) (c:List Nat):Bool:=(List.range (c.length - 1)).all fun k=>f (c.getD k 0) (c.getD (k+1) 0)
def cR (f:Nat->Nat->Bool) (n:Nat) (b:Tb):Bool:=df n b && kA f (jm b)
def fC (l:List Nat):List Ti:=l.map fun (k:Nat)=>some (k:Int)
theorem lS (l:List Nat):cQ (fC l)=l:=by
 unfold cQ fC;rw [BW];conv=>rhs;rw [<-List.map_id l]
 refine List.map_congr_left fun k _=>?_;simp [vI]
variable {n:Nat}
theorem kB {l:List Ti} (h:l.all (i9 n)=true):l=fC (cQ l)/\(∀ k∈cQ l,k < n)/\l.map vI=(cQ l).map (fun (k:Nat)=>(k:Int)):=by
 induction l with
 | nil=>exact ⟨rfl,fun _ h=>(nomatch h),rfl⟩
 | cons o l ih=>
  rw [List.all_cons,Bh] at h;obtain ⟨h1,h2⟩:=h;obtain ⟨a,b,c⟩:=ih h2;cases o with
  | none=>cases h1
  | some i=>
   unfold i9 at h1;rw [Bh] at h1;have hi0:0<=i:=of_decide_eq_true h1.1;have hin:i < n:=of_decide_eq_true h1.2;have e:((i.toNat:Nat):Int)=i:=Int.toNat_of_nonneg hi0;refine ⟨?_,?_,?_⟩
   ·show some i::l=some ((i.toNat:Nat):Int)::fC (cQ l);rw [e,<-a]
   ·intro k hk;rcases AZ.mp hk with rfl|hk
    ·show i.toNat < n;lia
    ·exact b k hk
   ·show i::l.map vI=((i.toNat:Nat):Int)::(cQ l).map _;rw [e,<-c]
theorem sP (l:List Nat):(l.map (fun (k:Nat)=>(k:Int))).Pairwise (· < ·)↔l.Pairwise (· < ·):=by
 rw [List.pairwise_map];constructor
 ·exact fun h=>h.imp fun h=>by lia
 ·exact fun h=>h.imp fun h=>by lia
variable {l:List Nat}
theorem oO (h:∀ k∈l,k < n):(fC l).all (i9 n)=true:=by
 rw [BC];intro o ho;obtain ⟨k,hk,rfl⟩:=Bo.mp ho;have:=h k hk;unfold i9;rw [Bh];exact ⟨decide_eq_true (by lia),decide_eq_true (by lia)⟩
theorem lT (h:∀ k∈l,k < n) (hp:l.Pairwise (· < ·)):df n (some (fC l))=true:=by
 unfold df;rw [Bh];refine ⟨oO h,decide_eq_true ?_⟩;obtain ⟨_,_,c⟩:=kB (oO h);rw [c,lS];exact (sP l).mpr hp
theorem fS {b:Tb} (h:df n b=true):∃ l,b=some (fC l)/\(∀ k∈l,k < n)/\l.Pairwise (· < ·):=by
 cases b with
 | none=>cases h
 | some l=>
  unfold df at h;rw [Bh] at h;obtain ⟨a,b,c⟩:=kB h.1;refine ⟨cQ l,by rw [<-a],b,(sP _).mp ?_⟩;rw [<-c];exact of_decide_eq_true h.2
theorem cz (l:List Nat):jm (some (fC l))=l:=lS l
theorem oP:∀ l:List Int,(List.zipWith (fun a b=>decide (a < b)) l (l.drop 1)).all id=decide (l.Pairwise (· < ·))
 | []=>rfl
 | [x]=>rfl
 | x::y::l=>by
  have ih:=oP (y::l);show (decide (x < y) && (List.zipWith _ (y::l) ((y::l).drop 1)).all id)=_;rw [ih,BF,Bh,decide_eq_true_eq,decide_eq_true_eq,decide_eq_true_eq,List.pairwise_cons (a:=x)];constructor
  ·rintro ⟨h1,h2⟩;refine ⟨fun z hz=>?_,h2⟩;rcases AZ.mp hz with rfl|hz
   ·exact h1
   ·exact Int.lt_trans h1 ((List.pairwise_cons.mp h2).1 z hz)
  ·rintro ⟨h1,h2⟩;exact ⟨h1 y (AX ..),h2⟩
theorem kC:∀ (n:Nat) (l:List Nat),l.Nodup->(∀ x∈l,x < n)->l.length<=n
 | 0,l,_,h=>by
  cases l with
  | nil=>exact AR _
  | cons x l=>exact absurd (h x (AX ..)) (Nat.not_lt_zero _)
 | n+1,l,hn,h=>by
  have h1:=kC n (l.erase n) (hn.erase n) (fun x hx=>by
   have:=(List.Nodup.mem_erase_iff hn).mp hx;have:=h x this.2;lia)
  have h2:=List.length_erase (a:=n) (l:=l);split at h2<;>lia
variable {i:Nat}
theorem nJ (hn:l.Nodup) (h:∀ x∈l,x < n) (hl:l.length=n) (hi:i < n):i∈l:=by
 by_cases z:i∈l
 ·exact z
 ·have:=kC n (i::l) (Cd.mpr ⟨z,hn⟩) (fun x hx=>by
   rcases AZ.mp hx with rfl|hx
   ·exact hi
   ·exact h x hx)
  rw [Bj] at this;lia
theorem kD {l m:List Nat} (h1:l.Nodup) (h2:m.Nodup) (h:∀ a,a∈l↔a∈m):l.Perm m:=by
 rw [List.perm_iff_count];intro a;rw [List.Nodup.count h1,List.Nodup.count h2];simp [h a]
theorem nK (h:∀ x∈l,x < n):l.Perm (List.range n)↔l.Nodup/\l.length=n:=by
 constructor
 ·intro p;exact ⟨p.nodup_iff.mpr List.nodup_range,by rw [p.length_eq,List.length_range]⟩
 ·rintro ⟨h1,h2⟩;exact kD h1 List.nodup_range fun a=>⟨fun z=>A3.mpr (h a z),fun z=>nJ h1 h h2 (A3.mp z)⟩
structure yr (f:Nat->Nat->Bool) (n:Nat) (g:Nat->Nat):Prop where
 lt:∀ i j,i < j->j < n->f i j=true->g i < g j
structure Bts (f:Nat->Nat->Bool) (n:Nat) (g:Nat->Nat) (xss:List (List Nat)):Prop where
 num:yr f n g
 ne:∀ xs∈xss,xs≠[]
 pw:∀ xs∈xss,xs.Pairwise (· < ·)
 same:∀ xs∈xss,∀ x∈xs,∀ y∈xs,g x=g y
 rise:xss.Pairwise fun a b=>∀ x∈a,∀ y∈b,g x < g y
 all:∀ i,i∈xss.flatten↔i < n
def bX (xss:List (List Nat)):List Tb:=xss.map fun l=>some (fC l)
theorem cy (xss:List (List Nat)):bq (bX xss)=xss.flatten:=by
 unfold bq bX;rw [List.flatMap_map,List.flatMap_def]
 congr 1
 conv=>rhs;rw [<-List.map_id xss]
 exact List.map_congr_left fun l _=>cz l
variable {xss:List (List Nat)} {g:Nat->Nat} {f:Nat->Nat->Bool}
theorem Bts.nodup (B:Bts f n g xss):xss.flatten.Nodup:=by
 unfold List.Nodup;rw [List.pairwise_flatten];refine ⟨fun xs hx=>(B.pw xs hx).imp fun h=>by lia,B.rise.imp fun h=>?_⟩;intro x hx y hy;have:=h x hx y hy;rintro rfl;lia
theorem oQ (h:i∈xss.flatten):∃ xs,xss[bN (bX xss) i]?=some xs/\i∈xs:=by
 obtain ⟨xs,hx,hi⟩:=List.mem_flatten.mp h;have Cu:(bX xss).findIdx (fun b=>(jm b).contains i) < (bX xss).length:=by
  rw [List.findIdx_lt_length];exact ⟨some (fC xs),Bo.mpr ⟨xs,hx,rfl⟩,by rw [cz];simpa using hi⟩
 have hp:=List.findIdx_getElem (w:=Cu);have hlt':(bX xss).findIdx (fun b=>(jm b).contains i) < xss.length:=by simpa [bX] using Cu
 refine ⟨xss[(bX xss).findIdx (fun b=>(jm b).contains i)],AL hlt',?_⟩;have e:(bX xss)[(bX xss).findIdx (fun b=>(jm b).contains i)]=some (fC xss[(bX xss).findIdx (fun b=>(jm b).contains i)]):=by
  simp only [bX,List.getElem_map]
 rw [e,cz] at hp;simpa using hp
theorem Bts.ord (B:Bts f n g xss):jt f n (bX xss)=true:=by
 unfold jt;rw [BC];intro l hl;rw [BC];intro e he;have hl':=A3.mp hl;have he':=A3.mp he;rw [Bool.not_eq_true',Bool.and_eq_false_iff];by_cases hf:f e l=true
 ·left;refine decide_eq_false ?_;have hg:=B.num.lt e l he' hl' hf;obtain ⟨xs,hx,hex⟩:=oQ ((B.all e).mpr (by lia));obtain ⟨ys,hy,hly⟩:=oQ ((B.all l).mpr hl');obtain ⟨h1,h1'⟩:=AN.mp hx;obtain ⟨h2,h2'⟩:=AN.mp hy;intro hle;rcases Nat.lt_or_eq_of_le hle with h|h
  ·have:=List.pairwise_iff_getElem.mp B.rise _ _ h2 h1 h;rw [h1',h2'] at this;have:=this l hly e hex;lia
  ·have exy:xs=ys:=by
    rw [<-h1',<-h2']
    congr 1
    exact h.symm
   subst exy;have:=B.same xs (A6 hx) e hex l hly;lia
 ·right;simpa using hf
theorem Bts.pack (B:Bts f n g xss):dE f n (some (bX xss))=true:=by
 have hm:∀ x∈xss.flatten,x < n:=fun x hx=>(B.all x).mp hx;show (nI n (bX xss) && ((decide (bq (bX xss)).Nodup && decide ((bq (bX xss)).length=n)) && jt f n (bX xss)))=true;rw [B.ord,cy,decide_eq_true B.nodup];have Ck:xss.flatten.length=n:=by
  have p:=kD B.nodup (List.nodup_range (n:=n)) fun a=>by rw [B.all a,A3]
  rw [p.length_eq,List.length_range]
 rw [decide_eq_true Ck,Bool.and_true,Bool.and_true,Bool.and_true];unfold nI;rw [BC];intro b hb;obtain ⟨xs,hx,rfl⟩:=Bo.mp hb;rw [Bh];refine ⟨lT (fun k hk=>hm k (List.mem_flatten.mpr ⟨xs,hx,hk⟩)) (B.pw xs hx),decide_eq_true fun z=>?_⟩;have:fC xs=[]:=Be z;exact B.ne xs hx (List.map_eq_nil_iff.mp this)
def nL (g:Nat->Nat) (n T:Nat):List (List Nat):=((List.range T).map fun k=>(List.range n).filter fun i=>g i == k).filter fun l=>decide (l≠[])
variable {T:Nat}
theorem ie {xs:List Nat} (h:xs∈nL g n T):xs≠[]/\∃ k,k < T/\xs=(List.range n).filter fun i=>g i == k:=by
 obtain ⟨h1,h2⟩:=Bc.mp h;obtain ⟨k,hk,rfl⟩:=Bo.mp h1;exact ⟨of_decide_eq_true h2,k,A3.mp hk,rfl⟩
theorem oR (N:yr f n g) (hT:∀ i,i < n->g i < T):Bts f n g (nL g n T) where
 num:=N
 ne:=fun xs h=>(ie h).1
 pw:=fun xs h=>by
  obtain ⟨_,k,_,rfl⟩:=ie h;exact List.pairwise_lt_range.filter _
 same:=fun xs h x hx y hy=>by
  obtain ⟨_,k,_,rfl⟩:=ie h;have h1:=(Bc.mp hx).2;have h2:=(Bc.mp hy).2;simp only [beq_iff_eq] at h1 h2;lia
 rise:=by
  unfold nL;refine List.Pairwise.filter _ ?_;rw [List.pairwise_map];refine List.pairwise_lt_range.imp fun {a b} h x hx y hy=>?_;have h1:=(Bc.mp hx).2;have h2:=(Bc.mp hy).2;simp only [beq_iff_eq] at h1 h2;lia
 all:=fun i=>by
  rw [List.mem_flatten];constructor
  ·rintro ⟨xs,hx,hi⟩;obtain ⟨_,k,_,rfl⟩:=ie hx;exact A3.mp (Bc.mp hi).1
  ·intro hi;have hm:i∈(List.range n).filter fun j=>g j == g i:=Bc.mpr ⟨A3.mpr hi,by simp⟩;refine ⟨(List.range n).filter fun j=>g j == g i,Bc.mpr ⟨Bo.mpr ⟨g i,A3.mpr (hT i hi),rfl⟩,decide_eq_true (List.ne_nil_of_mem hm)⟩,hm⟩
theorem uI (f:Nat->Nat->Bool) (n:Nat):Bts f n id ((List.range n).map fun i=>[i]) where
 num:=⟨fun i j h _ _=>h⟩
 ne:=fun xs h=>by obtain ⟨k,_,rfl⟩:=Bo.mp h;exact fun z=>(nomatch z)
 pw:=fun xs h=>by obtain ⟨k,_,rfl⟩:=Bo.mp h;exact List.pairwise_singleton _ _
 same:=fun xs h x hx y hy=>by
  obtain ⟨k,_,rfl⟩:=Bo.mp h;rw [AU.mp hx,AU.mp hy]
 rise:=by
  rw [List.pairwise_map];refine List.pairwise_lt_range.imp fun {a b} h x hx y hy=>?_;rw [AU.mp hx,AU.mp hy];exact h
 all:=fun i=>by
  rw [List.mem_flatten];constructor
  ·rintro ⟨xs,hx,hi⟩;obtain ⟨k,hk,rfl⟩:=Bo.mp hx;rw [AU.mp hi];exact A3.mp hk
  ·intro hi;exact ⟨[i],Bo.mpr ⟨i,A3.mpr hi,rfl⟩,AU.mpr rfl⟩
theorem dF (h:i < n):(be f n).getD i 0=mx (qc f i (be f i)):=by
 rw [Bm,(kr f h).1];rfl
theorem gJ {n i o:Nat} (h:i < n) (ho:o < i):(be f i).getD o 0=(be f n).getD o 0:=by
 rw [dF ho,dF (by lia)]
theorem ja (f:Nat->Nat->Bool) (n:Nat):yr f n (fun i=>(be f n).getD i 0):=⟨fun i j h hj hf=>by
 show (be f n).getD i 0 < (be f n).getD j 0;rw [dF hj,<-gJ hj h];have:(be f j).getD i 0+1∈qc f j (be f j):=Bo.mpr ⟨i,Bc.mpr ⟨A3.mpr h,hf⟩,rfl⟩;have:=nv this;lia⟩
theorem qr {n j k:Nat} (hj:j < n) (h:(be f n).getD j 0=k+1):∃ o,o < j/\f o j=true/\(be f n).getD o 0=k:=by
 rw [dF hj] at h;have Cq:qc f j (be f j)≠[]:=fun z=>by rw [z] at h;have h':0=k+1:=h;lia
 have hm:=ko Cq;rw [h] at hm;obtain ⟨o,ho,e⟩:=Bo.mp hm;obtain ⟨h1,h2⟩:=Bc.mp ho;have h1':=A3.mp h1;refine ⟨o,h1',h2,?_⟩;rw [<-gJ hj h1'];lia
theorem jP (h:i < n):(be f n).getD i 0 < bF (be f n):=by
 refine kq ?_;rw [Bm,AL (by rw [bW];exact h)];exact Bq _
theorem jb (f:Nat->Nat->Bool):∀ (n k:Nat),k < bF (be f n)->∃ i,i < n/\(be f n).getD i 0=k
 | 0,k,h=>absurd h (by show ¬ k < 0;lia)
 | n+1,k,h=>by
  have e:be f (n+1)=be f n++[mx (qc f n (be f n))]:=rfl;have hl:=gG f n;have hs:=eR (be f n) (mx (qc f n (be f n)));rw [e,hs] at h;by_cases z:k < bF (be f n)
  ·obtain ⟨i,hi,hk⟩:=jb f n k z;exact ⟨i,by lia,by rw [<-gJ (n:=n+1) (by lia) hi];exact hk⟩
  ·refine ⟨n,by lia,?_⟩;rw [dF (by lia)];lia
theorem uJ (f:Nat->Nat->Bool) (n:Nat):dX (be f n) n=nL (fun i=>(be f n).getD i 0) n (bF (be f n)):=by
 unfold dX nL;have:(be f n).take n=be f n:=Bi (by rw [bW];exact AR _);rw [this];symm;rw [List.filter_eq_self];intro l hl;obtain ⟨k,hk,rfl⟩:=Bo.mp hl;obtain ⟨i,hi,e⟩:=jb f n k (A3.mp hk);refine decide_eq_true (List.ne_nil_of_mem (a:=i) (Bc.mpr ⟨A3.mpr hi,?_⟩));show ((be f n).getD i 0 == k)=true;rw [e];simp
theorem uK (f:Nat->Nat->Bool) (n:Nat):Bts f n (fun i=>(be f n).getD i 0) (dX (be f n) n):=by
 rw [uJ];exact oR (ja f n) fun i hi=>jP hi
structure yt (f:Nat->Nat->Bool) (n T j:Nat) (L:List Int):Prop where
 len:L.length=n
 lo:∀ i,i < n->((be f n).getD i 0:Int)<=L.getD i 0
 hi:∀ i,i < n->L.getD i 0 < (T:Int)
 dn:∀ i b,j<=i->i < b->b < n->f i b=true->L.getD i 0 < L.getD b 0
theorem uL {L:List Int} (h:yt f n T 0 L):yr f n (fun i=>(L.getD i 0).toNat):=⟨fun i j hij hj hf=>by
 have h1:=h.dn i j (Bv _) hij hj hf;have h2:=h.lo i (by lia);show (L.getD i 0).toNat < (L.getD j 0).toNat;lia⟩
theorem lU (f:Nat->Nat->Bool) (x y:Nat) (c:List Nat):kA f (x::y::c)=(f x y && kA f (y::c)):=by
 unfold kA;have:(x::y::c).length - 1=(y::c).length - 1+1:=by simp
 rw [this,List.range_succ_eq_map,List.all_cons,Ch];rfl
end TK
set_option autoImplicit true
set_option relaxedAutoImplicit true
namespace L3
open PySem L2
abbrev jc:Stmt:=cG 21
abbrev kE:Stmt:=cG 22
abbrev fU:Stmt:=cG 23
abbrev ig:Stmt:=cG 24
abbrev nM:Stmt:=cG 25
abbrev fV:Stmt:=cG 26
abbrev gK:Stmt:=cG 65
abbrev dg:Stmt:=cG 66
abbrev eU:Stmt:=cG 67
abbrev fq:Stmt:=cG 68
abbrev nN:Stmt:=cG 69
abbrev jd:Stmt:=cG 70
abbrev ii:Stmt:=cG 71
abbrev fX:Stmt:=cG 72
variable {n:Nat} {K:ZF} {X:Cx}
theorem kF {es:List Expr} {k:Nat} {pos:Pos} {t:vE} (h:X.K=K) (hc:X.calm=true) (hg:xx X es t) (hn:(assignEach es X.env).length=n:=by rfl) (hst:(assignEach es X.env).findIdx? (·.1)=none:=by rfl):PG X (.Tuple es k pos) (tN K n t):=by
 subst h;exact gj hc hg hn hst
theorem lV (h:X.K=K):bJ X (.builtin "len") (fun xs H Q=>∃ (p:Addr) (ys:List V),xs=[.ref p]/\(Cz K H p ys\/CI K H p ys)/\Q (.int (ys.length:Int)) H):=by
 subst h;exact aw
theorem ju (h:X.K=K):bJ X (.type "list") (fun xs H Q=>∃ (p:Addr) (ys:List V),xs=[.ref p]/\(Cz K H p ys\/CI K H p ys)/\∀ l,H l=none->Q (.ref l) (aB H l (.lst ys))):=by
 subst h;exact j0
theorem oU {k:Nat} (h:X.K=K) (hr:CY k X.A):eG X (compareOp .NotEq) (Fq K):=by
 subst h;exact DT hr
theorem uM (xs:List V) (k:Nat):lh xs none (some (k:Int))=xs.take k:=by
 unfold lh;have e1:HT.sIx xs.length 0 none=0:=rfl;have e2:HT.sIx xs.length xs.length (some (k:Int))=min k xs.length:=by
  show (if (k:Int) < 0 then ((k:Int)+(xs.length:Int)).toNat else min (k:Int).toNat xs.length)=_;rw [if_neg (by lia)];rfl
 rw [e1,e2,List.drop_zero,Nat.sub_zero];by_cases h:k<=xs.length
 ·rw [Nat.min_eq_left h]
 ·rw [Nat.min_eq_right (by lia),Bf,Bi (by lia)]
theorem qt (xs:List V) (k:Nat):lh xs (some (k:Int)) none=xs.drop k:=by
 unfold lh;have e1:HT.sIx xs.length 0 (some (k:Int))=min k xs.length:=by
  show (if (k:Int) < 0 then ((k:Int)+(xs.length:Int)).toNat else min (k:Int).toNat xs.length)=_;rw [if_neg (by lia)];rfl
 have e2:HT.sIx xs.length xs.length none=xs.length:=rfl;rw [e1,e2];by_cases h:k<=xs.length
 ·rw [Nat.min_eq_left h,Bi (by rw [BG];lia)]
 ·rw [Nat.min_eq_right (by lia),List.drop_eq_nil_of_le (AR _),List.drop_eq_nil_of_le (by lia),List.take_nil]
variable {Q:VK} {r:Nat} {a:Addr} {H:Hp}
theorem vn {X:List V} (e:H a=some (.lst X)) (q:∀ l H',H l=none->Cw H H'->H' l=some (.lst (X.take r))->Q (.ref l) H'):pH K (.ref a) none (some (r:Int)) H Q:=
 ⟨a,X,rfl,Cz.of e,fun l nl=>by rw [uM];exact q l _ nl (ae nl) af⟩
theorem kG {X:List V} {i:Int} (hi:i=(r:Int)) (e:H a=some (.lst X)) (q:∀ l H',H l=none->Cw H H'->H' l=some (.lst (X.drop r))->Q (.ref l) H'):pH K (.ref a) (some i) none H Q:=
 ⟨a,X,rfl,Cz.of e,fun l nl=>by rw [hi,qt];exact q l _ nl (ae nl) af⟩
variable {xs zs:List V}
theorem sQ {a b:Addr} (h1:H a=some (.lst xs)) (h2:H b=some (.lst zs)) (hl:xs.length+zs.length<=10000) (q:∀ l H',H l=none->Cw H H'->H' l=some (.lst (xs++zs))->Q (.ref l) H'):uc (.ref a) (.ref b) H Q:=
 ⟨a,b,xs,zs,rfl,rfl,h1,h2,A8 hl zd,fun l nl=>q l _ nl (ae nl) af⟩
open TK (Ti Tb)
inductive Dw (H:Hp):V->Ti->Prop
 | int (i:Int):Dw H (.int i) (some i)
 | non:Dw H .non none
 | bl (b:Bool):Dw H (.bl b) none
 | str {x:Str}:(PyData.str x).canLay0=true->Dw H (.str x) none
 | one {a:Addr} {i:Int}:H a=some (.lst [.int i])->Dw H (.ref a) none
inductive DS (H:Hp):V->Tb->Prop
 | lst {a:Addr} {xs:List V} {os:List Ti}:H a=some (.lst xs)->Paired (Dw H) xs os->xs.length<=60->DS H (.ref a) (some os)
 | tup {a:Addr} {xs:List V} {os:List Ti}:H a=some (.tup xs)->Paired (Dw H) xs os->xs.length<=60->DS H (.ref a) none
 | non:DS H .non none
 | int (i:Int):DS H (.int i) none
 | str {x:Str}:(PyData.str x).canLay0=true->DS H (.str x) none
 | dic {a:Addr}:H a=some (.dK [])->DS H (.ref a) none
def E2 (H:Hp) (v:V) (b:Tb):Prop:=DS H v b/\∀ a,v=.ref a->H a≠some (.dK [])
inductive Es (H:Hp):V->Option (List Tb)->Prop
 | lst {a:Addr} {xs:List V} {os:List Tb}:H a=some (.lst xs)->Paired (E2 H) xs os->xs.length<=60->Es H (.ref a) (some os)
 | tup {a:Addr} {xs:List V} {os:List Tb}:H a=some (.tup xs)->Paired (E2 H) xs os->xs.length<=60->Es H (.ref a) none
 | non:Es H .non none
 | int (i:Int):Es H (.int i) none
 | str {x:Str}:(PyData.str x).canLay0=true->Es H (.str x) none
 | dic {a:Addr}:H a=some (.dK [])->Es H (.ref a) none
variable {o:Ti} {v:V}
theorem Dw.same {H H':Hp} (h:Dw H v o) (s:Cw H H'):Dw H' v o:=by
 cases h with
 | int i=>exact .int i
 | non=>exact .non
 | bl b=>exact .bl b
 | str h=>exact .str h
 | one h=>exact .one (s _ _ h)
theorem DS.same {H H':Hp} {o:Tb} (h:DS H v o) (s:Cw H H'):DS H' v o:=by
 cases h with
 | lst h p l=>exact .lst (s _ _ h) (Paired.mapP p fun _ _ h=>h.same s) l
 | tup h p l=>exact .tup (s _ _ h) (Paired.mapP p fun _ _ h=>h.same s) l
 | non=>exact .non
 | int i=>exact .int i
 | str h=>exact .str h
 | dic h=>exact .dic (s _ _ h)
theorem E2.same {H H':Hp} {o:Tb} (h:E2 H v o) (s:Cw H H'):E2 H' v o:=⟨h.1.same s,fun a e z=>by
 subst e;obtain ⟨hb,hn⟩:=h;cases hb with
 | lst h p l=>rw [s _ _ h] at z;cases z
 | tup h p l=>rw [s _ _ h] at z;cases z
 | dic h=>exact hn a rfl h⟩
variable {os:List Ti}
theorem E2.lst (h:H a=some (.lst xs)) (p:Paired (Dw H) xs os) (l:xs.length<=60):E2 H (.ref a) (some os):=⟨.lst h p l,fun b e z=>by cases e;rw [h] at z;cases z⟩
theorem E2.tup (h:H a=some (.tup xs)) (p:Paired (Dw H) xs os) (l:xs.length<=60):E2 H (.ref a) none:=⟨.tup h p l,fun b e z=>by cases e;rw [h] at z;cases z⟩
theorem E2.int (i:Int):E2 H (.int i) none:=⟨.int i,fun b e=>by cases e⟩
theorem Es.same {H H':Hp} {o:Option (List Tb)} (h:Es H v o) (s:Cw H H'):Es H' v o:=by
 cases h with
 | lst h p l=>exact .lst (s _ _ h) (Paired.mapP p fun _ _ h=>h.same s) l
 | tup h p l=>exact .tup (s _ _ h) (Paired.mapP p fun _ _ h=>h.same s) l
 | non=>exact .non
 | int i=>exact .int i
 | str h=>exact .str h
 | dic h=>exact .dic (s _ _ h)
theorem Dw.ty (h:Dw H v o):∃ t:Value,Dr K H v t/\∃ b c,PySem.W.kitOne K t (.type "int")=some b/\PySem.W.kitOne K t (.type "bool")=some c/\(b && !c)=o.isSome:=by
 cases h with
 | int i=>exact ⟨_,.int i,_,_,rfl,rfl,rfl⟩
 | non=>exact ⟨_,.non,_,_,rfl,rfl,rfl⟩
 | bl b=>exact ⟨_,.bl b,_,_,rfl,rfl,rfl⟩
 | str h=>exact ⟨_,.str _,_,_,rfl,rfl,rfl⟩
 | one h=>exact ⟨_,.lst h,_,_,rfl,rfl,rfl⟩
theorem DS.ty {o:Tb} (h:DS H v o):∃ t:Value,Dr K H v t/\PySem.W.kitOne K t (.type "list")=some o.isSome:=by
 cases h with
 | lst h p l=>exact ⟨_,.lst h,rfl⟩
 | tup h p l=>exact ⟨_,.tup h,rfl⟩
 | non=>exact ⟨_,.non,rfl⟩
 | int i=>exact ⟨_,.int i,rfl⟩
 | str h=>exact ⟨_,.str _,rfl⟩
 | dic h=>exact ⟨_,.dK h,rfl⟩
theorem Es.ty {o:Option (List Tb)} (h:Es H v o):∃ t:Value,Dr K H v t/\PySem.W.kitOne K t (.type "list")=some o.isSome:=by
 cases h with
 | lst h p l=>exact ⟨_,.lst h,rfl⟩
 | tup h p l=>exact ⟨_,.tup h,rfl⟩
 | non=>exact ⟨_,.non,rfl⟩
 | int i=>exact ⟨_,.int i,rfl⟩
 | str h=>exact ⟨_,.str _,rfl⟩
 | dic h=>exact ⟨_,.dK h,rfl⟩
theorem DS.list (h:DS H v (some os)):∃ a xs,v=.ref a/\H a=some (.lst xs)/\Paired (Dw H) xs os/\xs.length<=60:=by
 cases h with
 | lst h p l=>exact ⟨_,_,rfl,h,p,l⟩
theorem Es.list {os:List Tb} (h:Es H v (some os)):∃ a xs,v=.ref a/\H a=some (.lst xs)/\Paired (DS H) xs os/\xs.length<=60:=by
 cases h with
 | lst h p l=>exact ⟨_,_,rfl,h,Paired.mapP p fun _ _ h=>h.1,l⟩
theorem kH:∀ {xs:List V} {os:List Ti},Paired (Dw H) xs os->os.all (TK.i9 n)=true->xs=Cy (TK.cQ os)
 | _,_,.nil,_=>rfl
 | _,_,.cons h t,e=>by
  rw [List.all_cons,Bh] at e;have ih:=kH t e.2;cases h with
  | int i=>
   have h1:=e.1;unfold TK.i9 at h1;rw [Bh] at h1;have hi:0<=i:=of_decide_eq_true h1.1;show V.int i::_=V.int ((i.toNat:Nat):Int)::Cy (TK.cQ _);rw [<-ih,Int.toNat_of_nonneg hi]
  | _=>exact absurd (show false=true from e.1) AS
inductive je (vs:List V) (H:Hp) (Q:VK) (Z3:XK):Prop
 | mk (v:V) (o:Ti):vs=[v]->Dw H v o->Q (.bl o.isSome) H->je vs H Q Z3
inductive gL (vs:List V) (H:Hp) (Q:VK) (Z3:XK):Prop
 | mk (v:V) (o:Ti) (n:Nat):vs=[v,.int 0,.int ((n:Int) - 1)]->Dw H v o->Q (.bl (TK.i9 n o)) H->gL vs H Q Z3
theorem oV {K:ZF} {l1 l2:Addr} {xs ys:List V} {g:TG} {tf:TT} {te:TE} {ix:List (Option Nat)} {σ:St} {Q:VK} (hxy:ys.length<=xs.length) (Pv:Nat->List V->Hp->Prop) (h0:Pv 0 [] H)
  (hl:∀ i ys' H,i<=ys.length->Pv i ys' H->Cz K H l1 xs/\Cz K H l2 ys/\ys'.length<=sizeLine)
  (hs:∀ i x y ys' H T,xs[i]?=some x->ys[i]?=some y->H T=none->Pv i ys' H->g (.ref T) (hX ix σ) (aB H T (.tup [x,y])) fun σ2 H2=>Ek (hX ix σ) σ2/\tf σ2 H2 fun b H3=>if b=true then te σ2 H3 fun y H4=>Nx Pv ys.length i (ys'++[y]) H4 else Nx Pv ys.length i ys' H3)
  (hd:∀ ys' H,Pv ys.length ys' H->∀ D,H D=none->Q (.ref D) (aB H D (.lst ys'))):ll (Itz K l1 l2) g tf te ix σ H Q:=by
 refine ⟨fun i m ys' H=>m=ys.length - i/\i<=ys.length/\Pv i ys' H,⟨ys.length,by simp,Bv _,h0⟩,?_⟩;rintro i m ys' H ⟨rfl,hi,p⟩;obtain ⟨q1,q2,hz⟩:=hl i ys' H hi p;by_cases Cu:i < ys.length
 ·have hlt2:i < xs.length:=by lia
  refine .inr ⟨⟨xs,ys,xs[i],ys[i],q1,q2,by simp [hlt2],by simp [Cu]⟩,hz,fun x H' y=>?_⟩;obtain ⟨T,x1,y1,rfl,hT,rfl,ex,ey⟩:=y;exact hs i x1 y1 ys' H T (ex xs q1) (ey ys q2) hT p
 ·have e:i=ys.length:=by lia
  subst e;exact .inl ⟨⟨xs,ys,q1,q2,.inr (AR _)⟩,hz,hd ys' H p⟩
inductive EU (C:Nat->Addr) (H:Hp) (v:V) (ms:List Md):Prop
 | mk (a:Addr) (zs:List V):v=.ref a->GM H a zs->Paired (CN C H) zs ms->zs.length<=100->EU C H v ms
theorem EU.same {H H':Hp} (h:EU C H v ms) (s:Cw H H'):EU C H' v ms:=let ⟨a,zs,e,q,p,l⟩:=h;⟨a,zs,e,q.same s,Paired.mapP p fun _ _ h=>h.same s,l⟩
theorem EU.lenx (h:EU C H v ms):∃ (p:Addr) (ys:List V),v=.ref p/\(Cz K H p ys\/CI K H p ys)/\ys.length=ms.length:=by
 obtain ⟨a,zs,rfl,hs,hp,_⟩:=h;exact ⟨a,zs,rfl,hs.imp Cz.of CI.of,hp.length⟩
theorem EU.l100 (h:EU C H v ms):ms.length<=100:=by
 obtain ⟨a,zs,rfl,hs,hp,hl⟩:=h;rw [<-hp.length];exact hl
inductive fY (C:Nat->Addr) (vs:List V) (H:Hp) (Q:VK) (Z3:XK):Prop
 | mk (v t:V) (ms:List Md) (b:Tb):vs=[v,t]->EU C H v ms->DS H t b->(∀ H',Cw H H'->Q (.bl (TK.df ms.length b)) H')->fY C vs H Q Z3
section
variable {P:Program} {w:World} {K:ZF} {mg:Str->Option Value} {base:Heap} {C:Nat->Addr}
variable {fd:FuncData} {f:Addr}
theorem qu (F:C7 K "is_whole" "is_whole" j3 f fd) (B:Bl mg):aT P w K mg base bT 1 f fd ["thing"] je:=by
 have ZZ:=oz
 walk_at "o"
 ·obtain ⟨v,o,rfl,hv,q⟩:=h;refine ⟨_,(ai (al (bP (ao (Dh (T:="int")) (by rfl) B.isinstance bE (aa (pv 0) (aa (Dm (by rfl) B.int B5) ab))) (cr (mz (ao (Dh (T:="bool")) (by rfl) B.isinstance bE (aa (pv 0) (aa (Dm (by rfl) B.bool dM) ab)))))))),?_⟩;obtain ⟨t,ht,b,c,e1,e2,e3⟩:=hv.ty (K:=K);rw [<-e3] at q;refine ⟨_,rfl,v,t,b,rfl,ht,e1,_,rfl,?_⟩;cases b with
  | false=>exact cb q
  | true=>exact bM ⟨_,rfl,v,t,c,rfl,ht,e2,_,rfl,q⟩
theorem nO (F:C7 K "is_within" "is_within" ia f fd) (WH:Fn P w K mg base "is_whole" 1 ["thing"] je):aT P w K mg base bT 2 f fd ["thing","low","high"] gL:=by
 have ZZ:=ly
 walk_at "o"
 ·obtain ⟨v,o,n,rfl,hv,q⟩:=h;refine ⟨_,(ai (al (bP (ap WH hr.m rfl (aa (pv 0) ab)) (cr (k6 k5 k5 (pv 1) (pv 0) (pv 2)))))),?_⟩;refine ⟨_,rfl,v,o,rfl,hv,_,rfl,?_⟩;cases hv with
  | int i=>
   refine bM ?_;have q:Q (.bl (decide ((0:Int)<=i) && decide (i < (n:Int)))) H:=q;refine ⟨_,rfl,_,rfl,_,_,rfl,rfl,_,rfl,bz (fun h=>?_) (fun h=>?_)⟩
   ·rw [h,Bool.true_and] at q;refine ⟨_,rfl,_,_,rfl,rfl,?_⟩;have e:decide (i<=(n:Int) - 1)=decide (i < (n:Int)):=by rw [decide_eq_decide];lia
    show Q (.bl (decide (i<=(n:Int) - 1))) H;rw [e];exact q
   ·have e:decide ((0:Int)<=i)=false:=by simpa using h
    rw [e,Bool.false_and] at q;exact q
  | _=>exact cb q
theorem sR:ar ["steps","thing"] ["steps","thing"] (aj fU):=cE zk
theorem sS:(["number","steps"]:List Str).Nodup:=by decide +kernel
theorem yw:(["one","other"]:List Str).Nodup:=by decide +kernel
theorem qv (F:C7 K "are_rising" "are_rising" fU f fd) (B:Bl mg) (hzip:mg "zip"=none) (WI:Fn P w K mg base "is_within" 2 ["thing","low","high"] gL):aT P w K mg base bT 3 f fd ["steps","thing"] (fY C):=by
 have ZZ:=sR
 walk_at "o"
 ·obtain ⟨v,t,ms,b,rfl,hS,hB,q⟩:=h;have sz:(1000:Nat)<=sizeLine:=by decide
  refine ⟨_,(ah (aN (PW.pt (dS (cq (aW (ao (Dh (T:="list")) (by rfl) B.isinstance bE (aa (pv 1) (aa (Dm (by rfl) B.list cg) ab))))) (c9 (cq (aW (ao (D4 rfl) (by rfl) B.all eK (aa (cf (N':=["number","steps"]) (ix:=[none,some 0]) (sc0:=aj fU) (N:=["steps","thing"]) rfl zk (bn (pv 1)) (fun _ _ _ _ _=>(cZ (i:=0) sS)) (fun _ _ _ _ _=>cA) (fun _ _ _ _ _=>(ap WI hr.m rfl (aa (pv 0) (aa ag (aa (aK gm (ao (lV (K:=K) rfl) (by rfl) B.len A4 (aa (pv 1) ab)) ag) ab)))))) ab))))))) (ai (al bG)) aA) (ai (al (ao (D4 rfl) (by rfl) B.all eK (aa (cf (N':=["one","other"]) (ix:=[none,none]) (sc0:=aj fU) (N:=["steps","thing"]) rfl zk (Gv rfl hzip (aa (pv 1) (aa (bD bS (pv 1) (bR ag) bQ) ab))) (fun _ _ _ _ _=>(kF (K:=K) (n:=2) rfl rfl (bu (cZ (i:=0) yw) (bu (cZ (i:=1) yw) dh)))) (fun _ _ _ _ _=>cA) (fun _ _ _ _ _=>(cH jw (pv 0) (pv 1)))) ab))))),?_⟩;obtain ⟨ty,ht,e1⟩:=hB.ty (K:=K);refine ⟨_,rfl,t,ty,_,rfl,ht,e1,_,rfl,?_⟩;cases b with
  | none=>exact bM (q H (Cw.refl _))
  | some os=>
   refine cb ?_;obtain ⟨a,xs,rfl,hx,hp,hl⟩:=hB.list;have hpl:=hp.length;refine ⟨_,rfl,a,rfl,⟨_,Cz.of hx⟩,?_⟩;refine bU (K:=K) (a:=a) (xs:=xs) (fun i ys H'=>Cw H H'/\ys=((os.take i).map (TK.i9 ms.length)).map V.bl) ⟨Cw.refl _,rfl⟩ (fun i ys H' hi ⟨s',e⟩=>⟨Cz.of (s' _ _ hx),by rw [e,AM,AM,A7];lia⟩) ?_ ?_
   ·rintro i x ys H1 hx1 ⟨s1,rfl⟩;obtain ⟨o,ho,hxo⟩:=aQ hp hx1;refine ⟨⟨rfl,trivial⟩,cB ?_⟩;obtain ⟨pz,yz,rfl,hsq,el⟩:=(hS.same s1).lenx (K:=K);refine ⟨_,rfl,_,rfl,pz,yz,rfl,hsq,?_⟩;rw [el];refine ⟨_,_,rfl,rfl,x,o,ms.length,rfl,hxo.same s1,?_⟩;refine Nx.mk (AN.mp hx1).1 ⟨s1,?_⟩;rw [By,ho,AY,AY];rfl
   ·rintro ys H1 ⟨s1,e⟩ l nl;rw [hpl,Bf] at e;subst e;refine ⟨l,os.map (TK.i9 ms.length),rfl,Cz.of af,_,rfl,?_⟩;have s2:=s1.trans (ae (o:=.lst ((os.map (TK.i9 ms.length)).map V.bl)) nl);generalize aB H1 l (.lst ((os.map (TK.i9 ms.length)).map V.bl))=H2 at *;have eall:(os.map (TK.i9 ms.length)).all id=os.all (TK.i9 ms.length):=by rw [Ch];rfl
    have eq:TK.df ms.length (some os)=(os.all (TK.i9 ms.length) && decide ((os.map TK.vI).Pairwise (· < ·))):=rfl;rw [eall];cases hb:os.all (TK.i9 ms.length) with
    | false=>
     rw [hb,Bool.false_and] at eq;rw [eq] at q;exact bM (q H2 s2)
    | true=>
     rw [hb,Bool.true_and] at eq;refine cb ?_;have hn:=kH hp hb;have hv:=(TK.kB hb).2.2;generalize TK.cQ os=ns at *;subst hn;have hns:ns.length<=60:=by rw [am] at hl;exact hl
     refine ⟨_,rfl,_,rfl,_,rfl,kG (r:=1) rfl (s2 _ _ hx) fun p H3 np s23 e3=>?_⟩;have ed:(Cy ns).drop 1=Cy (ns.drop 1):=by unfold Cy;rw [List.map_drop]
     rw [ed] at e3;have s3:=s2.trans s23;refine ⟨a,p,rfl,⟨_,Cz.of (s3 _ _ hx)⟩,⟨_,Cz.of e3⟩,?_⟩;have hle:(Cy (ns.drop 1)).length<=(Cy ns).length:=by rw [am,am,BG];lia
     refine oV (K:=K) (l1:=a) (l2:=p) (xs:=Cy ns) (ys:=Cy (ns.drop 1)) hle (fun i ys H'=>Cw H3 H'/\ys=((List.zipWith (fun (x y:Nat)=>decide ((x:Int) < (y:Int))) ns (ns.drop 1)).take i).map V.bl) ⟨Cw.refl _,rfl⟩ (fun i ys H' hi ⟨s',e⟩=>⟨Cz.of (s' _ _ (s3 _ _ hx)),Cz.of (s' _ _ e3),by rw [e,AM,A7,List.length_zipWith];lia⟩) ?_ ?_
     ·rintro i x y ys H4 T hx4 hy4 nT ⟨s4,rfl⟩;have Cu:=(AN.mp hy4).1;have hi2:i < (ns.drop 1).length:=by rw [am] at Cu;exact Cu
      have hi1:i < ns.length:=by rw [BG] at hi2;lia
      rw [ca (AL hi1)] at hx4;rw [ca (AL hi2)] at hy4;cases hx4;cases hy4;have s5:=s4.trans (ae (o:=.tup [.int (ns[i]:Int),.int ((ns.drop 1)[i]:Int)]) nT);refine ⟨T,_,rfl,CI.of af,rfl,_,_,rfl,_,_,rfl,rfl,?_⟩;refine ⟨trivial,cB ?_⟩;refine ⟨_,rfl,_,rfl,_,_,rfl,rfl,?_⟩;refine Nx.mk Cu ⟨s5,?_⟩;rw [By,List.getElem?_zipWith,AL hi1,AL hi2,AY];rfl
     ·rintro ys H4 ⟨s4,e4⟩ l2 nl2;rw [am,Bi (by rw [List.length_zipWith];lia)] at e4;subst e4;refine ⟨l2,_,rfl,Cz.of af,?_⟩;have ez:(List.zipWith (fun (x y:Nat)=>decide ((x:Int) < (y:Int))) ns (ns.drop 1)).all id=decide ((os.map TK.vI).Pairwise (· < ·)):=by
       rw [hv,<-TK.oP,<-List.map_drop,List.zipWith_map]
      rw [ez,<-eq];exact q _ ((s3.trans s4).trans (ae nl2))
end
end L3
set_option autoImplicit true
set_option relaxedAutoImplicit true
namespace L3
open PySem L2
open TK (Ti Tb)
theorem vo {k:Nat} {A:Around} (hr:CY k A):A.units+1 < cLine:=by have:=hr.un;lia
theorem oW (f:Nat->Nat->Bool):∀ c:List Nat,(List.zipWith f c (c.drop 1)).all id=TK.kA f c
 | []=>rfl
 | [x]=>rfl
 | x::y::c=>by
  rw [TK.lU,<-oW f (y::c)];rfl
variable {i j:Nat}
theorem fv {ms:List Md} {m n:Md} (h1:ms[i]?=some m) (h2:ms[j]?=some n):bI ms i j=cW m n:=by unfold bI;rw [h1,h2]
variable {p q:Addr} {Q:VK} {H:Hp} {K:ZF}
theorem oX {a b:List Int} (ha:Cz K H p (a.map V.int)) (hb:Cz K H q (b.map V.int)) (h:Q (.bl (decide (a=b))) H):GC K (.ref p) (.ref q) H Q:=by
 obtain ⟨dx,dy,h1,h2,h3,h4,h5,h6⟩:=ES (K:=K) (Q:=fun v H'=>v=.bl (!decide (a=b))/\H'=H) ha hb ⟨rfl,rfl⟩;refine ⟨dx,dy,h1,h2,h3,h4,h5,?_⟩;have:=V.bl.inj h6.1;have e:PyData.eqv dx dy=decide (a=b):=by
  cases hx:PyData.eqv dx dy<;>cases hy:decide (a=b)<;>rw [hx,hy] at this<;>first|rfl|cases this
 rw [e];exact h
variable {a b:List Nat}
theorem kI (ha:H p=some (.lst (Cy a))) (hb:H q=some (.lst (Cy b))) (h:Q (.bl (!decide (a=b))) H):Fq K (.ref p) (.ref q) H Q:=by
 rw [CZ] at ha hb;refine ES (Cz.of ha) (Cz.of hb) ?_;have:decide (a.map (fun (k:Nat)=>(k:Int))=b.map (fun (k:Nat)=>(k:Int)))=decide (a=b):=by
  rw [decide_eq_decide];constructor
  ·exact fun h=>(List.map_inj_right (fun x y (h:((x:Nat):Int)=(y:Nat))=>by lia)).mp h
  ·rintro rfl;rfl
 rw [this];exact h
theorem oY (ha:H p=some (.lst (Cy a))) (hb:H q=some (.lst (Cy b))) (h:Q (.bl (decide (a=b))) H):GC K (.ref p) (.ref q) H Q:=by
 rw [CZ] at ha hb;refine oX (Cz.of ha) (Cz.of hb) ?_;have:decide (a.map (fun (k:Nat)=>(k:Int))=b.map (fun (k:Nat)=>(k:Int)))=decide (a=b):=by
  rw [decide_eq_decide];constructor
  ·exact fun h=>(List.map_inj_right (fun x y (h:((x:Nat):Int)=(y:Nat))=>by lia)).mp h
  ·rintro rfl;rfl
 rw [this];exact h
theorem oZ:∀ {xs:List V} {l:List Nat},Paired (Dw H) xs (TK.fC l)->xs=Cy l
 | _,[],.nil=>rfl
 | _,x::l,.cons h t=>by
  have ih:=oZ (l:=l) t;cases h with
  | int=>show V.int _::_=V.int _::Cy l;rw [ih]
theorem jf {v:V} {l:List Nat} (h:DS H v (some (TK.fC l))):∃ a,v=.ref a/\H a=some (.lst (Cy l))/\l.length<=60:=by
 obtain ⟨a,xs,rfl,hx,hp,hl⟩:=h.list;have:=oZ hp;subst this;exact ⟨a,rfl,hx,by rw [am] at hl;exact hl⟩
theorem bV (H:Hp):∀ l:List Nat,Paired (Dw H) (Cy l) (TK.fC l)
 | []=>.nil
 | x::l=>.cons (.int _) (bV H l)
theorem nP {n:Nat}:∀ {bs:List Tb},TK.nI n bs=true->∃ xss,bs=TK.bX xss/\∀ xs∈xss,xs≠[]/\xs.Pairwise (· < ·)/\∀ k∈xs,k < n
 | [],_=>⟨[],rfl,fun _ h=>(nomatch h)⟩
 | b::bs,h=>by
  have h':((TK.df n b && decide (b≠some [])) && TK.nI n bs)=true:=h;rw [Bh,Bh] at h';obtain ⟨l,rfl,h1,h2⟩:=TK.fS h'.1.1;obtain ⟨xss,rfl,h3⟩:=nP h'.2;refine ⟨l::xss,rfl,fun xs hx=>?_⟩;rcases AZ.mp hx with rfl|hx
  ·refine ⟨fun z=>?_,h2,h1⟩;subst z;exact of_decide_eq_true h'.1.2 rfl
  ·exact h3 xs hx
def lW:Nat->List (List Nat)->List (Nat×Nat)
 | _,[]=>[]
 | k,x::xss=>x.map (·,k)++lW (k+1) xss
def kJ (l:List (Nat×Nat)):List (cJ×V):=l.map fun p=>(Sum.inl (p.1:Int),V.int (p.2:Int))
theorem lX:∀ (xss:List (List Nat)) (k:Nat) (x:List Nat),lW k (xss++[x])=lW k xss++x.map (·,k+xss.length)
 | [],k,x=>by simp [lW]
 | y::xss,k,x=>by
  show y.map (·,k)++lW (k+1) (xss++[x])=(y.map (·,k)++lW (k+1) xss)++_;rw [lX xss (k+1) x,BJ]
  congr 3
  rw [Bj];funext z
  congr 1
  lia
theorem kK:∀ (xss:List (List Nat)) (k:Nat),(lW k xss).map (·.1)=xss.flatten
 | [],k=>rfl
 | y::xss,k=>by
  show (y.map (·,k)++lW (k+1) xss).map (·.1)=y++xss.flatten;rw [AY,kK xss (k+1),BW]
  congr 1
  exact List.map_id y
theorem kL (h:i≠j):(Sum.inl (i:Int):cJ)≠Sum.inl (j:Int):=fun z=>h (by have:=Sum.inl.inj z;lia)
theorem lY:∀ {l:List (Nat×Nat)} {i:Nat},i∉l.map (·.1)->Di (kJ l) (.inl (i:Int))=none
 | [],_,_=>rfl
 | p::l,i,h=>by
  have h1:p.1≠i:=fun z=>h (by rw [<-z];exact AX ..);have h2:i∉l.map (·.1):=fun z=>h (A2 _ z);show Di ((Sum.inl (p.1:Int),V.int (p.2:Int))::kJ l) _=none;rw [Dk (kL h1)];exact lY h2
theorem lZ:∀ {l:List (Nat×Nat)} {i:Nat},i∈l.map (·.1)->(Di (kJ l) (.inl (i:Int))).isSome=true
 | p::l,i,h=>by
  show (Di ((Sum.inl (p.1:Int),V.int (p.2:Int))::kJ l) _).isSome=true;by_cases e:p.1=i
  ·rw [DD (by rw [e])];rfl
  ·rw [Dk (kL e)];refine lZ ?_;rcases AZ.mp h with z|z
   ·exact absurd z.symm e
   ·exact z
theorem o0:∀ {x:List Nat} {k i:Nat} {r:List (Nat×Nat)},i∈x->Di (kJ (x.map (·,k)++r)) (.inl (i:Int))=some (.int (k:Int))
 | y::x,k,i,r,h=>by
  show Di ((Sum.inl (y:Int),V.int (k:Int))::kJ (x.map (·,k)++r)) _=_;by_cases e:y=i
  ·rw [DD (by rw [e])]
  ·rw [Dk (kL e)];refine o0 ?_;rcases AZ.mp h with z|z
   ·exact absurd z.symm e
   ·exact z
theorem ma:∀ {x:List Nat} {k i:Nat} {r:List (Nat×Nat)},i∉x->Di (kJ (x.map (·,k)++r)) (.inl (i:Int))=Di (kJ r) (.inl (i:Int))
 | [],_,_,_,_=>rfl
 | y::x,k,i,r,h=>by
  show Di ((Sum.inl (y:Int),V.int (k:Int))::kJ (x.map (·,k)++r)) _=_;rw [Dk (kL fun z=>h (by rw [<-z];exact AX ..))];exact ma fun z=>h (A2 _ z)
theorem o7:∀ (xss:List (List Nat)) (k i:Nat),i∈xss.flatten->Di (kJ (lW k xss)) (.inl (i:Int))=some (.int ((k+TK.bN (TK.bX xss) i:Nat):Int))
 | [],k,i,h=>(nomatch h)
 | y::xss,k,i,h=>by
  show Di (kJ (y.map (·,k)++lW (k+1) xss)) _=_;have ep:TK.bN (TK.bX (y::xss)) i=if y.contains i then 0 else TK.bN (TK.bX xss) i+1:=by
   show List.findIdx _ (some (TK.fC y)::TK.bX xss)=_;rw [List.findIdx_cons,TK.cz];cases y.contains i<;>rfl
  by_cases e:i∈y
  ·rw [o0 e,ep,if_pos (by simpa using e)];rfl
  ·rw [ma e,ep,if_neg (by simpa using e),o7 xss (k+1) i]
   ·congr 2
    lia
   ·rcases BA.mp (show i∈y++xss.flatten from h) with z|z
    ·exact absurd z e
    ·exact z
theorem me {X:Cx}:bJ X (.builtin "len") (fun xs H Q=>∃ (a:Addr) (kvs:List (cJ×V)),xs=[.ref a]/\H a=some (.dK kvs)/\Q (.int (kvs.length:Int)) H):=by
 intro Cj s σ H xs us Q I r h;obtain ⟨a,kvs,rfl,e,q⟩:=h;obtain ⟨u,rfl,rx⟩:=cK r;cases rx;exact Hj I (.inl e) fun t s' I'=>⟨.int _,H,I',⟨t,rfl⟩,q⟩
inductive eV (C:Nat->Addr) (vs:List V) (H:Hp) (Q:VK) (Z3:XK):Prop
 | mk (v t:V) (ms:List Md) (b:Tb):vs=[v,t]->EU C H v ms->DS H t b->(∀ H',Cw H H'->Q (.bl (TK.cR (bI ms) ms.length b)) H')->eV C vs H Q Z3
inductive kM (C:Nat->Addr) (vs:List V) (H:Hp) (Q:VK) (Z3:XK):Prop
 | mk (v:V) (d:Addr) (ms:List Md) (kvs:List (cJ×V)) (g:Nat->Nat):vs=[v,.ref d]->EU C H v ms->H d=some (.dK kvs)->(∀ i,i < ms.length->Di kvs (.inl (i:Int))=some (.int (g i:Int)))->
  (∀ H',Cw H H'->Q (.bl ((List.range ms.length).all fun l=>(List.range l).all fun e=>!(decide (g l<=g e) && bI ms e l))) H')->kM C vs H Q Z3
inductive fZ (C:Nat->Addr) (vs:List V) (H:Hp) (Q:VK) (Z3:XK):Prop
 | mk (v t:V) (ms:List Md) (b:Option (List Tb)):vs=[v,t]->EU C H v ms->Es H t b->(∀ H',Cw H H'->Q (.bl (TK.dE (bI ms) ms.length b)) H')->fZ C vs H Q Z3
theorem EU.at (h:EU C H v ms) (hi:i < ms.length):∃ z m,ms[i]?=some m/\CN C H z m/\∀ Q:VK,Q z H->gu K v (.int (i:Int)) H Q\/pG K v (.int (i:Int)) H Q:=by
 obtain ⟨a,zs,rfl,hs,hp,_⟩:=h;have hz:i < zs.length:=by rw [hp.length];exact hi
 obtain ⟨m,hm,hv⟩:=aQ hp (AL hz);exact ⟨zs[i],m,hm,hv,fun Q q=>hs.ix (AL hz) q⟩
inductive z0 (H:Hp) (v:V) (d:Addr) (R:Bool) (σ:St) (H':Hp):Prop
 | mk (v2 v3:Option V):σ=[some v,some (.ref d),v2,v3]->Cw H H'->R=true->z0 H v d R σ H'
section
variable {P:Program} {w:World} {K:ZF} {mg:Str->Option Value} {base:Heap} {C:Nat->Addr}
theorem qw:ar ["steps","places"] ["steps","places"] (aj fV):=cE zk
theorem vp:(["one","other","steps"]:List Str).Nodup:=by decide +kernel
variable {fd:FuncData} {f:Addr}
theorem nQ (F:C7 K "is_chain" "is_chain" fV f fd) (B:Bl mg) (hzip:mg "zip"=none) (RI:Fn P w K mg base "are_rising" 3 ["steps","thing"] (fY C)) (ME:Fn P w K mg base "meets" 5 ["one","other"] (eO C)):aT P w K mg base bT 6 f fd ["steps","places"] (eV C):=by
 have ZZ:=qw
 walk_at "o"
 ·obtain ⟨v,t,ms,b,rfl,hS,hB,q⟩:=h;have sz:(1000:Nat)<=sizeLine:=by decide
  refine ⟨_,(ah (aN (cq (aW (ap RI hr.m rfl (aa (pv 0) (aa (pv 1) ab))))) (ai (al bG)) aA) (ai (al (ao (D4 rfl) (by rfl) B.all eK (aa (cf (N':=["one","other","steps"]) (ix:=[none,none,some 0]) (sc0:=aj fV) (N:=["steps","places"]) rfl zk (Gv rfl hzip (aa (pv 1) (aa (bD bS (pv 1) (bR ag) bQ) ab))) (fun _ _ _ _ _=>(kF (K:=K) (n:=2) rfl rfl (bu (cZ (i:=0) vp) (bu (cZ (i:=1) vp) dh)))) (fun _ _ _ _ _=>cA) (fun _ _ _ _ _=>(ap ME hr.m rfl (aa (aq (iS (K:=K) rfl) (pv 2) (pv 0)) (aa (aq (iS (K:=K) rfl) (pv 2) (pv 1)) ab))))) ab))))),?_⟩;refine ⟨_,rfl,_,rfl,v,t,ms,b,rfl,hS,hB,fun H1 s1=>⟨_,rfl,?_⟩⟩;unfold TK.cR at q;cases hb:TK.df ms.length b with
  | false=>
   rw [hb] at q;exact bM (q H1 s1)
  | true=>
   rw [hb,Bool.true_and] at q;refine cb ?_;obtain ⟨ns,rfl,Cu,hpw⟩:=TK.fS hb;obtain ⟨a,rfl,ha,hl⟩:=jf hB;rw [TK.cz] at q;refine ⟨_,rfl,_,rfl,_,rfl,kG (r:=1) rfl (s1 _ _ ha) fun p H3 np s13 e3=>?_⟩;have ed:(Cy ns).drop 1=Cy (ns.drop 1):=by unfold Cy;rw [List.map_drop]
   rw [ed] at e3;have s3:=s1.trans s13;refine ⟨a,p,rfl,⟨_,Cz.of (s3 _ _ ha)⟩,⟨_,Cz.of e3⟩,?_⟩;have hle:(Cy (ns.drop 1)).length<=(Cy ns).length:=by rw [am,am,BG];lia
   refine oV (K:=K) (l1:=a) (l2:=p) (xs:=Cy ns) (ys:=Cy (ns.drop 1)) hle (fun i ys H'=>Cw H3 H'/\ys=((List.zipWith (bI ms) ns (ns.drop 1)).take i).map V.bl) ⟨Cw.refl _,rfl⟩ (fun i ys H' hi ⟨s',e⟩=>⟨Cz.of (s' _ _ (s3 _ _ ha)),Cz.of (s' _ _ e3),by rw [e,AM,A7,List.length_zipWith];lia⟩) ?_ ?_
   ·rintro i x y ys H4 T hx4 hy4 nT ⟨s4,rfl⟩;have hlt4:=(AN.mp hy4).1;have hi2:i < (ns.drop 1).length:=by rw [am] at hlt4;exact hlt4
    have hi1:i < ns.length:=by rw [BG] at hi2;lia
    rw [ca (AL hi1)] at hx4;rw [ca (AL hi2)] at hy4;cases hx4;cases hy4;have h1n:=Cu _ (Bq hi1);have h2n:=Cu _ (List.mem_of_mem_drop (Bq hi2));have s5:=s4.trans (ae (o:=.tup [.int (ns[i]:Int),.int ((ns.drop 1)[i]:Int)]) nT);refine ⟨T,_,rfl,CI.of af,rfl,_,_,rfl,_,_,rfl,rfl,?_⟩;have S5:=hS.same (s3.trans s5);generalize aB H4 T _=H5 at *;obtain ⟨z1,m1,e1,v1,k1⟩:=S5.at (K:=K) h1n;obtain ⟨z2,m2,e2,v2,k2⟩:=S5.at (K:=K) h2n;refine ⟨⟨rfl,trivial⟩,cB ?_⟩;refine ⟨_,rfl,_,rfl,k1 _ ⟨_,rfl,_,rfl,k2 _ ?_⟩⟩;refine ⟨_,_,m1,m2,rfl,v1,v2,fun H6 s6=>?_⟩;refine Nx.mk hlt4 ⟨s5.trans s6,?_⟩;rw [By,List.getElem?_zipWith,AL hi1,AL hi2,AY];show _=_++[V.bl (bI ms ns[i] (ns.drop 1)[i])];rw [fv e1 e2]
   ·rintro ys H4 ⟨s4,e4⟩ l2 nl2;rw [am,Bi (by rw [List.length_zipWith];lia)] at e4;subst e4;refine ⟨l2,_,rfl,Cz.of af,?_⟩;rw [oW];exact q _ ((s3.trans s4).trans (ae nl2))
theorem EO:ar ["steps","beat_of","later","earlier"] ["steps","beat_of"] (aj nM):=cE zk
theorem sT (F:C7 K "keeps_order" "keeps_order" nM f fd) (B:Bl mg) (ME:Fn P w K mg base "meets" 5 ["one","other"] (eO C)):aT P w K mg base bT 6 f fd ["steps","beat_of"] (kM C):=by
 have ZZ:=EO
 walk_at "o"
 ·obtain ⟨v,d,ms,kvs,g,rfl,hS,hd,hg,q⟩:=h;have hu:=vo hr;have hl:=hS.l100;refine ⟨_,(ah (bY PassesOwn.never rfl (bB rfl B.range (aa (ao aw (by rfl) B.len A4 (aa (pv 0) ab)) ab)) (cZ (i:=2) EO.nd) (ai (bY PassesOwn.never rfl (bB rfl B.range (aa (pv 2) ab)) (cZ (i:=3) EO.nd) (ai (aN (PW.pt (il (aC qR (FA hu (pv 1) (pv 3)) (FA hu (pv 1) (pv 2))) (fF (aW (ap ME hr.m rfl (aa (aq (iS (K:=K) rfl) (pv 0) (pv 3)) (aa (aq (iS (K:=K) rfl) (pv 0) (pv 2)) ab))))))) (ai (al bG)) aA))))) (ai (al bG))),?_⟩;obtain ⟨pz,yz,rfl,hsq,el⟩:=hS.lenx (K:=K);refine ⟨_,rfl,pz,yz,rfl,hsq,?_⟩;rw [el];refine ⟨(ms.length:Int),rfl,by lia,by lia,?_⟩;refine c7 (lo:=0) (fun i σ H'=>z0 H (.ref pz) d ((List.range i).all fun l=>(List.range l).all fun e=>!(decide (g l<=g e) && bI ms e l)) σ H') ⟨none,none,rfl,Cw.refl _,rfl⟩ ?_ ?_
  ·rintro i σ H1 hi ⟨v2,v3,rfl,s1,e1⟩;have hi':i < ms.length:=by simpa using hi
   rw [Int.zero_add];refine ⟨_,rfl,(i:Int),rfl,by lia,by lia,?_⟩;refine c7 (lo:=0) (fun j σ H'=>∃ v3,σ=[some (.ref pz),some (.ref d),some (.int (i:Int)),v3]/\Cw H H'/\((List.range j).all fun e=>!(decide (g i<=g e) && bI ms e i))=true) ⟨v3,rfl,s1,rfl⟩ ?_ ?_
   ·rintro j σ H2 hj ⟨w3,rfl,s2,e2⟩;have hj':j < i:=by simpa using hj
    rw [Int.zero_add];refine ⟨_,rfl,_,rfl,d,_,rfl,by have:=Ez.k (k:=Sum.inl (j:Int)) (s2 _ _ hd);rw [hg j (by lia)] at this;exact this,?_⟩;refine ⟨_,rfl,_,rfl,d,_,rfl,by have:=Ez.k (k:=Sum.inl (i:Int)) (s2 _ _ hd);rw [hg i hi'] at this;exact this,?_⟩;refine ⟨_,_,rfl,rfl,_,rfl,?_⟩;have nxt:∀ (H3:Hp),Cw H H3->(!(decide (g i<=g j) && bI ms j i))=true->∃ v3,[some (V.ref pz),some (.ref d),some (.int (i:Int)),some (.int (j:Int))]=[some (.ref pz),some (.ref d),some (.int (i:Int)),v3]/\Cw H H3/\((List.range (j+1)).all fun e=>!(decide (g i<=g e) && bI ms e i))=true:=fun H3 s3 h=>by
     refine ⟨_,rfl,s3,?_⟩;rw [Bs,List.all_append,e2,List.all_cons,List.all_nil,h];rfl
    refine bz (fun h=>?_) (fun h=>?_)
    ·have hge:g i<=g j:=by have:=of_decide_eq_true h;lia
     have S2:=hS.same s2;obtain ⟨z1,m1,q1,w1,k1⟩:=S2.at (K:=K) (i:=j) (by lia);obtain ⟨z2,m2,q2,w2,k2⟩:=S2.at (K:=K) (i:=i) hi';refine ⟨_,rfl,_,rfl,k1 _ ⟨_,rfl,_,rfl,k2 _ ?_⟩⟩;refine ⟨_,_,m1,m2,rfl,w1,w2,fun H3 s3=>⟨_,rfl,?_⟩⟩;rw [<-fv q1 q2];refine bz (fun h2=>?_) (fun h2=>?_)
     ·have ef:((List.range ms.length).all fun l=>(List.range l).all fun e=>!(decide (g l<=g e) && bI ms e l))=false:=by
       rw [List.all_eq_false];refine ⟨i,A3.mpr hi',?_⟩;rw [Bool.not_eq_true,List.all_eq_false];refine ⟨j,A3.mpr hj',?_⟩;rw [decide_eq_true hge,h2];decide
      have:=q H3 (s2.trans s3);rw [ef] at this;exact this
     ·exact nxt H3 (s2.trans s3) (by rw [BU.mpr h2,Bool.and_false];rfl)
    ·refine nxt H2 s2 ?_;have:decide (g i<=g j)=false:=decide_eq_false fun z=>h (decide_eq_true (by lia));rw [this,Bool.false_and];rfl
   ·rintro σ H2 ⟨w3,rfl,s2,e2⟩;refine ⟨_,_,rfl,s2,?_⟩;rw [A1] at e2;rw [Bs,List.all_append,e1,List.all_cons,List.all_nil,e2];rfl
  ·rintro σ H1 ⟨v2,v3,rfl,s1,e1⟩;rw [A1] at e1;have:=q H1 s1;rw [e1] at this;exact this
end
end L3
set_option autoImplicit true
set_option relaxedAutoImplicit true
namespace L3
open PySem L2
open TK (Ti Tb)
variable {x:List Nat} {i:Nat} {xss:List (List Nat)}
theorem jg (h:xss[i]?=some x) (j:Nat):∃ r,xss.flatten=((xss.take i).flatten++x.take j)++r:=by
 have h1:xss=xss.take i++x::xss.drop (i+1):=by
  obtain ⟨hi,e⟩:=AN.mp h;rw [<-e,<-B8 hi,BR]
 refine ⟨x.drop j++(xss.drop (i+1)).flatten,?_⟩;conv=>lhs;rw [h1]
 rw [List.flatten_append,BQ,BJ,<-BJ (x.take j),BR]
theorem mf (h:xss[i]?=some x):(xss.take (i+1)).flatten=(xss.take i).flatten++x:=by
 rw [By,h,List.flatten_append];show _++[x].flatten=_;rw [BQ,List.flatten_nil,Ba]
inductive Aa (H:Hp) (v:V) (a d:Addr) (xss:List (List Nat)) (i:Nat) (σ:St) (H':Hp):Prop
 | mk (v3 v4 v5:Option V):σ=[some v,some (.ref a),some (.ref d),v3,v4,v5]->Cw H H'->H' d=some (.dK (kJ (lW 0 (xss.take i))))->(xss.take i).flatten.Nodup->Aa H v a d xss i σ H'
inductive Ab (H:Hp) (v:V) (a d ax:Addr) (xss:List (List Nat)) (x:List Nat) (i j:Nat) (σ:St) (H':Hp):Prop
 | mk (v5:Option V):σ=[some v,some (.ref a),some (.ref d),some (.int (i:Int)),some (.ref ax),v5]->Cw H H'->H' d=some (.dK (kJ (lW 0 (xss.take i)++(x.take j).map (·,i))))->((xss.take i).flatten++x.take j).Nodup->Ab H v a d ax xss x i j σ H'
theorem jh {f:Nat->Nat->Bool} {n:Nat} {bs:List Tb} (h:TK.nI n bs=false\/¬ (TK.bq bs).Nodup):TK.dE f n (some bs)=false:=by
 show (TK.nI n bs && ((decide (TK.bq bs).Nodup && decide ((TK.bq bs).length=n)) && TK.jt f n bs))=false;rcases h with h|h
 ·rw [h,Bool.false_and]
 ·rw [decide_eq_false h,Bool.false_and,Bool.false_and,Bool.and_false]
theorem cn {α:Type} {l:List α} {x:α} (h:l[i]?=some x):l.take (i+1)=l.take i++[x]:=by rw [By,h];rfl
theorem nR {H:Hp}:∀ {ys:List V} {xss:List (List Nat)},Paired (DS H) ys (TK.bX xss)->Paired (fun y x=>∃ a,y=V.ref a/\H a=some (.lst (Cy x))/\x.length<=60) ys xss
 | _,[],.nil=>.nil
 | _,x::xss,.cons h t=>.cons (jf h) (nR (xss:=xss) t)
section
variable {P:Program} {w:World} {K:ZF} {mg:Str->Option Value} {base:Heap} {C:Nat->Addr}
theorem DJ:ar ["steps","beats","beat_of","at","beat","number"] ["steps","beats"] (aj ig):=cE zk
theorem wW:(["beat","steps"]:List Str).Nodup:=by decide +kernel
theorem qx {f:Addr} {fd:FuncData} (F:C7 K "is_packing" "is_packing" ig f fd) (B:Bl mg) (B2:rW mg) (RI:Fn P w K mg base "are_rising" 3 ["steps","thing"] (fY C)) (KO:Fn P w K mg base "keeps_order" 6 ["steps","beat_of"] (kM C)):aT P w K mg base bT 7 f fd ["steps","beats"] (fZ C):=by
 have ZZ:=DJ
 walk_at "o"
 ·obtain ⟨v,t,ms,b,rfl,hS,hB,q⟩:=h;have hu:=vo hr;have sz:(100000:Nat)<=sizeLine:=by decide
  refine ⟨_,(ah (aN (PW.pt (dS (cq (aW (ao (Dh (T:="list")) (by rfl) B.isinstance bE (aa (pv 1) (aa (Dm (by rfl) B.list cg) ab))))) (c9 (cq (aW (ao (D4 rfl) (by rfl) B.all eK (aa (cf (N':=["beat","steps"]) (ix:=[none,some 0]) (sc0:=aj ig) (N:=["steps","beats","beat_of","at","beat","number"]) rfl zk (bn (pv 1)) (fun _ _ _ _ _=>(cZ (i:=0) wW)) (fun _ _ _ _ _=>cA) (fun _ _ _ _ _=>(bP (ap RI hr.m rfl (aa (pv 1) (aa (pv 0) ab))) (cr (cH (oU (K:=K) rfl hr) (pv 0) (au ab)))))) ab))))))) (ai (al bG)) aA) (ah (eY (i:=2) DJ.nd D1) (ah (bY PassesOwn.never rfl (D6 rfl B2.enumerate (aa (pv 1) ab)) (gj rfl (bu (cZ (i:=3) DJ.nd) (bu (cZ (i:=4) DJ.nd) dh))) (ai (bY PassesOwn.never rfl (bn (pv 4)) (cZ (i:=5) DJ.nd) (ah (aN (vC (GX hu (pv 5) (pv 2))) (ai (al bG)) aA) (ai (GB hu (pv 2) (pv 5) (pv 3) rfl)))))) (ai (al (bP (cH bC (ao me (by rfl) B.len A4 (aa (pv 2) ab)) (ao aw (by rfl) B.len A4 (aa (pv 0) ab))) (cr (ap KO hr.m rfl (aa (pv 0) (aa (pv 2) ab)))))))))),?_⟩;obtain ⟨ty,ht,e1⟩:=hB.ty (K:=K);refine ⟨_,rfl,t,ty,_,rfl,ht,e1,_,rfl,?_⟩;cases b with
  | none=>exact bM (q H (Cw.refl _))
  | some bs=>
   refine cb ?_;obtain ⟨a,xs,rfl,hx,hp,hl⟩:=hB.list;have hpl:=hp.length;refine ⟨_,rfl,a,rfl,⟨_,Cz.of hx⟩,?_⟩;refine bU (K:=K) (a:=a) (xs:=xs) (fun i ys H'=>Cw H H'/\ys=((bs.take i).map fun b=>TK.df ms.length b && decide (b≠some [])).map V.bl) ⟨Cw.refl _,rfl⟩ (fun i ys H' hi ⟨s',e⟩=>⟨Cz.of (s' _ _ hx),by rw [e,AM,AM,A7];lia⟩) ?_ ?_
   ·rintro i x ys H1 hx1 ⟨s1,rfl⟩;obtain ⟨b,hb,hxb⟩:=aQ hp hx1;have nxt:∀ (H':Hp) (r:Bool),Cw H H'->r=(TK.df ms.length b && decide (b≠some []))->Nx (fun i ys H'=>Cw H H'/\ys=((bs.take i).map fun b=>TK.df ms.length b && decide (b≠some [])).map V.bl) xs.length i (((bs.take i).map fun b=>TK.df ms.length b && decide (b≠some [])).map V.bl++[V.bl r]) H':=fun H' r s' er=>by
     refine Nx.mk (AN.mp hx1).1 ⟨s',?_⟩;rw [cn hb,AY,AY,er];rfl
    refine ⟨⟨rfl,trivial⟩,cB ?_⟩;refine ⟨_,rfl,_,rfl,v,x,ms,b,rfl,hS.same s1,hxb.same s1,fun H2 s2=>⟨_,rfl,?_⟩⟩;refine bz (fun h=>?_) (fun h=>?_)
    ·obtain ⟨l,rfl,Cu,hpw⟩:=TK.fS h;obtain ⟨ax,rfl,hax,hll⟩:=jf hxb;refine ⟨_,rfl,CM,fun le ne=>?_⟩;have s3:=s2.trans (ae (o:=.lst []) ne);have e3:aB H2 le (.lst []) le=some (.lst (Cy [])):=af;generalize aB H2 le (.lst [])=H3 at *;refine kI (s3 _ _ (s1 _ _ hax)) e3 (nxt H3 _ (s1.trans s3) ?_);rw [h,Bool.true_and];cases l<;>simp [TK.fC]
    ·have hf:TK.df ms.length b=false:=BU.mpr h;have:=nxt H2 false (s1.trans s2) (by rw [hf,Bool.false_and]);exact this
   ·rintro ys H1 ⟨s1,e⟩ l nl;rw [hpl,Bf] at e;subst e;refine ⟨l,bs.map fun b=>TK.df ms.length b && decide (b≠some []),rfl,Cz.of af,_,rfl,?_⟩;have s2:=s1.trans (ae (o:=.lst ((bs.map fun b=>TK.df ms.length b && decide (b≠some [])).map V.bl)) nl);generalize aB H1 l _=H2 at *;have eall:(bs.map fun b=>TK.df ms.length b && decide (b≠some [])).all id=TK.nI ms.length bs:=by rw [Ch];rfl
    rw [eall];cases hb:TK.nI ms.length bs with
    | false=>
     have:=q H2 s2;rw [jh (.inl hb)] at this;exact bM this
    | true=>
     refine cb ?_;obtain ⟨xss,rfl,hxs⟩:=nP hb;have hq:=nR hp;have hlx:xs.length=xss.length:=hq.length;have hmem:∀ k∈xss.flatten,k < ms.length:=fun k hk=>by
      obtain ⟨x,h1,h2⟩:=List.mem_flatten.mp hk;exact (hxs x h1).2.2 k h2
     have ep:TK.dE (bI ms) ms.length (some (TK.bX xss))=((decide xss.flatten.Nodup && decide (xss.flatten.length=ms.length)) && TK.jt (bI ms) ms.length (TK.bX xss)):=by
      show (TK.nI ms.length (TK.bX xss) && ((decide (TK.bq (TK.bX xss)).Nodup && decide ((TK.bq (TK.bX xss)).length=ms.length)) && _))=_;rw [hb,TK.cy,Bool.true_and]
     refine fun d ndd=>?_;have hd0:H d=none:=s2.free ndd;have s3:=s2.trans (ae (o:=.dK []) ndd);have e3:aB H2 d (.dK []) d=some (.dK []):=af;generalize aB H2 d (.dK [])=H3 at *;have nad:a≠d:=fun z=>by rw [z,hd0] at hx;cases hx
     refine ⟨_,rfl,a,rfl,⟨_,Cz.of (s3 _ _ hx)⟩,?_⟩;refine D3 (K:=K) (l:=a) (xs:=xs) (fun i σ H'=>Aa H v a d xss i σ H') ⟨none,none,none,rfl,s3,e3,List.nodup_nil⟩ (fun _ _ H' _ ⟨_,_,_,_,s',_,_⟩=>Cz.of (s' _ _ hx)) ?_ ?_
     ·rintro i y σ H4 T hy nT ⟨v3,v4,v5,rfl,s4,e4,n4⟩;obtain ⟨x,hxi,ax,rfl,hax,hxl⟩:=aQ hq hy;have s5:=s4.trans (ae (o:=.tup [.int (i:Int),.ref ax]) nT);have e5:=(ae (o:=.tup [.int (i:Int),.ref ax]) nT) _ _ e4;refine ⟨T,_,rfl,CI.of af,rfl,_,_,rfl,_,_,rfl,rfl,?_⟩;generalize aB H4 T _=H5 at *;refine ⟨_,rfl,ax,rfl,⟨_,Cz.of (s5 _ _ hax)⟩,?_⟩;refine dz (K:=K) (a:=ax) (xs:=Cy x) (fun j σ H'=>Ab H v a d ax xss x i j σ H') ⟨v5,rfl,s5,by rw [List.take_zero,Ci,Ba];exact e5,by rw [List.take_zero,Ba];exact n4⟩ (fun _ _ H' _ ⟨_,_,s',_,_⟩=>Cz.of (s' _ _ hax)) ?_ ?_
      ·rintro j z σ H6 hz ⟨w5,rfl,s6,e6,n6⟩;have hj:j < x.length:=by have:=(AN.mp hz).1;rw [am] at this;exact this
       have hxj:=AL hj;rw [ca hxj] at hz;cases hz;have efst:(lW 0 (xss.take i)++(x.take j).map (·,i)).map (·.1)=(xss.take i).flatten++x.take j:=by
        rw [AY,kK,BW]
        congr 1
        exact List.map_id _
       have Ck:(kJ (lW 0 (xss.take i)++(x.take j).map (·,i))).length<=20000:=by
        have h1:(kJ (lW 0 (xss.take i)++(x.take j).map (·,i))).length=((xss.take i).flatten++x.take j).length:=by rw [<-efst];simp [kJ]
        rw [h1];have:=TK.kC ms.length _ n6 (fun k hk=>hmem k (by
         obtain ⟨r,hr'⟩:=jg hxi j;rw [hr'];exact BL _ hk))
        have:=hS.l100;lia
       refine ⟨_,rfl,_,rfl,d,_,rfl,Ez.k (k:=Sum.inl (x[j]:Int)) e6,_,rfl,?_⟩;by_cases hin:x[j]∈(xss.take i).flatten++x.take j
       ·rw [lZ (by rw [efst];exact hin)];refine bM ?_;have:=q H6 s6;rw [jh (.inr fun hnd=>?_)] at this
        ·exact this
        ·rw [TK.cy] at hnd;obtain ⟨r,hr'⟩:=jg hxi (j+1);rw [hr',cn hxj,<-BJ] at hnd;have h1:=(BP.mp hnd).1;exact (BP.mp h1).2.2 _ hin _ (AU.mpr rfl) rfl
       ·have hno:=lY (l:=lW 0 (xss.take i)++(x.take j).map (·,i)) (i:=x[j]) (by rw [efst];exact hin);rw [hno];refine cb ?_;refine ⟨_,rfl,_,rfl,_,rfl,d,_,rfl,Gg.k (k:=Sum.inl (x[j]:Int)) e6 (by lia),?_⟩;rw [Gq _ hno];refine ⟨_,rfl,ak hd0 s6,?_,?_⟩
        ·rw [af,cn hxj,AY,<-BJ];simp only [kJ,AY,BB,Ci]
        ·rw [cn hxj,<-BJ];refine BP.mpr ⟨n6,by simp,fun y hy z hz e=>?_⟩;rw [AU.mp hz] at e;exact hin (e ▸ hy)
      ·rintro σ H6 ⟨w5,rfl,s6,e6,n6⟩;rw [am,Bf] at e6 n6;refine ⟨_,_,_,rfl,s6,?_,by rw [mf hxi];exact n6⟩;rw [cn hxi,lX,e6];have hli:(xss.take i).length=i:=by
        rw [A7];have:=(AN.mp hxi).1;lia
       rw [hli,Nat.zero_add]
     ·rintro σ H4 ⟨v3,v4,v5,rfl,s4,e4,n4⟩;rw [hlx,Bf] at e4 n4;rw [ep,decide_eq_true n4,Bool.true_and] at q;obtain ⟨pz,yz,rfl,hsq,el⟩:=(hS.same s4).lenx (K:=K);refine ⟨_,rfl,d,_,rfl,e4,_,rfl,pz,yz,rfl,hsq,rfl,_,rfl,?_⟩;have ekl:(kJ (lW 0 xss)).length=xss.flatten.length:=by rw [<-kK xss 0];simp [kJ]
      rw [ekl,el,xL];have eid:decide ((xss.flatten.length:Int)=(ms.length:Int))=decide (xss.flatten.length=ms.length):=by rw [decide_eq_decide];lia
      rw [eid];cases hc:decide (xss.flatten.length=ms.length) with
      | false=>
       rw [hc,Bool.false_and] at q;exact cb (q H4 s4)
      | true=>
       rw [hc,Bool.true_and] at q;have hc':=of_decide_eq_true hc;refine bM ?_;refine ⟨_,rfl,_,rfl,.ref pz,d,ms,_,fun i=>TK.bN (TK.bX xss) i,rfl,hS.same s4,e4,fun i hi=>?_,fun H5 s5=>q H5 (s4.trans s5)⟩;have:=o7 xss 0 i (TK.nJ n4 hmem hc' hi);rw [Nat.zero_add] at this;exact this
end
end L3
set_option autoImplicit true
set_option relaxedAutoImplicit true
namespace L3
open PySem L2
open TK (Ti Tb)
theorem uN (ms:List Md) (i j:Nat):bI ms i j=bI ms j i:=by
 unfold bI;cases ms[i]?<;>cases ms[j]?<;>first|rfl|exact Bool.or_comm _ _
structure Gf (f:Nat->Nat->Bool) (n:Nat) (g:Nat->Nat) (T i:Nat) (c:List Nat):Prop where
 len:c.length=i
 lt:∀ k∈c,k < n
 pw:c.Pairwise (· < ·)
 con:TK.kA f c=true
 hd:∀ x r,c=x::r->g x+i=T
variable {g:Nat->Nat} {n T:Nat} {f:Nat->Nat->Bool}
theorem Gf.nil:Gf f n g T 0 []:=⟨rfl,fun _ h=>(nomatch h),.nil,rfl,fun _ _ h=>(nomatch h)⟩
variable {x:Nat}
theorem Gf.one (h:x < n) (e:g x+1=T):Gf f n g T 1 [x]:=⟨rfl,fun k hk=>by rw [AU.mp hk];exact h,List.pairwise_singleton _ _,rfl,fun y r h=>by cases h;exact e⟩
theorem Gf.cons {n T i x y:Nat} {r:List Nat} (C:Gf f n g T i (y::r)) (h:x < n) (hxy:x < y) (hf:f x y=true) (e:g x+(i+1)=T):Gf f n g T (i+1) (x::y::r) where
 len:=by rw [Bj,C.len]
 lt:=fun k hk=>by
  rcases AZ.mp hk with rfl|hk
  ·exact h
  ·exact C.lt k hk
 pw:=List.pairwise_cons.mpr ⟨fun z hz=>by
  rcases AZ.mp hz with rfl|hz
  ·exact hxy
  ·exact Nat.lt_trans hxy ((List.pairwise_cons.mp C.pw).1 z hz),C.pw⟩
 con:=by rw [TK.lU,hf,C.con];rfl
 hd:=fun z s h=>by cases h;exact e
theorem uO {ms:List Md} {k:Nat} (h:k < TK.bF (aP ms ms.length)):(eB ms ms.length)[k]?=some ((List.range ms.length).filter fun i=>(aP ms ms.length).getD i 0 == k):=by
 unfold eB TK.dX;have e:(aP ms ms.length).take ms.length=aP ms ms.length:=Bi (by unfold aP;rw [TK.bW];exact AR _);rw [e,A5,List.getElem?_range h];rfl
theorem mh (ms:List Md):(eB ms ms.length).length=TK.bF (aP ms ms.length):=by
 unfold eB;rw [TK.fO];have e:(aP ms ms.length).take ms.length=aP ms ms.length:=Bi (by unfold aP;rw [TK.bW];exact AR _);rw [e]
inductive kN (C:Nat->Addr) (vs:List V) (H:Hp) (Q:VK) (Z3:XK):Prop
 | mk (v:V) (a:Addr) (ms:List Md) (xs:List Nat) (k:Nat):vs=[v,.ref a,.int (k:Int)]->EU C H v ms->H a=some (.lst (Cy xs))->xs.length<=200->(∀ x∈xs,x < ms.length)->k < ms.length->(∃ x∈xs,bI ms x k=true)->
  (∀ x,x∈xs->bI ms x k=true->∀ H',Cw H H'->Q (.int (x:Int)) H')->kN C vs H Q Z3
inductive gM (C:Nat->Addr) (vs:List V) (H:Hp) (Q:VK) (Z3:XK):Prop
 | mk (v:V) (ms:List Md):vs=[v]->EU C H v ms->(∀ l c H',Cw H H'->H l=none->H' l=some (.lst (Cy c))->c.length<=ms.length->(∀ k∈c,k < ms.length)->c.Pairwise (· < ·)->TK.kA (bI ms) c=true->Q (.ref l) H')->gM C vs H Q Z3
inductive zM (H2:Hp) (v:V) (lc:Addr) (f:Nat->Nat->Bool) (n:Nat) (g:Nat->Nat) (T i:Nat) (σ:St) (H':Hp):Prop
 | mk (v2:Option V) (c:List Nat):σ=[some v,some (.ref lc),v2]->Dy lc H2 H'->H' lc=some (.lst (Cy c))->Gf f n g T i c->zM H2 v lc f n g T i σ H'
section
variable {P:Program} {w:World} {K:ZF} {mg:Str->Option Value} {base:Heap} {C:Nat->Addr}
theorem uP:ar ["steps","beat","number"] ["steps","beat","number"] (aj kE):=cE zk
theorem sU:(["other","number","steps"]:List Str).Nodup:=by decide +kernel
variable {fd:FuncData}
theorem sV {f:Addr} (F:C7 K "first_that_meets" "first_that_meets" kE f fd) (B:Bl mg) (ME:Fn P w K mg base "meets" 5 ["one","other"] (eO C)):aT P w K mg base bT 6 f fd ["steps","beat","number"] (kN C):=by
 have ZZ:=uP
 walk_at "o"
 ·obtain ⟨v,a,ms,xs,k,rfl,hS,ha,hl,Cu,hk,hex,q⟩:=h;have sz:(1000:Nat)<=sizeLine:=by decide
  refine ⟨_,(ai (al (ao (qp rfl) (by rfl) B.min PyProof.Rows.boot_min (aa (cf (N':=["other","number","steps"]) (ix:=[none,some 2,some 0]) (sc0:=aj kE) (N:=["steps","beat","number"]) rfl zk (bn (pv 1)) (fun _ _ _ _ _=>(cZ (i:=0) sU)) (fun _ _ _ _ _=>(cN (aW (ap ME hr.m rfl (aa (aq (iS (K:=K) rfl) (pv 2) (pv 0)) (aa (aq (iS (K:=K) rfl) (pv 2) (pv 1)) ab)))))) (fun _ _ _ _ _=>(pv 0))) ab)))),?_⟩;refine ⟨_,rfl,a,rfl,⟨_,Cz.of ha⟩,?_⟩;refine bU (K:=K) (a:=a) (xs:=Cy xs) (fun i ys H'=>Cw H H'/\ys=Cy ((xs.take i).filter fun x=>bI ms x k)) ⟨Cw.refl _,rfl⟩ (fun i ys H' hi ⟨s',e⟩=>⟨Cz.of (s' _ _ ha),by
   rw [e,am];have:=List.length_filter_le (fun x=>bI ms x k) (xs.take i);rw [A7] at this;lia⟩) ?_ ?_
  ·rintro i x ys H1 hx ⟨s1,rfl⟩;have hi:=(AN.mp hx).1;have hi':i < xs.length:=by rw [am] at hi;exact hi
   have hxi:=AL hi';rw [ca hxi] at hx;cases hx;have S1:=hS.same s1;obtain ⟨z1,m1,e1,v1,k1⟩:=S1.at (K:=K) (Cu _ (Bq hi'));obtain ⟨z2,m2,e2,v2,k2⟩:=S1.at (K:=K) hk;refine ⟨⟨rfl,rfl,trivial⟩,?_⟩;refine ⟨_,rfl,_,rfl,k1 _ ⟨_,rfl,_,rfl,k2 _ ?_⟩⟩;refine ⟨_,_,m1,m2,rfl,v1,v2,fun H2 s2=>⟨_,rfl,?_⟩⟩;rw [<-fv e1 e2];refine bz (fun h=>?_) (fun h=>?_)
   ·refine ⟨_,rfl,Nx.mk hi ⟨s1.trans s2,?_⟩⟩;rw [cn hxi,Bp,List.filter_cons,if_pos h,List.filter_nil,<-cj]
   ·refine Nx.mk hi ⟨s1.trans s2,?_⟩;rw [cn hxi,Bp,List.filter_cons,if_neg h,List.filter_nil,Ba]
  ·rintro ys H1 ⟨s1,e⟩ l nl;rw [am,Bf] at e;subst e;refine ⟨l,_,rfl,Cz.of (by rw [CZ];exact af),?_,fun m hm=>?_⟩
   ·obtain ⟨x,hx,hf⟩:=hex;intro z;have:=List.map_eq_nil_iff.mp z;have hm:x∈xs.filter fun x=>bI ms x k:=Bc.mpr ⟨hx,hf⟩;rw [this] at hm;cases hm
   ·obtain ⟨x,hx,rfl⟩:=Bo.mp hm.1;obtain ⟨h1,h2⟩:=Bc.mp hx;exact q x h1 h2 _ (s1.trans (ae nl))
theorem Ea:ar ["steps","chain","beat"] ["steps"] (aj jc):=cE zk
theorem nS {f:Addr} (F:C7 K "chain_of" "chain_of" jc f fd) (B:Bl mg) (B2:rW mg) (PK:Fn P w K mg base "packed" 7 ["steps"] (iU C)) (FI:Fn P w K mg base "first_that_meets" 6 ["steps","beat","number"] (kN C)):aT P w K mg base bT 8 f fd ["steps"] (gM C):=by
 have ZZ:=Ea
 walk_at "o"
 ·obtain ⟨v,ms,rfl,hS,q⟩:=h;have sz:(1000:Nat)<=sizeLine:=by decide
  have hn:=hS.l100;refine ⟨_,(ah (eY (i:=1) Ea.nd (au ab)) (ah (bY PassesOwn.never rfl (GZ rfl B2.reversed (aa (ap PK hr.m rfl (aa (pv 0) ab)) ab)) (cZ (i:=2) Ea.nd) (ai (cT (fb Bx PySem.F.slot_list_insert PySem.F.type_list_insert qq (pv 1) (aa ag (aa (kX (cq (qW (pv 1) (fun _=>rfl))) (aq aG (pv 2) ag) (ap FI hr.m rfl (aa (pv 0) (aa (pv 2) (aa (aq aG (pv 1) ag) ab))))) ab)))))) (ai (al (pv 1))))),?_⟩;refine ⟨CM,fun lc nlc=>?_⟩;have s1:=ae (o:=.lst []) nlc;have e1:aB H lc (.lst []) lc=some (.lst []):=af;generalize aB H lc (.lst [])=H1 at *;obtain ⟨av,zs,rfl,hsq,hpp,hz⟩:=id (hS.same s1);refine ⟨_,rfl,av,zs,ms,rfl,hsq,hpp,by lia,fun l as H2 s2 nl nla L=>?_⟩;have nlc2:lc∉as:=fun z=>by have:=L.fr _ z;rw [e1] at this;cases this
  have nll:l≠lc:=fun z=>by rw [z,e1] at nl;cases nl
  have e2:=s2 _ _ e1;have s02:=s1.trans s2;have hal:as.length=TK.bF (aP ms ms.length):=by rw [L.it.length,mh]
  have hT:TK.bF (aP ms ms.length)<=ms.length:=TK.iP _ _;have nav:av≠lc:=fun z=>by
   obtain ⟨a',zs',ez,hs',_,_⟩:=hS;cases ez;rcases hs' with h|h<;>rw [z,nlc] at h<;>cases h
  refine ⟨l,as.map V.ref,rfl,Cz.of L.ls,?_⟩;have SB:∀ {H':Hp},Dy lc H2 H'->Cw H H':=fun {H'} b c u e=>b c u (s02 c u e) fun z=>by rw [z,nlc] at e;cases e
  refine GD (K:=K) (a:=l) (xs:=as.map V.ref) (fun i σ H'=>zM H2 (.ref av) lc (bI ms) ms.length (fun i=>(aP ms ms.length).getD i 0) (TK.bF (aP ms ms.length)) i σ H') ⟨none,[],rfl,Dy.refl _ _,e2,Gf.nil⟩ (fun i σ H' _ ⟨_,_,_,b',_,_⟩=>Cz.of (b' _ _ L.ls nll)) ?_ ?_
  ·rintro i x σ H3 hi hx ⟨v2,c,rfl,b3,e3,C3⟩;rw [AM] at hi hx;have hb:as.length - 1 - i < as.length:=by lia
   rw [A5,AL hb] at hx;cases hx;obtain ⟨xs,hxs,hlx⟩:=aQ L.it (AL hb);have hk:as.length - 1 - i < TK.bF (aP ms ms.length):=by lia
   rw [uO hk] at hxs;cases hxs;have hbx:as[as.length - 1 - i]≠lc:=fun z=>nlc2 (z ▸ Bq hb);have ebx:=b3 _ _ hlx hbx;have put:∀ (x:Nat) (H4:Hp) (w2:Option V),Dy lc H2 H4->H4 lc=some (.lst (Cy c))->Gf (bI ms) ms.length (fun i=>(aP ms ms.length).getD i 0) (TK.bF (aP ms ms.length)) (i+1) (x::c)->zM H2 (.ref av) lc (bI ms) ms.length (fun i=>(aP ms ms.length).getD i 0) (TK.bF (aP ms ms.length)) (i+1) [some (.ref av),some (.ref lc),w2] (aB H4 lc (.lst ((Cy c).take (0:Int).toNat++V.int (x:Int)::(Cy c).drop (0:Int).toNat))):=fun x H4 w2 b4 e4 C4=>by
    refine ⟨w2,x::c,rfl,fun d u e nd=>?_,?_,C4⟩
    ·rw [az nd];exact b4 d u e nd
    ·rw [af];rfl
   have hclen:(Cy c).length<=100000:=by rw [am,C3.len];lia
   refine ⟨_,rfl,.inl ⟨rfl,_,Cz.of e3⟩,_,rfl,_,.inl ⟨_,Cz.of e3,rfl⟩,?_⟩;cases c with
   | nil=>
    refine bM ?_;have h0:i=0:=by have:=C3.len;exact this.symm
    subst h0;obtain ⟨y,hy,hny⟩:=TK.jb (bI ms) ms.length (as.length - 1 - 0) (by have:=hk;unfold aP at this;exact this);have hm:y∈(List.range ms.length).filter fun i=>(aP ms ms.length).getD i 0 == as.length - 1 - 0:=Bc.mpr ⟨A3.mpr hy,by unfold aP;rw [hny];simp⟩;generalize hcl:((List.range ms.length).filter fun i=>(aP ms ms.length).getD i 0 == as.length - 1 - 0)=cl at *;cases cl with
    | nil=>cases hm
    | cons x0 cl=>
     have hx0:x0∈(List.range ms.length).filter fun i=>(aP ms ms.length).getD i 0 == as.length - 1 - 0:=by rw [hcl];exact AX ..
     obtain ⟨h1,h2⟩:=Bc.mp hx0;have h2':(aP ms ms.length).getD x0 0=as.length - 1 - 0:=by simpa using h2
     refine ⟨_,rfl,_,_,_,_,rfl,rfl,Cz.of ebx,zp _ _,?_⟩;exact ⟨lc,_,_,0,rfl,rfl,e3,by lia,by lia,hclen,put x0 H3 _ b3 e3 (Gf.one (A3.mp h1) (by show (aP ms ms.length).getD x0 0+1=_;lia))⟩
   | cons y r=>
    refine cb ?_;have hy:=C3.lt y (AX ..);have hgy:(aP ms ms.length).getD y 0+i=TK.bF (aP ms ms.length):=C3.hd y r rfl;have hi0:i=r.length+1:=by have:=C3.len;rw [Bj] at this;exact this.symm
    obtain ⟨o,ho1,ho2,ho3⟩:=TK.qr (f:=bI ms) (n:=ms.length) (j:=y) (k:=as.length - 1 - i) hy (by show (aP ms ms.length).getD y 0=_;lia);refine ⟨_,rfl,_,rfl,_,rfl,lc,_,_,_,rfl,rfl,Cz.of e3,zp _ _,?_⟩;refine ⟨.ref av,as[as.length - 1 - i],ms,_,y,rfl,hS.same (SB b3),ebx,?_,fun x hx=>A3.mp (Bc.mp hx).1,hy,⟨o,Bc.mpr ⟨A3.mpr (by lia),?_⟩,ho2⟩,fun x hx hf H4 s4=>?_⟩
    ·have:=List.length_filter_le (fun i_1=>(aP ms ms.length).getD i_1 0 == as.length - 1 - i) (List.range ms.length);rw [List.length_range] at this;lia
    ·have:(aP ms ms.length).getD o 0=as.length - 1 - i:=ho3;rw [this];simp
    ·obtain ⟨h1,h2⟩:=Bc.mp hx;have h2':(aP ms ms.length).getD x 0=as.length - 1 - i:=by simpa using h2
     have hxn:=A3.mp h1;have hxy:x < y:=by
      rcases Nat.lt_trichotomy x y with h|h|h
      ·exact h
      ·subst h;lia
      ·have:=(TK.ja (bI ms) ms.length).lt y x h hxn (by rw [uN];exact hf);have t1:(aP ms ms.length).getD y 0 < (aP ms ms.length).getD x 0:=this;lia
     exact ⟨lc,_,_,0,rfl,rfl,s4 _ _ e3,by lia,by lia,hclen,put x H4 _ (b3.same s4) (s4 _ _ e3) (C3.cons hxn hxy hf (by show (aP ms ms.length).getD x 0+(i+1)=_;lia))⟩
  ·rintro σ H3 ⟨v2,c,rfl,b3,e3,C3⟩;rw [AM] at C3;exact ⟨_,rfl,q lc c H3 (SB b3) nlc e3 (by rw [C3.len];lia) C3.lt C3.pw C3.con⟩
end
end L3
set_option autoImplicit true
set_option relaxedAutoImplicit true
namespace L2
open PySem PySem.Spec PyProof.Rows
section
variable {X:Cx} {z:Str} {tg elt iter:Expr} {ifs:List Expr} {sc sc0:Scope} {N N':List Str} {ix:List (Option Nat)} {pos:Pos} {wi:TI} {g:TG} {tf:TT} {te:TE}
theorem qy {i:Nat} {y:Str} {py spos:Pos} (hN:X.N.Nodup) (hiy:X.N[i]?=some y) (hy:X.env.scope.names.lookup y=some .local) (hc:X.calm=true) (hix:jL z N sc0 sc N' ix=true) (hi:PI X tg iter wi)
  (hg:∀ C cl s H fp,PG (jp z X sc N' C cl s H fp) tg g) (hf:∀ C cl s H fp,PF (jp z X sc N' C cl s H fp) ifs tf) (he:∀ C cl s H fp,PE (jp z X sc N' C cl s H fp) elt te)
  (eN:X.N=N:=by rfl) (eS:X.env.scope=sc0:=by rfl) (hs:∀ x,foldedSetIterable iter X.env x=pure x:=by intro _;rfl)
  (hsw:swapsWith (.ListComp elt [⟨tg,iter,ifs,0⟩] sc pos) (some (.Name y py)) spos.line X.env=pure true:=by rfl) :
  PS X (.Assign [.Name y py] (.ListComp elt [⟨tg,iter,ifs,0⟩] sc pos) spos) (rn i (vg wi g tf te ix)):=by
 refine ⟨?_⟩;intro Cj s σ H Dn I h;subst eN eS;rw [exec_Assign_Name_used _ _ _ _ hsw];refine wpAny_bind (wpAny_standAt (wpAny_bind ?_));show wpAny _ X.A (do let _ <-comprehension (.ListComp elt [⟨tg,iter,ifs,0⟩] sc pos) sc X.env _ (newList []) false (eval iter X.env) (some (assign (.Name y py) X.env))) _ _ s;refine wpAny_bind (wpAny_mono (lM (use:=some (assign (.Name y py) X.env)) (Qf:=fun _ s'=>SP X Cj Dn .next s') hc hix hi hg hf he hs I h fun C D H' s' L q=>?_) (fun _ s' hq=>wpAny_pure (wpAny_pure hq)) fun _ _ e=>e);show wpAny _ X.A (assign (.Name y py) X.env (.ref D)) _ _ s';refine wpAny_assign_Name (gi L.inv hN hiy (.inl hy) (v:=.ref D) rfl (fun s1 I1 hsb=>?_) (.inr hy));obtain ⟨a,sb,ha⟩:=hsb;have haC:C≠a:=by
  rcases ha with z|z
  ·rw [z];exact L.loc
  ·exact (L.cel y a z).symm
 obtain ⟨m,hn⟩:=L.ns;have L1:EN X Cj (σ.set i (some (.ref D))) H' s1 C:=⟨I1,⟨m,hn.sameBut sb haC⟩,L.free,L.loc,L.cel,L.abv,L.pin⟩;exact ⟨m,hn.sameBut sb haC,fun h' sb'=>⟨_,H',L1.gone sb',q⟩⟩
end
end L2
namespace L3
open PySem L2
open TK (Ti Tb)
def vq (s:Stmt):Scope:=match s with
 | .Assign _ (.ListComp _ _ sc _) _=>sc
 | _=>aj s
def Ac (sc sc0:Scope):Scope:={ sc with names:=sc.names.map fun (n,k)=>if (k == .free && sc0.kind == .function && sc0.names.lookup n == some .cell) then (n,.cell) else (n,k) }
inductive E1 (H:Hp) (v:V) (ms:List Md):Prop
 | mk (a:Addr) (us:List V):v=.ref a->H a=some (.lst us)->Paired (DV H) us ms->us.length<=60->E1 H v ms
variable {H H':Hp}
theorem E1.same (h:E1 H v ms) (s:Cw H H'):E1 H' v ms:=let ⟨a,us,e,q,p,l⟩:=h;⟨a,us,e,s _ _ q,Paired.mapP p fun _ _ h=>h.kt (CC s),l⟩
theorem E1.len60 (h:E1 H v ms):ms.length<=60:=by
 obtain ⟨a,us,rfl,q,p,l⟩:=h;rw [<-p.length];exact l
variable {K:ZF}
theorem E1.lenx (h:E1 H v ms):∃ (p:Addr) (ys:List V),v=.ref p/\(Cz K H p ys\/CI K H p ys)/\ys.length=ms.length:=by
 obtain ⟨a,us,rfl,q,p,l⟩:=h;exact ⟨a,us,rfl,.inl (Cz.of q),p.length⟩
theorem E1.at {i:Nat} (h:E1 H v ms) (hi:i < ms.length):∃ z m,ms[i]?=some m/\DV H z m/\∀ Q:VK,Q z H->gu K v (.int (i:Int)) H Q:=by
 obtain ⟨a,us,rfl,hs,hp,_⟩:=h;have hz:i < us.length:=by rw [hp.length];exact hi
 obtain ⟨m,hm,hv⟩:=aQ hp (AL hz);exact ⟨us[i],m,hm,hv,fun Q q=>⟨a,us,_,_,rfl,rfl,Cz.of hs,a8 (AL hz),q⟩⟩
variable {ss:List Int}
theorem uQ {x:Int} (h:ss.Nodup):(eC x ss).Nodup:=by
 unfold eC;split
 ·exact h
 ·rename_i hx;refine BP.mpr ⟨h,by simp,fun y hy z hz e=>?_⟩;rw [AU.mp hz] at e;exact hx (e ▸ hy)
theorem o9:∀ (l acc:List Int),acc.Nodup->(l.foldl (fun ps k=>eC k ps) acc).Nodup
 | [],acc,h=>h
 | x::l,acc,h=>o9 l _ (uQ h)
theorem jQ:∀ (l acc:List Int),(acc++l).Nodup->l.foldl (fun ps k=>eC k ps) acc=acc++l
 | [],acc,h=>by rw [Ba];rfl
 | x::l,acc,h=>by
  have hx:x∉acc:=fun z=>(BP.mp h).2.2 x z x (AX ..) rfl;have e:eC x acc=acc++[x]:=by unfold eC;rw [if_neg hx]
  show l.foldl _ (eC x acc)=_;rw [e,jQ l (acc++[x]) (by rw [BJ];exact h),BJ];rfl
theorem wX {l ss':List Int} (hp:ss'.Perm (dk l)) (hs:ss'.Pairwise (·<=·)):decide (l=ss')=decide (l.Pairwise (· < ·)):=by
 rw [decide_eq_decide];constructor
 ·rintro rfl;have hn:l.Nodup:=hp.nodup_iff.mpr (o9 l [] List.nodup_nil);exact (hs.and hn).imp fun ⟨h1,h2⟩=>by lia
 ·intro h;have hn:l.Nodup:=h.imp fun h=>by lia
  have e:dk l=l:=jQ l [] hn;rw [e] at hp;exact (Em hp hs (h.imp fun h=>by lia)).symm
inductive dQ (vs:List V) (H:Hp) (Q:VK) (Z3:XK):Prop
 | mk (t:V) (n:Nat) (b:Tb):vs=[t,.int (n:Int)]->DS H t b->(∀ H',Cw H H'->Q (.bl (TK.df n b)) H')->dQ vs H Q Z3
inductive fz (vs:List V) (H:Hp) (Q:VK) (Z3:XK):Prop
 | mk (v t:V) (ms:List Md) (b:Tb):vs=[v,t]->E1 H v ms->DS H t b->(∀ H',Cw H H'->Q (.bl (TK.cR (bI ms) ms.length b)) H')->fz vs H Q Z3
theorem zN (f:Nat->Nat->Bool) (c:List Nat):decide (((List.range (c.length - 1)).filter fun k=>!f (c.getD k 0) (c.getD (k+1) 0))=[])=TK.kA f c:=by
 unfold TK.kA;rw [BF,decide_eq_true_eq,List.filter_eq_nil_iff,BC];constructor
 ·intro h k hk;have:=h k hk;simpa using this
 ·intro h k hk;have:=h k hk;simpa using this
section
variable {P:Program} {w:World} {K:ZF} {mg:Str->Option Value} {base:Heap} {C:Nat->Addr}
theorem Et:ar ["_law_beat","_law_many","_law_at"] ["_law_beat","_law_many"] (aj gK):=cE zk
variable {fd:FuncData} {f:Addr}
theorem mi (F:C7 K "_law_numbers" "_law_numbers" gK f fd) (B:Bl mg) (B2:rW mg):aT P w K mg base bT 1 f fd ["_law_beat","_law_many"] dQ:=by
 have ZZ:=Et
 walk_at "o"
 ·obtain ⟨t,n,b,rfl,hB,q⟩:=h;refine ⟨_,(ah (aN (cq (aW (ao (Dh (T:="list")) (by rfl) B.isinstance bE (aa (pv 0) (aa (Dm (by rfl) B.list cg) ab))))) (ai (al bG)) aA) (ah (bY PassesOwn.never rfl (bn (pv 0)) (cZ (i:=2) Et.nd) (ai (aN (PW.pt (dS (aW (ao (Dh (T:="bool")) (by rfl) B.isinstance bE (aa (pv 2) (aa (Dm (by rfl) B.bool dM) ab)))) (dS (cq (aW (ao (Dh (T:="int")) (by rfl) B.isinstance bE (aa (pv 2) (aa (Dm (by rfl) B.int B5) ab))))) (c9 (cq (qV k5 jw ag (pv 2) (pv 1))))))) (ai (al bG)) aA))) (ai (al (cH (Fj hr) (pv 0) (ao (js rfl) (by rfl) B2.sorted cY (aa (bm (qo rfl) (by rfl) B2.set jG (aa (pv 0) ab)) ab))))))),?_⟩;obtain ⟨ty,ht,e1⟩:=hB.ty (K:=K);refine ⟨_,rfl,t,ty,_,rfl,ht,e1,_,rfl,?_⟩;cases b with
  | none=>exact bM (q H (Cw.refl _))
  | some os=>
   refine cb ?_;obtain ⟨a,xs,rfl,hx,hp,hl⟩:=hB.list;have hpl:=hp.length;have eq:TK.df n (some os)=(os.all (TK.i9 n) && decide ((os.map TK.vI).Pairwise (· < ·))):=rfl;refine ⟨_,rfl,a,rfl,⟨_,Cz.of hx⟩,?_⟩;refine dz (K:=K) (a:=a) (xs:=xs) (fun i σ H'=>∃ v2,σ=[some (.ref a),some (.int (n:Int)),v2]/\H'=H/\(os.take i).all (TK.i9 n)=true) ⟨none,rfl,rfl,rfl⟩ (fun _ _ H' _ ⟨_,_,e,_⟩=>by rw [e];exact Cz.of hx) ?_ ?_
   ·rintro i x σ H1 hx1 ⟨v2,rfl,rfl,ha⟩;obtain ⟨o,ho,hxo⟩:=aQ hp hx1;have bad:TK.i9 n o=false->Q (.bl false) H1:=fun h=>by
     have ef:os.all (TK.i9 n)=false:=by
      rw [List.all_eq_false];exact ⟨o,A6 ho,by rw [h];exact AS⟩
     have:=q H1 (Cw.refl _);rw [eq,ef,Bool.false_and] at this;exact this
    obtain ⟨t1,ht1,bi,bb,k1,k2,k3⟩:=hxo.ty (K:=K);refine ⟨_,rfl,x,t1,_,rfl,ht1,k2,_,rfl,?_⟩;cases bb with
    | true=>
     refine bM (bad ?_);cases o with
     | none=>rfl
     | some j=>cases bi<;>cases k3
    | false=>
     refine cb ⟨_,rfl,x,t1,_,rfl,ht1,k1,_,rfl,?_⟩;cases bi with
     | false=>
      refine bM (bad ?_);cases o with
      | none=>rfl
      | some j=>cases k3
     | true=>
      refine cb ?_;cases hxo with
      | int i0=>
       refine ⟨_,rfl,_,_,rfl,rfl,_,rfl,?_⟩;have ein:TK.i9 n (some i0)=(decide ((0:Int)<=i0) && decide (i0 < (n:Int))):=rfl;have good:TK.i9 n (some i0)=true->∃ v2,[some (V.ref a),some (.int (n:Int)),some (.int i0)]=[some (.ref a),some (.int (n:Int)),v2]/\H1=H1/\(os.take (i+1)).all (TK.i9 n)=true:=fun h=>by
        refine ⟨_,rfl,rfl,?_⟩;rw [cn ho,List.all_append,ha,List.all_cons,List.all_nil,h];rfl
       refine bz (fun h=>?_) (fun h=>?_)
       ·refine ⟨_,rfl,_,_,rfl,rfl,_,rfl,?_⟩;rw [h,Bool.true_and] at ein;cases hc:decide (i0 < (n:Int)) with
        | true=>exact cb (good (by rw [ein,hc]))
        | false=>exact bM (bad (by rw [ein,hc]))
       ·have h0:decide ((0:Int)<=i0)=false:=by simpa using h
        rw [h0,Bool.false_and] at ein;exact ⟨_,rfl,bM (bad ein)⟩
      | _=>cases k3
   ·rintro σ H1 ⟨v2,rfl,rfl,ha⟩;rw [hpl,Bf] at ha;rw [eq,ha,Bool.true_and] at q;have hn:=kH hp ha;have hv:=(TK.kB ha).2.2;generalize TK.cQ os=ns at *;subst hn;rw [CZ] at hx;have hnl:ns.length<=60:=by rw [am] at hl;exact hl
    have hl2:(ns.map fun (k:Nat)=>(k:Int)).length<=60:=by rw [AM];exact hnl
    refine ⟨_,rfl,_,rfl,a,ns.map (fun (k:Nat)=>(k:Int)),rfl,Cz.of hx,hl2,fun sa nsa=>?_⟩;have s1:=ae (o:=lQ P w sa (dk (ns.map fun (k:Nat)=>(k:Int)))) nsa;refine ⟨sa,_,rfl,af,A8 (jO _) hl2,fun p ss' np hperm hpw=>?_⟩;have s2:=s1.trans (ae (o:=.lst (ss'.map V.int)) np);refine oX (Cz.of (s2 _ _ hx)) (Cz.of af) ?_;rw [wX hperm hpw];have q2:=q _ s2;rw [hv] at q2;exact q2
theorem nU:ar ["_law_told","_law_places"] ["_law_told","_law_places"] (aj eU):=cE zk
theorem yy:(["_law_k","_law_places","_law_told"]:List Str).Nodup:=by decide +kernel
theorem mj (F:C7 K "_law_is_chain" "_law_is_chain" eU f fd) (B:Bl mg) (NU:Fn P w K mg base "_law_numbers" 1 ["_law_beat","_law_many"] dQ) (LM:Fn P w K mg base "_law_meet" 2 ["_law_one","_law_other"] fN):aT P w K mg base bT 3 f fd ["_law_told","_law_places"] fz:=by
 have ZZ:=nU
 walk_at "o"
 ·obtain ⟨v,t,ms,b,rfl,hS,hB,q⟩:=h;have sz:(1000:Nat)<=sizeLine:=by decide
  refine ⟨_,(ah (aN (cq (aW (ap NU hr.m rfl (aa (pv 1) (aa (ao aw (by rfl) B.len A4 (aa (pv 0) ab)) ab))))) (ai (al bG)) aA) (ai (al (cH (Fj hr) (cf (N':=["_law_k","_law_places","_law_told"]) (ix:=[none,some 1,some 0]) (sc0:=aj eU) (N:=["_law_told","_law_places"]) rfl zk (bB rfl B.range (aa (aK gm (ao aw (by rfl) B.len A4 (aa (pv 1) ab)) ag) ab)) (fun _ _ _ _ _=>(cZ (i:=0) yy)) (fun _ _ _ _ _=>(cN (cq (aW (ap LM hr.m rfl (aa (aq (ci (K:=K) rfl) (pv 2) (aq (ci (K:=K) rfl) (pv 1) (pv 0))) (aa (aq (ci (K:=K) rfl) (pv 2) (aq (ci (K:=K) rfl) (pv 1) (aK bZ (pv 0) ag))) ab))))))) (fun _ _ _ _ _=>(pv 0))) (au ab))))),?_⟩;obtain ⟨pz,yz,rfl,hsq,el⟩:=hS.lenx (K:=K);refine ⟨_,rfl,_,rfl,pz,yz,rfl,hsq,?_⟩;rw [el];refine ⟨t,ms.length,b,rfl,hB,fun H1 s1=>⟨_,rfl,?_⟩⟩;unfold TK.cR at q;cases hb:TK.df ms.length b with
  | false=>
   rw [hb] at q;exact bM (q H1 s1)
  | true=>
   rw [hb,Bool.true_and] at q;refine cb ?_;obtain ⟨ns,rfl,Cu,hpw⟩:=TK.fS hb;obtain ⟨a,rfl,ha,hl⟩:=jf hB;rw [TK.cz] at q;refine ⟨_,rfl,a,_,rfl,.inl (Cz.of (s1 _ _ ha)),?_⟩;rw [am];refine ⟨_,_,rfl,rfl,_,rfl,by lia,by lia,?_⟩;have et:((ns.length:Int) - 1).toNat=ns.length - 1:=by lia
   rw [et];refine cV (lo:=0) (fun j ys H'=>Cw H H'/\ys=Cy ((List.range j).filter fun k=>!bI ms (ns.getD k 0) (ns.getD (k+1) 0))) ⟨s1,rfl⟩ (fun j ys H' hj ⟨_,e⟩=>by
    rw [e,am];have:=List.length_filter_le (fun k=>!bI ms (ns.getD k 0) (ns.getD (k+1) 0)) (List.range j);rw [List.length_range] at this;lia) ?_ ?_
   ·rintro j ys H2 hj ⟨s2,rfl⟩;have hj1:j < ns.length:=by lia
    have hj2:j+1 < ns.length:=by lia
    have g1:ns.getD j 0=ns[j]:=by simp [hj1]
    have g2:ns.getD (j+1) 0=ns[j+1]:=by simp [hj2]
    have S2:=hS.same s2;obtain ⟨z1,m1,e1,w1,k1⟩:=S2.at (K:=K) (Cu _ (Bq hj1));obtain ⟨z2,m2,e2,w2,k2⟩:=S2.at (K:=K) (Cu _ (Bq hj2));rw [Int.zero_add];refine ⟨⟨rfl,rfl,trivial⟩,?_⟩;refine ⟨_,rfl,_,rfl,_,rfl,a,_,_,_,rfl,rfl,Cz.of (s2 _ _ ha),a8 (ca (AL hj1)),k1 _ ?_⟩;refine ⟨_,rfl,_,rfl,_,rfl,_,_,rfl,rfl,a,_,_,_,rfl,rfl,Cz.of (s2 _ _ ha),(by have:=a8 (ca (AL hj2));exact this),k2 _ ?_⟩;refine ⟨_,_,m1,m2,rfl,w1,w2,fun H3 s3=>⟨_,rfl,?_⟩⟩;have ef:bI ms (ns.getD j 0) (ns.getD (j+1) 0)=cW m1 m2:=by rw [g1,g2];exact fv e1 e2
    cases hm:cW m1 m2 with
    | true=>
     refine cb (Nx.mk hj ⟨s2.trans s3,?_⟩);rw [Bs,Bp,List.filter_cons,ef,hm,List.filter_nil];show Cy _=Cy (_++[]);rw [Ba]
    | false=>
     refine bM ⟨_,rfl,Nx.mk hj ⟨s2.trans s3,?_⟩⟩;rw [Bs,Bp,List.filter_cons,ef,hm,List.filter_nil];show _=Cy (_++[j]);rw [<-cj]
   ·rintro ys H2 ⟨s2,e2⟩ l nl;subst e2;have s3:=s2.trans (ae (o:=.lst (Cy ((List.range (ns.length - 1)).filter fun k=>!bI ms (ns.getD k 0) (ns.getD (k+1) 0)))) nl);refine ⟨CM,fun l2 nl2=>?_⟩;have s4:=ae (o:=.lst []) nl2;refine oY (b:=[]) (s4 _ _ af) af ?_;rw [zN];exact q _ (s3.trans s4)
end
end L3
set_option autoImplicit true
set_option relaxedAutoImplicit true
namespace L3
open PySem L2
open TK (Ti Tb)
variable {K:ZF}
theorem sW {X:Cx} {elts:List Expr} {kt:Nat} {tp:Pos} {a:Expr} {ta:TA} {p pos:Pos} (h:X.K=K) (hg:Gl X "enumerate") (hm:X.mg "enumerate"=none) (ha:PA X [a] ta) (hs:starEach [a] X.env=[(false,eval a X.env)]:=by rfl):PI X (.Tuple elts kt tp) (.Call (.Name "enumerate" p) [a] [] pos) (Fz K ta):=by
 subst h;exact D6 hg hm ha hs
theorem gW {α:Type} (p:α->Bool):∀ l:List α,(∃ x∈l,p x=true)->((List.range l.length).filter fun k=>(l[k]?).any p)[0]?=some (l.findIdx p)
 | [],h=>by obtain ⟨x,hx,_⟩:=h;cases hx
 | y::l,h=>by
  rw [Bj,List.range_succ_eq_map,List.filter_cons,List.findIdx_cons];cases hy:p y with
  | true=>
   have e:((y::l)[0]?).any p=true:=hy;rw [if_pos e];rfl
  | false=>
   have e:¬ ((y::l)[0]?).any p=true:=by show ¬ p y=true;rw [hy];exact AS
   rw [if_neg e,List.filter_map,A5];have ih:=gW p l (by
    obtain ⟨x,hx,hp⟩:=h;rcases AZ.mp hx with rfl|hx
    ·rw [hy] at hp;cases hp
    ·exact ⟨x,hx,hp⟩)
   have ef:((fun k=>((y::l)[k]?).any p) ∘ Nat.succ)=fun k=>(l[k]?).any p:=rfl;rw [ef,ih];rfl
theorem sX {l:List Nat} {ns':List Int} (hp:ns'.Perm (l.map fun (k:Nat)=>(k:Int))) (hs:ns'.Pairwise (·<=·)) (n:Nat) (Cu:∀ x∈l,x < n):decide (ns'=(List.range n).map fun (k:Nat)=>(k:Int))=(decide l.Nodup && decide (l.length=n)):=by
 rw [BF,Bh,decide_eq_true_eq,decide_eq_true_eq,decide_eq_true_eq,<-TK.nK Cu];have hr:((List.range n).map fun (k:Nat)=>(k:Int)).Pairwise (·<=·):=by
  rw [List.pairwise_map];exact List.pairwise_lt_range.imp fun h=>by lia
 constructor
 ·rintro rfl;have h1:(l.map fun (k:Nat)=>(k:Int)).Perm ((List.range n).map fun (k:Nat)=>(k:Int)):=hp.symm;have:=h1.map Int.toNat;rw [BW,BW] at this;have e:(Int.toNat ∘ fun (k:Nat)=>(k:Int))=id:=by funext k;simp
  rw [e,List.map_id,List.map_id] at this;exact this
 ·intro h;exact Em (hp.trans (h.map _)) hs hr
variable {xss:List (List Nat)} {n:Nat}
theorem uR {f:Nat->Nat->Bool} (hb:TK.nI n (TK.bX xss)=true):TK.dE f n (some (TK.bX xss))=((decide xss.flatten.Nodup && decide (xss.flatten.length=n)) && TK.jt f n (TK.bX xss)):=by
 show (TK.nI n (TK.bX xss) && ((decide (TK.bq (TK.bX xss)).Nodup && decide ((TK.bq (TK.bX xss)).length=n)) && _))=_;rw [hb,TK.cy,Bool.true_and]
theorem uT (xss:List (List Nat)) (i:Nat):xss.findIdx (fun l=>l.contains i)=TK.bN (TK.bX xss) i:=by
 unfold TK.bN TK.bX;rw [List.findIdx_map]
 congr 1
 funext l;show _=(TK.jm (some (TK.fC l))).contains i;rw [TK.cz]
theorem uU (x:Nat) (l:List Nat):jB (.int (x:Int)) (Cy l)=l.contains x:=by
 unfold jB Cy;rw [List.any_map,BF,List.any_eq_true,BZ];constructor
 ·rintro ⟨y,hy,e⟩;have:(y:Int)=(x:Int):=by simpa [oq] using e
  have:y=x:=by lia
  rw [<-this];exact hy
 ·intro hx;exact ⟨x,hx,by simp [oq]⟩
theorem sY (l:List Nat):(Cy l).all dU=true:=by
 unfold Cy;rw [Ch,BC];intro x _;rfl
def AD:Scope:=vq ((ck dg).getD 5 (.Pass ⟨0,0,0,0⟩))
inductive eW (vs:List V) (H:Hp) (Q:VK) (Z3:XK):Prop
 | mk (v t:V) (ms:List Md) (b:Option (List Tb)):vs=[v,t]->E1 H v ms->Es H t b->(∀ bs,b=some bs->(TK.bq bs).length < 64)->(∀ H',Cw H H'->Q (.bl (TK.dE (bI ms) ms.length b)) H')->eW vs H Q Z3
inductive Ad (H:Hp) (v:V) (a:Addr) (n:Nat) (bs:List Tb) (i:Nat) (σ:St) (H':Hp):Prop
 | mk (v2:Option V):σ=[some v,some (.ref a),v2,none,none,none,none]->Cw H H'->TK.nI n (bs.take i)=true->Ad H v a n bs i σ H'
inductive Ae (H:Hp) (v:V) (a lf:Addr) (xss:List (List Nat)) (i:Nat) (σ:St) (H':Hp):Prop
 | mk (v2:Option V):σ=[some v,some (.ref a),v2,some (.ref lf),none,none,none]->Cw H H'->H' lf=some (.lst (Cy (xss.take i).flatten))->Ae H v a lf xss i σ H'
inductive Af (H:Hp) (v:V) (a lf lp:Addr) (f:Nat->Nat->Bool) (pos:Nat->Nat) (n i:Nat) (σ:St) (H':Hp):Prop
 | mk (v2 v5 v6:Option V):σ=[some v,some (.ref a),v2,some (.ref lf),some (.ref lp),v5,v6]->Cw H H'->H' lp=some (.lst (Cy ((List.range n).map pos)))->((List.range i).all fun l=>(List.range l).all fun e=>!(decide (pos l<=pos e) && f e l))=true->Af H v a lf lp f pos n i σ H'
def AE (K:ZF):TE:=u9 (gu K) (vg (Fz K (k7 (gY 1) pE)) (tN K 2 (nZ (fG 0) (nZ (fG 1) xz))) (oi (u9 (yO K false) (gY 2) (gY 1))) (gY 0) [none,none,some 0]) (tC (.int 0))
theorem wY {K:ZF} {H1:Hp} {v:V} {a:Addr} {ys:List V} {v2 v3 v5 v6:Option V} {Q:VK} (ha:H1 a=some (.lst ys)) (hq:Paired (fun y x=>∃ a,y=V.ref a/\H1 a=some (.lst (Cy x))/\x.length<=60) ys xss) (hl:ys.length<=60) (hn:n<=60) (hall:∀ i,i < n->i∈xss.flatten)
  (q:∀ l H',Cw H1 H'->H' l=some (.lst (Cy ((List.range n).map (TK.bN (TK.bX xss)))))->Q (.ref l) H'):ll (tH 0 n) (fG 0) ug (AE K) [none,some 1] [some v,some (.ref a),v2,v3,none,v5,v6] H1 Q:=by
 have sz:(1000:Nat)<=sizeLine:=by decide
 have hxl:=hq.length;refine cV (lo:=0) (n:=n) (fun k zs H'=>Cw H1 H'/\zs=Cy ((List.range k).map (TK.bN (TK.bX xss)))) ⟨Cw.refl _,rfl⟩ (fun k zs H' hk ⟨_,e⟩=>by rw [e,am,AM,List.length_range];lia) ?_ ?_
 ·rintro k zs H2 hk ⟨s2,rfl⟩;refine ⟨⟨rfl,trivial⟩,cB ?_⟩;rw [Int.zero_add];refine ⟨_,rfl,a,rfl,⟨_,Cz.of (s2 _ _ ha)⟩,?_⟩;refine uG (K:=K) (l:=a) (xs:=ys) (fun i zs H'=>Cw H2 H'/\zs=Cy ((List.range i).filter fun j=>(xss[j]?).any fun l=>l.contains k)) ⟨Cw.refl _,rfl⟩ (fun i zs H' hi ⟨s',e⟩=>⟨Cz.of (s' _ _ (s2 _ _ ha)),by
   rw [e,am];have:=List.length_filter_le (fun j=>(xss[j]?).any fun l=>l.contains k) (List.range i);rw [List.length_range] at this;lia⟩) ?_ ?_
  ·rintro i y zs H3 T hy nT ⟨s3,rfl⟩;have hi:=(AN.mp hy).1;obtain ⟨x,hx,ax,rfl,hax,hxl2⟩:=aQ hq hy;have s4:=s3.trans (ae (o:=.tup [.int (i:Int),.ref ax]) nT);refine ⟨T,_,rfl,CI.of af,rfl,_,_,rfl,_,_,rfl,rfl,?_⟩;generalize aB H3 T _=H4 at *;refine ⟨⟨rfl,trivial⟩,?_⟩;refine ⟨_,rfl,_,rfl,ax,_,rfl,.inl (Cz.of (s4 _ _ (s2 _ _ hax))),rfl,sY _,_,rfl,?_⟩;have ev:(if false=true then !jB (.int (k:Int)) (Cy x) else jB (.int (k:Int)) (Cy x))=x.contains k:=uU k x;rw [ev];refine bz (fun h=>?_) (fun h=>?_)
   ·refine ⟨_,rfl,Nx.mk hi ⟨s4,?_⟩⟩;rw [Bs,Bp,List.filter_cons,hx];have:Option.any (fun l=>l.contains k) (some x)=true:=h;rw [if_pos this,List.filter_nil,<-cj]
   ·refine Nx.mk hi ⟨s4,?_⟩;rw [Bs,Bp,List.filter_cons,hx];have:¬ Option.any (fun l=>l.contains k) (some x)=true:=h;rw [if_neg this,List.filter_nil,Ba]
  ·rintro zs H3 ⟨s3,e3⟩ l nl;subst e3;have hm:=hall k (by simpa using hk);have hf:=gW (fun l:List Nat=>l.contains k) xss (by
    obtain ⟨x,h1,h2⟩:=List.mem_flatten.mp hm;exact ⟨x,h1,by simpa using h2⟩)
   rw [uT,<-hxl] at hf;refine ⟨l,_,_,_,rfl,rfl,Cz.of af,a8 (j:=0) (ca hf),?_⟩;refine Nx.mk hk ⟨s2.trans (s3.trans (ae nl)),?_⟩;rw [Bs,AY,cj];rfl
 ·rintro zs H2 ⟨s2,e2⟩ l nl;subst e2;exact q l _ (s2.trans (ae nl)) af
section
variable {P:Program} {w:World} {K:ZF} {mg:Str->Option Value} {base:Heap} {C:Nat->Addr}
theorem Df:ar ["_law_told","_law_beats","_law_beat","_law_flat","_law_places","_law_at","_law_one"] ["_law_told","_law_beats"] (aj dg):=cE zk
theorem yA:(["_law_at","_law_beats"]:List Str).Nodup:=by decide +kernel
theorem vt:(["_law_k","_law_beat","_law_at"]:List Str).Nodup:=by decide +kernel
theorem yB:(["_law_ahead","_law_at","_law_one","_law_places","_law_told"]:List Str).Nodup:=by decide +kernel
theorem nV {f:Addr} {fd:FuncData} (F:C7 K "_law_is_packing" "_law_is_packing" dg f fd) (B:Bl mg) (B2:rW mg) (NU:Fn P w K mg base "_law_numbers" 1 ["_law_beat","_law_many"] dQ) (LM:Fn P w K mg base "_law_meet" 2 ["_law_one","_law_other"] fN):aT P w K mg base bT 3 f fd ["_law_told","_law_beats"] eW:=by
 have ZZ:=Df
 walk_at "o"
 ·obtain ⟨v,t,ms,b,rfl,hS,hB,hsm,q⟩:=h;have sz:(100000:Nat)<=sizeLine:=by decide
  have hn60:=hS.len60;refine ⟨_,(ah (aN (cq (aW (ao (Dh (T:="list")) (by rfl) B.isinstance bE (aa (pv 1) (aa (Dm (by rfl) B.list cg) ab))))) (ai (al bG)) aA) (ah (bY PassesOwn.never rfl (bn (pv 1)) (cZ (i:=2) Df.nd) (ai (aN (PW.pt (dS (cq (aW (ap NU hr.m rfl (aa (pv 2) (aa (ao aw (by rfl) B.len A4 (aa (pv 0) ab)) ab))))) (c9 (aC (Fj hr) (pv 2) (au ab))))) (ai (al bG)) aA))) (ah (eY (i:=3) Df.nd (au ab)) (ah (bY PassesOwn.never rfl (bn (pv 1)) (cZ (i:=2) Df.nd) (ai (cT (fb Bx PySem.F.slot_list_extend PySem.F.type_list_extend pI (pv 3) (aa (pv 2) ab))))) (ah (aN (aC (DT hr) (ao gS (by rfl) B2.sorted cY (aa (pv 3) ab)) (bm (EA rfl) (by rfl) B.list cg (aa (bm Ej (by rfl) B.range Ef (aa (ao aw (by rfl) B.len A4 (aa (pv 0) ab)) ab)) ab))) (ai (al bG)) aA) (ah (dH (i:=4) Df.nd rfl (Or.inr rfl) (wO (z:="_law_at") (N':=["_law_at","_law_beats"]) (ix:=[none,some 1]) (sc0:=(aj dg)) (N:=["_law_told","_law_beats","_law_beat","_law_flat","_law_places","_law_at","_law_one"]) rfl zk (bB rfl B.range (aa (ao aw (by rfl) B.len A4 (aa (pv 0) ab)) ab)) (fun _ _ _ _ _=>(eF (i:=0) yA rfl (Or.inr rfl) (.inl rfl))) (fun _ _ _ _ _=>cA) (fun _ _ _ _ _=>(aq (ci (K:=K) rfl) (cf (N':=["_law_k","_law_beat","_law_at"]) (ix:=[none,none,some 0]) (sc0:=(Ac AD (aj dg))) (N:=["_law_at","_law_beats"]) rfl zk (sW (K:=K) rfl rfl B2.enumerate (aa (pv 1) ab)) (fun _ _ _ _ _=>(kF (K:=K) (n:=2) rfl rfl (bu (cZ (i:=0) vt) (bu (cZ (i:=1) vt) dh)))) (fun _ _ _ _ _=>(cN (aC (dN (K:=K) rfl) (pv 2) (pv 1) rfl))) (fun _ _ _ _ _=>(pv 0))) ag)))) (ah (bY PassesOwn.never rfl (D6 rfl B2.enumerate (aa (pv 0) ab)) (gj rfl (bu (eF (i:=5) Df.nd rfl (Or.inr rfl)) (bu (eF (i:=6) Df.nd rfl (Or.inr rfl)) dh))) (ai (aN (aC (DT hr) (cf (N':=["_law_ahead","_law_at","_law_one","_law_places","_law_told"]) (ix:=[none,some 5,some 6,some 4,some 0]) (sc0:=aj dg) (N:=["_law_told","_law_beats","_law_beat","_law_flat","_law_places","_law_at","_law_one"]) rfl zk (bB rfl B.range (aa (pv 5) ab)) (fun _ _ _ _ _=>(cZ (i:=0) yB)) (fun _ _ _ _ _=>(cN (PW.pt (il (aC qR (aq (ci (K:=K) rfl) (pv 3) (pv 0)) (aq (ci (K:=K) rfl) (pv 3) (pv 1))) (fF (aW (ap LM hr.m rfl (aa (aq (ci (K:=K) rfl) (pv 4) (pv 0)) (aa (pv 2) ab))))))))) (fun _ _ _ _ _=>(pv 0))) (au ab)) (ai (al bG)) aA))) (ai (al bG))))))))),?_⟩;obtain ⟨ty,ht,e1⟩:=hB.ty (K:=K);refine ⟨_,rfl,t,ty,_,rfl,ht,e1,_,rfl,?_⟩;cases b with
  | none=>exact bM (q H (Cw.refl _))
  | some bs=>
   refine cb ?_;have hsm:=hsm bs rfl;obtain ⟨a,ys,rfl,ha,hp,hl⟩:=hB.list;have hpl:=hp.length;obtain ⟨pz,us,rfl,hz,hTp,hz60⟩:=id hS;have hTl:=hTp.length;refine ⟨_,rfl,a,rfl,⟨_,Cz.of ha⟩,?_⟩;refine dz (K:=K) (a:=a) (xs:=ys) (fun i σ H'=>Ad H (.ref pz) a ms.length bs i σ H') ⟨none,rfl,Cw.refl _,rfl⟩ (fun _ _ H' _ ⟨_,_,s',_⟩=>Cz.of (s' _ _ ha)) ?_ ?_
   ·rintro i y σ H1 hy ⟨v2,rfl,s1,o1⟩;obtain ⟨b,hb,hyb⟩:=aQ hp hy;have bad:∀ {H':Hp},Cw H H'->(TK.df ms.length b && decide (b≠some []))=false->Q (.bl false) H':=fun {H'} s' h=>by
     have:=q H' s';rw [jh (.inl ?_)] at this
     ·exact this
     ·unfold TK.nI;rw [List.all_eq_false];exact ⟨b,A6 hb,by rw [h];exact AS⟩
    refine ⟨_,rfl,_,rfl,pz,us,rfl,.inl (Cz.of (s1 _ _ hz)),?_⟩;rw [hTl];refine ⟨y,ms.length,b,rfl,hyb.same s1,fun H2 s2=>⟨_,rfl,?_⟩⟩;cases hrb:TK.df ms.length b with
    | false=>exact bM (bad (s1.trans s2) (by rw [hrb,Bool.false_and]))
    | true=>
     refine cb ?_;obtain ⟨l,rfl,Cu,hpw⟩:=TK.fS hrb;obtain ⟨ax,rfl,hax,hll⟩:=jf hyb;refine ⟨_,rfl,CM,fun le ne=>?_⟩;have s3:=s2.trans (ae (o:=.lst []) ne);have e3:aB H2 le (.lst []) le=some (.lst (Cy [])):=af;generalize aB H2 le (.lst [])=H3 at *;refine oY (s3 _ _ (s1 _ _ hax)) e3 ⟨_,rfl,bz (fun h=>?_) (fun h=>?_)⟩
     ·have:l=[]:=of_decide_eq_true h;subst this;exact bad (s1.trans s3) (by rw [hrb];rfl)
     ·refine ⟨_,rfl,s1.trans s3,?_⟩;unfold TK.nI at o1 ⊢;rw [cn hb,List.all_append,o1,List.all_cons,List.all_nil,hrb];have hl0:l≠[]:=fun z=>h (decide_eq_true z);cases l with
      | nil=>exact absurd rfl hl0
      | cons x l=>rfl
   ·rintro σ H1 ⟨v2,rfl,s1,o1⟩;rw [hpl,Bf] at o1;obtain ⟨xss,rfl,hxs⟩:=nP o1;rw [TK.cy] at hsm;rw [uR o1] at q;have hq:=nR hp;have hlx:ys.length=xss.length:=hq.length;have hmem:∀ k∈xss.flatten,k < ms.length:=fun k hk=>by
     obtain ⟨x,h1,h2⟩:=List.mem_flatten.mp hk;exact (hxs x h1).2.2 k h2
    refine ⟨CM,fun lf nlf=>?_⟩;have hlf:H lf=none:=s1.free nlf;have s2:=s1.trans (ae (o:=.lst []) nlf);have e2:aB H1 lf (.lst []) lf=some (.lst []):=af;generalize aB H1 lf (.lst [])=H2 at *;refine ⟨_,rfl,a,rfl,⟨_,Cz.of (s2 _ _ ha)⟩,?_⟩;refine dz (K:=K) (a:=a) (xs:=ys) (fun i σ H'=>Ae H (.ref pz) a lf xss i σ H') ⟨v2,rfl,s2,e2⟩ (fun _ _ H' _ ⟨_,_,s',_⟩=>Cz.of (s' _ _ ha)) ?_ ?_
    ·rintro i y σ H3 hy ⟨w2,rfl,s3,e3⟩;obtain ⟨x,hx,ax,rfl,hax,hxl⟩:=aQ hq hy;have hb1:(xss.take i).flatten.length<=64:=by
      obtain ⟨r,hr'⟩:=jg hx 0;have:=congrArg List.length hr';rw [AT,AT] at this;lia
     refine ⟨_,rfl,.inl ⟨rfl,_,Cz.of e3⟩,_,rfl,lf,ax,_,_,rfl,rfl,e3,s3 _ _ hax,by rw [am,am];lia,?_⟩;refine ⟨_,rfl,ak hlf s3,?_⟩;rw [af,mf hx];unfold Cy;rw [AY]
    ·rintro σ H3 ⟨w2,rfl,s3,e3⟩;rw [hlx,Bf] at e3;rw [CZ] at e3;refine ⟨_,rfl,lf,_,rfl,Cz.of e3,by rw [AM];exact hsm,fun p ns' np hperm hpw=>?_⟩;have s4:=s3.trans (ae (o:=.lst (ns'.map V.int)) np);have e4:aB H3 p (.lst (ns'.map V.int)) p=some (.lst (ns'.map V.int)):=af;generalize aB H3 p (.lst (ns'.map V.int))=H4 at *;refine ⟨_,rfl,pz,us,rfl,.inl (Cz.of (s4 _ _ hz)),ms.length,by rw [hTl],fun pr npr=>?_⟩;have s5:=s4.trans (ae (o:=.rng 0 ms.length) npr);have e5:aB H4 pr (.rng 0 ms.length) pr=some (.rng 0 ms.length):=af;have e4':=(ae (o:=.rng 0 ms.length) npr) _ _ e4;generalize aB H4 pr (.rng 0 ms.length)=H5 at *;refine ⟨pr,ms.length,rfl,e5,by lia,fun l nl=>?_⟩;have s6:=s5.trans (ae (o:=.lst (DI (List.range ms.length))) nl);have e6:aB H5 l (.lst (DI (List.range ms.length))) l=some (.lst (((List.range ms.length).map fun (k:Nat)=>(k:Int)).map V.int)):=by rw [af,Fo]
     have e4'':=(ae (o:=.lst (DI (List.range ms.length))) nl) _ _ e4';generalize aB H5 l (.lst (DI (List.range ms.length)))=H6 at *;refine ES (Cz.of e4'') (Cz.of e6) ⟨_,rfl,?_⟩;rw [sX hperm hpw ms.length hmem];cases hnd:(decide xss.flatten.Nodup && decide (xss.flatten.length=ms.length)) with
     | false=>
      rw [hnd,Bool.false_and] at q;exact bM (q H6 s6)
     | true=>
      rw [hnd,Bool.true_and] at q;rw [Bh,decide_eq_true_eq,decide_eq_true_eq] at hnd;refine cb ?_;refine ⟨_,rfl,pz,us,rfl,.inl (Cz.of (s6 _ _ hz)),?_⟩;rw [hTl];refine ⟨(ms.length:Int),rfl,by lia,by lia,?_⟩;refine wY (K:=K) (s6 _ _ ha) (Paired.mapP hq fun _ _ ⟨c,e,h,l'⟩=>⟨c,e,s6 _ _ h,l'⟩) hl (by lia) (fun i hi=>TK.nJ hnd.1 hmem hnd.2 (by simpa using hi)) fun lp H7 s67 e7=>?_;rw [A1] at e7;have s7:=s6.trans s67;refine ⟨_,rfl,pz,rfl,⟨_,Cz.of (s7 _ _ hz)⟩,?_⟩;have pat:∀ {H':Hp} {i:Nat} {Q':VK},H' lp=some (.lst (Cy ((List.range ms.length).map (TK.bN (TK.bX xss)))))->i < ms.length->Q' (.int (TK.bN (TK.bX xss) i:Int)) H'->gu K (.ref lp) (.int (i:Int)) H' Q':=fun {H' i Q'} e hi q'=>⟨lp,_,_,_,rfl,rfl,Cz.of e,a8 (ca (by rw [A5,List.getElem?_range hi];rfl)),q'⟩;refine D3 (K:=K) (l:=pz) (xs:=us) (fun i σ H'=>Af H7 (.ref pz) a lf lp (bI ms) (TK.bN (TK.bX xss)) ms.length i σ H') ⟨w2,none,none,rfl,Cw.refl _,e7,rfl⟩ (fun _ _ H' _ ⟨_,_,_,_,s',_,_⟩=>Cz.of (s' _ _ (s7 _ _ hz))) ?_ ?_
      ·rintro i u σ H8 T hu nT ⟨x2,x5,x6,rfl,s8,e8,o8⟩;have hi:i < ms.length:=by have:=(AN.mp hu).1;lia
       obtain ⟨m,hm,hum⟩:=aQ hTp hu;have s9:=s8.trans (ae (o:=.tup [.int (i:Int),u]) nT);have e9:=(ae (o:=.tup [.int (i:Int),u]) nT) _ _ e8;refine ⟨T,_,rfl,CI.of af,rfl,_,_,rfl,_,_,rfl,rfl,?_⟩;generalize aB H8 T _=H9 at *;refine ⟨_,rfl,(i:Int),rfl,by lia,by lia,?_⟩;refine cV (lo:=0) (fun j zs H'=>Cw H9 H'/\zs=Cy ((List.range j).filter fun e=>decide (TK.bN (TK.bX xss) i<=TK.bN (TK.bX xss) e) && bI ms e i)) ⟨Cw.refl _,rfl⟩ (fun j zs H' hj ⟨_,e⟩=>by
        have hj':j<=i:=by simpa using hj
        rw [e,am];have:=List.length_filter_le (fun e=>decide (TK.bN (TK.bX xss) i<=TK.bN (TK.bX xss) e) && bI ms e i) (List.range j);rw [List.length_range] at this;lia) ?_ ?_
       ·rintro j zs H10 hj ⟨s10,rfl⟩;have hj':j < i:=by simpa using hj
        have e10:=s10 _ _ e9;have no:∀ {H':Hp},Cw H10 H'->(decide (TK.bN (TK.bX xss) i<=TK.bN (TK.bX xss) j) && bI ms j i)=false->Nx (fun j zs H'=>Cw H9 H'/\zs=Cy ((List.range j).filter fun e=>decide (TK.bN (TK.bX xss) i<=TK.bN (TK.bX xss) e) && bI ms e i)) (i:Int).toNat j (Cy ((List.range j).filter fun e=>decide (TK.bN (TK.bX xss) i<=TK.bN (TK.bX xss) e) && bI ms e i)) H':=fun {H'} s' h=>by
         refine Nx.mk hj ⟨s10.trans s',?_⟩;rw [Bs,Bp,List.filter_cons,if_neg (by rw [h];exact AS),List.filter_nil,Ba]
        rw [Int.zero_add];refine ⟨⟨rfl,rfl,rfl,rfl,trivial⟩,?_⟩;refine ⟨_,rfl,_,rfl,pat e10 (by lia) ⟨_,rfl,_,rfl,pat e10 hi ⟨_,_,rfl,rfl,_,rfl,?_⟩⟩⟩;refine bz (fun h=>?_) (fun h=>?_)
        ·have hge:TK.bN (TK.bX xss) i<=TK.bN (TK.bX xss) j:=by have:=of_decide_eq_true h;lia
         obtain ⟨z1,m1,q1,w1,k1⟩:=(hS.same (s7.trans (s9.trans s10))).at (K:=K) (i:=j) (by lia);refine ⟨_,rfl,_,rfl,k1 _ ⟨_,rfl,_,_,m1,m,rfl,w1,hum.kt (CC (s7.trans (s9.trans s10))),fun H11 s11=>⟨_,rfl,?_⟩⟩⟩;rw [<-fv q1 hm];refine bz (fun h2=>?_) (fun h2=>?_)
         ·refine ⟨_,rfl,Nx.mk hj ⟨s10.trans s11,?_⟩⟩;rw [Bs,Bp,List.filter_cons,if_pos (by rw [decide_eq_true hge,h2];rfl),List.filter_nil,<-cj]
         ·exact no s11 (by rw [BU.mpr h2,Bool.and_false])
        ·refine no (Cw.refl _) ?_;have:decide (TK.bN (TK.bX xss) i<=TK.bN (TK.bX xss) j)=false:=decide_eq_false fun z=>h (decide_eq_true (by lia));rw [this,Bool.false_and]
       ·rintro zs H10 ⟨s10,e10⟩ lz nlz;rw [A1] at e10;subst e10;have s11:=s10.trans (ae (o:=.lst (Cy ((List.range i).filter fun e=>decide (TK.bN (TK.bX xss) i<=TK.bN (TK.bX xss) e) && bI ms e i))) nlz);have e11:aB H10 lz (.lst (Cy ((List.range i).filter fun e=>decide (TK.bN (TK.bX xss) i<=TK.bN (TK.bX xss) e) && bI ms e i))) lz=some (.lst (Cy ((List.range i).filter fun e=>decide (TK.bN (TK.bX xss) i<=TK.bN (TK.bX xss) e) && bI ms e i))):=af;generalize aB H10 lz _=H11 at *;refine ⟨CM,fun l0 nl0=>?_⟩;have Cs:=ae (o:=.lst []) nl0;have e12:aB H11 l0 (.lst []) l0=some (.lst (Cy [])):=af;have e11':=Cs _ _ e11;have S12:=s9.trans (s11.trans Cs);generalize aB H11 l0 (.lst [])=H12 at *;refine kI e11' e12 ⟨_,rfl,?_⟩;have ei:((List.range i).all fun e=>!(decide (TK.bN (TK.bX xss) i<=TK.bN (TK.bX xss) e) && bI ms e i))=decide (((List.range i).filter fun e=>decide (TK.bN (TK.bX xss) i<=TK.bN (TK.bX xss) e) && bI ms e i)=[]):=by
         rw [BF,decide_eq_true_eq,List.filter_eq_nil_iff,BC];constructor
         ·intro h k hk hc;have:=h k hk;rw [hc] at this;cases this
         ·intro h k hk;rw [Bool.not_eq_true'];exact BU.mpr (h k hk)
        cases hdc:decide (((List.range i).filter fun e=>decide (TK.bN (TK.bX xss) i<=TK.bN (TK.bX xss) e) && bI ms e i)=[]) with
        | true=>
         rw [hdc] at ei;refine cb ⟨_,_,_,rfl,S12,Cs _ _ (s11 _ _ e9),?_⟩;rw [Bs,List.all_append,o8,List.all_cons,List.all_nil,ei];rfl
        | false=>
         rw [hdc] at ei;refine bM ?_;have ef:TK.jt (bI ms) ms.length (TK.bX xss)=false:=by
          unfold TK.jt;rw [List.all_eq_false];exact ⟨i,A3.mpr hi,by rw [ei];exact AS⟩
         have:=q H12 (s7.trans S12);rw [ef] at this;exact this
      ·rintro σ H8 ⟨x2,x5,x6,rfl,s8,e8,o8⟩;rw [hTl] at o8;have:=q H8 (s7.trans s8);unfold TK.jt at this;rw [o8] at this;exact this
end
end L3
set_option autoImplicit true
set_option relaxedAutoImplicit true
namespace L3
open PySem L2
open TK (Ti Tb)
variable {n i:Nat}
theorem kO (h:i < n):tZ n (i:Int)=some i:=by
 unfold tZ;rw [if_pos (by lia),if_pos (by lia)];rfl
structure LD (H:Hp) (l:Addr) (as:List Addr) (xss:List (List Nat)):Prop where
 ls:H l=some (.lst (as.map V.ref))
 it:Paired (oK H) as xss
theorem LD.same {H H':Hp} {l:Addr} {as:List Addr} {xss:List (List Nat)} (s:Cw H H') (h:LD H l as xss):LD H' l as xss:=⟨s _ _ h.ls,Paired.mapP h.it fun _ _ e=>s _ _ e⟩
variable {f:Nat->Nat->Bool}
theorem qz:TK.yt f n (TK.bF (TK.be f n)) n (List.replicate n ((TK.bF (TK.be f n):Int) - 1)) where
 len:=Cg
 lo:=fun i hi=>by
  have:=TK.jP (f:=f) hi;have e:(List.replicate n ((TK.bF (TK.be f n):Int) - 1)).getD i 0=(TK.bF (TK.be f n):Int) - 1:=by simp [hi]
  rw [e];lia
 hi:=fun i hi=>by
  have e:(List.replicate n ((TK.bF (TK.be f n):Int) - 1)).getD i 0=(TK.bF (TK.be f n):Int) - 1:=by simp [hi]
  rw [e];lia
 dn:=fun i b h1 h2 h3=>absurd h1 (by lia)
structure Li (f:Nat->Nat->Bool) (n T a k:Nat) (L:List Int):Prop where
 b:TK.yt f n T (a+1) L
 d:∀ b,a < b->b < a+1+k->b < n->f a b=true->L.getD a 0 < L.getD b 0
variable {x:Int} {a:Nat} {L:List Int}
theorem sZ (h:a < L.length):(L.set a x).getD i 0=if i=a then x else L.getD i 0:=by
 rw [Bm,Bm,List.getElem?_set];by_cases e:a=i
 ·subst e;simp [h]
 ·simp [e,Ne.symm e]
theorem Li.set {n T a k:Nat} (h:Li f n T a k L) (hb:a+1+k < n) (hf:f a (a+1+k)=true) (hx:x=if L.getD (a+1+k) 0 - 1 < L.getD a 0 then L.getD (a+1+k) 0 - 1 else L.getD a 0):Li f n T a (k+1) (L.set a x):=by
 have hl:a < L.length:=by rw [h.b.len];lia
 have g:=fun i=>sZ (i:=i) (x:=x) hl;have gx:x<=L.getD a 0/\x<=L.getD (a+1+k) 0 - 1:=by
  rw [hx];split<;>lia
 have lo1:=h.b.lo (a+1+k) hb;have lo2:=h.b.lo a (by lia);have hnum:=(TK.ja f n).lt a (a+1+k) (by lia) hb hf;have hnum':(TK.be f n).getD a 0 < (TK.be f n).getD (a+1+k) 0:=hnum;refine ⟨⟨by rw [List.length_set];exact h.b.len,fun i hi=>?_,fun i hi=>?_,fun i b h1 h2 h3 h4=>?_⟩,fun b h1 h2 h3 h4=>?_⟩
 ·rw [g];split
  ·rename_i e;subst e;rw [hx];split<;>lia
  ·exact h.b.lo i hi
 ·rw [g];split
  ·have:=h.b.hi a (by lia);lia
  ·exact h.b.hi i hi
 ·rw [g,g,if_neg (by lia),if_neg (by lia)];exact h.b.dn i b h1 h2 h3 h4
 ·rw [g,g,if_pos rfl,if_neg (by lia)];by_cases e:b=a+1+k
  ·subst e;lia
  ·have:=h.d b h1 (by lia) h3 h4;lia
theorem Li.skip {n T a k:Nat} (h:Li f n T a k L) (hf:¬ f a (a+1+k)=true):Li f n T a (k+1) L:=⟨h.b,fun b h1 h2 h3 h4=>by
 by_cases e:b=a+1+k
 ·subst e;exact absurd h4 hf
 ·exact h.d b h1 (by lia) h3 h4⟩
variable {T:Nat}
theorem Li.done (h:Li f n T a (n - (a+1)) L) (ha:a < n):TK.yt f n T a L:=⟨h.b.len,h.b.lo,h.b.hi,fun i b h1 h2 h3 h4=>by
 by_cases e:i=a
 ·subst e;exact h.d b h2 (by lia) h3 h4
 ·exact h.b.dn i b (by lia) h2 h3 h4⟩
inductive kP (vs:List V) (H:Hp) (Q:VK) (Z3:XK):Prop
 | mk (v:V) (ms:List Md) (T:Nat):vs=[v,.int (T:Int)]->E1 H v ms->T=TK.bF (aP ms ms.length)->(∀ l as g H',Cw H H'->H l=none->(∀ x∈as,H x=none)->LD H' l as (TK.nL g ms.length T)->TK.yr (bI ms) ms.length g->(∀ i,i < ms.length->g i < T)->Q (.ref l) H')->kP vs H Q Z3
def AF:Scope:=vq ((ck fq).getD 2 (.Pass ⟨0,0,0,0⟩))
inductive zO (H:Hp) (v:V) (T:Nat) (ln:Addr) (f:Nat->Nat->Bool) (n i:Nat) (σ:St) (H':Hp):Prop
 | mk (v3 v4:Option V) (L:List Int):σ=[some v,some (.int (T:Int)),some (.ref ln),v3,v4,none]->Cw H H'->H' ln=some (.lst (L.map V.int))->TK.yt f n T (n - i) L->zO H v T ln f n i σ H'
inductive zP (H:Hp) (v:V) (T:Nat) (ln:Addr) (f:Nat->Nat->Bool) (n a k:Nat) (σ:St) (H':Hp):Prop
 | mk (v4:Option V) (L:List Int):σ=[some v,some (.int (T:Int)),some (.ref ln),some (.int (a:Int)),v4,none]->Cw H H'->H' ln=some (.lst (L.map V.int))->Li f n T a k L->zP H v T ln f n a k σ H'
def AG (K:ZF):TE:=vg (u8 (k7 (zm (fun xs H Q=>∃ (p:Addr) (ys:List V),xs=[.ref p]/\(Cz K H p ys\/CI K H p ys)/\Q (.int (ys.length:Int)) H) (k7 (gY 2) pE)) pE)) (fG 0) (oi (u9 zU (u9 (gu K) (gY 2) (gY 0)) (gY 1))) (gY 0) [none,some 0,some 1]
theorem uV {K:ZF} {H1:Hp} {v:V} {ms:List Md} {ln:Addr} {v3 v4:Option V} {Q:VK} (hS:E1 H1 v ms) (hL:H1 ln=some (.lst (L.map V.int))) (Ck:L.length=ms.length) (h0:∀ i,i < ms.length->0<=L.getD i 0) (hT:T<=60)
  (q:∀ l as H',Cw H1 H'->(H1 l=none)->(∀ x∈as,H1 x=none)->LD H' l as ((List.range T).map fun k=>(List.range ms.length).filter fun i=>(L.getD i 0).toNat == k)->Q (.ref l) H'):ll (tH 0 T) (fG 0) ug (AG K) [none,some 2,some 0] [some v,some (.int (T:Int)),some (.ref ln),v3,v4,none] H1 Q:=by
 have sz:(1000:Nat)<=sizeLine:=by decide
 have hn:=hS.len60;refine cV (lo:=0) (n:=T) (fun k ys H'=>∃ as:List Addr,Cw H1 H'/\ys=as.map V.ref/\Paired (oK H') as ((List.range k).map fun k=>(List.range ms.length).filter fun i=>(L.getD i 0).toNat == k)/\∀ x∈as,H1 x=none) ⟨[],Cw.refl _,rfl,.nil,fun _ h=>(nomatch h)⟩ (fun k ys H' hk ⟨as,_,e,p,_⟩=>by
   have:=p.length;rw [e,AM,this,AM,List.length_range];lia) ?_ ?_
 ·rintro k ys H2 hk ⟨as,s2,rfl,p2,f2⟩;refine ⟨⟨rfl,rfl,trivial⟩,cB ?_⟩;rw [Int.zero_add];obtain ⟨pz,yz,rfl,hsq,el⟩:=(hS.same s2).lenx (K:=K);refine ⟨_,rfl,pz,yz,rfl,hsq,?_⟩;rw [el];refine ⟨(ms.length:Int),rfl,by lia,by lia,?_⟩;refine cV (lo:=0) (fun j ys H'=>Cw H2 H'/\ys=Cy ((List.range j).filter fun i=>(L.getD i 0).toNat == k)) ⟨Cw.refl _,rfl⟩ (fun j ys H' hj ⟨_,e⟩=>by
    have hj':j<=ms.length:=by simpa using hj
    rw [e,am];have:=List.length_filter_le (fun i=>(L.getD i 0).toNat == k) (List.range j);rw [List.length_range] at this;lia) ?_ ?_
  ·rintro j ys H3 hj ⟨s3,rfl⟩;have hj':j < ms.length:=by simpa using hj
   have hjl:j < L.length:=by lia
   have ev:L.getD j 0=L[j]:=by simp [hjl]
   have h00:=h0 j hj';refine ⟨⟨rfl,rfl,trivial⟩,?_⟩;rw [Int.zero_add];refine ⟨_,rfl,_,rfl,ln,_,_,_,rfl,rfl,Cz.of ((s2.trans s3) _ _ hL),a8 (by rw [A5,AL hjl];rfl),_,rfl,rfl,_,rfl,bz (fun h=>?_) (fun h=>?_)⟩
   ·have hbk:L[j]=(k:Int):=V.int.inj (of_decide_eq_true h);refine ⟨_,rfl,Nx.mk (by simpa using hj') ⟨s3,?_⟩⟩;rw [Bs,Bp,List.filter_cons,if_pos (by rw [ev,hbk];simp),List.filter_nil,<-cj]
   ·have hbk:¬ L[j]=(k:Int):=fun z=>h (decide_eq_true (by rw [z]));refine Nx.mk (by simpa using hj') ⟨s3,?_⟩;rw [Bs,Bp,List.filter_cons,if_neg (by rw [ev] at h00 ⊢;simp;lia),List.filter_nil,Ba]
  ·rintro ys H3 ⟨s3,e3⟩ la nla;rw [A1] at e3;subst e3;have s24:=s3.trans (ae (o:=.lst (Cy ((List.range ms.length).filter fun i=>(L.getD i 0).toNat == k))) nla);refine Nx.mk hk ⟨as++[la],s2.trans s24,by rw [AY];rfl,?_,fun x hx=>?_⟩;rotate_left
   ·rcases BA.mp hx with hx|hx
    ·exact f2 x hx
    ·rw [AU.mp hx];exact (s2.trans s3).free nla
   rw [Bs,AY];exact bj (F:=oK _) af (Paired.mapP p2 fun a b h=>s24 _ _ h)
 ·rintro ys H2 ⟨as,s2,rfl,p2,f2⟩ l' nl';have s3:=ae (o:=.lst (as.map V.ref)) nl';exact q l' as _ (s2.trans s3) (s2.free nl') f2 ⟨af,Paired.mapP p2 fun _ _ h=>s3 _ _ h⟩
theorem tj (n:Nat) (x:Int):(List.replicate n [V.int x]).flatten=(List.replicate n x).map V.int:=by
 induction n with
 | zero=>rfl
 | succ n ih=>rw [List.replicate_succ,BQ,ih,List.replicate_succ];rfl
inductive yC (H:Hp) (as':List Addr) (as:List Addr) (xss:List (List Nat)) (i:Nat):Prop
 | mk:Paired (oK H) as' ((xss.take i).filter fun l=>decide (l≠[]))->(∀ x∈as',x∈as)->yC H as' as xss i
section
variable {P:Program} {w:World} {K:ZF} {mg:Str->Option Value} {base:Heap} {C:Nat->Addr}
theorem D0:ar ["_law_told","_law_many","_law_numbers_here","_law_at","_law_behind","_law_beats"] ["_law_told","_law_many"] (aj fq):=cE zk
theorem yD:(["_law_k","_law_numbers_here","_law_told"]:List Str).Nodup:=by decide +kernel
theorem yE:(["_law_at","_law_k","_law_numbers_here"]:List Str).Nodup:=by decide +kernel
theorem zQ:(["_law_beat"]:List Str).Nodup:=by decide +kernel
theorem tm {f:Addr} {fd:FuncData} (F:C7 K "_law_late" "_law_late" fq f fd) (B:Bl mg) (B2:rW mg) (LM:Fn P w K mg base "_law_meet" 2 ["_law_one","_law_other"] fN):aT P w K mg base bT 3 f fd ["_law_told","_law_many"] kP:=by
 have ZZ:=D0
 walk_at "o"
 ·obtain ⟨v,ms,T,rfl,hS,hT,q⟩:=h;have sz:(100000:Nat)<=sizeLine:=by decide
  have hn60:=hS.len60;have hTn:T<=ms.length:=by rw [hT];exact TK.iP _ _
  refine ⟨_,(ah (dH (i:=2) D0.nd rfl (Or.inr rfl) (aK rh (au (aa (aK gm (pv 1) ag) ab)) (ao aw (by rfl) B.len A4 (aa (pv 0) ab)))) (ah (bY PassesOwn.never rfl (uH rfl B2.reversed (aa (bm Ej (by rfl) B.range Ef (aa (ao aw (by rfl) B.len A4 (aa (pv 0) ab)) ab)) ab)) (cZ (i:=3) D0.nd) (ai (bY PassesOwn.never rfl (pj rfl B.range (aa (aK bZ (pv 3) ag) (aa (ao aw (by rfl) B.len A4 (aa (pv 0) ab)) ab))) (cZ (i:=4) D0.nd) (ai (aN (aW (ap LM hr.m rfl (aa (aq aG (pv 0) (pv 3)) (aa (aq aG (pv 0) (pv 4)) ab)))) (ai (jV (ao (gp rfl) (by rfl) B.min PyProof.Rows.boot_min (aa (aq aG (pv 2) (pv 3)) (aa (aK gm (aq aG (pv 2) (pv 4)) ag) ab))) (im (pv 2) (pv 3) dY))) aA))))) (ah (qy (z:="_law_k") (i:=5) D0.nd rfl rfl (N':=["_law_k","_law_numbers_here","_law_told"]) (ix:=[none,some 2,some 0]) (sc0:=(aj fq)) (N:=["_law_told","_law_many","_law_numbers_here","_law_at","_law_behind","_law_beats"]) rfl zk (bB rfl B.range (aa (pv 1) ab)) (fun _ _ _ _ _=>(eF (i:=0) yD rfl (Or.inr rfl) (.inl rfl))) (fun _ _ _ _ _=>cA) (fun _ _ _ _ _=>(cf (N':=["_law_at","_law_k","_law_numbers_here"]) (ix:=[none,some 0,some 1]) (sc0:=(Ac AF (aj fq))) (N:=["_law_k","_law_numbers_here","_law_told"]) rfl zk (bB rfl B.range (aa (ao (lV (K:=K) rfl) (by rfl) B.len A4 (aa (pv 2) ab)) ab)) (fun _ _ _ _ _=>(cZ (i:=0) yE)) (fun _ _ _ _ _=>(cN (aC bC (aq (ci (K:=K) rfl) (pv 2) (pv 0)) (pv 1)))) (fun _ _ _ _ _=>(pv 0))))) (ai (al (cf (N':=["_law_beat"]) (ix:=[none]) (sc0:=aj fq) (N:=["_law_told","_law_many","_law_numbers_here","_law_at","_law_behind","_law_beats"]) rfl zk (bn (pv 5)) (fun _ _ _ _ _=>(cZ (i:=0) zQ)) (fun _ _ _ _ _=>(cN (aC (oU (K:=K) rfl hr) (pv 0) (au ab)))) (fun _ _ _ _ _=>(pv 0)))))))),?_⟩;obtain ⟨pz,us,rfl,hz,hTp,hz60⟩:=id hS;have hTl:=hTp.length;refine ⟨_,rfl,_,_,rfl,rfl,CM,fun l1 n1=>?_⟩;have s1:=ae (o:=.lst [.int ((T:Int) - 1)]) n1;have e1:aB H l1 (.lst [.int ((T:Int) - 1)]) l1=some (.lst [.int ((T:Int) - 1)]):=af;generalize aB H l1 (.lst [.int ((T:Int) - 1)])=H1 at *;refine ⟨_,rfl,pz,us,rfl,.inl (Cz.of (s1 _ _ hz)),l1,(us.length:Int),_,rfl,rfl,e1,by lia,by lia,by show 1*_<=_;lia,fun ln nln=>?_⟩;have hln:H ln=none:=s1.free nln;have s2:=s1.trans (ae (o:=.lst (List.replicate (us.length:Int).toNat [V.int ((T:Int) - 1)]).flatten) nln);have e2:aB H1 ln (.lst (List.replicate (us.length:Int).toNat [V.int ((T:Int) - 1)]).flatten) ln=some (.lst ((List.replicate ms.length ((T:Int) - 1)).map V.int)):=by rw [af,A1,tj,hTl]
  generalize aB H1 ln _=H2 at *;refine ⟨_,rfl,pz,us,rfl,.inl (Cz.of (s2 _ _ hz)),us.length,rfl,fun pr npr=>?_⟩;have s3:=s2.trans (ae (o:=.rng 0 us.length) npr);have e3:aB H2 pr (.rng 0 us.length) pr=some (.rng 0 us.length):=af;have e2':=(ae (o:=.rng 0 us.length) npr) _ _ e2;generalize aB H2 pr (.rng 0 us.length)=H3 at *;refine ⟨pr,us.length,rfl,e3,by lia,?_⟩;refine sM (fun i σ H'=>zO H (.ref pz) T ln (bI ms) ms.length i σ H') ⟨none,none,_,rfl,s3,e2',by rw [hT];exact qz⟩ ?_ ?_
  ·rintro i σ H4 hi ⟨v3,v4,L,rfl,s4,e4,l4⟩;rw [hTl] at hi ⊢;have ea:((ms.length:Int) - 1 - (i:Int))=((ms.length - 1 - i:Nat):Int):=by lia
   have es:ms.length - i=(ms.length - 1 - i)+1:=by lia
   rw [es] at l4;rw [ea];have haN:ms.length - 1 - i < ms.length:=by lia
   have edn:ms.length - (i+1)=ms.length - 1 - i:=by lia
   have back:∀ σ H',zP H (.ref pz) T ln (bI ms) ms.length (ms.length - 1 - i) (ms.length - (ms.length - 1 - i+1)) σ H'->zO H (.ref pz) T ln (bI ms) ms.length (i+1) σ H':=by
    rintro σ H' ⟨w4,L',rfl,s',e',l'⟩;exact ⟨_,w4,L',rfl,s',e',by rw [edn];exact l'.done haN⟩
   generalize ms.length - 1 - i=a at *;refine ⟨_,rfl,_,_,rfl,rfl,_,rfl,pz,us,rfl,.inl (Cz.of (s4 _ _ hz)),?_⟩;rw [hTl];refine ⟨(a:Int)+1,(ms.length:Int),rfl,⟨by lia,by lia,by lia,by lia⟩,?_⟩;have ecn:((ms.length:Int) - ((a:Int)+1)).toNat=ms.length - (a+1):=by lia
   rw [ecn];refine c7 (lo:=(a:Int)+1) (fun k σ H'=>zP H (.ref pz) T ln (bI ms) ms.length a k σ H') ⟨v4,L,rfl,s4,e4,⟨l4,fun b h1 h2 _ _=>absurd h2 (by lia)⟩⟩ ?_ (fun σ H' j=>back σ H' j);rintro k σ H5 hk ⟨w4,L',rfl,s5,e5,l5⟩;have hkN:a+1+k < ms.length:=by lia
   have ek:(a:Int)+1+(k:Int)=((a+1+k:Nat):Int):=by lia
   rw [ek];have S5:=hS.same s5;obtain ⟨z1,m1,q1,w1,k1⟩:=S5.at (K:=K) haN;obtain ⟨z2,m2,q2,w2,k2⟩:=S5.at (K:=K) hkN;refine ⟨_,rfl,_,rfl,k1 _ ⟨_,rfl,_,rfl,k2 _ ⟨_,_,m1,m2,rfl,w1,w2,fun H6 s6=>⟨_,rfl,?_⟩⟩⟩⟩;rw [<-fv q1 q2];have e6:=s6 _ _ e5;refine bz (fun h=>?_) (fun h=>?_)
   ·have hLl:L'.length=ms.length:=l5.b.len;have ga:(L'.map V.int)[a]?=some (.int (L'.getD a 0)):=by rw [A5,AL (by lia),Bm,AL (by lia)];rfl
    have gb:(L'.map V.int)[a+1+k]?=some (.int (L'.getD (a+1+k) 0)):=by rw [A5,AL (by lia),Bm,AL (by lia)];rfl
    refine ⟨_,rfl,_,rfl,ln,_,_,_,rfl,rfl,Cz.of e6,a8 ga,?_⟩;refine ⟨_,rfl,_,rfl,ln,_,_,_,rfl,rfl,Cz.of e6,a8 gb,_,_,rfl,rfl,_,_,rfl,?_⟩;refine ⟨_,rfl,_,rfl,ln,_,_,a,rfl,rfl,e6,by rw [AM];exact kO (by lia),?_⟩;rw [<-List.map_set];refine ⟨_,_,rfl,ak hln (s5.trans s6),af,l5.set hkN h rfl⟩
   ·exact ⟨_,L',rfl,s5.trans s6,e6,l5.skip h⟩
  ·rintro σ H4 ⟨v3,v4,L,rfl,s4,e4,l4⟩;have e0:ms.length - us.length=0:=by lia
   rw [e0] at l4;refine ⟨_,rfl,(T:Int),rfl,by lia,by lia,?_⟩;refine uV (K:=K) (hS.same s4) e4 l4.len (fun i hi=>by have:=l4.lo i hi;lia) (by lia) fun lb as H5 s5 nlb nas L5=>?_;rw [A1] at L5;refine ⟨_,rfl,lb,rfl,⟨_,Cz.of L5.ls⟩,?_⟩;have hal:as.length=T:=by rw [L5.it.length,AM,List.length_range]
   refine bU (K:=K) (a:=lb) (xs:=as.map V.ref) (fun i ys H'=>Cw H5 H'/\∃ as',ys=as'.map V.ref/\as'.length<=i/\yC H' as' as ((List.range T).map fun k=>(List.range ms.length).filter fun i=>(L.getD i 0).toNat == k) i) ⟨Cw.refl _,[],rfl,AR _,.nil,fun _ h=>(nomatch h)⟩ (fun i ys H' hi ⟨s',as',e,hle,_⟩=>⟨Cz.of (s' _ _ L5.ls),by rw [e,AM];rw [AM] at hi;lia⟩) ?_ ?_
   ·rintro i x ys H6 hx ⟨s6,as',rfl,hle,p6,m6⟩;have hi:=(AN.mp hx).1;have hi':i < as.length:=by rw [AM] at hi;exact hi
    rw [A5,AL hi'] at hx;cases hx;obtain ⟨xs,hxs,hlx⟩:=aQ L5.it (AL hi');refine ⟨trivial,?_⟩;refine ⟨_,rfl,CM,fun l0 nl0=>?_⟩;have s7:=s6.trans (ae (o:=.lst []) nl0);have e7:aB H6 l0 (.lst []) l0=some (.lst (Cy [])):=af;have p7:Paired (oK (aB H6 l0 (.lst []))) as' _:=Paired.mapP p6 fun _ _ h=>(ae (o:=.lst []) nl0) _ _ h;generalize aB H6 l0 (.lst [])=H7 at *;refine kI (s7 _ _ hlx) e7 ⟨_,rfl,bz (fun h=>?_) (fun h=>?_)⟩
    ·have Cq:decide (xs≠[])=true:=by simpa using h
     refine ⟨_,rfl,Nx.mk hi ⟨s7,as'++[as[i]],by rw [AY];rfl,by rw [AT];show as'.length+1<=i+1;lia,?_,fun y hy=>?_⟩⟩
     ·rw [cn hxs,Bp,List.filter_cons,if_pos Cq,List.filter_nil];exact bj (F:=oK _) (s7 _ _ hlx) p7
     ·rcases BA.mp hy with hy|hy
      ·exact m6 y hy
      ·rw [AU.mp hy];exact Bq hi'
    ·have Cq:¬ decide (xs≠[])=true:=by simpa using h
     refine Nx.mk hi ⟨s7,as',rfl,by lia,?_,m6⟩;rw [cn hxs,Bp,List.filter_cons,if_neg Cq,List.filter_nil,Ba];exact p7
   ·rintro ys H6 ⟨s6,as',rfl,hle,p6,m6⟩ l nl;rw [AM,hal,Bi (by rw [AM,List.length_range];exact AR _)] at p6;have s7:=ae (o:=.lst (as'.map V.ref)) nl;have s05:=s4.trans s5;refine q l as' (fun i=>(L.getD i 0).toNat) _ ((s05.trans s6).trans s7) ((s05.trans s6).free nl) (fun x hx=>s4.free (nas x (m6 x hx))) ⟨af,Paired.mapP p6 fun _ _ h=>s7 _ _ h⟩ (TK.uL l4) fun i hi=>?_;have h1:=l4.hi i hi;have h2:=l4.lo i hi;show (L.getD i 0).toNat < T;lia
end
end L3
set_option autoImplicit true
set_option relaxedAutoImplicit true
namespace L3
open PySem L2
open TK (Ti Tb)
def yF:Sp:=fun _ _ _ _=>False
variable {fd:FuncData} {f:Addr} {K:ZF}
theorem uW {P:Program} {w:World} {mg:Str->Option Value} {base:Heap} {k:Nat} {ps:List Str}:aT P w K mg base bT k f fd ps yF:=⟨fun _ _ _ _ h=>h.elim,fun _ _ _ _ _ _ _ _ _ _ _ _ _ h=>h.elim⟩
inductive E3 (H:Hp):V->Prop
 | non:E3 H .non
 | int (i:Int):E3 H (.int i)
 | bl (b:Bool):E3 H (.bl b)
 | str (x:Str):E3 H (.str x)
 | dic {a:Addr}:H a=some (.dK [])->E3 H (.ref a)
variable {v:V} {H H':Hp}
theorem E3.same (h:E3 H v) (s:Cw H H'):E3 H' v:=by
 cases h with
 | non=>exact .non
 | int i=>exact .int i
 | bl b=>exact .bl b
 | str x=>exact .str x
 | dic e=>exact .dic (s _ _ e)
theorem E3.ty (h:E3 H v):∃ t:Value,Dr K H v t/\PySem.W.kitOne K t (.type "list")=some false/\PySem.W.kitOne K t (.type "tuple")=some false:=by
 cases h with
 | non=>exact ⟨_,.non,rfl,rfl⟩
 | int i=>exact ⟨_,.int i,rfl,rfl⟩
 | bl b=>exact ⟨_,.bl b,rfl,rfl⟩
 | str x=>exact ⟨_,.str x,rfl,rfl⟩
 | dic e=>exact ⟨_,.dK e,rfl,rfl⟩
def Dp (H:Hp):Nat->V->Prop
 | 0,v=>E3 H v
 | d+1,v=>E3 H v\/∃ a xs,v=.ref a/\(H a=some (.lst xs)\/H a=some (.tup xs))/\xs.length<=60/\∀ x∈xs,Dp H d x
def Cp (H:Hp):Nat->V->V->Prop
 | 0,v,v'=>v=v'/\E3 H v
 | d+1,v,v'=>(v=v'/\E3 H v)\/∃ a a' xs xs',v=.ref a/\v'=.ref a'/\((H a=some (.lst xs)/\H a'=some (.lst xs'))\/(H a=some (.tup xs)/\H a'=some (.tup xs')))/\Paired (Cp H d) xs xs'
theorem Dp.same (s:Cw H H'):∀ {d:Nat} {v:V},Dp H d v->Dp H' d v
 | 0,_,h=>E3.same h s
 | d+1,_,h=>h.imp (fun h=>h.same s) fun ⟨a,xs,e,h,l,p⟩=>⟨a,xs,e,h.imp (s _ _) (s _ _),l,fun x hx=>Dp.same s (p x hx)⟩
theorem Dp.up:∀ {d:Nat} {v:V},Dp H d v->Dp H (d+1) v
 | 0,_,h=>.inl h
 | d+1,_,h=>h.imp id fun ⟨a,xs,e,h,l,p⟩=>⟨a,xs,e,h,l,fun x hx=>Dp.up (p x hx)⟩
theorem Cp.same (s:Cw H H'):∀ {d:Nat} {v v':V},Cp H d v v'->Cp H' d v v'
 | 0,_,_,h=>⟨h.1,h.2.same s⟩
 | d+1,_,_,h=>h.imp (fun h=>⟨h.1,h.2.same s⟩) fun ⟨a,a',xs,xs',e,e',h,p⟩=>⟨a,a',xs,xs',e,e',h.imp (fun h=>⟨s _ _ h.1,s _ _ h.2⟩) (fun h=>⟨s _ _ h.1,s _ _ h.2⟩),Paired.mapP p fun _ _ h=>Cp.same s h⟩
variable {o:Ti}
theorem Dw.dp (h:Dw H v o):Dp H 1 v:=by
 cases h with
 | int i=>exact .inl (.int i)
 | non=>exact .inl .non
 | bl b=>exact .inl (.bl b)
 | str h=>exact .inl (.str _)
 | one h=>exact .inr ⟨_,_,rfl,.inl h,by show 1<=60;decide,fun x hx=>by rw [AU.mp hx];exact .int _⟩
theorem cS {α β:Type} {F:α->β->Prop}:∀ {xs:List α} {ys:List β},Paired F xs ys->∀ x∈xs,∃ y∈ys,F x y
 | _,_,.cons h t,x,hx=>by
  rcases AZ.mp hx with rfl|hx
  ·exact ⟨_,AX ..,h⟩
  ·obtain ⟨y,hy,hf⟩:=cS t x hx;exact ⟨y,A2 _ hy,hf⟩
theorem DS.dp {o:Tb} (h:DS H v o):Dp H 2 v:=by
 cases h with
 | lst h p l=>exact .inr ⟨_,_,rfl,.inl h,l,fun x hx=>let ⟨_,_,h⟩:=cS p x hx;h.dp⟩
 | tup h p l=>exact .inr ⟨_,_,rfl,.inr h,l,fun x hx=>let ⟨_,_,h⟩:=cS p x hx;h.dp⟩
 | non=>exact .inl .non
 | int i=>exact .inl (.int i)
 | str h=>exact .inl (.str _)
 | dic h=>exact .inl (.dic h)
theorem Es.dp {o:Option (List Tb)} (h:Es H v o):Dp H 3 v:=by
 cases h with
 | lst h p l=>exact .inr ⟨_,_,rfl,.inl h,l,fun x hx=>let ⟨_,_,h⟩:=cS p x hx;h.1.dp⟩
 | tup h p l=>exact .inr ⟨_,_,rfl,.inr h,l,fun x hx=>let ⟨_,_,h⟩:=cS p x hx;h.1.dp⟩
 | non=>exact .inl .non
 | int i=>exact .inl (.int i)
 | str h=>exact .inl (.str _)
 | dic h=>exact .inl (.dic h)
variable {d:Nat}
theorem Cp.flat {v v':V} (h:Cp H d v v') (hv:∀ a,v=.ref a->(∀ xs,H a≠some (.lst xs))/\∀ xs,H a≠some (.tup xs)):v'=v:=by
 cases d with
 | zero=>exact h.1.symm
 | succ d=>
  rcases h with h|⟨a,a',xs,xs',e,e',h,p⟩
  ·exact h.1.symm
  ·obtain ⟨h1,h2⟩:=hv a e;rcases h with h|h
   ·exact absurd h.1 (h1 xs)
   ·exact absurd h.1 (h2 xs)
variable {xs:List V} {a:Addr}
theorem Cp.lst {v':V} (h:Cp H d (.ref a) v') (e:H a=some (.lst xs)):∃ d' a' xs',d=d'+1/\v'=.ref a'/\H a'=some (.lst xs')/\Paired (Cp H d') xs xs':=by
 cases d with
 | zero=>
  obtain ⟨_,hf⟩:=h;cases hf with
  | dic h=>rw [e] at h;cases h
 | succ d=>
  rcases h with ⟨_,hf⟩|⟨a1,a',ys,xs',e1,e',h,p⟩
  ·cases hf with
   | dic h=>rw [e] at h;cases h
  ·cases e1;rcases h with h|h
   ·rw [e] at h;cases h.1;exact ⟨d,a',xs',rfl,e',h.2,p⟩
   ·rw [e] at h;cases h.1
theorem Cp.tup {v':V} (h:Cp H d (.ref a) v') (e:H a=some (.tup xs)):∃ d' a' xs',d=d'+1/\v'=.ref a'/\H a'=some (.tup xs')/\Paired (Cp H d') xs xs':=by
 cases d with
 | zero=>
  obtain ⟨_,hf⟩:=h;cases hf with
  | dic h=>rw [e] at h;cases h
 | succ d=>
  rcases h with ⟨_,hf⟩|⟨a1,a',ys,xs',e1,e',h,p⟩
  ·cases hf with
   | dic h=>rw [e] at h;cases h
  ·cases e1;rcases h with h|h
   ·rw [e] at h;cases h.1
   ·rw [e] at h;cases h.1;exact ⟨d,a',xs',rfl,e',h.2,p⟩
structure Fy (K:ZF) (H:Hp) (v v':V) (n:Nat):Prop where
 ex:∃ d,Dt K H v d/\Dt K H v' d/\d.canLay0=true/\d.depth<=n/\PyData.eqv d d=true
structure FF (K:ZF) (H:Hp) (xs xs':List V) (n:Nat):Prop where
 ex:∃ ds,Dl K H xs ds/\Dl K H xs' ds/\PyData.canLayAll0 ds=true/\PyData.depthAll ds<=n/\PyData.eqvAll ds ds=true
variable {n:Nat}
theorem FF.nil:FF K H [] [] n:=⟨[],.nil,.nil,rfl,by simp [PyData.depthAll],by simp [PyData.eqvAll]⟩
variable {x x':V}
theorem FF.cons {xs xs':List V} (h:Fy K H x x' n) (t:FF K H xs xs' n):FF K H (x::xs) (x'::xs') n:=by
 obtain ⟨d,h1,h2,h3,h4,h5⟩:=h;obtain ⟨ds,t1,t2,t3,t4,t5⟩:=t;refine ⟨d::ds,.cons h1 t1,.cons h2 t2,?_,?_,?_⟩
 ·show (d.canLay0 && PyData.canLayAll0 ds)=true;rw [h3,t3];rfl
 ·simp only [PyData.depthAll];lia
 ·simp only [PyData.eqvAll,h5,t5,Bool.and_self]
theorem FF.lst {a a':Addr} {xs xs':List V} (t:FF K H xs xs' n) (h:H a=some (.lst xs)) (h':H a'=some (.lst xs')):Fy K H (.ref a) (.ref a') (n+1):=by
 obtain ⟨ds,t1,t2,t3,t4,t5⟩:=t;exact ⟨.list ds,.lst (Cz.of h) t1,.lst (Cz.of h') t2,t3,by simp only [PyData.depth];lia,by simp only [PyData.eqv];exact t5⟩
theorem FF.tup {a a':Addr} {xs xs':List V} (t:FF K H xs xs' n) (h:H a=some (.tup xs)) (h':H a'=some (.tup xs')):Fy K H (.ref a) (.ref a') (n+1):=by
 obtain ⟨ds,t1,t2,t3,t4,t5⟩:=t;exact ⟨.tuple ds,.tup (CI.of h) t1,.tup (CI.of h') t2,t3,by simp only [PyData.depth];lia,by simp only [PyData.eqv];exact t5⟩
theorem Fy.int (i:Int) (hn:1<=n):Fy K H (.int i) (.int i) n:=⟨.int i,.int i,.int i,rfl,by simp only [PyData.depth];lia,by simp [PyData.eqv]⟩
theorem Fy.non (hn:1<=n):Fy K H .non .non n:=⟨.none,.non,.non,rfl,by simp only [PyData.depth];lia,by simp [PyData.eqv]⟩
theorem Fy.bl (b:Bool) (hn:1<=n):Fy K H (.bl b) (.bl b) n:=⟨.bool b,.bl b,.bl b,rfl,by simp only [PyData.depth];lia,by simp [PyData.eqv]⟩
theorem Fy.str {x:Str} (h:(PyData.str x).canLay0=true) (hn:1<=n):Fy K H (.str x) (.str x) n:=⟨.str x,.str x,.str x,h,by simp only [PyData.depth];lia,by simp [PyData.eqv]⟩
theorem dm (h:∀ a,v≠.ref a):∀ a,v=.ref a->(∀ xs,H a≠some (.lst xs))/\∀ xs,H a≠some (.tup xs):=fun a e=>absurd e (h a)
theorem Dw.cp {v v':V} (h:Dw H v o) (c:Cp H d v v'):Dw H v' o/\Fy K H v v' 2:=by
 cases h with
 | int i=>rw [c.flat (dm fun a=>nofun)];exact ⟨.int i,.int i zd⟩
 | non=>rw [c.flat (dm fun a=>nofun)];exact ⟨.non,.non zd⟩
 | bl b=>rw [c.flat (dm fun a=>nofun)];exact ⟨.bl b,.bl b zd⟩
 | str h=>rw [c.flat (dm fun a=>nofun)];exact ⟨.str h,.str h zd⟩
 | one h=>
  obtain ⟨d',a',xs',rfl,rfl,h',p⟩:=c.lst h;cases p with
  | cons p1 p2=>
   cases p2;have:=Cp.flat p1 (dm fun a=>nofun);subst this;exact ⟨.one h',(FF.cons (.int _ (AR 1)) FF.nil).lst h h'⟩
theorem nW {K:ZF}:∀ {xs xs':List V} {os:List Ti},Paired (Dw H) xs os->Paired (Cp H d) xs xs'->Paired (Dw H) xs' os/\FF K H xs xs' 2
 | _,_,_,.nil,.nil=>⟨.nil,.nil⟩
 | _,_,_,.cons h t,.cons c u=>by
  obtain ⟨a,b⟩:=h.cp (K:=K) c;obtain ⟨a2,b2⟩:=nW (K:=K) t u;exact ⟨.cons a a2,.cons b b2⟩
theorem yG {a b:Addr} (h:H a=some (.dK [])):∀ c,V.ref a=.ref c->(∀ xs,H c≠some (.lst xs))/\∀ xs,H c≠some (.tup xs):=fun c e=>by
 cases e;refine ⟨fun xs z=>?_,fun xs z=>?_⟩<;>rw [h] at z<;>cases z
theorem DS.cp {v v':V} {o:Tb} (h:DS H v o) (c:Cp H d v v'):DS H v' o/\((v'=v/\∃ a,v=.ref a/\H a=some (.dK []))\/Fy K H v v' 3):=by
 cases h with
 | lst h p l=>
  obtain ⟨d',a',xs',rfl,rfl,h',p'⟩:=c.lst h;obtain ⟨a,b⟩:=nW (K:=K) p p';exact ⟨.lst h' a (by rw [<-p'.length];exact l),.inr (b.lst h h')⟩
 | tup h p l=>
  obtain ⟨d',a',xs',rfl,rfl,h',p'⟩:=c.tup h;obtain ⟨a,b⟩:=nW (K:=K) p p';exact ⟨.tup h' a (by rw [<-p'.length];exact l),.inr (b.tup h h')⟩
 | non=>rw [c.flat (dm fun a=>nofun)];exact ⟨.non,.inr (.non zd)⟩
 | int i=>rw [c.flat (dm fun a=>nofun)];exact ⟨.int i,.inr (.int i zd)⟩
 | str h=>rw [c.flat (dm fun a=>nofun)];exact ⟨.str h,.inr (.str h zd)⟩
 | dic h=>rw [c.flat (yG (b:=0) h)];exact ⟨.dic h,.inl ⟨rfl,_,rfl,h⟩⟩
theorem nX {K:ZF}:∀ {xs xs':List V} {os:List Tb},Paired (E2 H) xs os->Paired (Cp H d) xs xs'->Paired (E2 H) xs' os/\FF K H xs xs' 3
 | _,_,_,.nil,.nil=>⟨.nil,.nil⟩
 | x::_,x'::_,_,.cons h t,.cons c u=>by
  obtain ⟨a,b⟩:=h.1.cp (K:=K) c;obtain ⟨a2,b2⟩:=nX (K:=K) t u;rcases b with ⟨rfl,a0,rfl,z⟩|b
  ·exact absurd z (h.2 a0 rfl)
  ·refine ⟨.cons ⟨a,fun a0 e z=>?_⟩ a2,.cons b b2⟩;subst e;obtain ⟨dd,_,hd,_⟩:=b.ex;have hb:=h.1;cases hb with
   | lst hh p l=>
    obtain ⟨d',a',xs',rfl,e',h',p'⟩:=c.lst hh;cases e';rw [h'] at z;cases z
   | tup hh p l=>
    obtain ⟨d',a',xs',rfl,e',h',p'⟩:=c.tup hh;cases e';rw [h'] at z;cases z
   | non=>have:=c.flat (dm fun a=>nofun);cases this
   | int i=>have:=c.flat (dm fun a=>nofun);cases this
   | str hh=>have:=c.flat (dm fun a=>nofun);cases this
   | dic hh=>exact h.2 _ rfl hh
theorem Es.cp {v v':V} {o:Option (List Tb)} (h:Es H v o) (c:Cp H d v v'):Es H v' o/\G0 K H v v':=by
 have fin:∀ {n:Nat},n<=50->Fy K H v v' n->G0 K H v v':=fun hn ⟨dd,h1,h2,h3,h4,h5⟩=>.inr ⟨dd,h1,h2,h3,by lia,h5⟩;cases h with
 | lst h p l=>
  obtain ⟨d',a',xs',rfl,rfl,h',p'⟩:=c.lst h;obtain ⟨a,b⟩:=nX (K:=K) p p';exact ⟨.lst h' a (by rw [<-p'.length];exact l),fin zd (b.lst h h')⟩
 | tup h p l=>
  obtain ⟨d',a',xs',rfl,rfl,h',p'⟩:=c.tup h;obtain ⟨a,b⟩:=nX (K:=K) p p';exact ⟨.tup h' a (by rw [<-p'.length];exact l),fin zd (b.tup h h')⟩
 | non=>rw [c.flat (dm fun a=>nofun)] at *;exact ⟨.non,.inl ⟨rfl,.inl rfl⟩⟩
 | int i=>rw [c.flat (dm fun a=>nofun)] at *;exact ⟨.int i,.inl ⟨rfl,.inl rfl⟩⟩
 | str h=>rw [c.flat (dm fun a=>nofun)] at *;exact ⟨.str h,.inl ⟨rfl,.inl rfl⟩⟩
 | dic h=>rw [c.flat (yG (b:=0) h)] at *;exact ⟨.dic h,.inl ⟨rfl,.inr ⟨_,rfl⟩⟩⟩
theorem DS.cpS {v v':V} {o:Tb} (h:DS H v o) (c:Cp H d v v'):DS H v' o/\G0 K H v v':=by
 obtain ⟨a,b⟩:=h.cp (K:=K) c;refine ⟨a,?_⟩;rcases b with ⟨rfl,a0,e,z⟩|⟨dd,h1,h2,h3,h4,h5⟩
 ·exact .inl ⟨rfl,.inr ⟨a0,e⟩⟩
 ·exact .inr ⟨dd,h1,h2,h3,by lia,h5⟩
inductive tq (d:Nat) (vs:List V) (H:Hp) (Q:VK):Prop
 | mk (v:V):vs=[v]->Dp H d v->(∀ v' H',Cw H H'->Cp H' d v v'->Q v' H')->tq d vs H Q
def yQ:Nat->Sp
 | 0=>yF
 | d+1=>fun vs H Q _=>tq d vs H Q
section
variable {P:Program} {w:World} {K:ZF} {mg:Str->Option Value} {base:Heap} {C:Nat->Addr}
theorem uX:ar ["_law_thing"] ["_law_thing"] (aj jd):=cE zk
theorem pc:(["_law_part"]:List Str).Nodup:=by decide +kernel
theorem ji {H H1:Hp} {xs ys:List V} {i:Nat} {x y:V} (hx:xs[i]?=some x) (s1:Cw H H1) (p:Paired (Cp H d) (xs.take i) ys) (c:Cp H1 d x y):Paired (Cp H1 d) (xs.take (i+1)) (ys++[y]):=by
 rw [cn hx];exact bj c (Paired.mapP p fun _ _ h=>h.same s1)
theorem gc (d:Nat) (F:C7 K "_law_kept" "_law_kept" jd f fd) (B:Bl mg) (KE:Fn P w K mg base "_law_kept" d ["_law_thing"] (yQ d)):aT P w K mg base bT (d+1) f fd ["_law_thing"] (yQ (d+1)):=by
 have ZZ:=uX
 walk_at "o"
 ·obtain ⟨v,rfl,hd,q⟩:=h;have hrd:CY d _:=hr.mono (by lia);have sz:(1000:Nat)<=sizeLine:=by decide
  refine ⟨_,(ah (aN (aW (ao (Dh (T:="list")) (by rfl) B.isinstance bE (aa (pv 0) (aa (Dm (by rfl) B.list cg) ab)))) (ai (al (cf (N':=["_law_part"]) (ix:=[none]) (sc0:=aj jd) (N:=["_law_thing"]) rfl zk (bn (pv 0)) (fun _ _ _ _ _=>(cZ (i:=0) pc)) (fun _ _ _ _ _=>cA) (fun _ _ _ _ _=>(ap KE hrd rfl (aa (pv 0) ab)))))) aA) (ah (aN (aW (ao (Dh (T:="tuple")) (by rfl) B.isinstance bE (aa (pv 0) (aa (Dm (by rfl) B.tuple bO) ab)))) (ai (al (bm cw (by rfl) B.tuple bO (aa (cf (N':=["_law_part"]) (ix:=[none]) (sc0:=aj jd) (N:=["_law_thing"]) rfl zk (qL (pv 0)) (fun _ _ _ _ _=>(cZ (i:=0) pc)) (fun _ _ _ _ _=>cA) (fun _ _ _ _ _=>(ap KE hrd rfl (aa (pv 0) ab)))) ab)))) aA) (ai (al (pv 0))))),?_⟩;have flat:E3 H v->∃ t:Value,Dr K H v t/\PySem.W.kitOne K t (.type "list")=some false/\PySem.W.kitOne K t (.type "tuple")=some false:=fun h=>h.ty;have low:E3 H v->Q v H:=fun h=>q v H (Cw.refl _) (by cases d with
   | zero=>exact ⟨rfl,h⟩
   | succ d=>exact .inl ⟨rfl,h⟩)
  by_cases hf:E3 H v
  ·obtain ⟨t,h1,h2,h3⟩:=flat hf;refine ⟨_,rfl,v,t,_,rfl,h1,h2,_,rfl,cb ?_⟩;refine ⟨_,rfl,v,t,_,rfl,h1,h3,_,rfl,cb ?_⟩;exact ⟨_,rfl,low hf⟩
  ·cases d with
   | zero=>exact absurd hd hf
   | succ d=>
    rcases hd with hd|⟨a,xs,rfl,h,hl,hall⟩
    ·exact absurd hd hf
    ·rcases h with h|h
     ·refine ⟨_,rfl,_,_,_,rfl,Dr.lst h,rfl,_,rfl,bM ?_⟩;refine ⟨_,rfl,a,rfl,⟨_,Cz.of h⟩,?_⟩;refine bU (K:=K) (a:=a) (xs:=xs) (fun i ys H'=>Cw H H'/\Paired (Cp H' d) (xs.take i) ys) ⟨Cw.refl _,.nil⟩ (fun i ys H' hi ⟨s',p⟩=>⟨Cz.of (s' _ _ h),by have:=p.length;rw [A7] at this;lia⟩) ?_ ?_
      ·rintro i x ys H1 hx ⟨s1,p1⟩;refine ⟨trivial,cB ?_⟩;refine ⟨_,rfl,x,rfl,Dp.same s1 (hall x (A6 hx)),fun y H2 s2 c2=>?_⟩;exact Nx.mk (AN.mp hx).1 ⟨s1.trans s2,ji hx s2 p1 c2⟩
      ·rintro ys H1 ⟨s1,p1⟩ l nl;rw [Bf] at p1;have s2:=ae (o:=.lst ys) nl;exact q _ _ (s1.trans s2) (.inr ⟨a,l,xs,ys,rfl,rfl,.inl ⟨(s1.trans s2) _ _ h,af⟩,Paired.mapP p1 fun _ _ h=>h.same s2⟩)
     ·refine ⟨_,rfl,_,_,_,rfl,Dr.tup h,rfl,_,rfl,cb ?_⟩;refine ⟨_,rfl,_,_,_,rfl,Dr.tup h,rfl,_,rfl,bM ?_⟩;refine ⟨_,rfl,a,rfl,⟨_,CI.of h⟩,?_⟩;refine F7 (K:=K) (a:=a) (xs:=xs) (fun i ys H'=>Cw H H'/\Paired (Cp H' d) (xs.take i) ys) ⟨Cw.refl _,.nil⟩ (fun i ys H' hi ⟨s',p⟩=>⟨CI.of (s' _ _ h),by have:=p.length;rw [A7] at this;lia⟩) ?_ ?_
      ·rintro i x ys H1 hx ⟨s1,p1⟩;refine ⟨trivial,cB ?_⟩;refine ⟨_,rfl,x,rfl,Dp.same s1 (hall x (A6 hx)),fun y H2 s2 c2=>?_⟩;exact Nx.mk (AN.mp hx).1 ⟨s1.trans s2,ji hx s2 p1 c2⟩
      ·rintro ys H1 ⟨s1,p1⟩ l nl;rw [Bf] at p1;have s2:=ae (o:=.lst ys) nl;refine ⟨l,ys,rfl,.inl ⟨Cz.of af,fun l2 nl2=>?_⟩⟩;have s3:=s2.trans (ae (o:=.tup ys) nl2);exact q _ _ (s1.trans s3) (.inr ⟨a,l2,xs,ys,rfl,rfl,.inr ⟨(s1.trans s3) _ _ h,af⟩,Paired.mapP p1 fun _ _ h=>h.same s3⟩)
end
end L3
set_option autoImplicit true
set_option relaxedAutoImplicit true
namespace L3
open PySem L2
open TK (Ti Tb)
theorem tt {K:ZF} {H:Hp} {p q:Addr} {x y:Bool} {Q:VK} (hp:H p=some (.lst [.bl x,.bl y])) (hq:H q=some (.lst [.bl x,.bl y])) (k:Q (.bl false) H):Fq K (.ref p) (.ref q) H Q:=by
 refine ⟨.list [.bool x,.bool y],.list [.bool x,.bool y],.lst (Cz.of hp) (.cons (.bl x) (.cons (.bl y) .nil)),.lst (Cz.of hq) (.cons (.bl x) (.cons (.bl y) .nil)),rfl,rfl,by simp [PyData.depth,PyData.depthAll],?_⟩;have:PyData.eqv (.list [.bool x,.bool y]) (.list [.bool x,.bool y])=true:=by simp [PyData.eqv,PyData.eqvAll]
 rw [this];exact k
inductive jj (C:Nat->Addr) (vs:List V) (H:Hp) (Q:VK) (Z3:XK):Prop
 | mk (a:Addr) (zs:List V) (u t p:V) (ms:List Md) (b:Option (List Tb)) (c:Tb):vs=[.ref a,u,t,p]->H a=some (.lst zs)->Paired (CN C H) zs ms->E1 H u ms->Es H t b->(∀ bs,b=some bs->(TK.bq bs).length < 64)->DS H p c->(∀ H',Cw H H'->Q (.bl true) H')->jj C vs H Q Z3
inductive Ag (H1:Hp) (va u t p:V) (lk ld l2:Addr) (σ:St) (H':Hp):Prop
 | mk (v6 v7:Option V):σ=[some va,some u,some t,some p,some (.ref lk),some (.ref ld),v6,v7]->Cw H1 H'->Ag H1 va u t p lk ld l2 σ H'
section
variable {P:Program} {w:World} {K:ZF} {mg:Str->Option Value} {base:Heap} {C:Nat->Addr}
theorem DF:ar ["_law_steps_here","_law_told","_law_beats","_law_places","_law_kept_here","_law_due","_law_some","_law_found"] ["_law_steps_here","_law_told","_law_beats","_law_places"] (aj ii):=cE zk
theorem wZ:(["_law_one"]:List Str).Nodup:=by decide +kernel
theorem qA {f:Addr} {fd:FuncData} (F:C7 K "_law_right" "_law_right" ii f fd) (B:Bl mg) (KE:Fn P w K mg base "_law_kept" 4 ["_law_thing"] (yQ 4)) (LP:Fn P w K mg base "_law_is_packing" 3 ["_law_told","_law_beats"] eW) (LC:Fn P w K mg base "_law_is_chain" 3 ["_law_told","_law_places"] fz) (IP:Fn P w K mg base "is_packing" 7 ["steps","beats"] (fZ C)) (IC:Fn P w K mg base "is_chain" 6 ["steps","places"] (eV C)):aT P w K mg base bT 8 f fd ["_law_steps_here","_law_told","_law_beats","_law_places"] (jj C):=by
 have ZZ:=DF
 walk_at "o"
 ·obtain ⟨a,zs,u,t,p,ms,b,c,rfl,ha,hP,hU,hB,hsm,hC,q⟩:=h;have sz:(1000:Nat)<=sizeLine:=by decide
  have hU60:=hU.len60;have hPl:=hP.length;refine ⟨_,(ah (eY (i:=4) DF.nd (au (aa (ap KE hr.m rfl (aa (pv 2) ab)) (aa (ap KE hr.m rfl (aa (pv 3) ab)) ab)))) (ah (eY (i:=5) DF.nd (au (aa (ap LP hr.m rfl (aa (pv 1) (aa (aq aG (pv 4) ag) ab))) (aa (ap LC hr.m rfl (aa (pv 1) (aa (aq aG (pv 4) ag) ab))) ab)))) (ah (bY PassesOwn.never rfl (bn (au (aa (pv 0) (aa (bm cw (by rfl) B.tuple bO (aa (pv 0) ab)) ab)))) (cZ (i:=6) DF.nd) (ah (eY (i:=7) DF.nd (au (aa (ap IP hr.m rfl (aa (pv 6) (aa (pv 2) ab))) (aa (ap IC hr.m rfl (aa (pv 6) (aa (pv 3) ab))) ab)))) (ah (aN (PW.pt (dS (aC (DT hr) (pv 7) (pv 5)) (c9 (aC eI bG (cf (N':=["_law_one"]) (ix:=[none]) (sc0:=aj ii) (N:=["_law_steps_here","_law_told","_law_beats","_law_places","_law_kept_here","_law_due","_law_some","_law_found"]) rfl zk (bn (pv 7)) (fun _ _ _ _ _=>(cZ (i:=0) wZ)) (fun _ _ _ _ _=>cA) (fun _ _ _ _ _=>(ao (oB (T:="bool") (K:=K) rfl) (by rfl) B.isinstance bE (aa (pv 0) (aa (Dm (by rfl) B.bool dM) ab))))) rfl)))) (ai (al bG)) aA) (ai (aN (PW.pt (dS (aC (wV hr) (au (aa (pv 2) (aa (pv 3) ab))) (pv 4)) (c9 (aC vb (ao aw (by rfl) B.len A4 (aa (pv 6) ab)) (ao aw (by rfl) B.len A4 (aa (pv 1) ab)))))) (ai (al bG)) aA))))) (ai (al bG))))),?_⟩;refine ⟨_,rfl,t,rfl,hB.dp,fun t' H1 s1 c1=>?_⟩;refine ⟨_,rfl,p,rfl,((hC.same s1).dp).up,fun p' H2 s2 c2=>?_⟩;have s02:=s1.trans s2;obtain ⟨hB',hEb⟩:=(hB.same s02).cp (K:=K) (c1.same s2);obtain ⟨hC',hEc⟩:=(hC.same s02).cpS (K:=K) c2;refine ⟨CM,fun lk nlk=>?_⟩;have s3:=ae (o:=.lst [t',p']) nlk;have e3:aB H2 lk (.lst [t',p']) lk=some (.lst [t',p']):=af;generalize aB H2 lk (.lst [t',p'])=H3 at *;have s03:=s02.trans s3;refine ⟨_,rfl,_,rfl,lk,_,_,_,rfl,rfl,Cz.of e3,a8 (j:=0) rfl,?_⟩;refine ⟨u,t',ms,b,rfl,hU.same s03,hB'.same s3,hsm,fun H4 s4=>?_⟩;have s04:=s03.trans s4;refine ⟨_,rfl,_,rfl,lk,_,_,_,rfl,rfl,Cz.of (s4 _ _ e3),a8 (j:=1) rfl,?_⟩;refine ⟨u,p',ms,c,rfl,hU.same s04,(hC'.same s3).same s4,fun H5 s5=>?_⟩;have s05:=s04.trans s5;refine ⟨CM,fun ld nld=>?_⟩;have s6:=ae (o:=.lst [.bl (TK.dE (bI ms) ms.length b),.bl (TK.cR (bI ms) ms.length c)]) nld;have e6:aB H5 ld (.lst [.bl (TK.dE (bI ms) ms.length b),.bl (TK.cR (bI ms) ms.length c)]) ld=some (.lst [.bl (TK.dE (bI ms) ms.length b),.bl (TK.cR (bI ms) ms.length c)]):=af;generalize aB H5 ld _=H6 at *;have s06:=s05.trans s6;refine ⟨_,rfl,_,rfl,a,zs,rfl,.inl ⟨Cz.of (s06 _ _ ha),fun lt nlt=>?_⟩⟩;have s7:=ae (o:=.tup zs) nlt;have e7:aB H6 lt (.tup zs) lt=some (.tup zs):=af;generalize aB H6 lt (.tup zs)=H7 at *;refine ⟨CM,fun l2 nl2=>?_⟩;have s8:=ae (o:=.lst [.ref a,.ref lt]) nl2;have e8:aB H7 l2 (.lst [.ref a,.ref lt]) l2=some (.lst [.ref a,.ref lt]):=af;have e7':=s8 _ _ e7;have s08:=(s06.trans s7).trans s8;have e3':=(((s4.trans s5).trans s6).trans (s7.trans s8)) _ _ e3;have e6':=(s7.trans s8) _ _ e6;have S38:=(((s3.trans s4).trans s5).trans s6).trans (s7.trans s8);generalize aB H7 l2 _=H8 at *;refine ⟨l2,rfl,⟨_,Cz.of e8⟩,?_⟩;have hstA:∀ {H':Hp} {x:V},Cw H8 H'->x=.ref a\/x=.ref lt->EU C H' x ms:=fun {H' x} s' hx=>by
   have hP':Paired (CN C H') zs ms:=Paired.mapP hP fun _ _ h=>h.same (s08.trans s');rcases hx with rfl|rfl
   ·exact ⟨a,zs,rfl,.inl (s' _ _ (s08 _ _ ha)),hP',by lia⟩
   ·exact ⟨lt,zs,rfl,.inr (s' _ _ e7'),hP',by lia⟩
  refine dz (K:=K) (a:=l2) (xs:=[.ref a,.ref lt]) (fun i σ H'=>Ag H8 (.ref a) u t p lk ld l2 σ H') ⟨none,none,rfl,Cw.refl _⟩ (fun _ _ H' _ ⟨_,_,_,s'⟩=>Cz.of (s' _ _ e8)) ?_ ?_
  ·rintro i x σ H9 hx ⟨v6,v7,rfl,s9⟩;have hxx:x=.ref a\/x=.ref lt:=by
    have:=A6 hx;simpa using this
   have s09:=s08.trans s9;refine ⟨_,rfl,_,rfl,x,t,ms,b,rfl,hstA s9 hxx,hB.same s09,fun H10 s10=>?_⟩;refine ⟨_,rfl,_,rfl,x,p,ms,c,rfl,hstA (s9.trans s10) hxx,hC.same (s09.trans s10),fun H11 s11=>?_⟩;have s911:=s9.trans (s10.trans s11);refine ⟨CM,fun lF nlF=>?_⟩;have Cs:=ae (o:=.lst [.bl (TK.dE (bI ms) ms.length b),.bl (TK.cR (bI ms) ms.length c)]) nlF;have e12:aB H11 lF (.lst [.bl (TK.dE (bI ms) ms.length b),.bl (TK.cR (bI ms) ms.length c)]) lF=some (.lst [.bl (TK.dE (bI ms) ms.length b),.bl (TK.cR (bI ms) ms.length c)]):=af;generalize aB H11 lF _=H12 at *;have s812:=s911.trans Cs;refine ⟨_,rfl,_,rfl,tt e12 (s812 _ _ e6') ⟨_,rfl,cb ?_⟩⟩;refine ⟨_,rfl,lF,rfl,⟨_,Cz.of e12⟩,?_⟩;refine bU (K:=K) (a:=lF) (xs:=[.bl (TK.dE (bI ms) ms.length b),.bl (TK.cR (bI ms) ms.length c)]) (fun i ys H'=>Cw H12 H'/\ys=List.replicate i (V.bl true)) ⟨Cw.refl _,rfl⟩ (fun i ys H' hi ⟨s',e⟩=>⟨Cz.of (s' _ _ e12),by rw [e,Cg];have:i<=2:=hi;lia⟩) ?_ ?_
   ·rintro j y ys H13 hy ⟨s13,rfl⟩;have hyb:∃ bb,y=.bl bb:=by
     have:=A6 hy;simp at this;rcases this with h|h
     ·exact ⟨_,h⟩
     ·exact ⟨_,h⟩
    obtain ⟨bb,rfl⟩:=hyb;refine ⟨trivial,cB ?_⟩;refine ⟨_,rfl,_,_,_,rfl,Dr.bl bb,rfl,?_⟩;refine Nx.mk (AN.mp hy).1 ⟨s13,?_⟩;rw [List.replicate_succ']
   ·rintro ys H13 ⟨s13,e13⟩ lb nlb;subst e13;have s14:=s13.trans (ae (o:=.lst (List.replicate 2 (V.bl true))) nlb);have e14:aB H13 lb (.lst (List.replicate 2 (V.bl true))) lb=some (.lst [.bl true,.bl true]):=af;refine ⟨lb,[.bl true,.bl true],rfl,.inl (Cz.of e14),rfl,rfl,_,rfl,cb ?_⟩;generalize aB H13 lb _=H14 at *;have s814:=s812.trans s14;refine ⟨_,rfl,_,rfl,CM,fun lx nlx=>?_⟩;have s15:=ae (o:=.lst [t,p]) nlx;have e15:aB H14 lx (.lst [t,p]) lx=some (.lst [t,p]):=af;generalize aB H14 lx _=H15 at *;have s815:=s814.trans s15;have s215:=S38.trans s815;obtain ⟨_,hE1⟩:=((hB.same s02).same s215).cp (K:=K) ((c1.same s2).same s215);obtain ⟨_,hE2⟩:=((hC.same s02).same s215).cpS (K:=K) (c2.same s215);refine ⟨_,rfl,lx,lk,_,_,rfl,rfl,Cz.of e15,Cz.of (s815 _ _ e3'),.cons hE1 (.cons hE2 .nil),_,rfl,cb ?_⟩;obtain ⟨px,yx,ex,hsx,elx⟩:=(hstA s815 hxx).lenx (K:=K);obtain ⟨pu,yu,rfl,hsu,elu⟩:=(hU.same (s08.trans s815)).lenx (K:=K);subst ex;refine ⟨_,rfl,px,yx,rfl,hsx,_,rfl,pu,yu,rfl,hsu,rfl,_,rfl,?_⟩;rw [elx,elu];refine bp (by simp) ?_;exact ⟨_,_,rfl,s815⟩
  ·rintro σ H9 ⟨v6,v7,rfl,s9⟩;exact q H9 (s08.trans s9)
end
end L3
set_option autoImplicit true
set_option relaxedAutoImplicit true
namespace L3
open PySem L2
open TK (Ti Tb)
theorem tu {X:Cx} {j:Nat} {p1 p2:Pos}:PE X (.UnaryOp .USub (.Constant (.int 1) j p1) p2) (tC (.int (-1))):=⟨fun Cj s σ H Q I h=>(qO mD ag) Cj s σ H Q I ⟨1,rfl,h⟩⟩
def br (p:Addr) (H:Hp):Hp:=fun a=>if a=p then none else H a
variable {H H':Hp} {p:Addr}
theorem aV (s:Cw H H'):Cw (br p H) (br p H'):=fun a o e=>by
 unfold br at e ⊢;split at e
 ·cases e
 ·rename_i h;rw [if_neg h];exact s _ _ e
theorem cD (b:Dy p H H'):Cw (br p H) (br p H'):=fun a o e=>by
 unfold br at e ⊢;split at e
 ·cases e
 ·rename_i h;rw [if_neg h];exact b _ _ e h
theorem aM:Cw (br p H) H:=fun a o e=>by
 unfold br at e;split at e
 ·cases e
 ·exact e
variable {o:HO} {a:Addr}
theorem pd (e:br p H a=some o):a≠p:=fun z=>by
 unfold br at e;rw [if_pos z] at e;cases e
theorem cL (e:H a=some o) (h:a≠p):br p H a=some o:=by
 unfold br;rw [if_neg h];exact e
theorem aY {p l:Addr} (g:CW H p) (n:H l=none):Cw (br p H) (br p (aB H l o))/\br p (aB H l o) l=some o:=
 ⟨aV (ae n),cL af (g.ne n).symm⟩
theorem nY (s:Cw (br p H) (br p H')):Dy p H H':=fun a o e n=>aM _ _ (s _ _ (cL e n))
theorem Paired.app2 {α β:Type} {F:α->β->Prop}:∀ {xs xs':List α} {ys ys':List β},Paired F xs ys->Paired F xs' ys'->Paired F (xs++xs') (ys++ys')
 | _,_,_,_,.nil,h=>h
 | _,_,_,_,.cons a t,h=>.cons a (Paired.app2 t h)
theorem Paired.rev2 {α β:Type} {F:α->β->Prop}:∀ {xs:List α} {ys:List β},Paired F xs ys->Paired F xs.reverse ys.reverse
 | _,_,.nil=>.nil
 | _,_,.cons a t=>by rw [List.reverse_cons,List.reverse_cons];exact bj a (Paired.rev2 t)
theorem Paired.take2 {α β:Type} {F:α->β->Prop}:∀ {xs:List α} {ys:List β} (k:Nat),Paired F xs ys->Paired F (xs.take k) (ys.take k)
 | _,_,0,_=>.nil
 | _,_,_+1,.nil=>.nil
 | _,_,k+1,.cons a t=>.cons a (Paired.take2 k t)
theorem Paired.drop2 {α β:Type} {F:α->β->Prop}:∀ {xs:List α} {ys:List β} (k:Nat),Paired F xs ys->Paired F (xs.drop k) (ys.drop k)
 | _,_,0,h=>h
 | _,_,_+1,.nil=>.nil
 | _,_,k+1,.cons _ t=>Paired.drop2 k t
theorem aH {α:Type} {P:α->Prop} {x:α} {xs:List α} (h:P x) (t:∀ y∈xs,P y):∀ y∈x::xs,P y:=fun y hy=>by
 rcases AZ.mp hy with rfl|hy
 ·exact h
 ·exact t y hy
variable {α:Type}
theorem dw {P:α->Prop}:∀ y∈([]:List α),P y:=fun _ h=>(nomatch h)
theorem tx:(PyData.str "0").canLay0=true:=by decide +kernel
theorem zR:(PyData.str "1").canLay0=true:=by decide +kernel
theorem gd {α:Type} {P:α->Prop} {xs:List α} {r:Nat} (h:r < xs.length) (ha:∀ y∈xs,P y):∃ x,xs[r]?=some x/\P x:=⟨xs[r],AL h,ha _ (Bq h)⟩
def Ah (H:Hp) (v:V):Prop:=∃ b,DS H v b
inductive jk (vs:List V) (H:Hp) (Q:VK) (Z3:XK):Prop
 | mk (p lt lf:Addr) (us:List V) (c:List Nat):vs=[.ref p,.ref lt,.ref lf]->CW H p->br p H lt=some (.lst us)->us.length<=50->br p H lf=some (.lst (Cy c))->c.length<=50->(∀ v H',Ah (br p H') v->CW H' p->Cw (br p H) (br p H')->Q v H')->jk vs H Q Z3
section
variable {P:Program} {w:World} {K:ZF} {mg:Str->Option Value} {base:Heap} {C:Nat->Addr}
theorem Er:ar ["_law_stream_here","_law_told","_law_found","_law_way","_law_odd"] ["_law_stream_here","_law_told","_law_found"] (aj fX):=cE zk
theorem yH:(["_law_at","_law_stream_here"]:List Str).Nodup:=by decide +kernel
theorem w6:(["_law_at","_law_stream_here","_law_way"]:List Str).Nodup:=by decide +kernel
theorem qB {f:Addr} {fd:FuncData} (F:C7 K "_law_chain" "_law_chain" fX f fd) (B:Bl mg) (TK1:Fn P w K mg base "_law_take" 1 ["_law_stream_here","_law_many"] dq):aT P w K mg base bT 2 f fd ["_law_stream_here","_law_told","_law_found"] jk:=by
 have ZZ:=Er
 walk_at "o"
 ·obtain ⟨p,lt,lf,us,c,rfl,g,et,Co,ef,hc,q⟩:=h;have sz:(1000:Nat)<=sizeLine:=by decide
  refine ⟨_,(ah (dH (i:=3) Er.nd rfl (Or.inr rfl) (ap TK1 hr.m rfl (aa (pv 0) (aa ag ab)))) (ah (aN (aC bC (pv 3) ag) (ah (eY (i:=4) Er.nd (au (aa ik (aa ag (aa (bm cw (by rfl) B.tuple bO (aa (pv 2) ab)) (aa aI (aa D1 (aa (au (aa bG ab)) (aa (au (aa aI ab)) (aa (au (aa (qO mD ag) ab)) (aa (au (aa (au (aa ag ab)) ab)) (aa (au (aa (ao aw (by rfl) B.len A4 (aa (pv 1) ab)) ab)) (aa (aK bH (pv 2) (au (aa aI ab))) (aa (aK bH (pv 2) (au (aa ik ab))) ab)))))))))))))) (ai (al (aq aG (aK bH (pv 4) (au (aa (au (aa ag (aa bG ab))) (aa (au (aa ag (aa aI ab))) (aa (aK bH (au (aa ik ab)) (pv 2)) (aa (aK bH (pv 2) (au (aa (ao aw (by rfl) B.len A4 (aa (pv 1) ab)) ab))) ab)))))) (ap TK1 hr.m rfl (aa (pv 0) (aa ag ab))))))) aA) (ah (aN (aC bC (pv 3) ag) (ai (al (EQ (pv 2) tu))) aA) (ah (aN (aC bC (pv 3) ag) (ai (al (aK bH (pv 2) (bD bS (pv 2) bQ (bR ag))))) aA) (ah (aN (aC bC (pv 3) ag) (ai (al (cf (N':=["_law_at","_law_stream_here"]) (ix:=[none,some 0]) (sc0:=aj fX) (N:=["_law_stream_here","_law_told","_law_found","_law_way","_law_odd"]) rfl zk (bn (pv 2)) (fun _ _ _ _ _=>(cZ (i:=0) yH)) (fun _ _ _ _ _=>(cN (aC qQ (ap TK1 hr.m rfl (aa (pv 1) (aa ag ab))) ag))) (fun _ _ _ _ _=>(pv 0))))) aA) (ai (al (cf (N':=["_law_at","_law_stream_here","_law_way"]) (ix:=[none,some 0,some 3]) (sc0:=aj fX) (N:=["_law_stream_here","_law_told","_law_found","_law_way","_law_odd"]) rfl zk (bB rfl B.range (aa (ao aw (by rfl) B.len A4 (aa (pv 1) ab)) ab)) (fun _ _ _ _ _=>(cZ (i:=0) w6)) (fun _ _ _ _ _=>(cN (aC bC (ap TK1 hr.m rfl (aa (pv 1) (aa (pv 2) ab))) ag))) (fun _ _ _ _ _=>(pv 0)))))))))),?_⟩;refine ⟨_,rfl,p,6,rfl,g,zd,zd,fun wy H1 tw gw bw=>?_⟩;have sK:=cD bw
  replace g:=gw
  replace et:=sK _ _ et
  replace ef:=sK _ _ ef
  refine ⟨_,rfl,rfl,_,rfl,bz (fun h0=>?_) (fun h0=>?_)⟩
  ·clear h0;refine ⟨_,rfl,lf,Cy c,rfl,.inl ⟨Cz.of (aM _ _ ef),fun l1 n1=>?_⟩⟩;obtain ⟨m1,e1⟩:=aY (o:=.tup (Cy c)) g n1
   replace g:=g.same (ae (o:=.tup (Cy c)) n1)
   replace et:=m1 _ _ et
   replace ef:=m1 _ _ ef
   replace sK:=sK.trans m1
   generalize aB _ l1 _=J1 at *;refine fun l2 n2=>?_;obtain ⟨m2,e2⟩:=aY (o:=.dK []) g n2
   replace g:=g.same (ae (o:=.dK []) n2)
   replace et:=m2 _ _ et
   replace ef:=m2 _ _ ef
   replace e1:=m2 _ _ e1
   replace sK:=sK.trans m2
   generalize aB _ l2 _=J2 at *;refine ⟨CM,fun l3 n3=>?_⟩;obtain ⟨m3,e3⟩:=aY (o:=.lst [.bl true]) g n3
   replace g:=g.same (ae (o:=.lst [.bl true]) n3)
   replace et:=m3 _ _ et
   replace ef:=m3 _ _ ef
   replace e1:=m3 _ _ e1
   replace e2:=m3 _ _ e2
   replace sK:=sK.trans m3
   generalize aB _ l3 _=J3 at *;refine ⟨CM,fun l4 n4=>?_⟩;obtain ⟨m4,e4⟩:=aY (o:=.lst [.str "0"]) g n4
   replace g:=g.same (ae (o:=.lst [.str "0"]) n4)
   replace et:=m4 _ _ et
   replace ef:=m4 _ _ ef
   replace e1:=m4 _ _ e1
   replace e2:=m4 _ _ e2
   replace e3:=m4 _ _ e3
   replace sK:=sK.trans m4
   generalize aB _ l4 _=J4 at *;refine ⟨1,rfl,?_⟩;refine ⟨CM,fun l5 n5=>?_⟩;obtain ⟨m5,e5⟩:=aY (o:=.lst [.int (-1)]) g n5
   replace g:=g.same (ae (o:=.lst [.int (-1)]) n5)
   replace et:=m5 _ _ et
   replace ef:=m5 _ _ ef
   replace e1:=m5 _ _ e1
   replace e2:=m5 _ _ e2
   replace e3:=m5 _ _ e3
   replace e4:=m5 _ _ e4
   replace sK:=sK.trans m5
   generalize aB _ l5 _=J5 at *;refine ⟨CM,fun l6 n6=>?_⟩;obtain ⟨m6,e6⟩:=aY (o:=.lst [.int 0]) g n6
   replace g:=g.same (ae (o:=.lst [.int 0]) n6)
   replace et:=m6 _ _ et
   replace ef:=m6 _ _ ef
   replace e1:=m6 _ _ e1
   replace e2:=m6 _ _ e2
   replace e3:=m6 _ _ e3
   replace e4:=m6 _ _ e4
   replace e5:=m6 _ _ e5
   replace sK:=sK.trans m6
   generalize aB _ l6 _=J6 at *;refine ⟨CM,fun l7 n7=>?_⟩;obtain ⟨m7,e7⟩:=aY (o:=.lst [.ref l6]) g n7
   replace g:=g.same (ae (o:=.lst [.ref l6]) n7)
   replace et:=m7 _ _ et
   replace ef:=m7 _ _ ef
   replace e1:=m7 _ _ e1
   replace e2:=m7 _ _ e2
   replace e3:=m7 _ _ e3
   replace e4:=m7 _ _ e4
   replace e5:=m7 _ _ e5
   replace e6:=m7 _ _ e6
   replace sK:=sK.trans m7
   generalize aB _ l7 _=J7 at *;refine ⟨_,rfl,lt,us,rfl,.inl (Cz.of (aM _ _ et)),?_⟩;refine ⟨CM,fun l8 n8=>?_⟩;obtain ⟨m8,e8⟩:=aY (o:=.lst [.int (us.length:Int)]) g n8
   replace g:=g.same (ae (o:=.lst [.int (us.length:Int)]) n8)
   replace et:=m8 _ _ et
   replace ef:=m8 _ _ ef
   replace e1:=m8 _ _ e1
   replace e2:=m8 _ _ e2
   replace e3:=m8 _ _ e3
   replace e4:=m8 _ _ e4
   replace e5:=m8 _ _ e5
   replace e6:=m8 _ _ e6
   replace e7:=m8 _ _ e7
   replace sK:=sK.trans m8
   generalize aB _ l8 _=J8 at *;refine ⟨_,rfl,?_⟩;refine ⟨CM,fun l9 n9=>?_⟩;obtain ⟨m9,e9⟩:=aY (o:=.lst [.str "0"]) g n9
   replace g:=g.same (ae (o:=.lst [.str "0"]) n9)
   replace et:=m9 _ _ et
   replace ef:=m9 _ _ ef
   replace e1:=m9 _ _ e1
   replace e2:=m9 _ _ e2
   replace e3:=m9 _ _ e3
   replace e4:=m9 _ _ e4
   replace e5:=m9 _ _ e5
   replace e6:=m9 _ _ e6
   replace e7:=m9 _ _ e7
   replace e8:=m9 _ _ e8
   replace sK:=sK.trans m9
   generalize aB _ l9 _=J9 at *;refine ⟨lf,l9,_,_,rfl,rfl,aM _ _ ef,aM _ _ e9,by simp [am];lia,fun l10 n10=>?_⟩;obtain ⟨m10,e10⟩:=aY (o:=.lst (Cy c++[.str "0"])) g n10
   replace g:=g.same (ae (o:=.lst (Cy c++[.str "0"])) n10)
   replace et:=m10 _ _ et
   replace ef:=m10 _ _ ef
   replace e1:=m10 _ _ e1
   replace e2:=m10 _ _ e2
   replace e3:=m10 _ _ e3
   replace e4:=m10 _ _ e4
   replace e5:=m10 _ _ e5
   replace e6:=m10 _ _ e6
   replace e7:=m10 _ _ e7
   replace e8:=m10 _ _ e8
   replace e9:=m10 _ _ e9
   replace sK:=sK.trans m10
   generalize aB _ l10 _=J10 at *;refine ⟨_,rfl,?_⟩;refine ⟨CM,fun l11 n11=>?_⟩;obtain ⟨m11,e11⟩:=aY (o:=.lst [.non]) g n11
   replace g:=g.same (ae (o:=.lst [.non]) n11)
   replace et:=m11 _ _ et
   replace ef:=m11 _ _ ef
   replace e1:=m11 _ _ e1
   replace e2:=m11 _ _ e2
   replace e3:=m11 _ _ e3
   replace e4:=m11 _ _ e4
   replace e5:=m11 _ _ e5
   replace e6:=m11 _ _ e6
   replace e7:=m11 _ _ e7
   replace e8:=m11 _ _ e8
   replace e9:=m11 _ _ e9
   replace e10:=m11 _ _ e10
   replace sK:=sK.trans m11
   generalize aB _ l11 _=J11 at *;refine ⟨lf,l11,_,_,rfl,rfl,aM _ _ ef,aM _ _ e11,by simp [am];lia,fun l12 n12=>?_⟩;obtain ⟨m12,e12⟩:=aY (o:=.lst (Cy c++[.non])) g n12
   replace g:=g.same (ae (o:=.lst (Cy c++[.non])) n12)
   replace et:=m12 _ _ et
   replace ef:=m12 _ _ ef
   replace e1:=m12 _ _ e1
   replace e2:=m12 _ _ e2
   replace e3:=m12 _ _ e3
   replace e4:=m12 _ _ e4
   replace e5:=m12 _ _ e5
   replace e6:=m12 _ _ e6
   replace e7:=m12 _ _ e7
   replace e8:=m12 _ _ e8
   replace e9:=m12 _ _ e9
   replace e10:=m12 _ _ e10
   replace e11:=m12 _ _ e11
   replace sK:=sK.trans m12
   generalize aB _ l12 _=J12 at *;refine ⟨CM,fun l13 n13=>?_⟩;obtain ⟨m13,e13⟩:=aY (o:=.lst [.non,.int 7,.ref l1,.str "0",.ref l2,.ref l3,.ref l4,.ref l5,.ref l7,.ref l8,.ref l10,.ref l12]) g n13
   replace g:=g.same (ae (o:=.lst [.non,.int 7,.ref l1,.str "0",.ref l2,.ref l3,.ref l4,.ref l5,.ref l7,.ref l8,.ref l10,.ref l12]) n13)
   replace et:=m13 _ _ et
   replace ef:=m13 _ _ ef
   replace e1:=m13 _ _ e1
   replace e2:=m13 _ _ e2
   replace e3:=m13 _ _ e3
   replace e4:=m13 _ _ e4
   replace e5:=m13 _ _ e5
   replace e6:=m13 _ _ e6
   replace e7:=m13 _ _ e7
   replace e8:=m13 _ _ e8
   replace e9:=m13 _ _ e9
   replace e10:=m13 _ _ e10
   replace e11:=m13 _ _ e11
   replace e12:=m13 _ _ e12
   replace sK:=sK.trans m13
   generalize aB _ l13 _=J13 at *;refine ⟨_,rfl,?_⟩;refine ⟨CM,fun l14 n14=>?_⟩;obtain ⟨m14,e14⟩:=aY (o:=.lst [.int 0,.bl true]) g n14
   replace g:=g.same (ae (o:=.lst [.int 0,.bl true]) n14)
   replace et:=m14 _ _ et
   replace ef:=m14 _ _ ef
   replace e1:=m14 _ _ e1
   replace e2:=m14 _ _ e2
   replace e3:=m14 _ _ e3
   replace e4:=m14 _ _ e4
   replace e5:=m14 _ _ e5
   replace e6:=m14 _ _ e6
   replace e7:=m14 _ _ e7
   replace e8:=m14 _ _ e8
   replace e9:=m14 _ _ e9
   replace e10:=m14 _ _ e10
   replace e11:=m14 _ _ e11
   replace e12:=m14 _ _ e12
   replace e13:=m14 _ _ e13
   replace sK:=sK.trans m14
   generalize aB _ l14 _=J14 at *;refine ⟨CM,fun l15 n15=>?_⟩;obtain ⟨m15,e15⟩:=aY (o:=.lst [.int 0,.str "1"]) g n15
   replace g:=g.same (ae (o:=.lst [.int 0,.str "1"]) n15)
   replace et:=m15 _ _ et
   replace ef:=m15 _ _ ef
   replace e1:=m15 _ _ e1
   replace e2:=m15 _ _ e2
   replace e3:=m15 _ _ e3
   replace e4:=m15 _ _ e4
   replace e5:=m15 _ _ e5
   replace e6:=m15 _ _ e6
   replace e7:=m15 _ _ e7
   replace e8:=m15 _ _ e8
   replace e9:=m15 _ _ e9
   replace e10:=m15 _ _ e10
   replace e11:=m15 _ _ e11
   replace e12:=m15 _ _ e12
   replace e13:=m15 _ _ e13
   replace e14:=m15 _ _ e14
   replace sK:=sK.trans m15
   generalize aB _ l15 _=J15 at *;refine ⟨CM,fun l16 n16=>?_⟩;obtain ⟨m16,e16⟩:=aY (o:=.lst [.non]) g n16
   replace g:=g.same (ae (o:=.lst [.non]) n16)
   replace et:=m16 _ _ et
   replace ef:=m16 _ _ ef
   replace e1:=m16 _ _ e1
   replace e2:=m16 _ _ e2
   replace e3:=m16 _ _ e3
   replace e4:=m16 _ _ e4
   replace e5:=m16 _ _ e5
   replace e6:=m16 _ _ e6
   replace e7:=m16 _ _ e7
   replace e8:=m16 _ _ e8
   replace e9:=m16 _ _ e9
   replace e10:=m16 _ _ e10
   replace e11:=m16 _ _ e11
   replace e12:=m16 _ _ e12
   replace e13:=m16 _ _ e13
   replace e14:=m16 _ _ e14
   replace e15:=m16 _ _ e15
   replace sK:=sK.trans m16
   generalize aB _ l16 _=J16 at *;refine ⟨_,rfl,?_⟩;refine ⟨l16,lf,_,_,rfl,rfl,aM _ _ e16,aM _ _ ef,by simp [am];lia,fun l17 n17=>?_⟩;obtain ⟨m17,e17⟩:=aY (o:=.lst ([.non]++Cy c)) g n17
   replace g:=g.same (ae (o:=.lst ([.non]++Cy c)) n17)
   replace et:=m17 _ _ et
   replace ef:=m17 _ _ ef
   replace e1:=m17 _ _ e1
   replace e2:=m17 _ _ e2
   replace e3:=m17 _ _ e3
   replace e4:=m17 _ _ e4
   replace e5:=m17 _ _ e5
   replace e6:=m17 _ _ e6
   replace e7:=m17 _ _ e7
   replace e8:=m17 _ _ e8
   replace e9:=m17 _ _ e9
   replace e10:=m17 _ _ e10
   replace e11:=m17 _ _ e11
   replace e12:=m17 _ _ e12
   replace e13:=m17 _ _ e13
   replace e14:=m17 _ _ e14
   replace e15:=m17 _ _ e15
   replace e16:=m17 _ _ e16
   replace sK:=sK.trans m17
   generalize aB _ l17 _=J17 at *;refine ⟨_,rfl,_,rfl,lt,us,rfl,.inl (Cz.of (aM _ _ et)),?_⟩;refine ⟨CM,fun l18 n18=>?_⟩;obtain ⟨m18,e18⟩:=aY (o:=.lst [.int (us.length:Int)]) g n18
   replace g:=g.same (ae (o:=.lst [.int (us.length:Int)]) n18)
   replace et:=m18 _ _ et
   replace ef:=m18 _ _ ef
   replace e1:=m18 _ _ e1
   replace e2:=m18 _ _ e2
   replace e3:=m18 _ _ e3
   replace e4:=m18 _ _ e4
   replace e5:=m18 _ _ e5
   replace e6:=m18 _ _ e6
   replace e7:=m18 _ _ e7
   replace e8:=m18 _ _ e8
   replace e9:=m18 _ _ e9
   replace e10:=m18 _ _ e10
   replace e11:=m18 _ _ e11
   replace e12:=m18 _ _ e12
   replace e13:=m18 _ _ e13
   replace e14:=m18 _ _ e14
   replace e15:=m18 _ _ e15
   replace e16:=m18 _ _ e16
   replace e17:=m18 _ _ e17
   replace sK:=sK.trans m18
   generalize aB _ l18 _=J18 at *;refine ⟨lf,l18,_,_,rfl,rfl,aM _ _ ef,aM _ _ e18,by simp [am];lia,fun l19 n19=>?_⟩;obtain ⟨m19,e19⟩:=aY (o:=.lst (Cy c++[.int (us.length:Int)])) g n19
   replace g:=g.same (ae (o:=.lst (Cy c++[.int (us.length:Int)])) n19)
   replace et:=m19 _ _ et
   replace ef:=m19 _ _ ef
   replace e1:=m19 _ _ e1
   replace e2:=m19 _ _ e2
   replace e3:=m19 _ _ e3
   replace e4:=m19 _ _ e4
   replace e5:=m19 _ _ e5
   replace e6:=m19 _ _ e6
   replace e7:=m19 _ _ e7
   replace e8:=m19 _ _ e8
   replace e9:=m19 _ _ e9
   replace e10:=m19 _ _ e10
   replace e11:=m19 _ _ e11
   replace e12:=m19 _ _ e12
   replace e13:=m19 _ _ e13
   replace e14:=m19 _ _ e14
   replace e15:=m19 _ _ e15
   replace e16:=m19 _ _ e16
   replace e17:=m19 _ _ e17
   replace e18:=m19 _ _ e18
   replace sK:=sK.trans m19
   generalize aB _ l19 _=J19 at *;refine ⟨CM,fun l20 n20=>?_⟩;obtain ⟨m20,e20⟩:=aY (o:=.lst [.ref l14,.ref l15,.ref l17,.ref l19]) g n20
   replace g:=g.same (ae (o:=.lst [.ref l14,.ref l15,.ref l17,.ref l19]) n20)
   replace et:=m20 _ _ et
   replace ef:=m20 _ _ ef
   replace e1:=m20 _ _ e1
   replace e2:=m20 _ _ e2
   replace e3:=m20 _ _ e3
   replace e4:=m20 _ _ e4
   replace e5:=m20 _ _ e5
   replace e6:=m20 _ _ e6
   replace e7:=m20 _ _ e7
   replace e8:=m20 _ _ e8
   replace e9:=m20 _ _ e9
   replace e10:=m20 _ _ e10
   replace e11:=m20 _ _ e11
   replace e12:=m20 _ _ e12
   replace e13:=m20 _ _ e13
   replace e14:=m20 _ _ e14
   replace e15:=m20 _ _ e15
   replace e16:=m20 _ _ e16
   replace e17:=m20 _ _ e17
   replace e18:=m20 _ _ e18
   replace e19:=m20 _ _ e19
   replace sK:=sK.trans m20
   generalize aB _ l20 _=J20 at *;refine ⟨l13,l20,_,_,rfl,rfl,aM _ _ e13,aM _ _ e20,by simp [am];lia,fun l21 n21=>?_⟩;obtain ⟨m21,e21⟩:=aY (o:=.lst ([.non,.int 7,.ref l1,.str "0",.ref l2,.ref l3,.ref l4,.ref l5,.ref l7,.ref l8,.ref l10,.ref l12]++[.ref l14,.ref l15,.ref l17,.ref l19])) g n21
   replace g:=g.same (ae (o:=.lst ([.non,.int 7,.ref l1,.str "0",.ref l2,.ref l3,.ref l4,.ref l5,.ref l7,.ref l8,.ref l10,.ref l12]++[.ref l14,.ref l15,.ref l17,.ref l19])) n21)
   replace et:=m21 _ _ et
   replace ef:=m21 _ _ ef
   replace e1:=m21 _ _ e1
   replace e2:=m21 _ _ e2
   replace e3:=m21 _ _ e3
   replace e4:=m21 _ _ e4
   replace e5:=m21 _ _ e5
   replace e6:=m21 _ _ e6
   replace e7:=m21 _ _ e7
   replace e8:=m21 _ _ e8
   replace e9:=m21 _ _ e9
   replace e10:=m21 _ _ e10
   replace e11:=m21 _ _ e11
   replace e12:=m21 _ _ e12
   replace e13:=m21 _ _ e13
   replace e14:=m21 _ _ e14
   replace e15:=m21 _ _ e15
   replace e16:=m21 _ _ e16
   replace e17:=m21 _ _ e17
   replace e18:=m21 _ _ e18
   replace e19:=m21 _ _ e19
   replace e20:=m21 _ _ e20
   replace sK:=sK.trans m21
   generalize aB _ l21 _=J21 at *;refine ⟨_,rfl,p,16,rfl,g,zd,zd,fun r H2 t2 g2 b2=>?_⟩;have bK:=cD b2;obtain ⟨x,hx,bx,hbx⟩:=gd (P:=Ah (br p J21)) (r:=r) (xs:=([.non,.int 7,.ref l1,.str "0",.ref l2,.ref l3,.ref l4,.ref l5,.ref l7,.ref l8,.ref l10,.ref l12]:List V)++[.ref l14,.ref l15,.ref l17,.ref l19]) (by show r < 16;exact t2) (aH (⟨_,.non⟩) (aH (⟨_,.int 7⟩) (aH (⟨_,.tup e1 (bV _ c) (by rw [am];lia)⟩) (aH (⟨_,.str tx⟩) (aH (⟨_,.dic e2⟩) (aH (⟨_,.lst e3 (.cons (.bl true) .nil) zd⟩) (aH (⟨_,.lst e4 (.cons (.str tx) .nil) zd⟩) (aH (⟨_,.lst e5 (.cons (.int _) .nil) zd⟩) (aH (⟨_,.lst e7 (.cons (.one e6) .nil) (by show 1<=60;decide)⟩) (aH (⟨_,.lst e8 (.cons (.int _) .nil) (by simp)⟩) (aH (⟨_,.lst e10 (Paired.app2 (bV _ c) (.cons (.str tx) .nil)) (by simp [am];lia)⟩) (aH (⟨_,.lst e12 (Paired.app2 (bV _ c) (.cons .non .nil)) (by simp [am];lia)⟩) (aH (⟨_,.lst e14 (.cons (.int _) (.cons (.bl true) .nil)) zd⟩) (aH (⟨_,.lst e15 (.cons (.int _) (.cons (.str zR) .nil)) zd⟩) (aH (⟨_,.lst e17 (.cons .non (bV _ c)) (by simp [am];lia)⟩) (aH (⟨_,.lst e19 (Paired.app2 (bV _ c) (.cons (.int _) .nil)) (by simp [am];lia)⟩) dw))))))))))))))));exact ⟨l21,_,_,_,rfl,rfl,Cz.of (aM _ _ (bK _ _ e21)),a8 hx,q _ H2 ⟨bx,hbx.same bK⟩ g2 (sK.trans bK)⟩
  ·refine ⟨_,rfl,rfl,_,rfl,bz (fun h1=>?_) (fun h1=>?_)⟩
   ·refine ⟨_,rfl,lf,_,rfl,Cz.of (aM _ _ ef),fun l nl=>?_⟩;obtain ⟨m1,e1⟩:=aY (o:=.lst (Cy c).reverse) g nl;refine q _ _ ⟨_,.lst e1 (Paired.rev2 (bV _ c)) (by rw [List.length_reverse,am];lia)⟩ (g.same (ae nl)) (sK.trans m1)
   ·refine ⟨_,rfl,rfl,_,rfl,bz (fun h2=>?_) (fun h2=>?_)⟩
    ·refine ⟨_,rfl,_,rfl,_,rfl,vn (r:=1) (aM _ _ ef) fun l1 H2 n1 s2 e2=>?_⟩;have m2:=aV (p:=p) s2;have g2:=g.same s2;have n12:=(g.ne n1).symm;refine sQ (aM _ _ (m2 _ _ ef)) e2 (by rw [A7,am];lia) fun l3 H3 n3 s3 e3=>?_;refine q _ _ ⟨_,.lst (cL e3 (g2.ne n3).symm) (Paired.app2 (bV _ c) (Paired.take2 1 (bV _ c))) (by rw [AT,A7,am];lia)⟩ (g2.same s3) (sK.trans (m2.trans (aV s3)))
    ·refine ⟨_,rfl,rfl,_,rfl,bz (fun h3=>?_) (fun h3=>?_)⟩
     ·refine ⟨_,rfl,lf,rfl,⟨_,Cz.of (aM _ _ ef)⟩,?_⟩;refine bU (K:=K) (a:=lf) (xs:=Cy c) (fun i ys H'=>∃ ns:List Nat,ys=Cy ns/\ns.length<=i/\CW H' p/\Cw (br p H1) (br p H')) ⟨[],rfl,AR _,g,Cw.refl _⟩ (fun i ys H' hi ⟨ns,e,hl,g',s'⟩=>⟨Cz.of (aM _ _ (s' _ _ ef)),by rw [e,am];rw [am] at hi;lia⟩) ?_ ?_
      ·rintro i x ys H2 hx ⟨ns,rfl,hl,g2,s2⟩;have hi:=(AN.mp hx).1;have hi':i < c.length:=by rw [am] at hi;exact hi
       rw [ca (AL hi')] at hx;cases hx;refine ⟨⟨rfl,trivial⟩,?_⟩;refine ⟨_,rfl,p,3,rfl,g2,zd,zd,fun r H3 t3 g3 b3=>?_⟩;refine ⟨_,_,rfl,rfl,_,rfl,bz (fun _=>?_) (fun _=>?_)⟩
       ·exact ⟨_,rfl,Nx.mk hi ⟨ns++[c[i]],cj _ _,by rw [AT];show ns.length+1<=i+1;lia,g3,s2.trans (cD b3)⟩⟩
       ·exact Nx.mk hi ⟨ns,rfl,by lia,g3,s2.trans (cD b3)⟩
      ·rintro ys H2 ⟨ns,rfl,hl,g2,s2⟩ l nl;obtain ⟨m1,e1⟩:=aY (o:=.lst (Cy ns)) g2 nl;rw [am] at hl;exact q _ _ ⟨_,.lst e1 (bV _ ns) (by rw [am];lia)⟩ (g2.same (ae nl)) (sK.trans (s2.trans m1))
     ·have hw:0 < wy:=by
       rcases Nat.eq_zero_or_pos wy with h|h
       ·subst h;exact absurd (decide_eq_true rfl) h0
       ·exact h
      refine ⟨_,rfl,lt,us,rfl,.inl (Cz.of (aM _ _ et)),(us.length:Int),rfl,by lia,by lia,?_⟩;refine cV (lo:=0) (fun i ys H'=>∃ ns:List Nat,ys=Cy ns/\ns.length<=i/\CW H' p/\Cw (br p H1) (br p H')) ⟨[],rfl,AR _,g,Cw.refl _⟩ (fun i ys H' hi ⟨ns,e,hl,g',s'⟩=>by rw [e,am];rw [A1] at hi;lia) ?_ ?_
      ·rintro i ys H2 hi ⟨ns,rfl,hl,g2,s2⟩;rw [Int.zero_add];refine ⟨⟨rfl,rfl,trivial⟩,?_⟩;refine ⟨_,rfl,_,rfl,p,wy,rfl,g2,hw,by lia,fun r H3 t3 g3 b3=>?_⟩;refine ⟨rfl,_,rfl,bz (fun _=>?_) (fun _=>?_)⟩
       ·exact ⟨_,rfl,Nx.mk hi ⟨ns++[i],cj _ _,by rw [AT];show ns.length+1<=i+1;lia,g3,s2.trans (cD b3)⟩⟩
       ·exact Nx.mk hi ⟨ns,rfl,by lia,g3,s2.trans (cD b3)⟩
      ·rintro ys H2 ⟨ns,rfl,hl,g2,s2⟩ l nl;obtain ⟨m1,e1⟩:=aY (o:=.lst (Cy ns)) g2 nl;rw [A1] at hl;exact q _ _ ⟨_,.lst e1 (bV _ ns) (by rw [am];lia)⟩ (g2.same (ae nl)) (sK.trans (s2.trans m1))
end
end L3
set_option autoImplicit true
set_option relaxedAutoImplicit true
namespace L3
open PySem L2
open TK (Ti Tb)
structure Bn (p lb:Addr) (as:List Addr) (xss:List (List Nat)) (H:Hp):Prop where
 g:CW H p
 ls:br p H lb=some (.lst (as.map V.ref))
 it:Paired (oK (br p H)) as xss
variable {H H':Hp} {xss:List (List Nat)} {as:List Addr} {p lb:Addr}
theorem Bn.up (B:Bn p lb as xss H) (g:CW H' p) (s:Cw (br p H) (br p H')):Bn p lb as xss H':=⟨g,s _ _ B.ls,Paired.mapP B.it fun _ _ h=>s _ _ h⟩
variable {l:Addr}
theorem bL {H J:Hp} {o:HO} (g:CW H p) (n:H l=none) (h:aB H l o=J):Cw (br p H) (br p J)/\CW J p/\br p J l=some o:=by
 subst h;exact ⟨(aY g n).1,g.same (ae n),(aY g n).2⟩
variable {Q:VK} {xs zs:List V} {a b:Addr}
theorem hG (g:CW H p) (h1:br p H a=some (.lst xs)) (h2:br p H b=some (.lst zs)) (hl:xs.length+zs.length<=10000) (q:∀ l H',CW H' p->Cw (br p H) (br p H')->br p H' l=some (.lst (xs++zs))->Q (.ref l) H'):uc (.ref a) (.ref b) H Q:=
 sQ (aM _ _ h1) (aM _ _ h2) hl fun l H' n s e=>q l H' (g.same s) (aV s) (cL e (g.ne n).symm)
variable {r:Nat} {X:List V} {K:ZF}
theorem xo (g:CW H p) (h1:br p H a=some (.lst X)) (q:∀ l H',CW H' p->Cw (br p H) (br p H')->br p H' l=some (.lst (X.take r))->Q (.ref l) H'):pH K (.ref a) none (some (r:Int)) H Q:=
 vn (aM _ _ h1) fun l H' n s e=>q l H' (g.same s) (aV s) (cL e (g.ne n).symm)
theorem jR {i:Int} (hi:i=(r:Int)) (g:CW H p) (h1:br p H a=some (.lst X)) (q:∀ l H',CW H' p->Cw (br p H) (br p H')->br p H' l=some (.lst (X.drop r))->Q (.ref l) H'):pH K (.ref a) (some i) none H Q:=
 kG hi (aM _ _ h1) fun l H' n s e=>q l H' (g.same s) (aV s) (cL e (g.ne n).symm)
variable {i:Nat}
theorem Bn.ix (B:Bn p lb as xss H) (h:as[i]?=some a) (q:Q (.ref a) H):gu K (.ref lb) (.int (i:Int)) H Q:=⟨lb,_,_,_,rfl,rfl,Cz.of (aM _ _ B.ls),a8 (by rw [A5,h];rfl),q⟩
variable {j x:Nat}
theorem yR {xs:List Nat} (e:br p H a=some (.lst (Cy xs))) (h:xs[j]?=some x) (q:Q (.int (x:Int)) H):gu K (.ref a) (.int (j:Int)) H Q:=⟨a,_,_,_,rfl,rfl,Cz.of (aM _ _ e),a8 (ca h),q⟩
theorem uY {x:V} (e:br p H a=some (.lst X)) (h:X[j]?=some x) (q:Q x H):gu K (.ref a) (.int (j:Int)) H Q:=⟨a,_,_,_,rfl,rfl,Cz.of (aM _ _ e),a8 h,q⟩
theorem Bn.at (B:Bn p lb as xss H) (hi:i < xss.length):∃ a xs,as[i]?=some a/\xss[i]?=some xs/\br p H a=some (.lst (Cy xs)):=by
 have hl:i < as.length:=by rw [B.it.length];exact hi
 obtain ⟨xs,h1,h2⟩:=aQ B.it (AL hl);exact ⟨_,xs,AL hl,h1,h2⟩
variable {M:Hp}
theorem fA:∀ {as:List Addr} {xss:List (List Nat)},Paired (oK M) as xss->(∀ xs∈xss,xs.length<=10)->Paired (E2 M) (as.map V.ref) (TK.bX xss)
 | _,_,.nil,_=>.nil
 | _,_,.cons h t,hl=>.cons (.lst h (bV _ _) (by rw [am];have:=hl _ (AX ..);lia)) (fA t fun xs hx=>hl xs (A2 _ hx))
theorem eD (a b:List Tb):TK.bq (a++b)=TK.bq a++TK.bq b:=List.flatMap_append
theorem qC (bs:List Tb) (k:Nat):(TK.bq (bs.drop k)).length<=(TK.bq bs).length:=by
 have:TK.bq bs=TK.bq (bs.take k)++TK.bq (bs.drop k):=by rw [<-eD,BR]
 rw [this,AT];lia
theorem uZ (bs:List Tb) {k k':Nat} (h:k<=k'):(TK.bq (bs.take k)).length+(TK.bq (bs.drop k')).length<=(TK.bq bs).length:=by
 have e:TK.bq bs=TK.bq (bs.take k)++TK.bq (bs.drop k):=by rw [<-eD,BR]
 have e2:bs.drop k'=(bs.drop k).drop (k' - k):=by rw [List.drop_drop];congr 1;lia
 rw [e,AT,e2];have:=qC (bs.drop k) (k' - k);lia
def zS (M:Hp) (v:V):Prop:=∃ b,Es M v b/\∀ bs,b=some bs->(TK.bq bs).length < 64
structure yS (xss:List (List Nat)):Prop where
 n:xss.length<=42
 l:∀ xs∈xss,xs≠[]/\xs.length<=10
 t:xss.flatten.length<=40
theorem ge {k k':Nat} {mids:List V} {mb:List Tb} (B:Bn p lb as xss H) (O:yS xss) (e:br p H l=some (.lst (((as.map V.ref).take k++mids)++(as.map V.ref).drop k'))) (hm:Paired (E2 (br p H)) mids mb) (hk:k<=k') (hml:mids.length<=2) (hmb:(TK.bq mb).length<=20):zS (br p H) (.ref l):=by
 have hr:=fA B.it fun xs hx=>(O.l xs hx).2;have hal:(as.map V.ref).length<=42:=by rw [AM,B.it.length];exact O.n
 refine ⟨_,.lst e (Paired.app2 (Paired.app2 (Paired.take2 k hr) hm) (Paired.drop2 k' hr)) ?_,fun bs hbs=>?_⟩
 ·rw [AT,AT,A7,BG];lia
 ·cases hbs;rw [eD,eD,AT,AT];have h1:=uZ (TK.bX xss) hk;have h2:(TK.bq (TK.bX xss)).length<=40:=by rw [TK.cy];exact O.t
  lia
theorem gf (bs:List Tb):(TK.bq bs).length=(bs.map fun b=>(TK.jm b).length).sum:=by
 unfold TK.bq;rw [List.length_flatMap]
theorem kQ:∀ (l:List Nat) (i a:Nat),(l.set i a).sum<=l.sum+a
 | [],_,_=>by simp
 | x::l,0,a=>by simp;lia
 | x::l,i+1,a=>by have:=kQ l i a;simp;lia
theorem gh (os:List Ti):(TK.jm (some os)).length=os.length:=by show (os.map _).length=_;rw [AM]
theorem mm (M:Hp):∀ l:List Int,Paired (Dw M) (l.map V.int) (l.map some)
 | []=>.nil
 | x::l=>.cons (.int x) (mm M l)
def Ai (p lb:Addr) (H H':Hp):Prop:=∀ c u,H c=some u->c≠p->c≠lb->H' c=some u
theorem gO (s:Cw (br p H) (br p H')):Ai p lb H H':=fun c u e n _=>nY s c u e n
inductive kR (vs:List V) (H:Hp) (Q:VK) (Z3:XK):Prop
 | mk (p lb:Addr) (as:List Addr) (xss:List (List Nat)):vs=[.ref p,.ref lb]->Bn p lb as xss H->yS xss->lb∉as->(∀ v H',zS (br p H') v->CW H' p->Ai p lb H H'->Q v H')->kR vs H Q Z3
def tI (M:Hp) (v:V):Prop:=∃ o,Dw M v o
theorem jS:∀ {xs:List V},(∀ x∈xs,tI M x)->∃ os,Paired (Dw M) xs os
 | [],_=>⟨[],.nil⟩
 | x::xs,h=>by
  obtain ⟨o,ho⟩:=h x (AX ..);obtain ⟨os,hos⟩:=jS (xs:=xs) fun y hy=>h y (A2 _ hy);exact ⟨o::os,.cons ho hos⟩
inductive Aj (M:Hp) (n:Nat) (v:V):Prop
 | mk (a:Addr) (xs:List V):v=.ref a->M a=some (.lst xs)->(∀ x∈xs,tI M x)->xs.length<=n->Aj M n v
def AH (M:Hp) (v:V):Prop:=∃ b,E2 M v b/\(TK.jm b).length<=20
structure yI (p lb:Addr) (as:List Addr) (xss:List (List Nat)) (H:Hp) (c3 c4:Bool) (σ:St) (H':Hp):Prop where
 b:Bn p lb as xss H'
 s:Cw (br p H) (br p H')
 h3:c3=true->∀ k:Nat,σ[3]?=some (some (.int (k:Int)))->k < xss.length
 h4:c4=true->∀ k:Nat,σ[4]?=some (some (.int (k:Int)))->k < xss.length
theorem dR {α β:Type} {F G:α->β->Prop}:∀ {xs:List α} {ys:List β},Paired F xs ys->(∀ x y,x∈xs->F x y->G x y)->Paired G xs ys
 | _,_,.nil,_=>.nil
 | _,_,.cons a t,h=>.cons (h _ _ (AX ..) a) (dR t fun x y hx f=>h x y (A2 _ hx) f)
theorem Paired.set2 {α β:Type} {F:α->β->Prop} {x:α} {y:β} (h:F x y):∀ {xs:List α} {ys:List β} (i:Nat),Paired F xs ys->Paired F (xs.set i x) (ys.set i y)
 | _,_,_,.nil=>.nil
 | _,_,0,.cons _ t=>.cons h t
 | _,_,i+1,.cons a t=>.cons a (Paired.set2 h i t)
section
variable {P:Program} {w:World} {K:ZF} {mg:Str->Option Value} {base:Heap} {C:Nat->Addr}
theorem Dj:ar ["_law_stream_here","_law_beats","_law_way","_law_at","_law_other","_law_place","_law_odd","_law_some","_law_beat"] ["_law_stream_here","_law_beats"] (aj nN):=cE zk
theorem tz {f:Addr} {fd:FuncData} (F:C7 K "_law_bent" "_law_bent" nN f fd) (B0:Bl mg) (B2:rW mg) (TK1:Fn P w K mg base "_law_take" 1 ["_law_stream_here","_law_many"] dq):aT P w K mg base bT 2 f fd ["_law_stream_here","_law_beats"] kR:=by
 have ZZ:=Dj
 walk_at "o"
 ·obtain ⟨p,lb,as,xss,rfl,B,O,nlb,q⟩:=h;have sz:(100000:Nat)<=sizeLine:=by decide
  have hn:=O.n;have hal:as.length=xss.length:=B.it.length;have hrl:(as.map V.ref).length=xss.length:=by rw [AM,hal]
  refine ⟨_,(ah (eY (i:=2) Dj.nd (ap TK1 hr.m rfl (aa (pv 0) (aa ag ab)))) (ah (eY (i:=3) Dj.nd (ap TK1 hr.m rfl (aa (pv 0) (aa (aK bZ (ao aw (by rfl) B0.len A4 (aa (pv 1) ab)) ag) ab)))) (ah (eY (i:=4) Dj.nd (ap TK1 hr.m rfl (aa (pv 0) (aa (aK bZ (ao aw (by rfl) B0.len A4 (aa (pv 1) ab)) ag) ab)))) (ah (aN (aC bC (pv 2) ag) (ai (al (aK bH (aK bH (bD bS (pv 1) bQ (bR (pv 3))) (au (aa (au ab) ab))) (bD bS (pv 1) (bR (pv 3)) bQ)))) aA) (ah (aN (aC bC (pv 2) ag) (ai (al (EQ (pv 1) tu))) aA) (ah (aN (Gr (yI p lb as xss H false false) (yI p lb as xss H true false) (PW.pt (dS (aC bC (pv 3) (ao aw (by rfl) B0.len A4 (aa (pv 1) ab))) (c9 (aC bC (pv 2) ag))))) (ai (al (aq aG (au (aa (bm cw (by rfl) B0.tuple bO (aa (pv 1) ab)) (aa ik (aa ag (aa aI (aa D1 (aa (au (aa (au ab) ab)) (aa (aK bH (pv 1) (au (aa (au (aa ag ab)) ab))) (aa (au (aa ag ab)) ab))))))))) (ap TK1 hr.m rfl (aa (pv 0) (aa ag ab)))))) aA) (ah (aN (Gr (yI p lb as xss H true true) (yI p lb as xss H true false) (PW.pt (il (aC bC (pv 2) ag) (fF (aC jw (pv 4) (ao aw (by rfl) B0.len A4 (aa (pv 1) ab))))))) (ah (jV (cM (aa (aq aG (pv 1) (pv 4)) (aa (aq aG (pv 1) (pv 3)) ab))) (gj rfl (bu (im (pv 1) (pv 3) dY) (bu (im (pv 1) (pv 4) dY) dh)))) (ai (al (pv 1)))) aA) (ah (aN (aC bC (pv 2) ag) (ai (al (aK bH (aK bH (bD bS (pv 1) bQ (bR (pv 3))) (au (aa (ao gS (by rfl) B2.sorted cY (aa (aK bH (aq aG (pv 1) (pv 3)) (aq aG (pv 1) (ao (gp rfl) (by rfl) B0.min PyProof.Rows.boot_min (aa (aK bZ (pv 3) ag) (aa (aK gm (ao aw (by rfl) B0.len A4 (aa (pv 1) ab)) ag) ab))))) ab)) ab))) (bD bS (pv 1) (bR (aK bZ (pv 3) ag)) bQ)))) aA) (ah (aN (aC bC (pv 2) ag) (ah (eY (i:=5) Dj.nd (ap TK1 hr.m rfl (aa (pv 0) (aa (aK bZ (ao aw (by rfl) B0.len A4 (aa (aq aG (pv 1) (pv 3)) ab)) ag) ab)))) (ai (al (aK bH (aK bH (bD bS (pv 1) bQ (bR (pv 3))) (au (aa (bD bS (aq aG (pv 1) (pv 3)) bQ (bR (pv 5))) (aa (bD bS (aq aG (pv 1) (pv 3)) (bR (pv 5)) bQ) ab)))) (bD bS (pv 1) (bR (aK bZ (pv 3) ag)) bQ))))) aA) (ah (eY (i:=5) Dj.nd (ap TK1 hr.m rfl (aa (pv 0) (aa (ao aw (by rfl) B0.len A4 (aa (aq aG (pv 1) (pv 3)) ab)) ab)))) (ah (eY (i:=6) Dj.nd (aq aG (au (aa (qO mD ag) (aa ag (aa bG (aa ik (aa aI (aa (aK bZ (aq aG (aq aG (pv 1) (pv 3)) (pv 5)) ag) (aa (aq aG (aq aG (pv 1) ag) ag) (aa (au (aa ag ab)) ab))))))))) (ap TK1 hr.m rfl (aa (pv 0) (aa ag ab))))) (ah (eY (i:=7) Dj.nd (aq aG (au (aa (au (aa (pv 6) ab)) (aa (au ab) (aa (au (aa (aq aG (aq aG (pv 1) (pv 3)) (pv 5)) (aa (pv 6) ab))) (aa (aK rh (au (aa (aq aG (aq aG (pv 1) (pv 3)) (pv 5)) ab)) ag) ab))))) (ap TK1 hr.m rfl (aa (pv 0) (aa ag ab))))) (ah (eY (i:=8) Dj.nd (aK bH (aK bH (bD bS (aq aG (pv 1) (pv 3)) bQ (bR (pv 5))) (pv 7)) (bD bS (aq aG (pv 1) (pv 3)) (bR (aK bZ (pv 5) ag)) bQ))) (ai (al (aK bH (aK bH (bD bS (pv 1) bQ (bR (pv 3))) (au (aa (aq aG (au (aa (pv 8) (aa (EQ (pv 8) tu) (aa (bm cw (by rfl) B0.tuple bO (aa (pv 8) ab)) ab)))) (ap TK1 hr.m rfl (aa (pv 0) (aa ag ab)))) ab))) (bD bS (pv 1) (bR (aK bZ (pv 3) ag)) bQ))))))))))))))))),?_⟩;refine ⟨_,rfl,p,8,rfl,B.g,zd,zd,fun wy H1 tw gw bw=>?_⟩;have sK:=cD bw
  replace B:=B.up gw sK
  refine ⟨_,rfl,_,rfl,lb,_,rfl,.inl (Cz.of (aM _ _ B.ls)),_,_,rfl,rfl,p,xss.length+1,by rw [hrl];rfl,B.g,by lia,by lia,fun at_ H2 ta ga ba=>?_⟩;have sA:=cD ba
  replace B:=B.up ga sA
  replace sK:=sK.trans sA
  refine ⟨_,rfl,_,rfl,lb,_,rfl,.inl (Cz.of (aM _ _ B.ls)),_,_,rfl,rfl,p,xss.length+1,by rw [hrl];rfl,B.g,by lia,by lia,fun ot H3 to_ go_ bo=>?_⟩;have sO:=cD bo
  replace B:=B.up go_ sO
  replace sK:=sK.trans sO
  refine ⟨_,rfl,rfl,_,rfl,bz (fun h0=>?_) (fun h0=>?_)⟩
  ·clear h0;refine ⟨_,rfl,_,rfl,_,rfl,xo B.g B.ls fun l1 J1 g1 s1 e1=>?_⟩
   replace B:=B.up g1 s1
   replace sK:=sK.trans s1
   refine ⟨CM,fun l2 n2=>?_⟩;generalize hJ2:aB _ l2 _=J2;obtain ⟨s2,g2,e2⟩:=bL B.g n2 hJ2;clear hJ2
   replace B:=B.up g2 s2
   replace sK:=sK.trans s2
   replace e1:=s2 _ _ e1
   refine ⟨CM,fun l3 n3=>?_⟩;generalize hJ3:aB _ l3 _=J3;obtain ⟨s3,g3,e3⟩:=bL B.g n3 hJ3;clear hJ3
   replace B:=B.up g3 s3
   replace sK:=sK.trans s3
   replace e1:=s3 _ _ e1
   replace e2:=s3 _ _ e2
   refine hG B.g e1 e3 (by simp [am];lia) fun l4 J4 g4 s4 e4=>?_
   replace B:=B.up g4 s4
   replace sK:=sK.trans s4
   replace e1:=s4 _ _ e1
   replace e2:=s4 _ _ e2
   replace e3:=s4 _ _ e3
   refine ⟨_,rfl,_,rfl,_,rfl,jR rfl B.g B.ls fun l5 J5 g5 s5 e5=>?_⟩
   replace B:=B.up g5 s5
   replace sK:=sK.trans s5
   replace e1:=s5 _ _ e1
   replace e2:=s5 _ _ e2
   replace e3:=s5 _ _ e3
   replace e4:=s5 _ _ e4
   refine hG B.g e4 e5 (by simp [am];lia) fun l6 J6 g6 s6 e6=>?_
   replace B:=B.up g6 s6
   replace sK:=sK.trans s6
   replace e1:=s6 _ _ e1
   replace e2:=s6 _ _ e2
   replace e3:=s6 _ _ e3
   replace e4:=s6 _ _ e4
   replace e5:=s6 _ _ e5
   exact q _ _ (ge (mb:=[some []]) B O e6 (.cons (.lst e2 .nil zd) .nil) (AR _) (by simp) zd) B.g (gO sK)
  ·refine ⟨_,rfl,rfl,_,rfl,bz (fun h1=>?_) (fun h1=>?_)⟩
   ·refine ⟨_,rfl,lb,_,rfl,Cz.of (aM _ _ B.ls),fun l1 n1=>?_⟩;generalize hJ1:aB _ l1 _=J1;obtain ⟨s1,g1,e1⟩:=bL B.g n1 hJ1
    replace B:=B.up g1 s1
    have Cm:=fA B.it fun xs hx=>(O.l xs hx).2;refine q _ _ ⟨_,.lst e1 (Paired.rev2 Cm) (by rw [List.length_reverse,hrl];lia),fun bs hb=>?_⟩ B.g (gO (sK.trans s1));cases hb;rw [gf,List.map_reverse,List.sum_reverse,<-gf,TK.cy];have:=O.t;lia
   ·refine ⟨fun H4 j4=>bM ?_,fun H4 j4=>cb ?_,?_⟩
    ·replace B:=j4.b
     replace sK:=j4.s
     clear j4 h0 h1;refine ⟨_,rfl,lb,_,rfl,.inl ⟨Cz.of (aM _ _ B.ls),fun l1 n1=>?_⟩⟩;generalize hJ1:aB _ l1 _=J1;obtain ⟨s1,g1,e1⟩:=bL B.g n1 hJ1;clear hJ1
     replace B:=B.up g1 s1
     replace sK:=sK.trans s1
     refine fun l2 n2=>?_;generalize hJ2:aB _ l2 _=J2;obtain ⟨s2,g2,e2⟩:=bL B.g n2 hJ2;clear hJ2
     replace B:=B.up g2 s2
     replace sK:=sK.trans s2
     replace e1:=s2 _ _ e1
     refine ⟨CM,fun l3 n3=>?_⟩;generalize hJ3:aB _ l3 _=J3;obtain ⟨s3,g3,e3⟩:=bL B.g n3 hJ3;clear hJ3
     replace B:=B.up g3 s3
     replace sK:=sK.trans s3
     replace e1:=s3 _ _ e1
     replace e2:=s3 _ _ e2
     refine ⟨CM,fun l4 n4=>?_⟩;generalize hJ4:aB _ l4 _=J4;obtain ⟨s4,g4,e4⟩:=bL B.g n4 hJ4;clear hJ4
     replace B:=B.up g4 s4
     replace sK:=sK.trans s4
     replace e1:=s4 _ _ e1
     replace e2:=s4 _ _ e2
     replace e3:=s4 _ _ e3
     refine ⟨_,rfl,?_⟩;refine ⟨CM,fun l5 n5=>?_⟩;generalize hJ5:aB _ l5 _=J5;obtain ⟨s5,g5,e5⟩:=bL B.g n5 hJ5;clear hJ5
     replace B:=B.up g5 s5
     replace sK:=sK.trans s5
     replace e1:=s5 _ _ e1
     replace e2:=s5 _ _ e2
     replace e3:=s5 _ _ e3
     replace e4:=s5 _ _ e4
     refine ⟨CM,fun l6 n6=>?_⟩;generalize hJ6:aB _ l6 _=J6;obtain ⟨s6,g6,e6⟩:=bL B.g n6 hJ6;clear hJ6
     replace B:=B.up g6 s6
     replace sK:=sK.trans s6
     replace e1:=s6 _ _ e1
     replace e2:=s6 _ _ e2
     replace e3:=s6 _ _ e3
     replace e4:=s6 _ _ e4
     replace e5:=s6 _ _ e5
     refine hG B.g B.ls e6 (by simp;lia) fun l7 J7 g7 s7 e7=>?_
     replace B:=B.up g7 s7
     replace sK:=sK.trans s7
     replace e1:=s7 _ _ e1
     replace e2:=s7 _ _ e2
     replace e3:=s7 _ _ e3
     replace e4:=s7 _ _ e4
     replace e5:=s7 _ _ e5
     replace e6:=s7 _ _ e6
     refine ⟨CM,fun l8 n8=>?_⟩;generalize hJ8:aB _ l8 _=J8;obtain ⟨s8,g8,e8⟩:=bL B.g n8 hJ8;clear hJ8
     replace B:=B.up g8 s8
     replace sK:=sK.trans s8
     replace e1:=s8 _ _ e1
     replace e2:=s8 _ _ e2
     replace e3:=s8 _ _ e3
     replace e4:=s8 _ _ e4
     replace e5:=s8 _ _ e5
     replace e6:=s8 _ _ e6
     replace e7:=s8 _ _ e7
     refine ⟨CM,fun l9 n9=>?_⟩;generalize hJ9:aB _ l9 _=J9;obtain ⟨s9,g9,e9⟩:=bL B.g n9 hJ9;clear hJ9
     replace B:=B.up g9 s9
     replace sK:=sK.trans s9
     replace e1:=s9 _ _ e1
     replace e2:=s9 _ _ e2
     replace e3:=s9 _ _ e3
     replace e4:=s9 _ _ e4
     replace e5:=s9 _ _ e5
     replace e6:=s9 _ _ e6
     replace e7:=s9 _ _ e7
     replace e8:=s9 _ _ e8
     refine ⟨_,rfl,p,8,rfl,B.g,zd,zd,fun r H2 t2 g2 b2=>?_⟩;have bK:=cD b2;have Cm:=fA B.it fun xs hx=>(O.l xs hx).2;obtain ⟨x,hx,bx,hbx,hsx⟩:=gd (P:=zS (br p J9)) (r:=r) (xs:=([.ref l1,.non,.int 7,.str "0",.ref l2,.ref l4,.ref l7,.ref l8]:List V)) (by show r < 8;exact t2) (aH (⟨_,.tup e1 Cm (by rw [AM];lia),nofun⟩) (aH (⟨_,.non,nofun⟩) (aH (⟨_,.int 7,nofun⟩) (aH (⟨_,.str tx,nofun⟩) (aH (⟨_,.dic e2,nofun⟩) (aH (⟨_,.lst e4 (.cons (.lst e3 .nil zd) .nil) (by show 1<=60;decide),fun bs hb=>by cases hb;decide⟩) (aH (⟨_,.lst e7 (Paired.app2 Cm (.cons (.lst e5 (.cons (.int 0) .nil) zd) .nil)) (by rw [AT,AM];show _+1<=60;lia),fun bs hb=>by cases hb;rw [eD,AT,TK.cy];have:=O.t;show _+1 < 64;lia⟩) (aH (⟨_,.lst e8 (.cons (.int 0) .nil) zd,fun bs hb=>by cases hb;decide⟩) dw))))))));exact uY (bK _ _ e9) hx (q _ H2 ⟨bx,hbx.same bK,hsx⟩ g2 (gO (sK.trans bK)))
    ·replace B:=j4.b
     replace sK:=j4.s
     have hat:=j4.h3 rfl at_ rfl;refine ⟨fun H5 j5=>bM ?_,fun H5 j5=>cb ?_,?_⟩
     ·replace B:=j5.b
      replace sK:=j5.s
      have hot:=j5.h4 rfl ot rfl;obtain ⟨a,xs,ha,hxs,ea⟩:=B.at hat;obtain ⟨b,ys,hb,hys,eb⟩:=B.at hot;refine ⟨_,rfl,_,rfl,B.ix hb ⟨_,rfl,_,rfl,B.ix ha ⟨CM,fun lt nt=>?_⟩⟩⟩;generalize hJt:aB _ lt _=Jt;have et:Jt lt=some (.tup [.ref b,.ref a]):=by rw [<-hJt];exact af
      obtain ⟨st,gt,_⟩:=bL B.g nt hJt;clear hJt
      replace B:=B.up gt st
      replace sK:=sK.trans st
      replace ea:=st _ _ ea
      replace eb:=st _ _ eb
      refine ⟨lt,_,rfl,CI.of et,rfl,_,_,rfl,?_⟩;refine ⟨_,rfl,_,rfl,lb,_,_,at_,rfl,rfl,aM _ _ B.ls,kO (by rw [hrl];exact hat),?_⟩;have nla:lb≠a:=fun z=>nlb (z ▸ A6 ha);have nlb2:lb≠b:=fun z=>nlb (z ▸ A6 hb);have npl:=pd B.ls;refine ⟨_,_,rfl,_,rfl,_,rfl,lb,_,_,ot,rfl,rfl,af,kO (by rw [List.length_set,hrl];exact hot),rfl,?_⟩;have Cm:=fA B.it fun xs hx=>(O.l xs hx).2;have hxl:=(O.l xs (A6 hxs)).2;have hyl:=(O.l ys (A6 hys)).2;refine ⟨_,rfl,?_⟩;have eM:∀ {c:Addr} {u o1 o2:HO},br p Jt c=some u->c≠lb->br p (aB (aB Jt lb o1) lb o2) c=some u:=fun {c u o1 o2} e n=>cL (by rw [az n,az n];exact aM _ _ e) (pd e);show Q (.ref lb) (aB (aB Jt lb (.lst ((as.map V.ref).set at_ (.ref b)))) lb (.lst (((as.map V.ref).set at_ (.ref b)).set ot (.ref a))));have itM:=dR (G:=oK (br p (aB (aB Jt lb (.lst ((as.map V.ref).set at_ (.ref b)))) lb (.lst (((as.map V.ref).set at_ (.ref b)).set ot (.ref a)))))) B.it fun x y hx h=>eM h fun z=>nlb (z ▸ hx);have hrM:=fA itM fun xs hx=>(O.l xs hx).2;refine q _ _ ⟨_,.lst (cL af npl) (Paired.set2 (E2.lst (eM ea nla.symm) (bV _ xs) (by rw [am];lia)) ot (Paired.set2 (E2.lst (eM eb nlb2.symm) (bV _ ys) (by rw [am];lia)) at_ hrM)) (by rw [List.length_set,List.length_set,hrl];lia),fun bs hb=>?_⟩ ?_ ?_
      ·cases hb;rw [gf,List.map_set,List.map_set];have h1:=kQ (((TK.bX xss).map fun b=>(TK.jm b).length).set at_ (TK.jm (some (TK.fC ys))).length) ot (TK.jm (some (TK.fC xs))).length;have h2:=kQ ((TK.bX xss).map fun b=>(TK.jm b).length) at_ (TK.jm (some (TK.fC ys))).length;have h3:=gf (TK.bX xss);rw [TK.cy] at h3;rw [TK.cz] at h1 h2;rw [TK.cz] at h1;have:=O.t;rw [TK.cz,TK.cz];lia
      ·obtain ⟨x,y,z,e⟩:=B.g;exact ⟨x,y,z,by rw [az npl.symm,az npl.symm];exact e⟩
      ·intro c u e n1 n2;rw [az n2,az n2];exact nY sK c u e n1
     ·replace B:=j5.b
      replace sK:=j5.s
      clear j4 j5;obtain ⟨a,xs,ha,hxs,ea⟩:=B.at hat;have hx10:=O.l xs (A6 hxs);have hxp:0 < xs.length:=B9.mpr hx10.1;refine ⟨_,rfl,rfl,_,rfl,bz (fun h4=>?_) (fun h4=>?_)⟩
      ·clear h4;have hmn:min (at_+1) (xss.length - 1) < xss.length:=by lia
       obtain ⟨b,ys,hb2,hys,eb⟩:=B.at hmn;have hy10:=O.l ys (A6 hys);have emn:(if ((as.map V.ref).length:Int) - 1 < (at_:Int)+1 then ((as.map V.ref).length:Int) - 1 else (at_:Int)+1)=((min (at_+1) (xss.length - 1):Nat):Int):=by rw [hrl];split<;>lia
       refine ⟨_,rfl,_,rfl,_,rfl,xo B.g B.ls fun l1 J1 g1 s1 e1=>?_⟩
       replace B:=B.up g1 s1
       replace sK:=sK.trans s1
       replace ea:=s1 _ _ ea
       replace eb:=s1 _ _ eb
       refine ⟨_,rfl,_,rfl,B.ix ha ?_⟩;refine ⟨_,rfl,_,rfl,_,_,rfl,rfl,_,rfl,lb,_,rfl,.inl (Cz.of (aM _ _ B.ls)),_,_,rfl,rfl,_,_,rfl,?_⟩;rw [emn];refine B.ix hb2 ?_;refine hG B.g ea eb (by simp [am];lia) fun l2 J2 g2 s2 e2=>?_
       replace B:=B.up g2 s2
       replace sK:=sK.trans s2
       replace ea:=s2 _ _ ea
       replace eb:=s2 _ _ eb
       replace e1:=s2 _ _ e1
       refine ⟨l2,(xs.map fun (k:Nat)=>(k:Int))++(ys.map fun (k:Nat)=>(k:Int)),rfl,Cz.of (by rw [AY,<-CZ,<-CZ];exact aM _ _ e2),by rw [AT,AM,AM];lia,fun ls ns' nls hperm hpw=>?_⟩;obtain ⟨sN,eN⟩:=aY (o:=.lst (ns'.map V.int)) B.g nls;have gN:=B.g.same (ae (o:=.lst (ns'.map V.int)) nls)
       replace B:=B.up gN sN
       replace sK:=sK.trans sN
       replace ea:=sN _ _ ea
       replace eb:=sN _ _ eb
       replace e1:=sN _ _ e1
       replace e2:=sN _ _ e2
       generalize aB _ ls _=JN at *;refine ⟨CM,fun l3 n3=>?_⟩;generalize hJ3:aB _ l3 _=J3;obtain ⟨s3,g3,e3⟩:=bL B.g n3 hJ3;clear hJ3
       replace B:=B.up g3 s3
       replace sK:=sK.trans s3
       replace ea:=s3 _ _ ea
       replace eb:=s3 _ _ eb
       replace e1:=s3 _ _ e1
       replace e2:=s3 _ _ e2
       replace eN:=s3 _ _ eN
       refine hG B.g e1 e3 (by simp [am];lia) fun l4 J4 g4 s4 e4=>?_
       replace B:=B.up g4 s4
       replace sK:=sK.trans s4
       replace ea:=s4 _ _ ea
       replace eb:=s4 _ _ eb
       replace e1:=s4 _ _ e1
       replace e2:=s4 _ _ e2
       replace eN:=s4 _ _ eN
       replace e3:=s4 _ _ e3
       refine ⟨_,rfl,_,rfl,_,_,rfl,rfl,_,rfl,jR (r:=at_+2) rfl B.g B.ls fun l5 J5 g5 s5 e5=>?_⟩
       replace B:=B.up g5 s5
       replace sK:=sK.trans s5
       replace ea:=s5 _ _ ea
       replace eb:=s5 _ _ eb
       replace e1:=s5 _ _ e1
       replace e2:=s5 _ _ e2
       replace eN:=s5 _ _ eN
       replace e3:=s5 _ _ e3
       replace e4:=s5 _ _ e4
       refine hG B.g e4 e5 (by simp [am];lia) fun l6 J6 g6 s6 e6=>?_
       replace B:=B.up g6 s6
       replace sK:=sK.trans s6
       replace ea:=s6 _ _ ea
       replace eb:=s6 _ _ eb
       replace e1:=s6 _ _ e1
       replace e2:=s6 _ _ e2
       replace eN:=s6 _ _ eN
       replace e3:=s6 _ _ e3
       replace e4:=s6 _ _ e4
       replace e5:=s6 _ _ e5
       have hpl:ns'.length<=20:=by rw [hperm.length_eq,AT,AM,AM];lia
       exact q _ _ (ge (mb:=[some (ns'.map some)]) B O e6 (.cons (.lst eN (mm _ _) (by rw [AM];lia)) .nil) (by lia) (by simp) (by show (TK.jm _++[]).length<=20;rw [Ba,gh,AM];exact hpl)) B.g (gO sK)
      ·refine ⟨_,rfl,rfl,_,rfl,bz (fun h5=>?_) (fun h5=>?_)⟩
       ·clear h5;refine ⟨_,rfl,_,rfl,_,rfl,B.ix ha ?_⟩;refine ⟨_,_,rfl,.inl (Cz.of (aM _ _ ea)),_,_,rfl,rfl,p,xs.length+1,by rw [am];rfl,B.g,by lia,by lia,fun pl H5 t5 g5 b5=>?_⟩;have bK5:=cD b5
        replace B:=B.up g5 bK5
        replace sK:=sK.trans bK5
        replace ea:=bK5 _ _ ea
        refine ⟨_,rfl,_,rfl,_,rfl,xo B.g B.ls fun l1 J1 g1 s1 e1=>?_⟩
        replace B:=B.up g1 s1
        replace sK:=sK.trans s1
        replace ea:=s1 _ _ ea
        refine ⟨_,rfl,_,rfl,B.ix ha ⟨_,rfl,_,rfl,xo B.g ea fun l2 J2 g2 s2 e2=>?_⟩⟩
        replace B:=B.up g2 s2
        replace sK:=sK.trans s2
        replace ea:=s2 _ _ ea
        replace e1:=s2 _ _ e1
        refine ⟨_,rfl,_,rfl,B.ix ha ⟨_,rfl,_,rfl,jR rfl B.g ea fun l3 J3 g3 s3 e3=>?_⟩⟩
        replace B:=B.up g3 s3
        replace sK:=sK.trans s3
        replace ea:=s3 _ _ ea
        replace e1:=s3 _ _ e1
        replace e2:=s3 _ _ e2
        refine ⟨CM,fun l4 n4=>?_⟩;generalize hJ4:aB _ l4 _=J4;obtain ⟨s4,g4,e4⟩:=bL B.g n4 hJ4;clear hJ4
        replace B:=B.up g4 s4
        replace sK:=sK.trans s4
        replace ea:=s4 _ _ ea
        replace e1:=s4 _ _ e1
        replace e2:=s4 _ _ e2
        replace e3:=s4 _ _ e3
        refine hG B.g e1 e4 (by simp [am];lia) fun l5 J5 g5 s5 e5=>?_
        replace B:=B.up g5 s5
        replace sK:=sK.trans s5
        replace ea:=s5 _ _ ea
        replace e1:=s5 _ _ e1
        replace e2:=s5 _ _ e2
        replace e3:=s5 _ _ e3
        replace e4:=s5 _ _ e4
        refine ⟨_,rfl,_,rfl,_,_,rfl,rfl,_,rfl,jR (r:=at_+1) rfl B.g B.ls fun l6 J6 g6 s6 e6=>?_⟩
        replace B:=B.up g6 s6
        replace sK:=sK.trans s6
        replace ea:=s6 _ _ ea
        replace e1:=s6 _ _ e1
        replace e2:=s6 _ _ e2
        replace e3:=s6 _ _ e3
        replace e4:=s6 _ _ e4
        replace e5:=s6 _ _ e5
        refine hG B.g e5 e6 (by simp [am];lia) fun l7 J7 g7 s7 e7=>?_
        replace B:=B.up g7 s7
        replace sK:=sK.trans s7
        replace ea:=s7 _ _ ea
        replace e1:=s7 _ _ e1
        replace e2:=s7 _ _ e2
        replace e3:=s7 _ _ e3
        replace e4:=s7 _ _ e4
        replace e5:=s7 _ _ e5
        replace e6:=s7 _ _ e6
        exact q _ _ (ge (mb:=[some ((TK.fC xs).take pl),some ((TK.fC xs).drop pl)]) B O e7 (.cons (.lst e2 (Paired.take2 pl (bV _ xs)) (by rw [A7,am];lia)) (.cons (.lst e3 (Paired.drop2 pl (bV _ xs)) (by rw [BG,am];lia)) .nil)) (by lia) (by simp) (by show (TK.jm _++(TK.jm _++[])).length<=20;rw [Ba,AT,gh,gh,A7,BG];have:(TK.fC xs).length=xs.length:=AM ..;lia)) B.g (gO sK)
       ·have h0l:0 < xss.length:=by lia
        obtain ⟨a0,xs0,h0a,hxs0,e0x⟩:=B.at h0l;have h0p:0 < xs0.length:=B9.mpr (O.l xs0 (A6 hxs0)).1;obtain ⟨x0,h0x⟩:∃ x0,xs0[0]?=some x0:=⟨_,AL h0p⟩;refine ⟨_,rfl,_,rfl,_,rfl,B.ix ha ?_⟩;refine ⟨_,_,rfl,.inl (Cz.of (aM _ _ ea)),p,xs.length,by rw [am],B.g,by lia,by lia,fun pl H5 t5 g5 b5=>?_⟩;have bK5:=cD b5
        replace B:=B.up g5 bK5
        replace sK:=sK.trans bK5
        replace ea:=bK5 _ _ ea
        replace e0x:=bK5 _ _ e0x
        have hpl:=AL t5;refine ⟨1,rfl,?_⟩;refine ⟨_,rfl,_,rfl,B.ix ha ⟨_,rfl,yR ea hpl ⟨_,_,rfl,rfl,?_⟩⟩⟩;refine ⟨_,rfl,B.ix (i:=0) h0a (yR (j:=0) e0x h0x ?_)⟩;refine ⟨CM,fun l1 n1=>?_⟩;generalize hJ1:aB _ l1 _=J1;obtain ⟨s1,g1,e1⟩:=bL B.g n1 hJ1;clear hJ1
        replace B:=B.up g1 s1
        replace sK:=sK.trans s1
        replace ea:=s1 _ _ ea
        replace e0x:=s1 _ _ e0x
        refine ⟨CM,fun l2 n2=>?_⟩;generalize hJ2:aB _ l2 _=J2;obtain ⟨s2,g2,e2⟩:=bL B.g n2 hJ2;clear hJ2
        replace B:=B.up g2 s2
        replace sK:=sK.trans s2
        replace ea:=s2 _ _ ea
        replace e0x:=s2 _ _ e0x
        replace e1:=s2 _ _ e1
        refine ⟨_,rfl,p,8,rfl,B.g,zd,zd,fun ro H6 t6 g6 b6=>?_⟩;have bK6:=cD b6
        replace B:=B.up g6 bK6
        replace sK:=sK.trans bK6
        replace ea:=bK6 _ _ ea
        replace e0x:=bK6 _ _ e0x
        replace e1:=bK6 _ _ e1
        replace e2:=bK6 _ _ e2
        obtain ⟨od,hod,odx⟩:=gd (P:=tI (br p H6)) (r:=ro) (xs:=([.int (-1),.int 99,.bl true,.non,.str "0",.int ((xs[pl]:Int)+1),.int (x0:Int),.ref l1]:List V)) (by show ro < 8;exact t6) (aH (⟨_,.int _⟩) (aH (⟨_,.int _⟩) (aH (⟨_,.bl true⟩) (aH (⟨_,.non⟩) (aH (⟨_,.str tx⟩) (aH (⟨_,.int _⟩) (aH (⟨_,.int _⟩) (aH (⟨_,.one e1⟩) dw))))))));refine uY e2 hod ?_;refine ⟨_,rfl,?_⟩;refine ⟨CM,fun l3 n3=>?_⟩;generalize hJ3:aB _ l3 _=J3;obtain ⟨s3,g3,e3⟩:=bL B.g n3 hJ3;clear hJ3
        replace B:=B.up g3 s3
        replace sK:=sK.trans s3
        replace ea:=s3 _ _ ea
        replace e0x:=s3 _ _ e0x
        replace e1:=s3 _ _ e1
        replace e2:=s3 _ _ e2
        replace odx:=(let ⟨oo,ho⟩:=odx;⟨oo,ho.same s3⟩:tI (br p J3) od)
        refine ⟨CM,fun l4 n4=>?_⟩;generalize hJ4:aB _ l4 _=J4;obtain ⟨s4,g4,e4⟩:=bL B.g n4 hJ4;clear hJ4
        replace B:=B.up g4 s4
        replace sK:=sK.trans s4
        replace ea:=s4 _ _ ea
        replace e0x:=s4 _ _ e0x
        replace e1:=s4 _ _ e1
        replace e2:=s4 _ _ e2
        replace e3:=s4 _ _ e3
        replace odx:=(let ⟨oo,ho⟩:=odx;⟨oo,ho.same s4⟩:tI (br p J4) od)
        refine ⟨_,rfl,_,rfl,B.ix ha ⟨_,rfl,yR ea hpl ?_⟩⟩;refine ⟨_,rfl,?_⟩;refine ⟨CM,fun l5 n5=>?_⟩;generalize hJ5:aB _ l5 _=J5;obtain ⟨s5,g5,e5⟩:=bL B.g n5 hJ5;clear hJ5
        replace B:=B.up g5 s5
        replace sK:=sK.trans s5
        replace ea:=s5 _ _ ea
        replace e0x:=s5 _ _ e0x
        replace e1:=s5 _ _ e1
        replace e2:=s5 _ _ e2
        replace e3:=s5 _ _ e3
        replace e4:=s5 _ _ e4
        replace odx:=(let ⟨oo,ho⟩:=odx;⟨oo,ho.same s5⟩:tI (br p J5) od)
        refine ⟨_,rfl,_,rfl,B.ix ha ⟨_,rfl,yR ea hpl ?_⟩⟩;refine ⟨CM,fun l6 n6=>?_⟩;generalize hJ6:aB _ l6 _=J6;obtain ⟨s6,g6,e6⟩:=bL B.g n6 hJ6;clear hJ6
        replace B:=B.up g6 s6
        replace sK:=sK.trans s6
        replace ea:=s6 _ _ ea
        replace e0x:=s6 _ _ e0x
        replace e1:=s6 _ _ e1
        replace e2:=s6 _ _ e2
        replace e3:=s6 _ _ e3
        replace e4:=s6 _ _ e4
        replace e5:=s6 _ _ e5
        replace odx:=(let ⟨oo,ho⟩:=odx;⟨oo,ho.same s6⟩:tI (br p J6) od)
        refine ⟨l6,2,_,rfl,rfl,aM _ _ e6,zd,zd,by show 1*2<=sizeLine;decide,fun l7 n7=>?_⟩;generalize hJ7:aB _ l7 _=J7;obtain ⟨s7,g7,e7⟩:=bL B.g n7 hJ7;clear hJ7
        replace B:=B.up g7 s7
        replace sK:=sK.trans s7
        replace ea:=s7 _ _ ea
        replace e0x:=s7 _ _ e0x
        replace e1:=s7 _ _ e1
        replace e2:=s7 _ _ e2
        replace e3:=s7 _ _ e3
        replace e4:=s7 _ _ e4
        replace e5:=s7 _ _ e5
        replace e6:=s7 _ _ e6
        replace odx:=(let ⟨oo,ho⟩:=odx;⟨oo,ho.same s7⟩:tI (br p J7) od)
        refine ⟨CM,fun l8 n8=>?_⟩;generalize hJ8:aB _ l8 _=J8;obtain ⟨s8,g8,e8⟩:=bL B.g n8 hJ8;clear hJ8
        replace B:=B.up g8 s8
        replace sK:=sK.trans s8
        replace ea:=s8 _ _ ea
        replace e0x:=s8 _ _ e0x
        replace e1:=s8 _ _ e1
        replace e2:=s8 _ _ e2
        replace e3:=s8 _ _ e3
        replace e4:=s8 _ _ e4
        replace e5:=s8 _ _ e5
        replace e6:=s8 _ _ e6
        replace e7:=s8 _ _ e7
        replace odx:=(let ⟨oo,ho⟩:=odx;⟨oo,ho.same s8⟩:tI (br p J8) od)
        refine ⟨_,rfl,p,4,rfl,B.g,zd,zd,fun rs H7 t7 g7 b7=>?_⟩;have bK7:=cD b7
        replace B:=B.up g7 bK7
        replace sK:=sK.trans bK7
        replace odx:=(let ⟨oo,ho⟩:=odx;⟨oo,ho.same bK7⟩:tI (br p H7) od)
        replace ea:=bK7 _ _ ea
        replace e0x:=bK7 _ _ e0x
        replace e1:=bK7 _ _ e1
        replace e2:=bK7 _ _ e2
        replace e3:=bK7 _ _ e3
        replace e4:=bK7 _ _ e4
        replace e5:=bK7 _ _ e5
        replace e6:=bK7 _ _ e6
        replace e7:=bK7 _ _ e7
        replace e8:=bK7 _ _ e8
        obtain ⟨so,hso,hsx⟩:=gd (P:=Aj (br p H7) 2) (r:=rs) (xs:=([.ref l3,.ref l4,.ref l5,.ref l7]:List V)) (by show rs < 4;exact t7) (aH (⟨_,_,rfl,e3,aH odx dw,by show 1<=2;decide⟩) (aH (⟨_,_,rfl,e4,dw,zd⟩) (aH (⟨_,_,rfl,e5,aH ⟨_,.int _⟩ (aH odx dw),by show 2<=2;decide⟩) (aH (⟨_,_,rfl,e7,aH ⟨_,.int _⟩ (aH ⟨_,.int _⟩ dw),by show 2<=2;decide⟩) dw))));refine uY e8 hso ?_;obtain ⟨sa,sxs,rfl,esa,hsit,hsl⟩:=hsx;obtain ⟨sos,hsos⟩:=jS hsit;refine ⟨_,rfl,_,rfl,B.ix ha ⟨_,rfl,_,rfl,xo B.g ea fun l9 J9 g9 s9 e9=>?_⟩⟩
        replace B:=B.up g9 s9
        replace sK:=sK.trans s9
        replace ea:=s9 _ _ ea
        replace e0x:=s9 _ _ e0x
        replace e1:=s9 _ _ e1
        replace e2:=s9 _ _ e2
        replace e3:=s9 _ _ e3
        replace e4:=s9 _ _ e4
        replace e5:=s9 _ _ e5
        replace e6:=s9 _ _ e6
        replace e7:=s9 _ _ e7
        replace e8:=s9 _ _ e8
        replace esa:=s9 _ _ esa
        replace hsos:Paired (Dw (br p J9)) sxs sos:=Paired.mapP hsos fun _ _ h=>h.same s9
        refine ⟨_,rfl,?_⟩;refine hG B.g e9 esa (by simp [am];lia) fun l10 J10 g10 s10 e10=>?_
        replace B:=B.up g10 s10
        replace sK:=sK.trans s10
        replace ea:=s10 _ _ ea
        replace e0x:=s10 _ _ e0x
        replace e1:=s10 _ _ e1
        replace e2:=s10 _ _ e2
        replace e3:=s10 _ _ e3
        replace e4:=s10 _ _ e4
        replace e5:=s10 _ _ e5
        replace e6:=s10 _ _ e6
        replace e7:=s10 _ _ e7
        replace e8:=s10 _ _ e8
        replace esa:=s10 _ _ esa
        replace e9:=s10 _ _ e9
        replace hsos:Paired (Dw (br p J10)) sxs sos:=Paired.mapP hsos fun _ _ h=>h.same s10
        refine ⟨_,rfl,_,rfl,B.ix ha ⟨_,rfl,_,_,rfl,rfl,_,rfl,jR (r:=pl+1) rfl B.g ea fun l11 J11 g11 s11 e11=>?_⟩⟩
        replace B:=B.up g11 s11
        replace sK:=sK.trans s11
        replace ea:=s11 _ _ ea
        replace e0x:=s11 _ _ e0x
        replace e1:=s11 _ _ e1
        replace e2:=s11 _ _ e2
        replace e3:=s11 _ _ e3
        replace e4:=s11 _ _ e4
        replace e5:=s11 _ _ e5
        replace e6:=s11 _ _ e6
        replace e7:=s11 _ _ e7
        replace e8:=s11 _ _ e8
        replace esa:=s11 _ _ esa
        replace e9:=s11 _ _ e9
        replace e10:=s11 _ _ e10
        replace hsos:Paired (Dw (br p J11)) sxs sos:=Paired.mapP hsos fun _ _ h=>h.same s11
        refine hG B.g e10 e11 (by simp [am];lia) fun l12 J12 g12 Cs e12=>?_
        replace B:=B.up g12 Cs
        replace sK:=sK.trans Cs
        replace ea:=Cs _ _ ea
        replace e0x:=Cs _ _ e0x
        replace e1:=Cs _ _ e1
        replace e2:=Cs _ _ e2
        replace e3:=Cs _ _ e3
        replace e4:=Cs _ _ e4
        replace e5:=Cs _ _ e5
        replace e6:=Cs _ _ e6
        replace e7:=Cs _ _ e7
        replace e8:=Cs _ _ e8
        replace esa:=Cs _ _ esa
        replace e9:=Cs _ _ e9
        replace e10:=Cs _ _ e10
        replace e11:=Cs _ _ e11
        replace hsos:Paired (Dw (br p J12)) sxs sos:=Paired.mapP hsos fun _ _ h=>h.same Cs
        have hbp:Paired (Dw (br p J12)) (((Cy xs).take pl++sxs)++(Cy xs).drop (pl+1)) (((TK.fC xs).take pl++sos)++(TK.fC xs).drop (pl+1)):=Paired.app2 (Paired.app2 (Paired.take2 pl (bV _ xs)) hsos) (Paired.drop2 (pl+1) (bV _ xs));have hbl:(((Cy xs).take pl++sxs)++(Cy xs).drop (pl+1)).length<=12:=by rw [AT,AT,A7,BG,am];lia
        have hbo:=hbp.length;generalize ((Cy xs).take pl++sxs)++(Cy xs).drop (pl+1)=bx at *;generalize ((TK.fC xs).take pl++sos)++(TK.fC xs).drop (pl+1)=bo at *;refine ⟨_,rfl,_,rfl,_,rfl,xo B.g B.ls fun l13 J13 g13 s13 e13=>?_⟩
        replace B:=B.up g13 s13
        replace sK:=sK.trans s13
        replace ea:=s13 _ _ ea
        replace e0x:=s13 _ _ e0x
        replace e1:=s13 _ _ e1
        replace e2:=s13 _ _ e2
        replace e3:=s13 _ _ e3
        replace e4:=s13 _ _ e4
        replace e5:=s13 _ _ e5
        replace e6:=s13 _ _ e6
        replace e7:=s13 _ _ e7
        replace e8:=s13 _ _ e8
        replace esa:=s13 _ _ esa
        replace e9:=s13 _ _ e9
        replace e10:=s13 _ _ e10
        replace e11:=s13 _ _ e11
        replace e12:=s13 _ _ e12
        replace hbp:Paired (Dw (br p J13)) bx bo:=Paired.mapP hbp fun _ _ h=>h.same s13
        refine ⟨_,rfl,?_⟩;refine ⟨_,rfl,_,_,rfl,Cz.of (aM _ _ e12),fun l14 n14=>?_⟩;generalize hJ14:aB _ l14 _=J14;obtain ⟨s14,g14,e14⟩:=bL B.g n14 hJ14;clear hJ14
        replace B:=B.up g14 s14
        replace sK:=sK.trans s14
        replace ea:=s14 _ _ ea
        replace e0x:=s14 _ _ e0x
        replace e1:=s14 _ _ e1
        replace e2:=s14 _ _ e2
        replace e3:=s14 _ _ e3
        replace e4:=s14 _ _ e4
        replace e5:=s14 _ _ e5
        replace e6:=s14 _ _ e6
        replace e7:=s14 _ _ e7
        replace e8:=s14 _ _ e8
        replace esa:=s14 _ _ esa
        replace e9:=s14 _ _ e9
        replace e10:=s14 _ _ e10
        replace e11:=s14 _ _ e11
        replace e12:=s14 _ _ e12
        replace e13:=s14 _ _ e13
        replace hbp:Paired (Dw (br p J14)) bx bo:=Paired.mapP hbp fun _ _ h=>h.same s14
        refine ⟨_,rfl,_,_,rfl,.inl ⟨Cz.of (aM _ _ e12),fun l15 n15=>?_⟩⟩;generalize hJ15:aB _ l15 _=J15;obtain ⟨s15,g15,e15⟩:=bL B.g n15 hJ15;clear hJ15
        replace B:=B.up g15 s15
        replace sK:=sK.trans s15
        replace ea:=s15 _ _ ea
        replace e0x:=s15 _ _ e0x
        replace e1:=s15 _ _ e1
        replace e2:=s15 _ _ e2
        replace e3:=s15 _ _ e3
        replace e4:=s15 _ _ e4
        replace e5:=s15 _ _ e5
        replace e6:=s15 _ _ e6
        replace e7:=s15 _ _ e7
        replace e8:=s15 _ _ e8
        replace esa:=s15 _ _ esa
        replace e9:=s15 _ _ e9
        replace e10:=s15 _ _ e10
        replace e11:=s15 _ _ e11
        replace e12:=s15 _ _ e12
        replace e13:=s15 _ _ e13
        replace e14:=s15 _ _ e14
        replace hbp:Paired (Dw (br p J15)) bx bo:=Paired.mapP hbp fun _ _ h=>h.same s15
        refine ⟨CM,fun l16 n16=>?_⟩;generalize hJ16:aB _ l16 _=J16;obtain ⟨s16,g16,e16⟩:=bL B.g n16 hJ16;clear hJ16
        replace B:=B.up g16 s16
        replace sK:=sK.trans s16
        replace ea:=s16 _ _ ea
        replace e0x:=s16 _ _ e0x
        replace e1:=s16 _ _ e1
        replace e2:=s16 _ _ e2
        replace e3:=s16 _ _ e3
        replace e4:=s16 _ _ e4
        replace e5:=s16 _ _ e5
        replace e6:=s16 _ _ e6
        replace e7:=s16 _ _ e7
        replace e8:=s16 _ _ e8
        replace esa:=s16 _ _ esa
        replace e9:=s16 _ _ e9
        replace e10:=s16 _ _ e10
        replace e11:=s16 _ _ e11
        replace e12:=s16 _ _ e12
        replace e13:=s16 _ _ e13
        replace e14:=s16 _ _ e14
        replace e15:=s16 _ _ e15
        replace hbp:Paired (Dw (br p J16)) bx bo:=Paired.mapP hbp fun _ _ h=>h.same s16
        refine ⟨_,rfl,p,3,rfl,B.g,zd,zd,fun rt H8 t8 g8 b8=>?_⟩;have bK8:=cD b8
        replace B:=B.up g8 bK8
        replace sK:=sK.trans bK8
        replace hbp:Paired (Dw (br p H8)) bx bo:=Paired.mapP hbp fun _ _ h=>h.same bK8
        replace ea:=bK8 _ _ ea
        replace e0x:=bK8 _ _ e0x
        replace e1:=bK8 _ _ e1
        replace e2:=bK8 _ _ e2
        replace e3:=bK8 _ _ e3
        replace e4:=bK8 _ _ e4
        replace e5:=bK8 _ _ e5
        replace e6:=bK8 _ _ e6
        replace e7:=bK8 _ _ e7
        replace e8:=bK8 _ _ e8
        replace esa:=bK8 _ _ esa
        replace e9:=bK8 _ _ e9
        replace e10:=bK8 _ _ e10
        replace e11:=bK8 _ _ e11
        replace e12:=bK8 _ _ e12
        replace e13:=bK8 _ _ e13
        replace e14:=bK8 _ _ e14
        replace e15:=bK8 _ _ e15
        replace e16:=bK8 _ _ e16
        obtain ⟨mo,hmo,mb,hmb,hml⟩:=gd (P:=AH (br p H8)) (r:=rt) (xs:=([.ref l12,.ref l14,.ref l15]:List V)) (by show rt < 3;exact t8) (aH (⟨_,.lst e12 hbp (by lia),by rw [gh];lia⟩) (aH (⟨_,.lst e14 (Paired.rev2 hbp) (by rw [List.length_reverse];lia),by rw [gh,List.length_reverse];lia⟩) (aH (⟨_,.tup e15 hbp (by lia),by show 0<=20;decide⟩) dw)));refine uY e16 hmo ?_;refine ⟨CM,fun l17 n17=>?_⟩;generalize hJ17:aB _ l17 _=J17;obtain ⟨s17,g17,e17⟩:=bL B.g n17 hJ17;clear hJ17
        replace B:=B.up g17 s17
        replace sK:=sK.trans s17
        replace ea:=s17 _ _ ea
        replace e0x:=s17 _ _ e0x
        replace e1:=s17 _ _ e1
        replace e2:=s17 _ _ e2
        replace e3:=s17 _ _ e3
        replace e4:=s17 _ _ e4
        replace e5:=s17 _ _ e5
        replace e6:=s17 _ _ e6
        replace e7:=s17 _ _ e7
        replace e8:=s17 _ _ e8
        replace esa:=s17 _ _ esa
        replace e9:=s17 _ _ e9
        replace e10:=s17 _ _ e10
        replace e11:=s17 _ _ e11
        replace e12:=s17 _ _ e12
        replace e13:=s17 _ _ e13
        replace e14:=s17 _ _ e14
        replace e15:=s17 _ _ e15
        replace e16:=s17 _ _ e16
        replace hmb:=hmb.same s17
        refine hG B.g e13 e17 (by simp [am];lia) fun l18 J18 g18 s18 e18=>?_
        replace B:=B.up g18 s18
        replace sK:=sK.trans s18
        replace ea:=s18 _ _ ea
        replace e0x:=s18 _ _ e0x
        replace e1:=s18 _ _ e1
        replace e2:=s18 _ _ e2
        replace e3:=s18 _ _ e3
        replace e4:=s18 _ _ e4
        replace e5:=s18 _ _ e5
        replace e6:=s18 _ _ e6
        replace e7:=s18 _ _ e7
        replace e8:=s18 _ _ e8
        replace esa:=s18 _ _ esa
        replace e9:=s18 _ _ e9
        replace e10:=s18 _ _ e10
        replace e11:=s18 _ _ e11
        replace e12:=s18 _ _ e12
        replace e13:=s18 _ _ e13
        replace e14:=s18 _ _ e14
        replace e15:=s18 _ _ e15
        replace e16:=s18 _ _ e16
        replace e17:=s18 _ _ e17
        replace hmb:=hmb.same s18
        refine ⟨_,rfl,_,rfl,_,_,rfl,rfl,_,rfl,jR (r:=at_+1) rfl B.g B.ls fun l19 J19 g19 s19 e19=>?_⟩
        replace B:=B.up g19 s19
        replace sK:=sK.trans s19
        replace ea:=s19 _ _ ea
        replace e0x:=s19 _ _ e0x
        replace e1:=s19 _ _ e1
        replace e2:=s19 _ _ e2
        replace e3:=s19 _ _ e3
        replace e4:=s19 _ _ e4
        replace e5:=s19 _ _ e5
        replace e6:=s19 _ _ e6
        replace e7:=s19 _ _ e7
        replace e8:=s19 _ _ e8
        replace esa:=s19 _ _ esa
        replace e9:=s19 _ _ e9
        replace e10:=s19 _ _ e10
        replace e11:=s19 _ _ e11
        replace e12:=s19 _ _ e12
        replace e13:=s19 _ _ e13
        replace e14:=s19 _ _ e14
        replace e15:=s19 _ _ e15
        replace e16:=s19 _ _ e16
        replace e17:=s19 _ _ e17
        replace e18:=s19 _ _ e18
        replace hmb:=hmb.same s19
        refine hG B.g e18 e19 (by simp [am];lia) fun l20 J20 g20 s20 e20=>?_
        replace B:=B.up g20 s20
        replace sK:=sK.trans s20
        replace ea:=s20 _ _ ea
        replace e0x:=s20 _ _ e0x
        replace e1:=s20 _ _ e1
        replace e2:=s20 _ _ e2
        replace e3:=s20 _ _ e3
        replace e4:=s20 _ _ e4
        replace e5:=s20 _ _ e5
        replace e6:=s20 _ _ e6
        replace e7:=s20 _ _ e7
        replace e8:=s20 _ _ e8
        replace esa:=s20 _ _ esa
        replace e9:=s20 _ _ e9
        replace e10:=s20 _ _ e10
        replace e11:=s20 _ _ e11
        replace e12:=s20 _ _ e12
        replace e13:=s20 _ _ e13
        replace e14:=s20 _ _ e14
        replace e15:=s20 _ _ e15
        replace e16:=s20 _ _ e16
        replace e17:=s20 _ _ e17
        replace e18:=s20 _ _ e18
        replace e19:=s20 _ _ e19
        replace hmb:=hmb.same s20
        exact q _ _ (ge (mb:=[mb]) B O e20 (.cons hmb .nil) (by lia) (by show 1<=2;decide) (by show (TK.jm _++[]).length<=20;rw [Ba];exact hml)) B.g (gO sK)
     ·refine ⟨_,rfl,rfl,_,rfl,?_⟩;have no:yI p lb as xss H true false [some (.ref p),some (.ref lb),some (.int (wy:Int)),some (.int (at_:Int)),some (.int (ot:Int)),none,none,none,none] H4:=⟨B,sK,fun _ k hk=>by cases hk;exact hat,nofun⟩;refine bz (fun h3=>?_) (fun h3=>?_)
      ·refine ⟨_,rfl,_,rfl,lb,_,rfl,.inl (Cz.of (aM _ _ B.ls)),_,_,rfl,rfl,_,rfl,bz (fun h6=>?_) (fun h6=>?_)⟩
       ·have hot:ot < xss.length:=by have:=of_decide_eq_true h6;rw [hrl] at this;lia
        exact ⟨B,sK,no.h3,fun _ k hk=>by cases hk;exact hot⟩
       ·exact no
      ·exact cb no
    ·refine ⟨_,rfl,_,rfl,lb,_,rfl,.inl (Cz.of (aM _ _ B.ls)),rfl,_,rfl,bz (fun h2=>?_) (fun h2=>?_)⟩
     ·exact bM ⟨B,sK,nofun,nofun⟩
     ·have hat:at_ < xss.length:=by
       have h3:¬ (at_:Int)=(xss.length:Int):=fun z=>h2 (by rw [hrl];exact decide_eq_true (by rw [z]));lia
      refine ⟨_,rfl,rfl,_,rfl,bz (fun h3=>?_) (fun h3=>?_)⟩
      ·exact ⟨B,sK,nofun,nofun⟩
      ·exact ⟨B,sK,fun _ k hk=>by cases hk;exact hat,nofun⟩
end
end L3
set_option autoImplicit true
set_option relaxedAutoImplicit true
namespace L3
open PySem L2
open TK (Ti Tb)
def qD (m:Md):Nat:=if m.kind=3 then m.to else 8
variable {m n:Md}
theorem tD (hm:m.kind=3->m.to < 8) (hn:n.kind=3->n.to < 8) (h:qD m=qD n):cW m n=true:=by
 have mem3:∀ {k:Md},k.kind=3->rN k.to∈bg k:=fun {k} hk=>by
  unfold bg rX kg;rw [if_pos (by lia)];exact BL _ (Bo.mpr ⟨k.to,by simp [CF,Dc],rfl⟩)
 have memw:∀ {k:Md},¬ k.kind=3->("way":Str)∈bg k:=fun {k} hk=>by
  unfold bg rX;rw [if_neg hk];exact A9 _ (AU.mpr rfl)
 have fin:∀ {x:Str},x∈bg m->x∈bg n->cW m n=true:=fun {x} h1 h2=>by
  unfold cW;rw [Bool.or_eq_true];left;unfold ff;rw [List.any_eq_true];exact ⟨x,h1,by rw [BZ];exact A9 _ h2⟩
 unfold qD at h;by_cases h1:m.kind=3
 ·by_cases h2:n.kind=3
  ·rw [if_pos h1,if_pos h2] at h;have:=mem3 h2;rw [<-h] at this;exact fin (mem3 h1) this
  ·rw [if_pos h1,if_neg h2] at h;have:=hm h1;lia
 ·by_cases h2:n.kind=3
  ·rw [if_neg h1,if_pos h2] at h;have:=hn h2;lia
  ·exact fin (memw h1) (memw h2)
def gI (ms:List Md) (i:Nat):Nat:=match ms[i]? with
 | some m=>qD m
 | none=>8
variable {xss:List (List Nat)} {g:Nat->Nat} {ms:List Md}
theorem tE (B:TK.Bts (bI ms) ms.length g xss) (h8:∀ m∈ms,m.kind=3->m.to < 8):∀ xs∈xss,xs.length<=9:=fun xs hx=>by
 have hm:∀ i∈xs,i < ms.length:=fun i hi=>(B.all i).mp (List.mem_flatten.mpr ⟨xs,hx,hi⟩);have hk:∀ i∈xs,∃ m,ms[i]?=some m/\gI ms i=qD m/\(m.kind=3->m.to < 8):=fun i hi=>by
  have:=AL (hm i hi);exact ⟨_,this,by unfold gI;rw [this],h8 _ (Bq _)⟩
 have nd:(xs.map (gI ms)).Nodup:=by
  unfold List.Nodup;rw [List.pairwise_map];refine (B.pw xs hx).imp_of_mem fun {i j} hi hj hij e=>?_;obtain ⟨m,e1,k1,t1⟩:=hk i hi;obtain ⟨n,e2,k2,t2⟩:=hk j hj;have hf:bI ms i j=true:=by rw [fv e1 e2];exact tD t1 t2 (by rw [<-k1,<-k2];exact e)
  have h1:=B.num.lt i j hij (hm j hj) hf;have h2:=B.same xs hx i hi j hj;lia
 have:=TK.kC 9 _ nd (fun k hk'=>by
  obtain ⟨i,hi,rfl⟩:=Bo.mp hk';obtain ⟨m,e1,k1,t1⟩:=hk i hi;rw [k1];unfold qD;split
  ·have:=t1 (by assumption);lia
  ·decide)
 rwa [AM] at this
theorem mn {f:Nat->Nat->Bool} {n:Nat} (B:TK.Bts f n g xss):xss.flatten.length=n:=by
 have p:=TK.kD B.nodup (List.nodup_range (n:=n)) fun a=>by rw [B.all a,A3]
 rw [p.length_eq,List.length_range]
theorem mq:∀ {xss:List (List Nat)},(∀ xs∈xss,xs≠[])->xss.length<=xss.flatten.length
 | [],_=>AR _
 | x::xss,h=>by
  have h1:=mq (xss:=xss) fun xs hx=>h xs (A2 _ hx);have h2:0 < x.length:=B9.mpr (h x (AX ..));rw [BQ,AT,Bj];lia
theorem u0 (B:TK.Bts (bI ms) ms.length g xss) (h8:∀ m∈ms,m.kind=3->m.to < 8) (hn:ms.length<=40):yS xss:=by
 have h1:=mn B;have h2:=mq B.ne;exact ⟨by lia,fun xs hx=>⟨B.ne xs hx,by have:=tE B h8 xs hx;lia⟩,by lia⟩
variable {H:Hp}
theorem qE {v:V} (h:DV H v m):m.kind=3->m.to < 8:=by
 cases h<;>intro z<;>first|assumption|(simp at z)
theorem E1.eight (h:E1 H v ms):∀ m∈ms,m.kind=3->m.to < 8:=by
 obtain ⟨a,us,rfl,q,p,l⟩:=h;intro m hm;obtain ⟨i,hi,rfl⟩:=List.mem_iff_getElem.mp hm;have hi':i < us.length:=by rw [p.length];exact hi
 obtain ⟨n,hn,ht⟩:=aQ p (AL hi');rw [AL hi] at hn;cases hn;exact qE ht
inductive Ak (M:Hp) (ms:List Md) (v:V):Prop
 | mk (l:Addr) (as:List Addr) (xss:List (List Nat)) (g:Nat->Nat):v=.ref l->LD M l as xss->TK.Bts (bI ms) ms.length g xss->Ak M ms v
structure GR (C:Nat->Addr) (p lt ls:Addr) (zs:List V) (ms:List Md) (H:Hp):Prop where
 g:CW H p
 to:E1 (br p H) (.ref lt) ms
 ls:br p H ls=some (.lst zs)
 st:Paired (CN C (br p H)) zs ms
variable {zs:List V}
theorem GR.up {p lt ls:Addr} {H H':Hp} (h:GR C p lt ls zs ms H) (g:CW H' p) (s:Cw (br p H) (br p H')):GR C p lt ls zs ms H':=⟨g,h.to.same s,s _ _ h.ls,Paired.mapP h.st fun _ _ h=>h.same s⟩
theorem GR.sta {p lt ls:Addr} (h:GR C p lt ls zs ms H):EU C H (.ref ls) ms:=by
 have:=h.st.length;have h2:=h.to.len60;exact ⟨ls,zs,rfl,.inl (aM _ _ h.ls),Paired.mapP h.st fun _ _ h=>h.same aM,by lia⟩
variable {p:Addr}
theorem mr (g:CW H p):DC H (br p H):=fun a xs e=>cL e fun z=>by obtain ⟨x,y,w,q⟩:=g;rw [z,q] at e;cases e
theorem tF (g:CW H p):∀ b c dx fs,H b=some (.ins c dx fs)->br p H b=some (.ins c dx fs):=fun b c dx fs e=>cL e fun z=>by obtain ⟨x,y,w,q⟩:=g;rw [z,q] at e;cases e
theorem eE {α β γ:Type} {F:α->γ->Prop} {g:β->γ}:∀ {xs:List α} {ys:List β},Paired (fun x y=>F x (g y)) xs ys->Paired F xs (ys.map g)
 | _,_,.nil=>.nil
 | _,_,.cons a t=>.cons a (eE t)
theorem ij {H H2 H3:Hp} (s:Cw H H2) (hp:H p=none) (b:Dy p H2 H3):Cw H H3:=fun c u e=>b c u (s c u e) (aD e hp)
theorem u4 {r:Nat} (h:r < 4):∃ n:Nat,mv [V.int 12,.int 12,.int 12,.int 40] (r:Int)=some (.int (n:Int))/\n<=40:=by
 match r,h with
 | 0,_=>exact ⟨12,rfl,zd⟩
 | 1,_=>exact ⟨12,rfl,zd⟩
 | 2,_=>exact ⟨12,rfl,zd⟩
 | 3,_=>exact ⟨40,rfl,zd⟩
theorem w8 {M:Hp} {l:Addr} {as:List Addr} (L:LD M l as xss) (O:yS xss):Es M (.ref l) (some (TK.bX xss)):=
 .lst L.ls (fA L.it fun xs hx=>(O.l xs hx).2) (by rw [AM,L.it.length];have:=O.n;lia)
def tG (K:ZF):Sp:=fun vs H Q _=>∃ (a:Addr) (ns:List Int),vs=[.ref a]/\Cz K H a (ns.map V.int)/\ns.length<=63/\∀ H',Q (.bl true) H'
inductive Al (H:Hp) (l:Addr) (σ:St) (H':Hp):Prop
 | mk (v1 v2 v3 v4 v5 v6 v7 v8 v9:Option V):σ=[some (.ref l),v1,v2,v3,v4,v5,v6,v7,v8,v9]->Cw H H'->Al H l σ H'
inductive Am (HG:Hp) (C:Nat->Addr) (p lt ls l:Addr) (zs:List V) (ms:List Md) (k v5:V) (lg:Addr) (σ:St) (H':Hp):Prop
 | mk (v7 v8 v9:Option V):σ=[some (.ref l),some k,some (.ref p),some (.ref lt),some (.ref ls),some v5,some (.ref lg),v7,v8,v9]->GR C p lt ls zs ms H'->Cw (br p HG) (br p H')->Am HG C p lt ls l zs ms k v5 lg σ H'
inductive An (HG:Hp) (C:Nat->Addr) (p lt ls l:Addr) (zs:List V) (ms:List Md) (k v5:V) (lg:Addr) (sm:V) (σ:St) (H':Hp):Prop
 | mk (v8 v9:Option V):σ=[some (.ref l),some k,some (.ref p),some (.ref lt),some (.ref ls),some v5,some (.ref lg),some sm,v8,v9]->GR C p lt ls zs ms H'->Cw (br p HG) (br p H')->An HG C p lt ls l zs ms k v5 lg sm σ H'
section
variable {P:Program} {w:World} {K:ZF} {mg:Str->Option Value} {base:Heap} {C:Nat->Addr}
theorem DP:ar ["_law_script","_law_k","_law_stream_here","_law_told","_law_steps_here","_law_beats","_law_good","_law_some","_law_j","_law_bent_here"] ["_law_script"] (aj lu):=cE zk
theorem yJ:(["_law_at"]:List Str).Nodup:=by decide +kernel
theorem yK:(["_law_beat"]:List Str).Nodup:=by decide +kernel
theorem xa {f:Addr} {fd:FuncData} (F:C7 K "law" "law" lu f fd) (B:Bl mg) (CL:Fn P w K mg base "_law_cell" 1 ["_law_script","_law_k"] (mQ K)) (ST:Fn P w K mg base "_law_stream" 1 ["_law_cell_here"] iD) (TK1:Fn P w K mg base "_law_take" 1 ["_law_stream_here","_law_many"] dq)
  (LS:Fn P w K mg base "_law_steps" 4 ["_law_stream_here","_law_most"] lN) (OB:Fn P w K mg base "_law_objects" 7 ["_law_stream_here","_law_told"] (sD C)) (PK:Fn P w K mg base "packed" 7 ["steps"] (iU C)) (LA:Fn P w K mg base "_law_late" 3 ["_law_told","_law_many"] kP)
  (IP:Fn P w K mg base "is_packing" 7 ["steps","beats"] (fZ C)) (LP:Fn P w K mg base "_law_is_packing" 3 ["_law_told","_law_beats"] eW) (LB:Fn P w K mg base "_law_bent" 2 ["_law_stream_here","_law_beats"] kR) (RI:Fn P w K mg base "_law_right" 8 ["_law_steps_here","_law_told","_law_beats","_law_places"] (jj C)) (LC:Fn P w K mg base "_law_chain" 2 ["_law_stream_here","_law_told","_law_found"] jk) (CH:Fn P w K mg base "chain_of" 8 ["steps"] (gM C)) (IC:Fn P w K mg base "is_chain" 6 ["steps","places"] (eV C)) :
  aT P w K mg base bT 9 f fd ["_law_script"] (tG K):=by
 have ZZ:=DP
 walk_at "o"
 ·obtain ⟨l,ns,rfl,hS,Ck,q⟩:=h;have sz:(1000:Nat)<=sizeLine:=by decide
  refine ⟨_,(ah (bY PassesOwn.never rfl (bB rfl B.range (aa (ao (pk rfl) (by rfl) B.max PyProof.Rows.boot_max (aa ag (aa (ao (gp rfl) (by rfl) B.min PyProof.Rows.boot_min (aa (ao aw (by rfl) B.len A4 (aa (pv 0) ab)) (aa ag ab))) ab))) ab)) (cZ (i:=1) DP.nd) (ah (eY (i:=2) DP.nd (ap ST hr.m rfl (aa (ap CL hr.m rfl (aa (pv 0) (aa (pv 1) ab))) ab))) (ah (eY (i:=3) DP.nd (ap LS hr.m rfl (aa (pv 2) (aa (aq aG (au (aa ag (aa ag (aa ag (aa ag ab))))) (ap TK1 hr.m rfl (aa (pv 2) (aa ag ab)))) ab)))) (ah (eY (i:=4) DP.nd (ap OB hr.m rfl (aa (pv 2) (aa (pv 3) ab)))) (ah (eY (i:=5) DP.nd (ap PK hr.m rfl (aa (pv 4) ab))) (ah (eY (i:=6) DP.nd (au (aa (pv 5) (aa (cf (N':=["_law_at"]) (ix:=[none]) (sc0:=aj lu) (N:=["_law_script","_law_k","_law_stream_here","_law_told","_law_steps_here","_law_beats","_law_good","_law_some","_law_j","_law_bent_here"]) rfl zk (bB rfl B.range (aa (ao aw (by rfl) B.len A4 (aa (pv 3) ab)) ab)) (fun _ _ _ _ _=>(cZ (i:=0) yJ)) (fun _ _ _ _ _=>cA) (fun _ _ _ _ _=>(au (aa (pv 0) ab)))) (aa (ap LA hr.m rfl (aa (pv 3) (aa (ao aw (by rfl) B.len A4 (aa (pv 5) ab)) ab))) ab))))) (ah (bY PassesOwn.never rfl (bn (pv 6)) (cZ (i:=7) DP.nd) (ah (aN (PW.pt (dS (aC DK (ap IP hr.m rfl (aa (pv 4) (aa (pv 7) ab))) bG) (c9 (cq (aW (ap LP hr.m rfl (aa (pv 3) (aa (pv 7) ab)))))))) (ai (al bG)) aA) (ai (bY PassesOwn.never rfl (bB rfl B.range (aa ag ab)) (cZ (i:=8) DP.nd) (ah (eY (i:=9) DP.nd (ap LB hr.m rfl (aa (pv 2) (aa (cf (N':=["_law_beat"]) (ix:=[none]) (sc0:=aj lu) (N:=["_law_script","_law_k","_law_stream_here","_law_told","_law_steps_here","_law_beats","_law_good","_law_some","_law_j","_law_bent_here"]) rfl zk (bn (pv 7)) (fun _ _ _ _ _=>(cZ (i:=0) yK)) (fun _ _ _ _ _=>cA) (fun _ _ _ _ _=>(bm (ju (K:=K) rfl) (by rfl) B.list cg (aa (pv 0) ab)))) ab)))) (ai (aN (cq (aW (ap RI hr rfl (aa (pv 4) (aa (pv 3) (aa (pv 9) (aa (ap LC hr.m rfl (aa (pv 2) (aa (pv 3) (aa (ap CH hr rfl (aa (pv 4) ab)) ab)))) ab))))))) (ai (al bG)) aA))))))) (ai (aN (PW.pt (dS (aC DK (ap IC hr.m rfl (aa (pv 4) (aa (ap CH hr rfl (aa (pv 4) ab)) ab))) bG) (c9 (aC DK (ap IC hr.m rfl (aa (pv 4) (aa (au ab) ab))) bG)))) (ai (al bG)) aA))))))))) (ai (al (bP (ap IP hr.m rfl (aa (au ab) (aa (au ab) ab))) (cr (mz (ap IP hr.m rfl (aa (au ab) (aa (au (aa (au ab) ab)) ab))))))))),?_⟩;refine ⟨_,rfl,l,_,rfl,.inl hS,_,_,rfl,_,_,rfl,_,rfl,?_,?_,?_⟩
  ·split<;>(try split)<;>lia
  ·rw [AM];split<;>(try split)<;>lia
  refine c7 (lo:=0) (fun i σ H2=>Al H l σ H2) ⟨_,_,_,_,_,_,_,_,_,rfl,Cw.refl _⟩ ?_ ?_
  ·rintro i σ H1 hi ⟨v1,v2,v3,v4,v5,v6,v7,v8,v9,rfl,s1⟩;refine ⟨_,rfl,_,rfl,l,ns,0+(i:Int),rfl,s1.seq hS,by lia,fun c=>⟨c,rfl,fun p H2 np s2 g2=>?_⟩⟩;refine ⟨_,rfl,CM,fun lm nm=>?_⟩;have s3:=ae (o:=.lst [.int 12,.int 12,.int 12,.int 40]) nm;have e3:(aB H2 lm (.lst [.int 12,.int 12,.int 12,.int 40])) lm=some (.lst [.int 12,.int 12,.int 12,.int 40]):=af;have plm:p≠lm:=g2.ne nm;generalize aB H2 lm (.lst [V.int 12,.int 12,.int 12,.int 40])=H3 at *;have g3:=g2.same s3;refine ⟨_,rfl,p,4,rfl,g3,zd,zd,fun r4 H4 t4 g4 b4=>?_⟩;obtain ⟨n,hn,hn1⟩:=u4 t4;refine ⟨lm,_,_,_,rfl,rfl,Cz.of (b4 _ _ e3 plm.symm),hn,?_⟩;refine ⟨p,n,rfl,by lia,g4,fun lt us ds H5 nlt e5 p5 len5 g5 b5 plt=>?_⟩;have S15:Cw H1 H5:=ij (ij (s2.trans s3) np b4) np b5;have hds:us.length=ds.length:=p5.length;refine ⟨_,rfl,_,rfl,p,lt,us,ds,rfl,g5,e5,plt,p5,by lia,fun ls zs H6 nls e6 p6 g6 b6 pls=>?_⟩;have np1:H1 p=none:=np;have S16:Cw H1 H6:=ij S15 np1 b6;have W6:GR C p lt ls zs (ds.map rS) H6:=⟨g6,⟨lt,us,rfl,cL (b6 _ _ e5 plt.symm) plt.symm,eE (Paired.mapP p5 fun _ _ h=>(h.kt ((g5.kt b6).trans (mr g6))).tol),by lia⟩,cL e6 pls.symm,eE (Paired.mapP p6 fun _ _ ⟨u,o⟩=>(o.kp (tF g6) (mr g6)).sv)⟩;have hms:(ds.map rS).length=us.length:=by rw [AM,hds]
   generalize ds.map rS=ms at *;have h8:=W6.to.eight;have hn40:ms.length<=40:=by lia
   obtain ⟨a6,zs6,ez6,sq6,pp6,l6⟩:=id W6.sta;cases ez6;refine ⟨_,rfl,ls,zs6,ms,rfl,sq6,pp6,by lia,fun lb as H7 s7 nlb nlas L7=>?_⟩;have W7:=W6.up (g6.same s7) (aV s7);have D7:LD (br p H7) lb as (eB ms ms.length):=⟨cL L7.ls (g6.ne nlb).symm,dR L7.it fun x y hx h=>cL h (g6.ne (L7.fr x hx)).symm⟩;have B7:TK.Bts (bI ms) ms.length (fun i=>(aP ms ms.length).getD i 0) (eB ms ms.length):=TK.uK (bI ms) ms.length;refine ⟨_,rfl,_,rfl,lt,us,rfl,.inl (Cz.of (s7 _ _ (b6 _ _ e5 plt.symm))),(us.length:Int),rfl,by lia,by lia,?_⟩;refine cV (lo:=0) (fun k ys H'=>∃ ax:List Addr,ys=ax.map V.ref/\Cw H7 H'/\Paired (oK (br p H')) ax ((List.range k).map fun i=>[i])) ⟨[],rfl,Cw.refl _,.nil⟩ (fun k ys H' hk ⟨ax,e,_,pa⟩=>by
     have:=pa.length;rw [AM,List.length_range] at this;rw [A1] at hk;rw [e,AM];lia) ?_ ?_
   ·rintro k ys H8 hk ⟨ax,rfl,s8,pa⟩;rw [Int.zero_add];refine ⟨trivial,cB ?_⟩;refine ⟨_,rfl,CM,fun lk nk=>?_⟩;obtain ⟨mk1,mk2⟩:=aY (o:=.lst [.int (k:Int)]) (W7.g.same s8) nk;refine Nx.mk hk ⟨ax++[lk],by rw [AY];rfl,s8.trans (ae nk),?_⟩;rw [Bs,AY];exact bj (F:=oK _) mk2 (Paired.mapP pa fun _ _ h=>mk1 _ _ h)
   ·rintro ys H8 ⟨ax,rfl,s8,pa⟩ l2 n2;rw [A1,<-hms] at pa;obtain ⟨m2,e2⟩:=aY (o:=.lst (ax.map V.ref)) (W7.g.same s8) n2;have s9:=s8.trans (ae (o:=.lst (ax.map V.ref)) n2);have D9:LD (br p (aB H8 l2 (.lst (ax.map V.ref)))) l2 ax ((List.range ms.length).map fun i=>[i]):=⟨e2,Paired.mapP pa fun _ _ h=>m2 _ _ h⟩;generalize aB H8 l2 (.lst (ax.map V.ref))=H9 at *;have W9:=W7.up (W7.g.same s9) (aV s9);have hT:(as.map V.ref).length=TK.bF (aP ms ms.length):=by rw [AM,L7.it.length,mh]
    refine ⟨_,rfl,_,rfl,lb,_,rfl,.inl (Cz.of (s9 _ _ L7.ls)),.ref lt,ms,(as.map V.ref).length,rfl,W9.to.same aM,hT,fun l3 a3 g' H10 s10 n3 na3 D10 N10 T10=>?_⟩;have W10:=W9.up (W9.g.same s10) (aV s10);have D10':LD (br p H10) l3 a3 (TK.nL g' ms.length (as.map V.ref).length):=⟨cL D10.ls (W9.g.ne n3).symm,dR D10.it fun x y hx h=>cL h (W9.g.ne (na3 x hx)).symm⟩;refine ⟨CM,fun lg nlg=>?_⟩;generalize hJg:aB _ lg _=HG;obtain ⟨sg,gg,eg⟩:=bL W10.g nlg hJg;have sG:Cw H10 HG:=by rw [<-hJg];exact ae nlg
    clear hJg;have WG:=W10.up gg sg;have good:∀ v∈[V.ref lb,.ref l2,.ref l3],Ak (br p HG) ms v:=aH ⟨lb,as,_,_,rfl,D7.same ((aV s9).trans ((aV s10).trans sg)),B7⟩ (aH ⟨l2,ax,_,_,rfl,D9.same ((aV s10).trans sg),TK.uI _ _⟩ (aH ⟨l3,a3,_,_,rfl,D10'.same sg,TK.oR N10 T10⟩ dw));have S1G:Cw H1 HG:=S16.trans (s7.trans (s9.trans (s10.trans sG)));refine ⟨_,rfl,lg,rfl,⟨_,Cz.of (aM _ _ eg)⟩,?_⟩;have SL:∀ {H':Hp},Cw (br p HG) (br p H')->Cw H1 H':=fun {H'} s'=>ij S1G np1 (nY s');refine dz (K:=K) (a:=lg) (xs:=[.ref lb,.ref l2,.ref l3]) (fun j σ H'=>Am HG C p lt ls l zs ms (.int (0+(i:Int))) (.ref lb) lg σ H') ⟨v7,v8,v9,rfl,WG,Cw.refl _⟩ (fun _ _ H' _ ⟨_,_,_,_,_,s'⟩=>Cz.of (aM _ _ (s' _ _ eg))) ?_ ?_
    ·rintro j sm σ H11 hj ⟨x7,x8,x9,rfl,W11,s11⟩;obtain ⟨lx,ay,xss,gx,rfl,LXG,BX⟩:=good _ (A6 hj);have OX:=u0 BX h8 hn40;have bx:=w8 LXG OX;refine ⟨_,rfl,_,rfl,.ref ls,.ref lx,ms,_,rfl,W11.sta,(bx.same s11).same aM,fun H12 Cs=>?_⟩;refine ⟨_,_,rfl,rfl,_,rfl,?_⟩;rw [BX.pack];refine bp rfl ?_;have W12:=W11.up (W11.g.same Cs) (aV Cs);have s12':=s11.trans (aV Cs);refine ⟨_,rfl,_,rfl,.ref lt,.ref lx,ms,_,rfl,W12.to.same aM,(bx.same s12').same aM,(fun bs hb=>by cases hb;rw [TK.cy,mn BX];lia),fun H13 s13=>⟨_,rfl,?_⟩⟩;rw [BX.pack];refine bp rfl ?_;have W13:=W12.up (W12.g.same s13) (aV s13);have s13':=s12'.trans (aV s13);refine ⟨4,rfl,zd,zd,?_⟩;refine c7 (lo:=0) (fun t σ H'=>An HG C p lt ls l zs ms (.int (0+(i:Int))) (.ref lb) lg (.ref lx) σ H') ⟨x8,x9,rfl,W13,s13'⟩ ?_ ?_
     ·rintro t σ H14 ht ⟨y8,y9,rfl,W14,s14⟩;have L14:=LXG.same s14;refine ⟨_,rfl,_,rfl,lx,rfl,⟨_,Cz.of (aM _ _ L14.ls)⟩,?_⟩;refine bU (K:=K) (a:=lx) (xs:=ay.map V.ref) (fun k ys H'=>∃ ac:List Addr,ys=ac.map V.ref/\Cw H14 H'/\Paired (oK (br p H')) ac (xss.take k)) ⟨[],rfl,Cw.refl _,.nil⟩ (fun k ys H' hk ⟨ac,e,s',pa⟩=>⟨Cz.of (s' _ _ (aM _ _ L14.ls)),by
       have:=pa.length;rw [A7] at this;have:=OX.n;rw [e,AM];lia⟩) ?_ ?_
      ·rintro k y ys H15 hy ⟨ac,rfl,s15,pa⟩;have hk:=(AN.mp hy).1;have hk':k < ay.length:=by rw [AM] at hk;exact hk
       rw [A5,AL hk'] at hy;cases hy;obtain ⟨x,hx,hlx⟩:=aQ L14.it (AL hk');refine ⟨trivial,cB ?_⟩;refine ⟨_,rfl,_,_,rfl,.inl (Cz.of (s15 _ _ (aM _ _ hlx))),fun lk nk=>?_⟩;obtain ⟨mk1,mk2⟩:=aY (o:=.lst (Cy x)) (W14.g.same s15) nk;refine Nx.mk hk ⟨ac++[lk],by rw [AY];rfl,s15.trans (ae nk),?_⟩;rw [cn hx];exact bj (F:=oK _) mk2 (Paired.mapP pa fun _ _ h=>mk1 _ _ h)
      ·rintro ys H15 ⟨ac,rfl,s15,pa⟩ lc nlc;rw [AM,L14.it.length,Bf] at pa;obtain ⟨mk1,mk2⟩:=aY (o:=.lst (ac.map V.ref)) (W14.g.same s15) nlc;have nlac:lc∉ac:=fun z=>by
        obtain ⟨x,_,hx⟩:=cS pa lc z;have:=aM _ _ hx;rw [nlc] at this;cases this
       have n14:H14 lc=none:=s15.free nlc;have s16:=s15.trans (ae (o:=.lst (ac.map V.ref)) nlc);have g16:=W14.g.same s16;refine ⟨p,lc,ac,xss,rfl,⟨g16,mk2,Paired.mapP pa fun _ _ h=>mk1 _ _ h⟩,OX,nlac,fun bv H17 hbv g17 fr17=>?_⟩;generalize aB H15 lc (.lst (ac.map V.ref))=H16 at *;have s17:Cw (br p H14) (br p H17):=fun c u e=>by
        have h1:=aM _ _ e;exact cL (fr17 c u (s16 _ _ h1) (pd e) (aD h1 n14)) (pd e)
       have W17:=W14.up g17 s17;refine ⟨_,rfl,_,rfl,_,rfl,_,rfl,_,rfl,_,rfl,.ref ls,ms,rfl,W17.sta,fun lf cc H18 s18 nlf e18 hcl hclt hcp hcc=>?_⟩;have W18:=W17.up (g17.same s18) (aV s18);obtain ⟨a9,us9,e9,q9,p9,l9⟩:=id W18.to;cases e9;have hu9:=p9.length;refine ⟨p,lt,lf,us9,cc,rfl,W18.g,q9,by lia,cL e18 (g17.ne nlf).symm,by lia,fun pv H19 hpv g19 s19=>?_⟩;have W19:=W18.up g19 s19;obtain ⟨bb,hbb,hsm⟩:=hbv;obtain ⟨pb,hpb⟩:=hpv;refine ⟨ls,zs,.ref lt,bv,pv,ms,bb,pb,rfl,aM _ _ W19.ls,Paired.mapP W19.st fun _ _ h=>h.same aM,W19.to.same aM,(hbb.same ((aV s18).trans s19)).same aM,hsm,hpb.same aM,fun H20 s20=>⟨_,rfl,cb ?_⟩⟩;exact ⟨_,_,rfl,W19.up (g19.same s20) (aV s20),s14.trans (s17.trans ((aV s18).trans (s19.trans (aV s20))))⟩
     ·rintro σ H14 ⟨y8,y9,rfl,W14,s14⟩;exact ⟨_,_,_,rfl,W14,s14⟩
    ·rintro σ H11 ⟨x7,x8,x9,rfl,W11,s11⟩;refine ⟨_,rfl,_,rfl,.ref ls,ms,rfl,W11.sta,fun lf cc H12 Cs nlf e12 hcl hclt hcp hcc=>?_⟩;have W12:=W11.up (W11.g.same Cs) (aV Cs);refine ⟨.ref ls,.ref lf,ms,some (TK.fC cc),rfl,W12.sta,.lst e12 (bV _ cc) (by rw [am];lia),fun H13 s13=>?_⟩;have hch:TK.cR (bI ms) ms.length (some (TK.fC cc))=true:=by
      unfold TK.cR;rw [TK.lT hclt hcp,TK.cz,hcc];rfl
     refine ⟨_,_,rfl,rfl,_,rfl,?_⟩;rw [hch];refine bp rfl ?_;have W13:=W12.up (W12.g.same s13) (aV s13);refine ⟨_,rfl,CM,fun l0 n0=>?_⟩;have s14:=ae (o:=.lst []) n0;have e14:aB H13 l0 (.lst []) l0=some (.lst []):=af;generalize aB H13 l0 (.lst [])=H14 at *;have W14:=W13.up (W13.g.same s14) (aV s14);refine ⟨.ref ls,.ref l0,ms,some [],rfl,W14.sta,.lst e14 .nil zd,fun H15 s15=>?_⟩;refine ⟨_,_,rfl,rfl,_,rfl,bp rfl ?_⟩;exact ⟨_,_,_,_,_,_,_,_,_,rfl,s1.trans (SL (s11.trans ((aV Cs).trans ((aV s13).trans ((aV s14).trans (aV s15))))))⟩
  ·rintro σ H1 ⟨v1,v2,v3,v4,v5,v6,v7,v8,v9,rfl,s1⟩;have sta0:∀ {H':Hp} {x:Addr},H' x=some (.lst [])->EU C H' (.ref x) []:=fun {H' x} e=>⟨x,[],rfl,.inl e,.nil,Bv _⟩;refine ⟨CM,fun la na=>⟨CM,fun lb nb=>?_⟩⟩;have ea:=(ae (o:=.lst []) nb) _ _ (af (H:=H1) (a:=la) (o:=.lst []));refine ⟨.ref la,.ref lb,[],some [],rfl,sta0 ea,.lst af .nil (Bv _),fun H2 s2=>⟨_,rfl,db rfl ?_⟩⟩;refine ⟨CM,fun lc nc=>⟨CM,fun ld ndd=>⟨CM,fun le ne=>?_⟩⟩⟩;have ec:aB H2 lc (.lst []) lc=some (.lst []):=af;generalize aB H2 lc (.lst [])=H3 at *;have ed:aB H3 ld (.lst []) ld=some (.lst []):=af
   replace ec:=(ae (o:=.lst []) ndd) _ _ ec
   generalize aB H3 ld (.lst [])=H4 at *;have ee:aB H4 le (.lst [.ref ld]) le=some (.lst [.ref ld]):=af
   replace ec:=(ae (o:=.lst [.ref ld]) ne) _ _ ec
   replace ed:=(ae (o:=.lst [.ref ld]) ne) _ _ ed
   generalize aB H4 le (.lst [.ref ld])=H5 at *;refine ⟨.ref lc,.ref le,[],some [some []],rfl,sta0 ec,.lst ee (.cons (.lst ed .nil (Bv _)) .nil) (by show 1<=60;decide),fun H6 s6=>⟨_,rfl,?_⟩⟩;exact q _
end
end L3
namespace L3
open PySem L2
def aZ (K:ZF) (x:Str) (st:Stmt) (f:Addr):Prop:=
 PySem.W.nsIn K mainGlobals x=some (some (.ref f))/\∃ fd:FuncData,C7 K x x st f fd
variable {f:Addr} {x:Str} {K:ZF}
theorem xb {st:Stmt} {oc:Value} {od an:Option Addr} {osl:Array (Option Value)} {kV doc pm Cr ct:Value} (a:PySem.W.nsIn K mainGlobals x=some (some (.ref f)))
  (l:K.lookup f=some ⟨oc,od,.func (PySem.W.fnOf x x (cU st) (ck st) (aj st) .none kV doc pm an Cr ct),osl⟩) (c:PySem.W.codeIn K Cr x=true) (k:PySem.W.keepIn K (.ref f)=true):aZ K x st f:=⟨a,_,rm l c k⟩
variable {st:Stmt} {mg:Str->Option Value}
theorem aX {P:Program} {w:World} {base h:Heap} {k:Nat} {ps:List Str} {sp:Sp} (X:K.In h) (G:h.Ns mainGlobals mg) (D:aZ K x st f)
  (hb:∀ (kV doc pm:Value) (an:Option Addr) (Cr ct:Value) (us:List Value),us.length=ps.length->bindArgs (PySem.W.fnOf x x (cU st) (ck st) (aj st) .none kV doc pm an Cr ct) ⟨us,[]⟩=pure (ps.zip us))
  (ok:∀ fd,C7 K x x st f fd->aT P w K mg base bT k f fd ps sp):Fn P w K mg base x k ps sp:=by
 obtain ⟨a,fd,F⟩:=D;exact ⟨f,fd,BK X G a,F.kp,F.binds hb,ok fd F⟩
structure gX (K:ZF) (x qual:Str) (st:Stmt) (f:Addr):Prop where
 fu:∃ fd:FuncData,C7 K x qual st f fd
 fn:PySem.W.isFn K (.ref f)=true
theorem xc {K:ZF} {x qual:Str} {st:Stmt} {f:Addr} {oc:Value} {od an:Option Addr} {osl:Array (Option Value)} {kV doc pm Cr ct:Value}
  (l:K.lookup f=some ⟨oc,od,.func (PySem.W.fnOf x qual (cU st) (ck st) (aj st) .none kV doc pm an Cr ct),osl⟩) (c:PySem.W.codeIn K Cr qual=true) (k:PySem.W.keepIn K (.ref f)=true) (n:PySem.W.isFn K (.ref f)=true):gX K x qual st f:=⟨⟨_,rm l c k⟩,n⟩
variable {qual:Str}
theorem aR {P:Program} {w:World} {mg:Str->Option Value} {base:Heap} {Cc f:Addr} {k:Nat} {ps:List Str} {sp:Sp} (a:PySem.W.findIn K (.ref Cc) x=some (some (.ref f))) (D:gX K x qual st f)
  (hb:∀ (kV doc pm:Value) (an:Option Addr) (Cr ct:Value) (us:List Value),us.length=ps.length->bindArgs (PySem.W.fnOf x qual (cU st) (ck st) (aj st) .none kV doc pm an Cr ct) ⟨us,[]⟩=pure (ps.zip us))
  (ok:∀ fd,C7 K x qual st f fd->aT P w K mg base bT k f fd ps sp):iI P w K mg base Cc x k ps sp:=by
 obtain ⟨⟨fd,F⟩,n⟩:=D;exact ⟨f,fd,⟨a,n,F.kp⟩,ok fd F,F.binds hb⟩
theorem fB {P:Program} {w:World} {mg:Str->Option Value} {base:Heap} {ps:List Str} {sp:Sp} (D:gX K x qual st f)
  (hb:∀ (kV doc pm:Value) (an:Option Addr) (Cr ct:Value) (us:List Value),us.length=ps.length->bindArgs (PySem.W.fnOf x qual (cU st) (ck st) (aj st) .none kV doc pm an Cr ct) ⟨us,[]⟩=pure (ps.zip us))
  (ok:∀ fd,C7 K x qual st f fd->aT P w K mg base bT 1 f fd ps sp):fJ P w K mg base f ps sp:=by
 obtain ⟨⟨fd,F⟩,n⟩:=D;exact ⟨fd,ok fd F,F.binds hb⟩
def Ei (K:ZF) (c:Addr):List Str->Prop
 | []=>True
 | f::r=>Dz K c f/\Ei K c r
variable {c:Addr}
theorem Ei.get:∀ {l:List Str},Ei K c l->∀ f∈l,Dz K c f
 | _::_,h,f,hf=>by
  rcases AZ.mp hf with rfl|z
  ·exact h.1
  ·exact Ei.get h.2 f z
structure CK (K:ZF) (n:Str) (c i:Addr) (fl:List Str) (uw so tg to rd wr:Addr):Prop where
 ns:PySem.W.nsIn K mainGlobals n=some (some (.ref c))
 cls:FY K c
 na:Ei K c fl
 mk_:Mk K c i
 uw_:PySem.W.findIn K (.ref c) "uses_way"=some (some (.ref uw))
 so_:PySem.W.findIn K (.ref c) "sources"=some (some (.ref so))
 tg_:PySem.W.findIn K (.ref c) "targets"=some (some (.ref tg))
 to_:PySem.W.findIn K (.ref c) "touched"=some (some (.ref to))
 rd_:PySem.W.findIn K (.ref c) "reads"=some (some (.ref rd))
 wr_:PySem.W.findIn K (.ref c) "writes"=some (some (.ref wr))
def jT (a b c d e f g:Addr):Nat->Addr
 | 0=>a
 | 1=>b
 | 2=>c
 | 3=>d
 | 4=>e
 | 5=>f
 | _=>g
theorem tJ {p:Nat->Prop} (h0:p 0) (h1:p 1) (h2:p 2) (h3:p 3) (h4:p 4) (h5:p 5) (h6:p 6):∀ k,k < 7->p k:=by
 intro k hk;rcases (by lia:k=0\/k=1\/k=2\/k=3\/k=4\/k=5\/k=6) with rfl|rfl|rfl|rfl|rfl|rfl|rfl<;>assumption
theorem xf {l:PySem.W.OpenLaw} {w:World} {h:Heap} {fa aO c0 c1 c2 c3 c4 c5 c6 i0 i1 i2 i3 i4 i5 i6 tS t0 t1 t2 t3 oS o2 o4 o5 o3 o6 uS u3 fT fR fW f0 f1 f2 f3 f4 f5 f6 f7 f8 f9 f10 f11 f12 f13 f14 f15 f16 f17 f18 f19 f20 f21 f22 f23 f24 f25 f26 f27 f28 f29 f30 f31 f32 f33 f34 f35 f36 f37 f38 e1 e2 e3 e4 e5 e6 e7 e8 e9:Addr} {k1 k2 k3 k4:Tok} (X:K.In h) (G:h.Ns mainGlobals mg) (hfa:mg "law"=some (.ref fa))
  (d0:aZ K "is_whole" j3 f0)
  (d1:aZ K "is_within" ia f1)
  (d2:aZ K "ops_told" vP f2)
  (d3:aZ K "is_headed" j6 f3)
  (d4:aZ K "is_inner" mM f4)
  (d5:aZ K "is_field" mN f5)
  (d6:aZ K "is_sel" vQ f6)
  (d7:aZ K "is_source" j7 f7)
  (d8:aZ K "is_step" j8 f8)
  (d9:aZ K "step_of" j9 f9)
  (d10:aZ K "meets" mP f10)
  (d11:aZ K "touches" fI f11)
  (d12:aZ K "packed" kb f12)
  (d13:aZ K "beats_told" kc f13)
  (d14:aZ K "chain_of" jc f14)
  (d15:aZ K "first_that_meets" kE f15)
  (d16:aZ K "are_rising" fU f16)
  (d17:aZ K "is_packing" ig f17)
  (d18:aZ K "keeps_order" nM f18)
  (d19:aZ K "is_chain" fV f19)
  (d20:aZ K "_law_cell" rD f20)
  (d21:aZ K "_law_stream" ka f21)
  (d22:aZ K "_law_take" rE f22)
  (d23:aZ K "_law_source" iB f23)
  (d24:aZ K "_law_sel" rF f24)
  (d25:aZ K "_law_step" mO f25)
  (d26:aZ K "_law_steps" ke f26)
  (d27:aZ K "_law_objects" dA f27)
  (d28:aZ K "_law_touched" eJ f28)
  (d29:aZ K "_law_meet" iC f29)
  (d30:aZ K "_law_numbers" gK f30)
  (d31:aZ K "_law_is_packing" dg f31)
  (d32:aZ K "_law_is_chain" eU f32)
  (d33:aZ K "_law_late" fq f33)
  (d34:aZ K "_law_bent" nN f34)
  (d35:aZ K "_law_kept" jd f35)
  (d36:aZ K "_law_right" ii f36)
  (d37:aZ K "_law_chain" fX f37)
  (d38:aZ K "law" lu f38)
  (C0:CK K "Get" c0 i0 ["to","sel"] uS oS t0 fT fR fW) (I0:gX K "__init__" "Get.__init__" zr i0)
  (C1:CK K "Ask" c1 i1 ["to","sel"] uS oS t1 fT fR fW) (I1:gX K "__init__" "Ask.__init__" zu i1)
  (C2:CK K "Cell" c2 i2 ["to","source"] uS o2 t2 fT fR fW) (I2:gX K "__init__" "Cell.__init__" zw i2)
  (C3:CK K "Two" c3 i3 ["to","op","one","other"] u3 o3 t3 fT fR fW) (I3:gX K "__init__" "Two.__init__" zy i3)
  (C4:CK K "Put" c4 i4 ["sel","source"] uS o4 tS fT fR fW) (I4:gX K "__init__" "Put.__init__" zB i4)
  (C5:CK K "Tell" c5 i5 ["sel","source"] uS o5 tS fT fR fW) (I5:gX K "__init__" "Tell.__init__" zD i5)
  (C6:CK K "Store" c6 i6 ["at","source"] uS o6 tS fT fR fW) (I6:gX K "__init__" "Store.__init__" zF i6)
  (mtS:gX K "targets" "Step.targets" vY tS)
  (mt0:gX K "targets" "Get.targets" vZ t0)
  (mt1:gX K "targets" "Ask.targets" wc t1)
  (mt2:gX K "targets" "Cell.targets" we t2)
  (mt3:gX K "targets" "Two.targets" wg t3)
  (moS:gX K "sources" "Step.sources" wk oS)
  (mo2:gX K "sources" "Cell.sources" wl o2)
  (mo4:gX K "sources" "Put.sources" wn o4)
  (mo5:gX K "sources" "Tell.sources" wq o5)
  (mo3:gX K "sources" "Two.sources" wu o3)
  (mo6:gX K "sources" "Store.sources" ww o6)
  (muS:gX K "uses_way" "Step.uses_way" wz uS)
  (mu3:gX K "uses_way" "Two.uses_way" wB u3)
  (mT:gX K "touched" "Step.touched" eA fT) (mR:gX K "reads" "Step.reads" kh fR) (mW:gX K "writes" "Step.writes" kj fW)
  (n1:PySem.W.nsIn K mainGlobals "HIGHEST_INNER"=some (some (.int 7 k1))) (n2:PySem.W.nsIn K mainGlobals "HIGHEST_WORD"=some (some (.int 16777215 k2))) (n3:PySem.W.nsIn K mainGlobals "HIGHEST_FIELD"=some (some (.int 2 k3))) (n4:PySem.W.nsIn K mainGlobals "HIGHEST_SELECTED"=some (some (.int 3 k4)))
  (aOps:PySem.W.nsIn K mainGlobals "OPS"=some (some (.ref aO))) (dO:hZ w K aO [("+",.ref e1),("-",.ref e2),("&",.ref e3),("|",.ref e4),("^",.ref e5),("<<",.ref e6),(">>",.ref e7),("<",.ref e8),("=",.ref e9)]) (lo:(aO == sysModules)=false)
  (z1:PySem.W.nsIn K mainGlobals "len"=some none)
  (z2:PySem.W.nsIn K mainGlobals "int"=some none)
  (z3:PySem.W.nsIn K mainGlobals "max"=some none)
  (z4:PySem.W.nsIn K mainGlobals "min"=some none)
  (z5:PySem.W.nsIn K mainGlobals "range"=some none)
  (z6:PySem.W.nsIn K mainGlobals "isinstance"=some none)
  (z7:PySem.W.nsIn K mainGlobals "list"=some none)
  (z8:PySem.W.nsIn K mainGlobals "str"=some none)
  (z9:PySem.W.nsIn K mainGlobals "bool"=some none)
  (z10:PySem.W.nsIn K mainGlobals "tuple"=some none)
  (z11:PySem.W.nsIn K mainGlobals "all"=some none)
  (z12:PySem.W.nsIn K mainGlobals "sorted"=some none)
  (z13:PySem.W.nsIn K mainGlobals "set"=some none)
  (z14:PySem.W.nsIn K mainGlobals "any"=some none)
  (z15:PySem.W.nsIn K mainGlobals "enumerate"=some none)
  (z16:PySem.W.nsIn K mainGlobals "reversed"=some none)
  (z17:PySem.W.nsIn K mainGlobals "zip"=some none) :
  ∃ fd:FuncData,(∀ (s:Shared) (v:Value),BindsTo s fd ⟨[v],[]⟩ [("_law_script",v)])/\∀ base:Heap,K.In base->base.Ns mainGlobals mg->aT l.prog w K mg base bT 9 fa fd ["_law_script"] (tG K):=by
 have B:Bl mg:=⟨Bk X G z1,Bk X G z2,Bk X G z3,Bk X G z4,Bk X G z5,Bk X G z6,Bk X G z7,Bk X G z8,Bk X G z9,Bk X G z10,Bk X G z11⟩;have B2:rW mg:=⟨Bk X G z12,Bk X G z13,Bk X G z14,Bk X G z15,Bk X G z16⟩;have hzip:mg "zip"=none:=Bk X G z17;have fsv:∃ fs:Str->V,xm K mg w aO k1 k2 k3 k4 fs:=⟨fun x=>(([("+",.ref e1),("-",.ref e2),("&",.ref e3),("|",.ref e4),("^",.ref e5),("<<",.ref e6),(">>",.ref e7),("<",.ref e8),("=",.ref e9)]:List (Str×V)).lookup x).getD .non,BK X G n1,BK X G n2,BK X G n3,BK X G n4,BK X G aOps,dO,lo⟩;obtain ⟨fs,Z⟩:=fsv;have T:Ct K mg (jT c0 c1 c2 c3 c4 c5 c6) (jT i0 i1 i2 i3 i4 i5 i6):=⟨tJ C0.cls C1.cls C2.cls C3.cls C4.cls C5.cls C6.cls,tJ C0.na.get C1.na.get C2.na.get C3.na.get C4.na.get C5.na.get C6.na.get,tJ C0.mk_ C1.mk_ C2.mk_ C3.mk_ C4.mk_ C5.mk_ C6.mk_,tJ (BK X G C0.ns) (BK X G C1.ns) (BK X G C2.ns) (BK X G C3.ns) (BK X G C4.ns) (BK X G C5.ns) (BK X G C6.ns)⟩;obtain ⟨a14,fd,F⟩:=d38;have e:=hfa.symm.trans (BK X G a14);cases e;obtain ⟨oc,od,kV,doc,pm,an,Cr,ct,osl,rfl,lk,hcd⟩:=id F.ex;refine ⟨PySem.W.fnOf "law" "law" (cU lu) (ck lu) (aj lu) .none kV doc pm an Cr ct,fun s v=>.of_eq rfl,fun base _ _=>?_⟩;have U:zH l.prog w K mg base (jT c0 c1 c2 c3 c4 c5 c6):=⟨tJ ⟨[0,1,2,4,5,6],zd,aR C0.uw_ muS (by walk_at "1") (fun fd F=>gz F T)⟩ ⟨[0,1,2,4,5,6],zd,aR C1.uw_ muS (by walk_at "1") (fun fd F=>gz F T)⟩ ⟨[0,1,2,4,5,6],zd,aR C2.uw_ muS (by walk_at "1") (fun fd F=>gz F T)⟩ ⟨[3],zd,aR C3.uw_ mu3 (by walk_at "1") (fun fd F=>wC F T)⟩ ⟨[0,1,2,4,5,6],zd,aR C4.uw_ muS (by walk_at "1") (fun fd F=>gz F T)⟩ ⟨[0,1,2,4,5,6],zd,aR C5.uw_ muS (by walk_at "1") (fun fd F=>gz F T)⟩ ⟨[0,1,2,4,5,6],zd,aR C6.uw_ muS (by walk_at "1") (fun fd F=>gz F T)⟩,
  tJ ⟨[0,1],zd,aR C0.so_ moS (by walk_at "1") (fun fd F=>rV F T)⟩ ⟨[0,1],zd,aR C1.so_ moS (by walk_at "1") (fun fd F=>rV F T)⟩ ⟨[2],zd,aR C2.so_ mo2 (by walk_at "1") (fun fd F=>wm F T)⟩ ⟨[3],zd,aR C3.so_ mo3 (by walk_at "1") (fun fd F=>wv F T)⟩ ⟨[4],zd,aR C4.so_ mo4 (by walk_at "1") (fun fd F=>wo F T)⟩ ⟨[5],zd,aR C5.so_ mo5 (by walk_at "1") (fun fd F=>wt F T)⟩ ⟨[6],zd,aR C6.so_ mo6 (by walk_at "1") (fun fd F=>wx F T)⟩,
  tJ ⟨[0],zd,aR C0.tg_ mt0 (by walk_at "1") (fun fd F=>v0 F T)⟩ ⟨[1],zd,aR C1.tg_ mt1 (by walk_at "1") (fun fd F=>wd F T)⟩ ⟨[2],zd,aR C2.tg_ mt2 (by walk_at "1") (fun fd F=>wf F T)⟩ ⟨[3],zd,aR C3.tg_ mt3 (by walk_at "1") (fun fd F=>wj F T)⟩ ⟨[4,5,6],zd,aR C4.tg_ mtS (by walk_at "1") (fun fd F=>mV F T)⟩ ⟨[4,5,6],zd,aR C5.tg_ mtS (by walk_at "1") (fun fd F=>mV F T)⟩ ⟨[4,5,6],zd,aR C6.tg_ mtS (by walk_at "1") (fun fd F=>mV F T)⟩⟩
 have U2:wG l.prog w K mg base (jT c0 c1 c2 c3 c4 c5 c6):=⟨U,tJ (aR C0.to_ mT (by walk_at "2") (fun fd F=>cC F T B2 U)) (aR C1.to_ mT (by walk_at "2") (fun fd F=>cC F T B2 U)) (aR C2.to_ mT (by walk_at "2") (fun fd F=>cC F T B2 U)) (aR C3.to_ mT (by walk_at "2") (fun fd F=>cC F T B2 U)) (aR C4.to_ mT (by walk_at "2") (fun fd F=>cC F T B2 U)) (aR C5.to_ mT (by walk_at "2") (fun fd F=>cC F T B2 U)) (aR C6.to_ mT (by walk_at "2") (fun fd F=>cC F T B2 U))⟩;have U3:wH l.prog w K mg base (jT c0 c1 c2 c3 c4 c5 c6):=⟨tJ (aR C0.rd_ mR (by walk_at "1") (fun fd F=>de F T U2)) (aR C1.rd_ mR (by walk_at "1") (fun fd F=>de F T U2)) (aR C2.rd_ mR (by walk_at "1") (fun fd F=>de F T U2)) (aR C3.rd_ mR (by walk_at "1") (fun fd F=>de F T U2)) (aR C4.rd_ mR (by walk_at "1") (fun fd F=>de F T U2)) (aR C5.rd_ mR (by walk_at "1") (fun fd F=>de F T U2)) (aR C6.rd_ mR (by walk_at "1") (fun fd F=>de F T U2)),tJ (aR C0.wr_ mW (by walk_at "1") (fun fd F=>cP F T U2)) (aR C1.wr_ mW (by walk_at "1") (fun fd F=>cP F T U2)) (aR C2.wr_ mW (by walk_at "1") (fun fd F=>cP F T U2)) (aR C3.wr_ mW (by walk_at "1") (fun fd F=>cP F T U2)) (aR C4.wr_ mW (by walk_at "1") (fun fd F=>cP F T U2)) (aR C5.wr_ mW (by walk_at "1") (fun fd F=>cP F T U2)) (aR C6.wr_ mW (by walk_at "1") (fun fd F=>cP F T U2))⟩;have WH:=aX (P:=l.prog) (w:=w) (base:=base) X G d0 (by walk_at "1") (fun fd F=>rK F B);have WI:=aX (P:=l.prog) (w:=w) (base:=base) X G d1 (by walk_at "3") (fun fd F=>pN F WH);have OP:=aX (P:=l.prog) (w:=w) (base:=base) X G d2 (by walk_at "0") (fun fd F=>vU F B Z);have HD:=aX (P:=l.prog) (w:=w) (base:=base) X G d3 (by walk_at "3") (fun fd F=>pO F B);have IN:=aX (P:=l.prog) (w:=w) (base:=base) X G d4 (by walk_at "1") (fun fd F=>rM F Z WI);have FI:=aX (P:=l.prog) (w:=w) (base:=base) X G d5 (by walk_at "1") (fun fd F=>rO F Z WI);have SE:=aX (P:=l.prog) (w:=w) (base:=base) X G d6 (by walk_at "1") (fun fd F=>vV F Z WI HD FI);have SO:=aX (P:=l.prog) (w:=w) (base:=base) X G d7 (by walk_at "1") (fun fd F=>pP F Z WI HD FI IN);have IS:=aX (P:=l.prog) (w:=w) (base:=base) X G d8 (by walk_at "1") (fun fd F=>pQ F HD IN SE SO OP);have J0:=fB (P:=l.prog) (w:=w) (mg:=mg) (base:=base) I0 (by walk_at "3") (fun fd F=>xO F T);have J1:=fB (P:=l.prog) (w:=w) (mg:=mg) (base:=base) I1 (by walk_at "3") (fun fd F=>xP F T);have J2:=fB (P:=l.prog) (w:=w) (mg:=mg) (base:=base) I2 (by walk_at "3") (fun fd F=>xQ F T);have J3:=fB (P:=l.prog) (w:=w) (mg:=mg) (base:=base) I3 (by walk_at "5") (fun fd F=>xR F T);have J4:=fB (P:=l.prog) (w:=w) (mg:=mg) (base:=base) I4 (by walk_at "3") (fun fd F=>xS F T);have J5:=fB (P:=l.prog) (w:=w) (mg:=mg) (base:=base) I5 (by walk_at "3") (fun fd F=>xT F T);have J6:=fB (P:=l.prog) (w:=w) (mg:=mg) (base:=base) I6 (by walk_at "3") (fun fd F=>xU F T);have SF:=aX (P:=l.prog) (w:=w) (base:=base) X G d9 (by walk_at "1") (fun fd F=>pR F T IS J0 J1 J2 J3 J4 J5 J6);have TC:=aX (P:=l.prog) (w:=w) (base:=base) X G d11 (by walk_at "2") (fun fd F=>mY F T B2 U3);have ME:=aX (P:=l.prog) (w:=w) (base:=base) X G d10 (by walk_at "2") (fun fd F=>rZ F T U3 TC);have BT:=aX (P:=l.prog) (w:=w) (base:=base) X G d13 (by walk_at "1") (fun fd F=>sw F B B2 ME);have PK:=aX (P:=l.prog) (w:=w) (base:=base) X G d12 (by walk_at "1") (fun fd F=>qe F B B2 BT);have CL:=aX (P:=l.prog) (w:=w) (base:=base) X G d20 (by walk_at "2") (fun fd F=>uh F B);have ST:=aX (P:=l.prog) (w:=w) (base:=base) X G d21 (by walk_at "1") (fun fd F=>pM F B);have TK1:=aX (P:=l.prog) (w:=w) (base:=base) X G d22 (by walk_at "2") (fun fd F=>ui F);have LSO:=aX (P:=l.prog) (w:=w) (base:=base) X G d23 (by walk_at "2") (fun fd F=>nj F TK1);have LSE:=aX (P:=l.prog) (w:=w) (base:=base) X G d24 (by walk_at "1") (fun fd F=>ur F TK1);have LST:=aX (P:=l.prog) (w:=w) (base:=base) X G d25 (by walk_at "3") (fun fd F=>r8 F TK1 LSO LSE);have LSS:=aX (P:=l.prog) (w:=w) (base:=base) X G d26 (by walk_at "2") (fun fd F=>qf F B TK1 LST);have OB:=aX (P:=l.prog) (w:=w) (base:=base) X G d27 (by walk_at "2") (fun fd F=>uA F TK1 SF);have LT:=aX (P:=l.prog) (w:=w) (base:=base) X G d28 (by walk_at "1") (fun fd F=>lH F B);have LM:=aX (P:=l.prog) (w:=w) (base:=base) X G d29 (by walk_at "2") (fun fd F=>si F LT);have WHT:=aX (P:=l.prog) (w:=w) (base:=base) X G d0 (by walk_at "1") (fun fd F=>qu F B);have WIT:=aX (P:=l.prog) (w:=w) (base:=base) X G d1 (by walk_at "3") (fun fd F=>nO F WHT);have RI:=aX (P:=l.prog) (w:=w) (base:=base) X G d16 (by walk_at "2") (fun fd F=>qv (C:=(jT c0 c1 c2 c3 c4 c5 c6)) F B hzip WIT);have IC:=aX (P:=l.prog) (w:=w) (base:=base) X G d19 (by walk_at "2") (fun fd F=>nQ F B hzip RI ME);have KO:=aX (P:=l.prog) (w:=w) (base:=base) X G d18 (by walk_at "2") (fun fd F=>sT F B ME);have IP:=aX (P:=l.prog) (w:=w) (base:=base) X G d17 (by walk_at "2") (fun fd F=>qx F B B2 RI KO);have FI1:=aX (P:=l.prog) (w:=w) (base:=base) X G d15 (by walk_at "3") (fun fd F=>sV F B ME);have CH:=aX (P:=l.prog) (w:=w) (base:=base) X G d14 (by walk_at "1") (fun fd F=>nS F B B2 PK FI1);have NU:=aX (P:=l.prog) (w:=w) (base:=base) X G d30 (by walk_at "2") (fun fd F=>mi F B B2);have LIC:=aX (P:=l.prog) (w:=w) (base:=base) X G d32 (by walk_at "2") (fun fd F=>mj F B NU LM);have LIP:=aX (P:=l.prog) (w:=w) (base:=base) X G d31 (by walk_at "2") (fun fd F=>nV F B B2 NU LM);have LA:=aX (P:=l.prog) (w:=w) (base:=base) X G d33 (by walk_at "2") (fun fd F=>tm F B B2 LM);have KE0:Fn l.prog w K mg base "_law_kept" 0 ["_law_thing"] (yQ 0):=aX X G d35 (by walk_at "1") (fun fd F=>uW);have KE1:=aX (P:=l.prog) (w:=w) (base:=base) X G d35 (by walk_at "1") (fun fd F=>gc 0 F B KE0);have KE2:=aX (P:=l.prog) (w:=w) (base:=base) X G d35 (by walk_at "1") (fun fd F=>gc 1 F B KE1);have KE3:=aX (P:=l.prog) (w:=w) (base:=base) X G d35 (by walk_at "1") (fun fd F=>gc 2 F B KE2);have KE4:=aX (P:=l.prog) (w:=w) (base:=base) X G d35 (by walk_at "1") (fun fd F=>gc 3 F B KE3);have LBE:=aX (P:=l.prog) (w:=w) (base:=base) X G d34 (by walk_at "2") (fun fd F=>tz F B B2 TK1);have LCH:=aX (P:=l.prog) (w:=w) (base:=base) X G d37 (by walk_at "3") (fun fd F=>qB F B TK1);have LRI:=aX (P:=l.prog) (w:=w) (base:=base) X G d36 (by walk_at "4") (fun fd F=>qA F B KE4 LIP LIC IP IC);exact xa F B CL ST TK1 LSS OB PK LA IP LIP LBE LRI LCH CH IC
theorem xg {w:World} {K:ZF} {a f1 f2 f3 f4 f5 f6 f7 f8 f9:Addr} {t1 t2 t3 t4 t5 t6 t7 t8 t9:Tok} {ep:Nat}
  (h:K.lookup a=some { cls:=.type "dict",data:=.dict #[⟨PyData.keyHash w.params "+",.str "+" t1,.ref f1⟩,⟨PyData.keyHash w.params "-",.str "-" t2,.ref f2⟩,⟨PyData.keyHash w.params "&",.str "&" t3,.ref f3⟩,⟨PyData.keyHash w.params "|",.str "|" t4,.ref f4⟩,⟨PyData.keyHash w.params "^",.str "^" t5,.ref f5⟩,
   ⟨PyData.keyHash w.params "<<",.str "<<" t6,.ref f6⟩,⟨PyData.keyHash w.params ">>",.str ">>" t7,.ref f7⟩,⟨PyData.keyHash w.params "<",.str "<" t8,.ref f8⟩,⟨PyData.keyHash w.params "=",.str "=" t9,.ref f9⟩] ep }) :
  hZ w K a [("+",.ref f1),("-",.ref f2),("&",.ref f3),("|",.ref f4),("^",.ref f5),("<<",.ref f6),(">>",.ref f7),("<",.ref f8),("=",.ref f9)]:=
 ⟨_,ep,h,.cons ⟨rfl,⟨_,rfl⟩,rfl⟩ (.cons ⟨rfl,⟨_,rfl⟩,rfl⟩ (.cons ⟨rfl,⟨_,rfl⟩,rfl⟩ (.cons ⟨rfl,⟨_,rfl⟩,rfl⟩ (.cons ⟨rfl,⟨_,rfl⟩,rfl⟩ (.cons ⟨rfl,⟨_,rfl⟩,rfl⟩ (.cons ⟨rfl,⟨_,rfl⟩,rfl⟩ (.cons ⟨rfl,⟨_,rfl⟩,rfl⟩ (.cons ⟨rfl,⟨_,rfl⟩,rfl⟩ .nil))))))))⟩
theorem yL {n:Str} {c i:Addr} {fl:List Str} {uw so tg to rd wr:Addr} (ns:PySem.W.nsIn K mainGlobals n=some (some (.ref c))) (g1:PySem.W.plainGet K c Str.empty=true) (g2:PySem.W.hasDictIn K c=true) (g3:PySem.W.plainOver K c=true)
  (g4:PySem.W.findIn K (.ref c) "__setattr__"=some (some (.builtin "object.__setattr__"))) (m1:PySem.W.makesIn K c=true) (m2:PySem.W.findIn K (.ref c) "__init__"=some (some (.ref i))) (m3:PySem.W.isFn K (.ref i)=true) (m4:PySem.W.keepIn K (.ref c)=true)
  (h1:PySem.W.findIn K (.ref c) "uses_way"=some (some (.ref uw))) (h2:PySem.W.findIn K (.ref c) "sources"=some (some (.ref so))) (h3:PySem.W.findIn K (.ref c) "targets"=some (some (.ref tg))) (h4:PySem.W.findIn K (.ref c) "touched"=some (some (.ref to))) (h5:PySem.W.findIn K (.ref c) "reads"=some (some (.ref rd))) (h6:PySem.W.findIn K (.ref c) "writes"=some (some (.ref wr))) (na:Ei K c fl):CK K n c i fl uw so tg to rd wr:=
 ⟨ns,⟨g1,g2,g3,g4⟩,na,⟨m1,m2,m3,m4⟩,h1,h2,h3,h4,h5,h6⟩
variable {a b:Str}
theorem AI (x:PySem.W.findIn K (.ref c) a=some none) (y:PySem.W.findIn K (.ref c) b=some none):Ei K c [a,b]:=⟨x,y,trivial⟩
theorem AJ {a b d e:Str} (x:PySem.W.findIn K (.ref c) a=some none) (y:PySem.W.findIn K (.ref c) b=some none) (z:PySem.W.findIn K (.ref c) d=some none) (u:PySem.W.findIn K (.ref c) e=some none):Ei K c [a,b,d,e]:=⟨x,y,z,u,trivial⟩
end L3
namespace PySem.W.Fast
def tw1556449946923583610:=0
def tw14738760216331392536:=0
def tw9168543249074952270:=0
def tw5096673010329468117:=0
def tw17023426850649971893:=0
def tw13417077622724787129:=0
def tw2662293872712230899:=0
def tw17969624213848015175:=0
def tw12782581468396824872:=0
def tw5406123236497364528:=0
def tw17059047656853725104:=0
def tw7379043093605231587:=0
def tw8657711684235255268:=0
def tw11786600758143928258:=0
def tw3413425470039200463:=0
def tw2455315048818798050:=0
def tw2743053297761806057:=0
def tw11627804501284361212:=0
def tw2929848440544276995:=0
def tw6579486900129708049:=0
def tw17615548138913678976:=0
def tw3303263271043342508:=0
def tw14142121873081771629:=0
def tw4025739227340604592:=0
def tw1166669173427642699:=0
def tw10286897360884802044:=0
def tw2307110364477942065:=0
def tw15770881103434513054:=0
def tw10103250544936201251:=0
def tw13116899918892788640:=0
def tw11984092537421934415:=0
def tw11506346815662529559:=0
def tw14210980669403586768:=0
def tw14717750496743320371:=0
def tw10556079043955163695:=0
def tw14294811893793429728:=0
def tw16606760240896032677:=0
def tw13365614507368678056:=0
def tw18284210681919391579:=0
def tw13328377952168926390:=0
def tw10404803390460502511:=0
def tw6144737603691564192:=0
def tw5000101340945940645:=0
def tw8195680388001776702:=0
def tw8489668720343589524:=0
def tw9029386828682583658:=0
def tw7019275935644765049:=0
def tw3246081078918015627:=0
def tw16730029755119503343:=0
def tw3745768013118626423:=0
def tw11008429955575665377:=0
def tw7999623406863408179:=0
def tw4303531352084710670:=0
def tw7304096382891109829:=0
def tw16226539534380951815:=0
def tw3614115611801555677:=0
def tw18432400040117068527:=0
def tw6403908495166087064:=0
def tw6108694547111385347:=0
def tw15692877870517743513:=0
def tw5415676502399863844:=0
def tw14297394204831010581:=0
def tw10588509961179544888:=0
def tw5396331693958156317:=0
def tw520879398429240279:=0
def tw15655516629591996529:=0
def tw17546999372849051964:=0
def tw15031653174482369257:=0
def tw17786314326536293850:=0
def tw3514852485448152541:=0
def tw2060382988757799593:=0
def tw6361746160456333662:=0
def tw12196484460537295086:=0
def tw1304876872200940456:=0
def tw1060289370778436213:=0
def tw11415141767964329654:=0
def tw8036916848568301561:=0
def tw13719474437685904870:=0
def tw1571174115785858838:=0
def tw2857733579980854141:=0
def tw6558014278128833714:=0
def tw18299663359199968466:=0
def tw10072203598875073344:=0
def tw16378612776093108768:=0
def tw8509446101873293190:=0
def tw14349709232845786422:=0
def tw18075804306606394229:=0
def tw4833441125446419674:=0
def tw6660897731775329021:=0
def tw8816692996305274445:=0
def tw1504928097228465952:=0
def tw3661150301080663362:=0
def tw14524599031469464646:=0
def tw15301077065602769844:=0
def tw10674599949580317335:=0
def tw1728114315124436302:=0
def tw11372668945676151747:=0
def tw12158999816198186836:=0
def tw4600950325486569443:=0
def tw7394193199846642359:=0
def tw13856368359208126794:=0
def tw8487105466470675532:=0
def tw1982757088343832942:=0
def tw2814984939309621051:=0
def tw7700742705457612150:=0
def tw17724485484444124044:=0
def tw4948817855021900356:=0
def tw4330380845357767105:=0
def tw17511068792391114257:=0
def tw3125977363639521985:=0
def tw13775424232023091210:=0
def tw4899095273131976663:=0
def tw11143884126210863851:=0
def tw12772897704347300891:=0
def tw11676422438558552675:=0
def tw12558064311427405995:=0
def tw3807777345798408742:=0
def tw7315766693936734478:=0
def tw10563859630126235083:=0
def tw9742264883773652211:=0
def tw489574712347882325:=0
def tw13679767879900338187:=0
def tw11749636198186278499:=0
def tw6941743848714250684:=0
def tw7449285341305947125:=0
def tw7829508905950240268:=0
def tw14512350850032462140:=0
def tw10296583491471055188:=0
def tw7268284452347055990:=0
def tw18180217154774516758:=0
def tw799961018940628389:=0
def tw4014642444577645606:=0
def tw14118076489497484039:=0
def tw6361230566565248336:=0
def tw5428400934288737379:=0
def tw17295583476890665557:=0
def tw5713164502592632595:=0
def tw4359837947943470777:=0
def tw1586479869957133896:=0
def tw5337724083866129474:=0
def tw14093821511714908587:=0
def tw1417043964307942420:=0
def tw5393212690827334664:=0
def tw5341050213187128558:=0
def tw1122935945559034816:=0
def tw16969350832033852395:=0
def tw3462913042142218315:=0
def tw3147710251767743779:=0
def tw4692246101093507520:=0
def tw11757229395999912699:=0
def tw10988596267916231545:=0
def tw8597975442753407562:=0
def tw3942727869777698827:=0
def tw18213046294872461702:=0
def tw5977726798400210807:=0
def tw3729567232159978607:=0
def tw14650195988178972661:=0
def tw9514762703967386383:=0
def tw16507458766465821561:=0
def tw12882399362095764544:=0
def tw8017941336677742670:=0
def tw2227726677545394449:=0
def tw15504179047440865587:=0
def tw4147018928649437817:=0
def tw7067017754168835300:=0
def tw15999673718418752482:=0
def tw15858348864035832471:=0
def tw9673341780108690848:=0
def tw4614930811592544106:=0
def tw12937398515345148992:=0
def tw4587804016680013473:=0
def tw5595622007085765192:=0
def tw4815900104648081268:=0
def tw18440170274468355320:=0
def tw5428511050494604042:=0
def tw289036239357673259:=0
def tw10743774248012871170:=0
def tw6906359287776899057:=0
def tw16503323588448801837:=0
def tw2181234295212785930:=0
def tw12685409547444460080:=0
def tw3512652796030386669:=0
def tw13169803860034035919:=0
def tw1121979339763943418:=0
def tw3267108657542116682:=0
def tw5526460467910381319:=0
def tw16976673772456459501:=0
def tw7128903827824631094:=0
def tw8253528949976970200:=0
def tw6400319767036242528:=0
def tw1714274289763968251:=0
def tw896978829885548607:=0
def tw9836999137668315356:=0
def tw4997307266698363250:=0
def tw17792250374009514115:=0
def tw4574071120403120993:=0
def tw13834833320052223848:=0
def tw4716034132977442714:=0
def tw2908792636749169954:=0
def tw10303040628544669707:=0
def tw9510642742300876605:=0
def tw17309411237405059591:=0
def tw16527530661529039784:=0
def tw4731548080041771734:=0
def tw3156455560487111977:=0
def tw12768539961717969662:=0
def tw11871875314972996618:=0
def tw9277800350956504863:=0
def tw12548876749060234321:=0
def tw2175291404920209829:=0
def tw17158749119404441733:=0
def tw1564455683450454659:=0
def tw839434930602772418:=0
def tw6349760604525607653:=0
def tw10012377165125798578:=0
def tw3692523454552588940:=0
def tw5438805675492529343:=0
def tw6580189375328405176:=0
def tw2587122500249326559:=0
def tw15333549617255210815:=0
def tw13279659094599407776:=0
def tw13254989028912580912:=0
def tw9567130359324906556:=0
def tw5529280054859095812:=0
def tw2024766481796240754:=0
def tw3874007848514896842:=0
def tw17657392984144787237:=0
def tw14214353783016744133:=0
def tw290112414062764319:=0
def tw2021422126252477017:=0
def tw12958561780538598635:=0
def tw3758108508408121811:=0
def tw16169266897411800323:=0
def tw16893655435552016819:=0
def tw18063760374882407872:=0
def tw16796527286471752054:=0
def tw15139066144381111637:=0
def tw13134265995923052573:=0
def tw10254401858088037719:=0
def tw972084498350276429:=0
def tw13841124895332766700:=0
def tw16980946329048429216:=0
def tw8059794901128936323:=0
def tw18292748188789572555:=0
def tw17518845622026870910:=0
def tw8345873755445126565:=0
def tw16822470055835869711:=0
def tw16386523370106747549:=0
def tw10504066289736450138:=0
def tw6004420372854606649:=0
def tw3446928487024849309:=0
def tw17863877817631459002:=0
def tw4382800542261745957:=0
def tw5778950309426287691:=0
def tw3241715724539887778:=0
def tw2558162742536141250:=0
def tw2805558406007191291:=0
def tw805777454885303387:=0
def tw1671723578514555251:=0
def tw2525891256894324631:=0
def tw16265321042926246448:=0
def tw2922271147471025389:=0
def tw4541723933493492216:=0
def tw15451487572272239500:=0
def tw12285398773766734731:=0
def tw12364869730687974137:=0
def tw14178428319402954446:=0
def tw13301010889554270450:=0
def tw1132703093323970910:=0
def tw1337230887163587987:=0
def tw13927937743126287443:=0
def tw3971502928513172790:=0
def tw17163950695640283620:=0
def tw3730865207430423053:=0
def tw17097839115218299124:=0
def tw3966412799351274594:=0
def tw16292353853188977798:=0
def tw9670870013577327766:=0
def tw2376502473498610501:=0
def tw5865514223765007567:=0
def tw10268050744742259607:=0
def tw13142878476133299036:=0
def tw14314517691044844756:=0
def tw522848516791272901:=0
def tw18011119972093993730:=0
def tw6376758578508904056:=0
def tw6029822386719601492:=0
def tw17746227961905033519:=0
def tw17377403431388377731:=0
def tw1691698541622016681:=0
def tw12121179723720836960:=0
def tw6920999867056877324:=0
def tw1899841464059438947:=0
def tw990047355995315304:=0
def tw8894949337906207146:=0
def tw3472484276302494259:=0
def tw2779818256038865222:=0
def tw16409555022682059223:=0
def tw12218220834886135566:=0
def tw2627753098625763392:=0
def tw6495022526688655700:=0
def tw4599546082937486743:=0
def tw3367324553873808632:=0
def tw2972305207712612793:=0
def tw18345018024098710953:=0
def tw15203164403108912800:=0
def tw14996208926849309909:=0
def tw15527355747807610969:=0
def tw8833494748759053854:=0
def tw743828672535360843:=0
def tw4318639698648530360:=0
def tw2418799883057910844:=0
def tw18282792488788538579:=0
def tw13492500814021532116:=0
def tw6230067698943102221:=0
def tw1483172510961816042:=0
def tw8640266027557821121:=0
def tw6114613066007403254:=0
def tw15277236436523498140:=0
def tw15149432847209142217:=0
def tw12873454658984874990:=0
def tw7364460424239078872:=0
def tw4049634641724045945:=0
def tw15721003964177392793:=0
def tw7292525299039728807:=0
def tw503739665293626022:=0
def tw18303507338789733009:=0
def tw11394607282124763701:=0
def tw9588501959690141859:=0
def tw9284707831940933366:=0
def tw18408489709993989048:=0
def tw12849596710726282179:=0
def tw5831869187618361277:=0
def tw5966538157106821327:=0
def tw5111682968879804443:=0
def tw4816793622866104843:=0
def tw10792613606193017074:=0
def tw10255391785423509326:=0
def tw1545038102983556177:=0
def tw15503132850650557519:=0
def tw14248235016740606343:=0
def tw6956785762859217335:=0
def tw15592895919612457872:=0
def tw17814641893068239945:=0
def tw16366978236163584422:=0
def tw5147148411684461366:=0
def tw1962503200301721776:=0
def tw11262045737718038933:=0
def tw4430029277427337331:=0
def tw16777674902090090542:=0
def tw8297172033183655322:=0
def tw3515118460418428106:=0
def tw9687314835278045204:=0
def tw4110597097653458761:=0
def tw16995171586373926160:=0
def tw14002714959500781087:=0
def tw6893000103563704201:=0
def tw6426186257030361055:=0
def tw6053128763591360655:=0
def tw9019075189790384723:=0
def tw2686107071584169347:=0
def tw2601810890080231628:=0
def tw10750289405673750783:=0
def tw17266322422276906894:=0
def tw14211599241581783615:=0
def tw7798988430189083634:=0
def tw13136186126608108219:=0
def tw12907837360697134490:=0
def tw9738023201606355407:=0
def tw3098790943960436209:=0
def tw917480395276958321:=0
def tw6067303378254921803:=0
def tw160777452248277312:=0
def tw7734352909287010778:=0
def tw2705265092658171386:=0
def tw2190405896780695253:=0
def tw9133627790188319505:=0
def tw14229936457638201505:=0
def tw5788940728938731616:=0
def tw10570378489822786215:=0
def tw16595000276574264948:=0
def tw15576820266036652870:=0
def tw8025644150026781158:=0
def tw2520500232585192639:=0
def tw6776074244086593762:=0
def tw6603919217004376121:=0
def tw11614477673108806536:=0
def tw8739643744717335314:=0
def tw6616114094330196640:=0
def tw13102395921182898730:=0
def tw13923655907742565582:=0
def tw7584009062724632076:=0
def tw14981339746271875579:=0
def tw14420595102762054139:=0
def tw13507253886778511202:=0
def tw17939506286757934205:=0
def tw10869565800519697278:=0
def tw1021561852463890014:=0
def tw16935835548261555655:=0
def tw4445785472213054268:=0
def tw12370462664108241764:=0
def tw12285489860016404528:=0
def tw12124915925594065342:=0
def tw10413289158918657730:=0
def tw852663500092098946:=0
def tw4285187745025706558:=0
def tw3214962100149817641:=0
def tw17612440519274286013:=0
def tw8429471537945910658:=0
def tw3703233506188446499:=0
def tw5910374295979117986:=0
def tw16210837724700128529:=0
def tw1165082086241839934:=0
def tw14664610241809682794:=0
def tw8411477318025853359:=0
def tw12420784867662596801:=0
def tw3492465874667890404:=0
def tw17659585698250369127:=0
def tw15420376526390830482:=0
def tw15195637435999147073:=0
def tw1268167170539905388:=0
def tw7002628486738889488:=0
def tw8908047446387794943:=0
def tw12111119066974559028:=0
def tw5520409478338403712:=0
def tw8180972793435733104:=0
def tw7711739926014007663:=0
def tw3146457397110822698:=0
def tw17987773477933654552:=0
def tw8832155593640170754:=0
def tw7101254520212118979:=0
def tw17524299631743522616:=0
def tw13832372589792773120:=0
def tw8451706272950639574:=0
def tw8620610129776939017:=0
def tw872724761956716297:=0
def tw16554233287294370109:=0
def tw5116283868176027968:=0
def tw5263124738643851734:=0
def tw906855249833243915:=0
def tw8766738782056087959:=0
def tw7028698889926113385:=0
def tw2078596900447210383:=0
def tw17144465064316012045:=0
def tw16295950262980524390:=0
def tw14928198249247469676:=0
def tw11556374850755680790:=0
def tw3986389377735411968:=0
def tw317353234516027911:=0
def tw2532952855416889120:=0
def tw215424287079886065:=0
def tw16810479660956296524:=0
def tw15302918387337267486:=0
def tw14688944393941440014:=0
def tw14538478987599037282:=0
def tw11074551803647181634:=0
def tw968714188312736165:=0
def tw8487947379968686858:=0
def tw17079605235630501996:=0
def tw16991033927973363721:=0
def tw14728257507333580685:=0
def tw1488633917314843364:=0
def tw13815495061605757356:=0
def tw7865423220654777274:=0
def tw12294864066065604189:=0
def tw816007772192646040:=0
def tw820379222231063976:=0
def tw4136607946022765640:=0
def tw2175328347034446241:=0
def tw204043951191567719:=0
def tw16977048492801358099:=0
def tw14247879572044945513:=0
def tw1318372865427706178:=0
def tw13002455528946283957:=0
def tw15848624319516914322:=0
def tw1027467467780548642:=0
def tw7385637971313877169:=0
def tw7114546452299466178:=0
def tw5434634646417560591:=0
def tw3095373668142588519:=0
def tw14053252756336397099:=0
def tw11081831635203094707:=0
def tw7219674143442734701:=0
def tw4166244985248683690:=0
def tw9603868353633312359:=0
def tw8477658929719802703:=0
def tw164744809448432829:=0
def tw14277296874826862784:=0
def tw8322106474480083739:=0
def tw5276478048220301013:=0
def tw16859672117797643628:=0
def tw430137701174256607:=0
def tw8537566029921054549:=0
def tw9479603457299840638:=0
def tw8647718333201861185:=0
def tw17366969695967516096:=0
def tw1630748236045123369:=0
def tw15397000992522631103:=0
def tw14740307018122865829:=0
def tw14018720846964784618:=0
def tw9774466775617547783:=0
def tw9740197302950108597:=0
def tw9655658788262715896:=0
def tw8077940180445304143:=0
def tw7283982790055581857:=0
def tw7042751927544931086:=0
def tw6901206247557402320:=0
def tw4781271562176069765:=0
def tw4294331242899767769:=0
def tw42339327726538384:=0
def tw40009351376167922:=0
def tw3919773234789865388:=0
def tw3506259703459525826:=0
def tw2726057646483885864:=0
def tw194110841770719082:=0
def tw18399445834321748979:=0
def tw18182933650963802662:=0
def tw17954919945369776146:=0
def tw17076115665550398315:=0
def tw16967693066811947304:=0
def tw16870605271835329903:=0
def tw16115952742240920351:=0
def tw15817924213947550074:=0
def tw1575718441959046197:=0
def tw15610673173550049899:=0
def tw15137362530451060289:=0
def tw14849124230720079438:=0
def tw14508822112792420172:=0
def tw14308432856402856792:=0
def tw13934917518876414007:=0
def tw13132409470361279646:=0
def tw10643226650266614537:=0
def tw1048201485550831185:=0
def tw10306667139415392906:=0
def tw17748880997303334464:=0
def tw14567089922629522300:=0
def tw7206633201220271273:=0
def tw5382807569427205917:=0
def tw4647297137678939220:=0
def tw2182355856260350868:=0
def tw17465165145675366848:=0
def tw16261026780117625932:=0
def tw15706326455388826578:=0
def tw14714428921674681543:=0
def tw14504329057439159159:=0
def tw12131659189561324865:=0
def tw10454801533281067846:=0
def tw553555069316579483:=0
def tw9877575166612257760:=0
def tw7297802794938625705:=0
def tw5824006383359954384:=0
def tw17742793676308233094:=0
def tw16866510144691816068:=0
def tw15631160303394581566:=0
def tw14440559043972814800:=0
def tw13647557136961144632:=0
def tw11007057734985228672:=0
def tw10469270637804158458:=0
def tw13258742917934697502:=0
def tw9300305043537804276:=0
def tw8597571672809193696:=0
def tw7100722124189480474:=0
def tw2441555518278378724:=0
def tw16682395543160621450:=0
def tw16110417026855846913:=0
def tw14963980683358030915:=0
def tw13089208330361660829:=0
def tw9413419467026020857:=0
def tw941259827552939715:=0
def tw8885922483887473462:=0
def tw7822285784648216409:=0
def tw5228168327946512574:=0
def tw2009774631227571106:=0
def tw18242214298602959132:=0
def tw16974799365770764829:=0
def tw16656615835424795834:=0
def tw12875597333924402824:=0
def tw998515970663001822:=0
def tw9883136202339168579:=0
def tw9810695394813163985:=0
def tw9748100819285635134:=0
def tw9635981538383329462:=0
def tw9439694642335481216:=0
def tw936502991531878976:=0
def tw9196213000797586876:=0
def tw9173264694380565566:=0
def tw8998031558964105029:=0
def tw8971989733212173512:=0
def tw8936812650641778447:=0
def tw8802884830557586722:=0
def tw8755505089715951404:=0
def tw8731196583959996717:=0
def tw8725112828765652254:=0
def tw8578276877836137738:=0
def tw8543474231052210777:=0
def tw8405174669220113616:=0
def tw8377611165256409970:=0
def tw8061712642630183954:=0
def tw7927843697776799222:=0
def tw7925120455490403495:=0
def tw7691200899199755832:=0
def tw7413893089932392806:=0
def tw7394412473078486536:=0
def tw7317666924820732345:=0
def tw7189819850686438211:=0
def tw7105030460429106183:=0
def tw7062175373862937963:=0
def tw6774007977302553102:=0
def tw6771519790037365773:=0
def tw674076381283655246:=0
def tw6466091025504773694:=0
def tw6410382473929248117:=0
def tw6327738089780087662:=0
def tw6031291217076416402:=0
def tw5980525329160298532:=0
def tw5952289252670501957:=0
def tw5747684547470084833:=0
def tw5570652478067821817:=0
def tw5525063785270167021:=0
def tw5109643857379332222:=0
def tw5095628807376148233:=0
def tw5064089721477771143:=0
def tw4988444280658925105:=0
def tw485615634306774831:=0
def tw4761180765580649038:=0
def tw4688174574048942174:=0
def tw4561256127884624228:=0
def tw4558536461805059573:=0
def tw4525714374856225613:=0
def tw4517023225122317413:=0
def tw4471563377720277826:=0
def tw4444293840683276251:=0
def tw4396506464646667506:=0
def tw4288456792977181140:=0
def tw4261828277650978850:=0
def tw4256378272819399199:=0
def tw4221785511070280510:=0
def tw4083525889193509303:=0
def tw4077869964021441904:=0
def tw4007929435506002124:=0
def tw3804068918599679528:=0
def tw3793709912766462300:=0
def tw3520462956466609281:=0
def tw3466114715660890209:=0
def tw3441306109863317883:=0
def tw3330428705081862126:=0
def tw3325069189657255693:=0
def tw330279515592520471:=0
def tw3280836577450349866:=0
def tw3243302499520209164:=0
def tw3186579785767168056:=0
def tw3107992516806317463:=0
def tw2993499555397118974:=0
def tw2944665944531948737:=0
def tw2931407182019125285:=0
def tw2892878424316963081:=0
def tw2855557193692266351:=0
def tw2753640494707339055:=0
def tw2680549785107365717:=0
def tw2226181924997135378:=0
def tw2151932145215649171:=0
def tw211730309543175724:=0
def tw1970892836246000117:=0
def tw1966496326384457468:=0
def tw1946216820923365749:=0
def tw1864622651193815502:=0
def tw18413216853527516022:=0
def tw18346909125916336653:=0
def tw18335259041827708710:=0
def tw1830940209854650484:=0
def tw18273896095309714151:=0
def tw18226679699634518550:=0
def tw18070686283228303287:=0
def tw18028684473734388437:=0
def tw17992911313674775219:=0
def tw17806315018709435580:=0
def tw17751026539714782390:=0
def tw17718259192770016636:=0
def tw17652460060180051814:=0
def tw17645355716731686236:=0
def tw17501772363569646681:=0
def tw1733264366687975641:=0
def tw17203961258858523646:=0
def tw17193105327286586433:=0
def tw1716079729921448713:=0
def tw17119851188084157607:=0
def tw17020112046729080774:=0
def tw17020102639271772643:=0
def tw17013421700100513236:=0
def tw16995240408593582361:=0
def tw16980450290696319598:=0
def tw16926794923633266131:=0
def tw16916995525233077383:=0
def tw16909778527207472713:=0
def tw16901365239670858907:=0
def tw16889096753187809201:=0
def tw16793579464074732113:=0
def tw16614934710303499408:=0
def tw16605733959157674298:=0
def tw1652868504524044734:=0
def tw1643785516201098958:=0
def tw16417734319250579205:=0
def tw16320261124195892688:=0
def tw16286539072866535833:=0
def tw16265255803485773988:=0
def tw16245099178203554676:=0
def tw1620621429019731252:=0
def tw16017728758388746002:=0
def tw16015770165909760884:=0
def tw15959788654309051143:=0
def tw1584814091722693868:=0
def tw15803304724998038850:=0
def tw15643188442090119377:=0
def tw15605548840358857088:=0
def tw15576081358010219295:=0
def tw15377482225832518725:=0
def tw15372158583372021361:=0
def tw15241535755389753309:=0
def tw1521328585574495420:=0
def tw15174972070028034973:=0
def tw14953562771783073135:=0
def tw14946908592929745321:=0
def tw14940715153025920649:=0
def tw14888873464913012197:=0
def tw14857291715458704630:=0
def tw14789526289535341283:=0
def tw14647882117611066471:=0
def tw14624096310576321033:=0
def tw14604547769303319069:=0
def tw14490443506348423562:=0
def tw14475233184696699602:=0
def tw14309398107465954760:=0
def tw14277436906098934557:=0
def tw14262671843116336824:=0
def tw14258079091036289622:=0
def tw14135748228715622883:=0
def tw13952036368971727604:=0
def tw13706382442980959703:=0
def tw1362173767586239253:=0
def tw13383034551767129941:=0
def tw13336945564947716181:=0
def tw13249631548016833129:=0
def tw13227444232824019648:=0
def tw13172298181059972463:=0
def tw13163058852239094784:=0
def tw13128498574359803623:=0
def tw1309029618185918768:=0
def tw12989207181920492202:=0
def tw12902551685474195502:=0
def tw12666557770805657377:=0
def tw12464540899776834847:=0
def tw12313549965257808864:=0
def tw12169958224619732581:=0
def tw12163955907398718858:=0
def tw12158408419257769701:=0
def tw12082933838101829835:=0
def tw11957016890934929120:=0
def tw11924437341305894390:=0
def tw11899569685525653779:=0
def tw11774292577533372035:=0
def tw11746947858022286727:=0
def tw11695789940412687574:=0
def tw11667393764474537399:=0
def tw11644709286121343512:=0
def tw11641635202495539273:=0
def tw1158740039953244661:=0
def tw11557555788732644055:=0
def tw11458311000660639277:=0
def tw1140474394246470331:=0
def tw11356291141854531460:=0
def tw11298542190186500685:=0
def tw11116653963204781412:=0
def tw11038974045349788369:=0
def tw11019476031812384851:=0
def tw10970712282034923020:=0
def tw10957599026722759262:=0
def tw10908250461227213158:=0
def tw10815409938608786357:=0
def tw10733452102958007185:=0
def tw10658948694938864636:=0
def tw10640493046421392526:=0
def tw10593034264488388769:=0
def tw10369211515066051527:=0
def tw10241518946413992117:=0
def tw10204501706069590385:=0
def tw10200171580080453836:=0
def tw10124118887469397034:=0
def tw10083840577793136638:=0
def tw10050172852592145683:=0
def tw10019729207693879142:=0
end PySem.W.Fast
local macro_rules|`(tactic| walk_at "a")=>`(tactic| (refine' L3.xb ?a ?l ?c ?k;(case a=>k_is);(case l=>k_is);(case c=>k_is);(case k=>k_is)))
local macro_rules|`(tactic| walk_at "d")=>`(tactic| (refine' L3.xc ?l ?c ?k ?n;(case l=>k_is);(case c=>k_is);(case k=>k_is);(case n=>k_is)))
local macro_rules|`(tactic| walk_at "e")=>`(tactic| (refine' L3.yL ?ns ?g1 ?g2 ?g3 ?g4 ?m1 ?m2 ?m3 ?m4 ?h1 ?h2 ?h3 ?h4 ?h5 ?h6 ?na;(case ns=>k_is);(case g1=>k_is);(case g2=>k_is);(case g3=>k_is);(case g4=>k_is);(case m1=>k_is);(case m2=>k_is);(case m3=>k_is);(case m4=>k_is);(case h1=>k_is);(case h2=>k_is);(case h3=>k_is);(case h4=>k_is);(case h5=>k_is);(case h6=>k_is);(case na=>(first|(refine' L3.AI ?x ?y;(case x=>k_is);(case y=>k_is))|(refine' L3.AJ ?x ?y ?z ?u;(case x=>k_is);(case y=>k_is);(case z=>k_is);(case u=>k_is))))))
open PySem PySem.W PyProof.Rows
set_option maxRecDepth 100000 in
set_option maxHeartbeats 0 in
theorem PySem.Challenge.cw_rowsbeneath_k26_packings_and_chains_chec_holds : PySem.Challenge.rw_rowsbeneath_k26_packings_and_chains_chec.Holds := by
 w_on;o_law;k_head;(case hw=>w_witness2)
 k_fill
 refine L2.rk (l:=PySem.Challenge.rw_rowsbeneath_k26_packings_and_chains_chec) (n:=63) (k:=9) (x:="_law_script") (CX:=L2.bT) (sp:=L3.tG) rfl (by decide) rfl ⟨rfl,by decide,by decide⟩ (fun w h Y=>PySem.W.kIn_of Y) ?F (fun _ _ a ns hl _ hS=>⟨a,ns,rfl,hS,hl,fun _=>rfl⟩) (fun _ _ _ _ z=>z);case F=>
  intro w mg fa h KX G hmg;refine' L3.xf KX G hmg ?d0 ?d1 ?d2 ?d3 ?d4 ?d5 ?d6 ?d7 ?d8 ?d9 ?d10 ?d11 ?d12 ?d13 ?d14 ?d15 ?d16 ?d17 ?d18 ?d19 ?d20 ?d21 ?d22 ?d23 ?d24 ?d25 ?d26 ?d27 ?d28 ?d29 ?d30 ?d31 ?d32 ?d33 ?d34 ?d35 ?d36 ?d37 ?d38 ?C0 ?I0 ?C1 ?I1 ?C2 ?I2 ?C3 ?I3 ?C4 ?I4 ?C5 ?I5 ?C6 ?I6 ?mtS ?mt0 ?mt1 ?mt2 ?mt3 ?moS ?mo2 ?mo4 ?mo5 ?mo3 ?mo6 ?muS ?mu3 ?mT ?mR ?mW ?n1 ?n2 ?n3 ?n4 ?aOps ?dO ?lo ?z1 ?z2 ?z3 ?z4 ?z5 ?z6 ?z7 ?z8 ?z9 ?z10 ?z11 ?z12 ?z13 ?z14 ?z15 ?z16 ?z17
  (case d0=>walk_at "a")
  (case d1=>walk_at "a")
  (case d2=>walk_at "a")
  (case d3=>walk_at "a")
  (case d4=>walk_at "a")
  (case d5=>walk_at "a")
  (case d6=>walk_at "a")
  (case d7=>walk_at "a")
  (case d8=>walk_at "a")
  (case d9=>walk_at "a")
  (case d10=>walk_at "a")
  (case d11=>walk_at "a")
  (case d12=>walk_at "a")
  (case d13=>walk_at "a")
  (case d14=>walk_at "a")
  (case d15=>walk_at "a")
  (case d16=>walk_at "a")
  (case d17=>walk_at "a")
  (case d18=>walk_at "a")
  (case d19=>walk_at "a")
  (case d20=>walk_at "a")
  (case d21=>walk_at "a")
  (case d22=>walk_at "a")
  (case d23=>walk_at "a")
  (case d24=>walk_at "a")
  (case d25=>walk_at "a")
  (case d26=>walk_at "a")
  (case d27=>walk_at "a")
  (case d28=>walk_at "a")
  (case d29=>walk_at "a")
  (case d30=>walk_at "a")
  (case d31=>walk_at "a")
  (case d32=>walk_at "a")
  (case d33=>walk_at "a")
  (case d34=>walk_at "a")
  (case d35=>walk_at "a")
  (case d36=>walk_at "a")
  (case d37=>walk_at "a")
  (case d38=>walk_at "a")
  (case C0=>walk_at "e")
  (case C1=>walk_at "e")
  (case C2=>walk_at "e")
  (case C3=>walk_at "e")
  (case C4=>walk_at "e")
  (case C5=>walk_at "e")
  (case C6=>walk_at "e")
  (case I0=>walk_at "d")
  (case I1=>walk_at "d")
  (case I2=>walk_at "d")
  (case I3=>walk_at "d")
  (case I4=>walk_at "d")
  (case I5=>walk_at "d")
  (case I6=>walk_at "d")
  (case mtS=>walk_at "d")
  (case mt0=>walk_at "d")
  (case mt1=>walk_at "d")
  (case mt2=>walk_at "d")
  (case mt3=>walk_at "d")
  (case moS=>walk_at "d")
  (case mo2=>walk_at "d")
  (case mo4=>walk_at "d")
  (case mo5=>walk_at "d")
  (case mo3=>walk_at "d")
  (case mo6=>walk_at "d")
  (case muS=>walk_at "d")
  (case mu3=>walk_at "d")
  (case mT=>walk_at "d")
  (case mR=>walk_at "d")
  (case mW=>walk_at "d")
  (case n1=>k_is)
  (case n2=>k_is)
  (case n3=>k_is)
  (case n4=>k_is)
  (case aOps=>k_is)
  (case dO=>refine' L3.xg ?h;(case h=>k_is))
  (case lo=>rfl)
  (case z1=>k_is)
  (case z2=>k_is)
  (case z3=>k_is)
  (case z4=>k_is)
  (case z5=>k_is)
  (case z6=>k_is)
  (case z7=>k_is)
  (case z8=>k_is)
  (case z9=>k_is)
  (case z10=>k_is)
  (case z11=>k_is)
  (case z12=>k_is)
  (case z13=>k_is)
  (case z14=>k_is)
  (case z15=>k_is)
  (case z16=>k_is)
  (case z17=>k_is)
