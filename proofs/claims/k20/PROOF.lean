import PyProof.Rows.All
import Wide.All
import OpenK.AllK
import Wide.FinOn
import Lean
import PyProof.EqAt
import PyProof.EqKinds
import PyProof.TupleCall
import PySem.Challenge.RW_rowsbeneath_k20_what_fits
set_option Elab.async false
set_option linter.all false
set_option maxRecDepth 100000
set_option maxHeartbeats 0
abbrev ZF:=PySem.W.Frag
section
open PySem PySem.Spec PyProof.Rows
def BJ:=@List.length_map
def BL:=@List.getElem?_eq_some_iff
def BM:=@Heap.get?_push_of_some
def BN:=@List.length_append
def BP:=@Heap.lt_size
def BQ:=@List.mem_cons_self
def BR:=@List.map_append
def BS:=@List.length_cons
def BT:=@Nat.le_refl
def BU:=@PySem.W.mg_of
def BV:=@List.mem_cons_of_mem
def BW:=@List.mem_cons
def BX:=@List.length_take
def BY:=@Bool.false_ne_true
def BZ:=@List.getElem?_eq_getElem
def B0:=@Heap.get?_push_size
def B5:=@Bool.eq_false_iff
def B6:=@List.map_cons
def B7:=@PySem.boot_len
def B8:=@List.size_toArray
def B9:=@Nat.lt_of_lt_of_le
def Ca:=@List.mem_of_getElem?
def Cb:=@List.mem_singleton
def Cd:=@PyProof.Rows.boot_int
def Ce:=@Nat.ne_of_lt
def Cf:=@Option.some.inj
def Cg:=@List.take_length
def Ch:=@List.not_mem_nil
def Ci:=@PySem.W.mg_none_of
def Cj:=@List.take_succ
def Ck:=@List.mem_append_right
def Cm:=@Nat.le_trans
def Cn:=@List.length_nil
def Co:=@List.getElem?_map
def Cp:=@List.mem_append
def Cq:=@List.take_of_length_le
def Cr:=@PySem.F.type_list_append
def Cu:=@List.append_assoc
def Cv:=@List.append_nil
def Cw:=@PySem.F.slot_list_append
def Cy:=@Nat.zero_le
def Cz:=@PySem.F.plainAttrs_list
def CA:=@List.all_eq_true
def CB:=@List.drop_eq_getElem_cons
def CC:=@List.contains_iff_mem
def CD:=@PyProof.Rows.callWith_type1
def CF:=@PySem.W.kia_one
def CG:=@Nat.lt_irrefl
def CH:=@Bool.eq_iff_iff
def CI:=@List.cons_append
def CJ:=@List.length_drop
def CM:=@List.mem_map
def CO:=@Bool.and_eq_true
def CP:=@List.lookup_cons
def CQ:=@PySem.W.callWith_K
def CS:=@List.getElem_mem
def CU:=@List.flatten_cons
def CV:=@Int.toNat_natCast
def CW:=@List.take_append_drop
def CZ:=@List.mem_range
def C7:=@List.map_map
def C8:=@Array.length_toList
def C9:=@List.length_eq_zero_iff
def Da:=@List.filterMap_cons
def Db:=@PySem.mem_of_lookup
def Dc:=@Heap.size_push
def Dd:=@List.find?_cons
def De:=@List.mem_append_left
def Df:=@List.all_map
def Dg:=@List.nodup_cons
def Dh:=@List.of_mem_zip
def Di:=@List.any_cons
def Dj:=@List.length_replicate
def Dk:=@Nat.ne_of_gt
def Dl:=@Nat.lt_succ_self
def Dm:=@Nat.le_succ
def Do:=@Option.map_some
end
set_option hygiene false in
local macro_rules|`(tactic| walk_at "l")=>`(tactic| first|(cases h;subst_vars;rfl)|((repeat rcases h with ⟨_,h⟩);subst_vars;rfl))
set_option hygiene false in
local macro_rules|`(tactic| walk_at "o")=>`(tactic| refine F.ok ZZ (fun vs H Q E h=>by walk_at "l") (fun cdv A outer s H vs Q E hr h=>?_))
set_option hygiene false in
local macro_rules|`(tactic| walk_at "ob")=>`(tactic| refine F.okb ZZ (fun vs H Q E h=>by walk_at "l") (fun cdv A outer s H vs Q E hr h=>?_))
local macro_rules|`(tactic| walk_at "0")=>`(tactic| exact fun _ _ _ _ _ _ us hl=>match us,hl with|[],_=>rfl)
local macro_rules|`(tactic| walk_at "1")=>`(tactic| exact fun _ _ _ _ _ _ us hl=>match us,hl with|[_],_=>rfl)
local macro_rules|`(tactic| walk_at "2")=>`(tactic| exact fun _ _ _ _ _ _ us hl=>match us,hl with|[_,_],_=>rfl)
local macro_rules|`(tactic| walk_at "3")=>`(tactic| exact fun _ _ _ _ _ _ us hl=>match us,hl with|[_,_,_],_=>rfl)
local macro_rules|`(tactic| walk_at "4")=>`(tactic| exact fun _ _ _ _ _ _ us hl=>match us,hl with|[_,_,_,_],_=>rfl)
local macro_rules|`(tactic| walk_at "5")=>`(tactic| exact fun _ _ _ _ _ _ us hl=>match us,hl with|[_,_,_,_,_],_=>rfl)
local macro_rules|`(tactic| walk_at "6")=>`(tactic| exact fun _ _ _ _ _ _ us hl=>match us,hl with|[_,_,_,_,_,_],_=>rfl)
local macro_rules|`(tactic| walk_at "7")=>`(tactic| exact fun _ _ _ _ _ _ us hl=>match us,hl with|[_,_,_,_,_,_,_],_=>rfl)
local macro_rules|`(tactic| walk_at "8")=>`(tactic| exact fun _ _ _ _ _ _ us hl=>match us,hl with|[_,_,_,_,_,_,_,_],_=>rfl)
local macro_rules|`(tactic| walk_at "9")=>`(tactic| exact fun _ _ _ _ _ _ us hl=>match us,hl with|[_,_,_,_,_,_,_,_,_],_=>rfl)
namespace L2
open PySem PySem.Spec PyProof.Rows
abbrev cz:=Sum Int Str
def jc:cz->Value->Bool
 | .inl k,v=>Value.isInt k v
 | .inr x,v=>Value.isStrOf x v
def Az (w:World):cz->Int
 | .inl k=>hashInt k
 | .inr x=>hashStr w x
theorem bP:∀ {k:cz} {v:Value},jc k v=true->(∃ i t,k=Sum.inl i/\v=Value.int i t)\/(∃ x t,k=Sum.inr x/\v=Value.str x t)
 | .inl i,v,h=>by
  obtain ⟨t,e⟩:=Value.isInt_shape (k:=i) (v:=v) h
  exact .inl ⟨i,t,rfl,e⟩
 | .inr x,v,h=>by
  obtain ⟨t,e⟩:=Value.isStrOf_shape (x:=x) (v:=v) h
  exact .inr ⟨x,t,rfl,e⟩
theorem oK (i:Int) (t:Tok):jc (.inl i) (.int i t)=true:=by simp [jc,Value.isInt]
theorem oM (x:Str) (t:Tok):jc (.inr x) (.str x t)=true:=by simp [jc,Value.isStrOf]
theorem wq (a b:Int):decide ((Sum.inl a:cz)=Sum.inl b)=(a == b):=by
 by_cases e:a=b
 ·subst e;simp
 ·have h:¬ (Sum.inl a:cz)=Sum.inl b:=fun q=>e (Sum.inl.inj q)
  rw [decide_eq_false h]
  exact (beq_eq_false_iff_ne.mpr e).symm
theorem wt (a b:Str):decide ((Sum.inr a:cz)=Sum.inr b)=decide (a=b):=by
 by_cases e:a=b
 ·subst e;simp
 ·have h:¬ (Sum.inr a:cz)=Sum.inr b:=fun q=>e (Sum.inr.inj q)
  rw [decide_eq_false h,decide_eq_false e]
theorem wu (a:Int) (b:Str):decide ((Sum.inl a:cz)=Sum.inr b)=false:=decide_eq_false (fun q=>nomatch q)
theorem ww (a:Str) (b:Int):decide ((Sum.inr a:cz)=Sum.inl b)=false:=decide_eq_false (fun q=>nomatch q)
def bX (prog:Program) (w:World):PySem.KeyKind prog w cz where
 is:=jc
 hash:=Az w
 inj:=fun v a b ha hb=>by
  rcases bP ha with ⟨i,t,rfl,rfl⟩|⟨x,t,rfl,rfl⟩
  ·rcases bP hb with ⟨j,u,rfl,e⟩|⟨y,u,rfl,e⟩
   ·injection e with e1 _;rw [e1]
   ·exact nomatch e
  ·rcases bP hb with ⟨j,u,rfl,e⟩|⟨y,u,rfl,e⟩
   ·exact nomatch e
   ·injection e with e1 _;rw [e1]
 byValue:=fun k v h=>by
  rcases bP h with ⟨i,t,rfl,rfl⟩|⟨x,t,rfl,rfl⟩<;>rfl
 pyHash:=fun hv h=>by
  rcases bP hv with ⟨i,t,rfl,rfl⟩|⟨x,t,rfl,rfl⟩
  ·exact wpAny_pyHash_int h
  ·exact wpAny_pyHash_str h
 eqBool:=fun hu hv h=>by
  rcases bP hu with ⟨i,t,rfl,rfl⟩|⟨x,t,rfl,rfl⟩
  ·rcases bP hv with ⟨j,u,rfl,rfl⟩|⟨y,u,rfl,rfl⟩
   ·rw [wq] at h;exact wpAny_eqBool_int h
   ·rw [wu] at h;exact SeqAt.EqAt.int_str i t y u _ _ _ _ h
  ·rcases bP hv with ⟨j,u,rfl,rfl⟩|⟨y,u,rfl,rfl⟩
   ·rw [ww] at h;exact SeqAt.EqAt.str_int x t j u _ _ _ _ h
   ·rw [wt] at h;exact wpAny_eqBool_str h
 «strs»:=fun k x t v h=>by
  rcases bP h with ⟨i,u,rfl,e⟩|⟨y,u,rfl,e⟩
  ·exact nomatch e
  ·injection e with e1 _
   subst e1
   cases v<;>rfl
theorem kz (prog:Program) (w:World) (i:Int) (t:Tok):(bX prog w).is (.inl i) (.int i t)=true:=oK i t
theorem kA (prog:Program) (w:World) (x:Str) (t:Tok):(bX prog w).is (.inr x) (.str x t)=true:=oM x t
inductive V where
 | non|bl (b:Bool)|int (i:Int)|str (x:Str)|byt (b:Array UInt8)|flt (b:UInt64)|ref (a:Addr)|ty (n:String)
 deriving DecidableEq
def RelV:V->Value->Prop
 | .non,u=>u=Value.none
 | .bl b,u=>u=Value.bool b
 | .int i,u=>∃ t,u=Value.int i t
 | .str x,u=>∃ t,u=Value.str x t
 | .byt b,u=>∃ t,u=Value.bytes b t
 | .flt b,u=>∃ t,u=Value.float b t
 | .ref a,u=>u=Value.ref a
 | .ty n,u=>u=Value.type n
abbrev Vals:List V->List Value->Prop:=Paired RelV
variable {us:List Value} {xs:List V}
theorem Vals.length (r:Vals xs us):xs.length=us.length:=Paired.length r
theorem Vals.get:∀ {xs:List V} {us:List Value} {i:Nat} {x:V},Vals xs us->xs[i]?=some x->∃ u,us[i]?=some u/\RelV x u
 | _,_,_,_,.nil,e=>by simp at e
 | _,_,0,_,.cons r _,e=>by simp at e;subst e;exact ⟨_,rfl,r⟩
 | _,_,i+1,x,.cons _ t,e=>by
  obtain ⟨u,h1,h2⟩:=Vals.get (i:=i) (x:=x) t (by simpa using e)
  exact ⟨u,by simpa using h1,h2⟩
variable {u:Value} {x:V}
theorem Vals.set (r:RelV x u):∀ {xs:List V} {us:List Value} (i:Nat),Vals xs us->Vals (xs.set i x) (us.set i u)
 | _,_,_,.nil=>.nil
 | _,_,0,.cons _ t=>.cons r t
 | _,_,i+1,.cons q t=>.cons q (Vals.set r i t)
theorem Vals.append:∀ {xs ys:List V} {us ws:List Value},Vals xs us->Vals ys ws->Vals (xs++ys) (us++ws)
 | _,_,_,_,.nil,s=>s
 | _,_,_,_,.cons r t,s=>.cons r (Vals.append t s)
theorem Vals.take:∀ {xs:List V} {us:List Value} (n:Nat),Vals xs us->Vals (xs.take n) (us.take n)
 | _,_,0,_=>.nil
 | _,_,_+1,.nil=>.nil
 | _,_,n+1,.cons r t=>.cons r (Vals.take n t)
theorem Vals.drop:∀ {xs:List V} {us:List Value} (n:Nat),Vals xs us->Vals (xs.drop n) (us.drop n)
 | _,_,0,r=>r
 | _,_,_+1,.nil=>.nil
 | _,_,n+1,.cons _ t=>Vals.drop n t
def RelO:Option V->Option Value->Prop
 | some v,some u=>RelV v u
 | none,none=>True
 | _,_=>False
def KV {κ:Type}:List (κ×V)->List (κ×Value)->Prop:=Paired fun (p:κ×V) (q:κ×Value)=>p.1=q.1/\RelV p.2 q.2
def kV:cz->V
 | .inl i=>.int i
 | .inr x=>.str x
inductive HO where
 | lst (xs:List V)
 | tup (xs:List V)
 | dK (kvs:List (cz×V))|dT (kvs:List (List cz×V))
 | set (S:Int->Bool) (n:Nat)
 | ins (C dx:Addr) (fs:List (Str×V))
 | own (x:Addr)
 | xd (fs:List (Str×V))
 | met (f x:Addr)
 | rng (lo hi:Int)
 | frz (o:Obj) (u:HO)
 | tbl (ps:Array Value)
 | ext (φ:Heap->Prop)
abbrev Hp:=Addr->Option HO
def aC (H:Hp) (a:Addr) (o:HO):Hp:=fun b=>if b=a then some o else H b
variable {o:HO} {a:Addr} {H:Hp}
theorem ad:aC H a o a=some o:=by unfold aC;rw [if_pos rfl]
variable {b:Addr}
theorem aw (h:b≠a):aC H a o b=H b:=by unfold aC;rw [if_neg h]
theorem y4 {o u:HO} (h:H a=some o) (h':H b=some u) (d:o≠u):a≠b:=by
 intro e;subst e;rw [h] at h';exact d (Cf h')
theorem aU (h:H a=some o) (h':H b=none):a≠b:=by
 intro e;subst e;rw [h] at h';cases h'
def TupP (h:Heap) (a:Addr) (items:Array Value):Prop:=∃ o,h.get? a=some o/\(o.cls,o.dict)=(Value.type "tuple",none)/\∃ n,o.data=Data.seq items n
variable {items:Array Value} {h:Heap}
theorem TupP.up (p:TupP h a items):IsTup h a items:=let ⟨o,e,c,d⟩:=p;⟨o,e,(Prod.mk.inj c).1,d⟩
theorem TupP.lt (p:TupP h a items):a < h.objs.size:=let ⟨_,e,_⟩:=p;BP e
theorem TupP.new (h:Heap) (items:Array Value):TupP (h.push { cls:=.type "tuple",data:=.seq items }) h.objs.size items:=⟨_,B0 _ rfl,rfl,_,rfl⟩
section
variable (P:Program) (w:World)
def ObjOk (H:Hp) (h:Heap) (a:Addr):HO->Prop
 | .lst xs=>xs.length<=sizeLine/\∃ (its:List Value) (n:Nat),Vals xs its/\h.get? a=some { cls:=.type "list",data:=.seq its.toArray n }
 | .tup xs=>xs.length<=sizeLine/\∃ its:List Value,Vals xs its/\TupP h a its.toArray
 | .dK kvs=>kvs.length<=sizeLine/\(a == sysModules)=false/\∃ vs,KV kvs vs/\h.DictOf (bX P w) a vs
 | .dT kvs=>kvs.length<=sizeLine/\(a == sysModules)=false/\∃ xs:List (List cz×Addr×Value),
   Paired (fun (p:List cz×V) (q:List cz×Addr×Value)=>p.1=q.1/\H q.2.1=some (.tup (p.1.map kV))/\RelV p.2 q.2.2) kvs xs /\
   ∃ o es ep,h.get? a=some o/\o.ExactDict/\o.data=.dict es ep/\es.toList=xs.map (entryOfKey (tupleKind (bX P w)))/\(xs.map (·.1)).Nodup
 | .set S n=>h.SetOf (intKind P w) a S n
 | .ins C dx fs=>H dx=some (.own a)/\fs.length<=1000/\dx≠a/\h.get? a=some (PySem.W.instObj C dx) /\
   ∃ mA,h.Ns1 dx mA/\(∀ f,RelO (fs.lookup f) (mA f))/\PySem.Within mA (fs.map (·.1))
 | .own _=>∃ o,h.get? a=some o
 | .xd fs=>∃ mA,h.Ns1 a mA/\∀ f,RelO (fs.lookup f) (mA f)
 | .rng lo hi=>∃ t u v,h.get? a=some { cls:=.type "range",data:=.fields #[.int lo t,.int hi u,.int 1 v] }
 | .frz o u=>h.get? a=some o/\ObjOk H h a u
 | .tbl ps=>h.get? a=some { cls:=.none,data:=.fields ps }
 | .met f x=>h.get? a=some (PySem.W.methodObj (.ref f) (.ref x))
 | .ext φ=>φ h/\(∃ o,h.get? a=some o)/\∀ h1 h2:Heap,φ h1->(∀ o,h1.get? a=some o->h2.get? a=some o)->φ h2
def HOk (H:Hp) (h:Heap):Prop:=∀ a o,H a=some o->ObjOk P w H h a o
end
section
variable {P:Program} {w:World} {H H':Hp} {h h':Heap} {a:Addr} {o:HO}
theorem ObjOk.lt (x:ObjOk P w H h a o):a < h.objs.size:=by
 cases o with
 | lst xs=>obtain ⟨_,_,_,_,e⟩:=x;exact BP e
 | tup xs=>obtain ⟨_,_,_,p⟩:=x;exact p.lt
 | dK kvs=>obtain ⟨_,_,_,_,o,_,_,e,_⟩:=x;exact BP e
 | dT kvs=>obtain ⟨_,_,_,_,o,_,_,e,_⟩:=x;exact BP e
 | set S n=>obtain ⟨o,_,_,_,e,_⟩:=x;exact BP e
 | ins C dx fs=>obtain ⟨_,_,_,e,_⟩:=x;exact BP e
 | own y=>obtain ⟨_,e⟩:=x;exact BP e
 | xd fs=>obtain ⟨_,⟨_,_,_,e,_⟩,_⟩:=x;exact BP e
 | rng lo hi=>obtain ⟨_,_,_,e⟩:=x;exact BP e
 | frz ob u=>obtain ⟨e,_⟩:=x;exact BP e
 | tbl ps=>exact BP (show h.get? a=some _ from x)
 | met f y=>exact BP (show h.get? a=some _ from x)
 | ext φ=>obtain ⟨_,⟨_,e⟩,_⟩:=x;exact BP e
theorem Paired.mapP {α β:Type} {F G:α->β->Prop}:∀ {l₁:List α} {l₂:List β},Paired F l₁ l₂->(∀ a b,F a b->G a b)->Paired G l₁ l₂
 | _,_,.nil,_=>.nil
 | _,_,.cons r t,f=>.cons (f _ _ r) (Paired.mapP t f)
theorem ObjOk.stay (x:ObjOk P w H h a o) (k:∀ b u,(b=a\/H b=some (.own a))->h.get? b=some u->h'.get? b=some u)
  (ho:∀ b,H b=some (.own a)->H' b=some (.own a)) (ht:∀ b xs,H b=some (.tup xs)->H' b=some (.tup xs)):ObjOk P w H' h' a o:=by
 induction o with
 | lst xs=>obtain ⟨z,its,n,r,e⟩:=x;exact ⟨z,its,n,r,k _ _ (.inl rfl) e⟩
 | tup xs=>obtain ⟨z,its,r,ob,e,c⟩:=x;exact ⟨z,its,r,ob,k _ _ (.inl rfl) e,c⟩
 | dK kvs=>obtain ⟨z,y,vs,r,ob,es,ep,e,c⟩:=x;exact ⟨z,y,vs,r,ob,es,ep,k _ _ (.inl rfl) e,c⟩
 | dT kvs=>
  obtain ⟨z,y,xs,r,ob,es,ep,e,c⟩:=x
  exact ⟨z,y,xs,Paired.mapP r fun p q z=>⟨z.1,ht _ _ z.2.1,z.2.2⟩,ob,es,ep,k _ _ (.inl rfl) e,c⟩
 | set S n=>obtain ⟨ob,es,ep,t,e,c⟩:=x;exact ⟨ob,es,ep,t,k _ _ (.inl rfl) e,c⟩
 | ins C dx fs=>
  obtain ⟨d,z,ne,e,mA,⟨od,es,ep,e2,c⟩,r⟩:=x
  exact ⟨ho _ d,z,ne,k _ _ (.inl rfl) e,mA,⟨od,es,ep,k _ _ (.inr d) e2,c⟩,r⟩
 | own y=>obtain ⟨ob,e⟩:=x;exact ⟨ob,k _ _ (.inl rfl) e⟩
 | xd fs=>obtain ⟨mA,⟨od,es,ep,e,c⟩,r⟩:=x;exact ⟨mA,⟨od,es,ep,k _ _ (.inl rfl) e,c⟩,r⟩
 | rng lo hi=>obtain ⟨t,u,v,e⟩:=x;exact ⟨t,u,v,k _ _ (.inl rfl) e⟩
 | frz ob u ih=>obtain ⟨e,q⟩:=x;exact ⟨k _ _ (.inl rfl) e,ih q⟩
 | tbl ps=>
  have e:h.get? a=some { cls:=.none,data:=.fields ps }:=x
  show h'.get? a=some { cls:=.none,data:=.fields ps }
  exact k a _ (.inl rfl) e
 | met f y=>
  have e:h.get? a=some (PySem.W.methodObj (.ref f) (.ref y)):=x
  show h'.get? a=some (PySem.W.methodObj (.ref f) (.ref y))
  exact k a _ (.inl rfl) e
 | ext φ=>obtain ⟨p,⟨o,e⟩,st⟩:=x;exact ⟨st _ _ p fun o q=>k _ _ (.inl rfl) q,⟨o,k _ _ (.inl rfl) e⟩,st⟩
theorem HOk.lt (x:HOk P w H h) (e:H a=some o):a < h.objs.size:=(x a o e).lt
theorem HOk.fresh (x:HOk P w H h) (e:h.objs.size<=a):H a=none:=by
 cases q:H a with
 | none=>rfl
 | some u=>exact absurd (B9 (x.lt q) e) (CG _)
theorem HOk.kept (x:HOk P w H h) (k:∀ b u,h.get? b=some u->h'.get? b=some u):HOk P w H h':=fun a o e=>
 (x a o e).stay (fun b u _ q=>k b u q) (fun _ q=>q) fun _ _ q=>q
theorem HOk.laid (x:HOk P w H h) (k:∀ b u,h.get? b=some u->h'.get? b=some u) (hp:h.objs.size<=a) (new:ObjOk P w (aC H a o) h' a o):HOk P w (aC H a o) h':=fun b u e=>by
 have hn:=x.fresh hp
 by_cases hb:b=a
 ·subst hb;rw [ad] at e;cases e;exact new
 ·rw [aw hb] at e
  exact (x b u e).stay (fun c v _ q=>k c v q) (fun c q=>by rw [aw (aU q hn)];exact q) fun c xs q=>by rw [aw (aU q hn)];exact q
end
def Rd (H:Hp) (a:Addr) (u:HO):Prop:=H a=some u\/∃ o,H a=some (.frz o u)
variable {w:World} {P:Program}
theorem Rd.ok {u:HO} (r:Rd H a u) (x:HOk P w H h):ObjOk P w H h a u:=by
 rcases r with r|⟨o,r⟩
 ·exact x a u r
 ·obtain ⟨_,q⟩:=x a _ r
  exact q
def y6:Option HO->Prop
 | some (.lst _)=>True
 | some (.dK _)=>True
 | some (.dT _)=>True
 | some (.set _ _)=>True
 | some (.ins _ _ _)=>True
 | some (.ext _)=>True
 | _=>False
section
variable {P:Program} {w:World} {H:Hp} {h h':Heap} {x e:Addr} {o':HO}
theorem HOk.write (ok:HOk P w H h) (mu:y6 (H x)) (he:e=x\/H e=some (.own x)) (k:∀ b u,b≠e->h.get? b=some u->h'.get? b=some u) (heo:∃ u,h'.get? e=some u)
  (new:ObjOk P w (aC H x o') h' x o'):HOk P w (aC H x o') h':=fun b u q=>by
 have nown:∀ c y,H c=some (.own y)->c≠x:=fun c y r z=>by subst z;rw [r] at mu;exact mu
 have ntup:∀ c xs,H c=some (.tup xs)->c≠x:=fun c xs r z=>by subst z;rw [r] at mu;exact mu
 by_cases hb:b=x
 ·subst hb;rw [ad] at q;cases q;exact new
 ·rw [aw hb] at q
  by_cases hbe:b=e
  ·have q':H b=some (.own x):=by
    rcases he with z|z
    ·exact absurd (hbe.trans z) hb
    ·rw [hbe];exact z
   rw [q] at q';cases q'
   obtain ⟨v,hv⟩:=heo
   exact ⟨v,by rw [hbe];exact hv⟩
  ·refine (ok b u q).stay (fun c v hc r=>k c v ?_ r) (fun c r=>by rw [aw (nown c b r)];exact r) fun c xs r=>by rw [aw (ntup c xs r)];exact r
   rcases hc with rfl|hc
   ·exact hbe
   ·rintro rfl
    rcases he with z|z
    ·exact nown c b hc z
    ·rw [hc] at z;cases z;exact hb rfl
end
structure Un (fs ex:List Addr) (H H':Hp) (h h':Heap):Prop where
 keep:∀ b o,h.get? b=some o->H b=none->b∉fs->b∉ex->h'.get? b=some o
 slot:∀ b o,h.get? b=some o->H b=none->b∈fs->b∉ex->∃ sl,h'.get? b=some { o with slots:=sl }
 free:∀ b o,h.get? b=some o->H b=none->b∉ex->H' b=none
 there:∀ b o,h.get? b=some o->b∉ex->∃ o',h'.get? b=some o'
 tups:∀ b xs,H b=some (.tup xs)->H' b=some (.tup xs)
 frzs:∀ b o u,H b=some (.frz o u)->H' b=some (.frz o u)
 tbls:∀ b ps,H b=some (.tbl ps)->∃ more,H' b=some (.tbl (ps++more))
section
variable {fs fs' ex ex':List Addr} {H H1 H2:Hp} {h h1 h2 h':Heap} {a x e:Addr} {o:HO}
theorem Un.any (u:Un fs ex H H1 h h1) {ob:Obj} (q:h.get? b=some ob) (n:H b=none) (hx:b∉ex):∃ sl,h1.get? b=some { ob with slots:=sl }:=by
 by_cases hb:b∈fs
 ·exact u.slot b ob q n hb hx
 ·exact ⟨ob.slots,u.keep b ob q n hb hx⟩
theorem Un.kept (k:∀ b u,h.get? b=some u->h'.get? b=some u):Un fs ex H H h h':=
 ⟨fun b ob q _ _ _=>k b ob q,fun b ob q _ _ _=>⟨ob.slots,k b ob q⟩,fun _ _ _ n _=>n,fun b ob q _=>⟨ob,k b ob q⟩,fun _ _ q=>q,fun _ _ _ q=>q,fun _ ps q=>⟨#[],by rw [q];simp⟩⟩
theorem Un.refl:Un fs ex H H h h:=Un.kept fun _ _ q=>q
theorem Un.laid (k:∀ b u,h.get? b=some u->h'.get? b=some u) (hp:h.objs.size<=a) (hn:H a=none):Un fs ex H (aC H a o) h h' where
 keep:=fun b u q _ _ _=>k b u q
 slot:=fun b u q _ _ _=>⟨u.slots,k b u q⟩
 free:=fun b u q n _=>by rw [aw (Ce (B9 (BP q) hp))];exact n
 there:=fun b u q _=>⟨u,k b u q⟩
 tups:=fun b xs q=>by rw [aw (aU q hn)];exact q
 frzs:=fun b u xs q=>by rw [aw (aU q hn)];exact q
 tbls:=fun b ps q=>⟨#[],by rw [aw (aU q hn),q];simp⟩
theorem Un.write (mu:y6 (H x)) (he:e=x\/H e=some (.own x)) (k:∀ b u,b≠e->h.get? b=some u->h'.get? b=some u) (heo:∃ u,h'.get? e=some u):Un fs ex H (aC H x o) h h':=by
 have hx:∀ b,H b=none->b≠x:=fun b n z=>by subst z;rw [n] at mu;exact mu
 have hb:∀ b,H b=none->b≠e:=fun b n z=>by
  subst z
  rcases he with r|r
  ·exact hx b n r
  ·rw [n] at r;cases r
 have hm:∀ b u,H b=some u->¬ y6 (some u)->b≠x:=fun b u q nm z=>by subst z;rw [q] at mu;exact nm mu
 refine ⟨fun b u q n _ _=>k b u (hb b n) q,fun b u q n _ _=>⟨u.slots,k b u (hb b n) q⟩,fun b u q n _=>by rw [aw (hx b n)];exact n,fun b u q _=>?_,
  fun b xs q=>by rw [aw (hm b _ q fun z=>z)];exact q,fun b u xs q=>by rw [aw (hm b _ q fun z=>z)];exact q,fun b ps q=>⟨#[],by rw [aw (hm b _ q fun z=>z),q];simp⟩⟩
 by_cases hbe:b=e
 ·subst hbe;exact heo
 ·exact ⟨u,k b u hbe q⟩
end
def Aq (h:Heap) (H:Hp):List Addr:=(List.range h.objs.size).filter fun a=>(H a).isSome
def jC (h:Heap) (H:Hp):Heap:=PySem.W.hideAll h (Aq h H)
theorem oO (h:Heap) (H:Hp):(jC h H).objs.size=h.objs.size:=PySem.W.hideAll_size _ _
theorem pL {o:Obj} (e:h.get? b=some o) (n:H b=none):(jC h H).get? b=some o:=
 PySem.W.hideAll_get _ e fun hm=>by
  have q:(H b).isSome=true:=(List.mem_filter.mp hm).2
  rw [n] at q;simp at q
theorem tH {o:Obj} (e:(jC h H).get? b=some o):h.get? b=some o/\H b=none:=by
 have e':h.get? b=some o:=PySem.W.of_hideAll (Aq h H) e
 refine ⟨e',?_⟩
 cases q:H b with
 | none=>rfl
 | some x=>
  have hm:b∈Aq h H:=List.mem_filter.mpr ⟨CZ.mpr (BP e'),by simp [q]⟩
  have z:(jC h H).get? b=none:=PySem.W.hideAll_none (Aq h H) hm
  rw [z] at e;cases e
structure Mod (K:ZF) (mg:Str->Option Value) (base:Heap):Prop where
 kin:K.In base
 glob:base.Ns mainGlobals mg
 blt:∃ mb,base.Ns builtinsNs mb/\∀ x:Str,x≠"__name__"->mb x=bootBuiltins x
 nolimit:base.NoLimit
structure Cx where
 prog:Program
 w:World
 K:ZF
 mg:Str->Option Value
 base:Heap
 A:Around
 N:List Str
 s₀:Shared
 H₀:Hp
 env:Env
 outer:List Env
 stack:List Env
 ex:List Addr
 fn:Str->Bool
 calm:Bool
 pn:List (Addr×Obj)
 xe:Value->Shared->Prop
def jD (l:List Env):List Addr:=l.filterMap (·.frame)
abbrev Cx.fs (X:Cx):List Addr:=jD X.outer
def y8 (sc:Scope) (x:Str):Prop:=sc.names.lookup x=some .local\/sc.names.lookup x=some .cell\/sc.names.lookup x=some .free
def y9 (sc:Scope) (x:Str):Prop:=sc.names.lookup x=some .local\/sc.names.lookup x=some .cell
def za (env:Env) (h:Heap) (m:Str->Option Value) (x:Str) (u:Value):Prop:=
 (env.kindOf x=some .local/\m x=some u)\/((env.kindOf x=some .cell\/env.kindOf x=some .free)/\∃ c,env.cells.lookup x=some c/\h.IsCell c (some u))
structure Cx.Ok (X:Cx):Prop where
 mod:Mod X.K X.mg X.base
 kind:X.env.scope.kind=.function
 glob:X.env.globals=mainGlobals
 blt:X.env.builtins=builtinsNs
 above:X.s₀.heap.objs.size<=X.env.locals
 inj:∀ x y c,X.env.cells.lookup x=some c->X.env.cells.lookup y=some c->x=y
 has:∀ x,(X.env.kindOf x=some .cell\/X.env.kindOf x=some .free)->∃ c,X.env.cells.lookup x=some c
 cab:∀ x c,X.fn x=true->X.env.cells.lookup x=some c->X.s₀.heap.objs.size<=c
 hd:X.calm=true->X.A.handled=none
 frames:X.A.frames=some X.stack
 stk:X.stack=X.outer\/(X.stack=X.env::X.outer/\X.env.frame=some X.env.locals)
 exf:∀ b∈X.ex,b≠X.env.locals/\∀ x c,X.env.cells.lookup x=some c->c≠b
 bs:∀ b o,X.base.get? b=some o->X.s₀.heap.get? b=some o/\X.H₀ b=none
 bsz:X.base.objs.size<=X.s₀.heap.objs.size
 noex:∀ b o,X.base.get? b=some o->b∉X.ex
 exfs:∀ b∈X.ex,b∉X.fs
 funs:X.s₀.heap.FunFrames X.base X.outer
 frf:∀ b∈X.fs,X.H₀ b=none
structure Inv (X:Cx) (pins:List (Addr×Obj)) (σ:List (Option V)) (H:Hp) (s:Shared):Prop where
 ok:X.Ok
 os:s.os=X.s₀.os
 bare:AllBare s.gens
 base:Un X.fs X.ex X.H₀ H X.s₀.heap s.heap
 loc:∃ m,s.heap.Ns X.env.locals m/\∀ (i:Nat) (x:Str) (v:V),X.N[i]?=some x->σ[i]?=some (some v)->y8 X.env.scope x->∃ u,RelV v u/\za X.env s.heap m x u
 cell:∀ x c,X.env.cells.lookup x=some c->∃ v,s.heap.IsCell c v
 free:H X.env.locals=none
 freeC:∀ x c,X.env.cells.lookup x=some c->H c=none
 pin:∀ p∈X.pn++pins,s.heap.get? p.1=some p.2/\H p.1=none/\p.1≠X.env.locals/\p.1∉X.fs/\∀ v,p.2.data≠.cell v
 hok:HOk X.prog X.w H s.heap
 len:σ.length=X.N.length
section
variable {X:Cx} {pins:List (Addr×Obj)} {σ:List (Option V)} {H H':Hp} {s:Shared} {h':Heap}
theorem Cx.Ok.nofr (ok:X.Ok) {o:Obj} (e:X.base.get? b=some o):b∉X.fs:=fun hb=>by
 have:=(ok.funs.mem hb).1
 rw [e] at this;cases this
theorem Inv.bs (I:Inv X pins σ H s):∀ b o,X.base.get? b=some o->s.heap.get? b=some o/\H b=none:=fun b o e=>
 ⟨I.base.keep b o (I.ok.bs b o e).1 (I.ok.bs b o e).2 (I.ok.nofr e) (I.ok.noex b o e),I.base.free b o (I.ok.bs b o e).1 (I.ok.bs b o e).2 (I.ok.noex b o e)⟩
theorem Inv.bk (I:Inv X pins σ H s):∀ b o,X.base.get? b=some o->s.heap.get? b=some o:=fun b o e=>(I.bs b o e).1
theorem Inv.mod (I:Inv X pins σ H s):Mod X.K X.mg X.base:=I.ok.mod
theorem Inv.kIn (I:Inv X pins σ H s):X.K.In s.heap:=I.ok.mod.kin.keeps I.bk
theorem Inv.lt (I:Inv X pins σ H s):X.env.locals < s.heap.objs.size:=let ⟨_,hn,_⟩:=I.loc;hn.lt
theorem Inv.sz (I:Inv X pins σ H s):X.s₀.heap.objs.size<=s.heap.objs.size:=Cm I.ok.above (Nat.le_of_lt I.lt)
theorem Inv.nofs (I:Inv X pins σ H s) (h:s.heap.objs.size<=a):a∉X.fs:=fun hb=>by
 obtain ⟨_,o,ho,_⟩:=I.ok.funs.mem hb
 exact absurd (B9 (BP ho) (Cm I.sz h)) (CG _)
theorem Inv.cne (I:Inv X pins σ H s):∀ x c,X.env.cells.lookup x=some c->c≠X.env.locals:=fun x c e z=>by
 obtain ⟨v,o,ho,hd⟩:=I.cell x c e
 obtain ⟨m,⟨o',es,ep,ho',hd',_⟩,_⟩:=I.loc
 rw [z,ho'] at ho;cases ho;rw [hd'] at hd;cases hd
theorem Inv.funs (I:Inv X pins σ H s):s.heap.FunFrames X.base X.outer:=by
 have all:∀ (l:List Env),(∀ b∈jD l,b∈X.fs)->X.s₀.heap.FunFrames X.base l->s.heap.FunFrames X.base l:=by
  intro l
  induction l with
  | nil=>intro _ _;trivial
  | cons env r ih=>
   intro hs hl
   obtain ⟨hk,⟨L,o,hf,hn,ho,hd⟩,hr⟩:=hl
   have hL:L∈X.fs:=hs L (by unfold jD;rw [Da,hf];exact BQ)
   obtain ⟨sl,e⟩:=I.base.slot L o ho (I.ok.frf L hL) hL fun z=>I.ok.exfs L z hL
   exact ⟨hk,⟨L,_,hf,hn,e,hd⟩,ih (fun b hb=>hs b (by unfold jD;rw [Da,hf];exact BV _ hb)) hr⟩
 exact all X.outer (fun _ hb=>hb) I.ok.funs
theorem Inv.stack (I:Inv X pins σ H s):s.heap.FunFrames X.base X.stack:=by
 rcases I.ok.stk with e|⟨e,hf⟩
 ·rw [e];exact I.funs
 ·rw [e]
  obtain ⟨m,hn,_⟩:=I.loc
  refine .cons (by rw [I.ok.kind];decide) hf hn ?_ I.funs
  exact Heap.get?_none_of_le (Cm I.ok.bsz I.ok.above)
theorem Inv.stkSub (I:Inv X pins σ H s):∀ b∈jD X.stack,b∈X.env.locals::X.fs:=fun b hb=>by
 rcases I.ok.stk with e|⟨e,hf⟩
 ·rw [e] at hb;exact BV _ hb
 ·rw [e] at hb
  unfold jD at hb
  rw [Da,hf] at hb
  exact hb
theorem Inv.stkFree (I:Inv X pins σ H s):∀ b∈jD X.stack,H b=none:=fun b hb=>by
 rcases BW.mp (I.stkSub b hb) with e|hb
 ·rw [e];exact I.free
 ·obtain ⟨_,o,ho,_⟩:=I.ok.funs.mem hb
  exact I.base.free b o ho (I.ok.frf b hb) fun z=>I.ok.exfs b z hb
theorem Inv.step {g':Array GenState} {t':Nat} {d':Drawn} {ch:List Addr} (I:Inv X pins σ H s)
  (hch:∀ b∈ch,(b∈X.ex\/X.s₀.heap.objs.size<=b)/\b≠X.env.locals/\(∀ x c,X.env.cells.lookup x=some c->c≠b)/\∀ p∈X.pn++pins,p.1≠b)
  (keep:∀ b o,b≠X.env.locals->b∉X.fs->b∉ch->s.heap.get? b=some o->H b=none->h'.get? b=some o)
  (slot:∀ b o,b≠X.env.locals->b∈X.fs->b∉ch->s.heap.get? b=some o->H b=none->∃ sl,h'.get? b=some { o with slots:=sl }) (free:∀ b o,b∉ch->s.heap.get? b=some o->H b=none->H' b=none)
  (there:∀ b o,b∉ch->s.heap.get? b=some o->∃ o',h'.get? b=some o')
  (tups:∀ b xs,H b=some (.tup xs)->H' b=some (.tup xs)) (frzs:∀ b o u,H b=some (.frz o u)->H' b=some (.frz o u)) (tbls:∀ b ps,H b=some (.tbl ps)->∃ more,H' b=some (.tbl (ps++more)))
  (ns:∀ m,s.heap.Ns X.env.locals m->h'.Ns X.env.locals m) (hok:HOk X.prog X.w H' h') (hg:AllBare g') :
  Inv X pins σ H' { s with heap:=h',gens:=g',drawn:=d',toks:=t' }:=by
 have neL:∀ b o,X.s₀.heap.get? b=some o->b≠X.env.locals:=fun b o e=>Ce (B9 (BP e) I.ok.above)
 have neC:∀ b o,X.s₀.heap.get? b=some o->b∉X.ex->b∉ch:=fun b o e hx hb=>by
  rcases (hch b hb).1 with z|z
  ·exact hx z
  ·exact absurd (B9 (BP e) z) (CG _)
 have cellK:∀ x c,X.env.cells.lookup x=some c->∀ v,s.heap.IsCell c v->h'.IsCell c v:=fun x c e v ⟨o,ho,hd⟩=>by
  have nch:c∉ch:=fun z=>(hch c z).2.2.1 x c e rfl
  by_cases hc:c∈X.fs
  ·obtain ⟨sl,q⟩:=slot c o (I.cne x c e) hc nch ho (I.freeC x c e)
   exact ⟨_,q,hd⟩
  ·exact ⟨o,keep c o (I.cne x c e) hc nch ho (I.freeC x c e),hd⟩
 refine ⟨I.ok,I.os,hg,⟨fun b o e n hb hx=>?_,fun b o e n hb hx=>?_,fun b o e n hx=>?_,fun b o e hx=>?_,fun b xs e=>tups b xs (I.base.tups b xs e),fun b o xs e=>frzs b o xs (I.base.frzs b o xs e),fun b ps e=>?_⟩,?_,fun x c e=>?_,?_,fun x c e=>?_,fun p hp=>?_,hok,I.len⟩
 ·exact keep b o (neL b o e) hb (neC b o e hx) (I.base.keep b o e n hb hx) (I.base.free b o e n hx)
 ·obtain ⟨sl,e1⟩:=I.base.slot b o e n hb hx
  obtain ⟨sl',e2⟩:=slot b _ (neL b o e) hb (neC b o e hx) e1 (I.base.free b o e n hx)
  exact ⟨sl',e2⟩
 ·obtain ⟨o',e1⟩:=I.base.there b o e hx
  exact free b o' (neC b o e hx) e1 (I.base.free b o e n hx)
 ·obtain ⟨o',e1⟩:=I.base.there b o e hx
  exact there b o' (neC b o e hx) e1
 ·obtain ⟨m1,e1⟩:=I.base.tbls b ps e
  obtain ⟨m2,e2⟩:=tbls b _ e1
  exact ⟨m1++m2,by rw [e2,Array.append_assoc]⟩
 ·obtain ⟨m,hn,hl⟩:=I.loc
  refine ⟨m,ns m hn,fun i x v e1 e2 e3=>?_⟩
  obtain ⟨u,r,l⟩:=hl i x v e1 e2 e3
  refine ⟨u,r,?_⟩
  rcases l with l|⟨k,c,e,z⟩
  ·exact .inl l
  ·exact .inr ⟨k,c,e,cellK x c e _ z⟩
 ·obtain ⟨v,z⟩:=I.cell x c e
  exact ⟨v,cellK x c e v z⟩
 ·obtain ⟨m,⟨o,_,_,ho,_⟩,_⟩:=I.loc
  exact free _ o (fun z=>(hch _ z).2.1 rfl) ho I.free
 ·obtain ⟨v,o,ho,hd⟩:=I.cell x c e
  exact free c o (fun z=>(hch c z).2.2.1 x c e rfl) ho (I.freeC x c e)
 ·obtain ⟨e,n,ne,nf,d⟩:=I.pin p hp
  have nch:p.1∉ch:=fun z=>(hch p.1 z).2.2.2 p hp rfl
  exact ⟨keep p.1 p.2 ne nf nch e n,free p.1 p.2 nch e n,ne,nf,d⟩
theorem Inv.un {t':Nat} (I:Inv X pins σ H s) (u:Un X.fs [] H H' s.heap h') (hok:HOk X.prog X.w H' h'):Inv X pins σ H' { s with heap:=h',toks:=t' }:=by
 obtain ⟨m,⟨o,es,ep,ho,r⟩,_⟩:=id I.loc
 obtain ⟨sl,hL⟩:=u.any ho I.free (by simp)
 exact I.step (g':=s.gens) (d':=s.drawn) (ch:=[]) (fun _ z=>nomatch z) (fun b o _ hb _ e n=>u.keep b o e n hb (by simp)) (fun b o _ hb _ e n=>u.slot b o e n hb (by simp)) (fun b o _ e n=>u.free b o e n (by simp)) (fun b o _ e=>u.there b o e (by simp)) u.tups u.frzs u.tbls (fun m' hm=>by
  obtain ⟨o',es',ep',ho',r'⟩:=hm
  rw [ho] at ho';cases ho'
  exact ⟨_,es',ep',hL,r'⟩) hok I.bare
variable {ch:List Addr}
theorem Inv.call {g':Array GenState} {t':Nat} {d':Drawn} (I:Inv X pins σ H s) (u:Un (jD X.stack) ch H H' s.heap h') (hok:HOk X.prog X.w H' h') (hg:AllBare g')
  (hch:∀ b∈ch,(b∈X.ex\/X.s₀.heap.objs.size<=b)/\b≠X.env.locals/\(∀ x c,X.env.cells.lookup x=some c->c≠b)/\∀ p∈X.pn++pins,p.1≠b) :
  Inv X pins σ H' { s with heap:=h',gens:=g',drawn:=d',toks:=t' }:=by
 obtain ⟨m,⟨o,es,ep,ho,r⟩,_⟩:=id I.loc
 obtain ⟨sl,hL⟩:=u.any ho I.free fun z=>(hch _ z).2.1 rfl
 exact I.step (ch:=ch) hch (fun b o hL hb hc e n=>u.keep b o e n (fun z=>(BW.mp (I.stkSub b z)).elim hL hb) hc) (fun b o _ _ hc e n=>u.any e n hc) (fun b o hc e n=>u.free b o e n hc) (fun b o hc e=>u.there b o e hc) u.tups u.frzs u.tbls (fun m' hm=>by
  obtain ⟨o',es',ep',ho',r'⟩:=hm
  rw [ho] at ho';cases ho'
  exact ⟨_,es',ep',hL,r'⟩) hok hg
theorem Inv.turned {t':Nat} {it:Addr} (I:Inv X pins σ H s) (k:∀ b o,b≠it->s.heap.get? b=some o->h'.get? b=some o) (hn:H it=none) (hL:it≠X.env.locals)
  (h1:it∈X.ex\/X.s₀.heap.objs.size<=it) (h2:∀ x c,X.env.cells.lookup x=some c->c≠it) (h3:∀ p∈X.pn++pins,p.1≠it):Inv X pins σ H { s with heap:=h',toks:=t' }:=by
 have nit:∀ b u,H b=some u->b≠it:=fun b u e z=>by rw [z,hn] at e;cases e
 refine I.step (g':=s.gens) (d':=s.drawn) (ch:=[it]) (fun b hb=>?_) (fun b o _ _ hc e _=>k b o (fun z=>hc (by simp [z])) e) (fun b o _ _ hc e _=>⟨o.slots,k b o (fun z=>hc (by simp [z])) e⟩) (fun _ _ _ _ n=>n)
  (fun b o hc e=>⟨o,k b o (fun z=>hc (by simp [z])) e⟩) (fun _ _ e=>e) (fun _ _ _ e=>e) (fun b ps e=>⟨#[],by rw [e];simp⟩) (fun m hm=>?_) (fun b u e=>?_) I.bare
 ·have e:b=it:=by simpa using hb
  subst e
  exact ⟨h1,hL,h2,h3⟩
 ·obtain ⟨o,es,ep,ho,r⟩:=hm
  exact ⟨o,es,ep,k _ o (Ne.symm hL) ho,r⟩
 ·refine (I.hok b u e).stay (fun c v hc q=>k c v ?_ q) (fun _ q=>q) fun _ _ q=>q
  rcases hc with z|z
  ·rw [z];exact nit b u e
  ·exact nit c _ z
theorem Inv.tok (I:Inv X pins σ H s) (t:Nat):Inv X pins σ H { s with toks:=t }:=I.un (h':=s.heap) (t':=t) Un.refl I.hok
theorem Inv.kept {t':Nat} (I:Inv X pins σ H s) (k:∀ b u,s.heap.get? b=some u->h'.get? b=some u):Inv X pins σ H { s with heap:=h',toks:=t' }:=I.un (Un.kept k) (I.hok.kept k)
theorem Inv.laid {t':Nat} (I:Inv X pins σ H s) (k:∀ b u,s.heap.get? b=some u->h'.get? b=some u) (hp:s.heap.objs.size<=a) (new:ObjOk X.prog X.w (aC H a o) h' a o) :
  Inv X pins σ (aC H a o) { s with heap:=h',toks:=t' }:=I.un (Un.laid k hp (I.hok.fresh hp)) (I.hok.laid k hp new)
theorem Inv.write {x e:Addr} {o:HO} {t':Nat} (I:Inv X pins σ H s) (mu:y6 (H x)) (he:e=x\/H e=some (.own x)) (k:∀ b u,b≠e->s.heap.get? b=some u->h'.get? b=some u) (heo:∃ u,h'.get? e=some u)
  (new:ObjOk X.prog X.w (aC H x o) h' x o):Inv X pins σ (aC H x o) { s with heap:=h',toks:=t' }:=I.un (Un.write mu he k heo) (I.hok.write mu he k heo new)
theorem Inv.weak {σ':List (Option V)} (I:Inv X pins σ H s) (hl:σ'.length=σ.length) (w:∀ (i:Nat) v,σ'[i]?=some (some v)->σ[i]?=some (some v)):Inv X pins σ' H s:=
 ⟨I.ok,I.os,I.bare,I.base,let ⟨m,hn,hl'⟩:=I.loc;⟨m,hn,fun i x v e1 e2 e3=>hl' i x v e1 (w i v e2) e3⟩,I.cell,I.free,I.freeC,I.pin,I.hok,hl.trans I.len⟩
theorem Inv.pins_of {pins':List (Addr×Obj)} (I:Inv X pins σ H s) (h:∀ p∈pins',s.heap.get? p.1=some p.2/\H p.1=none/\p.1≠X.env.locals/\p.1∉X.fs/\∀ v,p.2.data≠.cell v):Inv X pins' σ H s:=
 ⟨I.ok,I.os,I.bare,I.base,I.loc,I.cell,I.free,I.freeC,fun p hp=>(Cp.mp hp).elim (fun z=>I.pin p (De _ z)) (h p),I.hok,I.len⟩
variable {i j:Nat}
theorem ie {N:List Str} (hN:N.Nodup) {x:Str} (a:N[i]?=some x) (b:N[j]?=some x):i=j:=by
 obtain ⟨h1,e1⟩:=BL.mp a
 obtain ⟨h2,e2⟩:=BL.mp b
 exact (List.getElem_inj hN).mp (e1.trans e2.symm)
variable {v:V}
theorem jd {M:Model} {A:Around} {E:Value->Shared->Prop} {x:Str} {Q:Unit->Shared->Prop} (I:Inv X pins σ H s) (hN:X.N.Nodup) (hi:X.N[i]?=some x) (hx:y9 X.env.scope x) (r:RelV v u)
  (h:∀ s',Inv X pins (σ.set i (some v)) H s'->(∃ a,Heap.SameBut a s.heap s'.heap/\(a=X.env.locals\/X.env.cells.lookup x=some a))->Q () s') (hf:X.fn x=true\/X.env.scope.names.lookup x=some .local:=by first|exact .inl rfl|exact .inr rfl|assumption):wpAny M A (storeName X.env x u) Q E s:=by
 obtain ⟨m,hn,hl⟩:=id I.loc
 have hcls:(X.env.scope.kind == .class || (X.env.scope.kind == .module && X.env.locals != X.env.globals))=false:=by rw [I.ok.kind];rfl
 have hiσ:i < σ.length:=by rw [I.len];exact (BL.mp hi).1
 have cne:=I.cne
 have tracked:∀ {a:Addr} {h':Heap},(∃ o,s.heap.get? a=some o/\H a=none)->Heap.SameBut a s.heap h'->HOk X.prog X.w H h':=fun {a h'} ha hs b ob e=>by
  obtain ⟨_,_,hfree⟩:=ha
  refine (I.hok b ob e).stay (fun c w' hc q=>(hs.2 c ?_).trans q) (fun _ q=>q) fun _ _ q=>q
  rintro rfl
  rcases hc with rfl|hc
  ·rw [hfree] at e;cases e
  ·rw [hfree] at hc;cases hc
 rcases hx with hk|hk
 ·refine wpAny_storeName_local hk hn (fun h' hn' hs=>?_) hcls
  obtain ⟨oL,_,_,hoL,_⟩:=id hn
  refine h _ ⟨I.ok,I.os,I.bare,⟨fun b o e n hb hx=>?_,fun b o e n hb hx=>?_,I.base.free,fun b o e hx=>?_,I.base.tups,I.base.frzs,I.base.tbls⟩,⟨_,hn',fun j y v' e1 e2 e3=>?_⟩,fun y c e=>?_,I.free,I.freeC,fun p hp=>?_,tracked ⟨oL,hoL,I.free⟩ hs,by simpa using I.len⟩ ⟨_,hs,.inl rfl⟩
  ·exact (hs.2 b (Ce (B9 (BP e) I.ok.above))).trans (I.base.keep b o e n hb hx)
  ·obtain ⟨sl,e1⟩:=I.base.slot b o e n hb hx
   exact ⟨sl,(hs.2 b (Ce (B9 (BP e) I.ok.above))).trans e1⟩
  ·obtain ⟨o',e1⟩:=I.base.there b o e hx
   exact ⟨o',(hs.2 b (Ce (B9 (BP e) I.ok.above))).trans e1⟩
  ·by_cases hj:j=i
   ·subst hj
    rw [hi] at e1;cases e1
    rw [List.getElem?_set_self hiσ] at e2
    cases e2
    exact ⟨u,r,.inl ⟨hk,by simp⟩⟩
   ·rw [List.getElem?_set_ne (Ne.symm hj)] at e2
    obtain ⟨u',r',q⟩:=hl j y v' e1 e2 e3
    refine ⟨u',r',?_⟩
    rcases q with ⟨k,e⟩|⟨k,c,e,z⟩
    ·refine .inl ⟨k,?_⟩
     have:y≠x:=fun e=>hj (ie hN e1 (e ▸ hi))
     simp [this,e]
    ·exact .inr ⟨k,c,e,z.sameBut hs (cne y c e)⟩
  ·obtain ⟨w',z⟩:=I.cell y c e
   exact ⟨w',z.sameBut hs (cne y c e)⟩
  ·obtain ⟨e,n,ne,nf,d⟩:=I.pin p hp
   exact ⟨(hs.2 p.1 ne).trans e,n,ne,nf,d⟩
 ·have hfn:X.fn x=true:=by
   rcases hf with z|z
   ·exact z
   ·rw [z] at hk;cases hk
  obtain ⟨c,hc⟩:=I.ok.has x (.inl hk)
  obtain ⟨w',z⟩:=I.cell x c hc
  refine wpAny_storeName_cell I.ok.kind hk hc z (fun h' hc' hs=>?_)
  obtain ⟨oc,hoc,hocd⟩:=id z
  refine h { s with heap:=h' } ⟨I.ok,I.os,I.bare,⟨fun b o e n hb hx=>?_,fun b o e n hb hx=>?_,I.base.free,fun b o e hx=>?_,I.base.tups,I.base.frzs,I.base.tbls⟩,⟨m,hn.sameBut hs (Ne.symm (cne x c hc)),fun j y v' e1 e2 e3=>?_⟩,fun y c' e=>?_,I.free,I.freeC,fun p hp=>?_,tracked ⟨oc,hoc,I.freeC x c hc⟩ hs,by simpa using I.len⟩ ⟨c,hs,.inr hc⟩
  ·exact (hs.2 b (Ce (B9 (BP e) (I.ok.cab x c hfn hc)))).trans (I.base.keep b o e n hb hx)
  ·obtain ⟨sl,e1⟩:=I.base.slot b o e n hb hx
   exact ⟨sl,(hs.2 b (Ce (B9 (BP e) (I.ok.cab x c hfn hc)))).trans e1⟩
  ·obtain ⟨o',e1⟩:=I.base.there b o e hx
   exact ⟨o',(hs.2 b (Ce (B9 (BP e) (I.ok.cab x c hfn hc)))).trans e1⟩
  ·by_cases hj:j=i
   ·subst hj
    rw [hi] at e1;cases e1
    rw [List.getElem?_set_self hiσ] at e2
    cases e2
    exact ⟨u,r,.inr ⟨.inl hk,c,hc,hc'⟩⟩
   ·rw [List.getElem?_set_ne (Ne.symm hj)] at e2
    obtain ⟨u',r',q⟩:=hl j y v' e1 e2 e3
    refine ⟨u',r',?_⟩
    rcases q with q|⟨k,c',e,z'⟩
    ·exact .inl q
    ·refine .inr ⟨k,c',e,z'.sameBut hs ?_⟩
     rintro rfl
     exact hj (ie hN e1 (I.ok.inj _ _ _ e hc ▸ hi))
  ·by_cases hcc:c'=c
   ·subst hcc;exact ⟨_,hc'⟩
   ·obtain ⟨w2,z2⟩:=I.cell y c' e
    exact ⟨w2,z2.sameBut hs hcc⟩
  ·obtain ⟨e,n,ne,nf,d⟩:=I.pin p hp
   refine ⟨(hs.2 p.1 ?_).trans e,n,ne,nf,d⟩
   intro q
   rw [q,hoc] at e
   have q':oc=p.2:=Cf e
   exact d w' (by rw [<-q'];exact hocd)
theorem fP {M:Model} {A:Around} {E:Value->Shared->Prop} {x:Str} {Q:Unit->Shared->Prop} (I:Inv X pins σ H s) (hN:X.N.Nodup) (hi:X.N[i]?=some x) (hx:y9 X.env.scope x) (r:RelV v u)
  (h:∀ s',Inv X pins (σ.set i (some v)) H s'->Q () s') (hf:X.fn x=true\/X.env.scope.names.lookup x=some .local:=by first|exact .inl rfl|exact .inr rfl|assumption):wpAny M A (storeName X.env x u) Q E s:=
 jd I hN hi hx r (fun s' I' _=>h s' I') hf
theorem Inv.call' {s':Shared} (I:Inv X pins σ H s) (ho:s'.os=s.os) (u:Un (jD X.stack) ch H H' s.heap s'.heap) (hok:HOk X.prog X.w H' s'.heap) (hg:AllBare s'.gens)
  (hch:∀ b∈ch,(b∈X.ex\/X.s₀.heap.objs.size<=b)/\b≠X.env.locals/\(∀ x c,X.env.cells.lookup x=some c->c≠b)/\∀ p∈X.pn++pins,p.1≠b):Inv X pins σ H' s':=by
 obtain ⟨h',g',d',t',o'⟩:=s'
 have e:o'=s.os:=ho
 subst e
 exact I.call (g':=g') (t':=t') (d':=d') u hok hg hch
end
abbrev XK:=Value->Option Addr->Hp->Prop
abbrev St:=List (Option V)
abbrev VK:=V->Hp->Prop
abbrev TE:=St->Hp->VK->Prop
abbrev TT:=St->Hp->(Bool->Hp->Prop)->Prop
abbrev TA:=St->Hp->(List V->Hp->Prop)->Prop
structure Ends where
 nx:St->Hp->Prop
 rt:VK
 bk:St->Hp->Prop:=fun _ _=>False
 ct:St->Hp->Prop:=fun _ _=>False
abbrev TS:=Ends->St->Hp->Prop
inductive EP (X:Cx) (pins:List (Addr×Obj)) (σ:St) (Q:VK) (u:Value) (s':Shared):Prop
 | mk (v H':_):Inv X pins σ H' s'->RelV v u->Q v H'->EP X pins σ Q u s'
def TP (X:Cx) (pins:List (Addr×Obj)) (σ:St) (Q:Bool->Hp->Prop) (b:Bool) (s':Shared):Prop:=∃ H',Inv X pins σ H' s'/\Q b H'
inductive AP (X:Cx) (pins:List (Addr×Obj)) (σ:St) (Q:List V->Hp->Prop) (us:List Value) (s':Shared):Prop
 | mk (vs H':_):Inv X pins σ H' s'->Vals vs us->Q vs H'->AP X pins σ Q us s'
def SP (X:Cx) (pins:List (Addr×Obj)) (D:Ends) (f:Flow) (s':Shared):Prop:=
 match f with
 | .next=>∃ σ' H',Inv X pins σ' H' s'/\D.nx σ' H'
 | .brk=>∃ σ' H',Inv X pins σ' H' s'/\D.bk σ' H'
 | .cont=>∃ σ' H',Inv X pins σ' H' s'/\D.ct σ' H'
 | .ret u=>∃ v σ' H',Inv X pins σ' H' s'/\RelV v u/\D.rt v H'
structure PE (X:Cx) (e:Expr) (t:TE):Prop where
 run:∀ (pins:List (Addr×Obj)) (s:Shared) (σ:St) (H:Hp) (Q:VK),Inv X pins σ H s->t σ H Q->wpAny (model X.prog X.w) X.A (eval e X.env) (EP X pins σ Q) X.xe s
instance {X:Cx} {e:Expr} {t:TE}:CoeFun (PE X e t) fun _=>∀ (pins:List (Addr×Obj)) (s:Shared) (σ:St) (H:Hp) (Q:VK),Inv X pins σ H s->t σ H Q->wpAny (model X.prog X.w) X.A (eval e X.env) (EP X pins σ Q) X.xe s:=⟨PE.run⟩
structure PT (X:Cx) (e:Expr) (t:TT):Prop where
 run:∀ (pins:List (Addr×Obj)) (s:Shared) (σ:St) (H:Hp) (Q:Bool->Hp->Prop),Inv X pins σ H s->t σ H Q->wpAny (model X.prog X.w) X.A (isTrue e X.env (eval e X.env)) (TP X pins σ Q) X.xe s
instance {X:Cx} {e:Expr} {t:TT}:CoeFun (PT X e t) fun _=>∀ (pins:List (Addr×Obj)) (s:Shared) (σ:St) (H:Hp) (Q:Bool->Hp->Prop),Inv X pins σ H s->t σ H Q->wpAny (model X.prog X.w) X.A (isTrue e X.env (eval e X.env)) (TP X pins σ Q) X.xe s:=⟨PT.run⟩
structure PW (X:Cx) (e:Expr) (t:TT):Prop where
 run:∀ (whole:Sem Value) (pins:List (Addr×Obj)) (s:Shared) (σ:St) (H:Hp) (Q:Bool->Hp->Prop),Inv X pins σ H s->t σ H Q->wpAny (model X.prog X.w) X.A (isTrue e X.env whole) (TP X pins σ Q) X.xe s
instance {X:Cx} {e:Expr} {t:TT}:CoeFun (PW X e t) fun _=>∀ (whole:Sem Value) (pins:List (Addr×Obj)) (s:Shared) (σ:St) (H:Hp) (Q:Bool->Hp->Prop),Inv X pins σ H s->t σ H Q->wpAny (model X.prog X.w) X.A (isTrue e X.env whole) (TP X pins σ Q) X.xe s:=⟨PW.run⟩
variable {e:Expr} {X:Cx}
theorem PW.pt {t:TT} (h:PW X e t):PT X e t:=⟨fun pins s σ H Q I q=>h _ pins s σ H Q I q⟩
structure PA (X:Cx) (es:List Expr) (t:TA):Prop where
 run:∀ (pos:Pos) (pins:List (Addr×Obj)) (s:Shared) (σ:St) (H:Hp) (Q:List V->Hp->Prop),Inv X pins σ H s->t σ H Q->wpAny (model X.prog X.w) X.A (spliced (backTo pos (starEach es X.env))) (AP X pins σ Q) X.xe s
instance {X:Cx} {es:List Expr} {t:TA}:CoeFun (PA X es t) fun _=>∀ (pos:Pos) (pins:List (Addr×Obj)) (s:Shared) (σ:St) (H:Hp) (Q:List V->Hp->Prop),Inv X pins σ H s->t σ H Q->wpAny (model X.prog X.w) X.A (spliced (backTo pos (starEach es X.env))) (AP X pins σ Q) X.xe s:=⟨PA.run⟩
structure PS (X:Cx) (st:Stmt) (t:TS):Prop where
 run:∀ (pins:List (Addr×Obj)) (s:Shared) (σ:St) (H:Hp) (D:Ends),Inv X pins σ H s->t D σ H->wpAny (model X.prog X.w) X.A (exec st X.env) (SP X pins D) X.xe s
instance {X:Cx} {st:Stmt} {t:TS}:CoeFun (PS X st t) fun _=>∀ (pins:List (Addr×Obj)) (s:Shared) (σ:St) (H:Hp) (D:Ends),Inv X pins σ H s->t D σ H->wpAny (model X.prog X.w) X.A (exec st X.env) (SP X pins D) X.xe s:=⟨PS.run⟩
structure PSs (X:Cx) (st:List Stmt) (t:TS):Prop where
 run:∀ (pins:List (Addr×Obj)) (s:Shared) (σ:St) (H:Hp) (D:Ends),Inv X pins σ H s->t D σ H->wpAny (model X.prog X.w) X.A (execs st X.env) (SP X pins D) X.xe s
instance {X:Cx} {st:List Stmt} {t:TS}:CoeFun (PSs X st t) fun _=>∀ (pins:List (Addr×Obj)) (s:Shared) (σ:St) (H:Hp) (D:Ends),Inv X pins σ H s->t D σ H->wpAny (model X.prog X.w) X.A (execs st X.env) (SP X pins D) X.xe s:=⟨PSs.run⟩
variable {s:Shared} {E:Value->Shared->Prop} {A:Around} {M:Model}
theorem bF {α:Type} {t:Sem α} {Q Q':α->Shared->Prop} (h:wpAny M A t Q E s) (hQ:∀ a s,Q a s->Q' a s):wpAny M A t Q' E s:=wpAny_mono h hQ fun _ _ x=>x
section
variable {X:Cx}
inductive iW (i:Nat) (σ:St) (H:Hp) (Q:VK):Prop
 | mk (v:_):σ[i]?=some (some v)->Q v H->iW i σ H Q
def tC (v:V):TE:=fun _ H Q=>Q v H
theorem wx {i:Nat} {x:Str} {pos:Pos} (hN:X.N[i]?=some x) (hv:y8 X.env.scope x) (hd:(x == ("__debug__":Str))=false:=by decide) (hcd:(x == ("__classdict__":Str))=false:=by decide):PE X (.Name x pos) (iW i):=by
 refine ⟨?_⟩
 intro pins s σ H Q I h
 obtain ⟨v,e,h⟩:=h
 obtain ⟨m,hn,hl⟩:=I.loc
 obtain ⟨u,r,l⟩:=hl i x v hN e hv
 have fin:EP X pins σ Q u s:=⟨v,H,I,r,h⟩
 rcases l with ⟨hk,hm⟩|⟨hk,c,hc,hcell⟩
 ·exact wpAny_Name (wpAny_loadName_local I.ok.kind hk hn hm fin) hd
 ·rcases hk with hk|hk
  ·exact wpAny_Name (wpAny_loadName_cell I.ok.kind hk hc hcell fin) hd
  ·exact wpAny_Name (wpAny_loadName_free I.ok.kind hk hc hcell fin hcd) hd
theorem ai {i j pos}:PE X (.Constant (.int i) j pos) (tC (.int i)):=⟨fun _ _ _ H _ I h=>wpAny_Constant_int ⟨.int i,H,I.tok _,⟨_,rfl⟩,h⟩⟩
theorem df {b j pos}:PE X (.Constant (.bool b) j pos) (tC (.bl b)):=⟨fun _ _ _ H _ I h=>Constant_bool ⟨.bl b,H,I,rfl,h⟩⟩
theorem dD {j pos}:PE X (.Constant .none j pos) (tC .non):=⟨fun _ _ _ H _ I h=>Constant_none ⟨.non,H,I,rfl,h⟩⟩
theorem ak {x j pos}:PE X (.Constant (.str x) j pos) (tC (.str x)):=⟨fun _ _ _ H _ I h=>Calls.Constant_str ⟨.str x,H,I.tok _,⟨_,rfl⟩,h⟩⟩
def Gl (X:Cx) (x:Str):Prop:=X.env.kindOf x=some .globalImplicit
variable {Q:Value->Shared->Prop} {σ:St} {pins:List (Addr×Obj)}
theorem dE {E:Value->Shared->Prop} {x:Str} {pos:Pos} (I:Inv X pins σ H s) (hg:Gl X x) (hm:X.mg x=some u) (h:Q u s)
  (hd:(x == ("__debug__":Str))=false:=by decide):wpAny (model X.prog X.w) X.A (eval (.Name x pos) X.env) Q E s:=
 Calls.Name_function_global I.ok.kind hg (Calls.loadGlobal_global (by rw [I.ok.glob];exact I.mod.glob.keeps I.bk) hm h) hd
theorem dS {E:Value->Shared->Prop} {x:Str} {pos:Pos} (I:Inv X pins σ H s) (hg:Gl X x) (hm:X.mg x=none) (hv:bootBuiltins x=some u) (h:Q u s)
  (hn:x≠"__name__":=by decide) (hd:(x == ("__debug__":Str))=false:=by decide):wpAny (model X.prog X.w) X.A (eval (.Name x pos) X.env) Q E s:=by
 obtain ⟨mb,h1,h2⟩:=I.mod.blt
 exact Calls.Name_function_global I.ok.kind hg (Calls.loadGlobal_builtin (by rw [I.ok.glob];exact I.mod.glob.keeps I.bk) hm (by rw [I.ok.blt];exact h1.keeps I.bk) ((h2 x hn).trans hv) h) hd
variable {v:V}
theorem aX {x:Str} {pos:Pos} (hg:Gl X x) (hm:X.mg x=some u) (r:RelV v u) (hd:(x == ("__debug__":Str))=false:=by decide):PE X (.Name x pos) (tC v):=
 ⟨fun _ _ _ H _ I h=>dE I hg hm ⟨v,H,I,r,h⟩ hd⟩
theorem tI {x:Str} {pos:Pos} (hg:Gl X x) (hm:X.mg x=none) (hv:bootBuiltins x=some u) (r:RelV v u) (hn:x≠"__name__":=by decide) (hd:(x == ("__debug__":Str))=false:=by decide):PE X (.Name x pos) (tC v):=
 ⟨fun _ _ _ H _ I h=>dS I hg hm hv ⟨v,H,I,r,h⟩ hn hd⟩
variable {a b:Expr} {ta tb:TE} {pos:Pos}
def PC (X:Cx) (op:CmpOp) (a b:Expr) (t:TE):Prop:=
 ∀ (pins:List (Addr×Obj)) (s:Shared) (σ:St) (H:Hp) (Q:VK),Inv X pins σ H s->t σ H Q->
  wpAny (model X.prog X.w) X.A (eval a X.env) (fun v s₁=>wpAny (model X.prog X.w) X.A (eval b X.env) (fun u s₂=>wpAny (model X.prog X.w) X.A (compareOp op v u) (EP X pins σ Q) X.xe s₂) X.xe s₁) X.xe s
inductive Bn (Q:Bool->Hp->Prop) (x:V) (H1:Hp):Prop
 | mk (c:_):x=.bl c->Q c H1->Bn Q x H1
def tB (t:TE):TT:=fun σ H Q=>t σ H fun x H1=>Bn Q x H1
variable {t:TE}
theorem lS {op:CmpOp} (h:PC X op a b t) (h1:behindInMarks op b=false:=by first|exact nobehind _ (by decide) (by decide)|rfl):PT X (.Compare a [op] [b] pos) (tB t):=by
 refine ⟨?_⟩
 intro pins s σ H Q I hw
 refine wpAny_isTrue_Compare1 (bF (h pins s σ H _ I hw) fun v s1 h1=>bF h1 fun u s2 h2=>bF h2 fun c s3 ⟨x,H1,I1,r1,q1⟩=>?_) h1
 obtain ⟨d,rfl,q⟩:=q1
 cases r1
 exact wpAny_truthy_bool ⟨H1,I1,q⟩
theorem bf (h:PE X e t) (he:∀ whole,isTrue e X.env whole=(do let v <-whole;standAt e.pos;holding [v] (truthy v)):=by intro _;rfl):PT X e (tB t):=by
 refine ⟨?_⟩
 intro pins s σ H Q I hw
 refine isTrue_plain (bF (h pins s σ H _ I hw) fun v s1 ⟨x,H1,I1,r1,q1⟩=>?_) (he _)
 obtain ⟨d,rfl,q⟩:=q1
 cases r1
 exact wpAny_truthy_bool ⟨H1,I1,q⟩
variable {tA tB':TT} {rest:List Expr}
def AA (t u:TT):TT:=fun σ H Q=>t σ H fun c H1=>if c=true then u σ H1 Q else Q false H1
def Bz (t u:TT):TT:=fun σ H Q=>t σ H fun c H1=>if c=true then Q true H1 else u σ H1 Q
def AB (t:TT):TT:=fun σ H Q=>t σ H fun c H1=>Q (!c) H1
theorem bU (ha:PT X a tA):PW X (.BoolOp .And [a] pos) tA:=by
 refine ⟨?_⟩
 intro wh pins s σ H Q I h
 refine isTrue_and (bF (ha pins s σ H Q I h) fun c s1 e=>?_)
 cases c with
 | true=>exact isTrue_and_nil e
 | false=>exact e
theorem bY (ha:PT X a tA):PW X (.BoolOp .Or [a] pos) tA:=by
 refine ⟨?_⟩
 intro wh pins s σ H Q I h
 refine isTrue_or (bF (ha pins s σ H Q I h) fun c s1 e=>?_)
 cases c with
 | false=>exact isTrue_or_nil e
 | true=>exact e
theorem cm (ha:PT X a tA) (hb:PW X (.BoolOp .And (b::rest) pos) tB'):PW X (.BoolOp .And (a::b::rest) pos) (AA tA tB'):=by
 refine ⟨?_⟩
 intro wh pins s σ H Q I h
 refine isTrue_and (bF (ha pins s σ H _ I h) fun c s1 ⟨H1,I1,q1⟩=>?_)
 cases c with
 | true=>exact hb wh pins s1 σ H1 Q I1 q1
 | false=>exact ⟨H1,I1,q1⟩
theorem cA (ha:PT X a tA) (hb:PW X (.BoolOp .Or (b::rest) pos) tB'):PW X (.BoolOp .Or (a::b::rest) pos) (Bz tA tB'):=by
 refine ⟨?_⟩
 intro wh pins s σ H Q I h
 refine isTrue_or (bF (ha pins s σ H _ I h) fun c s1 ⟨H1,I1,q1⟩=>?_)
 cases c with
 | true=>exact ⟨H1,I1,q1⟩
 | false=>exact hb wh pins s1 σ H1 Q I1 q1
theorem cf (ha:PT X a tA):PT X (.UnaryOp .Not a pos) (AB tA):=by
 refine ⟨?_⟩
 intro pins s σ H Q I h
 exact isTrue_not (ha pins s σ H (fun c H1=>Q (!c) H1) I h)
inductive pM (tb:TE) (σ:St) (Q:VK) (x:V) (H1:Hp):Prop
 | mk (c:_):x=.bl c->(if c=true then tb σ H1 Q else Q (.bl false) H1)->pM tb σ Q x H1
def zb (ta tb:TE):TE:=fun σ H Q=>ta σ H fun x H1=>pM tb σ Q x H1
inductive vy (tb:TE) (σ:St) (Q:VK) (x:V) (H1:Hp):Prop
 | mk (c:_):x=.bl c->(if c=true then Q (.bl true) H1 else tb σ H1 Q)->vy tb σ Q x H1
def AC (ta tb:TE):TE:=fun σ H Q=>ta σ H fun x H1=>vy tb σ Q x H1
inductive pN (Q:VK) (x:V) (H1:Hp):Prop
 | mk (c:_):x=.bl c->Q (.bl (!c)) H1->pN Q x H1
def zc (ta:TE):TE:=fun σ H Q=>ta σ H fun x H1=>pN Q x H1
theorem bJ {op} (h:PE X a t):PE X (.BoolOp op [a] pos) t:=⟨fun pins s σ H Q I hw=>BoolOp_one (h pins s σ H Q I hw)⟩
theorem bE (ha:PE X a ta) (hb:PE X (.BoolOp .And (b::rest) pos) tb):PE X (.BoolOp .And (a::b::rest) pos) (zb ta tb):=by
 refine ⟨?_⟩
 intro pins s σ H Q I h
 refine BoolOp_and (bF (ha pins s σ H _ I h) fun v s1 ⟨x,H1,I1,r1,q1⟩=>?_)
 obtain ⟨c,rfl,q1⟩:=q1
 cases r1
 refine wpAny_truthy_bool ?_
 cases c with
 | true=>exact hb pins s1 σ H1 Q I1 q1
 | false=>exact ⟨.bl false,H1,I1,rfl,q1⟩
theorem pO (ha:PE X a ta) (hb:PE X (.BoolOp .Or (b::rest) pos) tb):PE X (.BoolOp .Or (a::b::rest) pos) (AC ta tb):=by
 refine ⟨?_⟩
 intro pins s σ H Q I h
 refine BoolOp_or (bF (ha pins s σ H _ I h) fun v s1 ⟨x,H1,I1,r1,q1⟩=>?_)
 obtain ⟨c,rfl,q1⟩:=q1
 cases r1
 refine wpAny_truthy_bool ?_
 cases c with
 | false=>exact hb pins s1 σ H1 Q I1 q1
 | true=>exact ⟨.bl true,H1,I1,rfl,q1⟩
theorem pP (ha:PE X a ta):PE X (.UnaryOp .Not a pos) (zc ta):=by
 refine ⟨?_⟩
 intro pins s σ H Q I h
 refine UnaryOp_ (bF (ha pins s σ H _ I h) fun v s1 ⟨x,H1,I1,r1,q1⟩=>?_)
 obtain ⟨c,rfl,q1⟩:=q1
 cases r1
 exact not_of (wpAny_truthy_bool ⟨.bl (!c),H1,I1,rfl,q1⟩)
def BA (t:TT) (ta tb:TE):TE:=fun σ H Q=>t σ H fun c H1=>if c=true then ta σ H1 Q else tb σ H1 Q
theorem pQ {c:Expr} (hc:PT X c tA) (ha:PE X a ta) (hb:PE X b tb):PE X (.IfExp c a b pos) (BA tA ta tb):=by
 refine ⟨?_⟩
 intro pins s σ H Q I h
 refine wpAny_IfExp (bF (hc pins s σ H _ I h) fun d s1 ⟨H1,I1,q1⟩=>?_)
 cases d with
 | true=>exact ha pins s1 σ H1 Q I1 q1
 | false=>exact hb pins s1 σ H1 Q I1 q1
end
def SqL (K:ZF) (H:Hp) (a:Addr) (xs:List V):Prop:=
 Rd H a (.lst xs) ∨
  ∃ (o:Obj) (its:Array Value) (n:Nat),K.lookup a=some o/\o.cls=.type "list"/\o.dict=none/\o.data=.seq its n/\its.size<=sizeLine/\Vals xs its.toList
def SqT (K:ZF) (H:Hp) (a:Addr) (xs:List V):Prop:=
 Rd H a (.tup xs) ∨
  ∃ (o:Obj) (its:Array Value) (n:Nat),K.lookup a=some o/\o.cls=.type "tuple"/\o.data=.seq its n/\its.size<=sizeLine/\Vals xs its.toList
def AE:Value->Option V
 | .none=>some .non
 | .bool b=>some (.bl b)
 | .int i _=>some (.int i)
 | .str x _=>some (.str x)
 | .bytes b _=>some (.byt b)
 | .float b _=>some (.flt b)
 | .ref a=>some (.ref a)
 | .type n=>some (.ty n)
 | _=>none
theorem RelV.abs (r:RelV x u):AE u=some x:=by
 cases x with
 | non=>cases r;rfl
 | bl _=>cases r;rfl
 | int _=>obtain ⟨t,rfl⟩:=r;rfl
 | str _=>obtain ⟨t,rfl⟩:=r;rfl
 | byt _=>obtain ⟨t,rfl⟩:=r;rfl
 | flt _=>obtain ⟨t,rfl⟩:=r;rfl
 | ref _=>cases r;rfl
 | ty _=>cases r;rfl
variable {y:V}
theorem RelV.inj (r:RelV x u) (q:RelV y u):x=y:=Cf (r.abs.symm.trans q.abs)
theorem Vals.inj:∀ {xs ys:List V} {us:List Value},Vals xs us->Vals ys us->xs=ys
 | _,_,_,.nil,.nil=>rfl
 | _,_,_,.cons r t,.cons r' t'=>by rw [r.inj r',Vals.inj t t']
section
variable {X:Cx} {pins:List (Addr×Obj)} {σ:St} {H:Hp} {s:Shared} {a:Addr} {xs ys:List V}
variable {K:ZF}
theorem SqL.of (h:H a=some (.lst xs)):SqL K H a xs:=.inl (.inl h)
theorem SqT.of (h:H a=some (.tup xs)):SqT K H a xs:=.inl (.inl h)
theorem Inv.list (I:Inv X pins σ H s) (h:SqL X.K H a xs):∃ its:List Value,Vals xs its/\PlainL s.heap a its.toArray/\xs.length<=sizeLine:=by
 rcases h with h|⟨o,its,n,hk,hc,hd,hs,hz,r⟩
 ·obtain ⟨z,its,n,r,e⟩:=h.ok I.hok
  exact ⟨its,r,⟨_,n,e,rfl,rfl,rfl⟩,z⟩
 ·refine ⟨its.toList,r,⟨o,n,I.kIn a o hk,hc,hd,by simpa using hs⟩,?_⟩
  have e:=r.length
  simp only [C8] at e
  lia
theorem Inv.tuple (I:Inv X pins σ H s) (h:SqT X.K H a xs):∃ its:List Value,Vals xs its/\IsTup s.heap a its.toArray/\xs.length<=sizeLine:=by
 rcases h with h|⟨o,its,n,hk,hc,hs,hz,r⟩
 ·obtain ⟨z,its,r,p⟩:=h.ok I.hok
  exact ⟨its,r,p.up,z⟩
 ·refine ⟨its.toList,r,⟨o,I.kIn a o hk,hc,n,by simpa using hs⟩,?_⟩
  have e:=r.length
  simp only [C8] at e
  lia
theorem Inv.list_inj (I:Inv X pins σ H s) (h:SqL X.K H a xs) (h':SqL X.K H a ys):xs=ys:=by
 obtain ⟨its,r,⟨o,n,e,_,_,d⟩,_⟩:=I.list h
 obtain ⟨its',r',⟨o',n',e',_,_,d'⟩,_⟩:=I.list h'
 rw [e] at e';cases e'
 rw [d] at d'
 injection d' with d1 _
 have:its=its':=by simpa using congrArg Array.toList d1
 subst this
 exact r.inj r'
theorem Inv.tuple_inj (I:Inv X pins σ H s) (h:SqT X.K H a xs) (h':SqT X.K H a ys):xs=ys:=by
 obtain ⟨its,r,⟨o,e,_,n,d⟩,_⟩:=I.tuple h
 obtain ⟨its',r',⟨o',e',_,n',d'⟩,_⟩:=I.tuple h'
 rw [e] at e';cases e'
 rw [d] at d'
 injection d' with d1 _
 have:its=its':=by simpa using congrArg Array.toList d1
 subst this
 exact r.inj r'
end
abbrev Cx.wish (X:Cx) (E:Value->Shared->Prop):Cx:={ X with xe:=E }
abbrev Cx.nox (X:Cx):Cx:=X.wish fun _ _=>False
theorem Cx.Ok.wish (ok:X.Ok) (E:Value->Shared->Prop):(X.wish E).Ok:=
 ⟨ok.mod,ok.kind,ok.glob,ok.blt,ok.above,ok.inj,ok.has,ok.cab,ok.hd,ok.frames,ok.stk,ok.exf,ok.bs,ok.bsz,ok.noex,ok.exfs,ok.funs,ok.frf⟩
theorem Cx.Ok.unwish (ok:(X.wish E).Ok):X.Ok:=
 ⟨ok.mod,ok.kind,ok.glob,ok.blt,ok.above,ok.inj,ok.has,ok.cab,ok.hd,ok.frames,ok.stk,ok.exf,ok.bs,ok.bsz,ok.noex,ok.exfs,ok.funs,ok.frf⟩
section
variable {X:Cx} {pins:List (Addr×Obj)} {σ:St} {H:Hp} {s:Shared} {E:Value->Shared->Prop}
theorem Inv.wish (I:Inv X pins σ H s) (E:Value->Shared->Prop):Inv (X.wish E) pins σ H s:=⟨I.ok.wish E,I.os,I.bare,I.base,I.loc,I.cell,I.free,I.freeC,I.pin,I.hok,I.len⟩
theorem Inv.unwish (I:Inv (X.wish E) pins σ H s):Inv X pins σ H s:=⟨I.ok.unwish,I.os,I.bare,I.base,I.loc,I.cell,I.free,I.freeC,I.pin,I.hok,I.len⟩
theorem SP.unwish {D:Ends} {f:Flow} {s':Shared} (h:SP (X.wish E) pins D f s'):SP X pins D f s':=by
 cases f with
 | next=>obtain ⟨σ',H',I,q⟩:=h;exact ⟨σ',H',I.unwish,q⟩
 | brk=>obtain ⟨σ',H',I,q⟩:=h;exact ⟨σ',H',I.unwish,q⟩
 | cont=>obtain ⟨σ',H',I,q⟩:=h;exact ⟨σ',H',I.unwish,q⟩
 | ret u=>obtain ⟨v,σ',H',I,r,q⟩:=h;exact ⟨v,σ',H',I.unwish,r,q⟩
theorem PSs.nox {st:List Stmt} {t:TS} (h:PSs X.nox st t):PSs X st t:=⟨fun pins s σ H D I hw=>
 wpAny_mono (h pins s σ H D (I.wish _) hw) (fun _ _ q=>q.unwish) fun _ _ z=>False.elim z⟩
end
section
variable {X:Cx} {st:Stmt} {rest:List Stmt} {t u:TS} {e:Expr} {te:TE} {pos:Pos}
def zd:TS:=fun D σ H=>D.nx σ H
def AF (t u:TS):TS:=fun D σ H=>t { D with nx:=u D } σ H
theorem ay:PSs X [] zd:=⟨fun _ _ σ H _ I h=>wpAny_execs_nil ⟨σ,H,I,h⟩⟩
theorem af (h1:PS X st t) (h2:PSs X rest u):PSs X (st::rest) (AF t u):=by
 refine ⟨?_⟩
 intro pins s σ H D I h
 refine wpAny_execs_cons (bF (h1 pins s σ H { D with nx:=u D } I h) fun f s1 q=>?_)
 cases f with
 | next=>
  obtain ⟨σ',H',I',q⟩:=q
  exact h2 pins s1 σ' H' D I' q
 | ret v=>exact q
 | brk=>exact q
 | cont=>exact q
theorem ah (h1:PS X st t):PSs X [st] t:=by
 refine ⟨?_⟩
 intro pins s σ H D I h
 refine wpAny_execs_cons (bF (h1 pins s σ H D I h) fun f s1 q=>?_)
 cases f with
 | next=>exact wpAny_execs_nil q
 | ret v=>exact q
 | brk=>exact q
 | cont=>exact q
theorem Inv.quiet {pins:List (Addr×Obj)} {σ:St} (I:Inv X pins σ H s):interactive X.env=false:=by simp [interactive,I.ok.kind]
def ze (te:TE):TS:=fun D σ H=>te σ H fun _ H1=>D.nx σ H1
theorem bo (he:PE X e te) (hs:swapsWith e none pos.line X.env=pure false:=by rfl):PS X (.Expr e pos) (ze te):=by
 refine ⟨?_⟩
 intro pins s σ H D I h
 exact wpAny_Expr_any (bF (he pins s σ H _ I h) fun v s1 ⟨x,H1,I1,r1,q1⟩=>⟨σ,H1,I1,q1⟩) I.quiet hs
def tJ (te:TE):TS:=fun D σ H=>te σ H D.rt
theorem al (he:PE X e te):PS X (.Return (some e) pos) (tJ te):=by
 refine ⟨?_⟩
 intro pins s σ H D I h
 exact wpAny_Return_some (bF (he pins s σ H _ I h) fun v s1 ⟨x,H1,I1,r1,q1⟩=>⟨x,σ,H1,I1,r1,q1⟩)
def AG (c:TT) (t u:TS):TS:=fun D σ H=>c σ H fun b H1=>if b=true then t D σ H1 else u D σ H1
theorem aQ {c:Expr} {a b:List Stmt} {tc:TT} (hc:PT X c tc) (ha:PSs X a t) (hb:PSs X b u):PS X (.If c a b pos) (AG tc t u):=by
 refine ⟨?_⟩
 intro pins s σ H D I h
 refine wpAny_If (bF (hc pins s σ H _ I h) fun d s1 ⟨H1,I1,q1⟩=>?_)
 cases d with
 | true=>exact ha pins s1 σ H1 D I1 q1
 | false=>exact hb pins s1 σ H1 D I1 q1
def wy:TS:=fun _ _ _=>False
theorem bx:PS X st wy:=⟨fun _ _ _ _ _ _ h=>h.elim⟩
end
abbrev TG:=V->St->Hp->(St->Hp->Prop)->Prop
abbrev wz:=List V->St->Hp->(St->Hp->Prop)->Prop
def PG (X:Cx) (target:Expr) (t:TG):Prop:=
 ∀ (pins:List (Addr×Obj)) (s:Shared) (σ:St) (H:Hp) (v:V) (u:Value) (Q:St->Hp->Prop),Inv X pins σ H s->RelV v u->t v σ H Q->
  wpAny (model X.prog X.w) X.A (assign target X.env u) (fun _ s'=>∃ σ' H',Inv X pins σ' H' s'/\Q σ' H') X.xe s
def zf (X:Cx) (ts:List Expr) (t:wz):Prop:=
 ∀ (pins:List (Addr×Obj)) (s:Shared) (σ:St) (H:Hp) (vs:List V) (us:List Value) (Q:St->Hp->Prop),Inv X pins σ H s->Vals vs us->t vs σ H Q->
  wpAny (model X.prog X.w) X.A (assignInOrder ((assignEach ts X.env).map (·.2)) us) (fun _ s'=>∃ σ' H',Inv X pins σ' H' s'/\Q σ' H') X.xe s
abbrev wB:=V->V->V->Hp->(Hp->Prop)->Prop
def zg (X:Cx) (t:wB):Prop:=
 ∀ (pins:List (Addr×Obj)) (s:Shared) (σ:St) (H:Hp) (o i v:V) (ov iv u:Value) (Q:Hp->Prop),Inv X pins σ H s->RelV o ov->RelV i iv->RelV v u->t o i v H Q->
  wpAny (model X.prog X.w) X.A (setItem ov iv u) (fun _ s'=>∃ H',Inv X pins σ H' s'/\Q H') X.xe s
abbrev AH:=V->V->Hp->VK->Prop
def Bo (X:Cx) (op:Operator) (t:AH):Prop:=
 ∀ (pins:List (Addr×Obj)) (s:Shared) (σ:St) (H:Hp) (x y:V) (v u:Value) (Q:VK),Inv X pins σ H s->RelV x v->RelV y u->t x y H Q->
  wpAny (model X.prog X.w) X.A (inplaceOp op v u) (EP X pins σ Q) X.xe s
section
variable {X:Cx} {pos:Pos}
def vz (i:Nat):TG:=fun v σ H Q=>Q (σ.set i (some v)) H
variable {i:Nat}
theorem aI {x:Str} (hN:X.N.Nodup) (hi:X.N[i]?=some x) (hx:y9 X.env.scope x) (hf:X.fn x=true\/X.env.scope.names.lookup x=some .local:=by first|exact .inl rfl|exact .inr rfl|assumption):PG X (.Name x pos) (vz i):=by
 intro pins s σ H v u Q I r h
 exact wpAny_assign_Name (fP I hN hi hx r (fun s' I'=>⟨_,H,I',h⟩) hf)
def AI:wz:=fun vs σ H Q=>vs=[]/\Q σ H
inductive vA (t:TG) (u:wz) (vs:List V) (σ:St) (H:Hp) (Q:St->Hp->Prop):Prop
 | mk (v r:_):vs=v::r->(t v σ H fun σ' H'=>u r σ' H' Q)->vA t u vs σ H Q
theorem cg:zf X [] AI:=by
 intro pins s σ H vs us Q I r h
 obtain ⟨e,h⟩:=h
 subst e
 cases r
 exact assignInOrder_nil ⟨σ,H,I,h⟩
variable {es:List Expr}
theorem aR {t:TG} {u:wz} (h1:PG X e t) (h2:zf X es u)
  (hs:(assignEach (e::es) X.env).map (·.2)=assign e X.env::(assignEach es X.env).map (·.2):=by rfl):zf X (e::es) (vA t u):=by
 intro pins s σ H vs us Q I r h
 obtain ⟨v,vr,e1,h⟩:=h
 subst e1
 cases r with
 | cons r rr=>
  rw [hs]
  refine assignInOrder_cons (bF (h1 pins s σ H _ _ _ I r h) fun _ s1 ⟨σ1,H1,I1,q1⟩=>?_)
  exact h2 pins s1 σ1 H1 _ _ Q I1 rr q1
inductive wC (K:ZF) (n:Nat) (t:wz) (v:V) (σ:St) (H:Hp) (Q:St->Hp->Prop):Prop
 | mk (a xs:_):v=.ref a->SqT K H a xs->xs.length=n->t xs σ H Q->wC K n t v σ H Q
theorem c9 {k:Nat} {t:wz} {n:Nat} (hc:X.calm=true) (h:zf X es t)
  (hn:(assignEach es X.env).length=n:=by rfl) (hst:(assignEach es X.env).findIdx? (·.1)=none:=by rfl):PG X (.Tuple es k pos) (wC X.K n t):=by
 intro pins s σ H v u Q I r hw
 obtain ⟨a,xs,e1,hq,hl,hw⟩:=hw
 subst e1
 cases r
 obtain ⟨its,rv,ht,hz⟩:=I.tuple hq
 refine assign_Tuple_tuple (I.ok.hd hc) ht (by simp [hn,<-hl,rv.length]) hst fun h' hx=>?_
 have I1:Inv X pins σ H { s with heap:=h' }:=I.kept (t':=s.toks) fun b o e=>hx b o (Ce (BP e)) e
 exact h pins _ σ H xs _ Q I1 (by simpa using rv) hw
def AJ (to ti:TE) (t:wB):TG:=fun v σ H Q=>to σ H fun o H1=>ti σ H1 fun i H2=>t o i v H2 fun H3=>Q σ H3
theorem pR {o i:Expr} {to ti:TE} {t:wB} (ho:PE X o to) (hi:PE X i ti) (hs:zg X t)
  (ha:∀ v,assign (.Subscript o i pos) X.env v=(do
   let ov <-holding [v] (eval o X.env)
   let iv <-holding [v,ov] (eval i X.env)
   standAt pos
   holding [v,ov,iv] (setItem ov iv v)
   release [v,ov,iv] []):=by intro _;rfl):PG X (.Subscript o i pos) (AJ to ti t):=by
 intro pins s σ H v u Q I r h
 rw [ha]
 refine wpAny_bind (wpAny_holding (bF (ho pins s σ H _ I h) fun ov s1 ⟨x,H1,I1,r1,q1⟩=>?_))
 refine wpAny_bind (wpAny_holding (bF (hi pins s1 σ H1 _ I1 q1) fun iv s2 ⟨y,H2,I2,r2,q2⟩=>?_))
 refine wpAny_bind (wpAny_standAt (wpAny_bind (wpAny_holding (bF (hs pins s2 σ H2 x y v ov iv u _ I2 r1 r2 r q2) fun _ s3 ⟨H3,I3,q3⟩=>?_))))
 exact wpAny_release ⟨σ,H3,I3,q3⟩
def zh (te:TE) (g:TG):TS:=fun D σ H=>te σ H fun x H1=>g x σ H1 D.nx
variable {te:TE}
theorem ig {tg e:Expr} {g:TG} (he:PE X e te) (hg:PG X tg g) (hs:swapsWithSole [tg] e pos.line X.env=pure false:=by rfl) (hw:swappedStores [tg] e X.env=pure none:=by rfl)
  (h1:(assignEach [tg] X.env).map (·.2)=[assign tg X.env]:=by rfl):PS X (.Assign [tg] e pos) (zh te g):=by
 refine ⟨?_⟩
 intro pins s σ H D I h
 refine wpAny_Assign_stores (bF (he pins s σ H _ I h) fun v s1 ⟨x,H1,I1,r1,q1⟩=>?_) hs hw
 rw [h1]
 exact bF (hg pins s1 σ H1 x v _ I1 r1 q1) fun _ s2 q=>q
theorem aB {x:Str} {pos':Pos} (hN:X.N.Nodup) (hi:X.N[i]?=some x) (hx:y9 X.env.scope x) (he:PE X e te) (hs:swapsWith e (some (.Name x pos')) pos.line X.env=pure false:=by rfl) (hf:X.fn x=true\/X.env.scope.names.lookup x=some .local:=by first|exact .inl rfl|exact .inr rfl|assumption) :
  PS X (.Assign [.Name x pos'] e pos) (zh te (vz i)):=by
 refine ⟨?_⟩
 intro pins s σ H D I h
 refine wpAny_Assign_Name (bF (he pins s σ H _ I h) fun v s1 ⟨y,H1,I1,r1,q1⟩=>?_) hs
 exact fP I1 hN hi hx r1 (fun s2 I2=>⟨_,H1,I2,q1⟩) hf
inductive zi (i:Nat) (te:TE) (ti:AH) (D:Ends) (σ:St) (H:Hp):Prop
 | mk (x:_):σ[i]?=some (some x)->(te σ H fun y H1=>ti x y H1 fun z H2=>D.nx (σ.set i (some z)) H2)->zi i te ti D σ H
theorem lT {x:Str} {op:Operator} {ti:AH} {pos':Pos} (hN:X.N.Nodup) (hi:X.N[i]?=some x) (hx:y9 X.env.scope x) (he:PE X e te) (ho:Bo X op ti) (hf:X.fn x=true\/X.env.scope.names.lookup x=some .local:=by first|exact .inl rfl|exact .inr rfl|assumption) :
  PS X (.AugAssign (.Name x pos') op e pos) (zi i te ti):=by
 refine ⟨?_⟩
 intro pins s σ H D I h
 obtain ⟨v,e1,h⟩:=h
 obtain ⟨m,hn,hl⟩:=I.loc
 have vis:y8 X.env.scope x:=by rcases hx with k|k;exact .inl k;exact .inr (.inl k)
 obtain ⟨u,r,l⟩:=hl i x v hi e1 vis
 refine wpAny_AugAssign_Name ?_
 have go:wpAny (model X.prog X.w) X.A (eval e X.env) (fun w s₂=>wpAny (model X.prog X.w) X.A (inplaceOp op u w) (fun r s₃=>wpAny (model X.prog X.w) X.A (storeName X.env x r) (fun _=>SP X pins D .next) X.xe s₃) X.xe s₂) X.xe s:=by
  refine bF (he pins s σ H _ I h) fun w s1 ⟨y,H1,I1,r1,q1⟩=>?_
  refine bF (ho pins s1 σ H1 v y u w _ I1 r r1 q1) fun z s2 ⟨zv,H2,I2,r2,q2⟩=>?_
  exact fP I2 hN hi hx r2 (fun s3 I3=>⟨_,H2,I3,q2⟩) hf
 rcases l with ⟨hk,hm⟩|⟨hk,c,hc,hcell⟩
 ·exact wpAny_loadName_local I.ok.kind hk hn hm go
 ·rcases hk with hk|hk
  ·exact wpAny_loadName_cell I.ok.kind hk hc hcell go
  ·rcases hx with k|k
   ·have:X.env.scope.names.lookup x=some .free:=hk
    rw [k] at this;cases this
   ·have:X.env.scope.names.lookup x=some .free:=hk
    rw [k] at this;cases this
inductive Bp (f:Int->Int->Int) (x:V) (y:V) (H:Hp) (Q:VK):Prop
 | mk (i j:_):x=.int i->y=.int j->Q (.int (f i j)) H->Bp f x y H Q
theorem lU:Bo X .Add (Bp fun i j=>i+j):=by
 intro pins s σ H x y v u Q I r1 r2 h
 obtain ⟨i,j,e1,e2,q⟩:=h
 subst e1;subst e2
 obtain ⟨t,rfl⟩:=r1
 obtain ⟨t',rfl⟩:=r2
 exact iadd_int ⟨.int _,H,I.tok _,⟨_,rfl⟩,q⟩
end
section
variable {X:Cx} {pos:Pos}
inductive pS (c:TT) (tb:TS) (D:Ends) (σ:St) (H:Hp):Prop
 | mk (W:Nat->St->Hp->Prop):(∃ m,W m σ H)->(∀ m σ H,W m σ H->
 c σ H fun b H1=>if b=true then ∃ N:St->Hp->Prop,(∀ σ' H',N σ' H'->∃ m',m' < m/\W m' σ' H')/\tb { D with nx:=N,ct:=N,bk:=D.nx } σ H1 else D.nx σ H1)->pS c tb D σ H
theorem dm {c:Expr} {body:List Stmt} {tc:TT} {tb:TS} (hp:PassesOwn (model X.prog X.w) X.A X.env X.xe) (hc:PT X c tc) (hb:PSs X body tb):PS X (.While c body [] pos) (pS tc tb):=by
 refine ⟨?_⟩
 intro pins s σ H D I h
 obtain ⟨W,⟨m0,w0⟩,turn⟩:=h
 refine wpAny_While (codeAny_whileLoop (fun n s'=>∃ σ' H',Inv X pins σ' H' s'/\W n σ' H') ?_ m0 ⟨σ,H,I,w0⟩)
 rintro n s1 ⟨σ1,H1,I1,w1⟩
 refine wpAny_passesOwn hp (bF (hc pins s1 σ1 H1 _ I1 (turn n σ1 H1 w1)) fun b s2 ⟨H2,I2,q2⟩=>?_)
 cases b with
 | true=>
  obtain ⟨N,hN,q2⟩:=q2
  rw [if_pos rfl]
  refine wpAny_passesOwn hp (bF (hb pins s2 σ1 H2 _ I2 q2) fun f s3 q3=>?_)
  cases f with
  | next=>
   obtain ⟨σ3,H3,I3,n3⟩:=q3
   obtain ⟨m',hm,w3⟩:=hN σ3 H3 n3
   exact ⟨m',hm,σ3,H3,I3,w3⟩
  | cont=>
   obtain ⟨σ3,H3,I3,n3⟩:=q3
   obtain ⟨m',hm,w3⟩:=hN σ3 H3 n3
   exact ⟨m',hm,σ3,H3,I3,w3⟩
  | brk=>exact q3
  | ret v=>exact q3
 | false=>
  rw [if_neg BY]
  exact wpAny_execs_nil ⟨σ1,H2,I2,q2⟩
end
structure It where
 go:Nat->Hp->Prop
 yld:Nat->Hp->V->Hp->Prop
 stop:Nat->Hp->Prop
def iX (X:Cx) (pins:List (Addr×Obj)) (H:Hp) (b:Addr):Prop:=
 H b=none/\b≠X.env.locals/\b∉X.fs/\(b∈X.ex\/X.s₀.heap.objs.size<=b)/\(∀ x c,X.env.cells.lookup x=some c->c≠b)/\∀ p∈X.pn++pins,p.1≠b
variable {σ:St} {pins:List (Addr×Obj)}
theorem Inv.fpOk {H H':Hp} (I:Inv X pins σ H s) (hb:s.heap.objs.size<=b) (hn:H' b=none):iX X pins H' b:=by
 refine ⟨hn,Dk (B9 I.lt hb),I.nofs hb,.inr (Cm I.sz hb),fun x c e z=>?_,fun p hp z=>?_⟩
 ·obtain ⟨v,q⟩:=I.cell x c e
  exact absurd (B9 q.lt (by rw [z];exact hb)) (CG _)
 ·exact absurd (B9 (BP (I.pin p hp).1) (by rw [z];exact hb)) (CG _)
structure lV (P:Program) (w:World) (K:ZF) (tg:Expr) (J:It) (fp:List Addr) (it:Addr) (tn:Nat->Heap->Prop):Prop where
 mem:it∈fp
 obj:∀ i h,tn i h->∀ b∈fp,∃ o,h.get? b=some o/\∀ v,o.data≠.cell v
 keep:∀ i h h',tn i h->(∀ b∈fp,∀ o,h.get? b=some o->h'.get? b=some o)->tn i h'
 item:∀ (X:Cx),X.prog=P->X.w=w->X.K=K->X.calm=true->∀ (i:Nat) (pins:List (Addr×Obj)) (s:Shared) (σ:St) (H:Hp) (E:Value->Shared->Prop),Inv X pins σ H s->(∀ b∈fp,iX X pins H b)->tn i s.heap->J.go i H->
  wpAny (model P w) X.A (pyNext (.ref it)) (fun r s1=>∃ u,r=some u /\
   wpAny (model P w) X.A (letOwnedTupleGo tg (.ref it) u) (fun _ s2=>∃ x H',Inv X pins σ H' s2/\RelV x u/\J.yld i H x H'/\tn (i+1) s2.heap/\∀ b∈fp,H' b=none) E s1) E s
 done:∀ (X:Cx),X.prog=P->X.w=w->X.K=K->X.calm=true->∀ (i:Nat) (pins:List (Addr×Obj)) (s:Shared) (σ:St) (H:Hp) (E:Value->Shared->Prop),Inv X pins σ H s->(∀ b∈fp,iX X pins H b)->tn i s.heap->J.stop i H->
  wpAny (model P w) X.A (pyNext (.ref it)) (fun r s1=>r=none/\Inv X pins σ H s1) E s
 self:∀ (A:Around) (i:Nat) (s:Shared) (Q:Value->Shared->Prop) (E:Value->Shared->Prop),tn i s.heap->Q (.ref it) s->wpAny (model P w) A (pyIter (.ref it)) Q E s
abbrev TI:=St->Hp->(It->Hp->Prop)->Prop
inductive Ar (X:Cx) (pins:List (Addr×Obj)) (σ:St) (tg:Expr) (R:It->Hp->Prop) (itv:Value) (s2:Shared):Prop
 | mk (it:Addr) (fp:List Addr) (tn:Nat->Heap->Prop) (J:It) (H':Hp):itv=.ref it->Inv X pins σ H' s2->lV X.prog X.w X.K tg J fp it tn->tn 0 s2.heap->(∀ b∈fp,iX X pins H' b)->R J H'->Ar X pins σ tg R itv s2
structure PI (X:Cx) (tg iter:Expr) (wi:TI):Prop where
 run:∀ (pins:List (Addr×Obj)) (s:Shared) (σ:St) (H:Hp) (R:It->Hp->Prop),Inv X pins σ H s->wi σ H R->
  wpAny (model X.prog X.w) X.A (eval iter X.env) (fun v s1=>wpAny (model X.prog X.w) X.A (pyIter v) (Ar X pins σ tg R) X.xe s1) X.xe s
instance {X:Cx} {tg iter:Expr} {wi:TI}:CoeFun (PI X tg iter wi) fun _=>∀ (pins:List (Addr×Obj)) (s:Shared) (σ:St) (H:Hp) (R:It->Hp->Prop),Inv X pins σ H s->wi σ H R->
  wpAny (model X.prog X.w) X.A (eval iter X.env) (fun v s1=>wpAny (model X.prog X.w) X.A (pyIter v) (Ar X pins σ tg R) X.xe s1) X.xe s:=⟨PI.run⟩
theorem kB {M:Model} {A:Around} {E:Value->Shared->Prop} {tg:Expr} {it:Addr} {u:Value} {o:Obj} {n:String} {vs:Array Value} {Q:Unit->Shared->Prop} (ho:s.heap.get? it=some o) (hc:o.cls=.type n) (hd:o.data=.fields vs)
  (hn:["enumerate","zip","dict_itemiterator","dict_reverseitemiterator","odict_iterator","itertools.zip_longest","itertools.pairwise"].contains n=false) (hQ:Q () s):wpAny M A (letOwnedTupleGo tg (.ref it) u) Q E s:=by
 unfold letOwnedTupleGo
 cases tg<;>first
  | exact wpAny_pure hQ
  | (cases u<;>first
    | exact wpAny_pure hQ
    | (refine wpAny_bind (wpAny_load ho ?_)
       rw [hc,hd]
       show wpAny M A (if (["enumerate","zip","dict_itemiterator","dict_reverseitemiterator","odict_iterator","itertools.zip_longest","itertools.pairwise"].contains n && vs[0]? == some (rawInt _))=true then _ else _) Q E s
       rw [if_neg (by intro h;rw [hn,Bool.false_and] at h;cases h)]
       exact wpAny_pure hQ))
def y0 (K:ZF) (a:Addr):It:=
 ⟨fun i H=>∃ xs x,SqL K H a xs/\xs[i]?=some x,fun i H x H'=>H'=H/\∀ xs,SqL K H a xs->xs[i]?=some x,fun i H=>∃ xs,SqL K H a xs/\xs.length<=i⟩
def y2 (K:ZF) (a:Addr):It:=
 ⟨fun i H=>∃ xs x,SqT K H a xs/\xs[i]?=some x,fun i H x H'=>H'=H/\∀ xs,SqT K H a xs->xs[i]?=some x,fun i H=>∃ xs,SqT K H a xs/\xs.length<=i⟩
def vB (lo:Int) (n:Nat):It:=⟨fun i _=>i < n,fun i H x H'=>H'=H/\x=.int (lo+i),fun i _=>n<=i⟩
variable {tg:Expr} {K:ZF}
theorem oP (a it:Addr):lV P w K tg (y0 K a) [it] it (fun i h=>h.IsListIter it a i) where
 mem:=by simp
 obj:=fun i h st b hb=>by
  have e:b=it:=by simpa using hb
  subst e
  obtain ⟨o,e,c,d⟩:=st
  exact ⟨o,e,fun v z=>by rw [d] at z;cases z⟩
 keep:=fun i h h' st k=>st.at fun o e=>k it (by simp) o e
 item:=by
  intro X hP hw hK hc i pins s σ H E I hf st hg
  subst hP hw hK
  obtain ⟨xs,x,hq,hx⟩:=hg
  obtain ⟨its,rv,p,hz⟩:=I.list hq
  obtain ⟨u,hu,ru⟩:=rv.get hx
  obtain ⟨f0,f1,f2,f3,f4,f5⟩:=hf it (by simp)
  refine wpAny_pyNext_list_item st p.isList (x:=u) (by simpa using hu) fun h' st' sb=>?_
  have I1:Inv X pins σ H { s with heap:=h' }:=I.turned (t':=s.toks) (fun b o hb e=>(sb.2 b hb).trans e) f0 f1 f3 f4 f5
  obtain ⟨o,e,c,d⟩:=id st'
  exact ⟨u,rfl,kB (s:={ s with heap:=h' }) e c d (by decide) ⟨x,H,I1,ru,⟨rfl,fun ys hy=>by rw [I.list_inj hy hq];exact hx⟩,st',fun b hb=>(hf b hb).1⟩⟩
 done:=by
  intro X hP hw hK hc i pins s σ H E I hf st hg
  subst hP hw hK
  obtain ⟨xs,hq,hx⟩:=hg
  obtain ⟨its,rv,p,hz⟩:=I.list hq
  obtain ⟨f0,f1,f2,f3,f4,f5⟩:=hf it (by simp)
  have hl:=rv.length
  exact wpAny_pyNext_list_end (I.ok.hd hc) st p.isList (by simp;lia) fun h' eb=>⟨rfl,I.turned (t':=s.toks) (fun b o hb e=>eb b o hb e) f0 f1 f3 f4 f5⟩
 self:=fun _ _ _ _ _ st h=>wpAny_pyIter_listiter st h
theorem lW (a it:Addr):lV P w K tg (y2 K a) [it] it (fun i h=>h.IsTupleIter it a i) where
 mem:=by simp
 obj:=fun i h st b hb=>by
  have e:b=it:=by simpa using hb
  subst e
  obtain ⟨o,e,c,d⟩:=st
  exact ⟨o,e,fun v z=>by rw [d] at z;cases z⟩
 keep:=fun i h h' st k=>st.at fun o e=>k it (by simp) o e
 item:=by
  intro X hP hw hK hc i pins s σ H E I hf st hg
  subst hP hw hK
  obtain ⟨xs,x,hq,hx⟩:=hg
  obtain ⟨its,rv,p,hz⟩:=I.tuple hq
  obtain ⟨u,hu,ru⟩:=rv.get hx
  obtain ⟨f0,f1,f2,f3,f4,f5⟩:=hf it (by simp)
  refine wpAny_pyNext_tuple_item st (show s.heap.IsTuple a its.toArray from p) (x:=u) (by simpa using hu) fun h' st' sb=>?_
  have I1:Inv X pins σ H { s with heap:=h' }:=I.turned (t':=s.toks) (fun b o hb e=>(sb.2 b hb).trans e) f0 f1 f3 f4 f5
  obtain ⟨o,e,c,d⟩:=id st'
  exact ⟨u,rfl,kB (s:={ s with heap:=h' }) e c d (by decide) ⟨x,H,I1,ru,⟨rfl,fun ys hy=>by rw [I.tuple_inj hy hq];exact hx⟩,st',fun b hb=>(hf b hb).1⟩⟩
 done:=by
  intro X hP hw hK hc i pins s σ H E I hf st hg
  subst hP hw hK
  obtain ⟨xs,hq,hx⟩:=hg
  obtain ⟨its,rv,p,hz⟩:=I.tuple hq
  obtain ⟨f0,f1,f2,f3,f4,f5⟩:=hf it (by simp)
  have hl:=rv.length
  exact wpAny_pyNext_tuple_end (I.ok.hd hc) st (show s.heap.IsTuple a its.toArray from p) (by simp;lia) fun h' eb=>⟨rfl,I.turned (t':=s.toks) (fun b o hb e=>eb b o hb e) f0 f1 f3 f4 f5⟩
 self:=fun _ _ _ _ _ st h=>wpAny_pyIter_tupleiter st h
theorem lX (it:Addr) (lo:Int) (n:Nat):lV P w K tg (vB lo n) [it] it (fun i h=>IsRangeIter h it (lo+(i:Nat)*1) ((n:Int) - (i:Nat)) 1) where
 mem:=by simp
 obj:=fun i h st b hb=>by
  have e:b=it:=by simpa using hb
  subst e
  exact ⟨_,st,fun v z=>by
   have z':Data.fields _=Data.cell v:=z
   cases z'⟩
 keep:=fun i h h' st k=>k it (by simp) _ st
 item:=by
  intro X hP hw hK hc i pins s σ H E I hf st hg
  subst hP hw hK
  obtain ⟨f0,f1,f2,f3,f4,f5⟩:=hf it (by simp)
  have W:=Walks.range (prog:=X.prog) (w:=X.w) (I.ok.hd hc) it lo 1 n
  refine W.item i s _ _ hg st fun v h' tk hv st' kk=>?_
  obtain ⟨t,rfl⟩:=hv
  have I1:Inv X pins σ H { s with heap:=h',toks:=tk }:=I.turned (fun b o hb e=>kk b o (by simpa using hb) e) f0 f1 f3 f4 f5
  refine ⟨_,rfl,kB (s:={ s with heap:=h',toks:=tk }) (n:="range_iterator") st' rfl rfl (by decide) ⟨.int (lo+i),H,I1,⟨t,?_⟩,⟨rfl,rfl⟩,st',fun b hb=>(hf b hb).1⟩⟩
  rw [Int.mul_one]
 done:=by
  intro X hP hw hK hc i pins s σ H E I hf st hg
  subst hP hw hK
  obtain ⟨f0,f1,f2,f3,f4,f5⟩:=hf it (by simp)
  exact wpAny_pyNext_range_end (I.ok.hd hc) st (by have:n<=i:=hg;lia) fun h' eb=>⟨rfl,I.turned (t':=s.toks) (fun b o hb e=>eb b o hb e) f0 f1 f3 f4 f5⟩
 self:=fun _ _ _ _ _ st h=>wpAny_pyIter_rangeiter st h
section
variable {X:Cx} {tg:Expr}
inductive pU (K:ZF) (R:It->Hp->Prop) (x:V) (H1:Hp):Prop
 | mk (a:_):x=.ref a->(∃ xs,SqL K H1 a xs)->R (y0 K a) H1->pU K R x H1
def zj (K:ZF) (tl:TE):TI:=fun σ H R=>tl σ H fun x H1=>pU K R x H1
inductive vC (K:ZF) (R:It->Hp->Prop) (x:V) (H1:Hp):Prop
 | mk (a:_):x=.ref a->(∃ xs,SqT K H1 a xs)->R (y2 K a) H1->vC K R x H1
def AK (K:ZF) (tl:TE):TI:=fun σ H R=>tl σ H fun x H1=>vC K R x H1
variable {tl:TE} {l:Expr}
theorem cL (hl:PE X l tl):PI X tg l (zj X.K tl):=by
 refine ⟨?_⟩
 intro pins s σ H R I h
 refine bF (hl pins s σ H _ I h) fun v s1 ⟨x,H1,I1,r1,q1⟩=>?_
 obtain ⟨a,e,⟨xs,hq⟩,q⟩:=q1
 subst e
 cases r1
 obtain ⟨its,rv,p,hz⟩:=I1.list hq
 refine wpAny_pyIter_list p.isList ?_
 refine ⟨s1.heap.objs.size,[s1.heap.objs.size],_,_,H1,rfl,I1.kept (t':=s1.toks) fun b o e=>BM _ e,oP a _,⟨_,B0 _ rfl,rfl,rfl⟩,fun b hb=>?_,q⟩
 have e:b=s1.heap.objs.size:=by simpa using hb
 subst e
 exact I1.fpOk (BT _) (I1.hok.fresh (BT _))
theorem dj (hl:PE X l tl):PI X tg l (AK X.K tl):=by
 refine ⟨?_⟩
 intro pins s σ H R I h
 refine bF (hl pins s σ H _ I h) fun v s1 ⟨x,H1,I1,r1,q1⟩=>?_
 obtain ⟨a,e,⟨xs,hq⟩,q⟩:=q1
 subst e
 cases r1
 obtain ⟨its,rv,p,hz⟩:=I1.tuple hq
 refine wpAny_pyIter_tuple (show s1.heap.IsTuple a its.toArray from p) ?_
 refine ⟨s1.heap.objs.size,[s1.heap.objs.size],_,_,H1,rfl,I1.kept (t':=s1.toks) fun b o e=>BM _ e,lW a _,⟨_,B0 _ rfl,rfl,rfl⟩,fun b hb=>?_,q⟩
 have e:b=s1.heap.objs.size:=by simpa using hb
 subst e
 exact I1.fpOk (BT _) (I1.hok.fresh (BT _))
theorem kC {R:It->Hp->Prop} {E:Value->Shared->Prop} {lo hi:Int} {t u v:Tok} {tk:Nat} (I:Inv X pins σ H s) (h1:-(2 ^ 62)<=lo) (h2:lo < 2 ^ 62) (h3:-(2 ^ 62)<=hi) (h4:hi < 2 ^ 62)
  (q:R (vB lo (hi - lo).toNat) H):wpAny (model X.prog X.w) X.A (pyIter (.ref s.heap.objs.size)) (Ar X pins σ tg R) E { s with heap:=s.heap.push { cls:=.type "range",data:=.fields #[.int lo t,.int hi u,.int 1 v] },toks:=tk }:=by
 refine wpAny_pyIter_range (IsRange.new ..) (small_one h1 h2 h3 h4) ?_
 have I1:Inv X pins σ H { s with heap:=s.heap.push { cls:=.type "range",data:=.fields #[.int lo t,.int hi u,.int 1 v] },toks:=tk }:=I.kept fun b o e=>BM _ e
 refine ⟨(s.heap.push { cls:=.type "range",data:=.fields #[.int lo t,.int hi u,.int 1 v] }).objs.size,[(s.heap.push { cls:=.type "range",data:=.fields #[.int lo t,.int hi u,.int 1 v] }).objs.size],_,_,H,rfl,
  I1.kept (t':=tk) fun b o e=>BM _ e,lX _ lo (hi - lo).toNat,?_,fun b hb=>?_,q⟩
 ·have e1:lo+((0:Nat):Int)*1=lo:=by simp
  have e2:(((hi - lo).toNat:Nat):Int) - ((0:Nat):Int)=Builtin.Range.rangeSize lo hi 1:=by rw [rangeSize_one];split<;>lia
  show IsRangeIter _ _ (lo+((0:Nat):Int)*1) ((((hi - lo).toNat:Nat):Int) - ((0:Nat):Int)) 1
  rw [e1,e2]
  exact B0 _ rfl
 ·have e:b=(s.heap.push { cls:=.type "range",data:=.fields #[.int lo t,.int hi u,.int 1 v] }).objs.size:=by simpa using hb
  subst e
  exact I1.fpOk (BT _) (I1.hok.fresh (BT _))
inductive pV (R:It->Hp->Prop) (vs:List V) (H1:Hp):Prop
 | mk (j:Int):vs=[.int j]->-(2 ^ 62)<=j->j < 2 ^ 62->R (vB 0 j.toNat) H1->pV R vs H1
def zk (ta:TA):TI:=fun σ H R=>ta σ H fun vs H1=>pV R vs H1
inductive pW (R:It->Hp->Prop) (vs:List V) (H1:Hp):Prop
 | mk (i j:Int):vs=[.int i,.int j]->(-(2 ^ 62)<=i/\i < 2 ^ 62/\-(2 ^ 62)<=j/\j < 2 ^ 62)->R (vB i (j - i).toNat) H1->pW R vs H1
def zm (ta:TA):TI:=fun σ H R=>ta σ H fun vs H1=>pW R vs H1
variable {ta:TA}
theorem je {a:Expr} {p pos:Pos} (hg:Gl X "range") (hm:X.mg "range"=none) (ha:PA X [a] ta) (hs:starEach [a] X.env=[(false,eval a X.env)]:=by rfl):PI X tg (.Call (.Name "range" p) [a] [] pos) (zk ta):=by
 refine ⟨?_⟩
 intro pins s σ H R I h
 refine Call_ (dS I hg hm boot_range (CD (bF (ha pos pins s σ H _ I h) fun us s1 ⟨vs,H1,I1,r1,q1⟩=>?_) hs rfl))
 obtain ⟨j,e,q1,q2,q⟩:=q1
 subst e
 cases r1 with
 | cons r rr=>
  cases rr
  obtain ⟨t,rfl⟩:=r
  exact call_range_1 (kC I1 (by lia) (by lia) q1 q2 (by simpa using q))
theorem oQ {a b:Expr} {p pos:Pos} (hg:Gl X "range") (hm:X.mg "range"=none) (ha:PA X [a,b] ta) (hs:starEach [a,b] X.env=[(false,eval a X.env),(false,eval b X.env)]:=by rfl) (hs2:starEach [b] X.env=[(false,eval b X.env)]:=by rfl) :
  PI X tg (.Call (.Name "range" p) [a,b] [] pos) (zm ta):=by
 refine ⟨?_⟩
 intro pins s σ H R I h
 refine Call_ (dS I hg hm boot_range (CD (bF (ha pos pins s σ H _ I h) fun us s1 ⟨vs,H1,I1,r1,q1⟩=>?_) (by rw [hs,hs2]) (by rw [hs2];rfl)))
 obtain ⟨i,j,e,⟨q1,q2,q3,q4⟩,q⟩:=q1
 subst e
 cases r1 with
 | cons r rr=>
  cases rr with
  | cons r' rr=>
   cases rr
   obtain ⟨t,rfl⟩:=r
   obtain ⟨t',rfl⟩:=r'
   exact call_range_2 (kC I1 q1 q2 q3 q4 q)
def AL (wi:TI) (g:TG) (tb:TS):TS:=fun D σ H=>wi σ H fun J H1=>∃ W:Nat->Nat->St->Hp->Prop,(∃ m,W 0 m σ H1)/\∀ i m σ H,W i m σ H->
 (J.stop i H/\D.nx σ H)\/(J.go i H/\∃ N:St->Hp->Prop,(∀ σ' H',N σ' H'->∃ m',m' < m/\W (i+1) m' σ' H')/\∀ x H',J.yld i H x H'->g x σ H' fun σ2 H2=>tb { D with nx:=N,ct:=N,bk:=D.nx } σ2 H2)
def dk (fp:List Addr) (h:Heap):List (Addr×Obj):=fp.filterMap fun b=>(h.get? b).map fun o=>(b,o)
variable {fp:List Addr}
theorem fv {o:Obj} (hb:b∈fp) (e:h.get? b=some o):(b,o)∈dk fp h:=List.mem_filterMap.mpr ⟨b,hb,by rw [e];rfl⟩
theorem jf {p:Addr×Obj} (hp:p∈dk fp h):p.1∈fp/\h.get? p.1=some p.2:=by
 obtain ⟨b,hb,e⟩:=List.mem_filterMap.mp hp
 cases q:h.get? b with
 | none=>rw [q] at e;cases e
 | some o=>
  rw [q] at e
  have e':(b,o)=p:=Cf e
  subst e'
  exact ⟨hb,q⟩
theorem Inv.pinned (I:Inv X pins σ H s) (hf:∀ b∈fp,iX X pins H b) (ho:∀ b∈fp,∃ o,s.heap.get? b=some o/\∀ v,o.data≠.cell v):Inv X (pins++dk fp s.heap) σ H s:=
 I.pins_of fun p hp=>(Cp.mp hp).elim (fun z=>I.pin p (Ck _ z)) fun z=>by
  obtain ⟨hb,e⟩:=jf z
  obtain ⟨f0,f1,f2,_⟩:=hf p.1 hb
  obtain ⟨o,e',d⟩:=ho p.1 hb
  rw [e] at e';cases e'
  exact ⟨e,f0,f1,f2,d⟩
theorem Inv.unpinned {pins pl:List (Addr×Obj)} (I:Inv X (pins++pl) σ H s):Inv X pins σ H s:=I.pins_of fun p hp=>I.pin p (Ck _ (De _ hp))
theorem cH {iter:Expr} {body:List Stmt} {wi:TI} {g:TG} {tb:TS} {pos:Pos} (hp:PassesOwn (model X.prog X.w) X.A X.env X.xe) (hc:X.calm=true) (hi:PI X tg iter wi) (hg:PG X tg g) (hb:PSs X body tb)
  (hs:∀ x,foldedSetIterable iter X.env x=pure x:=by intro _;rfl):PS X (.For tg iter body [] pos) (AL wi g tb):=by
 refine ⟨?_⟩
 intro pins s σ H D I h
 refine wpAny_For (bF (hi pins s σ H _ I h) fun v s1 h1=>bF h1 fun itv s2 h2=>?_) hs
 obtain ⟨it,fp,tn,J,H2,e,I2,T,st2,f2,W,⟨m0,w0⟩,turn⟩:=h2
 subst e
 have stat:∀ {H':Hp},(∀ b∈fp,H' b=none)->∀ b∈fp,iX X pins H' b:=fun hn b hb=>⟨hn b hb,(f2 b hb).2⟩
 refine codeAny_forLoop_any (fun n s'=>∃ i σ' H',Inv X pins σ' H' s'/\tn i s'.heap/\(∀ b∈fp,H' b=none)/\W i n σ' H') ?_ m0 ⟨0,σ,H2,I2,st2,fun b hb=>(f2 b hb).1,w0⟩
 rintro n s3 ⟨i,σ3,H3,I3,st3,fr3,w3⟩
 rcases turn i n σ3 H3 w3 with ⟨stop,qn⟩|⟨go,N,hN,step⟩
 ·refine wpAny_passesOwn hp (bF (T.done X rfl rfl rfl hc i pins s3 σ3 H3 X.xe I3 (stat fr3) st3 stop) fun r s4 ⟨hr,I4⟩=>?_)
  subst hr
  exact wpAny_execs_nil ⟨σ3,H3,I4,qn⟩
 ·refine wpAny_passesOwn hp (bF (T.item X rfl rfl rfl hc i pins s3 σ3 H3 X.xe I3 (stat fr3) st3 go) fun r s4 ⟨u,hr,h4⟩=>?_)
  subst hr
  refine wpAny_passesOwn hp (bF h4 fun _ s5 ⟨x,H5,I5,r5,y5,st5,fr5⟩=>?_)
  have I5':=I5.pinned (stat fr5) (T.obj _ _ st5)
  refine wpAny_passesOwn hp (bF (hg _ s5 σ3 H5 x u _ I5' r5 (step x H5 y5)) fun _ s6 ⟨σ6,H6,I6,q6⟩=>?_)
  refine wpAny_passesOwn hp (bF (hb _ s6 σ6 H6 _ I6 q6) fun f s7 q7=>?_)
  have again:∀ {σ7:St} {H7:Hp},Inv X (pins++dk fp s5.heap) σ7 H7 s7->N σ7 H7->∃ m,m < n/\∃ i σ' H',Inv X pins σ' H' s7/\tn i s7.heap/\(∀ b∈fp,H' b=none)/\W i m σ' H':=fun {σ7 H7} I7 n7=>by
   obtain ⟨m',hm,w7⟩:=hN σ7 H7 n7
   refine ⟨m',hm,i+1,σ7,H7,I7.unpinned,T.keep _ _ _ st5 fun b hb o e=>(I7.pin (b,o) (Ck _ (Ck _ (fv hb e)))).1,fun b hb=>?_,w7⟩
   obtain ⟨o,e,d⟩:=T.obj _ _ st5 b hb
   exact (I7.pin (b,o) (Ck _ (Ck _ (fv hb e)))).2.1
  cases f with
  | next=>obtain ⟨σ7,H7,I7,n7⟩:=q7;exact again I7 n7
  | cont=>obtain ⟨σ7,H7,I7,n7⟩:=q7;exact again I7 n7
  | brk=>obtain ⟨σ7,H7,I7,q7⟩:=q7;exact ⟨σ7,H7,I7.unpinned,q7⟩
  | ret v=>obtain ⟨x7,σ7,H7,I7,r7,q7⟩:=q7;exact ⟨x7,σ7,H7,I7.unpinned,r7,q7⟩
end
theorem dU {g:TG} {tb:TS} {D:Ends} (Pv:Nat->St->Hp->Prop) (h0:Pv 0 σ H) (hl:∀ i σ H,i<=xs.length->Pv i σ H->SqL K H a xs)
  (hs:∀ i x σ H,xs[i]?=some x->Pv i σ H->g x σ H fun σ2 H2=>tb { D with nx:=Pv (i+1),ct:=Pv (i+1),bk:=D.nx } σ2 H2) (hd:∀ σ H,Pv xs.length σ H->D.nx σ H) :
  ∃ W:Nat->Nat->St->Hp->Prop,(∃ m,W 0 m σ H)/\∀ i m σ H,W i m σ H->
   ((y0 K a).stop i H/\D.nx σ H)\/((y0 K a).go i H/\∃ N:St->Hp->Prop,(∀ σ' H',N σ' H'->∃ m',m' < m/\W (i+1) m' σ' H')/\∀ x H',(y0 K a).yld i H x H'->g x σ H' fun σ2 H2=>tb { D with nx:=N,ct:=N,bk:=D.nx } σ2 H2):=by
 refine ⟨fun i m σ H=>m=xs.length - i/\i<=xs.length/\Pv i σ H,⟨xs.length,by simp,Cy _,h0⟩,?_⟩
 rintro i m σ H ⟨rfl,hi,p⟩
 have q:=hl i σ H hi p
 by_cases hlt:i < xs.length
 ·refine .inr ⟨⟨xs,xs[i],q,by simp [hlt]⟩,Pv (i+1),fun σ' H' p'=>⟨xs.length - (i+1),by lia,rfl,hlt,p'⟩,fun x H' y=>?_⟩
  obtain ⟨e,y⟩:=y
  subst e
  exact hs i x σ _ (y xs q) p
 ·have e:i=xs.length:=by lia
  subst e
  exact .inl ⟨⟨xs,q,BT _⟩,hd σ H p⟩
theorem gZ {g:TG} {tb:TS} {D:Ends} (Pv:Nat->St->Hp->Prop) (h0:Pv 0 σ H) (hl:∀ i σ H,i<=xs.length->Pv i σ H->SqT K H a xs)
  (hs:∀ i x σ H,xs[i]?=some x->Pv i σ H->g x σ H fun σ2 H2=>tb { D with nx:=Pv (i+1),ct:=Pv (i+1),bk:=D.nx } σ2 H2) (hd:∀ σ H,Pv xs.length σ H->D.nx σ H) :
  ∃ W:Nat->Nat->St->Hp->Prop,(∃ m,W 0 m σ H)/\∀ i m σ H,W i m σ H->
   ((y2 K a).stop i H/\D.nx σ H)\/((y2 K a).go i H/\∃ N:St->Hp->Prop,(∀ σ' H',N σ' H'->∃ m',m' < m/\W (i+1) m' σ' H')/\∀ x H',(y2 K a).yld i H x H'->g x σ H' fun σ2 H2=>tb { D with nx:=N,ct:=N,bk:=D.nx } σ2 H2):=by
 refine ⟨fun i m σ H=>m=xs.length - i/\i<=xs.length/\Pv i σ H,⟨xs.length,by simp,Cy _,h0⟩,?_⟩
 rintro i m σ H ⟨rfl,hi,p⟩
 have q:=hl i σ H hi p
 by_cases hlt:i < xs.length
 ·refine .inr ⟨⟨xs,xs[i],q,by simp [hlt]⟩,Pv (i+1),fun σ' H' p'=>⟨xs.length - (i+1),by lia,rfl,hlt,p'⟩,fun x H' y=>?_⟩
  obtain ⟨e,y⟩:=y
  subst e
  exact hs i x σ _ (y xs q) p
 ·have e:i=xs.length:=by lia
  subst e
  exact .inl ⟨⟨xs,q,BT _⟩,hd σ H p⟩
theorem oR {lo:Int} {n:Nat} {g:TG} {tb:TS} {D:Ends} (Pv:Nat->St->Hp->Prop) (h0:Pv 0 σ H)
  (hs:∀ i σ H,i < n->Pv i σ H->g (.int (lo+i)) σ H fun σ2 H2=>tb { D with nx:=Pv (i+1),ct:=Pv (i+1),bk:=D.nx } σ2 H2) (hd:∀ σ H,Pv n σ H->D.nx σ H) :
  ∃ W:Nat->Nat->St->Hp->Prop,(∃ m,W 0 m σ H)/\∀ i m σ H,W i m σ H->
   ((vB lo n).stop i H/\D.nx σ H)\/((vB lo n).go i H/\∃ N:St->Hp->Prop,(∀ σ' H',N σ' H'->∃ m',m' < m/\W (i+1) m' σ' H')/\∀ x H',(vB lo n).yld i H x H'->g x σ H' fun σ2 H2=>tb { D with nx:=N,ct:=N,bk:=D.nx } σ2 H2):=by
 refine ⟨fun i m σ H=>m=n - i/\i<=n/\Pv i σ H,⟨n,by simp,Cy _,h0⟩,?_⟩
 rintro i m σ H ⟨rfl,hi,p⟩
 by_cases hlt:i < n
 ·refine .inr ⟨hlt,Pv (i+1),fun σ' H' p'=>⟨n - (i+1),by lia,rfl,hlt,p'⟩,fun x H' y=>?_⟩
  obtain ⟨e,y⟩:=y
  subst e y
  exact hs i σ _ hlt p
 ·have e:i=n:=by lia
  subst e
  exact .inl ⟨BT _,hd σ H p⟩
abbrev R2:=V->V->Hp->VK->Prop
def dF (X:Cx) (f:Value->Value->Sem Value) (r:R2):Prop:=
 ∀ (pins:List (Addr×Obj)) (s:Shared) (σ:St) (H:Hp) (x y:V) (v u:Value) (Q:VK),Inv X pins σ H s->RelV x v->RelV y u->r x y H Q->
  wpAny (model X.prog X.w) X.A (f v u) (EP X pins σ Q) X.xe s
def cV (X:Cx) (f:Value) (r:List V->Hp->VK->Prop):Prop:=
 ∀ (pins:List (Addr×Obj)) (s:Shared) (σ:St) (H:Hp) (xs:List V) (us:List Value) (Q:VK),Inv X pins σ H s->Vals xs us->r xs H Q->
  wpAny (model X.prog X.w) X.A (call f us) (EP X pins σ Q) X.xe s
def As (r:R2) (ta tb:TE):TE:=fun σ H Q=>ta σ H fun x H1=>tb σ H1 fun y H2=>r x y H2 Q
inductive rI (C:Int->Int->Prop) (g:Int->Int->V) (x:V) (y:V) (H:Hp) (Q:VK):Prop
 | mk (i j:_):x=.int i->y=.int j->C i j->Q (g i j) H->rI C g x y H Q
inductive tK (g:Int->Int->V) (x:V) (y:V) (H:Hp) (Q:VK):Prop
 | mk (i j:_):x=.int i->y=.int j->Q (g i j) H->tK g x y H Q
section
variable {X:Cx} {a b c:Expr} {ta tb tc:TE} {pos:Pos}
theorem wE (ha:PE X a ta) (hb:PE X b tb) {R:V->V->Hp->Prop} (I:Inv X pins σ H s)
  (h:ta σ H fun x H1=>tb σ H1 fun y H2=>R x y H2) {Q:Value->Shared->Prop} {f:Value->Value->Sem Value}
  (hf:∀ v u s2 x y H2,Inv X pins σ H2 s2->RelV x v->RelV y u->R x y H2->wpAny (model X.prog X.w) X.A (f v u) Q X.xe s2) :
  wpAny (model X.prog X.w) X.A (eval a X.env) (fun v s₁=>wpAny (model X.prog X.w) X.A (eval b X.env) (fun u s₂=>wpAny (model X.prog X.w) X.A (f v u) Q X.xe s₂) X.xe s₁) X.xe s:=by
 refine bF (ha pins s σ H _ I h) fun v s1 ⟨x,H1,I1,r1,q1⟩=>?_
 refine bF (hb pins s1 σ H1 _ I1 q1) fun u s2 ⟨y,H2,I2,r2,q2⟩=>?_
 exact hf v u s2 x y H2 I2 r1 r2 q2
theorem bi {op:Operator} {r:R2} (ho:dF X (binaryOp op) r) (ha:PE X a ta) (hb:PE X b tb):PE X (.BinOp a op b pos) (As r ta tb):=by
 refine ⟨?_⟩
 intro pins s σ H Q I h
 exact wpAny_BinOp (wE ha hb I h fun v u s2 x y H2 I2 rx ry q=>ho pins s2 σ H2 x y v u Q I2 rx ry q)
theorem y3 {f:Value->Value->Sem Value} {C:Int->Int->Prop} {g:Int->Int->Int}
  (rule:∀ (i j:Int) (t u:Tok) (s:Shared) (Q:Value->Shared->Prop) (E:Value->Shared->Prop),C i j->Q (.int (g i j) s.toks) { s with toks:=s.toks+1 }->wpAny (model X.prog X.w) X.A (f (.int i t) (.int j u)) Q E s) :
  dF X f (rI C fun i j=>.int (g i j)):=by
 intro pins s σ H x y v u Q I rx ry h
 obtain ⟨i,j,rfl,rfl,hc,q⟩:=h
 obtain ⟨t,rfl⟩:=rx
 obtain ⟨t',rfl⟩:=ry
 exact rule i j t t' s _ _ hc ⟨.int (g i j),H,I.tok _,⟨_,rfl⟩,q⟩
theorem zn {f:Value->Value->Sem Value} {g:Int->Int->Int}
  (rule:∀ (i j:Int) (t u:Tok) (s:Shared) (Q:Value->Shared->Prop) (E:Value->Shared->Prop),Q (.int (g i j) s.toks) { s with toks:=s.toks+1 }->wpAny (model X.prog X.w) X.A (f (.int i t) (.int j u)) Q E s) :
  dF X f (tK fun i j=>.int (g i j)):=by
 intro pins s σ H x y v u Q I rx ry h
 obtain ⟨i,j,rfl,rfl,q⟩:=h
 obtain ⟨t,rfl⟩:=rx
 obtain ⟨t',rfl⟩:=ry
 exact rule i j t t' s _ _ ⟨.int (g i j),H,I.tok _,⟨_,rfl⟩,q⟩
theorem tO {f:Value->Value->Sem Value} {g:Int->Int->Bool}
  (rule:∀ (i j:Int) (t u:Tok) (s:Shared) (Q:Value->Shared->Prop) (E:Value->Shared->Prop),Q (.bool (g i j)) s->wpAny (model X.prog X.w) X.A (f (.int i t) (.int j u)) Q E s) :
  dF X f (tK fun i j=>.bl (g i j)):=by
 intro pins s σ H x y v u Q I rx ry h
 obtain ⟨i,j,rfl,rfl,q⟩:=h
 obtain ⟨t,rfl⟩:=rx
 obtain ⟨t',rfl⟩:=ry
 exact rule i j t t' s _ _ ⟨.bl (g i j),H,I,rfl,q⟩
def AM (i j:Int):Prop:=0 < j/\j < 1073741824
def zo (i j:Int):Prop:=0<=j/\j<=1000000/\i.natAbs < 2 ^ 64
def CMul (i j:Int):Prop:=(-(2 ^ 64) < i/\i < 2 ^ 64)\/(-(2 ^ 64) < j/\j < 2 ^ 64)
theorem CMul.ok {i j:Int} (h:CMul i j):IntMulOk i j:=by
 rcases h with ⟨h1,h2⟩|⟨h1,h2⟩
 ·exact .of_left (intBits_le_64 h1 h2)
 ·exact .of_right (intBits_le_64 h1 h2)
theorem cv:dF X (binaryOp .Add) (tK fun i j=>.int (i+j)):=zn fun _ _ _ _ _ _ _ q=>add_int q
theorem lY:dF X (binaryOp .Sub) (tK fun i j=>.int (i - j)):=zn fun _ _ _ _ _ _ _ q=>sub_int q
theorem fw:dF X (binaryOp .Mult) (rI CMul fun i j=>.int (i*j)):=y3 fun _ _ _ _ _ _ _ hc q=>mul_int q hc.ok
theorem tP:dF X (binaryOp .FloorDiv) (rI AM fun i j=>.int (i / j)):=y3 fun i j _ _ _ _ _ hc q=>by
 have h1:(0:Int) < j:=hc.1
 have h2:j < 1073741824:=hc.2
 exact floordiv_int (by lia) (by rw [Int.fdiv_eq_ediv_of_nonneg i (by lia)];exact q) (.inl (PyProof.noPylong_small (by lia)))
theorem gy:dF X (binaryOp .Mod) (rI (fun _ j=>0 < j) fun i j=>.int (i % j)):=y3 fun i j _ _ _ _ _ hc q=>by
 have h1:(0:Int) < j:=hc
 exact mod_int' (by lia) (by rw [Int.fmod_eq_emod_of_nonneg i (by lia)];exact q)
theorem wF:dF X (binaryOp .Pow) (rI zo fun i j=>.int (i ^ j.toNat)):=y3 fun _ _ _ _ _ _ _ hc q=>pow_int_small hc.1 hc.2.1 hc.2.2 q
theorem lZ:dF X (binaryOp .LShift) (rI zo fun i j=>.int (i*2 ^ j.toNat)):=y3 fun _ _ _ _ _ _ _ hc q=>lshift_int_small hc.1 hc.2.1 hc.2.2 q
end
def zp:V->V->Bool
 | .non,.non=>true|.non,.int _=>true|.int _,.non=>true|.non,.bl _=>true|.bl _,.non=>true|.non,.str _=>true|.str _,.non=>true
 | .int _,.int _=>true|.bl _,.bl _=>true|.str _,.str _=>true|.byt _,.byt _=>true
 | .int _,.str _=>true|.str _,.int _=>true|.bl _,.str _=>true|.str _,.bl _=>true
 | _,_=>false
def BB:R2:=fun x y H Q=>zp x y=true/\Q (.bl (decide (x=y))) H
def BC:R2:=fun x y H Q=>zp x y=true/\Q (.bl (!decide (x=y))) H
theorem nB {i j:Int}:decide (V.int i=V.int j)=(i == j):=by
 rw [CH]
 simp
theorem pX {i j:Bool}:decide (V.bl i=V.bl j)=(i == j):=by
 rw [CH]
 simp
theorem nC {i j:Str}:decide (V.str i=V.str j)=(i == j):=by
 rw [CH]
 simp
theorem nE {i j:Array UInt8}:decide (V.byt i=V.byt j)=(i.toList == j.toList):=by
 rw [CH]
 cases i
 cases j
 simp
section
variable {X:Cx} {a b c:Expr} {ta tb tc:TE} {pos:Pos}
theorem bn {Q:VK} {k k':Bool} (I:Inv X pins σ H s) (q:Q (.bl k) H) (e:k=k'):EP X pins σ Q (.bool k') s:=by
 subst e
 exact ⟨.bl k,H,I,rfl,q⟩
theorem bv:dF X (compareOp .Eq) BB:=by
 intro pins s σ H x y v u Q I rx ry h
 obtain ⟨hs,q⟩:=h
 cases x with
 | non=>
  cases rx
  cases y with
  | non=>cases ry;exact PySem.EqNone.eq_none_none (bn I q (by simp))
  | bl j=>cases ry;exact PySem.EqNone.eq_none_bool (bn I q (by simp))
  | int j=>obtain ⟨t',rfl⟩:=ry;exact PySem.EqNone.eq_none_int (bn I q (by simp))
  | str j=>obtain ⟨t',rfl⟩:=ry;exact PySem.EqNone.eq_none_str (bn I q (by simp))
  | _=>exact absurd (show false=true from hs) BY
 | bl i=>
  cases rx
  cases y with
  | non=>cases ry;exact PySem.EqNone.eq_bool_none (bn I q (by simp))
  | bl j=>cases ry;exact eq_bool (bn I q pX)
  | str j=>obtain ⟨t',rfl⟩:=ry;exact PySem.EqMixed.eq_bool_str (bn I q (by simp))
  | _=>exact absurd (show false=true from hs) BY
 | int i=>
  obtain ⟨t,rfl⟩:=rx
  cases y with
  | non=>cases ry;exact PySem.EqNone.eq_int_none (bn I q (by simp))
  | int j=>obtain ⟨t',rfl⟩:=ry;exact eq_int (bn I q nB)
  | str j=>obtain ⟨t',rfl⟩:=ry;exact PySem.EqMixed.eq_int_str (bn I q (by simp))
  | _=>exact absurd (show false=true from hs) BY
 | str i=>
  obtain ⟨t,rfl⟩:=rx
  cases y with
  | non=>cases ry;exact PySem.EqNone.eq_str_none (bn I q (by simp))
  | bl j=>cases ry;exact PySem.EqMixed.eq_str_bool (bn I q (by simp))
  | int j=>obtain ⟨t',rfl⟩:=ry;exact PySem.EqMixed.eq_str_int (bn I q (by simp))
  | str j=>obtain ⟨t',rfl⟩:=ry;exact eq_str (bn I q nC)
  | _=>exact absurd (show false=true from hs) BY
 | byt i=>
  obtain ⟨t,rfl⟩:=rx
  cases y with
  | byt j=>obtain ⟨t',rfl⟩:=ry;exact PySem.W.eq_bytes (bn I q nE)
  | _=>exact absurd (show false=true from hs) BY
 | _=>cases y<;>exact absurd (show false=true from hs) BY
theorem nF:dF X (compareOp .NotEq) BC:=by
 intro pins s σ H x y v u Q I rx ry h
 obtain ⟨hs,q⟩:=h
 cases x with
 | non=>
  cases rx
  cases y with
  | non=>cases ry;exact PySem.EqNone.ne_none_none (bn I q (by simp))
  | bl j=>cases ry;exact PySem.EqNone.ne_none_bool (bn I q (by simp))
  | int j=>obtain ⟨t',rfl⟩:=ry;exact PySem.EqNone.ne_none_int (bn I q (by simp))
  | str j=>obtain ⟨t',rfl⟩:=ry;exact PySem.EqNone.ne_none_str (bn I q (by simp))
  | _=>exact absurd (show false=true from hs) BY
 | bl i=>
  cases rx
  cases y with
  | non=>cases ry;exact PySem.EqNone.ne_bool_none (bn I q (by simp))
  | bl j=>cases ry;exact ne_bool (bn I q (congrArg not pX))
  | str j=>obtain ⟨t',rfl⟩:=ry;exact PySem.EqMixed.ne_bool_str (bn I q (by simp))
  | _=>exact absurd (show false=true from hs) BY
 | int i=>
  obtain ⟨t,rfl⟩:=rx
  cases y with
  | non=>cases ry;exact PySem.EqNone.ne_int_none (bn I q (by simp))
  | int j=>obtain ⟨t',rfl⟩:=ry;exact ne_int (bn I q (congrArg not nB))
  | str j=>obtain ⟨t',rfl⟩:=ry;exact PySem.EqMixed.ne_int_str (bn I q (by simp))
  | _=>exact absurd (show false=true from hs) BY
 | str i=>
  obtain ⟨t,rfl⟩:=rx
  cases y with
  | non=>cases ry;exact PySem.EqNone.ne_str_none (bn I q (by simp))
  | bl j=>cases ry;exact PySem.EqMixed.ne_str_bool (bn I q (by simp))
  | int j=>obtain ⟨t',rfl⟩:=ry;exact PySem.EqMixed.ne_str_int (bn I q (by simp))
  | str j=>obtain ⟨t',rfl⟩:=ry;exact ne_str (bn I q (congrArg not nC))
  | _=>exact absurd (show false=true from hs) BY
 | byt i=>
  obtain ⟨t,rfl⟩:=rx
  cases y with
  | byt j=>obtain ⟨t',rfl⟩:=ry;exact PySem.W.ne_bytes (bn I q (congrArg not nE))
  | _=>exact absurd (show false=true from hs) BY
 | _=>cases y<;>exact absurd (show false=true from hs) BY
theorem ci:dF X (compareOp .Lt) (tK fun i j=>.bl (decide (i < j))):=tO fun _ _ _ _ _ _ _ q=>lt_int q
theorem dW:dF X (compareOp .LtE) (tK fun i j=>.bl (decide (i<=j))):=tO fun _ _ _ _ _ _ _ q=>le_int q
theorem nG:dF X (compareOp .Gt) (tK fun i j=>.bl (decide (j < i))):=tO fun _ _ _ _ _ _ _ q=>gt_int q
theorem vD:dF X (compareOp .GtE) (tK fun i j=>.bl (decide (j<=i))):=tO fun _ _ _ _ _ _ _ q=>ge_int q
theorem dn:dF X (compareOp .In) (fun x y H Q=>∃ i j,x=.str i/\y=.str j/\Q (.bl (!(Builtin.Str.occurrences j i 0 j.length 1).isEmpty)) H):=by
 intro pins s σ H x y v u Q I rx ry h
 obtain ⟨i,j,rfl,rfl,q⟩:=h
 obtain ⟨t,rfl⟩:=rx
 obtain ⟨t',rfl⟩:=ry
 exact in_str (bn I q rfl)
theorem jE:dF X (compareOp .IsNot) (fun x y H Q=>y=.non/\Q (.bl (!decide (x=.non))) H):=by
 intro pins s σ H x y v u Q I rx ry h
 obtain ⟨rfl,q⟩:=h
 cases ry
 refine isnot_none_gen (bn I q ?_)
 cases x<;>first
  | (cases rx;rfl)
  | (obtain ⟨t,rfl⟩:=rx;rfl)
theorem jF:dF X (compareOp .NotIn) (fun x y H Q=>∃ i j,x=.str i/\y=.str j/\Q (.bl (!(!(Builtin.Str.occurrences j i 0 j.length 1).isEmpty))) H):=by
 intro pins s σ H x y v u Q I rx ry h
 obtain ⟨i,j,rfl,rfl,q⟩:=h
 obtain ⟨t,rfl⟩:=rx
 obtain ⟨t',rfl⟩:=ry
 exact notIn_str (bn I q rfl)
variable {op:CmpOp}
theorem az (b:Expr) (h:op≠.In:=by decide) (h2:op≠.NotIn:=by decide):behindInMarks op b=false:=by
 have e1:(op == CmpOp.In)=false:=by cases op<;>first|rfl|exact absurd rfl h
 have e2:(op == CmpOp.NotIn)=false:=by cases op<;>first|rfl|exact absurd rfl h2
 cases b<;>simp [behindInMarks,e1,e2]
variable {r:R2}
theorem aZ (ho:dF X (compareOp op) r) (ha:PE X a ta) (hb:PE X b tb) (hm:behindInMarks op b=false):PE X (.Compare a [op] [b] pos) (As r ta tb):=by
 refine ⟨?_⟩
 intro pins s σ H Q I h
 exact wpAny_Compare1 (wE ha hb I h fun v u s2 x y H2 I2 rx ry q=>ho pins s2 σ H2 x y v u Q I2 rx ry q) hm
inductive pY (Q:Bool->Hp->Prop) (x:V) (H':Hp):Prop
 | mk (k:_):x=.bl k->Q k H'->pY Q x H'
def vE (t:TE):TT:=fun σ H Q=>t σ H fun x H'=>pY Q x H'
theorem ax (ho:dF X (compareOp op) r) (ha:PE X a ta) (hb:PE X b tb) (hm:behindInMarks op b=false):PT X (.Compare a [op] [b] pos) (vE (As r ta tb)):=by
 refine ⟨?_⟩
 intro pins s σ H Q I h
 refine wpAny_isTrue_Compare1 (bF (ha pins s σ H _ I h) fun v s1 ⟨x,H1,I1,r1,q1⟩=>bF (hb pins s1 σ H1 _ I1 q1) fun u s2 ⟨y,H2,I2,r2,q2⟩=>
  bF (ho pins s2 σ H2 x y v u _ I2 r1 r2 q2) fun c s3 ⟨z,H3,I3,r3,k,e,q3⟩=>?_) hm
 subst e
 cases r3
 exact wpAny_truthy_bool ⟨H3,I3,q3⟩
inductive nI (r':R2) (tc:TE) (σ:St) (Q:VK) (y:V) (z:V) (H3:Hp):Prop
 | mk (k:_):z=.bl k->(if k=true then tc σ H3 fun w' H4=>r' y w' H4 Q else Q (.bl false) H3)->nI r' tc σ Q y z H3
def pZ (r r':R2) (ta tb tc:TE):TE:=fun σ H Q=>ta σ H fun x H1=>tb σ H1 fun y H2=>r x y H2 fun z H3=>nI r' tc σ Q y z H3
theorem fQ {op op':CmpOp} {r r':R2} (ho:dF X (compareOp op) r) (ho':dF X (compareOp op') r') (ha:PE X a ta) (hb:PE X b tb) (hc:PE X c tc)
  (hm:lastMarks [op,op'] [b,c]=false:=by with_unfolding_all rfl):PE X (.Compare a [op,op'] [b,c] pos) (pZ r r' ta tb tc):=by
 refine ⟨?_⟩
 intro pins s σ H Q I h
 refine Compare_chain (bF (ha pins s σ H _ I h) fun v s1 ⟨x,H1,I1,r1,q1⟩=>chain_link (bF (hb pins s1 σ H1 _ I1 q1) fun u s2 ⟨y,H2,I2,r2,q2⟩=>
  bF (ho pins s2 σ H2 x y v u _ I2 r1 r2 q2) fun d s3 ⟨z,H3,I3,r3,k,e,q3⟩=>?_)) hm
 subst e
 cases r3
 refine wpAny_truthy_bool ?_
 cases k with
 | false=>exact ite_ff ⟨.bl false,H3,I3,rfl,q3⟩
 | true=>exact ite_tt (chain_last (bF (hc pins s3 σ H3 _ I3 q3) fun w' s4 ⟨z',H4,I4,r4,q4⟩=>ho' pins s4 σ H4 y z' u w' Q I4 r2 r4 q4))
theorem kD {op op':CmpOp} {r r':R2} (ho:dF X (compareOp op) r) (ho':dF X (compareOp op') r') (ha:PE X a ta) (hb:PE X b tb) (hc:PE X c tc)
  (hm:lastMarks [op,op'] [b,c]=false:=by with_unfolding_all rfl):PT X (.Compare a [op,op'] [b,c] pos) (vE (pZ r r' ta tb tc)):=by
 refine ⟨?_⟩
 intro pins s σ H Q I h
 refine isTrue_chain (bF (ha pins s σ H _ I h) fun v s1 ⟨x,H1,I1,r1,q1⟩=>test_link (bF (hb pins s1 σ H1 _ I1 q1) fun u s2 ⟨y,H2,I2,r2,q2⟩=>
  bF (ho pins s2 σ H2 x y v u _ I2 r1 r2 q2) fun d s3 ⟨z,H3,I3,r3,k,e,q3⟩=>?_)) hm
 subst e
 cases r3
 refine wpAny_truthy_bool ?_
 cases k with
 | false=>
  obtain ⟨k',e',q'⟩:=q3
  cases e'
  exact ite_ff ⟨H3,I3,q'⟩
 | true=>
  refine ite_tt (test_last (bF (hc pins s3 σ H3 _ I3 q3) fun w' s4 ⟨z',H4,I4,r4,q4⟩=>bF (ho' pins s4 σ H4 y z' u w' _ I4 r2 r4 q4) fun d' s5 ⟨z2,H5,I5,r5,k2,e2,q5⟩=>?_))
  subst e2
  cases r5
  exact wpAny_truthy_bool ⟨H5,I5,q5⟩
theorem gz:(sizeLine:Nat) < 2 ^ 63:=by rw [sizeLine_eq];decide
theorem ii:dF X (binaryOp .Add) (fun x y H Q=>∃ i j,x=.str i/\y=.str j/\i.length+j.length<=sizeLine/\Q (.str (i++j)) H):=by
 intro pins s σ H x y v u Q I rx ry h
 obtain ⟨i,j,rfl,rfl,hz,q⟩:=h
 obtain ⟨t,rfl⟩:=rx
 obtain ⟨t',rfl⟩:=ry
 exact add_str (fun t' tk=>⟨.str (i++j),H,I.tok _,⟨_,rfl⟩,q⟩) hz
theorem fU (r:Vals [x] us):∃ u,us=[u]/\RelV x u:=by
 cases r with
 | cons r1 r2=>cases r2;exact ⟨_,rfl,r1⟩
theorem p6 (r:Vals [x,y] us):∃ u w',us=[u,w']/\RelV x u/\RelV y w':=by
 cases r with
 | cons r1 r2=>
  cases r2 with
  | cons r3 r4=>cases r4;exact ⟨_,_,rfl,r1,r3⟩
theorem jg (hc:X.calm=true):cV X (.builtin "max") (fun xs H Q=>∃ i j,xs=[.int i,.int j]/\Q (.int (if j > i then j else i)) H):=by
 intro pins s σ H xs us Q I r h
 obtain ⟨i,j,rfl,q⟩:=h
 obtain ⟨u,w',rfl,⟨t,rfl⟩,⟨t',rfl⟩⟩:=p6 r
 refine max_two_ints (I.ok.hd hc) fun h' tk k=>⟨_,H,I.kept k,?_,q⟩
 by_cases hj:j > i
 ·rw [if_pos hj,if_pos hj];exact ⟨_,rfl⟩
 ·rw [if_neg hj,if_neg hj];exact ⟨_,rfl⟩
theorem oS (hc:X.calm=true):cV X (.builtin "min") (fun xs H Q=>∃ i j,xs=[.int i,.int j]/\Q (.int (if j < i then j else i)) H):=by
 intro pins s σ H xs us Q I r h
 obtain ⟨i,j,rfl,q⟩:=h
 obtain ⟨u,w',rfl,⟨t,rfl⟩,⟨t',rfl⟩⟩:=p6 r
 refine min_two_ints (I.ok.hd hc) fun h' tk k=>⟨_,H,I.kept k,?_,q⟩
 by_cases hj:j < i
 ·rw [if_pos hj,if_pos hj];exact ⟨_,rfl⟩
 ·rw [if_neg hj,if_neg hj];exact ⟨_,rfl⟩
theorem bV:cV X (.type "int") (fun xs H Q=>(∃ i,xs=[.int i]/\Q (.int i) H)\/∃ k,xs=[.bl k]/\Q (.int (if k then 1 else 0)) H):=by
 intro pins s σ H xs us Q I r h
 rcases h with ⟨i,rfl,q⟩|⟨k,rfl,q⟩
 ·obtain ⟨u,rfl,t,rfl⟩:=fU r
  exact call_int_int ⟨.int i,H,I,⟨_,rfl⟩,q⟩
 ·obtain ⟨u,rfl,r1⟩:=fU r
  cases r1
  exact call_int_bool ⟨.int (if k then 1 else 0),H,I.tok _,⟨_,rfl⟩,q⟩
theorem jG:cV X (.type "str") (fun xs H Q=>∃ i,xs=[.int i]/\i.natAbs.log2 < 1920/\Q (.str (toString i)) H):=by
 intro pins s σ H xs us Q I r h
 obtain ⟨i,rfl,hz,q⟩:=h
 obtain ⟨u,rfl,t,rfl⟩:=fU r
 exact PySem.P.str_of_int hz ⟨.str _,H,I.tok _,⟨_,rfl⟩,q⟩
end
structure ObjM (h:Heap) (x dx C:Addr) (mA:Str->Option Value):Prop where
 obj:h.get? x=some (PySem.W.instObj C dx)
 ns:h.Ns1 dx mA
 ne:dx≠x
variable {mA:Str->Option Value} {dx:Addr}
theorem eP (n:h.Ns1 dx mA):∃ od,h.get? dx=some od/\∀ name,PySem.W.lookIn name od=some (mA name):=by
 obtain ⟨o,es,ep,ho,hd,hk,_,hm⟩:=n
 refine ⟨o,ho,fun name=>?_⟩
 have e:=hm name
 unfold nsFind findBy at e
 rw [<-Array.find?_toList] at e
 unfold PySem.W.lookIn
 rw [hd]
 dsimp only
 split
 ·rename_i y q
  rw [q] at e
  exact congrArg some e
 ·rename_i q
  rw [q] at e
  have a:es.toList.any (·.refKey)=false:=by
   rw [List.any_eq_false]
   intro y hy
   obtain ⟨z,t,hkey⟩:=hk y (Array.mem_toList_iff.mp hy)
   simp [DictEntry.refKey,hkey]
  have a':¬ es.toList.any (·.refKey)=true:=by rw [a];exact BY
  rw [if_neg a']
  exact congrArg some e
theorem ObjM.look {x dx C:Addr} (I:ObjM h x dx C mA):∃ od,PySem.W.InstAt h x (PySem.W.instObj C dx) C (some od)/\∀ name,PySem.W.lookIn name od=some (mA name):=
 let ⟨od,ho,hl⟩:=eP I.ns
 ⟨od,⟨I.obj,rfl,rfl,ho⟩,hl⟩
section
variable {prog:Program} {w:World} {A:Around} {E:Value->Shared->Prop} {s:Shared} {K:ZF} {x dx C f:Addr} {mA:Str->Option Value} {name:Str} {v:Value}
theorem tQ {expr:Bool} {Q:Value->Shared->Prop} (X:K.In s.heap) (I:ObjM s.heap x dx C mA) (hg:PySem.W.plainGet K C name=true) (hh:PySem.W.hasDictIn K C=true)
  (ha:PySem.W.findIn K (.ref C) name=some none) (hv:mA name=some v) (hv':PySem.W.handedIn v=true) (h:Q v { s with toks:=s.toks+1 }) :
  wpAny (model prog w) A (getAttr (.ref x) name expr) Q E s:=by
 obtain ⟨od,J,hl⟩:=I.look
 exact PySem.W.get_value X J (PySem.W.plainGet_of hg).1 (PySem.W.findObj_own hh ha rfl (by rw [hl,hv])) hv' h
theorem p7 {pl:Sem Bool} {Q:Value×List Value->Shared->Prop} (X:K.In s.heap) (I:ObjM s.heap x dx C mA) (hg:PySem.W.plainGet K C name=true)
  (hf:PySem.W.findIn K (.ref C) name=some (some (.ref f))) (ht:PySem.W.isFn K (.ref f)=true) (hv:mA name=none) (h:Q (.ref f,[.ref x]) s) :
  wpAny (model prog w) A (getMethod (.ref x) name pl) Q E s:=by
 obtain ⟨od,J,hl⟩:=I.look
 exact PySem.W.method_fn X J (PySem.W.plainGet_of hg).1 (PySem.W.plainGet_of hg).2 hf (beq_iff_eq.mp ht) (by show (PySem.W.lookIn name od).map (·.isSome)=some false;rw [hl,hv];rfl) h
theorem tR {ns:List Str} {Q:Unit->Shared->Prop} (X:K.In s.heap) (I:ObjM s.heap x dx C mA)
  (hs:PySem.W.findIn K (.ref C) "__setattr__"=some (some (.builtin "object.__setattr__"))) (hp:PySem.W.plainOver K C=true) (ht:PySem.W.takerIn K C name=some none) (hh:PySem.W.hasDictIn K C=true)
  (hw:PySem.Within mA ns) (hsz:ns.length<=sizeLine)
  (h:∀ h',ObjM h' x dx C (fun y=>if y=name then some v else mA y)->Heap.SameBut dx s.heap h'->Q () { s with heap:=h',toks:=s.toks+2 }) :
  wpAny (model prog w) A (setAttr (.ref x) name v) Q E s:=by
 obtain ⟨od,J,hl⟩:=I.look
 refine PySem.W.set_plain X J hs (PySem.W.osa_open (s:={ s with toks:=s.toks+1 }) (r:=none) X J hp ht fun b=>?_)
 obtain ⟨cd,hc,hd'⟩:=PySem.W.any_some hh
 have hx:s.heap.get? x=some ⟨.ref C,some dx,.plain,#[]⟩:=I.obj
 refine wpAny_bind (wpAny_pure (wpAny_bind (wpAny_bind (wpAny_loadPart hx (wpAny_bind (PySem.W.Looks.here (s:={ s with toks:=s.toks+1 }) (PySem.W.looks_clsIn X hc) ?_))))))
 rw [hd']
 refine wpAny_pure (a:=some dx) (wpAny_bind (wpAny_pure (wpAny_bind ?_)))
 refine wpAny_nsSet1 (s:={ s with toks:=s.toks+1 }) I.ns fun h' hn2 hs2=>?_
 obtain ⟨oD,esD,epD,hoD,hdD,hcD⟩:=hn2.count (PySem.Within.cons name v hw)
 refine wpAny_bind (wpAny_lookBehind hoD (by rw [hdD];exact pastItsLine_dict (Cm hcD (by rw [BS];lia))) ?_)
 exact wpAny_pure (h _ ⟨(hs2.2 _ (Ne.symm I.ne)).trans I.obj,hn2,I.ne⟩ hs2)
theorem p8 {R:Result->Shared->Prop} {vs:List Value} {kw:List (Str×Value)} (X:K.In s.heap) (hm:PySem.W.makesIn K C=true)
  (hi:PySem.W.findIn K (.ref C) "__init__"=some (some (.ref f))) (hf:PySem.W.typeIn K (.ref f)=some (.type "function"))
  (h:codeAny (model prog w) (A.under (.builtin "type.__call__" ⟨.ref C::vs,kw⟩)) (.call (.ref f) ⟨.ref (s.heap.objs.size+1)::vs,kw⟩) (PySem.W.InitBack (s.heap.objs.size+1) R)
   { s with heap:=(s.heap.push PySem.W.emptyDict).push (PySem.W.instObj C s.heap.objs.size) }) :
  codeAny (model prog w) A (.call (.ref C) ⟨vs,kw⟩) R s:=by
 obtain ⟨hh,g,d,t,os⟩:=s
 exact PySem.W.make_core (PySem.W.makes_of X hm) (PySem.W.looks_findIn X hi) (fun self=>PySem.W.bind_fn X self hf) (.inl rfl) h
end
def aM (f:Str) (v:V):List (Str×V)->List (Str×V)
 | []=>[(f,v)]
 | (g,x)::r=>if g=f then (g,v)::r else (g,x)::aM f v r
theorem dX (f g:Str) (v:V):∀ fs:List (Str×V),(aM f v fs).lookup g=if g=f then some v else fs.lookup g
 | []=>by
  show List.lookup g [(f,v)]=_
  by_cases h:g=f
  ·have hb:(g == f)=true:=beq_iff_eq.mpr h
   simp only [List.lookup,hb,if_pos h]
  ·have hb:(g == f)=false:=beq_eq_false_iff_ne.mpr h
   simp only [List.lookup,hb,if_neg h]
 | (k,x)::r=>by
  have ih:=dX f g v r
  rw [show aM f v ((k,x)::r)=(if k=f then (k,v)::r else (k,x)::aM f v r) from rfl]
  by_cases hk:k=f
  ·rw [if_pos hk]
   by_cases h:g=k
   ·have hb:(g == k)=true:=beq_iff_eq.mpr h
    simp only [List.lookup,hb,if_pos (h.trans hk)]
   ·have hb:(g == k)=false:=beq_eq_false_iff_ne.mpr h
    simp only [List.lookup,hb,if_neg (fun e:g=f=>h (e.trans hk.symm))]
  ·rw [if_neg hk]
   by_cases h:g=k
   ·have hb:(g == k)=true:=beq_iff_eq.mpr h
    simp only [List.lookup,hb,if_neg (fun e:g=f=>hk (h.symm.trans e))]
   ·have hb:(g == k)=false:=beq_eq_false_iff_ne.mpr h
    simp only [List.lookup,hb]
    exact ih
theorem dq (f:Str) (v:V):∀ fs:List (Str×V),f∈(aM f v fs).map (·.1)/\∀ g,g∈fs.map (·.1)->g∈(aM f v fs).map (·.1)
 | []=>⟨by simp [aM],fun g h=>by simp at h⟩
 | (k,x)::r=>by
  obtain ⟨i1,i2⟩:=dq f v r
  rw [show aM f v ((k,x)::r)=(if k=f then (k,v)::r else (k,x)::aM f v r) from rfl]
  by_cases hk:k=f
  ·rw [if_pos hk]
   subst hk
   exact ⟨by simp,fun g h=>by simpa using h⟩
  ·rw [if_neg hk]
   refine ⟨?_,fun g h=>?_⟩
   ·rw [B6]
    exact BV _ i1
   ·rw [B6] at h ⊢
    rcases BW.mp h with e|e
    ·exact BW.mpr (.inl e)
    ·exact BV _ (i2 g e)
theorem dY (f:Str) (v:V):∀ fs:List (Str×V),(aM f v fs).length<=fs.length+1
 | []=>by simp [aM]
 | (k,x)::r=>by
  have ih:=dY f v r
  rw [show aM f v ((k,x)::r)=(if k=f then (k,v)::r else (k,x)::aM f v r) from rfl]
  by_cases hk:k=f
  ·rw [if_pos hk,BS,BS];lia
  ·rw [if_neg hk,BS,BS];lia
variable {v:V}
theorem RelO.some_of {o:Option Value} (r:RelO (some v) o):∃ u,o=some u/\RelV v u:=by
 cases o with
 | none=>exact (show False from r).elim
 | some u=>exact ⟨u,rfl,r⟩
theorem RelO.none_of {o:Option Value} (r:RelO none o):o=none:=by
 cases o with
 | none=>rfl
 | some u=>exact (show False from r).elim
theorem jh (r:RelV v u):PySem.W.handedIn u=true:=by
 cases v with
 | non=>cases (show u=Value.none from r);rfl
 | bl b=>cases (show u=Value.bool b from r);rfl
 | int i=>obtain ⟨t,e⟩:=(show ∃ t,u=Value.int i t from r);cases e;rfl
 | str x=>obtain ⟨t,e⟩:=(show ∃ t,u=Value.str x t from r);cases e;rfl
 | byt b=>obtain ⟨t,e⟩:=(show ∃ t,u=Value.bytes b t from r);cases e;rfl
 | flt b=>obtain ⟨t,e⟩:=(show ∃ t,u=Value.float b t from r);cases e;rfl
 | ref a=>cases (show u=Value.ref a from r);rfl
 | ty n=>cases (show u=Value.type n from r);rfl
section
variable {P:Program} {w:World} {H H':Hp} {h h':Heap} {a C dx:Addr} {fs fs':List (Str×V)}
theorem hI (hok:HOk P w H h) (e:H a=some (.ins C dx fs)):∃ mA,ObjM h a dx C mA/\(∀ f,RelO (fs.lookup f) (mA f))/\PySem.Within mA (fs.map (·.1))/\fs.length<=1000/\H dx=some (.own a):=by
 obtain ⟨d,z,ne,ob,mA,n,r,q⟩:=(show ObjOk P w H h a (.ins C dx fs) from hok a _ e)
 exact ⟨mA,⟨ob,n,ne⟩,r,q,z,d⟩
end
structure Cls (K:ZF) (C:Addr):Prop where
 pg:PySem.W.plainGet K C Str.empty=true
 hd:PySem.W.hasDictIn K C=true
 po:PySem.W.plainOver K C=true
 sa:PySem.W.findIn K (.ref C) "__setattr__"=some (some (.builtin "object.__setattr__"))
variable {C:Addr}
theorem Cls.get (c:Cls K C) (f:Str):PySem.W.plainGet K C f=true:=c.pg
def NoAttr (K:ZF) (C:Addr) (f:Str):Prop:=PySem.W.findIn K (.ref C) f=some none
variable {f:Str}
theorem NoAttr.taker (n:NoAttr K C f):PySem.W.takerIn K C f=some none:=by
 unfold PySem.W.takerIn
 rw [show PySem.W.findIn K (.ref C) f=some none from n]
 rfl
structure l0 (K:ZF) (C:Addr) (m:Str) (f:Addr):Prop where
 at_:PySem.W.findIn K (.ref C) m=some (some (.ref f))
 fn:PySem.W.isFn K (.ref f)=true
 kp:PySem.W.keepIn K (.ref f)=true
section
variable {X:Cx} {pins:List (Addr×Obj)} {σ:St} {H:Hp} {s:Shared} {a C dx:Addr} {fs:List (Str×V)} {f:Str} {v:V} {A:Around} {E:Value->Shared->Prop}
theorem ij {b:Bool} {Q:Value->Shared->Prop} (I:Inv X pins σ H s) (e:H a=some (.ins C dx fs)) (c:Cls X.K C) (n:NoAttr X.K C f) (l:fs.lookup f=some v)
  (h:∀ u s',Inv X pins σ H s'->RelV v u->Q u s'):wpAny (model X.prog X.w) A (getAttr (.ref a) f b) Q E s:=by
 obtain ⟨mA,O,r,_,_,_⟩:=hI I.hok e
 obtain ⟨u,hu,ru⟩:=RelO.some_of (v:=v) (o:=mA f) (by rw [<-l];exact r f)
 exact tQ I.kIn O (c.get f) c.hd n hu (jh ru) (h u _ (I.tok _) ru)
theorem dG {m:Str} {g:Addr} {pl:Sem Bool} {Q:Value×List Value->Shared->Prop} (I:Inv X pins σ H s) (e:H a=some (.ins C dx fs)) (c:Cls X.K C) (k:l0 X.K C m g) (l:fs.lookup m=none)
  (h:Q (.ref g,[.ref a]) s):wpAny (model X.prog X.w) A (getMethod (.ref a) m pl) Q E s:=by
 obtain ⟨mA,O,r,_,_,_⟩:=hI I.hok e
 have hn:mA m=none:=RelO.none_of (by rw [<-l];exact r m)
 exact p7 I.kIn O (c.get m) k.at_ k.fn hn h
theorem ik {Q:Unit->Shared->Prop} (I:Inv X pins σ H s) (e:H a=some (.ins C dx fs)) (c:Cls X.K C) (n:NoAttr X.K C f) (hl:fs.length < 1000) (ry:RelV y u)
  (h:∀ s',Inv X pins σ (aC H a (.ins C dx (aM f y fs))) s'->Q () s'):wpAny (model X.prog X.w) A (setAttr (.ref a) f u) Q E s:=by
 obtain ⟨mA,O,r,wi,_,ho⟩:=hI I.hok e
 have hz:(fs.map (·.1)).length<=sizeLine:=by rw [BJ,sizeLine_eq];lia
 refine tR I.kIn O c.sa c.po n.taker c.hd wi hz fun h' O' sb=>h _ ?_
 have hd:∃ o,h'.get? dx=some o:=let ⟨o,_,_,e',_⟩:=O'.ns;⟨o,e'⟩
 refine I.write (x:=a) (e:=dx) (by rw [e];exact True.intro) (.inr ho) (fun b q hb z=>(sb.2 b hb).trans z) hd ?_
 refine ⟨by rw [aw O.ne];exact ho,?_,O.ne,O'.obj,_,O'.ns,fun g=>?_,fun g hg=>?_⟩
 ·have:=dY f y fs;lia
 ·show RelO ((aM f y fs).lookup g) (if g=f then some u else mA g)
  rw [dX]
  by_cases q:g=f
  ·rw [if_pos q,if_pos q];exact ry
  ·rw [if_neg q,if_neg q];exact r g
 ·by_cases q:g=f
  ·rw [q];exact (dq f y fs).1
  ·refine (dq f y fs).2 g (wi g fun z=>hg ?_)
   show (if g=f then some u else mA g)=none
   rw [if_neg q];exact z
theorem Inv.made (I:Inv X pins σ H s):Inv X pins σ (aC (aC H s.heap.objs.size (.own (s.heap.objs.size+1))) (s.heap.objs.size+1) (.ins C s.heap.objs.size []))
  { s with heap:=(s.heap.push PySem.W.emptyDict).push (PySem.W.instObj C s.heap.objs.size) }:=by
 have e1:(s.heap.push PySem.W.emptyDict).get? s.heap.objs.size=some PySem.W.emptyDict:=B0 s.heap rfl
 have e2:((s.heap.push PySem.W.emptyDict).push (PySem.W.instObj C s.heap.objs.size)).get? (s.heap.objs.size+1)=some (PySem.W.instObj C s.heap.objs.size):=by
  have:=B0 (s.heap.push PySem.W.emptyDict) (o:=PySem.W.instObj C s.heap.objs.size) rfl
  rwa [Dc] at this
 have e3:(s.heap.push PySem.W.emptyDict).Ns s.heap.objs.size (fun _=>none):=⟨PySem.W.emptyDict,#[],_,e1,rfl,(fun e he=>absurd he (by simp)),fun _=>rfl⟩
 have I1:=I.laid (a:=s.heap.objs.size) (o:=.own (s.heap.objs.size+1)) (h':=s.heap.push PySem.W.emptyDict) (t':=s.toks) (fun b u q=>BM _ q) (BT _) ⟨_,e1⟩
 refine I1.laid (a:=s.heap.objs.size+1) (o:=.ins C s.heap.objs.size []) (t':=s.toks) (fun b u q=>BM _ q) (Nat.le_of_eq (Dc _ _)) ?_
 have ne:s.heap.objs.size≠s.heap.objs.size+1:=Ce (Dl _)
 refine ⟨by rw [aw ne,ad],Cy _,ne,e2,fun _=>none,(Heap.Ns1.of_empty e3).at fun o q=>BM _ q,fun _=>True.intro,fun y hy=>absurd rfl hy⟩
theorem nJ {prog:Program} {w:World} {env:Env} {pos:Pos} {s:Shared} {Q:Value->Shared->Prop} (hb:attributeBase e f env (eval e env)=eval e env)
  (h:wpAny (model prog w) A (eval e env) (fun o s₁=>wpAny (model prog w) A (getAttr o f true) Q E s₁) E s):wpAny (model prog w) A (eval (.Attribute e f pos) env) Q E s:=
 Attribute_any_ h (by rw [arm_eval_Attribute,hb])
end
inductive vF (K:ZF) (f:Str) (Q:VK) (x:V) (H1:Hp):Prop
 | mk (a C dx fs v:_):x=.ref a->H1 a=some (.ins C dx fs)->Cls K C->NoAttr K C f->fs.lookup f=some v->Q v H1->vF K f Q x H1
def AO (K:ZF) (ta:TE) (f:Str):TE:=fun σ H Q=>ta σ H fun x H1=>vF K f Q x H1
inductive vG (K:ZF) (f:Str) (D:Ends) (σ:St) (y:V) (x:V) (H2:Hp):Prop
 | mk (a C dx fs:_):x=.ref a->H2 a=some (.ins C dx fs)->Cls K C->NoAttr K C f->fs.length < 1000->D.nx σ (aC H2 a (.ins C dx (aM f y fs)))->vG K f D σ y x H2
def AQ (K:ZF) (ta tv:TE) (f:Str):TS:=fun D σ H=>tv σ H fun y H1=>ta σ H1 fun x H2=>vG K f D σ y x H2
def zq (X:Cx) (op:Operator) (rd:V->V->Hp->VK->Prop):Prop:=
 ∀ (pins:List (Addr×Obj)) (s:Shared) (σ:St) (H:Hp) (x y:V) (u v:Value) (Q:VK),Inv X pins σ H s->RelV x u->RelV y v->rd x y H Q->wpAny (model X.prog X.w) X.A (inplaceOp op u v) (EP X pins σ Q) X.xe s
inductive kE (K:ZF) (tv:TE) (rd:V->V->Hp->VK->Prop) (f:Str) (D:Ends) (σ:St) (x:V) (H1:Hp):Prop
 | mk (a C dx fs v:_):x=.ref a->H1 a=some (.ins C dx fs)->Cls K C->NoAttr K C f->fs.lookup f=some v->(tv σ H1 fun y H2=>rd v y H2 fun z H3=>∃ dx' fs',H3 a=some (.ins C dx' fs')/\fs'.length < 1000/\D.nx σ (aC H3 a (.ins C dx' (aM f z fs'))))->kE K tv rd f D σ x H1
def tU (K:ZF) (ta tv:TE) (rd:V->V->Hp->VK->Prop) (f:Str):TS:=fun D σ H=>ta σ H fun x H1=>kE K tv rd f D σ x H1
section
variable {X:Cx} {o e value:Expr} {f:Str} {pos pos' tpos:Pos} {ta tv:TE}
theorem aV (he:PE X e ta) (hb:attributeBase e f X.env (eval e X.env)=eval e X.env):PE X (.Attribute e f pos) (AO X.K ta f):=by
 refine ⟨?_⟩
 intro pins s σ H Q I h
 refine nJ hb (bF (he pins s σ H _ I h) fun u s1 ⟨x,H1,I1,rx,a,C,dx,fs,v,ex,ea,c,n,l,q⟩=>?_)
 subst ex
 obtain rfl:u=Value.ref a:=rx
 exact ij I1 ea c n l fun u' s2 I2 ru=>⟨v,H1,I2,ru,q⟩
theorem bB (ha:PE X o ta) (hv:PE X value tv) (hs:swapsWith value (some (.Attribute o f pos')) pos.line X.env=pure false):PS X (.Assign [.Attribute o f pos'] value pos) (AQ X.K ta tv f):=by
 refine ⟨?_⟩
 intro pins s σ H D I h
 refine plainObj_wpAny_Assign_Attribute (bF (hv pins s σ H _ I h) fun u s1 ⟨y,H1,I1,ry,q⟩=>bF (ha pins s1 σ H1 _ I1 q) fun ov s2 ⟨x,H2,I2,rx,a,C,dx,fs,ex,ea,c,n,l,q2⟩=>?_) hs
 subst ex
 obtain rfl:ov=Value.ref a:=rx
 exact ik I2 ea c n l ry fun s3 I3=>⟨σ,_,I3,q2⟩
theorem ji {op:Operator} {rd:V->V->Hp->VK->Prop} (ha:PE X o ta) (hv:PE X value tv) (hop:zq X op rd):PS X (.AugAssign (.Attribute o f tpos) op value pos) (tU X.K ta tv rd f):=by
 refine ⟨?_⟩
 intro pins s σ H D I h
 refine wpAny_AugAssign_AttributeAny (bF (ha pins s σ H _ I h) fun ov s1 ⟨x,H1,I1,rx,a,C,dx,fs,v,ex,ea,c,n,l,q⟩=>?_)
 subst ex
 obtain rfl:ov=Value.ref a:=rx
 refine ij I1 ea c n l fun u s2 I2 ru=>bF (hv pins s2 σ H1 _ I2 q) fun w3 s3 ⟨y,H2,I3,ry,q3⟩=>bF (hop pins s3 σ H2 v y u w3 _ I3 ru ry q3) fun w4 s4 ⟨z,H3,I4,rz,dx',fs',ea',l',q4⟩=>?_
 exact ik I4 ea' c n l' rz fun s5 I5=>⟨σ,_,I5,q4⟩
inductive zr (x:V) (y:V) (H:Hp) (Q:VK):Prop
 | mk (i j:_):x=.int i->y=.int j->Q (.int (i+j)) H->zr x y H Q
theorem qa:zq X .Add zr:=by
 rintro pins s σ H x y u v Q I rx ry ⟨i,j,rfl,rfl,q⟩
 obtain ⟨t,rfl⟩:=(show ∃ t,u=Value.int i t from rx)
 obtain ⟨t',rfl⟩:=(show ∃ t',v=Value.int j t' from ry)
 exact PyProof.Rows.iadd_int ⟨.int (i+j),H,I.tok _,⟨_,rfl⟩,q⟩
end
section
variable {X:Cx} {pins:List (Addr×Obj)} {σ:St} {H:Hp} {s:Shared} {A:Around} {E:Value->Shared->Prop} {Q:Value->Shared->Prop} {c:Value} {b:Bool}
inductive fV (K:ZF) (H:Hp):V->Value->Prop where
 | non:fV K H .non (.type "NoneType")
 | bl (x:Bool):fV K H (.bl x) (.type "bool")
 | int (i:Int):fV K H (.int i) (.type "int")
 | str (x:Str):fV K H (.str x) (.type "str")
 | flt (x:UInt64):fV K H (.flt x) (.type "float")
 | lst {a:Addr} {xs:List V} (e:H a=some (.lst xs)):fV K H (.ref a) (.type "list")
 | frz {a:Addr} {o:Obj} {xs:List V} (e:H a=some (.frz o (.lst xs))):fV K H (.ref a) (.type "list")
 | tup {a:Addr} {xs:List V} (e:H a=some (.tup xs)):fV K H (.ref a) (.type "tuple")
 | dK {a:Addr} {kvs:List (cz×V)} (e:H a=some (.dK kvs)):fV K H (.ref a) (.type "dict")
 | dT {a:Addr} {kvs:List (List cz×V)} (e:H a=some (.dT kvs)):fV K H (.ref a) (.type "dict")
 | ins {a C dx:Addr} {fs:List (Str×V)} (e:H a=some (.ins C dx fs)) (cl:Cls K C) (ha:PySem.W.findIn K (.ref C) "__class__"=some (some (.builtin "object.__class__")))
   (hn:PySem.W.specialIn K (.builtin "object.__class__") "__get__"=some (some (.builtin "getset_descriptor.__get__"))) (htk:PySem.W.takesIn K (.builtin "object.__class__")=some true)
   (hm:PySem.W.mroIn K C (.type "object")=some true):fV K H (.ref a) (.ref C)
theorem oU {u t:Value} (I:Inv X pins σ H s) (rx:RelV x u) (ty:fV X.K H x t) (e:PySem.W.kitOne X.K t c=some b) (h:∀ tk,Q (.bool b) { s with toks:=tk }) :
  wpAny (model X.prog X.w) A (call (.builtin "isinstance") [u,c]) Q E s:=by
 cases ty with
 | non=>cases (show u=Value.none from rx);exact CF PySem.W.kitx_none I.kIn True.intro e (fun z=>nomatch z) h
 | bl y=>cases (show u=Value.bool y from rx);exact CF PySem.W.kitx_bool I.kIn True.intro e (fun z=>nomatch z) h
 | int i=>obtain ⟨t,q⟩:=(show ∃ t,u=Value.int i t from rx);cases q;exact CF PySem.W.kitx_int I.kIn True.intro e (fun z=>nomatch z) h
 | str y=>obtain ⟨t,q⟩:=(show ∃ t,u=Value.str y t from rx);cases q;exact CF PySem.W.kitx_str I.kIn True.intro e (fun z=>nomatch z) h
 | flt y=>obtain ⟨t,q⟩:=(show ∃ t,u=Value.float y t from rx);cases q;exact CF PySem.W.kitx_float I.kIn True.intro e (fun z=>nomatch z) h
 | @lst a xs ea=>
  cases (show u=Value.ref a from rx)
  obtain ⟨_,_,n,_,h1⟩:=(show ObjOk X.prog X.w H s.heap a (.lst xs) from I.hok a _ ea)
  exact CF PySem.W.kitx_list I.kIn ⟨_,h1,rfl⟩ e (fun z=>nomatch z) h
 | @frz a ob xs ea=>
  cases (show u=Value.ref a from rx)
  obtain ⟨_,_,_,n,_,h1⟩:=(show ObjOk X.prog X.w H s.heap a (.frz ob (.lst xs)) from I.hok a _ ea)
  exact CF PySem.W.kitx_list I.kIn ⟨_,h1,rfl⟩ e (fun z=>nomatch z) h
 | @tup a xs ea=>
  cases (show u=Value.ref a from rx)
  obtain ⟨_,_,_,p⟩:=(show ObjOk X.prog X.w H s.heap a (.tup xs) from I.hok a _ ea)
  obtain ⟨o,h1,h2,_⟩:=p
  exact CF PySem.W.kitx_tuple I.kIn ⟨o,h1,(Prod.mk.inj h2).1⟩ e (fun z=>nomatch z) h
 | @dK a kvs ea=>
  cases (show u=Value.ref a from rx)
  obtain ⟨_,_,vs,_,p⟩:=(show ObjOk X.prog X.w H s.heap a (.dK kvs) from I.hok a _ ea)
  obtain ⟨o,es,ep,h1,h2,_⟩:=p
  exact CF PySem.W.kitx_dict I.kIn ⟨o,h1,h2.1⟩ e (fun z=>nomatch z) h
 | @dT a kvs ea=>
  cases (show u=Value.ref a from rx)
  obtain ⟨_,_,xs,_,o,es,ep,h1,h2,_⟩:=(show ObjOk X.prog X.w H s.heap a (.dT kvs) from I.hok a _ ea)
  exact CF PySem.W.kitx_dict I.kIn ⟨o,h1,h2.1⟩ e (fun z=>nomatch z) h
 | @ins a C dx fs ea cl ha hn htk hm=>
  cases (show u=Value.ref a from rx)
  obtain ⟨mA,O,_⟩:=hI I.hok ea
  obtain ⟨od,J,_⟩:=O.look
  exact CF (PySem.W.kitx_own (cl.get _) cl.hd ha hn htk hm) I.kIn J e (fun z=>nomatch z) h
end
structure Room (k:Nat) (A:Around):Prop where
 hd:A.handled=none
 dp:A.depth+3*k+5 < recursionLimit
 un:A.units+16*k+200 < cLine
theorem Room.mono {j k:Nat} (r:Room k A) (h:j<=k):Room j A:=⟨r.hd,by have:=r.dp;lia,by have:=r.un;lia⟩
theorem Room.deeper {k:Nat} (r:Room (k+1) A) (env:Env):Room k (A.deeper env):=
 ⟨r.hd,by have:=r.dp;show A.depth+1+3*k+5 < _;lia,by have:=r.un;show A.units+3+16*k+200 < _;lia⟩
variable {kw:List (Str×Value)}
theorem ma:(A.under (.builtin "type.__call__" ⟨.ref C::us,kw⟩)).depth=A.depth+1:=by
 first|rfl|simp [Around.under,Code.weight,Code.isCreation,Code.isGuard,Code.isCaller,Code.frames,Code.isFrame,guardIds]
theorem md:(A.under (.builtin "type.__call__" ⟨.ref C::us,kw⟩)).units=A.units+1:=by
 first|rfl|simp [Around.under,Code.cUnits,Code.frames,Code.isFrame]
theorem Room.make {k:Nat} (r:Room (k+1) A) (C:Addr) (us:List Value) (kw:List (Str×Value)):Room k (A.under (.builtin "type.__call__" ⟨.ref C::us,kw⟩)):=
 ⟨r.hd,by have:=r.dp;rw [ma];lia,by have:=r.un;rw [md];lia⟩
theorem Room.depth {k:Nat} (r:Room k A):A.depth < recursionLimit:=by have:=r.dp;lia
theorem Room.units {k:Nat} (r:Room k A):A.units+64 < cLine:=by have:=r.un;lia
def mh:TA:=fun _ H Q=>Q [] H
def fh (ta:TE) (tr:TA):TA:=fun σ H Q=>ta σ H fun x H1=>tr σ H1 fun xs H2=>Q (x::xs) H2
section
variable {X:Cx} {e:Expr} {es:List Expr} {te:TE} {t:TA} {pos:Pos}
theorem ac:PA X [] mh:=⟨fun _ _ _ _ H Q I h=>Calls.spliced_nil ⟨[],H,I,.nil,h⟩⟩
theorem aa (ha:PE X e te) (hr:PA X es t) (hs:starEach (e::es) X.env=(false,eval e X.env)::starEach es X.env:=by rfl):PA X (e::es) (fh te t):=by
 refine ⟨?_⟩
 intro pos pins s σ H Q I h
 rw [hs]
 show wpAny _ _ (spliced ((false,eval e X.env)::backTo pos (starEach es X.env))) _ _ s
 refine Calls.spliced_cons (bF (ha pins s σ H _ I h) fun u s1 ⟨x,H1,I1,r1,q1⟩=>?_)
 exact bF (hr pos pins s1 σ H1 _ I1 q1) fun us s2 ⟨xs,H2,I2,r2,q2⟩=>⟨x::xs,H2,I2,.cons r1 r2,q2⟩
def wH (t:TA):TE:=fun σ H Q=>t σ H fun xs H1=>xs.length<=sizeLine/\∀ p,H1 p=none->Q (.ref p) (aC H1 p (.tup xs))
def AR (t:TA):TE:=fun σ H Q=>t σ H fun xs H1=>xs.length<=sizeLine/\∀ p,H1 p=none->Q (.ref p) (aC H1 p (.lst xs))
theorem aH {x1} (h:PA X es t):PE X (.Tuple es x1 pos) (wH t):=by
 refine ⟨?_⟩
 intro pins s σ H Q I hq
 refine wpAny_Tuple_spliced (bF (h pos pins s σ H _ I hq) fun us s1 ⟨xs,H1,I1,r,z,q⟩=>⟨by rw [<-r.length];exact z,?_⟩)
 have hf:H1 s1.heap.objs.size=none:=I1.hok.fresh (BT _)
 refine ⟨.ref s1.heap.objs.size,aC H1 s1.heap.objs.size (.tup xs),I1.laid (t':=s1.toks) (fun b u e=>BM _ e) (BT _) ?_,rfl,q _ hf⟩
 exact ⟨z,us,r,⟨_,B0 _ rfl,rfl,_,rfl⟩⟩
theorem aL (h:PA X es t):PE X (.List es pos) (AR t):=by
 refine ⟨?_⟩
 intro pins s σ H Q I hq
 refine wpAny_List_spliced (bF (h pos pins s σ H _ I hq) fun us s1 ⟨xs,H1,I1,r,z,q⟩=>⟨by rw [<-r.length];exact z,?_⟩)
 have hf:H1 s1.heap.objs.size=none:=I1.hok.fresh (BT _)
 refine ⟨.ref s1.heap.objs.size,aC H1 s1.heap.objs.size (.lst xs),I1.laid (t':=s1.toks) (fun b u e=>BM _ e) (BT _) ?_,rfl,q _ hf⟩
 exact ⟨z,us,0,r,B0 _ rfl⟩
end
abbrev Sp:=List V->Hp->VK->XK->Prop
abbrev oV:=List Env->Hp->Shared->XK->Value->Shared->Prop
structure Env0 (P:Program) (w:World) (K:ZF) (mg:Str->Option Value) (base:Heap) (A:Around) (outer:List Env) (s:Shared) (H:Hp):Prop where
 frames:A.frames=some outer
 mod:Mod K mg base
 bs:∀ b o,base.get? b=some o->s.heap.get? b=some o/\H b=none
 bsz:base.objs.size<=s.heap.objs.size
 funs:s.heap.FunFrames base outer
 frf:∀ b∈jD outer,H b=none
 hok:HOk P w H s.heap
 bare:AllBare s.gens
inductive CE (outer:List Env) (P:Program) (w:World) (H:Hp) (s:Shared) (Q:VK) (u:Value) (s':Shared):Prop
 | mk (v H':_):s'.os=s.os->AllBare s'.gens->Un (jD outer) [] H H' s.heap s'.heap->HOk P w H' s'.heap->RelV v u->Q v H'->CE outer P w H s Q u s'
def CR (CX:oV) (outer:List Env) (P:Program) (w:World) (H:Hp) (s:Shared) (Q:VK) (E:XK) (r:Result) (s':Shared):Prop:=
 match r with
 | .ok (.ret u)=>CE outer P w H s Q u s'
 | .ok _=>False
 | .error e=>CX outer H s E e s'
structure FnOk (P:Program) (w:World) (K:ZF) (mg:Str->Option Value) (base:Heap) (CX:oV) (k:Nat) (f:Addr) (fd:FuncData) (ps:List Str) (sp:Sp):Prop where
 len:∀ vs H Q E,sp vs H Q E->vs.length=ps.length
 run:∀ (A:Around) (outer:List Env) (s:Shared) (H:Hp) (args:Args) (us:List Value) (vs:List V) (Q:VK) (E:XK),Room k A->Env0 P w K mg base A outer s H->BindsTo s fd args (ps.zip us)->Vals vs us->sp vs H Q E->
  codeAny (model P w) A (.call (.ref f) args) (CR CX outer P w H s Q E) s
variable {outer:List Env} {base:Heap} {mg:Str->Option Value}
theorem Env0.make (e:Env0 P w K mg base A outer s H) (C:Addr) (us:List Value) (kw:List (Str×Value)) :
  Env0 P w K mg base (A.under (.builtin "type.__call__" ⟨.ref C::us,kw⟩)) outer s H:=⟨by first|exact e.frames|(simpa [Around.under,Code.envs,Code.isFrame,pushEnvs] using e.frames),e.mod,e.bs,e.bsz,e.funs,e.frf,e.hok,e.bare⟩
section
variable {X:Cx} {pins:List (Addr×Obj)} {σ:St} {H:Hp} {s s':Shared}
theorem Inv.env0 (I:Inv X pins σ H s):Env0 X.prog X.w X.K X.mg X.base X.A X.stack s H:=
 ⟨I.ok.frames,I.ok.mod,I.bs,Cm I.ok.bsz I.sz,I.stack,I.stkFree,I.hok,I.bare⟩
theorem Inv.after {Q:VK} (I:Inv X pins σ H s) (h:CE X.stack X.prog X.w H s Q u s'):EP X pins σ Q u s':=by
 obtain ⟨v,H',os,bare,un,hok,r,q⟩:=h
 obtain ⟨hh,g,d,t,os'⟩:=s'
 obtain rfl:os'=s.os:=os
 exact ⟨v,H',I.call (h':=hh) (g':=g) (d':=d) (t':=t) (ch:=[]) un hok bare (fun b z=>absurd z (by simp)),r,q⟩
end
def nL (sp:Sp) (dvs:List V) (E:XK) (t:TA):TE:=fun σ H Q=>t σ H fun vs H1=>sp (vs++dvs) H1 Q E
def zt (C:Addr) (sp:Sp) (dvs:List V) (E:XK) (t:TA):TE:=fun σ H Q=>t σ H fun vs H1=>∀ x dx,H1 x=none->H1 dx=none->dx≠x->
 sp (.ref x::(vs++dvs)) (aC (aC H1 dx (.own x)) x (.ins C dx [])) (fun v H2=>v=.non/\Q (.ref x) H2) E
def Binds (K:ZF) (fd:FuncData) (ps:List Str) (ds:List Value):Prop:=
 ∀ (s:Shared) (us:List Value),K.In s.heap->(us++ds).length=ps.length->BindsTo s fd ⟨us,[]⟩ (ps.zip (us++ds))
variable {ps:List Str}
theorem Binds.all {fd:FuncData} (h:∀ us:List Value,us.length=ps.length->bindArgs fd ⟨us,[]⟩=pure (ps.zip us)):Binds K fd ps []:=fun s us _ hl=>by
 rw [Cv] at hl ⊢
 exact .of_eq (h us hl)
def dH (CX:oV) (X:Cx) (E:XK):Prop:=∀ (pins:List (Addr×Obj)) (σ:St) (H:Hp) (s:Shared) (e:Value) (s':Shared),Inv X pins σ H s->CX X.stack H s E e s'->X.xe e s'
section
variable {X:Cx} {CX:oV} {k:Nat} {f C:Addr} {fd:FuncData} {ps:List Str} {sp:Sp} {dvs:List V} {ds:List Value} {E:XK} {x m:Str} {p pos apos:Pos} {e o:Expr} {es:List Expr} {ta:TE} {t:TA}
theorem gA {pins:List (Addr×Obj)} {σ:St} {H:Hp} {s:Shared} {Q:VK} {us:List Value} {vs:List V} (F:FnOk X.prog X.w X.K X.mg X.base CX k f fd ps sp) (hr:Room k X.A) (hb:Binds X.K fd ps ds) (hd:Vals dvs ds) (hx:dH CX X E)
  (I:Inv X pins σ H s) (r:Vals vs us) (h:sp (vs++dvs) H Q E):wpAny (model X.prog X.w) X.A (call (.ref f) us) (EP X pins σ Q) X.xe s:=by
 have r2:Vals (vs++dvs) (us++ds):=r.append hd
 have hl:(us++ds).length=ps.length:=by rw [<-r2.length];exact F.len _ _ _ _ h
 refine wpAny_call (codeAny_mono (F.run X.A X.stack s H ⟨us,[]⟩ (us++ds) (vs++dvs) Q E hr I.env0 (hb s us I.kIn hl) r2 h) fun r s' hq=>?_)
 cases r with
 | error e=>exact hx pins σ H s e s' I hq
 | ok fl=>
  cases fl with
  | ret u=>exact I.after hq
  | next=>exact False.elim hq
  | brk=>exact False.elim hq
  | cont=>exact False.elim hq
theorem tV (F:FnOk X.prog X.w X.K X.mg X.base CX k f fd ps sp) (hr:Room k X.A) (hg:Gl X x) (hm:X.mg x=some (.ref f)) (hk:PySem.W.keepIn X.K (.ref f)=true) (hb:Binds X.K fd ps ds) (hd:Vals dvs ds) (hx:dH CX X E)
  (ha:PA X (e::es) t) (hdb:(x == ("__debug__":Str))=false:=by decide) (he:starEach (e::es) X.env=(false,eval e X.env)::starEach es X.env:=by rfl) (hpl:(backTo pos (starEach es X.env)).any (·.1)=false:=by rfl) :
  PE X (.Call (.Name x p) (e::es) [] pos) (nL sp dvs E t):=by
 refine ⟨?_⟩
 intro pins s σ H Q I h
 refine wpAny_Call_Name_kw (dE I hg hm ?_ hdb)
 refine CQ (h₀:=X.base) I.ok.mod.kin hk (bF (ha pos pins s σ H _ I h) fun us s1 ⟨vs,H1,I1,r,q⟩=>⟨I1.kIn,?_⟩) he hpl
 exact gA F hr hb hd hx I1 r q
theorem qb (F:FnOk X.prog X.w X.K X.mg X.base CX k f fd ps sp) (hr:Room k X.A) (hg:Gl X x) (hm:X.mg x=some (.ref f)) (hk:PySem.W.keepIn X.K (.ref f)=true) (hb:Binds X.K fd ps ds) (hd:Vals dvs ds) (hx:dH CX X E)
  (hdb:(x == ("__debug__":Str))=false:=by decide):PE X (.Call (.Name x p) [] [] pos) (nL sp dvs E mh):=by
 refine ⟨?_⟩
 intro pins s σ H Q I h
 refine wpAny_Call_Name_kw (dE I hg hm ?_ hdb)
 exact PySem.W.callWith_K0 I.kIn hk (gA (us:=[]) F hr hb hd hx I .nil h)
structure Mk (K:ZF) (C f:Addr):Prop where
 makes:PySem.W.makesIn K C=true
 init:PySem.W.findIn K (.ref C) "__init__"=some (some (.ref f))
 fn:PySem.W.isFn K (.ref f)=true
 kp:PySem.W.keepIn K (.ref C)=true
theorem qc {pins:List (Addr×Obj)} {σ:St} {H:Hp} {s:Shared} {Q:VK} {us:List Value} {vs:List V} (M:Mk X.K C f) (F:FnOk X.prog X.w X.K X.mg X.base CX k f fd ps sp) (hr:Room (k+1) X.A) (hb:Binds X.K fd ps ds) (hd:Vals dvs ds)
  (hx:dH CX X E) (I:Inv X pins σ H s) (r:Vals vs us)
  (h:∀ x dx,H x=none->H dx=none->dx≠x->sp (.ref x::(vs++dvs)) (aC (aC H dx (.own x)) x (.ins C dx [])) (fun v H2=>v=.non/\Q (.ref x) H2) E) :
  wpAny (model X.prog X.w) X.A (call (.ref C) us) (EP X pins σ Q) X.xe s:=by
 have hq:=h (s.heap.objs.size+1) s.heap.objs.size (I.hok.fresh (Dm _)) (I.hok.fresh (BT _)) (Ce (Dl _))
 have I2:=Inv.made (C:=C) I
 have r2:Vals (V.ref (s.heap.objs.size+1)::(vs++dvs)) (Value.ref (s.heap.objs.size+1)::(us++ds)):=.cons rfl (r.append hd)
 have hl:(Value.ref (s.heap.objs.size+1)::us++ds).length=ps.length:=by
  have e:=r2.length
  rw [F.len _ _ _ _ hq] at e
  exact e.symm
 refine wpAny_call (p8 (f:=f) I.kIn M.makes M.init (beq_iff_eq.mp M.fn) (codeAny_mono (F.run _ X.stack _ _ ⟨Value.ref (s.heap.objs.size+1)::us,[]⟩ (Value.ref (s.heap.objs.size+1)::(us++ds)) _ _ E (hr.make C us [])
  (I2.env0.make C us []) (hb _ (Value.ref (s.heap.objs.size+1)::us) I2.kIn hl) r2 hq) fun r s' hq'=>?_))
 cases r with
 | error e=>exact hx pins σ _ _ e s' I2 hq'
 | ok fl=>
  cases fl with
  | ret u=>
   obtain ⟨v,H',I3,rv,ev,q3⟩:=I2.after hq'
   subst ev
   exact ⟨rv,⟨V.ref (s.heap.objs.size+1),H',I3,rfl,q3⟩⟩
  | next=>exact False.elim hq'
  | brk=>exact False.elim hq'
  | cont=>exact False.elim hq'
theorem cM (M:Mk X.K C f) (F:FnOk X.prog X.w X.K X.mg X.base CX k f fd ps sp) (hr:Room (k+1) X.A) (hg:Gl X x) (hm:X.mg x=some (.ref C)) (hb:Binds X.K fd ps ds) (hd:Vals dvs ds) (hx:dH CX X E)
  (ha:PA X (e::es) t) (hdb:(x == ("__debug__":Str))=false:=by decide) (he:starEach (e::es) X.env=(false,eval e X.env)::starEach es X.env:=by rfl) (hpl:(backTo pos (starEach es X.env)).any (·.1)=false:=by rfl) :
  PE X (.Call (.Name x p) (e::es) [] pos) (zt C sp dvs E t):=by
 refine ⟨?_⟩
 intro pins s σ H Q I h
 refine wpAny_Call_Name_kw (dE I hg hm ?_ hdb)
 refine CQ (h₀:=X.base) I.ok.mod.kin M.kp (bF (ha pos pins s σ H _ I h) fun us s1 ⟨vs,H1,I1,r,q⟩=>⟨I1.kIn,?_⟩) he hpl
 exact qc M F hr hb hd hx I1 r q
end
structure am (N P:List Str) (sc:Scope):Prop where
 kind:sc.kind=.function
 co:sc.isCoroutine=false
 gen:sc.isGenerator=false
 nd:N.Nodup
 pre:N.take P.length=P
 par:∀ x∈P,sc.names.lookup x=some .local\/sc.names.lookup x=some .cell
 nofree:∀ y∈sc.names,y.2≠.free
variable {sc:Scope}
theorem bG {N P:List Str} (h:N.Nodup/\(∀ x∈P,sc.names.lookup x=some .local\/sc.names.lookup x=some .cell)/\∀ y∈sc.names,y.2≠.free) (a:sc.kind=.function:=by rfl) (b:sc.isCoroutine=false:=by rfl) (c:sc.isGenerator=false:=by rfl) (d:N.take P.length=P:=by rfl):am N P sc:=⟨a,b,c,h.1,d,h.2.1,h.2.2⟩
variable {n:Nat}
theorem bh (h:Nat.ble n 1000=true:=by rfl):n<=sizeLine:=Cm (Nat.le_of_ble_eq_true h) (by decide)
variable {kindOf:Str->Option NameKind}
theorem jj {x:Str}:∀ {binds:List (Str×Value)} {m:Str->Option Value},(∀ v,(x,v)∉binds)->bindL kindOf binds m x=m x
 | [],_,_=>rfl
 | (n,v)::r,m,h=>by
  unfold bindL
  rw [jj fun w hw=>h w (BV _ hw)]
  split
  ·have:x≠n:=by rintro rfl;exact h v BQ
   simp [this]
  ·rfl
theorem jk {x:Str}:∀ {binds:List (Str×Value)} {m:Str->Option Value},(∀ v,(x,v)∉binds)->bindC kindOf binds m x=m x
 | [],_,_=>rfl
 | (n,v)::r,m,h=>by
  unfold bindC
  rw [jk fun w hw=>h w (BV _ hw)]
  split
  ·rfl
  ·have:x≠n:=by rintro rfl;exact h v BQ
   simp [this]
theorem jl {x:Str} {v:Value}:∀ {P:List Str} {vs:List Value} {i:Nat} {m:Str->Option Value},P.Nodup->P[i]?=some x->vs[i]?=some v->kindOf x=some .local->
  bindL kindOf (P.zip vs) m x=some v
 | [],_,_,_,_,h,_,_=>by simp at h
 | _::_,[],_,_,_,_,h,_=>by simp at h
 | p::P,w::vs,0,m,nd,h1,h2,hk=>by
  simp at h1 h2;subst h1;subst h2
  show bindL kindOf ((p,w)::P.zip vs) m p=_
  unfold bindL
  rw [jj fun v hv=>(Dg.mp nd).1 (Dh hv).1,if_pos hk]
  simp
 | p::P,w::vs,i+1,m,nd,h1,h2,hk=>by
  show bindL kindOf ((p,w)::P.zip vs) m x=_
  unfold bindL
  exact jl (i:=i) (Dg.mp nd).2 (by simpa using h1) (by simpa using h2) hk
theorem jm {x:Str} {v:Value}:∀ {P:List Str} {vs:List Value} {i:Nat} {m:Str->Option Value},P.Nodup->P[i]?=some x->vs[i]?=some v->kindOf x≠some .local->
  bindC kindOf (P.zip vs) m x=some v
 | [],_,_,_,_,h,_,_=>by simp at h
 | _::_,[],_,_,_,_,h,_=>by simp at h
 | p::P,w::vs,0,m,nd,h1,h2,hk=>by
  simp at h1 h2;subst h1;subst h2
  show bindC kindOf ((p,w)::P.zip vs) m p=_
  unfold bindC
  rw [jk fun v hv=>(Dg.mp nd).1 (Dh hv).1,if_neg hk]
  simp
 | p::P,w::vs,i+1,m,nd,h1,h2,hk=>by
  show bindC kindOf ((p,w)::P.zip vs) m x=_
  unfold bindC
  exact jm (i:=i) (Dg.mp nd).2 (by simpa using h1) (by simpa using h2) hk
def start (N:List Str) (vs:List V):St:=vs.map some++List.replicate (N.length - vs.length) none
def jH (CX:oV) (P:Program) (w:World) (K:ZF) (mg:Str->Option Value) (base:Heap) (N:List Str) (qual:Str) (scope:Scope) (f:Addr) (cd:Value) (A:Around) (outer:List Env) (s:Shared) (H:Hp) (E:XK):Cx where
 prog:=P
 w:=w
 K:=K
 mg:=mg
 base:=base
 A:=A.deeper (envOfC qual scope s.heap.objs.size f cd)
 N:=N
 s₀:=s
 H₀:=H
 env:=envOfC qual scope s.heap.objs.size f cd
 outer:=outer
 stack:=envOfC qual scope s.heap.objs.size f cd::outer
 ex:=[]
 calm:=true
 fn:=fun _=>true
 pn:=[]
 xe:=fun e s'=>wpAny (model P w) (A.deeper (envOfC qual scope s.heap.objs.size f cd)) (leaving (envOfC qual scope s.heap.objs.size f cd) e) (fun _ s''=>CX outer H s E e s'') (fun e' s''=>CX outer H s E e' s'') s'
theorem kF {x:Str} (h:sc.names.lookup x=some .cell):∃ c,(cellsFrom n sc.names []).lookup x=some c:=by
 have q:=PySem.W.cellsFrom_some sc.names n [] (.inl h)
 exact Option.isSome_iff_exists.mp q
theorem oW {CX:oV} {P:Program} {w:World} {K:ZF} {mg:Str->Option Value} {base:Heap} {N ps:List Str} {qual:Str} {scope:Scope} {f:Addr} {cd:Value} {A:Around} {outer:List Env} {s s1:Shared} {H:Hp} {E:XK} {us:List Value} {vs:List V}
  (S:am N ps scope) (hd:A.handled=none) (e0:Env0 P w K mg base A outer s H) (hl:vs.length=ps.length) (r:Vals vs us)
  (x:InCallC s s.heap.objs.size (bindL (envOfC qual scope s.heap.objs.size f cd).kindOf (ps.zip us) fun _=>none) (cellsFrom (s.heap.objs.size+1) scope.names []) (bindC (envOfC qual scope s.heap.objs.size f cd).kindOf (ps.zip us) fun _=>none) s1) :
  Inv (jH CX P w K mg base N qual scope f cd A outer s H E) [] (start N vs) H s1:=by
 have hpl:ps.length<=N.length:=by have:=congrArg List.length S.pre;rw [BX] at this;lia
 obtain ⟨h1,tk,rfl,hk⟩:=x.done
 have noA:∀ b:Addr,b∉(jH CX P w K mg base N qual scope f cd A outer s H E).ex:=fun b z=>absurd (show b∈([]:List Addr) from z) (by simp)
 refine ⟨⟨e0.mod,S.kind,rfl,rfl,BT _,fun y z c h1 h2=>?_,fun y hy=>?_,fun y c _ h=>?_,fun _=>hd,Around.frames_deeper e0.frames,.inr ⟨rfl,rfl⟩,fun b z=>absurd z (noA b),e0.bs,e0.bsz,fun b _ _=>noA b,fun b z=>absurd z (noA b),e0.funs,e0.frf⟩,
  rfl,e0.bare,Un.kept hk,⟨_,x.toInCall.ns,fun i y v h1 h2 h3=>?_⟩,fun y c h=>⟨_,x.cell y c h⟩,e0.hok.fresh (BT _),fun y c h=>?_,fun p hp=>absurd (show p∈([]:List (Addr×Obj)) from hp) (by simp),e0.hok.kept hk,?_⟩
 ·exact name_of_addr x.apart (Db h1) (Db h2)
 ·have hy:scope.names.lookup y=some .cell\/scope.names.lookup y=some .free:=hy
  rcases hy with hy|hy
  ·exact kF hy
  ·exact absurd rfl (S.nofree _ (Db hy))
 ·exact Nat.le_of_lt (x.above y c (Db h))
 ·have hi:i < vs.length:=by
   unfold start at h2
   by_cases hi:i < vs.length
   ·exact hi
   ·rw [List.getElem?_append_right (by simpa using hi)] at h2
    rw [List.getElem?_replicate] at h2
    split at h2<;>cases h2
  have ha:vs[i]?=some v:=by
   unfold start at h2
   rw [List.getElem?_append_left (by simpa using hi),Co] at h2
   cases e:vs[i]? with
   | none=>rw [e] at h2;cases h2
   | some a=>rw [e] at h2;cases h2;rfl
  obtain ⟨u,hu,rv⟩:=r.get ha
  have hp:ps[i]?=some y:=by
   rw [<-S.pre,List.getElem?_take_of_lt (by lia)];exact h1
  have ndP:ps.Nodup:=by rw [<-S.pre];exact S.nd.sublist (List.take_sublist _ _)
  refine ⟨u,rv,?_⟩
  rcases S.par y (Ca hp) with k|k
  ·exact .inl ⟨k,jl ndP hp hu k⟩
  ·obtain ⟨c,e⟩:=kF (n:=s.heap.objs.size+1) k
   refine .inr ⟨.inl k,c,e,?_⟩
   have q:=x.cell y c e
   rw [jm ndP hp hu (by show scope.names.lookup y≠_;rw [k];decide)] at q
   exact q
 ·exact e0.hok.fresh (Nat.le_of_lt (x.above y c (Db h)))
 ·unfold start
  show _=N.length
  rw [BN,BJ,Dj]
  lia
theorem vH {CX:oV} {P:Program} {w:World} {K:ZF} {mg:Str->Option Value} {base:Heap} {k:Nat} {f:Addr} {name qual:Str} {params:Arguments} {body:List Stmt} {scope:Scope} {dV kV doc pm cdv ct oc:Value} {an od:Option Addr}
  {osl:Array (Option Value)} {N ps:List Str} {sp:Sp} (lk:K.lookup f=some ⟨oc,od,.func (PySem.W.fnOf name qual params body scope dV kV doc pm an cdv ct),osl⟩) (hcd:PySem.W.codeIn K cdv qual=true) (S:am N ps scope)
  (len:∀ vs H Q E,sp vs H Q E->vs.length=ps.length)
  (hbody:∀ (A:Around) (outer:List Env) (s:Shared) (H:Hp) (vs:List V) (Q:VK) (E:XK),Room k (A.deeper (envOfC qual scope s.heap.objs.size f cdv))->sp vs H Q E->
   ∃ t,PSs (jH CX P w K mg base N qual scope f cdv A outer s H E) body t/\t { nx:=fun _ H'=>Q .non H',rt:=Q } (start N vs) H) :
  FnOk P w K mg base CX (k+1) f (PySem.W.fnOf name qual params body scope dV kV doc pm an cdv ct) ps sp:=by
 refine ⟨len,fun A outer s H args us vs Q E hr e0 hb r hsp=>?_⟩
 have hl:=len _ _ _ _ hsp
 have KX:K.In s.heap:=e0.mod.kin.keeps fun b o e=>(e0.bs b o e).1
 have lim:s.heap.NoLimit:=e0.mod.nolimit.keeps fun b o e=>(e0.bs b o e).1
 have hkind:∀ y∈ps.zip us,scope.names.lookup y.1=some .local\/(scope.names.lookup y.1=some .cell/\((cellsFrom (s.heap.objs.size+1) scope.names []).lookup y.1).isSome=true):=fun ⟨n,v⟩ hy=>by
  rcases S.par n (Dh hy).1 with q|q
  ·exact .inl q
  ·exact .inr ⟨q,PySem.W.cellsFrom_some _ _ _ (.inl q)⟩
 refine codeAny_call_function hr.depth (KX _ _ lk) rfl S.co S.gen rfl (PySem.W.codeRec_of KX hcd) (hb _ _ _ _ ?_)
 refine wpAny_newFunctionEnv_cells S.kind hkind fun env he s1 x=>?_
 subst he
 refine ⟨lim.keeps x.toInCall.keep,codeAny_func ?_⟩
 obtain ⟨t,ht,hq⟩:=hbody A outer s H vs Q E (hr.deeper _) hsp
 have I:Inv (jH CX P w K mg base N qual scope f cdv A outer s H E) [] (start N vs) H s1:=oW S hr.hd e0 hl r x
 refine wpAny_mono (ht [] s1 (start N vs) H _ I hq) (fun fl s' hs=>?_) fun e s' hs=>hs
 have fin:∀ {σ':St} {H':Hp} {v:V} {u:Value},Inv (jH CX P w K mg base N qual scope f cdv A outer s H E) [] σ' H' s'->RelV v u->Q v H'->CE outer P w H s Q u s':=
  fun {σ' H' v u} J rv q=>⟨v,H',J.os,J.bare,J.base,J.hok,rv,q⟩
 cases fl with
 | ret u=>
  obtain ⟨v,σ',H',J,rv,q⟩:=hs
  exact fin J rv q
 | next=>
  obtain ⟨σ',H',J,q⟩:=hs
  exact fin (v:=V.non) (u:=Value.none) J rfl q
 | brk=>
  obtain ⟨_,_,_,q⟩:=hs
  exact False.elim q
 | cont=>
  obtain ⟨_,_,_,q⟩:=hs
  exact False.elim q
section
variable {X:Cx} {x:Str} {p pos:Pos} {e:Expr} {es:List Expr} {t:TA} {id T:String} {r:List V->Hp->VK->Prop}
def AT (r:List V->Hp->VK->Prop) (t:TA):TE:=fun σ H Q=>t σ H fun vs H1=>r vs H1 Q
theorem aA (hc:cV X (.builtin id) r) (hg:Gl X x) (hm:X.mg x=none) (hv:bootBuiltins x=some (.builtin id)) (ha:PA X (e::es) t) (hn:x≠"__name__":=by decide) (hdb:(x == ("__debug__":Str))=false:=by decide)
  (he:starEach (e::es) X.env=(false,eval e X.env)::starEach es X.env:=by rfl) (hpl:(backTo pos (starEach es X.env)).any (·.1)=false:=by rfl):PE X (.Call (.Name x p) (e::es) [] pos) (AT r t):=by
 refine ⟨?_⟩
 intro pins s σ H Q I h
 refine wpAny_Call_Name_kw (dS I hg hm hv ?_ hn hdb)
 exact PyProof.Rows.callWith_builtin1 (bF (ha pos pins s σ H _ I h) fun us s1 ⟨vs,H1,I1,r1,q1⟩=>hc pins s1 σ H1 vs us Q I1 r1 q1) he hpl
theorem aW (hc:cV X (.type T) r) (hg:Gl X x) (hm:X.mg x=none) (hv:bootBuiltins x=some (.type T)) (ha:PA X (e::es) t) (hn:x≠"__name__":=by decide) (hdb:(x == ("__debug__":Str))=false:=by decide)
  (he:starEach (e::es) X.env=(false,eval e X.env)::starEach es X.env:=by rfl) (hpl:(backTo pos (starEach es X.env)).any (·.1)=false:=by rfl):PE X (.Call (.Name x p) (e::es) [] pos) (AT r t):=by
 refine ⟨?_⟩
 intro pins s σ H Q I h
 refine wpAny_Call_Name_kw (dS I hg hm hv ?_ hn hdb)
 exact CD (bF (ha pos pins s σ H _ I h) fun us s1 ⟨vs,H1,I1,r1,q1⟩=>hc pins s1 σ H1 vs us Q I1 r1 q1) he hpl
end
end L2
namespace HT
open PySem PyProof.Rows
section
open PySem.SeqAt
open PySem.AutoSeq1 (wpAny_loadPart')
open PySem.MeetsSeq PySem.MeetsSeq2 PySem.MeetsSeq3
end
section
variable {prog:Program} {w:World} {A:Around} {E:Value->Shared->Prop} {s:Shared}
def sIx (n d:Nat):Option Int->Nat
 | none=>d
 | some v=>if v < 0 then (v+(n:Int)).toNat else min v.toNat n
theorem sIx_none (n d:Nat):sIx n d none=d:=rfl
theorem sIx_nat (n d k:Nat):sIx n d (some (k:Int))=min k n:=by
 show (if (k:Int) < 0 then ((k:Int)+(n:Int)).toNat else min (k:Int).toNat n)=min k n
 rw [if_neg (by lia),CV]
theorem sIx_le (n d:Nat) (hd:d<=n) (o:Option Int):sIx n d o<=n:=by
 cases o with
 | none=>exact hd
 | some v=>
  show (if v < 0 then (v+(n:Int)).toNat else min v.toNat n)<=n
  by_cases hv:v < 0
  ·rw [if_pos hv];lia
  ·rw [if_neg hv];exact Nat.min_le_right _ _
theorem clip_eq (v:Int) (n d:Nat):(if v < 0 then max (v+(n:Int)) 0 else min v (n:Int))=((sIx n d (some v):Nat):Int):=by
 show (if v < 0 then max (v+(n:Int)) 0 else min v (n:Int))=(((if v < 0 then (v+(n:Int)).toNat else min v.toNat n):Nat):Int)
 by_cases hv:v < 0
 ·simp only [if_pos hv];lia
 ·simp only [if_neg hv];lia
theorem adjust_gen (lo hi:Option Int) (n:Nat):Builtin.Slice.sliceAdjust lo hi 1 (n:Int)=(((sIx n 0 lo:Nat):Int),((sIx n n hi:Nat):Int)):=by
 have h1:¬ ((1:Int) < 0):=by lia
 unfold Builtin.Slice.sliceAdjust
 simp only [h1,if_false]
 refine Prod.ext ?_ ?_
 ·cases lo with
  | none=>rfl
  | some v=>exact clip_eq v n 0
 ·cases hi with
  | none=>rfl
  | some v=>exact clip_eq v n n
theorem places_gen (i j:Nat):Builtin.Slice.slicePlaces (i:Int) (j:Int) 1=j - i:=by
 unfold Builtin.Slice.slicePlaces
 have h1:(1:Int) > 0:=by lia
 simp only [h1,if_true,Int.ediv_one]
 split<;>lia
theorem slicePart_ {v:Value} {o:Option Int} {Q:Option Int->Shared->Prop} (p:IsPart v o) (h:Q o s):wpAny (model prog w) A (Builtin.Slice.slicePartIndex v) Q E s:=by
 cases p with
 | none=>exact slicePart_none h
 | int i t=>exact slicePart_int h
variable {lo hi:Option Int} {vl vu:Value} {sl:Addr}
theorem sliceApplied_gen {n:Nat} {Q:Int×Int×Nat->Shared->Prop} (hs:s.heap.IsSliceOf sl vl vu .none) (pl:IsPart vl lo) (pu:IsPart vu hi)
  (h:Q (((sIx n 0 lo:Nat):Int),1,sIx n n hi - sIx n 0 lo) s):wpAny (model prog w) A (Builtin.Slice.sliceApplied (.ref sl) (pure (n:Int))) Q E s:=by
 obtain ⟨os,hos,hcs,hds⟩:=id hs
 unfold Builtin.Slice.sliceApplied Builtin.Slice.sliceFields
 refine wpAny_bind (wpAny_bind (wpAny_field hos hds (x:=vl) rfl (wpAny_bind (wpAny_field hos hds (x:=vu) rfl (wpAny_bind (wpAny_field hos hds (x:=.none) rfl (wpAny_pure ?_)))))))
 refine wpAny_bind (slicePart_none ?_)
 show wpAny _ _ (if ((1:Int) == 0)=true then _ else _) _ _ s
 rw [if_neg (by decide)]
 refine wpAny_bind (slicePart_ pl (wpAny_bind (slicePart_ pu (wpAny_bind (wpAny_pure ?_)))))
 show wpAny _ _ (match Builtin.Slice.sliceAdjust lo hi 1 (n:Int) with|(lo,hi)=>pure (lo,(1:Int),Builtin.Slice.slicePlaces lo hi 1)) _ _ s
 rw [adjust_gen lo hi n]
 show wpAny _ _ (pure (((sIx n 0 lo:Nat):Int),(1:Int),Builtin.Slice.slicePlaces ((sIx n 0 lo:Nat):Int) ((sIx n n hi:Nat):Int) 1)) _ _ s
 rw [places_gen]
 exact wpAny_pure h
theorem pick_gen (xs:Array Value) (i k:Nat):((List.range k).filterMap fun (m:Nat)=>xs[((i:Int)+(m:Int)*1).toNat]?).toArray=((xs.toList.drop i).take k).toArray:=by
 have e:(fun (m:Nat)=>xs[((i:Int)+(m:Int)*1).toNat]?)=fun m=>xs[i+m]?:=by
  funext m
  have:((i:Int)+(m:Int)*1).toNat=i+m:=by lia
  rw [this]
 rw [e]
 have:=pick_run xs i k
 rw [List.filterMap_map] at this
 have e2:((fun x=>xs[x]?) ∘ fun x=>i+x)=fun m=>xs[i+m]?:=rfl
 rw [e2] at this
 rw [this]
theorem getItem_tuple_cut {t sl:Addr} {items:Array Value} {Q:Value->Shared->Prop} (ht:IsTup s.heap t items) (hs:s.heap.IsSliceOf sl vl vu .none) (pl:IsPart vl lo) (pu:IsPart vu hi)
  (hw:¬ (sIx items.size 0 lo=0/\sIx items.size items.size hi=items.size))
  (h:Q (.ref s.heap.objs.size) { s with heap:=s.heap.push { cls:=.type "tuple",data:=.seq ((items.toList.drop (sIx items.size 0 lo)).take (sIx items.size items.size hi - sIx items.size 0 lo)).toArray } })
  (hsz:items.size<=sizeLine):wpAny (model prog w) A (getItem (.ref t) (.ref sl)) Q E s:=by
 have htake:sizeOk (.seq ((items.toList.drop (sIx items.size 0 lo)).take (sIx items.size items.size hi - sIx items.size 0 lo)).toArray):=by
  show ((items.toList.drop (sIx items.size 0 lo)).take (sIx items.size items.size hi - sIx items.size 0 lo)).toArray.size<=sizeLine
  rw [B8,BX,CJ,C8]
  lia
 have hj:sIx items.size items.size hi<=items.size:=sIx_le _ _ (BT _) hi
 obtain ⟨os,hos,hcs,hds⟩:=id hs
 have hTs:s.TypeIs (.ref sl) "slice":=⟨os,hos,hcs⟩
 unfold getItem
 try with_reducible refine wpAny_holding ?_
 first|refine wpAny_bind (wpAny_pure ?_)|skip
 refine wpAny_bind (wpAny_sequenceKey ht.typeIs (by decide) ?_)
 refine wpAny_bind (wpAny_callSpecial?_slot (name:=Str.ofString "__getitem__") ht.typeIs PyProof.Rows.slot_tuple_getitem
  (wpAny_call_entry PyProof.Rows.slot_tuple_getitem ht.typeIs entry_tuple_getitem ?_ (args_tuple_getitem _ _)))
 show wpAny _ _ (Builtin.Tuple.tupleItemsOf (.ref t) >>= _) _ _ s
 refine wpAny_bind (tupleItemsOf_ ht ?_)
 refine wpAny_bind (wpAny_typeOf hTs ?_)
 rw [if_pos (by decide)]
 refine wpAny_bind (sliceApplied_gen hs pl pu ?_)
 have hno:¬ ((((sIx items.size 0 lo:Nat):Int) == 0 && (1:Int) == 1 && (sIx items.size items.size hi - sIx items.size 0 lo) == items.size)=true):=by
  intro q
  rw [CO,CO] at q
  have q1:((sIx items.size 0 lo:Nat):Int)=0:=eq_of_beq q.1.1
  have q2:sIx items.size items.size hi - sIx items.size 0 lo=items.size:=eq_of_beq q.2
  exact hw ⟨by lia,by lia⟩
 show wpAny _ _ (if (((sIx items.size 0 lo:Nat):Int) == 0 && (1:Int) == 1 && (sIx items.size items.size hi - sIx items.size 0 lo) == items.size)=true then _ else _) _ _ s
 rw [if_neg hno,pick_gen]
 first
  | exact wpAny_bind (m:=Builtin.Tuple.tupleExact _) (wpAny_newObj_type (wpAny_pure ⟨_,rfl,wpAny_pure h⟩) htake)
  | exact wpAny_bind (m:=Builtin.Tuple.tupleExact _) (wpAny_newObj_type (wpAny_bind (wpAny_pure (wpAny_pure ⟨_,rfl,wpAny_pure h⟩))) htake)
  | exact wpAny_bind (wpAny_bind (m:=Builtin.Tuple.tupleExact _) (wpAny_newObj_type (wpAny_pure (wpAny_pure ⟨_,rfl,wpAny_pure h⟩)) htake))
  | exact wpAny_bind (wpAny_bind (m:=Builtin.Tuple.tupleExact _) (wpAny_newObj_type (wpAny_pure ⟨_,rfl,wpAny_pure h⟩) htake))
end
end HT
namespace L2
open PySem PySem.Spec PyProof.Rows
abbrev TO:=St->Hp->(Option Int->Hp->Prop)->Prop
structure PO (X:Cx) (e:Option Expr) (t:TO):Prop where
 run:∀ (pins:List (Addr×Obj)) (s:Shared) (σ:St) (H:Hp) (Q:Option Int->Hp->Prop),Inv X pins σ H s->t σ H Q->
  wpAny (model X.prog X.w) X.A (evalPart e X.env) (fun u s'=>∃ o H',Inv X pins σ H' s'/\IsPart u o/\Q o H') X.xe s
instance {X:Cx} {e:Option Expr} {t:TO}:CoeFun (PO X e t) fun _=>∀ (pins:List (Addr×Obj)) (s:Shared) (σ:St) (H:Hp) (Q:Option Int->Hp->Prop),Inv X pins σ H s->t σ H Q->
  wpAny (model X.prog X.w) X.A (evalPart e X.env) (fun u s'=>∃ o H',Inv X pins σ H' s'/\IsPart u o/\Q o H') X.xe s:=⟨PO.run⟩
def tW:TO:=fun _ H Q=>Q none H
inductive qd (Q:Option Int->Hp->Prop) (x:V) (H1:Hp):Prop
 | mk (i:_):x=.int i->Q (some i) H1->qd Q x H1
def qe (t:TE):TO:=fun σ H Q=>t σ H fun x H1=>qd Q x H1
section
variable {X:Cx} {e:Expr} {te:TE} {lo hi:Option Expr} {tl th:TO} {pos p2:Pos}
theorem fW:PO X none tW:=by
 refine ⟨?_⟩
 intro pins s σ H Q I h
 rw [evalPart_none]
 exact wpAny_pure ⟨none,H,I,.none,h⟩
theorem cC (h:PE X e te):PO X (some e) (qe te):=by
 refine ⟨?_⟩
 intro pins s σ H Q I hw
 rw [evalPart_some]
 refine bF (h pins s σ H _ I hw) fun u s1 ⟨x,H1,I1,r1,q1⟩=>?_
 obtain ⟨i,rfl,q⟩:=q1
 obtain ⟨t,rfl⟩:=r1
 exact ⟨some i,H1,I1,.int i t,q⟩
def At (X:Cx) (r:V->Option Int->Option Int->Hp->VK->Prop):Prop:=
 ∀ (pins:List (Addr×Obj)) (s:Shared) (σ:St) (H:Hp) (x:V) (v vl vu:Value) (lo hi:Option Int) (sl:Addr) (Q:VK),Inv X pins σ H s->RelV x v->s.heap.IsSliceOf sl vl vu .none->IsPart vl lo->IsPart vu hi->r x lo hi H Q->
  ∃ T id,typeLookup (.type T) "__getitem__"=pure (some (.builtin id))/\s.TypeIs v T/\wpAny (model X.prog X.w) X.A (getItem v (.ref sl)) (EP X pins σ Q) X.xe s
def Bq (r:V->Option Int->Option Int->Hp->VK->Prop) (te:TE) (tl th:TO):TE:=fun σ H Q=>te σ H fun x H1=>tl σ H1 fun l H2=>th σ H2 fun u H3=>r x l u H3 Q
theorem cN {r:V->Option Int->Option Int->Hp->VK->Prop} (hr:At X r) (he:PE X e te) (hl:PO X lo tl) (hu:PO X hi th):PE X (.Subscript e (.Slice lo hi none p2) pos) (Bq r te tl th):=by
 refine ⟨?_⟩
 intro pins s σ H Q I h
 refine Subscript_ (bF (he pins s σ H _ I h) fun v s1 ⟨x,H1,I1,r1,q1⟩=>?_)
 refine wpAny_Slice (bF (hl pins s1 σ H1 _ I1 q1) fun vl s2 ⟨l,H2,I2,pl,q2⟩=>bF (hu pins s2 σ H2 _ I2 q2) fun vu s3 ⟨u,H3,I3,pu,q3⟩=>?_)
 rw [evalPart_none]
 refine wpAny_pure ?_
 have I4:Inv X pins σ H3 { s3 with heap:=s3.heap.push { cls:=.type "slice",data:=.fields #[vl,vu,.none] } }:=I3.kept (t':=s3.toks) fun b ob q=>BM _ q
 obtain ⟨T,id,hT,ht,hg⟩:=hr pins { s3 with heap:=s3.heap.push { cls:=.type "slice",data:=.fields #[vl,vu,.none] } } σ H3 x v vl vu l u s3.heap.objs.size Q I4 r1 (Heap.IsSliceOf.new ..) pl pu q3
 show wpAny (model X.prog X.w) X.A (subscriptTail e (.Slice lo hi none p2) v (.ref s3.heap.objs.size)) (EP X pins σ Q) X.xe { s3 with heap:=s3.heap.push { cls:=.type "slice",data:=.fields #[vl,vu,.none] } }
 exact tail_any (ops:=[.ref s3.heap.objs.size,v]) ht hT hg (by with_unfolding_all rfl)
def fX (xs:List V) (lo hi:Option Int):List V:=(xs.drop (HT.sIx xs.length 0 lo)).take (HT.sIx xs.length xs.length hi - HT.sIx xs.length 0 lo)
theorem gT (xs:List V) (lo hi:Option Int):(fX xs lo hi).length<=xs.length:=by
 unfold fX
 rw [BX,CJ]
 lia
inductive zu (K:ZF) (x:V) (lo:Option Int) (hi:Option Int) (H:Hp) (Q:VK):Prop
 | mk (a xs:_):x=.ref a->SqT K H a xs->¬ (HT.sIx xs.length 0 lo=0/\HT.sIx xs.length xs.length hi=xs.length)->(∀ p,H p=none->Q (.ref p) (aC H p (.tup (fX xs lo hi))))->zu K x lo hi H Q
theorem wI:At X (zu X.K):=by
 intro pins s σ H x v vl vu lo hi sl Q I rx hs pl pu h
 obtain ⟨a,xs,rfl,hx,hw,q⟩:=h
 cases rx
 obtain ⟨its,r,ht,hz⟩:=I.tuple hx
 have hlen:its.toArray.size=xs.length:=by rw [B8];exact r.length.symm
 refine ⟨"tuple",_,PyProof.Rows.slot_tuple_getitem.lookup,ht.typeIs,?_⟩
 refine HT.getItem_tuple_cut ht hs pl pu (by rw [hlen];exact hw) ?_ (by rw [hlen];exact hz)
 rw [hlen]
 refine ⟨.ref s.heap.objs.size,_,I.laid (t':=s.toks) (o:=.tup (fX xs lo hi)) (fun b ob q=>BM _ q) (BT _) ?_,rfl,q _ (I.hok.fresh (BT _))⟩
 exact ⟨Cm (gT xs lo hi) hz,_,(r.drop (HT.sIx xs.length 0 lo)).take (HT.sIx xs.length xs.length hi - HT.sIx xs.length 0 lo),TupP.new _ _⟩
end
def wJ (n:Nat) (i:Int):Option Nat:=if 0<=i then (if i < n then some i.toNat else none) else if -(n:Int)<=i then some (i+n).toNat else none
def kG {α:Type} (xs:List α) (i:Int):Option α:=(wJ xs.length i).bind fun j=>xs[j]?
variable {j:Nat} {i:Int} {n:Nat}
theorem nM (h:wJ n i=some j):seqIndex? i n=some j/\j < n/\-(n:Int)<=i/\i < n:=by
 unfold wJ at h
 by_cases h0:0<=i
 ·rw [if_pos h0] at h
  by_cases h1:i < n
  ·rw [if_pos h1] at h
   have e:i.toNat=j:=Cf h
   exact ⟨by rw [seqIndex_of h0 h1,e],by lia,by lia,h1⟩
  ·rw [if_neg h1] at h;cases h
 ·rw [if_neg h0] at h
  by_cases h1:-(n:Int)<=i
  ·rw [if_pos h1] at h
   have e:(i+n).toNat=j:=Cf h
   exact ⟨by rw [seqIndex_neg (by lia) h1,e],by lia,h1,by lia⟩
  ·rw [if_neg h1] at h;cases h
theorem jI {α:Type} {xs:List α} {v:α} (h:kG xs i=some v):∃ j,seqIndex? i xs.length=some j/\xs[j]?=some v/\j < xs.length/\-(xs.length:Int)<=i/\i < xs.length:=by
 unfold kG at h
 cases e:wJ xs.length i with
 | none=>rw [e] at h;cases h
 | some j=>
  rw [e] at h
  obtain ⟨h1,h2,h3,h4⟩:=nM e
  exact ⟨j,h1,h,h2,h3,h4⟩
theorem aJ {α:Type} {xs:List α} {v:α} (h:xs[j]?=some v):kG xs (j:Int)=some v:=by
 have hj:j < xs.length:=(BL.mp h).1
 have e:wJ xs.length (j:Int)=some j:=by
  unfold wJ
  rw [if_pos (by lia),if_pos (by lia)];simp
 unfold kG;rw [e];exact h
def tX (b:Expr):Prop:=∀ o i,subscripted b false o i=operate [o,i] (getItem o i)
def zw (X:Cx) (r:R2):Prop:=
 ∀ (value slice:Expr) (pins:List (Addr×Obj)) (s:Shared) (σ:St) (H:Hp) (x y:V) (v u:Value) (Q:VK),Inv X pins σ H s->RelV x v->RelV y u->r x y H Q->
  subscripted slice false v u=operate [v,u] (getItem v u)->wpAny (model X.prog X.w) X.A (subscriptTail value slice v u) (EP X pins σ Q) X.xe s
def Au (X:Cx) (id:String) (r:V->List V->Hp->VK->Prop):Prop:=
 ∀ (pins:List (Addr×Obj)) (s:Shared) (σ:St) (H:Hp) (x:V) (xs:List V) (v:Value) (us:List Value) (Q:VK),Inv X pins σ H s->RelV x v->Vals xs us->r x xs H Q->
  wpAny (model X.prog X.w) X.A (call (.builtin id) (v::us)) (EP X pins σ Q) X.xe s
section
variable {X:Cx} {a b:Expr} {ta tb:TE} {pos:Pos}
theorem au {r:R2} (hr:zw X r) (ha:PE X a ta) (hb:PE X b tb) (hs:tX b):PE X (.Subscript a b pos) (As r ta tb):=by
 refine ⟨?_⟩
 intro pins s σ H Q I h
 exact Subscript_ (wE ha hb I h fun v u s2 x y H2 I2 rx ry q=>hr a b pins s2 σ H2 x y v u Q I2 rx ry q (hs _ _))
inductive wK (K:ZF) (x:V) (y:V) (H:Hp) (Q:VK):Prop
 | mk (p xs i v:_):x=.ref p->y=.int i->SqL K H p xs->kG xs i=some v->Q v H->wK K x y H Q
inductive zx (K:ZF) (x:V) (y:V) (H:Hp) (Q:VK):Prop
 | mk (p xs i v:_):x=.ref p->y=.int i->SqT K H p xs->kG xs i=some v->Q v H->zx K x y H Q
inductive zy (x:V) (y:V) (H:Hp) (Q:VK):Prop
 | mk (z i c:_):x=.str z->y=.int i->z.length<=sizeLine->kG z.cps.toList i=some c->Q (.str ⟨#[c]⟩) H->zy x y H Q
theorem aY:zw X (wK X.K):=by
 intro value slice pins s σ H x y v u Q I rx ry h hs
 obtain ⟨p,xs,i,z,rfl,rfl,hq,he,q⟩:=h
 cases rx
 obtain ⟨t,rfl⟩:=ry
 obtain ⟨its,r,pl,hz⟩:=I.list hq
 obtain ⟨j,h1,h2,h3,h4,h5⟩:=jI he
 obtain ⟨w,ew,rw'⟩:=r.get h2
 have hl:=r.length
 have hn:=gz
 have fin:EP X pins σ Q w s:=⟨z,H,I,rw',q⟩
 by_cases h0:0<=i
 ·have hj:i.toNat=j:=by
   rw [seqIndex_of h0 h5] at h1
   exact Cf h1
  exact item_listR pl.isList h0 (by lia) (by rw [hj];simpa using ew) fin hs
 ·have hj:(i+(its.toArray.size:Int)).toNat=j:=by
   rw [seqIndex_neg (by lia) h4] at h1
   rw [B8,<-hl]
   exact Cf h1
  exact subscriptTail_builtinR (x:=w) pl.isList.typeIs slot_list_getitem.lookup
   (wpAny_getItem_list_neg (Q:=fun r s'=>r=w/\EP X pins σ Q r s') pl.isList (by lia) (by rw [B8]<;>lia) (by lia) (by rw [hj];simpa using ew) ⟨rfl,fin⟩) hs
theorem av:zw X (zx X.K):=by
 intro value slice pins s σ H x y v u Q I rx ry h hs
 obtain ⟨p,xs,i,z,rfl,rfl,hq,he,q⟩:=h
 cases rx
 obtain ⟨t,rfl⟩:=ry
 obtain ⟨its,r,pl,hz⟩:=I.tuple hq
 obtain ⟨j,h1,h2,h3,h4,h5⟩:=jI he
 obtain ⟨w,ew,rw'⟩:=r.get h2
 have hl:=r.length
 have hn:=gz
 have fin:EP X pins σ Q w s:=⟨z,H,I,rw',q⟩
 exact subscriptTail_builtinR (x:=w) pl.typeIs slot_tuple_getitem.lookup
  (getItem_tuple (j:=j) (Q:=fun r s'=>r=w/\EP X pins σ Q r s') pl (by lia) (by lia) (by rw [B8,<-hl];exact h1) (by simpa using ew) ⟨rfl,fin⟩) hs
theorem il:zw X zy:=by
 intro value slice pins s σ H x y v u Q I rx ry h hs
 obtain ⟨z,i,c,rfl,rfl,hz,he,q⟩:=h
 obtain ⟨t,rfl⟩:=rx
 obtain ⟨t',rfl⟩:=ry
 obtain ⟨j,h1,h2,h3,h4,h5⟩:=jI he
 have hl:z.cps.toList.length=z.length:=by simp [Str.length]
 rw [hl] at h1 h4 h5
 have hn:=gz
 exact tail_any (typeIs_str s z t) slot_str_getitem.lookup (getItem_str (c:=c) (by
  have e1:decide (i < -(2 ^ 63:Int))=false:=decide_eq_false (by lia)
  have e2:decide (i ≥ 2 ^ 63)=false:=decide_eq_false (by lia)
  rw [e1,e2,Bool.or_false]) (by rw [h1];simpa using h2) ⟨.str ⟨#[c]⟩,H,I.tok _,⟨_,rfl⟩,q⟩) hs
theorem mi (its:List Value) (n j:Nat) (u:Value):Obj.mapSeq (·.setIfInBounds j u) { cls:=.type "list",data:=.seq its.toArray n }={ cls:=.type "list",data:=.seq (its.set j u).toArray n }:=by
 simp [Obj.mapSeq]
variable {xs:List V} {p:Addr} {s:Shared} {H:Hp} {σ:St} {pins:List (Addr×Obj)}
theorem Inv.lst (I:Inv X pins σ H s) (h:H p=some (.lst xs)) :
  ∃ (its:List Value) (n:Nat),Vals xs its/\s.heap.get? p=some { cls:=.type "list",data:=.seq its.toArray n }/\xs.length<=sizeLine:=by
 obtain ⟨z,its,n,r,e⟩:=I.hok p _ h
 exact ⟨its,n,r,e,z⟩
theorem Inv.lstUpd {xs ys:List V} {its its':List Value} {n n':Nat} {f:Obj->Obj} (I:Inv X pins σ H s) (h:H p=some (.lst xs))
  (ho:s.heap.get? p=some { cls:=.type "list",data:=.seq its.toArray n }) (hf:f { cls:=.type "list",data:=.seq its.toArray n }={ cls:=.type "list",data:=.seq its'.toArray n' }) (r:Vals ys its') (hz:ys.length<=sizeLine) (t:Nat) :
  Inv X pins σ (aC H p (.lst ys)) { s with heap:=s.heap.update p f,toks:=t }:=by
 have e:(s.heap.update p f).get? p=some { cls:=.type "list",data:=.seq its'.toArray n' }:=by
  rw [Heap.get?_update_self f ho (by rw [hf]<;>rfl),hf]
 refine I.write (x:=p) (e:=p) (by rw [h];trivial) (.inl rfl) (fun b u hb q=>(Heap.get?_update_other _ _ (Ne.symm hb)).trans q) ⟨_,e⟩ ?_
 exact ⟨hz,its',n',r,e⟩
inductive vI (o:V) (i:V) (v:V) (H:Hp) (Q:Hp->Prop):Prop
 | mk (p xs k j:_):o=.ref p->i=.int k->H p=some (.lst xs)->wJ xs.length k=some j->Q (aC H p (.lst (xs.set j v)))->vI o i v H Q
theorem kH:zg X vI:=by
 intro pins s σ H o i v ov iv u Q I ro ri rv h
 obtain ⟨p,xs,k,j,rfl,rfl,hp,hj,q⟩:=h
 cases ro
 obtain ⟨t,rfl⟩:=ri
 obtain ⟨its,n,r,ho,hz⟩:=I.lst hp
 obtain ⟨h1,h2,h3,h4⟩:=nM hj
 have hl:=r.length
 have hn:=gz
 have I':Inv X pins σ (aC H p (.lst (xs.set j v))) { s with heap:=s.heap.update p (Obj.mapSeq (·.setIfInBounds j u)) }:=
  I.lstUpd hp ho (mi its n j u) (r.set rv j) (by rw [List.length_set];exact hz) s.toks
 by_cases h0:0<=k
 ·have hk:k.toNat=j:=by
   rw [seqIndex_of h0 h4] at h1
   exact Cf h1
  exact PySem.W.ki_setAt ho h0 (by lia) (by rw [B8,<-hl];exact h4) (by rw [hk];exact ⟨_,I',q⟩)
 ·have hk:(k+(its.toArray.size:Int)).toNat=j:=by
   rw [seqIndex_neg (by lia) h3] at h1
   rw [B8,<-hl]
   exact Cf h1
  exact PySem.W.ki_setBack ho (by lia) (by rw [B8,<-hl];exact h3) (by lia) (by rw [hk];exact ⟨_,I',q⟩)
theorem jJ (lo hi:Option Int) (n:Nat):(sliceBounds lo hi none n).1=((HT.sIx n 0 lo:Nat):Int)/\(sliceBounds lo hi none n).2.1=((HT.sIx n n hi:Nat):Int)/\(sliceBounds lo hi none n).2.2=1:=by
 refine ⟨?_,?_,rfl⟩
 ·cases lo with
  | none=>simp [sliceBounds,HT.sIx]
  | some i=>
   simp only [sliceBounds,HT.sIx,Option.getD_none,show (1:Int) > 0 by decide,if_true]
   by_cases h:i < 0
   ·simp only [h,if_true]<;>lia
   ·simp only [h,if_false]<;>lia
 ·cases hi with
  | none=>simp [sliceBounds,HT.sIx]
  | some i=>
   simp only [sliceBounds,HT.sIx,Option.getD_none,show (1:Int) > 0 by decide,if_true]
   by_cases h:i < 0
   ·simp only [h,if_true]<;>lia
   ·simp only [h,if_false]<;>lia
theorem iZ (its:List Value) (lo hi:Option Int):slicePick its.toArray lo hi none=((its.drop (HT.sIx its.length 0 lo)).take (HT.sIx its.length its.length hi - HT.sIx its.length 0 lo)).toArray:=by
 obtain ⟨h1,h2,h3⟩:=jJ lo hi its.toArray.size
 unfold slicePick
 rw [h1,h2,h3]
 simp only [sliceRange_one,pick_run,B8]<;>rfl
inductive zA (K:ZF) (x:V) (lo:Option Int) (hi:Option Int) (H:Hp) (Q:VK):Prop
 | mk (a xs:_):x=.ref a->SqL K H a xs->(∀ p,H p=none->Q (.ref p) (aC H p (.lst (fX xs lo hi))))->zA K x lo hi H Q
theorem hJ:At X (zA X.K):=by
 intro pins s σ H x v vl vu lo hi sl Q I rx hs pl pu h
 obtain ⟨a,xs,rfl,hx,q⟩:=h
 cases rx
 obtain ⟨its,r,ht,hz⟩:=I.list hx
 have hlen:=r.length
 refine ⟨"list",_,slot_list_getitem.lookup,ht.isList.typeIs,?_⟩
 refine wpAny_getItem_list_slice ht.isList hs pl pu .none (by simp) ?_ (by rw [B8]<;>lia)
 rw [iZ,<-hlen]
 refine ⟨.ref s.heap.objs.size,_,I.laid (t':=s.toks) (o:=.lst (fX xs lo hi)) (fun b ob q=>BM _ q) (BT _) ?_,rfl,q _ (I.hok.fresh (BT _))⟩
 exact ⟨Cm (gT xs lo hi) hz,_,0,(r.drop (HT.sIx xs.length 0 lo)).take (HT.sIx xs.length xs.length hi - HT.sIx xs.length 0 lo),B0 _ rfl⟩
def cO:V->Bool
 | .non=>true
 | .bl _=>true
 | .int _=>true
 | .str _=>true
 | _=>false
def mj:V->V->Bool
 | .non,.non=>true
 | .bl a,.bl b=>a == b
 | .bl a,.int b=>(if a then 1 else 0) == b
 | .int a,.bl b=>a == (if b then 1 else 0)
 | .int a,.int b=>a == b
 | .str a,.str b=>a == b
 | _,_=>false
variable {u v:Value} {y x:V} {A:Around}
theorem ml (ry:RelV y u) (rx:RelV x v) (fy:cO y=true) (fx:cO x=true):SeqAt.EqAt A s u v (mj y x):=by
 cases y with
 | non=>
  cases ry
  cases x with
  | non=>cases rx;exact SeqAt.EqAt.same _
  | bl b=>cases rx;exact SeqAt.EqAt.none_bool b
  | int b=>obtain ⟨t,rfl⟩:=rx;exact SeqAt.EqAt.none_int b t
  | str b=>obtain ⟨t,rfl⟩:=rx;exact SeqAt.EqAt.none_str b t
  | _=>exact absurd (show false=true from fx) BY
 | bl a=>
  cases ry
  cases x with
  | non=>cases rx;exact SeqAt.EqAt.bool_none a
  | bl b=>cases rx;exact SeqAt.EqAt.bool_bool a b
  | int b=>obtain ⟨t,rfl⟩:=rx;exact SeqAt.EqAt.bool_int a b t
  | str b=>obtain ⟨t,rfl⟩:=rx;exact SeqAt.EqAt.bool_str a b t
  | _=>exact absurd (show false=true from fx) BY
 | int a=>
  obtain ⟨t',rfl⟩:=ry
  cases x with
  | non=>cases rx;exact SeqAt.EqAt.int_none a t'
  | bl b=>cases rx;exact SeqAt.EqAt.int_bool a t' b
  | int b=>obtain ⟨t,rfl⟩:=rx;exact SeqAt.EqAt.int_int a t' b t
  | str b=>obtain ⟨t,rfl⟩:=rx;exact SeqAt.EqAt.int_str a t' b t
  | _=>exact absurd (show false=true from fx) BY
 | str a=>
  obtain ⟨t',rfl⟩:=ry
  cases x with
  | non=>cases rx;exact SeqAt.EqAt.str_none a t'
  | bl b=>cases rx;exact SeqAt.EqAt.str_bool a t' b
  | int b=>obtain ⟨t,rfl⟩:=rx;exact SeqAt.EqAt.str_int a t' b t
  | str b=>obtain ⟨t,rfl⟩:=rx;exact SeqAt.EqAt.str_str a t' b t
  | _=>exact absurd (show false=true from fx) BY
 | _=>exact absurd (show false=true from fy) BY
def kI (x:V) (u:Value):Bool:=match u with
 | .none=>mj .non x
 | .bool b=>mj (.bl b) x
 | .int i _=>mj (.int i) x
 | .str z _=>mj (.str z) x
 | _=>false
theorem mm (r:RelV y u) (f:cO y=true):kI x u=mj y x:=by
 cases y with
 | non=>cases r;rfl
 | bl b=>cases r;rfl
 | int i=>obtain ⟨t,rfl⟩:=r;rfl
 | str z=>obtain ⟨t,rfl⟩:=r;rfl
 | _=>exact absurd (show false=true from f) BY
theorem fY:∀ {xs:List V} {us:List Value},Vals xs us->xs.all cO=true->us.any (kI x)=xs.any fun y=>mj y x
 | _,_,.nil,_=>rfl
 | y::xs,u::us,.cons r t,f=>by
  rw [List.all_cons,CO] at f
  rw [Di,Di,mm r f.1,fY t f.2]
theorem dv (rx:RelV x v) (fx:cO x=true):∀ {xs:List V} {us:List Value},Vals xs us->xs.all cO=true->∀ u∈us,SeqAt.EqAt A s u v (kI x u)
 | _,_,.nil,_=>fun u hu=>by cases hu
 | y::xs,u::us,.cons r t,f=>fun u' hu=>by
  rw [List.all_cons,CO] at f
  rcases BW.mp hu with rfl|hu
  ·rw [mm r f.1];exact ml r rx f.1 fx
  ·exact dv rx fx t f.2 u' hu
def eQ (x:V) (xs:List V):Bool:=xs.any fun y=>mj y x
inductive Av (K:ZF) (neg:Bool) (x:V) (y:V) (H:Hp) (Q:VK):Prop
 | mk (p xs:_):y=.ref p->(SqL K H p xs\/SqT K H p xs)->cO x=true->xs.all cO=true->Q (.bl (if neg then !eQ x xs else eQ x xs)) H->Av K neg x y H Q
theorem bO:dF X (compareOp .In) (Av X.K false):=by
 intro pins s σ H x y v u Q I rx ry h
 obtain ⟨p,xs,rfl,hq,fx,fs,q⟩:=h
 cases ry
 rcases hq with hq|hq
 ·obtain ⟨its,r,pl,hz⟩:=I.list hq
  refine SeqAt.in_listAt (kI x) pl.isList (fun w hw=>dv rx fx r fs w (by simpa using hw)) ⟨.bl _,H,I,rfl,?_⟩
  rw [show its.toArray.any (kI x)=its.any (kI x) by simp,fY r fs]
  exact q
 ·obtain ⟨its,r,pl,hz⟩:=I.tuple hq
  refine SeqAt.in_tupleAt (kI x) pl (fun w hw=>dv rx fx r fs w (by simpa using hw)) ⟨.bl _,H,I,rfl,?_⟩
  rw [show its.toArray.any (kI x)=its.any (kI x) by simp,fY r fs]
  exact q
theorem cD:dF X (compareOp .NotIn) (Av X.K true):=by
 intro pins s σ H x y v u Q I rx ry h
 obtain ⟨p,xs,rfl,hq,fx,fs,q⟩:=h
 cases ry
 rcases hq with hq|hq
 ·obtain ⟨its,r,pl,hz⟩:=I.list hq
  refine SeqAt.notIn_listAt (kI x) pl.isList (fun w hw=>dv rx fx r fs w (by simpa using hw)) ⟨.bl _,H,I,rfl,?_⟩
  rw [show its.toArray.any (kI x)=its.any (kI x) by simp,fY r fs]
  exact q
 ·obtain ⟨its,r,pl,hz⟩:=I.tuple hq
  refine SeqAt.notIn_tupleAt (kI x) pl (fun w hw=>dv rx fx r fs w (by simpa using hw)) ⟨.bl _,H,I,rfl,?_⟩
  rw [show its.toArray.any (kI x)=its.any (kI x) by simp,fY r fs]
  exact q
theorem aT:cV X (.builtin "len") (fun xs H Q=>∃ p ys,xs=[.ref p]/\(SqL X.K H p ys\/SqT X.K H p ys)/\Q (.int ys.length) H):=by
 intro pins s σ H xs us Q I r h
 obtain ⟨p,ys,rfl,hq,q⟩:=h
 obtain ⟨u,rfl,rx⟩:=fU r
 cases rx
 have hn:=gz
 rcases hq with hq|hq
 ·obtain ⟨its,r',pl,hz⟩:=I.list hq
  have hlen:=r'.length
  exact Calls.call_len_list pl.isList (by simp only [B8]<;>lia) ⟨.int ys.length,H,I.tok _,⟨s.toks+1,by rw [B8,hlen]⟩,q⟩
 ·obtain ⟨its,r',pl,hz⟩:=I.tuple hq
  have hlen:=r'.length
  exact len_tuple pl (by simp only [B8]<;>lia) ⟨.int ys.length,H,I.tok _,⟨s.toks+1,by rw [B8,hlen]⟩,q⟩
theorem bQ:cV X (.builtin "len") (fun xs H Q=>∃ z,xs=[.str z]/\z.length<=sizeLine/\Q (.int z.length) H):=by
 intro pins s σ H xs us Q I r h
 obtain ⟨z,rfl,hz,q⟩:=h
 obtain ⟨u,rfl,t,rfl⟩:=fU r
 have hn:=gz
 exact len_str (by lia) ⟨.int z.length,H,I.tok _,⟨_,rfl⟩,q⟩
theorem bA:cV X (.type "tuple") (fun xs H Q=>∃ p ys,xs=[.ref p]/\((SqL X.K H p ys/\∀ l,H l=none->Q (.ref l) (aC H l (.tup ys)))\/(SqT X.K H p ys/\Q (.ref p) H))):=by
 intro pins s σ H xs us Q I r h
 obtain ⟨p,ys,rfl,h⟩:=h
 obtain ⟨u,rfl,rx⟩:=fU r
 cases rx
 rcases h with ⟨hq,q⟩|⟨hq,q⟩
 ·obtain ⟨its,r',pl,hz⟩:=I.list hq
  have hlen:=r'.length
  refine call_tuple_list pl.isList (fun h' kp=>?_) (by simp only [B8]<;>lia)
  have I1:Inv X pins σ H { s with heap:=h' }:=I.kept (t':=s.toks) kp
  have I2:Inv X pins σ (aC H h'.objs.size (.tup ys)) { s with heap:=h'.push { cls:=.type "tuple",data:=.seq its.toArray } }:=
   I1.laid (t':=s.toks) (fun b o e=>BM _ e) (BT _) (show ObjOk X.prog X.w _ _ _ (.tup ys) from ⟨hz,its,r',TupP.new _ _⟩)
  exact ⟨.ref h'.objs.size,_,I2,rfl,q _ (I1.hok.fresh (BT _))⟩
 ·obtain ⟨its,r',pl,hz⟩:=I.tuple hq
  exact call_tuple_same pl ⟨.ref p,H,I,rfl,q⟩
def Br (K:ZF) (T:String) (x:V) (H:Hp):Prop:=match x with
 | .str _=>T="str"
 | .int _=>T="int"
 | .ref p=>(T="list"/\∃ xs,SqL K H p xs)\/(T="tuple"/\∃ o,K.lookup p=some o/\o.cls=.type "tuple"/\o.dict=none) ∨
   (T="dict"/\((∃ kvs,H p=some (.dK kvs))\/∃ kvs,H p=some (.dT kvs)))\/(T="set"/\∃ S n,H p=some (.set S n))
 | _=>False
theorem wL {T:String} (I:Inv X pins σ H s) (r:RelV x v) (ty:Br X.K T x H) :
  s.TypeIs v T/\∀ a,v=.ref a->∃ ob,s.heap.get? a=some ob/\ob.dict=none:=by
 cases x with
 | str z=>
  obtain ⟨t,rfl⟩:=r
  cases (show T="str" from ty)
  exact ⟨typeIs_str s z t,fun _ e=>nomatch e⟩
 | int i=>
  obtain ⟨t,rfl⟩:=r
  cases (show T="int" from ty)
  exact ⟨typeIs_int s i t,fun _ e=>nomatch e⟩
 | ref p=>
  cases r
  rcases ty with ⟨rfl,xs,hq⟩|⟨rfl,o,hk,hc,hd⟩|⟨rfl,hk⟩|⟨rfl,S,n,hk⟩
  ·obtain ⟨its,_,pl,_⟩:=I.list hq
   refine ⟨pl.isList.typeIs,fun a e=>?_⟩
   cases e
   obtain ⟨o,n,e,c,hd,_⟩:=pl
   exact ⟨o,e,hd⟩
  ·refine ⟨⟨o,I.kIn p o hk,hc⟩,fun a e=>?_⟩
   cases e
   exact ⟨o,I.kIn _ o hk,hd⟩
  ·have z:∃ o,s.heap.get? p=some o/\o.ExactDict:=by
    rcases hk with ⟨kvs,hk⟩|⟨kvs,hk⟩
    ·obtain ⟨_,_,_,_,o,_,_,e,ex,_⟩:=I.hok p _ hk
     exact ⟨o,e,ex⟩
    ·obtain ⟨_,_,_,_,o,_,_,e,ex,_⟩:=I.hok p _ hk
     exact ⟨o,e,ex⟩
   obtain ⟨o,e,ex⟩:=z
   refine ⟨⟨o,e,ex.1⟩,fun a e2=>?_⟩
   cases e2
   exact ⟨o,e,ex.2.1⟩
  ·obtain ⟨o,_,_,_,e,ex,_⟩:=I.hok p _ hk
   refine ⟨⟨o,e,ex.1⟩,fun a e2=>?_⟩
   cases e2
   exact ⟨o,e,ex.2.1⟩
 | _=>exact False.elim ty
def BE (K:ZF) (T:String) (r:V->List V->Hp->VK->Prop) (to:TE) (t:TA):TE:=fun σ H Q=>to σ H fun x H1=>Br K T x H1/\t σ H1 fun xs H2=>r x xs H2 Q
variable {o e:Expr} {es:List Expr} {to:TE} {t:TA} {name:Str} {apos cpos:Pos} {T id:String} {r:V->List V->Hp->VK->Prop}
theorem fj (pa:PlainAttrs T) (slot:Slot T name id) (hty:typeOf (.builtin id)=pure (.type "method_descriptor")) (hm:Au X id r) (ho:PE X o to) (ha:PA X (e::es) t)
  (hbase:attributeBase o name X.env (eval o X.env)=eval o X.env:=by rfl)
  (hfew:((backTo cpos (starEach (e::es) X.env)).all (fun x=>!x.1) && (backToKw cpos (keywordEach [] X.env)).all (fun x=>x.1.isSome)
   && decide ((e::es).length+([]:List Keyword).length+(if ([]:List Keyword).isEmpty then 0 else 1) < 30))=true:=by rfl)
  (hline:(apos.endLine == cpos.line)=true:=by rfl) (hs:starEach (e::es) X.env=(false,eval e X.env)::starEach es X.env:=by rfl) (hplain:(backTo cpos (starEach es X.env)).any (·.1)=false:=by rfl) :
  PE X (.Call (.Attribute o name apos) (e::es) [] cpos) (BE X.K T r to t):=by
 refine ⟨?_⟩
 intro pins s σ H Q I h
 refine wpAny_Call_method_late hbase hfew hline rfl (bF (ho pins s σ H _ I h) fun v s1 ⟨x,H1,I1,r1,ty,q1⟩=>?_)
 obtain ⟨h1,h2⟩:=wL I1 r1 ty
 refine ⟨T,id,pa,slot,hty,h1,h2,?_⟩
 have hA:=ha cpos pins s1 σ H1 _ I1 q1
 rw [hs] at hA ⊢
 refine Calls.callWith_builtin (by show (false || (backTo cpos (starEach es X.env)).any (·.1))=false;rw [hplain]<;>rfl) (Calls.evalArgs_plain ?_)
 exact bF hA fun us s2 ⟨vs,H2,I2,r2,q2⟩=>hm pins s2 σ H2 x vs v us Q I2 r1 r2 q2
end
def BF (X:Cx) (id:String) (r:V->List V->Hp->VK->Prop):Prop:=
 ∀ (pins:List (Addr×Obj)) (s:Shared) (σ:St) (H:Hp) (x:V) (xs:List V) (v:Value) (us:List Value) (Q:VK),Inv X pins σ H s->RelV x v->Vals xs us->r x xs H Q->
  wpAny (model X.prog X.w) X.A (call (.builtin id) (v::us)) (EP X pins σ Q) X.xe s
theorem Vals.one:∀ {x:V} {us:List Value},Vals [x] us->∃ u,us=[u]/\RelV x u
 | _,_,.cons r .nil=>⟨_,rfl,r⟩
theorem Vals.reverse {xs:List V} {us:List Value} (h:Vals xs us):Vals xs.reverse us.reverse:=by
 induction h with
 | nil=>exact .nil
 | cons r t ih=>rw [List.reverse_cons,List.reverse_cons];exact Vals.append ih (.cons r .nil)
section
variable {X:Cx} {pins:List (Addr×Obj)} {σ:St} {H:Hp} {s:Shared} {l b:Addr} {xs ys zs:List V}
theorem Inv.lset {its its':List Value} {n:Nat} {f:Array Value->Array Value} {t':Nat} (I:Inv X pins σ H s) (hH:H l=some (.lst xs))
  (e:s.heap.get? l=some { cls:=.type "list",data:=.seq its.toArray n }) (hf:f its.toArray=its'.toArray) (hv:Vals ys its') (hz:ys.length<=sizeLine) :
  Inv X pins σ (aC H l (.lst ys)) { s with heap:=s.heap.update l (Obj.mapSeq f),toks:=t' }:=by
 have q:=PySem.IsL.update e f
 rw [hf] at q
 refine I.write (x:=l) (e:=l) (by rw [hH];exact trivial) (.inl rfl) (fun b' u hb hu=>(Heap.get?_update_other s.heap (Obj.mapSeq f) (Ne.symm hb)).trans hu) ⟨_,q⟩ ?_
 exact ⟨hz,its',_,hv,q⟩
theorem Inv.lnew {its:List Value} {t':Nat} (I:Inv X pins σ H s) (hv:Vals ys its) (hz:ys.length<=sizeLine) :
  Inv X pins σ (aC H s.heap.objs.size (.lst ys)) { s with heap:=s.heap.push { cls:=.type "list",data:=.seq its.toArray },toks:=t' }:=
 I.laid (fun _ _ q=>BM _ q) (BT _) ⟨hz,its,0,hv,B0 _ rfl⟩
theorem Inv.fresh (I:Inv X pins σ H s):H s.heap.objs.size=none:=I.hok.fresh (BT _)
theorem Inv.lstM (I:Inv X pins σ H s) (hH:H l=some (.lst xs)):xs.length<=sizeLine/\∃ (its:List Value) (n:Nat),Vals xs its/\xs.length=its.length/\s.heap.get? l=some { cls:=.type "list",data:=.seq its.toArray n }:=by
 obtain ⟨z,its,n,r,e⟩:=I.hok l _ hH
 exact ⟨z,its,n,r,r.length,e⟩
end
section
variable {X:Cx}
inductive nN (x:V) (vs:List V) (H:Hp) (Q:VK):Prop
 | mk (l xs y:_):x=.ref l->vs=[y]->H l=some (.lst xs)->xs.length < sizeLine->Q .non (aC H l (.lst (xs++[y])))->nN x vs H Q
theorem cx:BF X "list.append" nN:=by
 intro pins s σ H x vs v us Q I rx rv h
 obtain ⟨l,xs,y,rfl,rfl,hH,hz,q⟩:=h
 cases rx
 obtain ⟨u,rfl,ru⟩:=rv.one
 obtain ⟨z,its,n,r,hl,e⟩:=I.lstM hH
 refine call_meets F.slot_list_append ⟨_,e,rfl⟩ F.entry_list_append (F.args_list_append_2 _ _) (PySem.list_append l its.toArray n u (by rw [B8];lia)) ⟨e,?_⟩
 refine ⟨.non,_,I.lset (its':=its++[u]) hH e (by simp) (r.append (.cons ru .nil)) ?_,rfl,q⟩
 rw [BN,List.length_singleton]
 lia
inductive zB (x:V) (y:V) (H:Hp) (Q:VK):Prop
 | mk (l b xs zs:_):x=.ref l->y=.ref b->H l=some (.lst xs)->H b=some (.lst zs)->xs.length+zs.length<=sizeLine->(∀ p,H p=none->Q (.ref p) (aC H p (.lst (xs++zs))))->zB x y H Q
theorem dI:dF X (binaryOp .Add) zB:=by
 intro pins s σ H x y v u Q I rx ry h
 obtain ⟨l,b,xs,zs,rfl,rfl,hH,hB,hz,q⟩:=h
 cases rx
 cases ry
 obtain ⟨z,its,n,r,hl,e⟩:=I.lstM hH
 obtain ⟨z2,its2,n2,r2,hl2,e2⟩:=I.lstM hB
 refine PySem.P.add_list e e2 ?_ (by rw [B8,B8];lia)
 have ea:its.toArray++its2.toArray=(its++its2).toArray:=by simp
 rw [ea]
 exact ⟨.ref _,_,I.lnew (t':=s.toks) (r.append r2) (by rw [BN];lia),rfl,q _ I.fresh⟩
end
end L2
namespace Att
open PySem PySem.W PySem.Calls PyProof.Rows
variable {h:Heap} {P:Params}
theorem ints_of_wellAll:∀ (ns:List Int) (vs:List Value),WellAll P h vs (ns.map WData.int)->IntsAre vs ns:=by
 intro ns
 induction ns with
 | nil=>
  intro vs w
  rw [List.map_nil] at w
  cases w
  exact .nil
 | cons n ns ih=>
  intro vs w
  rw [B6] at w
  cases w with
  | cons a b=>
   cases a
   exact .cons _ _ (ih _ b)
variable {n:Nat} {l:OpenLaw}
theorem script_of (hn:l.most=some n) {P:Params} {h:Heap} {args:List WData} {vals:List Value}
  (hpre:l.row.toRowW.claim.pre args=true) (hwl:WellAll P h vals args) :
  ∃ a vs ns,vals=[Value.ref a]/\args=[WData.list (ns.map WData.int)]/\h.get? a=some { cls:=.type "list",data:=.seq vs.toArray }/\IntsAre vs ns/\ns.length<=n:=by
 have hsh:WShape.hasAll [] args [.list .int]=true:=(pre_splitW hpre).1
 have hc:l.pre.holds [] { args:=args }=true:=(pre_splitW hpre).2
 obtain ⟨d,r,rfl,h1,h2⟩:=hasAllW_cons hsh
 obtain rfl:=hasAllW_nil h2
 obtain ⟨xs,rfl,h3⟩:=hasW_list h1
 obtain ⟨ns,rfl⟩:=items_int h3
 have hlen:ns.length<=n:=by
  unfold OpenLaw.pre at hc
  have h4:(WTm.not (.lt (.lit (.int (n:Int))) (.len (.arg 0)))).holds [] { args:=[.list (ns.map .int)] }=true:=by
   have h4:=(holds_andW hc).1
   rw [hn] at h4
   exact h4
  have h5:=condW_of h4 (w_not (w_lt w_lit (w_len_list (w_arg rfl))))
  rw [BJ] at h5
  refine Nat.le_of_not_lt fun q=>?_
  have q':(n:Int) < ((ns.length:Nat):Int):=by lia
  first
   | (rw [decide_eq_true q'] at h5;exact absurd h5 (by decide))
   | (simp at h5;lia)
 cases hwl with
 | cons w1 w2=>
  cases w2
  cases w1 with
  | list ho hall=>exact ⟨_,_,ns,rfl,rfl,ho,ints_of_wellAll ns _ hall,hlen⟩
theorem post_true (l:OpenLaw) (args:List WData):l.row.toRowW.claim.post args (.bool true) args=true:=
 postW_of (r:=l.row.toRowW) (X:=(true == true))
  (show WShape.has [] (.bool true) .bool=true by first|rfl|decide|simp [WShape.has,WShape.arms,WShape.armsAll])
  (show (WTm.eq .res (.lit (.bool true))).value [] { args:=args,res:=some (.bool true),after:=args }=some (.bool (true == true)) from w_eq_bool (w_res rfl) w_lit) rfl
theorem attach_call {l:OpenLaw} {n:Nat} {q:Program} {loose:List Str} {XP:(Str->Option Value)->Heap->Prop} {YP:World->Heap->Prop} {d:DefRec}
  (hn:l.most=some n) (hdf:d.params.defaults=[])
  (call:∀ (w:World) (s₀ s₁:Shared) (mg mb:Str->Option Value) (fa:Addr) (o:Obj) (pm cd doc:Value) (a:Addr) (vs:List Value) (ns:List Int),
   Ground q loose [] XP w s₀ mg mb s₁.heap->YP w s₁.heap->
   s₁.heap.get? fa=some o->o.data=.func (docDef d.name d.params d.body d.scope pm cd doc)->s₁.heap.CodeRec cd d.name->mg d.name=some (.ref fa)->
   s₁.heap.get? a=some { cls:=.type "list",data:=.seq vs.toArray }->IntsAre vs ns->ns.length<=n->s₁.gens=#[]->
   codeAny (model l.prog w) callerA (.call (.ref fa) ⟨[.ref a],[]⟩) (fun r s'=>r=.ok (.ret (.bool true))/\OldK s₁.heap s'.heap/\s'.os=s₁.os/\AllBare s'.gens) s₁) :
  WalkO q loose XP YP l.row.toRowW d [] (fun f vs=>PySem.call f vs):=by
 intro w s₀ s₁ mg mb G Y fa o pm cd doc dV kV ho hd hcd hD hmg hg args vals as hpre hlay hrd hwl hlo
 obtain rfl:dV=.none:=Dflts.none hD hdf
 obtain rfl:kV=.none:=Dflts.noKw hD
 obtain ⟨a,vs,ns,rfl,rfl,hobj,hints,hlen⟩:=script_of hn hpre hwl
 refine enter_call (codeAny_mono (call w s₀ s₁ mg mb fa o pm cd doc a vs ns G Y ho (fd_plain hd) hcd hmg hobj hints hlen hg) fun r s' hq=>?_)
 obtain ⟨rfl,h2,h3,h4⟩:=hq
 exact ⟨.inl ⟨.bool true,.bool true,[],rfl,fun _=>rfl,.bool true,post_true l _,fun _=>⟨List.Pairwise.nil,fun _ hm=>(nomatch hm)⟩⟩,h2,h3,h4⟩
section
variable {prog:Program} {w:World} {A:Around} {E:Value->Shared->Prop} {s:Shared} {K:Frag}
end
end Att
namespace L2
open PySem PySem.Spec PyProof.Rows
theorem jo:∀ {vs:List Value} {ns:List Int},IntsAre vs ns->Vals (ns.map V.int) vs
 | _,_,.nil=>.nil
 | _,_,.cons n t h=>.cons ⟨t,rfl⟩ (jo h)
def tZ (H:Hp):Prop:=∀ b,H b=none\/∃ o xs,H b=some (.frz o (.lst xs))
theorem qh {P:Program} {w:World} {K:ZF} {mg mb:Str->Option Value} {CX:oV} {k:Nat} {fa a:Addr} {fd:FuncData} {x:Str} {sp:Sp} {s₁:Shared} {vs:List Value} {ns:List Int}
  (KX:K.In s₁.heap) (hns:s₁.heap.Ns mainGlobals mg) (hb:s₁.heap.Ns builtinsNs mb) (hbb:∀ x:Str,x≠"__name__"->mb x=bootBuiltins x) (hlim:s₁.heap.NoLimit) (hg:s₁.gens=#[])
  (ha:s₁.heap.get? a=some { cls:=.type "list",data:=.seq vs.toArray }) (hi:IntsAre vs ns) (hl:ns.length<=sizeLine) (hr:Room k callerA)
  (F:∀ base:Heap,K.In base->base.Ns mainGlobals mg->FnOk P w K mg base CX k fa fd [x] sp) (hbind:∀ (s:Shared) (u:Value),BindsTo s fd ⟨[u],[]⟩ [(x,u)])
  (hsp:∀ H:Hp,tZ H->SqL K H a (ns.map V.int)->sp [.ref a] H (fun v _=>v=.bl true) fun _ _ _=>False)
  (hCX:∀ H e s',CX [] H s₁ (fun _ _ _=>False) e s'->False) :
  codeAny (model P w) callerA (.call (.ref fa) ⟨[.ref a],[]⟩) (fun r s'=>r=.ok (.ret (.bool true))/\OldK s₁.heap s'.heap/\s'.os=s₁.os/\AllBare s'.gens) s₁:=by
 have rv:=jo hi
 have lenV:=hi.length
 have core:∀ H:Hp,tZ H->SqL K H a (ns.map V.int)->HOk P w H s₁.heap->(∀ b,H b≠none->b=a)->(H a≠none->K.lookup a=none)->
   codeAny (model P w) callerA (.call (.ref fa) ⟨[.ref a],[]⟩) (fun r s'=>r=.ok (.ret (.bool true))/\OldK s₁.heap s'.heap/\s'.os=s₁.os/\AllBare s'.gens) s₁:=by
  intro H hO hS hok hA hK
  have base_of:∀ {b:Addr} {o:Obj},s₁.heap.get? b=some o->H b=none->(jC s₁.heap H).get? b=some o:=fun e n=>pL e n
  have noA:∀ {b:Addr} {o:Obj} {es:Array DictEntry} {ep:Nat},s₁.heap.get? b=some o->o.data=.dict es ep->H b=none:=fun {b o es ep} e d=>by
   cases q:H b with
   | none=>rfl
   | some u=>
    have e':b=a:=hA b (by rw [q];simp)
    subst e'
    rw [ha] at e;cases e
    have d':Data.seq vs.toArray _=Data.dict es ep:=d
    cases d'
  have nsK:∀ {b:Addr} {m:Str->Option Value},s₁.heap.Ns b m->(jC s₁.heap H).Ns b m:=fun {b m} ⟨o,es,ep,e,d,r⟩=>⟨o,es,ep,base_of e (noA e d),d,r⟩
  have hKb:K.In (jC s₁.heap H):=fun b o e=>base_of (KX b o e) (by
   cases q:H b with
   | none=>rfl
   | some u=>
    have e':b=a:=hA b (by rw [q];simp)
    subst e'
    rw [hK (by rw [q];simp)] at e;cases e)
  have hM:Mod K mg (jC s₁.heap H):=⟨hKb,nsK hns,⟨mb,nsK hb,hbb⟩,let ⟨mc,h1,h2⟩:=hlim;⟨mc,nsK h1,h2⟩⟩
  have e0:Env0 P w K mg (jC s₁.heap H) callerA [] s₁ H:=⟨rfl,hM,fun b o e=>tH e,Nat.le_of_eq (oO _ _),trivial,fun b hb=>absurd (show b∈([]:List Addr) from hb) (by simp),hok,.of_eq hg⟩
  refine codeAny_mono ((F _ hKb (nsK hns)).run callerA [] s₁ H ⟨[.ref a],[]⟩ [.ref a] [.ref a] _ _ hr e0 (hbind s₁ (.ref a)) (.cons rfl .nil) (hsp H hO hS)) fun r s' h=>?_
  cases r with
  | error e=>exact (hCX H e s' h).elim
  | ok fl=>
   cases fl with
   | next=>exact False.elim h
   | brk=>exact False.elim h
   | cont=>exact False.elim h
   | ret u=>
    obtain ⟨v,H',os,bare,un,hok',r',q⟩:=h
    have q':v=.bl true:=q
    subst q'
    obtain rfl:u=Value.bool true:=r'
    refine ⟨rfl,OldK.of_keep fun b o e=>?_,os,bare⟩
    cases q:H b with
    | none=>exact un.keep b o e q (by intro z;exact absurd (show b∈([]:List Addr) from z) (by simp)) (by simp)
    | some u=>
     rcases hO b with z|⟨ob,xs,z⟩
     ·rw [q] at z;cases z
     ·have z2:=un.frzs b ob _ z
      obtain ⟨e1,_⟩:=hok b _ z
      obtain ⟨e2,_⟩:=hok' b _ z2
      rw [e] at e1;cases e1
      exact e2
 cases hk:K.lookup a with
 | some o=>
  have e:=KX a o hk
  rw [ha] at e
  cases e
  refine core (fun _=>none) (fun _=>.inl rfl) (.inr ⟨_,vs.toArray,_,hk,rfl,rfl,rfl,by rw [B8,lenV];exact hl,by simpa using rv⟩) (fun b u z=>by have z':(none:Option HO)=some u:=z;cases z') (fun b z=>absurd rfl z) fun z=>absurd rfl z
 | none=>
  refine core (fun b=>if b=a then some (.frz { cls:=.type "list",data:=.seq vs.toArray } (.lst (ns.map V.int))) else none) (fun b=>?_) (.inl (.inr ⟨{ cls:=.type "list",data:=.seq vs.toArray },if_pos rfl⟩)) (fun b u z=>?_) (fun b z=>?_) fun _=>hk
  ·by_cases hb:b=a
   ·exact .inr ⟨_,_,if_pos hb⟩
   ·exact .inl (if_neg hb)
  ·by_cases hb:b=a
   ·have z':=(if_pos hb).symm.trans z
    cases z'
    subst hb
    exact ⟨ha,by rw [BJ];exact hl,vs,_,rv,ha⟩
   ·have z':=(if_neg hb).symm.trans z
    cases z'
  ·by_cases hb:b=a
   ·exact hb
   ·exact absurd (if_neg hb) z
theorem ua {l:PySem.W.OpenLaw} {n k:Nat} {q:Program} {loose:List Str} {XP:(Str->Option Value)->Heap->Prop} {YP:World->Heap->Prop} {d:DefRec} {K:Params->ZF} {CX:World->oV} {sp:World->Sp} {x:Str}
  (hn:l.most=some n) (hn2:n<=sizeLine) (hdf:d.params.defaults=[]) (hr:Room k callerA)
  (hY:∀ (w:World) (h:Heap),YP w h->(K w.params).In h)
  (F:∀ (w:World) (mg:Str->Option Value) (fa:Addr) (h:Heap),(K w.params).In h->h.Ns mainGlobals mg->mg d.name=some (.ref fa)->
   ∃ fd:FuncData,(∀ (s:Shared) (u:Value),BindsTo s fd ⟨[u],[]⟩ [(x,u)]) /\
    ∀ base:Heap,(K w.params).In base->base.Ns mainGlobals mg->FnOk l.prog w (K w.params) mg base (CX w) k fa fd [x] (sp w))
  (hsp:∀ (w:World) (H:Hp) (a:Addr) (ns:List Int),ns.length<=n->tZ H->SqL (K w.params) H a (ns.map V.int)->sp w [.ref a] H (fun v _=>v=.bl true) fun _ _ _=>False)
  (hCX:∀ (w:World) (H:Hp) (s:Shared) (e:Value) (s':Shared),CX w [] H s (fun _ _ _=>False) e s'->False) :
  PySem.W.WalkO q loose XP YP l.row.toRowW d [] (fun f vs=>PySem.call f vs):=by
 refine Att.attach_call hn hdf fun w s₀ s₁ mg mb fa o pm cd doc a vs ns G Y ho hd hcd hmg hobj hints hlen hg=>?_
 have KX:=hY w _ Y
 obtain ⟨fd,hb,hF⟩:=F w mg fa _ KX G.T.g hmg
 exact qh KX G.T.g G.T.b G.T.builtins G.T.nolimit hg hobj hints (Cm hlen hn2) hr hF hb (fun H hO hS=>hsp w H a ns hlen hO hS) fun H e s'=>hCX w H s₁ e s'
theorem qi {l:PySem.W.OpenLaw} {n k:Nat} {q:Program} {loose:List Str} {XP:(Str->Option Value)->Heap->Prop} {YP:World->Heap->Prop} {d:DefRec} {K:Params->ZF} {CX:oV} {sp:ZF->Sp} {x:Str}
  (hn:l.most=some n) (hn2:n<=sizeLine) (hdf:d.params.defaults=[]) (hr:Room k callerA)
  (hY:∀ (w:World) (h:Heap),YP w h->(K w.params).In h)
  (F:∀ (w:World) (mg:Str->Option Value) (fa:Addr) (h:Heap),(K w.params).In h->h.Ns mainGlobals mg->mg d.name=some (.ref fa)->
   ∃ fd:FuncData,(∀ (s:Shared) (u:Value),BindsTo s fd ⟨[u],[]⟩ [(x,u)]) /\
    ∀ base:Heap,(K w.params).In base->base.Ns mainGlobals mg->FnOk l.prog w (K w.params) mg base CX k fa fd [x] (sp (K w.params)))
  (hsp:∀ (K:ZF) (H:Hp) (a:Addr) (ns:List Int),ns.length<=n->tZ H->SqL K H a (ns.map V.int)->sp K [.ref a] H (fun v _=>v=.bl true) fun _ _ _=>False)
  (hCX:∀ (H:Hp) (s:Shared) (e:Value) (s':Shared),CX [] H s (fun _ _ _=>False) e s'->False) :
  PySem.W.WalkO q loose XP YP l.row.toRowW d [] (fun f vs=>PySem.call f vs):=
 ua (K:=K) (CX:=fun _=>CX) (sp:=fun w=>sp (K w.params)) hn hn2 hdf hr hY F (fun w H a ns h1 h2 h3=>hsp (K w.params) H a ns h1 h2 h3) fun _ H s e s'=>hCX H s e s'
end L2
namespace L2
open PySem PySem.Spec PyProof.Rows
def aN (s:Stmt) (j:Nat):Stmt:=match s with
 | .ClassDef _ _ _ body _ _ _ _ _ _ _=>body.getD j (.Pass ⟨0,0,0,0⟩)
 | _=>.Pass ⟨0,0,0,0⟩
def cu (s:Stmt):Arguments:=match s with
 | .FunctionDef _ a _ _ _ _ _ _ _ _=>a
 | _=>{ posonlyargs:=[],args:=[],vararg:=none,kwonlyargs:=[],kw_defaults:=[],kwarg:=none,defaults:=[] }
def cj (s:Stmt):List Stmt:=match s with
 | .FunctionDef _ _ b _ _ _ _ _ _ _=>b
 | _=>[]
def aj (s:Stmt):Scope:=match s with
 | .FunctionDef _ _ _ _ _ _ sc _ _ _=>sc
 | _=>{ kind:=.function,names:=[],isGenerator:=false,isCoroutine:=false }
abbrev bu:oV:=fun _ _ _ _ _ _=>False
abbrev E0:XK:=fun _ _ _=>False
variable {X:Cx}
theorem cP:dH bu X E0:=fun _ _ _ _ _ _ _ h=>h.elim
structure Fun (K:ZF) (x qual:Str) (st:Stmt) (f:Addr) (fd:FuncData):Prop where
 ex:∃ (oc:Value) (od:Option Addr) (kV doc pm:Value) (an:Option Addr) (cdv ct:Value) (osl:Array (Option Value)),
  fd=PySem.W.fnOf x qual (cu st) (cj st) (aj st) .none kV doc pm an cdv ct/\K.lookup f=some ⟨oc,od,.func fd,osl⟩/\PySem.W.codeIn K cdv qual=true
 kp:PySem.W.keepIn K (.ref f)=true
section
variable {P:Program} {w:World} {K:ZF} {mg:Str->Option Value} {base:Heap}
variable {fd:FuncData} {f:Addr} {st:Stmt} {x qual:Str}
theorem Fun.ok {N ps:List Str} {k:Nat} {sp:Sp} (F:Fun K x qual st f fd) (S:am N ps (aj st)) (len:∀ vs H Q E,sp vs H Q E->vs.length=ps.length)
  (hbody:∀ (cdv:Value) (A:Around) (outer:List Env) (s:Shared) (H:Hp) (vs:List V) (Q:VK) (E:XK),Room k (A.deeper (envOfC qual (aj st) s.heap.objs.size f cdv))->sp vs H Q E->
   ∃ t,PSs (jH bu P w K mg base N qual (aj st) f cdv A outer s H E).nox (cj st) t/\t { nx:=fun _ H'=>Q .non H',rt:=Q } (start N vs) H):FnOk P w K mg base bu (k+1) f fd ps sp:=by
 obtain ⟨oc,od,kV,doc,pm,an,cdv,ct,osl,rfl,lk,hcd⟩:=F.ex
 refine vH lk hcd S len fun A outer s H vs Q E hr hsp=>?_
 obtain ⟨t,h,q⟩:=hbody cdv A outer s H vs Q E hr hsp
 exact ⟨t,h.nox,q⟩
theorem Fun.binds {ps:List Str} (F:Fun K x qual st f fd)
  (h:∀ (kV doc pm:Value) (an:Option Addr) (cdv ct:Value) (us:List Value),us.length=ps.length->bindArgs (PySem.W.fnOf x qual (cu st) (cj st) (aj st) .none kV doc pm an cdv ct) ⟨us,[]⟩=pure (ps.zip us)):Binds K fd ps []:=by
 obtain ⟨oc,od,kV,doc,pm,an,cdv,ct,osl,rfl,lk,hcd⟩:=F.ex
 exact .all (h kV doc pm an cdv ct)
theorem qj {oc:Value} {od an:Option Addr} {osl:Array (Option Value)} {kV doc pm cdv ct:Value} (l:K.lookup f=some ⟨oc,od,.func (PySem.W.fnOf x qual (cu st) (cj st) (aj st) .none kV doc pm an cdv ct),osl⟩)
  (c:PySem.W.codeIn K cdv qual=true) (k:PySem.W.keepIn K (.ref f)=true):Fun K x qual st f (PySem.W.fnOf x qual (cu st) (cj st) (aj st) .none kV doc pm an cdv ct):=⟨⟨oc,od,kV,doc,pm,an,cdv,ct,osl,rfl,l,c⟩,k⟩
end
theorem nO {A:Around} {k:Nat} (hr:Room k A):A.units+1 < cLine:=Nat.lt_of_le_of_lt (Nat.add_le_add_left (by decide:1<=64) _) hr.units
section
variable {X:Cx}
theorem pv (i:Nat) {x:Str} {pos:Pos} (hN:X.N[i]?=some x:=by rfl) (hv:y8 X.env.scope x:=by first|exact Or.inl rfl|exact Or.inr (Or.inl rfl)|exact Or.inr (Or.inr rfl)) (hd:(x == ("__debug__":Str))=false:=by decide)
  (hcd:(x == ("__classdict__":Str))=false:=by decide):PE X (.Name x pos) (iW i):=wx hN hv hd hcd
end
variable {A B:Prop}
theorem bz (h:B):if false=true then A else B:=by
 rw [if_neg BY]
 exact h
theorem cQ (h:A):if true=true then A else B:=by
 rw [if_pos rfl]
 exact h
theorem bN {c A B:Prop} [Decidable c] (h1:c->A) (h2:¬ c->B):if c then A else B:=by
 by_cases h:c
 ·rw [if_pos h]
  exact h1 h
 ·rw [if_neg h]
  exact h2 h
def Same (H H':Hp):Prop:=∀ b o,H b=some o->H' b=some o
theorem Same.refl (H:Hp):Same H H:=fun _ _ h=>h
variable {H H1 H2:Hp}
theorem Same.trans (a:Same H H1) (b:Same H1 H2):Same H H2:=fun c o h=>b c o (a c o h)
theorem Same.free {H H':Hp} (e:Same H H') {l:Addr} (h:H' l=Option.none):H l=Option.none:=by
 cases q:H l with
 | none=>rfl
 | some o=>
  rw [e l o q] at h
  cases h
theorem Same.seq {K:ZF} {H H':Hp} {a:Addr} {xs:List V} (e:Same H H') (h:SqL K H a xs):SqL K H' a xs:=by
 rcases h with (h|⟨o,h⟩)|h
 ·exact .inl (.inl (e _ _ h))
 ·exact .inl (.inr ⟨o,e _ _ h⟩)
 ·exact .inr h
theorem fz (env:Env):∀ (names:List (Str×NameKind)) (cs:List (Str×Addr)),(∀ x∈names,x.2=.free->∃ c,env.cells.lookup x.1=some c)->(∀ x c,cs.lookup x=some c->env.cells.lookup x=some c)->
  ∃ cl,(forIn names cs fun (p:Str×NameKind) (r:List (Str×Addr))=>(if (p.2 == NameKind.free)=true then do let c <-cellOf env p.1;pure (ForInStep.yield ((p.1,c)::r)) else pure (ForInStep.yield r):Sem (ForInStep (List (Str×Addr)))))=(pure cl:Sem (List (Str×Addr))) /\
   (∀ x c,cl.lookup x=some c->env.cells.lookup x=some c)/\(∀ x,(∃ c,cs.lookup x=some c)->∃ c,cl.lookup x=some c)/\∀ x∈names,x.2=.free->∃ c,cl.lookup x.1=some c
 | [],cs,_,h=>⟨cs,rfl,h,fun _ z=>z,fun _ z=>nomatch z⟩
 | (n,k)::r,cs,hn,h=>by
  by_cases e:k=.free
  ·subst e
   obtain ⟨c,hc⟩:=hn (n,.free) BQ rfl
   have h':∀ x c',((n,c)::cs).lookup x=some c'->env.cells.lookup x=some c':=fun x c' q=>by
    rw [CP] at q
    cases ex:x == n with
    | true=>
     rw [ex] at q
     have:x=n:=by simpa using ex
     subst this
     cases q
     exact hc
    | false=>rw [ex] at q;exact h x c' q
   obtain ⟨cl,e1,e2,e3,e4⟩:=fz env r ((n,c)::cs) (fun x hx=>hn x (BV _ hx)) h'
   refine ⟨cl,?_,e2,fun x ⟨c',q⟩=>e3 x ?_,fun x hx hf=>?_⟩
   ·rw [List.forIn_cons]
    rw [if_pos (show (((n,NameKind.free):Str×NameKind).2 == NameKind.free)=true from by rfl)]
    unfold cellOf
    rw [hc]
    exact e1
   ·rw [CP]
    cases ex:x == n with
    | true=>exact ⟨c,rfl⟩
    | false=>exact ⟨c',q⟩
   ·rcases BW.mp hx with z|z
    ·subst z
     exact e3 n ⟨c,by rw [CP];simp⟩
    ·exact e4 x z hf
  ·obtain ⟨cl,e1,e2,e3,e4⟩:=fz env r cs (fun x hx=>hn x (BV _ hx)) h
   refine ⟨cl,?_,e2,e3,fun x hx hf=>?_⟩
   ·rw [List.forIn_cons]
    rw [if_neg (show ¬ (((n,k):Str×NameKind).2 == NameKind.free)=true by simpa using e)]
    exact e1
   ·rcases BW.mp hx with z|z
    ·subst z
     exact absurd hf e
    ·exact e4 x z hf
variable {sc:Scope} {env:Env}
theorem mo (hn:∀ x∈sc.names,x.2=.free->∃ c,env.cells.lookup x.1=some c) :
  ∃ cl,closureFor sc env=pure cl/\(∀ x c,cl.lookup x=some c->env.cells.lookup x=some c)/\∀ x∈sc.names,x.2=.free->∃ c,cl.lookup x.1=some c:=by
 obtain ⟨cl,e1,e2,_,e4⟩:=fz env sc.names [] hn (fun x c z=>by cases z)
 refine ⟨cl,?_,e2,e4⟩
 unfold closureFor
 exact (congrArg (fun (m:Sem (List (Str×Addr)))=>m >>= fun r=>pure r) e1)
theorem dh {κ:Type}:∀ {l:List (Str×κ)} {x:Str} {k:κ},l.lookup x=some k->(x,k)∈l
 | [],_,_,h=>by cases h
 | (n,k')::r,x,k,h=>by
  rw [CP] at h
  cases e:x == n with
  | true=>
   rw [e] at h
   have:x=n:=by simpa using e
   subst this
   cases h
   exact BQ
  | false=>
   rw [e] at h
   exact BV _ (dh h)
def jK (env:Env) (x:Str) (k:NameKind):NameKind:=if (k == NameKind.free && env.scope.kind == .function && env.kindOf x == some .cell)=true then .cell else k
theorem im {env:Env}:∀ {names:List (Str×NameKind)} {x:Str},
  (names.map fun (p:Str×NameKind)=>match p with|(n,k)=>if (k == NameKind.free && env.scope.kind == .function && env.kindOf n == some .cell)=true then (n,NameKind.cell) else (n,k)).lookup x=(names.lookup x).map (jK env x)
 | [],x=>rfl
 | (n,k)::r,x=>by
  rw [B6]
  by_cases e:x=n
  ·subst e
   dsimp only
   by_cases c:(k == NameKind.free && env.scope.kind == .function && env.kindOf x == some .cell)=true
   ·rw [if_pos c]
    have z:jK env x k=.cell:=if_pos c
    simp [CP,z]
   ·rw [if_neg c]
    have z:jK env x k=k:=if_neg c
    simp [CP,z]
  ·have e':(x == n)=false:=by simpa using e
   dsimp only
   rw [CP (a:=x) (b:=k),e']
   show _=(r.lookup x).map (jK env x)
   rw [<-im]
   by_cases c:(k == NameKind.free && env.scope.kind == .function && env.kindOf n == some .cell)=true
   ·rw [if_pos c,CP,e']
   ·rw [if_neg c,CP,e']
variable {C:Addr}
theorem io {cl:List (Str×Addr)} {x:Str}:(compEnvC sc cl C env).kindOf x=(sc.names.lookup x).map (jK env x):=im
def oX (N:List Str) (sc0 sc:Scope) (N':List Str) (ix:List (Option Nat)):Bool:=
 sc.kind == .function && ix.length == N'.length &&
 sc.names.all (fun p=>p.2 != .cell && (p.2 != .free || (sc0.names.lookup p.1 == some .cell || sc0.names.lookup p.1 == some .free)) && (p.2 != .local || sc.names.lookup p.1 == some .local)) &&
 (List.range N'.length).all fun j=>match ix[j]?,N'[j]? with
  | some (some i),some x=>N[i]? == some x && sc.names.lookup x == some .free
  | _,_=>true
theorem jp {N:List Str} {sc0 sc:Scope} {N':List Str} {ix:List (Option Nat)} (h:oX N sc0 sc N' ix=true) :
  sc.kind=.function/\ix.length=N'.length/\(∀ p∈sc.names,p.2≠.cell)/\(∀ p∈sc.names,p.2=.free->sc0.names.lookup p.1=some .cell\/sc0.names.lookup p.1=some .free) /\
   (∀ p∈sc.names,p.2=.local->sc.names.lookup p.1=some .local)/\∀ (j i:Nat) (x:Str),ix[j]?=some (some i)->N'[j]?=some x->N[i]?=some x/\sc.names.lookup x=some .free:=by
 unfold oX at h
 simp only [CO,CA,beq_iff_eq,bne_iff_ne,Bool.or_eq_true,ne_eq] at h
 obtain ⟨⟨⟨h1,h2⟩,h3⟩,h4⟩:=h
 refine ⟨h1,h2,fun p hp=>(h3 p hp).1.1,fun p hp hf=>?_,fun p hp hl=>?_,fun j i x e1 e2=>?_⟩
 ·rcases (h3 p hp).1.2 with z|z
  ·exact absurd hf z
  ·exact z
 ·rcases (h3 p hp).2 with z|z
  ·exact absurd hl z
  ·exact z
 ·have hj:j < N'.length:=(BL.mp e2).1
  have:=h4 j (CZ.mpr hj)
  rw [e1,e2] at this
  simpa using this
def i7 (X:Cx) (sc:Scope) (N':List Str) (C:Addr) (cl:List (Str×Addr)) (s:Shared) (H:Hp) (fp:List Addr):Cx:=
 { X with N:=N',s₀:=s,H₀:=H,env:=compEnvC sc cl C X.env,outer:=X.stack,stack:=X.stack,ex:=fp,fn:=fun _=>false,pn:=[],xe:=fun _ _=>False }
def ky (ix:List (Option Nat)) (σ:St):St:=ix.map fun o=>match o with|some i=>(σ[i]?).getD none|none=>none
def ExtL:St->St->Prop
 | [],[]=>True
 | none::r,_::r'=>ExtL r r'
 | some v::r,w::r'=>w=some v/\ExtL r r'
 | _,_=>False
theorem ExtL.spec:∀ {a b:St},ExtL a b->a.length=b.length/\∀ (i:Nat) v,a[i]?=some (some v)->b[i]?=some (some v)
 | [],[],_=>⟨rfl,fun _ _ z=>by simp at z⟩
 | [],_::_,h=>h.elim
 | none::r,[],h=>h.elim
 | some v::r,[],h=>h.elim
 | none::r,w::r',h=>by
  obtain ⟨e1,e2⟩:=ExtL.spec (a:=r) (b:=r') h
  refine ⟨by simp [e1],fun i v z=>?_⟩
  cases i with
  | zero=>simp at z
  | succ i=>simpa using e2 i v (by simpa using z)
 | some u::r,w::r',h=>by
  obtain ⟨e0,h⟩:=h
  obtain ⟨e1,e2⟩:=ExtL.spec (a:=r) (b:=r') h
  refine ⟨by simp [e1],fun i v z=>?_⟩
  cases i with
  | zero=>simp at z;subst z;simp [e0]
  | succ i=>simpa using e2 i v (by simpa using z)
structure PF (X:Cx) (ifs:List Expr) (t:TT):Prop where
 run:∀ (pins:List (Addr×Obj)) (s:Shared) (σ:St) (H:Hp) (Q:Bool->Hp->Prop),Inv X pins σ H s->t σ H Q->
  wpAny (model X.prog X.w) X.A (forIn ifs true fun c r=>if r=true then do let ok <-isTrue c X.env (eval c X.env);pure (ForInStep.yield ok) else pure (ForInStep.yield r)) (TP X pins σ Q) X.xe s
instance {X:Cx} {ifs:List Expr} {t:TT}:CoeFun (PF X ifs t) fun _=>∀ (pins:List (Addr×Obj)) (s:Shared) (σ:St) (H:Hp) (Q:Bool->Hp->Prop),Inv X pins σ H s->t σ H Q->
  wpAny (model X.prog X.w) X.A (forIn ifs true fun c r=>if r=true then do let ok <-isTrue c X.env (eval c X.env);pure (ForInStep.yield ok) else pure (ForInStep.yield r)) (TP X pins σ Q) X.xe s:=⟨PF.run⟩
def zC:TT:=fun _ H Q=>Q true H
theorem cw:PF X [] zC:=⟨fun pins s σ H Q I h=>wpAny_tests_nil ⟨H,I,h⟩⟩
theorem wM {c:Expr} {t:TT} (h:PT X c t):PF X [c] t:=⟨fun pins s σ H Q I q=>wpAny_tests_one (h pins s σ H Q I q)⟩
def qk (J:It) (g:TG) (tf:TT) (te:TE) (ix:List (Option Nat)) (σ:St) (H1:Hp) (Q:VK):Prop:=∃ W:Nat->Nat->List V->Hp->Prop,(∃ m,W 0 m [] H1)/\∀ i m ys H,W i m ys H->
 (J.stop i H/\ys.length<=sizeLine/\∀ D,H D=none->Q (.ref D) (aC H D (.lst ys))) ∨
 (J.go i H/\ys.length<=sizeLine/\∀ x H',J.yld i H x H'->g x (ky ix σ) H' fun σ2 H2=>ExtL (ky ix σ) σ2/\tf σ2 H2 fun b H3=>if b=true then te σ2 H3 fun y H4=>∃ m',m' < m/\W (i+1) m' (ys++[y]) H4 else ∃ m',m' < m/\W (i+1) m' ys H3)
def AU (wi:TI) (g:TG) (tf:TT) (te:TE) (ix:List (Option Nat)):TE:=fun σ H Q=>wi σ H fun J H1=>qk J g tf te ix σ H1 Q
section
variable {X:Cx} {tg elt iter:Expr} {ifs:List Expr} {sc:Scope} {N':List Str} {ix:List (Option Nat)} {pins:List (Addr×Obj)} {σ:St} {H2:Hp} {s2:Shared} {fp:List Addr} {cl:List (Str×Addr)} {C:Addr} {pos:Pos}
theorem wN (I:Inv X pins σ H2 s2) (hix:oX X.N X.env.scope sc N' ix=true) (e2:∀ x c,cl.lookup x=some c->X.env.cells.lookup x=some c) (e3:∀ x∈sc.names,x.2=.free->∃ c,cl.lookup x.1=some c)
  (f2:∀ b∈fp,iX X pins H2 b) (fo:∀ b∈fp,∃ o,s2.heap.get? b=some o) (hC:s2.heap.objs.size<=C):(i7 X sc N' C cl s2 H2 fp).Ok:=by
 obtain ⟨k1,_,k3,_,_,_⟩:=jp hix
 refine ⟨I.ok.mod,k1,I.ok.glob,I.ok.blt,hC,fun x y c a b=>I.ok.inj x y c (e2 x c a) (e2 y c b),fun x hx=>?_,fun x c z=>(by cases z),I.ok.hd,I.ok.frames,.inl rfl,fun b hb=>?_,I.bs,Cm I.ok.bsz I.sz,fun b o e hb=>?_,fun b hb hf=>?_,I.stack,I.stkFree⟩
 ·have hx':(compEnvC sc cl C X.env).kindOf x=some .cell\/(compEnvC sc cl C X.env).kindOf x=some .free:=hx
  rw [io] at hx'
  cases q:sc.names.lookup x with
  | none=>rw [q] at hx';rcases hx' with z|z<;>cases z
  | some k=>
   have hm:=dh q
   have hf:k=.free:=by
    rw [q] at hx'
    have nk:=k3 _ hm
    cases k with
    | free=>rfl
    | cell=>exact absurd rfl nk
    | _=>rcases hx' with z|z<;>(simp [jK] at z)
   exact e3 (x,k) hm hf
 ·obtain ⟨o,ho⟩:=fo b hb
  exact ⟨Ce (B9 (BP ho) hC),fun x c q=>(f2 b hb).2.2.2.2.1 x c (e2 x c q)⟩
 ·have hb':b∈fp:=hb
  rcases (f2 b hb').2.2.2.1 with z|z
  ·exact I.ok.noex b o e z
  ·exact absurd (B9 (BP e) (Cm I.ok.bsz z)) (CG _)
 ·have hb':b∈fp:=hb
  rcases BW.mp (I.stkSub b hf) with z|z
  ·exact (f2 b hb').2.1 z
  ·exact (f2 b hb').2.2.1 z
end
section
variable {X:Cx} {tg elt iter:Expr} {ifs:List Expr} {sc sc0:Scope} {N N':List Str} {ix:List (Option Nat)} {pos:Pos} {wi:TI} {g:TG} {tf:TT} {te:TE}
structure LcEnd (X:Cx) (pins:List (Addr×Obj)) (σ:St) (H:Hp) (s:Shared) (C:Addr):Prop where
 inv:Inv X pins σ H s
 ns:∃ m,s.heap.Ns C m
 free:H C=none
 loc:C≠X.env.locals
 cel:∀ x c,X.env.cells.lookup x=some c->c≠C
 abv:X.s₀.heap.objs.size<=C
 pin:∀ p∈X.pn++pins,p.1≠C
variable {s:Shared} {σ:St} {pins:List (Addr×Obj)}
theorem LcEnd.gone {h':Heap} (L:LcEnd X pins σ H s C) (sb:Heap.SameBut C s.heap h'):Inv X pins σ H { s with heap:=h' }:=
 L.inv.turned (it:=C) (t':=s.toks) (fun b o hb e=>(sb.2 b hb).trans e) L.free L.loc (.inr L.abv) L.cel L.pin
theorem nP {pins:List (Addr×Obj)} {σ:St} {H:Hp} {s:Shared} {Q:VK} {use:Option (Value->Sem Unit)} {Qf:Value->Shared->Prop} {cpos:Pos} (hc:X.calm=true) (hix:oX X.N X.env.scope sc N' ix=true) (hi:PI X tg iter wi)
  (hg:∀ C cl s H fp,PG (i7 X sc N' C cl s H fp) tg g) (hf:∀ C cl s H fp,PF (i7 X sc N' C cl s H fp) ifs tf) (he:∀ C cl s H fp,PE (i7 X sc N' C cl s H fp) elt te)
  (hs:∀ x,foldedSetIterable iter X.env x=pure x) (I:Inv X pins σ H s) (h:AU wi g tf te ix σ H Q)
  (hend:∀ (C D:Addr) (H':Hp) (s':Shared),LcEnd X pins σ H' s' C->Q (.ref D) H'->compPost (model X.prog X.w) X.A X.xe use Qf (.ref D) C (.ok .next) s') :
  wpAny (model X.prog X.w) X.A (comprehension (.ListComp elt [⟨tg,iter,ifs,0⟩] sc pos) sc X.env cpos (newList []) false (eval iter X.env) use) Qf X.xe s:=by
 obtain ⟨hk,hlen,hcell,hfreeX,hnames,hat⟩:=jp hix
 obtain ⟨cl,e1,e2,e3⟩:=mo (env:=X.env) (sc:=sc) (fun x hx hf=>I.ok.has x.1 (hfreeX x hx hf))
 refine wpAny_comprehension_free (use:=use) (cl:=cl) rfl hs e1 hk hnames (bF (hi pins s σ H _ I h) fun v s1 h1=>bF h1 fun itv s2 h2=>?_)
 obtain ⟨it,fp,tn,J,H2,e,I2,T,st2,f2,W,⟨m0,w0⟩,turn⟩:=h2
 subst e
 refine wpAny_newObj_type (wpAny_newFunctionEnv hcell (by intro y hy;simp at hy) (fun h₁ hns₁ hsb₁=>?_) hk)
 dsimp only at hns₁ hsb₁ ⊢
 generalize hH2:s2.heap.push { cls:=.type "list",dict:=none,data:=.seq ([]:List Value).toArray }=G2 at hns₁ hsb₁ ⊢
 have hCs:G2.objs.size=s2.heap.objs.size+1:=by rw [<-hH2,Dc]
 have hDC:s2.heap.objs.size≠G2.objs.size:=by rw [hCs];exact Ce (Dl _)
 have hCle:s2.heap.objs.size<=G2.objs.size:=by rw [hCs];exact Dm _
 have belowC:∀ b,b < s2.heap.objs.size->b≠G2.objs.size:=fun b hb=>by rw [hCs];exact Ce (Nat.lt_succ_of_lt hb)
 have belowD:∀ b,b < s2.heap.objs.size->b≠s2.heap.objs.size:=fun b hb=>Ce hb
 have old:∀ b o,s2.heap.get? b=some o->h₁.get? b=some o:=fun b o e=>hsb₁.extBut b o (belowC b (BP e)) (BM _ (hH2 ▸ BM _ e))
 have hacc:h₁.get? s2.heap.objs.size=some { cls:=.type "list",data:=.seq ([]:List Value).toArray }:=hsb₁.extBut _ _ hDC (BM _ (hH2 ▸ B0 _ rfl))
 have fo:∀ b∈fp,∃ o,s2.heap.get? b=some o:=fun b hb=>let ⟨o,ho,_⟩:=T.obj _ _ st2 b hb;⟨o,ho⟩
 have fD:∀ b∈fp,b≠s2.heap.objs.size:=fun b hb=>let ⟨o,ho⟩:=fo b hb;belowD b (BP ho)
 have ok':(i7 X sc N' G2.objs.size cl s2 H2 fp).Ok:=wN I2 hix e2 e3 f2 fo hCle
 have HD:H2 s2.heap.objs.size=none:=I2.hok.fresh (BT _)
 have HC:H2 G2.objs.size=none:=I2.hok.fresh hCle
 have I4:Inv (i7 X sc N' G2.objs.size cl s2 H2 fp) [] (ky ix σ) H2 { s2 with heap:=h₁,toks:=s2.toks+([]:List (Str×Value)).length }:=by
  refine ⟨ok',rfl,I2.bare,Un.kept old,⟨_,hns₁,fun j x v a b c=>?_⟩,fun x c q=>?_,HC,fun x c q=>I2.freeC x c (e2 x c q),fun p hp=>(by cases hp),I2.hok.kept old,?_⟩
  ·
   have a':N'[j]?=some x:=a
   have b':(ix.map fun o=>match o with|some i=>(σ[i]?).getD none|none=>none)[j]?=some (some v):=b
   rw [Co] at b'
   cases q:ix[j]? with
   | none=>rw [q] at b';cases b'
   | some o=>
    rw [q] at b'
    cases o with
    | none=>cases b'
    | some i=>
     obtain ⟨n1,n2⟩:=hat j i x q a'
     have b'':(σ[i]?).getD none=some v:=Cf b'
     have sv:σ[i]?=some (some v):=by
      cases z:σ[i]? with
      | none=>rw [z] at b'';cases b''
      | some y=>rw [z] at b'';exact congrArg some b''
     obtain ⟨m,hn,hl⟩:=I2.loc
     have kx:=hfreeX (x,.free) (dh n2) rfl
     obtain ⟨u,r,lk⟩:=hl i x v n1 sv (.inr kx)
     refine ⟨u,r,.inr ⟨?_,?_⟩⟩
     ·show (compEnvC sc cl G2.objs.size X.env).kindOf x=some .cell\/(compEnvC sc cl G2.objs.size X.env).kindOf x=some .free
      rw [io,n2]
      show some (jK X.env x .free)=some .cell\/some (jK X.env x .free)=some .free
      unfold jK
      split
      ·exact .inl rfl
      ·exact .inr rfl
     ·obtain ⟨c1,hc1⟩:=e3 (x,.free) (dh n2) rfl
      refine ⟨c1,hc1,?_⟩
      have hc2:=e2 x c1 hc1
      rcases lk with ⟨z,_⟩|⟨_,c,hcc,hcl⟩
      ·have z':X.env.scope.names.lookup x=some .local:=z
       rcases kx with y|y<;>(rw [y] at z';cases z')
      ·rw [hc2] at hcc;cases hcc
       obtain ⟨o,ho,hd⟩:=hcl
       exact ⟨o,old c1 o ho,hd⟩
  ·obtain ⟨v,o,ho,hd⟩:=I2.cell x c (e2 x c q)
   exact ⟨v,o,old c o ho,hd⟩
  ·show (ix.map _).length=N'.length
   rw [BJ,hlen]
 have cellD:∀ x c,cl.lookup x=some c->c≠s2.heap.objs.size:=fun x c q z=>by
  obtain ⟨v,o,ho,hd⟩:=I2.cell x c (e2 x c q)
  exact belowD c (BP ho) z
 have loop:∀ s₃:Shared,s₃={ s2 with heap:=h₁,toks:=s2.toks+([]:List (Str×Value)).length }->
   codeAny (model X.prog X.w) X.A (.compLoop (.ListComp elt [⟨tg,iter,ifs,0⟩] sc pos) 0 (.ref it) (.ref s2.heap.objs.size) (compEnvC sc cl G2.objs.size X.env))
    (compPost (model X.prog X.w) X.A X.xe use Qf (.ref s2.heap.objs.size) G2.objs.size) s₃:=by
  rintro s₃ rfl
  refine codeAny_loop rfl (fun n s'=>∃ i ys H' its k,Inv (i7 X sc N' G2.objs.size cl s2 H2 fp) [] (ky ix σ) H' s'/\tn i s'.heap/\(∀ b∈fp,H' b=none)/\H' s2.heap.objs.size=none /\
   Vals ys its/\s'.heap.get? s2.heap.objs.size=some { cls:=.type "list",data:=.seq its.toArray k }/\W i n ys H') ?_ m0
   ⟨0,[],H2,[],_,I4,T.keep _ _ _ st2 (fun b _ o e=>old b o e),fun b hb=>(f2 b hb).1,HD,.nil,hacc,w0⟩
  rintro n s5 ⟨i,ys,H5,its,k,I5,st5,fr5,hD5,vv,oD,w5⟩
  show wpAny _ X.A ((compTurn (.ListComp elt [⟨tg,iter,ifs,0⟩] sc pos) 0 (.ref it) (.ref s2.heap.objs.size) (compEnvC sc cl G2.objs.size X.env)).onRaise (fun x=>do noteFrame x (compEnvC sc cl G2.objs.size X.env);theTreesLotGoes x)) _ _ s5
  refine wpAny_noted ?_
  rw [compTurn_list]
  have I5p:Inv (i7 X sc N' G2.objs.size cl s2 H2 fp) [(s2.heap.objs.size,{ cls:=.type "list",data:=.seq its.toArray k })] (ky ix σ) H5 s5:=I5.pins_of fun p hp=>by
   have hp':p=(s2.heap.objs.size,{ cls:=.type "list",data:=.seq its.toArray k }):=by simpa using hp
   subst hp'
   refine ⟨oD,hD5,hDC,fun hb=>?_,fun v z=>(by cases z)⟩
   obtain ⟨_,o,ho,_⟩:=I2.stack.mem (show s2.heap.objs.size∈jD X.stack from hb)
   exact CG _ (BP ho)
  have fpk:∀ {H':Hp},(∀ b∈fp,H' b=none)->∀ b∈fp,iX (i7 X sc N' G2.objs.size cl s2 H2 fp) [(s2.heap.objs.size,({ cls:=.type "list",data:=.seq its.toArray k }:Obj))] H' b:=fun {H'} hn b hb=>by
   refine ⟨hn b hb,(ok'.exf b hb).1,ok'.exfs b hb,.inl hb,(ok'.exf b hb).2,fun p hp=>?_⟩
   have hp':p=(s2.heap.objs.size,({ cls:=.type "list",data:=.seq its.toArray k }:Obj)):=by
    have z:p∈([]:List (Addr×Obj))++[(s2.heap.objs.size,({ cls:=.type "list",data:=.seq its.toArray k }:Obj))]:=hp
    simpa using z
   subst hp'
   exact (fD b hb).symm
  rcases turn i n ys H5 w5 with ⟨stop,hz,qn⟩|⟨go,hz,step⟩
  ·refine wpAny_bind (wpAny_standAt (wpAny_bind (wpAny_mono (T.done (i7 X sc N' G2.objs.size cl s2 H2 fp) rfl rfl rfl hc i _ s5 (ky ix σ) H5 (fun _ _=>False) I5p (fpk fr5) st5 stop) (fun r s6 ⟨hr,I6⟩=>?_) fun _ _ f=>f.elim)))
   subst hr
   refine wpAny_pure ?_
   obtain ⟨m,hn,_⟩:=I6.loc
   have oD6:s6.heap.get? s2.heap.objs.size=some { cls:=.type "list",data:=.seq its.toArray k }:=(I6.pin (s2.heap.objs.size,{ cls:=.type "list",data:=.seq its.toArray k }) (by show _∈([]:List (Addr×Obj))++_;simp)).1
   have u6:Un (jD X.stack) fp H2 H5 s2.heap s6.heap:=I6.base
   have HC5:H5 G2.objs.size=none:=I6.free
   refine hend _ _ (aC H5 s2.heap.objs.size (.lst ys)) s6 ⟨?_,⟨m,hn⟩,by rw [aw hDC.symm];exact HC5,(belowC _ I2.lt).symm,fun x c q=>?_,Cm I2.sz hCle,fun p hp=>?_⟩ (qn _ hD5)
   ·refine I2.call' (s':=s6) (ch:=fp) I6.os ?_ ?_ I6.bare fun b hb=>⟨(f2 b hb).2.2.2.1,(f2 b hb).2.1,(f2 b hb).2.2.2.2.1,(f2 b hb).2.2.2.2.2⟩
    ·refine ⟨fun b o e n nf nx=>u6.keep b o e n nf nx,fun b o e n nf nx=>u6.slot b o e n nf nx,fun b o e n nx=>?_,fun b o e nx=>u6.there b o e nx,fun b xs e=>?_,fun b o u e=>?_,fun b ps e=>?_⟩
     ·rw [aw (belowD b (BP e))];exact u6.free b o e n nx
     ·rw [aw (aU e HD)];exact u6.tups b xs e
     ·rw [aw (aU e HD)];exact u6.frzs b o u e
     ·rw [aw (aU e HD)];exact u6.tbls b ps e
    ·intro b o e
     by_cases hb:b=s2.heap.objs.size
     ·subst hb
      rw [ad] at e;cases e
      exact ⟨hz,its,k,vv,oD6⟩
     ·rw [aw hb] at e
      refine (I6.hok b o e).stay (fun c v hcc q=>q) (fun c q=>?_) fun c xs q=>?_
      ·rw [aw (aU q hD5)];exact q
      ·rw [aw (aU q hD5)];exact q
   ·obtain ⟨v,o,ho,hd⟩:=I2.cell x c q
    exact belowC c (BP ho)
   ·exact belowC p.1 (BP (I2.pin p hp).1)
  ·refine wpAny_bind (wpAny_standAt (wpAny_bind (wpAny_mono (T.item (i7 X sc N' G2.objs.size cl s2 H2 fp) rfl rfl rfl hc i _ s5 (ky ix σ) H5 (fun _ _=>False) I5p (fpk fr5) st5 go) (fun r s6 ⟨u,hr,h6⟩=>?_) fun _ _ f=>f.elim)))
   subst hr
   refine wpAny_bind (wpAny_mono h6 (fun _ s7 ⟨x,H7,I7,r7,y7,st7,fr7⟩=>?_) fun _ _ f=>f.elim)
   have I7':=I7.pinned (fpk fr7) (T.obj _ _ st7)
   refine wpAny_bind (wpAny_mono (hg _ _ _ _ _ _ s7 (ky ix σ) H7 x u _ I7' r7 (step x H7 y7)) (fun _ s8 ⟨σ8,H8,I8,x8,q8⟩=>?_) fun _ _ f=>f.elim)
   obtain ⟨xl,xv⟩:=x8.spec
   have keepT:∀ {σ9:St} {H9:Hp} {s9:Shared} {pl:List (Addr×Obj)},(∀ p∈dk fp s7.heap,p∈pl)->Inv (i7 X sc N' G2.objs.size cl s2 H2 fp) pl σ9 H9 s9->tn (i+1) s9.heap/\∀ b∈fp,H9 b=none:=fun {σ9 H9 s9 pl} hp I9=>by
    have pn:∀ b o,b∈fp->s7.heap.get? b=some o->s9.heap.get? b=some o/\H9 b=none:=fun b o hb e=>by
     have:=I9.pin (b,o) (Ck _ (hp _ (fv hb e)))
     exact ⟨this.1,this.2.1⟩
    refine ⟨T.keep _ _ _ st7 fun b hb o e=>(pn b o hb e).1,fun b hb=>?_⟩
    obtain ⟨o,e,_⟩:=T.obj _ _ st7 b hb
    exact (pn b o hb e).2
   refine wpAny_bind (wpAny_mono (hf _ _ _ _ _ _ s8 σ8 H8 _ I8 q8) (fun ok s9 ⟨H9,I9,q9⟩=>?_) fun _ _ f=>f.elim)
   have pD:∀ {σ9:St} {H9:Hp} {s9:Shared},Inv (i7 X sc N' G2.objs.size cl s2 H2 fp) ([(s2.heap.objs.size,({ cls:=.type "list",data:=.seq its.toArray k }:Obj))]++dk fp s7.heap) σ9 H9 s9->
     s9.heap.get? s2.heap.objs.size=some { cls:=.type "list",data:=.seq its.toArray k }/\H9 s2.heap.objs.size=none:=fun {σ9 H9 s9} I9=>by
    have:=I9.pin (s2.heap.objs.size,{ cls:=.type "list",data:=.seq its.toArray k }) (Ck _ (De _ (by simp)))
    exact ⟨this.1,this.2.1⟩
   cases ok with
   | false=>
    obtain ⟨m',hm,w9⟩:=(show ∃ m',m' < n/\W (i+1) m' ys H9 from by simpa using q9)
    obtain ⟨t9,fr9⟩:=keepT (fun p hp=>Ck _ hp) I9
    obtain ⟨oD9,hD9⟩:=pD I9
    refine wpAny_pure ⟨rfl,m',hm,i+1,ys,H9,its,k,(I9.pins_of (pins':=[]) fun p hp=>nomatch hp).weak xl xv,t9,fr9,hD9,vv,oD9,w9⟩
   | true=>
    have q9':te σ8 H9 fun y H4=>∃ m',m' < n/\W (i+1) m' (ys++[y]) H4:=by simpa using q9
    refine wpAny_bind (wpAny_bind (wpAny_mono (he _ _ _ _ _ _ s9 σ8 H9 _ I9 q9') (fun yv sA ⟨y,HA,IA,rA,m',hm,wA⟩=>?_) fun _ _ f=>f.elim))
    obtain ⟨oDA,hDA⟩:=pD IA
    have hsz:its.toArray.size<=sizeLine:=by rw [B8,<-vv.length];exact hz
    refine wpAny_bind (wpAny_list_append_plain (hsz:=hsz) ⟨_,oDA⟩ fun h9 pl9 sb9=>?_)
    have IB:Inv (i7 X sc N' G2.objs.size cl s2 H2 fp) (dk fp s7.heap) σ8 HA sA:=IA.pins_of fun p hp=>IA.pin p (Ck _ (Ck _ hp))
    have IC:Inv (i7 X sc N' G2.objs.size cl s2 H2 fp) (dk fp s7.heap) σ8 HA { sA with heap:=h9 }:=IB.turned (it:=s2.heap.objs.size) (t':=sA.toks) (fun b o hb e=>(sb9.2 b hb).trans e) hDA hDC (.inr (BT _)) (fun x c q=>cellD x c q) fun p hp=>by
     have hp':p∈dk fp s7.heap:=by
      have z:p∈([]:List (Addr×Obj))++dk fp s7.heap:=hp
      simpa using z
     exact fD p.1 (jf hp').1
    obtain ⟨t9,fr9⟩:=keepT (fun p hp=>hp) IC
    obtain ⟨k',oD'⟩:=pl9
    refine wpAny_pure (wpAny_pure ⟨rfl,m',hm,i+1,ys++[y],HA,its++[yv],k',(IC.pins_of (pins':=[]) fun p hp=>nomatch hp).weak xl xv,t9,fr9,hDA,vv.append (.cons rA .nil),?_,wA⟩)
    show h9.get? s2.heap.objs.size=_
    rw [oD']
    simp
 exact codeAny_compStart_list (loop _ rfl) (T.self X.A 0 _ _ _ (T.keep _ _ _ st2 (fun b _ o e=>old b o e)) (loop _ rfl))
theorem fk (hc:X.calm=true) (hix:oX N sc0 sc N' ix=true) (hi:PI X tg iter wi)
  (hg:∀ C cl s H fp,PG (i7 X sc N' C cl s H fp) tg g) (hf:∀ C cl s H fp,PF (i7 X sc N' C cl s H fp) ifs tf) (he:∀ C cl s H fp,PE (i7 X sc N' C cl s H fp) elt te)
  (eN:X.N=N:=by rfl) (eS:X.env.scope=sc0:=by rfl) (hs:∀ x,foldedSetIterable iter X.env x=pure x:=by intro _;rfl) :
  PE X (.ListComp elt [⟨tg,iter,ifs,0⟩] sc pos) (AU wi g tf te ix):=by
 refine ⟨?_⟩
 intro pins s σ H Q I h
 subst eN eS
 rw [eval_ListComp]
 refine nP (use:=none) hc hix hi hg hf he hs I h fun C D H' s' L q=>?_
 obtain ⟨m,hn⟩:=L.ns
 exact ⟨m,hn,fun h' sb=>⟨.ref D,H',L.gone sb,rfl,q⟩⟩
def wO (i:Nat) (t:TE):TS:=fun D σ H=>t σ H fun v H1=>D.nx (σ.set i (some v)) H1
theorem dw {i:Nat} {y:Str} {py spos:Pos} (hN:X.N.Nodup) (hiy:X.N[i]?=some y) (hy:X.env.scope.names.lookup y=some .local) (hc:X.calm=true) (hix:oX N sc0 sc N' ix=true) (hi:PI X tg iter wi)
  (hg:∀ C cl s H fp,PG (i7 X sc N' C cl s H fp) tg g) (hf:∀ C cl s H fp,PF (i7 X sc N' C cl s H fp) ifs tf) (he:∀ C cl s H fp,PE (i7 X sc N' C cl s H fp) elt te)
  (eN:X.N=N:=by rfl) (eS:X.env.scope=sc0:=by rfl) (hs:∀ x,foldedSetIterable iter X.env x=pure x:=by intro _;rfl)
  (hsw:swapsWith (.ListComp elt [⟨tg,iter,ifs,0⟩] sc pos) (some (.Name y py)) spos.line X.env=pure true:=by rfl) :
  PS X (.Assign [.Name y py] (.ListComp elt [⟨tg,iter,ifs,0⟩] sc pos) spos) (wO i (AU wi g tf te ix)):=by
 refine ⟨?_⟩
 intro pins s σ H Dn I h
 subst eN eS
 rw [exec_Assign_Name_used _ _ _ _ hsw]
 refine wpAny_bind (wpAny_standAt (wpAny_bind ?_))
 show wpAny _ X.A (do let _ <-comprehension (.ListComp elt [⟨tg,iter,ifs,0⟩] sc pos) sc X.env _ (newList []) false (eval iter X.env) (some (assign (.Name y py) X.env))) _ _ s
 refine wpAny_bind (wpAny_mono (nP (use:=some (assign (.Name y py) X.env)) (Qf:=fun _ s'=>SP X pins Dn .next s') hc hix hi hg hf he hs I h fun C D H' s' L q=>?_) (fun _ s' hq=>wpAny_pure (wpAny_pure hq)) fun _ _ e=>e)
 show wpAny _ X.A (assign (.Name y py) X.env (.ref D)) _ _ s'
 refine wpAny_assign_Name (jd L.inv hN hiy (.inl hy) (v:=.ref D) rfl (fun s1 I1 hsb=>?_) (.inr hy))
 obtain ⟨a,sb,ha⟩:=hsb
 have haC:C≠a:=by
  rcases ha with z|z
  ·rw [z];exact L.loc
  ·exact (L.cel y a z).symm
 obtain ⟨m,hn⟩:=L.ns
 have L1:LcEnd X pins (σ.set i (some (.ref D))) H' s1 C:=⟨I1,⟨m,hn.sameBut sb haC⟩,L.free,L.loc,L.cel,L.abv,L.pin⟩
 exact ⟨m,hn.sameBut sb haC,fun h' sb'=>⟨_,H',L1.gone sb',q⟩⟩
end
end L2
namespace L2
open PySem
def Nx (Pv:Nat->List V->Hp->Prop) (n i:Nat) (ys:List V) (H:Hp):Prop:=∃ m',m' < n - i/\(m'=n - (i+1)/\i+1<=n/\Pv (i+1) ys H)
variable {H:Hp} {n i:Nat}
theorem Nx.mk {Pv:Nat->List V->Hp->Prop} {ys:List V} (h:i < n) (p:Pv (i+1) ys H):Nx Pv n i ys H:=⟨n - (i+1),by lia,rfl,h,p⟩
theorem fZ {K:ZF} {a:Addr} {xs:List V} {g:TG} {tf:TT} {te:TE} {ix:List (Option Nat)} {σ:St} {Q:VK} (Pv:Nat->List V->Hp->Prop) (h0:Pv 0 [] H)
  (hl:∀ i ys H,i<=xs.length->Pv i ys H->SqL K H a xs/\ys.length<=sizeLine)
  (hs:∀ i x ys H,xs[i]?=some x->Pv i ys H->g x (ky ix σ) H fun σ2 H2=>ExtL (ky ix σ) σ2/\tf σ2 H2 fun b H3=>if b=true then te σ2 H3 fun y H4=>Nx Pv xs.length i (ys++[y]) H4 else Nx Pv xs.length i ys H3)
  (hd:∀ ys H,Pv xs.length ys H->∀ D,H D=none->Q (.ref D) (aC H D (.lst ys))) :
  qk (y0 K a) g tf te ix σ H Q:=by
 refine ⟨fun i m ys H=>m=xs.length - i/\i<=xs.length/\Pv i ys H,⟨xs.length,by simp,Cy _,h0⟩,?_⟩
 rintro i m ys H ⟨rfl,hi,p⟩
 obtain ⟨q,hz⟩:=hl i ys H hi p
 by_cases hlt:i < xs.length
 ·refine .inr ⟨⟨xs,xs[i],q,by simp [hlt]⟩,hz,fun x H' y=>?_⟩
  obtain ⟨e,y⟩:=y
  subst e
  exact hs i x ys _ (y xs q) p
 ·have e:i=xs.length:=by lia
  subst e
  exact .inl ⟨⟨xs,q,BT _⟩,hz,hd ys H p⟩
theorem kJ {lo:Int} {n:Nat} {g:TG} {tf:TT} {te:TE} {ix:List (Option Nat)} {σ:St} {Q:VK} (Pv:Nat->List V->Hp->Prop) (h0:Pv 0 [] H)
  (hl:∀ i ys H,i<=n->Pv i ys H->ys.length<=sizeLine)
  (hs:∀ i ys H,i < n->Pv i ys H->g (.int (lo+i)) (ky ix σ) H fun σ2 H2=>ExtL (ky ix σ) σ2/\tf σ2 H2 fun b H3=>if b=true then te σ2 H3 fun y H4=>Nx Pv n i (ys++[y]) H4 else Nx Pv n i ys H3)
  (hd:∀ ys H,Pv n ys H->∀ D,H D=none->Q (.ref D) (aC H D (.lst ys))) :
  qk (vB lo n) g tf te ix σ H Q:=by
 refine ⟨fun i m ys H=>m=n - i/\i<=n/\Pv i ys H,⟨n,by simp,Cy _,h0⟩,?_⟩
 rintro i m ys H ⟨rfl,hi,p⟩
 have hz:=hl i ys H hi p
 by_cases hlt:i < n
 ·refine .inr ⟨hlt,hz,fun x H' y=>?_⟩
  obtain ⟨e,y⟩:=y
  subst e y
  exact hs i ys _ hlt p
 ·have e:i=n:=by lia
  subst e
  exact .inl ⟨BT _,hz,hd ys H p⟩
theorem cE {σ:St} {A B:Hp->Prop} (h:A H):zC σ H fun b H3=>if b=true then A H3 else B H3:=by
 show if true=true then A H else B H
 rw [if_pos rfl]
 exact h
end L2
namespace L2
open PySem PySem.Spec PyProof.Rows
def ql (w:World) (p:Str×V) (e:DictEntry):Prop:=e.hash=hashStr w p.1/\(∃ t,e.key=.str p.1 t)/\RelV p.2 e.val
def hU (w:World) (K:ZF) (a:Addr) (kvs:List (Str×V)):Prop:=
 ∃ (es:Array DictEntry) (ep:Nat),K.lookup a=some { cls:=.type "dict",data:=.dict es ep }/\Paired (ql w) kvs es.toList
theorem kK {P:Program} {w:World}:∀ {kvs:List (Str×V)} {es:List DictEntry},Paired (ql w) kvs es->∀ e∈es,∃ k,(strKind P w).is k e.key=true/\e.hash=(strKind P w).hash k
 | _,_,.nil,_,h=>nomatch h
 | (x,y)::r,e::es,.cons h t,e',he=>by
  rcases BW.mp he with z|z
  ·subst z
   obtain ⟨h1,⟨tk,h2⟩,h3⟩:=h
   refine ⟨x,?_,h1⟩
   rw [h2]
   show Value.isStrOf x (.str x tk)=true
   simp [Value.isStrOf]
  ·exact kK t e' z
mutual
inductive Dt (K:ZF) (H:Hp):V->PyData->Prop
 | non:Dt K H .non .none
 | bl (b:Bool):Dt K H (.bl b) (.bool b)
 | int (i:Int):Dt K H (.int i) (.int i)
 | str (x:Str):Dt K H (.str x) (.str x)
 | lst {a:Addr} {xs:List V} {ds:List PyData}:SqL K H a xs->DtAll K H xs ds->Dt K H (.ref a) (.list ds)
 | tup {a:Addr} {xs:List V} {ds:List PyData}:SqT K H a xs->DtAll K H xs ds->Dt K H (.ref a) (.tuple ds)
inductive DtAll (K:ZF) (H:Hp):List V->List PyData->Prop
 | nil:DtAll K H [] []
 | cons {v:V} {d:PyData} {vs:List V} {ds:List PyData}:Dt K H v d->DtAll K H vs ds->DtAll K H (v::vs) (d::ds)
end
section
variable {X:Cx} {pins:List (Addr×Obj)} {σ:St} {H:Hp} {s:Shared}
mutual
theorem Dt.reads (I:Inv X pins σ H s):∀ {v:V} {d:PyData} {u:Value},Dt X.K H v d->RelV v u->∃ as,Reads s.heap u d as
 | _,_,_,.non,r=>by cases r;exact ⟨_,.none⟩
 | _,_,_,.bl b,r=>by cases r;exact ⟨_,.bool b⟩
 | _,_,_,.int i,r=>by obtain ⟨t,rfl⟩:=r;exact ⟨_,.int i t⟩
 | _,_,_,.str x,r=>by obtain ⟨t,rfl⟩:=r;exact ⟨_,.str x t⟩
 | _,_,_,.lst hS hA,r=>by
  cases r
  obtain ⟨its,rv,⟨o,n,e,c,dd,hd⟩,hz⟩:=I.list hS
  obtain ⟨as,ha⟩:=DtAll.reads I hA rv
  first
   | exact ⟨_,.list e c hd (by simpa using ha)⟩
   | exact ⟨_,.list e c dd (by simpa using ha)⟩
 | _,_,_,.tup hS hA,r=>by
  cases r
  obtain ⟨its,rv,⟨o,e,c,n,hd⟩,hz⟩:=I.tuple hS
  obtain ⟨as,ha⟩:=DtAll.reads I hA rv
  exact ⟨_,.tuple e c hd (by simpa using ha)⟩
theorem DtAll.reads (I:Inv X pins σ H s):∀ {vs:List V} {ds:List PyData} {us:List Value},DtAll X.K H vs ds->Vals vs us->∃ as,ReadsAll s.heap us ds as
 | _,_,_,.nil,.nil=>⟨_,.nil⟩
 | _,_,_,.cons h t,.cons r rr=>by
  obtain ⟨a1,h1⟩:=Dt.reads I h r
  obtain ⟨a2,h2⟩:=DtAll.reads I t rr
  exact ⟨_,.cons h1 h2⟩
end
end
section
variable {X:Cx}
inductive rEqD (K:ZF) (x:V) (y:V) (H:Hp) (Q:VK):Prop
 | mk (dx dy:_):Dt K H x dx->Dt K H y dy->dx.canLay0=true->dy.canLay0=true->min dx.depth dy.depth<=60->Q (.bl (PyData.eqv dx dy)) H->rEqD K x y H Q
theorem op_eqD {k:Nat} (hr:Room k X.A):dF X (compareOp .Eq) (rEqD X.K):=by
 intro pins s σ H x y v u Q I rx ry h
 obtain ⟨dx,dy,h1,h2,c1,c2,dp,q⟩:=h
 obtain ⟨as,ra⟩:=h1.reads I rx
 obtain ⟨bs,rb⟩:=h2.reads I ry
 exact SeqAt.compareEq_reads ra rb c1 c2 (by have:=hr.un;lia) ⟨.bl _,H,I,rfl,q⟩
end
theorem Inv.turnedS {X:Cx} {pins:List (Addr×Obj)} {σ:St} {H H':Hp} {s:Shared} {h':Heap} {t':Nat} {ch:List Addr} (I:Inv X pins σ H s) (hf:∀ b∈ch,iX X pins H b)
  (k:∀ b o,b∉ch->s.heap.get? b=some o->h'.get? b=some o) (hH:∀ b o,H b=some o->H' b=some o) (hN:∀ b,b < s.heap.objs.size->H b=none->H' b=none)
  (new:∀ b o,H b=none->H' b=some o->ObjOk X.prog X.w H' h' b o):Inv X pins σ H' { s with heap:=h',toks:=t' }:=by
 refine I.step (g':=s.gens) (d':=s.drawn) (ch:=ch) (fun b hb=>?_) (fun b o _ _ hc e _=>k b o hc e) (fun b o _ _ hc e _=>⟨o.slots,k b o hc e⟩) (fun b o _ e n=>hN b (BP e) n)
  (fun b o hc e=>⟨o,k b o hc e⟩) (fun b xs e=>hH b _ e) (fun b o u e=>hH b _ e) (fun b ps e=>⟨#[],by rw [hH b _ e];simp⟩) (fun m hm=>?_) (fun b u e=>?_) I.bare
 ·obtain ⟨_,f1,_,f3,f4,f5⟩:=hf b hb
  exact ⟨f3,f1,f4,f5⟩
 ·obtain ⟨o,es,ep,ho,r⟩:=hm
  exact ⟨o,es,ep,k _ o (fun z=>(hf _ z).2.1 rfl) ho,r⟩
 ·cases q:H b with
  | none=>exact new b u q e
  | some v=>
   rw [hH b v q] at e
   cases e
   refine (I.hok b u q).stay (fun c v hc q'=>k c v (fun z=>?_) q') (fun c q'=>hH c _ q') fun c xs q'=>hH c _ q'
   have n:=(hf c z).1
   rcases hc with rfl|hc
   ·rw [q] at n;cases n
   ·rw [hc] at n;cases n
section
variable {X:Cx}
theorem pe_ty {x:Str} {n:String} {pos:Pos} (hg:Gl X x) (hm:X.mg x=none) (hv:bootBuiltins x=some (.type n)) (hn:x≠"__name__":=by decide) (hd:(x == ("__debug__":Str))=false:=by decide):PE X (.Name x pos) (tC (.ty n)):=
 tI hg hm hv rfl hn hd
variable {w:World}
theorem pairs_ent {P:Program}:∀ {kvs:List (Str×V)} {es:List DictEntry},Paired (ql w) kvs es->∃ vs:List (Str×Value),Pairs (strKind P w) es vs/\vs.map (·.1)=kvs.map (·.1)
 | _,_,.nil=>⟨[],.nil,rfl⟩
 | (x,y)::r,e::es,.cons h t=>by
  obtain ⟨vs,p,q⟩:=pairs_ent (P:=P) t
  obtain ⟨h1,⟨tk,h2⟩,h3⟩:=h
  refine ⟨(x,e.val)::vs,.cons ?_ rfl p,by rw [B6,B6,q]⟩
  rw [h2]
  show Value.isStrOf x (.str x tk)=true
  simp [Value.isStrOf]
theorem vals_keys {P:Program} {w:World}:∀ {ks:List Str} {us:List Value},us.length=ks.length->(∀ (j:Nat) k u,ks[j]?=some k->us[j]?=some u->(strKind P w).is k u=true)->Vals (ks.map V.str) us
 | [],[],_,_=>.nil
 | k::ks,[],h,_=>by cases h
 | [],u::us,h,_=>by cases h
 | k::ks,u::us,h,hv=>by
  refine .cons ?_ (vals_keys (P:=P) (w:=w) (by simpa using h) fun j k' u' a b=>hv (j+1) k' u' (by simpa using a) (by simpa using b))
  obtain ⟨t,e⟩:=Value.isStrOf_shape (hv 0 k u rfl rfl)
  exact ⟨t,e⟩
theorem call_list_top (hc:X.calm=true):cV X (.type "list") (fun xs H Q=>∃ a kvs,xs=[.ref a]/\hU X.w X.K a kvs/\(kvs.map (·.1)).Nodup/\(a == sysModules)=false/\kvs.length<=1000/\∀ p,H p=none->Q (.ref p) (aC H p (.lst (kvs.map fun kv=>V.str kv.1)))):=by
 intro pins s σ H xs us Q I r h
 obtain ⟨a,kvs,rfl,⟨es,ep,hk,hp⟩,nd,lo,hz,q⟩:=h
 cases r with
 | cons r0 rr=>
  cases rr
  cases r0
  have ho:=I.kIn a _ hk
  obtain ⟨vs,pv,ek⟩:=pairs_ent (P:=X.prog) hp
  have hat:s.heap.DictAt (strKind X.prog X.w) a vs ep:=⟨_,es,ho,⟨rfl,rfl,rfl⟩,rfl,fun e he'=>kK hp e (by simpa using he'),pv,by rw [ek];exact nd⟩
  have hl:vs.length=kvs.length:=by
   have:=congrArg List.length ek
   simpa using this
  have sz:(1000:Nat)<=sizeLine:=by decide
  refine PySem.W.kdl_call (PySem.W.kdl_dict (knd:=strKind X.prog X.w) (kvs:=vs) (ep:=ep) lo) (I.ok.hd hc) hat (by lia) fun h' tk acc' c' hkeep hD hacc=>?_
  have hv:Vals ((kvs.map (·.1)).map V.str) acc'.toList:=by
   refine vals_keys (P:=X.prog) (w:=X.w) (by rw [C8,hacc.1,BJ,hl]) fun j k u e1 e2=>?_
   obtain ⟨k',x',e3,e4⟩:=hacc.2 j u (by rw [<-Array.getElem?_toList];exact e2)
   rw [<-ek,Co,e3] at e1
   have:k'=k:=by simpa using e1
   rw [<-this];exact e4
  have e0:kvs.map (fun kv=>V.str kv.1)=(kvs.map (·.1)).map V.str:=by rw [C7];rfl
  refine ⟨.ref s.heap.objs.size,aC H s.heap.objs.size (.lst (kvs.map fun kv=>V.str kv.1)),I.laid (t':=tk) hkeep (BT _) ?_,rfl,q _ (I.hok.fresh (BT _))⟩
  refine ⟨by rw [BJ];lia,acc'.toList,c',by rw [e0];exact hv,?_⟩
  rw [hD]
end
end L2
namespace TK
def dz (c:Nat):Bool:=c == 32 || c == 10
def cI (c:Nat):Bool:=[40,41,123,125,91,93,44,59,43,45,38,124,94,60,61].contains c
def gB:List Nat->Nat
 | []=>0
 | [c]=>if cI c then 1 else 0
 | c::d::_=>if (c == 60 && d == 60) || (c == 62 && d == 62) then 2 else if cI c then 1 else 0
def run:List Nat->Nat
 | []=>0
 | c::r=>if dz c || gB (c::r) != 0 then 0 else 1+run r
theorem dJ (c:Nat):gB [c]=if cI c=true then 1 else 0:=rfl
theorem cW (c d:Nat) (r:List Nat):gB (c::d::r)=if ((c == 60 && d == 60) || (c == 62 && d == 62))=true then 2 else if cI c=true then 1 else 0:=rfl
theorem bZ (c:Nat) (r:List Nat):run (c::r)=if (dz c || gB (c::r) != 0)=true then 0 else 1+run r:=by rw [run]
theorem jL (l:List Nat):gB l<=l.length:=by
 match l with
 | []=>simp [gB]
 | [c]=>rw [dJ];split<;>simp
 | c::d::r=>rw [cW];split<;>(try split)<;>simp
theorem jM:∀ l:List Nat,run l<=l.length
 | []=>by simp [run]
 | c::r=>by
  have:=jM r
  rw [bZ]
  split<;>simp<;>lia
def one (l:List Nat):Nat:=if gB l=0 then run l else gB l
variable {r:List Nat} {c:Nat}
theorem hV (h:dz c=false):0 < one (c::r):=by
 unfold one
 by_cases e:gB (c::r)=0
 ·rw [if_pos e]
  rw [bZ,h,e]
  simp
  lia
 ·rw [if_neg e];lia
theorem wP (l:List Nat):one l<=l.length:=by
 unfold one
 split
 ·exact jM l
 ·exact jL l
def gU:Nat->List Nat->List (List Nat)
 | 0,_=>[]
 | _,[]=>[]
 | n+1,c::r=>if dz c then gU n r else (c::r).take (one (c::r))::gU n ((c::r).drop (one (c::r)))
theorem fA:∀ (n m:Nat) (l:List Nat),l.length<=n->l.length<=m->gU n l=gU m l
 | 0,0,_,_,_=>rfl
 | 0,m+1,l,h,_=>by
  have:l=[]:=C9.mp (by lia)
  subst this;rfl
 | n+1,0,l,_,h=>by
  have:l=[]:=C9.mp (by lia)
  subst this;rfl
 | n+1,m+1,[],_,_=>rfl
 | n+1,m+1,c::r,h1,h2=>by
  simp only [BS] at h1 h2
  unfold gU
  by_cases g:dz c=true
  ·rw [if_pos g,if_pos g]
   exact fA n m r (by lia) (by lia)
  ·rw [if_neg g,if_neg g]
   have p:=hV (r:=r) (by simpa using g)
   rw [fA n m _ (by rw [CJ,BS];lia) (by rw [CJ,BS];lia)]
def toks (l:List Nat):List (List Nat):=gU l.length l
theorem qo:toks []=[]:=rfl
theorem dZ (h:dz c=true):toks (c::r)=toks r:=by
 unfold toks
 rw [BS]
 show (if dz c then gU r.length r else _)=_
 rw [if_pos h]
theorem kL (h:dz c=false):toks (c::r)=(c::r).take (one (c::r))::toks ((c::r).drop (one (c::r))):=by
 unfold toks
 rw [BS]
 show (if dz c then _ else (c::r).take (one (c::r))::gU r.length ((c::r).drop (one (c::r))))=_
 rw [if_neg (by rw [h];decide)]
 have p:=hV (r:=r) h
 rw [fA r.length _ _ (by rw [CJ,BS];lia) (BT _)]
structure Tok (t:List Nat):Prop where
 cut:∀ s:List Nat,(s=[]\/∃ c r,s=c::r/\dz c=true)->one (t++s)=t.length
 ne:t≠[]
 ng:∀ c∈t,dz c=false
theorem gf {t s:List Nat} (h:Tok t) (hs:s=[]\/∃ c r,s=c::r/\dz c=true):toks (t++s)=t::toks s:=by
 cases t with
 | nil=>exact absurd rfl h.ne
 | cons c r=>
  have g:=h.ng c BQ
  have e:=h.cut s hs
  rw [CI] at e ⊢
  rw [kL g,e]
  have e1:(c::(r++s)).take (c::r).length=c::r:=by rw [<-CI,List.take_left'];rfl
  have e2:(c::(r++s)).drop (c::r).length=s:=by rw [<-CI,List.drop_left'];rfl
  rw [e1,e2]
theorem nQ:∀ (l s:List Nat),(s=[]\/∃ c r,s=c::r/\dz c=true)->run (l.take (run l)++s)=run l
 | [],s,hs=>by
  rcases hs with rfl|⟨c,r,rfl,g⟩
  ·rfl
  ·show run (c::r)=0
   rw [bZ,g];simp
 | c::r,s,hs=>by
  by_cases q:(dz c || gB (c::r) != 0)=true
  ·have e:run (c::r)=0:=by rw [bZ,if_pos q]
   rw [e]
   rcases hs with rfl|⟨d,r',rfl,g⟩
   ·rfl
   ·show run (d::r')=0
    rw [bZ,g];simp
  ·have e:run (c::r)=1+run r:=by rw [bZ,if_neg q]
   rw [e,Nat.add_comm 1,List.take_succ_cons,CI]
   have ih:=nQ r s hs
   simp at q
   obtain ⟨qg,qs⟩:=q
   have q2:(dz c || gB (c::(r.take (run r)++s)) != 0)=false:=by
    rw [qg]
    simp
    have sc:cI c=false:=by
     cases r with
     | nil=>
      rw [dJ] at qs
      split at qs
      ·cases qs
      ·rename_i nn;simpa using nn
     | cons d r2=>
      rw [cW] at qs
      split at qs
      ·cases qs
      ·split at qs
       ·cases qs
       ·rename_i nn;simpa using nn
    cases hh:r.take (run r)++s with
    | nil=>rw [dJ,sc];rfl
    | cons d r2=>
     rw [cW,sc]
     have nd:((c == 60 && d == 60) || (c == 62 && d == 62))=false:=by
      cases r with
      | nil=>
       rw [List.take_nil,List.nil_append] at hh
       rcases hs with z|⟨c2,r3,z,g⟩
       ·rw [z] at hh;cases hh
       ·rw [z] at hh
        injection hh with h1 _
        subst h1
        unfold dz at g
        simp at g
        rcases g with rfl|rfl<;>simp
      | cons d2 r3=>
       by_cases z0:run (d2::r3)=0
       ·rw [z0,List.take_zero,List.nil_append] at hh
        rcases hs with z|⟨c2,r4,z,g⟩
        ·rw [z] at hh;cases hh
        ·rw [z] at hh
         injection hh with h1 _
         subst h1
         unfold dz at g
         simp at g
         rcases g with rfl|rfl<;>simp
       ·obtain ⟨k,hk⟩:∃ k,run (d2::r3)=k+1:=⟨run (d2::r3) - 1,by lia⟩
        rw [hk,List.take_succ_cons,CI] at hh
        injection hh with h1 _
        subst h1
        rw [cW] at qs
        split at qs
        ·cases qs
        ·rename_i nn
         simpa using nn
     rw [nd]
     rfl
   rw [show run (c::(r.take (run r)++s))=1+run (r.take (run r)++s) by rw [bZ,if_neg (by rw [q2];decide)],ih,Nat.add_comm]
theorem qr:∀ (l:List Nat),∀ c∈l.take (run l),dz c=false
 | [],_,h=>by cases h
 | c::r,d,h=>by
  by_cases q:(dz c || gB (c::r) != 0)=true
  ·rw [bZ,if_pos q] at h;cases h
  ·rw [bZ,if_neg q,Nat.add_comm,List.take_succ_cons] at h
   rcases BW.mp h with z|z
   ·subst z;simp at q;exact q.1
   ·exact qr r d z
variable {d:Nat}
theorem oY (h:((c == 60 && d == 60) || (c == 62 && d == 62))=true):dz c=false/\dz d=false:=by
 simp at h
 rcases h with ⟨rfl,rfl⟩|⟨rfl,rfl⟩<;>exact ⟨rfl,rfl⟩
theorem oZ (h:dz d=true):((c == 60 && d == 60) || (c == 62 && d == 62))=false:=by
 unfold dz at h
 simp at h
 rcases h with rfl|rfl<;>simp
theorem dL (h:dz c=false):Tok ((c::r).take (one (c::r))):=by
 by_cases e:gB (c::r)=0
 ·have o:one (c::r)=run (c::r):=if_pos e
  have rp:0 < run (c::r):=by rw [<-o];exact hV h
  rw [o]
  refine ⟨fun s hs=>?_,fun z=>?_,qr _⟩
  ·have rc:=nQ (c::r) s hs
   have s0:gB ((c::r).take (run (c::r))++s)=0:=by
    cases hh:(c::r).take (run (c::r))++s with
    | nil=>rfl
    | cons d r2=>
     rw [hh,bZ] at rc
     split at rc
     ·lia
     ·rename_i nn
      simp at nn
      exact nn.2
   unfold one
   rw [if_pos s0,rc,BX]
   have:=jM (c::r)
   lia
  ·have:=congrArg List.length z
   rw [BX] at this
   have:=jM (c::r)
   simp at *
   lia
 ·have o:one (c::r)=gB (c::r):=if_neg e
  rw [o]
  have key:(cI c=true/\gB (c::r)=1)\/∃ d r2,r=d::r2/\((c == 60 && d == 60) || (c == 62 && d == 62))=true/\gB (c::r)=2:=by
   cases r with
   | nil=>
    rw [dJ] at e ⊢
    split at e
    ·rename_i nn;exact .inl ⟨nn,by rw [if_pos nn]⟩
    ·exact absurd rfl e
   | cons d r2=>
    rw [cW] at e ⊢
    by_cases nn:((c == 60 && d == 60) || (c == 62 && d == 62))=true
    ·exact .inr ⟨d,r2,rfl,nn,by rw [if_pos nn]⟩
    ·rw [if_neg nn] at e ⊢
     by_cases n2:cI c=true
     ·exact .inl ⟨n2,by rw [if_pos n2]⟩
     ·rw [if_neg n2] at e;exact absurd rfl e
  rcases key with ⟨sc,se⟩|⟨d,r2,rfl,dd,se⟩
  ·rw [se]
   refine ⟨fun s hs=>?_,by simp,fun x hx=>?_⟩
   ·show one (c::s)=1
    have:gB (c::s)=1:=by
     rcases hs with rfl|⟨d,r2,rfl,g⟩
     ·rw [dJ,if_pos sc]
     ·rw [cW,oZ g,if_neg (by decide),if_pos sc]
    unfold one
    rw [this];rfl
   ·have:x=c:=by simpa using hx
    rw [this];exact h
  ·rw [se]
   refine ⟨fun s hs=>?_,by simp,fun x hx=>?_⟩
   ·show one (c::d::s)=2
    have:gB (c::d::s)=2:=by rw [cW,if_pos dd]
    unfold one
    rw [this];rfl
   ·have hx':x=c\/x=d:=by simpa using hx
    rcases hx' with z|z
    ·rw [z];exact h
    ·rw [z];exact (oY dd).2
theorem eR:∀ (s l:List Nat),(∀ c∈s,dz c=true)->toks (s++l)=toks l
 | [],_,_=>rfl
 | c::r,l,h=>by
  rw [CI,dZ (h c BQ)]
  exact eR r l fun d hd=>h d (BV _ hd)
def jn (sep:List Nat):List (List Nat)->List Nat
 | []=>[]
 | [t]=>t
 | t::u::r=>t++(sep++jn sep (u::r))
theorem nR (sep tail:List Nat) (hne:sep≠[]) (hs:∀ c∈sep,dz c=true) (ht:∀ c∈tail,dz c=true):∀ ts:List (List Nat),(∀ t∈ts,Tok t)->toks (jn sep ts++tail)=ts
 | [],_=>by
  have:=eR tail [] ht
  rw [Cv] at this
  exact this
 | [t],h=>by
  have e:tail=[]\/∃ c r,tail=c::r/\dz c=true:=by
   cases tail with
   | nil=>exact .inl rfl
   | cons c r=>exact .inr ⟨c,r,rfl,ht c BQ⟩
  show toks (t++tail)=[t]
  rw [gf (h t BQ) e]
  have:=eR tail [] ht
  rw [Cv] at this
  rw [this];rfl
 | t::u::r,h=>by
  show toks ((t++(sep++jn sep (u::r)))++tail)=_
  rw [Cu,Cu]
  have e:sep++(jn sep (u::r)++tail)=[]\/∃ c r',sep++(jn sep (u::r)++tail)=c::r'/\dz c=true:=by
   cases hsep:sep with
   | nil=>exact absurd hsep hne
   | cons c r'=>exact .inr ⟨c,_,rfl,hs c (by rw [hsep];exact BQ)⟩
  rw [gf (h t BQ) e,eR sep _ hs,nR sep tail hne hs ht (u::r) fun x hx=>h x (BV _ hx)]
end TK
namespace L2
open PySem PySem.Spec PyProof.Rows
def S (l:List Nat):Str:=⟨l.toArray⟩
theorem bK (l:List Nat):(S l).length=l.length:=by show l.toArray.size=_;simp
theorem S_inj {a b:List Nat}:S a=S b↔a=b:=⟨fun h=>by
 have:(S a).cps.toList=(S b).cps.toList:=by rw [h]
 simpa [S] using this,fun h=>by rw [h]⟩
def gC (l:List Nat) (lo hi:Option Int):List Nat:=(l.drop (HT.sIx l.length 0 lo)).take (HT.sIx l.length l.length hi - HT.sIx l.length 0 lo)
theorem uc (n:Nat) (v:Option Int) (d:Nat) (hd:d<=n):HT.sIx n d v<=n:=by
 cases v with
 | none=>exact hd
 | some i=>
  show (if i < 0 then (i+(n:Int)).toNat else min i.toNat n)<=n
  split<;>lia
open PySem.Builtin.Str in
theorem kM (lo hi:Option Int) (n:Nat):strSliceIndices lo hi 1 n=(List.range (HT.sIx n n hi - HT.sIx n 0 lo)).map (HT.sIx n 0 lo+·):=by
 have clip:∀ (v:Option Int) (d:Nat),d<=n->(match v with|none=>(d:Int)|some i=>max 0 (min (if i < 0 then i+(n:Int) else i) n))=((HT.sIx n d v:Nat):Int):=fun v d hd=>by
  cases v with
  | none=>rfl
  | some i=>
   show max 0 (min (if i < 0 then i+(n:Int) else i) (n:Int))=(((if i < 0 then (i+(n:Int)).toNat else min i.toNat n:Nat)):Int)
   by_cases h:i < 0
   ·rw [if_pos h,if_pos h];lia
   ·rw [if_neg h,if_neg h];lia
 have c1:=clip lo 0 (Cy _)
 have c2:=clip hi n (BT _)
 rw [<-sliceRange_one]
 rw [<-c1,<-c2]
 unfold strSliceIndices
 simp only [show (1:Int) > 0 by decide,if_true]
 cases lo<;>cases hi<;>rfl
theorem ip (l:List Nat) (a:Nat):∀ k,((List.range k).map (a+·)).filterMap (fun i=>l.toArray[i]?)=(l.drop a).take k
 | 0=>by simp
 | k+1=>by
  rw [List.range_succ,BR,List.filterMap_append,ip l a k,List.take_add_one]
  congr 1
  rw [List.getElem?_drop]
  cases q:l[a+k]? with
  | none=>simp [Da,q]
  | some v=>simp [Da,q]
open PySem.Builtin.Str in
theorem kN (l:List Nat) (lo hi:Option Int):(if ((1:Int) == 1 && (strSliceIndices lo hi 1 (S l).length).length == (S l).length)=true then S l else ⟨((strSliceIndices lo hi 1 (S l).length).filterMap ((S l).cps[·]?)).toArray⟩)=S (gC l lo hi):=by
 rw [bK,kM]
 have e:((List.range (HT.sIx l.length l.length hi - HT.sIx l.length 0 lo)).map (HT.sIx l.length 0 lo+·)).filterMap ((S l).cps[·]?)=gC l lo hi:=ip l _ _
 rw [e]
 by_cases c:((1:Int) == 1 && ((List.range (HT.sIx l.length l.length hi - HT.sIx l.length 0 lo)).map (HT.sIx l.length 0 lo+·)).length == l.length)=true
 ·rw [if_pos c]
  simp at c
  have h2:=uc l.length hi l.length (BT _)
  have:gC l lo hi=l:=by
   unfold gC
   by_cases z:l.length=0
   ·have:l=[]:=C9.mp z
    subst this;simp
   ·have h0:HT.sIx l.length 0 lo=0:=by lia
    rw [h0,List.drop_zero,Cq (by lia)]
  rw [this]
 ·rw [if_neg c];rfl
section
variable {X:Cx}
theorem mq:At X (fun x lo hi H Q=>∃ l,x=.str (S l)/\l.length<=100000/\Q (.str (S (gC l lo hi))) H):=by
 intro pins s σ H x v vl vu lo hi sl Q I rx hs pl pu h
 obtain ⟨l,rfl,hz,q⟩:=h
 obtain ⟨t,rfl⟩:=rx
 obtain ⟨os,hos,hcs,hds⟩:=id hs
 have sz:(100000:Nat)<=sizeLine:=by decide
 have lc:(S (gC l lo hi)).length<=sizeLine:=by
  rw [bK]
  unfold gC
  rw [BX,CJ]
  lia
 refine ⟨"str",_,F.slot_str_getitem.lookup,typeIs_str _ _ _,?_⟩
 have fin:∀ (a b:Option (Int×Tok)),a.map (·.1)=lo->b.map (·.1)=hi->s.heap.IsSlice sl a b none->wpAny (model X.prog X.w) X.A (getItem (.str (S l) t) (.ref sl)) (EP X pins σ Q) X.xe s:=fun a b ea eb hS=>by
  refine wpAny_getItem_str_slice hS rfl ?_
  unfold sliceMade slicePicked
  rw [ea,eb]
  refine post_val_or_str ?_
  show (if ((1:Int) == 1 && (Builtin.Str.strSliceIndices lo hi 1 (S l).length).length == (S l).length)=true then S l else ⟨((Builtin.Str.strSliceIndices lo hi 1 (S l).length).filterMap ((S l).cps[·]?)).toArray⟩).length<=sizeLine/\∀ t' k,EP X pins σ Q (.str (if ((1:Int) == 1 && (Builtin.Str.strSliceIndices lo hi 1 (S l).length).length == (S l).length)=true then S l else ⟨((Builtin.Str.strSliceIndices lo hi 1 (S l).length).filterMap ((S l).cps[·]?)).toArray⟩) t') { s with toks:=k }
  rw [kN]
  exact ⟨lc,fun t' k=>⟨.str (S (gC l lo hi)),H,I.tok _,⟨t',rfl⟩,q⟩⟩
 cases pl with
 | none=>
  cases pu with
  | none=>exact fin none none rfl rfl ⟨os,hos,hcs,hds⟩
  | int j u=>exact fin none (some (j,u)) rfl rfl ⟨os,hos,hcs,hds⟩
 | int i u0=>
  cases pu with
  | none=>exact fin (some (i,u0)) none rfl rfl ⟨os,hos,hcs,hds⟩
  | int j u=>exact fin (some (i,u0)) (some (j,u)) rfl rfl ⟨os,hos,hcs,hds⟩
theorem eT (c:Nat) (l:List Nat):(!(Builtin.Str.occurrences (S l) (S [c]) 0 (S l).length 1).isEmpty)=decide (c∈l):=by
 rw [CH,StrLaws.found_iff,decide_eq_true_iff]
 constructor
 ·rintro ⟨i,hi,e⟩
  rw [bK,bK] at hi
  have hi':i < l.length:=by simp at hi;lia
  unfold Builtin.Str.subAt at e
  have e':l.toArray.extract i (i+1)=#[c]:=eq_of_beq e
  have:(l.drop i).take 1=[c]:=by
   have:=congrArg Array.toList e'
   simpa [List.extract_eq_drop_take] using this
  have hm:c∈(l.drop i).take 1:=by rw [this];simp
  exact List.mem_of_mem_drop (List.mem_of_mem_take hm)
 ·intro h
  obtain ⟨i,hi,e⟩:=List.getElem_of_mem h
  refine ⟨i,by rw [bK,bK];simp;lia,?_⟩
  unfold Builtin.Str.subAt
  have:l.toArray.extract i (i+1)=#[c]:=by
   apply Array.toList_inj.mp
   rw [Array.toList_extract]
   simp [List.extract_eq_drop_take,CB hi,e]
  show (l.toArray.extract i (i+1) == #[c])=true
  rw [this];exact beq_self_eq_true _
inductive vJ (tb:TE) (σ:St) (Q:VK) (x:V) (H1:Hp):Prop
 | mk (l:_):x=.str (S l)->l.length<=100000->(if l=[] then tb σ H1 Q else Q (.str (S l)) H1)->vJ tb σ Q x H1
def AV (ta tb:TE):TE:=fun σ H Q=>ta σ H fun x H1=>vJ tb σ Q x H1
theorem wQ {a b:Expr} {rest:List Expr} {pos:Pos} {ta tb:TE} (ha:PE X a ta) (hb:PE X (.BoolOp .Or (b::rest) pos) tb):PE X (.BoolOp .Or (a::b::rest) pos) (AV ta tb):=by
 refine ⟨?_⟩
 intro pins s σ H Q I h
 refine BoolOp_or (bF (ha pins s σ H _ I h) fun v s1 ⟨x,H1,I1,r1,q1⟩=>?_)
 obtain ⟨l,rfl,hz,q1⟩:=q1
 obtain ⟨t,rfl⟩:=r1
 refine PySem.P.truthy_str (by rw [bK];lia) ?_
 rw [bK]
 by_cases e:l=[]
 ·subst e
  rw [if_pos rfl] at q1
  exact hb pins _ σ H1 Q (I1.tok _) q1
 ·rw [if_neg e] at q1
  have:((l.length:Int) != 0)=true:=by
   have:l.length≠0:=fun z=>e (C9.mp z)
   simp;exact e
  rw [this]
  exact ⟨.str (S l),H1,I1.tok _,⟨t,rfl⟩,q1⟩
theorem gh:∀ {ys:List Str} {us:List Value},Vals (ys.map V.str) us->StrsAre us ys
 | [],_,.nil=>.nil
 | n::r,_,.cons h t=>by
  obtain ⟨tk,rfl⟩:=h
  exact .cons n tk (gh t)
theorem qt (sep:List Nat) (ts:List (List Nat)):Txt.join (S sep) (ts.map S)=S (TK.jn sep ts):=by
 have go:∀ (r:List (List Nat)) (acc:List Nat),(r.map S).foldl (fun acc p=>acc++(S sep).cps++p.cps) acc.toArray=(acc++(r.map (sep++·)).flatten).toArray:=by
  intro r
  induction r with
  | nil=>intro acc;simp
  | cons t r ih=>
   intro acc
   rw [B6,List.foldl_cons]
   have:acc.toArray++(S sep).cps++(S t).cps=(acc++sep++t).toArray:=by simp [S]
   rw [this,ih]
   simp
 have fl:∀ (t:List Nat) (r:List (List Nat)),TK.jn sep (t::r)=t++(r.map (sep++·)).flatten:=by
  intro t r
  induction r generalizing t with
  | nil=>simp [TK.jn]
  | cons u r ih=>
   show t++(sep++TK.jn sep (u::r))=_
   rw [ih u]
   simp
 cases ts with
 | nil=>rfl
 | cons t r=>
  show (⟨((t::r).map S |>.drop 1).foldl (fun acc p=>acc++(S sep).cps++p.cps) (((t::r).map S).headD Str.empty).cps⟩:Str)=_
  rw [fl]
  have:=go r t
  show (⟨(r.map S).foldl (fun acc p=>acc++(S sep).cps++p.cps) t.toArray⟩:Str)=_
  rw [this]
  rfl
theorem nS:Au X "str.join" (fun x xs H Q=>∃ sep a ts,x=.str (S sep)/\xs=[.ref a]/\SqL X.K H a (ts.map fun t=>V.str (S t))/\(ts.map List.length).sum+ts.length*sep.length<=100000/\Q (.str (S (TK.jn sep ts))) H):=by
 intro pins s σ H x xs v us Q I rx rv h
 obtain ⟨sep,a,ts,rfl,rfl,hS,hz,q⟩:=h
 obtain ⟨t,rfl⟩:=rx
 obtain ⟨u,rfl,ru⟩:=rv.one
 cases ru
 obtain ⟨its,r,pl,hz2⟩:=I.list hS
 have e:(ts.map fun t=>V.str (S t))=(ts.map S).map V.str:=by rw [C7];rfl
 rw [e] at r
 refine join_list pl.isList (ys:=ts.map S) (by simpa using gh r) ?_ fun t' k=>?_
 ·have:((ts.map S).map (·.length)).sum=(ts.map List.length).sum:=by
   rw [C7]
   congr 1
  rw [this,BJ,bK]
  lia
 ·rw [qt]
  exact ⟨.str (S (TK.jn sep ts)),H,I.tok _,⟨t',rfl⟩,q⟩
end
end L2
namespace L2
open PySem PySem.Spec PyProof.Rows
section
variable {X:Cx}
theorem cJ {T:String}:cV X (.builtin "isinstance") (fun xs H Q=>∃ x t b,xs=[x,.ty T]/\fV X.K H x t/\PySem.W.kitOne X.K t (.type T)=some b/\Q (.bl b) H):=by
 intro pins s σ H xs us Q I r h
 obtain ⟨x,t,b,rfl,ty,e,q⟩:=h
 cases r with
 | cons r0 rr=>
  cases rr with
  | cons r1 rr=>
   cases rr
   cases r1
   exact oU I r0 ty e fun tk=>⟨.bl b,H,I.tok _,rfl,q⟩
theorem qu:dF X (binaryOp .FloorDiv) (rI (fun _ j=>0 < j/\j < 18446744073709551616) fun i j=>.int (i / j)):=y3 fun i j _ _ _ _ _ hc q=>by
 have h1:(0:Int) < j:=hc.1
 have h2:j < 18446744073709551616:=hc.2
 refine floordiv_int (by lia) (by rw [Int.fdiv_eq_ediv_of_nonneg i (by lia)];exact q) (.inl (PyProof.noPylong_of_log2 ?_))
 have h3:j.natAbs≠0:=by lia
 have:j.natAbs.log2 < 64:=(Nat.log2_lt h3).mpr (by show j.natAbs < 2 ^ 64;lia)
 lia
def Aw (l:List Nat):It:=⟨fun i _=>i < l.length,fun i H y H'=>H'=H/\∃ h:i < l.length,y=.str (S [l[i]]),fun i _=>l.length<=i⟩
variable {tg:Expr} {K:ZF} {w:World} {P:Program}
theorem mr (l:List Nat) (t:Tok) (it:Addr):lV P w K tg (Aw l) [it] it (fun i h=>h.IsStrIter it "str_ascii_iterator" (S l) t i) where
 mem:=by simp
 obj:=fun i h st b hb=>by
  have e:b=it:=by simpa using hb
  subst e
  obtain ⟨o,e,c,d⟩:=st
  exact ⟨o,e,fun v z=>by rw [d] at z;cases z⟩
 keep:=fun i h h' st k=>let ⟨o,ho,r⟩:=st;⟨o,k it (by simp) o ho,r⟩
 item:=by
  intro X hP hw hK hc i pins s σ H E I hf st hg
  subst hP hw hK
  have hg':i < l.length:=hg
  obtain ⟨f0,f1,f2,f3,f4,f5⟩:=hf it (by simp)
  refine wpAny_pyNext_ascii_item st (c:=l[i]) (by show l.toArray[i]?=_;simp [hg']) fun h' st' sb=>?_
  have I1:Inv X pins σ H { s with heap:=h',toks:=s.toks+1 }:=I.turned (fun b o hb e=>(sb.2 b hb).trans e) f0 f1 f3 f4 f5
  obtain ⟨o,e,c,d⟩:=id st'
  exact ⟨_,rfl,kB (s:={ s with heap:=h',toks:=s.toks+1 }) e c d (by decide) ⟨.str (S [l[i]]),H,I1,⟨_,rfl⟩,⟨rfl,hg',rfl⟩,st',fun b hb=>(hf b hb).1⟩⟩
 done:=by
  intro X hP hw hK hc i pins s σ H E I hf st hg
  subst hP hw hK
  have hg':l.length<=i:=hg
  obtain ⟨f0,f1,f2,f3,f4,f5⟩:=hf it (by simp)
  exact wpAny_pyNext_ascii_end (I.ok.hd hc) st (by show l.toArray[i]?=_;simp [hg']) fun h' eb=>⟨rfl,I.turned (t':=s.toks) (fun b o hb e=>eb b o hb e) f0 f1 f3 f4 f5⟩
 self:=fun _ _ _ _ _ st h=>wpAny_pyIter_striter_ascii st h
theorem o0 (l:List Nat) (t:Tok) (it:Addr):lV P w K tg (Aw l) [it] it (fun i h=>h.IsStrIter it "str_iterator" (S l) t i) where
 mem:=by simp
 obj:=fun i h st b hb=>by
  have e:b=it:=by simpa using hb
  subst e
  obtain ⟨o,e,c,d⟩:=st
  exact ⟨o,e,fun v z=>by rw [d] at z;cases z⟩
 keep:=fun i h h' st k=>let ⟨o,ho,r⟩:=st;⟨o,k it (by simp) o ho,r⟩
 item:=by
  intro X hP hw hK hc i pins s σ H E I hf st hg
  subst hP hw hK
  have hg':i < l.length:=hg
  obtain ⟨f0,f1,f2,f3,f4,f5⟩:=hf it (by simp)
  refine wpAny_pyNext_wide_item st (c:=l[i]) (by show l.toArray[i]?=_;simp [hg']) fun h' st' sb=>?_
  have I1:Inv X pins σ H { s with heap:=h',toks:=s.toks+1 }:=I.turned (fun b o hb e=>(sb.2 b hb).trans e) f0 f1 f3 f4 f5
  obtain ⟨o,e,c,d⟩:=id st'
  exact ⟨_,rfl,kB (s:={ s with heap:=h',toks:=s.toks+1 }) e c d (by decide) ⟨.str (S [l[i]]),H,I1,⟨_,rfl⟩,⟨rfl,hg',rfl⟩,st',fun b hb=>(hf b hb).1⟩⟩
 done:=by
  intro X hP hw hK hc i pins s σ H E I hf st hg
  subst hP hw hK
  have hg':l.length<=i:=hg
  obtain ⟨f0,f1,f2,f3,f4,f5⟩:=hf it (by simp)
  exact wpAny_pyNext_wide_end (I.ok.hd hc) st (by show l.toArray[i]?=_;simp [hg']) fun h' eb=>⟨rfl,I.turned (t':=s.toks) (fun b o hb e=>eb b o hb e) f0 f1 f3 f4 f5⟩
 self:=fun _ _ _ _ _ st h=>wpAny_pyIter_striter_wide st h
inductive vK (R:It->Hp->Prop) (x:V) (H1:Hp):Prop
 | mk (l:_):x=.str (S l)->R (Aw l) H1->vK R x H1
def AW (tl:TE):TI:=fun σ H R=>tl σ H fun x H1=>vK R x H1
theorem mt {tg l:Expr} {tl:TE} (hl:PE X l tl):PI X tg l (AW tl):=by
 refine ⟨?_⟩
 intro pins s σ H R I h
 refine bF (hl pins s σ H _ I h) fun v s1 ⟨x,H1,I1,r1,q1⟩=>?_
 obtain ⟨l,e,q⟩:=q1
 subst e
 obtain ⟨t,rfl⟩:=r1
 have fp:∀ b∈[s1.heap.objs.size],iX X pins H1 b:=fun b hb=>by
  have e:b=s1.heap.objs.size:=by simpa using hb
  subst e
  exact I1.fpOk (BT _) (I1.hok.fresh (BT _))
 cases ha:(S l).cps.all (· < 128)
 ·exact wpAny_pyIter_wide ha ⟨s1.heap.objs.size,[s1.heap.objs.size],_,_,H1,rfl,I1.kept (t':=s1.toks) fun b o e=>BM _ e,o0 l t _,⟨_,B0 _ rfl,rfl,rfl⟩,fp,q⟩
 ·exact wpAny_pyIter_ascii ha ⟨s1.heap.objs.size,[s1.heap.objs.size],_,_,H1,rfl,I1.kept (t':=s1.toks) fun b o e=>BM _ e,mr l t _,⟨_,B0 _ rfl,rfl,rfl⟩,fp,q⟩
theorem mv {l:List Nat} {g:TG} {tf:TT} {te:TE} {ix:List (Option Nat)} {σ:St} {H:Hp} {Q:VK} (Pv:Nat->List V->Hp->Prop) (h0:Pv 0 [] H)
  (hl:∀ i ys H,i<=l.length->Pv i ys H->ys.length<=sizeLine)
  (hs:∀ i ys H (h:i < l.length),Pv i ys H->g (.str (S [l[i]])) (ky ix σ) H fun σ2 H2=>ExtL (ky ix σ) σ2/\tf σ2 H2 fun b H3=>if b=true then te σ2 H3 fun y H4=>Nx Pv l.length i (ys++[y]) H4 else Nx Pv l.length i ys H3)
  (hd:∀ ys H,Pv l.length ys H->∀ D,H D=none->Q (.ref D) (aC H D (.lst ys))) :
  qk (Aw l) g tf te ix σ H Q:=by
 refine ⟨fun i m ys H=>m=l.length - i/\i<=l.length/\Pv i ys H,⟨l.length,by simp,Cy _,h0⟩,?_⟩
 rintro i m ys H ⟨rfl,hi,p⟩
 have hz:=hl i ys H hi p
 by_cases hlt:i < l.length
 ·refine .inr ⟨hlt,hz,fun x H' y=>?_⟩
  obtain ⟨e,h,y⟩:=y
  subst e y
  exact hs i ys _ hlt p
 ·have e:i=l.length:=by lia
  subst e
  exact .inl ⟨BT _,hz,hd ys H p⟩
theorem dA (hc:X.calm=true):cV X (.builtin "all") (fun xs H Q=>∃ (p:Addr) (bs:List Bool),xs=[.ref p]/\SqL X.K H p (bs.map V.bl)/\Q (.bl (bs.all id)) H):=by
 intro pins s σ H xs us Q I r h
 obtain ⟨p,bs,rfl,hS,q⟩:=h
 obtain ⟨u,rfl,rx⟩:=fU r
 cases rx
 obtain ⟨its,rv,pl,hz⟩:=I.list hS
 have hlen:=rv.length
 rw [BJ] at hlen
 have hne:p≠s.heap.objs.size:=by
  obtain ⟨o,ho,_⟩:=pl.isList
  exact Ce (BP ho)
 refine call_all_walk (wpAny_pyIter_list pl.isList ?_)
 refine ⟨s.heap.objs.size,_,_,_,_,_,fun i=>bs.getD i true,rfl,Walks.list (A:=X.A.in1) (I.ok.hd hc) s.heap.objs.size p hne its.toArray,⟨⟨_,B0 _ rfl,rfl,rfl⟩,pl.isList.at fun o e=>BM _ e⟩,?_,?_⟩
 ·intro i v s' Q' E' hv hq
  have hv':its[i]?=some v:=by simpa using hv
  have hlt:i < its.length:=(BL.mp hv').1
  have hb:i < bs.length:=by lia
  obtain ⟨u,hu,ru⟩:=rv.get (i:=i) (x:=.bl bs[i]) (by simp [hb])
  rw [hv'] at hu
  cases hu
  cases ru
  refine wpAny_truthy_bool ?_
  have e:bs.getD i true=bs[i]:=by simp [List.getD,hb]
  dsimp only at hq
  rw [e] at hq
  exact hq
 ·intro h' tk hk
  have e:(List.range its.toArray.size).all (fun i=>bs.getD i true)=bs.all id:=by
   rw [B8,<-hlen,CH,CA,CA]
   constructor
   ·intro z x hx
    obtain ⟨i,hi,e⟩:=List.getElem_of_mem hx
    have:=z i (CZ.mpr hi)
    rw [show bs.getD i true=bs[i] by simp [List.getD,hi],e] at this
    exact this
   ·intro z i hi
    have hi':=CZ.mp hi
    rw [show bs.getD i true=bs[i] by simp [List.getD,hi']]
    exact z _ (CS hi')
  rw [e]
  exact ⟨.bl _,H,I.kept fun b o e=>hk b o (fun z=>absurd (BP e) (by rw [Cb.mp z];exact CG _)) (BM _ e),rfl,q⟩
end
section
variable {κ:Type} [DecidableEq κ]
def cr (kvs:List (κ×V)) (k:κ):Option V:=(kvs.find? fun kv=>decide (kv.1=k)).map (·.2)
def cS (kvs:List (κ×V)) (k:κ) (v:V):List (κ×V):=
 if (kvs.any fun kv=>decide (kv.1=k))=true then kvs.map (fun kv=>if kv.1=k then (kv.1,v) else kv) else kvs++[(k,v)]
theorem kO {k:κ}:cr ([]:List (κ×V)) k=none:=rfl
variable {r:List (κ×V)} {p:κ×V}
theorem cb {k:κ} (e:p.1=k):cr (p::r) k=some p.2:=by simp [cr,Dd,e]
theorem bR {k:κ} (e:¬ p.1=k):cr (p::r) k=cr r k:=by simp [cr,Dd,e]
theorem ed (k:κ):∀ kvs:List (κ×V),(kvs.any fun kv=>decide (kv.1=k))=(cr kvs k).isSome
 | []=>rfl
 | p::r=>by
  rw [Di]
  by_cases e:p.1=k
  ·simp only [cb e,decide_eq_true e,Bool.true_or,Option.isSome_some]
  ·rw [bR e,decide_eq_false e,Bool.false_or];exact ed k r
theorem kP (k j:κ) (y:V):∀ kvs:List (κ×V),cr (kvs.map fun kv=>if kv.1=k then (kv.1,y) else kv) j=(cr kvs j).map fun x=>if j=k then y else x
 | []=>rfl
 | p::r=>by
  have ih:=kP k j y r
  rw [B6]
  by_cases h:p.1=k
  ·rw [if_pos h]
   by_cases e:p.1=j
   ·rw [cb (p:=(p.1,y)) e,cb e,Do,if_pos (e.symm.trans h)]
   ·rw [bR (p:=(p.1,y)) e,bR e,ih]
  ·rw [if_neg h]
   by_cases e:p.1=j
   ·rw [cb (p:=p) e,cb e,Do,if_neg (fun z=>h (e.trans z))]
   ·rw [bR (p:=p) e,bR e,ih]
theorem jq (k j:κ) (y:V):∀ kvs:List (κ×V),cr kvs k=none->cr (kvs++[(k,y)]) j=if j=k then some y else cr kvs j
 | [],_=>by
  by_cases e:k=j
  ·rw [if_pos e.symm];exact cb (p:=(k,y)) e
  ·rw [if_neg (fun z=>e z.symm)];exact bR (p:=(k,y)) e
 | p::r,hn=>by
  rw [CI]
  have hk:¬ p.1=k:=fun z=>by rw [cb z] at hn;cases hn
  rw [bR hk] at hn
  have ih:=jq k j y r hn
  by_cases e:p.1=j
  ·rw [cb e,cb e,if_neg (fun z=>hk (e.trans z))]
  ·rw [bR e,bR e,ih]
theorem kQ (kvs:List (κ×V)) (k j:κ) (y:V):cr (cS kvs k y) j=if j=k then some y else cr kvs j:=by
 unfold cS
 by_cases a:(kvs.any fun kv=>decide (kv.1=k))=true
 ·rw [if_pos a,kP]
  rw [ed] at a
  by_cases e:j=k
  ·obtain ⟨x,hx⟩:=Option.isSome_iff_exists.mp a
   rw [if_pos e,e,hx,Do,if_pos rfl]
  ·rw [if_neg e]
   cases cr kvs j with
   | none=>rfl
   | some x=>rw [Do,if_neg e]
 ·rw [if_neg a]
  refine jq k j y kvs ?_
  rw [ed] at a
  cases q:cr kvs k with
  | none=>rfl
  | some x=>rw [q] at a;exact (a rfl).elim
theorem ef (kvs:List (κ×V)) (k:κ) (v:V):(cS kvs k v).length<=kvs.length+1:=by
 unfold cS
 split
 ·rw [BJ];lia
 ·rw [BN,BS,Cn];lia
variable {kvs:List (κ×V)}
theorem kR {k:κ} (v:V) (h:cr kvs k=none):cS kvs k v=kvs++[(k,v)]:=by
 unfold cS
 rw [ed,h]
 exact if_neg (by decide)
theorem RelO.isSome_eq {o:Option V} {u:Option Value} (r:RelO o u):o.isSome=u.isSome:=by
 cases o with
 | none=>cases u with
  | none=>rfl
  | some _=>exact (show False from r).elim
 | some _=>cases u with
  | none=>exact (show False from r).elim
  | some _=>rfl
theorem KV.val {vs:List (κ×Value)} (r:KV kvs vs) (k:κ):RelO (cr kvs k) (valueAt vs k):=by
 unfold KV at r
 induction r with
 | nil=>exact True.intro
 | @cons p q ps qs h t ih=>
  obtain ⟨h1,h2⟩:=h
  by_cases e:p.1=k
  ·have e':q.1=k:=h1.symm.trans e
   have b:valueAt (q::qs) k=some q.2:=by simp [valueAt,Dd,e']
   rw [cb e,b];exact h2
  ·have e':¬ q.1=k:=fun z=>e (h1.trans z)
   have b:valueAt (q::qs) k=valueAt qs k:=by simp [valueAt,Dd,e']
   rw [bR e,b];exact ih
theorem KV.any {vs:List (κ×Value)} (r:KV kvs vs) (k:κ):(kvs.any fun kv=>decide (kv.1=k))=vs.any fun kv=>decide (kv.1=k):=by
 unfold KV at r
 induction r with
 | nil=>rfl
 | cons h t ih=>rw [Di,Di,ih,h.1]
variable {u:Value} {y:V}
theorem KV.repl {vs:List (κ×Value)} (r:KV kvs vs) (k:κ) (ry:RelV y u) :
  KV (kvs.map fun kv=>if kv.1=k then (kv.1,y) else kv) (vs.map fun kv=>if kv.1=k then (kv.1,u) else kv):=by
 unfold KV at r ⊢
 induction r with
 | nil=>exact .nil
 | @cons p q ps qs h t ih=>
  rw [B6,B6]
  refine .cons ?_ ih
  obtain ⟨h1,h2⟩:=h
  by_cases e:p.1=k
  ·rw [if_pos e,if_pos (h1.symm.trans e)];exact ⟨h1,ry⟩
  ·rw [if_neg e,if_neg (fun z=>e (h1.trans z))];exact ⟨h1,h2⟩
theorem KV.put {vs:List (κ×Value)} (r:KV kvs vs) (k:κ) (ry:RelV y u):KV (cS kvs k y) (stored vs k u):=by
 unfold cS stored
 rw [r.any k]
 by_cases e:(vs.any fun kv=>decide (kv.1=k))=true
 ·rw [if_pos e,if_pos e];exact r.repl k ry
 ·rw [if_neg e,if_neg e];exact Paired.snoc r ⟨rfl,ry⟩
theorem KV.length {vs:List (κ×Value)} (r:KV kvs vs):kvs.length=vs.length:=Paired.length r
end
variable {u:Value} {w:World} {P:Program}
theorem jr {k:cz} (r:RelV (kV k) u):(bX P w).is k u=true:=by
 cases k with
 | inl i=>obtain ⟨t,e⟩:=(show ∃ t,u=Value.int i t from r);subst e;exact kz P w i t
 | inr x=>obtain ⟨t,e⟩:=(show ∃ t,u=Value.str x t from r);subst e;exact kA P w x t
theorem jt:∀ {ks:List cz} {us:List Value},Vals (ks.map kV) us->ItemsAre (bX P w) ks us
 | [],_,r=>by rw [List.map_nil] at r;cases r;exact .nil
 | k::ks,_,r=>by
  rw [B6] at r
  cases r with
  | cons h t=>exact .cons (jr h) (jt t)
abbrev KT (H:Hp):List (List cz×V)->List (List cz×Addr×Value)->Prop:=Paired fun p q=>p.1=q.1/\H q.2.1=some (.tup (p.1.map kV))/\RelV p.2 q.2.2
variable {xs:List (List cz×Addr×Value)} {kvs:List (List cz×V)} {H:Hp}
theorem KT.val (r:KT H kvs xs) (k:List cz):RelO (cr kvs k) ((atKey xs k).map (·.2)):=by
 induction r with
 | nil=>exact True.intro
 | @cons p q ps qs h t ih=>
  obtain ⟨h1,_,h2⟩:=h
  by_cases e:p.1=k
  ·have e':q.1=k:=h1.symm.trans e
   have b:atKey (q::qs) k=some q.2:=by simp [atKey,Dd,e']
   rw [cb e,b];exact h2
  ·have e':¬ q.1=k:=fun z=>e (h1.trans z)
   have b:atKey (q::qs) k=atKey qs k:=by simp [atKey,Dd,e']
   rw [bR e,b];exact ih
variable {y:V}
theorem KT.repl (r:KT H kvs xs) (k:List cz) (ry:RelV y u) :
  KT H (kvs.map fun kv=>if kv.1=k then (kv.1,y) else kv) (xs.map (putAt k u)):=by
 induction r with
 | nil=>exact .nil
 | @cons p q ps qs h t ih=>
  rw [B6,B6]
  refine .cons ?_ ih
  obtain ⟨h1,h2,h3⟩:=h
  unfold putAt
  by_cases e:p.1=k
  ·rw [if_pos e,if_pos (h1.symm.trans e)];exact ⟨h1,h2,ry⟩
  ·rw [if_neg e,if_neg (fun z=>e (h1.trans z))];exact ⟨h1,h2,h3⟩
theorem KT.put (r:KT H kvs xs) (k:List cz) {b:Addr} (hb:H b=some (.tup (k.map kV))) (ry:RelV y u) :
  KT H (cS kvs k y) (storedH xs k b u):=by
 have e:(kvs.any fun kv=>decide (kv.1=k))=(atKey xs k).isSome:=by
  rw [ed,(r.val k).isSome_eq,Option.isSome_map]
 unfold cS storedH
 rw [e]
 by_cases q:(atKey xs k).isSome=true
 ·rw [if_pos q,if_pos q];exact r.repl k ry
 ·rw [if_neg q,if_neg q];exact Paired.snoc r ⟨rfl,hb,ry⟩
theorem KT.keeps {H H':Hp} (r:KT H kvs xs) (ht:∀ b ys,H b=some (.tup ys)->H' b=some (.tup ys)):KT H' kvs xs:=
 Paired.mapP r fun _ _ z=>⟨z.1,ht _ _ z.2.1,z.2.2⟩
section
variable {P:Program} {w:World} {H:Hp} {h:Heap} {a:Addr}
theorem vL {u:HO} (ok:HOk P w H h) (e:Rd H a u):ObjOk P w H h a u:=e.ok ok
theorem kU {kvs:List (cz×V)} (ok:HOk P w H h) (e:Rd H a (.dK kvs)):kvs.length<=sizeLine/\(a == sysModules)=false/\∃ vs,KV kvs vs/\h.DictOf (bX P w) a vs:=
 show ObjOk P w H h a (.dK kvs) from vL ok e
theorem qv {kvs:List (cz×V)} (ok:HOk P w H h) (e:H a=some (.dK kvs)):kvs.length<=sizeLine/\(a == sysModules)=false/\∃ vs,KV kvs vs/\h.DictOf (bX P w) a vs:=kU ok (.inl e)
theorem iq {ks:List cz} (ok:HOk P w H h) (e:H a=some (.tup (ks.map kV))):(tupleKind (bX P w)).is h ks a:=by
 obtain ⟨_,its,r,o,h1,h2,n,h3⟩:=(show ObjOk P w H h a (.tup (ks.map kV)) from ok a _ e)
 exact ⟨o,its.toArray,n,h1,(Prod.mk.inj h2).1,h3,by simpa using jt r⟩
theorem kW (ok:HOk P w H h) (e:Rd H a (.dT kvs)):kvs.length<=sizeLine/\(a == sysModules)=false /\
  ∃ xs,KT H kvs xs/\h.DictOfH (tupleKind (bX P w)) a xs:=by
 obtain ⟨z,y,xs,r,o,es,ep,h1,h2,h3,h4,h5⟩:=(show ObjOk P w H h a (.dT kvs) from vL ok e)
 refine ⟨z,y,xs,r,o,es,ep,h1,h2,h3,h4,fun x hx=>?_,h5⟩
 have all:∀ {l:List (List cz×V)} {m:List (List cz×Addr×Value)},KT H l m->∀ x∈m,(tupleKind (bX P w)).is h x.1 x.2.1:=by
  intro l m q
  induction q with
  | nil=>intro x hx;exact nomatch hx
  | @cons p q ps qs hq t ih=>
   intro x hx
   rcases BW.mp hx with e|hx
   ·subst e
    exact iq ok (by rw [<-hq.1];exact hq.2.1)
   ·exact ih x hx
 exact all r x hx
theorem zD (ok:HOk P w H h) (e:H a=some (.dT kvs)):kvs.length<=sizeLine/\(a == sysModules)=false /\
  ∃ xs,KT H kvs xs/\h.DictOfH (tupleKind (bX P w)) a xs:=kW ok (.inl e)
end
def DGet (H:Hp) (a:Addr) (y:V) (r:Option V):Prop:=
 (∃ kvs k,Rd H a (.dK kvs)/\y=kV k/\r=cr kvs k)\/∃ kvs k b,Rd H a (.dT kvs)/\y=.ref b/\H b=some (.tup (k.map kV))/\r=cr kvs k
def DPut (H:Hp) (a:Addr) (y v:V) (H':Hp):Prop:=
 (∃ kvs k,H a=some (.dK kvs)/\y=kV k/\kvs.length < sizeLine/\H'=aC H a (.dK (cS kvs k v))) ∨
 ∃ kvs k b,H a=some (.dT kvs)/\y=.ref b/\H b=some (.tup (k.map kV))/\kvs.length < sizeLine/\H'=aC H a (.dT (cS kvs k v))
variable {a:Addr}
theorem DGet.k {kvs:List (cz×V)} {k:cz} (e:H a=some (.dK kvs)):DGet H a (kV k) (cr kvs k):=.inl ⟨kvs,k,.inl e,rfl,rfl⟩
theorem DPut.k {kvs:List (cz×V)} {k:cz} {v:V} (e:H a=some (.dK kvs)) (hl:kvs.length < sizeLine):DPut H a (kV k) v (aC H a (.dK (cS kvs k v))):=.inl ⟨kvs,k,e,rfl,hl,rfl⟩
section
variable {X:Cx} {pins:List (Addr×Obj)} {σ:St} {H:Hp} {s:Shared} {a:Addr} {y v:V} {u r:Value} {o:Option V} {A:Around} {E:Value->Shared->Prop}
theorem Inv.big (I:Inv X pins σ H s):sysModules < s.heap.objs.size:=by
 have h:mainGlobals < s.heap.objs.size:=(I.mod.glob.keeps I.bk).lt
 exact Nat.lt_trans (by decide) h
variable {Q:Value->Shared->Prop}
theorem o3 (hu:A.units+1 < cLine) (I:Inv X pins σ H s) (g:DGet H a y (some v)) (ry:RelV y u) (h:∀ w' s',Inv X pins σ H s'->RelV v w'->Q w' s') :
  wpAny (model X.prog X.w) A (getItem (.ref a) u) Q E s:=by
 rcases g with ⟨kvs,k,e,ey,l⟩|⟨kvs,k,b,e,ey,eb,l⟩
 ·subst ey
  obtain ⟨z,hd,vs,rel,dd⟩:=kU I.hok e
  obtain ⟨w',hw,rw'⟩:=RelO.some_of (v:=v) (o:=valueAt vs k) (by rw [l];exact rel.val k)
  exact wpAny_getItem_of (jr ry) dd.mapOf hw (h w' _ (I.tok _) rw')
 ·subst ey
  cases (show u=Value.ref b from ry)
  obtain ⟨z,hd,xs,rel,dd⟩:=kW I.hok e
  obtain ⟨w',hw,rw'⟩:=RelO.some_of (v:=v) (o:=(atKey xs k).map (·.2)) (by rw [l];exact rel.val k)
  obtain ⟨p,hp,hp2⟩:=Option.map_eq_some_iff.mp hw
  refine wpAny_getItem_heap (tupleKind_room_in1 hu) (iq I.hok eb) dd hp ?_
  rw [hp2]
  exact h w' _ (I.tok _) rw'
theorem AX (hu:A.units+1 < cLine) (I:Inv X pins σ H s) (g:DGet H a y o) (ry:RelV y u) (h:∀ s',Inv X pins σ H s'->Q (.bool o.isSome) s') :
  wpAny (model X.prog X.w) A (compareOp .In u (.ref a)) Q E s:=by
 rcases g with ⟨kvs,k,e,ey,l⟩|⟨kvs,k,b,e,ey,eb,l⟩
 ·subst ey
  obtain ⟨z,hd,vs,rel,dd⟩:=kU I.hok e
  refine wpAny_in_of (jr ry) hd dd.mapOf ?_
  rw [<-(rel.val k).isSome_eq,<-l]
  exact h _ (I.tok _)
 ·subst ey
  cases (show u=Value.ref b from ry)
  obtain ⟨z,hd,xs,rel,dd⟩:=kW I.hok e
  refine wpAny_in_heap (tupleKind_room_in1 hu) (iq I.hok eb) hd dd ?_
  have q:=(rel.val k).isSome_eq
  rw [Option.isSome_map] at q
  rw [<-q,<-l]
  exact h _ (I.tok _)
theorem ud (hu:A.units+1 < cLine) (I:Inv X pins σ H s) (g:DGet H a y o) (ry:RelV y u) (h:∀ s',Inv X pins σ H s'->Q (.bool (!o.isSome)) s') :
  wpAny (model X.prog X.w) A (compareOp .NotIn u (.ref a)) Q E s:=by
 rcases g with ⟨kvs,k,e,ey,l⟩|⟨kvs,k,b,e,ey,eb,l⟩
 ·subst ey
  obtain ⟨z,hd,vs,rel,dd⟩:=kU I.hok e
  refine wpAny_notIn_of (jr ry) hd dd.mapOf ?_
  rw [<-(rel.val k).isSome_eq,<-l]
  exact h _ (I.tok _)
 ·subst ey
  cases (show u=Value.ref b from ry)
  obtain ⟨z,hd,xs,rel,dd⟩:=kW I.hok e
  refine wpAny_notIn_heap (tupleKind_room_in1 hu) (iq I.hok eb) hd dd ?_
  have q:=(rel.val k).isSome_eq
  rw [Option.isSome_map] at q
  rw [<-q,<-l]
  exact h _ (I.tok _)
theorem jN {h':Heap} {t':Nat} {ob:HO} (I:Inv X pins σ H s) (mu:y6 (H a)) (hs:Heap.SameBut a s.heap h') (he:∃ q,h'.get? a=some q) (new:ObjOk X.prog X.w (aC H a ob) h' a ob) :
  Inv X pins σ (aC H a ob) { s with heap:=h',toks:=t' }:=
 I.write (x:=a) (e:=a) mu (.inl rfl) (fun b q hb z=>(hs.2 b hb).trans z) he new
theorem mw {H':Hp} {h':Heap} {kvs:List (cz×V)} {vs:List (cz×Value)} (z:kvs.length<=sizeLine) (hd:(a == sysModules)=false) (rel:KV kvs vs) (dd:h'.DictOf (bX P w) a vs) :
  ObjOk P w H' h' a (.dK kvs):=⟨z,hd,vs,rel,dd⟩
theorem o4 {H':Hp} {Q:Unit->Shared->Prop} (hu:A.units+1 < cLine) (I:Inv X pins σ H s) (g:DPut H a y v H') (ry:RelV y u) (rv:RelV v r) (h:∀ s',Inv X pins σ H' s'->Q () s') :
  wpAny (model X.prog X.w) A (setItem (.ref a) u r) Q E s:=by
 rcases g with ⟨kvs,k,e,ey,l,eH⟩|⟨kvs,k,b,e,ey,eb,l,eH⟩
 ·subst ey eH
  obtain ⟨z,hd,vs,rel,dd⟩:=qv I.hok e
  have hz:vs.length<=sizeLine:=by rw [<-rel.length];exact z
  have hl:(cS kvs k v).length<=sizeLine:=by have:=ef kvs k v;lia
  refine wpAny_setItem_pairs (hsz:=hz) (jr ry) dd fun h' dd' hs=>h _ ?_
  have he:∃ q,h'.get? a=some q:=let ⟨q,_,_,hq,_⟩:=dd';⟨q,hq⟩
  exact jN I (by rw [e];exact True.intro) hs he (mw hl hd (rel.put k rv) dd')
 ·subst ey eH
  cases (show u=Value.ref b from ry)
  obtain ⟨z,hd,xs,rel,dd⟩:=zD I.hok e
  have hz:xs.length<=sizeLine:=by rw [<-Paired.length rel];exact z
  have hl:(cS kvs k v).length<=sizeLine:=by have:=ef kvs k v;lia
  refine wpAny_setItem_heap (hsz:=hz) (tupleKind_room_in1 hu) (iq I.hok eb) dd fun h' dd' hs=>h _ ?_
  obtain ⟨q,es,ep,hq,h2,h3,h4,_,h5⟩:=dd'
  refine jN I (by rw [e];exact True.intro) hs ⟨q,hq⟩ ⟨hl,hd,_,(rel.put k eb rv).keeps fun c ys ec=>?_,q,es,ep,hq,h2,h3,h4,h5⟩
  rw [aw (y4 ec e (fun z=>nomatch z))]
  exact ec
end
def zE (i:Expr):Prop:=∀ ov iv,subscripted i false ov iv=operate [ov,iv] (getItem ov iv)
theorem ue {prog:Program} {w:World} {A:Around} {E:Value->Shared->Prop} {s:Shared} {env:Env} {value slice:Expr} {pos:Pos} {T id:String} {Q:Value->Shared->Prop}
  (hl:typeLookup (.type T) "__getitem__"=pure (some (.builtin id))) (hs:zE slice)
  (h:wpAny (model prog w) A (eval value env) (fun o s₁=>wpAny (model prog w) A (eval slice env) (fun i s₂=>s₂.TypeIs o T/\wpAny (model prog w) A (getItem o i) Q E s₂) E s₁) E s) :
  wpAny (model prog w) A (eval (.Subscript value slice pos) env) Q E s:=by
 refine Subscript_ (wpAny_mono h (fun o s₁ h₁=>wpAny_mono h₁ (fun i s₂ h₂=>?_) fun _ _ x=>x) fun _ _ x=>x)
 obtain ⟨hT,h₂⟩:=h₂
 unfold subscriptTail
 refine wpAny_bind ?_
 rw [getitemInPython_of_ne hT.not_modules]
 refine wpAny_bind (wpAny_specialOf hT hl ?_)
 have fin:wpAny (model prog w) A (subscripted slice false o i) (fun r s₃=>wpAny (model prog w) A (letTemporaryGo value o r >>= fun _=>pure r) Q E s₃) E s₂:=by
  rw [hs o i]
  exact wpAny_operating (wpAny_mono h₂ (fun r s₃ h₃=>wpAny_bind (wpAny_letTemporaryGo (wpAny_pure h₃))) fun _ _ x=>x)
 first
  | exact wpAny_pure (wpAny_bind fin)
  | exact wpAny_bind (wpAny_pure (wpAny_bind fin))
  | exact wpAny_bind fin
variable {σ:St} {X:Cx}
theorem kX {pins:List (Addr×Obj)} {s:Shared} {o:Option V} (I:Inv X pins σ H s) (g:DGet H a y o):s.TypeIs (.ref a) "dict":=by
 rcases g with ⟨kvs,k,e,_,_⟩|⟨kvs,k,b,e,_,_,_⟩
 ·obtain ⟨_,_,vs,_,dd⟩:=kU I.hok e
  exact dd.typeIs
 ·obtain ⟨_,_,xs,_,dd⟩:=kW I.hok e
  exact dd.typeIs
inductive qw (Q:VK) (x:V) (y:V) (H2:Hp):Prop
 | mk (a v:_):x=.ref a->DGet H2 a y (some v)->Q v H2->qw Q x y H2
def zF (td ty:TE):TE:=fun σ H Q=>td σ H fun x H1=>ty σ H1 fun y H2=>qw Q x y H2
inductive vM (Q:VK) (y:V) (x:V) (H2:Hp):Prop
 | mk (a o:_):x=.ref a->DGet H2 a y o->Q (.bl o.isSome) H2->vM Q y x H2
def AY (ty td:TE):TE:=fun σ H Q=>ty σ H fun y H1=>td σ H1 fun x H2=>vM Q y x H2
inductive kY (Q:VK) (y:V) (x:V) (H2:Hp):Prop
 | mk (a o:_):x=.ref a->DGet H2 a y o->Q (.bl (!o.isSome)) H2->kY Q y x H2
def uf (ty td:TE):TE:=fun σ H Q=>ty σ H fun y H1=>td σ H1 fun x H2=>kY Q y x H2
inductive qx (D:Ends) (σ:St) (v:V) (x:V) (y:V) (H3:Hp):Prop
 | mk (a H4:_):x=.ref a->DPut H3 a y v H4->D.nx σ H4->qx D σ v x y H3
def zG (td ty tv:TE):TS:=fun D σ H=>tv σ H fun v H1=>td σ H1 fun x H2=>ty σ H2 fun y H3=>qx D σ v x y H3
section
variable {X:Cx} {o i e value:Expr} {pos pos' tpos:Pos} {td ty tv:TE}
theorem nU (hu:X.A.units+1 < cLine) (ho:PE X o td) (hi:PE X i ty) (hs:zE i):PE X (.Subscript o i pos) (zF td ty):=by
 refine ⟨?_⟩
 intro pins s σ H Q I h
 refine ue PySem.F.slot_dict_getitem.lookup hs (bF (ho pins s σ H _ I h) fun u s1 ⟨x,H1,I1,rx,q1⟩=>bF (hi pins s1 σ H1 _ I1 q1) fun iv s2 ⟨y,H2,I2,ry,a,v,ex,g,q2⟩=>?_)
 subst ex
 obtain rfl:u=Value.ref a:=rx
 exact ⟨kX I2 g,o3 hu I2 g ry fun w' s3 I3 rw'=>⟨v,H2,I3,rw',q2⟩⟩
theorem qy (hu:X.A.units+1 < cLine) (hi:PE X i ty) (ho:PE X o td):PC X .In i o (AY ty td):=by
 intro pins s σ H Q I h
 refine bF (hi pins s σ H _ I h) fun iv s1 ⟨y,H1,I1,ry,q1⟩=>bF (ho pins s1 σ H1 _ I1 q1) fun u s2 ⟨x,H2,I2,rx,a,ov,ex,g,q2⟩=>?_
 subst ex
 obtain rfl:u=Value.ref a:=rx
 exact AX hu I2 g ry fun s3 I3=>⟨.bl ov.isSome,H2,I3,rfl,q2⟩
theorem o5 (hu:X.A.units+1 < cLine) (hi:PE X i ty) (ho:PE X o td):PC X .NotIn i o (uf ty td):=by
 intro pins s σ H Q I h
 refine bF (hi pins s σ H _ I h) fun iv s1 ⟨y,H1,I1,ry,q1⟩=>bF (ho pins s1 σ H1 _ I1 q1) fun u s2 ⟨x,H2,I2,rx,a,ov,ex,g,q2⟩=>?_
 subst ex
 obtain rfl:u=Value.ref a:=rx
 exact ud hu I2 g ry fun s3 I3=>⟨.bl (!ov.isSome),H2,I3,rfl,q2⟩
theorem nV (hu:X.A.units+1 < cLine) (ho:PE X o td) (hi:PE X i ty) (hv:PE X value tv) (hs:swapsWith value (some (.Subscript o i pos')) pos.line X.env=pure false) :
  PS X (.Assign [.Subscript o i pos'] value pos) (zG td ty tv):=by
 refine ⟨?_⟩
 intro pins s σ H D I h
 refine wpAny_Assign_Subscript (bF (hv pins s σ H _ I h) fun r s1 ⟨v,H1,I1,rv,q1⟩=>bF (ho pins s1 σ H1 _ I1 q1) fun u s2 ⟨x,H2,I2,rx,q2⟩=>bF (hi pins s2 σ H2 _ I2 q2) fun iv s3 ⟨y,H3,I3,ry,a,H4,ex,g,q3⟩=>?_) hs
 subst ex
 obtain rfl:u=Value.ref a:=rx
 exact o4 hu I3 g ry rv fun s4 I4=>⟨σ,H4,I4,q3⟩
end
theorem kZ (h:Heap) (hb:sysModules < h.objs.size):ObjOk P w H (h.push { cls:=.type "dict",data:=.dict #[] }) h.objs.size (.dK []):=
 ⟨Cy _,beq_eq_false_iff_ne.mpr (Ne.symm (Ce hb)),[],.nil,Heap.DictOf.new h⟩
def wR:TE:=fun _ H Q=>∀ p,H p=none->Q (.ref p) (aC H p (.dK []))
section
variable {X:Cx} {pos:Pos}
theorem ir:PE X (.Dict [] [] pos) wR:=⟨fun pins s σ H Q I h=>
 wpAny_Dict_empty ⟨.ref s.heap.objs.size,_,I.laid (a:=s.heap.objs.size) (o:=.dK []) (t':=s.toks) (fun _ _ q=>BM _ q) (BT _) (kZ s.heap I.big),rfl,h _ (I.hok.fresh (BT _))⟩⟩
end
def mx:List (TE×TE)->St->Hp->(List (V×V)->Hp->Prop)->Prop
 | [],_,H,Q=>Q [] H
 | (tk,tv)::r,σ,H,Q=>tk σ H fun x H1=>tv σ H1 fun y H2=>mx r σ H2 fun ps H3=>Q ((x,y)::ps) H3
abbrev VV:List (V×V)->List (Value×Value)->Prop:=Paired fun p q=>RelV p.1 q.1/\RelV p.2 q.2
def Ax (X:Cx) (pos:Pos) (keys:List (Option Expr)) (values:List Expr) (trs:List (TE×TE)):Prop:=
 ∀ (pins:List (Addr×Obj)) (s:Shared) (σ:St) (H:Hp) (Q:List (V×V)->Hp->Prop),Inv X pins σ H s->mx trs σ H Q->
  wpAny (model X.prog X.w) X.A (evalPairs (pairTrees keys values X.env pos)) (fun vs s'=>∃ ps H',Inv X pins σ H' s'/\VV ps vs/\Q ps H') X.xe s
theorem ug {pos:Pos}:Ax X pos [] [] []:=fun pins s σ H Q I h=>pairTrees_nil_walk ⟨[],H,I,.nil,h⟩
variable {trs:List (TE×TE)}
theorem k7 {pos:Pos} {k v:Expr} {ks:List (Option Expr)} {vs:List Expr} {tk tv:TE} (hk:PE X k tk) (hv:PE X v tv) (hr:Ax X pos ks vs trs) :
  Ax X pos (some k::ks) (v::vs) ((tk,tv)::trs):=fun pins s σ H Q I h=>
 pairTrees_cons_walk (bF (hk pins s σ H _ I h) fun u s1 ⟨x,H1,I1,rx,q1⟩=>bF (hv pins s1 σ H1 _ I1 q1) fun w2 s2 ⟨y,H2,I2,ry,q2⟩=>
  bF (hr pins s2 σ H2 _ I2 q2) fun ws s3 ⟨ps,H3,I3,rel,q3⟩=>⟨(x,y)::ps,H3,I3,.cons ⟨rx,ry⟩ rel,q3⟩)
def gD (kvs more:List (cz×V)):List (cz×V):=more.foldl (fun acc kv=>cS acc kv.1 kv.2) kvs
theorem KV.merge:∀ {more:List (cz×V)} {rs:List (cz×Value)} {kvs:List (cz×V)} {vs:List (cz×Value)},KV more rs->KV kvs vs->KV (gD kvs more) (merged vs rs):=by
 intro more rs kvs vs r
 unfold KV at r
 induction r generalizing kvs vs with
 | nil=>intro q;exact q
 | @cons p q ps qs h t ih=>
  intro r0
  have e:KV (cS kvs p.1 p.2) (stored vs q.1 q.2):=by
   have:=r0.put p.1 h.2
   rw [<-h.1];exact this
  exact ih e
theorem fq:∀ (more kvs:List (cz×V)),(gD kvs more).length<=kvs.length+more.length
 | [],kvs=>by show kvs.length<=kvs.length+0;lia
 | p::r,kvs=>by
  have h1:=fq r (cS kvs p.1 p.2)
  have h2:=ef kvs p.1 p.2
  show (gD (cS kvs p.1 p.2) r).length<=_
  rw [BS];lia
theorem iu {P:Program} {w:World}:∀ {kvs:List (cz×V)} {ws:List (Value×Value)},VV (kvs.map fun kv=>(kV kv.1,kv.2)) ws->∃ rs,Carries (bX P w) ws rs/\KV kvs rs
 | [],_,r=>by rw [List.map_nil] at r;cases r;exact ⟨[],True.intro,.nil⟩
 | p::kvs,_,r=>by
  rw [B6] at r
  cases r with
  | @cons a b as bs h t=>
   obtain ⟨rs,c,q⟩:=iu (P:=P) (w:=w) t
   obtain ⟨b1,b2⟩:=b
   exact ⟨(p.1,b2)::rs,⟨jr h.1,rfl,c⟩,.cons ⟨rfl,h.2⟩ q⟩
def zH (trs:List (TE×TE)):TE:=fun σ H Q=>∀ p,H p=none->mx trs σ (aC H p (.dK [])) fun ps H2=>H2 p=some (.dK [])/\∃ kvs:List (cz×V),ps=kvs.map (fun kv=>(kV kv.1,kv.2))/\kvs.length<=15/\Q (.ref p) (aC H2 p (.dK (gD [] kvs)))
theorem uh {pos:Pos} {keys:List (Option Expr)} {values:List Expr} (h:Ax X pos keys values trs) (hall:keys.all (·.isSome)=true) (hl:keys.length=values.length) (h0:keys≠[])
  (h15:keys.length<=15):PE X (.Dict keys values pos) (zH trs):=by
 refine ⟨?_⟩
 intro pins s σ H Q I q
 have hn:=I.hok.fresh (BT s.heap.objs.size)
 have I1:=I.laid (a:=s.heap.objs.size) (o:=.dK []) (h':=s.heap.push { cls:=.type "dict",data:=.dict #[] }) (t':=s.toks) (fun _ _ q=>BM _ q) (BT _) (kZ s.heap I.big)
 refine wpAny_Dict_walk (knd:=bX X.prog X.w) hall hl h0 h15 (bF (h pins _ σ _ _ I1 (q _ hn)) fun ws s2 ⟨ps,H2,I2,rel,e,kvs,ep,lk,q2⟩=>?_)
 subst ep
 obtain ⟨rs,c,rk⟩:=iu (P:=X.prog) (w:=X.w) rel
 obtain ⟨z,hd,vs0,r0,dd⟩:=qv I2.hok e
 cases r0
 refine ⟨rs,c,dd,fun h' dd' hs=>⟨.ref s.heap.objs.size,_,?_,rfl,q2⟩⟩
 have hz:(gD [] kvs).length<=sizeLine:=by
  have h1:=fq kvs []
  rw [Cn] at h1
  rw [sizeLine_eq];lia
 have he:∃ q,h'.get? s.heap.objs.size=some q:=let ⟨q,_,_,hq,_⟩:=dd';⟨q,hq⟩
 exact jN I2 (by rw [e];exact True.intro) hs he (mw hz hd (rk.merge .nil) dd')
def AZ (P:St->Hp->Prop) (t u:TS):TS:=fun D σ H=>(∀ σ' H',P σ' H'->u D σ' H')/\t { D with nx:=P } σ H
theorem cF {st:Stmt} {rest:List Stmt} {t u:TS} (P:St->Hp->Prop) (h1:PS X st t) (h2:PSs X rest u):PSs X (st::rest) (AZ P t u):=by
 refine ⟨?_⟩
 intro pins s σ H D I h
 refine wpAny_execs_cons (bF (h1 pins s σ H { D with nx:=P } I h.2) fun f s1 q=>?_)
 cases f with
 | next=>
  obtain ⟨σ',H',I',q⟩:=q
  exact h2 pins s1 σ' H' D I' (h.1 _ _ q)
 | ret v=>exact q
 | brk=>exact q
 | cont=>exact q
theorem gE {K:ZF} {a:Addr} {xs:List V} {g:TG} {tf:TT} {te:TE} {ix:List (Option Nat)} {σ:St} {Q:VK} (Pv:Nat->List V->Hp->Prop) (h0:Pv 0 [] H)
  (hl:∀ i ys H,i<=xs.length->Pv i ys H->SqT K H a xs/\ys.length<=sizeLine)
  (hs:∀ i x ys H,xs[i]?=some x->Pv i ys H->g x (ky ix σ) H fun σ2 H2=>ExtL (ky ix σ) σ2/\tf σ2 H2 fun b H3=>if b=true then te σ2 H3 fun y H4=>Nx Pv xs.length i (ys++[y]) H4 else Nx Pv xs.length i ys H3)
  (hd:∀ ys H,Pv xs.length ys H->∀ D,H D=none->Q (.ref D) (aC H D (.lst ys))) :
  qk (y2 K a) g tf te ix σ H Q:=by
 refine ⟨fun i m ys H=>m=xs.length - i/\i<=xs.length/\Pv i ys H,⟨xs.length,by simp,Cy _,h0⟩,?_⟩
 rintro i m ys H ⟨rfl,hi,p⟩
 obtain ⟨q,hz⟩:=hl i ys H hi p
 by_cases hlt:i < xs.length
 ·refine .inr ⟨⟨xs,xs[i],q,by simp [hlt]⟩,hz,fun x H' y=>?_⟩
  obtain ⟨e,y⟩:=y
  subst e
  exact hs i x ys _ (y xs q) p
 ·have e:i=xs.length:=by lia
  subst e
  exact .inl ⟨⟨xs,q,BT _⟩,hz,hd ys H p⟩
def TupK (H H':Hp):Prop:=∀ a xs,H a=some (.tup xs)->H' a=some (.tup xs)
theorem TupK.trans {H H1 H2:Hp} (a:TupK H H1) (b:TupK H1 H2):TupK H H2:=fun c x e=>b c x (a c x e)
theorem be {H H':Hp} (s:Same H H'):TupK H H':=fun a xs e=>s _ _ e
def Bs (x:Str):Bool:=(PyData.str x).canLay0
section
variable {X:Cx}
inductive nW (X:Cx) (m:Str) (t:TA) (σ:St) (Q:VK) (x:V) (H1:Hp):Prop
 | mk (a dx C f:Addr) (fs:List (Str×V)) (fd:FuncData) (k:Nat) (ps:List Str) (sp:Sp):x=.ref a->H1 a=some (.ins C dx fs)->fs.lookup m=none->Cls X.K C->l0 X.K C m f->FnOk X.prog X.w X.K X.mg X.base bu k f fd ps sp->Room k X.A->Binds X.K fd ps []->(t σ H1 fun vs H2=>sp (.ref a::vs) H2 Q E0)->nW X m t σ Q x H1
def wS (X:Cx) (m:Str) (ta:TE) (t:TA):TE:=fun σ H Q=>ta σ H fun x H1=>nW X m t σ Q x H1
variable {ta:TE} {o e:Expr}
theorem cc {pl:Sem Bool} {es:List Expr} {m:Str} {t:TA} {pos apos:Pos} (he:PE X o ta) (ha:PA X (e::es) t)
  (hst:starEach (e::es) X.env=(false,eval e X.env)::starEach es X.env:=by rfl) (hpl:(backTo pos (starEach es X.env)).any (·.1)=false:=by rfl)
  (ht:eval (.Call (.Attribute o m apos) (e::es) [] pos) X.env=(do
   let ov <-eval o X.env
   standAt apos.atName
   let (f,first) <-holding [ov] (getMethod ov m pl)
   callWith pos f first (backTo pos (starEach (e::es) X.env)) (backToKw pos (keywordEach [] X.env))):=by rfl) :
  PE X (.Call (.Attribute o m apos) (e::es) [] pos) (wS X m ta t):=by
 refine ⟨?_⟩
 intro pins s σ H Q I h
 refine PySem.W.methodCall_KW (pl:=pl) (bF (he pins s σ H _ I h) fun u s1 ⟨x,H1,I1,rx,a,dx,C,f,fs,fd,k,ps,sp,ex,ea,l,c,hm,F,hr,hb,q⟩=>?_) ht
 subst ex
 obtain rfl:u=Value.ref a:=rx
 refine dG I1 ea c hm l ?_
 refine CQ (first:=[.ref a]) (h₀:=X.base) I.ok.mod.kin hm.kp (bF (ha pos pins s1 σ H1 _ I1 q) fun us s2 ⟨vs,H2,I2,r,q2⟩=>⟨I2.kIn,?_⟩) hst hpl
 exact gA (us:=.ref a::us) (vs:=.ref a::vs) (dvs:=[]) (ds:=[]) F hr hb .nil cP I2 (.cons rfl r) (by rw [Cv];exact q2)
inductive lb (X:Cx) (m:Str) (Q:VK) (x:V) (H1:Hp):Prop
 | mk (a dx C f:Addr) (fs:List (Str×V)) (fd:FuncData) (k:Nat) (ps:List Str) (sp:Sp):x=.ref a->H1 a=some (.ins C dx fs)->fs.lookup m=none->Cls X.K C->l0 X.K C m f->FnOk X.prog X.w X.K X.mg X.base bu k f fd ps sp->Room k X.A->Binds X.K fd ps []->sp [.ref a] H1 Q E0->lb X m Q x H1
def ui (X:Cx) (m:Str) (ta:TE):TE:=fun σ H Q=>ta σ H fun x H1=>lb X m Q x H1
theorem br {pl:Sem Bool} {m:Str} {pos apos:Pos} (he:PE X o ta)
  (ht:eval (.Call (.Attribute o m apos) [] [] pos) X.env=(do
   let ov <-eval o X.env
   standAt apos.atName
   let (f,first) <-holding [ov] (getMethod ov m pl)
   callWith pos f first (backTo pos (starEach [] X.env)) (backToKw pos (keywordEach [] X.env))):=by rfl) :
  PE X (.Call (.Attribute o m apos) [] [] pos) (ui X m ta):=by
 refine ⟨?_⟩
 intro pins s σ H Q I h
 refine PySem.W.methodCall_KW (pl:=pl) (bF (he pins s σ H _ I h) fun u s1 ⟨x,H1,I1,rx,a,dx,C,f,fs,fd,k,ps,sp,ex,ea,l,c,hm,F,hr,hb,q⟩=>?_) ht
 subst ex
 obtain rfl:u=Value.ref a:=rx
 refine dG I1 ea c hm l ?_
 exact PySem.W.callWith_K0 (first:=[.ref a]) I1.kIn hm.kp (gA (us:=[.ref a]) (vs:=[.ref a]) (dvs:=[]) (ds:=[]) F hr hb .nil cP I1 (.cons rfl .nil) q)
end
section
variable {X:Cx}
theorem o6:bootBuiltins "enumerate"=some (.type "enumerate"):=by decide +kernel
end
section
variable {X:Cx}
theorem my:cV X (.type "dict") (fun xs H Q=>∃ (d:Addr) (kvs:List (cz×V)),xs=[.ref d]/\H d=some (.dK kvs)/\∀ a,H a=none->Q (.ref a) (aC H a (.dK kvs))):=by
 intro pins s σ H xs us Q I r h
 obtain ⟨d,kvs,rfl,hd,q⟩:=h
 obtain ⟨u,rfl,rx⟩:=fU r
 cases rx
 obtain ⟨hz,hs,vs,rel,dd⟩:=qv I.hok hd
 refine PySem.kt_call_dict hs dd (by rw [<-rel.length];exact hz) fun h' hd' hsb=>?_
 have hk:∀ b o,s.heap.get? b=some o->h'.get? b=some o:=fun b o e=>hsb.extBut b o (Ce (BP e)) (BM _ e)
 have hbig:=I.big
 have e:s={ s with toks:=s.toks }:=by cases s;rfl
 refine ⟨.ref s.heap.objs.size,_,I.laid (t':=s.toks) (a:=s.heap.objs.size) (o:=.dK kvs) hk (BT _) ?_,rfl,q _ (I.hok.fresh (BT _))⟩
 exact mw hz (by
  have:¬ s.heap.objs.size=sysModules:=Dk hbig
  simpa using this) rel hd'
end
end L2
namespace PySem
open Sem (wp)
def tupIt (l:Addr):Obj:={ cls:=.type "tuple_iterator",data:=.fields #[.ref l,.int 0 0] }
def enumOver (it:Addr):Obj:={ cls:=.type "enumerate",data:=.fields #[.none,.bool false,.ref it,rawInt 0,.none,.none] }
theorem made_enum (l:Addr) (items:Array Value) (n:Nat) (od:Option Addr) (os:Array (Option Value)):Meets (Builtin.«enumerate.__new__» ⟨[.type "enumerate",.ref l],[]⟩) (fun _ R s=>
  s.heap.get? l=some { cls:=.type "tuple",dict:=od,data:=.seq items n,slots:=os }/\R (.ok (.ret (.ref (s.heap.push (tupIt l)).objs.size))) { s with heap:=(s.heap.push (tupIt l)).push (enumOver s.heap.objs.size) }):=
 .of_wp fun prog w A R s both=>by
  rcases s with ⟨hp,gs,dr,tk,sys⟩
  have there:=both.1
  have good:=both.2
  have under:=sub_enumerate
  have isT:hp.IsTuple l items:=⟨_,there,rfl,n,rfl⟩
  wp_walk using wpAny_loadPart' there
  refine wpAny_stack_any fun _=>wpAny_pure ?_
  split
  ·rename_i c _ _ _ _ _
   rcases hb:(c == Value.type "enumerate") with _|_<;>(wp_walk using wpAny_loadPart' there,wpAny_pyIter_tuple isT;exact ⟨_,rfl,good⟩)
  ·(wp_walk using wpAny_loadPart' there,wpAny_pyIter_tuple isT;exact ⟨_,rfl,good⟩)
section
variable {prog:Program} {w:World} {A:Around} {E:Value->Shared->Prop} {s:Shared}
theorem enum_of_tuple {l:Addr} {items:Array Value} {Q:Value->Shared->Prop} (isT:s.heap.IsTuple l items)
  (h:Q (.ref (s.heap.objs.size+1)) { s with heap:=(s.heap.push (tupIt l)).push (enumOver s.heap.objs.size) }):wpAny (model prog w) A (call (.type "enumerate") [.ref l]) Q E s:=by
 obtain ⟨o,there,isC,n,isD⟩:=isT
 cases o with
 | mk oc od odt osl=>
  dsimp only at isC isD
  subst isC isD
  have sz:(s.heap.push (tupIt l)).objs.size=s.heap.objs.size+1:=Dc ..
  have lies:((s.heap.push (tupIt l)).push (enumOver s.heap.objs.size)).get? (s.heap.objs.size+1)=some (enumOver s.heap.objs.size):=sz ▸ B0 (s.heap.push (tupIt l)) rfl
  refine callType_new F.called_enumerate (by decide) (F.typeCall_enumerate_1 _) (F.newCall_enumerate_1 _) (fun x=>F.args_object_init_2 x _) F.entry_enumerate_new (made_enum l items n od osl) ⟨there,?_⟩
  show _/\_
  rw [sz]
  exact ⟨⟨_,lies,rfl⟩,h⟩
end
section
variable {prog:Program} {w:World} {A:Around} {E:Value->Shared->Prop} {s:Shared}
variable {items:Array Value} {i:Nat} {it t:Addr}
theorem nextOf_tuple_item {x:Value} {Q:Value->Shared->Prop} (hit:s.heap.IsTupleIter it t i) (ht:s.heap.IsTuple t items) (hx:items[i]?=some x)
  (hQ:∀ h',h'.IsTupleIter it t (i+1)->Heap.SameBut it s.heap h'->Q x { s with heap:=h' }):wpAny (model prog w) A (Builtin.SmallTypes.nextOf (.ref it)) Q E s:=by
 obtain ⟨o,ho,hc,hd⟩:=id hit
 obtain ⟨ol,hol,_,nl,hdl⟩:=ht
 unfold Builtin.SmallTypes.nextOf
 refine wpAny_bind (wpAny_callSpecial?_slot (name:=Str.ofString "__next__") hit.typeIs F.slot_tuple_iterator_next
  (wpAny_call_entry F.slot_tuple_iterator_next hit.typeIs F.entry_tuple_iterator_next ?_ (F.args_tuple_iterator_next_1 _)))
 show wpAny _ _ (field (.ref it) 0 >>= _) _ _ s
 refine wpAny_bind (wpAny_field ho hd (x:=.ref t) rfl ?_)
 show wpAny _ _ (if (Value.ref t == Value.none)=true then _ else _) _ _ s
 rw [if_neg (show ¬ ((Value.ref t == Value.none)=true) from BY)]
 show wpAny _ _ (field (.ref it) 1 >>= _) _ _ s
 refine wpAny_bind (wpAny_field ho hd (x:=.int i 0) rfl ?_)
 show wpAny _ _ (seqItems? (.ref t) >>= _) _ _ s
 refine wpAny_bind (wpAny_seqItems hol hdl ?_)
 simp only [CV,hx]
 refine wpAny_bind (wpAny_setField ho hd (by simp) (wpAny_pure ⟨x,rfl,wpAny_pure (hQ _ ?_ (Heap.SameBut.update ..))⟩))
 exact ⟨_,Heap.get?_update_self _ ho (Obj.isFreed_of_fields (Obj.data_mapFields hd _)),(Obj.cls_mapFields ..).trans hc,by
  rw [Obj.data_mapFields hd];simp [rawInt]⟩
theorem nextOf_tuple_end {Q:Value->Shared->Prop} (hh:A.handled=none) (hit:s.heap.IsTupleIter it t i) (ht:s.heap.IsTuple t items) (hx:items[i]?=none)
  (hE:∀ h' e,Heap.ExtBut it s.heap h'->(∃ o,h'.get? e=some o/\o.cls=.type "StopIteration")->E (.ref e) { s with heap:=h' }):wpAny (model prog w) A (Builtin.SmallTypes.nextOf (.ref it)) Q E s:=by
 obtain ⟨o,ho,hc,hd⟩:=id hit
 obtain ⟨ol,hol,_,nl,hdl⟩:=ht
 unfold Builtin.SmallTypes.nextOf
 refine wpAny_bind (wpAny_callSpecial?_slot (name:=Str.ofString "__next__") hit.typeIs F.slot_tuple_iterator_next
  (wpAny_call_entry F.slot_tuple_iterator_next hit.typeIs F.entry_tuple_iterator_next ?_ (F.args_tuple_iterator_next_1 _)))
 show wpAny _ _ (field (.ref it) 0 >>= _) _ _ s
 refine wpAny_bind (wpAny_field ho hd (x:=.ref t) rfl ?_)
 show wpAny _ _ (if (Value.ref t == Value.none)=true then _ else _) _ _ s
 rw [if_neg (show ¬ ((Value.ref t == Value.none)=true) from BY)]
 show wpAny _ _ (field (.ref it) 1 >>= _) _ _ s
 refine wpAny_bind (wpAny_field ho hd (x:=.int i 0) rfl ?_)
 show wpAny _ _ (seqItems? (.ref t) >>= _) _ _ s
 refine wpAny_bind (wpAny_seqItems hol hdl ?_)
 simp only [CV,hx]
 refine wpAny_bind (wpAny_rule (wpAny_bind (wpAny_setField ho hd (by simp) ?_)))
 show wpAny _ _ (newExc (.type "StopIteration") [] >>= _) _ _ _
 refine wpAny_bind ?_
 simp only [newExc,newTuple]
 refine wpAny_bind (wpAny_newObj_type ?_ (by size_fits))
 refine wpAny_bind (m:=firstArgMember _ _) (wpAny_of_eq (a:=Value.none) (by first|rfl|(simp only [firstArgMember];rfl)) ?_)
 refine wpAny_newObj_type ?_ (by size_fits)
 simp only [raiseNew]
 refine wpAny_bind (wpAny_handled ?_)
 first|rw [show A.in1.handled=none from hh]|rw [hh]
 refine wpAny_bind (wpAny_pure (wpAny_throw ?_))
 exact hE _ _ (((Heap.SameBut.update ..).extBut.push _).push _) ⟨_,B0 _ rfl,rfl⟩
end
theorem drawsTuple {prog:Program} {w:World} {A:Around} (hh:A.handled=none) (it l:Addr) (hne:l≠it) (items:Array Value) :
  Draws prog w A it [it,l] items.size (fun i v=>items[i]?=some v) (fun i h=>h.IsTupleIter it l i/\h.IsTuple l items) where
 live:=fun _ _ st=>let ⟨o,ho,_⟩:=st.1;⟨o,ho⟩
 frame:=fun _ _ _ st hk=>⟨let ⟨o,ho,r⟩:=st.1;⟨o,hk it (by simp) o ho,r⟩,let ⟨o,ho,r⟩:=st.2;⟨o,hk l (by simp) o ho,r⟩⟩
 item:=fun i s Q E hi st hQ=>by
  refine nextOf_tuple_item st.1 st.2 (x:=items[i]) (by simp [hi]) fun h' hit' hs'=>?_
  exact hQ _ h' s.toks (by simp [hi]) ⟨hit',st.2.extBut hs'.extBut hne⟩ hs'
 done:=fun s Q E st hE=>nextOf_tuple_end hh st.1 st.2 (by simp) hE
end PySem
namespace L2
open PySem PySem.Spec PyProof.Rows
variable {i:Nat} {it l:Addr} {h h':Heap}
theorem zI (a:h.IsTupleIter it l i) (k:∀ o,h.get? it=some o->h'.get? it=some o):h'.IsTupleIter it l i:=let ⟨o,b,c⟩:=a;⟨o,k o b,c⟩
variable {items:Array Value}
theorem vN (t:h.IsTuple l items) (a:h.IsTupleIter it l i):l≠it:=by
 rintro rfl
 obtain ⟨o,x,c,_⟩:=t
 obtain ⟨o',x',c',_⟩:=a
 rw [x] at x'
 cases x'
 rw [c] at c'
 injection c' with z
 exact absurd z (by decide)
variable {e:Addr}
theorem o7 {prog:Program} {w:World} {A:Around} {E:Value->Shared->Prop} {s:Shared} {old:Value} {Q:Option Value->Shared->Prop} (hh:A.handled=none) (he:IsEnum s.heap e it i old) (h1:s.heap.IsTupleIter it l i) (isT:s.heap.IsTuple l items) (hi:items.size<=i)
  (hQ:∀ h',Heap.ExtBut it s.heap h'->Q none { s with heap:=h' }):wpAny (model prog w) A (pyNext (.ref e)) Q E s:=by
 have hT:s.TypeIs (.ref e) "enumerate":=⟨_,he,rfl⟩
 unfold pyNext
 refine wpAny_bind (wpAny_attempt (wpAny_callSpecial?_slot (name:=Str.ofString "__next__") hT PySem.F.slot_enumerate_next (wpAny_call_entry PySem.F.slot_enumerate_next hT PySem.F.entry_enumerate_next ?_ (PySem.F.args_enumerate_next_1 _))))
 show wpAny _ _ (field (.ref e) 2 >>= _) _ _ _
 refine wpAny_bind (wpAny_field he rfl (x:=.ref it) rfl ?_)
 refine wpAny_bind (PySem.nextOf_tuple_end hh h1 isT (Array.getElem?_eq_none hi) fun h' x he' hx'=>?_)
 obtain ⟨o,ho,hc⟩:=hx'
 refine wpAny_bind (wpAny_isInstance (T:="StopIteration") (b:=true) ⟨o,ho,hc⟩ isSubtype_stop ?_)
 exact wpAny_pure (hQ _ he')
def qz (K:ZF) (l:Addr):It:=
 ⟨fun i H=>∃ xs x,SqT K H l xs/\xs[i]?=some x,
  fun i H v H'=>∃ T x,v=.ref T/\H T=none/\H'=aC H T (.tup [.int i,x])/\∀ xs,SqT K H l xs->xs[i]?=some x,
  fun i H=>∃ xs,SqT K H l xs/\xs.length<=i⟩
theorem mz {P:Program} {w:World} {K:ZF} {elts:List Expr} {kt:Nat} {tp:Pos} {e it l:Addr} (hne:e≠it) :
  lV P w K (.Tuple elts kt tp) (qz K l) [e,it] e (fun i h=>(∃ old,IsEnum h e it i old)/\h.IsTupleIter it l i) where
 mem:=by simp
 obj:=fun i h st b hb=>by
  obtain ⟨⟨old,he⟩,⟨o1,h1,_,d1⟩⟩:=st
  simp at hb
  rcases hb with rfl|rfl
  ·exact ⟨_,he,fun v q=>by cases q⟩
  ·exact ⟨_,h1,fun v q=>by rw [d1] at q;cases q⟩
 keep:=fun i h h' st k=>by
  obtain ⟨⟨old,he⟩,h1⟩:=st
  exact ⟨⟨old,k e (by simp) _ he⟩,zI h1 fun o q=>k it (by simp) o q⟩
 item:=by
  intro X hP hw hK hc i pins s σ H E I hf st hg
  subst hP hw hK
  obtain ⟨xs,x,hx,ex⟩:=hg
  obtain ⟨⟨old,he⟩,h1⟩:=st
  obtain ⟨its1,rv1,p1,z1⟩:=I.tuple hx
  obtain ⟨u1,eu1,ru1⟩:=rv1.get ex
  have isT:s.heap.IsTuple l its1.toArray:=let ⟨o,a,b,n,c⟩:=p1;⟨o,a,b,n,c⟩
  have nl:l≠it:=vN isT h1
  have ne2:e∉[it,l]:=by
   intro m
   simp only [BW,Ch,or_false] at m
   rcases m with m|m
   ·exact hne m
   ·subst m
    obtain ⟨o,a,b,_⟩:=isT
    rw [show s.heap.get? e=_ from he] at a
    cases a
    injection b with z
    exact absurd z (by decide)
  have hlt:i < its1.toArray.size:=by
   have:=(BL.mp eu1).1
   simpa using this
  refine wpAny_pyNext_enum_itemD (PySem.drawsTuple (A:=X.A.in1) (show X.A.in1.handled=none from I.ok.hd hc) it l nl its1.toArray) he ⟨h1,isT⟩ hlt hne ne2 fun v h' tk px a1 a2' a3 a4 a5=>⟨_,rfl,?_⟩
  have evu:v=u1:=by
   have e2:its1.toArray[i]?=some u1:=by simpa using eu1
   rw [e2] at px
   exact (Cf px).symm
  subst evu
  have a2:=a2'.1
  refine wpAny_letOwnedTupleGo_enum a1 fun h'' b1 b2=>?_
  have hT:H s.heap.objs.size=none:=I.hok.fresh (BT _)
  have low:∀ b o,s.heap.get? b=some o->b≠s.heap.objs.size:=fun b o q=>Ce (BP q)
  refine ⟨.ref s.heap.objs.size,aC H s.heap.objs.size (.tup [.int i,x]),?_,rfl,⟨s.heap.objs.size,x,rfl,hT,rfl,fun xs' h=>by rw [I.tuple_inj h hx];exact ex⟩,?_,fun b hb=>?_⟩
  ·show Inv X pins σ (aC H s.heap.objs.size (.tup [.int i,x])) { s with heap:=h'',toks:=tk+1 }
   refine Inv.turnedS (s:=s) (h':=h'') (t':=tk+1) (ch:=[e,it]) I (fun b hb=>hf b hb) (fun b o hc q=>?_) (fun b o q=>by rw [aw (aU q hT)];exact q) (fun b hb n=>by rw [aw (Ce hb)];exact n) fun b o n q=>?_
   ·simp at hc
    exact b2.extBut b o hc.1 (a5 b o hc.1 hc.2 q)
   ·by_cases eb:b=s.heap.objs.size
    ·subst eb
     rw [ad] at q
     cases q
     refine ⟨bh,[.int i tk,v],.cons ⟨_,rfl⟩ (.cons ru1 .nil),_,b2.extBut _ _ ?_ a3,rfl,_,rfl⟩
     exact fun z=>low e _ he z.symm
    ·rw [aw eb,n] at q
     cases q
  ·refine ⟨⟨_,b1⟩,zI a2 fun o q=>b2.extBut _ o hne.symm q⟩
  ·have n:=(hf b hb).1
   have:b≠s.heap.objs.size:=by
    simp at hb
    obtain ⟨_,q1,_⟩:=id h1
    rcases hb with rfl|rfl
    ·exact low _ _ he
    ·exact low _ _ q1
   rw [aw this]
   exact n
 done:=by
  intro X hP hw hK hc i pins s σ H E I hf st hg
  subst hP hw hK
  obtain ⟨xs,hx,hl⟩:=hg
  obtain ⟨⟨old,he⟩,h1⟩:=st
  obtain ⟨its1,rv1,p1,z1⟩:=I.tuple hx
  have e1:=rv1.length
  have isT:s.heap.IsTuple l its1.toArray:=let ⟨o,a,b,n,c⟩:=p1;⟨o,a,b,n,c⟩
  have nl:l≠it:=vN isT h1
  refine o7 (I.ok.hd hc) he h1 isT (by simp;lia) fun h' k=>⟨rfl,?_⟩
  obtain ⟨f0,f1,f2,f3,f4,f5⟩:=hf it (by simp)
  exact I.turned (t':=s.toks) (fun b o hb q=>k b o hb q) f0 f1 f3 f4 f5
 self:=fun _ _ _ _ _ st h=>wpAny_pyIter_enum st.1.choose_spec h
section
variable {X:Cx}
inductive nX (K:ZF) (R:It->Hp->Prop) (vs:List V) (H1:Hp):Prop
 | mk (l:_):vs=[.ref l]->(∃ xs,SqT K H1 l xs)->R (qz K l) H1->nX K R vs H1
def wT (K:ZF) (ta:TA):TI:=fun σ H R=>ta σ H fun vs H1=>nX K R vs H1
theorem iw {elts:List Expr} {kt:Nat} {tp:Pos} {a:Expr} {ta:TA} {p pos:Pos} (hg:Gl X "enumerate") (hm:X.mg "enumerate"=none) (ha:PA X [a] ta) (hs:starEach [a] X.env=[(false,eval a X.env)]:=by rfl) :
  PI X (.Tuple elts kt tp) (.Call (.Name "enumerate" p) [a] [] pos) (wT X.K ta):=by
 refine ⟨?_⟩
 intro pins s σ H R I h
 refine Call_ (dS I hg hm o6 (CD (bF (ha pos pins s σ H _ I h) fun us s1 ⟨vs,H1,I1,r1,q1⟩=>?_) hs rfl))
 obtain ⟨l,e,⟨xs,hx⟩,q⟩:=q1
 subst e
 cases r1 with
 | cons r rr=>
  cases rr
  cases r
  obtain ⟨its1,rv1,p1,z1⟩:=I1.tuple hx
  have isT:s1.heap.IsTuple l its1.toArray:=let ⟨o,a,b,n,c⟩:=p1;⟨o,a,b,n,c⟩
  refine PySem.enum_of_tuple isT ?_
  have sz:(s1.heap.push (PySem.tupIt l)).objs.size=s1.heap.objs.size+1:=Dc ..
  have a1:IsEnum ((s1.heap.push (PySem.tupIt l)).push (PySem.enumOver s1.heap.objs.size)) (s1.heap.objs.size+1) s1.heap.objs.size 0 .none:=sz ▸ B0 (s1.heap.push (PySem.tupIt l)) rfl
  have a2:((s1.heap.push (PySem.tupIt l)).push (PySem.enumOver s1.heap.objs.size)).IsTupleIter s1.heap.objs.size l 0:=⟨_,BM _ (B0 _ rfl),rfl,rfl⟩
  have a4:∀ b o,s1.heap.get? b=some o->((s1.heap.push (PySem.tupIt l)).push (PySem.enumOver s1.heap.objs.size)).get? b=some o:=fun b o x=>BM _ (BM _ x)
  refine wpAny_pyIter_enum a1 ?_
  refine ⟨_,[s1.heap.objs.size+1,s1.heap.objs.size],_,_,H1,rfl,I1.kept (t':=s1.toks) a4,mz (Dk (Dl _)),⟨⟨_,a1⟩,a2⟩,fun b hb=>?_,q⟩
  have hb':s1.heap.objs.size<=b:=by
   simp only [BW,Ch,or_false] at hb
   rcases hb with e|e<;>rw [e]
   ·exact Nat.le_add_right _ _
   ·exact BT _
  exact I1.fpOk hb' (I1.hok.fresh hb')
end
theorem gF {K:ZF} {xs:List V} {g:TG} {tb:TS} {D:Ends} {σ:St} {H:Hp} (Pv:Nat->St->Hp->Prop) (h0:Pv 0 σ H) (hl:∀ i σ H,i<=xs.length->Pv i σ H->SqT K H l xs)
  (hs:∀ i x σ H T,xs[i]?=some x->H T=none->Pv i σ H->g (.ref T) σ (aC H T (.tup [.int i,x])) fun σ2 H2=>tb { D with nx:=Pv (i+1),ct:=Pv (i+1),bk:=D.nx } σ2 H2) (hd:∀ σ H,Pv xs.length σ H->D.nx σ H) :
  ∃ W:Nat->Nat->St->Hp->Prop,(∃ m,W 0 m σ H)/\∀ i m σ H,W i m σ H->
   ((qz K l).stop i H/\D.nx σ H)\/((qz K l).go i H/\∃ N:St->Hp->Prop,(∀ σ' H',N σ' H'->∃ m',m' < m/\W (i+1) m' σ' H')/\∀ x H',(qz K l).yld i H x H'->g x σ H' fun σ2 H2=>tb { D with nx:=N,ct:=N,bk:=D.nx } σ2 H2):=by
 refine ⟨fun i m σ H=>m=xs.length - i/\i<=xs.length/\Pv i σ H,⟨xs.length,by simp,Cy _,h0⟩,?_⟩
 rintro i m σ H ⟨rfl,hi,p⟩
 have q:=hl i σ H hi p
 by_cases hlt:i < xs.length
 ·refine .inr ⟨⟨xs,xs[i],q,by simp [hlt]⟩,Pv (i+1),fun σ' H' p'=>⟨xs.length - (i+1),by lia,rfl,hlt,p'⟩,fun v H' y=>?_⟩
  obtain ⟨T,x,e1,hT,e2,hy⟩:=y
  subst e1 e2
  exact hs i x σ H T (hy xs q) hT p
 ·have e:i=xs.length:=by lia
  subst e
  exact .inl ⟨⟨xs,q,BT _⟩,hd σ H p⟩
end L2
namespace PySem
open Sem (wp)
section
open PySem.SeqAt
open PySem.AutoSeq1 (wpAny_loadPart')
open PySem.MeetsSeq PySem.MeetsSeq2 PySem.MeetsSeq3
theorem wpAny_forIn_rng {M:Model} {A:Around} {E:Value->Shared->Prop} {s:Shared} {β:Type} (f:Nat->β->Sem (ForInStep β)) (I:List Nat->β->Shared->Prop) (Q:β->Shared->Prop)
  (turn:∀ (x:Nat) (rest:List Nat) (b:β) (s:Shared),I (x::rest) b s->wpAny M A (f x b) (fun r s'=>match r with|.yield b'=>I rest b' s'|.done b'=>Q b' s') E s)
  (fin:∀ (b:β) (s:Shared),I [] b s->Q b s) (r:Std.Legacy.Range) (b:β) (h:I (List.range' r.start r.size r.step) b s):wpAny M A (forIn r b f) Q E s:=by
 rw [Std.Legacy.Range.forIn_eq_forIn_range']
 exact wpAny_forIn_list f I Q turn fin _ b h
theorem tuple_indexAt (l:Addr) (items:Array Value) (n:Nat) (dd:Option Addr) (sl:Array (Option Value)) (x:Value) (e:Value->Bool) (j:Nat) (hj:j < items.size) (he:e items[j]=true) (hn:∀ (m:Nat) (hm:m < items.size),m < j->e items[m]=false) :
  Meets (Builtin.«tuple.index» ⟨[.ref l,x],[]⟩) (fun A R s=>s.heap.get? l=some { cls:=.type "tuple",dict:=dd,data:=.seq items n,slots:=sl }/\(∀ y∈items,EqAt A.in1 s y x (e y))/\∀ t k,R (.ok (.ret (.int j t))) { s with toks:=k }):=
 .of_wp fun prog w A R s h=>by
  obtain ⟨hp,g,d,tk,os⟩:=s;obtain ⟨hl,hb,h⟩:=h
  wp_walk using wpAny_loadPart' hl,wpAny_forIn_rng _ (fun rest b s'=>b.1=none/\s'=⟨hp,g,d,tk,os⟩/\∃ k,rest=List.range' k (items.size - k)/\k<=j) _
  case turn=>
   rintro i rest b s' ⟨hb',rfl,k,hr,hk⟩
   have hz:items.size - k=(items.size - (k+1))+1:=by lia
   rw [hz,List.range'_succ] at hr
   injection hr with h1 h2
   subst h1
   have hki:i < items.size:=by lia
   have hg:items[i]?=some items[i]:=by simp [hki]
   rw [hg]
   have hq:=hb items[i] (by simp)
   refine wpAny_bind (hq prog w _ _ ?_)
   by_cases hij:i=j
   ·subst hij
    rw [he]
    wp_walk
    exact ⟨_,rfl,h _ _⟩
   ·rw [hn i hki (by lia)]
    wp_walk
    exact ⟨rfl,rfl,i+1,h2,by lia⟩
  case fin=>
   rintro b s' ⟨hb',rfl,k,hr,hk⟩
   have hz:items.size - k=(items.size - (k+1))+1:=by lia
   rw [hz,List.range'_succ] at hr
   cases hr
  case h=>
   refine ⟨rfl,rfl,0,?_,Cy _⟩
   simp [Std.Legacy.Range.size]
end
end PySem
namespace L2
open PySem PySem.Spec PyProof.Rows
section
variable {X:Cx}
theorem ld:Au X "tuple.index" (fun x xs H Q=>∃ (p:Addr) (zs:List Str) (z:Str) (j:Nat),x=.ref p/\xs=[.str z]/\SqT X.K H p (zs.map V.str)/\zs[j]?=some z/\(∀ m,m < j->zs[m]?≠some z)/\Q (.int (j:Nat)) H):=by
 intro pins s σ H x xs v us Q I rx rv h
 obtain ⟨p,zs,z,j,rfl,rfl,hS,hj,hn,q⟩:=h
 cases rx
 obtain ⟨u,rfl,ru⟩:=rv.one
 obtain ⟨its,r,pl,hz⟩:=I.tuple hS
 have hfl:(zs.map V.str).all cO=true:=by
  rw [Df]
  exact CA.mpr fun _ _=>rfl
 have hlen:=r.length
 rw [BJ] at hlen
 have hjl:j < zs.length:=(BL.mp hj).1
 have ev:∀ m (hm:m < its.toArray.size),kI (.str z) its.toArray[m]=decide (zs[m]?=some z):=fun m hm=>by
  have hm':m < zs.length:=by rw [hlen];simpa using hm
  obtain ⟨w,ew,rw'⟩:=r.get (i:=m) (x:=.str zs[m]) (by simp [hm'])
  have e2:its.toArray[m]=w:=by
   have:=(BL.mp ew).2
   simpa using this
  rw [e2,mm rw' rfl,BZ hm']
  show mj (.str zs[m]) (.str z)=_
  by_cases hh:zs[m]=z
  ·simp [hh,mj]
  ·simp [hh,mj]
 obtain ⟨o,there,isC,n,isD⟩:=pl
 cases o with
 | mk oc od odt osl=>
  dsimp only at isC isD
  subst isC isD
  refine call_meets F.slot_tuple_index ⟨_,there,rfl⟩ F.entry_tuple_index (F.args_tuple_index_2 _ _) (tuple_indexAt p its.toArray n od osl u (kI (.str z)) j (by simpa [<-hlen] using hjl) ?_ ?_) ⟨there,fun w hw=>dv ru rfl r hfl w (by simpa using hw),fun t k=>⟨.int j,H,I.tok _,⟨t,rfl⟩,q⟩⟩
  ·rw [ev,hj]
   simp
  ·intro m hm hmj
   rw [ev]
   simpa using hn m hmj
end
end L2
namespace PySem
open Sem (wp)
open PySem.Spec PyProof.Rows
end PySem
namespace L2
open PySem PySem.Spec PyProof.Rows
section
variable {X:Cx}
inductive vO (r:V->List V->Hp->VK->Prop) (t:TA) (σ:St) (Q:VK) (x:V) (H1:Hp):Prop
 | mk (p xs:_):x=.ref p->H1 p=some (.tup xs)->(t σ H1 fun xs H2=>r x xs H2 Q)->vO r t σ Q x H1
def A0 (r:V->List V->Hp->VK->Prop) (to:TE) (t:TA):TE:=fun σ H Q=>to σ H fun x H1=>vO r t σ Q x H1
variable {o e:Expr} {es:List Expr} {to:TE} {t:TA} {name:Str} {apos cpos:Pos} {id:String} {r:V->List V->Hp->VK->Prop}
theorem wU (pa:PlainAttrs "tuple") (slot:Slot "tuple" name id) (hty:typeOf (.builtin id)=pure (.type "method_descriptor")) (hm:Au X id r) (ho:PE X o to) (ha:PA X (e::es) t)
  (hbase:attributeBase o name X.env (eval o X.env)=eval o X.env:=by rfl)
  (hfew:((backTo cpos (starEach (e::es) X.env)).all (fun x=>!x.1) && (backToKw cpos (keywordEach [] X.env)).all (fun x=>x.1.isSome)
   && decide ((e::es).length+([]:List Keyword).length+(if ([]:List Keyword).isEmpty then 0 else 1) < 30))=true:=by rfl)
  (hline:(apos.endLine == cpos.line)=true:=by rfl) (hs:starEach (e::es) X.env=(false,eval e X.env)::starEach es X.env:=by rfl) (hplain:(backTo cpos (starEach es X.env)).any (·.1)=false:=by rfl) :
  PE X (.Call (.Attribute o name apos) (e::es) [] cpos) (A0 r to t):=by
 refine ⟨?_⟩
 intro pins s σ H Q I h
 refine wpAny_Call_method_late hbase hfew hline rfl (bF (ho pins s σ H _ I h) fun v s1 ⟨x,H1,I1,r1,p,xs,ex,hp,q1⟩=>?_)
 subst ex
 cases r1
 obtain ⟨_,its,rv,ob,g1,g2,n,g3⟩:=(show ObjOk X.prog X.w H1 s1.heap p (.tup xs) from I1.hok p _ hp)
 have gc:=(Prod.mk.inj g2).1
 have gd:=(Prod.mk.inj g2).2
 refine ⟨"tuple",id,pa,slot,hty,⟨ob,g1,gc⟩,fun a e=>?_,?_⟩
 ·cases e
  exact ⟨ob,g1,gd⟩
 have hA:=ha cpos pins s1 σ H1 _ I1 q1
 rw [hs] at hA ⊢
 refine Calls.callWith_builtin (by show (false || (backTo cpos (starEach es X.env)).any (·.1))=false;rw [hplain]<;>rfl) (Calls.evalArgs_plain ?_)
 exact bF hA fun us s2 ⟨vs,H2,I2,r2,q2⟩=>hm pins s2 σ H2 (.ref p) vs _ us Q I2 rfl r2 q2
end
end L2
namespace L3
open PySem L2
def bH (i:Nat):Stmt:=PySem.Challenge.pw_rowsbeneath_k20_what_fits.main.body.getD i (.Pass ⟨0,0,0,0⟩)
abbrev eU:Stmt:=bH 32
abbrev iy:Stmt:=bH 5
abbrev gi:Stmt:=bH 6
abbrev qA:Stmt:=bH 7
abbrev iz:Stmt:=bH 8
abbrev gG:Stmt:=bH 44
abbrev dM:Stmt:=bH 45
abbrev fB:Stmt:=bH 46
abbrev gH:Stmt:=bH 47
abbrev ei:Stmt:=bH 48
abbrev fC:Stmt:=bH 49
abbrev gI:Stmt:=bH 50
abbrev gJ:Stmt:=bH 53
abbrev iA:Stmt:=bH 55
abbrev dN:Stmt:=bH 103
abbrev iB:Stmt:=bH 104
abbrev fE:Stmt:=bH 105
abbrev er:Stmt:=bH 106
abbrev fF:Stmt:=bH 107
abbrev hX:Stmt:=bH 108
abbrev mC:Stmt:=bH 111
abbrev jO:Stmt:=bH 118
abbrev qB:Stmt:=bH 119
abbrev wW:Stmt:=bH 120
abbrev fG:Stmt:=bH 121
abbrev qC:Stmt:=bH 123
abbrev jP:Stmt:=bH 124
abbrev qD:Stmt:=bH 125
abbrev o8:Stmt:=bH 138
def Fn (P:Program) (w:World) (K:ZF) (mg:Str->Option Value) (base:Heap) (x:Str) (k:Nat) (ps:List Str) (sp:Sp):Prop:=
 ∃ (f:Addr) (fd:FuncData),mg x=some (.ref f)/\PySem.W.keepIn K (.ref f)=true/\Binds K fd ps []/\FnOk P w K mg base bu k f fd ps sp
def Bt (sp:Sp) (t:TA):TE:=fun σ H Q=>t σ H fun vs H1=>sp vs H1 Q E0
variable {sp:Sp} {ps:List Str} {x:Str} {X:Cx}
theorem aq {k:Nat} {p pos:Pos} {e:Expr} {es:List Expr} {t:TA} (h:Fn X.prog X.w X.K X.mg X.base x k ps sp) (hr:Room k X.A) (hg:Gl X x) (ha:PA X (e::es) t) (hdb:(x == ("__debug__":Str))=false:=by decide)
  (he:starEach (e::es) X.env=(false,eval e X.env)::starEach es X.env:=by rfl) (hpl:(backTo pos (starEach es X.env)).any (·.1)=false:=by rfl):PE X (.Call (.Name x p) (e::es) [] pos) (Bt sp t):=by
 obtain ⟨f,fd,hm,hk,hb,F⟩:=h
 refine ⟨?_⟩
 intro pins s σ H Q I q
 have ha':PA X (e::es) t:=ha
 refine tV (dvs:=[]) (E:=E0) F hr hg hm hk hb .nil cP ha' hdb he hpl pins s σ H Q I ?_
 show t σ H fun vs H1=>sp (vs++[]) H1 Q E0
 have e2:(fun vs H1=>sp (vs++[]) H1 Q E0)=fun vs H1=>sp vs H1 Q E0:=by
  funext vs H1
  rw [Cv]
 rw [e2]
 exact q
theorem wX {k:Nat} {p pos:Pos} (h:Fn X.prog X.w X.K X.mg X.base x k [] sp) (hr:Room k X.A) (hg:Gl X x) (hdb:(x == ("__debug__":Str))=false:=by decide):PE X (.Call (.Name x p) [] [] pos) (fun _ H Q=>sp [] H Q E0):=by
 obtain ⟨f,fd,hm,hk,hb,F⟩:=h
 refine ⟨?_⟩
 intro pins s σ H Q I q
 exact qb (dvs:=[]) (E:=E0) F hr hg hm hk hb .nil cP hdb pins s σ H Q I q
variable {o:HO} {p:Addr} {H:Hp}
theorem ae (h:H p=none):Same H (aC H p o):=fun b u e=>by rw [aw (aU e h)];exact e
variable {H2:Hp}
theorem aG (hp:H p=none) (s:Same H H2):Same H (aC H2 p o):=fun b u e=>by rw [aw (aU e hp)];exact s b u e
variable {b:Bool} {A B:Prop}
theorem aP (e:b=false) (h:B):if b=true then A else B:=by rw [e];exact bz h
theorem bj (e:b=true) (h:A):if b=true then A else B:=by rw [e];exact cQ h
theorem gj {l:List Nat} {i:Nat} (h:i < l.length):kG (S l).cps.toList (i:Int)=some l[i]:=aJ (by show l.toArray.toList[i]?=_;simp [h])
theorem zJ:("":Str)=S []:=by decide +kernel
theorem uj (z:Str):z=S z.cps.toList:=by
 show z=⟨z.cps.toList.toArray⟩
 simp
theorem qE (a b:List Nat):S a++S b=S (a++b):=by
 show (⟨(S a).cps++(S b).cps⟩:Str)=⟨(a++b).toArray⟩
 congr 1
 simp [S]
theorem bL:bootBuiltins "isinstance"=some (.builtin "isinstance"):=by decide +kernel
theorem mD:bootBuiltins "list"=some (.type "list"):=by decide +kernel
theorem eV:bootBuiltins "str"=some (.type "str"):=by decide +kernel
theorem fH:bootBuiltins "bool"=some (.type "bool"):=by decide +kernel
theorem bq:bootBuiltins "tuple"=some (.type "tuple"):=by decide +kernel
theorem cZ:bootBuiltins "all"=some (.builtin "all"):=by decide +kernel
structure Bl (mg:Str->Option Value):Prop where
 len:mg "len"=none
 int:mg "int"=none
 max:mg "max"=none
 min:mg "min"=none
 range:mg "range"=none
 isinstance:mg "isinstance"=none
 list:mg "list"=none
 str:mg "str"=none
 bool:mg "bool"=none
 tuple:mg "tuple"=none
 all:mg "all"=none
def qF (x y z:Int):HO:=.lst [.int x,.int y,.int z]
def Strm (H:Hp) (p:Addr):Prop:=∃ x y z:Int,H p=some (qF x y z)
def But (p:Addr) (H H':Hp):Prop:=∀ b o,H b=some o->b≠p->H' b=some o
theorem But.refl (p:Addr) (H:Hp):But p H H:=fun _ _ e _=>e
variable {H1:Hp}
theorem But.trans (a:But p H H1) (b:But p H1 H2):But p H H2:=fun c o e n=>b c o (a c o e n) n
theorem But.same (a:But p H H1) (b:Same H1 H2):But p H H2:=fun c o e n=>b c o (a c o e n)
theorem eB (b:Same H H1):But p H H1:=fun c o e _=>b c o e
theorem Strm.same (a:Strm H p) (b:Same H H1):Strm H1 p:=let ⟨x,y,z,e⟩:=a;⟨x,y,z,b _ _ e⟩
theorem Strm.ne {p q:Addr} (a:Strm H p) (h:H q=none):p≠q:=let ⟨_,_,_,e⟩:=a;aU e h
inductive mE (K:ZF) (vs:List V) (H:Hp) (Q:VK) (Z3:XK):Prop
 | mk (a:Addr) (ns:List Int) (k:Int):vs=[.ref a,.int k]->SqL K H a (ns.map V.int)->0<=k->(∀ c:Int,Q (.int c) H)->mE K vs H Q Z3
inductive iC (vs:List V) (H:Hp) (Q:VK) (Z3:XK):Prop
 | mk (c:Int):vs=[.int c]->(∀ (p:Addr) H',H p=none->Same H H'->Strm H' p->Q (.ref p) H')->iC vs H Q Z3
inductive cU (vs:List V) (H:Hp) (Q:VK) (Z3:XK):Prop
 | mk (p:Addr) (m:Nat):vs=[.ref p,.int m]->Strm H p->0 < m->m < 18446744073709551616->(∀ (r:Nat) H',r < m->Strm H' p->But p H H'->Q (.int r) H')->cU vs H Q Z3
variable {P:Program} {w:World} {K:ZF} {mg:Str->Option Value} {base:Heap} {C fi aS aE aF aO:Addr} {t1 t2 t3 t4 t5 tM:Tok}
theorem wY:am ["_law_script","_law_k"] ["_law_script","_law_k"] (aj qC):=bG (by decide +kernel)
variable {fd:FuncData} {f:Addr}
theorem uk (F:Fun K "_law_cell" "_law_cell" qC f fd) (T:Bl mg):FnOk P w K mg base bu 1 f fd ["_law_script","_law_k"] (mE K):=by
 have ZZ:=wY
 walk_at "o"
 ·obtain ⟨a,ns,k,rfl,hS,h0,q⟩:=h
  refine ⟨_,af (aQ (ax ci (pv 1) (aA aT (by rfl) T.len B7 (aa (pv 0) ac)) (az _)) (ah (al (au aY (pv 0) (pv 1) (fun _ _=>rfl)))) ay)
   (ah (al (bi cv (bi fw ai (pv 1)) ai))),?_⟩
  refine ⟨_,rfl,_,rfl,a,_,rfl,.inl hS,_,_,rfl,rfl,_,rfl,?_⟩
  refine bN (fun h=>?_) (fun h=>?_)
  ·have hl:k < ((ns.map V.int).length:Int):=of_decide_eq_true h
   rw [BJ] at hl
   obtain ⟨n,rfl⟩:∃ n:Nat,k=n:=⟨k.toNat,by lia⟩
   have hn:n < ns.length:=by lia
   refine ⟨_,rfl,_,rfl,a,_,_,_,rfl,rfl,hS,aJ (v:=.int ns[n]) (by simp [hn]),q _⟩
  ·exact ⟨_,rfl,_,_,rfl,rfl,.inl ⟨by decide,by decide⟩,_,_,rfl,rfl,q _⟩
theorem qG:am ["_law_cell_here"] ["_law_cell_here"] (aj jP):=bG (by decide +kernel)
theorem o9 (F:Fun K "_law_stream" "_law_stream" jP f fd) (T:Bl mg):FnOk P w K mg base bu 1 f fd ["_law_cell_here"] iC:=by
 have ZZ:=qG
 walk_at "o"
 ·obtain ⟨c,rfl,q⟩:=h
  refine ⟨_,ah (al (aL (aa (bi fw (pv 0) (aW bV (by rfl) T.int Cd (aa (aZ vD (pv 0) (bi wF ai ai) (az _)) ac)))
   (aa (bi gy (pv 0) ai) (aa ai ac))))),?_⟩
  refine ⟨_,rfl,_,rfl,_,_,rfl,rfl,⟨by decide,by decide,by decide⟩,_,_,rfl,rfl,.inr ⟨_,rfl,?_⟩⟩
  refine ⟨_,_,rfl,rfl,.inr (by split<;>decide),_,rfl,_,_,rfl,rfl,(by show (0:Int) < 2147483629;decide),bh,fun l hl=>?_⟩
  exact q l _ hl (ae hl) ⟨_,_,_,ad⟩
theorem scTake:am ["_law_stream_here","_law_many","_law_digit","_law_number"] ["_law_stream_here","_law_many"] (aj qD):=bG (by decide +kernel)
theorem lh {n m:Int} (hm:0 < m) (h:m < 2 ^ 64):-(2 ^ 64) < n % m/\n % m < 2 ^ 64:=by
 have:=Int.emod_nonneg n (show m≠0 by lia)
 have:=Int.emod_lt_of_pos n hm
 lia
theorem ul (F:Fun K "_law_take" "_law_take" qD f fd):FnOk P w K mg base bu 1 f fd ["_law_stream_here","_law_many"] cU:=by
 have ZZ:=scTake
 walk_at "o"
 ·obtain ⟨p,m,rfl,⟨x,y,z,hp⟩,m0,m1,q⟩:=h
  have fin:∀ (e x' y' z':Int) H1,0<=e->e < m->But p H H1->Q (.int e) (aC H1 p (qF x' y' z')):=fun e x' y' z' H1 h0 h1 b=>by
   have:=q e.toNat (aC H1 p (qF x' y' z')) (by lia) ⟨_,_,_,ad⟩ (fun c o e n=>by rw [aw n];exact b c o e n)
   rw [Int.toNat_of_nonneg h0] at this
   exact this
  have b1:∀ o,But p H (aC H p o):=fun o c u e n=>by rw [aw n];exact e
  refine ⟨_,af (aQ (ax nG (au aY (pv 0) ai (fun _ _=>rfl)) ai (az _))
    (af (aB (i:=2) scTake.nd rfl (Or.inl rfl) (bi gy (au aY (pv 0) ai (fun _ _=>rfl)) (pv 1)))
    (af (ig (bi qu (au aY (pv 0) ai (fun _ _=>rfl)) (pv 1)) (pR (pv 0) ai kH))
    (ah (al (pv 2))))) ay)
   (af (ig (bi cv (au aY (pv 0) ai (fun _ _=>rfl)) ai) (pR (pv 0) ai kH))
   (af (aB (i:=3) scTake.nd rfl (Or.inl rfl) (bi gy (bi cv (bi fw (bi cv (au aY (pv 0) ai (fun _ _=>rfl)) (bi fw ai (au aY (pv 0) ai (fun _ _=>rfl)))) ai) ai) ai))
   (af (aB (i:=3) scTake.nd rfl (Or.inl rfl) (bi gy (bi fw (pv 3) (pv 3)) ai))
   (ah (al (bi gy (bi tP (bi gy (bi cv (bi fw (pv 3) (pv 3)) (bi fw ai (au aY (pv 0) ai (fun _ _=>rfl)))) ai) ai) (pv 1))))))),?_⟩
  refine ⟨_,rfl,p,_,_,_,rfl,rfl,SqL.of hp,rfl,_,_,rfl,rfl,_,rfl,?_⟩
  refine bN (fun h=>?_) (fun h=>?_)
  ·refine ⟨_,rfl,p,_,_,_,rfl,rfl,SqL.of hp,rfl,_,rfl,_,_,rfl,rfl,(by show (0:Int) < (m:Int);lia),?_⟩
   refine ⟨_,rfl,p,_,_,_,rfl,rfl,SqL.of hp,rfl,_,rfl,_,_,rfl,rfl,⟨by show (0:Int) < (m:Int);lia,by show (m:Int) < 18446744073709551616;lia⟩,?_⟩
   refine ⟨_,rfl,p,_,_,_,rfl,rfl,hp,rfl,?_⟩
   refine ⟨_,rfl,?_⟩
   exact fin _ _ _ _ _ (Int.emod_nonneg _ (by lia)) (Int.emod_lt_of_pos _ (by lia)) (But.refl _ _)
  ·refine ⟨_,rfl,p,_,_,_,rfl,rfl,SqL.of hp,rfl,_,_,rfl,rfl,?_⟩
   refine ⟨_,rfl,p,_,_,_,rfl,rfl,hp,rfl,?_⟩
   refine ⟨_,rfl,p,_,_,_,rfl,rfl,SqL.of ad,rfl,_,rfl,p,_,_,_,rfl,rfl,SqL.of ad,rfl,_,_,rfl,rfl,.inl ⟨by decide,by decide⟩,_,_,rfl,rfl,_,_,rfl,rfl,.inr ⟨by decide,by decide⟩,_,_,rfl,rfl,_,_,rfl,rfl,(by show (0:Int) < 2147483647;decide),?_⟩
   refine ⟨_,rfl,_,rfl,_,_,rfl,rfl,.inl (lh (by decide) (by decide)),_,_,rfl,rfl,(by show (0:Int) < 2147483629;decide),?_⟩
   refine ⟨_,rfl,_,rfl,_,_,rfl,rfl,.inl (lh (by decide) (by decide)),_,rfl,p,_,_,_,rfl,rfl,SqL.of ad,rfl,_,_,rfl,rfl,.inl ⟨by decide,by decide⟩,_,_,rfl,rfl,_,_,rfl,rfl,(by show (0:Int) < 2147483587;decide),_,_,rfl,rfl,⟨by decide,by decide⟩,_,rfl,_,_,rfl,rfl,(by show (0:Int) < (m:Int);lia),?_⟩
   exact fin _ _ _ _ _ (Int.emod_nonneg _ (by lia)) (Int.emod_lt_of_pos _ (by lia)) (But.refl _ _)
def ap (l:List Str):List V:=l.map V.str
def dB (P:Program) (w:World) (K:ZF) (mg:Str->Option Value) (base:Heap) (C:Addr) (nm:Str) (n:Nat) (ps:List Str) (sp:Sp):Prop:=∃ f fd,l0 K C nm f/\FnOk P w K mg base bu n f fd ps sp/\Binds K fd ps []
def tq (l:Addr) (k:Nat) (me:Bool):List (Str×V):=[("tokens",.ref l),("spot",.int k),("may_end",.bl me)]
structure RdO (C:Addr) (H:Hp) (a l:Addr) (ts:List Str) (k:Nat) (me:Bool):Prop where
 ob:∃ dx,H a=some (.ins C dx (tq l k me))
 tk:H l=some (.lst (ap (ts++[("":Str)])))
 le:ts.length<=1500
def ButO (a:Addr) (H H':Hp):Prop:=∀ b o,H b=some o->b≠a->H' b=some o
theorem ButO.refl (p:Addr) (H:Hp):ButO p H H:=fun _ _ e _=>e
theorem ButO.trans (a:ButO p H H1) (b:ButO p H1 H2):ButO p H H2:=fun c o e n=>b c o (a c o e n) n
theorem ButO.same (a:ButO p H H1) (b:Same H1 H2):ButO p H H2:=fun c o e n=>b c o (a c o e n)
theorem cX (b:Same H H1):ButO p H H1:=fun c o e _=>b c o e
variable {me:Bool} {ts:List Str} {a l:Addr}
theorem RdO.same {H H':Hp} {k:Nat} (h:RdO C H a l ts k me) (s:Same H H'):RdO C H' a l ts k me:=⟨let ⟨dx,e⟩:=h.ob;⟨dx,s _ _ e⟩,s _ _ h.tk,h.le⟩
theorem RdO.ne {k:Nat} (h:RdO C H a l ts k me):l≠a:=by
 rintro rfl
 obtain ⟨dx,e⟩:=h.ob
 rw [h.tk] at e
 cases e
structure Rc (K:ZF) (C:Addr):Prop where
 cl:Cls K C
 n1:NoAttr K C "tokens"
 n2:NoAttr K C "spot"
 n3:NoAttr K C "may_end"
inductive mF (C:Addr) (vs:List V) (H:Hp) (Q:VK) (Z3:XK):Prop
 | mk (a l ts k me z:_):vs=[.ref a]->RdO C H a l ts k me->(ts++[("":Str)])[k]?=some z->Q (.str z) H->mF C vs H Q Z3
inductive wZ (C:Addr) (vs:List V) (H:Hp) (Q:VK) (Z3:XK):Prop
 | mk (a l ts k me z:_):vs=[.ref a]->RdO C H a l ts k me->(ts++[("":Str)])[k]?=some z->(∀ H',RdO C H' a l ts (k+1) me->ButO a H H'->Q (.str z) H')->wZ C vs H Q Z3
inductive mG (K:ZF) (C:Addr) (vs:List V) (H:Hp) (Q:VK) (Z3:XK):Prop
 | mk (a l ts k me z p xs:_):vs=[.ref a,.ref p]->RdO C H a l ts k me->(ts++[("":Str)])[k]?=some z->(SqL K H p (ap xs)\/SqT K H p (ap xs))->z∈xs->(∀ H',RdO C H' a l ts (k+1) me->ButO a H H'->Q (.str z) H')->mG K C vs H Q Z3
abbrev qH:Stmt:=aN (bH 43) 1
abbrev A1:Stmt:=aN (bH 43) 2
abbrev qI:Stmt:=aN (bH 43) 3
variable {z:Str}
theorem qJ {k:Nat} (h:(ts++[("":Str)])[k]?=some z):(ap (ts++[("":Str)]))[k]?=some (.str z):=by unfold ap;rw [Co,h];rfl
theorem bM (x:Str) (l:List Str):eQ (.str x) (ap l)=l.contains x:=by
 unfold eQ ap
 rw [List.any_map,CH,List.any_eq_true,CC]
 constructor
 ·rintro ⟨y,hy,e⟩
  have:y=x:=by simpa [mj] using e
  rw [<-this]
  exact hy
 ·intro hx
  exact ⟨x,hx,by simp [mj]⟩
theorem bC (l:List Str):(ap l).all cO=true:=by
 unfold ap
 rw [Df,CA]
 intro x _
 rfl
theorem w6:am ["self"] ["self"] (aj qH):=bG (by decide +kernel)
theorem um (F:Fun K "look" "Reader.look" qH f fd) (T:Rc K C):FnOk P w K mg base bu 1 f fd ["self"] (mF C):=by
 have ZZ:=w6
 walk_at "o"
 ·obtain ⟨a,l,ts,k,me,z,rfl,hR,hz,q⟩:=h
  refine ⟨_,ah (al (au aY (aV (pv 0) rfl) (aV (pv 0) rfl) (fun _ _=>rfl))),?_⟩
  obtain ⟨dx,ho⟩:=hR.ob
  exact ⟨_,rfl,a,C,dx,_,_,rfl,ho,T.cl,T.n1,rfl,_,rfl,a,C,dx,_,_,rfl,ho,T.cl,T.n2,rfl,l,_,_,_,rfl,rfl,SqL.of hR.tk,aJ (qJ hz),q⟩
theorem A2:am ["self"] ["self"] (aj A1):=bG (by decide +kernel)
theorem zK (F:Fun K "take" "Reader.take" A1 f fd) (T:Rc K C):FnOk P w K mg base bu 1 f fd ["self"] (wZ C):=by
 have ZZ:=A2
 walk_at "o"
 ·obtain ⟨a,l,ts,k,me,z,rfl,hR,hz,q⟩:=h
  refine ⟨_,af (ji (pv 0) ai qa) (ah (al (au aY (aV (pv 0) rfl) (bi lY (aV (pv 0) rfl) ai) (fun _ _=>rfl)))),?_⟩
  obtain ⟨dx,ho⟩:=hR.ob
  refine ⟨_,rfl,a,C,dx,_,_,rfl,ho,T.cl,T.n2,rfl,_,_,rfl,rfl,dx,_,ho,(by show 3 < 1000;decide),?_⟩
  have e1:(aC H a (.ins C dx (aM "spot" (.int ((k:Int)+1)) (tq l k me)))) a=some (.ins C dx (tq l (k+1) me)):=by rw [ad];rfl
  have e2:(aC H a (.ins C dx (aM "spot" (.int ((k:Int)+1)) (tq l k me)))) l=some (.lst (ap (ts++[("":Str)]))):=by rw [aw hR.ne];exact hR.tk
  have b2:ButO a H (aC H a (.ins C dx (aM "spot" (.int ((k:Int)+1)) (tq l k me)))):=fun b o e n=>by rw [aw n];exact e
  generalize aC H a (.ins C dx (aM "spot" (.int ((k:Int)+1)) (tq l k me)))=H1 at *
  refine ⟨_,rfl,a,C,dx,_,_,rfl,e1,T.cl,T.n1,rfl,_,rfl,a,C,dx,_,_,rfl,e1,T.cl,T.n2,rfl,_,_,rfl,rfl,l,_,_,_,rfl,rfl,SqL.of e2,?_,q _ ⟨⟨dx,e1⟩,e2,hR.le⟩ b2⟩
  have:(((k+1:Nat):Int) - 1)=(k:Int):=by lia
  rw [this]
  exact aJ (qJ hz)
structure Rm (P:Program) (w:World) (K:ZF) (mg:Str->Option Value) (base:Heap) (C:Addr):Prop extends Rc K C where
 look:dB P w K mg base C "look" 1 ["self"] (mF C)
 take:dB P w K mg base C "take" 1 ["self"] (wZ C)
theorem xb:am ["self","words"] ["self","words"] (aj qI):=bG (by decide +kernel)
theorem uo (F:Fun K "need" "Reader.need" qI f fd) (T:Rm P w K mg base C):FnOk P w K mg base bu 2 f fd ["self","words"] (mG K C):=by
 have ZZ:=xb
 walk_at "o"
 ·obtain ⟨a,l,ts,k,me,z,p,xs,rfl,hR,hz,hp,hm,q⟩:=h
  have hr1:Room 1 _:=hr
  refine ⟨_,af (aQ (ax cD (br (pv 0)) (pv 1) rfl) (ah bx) ay) (ah (al (br (pv 0)))),?_⟩
  obtain ⟨dx,ho⟩:=hR.ob
  obtain ⟨f1,fd1,M1,F1,B1⟩:=T.look
  obtain ⟨f2,fd2,M2,F2,B2⟩:=T.take
  refine ⟨_,rfl,a,dx,C,f1,_,fd1,1,["self"],_,rfl,ho,rfl,T.cl,M1,F1,hr1,B1,a,l,ts,k,me,z,rfl,hR,hz,_,rfl,p,ap xs,rfl,?_,rfl,bC _,_,rfl,aP ?_ ?_⟩
  ·exact hp
  ·show (!eQ (.str z) (ap xs))=false
   rw [bM,CC.mpr hm]
   rfl
  ·exact ⟨_,rfl,a,dx,C,f2,_,fd2,1,["self"],_,rfl,ho,rfl,T.cl,M2,F2,hr1,B2,a,l,ts,k,me,z,rfl,hR,hz,q⟩
abbrev tz (ts:List Str):List Str:=ts++[("":Str)]
def pb:List Str:=["word","cells","depth","places","marks","gate","kind","place","mark","number","row","set","if","else","top","next","go","call","back","stop","fault","bell"]
def NameS (z:Str):Prop:=z∉pb/\1<=z.length/\z.length<=8/\∀ c∈z.cps.toList,97<=c/\c<=122
inductive xc (vs:List V) (H:Hp) (Q:VK) (Z3:XK):Prop
 | mk (z:_):vs=[.str z]->NameS z->(∀ H',Same H H'->Q (.bl true) H')->xc vs H Q Z3
inductive jQ (vs:List V) (H:Hp) (Q:VK) (Z3:XK):Prop
 | mk (n:Nat):vs=[.str (toString (n:Int):Str)]->n < 1000000000->(∀ H',Same H H'->Q (.int n) H')->jQ vs H Q Z3
inductive jR (vs:List V) (H:Hp) (Q:VK) (Z3:XK):Prop
 | mk (i:Int):vs=[.int i]->Q (.bl true) H->jR vs H Q Z3
inductive iD (vs:List V) (H:Hp) (Q:VK) (Z3:XK):Prop
 | mk (i lo hi:Int):vs=[.int i,.int lo,.int hi]->lo<=i->i<=hi->Q (.bl true) H->iD vs H Q Z3
inductive fJ (C:Addr) (vs:List V) (H:Hp) (Q:VK) (Z3:XK):Prop
 | mk (a l ts k me z:_):vs=[.ref a]->RdO C H a l ts k me->(tz ts)[k]?=some z->NameS z->(∀ H',RdO C H' a l ts (k+1) me->ButO a H H'->Q (.str z) H')->fJ C vs H Q Z3
inductive dP (C:Addr) (vs:List V) (H:Hp) (Q:VK) (Z3:XK):Prop
 | mk (a l ts k me:_) (n lo hi:Nat):vs=[.ref a,.int lo,.int hi]->RdO C H a l ts k me->(tz ts)[k]?=some (toString (n:Int):Str)->n < 1000000000->lo<=n->n<=hi->(∀ H',RdO C H' a l ts (k+1) me->ButO a H H'->Q (.int n) H')->dP C vs H Q Z3
inductive gK (C:Addr) (vs:List V) (H:Hp) (Q:VK) (Z3:XK):Prop
 | mk (a l ts k:_):vs=[.ref a]->RdO C H a l ts k true->k=ts.length->Q .non H->gK C vs H Q Z3
abbrev gL:Stmt:=aN (bH 43) 4
abbrev eC:Stmt:=aN (bH 43) 5
abbrev iE:Stmt:=aN (bH 43) 6
theorem uq:am ["thing"] ["thing"] (aj iy):=bG (by decide +kernel)
theorem qK (F:Fun K "is_whole" "is_whole" iy f fd) (T:Bl mg):FnOk P w K mg base bu 1 f fd ["thing"] jR:=by
 have ZZ:=uq
 walk_at "o"
 ·obtain ⟨i,rfl,q⟩:=h
  refine ⟨_,ah (al (bE (aA (cJ (T:="int")) (by rfl) T.isinstance bL (aa (pv 0) (aa (pe_ty (by rfl) T.int Cd) ac))) (bJ (pP (aA (cJ (T:="bool")) (by rfl) T.isinstance bL (aa (pv 0) (aa (pe_ty (by rfl) T.bool fH) ac))))))),?_⟩
  exact ⟨_,rfl,_,_,_,rfl,.int _,rfl,_,rfl,cQ ⟨_,rfl,_,_,_,rfl,.int _,rfl,_,rfl,q⟩⟩
theorem qL:am ["thing","low","high"] ["thing","low","high"] (aj gi):=bG (by decide +kernel)
theorem pc (F:Fun K "is_within" "is_within" gi f fd) (WH:Fn P w K mg base "is_whole" 1 ["thing"] jR):FnOk P w K mg base bu 2 f fd ["thing","low","high"] iD:=by
 have ZZ:=qL
 walk_at "o"
 ·obtain ⟨i,lo,hi,rfl,h1,h2,q⟩:=h
  refine ⟨_,ah (al (bE (aq WH hr rfl (aa (pv 0) ac)) (bJ (fQ dW dW (pv 1) (pv 0) (pv 2))))),?_⟩
  refine ⟨_,rfl,i,rfl,_,rfl,cQ ⟨_,rfl,_,rfl,_,_,rfl,rfl,_,rfl,bj (decide_eq_true h1) ⟨_,rfl,_,_,rfl,rfl,?_⟩⟩⟩
  show Q (V.bl (decide (i<=hi))) H
  rw [decide_eq_true h2]
  exact q
theorem mH:am ["self"] ["self"] (aj gL):=bG (by decide +kernel)
theorem li (F:Fun K "need_name" "Reader.need_name" gL f fd) (T:Rm P w K mg base C) (NM:Fn P w K mg base "is_name" 1 ["thing"] xc):FnOk P w K mg base bu 2 f fd ["self"] (fJ C):=by
 have ZZ:=mH
 walk_at "o"
 ·obtain ⟨a,l,ts,k,me,z,rfl,hR,hz,hn,q⟩:=h
  have hr1:Room 1 _:=hr
  refine ⟨_,af (aQ (cf (bf (aq NM hr1 rfl (aa (br (pv 0)) ac)))) (ah bx) ay) (ah (al (br (pv 0)))),?_⟩
  obtain ⟨dx,ho⟩:=hR.ob
  obtain ⟨f1,fd1,M1,F1,B1⟩:=T.look
  obtain ⟨f2,fd2,M2,F2,B2⟩:=T.take
  refine ⟨_,rfl,a,dx,C,f1,_,fd1,1,["self"],_,rfl,ho,rfl,T.cl,M1,F1,hr1,B1,a,l,ts,k,me,z,rfl,hR,hz,z,rfl,hn,fun H1 s1=>⟨_,rfl,bz ?_⟩⟩
  exact ⟨_,rfl,a,dx,C,f2,_,fd2,1,["self"],_,rfl,s1 _ _ ho,rfl,T.cl,M2,F2,hr1,B2,a,l,ts,k,me,z,rfl,hR.same s1,hz,fun H2 r2 b2=>q H2 r2 ((cX s1).trans b2)⟩
theorem scNeedNumber:am ["self","low","high","number"] ["self","low","high"] (aj eC):=bG (by decide +kernel)
theorem i8 (F:Fun K "need_number" "Reader.need_number" eC f fd) (T:Rm P w K mg base C) (NU:Fn P w K mg base "number_of" 1 ["token"] jQ) (WI:Fn P w K mg base "is_within" 2 ["thing","low","high"] iD):FnOk P w K mg base bu 3 f fd ["self","low","high"] (dP C):=by
 have ZZ:=scNeedNumber
 walk_at "o"
 ·obtain ⟨a,l,ts,k,me,n,lo,hi,rfl,hR,hz,hn,h1,h2,q⟩:=h
  have hr1:Room 1 _:=hr.mono (by decide)
  refine ⟨_,af (aB (i:=3) scNeedNumber.nd rfl (Or.inl rfl) (aq NU hr1 rfl (aa (br (pv 0)) ac)))
   (af (aQ (cf (bf (aq WI hr rfl (aa (pv 3) (aa (pv 1) (aa (pv 2) ac)))))) (ah bx) ay)
   (af (ji (pv 0) ai qa) (ah (al (pv 3))))),?_⟩
  obtain ⟨dx,ho⟩:=hR.ob
  obtain ⟨f1,fd1,M1,F1,B1⟩:=T.look
  refine ⟨_,rfl,a,dx,C,f1,_,fd1,1,["self"],_,rfl,ho,rfl,T.cl,M1,F1,hr1,B1,a,l,ts,k,me,_,rfl,hR,hz,n,rfl,hn,fun H1 s1=>?_⟩
  refine ⟨_,rfl,_,rfl,_,rfl,(n:Int),(lo:Int),(hi:Int),rfl,by lia,by lia,_,rfl,bz ?_⟩
  have hR1:=hR.same s1
  have ho1:=s1 _ _ ho
  refine ⟨_,rfl,a,C,dx,_,_,rfl,ho1,T.cl,T.n2,rfl,_,_,rfl,rfl,dx,_,ho1,(by show 3 < 1000;decide),?_⟩
  have e1:(aC H1 a (.ins C dx (aM "spot" (.int ((k:Int)+1)) (tq l k me)))) a=some (.ins C dx (tq l (k+1) me)):=by rw [ad];rfl
  have e2:(aC H1 a (.ins C dx (aM "spot" (.int ((k:Int)+1)) (tq l k me)))) l=some (.lst (ap (ts++[("":Str)]))):=by rw [aw hR.ne];exact hR1.tk
  exact ⟨_,rfl,q _ ⟨⟨dx,e1⟩,e2,hR.le⟩ (fun b o e n=>by rw [aw n];exact s1 _ _ e)⟩
theorem pd:am ["self"] ["self"] (aj iE):=bG (by decide +kernel)
theorem mI (F:Fun K "need_end" "Reader.need_end" iE f fd) (T:Rm P w K mg base C) (B:Bl mg):FnOk P w K mg base bu 1 f fd ["self"] (gK C):=by
 have ZZ:=pd
 walk_at "o"
 ·obtain ⟨a,l,ts,k,rfl,hR,hk,q⟩:=h
  refine ⟨_,ah (aQ (PW.pt (cA (cf (bf (aV (pv 0) rfl))) (bY (ax ci (bi cv (aV (pv 0) rfl) ai) (aA aT (by rfl) B.len B7 (aa (aV (pv 0) rfl) ac)) (az _))))) (ah bx) ay),?_⟩
  obtain ⟨dx,ho⟩:=hR.ob
  refine ⟨_,rfl,a,C,dx,_,_,rfl,ho,T.cl,T.n3,rfl,_,rfl,bz ?_⟩
  refine ⟨_,rfl,a,C,dx,_,_,rfl,ho,T.cl,T.n2,rfl,_,_,rfl,rfl,_,rfl,a,C,dx,_,_,rfl,ho,T.cl,T.n1,rfl,l,_,rfl,.inl (SqL.of hR.tk),_,_,rfl,rfl,_,rfl,aP (decide_eq_false ?_) q⟩
  unfold ap
  rw [BJ,BN]
  simp
  lia
structure tD (P:Program) (w:World) (K:ZF) (mg:Str->Option Value) (base:Heap) (C:Addr):Prop extends Rm P w K mg base C where
 need:dB P w K mg base C "need" 2 ["self","words"] (mG K C)
 nname:dB P w K mg base C "need_name" 2 ["self"] (fJ C)
 nnum:dB P w K mg base C "need_number" 3 ["self","low","high"] (dP C)
 nend:dB P w K mg base C "need_end" 1 ["self"] (gK C)
inductive gM (C:Addr) (vs:List V) (H:Hp) (Q:VK) (Z3:XK):Prop
 | mk (a l ts k me wd:_) (n lo hi:Nat):vs=[.ref a,.str wd,.int lo,.int hi]->RdO C H a l ts k me->(tz ts)[k]?=some wd->(tz ts)[k+1]?=some (toString (n:Int):Str)->(tz ts)[k+2]?=some ";"->n < 1000000000->lo<=n->n<=hi->(∀ H',RdO C H' a l ts (k+3) me->ButO a H H'->Q (.int n) H')->gM C vs H Q Z3
def lq (ts:List Str) (k:Nat) (zs:List Str):Prop:=∀ i (h:i < zs.length),(tz ts)[k+i]?=some zs[i]/\NameS zs[i]
inductive jS (C:Addr) (vs:List V) (H:Hp) (Q:VK) (Z3:XK):Prop
 | mk (a l ts k me wd zs:_) (lo hi:Nat):vs=[.ref a,.str wd,.int lo,.int hi]->RdO C H a l ts k me->(tz ts)[k]?=some wd->lq ts (k+1) zs->(tz ts)[k+1+zs.length]?=some ";"->lo<=zs.length->zs.length<=hi->hi<=10->(∀ p H',RdO C H' a l ts (k+2+zs.length) me->ButO a H H'->H p=none->H' p=some (.tup (ap zs))->Q (.ref p) H')->jS C vs H Q Z3
theorem scBounded:am ["reader","word","low","high","number"] ["reader","word","low","high"] (aj dM):=bG (by decide +kernel)
theorem mJ (F:Fun K "read_bounded" "read_bounded" dM f fd) (T:tD P w K mg base C):FnOk P w K mg base bu 4 f fd ["reader","word","low","high"] (gM C):=by
 have ZZ:=scBounded
 walk_at "o"
 ·obtain ⟨a,l,ts,k,me,wd,n,lo,hi,rfl,hR,t0,t1,t2,hn,h1,h2,q⟩:=h
  have hr2:Room 2 _:=hr.mono (by decide)
  refine ⟨_,af (bo (cc (pv 0) (aa (aH (aa (pv 1) ac)) ac)))
   (af (aB (i:=4) scBounded.nd rfl (Or.inl rfl) (cc (pv 0) (aa (pv 2) (aa (pv 3) ac))))
   (af (bo (cc (pv 0) (aa (aH (aa ak ac)) ac)))
   (ah (al (pv 4))))),?_⟩
  obtain ⟨f1,fd1,M1,F1,B1⟩:=T.need
  obtain ⟨f2,fd2,M2,F2,B2⟩:=T.nnum
  obtain ⟨dx,ho⟩:=hR.ob
  refine ⟨_,rfl,a,dx,C,f1,_,fd1,2,["self","words"],_,rfl,ho,rfl,T.cl,M1,F1,hr2,B1,_,rfl,bh,fun p1 n1=>?_⟩
  have s1:=ae (o:=.tup [.str wd]) n1
  refine ⟨a,l,ts,k,me,wd,p1,[wd],rfl,hR.same s1,t0,(.inr (SqT.of ad)),by simp,fun H1 r1 b1=>?_⟩
  obtain ⟨dx1,ho1⟩:=r1.ob
  refine ⟨_,rfl,a,dx1,C,f2,_,fd2,3,["self","low","high"],_,rfl,ho1,rfl,T.cl,M2,F2,hr,B2,_,rfl,_,rfl,a,l,ts,k+1,me,n,lo,hi,rfl,r1,t1,hn,h1,h2,fun H2 r2 b2=>?_⟩
  obtain ⟨dx2,ho2⟩:=r2.ob
  refine ⟨_,rfl,a,dx2,C,f1,_,fd1,2,["self","words"],_,rfl,ho2,rfl,T.cl,M1,F1,hr2,B1,bh,fun p2 n2=>?_⟩
  have s2:=ae (o:=.tup [.str ";"]) n2
  refine ⟨a,l,ts,k+2,me,";",p2,[";"],rfl,r2.same s2,t2,(.inr (SqT.of ad)),by simp,fun H3 r3 b3=>?_⟩
  exact ⟨_,rfl,q H3 r3 (((cX s1).trans (b1.trans b2)).trans ((cX s2).trans b3))⟩
theorem scNames:am ["reader","word","least","most","names"] ["reader","word","least","most"] (aj fB):=bG (by decide +kernel)
theorem qM (F:Fun K "read_names" "read_names" fB f fd) (T:tD P w K mg base C) (B:Bl mg):FnOk P w K mg base bu 3 f fd ["reader","word","least","most"] (jS C):=by
 have ZZ:=scNames
 walk_at "o"
 ·obtain ⟨a,l,ts,k,me,wd,zs,lo,hi,rfl,hR,t0,tn,te,h1,h2,h10,q⟩:=h
  have hr1:Room 1 _:=hr.mono (by decide)
  refine ⟨_,af (bo (cc (pv 0) (aa (aH (aa (pv 1) ac)) ac)))
   (af (aB (i:=4) scNames.nd rfl (Or.inl rfl) (aL ac))
   (af (dm PassesOwn.never (PW.pt (cA (ax ci (aA aT (by rfl) B.len B7 (aa (pv 4) ac)) (pv 2) (az _)) (bY (PW.pt (cm (ax ci (aA aT (by rfl) B.len B7 (aa (pv 4) ac)) (pv 3) (az _)) (bU (ax nF (br (pv 0)) ak (az _))))))))
    (ah (bo (fj Cz Cw Cr cx (pv 4) (aa (br (pv 0)) ac)))))
   (af (bo (cc (pv 0) (aa (aH (aa ak ac)) ac)))
   (ah (al (aW bA (by rfl) B.tuple bq (aa (pv 4) ac))))))),?_⟩
  obtain ⟨f1,fd1,M1,F1,B1⟩:=T.need
  obtain ⟨f2,fd2,M2,F2,B2⟩:=T.nname
  obtain ⟨f3,fd3,M3,F3,B3⟩:=T.look
  obtain ⟨dx,ho⟩:=hR.ob
  have sz:(1000:Nat)<=sizeLine:=by decide
  refine ⟨_,rfl,a,dx,C,f1,_,fd1,2,["self","words"],_,rfl,ho,rfl,T.cl,M1,F1,hr,B1,_,rfl,bh,fun p1 n1=>?_⟩
  have s1:=ae (o:=.tup [.str wd]) n1
  refine ⟨a,l,ts,k,me,wd,p1,[wd],rfl,hR.same s1,t0,(.inr (SqT.of ad)),by simp,fun H1 r1 b1=>?_⟩
  have c1:ButO a H H1:=(cX s1).trans b1
  refine ⟨bh,fun ln nn=>?_⟩
  have s2:=ae (o:=.lst []) nn
  have e2:(aC H1 ln (.lst [])) ln=some (.lst (ap [])):=ad
  have r2:=r1.same s2
  have c2:=c1.same s2
  have nH:H ln=none:=by
   by_cases hh:ln=a
   ·subst hh
    obtain ⟨dx1,ho1⟩:=r1.ob
    rw [ho1] at nn
    cases nn
   ·cases hx:H ln with
    | none=>rfl
    | some o=>
     have:=c1 _ _ hx hh
     rw [nn] at this
     cases this
  have lna:ln≠a:=by
   rintro rfl
   rw [nH] at ho
   cases ho
  have lnl:ln≠l:=fun z=>by
   have:=hR.tk
   rw [<-z,nH] at this
   cases this
  generalize aC H1 ln (.lst ([]:List V))=H2 at *
  refine ⟨fun m σ H'=>∃ i,i<=zs.length/\m=zs.length - i/\σ=[some (.ref a),some (.str wd),some (.int lo),some (.int hi),some (.ref ln)]/\RdO C H' a l ts (k+1+i) me/\ButO a H H'/\H' ln=some (.lst (ap (zs.take i))),⟨_,0,Cy _,rfl,rfl,r2,c2,e2⟩,?_⟩
  rintro m σ H3 ⟨i,hi3,rfl,rfl,r3,c3,e3⟩
  have lt:(ap (zs.take i)).length=i:=by
   unfold ap
   rw [BJ,BX]
   lia
  obtain ⟨dx3,ho3⟩:=r3.ob
  by_cases hlt:i < zs.length
  ·obtain ⟨tz1,nm1⟩:=tn i hlt
   have tk1:zs.take (i+1)=zs.take i++[zs[i]]:=by rw [Cj,BZ hlt];rfl
   have nsc:zs[i]≠(";":Str):=by
    intro z
    obtain ⟨_,_,_,hc⟩:=nm1
    rw [z] at hc
    exact absurd (hc 59 (by decide +kernel)) (by lia)
   by_cases hlo:i < lo
   ·refine ⟨_,rfl,ln,_,rfl,.inl (SqL.of e3),_,rfl,_,_,rfl,rfl,_,rfl,bj (decide_eq_true (by rw [lt];lia)) ?_⟩
    refine ⟨fun σ' H'=>∃ i',i'=i+1/\σ'=[some (.ref a),some (.str wd),some (.int lo),some (.int hi),some (.ref ln)]/\RdO C H' a l ts (k+1+i') me/\ButO a H H'/\H' ln=some (.lst (ap (zs.take i'))),fun σ' H' ⟨i',e',a1,a2,a3,a4⟩=>⟨zs.length - i',by lia,i',by lia,rfl,a1,a2,a3,a4⟩,?_⟩
    refine ⟨_,rfl,.inl ⟨rfl,_,SqL.of e3⟩,_,rfl,a,dx3,C,f2,_,fd2,2,["self"],_,rfl,ho3,rfl,T.cl,M2,F2,hr,B2,a,l,ts,k+1+i,me,zs[i],rfl,r3,tz1,nm1,fun H4 r4 b4=>?_⟩
    have e4:=b4 _ _ e3 lna
    refine ⟨ln,_,_,rfl,rfl,e4,by rw [lt];lia,i+1,rfl,rfl,?_,?_,?_⟩
    ·refine ⟨?_,?_,r4.le⟩
     ·obtain ⟨dx4,ho4⟩:=r4.ob
      exact ⟨dx4,by rw [aw lna.symm];exact ho4⟩
     ·rw [aw lnl.symm]
      exact r4.tk
    ·intro b o e nb
     by_cases hbl:b=ln
     ·rw [hbl,nH] at e
      cases e
     ·rw [aw hbl]
      exact b4 _ _ (c3 _ _ e nb) nb
    ·rw [ad,tk1]
     unfold ap
     rw [BR]
     rfl
   ·refine ⟨_,rfl,ln,_,rfl,.inl (SqL.of e3),_,rfl,_,_,rfl,rfl,_,rfl,aP (decide_eq_false (by rw [lt];lia)) ?_⟩
    refine ⟨_,rfl,ln,_,rfl,.inl (SqL.of e3),_,rfl,_,_,rfl,rfl,_,rfl,bj (decide_eq_true (by rw [lt];lia)) ?_⟩
    refine ⟨_,rfl,a,dx3,C,f3,_,fd3,1,["self"],_,rfl,ho3,rfl,T.cl,M3,F3,hr1,B3,a,l,ts,k+1+i,me,zs[i],rfl,r3,tz1,rfl,_,rfl,bj (by simpa using nsc) ?_⟩
    refine ⟨fun σ' H'=>∃ i',i'=i+1/\σ'=[some (.ref a),some (.str wd),some (.int lo),some (.int hi),some (.ref ln)]/\RdO C H' a l ts (k+1+i') me/\ButO a H H'/\H' ln=some (.lst (ap (zs.take i'))),fun σ' H' ⟨i',e',a1,a2,a3,a4⟩=>⟨zs.length - i',by lia,i',by lia,rfl,a1,a2,a3,a4⟩,?_⟩
    refine ⟨_,rfl,.inl ⟨rfl,_,SqL.of e3⟩,_,rfl,a,dx3,C,f2,_,fd2,2,["self"],_,rfl,ho3,rfl,T.cl,M2,F2,hr,B2,a,l,ts,k+1+i,me,zs[i],rfl,r3,tz1,nm1,fun H4 r4 b4=>?_⟩
    have e4:=b4 _ _ e3 lna
    refine ⟨ln,_,_,rfl,rfl,e4,by rw [lt];lia,i+1,rfl,rfl,?_,?_,?_⟩
    ·refine ⟨?_,?_,r4.le⟩
     ·obtain ⟨dx4,ho4⟩:=r4.ob
      exact ⟨dx4,by rw [aw lna.symm];exact ho4⟩
     ·rw [aw lnl.symm]
      exact r4.tk
    ·intro b o e nb
     by_cases hbl:b=ln
     ·rw [hbl,nH] at e
      cases e
     ·rw [aw hbl]
      exact b4 _ _ (c3 _ _ e nb) nb
    ·rw [ad,tk1]
     unfold ap
     rw [BR]
     rfl
  ·have hie:i=zs.length:=by lia
   have te':(tz ts)[k+1+i]?=some ";":=by rw [hie];exact te
   have ztk:ap (zs.take i)=ap zs:=by rw [hie,Cg]
   by_cases hhi:i < hi
   ·refine ⟨_,rfl,ln,_,rfl,.inl (SqL.of e3),_,rfl,_,_,rfl,rfl,_,rfl,aP (decide_eq_false (by rw [lt];lia)) ?_⟩
    refine ⟨_,rfl,ln,_,rfl,.inl (SqL.of e3),_,rfl,_,_,rfl,rfl,_,rfl,bj (decide_eq_true (by rw [lt];lia)) ?_⟩
    refine ⟨_,rfl,a,dx3,C,f3,_,fd3,1,["self"],_,rfl,ho3,rfl,T.cl,M3,F3,hr1,B3,a,l,ts,k+1+i,me,";",rfl,r3,te',rfl,_,rfl,aP (by simp) ?_⟩
    refine ⟨_,rfl,a,dx3,C,f1,_,fd1,2,["self","words"],_,rfl,ho3,rfl,T.cl,M1,F1,hr,B1,bh,fun p2 n2=>?_⟩
    have s4:=ae (o:=.tup [.str ";"]) n2
    refine ⟨a,l,ts,k+1+i,me,";",p2,[";"],rfl,r3.same s4,te',(.inr (SqT.of ad)),by simp,fun H4 r4 b4=>?_⟩
    have e4:=b4 _ _ (s4 _ _ e3) lna
    rw [ztk] at e4
    refine ⟨_,rfl,ln,ap zs,rfl,.inl ⟨SqL.of e4,fun p3 n3=>?_⟩⟩
    have s5:=ae (o:=.tup (ap zs)) n3
    have c4:ButO a H H4:=(c3.same s4).trans b4
    refine q p3 _ ?_ (c4.same s5) ?_ ad
    ·have:=r4.same s5
     rw [hie] at this
     have e9:k+1+zs.length+1=k+2+zs.length:=by lia
     rw [e9] at this
     exact this
    ·by_cases h3a:p3=a
     ·subst h3a
      obtain ⟨dx4,ho4⟩:=r4.ob
      rw [ho4] at n3
      cases n3
     ·cases hx:H p3 with
      | none=>rfl
      | some o=>
       have:=c4 _ _ hx h3a
       rw [n3] at this
       cases this
   ·refine ⟨_,rfl,ln,_,rfl,.inl (SqL.of e3),_,rfl,_,_,rfl,rfl,_,rfl,aP (decide_eq_false (by rw [lt];lia)) ?_⟩
    refine ⟨_,rfl,ln,_,rfl,.inl (SqL.of e3),_,rfl,_,_,rfl,rfl,_,rfl,aP (decide_eq_false (by rw [lt];lia)) ?_⟩
    refine ⟨_,rfl,a,dx3,C,f1,_,fd1,2,["self","words"],_,rfl,ho3,rfl,T.cl,M1,F1,hr,B1,bh,fun p2 n2=>?_⟩
    have s4:=ae (o:=.tup [.str ";"]) n2
    refine ⟨a,l,ts,k+1+i,me,";",p2,[";"],rfl,r3.same s4,te',(.inr (SqT.of ad)),by simp,fun H4 r4 b4=>?_⟩
    have e4:=b4 _ _ (s4 _ _ e3) lna
    rw [ztk] at e4
    refine ⟨_,rfl,ln,ap zs,rfl,.inl ⟨SqL.of e4,fun p3 n3=>?_⟩⟩
    have s5:=ae (o:=.tup (ap zs)) n3
    have c4:ButO a H H4:=(c3.same s4).trans b4
    refine q p3 _ ?_ (c4.same s5) ?_ ad
    ·have:=r4.same s5
     rw [hie] at this
     have e9:k+1+zs.length+1=k+2+zs.length:=by lia
     rw [e9] at this
     exact this
    ·by_cases h3a:p3=a
     ·subst h3a
      obtain ⟨dx4,ho4⟩:=r4.ob
      rw [ho4] at n3
      cases n3
     ·cases hx:H p3 with
      | none=>rfl
      | some o=>
       have:=c4 _ _ hx h3a
       rw [n3] at this
       cases this
def cG:List Str:=["place","mark","number","row"]
structure mL (K:ZF) (mg:Str->Option Value) (aS aE aF:Addr) (t1 t2 t3 t4:Tok):Prop where
 sorts:mg "SORTS"=some (.ref aS)
 sortsq:∀ H,SqT K H aS (ap cG)
 ends:mg "ENDS"=some (.ref aE)
 endsq:∀ H,SqT K H aE (ap ["next","go","call","back","stop","fault"])
 owf:mg "OWN_FAULTS"=some (.ref aF)
 owfq:∀ H,SqT K H aF (ap ["deep","bare"])
 mf:mg "MOST_FIELDS"=some (.int 3 t1)
 ms:mg "MOST_SETS"=some (.int 4 t2)
 mc:mg "MOST_CHOICES"=some (.int 3 t3)
 mkn:mg "MOST_KINDS"=some (.int 8 t4)
inductive FldV (H:Hp) (u:V) (x:Str×Str):Prop
 | mk (p:_):u=.ref p->H p=some (.tup [.str x.1,.str x.2])->FldV H u x
inductive jT (C:Addr) (vs:List V) (H:Hp) (Q:VK) (Z3:XK):Prop
 | mk (a l ts k me:_) (x:Str×Str):vs=[.ref a]->RdO C H a l ts k me->(tz ts)[k]?=some x.1->NameS x.1->(tz ts)[k+1]?=some x.2->x.2∈cG->(∀ p H',RdO C H' a l ts (k+2) me->ButO a H H'->H p=none->H' p=some (.tup [.str x.1,.str x.2])->Q (.ref p) H')->jT C vs H Q Z3
variable {dx:Addr}
theorem eW {H H':Hp} {fs:List (Str×V)} (b:ButO a H H') (ho:H' a=some (.ins C dx fs)) (n:H' p=none):H p=none:=by
 by_cases h:p=a
 ·subst h
  rw [ho] at n
  cases n
 ·cases hx:H p with
  | none=>rfl
  | some o=>
   have:=b _ _ hx h
   rw [n] at this
   cases this
theorem scField:am ["reader","name"] ["reader"] (aj fC):=bG (by decide +kernel)
theorem qN (F:Fun K "read_field" "read_field" fC f fd) (T:tD P w K mg base C) (Z:mL K mg aS aE aF t1 t2 t3 t4):FnOk P w K mg base bu 3 f fd ["reader"] (jT C):=by
 have ZZ:=scField
 walk_at "o"
 ·obtain ⟨a,l,ts,k,me,x,rfl,hR,h0,hn,h1,hs,q⟩:=h
  refine ⟨_,af (aB (i:=1) scField.nd rfl (Or.inl rfl) (br (pv 0))) (ah (al (aH (aa (pv 1) (aa (cc (pv 0) (aa (aX (v:=.ref aS) rfl Z.sorts rfl) ac)) ac))))),?_⟩
  obtain ⟨f1,fd1,M1,F1,B1⟩:=T.need
  obtain ⟨f2,fd2,M2,F2,B2⟩:=T.nname
  obtain ⟨dx,ho⟩:=hR.ob
  refine ⟨_,rfl,a,dx,C,f2,_,fd2,2,["self"],_,rfl,ho,rfl,T.cl,M2,F2,hr,B2,a,l,ts,k,me,x.1,rfl,hR,h0,hn,fun H1 r1 b1=>?_⟩
  obtain ⟨dx1,ho1⟩:=r1.ob
  refine ⟨_,rfl,_,rfl,a,dx1,C,f1,_,fd1,2,["self","words"],_,rfl,ho1,rfl,T.cl,M1,F1,hr,B1,a,l,ts,k+1,me,x.2,aS,cG,rfl,r1,h1,.inr (Z.sortsq _),hs,fun H2 r2 b2=>?_⟩
  obtain ⟨dx2,ho2⟩:=r2.ob
  refine ⟨bh,fun p np=>?_⟩
  have s3:=ae (o:=.tup [.str x.1,.str x.2]) np
  exact q p _ (r2.same s3) ((b1.trans b2).same s3) (eW (b1.trans b2) ho2 np) ad
inductive NextV (H:Hp) (u:V):Prop
 | mk (p:_):u=.ref p->H p=some (.tup [.str "next"])->NextV H u
inductive LeafV (H:Hp) (u:V):Prop
 | mk (p t e:_):u=.ref p->H p=some (.tup [.str "leaf",.ref t,e])->H t=some (.tup [])->NextV H e->LeafV H u
inductive qO (C:Addr) (vs:List V) (H:Hp) (Q:VK) (Z3:XK):Prop
 | mk (a l ts k me:_):vs=[.ref a]->RdO C H a l ts k me->(tz ts)[k]?=some "next"->(∀ p H',RdO C H' a l ts (k+1) me->ButO a H H'->H p=none->H' p=some (.tup [.str "next"])->Q (.ref p) H')->qO C vs H Q Z3
theorem scEnd:am ["reader","end"] ["reader"] (aj iA):=bG (by decide +kernel)
theorem xf (F:Fun K "read_end" "read_end" iA f fd) (T:tD P w K mg base C) (Z:mL K mg aS aE aF t1 t2 t3 t4):FnOk P w K mg base bu 3 f fd ["reader"] (qO C):=by
 have ZZ:=scEnd
 walk_at "o"
 ·obtain ⟨a,l,ts,k,me,rfl,hR,h0,q⟩:=h
  have hr1:Room 1 _:=hr.mono (by decide)
  refine ⟨_,af (aB (i:=1) scEnd.nd rfl (Or.inl rfl) (cc (pv 0) (aa (aX (v:=.ref aE) rfl Z.ends rfl) ac)))
   (af (aQ (PW.pt (cm (ax bv (pv 1) ak (az _)) (bU (ax bO (br (pv 0)) (aX (v:=.ref aF) rfl Z.owf rfl) rfl)))) (ah bx) ay)
   (af (aQ (ax bO (pv 1) (aH (aa ak (aa ak (aa ak ac)))) rfl) (ah (al (aH (aa (pv 1) (aa (br (pv 0)) ac))))) ay)
   (ah (al (aH (aa (pv 1) ac)))))),?_⟩
  obtain ⟨f1,fd1,M1,F1,B1⟩:=T.need
  obtain ⟨dx,ho⟩:=hR.ob
  refine ⟨_,rfl,a,dx,C,f1,_,fd1,2,["self","words"],_,rfl,ho,rfl,T.cl,M1,F1,hr,B1,a,l,ts,k,me,"next",aE,["next","go","call","back","stop","fault"],rfl,hR,h0,.inr (Z.endsq _),by decide +kernel,fun H1 r1 b1=>?_⟩
  obtain ⟨dx1,ho1⟩:=r1.ob
  refine ⟨_,rfl,rfl,_,rfl,aP (by decide +kernel) ?_⟩
  refine bz ?_
  refine ⟨_,rfl,bh,fun p1 n1=>?_⟩
  have s1:=ae (o:=.tup [.str "go",.str "call",.str "fault"]) n1
  refine ⟨p1,_,rfl,.inr (SqT.of ad),rfl,by decide +kernel,_,rfl,aP (by decide +kernel) ?_⟩
  refine ⟨_,rfl,bh,fun p np=>?_⟩
  have s3:=ae (o:=.tup [.str "next"]) np
  exact q p _ ((r1.same s1).same s3) ((b1.same s1).same s3) (eW (b1.same s1) (s1 _ _ ho1) np) ad
inductive mM (C:Addr) (vs:List V) (H:Hp) (Q:VK) (Z3:XK):Prop
 | mk (a l ts k me wv:_):vs=[.ref a,wv]->RdO C H a l ts k me->(tz ts)[k]?=some "next"->(∀ u H',RdO C H' a l ts (k+1) me->ButO a H H'->LeafV H' u->Q u H')->mM C vs H Q Z3
inductive mN (C:Addr) (vs:List V) (H:Hp) (Q:VK) (Z3:XK):Prop
 | mk (a l ts k me wv:_) (n:Nat):vs=[.ref a,wv,.int n]->n < 3->RdO C H a l ts k me->(tz ts)[k]?=some "{"->(tz ts)[k+1]?=some "next"->(tz ts)[k+2]?=some "}"->(∀ u H',RdO C H' a l ts (k+3) me->ButO a H H'->LeafV H' u->Q u H')->mN C vs H Q Z3
theorem ButO.kt {H H':Hp} {fs:List (Str×V)} (b:ButO a H H') (ho:H a=some (.ins C dx fs)):TupK H H':=fun c xs e=>b c _ e (by
 rintro rfl
 rw [ho] at e
 cases e)
variable {u:V}
theorem NextV.kt {H H':Hp} (k:TupK H H') (h:NextV H u):NextV H' u:=let ⟨p,a,b⟩:=h;⟨p,a,k _ _ b⟩
theorem LeafV.kt {H H':Hp} (k:TupK H H') (h:LeafV H u):LeafV H' u:=let ⟨p,t,e,a,b,c,d⟩:=h;⟨p,t,e,a,k _ _ b,k _ _ c,d.kt k⟩
theorem scLeaf:am ["reader","width","sets","cell_free"] ["reader","width"] (aj gJ):=bG (by decide +kernel)
theorem ur (F:Fun K "read_leaf" "read_leaf" gJ f fd) (T:tD P w K mg base C) (Z:mL K mg aS aE aF t1 t2 t3 t4) (B:Bl mg) (EN:Fn P w K mg base "read_end" 3 ["reader"] (qO C)):FnOk P w K mg base bu 4 f fd ["reader","width"] (mM C):=by
 have ZZ:=scLeaf
 walk_at "o"
 ·obtain ⟨a,l,ts,k,me,wv,rfl,hR,h0,q⟩:=h
  have hr1:Room 1 _:=hr.mono (by decide)
  refine ⟨_,af (aB (i:=2) scLeaf.nd rfl (Or.inl rfl) (aL ac))
   (af (dm PassesOwn.never (PW.pt (cm (ax ci (aA aT (by rfl) B.len B7 (aa (pv 2) ac)) (aX (v:=.int 4) rfl Z.ms ⟨_,rfl⟩) (az _)) (bU (ax bv (br (pv 0)) ak (az _))))) (af bx (af bx (ah bx))))
   (ah (al (aH (aa ak (aa (aW bA (by rfl) B.tuple bq (aa (pv 2) ac)) (aa (aq EN hr rfl (aa (pv 0) ac)) ac))))))),?_⟩
  obtain ⟨f3,fd3,M3,F3,B3⟩:=T.look
  obtain ⟨dx,ho⟩:=hR.ob
  refine ⟨bh,fun ln nn=>?_⟩
  have s1:=ae (o:=.lst []) nn
  have e1:(aC H ln (.lst [])) ln=some (.lst []):=ad
  generalize aC H ln (.lst ([]:List V))=H1 at *
  refine ⟨fun m σ H'=>m=0/\H'=H1/\σ=[some (.ref a),some wv,some (.ref ln),none],⟨_,rfl,rfl,rfl⟩,?_⟩
  rintro m σ H2 ⟨rfl,rfl,rfl⟩
  refine ⟨_,rfl,ln,_,rfl,.inl (SqL.of e1),_,_,rfl,rfl,_,rfl,bj (by decide +kernel) ?_⟩
  refine ⟨_,rfl,a,dx,C,f3,_,fd3,1,["self"],_,rfl,s1 _ _ ho,rfl,T.cl,M3,F3,hr1,B3,a,l,ts,k,me,"next",rfl,hR.same s1,h0,rfl,_,rfl,aP (by decide +kernel) ?_⟩
  refine ⟨_,rfl,ln,_,rfl,.inl ⟨SqL.of e1,fun t nt=>?_⟩⟩
  have s2:=ae (o:=.tup []) nt
  have e2:(aC H2 t (.tup [])) t=some (.tup []):=ad
  generalize aC H2 t (.tup ([]:List V))=H3 at *
  have s12:=s1.trans s2
  have ho3:=s12 _ _ ho
  refine ⟨_,rfl,a,l,ts,k,me,rfl,hR.same s12,h0,fun p H4 r4 b4 np e4=>⟨bh,fun pt npt=>?_⟩⟩
  have s5:=ae (o:=.tup [.str "leaf",.ref t,.ref p]) npt
  have k4:=b4.kt ho3
  refine q _ _ (r4.same s5) (((cX s12).trans b4).same s5) ⟨pt,t,.ref p,rfl,ad,s5 _ _ (k4 _ _ e2),⟨p,rfl,s5 _ _ e4⟩⟩
theorem scBody:am ["reader","width","choices","body"] ["reader","width","choices"] (aj gI):=bG (by decide +kernel)
theorem ut (F:Fun K "read_body" "read_body" gI f fd) (T:tD P w K mg base C) (Z:mL K mg aS aE aF t1 t2 t3 t4) (LF:Fn P w K mg base "read_leaf" 4 ["reader","width"] (mM C)):FnOk P w K mg base bu 5 f fd ["reader","width","choices"] (mN C):=by
 have ZZ:=scBody
 walk_at "o"
 ·obtain ⟨a,l,ts,k,me,wv,n,rfl,hn,hR,h0,h1,h2,q⟩:=h
  have hr1:Room 1 _:=hr.mono (by decide)
  have hr2:Room 2 _:=hr.mono (by decide)
  refine ⟨_,af (bo (cc (pv 0) (aa (aH (aa ak ac)) ac)))
   (af (aQ (PW.pt (cm (ax ci (pv 2) (aX (v:=.int 3) rfl Z.mc ⟨_,rfl⟩) (az _)) (bU (ax bv (br (pv 0)) ak (az _))))) (ah bx) (ah (aB (i:=3) scBody.nd rfl (Or.inl rfl) (aq LF hr rfl (aa (pv 0) (aa (pv 1) ac))))))
   (af (bo (cc (pv 0) (aa (aH (aa ak ac)) ac)))
   (ah (al (pv 3))))),?_⟩
  obtain ⟨f1,fd1,M1,F1,B1⟩:=T.need
  obtain ⟨f3,fd3,M3,F3,B3⟩:=T.look
  obtain ⟨dx,ho⟩:=hR.ob
  refine ⟨_,rfl,a,dx,C,f1,_,fd1,2,["self","words"],_,rfl,ho,rfl,T.cl,M1,F1,hr2,B1,bh,fun p1 n1=>?_⟩
  have s1:=ae (o:=.tup [.str "{"]) n1
  refine ⟨a,l,ts,k,me,"{",p1,["{"],rfl,hR.same s1,h0,(.inr (SqT.of ad)),by simp,fun H1 r1 b1=>?_⟩
  obtain ⟨dx1,ho1⟩:=r1.ob
  refine ⟨_,rfl,_,_,rfl,rfl,_,rfl,bj (decide_eq_true (by lia)) ?_⟩
  refine ⟨_,rfl,a,dx1,C,f3,_,fd3,1,["self"],_,rfl,ho1,rfl,T.cl,M3,F3,hr1,B3,a,l,ts,k+1,me,"next",rfl,r1,h1,rfl,_,rfl,aP (by decide +kernel) ?_⟩
  refine ⟨_,rfl,_,rfl,a,l,ts,k+1,me,wv,rfl,r1,h1,fun u H2 r2 b2 hu=>?_⟩
  obtain ⟨dx2,ho2⟩:=r2.ob
  refine ⟨_,rfl,a,dx2,C,f1,_,fd1,2,["self","words"],_,rfl,ho2,rfl,T.cl,M1,F1,hr2,B1,bh,fun p2 n2=>?_⟩
  have s2:=ae (o:=.tup [.str "}"]) n2
  refine ⟨a,l,ts,k+2,me,"}",p2,["}"],rfl,r2.same s2,h2,(.inr (SqT.of ad)),by simp,fun H3 r3 b3=>?_⟩
  refine ⟨_,rfl,q u H3 r3 ((((cX s1).trans b1).trans b2).trans ((cX s2).trans b3)) ((hu.kt (be s2)).kt (b3.kt (s2 _ _ ho2)))⟩
theorem gV {α β:Type} {R:α->β->Prop} {x:α} {y:β} (h:R x y):∀ {xs:List α} {ys:List β},Paired R xs ys->Paired R (xs++[x]) (ys++[y])
 | _,_,.nil=>.cons h .nil
 | _,_,.cons a b=>.cons a (gV h b)
theorem cq {α β:Type} {R R':α->β->Prop} (f:∀ x y,R x y->R' x y):∀ {xs:List α} {ys:List β},Paired R xs ys->Paired R' xs ys
 | _,_,.nil=>.nil
 | _,_,.cons a b=>.cons (f _ _ a) (cq f b)
variable {xs ys:List V}
theorem lr (e:H l=some (.lst xs)):TupK H (aC H l (.lst ys)):=fun b us h=>by
 rw [aw]
 ·exact h
 ·rintro rfl
  rw [e] at h
  cases h
theorem FldV.kt {H H':Hp} (k:TupK H H') {x:Str×Str} (h:FldV H u x):FldV H' u x:=let ⟨p,a,b⟩:=h;⟨p,a,k _ _ b⟩
def mO (ts:List Str) (k:Nat) (fs:List (Str×Str)):Prop:=∀ i (h:i < fs.length),(tz ts)[k+3*i]?=some fs[i].1/\NameS fs[i].1/\(tz ts)[k+3*i+1]?=some fs[i].2/\fs[i].2∈cG/\(i+1 < fs.length->(tz ts)[k+3*i+2]?=some ",")
inductive iF (C:Addr) (vs:List V) (H:Hp) (Q:VK) (Z3:XK):Prop
 | mk (a l ts k me fs:_):vs=[.ref a]->RdO C H a l ts k me->(tz ts)[k]?=some "("->mO ts (k+1) fs->(tz ts)[k+1+(3*fs.length - 1)]?=some ")"->fs.length<=3->(∀ p us H',RdO C H' a l ts (k+2+(3*fs.length - 1)) me->ButO a H H'->H p=none->H' p=some (.tup us)->Paired (FldV H') us fs->Q (.ref p) H')->iF C vs H Q Z3
structure FI (C:Addr) (H:Hp) (a l:Addr) (ts:List Str) (k:Nat) (me:Bool) (fs:List (Str×Str)) (j:Nat) (lf:Addr) (H':Hp):Prop where
 rd:RdO C H' a l ts (k+(3*j - 1)) me
 bt:ButO a H H'
 nf:H lf=none
 la:lf≠a
 ll:lf≠l
 ls:∃ us,H' lf=some (.lst us)/\us.length=j/\Paired (FldV H') us (fs.take j)
theorem FI.more {k:Nat} {fs:List (Str×Str)} {j:Nat} {lf:Addr} {H3 H4:Hp} {p:Addr} {us:List V} (I:FI C H a l ts k me fs j lf H3) (hj:j < fs.length) (hk:TupK H3 H4) (e4:H4 lf=some (.lst us)) (hu:us.length=j) (hp:Paired (FldV H3) us (fs.take j))
  (r4:RdO C H4 a l ts (k+(3*(j+1) - 1)) me) (b4:ButO a H3 H4) (ep:H4 p=some (.tup [.str fs[j].1,.str fs[j].2])):FI C H a l ts k me fs (j+1) lf (aC H4 lf (.lst (us++[.ref p]))):=by
 have k2:=lr (ys:=us++[V.ref p]) e4
 refine ⟨⟨?_,?_,r4.le⟩,?_,I.nf,I.la,I.ll,us++[.ref p],ad,by simp [hu],?_⟩
 ·obtain ⟨dx,ho⟩:=r4.ob
  exact ⟨dx,by rw [aw I.la.symm];exact ho⟩
 ·rw [aw I.ll.symm]
  exact r4.tk
 ·intro b o e nb
  by_cases h:b=lf
  ·rw [h,I.nf] at e
   cases e
  ·rw [aw h]
   exact b4 _ _ (I.bt _ _ e nb) nb
 ·rw [Cj,BZ hj]
  exact gV ⟨p,rfl,k2 _ _ ep⟩ (cq (fun _ _ h=>(h.kt hk).kt k2) hp)
theorem scFields:am ["reader","fields"] ["reader"] (aj ei):=bG (by decide +kernel)
theorem ph (F:Fun K "read_fields" "read_fields" ei f fd) (T:tD P w K mg base C) (Z:mL K mg aS aE aF t1 t2 t3 t4) (B:Bl mg) (FL:Fn P w K mg base "read_field" 3 ["reader"] (jT C)):FnOk P w K mg base bu 4 f fd ["reader"] (iF C):=by
 have ZZ:=scFields
 walk_at "o"
 ·obtain ⟨a,l,ts,k,me,fs,rfl,hR,h0,hf,he,h3,q⟩:=h
  have hr1:Room 1 _:=hr.mono (by decide)
  have hr2:Room 2 _:=hr.mono (by decide)
  have sz:(1000:Nat)<=sizeLine:=by decide
  refine ⟨_,af (bo (cc (pv 0) (aa (aH (aa ak ac)) ac)))
   (af (aB (i:=1) scFields.nd rfl (Or.inl rfl) (aL ac))
   (cF (fun σ H'=>∃ j lf,j=min 1 fs.length/\σ=[some (.ref a),some (.ref lf)]/\FI C H a l ts (k+1) me fs j lf H') (aQ (ax nF (br (pv 0)) ak (az _)) (ah (bo (fj Cz Cw Cr cx (pv 1) (aa (aq FL hr rfl (aa (pv 0) ac)) ac)))) ay)
   (cF (fun σ H'=>∃ lf,σ=[some (.ref a),some (.ref lf)]/\FI C H a l ts (k+1) me fs fs.length lf H') (dm PassesOwn.never (PW.pt (cm (kD ci ci ai (aA aT (by rfl) B.len B7 (aa (pv 1) ac)) (aX (v:=.int 3) rfl Z.mf ⟨_,rfl⟩)) (bU (ax bv (br (pv 0)) ak (az _)))))
    (af (bo (br (pv 0))) (ah (bo (fj Cz Cw Cr cx (pv 1) (aa (aq FL hr rfl (aa (pv 0) ac)) ac))))))
   (af (bo (cc (pv 0) (aa (aH (aa ak ac)) ac)))
   (ah (al (aW bA (by rfl) B.tuple bq (aa (pv 1) ac)))))))),?_⟩
  obtain ⟨f1,fd1,M1,F1,B1⟩:=T.need
  obtain ⟨f2,fd2,M2,F2,B2⟩:=T.take
  obtain ⟨f3,fd3,M3,F3,B3⟩:=T.look
  obtain ⟨dx,ho⟩:=hR.ob
  refine ⟨_,rfl,a,dx,C,f1,_,fd1,2,["self","words"],_,rfl,ho,rfl,T.cl,M1,F1,hr2,B1,bh,fun p1 n1=>?_⟩
  have s1:=ae (o:=.tup [.str "("]) n1
  refine ⟨a,l,ts,k,me,"(",p1,["("],rfl,hR.same s1,h0,(.inr (SqT.of ad)),by simp,fun H1 r1 b1=>?_⟩
  have c1:ButO a H H1:=(cX s1).trans b1
  obtain ⟨dx1,ho1⟩:=r1.ob
  refine ⟨bh,fun lf nf=>?_⟩
  have s2:=ae (o:=.lst []) nf
  have e2:(aC H1 lf (.lst [])) lf=some (.lst []):=ad
  have nH:H lf=none:=eW c1 ho1 nf
  have laN:lf≠a:=by
   rintro rfl
   rw [nH] at ho
   cases ho
  have llN:lf≠l:=fun z=>by
   have:=hR.tk
   rw [<-z,nH] at this
   cases this
  have I0:FI C H a l ts (k+1) me fs 0 lf (aC H1 lf (.lst [])):=⟨r1.same s2,c1.same s2,nH,laN,llN,[],e2,rfl,.nil⟩
  generalize aC H1 lf (.lst ([]:List V))=H2 at *
  refine ⟨?_,?_⟩
  ·rintro σ H3 ⟨j0,lf,hj0,rfl,I3⟩
   refine ⟨?_,?_⟩
   ·rintro σ H4 ⟨lf,rfl,I4⟩
    obtain ⟨us,e4,l4,p4⟩:=I4.ls
    rw [Cg] at p4
    obtain ⟨dx4,ho4⟩:=I4.rd.ob
    refine ⟨_,rfl,a,dx4,C,f1,_,fd1,2,["self","words"],_,rfl,ho4,rfl,T.cl,M1,F1,hr2,B1,bh,fun p2 n2=>?_⟩
    have s4:=ae (o:=.tup [.str ")"]) n2
    refine ⟨a,l,ts,_,me,")",p2,[")"],rfl,I4.rd.same s4,he,(.inr (SqT.of ad)),by simp,fun H5 r5 b5=>?_⟩
    have e5:=b5 _ _ (s4 _ _ e4) I4.la
    have k5:=(be s4).trans (b5.kt (s4 _ _ ho4))
    obtain ⟨dx5,ho5⟩:=r5.ob
    have c5:ButO a H H5:=(I4.bt.same s4).trans b5
    refine ⟨_,rfl,lf,us,rfl,.inl ⟨SqL.of e5,fun p3 n3=>?_⟩⟩
    have s6:=ae (o:=.tup us) n3
    refine q p3 us _ ?_ (c5.same s6) (eW c5 ho5 n3) ad (cq (fun _ _ h=>(h.kt k5).kt (be s6)) p4)
    have:=r5.same s6
    have ee:k+1+(3*fs.length - 1)+1=k+2+(3*fs.length - 1):=by lia
    rw [ee] at this
    exact this
   ·refine ⟨fun m σ H'=>∃ j lf,m=fs.length - j/\j<=fs.length/\(0 < j\/fs.length=0)/\σ=[some (.ref a),some (.ref lf)]/\FI C H a l ts (k+1) me fs j lf H',⟨_,j0,lf,rfl,by lia,by lia,rfl,I3⟩,?_⟩
    rintro m σ H5 ⟨j,lf,rfl,hj,hj1,rfl,I5⟩
    obtain ⟨us,e5,l5,p5⟩:=I5.ls
    obtain ⟨dx5,ho5⟩:=I5.rd.ob
    have done:j=fs.length->∃ lf',[some (V.ref a),some (V.ref lf)]=[some (V.ref a),some (.ref lf')]/\FI C H a l ts (k+1) me fs fs.length lf' H5:=fun e=>⟨lf,rfl,e ▸ I5⟩
    by_cases hj0':0 < j
    ·by_cases hlt:j < fs.length
     ·refine ⟨_,rfl,lf,_,rfl,.inl (SqL.of e5),_,_,rfl,rfl,_,rfl,bj (decide_eq_true (by rw [l5];lia)) ⟨_,_,rfl,rfl,_,rfl,bj (decide_eq_true (by rw [l5];lia)) ?_⟩⟩
      obtain ⟨_,_,_,_,hcm⟩:=hf (j - 1) (by lia)
      have hcm':(tz ts)[k+1+(3*j - 1)]?=some ",":=by
       have:=hcm (by lia)
       rw [show k+1+3*(j - 1)+2=k+1+(3*j - 1) by lia] at this
       exact this
      refine ⟨_,rfl,a,dx5,C,f3,_,fd3,1,["self"],_,rfl,ho5,rfl,T.cl,M3,F3,hr1,B3,a,l,ts,_,me,",",rfl,I5.rd,hcm',rfl,_,rfl,bj (by decide +kernel) ?_⟩
      refine ⟨fun σ' H'=>σ'=[some (.ref a),some (.ref lf)]/\FI C H a l ts (k+1) me fs (j+1) lf H',fun σ' H' ⟨e1,e2⟩=>⟨_,by lia,j+1,lf,rfl,by lia,by lia,e1,e2⟩,?_⟩
      refine ⟨_,rfl,a,dx5,C,f2,_,fd2,1,["self"],_,rfl,ho5,rfl,T.cl,M2,F2,hr1,B2,a,l,ts,_,me,",",rfl,I5.rd,hcm',fun H6 r6 b6=>?_⟩
      obtain ⟨dx6,ho6⟩:=r6.ob
      have e6:=b6 _ _ e5 I5.la
      obtain ⟨g1,g2,g3,g4,_⟩:=hf j hlt
      have ek:k+1+(3*j - 1)+1=k+1+3*j:=by lia
      rw [ek] at r6
      refine ⟨_,rfl,.inl ⟨rfl,_,SqL.of e6⟩,_,rfl,a,l,ts,_,me,fs[j],rfl,r6,g1,g2,g3,g4,fun p H7 r7 b7 np ep=>?_⟩
      have e7:=b7 _ _ e6 I5.la
      have ek2:k+1+3*j+2=k+1+(3*(j+1) - 1):=by lia
      rw [ek2] at r7
      exact ⟨lf,us,_,rfl,rfl,e7,by rw [l5];lia,rfl,I5.more hlt ((b6.kt ho5).trans (b7.kt ho6)) e7 l5 p5 r7 (b6.trans b7) ep⟩
     ·have hje:j=fs.length:=by lia
      have he':(tz ts)[k+1+(3*j - 1)]?=some ")":=by rw [hje];exact he
      by_cases h3':j < 3
      ·refine ⟨_,rfl,lf,_,rfl,.inl (SqL.of e5),_,_,rfl,rfl,_,rfl,bj (decide_eq_true (by rw [l5];lia)) ⟨_,_,rfl,rfl,_,rfl,bj (decide_eq_true (by rw [l5];lia)) ?_⟩⟩
       refine ⟨_,rfl,a,dx5,C,f3,_,fd3,1,["self"],_,rfl,ho5,rfl,T.cl,M3,F3,hr1,B3,a,l,ts,_,me,")",rfl,I5.rd,he',rfl,_,rfl,aP (by decide +kernel) (done hje)⟩
      ·refine ⟨_,rfl,lf,_,rfl,.inl (SqL.of e5),_,_,rfl,rfl,_,rfl,bj (decide_eq_true (by rw [l5];lia)) ⟨_,_,rfl,rfl,_,rfl,aP (decide_eq_false (by rw [l5];lia)) (bz (done hje))⟩⟩
    ·have hje:j=fs.length:=by lia
     refine ⟨_,rfl,lf,_,rfl,.inl (SqL.of e5),_,_,rfl,rfl,_,rfl,aP (decide_eq_false (by rw [l5];lia)) ⟨_,rfl,bz (bz (done hje))⟩⟩
  ·obtain ⟨dx2,ho2⟩:=I0.rd.ob
   by_cases hz:0 < fs.length
   ·obtain ⟨g1,g2,g3,g4,_⟩:=hf 0 hz
    have nsc:fs[0].1≠(")":Str):=by
     intro z
     obtain ⟨_,_,_,hc⟩:=g2
     rw [z] at hc
     exact absurd (hc 41 (by decide +kernel)) (by lia)
    refine ⟨_,rfl,a,dx2,C,f3,_,fd3,1,["self"],_,rfl,ho2,rfl,T.cl,M3,F3,hr1,B3,a,l,ts,_,me,fs[0].1,rfl,I0.rd,g1,rfl,_,rfl,bj (by simpa using nsc) ?_⟩
    refine ⟨_,rfl,.inl ⟨rfl,_,SqL.of e2⟩,_,rfl,a,l,ts,_,me,fs[0],rfl,I0.rd,g1,g2,g3,g4,fun p H7 r7 b7 np ep=>?_⟩
    have e7:=b7 _ _ e2 I0.la
    exact ⟨lf,[],_,rfl,rfl,e7,by show 0 < sizeLine;decide,1,lf,by lia,rfl,I0.more hz (b7.kt ho2) e7 rfl .nil r7 b7 ep⟩
   ·have hz0:fs.length=0:=by lia
    have he':(tz ts)[k+1+(3*0 - 1)]?=some ")":=by rw [hz0] at he;exact he
    refine ⟨_,rfl,a,dx2,C,f3,_,fd3,1,["self"],_,rfl,ho2,rfl,T.cl,M3,F3,hr1,B3,a,l,ts,_,me,")",rfl,I0.rd,he',rfl,_,rfl,aP (by simp) ?_⟩
    exact ⟨0,lf,by lia,rfl,I0⟩
structure Kn where
 name:Str
 fs:List (Str×Str)
inductive KindV (H:Hp) (u:V) (x:Kn):Prop
 | mk (p tf b us:_):u=.ref p->H p=some (.tup [.str x.name,.ref tf,b])->H tf=some (.tup us)->Paired (FldV H) us x.fs->LeafV H b->KindV H u x
theorem KindV.kt {H H':Hp} (k:TupK H H') {x:Kn} (h:KindV H u x):KindV H' u x:=let ⟨p,tf,b,us,a,c,d,e,f⟩:=h;⟨p,tf,b,us,a,k _ _ c,k _ _ d,cq (fun _ _ h=>h.kt k) e,f.kt k⟩
def pi (x:Kn):Nat:=7+(3*x.fs.length - 1)
structure mP (ts:List Str) (k:Nat) (x:Kn):Prop where
 t0:(tz ts)[k]?=some "kind"
 t1:(tz ts)[k+1]?=some x.name
 nm:NameS x.name
 t2:(tz ts)[k+2]?=some "("
 fl:mO ts (k+3) x.fs
 t3:(tz ts)[k+3+(3*x.fs.length - 1)]?=some ")"
 le:x.fs.length<=3
 t4:(tz ts)[k+4+(3*x.fs.length - 1)]?=some "{"
 t5:(tz ts)[k+5+(3*x.fs.length - 1)]?=some "next"
 t6:(tz ts)[k+6+(3*x.fs.length - 1)]?=some "}"
inductive mQ (C:Addr) (vs:List V) (H:Hp) (Q:VK) (Z3:XK):Prop
 | mk (a l ts k me wv x:_):vs=[.ref a,wv]->RdO C H a l ts k me->mP ts k x->(∀ u H',RdO C H' a l ts (k+pi x) me->ButO a H H'->KindV H' u x->Q u H')->mQ C vs H Q Z3
theorem scKind:am ["reader","width","name","fields"] ["reader","width"] (aj gH):=bG (by decide +kernel)
theorem uu (F:Fun K "read_kind" "read_kind" gH f fd) (T:tD P w K mg base C) (FS:Fn P w K mg base "read_fields" 4 ["reader"] (iF C)) (BD:Fn P w K mg base "read_body" 5 ["reader","width","choices"] (mN C)):FnOk P w K mg base bu 6 f fd ["reader","width"] (mQ C):=by
 have ZZ:=scKind
 walk_at "o"
 ·obtain ⟨a,l,ts,k,me,wv,x,rfl,hR,hK,q⟩:=h
  have hr2:Room 2 _:=hr.mono (by decide)
  have hr4:Room 4 _:=hr.mono (by decide)
  refine ⟨_,af (bo (cc (pv 0) (aa (aH (aa ak ac)) ac)))
   (af (aB (i:=2) scKind.nd rfl (Or.inl rfl) (br (pv 0)))
   (af (aB (i:=3) scKind.nd rfl (Or.inl rfl) (aq FS hr4 rfl (aa (pv 0) ac)))
   (ah (al (aH (aa (pv 2) (aa (pv 3) (aa (aq BD hr rfl (aa (pv 0) (aa (pv 1) (aa ai ac)))) ac)))))))),?_⟩
  obtain ⟨f1,fd1,M1,F1,B1⟩:=T.need
  obtain ⟨f2,fd2,M2,F2,B2⟩:=T.nname
  obtain ⟨dx,ho⟩:=hR.ob
  refine ⟨_,rfl,a,dx,C,f1,_,fd1,2,["self","words"],_,rfl,ho,rfl,T.cl,M1,F1,hr2,B1,bh,fun p1 n1=>?_⟩
  have s1:=ae (o:=.tup [.str "kind"]) n1
  refine ⟨a,l,ts,k,me,"kind",p1,["kind"],rfl,hR.same s1,hK.t0,(.inr (SqT.of ad)),by simp,fun H1 r1 b1=>?_⟩
  obtain ⟨dx1,ho1⟩:=r1.ob
  refine ⟨_,rfl,a,dx1,C,f2,_,fd2,2,["self"],_,rfl,ho1,rfl,T.cl,M2,F2,hr2,B2,a,l,ts,k+1,me,x.name,rfl,r1,hK.t1,hK.nm,fun H2 r2 b2=>?_⟩
  refine ⟨_,rfl,a,l,ts,k+2,me,x.fs,rfl,r2,hK.t2,hK.fl,hK.t3,hK.le,fun tf us H3 r3 b3 nf e3 p3=>?_⟩
  obtain ⟨dx3,ho3⟩:=r3.ob
  have ek:k+2+2+(3*x.fs.length - 1)=k+4+(3*x.fs.length - 1):=by lia
  rw [ek] at r3
  have u5:(tz ts)[k+4+(3*x.fs.length - 1)+1]?=some "next":=by rw [show k+4+(3*x.fs.length - 1)+1=k+5+(3*x.fs.length - 1) by lia];exact hK.t5
  have u6:(tz ts)[k+4+(3*x.fs.length - 1)+2]?=some "}":=by rw [show k+4+(3*x.fs.length - 1)+2=k+6+(3*x.fs.length - 1) by lia];exact hK.t6
  refine ⟨_,rfl,_,rfl,_,rfl,_,rfl,a,l,ts,k+4+(3*x.fs.length - 1),me,wv,0,rfl,by decide,r3,hK.t4,u5,u6,fun u H4 r4 b4 hu=>⟨bh,fun pt npt=>?_⟩⟩
  have s5:=ae (o:=.tup [.str x.name,.ref tf,u]) npt
  have k4:=b4.kt ho3
  have r5:=r4.same s5
  rw [show k+4+(3*x.fs.length - 1)+3=k+pi x by unfold pi;lia] at r5
  exact q _ _ r5 ((((((cX s1).trans b1).trans b2).trans b3).trans b4).same s5) ⟨pt,tf,u,us,rfl,ad,s5 _ _ (k4 _ _ e3),cq (fun _ _ h=>(h.kt k4).kt (be s5)) p3,hu.kt (be s5)⟩
abbrev mS:Stmt:=aN (bH 43) 0
inductive jU (C:Addr) (vs:List V) (H:Hp) (Q:VK) (Z3:XK):Prop
 | mk (x dx lt ts:_):vs=[.ref x,.ref lt]->H x=some (.ins C dx [])->H lt=some (.lst (ap ts))->ts.length<=1500->(∀ l H',RdO C H' x l ts 0 true->ButO x H H'->Q .non H')->jU C vs H Q Z3
theorem uv:am ["self","tokens"] ["self","tokens"] (aj mS):=bG (by decide +kernel)
theorem uw (h:xs.length<=1500):fX xs none (some 1500)=xs:=by
 have e1:HT.sIx xs.length 0 none=0:=rfl
 have e2:HT.sIx xs.length xs.length (some 1500)=xs.length:=by
  simp only [HT.sIx]
  rw [if_neg (by decide)]
  show min 1500 xs.length=xs.length
  lia
 unfold fX
 rw [e1,e2]
 simp
theorem qP (F:Fun K "__init__" "Reader.__init__" mS f fd) (T:Rc K C) (B:Bl mg) (hm:mg "MOST_TOKENS"=some (.int 1500 t5)):FnOk P w K mg base bu 1 f fd ["self","tokens"] (jU C):=by
 have ZZ:=uv
 walk_at "o"
 ·obtain ⟨x,dx,lt,ts,rfl,hx,hl,h15,q⟩:=h
  refine ⟨_,af (bB (pv 0) (bi dI (cN hJ (pv 1) fW (cC (aX (v:=.int 1500) rfl hm ⟨_,rfl⟩))) (aL (aa ak ac))) rfl)
   (af (bB (pv 0) ai rfl) (ah (bB (pv 0) (aZ dW (aA aT (by rfl) B.len B7 (aa (pv 1) ac)) (aX (v:=.int 1500) rfl hm ⟨_,rfl⟩) (az _)) rfl))),?_⟩
  have lv:(ap ts).length<=1500:=by unfold ap;rw [BJ];exact h15
  have sz:(10000:Nat)<=sizeLine:=by decide
  refine ⟨_,rfl,_,rfl,lt,_,rfl,SqL.of hl,fun p1 n1=>?_⟩
  rw [uw lv]
  generalize zz:aC H p1 _=H1
  have s1:Same H H1:=zz ▸ ae n1
  have e1:H1 p1=some (.lst (ap ts)):=zz ▸ ad
  clear zz
  refine ⟨bh,fun p2 n2=>?_⟩
  have s2:=ae (o:=.lst [.str ""]) n2
  have s12:=s1.trans s2
  refine ⟨p1,p2,_,_,rfl,rfl,s2 _ _ e1,ad,by show _+1<=_;lia,fun l nl=>?_⟩
  have s3:=ae (o:=.lst (ap ts++[.str ""])) nl
  have s13:=s12.trans s3
  have el:(aC (aC H1 p2 (.lst [.str ""])) l (.lst (ap ts++[.str ""]))) l=some (.lst (ap (ts++[("":Str)]))):=by
   rw [ad]
   unfold ap
   rw [BR]
   rfl
  have nlH:H l=none:=s12.free nl
  generalize aC (aC H1 p2 (.lst [V.str ""])) l (.lst (ap ts++[V.str ""]))=H3 at *
  have lx:l≠x:=by
   rintro rfl
   rw [nlH] at hx
   cases hx
  have ltx:lt≠x:=by
   rintro rfl
   rw [hl] at hx
   cases hx
  refine ⟨_,rfl,x,C,dx,_,rfl,s13 _ _ hx,T.cl,T.n1,(by show 0 < 1000;decide),?_⟩
  refine ⟨_,rfl,x,C,dx,_,rfl,ad,T.cl,T.n2,(by show 1 < 1000;decide),?_⟩
  have hl3:(aC (aC H3 x (.ins C dx (aM "tokens" (.ref l) []))) x (.ins C dx (aM "spot" (.int 0) (aM "tokens" (.ref l) [])))) lt=some (.lst (ap ts)):=by rw [aw ltx,aw ltx];exact s13 _ _ hl
  refine ⟨_,rfl,lt,_,rfl,.inl (SqL.of hl3),_,_,rfl,rfl,?_⟩
  refine ⟨_,rfl,x,C,dx,_,rfl,ad,T.cl,T.n3,(by show 2 < 1000;decide),?_⟩
  have hd:decide (((ap ts).length:Int)<=1500)=true:=decide_eq_true (by lia)
  have eF:(aM "may_end" (.bl (decide (((ap ts).length:Int)<=1500))) (aM "spot" (.int 0) (aM "tokens" (.ref l) [])))=tq l 0 true:=by rw [hd];rfl
  refine q l _ ⟨⟨dx,?_⟩,?_,h15⟩ ?_
  ·rw [ad]
   exact congrArg some (congrArg (HO.ins C dx) eF)
  ·rw [aw lx,aw lx,aw lx]
   exact el
  ·intro b o e nb
   rw [aw nb,aw nb,aw nb]
   exact s13 _ _ e
structure Fm where
 width:Nat
 cells:Nat
 depth:Nat
 places:List Str
 marks:List Str
 gates:List Str
 kinds:List Kn
def hZ (ts:List Str):Nat->List Kn->Prop
 | k,[]=>k=ts.length
 | k,x::r=>mP ts k x/\hZ ts (k+pi x) r
structure mU (ts:List Str) (D:Fm):Prop where
 a0:(tz ts)[0]?=some ("word":Str)
 a1:(tz ts)[1]?=some (toString (D.width:Int):Str)
 a2:(tz ts)[2]?=some (";":Str)
 a3:(tz ts)[3]?=some ("cells":Str)
 a4:(tz ts)[4]?=some (toString (D.cells:Int):Str)
 a5:(tz ts)[5]?=some (";":Str)
 a6:(tz ts)[6]?=some ("depth":Str)
 a7:(tz ts)[7]?=some (toString (D.depth:Int):Str)
 a8:(tz ts)[8]?=some (";":Str)
 a9:(tz ts)[9]?=some ("places":Str)
 pn:lq ts 10 D.places
 pe:(tz ts)[10+D.places.length]?=some (";":Str)
 m9:(tz ts)[11+D.places.length]?=some ("marks":Str)
 mn:lq ts (12+D.places.length) D.marks
 me:(tz ts)[12+D.places.length+D.marks.length]?=some (";":Str)
 g9:(tz ts)[13+D.places.length+D.marks.length]?=some ("gate":Str)
 gn:lq ts (14+D.places.length+D.marks.length) D.gates
 ge:(tz ts)[14+D.places.length+D.marks.length+D.gates.length]?=some (";":Str)
 ks:hZ ts (15+D.places.length+D.marks.length+D.gates.length) D.kinds
 bw:4<=D.width/\D.width<=24
 bc:4<=D.cells/\D.cells<=64
 bd:D.depth<=8
 bp:1<=D.places.length/\D.places.length<=4
 bm:D.marks.length<=3
 bg:D.gates.length<=1
 bk:1<=D.kinds.length/\D.kinds.length<=8
inductive qQ (H:Hp) (u:V) (D:Fm):Prop
 | mk (p pp pm pg pk us:_):u=.ref p->H p=some (.tup [.int D.width,.int D.cells,.int D.depth,.ref pp,.ref pm,.ref pg,.ref pk])->H pp=some (.tup (ap D.places))->H pm=some (.tup (ap D.marks))->H pg=some (.tup (ap D.gates))->H pk=some (.tup us)->Paired (KindV H) us D.kinds->qQ H u D
inductive mV (vs:List V) (H:Hp) (Q:VK) (Z3:XK):Prop
 | mk (lt ts D:_):vs=[.ref lt]->H lt=some (.lst (ap ts))->ts.length<=1500->mU ts D->(∀ u H',Same H H'->qQ H' u D->Q u H')->mV vs H Q Z3
theorem dC {H Hc H':Hp} (na:H a=none) (sc:Same H Hc) (b:ButO a Hc H'):Same H H':=fun c o e=>b c o (sc c o e) (aU e na)
structure KI (C:Addr) (Hc:Hp) (a l:Addr) (ts:List Str) (all done rest:List Kn) (lk pp pm pg:Addr) (D:Fm) (H':Hp):Prop where
 sp:all=done++rest
 rd:∃ k,RdO C H' a l ts k true/\hZ ts k rest
 bt:ButO a Hc H'
 nk:Hc lk=none
 la:lk≠a
 ll:lk≠l
 ep:H' pp=some (.tup (ap D.places))
 em:H' pm=some (.tup (ap D.marks))
 eg:H' pg=some (.tup (ap D.gates))
 ls:∃ us,H' lk=some (.lst us)/\us.length=done.length/\Paired (KindV H') us done
theorem scForm:am ["tokens","reader","width","cells","depth","places","marks","gates","kinds"] ["tokens"] (aj gG):=bG (by decide +kernel)
theorem ux {fdi:FuncData} (F:Fun K "read_form" "read_form" gG f fd) (T:tD P w K mg base C) (Z:mL K mg aS aE aF t1 t2 t3 t4) (B:Bl mg) (MK:Mk K C fi) (mgR:mg "Reader"=some (.ref C)) (IN:FnOk P w K mg base bu 1 fi fdi ["self","tokens"] (jU C)) (bI:Binds K fdi ["self","tokens"] [])
  (BO:Fn P w K mg base "read_bounded" 4 ["reader","word","low","high"] (gM C)) (NA:Fn P w K mg base "read_names" 3 ["reader","word","least","most"] (jS C)) (KD:Fn P w K mg base "read_kind" 6 ["reader","width"] (mQ C)):FnOk P w K mg base bu 7 f fd ["tokens"] mV:=by
 have ZZ:=scForm
 walk_at "o"
 ·obtain ⟨lt,ts,D,rfl,hl,h15,hF,q⟩:=h
  have hr1:Room 1 _:=hr.mono (by decide)
  have hr2:Room 2 _:=hr.mono (by decide)
  have hr3:Room 3 _:=hr.mono (by decide)
  have hr4:Room 4 _:=hr.mono (by decide)
  have sz:(10000:Nat)<=sizeLine:=by decide
  refine ⟨_,af (aB (i:=1) scForm.nd rfl (Or.inl rfl) (cM MK IN hr2 rfl mgR bI .nil cP (aa (pv 0) ac)))
   (af (aB (i:=2) scForm.nd rfl (Or.inl rfl) (aq BO hr4 rfl (aa (pv 1) (aa ak (aa ai (aa ai ac))))))
   (af (aB (i:=3) scForm.nd rfl (Or.inl rfl) (aq BO hr4 rfl (aa (pv 1) (aa ak (aa ai (aa ai ac))))))
   (af (aB (i:=4) scForm.nd rfl (Or.inl rfl) (aq BO hr4 rfl (aa (pv 1) (aa ak (aa ai (aa ai ac))))))
   (af (aB (i:=5) scForm.nd rfl (Or.inl rfl) (aq NA hr3 rfl (aa (pv 1) (aa ak (aa ai (aa ai ac))))))
   (af (aB (i:=6) scForm.nd rfl (Or.inl rfl) (aq NA hr3 rfl (aa (pv 1) (aa ak (aa ai (aa ai ac))))))
   (af (aB (i:=7) scForm.nd rfl (Or.inl rfl) (aq NA hr3 rfl (aa (pv 1) (aa ak (aa ai (aa ai ac))))))
   (af (aB (i:=8) scForm.nd rfl (Or.inl rfl) (aL (aa (aq KD hr rfl (aa (pv 1) (aa (pv 2) ac))) ac)))
   (af (dm PassesOwn.never (PW.pt (cm (ax ci (aA aT (by rfl) B.len B7 (aa (pv 8) ac)) (aX (v:=.int 8) rfl Z.mkn ⟨_,rfl⟩) (az _)) (bU (ax bv (br (pv 1)) ak (az _)))))
    (ah (bo (fj Cz Cw Cr cx (pv 8) (aa (aq KD hr rfl (aa (pv 1) (aa (pv 2) ac))) ac)))))
   (af (bo (br (pv 1)))
   (ah (al (aH (aa (pv 2) (aa (pv 3) (aa (pv 4) (aa (pv 5) (aa (pv 6) (aa (pv 7) (aa (aW bA (by rfl) B.tuple bq (aa (pv 8) ac)) ac))))))))))))))))))),?_⟩
  obtain ⟨f3,fd3,M3,F3,B3⟩:=T.look
  obtain ⟨f4,fd4,M4,F4,B4⟩:=T.nend
  refine ⟨_,rfl,fun a dx na nd ne=>⟨a,dx,lt,ts,rfl,ad,?_,h15,fun l H1 r1 b1=>⟨rfl,?_⟩⟩⟩
  ·exact (aG na (ae nd)) _ _ hl
  have s1:Same H H1:=dC na (aG na (ae nd)) b1
  have naH:=na
  clear b1
  refine ⟨_,rfl,a,l,ts,0,true,"word",D.width,4,24,rfl,r1,hF.a0,hF.a1,hF.a2,by have:=hF.bw;lia,hF.bw.1,hF.bw.2,fun H2 r2 b2=>?_⟩
  refine ⟨_,rfl,a,l,ts,3,true,"cells",D.cells,4,64,rfl,r2,hF.a3,hF.a4,hF.a5,by have:=hF.bc;lia,hF.bc.1,hF.bc.2,fun H3 r3 b3=>?_⟩
  refine ⟨_,rfl,a,l,ts,6,true,"depth",D.depth,0,8,rfl,r3,hF.a6,hF.a7,hF.a8,by have:=hF.bd;lia,Cy _,hF.bd,fun H4 r4 b4=>?_⟩
  have b14:=(b2.trans b3).trans b4
  refine ⟨_,rfl,a,l,ts,9,true,"places",D.places,1,4,rfl,r4,hF.a9,hF.pn,hF.pe,hF.bp.1,hF.bp.2,by decide,fun pp H5 r5 b5 np5 e5=>?_⟩
  refine ⟨_,rfl,a,l,ts,9+2+D.places.length,true,"marks",D.marks,0,3,rfl,r5,?_,?_,?_,Cy _,hF.bm,by decide,fun pm H6 r6 b6 np6 e6=>?_⟩
  ·exact hF.m9
  ·rw [show 9+2+D.places.length+1=12+D.places.length by lia];exact hF.mn
  ·rw [show 9+2+D.places.length+1+D.marks.length=12+D.places.length+D.marks.length by lia];exact hF.me
  obtain ⟨dx5,ho5⟩:=r5.ob
  have e5':=(b6.kt ho5) _ _ e5
  refine ⟨_,rfl,a,l,ts,9+2+D.places.length+2+D.marks.length,true,"gate",D.gates,0,1,rfl,r6,?_,?_,?_,Cy _,hF.bg,by decide,fun pg H7 r7 b7 np7 e7=>?_⟩
  ·rw [show 9+2+D.places.length+2+D.marks.length=13+D.places.length+D.marks.length by lia];exact hF.g9
  ·rw [show 9+2+D.places.length+2+D.marks.length+1=14+D.places.length+D.marks.length by lia];exact hF.gn
  ·rw [show 9+2+D.places.length+2+D.marks.length+1+D.gates.length=14+D.places.length+D.marks.length+D.gates.length by lia];exact hF.ge
  obtain ⟨dx6,ho6⟩:=r6.ob
  have e5'':=(b7.kt ho6) _ _ e5'
  have e6':=(b7.kt ho6) _ _ e6
  rw [show 9+2+D.places.length+2+D.marks.length+2+D.gates.length=15+D.places.length+D.marks.length+D.gates.length by lia] at r7
  have b17:ButO a H1 H7:=((b14.trans b5).trans b6).trans b7
  have hks:=hF.ks
  have hbk:=hF.bk
  generalize 15+D.places.length+D.marks.length+D.gates.length=k0 at *
  obtain ⟨x0,rest0,hk0⟩:∃ x r,D.kinds=x::r:=by
   cases hh:D.kinds with
   | nil=>rw [hh] at hbk;simp at hbk
   | cons x r=>exact ⟨x,r,rfl⟩
  rw [hk0] at hks hbk
  obtain ⟨hK0,hks'⟩:=hks
  refine ⟨_,rfl,_,rfl,a,l,ts,k0,true,.int D.width,x0,rfl,r7,hK0,fun u0 H8 r8 b8 hu0=>?_⟩
  obtain ⟨dx7,ho7⟩:=r7.ob
  have kk8:=b8.kt ho7
  refine ⟨bh,fun lk nk=>?_⟩
  have s9:=ae (o:=.lst [u0]) nk
  have b19:ButO a H1 (aC H8 lk (.lst [u0])):=(b17.trans b8).same s9
  obtain ⟨dx8,ho8⟩:=r8.ob
  obtain ⟨dx1,ho1⟩:=r1.ob
  have nkH1:H1 lk=none:=eW (b17.trans b8) ho8 nk
  have lka:lk≠a:=by
   rintro rfl
   rw [ho8] at nk
   cases nk
  have lkl:lk≠l:=fun z=>by
   have:=r8.tk
   rw [<-z,nk] at this
   cases this
  have I0:KI C H1 a l ts D.kinds [x0] rest0 lk pp pm pg D (aC H8 lk (.lst [u0])):=⟨hk0,⟨_,r8.same s9,hks'⟩,b19,nkH1,lka,lkl,s9 _ _ (kk8 _ _ e5''),s9 _ _ (kk8 _ _ e6'),s9 _ _ (kk8 _ _ e7),[u0],ad,rfl,.cons (hu0.kt (be s9)) .nil⟩
  generalize aC H8 lk (.lst [u0])=H9 at *
  refine ⟨fun m σ H'=>∃ done rest,m=rest.length/\σ=[some (.ref lt),some (.ref a),some (.int D.width),some (.int D.cells),some (.int D.depth),some (.ref pp),some (.ref pm),some (.ref pg),some (.ref lk)]/\KI C H1 a l ts D.kinds done rest lk pp pm pg D H',⟨_,[x0],rest0,rfl,rfl,I0⟩,?_⟩
  rintro m σ Ha ⟨done,rest,rfl,rfl,I⟩
  obtain ⟨us,ek,lu,pu⟩:=I.ls
  obtain ⟨k,rk,hkr⟩:=I.rd
  obtain ⟨dxa,hoa⟩:=rk.ob
  have hall:done.length+rest.length<=8:=by
   have:=congrArg List.length I.sp
   rw [BN,hk0] at this
   simp only [BS] at this hbk
   lia
  cases rest with
  | cons x r=>
   obtain ⟨hKx,hkr'⟩:=hkr
   have hlt:done.length < 8:=by simp only [BS] at hall;lia
   refine ⟨_,rfl,lk,_,rfl,.inl (SqL.of ek),_,_,rfl,rfl,_,rfl,bj (decide_eq_true (by rw [lu];lia)) ?_⟩
   refine ⟨_,rfl,a,dxa,C,f3,_,fd3,1,["self"],_,rfl,hoa,rfl,T.cl,M3,F3,hr1,B3,a,l,ts,k,true,"kind",rfl,rk,hKx.t0,rfl,_,rfl,bj (by decide +kernel) ?_⟩
   refine ⟨fun σ' H'=>σ'=[some (.ref lt),some (.ref a),some (.int D.width),some (.int D.cells),some (.int D.depth),some (.ref pp),some (.ref pm),some (.ref pg),some (.ref lk)]/\KI C H1 a l ts D.kinds (done++[x]) r lk pp pm pg D H',fun σ' H' ⟨e1,e2⟩=>⟨r.length,by simp,done++[x],r,rfl,e1,e2⟩,?_⟩
   refine ⟨_,rfl,.inl ⟨rfl,_,SqL.of ek⟩,_,rfl,_,rfl,a,l,ts,k,true,.int D.width,x,rfl,rk,hKx,fun u Hb rb bb hu=>?_⟩
   have kb:=bb.kt hoa
   have eb:=bb _ _ ek I.la
   have k2:=lr (ys:=us++[u]) eb
   refine ⟨lk,us,_,rfl,rfl,eb,by rw [lu];lia,rfl,?_⟩
   refine ⟨by rw [I.sp,Cu];rfl,⟨_,⟨?_,?_,rb.le⟩,hkr'⟩,?_,I.nk,I.la,I.ll,k2 _ _ (kb _ _ I.ep),k2 _ _ (kb _ _ I.em),k2 _ _ (kb _ _ I.eg),us++[u],ad,by simp [lu],gV (hu.kt k2) (cq (fun _ _ h=>(h.kt kb).kt k2) pu)⟩
   ·obtain ⟨dxb,hob⟩:=rb.ob
    exact ⟨dxb,by rw [aw I.la.symm];exact hob⟩
   ·rw [aw I.ll.symm]
    exact rb.tk
   ·intro b o e nb
    by_cases h:b=lk
    ·rw [h,I.nk] at e
     cases e
    ·rw [aw h]
     exact bb _ _ (I.bt _ _ e nb) nb
  | nil=>
   have hkE:k=ts.length:=hkr
   have hdone:D.kinds=done:=by rw [I.sp,Cv]
   have lend:(tz ts)[k]?=some "":=by rw [hkE];simp [tz]
   have nke:("":Str)≠("kind":Str):=by decide +kernel
   have sH:Same H Ha:=dC naH s1 I.bt
   by_cases h8:done.length < 8
   ·refine ⟨_,rfl,lk,_,rfl,.inl (SqL.of ek),_,_,rfl,rfl,_,rfl,bj (decide_eq_true (by rw [lu];lia)) ?_⟩
    refine ⟨_,rfl,a,dxa,C,f3,_,fd3,1,["self"],_,rfl,hoa,rfl,T.cl,M3,F3,hr1,B3,a,l,ts,k,true,"",rfl,rk,lend,rfl,_,rfl,aP (by decide +kernel) ?_⟩
    refine ⟨_,rfl,a,dxa,C,f4,_,fd4,1,["self"],_,rfl,hoa,rfl,T.cl,M4,F4,hr1,B4,a,l,ts,k,rfl,rk,hkE,?_⟩
    refine ⟨_,rfl,_,rfl,_,rfl,_,rfl,_,rfl,_,rfl,_,rfl,lk,us,rfl,.inl ⟨SqL.of ek,fun pk npk=>⟨bh,fun pt npt=>?_⟩⟩⟩
    have s10:=ae (o:=.tup us) npk
    have s11:=ae (o:=.tup [.int D.width,.int D.cells,.int D.depth,.ref pp,.ref pm,.ref pg,.ref pk]) npt
    have s12:=s10.trans s11
    exact q _ _ (sH.trans s12) ⟨pt,pp,pm,pg,pk,us,rfl,ad,s12 _ _ I.ep,s12 _ _ I.em,s12 _ _ I.eg,s11 _ _ ad,by rw [hdone];exact cq (fun _ _ h=>h.kt (be s12)) pu⟩
   ·refine ⟨_,rfl,lk,_,rfl,.inl (SqL.of ek),_,_,rfl,rfl,_,rfl,aP (decide_eq_false (by rw [lu];lia)) (bz ?_)⟩
    refine ⟨_,rfl,a,dxa,C,f4,_,fd4,1,["self"],_,rfl,hoa,rfl,T.cl,M4,F4,hr1,B4,a,l,ts,k,rfl,rk,hkE,?_⟩
    refine ⟨_,rfl,_,rfl,_,rfl,_,rfl,_,rfl,_,rfl,_,rfl,lk,us,rfl,.inl ⟨SqL.of ek,fun pk npk=>⟨bh,fun pt npt=>?_⟩⟩⟩
    have s10:=ae (o:=.tup us) npk
    have s11:=ae (o:=.tup [.int D.width,.int D.cells,.int D.depth,.ref pp,.ref pm,.ref pg,.ref pk]) npt
    have s12:=s10.trans s11
    exact q _ _ (sH.trans s12) ⟨pt,pp,pm,pg,pk,us,rfl,ad,s12 _ _ I.ep,s12 _ _ I.em,s12 _ _ I.eg,s11 _ _ ad,by rw [hdone];exact cq (fun _ _ h=>h.kt (be s12)) pu⟩
def KvR (H:Hp) (kv:cz×V) (x:Str×Str):Prop:=kv.1=Sum.inr x.1/\∃ p sl,kv.2=.ref p/\H p=some (.tup [.str x.2,sl])
inductive NmI (H:Hp) (d:Addr) (ks:List (Str×Str)):Prop
 | mk (kvs:_):H d=some (.dK kvs)->Paired (KvR H) kvs ks->NmI H d ks
theorem KvR.kt {H H':Hp} (k:TupK H H') {kv:cz×V} {x:Str×Str} (h:KvR H kv x):KvR H' kv x:=let ⟨a,p,sl,b,c⟩:=h;⟨a,p,sl,b,k _ _ c⟩
theorem vP {xs ys:List (cz×V)} (e:H l=some (.dK xs)):TupK H (aC H l (.dK ys)):=fun b us h=>by
 rw [aw]
 ·exact h
 ·rintro rfl
  rw [e] at h
  cases h
theorem qR:∀ {kvs:List (cz×V)} {ks:List (Str×Str)},Paired (KvR H) kvs ks->∀ {z:Str},z∉ks.map (·.1)->cr kvs (Sum.inr z)=none
 | _,_,.nil,_,_=>kO
 | _,_,.cons (a:=kv) (b:=x) h t,z,hz=>by
  rw [bR]
  ·exact qR t (fun m=>hz (BV _ m))
  ·intro e
   rw [h.1] at e
   have:=Sum.inr.inj e
   exact hz (by rw [B6,this];exact BQ)
theorem nY:∀ {kvs:List (cz×V)} {ks:List (Str×Str)},Paired (KvR H) kvs ks->∀ {z s:Str},(z,s)∈ks->(ks.map (·.1)).Nodup->∃ p sl,cr kvs (Sum.inr z)=some (.ref p)/\H p=some (.tup [.str s,sl])
 | _,_,.nil,_,_,m,_=>by cases m
 | _,_,.cons (a:=kv) (b:=x) h t,z,s,m,nd=>by
  rw [B6,Dg] at nd
  rcases BW.mp m with e|m'
  ·obtain ⟨e1,p,sl,e2,e3⟩:=h
   subst e
   refine ⟨p,sl,?_,e3⟩
   rw [cb e1,e2]
  ·have hne:¬ kv.1=Sum.inr z:=by
    intro e
    rw [h.1] at e
    have:=Sum.inr.inj e
    exact nd.1 (by rw [this];exact CM.mpr ⟨(z,s),m',rfl⟩)
   rw [bR hne]
   exact nY t m' nd.2
inductive eX (vs:List V) (H:Hp) (Q:VK) (Z3:XK):Prop
 | mk (d ks nm st sl:_):vs=[.ref d,.str nm,.str st,sl]->NmI H d ks->nm∉ks.map (·.1)->ks.length<=20->(∀ H',NmI H' d (ks++[(nm,st)])->ButO d H H'->Q .non H')->eX vs H Q Z3
inductive eE (K:ZF) (vs:List V) (H:Hp) (Q:VK) (Z3:XK):Prop
 | mk (d ks nm st p xs:_):vs=[.ref d,.str nm,.ref p]->NmI H d ks->(nm,st)∈ks->(ks.map (·.1)).Nodup->(SqL K H p (ap xs)\/SqT K H p (ap xs))->st∈xs->(∀ q sl H',Same H H'->H' q=some (.tup [.str st,sl])->Q (.ref q) H')->eE K vs H Q Z3
theorem pj:am ["names","name","sort","sel"] ["names","name","sort","sel"] (aj iB):=bG (by decide +kernel)
theorem mW (F:Fun K "add_name" "add_name" iB f fd):FnOk P w K mg base bu 1 f fd ["names","name","sort","sel"] eX:=by
 have ZZ:=pj
 walk_at "o"
 ·obtain ⟨d,ks,nm,st,sl,rfl,hN,hm,hk,q⟩:=h
  have hu:=nO hr
  refine ⟨_,af (aQ (lS (qy hu (pv 1) (pv 0))) (ah bx) ay) (ah (nV hu (pv 0) (pv 1) (aH (aa (pv 2) (aa (pv 3) ac))) rfl)),?_⟩
  obtain ⟨kvs,hd,hp⟩:=hN
  have hno:=qR hp hm
  have lk:=hp.length
  have szz:(1000:Nat)<=sizeLine:=by decide
  have g:DGet H d (.str nm) none:=by
   have:=DGet.k (k:=Sum.inr nm) hd
   rw [hno] at this
   exact this
  refine ⟨_,rfl,_,rfl,d,_,rfl,g,_,rfl,bz ?_⟩
  refine ⟨_,rfl,_,rfl,bh,fun p np=>?_⟩
  have s1:=ae (o:=.tup [.str st,sl]) np
  have hd1:=s1 _ _ hd
  have ep:(aC H p (.tup [.str st,sl])) p=some (.tup [.str st,sl]):=ad
  generalize aC H p (.tup [V.str st,sl])=H1 at *
  refine ⟨_,rfl,_,rfl,d,_,rfl,DPut.k (k:=Sum.inr nm) hd1 (by lia),?_⟩
  rw [kR _ hno]
  have k1:=vP (ys:=kvs++[(Sum.inr nm,V.ref p)]) hd1
  refine q _ ⟨_,ad,gV ⟨rfl,p,sl,rfl,k1 _ _ ep⟩ (cq (fun _ _ h=>(h.kt (be s1)).kt k1) hp)⟩ (fun b o e nb=>?_)
  rw [aw nb]
  exact s1 _ _ e
def xg:Sp:=fun _ _ _ _=>False
theorem uy {k:Nat}:FnOk P w K mg base bu k f fd ps xg:=⟨fun _ _ _ _ h=>h.elim,fun _ _ _ _ _ _ _ _ _ _ _ _ _ h=>h.elim⟩
inductive jV (vs:List V) (H:Hp) (Q:VK) (Z3:XK):Prop
 | mk (d e:_):vs=[d,e]->NextV H e->(∀ H',Same H H'->Q e H')->jV vs H Q Z3
inductive iG (vs:List V) (H:Hp) (Q:VK) (Z3:XK):Prop
 | mk (d u:_):vs=[d,u]->LeafV H u->(∀ u' H',Same H H'->LeafV H' u'->Q u' H')->iG vs H Q Z3
theorem scNeedKnown:am ["names","name","sorts","sort","sel"] ["names","name","sorts"] (aj fE):=bG (by decide +kernel)
theorem jW (F:Fun K "need_known" "need_known" fE f fd):FnOk P w K mg base bu 1 f fd ["names","name","sorts"] (eE K):=by
 have ZZ:=scNeedKnown
 walk_at "o"
 ·obtain ⟨d,ks,nm,st,p,xs,rfl,hN,hm,hnd,hq,hs,q⟩:=h
  have hu:=nO hr
  refine ⟨_,af (aQ (lS (o5 hu (pv 1) (pv 0))) (ah bx) ay)
   (af (ig (nU hu (pv 0) (pv 1) (fun _ _=>rfl)) (c9 rfl (aR (aI (i:=3) scNeedKnown.nd rfl (Or.inl rfl)) (aR (aI (i:=4) scNeedKnown.nd rfl (Or.inl rfl)) cg))))
   (af (aQ (ax cD (pv 3) (pv 2) rfl) (ah bx) ay)
   (ah (al (aH (aa (pv 3) (aa (pv 4) ac))))))),?_⟩
  obtain ⟨kvs,hd,hp⟩:=hN
  obtain ⟨p0,sl,hv,e0⟩:=nY hp hm hnd
  have g:DGet H d (.str nm) (some (.ref p0)):=by
   have:=DGet.k (k:=Sum.inr nm) hd
   rw [hv] at this
   exact this
  refine ⟨_,rfl,_,rfl,d,_,rfl,g,_,rfl,bz ?_⟩
  refine ⟨_,rfl,_,rfl,d,_,rfl,g,p0,_,rfl,SqT.of e0,rfl,_,_,rfl,_,_,rfl,rfl,?_⟩
  refine ⟨_,rfl,_,rfl,p,ap xs,rfl,hq,rfl,bC _,_,rfl,aP ?_ ?_⟩
  ·show (!eQ (.str st) (ap xs))=false
   rw [bM,CC.mpr hs]
   rfl
  ·refine ⟨_,rfl,_,rfl,bh,fun t nt=>?_⟩
   exact q t sl _ (ae nt) ad
theorem uz:am ["names","end"] ["names","end"] (aj mC):=bG (by decide +kernel)
theorem qS (F:Fun K "end_of" "end_of" mC f fd):FnOk P w K mg base bu 1 f fd ["names","end"] jV:=by
 have ZZ:=uz
 walk_at "o"
 ·obtain ⟨d,e,rfl,⟨p,rfl,hp⟩,q⟩:=h
  refine ⟨_,af (aQ (ax bO (au av (pv 1) ai (fun _ _=>rfl)) (aH (aa ak (aa ak ac))) rfl) (ah bx) ay) (ah (al (pv 1))),?_⟩
  refine ⟨_,rfl,p,_,_,_,rfl,rfl,SqT.of hp,rfl,bh,fun t nt=>?_⟩
  have s1:=ae (o:=.tup [.str "go",.str "call"]) nt
  refine ⟨t,_,rfl,.inr (SqT.of ad),rfl,by decide +kernel,_,rfl,aP (by decide +kernel) ?_⟩
  exact ⟨_,rfl,q _ s1⟩
theorem scDeedOf:am ["names","body","test","yes","sets"] ["names","body"] (aj hX):=bG (by decide +kernel)
theorem BG:(["given","names"]:List Str).Nodup:=by decide +kernel
theorem pq (F:Fun K "deed_of" "deed_of" hX f fd) (B:Bl mg) (EO:Fn P w K mg base "end_of" 1 ["names","end"] jV) (SO:Fn P w K mg base "set_of" 1 ["names","given"] xg):FnOk P w K mg base bu 2 f fd ["names","body"] iG:=by
 have ZZ:=scDeedOf
 walk_at "o"
 ·obtain ⟨d,u,rfl,⟨p,t,e,rfl,hp,ht,he⟩,q⟩:=h
  refine ⟨_,af (aQ (ax bv (au av (pv 1) ai (fun _ _=>rfl)) ak (az _)) (af bx (af bx (ah bx))) ay)
   (af (aB (i:=4) scDeedOf.nd rfl (Or.inl rfl) (aW bA (by rfl) B.tuple bq (aa (fk (N':=["given","names"]) (ix:=[none,some 0]) (sc0:=aj hX) (N:=["names","body","test","yes","sets"]) rfl (by decide +kernel) (dj (au av (pv 1) ai (fun _ _=>rfl)))
     (fun C' cl s H fp=>aI (i:=0) BG rfl (Or.inl rfl) (.inr rfl)) (fun _ _ _ _ _=>cw) (fun C' cl s H fp=>aq SO hr rfl (aa (pv 1) (aa (pv 0) ac)))) ac)))
   (ah (al (aH (aa ak (aa (pv 4) (aa (aq EO hr rfl (aa (pv 0) (aa (au av (pv 1) ai (fun _ _=>rfl)) ac))) ac))))))),?_⟩
  refine ⟨_,rfl,p,_,_,_,rfl,rfl,SqT.of hp,rfl,rfl,_,rfl,aP (by decide +kernel) ?_⟩
  refine ⟨_,rfl,p,_,_,_,rfl,rfl,SqT.of hp,rfl,t,rfl,⟨_,SqT.of ht⟩,?_⟩
  refine gE (K:=K) (a:=t) (xs:=[]) (fun i ys H'=>H'=H/\ys=[]) ⟨rfl,rfl⟩ (fun i ys H' hi ⟨a1,a2⟩=>by
    subst a1 a2
    exact ⟨SqT.of ht,Cy _⟩) ?_ ?_
  ·rintro i x ys H' hx _
   simp at hx
  ·rintro ys H' ⟨rfl,rfl⟩ D hD
   have s1:=ae (o:=.lst []) hD
   have e1:(aC H' D (.lst [])) D=some (.lst []):=ad
   generalize aC H' D (.lst ([]:List V))=H1 at *
   refine ⟨D,_,rfl,.inl ⟨SqL.of e1,fun t2 n2=>?_⟩⟩
   have s2:=ae (o:=.tup []) n2
   have e2:(aC H1 t2 (.tup [])) t2=some (.tup []):=ad
   generalize aC H1 t2 (.tup ([]:List V))=H2 at *
   have s12:=s1.trans s2
   refine ⟨_,rfl,_,rfl,_,rfl,p,_,_,_,rfl,rfl,SqT.of (s12 _ _ hp),rfl,d,e,rfl,he.kt (be s12),fun H3 s3=>⟨bh,fun pt npt=>?_⟩⟩
   have s4:=ae (o:=.tup [.str "leaf",.ref t2,e]) npt
   exact q _ _ ((s12.trans s3).trans s4) ⟨pt,t2,e,rfl,ad,s4 _ _ (s3 _ _ e2),he.kt (be ((s12.trans s3).trans s4))⟩
def xh:List Nat:=(List.range 26).map (97+·)
def xi:Str:="abcdefghijklmnopqrstuvwxyz"
theorem zL:xi=S xh:=by decide +kernel
theorem uA (c:Nat) (h:97<=c/\c<=122):c∈xh:=by
 unfold xh
 refine CM.mpr ⟨c - 97,CZ.mpr (by lia),by lia⟩
structure zM (K:ZF) (mg:Str->Option Value) (aO:Addr) (tL tN:Tok):Prop where
 own:mg "OWN_WORDS"=some (.ref aO)
 sq:∀ H,SqT K H aO (ap pb)
 lets:mg "LETTERS"=some (.str xi tL)
 lng:mg "LONGEST_NAME"=some (.int 8 tN)
theorem xj:am ["thing"] ["thing"] (aj iz):=bG (by decide +kernel)
theorem zN:(["sign"]:List Str).Nodup:=by decide +kernel
theorem uB {tL tN:Tok} (F:Fun K "is_name" "is_name" iz f fd) (T:Bl mg) (C:zM K mg aO tL tN):FnOk P w K mg base bu 1 f fd ["thing"] xc:=by
 have ZZ:=xj
 walk_at "o"
 ·obtain ⟨z,rfl,⟨hno,h1,h8,hc⟩,q⟩:=h
  refine ⟨_,af (aQ (PW.pt (cA (cf (bf (aA (cJ (T:="str")) (by rfl) T.isinstance bL (aa (pv 0) (aa (pe_ty (by rfl) T.str eV) ac)))))
    (bY (ax bO (pv 0) (aX (v:=.ref aO) rfl C.own rfl) rfl)))) (ah (al df)) ay)
   (ah (al (bE (fQ dW dW ai (aA bQ (by rfl) T.len B7 (aa (pv 0) ac)) (aX (v:=.int 8) rfl C.lng ⟨_,rfl⟩))
    (bJ (aA (dA rfl) (by rfl) T.all cZ (aa (fk (N':=["sign"]) (ix:=[none]) (sc0:=aj iz) (N:=["thing"]) rfl (by decide +kernel) (mt (pv 0))
     (fun C' cl s H fp=>aI (i:=0) zN rfl (Or.inl rfl) (.inr rfl)) (fun _ _ _ _ _=>cw) (fun C' cl s H fp=>aZ dn (pv 0) (aX (v:=.str xi) rfl C.lets ⟨_,rfl⟩) rfl)) ac)))))),?_⟩
  have ez:z=S z.cps.toList:=uj z
  have zl:z.length=z.cps.toList.length:=by show z.cps.size=_;simp
  generalize hl:z.cps.toList=l at *
  subst ez
  rw [bK] at h1 h8
  have sz:(100000:Nat)<=sizeLine:=by decide
  refine ⟨_,rfl,_,_,_,rfl,.str _,rfl,_,rfl,bz ?_⟩
  refine ⟨_,rfl,aO,ap pb,rfl,.inr (C.sq H),rfl,bC _,_,rfl,aP ?_ ?_⟩
  ·show eQ (.str (S l)) (ap pb)=false
   rw [bM]
   exact B5.mpr fun e=>hno (CC.mp e)
  ·refine ⟨_,rfl,S l,rfl,(by rw [bK];lia),_,_,rfl,rfl,_,rfl,?_⟩
   rw [bK]
   refine bj (decide_eq_true (by lia)) ⟨_,_,rfl,rfl,_,rfl,bj (decide_eq_true (by lia)) ⟨_,rfl,l,rfl,?_⟩⟩
   refine mv (fun i ys H'=>ys=(List.replicate i true).map V.bl/\Same H H') ⟨rfl,Same.refl _⟩ (fun i ys H' hi ⟨e,_⟩=>by rw [e,BJ,Dj];lia) ?_ ?_
   ·rintro i ys H' hi ⟨rfl,s'⟩
    refine ⟨trivial,cE ?_⟩
    refine ⟨_,rfl,S [l[i]],_,rfl,rfl,?_⟩
    rw [zL,eT,decide_eq_true (uA _ (hc _ (CS hi)))]
    refine Nx.mk hi ⟨?_,s'⟩
    rw [List.replicate_succ',BR]
    rfl
   ·rintro ys H' ⟨rfl,s'⟩ D hD
    refine ⟨D,List.replicate l.length true,rfl,SqL.of ad,?_⟩
    have:=q _ (s'.trans (ae (o:=.lst ((List.replicate l.length true).map V.bl)) hD))
    have ea:(List.replicate l.length true).all id=true:=by simp
    rw [ea]
    exact this
def dg (n:Nat):List Nat:=(Nat.toDigits 10 n).map Char.toNat
variable {n:Nat}
theorem ly (h:n < 10):dg n=[48+n]:=by
 unfold dg
 rw [Nat.toDigits_of_lt_base h]
 have:∀ d:Nat,d < 10->[Nat.digitChar d].map Char.toNat=[48+d]:=by decide
 exact this n h
theorem qT (h:10<=n):dg n=dg (n / 10)++[48+n % 10]:=by
 have hm:n % 10 < 10:=Nat.mod_lt n (by decide)
 have t:Nat.toDigits 10 (n / 10)++Nat.toDigits 10 (n % 10)=Nat.toDigits 10 (10*(n / 10)+n % 10):=Nat.toDigits_append_toDigits (by decide) (by lia) hm
 rw [Nat.div_add_mod] at t
 rw [<-ly hm]
 unfold dg
 rw [<-t,BR]
theorem qU (n:Nat):∀ c∈dg n,48<=c/\c<=57:=by
 induction n using Nat.strongRecOn with
 | _ n ih=>
  by_cases h:n < 10
  ·rw [ly h]
   intro c hc
   rw [Cb.mp hc]
   lia
  ·rw [qT (by lia)]
   intro c hc
   rcases Cp.mp hc with hc|hc
   ·exact ih (n / 10) (by lia) c hc
   ·rw [Cb.mp hc]
    lia
theorem jX (n:Nat):1<=(dg n).length/\∀ k,1<=k->n < 10 ^ k->(dg n).length<=k:=by
 induction n using Nat.strongRecOn with
 | _ n ih=>
  by_cases h:n < 10
  ·rw [ly h]
   exact ⟨by simp,fun k hk _=>by simpa using hk⟩
  ·rw [qT (by lia)]
   obtain ⟨a,b⟩:=ih (n / 10) (by lia)
   refine ⟨by rw [BN];simp,fun k hk hn=>?_⟩
   rw [BN]
   have hk2:2<=k:=by
    rcases (by lia:k=1\/2<=k) with rfl|z
    ·simp at hn
     lia
    ·exact z
   have:=b (k - 1) (by lia) (by
    have e:10 ^ k=10 ^ (k - 1)*10:=by rw [<-Nat.pow_succ];congr 1;lia
    rw [e] at hn
    exact Nat.div_lt_of_lt_mul (by rw [Nat.mul_comm];exact hn))
   simp
   lia
theorem uC (n:Nat) (h1:1<=n):(dg n)[0]?≠some 48:=by
 induction n using Nat.strongRecOn with
 | _ n ih=>
  by_cases h:n < 10
  ·rw [ly h]
   simp
   lia
  ·rw [qT (by lia)]
   have hl:=(jX (n / 10)).1
   rw [List.getElem?_append_left (by lia)]
   exact ih (n / 10) (by lia) (by lia)
theorem fL (n:Nat):(toString (n:Int):Str)=S (dg n):=by
 have:=PySem.W.KIN.signs_num n
 have e:=uj (toString (n:Int):Str)
 rw [e]
 congr 1
def zO:List Nat:=(List.range 10).map (48+·)
def xk:Str:="0123456789"
theorem zP:xk=S zO:=by decide +kernel
theorem uD (c:Nat) (h:48<=c/\c<=57):c∈zO:=CM.mpr ⟨c - 48,CZ.mpr (by lia),by lia⟩
section
variable {X:Cx}
theorem lz:cV X (.type "int") (fun xs H Q=>∃ n:Nat,xs=[.str (toString (n:Int):Str)]/\n < 1000000000/\Q (.int n) H):=by
 intro pins s σ H xs us Q I r h
 obtain ⟨n,rfl,hn,q⟩:=h
 obtain ⟨u,rfl,rx⟩:=fU r
 obtain ⟨t,rfl⟩:=rx
 exact PySem.W.KIN.call_num (by lia) (by lia) ⟨.int n,H,I.tok _,⟨_,rfl⟩,q⟩
end
theorem mX:am ["token"] ["token"] (aj eU):=bG (by decide +kernel)
theorem lA {tF tM:Tok} (F:Fun K "number_of" "number_of" eU f fd) (T:Bl mg) (hF:mg "FIGURES"=some (.str xk tF)) (hM:mg "MOST_FIGURES"=some (.int 9 tM)):FnOk P w K mg base bu 1 f fd ["token"] jQ:=by
 have ZZ:=mX
 walk_at "o"
 ·obtain ⟨n,rfl,hn,q⟩:=h
  refine ⟨_,af (aQ (PW.pt (cA (cf (kD dW dW ai (aA bQ (by rfl) T.len B7 (aa (pv 0) ac)) (aX (v:=.int 9) rfl hM ⟨_,rfl⟩)))
    (bY (cf (bf (aA (dA rfl) (by rfl) T.all cZ (aa (fk (N':=["sign"]) (ix:=[none]) (sc0:=aj eU) (N:=["token"]) rfl (by decide +kernel) (mt (pv 0))
     (fun C' cl s H fp=>aI (i:=0) zN rfl (Or.inl rfl) (.inr rfl)) (fun _ _ _ _ _=>cw) (fun C' cl s H fp=>aZ dn (pv 0) (aX (v:=.str xk) rfl hF ⟨_,rfl⟩) rfl)) ac))))))) (ah (al dD)) ay)
   (af (aQ (PW.pt (cm (ax bv (au il (pv 0) ai (fun _ _=>rfl)) ak (az _)) (bU (ax nG (aA bQ (by rfl) T.len B7 (aa (pv 0) ac)) ai (az _))))) (ah (al dD)) ay)
   (ah (al (aW lz (by rfl) T.int Cd (aa (pv 0) ac))))),?_⟩
  have es:=fL n
  obtain ⟨l1,l9'⟩:=jX n
  have l9:=l9' 9 (by decide) (by lia)
  have sz:(100000:Nat)<=sizeLine:=by decide
  rw [es]
  refine ⟨_,rfl,S (dg n),rfl,(by rw [bK];lia),_,_,rfl,rfl,_,rfl,?_⟩
  rw [bK]
  refine bj (decide_eq_true (by lia)) ⟨_,_,rfl,rfl,_,rfl,?_⟩
  rw [decide_eq_true (show ((dg n).length:Int)<=9 by lia)]
  refine bz ⟨_,rfl,dg n,rfl,?_⟩
  refine mv (fun i ys H'=>ys=(List.replicate i true).map V.bl/\Same H H') ⟨rfl,Same.refl _⟩ (fun i ys H' hi ⟨e,_⟩=>by rw [e,BJ,Dj];lia) ?_ ?_
  ·rintro i ys H' hi ⟨rfl,s'⟩
   refine ⟨trivial,cE ?_⟩
   refine ⟨_,rfl,S [(dg n)[i]],_,rfl,rfl,?_⟩
   rw [zP,eT,decide_eq_true (uD _ (qU n _ (CS hi)))]
   refine Nx.mk hi ⟨?_,s'⟩
   rw [List.replicate_succ',BR]
   rfl
  ·rintro ys H' ⟨rfl,s'⟩ D hD
   have s2:=ae (o:=.lst ((List.replicate (dg n).length true).map V.bl)) hD
   refine ⟨D,List.replicate (dg n).length true,rfl,SqL.of ad,?_⟩
   have ea:(List.replicate (dg n).length true).all id=true:=by simp
   rw [ea]
   refine ⟨_,rfl,bz ?_⟩
   refine ⟨_,rfl,S (dg n),0,(dg n)[0],rfl,rfl,(by rw [bK];lia),?_,rfl,_,rfl,?_⟩
   ·exact gj (i:=0) (by lia)
   ·by_cases hz:n=0
    ·subst hz
     have e00:(dg 0)[0]=48:=by simp [ly (n:=0) (by decide)]
     refine bj (decide_eq_true (by rw [e00];decide +kernel)) ?_
     refine ⟨_,rfl,S (dg 0),rfl,(by rw [bK];lia),_,_,rfl,rfl,_,rfl,aP (by decide +kernel) ?_⟩
     exact ⟨_,rfl,0,by rw [fL],hn,q _ (s'.trans s2)⟩
    ·have hd:=uC n (by lia)
     refine aP ?_ (bz ?_)
     ·refine decide_eq_false fun e=>hd ?_
      have e2:=V.str.inj e
      have e3:S [(dg n)[0]]=S [48]:=e2.trans (by decide +kernel)
      have e4:[(dg n)[0]]=[48]:=by
       have:=congrArg (fun z:Str=>z.cps.toList) e3
       simpa [S] using this
      rw [BZ (by lia)]
      exact congrArg some (List.cons.inj e4).1
     ·exact ⟨_,rfl,n,by rw [fL],hn,q _ (s'.trans s2)⟩
end L3
namespace L3
open PySem L2 TK
structure uE (K:ZF) (mg:Str->Option Value) (aD:Addr) (tG tS:Tok):Prop where
 gaps:mg "GAPS"=some (.str " \n" tG)
 sing:mg "SINGLE_SIGNS"=some (.str "(){}[],;+-&|^<=" tS)
 doub:mg "DOUBLE_SIGNS"=some (.ref aD)
 sq:∀ H,SqT K H aD [.str "<<",.str ">>"]
 len:mg "len"=none
def vs (ts:List (List Nat)):List V:=ts.map fun t=>V.str (S t)
inductive jY (xs:List V) (H:Hp) (Q:VK) (Z3:XK):Prop
 | mk (l:List Nat) (i:Nat):xs=[.str (S l),.int i]->i < l.length->l.length<=100000->Q (.str (S ((l.drop i).take (gB (l.drop i))))) H->jY xs H Q Z3
inductive qV (xs:List V) (H:Hp) (Q:VK) (Z3:XK):Prop
 | mk (l:List Nat) (i:Nat):xs=[.str (S l),.int i]->i < l.length->l.length<=100000->Q (.str (S ((l.drop i).take (run (l.drop i))))) H->qV xs H Q Z3
inductive mY (xs:List V) (H:Hp) (Q:VK) (Z3:XK):Prop
 | mk (l:List Nat):xs=[.str (S l)]->l.length<=100000->(∀ (p:Addr) (H':Hp),H p=none->H' p=some (.lst (vs (toks l)))->Same H H'->Q (.ref p) H')->mY xs H Q Z3
variable {i:Nat} {l:List Nat}
theorem nZ (h:i < l.length):gC l (some (i:Int)) (some ((i:Int)+2))=(l.drop i).take 2:=by
 unfold gC
 have e:((i:Int)+2)=((i+2:Nat):Int):=by lia
 rw [e,HT.sIx_nat,HT.sIx_nat,show min i l.length=i by lia]
 by_cases c:i+2<=l.length
 ·rw [show min (i+2) l.length - i=2 by lia]
 ·rw [Cq (by rw [CJ];lia),Cq (by rw [CJ];lia)]
theorem xm {i j:Nat} (h:j<=l.length):gC l (some (i:Int)) (some (j:Int))=(l.drop i).take (j - i):=by
 unfold gC
 rw [HT.sIx_nat,HT.sIx_nat,show min j l.length=j by lia]
 by_cases c:i<=l.length
 ·rw [show min i l.length=i by lia]
 ·rw [show min i l.length=l.length by lia,List.drop_length,List.drop_eq_nil_of_le (by lia)]
  simp
theorem eY (h:i < l.length):l.drop i=l[i]::l.drop (i+1):=CB h
theorem qW:(" \n":Str)=S [32,10]:=by decide +kernel
theorem xn:("(){}[],;+-&|^<=":Str)=S [40,41,123,125,91,93,44,59,43,45,38,124,94,60,61]:=by decide +kernel
theorem A3:("<<":Str)=S [60,60]:=by decide +kernel
theorem A4:(">>":Str)=S [62,62]:=by decide +kernel
theorem n0 (c:Nat):decide (c∈[32,10])=dz c:=by
 rw [CH,decide_eq_true_iff]
 unfold dz
 simp
theorem uF (c:Nat):decide (c∈[40,41,123,125,91,93,44,59,43,45,38,124,94,60,61])=cI c:=by
 rw [CH,decide_eq_true_iff]
 unfold cI
 rw [CC]
theorem uG (t:List Nat):eQ (.str (S t)) [.str "<<",.str ">>"]=(decide (t=[60,60]) || decide (t=[62,62])):=by
 unfold eQ
 rw [A3,A4]
 show ((S [60,60] == S t) || ((S [62,62] == S t) || false))=_
 have e:∀ u:List Nat,(S u == S t)=decide (t=u):=fun u=>by
  rw [CH,decide_eq_true_iff,beq_iff_eq,S_inj]
  exact ⟨fun h=>h.symm,fun h=>h.symm⟩
 rw [e,e,Bool.or_false]
variable {P:Program} {w:World} {K:ZF} {mg:Str->Option Value} {base:Heap} {C fi aS aE aF aO:Addr} {t1 t2 t3 t4 t5 tM:Tok}
theorem xp:am ["text","at"] ["text","at"] (aj qB):=bG (by decide +kernel)
variable {tG tS:Tok} {fd:FuncData} {f aD:Addr}
theorem uH (F:Fun K "sign_at" "sign_at" qB f fd) (T:uE K mg aD tG tS):FnOk P w K mg base bu 1 f fd ["text","at"] jY:=by
 have ZZ:=xp
 walk_at "o"
 ·obtain ⟨l,i,rfl,hi,hz,q⟩:=h
  have sz:(100000:Nat)<=sizeLine:=by decide
  refine ⟨_,af (aQ (ax bO (cN mq (pv 0) (cC (pv 1)) (cC (bi cv (pv 1) ai))) (aX (v:=.ref aD) rfl T.doub rfl) rfl) (ah (al (cN mq (pv 0) (cC (pv 1)) (cC (bi cv (pv 1) ai))))) ay)
   (af (aQ (ax dn (au il (pv 0) (pv 1) (fun _ _=>rfl)) (aX (v:=.str "(){}[],;+-&|^<=") rfl T.sing ⟨_,rfl⟩) rfl) (ah (al (au il (pv 0) (pv 1) (fun _ _=>rfl)))) ay)
   (ah (al ak))),?_⟩
  refine ⟨_,rfl,_,rfl,_,rfl,_,rfl,_,_,rfl,rfl,_,rfl,l,rfl,hz,?_⟩
  rw [nZ hi]
  refine ⟨aD,_,rfl,.inr (T.sq H),rfl,rfl,_,rfl,?_⟩
  show if eQ (.str (S ((l.drop i).take 2))) [.str "<<",.str ">>"]=true then _ else _
  have two:gB (l.drop i)=if eQ (.str (S ((l.drop i).take 2))) [.str "<<",.str ">>"]=true then 2 else if cI l[i]=true then 1 else 0:=by
   rw [uG,eY hi]
   cases hd:l.drop (i+1) with
   | nil=>rw [dJ];simp
   | cons d r=>
    rw [cW]
    simp
  by_cases c:eQ (.str (S ((l.drop i).take 2))) [.str "<<",.str ">>"]=true
  ·rw [if_pos c] at two
   refine bj c ?_
   refine ⟨_,rfl,_,rfl,_,rfl,_,rfl,_,_,rfl,rfl,_,rfl,l,rfl,hz,?_⟩
   rw [nZ hi]
   rw [two] at q
   exact q
  ·rw [if_neg c] at two
   refine aP (by simpa using c) ?_
   refine ⟨_,rfl,_,rfl,_,_,l[i],rfl,rfl,(by rw [bK];lia),gj hi,_,_,rfl,rfl,_,rfl,?_⟩
   rw [xn]
   have e:=eT l[i] [40,41,123,125,91,93,44,59,43,45,38,124,94,60,61]
   rw [uF] at e
   by_cases c2:cI l[i]=true
   ·rw [if_pos c2] at two
    refine bj (e.trans c2) ?_
    refine ⟨_,rfl,_,rfl,_,_,l[i],rfl,rfl,(by rw [bK];lia),gj hi,?_⟩
    rw [two,eY hi] at q
    exact q
   ·rw [if_neg c2] at two
    refine aP (e.trans (by simpa using c2)) ?_
    rw [two] at q
    exact q
theorem scRun:am ["text","at","behind"] ["text","at"] (aj wW):=bG (by decide +kernel)
theorem take_nil {n:Nat} (h:n<=l.length):l.take n=[]↔n=0:=by
 constructor
 ·intro e
  have:=congrArg List.length e
  rw [BX,Cn] at this
  lia
 ·intro e;rw [e,List.take_zero]
theorem xq (F:Fun K "run_at" "run_at" wW f fd) (T:uE K mg aD tG tS) (SG:Fn P w K mg base "sign_at" 1 ["text","at"] jY):FnOk P w K mg base bu 2 f fd ["text","at"] qV:=by
 have ZZ:=scRun
 walk_at "o"
 ·obtain ⟨l,i,rfl,hi,hz,q⟩:=h
  have sz:(100000:Nat)<=sizeLine:=by decide
  have sl:(S l).length<=sizeLine:=by rw [bK];lia
  refine ⟨_,af (aB (i:=2) scRun.nd rfl (Or.inl rfl) (pv 1))
   (af (dm PassesOwn.never (PW.pt (cm (ax ci (pv 2) (aA bQ (by rfl) T.len B7 (aa (pv 0) ac)) (az _))
     (cm (ax jF (au il (pv 0) (pv 2) (fun _ _=>rfl)) (aX (v:=.str " \n") rfl T.gaps ⟨_,rfl⟩) rfl) (bU (ax bv (aq SG hr rfl (aa (pv 0) (aa (pv 2) ac))) ak (az _))))))
    (ah (lT (i:=2) scRun.nd rfl (Or.inl rfl) ai lU)))
   (ah (al (cN mq (pv 0) (cC (pv 1)) (cC (pv 2)))))),?_⟩
  refine ⟨_,rfl,?_⟩
  refine ⟨fun m σ H'=>∃ k:Nat,σ=[some (.str (S l)),some (.int i),some (.int (i+k:Nat))]/\m=l.length - (i+k)/\i+k<=l.length/\run (l.drop i)=k+run (l.drop (i+k))/\H'=H,
   ⟨_,0,rfl,rfl,by lia,by rw [Nat.add_zero,Nat.zero_add],rfl⟩,?_⟩
  rintro m σ H' ⟨k,rfl,rfl,hk,hrun,rfl⟩
  have out:run (l.drop (i+k))=0->tJ (Bq (fun x lo hi H Q=>∃ l,x=.str (S l)/\l.length<=100000/\Q (.str (S (gC l lo hi))) H) (iW 0) (qe (iW 1)) (qe (iW 2))) { nx:=fun _ H'=>Q .non H',rt:=Q } [some (.str (S l)),some (.int i),some (.int (i+k:Nat))] H':=fun e=>by
   refine ⟨_,rfl,_,rfl,_,rfl,_,rfl,_,rfl,l,rfl,hz,?_⟩
   rw [xm hk,show i+k - i=k by lia]
   rw [hrun,e,Nat.add_zero] at q
   exact q
  refine ⟨_,rfl,_,rfl,S l,rfl,sl,_,_,rfl,rfl,_,rfl,?_⟩
  by_cases c:i+k < l.length
  ·refine bj (decide_eq_true (by rw [bK];lia)) ?_
   refine ⟨_,rfl,_,rfl,_,_,l[i+k],rfl,rfl,sl,gj c,_,_,rfl,rfl,_,rfl,?_⟩
   rw [qW]
   have e:=eT l[i+k] [32,10]
   rw [n0] at e
   have e':(!(!(Builtin.Str.occurrences (S [32,10]) (S [l[i+k]]) 0 (S [32,10]).length 1).isEmpty))=!dz l[i+k]:=by rw [e]
   have rc:run (l.drop (i+k))=if (dz l[i+k] || gB (l.drop (i+k)) != 0)=true then 0 else 1+run (l.drop (i+k+1)):=by
    rw [eY c,bZ]
   cases g:dz l[i+k] with
   | true=>
    refine aP (e'.trans (by rw [g];rfl)) (bz ?_)
    exact out (by rw [rc,g];rfl)
   | false=>
    refine bj (e'.trans (by rw [g];rfl)) ?_
    refine ⟨_,rfl,_,rfl,l,i+k,rfl,c,hz,rfl,_,rfl,?_⟩
    rw [zJ]
    by_cases s0:gB (l.drop (i+k))=0
    ·refine bj (decide_eq_true (by rw [s0];rfl)) ?_
     refine ⟨fun σ' H2=>σ'=[some (.str (S l)),some (.int i),some (.int (i+(k+1):Nat))]/\H2=H',fun σ' H2 ⟨e1,e2⟩=>⟨l.length - (i+(k+1)),by lia,k+1,e1,rfl,by lia,?_,e2⟩,?_⟩
     ·rw [hrun,rc,g,s0]
      show k+(1+run (l.drop (i+k+1)))=_
      rw [Nat.add_assoc i k 1]
      lia
     ·refine ⟨_,rfl,_,_,rfl,rfl,?_,rfl⟩
      show [some (V.str (S l)),some (V.int i),some (V.int (((i+k:Nat):Int)+1))]=_
      rw [show (((i+k:Nat):Int)+1)=((i+(k+1):Nat):Int) by lia]
    ·refine aP (decide_eq_false ?_) ?_
     ·intro z
      injection z with z'
      have:=(take_nil (jL (l.drop (i+k)))).mp (S_inj.mp z')
      exact s0 this
     ·exact out (by rw [rc,g];simp [s0])
  ·refine aP (decide_eq_false (by rw [bK];lia)) (bz ?_)
   have:l.drop (i+k)=[]:=List.drop_eq_nil_of_le (by lia)
   exact out (by rw [this];rfl)
theorem scToks:am ["text","tokens","at","token"] ["text"] (aj jO):=bG (by decide +kernel)
theorem qX (a b:List (List Nat)):vs (a++b)=vs a++vs b:=BR
theorem qZ (a:List (List Nat)):(vs a).length=a.length:=BJ _
theorem uI (F:Fun K "tokens_of" "tokens_of" jO f fd) (T:uE K mg aD tG tS) (SG:Fn P w K mg base "sign_at" 1 ["text","at"] jY) (RN:Fn P w K mg base "run_at" 2 ["text","at"] qV) :
  FnOk P w K mg base bu 3 f fd ["text"] mY:=by
 have ZZ:=scToks
 walk_at "o"
 ·obtain ⟨l,rfl,hz,q⟩:=h
  have hr1:Room 1 _:=hr.mono (by decide)
  have sz:(100000:Nat) < sizeLine:=by decide
  have sl:(S l).length<=sizeLine:=by rw [bK];lia
  refine ⟨_,af (aB (i:=1) scToks.nd rfl (Or.inl rfl) (aL ac))
   (af (aB (i:=2) scToks.nd rfl (Or.inl rfl) ai)
   (af (dm PassesOwn.never (ax ci (pv 2) (aA bQ (by rfl) T.len B7 (aa (pv 0) ac)) (az _))
    (ah (aQ (ax dn (au il (pv 0) (pv 2) (fun _ _=>rfl)) (aX (v:=.str " \n") rfl T.gaps ⟨_,rfl⟩) rfl) (ah (lT (i:=2) scToks.nd rfl (Or.inl rfl) ai lU))
     (af (aB (i:=3) scToks.nd rfl (Or.inl rfl) (wQ (aq SG hr1 rfl (aa (pv 0) (aa (pv 2) ac))) (bJ (aq RN hr rfl (aa (pv 0) (aa (pv 2) ac))))))
     (af (bo (fj Cz Cw Cr cx (pv 1) (aa (pv 3) ac)))
     (ah (lT (i:=2) scToks.nd rfl (Or.inl rfl) (aA bQ (by rfl) T.len B7 (aa (pv 3) ac)) lU)))))))
   (ah (al (pv 1))))),?_⟩
  refine ⟨bh,fun p hp=>?_⟩
  refine ⟨fun m σ H'=>∃ (k:Nat) (ts:List (List Nat)) (v:Option V),σ=[some (.str (S l)),some (.ref p),some (.int k),v]/\m=l.length - k/\k<=l.length/\H' p=some (.lst (L3.vs ts))/\Same H H'/\ts++toks (l.drop k)=toks l/\ts.length<=k,
   ⟨_,0,[],none,rfl,rfl,by lia,ad,ae hp,rfl,BT _⟩,?_⟩
  rintro m σ H' ⟨k,ts,v,rfl,rfl,hk,g,s1,e,hl⟩
  refine ⟨_,rfl,_,rfl,S l,rfl,sl,_,_,rfl,rfl,_,rfl,?_⟩
  by_cases c:k < l.length
  ·refine bj (decide_eq_true (by rw [bK];lia)) ?_
   refine ⟨fun σ' H2=>∃ (k':Nat) (ts':List (List Nat)) (v':Option V),σ'=[some (.str (S l)),some (.ref p),some (.int k'),v']/\k < k'/\k'<=l.length/\H2 p=some (.lst (L3.vs ts'))/\Same H H2/\ts'++toks (l.drop k')=toks l/\ts'.length<=k',
    fun σ' H2 ⟨k',ts',v',e1,e2,e3,e4,e5,e6,e7⟩=>⟨l.length - k',by lia,k',ts',v',e1,rfl,e3,e4,e5,e6,e7⟩,?_⟩
   refine ⟨_,rfl,_,rfl,_,_,l[k],rfl,rfl,sl,gj c,_,_,rfl,rfl,_,rfl,?_⟩
   rw [qW]
   have ec:=eT l[k] [32,10]
   rw [n0] at ec
   cases gg:dz l[k] with
   | true=>
    refine bj (ec.trans gg) ?_
    refine ⟨_,rfl,_,_,rfl,rfl,?_⟩
    refine ⟨k+1,ts,v,?_,by lia,c,g,s1,?_,by lia⟩
    ·show [some (V.str (S l)),some (V.ref p),some (V.int ((k:Int)+1)),v]=_
     rw [show ((k:Int)+1)=((k+1:Nat):Int) by lia]
    ·rw [<-e,eY c,dZ gg]
   | false=>
    refine aP (ec.trans gg) ?_
    refine ⟨_,rfl,_,rfl,l,k,rfl,c,hz,?_⟩
    have dl:(l.drop k).length=l.length - k:=CJ
    have ol:=wP (l.drop k)
    have op:0 < one (l.drop k):=by rw [eY c];exact hV gg
    have tk:ts++[(l.drop k).take (one (l.drop k))]++toks (l.drop (k+one (l.drop k)))=toks l:=by
     rw [<-e,Cu,show l.drop (k+one (l.drop k))=(l.drop k).drop (one (l.drop k)) by rw [List.drop_drop]]
     congr 1
     rw [eY c,kL gg]
     rfl
    have tl:((l.drop k).take (one (l.drop k))).length=one (l.drop k):=by rw [BX];lia
    have tz:((l.drop k).take (gB (l.drop k))).length<=100000:=by rw [BX];lia
    refine ⟨_,rfl,tz,?_⟩
    by_cases s0:gB (l.drop k)=0
    ·rw [if_pos ((take_nil (jL _)).mpr s0)]
     refine ⟨_,rfl,_,rfl,l,k,rfl,c,hz,?_⟩
     rw [show run (l.drop k)=one (l.drop k) from (if_pos s0).symm]
     refine ⟨_,rfl,.inl ⟨rfl,_,SqL.of g⟩,_,rfl,p,_,_,rfl,rfl,g,(by rw [qZ];lia),?_⟩
     refine ⟨_,rfl,_,rfl,S ((l.drop k).take (one (l.drop k))),rfl,(by rw [bK];lia),_,_,rfl,rfl,?_⟩
     refine ⟨k+one (l.drop k),ts++[(l.drop k).take (one (l.drop k))],some (.str (S ((l.drop k).take (one (l.drop k))))),?_,by lia,by lia,?_,aG hp s1,tk,by rw [BN];simp;lia⟩
     ·show [some (V.str (S l)),some (V.ref p),some (V.int ((k:Int)+((S ((l.drop k).take (one (l.drop k)))).length:Int))),some (V.str (S ((l.drop k).take (one (l.drop k)))))]=_
      rw [bK,tl,show ((k:Int)+(one (l.drop k):Int))=((k+one (l.drop k):Nat):Int) by lia]
     ·rw [ad,qX];rfl
    ·rw [if_neg (fun z=>s0 ((take_nil (jL _)).mp z))]
     rw [show gB (l.drop k)=one (l.drop k) from (if_neg s0).symm]
     refine ⟨_,rfl,.inl ⟨rfl,_,SqL.of g⟩,_,rfl,p,_,_,rfl,rfl,g,(by rw [qZ];lia),?_⟩
     refine ⟨_,rfl,_,rfl,S ((l.drop k).take (one (l.drop k))),rfl,(by rw [bK];lia),_,_,rfl,rfl,?_⟩
     refine ⟨k+one (l.drop k),ts++[(l.drop k).take (one (l.drop k))],some (.str (S ((l.drop k).take (one (l.drop k))))),?_,by lia,by lia,?_,aG hp s1,tk,by rw [BN];simp;lia⟩
     ·show [some (V.str (S l)),some (V.ref p),some (V.int ((k:Int)+((S ((l.drop k).take (one (l.drop k)))).length:Int))),some (V.str (S ((l.drop k).take (one (l.drop k)))))]=_
      rw [bK,tl,show ((k:Int)+(one (l.drop k):Int))=((k+one (l.drop k):Nat):Int) by lia]
     ·rw [ad,qX];rfl
  ·refine aP (decide_eq_false (by rw [bK];lia)) ?_
   have:k=l.length:=by lia
   subst this
   rw [List.drop_length,qo,Cv] at e
   subst e
   exact ⟨_,rfl,q p H' hp g s1⟩
end L3
namespace L3
open PySem L2
theorem mZ:bootBuiltins "dict"=some (.type "dict"):=by decide +kernel
structure A5 (mg:Str->Option Value):Prop where
 dict:mg "dict"=none
 enumerate:mg "enumerate"=none
theorem gN {α β:Type} {R:α->β->Prop}:∀ {xs:List α} {ys:List β},Paired R xs ys->∀ {i:Nat} {x:α},xs[i]?=some x->∃ y,ys[i]?=some y/\R x y
 | _,_,.cons h t,0,x,e=>by
  simp at e
  exact ⟨_,rfl,e ▸ h⟩
 | _,_,.cons h t,i+1,x,e=>by
  obtain ⟨y,a,b⟩:=gN t (i:=i) (x:=x) (by simpa using e)
  exact ⟨y,by simpa using a,b⟩
inductive re (vs:List V) (H:Hp) (Q:VK) (Z3:XK):Prop
 | mk (d tf us ks fs:_):vs=[.ref d,.ref tf]->NmI H d ks->H tf=some (.tup us)->Paired (FldV H) us fs->((ks++fs).map (·.1)).Nodup->ks.length+fs.length<=20->(∀ d' H',Same H H'->H d'=none->NmI H' d' (ks++fs)->Q (.ref d') H')->re vs H Q Z3
variable {P:Program} {w:World} {K:ZF} {mg:Str->Option Value} {base:Heap} {C fi aS aE aF aO:Addr} {t1 t2 t3 t4 t5 tM:Tok}
theorem scNwf:am ["names","fields","within","j","name","sort"] ["names","fields"] (aj fF):=bG (by decide +kernel)
variable {fd:FuncData} {f:Addr}
theorem xt (F:Fun K "names_with_fields" "names_with_fields" fF f fd) (B:A5 mg) (AN:Fn P w K mg base "add_name" 1 ["names","name","sort","sel"] eX):FnOk P w K mg base bu 2 f fd ["names","fields"] re:=by
 have ZZ:=scNwf
 walk_at "o"
 ·obtain ⟨d,tf,us,ks,fs,rfl,⟨kvs,hd,hp⟩,ht,hf,hnd,h20,q⟩:=h
  refine ⟨_,af (aB (i:=2) scNwf.nd rfl (Or.inl rfl) (aW my (by rfl) B.dict mZ (aa (pv 0) ac)))
   (af (cH PassesOwn.never rfl (iw rfl B.enumerate (aa (pv 1) ac)) (c9 rfl (aR (aI (i:=3) scNwf.nd rfl (Or.inl rfl)) (aR (c9 rfl (aR (aI (i:=4) scNwf.nd rfl (Or.inl rfl)) (aR (aI (i:=5) scNwf.nd rfl (Or.inl rfl)) cg))) cg)))
    (ah (bo (aq AN hr rfl (aa (pv 2) (aa (pv 4) (aa (pv 5) (aa (aH (aa ak (aa (pv 3) ac))) ac))))))))
   (ah (al (pv 2)))),?_⟩
  refine ⟨_,rfl,d,kvs,rfl,hd,fun d' nd'=>?_⟩
  generalize zz:aC H d' _=H1
  have s1:Same H H1:=zz ▸ ae nd'
  have e1:H1 d'=some (.dK kvs):=zz ▸ ad
  clear zz
  refine ⟨_,rfl,tf,rfl,⟨_,SqT.of (s1 _ _ ht)⟩,?_⟩
  have lf:=hf.length
  refine gF (K:=K) (l:=tf) (xs:=us) (fun i σ H'=>∃ v3 v4 v5:Option V,σ=[some (.ref d),some (.ref tf),some (.ref d'),v3,v4,v5]/\Same H H'/\NmI H' d' (ks++fs.take i)) ⟨_,_,_,rfl,s1,kvs,e1,by simpa using cq (fun _ _ h=>h.kt (be s1)) hp⟩ (fun i σ H' _ ⟨_,_,_,_,s',_⟩=>SqT.of (s' _ _ ht)) ?_ ?_
  ·rintro i x σ H2 T1 hx nT ⟨v3,v4,v5,rfl,s2,n2⟩
   obtain ⟨y,hy,pf,rfl,hpf⟩:=gN hf hx
   have hlt:i < fs.length:=(BL.mp hy).1
   have s3:=ae (o:=.tup [.int (i:Int),.ref pf]) nT
   have s23:=s2.trans s3
   refine ⟨T1,_,rfl,SqT.of ad,rfl,_,_,rfl,_,_,rfl,⟨pf,_,rfl,SqT.of (s23 _ _ hpf),rfl,_,_,rfl,_,_,rfl,rfl,rfl,?_⟩⟩
   refine ⟨_,rfl,_,rfl,_,rfl,_,rfl,bh,fun t nt=>?_⟩
   have s4:=ae (o:=.tup [.str "by",.int (i:Int)]) nt
   have s24:=s23.trans s4
   have n4:NmI (aC (aC H2 T1 (.tup [.int (i:Int),.ref pf])) t (.tup [.str "by",.int (i:Int)])) d' (ks++fs.take i):=let ⟨kv2,a,b⟩:=n2;⟨kv2,(s3.trans s4) _ _ a,cq (fun _ _ h=>h.kt (be (s3.trans s4))) b⟩
   have etk:fs.take (i+1)=fs.take i++[y]:=by rw [Cj,hy];rfl
   refine ⟨d',_,y.1,y.2,.ref t,rfl,n4,?_,?_,fun H5 n5 b5=>⟨_,_,_,rfl,dC nd' s24 b5,?_⟩⟩
   ·intro hm
    have e5:ks++fs=(ks++fs.take i)++(y::fs.drop (i+1)):=by
     rw [Cu]
     congr 1
     have:=(CW i fs).symm
     rw [CB hlt] at this
     rw [(BL.mp hy).2] at this
     exact this
    rw [e5,BR,B6] at hnd
    exact (List.nodup_append.mp hnd).2.2 _ hm _ BQ rfl
   ·rw [BN,BX]
    lia
   ·rw [etk,<-Cu]
    exact n5
  ·rintro σ H2 ⟨v3,v4,v5,rfl,s2,n2⟩
   rw [lf,Cg] at n2
   exact ⟨_,rfl,q d' H2 s2 nd' n2⟩
def n9 (zs:List Str):List (cz×V):=zs.map fun z=>(Sum.inr z,.bl true)
theorem vQ:∀ {zs:List Str} {z:Str},z∉zs->cr (n9 zs) (Sum.inr z)=none
 | [],_,_=>kO
 | x::zs,z,h=>by
  unfold n9
  rw [B6,bR]
  ·exact vQ (fun m=>h (BV _ m))
  ·intro e
   exact h (by rw [<-Sum.inr.inj e];exact BQ)
inductive xu (vs:List V) (H:Hp) (Q:VK) (Z3:XK):Prop
 | mk (d tk us ks kds:_):vs=[.ref d,.ref tk]->NmI H d ks->H tk=some (.tup us)->Paired (KindV H) us kds->(kds.map Kn.name).Nodup->(∀ x∈kds,((ks++x.fs).map (·.1)).Nodup/\x.fs.length<=3)->ks.length<=10->kds.length<=8->(∀ p us' H',Same H H'->H p=none->H' p=some (.tup us')->Paired (KindV H') us' kds->Q (.ref p) H')->xu vs H Q Z3
structure NI (H:Hp) (kds:List Kn) (ln lt:Addr) (i:Nat) (H':Hp):Prop where
 sm:Same H H'
 n1:H ln=none
 n2:H lt=none
 ne:ln≠lt
 ls:∃ us,H' ln=some (.lst us)/\us.length=i/\Paired (KindV H') us (kds.take i)
 tk:H' lt=some (.dK (n9 ((kds.take i).map Kn.name)))
theorem scKN:am ["names","kinds","named","taken","name","fields","body","deed"] ["names","kinds"] (aj er):=bG (by decide +kernel)
theorem zQ (F:Fun K "kinds_named" "kinds_named" er f fd) (B:Bl mg) (NW:Fn P w K mg base "names_with_fields" 2 ["names","fields"] re) (DO:Fn P w K mg base "deed_of" 2 ["names","body"] iG):FnOk P w K mg base bu 3 f fd ["names","kinds"] xu:=by
 have ZZ:=scKN
 walk_at "o"
 ·obtain ⟨d,tk,us,ks,kds,rfl,hN,ht,hk,hnd,hfs,h10,h8,q⟩:=h
  have hu:=nO hr
  have sz:(1000:Nat)<=sizeLine:=by decide
  refine ⟨_,af (aB (i:=2) scKN.nd rfl (Or.inl rfl) (aL ac))
   (af (aB (i:=3) scKN.nd rfl (Or.inl rfl) ir)
   (af (cH PassesOwn.never rfl (dj (pv 1)) (c9 rfl (aR (aI (i:=4) scKN.nd rfl (Or.inl rfl)) (aR (aI (i:=5) scKN.nd rfl (Or.inl rfl)) (aR (aI (i:=6) scKN.nd rfl (Or.inl rfl)) cg))))
    (af (aQ (lS (qy hu (pv 4) (pv 3))) (ah bx) ay)
    (af (nV hu (pv 3) (pv 4) df rfl)
    (af (aB (i:=7) scKN.nd rfl (Or.inl rfl) (aq DO hr rfl (aa (aq NW hr rfl (aa (pv 0) (aa (pv 5) ac))) (aa (pv 6) ac))))
    (ah (bo (fj Cz Cw Cr cx (pv 2) (aa (aH (aa (pv 4) (aa (pv 5) (aa (pv 7) ac)))) ac))))))))
   (ah (al (aW bA (by rfl) B.tuple bq (aa (pv 2) ac)))))),?_⟩
  have lk:=hk.length
  refine ⟨bh,fun ln n1=>?_⟩
  have s1:=ae (o:=.lst []) n1
  have e1:(aC H ln (.lst [])) ln=some (.lst []):=ad
  generalize aC H ln (.lst ([]:List V))=H1 at *
  refine fun lt n2=>?_
  have s2:=ae (o:=.dK []) n2
  have e2:(aC H1 lt (.dK [])) lt=some (.dK []):=ad
  have I0:NI H kds ln lt 0 (aC H1 lt (.dK [])):=⟨s1.trans s2,n1,s1.free n2,aU e1 n2,⟨[],s2 _ _ e1,rfl,.nil⟩,e2⟩
  generalize aC H1 lt (.dK ([]:List (cz×V)))=H2 at *
  refine ⟨_,rfl,tk,rfl,⟨_,SqT.of (I0.sm _ _ ht)⟩,?_⟩
  refine gZ (K:=K) (a:=tk) (xs:=us) (fun i σ H'=>∃ v4 v5 v6 v7:Option V,σ=[some (.ref d),some (.ref tk),some (.ref ln),some (.ref lt),v4,v5,v6,v7]/\NI H kds ln lt i H') ⟨_,_,_,_,rfl,I0⟩ (fun i σ H' _ ⟨_,_,_,_,_,I⟩=>SqT.of (I.sm _ _ ht)) ?_ ?_
  ·rintro i x σ H3 hx ⟨v4,v5,v6,v7,rfl,I⟩
   obtain ⟨y,hy,hK⟩:=gN hk hx
   have hlt:i < kds.length:=(BL.mp hy).1
   have hyi:kds[i]=y:=(BL.mp hy).2
   obtain ⟨p,tf,b,fu,rfl,hp,htf,hfu,hb⟩:=hK
   have etk:kds.take (i+1)=kds.take i++[y]:=by rw [Cj,hy];rfl
   have hym:y∈kds:=hyi ▸ CS hlt
   have hno:y.name∉(kds.take i).map Kn.name:=by
    intro hm
    have e5:kds=kds.take i++(y::kds.drop (i+1)):=by
     have:=(CW i kds).symm
     rw [CB hlt,hyi] at this
     exact this
    rw [e5,BR,B6] at hnd
    exact (List.nodup_append.mp hnd).2.2 _ hm _ BQ rfl
   have hval:=vQ hno
   have g:DGet H3 lt (.str y.name) none:=by
    have:=DGet.k (k:=Sum.inr y.name) I.tk
    rw [hval] at this
    exact this
   refine ⟨p,_,rfl,SqT.of (I.sm _ _ hp),rfl,_,_,rfl,_,_,rfl,_,_,rfl,rfl,?_⟩
   refine ⟨_,rfl,_,rfl,lt,_,rfl,g,_,rfl,bz ?_⟩
   have ltk:(n9 ((kds.take i).map Kn.name)).length<=8:=by
    unfold n9
    rw [BJ,BJ,BX]
    lia
   refine ⟨_,rfl,_,rfl,lt,_,rfl,DPut.k (k:=Sum.inr y.name) I.tk (by lia),?_⟩
   rw [kR _ hval]
   have et:n9 ((kds.take i).map Kn.name)++[(Sum.inr y.name,V.bl true)]=n9 ((kds.take (i+1)).map Kn.name):=by
    unfold n9
    rw [etk,BR,BR]
    rfl
   rw [et]
   obtain ⟨us3,e3,l3,p3⟩:=I.ls
   have k4:TupK H3 (aC H3 lt (.dK (n9 ((kds.take (i+1)).map Kn.name)))):=vP I.tk
   have s4:Same H (aC H3 lt (.dK (n9 ((kds.take (i+1)).map Kn.name)))):=aG I.n2 I.sm
   have e4:(aC H3 lt (.dK (n9 ((kds.take (i+1)).map Kn.name)))) ln=some (.lst us3):=by rw [aw I.ne];exact e3
   have t4:(aC H3 lt (.dK (n9 ((kds.take (i+1)).map Kn.name)))) lt=some (.dK (n9 ((kds.take (i+1)).map Kn.name))):=ad
   have p4:=cq (fun _ _ h=>KindV.kt k4 h) p3
   generalize aC H3 lt (.dK (n9 ((kds.take (i+1)).map Kn.name)))=H4 at *
   have hN4:NmI H4 d ks:=let ⟨kv2,a,b2⟩:=hN;⟨kv2,s4 _ _ a,cq (fun _ _ h=>h.kt (be s4)) b2⟩
   refine ⟨_,rfl,_,rfl,d,tf,fu,ks,y.fs,rfl,hN4,s4 _ _ htf,cq (fun _ _ h=>h.kt (be s4)) hfu,(hfs y hym).1,by have:=(hfs y hym).2;lia,fun d' H5 s5 nd' nm'=>?_⟩
   have s45:=s4.trans s5
   refine ⟨_,rfl,.ref d',b,rfl,hb.kt (be s45),fun b' H6 s6 hb'=>?_⟩
   have s46:=s5.trans s6
   have s06:=s4.trans s46
   refine ⟨_,rfl,.inl ⟨rfl,_,SqL.of (s46 _ _ e4)⟩,_,rfl,_,rfl,_,rfl,bh,fun pt npt=>?_⟩
   have s7:=ae (o:=.tup [.str y.name,.ref tf,b']) npt
   have e7:=s7 _ _ (s46 _ _ e4)
   have ept:(aC H6 pt (.tup [.str y.name,.ref tf,b'])) pt=some (.tup [.str y.name,.ref tf,b']):=ad
   have s07:=s06.trans s7
   generalize aC H6 pt (.tup [V.str y.name,.ref tf,b'])=H7 at *
   refine ⟨ln,_,_,rfl,rfl,e7,by rw [l3];lia,?_⟩
   have k8:=lr (ys:=us3++[V.ref pt]) e7
   have k47:TupK H4 H7:=be (s46.trans s7)
   refine ⟨_,_,_,_,rfl,aG I.n1 s07,I.n1,I.n2,I.ne,⟨us3++[.ref pt],ad,by simp [l3],?_⟩,?_⟩
   ·rw [etk]
    refine gV ⟨pt,tf,b',fu,rfl,k8 _ _ ept,k8 _ _ (s07 _ _ htf),cq (fun _ _ h=>(h.kt (be s07)).kt k8) hfu,(hb'.kt (be s7)).kt k8⟩ (cq (fun _ _ h=>(KindV.kt k47 h).kt k8) p4)
   ·rw [aw I.ne.symm]
    exact s7 _ _ (s46 _ _ t4)
  ·rintro σ H3 ⟨v4,v5,v6,v7,rfl,I⟩
   obtain ⟨us3,e3,l3,p3⟩:=I.ls
   rw [lk,Cg] at p3
   refine ⟨_,rfl,ln,us3,rfl,.inl ⟨SqL.of e3,fun p np=>?_⟩⟩
   have s4:=ae (o:=.tup us3) np
   exact q p us3 _ (I.sm.trans s4) (I.sm.free np) ad (cq (fun _ _ h=>KindV.kt (be s4) h) p3)
variable {n:Nat}
theorem ia {X:Cx} {es:List Expr} {k:Nat} {pos:Pos} {t:wz} (h:X.K=K) (hc:X.calm=true) (hg:zf X es t) (hn:(assignEach es X.env).length=n:=by rfl) (hst:(assignEach es X.env).findIdx? (·.1)=none:=by rfl):PG X (.Tuple es k pos) (wC K n t):=by
 subst h
 exact c9 hc hg hn hst
def zR (vw vc vd vp vm vg:V) (pn pk:Addr):List (Str×V):=[("width",vw),("cells",vc),("depth",vd),("places",vp),("marks",vm),("gate",vg),("kinds",.ref pn),("kinds_known",.ref pk)]
def A6:List Str:=["width","cells","depth","places","marks","gate","kinds","kinds_known"]
structure Tc (K:ZF) (C:Addr):Prop where
 cl:Cls K C
 na:∀ f∈A6,NoAttr K C f
abbrev jZ:Stmt:=aN (bH 101) 0
inductive j3 (C:Addr) (vs:List V) (H:Hp) (Q:VK) (Z3:XK):Prop
 | mk (x dx vw vc vd vp vm vg pk us kds:_):vs=[.ref x,vw,vc,vd,vp,vm,vg,.ref pk]->H x=some (.ins C dx [])->H pk=some (.tup us)->Paired (KindV H) us kds->kds.length<=8->(∀ pn H',H' x=some (.ins C dx (zR vw vc vd vp vm vg pn pk))->H pn=none->H' pn=some (.tup (ap (kds.map Kn.name)))->ButO x H H'->Q .non H')->j3 C vs H Q Z3
theorem uJ:am ["self","width","cells","depth","places","marks","gate","kinds_known"] ["self","width","cells","depth","places","marks","gate","kinds_known"] (aj jZ):=bG (by decide +kernel)
theorem xw:(["name","fields","deed"]:List Str).Nodup:=by decide +kernel
theorem rf (F:Fun K "__init__" "Table.__init__" jZ f fd) (T:Tc K C) (B:Bl mg):FnOk P w K mg base bu 1 f fd ["self","width","cells","depth","places","marks","gate","kinds_known"] (j3 C):=by
 have ZZ:=uJ
 walk_at "o"
 ·obtain ⟨x,dx,vw,vc,vd,vp,vm,vg,pk,us,kds,rfl,hx,hk,hp,h8,q⟩:=h
  have sz:(1000:Nat)<=sizeLine:=by decide
  refine ⟨_,(af (bB (pv 0) (pv 1) rfl)
   (af (bB (pv 0) (pv 2) rfl)
   (af (bB (pv 0) (pv 3) rfl)
   (af (bB (pv 0) (pv 4) rfl)
   (af (bB (pv 0) (pv 5) rfl)
   (af (bB (pv 0) (pv 6) rfl)
   (af (bB (pv 0) (aW bA (by rfl) B.tuple bq (aa (fk (N':=["name","fields","deed"]) (ix:=[none,none,none]) (sc0:=aj jZ) (N:=["self","width","cells","depth","places","marks","gate","kinds_known"]) rfl (by decide +kernel) (dj (pv 7)) (fun C' cl s H fp=>ia (K:=K) (n:=3) rfl rfl (aR (aI (i:=0) xw rfl (Or.inl rfl) (.inr rfl)) (aR (aI (i:=1) xw rfl (Or.inl rfl) (.inr rfl)) (aR (aI (i:=2) xw rfl (Or.inl rfl) (.inr rfl)) cg)))) (fun _ _ _ _ _=>cw) (fun C' cl s H fp=>pv 0)) ac)) rfl)
   (ah (bB (pv 0) (pv 7) rfl))))))))),?_⟩
  have b0:ButO x H H:=ButO.refl _ _
  refine ⟨_,rfl,_,rfl,x,C,dx,_,rfl,hx,T.cl,T.na "width" (by decide +kernel),(by show 0 < 1000;decide),?_⟩
  have e1:(aC H x (.ins C dx (aM "width" vw []))) x=some (.ins C dx (aM "width" vw [])):=ad
  have b1:ButO x H (aC H x (.ins C dx (aM "width" vw []))):=fun b o e nb=>by rw [aw nb];exact b0 _ _ e nb
  generalize aC H x (.ins C dx (aM "width" vw []))=H1 at *
  refine ⟨_,rfl,_,rfl,x,C,dx,_,rfl,e1,T.cl,T.na "cells" (by decide +kernel),(by show 1 < 1000;decide),?_⟩
  have e2:(aC H1 x (.ins C dx (aM "cells" vc (aM "width" vw [])))) x=some (.ins C dx (aM "cells" vc (aM "width" vw []))):=ad
  have b2:ButO x H (aC H1 x (.ins C dx (aM "cells" vc (aM "width" vw [])))):=fun b o e nb=>by rw [aw nb];exact b1 _ _ e nb
  generalize aC H1 x (.ins C dx (aM "cells" vc (aM "width" vw [])))=H2 at *
  refine ⟨_,rfl,_,rfl,x,C,dx,_,rfl,e2,T.cl,T.na "depth" (by decide +kernel),(by show 2 < 1000;decide),?_⟩
  have e3:(aC H2 x (.ins C dx (aM "depth" vd (aM "cells" vc (aM "width" vw []))))) x=some (.ins C dx (aM "depth" vd (aM "cells" vc (aM "width" vw [])))):=ad
  have b3:ButO x H (aC H2 x (.ins C dx (aM "depth" vd (aM "cells" vc (aM "width" vw []))))):=fun b o e nb=>by rw [aw nb];exact b2 _ _ e nb
  generalize aC H2 x (.ins C dx (aM "depth" vd (aM "cells" vc (aM "width" vw []))))=H3 at *
  refine ⟨_,rfl,_,rfl,x,C,dx,_,rfl,e3,T.cl,T.na "places" (by decide +kernel),(by show 3 < 1000;decide),?_⟩
  have e4:(aC H3 x (.ins C dx (aM "places" vp (aM "depth" vd (aM "cells" vc (aM "width" vw [])))))) x=some (.ins C dx (aM "places" vp (aM "depth" vd (aM "cells" vc (aM "width" vw []))))):=ad
  have b4:ButO x H (aC H3 x (.ins C dx (aM "places" vp (aM "depth" vd (aM "cells" vc (aM "width" vw [])))))):=fun b o e nb=>by rw [aw nb];exact b3 _ _ e nb
  generalize aC H3 x (.ins C dx (aM "places" vp (aM "depth" vd (aM "cells" vc (aM "width" vw [])))))=H4 at *
  refine ⟨_,rfl,_,rfl,x,C,dx,_,rfl,e4,T.cl,T.na "marks" (by decide +kernel),(by show 4 < 1000;decide),?_⟩
  have e5:(aC H4 x (.ins C dx (aM "marks" vm (aM "places" vp (aM "depth" vd (aM "cells" vc (aM "width" vw []))))))) x=some (.ins C dx (aM "marks" vm (aM "places" vp (aM "depth" vd (aM "cells" vc (aM "width" vw [])))))):=ad
  have b5:ButO x H (aC H4 x (.ins C dx (aM "marks" vm (aM "places" vp (aM "depth" vd (aM "cells" vc (aM "width" vw []))))))):=fun b o e nb=>by rw [aw nb];exact b4 _ _ e nb
  generalize aC H4 x (.ins C dx (aM "marks" vm (aM "places" vp (aM "depth" vd (aM "cells" vc (aM "width" vw []))))))=H5 at *
  refine ⟨_,rfl,_,rfl,x,C,dx,_,rfl,e5,T.cl,T.na "gate" (by decide +kernel),(by show 5 < 1000;decide),?_⟩
  have e6:(aC H5 x (.ins C dx (aM "gate" vg (aM "marks" vm (aM "places" vp (aM "depth" vd (aM "cells" vc (aM "width" vw [])))))))) x=some (.ins C dx (aM "gate" vg (aM "marks" vm (aM "places" vp (aM "depth" vd (aM "cells" vc (aM "width" vw []))))))):=ad
  have b6:ButO x H (aC H5 x (.ins C dx (aM "gate" vg (aM "marks" vm (aM "places" vp (aM "depth" vd (aM "cells" vc (aM "width" vw [])))))))):=fun b o e nb=>by rw [aw nb];exact b5 _ _ e nb
  generalize aC H5 x (.ins C dx (aM "gate" vg (aM "marks" vm (aM "places" vp (aM "depth" vd (aM "cells" vc (aM "width" vw [])))))))=H6 at *
  have pkx:pk≠x:=by
   rintro rfl
   rw [hk] at hx
   cases hx
  have hk6:=b6 _ _ hk pkx
  have k6:TupK H H6:=b6.kt hx
  have hp6:=cq (fun _ _ h=>KindV.kt k6 h) hp
  have lk:=hp.length
  refine ⟨_,rfl,pk,rfl,⟨_,SqT.of hk6⟩,?_⟩
  refine gE (K:=K) (a:=pk) (xs:=us) (fun i ys H'=>H'=H6/\ys=ap ((kds.take i).map Kn.name)) ⟨rfl,rfl⟩ (fun i ys H' hi ⟨a1,a2⟩=>by
    subst a1 a2
    refine ⟨SqT.of hk6,?_⟩
    unfold ap
    rw [BJ,BJ,BX]
    lia) ?_ ?_
  ·rintro i z ys H' hz ⟨rfl,rfl⟩
   obtain ⟨y,hy,p,tf,bb,fu,rfl,hpp,_⟩:=gN hp6 hz
   have hlt:i < us.length:=(BL.mp hz).1
   refine ⟨p,_,rfl,SqT.of hpp,rfl,_,_,rfl,_,_,rfl,_,_,rfl,rfl,trivial,cE ?_⟩
   refine ⟨_,rfl,Nx.mk hlt ⟨rfl,?_⟩⟩
   rw [Cj,hy]
   unfold ap
   simp
  ·rintro ys H' ⟨rfl,rfl⟩ D hD
   rw [lk,Cg]
   have s7:=ae (o:=.lst (ap (kds.map Kn.name))) hD
   have e7:(aC H' D (.lst (ap (kds.map Kn.name)))) D=some (.lst (ap (kds.map Kn.name))):=ad
   have x7:=s7 _ _ e6
   generalize aC H' D (.lst (ap (kds.map Kn.name)))=H7 at *
   refine ⟨D,_,rfl,.inl ⟨SqL.of e7,fun pn npn=>?_⟩⟩
   have s8:=ae (o:=.tup (ap (kds.map Kn.name))) npn
   have e8:(aC H7 pn (.tup (ap (kds.map Kn.name)))) pn=some (.tup (ap (kds.map Kn.name))):=ad
   have x8:=s8 _ _ x7
   have b8:=(b6.same s7).same s8
   have nH:H pn=none:=eW (b6.same s7) x7 npn
   generalize aC H7 pn (.tup (ap (kds.map Kn.name)))=H8 at *
   have pnx:pn≠x:=by
    rintro rfl
    rw [nH] at hx
    cases hx
   refine ⟨_,rfl,x,C,dx,_,rfl,x8,T.cl,T.na "kinds" (by decide +kernel),(by show 6 < 1000;decide),?_⟩
   refine ⟨_,rfl,_,rfl,x,C,dx,_,rfl,ad,T.cl,T.na "kinds_known" (by decide +kernel),(by show 7 < 1000;decide),?_⟩
   refine q pn _ ?_ nH ?_ ?_
   ·rw [ad]
    rfl
   ·rw [aw pnx,aw pnx]
    exact e8
   ·intro b o e nb
    rw [aw nb,aw nb]
    exact b8 _ _ e nb
def fM (D:Fm):List (Str×Str):=D.places.map (fun z=>(z,("place":Str)))++D.marks.map (fun z=>(z,("mark":Str)))
def lB (D:Fm):V:=match D.gates with
 | []=>.non
 | z::_=>.str z
structure pz (D:Fm):Prop where
 nd:((fM D).map (·.1)).Nodup
 gt:∀ z∈D.gates,z∈D.marks
 g1:D.gates.length<=1
 kn:(D.kinds.map Kn.name).Nodup
 kf:∀ x∈D.kinds,((fM D++x.fs).map (·.1)).Nodup/\x.fs.length<=3
 p4:D.places.length<=4
 m3:D.marks.length<=3
 k8:D.kinds.length<=8
inductive TabV (C:Addr) (H:Hp) (v:V) (D:Fm):Prop
 | mk (a dx pp pm pn pk us:_):v=.ref a->H a=some (.ins C dx (zR (.int D.width) (.int D.cells) (.int D.depth) (.ref pp) (.ref pm) (lB D) pn pk))->H pp=some (.tup (ap D.places))->H pm=some (.tup (ap D.marks))->H pn=some (.tup (ap (D.kinds.map Kn.name)))->H pk=some (.tup us)->Paired (KindV H) us D.kinds->TabV C H v D
inductive xy (C:Addr) (vs:List V) (H:Hp) (Q:VK) (Z3:XK):Prop
 | mk (u D:_):vs=[u]->qQ H u D->pz D->(∀ v H',Same H H'->TabV C H' v D->Q v H')->xy C vs H Q Z3
variable {H H':Hp}
theorem NmI.same {d:Addr} {ks:List (Str×Str)} (h:NmI H d ks) (s:Same H H'):NmI H' d ks:=let ⟨kv,a,b⟩:=h;⟨kv,s _ _ a,cq (fun _ _ h=>h.kt (be s)) b⟩
variable {x:Str×Str}
theorem rg {A B:List (Str×Str)} (h:((A++x::B).map (·.1)).Nodup):x.1∉A.map (·.1):=by
 rw [BR,B6] at h
 intro hm
 exact (List.nodup_append.mp h).2.2 _ hm _ BQ rfl
theorem scTF:am ["form","width","cells","depth","places","marks","gates","kinds","names","i","name","gate","kinds_known"] ["form"] (aj dN):=bG (by decide +kernel)
theorem zS {fd fdi:FuncData} (F:Fun K "table_of_form" "table_of_form" dN f fd) (B:Bl mg) (B3:A5 mg) (MK:Mk K C fi) (mgT:mg "Table"=some (.ref C)) (IN:FnOk P w K mg base bu 1 fi fdi ["self","width","cells","depth","places","marks","gate","kinds_known"] (j3 C)) (bI:Binds K fdi ["self","width","cells","depth","places","marks","gate","kinds_known"] [])
  (AN:Fn P w K mg base "add_name" 1 ["names","name","sort","sel"] eX) (NK:Fn P w K mg base "need_known" 1 ["names","name","sorts"] (eE K)) (KN:Fn P w K mg base "kinds_named" 3 ["names","kinds"] xu):FnOk P w K mg base bu 4 f fd ["form"] (xy C):=by
 have ZZ:=scTF
 walk_at "o"
 ·obtain ⟨u,D,rfl,⟨p,pp,pm,pg,pk,us,rfl,hp,hpp,hpm,hpg,hpk,hus⟩,hD,q⟩:=h
  have hr1:Room 1 _:=hr.mono (by decide)
  have hr2:Room 2 _:=hr.mono (by decide)
  have sz:(1000:Nat)<=sizeLine:=by decide
  refine ⟨_,af (ig (pv 0) (c9 rfl (aR (aI (i:=1) scTF.nd rfl (Or.inl rfl)) (aR (aI (i:=2) scTF.nd rfl (Or.inl rfl)) (aR (aI (i:=3) scTF.nd rfl (Or.inl rfl)) (aR (aI (i:=4) scTF.nd rfl (Or.inl rfl)) (aR (aI (i:=5) scTF.nd rfl (Or.inl rfl)) (aR (aI (i:=6) scTF.nd rfl (Or.inl rfl)) (aR (aI (i:=7) scTF.nd rfl (Or.inl rfl)) cg)))))))))
   (af (aB (i:=8) scTF.nd rfl (Or.inl rfl) ir)
   (cF (fun σ H'=>∃ (d:Addr) (v9 v10 v11 v12:Option V),σ=[some (.ref p),some (.int D.width),some (.int D.cells),some (.int D.depth),some (.ref pp),some (.ref pm),some (.ref pg),some (.ref pk),some (.ref d),v9,v10,v11,v12]/\H d=none/\Same H H'/\NmI H' d (D.places.map (fun z=>(z,("place":Str))))) (cH PassesOwn.never rfl (iw rfl B3.enumerate (aa (pv 4) ac)) (c9 rfl (aR (aI (i:=9) scTF.nd rfl (Or.inl rfl)) (aR (aI (i:=10) scTF.nd rfl (Or.inl rfl)) cg))) (ah (bo (aq AN hr1 rfl (aa (pv 8) (aa (pv 10) (aa ak (aa (aH (aa ak (aa (pv 9) ac))) ac))))))))
   (cF (fun σ H'=>∃ (d:Addr) (v9 v10 v11 v12:Option V),σ=[some (.ref p),some (.int D.width),some (.int D.cells),some (.int D.depth),some (.ref pp),some (.ref pm),some (.ref pg),some (.ref pk),some (.ref d),v9,v10,v11,v12]/\H d=none/\Same H H'/\NmI H' d (fM D)) (cH PassesOwn.never rfl (iw rfl B3.enumerate (aa (pv 5) ac)) (c9 rfl (aR (aI (i:=9) scTF.nd rfl (Or.inl rfl)) (aR (aI (i:=10) scTF.nd rfl (Or.inl rfl)) cg))) (ah (bo (aq AN hr1 rfl (aa (pv 8) (aa (pv 10) (aa ak (aa (aH (aa ak (aa (pv 9) ac))) ac))))))))
   (af (aB (i:=11) scTF.nd rfl (Or.inl rfl) dD)
   (cF (fun σ H'=>∃ (d:Addr) (v9 v10 v11 v12:Option V),σ=[some (.ref p),some (.int D.width),some (.int D.cells),some (.int D.depth),some (.ref pp),some (.ref pm),some (.ref pg),some (.ref pk),some (.ref d),v9,v10,v11,v12]/\v11=some (lB D)/\H d=none/\Same H H'/\NmI H' d (fM D)) (cH PassesOwn.never rfl (dj (pv 6)) (aI (i:=10) scTF.nd rfl (Or.inl rfl)) (af (bo (aq NK hr1 rfl (aa (pv 8) (aa (pv 10) (aa (aH (aa ak ac)) ac))))) (ah (aB (i:=11) scTF.nd rfl (Or.inl rfl) (pv 10)))))
   (af (aB (i:=12) scTF.nd rfl (Or.inl rfl) (aq KN hr rfl (aa (pv 8) (aa (pv 7) ac))))
   (ah (al (cM MK IN hr2 rfl mgT bI .nil cP (aa (pv 1) (aa (pv 2) (aa (pv 3) (aa (pv 4) (aa (pv 5) (aa (pv 11) (aa (pv 12) ac)))))))))))))))),?_⟩
  refine ⟨_,rfl,p,_,rfl,SqT.of hp,rfl,_,_,rfl,_,_,rfl,_,_,rfl,_,_,rfl,_,_,rfl,_,_,rfl,_,_,rfl,rfl,?_⟩
  refine fun d nd=>?_
  have s1:=ae (o:=.dK []) nd
  have I1:NmI (aC H d (.dK [])) d []:=⟨[],ad,.nil⟩
  generalize aC H d (.dK ([]:List (cz×V)))=H1 at *
  refine ⟨?_,?_⟩
  ·rintro σ H2 ⟨d,v9,v10,v11,v12,rfl,nd,s2,I2⟩
   refine ⟨?_,?_⟩
   ·rintro σ H3 ⟨d,v9,v10,v11,v12,rfl,nd,s3,I3⟩
    refine ⟨?_,?_⟩
    ·rintro σ H4 ⟨d,v9,v10,v11,v12,rfl,rfl,nd,s4,I4⟩
     refine ⟨_,rfl,_,rfl,d,pk,us,fM D,D.kinds,rfl,I4,s4 _ _ hpk,cq (fun _ _ h=>KindV.kt (be s4) h) hus,hD.kn,hD.kf,?_,hD.k8,fun p5 us5 H5 s5 n5 e5 k5=>?_⟩
     ·unfold fM
      rw [BN,BJ,BJ]
      have:=hD.p4
      have:=hD.m3
      lia
     have s05:=s4.trans s5
     refine ⟨_,rfl,_,rfl,_,rfl,_,rfl,_,rfl,_,rfl,_,rfl,fun x dx nx ndx ne=>?_⟩
     refine ⟨x,dx,_,_,_,_,_,_,p5,us5,D.kinds,rfl,ad,(aG nx (ae ndx)) _ _ e5,cq (fun _ _ h=>KindV.kt (be (aG nx (ae ndx))) h) k5,hD.k8,fun pn H7 e7 npn epn b7=>⟨rfl,?_⟩⟩
     have s57:Same H5 H7:=dC nx (aG nx (ae ndx)) b7
     have s07:=s05.trans s57
     exact q _ _ s07 ⟨x,dx,pp,pm,pn,p5,us5,rfl,e7,s07 _ _ hpp,s07 _ _ hpm,epn,s57 _ _ e5,cq (fun _ _ h=>KindV.kt (be s57) h) k5⟩
    ·refine ⟨_,rfl,pg,rfl,⟨_,SqT.of (s3 _ _ hpg)⟩,?_⟩
     refine gZ (K:=K) (a:=pg) (xs:=ap D.gates) (fun i σ H'=>∃ (v9 v10 v11 v12:Option V),σ=[some (.ref p),some (.int D.width),some (.int D.cells),some (.int D.depth),some (.ref pp),some (.ref pm),some (.ref pg),some (.ref pk),some (.ref d),v9,v10,v11,v12]/\v11=some (if i=0 then .non else lB D)/\Same H H'/\NmI H' d (fM D)) ⟨_,_,_,_,rfl,rfl,s3,I3⟩ (fun i σ H' _ ⟨_,_,_,_,_,_,s',_⟩=>SqT.of (s' _ _ hpg)) ?_ ?_
     ·rintro i x σ Ha hx ⟨w9,w10,w11,w12,rfl,rfl,sa,Ia⟩
      have hg1:=hD.g1
      have hgt:=hD.gt
      have hlt0:i < (ap D.gates).length:=(BL.mp hx).1
      unfold ap at hx hlt0
      rw [BJ] at hlt0
      cases hgs:D.gates with
      | nil=>rw [hgs] at hlt0;simp at hlt0
      | cons z r=>
       rw [hgs] at hx hlt0 hg1 hgt
       have hi0:i=0:=by simp only [BS] at hg1 hlt0;lia
       subst hi0
       have exz:x=.str z:=by simpa using hx.symm
       subst exz
       have hzm:=hgt z BQ
       refine ⟨_,rfl,_,rfl,bh,fun t nt=>?_⟩
       have sb:=ae (o:=.tup [.str "mark"]) nt
       refine ⟨d,fM D,z,"mark",t,["mark"],rfl,Ia.same sb,?_,hD.nd,.inr (SqT.of ad),by simp,fun qq sl Hb sc eb=>?_⟩
       ·exact Ck _ (CM.mpr ⟨z,hzm,rfl⟩)
       refine ⟨_,rfl,_,_,_,_,rfl,?_,(sa.trans sb).trans sc,(Ia.same sb).same sc⟩
       rw [if_neg (by lia)]
       unfold lB
       rw [hgs]
     ·rintro σ Ha ⟨w9,w10,w11,w12,rfl,rfl,sa,Ia⟩
      refine ⟨d,_,_,_,_,rfl,?_,nd,sa,Ia⟩
      have ell:(ap D.gates).length=D.gates.length:=by unfold ap;rw [BJ]
      rw [ell]
      cases hgs:D.gates with
      | nil=>
       unfold lB
       rw [hgs]
       rfl
      | cons z r=>rw [if_neg (by simp)]
   ·refine ⟨_,rfl,pm,rfl,⟨_,SqT.of (s2 _ _ hpm)⟩,?_⟩
    refine gF (K:=K) (l:=pm) (xs:=ap D.marks) (fun i σ H'=>∃ (v9 v10 v11 v12:Option V),σ=[some (.ref p),some (.int D.width),some (.int D.cells),some (.int D.depth),some (.ref pp),some (.ref pm),some (.ref pg),some (.ref pk),some (.ref d),v9,v10,v11,v12]/\Same H H'/\NmI H' d (D.places.map (fun z=>(z,("place":Str)))++(D.marks.take i).map (fun z=>(z,("mark":Str))))) ⟨_,_,_,_,rfl,s2,by simpa using I2⟩ (fun i σ H' _ ⟨_,_,_,_,_,s',_⟩=>SqT.of (s' _ _ hpm)) ?_ ?_
    ·rintro i x σ Ha T1 hx nT ⟨w9,w10,w11,w12,rfl,sa,Ia⟩
     obtain ⟨z,hz,rfl⟩:∃ z,D.marks[i]?=some z/\x=.str z:=by
      unfold ap at hx
      rw [Co] at hx
      cases hh:D.marks[i]? with
      | none=>rw [hh] at hx;cases hx
      | some z=>rw [hh] at hx;exact ⟨z,rfl,(Cf hx).symm⟩
     have hlt:i < D.marks.length:=(BL.mp hz).1
     have hzi:D.marks[i]=z:=(BL.mp hz).2
     have sb:=ae (o:=.tup [.int (i:Int),.str z]) nT
     refine ⟨T1,_,rfl,SqT.of ad,rfl,_,_,rfl,_,_,rfl,rfl,?_⟩
     refine ⟨_,rfl,_,rfl,_,rfl,bh,fun t nt=>?_⟩
     have sc:=ae (o:=.tup [.str "is",.int (i:Int)]) nt
     have sac:=sa.trans (sb.trans sc)
     have etk:(D.marks.take (i+1)).map (fun z=>(z,("mark":Str)))=(D.marks.take i).map (fun z=>(z,("mark":Str)))++[(z,("mark":Str))]:=by rw [Cj,hz,BR];rfl
     refine ⟨d,_,z,"mark",.ref t,rfl,Ia.same (sb.trans sc),?_,?_,fun Hb Ib bb=>⟨_,_,_,_,rfl,dC nd sac bb,?_⟩⟩
     ·have hh:=hD.nd
      have e5:fM D=(D.places.map (fun z=>(z,("place":Str)))++(D.marks.take i).map (fun z=>(z,("mark":Str))))++((z,("mark":Str))::(D.marks.drop (i+1)).map (fun z=>(z,("mark":Str)))):=by
       have:=(CW i D.marks).symm
       rw [CB hlt,hzi] at this
       unfold fM
       (conv=>lhs;rw [this]);simp
      rw [e5] at hh
      exact rg hh
     ·simp only [BN,BJ,BX,Cn]
      have:=hD.p4
      have:=hD.m3
      lia
     ·rw [etk,<-Cu]
      exact Ib
    ·rintro σ Ha ⟨w9,w10,w11,w12,rfl,sa,Ia⟩
     have ell:(ap D.marks).length=D.marks.length:=by unfold ap;rw [BJ]
     rw [ell,Cg] at Ia
     exact ⟨d,_,_,_,_,rfl,nd,sa,Ia⟩
  ·refine ⟨_,rfl,pp,rfl,⟨_,SqT.of (s1 _ _ hpp)⟩,?_⟩
   refine gF (K:=K) (l:=pp) (xs:=ap D.places) (fun i σ H'=>∃ (v9 v10 v11 v12:Option V),σ=[some (.ref p),some (.int D.width),some (.int D.cells),some (.int D.depth),some (.ref pp),some (.ref pm),some (.ref pg),some (.ref pk),some (.ref d),v9,v10,v11,v12]/\Same H H'/\NmI H' d ([]++(D.places.take i).map (fun z=>(z,("place":Str))))) ⟨_,_,_,_,rfl,s1,by simpa using I1⟩ (fun i σ H' _ ⟨_,_,_,_,_,s',_⟩=>SqT.of (s' _ _ hpp)) ?_ ?_
   ·rintro i x σ Ha T1 hx nT ⟨w9,w10,w11,w12,rfl,sa,Ia⟩
    obtain ⟨z,hz,rfl⟩:∃ z,D.places[i]?=some z/\x=.str z:=by
     unfold ap at hx
     rw [Co] at hx
     cases hh:D.places[i]? with
     | none=>rw [hh] at hx;cases hx
     | some z=>rw [hh] at hx;exact ⟨z,rfl,(Cf hx).symm⟩
    have hlt:i < D.places.length:=(BL.mp hz).1
    have hzi:D.places[i]=z:=(BL.mp hz).2
    have sb:=ae (o:=.tup [.int (i:Int),.str z]) nT
    refine ⟨T1,_,rfl,SqT.of ad,rfl,_,_,rfl,_,_,rfl,rfl,?_⟩
    refine ⟨_,rfl,_,rfl,_,rfl,bh,fun t nt=>?_⟩
    have sc:=ae (o:=.tup [.str "is",.int (i:Int)]) nt
    have sac:=sa.trans (sb.trans sc)
    have etk:(D.places.take (i+1)).map (fun z=>(z,("place":Str)))=(D.places.take i).map (fun z=>(z,("place":Str)))++[(z,("place":Str))]:=by rw [Cj,hz,BR];rfl
    refine ⟨d,_,z,"place",.ref t,rfl,Ia.same (sb.trans sc),?_,?_,fun Hb Ib bb=>⟨_,_,_,_,rfl,dC nd sac bb,?_⟩⟩
    ·have hh:=hD.nd
     have e5:fM D=([]++(D.places.take i).map (fun z=>(z,("place":Str))))++((z,("place":Str))::(D.places.drop (i+1)).map (fun z=>(z,("place":Str)))++D.marks.map (fun z=>(z,("mark":Str)))):=by
      have:=(CW i D.places).symm
      rw [CB hlt,hzi] at this
      unfold fM
      (conv=>lhs;rw [this]);simp
     rw [e5] at hh
     exact rg hh
    ·simp only [BN,BJ,BX,Cn]
     have:=hD.p4
     have:=hD.m3
     lia
    ·rw [etk,<-Cu]
     exact Ib
   ·rintro σ Ha ⟨w9,w10,w11,w12,rfl,sa,Ia⟩
    have ell:(ap D.places).length=D.places.length:=by unfold ap;rw [BJ]
    rw [ell,Cg] at Ia
    exact ⟨d,_,_,_,_,rfl,nd,sa,by simpa using Ia⟩
inductive xz (C:Addr) (xs:List V) (H:Hp) (Q:VK) (Z3:XK):Prop
 | mk (l:List Nat) (D:Fm):xs=[.str (S l)]->l.length<=20000->(TK.toks l).length<=1500->mU ((TK.toks l).map S) D->pz D->(∀ v H',Same H H'->TabV C H' v D->Q v H')->xz C xs H Q Z3
theorem uK (ts:List (List Nat)):vs ts=ap (ts.map S):=by
 unfold vs ap
 rw [C7]
 rfl
theorem A7:am ["text"] ["text"] (aj fG):=bG (by decide +kernel)
theorem zT (F:Fun K "read_table" "read_table" fG f fd) (B:Bl mg) (hM:mg "MOST_SIGNS"=some (.int 20000 tM)) (TO:Fn P w K mg base "tokens_of" 3 ["text"] mY) (RF:Fn P w K mg base "read_form" 7 ["tokens"] mV) (TF:Fn P w K mg base "table_of_form" 4 ["form"] (xy C)):FnOk P w K mg base bu 8 f fd ["text"] (xz C):=by
 have ZZ:=A7
 walk_at "o"
 ·obtain ⟨l,D,rfl,hl,ht,hF,hO,q⟩:=h
  have hr3:Room 3 _:=hr.mono (by decide)
  have hr4:Room 4 _:=hr.mono (by decide)
  have sz:(100000:Nat)<=sizeLine:=by decide
  refine ⟨_,af (aQ (PW.pt (cA (cf (bf (aA (cJ (T:="str")) (by rfl) B.isinstance bL (aa (pv 0) (aa (pe_ty (by rfl) B.str eV) ac))))) (bY (ax nG (aA bQ (by rfl) B.len B7 (aa (pv 0) ac)) (aX (v:=.int 20000) rfl hM ⟨_,rfl⟩) (az _))))) (ah bx) ay)
   (ah (al (aq TF hr4 rfl (aa (aq RF hr rfl (aa (aq TO hr3 rfl (aa (pv 0) ac)) ac)) ac)))),?_⟩
  refine ⟨_,rfl,_,_,_,rfl,.str _,rfl,_,rfl,bz ?_⟩
  refine ⟨_,rfl,S l,rfl,(by rw [bK];lia),_,_,rfl,rfl,_,rfl,aP (decide_eq_false (by rw [bK];lia)) ?_⟩
  refine ⟨_,rfl,l,rfl,by lia,fun p H1 np e1 s1=>?_⟩
  rw [uK] at e1
  refine ⟨p,_,D,rfl,e1,by rw [BJ];exact ht,hF,fun u H2 s2 hu=>?_⟩
  exact ⟨u,D,rfl,hu,hO,fun v H3 s3 hv=>q v H3 (s1.trans (s2.trans s3)) hv⟩
abbrev j4:Stmt:=aN (bH 101) 1
abbrev gO:Stmt:=aN (bH 101) 2
variable {z:Str}
theorem rh {l:List Str} (nd:l.Nodup) {j:Nat} (h:l[j]?=some z):∀ m,m < j->l[m]?≠some z:=by
 intro m hm e
 have h1:=(BL.mp h).1
 have h2:=(BL.mp h).2
 have h3:=(BL.mp e).1
 have h4:=(BL.mp e).2
 exact List.pairwise_iff_getElem.mp nd m j h3 h1 hm (by rw [h2,h4])
theorem rj {α β:Type} {R:α->β->Prop}:∀ {xs:List α} {ys:List β},Paired R xs ys->∀ {i:Nat} {y:β},ys[i]?=some y->∃ x,xs[i]?=some x/\R x y
 | _,_,.cons h t,0,y,e=>by
  simp at e
  exact ⟨_,rfl,e ▸ h⟩
 | _,_,.cons h t,i+1,y,e=>by
  obtain ⟨x,a,b⟩:=rj t (i:=i) (y:=y) (by simpa using e)
  exact ⟨x,by simpa using a,b⟩
theorem xA {α:Type} {x:α}:∀ {l:List α},x∈l->∃ j:Nat,l[j]?=some x:=fun h=>let ⟨j,hj,e⟩:=List.getElem_of_mem h;⟨j,by rw [BZ hj,e]⟩
variable {D:Fm}
theorem TabV.same {v:V} (h:TabV C H v D) (s:Same H H'):TabV C H' v D:=
 let ⟨a,dx,pp,pm,pn,pk,us,e,b,c,d,f,g,i⟩:=h
 ⟨a,dx,pp,pm,pn,pk,us,e,s _ _ b,s _ _ c,s _ _ d,s _ _ f,s _ _ g,cq (fun _ _ h=>KindV.kt (be s) h) i⟩
theorem rl:am ["self","kind"] ["self","kind"] (aj j4):=bG (by decide +kernel)
theorem A8:am ["self","kind"] ["self","kind"] (aj gO):=bG (by decide +kernel)
def cp (z:Str):List Nat:=z.cps.toList
theorem gl (z:Str):S (cp z)=z:=(uj z).symm
theorem zU (l:List Nat):cp (S l)=l:=rfl
theorem j5 (sep:List Nat):∀ ts:List (List Nat),(TK.jn sep ts).length<=(ts.map List.length).sum+ts.length*sep.length
 | []=>by simp [TK.jn]
 | [t]=>by simp [TK.jn]
 | t::u::r=>by
  have ih:=j5 sep (u::r)
  show (t++(sep++TK.jn sep (u::r))).length<=_
  rw [BN,BN]
  simp only [B6,List.sum_cons,BS] at ih ⊢
  have:(r.length+1+1)*sep.length=(r.length+1)*sep.length+sep.length:=by rw [Nat.add_mul (r.length+1) 1,Nat.one_mul]
  lia
theorem iH (k:Nat):∀ ts:List (List Nat),(∀ t∈ts,t.length<=k)->(ts.map List.length).sum<=ts.length*k
 | [],_=>by simp
 | t::r,h=>by
  have ih:=iH k r (fun t ht=>h t (BV _ ht))
  have:=h t BQ
  simp only [B6,List.sum_cons,BS]
  have:(r.length+1)*k=r.length*k+k:=by rw [Nat.add_mul,Nat.one_mul]
  lia
theorem xC:(" ":Str)=S [32]:=by decide +kernel
structure BH (D:Fm):Prop where
 pl:∀ z∈D.places,NameS z
 mrk:∀ z∈D.marks,NameS z
 kn:∀ x∈D.kinds,NameS x.name
theorem NameS.len (h:NameS z):(cp z).length<=8:=by
 have:=h.2.2.1
 have e:z.length=(cp z).length:=by unfold cp;simp [Str.length]
 lia
theorem NameS.pos (h:NameS z):1<=(cp z).length:=by
 have:=h.2.1
 have e:z.length=(cp z).length:=by unfold cp;simp [Str.length]
 lia
structure i9 (D:Fm) (fn:List Str):Prop where
 w4:4<=D.width
 w24:D.width<=24
 ce:4<=D.cells/\D.cells<=64
 de:D.depth<=8
 fm:pz D
 nm:BH D
 f3:fn.length=3
 fS:∀ z∈fn,NameS z
 p1:1<=D.places.length
 k1:1<=D.kinds.length
 kf:∀ x∈D.kinds,∃ st,x.fs=fn.zip st/\st.length<=3/\∀ s∈st,s∈cG/\True
theorem eG:∀ (a b:List Str),b.length<=a.length->(a.zip b).map (·.1)=a.take b.length
 | _,[],_=>by simp
 | [],_::_,h=>by simp at h
 | x::a,y::b,h=>by
  rw [List.zip_cons_cons,B6,eG a b (by simpa using h)]
  rfl
def gW (c:Nat):Prop:=(97<=c/\c<=122)\/(48<=c/\c<=57)
variable {c:Nat}
theorem oa (h:gW c):TK.dz c=false:=by
 unfold gW at h
 unfold TK.dz
 simp
 omega
theorem m5 (h:gW c):TK.cI c=false:=by
 unfold gW at h
 unfold TK.cI
 simp
 omega
theorem og (h:gW c) (r:List Nat):TK.gB (c::r)=0:=by
 have hs:=m5 h
 unfold gW at h
 cases r with
 | nil=>rw [TK.dJ,hs];rfl
 | cons d r=>
  rw [TK.cW,hs,if_neg (by simp;lia)]
  rfl
theorem oh:∀ t:List Nat,(∀ c∈t,gW c)->TK.run t=t.length
 | [],_=>rfl
 | c::r,h=>by
  have hc:=h c BQ
  rw [TK.bZ,oa hc,og hc,if_neg (by simp),oh r (fun d hd=>h d (BV _ hd)),BS]
  lia
variable {t:List Nat}
theorem j6 (hne:t≠[]) (h:∀ c∈t,gW c):TK.Tok t:=by
 cases t with
 | nil=>exact absurd rfl hne
 | cons c r=>
  have hc:=h c BQ
  have:=TK.dL (r:=r) (oa hc)
  have e:TK.one (c::r)=(c::r).length:=by
   unfold TK.one
   rw [if_pos (og hc r),oh _ h]
  rw [e,Cg] at this
  exact this
theorem rm (h:c=40\/c=41\/c=44\/c=59\/c=123\/c=125):TK.Tok [c]:=by
 rcases h with rfl|rfl|rfl|rfl|rfl|rfl
 ·exact TK.dL (c:=40) (r:=[]) rfl
 ·exact TK.dL (c:=41) (r:=[]) rfl
 ·exact TK.dL (c:=44) (r:=[]) rfl
 ·exact TK.dL (c:=59) (r:=[]) rfl
 ·exact TK.dL (c:=123) (r:=[]) rfl
 ·exact TK.dL (c:=125) (r:=[]) rfl
def gP:List (Str×Str)->List (List Nat)
 | []=>[]
 | [x]=>[cp x.1,cp x.2]
 | x::y::r=>cp x.1::cp x.2::[44]::gP (y::r)
def rn (D:Fm):List (List (List Nat)):=[[cp "word"],[dg D.width],[[59],cp "cells"],[dg D.cells],[[59],cp "depth"],[dg D.depth],[[59],cp "places"]]
def rq (D:Fm):List (List (List Nat)):=D.places.map (fun z=>[cp z])++[[[59],cp "marks"]]++D.marks.map (fun z=>[cp z])
def rB (D:Fm):List (List (List Nat)):=[[[59],cp "gate"]]++D.gates.map (fun z=>[cp z])++[[[59]]]
def gY (x:Kn):List (List (List Nat)):=[[cp "kind"],[cp x.name],[[40]],gP x.fs,[[41],[123],cp "next",[125]]]
def uL (D:Fm):List (List (List Nat)):=rn D++rq D++rB D++(D.kinds.map gY).flatten
def rC (D:Fm):List (List Nat):=(uL D).flatten
theorem ib {sep t:List Nat} {r:List (List Nat)} (h:r≠[]):TK.jn sep (t::r)=t++(sep++TK.jn sep r):=by
 cases r with
 | nil=>exact absurd rfl h
 | cons u r=>rfl
theorem rD:∀ fs:List (Str×Str),TK.jn [32,44,32] (fs.map fun x=>cp x.1++(32::cp x.2))=TK.jn [32] (gP fs)
 | []=>rfl
 | [x]=>rfl
 | x::y::r=>by
  have ih:=rD (y::r)
  have hne:gP (y::r)≠[]:=by
   cases r<;>simp [gP]
  rw [B6,ib (by simp),ih]
  show _=TK.jn [32] (cp x.1::cp x.2::[44]::gP (y::r))
  rw [ib (by simp),ib (by simp),ib hne]
  simp
structure TkOk (t:List Nat):Prop where
 tok:TK.Tok t
 le:t.length<=8
theorem TkOk.name (h:NameS z):TkOk (cp z):=by
 refine ⟨j6 (fun e=>?_) (fun c hc=>.inl (h.2.2.2 c hc)),h.len⟩
 have:=h.pos
 rw [e] at this
 simp at this
theorem TkOk.num (h:n < 100000000):TkOk (dg n):=by
 refine ⟨j6 (fun e=>?_) (fun c hc=>.inr (qU n c hc)),(jX n).2 8 (by decide) h⟩
 have:=(jX n).1
 rw [e] at this
 simp at this
theorem TkOk.sign (h:c=40\/c=41\/c=44\/c=59\/c=123\/c=125):TkOk [c]:=⟨rm h,by simp⟩
def wordsL:List Str:=["word","cells","depth","places","marks","gate","kind","next","place","mark","number","row"]
theorem rE:(wordsL.all fun z=>decide (cp z≠[]) && decide ((cp z).length<=8) && (cp z).all fun c=>decide (97<=c) && decide (c<=122))=true:=by decide +kernel
theorem TkOk.word (h:z∈wordsL):TkOk (cp z):=by
 have:=CA.mp rE z h
 simp only [CO,decide_eq_true_eq,CA] at this
 exact ⟨j6 this.1.1 (fun c hc=>.inl (this.2 c hc)),this.1.2⟩
theorem dQ {s:Str} (h:s∈cG):s∈wordsL:=by
 have e:s∈(["place","mark","number","row"]:List Str):=h
 show s∈(["word","cells","depth","places","marks","gate","kind","next","place","mark","number","row"]:List Str)
 simp only [BW,Ch,or_false] at e ⊢
 rcases e with h|h|h|h<;>simp [h]
theorem uM {a b:List Str} (h:x∈a.zip b):x.1∈a/\x.2∈b:=⟨(Dh (a:=x.1) (b:=x.2) h).1,(Dh (a:=x.1) (b:=x.2) h).2⟩
variable {fn:List Str}
theorem oi (h:i9 D fn) {x:Kn} (hx:x∈D.kinds):∀ f∈x.fs,NameS f.1/\f.2∈cG:=by
 obtain ⟨st,e,_,hs⟩:=h.kf x hx
 rw [e]
 intro f hf
 obtain ⟨h1,h2⟩:=uM hf
 exact ⟨h.fS _ h1,(hs _ h2).1⟩
theorem oj:∀ {fs:List (Str×Str)},(∀ f∈fs,NameS f.1/\f.2∈cG)->∀ t∈gP fs,TkOk t
 | [],_,t,h=>by simp [gP] at h
 | [x],hf,t,h=>by
  have hx:=hf x BQ
  simp [gP] at h
  rcases h with rfl|rfl
  ·exact .name hx.1
  ·exact .word (dQ hx.2)
 | x::y::r,hf,t,h=>by
  have hx:=hf x BQ
  have h':t∈cp x.1::cp x.2::[44]::gP (y::r):=h
  simp only [BW] at h'
  rcases h' with rfl|rfl|rfl|h'
  ·exact .name hx.1
  ·exact .word (dQ hx.2)
  ·exact .sign (by decide)
  ·exact oj (fun f hf'=>hf f (BV _ hf')) t h'
theorem gm:∀ fs:List (Str×Str),(gP fs).length=3*fs.length - 1
 | []=>rfl
 | [x]=>rfl
 | x::y::r=>by
  have:=gm (y::r)
  show (cp x.1::cp x.2::[44]::gP (y::r)).length=_
  simp only [BS] at this ⊢
  lia
theorem wd (h:z∈wordsL):TkOk (cp z):=.word h
theorem m6 (h:i9 D fn):∀ g∈uL D,g.length<=8/\∀ t∈g,TkOk t:=by
 have one:∀ (t:List Nat),TkOk t->([t]:List (List Nat)).length<=8/\∀ u∈[t],TkOk u:=fun t ht=>⟨by simp,fun u hu=>by rw [Cb.mp hu];exact ht⟩
 have two:∀ (a b:List Nat),TkOk a->TkOk b->([a,b]:List (List Nat)).length<=8/\∀ u∈[a,b],TkOk u:=fun a b ha hb=>⟨by simp,fun u hu=>by
  simp only [BW,Ch,or_false] at hu
  rcases hu with rfl|rfl
  ·exact ha
  ·exact hb⟩
 intro g hg
 unfold uL at hg
 have w24:=h.w24
 have ce:=h.ce
 have de:=h.de
 rcases Cp.mp hg with hg|hg
 ·rcases Cp.mp hg with hg|hg
  ·rcases Cp.mp hg with hg|hg
   ·unfold rn at hg
    simp only [BW,Ch,or_false] at hg
    rcases hg with rfl|rfl|rfl|rfl|rfl|rfl|rfl
    ·exact one _ (wd (by decide +kernel))
    ·exact one _ (.num (by lia))
    ·exact two _ _ (.sign (by decide)) (wd (by decide +kernel))
    ·exact one _ (.num (by lia))
    ·exact two _ _ (.sign (by decide)) (wd (by decide +kernel))
    ·exact one _ (.num (by lia))
    ·exact two _ _ (.sign (by decide)) (wd (by decide +kernel))
   ·unfold rq at hg
    rcases Cp.mp hg with hg|hg
    ·rcases Cp.mp hg with hg|hg
     ·obtain ⟨z,hz,rfl⟩:=CM.mp hg
      exact one _ (.name (h.nm.pl z hz))
     ·rw [Cb.mp hg]
      exact two _ _ (.sign (by decide)) (wd (by decide +kernel))
    ·obtain ⟨z,hz,rfl⟩:=CM.mp hg
     exact one _ (.name (h.nm.mrk z hz))
  ·unfold rB at hg
   rcases Cp.mp hg with hg|hg
   ·rcases Cp.mp hg with hg|hg
    ·rw [Cb.mp hg]
     exact two _ _ (.sign (by decide)) (wd (by decide +kernel))
    ·obtain ⟨z,hz,rfl⟩:=CM.mp hg
     exact one _ (.name (h.nm.mrk z (h.fm.gt z hz)))
   ·rw [Cb.mp hg]
    exact one _ (.sign (by decide))
 ·obtain ⟨gk,hk,hg⟩:=List.mem_flatten.mp hg
  obtain ⟨x,hx,rfl⟩:=CM.mp hk
  unfold gY at hg
  simp only [BW,Ch,or_false] at hg
  rcases hg with rfl|rfl|rfl|rfl|rfl
  ·exact one _ (wd (by decide +kernel))
  ·exact one _ (.name (h.nm.kn x hx))
  ·exact one _ (.sign (by decide))
  ·refine ⟨?_,oj (oi h hx)⟩
   rw [gm]
   have:=(h.fm.kf x hx).2
   lia
  ·refine ⟨by simp,fun u hu=>?_⟩
   simp only [BW,Ch,or_false] at hu
   rcases hu with rfl|rfl|rfl|rfl
   ·exact .sign (by decide)
   ·exact .sign (by decide)
   ·exact wd (by decide +kernel)
   ·exact .sign (by decide)
theorem lC (k:Nat):∀ gs:List (List (List Nat)),(∀ g∈gs,g.length<=k)->gs.flatten.length<=gs.length*k
 | [],_=>by simp
 | g::r,h=>by
  have ih:=lC k r (fun g hg=>h g (BV _ hg))
  have:=h g BQ
  rw [CU,BN,BS]
  have:(r.length+1)*k=r.length*k+k:=by rw [Nat.add_mul,Nat.one_mul]
  lia
theorem eZ:∀ l:List Kn,((l.map gY).flatten).length=5*l.length
 | []=>rfl
 | x::r=>by
  rw [B6,CU,BN,eZ r,BS]
  show 5+_=_
  lia
theorem uN (h:i9 D fn):(uL D).length<=60:=by
 unfold uL rn rq rB
 simp only [BN,BJ,BS,Cn,eZ]
 have:=h.fm.p4
 have:=h.fm.m3
 have:=h.fm.k8
 have:=h.fm.g1
 lia
def vR (D:Fm):List Nat:=TK.jn [32] (rC D)
theorem rF (h:i9 D fn):(vR D).length<=20000/\(rC D).length<=1500:=by
 have h1:=lC 8 (uL D) (fun g hg=>(m6 h g hg).1)
 have h2:=uN h
 have h3:=j5 [32] (rC D)
 have h4:=iH 8 (rC D) (fun t ht=>by
  obtain ⟨g,hg,ht⟩:=List.mem_flatten.mp ht
  exact ((m6 h g hg).2 t ht).le)
 unfold vR
 simp only [BS,Cn] at h3
 have h5:(rC D).length<=480:=by
  have:(rC D).length=(uL D).flatten.length:=rfl
  lia
 exact ⟨by lia,by lia⟩
def fT (fs:List (Str×Str)):List Str:=(gP fs).map S
def kT (x:Kn):List Str:=[("kind":Str),x.name,("(":Str)]++fT x.fs++[(")":Str),("{":Str),("next":Str),("}":Str)]
def tT (D:Fm):List Str:=[("word":Str),(toString (D.width:Int):Str),(";":Str),("cells":Str),(toString (D.cells:Int):Str),(";":Str),("depth":Str),(toString (D.depth:Int):Str),(";":Str),("places":Str)]++D.places++[(";":Str),("marks":Str)]++D.marks++[(";":Str),("gate":Str)]++D.gates++[(";":Str)]++(D.kinds.map kT).flatten
theorem xD (x:Str×Str):fT [x]=[x.1,x.2]:=by
 show [S (cp x.1),S (cp x.2)]=_
 rw [gl,gl]
theorem xE (x y:Str×Str) (r:List (Str×Str)):fT (x::y::r)=x.1::x.2::(",":Str)::fT (y::r):=by
 show S (cp x.1)::S (cp x.2)::S [44]::fT (y::r)=_
 rw [gl,gl]
 have:S [44]=(",":Str):=by decide +kernel
 rw [this]
theorem rG (fs:List (Str×Str)):(fT fs).length=3*fs.length - 1:=by
 unfold fT
 rw [BJ,gm]
theorem j7 (l:List Str):((l.map fun z=>[cp z]).flatten).map S=l:=by
 induction l with
 | nil=>rfl
 | cons z r ih=>
  rw [B6,CU,BR,ih]
  show S (cp z)::r=_
  rw [gl]
theorem zV (x:Kn):((gY x).flatten).map S=kT x:=by
 unfold gY kT
 have e1:S (cp ("kind":Str))=("kind":Str):=gl _
 have e2:S [40]=("(":Str):=by decide +kernel
 have e3:S [41]=(")":Str):=by decide +kernel
 have e4:S [123]=("{":Str):=by decide +kernel
 have e5:S (cp ("next":Str))=("next":Str):=gl _
 have e6:S [125]=("}":Str):=by decide +kernel
 simp [e1,e2,e3,e4,e5,e6,gl,fT]
theorem rH (l:List Kn):(((l.map gY).flatten).flatten).map S=(l.map kT).flatten:=by
 induction l with
 | nil=>rfl
 | cons x r ih=>
  rw [B6,CU,List.flatten_append,BR,ih,zV,B6,CU]
theorem zW (D:Fm):(rC D).map S=tT D:=by
 unfold rC uL tT
 have e2:S [59]=(";":Str):=by decide +kernel
 rw [List.flatten_append,List.flatten_append,List.flatten_append,BR,BR,BR,rH]
 unfold rn rq rB
 rw [List.flatten_append,List.flatten_append,List.flatten_append,List.flatten_append,BR,BR,BR,BR,j7,j7,j7]
 rw [fL,fL,fL]
 simp [e2,gl]
variable {A B ts:List Str}
theorem bD {x:Str} {k:Nat} (e:ts=A++x::B) (h:A.length=k):(tz ts)[k]?=some x:=by
 subst e h
 unfold tz
 rw [Cu,List.getElem?_append_right (BT _)]
 simp
theorem j8 {A B ts zs:List Str} {k:Nat} (e:ts=A++(zs++B)) (h:A.length=k) (hn:∀ z∈zs,NameS z):lq ts k zs:=by
 intro i hi
 refine ⟨bD (A:=A++zs.take i) (B:=zs.drop (i+1)++B) ?_ ?_,hn _ (CS hi)⟩
 ·rw [e,Cu]
  congr 1
  rw [<-CI,<-CB hi,<-Cu,CW]
 ·rw [BN,BX]
  lia
theorem lD:∀ (fs:List (Str×Str)) {A B ts:List Str} {k:Nat},ts=A++(fT fs++B)->A.length=k->(∀ f∈fs,NameS f.1/\f.2∈cG)->mO ts k fs
 | [],_,_,_,_,_,_,_=>fun i h=>absurd h (by simp)
 | [x],A,B,ts,k,e,h,hf=>fun i hi=>by
  have h0:i=0:=by simpa using hi
  subst h0
  rw [xD] at e
  have hx:=hf x BQ
  refine ⟨bD (A:=A) (B:=x.2::B) e h,hx.1,bD (A:=A++[x.1]) (B:=B) (by rw [e];simp) (by simp [h]),hx.2,fun hh=>absurd hh (by simp)⟩
 | x::y::r,A,B,ts,k,e,h,hf=>fun i hi=>by
  rw [xE] at e
  have hx:=hf x BQ
  cases i with
  | zero=>
   refine ⟨bD (A:=A) (B:=x.2::(",":Str)::(fT (y::r)++B)) (by rw [e];simp) h,hx.1,bD (A:=A++[x.1]) (B:=(",":Str)::(fT (y::r)++B)) (by rw [e];simp) (by simp [h]),hx.2,fun _=>bD (A:=A++[x.1,x.2]) (B:=fT (y::r)++B) (by rw [e];simp) (by simp [h])⟩
  | succ i=>
   have ih:=lD (y::r) (A:=A++[x.1,x.2,(",":Str)]) (B:=B) (ts:=ts) (k:=k+3) (by rw [e];simp) (by simp [h]) (fun f hf'=>hf f (BV _ hf')) i (by simpa using hi)
   have e1:k+3+3*i=k+3*(i+1):=by lia
   rw [e1] at ih
   refine ⟨ih.1,ih.2.1,ih.2.2.1,ih.2.2.2.1,fun hh=>ih.2.2.2.2 (by simpa using hh)⟩
theorem rJ {x:Kn} {k:Nat} (e:ts=A++(kT x++B)) (h:A.length=k) (hn:NameS x.name) (hf:∀ f∈x.fs,NameS f.1/\f.2∈cG) (h3:x.fs.length<=3):mP ts k x:=by
 unfold kT at e
 have fl:=rG x.fs
 refine ⟨bD (A:=A) (B:=[x.name,("(":Str)]++fT x.fs++[(")":Str),("{":Str),("next":Str),("}":Str)]++B) (by rw [e];simp) h,
  bD (A:=A++[("kind":Str)]) (B:=[("(":Str)]++fT x.fs++[(")":Str),("{":Str),("next":Str),("}":Str)]++B) (by rw [e];simp) (by simp [h]),hn,
  bD (A:=A++[("kind":Str),x.name]) (B:=fT x.fs++[(")":Str),("{":Str),("next":Str),("}":Str)]++B) (by rw [e];simp) (by simp [h]),
  lD x.fs (A:=A++[("kind":Str),x.name,("(":Str)]) (B:=[(")":Str),("{":Str),("next":Str),("}":Str)]++B) (by rw [e];simp) (by simp [h]) hf,
  bD (A:=A++[("kind":Str),x.name,("(":Str)]++fT x.fs) (B:=[("{":Str),("next":Str),("}":Str)]++B) (by rw [e];simp) (by simp [h,fl];lia),h3,
  bD (A:=A++[("kind":Str),x.name,("(":Str)]++fT x.fs++[(")":Str)]) (B:=[("next":Str),("}":Str)]++B) (by rw [e];simp) (by simp [h,fl];lia),
  bD (A:=A++[("kind":Str),x.name,("(":Str)]++fT x.fs++[(")":Str),("{":Str)]) (B:=[("}":Str)]++B) (by rw [e];simp) (by simp [h,fl];lia),
  bD (A:=A++[("kind":Str),x.name,("(":Str)]++fT x.fs++[(")":Str),("{":Str),("next":Str)]) (B:=B) (by rw [e];simp) (by simp [h,fl];lia)⟩
theorem xF (x:Kn):(kT x).length=pi x:=by
 unfold kT pi
 simp only [BN,BS,Cn,rG]
 lia
theorem ju:∀ (l:List Kn) {A ts:List Str} {k:Nat},ts=A++(l.map kT).flatten->A.length=k->(∀ x∈l,NameS x.name/\(∀ f∈x.fs,NameS f.1/\f.2∈cG)/\x.fs.length<=3)->hZ ts k l
 | [],A,ts,k,e,h,_=>by
  show k=ts.length
  rw [e]
  simp [h]
 | x::r,A,ts,k,e,h,hx=>by
  rw [B6,CU] at e
  obtain ⟨h1,h2,h3⟩:=hx x BQ
  exact ⟨rJ e h h1 h2 h3,ju r (A:=A++kT x) (by rw [e];simp) (by rw [BN,xF,h]) (fun y hy=>hx y (BV _ hy))⟩
theorem uO (h:i9 D fn):mU (tT D) D:=by
 have ce:=h.ce
 have de:=h.de
 generalize hR:(D.kinds.map kT).flatten=R
 have e0:tT D=[("word":Str),(toString (D.width:Int):Str),(";":Str),("cells":Str),(toString (D.cells:Int):Str),(";":Str),("depth":Str),(toString (D.depth:Int):Str),(";":Str),("places":Str)]++(D.places++([(";":Str),("marks":Str)]++(D.marks++([(";":Str),("gate":Str)]++(D.gates++([(";":Str)]++R)))))):=by
  unfold tT
  rw [hR]
  simp
 refine ⟨bD (A:=[]) e0 rfl,bD (A:=[("word":Str)]) e0 rfl,bD (A:=[("word":Str),_]) e0 rfl,bD (A:=[("word":Str),_,(";":Str)]) e0 rfl,bD (A:=[("word":Str),_,(";":Str),("cells":Str)]) e0 rfl,bD (A:=[("word":Str),_,(";":Str),("cells":Str),_]) e0 rfl,bD (A:=[("word":Str),_,(";":Str),("cells":Str),_,(";":Str)]) e0 rfl,bD (A:=[("word":Str),_,(";":Str),("cells":Str),_,(";":Str),("depth":Str)]) e0 rfl,bD (A:=[("word":Str),_,(";":Str),("cells":Str),_,(";":Str),("depth":Str),_]) e0 rfl,bD (A:=[("word":Str),_,(";":Str),("cells":Str),_,(";":Str),("depth":Str),_,(";":Str)]) e0 rfl,
  j8 e0 rfl h.nm.pl,?_,?_,?_,?_,?_,?_,?_,?_,⟨h.w4,h.w24⟩,⟨by lia,by lia⟩,by lia,⟨h.p1,h.fm.p4⟩,h.fm.m3,h.fm.g1,⟨h.k1,h.fm.k8⟩⟩
 all_goals (have hW:([("word":Str),(toString (D.width:Int):Str),(";":Str),("cells":Str),(toString (D.cells:Int):Str),(";":Str),("depth":Str),(toString (D.depth:Int):Str),(";":Str),("places":Str)]:List Str).length=10:=rfl)
 all_goals (generalize ([("word":Str),(toString (D.width:Int):Str),(";":Str),("cells":Str),(toString (D.cells:Int):Str),(";":Str),("depth":Str),(toString (D.depth:Int):Str),(";":Str),("places":Str)]:List Str)=W at *)
 ·exact bD (A:=W++D.places) (B:=("marks":Str)::(D.marks++([(";":Str),("gate":Str)]++(D.gates++([(";":Str)]++R))))) (by rw [e0];simp) (by simp [hW])
 ·exact bD (A:=W++D.places++[(";":Str)]) (B:=D.marks++([(";":Str),("gate":Str)]++(D.gates++([(";":Str)]++R)))) (by rw [e0];simp) (by simp [hW];lia)
 ·exact j8 (A:=W++D.places++[(";":Str),("marks":Str)]) (B:=[(";":Str),("gate":Str)]++(D.gates++([(";":Str)]++R))) (by rw [e0];simp) (by simp [hW];lia) h.nm.mrk
 ·exact bD (A:=W++D.places++[(";":Str),("marks":Str)]++D.marks) (B:=("gate":Str)::(D.gates++([(";":Str)]++R))) (by rw [e0];simp) (by simp [hW];lia)
 ·exact bD (A:=W++D.places++[(";":Str),("marks":Str)]++D.marks++[(";":Str)]) (B:=D.gates++([(";":Str)]++R)) (by rw [e0];simp) (by simp [hW];lia)
 ·exact j8 (A:=W++D.places++[(";":Str),("marks":Str)]++D.marks++[(";":Str),("gate":Str)]) (B:=[(";":Str)]++R) (by rw [e0];simp) (by simp [hW];lia) (fun z hz=>h.nm.mrk z (h.fm.gt z hz))
 ·exact bD (A:=W++D.places++[(";":Str),("marks":Str)]++D.marks++[(";":Str),("gate":Str)]++D.gates) (B:=R) (by rw [e0];simp) (by simp [hW];lia)
 ·subst hR
  refine ju D.kinds (A:=W++D.places++[(";":Str),("marks":Str)]++D.marks++[(";":Str),("gate":Str)]++D.gates++[(";":Str)]) (by rw [e0];simp) (by simp [hW];lia) (fun x hx=>⟨h.nm.kn x hx,oi h hx,(h.fm.kf x hx).2⟩)
end L3
namespace XB
open PySem PySem.W PySem.Calls PyProof.Rows Builtin Builtin.ObjectAttr
abbrev bmV:List Value:=[.type "ValueError",.type "Exception",.type "BaseException",.type "object"]
section
variable {prog:Program} {w:World} {A:Around} {E:Value->Shared->Prop} {s:Shared} {K:Frag} {x C:Addr} {ox:Obj} {od:Option Obj} {name:Str} {expr:Bool}
variable {R:Result->Shared->Prop} {v:Value}
theorem xga_run {tk:Tok} (X:K.In s.heap) (I:InstAt s.heap x ox C od) (hb:mroIn K C (.type "BaseException")=some true) (hf:findObj K C od name=some (.value v)) (hq:R (.ok (.ret v)) s) :
  codeAny (model prog w) A (.call (.builtin "BaseException.__getattribute__") ⟨[.ref x,.str name tk],[]⟩) R s:=by
 refine codeAny_call_builtin F.attr_ValueError.ga.plain F.entry_bexc_ga ?_
 refine @check_slot (model prog w) _ _ s "BaseException.__getattribute__" "BaseException" "__getattribute__" (.ref x) [.str name tk] [] _ (by decide +kernel) (by decide +kernel) (I.type.andThen (looks_mroIn X hb)) (F.args_bexc_ga (.ref x) (.str name tk)) ?_
 obtain ⟨hh,g,d,t,os⟩:=s
 have L0:=I.type (M:=model prog w)
 have L1:=looks_find (M:=model prog w) X I hf
 refine wpAny_bind (wpAny_pure (wpAny_bind (wpAny_pure (wpAny_bind (L0.at (wpAny_bind (L1.at ?_)))))))
 exact wpAny_pure hq
theorem xga_bind {tk:Tok} {g a:Value} {R:Result->Shared->Prop} (X:K.In s.heap) (I:InstAt s.heap x ox C od) (hb:mroIn K C (.type "BaseException")=some true) (hf:findObj K C od name=some (.bind g a))
  (hq:codeAny (model prog w) A.in1 (.call g ⟨[a,.ref x,.ref C],[]⟩) (fun r s'=>match r with|.ok (.ret v)=>R (.ok (.ret v)) s'|.ok _=>False|.error e=>R (.error e) s') s) :
  codeAny (model prog w) A (.call (.builtin "BaseException.__getattribute__") ⟨[.ref x,.str name tk],[]⟩) R s:=by
 refine codeAny_call_builtin F.attr_ValueError.ga.plain F.entry_bexc_ga ?_
 refine @check_slot (model prog w) _ _ s "BaseException.__getattribute__" "BaseException" "__getattribute__" (.ref x) [.str name tk] [] _ (by decide +kernel) (by decide +kernel) (I.type.andThen (looks_mroIn X hb)) (F.args_bexc_ga (.ref x) (.str name tk)) ?_
 obtain ⟨hh,g',d,t,os⟩:=s
 have L0:=I.type (M:=model prog w)
 have L1:=looks_find (M:=model prog w) X I hf
 refine wpAny_bind (wpAny_pure (wpAny_bind (wpAny_pure (wpAny_bind (L0.at (wpAny_bind (L1.at ?_)))))))
 show wpAny _ _ (holding [a] (call g [a,.ref x,.ref C]) >>= ret) _ _ _
 refine wpAny_bind (wpAny_holding (wpAny_call (codeAny_mono hq fun r s' z=>?_)))
 rcases r with e|(v|_|_|_)<;>first|exact z|exact wpAny_pure z
theorem xget_open {Q:Value->Shared->Prop} (X:K.In s.heap) (I:InstAt s.heap x ox C od) (hga:findIn K (.ref C) "__getattribute__"=some (some (.builtin "BaseException.__getattribute__"))) (hgt:findIn K (.ref C) "__getattr__"=some none)
  (h:codeAny (model prog w) A (.call (.builtin "BaseException.__getattribute__") ⟨[.ref x,.str name s.toks],[]⟩) (fun r s'=>match r with|.ok (.ret v)=>wpAny (model prog w) A (handedOut v) Q E s'|_=>False) { s with toks:=s.toks+1 }) :
  wpAny (model prog w) A (getAttr (.ref x) name expr) Q E s:=by
 obtain ⟨hh,g,d,t,os⟩:=s
 have L0:=I.type (M:=model prog w)
 have L1:=looks_findIn (M:=model prog w) X hga
 have L2:=looks_findIn (M:=model prog w) X hgt
 have hx2:(Value.builtin "BaseException.__getattribute__" == Value.builtin "object.__getattribute__")=false:=by decide +kernel
 unfold getAttr getAttrBy
 refine wpAny_bind (wpAny_mkText (wpAny_holding (wpAny_bind (L0.at (wpAny_bind (L1.at ?_))))))
 dsimp only
 rw [show (onTheHeap (Value.ref C) && Value.builtin "BaseException.__getattribute__" == Value.builtin "object.__getattribute__")=false by rw [hx2];rfl,if_neg (by decide)]
 unfold getAttrByItsOwn hookBefore
 rw [if_pos (show onTheHeap (Value.ref C)=true from rfl)]
 refine wpAny_bind (L2.at (wpAny_bind (wpAny_attempt (wpAny_holding ?_))))
 unfold callGetattribute
 rw [show (expr && onTheHeap (Value.builtin "BaseException.__getattribute__"))=false by cases expr<;>rfl,if_neg (by decide)]
 unfold boundAndCalled
 rw [F.attr_ValueError.ga.bind]
 refine wpAny_bind (wpAny_pure ?_)
 show wpAny _ _ (call (.builtin "BaseException.__getattribute__") [.ref x,.str name t]) _ _ _
 refine wpAny_call (codeAny_mono h fun r s' z=>?_)
 rcases r with e|(v|_|_|_)<;>first|exact z|exact z.elim
theorem xget_value {v:Value} {Q:Value->Shared->Prop} (X:K.In s.heap) (I:InstAt s.heap x ox C od) (hga:findIn K (.ref C) "__getattribute__"=some (some (.builtin "BaseException.__getattribute__"))) (hgt:findIn K (.ref C) "__getattr__"=some none)
  (hb:mroIn K C (.type "BaseException")=some true) (hf:findObj K C od name=some (.value v)) (hh:handedIn v=true) (h:Q v { s with toks:=s.toks+1 }):wpAny (model prog w) A (getAttr (.ref x) name expr) Q E s:=
 xget_open X I hga hgt (xga_run (s:={ s with toks:=s.toks+1 }) X I hb hf (handed_on hh h))
theorem xcls_open {Q:Option Value->Shared->Prop} (X:K.In s.heap) (I:InstAt s.heap x ox C od) (hga:findIn K (.ref C) "__getattribute__"=some (some (.builtin "BaseException.__getattribute__"))) (hgt:findIn K (.ref C) "__getattr__"=some none)
  (h:codeAny (model prog w) A (.call (.builtin "BaseException.__getattribute__") ⟨[.ref x,.str name s.toks],[]⟩) (fun r s'=>match r with|.ok (.ret v)=>wpAny (model prog w) A (handedOut v) (fun v s''=>Q (some v) s'') (fun _ _=>False) s'|_=>False) { s with toks:=s.toks+1 }) :
  wpAny (model prog w) A (getAttr? (.ref x) name) Q E s:=by
 obtain ⟨hh,g,d,t,os⟩:=s
 have L0:=I.type (M:=model prog w)
 have L1:=looks_findIn (M:=model prog w) X hga
 have L2:=looks_findIn (M:=model prog w) X hgt
 have hx2:(Value.builtin "BaseException.__getattribute__" == Value.builtin "object.__getattribute__")=false:=by decide +kernel
 unfold getAttr? getAttrBy? getAttrBy
 refine wpAny_bind (wpAny_mkText (wpAny_bind (wpAny_attempt (wpAny_holding (wpAny_bind (L0.at (wpAny_bind (L1.at ?_))))))))
 dsimp only
 rw [show (onTheHeap (Value.ref C) && Value.builtin "BaseException.__getattribute__" == Value.builtin "object.__getattribute__")=false by rw [hx2];rfl,if_neg (by decide)]
 unfold getAttrByItsOwn hookBefore
 rw [if_pos (show onTheHeap (Value.ref C)=true from rfl)]
 refine wpAny_bind (L2.at (wpAny_bind (wpAny_attempt (wpAny_holding ?_))))
 unfold callGetattribute
 rw [show (false && onTheHeap (Value.builtin "BaseException.__getattribute__"))=false from rfl,if_neg (by decide)]
 unfold boundAndCalled
 rw [F.attr_ValueError.ga.bind]
 refine wpAny_bind (wpAny_pure ?_)
 show wpAny _ _ (call (.builtin "BaseException.__getattribute__") [.ref x,.str name t]) _ _ _
 refine wpAny_call (codeAny_mono h fun r s' z=>?_)
 rcases r with e|(v|_|_|_)<;>first|exact wpAny_mono z (fun v s'' hv=>wpAny_pure hv) (fun _ _ z=>z.elim)|exact z.elim
theorem kitx_exc (hd:(clsIn K C).isSome=true) (hga:findIn K (.ref C) "__getattribute__"=some (some (.builtin "BaseException.__getattribute__"))) (hgt:findIn K (.ref C) "__getattr__"=some none)
  (hb:mroIn K C (.type "BaseException")=some true) (ho:mroIn K C (.type "object")=some true)
  (ha:findIn K (.ref C) "__class__"=some (some (.builtin "object.__class__"))) (hn:specialIn K (.builtin "object.__class__") "__get__"=some (some (.builtin "getset_descriptor.__get__"))) (htk:takesIn K (.builtin "object.__class__")=some true) :
  KitX K (.ref x) (.ref C) (fun h=>∃ ox od,InstAt h x ox C od) where
 ty:=fun _ _ _ ⟨_,_,I⟩=>I.type
 it:=fun _ _ X _=>by
  obtain ⟨cdD,hcD⟩:=Option.isSome_iff_exists.mp hd
  unfold clsIn at hcD
  split at hcD
  ·rename_i c' d' cd' sl' ho
   intro A' Q' E' s' k q
   unfold isType loadHead
   exact wpAny_bind (wpAny_loadPart (k _ _ (X _ _ ho)) (wpAny_pure q))
  ·cases hcD
 ne:=fun h tp dd its n sl X htp=>by
  obtain ⟨cdD,hcD⟩:=Option.isSome_iff_exists.mp hd
  refine B5.mpr fun q=>?_
  have e:C=tp:=Value.ref.inj (beq_iff_eq.mp q)
  subst e
  unfold clsIn at hcD
  split at hcD
  ·rename_i c' d' cd' sl' ho
   have z:=(X _ _ ho).symm.trans htp
   cases z
  ·cases hcD
 ca:=fun {prog w A E Q s} X ⟨ox,od,I⟩ k=>by
  have hf:findObj K C od "__class__"=some (.bind (.builtin "getset_descriptor.__get__") (.builtin "object.__class__")):=by
   obtain ⟨cdD,hcD⟩:=Option.isSome_iff_exists.mp hd
   unfold findObj
   rw [hcD,Option.bind_some,ha,Option.bind_some]
   dsimp only
   rw [hn,Option.bind_some]
   dsimp only
   rw [htk,Option.bind_some]
  refine xcls_open X I hga hgt (xga_bind (s:={ s with toks:=s.toks+1 }) X I hb hf ?_)
  refine class_get (s:={ s with toks:=s.toks+1 }) X I ho ?_
  exact handed_on rfl k
end
end XB
namespace XB
open PySem PySem.W PySem.Calls PyProof.Rows Builtin Builtin.ObjectAttr
section
variable {prog:Program} {w:World} {A:Around} {E:Value->Shared->Prop} {h:Heap} {g:Array GenState} {d:Drawn} {t:Nat} {os:OsState}
variable {nm q:Str} {C N x:Addr} {bs bm:List Value} {sn:List Str} {sub:List Value} {ab:Bool} {col:Option Bool} {dd:Option Addr} {k0 k1 k2 k3 k5:Option Value} {newId:String}
 {mA:Str->Option Value} {name:Str} {v:Value} {o:Obj}
def Tail (bm:List Value):Prop:=bm=bmV\/∃ R,bm=.ref R::bmV
theorem Tail.pass (T:Tail bm) (self:Value):refuseLoop self "__setattr__" bm=pure ():=by
 rcases T with rfl|⟨R,rfl⟩
 ·exact F.store_ValueError.passes self
 ·rw [refuseLoop_ref];exact F.store_ValueError.passes self
theorem Tail.has (T:Tail bm) (C:Addr) (n:String) (b:Bool) (e:bmV.contains (.type n)=b):(Value.ref C::bm).contains (.type n)=b:=by
 rcases T with rfl|⟨R,rfl⟩
 ·rw [List.contains_cons,e];rfl
 ·rw [List.contains_cons,List.contains_cons,e];rfl
theorem xstore_new {tk:Tok} {Q:Fin->Shared->Prop} (T:Tail bm) (hC:h.get? C=some (excClassObj nm q C N bs bm true sn sub ab col dd k0 k1 k2 k3 k5 newId)) (LN:Looks (model prog w) h (typeLookup (.ref C) name) none)
  (hx:h.get? x=some o) (hc:o.cls=.ref C) (hnc:∀ c,o.data≠.cls c) (hdn:o.dict=none)
  (hq:∀ h' tk',h'.get? x=some { cls:=o.cls,dict:=some h.objs.size,data:=o.data,slots:=o.slots }->h'.Ns1 h.objs.size (fun y=>if y=name then some v else none)->(∀ b ob,b≠x->h.get? b=some ob->h'.get? b=some ob)->Q (.done (.ret .none)) ⟨h',g,d,tk',os⟩) :
  wpAny (model prog w) A (Builtin.«object.__setattr__» ⟨[.ref x,.str name tk,v],[]⟩) Q E ⟨h,g,d,t,os⟩:=by
 have hpass:=T.pass (.ref x)
 unfold Builtin.«object.__setattr__»
 repeat (first|rw [refuse_eq]|(rw [refuseLoop_ref,hpass])|(with_reducible refine wpAny_loadPart_at hx ?_;rw [hc])|with_reducible refine wpAny_mroOf_exc hC ?_|with_reducible refine LN.at ?_|wp_step)
 rw [hdn,if_neg (by simp [typeHasDict])]
 split
 ·rename_i hcd
  cases hcd
 split
 ·rename_i c hcd
  exact absurd hcd (hnc c)
 ·have hx₁:(h.push { cls:=.type "dict",data:=.dict #[] }).get? x=some o:=BM _ hx
  have hxs:x≠h.objs.size:=Ce (BP hx)
  refine wpAny_bind (wpAny_alloc' ?_)
  refine wpAny_bind (wpAny_update' hx₁ ?_)
  refine wpAny_pure ?_
  have hgd:((h.push { cls:=.type "dict",data:=.dict #[] }).update x fun o=>{ cls:=o.cls,dict:=some h.objs.size,data:=o.data,slots:=o.slots }).get? h.objs.size
    = some { cls:=.type "dict",data:=.dict #[] }:=
   (Heap.get?_update_ne _ _ _ _ hxs.symm).trans (Heap.get?_push_at rfl rfl)
  have hnd:((h.push { cls:=.type "dict",data:=.dict #[] }).update x fun o=>{ cls:=o.cls,dict:=some h.objs.size,data:=o.data,slots:=o.slots }).Ns h.objs.size (fun _=>none):=
   ⟨_,#[],_,hgd,rfl,fun e he=>absurd he (by simp),fun _=>rfl⟩
  show wpAny _ _ (storeInDict h.objs.size (.str name tk) name v) _ _ _
  unfold storeInDict newKeyGuard
  refine wpAny_bind (wpAny_pure (wpAny_bind (wpAny_nsSet1 (Heap.Ns1.of_empty hnd) fun h' hn' hs=>?_)))
  obtain ⟨oD,esD,epD,hoD,hdD,hcD⟩:=hn'.count (Within.cons name v Within.nil)
  refine wpAny_bind (wpAny_lookBehind hoD (by rw [hdD];exact pastItsLine_dict (Cm hcD (by rw [BS,Cn,sizeLine_eq];lia))) ?_)
  wp_walk
  refine hq h' _ ?_ hn' (fun b ob hbx hb=>?_)
  ·refine (hs.2 x hxs).trans (Heap.get?_update_self _ hx₁ ?_)
   have hfr:=(Heap.get?_some_iff.mp hx).2
   obtain ⟨oc,od,odt,osl⟩:=o
   cases odt<;>first|rfl|exact hfr
  ·exact (hs.2 b (Ce (BP hb))).trans ((Heap.get?_update_ne _ _ _ _ hbx).trans (BM _ hb))
theorem xstore_old {tk:Tok} {Q:Fin->Shared->Prop} {dx:Addr} {ns:List Str} (T:Tail bm) (hC:h.get? C=some (excClassObj nm q C N bs bm true sn sub ab col dd k0 k1 k2 k3 k5 newId)) (LN:Looks (model prog w) h (typeLookup (.ref C) name) none)
  (hx:h.get? x=some o) (hc:o.cls=.ref C) (hdx:o.dict=some dx) (hns:h.Ns1 dx mA) (hw:Within mA ns) (hsz:ns.length < sizeLine)
  (hq:∀ h' tk',h'.Ns1 dx (fun y=>if y=name then some v else mA y)->Heap.SameBut dx h h'->Q (.done (.ret .none)) ⟨h',g,d,tk',os⟩) :
  wpAny (model prog w) A (Builtin.«object.__setattr__» ⟨[.ref x,.str name tk,v],[]⟩) Q E ⟨h,g,d,t,os⟩:=by
 have hpass:=T.pass (.ref x)
 unfold Builtin.«object.__setattr__»
 repeat (first|rw [refuse_eq]|(rw [refuseLoop_ref,hpass])|(with_reducible refine wpAny_loadPart_at hx ?_;rw [hc])|with_reducible refine wpAny_mroOf_exc hC ?_|with_reducible refine LN.at ?_|wp_step)
 rw [hdx]
 refine wpAny_pure ?_
 show wpAny _ _ (storeInDict dx (.str name tk) name v) _ _ _
 unfold storeInDict newKeyGuard
 refine wpAny_bind (wpAny_pure (wpAny_bind (wpAny_nsSet1 hns fun h' hn' hs=>?_)))
 obtain ⟨oD,esD,epD,hoD,hdD,hcD⟩:=hn'.count (Within.cons name v hw)
 refine wpAny_bind (wpAny_lookBehind hoD (by rw [hdD];exact pastItsLine_dict (Cm hcD (by rw [BS];lia))) ?_)
 wp_walk
 exact hq h' _ hn' hs
theorem xset_open {Q:Unit->Shared->Prop} {K:Frag} {od:Option Obj} (X:K.In h) (I:InstAt h x o C od) (hs:findIn K (.ref C) "__setattr__"=some (some (.builtin "object.__setattr__"))) (ho:mroIn K C (.type "object")=some true)
  (hq:∀ A',wpAny (model prog w) A' (Builtin.«object.__setattr__» ⟨[.ref x,.str name t,v],[]⟩) (fun f s'=>f=.done (.ret .none)/\Q () s') (fun _ _=>False) ⟨h,g,d,t+1,os⟩) :
  wpAny (model prog w) A (setAttr (.ref x) name v) Q E ⟨h,g,d,t,os⟩:=by
 refine set_plain X I hs ?_
 refine codeAny_call_builtin F.store_ValueError.slot.plain F.store_ValueError.entry ?_
 refine @check_slot (model prog w) _ _ ⟨h,g,d,t+1,os⟩ "object.__setattr__" "object" "__setattr__" (.ref x) [.str name t,v] [] _ F.store_ValueError.kind F.store_ValueError.split (I.type.andThen (looks_mroIn X ho)) (F.store_ValueError.args (.ref x) (.str name t) v) ?_
 refine wpAny_mono (hq _) (fun f s' z=>?_) fun _ _ z=>z.elim
 obtain ⟨rfl,z⟩:=z
 exact z
theorem xcheck_new {M:Model} {rest:List Value} {Q:Unit->Shared->Prop} (T:Tail bm) (hC:h.get? C=some (excClassObj nm q C N bs bm true sn sub ab col dd k0 k1 k2 k3 k5 "ValueError.__new__"))
  (hq:Q () ⟨h,g,d,t,os⟩):wpAny M A (checkBuiltinCall "ValueError.__new__" ⟨.ref C::rest,[]⟩) Q E ⟨h,g,d,t,os⟩:=by
 have F:=F.excBase_ValueError
 have hcont:=T.has C "ValueError" true (by decide +kernel)
 have hstar:=F.noStar
 simp only [checkBuiltinCall,F.newKind,F.newSplit,F.newRow]
 repeat (first|refine wpAny_loadPart_at hC ?_|(refine wpAny_isSubtype_exc hC ?_;rw [hcont])|refine wpAny_staticBase_exc hC ?_|refine wpAny_madeBy_exc hC ?_|simp only [bne_self_eq_false,Bool.false_eq_true,if_false]|wp_step)
 exact hq
theorem xnew {R:Result->Shared->Prop} {rest:List Value} (T:Tail bm) (hC:h.get? C=some (excClassObj nm q C N bs bm true sn sub ab col dd k0 k1 k2 k3 k5 "ValueError.__new__"))
  (hq:R (.ok (.ret (.ref (h.objs.size+1)))) ⟨(h.push { cls:=.type "tuple",data:=.seq rest.toArray }).push
   { cls:=.ref C,data:=.fields #[.ref h.objs.size,.none,.none,.none,.bool false,.none] },g,d,t,os⟩) (hrest:rest.length<=sizeLine) :
  codeAny (model prog w) A (.builtin "ValueError.__new__" ⟨.ref C::rest,[]⟩) R ⟨h,g,d,t,os⟩:=by
 have F:=F.excBase_ValueError
 have hends:=F.ends
 have hcB:=T.has C "ValueError" true (by decide +kernel)
 have hcA:=T.has C "AttributeError" false (by decide +kernel)
 have hcN:=T.has C "NameError" false (by decide +kernel)
 refine codeAny_builtinAt F.entry ?_
 unfold Builtin.«BaseException.__new__»
 refine PySem.wpAt_bind ?_
 show PySem.wpAt _ _ _ (stack >>= _) _ _ _
 refine PySem.wpAt_bind (PySem.wpAt_stack fun p below=>PySem.wpAt_of_wpAny ?_)
 wp_walk
 refine PySem.wpAt_of_wpAny ?_
 rw [F.owner]
 repeat (first|with_reducible refine wpAny_madeHere_exc F.canon hC ?_|with_reducible refine wpAny_loadPart_at hC ?_|(with_reducible refine wpAny_isSubtype_exc hC ?_;first|rw [hcB]|rw [hcA]|rw [hcN])|wp_step)
 show R _ _
 rw [Dc]
 exact hq
abbrev tupO (rest:List Value):Obj:={ cls:=.type "tuple",data:=.seq rest.toArray }
abbrev excO (C:Addr) (a:Addr):Obj:={ cls:=.ref C,data:=.fields #[.ref a,.none,.none,.none,.bool false,.none] }
theorem xmake_type {rest:List Value} {fI:Addr} {oI:Obj} {Q:Fin->Shared->Prop} (T:Tail bm) (hC:h.get? C=some (excClassObj nm q C N bs bm true sn sub ab col dd k0 k1 k2 k3 k5 "ValueError.__new__"))
  (LI:Looks (model prog w) h (typeLookup (.ref C) "__init__") (some (.ref fI))) (hfI:h.get? fI=some oI) (hfc:oI.cls=.type "function")
  (hq:wpAny (model prog w) A (call (.ref fI) (.ref (h.objs.size+1)::rest)) (fun r s'=>r=.none/\Q (.done (.ret (.ref (h.objs.size+1)))) s') E ⟨(h.push (tupO rest)).push (excO C h.objs.size),g,d,t,os⟩) (hrest:rest.length<=sizeLine) :
  wpAny (model prog w) A (Builtin.«type.__call__» ⟨.ref C::rest,[]⟩) Q E ⟨h,g,d,t,os⟩:=by
 have F:=F.excBase_ValueError
 repeat (first|with_reducible refine wpAny_loadPart_at hC ?_|with_reducible refine wpAny_madeBy_exc hC ?_|wp_step)
 refine codeAny_call_builtin_code (Code.quiet_builtin _ F.quiet) (xcheck_new T hC ?_)
 refine xnew T hC ?_ hrest
 show wpAny _ _ _ _ _ _
 have kp:∀ b o,h.get? b=some o->((h.push (tupO rest)).push (excO C h.objs.size)).get? b=some o:=fun b o hb=>BM _ (BM _ hb)
 have hC₁:=kp _ _ hC
 have hfI₁:=kp _ _ hfI
 have hget:((h.push (tupO rest)).push (excO C h.objs.size)).get? (h.objs.size+1)=some (excO C h.objs.size):=by heap_get
 have hcC:(Value.ref C::bm).contains (.ref C)=true:=by simp
 unfold isInstance
 repeat (first|with_reducible refine wpAny_loadPart_at hget ?_|(with_reducible refine wpAny_isSubtype_exc hC₁ ?_;rw [hcC])|wp_step)
 show wpAny _ _ (typeLookup (.ref C) _) _ _ _
 refine LI _ _ _ _ kp ?_
 refine wpAny_holding (wpAny_bind ?_)
 unfold bindSpecial
 refine wpAny_bind (wpAny_typeOf (T:="function") ⟨_,hfI₁,hfc⟩ ?_)
 rw [if_pos (by decide)]
 refine wpAny_pure (wpAny_bind (wpAny_mono hq (fun r s' hr=>?_) fun _ _ x=>x))
 obtain ⟨rfl,hQ⟩:=hr
 wp_walk
 exact hQ
theorem xmake {rest:List Value} {fI:Addr} {oI:Obj} {Q:Value->Shared->Prop} (T:Tail bm) (hC:h.get? C=some (excClassObj nm q C N bs bm true sn sub ab col dd k0 k1 k2 k3 k5 "ValueError.__new__"))
  (LI:Looks (model prog w) h (typeLookup (.ref C) "__init__") (some (.ref fI))) (hfI:h.get? fI=some oI) (hfc:oI.cls=.type "function")
  (hq:wpAny (model prog w) (A.under (.builtin "type.__call__" ⟨.ref C::rest,[]⟩)) (call (.ref fI) (.ref (h.objs.size+1)::rest)) (fun r s'=>r=.none/\Q (.ref (h.objs.size+1)) s') E ⟨(h.push (tupO rest)).push (excO C h.objs.size),g,d,t,os⟩)
  (hrest:rest.length<=sizeLine) :
  wpAny (model prog w) A (call (.ref C) rest) Q E ⟨h,g,d,t,os⟩:=by
 have f1:=tc_lookup
 have f2:=tc_bind (.ref C)
 have hT:(⟨h,g,d,t,os⟩:Shared).TypeIs (.ref C) "type":=⟨_,hC,rfl⟩
 refine wpAny_call (codeAny_of_tree ?_)
 show wpAny _ _ (callAny (.ref C) _) _ _ _
 repeat (any_goals (first|assumption|with_reducible refine wpAny_loadPart_at hC ?_|wp_step))
 refine ⟨rfl,?_⟩
 refine codeAny_call_builtin_at (Code.quiet_builtin _ (by decide +kernel)) entry_typeCall (wpAny_check_type_call_sub hC (xmake_type T hC LI hfI hfc ?_ hrest))
 exact hq
end
end XB
namespace XB
open PySem PySem.W PySem.Calls PyProof.Rows Builtin Builtin.ObjectAttr
section
variable {prog:Program} {w:World} {A:Around} {E:Value->Shared->Prop} {h:Heap} {g:Array GenState} {d:Drawn} {t:Nat} {os:OsState}
variable {nm q:Str} {C N x:Addr} {bs bm:List Value} {sn:List Str} {sub:List Value} {ab:Bool} {col:Option Bool} {dd:Option Addr} {k0 k1 k2 k3 k5:Option Value} {newId:String}
 {mA:Str->Option Value} {name:Str} {v:Value} {o:Obj}
theorem xinit {R:Result->Shared->Prop} {rest:List Value} {vs:Array Value} {a0:Addr} (T:Tail bm) (hC:h.get? C=some (excClassObj nm q C N bs bm true sn sub ab col dd k0 k1 k2 k3 k5 newId)) (hx:h.get? x=some o) (hc:o.cls=.ref C)
  (hd:o.data=.fields vs) (h0:vs[0]?=some (.ref a0)) (hrest:rest.length<=sizeLine)
  (hq:∀ h' vs',(∀ b ob,b≠x->h.get? b=some ob->h'.get? b=some ob)->h'.get? x=some { cls:=o.cls,dict:=o.dict,data:=.fields vs',slots:=o.slots }->(∃ a,vs'[0]?=some (.ref a)/\vs'[1]?=vs[1]?)->R (.ok (.ret .none)) ⟨h',g,d,t,os⟩) :
  codeAny (model prog w) A (.call (.builtin "ValueError.__init__") ⟨.ref x::rest,[]⟩) R ⟨h,g,d,t,os⟩:=by
 have F:=F.excBase_ValueError
 have hcB:=T.has C "ValueError" true (by decide +kernel)
 have hshort:=F.noStar
 refine codeAny_call_builtin F.init.plain F.initEntry ?_
 simp only [checkBuiltinCall,F.initKind,F.initSplit,F.initRow]
 repeat (first|(with_reducible refine wpAny_loadPart_at hx ?_;rw [hc])|(with_reducible refine wpAny_isSubtype_exc hC ?_;rw [hcB])|wp_step)
 refine wpAny_onRaise ?_
 rw [show ∀ (a b:String) (n:Nat),Bind.check ⟨.positional,"*","ValueError",.self,[⟨"args",.varPos,false⟩]⟩ a b n (List.map (fun x=>x.fst) ({ pos:=Value.ref x::rest }:Args).kw)=pure () from
  fun a b n=>check_star_args _ _ _ _ _ _]
 refine wpAny_pure ?_
 wp_walk
 rw [hd]
 repeat (any_goals (first|assumption|rw [h0]|wp_step))
 rw [hd]
 have hsz:0 < vs.size:=by
  have:=(Array.getElem?_eq_some_iff.mp h0).1
  exact this
 dsimp only
 rw [if_pos hsz]
 have hx₁:(h.push (tupO rest)).get? x=some o:=BM _ hx
 refine wpAny_update' hx₁ ?_
 repeat (any_goals (first|assumption|wp_step))
 have hfr:=(Heap.get?_some_iff.mp hx).2
 refine hq _ (vs.setIfInBounds 0 (.ref h.objs.size)) (fun b ob hb e=>?_) ?_ ⟨h.objs.size,?_,?_⟩
 ·rw [Heap.get?_update_ne _ _ _ _ hb]
  exact BM _ e
 ·rw [Heap.get?_update_self _ hx₁ (by obtain ⟨oc,od,odt,osl⟩:=o;cases hd;rfl)]
  obtain ⟨oc,od,odt,osl⟩:=o
  cases hd
  rfl
 ·simp [hsz]
 ·exact Array.getElem?_setIfInBounds_ne (by decide)
variable {K:Frag}
theorem val_cls:findCls K (.type "ValueError") (.type "type") "__init__"=some (.val (.builtin "ValueError.__init__")):=by rfl
variable {M:Model}
theorem val_opaque:Looks M h (opaqueClassAbove (.type "ValueError")) none:=Looks.of_pure (by kernel_rfl)
theorem val_type:Looks M h (typeOf (.type "ValueError")) (.type "type"):=Looks.of_pure (by kernel_rfl)
variable {Q:Value×List Value->Shared->Prop} {s:Shared}
theorem val_method {pl:Sem Bool} (X:K.In s.heap) (hq:Q (.builtin "ValueError.__init__",[]) { s with toks:=s.toks+1 }) :
  wpAny (model prog w) A (getMethod (.type "ValueError") "__init__" pl) Q E s:=by
 unfold getMethod specialOf
 refine wpAny_bind (wpAny_bind (val_type.here ?_))
 have L:Looks (model prog w) s.heap (typeLookup (.type "type") "__getattribute__") (some (.builtin "type.__getattribute__")):=Looks.of_pure KF.slot_tga.lookup
 refine L.here ?_
 dsimp only
 rw [if_pos canon_tga]
 refine wpAny_bind (cls_open (K:=K) (mc:=.type "type") (hook:=none) X val_opaque val_type (by rfl) (looks_hook X (by rfl)) (by rfl) val_cls ?_)
 exact wpAny_pure (handed_on rfl (wpAny_pure hq))
theorem own_method {pl:Sem Bool} {f C:Addr} {name:Str} {Q:Value×List Value->Shared->Prop} (X:K.In s.heap) (hr:readsIn K C (.type "type")=true) (hf:findCls K (.ref C) (.type "type") name=some (.val (.ref f)))
  (hq:Q (.ref f,[]) { s with toks:=s.toks+1 }):wpAny (model prog w) A (getMethod (.ref C) name pl) Q E s:=by
 have hs:specialIn K (.ref C) "__getattribute__"=some (some (.builtin "type.__getattribute__")):=by
  have hr':=hr
  simp only [readsIn,CO,beq_iff_eq] at hr'
  obtain ⟨⟨⟨⟨a,b⟩,c'⟩,d⟩,f⟩:=hr'
  unfold specialIn
  rw [b,Option.bind_some]
  exact c'
 exact method_cls X hs (cls_value X hr hf rfl hq)
end
end XB
namespace L2
open PySem PySem.Spec PyProof.Rows
def XO (e C:Addr) (d:Option Addr) (r:Bool) (h:Heap):Prop:=∃ (vs:Array Value) (a0:Addr),h.get? e=some { cls:=.ref C,dict:=d,data:=.fields vs }/\vs[0]?=some (.ref a0)/\(r=false->vs[1]?=some .none)
def DX (dx:Addr) (fs:List (Str×V)) (h:Heap):Prop:=∃ mA,h.Ns1 dx mA/\(∀ f,RelO (fs.lookup f) (mA f))/\PySem.Within mA (fs.map (·.1))
def XAt (H:Hp) (e C:Addr) (d:Option Addr) (r:Bool) (fs:List (Str×V)):Prop:=H e=some (.ext (XO e C d r))/\fs.length<=1000/\match d with|none=>fs=[]|some dx=>dx≠e/\H dx=some (.ext (DX dx fs))
structure XC (K:ZF) (C:Addr) (nm:Str) (bm:List Value):Prop where
 tl:XB.Tail bm
 obj:∃ q N bs sn sub ab col dd k0 k1 k2 k3 k5,K.lookup C=some (excClassObj nm q C N bs bm true sn sub ab col dd k0 k1 k2 k3 k5 "ValueError.__new__")
 ga:PySem.W.findIn K (.ref C) "__getattribute__"=some (some (.builtin "BaseException.__getattribute__"))
 gt:PySem.W.findIn K (.ref C) "__getattr__"=some none
 sa:PySem.W.findIn K (.ref C) "__setattr__"=some (some (.builtin "object.__setattr__"))
 cl:PySem.W.findIn K (.ref C) "__class__"=some (some (.builtin "object.__class__"))
section
variable {K:ZF} {C:Addr} {nm:Str} {bm:List Value}
theorem XC.clsIn (c:XC K C nm bm):∃ cd,PySem.W.clsIn K C=some cd/\cd.mro=.ref C::bm/\cd.hasDict=true:=by
 obtain ⟨q,N,bs,sn,sub,ab,col,dd,k0,k1,k2,k3,k5,l⟩:=c.obj
 refine ⟨_,by unfold PySem.W.clsIn;rw [l],rfl,rfl⟩
theorem XC.mro (c:XC K C nm bm) (n:String) (b:Bool) (e:XB.bmV.contains (.type n)=b):PySem.W.mroIn K C (.type n)=some b:=by
 obtain ⟨cd,h,m,_⟩:=c.clsIn
 unfold PySem.W.mroIn
 rw [h,Option.bind_some,m]
 show (if false=true then _ else _)=_
 rw [if_neg (by decide),c.tl.has C n b e]
theorem XC.ne {C':Addr} {nm':Str} {bm':List Value} (c:XC K C nm bm) (c':XC K C' nm' bm') (h:nm≠nm'):C≠C':=by
 rintro rfl
 obtain ⟨q,N,bs,sn,sub,ab,col,dd,k0,k1,k2,k3,k5,l⟩:=c.obj
 obtain ⟨q',N',bs',sn',sub',ab',col',dd',k0',k1',k2',k3',k5',l'⟩:=c'.obj
 rw [l] at l'
 injection l' with l1
 injection l1 with _ _ l2 _
 injection l2 with l3
 injection l3 with l4
 exact h l4
theorem XC.kit (c:XC K C nm bm) {x:Addr}:PySem.W.KitX K (.ref x) (.ref C) (fun h=>∃ ox od,PySem.W.InstAt h x ox C od):=by
 obtain ⟨cd,h,_⟩:=c.clsIn
 exact XB.kitx_exc (by rw [h];rfl) c.ga c.gt (c.mro "BaseException" true (by decide +kernel)) (c.mro "object" true (by decide +kernel)) c.cl (by rfl) (by rfl)
theorem XC.one {C':Addr} {nm':Str} {bm':List Value} (c:XC K C nm bm) (c':XC K C' nm' bm'):PySem.W.kitOne K (.ref C) (.ref C')=some ((Value.ref C::bm).contains (.ref C')):=by
 obtain ⟨cd,h,m,_⟩:=c.clsIn
 obtain ⟨cd',h',_⟩:=c'.clsIn
 obtain ⟨q,N,bs,sn,sub,ab,col,dd,k0,k1,k2,k3,k5,l⟩:=c'.obj
 unfold PySem.W.kitOne
 by_cases e:(Value.ref C == Value.ref C')=true
 ·rw [if_pos e,List.contains_cons]
  have e':(Value.ref C' == Value.ref C)=true:=by rw [beq_iff_eq] at e ⊢;exact e.symm
  rw [e']
  rfl
 ·rw [if_neg e]
  unfold PySem.W.kitCls
  dsimp only
  have ht:PySem.W.typeIn K (.ref C')=some (.type "type"):=by
   show Option.map (fun x=>x.cls) (List.lookup C' K)=_
   rw [l]
   rfl
  rw [if_pos (by rw [h',ht];rfl)]
  unfold PySem.W.subIn PySem.W.mroIn
  dsimp only
  rw [h,Option.bind_some,m]
  show (if false=true then _ else _)=_
  rw [if_neg (by decide)]
end
section
variable {X:Cx} {pins:List (Addr×Obj)} {σ:St} {H:Hp} {s:Shared} {e C dx:Addr} {d:Option Addr} {rr:Bool} {nm:Str} {bm:List Value} {fs:List (Str×V)} {f:Str} {v:V} {A:Around} {E:Value->Shared->Prop}
theorem XAt.obj (x:XAt H e C d rr fs) (I:Inv X pins σ H s):∃ (vs:Array Value) (a0:Addr),s.heap.get? e=some { cls:=.ref C,dict:=d,data:=.fields vs }/\vs[0]?=some (.ref a0)/\(rr=false->vs[1]?=some .none):=by
 obtain ⟨p,_,_⟩:=(show ObjOk X.prog X.w H s.heap e (.ext (XO e C d rr)) from I.hok e _ x.1)
 exact p
theorem XAt.dict (x:XAt H e C (some dx) rr fs) (I:Inv X pins σ H s):∃ mA,s.heap.Ns1 dx mA/\(∀ f,RelO (fs.lookup f) (mA f))/\PySem.Within mA (fs.map (·.1)):=by
 obtain ⟨_,_,_,h⟩:=x
 obtain ⟨p,_,_⟩:=(show ObjOk X.prog X.w H s.heap dx (.ext (DX dx fs)) from I.hok dx _ h)
 exact p
theorem XAt.inst (x:XAt H e C d rr fs) (I:Inv X pins σ H s):∃ ox od,PySem.W.InstAt s.heap e ox C od:=by
 obtain ⟨vs,a0,h,_⟩:=x.obj I
 cases d with
 | none=>exact ⟨_,none,h,rfl,rfl,True.intro⟩
 | some dx=>
  obtain ⟨mA,n,_,_⟩:=x.dict I
  obtain ⟨od,ho,_⟩:=eP n
  exact ⟨_,some od,h,rfl,rfl,ho⟩
theorem uP:cV X (.builtin "isinstance") (fun xs H Q=>∃ e C d r fs nm bm C' nm' bm',xs=[.ref e,.ref C']/\XAt H e C d r fs/\XC X.K C nm bm/\XC X.K C' nm' bm'/\Q (.bl ((Value.ref C::bm).contains (.ref C'))) H):=by
 intro pins s σ H xs us Q I r h
 obtain ⟨e,C,d,r0,fs,nm,bm,C',nm',bm',rfl,x,c,c',q⟩:=h
 obtain ⟨u,u',rfl,rx,ry⟩:=p6 r
 cases rx
 cases ry
 exact CF c.kit I.kIn (x.inst I) (c.one c') (fun z=>nomatch z) fun tk=>⟨.bl _,H,I.tok _,rfl,q⟩
theorem pA {b:Bool} {Q:Value->Shared->Prop} (I:Inv X pins σ H s) (x:XAt H e C (some dx) rr fs) (c:XC X.K C nm bm) (n:NoAttr X.K C f) (l:fs.lookup f=some v)
  (h:∀ u s',Inv X pins σ H s'->RelV v u->Q u s'):wpAny (model X.prog X.w) A (getAttr (.ref e) f b) Q E s:=by
 obtain ⟨mA,ns,r,_⟩:=x.dict I
 obtain ⟨vs,a0,ho,_⟩:=x.obj I
 obtain ⟨u,hu,ru⟩:=RelO.some_of (v:=v) (o:=mA f) (by rw [<-l];exact r f)
 obtain ⟨od,hd,lk⟩:=eP ns
 obtain ⟨cd,hc,m,hh⟩:=c.clsIn
 have hf:PySem.W.findObj X.K C (some od) f=some (.value u):=by
  unfold PySem.W.findObj
  rw [hc,Option.bind_some,show PySem.W.findIn X.K (.ref C) f=some none from n,Option.bind_some]
  show ((PySem.W.ownOf cd (some od) f).bind _)=_
  have ho:PySem.W.ownOf cd (some od) f=some (some u):=by
   unfold PySem.W.ownOf
   rw [hh,if_pos rfl]
   show PySem.W.lookIn f od=_
   rw [lk f,hu]
  rw [ho]
  rfl
 exact XB.xget_value I.kIn (ox:={ cls:=.ref C,dict:=some dx,data:=.fields vs }) (od:=some od) ⟨ho,rfl,rfl,hd⟩ c.ga c.gt (c.mro "BaseException" true (by decide +kernel)) hf (jh ru) (h u _ (I.tok _) ru)
variable {φ:Heap->Prop}
theorem Inv.two {h':Heap} {t':Nat} {D:Addr} {o1 o2:HO} (I:Inv X pins σ H s) (he:H e=some (.ext φ)) (hD:s.heap.objs.size<=D) (k:∀ b u,b≠e->s.heap.get? b=some u->h'.get? b=some u) (heo:∃ u,h'.get? e=some u)
  (n1:ObjOk X.prog X.w (aC (aC H e o1) D o2) h' e o1) (n2:ObjOk X.prog X.w (aC (aC H e o1) D o2) h' D o2):Inv X pins σ (aC (aC H e o1) D o2) { s with heap:=h',toks:=t' }:=by
 have hn:=I.hok.fresh hD
 have neD:e≠D:=aU he hn
 have old:∀ b o,H b=some o->b≠e->aC (aC H e o1) D o2 b=some o:=fun b o hb ne=>by rw [aw (aU hb hn),aw ne];exact hb
 have nt:∀ b o,H b=some o->(∀ ψ,o≠.ext ψ)->b≠e:=fun b o hb ne z=>by
  rw [z,he] at hb
  exact ne _ (Cf hb).symm
 refine I.un ⟨?_,?_,?_,?_,?_,?_,?_⟩ ?_
 ·intro b o q hb _ _
  exact k b o (fun z=>by rw [z,he] at hb;cases hb) q
 ·intro b o q hb _ _
  exact ⟨o.slots,k b o (fun z=>by rw [z,he] at hb;cases hb) q⟩
 ·intro b o q hb _
  have h1:b≠e:=fun z=>by rw [z,he] at hb;cases hb
  have h2:b≠D:=fun z=>by
   rw [z] at q
   exact absurd (BP q) (Nat.not_lt_of_le hD)
  rw [aw h2,aw h1]
  exact hb
 ·intro b o q _
  by_cases z:b=e
  ·rw [z];exact heo
  ·exact ⟨o,k b o z q⟩
 ·intro b xs hb
  exact old b _ hb (nt b _ hb (fun ψ z=>nomatch z))
 ·intro b o u hb
  exact old b _ hb (nt b _ hb (fun ψ z=>nomatch z))
 ·intro b ps hb
  refine ⟨#[],?_⟩
  rw [Array.append_empty]
  exact old b _ hb (nt b _ hb (fun ψ z=>nomatch z))
 ·intro a o ha
  by_cases hd:a=D
  ·subst hd
   rw [ad] at ha
   cases ha
   exact n2
  ·rw [aw hd] at ha
   by_cases hx:a=e
   ·subst hx
    rw [ad] at ha
    cases ha
    exact n1
   ·rw [aw hx] at ha
    refine (I.hok a o ha).stay (fun b u hb q=>k b u ?_ q) (fun b hb=>old b _ hb (nt b _ hb (fun ψ z=>nomatch z))) (fun b xs hb=>old b _ hb (nt b _ hb (fun ψ z=>nomatch z)))
    rcases hb with rfl|hb
    ·exact hx
    ·exact nt b _ hb (fun ψ z=>nomatch z)
structure zX (H H':Hp) (e C:Addr) (d:Option Addr) (r:Bool) (d':Addr) (fs:List (Str×V)):Prop where
 at_:XAt H' e C (some d') r fs
 keep:∀ b o,H b=some o->b≠e->some b≠d->H' b=some o
 new:d=none->H d'=none
 old:∀ dx,d=some dx->d'=dx
theorem fN {P:Program} {w:World} {h:Heap} {a:Addr} (p:φ h) (o:∃ o,h.get? a=some o) (st:∀ h1 h2:Heap,φ h1->(∀ o,h1.get? a=some o->h2.get? a=some o)->φ h2):ObjOk P w H h a (.ext φ):=⟨p,o,st⟩
theorem XO.stay {r:Bool}:∀ h1 h2:Heap,XO e C d r h1->(∀ o,h1.get? e=some o->h2.get? e=some o)->XO e C d r h2:=fun h1 h2 ⟨vs,a0,h,z⟩ k=>⟨vs,a0,k _ h,z⟩
theorem DX.stay {fs:List (Str×V)}:∀ h1 h2:Heap,DX dx fs h1->(∀ o,h1.get? dx=some o->h2.get? dx=some o)->DX dx fs h2:=fun h1 h2 ⟨mA,n,r⟩ k=>⟨mA,n.at k,r⟩
variable {y:V} {u:Value} {mA:Str->Option Value}
theorem om (r:∀ f,RelO (fs.lookup f) (mA f)) (ry:RelV y u) (g:Str):RelO ((aM f y fs).lookup g) (if g=f then some u else mA g):=by
 rw [dX]
 by_cases q:g=f
 ·rw [if_pos q,if_pos q];exact ry
 ·rw [if_neg q,if_neg q];exact r g
theorem iI (wi:PySem.Within mA (fs.map (·.1))):PySem.Within (fun g=>if g=f then some u else mA g) ((aM f y fs).map (·.1)):=fun g hg=>by
 by_cases q:g=f
 ·rw [q];exact (dq f y fs).1
 ·refine (dq f y fs).2 g (wi g fun z=>hg ?_)
  show (if g=f then some u else mA g)=none
  rw [if_neg q];exact z
theorem pB {Q:Unit->Shared->Prop} (I:Inv X pins σ H s) (x:XAt H e C d rr fs) (c:XC X.K C nm bm) (n:NoAttr X.K C f) (hl:fs.length < 1000) (ry:RelV y u)
  (h:∀ s' H' d',Inv X pins σ H' s'->zX H H' e C d rr d' (aM f y fs)->Q () s'):wpAny (model X.prog X.w) A (setAttr (.ref e) f u) Q E s:=by
 obtain ⟨q0,N,bs,sn,sub,ab,col,dd,k0,k1,k2,k3,k5,lk⟩:=c.obj
 have hC:=I.kIn _ _ lk
 have LN:=PySem.W.looks_findIn (M:=model X.prog X.w) I.kIn (show PySem.W.findIn X.K (.ref C) f=some none from n)
 obtain ⟨vs,a0,ho,hv0⟩:=x.obj I
 have hl2:(aM f y fs).length<=1000:=by have:=dY f y fs;lia
 obtain ⟨hh,g,dr,t,os⟩:=s
 cases d with
 | none=>
  have hfs:fs=[]:=x.2.2
  subst hfs
  refine XB.xset_open (o:={ cls:=.ref C,dict:=none,data:=.fields vs }) (od:=none) I.kIn ⟨ho,rfl,rfl,True.intro⟩ c.sa (c.mro "object" true (by decide +kernel)) fun A'=>?_
  refine XB.xstore_new c.tl hC LN ho rfl (fun c z=>nomatch z) rfl fun h' tk' hx' hn' hk=>⟨rfl,?_⟩
  have neD:e≠hh.objs.size:=Ce (BP ho)
  have nD:H hh.objs.size=none:=I.hok.fresh (BT _)
  refine h _ _ hh.objs.size (Inv.two (o1:=.ext (XO e C (some hh.objs.size) rr)) (o2:=.ext (DX hh.objs.size (aM f y []))) I x.1 (BT _) hk ⟨_,hx'⟩ ?_ ?_) ⟨⟨?_,hl2,neD.symm,ad⟩,?_,fun _=>nD,(fun dx z=>nomatch z)⟩
  ·exact fN ⟨vs,a0,hx',hv0⟩ ⟨_,hx'⟩ XO.stay
  ·refine fN ⟨_,hn',om (mA:=fun _=>none) (fs:=[]) (fun _=>True.intro) ry,iI (mA:=fun _=>none) (fs:=[]) (fun g hg=>absurd rfl hg)⟩ ?_ DX.stay
   obtain ⟨o',_,_,e1,_⟩:=hn'
   exact ⟨o',e1⟩
  ·rw [aw neD,ad]
  ·intro b o hb ne _
   rw [aw (aU hb nD),aw ne]
   exact hb
 | some dx=>
  obtain ⟨mA,ns,r,wi⟩:=x.dict I
  obtain ⟨od,hd,_⟩:=eP ns
  obtain ⟨x1,x2,x3,x4⟩:=x
  refine XB.xset_open (o:={ cls:=.ref C,dict:=some dx,data:=.fields vs }) (od:=some od) I.kIn ⟨ho,rfl,rfl,hd⟩ c.sa (c.mro "object" true (by decide +kernel)) fun A'=>?_
  refine XB.xstore_old c.tl hC LN ho rfl rfl ns wi (by rw [BJ,sizeLine_eq];lia) fun h' tk' hn' sb=>⟨rfl,?_⟩
  have hd':∃ o,h'.get? dx=some o:=let ⟨o,_,_,e',_⟩:=hn';⟨o,e'⟩
  refine h _ _ dx (I.write (o:=.ext (DX dx (aM f y fs))) (x:=dx) (e:=dx) (by rw [x4];exact True.intro) (.inl rfl) (fun b q hb z=>(sb.2 b hb).trans z) hd' ?_) ⟨⟨by rw [aw x3.symm];exact x1,hl2,x3,ad⟩,?_,(fun z=>nomatch z),fun _ z=>Cf z⟩
  ·exact fN ⟨_,hn',om r ry,iI wi⟩ hd' DX.stay
  ·intro b o hb _ ne
   rw [aw (fun z=>ne (by rw [z]))]
   exact hb
end
section
variable {X:Cx} {o e value:Expr} {f:Str} {pos pos' tpos:Pos} {ta tv:TE}
def vS (K:ZF) (ta:TE) (f:Str):TE:=fun σ H Q=>ta σ H fun x H1=>∃ a C dx r fs nm bm v,x=.ref a/\XAt H1 a C (some dx) r fs/\XC K C nm bm/\NoAttr K C f/\fs.lookup f=some v/\Q v H1
theorem uQ (he:PE X e ta) (hb:attributeBase e f X.env (eval e X.env)=eval e X.env):PE X (.Attribute e f pos) (vS X.K ta f):=by
 refine ⟨?_⟩
 intro pins s σ H Q I h
 refine nJ hb (bF (he pins s σ H _ I h) fun u s1 ⟨x,H1,I1,rx,a,C,dx,r0,fs,nm,bm,v,ex,ea,c,n,l,q⟩=>?_)
 subst ex
 obtain rfl:u=Value.ref a:=rx
 exact pA I1 ea c n l fun u' s2 I2 ru=>⟨v,H1,I2,ru,q⟩
def zY (K:ZF) (ta tv:TE) (f:Str):TS:=fun D σ H=>tv σ H fun y H1=>ta σ H1 fun x H2=>∃ a C d r fs nm bm,x=.ref a/\XAt H2 a C d r fs/\XC K C nm bm/\NoAttr K C f/\fs.length < 1000 /\
 ∀ H3 d',zX H2 H3 a C d r d' (aM f y fs)->D.nx σ H3
theorem uR (ha:PE X o ta) (hv:PE X value tv) (hs:swapsWith value (some (.Attribute o f pos')) pos.line X.env=pure false:=by rfl):PS X (.Assign [.Attribute o f pos'] value pos) (zY X.K ta tv f):=by
 refine ⟨?_⟩
 intro pins s σ H D I h
 refine plainObj_wpAny_Assign_Attribute (bF (hv pins s σ H _ I h) fun u s1 ⟨y,H1,I1,ry,q⟩=>bF (ha pins s1 σ H1 _ I1 q) fun ov s2 ⟨x,H2,I2,rx,a,C,d,r0,fs,nm,bm,ex,ea,c,n,l,q2⟩=>?_) hs
 subst ex
 obtain rfl:ov=Value.ref a:=rx
 exact pB I2 ea c n l ry fun s3 H3 d' I3 xs=>⟨σ,_,I3,q2 H3 d' xs⟩
end
section
variable {X:Cx} {CX:oV} {k:Nat} {f C:Addr} {fd:FuncData} {ps:List Str} {sp:Sp} {E:XK} {x m:Str} {p pos apos:Pos} {e o:Expr} {es:List Expr} {ta:TE} {t:TA} {nm:Str} {bm:List Value}
def rK (C:Addr) (sp:Sp) (E:XK) (t:TA):TE:=fun σ H Q=>t σ H fun vs H1=>∀ a,H1 a=none->sp (.ref a::vs) (aC H1 a (.ext (XO a C none false))) (fun v H2=>v=.non/\Q (.ref a) H2) E
structure A9 (K:ZF) (C f:Addr):Prop where
 init:PySem.W.findIn K (.ref C) "__init__"=some (some (.ref f))
 fn:PySem.W.isFn K (.ref f)=true
 kp:PySem.W.keepIn K (.ref C)=true
theorem pC {pins:List (Addr×Obj)} {σ:St} {H:Hp} {s:Shared} {Q:VK} {us:List Value} {vs:List V} (c:XC X.K C nm bm) (M:A9 X.K C f) (F:FnOk X.prog X.w X.K X.mg X.base CX k f fd ps sp) (hr:Room (k+1) X.A) (hb:Binds X.K fd ps [])
  (hx:dH CX X E) (hps:ps.length<=1000) (I:Inv X pins σ H s) (r:Vals vs us)
  (h:∀ a,H a=none->sp (.ref a::vs) (aC H a (.ext (XO a C none false))) (fun v H2=>v=.non/\Q (.ref a) H2) E) :
  wpAny (model X.prog X.w) X.A (call (.ref C) us) (EP X pins σ Q) X.xe s:=by
 obtain ⟨q0,N,bs,sn,sub,ab,col,dd,k0,k1,k2,k3,k5,lk⟩:=c.obj
 have hC:=I.kIn _ _ lk
 have LI:=PySem.W.looks_findIn (M:=model X.prog X.w) I.kIn M.init
 obtain ⟨oI,hfI,hfc⟩:∃ oI,s.heap.get? f=some oI/\oI.cls=.type "function":=by
  have ht:PySem.W.typeIn X.K (.ref f)=some (.type "function"):=beq_iff_eq.mp M.fn
  obtain ⟨o,ho,hc⟩:=Option.map_eq_some_iff.mp ht
  exact ⟨o,I.kIn _ _ ho,hc⟩
 have hq:=h (s.heap.objs.size+1) (I.hok.fresh (Dm _))
 have r2:Vals (V.ref (s.heap.objs.size+1)::vs) (Value.ref (s.heap.objs.size+1)::us):=.cons rfl r
 have hl:(Value.ref (s.heap.objs.size+1)::us).length=ps.length:=by
  have e:=r2.length
  rw [F.len _ _ _ _ hq] at e
  exact e.symm
 have kp:∀ b o,s.heap.get? b=some o->((s.heap.push (XB.tupO us)).push (XB.excO C s.heap.objs.size)).get? b=some o:=fun b o hb=>BM _ (BM _ hb)
 have hget:((s.heap.push (XB.tupO us)).push (XB.excO C s.heap.objs.size)).get? (s.heap.objs.size+1)=some (XB.excO C s.heap.objs.size):=by
  have:=B0 (s.heap.push (XB.tupO us)) (o:=XB.excO C s.heap.objs.size) rfl
  rwa [Dc] at this
 have I2:=I.laid (a:=s.heap.objs.size+1) (o:=.ext (XO (s.heap.objs.size+1) C none false)) (t':=s.toks) kp (Dm _) (fN ⟨_,s.heap.objs.size,hget,rfl,fun _=>rfl⟩ ⟨_,hget⟩ XO.stay)
 have hus:us.length<=sizeLine:=by
  rw [BS] at hl
  rw [sizeLine_eq]
  lia
 obtain ⟨hh,g,d,t,os⟩:=s
 refine XB.xmake c.tl hC LI hfI hfc (wpAny_call (codeAny_mono (F.run _ X.stack _ _ ⟨Value.ref (hh.objs.size+1)::us,[]⟩ (Value.ref (hh.objs.size+1)::us) _ _ E (hr.make C us []) (I2.env0.make C us []) (by
  have:=hb ⟨(hh.push (XB.tupO us)).push (XB.excO C hh.objs.size),g,d,t,os⟩ (Value.ref (hh.objs.size+1)::us) I2.kIn (by rw [Cv];exact hl)
  rw [Cv] at this
  exact this) r2 hq) fun r s' hq'=>?_)) hus
 cases r with
 | error e=>exact hx pins σ _ _ e s' I2 hq'
 | ok fl=>
  cases fl with
  | ret u=>
   obtain ⟨v,H',I3,rv,ev,q3⟩:=I2.after hq'
   subst ev
   exact ⟨rv,⟨V.ref (hh.objs.size+1),H',I3,rfl,q3⟩⟩
  | next=>exact False.elim hq'
  | brk=>exact False.elim hq'
  | cont=>exact False.elim hq'
theorem rL (c:XC X.K C nm bm) (M:A9 X.K C f) (F:FnOk X.prog X.w X.K X.mg X.base CX k f fd ps sp) (hr:Room (k+1) X.A) (hg:Gl X x) (hm:X.mg x=some (.ref C)) (hb:Binds X.K fd ps []) (hx:dH CX X E) (hps:ps.length<=1000)
  (ha:PA X (e::es) t) (hdb:(x == ("__debug__":Str))=false:=by decide) (he:starEach (e::es) X.env=(false,eval e X.env)::starEach es X.env:=by rfl) (hpl:(backTo pos (starEach es X.env)).any (·.1)=false:=by rfl) :
  PE X (.Call (.Name x p) (e::es) [] pos) (rK C sp E t):=by
 refine ⟨?_⟩
 intro pins s σ H Q I h
 refine wpAny_Call_Name_kw (dE I hg hm ?_ hdb)
 refine CQ (h₀:=X.base) I.ok.mod.kin M.kp (bF (ha pos pins s σ H _ I h) fun us s1 ⟨vs,H1,I1,r,q⟩=>⟨I1.kIn,?_⟩) he hpl
 exact pC c M F hr hb hx hps I1 r q
structure vT (K:ZF) (C:Addr) (m:Str) (f:Addr):Prop where
 rd:PySem.W.readsIn K C (.type "type")=true
 at_:PySem.W.findCls K (.ref C) (.type "type") m=some (.val (.ref f))
 kp:PySem.W.keepIn K (.ref f)=true
theorem rM {pl:Sem Bool} (M:vT X.K C m f) (F:FnOk X.prog X.w X.K X.mg X.base CX k f fd ps sp) (hr:Room k X.A) (hg:Gl X x) (hm:X.mg x=some (.ref C)) (hb:Binds X.K fd ps []) (hx:dH CX X E) (ha:PA X (e::es) t)
  (hdb:(x == ("__debug__":Str))=false:=by decide) (hst:starEach (e::es) X.env=(false,eval e X.env)::starEach es X.env:=by rfl) (hpl:(backTo pos (starEach es X.env)).any (·.1)=false:=by rfl)
  (ht:eval (.Call (.Attribute (.Name x p) m apos) (e::es) [] pos) X.env=(do
   let ov <-eval (.Name x p) X.env
   standAt apos.atName
   let (f,first) <-holding [ov] (getMethod ov m pl)
   callWith pos f first (backTo pos (starEach (e::es) X.env)) (backToKw pos (keywordEach [] X.env))):=by rfl) :
  PE X (.Call (.Attribute (.Name x p) m apos) (e::es) [] pos) (nL sp [] E t):=by
 refine ⟨?_⟩
 intro pins s σ H Q I h
 refine PySem.W.methodCall_KW (pl:=pl) (bF (aX (v:=.ref C) hg hm rfl hdb pins s σ H (fun v H1=>v=.ref C/\H1=H) I ⟨rfl,rfl⟩) fun u s1 ⟨xx,H1,I1,rx,ex,eh⟩=>?_) ht
 subst ex eh
 obtain rfl:u=Value.ref C:=rx
 refine XB.own_method I1.kIn M.rd M.at_ ?_
 refine CQ (first:=[]) (h₀:=X.base) I.ok.mod.kin M.kp (bF (ha pos pins _ σ H1 _ (I1.tok _) h) fun us s2 ⟨vs,H2,I2,r,q2⟩=>⟨I2.kIn,?_⟩) hst hpl
 exact gA (us:=us) (vs:=vs) (ds:=[]) (dvs:=[]) F hr hb .nil hx I2 r q2
theorem rN {H:Hp} {a:Addr} {o:HO} (h:H a=some o):aC H a o=H:=by
 funext b
 unfold aC
 by_cases z:b=a
 ·rw [if_pos z,z,h]
 ·rw [if_neg z]
def zZ (K:ZF) (t:TA):TE:=fun σ H Q=>t σ H fun vs H1=>∃ a rest C d r fs nm bm,vs=.ref a::rest/\rest.length<=1000/\XAt H1 a C d r fs/\XC K C nm bm/\Q .non H1
theorem uS {pl:Sem Bool} (hg:Gl X "ValueError") (hm:X.mg "ValueError"=none) (ha:PA X (e::es) t)
  (hst:starEach (e::es) X.env=(false,eval e X.env)::starEach es X.env:=by rfl) (hpl:(backTo pos (starEach es X.env)).any (·.1)=false:=by rfl)
  (ht:eval (.Call (.Attribute (.Name "ValueError" p) "__init__" apos) (e::es) [] pos) X.env=(do
   let ov <-eval (.Name "ValueError" p) X.env
   standAt apos.atName
   let (f,first) <-holding [ov] (getMethod ov "__init__" pl)
   callWith pos f first (backTo pos (starEach (e::es) X.env)) (backToKw pos (keywordEach [] X.env))):=by rfl) :
  PE X (.Call (.Attribute (.Name "ValueError" p) "__init__" apos) (e::es) [] pos) (zZ X.K t):=by
 refine ⟨?_⟩
 intro pins s σ H Q I h
 have hv:bootBuiltins "ValueError"=some (.type "ValueError"):=by decide +kernel
 refine PySem.W.methodCall_KW (pl:=pl) (bF (pe_ty (n:="ValueError") hg hm hv (by decide) (by decide) pins s σ H (fun v H1=>v=.ty "ValueError"/\H1=H) I ⟨rfl,rfl⟩) fun u s1 ⟨xx,H1,I1,rx,ex,eh⟩=>?_) ht
 subst ex eh
 obtain rfl:u=Value.type "ValueError":=rx
 refine XB.val_method I1.kIn ?_
 refine PyProof.Rows.callWith_builtin1 (bF (ha pos pins _ σ H1 _ (I1.tok _) h) fun us s2 ⟨vs,H2,I2,r,a,rest,C,d,r0,fs,nm,bm,ev,hz,x,c,q2⟩=>?_) hst hpl
 subst ev
 cases r with
 | @cons _ u _ us' r0 rr=>
  obtain rfl:u=Value.ref a:=r0
  obtain ⟨q0,N,bs,sn,sub,ab,col,dd,k0,k1,k2,k3,k5,lk⟩:=c.obj
  have hC:=I2.kIn _ _ lk
  obtain ⟨vv,a0,ho,hv0,hv1⟩:=x.obj I2
  have hl:=rr.length
  obtain ⟨hh,g,d',t',os⟩:=s2
  refine wpAny_call (XB.xinit c.tl hC ho rfl rfl hv0 (by rw [sizeLine_eq];lia) fun h' vs' hk hx' ⟨a1,h1,h2⟩=>?_)
  have I3:=I2.write (o:=.ext (XO a C d r0)) (x:=a) (e:=a) (t':=t') (by rw [x.1];exact True.intro) (.inl rfl) (fun b q hb z=>hk b q hb z) ⟨_,hx'⟩ (fN ⟨vs',a1,hx',h1,fun z=>h2.trans (hv1 z)⟩ ⟨_,hx'⟩ XO.stay)
  rw [rN x.1] at I3
  exact ⟨.non,H2,I3,rfl,q2⟩
end
def ExT (e C:Addr) (d:Option Addr) (T:Addr) (fl:Value) (h:Heap):Prop:=
 ∃ (vs:Array Value) (a0:Addr) (oT:Obj) (ts:Array Value),h.get? e=some { cls:=.ref C,dict:=d,data:=.fields vs }/\vs[0]?=some (.ref a0)/\vs[1]?=some (.ref T)/\T≠e/\h.get? T=some oT/\oT.data=.fields ts/\ts[3]?=some fl
structure Wr (fs:List Addr) (e T:Addr) (h h':Heap):Prop where
 keep:∀ b o,h.get? b=some o->b∉fs->b≠e->b≠T->h'.get? b=some o
 slot:∀ b o,h.get? b=some o->b∈fs->∃ sl,h'.get? b=some { o with slots:=sl }
 old:∀ o,h.get? T=some o->∃ ts,o.data=.fields ts
 nf:T∉fs
def Bu (n:Nat) (H:Hp) (L:Addr) (pn:List Addr) (e C:Addr) (d:Option Addr) (h:Heap):Prop:=
 ∃ (vs:Array Value) (a0:Addr),h.get? e=some { cls:=.ref C,dict:=d,data:=.fields vs }/\vs[0]?=some (.ref a0)/\(vs[1]?=some .none\/∃ T fl,ExT e C d T fl h/\n<=T/\H T=none/\T∉pn/\(fl=.none\/fl=rawInt L))
variable {h:Heap} {fl:Value} {T:Addr} {d:Option Addr} {e C:Addr}
theorem ExT.xo (x:ExT e C d T fl h):XO e C d true h:=by
 obtain ⟨vs,a0,_,_,h1,h2,_⟩:=x
 exact ⟨vs,a0,h1,h2,fun z=>nomatch z⟩
variable {o:Obj}
theorem jv {ts:Array Value} {f:Array Value->Array Value} (hd:o.data=.fields ts) (hf:f ts=ts):o.mapFields f=o:=by
 obtain ⟨c,d,dt,sl⟩:=o
 cases hd
 show Obj.mk c d (.fields (f ts)) sl=_
 rw [hf]
section
variable {M:Model} {A:Around} {E:Value->Shared->Prop} {s:Shared} {base:Heap} {env:Env} {outer:List Env} {L e C T:Addr} {d:Option Addr} {fl:Value} {Q:Unit->Shared->Prop}
theorem fO {fr:Option Addr} (x:ExT e C d T fl s.heap) (h:∀ h',(∀ b o,s.heap.get? b=some o->b≠T->h'.get? b=some o)->ExT e C d T (fr.elim .none fun f=>rawInt f) h'->Q () { s with heap:=h' }):wpAny M A (setFlight (.ref e) fr) Q E s:=by
 obtain ⟨vs,a0,oT,ts,he,h0,h1,ne,hT,hd,h3⟩:=x
 have hsz:3 < ts.size:=(Array.getElem?_eq_some_iff.mp h3).1
 unfold setFlight
 refine wpAny_bind (wpAny_field he rfl h1 ?_)
 rw [if_pos (show (Value.ref T != Value.none)=true from by simp)]
 have k:∀ b o,s.heap.get? b=some o->b≠T->(s.heap.update T (Obj.mapFields (·.setIfInBounds 3 (fr.elim Value.none fun f=>rawInt f)))).get? b=some o:=fun b o e' hb=>by
  rw [Heap.get?_update_other _ _ (Ne.symm hb)]
  exact e'
 refine wpAny_setField hT hd hsz (h _ k ?_)
 have hd':=Obj.data_mapFields hd (·.setIfInBounds 3 (fr.elim Value.none fun f=>rawInt f))
 exact ⟨vs,a0,_,_,k _ _ he (Ne.symm ne),h0,h1,ne,Heap.get?_update_self _ hT (Obj.isFreed_of_fields hd'),hd',by simp [hsz]⟩
theorem jw {vs:Array Value} {a0:Addr} {head:Value} {hadNext:Bool} (hfr:A.frames=some (env::outer)) (hl:s.heap.FunFrames base (env::outer)) (hf:env.frame=some L)
  (he:s.heap.get? e=some { cls:=.ref C,dict:=d,data:=.fields vs }) (h0:vs[0]?=some (.ref a0)) (hsz:1 < vs.size)
  (h:∀ h',Wr (jD (env::outer)) e s.heap.objs.size s.heap h'->ExT e C d s.heap.objs.size (rawInt L) h'->Q () { s with heap:=h' }) :
  wpAny M A (do let a <-frameOf env;let pl <-entryPlaceOf L hadNext;let b <-EntryCells.newEntry head a .none (rawInt L) .none pl;setField (.ref e) 1 b) Q E s:=by
 have hene:e∉jD (env::outer):=fun hm=>by
  obtain ⟨_,o,ho,hnf⟩:=hl.mem hm
  rw [he] at ho;injection ho with ho;subst ho;exact hnf vs rfl
 refine wpAny_bind (wpAny_frameOf_fun hfr hl hf fun h₁ hs₁=>?_)
 refine wpAny_bind (wpAny_entryPlaceOf fun pl hpl=>?_)
 unfold EntryCells.newEntry newFields
 refine wpAny_bind (wpAny_newObj_type ?_ (hpl.sizeOk5 _ _ _ _ _))
 generalize hts:([head,.ref L,.none,rawInt L,.none]++(if pl.isEmpty then List.replicate 6 Value.none else pl)).toArray=ts
 have h3:ts[3]?=some (rawInt L):=by rw [<-hts];simp
 have he₁:h₁.get? e=some { cls:=.ref C,dict:=d,data:=.fields vs }:=(hs₁.2.1 e hene).trans he
 have he₂:=BM (h:=h₁) { cls:=.type "traceback",dict:=none,data:=.fields ts } he₁
 refine wpAny_setField he₂ rfl hsz ?_
 have hsize:h₁.objs.size=s.heap.objs.size:=hs₁.1
 have hTe:h₁.objs.size≠e:=Dk (BP he₁)
 have he₃:=Heap.get?_update_self (Obj.mapFields (·.setIfInBounds 1 (Value.ref h₁.objs.size))) he₂ rfl
 have hT₃:=(Heap.get?_update_other (h₁.push { cls:=.type "traceback",dict:=none,data:=.fields ts }) (Obj.mapFields (·.setIfInBounds 1 (Value.ref h₁.objs.size))) (Ne.symm hTe)).trans (B0 h₁ rfl)
 have keep:∀ b o,b≠e->h₁.get? b=some o->((h₁.push { cls:=.type "traceback",dict:=none,data:=.fields ts }).update e (Obj.mapFields (·.setIfInBounds 1 (Value.ref h₁.objs.size)))).get? b=some o:=fun b o hbe hb=>by
  rw [Heap.get?_update_other _ _ (Ne.symm hbe)]
  exact BM _ hb
 rw [hsize] at he₃ hT₃ keep hTe ⊢
 refine h _ ⟨fun b o hb hbf hbe _=>keep b o hbe ((hs₁.2.1 b hbf).trans hb),fun b o hb hbf=>?_,fun o ho=>absurd (BP ho) (CG _),fun hm=>?_⟩ ?_
 ·obtain ⟨sl,hs⟩:=hs₁.2.2 b o hb
  exact ⟨sl,keep b _ (fun z=>hene (z ▸ hbf)) hs⟩
 ·obtain ⟨_,o,ho,_⟩:=hl.mem hm
  exact absurd (BP ho) (CG _)
 ·exact ⟨_,a0,_,ts,he₃,by rw [Array.getElem?_setIfInBounds_ne (by decide)];exact h0,by simp [hsz],hTe,hT₃,rfl,h3⟩
theorem lE {n:Nat} {H:Hp} {pn:List Addr} (hfr:A.frames=some (env::outer)) (hl:s.heap.FunFrames base (env::outer)) (hf:env.frame=some L) (x:Bu n H L pn e C d s.heap) (hn:n<=s.heap.objs.size)
  (hH:∀ a,s.heap.objs.size<=a->H a=none) (hp:∀ a∈pn,a < s.heap.objs.size)
  (h:∀ h' T,Wr (jD (env::outer)) e T s.heap h'->ExT e C d T (rawInt L) h'->n<=T->H T=none->T∉pn->Q () { s with heap:=h' }):wpAny M A (noteFrame (.ref e) env) Q E s:=by
 obtain ⟨vs,a0,he,h0,hm⟩:=x
 have new:∀ h',Wr (jD (env::outer)) e s.heap.objs.size s.heap h'->ExT e C d s.heap.objs.size (rawInt L) h'->Q () { s with heap:=h' }:=fun h' w q=>h h' _ w q hn (hH _ (BT _)) fun z=>absurd (hp _ z) (CG _)
 unfold noteFrame
 simp only [hf]
 rcases hm with h1|⟨T,fl,x,nT,fT,pT,fl0|fl1⟩
 ·refine wpAny_bind (wpAny_field he rfl h1 ?_)
  rw [if_neg (by decide)]
  exact jw hfr hl hf he h0 (Array.getElem?_eq_some_iff.mp h1).1 new
 ·subst fl0
  obtain ⟨vs',a0',oT,ts,he',h0',h1,ne,hT,hd,h3⟩:=x
  rw [he] at he'
  have ev:vs=vs':=by injection he' with e1;injection e1 with _ _ e2 _;injection e2
  subst ev
  refine wpAny_bind (wpAny_field he rfl h1 ?_)
  rw [if_pos (show (Value.ref T != Value.none)=true from by simp)]
  refine wpAny_bind (wpAny_field hT hd h3 ?_)
  rw [if_neg (show ¬ ((Value.none == rawInt L)=true) from by simp [rawInt])]
  have hsz:3 < ts.size:=(Array.getElem?_eq_some_iff.mp h3).1
  refine wpAny_bind (wpAny_setField hT hd hsz ?_)
  have same:ts.setIfInBounds 3 Value.none=ts:=by
   apply Array.ext_getElem?
   intro i
   by_cases hi:3=i
   ·subst hi;rw [h3];simp [hsz]
   ·rw [Array.getElem?_setIfInBounds_ne hi]
  have all:∀ b,(s.heap.update T (Obj.mapFields (·.setIfInBounds 3 Value.none))).get? b=s.heap.get? b:=fun b=>by
   by_cases hb:b=T
   ·rw [hb]
    have:=Heap.get?_update_self (Obj.mapFields (·.setIfInBounds 3 Value.none)) hT (by rw [jv hd same];exact Obj.isFreed_of_fields hd)
    rw [this,jv hd same,hT]
   ·exact Heap.get?_update_other _ _ (Ne.symm hb)
  refine jw (hadNext:=true) hfr (hl.of_keeps fun b o hb _=>⟨o,(all b).trans hb,rfl⟩) hf ((all e).trans he) h0 (Array.getElem?_eq_some_iff.mp h1).1 fun h' w q=>?_
  have hs:(s.heap.update T (Obj.mapFields (·.setIfInBounds 3 Value.none))).objs.size=s.heap.objs.size:=Heap.size_after_update _ _ _
  dsimp only at w q
  rw [hs] at w q
  refine new h' ⟨fun b o hb=>w.keep b o ((all b).trans hb),fun b o hb=>w.slot b o ((all b).trans hb),fun o ho=>w.old o ((all _).trans ho),w.nf⟩ q
 ·subst fl1
  obtain ⟨vs',a0',oT,ts,he',h0',h1,ne,hT,hd,h3⟩:=id x
  refine wpAny_bind (wpAny_field he' rfl h1 ?_)
  rw [if_pos (show (Value.ref T != Value.none)=true from by simp)]
  refine wpAny_bind (wpAny_field hT hd h3 ?_)
  rw [if_pos (show (rawInt L == rawInt L)=true from by simp)]
  refine wpAny_pure ?_
  have:=h s.heap T ⟨fun b o hb _ _ _=>hb,fun b o hb _=>⟨o.slots,hb⟩,fun o ho=>?_,fun hm=>?_⟩ x nT fT pT
  ·exact this
  ·rw [hT] at ho;cases ho;exact ⟨ts,hd⟩
  ·obtain ⟨_,o,ho,hnf⟩:=hl.mem hm
   rw [hT] at ho;cases ho
   exact hnf ts hd
end
theorem Wr.then {fs:List Addr} {h h1 h2:Heap} (w:Wr fs e T h h1) (k:∀ b o,h1.get? b=some o->b≠T->h2.get? b=some o):Wr fs e T h h2:=
 ⟨fun b o hb hf he hT=>k b o (w.keep b o hb hf he hT) hT,fun b o hb hf=>let ⟨sl,q⟩:=w.slot b o hb hf;⟨sl,k b _ q fun z=>w.nf (z ▸ hf)⟩,w.old,w.nf⟩
variable {H:Hp}
theorem Wr.un {fs:List Addr} {h h':Heap} {φ:Heap->Prop} (w:Wr fs e T h h') (x:ExT e C d T fl h') (He:H e=some (.ext φ)):Un fs [T] H H h h':=by
 obtain ⟨vs,a0,oT,ts,he,_,_,_,hT,_⟩:=x
 refine ⟨fun b o hb n hf hT'=>w.keep b o hb hf (fun z=>by rw [z,He] at n;cases n) (by simpa using hT'),fun b o hb _ hf _=>w.slot b o hb hf,fun _ _ _ n _=>n,fun b o hb hT'=>?_,fun _ _ q=>q,fun _ _ _ q=>q,fun b ps q=>⟨#[],by rw [q];simp⟩⟩
 by_cases hbe:b=e
 ·exact ⟨_,hbe ▸ he⟩
 ·by_cases hf:b∈fs
  ·obtain ⟨sl,q⟩:=w.slot b o hb hf;exact ⟨_,q⟩
  ·exact ⟨o,w.keep b o hb hf hbe (by simpa using hT')⟩
variable {P:Program}
theorem Wr.hok {wd:World} {fs:List Addr} {h h':Heap} (w:Wr fs e T h h') (x:ExT e C d T fl h') (He:H e=some (.ext (XO e C d true))) (hT:H T=none) (hf:∀ b∈fs,H b=none) (ok:HOk P wd H h):HOk P wd H h':=by
 intro a o ha
 have k:∀ b o',H b=some o'->b≠e->∀ u,h.get? b=some u->h'.get? b=some u:=fun b o' hb ne u q=>w.keep b u q (fun z=>by rw [hf b z] at hb;cases hb) ne (aU hb hT)
 by_cases hae:a=e
 ·subst hae
  rw [He] at ha;cases ha
  obtain ⟨vs,a0,oT,ts,he,_⟩:=id x
  exact fN x.xo ⟨_,he⟩ XO.stay
 ·refine (ok a o ha).stay (fun b u hb q=>?_) (fun _ q=>q) fun _ _ q=>q
  rcases hb with rfl|hb
  ·exact k _ _ ha hae u q
  ·exact k _ _ hb (fun z=>by rw [z,He] at hb;cases hb) u q
def lR (P:Program) (w:World):oV:=fun outer H s E e s'=>∃ a H' C d T,e=.ref a/\s'.os=s.os/\AllBare s'.gens/\Un (jD outer) [] H H' s.heap s'.heap/\HOk P w H' s'.heap/\H' a=some (.ext (XO a C d true))/\ExT a C d T .none s'.heap /\
 s.heap.objs.size<=T/\H' T=none/\E e none H'
def z3 (X:Cx) (H:Hp) (h:Heap) (a:Addr):Prop:=∃ C d,H a=some (.ext (XO a C d true))/\Bu X.s₀.heap.objs.size H X.env.locals (X.pn.map (·.1)) a C d h
def j9 (X:Cx) (ES:St->XK) (e:Value) (s:Shared):Prop:=∃ a σ H,e=.ref a/\Inv X [] σ H s/\z3 X H s.heap a/\ES σ e none H
def z4 (X:Cx) (ES:St->XK):Prop:=∀ e s',j9 X ES e s'->X.xe e s'
abbrev Cx.esc (X:Cx) (ES:St->XK):Cx:=X.wish (j9 X ES)
section
variable {X:Cx} {pins:List (Addr×Obj)} {σ:St} {H:Hp} {s:Shared} {ES:St->XK} {E:XK}
theorem gq:z4 (X.esc ES) ES:=fun e s' ⟨a,σ,H,h1,I,⟨C,d,h2,h3⟩,h4⟩=>⟨a,σ,H,h1,I.unwish,⟨C,d,h2,h3⟩,h4⟩
theorem Inv.pn_lt (I:Inv X pins σ H s):∀ a∈X.pn.map (·.1),a < s.heap.objs.size:=fun a ha=>by
 obtain ⟨p,hp,rfl⟩:=CM.mp ha
 exact BP (I.pin p (De _ hp)).1
theorem Inv.frame1 (I:Inv X pins σ H s) (hst:X.stack=X.env::X.outer):X.env.frame=some X.env.locals:=by
 rcases I.ok.stk with e|⟨_,e⟩
 ·rw [hst] at e
  exact absurd e (by intro z;have:=congrArg List.length z;simp at this)
 ·exact e
theorem Inv.wr {h':Heap} (I:Inv X pins σ H s) (W:Wr (jD X.stack) e T s.heap h') (x:ExT e C d T fl h') (He:H e=some (.ext (XO e C d true))) (hT:H T=none) (hn:X.s₀.heap.objs.size<=T)
  (hp:∀ p∈X.pn++pins,p.1≠T):Inv X pins σ H { s with heap:=h' }:=by
 have:=I.call (g':=s.gens) (t':=s.toks) (d':=s.drawn) (ch:=[T]) (W.un x He) (W.hok x He hT I.stkFree I.hok) I.bare (fun b hb=>?_)
 ·exact this
 ·have hb':b=T:=by simpa using hb
  subst hb'
  refine ⟨.inr hn,fun z=>?_,fun y c hc z=>?_,hp⟩
  ·obtain ⟨m,⟨o,es,ep,ho,hd,_⟩,_⟩:=I.loc
   obtain ⟨ts,hd'⟩:=W.old o (by rw [z];exact ho)
   rw [hd] at hd';cases hd'
  ·obtain ⟨v,o,ho,hd⟩:=I.cell y c hc
   obtain ⟨ts,hd'⟩:=W.old o (by rw [<-z];exact ho)
   rw [hd] at hd';cases hd'
theorem Inv.nopins (I:Inv X pins σ H s):Inv X [] σ H s:=Inv.unpinned (pins:=[]) (pl:=pins) I
theorem z5 {e:Value} {s':Shared} (I:Inv X pins σ H s) (h:lR X.prog X.w X.stack H s (ES σ) e s'):j9 X ES e s':=by
 obtain ⟨a,H',C,d,T,rfl,os,bare,un,hok,He,x,nT,fT,q⟩:=h
 have J:Inv X pins σ H' s':=I.call' (ch:=[]) os un hok bare (fun b z=>absurd z (by simp))
 obtain ⟨vs,a0,oT,ts,he,h0,h1,_⟩:=id x
 exact ⟨a,σ,H',rfl,J.nopins,⟨C,d,He,vs,a0,he,h0,.inr ⟨T,.none,x,Cm I.sz nT,fT,fun z=>absurd (B9 (I.pn_lt T z) nT) (CG _),.inl rfl⟩⟩,q⟩
end
theorem PSs.wishTo {X:Cx} {E:Value->Shared->Prop} {st:List Stmt} {t:TS} (h:PSs (X.wish E) st t) (k:∀ e s',E e s'->X.xe e s'):PSs X st t:=⟨fun pins s σ H D I hw=>
 wpAny_mono (h pins s σ H D (I.wish _) hw) (fun _ _ q=>q.unwish) fun e s' z=>k e s' z⟩
section
variable {P:Program} {w:World} {K:ZF} {mg:Str->Option Value} {base:Heap}
theorem xG {N:List Str} {qual:Str} {sc:Scope} {f:Addr} {cd:Value} {A:Around} {outer:List Env} {s:Shared} {H:Hp} {E:XK} (e:Value) (s':Shared)
  (h:j9 (jH (lR P w) P w K mg base N qual sc f cd A outer s H E) (fun _=>E) e s'):(jH (lR P w) P w K mg base N qual sc f cd A outer s H E).xe e s':=by
 obtain ⟨a,σ,H',he,I,⟨C,d,He,fl⟩,q⟩:=h
 subst he
 show wpAny (model P w) _ (leaving _ (.ref a)) _ _ s'
 unfold leaving
 refine wpAny_bind (lE (base:=base) I.ok.frames I.stack rfl fl I.sz (fun b hb=>I.hok.fresh hb) I.pn_lt fun h' T w x nT fT pT=>fO (s:={ s' with heap:=h' }) x fun h'' k x'=>?_)
 have W:=w.then k
 have J:=I.wr (h':=h'') W x' He fT nT (fun p hp=>absurd hp (by show p∉([]:List (Addr×Obj))++[];simp))
 exact ⟨a,H',C,d,T,rfl,J.os,J.bare,J.base,J.hok,He,x',nT,fT,q⟩
variable {sp:Sp} {fd:FuncData} {f:Addr}
theorem Fun.okX {x qual:Str} {st:Stmt} {N ps:List Str} {k:Nat} (F:Fun K x qual st f fd) (S:am N ps (aj st)) (len:∀ vs H Q E,sp vs H Q E->vs.length=ps.length)
  (hbody:∀ (cdv:Value) (A:Around) (outer:List Env) (s:Shared) (H:Hp) (vs:List V) (Q:VK) (E:XK),Room k (A.deeper (envOfC qual (aj st) s.heap.objs.size f cdv))->sp vs H Q E->
   ∃ t,PSs ((jH (lR P w) P w K mg base N qual (aj st) f cdv A outer s H E).esc fun _=>E) (cj st) t/\t { nx:=fun _ H'=>Q .non H',rt:=Q } (start N vs) H):FnOk P w K mg base (lR P w) (k+1) f fd ps sp:=by
 obtain ⟨oc,od,kV,doc,pm,an,cdv,ct,osl,rfl,lk,hcd⟩:=F.ex
 refine vH lk hcd S len fun A outer s H vs Q E hr hsp=>?_
 obtain ⟨t,h,q⟩:=hbody cdv A outer s H vs Q E hr hsp
 exact ⟨t,h.wishTo xG,q⟩
theorem FnOk.calm {k:Nat} {ps:List Str} (F:FnOk P w K mg base (lR P w) k f fd ps sp):FnOk P w K mg base bu k f fd ps (fun vs H Q _=>sp vs H Q E0):=
 ⟨fun vs H Q E q=>F.len vs H Q E0 q,fun A outer s H args us vs Q E hr he hb hv hs=>codeAny_mono (F.run A outer s H args us vs Q E0 hr he hb hv hs) fun r s' hq=>by
  cases r with
  | error e=>
   obtain ⟨_,_,_,_,_,_,_,_,_,_,_,_,_,_,z⟩:=hq
   exact z.elim
  | ok fl=>cases fl<;>exact hq⟩
end
section
variable {X:Cx} {k:Nat} {f C:Addr} {fd:FuncData} {ps:List Str} {sp:Sp} {dvs:List V} {ds:List Value} {ES:St->XK} {x m:Str} {p pos apos:Pos} {e o:Expr} {es:List Expr} {ta:TE} {t:TA}
theorem oo {pins:List (Addr×Obj)} {σ:St} {H:Hp} {s:Shared} {Q:VK} {us:List Value} {vs:List V} (F:FnOk X.prog X.w X.K X.mg X.base (lR X.prog X.w) k f fd ps sp) (hr:Room k X.A) (hb:Binds X.K fd ps ds) (hd:Vals dvs ds) (hx:z4 X ES)
  (I:Inv X pins σ H s) (r:Vals vs us) (h:sp (vs++dvs) H Q (ES σ)):wpAny (model X.prog X.w) X.A (call (.ref f) us) (EP X pins σ Q) X.xe s:=by
 have r2:Vals (vs++dvs) (us++ds):=r.append hd
 have hl:(us++ds).length=ps.length:=by rw [<-r2.length];exact F.len _ _ _ _ h
 refine wpAny_call (codeAny_mono (F.run X.A X.stack s H ⟨us,[]⟩ (us++ds) (vs++dvs) Q (ES σ) hr I.env0 (hb s us I.kIn hl) r2 h) fun r s' hq=>?_)
 cases r with
 | error e=>exact hx e s' (z5 I hq)
 | ok fl=>
  cases fl with
  | ret u=>exact I.after hq
  | next=>exact False.elim hq
  | brk=>exact False.elim hq
  | cont=>exact False.elim hq
def xH (sp:Sp) (dvs:List V) (ES:St->XK) (t:TA):TE:=fun σ H Q=>t σ H fun vs H1=>sp (vs++dvs) H1 Q (ES σ)
theorem rO (F:FnOk X.prog X.w X.K X.mg X.base (lR X.prog X.w) k f fd ps sp) (hr:Room k X.A) (hg:Gl X x) (hm:X.mg x=some (.ref f)) (hk:PySem.W.keepIn X.K (.ref f)=true) (hb:Binds X.K fd ps ds) (hd:Vals dvs ds) (hx:z4 X ES)
  (ha:PA X (e::es) t) (hdb:(x == ("__debug__":Str))=false:=by decide) (he:starEach (e::es) X.env=(false,eval e X.env)::starEach es X.env:=by rfl) (hpl:(backTo pos (starEach es X.env)).any (·.1)=false:=by rfl) :
  PE X (.Call (.Name x p) (e::es) [] pos) (xH sp dvs ES t):=by
 refine ⟨?_⟩
 intro pins s σ H Q I h
 refine wpAny_Call_Name_kw (dE I hg hm ?_ hdb)
 refine CQ (h₀:=X.base) I.ok.mod.kin hk (bF (ha pos pins s σ H _ I h) fun us s1 ⟨vs,H1,I1,r,q⟩=>⟨I1.kIn,?_⟩) he hpl
 exact oo F hr hb hd hx I1 r q
def xI (C:Addr) (m:Str) (sp:Sp) (dvs:List V) (ES:St->XK) (ta:TE) (t:TA):TE:=fun σ H Q=>ta σ H fun x H1=>∃ a dx fs,x=.ref a/\H1 a=some (.ins C dx fs)/\fs.lookup m=none /\
 t σ H1 fun vs H2=>sp (x::(vs++dvs)) H2 Q (ES σ)
theorem lF {pl:Sem Bool} (he:PE X o ta) (c:Cls X.K C) (hm:l0 X.K C m f) (F:FnOk X.prog X.w X.K X.mg X.base (lR X.prog X.w) k f fd ps sp) (hr:Room k X.A) (hb:Binds X.K fd ps ds) (hd:Vals dvs ds) (hx:z4 X ES) (ha:PA X (e::es) t)
  (hst:starEach (e::es) X.env=(false,eval e X.env)::starEach es X.env:=by rfl) (hpl:(backTo pos (starEach es X.env)).any (·.1)=false:=by rfl)
  (ht:eval (.Call (.Attribute o m apos) (e::es) [] pos) X.env=(do
   let ov <-eval o X.env
   standAt apos.atName
   let (f,first) <-holding [ov] (getMethod ov m pl)
   callWith pos f first (backTo pos (starEach (e::es) X.env)) (backToKw pos (keywordEach [] X.env))):=by rfl) :
  PE X (.Call (.Attribute o m apos) (e::es) [] pos) (xI C m sp dvs ES ta t):=by
 refine ⟨?_⟩
 intro pins s σ H Q I h
 refine PySem.W.methodCall_KW (pl:=pl) (bF (he pins s σ H _ I h) fun u s1 ⟨x,H1,I1,rx,a,dx,fs,ex,ea,l,q⟩=>?_) ht
 subst ex
 obtain rfl:u=Value.ref a:=rx
 refine dG I1 ea c hm l ?_
 refine CQ (first:=[.ref a]) (h₀:=X.base) I.ok.mod.kin hm.kp (bF (ha pos pins s1 σ H1 _ I1 q) fun us s2 ⟨vs,H2,I2,r,q2⟩=>⟨I2.kIn,?_⟩) hst hpl
 exact oo (us:=.ref a::us) (vs:=.ref a::vs) F hr hb hd hx I2 (.cons rfl r) q2
end
section
variable {prog:Program} {w:World} {A:Around} {E:Value->Shared->Prop} {h:Heap} {g:Array GenState} {dr:Drawn} {t:Nat} {os:OsState}
variable {a:Addr}
theorem jx {vs:Array Value} {Q:Bool->Shared->Prop} (ha:h.get? a=some o) (hd:o.data=.fields vs) (hq:Q false ⟨h,g,dr,t,os⟩):wpAny (model prog w) A (isType (.ref a)) Q E ⟨h,g,dr,t,os⟩:=by
 simp only [isType,loadHead]
 refine wpAny_bind (wpAny_loadPart ha ?_)
 rw [hd];exact wpAny_pure hq
theorem da {Q:Value->Shared->Prop} (ha:h.get? a=some o) (hq:Q o.cls ⟨h,g,dr,t,os⟩):wpAny (model prog w) A (typeOf (.ref a)) Q E ⟨h,g,dr,t,os⟩:=by
 simp only [typeOf]
 exact wpAny_bind (wpAny_loadPart ha (wpAny_pure hq))
end
section
variable {X:Cx} {pins:List (Addr×Obj)} {σ:St} {H:Hp} {s:Shared} {ES:St->XK} {e:Expr} {te:TE} {pos:Pos}
def rP (K:ZF) (te:TE) (ES:St->XK):TS:=fun _ σ H=>te σ H fun x H1=>∃ a C d fs nm bm,x=.ref a/\XAt H1 a C d false fs/\XC K C nm bm/\ES σ (.ref a) none (aC H1 a (.ext (XO a C d true)))
theorem rQ (he:PE X e te) (hx:z4 X ES) (hc:X.calm=true):PS X (.Raise (some e) none pos) (rP X.K te ES):=by
 refine ⟨fun pins s σ H D I h=>?_⟩
 show wpAny _ _ (do standAt pos;raiseStmt X.env (some (do let v <-eval e X.env;standAt pos;pure v)) none) _ _ s
 refine wpAny_bind (wpAny_standAt ?_)
 unfold raiseStmt
 dsimp only
 refine wpAny_bind (wpAny_bind (wpAny_mono (he pins s σ H _ I h) (fun v s₁ h₁=>wpAny_bind (wpAny_standAt (wpAny_pure ?_))) fun _ _ x=>x))
 obtain ⟨x,H1,I1,rx,a,C,d,fs,nm,bm,ex,xa,c,q⟩:=h₁
 subst ex
 obtain rfl:v=Value.ref a:=rx
 obtain ⟨vs,a0,ha,h0,h1⟩:=xa.obj I1
 have hb:(Value.ref C::bm).contains (.type "BaseException")=true:=c.tl.has C "BaseException" true (by decide +kernel)
 obtain ⟨q0,N,bs,sn,sub,ab,col,dd,k0,k1,k2,k3,k5,lk⟩:=c.obj
 have hC:=I1.kIn _ _ lk
 have hh:X.A.handled=none:=I1.ok.hd hc
 have I2:=I1.write (o:=.ext (XO a C d true)) (x:=a) (e:=a) (t':=s₁.toks) (h':=s₁.heap) (by rw [xa.1];exact True.intro) (.inl rfl) (fun b u _ z=>z) ⟨_,ha⟩ (fN ⟨vs,a0,ha,h0,fun z=>nomatch z⟩ ⟨_,ha⟩ XO.stay)
 have fin:X.xe (.ref a) s₁:=hx _ _ ⟨a,σ,_,rfl,I2.nopins,⟨C,d,ad,vs,a0,ha,h0,.inl (h1 rfl)⟩,q⟩
 obtain ⟨hp,g,dr,t,os⟩:=s₁
 refine wpAny_bind (wpAny_pure ?_)
 dsimp only
 refine wpAny_bind (wpAny_holding ?_)
 unfold excFromValue isExcClass
 refine wpAny_bind (wpAny_bind (jx ha rfl ?_))
 simp only [Bool.false_eq_true,if_false]
 refine wpAny_pure ?_
 simp only [Bool.false_eq_true,if_false]
 unfold isInstance
 refine wpAny_bind (wpAny_bind (da ha (wpAny_isSubtype_exc hC ?_)))
 rw [hb]
 simp only [if_true]
 refine wpAny_pure ?_
 refine wpAny_bind (jx ha rfl ?_)
 simp only [Bool.false_eq_true,if_false]
 unfold raisedInstance
 refine wpAny_bind (wpAny_bind (da ha (wpAny_bind (da hC ?_))))
 rw [if_pos (by rfl)]
 refine wpAny_pure ?_
 unfold setFlight raiseNew
 refine wpAny_bind (wpAny_bind (wpAny_field ha rfl (h1 rfl) ?_))
 rw [if_neg (by decide)]
 refine wpAny_pure (wpAny_bind (wpAny_handled ?_))
 rw [hh]
 first
  | exact wpAny_throw fin
  | exact wpAny_bind (wpAny_pure (wpAny_throw fin))
end
section
variable {prog:Program} {w:World} {A:Around} {E:Value->Shared->Prop} {h:Heap} {g:Array GenState} {dr:Drawn} {t:Nat} {os:OsState}
variable {Q:Bool->Shared->Prop}
theorem m7 {a:Addr} {cd:ClassData} (ha:h.get? a=some o) (hd:o.data=.cls cd) (hq:Q true ⟨h,g,dr,t,os⟩):wpAny (model prog w) A (isType (.ref a)) Q E ⟨h,g,dr,t,os⟩:=by
 simp only [isType,loadHead]
 refine wpAny_bind (wpAny_loadPart ha ?_)
 rw [hd];exact wpAny_pure hq
theorem rR {e C C':Addr} {oe:Obj} {nm q nm' q':Str} {N N':Addr} {bs bm bs' bm':List Value} {hdct hdct':Bool} {sn sn' sub sub' ab ab' col col' dd dd' k0 k0' k1 k1' k2 k2' k3 k3' k5 k5' newId newId'} {Q:Bool->Shared->Prop} (he:h.get? e=some oe) (hcls:oe.cls=.ref C) (hC:h.get? C=some (excClassObj nm q C N bs bm hdct sn sub ab col dd k0 k1 k2 k3 k5 newId))
  (hC':h.get? C'=some (excClassObj nm' q' C' N' bs' bm' hdct' sn' sub' ab' col' dd' k0' k1' k2' k3' k5' newId')) (hb':(Value.ref C'::bm').contains (.type "BaseException")=true) (hq:Q ((Value.ref C::bm).contains (.ref C')) ⟨h,g,dr,t,os⟩) :
  wpAny (model prog w) A (excMatches (.ref e) (.ref C')) Q E ⟨h,g,dr,t,os⟩:=by
 unfold excMatches isInstance
 refine wpAny_bind (wpAny_bind (da hC' (wpAny_of_eq (a:=false) (by rfl) ?_)))
 simp only [Bool.false_eq_true,if_false]
 refine wpAny_bind (wpAny_pure ?_)
 simp only [forIn,ForIn.forIn,List.forIn'_cons,List.forIn'_nil,List.forIn_cons,List.forIn_nil]
 unfold isExcClass
 refine wpAny_bind ?_
 refine wpAny_bind ?_
 refine wpAny_bind (wpAny_bind (m7 hC' rfl ?_))
 simp only [if_true]
 refine wpAny_isSubtype_exc hC' ?_
 rw [hb']
 simp only [Bool.not_true,Bool.false_eq_true,if_false]
 refine wpAny_pure (wpAny_pure ?_)
 refine wpAny_bind (da he ?_)
 rw [hcls]
 refine wpAny_bind (wpAny_bind (wpAny_bind (wpAny_isSubtype_exc hC ?_)))
 generalize (Value.ref C::bm).contains (.ref C')=b at hq ⊢
 cases b with
 | true=>
  simp only [if_true]
  exact wpAny_pure (wpAny_pure (wpAny_pure hq))
 | false=>
  simp only [Bool.false_eq_true,if_false]
  exact wpAny_pure (wpAny_pure (wpAny_pure hq))
end
abbrev Cx.alt (X:Cx) (A:Around) (calm:Bool) (pn:List (Addr×Obj)) (xe:Value->Shared->Prop):Cx:={ X with A:=A,calm:=calm,pn:=pn,xe:=xe }
abbrev Cx.bear (X:Cx) (pn:List (Addr×Obj)):Cx:=X.alt X.A X.calm pn X.xe
abbrev Cx.suite (X:Cx) (A:Around) (pn:List (Addr×Obj)):Cx:=X.alt A false pn fun _ _=>False
section
variable {X:Cx} {pins pins' pn:List (Addr×Obj)} {σ:St} {H:Hp} {s:Shared} {A:Around} {calm:Bool} {xe:Value->Shared->Prop}
theorem Inv.alt (I:Inv X pins σ H s) (hA:A.frames=some X.stack) (hc:calm=true->A.handled=none) (hp:∀ p∈pn++pins',p∈X.pn++pins):Inv (X.alt A calm pn xe) pins' σ H s:=
 ⟨⟨I.ok.mod,I.ok.kind,I.ok.glob,I.ok.blt,I.ok.above,I.ok.inj,I.ok.has,I.ok.cab,hc,hA,I.ok.stk,I.ok.exf,I.ok.bs,I.ok.bsz,I.ok.noex,I.ok.exfs,I.ok.funs,I.ok.frf⟩,I.os,I.bare,I.base,I.loc,I.cell,I.free,I.freeC,fun p h=>I.pin p (hp p h),I.hok,I.len⟩
theorem Inv.unalt (I:Inv (X.alt A calm pn xe) pins' σ H s) (ok:X.Ok) (hp:∀ p∈X.pn++pins,p∈pn++pins'):Inv X pins σ H s:=
 ⟨ok,I.os,I.bare,I.base,I.loc,I.cell,I.free,I.freeC,fun p h=>I.pin p (hp p h),I.hok,I.len⟩
theorem Inv.unset {i:Nat} {n:Str} {m:Str->Option Value} {v:Option Value} {h':Heap} {t':Nat} (I:Inv X pins σ H s) (hN:X.N.Nodup) (hi:X.N[i]?=some n) (hn:s.heap.Ns X.env.locals m) (hl:∀ (i:Nat) (x:Str) (v:V),X.N[i]?=some x->σ[i]?=some (some v)->y8 X.env.scope x->∃ u,RelV v u/\za X.env s.heap m x u)
  (hn':h'.Ns X.env.locals fun x=>if x=n then v else m x) (hs:Heap.SameBut X.env.locals s.heap h'):Inv X pins (σ.set i none) H { s with heap:=h',toks:=t' }:=by
 have hiσ:i < σ.length:=by rw [I.len];exact (BL.mp hi).1
 have cne:=I.cne
 obtain ⟨oL,_,_,hoL,_⟩:=id hn
 refine ⟨I.ok,I.os,I.bare,⟨fun b o e n hb hx=>?_,fun b o e n hb hx=>?_,I.base.free,fun b o e hx=>?_,I.base.tups,I.base.frzs,I.base.tbls⟩,⟨_,hn',fun j y v' e1 e2 e3=>?_⟩,fun y c e=>?_,I.free,I.freeC,fun p hp=>?_,fun b ob e=>?_,by simpa using I.len⟩
 ·exact (hs.2 b (Ce (B9 (BP e) I.ok.above))).trans (I.base.keep b o e n hb hx)
 ·obtain ⟨sl,e1⟩:=I.base.slot b o e n hb hx
  exact ⟨sl,(hs.2 b (Ce (B9 (BP e) I.ok.above))).trans e1⟩
 ·obtain ⟨o',e1⟩:=I.base.there b o e hx
  exact ⟨o',(hs.2 b (Ce (B9 (BP e) I.ok.above))).trans e1⟩
 ·by_cases hj:j=i
  ·subst hj
   rw [List.getElem?_set_self hiσ] at e2
   cases e2
  ·rw [List.getElem?_set_ne (Ne.symm hj)] at e2
   obtain ⟨u',r',q⟩:=hl j y v' e1 e2 e3
   refine ⟨u',r',?_⟩
   rcases q with ⟨k,e⟩|⟨k,c,e,z⟩
   ·refine .inl ⟨k,?_⟩
    have:y≠n:=fun e=>hj (ie hN e1 (e ▸ hi))
    simp [this,e]
   ·exact .inr ⟨k,c,e,z.sameBut hs (cne y c e)⟩
 ·obtain ⟨w',z⟩:=I.cell y c e
  exact ⟨w',z.sameBut hs (cne y c e)⟩
 ·obtain ⟨e,n,ne,nf,d⟩:=I.pin p hp
  exact ⟨(hs.2 p.1 ne).trans e,n,ne,nf,d⟩
 ·refine (I.hok b ob e).stay (fun c w' hc q=>(hs.2 c ?_).trans q) (fun _ q=>q) fun _ _ q=>q
  rintro rfl
  rcases hc with rfl|hc
  ·rw [I.free] at e;cases e
  ·rw [I.free] at hc;cases hc
end
section
variable {X:Cx} {body suite:List Stmt} {b₀:Stmt} {tb:(St->XK)->TS} {th:TS} {n cn:Str} {cp hpos pos:Pos} {i:Nat} {C':Addr} {nm':Str} {bm':List Value}
def Ends.drop (D:Ends) (i:Nat):Ends:={ nx:=fun σ H=>D.nx (σ.set i none) H,rt:=D.rt,bk:=fun σ H=>D.bk (σ.set i none) H,ct:=fun σ H=>D.ct (σ.set i none) H }
def rS (K:ZF) (C':Addr) (i:Nat) (th:TS) (D:Ends):St->XK:=fun σ e _ H=>∃ a C d fs nm bm,e=.ref a/\XAt H a C d true fs/\XC K C nm bm/\(Value.ref C::bm).contains (.ref C')=true/\th (D.drop i) (σ.set i (some (.ref a))) H
def Ba (K:ZF) (tb:(St->XK)->TS) (C':Addr) (i:Nat) (th:TS):TS:=fun D σ H=>tb (rS K C' i th D) D σ H
theorem uT {a C C2:Addr} {d d2:Option Addr} {fs:List (Str×V)} {w:World} (x:XAt H a C d true fs) (ok:HOk P w H h) (y:∃ vs:Array Value,h.get? a=some { cls:=.ref C2,dict:=d2,data:=.fields vs }):C=C2/\d=d2:=by
 obtain ⟨⟨vs,a0,h1,_⟩,_⟩:=(show ObjOk P w H h a (.ext (XO a C d true)) from ok a _ x.1)
 obtain ⟨vs2,h2⟩:=y
 rw [h1] at h2
 injection h2 with h3
 injection h3 with h4 h5
 injection h4 with h6
 exact ⟨h6,h5⟩
theorem xJ {more:List _} (hst:X.stack=X.env::X.outer) (hb:∀ (pn:List (Addr×Obj)) (ES:St->XK),PSs ((X.bear pn).esc ES) body (tb ES)) (hs:∀ (A:Around) (pn:List (Addr×Obj)),PSs (X.suite A pn) (b₀::suite) th)
  (hg:Gl X cn) (hm:X.mg cn=some (.ref C')) (c':XC X.K C' nm' bm') (hN:X.N.Nodup) (hi:X.N[i]?=some n) (hl:X.env.kindOf n=some .local) (hdb:(cn == ("__debug__":Str))=false:=by decide) :
  PS X (.Try body (.ExceptHandler (some (.Name cn cp)) (some n) (b₀::suite) hpos::more) [] [] pos) (Ba X.K tb C' i th):=by
 refine ⟨fun pins s σ H D I h=>?_⟩
 have ok:=I.ok
 have I0:Inv (X.bear (X.pn++pins)) [] σ H s:=I.alt ok.frames ok.hd (fun p hp=>by rwa [Cv] at hp)
 have back:∀ {A calm xe σ H s},Inv (X.alt A calm (X.pn++pins) xe) [] σ H s->Inv X pins σ H s:=fun J=>J.unalt ok (fun p hp=>by rwa [Cv])
 refine wpAny_Try_except (wpAny_mono ((hb (X.pn++pins) (rS X.K C' i th D)) [] s σ H D (I0.wish _) h) (fun f s1 h1=>?_) fun e s1 h1=>?_)
 ·cases f with
  | next=>
   obtain ⟨σ',H',J,q⟩:=h1
   exact wpAny_pure ⟨σ',H',back J,q⟩
  | brk=>obtain ⟨σ',H',J,q⟩:=h1;exact ⟨σ',H',back J,q⟩
  | cont=>obtain ⟨σ',H',J,q⟩:=h1;exact ⟨σ',H',back J,q⟩
  | ret u=>obtain ⟨v,σ',H',J,r,q⟩:=h1;exact ⟨v,σ',H',back J,r,q⟩
 ·obtain ⟨a,σ1,H1,ea,J,⟨C,d,He,fl⟩,a',Cx',d',fs,nm,bm,e1,xa,c,hc,q⟩:=h1
  subst ea
  cases e1
  have hf:X.env.frame=some X.env.locals:=I.frame1 hst
  have hfr:X.A.frames=some (X.env::X.outer):=by rw [ok.frames,hst]
  have hl':s1.heap.FunFrames X.base (X.env::X.outer):=by rw [<-hst];exact J.stack
  refine lE hfr hl' hf fl J.sz (fun b hb=>J.hok.fresh hb) J.pn_lt fun h2 T w x nT fT pT=>fO (s:={ s1 with heap:=h2 }) x fun h3 k x3=>?_
  have W:=w.then k
  rw [<-hst] at W
  have ec:=uT xa J.hok (by obtain ⟨vs,a0,z,_⟩:=fl;exact ⟨vs,z⟩)
  obtain ⟨rfl,rfl⟩:=ec
  have J3:Inv (X.bear (X.pn++pins)) [] σ1 H1 { s1 with heap:=h3 }:=J.wr (h':=h3) W x3 He fT nT (fun p hp z=>pT (by rw [Cv] at hp;exact z ▸ List.mem_map_of_mem hp))
  obtain ⟨q0,N,bs,sn,sub,ab,col,dd,k0,k1,k2,k3,k5,lk⟩:=c.obj
  obtain ⟨q0',N',bs',sn',sub',ab',col',dd',k0',k1',k2',k3',k5',lk'⟩:=c'.obj
  have hC:=J3.kIn _ _ lk
  have hC':=J3.kIn _ _ lk'
  have J4:Inv (X.suite (X.A.mark (some (.ref a))) (X.pn++pins)) [] σ1 H1 { s1 with heap:=h3 }:=J3.alt (X:=X.bear (X.pn++pins)) ok.frames (fun z=>nomatch z) (fun p hp=>hp)
  refine wpAny_handleBy_cons (codeAny_handlers_test (dE (X:=X.suite (X.A.mark (some (.ref a))) (X.pn++pins)) J4 hg hm ?_ hdb)) (by intro z;cases z)
  obtain ⟨vs3,a03,_,_,he3,_⟩:=id x3
  refine rR he3 rfl hC hC' (c'.tl.has C' "BaseException" true (by decide +kernel)) ?_
  rw [hc]
  simp only [if_true]
  refine codeAny_handlers_suite_as (fO (s:={ s1 with heap:=h3 }) x3 fun h5 k5' x5=>?_)
  have J5:Inv (X.suite (X.A.mark (some (.ref a))) (X.pn++pins)) [] σ1 H1 { s1 with heap:=h5 }:=by
   refine J4.wr (h':=h5) (e:=a) (T:=T) ⟨fun b o hb _ _ hT=>k5' b o hb hT,fun b o hb hbf=>⟨o.slots,k5' b o hb fun z=>W.nf (z ▸ hbf)⟩,fun o ho=>?_,W.nf⟩ x5 He fT nT (fun p hp z=>pT (by rw [Cv] at hp;exact z ▸ List.mem_map_of_mem hp))
   obtain ⟨_,_,oT,ts,_,_,_,_,hT,hd,_⟩:=x3
   rw [hT] at ho;cases ho;exact ⟨ts,hd⟩
  refine fP (X:=X.suite (X.A.mark (some (.ref a))) (X.pn++pins)) (v:=.ref a) J5 hN hi (.inl hl) rfl (fun s6 J6=>?_) (.inr hl)
  refine wpAny_mono ((hs (X.A.mark (some (.ref a))) (X.pn++pins)) [] s6 _ H1 (D.drop i) J6 q) (fun f s7 h7=>?_) fun _ _ z=>False.elim z
  have fin:∀ {σ':St} {H':Hp} {R:Unit->Shared->Prop},Inv (X.suite (X.A.mark (some (.ref a))) (X.pn++pins)) [] σ' H' s7->(∀ s8,Inv X pins (σ'.set i none) H' s8->R () s8)->wpAny (model X.prog X.w) X.A (do bindName X.env n .none;unbindBehindTheSuite X.env n hpos) R X.xe s7:=fun {σ' H' R} J7 hR=>by
   obtain ⟨m,hn,hlk⟩:=J7.loc
   refine wpAny_nameGoes_keeps hl hn (by rw [ok.kind];rfl) fun h8 v hn8 hs8=>hR _ (back (J7.unset (t':=s7.toks+1) hN hi hn hlk hn8 hs8))
  cases f with
  | next=>obtain ⟨σ',H',J7,q7⟩:=h7;exact fin J7 fun s8 J8=>⟨_,H',J8,q7⟩
  | brk=>obtain ⟨σ',H',J7,q7⟩:=h7;exact fin J7 fun s8 J8=>⟨_,H',J8,q7⟩
  | cont=>obtain ⟨σ',H',J7,q7⟩:=h7;exact fin J7 fun s8 J8=>⟨_,H',J8,q7⟩
  | ret u=>obtain ⟨v,σ',H',J7,r,q7⟩:=h7;exact fin J7 fun s8 J8=>⟨v,_,H',J8,r,q7⟩
end
end L2
namespace XD
open PySem PySem.SeqAt PySem.MeetsSeq
theorem dict_declines_str (l:Addr) (es:Array DictEntry) (ep:Nat) (dd:Option Addr) (sl:Array (Option Value)) (b:Str) (u:Tok) :
  Meets (Builtin.«dict.__eq__» ⟨[.ref l,.str b u],[]⟩) (fun _ R s=>s.heap.get? l=some { cls:=.type "dict",dict:=dd,data:=.dict es ep,slots:=sl }/\R (.ok (.ret .notImplemented)) s):=
 .of_wp fun prog w A R s h=>by
  obtain ⟨hl,h⟩:=h
  have ht:s.TypeIs (.ref l) "dict":=⟨_,hl,rfl⟩
  show wpAny _ _ (Builtin.Dict.dictSlotArgs "__eq__" ⟨[.ref l,.str b u],[]⟩ >>= _) _ _ s
  refine wpAny_bind ?_
  unfold Builtin.Dict.dictSlotArgs
  refine wpAny_bind (wpAny_notOrdered_dict ht ?_)
  refine wpAny_pure ?_
  refine wpAny_bind (wpAny_isInstance (T:="str") (typeIs_str s b u) (by rfl:isSubtype (.type "str") (.type "dict")=pure false) ?_)
  simp only [Bool.not_false,if_true]
  exact wpAny_bind (wpAny_rule (wpAny_pure ⟨_,rfl,h⟩))
theorem str_declines_dict (b:Str) (u:Tok) (l:Addr) (c:Value) (es:Array DictEntry) (ep:Nat) (dd:Option Addr) (sl:Array (Option Value)) :
  Meets (Builtin.«str.__eq__» ⟨[.str b u,.ref l],[]⟩) (fun _ R s=>s.heap.get? l=some { cls:=c,dict:=dd,data:=.dict es ep,slots:=sl }/\R (.ok (.ret .notImplemented)) s):=
 .of_wp fun prog w A R s h=>by obtain ⟨hp,g,d,tk,os⟩:=s;obtain ⟨hl,h⟩:=h;wp_walk using AutoSeq1.wpAny_loadPart' hl,wpAny_load hl;exact ⟨_,rfl,h⟩
variable {l:Addr} {s:Shared} {A:Around}
theorem rc_str_dict {es:Array DictEntry} {ep:Nat} {dd:Option Addr} {sl:Array (Option Value)} (b:Str) (u:Tok) (ho:s.heap.get? l=some { cls:=.type "dict",dict:=dd,data:=.dict es ep,slots:=sl }) (hu:A.units < cLine):RcAt A s (.str b u) (.ref l) false:=fun prog w E Q h=>
 rc_eq_decline_or (k:=false) (typeIs_str s b u) ⟨_,ho,rfl⟩ (by decide) (by rfl:isSubtype (.type "dict") (.type "str")=pure false) F.slot_str_eq F.slot_dict_eq_refl
  (fun _ hq=>call_meets F.slot_str_eq (typeIs_str s b u) F.entry_str_eq (F.args_str_eq_2 _ _) (str_declines_dict b u l (.type "dict") es ep dd sl) ⟨ho,hq⟩)
  (fun _ hq=>call_meets F.slot_dict_eq_refl ⟨_,ho,rfl⟩ F.entry_dict_eq (F.args_dict_eq_2 _ _) (dict_declines_str l es ep dd sl b u) ⟨ho,hq⟩)
  (fun _ hq=>wpAny_of_eq (rfl:isSame (.str b u) (.ref l)=pure false) hq) (.inr hu) h
theorem eq_str_dict {es:Array DictEntry} {ep:Nat} {dd:Option Addr} {sl:Array (Option Value)} (b:Str) (u:Tok) (ho:s.heap.get? l=some { cls:=.type "dict",dict:=dd,data:=.dict es ep,slots:=sl }) (hu:A.units < cLine):EqAt A s (.str b u) (.ref l) false:=fun prog w E Q h=>by
 unfold eqBool
 refine wpAny_holding ?_
 refine wpAny_ite_split (fun hab=>absurd (eq_of_beq hab) nofun) (fun _=>?_)
 exact wpAny_bind (rc_str_dict b u ho hu prog w E _ (wpAny_truthy_bool h))
end XD
namespace L2
open PySem PySem.Spec PyProof.Rows
def oq (K:ZF) (H:Hp) (a:Addr):Prop:=(∃ xs,SqL K H a xs)\/(∃ xs,SqT K H a xs)\/∃ kvs,H a=some (.dK kvs)
section
variable {X:Cx}
variable {A:Around} {a:Addr} {s:Shared}
theorem gX {pins:List (Addr×Obj)} {σ:St} {H:Hp} (I:Inv X pins σ H s) (t:oq X.K H a) (hu:A.units < cLine) (b:Str) (u:Tok):SeqAt.EqAt A s (.str b u) (.ref a) false:=by
 rcases t with ⟨xs,t⟩|⟨xs,t⟩|⟨kvs,t⟩
 ·obtain ⟨its,_,pl,_⟩:=I.list t
  exact SeqAt.EqAt.str_list b u pl.isList hu
 ·obtain ⟨its,_,pl,_⟩:=I.tuple t
  exact SeqAt.EqAt.str_tuple b u pl hu
 ·obtain ⟨_,_,vs,_,o,es,ep,ho,hx,hd,_⟩:=(show ObjOk X.prog X.w H s.heap a (.dK kvs) from I.hok a _ t)
  obtain ⟨c,dd,dt,sl⟩:=o
  cases hd
  have hc:c=.type "dict":=hx.1
  subst hc
  exact XD.eq_str_dict b u ho hu
theorem eI (h:∀ b u,SeqAt.EqAt A s (.str b u) (.ref a) false):∀ {xs:List Str} {us:List Value},Vals (xs.map V.str) us->∀ u∈us,SeqAt.EqAt A s u (.ref a) ((fun _=>false) u)
 | [],_,.nil=>fun u hu=>by cases hu
 | x::xs,u::us,.cons r t=>fun u' hu=>by
  rcases BW.mp hu with rfl|hu
  ·obtain ⟨t',rfl⟩:=r;exact h x t'
  ·exact eI h t u' hu
theorem ka {l:List Value}:l.toArray.any (fun _=>false)=false:=by
 rw [Array.any_eq_false]
 intro i h
 exact BY
def uU (K:ZF):R2:=fun x y H Q=>∃ (a p:Addr) (xs:List Str),x=.ref a/\y=.ref p/\oq K H a/\(SqL K H p (xs.map V.str)\/SqT K H p (xs.map V.str))/\Q (.bl true) H
theorem pE {k:Nat} (hr:Room k X.A):dF X (compareOp .NotIn) (uU X.K):=by
 intro pins s σ H x y v u Q I rx ry h
 obtain ⟨a,p,xs,rfl,rfl,t,hq,q⟩:=h
 cases rx
 cases ry
 have hu:X.A.in1.units < cLine:=by
  have:=hr.un
  show X.A.units+1 < _
  lia
 have ne:=gX I t hu
 rcases hq with hq|hq
 ·obtain ⟨its,r,pl,hz⟩:=I.list hq
  refine SeqAt.notIn_listAt (fun _=>false) pl.isList (fun w hw=>eI ne r w (by simpa using hw)) ⟨.bl _,H,I,rfl,?_⟩
  rw [ka]
  exact q
 ·obtain ⟨its,r,pl,hz⟩:=I.tuple hq
  refine SeqAt.notIn_tupleAt (fun _=>false) pl (fun w hw=>eI ne r w (by simpa using hw)) ⟨.bl _,H,I,rfl,?_⟩
  rw [ka]
  exact q
end
end L2
namespace L3
open PySem L2
abbrev xL:Stmt:=bH 20
abbrev kc:Stmt:=bH 66
abbrev m8:Stmt:=bH 67
abbrev nc:Stmt:=bH 68
abbrev rT:Stmt:=bH 69
abbrev xM:Stmt:=bH 70
abbrev ke:Stmt:=bH 71
abbrev kg:Stmt:=bH 72
abbrev nh:Stmt:=bH 73
abbrev ni:Stmt:=bH 74
abbrev fb:Stmt:=bH 75
abbrev kh:Stmt:=bH 88
abbrev fc:Stmt:=bH 93
end L3
namespace L2
open PySem PySem.Spec PyProof.Rows
section
variable {X:Cx}
def z6 (K:ZF):R2:=fun x y H Q=>∃ (a p:Addr) (xs:List Str),x=.ref a/\y=.ref p/\oq K H a/\(SqL K H p (xs.map V.str)\/SqT K H p (xs.map V.str))/\Q (.bl false) H
theorem xN {k:Nat} (hr:Room k X.A):dF X (compareOp .In) (z6 X.K):=by
 intro pins s σ H x y v u Q I rx ry h
 obtain ⟨a,p,xs,rfl,rfl,t,hq,q⟩:=h
 cases rx
 cases ry
 have hu:X.A.in1.units < cLine:=by
  have:=hr.un
  show X.A.units+1 < _
  lia
 have ne:=gX I t hu
 rcases hq with hq|hq
 ·obtain ⟨its,r,pl,hz⟩:=I.list hq
  refine SeqAt.in_listAt (fun _=>false) pl.isList (fun w hw=>eI ne r w (by simpa using hw)) ⟨.bl _,H,I,rfl,?_⟩
  rw [ka]
  exact q
 ·obtain ⟨its,r,pl,hz⟩:=I.tuple hq
  refine SeqAt.in_tupleAt (fun _=>false) pl (fun w hw=>eI ne r w (by simpa using hw)) ⟨.bl _,H,I,rfl,?_⟩
  rw [ka]
  exact q
def Bv (r1 r2:R2):R2:=fun x y H Q=>r1 x y H Q\/r2 x y H Q
theorem gQ {f:Value->Value->Sem Value} {r1 r2:R2} (a:dF X f r1) (b:dF X f r2):dF X f (Bv r1 r2):=by
 intro pins s σ H x y v u Q I rx ry h
 rcases h with h|h
 ·exact a pins s σ H x y v u Q I rx ry h
 ·exact b pins s σ H x y v u Q I rx ry h
end
end L2
namespace L3
open PySem L2
inductive Th
 | non
 | int (i:Int)
 | str (x:Str)
 | tup (l:List Th)
 | lst (l:List Th)
 | dct
mutual
inductive TgV (p:Addr) (H:Hp):V->Th->Prop
 | non:TgV p H .non .non
 | int (i:Int):TgV p H (.int i) (.int i)
 | str (x:Str):TgV p H (.str x) (.str x)
 | tup {a:Addr} {xs:List V} {ts:List Th}:H a=some (.tup xs)->TgA p H xs ts->TgV p H (.ref a) (.tup ts)
 | lst {a:Addr} {xs:List V} {ts:List Th}:a≠p->H a=some (.lst xs)->TgA p H xs ts->TgV p H (.ref a) (.lst ts)
 | dct {a:Addr}:a≠p->H a=some (.dK [])->TgV p H (.ref a) .dct
inductive TgA (p:Addr) (H:Hp):List V->List Th->Prop
 | nil:TgA p H [] []
 | cons {v:V} {t:Th} {vs:List V} {ts:List Th}:TgV p H v t->TgA p H vs ts->TgA p H (v::vs) (t::ts)
end
mutual
theorem TgV.but {p:Addr} {H H':Hp} (g:Strm H p) (b:But p H H'):∀ {v:V} {t:Th},TgV p H v t->TgV p H' v t
 | _,_,.non=>.non
 | _,_,.int i=>.int i
 | _,_,.str x=>.str x
 | _,_,.tup e t=>.tup (b _ _ e (fun z=>by obtain ⟨x,y,w,q⟩:=g;rw [z,q] at e;cases e)) (TgA.but g b t)
 | _,_,.lst n e t=>.lst n (b _ _ e n) (TgA.but g b t)
 | _,_,.dct n e=>.dct n (b _ _ e n)
theorem TgA.but {p:Addr} {H H':Hp} (g:Strm H p) (b:But p H H'):∀ {vs:List V} {ts:List Th},TgA p H vs ts->TgA p H' vs ts
 | _,_,.nil=>.nil
 | _,_,.cons h t=>.cons (TgV.but g b h) (TgA.but g b t)
end
mutual
theorem TgV.same {p:Addr} {H H':Hp} (s:Same H H'):∀ {v:V} {t:Th},TgV p H v t->TgV p H' v t
 | _,_,.non=>.non
 | _,_,.int i=>.int i
 | _,_,.str x=>.str x
 | _,_,.tup e t=>.tup (s _ _ e) (TgA.same s t)
 | _,_,.lst n e t=>.lst n (s _ _ e) (TgA.same s t)
 | _,_,.dct n e=>.dct n (s _ _ e)
theorem TgA.same {p:Addr} {H H':Hp} (s:Same H H'):∀ {vs:List V} {ts:List Th},TgA p H vs ts->TgA p H' vs ts
 | _,_,.nil=>.nil
 | _,_,.cons h t=>.cons (TgV.same s h) (TgA.same s t)
end
theorem TgA.length {p:Addr} {H:Hp}:∀ {vs:List V} {ts:List Th},TgA p H vs ts->vs.length=ts.length
 | _,_,.nil=>rfl
 | _,_,.cons _ t=>by simp [TgA.length t]
theorem TgA.get {p:Addr} {H:Hp}:∀ {vs:List V} {ts:List Th},TgA p H vs ts->∀ {i:Nat} {v:V},vs[i]?=some v->∃ t,ts[i]?=some t/\TgV p H v t
 | _,_,.cons h _,0,_,e=>by
  have e':=Cf e
  subst e'
  exact ⟨_,rfl,h⟩
 | _,_,.cons _ t,i+1,_,e=>TgA.get t (by simpa using e)
theorem TgA.app {p:Addr} {H:Hp}:∀ {vs us:List V} {ts rs:List Th},TgA p H vs ts->TgA p H us rs->TgA p H (vs++us) (ts++rs)
 | _,_,_,_,.nil,h=>h
 | _,_,_,_,.cons a t,h=>.cons a (TgA.app t h)
def Th.isInt:Th->Bool
 | .int _=>true
 | _=>false
def Th.isTup:Th->Bool
 | .tup _=>true
 | _=>false
def Th.isStr:Th->Bool
 | .str _=>true
 | _=>false
def Th.okStr:Th->Bool
 | .str x=>Bs x
 | _=>false
def wn (lo hi:Int):Th->Bool
 | .int i=>decide (lo<=i) && decide (i<=hi)
 | _=>false
def hd (w:Str) (n:Nat):Th->Bool
 | .tup (.str x::r)=>decide (r.length+1=n) && decide (x=w)
 | _=>false
def arg (i:Nat):Th->Th
 | .tup l=>(l[i]?).getD .non
 | _=>.non
def hg:Th->Bool
 | .tup (.lst _::_)=>false
 | .tup (.dct::_)=>false
 | .tup (.tup l::r)=>r.isEmpty || l.all Th.okStr
 | _=>true
def hg1:Th->Bool
 | .tup [.tup _]=>false
 | _=>true
def selOk (t:Th):Bool:=if hd "is" 2 t then wn 0 3 (arg 1 t) else hd "by" 2 t && wn 0 2 (arg 1 t)
def srcOk (t:Th):Bool:=if hd "in" 2 t then wn 0 7 (arg 1 t) else if hd "number" 2 t then wn 0 16777215 (arg 1 t) else hd "field" 2 t && wn 0 2 (arg 1 t)
def opsL:List Str:=["+","-","&","|","^","<<",">>","<","="]
def opOk:Th->Bool
 | .str x=>opsL.contains x
 | _=>false
def stepOk (t:Th):Bool:=
 if hd "get" 3 t || hd "ask" 3 t then wn 0 7 (arg 1 t) && selOk (arg 2 t)
 else if hd "cell" 3 t then wn 0 7 (arg 1 t) && srcOk (arg 2 t)
 else if hd "two" 5 t then wn 0 7 (arg 1 t) && (opOk (arg 2 t) && (srcOk (arg 3 t) && srcOk (arg 4 t)))
 else if hd "put" 3 t || hd "tell" 3 t then selOk (arg 1 t) && srcOk (arg 2 t)
 else hd "store" 3 t && (srcOk (arg 1 t) && srcOk (arg 2 t))
inductive Kd
 | whole|non|text|list|tuple|dict
def Kd.nm:Kd->String
 | .whole=>"int"
 | .non=>"NoneType"
 | .text=>"str"
 | .list=>"list"
 | .tuple=>"tuple"
 | .dict=>"dict"
def kd:Th->Kd
 | .non=>.non
 | .int _=>.whole
 | .str _=>.text
 | .tup _=>.tuple
 | .lst _=>.list
 | .dct=>.dict
theorem TgV.ty {K:ZF} {p:Addr} {H:Hp} {v:V} {t:Th} (h:TgV p H v t):fV K H v (.type (kd t).nm):=by
 cases h with
 | non=>exact .non
 | int i=>exact .int i
 | str x=>exact .str x
 | tup e _=>exact .tup e
 | lst _ e _=>exact .lst e
 | dct _ e=>exact .dK e
theorem kit_int {K:ZF} (t:Th):PySem.W.kitOne K (.type (kd t).nm) (.type "int")=some t.isInt:=by cases t<;>rfl
theorem kit_bool {K:ZF} (t:Th):PySem.W.kitOne K (.type (kd t).nm) (.type "bool")=some false:=by cases t<;>rfl
theorem kit_tup {K:ZF} (t:Th):PySem.W.kitOne K (.type (kd t).nm) (.type "tuple")=some t.isTup:=by cases t<;>rfl
theorem kit_str {K:ZF} (t:Th):PySem.W.kitOne K (.type (kd t).nm) (.type "str")=some t.isStr:=by cases t<;>rfl
structure Cst (K:ZF) (mg:Str->Option Value) (w:World) (aO:Addr) (t1 t2 t3 t4 t5 t6:Tok) (fs:Str->V):Prop where
 inner:mg "HIGHEST_INNER"=some (.int 7 t1)
 word:mg "HIGHEST_WORD"=some (.int 16777215 t2)
 field:mg "HIGHEST_FIELD"=some (.int 2 t3)
 sel:mg "HIGHEST_SELECTED"=some (.int 3 t4)
 addr:mg "HIGHEST_ADDRESS"=some (.int 399 t5)
 steps:mg "MOST_STEPS"=some (.int 16 t6)
 ops:mg "OPS"=some (.ref aO)
 dict:hU w K aO (opsL.map fun x=>(x,fs x))
 lo:(aO == sysModules)=false
def spWholeT:Sp:=fun vs H Q _=>∃ (p:Addr) (v:V) (t:Th),vs=[v]/\TgV p H v t/\Q (.bl t.isInt) H
def spWithinT:Sp:=fun vs H Q _=>∃ (p:Addr) (v:V) (t:Th) (lo hi:Int),vs=[v,.int lo,.int hi]/\TgV p H v t/\Q (.bl (wn lo hi t)) H
def spTo (hi:Int):Sp:=fun vs H Q _=>∃ (p:Addr) (v:V) (t:Th),vs=[v]/\TgV p H v t/\Q (.bl (wn 0 hi t)) H
def spOps:Sp:=fun vs H Q _=>vs=[]/\∀ p,H p=none->Q (.ref p) (aC H p (.lst (opsL.map V.str)))
def spHeaded:Sp:=fun vs H Q _=>∃ (p:Addr) (v:V) (t:Th) (w:Str) (m:Nat),vs=[v,.str w,.int m]/\TgV p H v t/\hg t=true/\(m=1->hg1 t=true)/\0 < m/\Bs w=true/\Q (.bl (hd w m t)) H
def spAsk (ok:Th->Bool) (gd:Th->Prop):Sp:=fun vs H Q _=>∃ (p:Addr) (v:V) (t:Th),vs=[v]/\TgV p H v t/\gd t/\∀ H',Same H H'->Q (.bl (ok t)) H'
theorem dint (a b:Int):decide (V.int a=V.int b)=decide (a=b):=by
 by_cases h:a=b
 ·subst h;simp
 ·have:¬ V.int a=V.int b:=fun z=>h (by injection z)
  simp [h,this]
theorem dstr (a b:Str):decide (V.str a=V.str b)=decide (a=b):=by
 by_cases h:a=b
 ·subst h;simp
 ·have:¬ V.str a=V.str b:=fun z=>h (by injection z)
  simp [h,this]
theorem at0 (x:V) (ys:List V):kG (x::ys) 0=some x:=aJ (j:=0) rfl
section
variable {P:Program} {w:World} {K:ZF} {mg:Str->Option Value} {base:Heap} {aO:Addr} {t1 t2 t3 t4 t5 t6:Tok} {fs:Str->V}
theorem scWholeT:am ["thing"] ["thing"] (aj iy):=bG (by decide +kernel)
variable {fd:FuncData} {f:Addr}
theorem ok_wholeT (F:Fun K "is_whole" "is_whole" iy f fd) (T:Bl mg):FnOk P w K mg base bu 1 f fd ["thing"] spWholeT:=by
 have ZZ:=scWholeT
 walk_at "o"
 ·obtain ⟨p,v,t,rfl,tv,q⟩:=h
  refine ⟨_,ah (al (bE (aA (cJ (T:="int")) (by rfl) T.isinstance bL (aa (pv 0) (aa (pe_ty (by rfl) T.int Cd) ac))) (bJ (pP (aA (cJ (T:="bool")) (by rfl) T.isinstance bL (aa (pv 0) (aa (pe_ty (by rfl) T.bool fH) ac))))))),?_⟩
  refine ⟨_,rfl,v,_,_,rfl,tv.ty,kit_int t,_,rfl,?_⟩
  cases hi:t.isInt with
  | true=>rw [hi] at q;exact cQ ⟨_,rfl,v,_,_,rfl,tv.ty,kit_bool t,_,rfl,q⟩
  | false=>rw [hi] at q;exact bz q
theorem scWithinT:am ["thing","low","high"] ["thing","low","high"] (aj gi):=bG (by decide +kernel)
theorem ok_withinT (F:Fun K "is_within" "is_within" gi f fd) (WH:Fn P w K mg base "is_whole" 1 ["thing"] spWholeT):FnOk P w K mg base bu 2 f fd ["thing","low","high"] spWithinT:=by
 have ZZ:=scWithinT
 walk_at "o"
 ·obtain ⟨p,v,t,lo,hi,rfl,tv,q⟩:=h
  refine ⟨_,ah (al (bE (aq WH hr rfl (aa (pv 0) ac)) (bJ (fQ dW dW (pv 1) (pv 0) (pv 2))))),?_⟩
  refine ⟨_,rfl,p,v,t,rfl,tv,_,rfl,?_⟩
  cases tv with
  | int i=>
   refine cQ ⟨_,rfl,_,rfl,_,_,rfl,rfl,_,rfl,bN (fun h=>?_) (fun h=>?_)⟩
   ·refine ⟨_,rfl,_,_,rfl,rfl,?_⟩
    have h':decide (lo<=i)=true:=h
    have q':Q (.bl (decide (lo<=i) && decide (i<=hi))) H:=q
    rw [h',Bool.true_and] at q'
    exact q'
   ·have h':decide (lo<=i)=false:=B5.mpr h
    have q':Q (.bl (decide (lo<=i) && decide (i<=hi))) H:=q
    rw [h',Bool.false_and] at q'
    exact q'
  | non=>exact bz q
  | str x=>exact bz q
  | tup a b=>exact bz q
  | lst a b c=>exact bz q
  | dct a b=>exact bz q
theorem scOps:am [] [] (aj xL):=bG (by decide +kernel)
theorem ok_ops (F:Fun K "ops_told" "ops_told" xL f fd) (T:Bl mg) (C:Cst K mg w aO t1 t2 t3 t4 t5 t6 fs):FnOk P w K mg base bu 1 f fd [] spOps:=by
 have ZZ:=scOps
 walk_at "o"
 ·obtain ⟨rfl,q⟩:=h
  refine ⟨_,ah (al (aW (call_list_top rfl) (by rfl) T.list mD (aa (aX (v:=.ref aO) rfl C.ops rfl) ac))),?_⟩
  exact ⟨aO,_,rfl,C.dict,(show opsL.Nodup from by decide +kernel),C.lo,(by show 9<=1000;decide),fun p hp=>q p hp⟩
theorem scHeaded:am ["thing","word","many"] ["thing","word","many"] (aj kc):=bG (by decide +kernel)
theorem strs_dt {p:Addr} {H:Hp}:∀ {xs:List V} {ts:List Th},TgA p H xs ts->ts.all Th.okStr=true->∃ ss:List Str,DtAll K H xs (ss.map PyData.str)/\PyData.canLayAll0 (ss.map PyData.str)=true
 | _,_,.nil,_=>⟨[],.nil,rfl⟩
 | _,_,.cons (t:=t) a b,h=>by
  rw [List.all_cons,CO] at h
  obtain ⟨ss,d,l⟩:=strs_dt b h.2
  cases a with
  | str x=>exact ⟨x::ss,.cons (.str x) d,by simp only [B6,PyData.canLayAll0,l,Bool.and_true];exact h.1⟩
  | non=>cases h.1
  | int i=>cases h.1
  | tup _ _=>cases h.1
  | lst _ _ _=>cases h.1
  | dct _ _=>cases h.1
theorem hd_len {w:Str} {m:Nat} {ts:List Th} (h:ts.length≠m):hd w m (.tup ts)=false:=by
 match ts with
 | []=>rfl
 | .str x::r=>
  show (decide (r.length+1=m) && decide (x=w))=false
  rw [decide_eq_false (by simpa using h)]
  rfl
 | .non::r=>rfl
 | .int _::r=>rfl
 | .tup _::r=>rfl
 | .lst _::r=>rfl
 | .dct::r=>rfl
theorem ok_headed (F:Fun K "is_headed" "is_headed" kc f fd) (T:Bl mg):FnOk P w K mg base bu 1 f fd ["thing","word","many"] spHeaded:=by
 have ZZ:=scHeaded
 walk_at "o"
 ·obtain ⟨p,v,t,w,m,rfl,tv,hgt,hg1t,hm,hw,q⟩:=h
  refine ⟨_,ah (al (bE (aA (cJ (T:="tuple")) (by rfl) T.isinstance bL (aa (pv 0) (aa (pe_ty (by rfl) T.tuple bq) ac)))
   (bE (aZ bv (aA aT (by rfl) T.len B7 (aa (pv 0) ac)) (pv 2) (az _)) (bJ (aZ (gQ bv (op_eqD hr)) (au av (pv 0) ai (fun _ _=>rfl)) (pv 1) (az _)))))),?_⟩
  refine ⟨_,rfl,v,_,_,rfl,tv.ty,kit_tup t,_,rfl,?_⟩
  cases tv with
  | non=>exact bz q
  | int i=>exact bz q
  | str x=>exact bz q
  | lst a b c=>exact bz q
  | dct a b=>exact bz q
  | @tup a xs ts e ta=>
   have hl:=ta.length
   refine cQ ⟨_,rfl,a,_,rfl,.inr (SqT.of e),_,rfl,rfl,_,rfl,?_⟩
   rw [dint]
   by_cases hlm:ts.length=m
   ·have e1:decide ((xs.length:Int)=(m:Int))=true:=decide_eq_true (by lia)
    rw [e1]
    refine cQ ?_
    match xs,ts,ta,hl,hlm,e,hgt,hg1t,q with
    | [],[],_,_,hlm,_,_,_,_=>exact absurd hlm (by simp;lia)
    | x::xr,t0::tr,.cons a0 ar,hl,hlm,e,hgt,hg1t,q=>
     refine ⟨_,rfl,a,_,_,_,rfl,rfl,SqT.of e,at0 _ _,_,rfl,?_⟩
     cases a0 with
     | non=>exact .inl ⟨rfl,q⟩
     | int i=>exact .inl ⟨rfl,q⟩
     | str x=>
      refine .inl ⟨rfl,?_⟩
      rw [dstr]
      have q':Q (.bl (decide (tr.length+1=m) && decide (x=w))) H:=q
      rw [decide_eq_true (by simpa using hlm),Bool.true_and] at q'
      exact q'
     | lst _ _ _=>cases hgt
     | dct _ _=>cases hgt
     | @tup b ys us eb ub=>
      have hgu:us.all Th.okStr=true:=by
       have hgt':(tr.isEmpty || us.all Th.okStr)=true:=hgt
       cases tr with
       | nil=>exact absurd (hg1t (by simpa using hlm.symm)) (by show ¬ (false=true);decide)
       | cons _ _=>exact hgt'
      obtain ⟨ss,d,l⟩:=strs_dt (K:=K) ub hgu
      have dd:Dt K H (.ref b) (.tuple (ss.map .str)):=.tup (SqT.of eb) d
      refine .inr ⟨_,.str w,dd,.str w,?_,?_,?_,?_⟩
      ·exact l
      ·exact hw
      ·exact Cm (Nat.min_le_right _ _) (by simp [PyData.depth])
      ·exact q
   ·have e1:decide ((xs.length:Int)=(m:Int))=false:=decide_eq_false (by lia)
    rw [e1]
    rw [hd_len hlm] at q
    exact bz q
theorem scInner:am ["thing"] ["thing"] (aj m8):=bG (by decide +kernel)
theorem ok_inner (F:Fun K "is_inner" "is_inner" m8 f fd) (C:Cst K mg w aO t1 t2 t3 t4 t5 t6 fs) (WI:Fn P w K mg base "is_within" 2 ["thing","low","high"] spWithinT):FnOk P w K mg base bu 3 f fd ["thing"] (spTo 7):=by
 have ZZ:=scInner
 walk_at "o"
 ·obtain ⟨p,v,t,rfl,tv,q⟩:=h
  refine ⟨_,ah (al (aq WI hr rfl (aa (pv 0) (aa ai (aa (aX (v:=.int 7) rfl C.inner ⟨_,rfl⟩) ac))))),?_⟩
  exact ⟨_,rfl,p,v,t,0,7,rfl,tv,q⟩
theorem scFieldT:am ["thing"] ["thing"] (aj nc):=bG (by decide +kernel)
theorem ok_fieldT (F:Fun K "is_field" "is_field" nc f fd) (C:Cst K mg w aO t1 t2 t3 t4 t5 t6 fs) (WI:Fn P w K mg base "is_within" 2 ["thing","low","high"] spWithinT):FnOk P w K mg base bu 3 f fd ["thing"] (spTo 2):=by
 have ZZ:=scFieldT
 walk_at "o"
 ·obtain ⟨p,v,t,rfl,tv,q⟩:=h
  refine ⟨_,ah (al (aq WI hr rfl (aa (pv 0) (aa ai (aa (aX (v:=.int 2) rfl C.field ⟨_,rfl⟩) ac))))),?_⟩
  exact ⟨_,rfl,p,v,t,0,2,rfl,tv,q⟩
theorem scAddr:am ["thing"] ["thing"] (aj rT):=bG (by decide +kernel)
theorem ok_addr (F:Fun K "is_address" "is_address" rT f fd) (C:Cst K mg w aO t1 t2 t3 t4 t5 t6 fs) (WI:Fn P w K mg base "is_within" 2 ["thing","low","high"] spWithinT):FnOk P w K mg base bu 3 f fd ["thing"] (spTo 399):=by
 have ZZ:=scAddr
 walk_at "o"
 ·obtain ⟨p,v,t,rfl,tv,q⟩:=h
  refine ⟨_,ah (al (aq WI hr rfl (aa (pv 0) (aa ai (aa (aX (v:=.int 399) rfl C.addr ⟨_,rfl⟩) ac))))),?_⟩
  exact ⟨_,rfl,p,v,t,0,399,rfl,tv,q⟩
end
theorem hd_arg {p:Addr} {H:Hp} {v:V} {t:Th} {w:Str} {n:Nat} (tv:TgV p H v t) (h:hd w n t=true):∃ (a:Addr) (xs:List V),v=.ref a/\H a=some (.tup xs)/\∀ i,i < n->∃ u,xs[i]?=some u/\TgV p H u (arg i t):=by
 cases tv with
 | non=>cases h
 | int i=>cases h
 | str x=>cases h
 | lst a b c=>cases h
 | dct a b=>cases h
 | @tup a xs ts e ta=>
  refine ⟨a,xs,rfl,e,fun i hi=>?_⟩
  have hl:ts.length=n:=by
   by_cases q:ts.length=n
   ·exact q
   ·rw [hd_len q] at h;cases h
  have hil:i < xs.length:=by rw [ta.length];lia
  have hx:xs[i]?=some xs[i]:=BZ hil
  obtain ⟨u,eu,tu⟩:=ta.get hx
  exact ⟨_,hx,by show TgV p H _ ((ts[i]?).getD .non);rw [eu];exact tu⟩
theorem inV_str (x:Str):∀ l:List Str,eQ (.str x) (l.map V.str)=l.contains x
 | []=>rfl
 | y::l=>by
  have ih:=inV_str x l
  unfold eQ at ih ⊢
  rw [B6,Di,ih,List.contains_cons]
  congr 1
  show decide (y=x)=(x == y)
  by_cases h:y=x
  ·subst h;simp
  ·have:(x == y)=false:=by simpa using Ne.symm h
   rw [this,decide_eq_false h]
def HgA (t:Th):Prop:=hg t=true/\∀ i,hg (arg i t)=true
theorem op_thing {K:ZF} {p l:Addr} {H:Hp} {u:V} {t:Th} {Q:VK} (tu:TgV p H u t) (el:H l=some (.lst (opsL.map V.str))) (q:Q (.bl (opOk t)) H):Bv (Av K false) (z6 K) u (.ref l) H Q:=by
 cases tu with
 | non=>exact .inl ⟨l,_,rfl,.inl (SqL.of el),rfl,by decide +kernel,q⟩
 | int i=>exact .inl ⟨l,_,rfl,.inl (SqL.of el),rfl,by decide +kernel,q⟩
 | str x=>
  refine .inl ⟨l,_,rfl,.inl (SqL.of el),rfl,by decide +kernel,?_⟩
  have:eQ (.str x) (opsL.map V.str)=opsL.contains x:=inV_str x opsL
  have q':Q (.bl (opsL.contains x)) H:=q
  rw [<-this] at q'
  exact q'
 | tup e _=>exact .inr ⟨_,l,opsL,rfl,rfl,.inr (.inl ⟨_,SqT.of e⟩),.inl (SqL.of el),q⟩
 | lst _ e _=>exact .inr ⟨_,l,opsL,rfl,rfl,.inl ⟨_,SqL.of e⟩,.inl (SqL.of el),q⟩
 | dct _ e=>exact .inr ⟨_,l,opsL,rfl,rfl,.inr (.inr ⟨_,e⟩),.inl (SqL.of el),q⟩
def spQ (ok:Th->Bool):Sp:=fun vs H Q _=>∃ (p:Addr) (v:V) (t:Th),vs=[v]/\TgV p H v t/\hg t=true/\Q (.bl (ok t)) H
section
variable {P:Program} {w:World} {K:ZF} {mg:Str->Option Value} {base:Heap} {aO:Addr} {t1 t2 t3 t4 t5 t6:Tok} {fs:Str->V}
theorem scSel:am ["thing"] ["thing"] (aj xM):=bG (by decide +kernel)
variable {fd:FuncData} {f:Addr}
theorem ok_sel (F:Fun K "is_sel" "is_sel" xM f fd) (C:Cst K mg w aO t1 t2 t3 t4 t5 t6 fs) (WI:Fn P w K mg base "is_within" 2 ["thing","low","high"] spWithinT) (HD:Fn P w K mg base "is_headed" 1 ["thing","word","many"] spHeaded) (FI:Fn P w K mg base "is_field" 3 ["thing"] (spTo 2)) :
  FnOk P w K mg base bu 4 f fd ["thing"] (spQ selOk):=by
 have ZZ:=scSel
 walk_at "o"
 ·obtain ⟨p,v,t,rfl,tv,hgt,q⟩:=h
  have hr1:Room 1 _:=hr.mono (by decide)
  have hr2:Room 2 _:=hr.mono (by decide)
  refine ⟨_,af (aQ (bf (aq HD hr1 rfl (aa (pv 0) (aa ak (aa ai ac))))) (ah (al (aq WI hr2 rfl (aa (au av (pv 0) ai (fun _ _=>rfl)) (aa ai (aa (aX (v:=.int 3) rfl C.sel ⟨_,rfl⟩) ac)))))) ay)
   (ah (al (bE (aq HD hr1 rfl (aa (pv 0) (aa ak (aa ai ac)))) (bJ (aq FI hr rfl (aa (au av (pv 0) ai (fun _ _=>rfl)) ac)))))),?_⟩
  have fin:∀ b,selOk t=b->Q (.bl b) H:=fun b e=>e ▸ q
  refine ⟨_,rfl,p,v,t,"is",2,rfl,tv,hgt,fun z=>absurd z (by decide),by decide,by decide +kernel,_,rfl,bN (fun h1=>?_) (fun h1=>?_)⟩
  ·obtain ⟨a,xs,rfl,e,ag⟩:=hd_arg tv h1
   obtain ⟨u1,e1,ta⟩:=ag 1 (by decide)
   exact ⟨_,rfl,a,_,_,_,rfl,rfl,SqT.of e,aJ (j:=1) e1,p,u1,_,0,3,rfl,ta,fin _ (by unfold selOk;rw [if_pos h1])⟩
  ·refine ⟨_,rfl,p,v,t,"by",2,rfl,tv,hgt,fun z=>absurd z (by decide),by decide,by decide +kernel,_,rfl,bN (fun h2=>?_) (fun h2=>?_)⟩
   ·obtain ⟨a,xs,rfl,e,ag⟩:=hd_arg tv h2
    obtain ⟨u1,e1,ta⟩:=ag 1 (by decide)
    exact ⟨_,rfl,a,_,_,_,rfl,rfl,SqT.of e,aJ (j:=1) e1,p,u1,_,rfl,ta,fin _ (by unfold selOk;rw [if_neg h1,h2,Bool.true_and])⟩
   ·exact fin _ (by unfold selOk;rw [if_neg h1,B5.mpr h2,Bool.false_and])
theorem scSource:am ["thing"] ["thing"] (aj ke):=bG (by decide +kernel)
theorem ok_source (F:Fun K "is_source" "is_source" ke f fd) (C:Cst K mg w aO t1 t2 t3 t4 t5 t6 fs) (WI:Fn P w K mg base "is_within" 2 ["thing","low","high"] spWithinT) (HD:Fn P w K mg base "is_headed" 1 ["thing","word","many"] spHeaded) (FI:Fn P w K mg base "is_field" 3 ["thing"] (spTo 2)) (IN:Fn P w K mg base "is_inner" 3 ["thing"] (spTo 7)) :
  FnOk P w K mg base bu 4 f fd ["thing"] (spQ srcOk):=by
 have ZZ:=scSource
 walk_at "o"
 ·obtain ⟨p,v,t,rfl,tv,hgt,q⟩:=h
  have hr1:Room 1 _:=hr.mono (by decide)
  have hr2:Room 2 _:=hr.mono (by decide)
  refine ⟨_,af (aQ (bf (aq HD hr1 rfl (aa (pv 0) (aa ak (aa ai ac))))) (ah (al (aq IN hr rfl (aa (au av (pv 0) ai (fun _ _=>rfl)) ac)))) ay)
   (af (aQ (bf (aq HD hr1 rfl (aa (pv 0) (aa ak (aa ai ac))))) (ah (al (aq WI hr2 rfl (aa (au av (pv 0) ai (fun _ _=>rfl)) (aa ai (aa (aX (v:=.int 16777215) rfl C.word ⟨_,rfl⟩) ac)))))) ay)
   (ah (al (bE (aq HD hr1 rfl (aa (pv 0) (aa ak (aa ai ac)))) (bJ (aq FI hr rfl (aa (au av (pv 0) ai (fun _ _=>rfl)) ac))))))),?_⟩
  have fin:∀ b,srcOk t=b->Q (.bl b) H:=fun b e=>e ▸ q
  refine ⟨_,rfl,p,v,t,"in",2,rfl,tv,hgt,fun z=>absurd z (by decide),by decide,by decide +kernel,_,rfl,bN (fun h1=>?_) (fun h1=>?_)⟩
  ·obtain ⟨a,xs,rfl,e,ag⟩:=hd_arg tv h1
   obtain ⟨u1,e1,ta⟩:=ag 1 (by decide)
   exact ⟨_,rfl,a,_,_,_,rfl,rfl,SqT.of e,aJ (j:=1) e1,p,u1,_,rfl,ta,fin _ (by unfold srcOk;rw [if_pos h1])⟩
  ·refine ⟨_,rfl,p,v,t,"number",2,rfl,tv,hgt,fun z=>absurd z (by decide),by decide,by decide +kernel,_,rfl,bN (fun h2=>?_) (fun h2=>?_)⟩
   ·obtain ⟨a,xs,rfl,e,ag⟩:=hd_arg tv h2
    obtain ⟨u1,e1,ta⟩:=ag 1 (by decide)
    exact ⟨_,rfl,a,_,_,_,rfl,rfl,SqT.of e,aJ (j:=1) e1,p,u1,_,0,16777215,rfl,ta,fin _ (by unfold srcOk;rw [if_neg h1,if_pos h2])⟩
   ·refine ⟨_,rfl,p,v,t,"field",2,rfl,tv,hgt,fun z=>absurd z (by decide),by decide,by decide +kernel,_,rfl,bN (fun h3=>?_) (fun h3=>?_)⟩
    ·obtain ⟨a,xs,rfl,e,ag⟩:=hd_arg tv h3
     obtain ⟨u1,e1,ta⟩:=ag 1 (by decide)
     exact ⟨_,rfl,a,_,_,_,rfl,rfl,SqT.of e,aJ (j:=1) e1,p,u1,_,rfl,ta,fin _ (by unfold srcOk;rw [if_neg h1,if_neg h2,h3,Bool.true_and])⟩
    ·exact fin _ (by unfold srcOk;rw [if_neg h1,if_neg h2,B5.mpr h3,Bool.false_and])
theorem scIsStep:am ["thing"] ["thing"] (aj kg):=bG (by decide +kernel)
theorem ok_isStep (F:Fun K "is_step" "is_step" kg f fd) (HD:Fn P w K mg base "is_headed" 1 ["thing","word","many"] spHeaded) (IN:Fn P w K mg base "is_inner" 3 ["thing"] (spTo 7)) (SE:Fn P w K mg base "is_sel" 4 ["thing"] (spQ selOk)) (SO:Fn P w K mg base "is_source" 4 ["thing"] (spQ srcOk)) (OP:Fn P w K mg base "ops_told" 1 [] spOps) :
  FnOk P w K mg base bu 5 f fd ["thing"] (spAsk stepOk HgA):=by
 have ZZ:=scIsStep
 walk_at "o"
 ·obtain ⟨p,v,t,rfl,tv,⟨hgt,hga⟩,q⟩:=h
  have hr1:Room 1 _:=hr.mono (by decide)
  have hr3:Room 3 _:=hr.mono (by decide)
  refine ⟨_,af (aQ (PW.pt (cA (bf (aq HD hr1 rfl (aa (pv 0) (aa ak (aa ai ac))))) (bY (bf (aq HD hr1 rfl (aa (pv 0) (aa ak (aa ai ac)))))))) (ah (al (bE (aq IN hr3 rfl (aa (au av (pv 0) ai (fun _ _=>rfl)) ac)) (bJ (aq SE hr rfl (aa (au av (pv 0) ai (fun _ _=>rfl)) ac)))))) ay)
   (af (aQ (bf (aq HD hr1 rfl (aa (pv 0) (aa ak (aa ai ac))))) (ah (al (bE (aq IN hr3 rfl (aa (au av (pv 0) ai (fun _ _=>rfl)) ac)) (bJ (aq SO hr rfl (aa (au av (pv 0) ai (fun _ _=>rfl)) ac)))))) ay)
   (af (aQ (bf (aq HD hr1 rfl (aa (pv 0) (aa ak (aa ai ac))))) (ah (al (bE (aq IN hr3 rfl (aa (au av (pv 0) ai (fun _ _=>rfl)) ac)) (bE (aZ (gQ bO (xN hr)) (au av (pv 0) ai (fun _ _=>rfl)) (wX OP hr1 rfl) rfl) (bE (aq SO hr rfl (aa (au av (pv 0) ai (fun _ _=>rfl)) ac)) (bJ (aq SO hr rfl (aa (au av (pv 0) ai (fun _ _=>rfl)) ac)))))))) ay)
   (af (aQ (PW.pt (cA (bf (aq HD hr1 rfl (aa (pv 0) (aa ak (aa ai ac))))) (bY (bf (aq HD hr1 rfl (aa (pv 0) (aa ak (aa ai ac)))))))) (ah (al (bE (aq SE hr rfl (aa (au av (pv 0) ai (fun _ _=>rfl)) ac)) (bJ (aq SO hr rfl (aa (au av (pv 0) ai (fun _ _=>rfl)) ac)))))) ay)
   (ah (al (bE (aq HD hr1 rfl (aa (pv 0) (aa ak (aa ai ac)))) (bE (aq SO hr rfl (aa (au av (pv 0) ai (fun _ _=>rfl)) ac)) (bJ (aq SO hr rfl (aa (au av (pv 0) ai (fun _ _=>rfl)) ac)))))))))),?_⟩
  have fin:∀ b H',stepOk t=b->Same H H'->Q (.bl b) H':=fun b H' e s=>e ▸ q H' s
  refine ⟨_,rfl,p,v,t,"get",3,rfl,tv,hgt,fun z=>absurd z (by decide),by decide,by decide +kernel,_,rfl,bN (fun h1=>?_) (fun h1=>?_)⟩
  ·obtain ⟨a,xs,rfl,e,ag⟩:=hd_arg tv h1
   obtain ⟨u1,e1,t1⟩:=ag 1 (by decide)
   obtain ⟨u2,e2,t2⟩:=ag 2 (by decide)
   have eS:stepOk t=(wn 0 7 (arg 1 t) && (selOk (arg 2 t))):=by unfold stepOk;simp [h1]
   exact ⟨_,rfl,a,_,_,_,rfl,rfl,SqT.of e,aJ (j:=1) e1,p,_,_,rfl,t1,_,rfl,bN (fun g0=>⟨_,rfl,a,_,_,_,rfl,rfl,SqT.of e,aJ (j:=2) e2,p,_,_,rfl,t2,hga 2,fin _ _ (by rw [eS];simp [g0]) (Same.refl _)⟩) (fun g0=>fin false _ (by rw [eS];simp [B5.mpr g0]) (Same.refl _))⟩
  ·skip
   refine ⟨_,rfl,p,v,t,"ask",3,rfl,tv,hgt,fun z=>absurd z (by decide),by decide,by decide +kernel,_,rfl,bN (fun h2=>?_) (fun h2=>?_)⟩
   ·obtain ⟨a,xs,rfl,e,ag⟩:=hd_arg tv h2
    obtain ⟨u1,e1,t1⟩:=ag 1 (by decide)
    obtain ⟨u2,e2,t2⟩:=ag 2 (by decide)
    have eS:stepOk t=(wn 0 7 (arg 1 t) && (selOk (arg 2 t))):=by unfold stepOk;simp [h1,h2]
    exact ⟨_,rfl,a,_,_,_,rfl,rfl,SqT.of e,aJ (j:=1) e1,p,_,_,rfl,t1,_,rfl,bN (fun g0=>⟨_,rfl,a,_,_,_,rfl,rfl,SqT.of e,aJ (j:=2) e2,p,_,_,rfl,t2,hga 2,fin _ _ (by rw [eS];simp [g0]) (Same.refl _)⟩) (fun g0=>fin false _ (by rw [eS];simp [B5.mpr g0]) (Same.refl _))⟩
   ·skip
    refine ⟨_,rfl,p,v,t,"cell",3,rfl,tv,hgt,fun z=>absurd z (by decide),by decide,by decide +kernel,_,rfl,bN (fun h3=>?_) (fun h3=>?_)⟩
    ·obtain ⟨a,xs,rfl,e,ag⟩:=hd_arg tv h3
     obtain ⟨u1,e1,t1⟩:=ag 1 (by decide)
     obtain ⟨u2,e2,t2⟩:=ag 2 (by decide)
     have eS:stepOk t=(wn 0 7 (arg 1 t) && (srcOk (arg 2 t))):=by unfold stepOk;simp [h1,h2,h3]
     exact ⟨_,rfl,a,_,_,_,rfl,rfl,SqT.of e,aJ (j:=1) e1,p,_,_,rfl,t1,_,rfl,bN (fun g0=>⟨_,rfl,a,_,_,_,rfl,rfl,SqT.of e,aJ (j:=2) e2,p,_,_,rfl,t2,hga 2,fin _ _ (by rw [eS];simp [g0]) (Same.refl _)⟩) (fun g0=>fin false _ (by rw [eS];simp [B5.mpr g0]) (Same.refl _))⟩
    ·skip
     refine ⟨_,rfl,p,v,t,"two",5,rfl,tv,hgt,fun z=>absurd z (by decide),by decide,by decide +kernel,_,rfl,bN (fun h4=>?_) (fun h4=>?_)⟩
     ·obtain ⟨a,xs,rfl,e,ag⟩:=hd_arg tv h4
      obtain ⟨u1,e1,t1⟩:=ag 1 (by decide)
      obtain ⟨u2,e2,t2⟩:=ag 2 (by decide)
      obtain ⟨u3,e3,t3⟩:=ag 3 (by decide)
      obtain ⟨u4,e4,t4⟩:=ag 4 (by decide)
      have eS:stepOk t=(wn 0 7 (arg 1 t) && (opOk (arg 2 t) && (srcOk (arg 3 t) && (srcOk (arg 4 t))))):=by unfold stepOk;simp [h1,h2,h3,h4]
      exact ⟨_,rfl,a,_,_,_,rfl,rfl,SqT.of e,aJ (j:=1) e1,p,_,_,rfl,t1,_,rfl,bN (fun g0=>⟨_,rfl,a,_,_,_,rfl,rfl,SqT.of e,aJ (j:=2) e2,rfl,fun l nl=>by
        generalize zz:aC H l _=H1
        have s1:Same H H1:=zz ▸ ae nl
        have el:H1 l=some (.lst (opsL.map V.str)):=zz ▸ ad
        clear zz
        exact op_thing (t2.same s1) el ⟨_,rfl,bN (fun g1=>⟨_,rfl,a,_,_,_,rfl,rfl,SqT.of (s1 _ _ e),aJ (j:=3) e3,p,_,_,rfl,t3.same s1,hga 3,_,rfl,bN (fun g2=>⟨_,rfl,a,_,_,_,rfl,rfl,SqT.of (s1 _ _ e),aJ (j:=4) e4,p,_,_,rfl,t4.same s1,hga 4,fin _ _ (by rw [eS];simp [g0,g1,g2]) (s1)⟩) (fun g2=>fin false _ (by rw [eS];simp [g0,g1,B5.mpr g2]) (s1))⟩) (fun g1=>fin false _ (by rw [eS];simp [g0,B5.mpr g1]) s1)⟩⟩) (fun g0=>fin false _ (by rw [eS];simp [B5.mpr g0]) (Same.refl _))⟩
     ·skip
      refine ⟨_,rfl,p,v,t,"put",3,rfl,tv,hgt,fun z=>absurd z (by decide),by decide,by decide +kernel,_,rfl,bN (fun h5=>?_) (fun h5=>?_)⟩
      ·obtain ⟨a,xs,rfl,e,ag⟩:=hd_arg tv h5
       obtain ⟨u1,e1,t1⟩:=ag 1 (by decide)
       obtain ⟨u2,e2,t2⟩:=ag 2 (by decide)
       have eS:stepOk t=(selOk (arg 1 t) && (srcOk (arg 2 t))):=by unfold stepOk;simp [h1,h2,h3,h4,h5]
       exact ⟨_,rfl,a,_,_,_,rfl,rfl,SqT.of e,aJ (j:=1) e1,p,_,_,rfl,t1,hga 1,_,rfl,bN (fun g0=>⟨_,rfl,a,_,_,_,rfl,rfl,SqT.of e,aJ (j:=2) e2,p,_,_,rfl,t2,hga 2,fin _ _ (by rw [eS];simp [g0]) (Same.refl _)⟩) (fun g0=>fin false _ (by rw [eS];simp [B5.mpr g0]) (Same.refl _))⟩
      ·skip
       refine ⟨_,rfl,p,v,t,"tell",3,rfl,tv,hgt,fun z=>absurd z (by decide),by decide,by decide +kernel,_,rfl,bN (fun h6=>?_) (fun h6=>?_)⟩
       ·obtain ⟨a,xs,rfl,e,ag⟩:=hd_arg tv h6
        obtain ⟨u1,e1,t1⟩:=ag 1 (by decide)
        obtain ⟨u2,e2,t2⟩:=ag 2 (by decide)
        have eS:stepOk t=(selOk (arg 1 t) && (srcOk (arg 2 t))):=by unfold stepOk;simp [h1,h2,h3,h4,h5,h6]
        exact ⟨_,rfl,a,_,_,_,rfl,rfl,SqT.of e,aJ (j:=1) e1,p,_,_,rfl,t1,hga 1,_,rfl,bN (fun g0=>⟨_,rfl,a,_,_,_,rfl,rfl,SqT.of e,aJ (j:=2) e2,p,_,_,rfl,t2,hga 2,fin _ _ (by rw [eS];simp [g0]) (Same.refl _)⟩) (fun g0=>fin false _ (by rw [eS];simp [B5.mpr g0]) (Same.refl _))⟩
       ·skip
        refine ⟨_,rfl,p,v,t,"store",3,rfl,tv,hgt,fun z=>absurd z (by decide),by decide,by decide +kernel,_,rfl,bN (fun h7=>?_) (fun h7=>?_)⟩
        ·obtain ⟨a,xs,rfl,e,ag⟩:=hd_arg tv h7
         obtain ⟨u1,e1,t1⟩:=ag 1 (by decide)
         obtain ⟨u2,e2,t2⟩:=ag 2 (by decide)
         have eS:stepOk t=(srcOk (arg 1 t) && (srcOk (arg 2 t))):=by unfold stepOk;simp [h1,h2,h3,h4,h5,h6,h7]
         exact ⟨_,rfl,a,_,_,_,rfl,rfl,SqT.of e,aJ (j:=1) e1,p,_,_,rfl,t1,hga 1,_,rfl,bN (fun g0=>⟨_,rfl,a,_,_,_,rfl,rfl,SqT.of e,aJ (j:=2) e2,p,_,_,rfl,t2,hga 2,fin _ _ (by rw [eS];simp [g0]) (Same.refl _)⟩) (fun g0=>fin false _ (by rw [eS];simp [B5.mpr g0]) (Same.refl _))⟩
        ·skip
         exact fin false _ (by unfold stepOk;simp [h1,h2,h3,h4,h5,h6,h7]) (Same.refl _)
end
def ownS:List Str:=["word","cells","depth","places","marks","gate","kind","place","mark","number","row","set","if","else","top","next","go","call","back","stop","fault","bell"]
def ownV:List V:=ownS.map V.str
def letST:Str:="abcdefghijklmnopqrstuvwxyz"
def letLT:List Nat:=(List.range 26).map (97+·)
theorem let_ST:letST=S letLT:=by decide +kernel
theorem let_memT (c:Nat):c∈letLT↔97<=c/\c<=122:=by
 unfold letLT
 rw [CM]
 constructor
 ·rintro ⟨a,h,rfl⟩
  rw [CZ] at h
  lia
 ·exact fun h=>⟨c - 97,CZ.mpr (by lia),by lia⟩
def isOwn (l:List Nat):Bool:=eQ (.str (S l)) ownV
def isLet (c:Nat):Bool:=decide (97<=c) && decide (c<=122)
def nameB (l:List Nat):Bool:=!isOwn l && (decide (1<=l.length) && decide (l.length<=8) && l.all isLet)
theorem ownV_flat:ownV.all cO=true:=by decide +kernel
def nameT:Th->Bool
 | .str z=>nameB z.cps.toList
 | _=>false
def spName:Sp:=fun vs H Q _=>∃ (p:Addr) (v:V) (t:Th),vs=[v]/\TgV p H v t/\(∀ z,t=.str z->z.cps.toList.length<=1000)/\∀ H',Same H H'->Q (.bl (nameT t)) H'
structure CstNT (K:ZF) (mg:Str->Option Value) (aO:Addr) (tL tN:Tok):Prop where
 own:mg "OWN_WORDS"=some (.ref aO)
 sq:∀ H,SqT K H aO ownV
 lets:mg "LETTERS"=some (.str letST tL)
 lng:mg "LONGEST_NAME"=some (.int 8 tN)
def fauS:List Str:=["deep","bare"]
def notF:Th->Bool
 | .str z=>!fauS.contains z
 | _=>false
def endOk (t:Th):Bool:=if hd "go" 2 t || hd "call" 2 t then wn 0 2 (arg 1 t) else if hd "fault" 2 t then nameT (arg 1 t) && notF (arg 1 t) else (hd "next" 1 t || (hd "back" 1 t || hd "stop" 1 t))
def onOk (t:Th):Bool:=if hd "on" 2 t then wn 0 399 (arg 1 t) else if hd "some" 4 t || hd "top" 4 t then wn 0 7 (arg 1 t) && (wn 0 399 (arg 2 t) && wn 0 399 (arg 3 t)) else (hd "done" 2 t && endOk (arg 1 t))
def littleOk:Th->Bool
 | .tup [.tup ss,on]=>decide (ss.length<=16) && (ss.all stepOk && onOk on)
 | _=>false
def EndG (t:Th):Prop:=hg t=true/\hg1 t=true/\∀ z,arg 1 t=.str z->z.cps.toList.length<=1000
def OnG (t:Th):Prop:=hg t=true/\EndG (arg 1 t)
section
variable {P:Program} {w:World} {K:ZF} {mg:Str->Option Value} {base:Heap} {aO:Addr} {t1 t2 t3 t4 t5 t6:Tok} {fs:Str->V}
theorem scNameT:am ["thing"] ["thing"] (aj iz):=bG (by decide +kernel)
theorem ndSgT:(["sign"]:List Str).Nodup:=by decide +kernel
variable {fd:FuncData} {f:Addr}
theorem ok_nameT {tL tN:Tok} (F:Fun K "is_name" "is_name" iz f fd) (T:Bl mg) (C:CstNT K mg aO tL tN):FnOk P w K mg base bu 1 f fd ["thing"] spName:=by
 have ZZ:=scNameT
 walk_at "o"
 ·obtain ⟨p,x,t,rfl,tv,hz,q⟩:=h
  refine ⟨_,af (aQ (PW.pt (cA (cf (bf (aA (cJ (T:="str")) (by rfl) T.isinstance bL (aa (pv 0) (aa (pe_ty (by rfl) T.str eV) ac)))))
    (bY (ax bO (pv 0) (aX (v:=.ref aO) rfl C.own rfl) rfl)))) (ah (al df)) ay)
   (ah (al (bE (fQ dW dW ai (aA bQ (by rfl) T.len B7 (aa (pv 0) ac)) (aX (v:=.int 8) rfl C.lng ⟨_,rfl⟩))
    (bJ (aA (dA rfl) (by rfl) T.all cZ (aa (fk (N':=["sign"]) (ix:=[none]) (sc0:=aj iz) (N:=["thing"]) rfl (by decide +kernel) (mt (pv 0))
     (fun C' cl s H fp=>aI (i:=0) ndSgT rfl (Or.inl rfl) (.inr rfl)) (fun _ _ _ _ _=>cw) (fun C' cl s H fp=>aZ dn (pv 0) (aX (v:=.str letST) rfl C.lets ⟨_,rfl⟩) rfl)) ac)))))),?_⟩
  refine ⟨_,rfl,x,_,_,rfl,tv.ty,kit_str t,_,rfl,?_⟩
  by_cases ht:t.isStr=true
  ·cases tv with
   | str z=>
    have hl:=hz z rfl
    rw [show nameT (.str z)=nameB z.cps.toList from rfl] at q
    generalize hzl:z.cps.toList=l at *
    have hzS:z=S l:=by rw [<-hzl];exact uj z
    subst hzS
    have sz:(100000:Nat)<=sizeLine:=by decide
    refine bz ⟨_,rfl,aO,ownV,rfl,.inr (C.sq H),rfl,ownV_flat,_,rfl,?_⟩
    refine bN (fun h=>?_) (fun h=>?_)
    ·have h':isOwn l=true:=h
     have:=q H (Same.refl _)
     unfold nameB at this
     rw [h',Bool.not_true,Bool.false_and] at this
     exact this
    ·have h':isOwn l=false:=B5.mpr h
     have q':∀ H',Same H H'->Q (.bl (decide (1<=l.length) && decide (l.length<=8) && l.all isLet)) H':=fun H' s'=>by
      have:=q H' s'
      unfold nameB at this
      rw [h',Bool.not_false,Bool.true_and] at this
      exact this
     refine ⟨_,rfl,S l,rfl,(by rw [bK];lia),_,_,rfl,rfl,_,rfl,?_⟩
     rw [bK]
     by_cases c1:1<=l.length
     ·refine bj (decide_eq_true (by lia)) ⟨_,_,rfl,rfl,_,rfl,?_⟩
      by_cases c2:l.length<=8
      ·refine bj (decide_eq_true (by lia)) ⟨_,rfl,l,rfl,?_⟩
       refine mv (fun i ys H'=>ys=(l.take i).map (fun c=>V.bl (isLet c))/\Same H H') ⟨rfl,Same.refl _⟩ (fun i ys H' hi ⟨e,_⟩=>by rw [e,BJ,BX];lia) ?_ ?_
       ·rintro i ys H' hi ⟨rfl,s'⟩
        refine ⟨trivial,cE ?_⟩
        refine ⟨_,rfl,S [l[i]],_,rfl,rfl,?_⟩
        rw [let_ST,eT]
        refine Nx.mk hi ⟨?_,s'⟩
        rw [<-List.take_append_getElem hi,BR]
        congr 2
        show V.bl _=V.bl (isLet l[i])
        congr 1
        unfold isLet
        rw [CH,decide_eq_true_iff,CO,decide_eq_true_iff,decide_eq_true_iff]
        exact let_memT _
       ·rintro ys H' ⟨rfl,s'⟩ D hD
        refine ⟨D,l.map isLet,rfl,SqL.of ?_,?_⟩
        ·rw [ad,Cg,C7]
         rfl
        ·have:=q' _ (s'.trans (ae (o:=.lst ((l.take l.length).map (fun c=>V.bl (isLet c)))) hD))
         rw [decide_eq_true c1,decide_eq_true c2,Bool.true_and,Bool.true_and] at this
         rw [Df]
         exact this
      ·refine aP (decide_eq_false (by lia)) ?_
       have:=q' H (Same.refl _)
       rw [decide_eq_false c2,Bool.and_false,Bool.false_and] at this
       exact this
     ·refine aP (decide_eq_false (by lia)) ⟨_,rfl,bz ?_⟩
      have:=q' H (Same.refl _)
      rw [decide_eq_false c1,Bool.false_and,Bool.false_and] at this
      exact this
   | non=>cases ht
   | int _=>cases ht
   | tup _ _=>cases ht
   | lst _ _ _=>cases ht
   | dct _ _=>cases ht
  ·have ht':t.isStr=false:=B5.mpr ht
   rw [ht']
   refine cQ ?_
   have:=q H (Same.refl _)
   cases tv with
   | str _=>exact absurd rfl ht
   | non=>exact this
   | int _=>exact this
   | tup _ _=>exact this
   | lst _ _ _=>exact this
   | dct _ _=>exact this
theorem scIsEnd:am ["thing"] ["thing"] (aj nh):=bG (by decide +kernel)
theorem ok_isEnd {f aF:Addr} (F:Fun K "is_end" "is_end" nh f fd) (hF:mg "OWN_FAULTS"=some (.ref aF)) (sF:∀ H,SqT K H aF (fauS.map V.str)) (HD:Fn P w K mg base "is_headed" 1 ["thing","word","many"] spHeaded) (FI:Fn P w K mg base "is_field" 3 ["thing"] (spTo 2)) (NM:Fn P w K mg base "is_name" 1 ["thing"] spName) :
  FnOk P w K mg base bu 4 f fd ["thing"] (spAsk endOk EndG):=by
 have ZZ:=scIsEnd
 walk_at "o"
 ·obtain ⟨p,v,t,rfl,tv,⟨hgt,hg1t,hgn⟩,q⟩:=h
  have hr1:Room 1 _:=hr.mono (by decide)
  refine ⟨_,af (aQ (PW.pt (cA (bf (aq HD hr1 rfl (aa (pv 0) (aa ak (aa ai ac))))) (bY (bf (aq HD hr1 rfl (aa (pv 0) (aa ak (aa ai ac)))))))) (ah (al (aq FI hr rfl (aa (au av (pv 0) ai (fun _ _=>rfl)) ac)))) ay)
   (af (aQ (bf (aq HD hr1 rfl (aa (pv 0) (aa ak (aa ai ac))))) (ah (al (bE (aq NM hr1 rfl (aa (au av (pv 0) ai (fun _ _=>rfl)) ac)) (bJ (aZ cD (au av (pv 0) ai (fun _ _=>rfl)) (aX (v:=.ref aF) rfl hF rfl) rfl))))) ay)
   (ah (al (pO (aq HD hr1 rfl (aa (pv 0) (aa ak (aa ai ac)))) (pO (aq HD hr1 rfl (aa (pv 0) (aa ak (aa ai ac)))) (bJ (aq HD hr1 rfl (aa (pv 0) (aa ak (aa ai ac)))))))))),?_⟩
  have fin:∀ b H',endOk t=b->Same H H'->Q (.bl b) H':=fun b H' e s=>e ▸ q H' s
  refine ⟨_,rfl,p,v,t,"go",2,rfl,tv,hgt,fun z=>absurd z (by decide),by decide,by decide +kernel,_,rfl,bN (fun h1=>?_) (fun h1=>?_)⟩
  ·obtain ⟨a,xs,rfl,e,ag⟩:=hd_arg tv h1
   obtain ⟨u1,e1,t1⟩:=ag 1 (by decide)
   have eS:endOk t=wn 0 2 (arg 1 t):=by unfold endOk;simp [h1]
   exact ⟨_,rfl,a,_,_,_,rfl,rfl,SqT.of e,aJ (j:=1) e1,p,_,_,rfl,t1,fin _ _ (by rw [eS]) (Same.refl _)⟩
  ·skip
   refine ⟨_,rfl,p,v,t,"call",2,rfl,tv,hgt,fun z=>absurd z (by decide),by decide,by decide +kernel,_,rfl,bN (fun h2=>?_) (fun h2=>?_)⟩
   ·obtain ⟨a,xs,rfl,e,ag⟩:=hd_arg tv h2
    obtain ⟨u1,e1,t1⟩:=ag 1 (by decide)
    have eS:endOk t=wn 0 2 (arg 1 t):=by unfold endOk;simp [h1,h2]
    exact ⟨_,rfl,a,_,_,_,rfl,rfl,SqT.of e,aJ (j:=1) e1,p,_,_,rfl,t1,fin _ _ (by rw [eS]) (Same.refl _)⟩
   ·skip
    refine ⟨_,rfl,p,v,t,"fault",2,rfl,tv,hgt,fun z=>absurd z (by decide),by decide,by decide +kernel,_,rfl,bN (fun h3=>?_) (fun h3=>?_)⟩
    ·obtain ⟨a,xs,rfl,e,ag⟩:=hd_arg tv h3
     obtain ⟨u1,e1,t1⟩:=ag 1 (by decide)
     have eS:endOk t=(nameT (arg 1 t) && notF (arg 1 t)):=by unfold endOk;simp [h1,h2,h3]
     refine ⟨_,rfl,a,_,_,_,rfl,rfl,SqT.of e,aJ (j:=1) e1,p,_,_,rfl,t1,hgn,fun H1 s1=>⟨_,rfl,bN (fun g=>?_) (fun g=>?_)⟩⟩
     ·generalize hx:arg 1 t=x at *
      cases t1 with
      | str z=>
       refine ⟨_,rfl,a,_,_,_,rfl,rfl,SqT.of (s1 _ _ e),aJ (j:=1) e1,aF,_,rfl,.inr (sF H1),rfl,by decide +kernel,?_⟩
       refine fin _ _ ?_ s1
       rw [eS,g,Bool.true_and]
       show (!fauS.contains z)=(if true=true then !eQ (.str z) (fauS.map V.str) else eQ (.str z) (fauS.map V.str))
       rw [if_pos rfl,inV_str]
      | non=>cases g
      | int _=>cases g
      | tup _ _=>cases g
      | lst _ _ _=>cases g
      | dct _ _=>cases g
     ·exact fin false _ (by rw [eS,B5.mpr g,Bool.false_and]) s1
    ·have eS:endOk t=(hd "next" 1 t || (hd "back" 1 t || hd "stop" 1 t)):=by unfold endOk;simp [h1,h2,h3]
     refine ⟨_,rfl,p,v,t,"next",1,rfl,tv,hgt,fun _=>hg1t,by decide,by decide +kernel,_,rfl,bN (fun h4=>?_) (fun h4=>?_)⟩
     ·exact fin true _ (by rw [eS,h4];rfl) (Same.refl _)
     ·refine ⟨_,rfl,p,v,t,"back",1,rfl,tv,hgt,fun _=>hg1t,by decide,by decide +kernel,_,rfl,bN (fun h5=>?_) (fun h5=>?_)⟩
      ·exact fin true _ (by rw [eS];simp [h5]) (Same.refl _)
      ·exact ⟨_,rfl,p,v,t,"stop",1,rfl,tv,hgt,fun _=>hg1t,by decide,by decide +kernel,fin _ _ (by rw [eS];simp [h4,h5]) (Same.refl _)⟩
theorem scWayOn:am ["thing"] ["thing"] (aj ni):=bG (by decide +kernel)
theorem ok_wayOn (F:Fun K "is_way_on" "is_way_on" ni f fd) (HD:Fn P w K mg base "is_headed" 1 ["thing","word","many"] spHeaded) (AD:Fn P w K mg base "is_address" 3 ["thing"] (spTo 399)) (IN:Fn P w K mg base "is_inner" 3 ["thing"] (spTo 7)) (EN:Fn P w K mg base "is_end" 4 ["thing"] (spAsk endOk EndG)) :
  FnOk P w K mg base bu 5 f fd ["thing"] (spAsk onOk OnG):=by
 have ZZ:=scWayOn
 walk_at "o"
 ·obtain ⟨p,v,t,rfl,tv,⟨hgt,hge⟩,q⟩:=h
  have hr1:Room 1 _:=hr.mono (by decide)
  have hr3:Room 3 _:=hr.mono (by decide)
  refine ⟨_,af (aQ (bf (aq HD hr1 rfl (aa (pv 0) (aa ak (aa ai ac))))) (ah (al (aq AD hr3 rfl (aa (au av (pv 0) ai (fun _ _=>rfl)) ac)))) ay)
   (af (aQ (PW.pt (cA (bf (aq HD hr1 rfl (aa (pv 0) (aa ak (aa ai ac))))) (bY (bf (aq HD hr1 rfl (aa (pv 0) (aa ak (aa ai ac)))))))) (ah (al (bE (aq IN hr3 rfl (aa (au av (pv 0) ai (fun _ _=>rfl)) ac)) (bE (aq AD hr3 rfl (aa (au av (pv 0) ai (fun _ _=>rfl)) ac)) (bJ (aq AD hr3 rfl (aa (au av (pv 0) ai (fun _ _=>rfl)) ac))))))) ay)
   (ah (al (bE (aq HD hr1 rfl (aa (pv 0) (aa ak (aa ai ac)))) (bJ (aq EN hr rfl (aa (au av (pv 0) ai (fun _ _=>rfl)) ac))))))),?_⟩
  have fin:∀ b H',onOk t=b->Same H H'->Q (.bl b) H':=fun b H' e s=>e ▸ q H' s
  refine ⟨_,rfl,p,v,t,"on",2,rfl,tv,hgt,fun z=>absurd z (by decide),by decide,by decide +kernel,_,rfl,bN (fun h1=>?_) (fun h1=>?_)⟩
  ·obtain ⟨a,xs,rfl,e,ag⟩:=hd_arg tv h1
   obtain ⟨u1,e1,t1⟩:=ag 1 (by decide)
   have eS:onOk t=(wn 0 399 (arg 1 t)):=by unfold onOk;simp [h1]
   exact ⟨_,rfl,a,_,_,_,rfl,rfl,SqT.of e,aJ (j:=1) e1,p,_,_,rfl,t1,fin _ _ (by rw [eS]) (Same.refl _)⟩
  ·skip
   refine ⟨_,rfl,p,v,t,"some",4,rfl,tv,hgt,fun z=>absurd z (by decide),by decide,by decide +kernel,_,rfl,bN (fun h2=>?_) (fun h2=>?_)⟩
   ·obtain ⟨a,xs,rfl,e,ag⟩:=hd_arg tv h2
    obtain ⟨u1,e1,t1⟩:=ag 1 (by decide)
    obtain ⟨u2,e2,t2⟩:=ag 2 (by decide)
    obtain ⟨u3,e3,t3⟩:=ag 3 (by decide)
    have eS:onOk t=(wn 0 7 (arg 1 t) && (wn 0 399 (arg 2 t) && wn 0 399 (arg 3 t))):=by unfold onOk;simp [h1,h2]
    exact ⟨_,rfl,a,_,_,_,rfl,rfl,SqT.of e,aJ (j:=1) e1,p,_,_,rfl,t1,_,rfl,bN (fun g0=>⟨_,rfl,a,_,_,_,rfl,rfl,SqT.of e,aJ (j:=2) e2,p,_,_,rfl,t2,_,rfl,bN (fun g1=>⟨_,rfl,a,_,_,_,rfl,rfl,SqT.of e,aJ (j:=3) e3,p,_,_,rfl,t3,fin _ _ (by rw [eS];simp [g0,g1]) (Same.refl _)⟩) (fun g1=>fin false _ (by rw [eS];simp [g0,B5.mpr g1]) (Same.refl _))⟩) (fun g0=>fin false _ (by rw [eS];simp [B5.mpr g0]) (Same.refl _))⟩
   ·skip
    refine ⟨_,rfl,p,v,t,"top",4,rfl,tv,hgt,fun z=>absurd z (by decide),by decide,by decide +kernel,_,rfl,bN (fun h3=>?_) (fun h3=>?_)⟩
    ·obtain ⟨a,xs,rfl,e,ag⟩:=hd_arg tv h3
     obtain ⟨u1,e1,t1⟩:=ag 1 (by decide)
     obtain ⟨u2,e2,t2⟩:=ag 2 (by decide)
     obtain ⟨u3,e3,t3⟩:=ag 3 (by decide)
     have eS:onOk t=(wn 0 7 (arg 1 t) && (wn 0 399 (arg 2 t) && wn 0 399 (arg 3 t))):=by unfold onOk;simp [h1,h2,h3]
     exact ⟨_,rfl,a,_,_,_,rfl,rfl,SqT.of e,aJ (j:=1) e1,p,_,_,rfl,t1,_,rfl,bN (fun g0=>⟨_,rfl,a,_,_,_,rfl,rfl,SqT.of e,aJ (j:=2) e2,p,_,_,rfl,t2,_,rfl,bN (fun g1=>⟨_,rfl,a,_,_,_,rfl,rfl,SqT.of e,aJ (j:=3) e3,p,_,_,rfl,t3,fin _ _ (by rw [eS];simp [g0,g1]) (Same.refl _)⟩) (fun g1=>fin false _ (by rw [eS];simp [g0,B5.mpr g1]) (Same.refl _))⟩) (fun g0=>fin false _ (by rw [eS];simp [B5.mpr g0]) (Same.refl _))⟩
    ·skip
     have eS:onOk t=(hd "done" 2 t && endOk (arg 1 t)):=by unfold onOk;simp [h1,h2,h3]
     refine ⟨_,rfl,p,v,t,"done",2,rfl,tv,hgt,fun z=>absurd z (by decide),by decide,by decide +kernel,_,rfl,bN (fun h4=>?_) (fun h4=>?_)⟩
     ·obtain ⟨a,xs,rfl,e,ag⟩:=hd_arg tv h4
      obtain ⟨u1,e1,t1⟩:=ag 1 (by decide)
      exact ⟨_,rfl,a,_,_,_,rfl,rfl,SqT.of e,aJ (j:=1) e1,p,_,_,rfl,t1,hge,fun H1 s1=>fin _ _ (by rw [eS,h4,Bool.true_and]) s1⟩
     ·exact fin false _ (by rw [eS,B5.mpr h4,Bool.false_and]) (Same.refl _)
end
def LitG (t:Th):Prop:=∀ ss on,t=.tup [.tup ss,on]->(∀ s∈ss,HgA s)/\OnG on/\ss.length<=1000
theorem lit_no {ts:List Th} (h:ts.length≠2):littleOk (.tup ts)=false:=by
 match ts with
 | []=>rfl
 | [a]=>cases a<;>rfl
 | [a,b]=>exact absurd rfl h
 | a::b::c::r=>cases a<;>rfl
theorem TgA.two {p:Addr} {H:Hp} {xs:List V} {ts:List Th} (h:TgA p H xs ts) (l:ts.length=2):∃ x y tx ty,xs=[x,y]/\ts=[tx,ty]/\TgV p H x tx/\TgV p H y ty:=by
 cases h with
 | nil=>cases l
 | cons a h=>
  cases h with
  | nil=>cases l
  | cons b h=>
   cases h with
   | nil=>exact ⟨_,_,_,_,rfl,rfl,a,b⟩
   | cons c h=>simp at l
section
variable {P:Program} {w:World} {K:ZF} {mg:Str->Option Value} {base:Heap} {aO:Addr} {t1 t2 t3 t4 t5 t6:Tok} {fs:Str->V}
theorem scIsLittle:am ["thing","steps","on"] ["thing"] (aj fb):=bG (by decide +kernel)
theorem ndLit:(["step"]:List Str).Nodup:=by decide +kernel
theorem ok_isLittle {f:Addr} {fd:FuncData} (F:Fun K "is_little" "is_little" fb f fd) (B:Bl mg) (C:Cst K mg w aO t1 t2 t3 t4 t5 t6 fs) (IS:Fn P w K mg base "is_step" 5 ["thing"] (spAsk stepOk HgA)) (WO:Fn P w K mg base "is_way_on" 5 ["thing"] (spAsk onOk OnG)) :
  FnOk P w K mg base bu 6 f fd ["thing"] (spAsk littleOk LitG):=by
 have ZZ:=scIsLittle
 walk_at "o"
 ·obtain ⟨p,v,t,rfl,tv,lg,q⟩:=h
  have sz:(100000:Nat)<=sizeLine:=by decide
  refine ⟨_,af (aQ (PW.pt (cA (cf (bf (aA (cJ (T:="tuple")) (by rfl) B.isinstance bL (aa (pv 0) (aa (pe_ty (by rfl) B.tuple bq) ac))))) (bY (ax nF (aA aT (by rfl) B.len B7 (aa (pv 0) ac)) ai (az _))))) (ah (al df)) ay)
   (af (ig (pv 0) (c9 rfl (aR (aI (i:=1) scIsLittle.nd rfl (Or.inl rfl)) (aR (aI (i:=2) scIsLittle.nd rfl (Or.inl rfl)) cg))))
   (af (aQ (PW.pt (cA (cf (bf (aA (cJ (T:="tuple")) (by rfl) B.isinstance bL (aa (pv 1) (aa (pe_ty (by rfl) B.tuple bq) ac))))) (bY (ax nG (aA aT (by rfl) B.len B7 (aa (pv 1) ac)) (aX (v:=.int 16) rfl C.steps ⟨_,rfl⟩) (az _))))) (ah (al df)) ay)
   (ah (al (bE (aA (dA rfl) (by rfl) B.all cZ (aa (fk (N':=["step"]) (ix:=[none]) (sc0:=aj fb) (N:=["thing","steps","on"]) rfl (by decide +kernel) (dj (pv 1))
     (fun C' cl s H fp=>aI (i:=0) ndLit rfl (Or.inl rfl) (.inr rfl)) (fun _ _ _ _ _=>cw) (fun C' cl s H fp=>aq IS hr rfl (aa (pv 0) ac))) ac)) (bJ (aq WO hr rfl (aa (pv 2) ac)))))))),?_⟩
  have fin:∀ b H',littleOk t=b->Same H H'->Q (.bl b) H':=fun b H' e s=>e ▸ q H' s
  refine ⟨_,rfl,v,_,_,rfl,tv.ty,kit_tup t,_,rfl,?_⟩
  cases tv with
  | non=>exact cQ (fin false _ rfl (Same.refl _))
  | int _=>exact cQ (fin false _ rfl (Same.refl _))
  | str _=>exact cQ (fin false _ rfl (Same.refl _))
  | lst _ _ _=>exact cQ (fin false _ rfl (Same.refl _))
  | dct _ _=>exact cQ (fin false _ rfl (Same.refl _))
  | @tup a xs ts e ta=>
   have hl:=ta.length
   refine bz ⟨_,rfl,a,_,rfl,.inr (SqT.of e),rfl,_,rfl,?_⟩
   rw [dint]
   by_cases h2:ts.length=2
   ·refine aP (by rw [decide_eq_true (by lia)];rfl) ?_
    obtain ⟨x,y,tx,ty,rfl,rfl,hx,hy⟩:=ta.two h2
    ·refine ⟨_,rfl,a,_,rfl,SqT.of e,rfl,_,_,rfl,_,_,rfl,rfl,?_⟩
     refine ⟨_,rfl,x,_,_,rfl,hx.ty,kit_tup tx,_,rfl,?_⟩
     cases hx with
     | non=>exact cQ (fin false _ rfl (Same.refl _))
     | int _=>exact cQ (fin false _ rfl (Same.refl _))
     | str _=>exact cQ (fin false _ rfl (Same.refl _))
     | lst _ _ _=>exact cQ (fin false _ rfl (Same.refl _))
     | dct _ _=>exact cQ (fin false _ rfl (Same.refl _))
     | @tup b us ss eb tb=>
      have hl2:=tb.length
      obtain ⟨l1,l2,l3⟩:=lg ss ty rfl
      have eS:littleOk (.tup [.tup ss,ty])=(decide (ss.length<=16) && (ss.all stepOk && onOk ty)):=rfl
      refine bz ⟨_,rfl,b,_,rfl,.inr (SqT.of eb),_,_,rfl,rfl,_,rfl,?_⟩
      by_cases h16:ss.length<=16
      ·refine aP (decide_eq_false (by lia)) ?_
       rw [decide_eq_true h16,Bool.true_and] at eS
       refine ⟨_,rfl,b,rfl,⟨_,SqT.of eb⟩,?_⟩
       refine gE (K:=K) (a:=b) (xs:=us) (fun i ys H'=>Same H H'/\ys=(ss.take i).map (fun s=>V.bl (stepOk s))) ⟨Same.refl _,rfl⟩ (fun i ys H' hi ⟨s',e'⟩=>⟨SqT.of (s' _ _ eb),by rw [e',BJ,BX];lia⟩) ?_ ?_
       ·rintro i z ys H1 hz ⟨s1,rfl⟩
        have hlt:i < us.length:=(BL.mp hz).1
        obtain ⟨tz,etz,hzt⟩:=tb.get hz
        refine ⟨trivial,cE ⟨_,rfl,p,z,tz,rfl,hzt.same s1,l1 tz (Ca etz),fun H2 s2=>Nx.mk hlt ⟨s1.trans s2,?_⟩⟩⟩
        have et:ss.take (i+1)=ss.take i++[tz]:=by rw [Cj,etz];rfl
        rw [et,BR]
        rfl
       ·rintro ys H1 ⟨s1,rfl⟩ D nD
        rw [hl2,Cg]
        have s2:=ae (o:=.lst (ss.map fun s=>V.bl (stepOk s))) nD
        have e2:(aC H1 D (.lst (ss.map fun s=>V.bl (stepOk s)))) D=some (.lst ((ss.map stepOk).map V.bl)):=by rw [ad,C7];rfl
        generalize aC H1 D (.lst (ss.map fun s=>V.bl (stepOk s)))=H2 at *
        have eA:(ss.map stepOk).all id=ss.all stepOk:=by rw [Df];rfl
        refine ⟨D,ss.map stepOk,rfl,SqL.of e2,_,rfl,?_⟩
        rw [eA]
        refine bN (fun g=>?_) (fun g=>?_)
        ·exact ⟨_,rfl,p,y,ty,rfl,hy.same (s1.trans s2),l2,fun H3 s3=>fin _ _ (by rw [eS,g,Bool.true_and]) ((s1.trans s2).trans s3)⟩
        ·exact fin false _ (by rw [eS,B5.mpr g,Bool.false_and]) (s1.trans s2)
      ·refine bj (decide_eq_true (by lia)) (fin false _ ?_ (Same.refl _))
       rw [eS,decide_eq_false h16,Bool.false_and]
   ·refine bj (by rw [decide_eq_false (by lia)];rfl) (fin false _ (lit_no h2) (Same.refl _))
end
inductive SelT:Th->Prop
 | is (i:Nat):i < 4->SelT (.tup [.str "is",.int i])
 | «by» (i:Nat):i < 3->SelT (.tup [.str "by",.int i])
inductive SrcT:Th->Prop
 | fld (i:Nat):i < 3->SrcT (.tup [.str "field",.int i])
 | num (i:Nat):i < 16777216->SrcT (.tup [.str "number",.int i])
 | inn (i:Nat):i < 8->SrcT (.tup [.str "in",.int i])
inductive StpT:Th->Prop
 | get (k:Nat) {s:Th}:k < 8->SelT s->StpT (.tup [.str "get",.int k,s])
 | ask (k:Nat) {s:Th}:k < 8->SelT s->StpT (.tup [.str "ask",.int k,s])
 | cell (k:Nat) {s:Th}:k < 8->SrcT s->StpT (.tup [.str "cell",.int k,s])
 | two (k:Nat) {o:Str} {a b:Th}:k < 8->o∈opsL->SrcT a->SrcT b->StpT (.tup [.str "two",.int k,.str o,a,b])
 | put {s a:Th}:SelT s->SrcT a->StpT (.tup [.str "put",s,a])
 | tell {s a:Th}:SelT s->SrcT a->StpT (.tup [.str "tell",s,a])
 | store {a b:Th}:SrcT a->SrcT b->StpT (.tup [.str "store",a,b])
theorem SelT.ok {t:Th} (h:SelT t):selOk t=true/\hg t=true:=by
 cases h with
 | is i hi=>exact ⟨by show (decide ((0:Int)<=(i:Int)) && decide ((i:Int)<=3))=true;rw [decide_eq_true (by lia),decide_eq_true (by lia)];rfl,rfl⟩
 | «by» i hi=>exact ⟨by show (decide ((0:Int)<=(i:Int)) && decide ((i:Int)<=2))=true;rw [decide_eq_true (by lia),decide_eq_true (by lia)];rfl,rfl⟩
theorem SrcT.ok {t:Th} (h:SrcT t):srcOk t=true/\hg t=true:=by
 cases h with
 | fld i hi=>exact ⟨by show (decide ((0:Int)<=(i:Int)) && decide ((i:Int)<=2))=true;rw [decide_eq_true (by lia),decide_eq_true (by lia)];rfl,rfl⟩
 | num i hi=>exact ⟨by show (decide ((0:Int)<=(i:Int)) && decide ((i:Int)<=16777215))=true;rw [decide_eq_true (by lia),decide_eq_true (by lia)];rfl,rfl⟩
 | inn i hi=>exact ⟨by show (decide ((0:Int)<=(i:Int)) && decide ((i:Int)<=7))=true;rw [decide_eq_true (by lia),decide_eq_true (by lia)];rfl,rfl⟩
theorem wn7 {k:Nat} (h:k < 8):wn 0 7 (.int k)=true:=by
 show (decide ((0:Int)<=(k:Int)) && decide ((k:Int)<=7))=true
 rw [decide_eq_true (by lia),decide_eq_true (by lia)]
 rfl
theorem hga3 {x y z:Th} (h:hg (.tup [x,y,z])=true) (hx:hg x=true) (hy:hg y=true) (hz:hg z=true):HgA (.tup [x,y,z]):=⟨h,fun i=>by
 match i with
 | 0=>exact hx
 | 1=>exact hy
 | 2=>exact hz
 | i+3=>rfl⟩
theorem hga5 {x y z u v:Th} (h:hg (.tup [x,y,z,u,v])=true) (hx:hg x=true) (hy:hg y=true) (hz:hg z=true) (hu:hg u=true) (hv:hg v=true):HgA (.tup [x,y,z,u,v]):=⟨h,fun i=>by
 match i with
 | 0=>exact hx
 | 1=>exact hy
 | 2=>exact hz
 | 3=>exact hu
 | 4=>exact hv
 | i+5=>rfl⟩
theorem in_opsC {o:Str} (h:o∈opsL):opsL.contains o=true:=CC.mpr h
theorem StpT.ok {t:Th} (h:StpT t):stepOk t=true/\HgA t:=by
 cases h with
 | @get k s hk hs=>
  refine ⟨?_,hga3 rfl rfl rfl hs.ok.2⟩
  show (wn 0 7 (.int k) && selOk s)=true
  rw [wn7 hk,hs.ok.1];rfl
 | @ask k s hk hs=>
  refine ⟨?_,hga3 rfl rfl rfl hs.ok.2⟩
  show (wn 0 7 (.int k) && selOk s)=true
  rw [wn7 hk,hs.ok.1];rfl
 | @cell k s hk hs=>
  refine ⟨?_,hga3 rfl rfl rfl hs.ok.2⟩
  show (wn 0 7 (.int k) && srcOk s)=true
  rw [wn7 hk,hs.ok.1];rfl
 | @two k o a b hk ho ha hb=>
  refine ⟨?_,hga5 rfl rfl rfl rfl ha.ok.2 hb.ok.2⟩
  show (wn 0 7 (.int k) && (opsL.contains o && (srcOk a && srcOk b)))=true
  rw [wn7 hk,in_opsC ho,ha.ok.1,hb.ok.1];rfl
 | @put s a hs ha=>
  refine ⟨?_,hga3 rfl rfl hs.ok.2 ha.ok.2⟩
  show (selOk s && srcOk a)=true
  rw [hs.ok.1,ha.ok.1];rfl
 | @tell s a hs ha=>
  refine ⟨?_,hga3 rfl rfl hs.ok.2 ha.ok.2⟩
  show (selOk s && srcOk a)=true
  rw [hs.ok.1,ha.ok.1];rfl
 | @store a b ha hb=>
  refine ⟨?_,hga3 rfl rfl ha.ok.2 hb.ok.2⟩
  show (srcOk a && srcOk b)=true
  rw [ha.ok.1,hb.ok.1];rfl
def fauG:List Str:=["z","setq","deeply","gogogogo"]
inductive EndT:Th->Prop
 | next:EndT (.tup [.str "next"])
 | go (i:Nat):i < 3->EndT (.tup [.str "go",.int i])
 | call (i:Nat):i < 3->EndT (.tup [.str "call",.int i])
 | back:EndT (.tup [.str "back"])
 | stop:EndT (.tup [.str "stop"])
 | fault (z:Str):z∈fauG->EndT (.tup [.str "fault",.str z])
inductive OnT:Th->Prop
 | two (z:Str) (i a b:Nat):(z="some"\/z="top")->i < 8->a < 400->b < 400->OnT (.tup [.str z,.int i,.int a,.int b])
 | on (a:Nat):a < 400->OnT (.tup [.str "on",.int a])
 | done {e:Th}:EndT e->OnT (.tup [.str "done",e])
theorem fau_ok:∀ z∈fauG,nameB z.cps.toList=true/\fauS.contains z=false/\z.cps.toList.length<=1000:=by decide +kernel
theorem wn2 {k:Nat} (h:k < 3):wn 0 2 (.int k)=true:=by
 show (decide ((0:Int)<=(k:Int)) && decide ((k:Int)<=2))=true
 rw [decide_eq_true (by lia),decide_eq_true (by lia)]
 rfl
theorem wna {k:Nat} (h:k < 400):wn 0 399 (.int k)=true:=by
 show (decide ((0:Int)<=(k:Int)) && decide ((k:Int)<=399))=true
 rw [decide_eq_true (by lia),decide_eq_true (by lia)]
 rfl
theorem EndT.ok {t:Th} (h:EndT t):endOk t=true/\EndG t:=by
 cases h with
 | next=>exact ⟨rfl,rfl,rfl,fun z e=>by cases e⟩
 | go i hi=>exact ⟨wn2 hi,rfl,rfl,fun z e=>by cases e⟩
 | call i hi=>exact ⟨wn2 hi,rfl,rfl,fun z e=>by cases e⟩
 | back=>exact ⟨rfl,rfl,rfl,fun z e=>by cases e⟩
 | stop=>exact ⟨rfl,rfl,rfl,fun z e=>by cases e⟩
 | fault z hz=>
  obtain ⟨a,b,c⟩:=fau_ok z hz
  refine ⟨?_,rfl,rfl,fun z' e=>?_⟩
  ·show (nameB z.cps.toList && !fauS.contains z)=true
   rw [a,b];rfl
  ·have e':Th.str z=.str z':=e
   cases e'
   exact c
theorem endG_int (i:Int):EndG (.int i):=⟨rfl,rfl,fun z e=>by cases e⟩
theorem OnT.ok {t:Th} (h:OnT t):onOk t=true/\OnG t:=by
 cases h with
 | two z i a b hz hi ha hb=>
  rcases hz with rfl|rfl
  ·refine ⟨?_,rfl,endG_int _⟩
   show (wn 0 7 (.int i) && (wn 0 399 (.int a) && wn 0 399 (.int b)))=true
   rw [wn7 hi,wna ha,wna hb];rfl
  ·refine ⟨?_,rfl,endG_int _⟩
   show (wn 0 7 (.int i) && (wn 0 399 (.int a) && wn 0 399 (.int b)))=true
   rw [wn7 hi,wna ha,wna hb];rfl
 | on a ha=>exact ⟨wna ha,rfl,endG_int _⟩
 | done he=>exact ⟨he.ok.1,rfl,he.ok.2⟩
def nmK:Nat->Str
 | 0=>"Get"
 | 1=>"Ask"
 | 2=>"Cell"
 | 3=>"Two"
 | 4=>"Put"
 | 5=>"Tell"
 | _=>"Store"
def wdK:Nat->Str
 | 0=>"get"
 | 1=>"ask"
 | 2=>"cell"
 | 3=>"two"
 | 4=>"put"
 | 5=>"tell"
 | _=>"store"
def flK:Nat->List Str
 | 0=>["to","sel"]
 | 1=>["to","sel"]
 | 2=>["to","source"]
 | 3=>["to","op","one","other"]
 | 4=>["sel","source"]
 | 5=>["sel","source"]
 | _=>["at","source"]
structure Ct (K:ZF) (mg:Str->Option Value) (C fi:Nat->Addr):Prop where
 cls:∀ k,k < 7->Cls K (C k)
 na:∀ k,k < 7->∀ f∈flK k,NoAttr K (C k) f
 mk_:∀ k,k < 7->Mk K (C k) (fi k)
 mg:∀ k,k < 7->mg (nmK k)=some (.ref (C k))
def spI2 (C:Addr) (a b:Str):Sp:=fun vs H Q _=>∃ (x dx:Addr) (u v:V),vs=[.ref x,u,v]/\H x=some (.ins C dx [])/\Q .non (aC (aC H x (.ins C dx [(a,u)])) x (.ins C dx [(a,u),(b,v)]))
def spI4 (C:Addr) (a b c d:Str):Sp:=fun vs H Q _=>∃ (x dx:Addr) (u v y z:V),vs=[.ref x,u,v,y,z]/\H x=some (.ins C dx []) /\
 Q .non (aC (aC (aC (aC H x (.ins C dx [(a,u)])) x (.ins C dx [(a,u),(b,v)])) x (.ins C dx [(a,u),(b,v),(c,y)])) x (.ins C dx [(a,u),(b,v),(c,y),(d,z)]))
def IniOk (P:Program) (w:World) (K:ZF) (mg:Str->Option Value) (base:Heap) (f:Addr) (ps:List Str) (sp:Sp):Prop:=∃ fd,FnOk P w K mg base bu 1 f fd ps sp/\Binds K fd ps []
inductive StO (C:Nat->Addr) (p:Addr) (H:Hp):V->Th->Prop
 | mk (k:Nat) (a dx:Addr) (us:List V) (ts:List Th):k < 7->H a=some (.ins (C k) dx ((flK k).zip us))->us.length=(flK k).length->TgA p H us ts->StpT (.tup (.str (wdK k)::ts))->StO C p H (.ref a) (.tup (.str (wdK k)::ts))
def spStepC (C:Nat->Addr):Sp:=fun vs H Q _=>∃ (p:Addr) (v:V) (t:Th),vs=[v]/\TgV p H v t/\StpT t/\∀ u H',Same H H'->StO C p H' u t->Q u H'
theorem StO.same {C:Nat->Addr} {p:Addr} {H H':Hp} {v:V} {t:Th} (s:Same H H') (h:StO C p H v t):StO C p H' v t:=by
 cases h with
 | mk k a dx us ts hk e l ta st=>exact .mk k a dx us ts hk (s _ _ e) l (ta.same s) st
theorem StO.but {C:Nat->Addr} {p:Addr} {H H':Hp} {v:V} {t:Th} (g:Strm H p) (b:But p H H') (h:StO C p H v t):StO C p H' v t:=by
 cases h with
 | mk k a dx us ts hk e l ta st=>
  have ne:a≠p:=by
   rintro rfl
   obtain ⟨x,y,z,h⟩:=g
   rw [h] at e
   cases e
  exact .mk k a dx us ts hk (b _ _ e ne) l (ta.but g b) st
theorem TgA.un {p:Addr} {H:Hp} {xs:List V} {t:Th} {ts:List Th} (h:TgA p H xs (t::ts)):∃ v vs,xs=v::vs/\TgV p H v t/\TgA p H vs ts:=by
 cases h with
 | cons a b=>exact ⟨_,_,rfl,a,b⟩
theorem TgA.un0 {p:Addr} {H:Hp} {xs:List V} (h:TgA p H xs []):xs=[]:=by cases h;rfl
theorem TgV.unS {p:Addr} {H:Hp} {v:V} {x:Str} (h:TgV p H v (.str x)):v=.str x:=by cases h;rfl
theorem TgV.unI {p:Addr} {H:Hp} {v:V} {i:Int} (h:TgV p H v (.int i)):v=.int i:=by cases h;rfl
theorem tgA_tl2 {p:Addr} {H:Hp} {xs:List V} {x:Str} {a b:Th} (h:TgA p H xs [.str x,a,b]):∃ u v,xs=[.str x,u,v]/\TgA p H [u,v] [a,b]:=by
 obtain ⟨_,_,rfl,h0,g1⟩:=h.un
 obtain rfl:=h0.unS
 obtain ⟨u,_,rfl,h1,g2⟩:=g1.un
 obtain ⟨v,_,rfl,h2,g3⟩:=g2.un
 obtain rfl:=g3.un0
 exact ⟨u,v,rfl,.cons h1 (.cons h2 .nil)⟩
theorem tgA_tl4 {p:Addr} {H:Hp} {xs:List V} {x:Str} {a b c d:Th} (h:TgA p H xs [.str x,a,b,c,d]):∃ u v y z,xs=[.str x,u,v,y,z]/\TgA p H [u,v,y,z] [a,b,c,d]:=by
 obtain ⟨_,_,rfl,h0,g1⟩:=h.un
 obtain rfl:=h0.unS
 obtain ⟨u,_,rfl,h1,g2⟩:=g1.un
 obtain ⟨v,_,rfl,h2,g3⟩:=g2.un
 obtain ⟨y,_,rfl,h3,g4⟩:=g3.un
 obtain ⟨z,_,rfl,h4,g5⟩:=g4.un
 obtain rfl:=g5.un0
 exact ⟨u,v,y,z,rfl,.cons h1 (.cons h2 (.cons h3 (.cons h4 .nil)))⟩
section
variable {P:Program} {w:World} {K:ZF} {mg:Str->Option Value} {base:Heap} {C fi:Nat->Addr}
abbrev sI0:Stmt:=aN (bH 78) 0
theorem scI0:am ["self","to","sel"] ["self","to","sel"] (aj sI0):=bG (by decide +kernel)
variable {fd:FuncData} {f:Addr}
theorem ok_I0 (F:Fun K "__init__" "Get.__init__" sI0 f fd) (T:Ct K mg C fi):FnOk P w K mg base bu 1 f fd ["self","to","sel"] (spI2 (C 0) "to" "sel"):=by
 have ZZ:=scI0
 walk_at "o"
 ·obtain ⟨x,dx,u,v,rfl,hx,q⟩:=h
  refine ⟨_,af (bB (pv 0) (pv 1) rfl) (ah (bB (pv 0) (pv 2) rfl)),?_⟩
  refine ⟨_,rfl,_,rfl,x,C 0,dx,_,rfl,hx,T.cls 0 (by decide),(T.na 0 (by decide) "to" (by decide +kernel)),(by show 0 < 1000;decide),?_⟩
  exact ⟨_,rfl,_,rfl,x,C 0,dx,_,rfl,ad,T.cls 0 (by decide),(T.na 0 (by decide) "sel" (by decide +kernel)),(by show 1 < 1000;decide),q⟩
abbrev sI1:Stmt:=aN (bH 79) 0
theorem scI1:am ["self","to","sel"] ["self","to","sel"] (aj sI1):=bG (by decide +kernel)
theorem ok_I1 (F:Fun K "__init__" "Ask.__init__" sI1 f fd) (T:Ct K mg C fi):FnOk P w K mg base bu 1 f fd ["self","to","sel"] (spI2 (C 1) "to" "sel"):=by
 have ZZ:=scI1
 walk_at "o"
 ·obtain ⟨x,dx,u,v,rfl,hx,q⟩:=h
  refine ⟨_,af (bB (pv 0) (pv 1) rfl) (ah (bB (pv 0) (pv 2) rfl)),?_⟩
  refine ⟨_,rfl,_,rfl,x,C 1,dx,_,rfl,hx,T.cls 1 (by decide),(T.na 1 (by decide) "to" (by decide +kernel)),(by show 0 < 1000;decide),?_⟩
  exact ⟨_,rfl,_,rfl,x,C 1,dx,_,rfl,ad,T.cls 1 (by decide),(T.na 1 (by decide) "sel" (by decide +kernel)),(by show 1 < 1000;decide),q⟩
abbrev sI2:Stmt:=aN (bH 80) 0
theorem scI2:am ["self","to","source"] ["self","to","source"] (aj sI2):=bG (by decide +kernel)
theorem ok_I2 (F:Fun K "__init__" "Cell.__init__" sI2 f fd) (T:Ct K mg C fi):FnOk P w K mg base bu 1 f fd ["self","to","source"] (spI2 (C 2) "to" "source"):=by
 have ZZ:=scI2
 walk_at "o"
 ·obtain ⟨x,dx,u,v,rfl,hx,q⟩:=h
  refine ⟨_,af (bB (pv 0) (pv 1) rfl) (ah (bB (pv 0) (pv 2) rfl)),?_⟩
  refine ⟨_,rfl,_,rfl,x,C 2,dx,_,rfl,hx,T.cls 2 (by decide),(T.na 2 (by decide) "to" (by decide +kernel)),(by show 0 < 1000;decide),?_⟩
  exact ⟨_,rfl,_,rfl,x,C 2,dx,_,rfl,ad,T.cls 2 (by decide),(T.na 2 (by decide) "source" (by decide +kernel)),(by show 1 < 1000;decide),q⟩
abbrev sI3:Stmt:=aN (bH 81) 0
theorem scI3:am ["self","to","op","one","other"] ["self","to","op","one","other"] (aj sI3):=bG (by decide +kernel)
theorem ok_I3 (F:Fun K "__init__" "Two.__init__" sI3 f fd) (T:Ct K mg C fi):FnOk P w K mg base bu 1 f fd ["self","to","op","one","other"] (spI4 (C 3) "to" "op" "one" "other"):=by
 have ZZ:=scI3
 walk_at "o"
 ·obtain ⟨x,dx,u,v,y,z,rfl,hx,q⟩:=h
  refine ⟨_,af (bB (pv 0) (pv 1) rfl) (af (bB (pv 0) (pv 2) rfl) (af (bB (pv 0) (pv 3) rfl) (ah (bB (pv 0) (pv 4) rfl)))),?_⟩
  refine ⟨_,rfl,_,rfl,x,C 3,dx,_,rfl,hx,T.cls 3 (by decide),(T.na 3 (by decide) "to" (by decide +kernel)),(by show 0 < 1000;decide),?_⟩
  refine ⟨_,rfl,_,rfl,x,C 3,dx,_,rfl,ad,T.cls 3 (by decide),(T.na 3 (by decide) "op" (by decide +kernel)),(by show 1 < 1000;decide),?_⟩
  refine ⟨_,rfl,_,rfl,x,C 3,dx,_,rfl,ad,T.cls 3 (by decide),(T.na 3 (by decide) "one" (by decide +kernel)),(by show 2 < 1000;decide),?_⟩
  exact ⟨_,rfl,_,rfl,x,C 3,dx,_,rfl,ad,T.cls 3 (by decide),(T.na 3 (by decide) "other" (by decide +kernel)),(by show 3 < 1000;decide),q⟩
abbrev sI4:Stmt:=aN (bH 82) 0
theorem scI4:am ["self","sel","source"] ["self","sel","source"] (aj sI4):=bG (by decide +kernel)
theorem ok_I4 (F:Fun K "__init__" "Put.__init__" sI4 f fd) (T:Ct K mg C fi):FnOk P w K mg base bu 1 f fd ["self","sel","source"] (spI2 (C 4) "sel" "source"):=by
 have ZZ:=scI4
 walk_at "o"
 ·obtain ⟨x,dx,u,v,rfl,hx,q⟩:=h
  refine ⟨_,af (bB (pv 0) (pv 1) rfl) (ah (bB (pv 0) (pv 2) rfl)),?_⟩
  refine ⟨_,rfl,_,rfl,x,C 4,dx,_,rfl,hx,T.cls 4 (by decide),(T.na 4 (by decide) "sel" (by decide +kernel)),(by show 0 < 1000;decide),?_⟩
  exact ⟨_,rfl,_,rfl,x,C 4,dx,_,rfl,ad,T.cls 4 (by decide),(T.na 4 (by decide) "source" (by decide +kernel)),(by show 1 < 1000;decide),q⟩
abbrev sI5:Stmt:=aN (bH 83) 0
theorem scI5:am ["self","sel","source"] ["self","sel","source"] (aj sI5):=bG (by decide +kernel)
theorem ok_I5 (F:Fun K "__init__" "Tell.__init__" sI5 f fd) (T:Ct K mg C fi):FnOk P w K mg base bu 1 f fd ["self","sel","source"] (spI2 (C 5) "sel" "source"):=by
 have ZZ:=scI5
 walk_at "o"
 ·obtain ⟨x,dx,u,v,rfl,hx,q⟩:=h
  refine ⟨_,af (bB (pv 0) (pv 1) rfl) (ah (bB (pv 0) (pv 2) rfl)),?_⟩
  refine ⟨_,rfl,_,rfl,x,C 5,dx,_,rfl,hx,T.cls 5 (by decide),(T.na 5 (by decide) "sel" (by decide +kernel)),(by show 0 < 1000;decide),?_⟩
  exact ⟨_,rfl,_,rfl,x,C 5,dx,_,rfl,ad,T.cls 5 (by decide),(T.na 5 (by decide) "source" (by decide +kernel)),(by show 1 < 1000;decide),q⟩
abbrev sI6:Stmt:=aN (bH 84) 0
theorem scI6:am ["self","at","source"] ["self","at","source"] (aj sI6):=bG (by decide +kernel)
theorem ok_I6 (F:Fun K "__init__" "Store.__init__" sI6 f fd) (T:Ct K mg C fi):FnOk P w K mg base bu 1 f fd ["self","at","source"] (spI2 (C 6) "at" "source"):=by
 have ZZ:=scI6
 walk_at "o"
 ·obtain ⟨x,dx,u,v,rfl,hx,q⟩:=h
  refine ⟨_,af (bB (pv 0) (pv 1) rfl) (ah (bB (pv 0) (pv 2) rfl)),?_⟩
  refine ⟨_,rfl,_,rfl,x,C 6,dx,_,rfl,hx,T.cls 6 (by decide),(T.na 6 (by decide) "at" (by decide +kernel)),(by show 0 < 1000;decide),?_⟩
  exact ⟨_,rfl,_,rfl,x,C 6,dx,_,rfl,ad,T.cls 6 (by decide),(T.na 6 (by decide) "source" (by decide +kernel)),(by show 1 < 1000;decide),q⟩
theorem scStepOf:am ["told"] ["told"] (aj kh):=bG (by decide +kernel)
theorem ok_stepOf (F:Fun K "step_of" "step_of" kh f fd) (T:Ct K mg C fi) (IS:Fn P w K mg base "is_step" 5 ["thing"] (spAsk stepOk HgA)) (I0:IniOk P w K mg base (fi 0) ["self","to","sel"] (spI2 (C 0) "to" "sel")) (I1:IniOk P w K mg base (fi 1) ["self","to","sel"] (spI2 (C 1) "to" "sel")) (I2:IniOk P w K mg base (fi 2) ["self","to","source"] (spI2 (C 2) "to" "source")) (I3:IniOk P w K mg base (fi 3) ["self","to","op","one","other"] (spI4 (C 3) "to" "op" "one" "other")) (I4:IniOk P w K mg base (fi 4) ["self","sel","source"] (spI2 (C 4) "sel" "source")) (I5:IniOk P w K mg base (fi 5) ["self","sel","source"] (spI2 (C 5) "sel" "source")) (I6:IniOk P w K mg base (fi 6) ["self","at","source"] (spI2 (C 6) "at" "source")) :
  FnOk P w K mg base bu 6 f fd ["told"] (spStepC C):=by
 have ZZ:=scStepOf
 walk_at "o"
 ·obtain ⟨p,v,t,rfl,tv,st,q⟩:=h
  have hr3:Room 2 _:=hr.mono (by decide)
  obtain ⟨fd0,F0,b0⟩:=I0
  obtain ⟨fd1,F1,b1⟩:=I1
  obtain ⟨fd2,F2,b2⟩:=I2
  obtain ⟨fd3,F3,b3⟩:=I3
  obtain ⟨fd4,F4,b4⟩:=I4
  obtain ⟨fd5,F5,b5⟩:=I5
  obtain ⟨fd6,F6,b6⟩:=I6
  refine ⟨_,af (aQ (cf (bf (aq IS hr rfl (aa (pv 0) ac)))) (ah bx) ay)
   (af (aQ (ax bv (au av (pv 0) ai (fun _ _=>rfl)) ak (az _)) (ah (al (cM (T.mk_ 0 (by decide)) F0 hr3 rfl (T.mg 0 (by decide)) b0 .nil cP (aa (au av (pv 0) ai (fun _ _=>rfl)) (aa (au av (pv 0) ai (fun _ _=>rfl)) ac))))) ay)
   (af (aQ (ax bv (au av (pv 0) ai (fun _ _=>rfl)) ak (az _)) (ah (al (cM (T.mk_ 1 (by decide)) F1 hr3 rfl (T.mg 1 (by decide)) b1 .nil cP (aa (au av (pv 0) ai (fun _ _=>rfl)) (aa (au av (pv 0) ai (fun _ _=>rfl)) ac))))) ay)
   (af (aQ (ax bv (au av (pv 0) ai (fun _ _=>rfl)) ak (az _)) (ah (al (cM (T.mk_ 2 (by decide)) F2 hr3 rfl (T.mg 2 (by decide)) b2 .nil cP (aa (au av (pv 0) ai (fun _ _=>rfl)) (aa (au av (pv 0) ai (fun _ _=>rfl)) ac))))) ay)
   (af (aQ (ax bv (au av (pv 0) ai (fun _ _=>rfl)) ak (az _)) (ah (al (cM (T.mk_ 3 (by decide)) F3 hr3 rfl (T.mg 3 (by decide)) b3 .nil cP (aa (au av (pv 0) ai (fun _ _=>rfl)) (aa (au av (pv 0) ai (fun _ _=>rfl)) (aa (au av (pv 0) ai (fun _ _=>rfl)) (aa (au av (pv 0) ai (fun _ _=>rfl)) ac))))))) ay)
   (af (aQ (ax bv (au av (pv 0) ai (fun _ _=>rfl)) ak (az _)) (ah (al (cM (T.mk_ 4 (by decide)) F4 hr3 rfl (T.mg 4 (by decide)) b4 .nil cP (aa (au av (pv 0) ai (fun _ _=>rfl)) (aa (au av (pv 0) ai (fun _ _=>rfl)) ac))))) ay)
   (af (aQ (ax bv (au av (pv 0) ai (fun _ _=>rfl)) ak (az _)) (ah (al (cM (T.mk_ 5 (by decide)) F5 hr3 rfl (T.mg 5 (by decide)) b5 .nil cP (aa (au av (pv 0) ai (fun _ _=>rfl)) (aa (au av (pv 0) ai (fun _ _=>rfl)) ac))))) ay)
   (ah (al (cM (T.mk_ 6 (by decide)) F6 hr3 rfl (T.mg 6 (by decide)) b6 .nil cP (aa (au av (pv 0) ai (fun _ _=>rfl)) (aa (au av (pv 0) ai (fun _ _=>rfl)) ac))))))))))),?_⟩
  obtain ⟨ok,hga⟩:=st.ok
  refine ⟨_,rfl,p,v,t,rfl,tv,hga,fun H1 s1=>⟨_,rfl,?_⟩⟩
  rw [ok]
  refine bz ?_
  have tv1:=tv.same s1
  have q1:∀ u H',Same H1 H'->StO C p H' u t->Q u H':=fun u H' s' h=>q u H' (s1.trans s') h
  have st':=st
  cases st with
  | @get k s hk hs=>
   cases tv1 with
   | @tup a xs _ e ta=>
    obtain ⟨u0,u1,rfl,ta'⟩:∃ u0 u1,xs=[.str "get",u0,u1]/\TgA p H1 [u0,u1] _:=tgA_tl2 ta
    refine ⟨_,rfl,a,_,_,_,rfl,rfl,SqT.of e,rfl,rfl,_,rfl,bj (show decide (V.str "get"=V.str "get")=true by decide +kernel) ?_⟩
    refine ⟨_,rfl,a,_,_,_,rfl,rfl,SqT.of e,rfl,_,rfl,a,_,_,_,rfl,rfl,SqT.of e,rfl,fun x0 dx nx nd ne=>⟨x0,dx,_,_,rfl,ad,rfl,?_⟩⟩
    refine q1 _ _ ?_ (.mk 0 x0 dx [u0,u1] _ (by decide) ad rfl (ta'.same ?_) st')
    all_goals exact aG nx (aG nx (aG nx (ae nd)))
  | @ask k s hk hs=>
   cases tv1 with
   | @tup a xs _ e ta=>
    obtain ⟨u0,u1,rfl,ta'⟩:∃ u0 u1,xs=[.str "ask",u0,u1]/\TgA p H1 [u0,u1] _:=tgA_tl2 ta
    refine ⟨_,rfl,a,_,_,_,rfl,rfl,SqT.of e,rfl,rfl,_,rfl,aP (show decide (V.str "ask"=V.str "get")=false by decide +kernel) ?_⟩
    refine ⟨_,rfl,a,_,_,_,rfl,rfl,SqT.of e,rfl,rfl,_,rfl,bj (show decide (V.str "ask"=V.str "ask")=true by decide +kernel) ?_⟩
    refine ⟨_,rfl,a,_,_,_,rfl,rfl,SqT.of e,rfl,_,rfl,a,_,_,_,rfl,rfl,SqT.of e,rfl,fun x0 dx nx nd ne=>⟨x0,dx,_,_,rfl,ad,rfl,?_⟩⟩
    refine q1 _ _ ?_ (.mk 1 x0 dx [u0,u1] _ (by decide) ad rfl (ta'.same ?_) st')
    all_goals exact aG nx (aG nx (aG nx (ae nd)))
  | @cell k s hk hs=>
   cases tv1 with
   | @tup a xs _ e ta=>
    obtain ⟨u0,u1,rfl,ta'⟩:∃ u0 u1,xs=[.str "cell",u0,u1]/\TgA p H1 [u0,u1] _:=tgA_tl2 ta
    refine ⟨_,rfl,a,_,_,_,rfl,rfl,SqT.of e,rfl,rfl,_,rfl,aP (show decide (V.str "cell"=V.str "get")=false by decide +kernel) ?_⟩
    refine ⟨_,rfl,a,_,_,_,rfl,rfl,SqT.of e,rfl,rfl,_,rfl,aP (show decide (V.str "cell"=V.str "ask")=false by decide +kernel) ?_⟩
    refine ⟨_,rfl,a,_,_,_,rfl,rfl,SqT.of e,rfl,rfl,_,rfl,bj (show decide (V.str "cell"=V.str "cell")=true by decide +kernel) ?_⟩
    refine ⟨_,rfl,a,_,_,_,rfl,rfl,SqT.of e,rfl,_,rfl,a,_,_,_,rfl,rfl,SqT.of e,rfl,fun x0 dx nx nd ne=>⟨x0,dx,_,_,rfl,ad,rfl,?_⟩⟩
    refine q1 _ _ ?_ (.mk 2 x0 dx [u0,u1] _ (by decide) ad rfl (ta'.same ?_) st')
    all_goals exact aG nx (aG nx (aG nx (ae nd)))
  | @two k o x y hk ho hx hy=>
   cases tv1 with
   | @tup a xs _ e ta=>
    obtain ⟨u0,u1,u2,u3,rfl,ta'⟩:∃ u0 u1 u2 u3,xs=[.str "two",u0,u1,u2,u3]/\TgA p H1 [u0,u1,u2,u3] _:=tgA_tl4 ta
    refine ⟨_,rfl,a,_,_,_,rfl,rfl,SqT.of e,rfl,rfl,_,rfl,aP (show decide (V.str "two"=V.str "get")=false by decide +kernel) ?_⟩
    refine ⟨_,rfl,a,_,_,_,rfl,rfl,SqT.of e,rfl,rfl,_,rfl,aP (show decide (V.str "two"=V.str "ask")=false by decide +kernel) ?_⟩
    refine ⟨_,rfl,a,_,_,_,rfl,rfl,SqT.of e,rfl,rfl,_,rfl,aP (show decide (V.str "two"=V.str "cell")=false by decide +kernel) ?_⟩
    refine ⟨_,rfl,a,_,_,_,rfl,rfl,SqT.of e,rfl,rfl,_,rfl,bj (show decide (V.str "two"=V.str "two")=true by decide +kernel) ?_⟩
    refine ⟨_,rfl,a,_,_,_,rfl,rfl,SqT.of e,rfl,_,rfl,a,_,_,_,rfl,rfl,SqT.of e,rfl,_,rfl,a,_,_,_,rfl,rfl,SqT.of e,rfl,_,rfl,a,_,_,_,rfl,rfl,SqT.of e,rfl,fun x0 dx nx nd ne=>⟨x0,dx,_,_,_,_,rfl,ad,rfl,?_⟩⟩
    refine q1 _ _ ?_ (.mk 3 x0 dx [u0,u1,u2,u3] _ (by decide) ad rfl (ta'.same ?_) st')
    all_goals exact aG nx (aG nx (aG nx (aG nx (aG nx (ae nd)))))
  | @put s x hs hx=>
   cases tv1 with
   | @tup a xs _ e ta=>
    obtain ⟨u0,u1,rfl,ta'⟩:∃ u0 u1,xs=[.str "put",u0,u1]/\TgA p H1 [u0,u1] _:=tgA_tl2 ta
    refine ⟨_,rfl,a,_,_,_,rfl,rfl,SqT.of e,rfl,rfl,_,rfl,aP (show decide (V.str "put"=V.str "get")=false by decide +kernel) ?_⟩
    refine ⟨_,rfl,a,_,_,_,rfl,rfl,SqT.of e,rfl,rfl,_,rfl,aP (show decide (V.str "put"=V.str "ask")=false by decide +kernel) ?_⟩
    refine ⟨_,rfl,a,_,_,_,rfl,rfl,SqT.of e,rfl,rfl,_,rfl,aP (show decide (V.str "put"=V.str "cell")=false by decide +kernel) ?_⟩
    refine ⟨_,rfl,a,_,_,_,rfl,rfl,SqT.of e,rfl,rfl,_,rfl,aP (show decide (V.str "put"=V.str "two")=false by decide +kernel) ?_⟩
    refine ⟨_,rfl,a,_,_,_,rfl,rfl,SqT.of e,rfl,rfl,_,rfl,bj (show decide (V.str "put"=V.str "put")=true by decide +kernel) ?_⟩
    refine ⟨_,rfl,a,_,_,_,rfl,rfl,SqT.of e,rfl,_,rfl,a,_,_,_,rfl,rfl,SqT.of e,rfl,fun x0 dx nx nd ne=>⟨x0,dx,_,_,rfl,ad,rfl,?_⟩⟩
    refine q1 _ _ ?_ (.mk 4 x0 dx [u0,u1] _ (by decide) ad rfl (ta'.same ?_) st')
    all_goals exact aG nx (aG nx (aG nx (ae nd)))
  | @tell s x hs hx=>
   cases tv1 with
   | @tup a xs _ e ta=>
    obtain ⟨u0,u1,rfl,ta'⟩:∃ u0 u1,xs=[.str "tell",u0,u1]/\TgA p H1 [u0,u1] _:=tgA_tl2 ta
    refine ⟨_,rfl,a,_,_,_,rfl,rfl,SqT.of e,rfl,rfl,_,rfl,aP (show decide (V.str "tell"=V.str "get")=false by decide +kernel) ?_⟩
    refine ⟨_,rfl,a,_,_,_,rfl,rfl,SqT.of e,rfl,rfl,_,rfl,aP (show decide (V.str "tell"=V.str "ask")=false by decide +kernel) ?_⟩
    refine ⟨_,rfl,a,_,_,_,rfl,rfl,SqT.of e,rfl,rfl,_,rfl,aP (show decide (V.str "tell"=V.str "cell")=false by decide +kernel) ?_⟩
    refine ⟨_,rfl,a,_,_,_,rfl,rfl,SqT.of e,rfl,rfl,_,rfl,aP (show decide (V.str "tell"=V.str "two")=false by decide +kernel) ?_⟩
    refine ⟨_,rfl,a,_,_,_,rfl,rfl,SqT.of e,rfl,rfl,_,rfl,aP (show decide (V.str "tell"=V.str "put")=false by decide +kernel) ?_⟩
    refine ⟨_,rfl,a,_,_,_,rfl,rfl,SqT.of e,rfl,rfl,_,rfl,bj (show decide (V.str "tell"=V.str "tell")=true by decide +kernel) ?_⟩
    refine ⟨_,rfl,a,_,_,_,rfl,rfl,SqT.of e,rfl,_,rfl,a,_,_,_,rfl,rfl,SqT.of e,rfl,fun x0 dx nx nd ne=>⟨x0,dx,_,_,rfl,ad,rfl,?_⟩⟩
    refine q1 _ _ ?_ (.mk 5 x0 dx [u0,u1] _ (by decide) ad rfl (ta'.same ?_) st')
    all_goals exact aG nx (aG nx (aG nx (ae nd)))
  | @store x y hx hy=>
   cases tv1 with
   | @tup a xs _ e ta=>
    obtain ⟨u0,u1,rfl,ta'⟩:∃ u0 u1,xs=[.str "store",u0,u1]/\TgA p H1 [u0,u1] _:=tgA_tl2 ta
    refine ⟨_,rfl,a,_,_,_,rfl,rfl,SqT.of e,rfl,rfl,_,rfl,aP (show decide (V.str "store"=V.str "get")=false by decide +kernel) ?_⟩
    refine ⟨_,rfl,a,_,_,_,rfl,rfl,SqT.of e,rfl,rfl,_,rfl,aP (show decide (V.str "store"=V.str "ask")=false by decide +kernel) ?_⟩
    refine ⟨_,rfl,a,_,_,_,rfl,rfl,SqT.of e,rfl,rfl,_,rfl,aP (show decide (V.str "store"=V.str "cell")=false by decide +kernel) ?_⟩
    refine ⟨_,rfl,a,_,_,_,rfl,rfl,SqT.of e,rfl,rfl,_,rfl,aP (show decide (V.str "store"=V.str "two")=false by decide +kernel) ?_⟩
    refine ⟨_,rfl,a,_,_,_,rfl,rfl,SqT.of e,rfl,rfl,_,rfl,aP (show decide (V.str "store"=V.str "put")=false by decide +kernel) ?_⟩
    refine ⟨_,rfl,a,_,_,_,rfl,rfl,SqT.of e,rfl,rfl,_,rfl,aP (show decide (V.str "store"=V.str "tell")=false by decide +kernel) ?_⟩
    refine ⟨_,rfl,a,_,_,_,rfl,rfl,SqT.of e,rfl,_,rfl,a,_,_,_,rfl,rfl,SqT.of e,rfl,fun x0 dx nx nd ne=>⟨x0,dx,_,_,rfl,ad,rfl,?_⟩⟩
    refine q1 _ _ ?_ (.mk 6 x0 dx [u0,u1] _ (by decide) ad rfl (ta'.same ?_) st')
    all_goals exact aG nx (aG nx (aG nx (ae nd)))
end
def spTold (C:Nat->Addr) (k:Nat):Sp:=fun vs H Q _=>∃ (a dx:Addr) (us:List V),vs=[.ref a]/\H a=some (.ins (C k) dx ((flK k).zip us))/\us.length=(flK k).length/\∀ p,H p=none->Q (.ref p) (aC H p (.tup (.str (wdK k)::us)))
theorem us2 {us:List V} (h:us.length=2):∃ a b,us=[a,b]:=match us,h with|[a,b],_=>⟨a,b,rfl⟩
theorem us4 {us:List V} (h:us.length=4):∃ a b c d,us=[a,b,c,d]:=match us,h with|[a,b,c,d],_=>⟨a,b,c,d,rfl⟩
theorem tgA_w2 {p:Addr} {H:Hp} {xs:List V} {a b:Th} (h:TgA p H xs [a,b]):∃ u v,xs=[u,v]/\TgV p H u a/\TgV p H v b:=by
 obtain ⟨u,_,rfl,h1,g1⟩:=h.un
 obtain ⟨v,_,rfl,h2,g2⟩:=g1.un
 obtain rfl:=g2.un0
 exact ⟨u,v,rfl,h1,h2⟩
theorem tgv2 {p:Addr} {H:Hp} {v:V} {x:Str} {i:Int} (h:TgV p H v (.tup [.str x,.int i])):∃ a,v=.ref a/\H a=some (.tup [.str x,.int i]):=by
 cases h with
 | tup e ta=>
  obtain ⟨_,_,rfl,h1,g1⟩:=ta.un
  obtain ⟨_,_,rfl,h2,g2⟩:=g1.un
  obtain rfl:=g2.un0
  rw [h1.unS,h2.unI] at e
  exact ⟨_,rfl,e⟩
section
variable {P:Program} {w:World} {K:ZF} {mg:Str->Option Value} {base:Heap} {C fi:Nat->Addr} {cT:Addr}
abbrev sTo0:Stmt:=aN (bH 78) 1
theorem scTo0:am ["self"] ["self"] (aj sTo0):=bG (by decide +kernel)
variable {fd:FuncData} {f:Addr}
theorem ok_To0 (F:Fun K "told" "Get.told" sTo0 f fd) (T:Ct K mg C fi):FnOk P w K mg base bu 1 f fd ["self"] (spTold C 0):=by
 have ZZ:=scTo0
 walk_at "o"
 ·obtain ⟨a,dx,us,rfl,ho,hl,q⟩:=h
  obtain ⟨u1,u2,rfl⟩:=us2 hl
  refine ⟨_,ah (al (aH (aa ak (aa (aV (pv 0) rfl) (aa (aV (pv 0) rfl) ac))))),?_⟩
  exact ⟨_,rfl,a,C 0,dx,_,_,rfl,ho,T.cls 0 (by decide),T.na 0 (by decide) "to" (by decide +kernel),rfl,_,rfl,a,C 0,dx,_,_,rfl,ho,T.cls 0 (by decide),T.na 0 (by decide) "sel" (by decide +kernel),rfl,bh,fun t ht=>q t ht⟩
abbrev sTo1:Stmt:=aN (bH 79) 1
theorem scTo1:am ["self"] ["self"] (aj sTo1):=bG (by decide +kernel)
theorem ok_To1 (F:Fun K "told" "Ask.told" sTo1 f fd) (T:Ct K mg C fi):FnOk P w K mg base bu 1 f fd ["self"] (spTold C 1):=by
 have ZZ:=scTo1
 walk_at "o"
 ·obtain ⟨a,dx,us,rfl,ho,hl,q⟩:=h
  obtain ⟨u1,u2,rfl⟩:=us2 hl
  refine ⟨_,ah (al (aH (aa ak (aa (aV (pv 0) rfl) (aa (aV (pv 0) rfl) ac))))),?_⟩
  exact ⟨_,rfl,a,C 1,dx,_,_,rfl,ho,T.cls 1 (by decide),T.na 1 (by decide) "to" (by decide +kernel),rfl,_,rfl,a,C 1,dx,_,_,rfl,ho,T.cls 1 (by decide),T.na 1 (by decide) "sel" (by decide +kernel),rfl,bh,fun t ht=>q t ht⟩
abbrev sTo2:Stmt:=aN (bH 80) 1
theorem scTo2:am ["self"] ["self"] (aj sTo2):=bG (by decide +kernel)
theorem ok_To2 (F:Fun K "told" "Cell.told" sTo2 f fd) (T:Ct K mg C fi):FnOk P w K mg base bu 1 f fd ["self"] (spTold C 2):=by
 have ZZ:=scTo2
 walk_at "o"
 ·obtain ⟨a,dx,us,rfl,ho,hl,q⟩:=h
  obtain ⟨u1,u2,rfl⟩:=us2 hl
  refine ⟨_,ah (al (aH (aa ak (aa (aV (pv 0) rfl) (aa (aV (pv 0) rfl) ac))))),?_⟩
  exact ⟨_,rfl,a,C 2,dx,_,_,rfl,ho,T.cls 2 (by decide),T.na 2 (by decide) "to" (by decide +kernel),rfl,_,rfl,a,C 2,dx,_,_,rfl,ho,T.cls 2 (by decide),T.na 2 (by decide) "source" (by decide +kernel),rfl,bh,fun t ht=>q t ht⟩
abbrev sTo3:Stmt:=aN (bH 81) 1
theorem scTo3:am ["self"] ["self"] (aj sTo3):=bG (by decide +kernel)
theorem ok_To3 (F:Fun K "told" "Two.told" sTo3 f fd) (T:Ct K mg C fi):FnOk P w K mg base bu 1 f fd ["self"] (spTold C 3):=by
 have ZZ:=scTo3
 walk_at "o"
 ·obtain ⟨a,dx,us,rfl,ho,hl,q⟩:=h
  obtain ⟨u1,u2,u3,u4,rfl⟩:=us4 hl
  refine ⟨_,ah (al (aH (aa ak (aa (aV (pv 0) rfl) (aa (aV (pv 0) rfl) (aa (aV (pv 0) rfl) (aa (aV (pv 0) rfl) ac))))))),?_⟩
  exact ⟨_,rfl,a,C 3,dx,_,_,rfl,ho,T.cls 3 (by decide),T.na 3 (by decide) "to" (by decide +kernel),rfl,_,rfl,a,C 3,dx,_,_,rfl,ho,T.cls 3 (by decide),T.na 3 (by decide) "op" (by decide +kernel),rfl,_,rfl,a,C 3,dx,_,_,rfl,ho,T.cls 3 (by decide),T.na 3 (by decide) "one" (by decide +kernel),rfl,_,rfl,a,C 3,dx,_,_,rfl,ho,T.cls 3 (by decide),T.na 3 (by decide) "other" (by decide +kernel),rfl,bh,fun t ht=>q t ht⟩
abbrev sTo4:Stmt:=aN (bH 82) 1
theorem scTo4:am ["self"] ["self"] (aj sTo4):=bG (by decide +kernel)
theorem ok_To4 (F:Fun K "told" "Put.told" sTo4 f fd) (T:Ct K mg C fi):FnOk P w K mg base bu 1 f fd ["self"] (spTold C 4):=by
 have ZZ:=scTo4
 walk_at "o"
 ·obtain ⟨a,dx,us,rfl,ho,hl,q⟩:=h
  obtain ⟨u1,u2,rfl⟩:=us2 hl
  refine ⟨_,ah (al (aH (aa ak (aa (aV (pv 0) rfl) (aa (aV (pv 0) rfl) ac))))),?_⟩
  exact ⟨_,rfl,a,C 4,dx,_,_,rfl,ho,T.cls 4 (by decide),T.na 4 (by decide) "sel" (by decide +kernel),rfl,_,rfl,a,C 4,dx,_,_,rfl,ho,T.cls 4 (by decide),T.na 4 (by decide) "source" (by decide +kernel),rfl,bh,fun t ht=>q t ht⟩
abbrev sTo5:Stmt:=aN (bH 83) 1
theorem scTo5:am ["self"] ["self"] (aj sTo5):=bG (by decide +kernel)
theorem ok_To5 (F:Fun K "told" "Tell.told" sTo5 f fd) (T:Ct K mg C fi):FnOk P w K mg base bu 1 f fd ["self"] (spTold C 5):=by
 have ZZ:=scTo5
 walk_at "o"
 ·obtain ⟨a,dx,us,rfl,ho,hl,q⟩:=h
  obtain ⟨u1,u2,rfl⟩:=us2 hl
  refine ⟨_,ah (al (aH (aa ak (aa (aV (pv 0) rfl) (aa (aV (pv 0) rfl) ac))))),?_⟩
  exact ⟨_,rfl,a,C 5,dx,_,_,rfl,ho,T.cls 5 (by decide),T.na 5 (by decide) "sel" (by decide +kernel),rfl,_,rfl,a,C 5,dx,_,_,rfl,ho,T.cls 5 (by decide),T.na 5 (by decide) "source" (by decide +kernel),rfl,bh,fun t ht=>q t ht⟩
abbrev sTo6:Stmt:=aN (bH 84) 1
theorem scTo6:am ["self"] ["self"] (aj sTo6):=bG (by decide +kernel)
theorem ok_To6 (F:Fun K "told" "Store.told" sTo6 f fd) (T:Ct K mg C fi):FnOk P w K mg base bu 1 f fd ["self"] (spTold C 6):=by
 have ZZ:=scTo6
 walk_at "o"
 ·obtain ⟨a,dx,us,rfl,ho,hl,q⟩:=h
  obtain ⟨u1,u2,rfl⟩:=us2 hl
  refine ⟨_,ah (al (aH (aa ak (aa (aV (pv 0) rfl) (aa (aV (pv 0) rfl) ac))))),?_⟩
  exact ⟨_,rfl,a,C 6,dx,_,_,rfl,ho,T.cls 6 (by decide),T.na 6 (by decide) "at" (by decide +kernel),rfl,_,rfl,a,C 6,dx,_,_,rfl,ho,T.cls 6 (by decide),T.na 6 (by decide) "source" (by decide +kernel),rfl,bh,fun t ht=>q t ht⟩
end
end L3
namespace L2
open PySem PySem.Spec PyProof.Rows
section
variable {X:Cx}
def xO (P:Program) (w:World) (K:ZF) (mg:Str->Option Value) (base:Heap) (k:Nat) (m:Str) (ta:TE):TE:=fun σ H Q=>ta σ H fun x H1=>∃ (a dx C f:Addr) (fs:List (Str×V)) (fd:FuncData) (ps:List Str) (sp:Sp),x=.ref a/\H1 a=some (.ins C dx fs)/\fs.lookup m=none /\
 Cls K C/\l0 K C m f/\FnOk P w K mg base bu k f fd ps sp/\Binds K fd ps []/\sp [.ref a] H1 Q E0
theorem eJ {P:Program} {w:World} {K:ZF} {mg:Str->Option Value} {base:Heap} {k:Nat} {pl:Sem Bool} {o:Expr} {m:Str} {ta:TE} {pos apos:Pos} (hP:X.prog=P) (hw:X.w=w) (hK:X.K=K) (hmg:X.mg=mg) (hbs:X.base=base) (hr:Room k X.A) (he:PE X o ta)
  (ht:eval (.Call (.Attribute o m apos) [] [] pos) X.env=(do
   let ov <-eval o X.env
   standAt apos.atName
   let (f,first) <-holding [ov] (getMethod ov m pl)
   callWith pos f first (backTo pos (starEach [] X.env)) (backToKw pos (keywordEach [] X.env))):=by rfl) :
  PE X (.Call (.Attribute o m apos) [] [] pos) (xO P w K mg base k m ta):=by
 subst hP hw hK hmg hbs
 refine ⟨?_⟩
 intro pins s σ H Q I h
 refine PySem.W.methodCall_KW (pl:=pl) (bF (he pins s σ H _ I h) fun u s1 ⟨x,H1,I1,rx,a,dx,C,f,fs,fd,ps,sp,ex,ea,l,c,hm,F,hb,q⟩=>?_) ht
 subst ex
 obtain rfl:u=Value.ref a:=rx
 refine dG I1 ea c hm l ?_
 exact PySem.W.callWith_K0 (first:=[.ref a]) I1.kIn hm.kp (gA (us:=[.ref a]) (vs:=[.ref a]) (dvs:=[]) (ds:=[]) F hr hb .nil cP I1 (.cons rfl .nil) q)
end
end L2
namespace L3
open PySem L2
inductive LiO (C:Nat->Addr) (cT p:Addr) (H:Hp):V->Th->Prop
 | mk (a dx tp:Addr) (us:List V) (o:V) (ss:List Th) (on:Th):H a=some (.ins cT dx [("steps",.ref tp),("on",o)])->H tp=some (.tup us)->Paired (StO C p H) us ss->TgV p H o on->OnT on->ss.length<=16->(∀ s∈ss,StpT s)->LiO C cT p H (.ref a) (.tup [.tup ss,on])
variable {t:Th} {v:V} {H H':Hp} {cT p:Addr} {C:Nat->Addr}
theorem LiO.same (s:Same H H') (h:LiO C cT p H v t):LiO C cT p H' v t:=by
 cases h with
 | mk a dx tp us o ss on e e2 ps to ho hl hs=>exact .mk a dx tp us o ss on (s _ _ e) (s _ _ e2) (L2.Paired.mapP ps fun _ _ h=>h.same s) (to.same s) ho hl hs
theorem LiO.but (g:Strm H p) (b:But p H H') (h:LiO C cT p H v t):LiO C cT p H' v t:=by
 cases h with
 | mk a dx tp us o ss on e e2 ps to ho hl hs=>
  have ne:∀ {q:Addr} {u:HO},H q=some u->(∀ x y z,u≠qF x y z)->q≠p:=by
   rintro q u hq hu rfl
   obtain ⟨x,y,z,h⟩:=g
   rw [h] at hq
   exact hu x y z (Cf hq).symm
  exact .mk a dx tp us o ss on (b _ _ e (ne e (by intro x y z h;cases h))) (b _ _ e2 (ne e2 (by intro x y z h;cases h))) (L2.Paired.mapP ps fun _ _ h=>h.but g b) (to.but g b) ho hl hs
variable {x:Str}
theorem pF (h:TgV p H v (.tup [.str x])):∃ a,v=.ref a/\H a=some (.tup [.str x]):=by
 cases h with
 | tup e ta=>
  obtain ⟨_,_,rfl,h1,g1⟩:=ta.un
  obtain rfl:=g1.un0
  rw [h1.unS] at e
  exact ⟨_,rfl,e⟩
variable {z:Str}
theorem vU (h:TgV p H v (.tup [.str x,.str z])):∃ a,v=.ref a/\H a=some (.tup [.str x,.str z]):=by
 cases h with
 | tup e ta=>
  obtain ⟨_,_,rfl,h1,g1⟩:=ta.un
  obtain ⟨_,_,rfl,h2,g2⟩:=g1.un
  obtain rfl:=g2.un0
  rw [h1.unS,h2.unS] at e
  exact ⟨_,rfl,e⟩
theorem vV (h:TgV p H v (.tup [.str x,t])):∃ a u,v=.ref a/\H a=some (.tup [.str x,u])/\TgV p H u t:=by
 cases h with
 | tup e ta=>
  obtain ⟨_,_,rfl,h1,g1⟩:=ta.un
  obtain ⟨_,_,rfl,h2,g2⟩:=g1.un
  obtain rfl:=g2.un0
  rw [h1.unS] at e
  exact ⟨_,_,rfl,e,h2⟩
theorem z7 {i j k:Int} (h:TgV p H v (.tup [.str x,.int i,.int j,.int k])):∃ a,v=.ref a/\H a=some (.tup [.str x,.int i,.int j,.int k]):=by
 cases h with
 | tup e ta=>
  obtain ⟨_,_,rfl,h1,g1⟩:=ta.un
  obtain ⟨_,_,rfl,h2,g2⟩:=g1.un
  obtain ⟨_,_,rfl,h3,g3⟩:=g2.un
  obtain ⟨_,_,rfl,h4,g4⟩:=g3.un
  obtain rfl:=g4.un0
  rw [h1.unS,h2.unI,h3.unI,h4.unI] at e
  exact ⟨_,rfl,e⟩
abbrev rU:Stmt:=aN (bH 90) 0
abbrev ki:Stmt:=aN (bH 90) 1
def rV (C:Addr):Sp:=fun vs H Q _=>∃ (x dx l:Addr) (us:List V) (o:V),vs=[.ref x,.ref l,o]/\H x=some (.ins C dx [])/\H l=some (.lst us)/\∀ tp,H tp=none->Q .non (aC (aC (aC H tp (.tup us)) x (.ins C dx [("steps",.ref tp)])) x (.ins C dx [("steps",.ref tp),("on",o)]))
theorem eK:∀ {ks:List Str} {us:List V},x∉ks->(ks.zip us).lookup x=none
 | [],_,_=>rfl
 | k::ks,[],_=>rfl
 | k::ks,u::us,h=>by
  show (match x == k with|true=>some u|false=>(ks.zip us).lookup x)=none
  rw [beq_eq_false_iff_ne.mpr (fun z:x=k=>h (by rw [z];exact BQ))]
  exact eK fun z=>h (BV _ z)
structure Bw (P:Program) (w:World) (K:ZF) (mg:Str->Option Value) (base:Heap) (C:Nat->Addr):Prop where
 cls:∀ k,k < 7->Cls K (C k)
 told:∀ k,k < 7->dB P w K mg base (C k) "told" 1 ["self"] (spTold C k)
theorem uV:∀ k,("told":Str)∉flK k/\("words":Str)∉flK k:=fun k=>by
 match k with
 | 0=>decide +kernel
 | 1=>decide +kernel
 | 2=>decide +kernel
 | 3=>decide +kernel
 | 4=>decide +kernel
 | 5=>decide +kernel
 | k+6=>exact (by decide +kernel:("told":Str)∉flK 6/\("words":Str)∉flK 6)
structure Lc (K:ZF) (cT:Addr):Prop where
 cls:Cls K cT
 n1:NoAttr K cT "steps"
 n2:NoAttr K cT "on"
def rW (C:Nat->Addr) (cT:Addr):Sp:=fun vs H Q _=>∃ (p:Addr) (v:V) (t:Th),vs=[v]/\LiO C cT p H v t/\∀ r H',Same H H'->TgV p H' r t->Q r H'
structure LitT (t:Th):Prop where
 ex:∃ ss on,t=.tup [.tup ss,on]/\(∀ s∈ss,StpT s)/\OnT on/\ss.length<=16
variable {ts:List Th}
theorem TgA.snoc {vs:List V} (h:TgA p H vs ts) (x:TgV p H v t):TgA p H (vs++[v]) (ts++[t]):=h.app (.cons x .nil)
def vW (C:Nat->Addr) (cT:Addr):Sp:=fun vs H Q _=>∃ (p:Addr) (v:V) (t:Th),vs=[v]/\TgV p H v t/\LitT t/\∀ u H',Same H H'->LiO C cT p H' u t->Q u H'
section
variable {P:Program} {w:World} {K:ZF} {mg:Str->Option Value} {base:Heap} {C fi:Nat->Addr} {cT:Addr}
theorem xP:am ["self","steps","on"] ["self","steps","on"] (aj rU):=bG (by decide +kernel)
variable {fd:FuncData} {f:Addr}
theorem uW (F:Fun K "__init__" "Little.__init__" rU f fd) (B:Bl mg) (c:Cls K cT) (n1:NoAttr K cT "steps") (n2:NoAttr K cT "on"):FnOk P w K mg base bu 1 f fd ["self","steps","on"] (rV cT):=by
 have ZZ:=xP
 walk_at "o"
 ·obtain ⟨x,dx,l,us,o,rfl,hx,hl,q⟩:=h
  refine ⟨_,af (bB (pv 0) (aW bA (by rfl) B.tuple bq (aa (pv 1) ac)) rfl) (ah (bB (pv 0) (pv 2) rfl)),?_⟩
  refine ⟨_,rfl,l,us,rfl,.inl ⟨SqL.of hl,fun tp np=>?_⟩⟩
  have hx1:(aC H tp (.tup us)) x=some (.ins cT dx []):=by rw [aw (aU hx np)];exact hx
  have q':=q tp np
  refine ⟨_,rfl,x,cT,dx,_,rfl,hx1,c,n1,(by show 0 < 1000;decide),?_⟩
  exact ⟨_,rfl,_,rfl,x,cT,dx,_,rfl,ad,c,n2,(by show 1 < 1000;decide),q'⟩
theorem uX:am ["self"] ["self"] (aj ki):=bG (by decide +kernel)
theorem z8:(["step"]:List Str).Nodup:=by decide +kernel
theorem rX (F:Fun K "told" "Little.told" ki f fd) (B:Bl mg) (L:Lc K cT) (M:Bw P w K mg base C):FnOk P w K mg base bu 2 f fd ["self"] (rW C cT):=by
 have ZZ:=uX
 walk_at "o"
 ·obtain ⟨p,v,t,rfl,lo,q⟩:=h
  have hr1:Room 1 _:=hr
  have sz:(100000:Nat)<=sizeLine:=by decide
  refine ⟨_,ah (al (aH (aa (aW bA (by rfl) B.tuple bq (aa (fk (N':=["step"]) (ix:=[none]) (sc0:=aj ki) (N:=["self"]) rfl (by decide +kernel) (dj (aV (pv 0) rfl))
     (fun C' cl s H fp=>aI (i:=0) z8 rfl (Or.inl rfl) (.inr rfl)) (fun _ _ _ _ _=>cw) (fun C' cl s H fp=>eJ (P:=P) (w:=w) (K:=K) (mg:=mg) (base:=base) (k:=1) rfl rfl rfl rfl rfl hr1 (pv 0))) ac)) (aa (aV (pv 0) rfl) ac)))),?_⟩
  cases lo with
  | mk a dx tp us o ss on e e2 ps to ho hl hs=>
   have lus:=ps.length
   refine ⟨_,rfl,a,cT,dx,_,_,rfl,e,L.cls,L.n1,rfl,tp,rfl,⟨_,SqT.of e2⟩,?_⟩
   refine gE (K:=K) (a:=tp) (xs:=us) (fun i ys H'=>Same H H'/\ys.length=i/\TgA p H' ys (ss.take i)) ⟨Same.refl _,rfl,.nil⟩ (fun i ys H' hi ⟨s',e',_⟩=>⟨SqT.of (s' _ _ e2),by lia⟩) ?_ ?_
   ·rintro i z ys H2 hz ⟨s2,hl3,tg⟩
    have hlt:i < us.length:=(BL.mp hz).1
    obtain ⟨t,et,st⟩:=gN ps hz
    have st:=st.same s2
    cases st with
    | mk k a2 dx2 us2 ts hk e3 l3 ta sp=>
     obtain ⟨f2,fd2,m2,F2,b2⟩:=M.told k hk
     refine ⟨trivial,cE ⟨_,rfl,a2,dx2,C k,f2,_,fd2,_,_,rfl,e3,eK (uV k).1,M.cls k hk,m2,F2,b2,a2,dx2,us2,rfl,e3,l3,fun r nr=>?_⟩⟩
     have s3:=ae (o:=.tup (.str (wdK k)::us2)) nr
     refine Nx.mk hlt ⟨s2.trans s3,by rw [BN,hl3];rfl,?_⟩
     rw [Cj,et]
     exact (tg.same s3).snoc (.tup ad (.cons (.str _) (ta.same s3)))
   ·rintro ys H2 ⟨s2,hl3,tg⟩ D nD
    rw [lus,Cg] at tg
    generalize zz:aC H2 D _=H3
    have s3:Same H2 H3:=zz ▸ ae nD
    have e3:H3 D=some (.lst ys):=zz ▸ ad
    clear zz
    refine ⟨D,ys,rfl,.inl ⟨SqL.of e3,fun t4 n4=>?_⟩⟩
    generalize zz:aC H3 t4 _=H4
    have s4:Same H3 H4:=zz ▸ ae n4
    have e4:H4 t4=some (.tup ys):=zz ▸ ad
    clear zz
    have s14:=(s2.trans s3).trans s4
    refine ⟨_,rfl,a,cT,dx,_,_,rfl,s14 _ _ e,L.cls,L.n2,rfl,bh,fun r nr=>?_⟩
    have s5:=ae (o:=.tup [.ref t4,o]) nr
    exact q _ _ (s14.trans s5) (.tup ad (.cons (.tup (s5 _ _ e4) (tg.same ((s3.trans s4).trans s5))) (.cons (to.same (s14.trans s5)) .nil)))
theorem LitT.ok (h:LitT t):littleOk t=true/\LitG t:=by
 obtain ⟨ss,on,rfl,hs,ho,hl⟩:=h.ex
 refine ⟨?_,fun ss' on' e=>?_⟩
 ·show (decide (ss.length<=16) && (ss.all stepOk && onOk on))=true
  rw [decide_eq_true hl,ho.ok.1,CA.mpr fun s h=>(hs s h).ok.1];rfl
 ·injection e with e
  injection e with e1 e2
  injection e1 with e1
  injection e2 with e2 _
  subst e1 e2
  exact ⟨fun s h=>(hs s h).ok.2,ho.ok.2,by lia⟩
theorem uY:am ["told"] ["told"] (aj fc):=bG (by decide +kernel)
theorem lG {f fT:Addr} (F:Fun K "little_of" "little_of" fc f fd) (IL:Fn P w K mg base "is_little" 6 ["thing"] (spAsk littleOk LitG)) (SF:Fn P w K mg base "step_of" 6 ["told"] (spStepC C))
  (mk_:Mk K cT fT) (mT:mg "Little"=some (.ref cT)) (I0:IniOk P w K mg base fT ["self","steps","on"] (rV cT)):FnOk P w K mg base bu 7 f fd ["told"] (vW C cT):=by
 have ZZ:=uY
 walk_at "o"
 ·obtain ⟨p,v,t,rfl,tv,lt,q⟩:=h
  have sz:(100000:Nat)<=sizeLine:=by decide
  have hr3:Room 2 _:=hr.mono (by decide)
  obtain ⟨fd0,F0,b0⟩:=I0
  refine ⟨_,af (aQ (cf (bf (aq IL hr rfl (aa (pv 0) ac)))) (ah bx) ay)
   (ah (al (cM mk_ F0 hr3 rfl mT b0 .nil cP (aa (fk (N':=["step"]) (ix:=[none]) (sc0:=aj fc) (N:=["told"]) rfl (by decide +kernel) (dj (au av (pv 0) ai (fun _ _=>rfl)))
     (fun C' cl s H fp=>aI (i:=0) z8 rfl (Or.inl rfl) (.inr rfl)) (fun _ _ _ _ _=>cw) (fun C' cl s H fp=>aq SF hr rfl (aa (pv 0) ac))) (aa (au av (pv 0) ai (fun _ _=>rfl)) ac))))),?_⟩
  obtain ⟨ok,lg⟩:=lt.ok
  refine ⟨_,rfl,p,v,t,rfl,tv,lg,fun H1 s1=>⟨_,rfl,?_⟩⟩
  rw [ok]
  refine bz ?_
  obtain ⟨ss,on,rfl,hs,ho,hl⟩:=lt.ex
  cases tv with
  | @tup a xs _ e0 ta=>
   obtain ⟨x,y,tx,ty,rfl,ets,hx,hy⟩:=ta.two rfl
   cases ets
   cases hx with
   | @tup b us _ eb tb=>
    have e:=s1 _ _ e0
    have eb1:=s1 _ _ eb
    have hl2:=tb.length
    refine ⟨_,rfl,a,_,_,_,rfl,rfl,SqT.of e,rfl,b,rfl,⟨_,SqT.of eb1⟩,?_⟩
    refine gE (K:=K) (a:=b) (xs:=us) (fun i ys H'=>Same H1 H'/\ys.length=i/\Paired (StO C p H') ys (ss.take i)) ⟨Same.refl _,rfl,.nil⟩ (fun i ys H' hi ⟨s',e',_⟩=>⟨SqT.of (s' _ _ eb1),by lia⟩) ?_ ?_
    ·rintro i z ys H2 hz ⟨s2,hl3,pr⟩
     have hlt:i < us.length:=(BL.mp hz).1
     obtain ⟨tz,etz,hzt⟩:=tb.get hz
     have hm:=Ca etz
     refine ⟨trivial,cE ⟨_,rfl,p,z,tz,rfl,hzt.same (s1.trans s2),hs tz hm,fun u H3 s3 ob=>Nx.mk hlt ⟨s2.trans s3,by rw [BN,hl3];rfl,?_⟩⟩⟩
     rw [Cj,etz]
     exact gV ob (L2.Paired.mapP pr fun _ _ h=>h.same s3)
    ·rintro ys H2 ⟨s2,hl3,pr⟩ D nD
     rw [hl2,Cg] at pr
     generalize zz:aC H2 D _=H3
     have s3:Same H2 H3:=zz ▸ ae nD
     have e3:H3 D=some (.lst ys):=zz ▸ ad
     clear zz
     have s13:=s2.trans s3
     refine ⟨_,rfl,a,_,_,_,rfl,rfl,SqT.of (s13 _ _ e),rfl,fun x0 dx nx nd ne=>⟨x0,dx,D,ys,_,rfl,ad,?_,fun tp np=>?_⟩⟩
     ·exact aG nx (ae nd) _ _ e3
     ·have hx0:tp≠x0:=by
       rintro rfl
       rw [ad] at np
       cases np
      refine ⟨rfl,q _ _ (s1.trans ?_) (.mk x0 dx tp ys _ ss on ad (by rw [aw hx0,aw hx0];exact ad) (L2.Paired.mapP pr fun _ _ h=>h.same ?_) (hy.same (s1.trans ?_)) ho hl hs)⟩
      ·exact s13.trans (aG nx (aG nx ((aG nx (ae nd)).trans (ae np))))
      ·exact s3.trans (aG nx (aG nx ((aG nx (ae nd)).trans (ae np))))
      ·exact s13.trans (aG nx (aG nx ((aG nx (ae nd)).trans (ae np))))
end
def ja {α:Type}:Nat->List α->List α
 | 0,a::_=>[a]
 | 1,a::_=>[a]
 | 2,a::_=>[a]
 | 3,a::_=>[a]
 | _,_=>[]
def jy {α:Type}:Nat->List α->List α
 | 2,_::r=>r
 | 3,_::_::r=>r
 | 4,_::r=>r
 | 5,_::r=>r
 | 6,r=>r
 | _,_=>[]
def tE {α:Type}:Nat->List α->Option (Str×α)
 | 0,[_,b]=>some ("place",b)
 | 1,[_,b]=>some ("mark",b)
 | 4,a::_=>some ("place",a)
 | 5,a::_=>some ("mark",a)
 | _,_=>none
def ff (C:Nat->Addr) (k:Nat) (g:Nat->List V->List V):Sp:=fun vs H Q _=>∃ (a dx:Addr) (us:List V),vs=[.ref a]/\H a=some (.ins (C k) dx ((flK k).zip us))/\us.length=(flK k).length/\∀ l H',Same H H'->H' l=some (.lst (g k us))->Q (.ref l) H'
def Bb (H:Hp) (l:Addr):Option (Str×V)->Prop
 | none=>H l=some (.lst [])
 | some (s,u)=>∃ t,H l=some (.lst [.ref t])/\H t=some (.tup [.str s,u])
def lH (C:Nat->Addr) (k:Nat):Sp:=fun vs H Q _=>∃ (a dx:Addr) (us:List V),vs=[.ref a]/\H a=some (.ins (C k) dx ((flK k).zip us))/\us.length=(flK k).length/\∀ l H',Same H H'->Bb H' l (tE k us)->Q (.ref l) H'
section
variable {P:Program} {w:World} {K:ZF} {mg:Str->Option Value} {base:Heap} {C fi:Nat->Addr}
abbrev rY:Stmt:=aN (bH 77) 3
theorem rZ:am ["self"] ["self"] (aj rY):=bG (by decide +kernel)
abbrev sf:Stmt:=aN (bH 78) 4
theorem xQ:am ["self"] ["self"] (aj sf):=bG (by decide +kernel)
variable {fd:FuncData} {f:Addr}
theorem xS (F:Fun K "targets" "Get.targets" sf f fd) (T:Ct K mg C fi):FnOk P w K mg base bu 1 f fd ["self"] (ff C 0 ja):=by
 have ZZ:=xQ
 walk_at "o"
 ·obtain ⟨a,dx,us,rfl,ho,hl,q⟩:=h
  refine ⟨_,ah (al (aL (aa (aV (pv 0) rfl) ac))),?_⟩
  obtain ⟨u1,u2,rfl⟩:=us2 hl
  exact ⟨_,rfl,a,C 0,dx,_,_,rfl,ho,T.cls 0 (by decide),T.na 0 (by decide) "to" (by decide +kernel),rfl,bh,fun l nl=>q l _ (ae nl) ad⟩
abbrev sg:Stmt:=aN (bH 79) 4
theorem xT:am ["self"] ["self"] (aj sg):=bG (by decide +kernel)
theorem xU (F:Fun K "targets" "Ask.targets" sg f fd) (T:Ct K mg C fi):FnOk P w K mg base bu 1 f fd ["self"] (ff C 1 ja):=by
 have ZZ:=xT
 walk_at "o"
 ·obtain ⟨a,dx,us,rfl,ho,hl,q⟩:=h
  refine ⟨_,ah (al (aL (aa (aV (pv 0) rfl) ac))),?_⟩
  obtain ⟨u1,u2,rfl⟩:=us2 hl
  exact ⟨_,rfl,a,C 1,dx,_,_,rfl,ho,T.cls 1 (by decide),T.na 1 (by decide) "to" (by decide +kernel),rfl,bh,fun l nl=>q l _ (ae nl) ad⟩
abbrev si:Stmt:=aN (bH 80) 4
theorem xV:am ["self"] ["self"] (aj si):=bG (by decide +kernel)
theorem xW (F:Fun K "targets" "Cell.targets" si f fd) (T:Ct K mg C fi):FnOk P w K mg base bu 1 f fd ["self"] (ff C 2 ja):=by
 have ZZ:=xV
 walk_at "o"
 ·obtain ⟨a,dx,us,rfl,ho,hl,q⟩:=h
  refine ⟨_,ah (al (aL (aa (aV (pv 0) rfl) ac))),?_⟩
  obtain ⟨u1,u2,rfl⟩:=us2 hl
  exact ⟨_,rfl,a,C 2,dx,_,_,rfl,ho,T.cls 2 (by decide),T.na 2 (by decide) "to" (by decide +kernel),rfl,bh,fun l nl=>q l _ (ae nl) ad⟩
abbrev sj:Stmt:=aN (bH 81) 5
theorem xX:am ["self"] ["self"] (aj sj):=bG (by decide +kernel)
theorem xY (F:Fun K "targets" "Two.targets" sj f fd) (T:Ct K mg C fi):FnOk P w K mg base bu 1 f fd ["self"] (ff C 3 ja):=by
 have ZZ:=xX
 walk_at "o"
 ·obtain ⟨a,dx,us,rfl,ho,hl,q⟩:=h
  refine ⟨_,ah (al (aL (aa (aV (pv 0) rfl) ac))),?_⟩
  obtain ⟨u1,u2,u3,u4,rfl⟩:=us4 hl
  exact ⟨_,rfl,a,C 3,dx,_,_,rfl,ho,T.cls 3 (by decide),T.na 3 (by decide) "to" (by decide +kernel),rfl,bh,fun l nl=>q l _ (ae nl) ad⟩
theorem xZ (F:Fun K "targets" "Step.targets" rY f fd) (T:Ct K mg C fi):FnOk P w K mg base bu 1 f fd ["self"] (ff C 4 ja):=by
 have ZZ:=rZ
 walk_at "o"
 ·obtain ⟨a,dx,us,rfl,ho,hl,q⟩:=h
  refine ⟨_,ah (al (aL ac)),?_⟩
  obtain ⟨u1,u2,rfl⟩:=us2 hl
  exact ⟨bh,fun l nl=>q l _ (ae nl) ad⟩
theorem x6 (F:Fun K "targets" "Step.targets" rY f fd) (T:Ct K mg C fi):FnOk P w K mg base bu 1 f fd ["self"] (ff C 5 ja):=by
 have ZZ:=rZ
 walk_at "o"
 ·obtain ⟨a,dx,us,rfl,ho,hl,q⟩:=h
  refine ⟨_,ah (al (aL ac)),?_⟩
  obtain ⟨u1,u2,rfl⟩:=us2 hl
  exact ⟨bh,fun l nl=>q l _ (ae nl) ad⟩
theorem x9 (F:Fun K "targets" "Step.targets" rY f fd) (T:Ct K mg C fi):FnOk P w K mg base bu 1 f fd ["self"] (ff C 6 ja):=by
 have ZZ:=rZ
 walk_at "o"
 ·obtain ⟨a,dx,us,rfl,ho,hl,q⟩:=h
  refine ⟨_,ah (al (aL ac)),?_⟩
  obtain ⟨u1,u2,rfl⟩:=us2 hl
  exact ⟨bh,fun l nl=>q l _ (ae nl) ad⟩
abbrev uZ:Stmt:=aN (bH 77) 1
theorem vX:am ["self"] ["self"] (aj uZ):=bG (by decide +kernel)
theorem ya (F:Fun K "sources" "Step.sources" uZ f fd) (T:Ct K mg C fi):FnOk P w K mg base bu 1 f fd ["self"] (ff C 0 jy):=by
 have ZZ:=vX
 walk_at "o"
 ·obtain ⟨a,dx,us,rfl,ho,hl,q⟩:=h
  refine ⟨_,ah (al (aL ac)),?_⟩
  obtain ⟨u1,u2,rfl⟩:=us2 hl
  exact ⟨bh,fun l nl=>q l _ (ae nl) ad⟩
theorem yb (F:Fun K "sources" "Step.sources" uZ f fd) (T:Ct K mg C fi):FnOk P w K mg base bu 1 f fd ["self"] (ff C 1 jy):=by
 have ZZ:=vX
 walk_at "o"
 ·obtain ⟨a,dx,us,rfl,ho,hl,q⟩:=h
  refine ⟨_,ah (al (aL ac)),?_⟩
  obtain ⟨u1,u2,rfl⟩:=us2 hl
  exact ⟨bh,fun l nl=>q l _ (ae nl) ad⟩
abbrev sk:Stmt:=aN (bH 80) 3
theorem yc:am ["self"] ["self"] (aj sk):=bG (by decide +kernel)
theorem yd (F:Fun K "sources" "Cell.sources" sk f fd) (T:Ct K mg C fi):FnOk P w K mg base bu 1 f fd ["self"] (ff C 2 jy):=by
 have ZZ:=yc
 walk_at "o"
 ·obtain ⟨a,dx,us,rfl,ho,hl,q⟩:=h
  refine ⟨_,ah (al (aL (aa (aV (pv 0) rfl) ac))),?_⟩
  obtain ⟨u1,u2,rfl⟩:=us2 hl
  exact ⟨_,rfl,a,C 2,dx,_,_,rfl,ho,T.cls 2 (by decide),T.na 2 (by decide) "source" (by decide +kernel),rfl,bh,fun l nl=>q l _ (ae nl) ad⟩
abbrev su:Stmt:=aN (bH 81) 4
theorem ye:am ["self"] ["self"] (aj su):=bG (by decide +kernel)
theorem yf (F:Fun K "sources" "Two.sources" su f fd) (T:Ct K mg C fi):FnOk P w K mg base bu 1 f fd ["self"] (ff C 3 jy):=by
 have ZZ:=ye
 walk_at "o"
 ·obtain ⟨a,dx,us,rfl,ho,hl,q⟩:=h
  refine ⟨_,ah (al (aL (aa (aV (pv 0) rfl) (aa (aV (pv 0) rfl) ac)))),?_⟩
  obtain ⟨u1,u2,u3,u4,rfl⟩:=us4 hl
  exact ⟨_,rfl,a,C 3,dx,_,_,rfl,ho,T.cls 3 (by decide),T.na 3 (by decide) "one" (by decide +kernel),rfl,_,rfl,a,C 3,dx,_,_,rfl,ho,T.cls 3 (by decide),T.na 3 (by decide) "other" (by decide +kernel),rfl,bh,fun l nl=>q l _ (ae nl) ad⟩
abbrev sw:Stmt:=aN (bH 82) 4
theorem yg:am ["self"] ["self"] (aj sw):=bG (by decide +kernel)
theorem yh (F:Fun K "sources" "Put.sources" sw f fd) (T:Ct K mg C fi):FnOk P w K mg base bu 1 f fd ["self"] (ff C 4 jy):=by
 have ZZ:=yg
 walk_at "o"
 ·obtain ⟨a,dx,us,rfl,ho,hl,q⟩:=h
  refine ⟨_,ah (al (aL (aa (aV (pv 0) rfl) ac))),?_⟩
  obtain ⟨u1,u2,rfl⟩:=us2 hl
  exact ⟨_,rfl,a,C 4,dx,_,_,rfl,ho,T.cls 4 (by decide),T.na 4 (by decide) "source" (by decide +kernel),rfl,bh,fun l nl=>q l _ (ae nl) ad⟩
abbrev sx:Stmt:=aN (bH 83) 4
theorem yi:am ["self"] ["self"] (aj sx):=bG (by decide +kernel)
theorem yj (F:Fun K "sources" "Tell.sources" sx f fd) (T:Ct K mg C fi):FnOk P w K mg base bu 1 f fd ["self"] (ff C 5 jy):=by
 have ZZ:=yi
 walk_at "o"
 ·obtain ⟨a,dx,us,rfl,ho,hl,q⟩:=h
  refine ⟨_,ah (al (aL (aa (aV (pv 0) rfl) ac))),?_⟩
  obtain ⟨u1,u2,rfl⟩:=us2 hl
  exact ⟨_,rfl,a,C 5,dx,_,_,rfl,ho,T.cls 5 (by decide),T.na 5 (by decide) "source" (by decide +kernel),rfl,bh,fun l nl=>q l _ (ae nl) ad⟩
abbrev sy:Stmt:=aN (bH 84) 3
theorem yk:am ["self"] ["self"] (aj sy):=bG (by decide +kernel)
theorem yl (F:Fun K "sources" "Store.sources" sy f fd) (T:Ct K mg C fi):FnOk P w K mg base bu 1 f fd ["self"] (ff C 6 jy):=by
 have ZZ:=yk
 walk_at "o"
 ·obtain ⟨a,dx,us,rfl,ho,hl,q⟩:=h
  refine ⟨_,ah (al (aL (aa (aV (pv 0) rfl) (aa (aV (pv 0) rfl) ac)))),?_⟩
  obtain ⟨u1,u2,rfl⟩:=us2 hl
  exact ⟨_,rfl,a,C 6,dx,_,_,rfl,ho,T.cls 6 (by decide),T.na 6 (by decide) "at" (by decide +kernel),rfl,_,rfl,a,C 6,dx,_,_,rfl,ho,T.cls 6 (by decide),T.na 6 (by decide) "source" (by decide +kernel),rfl,bh,fun l nl=>q l _ (ae nl) ad⟩
abbrev sC:Stmt:=aN (bH 77) 2
theorem sD:am ["self"] ["self"] (aj sC):=bG (by decide +kernel)
abbrev sE:Stmt:=aN (bH 78) 3
theorem ym:am ["self"] ["self"] (aj sE):=bG (by decide +kernel)
theorem yn (F:Fun K "selects" "Get.selects" sE f fd) (T:Ct K mg C fi):FnOk P w K mg base bu 1 f fd ["self"] (lH C 0):=by
 have ZZ:=ym
 walk_at "o"
 ·obtain ⟨a,dx,us,rfl,ho,hl,q⟩:=h
  refine ⟨_,ah (al (aL (aa (aH (aa ak (aa (aV (pv 0) rfl) ac))) ac))),?_⟩
  obtain ⟨u1,u2,rfl⟩:=us2 hl
  refine ⟨_,rfl,a,C 0,dx,_,_,rfl,ho,T.cls 0 (by decide),T.na 0 (by decide) "sel" (by decide +kernel),rfl,bh,fun t nt=>⟨bh,fun l nl=>q l _ ((ae nt).trans (ae nl)) ⟨t,ad,?_⟩⟩⟩
  exact ae nl _ _ ad
abbrev sG:Stmt:=aN (bH 79) 3
theorem yo:am ["self"] ["self"] (aj sG):=bG (by decide +kernel)
theorem yp (F:Fun K "selects" "Ask.selects" sG f fd) (T:Ct K mg C fi):FnOk P w K mg base bu 1 f fd ["self"] (lH C 1):=by
 have ZZ:=yo
 walk_at "o"
 ·obtain ⟨a,dx,us,rfl,ho,hl,q⟩:=h
  refine ⟨_,ah (al (aL (aa (aH (aa ak (aa (aV (pv 0) rfl) ac))) ac))),?_⟩
  obtain ⟨u1,u2,rfl⟩:=us2 hl
  refine ⟨_,rfl,a,C 1,dx,_,_,rfl,ho,T.cls 1 (by decide),T.na 1 (by decide) "sel" (by decide +kernel),rfl,bh,fun t nt=>⟨bh,fun l nl=>q l _ ((ae nt).trans (ae nl)) ⟨t,ad,?_⟩⟩⟩
  exact ae nl _ _ ad
theorem yq (F:Fun K "selects" "Step.selects" sC f fd) (T:Ct K mg C fi):FnOk P w K mg base bu 1 f fd ["self"] (lH C 2):=by
 have ZZ:=sD
 walk_at "o"
 ·obtain ⟨a,dx,us,rfl,ho,hl,q⟩:=h
  refine ⟨_,ah (al (aL ac)),?_⟩
  obtain ⟨u1,u2,rfl⟩:=us2 hl
  exact ⟨bh,fun l nl=>q l _ (ae nl) ad⟩
theorem yr (F:Fun K "selects" "Step.selects" sC f fd) (T:Ct K mg C fi):FnOk P w K mg base bu 1 f fd ["self"] (lH C 3):=by
 have ZZ:=sD
 walk_at "o"
 ·obtain ⟨a,dx,us,rfl,ho,hl,q⟩:=h
  refine ⟨_,ah (al (aL ac)),?_⟩
  obtain ⟨u1,u2,u3,u4,rfl⟩:=us4 hl
  exact ⟨bh,fun l nl=>q l _ (ae nl) ad⟩
abbrev sI:Stmt:=aN (bH 82) 3
theorem yt:am ["self"] ["self"] (aj sI):=bG (by decide +kernel)
theorem yu (F:Fun K "selects" "Put.selects" sI f fd) (T:Ct K mg C fi):FnOk P w K mg base bu 1 f fd ["self"] (lH C 4):=by
 have ZZ:=yt
 walk_at "o"
 ·obtain ⟨a,dx,us,rfl,ho,hl,q⟩:=h
  refine ⟨_,ah (al (aL (aa (aH (aa ak (aa (aV (pv 0) rfl) ac))) ac))),?_⟩
  obtain ⟨u1,u2,rfl⟩:=us2 hl
  refine ⟨_,rfl,a,C 4,dx,_,_,rfl,ho,T.cls 4 (by decide),T.na 4 (by decide) "sel" (by decide +kernel),rfl,bh,fun t nt=>⟨bh,fun l nl=>q l _ ((ae nt).trans (ae nl)) ⟨t,ad,?_⟩⟩⟩
  exact ae nl _ _ ad
abbrev sJ:Stmt:=aN (bH 83) 3
theorem yw:am ["self"] ["self"] (aj sJ):=bG (by decide +kernel)
theorem yx (F:Fun K "selects" "Tell.selects" sJ f fd) (T:Ct K mg C fi):FnOk P w K mg base bu 1 f fd ["self"] (lH C 5):=by
 have ZZ:=yw
 walk_at "o"
 ·obtain ⟨a,dx,us,rfl,ho,hl,q⟩:=h
  refine ⟨_,ah (al (aL (aa (aH (aa ak (aa (aV (pv 0) rfl) ac))) ac))),?_⟩
  obtain ⟨u1,u2,rfl⟩:=us2 hl
  refine ⟨_,rfl,a,C 5,dx,_,_,rfl,ho,T.cls 5 (by decide),T.na 5 (by decide) "sel" (by decide +kernel),rfl,bh,fun t nt=>⟨bh,fun l nl=>q l _ ((ae nt).trans (ae nl)) ⟨t,ad,?_⟩⟩⟩
  exact ae nl _ _ ad
theorem yy (F:Fun K "selects" "Step.selects" sC f fd) (T:Ct K mg C fi):FnOk P w K mg base bu 1 f fd ["self"] (lH C 6):=by
 have ZZ:=sD
 walk_at "o"
 ·obtain ⟨a,dx,us,rfl,ho,hl,q⟩:=h
  refine ⟨_,ah (al (aL ac)),?_⟩
  obtain ⟨u1,u2,rfl⟩:=us2 hl
  exact ⟨bh,fun l nl=>q l _ (ae nl) ad⟩
end
abbrev ot:Stmt:=bH 94
abbrev c7:Stmt:=bH 95
abbrev iJ:Stmt:=bH 96
abbrev iL:Stmt:=bH 97
abbrev gR:Stmt:=bH 98
abbrev kj:Stmt:=bH 99
def gr (fs:List (Str×Str)) (i:Nat) (so:Str):Bool:=match fs[i]? with
 | some f=>decide (f.2=so)
 | none=>false
def db (D:Fm) (fs:List (Str×Str)) (so:Str):Th->Bool
 | .tup [.str w,.int i]=>if w="by" then gr fs i.toNat so else decide (i < (if so="place" then D.places.length else D.marks.length:Nat))
 | _=>false
def cy (D:Fm) (fs:List (Str×Str)) (m:Nat):Th->Bool
 | .tup [.str w,.int i]=>if w="in" then decide (i < m) else if w="field" then gr fs i.toNat "number" else decide (i < (2 ^ D.width:Nat))
 | _=>false
theorem ou (D:Fm) (fs:List (Str×Str)) (so:Str) (i:Nat):db D fs so (.tup [.str "is",.int i])=decide ((i:Int) < (if so="place" then D.places.length else D.marks.length:Nat)):=by first|rfl|(simp only [db,cy];rfl)|(unfold db;simp;decide)|(unfold cy;simp;decide)
theorem ow (D:Fm) (fs:List (Str×Str)) (so:Str) (i:Nat):db D fs so (.tup [.str "by",.int i])=gr fs i so:=by first|rfl|(simp only [db,cy];rfl)|(unfold db;simp;decide)|(unfold cy;simp;decide)
theorem oy (D:Fm) (fs:List (Str×Str)) (m i:Nat):cy D fs m (.tup [.str "in",.int i])=decide ((i:Int) < m):=by first|rfl|(simp only [db,cy];rfl)|(unfold db;simp;decide)|(unfold cy;simp;decide)
theorem lI (D:Fm) (fs:List (Str×Str)) (m i:Nat):cy D fs m (.tup [.str "field",.int i])=gr fs i "number":=by first|rfl|(simp only [db,cy];rfl)|(unfold db;simp;decide)|(unfold cy;simp;decide)
theorem lJ (D:Fm) (fs:List (Str×Str)) (m i:Nat):cy D fs m (.tup [.str "number",.int i])=decide ((i:Int) < (2 ^ D.width:Nat)):=by first|rfl|(simp only [db,cy];rfl)|(unfold db;simp;decide)|(unfold cy;simp;decide)
def nj (m:Nat):Th->Bool
 | .int i=>decide (i < m)
 | _=>false
def vY (D:Fm) (fs:List (Str×Str)):Option (Str×Th)->Bool
 | some (s,t)=>db D fs s t
 | none=>true
def oz (D:Fm) (fs:List (Str×Str)) (m k:Nat) (ts:List Th):Bool:=(ja k ts).all (nj m) && (vY D fs (tE k ts) && (jy k ts).all (cy D fs m))
def sK (w:Str):Nat:=if w="get" then 0 else if w="ask" then 1 else if w="cell" then 2 else if w="two" then 3 else if w="put" then 4 else if w="tell" then 5 else 6
theorem yz:∀ k,k < 7->sK (wdK k)=k:=by decide +kernel
def dc (D:Fm) (fs:List (Str×Str)) (m:Nat):Th->Bool
 | .tup (.str w::ts)=>oz D fs m (sK w) ts
 | _=>false
def iM (fs:List (Str×Str)):Th->Bool
 | .tup [.str w,.int i]=>if w="go"\/w="call" then gr fs i.toNat "row" else true
 | _=>true
def yA (fs:List (Str×Str)) (m:Nat):Th->Bool
 | .tup [.str _,.int i,_,_]=>decide (i < m)
 | .tup [.str w,e]=>if w="done" then iM fs e else true
 | _=>true
def yB (D:Fm) (fs:List (Str×Str)) (m:Nat):Th->Bool
 | .tup [.tup ss,on]=>ss.all (dc D fs m) && yA fs m on
 | _=>false
def FdV (H:Hp) (tf:Addr) (fs:List (Str×Str)):Prop:=∃ us,H tf=some (.tup us)/\Paired (FldV H) us fs
theorem FdV.same {tf:Addr} {fs:List (Str×Str)} (h:FdV H tf fs) (s:Same H H'):FdV H' tf fs:=let ⟨us,e,p⟩:=h;⟨us,s _ _ e,cq (fun _ _ h=>FldV.kt (be s) h) p⟩
def u7:Sp:=fun vs H Q _=>∃ (tf:Addr) (i:Nat) (so:Str) (fs:List (Str×Str)),vs=[.ref tf,.int i,.str so]/\FdV H tf fs/\Q (.bl (gr fs i so)) H
def sL (C:Addr):Sp:=fun vs H Q _=>∃ (v:V) (tf:Addr) (so:Str) (u:V) (D:Fm) (fs:List (Str×Str)) (p:Addr) (t:Th),vs=[v,.ref tf,.str so,u]/\TabV C H v D/\FdV H tf fs/\TgV p H u t/\SelT t/\Q (.bl (db D fs so t)) H
def sM (C:Addr):Sp:=fun vs H Q _=>∃ (v:V) (tf:Addr) (m:Nat) (u:V) (D:Fm) (fs:List (Str×Str)) (p:Addr) (t:Th),vs=[v,.ref tf,.int m,u]/\TabV C H v D/\D.width<=24/\FdV H tf fs/\TgV p H u t/\SrcT t/\Q (.bl (cy D fs m t)) H
def vZ:Sp:=fun vs H Q _=>∃ (tf:Addr) (m:Nat) (u:V) (fs:List (Str×Str)) (p:Addr) (t:Th),vs=[.ref tf,.int m,u]/\FdV H tf fs/\TgV p H u t/\OnT t/\∀ H',Same H H'->Q (.bl (yA fs m t)) H'
def z9:Sp:=fun vs H Q _=>∃ i w:Nat,vs=[.int i,.int w]/\w<=24/\Q (.bl (decide (i < 2 ^ w))) H
variable {P:Program} {w:World} {K:ZF} {mg:Str->Option Value} {base:Heap} {C fi aS aE aF aO:Addr} {t1 t2 t3 t4 t5 tM:Tok}
theorem bW {α:Type} {x:α} {r:List α}:kG (x::r) 0=some x:=aJ (j:=0) (xs:=x::r) rfl
theorem ck {α:Type} {x y:α} {r:List α}:kG (x::y::r) 1=some y:=aJ (j:=1) (xs:=x::y::r) rfl
theorem oA (a b:Str):decide (V.str a=V.str b)=decide (a=b):=by
 by_cases h:a=b
 ·subst h;simp
 ·have:¬ V.str a=V.str b:=fun z=>h (by injection z)
  simp [h,this]
theorem Bc:am ["thing","width"] ["thing","width"] (aj qA):=bG (by decide +kernel)
variable {fd:FuncData} {f:Addr}
theorem Aa (F:Fun K "is_word" "is_word" qA f fd) (WI:Fn P w K mg base "is_within" 2 ["thing","low","high"] spWithinT):FnOk P w K mg base bu 3 f fd ["thing","width"] z9:=by
 have ZZ:=Bc
 walk_at "o"
 ·obtain ⟨i,w,rfl,hw,q⟩:=h
  refine ⟨_,ah (al (aq WI hr rfl (aa (pv 0) (aa ai (aa (bi lY (bi lZ ai (pv 1)) ai) ac))))),?_⟩
  refine ⟨_,rfl,_,rfl,_,_,rfl,rfl,⟨by lia,by lia,by decide⟩,_,_,rfl,rfl,0,.int i,.int i,0,_,rfl,.int _,?_⟩
  have e:(1:Int)*2 ^ ((w:Int)).toNat - 1=((2 ^ w - 1:Nat):Int):=by
   have e1:((w:Int)).toNat=w:=by lia
   have e2:((2 ^ w:Nat):Int)=(2:Int) ^ w:=by norm_cast
   have e3:1<=2 ^ w:=Nat.one_le_two_pow
   rw [e1,Int.one_mul,<-e2]
   lia
  rw [e]
  have e4:wn 0 ((2 ^ w - 1:Nat):Int) (.int i)=decide (i < 2 ^ w):=by
   show (decide ((0:Int)<=(i:Int)) && decide ((i:Int)<=((2 ^ w - 1:Nat):Int)))=_
   have e3:1<=2 ^ w:=Nat.one_le_two_pow
   rw [decide_eq_true (by lia),Bool.true_and]
   exact decide_eq_decide.mpr ⟨fun _=>by lia,fun _=>by lia⟩
  rw [e4]
  exact q
theorem Bd:am ["fields","j","sort"] ["fields","j","sort"] (aj gR):=bG (by decide +kernel)
theorem u8 (F:Fun K "has_field" "has_field" gR f fd) (B:Bl mg):FnOk P w K mg base bu 1 f fd ["fields","j","sort"] u7:=by
 have ZZ:=Bd
 walk_at "o"
 ·obtain ⟨tf,i,so,fs,rfl,⟨us,e,hp⟩,q⟩:=h
  have lu:=hp.length
  refine ⟨_,ah (al (bE (aZ ci (pv 1) (aA aT (by rfl) B.len B7 (aa (pv 0) ac)) (az _)) (bJ (aZ bv (au av (au av (pv 0) (pv 1) (fun _ _=>rfl)) ai (fun _ _=>rfl)) (pv 2) (az _))))),?_⟩
  refine ⟨_,rfl,_,rfl,tf,_,rfl,.inr (SqT.of e),_,_,rfl,rfl,_,rfl,?_⟩
  unfold gr at q
  by_cases hi:i < fs.length
  ·obtain ⟨u,hu,g,hg,rfl⟩:∃ u,us[i]?=some u/\∃ g,H g=some (.tup [.str fs[i].1,.str fs[i].2])/\u=.ref g:=by
    obtain ⟨u,hu,g,rfl,hg⟩:=rj hp (BZ hi)
    exact ⟨_,hu,g,hg,rfl⟩
   rw [BZ hi] at q
   dsimp only at q
   refine bj (decide_eq_true (by lia)) ?_
   refine ⟨_,rfl,_,rfl,tf,_,_,_,rfl,rfl,SqT.of e,aJ hu,g,_,_,_,rfl,rfl,SqT.of hg,ck,_,rfl,rfl,?_⟩
   rw [oA]
   exact q
  ·rw [List.getElem?_eq_none (by lia)] at q
   exact aP (decide_eq_false (by lia)) q
theorem scSelF:am ["table","fields","sort","sel","names"] ["table","fields","sort","sel"] (aj iJ):=bG (by decide +kernel)
theorem u9 (F:Fun K "sel_fits" "sel_fits" iJ f fd) (B:Bl mg) (T:Tc K C) (HF:Fn P w K mg base "has_field" 1 ["fields","j","sort"] u7):FnOk P w K mg base bu 2 f fd ["table","fields","sort","sel"] (sL C):=by
 have ZZ:=scSelF
 walk_at "o"
 ·obtain ⟨v,tf,so,u,D,fs,p,t,rfl,hT,hF,tv,st,q⟩:=h
  obtain ⟨a,dx,pp,pm,pn,pk,us,rfl,ho,hpp,hpm,hpn,hpk,hus⟩:=id hT
  have sl:∀ l:List Str,(ap l).length=l.length:=fun l=>by unfold ap;rw [BJ]
  refine ⟨_,af (aQ (ax bv (au av (pv 3) ai (fun _ _=>rfl)) ak (az _)) (ah (al (aq HF hr rfl (aa (pv 1) (aa (au av (pv 3) ai (fun _ _=>rfl)) (aa (pv 2) ac)))))) ay) (cF (fun σ H'=>∃ pn N,σ=[some (.ref a),some (.ref tf),some (.str so),some u,some (.ref pn)]/\H'=H/\H pn=some (.tup (ap N))/\N.length=(if so="place" then D.places.length else D.marks.length)) (aB (i:=4) scSelF.nd rfl (Or.inl rfl) (pQ (ax bv (pv 2) ak (az _)) (aV (pv 0) rfl) (aV (pv 0) rfl))) (ah (al (aZ ci (au av (pv 3) ai (fun _ _=>rfl)) (aA aT (by rfl) B.len B7 (aa (pv 4) ac)) (az _))))),?_⟩
  cases st with
  | is i hi=>
   obtain ⟨b,rfl,e⟩:=tgv2 tv
   refine ⟨_,rfl,b,_,_,_,rfl,rfl,SqT.of e,bW,rfl,_,rfl,aP (by decide +kernel) ?_⟩
   have q':Q (.bl (decide ((i:Int) < (if so="place" then D.places.length else D.marks.length:Nat)))) H:=by
    rw [<-ou]
    exact q
   refine ⟨?_,?_⟩
   ·rintro σ H' ⟨pn,N,rfl,rfl,hN,eN⟩
    refine ⟨_,rfl,b,_,_,_,rfl,rfl,SqT.of e,ck,_,rfl,pn,_,rfl,.inr (SqT.of hN),_,_,rfl,rfl,?_⟩
    rw [sl,eN]
    exact q'
   ·refine ⟨_,rfl,rfl,_,rfl,bN (fun h=>?_) (fun h=>?_)⟩
    ·have h':so="place":=V.str.inj (of_decide_eq_true h)
     exact ⟨_,rfl,a,C,dx,_,_,rfl,ho,T.cl,T.na "places" (by decide +kernel),rfl,pp,D.places,rfl,rfl,hpp,by rw [if_pos h']⟩
    ·have h':so≠"place":=fun e=>h (decide_eq_true (congrArg V.str e))
     exact ⟨_,rfl,a,C,dx,_,_,rfl,ho,T.cl,T.na "marks" (by decide +kernel),rfl,pm,D.marks,rfl,rfl,hpm,by rw [if_neg h']⟩
  | «by» i hi=>
   obtain ⟨b,rfl,e⟩:=tgv2 tv
   refine ⟨_,rfl,b,_,_,_,rfl,rfl,SqT.of e,bW,rfl,_,rfl,bj (by decide +kernel) ?_⟩
   refine ⟨_,rfl,_,rfl,b,_,_,_,rfl,rfl,SqT.of e,ck,_,rfl,tf,i,so,fs,rfl,hF,?_⟩
   rw [<-ow D]
   exact q
theorem yC:am ["table","fields","many","source"] ["table","fields","many","source"] (aj iL):=bG (by decide +kernel)
theorem ve (F:Fun K "source_fits" "source_fits" iL f fd) (T:Tc K C) (HF:Fn P w K mg base "has_field" 1 ["fields","j","sort"] u7) (WD:Fn P w K mg base "is_word" 3 ["thing","width"] z9):FnOk P w K mg base bu 4 f fd ["table","fields","many","source"] (sM C):=by
 have ZZ:=yC
 walk_at "o"
 ·obtain ⟨v,tf,m,u,D,fs,p,t,rfl,hT,hw,hF,tv,st,q⟩:=h
  have hr1:Room 1 _:=hr.mono (by decide)
  obtain ⟨a,dx,pp,pm,pn,pk,us,rfl,ho,hpp,hpm,hpn,hpk,hus⟩:=id hT
  refine ⟨_,af (aQ (ax bv (au av (pv 3) ai (fun _ _=>rfl)) ak (az _)) (ah (al (aZ ci (au av (pv 3) ai (fun _ _=>rfl)) (pv 2) (az _)))) ay) (af (aQ (ax bv (au av (pv 3) ai (fun _ _=>rfl)) ak (az _)) (ah (al (aq HF hr1 rfl (aa (pv 1) (aa (au av (pv 3) ai (fun _ _=>rfl)) (aa ak ac)))))) ay) (ah (al (aq WD hr rfl (aa (au av (pv 3) ai (fun _ _=>rfl)) (aa (aV (pv 0) rfl) ac)))))),?_⟩
  cases st with
  | inn i hi=>
   obtain ⟨b,rfl,e⟩:=tgv2 tv
   refine ⟨_,rfl,b,_,_,_,rfl,rfl,SqT.of e,bW,rfl,_,rfl,bj (by decide +kernel) ?_⟩
   refine ⟨_,rfl,b,_,_,_,rfl,rfl,SqT.of e,ck,_,rfl,_,_,rfl,rfl,?_⟩
   rw [<-oy D fs]
   exact q
  | fld i hi=>
   obtain ⟨b,rfl,e⟩:=tgv2 tv
   refine ⟨_,rfl,b,_,_,_,rfl,rfl,SqT.of e,bW,rfl,_,rfl,aP (by decide +kernel) ?_⟩
   refine ⟨_,rfl,b,_,_,_,rfl,rfl,SqT.of e,bW,rfl,_,rfl,bj (by decide +kernel) ?_⟩
   refine ⟨_,rfl,_,rfl,b,_,_,_,rfl,rfl,SqT.of e,ck,tf,i,_,fs,rfl,hF,?_⟩
   rw [<-lI D fs m]
   exact q
  | num i hi=>
   obtain ⟨b,rfl,e⟩:=tgv2 tv
   refine ⟨_,rfl,b,_,_,_,rfl,rfl,SqT.of e,bW,rfl,_,rfl,aP (by decide +kernel) ?_⟩
   refine ⟨_,rfl,b,_,_,_,rfl,rfl,SqT.of e,bW,rfl,_,rfl,aP (by decide +kernel) ?_⟩
   refine ⟨_,rfl,b,_,_,_,rfl,rfl,SqT.of e,ck,_,rfl,a,C,dx,_,_,rfl,ho,T.cl,T.na "width" (by decide +kernel),rfl,i,D.width,rfl,hw,?_⟩
   have:decide (i < 2 ^ D.width)=decide ((i:Int) < (2 ^ D.width:Nat)):=decide_eq_decide.mpr ⟨fun _=>by lia,fun _=>by lia⟩
   rw [this,<-lJ D fs m]
   exact q
abbrev kl:Stmt:=aN (bH 22) 0
abbrev ko:Stmt:=aN (bH 27) 0
abbrev lK (R:Addr):List Value:=.ref R::XB.bmV
structure Xs (K:ZF) (mg:Str->Option Value) (R fR cK fK cB:Addr):Prop where
 r:XC K R "RowsError" XB.bmV
 k:XC K cK "NoKind" (lK R)
 b:XC K cB "BadStep" (lK R)
 na:NoAttr K cK "name"
 mkx:A9 K cK fK
 ri:vT K R "__init__" fR
 mR:mg "RowsError"=some (.ref R)
 mK:mg "NoKind"=some (.ref cK)
 mB:mg "BadStep"=some (.ref cB)
 val:mg "ValueError"=none
def Be (K:ZF):Sp:=fun vs H Q _=>∃ e x C d r fs nm bm,vs=[.ref e,x]/\XAt H e C d r fs/\XC K C nm bm/\Q .non H
def vf (C:Addr):Sp:=fun vs H Q _=>∃ e x,vs=[.ref e,x]/\XAt H e C none false []/\∀ H' d,XAt H' e C (some d) false [("name",x)]->(∀ b o,H b=some o->b≠e->H' b=some o)->Q .non H'
section
variable {P:Program} {w:World} {K:ZF} {mg:Str->Option Value} {base:Heap} {R fR cK fK cB C:Addr}
theorem Bf:am ["self","text"] ["self","text"] (aj kl):=bG (by decide +kernel)
theorem Ab (F:Fun K "__init__" "RowsError.__init__" kl f fd) (T:Xs K mg R fR cK fK cB):FnOk P w K mg base bu 1 f fd ["self","text"] (Be K):=by
 have ZZ:=Bf
 walk_at "o"
 ·obtain ⟨e,x,C,d,r,fs,nm,bm,rfl,xa,c,q⟩:=h
  refine ⟨_,ah (bo (uS rfl T.val (aa (pv 0) (aa (pv 1) ac)))),?_⟩
  exact ⟨_,rfl,_,rfl,e,[x],C,d,r,fs,nm,bm,rfl,(by show 1<=1000;decide),xa,c,q⟩
def Bg (P:Program) (w:World) (K:ZF) (mg:Str->Option Value) (base:Heap) (fR:Addr):Prop:=∃ fd,Binds K fd ["self","text"] []/\FnOk P w K mg base bu 1 fR fd ["self","text"] (Be K)
theorem yD {X:Cx} {p apos pos:Pos} {e:Expr} {es:List Expr} {t:TA} (h:Bg X.prog X.w X.K X.mg X.base fR) (T:Xs X.K X.mg R fR cK fK cB) (hr:Room 1 X.A) (hg:Gl X "RowsError") (ha:PA X (e::es) t)
  (hst:starEach (e::es) X.env=(false,eval e X.env)::starEach es X.env:=by rfl) (hpl:(backTo pos (starEach es X.env)).any (·.1)=false:=by rfl) (pl:Sem Bool)
  (ht:eval (.Call (.Attribute (.Name "RowsError" p) "__init__" apos) (e::es) [] pos) X.env=(do
   let ov <-eval (.Name "RowsError" p) X.env
   standAt apos.atName
   let (f,first) <-holding [ov] (getMethod ov "__init__" pl)
   callWith pos f first (backTo pos (starEach (e::es) X.env)) (backToKw pos (keywordEach [] X.env)))) :
  PE X (.Call (.Attribute (.Name "RowsError" p) "__init__" apos) (e::es) [] pos) (nL (Be X.K) [] E0 t):=by
 obtain ⟨fd,hb,F⟩:=h
 exact rM (pl:=pl) T.ri F hr hg T.mR hb cP ha (by decide) hst hpl ht
theorem Bh:am ["self","name"] ["self","name"] (aj ko):=bG (by decide +kernel)
theorem Ac (F:Fun K "__init__" "NoKind.__init__" ko f fd) (T:Xs K mg R fR cK fK cB) (RI':Bg P w K mg base fR):FnOk P w K mg base bu 2 f fd ["self","name"] (vf cK):=by
 have ZZ:=Bh
 walk_at "o"
 ·obtain ⟨e,x,rfl,xa,q⟩:=h
  refine ⟨_,af (bo (yD RI' T hr rfl (aa (pv 0) (aa ak ac)) rfl rfl _ rfl)) (ah (uR (pv 0) (pv 1))),?_⟩
  refine ⟨_,rfl,e,_,cK,none,false,[],"NoKind",lK R,rfl,xa,T.k,?_⟩
  refine ⟨_,rfl,_,rfl,e,cK,none,false,[],"NoKind",lK R,rfl,xa,T.k,T.na,(by show 0 < 1000;decide),fun H3 d' xs=>?_⟩
  exact q H3 d' xs.at_ fun b o hb ne=>xs.keep b o hb ne (fun z=>nomatch z)
def nu (K:ZF) (H:Hp) (D:Fm) (z:V):Prop:=(cO z=true/\eQ z (ap (D.kinds.map Kn.name))=false)\/∃ a,z=.ref a/\oq K H a
def nv (cK:Addr) (z:V) (H:Hp) (E:XK):Prop:=∀ e d H',Same H H'->H e=none->XAt H' e cK (some d) true [("name",z)]->E (.ref e) none H'
def kq (K:ZF) (C cK:Addr):Sp:=fun vs H Q E=>∃ v D z,vs=[v,z]/\TabV C H v D/\((∃ (x:Str) (j:Nat),z=.str x/\(D.kinds.map Kn.name)[j]?=some x/\(∀ m,m < j->(D.kinds.map Kn.name)[m]?≠some x)/\Q (.int j) H)\/(nu K H D z/\nv cK z H E))
theorem sN {fd fdK:FuncData} (F:Fun K "kind_at" "Table.kind_at" j4 f fd) (T:Tc K C) (TX:Xs K mg R fR cK fK cB) (FK:FnOk P w K mg base bu 2 fK fdK ["self","name"] (vf cK)) (BK:Binds K fdK ["self","name"] []) :
  FnOk P w K mg base (lR P w) 4 f fd ["self","kind"] (kq K C cK):=by
 refine F.okX rl (fun vs H Q E h=>?_) (fun cdv A outer s H vs Q E hr h=>?_)
 ·obtain ⟨v,D,z,rfl,_⟩:=h
  rfl
 ·obtain ⟨v,D,z,rfl,⟨a,dx,pp,pm,pn,pk,us,rfl,ho,hpp,hpm,hpn,hpk,hus⟩,h⟩:=h
  have hr3:Room 3 _:=hr
  refine ⟨_,af (aQ (ax (gQ cD (pE hr)) (pv 1) (aV (pv 0) rfl) rfl) (ah (rQ (rL TX.k TX.mkx FK hr3 rfl TX.mK BK cP (by decide) (aa (pv 1) ac)) gq rfl)) ay)
   (ah (al (wU PySem.F.plainAttrs_tuple PySem.F.slot_tuple_index PySem.F.type_tuple_index ld (aV (pv 0) rfl) (aa (pv 1) ac)))),?_⟩
  refine ⟨_,rfl,_,rfl,a,C,dx,_,_,rfl,ho,T.cl,T.na "kinds" (by decide +kernel),rfl,?_⟩
  rcases h with ⟨x,j,rfl,hj,hf,q⟩|⟨nk,q⟩
  ·have hz:x∈D.kinds.map Kn.name:=Ca hj
   refine .inl ⟨pn,_,rfl,.inr (SqT.of hpn),rfl,bC _,_,rfl,aP ?_ ?_⟩
   ·show (!eQ (.str x) (ap (D.kinds.map Kn.name)))=false
    rw [bM,CC.mpr hz]
    rfl
   ·exact ⟨_,rfl,a,C,dx,_,_,rfl,ho,T.cl,T.na "kinds" (by decide +kernel),rfl,pn,_,rfl,hpn,_,rfl,pn,_,x,j,rfl,rfl,SqT.of hpn,hj,hf,q⟩
  ·have rs:rP K (rK cK (vf cK) E0 (fh (iW 1) mh)) (fun _=>E) { nx:=fun _ H'=>Q .non H',rt:=Q } (start ["self","kind"] [.ref a,z]) H:=by
    refine ⟨_,rfl,fun e he=>⟨e,z,rfl,⟨ad,by show 0<=1000;decide,rfl⟩,fun H2 d xa k=>⟨rfl,e,cK,some d,_,"NoKind",lK R,rfl,xa,TX.k,?_⟩⟩⟩
    obtain ⟨x1,x2,x3,x4⟩:=xa
    refine q e d _ (fun b o hb=>?_) he ⟨ad,x2,x3,by rw [aw x3];exact x4⟩
    have ne:b≠e:=aU hb he
    rw [aw ne]
    exact k b o (by rw [aw ne];exact hb) ne
   rcases nk with ⟨fl,hi⟩|⟨b,rfl,rt⟩
   ·exact .inl ⟨pn,_,rfl,.inr (SqT.of hpn),fl,bC _,_,rfl,bj (by show (!eQ z (ap (D.kinds.map Kn.name)))=true;rw [hi];rfl) rs⟩
   ·exact .inr ⟨b,pn,D.kinds.map Kn.name,rfl,rfl,rt,.inr (SqT.of hpn),_,rfl,bj rfl rs⟩
def sO (P:Program) (w:World) (K:ZF) (mg:Str->Option Value) (base:Heap) (C:Addr) (nm:Str) (n:Nat) (ps:List Str) (sp:Sp):Prop:=∃ f fd,l0 K C nm f/\FnOk P w K mg base (lR P w) n f fd ps sp/\Binds K fd ps []
def sP (K:ZF) (C cK:Addr):Sp:=fun vs H Q E=>∃ v D z,vs=[v,z]/\TabV C H v D/\((∃ x:Kn,z=.str x.name/\pz D/\x∈D.kinds/\∀ tf us,H tf=some (.tup us)->Paired (FldV H) us x.fs->Q (.ref tf) H)\/(nu K H D z/\nv cK z H E))
theorem yE (F:Fun K "fields_of" "Table.fields_of" gO f fd) (T:Tc K C) (KA:sO P w K mg base C "kind_at" 4 ["self","kind"] (kq K C cK)):FnOk P w K mg base (lR P w) 5 f fd ["self","kind"] (sP K C cK):=by
 refine F.okX A8 (fun vs H Q E h=>?_) (fun cdv A outer s H vs Q E hr h=>?_)
 ·obtain ⟨v,D,z,rfl,_⟩:=h
  rfl
 ·obtain ⟨v,D,z,rfl,hT,h⟩:=h
  obtain ⟨a,dx,pp,pm,pn,pk,us,rfl,ho,hpp,hpm,hpn,hpk,hus⟩:=id hT
  have hr4:Room 4 _:=hr
  obtain ⟨f1,fd1,M1,F1,B1⟩:=KA
  refine ⟨_,ah (al (au av (au av (aV (pv 0) rfl) (lF (pv 0) T.cl M1 F1 hr4 B1 .nil gq (aa (pv 1) ac)) (fun _ _=>rfl)) ai (fun _ _=>rfl))),?_⟩
  refine ⟨_,rfl,a,C,dx,_,_,rfl,ho,T.cl,T.na "kinds_known" (by decide +kernel),rfl,_,rfl,a,dx,_,rfl,ho,rfl,_,rfl,_,D,z,rfl,hT,?_⟩
  rcases h with ⟨x,rfl,hD,hx,q⟩|⟨nk,q⟩
  ·obtain ⟨j,hj⟩:=xA hx
   obtain ⟨u,hu,p,tf,b,fu,rfl,hp,htf,hfu,hb⟩:=rj hus hj
   have hjn:(D.kinds.map Kn.name)[j]?=some x.name:=by rw [Co,hj];rfl
   exact .inl ⟨x.name,j,rfl,hjn,rh hD.kn hjn,pk,us,_,_,rfl,rfl,SqT.of hpk,aJ hu,p,_,_,_,rfl,rfl,SqT.of hp,rfl,q tf fu htf hfu⟩
  ·exact .inr ⟨nk,q⟩
end
theorem yF {k:Nat} {us:List V} (hk:k < 7) (h:TgA p H us ts) (hl:us.length=(flK k).length):TgA p H (ja k us) (ja k ts)/\TgA p H (jy k us) (jy k ts)/\∀ s u,tE k us=some (s,u)->∃ t,tE k ts=some (s,t)/\TgV p H u t:=by
 have two:(flK k).length=2->∃ u v a b,us=[u,v]/\ts=[a,b]/\TgV p H u a/\TgV p H v b:=fun e=>by
  rw [e] at hl
  match h,hl with
  | .cons h1 (.cons h2 .nil),_=>exact ⟨_,_,_,_,rfl,rfl,h1,h2⟩
 rcases (by lia:k=0\/k=1\/k=2\/k=3\/k=4\/k=5\/k=6) with rfl|rfl|rfl|rfl|rfl|rfl|rfl
 ·obtain ⟨u,v,a,b,rfl,rfl,h1,h2⟩:=two rfl
  exact ⟨.cons h1 .nil,.nil,fun s x e=>by cases e;exact ⟨_,rfl,h2⟩⟩
 ·obtain ⟨u,v,a,b,rfl,rfl,h1,h2⟩:=two rfl
  exact ⟨.cons h1 .nil,.nil,fun s x e=>by cases e;exact ⟨_,rfl,h2⟩⟩
 ·obtain ⟨u,v,a,b,rfl,rfl,h1,h2⟩:=two rfl
  exact ⟨.cons h1 .nil,.cons h2 .nil,fun s x e=>by cases e⟩
 ·match h,hl with
  | .cons h1 (.cons h2 (.cons h3 (.cons h4 .nil))),_=>exact ⟨.cons h1 .nil,.cons h3 (.cons h4 .nil),fun s x e=>by cases e⟩
 ·obtain ⟨u,v,a,b,rfl,rfl,h1,h2⟩:=two rfl
  exact ⟨.nil,.cons h2 .nil,fun s x e=>by cases e;exact ⟨_,rfl,h1⟩⟩
 ·obtain ⟨u,v,a,b,rfl,rfl,h1,h2⟩:=two rfl
  exact ⟨.nil,.cons h2 .nil,fun s x e=>by cases e;exact ⟨_,rfl,h1⟩⟩
 ·obtain ⟨u,v,a,b,rfl,rfl,h1,h2⟩:=two rfl
  exact ⟨.nil,.cons h1 (.cons h2 .nil),fun s x e=>by cases e⟩
theorem vh:∀ k,k < 7->∀ j,j < 7->wdK k=wdK j->k=j:=by decide +kernel
theorem yG {k:Nat} (hk:k < 7) (h:StpT (.tup (.str (wdK k)::ts))):(∀ t∈ja k ts,∃ i:Nat,i < 8/\t=.int i)/\(∀ t∈jy k ts,SrcT t)/\∀ s t,tE k ts=some (s,t)->SelT t:=by
 generalize hw:wdK k=w0 at h
 have pin:∀ j,j < 7->w0=wdK j->k=j:=fun j hj e=>vh k hk j hj (hw.trans e)
 cases h with
 | @get i s hi hs=>
  have:=pin 0 (by decide) rfl
  subst this
  refine ⟨fun t ht=>?_,fun t ht=>(nomatch ht),fun s' t e=>(by cases e;exact hs)⟩
  rw [Cb.mp ht]
  exact ⟨i,hi,rfl⟩
 | @ask i s hi hs=>
  have:=pin 1 (by decide) rfl
  subst this
  refine ⟨fun t ht=>?_,fun t ht=>(nomatch ht),fun s' t e=>(by cases e;exact hs)⟩
  rw [Cb.mp ht]
  exact ⟨i,hi,rfl⟩
 | @cell i s hi hs=>
  have:=pin 2 (by decide) rfl
  subst this
  refine ⟨fun t ht=>?_,fun t ht=>?_,fun s' t e=>(by cases e)⟩
  ·rw [Cb.mp ht]
   exact ⟨i,hi,rfl⟩
  ·rw [Cb.mp ht]
   exact hs
 | @two i o a b hi ho ha hb=>
  have:=pin 3 (by decide) rfl
  subst this
  refine ⟨fun t ht=>?_,fun t ht=>?_,fun s' t e=>(by cases e)⟩
  ·rw [Cb.mp ht]
   exact ⟨i,hi,rfl⟩
  ·have ht':t∈[a,b]:=ht
   simp only [BW,Ch,or_false] at ht'
   rcases ht' with rfl|rfl
   ·exact ha
   ·exact hb
 | @put s a hs ha=>
  have:=pin 4 (by decide) rfl
  subst this
  refine ⟨fun t ht=>(nomatch ht),fun t ht=>?_,fun s' t e=>(by cases e;exact hs)⟩
  rw [Cb.mp ht]
  exact ha
 | @tell s a hs ha=>
  have:=pin 5 (by decide) rfl
  subst this
  refine ⟨fun t ht=>(nomatch ht),fun t ht=>?_,fun s' t e=>(by cases e;exact hs)⟩
  rw [Cb.mp ht]
  exact ha
 | @store a b ha hb=>
  have:=pin 6 (by decide) rfl
  subst this
  refine ⟨fun t ht=>(nomatch ht),fun t ht=>?_,fun s' t e=>(by cases e)⟩
  have ht':t∈[a,b]:=ht
  simp only [BW,Ch,or_false] at ht'
  rcases ht' with rfl|rfl
  ·exact ha
  ·exact hb
variable {α:Type}
theorem yH (k:Nat) (us:List α):(ja k us).length<=us.length/\(jy k us).length<=us.length:=by
 constructor
 ·unfold ja
  split<;>simp
 ·unfold jy
  split<;>simp<;>lia
theorem vi {α β:Type} {k:Nat} {us:List α} {ts:List β} (hk:k < 7) (h:tE k us=none) (l:us.length=(flK k).length) (l2:ts.length=(flK k).length):tE k ts=none:=by
 rcases (by lia:k=0\/k=1\/k=2\/k=3\/k=4\/k=5\/k=6) with rfl|rfl|rfl|rfl|rfl|rfl|rfl
 ·match us,l with
  | [_,_],_=>cases h
 ·match us,l with
  | [_,_],_=>cases h
 ·rfl
 ·rfl
 ·match us,l with
  | [_,_],_=>cases h
 ·match us,l with
  | [_,_],_=>cases h
 ·rfl
theorem Ad:∀ k,k < 7->("targets":Str)∉flK k/\("sources":Str)∉flK k/\("selects":Str)∉flK k:=by decide +kernel
structure Bx (P:Program) (w:World) (K:ZF) (mg:Str->Option Value) (base:Heap) (C:Nat->Addr):Prop where
 cls:∀ k,k < 7->Cls K (C k)
 tg:∀ k,k < 7->dB P w K mg base (C k) "targets" 1 ["self"] (ff C k ja)
 sr:∀ k,k < 7->dB P w K mg base (C k) "sources" 1 ["self"] (ff C k jy)
 se:∀ k,k < 7->dB P w K mg base (C k) "selects" 1 ["self"] (lH C k)
def v0 (C:Addr) (Cs:Nat->Addr):Sp:=fun vs H Q _=>∃ (v:V) (tf:Addr) (m:Nat) (u:V) (D:Fm) (fs:List (Str×Str)) (p:Addr) (t:Th),vs=[v,.ref tf,.int m,u]/\TabV C H v D/\D.width<=24/\FdV H tf fs/\StO Cs p H u t/\∀ H',Same H H'->Q (.bl (dc D fs m t)) H'
section
variable {P:Program} {w:World} {K:ZF} {mg:Str->Option Value} {base:Heap} {C cT:Addr} {Cs:Nat->Addr} {R fR cK fK cB:Addr}
theorem Ae:am ["fields","many","on"] ["fields","many","on"] (aj kj):=bG (by decide +kernel)
theorem lL (fs:List (Str×Str)) (m:Nat) (e:Th):yA fs m (.tup [.str "done",e])=iM fs e:=by first|rfl|(unfold yA;simp)
theorem oB (fs:List (Str×Str)) (i:Nat):iM fs (.tup [.str "go",.int i])=gr fs i "row":=by first|rfl|(unfold iM;simp)
theorem jz (fs:List (Str×Str)) (i:Nat):iM fs (.tup [.str "call",.int i])=gr fs i "row":=by first|rfl|(unfold iM;simp)
theorem iN (fs:List (Str×Str)) (z:Str):iM fs (.tup [.str "fault",.str z])=true:=rfl
theorem yI (F:Fun K "on_fits" "on_fits" kj f fd) (HF:Fn P w K mg base "has_field" 1 ["fields","j","sort"] u7):FnOk P w K mg base bu 2 f fd ["fields","many","on"] vZ:=by
 have ZZ:=Ae
 walk_at "o"
 ·obtain ⟨tf,m,u,fs,p,t,rfl,hF,tv,st,q⟩:=h
  refine ⟨_,af (aQ (ax bO (au av (pv 2) ai (fun _ _=>rfl)) (aH (aa ak (aa ak ac))) rfl) (ah (al (aZ ci (au av (pv 2) ai (fun _ _=>rfl)) (pv 1) (az _)))) ay) (af (aQ (PW.pt (cm (ax bv (au av (pv 2) ai (fun _ _=>rfl)) ak (az _)) (bU (ax bO (au av (au av (pv 2) ai (fun _ _=>rfl)) ai (fun _ _=>rfl)) (aH (aa ak (aa ak ac))) rfl)))) (ah (al (aq HF hr rfl (aa (pv 0) (aa (au av (au av (pv 2) ai (fun _ _=>rfl)) ai (fun _ _=>rfl)) (aa ak ac)))))) ay) (ah (al df))),?_⟩
  have nt:∀ {H0:Hp} {t0:Addr} {a b:Str},H0 t0=none->∃ H1,aC H0 t0 (.tup [.str a,.str b])=H1/\Same H0 H1/\H1 t0=some (.tup (ap [a,b])):=fun n=>⟨_,rfl,ae n,ad⟩
  cases st with
  | two z i a b hz hi ha hb=>
   obtain ⟨g,rfl,e⟩:=z7 tv
   refine ⟨_,rfl,g,_,_,_,rfl,rfl,SqT.of e,bW,bh,fun t1 n1=>?_⟩
   obtain ⟨H1,eH,s1,et⟩:=nt (a:="some") (b:="top") n1
   rw [eH]
   refine ⟨t1,_,rfl,.inr (SqT.of et),rfl,bC _,_,rfl,bj (by rw [bM];rcases hz with rfl|rfl<;>decide +kernel) ?_⟩
   exact ⟨_,rfl,g,_,_,_,rfl,rfl,SqT.of (s1 _ _ e),ck,_,rfl,_,_,rfl,rfl,q _ s1⟩
  | on a ha=>
   obtain ⟨g,rfl,e⟩:=tgv2 tv
   refine ⟨_,rfl,g,_,_,_,rfl,rfl,SqT.of e,bW,bh,fun t1 n1=>?_⟩
   obtain ⟨H1,eH,s1,et⟩:=nt (a:="some") (b:="top") n1
   rw [eH]
   refine ⟨t1,_,rfl,.inr (SqT.of et),rfl,bC _,_,rfl,aP (by rw [bM];decide +kernel) ?_⟩
   exact ⟨_,rfl,g,_,_,_,rfl,rfl,SqT.of (s1 _ _ e),bW,rfl,_,rfl,aP (by decide +kernel) (bz (q _ s1))⟩
  | @done x he=>
   obtain ⟨g,y,rfl,e,ty⟩:=vV tv
   refine ⟨_,rfl,g,_,_,_,rfl,rfl,SqT.of e,bW,bh,fun t1 n1=>?_⟩
   obtain ⟨H1,eH,s1,et⟩:=nt (a:="some") (b:="top") n1
   rw [eH]
   refine ⟨t1,_,rfl,.inr (SqT.of et),rfl,bC _,_,rfl,aP (by rw [bM];decide +kernel) ?_⟩
   have e1:=s1 _ _ e
   rw [lL] at q
   have hd:∃ g2 z r,y=.ref g2/\H1 g2=some (.tup (.str z::r))/\((∃ i:Nat,(z="go"\/z="call")/\r=[.int i]/\iM fs x=gr fs i "row")\/((["go","call"]:List Str).contains z=false/\iM fs x=true)):=by
    have ty1:=ty.same s1
    cases he with
    | next=>obtain ⟨g2,rfl,h2⟩:=pF ty1;exact ⟨g2,_,_,rfl,h2,.inr ⟨by decide +kernel,rfl⟩⟩
    | back=>obtain ⟨g2,rfl,h2⟩:=pF ty1;exact ⟨g2,_,_,rfl,h2,.inr ⟨by decide +kernel,rfl⟩⟩
    | stop=>obtain ⟨g2,rfl,h2⟩:=pF ty1;exact ⟨g2,_,_,rfl,h2,.inr ⟨by decide +kernel,rfl⟩⟩
    | go i hi=>obtain ⟨g2,rfl,h2⟩:=tgv2 ty1;exact ⟨g2,_,_,rfl,h2,.inl ⟨i,.inl rfl,rfl,oB fs i⟩⟩
    | call i hi=>obtain ⟨g2,rfl,h2⟩:=tgv2 ty1;exact ⟨g2,_,_,rfl,h2,.inl ⟨i,.inr rfl,rfl,jz fs i⟩⟩
    | fault z hz=>obtain ⟨g2,rfl,h2⟩:=vU ty1;exact ⟨g2,_,_,rfl,h2,.inr ⟨by decide +kernel,iN fs z⟩⟩
   obtain ⟨g2,z,r,rfl,h2,hc⟩:=hd
   refine ⟨_,rfl,g,_,_,_,rfl,rfl,SqT.of e1,bW,rfl,_,rfl,bj (by decide +kernel) ?_⟩
   refine ⟨_,rfl,g,_,_,_,rfl,rfl,SqT.of e1,ck,g2,_,_,_,rfl,rfl,SqT.of h2,bW,bh,fun t3 n3=>?_⟩
   obtain ⟨H3,eH3,s3,et3⟩:=nt (a:="go") (b:="call") n3
   rw [eH3]
   have s13:=s1.trans s3
   rcases hc with ⟨i,hz,rfl,eb⟩|⟨hz,eb⟩
   ·refine ⟨t3,_,rfl,.inr (SqT.of et3),rfl,bC _,_,rfl,bj (by rw [bM];rcases hz with rfl|rfl<;>decide +kernel) ?_⟩
    refine ⟨_,rfl,_,rfl,g,_,_,_,rfl,rfl,SqT.of (s3 _ _ e1),ck,g2,_,_,_,rfl,rfl,SqT.of (s3 _ _ h2),ck,tf,i,_,fs,rfl,hF.same s13,?_⟩
    rw [<-eb]
    exact q _ s13
   ·refine ⟨t3,_,rfl,.inr (SqT.of et3),rfl,bC _,_,rfl,aP (by rw [bM];exact hz) ?_⟩
    have:=q _ s13
    rw [eb] at this
    exact this
theorem scStF:am ["table","fields","many","step","targets","sels","sources"] ["table","fields","many","step"] (aj c7):=bG (by decide +kernel)
theorem Bi:(["r","many"]:List Str).Nodup:=by decide +kernel
theorem wb:(["sort","sel","table","fields"]:List Str).Nodup:=by decide +kernel
theorem Af:(["source","table","fields","many"]:List Str).Nodup:=by decide +kernel
theorem yJ (F:Fun K "step_fits" "step_fits" c7 f fd) (B:Bl mg) (M:Bx P w K mg base Cs) (SEL:Fn P w K mg base "sel_fits" 2 ["table","fields","sort","sel"] (sL C)) (SRC:Fn P w K mg base "source_fits" 4 ["table","fields","many","source"] (sM C)):FnOk P w K mg base bu 5 f fd ["table","fields","many","step"] (v0 C Cs):=by
 have ZZ:=scStF
 walk_at "o"
 ·obtain ⟨v,tf,m,u,D,fs,p,t,rfl,hT,hw,hF,so,q⟩:=h
  have hr1:Room 1 _:=hr.mono (by decide)
  have hr2:Room 2 _:=hr.mono (by decide)
  have sz:(100000:Nat)<=sizeLine:=by decide
  refine ⟨_,af (dw (i:=4) scStF.nd rfl rfl (N':=["r","many"]) (ix:=[none,some 2]) (sc0:=aj c7) (N:=["table","fields","many","step","targets","sels","sources"]) rfl (by decide +kernel) (cL (eJ (P:=P) (w:=w) (K:=K) (mg:=mg) (base:=base) (k:=1) rfl rfl rfl rfl rfl hr1 (pv 3))) (fun _ _ _ _ _=>(aI (i:=0) Bi rfl (Or.inl rfl) (.inr rfl))) (fun _ _ _ _ _=>cw) (fun _ _ _ _ _=>(aZ ci (pv 0) (pv 1) (az _)))) (af (dw (i:=5) scStF.nd rfl rfl (N':=["sort","sel","table","fields"]) (ix:=[none,none,some 0,some 1]) (sc0:=aj c7) (N:=["table","fields","many","step","targets","sels","sources"]) rfl (by decide +kernel) (cL (eJ (P:=P) (w:=w) (K:=K) (mg:=mg) (base:=base) (k:=1) rfl rfl rfl rfl rfl hr1 (pv 3))) (fun _ _ _ _ _=>(ia (K:=K) (n:=2) rfl rfl (aR (aI (i:=0) wb rfl (Or.inl rfl) (.inr rfl)) (aR (aI (i:=1) wb rfl (Or.inl rfl) (.inr rfl)) cg)))) (fun _ _ _ _ _=>cw) (fun _ _ _ _ _=>(aq SEL hr2 rfl (aa (pv 2) (aa (pv 3) (aa (pv 0) (aa (pv 1) ac))))))) (af (dw (i:=6) scStF.nd rfl rfl (N':=["source","table","fields","many"]) (ix:=[none,some 0,some 1,some 2]) (sc0:=aj c7) (N:=["table","fields","many","step","targets","sels","sources"]) rfl (by decide +kernel) (cL (eJ (P:=P) (w:=w) (K:=K) (mg:=mg) (base:=base) (k:=1) rfl rfl rfl rfl rfl hr1 (pv 3))) (fun _ _ _ _ _=>(aI (i:=0) Af rfl (Or.inl rfl) (.inr rfl))) (fun _ _ _ _ _=>cw) (fun _ _ _ _ _=>(aq SRC hr rfl (aa (pv 1) (aa (pv 2) (aa (pv 3) (aa (pv 0) ac))))))) (ah (al (aA (dA rfl) (by rfl) B.all cZ (aa (bi dI (bi dI (pv 4) (pv 5)) (pv 6)) ac)))))),?_⟩
  cases so with
  | mk k a dx us ts hk e l ta sp=>
  obtain ⟨pt1,pt2,pt3⟩:=yG hk sp
  obtain ⟨ta1,ta2,ta3⟩:=yF hk ta l
  obtain ⟨n1,n2,n3⟩:=Ad k hk
  have hl4:us.length<=4:=by
   rw [l]
   exact (by decide +kernel:∀ k,k < 7->(flK k).length<=4) k hk
  have lts:=ta.length
  have tgl:=yH k us
  obtain ⟨f1,fd1,M1,F1,B1⟩:=M.tg k hk
  obtain ⟨f2,fd2,M2,F2,B2⟩:=M.se k hk
  obtain ⟨f3,fd3,M3,F3,B3⟩:=M.sr k hk
  refine ⟨_,rfl,a,dx,Cs k,f1,_,fd1,_,_,rfl,e,eK n1,M.cls k hk,M1,F1,B1,a,dx,us,rfl,e,l,fun l1 H1 s1 e1=>⟨l1,rfl,⟨_,SqL.of e1⟩,?_⟩⟩
  have lt1:=ta1.length
  refine fZ (K:=K) (a:=l1) (xs:=ja k us) (fun i ys H'=>H'=H1/\ys=(((ja k ts).take i).map (nj m)).map V.bl) ⟨rfl,rfl⟩ (fun i ys H' hi ⟨a1,a2⟩=>by
    subst a1 a2
    refine ⟨SqL.of e1,?_⟩
    rw [BJ,BJ,BX]
    lia) ?_ ?_
  ·rintro i x ys H' hx ⟨rfl,rfl⟩
   obtain ⟨t0,ht0,tv⟩:=ta1.get hx
   obtain ⟨i0,_,rfl⟩:=pt1 t0 (Ca ht0)
   cases tv
   refine ⟨⟨rfl,trivial⟩,cE ⟨_,rfl,_,rfl,_,_,rfl,rfl,Nx.mk (BL.mp hx).1 ⟨rfl,?_⟩⟩⟩
   rw [Cj,ht0,BR,BR]
   rfl
  rintro ys H' ⟨rfl,rfl⟩ l2 nl2
  rw [lt1,Cg]
  generalize zz:aC H' l2 _=H2
  have s2:Same H' H2:=zz ▸ ae nl2
  have e2:H2 l2=some (.lst (((ja k ts).map (nj m)).map V.bl)):=zz ▸ ad
  clear zz
  have s02:=s1.trans s2
  have ee2:=s02 _ _ e
  refine ⟨_,rfl,a,dx,Cs k,f2,_,fd2,_,_,rfl,ee2,eK n3,M.cls k hk,M2,F2,B2,a,dx,us,rfl,ee2,l,fun l3 H3 s3 e3=>?_⟩
  have s03:=s02.trans s3
  have sB:∃ bs:List Bool,bs.length<=1/\bs.all id=vY D fs (tE k ts)/\∃ xs:List V,H3 l3=some (.lst xs)/\xs.length=bs.length/\∀ (i:Nat) (x:V),xs[i]?=some x->∃ (t1:Addr) (s0:Str) (u0:V) (t0:Th),x=.ref t1/\H3 t1=some (.tup [.str s0,u0])/\TgV p H3 u0 t0/\SelT t0/\bs[i]?=some (db D fs s0 t0):=by
   cases es:tE k us with
   | none=>
    rw [es] at e3
    have en:tE k ts=none:=by
     exact vi hk es l (lts ▸ l)
    exact ⟨[],by simp,by rw [en];rfl,[],e3,rfl,fun i x hx=>by simp at hx⟩
   | some y=>
    obtain ⟨s0,u0⟩:=y
    rw [es] at e3
    obtain ⟨t0,et,tv⟩:=ta3 s0 u0 es
    obtain ⟨t1,h1,h2⟩:=e3
    refine ⟨[db D fs s0 t0],by simp,?_,[.ref t1],h1,rfl,fun i x hx=>?_⟩
    ·rw [et]
     simp [vY]
    ·match i,hx with
     | 0,hx=>cases hx;exact ⟨t1,s0,u0,t0,rfl,h2,tv.same s03,pt3 s0 t0 et,rfl⟩
  obtain ⟨bs,hbl,hball,xs,exs,lxs,hxs⟩:=sB
  refine ⟨l3,rfl,⟨_,SqL.of exs⟩,?_⟩
  refine fZ (K:=K) (a:=l3) (xs:=xs) (fun i ys H'=>H'=H3/\ys=(bs.take i).map V.bl) ⟨rfl,rfl⟩ (fun i ys H' hi ⟨a1,a2⟩=>by
    subst a1 a2
    refine ⟨SqL.of exs,?_⟩
    rw [BJ,BX]
    lia) ?_ ?_
  ·rintro i x ys H' hx ⟨rfl,rfl⟩
   obtain ⟨t1,s0,u0,t0,rfl,h1,tv,st,hb⟩:=hxs i x hx
   refine ⟨t1,_,rfl,SqT.of h1,rfl,_,_,rfl,_,_,rfl,rfl,⟨rfl,rfl,trivial⟩,cE ?_⟩
   refine ⟨_,rfl,_,rfl,_,rfl,_,rfl,v,tf,s0,u0,D,fs,p,t0,rfl,hT.same s03,hF.same s03,tv,st,Nx.mk (BL.mp hx).1 ⟨rfl,?_⟩⟩
   rw [Cj,hb,BR]
   rfl
  rintro ys H' ⟨rfl,rfl⟩ l4 nl4
  rw [lxs,Cg]
  generalize zz:aC H' l4 _=H4
  have s4:Same H' H4:=zz ▸ ae nl4
  have e4:H4 l4=some (.lst (bs.map V.bl)):=zz ▸ ad
  clear zz
  have s04:=s03.trans s4
  have ee4:=s04 _ _ e
  refine ⟨_,rfl,a,dx,Cs k,f3,_,fd3,_,_,rfl,ee4,eK n2,M.cls k hk,M3,F3,B3,a,dx,us,rfl,ee4,l,fun l5 H5 s5 e5=>⟨l5,rfl,⟨_,SqL.of e5⟩,?_⟩⟩
  have s05:=s04.trans s5
  have lt2:=ta2.length
  refine fZ (K:=K) (a:=l5) (xs:=jy k us) (fun i ys H'=>H'=H5/\ys=(((jy k ts).take i).map (cy D fs m)).map V.bl) ⟨rfl,rfl⟩ (fun i ys H' hi ⟨a1,a2⟩=>by
    subst a1 a2
    refine ⟨SqL.of e5,?_⟩
    rw [BJ,BJ,BX]
    lia) ?_ ?_
  ·rintro i x ys H' hx ⟨rfl,rfl⟩
   obtain ⟨t0,ht0,tv⟩:=ta2.get hx
   refine ⟨⟨rfl,rfl,rfl,trivial⟩,cE ⟨_,rfl,_,rfl,_,rfl,_,rfl,v,tf,m,x,D,fs,p,t0,rfl,hT.same s05,hw,hF.same s05,tv.same s05,pt2 t0 (Ca ht0),Nx.mk (BL.mp hx).1 ⟨rfl,?_⟩⟩⟩
   rw [Cj,ht0,BR,BR]
   rfl
  rintro ys H' ⟨rfl,rfl⟩ l6 nl6
  rw [lt2,Cg]
  generalize zz:aC H' l6 _=H6
  have s6:Same H' H6:=zz ▸ ae nl6
  have e6:H6 l6=some (.lst (((jy k ts).map (cy D fs m)).map V.bl)):=zz ▸ ad
  clear zz
  have e26:=s6 _ _ (s5 _ _ (s4 _ _ (s3 _ _ e2)))
  have e46:=s6 _ _ (s5 _ _ e4)
  have s06:=s05.trans s6
  refine ⟨_,rfl,_,rfl,l2,l4,_,_,rfl,rfl,e26,e46,by simp only [BJ];lia,fun l7 n7=>?_⟩
  have s7:=ae (o:=.lst (((ja k ts).map (nj m)).map V.bl++bs.map V.bl)) n7
  refine ⟨_,rfl,l7,l6,_,_,rfl,rfl,ad,s7 _ _ e6,by simp only [BN,BJ];lia,fun l8 n8=>?_⟩
  have s8:=ae (o:=.lst (((ja k ts).map (nj m)).map V.bl++bs.map V.bl++((jy k ts).map (cy D fs m)).map V.bl)) n8
  refine ⟨l8,(ja k ts).map (nj m)++bs++(jy k ts).map (cy D fs m),rfl,SqL.of ?_,?_⟩
  ·rw [BR,BR]
   exact ad
  have:=q _ ((s06.trans s7).trans s8)
  have eb:((ja k ts).map (nj m)++bs++(jy k ts).map (cy D fs m)).all id=dc D fs m (.tup (.str (wdK k)::ts)):=by
   show _=oz D fs m (sK (wdK k)) ts
   rw [yz k hk]
   unfold oz
   rw [List.all_append,List.all_append,hball,Df,Df,Bool.and_assoc]
   rfl
  rw [eb]
  exact this
end
def nw (K:ZF) (C cT:Addr) (Cs:Nat->Addr) (cK:Addr):Sp:=fun vs H Q E=>∃ (v z:V) (m:Nat) (u:V) (D:Fm) (p:Addr) (t:Th),vs=[v,z,.int m,u]/\TabV C H v D/\pz D/\D.width<=24/\LiO Cs cT p H u t/\((∃ x:Kn,z=.str x.name/\x∈D.kinds/\∀ H',Same H H'->Q (.bl (yB D x.fs m t)) H')\/(nu K H D z/\nv cK z H E))
section
variable {P:Program} {w:World} {K:ZF} {mg:Str->Option Value} {base:Heap} {C cT:Addr} {Cs:Nat->Addr} {R fR cK fK cB:Addr}
theorem scFits:am ["table","kind","many","little","fields","steps"] ["table","kind","many","little"] (aj ot):=bG (by decide +kernel)
theorem Ag:(["step","table","fields","many"]:List Str).Nodup:=by decide +kernel
theorem vj (F:Fun K "fits" "fits" ot f fd) (B:Bl mg) (T:Tc K C) (L:Lc K cT) (FO:sO P w K mg base C "fields_of" 5 ["self","kind"] (sP K C cK)) (STF:Fn P w K mg base "step_fits" 5 ["table","fields","many","step"] (v0 C Cs)) (ONF:Fn P w K mg base "on_fits" 2 ["fields","many","on"] vZ):FnOk P w K mg base (lR P w) 6 f fd ["table","kind","many","little"] (nw K C cT Cs cK):=by
 refine F.okX scFits (fun vs H Q E h=>?_) (fun cdv A outer s H vs Q E hr h=>?_)
 ·obtain ⟨v,z,m,u,D,p,t,rfl,_⟩:=h
  rfl
 ·obtain ⟨v,z,m,u,D,p,t,rfl,hT,hD,hw,lo,h⟩:=h
  have hr2:Room 2 _:=hr.mono (by decide)
  have sz:(100000:Nat)<=sizeLine:=by decide
  obtain ⟨a,dx,pp,pm,pn,pk,us0,rfl,ho,hpp,hpm,hpn,hpk,hus⟩:=id hT
  obtain ⟨f1,fd1,M1,F1,B1⟩:=FO
  refine ⟨_,af (aB (i:=4) scFits.nd rfl (Or.inr rfl) (lF (pv 0) T.cl M1 F1 hr B1 .nil gq (aa (pv 1) ac))) (af (dw (i:=5) scFits.nd rfl rfl (N':=["step","table","fields","many"]) (ix:=[none,some 0,some 4,some 2]) (sc0:=aj ot) (N:=["table","kind","many","little","fields","steps"]) rfl (by decide +kernel) (dj (aV (pv 3) rfl)) (fun _ _ _ _ _=>(aI (i:=0) Ag rfl (Or.inl rfl) (.inr rfl))) (fun _ _ _ _ _=>cw) (fun _ _ _ _ _=>(aq STF hr rfl (aa (pv 1) (aa (pv 2) (aa (pv 3) (aa (pv 0) ac))))))) (ah (al (bE (aA (dA rfl) (by rfl) B.all cZ (aa (pv 5) ac)) (bJ (aq ONF hr2 rfl (aa (pv 4) (aa (pv 2) (aa (aV (pv 3) rfl) ac))))))))),?_⟩
  refine ⟨_,rfl,a,dx,_,rfl,ho,rfl,_,rfl,_,D,z,rfl,hT,?_⟩
  rcases h with ⟨x,rfl,hx,q⟩|⟨nk,q⟩
  case inr=>exact .inr ⟨nk,q⟩
  refine .inl ⟨x,rfl,hD,hx,fun tf fu htf hfu=>?_⟩
  have hF:FdV H tf x.fs:=⟨fu,htf,hfu⟩
  cases lo with
  | mk a2 dx2 tp us o ss on e e2 ps to ho2 hl hs=>
  have lus:=ps.length
  refine ⟨_,rfl,a2,cT,dx2,_,_,rfl,e,L.cls,L.n1,rfl,tp,rfl,⟨_,SqT.of e2⟩,?_⟩
  refine gE (K:=K) (a:=tp) (xs:=us) (fun i ys H'=>Same H H'/\ys=((ss.take i).map (dc D x.fs m)).map V.bl) ⟨Same.refl _,rfl⟩ (fun i ys H' hi ⟨s',e'⟩=>⟨SqT.of (s' _ _ e2),by rw [e',BJ,BJ,BX];lia⟩) ?_ ?_
  ·rintro i z ys H2 hz ⟨s2,rfl⟩
   obtain ⟨t,et,st⟩:=gN ps hz
   refine ⟨⟨rfl,rfl,rfl,trivial⟩,cE ⟨_,rfl,_,rfl,_,rfl,_,rfl,_,tf,m,z,D,x.fs,p,t,rfl,hT.same s2,hw,hF.same s2,st.same s2,fun H3 s3=>Nx.mk (BL.mp hz).1 ⟨s2.trans s3,?_⟩⟩⟩
   rw [Cj,et,BR,BR]
   rfl
  rintro ys H2 ⟨s2,rfl⟩ l3 n3
  rw [lus,Cg]
  generalize zz:aC H2 l3 _=H3
  have s3:Same H2 H3:=zz ▸ ae n3
  have e3:H3 l3=some (.lst ((ss.map (dc D x.fs m)).map V.bl)):=zz ▸ ad
  clear zz
  have s03:=s2.trans s3
  refine ⟨_,rfl,l3,ss.map (dc D x.fs m),rfl,SqL.of e3,_,rfl,?_⟩
  have q':∀ H',Same H H'->Q (.bl (ss.all (dc D x.fs m) && yA x.fs m on)) H':=q
  have ea:(ss.map (dc D x.fs m)).all id=ss.all (dc D x.fs m):=by rw [Df];rfl
  rw [ea]
  cases hb:ss.all (dc D x.fs m) with
  | false=>
   have:=q' H3 s03
   rw [hb] at this
   exact bz this
  | true=>
   refine cQ ⟨_,rfl,_,rfl,_,rfl,a2,cT,dx2,_,_,rfl,s03 _ _ e,L.cls,L.n2,rfl,tf,m,o,x.fs,p,on,rfl,hF.same s03,to.same s03,ho2,fun H4 s4=>?_⟩
   have:=q' H4 (s03.trans s4)
   rw [hb] at this
   exact this
end
def wc (ts:List (List Nat)):List V:=ts.map fun t=>V.str (S t)
theorem yK (xs:List V) (n:Nat):fX xs (some (n:Int)) none=xs.drop n:=by
 unfold fX
 rw [HT.sIx_nat,HT.sIx_none]
 by_cases h:n<=xs.length
 ·rw [Nat.min_eq_left h]
  exact Cq (by rw [CJ];lia)
 ·rw [Nat.min_eq_right (by lia),List.drop_of_length_le (BT _),List.drop_of_length_le (by lia)]
  simp
theorem yL (xs:List V) (n:Nat):fX xs none (some (n:Int))=xs.take n:=by
 unfold fX
 rw [HT.sIx_nat,HT.sIx_none,List.drop_zero,Nat.sub_zero]
 by_cases h:n<=xs.length
 ·rw [Nat.min_eq_left h]
 ·rw [Nat.min_eq_right (by lia),Cq (BT _),Cq (by lia)]
def wV (gs:List (List (List Nat))):List V:=wc (gs.map (TK.jn [32]))
theorem iO (a b:List (List (List Nat))):wV (a++b)=wV a++wV b:=by unfold wV wc;rw [BR,BR]
theorem eL (a:List (List (List Nat))):(wV a).length=a.length:=by unfold wV wc;rw [BJ,BJ]
theorem oC (l:List Str):wV (l.map fun z=>[cp z])=ap l:=by
 unfold wV wc ap
 rw [C7,C7]
 refine List.map_congr_left fun z _=>?_
 show V.str (S (cp z))=_
 rw [gl]
theorem Ah:([V.str "; marks"]:List V)=wV [[[59],cp "marks"]]:=by
 have e2:(("; marks":Str))=S (TK.jn [32] [[59],cp "marks"]):=by decide +kernel
 rw [e2]
 rfl
def gu (fs:List (Str×Str)):List (List Nat):=fs.map fun x=>cp x.1++(32::cp x.2)
theorem Ai (x:Kn):([V.str "kind",.str x.name,.str "(",.str (S (TK.jn [32,44,32] (gu x.fs))),.str ") { next }"]:List V)=wV (gY x):=by
 have e1:(("kind":Str))=S (TK.jn [32] [cp "kind"]):=by decide +kernel
 have e2:(("(":Str))=S (TK.jn [32] [[40]]):=by decide +kernel
 have e3:((") { next }":Str))=S (TK.jn [32] [[41],[123],cp "next",[125]]):=by decide +kernel
 have e4:x.name=S (TK.jn [32] [cp x.name]):=(gl _).symm
 have e5:=rD x.fs
 unfold gu
 rw [e1,e2,e3,e5]
 conv=>lhs;rw [e4]
 rfl
theorem jA {s:List Nat} (hs:s=[]\/∃ c r,s=c::r/\TK.dz c=true):∀ ts:List (List Nat),ts≠[]->(∀ t∈ts,TK.Tok t)->TK.toks (TK.jn [32] ts++s)=ts++TK.toks s
 | [],h,_=>absurd rfl h
 | [t],_,h=>TK.gf (h t BQ) hs
 | t::u::r,_,h=>by
  have ih:=jA hs (u::r) (by simp) (fun x hx=>h x (BV _ hx))
  show TK.toks ((t++(32::TK.jn [32] (u::r)))++s)=_
  rw [Cu,CI,TK.gf (h t BQ) (.inr ⟨32,_,rfl,rfl⟩),TK.dZ (show TK.dz 32=true from rfl),ih]
  rfl
abbrev iP:Stmt:=bH 126
abbrev eM:Stmt:=bH 127
def fnQ:List Str:=["va","v","qb"]
def plQ:List Str:=["q","setq","za","bj"]
def mkQ:List Str:=["y","ifq","jz"]
def soQ:List Str:=["place","number","row","mark"]
theorem yM:∀ z∈soQ,z∈cG:=by decide +kernel
variable {a:Addr}
theorem c8 {H Hc H':Hp} (na:H a=none) (sc:Same H Hc) (b:But a Hc H'):Same H H':=fun c o e=>b c o (sc c o e) (aU e na)
variable {i:Nat} {l:List Str}
theorem sQ (h:(ap l)[i]?=some v):∃ z,l[i]?=some z/\v=.str z:=by
 unfold ap at h
 rw [Co] at h
 cases e:l[i]? with
 | none=>rw [e] at h;cases h
 | some g=>rw [e] at h;exact ⟨g,rfl,(Cf h).symm⟩
theorem fe (h:i < l.length):(ap l)[i]?=some (.str l[i]):=by
 unfold ap
 rw [Co,BZ h]
 rfl
theorem bS (l:List Str):(ap l).length=l.length:=by unfold ap;rw [BJ]
theorem gS (l:List Str) (n:Nat):fX (ap l) none (some (n:Int))=ap (l.take n):=by
 rw [yL]
 unfold ap
 rw [List.map_take]
def Bj (p l:Addr) (H H':Hp):Prop:=∀ b o,H b=some o->b≠p->b≠l->H' b=some o
def we:Sp:=fun vs H Q _=>∃ q:Addr,vs=[.ref q]/\Strm H q/\∀ l us st H',Strm H' q->But q H H'->H l=none->H' l=some (.lst us)->Paired (FldV H') us (fnQ.zip st)->st.length<=3->(∀ s∈st,s∈cG)->Q (.ref l) H'
theorem scLFi:am ["_law_stream_here","_law_fields_here","_law_name"] ["_law_stream_here"] (aj iP):=bG (by decide +kernel)
theorem sR {a:List Str}:∀ {b:List Str} {z s:Str},a[b.length]?=some z->a.zip (b++[s])=a.zip b++[(z,s)]:=by
 induction a with
 | nil=>intro b z s h;simp at h
 | cons x a ih=>
  intro b z s h
  cases b with
  | nil=>simp at h;subst h;simp
  | cons y b=>
   have h':a[b.length]?=some z:=by simpa using h
   rw [CI,List.zip_cons_cons,List.zip_cons_cons,ih h']
   rfl
theorem yN (F:Fun K "_law_fields" "_law_fields" iP f fd) (TK':Fn P w K mg base "_law_take" 1 ["_law_stream_here","_law_many"] cU):FnOk P w K mg base bu 2 f fd ["_law_stream_here"] we:=by
 have ZZ:=scLFi
 walk_at "o"
 ·obtain ⟨q,rfl,hq,qq⟩:=h
  have sz:(100000:Nat)<=sizeLine:=by decide
  refine ⟨_,af (aB (i:=1) scLFi.nd rfl (Or.inl rfl) (aL ac)) (af (cH PassesOwn.never rfl (cL (cN hJ (aL (aa ak (aa ak (aa ak ac)))) fW (cC (aq TK' hr rfl (aa (pv 0) (aa ai ac)))))) (aI (i:=2) scLFi.nd rfl (Or.inl rfl)) (ah (bo (fj Cz Cw Cr cx (pv 1) (aa (aH (aa (pv 2) (aa (au aY (aL (aa ak (aa ak (aa ak (aa ak ac))))) (aq TK' hr rfl (aa (pv 0) (aa ai ac))) (fun _ _=>rfl)) ac))) ac))))) (ah (al (pv 1)))),?_⟩
  refine ⟨bh,fun lf nlf=>?_⟩
  have s1:=ae (o:=.lst []) nlf
  have e1:(aC H lf (.lst [])) lf=some (.lst []):=ad
  have qf:=hq.ne nlf
  have g1:=hq.same s1
  generalize aC H lf (.lst ([]:List V))=H1 at *
  refine ⟨bh,fun l2 n2=>?_⟩
  have s2:=ae (o:=.lst (ap fnQ)) n2
  have e2:(aC H1 l2 (.lst (ap fnQ))) l2=some (.lst (ap fnQ)):=ad
  have q2:=g1.ne n2
  refine ⟨_,rfl,q,4,rfl,g1.same s2,by decide,by decide,fun r H3 hr3 g3 b3=>?_⟩
  refine ⟨_,rfl,l2,_,rfl,SqL.of (b3 _ _ e2 q2.symm),fun l4 n4=>?_⟩
  have ec:=gS fnQ r
  have s4:=ae (o:=.lst (ap (fnQ.take r))) n4
  have e4:(aC H3 l4 (.lst (ap (fnQ.take r)))) l4=some (.lst (ap (fnQ.take r))):=ad
  have e14:=s4 _ _ (b3 _ _ (s2 _ _ e1) qf.symm)
  have q4:=g3.ne n4
  have l4f:l4≠lf:=fun z=>by rw [z] at n4;rw [b3 _ _ (s2 _ _ e1) qf.symm] at n4;cases n4
  have g4:=g3.same s4
  have b04:But q H (aC H3 l4 (.lst (ap (fnQ.take r)))):=((eB (s1.trans s2)).trans b3).same s4
  rw [ec]
  generalize aC H3 l4 (.lst (ap (fnQ.take r)))=H4 at *
  refine ⟨l4,rfl,⟨_,SqL.of e4⟩,?_⟩
  refine dU (K:=K) (a:=l4) (xs:=ap (fnQ.take r)) (fun i σ H'=>∃ v2 us st,σ=[some (.ref q),some (.ref lf),v2]/\Strm H' q/\Bj q lf H4 H'/\H' lf=some (.lst us)/\Paired (FldV H') us (fnQ.zip st)/\st.length=i/\us.length=i/\∀ s∈st,s∈cG) ⟨_,[],[],rfl,g4,fun b o e _ _=>e,e14,.nil,rfl,rfl,fun _ z=>nomatch z⟩ (fun i σ H' _ ⟨_,_,_,_,_,b',_⟩=>SqL.of (b' _ _ e4 q4.symm l4f)) ?_ ?_
  ·rintro i x σ H5 hx ⟨v2,us,st,rfl,g5,b5,e5,hp,lst,lus,hst⟩
   obtain ⟨z,hz,rfl⟩:=sQ hx
   have hz':fnQ[i]?=some z:=by
    rw [List.getElem?_take] at hz
    split at hz
    ·exact hz
    ·cases hz
   have hi3:i < 3:=(BL.mp hz').1
   refine ⟨_,rfl,.inl ⟨rfl,_,SqL.of e5⟩,_,rfl,bh,fun l6 n6=>?_⟩
   have s6:=ae (o:=.lst (ap soQ)) n6
   have e6:(aC H5 l6 (.lst (ap soQ))) l6=some (.lst (ap soQ)):=ad
   have q6:=g5.ne n6
   refine ⟨_,rfl,q,4,rfl,g5.same s6,by decide,by decide,fun r7 H7 hr7 g7 b7=>?_⟩
   have h7:r7 < soQ.length:=hr7
   refine ⟨l6,_,_,_,rfl,rfl,SqL.of (b7 _ _ e6 q6.symm),aJ (fe h7),bh,fun t8 n8=>?_⟩
   have s8:=ae (o:=.tup [.str z,.str soQ[r7]]) n8
   have e8:(aC H7 t8 (.tup [.str z,.str soQ[r7]])) t8=some (.tup [.str z,.str soQ[r7]]):=ad
   have q8:=g7.ne n8
   have e58:=s8 _ _ (b7 _ _ (s6 _ _ e5) qf.symm)
   have k58:TupK H5 (aC H7 t8 (.tup [.str z,.str soQ[r7]])):=fun a xs e=>s8 _ _ (b7 _ _ (s6 _ _ e) (by
    rintro rfl
    obtain ⟨x,y,z,h⟩:=g5
    rw [h] at e
    cases e))
   have b58:But q H5 (aC H7 t8 (.tup [.str z,.str soQ[r7]])):=((eB s6).trans b7).same s8
   have g8:=g7.same s8
   generalize aC H7 t8 (.tup [V.str z,.str soQ[r7]])=H8 at *
   refine ⟨lf,_,_,rfl,rfl,e58,by lia,?_⟩
   have k9:=lr (ys:=us++[.ref t8]) e58
   refine ⟨_,us++[.ref t8],st++[soQ[r7]],rfl,?_,fun b o e n1 n2=>?_,ad,?_,by rw [BN,lst];rfl,by rw [BN,lus];rfl,fun s hs=>?_⟩
   ·obtain ⟨x,y,z,h⟩:=g8
    exact ⟨x,y,z,by rw [aw qf];exact h⟩
   ·rw [aw n2]
    exact b58 _ _ (b5 _ _ e n1 n2) n1
   ·rw [sR (by rw [lst];exact hz')]
    exact gV (FldV.kt k9 ⟨t8,rfl,e8⟩) (cq (fun _ _ h=>FldV.kt k9 (FldV.kt k58 h)) hp)
   ·rcases Cp.mp hs with h|h
    ·exact hst s h
    ·rw [Cb.mp h]
     exact yM _ (CS h7)
  ·rintro σ H5 ⟨v2,us,st,rfl,g5,b5,e5,hp,lst,lus,hst⟩
   refine ⟨_,rfl,qq lf us st H5 g5 (fun b o e n=>b5 _ _ (b04 _ _ e n) n (aU e nlf)) nlf e5 hp ?_ hst⟩
   rw [bS,BX] at lst
   have:fnQ.length=3:=rfl
   lia
def wD (W np nm:Nat) (st1 st2:List Str):Fm:=⟨W,4,1,plQ.take np,mkQ.take nm,[],[⟨"qq",fnQ.zip st1⟩,⟨"zz",fnQ.zip st2⟩]⟩
instance (z:Str):Decidable (NameS z):=by unfold NameS;infer_instance
theorem allQ_nd:(plQ++mkQ++fnQ).Nodup:=by decide +kernel
theorem Aj {W np nm:Nat} {st1 st2:List Str} (w4:4<=W) (w24:W<=24) (p1:1<=np) (l1:st1.length<=3) (l2:st2.length<=3) (h1:∀ s∈st1,s∈cG) (h2:∀ s∈st2,s∈cG):i9 (wD W np nm st1 st2) fnQ:=by
 have nmz:∀ z∈plQ++mkQ++fnQ++(["qq","zz"]:List Str),NameS z:=by decide +kernel
 have f3:fnQ.length=3:=rfl
 have m1:∀ z∈plQ,NameS z:=fun z h=>nmz z (by simp [h])
 have m2:∀ z∈mkQ,NameS z:=fun z h=>nmz z (by simp [h])
 have m3:∀ z∈fnQ,NameS z:=fun z h=>nmz z (by simp [h])
 have fst:∀ (l:List Str) (z:Str),(l.map fun y=>(y,z)).map (·.1)=l:=fun l z=>by
  rw [C7];exact (List.map_congr_left fun _ _=>rfl).trans (List.map_id l)
 have nd0:((fM (wD W np nm st1 st2)).map (·.1))=plQ.take np++mkQ.take nm:=by
  unfold fM
  rw [BR,fst,fst]
  rfl
 have ndf:∀ st:List Str,st.length<=3->((fM (wD W np nm st1 st2)++fnQ.zip st).map (·.1)).Nodup:=fun st l=>by
  rw [BR,nd0,eG fnQ st (by lia)]
  exact allQ_nd.sublist (((List.take_sublist _ _).append (List.take_sublist _ _)).append (List.take_sublist _ _))
 refine ⟨w4,w24,⟨by show 4<=4;decide,by show 4<=64;decide⟩,by show 1<=8;decide,⟨?_,fun z h=>(nomatch h),by show 0<=1;decide,by show (["qq","zz"]:List Str).Nodup;decide +kernel,?_,?_,?_,by show 2<=8;decide⟩,⟨fun z h=>m1 z (List.mem_of_mem_take h),fun z h=>m2 z (List.mem_of_mem_take h),?_⟩,rfl,m3,?_,by show 1<=2;decide,?_⟩
 ·rw [nd0]
  exact (allQ_nd.sublist (List.sublist_append_left _ _)).sublist ((List.take_sublist _ _).append (List.take_sublist _ _))
 ·intro x hx
  have hx':x∈[(⟨"qq",fnQ.zip st1⟩:Kn),⟨"zz",fnQ.zip st2⟩]:=hx
  simp only [BW,Ch,or_false] at hx'
  rcases hx' with rfl|rfl
  ·exact ⟨ndf st1 l1,by show (fnQ.zip st1).length<=3;rw [List.length_zip];lia⟩
  ·exact ⟨ndf st2 l2,by show (fnQ.zip st2).length<=3;rw [List.length_zip];lia⟩
 ·show (plQ.take np).length<=4
  rw [BX]
  exact Nat.min_le_right _ _
 ·show (mkQ.take nm).length<=3
  rw [BX]
  exact Nat.min_le_right _ _
 ·intro x hx
  have hx':x∈[(⟨"qq",fnQ.zip st1⟩:Kn),⟨"zz",fnQ.zip st2⟩]:=hx
  simp only [BW,Ch,or_false] at hx'
  rcases hx' with rfl|rfl
  ·exact nmz _ (by simp)
  ·exact nmz _ (by simp)
 ·show 1<=(plQ.take np).length
  rw [BX]
  have:plQ.length=4:=rfl
  lia
 ·intro x hx
  have hx':x∈[(⟨"qq",fnQ.zip st1⟩:Kn),⟨"zz",fnQ.zip st2⟩]:=hx
  simp only [BW,Ch,or_false] at hx'
  rcases hx' with rfl|rfl
  ·exact ⟨st1,rfl,l1,fun s h=>⟨h1 s h,trivial⟩⟩
  ·exact ⟨st2,rfl,l2,fun s h=>⟨h2 s h,trivial⟩⟩
def hG (D:Fm):List (List (List Nat)):=[[cp "word"],[dg D.width],[[59],cp "cells",[52],[59],cp "depth",[49],[59],cp "places"]]
def wG (D:Fm):List (List (List Nat)):=hG D++D.places.map (fun z=>[cp z])++[[[59],cp "marks"]]++D.marks.map (fun z=>[cp z])++[[[59],cp "gate",[59]]]++(D.kinds.map gY).flatten
variable {D:Fm}
theorem oE (c:D.cells=4) (d:D.depth=1) (g:D.gates=[]):(wG D).flatten=rC D:=by
 have e4:dg 4=[52]:=by decide +kernel
 have e1:dg 1=[49]:=by decide +kernel
 unfold rC uL rn rq rB wG hG
 rw [c,d,g,e4,e1]
 simp
theorem lM:∀ gs:List (List (List Nat)),(∀ g∈gs,∀ t∈g,TK.Tok t)->TK.toks (TK.jn [32] (gs.map (TK.jn [32])))=gs.flatten
 | [],_=>rfl
 | [g],h=>by
  have:=TK.nR [32] [] (by simp) (by decide) (by simp) g (h g BQ)
  rw [Cv] at this
  simpa [TK.jn] using this
 | g::k::r,h=>by
  have ih:=lM (k::r) fun x hx=>h x (BV _ hx)
  have e:TK.jn [32] ((g::k::r).map (TK.jn [32]))=TK.jn [32] g++(32::TK.jn [32] ((k::r).map (TK.jn [32]))):=rfl
  rw [e,CU,<-ih]
  cases g with
  | nil=>exact TK.dZ (show TK.dz 32=true from rfl)
  | cons t g=>
   rw [jA (.inr ⟨32,_,rfl,rfl⟩) (t::g) (by simp) (h _ BQ),TK.dZ (show TK.dz 32=true from rfl)]
theorem sS (hO:i9 D fnQ) (c:D.cells=4) (d:D.depth=1) (g:D.gates=[]):(∀ x∈wG D,∀ t∈x,TkOk t)/\(∀ x∈wG D,x.length<=8)/\(wG D).length<=60:=by
 have hm:∀ t∈rC D,TkOk t:=fun t ht=>by
  obtain ⟨g,hg,ht⟩:=List.mem_flatten.mp ht
  exact (m6 hO g hg).2 t ht
 refine ⟨fun x hx t ht=>hm t (by rw [<-oE c d g];exact List.mem_flatten.mpr ⟨x,hx,ht⟩),fun x hx=>?_,?_⟩
 ·unfold wG hG at hx
  simp only [Cp,BW,Ch,or_false,CM,List.mem_flatten] at hx
  rcases hx with ((((((rfl|rfl|rfl)|⟨z,_,rfl⟩)|rfl)|⟨z,_,rfl⟩)|rfl)|⟨k,⟨y,hy,rfl⟩,hx⟩)
  ·decide
  ·simp
  ·simp
  ·simp
  ·simp
  ·simp
  ·simp
  ·unfold gY at hx
   simp only [BW,Ch,or_false] at hx
   rcases hx with rfl|rfl|rfl|rfl|rfl
   ·simp
   ·simp
   ·simp
   ·rw [gm]
    have:=(hO.fm.kf y hy).2
    lia
   ·simp
 ·have:=hO.fm.p4
  have:=hO.fm.m3
  have:=hO.fm.k8
  unfold wG hG
  simp only [BN,BJ,BS,Cn,eZ]
  lia
theorem yO (hO:i9 D fnQ) (c:D.cells=4) (d:D.depth=1) (g:D.gates=[]):(((wG D).map (TK.jn [32])).map List.length).sum+((wG D).map (TK.jn [32])).length*1<=20000:=by
 obtain ⟨h1,h2,h3⟩:=sS hO c d g
 have a:=iH 80 ((wG D).map (TK.jn [32])) fun z hz=>by
  obtain ⟨x,hx,rfl⟩:=CM.mp hz
  have b:=j5 [32] x
  have s:=iH 8 x fun t ht=>(h1 x hx t ht).le
  have l:=h2 x hx
  simp only [BS,Cn] at b
  lia
 rw [BJ] at a ⊢
 lia
def KdV (H:Hp) (u:V) (x:Kn):Prop:=∃ t f us,u=.ref t/\H t=some (.tup [.str x.name,.ref f])/\H f=some (.lst us)/\Paired (FldV H) us x.fs
theorem KdV.same {u:V} {x:Kn} (s:Same H H') (h:KdV H u x):KdV H' u x:=let ⟨t,f,us,a,b,c,d⟩:=h;⟨t,f,us,a,s _ _ b,s _ _ c,cq (fun _ _ h=>FldV.kt (be s) h) d⟩
structure WkV (H:Hp) (D:Fm) (lp lm lk:Addr) (ks:List V):Prop where
 ep:H lp=some (.lst (ap D.places))
 em:H lm=some (.lst (ap D.marks))
 ek:H lk=some (.lst ks)
 kd:Paired (KdV H) ks D.kinds
variable {ks:List V} {lp lm lk:Addr}
theorem WkV.same (h:WkV H D lp lm lk ks) (s:Same H H'):WkV H' D lp lm lk ks:=⟨s _ _ h.ep,s _ _ h.em,s _ _ h.ek,cq (fun _ _ h=>KdV.same s h) h.kd⟩
def WoV (C:Addr) (H:Hp) (v:V) (W:Fm×Kn):Prop:=∃ a tv ls,v=.ref a/\H a=some (.tup [tv,.int W.1.width,.int W.1.places.length,.int W.1.marks.length,.ref ls,.str W.2.name])/\TabV C H tv W.1/\H ls=some (.lst (ap (W.2.fs.map (·.2))))
variable {W:Fm×Kn}
theorem WoV.same (s:Same H H') (h:WoV C H v W):WoV C H' v W:=let ⟨a,tv,ls,e,b,c,d⟩:=h;⟨a,tv,ls,e,s _ _ b,c.same s,s _ _ d⟩
structure WOk (W:Fm×Kn):Prop where
 sh:i9 W.1 fnQ
 km:W.2∈W.1.kinds
 kn:W.1.kinds.map Kn.name=(["qq","zz"]:List Str)
def Ak (C:Addr):Sp:=fun vs H Q _=>∃ (q:Addr) (Hb:Hp),vs=[.ref q]/\Strm H q/\Same Hb H/\Hb q=none/\∀ l us Ws H',Strm H' q->Same Hb H'->But q H H'->H l=none->H' l=some (.lst us)->Paired (WoV C H') us Ws->Ws.length=2->(∀ W∈Ws,WOk W)->Q (.ref l) H'
theorem scWs:am ["_law_stream_here","_law_places","_law_marks","_law_width","_law_kinds","_law_words","_law_kind","_law_fields_here","_law_inner","_law_read","_law_worlds_here"] ["_law_stream_here"] (aj eM):=bG (by decide +kernel)
theorem oF:(["_law_name","_law_sort"]:List Str).Nodup:=by decide +kernel
theorem Al (D:Fm):([V.str "word",.str (toString (D.width:Int):Str),.str "; cells 4 ; depth 1 ; places"]:List V)=wV (hG D):=by
 have e1:(("word":Str))=S (TK.jn [32] [cp "word"]):=by decide +kernel
 have e2:(("; cells 4 ; depth 1 ; places":Str))=S (TK.jn [32] [[59],cp "cells",[52],[59],cp "depth",[49],[59],cp "places"]):=by decide +kernel
 rw [fL,e1,e2]
 rfl
theorem Am:([V.str "; gate ;"]:List V)=wV [[[59],cp "gate",[59]]]:=by
 have e2:(("; gate ;":Str))=S (TK.jn [32] [[59],cp "gate",[59]]):=by decide +kernel
 rw [e2]
 rfl
structure WkA (q:Addr) (H H':Hp) (D:Fm) (lp lm lk:Addr) (ks:List V):Prop where
 g:Strm H' q
 b:But q H H'
 wk:WkV H' D lp lm lk ks
 sh:i9 D fnQ
 ce:D.cells=4
 de:D.depth=1
 ga:D.gates=[]
 kn:D.kinds.map Kn.name=(["qq","zz"]:List Str)
variable {q:Addr}
theorem WkA.same {H H' H2:Hp} (h:WkA q H H' D lp lm lk ks) (s:Same H' H2):WkA q H H2 D lp lm lk ks:=⟨h.g.same s,h.b.same s,h.wk.same s,h.sh,h.ce,h.de,h.ga,h.kn⟩
theorem yP (h:i<=1000):((i:Nat):Int).natAbs.log2 < 1920:=by
 rw [Int.natAbs_natCast]
 by_cases hz:i=0
 ·rw [hz];decide
 ·have:=Nat.log2_lt hz |>.mpr (show i < 2 ^ 10 by lia)
  lia
variable {xs ys:List V}
theorem TabV.ls {l:Addr} (e:H l=some (.lst xs)) (h:TabV C H v D):TabV C (aC H l (.lst ys)) v D:=by
 have ne:∀ {a:Addr} {o:HO},H a=some o->(∀ zs,o≠.lst zs)->(aC H l (.lst ys)) a=some o:=fun ha hn=>by
  rw [aw (fun z=>by rw [z,e] at ha;exact hn xs (Cf ha).symm)]
  exact ha
 obtain ⟨a,dx,pp,pm,pn,pk,us,e,b,c,d,f,g,i⟩:=h
 exact ⟨a,dx,pp,pm,pn,pk,us,e,ne b (fun _ z=>by cases z),ne c (fun _ z=>by cases z),ne d (fun _ z=>by cases z),ne f (fun _ z=>by cases z),ne g (fun _ z=>by cases z),cq (fun _ _ h=>KindV.kt (lr ‹_›) h) i⟩
def WoL (C:Addr) (l:Addr) (H:Hp) (v:V) (W:Fm×Kn):Prop:=∃ a tv ls,v=.ref a/\H a=some (.tup [tv,.int W.1.width,.int W.1.places.length,.int W.1.marks.length,.ref ls,.str W.2.name])/\TabV C H tv W.1/\ls≠l/\H ls=some (.lst (ap (W.2.fs.map (·.2))))
theorem WoL.same {C l:Addr} (s:Same H H') (h:WoL C l H v W):WoL C l H' v W:=let ⟨a,tv,ls,e,b,c,n,d⟩:=h;⟨a,tv,ls,e,s _ _ b,c.same s,n,s _ _ d⟩
theorem WoL.ls {C l:Addr} (e:H l=some (.lst xs)) (h:WoL C l H v W):WoL C l (aC H l (.lst ys)) v W:=by
 obtain ⟨a,tv,ls,ea,b,c,n,d⟩:=h
 refine ⟨a,tv,ls,ea,?_,c.ls e,n,by rw [aw n];exact d⟩
 rw [aw (fun z=>by rw [z,e] at b;cases b)]
 exact b
theorem yQ (F:Fun K "_law_worlds" "_law_worlds" eM f fd) (B:Bl mg) (TK':Fn P w K mg base "_law_take" 1 ["_law_stream_here","_law_many"] cU) (LF:Fn P w K mg base "_law_fields" 2 ["_law_stream_here"] we) (RT:Fn P w K mg base "read_table" 8 ["text"] (xz C)):FnOk P w K mg base bu 9 f fd ["_law_stream_here"] (Ak C):=by
 have ZZ:=scWs
 walk_at "o"
 ·obtain ⟨q,Hb,rfl,hq,sb,nq,qq⟩:=h
  have sz:(100000:Nat)<=sizeLine:=by decide
  have hr1:Room 1 _:=hr.mono (by decide)
  have hr2:Room 2 _:=hr.mono (by decide)
  refine ⟨_,af (aB (i:=1) scWs.nd rfl (Or.inl rfl) (cN hJ (aL (aa ak (aa ak (aa ak (aa ak ac))))) fW (cC (bi cv ai (aq TK' hr1 rfl (aa (pv 0) (aa ai ac))))))) (af (aB (i:=2) scWs.nd rfl (Or.inl rfl) (cN hJ (aL (aa ak (aa ak (aa ak ac)))) fW (cC (aq TK' hr1 rfl (aa (pv 0) (aa ai ac)))))) (af (aB (i:=3) scWs.nd rfl (Or.inl rfl) (bi cv ai (aq TK' hr1 rfl (aa (pv 0) (aa ai ac))))) (cF (fun σ H'=>∃ D lp lm lk ks,σ=[some (.ref q),some (.ref lp),some (.ref lm),some (.int D.width),some (.ref lk),none,none,none,none,none,none]/\WkA q H H' D lp lm lk ks) (aB (i:=4) scWs.nd rfl (Or.inl rfl) (aL (aa (aH (aa ak (aa (aq LF hr2 rfl (aa (pv 0) ac)) ac))) (aa (aH (aa ak (aa (aq LF hr2 rfl (aa (pv 0) ac)) ac))) ac)))) (cF (fun σ H'=>∃ D lp lm lk ks lw,σ=[some (.ref q),some (.ref lp),some (.ref lm),some (.int D.width),some (.ref lk),some (.ref lw),none,none,none,none,none]/\WkA q H H' D lp lm lk ks/\H' lw=some (.lst (wV (hG D++D.places.map (fun z=>[cp z])++[[[59],cp "marks"]]++D.marks.map (fun z=>[cp z])++[[[59],cp "gate",[59]]])))) (aB (i:=5) scWs.nd rfl (Or.inl rfl) (bi dI (bi dI (bi dI (bi dI (aL (aa ak (aa (aW jG (by rfl) B.str eV (aa (pv 3) ac)) (aa ak ac)))) (pv 1)) (aL (aa ak ac))) (pv 2)) (aL (aa ak ac)))) (af (cH PassesOwn.never rfl (cL (pv 4)) (c9 rfl (aR (aI (i:=6) scWs.nd rfl (Or.inl rfl)) (aR (aI (i:=7) scWs.nd rfl (Or.inl rfl)) cg))) (af (aB (i:=8) scWs.nd rfl (Or.inl rfl) (fj PySem.F.plainAttrs_str PySem.F.slot_str_join PySem.F.type_str_join nS ak (aa (fk (N':=["_law_name","_law_sort"]) (ix:=[none,none]) (sc0:=aj eM) (N:=["_law_stream_here","_law_places","_law_marks","_law_width","_law_kinds","_law_words","_law_kind","_law_fields_here","_law_inner","_law_read","_law_worlds_here"]) rfl (by decide +kernel) (cL (pv 7)) (fun _ _ _ _ _=>(ia (K:=K) (n:=2) rfl rfl (aR (aI (i:=0) oF rfl (Or.inl rfl) (.inr rfl)) (aR (aI (i:=1) oF rfl (Or.inl rfl) (.inr rfl)) cg)))) (fun _ _ _ _ _=>cw) (fun _ _ _ _ _=>(bi ii (bi ii (pv 0) ak) (pv 1)))) ac))) (ah (aB (i:=5) scWs.nd rfl (Or.inl rfl) (bi dI (pv 5) (aL (aa ak (aa (pv 6) (aa ak (aa (pv 8) (aa ak ac))))))))))) (af (aB (i:=9) scWs.nd rfl (Or.inl rfl) (aq RT hr rfl (aa (fj PySem.F.plainAttrs_str PySem.F.slot_str_join PySem.F.type_str_join nS ak (aa (pv 5) ac)) ac))) (af (aB (i:=10) scWs.nd rfl (Or.inl rfl) (aL ac)) (af (cH PassesOwn.never rfl (cL (pv 4)) (c9 rfl (aR (aI (i:=6) scWs.nd rfl (Or.inl rfl)) (aR (aI (i:=7) scWs.nd rfl (Or.inl rfl)) cg))) (ah (bo (fj Cz Cw Cr cx (pv 10) (aa (aH (aa (pv 9) (aa (pv 3) (aa (aA aT (by rfl) B.len B7 (aa (pv 1) ac)) (aa (aA aT (by rfl) B.len B7 (aa (pv 2) ac)) (aa (fk (N':=["_law_name","_law_sort"]) (ix:=[none,none]) (sc0:=aj eM) (N:=["_law_stream_here","_law_places","_law_marks","_law_width","_law_kinds","_law_words","_law_kind","_law_fields_here","_law_inner","_law_read","_law_worlds_here"]) rfl (by decide +kernel) (cL (pv 7)) (fun _ _ _ _ _=>(ia (K:=K) (n:=2) rfl rfl (aR (aI (i:=0) oF rfl (Or.inl rfl) (.inr rfl)) (aR (aI (i:=1) oF rfl (Or.inl rfl) (.inr rfl)) cg)))) (fun _ _ _ _ _=>cw) (fun _ _ _ _ _=>(pv 1))) (aa (pv 6) ac))))))) ac))))) (ah (al (pv 10))))))))))),?_⟩
  refine ⟨bh,fun l1 n1=>?_⟩
  have s1:=ae (o:=.lst (ap plQ)) n1
  have e1:(aC H l1 (.lst (ap plQ))) l1=some (.lst (ap plQ)):=ad
  have q1:=hq.ne n1
  refine ⟨_,rfl,q,4,rfl,hq.same s1,by decide,by decide,fun r1 H2 hr1' g2 b2=>⟨_,_,rfl,rfl,_,rfl,l1,_,rfl,SqL.of (b2 _ _ e1 q1.symm),fun lp np=>?_⟩⟩
  rw [show (1:Int)+(r1:Int)=((1+r1:Nat):Int) from by lia,gS]
  have b02:But q H H2:=(eB s1).trans b2
  have s3:=ae (o:=.lst (ap (plQ.take (1+r1)))) np
  have ep:(aC H2 lp (.lst (ap (plQ.take (1+r1))))) lp=some (.lst (ap (plQ.take (1+r1)))):=ad
  have qp:=g2.ne np
  have g3:=g2.same s3
  have b03:=b02.same s3
  generalize aC H2 lp (.lst (ap (plQ.take (1+r1))))=H3 at *
  clear b02 s3 g2 b2 s1 e1 q1
  refine ⟨bh,fun l4 n4=>?_⟩
  have s4:=ae (o:=.lst (ap mkQ)) n4
  have e4:(aC H3 l4 (.lst (ap mkQ))) l4=some (.lst (ap mkQ)):=ad
  have q4:=g3.ne n4
  refine ⟨_,rfl,q,4,rfl,g3.same s4,by decide,by decide,fun r2 H5 hr2' g5 b5=>⟨_,rfl,l4,_,rfl,SqL.of (b5 _ _ e4 q4.symm),fun lm nm=>?_⟩⟩
  rw [gS]
  have b35:But q H3 H5:=(eB s4).trans b5
  have s6:=ae (o:=.lst (ap (mkQ.take r2))) nm
  have em:(aC H5 lm (.lst (ap (mkQ.take r2)))) lm=some (.lst (ap (mkQ.take r2))):=ad
  have qm:=g5.ne nm
  have g6:=g5.same s6
  have b36:=b35.same s6
  have ep6:=b36 _ _ ep qp.symm
  generalize aC H5 lm (.lst (ap (mkQ.take r2)))=H6 at *
  have b06:=b03.trans b36
  clear b35 s6 g5 b5 s4 e4 q4 b36 g3 b03 ep
  refine ⟨_,rfl,q,21,rfl,g6,by decide,by decide,fun r3 H7 hr3 g7 b7=>⟨_,_,rfl,rfl,?_⟩⟩
  rw [show (4:Int)+(r3:Int)=((4+r3:Nat):Int) from by lia]
  refine ⟨?_,?_⟩
  ·rintro σ H1 ⟨D,lp,lm,lk,ks,rfl,wa1⟩
   refine ⟨?_,?_⟩
   ·rintro σ H1 ⟨D,lp,lm,lk,ks,lw,rfl,wa,ew⟩
    obtain ⟨g1,b1,wk,hO,ce,de,ga,kn⟩:=wa
    have sb1:=c8 nq sb b1
    have w24:=hO.w24
    have p4:=hO.fm.p4
    have m3:=hO.fm.m3
    have k8:=hO.fm.k8
    have lks:=wk.kd.length
    have wk2:=wk
    have s2:Same H1 H1:=Same.refl _
    refine ⟨_,rfl,lk,rfl,⟨_,SqL.of wk2.ek⟩,?_⟩
    refine dU (K:=K) (a:=lk) (xs:=ks) (fun i σ H'=>∃ (lw:Addr) (v6 v7 v8:Option V),σ=[some (.ref q),some (.ref lp),some (.ref lm),some (.int D.width),some (.ref lk),some (.ref lw),v6,v7,v8,none,none]/\Same H1 H'/\H' lw=some (.lst (wV (hG D++D.places.map (fun z=>[cp z])++[[[59],cp "marks"]]++D.marks.map (fun z=>[cp z])++[[[59],cp "gate",[59]]]++((D.kinds.take i).map gY).flatten)))) ⟨lw,_,_,_,rfl,s2,by simpa using ew⟩ (fun i σ H' _ ⟨_,_,_,_,_,s',_⟩=>SqL.of (s' _ _ wk.ek)) ?_ ?_
    ·rintro i u σ H3 hx ⟨lw,v6,v7,v8,rfl,s3,ew3⟩
     obtain ⟨x,hxi,t,fa,us,rfl,ht,hf,hp⟩:=gN (wk.same s3).kd hx
     have hxm:x∈D.kinds:=Ca hxi
     have hi8:i < D.kinds.length:=(BL.mp hxi).1
     have f3:=(hO.fm.kf x hxm).2
     have lu:=hp.length
     refine ⟨t,_,rfl,SqT.of ht,rfl,_,_,rfl,_,_,rfl,rfl,?_⟩
     refine ⟨rfl,_,rfl,fa,rfl,⟨_,SqL.of hf⟩,?_⟩
     refine fZ (K:=K) (a:=fa) (xs:=us) (fun j ys H'=>H'=H3/\ys=wc ((gu x.fs).take j)) ⟨rfl,rfl⟩ (fun j ys H' hj ⟨a1,e'⟩=>by
       subst a1
       refine ⟨SqL.of hf,?_⟩
       rw [e']
       unfold wc gu
       rw [BJ,BX,BJ]
       lia) ?_ ?_
     ·rintro j y ys H' hy ⟨rfl,rfl⟩
      obtain ⟨fl,hfl,pf,rfl,hpf⟩:=gN hp hy
      have hfo:=oi hO hxm fl (Ca hfl)
      refine ⟨pf,_,rfl,SqT.of hpf,rfl,_,_,rfl,_,_,rfl,rfl,trivial,cE ?_⟩
      have n8:=hfo.1.len
      have w8:=(wd (dQ hfo.2)).le
      have ln1:fl.1.length=(cp fl.1).length:=by unfold cp;simp [Str.length]
      have ln2:fl.2.length=(cp fl.2).length:=by unfold cp;simp [Str.length]
      refine ⟨_,rfl,_,_,rfl,rfl,?_,_,rfl,_,_,rfl,rfl,?_,Nx.mk (BL.mp hy).1 ⟨rfl,?_⟩⟩
      ·show fl.1.length+1<=_
       lia
      ·rw [<-gl fl.1,xC,qE,bK,BN]
       show _+1+_<=_
       lia
      ·have ev:fl.1++(" ":Str)++fl.2=S (cp fl.1++(32::cp fl.2)):=by
        rw [<-gl fl.1,<-gl fl.2,xC,qE,qE,zU,zU]
        simp
       rw [ev,Cj]
       have:(gu x.fs)[j]?=some (cp fl.1++(32::cp fl.2)):=by unfold gu;rw [Co,hfl];rfl
       rw [this]
       unfold wc
       simp
     rintro ys H' ⟨rfl,rfl⟩ l4 n4
     have etk:(gu x.fs).take us.length=gu x.fs:=Cq (by unfold gu;rw [BJ];lia)
     rw [etk]
     generalize zz:aC H' l4 _=H4
     have s4:Same H' H4:=zz ▸ ae n4
     have e4:H4 l4=some (.lst (wc (gu x.fs))):=zz ▸ ad
     clear zz
     refine ⟨[32,44,32],l4,gu x.fs,congrArg V.str (by decide +kernel),rfl,SqL.of e4,?_,?_⟩
     ·have:=iH 17 (gu x.fs) fun t ht=>by
       obtain ⟨fl,hfl,rfl⟩:=CM.mp ht
       have hfo:=oi hO hxm fl hfl
       have n8:=hfo.1.len
       have w8:=(wd (dQ hfo.2)).le
       simp only [BN,BS]
       lia
      have l3:(gu x.fs).length<=3:=by unfold gu;rw [BJ];exact f3
      show _+_*3<=100000
      lia
     refine ⟨_,rfl,_,rfl,_,rfl,bh,fun l5 n5=>?_⟩
     rw [Ai]
     generalize zz:aC H4 l5 _=H5
     have s5:Same H4 H5:=zz ▸ ae n5
     have e5:H5 l5=some (.lst (wV (gY x))):=zz ▸ ad
     clear zz
     have ew5:=s5 _ _ (s4 _ _ ew3)
     refine ⟨lw,l5,_,_,rfl,rfl,ew5,e5,?_,fun l6 n6=>?_⟩
     ·rw [eL,eL]
      simp only [BN,BJ,eZ,hG,gY,BS,Cn,BX]
      lia
     rw [<-iO]
     refine ⟨l6,_,_,_,rfl,((s3.trans s4).trans s5).trans (ae n6),?_⟩
     rw [ad,Cj,hxi]
     simp
    ·rintro σ H3 ⟨lw,v6,v7,v8,rfl,s3,ew3⟩
     have etk:D.kinds.take ks.length=D.kinds:=Cq (by lia)
     rw [etk] at ew3
     obtain ⟨t1,t2,t3⟩:=sS hO ce de ga
     have tl:=yO hO ce de ga
     have tt:=lM (wG D) fun x hx t ht=>(t1 x hx t ht).tok
     rw [oE ce de ga] at tt
     refine ⟨rfl,_,rfl,[32],lw,(wG D).map (TK.jn [32]),congrArg V.str xC,rfl,SqL.of ew3,?_,?_⟩
     ·show _+_*1<=100000
      lia
     refine ⟨_,D,rfl,Cm (j5 [32] _) ?_,?_,?_,hO.fm,fun v H4 s4 hT=>?_⟩
     ·show _+_*1<=20000
      exact tl
     ·rw [tt]
      exact (rF hO).2
     ·rw [tt,zW]
      exact uO hO
     refine ⟨bh,fun lo no=>?_⟩
     have s5:=ae (o:=.lst []) no
     have e5:(aC H4 lo (.lst [])) lo=some (.lst []):=ad
     have s15:=(s3.trans s4).trans s5
     have nlo:H1 lo=none:=(s3.trans s4).free no
     have hT5:=hT.same s5
     generalize aC H4 lo (.lst ([]:List V))=H5 at *
     have wk5:=wk.same s15
     refine ⟨_,rfl,lk,rfl,⟨_,SqL.of wk5.ek⟩,?_⟩
     have mutS:∀ {H':Hp} {o:HO},Same H1 H'->Same H1 (aC H' lo o):=fun s=>aG nlo s
     refine dU (K:=K) (a:=lk) (xs:=ks) (fun i σ H'=>∃ (v6 v7:Option V) (v8:Option V) (us:List V),σ=[some (.ref q),some (.ref lp),some (.ref lm),some (.int D.width),some (.ref lk),some (.ref lw),v6,v7,v8,some v,some (.ref lo)]/\Same H1 H'/\TabV C H' v D/\H' lo=some (.lst us)/\us.length=i/\Paired (WoL C lo H') us ((D.kinds.take i).map fun x=>(D,x))) ⟨_,_,_,[],rfl,s15,hT5,e5,rfl,.nil⟩ (fun i σ H' _ ⟨_,_,_,_,_,s',_⟩=>SqL.of (s' _ _ wk.ek)) ?_ ?_
     ·rintro i u σ H6 hx ⟨v6',v7',v8',us,rfl,s6,hT6,e6,lu,hp6⟩
      obtain ⟨x,hxi,t,fa,fu,rfl,ht,hf,hpf⟩:=gN (wk.same s6).kd hx
      have hxm:x∈D.kinds:=Ca hxi
      have hi8:i < D.kinds.length:=(BL.mp hxi).1
      have f3:=(hO.fm.kf x hxm).2
      have lfu:=hpf.length
      have wk6:=wk.same s6
      refine ⟨t,_,rfl,SqT.of ht,rfl,_,_,rfl,_,_,rfl,rfl,?_⟩
      refine ⟨_,rfl,.inl ⟨rfl,_,SqL.of e6⟩,_,rfl,_,rfl,_,rfl,lp,_,rfl,.inl (SqL.of wk6.ep),_,rfl,lm,_,rfl,.inl (SqL.of wk6.em),_,rfl,fa,rfl,⟨_,SqL.of hf⟩,?_⟩
      refine fZ (K:=K) (a:=fa) (xs:=fu) (fun j ys H'=>H'=H6/\ys=ap ((x.fs.map (·.2)).take j)) ⟨rfl,rfl⟩ (fun j ys H' hj ⟨a1,e'⟩=>by
        subst a1
        refine ⟨SqL.of hf,?_⟩
        rw [e',bS,BX,BJ]
        lia) ?_ ?_
      ·rintro j y ys H' hy ⟨rfl,rfl⟩
       obtain ⟨fl,hfl,pf,rfl,hpf'⟩:=gN hpf hy
       refine ⟨pf,_,rfl,SqT.of hpf',rfl,_,_,rfl,_,_,rfl,rfl,trivial,cE ⟨_,rfl,Nx.mk (BL.mp hy).1 ⟨rfl,?_⟩⟩⟩
       have:(x.fs.map (·.2))[j]?=some fl.2:=by rw [Co,hfl];rfl
       rw [Cj,this]
       unfold ap
       simp
      rintro ys H' ⟨rfl,rfl⟩ l7 n7
      have etk2:(x.fs.map (·.2)).take fu.length=x.fs.map (·.2):=Cq (by rw [BJ];lia)
      rw [etk2]
      generalize zz:aC H' l7 _=H7
      have s7:Same H' H7:=zz ▸ ae n7
      have e7:H7 l7=some (.lst (ap (x.fs.map (·.2)))):=zz ▸ ad
      clear zz
      refine ⟨_,rfl,bh,fun t8 n8=>?_⟩
      rw [bS,bS]
      generalize zz:aC H7 t8 _=H8
      have s8:Same H7 H8:=zz ▸ ae n8
      have e8:H8 t8=some (.tup [v,.int D.width,.int D.places.length,.int D.marks.length,.ref l7,.str x.name]):=zz ▸ ad
      clear zz
      have s68:=s7.trans s8
      have e68:=s68 _ _ e6
      refine ⟨lo,_,_,rfl,rfl,e68,by lia,?_⟩
      refine ⟨_,_,_,us++[.ref t8],rfl,mutS (s6.trans s68),(hT6.same s68).ls e68,ad,by rw [BN,lu];rfl,?_⟩
      rw [Cj,hxi,BR]
      refine gV (WoL.ls e68 ⟨t8,v,l7,rfl,e8,hT6.same s68,fun z=>?_,s8 _ _ e7⟩) (cq (fun _ _ h=>WoL.ls e68 (h.same s68)) hp6)
      rw [z,e6] at n7
      cases n7
     ·rintro σ H6 ⟨v6',v7',v8',us,rfl,s6,hT6,e6,lu,hp6⟩
      rw [etk] at hp6
      refine ⟨_,rfl,qq lo us _ H6 (g1.same s6) (sb1.trans s6) (b1.same s6) ?_ e6 (cq (fun _ _ ⟨a,tv,ls,h1,h2,h3,_,h5⟩=>⟨a,tv,ls,h1,h2,h3,h5⟩) hp6) ?_ ?_⟩
      ·cases e:H lo with
       | none=>rfl
       | some o=>
        by_cases z:lo=q
        ·subst z
         obtain ⟨x,y,z,h⟩:=g1
         rw [h] at nlo
         cases nlo
        ·have:=b1 _ _ e z
         rw [nlo] at this
         cases this
      ·have:=congrArg List.length kn
       rw [BJ] at this
       rw [BJ,this]
       rfl
      ·intro W hW
       obtain ⟨x,hx,rfl⟩:=CM.mp hW
       exact ⟨hO,hx,kn⟩
   ·have w24:=wa1.sh.w24
    have p4:=wa1.sh.fm.p4
    have m3:=wa1.sh.fm.m3
    refine ⟨_,rfl,_,rfl,yP (by lia),bh,fun l1 n1=>?_⟩
    rw [Al]
    have s1:=ae (o:=.lst (wV (hG D))) n1
    have e1:(aC H1 l1 (.lst (wV (hG D)))) l1=some (.lst (wV (hG D))):=ad
    have wa2:=wa1.same s1
    generalize aC H1 l1 (.lst (wV (hG D)))=H2 at *
    refine ⟨_,rfl,l1,lp,_,_,rfl,rfl,e1,wa2.wk.ep,by rw [eL,bS];simp only [hG,BS,Cn];lia,fun l2 n2=>?_⟩
    rw [<-oC,<-iO]
    have s2:=ae (o:=.lst (wV (hG D++D.places.map fun z=>[cp z]))) n2
    have e2:(aC H2 l2 (.lst (wV (hG D++D.places.map fun z=>[cp z])))) l2=some (.lst (wV (hG D++D.places.map fun z=>[cp z]))):=ad
    have wa3:=wa2.same s2
    generalize aC H2 l2 (.lst (wV (hG D++D.places.map fun z=>[cp z])))=H3 at *
    refine ⟨bh,fun l3 n3=>?_⟩
    rw [Ah]
    have s3:=ae (o:=.lst (wV [[[59],cp "marks"]])) n3
    have e3:(aC H3 l3 (.lst (wV [[[59],cp "marks"]]))) l3=some (.lst (wV [[[59],cp "marks"]])):=ad
    have e23:=s3 _ _ e2
    have wa4:=wa3.same s3
    generalize aC H3 l3 (.lst (wV [[[59],cp "marks"]]))=H4 at *
    refine ⟨l2,l3,_,_,rfl,rfl,e23,e3,by rw [eL,eL];simp only [hG,BN,BJ,BS,Cn];lia,fun l4 n4=>?_⟩
    rw [<-iO]
    have s4:=ae (o:=.lst (wV (hG D++D.places.map (fun z=>[cp z])++[[[59],cp "marks"]]))) n4
    have e4:(aC H4 l4 (.lst (wV (hG D++D.places.map (fun z=>[cp z])++[[[59],cp "marks"]])))) l4=some (.lst (wV (hG D++D.places.map (fun z=>[cp z])++[[[59],cp "marks"]]))):=ad
    have wa5:=wa4.same s4
    generalize aC H4 l4 (.lst (wV (hG D++D.places.map (fun z=>[cp z])++[[[59],cp "marks"]])))=H5 at *
    refine ⟨_,rfl,l4,lm,_,_,rfl,rfl,e4,wa5.wk.em,by rw [eL,bS];simp only [hG,BN,BJ,BS,Cn];lia,fun l5 n5=>?_⟩
    rw [<-oC,<-iO]
    have s5:=ae (o:=.lst (wV (hG D++D.places.map (fun z=>[cp z])++[[[59],cp "marks"]]++D.marks.map fun z=>[cp z]))) n5
    have e5:(aC H5 l5 (.lst (wV (hG D++D.places.map (fun z=>[cp z])++[[[59],cp "marks"]]++D.marks.map fun z=>[cp z])))) l5=some (.lst (wV (hG D++D.places.map (fun z=>[cp z])++[[[59],cp "marks"]]++D.marks.map fun z=>[cp z]))):=ad
    have wa6:=wa5.same s5
    generalize aC H5 l5 (.lst (wV (hG D++D.places.map (fun z=>[cp z])++[[[59],cp "marks"]]++D.marks.map fun z=>[cp z])))=H6 at *
    refine ⟨bh,fun l6 n6=>?_⟩
    rw [Am]
    have s6:=ae (o:=.lst (wV [[[59],cp "gate",[59]]])) n6
    have e6:(aC H6 l6 (.lst (wV [[[59],cp "gate",[59]]]))) l6=some (.lst (wV [[[59],cp "gate",[59]]])):=ad
    have e56:=s6 _ _ e5
    have wa7:=wa6.same s6
    generalize aC H6 l6 (.lst (wV [[[59],cp "gate",[59]]]))=H7 at *
    refine ⟨l5,l6,_,_,rfl,rfl,e56,e6,by rw [eL,eL];simp only [hG,BN,BJ,BS,Cn];lia,fun l7 n7=>?_⟩
    rw [<-iO]
    exact ⟨D,lp,lm,lk,ks,l7,rfl,wa7.same (ae n7),ad⟩
  ·have b07:=b06.trans b7
   have ep7:=b7 _ _ ep6 qp.symm
   have em7:=b7 _ _ em qm.symm
   refine ⟨_,rfl,q,rfl,g7,fun f1 us1 st1 H8 g8 b8 nf1 ef1 p1 l1 h1=>⟨bh,fun t1 nt1=>?_⟩⟩
   have qf1:=g7.ne nf1
   have s9:=ae (o:=.tup [.str "qq",.ref f1]) nt1
   have et1:(aC H8 t1 (.tup [.str "qq",.ref f1])) t1=some (.tup [.str "qq",.ref f1]):=ad
   have qt1:=g8.ne nt1
   have g9:=g8.same s9
   have b79:=b8.same s9
   have ef9:=s9 _ _ ef1
   have p9:=cq (fun _ _ h=>FldV.kt (be s9) h) p1
   generalize aC H8 t1 (.tup [V.str "qq",.ref f1])=H9 at *
   refine ⟨_,rfl,q,rfl,g9,fun f2 us2 st2 Ha ga ba nf2 ef2 p2 l2 h2=>⟨bh,fun t2 nt2=>?_⟩⟩
   have sb':=ae (o:=.tup [.str "zz",.ref f2]) nt2
   have et2:(aC Ha t2 (.tup [.str "zz",.ref f2])) t2=some (.tup [.str "zz",.ref f2]):=ad
   have gb:=ga.same sb'
   have b9b:=ba.same sb'
   have ef2b:=sb' _ _ ef2
   have p2b:=cq (fun _ _ h=>FldV.kt (be sb') h) p2
   have k9b:TupK H9 (aC Ha t2 (.tup [.str "zz",.ref f2])):=fun a xs e=>b9b _ _ e (by
    rintro rfl
    obtain ⟨x,y,z,h⟩:=g9
    rw [h] at e
    cases e)
   generalize aC Ha t2 (.tup [V.str "zz",.ref f2])=Hc at *
   refine ⟨bh,fun lk nlk=>?_⟩
   have sd:=ae (o:=.lst [.ref t1,.ref t2]) nlk
   have b7c:=b79.trans b9b
   refine ⟨wD (4+r3) (1+r1) r2 st1 st2,lp,lm,lk,[.ref t1,.ref t2],rfl,gb.same sd,(b07.trans b7c).same sd,⟨sd _ _ (b7c _ _ ep7 qp.symm),sd _ _ (b7c _ _ em7 qm.symm),ad,?_⟩,Aj (by lia) (by lia) (by lia) l1 l2 h1 h2,rfl,rfl,rfl,rfl⟩
   refine .cons ⟨t1,f1,us1,rfl,sd _ _ (k9b _ _ et1),sd _ _ (b9b _ _ ef9 qf1.symm),cq (fun _ _ h=>FldV.kt (be sd) (FldV.kt k9b h)) p9⟩ (.cons ⟨t2,f2,us2,rfl,sd _ _ et2,sd _ _ ef2b,cq (fun _ _ h=>FldV.kt (be sd) h) p2b⟩ .nil)
abbrev ic:Stmt:=bH 128
abbrev sT:Stmt:=bH 129
abbrev iQ:Stmt:=bH 130
def oN:Option Nat->V
 | none=>.non
 | some i=>.int (i:Nat)
def vk:Sp:=fun vs H Q _=>∃ (q ls:Addr) (so:Str) (st:List Str),vs=[.ref q,.ref ls,.str so]/\Strm H q/\H ls=some (.lst (ap st))/\st.length<=3/\∀ o H',(∀ j,o=some j->j < 3)->Strm H' q->But q H H'->Q (oN o) H'
structure Dr (C:Addr) (Hb H:Hp) (q:Addr) (v:V) (W:Fm×Kn):Prop where
 g:Strm H q
 sb:Same Hb H
 nq:Hb q=none
 wo:WoV C Hb v W
 ok:WOk W
theorem Dr.but {Hb H H':Hp} (d:Dr C Hb H q v W) (g:Strm H' q) (b:But q H H'):Dr C Hb H' q v W:=⟨g,c8 d.nq d.sb b,d.nq,d.wo,d.ok⟩
def wf (C:Addr):Sp:=fun vs H Q _=>∃ (q:Addr) (v:V) (so:Str) (lo:Bool) (Hb:Hp) (W:Fm×Kn),vs=[.ref q,v,.str so,.bl lo]/\Dr C Hb H q v W/\∀ u t H',TgV q H' u t->SelT t->Strm H' q->But q H H'->Q u H'
theorem sU {X:Cx} (h:X.K=K):zw X (wK K):=by subst h;exact aY
theorem dR (a b:α) (l:Bool):kG [a,b] (if l then 1 else 0)=some (if l then b else a):=by cases l<;>rfl
theorem lN:∀ l:List Nat,PyData.canLayAll0 (l.map fun j:Nat=>PyData.int (j:Int))=true
 | []=>by simp [PyData.canLayAll0]
 | a::r=>by simp only [B6,PyData.canLayAll0,PyData.canLay0,lN r,Bool.and_self]
theorem oG:∀ l:List Nat,DtAll K H (l.map fun j:Nat=>V.int (j:Int)) (l.map fun j:Nat=>PyData.int (j:Int))
 | []=>.nil
 | a::r=>.cons (.int _) (oG r)
theorem scFd:am ["_law_stream_here","_law_sorts","_law_sort","_law_some"] ["_law_stream_here","_law_sorts","_law_sort"] (aj ic):=bG (by decide +kernel)
theorem BI:(["_law_j","_law_sorts","_law_sort"]:List Str).Nodup:=by decide +kernel
theorem yR (F:Fun K "_law_field" "_law_field" ic f fd) (B:Bl mg) (TK':Fn P w K mg base "_law_take" 1 ["_law_stream_here","_law_many"] cU):FnOk P w K mg base bu 2 f fd ["_law_stream_here","_law_sorts","_law_sort"] vk:=by
 have ZZ:=scFd
 walk_at "o"
 ·obtain ⟨q,ls,so,st,rfl,hq,hls,l3,qq⟩:=h
  have sz:(100000:Nat)<=sizeLine:=by decide
  refine ⟨_,af (dw (i:=3) scFd.nd rfl rfl (N':=["_law_j","_law_sorts","_law_sort"]) (ix:=[none,some 1,some 2]) (sc0:=aj ic) (N:=["_law_stream_here","_law_sorts","_law_sort","_law_some"]) rfl (by decide +kernel) (je rfl B.range (aa (aA aT (by rfl) B.len B7 (aa (pv 1) ac)) ac)) (fun _ _ _ _ _=>(aI (i:=0) BI rfl (Or.inl rfl) (.inr rfl))) (fun _ _ _ _ _=>(wM (ax bv (au (sU (K:=K) rfl) (pv 1) (pv 0) (fun _ _=>rfl)) (pv 2) (az _)))) (fun _ _ _ _ _=>(pv 0))) (af (aQ (ax (op_eqD hr) (pv 3) (aL ac) (az _)) (ah (al dD)) ay) (ah (al (au aY (pv 3) (aq TK' hr rfl (aa (pv 0) (aa (aA aT (by rfl) B.len B7 (aa (pv 3) ac)) ac))) (fun _ _=>rfl))))),?_⟩
  refine ⟨_,rfl,ls,_,rfl,.inl (SqL.of hls),_,rfl,by lia,by rw [bS];lia,?_⟩
  rw [bS,show ((st.length:Nat):Int).toNat=st.length from CV _]
  refine kJ (lo:=0) (n:=st.length) (fun i ys H'=>∃ js:List Nat,H'=H/\ys=js.map (fun j:Nat=>V.int (j:Int))/\js.length<=i/\∀ j∈js,j < st.length) ⟨[],rfl,rfl,BT _,fun _ z=>nomatch z⟩ (fun i ys H' hi ⟨js,_,e,l,_⟩=>by rw [e,BJ];lia) ?_ ?_
  ·rintro i ys H' hi ⟨js,rfl,rfl,lj,hj⟩
   refine ⟨⟨rfl,rfl,trivial⟩,?_⟩
   rw [show (0:Int)+(i:Nat)=(i:Nat) from by lia]
   refine ⟨_,rfl,_,rfl,ls,_,_,_,rfl,rfl,SqL.of hls,aJ (fe hi),_,rfl,rfl,_,rfl,bN (fun _=>?_) (fun _=>?_)⟩
   ·refine ⟨_,rfl,Nx.mk hi ⟨js++[i],rfl,by rw [BR];rfl,by rw [BN];simp only [List.length_singleton];lia,fun j h=>?_⟩⟩
    rcases Cp.mp h with h|h
    ·exact hj j h
    ·rw [Cb.mp h];exact hi
   ·exact Nx.mk hi ⟨js,rfl,rfl,by lia,hj⟩
  rintro ys H' ⟨js,rfl,rfl,lj,hj⟩ l1 n1
  have s1:=ae (o:=.lst (js.map fun j:Nat=>V.int (j:Int))) n1
  have e1:(aC H' l1 (.lst (js.map fun j:Nat=>V.int (j:Int)))) l1=some (.lst (js.map fun j:Nat=>V.int (j:Int))):=ad
  have q1:=hq.ne n1
  have g1:=hq.same s1
  generalize aC H' l1 (.lst (js.map fun j:Nat=>V.int (j:Int)))=H1 at *
  refine ⟨_,rfl,bh,fun l2 n2=>?_⟩
  have s2:=ae (o:=.lst []) n2
  have e2:(aC H1 l2 (.lst [])) l2=some (.lst []):=ad
  have e12:=s2 _ _ e1
  have g2:=g1.same s2
  generalize aC H1 l2 (.lst ([]:List V))=H2 at *
  refine ⟨.list (js.map fun j:Nat=>PyData.int (j:Int)),.list [],.lst (SqL.of e12) (oG js),.lst (SqL.of e2) .nil,by simp only [PyData.canLay0,lN],by decide +kernel,Cm (Nat.min_le_right _ _) (by decide +kernel),_,rfl,?_⟩
  have s02:=s1.trans s2
  cases js with
  | nil=>exact bj (by decide +kernel) (qq none _ (fun j h=>nomatch h) g2 (eB s02))
  | cons a r=>
   refine aP (by simp [PyData.eqv,PyData.eqvAll]) ?_
   refine ⟨_,rfl,_,rfl,_,rfl,l1,_,rfl,.inl (SqL.of e12),q,(a::r).length,by rw [BJ],g2,by simp,by lia,fun k H3 hk g3 b3=>?_⟩
   have hz:(((a::r).map fun j:Nat=>V.int (j:Int)))[k]?=some (.int ((a::r)[k]:Nat)):=by rw [Co,BZ hk];rfl
   refine ⟨l1,_,_,_,rfl,rfl,SqL.of (b3 _ _ e12 q1.symm),aJ hz,qq (some (a::r)[k]) _ (fun j h=>?_) g3 ((eB s02).trans b3)⟩
   cases h
   have:=hj _ (CS hk)
   lia
theorem scSe1:am ["_law_stream_here","_law_world","_law_sort","_law_loose","_law_by","_law_most"] ["_law_stream_here","_law_world","_law_sort","_law_loose"] (aj sT):=bG (by decide +kernel)
theorem lO (h:WoV C H v W):∃ a tv ls,v=.ref a/\H a=some (.tup [tv,.int W.1.width,.int W.1.places.length,.int W.1.marks.length,.ref ls,.str W.2.name])/\TabV C H tv W.1/\H ls=some (.lst (ap (W.2.fs.map (·.2)))):=h
theorem WOk.st3 (h:WOk W):(W.2.fs.map (·.2)).length<=3:=by rw [BJ];exact (h.sh.fm.kf _ h.km).2
theorem yS (F:Fun K "_law_sel" "_law_sel" sT f fd) (B:Bl mg) (TK':Fn P w K mg base "_law_take" 1 ["_law_stream_here","_law_many"] cU) (FD:Fn P w K mg base "_law_field" 2 ["_law_stream_here","_law_sorts","_law_sort"] vk):FnOk P w K mg base bu 3 f fd ["_law_stream_here","_law_world","_law_sort","_law_loose"] (wf C):=by
 have ZZ:=scSe1
 walk_at "o"
 ·obtain ⟨q,v,so,lo,Hb,W,rfl,dr,qq⟩:=h
  have hr1:Room 1 _:=hr.mono (by decide)
  refine ⟨_,af (aB (i:=4) scSe1.nd rfl (Or.inl rfl) (aq FD hr rfl (aa (pv 0) (aa (au av (pv 1) ai (fun _ _=>rfl)) (aa (pv 2) ac))))) (af (aB (i:=5) scSe1.nd rfl (Or.inl rfl) (au av (pv 1) (bi cv ai (aW bV (by rfl) B.int Cd (aa (aZ bv (pv 2) ak (az _)) ac))) (fun _ _=>rfl))) (af (aQ (bf (pv 3)) (ah (al (au aY (aL (aa (aH (aa ak (aa (aq TK' hr1 rfl (aa (pv 0) (aa ai ac))) ac))) (aa (aH (aa ak (aa (aq TK' hr1 rfl (aa (pv 0) (aa ai ac))) ac))) ac))) (aq TK' hr1 rfl (aa (pv 0) (aa ai ac))) (fun _ _=>rfl)))) ay) (af (aQ (PW.pt (cm (ax jE (pv 4) dD (az _)) (bU (PW.pt (cA (ax bv (pv 5) ai (az _)) (bY (ax bv (aq TK' hr1 rfl (aa (pv 0) (aa ai ac))) ai (az _)))))))) (ah (al (aH (aa ak (aa (pv 4) ac))))) ay) (ah (al (aH (aa ak (aa (aq TK' hr1 rfl (aa (pv 0) (aa (aA (jg rfl) (by rfl) B.max PyProof.Rows.boot_max (aa ai (aa (pv 5) ac))) ac))) ac)))))))),?_⟩
  obtain ⟨a,tv,ls,rfl,ea,hT,els⟩:=lO dr.wo
  have p4:=dr.ok.sh.fm.p4
  have m3:=dr.ok.sh.fm.m3
  refine ⟨_,rfl,_,rfl,a,_,_,_,rfl,rfl,SqT.of (dr.sb _ _ ea),rfl,_,rfl,q,ls,so,_,rfl,dr.g,dr.sb _ _ els,dr.ok.st3,fun o H1 ho g1 b1=>?_⟩
  have d1:=dr.but g1 b1
  have ea1:=d1.sb _ _ ea
  obtain ⟨n,hn,hat⟩:∃ n:Nat,n<=4/\kG ([tv,.int W.1.width,.int W.1.places.length,.int W.1.marks.length,.ref ls,.str W.2.name]:List V) (2+(if decide (V.str so=V.str "mark") then 1 else 0))=some (.int (n:Nat)):=by
   cases decide (V.str so=V.str "mark") with
   | true=>exact ⟨_,by lia,rfl⟩
   | false=>exact ⟨_,by lia,rfl⟩
  refine ⟨_,rfl,_,rfl,rfl,.inr ⟨_,rfl,_,_,rfl,rfl,a,_,_,_,rfl,rfl,SqT.of ea1,hat,?_⟩⟩
  refine ⟨_,rfl,_,rfl,?_⟩
  cases lo with
  | true=>
   refine cQ ?_
   refine ⟨_,rfl,q,4,rfl,g1,by decide,by decide,fun r2 H2 hr2 g2 b2=>⟨bh,fun t1 nt1=>?_⟩⟩
   have s3:=ae (o:=.tup [.str "is",.int (r2:Nat)]) nt1
   have e3:(aC H2 t1 (.tup [.str "is",.int (r2:Nat)])) t1=some (.tup [.str "is",.int (r2:Nat)]):=ad
   have g3:=g2.same s3
   have b13:=b2.same s3
   generalize aC H2 t1 (.tup [V.str "is",.int (r2:Nat)])=H3 at *
   refine ⟨_,rfl,q,3,rfl,g3,by decide,by decide,fun r4 H4 hr4 g4 b4=>⟨bh,fun t2 nt2=>?_⟩⟩
   have s5:=ae (o:=.tup [.str "by",.int (r4:Nat)]) nt2
   have e5:(aC H4 t2 (.tup [.str "by",.int (r4:Nat)])) t2=some (.tup [.str "by",.int (r4:Nat)]):=ad
   have g5:=g4.same s5
   have b35:=b4.same s5
   have qt1:t1≠q:=fun z=>by rw [z] at e3;obtain ⟨x,y,z,h⟩:=g3;rw [h] at e3;cases e3
   have e35:=b35 _ _ e3 qt1
   generalize aC H4 t2 (.tup [V.str "by",.int (r4:Nat)])=H5 at *
   refine ⟨bh,fun l6 n6=>?_⟩
   have s6:=ae (o:=.lst [.ref t1,.ref t2]) n6
   have e6:(aC H5 l6 (.lst [.ref t1,.ref t2])) l6=some (.lst [.ref t1,.ref t2]):=ad
   have q6:=g5.ne n6
   refine ⟨_,rfl,q,2,rfl,g5.same s6,by decide,by decide,fun r7 H7 hr7 g7 b7=>?_⟩
   have qt2:t2≠q:=fun z=>by rw [z] at e5;obtain ⟨x,y,z,h⟩:=g5;rw [h] at e5;cases e5
   have ba:But q H H7:=((b1.trans (b13.trans b35)).same s6).trans b7
   match r7,hr7 with
   | 0,_=>exact ⟨l6,_,_,_,rfl,rfl,SqL.of (b7 _ _ e6 q6.symm),rfl,qq _ _ _ (.tup (b7 _ _ (s6 _ _ e35) qt1) (.cons (.str _) (.cons (.int _) .nil))) (.is r2 hr2) g7 ba⟩
   | 1,_=>exact ⟨l6,_,_,_,rfl,rfl,SqL.of (b7 _ _ e6 q6.symm),rfl,qq _ _ _ (.tup (b7 _ _ (s6 _ _ e5) qt2) (.cons (.str _) (.cons (.int _) .nil))) (.by r4 hr4) g7 ba⟩
  | false=>
   refine bz ?_
   have last:∀ H2,Strm H2 q->But q H1 H2->tJ (wH (fh (tC (.str "is")) (fh (Bt cU (fh (iW 0) (fh (AT (fun xs H Q=>∃ i j,xs=[.int i,.int j]/\Q (.int (if j > i then j else i)) H) (fh (tC (.int 1)) (fh (iW 5) mh))) mh))) mh))) { nx:=fun _ H'=>Q .non H',rt:=Q } [some (.ref q),some (.ref a),some (.str so),some (.bl false),some (oN o),some (.int (n:Nat))] H2:=fun H2 g2 b2=>by
    refine ⟨_,rfl,_,rfl,_,_,rfl,q,max 1 n,?_,g2,by lia,by lia,fun r3 H3 hr3 g3 b3=>⟨bh,fun t4 nt4=>?_⟩⟩
    ·congr 2
     congr 1
     split<;>lia
    ·exact qq _ _ _ (.tup ad (.cons (.str _) (.cons (.int _) .nil))) (.is r3 (by lia)) (g3.same (ae nt4)) ((b1.trans (b2.trans b3)).same (ae nt4))
   refine ⟨_,rfl,rfl,_,rfl,?_⟩
   cases o with
   | none=>exact aP (by show (!decide (V.non=V.non))=false;rw [decide_eq_true rfl];rfl) (bz (last _ g1 (But.refl _ _)))
   | some j=>
    refine bj (by rw [decide_eq_false (fun z=>nomatch z)];rfl) ?_
    have fin:∀ H2,Strm H2 q->But q H1 H2->tJ (wH (fh (tC (.str "by")) (fh (iW 4) mh))) { nx:=fun _ H'=>Q .non H',rt:=Q } [some (.ref q),some (.ref a),some (.str so),some (.bl false),some (oN (some j)),some (.int (n:Nat))] H2:=fun H2 g2 b2=>by
     refine ⟨_,rfl,bh,fun t4 nt4=>?_⟩
     exact qq _ _ _ (.tup ad (.cons (.str _) (.cons (.int _) .nil))) (.by j (ho j rfl)) (g2.same (ae nt4)) ((b1.trans b2).same (ae nt4))
    refine ⟨_,rfl,rfl,_,rfl,?_⟩
    by_cases hn0:n=0
    ·exact bj (decide_eq_true (by rw [hn0];rfl)) (fin _ g1 (But.refl _ _))
    refine aP (decide_eq_false fun z=>hn0 (by have:=V.int.inj z;lia)) ?_
    refine ⟨_,rfl,q,2,rfl,g1,by decide,by decide,fun r2 H2 hr2 g2 b2=>⟨rfl,_,rfl,bN (fun _=>fin _ g2 b2) (fun _=>last _ g2 b2)⟩⟩
abbrev ny:Stmt:=bH 131
abbrev yT:Stmt:=bH 132
abbrev gv:Stmt:=bH 133
def pG (C:Addr) (ok:Th->Prop):Sp:=fun vs H Q _=>∃ (q:Addr) (v:V) (m:Nat) (lo:Bool) (Hb:Hp) (W:Fm×Kn),vs=[.ref q,v,.int m,.bl lo]/\Dr C Hb H q v W/\1<=m/\m<=8/\∀ u t H',TgV q H' u t->ok t->Strm H' q->But q H H'->Q u H'
def wg (C:Addr):Sp:=fun vs H Q _=>∃ (q:Addr) (v:V) (m:Nat) (Hb:Hp) (W:Fm×Kn),vs=[.ref q,v,.int m]/\Dr C Hb H q v W/\1<=m/\m<=8/\∀ u t H',TgV q H' u t->LitT t->Strm H' q->But q H H'->Q u H'
theorem scSo1:am ["_law_stream_here","_law_world","_law_many","_law_loose","_law_way","_law_by"] ["_law_stream_here","_law_world","_law_many","_law_loose"] (aj iQ):=bG (by decide +kernel)
variable {r:Nat}
theorem Ay {lo:Bool} {o:Option Nat} (hr:r < 3) (ho:∀ j,o=some j->j < 3) (h:lo=true\/∃ j,o=some j):∃ j:Nat,j < 3/\(if lo=true then V.int (r:Nat) else oN o)=.int (j:Nat):=by
 cases lo with
 | true=>exact ⟨r,hr,rfl⟩
 | false=>
  rcases h with h|⟨j,rfl⟩
  ·cases h
  ·exact ⟨j,ho j rfl,rfl⟩
theorem yU (F:Fun K "_law_source" "_law_source" iQ f fd) (B:Bl mg) (TK':Fn P w K mg base "_law_take" 1 ["_law_stream_here","_law_many"] cU) (FD:Fn P w K mg base "_law_field" 2 ["_law_stream_here","_law_sorts","_law_sort"] vk):FnOk P w K mg base bu 3 f fd ["_law_stream_here","_law_world","_law_many","_law_loose"] (pG C SrcT):=by
 have ZZ:=scSo1
 walk_at "o"
 ·obtain ⟨q,v,m,lo,Hb,W,rfl,dr,hm1,hm8,qq⟩:=h
  have hr1:Room 1 _:=hr.mono (by decide)
  refine ⟨_,af (aB (i:=4) scSo1.nd rfl (Or.inl rfl) (aq TK' hr1 rfl (aa (pv 0) (aa ai ac)))) (af (aB (i:=5) scSo1.nd rfl (Or.inl rfl) (aq FD hr rfl (aa (pv 0) (aa (au av (pv 1) ai (fun _ _=>rfl)) (aa ak ac))))) (cF (fun σ H'=>∃ r1:Nat,∃ o,σ=[some (.ref q),some v,some (.int (m:Nat)),some (.bl lo),some (.int (r1:Nat)),some (oN o)]/\Strm H' q/\But q H H') (aQ (PW.pt (cm (ax bv (pv 4) ai (az _)) (bU (PW.pt (cA (bf (pv 3)) (bY (ax jE (pv 5) dD (az _)))))))) (ah (al (aH (aa ak (aa (au aY (aL (aa (pv 5) (aa (aq TK' hr1 rfl (aa (pv 0) (aa ai ac))) ac))) (aW bV (by rfl) B.int Cd (aa (pv 3) ac)) (fun _ _=>rfl)) ac))))) ay) (af (aQ (ax bv (pv 4) ai (az _)) (ah (al (aH (aa ak (aa (aq TK' hr1 rfl (aa (pv 0) (aa (bi lZ ai (au aY (aL (aa (au av (pv 1) ai (fun _ _=>rfl)) (aa ai ac))) (aW bV (by rfl) B.int Cd (aa (pv 3) ac)) (fun _ _=>rfl))) ac))) ac))))) ay) (ah (al (aH (aa ak (aa (aq TK' hr1 rfl (aa (pv 0) (aa (au aY (aL (aa (pv 2) (aa ai ac))) (aW bV (by rfl) B.int Cd (aa (pv 3) ac)) (fun _ _=>rfl)) ac))) ac)))))))),?_⟩
  obtain ⟨a,tv,ls,rfl,ea,hT,els⟩:=lO dr.wo
  have w24:=dr.ok.sh.w24
  refine ⟨_,rfl,q,4,rfl,dr.g,by decide,by decide,fun r1 H1 hr1' g1 b1=>?_⟩
  have d1:=dr.but g1 b1
  refine ⟨_,rfl,_,rfl,a,_,_,_,rfl,rfl,SqT.of (d1.sb _ _ ea),rfl,q,ls,_,_,rfl,g1,d1.sb _ _ els,dr.ok.st3,fun o H2 ho g2 b2=>?_⟩
  have b02:=b1.trans b2
  refine ⟨?_,?_⟩
  ·rintro σ H2 ⟨r1,o,rfl,g2,b02⟩
   have ea2:=(c8 dr.nq dr.sb b02) _ _ ea
   refine ⟨_,rfl,rfl,_,rfl,bN (fun _=>?_) (fun _=>?_)⟩
   ·refine ⟨_,rfl,_,rfl,a,_,_,_,rfl,rfl,SqT.of ea2,rfl,bh,fun l4 n4=>⟨_,rfl,.inr ⟨_,rfl,l4,_,_,_,rfl,rfl,SqL.of ad,dR _ _ _,?_⟩⟩⟩
    obtain ⟨n,hn,en⟩:∃ n:Nat,n<=24/\(if lo=true then V.int 24 else .int W.1.width)=.int (n:Nat):=by
     cases lo
     ·exact ⟨_,w24,rfl⟩
     ·exact ⟨24,by lia,rfl⟩
    rw [en]
    have h2:2 ^ n<=2 ^ 24:=Nat.pow_le_pow_right (by decide) hn
    have h3:0 < 2 ^ n:=Nat.pow_pos (by decide)
    have ep:(1:Int)*2 ^ ((n:Int)).toNat=((2 ^ n:Nat):Int):=by
     have e2:((2 ^ n:Nat):Int)=(2:Int) ^ n:=by norm_cast
     rw [CV,Int.one_mul,e2]
    refine ⟨_,_,rfl,rfl,⟨by lia,by lia,by decide⟩,?_⟩
    rw [ep]
    refine ⟨q,2 ^ n,rfl,g2.same (ae n4),h3,by lia,fun r5 H5 hr5 g5 b5=>⟨bh,fun t6 n6=>?_⟩⟩
    exact qq _ _ _ (.tup ad (.cons (.str _) (.cons (.int _) .nil))) (.num r5 (by lia)) (g5.same (ae n6)) (((b02.same (ae n4)).trans b5).same (ae n6))
   ·refine ⟨_,rfl,_,rfl,bh,fun l4 n4=>⟨_,rfl,.inr ⟨_,rfl,l4,_,_,_,rfl,rfl,SqL.of ad,dR _ _ _,?_⟩⟩⟩
    obtain ⟨n,hn1,hn,en⟩:∃ n:Nat,1<=n/\n<=8/\(if lo=true then V.int 8 else .int (m:Nat))=.int (n:Nat):=by
     cases lo
     ·exact ⟨m,hm1,hm8,rfl⟩
     ·exact ⟨8,by lia,by lia,rfl⟩
    rw [en]
    refine ⟨q,n,rfl,g2.same (ae n4),by lia,by lia,fun r5 H5 hr5 g5 b5=>⟨bh,fun t6 n6=>?_⟩⟩
    exact qq _ _ _ (.tup ad (.cons (.str _) (.cons (.int _) .nil))) (.inn r5 (by lia)) (g5.same (ae n6)) (((b02.same (ae n4)).trans b5).same (ae n6))
  ·refine ⟨_,rfl,rfl,_,rfl,bN (fun _=>?_) (fun _=>bz ⟨r1,o,rfl,g2,b02⟩)⟩
   refine ⟨_,rfl,_,rfl,?_⟩
   cases lo with
   | true=>
    refine cQ ?_
    refine ⟨_,rfl,_,rfl,q,3,rfl,g2,by decide,by decide,fun r3 H3 hr3 g3 b3=>⟨bh,fun l4 n4=>⟨_,rfl,.inr ⟨_,rfl,l4,_,_,_,rfl,rfl,SqL.of ad,dR _ _ _,bh,fun t5 n5=>?_⟩⟩⟩⟩
    obtain ⟨j,hj,ej⟩:=Ay (lo:=true) hr3 ho (.inl rfl)
    rw [ej]
    exact qq _ _ _ (.tup ad (.cons (.str _) (.cons (.int _) .nil))) (.fld j hj) ((g3.same (ae n4)).same (ae n5)) (((b02.trans b3).same (ae n4)).same (ae n5))
   | false=>
    refine bz ⟨_,rfl,rfl,_,rfl,?_⟩
    cases o with
    | none=>exact aP (by show (!decide (V.non=V.non))=false;rw [decide_eq_true rfl];rfl) ⟨r1,none,rfl,g2,b02⟩
    | some j0=>
     refine bj (by show (!decide (V.int (j0:Nat)=V.non))=true;rw [decide_eq_false (fun z=>nomatch z)];rfl) ?_
     refine ⟨_,rfl,_,rfl,q,3,rfl,g2,by decide,by decide,fun r3 H3 hr3 g3 b3=>⟨bh,fun l4 n4=>⟨_,rfl,.inr ⟨_,rfl,l4,_,_,_,rfl,rfl,SqL.of ad,dR _ _ _,bh,fun t5 n5=>?_⟩⟩⟩⟩
     obtain ⟨j,hj,ej⟩:=Ay (lo:=false) hr3 ho (.inr ⟨j0,rfl⟩)
     rw [ej]
     exact qq _ _ _ (.tup ad (.cons (.str _) (.cons (.int _) .nil))) (.fld j hj) ((g3.same (ae n4)).same (ae n5)) (((b02.trans b3).same (ae n4)).same (ae n5))
theorem scSt1:am ["_law_stream_here","_law_world","_law_many","_law_loose","_law_word","_law_inner","_law_sort","_law_sel_here","_law_one","_law_other"] ["_law_stream_here","_law_world","_law_many","_law_loose"] (aj ny):=bG (by decide +kernel)
def wd7:List Str:=["get","ask","cell","two","put","tell","store"]
theorem yV (F:Fun K "_law_step" "_law_step" ny f fd) (B:Bl mg) (TK':Fn P w K mg base "_law_take" 1 ["_law_stream_here","_law_many"] cU) (SE:Fn P w K mg base "_law_sel" 3 ["_law_stream_here","_law_world","_law_sort","_law_loose"] (wf C)) (SO:Fn P w K mg base "_law_source" 3 ["_law_stream_here","_law_world","_law_many","_law_loose"] (pG C SrcT)):FnOk P w K mg base bu 4 f fd ["_law_stream_here","_law_world","_law_many","_law_loose"] (pG C StpT):=by
 have ZZ:=scSt1
 walk_at "o"
 ·obtain ⟨q,v,m,lo,Hb,W,rfl,dr,hm1,hm8,qq⟩:=h
  have hr1:Room 1 _:=hr.mono (by decide)
  refine ⟨_,af (aB (i:=4) scSt1.nd rfl (Or.inl rfl) (au aY (aL (aa ak (aa ak (aa ak (aa ak (aa ak (aa ak (aa ak ac)))))))) (aq TK' hr1 rfl (aa (pv 0) (aa ai ac))) (fun _ _=>rfl))) (af (aB (i:=5) scSt1.nd rfl (Or.inl rfl) (aq TK' hr1 rfl (aa (pv 0) (aa (au aY (aL (aa (pv 2) (aa ai ac))) (aW bV (by rfl) B.int Cd (aa (pv 3) ac)) (fun _ _=>rfl)) ac)))) (af (aB (i:=6) scSt1.nd rfl (Or.inl rfl) (au aY (aL (aa ak (aa ak ac))) (aW bV (by rfl) B.int Cd (aa (aZ bO (pv 4) (aL (aa ak (aa ak ac))) rfl) ac)) (fun _ _=>rfl))) (af (aB (i:=7) scSt1.nd rfl (Or.inl rfl) (aq SE hr rfl (aa (pv 0) (aa (pv 1) (aa (pv 6) (aa (pv 3) ac)))))) (af (aB (i:=8) scSt1.nd rfl (Or.inl rfl) (aq SO hr rfl (aa (pv 0) (aa (pv 1) (aa (pv 2) (aa df ac)))))) (af (aB (i:=9) scSt1.nd rfl (Or.inl rfl) (aq SO hr rfl (aa (pv 0) (aa (pv 1) (aa (pv 2) (aa (pv 3) ac)))))) (af (aQ (PW.pt (cA (ax bv (pv 4) ak (az _)) (bY (ax bv (pv 4) ak (az _))))) (ah (al (aH (aa (pv 4) (aa (pv 5) (aa (pv 7) ac)))))) ay) (af (aQ (ax bv (pv 4) ak (az _)) (ah (al (aH (aa (pv 4) (aa (pv 5) (aa (pv 9) ac)))))) ay) (af (aQ (ax bv (pv 4) ak (az _)) (ah (al (aH (aa (pv 4) (aa (pv 5) (aa ak (aa (pv 8) (aa (pv 9) ac)))))))) ay) (af (aQ (ax bv (pv 4) ak (az _)) (ah (al (aH (aa (pv 4) (aa (pv 8) (aa (pv 9) ac)))))) ay) (ah (al (aH (aa (pv 4) (aa (pv 7) (aa (pv 9) ac))))))))))))))),?_⟩
  refine ⟨bh,fun l1 n1=>?_⟩
  have s1:=ae (o:=.lst (ap wd7)) n1
  have e1:(aC H l1 (.lst (ap wd7))) l1=some (.lst (ap wd7)):=ad
  have q1:=dr.g.ne n1
  refine ⟨_,rfl,q,7,rfl,dr.g.same s1,by decide,by decide,fun r1 H2 hr1' g2 b2=>?_⟩
  have h7:r1 < wd7.length:=hr1'
  refine ⟨l1,_,_,_,rfl,rfl,SqL.of (b2 _ _ e1 q1.symm),aJ (fe h7),?_⟩
  generalize hzz:wd7[r1]=zz
  have b02:But q H H2:=(eB s1).trans b2
  refine ⟨_,rfl,_,rfl,bh,fun l4 n4=>⟨_,rfl,.inr ⟨_,rfl,l4,_,_,_,rfl,rfl,SqL.of ad,dR _ _ _,?_⟩⟩⟩
  obtain ⟨n,hn1,hn,en⟩:∃ n:Nat,1<=n/\n<=8/\(if lo=true then V.int 8 else .int (m:Nat))=.int (n:Nat):=by
   cases lo
   ·exact ⟨m,hm1,hm8,rfl⟩
   ·exact ⟨8,by lia,by lia,rfl⟩
  rw [en]
  refine ⟨q,n,rfl,g2.same (ae n4),by lia,by lia,fun k H5 hk g5 b5=>?_⟩
  have b05:=(b02.same (ae n4)).trans b5
  have hk8:k < 8:=by lia
  clear b02 b2 s1 e1 q1 b5 g2
  refine ⟨bh,fun l6 n6=>?_⟩
  have s6:=ae (o:=.lst [.str "place",.str "mark"]) n6
  have e6:(aC H5 l6 (.lst [.str "place",.str "mark"])) l6=some (.lst (ap ["place","mark"])):=ad
  have g6:=g5.same s6
  have b06:=b05.same s6
  generalize aC H5 l6 (.lst [V.str "place",.str "mark"])=H6 at *
  refine ⟨_,rfl,bh,fun l7 n7=>?_⟩
  have s7:=ae (o:=.lst [.str "ask",.str "tell"]) n7
  have e7:(aC H6 l7 (.lst [.str "ask",.str "tell"])) l7=some (.lst (ap ["ask","tell"])):=ad
  have e67:=s7 _ _ e6
  have g7:=g6.same s7
  have b07:=b06.same s7
  generalize aC H6 l7 (.lst [V.str "ask",.str "tell"])=H7 at *
  refine ⟨l7,_,rfl,.inl (SqL.of e7),rfl,bC _,.inr ⟨_,rfl,l6,_,_,_,rfl,rfl,SqL.of e67,dR _ _ _,?_⟩⟩
  generalize (if false=true then (!eQ (V.str zz) (ap ["ask","tell"])) else eQ (V.str zz) (ap ["ask","tell"]))=bb
  obtain ⟨so,es⟩:∃ so:Str,(if bb=true then V.str "mark" else V.str "place")=.str so:=by
   cases bb<;>exact ⟨_,rfl⟩
  rw [es]
  have d7:=dr.but g7 b07
  refine ⟨_,rfl,_,rfl,_,rfl,_,rfl,q,v,so,lo,Hb,W,rfl,d7,fun us ts H8 tvs hs g8 b8=>?_⟩
  have d8:=d7.but g8 b8
  refine ⟨_,rfl,_,rfl,_,rfl,q,v,m,false,Hb,W,rfl,d8,hm1,hm8,fun u1 t1 H9 tv1 h1 g9 b9=>?_⟩
  have d9:=d8.but g9 b9
  refine ⟨_,rfl,_,rfl,_,rfl,_,rfl,q,v,m,lo,Hb,W,rfl,d9,hm1,hm8,fun u2 t2 Ha tv2 h2 ga ba=>?_⟩
  have tvs':=(tvs.but g8 b9).but g9 ba
  have tv1':=tv1.but g9 ba
  have b0a:But q H Ha:=((b07.trans b8).trans b9).trans ba
  clear tvs tv1 b8 b9 ba d7 d8 d9 b07 b06 b05 g5 g6 g7 g8 g9 es e7 e67 s7 s6 e6
  have fin:∀ {t:Addr} {xs:List V} {th:List Th},Ha t=none->TgA q (aC Ha t (.tup xs)) xs th->StpT (.tup th)->Q (.ref t) (aC Ha t (.tup xs)):=fun nt ta st=>qq _ _ _ (.tup ad ta) st (ga.same (ae nt)) (b0a.same (ae nt))
  match r1,h7,hzz with
  | 0,_,hzz=>
   have e0:zz="get":=hzz.symm
   subst e0
   exact ⟨_,rfl,rfl,_,rfl,bj (by decide +kernel) ⟨_,rfl,_,rfl,_,rfl,bh,fun t nt=>fin nt (.cons (.str _) (.cons (.int _) (.cons (tvs'.same (ae nt)) .nil))) (.get k hk8 hs)⟩⟩
  | 1,_,hzz=>
   have e0:zz="ask":=hzz.symm
   subst e0
   exact ⟨_,rfl,rfl,_,rfl,aP (by decide +kernel) ⟨_,rfl,rfl,_,rfl,bj (by decide +kernel) ⟨_,rfl,_,rfl,_,rfl,bh,fun t nt=>fin nt (.cons (.str _) (.cons (.int _) (.cons (tvs'.same (ae nt)) .nil))) (.ask k hk8 hs)⟩⟩⟩
  | 2,_,hzz=>
   have e0:zz="cell":=hzz.symm
   subst e0
   refine ⟨_,rfl,rfl,_,rfl,aP (by decide +kernel) ⟨_,rfl,rfl,_,rfl,aP (by decide +kernel) ?_⟩⟩
   exact ⟨_,rfl,rfl,_,rfl,bj (by decide +kernel) ⟨_,rfl,_,rfl,_,rfl,bh,fun t nt=>fin nt (.cons (.str _) (.cons (.int _) (.cons (tv2.same (ae nt)) .nil))) (.cell k hk8 h2)⟩⟩
  | 3,_,hzz=>
   have e0:zz="two":=hzz.symm
   subst e0
   refine ⟨_,rfl,rfl,_,rfl,aP (by decide +kernel) ⟨_,rfl,rfl,_,rfl,aP (by decide +kernel) ⟨_,rfl,rfl,_,rfl,aP (by decide +kernel) ?_⟩⟩⟩
   exact ⟨_,rfl,rfl,_,rfl,bj (by decide +kernel) ⟨_,rfl,_,rfl,_,rfl,_,rfl,bh,fun t nt=>fin nt (.cons (.str _) (.cons (.int _) (.cons (.str _) (.cons (tv1'.same (ae nt)) (.cons (tv2.same (ae nt)) .nil))))) (.two k hk8 (by decide +kernel) h1 h2)⟩⟩
  | 4,_,hzz=>
   have e0:zz="put":=hzz.symm
   subst e0
   refine ⟨_,rfl,rfl,_,rfl,aP (by decide +kernel) ⟨_,rfl,rfl,_,rfl,aP (by decide +kernel) ⟨_,rfl,rfl,_,rfl,aP (by decide +kernel) ⟨_,rfl,rfl,_,rfl,aP (by decide +kernel) ⟨_,rfl,rfl,_,rfl,aP (by decide +kernel) ?_⟩⟩⟩⟩⟩
   exact ⟨_,rfl,_,rfl,_,rfl,bh,fun t nt=>fin nt (.cons (.str _) (.cons (tvs'.same (ae nt)) (.cons (tv2.same (ae nt)) .nil))) (.put hs h2)⟩
  | 5,_,hzz=>
   have e0:zz="tell":=hzz.symm
   subst e0
   refine ⟨_,rfl,rfl,_,rfl,aP (by decide +kernel) ⟨_,rfl,rfl,_,rfl,aP (by decide +kernel) ⟨_,rfl,rfl,_,rfl,aP (by decide +kernel) ⟨_,rfl,rfl,_,rfl,aP (by decide +kernel) ⟨_,rfl,rfl,_,rfl,aP (by decide +kernel) ?_⟩⟩⟩⟩⟩
   exact ⟨_,rfl,_,rfl,_,rfl,bh,fun t nt=>fin nt (.cons (.str _) (.cons (tvs'.same (ae nt)) (.cons (tv2.same (ae nt)) .nil))) (.tell hs h2)⟩
  | 6,_,hzz=>
   have e0:zz="store":=hzz.symm
   subst e0
   refine ⟨_,rfl,rfl,_,rfl,aP (by decide +kernel) ⟨_,rfl,rfl,_,rfl,aP (by decide +kernel) ⟨_,rfl,rfl,_,rfl,aP (by decide +kernel) ⟨_,rfl,rfl,_,rfl,aP (by decide +kernel) ?_⟩⟩⟩⟩
   exact ⟨_,rfl,rfl,_,rfl,bj (by decide +kernel) ⟨_,rfl,_,rfl,_,rfl,bh,fun t nt=>fin nt (.cons (.str _) (.cons (tv1'.same (ae nt)) (.cons (tv2.same (ae nt)) .nil))) (.store h1 h2)⟩⟩
theorem scOn1:am ["_law_stream_here","_law_world","_law_many","_law_loose","_law_way","_law_row"] ["_law_stream_here","_law_world","_law_many","_law_loose"] (aj yT):=bG (by decide +kernel)
theorem Bk {a b:V} (h:r < 2):kG [a,b] (r:Int)=some (if r=0 then a else b):=by
 match r,h with
 | 0,_=>rfl
 | 1,_=>rfl
theorem yW (F:Fun K "_law_on" "_law_on" yT f fd) (B:Bl mg) (TK':Fn P w K mg base "_law_take" 1 ["_law_stream_here","_law_many"] cU) (FD:Fn P w K mg base "_law_field" 2 ["_law_stream_here","_law_sorts","_law_sort"] vk):FnOk P w K mg base bu 3 f fd ["_law_stream_here","_law_world","_law_many","_law_loose"] (pG C OnT):=by
 have ZZ:=scOn1
 walk_at "o"
 ·obtain ⟨q,v,m,lo,Hb,W,rfl,dr,hm1,hm8,qq⟩:=h
  have hr1:Room 1 _:=hr.mono (by decide)
  refine ⟨_,af (aB (i:=4) scOn1.nd rfl (Or.inl rfl) (aq TK' hr1 rfl (aa (pv 0) (aa ai ac)))) (af (aB (i:=5) scOn1.nd rfl (Or.inl rfl) (aq FD hr rfl (aa (pv 0) (aa (au av (pv 1) ai (fun _ _=>rfl)) (aa ak ac))))) (af (aQ (ax ci (pv 4) ai (az _)) (ah (al (aH (aa (au aY (aL (aa ak (aa ak ac))) (pv 4) (fun _ _=>rfl)) (aa (aq TK' hr1 rfl (aa (pv 0) (aa (au aY (aL (aa (pv 2) (aa ai ac))) (aW bV (by rfl) B.int Cd (aa (pv 3) ac)) (fun _ _=>rfl)) ac))) (aa ai (aa ai ac))))))) ay) (cF (fun σ H'=>∃ r1:Nat,∃ o,σ=[some (.ref q),some v,some (.int (m:Nat)),some (.bl lo),some (.int (r1:Nat)),some (oN o)]/\Strm H' q/\But q H H') (aQ (PW.pt (cm (ax ci (pv 4) ai (az _)) (bU (PW.pt (cA (bf (pv 3)) (bY (ax jE (pv 5) dD (az _)))))))) (ah (al (aH (aa ak (aa (aH (aa (au aY (aL (aa ak (aa ak ac))) (bi lY (pv 4) ai) (fun _ _=>rfl)) (aa (au aY (aL (aa (pv 5) (aa (aq TK' hr1 rfl (aa (pv 0) (aa ai ac))) ac))) (aW bV (by rfl) B.int Cd (aa (pv 3) ac)) (fun _ _=>rfl)) ac))) ac))))) ay) (ah (al (au aY (aL (aa (aH (aa ak (aa ai ac))) (aa (aH (aa ak (aa (aH (aa ak ac)) ac))) (aa (aH (aa ak (aa (aH (aa ak (aa ak ac))) ac))) ac)))) (aq TK' hr1 rfl (aa (pv 0) (aa ai ac))) (fun _ _=>rfl))))))),?_⟩
  obtain ⟨a,tv,ls,rfl,ea,hT,els⟩:=lO dr.wo
  refine ⟨_,rfl,q,6,rfl,dr.g,by decide,by decide,fun r1 H1 hr1' g1 b1=>?_⟩
  have d1:=dr.but g1 b1
  refine ⟨_,rfl,_,rfl,a,_,_,_,rfl,rfl,SqT.of (d1.sb _ _ ea),rfl,q,ls,_,_,rfl,g1,d1.sb _ _ els,dr.ok.st3,fun o H2 ho g2 b2=>?_⟩
  have b02:=b1.trans b2
  refine ⟨_,rfl,_,_,rfl,rfl,_,rfl,?_⟩
  by_cases h2:r1 < 2
  ·refine bj (decide_eq_true (by lia)) ?_
   refine ⟨bh,fun l3 n3=>⟨_,rfl,l3,_,_,_,rfl,rfl,SqL.of ad,Bk h2,?_⟩⟩
   have s3:=ae (o:=.lst [.str "some",.str "top"]) n3
   have g3:=g2.same s3
   have b03:=b02.same s3
   generalize aC H2 l3 (.lst [V.str "some",.str "top"])=H3 at *
   obtain ⟨z,hz,ez⟩:∃ z:Str,(z="some"\/z="top")/\(if r1=0 then V.str "some" else .str "top")=.str z:=by
    by_cases h0:r1=0
    ·exact ⟨"some",.inl rfl,if_pos h0⟩
    ·exact ⟨"top",.inr rfl,if_neg h0⟩
   rw [ez]
   refine ⟨_,rfl,_,rfl,bh,fun l4 n4=>⟨_,rfl,.inr ⟨_,rfl,l4,_,_,_,rfl,rfl,SqL.of ad,dR _ _ _,?_⟩⟩⟩
   obtain ⟨n,hn1,hn,en⟩:∃ n:Nat,1<=n/\n<=8/\(if lo=true then V.int 8 else .int (m:Nat))=.int (n:Nat):=by
    cases lo
    ·exact ⟨m,hm1,hm8,rfl⟩
    ·exact ⟨8,by lia,by lia,rfl⟩
   rw [en]
   refine ⟨q,n,rfl,g3.same (ae n4),by lia,by lia,fun r5 H5 hr5 g5 b5=>⟨bh,fun t6 n6=>?_⟩⟩
   exact qq _ _ _ (.tup ad (.cons (.str _) (.cons (.int _) (.cons (.int _) (.cons (.int _) .nil))))) (.two z r5 0 399 hz (by lia) (by lia) (by lia)) (g5.same (ae n6)) (((b03.same (ae n4)).trans b5).same (ae n6))
  refine aP (decide_eq_false (by lia)) ?_
  refine ⟨?_,?_⟩
  ·rintro σ H2 ⟨r1,o,rfl,g2,b02⟩
   refine ⟨bh,fun t1 n1=>?_⟩
   have s1:=ae (o:=.tup [.str "on",.int 7]) n1
   have e1:(aC H2 t1 (.tup [.str "on",.int 7])) t1=some (.tup [.str "on",.int 7]):=ad
   generalize aC H2 t1 (.tup [V.str "on",.int 7])=H3 at *
   refine ⟨bh,fun t2 n2=>?_⟩
   have s2:=ae (o:=.tup [.str "next"]) n2
   have e2:(aC H3 t2 (.tup [.str "next"])) t2=some (.tup [.str "next"]):=ad
   generalize aC H3 t2 (.tup [V.str "next"])=H4 at *
   refine ⟨bh,fun t3 n3=>?_⟩
   have s3:=ae (o:=.tup [.str "done",.ref t2]) n3
   have e3:(aC H4 t3 (.tup [.str "done",.ref t2])) t3=some (.tup [.str "done",.ref t2]):=ad
   generalize aC H4 t3 (.tup [V.str "done",.ref t2])=H5 at *
   refine ⟨bh,fun t4 n4=>?_⟩
   have s4:=ae (o:=.tup [.str "fault",.str "z"]) n4
   have e4:(aC H5 t4 (.tup [.str "fault",.str "z"])) t4=some (.tup [.str "fault",.str "z"]):=ad
   generalize aC H5 t4 (.tup [V.str "fault",.str "z"])=H6 at *
   refine ⟨bh,fun t5 n5=>?_⟩
   have s5:=ae (o:=.tup [.str "done",.ref t4]) n5
   have e5:(aC H6 t5 (.tup [.str "done",.ref t4])) t5=some (.tup [.str "done",.ref t4]):=ad
   generalize aC H6 t5 (.tup [V.str "done",.ref t4])=H7 at *
   refine ⟨bh,fun l8 n8=>?_⟩
   have s8:=ae (o:=.lst [.ref t1,.ref t3,.ref t5]) n8
   have e8:(aC H7 l8 (.lst [.ref t1,.ref t3,.ref t5])) l8=some (.lst [.ref t1,.ref t3,.ref t5]):=ad
   have s28:=((((s1.trans s2).trans s3).trans s4).trans s5).trans s8
   have g8:=g2.same s28
   have q8:=(g2.same ((((s1.trans s2).trans s3).trans s4).trans s5)).ne n8
   generalize aC H7 l8 (.lst [V.ref t1,.ref t3,.ref t5])=H8 at *
   refine ⟨_,rfl,q,3,rfl,g8,by decide,by decide,fun r9 H9 hr9 g9 b9=>?_⟩
   have ba:=(b02.same s28).trans b9
   have el:=b9 _ _ e8 q8.symm
   match r9,hr9 with
   | 0,_=>exact ⟨l8,_,_,_,rfl,rfl,SqL.of el,rfl,qq _ _ _ ((TgV.tup ((((s2.trans s3).trans s4).trans s5).trans s8 _ _ e1) (.cons (.str _) (.cons (.int _) .nil))).but g8 b9) (.on 7 (by decide)) g9 ba⟩
   | 1,_=>exact ⟨l8,_,_,_,rfl,rfl,SqL.of el,rfl,qq _ _ _ ((TgV.tup (((s4.trans s5).trans s8) _ _ e3) (.cons (.str _) (.cons (.tup ((((s3.trans s4).trans s5).trans s8) _ _ e2) (.cons (.str _) .nil)) .nil))).but g8 b9) (.done .next) g9 ba⟩
   | 2,_=>exact ⟨l8,_,_,_,rfl,rfl,SqL.of el,rfl,qq _ _ _ ((TgV.tup (s8 _ _ e5) (.cons (.str _) (.cons (.tup ((s5.trans s8) _ _ e4) (.cons (.str _) (.cons (.str _) .nil))) .nil))).but g8 b9) (.done (.fault "z" (by decide +kernel))) g9 ba⟩
  ·refine ⟨_,rfl,_,_,rfl,rfl,_,rfl,bN (fun h4=>?_) (fun _=>bz ⟨r1,o,rfl,g2,b02⟩)⟩
   have h4':r1 < 4:=by
    have:=of_decide_eq_true h4
    lia
   have sub2:((r1:Nat):Int) - 2=((r1 - 2:Nat):Int):=by lia
   refine ⟨_,rfl,_,rfl,?_⟩
   cases lo with
   | true=>
    refine cQ ?_
    refine ⟨bh,fun l3 n3=>⟨_,rfl,_,_,rfl,rfl,l3,_,_,_,rfl,rfl,SqL.of ad,by rw [sub2];exact Bk (by lia),?_⟩⟩
    have s3:=ae (o:=.lst [.str "go",.str "call"]) n3
    have g3:=g2.same s3
    have b03:=b02.same s3
    generalize aC H2 l3 (.lst [V.str "go",.str "call"])=H3 at *
    obtain ⟨z,hz,ez⟩:∃ z:Str,(z="go"\/z="call")/\(if r1 - 2=0 then V.str "go" else .str "call")=.str z:=by
     by_cases h0:r1 - 2=0
     ·exact ⟨"go",.inl rfl,if_pos h0⟩
     ·exact ⟨"call",.inr rfl,if_neg h0⟩
    rw [ez]
    refine ⟨_,rfl,_,rfl,q,3,rfl,g3,by decide,by decide,fun r4 H4 hr4 g4 b4=>⟨bh,fun l5 n5=>⟨_,rfl,.inr ⟨_,rfl,l5,_,_,_,rfl,rfl,SqL.of ad,dR _ _ _,?_⟩⟩⟩⟩
    obtain ⟨j,hj,ej⟩:=Ay (lo:=true) hr4 ho (.inl rfl)
    rw [ej]
    have g5:=g4.same (ae (o:=.lst [oN o,.int (r4:Nat)]) n5)
    have b05:=(b03.trans b4).same (ae (o:=.lst [oN o,.int (r4:Nat)]) n5)
    generalize aC H4 l5 (.lst [oN o,.int (r4:Nat)])=H5 at *
    refine ⟨bh,fun t6 n6=>?_⟩
    have s6:=ae (o:=.tup [.str z,.int (j:Nat)]) n6
    have e6:(aC H5 t6 (.tup [.str z,.int (j:Nat)])) t6=some (.tup [.str z,.int (j:Nat)]):=ad
    generalize aC H5 t6 (.tup [V.str z,.int (j:Nat)])=H6 at *
    refine ⟨bh,fun t7 n7=>?_⟩
    have s7:=ae (o:=.tup [.str "done",.ref t6]) n7
    refine qq _ _ _ (.tup ad (.cons (.str _) (.cons (.tup (s7 _ _ e6) (.cons (.str _) (.cons (.int _) .nil))) .nil))) (.done ?_) (g5.same (s6.trans s7)) (b05.same (s6.trans s7))
    rcases hz with rfl|rfl
    ·exact .go j hj
    ·exact .call j hj
   | false=>
    refine bz ⟨_,rfl,rfl,_,rfl,?_⟩
    cases o with
    | none=>exact aP (by show (!decide (V.non=V.non))=false;rw [decide_eq_true rfl];rfl) ⟨r1,none,rfl,g2,b02⟩
    | some j0=>
     refine bj (by show (!decide (V.int (j0:Nat)=V.non))=true;rw [decide_eq_false (fun z=>nomatch z)];rfl) ?_
     refine ⟨bh,fun l3 n3=>⟨_,rfl,_,_,rfl,rfl,l3,_,_,_,rfl,rfl,SqL.of ad,by rw [sub2];exact Bk (by lia),?_⟩⟩
     have s3:=ae (o:=.lst [.str "go",.str "call"]) n3
     have g3:=g2.same s3
     have b03:=b02.same s3
     generalize aC H2 l3 (.lst [V.str "go",.str "call"])=H3 at *
     obtain ⟨z,hz,ez⟩:∃ z:Str,(z="go"\/z="call")/\(if r1 - 2=0 then V.str "go" else .str "call")=.str z:=by
      by_cases h0:r1 - 2=0
      ·exact ⟨"go",.inl rfl,if_pos h0⟩
      ·exact ⟨"call",.inr rfl,if_neg h0⟩
     rw [ez]
     refine ⟨_,rfl,_,rfl,q,3,rfl,g3,by decide,by decide,fun r4 H4 hr4 g4 b4=>⟨bh,fun l5 n5=>⟨_,rfl,.inr ⟨_,rfl,l5,_,_,_,rfl,rfl,SqL.of ad,dR _ _ _,?_⟩⟩⟩⟩
     obtain ⟨j,hj,ej⟩:=Ay (lo:=false) hr4 ho (.inr ⟨j0,rfl⟩)
     rw [ej]
     have g5:=g4.same (ae (o:=.lst [oN (some j0),.int (r4:Nat)]) n5)
     have b05:=(b03.trans b4).same (ae (o:=.lst [oN (some j0),.int (r4:Nat)]) n5)
     generalize aC H4 l5 (.lst [oN (some j0),.int (r4:Nat)])=H5 at *
     refine ⟨bh,fun t6 n6=>?_⟩
     have s6:=ae (o:=.tup [.str z,.int (j:Nat)]) n6
     have e6:(aC H5 t6 (.tup [.str z,.int (j:Nat)])) t6=some (.tup [.str z,.int (j:Nat)]):=ad
     generalize aC H5 t6 (.tup [V.str z,.int (j:Nat)])=H6 at *
     refine ⟨bh,fun t7 n7=>?_⟩
     have s7:=ae (o:=.tup [.str "done",.ref t6]) n7
     refine qq _ _ _ (.tup ad (.cons (.str _) (.cons (.tup (s7 _ _ e6) (.cons (.str _) (.cons (.int _) .nil))) .nil))) (.done ?_) (g5.same (s6.trans s7)) (b05.same (s6.trans s7))
     rcases hz with rfl|rfl
     ·exact .go j hj
     ·exact .call j hj
theorem scLi1:am ["_law_stream_here","_law_world","_law_many","_law_size","_law_odd","_law_steps"] ["_law_stream_here","_law_world","_law_many"] (aj gv):=bG (by decide +kernel)
theorem Bm:(["_law_k","_law_stream_here","_law_world","_law_many","_law_odd"]:List Str).Nodup:=by decide +kernel
theorem vn (h:r < 6):∃ n:Nat,n<=16/\kG ([.int 0,.int 1,.int 2,.int 3,.int 5,.int 16]:List V) (r:Int)=some (.int (n:Nat)):=by
 match r,h with
 | 0,_=>exact ⟨0,by lia,rfl⟩
 | 1,_=>exact ⟨1,by lia,rfl⟩
 | 2,_=>exact ⟨2,by lia,rfl⟩
 | 3,_=>exact ⟨3,by lia,rfl⟩
 | 4,_=>exact ⟨5,by lia,rfl⟩
 | 5,_=>exact ⟨16,by lia,rfl⟩
theorem yX (F:Fun K "_law_little" "_law_little" gv f fd) (B:Bl mg) (TK':Fn P w K mg base "_law_take" 1 ["_law_stream_here","_law_many"] cU) (STP:Fn P w K mg base "_law_step" 4 ["_law_stream_here","_law_world","_law_many","_law_loose"] (pG C StpT)) (ON:Fn P w K mg base "_law_on" 3 ["_law_stream_here","_law_world","_law_many","_law_loose"] (pG C OnT)):FnOk P w K mg base bu 5 f fd ["_law_stream_here","_law_world","_law_many"] (wg C):=by
 have ZZ:=scLi1
 walk_at "o"
 ·obtain ⟨q,v,m,Hb,W,rfl,dr,hm1,hm8,qq⟩:=h
  have hr1:Room 1 _:=hr.mono (by decide)
  have hr3:Room 3 _:=hr.mono (by decide)
  have sz:(100000:Nat)<=sizeLine:=by decide
  refine ⟨_,af (aB (i:=3) scLi1.nd rfl (Or.inl rfl) (au aY (aL (aa ai (aa ai (aa ai (aa ai (aa ai (aa ai ac))))))) (aq TK' hr1 rfl (aa (pv 0) (aa ai ac))) (fun _ _=>rfl))) (af (aB (i:=4) scLi1.nd rfl (Or.inr rfl) (au aY (aL (aa (bi cv (pv 3) ai) (aa (aq TK' hr1 rfl (aa (pv 0) (aa (bi cv (pv 3) ai) ac))) ac))) (aq TK' hr1 rfl (aa (pv 0) (aa ai ac))) (fun _ _=>rfl))) (af (dw (i:=5) scLi1.nd rfl rfl (N':=["_law_k","_law_stream_here","_law_world","_law_many","_law_odd"]) (ix:=[none,some 0,some 1,some 2,some 4]) (sc0:=aj gv) (N:=["_law_stream_here","_law_world","_law_many","_law_size","_law_odd","_law_steps"]) rfl (by decide +kernel) (je rfl B.range (aa (pv 3) ac)) (fun _ _ _ _ _=>(aI (i:=0) Bm rfl (Or.inl rfl) (.inr rfl))) (fun _ _ _ _ _=>cw) (fun _ _ _ _ _=>(aq STP hr rfl (aa (pv 1) (aa (pv 2) (aa (pv 3) (aa (aZ bv (pv 0) (pv 4) (az _)) ac))))))) (ah (al (aH (aa (aW bA (by rfl) B.tuple bq (aa (pv 5) ac)) (aa (aq ON hr3 rfl (aa (pv 0) (aa (pv 1) (aa (pv 2) (aa (aZ bv (pv 4) (pv 3) (az _)) ac))))) ac))))))),?_⟩
  refine ⟨bh,fun l1 n1=>?_⟩
  have s1:=ae (o:=.lst [.int 0,.int 1,.int 2,.int 3,.int 5,.int 16]) n1
  have e1:(aC H l1 (.lst [.int 0,.int 1,.int 2,.int 3,.int 5,.int 16])) l1=some (.lst [.int 0,.int 1,.int 2,.int 3,.int 5,.int 16]):=ad
  have q1:=dr.g.ne n1
  refine ⟨_,rfl,q,6,rfl,dr.g.same s1,by decide,by decide,fun r1 H2 hr1' g2 b2=>?_⟩
  obtain ⟨n,hn,hat⟩:=vn hr1'
  refine ⟨l1,_,_,_,rfl,rfl,SqL.of (b2 _ _ e1 q1.symm),hat,?_⟩
  have b02:But q H H2:=(eB s1).trans b2
  refine ⟨_,rfl,_,_,rfl,rfl,_,rfl,_,rfl,_,_,rfl,rfl,q,n+1,rfl,g2,by lia,by lia,fun r3 H3 hr3' g3 b3=>⟨bh,fun l4 n4=>?_⟩⟩
  have s4:=ae (o:=.lst [.int ((n:Nat)+2),.int (r3:Nat)]) n4
  have e4:(aC H3 l4 (.lst [.int ((n:Nat)+2),.int (r3:Nat)])) l4=some (.lst [.int ((n:Nat)+2),.int (r3:Nat)]):=ad
  have q4:=g3.ne n4
  refine ⟨_,rfl,q,2,rfl,g3.same s4,by decide,by decide,fun r5 H5 hr5 g5 b5=>?_⟩
  obtain ⟨od,eo⟩:∃ od:Int,kG ([.int ((n:Nat)+2),.int (r3:Nat)]:List V) (r5:Int)=some (.int od):=by
   match r5,hr5 with
   | 0,_=>exact ⟨_,rfl⟩
   | 1,_=>exact ⟨_,rfl⟩
  refine ⟨l4,_,_,_,rfl,rfl,SqL.of (b5 _ _ e4 q4.symm),eo,?_⟩
  have b05:But q H H5:=((b02.trans b3).same s4).trans b5
  have d5:=dr.but g5 b05
  clear b02 b2 b3 b5 s1 s4 e1 e4 q1 q4 g2 g3 eo
  refine ⟨_,rfl,_,rfl,by lia,by lia,?_⟩
  rw [show ((n:Int)).toNat=n from CV n]
  refine kJ (lo:=0) (n:=n) (fun i ys H'=>∃ ts:List Th,Strm H' q/\But q H5 H'/\TgA q H' ys ts/\ts.length=i/\i<=n/\∀ t∈ts,StpT t) ⟨[],g5,But.refl _ _,.nil,rfl,Cy _,fun _ z=>nomatch z⟩ (fun i ys H' hi ⟨ts,_,_,ta,lt,h',_⟩=>by have:=ta.length;lia) ?_ ?_
  ·rintro i ys H6 hi ⟨ts,g6,b6,ta,lt,hi',hs⟩
   refine ⟨⟨rfl,rfl,rfl,rfl,trivial⟩,cE ?_⟩
   refine ⟨_,rfl,_,rfl,_,rfl,_,rfl,_,rfl,rfl,q,v,m,_,Hb,W,rfl,d5.but g6 b6,hm1,hm8,fun u t H7 tv st g7 b7=>?_⟩
   refine Nx.mk hi ⟨ts++[t],g7,b6.trans b7,(ta.but g6 b7).snoc tv,by rw [BN,lt];rfl,hi,fun t' ht=>?_⟩
   rcases Cp.mp ht with h|h
   ·exact hs t' h
   ·rw [Cb.mp h];exact st
  rintro ys H6 ⟨ts,g6,b6,ta,lt,_,hs⟩ l7 n7
  have s7:=ae (o:=.lst ys) n7
  have e7:(aC H6 l7 (.lst ys)) l7=some (.lst ys):=ad
  have g7:=g6.same s7
  have b57:=b6.same s7
  have ta7:=ta.same s7
  generalize aC H6 l7 (.lst ys)=H7 at *
  refine ⟨_,rfl,l7,ys,rfl,.inl ⟨SqL.of e7,fun t8 n8=>?_⟩⟩
  have s8:=ae (o:=.tup ys) n8
  have e8:(aC H7 t8 (.tup ys)) t8=some (.tup ys):=ad
  have g8:=g7.same s8
  have b58:=b57.same s8
  have ta8:=ta7.same s8
  generalize aC H7 t8 (.tup ys)=H8 at *
  refine ⟨_,rfl,_,rfl,_,rfl,_,rfl,_,rfl,rfl,q,v,m,_,Hb,W,rfl,d5.but g8 b58,hm1,hm8,fun u on H9 tv ho g9 b9=>⟨bh,fun ta' na=>?_⟩⟩
  have sa:=ae (o:=.tup [.ref t8,u]) na
  have tt:TgV q H8 (.ref t8) (.tup ts):=.tup e8 ta8
  exact qq _ _ _ (.tup ad (.cons ((tt.but g8 b9).same sa) (.cons (tv.same sa) .nil))) ⟨ts,on,rfl,hs,ho,by lia⟩ (g9.same sa) (((b05.trans b58).trans b9).same sa)
abbrev nz:Stmt:=bH 134
variable {y:V} {kvs:List (cz×V)}
theorem sV {k:cz}:cr (cS kvs k y) k=some y:=by rw [kQ,if_pos rfl]
theorem yY {k j:cz} (h:j≠k):cr (cS kvs k y) j=cr kvs j:=by rw [kQ,if_neg h]
theorem oH (e:H a=some (.dK kvs)) (h:cr kvs (Sum.inr z)=some v):DGet H a (.str z) (some v):=by
 have:=DGet.k (k:=Sum.inr z) e
 rw [h] at this
 exact this
abbrev kS (z:Str):cz:=Sum.inr z
theorem By (va vb:V):∃ kv,gD [] [(kS "by",va),(kS "field",vb)]=kv/\cr kv (kS "by")=some va/\cr kv (kS "field")=some vb:=by
 refine ⟨_,rfl,?_,?_⟩
 ·show cr (cS (cS [] (kS "by") va) (kS "field") vb) _=_
  rw [yY (by decide +kernel),sV]
 ·show cr (cS (cS [] (kS "by") va) (kS "field") vb) _=_
  rw [sV]
theorem kr (fs:List (Str×Str)) (i:Nat) (so:Str):gr fs i so=(decide (i < (fs.map (·.2)).length) && match (fs.map (·.2))[i]? with|some z=>decide (z=so)|none=>false):=by
 unfold gr
 rw [Co,BJ]
 by_cases h:i < fs.length
 ·rw [decide_eq_true h,BZ h]
  rfl
 ·rw [decide_eq_false h,List.getElem?_eq_none (by lia)]
  rfl
def An (C:Addr):Sp:=fun vs H Q _=>∃ (u v:V) (m:Nat) (so:Str) (p:Addr) (t:Th) (W:Fm×Kn) (b:Bool),vs=[u,v,.int m,.str so]/\TgV p H u t/\WoV C H v W/\WOk W/\(so="place"\/so="mark")/\((SelT t/\b=db W.1 W.2.fs so t)\/(SrcT t/\b=cy W.1 W.2.fs m t))/\∀ H',Same H H'->Q (.bl b) H'
theorem scPf:am ["_law_part","_law_world","_law_many","_law_sort","_law_due_here"] ["_law_part","_law_world","_law_many","_law_sort"] (aj nz):=bG (by decide +kernel)
theorem yZ (F:Fun K "_law_part_fits" "_law_part_fits" nz f fd) (B:Bl mg):FnOk P w K mg base bu 1 f fd ["_law_part","_law_world","_law_many","_law_sort"] (An C):=by
 have ZZ:=scPf
 walk_at "o"
 ·obtain ⟨u,v,m,so,p,t,W,b,rfl,tv,wo,ok,hso,hb,q⟩:=h
  have hu:=nO hr
  refine ⟨_,af (aQ (ax bv (au av (pv 0) ai (fun _ _=>rfl)) ak (az _)) (ah (al (aZ ci (au av (pv 0) ai (fun _ _=>rfl)) (pv 2) (az _)))) ay) (af (aQ (ax bv (au av (pv 0) ai (fun _ _=>rfl)) ak (az _)) (ah (al (aZ ci (au av (pv 0) ai (fun _ _=>rfl)) (bi lZ ai (au av (pv 1) ai (fun _ _=>rfl))) (az _)))) ay) (af (aQ (ax bv (au av (pv 0) ai (fun _ _=>rfl)) ak (az _)) (ah (al (aZ ci (au av (pv 0) ai (fun _ _=>rfl)) (au av (pv 1) (bi cv ai (aW bV (by rfl) B.int Cd (aa (aZ bv (pv 3) ak (az _)) ac))) (fun _ _=>rfl)) (az _)))) ay) (cF (fun σ H'=>∃ e z i du,σ=[some (.ref e),some v,some (.int (m:Nat)),some (.str so),some (.str du)]/\Same H H'/\H e=some (.tup [.str z,.int (i:Nat)])/\∀ H2,Same H H2->Q (.bl (gr W.2.fs i du)) H2) (aB (i:=4) scPf.nd rfl (Or.inl rfl) (nU hu (uh (k7 ak (pv 3) (k7 ak ak ug)) rfl rfl (by intro z;cases z) (by show 2<=15;decide)) (au av (pv 0) ai (fun _ _=>rfl)) (fun _ _=>rfl))) (ah (al (bE (aZ ci (au av (pv 0) ai (fun _ _=>rfl)) (aA aT (by rfl) B.len B7 (aa (au av (pv 1) ai (fun _ _=>rfl)) ac)) (az _)) (bJ (aZ bv (au aY (au av (pv 1) ai (fun _ _=>rfl)) (au av (pv 0) ai (fun _ _=>rfl)) (fun _ _=>rfl)) (pv 4) (az _))))))))),?_⟩
  obtain ⟨a,tw,ls,rfl,ea,hT,els⟩:=lO wo
  have w24:=ok.sh.w24
  rcases hb with ⟨st,rfl⟩|⟨st,rfl⟩
  ·cases st with
   | is i hi=>
    obtain ⟨g,rfl,e⟩:=tgv2 tv
    refine ⟨_,rfl,g,_,_,_,rfl,rfl,SqT.of e,bW,rfl,_,rfl,aP (by decide +kernel) ?_⟩
    refine ⟨_,rfl,g,_,_,_,rfl,rfl,SqT.of e,bW,rfl,_,rfl,aP (by decide +kernel) ?_⟩
    refine ⟨_,rfl,g,_,_,_,rfl,rfl,SqT.of e,bW,rfl,_,rfl,bj (by decide +kernel) ?_⟩
    rw [ou] at q
    have hat:kG ([tw,.int W.1.width,.int W.1.places.length,.int W.1.marks.length,.ref ls,.str W.2.name]:List V) (2+(if decide (V.str so=V.str "mark") then 1 else 0))=some (.int ((if so="place" then W.1.places.length else W.1.marks.length:Nat):Int)):=by
     rcases hso with rfl|rfl
     ·rw [if_pos rfl,show decide (V.str "place"=V.str "mark")=false from by decide +kernel]
      rfl
     ·rw [if_neg (show ¬ ("mark":Str)="place" by decide +kernel),show decide (V.str "mark"=V.str "mark")=true from by decide +kernel]
      rfl
    exact ⟨_,rfl,g,_,_,_,rfl,rfl,SqT.of e,ck,_,rfl,_,rfl,rfl,.inr ⟨_,rfl,_,_,rfl,rfl,a,_,_,_,rfl,rfl,SqT.of ea,hat,_,_,rfl,rfl,q _ (Same.refl _)⟩⟩
   | «by» i hi=>
    obtain ⟨g,rfl,e⟩:=tgv2 tv
    rw [ow] at q
    refine ⟨_,rfl,g,_,_,_,rfl,rfl,SqT.of e,bW,rfl,_,rfl,aP (by decide +kernel) ?_⟩
    refine ⟨_,rfl,g,_,_,_,rfl,rfl,SqT.of e,bW,rfl,_,rfl,aP (by decide +kernel) ?_⟩
    refine ⟨_,rfl,g,_,_,_,rfl,rfl,SqT.of e,bW,rfl,_,rfl,aP (by decide +kernel) ?_⟩
    refine ⟨?_,?_⟩
    ·rintro σ H1 ⟨g2,z2,i2,du,rfl,s1,he,q2⟩
     have e1:=s1 _ _ he
     have ea1:=s1 _ _ ea
     have els1:=s1 _ _ els
     refine ⟨_,rfl,g2,_,_,_,rfl,rfl,SqT.of e1,ck,_,rfl,a,_,_,_,rfl,rfl,SqT.of ea1,rfl,ls,_,rfl,.inl (SqL.of els1),_,_,rfl,rfl,_,rfl,?_⟩
     rw [kr] at q2
     by_cases hi2:i2 < (W.2.fs.map (·.2)).length
     ·refine bj (decide_eq_true (by rw [bS];lia)) ?_
      refine ⟨_,rfl,a,_,_,_,rfl,rfl,SqT.of ea1,rfl,_,rfl,g2,_,_,_,rfl,rfl,SqT.of e1,ck,ls,_,_,_,rfl,rfl,SqL.of els1,aJ (fe hi2),_,rfl,rfl,?_⟩
      rw [decide_eq_true hi2,BZ hi2] at q2
      rw [oA]
      exact q2 _ s1
     ·rw [decide_eq_false hi2] at q2
      exact aP (decide_eq_false (by rw [bS];lia)) (q2 _ s1)
    ·refine fun ds nds=>?_
     have s1:=ae (o:=.dK []) nds
     refine ⟨_,rfl,ad,[(kS "by",.str so),(kS "field",.str "number")],rfl,(by show 2<=15;decide),?_⟩
     obtain ⟨kv,ekv,h1,h2⟩:=By (.str so) (.str "number")
     rw [ekv]
     have s2:Same H (aC (aC H ds (.dK [])) ds (.dK kv)):=aG nds s1
     exact ⟨_,rfl,g,_,_,_,rfl,rfl,SqT.of (s2 _ _ e),bW,ds,_,rfl,oH ad h1,g,_,i,_,rfl,s2,e,q⟩
  ·cases st with
   | inn i hi=>
    obtain ⟨g,rfl,e⟩:=tgv2 tv
    refine ⟨_,rfl,g,_,_,_,rfl,rfl,SqT.of e,bW,rfl,_,rfl,bj (by decide +kernel) ?_⟩
    rw [oy] at q
    exact ⟨_,rfl,g,_,_,_,rfl,rfl,SqT.of e,ck,_,rfl,_,_,rfl,rfl,q _ (Same.refl _)⟩
   | num i hi=>
    obtain ⟨g,rfl,e⟩:=tgv2 tv
    refine ⟨_,rfl,g,_,_,_,rfl,rfl,SqT.of e,bW,rfl,_,rfl,aP (by decide +kernel) ?_⟩
    refine ⟨_,rfl,g,_,_,_,rfl,rfl,SqT.of e,bW,rfl,_,rfl,bj (by decide +kernel) ?_⟩
    rw [lJ] at q
    refine ⟨_,rfl,g,_,_,_,rfl,rfl,SqT.of e,ck,_,rfl,a,_,_,_,rfl,rfl,SqT.of ea,rfl,_,_,rfl,rfl,⟨by lia,by lia,by decide⟩,_,_,rfl,rfl,?_⟩
    have ep:(1:Int)*2 ^ ((W.1.width:Int)).toNat=((2 ^ W.1.width:Nat):Int):=by
     have e2:((2 ^ W.1.width:Nat):Int)=(2:Int) ^ W.1.width:=by norm_cast
     rw [CV,Int.one_mul,e2]
    rw [ep]
    exact q _ (Same.refl _)
   | fld i hi=>
    obtain ⟨g,rfl,e⟩:=tgv2 tv
    rw [lI] at q
    refine ⟨_,rfl,g,_,_,_,rfl,rfl,SqT.of e,bW,rfl,_,rfl,aP (by decide +kernel) ?_⟩
    refine ⟨_,rfl,g,_,_,_,rfl,rfl,SqT.of e,bW,rfl,_,rfl,aP (by decide +kernel) ?_⟩
    refine ⟨_,rfl,g,_,_,_,rfl,rfl,SqT.of e,bW,rfl,_,rfl,aP (by decide +kernel) ?_⟩
    refine ⟨?_,?_⟩
    ·rintro σ H1 ⟨g2,z2,i2,du,rfl,s1,he,q2⟩
     have e1:=s1 _ _ he
     have ea1:=s1 _ _ ea
     have els1:=s1 _ _ els
     refine ⟨_,rfl,g2,_,_,_,rfl,rfl,SqT.of e1,ck,_,rfl,a,_,_,_,rfl,rfl,SqT.of ea1,rfl,ls,_,rfl,.inl (SqL.of els1),_,_,rfl,rfl,_,rfl,?_⟩
     rw [kr] at q2
     by_cases hi2:i2 < (W.2.fs.map (·.2)).length
     ·refine bj (decide_eq_true (by rw [bS];lia)) ?_
      refine ⟨_,rfl,a,_,_,_,rfl,rfl,SqT.of ea1,rfl,_,rfl,g2,_,_,_,rfl,rfl,SqT.of e1,ck,ls,_,_,_,rfl,rfl,SqL.of els1,aJ (fe hi2),_,rfl,rfl,?_⟩
      rw [decide_eq_true hi2,BZ hi2] at q2
      rw [oA]
      exact q2 _ s1
     ·rw [decide_eq_false hi2] at q2
      exact aP (decide_eq_false (by rw [bS];lia)) (q2 _ s1)
    ·refine fun ds nds=>?_
     have s1:=ae (o:=.dK []) nds
     refine ⟨_,rfl,ad,[(kS "by",.str so),(kS "field",.str "number")],rfl,(by show 2<=15;decide),?_⟩
     obtain ⟨kv,ekv,h1,h2⟩:=By (.str so) (.str "number")
     rw [ekv]
     have s2:Same H (aC (aC H ds (.dK [])) ds (.dK kv)):=aG nds s1
     exact ⟨_,rfl,g,_,_,_,rfl,rfl,SqT.of (s2 _ _ e),bW,ds,_,rfl,oH ad h2,g,_,i,_,rfl,s2,e,q⟩
abbrev sW:Stmt:=bH 135
def fg (D:Fm) (fs:List (Str×Str)) (m:Nat) (so:Str):Th->Bool
 | .int i=>decide (i < m)
 | .tup [.str w,.int i]=>if w="is"\/w="by" then db D fs so (.tup [.str w,.int i]) else cy D fs m (.tup [.str w,.int i])
 | _=>true
variable {so:Str} {m:Nat}
theorem gw {fs:List (Str×Str)} (h:SelT t):fg D fs m so t=db D fs so t:=by
 cases h with
 | is i hi=>unfold fg;simp
 | «by» i hi=>unfold fg;simp
theorem di {fs:List (Str×Str)} (h:SrcT t):fg D fs m so t=cy D fs m t:=by
 have n1:¬ (("field":Str)="is"\/("field":Str)="by"):=by decide +kernel
 have n2:¬ (("number":Str)="is"\/("number":Str)="by"):=by decide +kernel
 have n3:¬ (("in":Str)="is"\/("in":Str)="by"):=by decide +kernel
 cases h with
 | fld i hi=>unfold fg;dsimp only;rw [if_neg n1]
 | num i hi=>unfold fg;dsimp only;rw [if_neg n2]
 | inn i hi=>unfold fg;dsimp only;rw [if_neg n3]
def iV (w:Str):Str:=if w="ask"\/w="tell" then "mark" else "place"
def wj (t:Th):Prop:=(∃ k:Nat,t=.int k)\/(∃ o,t=.str o)\/SelT t\/SrcT t
variable {w0:Str}
theorem pH (h:StpT (.tup (.str w0::ts))):ts.length<=4/\∀ t∈ts,wj t:=by
 have i1:∀ k:Nat,wj (.int k):=fun k=>.inl ⟨k,rfl⟩
 have i2:∀ o,wj (.str o):=fun o=>.inr (.inl ⟨o,rfl⟩)
 have i3:∀ {t},SelT t->wj t:=fun h=>.inr (.inr (.inl h))
 have i4:∀ {t},SrcT t->wj t:=fun h=>.inr (.inr (.inr h))
 have a2:∀ {a b:Th},wj a->wj b->∀ t∈[a,b],wj t:=fun ha hb t ht=>by
  simp only [BW,Ch,or_false] at ht
  rcases ht with rfl|rfl
  ·exact ha
  ·exact hb
 cases h with
 | get k hk hs=>exact ⟨by simp,a2 (i1 k) (i3 hs)⟩
 | ask k hk hs=>exact ⟨by simp,a2 (i1 k) (i3 hs)⟩
 | cell k hk hs=>exact ⟨by simp,a2 (i1 k) (i4 hs)⟩
 | two k hk ho ha hb=>
  refine ⟨by simp,fun t ht=>?_⟩
  rcases BW.mp ht with rfl|ht
  ·exact i1 k
  ·rcases BW.mp ht with rfl|ht
   ·exact i2 _
   ·exact a2 (i4 ha) (i4 hb) t ht
 | put hs ha=>exact ⟨by simp,a2 (i3 hs) (i4 ha)⟩
 | tell hs ha=>exact ⟨by simp,a2 (i3 hs) (i4 ha)⟩
 | store ha hb=>exact ⟨by simp,a2 (i4 ha) (i4 hb)⟩
theorem iS {fs:List (Str×Str)} (h:StpT (.tup (.str w0::ts))):dc D fs m (.tup (.str w0::ts))=ts.all (fg D fs m (iV w0)):=by
 show oz D fs m (sK w0) ts=_
 cases h with
 | @get k s hk hs=>
  rw [show sK "get"=0 from by decide +kernel,show iV "get"="place" from by decide +kernel]
  show (([.int k]:List Th).all (nj m) && (db D fs "place" s && true))=(fg D fs m "place" (.int k) && (fg D fs m "place" s && true))
  rw [gw hs]
  simp [nj,fg]
 | @ask k s hk hs=>
  rw [show sK "ask"=1 from by decide +kernel,show iV "ask"="mark" from by decide +kernel]
  show (([.int k]:List Th).all (nj m) && (db D fs "mark" s && true))=(fg D fs m "mark" (.int k) && (fg D fs m "mark" s && true))
  rw [gw hs]
  simp [nj,fg]
 | @cell k s hk hs=>
  rw [show sK "cell"=2 from by decide +kernel,show iV "cell"="place" from by decide +kernel]
  show (([.int k]:List Th).all (nj m) && (true && (cy D fs m s && true)))=(fg D fs m "place" (.int k) && (fg D fs m "place" s && true))
  rw [di hs]
  simp [nj,fg]
 | @two k o a b hk ho ha hb=>
  rw [show sK "two"=3 from by decide +kernel,show iV "two"="place" from by decide +kernel]
  show (([.int k]:List Th).all (nj m) && (true && (cy D fs m a && (cy D fs m b && true))))=(fg D fs m "place" (.int k) && (true && (fg D fs m "place" a && (fg D fs m "place" b && true))))
  rw [di ha,di hb]
  simp [nj,fg]
 | @put s a hs ha=>
  rw [show sK "put"=4 from by decide +kernel,show iV "put"="place" from by decide +kernel]
  show (true && (db D fs "place" s && (cy D fs m a && true)))=(fg D fs m "place" s && (fg D fs m "place" a && true))
  rw [gw hs,di ha]
  simp
 | @tell s a hs ha=>
  rw [show sK "tell"=5 from by decide +kernel,show iV "tell"="mark" from by decide +kernel]
  show (true && (db D fs "mark" s && (cy D fs m a && true)))=(fg D fs m "mark" s && (fg D fs m "mark" a && true))
  rw [gw hs,di ha]
  simp
 | @store a b ha hb=>
  rw [show sK "store"=6 from by decide +kernel,show iV "store"="place" from by decide +kernel]
  show (true && (true && (cy D fs m a && (cy D fs m b && true))))=(fg D fs m "place" a && (fg D fs m "place" b && true))
  rw [di ha,di hb]
  simp
theorem Ao (w0:Str):(if (if false=true then (!eQ (V.str w0) (ap ["ask","tell"])) else eQ (V.str w0) (ap ["ask","tell"]))=true then V.str "mark" else V.str "place")=.str (iV w0):=by
 show (if eQ (V.str w0) (ap ["ask","tell"])=true then V.str "mark" else V.str "place")=.str (iV w0)
 rw [bM]
 unfold iV
 by_cases h:w0="ask"\/w0="tell"
 ·rw [if_pos h,if_pos (by rcases h with rfl|rfl<;>decide +kernel)]
 ·rw [if_neg h,if_neg]
  intro z
  have:=CC.mp z
  simp only [BW,Ch,or_false] at this
  exact h this
theorem Ap (w0:Str):iV w0="place"\/iV w0="mark":=by
 unfold iV
 split
 ·exact .inr rfl
 ·exact .inl rfl
theorem sX (h:StpT t):∃ w0 ts,t=.tup (.str w0::ts):=by cases h<;>exact ⟨_,_,rfl⟩
theorem vo (h:SelT t\/SrcT t):∃ l,t=.tup l:=by
 rcases h with h|h<;>cases h<;>exact ⟨_,rfl⟩
def wl (C:Addr):Sp:=fun vs H Q _=>∃ (u v:V) (m:Nat) (p:Addr) (t:Th) (W:Fm×Kn),vs=[u,v,.int m]/\TgV p H u t/\LitT t/\WoV C H v W/\WOk W/\∀ H',Same H H'->Q (.bl (yB W.1 W.2.fs m t)) H'
theorem scDue:am ["_law_told","_law_world","_law_many","_law_step_here","_law_part","_law_sort","_law_on_here"] ["_law_told","_law_world","_law_many"] (aj sW):=bG (by decide +kernel)
theorem vq (F:Fun K "_law_due" "_law_due" sW f fd) (B:Bl mg) (PF:Fn P w K mg base "_law_part_fits" 1 ["_law_part","_law_world","_law_many","_law_sort"] (An C)):FnOk P w K mg base bu 2 f fd ["_law_told","_law_world","_law_many"] (wl C):=by
 have ZZ:=scDue
 walk_at "o"
 ·obtain ⟨u,v,m,p,t,W,rfl,tv,lt,wo,ok,q⟩:=h
  refine ⟨_,af (cH PassesOwn.never rfl (dj (au av (pv 0) ai (fun _ _=>rfl))) (aI (i:=3) scDue.nd rfl (Or.inl rfl)) (ah (cH PassesOwn.never rfl (dj (cN wI (pv 3) (cC ai) fW)) (aI (i:=4) scDue.nd rfl (Or.inl rfl)) (af (aQ (PW.pt (cm (bf (aA (cJ (T:="int")) (by rfl) B.isinstance bL (aa (pv 4) (aa (pe_ty (by rfl) B.int Cd) ac)))) (bU (ax vD (pv 4) (pv 2) (az _))))) (ah (al df)) ay) (af (aB (i:=5) scDue.nd rfl (Or.inl rfl) (au aY (aL (aa ak (aa ak ac))) (aW bV (by rfl) B.int Cd (aa (aZ bO (au av (pv 3) ai (fun _ _=>rfl)) (aL (aa ak (aa ak ac))) rfl) ac)) (fun _ _=>rfl))) (ah (aQ (PW.pt (cm (bf (aA (cJ (T:="tuple")) (by rfl) B.isinstance bL (aa (pv 4) (aa (pe_ty (by rfl) B.tuple bq) ac)))) (bU (cf (bf (aq PF hr rfl (aa (pv 4) (aa (pv 1) (aa (pv 2) (aa (pv 5) ac)))))))))) (ah (al df)) ay))))))) (af (aB (i:=6) scDue.nd rfl (Or.inl rfl) (au av (pv 0) ai (fun _ _=>rfl))) (af (aQ (PW.pt (cm (ax bv (au av (pv 6) ai (fun _ _=>rfl)) ak (az _)) (bU (ax bO (au av (au av (pv 6) ai (fun _ _=>rfl)) ai (fun _ _=>rfl)) (aL (aa ak (aa ak ac))) rfl)))) (ah (al (bE (aZ ci (au av (au av (pv 6) ai (fun _ _=>rfl)) ai (fun _ _=>rfl)) (aA aT (by rfl) B.len B7 (aa (au av (pv 1) ai (fun _ _=>rfl)) ac)) (az _)) (bJ (aZ bv (au aY (au av (pv 1) ai (fun _ _=>rfl)) (au av (au av (pv 6) ai (fun _ _=>rfl)) ai (fun _ _=>rfl)) (fun _ _=>rfl)) ak (az _)))))) ay) (ah (al (pO (aZ cD (au av (pv 6) ai (fun _ _=>rfl)) (aL (aa ak (aa ak ac))) rfl) (bJ (aZ ci (au av (pv 6) ai (fun _ _=>rfl)) (pv 2) (az _)))))))),?_⟩
  obtain ⟨ss,on,rfl,hs,ho,hl⟩:=lt.ex
  obtain ⟨g,xs,rfl,eg,ta⟩:∃ g xs,u=.ref g/\H g=some (.tup xs)/\TgA p H xs [.tup ss,on]:=by
   cases tv with
   | tup e ta=>exact ⟨_,_,rfl,e,ta⟩
  obtain ⟨x1,x2,rfl,tx1,tx2⟩:=tgA_w2 ta
  obtain ⟨g1,us,rfl,eg1,tus⟩:∃ g xs,x1=.ref g/\H g=some (.tup xs)/\TgA p H xs ss:=by
   cases tx1 with
   | tup e ta=>exact ⟨_,_,rfl,e,ta⟩
  have lus:=tus.length
  have q':∀ b,(ss.all (dc W.1 W.2.fs m) && yA W.2.fs m on)=b->∀ H',Same H H'->Q (.bl b) H':=fun b e H' s'=>by
   have:=q H' s'
   have e':yB W.1 W.2.fs m (.tup [.tup ss,on])=b:=e
   rw [e'] at this
   exact this
  refine ⟨_,rfl,g,_,_,_,rfl,rfl,SqT.of eg,bW,g1,rfl,⟨_,SqT.of eg1⟩,?_⟩
  refine gZ (K:=K) (a:=g1) (xs:=us) (fun i σ H'=>∃ v3 v4 v5:Option V,σ=[some (.ref g),some v,some (.int (m:Nat)),v3,v4,v5,none]/\Same H H'/\(ss.take i).all (dc W.1 W.2.fs m)=true) ⟨_,_,_,rfl,Same.refl _,rfl⟩ (fun i σ H' _ ⟨_,_,_,_,s',_⟩=>SqT.of (s' _ _ eg1)) ?_ ?_
  ·rintro i x σ H1 hx ⟨v3,v4,v5,rfl,s1,hall⟩
   obtain ⟨t,ht,tv⟩:=tus.get hx
   have hst:=hs t (Ca ht)
   obtain ⟨w0,ts,rfl⟩:=sX hst
   obtain ⟨lt4,hpt⟩:=pH hst
   obtain ⟨g2,ys,rfl,eg2,tys⟩:∃ g ys,x=.ref g/\H g=some (.tup (.str w0::ys))/\TgA p H ys ts:=by
    cases tv with
    | tup e ta=>exact match ta with|.cons (.str _) h=>⟨_,_,rfl,e,h⟩
   have bad:(∃ t∈ts,fg W.1 W.2.fs m (iV w0) t=false)->∀ H',Same H H'->Q (.bl false) H':=fun ⟨t,ht',hb⟩=>q' false (by
    have e1:dc W.1 W.2.fs m (.tup (.str w0::ts))=false:=by
     rw [iS hst]
     exact B5.mpr fun z=>by rw [CA.mp z t ht'] at hb;cases hb
    have e2:ss.all (dc W.1 W.2.fs m)=false:=B5.mpr fun z=>by rw [CA.mp z _ (Ca ht)] at e1;cases e1
    rw [e2];rfl)
   refine ⟨_,rfl,_,rfl,g2,_,rfl,SqT.of (s1 _ _ eg2),?_,fun t3 n3=>?_⟩
   ·rintro ⟨z,_⟩
    rw [show ((1:Int))=((1:Nat):Int) from rfl,HT.sIx_nat] at z
    simp at z
   have ecut:fX (.str w0::ys) (some 1) none=ys:=by
    rw [show ((1:Int))=((1:Nat):Int) from rfl,yK]
    rfl
   rw [ecut]
   generalize zz:aC H1 t3 _=H3
   have s3:Same H1 H3:=zz ▸ ae n3
   have e3:H3 t3=some (.tup ys):=zz ▸ ad
   clear zz
   have s03:=s1.trans s3
   have lys:=tys.length
   refine ⟨t3,rfl,⟨_,SqT.of e3⟩,?_⟩
   refine gZ (K:=K) (a:=t3) (xs:=ys) (fun j σ H'=>∃ v4 v5:Option V,σ=[some (.ref g),some v,some (.int (m:Nat)),some (.ref g2),v4,v5,none]/\Same H3 H'/\(ts.take j).all (fg W.1 W.2.fs m (iV w0))=true) ⟨_,_,rfl,Same.refl _,rfl⟩ (fun i σ H' _ ⟨_,_,_,s',_⟩=>SqT.of (s' _ _ e3)) ?_ ?_
   ·rintro j y σ H4 hy ⟨v4,v5,rfl,s4,hpr⟩
    obtain ⟨t,ht',tv4⟩:=tys.get hy
    have s04:=s03.trans s4
    have tv4:=tv4.same s04
    have htm:=Ca ht'
    have nxt:fg W.1 W.2.fs m (iV w0) t=true->(ts.take (j+1)).all (fg W.1 W.2.fs m (iV w0))=true:=fun hb=>by
     rw [Cj,ht',List.all_append,hpr]
     simp [hb]
    have eso:(if (if false=true then (!eQ (V.str w0) (ap ["ask","tell"])) else eQ (V.str w0) (ap ["ask","tell"]))=true then V.str "mark" else V.str "place")=.str (iV w0):=Ao w0
    rcases hpt t htm with ⟨k,rfl⟩|⟨o,rfl⟩|hss
    ·cases tv4
     refine ⟨_,rfl,_,_,true,rfl,.int _,rfl,_,rfl,cQ ?_⟩
     refine ⟨_,rfl,_,rfl,_,_,rfl,rfl,_,rfl,?_⟩
     by_cases hk:(k:Int) < m
     ·refine aP (decide_eq_false (by lia)) ?_
      refine ⟨bh,fun l6 n6=>?_⟩
      have s6:=ae (o:=.lst [.str "place",.str "mark"]) n6
      have e6:(aC H4 l6 (.lst [.str "place",.str "mark"])) l6=some (.lst [.str "place",.str "mark"]):=ad
      generalize aC H4 l6 (.lst [V.str "place",.str "mark"])=H6 at *
      refine ⟨_,rfl,g2,_,_,_,rfl,rfl,SqT.of ((s04.trans s6) _ _ eg2),bW,bh,fun l7 n7=>?_⟩
      have s7:=ae (o:=.lst [.str "ask",.str "tell"]) n7
      have e7:(aC H6 l7 (.lst [.str "ask",.str "tell"])) l7=some (.lst (ap ["ask","tell"])):=ad
      generalize aC H6 l7 (.lst [V.str "ask",.str "tell"])=H7 at *
      have s67:=s6.trans s7
      refine ⟨l7,_,rfl,.inl (SqL.of e7),rfl,bC _,.inr ⟨_,rfl,l6,_,_,_,rfl,rfl,SqL.of (s7 _ _ e6),dR _ _ _,?_⟩⟩
      rw [eso]
      exact ⟨_,rfl,_,_,false,rfl,.int _,rfl,_,rfl,bz (bz ⟨_,_,rfl,s4.trans s67,nxt (decide_eq_true hk)⟩)⟩
     ·exact bj (decide_eq_true (by lia)) (bad ⟨_,htm,decide_eq_false hk⟩ _ s04)
    ·cases tv4
     refine ⟨_,rfl,_,_,false,rfl,.str _,rfl,_,rfl,bz (bz ?_)⟩
     refine ⟨bh,fun l6 n6=>?_⟩
     have s6:=ae (o:=.lst [.str "place",.str "mark"]) n6
     have e6:(aC H4 l6 (.lst [.str "place",.str "mark"])) l6=some (.lst [.str "place",.str "mark"]):=ad
     generalize aC H4 l6 (.lst [V.str "place",.str "mark"])=H6 at *
     refine ⟨_,rfl,g2,_,_,_,rfl,rfl,SqT.of ((s04.trans s6) _ _ eg2),bW,bh,fun l7 n7=>?_⟩
     have s7:=ae (o:=.lst [.str "ask",.str "tell"]) n7
     have e7:(aC H6 l7 (.lst [.str "ask",.str "tell"])) l7=some (.lst (ap ["ask","tell"])):=ad
     generalize aC H6 l7 (.lst [V.str "ask",.str "tell"])=H7 at *
     have s67:=s6.trans s7
     refine ⟨l7,_,rfl,.inl (SqL.of e7),rfl,bC _,.inr ⟨_,rfl,l6,_,_,_,rfl,rfl,SqL.of (s7 _ _ e6),dR _ _ _,?_⟩⟩
     rw [eso]
     exact ⟨_,rfl,_,_,false,rfl,.str _,rfl,_,rfl,bz (bz ⟨_,_,rfl,s4.trans s67,nxt rfl⟩)⟩
    ·obtain ⟨l,rfl⟩:=vo hss
     obtain ⟨ga,zs,rfl,ega⟩:∃ g xs,y=.ref g/\H4 g=some (.tup xs):=by
      cases tv4 with
      | tup e ta=>exact ⟨_,_,rfl,e⟩
     refine ⟨_,rfl,_,_,false,rfl,.tup ega,rfl,_,rfl,bz (bz ?_)⟩
     refine ⟨bh,fun l6 n6=>?_⟩
     have s6:=ae (o:=.lst [.str "place",.str "mark"]) n6
     have e6:(aC H4 l6 (.lst [.str "place",.str "mark"])) l6=some (.lst [.str "place",.str "mark"]):=ad
     generalize aC H4 l6 (.lst [V.str "place",.str "mark"])=H6 at *
     refine ⟨_,rfl,g2,_,_,_,rfl,rfl,SqT.of ((s04.trans s6) _ _ eg2),bW,bh,fun l7 n7=>?_⟩
     have s7:=ae (o:=.lst [.str "ask",.str "tell"]) n7
     have e7:(aC H6 l7 (.lst [.str "ask",.str "tell"])) l7=some (.lst (ap ["ask","tell"])):=ad
     generalize aC H6 l7 (.lst [V.str "ask",.str "tell"])=H7 at *
     have s67:=s6.trans s7
     refine ⟨l7,_,rfl,.inl (SqL.of e7),rfl,bC _,.inr ⟨_,rfl,l6,_,_,_,rfl,rfl,SqL.of (s7 _ _ e6),dR _ _ _,?_⟩⟩
     rw [eso]
     refine ⟨_,rfl,_,_,true,rfl,.tup (s67 _ _ ega),rfl,_,rfl,cQ ?_⟩
     refine ⟨_,rfl,_,rfl,_,rfl,_,rfl,_,v,m,iV w0,p,_,W,fg W.1 W.2.fs m (iV w0) (.tup l),rfl,tv4.same s67,wo.same (s04.trans s67),ok,Ap w0,?_,fun H8 s8=>?_⟩
     ·rcases hss with h|h
      ·exact .inl ⟨h,gw h⟩
      ·exact .inr ⟨h,di h⟩
     cases hb:fg W.1 W.2.fs m (iV w0) (.tup l) with
     | false=>exact ⟨_,rfl,cQ (bad ⟨_,htm,hb⟩ _ ((s04.trans s67).trans s8))⟩
     | true=>exact ⟨_,rfl,bz ⟨_,_,rfl,s4.trans (s67.trans s8),nxt hb⟩⟩
   ·rintro σ H4 ⟨v4,v5,rfl,s4,hpr⟩
    refine ⟨_,_,_,rfl,s03.trans s4,?_⟩
    rw [lys,Cg] at hpr
    rw [Cj,ht,List.all_append,hall,Bool.true_and]
    simp only [Option.toList_some,List.all_cons,List.all_nil,Bool.and_true]
    rw [iS hst,hpr]
  ·rintro σ H1 ⟨v3,v4,v5,rfl,s1,hall⟩
   rw [lus,Cg] at hall
   have q2:∀ H',Same H H'->Q (.bl (yA W.2.fs m on)) H':=fun H' s'=>q' _ (by rw [hall];rfl) H' s'
   obtain ⟨a,tw,ls,rfl,ea,hT,els⟩:=lO wo
   refine ⟨_,rfl,g,_,_,_,rfl,rfl,SqT.of (s1 _ _ eg),ck,?_⟩
   have fl2:∀ (x y:Str),([V.str x,V.str y]:List V).all cO=true:=fun _ _=>rfl
   cases ho with
   | two z i a' b' hz hi ha hb=>
    obtain ⟨k,rfl,e⟩:=z7 tx2
    have e1:=s1 _ _ e
    refine ⟨_,rfl,k,_,_,_,rfl,rfl,SqT.of e1,bW,rfl,_,rfl,aP (by rcases hz with rfl|rfl<;>decide +kernel) (bz ?_)⟩
    refine ⟨_,rfl,k,_,_,_,rfl,rfl,SqT.of e1,bW,bh,fun l2 n2=>?_⟩
    have s2:=ae (o:=.lst [.str "some",.str "top"]) n2
    refine ⟨l2,_,rfl,.inl (SqL.of ad),rfl,fl2 _ _,_,rfl,aP ?_ ?_⟩
    ·show (!eQ (.str z) (ap ["some","top"]))=false
     rw [bM]
     rcases hz with rfl|rfl<;>decide +kernel
    ·exact ⟨_,rfl,k,_,_,_,rfl,rfl,SqT.of (s2 _ _ e1),ck,_,rfl,_,_,rfl,rfl,q2 _ (s1.trans s2)⟩
   | on a' ha=>
    obtain ⟨k,rfl,e⟩:=tgv2 tx2
    have e1:=s1 _ _ e
    refine ⟨_,rfl,k,_,_,_,rfl,rfl,SqT.of e1,bW,rfl,_,rfl,aP (by decide +kernel) (bz ?_)⟩
    refine ⟨_,rfl,k,_,_,_,rfl,rfl,SqT.of e1,bW,bh,fun l2 n2=>?_⟩
    have s2:=ae (o:=.lst [.str "some",.str "top"]) n2
    refine ⟨l2,_,rfl,.inl (SqL.of ad),rfl,fl2 _ _,_,rfl,bj ?_ (q2 _ (s1.trans s2))⟩
    show (!eQ (.str "on") (ap ["some","top"]))=true
    rw [bM]
    decide +kernel
   | @done x he=>
    rw [lL] at q2
    obtain ⟨k,y,rfl,e,ty⟩:=vV tx2
    have e1:=s1 _ _ e
    have hd:∃ g2 z r,y=.ref g2/\H1 g2=some (.tup (.str z::r))/\((∃ i:Nat,(z="go"\/z="call")/\r=[.int i]/\iM W.2.fs x=gr W.2.fs i "row")\/((["go","call"]:List Str).contains z=false/\iM W.2.fs x=true)):=by
     have ty1:=ty.same s1
     cases he with
     | next=>obtain ⟨g2,rfl,h2⟩:=pF ty1;exact ⟨g2,_,_,rfl,h2,.inr ⟨by decide +kernel,rfl⟩⟩
     | back=>obtain ⟨g2,rfl,h2⟩:=pF ty1;exact ⟨g2,_,_,rfl,h2,.inr ⟨by decide +kernel,rfl⟩⟩
     | stop=>obtain ⟨g2,rfl,h2⟩:=pF ty1;exact ⟨g2,_,_,rfl,h2,.inr ⟨by decide +kernel,rfl⟩⟩
     | go i hi=>obtain ⟨g2,rfl,h2⟩:=tgv2 ty1;exact ⟨g2,_,_,rfl,h2,.inl ⟨i,.inl rfl,rfl,oB _ i⟩⟩
     | call i hi=>obtain ⟨g2,rfl,h2⟩:=tgv2 ty1;exact ⟨g2,_,_,rfl,h2,.inl ⟨i,.inr rfl,rfl,jz _ i⟩⟩
     | fault z hz=>obtain ⟨g2,rfl,h2⟩:=vU ty1;exact ⟨g2,_,_,rfl,h2,.inr ⟨by decide +kernel,iN _ z⟩⟩
    obtain ⟨g2,z,r,rfl,h2,hc⟩:=hd
    refine ⟨_,rfl,k,_,_,_,rfl,rfl,SqT.of e1,bW,rfl,_,rfl,bj (by decide +kernel) ?_⟩
    refine ⟨_,rfl,k,_,_,_,rfl,rfl,SqT.of e1,ck,g2,_,_,_,rfl,rfl,SqT.of h2,bW,bh,fun l2 n2=>?_⟩
    have s2:=ae (o:=.lst [.str "go",.str "call"]) n2
    have e2:(aC H1 l2 (.lst [.str "go",.str "call"])) l2=some (.lst (ap ["go","call"])):=ad
    generalize aC H1 l2 (.lst [V.str "go",.str "call"])=H2 at *
    have s02:=s1.trans s2
    have e12:=s2 _ _ e1
    rcases hc with ⟨i,hz,rfl,eb⟩|⟨hz,eb⟩
    ·refine ⟨l2,_,rfl,.inl (SqL.of e2),rfl,bC _,_,rfl,bj (by show eQ (.str z) (ap ["go","call"])=true;rw [bM];rcases hz with rfl|rfl<;>decide +kernel) ?_⟩
     have h22:=s2 _ _ h2
     refine ⟨_,rfl,k,_,_,_,rfl,rfl,SqT.of e12,ck,g2,_,_,_,rfl,rfl,SqT.of h22,ck,_,rfl,a,_,_,_,rfl,rfl,SqT.of (s02 _ _ ea),rfl,ls,_,rfl,.inl (SqL.of (s02 _ _ els)),_,_,rfl,rfl,_,rfl,?_⟩
     have q3:=q2 _ s02
     rw [eb,kr] at q3
     by_cases hi2:i < (W.2.fs.map (·.2)).length
     ·refine bj (decide_eq_true (by rw [bS];lia)) ?_
      refine ⟨_,rfl,a,_,_,_,rfl,rfl,SqT.of (s02 _ _ ea),rfl,_,rfl,k,_,_,_,rfl,rfl,SqT.of e12,ck,g2,_,_,_,rfl,rfl,SqT.of h22,ck,ls,_,_,_,rfl,rfl,SqL.of (s02 _ _ els),aJ (fe hi2),rfl,?_⟩
      rw [decide_eq_true hi2,BZ hi2] at q3
      rw [oA]
      exact q3
     ·rw [decide_eq_false hi2] at q3
      exact aP (decide_eq_false (by rw [bS];lia)) q3
    ·refine ⟨l2,_,rfl,.inl (SqL.of e2),rfl,bC _,_,rfl,aP (by show eQ (.str z) (ap ["go","call"])=false;rw [bM];exact hz) ?_⟩
     refine ⟨_,rfl,k,_,_,_,rfl,rfl,SqT.of e12,bW,bh,fun l3 n3=>?_⟩
     have s3:=ae (o:=.lst [.str "some",.str "top"]) n3
     have q3:=q2 _ (s02.trans s3)
     rw [eb] at q3
     refine ⟨l3,_,rfl,.inl (SqL.of ad),rfl,fl2 _ _,_,rfl,bj ?_ q3⟩
     show (!eQ (.str "done") (ap ["some","top"]))=true
     rw [bM]
     decide +kernel
end L3
namespace L2
open PySem PySem.Spec PyProof.Rows
section
variable {X:Cx}
variable {K:ZF}
theorem lP (h:X.K=K):cV X (.builtin "isinstance") (fun xs H Q=>∃ e C d r fs nm bm C' nm' bm',xs=[.ref e,.ref C']/\XAt H e C d r fs/\XC K C nm bm/\XC K C' nm' bm'/\Q (.bl ((Value.ref C::bm).contains (.ref C'))) H):=by
 subst h;exact uP
theorem sY {e:Expr} {f:Str} {ta:TE} {pos:Pos} (h:X.K=K) (he:PE X e ta) (hb:attributeBase e f X.env (eval e X.env)=eval e X.env):PE X (.Attribute e f pos) (vS K ta f):=by
 subst h;exact uQ he hb
theorem lQ {x:V} (h:cO x=true):mj x x=true:=by
 cases x<;>first|rfl|(simp [mj];done)|cases h
theorem eO {α β:Type} {F:α->β->Prop}:∀ {xs:List α} {ys:List β},Paired F xs ys->∀ (j:Nat) (h1:j < xs.length) (h2:j < ys.length),F xs[j] ys[j]
 | _,_,.cons h t,0,_,_=>h
 | _,_,.cons h t,j+1,h1,h2=>eO t j (by simpa using h1) (by simpa using h2)
theorem vt {k:Nat} (hr:Room k X.A):dF X (compareOp .Eq) (fun x y H Q=>∃ p q xs,x=.ref p/\y=.ref q/\SqT X.K H p xs/\SqT X.K H q xs/\(∀ z∈xs,cO z=true\/∃ a,z=.ref a)/\Q (.bl true) H):=by
 intro pins s σ H x y v u Q I rx ry h
 obtain ⟨p,q,xs,rfl,rfl,h1,h2,hp,k⟩:=h
 cases rx
 cases ry
 obtain ⟨its,rv,pl,_⟩:=I.tuple h1
 obtain ⟨its2,rv2,pl2,_⟩:=I.tuple h2
 have n1:=rv.length
 have n2:=rv2.length
 have hu:X.A.units < cLine:=by have:=hr.un;lia
 refine SeqAt.eq_tupleAt (e:=fun _=>true) pl pl2 hu (fun j j1 j2=>?_) ?_
 ·have a1:j < its.length:=by simpa using j1
  have a2:j < its2.length:=by simpa using j2
  have r1:=eO rv j (by lia) a1
  have r2:=eO rv2 j (by lia) a2
  have hm:xs[j]'(by lia)∈xs:=CS _
  generalize xs[j]'(by lia)=z at r1 r2 hm
  show SeqAt.EqAt _ _ its[j] its2[j] true
  rcases hp z hm with hf|⟨a,rfl⟩
  ·have:=ml (A:=X.A.in1) (s:=s) r1 r2 hf hf
   rw [lQ hf] at this
   exact this
  ·have h1:its[j]=.ref a:=by revert r1;generalize its[j]=z1;intro r1;cases r1;rfl
   have h2:its2[j]=.ref a:=by revert r2;generalize its2[j]=z2;intro r2;cases r2;rfl
   rw [h1,h2]
   exact SeqAt.EqAt.same _
 ·have e:∀ n:Nat,(List.range n).all (fun _=>true)=true:=fun n=>by rw [CA];intros;rfl
  have e2:(its.toArray.size == its2.toArray.size)=true:=by simp;lia
  rw [e,e2]
  exact ⟨.bl true,H,I,rfl,k⟩
end
end L2
namespace L3
open PySem L2
abbrev iU:Stmt:=bH 136
def FnX (P:Program) (w:World) (K:ZF) (mg:Str->Option Value) (base:Heap) (x:Str) (k:Nat) (ps:List Str) (sp:Sp):Prop:=
 ∃ (f:Addr) (fd:FuncData),mg x=some (.ref f)/\PySem.W.keepIn K (.ref f)=true/\Binds K fd ps []/\FnOk P w K mg base (lR P w) k f fd ps sp
theorem FnX.calm {P:Program} {w:World} {K:ZF} {mg:Str->Option Value} {base:Heap} {x:Str} {k:Nat} {ps:List Str} {sp:Sp} (h:FnX P w K mg base x k ps sp):Fn P w K mg base x k ps (fun vs H Q _=>sp vs H Q E0):=
 let ⟨f,fd,a,b,c,d⟩:=h;⟨f,fd,a,b,c,d.calm⟩
def wm (K:ZF) (C cT:Addr) (Cs:Nat->Addr):Sp:=fun vs H Q _=>∃ (v u z:V) (D:Fm) (p:Addr) (t:Th),vs=[v,u,z]/\TabV C H v D/\pz D/\D.width<=24/\LiO Cs cT p H u t/\nu K H D z/\∀ H',Same H H'->Q (.bl true) H'
section
variable {P:Program} {w:World} {K:ZF} {mg:Str->Option Value} {base:Heap} {C cT:Addr} {Cs:Nat->Addr} {R fR cK fK cB:Addr}
theorem scNoK:am ["_law_table","_law_little_here","_law_thing","_law_found","e"] ["_law_table","_law_little_here","_law_thing"] (aj iU):=bG (by decide +kernel)
theorem vx {f:Addr} {fd:FuncData} (F:Fun K "_law_no_kind" "_law_no_kind" iU f fd) (B:Bl mg) (TX:Xs K mg R fR cK fK cB) (FI:FnX P w K mg base "fits" 6 ["table","kind","many","little"] (nw K C cT Cs cK)):FnOk P w K mg base bu 7 f fd ["_law_table","_law_little_here","_law_thing"] (wm K C cT Cs):=by
 have ZZ:=scNoK
 walk_at "o"
 ·obtain ⟨v,u,z,D,p,t,rfl,hT,hD,hw,lo,nk,q⟩:=h
  obtain ⟨f1,fd1,m1,k1,b1,F1⟩:=FI
  refine ⟨_,af (aB (i:=3) scNoK.nd rfl (Or.inl rfl) dD) (af (xJ (i:=4) rfl (fun pn ES=>(ah (bo (rO F1 hr rfl m1 k1 b1 .nil gq (aa (pv 0) (aa (pv 2) (aa ai (aa (pv 1) ac)))))))) (fun A pn=>(ah (aQ (PW.pt (cm (bf (aA (lP (K:=K) rfl) (by rfl) B.isinstance bL (aa (pv 4) (aa (aX (v:=.ref cK) rfl TX.mK rfl) ac)))) (bU (cf (bf (aA (lP (K:=K) rfl) (by rfl) B.isinstance bL (aa (pv 4) (aa (aX (v:=.ref cB) rfl TX.mB rfl) ac)))))))) (ah (aB (i:=3) scNoK.nd rfl (Or.inl rfl) (aH (aa ak (aa (sY (K:=K) rfl (pv 4) rfl) ac))))) ay))) rfl TX.mR TX.r scNoK.nd rfl rfl) (ah (al (aZ (vt hr) (pv 3) (aH (aa ak (aa (pv 2) ac))) (az _))))),?_⟩
  refine ⟨_,rfl,_,rfl,_,rfl,v,z,4,u,D,p,t,rfl,hT,hD,hw,lo,.inr ⟨nk,fun e d H1 s1 _ xa=>?_⟩⟩
  have hc1:(Value.ref cK::lK R).contains (.ref R)=true:=by simp [List.contains_cons]
  have hc2:(Value.ref cK::lK R).contains (.ref cK)=true:=by simp [List.contains_cons]
  have hc3:(Value.ref cK::lK R).contains (.ref cB)=false:=by
   have n1:=TX.k.ne TX.b (by decide +kernel)
   have n2:=TX.r.ne TX.b (by decide +kernel)
   simp [List.contains_cons,n1.symm,n2.symm]
  refine ⟨e,cK,some d,_,"NoKind",lK R,rfl,xa,TX.k,hc1,?_⟩
  refine ⟨_,rfl,e,cK,some d,true,_,"NoKind",lK R,cK,"NoKind",lK R,rfl,xa,TX.k,TX.k,_,rfl,bj hc2 ?_⟩
  refine ⟨_,rfl,e,cK,some d,true,_,"NoKind",lK R,cB,"BadStep",lK R,rfl,xa,TX.k,TX.b,_,rfl,bj (by rw [hc3];rfl) ?_⟩
  refine ⟨_,rfl,e,cK,d,true,_,"NoKind",lK R,z,rfl,xa,TX.k,TX.na,rfl,bh,fun r nr=>?_⟩
  have s2:=ae (o:=.tup [.str "kind",z]) nr
  have e2:(aC H1 r (.tup [.str "kind",z])) r=some (.tup [.str "kind",z]):=ad
  generalize aC H1 r (.tup [V.str "kind",z])=H2 at *
  refine ⟨_,rfl,_,rfl,bh,fun r3 n3=>?_⟩
  have s3:=ae (o:=.tup [.str "kind",z]) n3
  refine ⟨r,r3,_,rfl,rfl,SqT.of (s3 _ _ e2),SqT.of ad,?_,q _ (s1.trans (s2.trans s3))⟩
  intro x hx
  rcases BW.mp hx with rfl|hx
  ·exact .inl rfl
  ·rw [Cb] at hx
   subst hx
   rcases nk with ⟨fl,_⟩|⟨a,ea,_⟩
   ·exact .inl fl
   ·exact .inr ⟨a,ea⟩
end
abbrev ku:Stmt:=bH 137
def oJ (C cT:Addr) (Cs:Nat->Addr):Sp:=fun vs H Q _=>∃ (l:Addr) (us:List V) (Ws:List (Fm×Kn)) (u x:V) (m:Nat) (p:Addr) (t:Th),vs=[.ref l,u,x,.int m]/\H l=some (.lst us)/\Paired (WoV C H) us Ws/\(∀ W∈Ws,WOk W)/\LiO Cs cT p H u t/\TgV p H x t/\LitT t/\∀ H',Same H H'->Q (.bl true) H'
section
variable {P:Program} {w:World} {K:ZF} {mg:Str->Option Value} {base:Heap} {C cT:Addr} {Cs:Nat->Addr} {R fR cK fK cB:Addr}
theorem scAsked:am ["_law_worlds_here","_law_little_here","_law_told","_law_many","_law_world","_law_inner","_law_found"] ["_law_worlds_here","_law_little_here","_law_told","_law_many"] (aj ku):=bG (by decide +kernel)
theorem pI {f:Addr} {fd:FuncData} (F:Fun K "_law_asked" "_law_asked" ku f fd) (B:Bl mg) (FI:Fn P w K mg base "fits" 6 ["table","kind","many","little"] (fun vs H Q _=>nw K C cT Cs cK vs H Q E0)) (DUE:Fn P w K mg base "_law_due" 2 ["_law_told","_law_world","_law_many"] (wl C)):FnOk P w K mg base bu 7 f fd ["_law_worlds_here","_law_little_here","_law_told","_law_many"] (oJ C cT Cs):=by
 have ZZ:=scAsked
 walk_at "o"
 ·obtain ⟨l,us,Ws,u,x,m,p,t,rfl,el,pw,wk,lo,tv,lt,q⟩:=h
  have hr2:Room 2 _:=hr.mono (by decide)
  refine ⟨_,af (cH PassesOwn.never rfl (cL (pv 0)) (aI (i:=4) scAsked.nd rfl (Or.inl rfl)) (ah (cH PassesOwn.never rfl (cL (aL (aa (pv 3) (aa ai (aa (pv 3) ac))))) (aI (i:=5) scAsked.nd rfl (Or.inl rfl)) (af (aB (i:=6) scAsked.nd rfl (Or.inl rfl) (aq FI hr rfl (aa (au av (pv 4) ai (fun _ _=>rfl)) (aa (au av (pv 4) ai (fun _ _=>rfl)) (aa (pv 5) (aa (pv 1) ac)))))) (ah (aQ (PW.pt (cA (cf (bf (aA (cJ (T:="bool")) (by rfl) B.isinstance bL (aa (pv 6) (aa (pe_ty (by rfl) B.bool fH) ac))))) (bY (ax nF (pv 6) (aq DUE hr2 rfl (aa (pv 2) (aa (pv 4) (aa (pv 5) ac)))) (az _))))) (ah (al df)) ay)))))) (ah (al df)),?_⟩
  refine ⟨_,rfl,l,rfl,⟨_,SqL.of el⟩,?_⟩
  refine dU (K:=K) (a:=l) (xs:=us) (fun i σ H'=>∃ v4 v5 v6:Option V,σ=[some (.ref l),some u,some x,some (.int (m:Nat)),v4,v5,v6]/\Same H H') ⟨_,_,_,rfl,Same.refl _⟩ (fun i σ H' _ ⟨_,_,_,_,s'⟩=>SqL.of (s' _ _ el)) ?_ ?_
  ·rintro i v σ H1 hv ⟨v4,v5,v6,rfl,s1⟩
   obtain ⟨W,hW,wo⟩:=gN pw hv
   have ok:=wk W (Ca hW)
   refine ⟨_,rfl,_,rfl,bh,fun l2 n2=>?_⟩
   have s2:=ae (o:=.lst [.int m,.int 8,.int m]) n2
   have e2:(aC H1 l2 (.lst [.int m,.int 8,.int m])) l2=some (.lst [.int m,.int 8,.int m]):=ad
   generalize aC H1 l2 (.lst [V.int m,.int 8,.int m])=H2 at *
   refine ⟨l2,rfl,⟨_,SqL.of e2⟩,?_⟩
   refine dU (K:=K) (a:=l2) (xs:=[.int m,.int 8,.int m]) (fun i σ H'=>∃ v5 v6:Option V,σ=[some (.ref l),some u,some x,some (.int (m:Nat)),some v,v5,v6]/\Same H2 H') ⟨_,_,rfl,Same.refl _⟩ (fun i σ H' _ ⟨_,_,_,s'⟩=>SqL.of (s' _ _ e2)) ?_ ?_
   ·rintro j y σ H3 hy ⟨v5,v6,rfl,s3⟩
    obtain ⟨n,rfl⟩:∃ n:Nat,y=.int n:=by
     have:=Ca hy
     simp only [BW,Ch,or_false] at this
     rcases this with rfl|rfl|rfl
     ·exact ⟨m,rfl⟩
     ·exact ⟨8,rfl⟩
     ·exact ⟨m,rfl⟩
    have s03:=s1.trans (s2.trans s3)
    have wo3:=wo.same s03
    obtain ⟨a,tv0,ls,rfl,ea,tb,els⟩:=id wo3
    refine ⟨_,rfl,a,_,_,_,rfl,rfl,SqT.of ea,bW,_,rfl,a,_,_,_,rfl,rfl,SqT.of ea,rfl,_,rfl,_,rfl,tv0,_,n,u,W.1,p,t,rfl,tb,ok.sh.fm,ok.sh.w24,lo.same s03,.inl ⟨W.2,rfl,ok.km,fun H4 s4=>?_⟩⟩
    have s04:=s03.trans s4
    refine ⟨_,rfl,_,_,true,rfl,.bl _,rfl,_,rfl,bz ?_⟩
    refine ⟨_,rfl,_,rfl,_,rfl,_,rfl,x,_,n,p,t,W,rfl,tv.same s04,lt,wo.same s04,ok,fun H5 s5=>?_⟩
    refine ⟨rfl,_,rfl,?_⟩
    rw [decide_eq_true rfl]
    exact bz ⟨_,_,rfl,s3.trans (s4.trans s5)⟩
   ·rintro σ H3 ⟨v5,v6,rfl,s3⟩
    exact ⟨_,_,_,rfl,s1.trans (s2.trans s3)⟩
  ·rintro σ H1 ⟨v4,v5,v6,rfl,s1⟩
   exact q _ s1
end
end L3
namespace L2
open PySem PySem.Spec PyProof.Rows
theorem pJ:typeLookup (.type "list_reverseiterator") "__len__"=pure none:=by rw [typeLookup_type,builtinLookup_eq_fast];kernel_rfl
theorem sZ:typeLookup (.type "list_reverseiterator") "__length_hint__"=pure (some (.builtin "list_reverseiterator.__length_hint__")):=by rw [typeLookup_type,builtinLookup_eq_fast];kernel_rfl
section
variable {prog:Program} {w:World} {A:Around} {E:Value->Shared->Prop} {s:Shared}
theorem tj {r:Addr} {Q:Bool->Shared->Prop} (hT:s.TypeIs (.ref r) "list_reverseiterator") (h:Q false s):wpAny (model prog w) A (Builtin.List.listLengthHint (.ref r)) Q E s:=by
 unfold Builtin.List.listLengthHint
 refine wpAny_bind (wpAny_specialOf hT pJ ?_)
 show wpAny _ A (specialOf (Value.ref r) (Str.ofString "__length_hint__") >>= _) _ _ _
 refine wpAny_bind (wpAny_specialOf hT sZ ?_)
 generalize hid:("list_reverseiterator.__length_hint__":String)=id0
 wp_delta
 rw [show splitId id0=some ("list_reverseiterator","__length_hint__") from by subst hid;decide +kernel]
 subst hid
 refine wpAny_bind (wpAny_isInstance (b:=true) hT (by rw [isSubtype_type];kernel_rfl) ?_)
 exact wpAny_pure h
theorem gx {Q:Value->Shared->Prop} {it l:Addr} {items:Array Value} (hh:A.handled=none) (hit:s.heap.IsRevIter it l ((items.size:Int) - 1)) (hl:s.heap.IsList l items) (hne:l≠it) (hlen:items.size<=2 ^ 24)
  (hQ:∀ h' tk acc' c',(∀ b o,b≠it->s.heap.get? b=some o->h'.get? b=some o)->h'.get? s.heap.objs.size=some { cls:=.type "list",dict:=none,data:=.seq acc' c',slots:=#[] }->ItemsOf (fun i v=>items[items.size - 1 - i]?=some v) acc' items.size->Q (.ref s.heap.objs.size) { s with heap:=h',toks:=tk }) :
  wpAny (model prog w) A (call (.type "list") [.ref it]) Q E s:=by
 refine callType_codes (Q₁:=fun obj s₁=>obj=.ref s.heap.objs.size/\s₁={ s with heap:=s.heap.push { cls:=.type "list",data:=.seq #[] } }) F.called_list (F.typeCall_list_1 _) F.entry_list_init
  (code_list_new _ ⟨rfl,rfl⟩) fun obj s₁ h₁=>?_
 obtain ⟨rfl,rfl⟩:=h₁
 have ilt:it < s.heap.objs.size:=by obtain ⟨o,e,_⟩:=hit;exact BP e
 have llt:l < s.heap.objs.size:=by obtain ⟨o,e,_⟩:=hl;exact BP e
 have hS:(s.heap.push { cls:=.type "list",data:=.seq #[] }).get? s.heap.objs.size=some { cls:=.type "list",data:=.seq #[] }:=B0 _ rfl
 refine ⟨⟨_,hS,rfl⟩,F.args_list_init_2 _ _,?_⟩
 generalize hSe:s.heap.objs.size=S at *
 have hSi:S≠it:=Dk ilt
 have hSl:S≠l:=Dk llt
 show wpAny _ _ (do let old <-Builtin.List.listItems (.ref S);Builtin.List.listUpdate (.ref S) (fun _=>#[]);letGo old.toList.reverse;Builtin.List.listExtendWith (.ref S) (.ref it) .none) _ _ _
 refine wpAny_bind ?_
 unfold Builtin.List.listItems
 refine wpAny_bind (wpAny_seqItems hS rfl (wpAny_pure ?_))
 show wpAny _ _ (updateSeq S (fun _=>#[]) >>= fun _=>letGo (#[]:Array Value).toList.reverse >>= fun _=>Builtin.List.listExtendWith (.ref S) (.ref it) .none) _ _ _
 refine wpAny_bind (wpAny_updateSeq hS rfl ?_)
 have hS₂:=Heap.get?_update_self (Obj.mapSeq (fun _=>(#[]:Array Value))) hS rfl
 have oth:∀ b o,b≠S->s.heap.get? b=some o->((s.heap.push { cls:=.type "list",data:=.seq #[] }).update S (Obj.mapSeq (fun _=>(#[]:Array Value)))).get? b=some o:=
  fun b o hb e=>(Heap.get?_update_other _ _ (Ne.symm hb)).trans (BM _ e)
 refine wpAny_bind (wpAny_letGo ?_)
 generalize hg:(s.heap.push { cls:=.type "list",data:=.seq #[] }).update S (Obj.mapSeq (fun _=>(#[]:Array Value)))=g at *
 have hit2:g.IsRevIter it l ((items.size:Int) - 1):=hit.at fun o e=>oth it o hSi.symm e
 have hl2:g.IsList l items:=hl.at fun o e=>oth l o hSl.symm e
 have W:=(Walks.listRev (prog:=prog) (w:=w) (A:=A.in1.in1) hh it l hne items).toS
 unfold Builtin.List.listExtendWith
 refine wpAny_bind (wpAny_typeOf (T:="list_reverseiterator") (by obtain ⟨o,e,c,_⟩:=hit2;exact ⟨o,e,c⟩) ?_)
 have h1:Builtin.List.listSameRef (.ref S) (.ref it)=false:=by simp [Builtin.List.listSameRef,hSi]
 have h2:(Value.type "list_reverseiterator" == Value.type "list")=false:=by decide
 have h3:(Value.type "list_reverseiterator" == Value.type "tuple")=false:=by decide
 simp only [h1,h2,h3,Bool.or_false,Bool.false_eq_true,if_false]
 refine wpAny_bind (wpAny_pyIter_revIter hit2 ?_)
 refine wpAny_bind (wpAny_holding (tj (by obtain ⟨o,e,c,_⟩:=hit2;exact ⟨o,e,c⟩) ?_))
 rw [if_neg (by decide)]
 refine wpAny_pure ⟨plainId_quiet F.plain_extend_loop _,?_⟩
 obtain ⟨c0,hS3⟩:∃ c0,g.get? S=some { cls:=.type "list",data:=.seq #[] c0 }:=⟨_,hS₂⟩
 have ky:0<=items.size/\g.IsRevIter it l ((items.size:Int) - 1 - ((0:Nat):Int))/\g.IsList l items:=⟨Cy _,by simpa using hit2,hl2⟩
 refine codeAny_extend_loopS W (by rw [sizeLine_eq];lia) S (by simp [hSi,hSl]) .none items.size 0 { s with heap:=g } #[] c0 rfl (Cy _) ky hS3 (ItemsOf.nil _) fun s' acc' c' hm hS' hacc=>?_
 rw [Moved.eq_with hm]
 refine ⟨rfl,hQ s'.heap s'.toks acc' c' (fun b o hb e=>hm.heap b o (fun hmem=>?_) (oth b o (fun z=>?_) e)) hS' hacc⟩
 ·rcases BW.mp hmem with e'|hmem
  ·exact absurd (BP e) (by rw [e',hSe];exact CG _)
  ·exact hb (Cb.mp hmem)
 ·exact absurd (BP e) (by rw [z,hSe];exact CG _)
end
section
variable {X:Cx}
inductive jB (K:ZF) (Q:VK) (vs:List V) (H1:Hp):Prop
 | mk (l:Addr) (xs:List V):vs=[.ref l]->SqL K H1 l xs->xs.length<=100000->(∀ D,H1 D=none->Q (.ref D) (aC H1 D (.lst xs.reverse)))->jB K Q vs H1
def tm (K:ZF) (ta:TA):TE:=fun σ H Q=>ta σ H fun vs H1=>jB K Q vs H1
theorem nA {a:Expr} {ta:TA} {p p2 pos pos2:Pos} (hc:X.calm=true) (hgl:Gl X "list") (hml:X.mg "list"=none) (hg:Gl X "reversed") (hm:X.mg "reversed"=none) (ha:PA X [a] ta) (hs:starEach [a] X.env=[(false,eval a X.env)]:=by rfl)
  (hs2:starEach [.Call (.Name "reversed" p2) [a] [] pos2] X.env=[(false,eval (.Call (.Name "reversed" p2) [a] [] pos2) X.env)]:=by rfl):PE X (.Call (.Name "list" p) [.Call (.Name "reversed" p2) [a] [] pos2] [] pos) (tm X.K ta):=by
 refine ⟨fun pins s σ H Q I h=>?_⟩
 refine wpAny_Call_Name_kw (dS I hgl hml (by decide +kernel:bootBuiltins "list"=some (.type "list")) ?_ (by decide) (by decide))
 refine CD ?_ hs2 rfl
 rw [hs2]
 show wpAny _ _ (spliced ((false,eval (.Call (.Name "reversed" p2) [a] [] pos2) X.env)::[])) _ _ s
 refine Calls.spliced_cons ?_
 refine wpAny_Call_Name_kw (dS I hg hm PyProof.Rows.boot_reversed (CD (bF (ha pos2 pins s σ H _ I h) fun us s1 ⟨vs,H1,I1,r1,q1⟩=>?_) hs rfl) (by decide) (by decide))
 obtain ⟨l,xs,e,hx,hz,q⟩:=q1
 subst e
 obtain ⟨u,rfl,ru⟩:=Vals.one r1
 cases ru
 obtain ⟨its,rv,p1,z1⟩:=I1.list hx
 have ln:=rv.length
 refine call_reversed_list p1.isList (Calls.spliced_nil ?_)
 have lne:l≠s1.heap.objs.size:=by
  obtain ⟨o,e,_⟩:=p1.isList
  exact Ce (BP e)
 refine gx (s:={ s1 with heap:=s1.heap.push (revObj l ((its.toArray.size:Int) - 1)) }) (it:=s1.heap.objs.size) (l:=l) (items:=its.toArray) (I.ok.hd hc) ⟨_,B0 _ rfl,rfl,rfl⟩ (p1.isList.at fun o e=>BM _ e) lne (by rw [B8];lia) fun h' tk acc c k o it=>?_
 have old:∀ b o,s1.heap.get? b=some o->h'.get? b=some o:=fun b o e=>k b o (Ce (BP e)) (BM _ e)
 have vv:Vals xs.reverse acc.toList:=by
  have ea:acc.toList=its.reverse:=by
   refine List.ext_getElem? fun i=>?_
   have hsz:=it.1
   have hsz':acc.size=its.length:=by simpa using hsz
   by_cases hi:i < its.length
   ·have hv:acc[i]?=some (acc[i]'(by lia)):=Array.getElem?_eq_getElem (by lia)
    have h2:=it.2 i _ hv
    have h3:its[its.length - 1 - i]?=some (acc[i]'(by lia)):=by simpa using h2
    rw [List.getElem?_reverse hi,h3]
    simpa using hv
   ·rw [List.getElem?_eq_none (by rw [C8 (xs:=acc)];lia),List.getElem?_eq_none (by rw [List.length_reverse];lia)]
  rw [ea]
  exact rv.reverse
 refine ⟨.ref _,_,I1.laid (t':=tk) (h':=h') (o:=.lst xs.reverse) (a:=(s1.heap.push (revObj l ((its.toArray.size:Int) - 1))).objs.size) old (by rw [size_push'];exact Dm _) ?_,rfl,q _ (I1.hok.fresh (by rw [size_push'];exact Dm _))⟩
 exact ⟨by rw [List.length_reverse];lia,acc.toList,c,vv,by simpa using o⟩
end
end L2
namespace L3
open PySem L2
mutual
def ft:Th->Nat
 | .tup l=>jb l+1
 | .lst _=>100
 | .dct=>100
 | _=>0
def jb:List Th->Nat
 | []=>0
 | t::r=>max (ft t) (jb r)
end
theorem pget2 {p:Addr} {H:Hp}:∀ {xs:List V} {ts:List Th},TgA p H xs ts->∀ {ys:List V},TgA p H ys ts->∀ {j:Nat} (h1:j < xs.length) (h2:j < ys.length),∃ t∈ts,TgV p H xs[j] t/\TgV p H ys[j] t
 | _,_,.cons h t,_,.cons h' t',0,_,_=>⟨_,BQ,h,h'⟩
 | _,_,.cons h t,_,.cons h' t',j+1,h1,h2=>let ⟨z,m,a,b⟩:=pget2 t t' (j:=j) (by simpa using h1) (by simpa using h2);⟨z,BV _ m,a,b⟩
theorem dpL_mem:∀ {l:List Th} {t:Th},t∈l->ft t<=jb l
 | t::r,u,h=>by
  rcases BW.mp h with rfl|h
  ·exact Nat.le_max_left _ _
  ·exact Cm (dpL_mem h) (Nat.le_max_right _ _)
section
variable {X:Cx} {pins:List (Addr×Obj)} {σ:St} {H:Hp} {s:Shared}
variable {p a b:Addr}
theorem tup_at (I:Inv X pins σ H s) {xs ys:List V} {ts:List Th} {A:Around} (e1:H a=some (.tup xs)) (e2:H b=some (.tup ys)) (t1:TgA p H xs ts) (t2:TgA p H ys ts)
  (h:∀ t∈ts,∀ v w c d,TgV p H v t->TgV p H w t->RelV v c->RelV w d->SeqAt.EqAt A.in1 s c d true) :
  ∃ its its2:List Value,s.heap.IsTuple a its.toArray/\s.heap.IsTuple b its2.toArray/\its.length=its2.length/\∀ j (h1:j < its.toArray.size) (h2:j < its2.toArray.size),SeqAt.EqAt A.in1 s its.toArray[j] its2.toArray[j] ((fun _=>true) j):=by
 obtain ⟨its,rv,pl,_⟩:=I.tuple (SqT.of (K:=X.K) e1)
 obtain ⟨its2,rv2,pl2,_⟩:=I.tuple (SqT.of (K:=X.K) e2)
 have n1:=rv.length
 have n2:=rv2.length
 have l1:=t1.length
 have l2:=t2.length
 refine ⟨its,its2,pl,pl2,by lia,fun j j1 j2=>?_⟩
 have a1:j < its.length:=by simpa using j1
 have a2:j < its2.length:=by simpa using j2
 obtain ⟨t,ht,tv,tw⟩:=pget2 t1 t2 (j:=j) (by lia) (by lia)
 exact h t ht _ _ _ _ tv tw (eO rv j (by lia) a1) (eO rv2 j (by lia) a2)
theorem all_true (n:Nat):(List.range n).all (fun _=>true)=true:=by rw [CA];intros;rfl
theorem tg_eqAt (I:Inv X pins σ H s):∀ (n:Nat) (t:Th),ft t<=n->n<=50->∀ (A:Around) (v w:V) (c d:Value),A.units+n < cLine->TgV p H v t->TgV p H w t->RelV v c->RelV w d->SeqAt.EqAt A s c d true:=by
 intro n
 induction n with
 | zero=>
  intro t ht _ A v w c d hu tv tw rv rw_
  have fl:v=w/\cO v=true:=by
   cases tv with
   | non=>cases tw;exact ⟨rfl,rfl⟩
   | int=>cases tw;exact ⟨rfl,rfl⟩
   | str=>cases tw;exact ⟨rfl,rfl⟩
   | tup e ta=>simp [ft] at ht
   | lst=>simp [ft] at ht
   | dct=>simp [ft] at ht
  obtain ⟨rfl,fl⟩:=fl
  have:=ml (A:=A) (s:=s) rv rw_ fl fl
  rwa [lQ fl] at this
 | succ n ih=>
  intro t ht hn A v w c d hu tv tw rv rw_
  by_cases h0:ft t<=n
  ·exact ih t h0 (by lia) A v w c d (by lia) tv tw rv rw_
  cases tv with
  | non=>simp [ft] at h0
  | int=>simp [ft] at h0
  | str=>simp [ft] at h0
  | lst=>simp [ft] at ht;lia
  | dct=>simp [ft] at ht;lia
  | @tup a xs ts e ta=>
   cases tw with
   | @tup b ys _ e2 ta2=>
    cases rv
    cases rw_
    by_cases hab:a=b
    ·subst hab
     exact SeqAt.EqAt.same _
    have hd:jb ts<=n:=by simpa [ft] using ht
    obtain ⟨its,its2,p1,p2,hl,hj⟩:=tup_at I (A:=A) e e2 ta ta2 fun t ht v w c d a b r q=>ih t (Cm (dpL_mem ht) hd) (by lia) A.in1 v w c d (by show A.units+1+n < cLine;lia) a b r q
    have:=SeqAt.RcAt.tuples (A:=A) (e:=fun _=>true) p1 p2 (by lia) hj
    rw [all_true,show (its.toArray.size == its2.toArray.size)=true from by simp [hl]] at this
    exact SeqAt.EqAt.of_refs hab this
theorem op_neTg {k:Nat} (hr:Room k X.A):dF X (compareOp .NotEq) (fun x y H Q=>∃ p ts,TgV p H x (.tup ts)/\TgV p H y (.tup ts)/\jb ts<=40/\Q (.bl false) H):=by
 intro pins s σ H x y v u Q I rx ry h
 obtain ⟨p,ts,tx,ty,hd,q⟩:=h
 have hu:X.A.units+200 < cLine:=by have:=hr.un;lia
 cases tx with
 | @tup a xs _ e ta=>
  cases ty with
  | @tup b ys _ e2 ta2=>
   cases rx
   cases ry
   obtain ⟨its,its2,p1,p2,hl,hj⟩:=tup_at I (A:=X.A) e e2 ta ta2 fun t ht v w c d a b r q=>tg_eqAt I 40 t (Cm (dpL_mem ht) hd) (by lia) X.A.in1 v w c d (by show X.A.units+1+40 < cLine;lia) a b r q
   have:=SeqAt.RcNeAt.tuples (A:=X.A) (e:=fun _=>true) p1 p2 (by lia) hj
   rw [all_true,show (its.toArray.size == its2.toArray.size)=true from by simp [hl]] at this
   exact this X.prog X.w X.xe _ ⟨.bl false,H,I,rfl,q⟩
end
theorem dp_sel {t:Th} (h:SelT t):ft t<=1:=by cases h<;>simp [ft,jb]
theorem dp_src {t:Th} (h:SrcT t):ft t<=1:=by cases h<;>simp [ft,jb]
theorem dp_end {t:Th} (h:EndT t):ft t<=1:=by cases h<;>simp [ft,jb]
theorem dp_on {t:Th} (h:OnT t):ft t<=2:=by
 cases h with
 | done he=>have:=dp_end he;simp [ft,jb];lia
 | _=>simp [ft,jb]
theorem dp_stp {t:Th} (h:StpT t):ft t<=2:=by
 cases h with
 | get k _ hs=>have:=dp_sel hs;simp [ft,jb];lia
 | ask k _ hs=>have:=dp_sel hs;simp [ft,jb];lia
 | cell k _ hs=>have:=dp_src hs;simp [ft,jb];lia
 | two k _ _ ha hb=>have:=dp_src ha;have:=dp_src hb;simp [ft,jb];lia
 | put hs ha=>have:=dp_sel hs;have:=dp_src ha;simp [ft,jb];lia
 | tell hs ha=>have:=dp_sel hs;have:=dp_src ha;simp [ft,jb];lia
 | store ha hb=>have:=dp_src ha;have:=dp_src hb;simp [ft,jb];lia
theorem dpL_le {n:Nat}:∀ {l:List Th},(∀ t∈l,ft t<=n)->jb l<=n
 | [],_=>Cy _
 | t::r,h=>Nat.max_le.mpr ⟨h t BQ,dpL_le fun u hu=>h u (BV _ hu)⟩
theorem LitT.dp {t:Th} (h:LitT t):∃ ts,t=.tup ts/\jb ts<=40:=by
 obtain ⟨ss,on,rfl,hs,ho,_⟩:=h.ex
 have h1:jb ss<=2:=dpL_le fun t ht=>dp_stp (hs t ht)
 have h2:=dp_on ho
 exact ⟨_,rfl,by simp [jb,ft];lia⟩
theorem Paired.app' {α β:Type} {F:α->β->Prop}:∀ {xs:List α} {ys:List β},Paired F xs ys->∀ {xs2:List α} {ys2:List β},Paired F xs2 ys2->Paired F (xs++xs2) (ys++ys2)
 | _,_,.nil,_,_,h=>h
 | _,_,.cons h t,_,_,h2=>.cons h (Paired.app' t h2)
theorem Paired.rev' {α β:Type} {F:α->β->Prop}:∀ {xs:List α} {ys:List β},Paired F xs ys->Paired F xs.reverse ys.reverse
 | _,_,.nil=>.nil
 | _,_,.cons h t=>by
  rw [List.reverse_cons,List.reverse_cons]
  exact Paired.app' (Paired.rev' t) (.cons h .nil)
theorem WoV.but {C p:Addr} {H H':Hp} {v:V} {W:Fm×Kn} (g:Strm H p) (b:But p H H') (h:WoV C H v W):WoV C H' v W:=by
 obtain ⟨x,y,z,gp⟩:=g
 have ne:∀ {a:Addr} {o:HO},H a=some o->o≠qF x y z->H' a=some o:=fun ha hn=>b _ _ ha fun e=>by rw [e,gp] at ha;exact hn (Cf ha).symm
 obtain ⟨a,tv,ls,e,ea,tb,els⟩:=h
 obtain ⟨a2,dx,pp,pm,pn,pk,us,e2,h1,h2,h3,h4,h5,h6⟩:=tb
 refine ⟨a,tv,ls,e,ne ea (fun z=>by cases z),⟨a2,dx,pp,pm,pn,pk,us,e2,ne h1 (fun z=>by cases z),ne h2 (fun z=>by cases z),ne h3 (fun z=>by cases z),ne h4 (fun z=>by cases z),ne h5 (fun z=>by cases z),cq (fun _ _ h=>KindV.kt (fun b' xs e=>ne e (fun z=>by cases z)) h) h6⟩,ne els fun z=>?_⟩
 cases hl:W.2.fs.map (·.2) with
 | nil=>rw [hl] at z;cases z
 | cons a r=>rw [hl] at z;cases z
theorem noKd8 {K:ZF} {H:Hp} {D:Fm} (kn:D.kinds.map Kn.name=(["qq","zz"]:List Str)) {t1 l2 d3:Addr} (h1:H t1=some (.tup [.str "qq"])) (h2:H l2=some (.lst [.str "qq"])) (h3:H d3=some (.dK [])) {z:V} (hz:z∈[V.non,.int 0,.str "",.str "q",.str "va",.ref t1,.ref l2,.ref d3]):nu K H D z:=by
 simp only [BW,Ch,or_false] at hz
 have fl:∀ {y:V},cO y=true->eQ y (ap ["qq","zz"])=false->nu K H D y:=fun a b=>.inl ⟨a,by rw [kn];exact b⟩
 rcases hz with rfl|rfl|rfl|rfl|rfl|rfl|rfl|rfl
 ·exact fl rfl (by decide +kernel)
 ·exact fl rfl (by decide +kernel)
 ·exact fl rfl (by decide +kernel)
 ·exact fl rfl (by decide +kernel)
 ·exact fl rfl (by decide +kernel)
 ·exact .inr ⟨_,rfl,.inr (.inl ⟨_,SqT.of h1⟩)⟩
 ·exact .inr ⟨_,rfl,.inl ⟨_,SqL.of h2⟩⟩
 ·exact .inr ⟨_,rfl,.inr (.inr ⟨_,h3⟩)⟩
def spLaw (K:ZF):Sp:=fun vs H Q _=>∃ (a:Addr) (ns:List Int),vs=[.ref a]/\SqL K H a (ns.map V.int)/\ns.length<=63/\∀ H',Q (.bl true) H'
section
variable {P:Program} {w:World} {K:ZF} {mg:Str->Option Value} {base:Heap} {C cT:Addr} {Cs:Nat->Addr}
theorem scLaw:am ["_law_script","_law_stream_here","_law_worlds_here","_law_k","_law_many","_law_told","_law_little_here","_law_thing"] ["_law_script"] (aj o8):=bG (by decide +kernel)
theorem ok_law {f:Addr} {fd:FuncData} (F:Fun K "law" "law" o8 f fd) (B:Bl mg) (RV:mg "reversed"=none) (L:Lc K cT) (CL:Fn P w K mg base "_law_cell" 1 ["_law_script","_law_k"] (mE K)) (ST:Fn P w K mg base "_law_stream" 1 ["_law_cell_here"] iC) (TK':Fn P w K mg base "_law_take" 1 ["_law_stream_here","_law_many"] cU)
  (WS:Fn P w K mg base "_law_worlds" 9 ["_law_stream_here"] (Ak C)) (LI:Fn P w K mg base "_law_little" 5 ["_law_stream_here","_law_world","_law_many"] (wg C)) (LOF:Fn P w K mg base "little_of" 7 ["told"] (vW Cs cT)) (AS:Fn P w K mg base "_law_asked" 7 ["_law_worlds_here","_law_little_here","_law_told","_law_many"] (oJ C cT Cs))
  (NO:Fn P w K mg base "_law_no_kind" 7 ["_law_table","_law_little_here","_law_thing"] (wm K C cT Cs)) (TO:dB P w K mg base cT "told" 2 ["self"] (rW Cs cT)):FnOk P w K mg base bu 10 f fd ["_law_script"] (spLaw K):=by
 have ZZ:=scLaw
 walk_at "o"
 ·obtain ⟨l,ns,rfl,hS,hl,q⟩:=h
  have sz:(100000:Nat)<=sizeLine:=by decide
  have hr1:Room 1 _:=hr.mono (by decide)
  have hr2:Room 2 _:=hr.mono (by decide)
  have hr5:Room 5 _:=hr.mono (by decide)
  have hr7:Room 7 _:=hr.mono (by decide)
  refine ⟨_,af (aB (i:=1) scLaw.nd rfl (Or.inl rfl) (aq ST hr1 rfl (aa (aq CL hr1 rfl (aa (pv 0) (aa ai ac))) ac))) (af (aB (i:=2) scLaw.nd rfl (Or.inl rfl) (bi dI (aq WS hr rfl (aa (pv 1) ac)) (aq WS hr rfl (aa (pv 1) ac)))) (af (cH PassesOwn.never rfl (oQ rfl B.range (aa ai (aa (aA (jg rfl) (by rfl) B.max PyProof.Rows.boot_max (aa ai (aa (aA (oS rfl) (by rfl) B.min PyProof.Rows.boot_min (aa (aA aT (by rfl) B.len B7 (aa (pv 0) ac)) (aa ai ac))) ac))) ac))) (aI (i:=3) scLaw.nd rfl (Or.inl rfl)) (af (aB (i:=1) scLaw.nd rfl (Or.inl rfl) (aq ST hr1 rfl (aa (aq CL hr1 rfl (aa (pv 0) (aa (pv 3) ac))) ac))) (af (aB (i:=4) scLaw.nd rfl (Or.inl rfl) (bi cv ai (aq TK' hr1 rfl (aa (pv 1) (aa ai ac))))) (af (aB (i:=5) scLaw.nd rfl (Or.inl rfl) (aq LI hr5 rfl (aa (pv 1) (aa (au aY (pv 2) (aq TK' hr1 rfl (aa (pv 1) (aa ai ac))) (fun _ _=>rfl)) (aa (pv 4) ac))))) (af (aB (i:=6) scLaw.nd rfl (Or.inl rfl) (aq LOF hr7 rfl (aa (pv 5) ac))) (af (aQ (PW.pt (cA (cf (bf (aq AS hr7 rfl (aa (pv 2) (aa (pv 6) (aa (pv 5) (aa (pv 4) ac))))))) (bY (cf (bf (aq AS hr7 rfl (aa (nA rfl (by rfl) B.list (by rfl) RV (aa (pv 2) ac)) (aa (pv 6) (aa (pv 5) (aa (pv 4) ac)))))))))) (ah (al df)) ay) (af (aB (i:=7) scLaw.nd rfl (Or.inl rfl) (au aY (aL (aa dD (aa ai (aa ak (aa ak (aa ak (aa (aH (aa ak ac)) (aa (aL (aa ak ac)) (aa ir ac))))))))) (aq TK' hr1 rfl (aa (pv 1) (aa ai ac))) (fun _ _=>rfl))) (ah (aQ (PW.pt (cA (cf (bf (aq NO hr7 rfl (aa (au av (au aY (pv 2) ai (fun _ _=>rfl)) ai (fun _ _=>rfl)) (aa (pv 6) (aa (pv 7) ac)))))) (bY (ax (op_neTg hr) (eJ (P:=P) (w:=w) (K:=K) (mg:=mg) (base:=base) (k:=2) rfl rfl rfl rfl rfl hr2 (pv 6)) (pv 5) (az _))))) (ah (al df)) ay))))))))) (ah (al df)))),?_⟩
  refine ⟨_,rfl,l,ns,0,rfl,hS,by lia,fun c=>⟨c,rfl,fun p H2 np s2 g2=>?_⟩⟩
  refine ⟨_,rfl,p,H,rfl,g2,s2,np,fun l1 us1 Ws1 H3 g3 sb3 b3 nl1 e1 pw1 ln1 ok1=>?_⟩
  refine ⟨_,rfl,p,H,rfl,g3,sb3,np,fun l2 us2 Ws2 H4 g4 sb4 b4 nl2 e2 pw2 ln2 ok2=>?_⟩
  have lu1:=pw1.length
  have lu2:=pw2.length
  refine ⟨l1,l2,us1,us2,rfl,rfl,b4 _ _ e1 (g2.ne nl1).symm,e2,by lia,fun lw nlw=>?_⟩
  generalize zz:aC H4 lw _=H5
  have s5:Same H4 H5:=zz ▸ ae nlw
  have elw:H5 lw=some (.lst (us1++us2)):=zz ▸ ad
  clear zz
  have pw:Paired (WoV C H5) (us1++us2) (Ws1++Ws2):=Paired.app' (L2.Paired.mapP pw1 fun _ _ h=>(h.but g3 b4).same s5) (L2.Paired.mapP pw2 fun _ _ h=>h.same s5)
  have okw:∀ W∈Ws1++Ws2,WOk W:=fun W h=>(Cp.mp h).elim (ok1 W) (ok2 W)
  have lus:(us1++us2).length=4:=by rw [BN];lia
  generalize us1++us2=us at *
  generalize Ws1++Ws2=Ws at *
  have hS5:=(sb4.trans s5).seq hS
  refine ⟨_,rfl,l,_,rfl,.inl hS5,_,_,rfl,_,_,rfl,_,_,rfl,⟨by decide,by decide,?_,?_⟩,?_⟩
  ·split<;>(try split)<;>lia
  ·rw [BJ];split<;>(try split)<;>lia
  refine oR (lo:=1) (fun i σ H'=>∃ v1 v3 v4 v5 v6 v7:Option V,σ=[some (.ref l),v1,some (.ref lw),v3,v4,v5,v6,v7]/\Same H5 H') ⟨_,_,_,_,_,_,rfl,Same.refl _⟩ ?_ ?_
  ·rintro i σ H5' hi ⟨v1,v3,v4,v5,v6,v7,rfl,s5'⟩
   refine ⟨_,rfl,_,rfl,l,ns,1+(i:Int),rfl,s5'.seq hS5,by lia,fun c=>⟨c,rfl,fun p' H6 np' s6 g6=>?_⟩⟩
   refine ⟨_,rfl,p',7,rfl,g6,by decide,by decide,fun r7 H7 l7 g7 b7=>⟨_,_,rfl,rfl,?_⟩⟩
   have em:((2:Int)+(r7:Int))=((2+r7:Nat):Int):=by lia
   rw [em]
   obtain ⟨m,hm⟩:∃ m:Nat,2+r7=m:=⟨_,rfl⟩
   rw [hm]
   have pw5:Paired (WoV C H5') us Ws:=L2.Paired.mapP pw fun _ _ h=>h.same s5'
   refine ⟨_,rfl,_,rfl,_,rfl,p',4,rfl,g7,by decide,by decide,fun r8 H8 l8 g8 b8=>?_⟩
   have s58:Same H5' H8:=c8 np' s6 (b7.trans b8)
   have hx:us[r8]?=some us[r8]:=BZ (by lia)
   obtain ⟨W,hW,wo⟩:=gN pw5 hx
   refine ⟨lw,us,_,_,rfl,rfl,SqL.of (s58 _ _ (s5' _ _ elw)),aJ hx,_,rfl,p',_,m,H5',W,rfl,⟨g8,s58,np',wo,okw W (Ca hW)⟩,by lia,by lia,fun u t H9 tv lt g9 b9=>?_⟩
   obtain ⟨ts,rfl,hdp⟩:=lt.dp
   have s59:Same H5' H9:=c8 np' s58 b9
   refine ⟨_,rfl,p',u,_,rfl,tv,lt,fun o H10 s10 lo=>?_⟩
   have s510:=s59.trans s10
   obtain ⟨ao,dxo,fo,rfl,eo,lko⟩:∃ a dx fs,o=.ref a/\H10 a=some (.ins cT dx fs)/\fs.lookup ("told":Str)=none:=by
    cases lo with
    | mk a dx tp us o ss on e e2 ps to ho hl hs=>exact ⟨_,_,_,rfl,e,rfl⟩
   have tv:=tv.same s10
   refine ⟨_,rfl,_,rfl,_,rfl,_,rfl,lw,us,Ws,_,u,m,p',_,rfl,s510 _ _ (s5' _ _ elw),L2.Paired.mapP pw5 fun _ _ h=>h.same s510,okw,lo,tv,lt,fun H11 s11=>⟨_,rfl,bz ?_⟩⟩
   have s511:=s510.trans s11
   refine ⟨_,rfl,lw,us,rfl,SqL.of (s511 _ _ (s5' _ _ elw)),by lia,fun D nD=>?_⟩
   generalize zz:aC H11 D _=H12
   have s12:Same H11 H12:=zz ▸ ae nD
   have eD:H12 D=some (.lst us.reverse):=zz ▸ ad
   clear zz
   have s512:=s511.trans s12
   have s1012:=s11.trans s12
   refine ⟨_,rfl,_,rfl,_,rfl,D,us.reverse,Ws.reverse,_,u,m,p',_,rfl,eD,Paired.rev' (L2.Paired.mapP pw5 fun _ _ h=>h.same s512),fun W h=>okw W (List.mem_reverse.mp h),lo.same s1012,tv.same s1012,lt,fun H13 s13=>⟨_,rfl,bz ?_⟩⟩
   have s513:=s512.trans s13
   have s1013:=s1012.trans s13
   have g13:=(g9.same s10).same s1013
   refine ⟨bh,fun t1 n1=>⟨bh,fun q2 n2 d3 n3=>⟨bh,fun l4 n4=>?_⟩⟩⟩
   have k1:=ae (o:=.tup [.str "qq"]) n1
   have h1:(aC H13 t1 (.tup [.str "qq"])) t1=some (.tup [.str "qq"]):=ad
   generalize aC H13 t1 (.tup [V.str "qq"])=G1 at *
   have k2:=ae (o:=.lst [.str "qq"]) n2
   have h2:(aC G1 q2 (.lst [.str "qq"])) q2=some (.lst [.str "qq"]):=ad
   have g14:=g13.same k1
   have ne2:=(g14.ne n2).symm
   generalize aC G1 q2 (.lst [V.str "qq"])=G2 at *
   have k3:=ae (o:=.dK []) n3
   have h3:(aC G2 d3 (.dK [])) d3=some (.dK []):=ad
   have g15:=g14.same k2
   have ne3:=(g15.ne n3).symm
   generalize aC G2 d3 (.dK [])=G3 at *
   have k4:=ae (o:=.lst [.non,.int 0,.str "",.str "q",.str "va",.ref t1,.ref q2,.ref d3]) n4
   have h4:(aC G3 l4 (.lst [.non,.int 0,.str "",.str "q",.str "va",.ref t1,.ref q2,.ref d3])) l4=some (.lst [.non,.int 0,.str "",.str "q",.str "va",.ref t1,.ref q2,.ref d3]):=ad
   have g16:=g15.same k3
   have ne4:=(g16.ne n4).symm
   generalize aC G3 l4 (.lst [V.non,.int 0,.str "",.str "q",.str "va",.ref t1,.ref q2,.ref d3])=G4 at *
   have g17:=g16.same k4
   have k34:=k3.trans k4
   have k24:=k2.trans k34
   have k14:=k1.trans k24
   refine ⟨_,rfl,p',8,rfl,g17,by decide,by decide,fun r9 H15 l9 g18 b15=>?_⟩
   have ne1:t1≠p':=fun z=>by
    obtain ⟨x,y,w,e⟩:=g14
    rw [z,e] at h1;cases h1
   have lo15:=(lo.same (s1013.trans k14)).but g17 b15
   have tv15:=(tv.same (s1013.trans k14)).but g17 b15
   have s515:Same H5' H15:=c8 np' (s513.trans k14) b15
   have eo15:H15 ao=some (.ins cT dxo fo):=b15 _ _ ((s1013.trans k14) _ _ eo) fun z=>by
    obtain ⟨x,y,w,e⟩:=g17
    have:=(s1013.trans k14) _ _ eo
    rw [z,e] at this;cases this
   obtain ⟨z,hz⟩:∃ z,[V.non,.int 0,.str "",.str "q",.str "va",.ref t1,.ref q2,.ref d3][r9]?=some z:=⟨_,BZ (show r9 < 8 from l9)⟩
   refine ⟨l4,_,_,_,rfl,rfl,SqL.of (b15 _ _ h4 ne4),aJ hz,?_⟩
   have hx0:us[0]?=some us[0]:=BZ (by lia)
   obtain ⟨W0,hW0,wo0⟩:=gN pw5 hx0
   have okk:=okw W0 (Ca hW0)
   obtain ⟨a0,tv0,ls0,ev0,ea0,tb0,els0⟩:=wo0.same s515
   have nk:nu K H15 W0.1 z:=noKd8 okk.kn (b15 _ _ (k24 _ _ h1) ne1) (b15 _ _ (k34 _ _ h2) ne2) (b15 _ _ (k4 _ _ h3) ne3) (Ca hz)
   refine ⟨_,rfl,lw,us,_,_,rfl,rfl,SqL.of (s515 _ _ (s5' _ _ elw)),aJ (j:=0) hx0,a0,_,_,_,ev0,rfl,SqT.of ea0,bW,_,rfl,_,rfl,tv0,_,z,W0.1,p',_,rfl,tb0,okk.sh.fm,okk.sh.w24,lo15,nk,fun H16 s16=>⟨_,rfl,bz ?_⟩⟩
   obtain ⟨fT,fdT,mT,FT,bT⟩:=TO
   refine ⟨_,rfl,ao,dxo,cT,fT,fo,fdT,_,_,rfl,s16 _ _ eo15,lko,L.cls,mT,FT,bT,p',_,_,rfl,lo15.same s16,fun r H17 s17 tr=>?_⟩
   exact ⟨_,rfl,p',ts,tr,tv15.same (s16.trans s17),hdp,_,rfl,bz ⟨_,_,_,_,_,_,rfl,s5'.trans (s515.trans (s16.trans s17))⟩⟩
  ·rintro σ H6 ⟨v1,v3,v4,v5,v6,v7,rfl,s6⟩
   exact q _
end
abbrev sSetOf:Stmt:=bH 110
def DefIn (K:ZF) (x:Str) (st:Stmt) (f:Addr):Prop:=
 PySem.W.nsIn K mainGlobals x=some (some (.ref f))/\∃ fd:FuncData,Fun K x x st f fd
theorem def_mk {K:ZF} {x:Str} {st:Stmt} {f:Addr} {oc:Value} {od an:Option Addr} {osl:Array (Option Value)} {kV doc pm cdv ct:Value} (a:PySem.W.nsIn K mainGlobals x=some (some (.ref f)))
  (l:K.lookup f=some ⟨oc,od,.func (PySem.W.fnOf x x (cu st) (cj st) (aj st) .none kV doc pm an cdv ct),osl⟩) (c:PySem.W.codeIn K cdv x=true) (k:PySem.W.keepIn K (.ref f)=true):DefIn K x st f:=⟨a,_,qj l c k⟩
theorem fn_mk {P:Program} {w:World} {K:ZF} {mg:Str->Option Value} {base h:Heap} {x:Str} {st:Stmt} {f:Addr} {k:Nat} {ps:List Str} {sp:Sp} (X:K.In h) (G:h.Ns mainGlobals mg) (D:DefIn K x st f)
  (hb:∀ (kV doc pm:Value) (an:Option Addr) (cdv ct:Value) (us:List Value),us.length=ps.length->bindArgs (PySem.W.fnOf x x (cu st) (cj st) (aj st) .none kV doc pm an cdv ct) ⟨us,[]⟩=pure (ps.zip us))
  (ok:∀ fd,Fun K x x st f fd->FnOk P w K mg base bu k f fd ps sp):Fn P w K mg base x k ps sp:=by
 obtain ⟨a,fd,F⟩:=D
 exact ⟨f,fd,BU X G a,F.kp,F.binds hb,ok fd F⟩
structure MIn (K:ZF) (x qual:Str) (st:Stmt) (f:Addr):Prop where
 fu:∃ fd:FuncData,Fun K x qual st f fd
 fn:PySem.W.isFn K (.ref f)=true
theorem min_mk {K:ZF} {x qual:Str} {st:Stmt} {f:Addr} {oc:Value} {od an:Option Addr} {osl:Array (Option Value)} {kV doc pm cdv ct:Value}
  (l:K.lookup f=some ⟨oc,od,.func (PySem.W.fnOf x qual (cu st) (cj st) (aj st) .none kV doc pm an cdv ct),osl⟩) (c:PySem.W.codeIn K cdv qual=true) (k:PySem.W.keepIn K (.ref f)=true) (n:PySem.W.isFn K (.ref f)=true):MIn K x qual st f:=⟨⟨_,qj l c k⟩,n⟩
theorem mth_mk {P:Program} {w:World} {K:ZF} {mg:Str->Option Value} {base:Heap} {Cc f:Addr} {x qual:Str} {st:Stmt} {k:Nat} {ps:List Str} {sp:Sp} (a:PySem.W.findIn K (.ref Cc) x=some (some (.ref f))) (D:MIn K x qual st f)
  (hb:∀ (kV doc pm:Value) (an:Option Addr) (cdv ct:Value) (us:List Value),us.length=ps.length->bindArgs (PySem.W.fnOf x qual (cu st) (cj st) (aj st) .none kV doc pm an cdv ct) ⟨us,[]⟩=pure (ps.zip us))
  (ok:∀ fd,Fun K x qual st f fd->FnOk P w K mg base bu k f fd ps sp):dB P w K mg base Cc x k ps sp:=by
 obtain ⟨⟨fd,F⟩,n⟩:=D
 exact ⟨f,fd,⟨a,n,F.kp⟩,ok fd F,F.binds hb⟩
theorem ini_mk {P:Program} {w:World} {K:ZF} {mg:Str->Option Value} {base:Heap} {f:Addr} {x qual:Str} {st:Stmt} {ps:List Str} {sp:Sp} (D:MIn K x qual st f)
  (hb:∀ (kV doc pm:Value) (an:Option Addr) (cdv ct:Value) (us:List Value),us.length=ps.length->bindArgs (PySem.W.fnOf x qual (cu st) (cj st) (aj st) .none kV doc pm an cdv ct) ⟨us,[]⟩=pure (ps.zip us))
  (ok:∀ fd,Fun K x qual st f fd->FnOk P w K mg base bu 1 f fd ps sp):∃ fd,FnOk P w K mg base bu 1 f fd ps sp/\Binds K fd ps []:=by
 obtain ⟨⟨fd,F⟩,n⟩:=D
 exact ⟨fd,ok fd F,F.binds hb⟩
def NaAll (K:ZF) (c:Addr):List Str->Prop
 | []=>True
 | f::r=>NoAttr K c f/\NaAll K c r
theorem NaAll.get {K:ZF} {c:Addr}:∀ {l:List Str},NaAll K c l->∀ f∈l,NoAttr K c f
 | [],_,f,hf=>absurd hf (by simp)
 | g::r,h,f,hf=>by
  rcases BW.mp hf with rfl|hf
  ·exact h.1
  ·exact NaAll.get h.2 f hf
structure CK (K:ZF) (n:Str) (c i:Addr) (fl:List Str):Prop where
 ns:PySem.W.nsIn K mainGlobals n=some (some (.ref c))
 cls:Cls K c
 na:NaAll K c fl
 mk_:Mk K c i
theorem ck_mk {K:ZF} {n:Str} {c i:Addr} {fl:List Str} (ns:PySem.W.nsIn K mainGlobals n=some (some (.ref c))) (g1:PySem.W.plainGet K c Str.empty=true) (g2:PySem.W.hasDictIn K c=true) (g3:PySem.W.plainOver K c=true)
  (g4:PySem.W.findIn K (.ref c) "__setattr__"=some (some (.builtin "object.__setattr__"))) (m1:PySem.W.makesIn K c=true) (m2:PySem.W.findIn K (.ref c) "__init__"=some (some (.ref i))) (m3:PySem.W.isFn K (.ref i)=true) (m4:PySem.W.keepIn K (.ref c)=true) (na:NaAll K c fl):CK K n c i fl:=
 ⟨ns,⟨g1,g2,g3,g4⟩,na,⟨m1,m2,m3,m4⟩⟩
theorem na2 {K:ZF} {c:Addr} {a b:Str} (x:PySem.W.findIn K (.ref c) a=some none) (y:PySem.W.findIn K (.ref c) b=some none):NaAll K c [a,b]:=⟨x,y,trivial⟩
theorem na3 {K:ZF} {c:Addr} {a b d:Str} (x:PySem.W.findIn K (.ref c) a=some none) (y:PySem.W.findIn K (.ref c) b=some none) (z:PySem.W.findIn K (.ref c) d=some none):NaAll K c [a,b,d]:=⟨x,y,z,trivial⟩
theorem na8 {K:ZF} {c:Addr} {a b d e f g h i:Str} (x:PySem.W.findIn K (.ref c) a=some none) (y:PySem.W.findIn K (.ref c) b=some none) (z:PySem.W.findIn K (.ref c) d=some none) (u:PySem.W.findIn K (.ref c) e=some none) (x1:PySem.W.findIn K (.ref c) f=some none) (y1:PySem.W.findIn K (.ref c) g=some none) (z1:PySem.W.findIn K (.ref c) h=some none) (u1:PySem.W.findIn K (.ref c) i=some none):NaAll K c [a,b,d,e,f,g,h,i]:=⟨x,y,z,u,x1,y1,z1,u1,trivial⟩
theorem vals_toks:∀ (zs:List Str) (ts:List Tok),ts.length=zs.length->Vals (zs.map V.str) ((zs.zip ts).map fun p=>Value.str p.1 p.2)
 | [],_,_=>.nil
 | z::r,[],h=>by cases h
 | z::r,t::u,h=>.cons ⟨t,rfl⟩ (vals_toks r u (by simpa using h))
structure XCl (K:ZF) (nm:Str) (bm:List Value) (C:Addr):Prop where
 ns:PySem.W.nsIn K mainGlobals nm=some (some (.ref C))
 c:XC K C nm bm
theorem xcl_mk {K:ZF} {nm:Str} {bm:List Value} {C:Addr} {q:Str} {N:Addr} {bs:List Value} {sn:List Str} {sub:List Value} {ab:Bool} {col:Option Bool} {dd:Option Addr} {k0 k1 k2 k3 k5:Option Value} (tl:XB.Tail bm) (a:PySem.W.nsIn K mainGlobals nm=some (some (.ref C))) (l:K.lookup C=some (excClassObj nm q C N bs bm true sn sub ab col dd k0 k1 k2 k3 k5 "ValueError.__new__"))
  (g1:PySem.W.findIn K (.ref C) "__getattribute__"=some (some (.builtin "BaseException.__getattribute__"))) (g2:PySem.W.findIn K (.ref C) "__getattr__"=some none) (g3:PySem.W.findIn K (.ref C) "__setattr__"=some (some (.builtin "object.__setattr__"))) (g4:PySem.W.findIn K (.ref C) "__class__"=some (some (.builtin "object.__class__"))):XCl K nm bm C:=
 ⟨a,⟨tl,⟨q,N,bs,sn,sub,ab,col,dd,k0,k1,k2,k3,k5,l⟩,g1,g2,g3,g4⟩⟩
theorem tlV:XB.Tail XB.bmV:=.inl rfl
theorem tlR {R:Addr}:XB.Tail (lK R):=.inr ⟨R,rfl⟩
theorem fnx_mk {P:Program} {w:World} {K:ZF} {mg:Str->Option Value} {base h:Heap} {x:Str} {st:Stmt} {f:Addr} {k:Nat} {ps:List Str} {sp:Sp} (X:K.In h) (G:h.Ns mainGlobals mg) (D:DefIn K x st f)
  (hb:∀ (kV doc pm:Value) (an:Option Addr) (cdv ct:Value) (us:List Value),us.length=ps.length->bindArgs (PySem.W.fnOf x x (cu st) (cj st) (aj st) .none kV doc pm an cdv ct) ⟨us,[]⟩=pure (ps.zip us))
  (ok:∀ fd,Fun K x x st f fd->FnOk P w K mg base (lR P w) k f fd ps sp):FnX P w K mg base x k ps sp:=by
 obtain ⟨a,fd,F⟩:=D
 exact ⟨f,fd,BU X G a,F.kp,F.binds hb,ok fd F⟩
theorem mthx_mk {P:Program} {w:World} {K:ZF} {mg:Str->Option Value} {base:Heap} {Cc f:Addr} {x qual:Str} {st:Stmt} {k:Nat} {ps:List Str} {sp:Sp} (a:PySem.W.findIn K (.ref Cc) x=some (some (.ref f))) (D:MIn K x qual st f)
  (hb:∀ (kV doc pm:Value) (an:Option Addr) (cdv ct:Value) (us:List Value),us.length=ps.length->bindArgs (PySem.W.fnOf x qual (cu st) (cj st) (aj st) .none kV doc pm an cdv ct) ⟨us,[]⟩=pure (ps.zip us))
  (ok:∀ fd,Fun K x qual st f fd->FnOk P w K mg base (lR P w) k f fd ps sp):sO P w K mg base Cc x k ps sp:=by
 obtain ⟨⟨fd,F⟩,n⟩:=D
 exact ⟨f,fd,⟨a,n,F.kp⟩,ok fd F,F.binds hb⟩
def seven (a b c d e f g:Addr):Nat->Addr
 | 0=>a
 | 1=>b
 | 2=>c
 | 3=>d
 | 4=>e
 | 5=>f
 | _=>g
theorem lt7 {p:Nat->Prop} (h0:p 0) (h1:p 1) (h2:p 2) (h3:p 3) (h4:p 4) (h5:p 5) (h6:p 6):∀ k,k < 7->p k:=by
 intro k hk
 rcases (by lia:k=0\/k=1\/k=2\/k=3\/k=4\/k=5\/k=6) with rfl|rfl|rfl|rfl|rfl|rfl|rfl<;>assumption
theorem top_mk {w:World} {K:ZF} {a f1 f2 f3 f4 f5 f6 f7 f8 f9:Addr} {t1 t2 t3 t4 t5 t6 t7 t8 t9:Tok} {ep:Nat}
  (h:K.lookup a=some { cls:=.type "dict",data:=.dict #[⟨PyData.keyHash w.params "+",.str "+" t1,.ref f1⟩,⟨PyData.keyHash w.params "-",.str "-" t2,.ref f2⟩,⟨PyData.keyHash w.params "&",.str "&" t3,.ref f3⟩,⟨PyData.keyHash w.params "|",.str "|" t4,.ref f4⟩,⟨PyData.keyHash w.params "^",.str "^" t5,.ref f5⟩,
   ⟨PyData.keyHash w.params "<<",.str "<<" t6,.ref f6⟩,⟨PyData.keyHash w.params ">>",.str ">>" t7,.ref f7⟩,⟨PyData.keyHash w.params "<",.str "<" t8,.ref f8⟩,⟨PyData.keyHash w.params "=",.str "=" t9,.ref f9⟩] ep }) :
  hU w K a [("+",.ref f1),("-",.ref f2),("&",.ref f3),("|",.ref f4),("^",.ref f5),("<<",.ref f6),(">>",.ref f7),("<",.ref f8),("=",.ref f9)]:=
 ⟨_,ep,h,.cons ⟨rfl,⟨_,rfl⟩,rfl⟩ (.cons ⟨rfl,⟨_,rfl⟩,rfl⟩ (.cons ⟨rfl,⟨_,rfl⟩,rfl⟩ (.cons ⟨rfl,⟨_,rfl⟩,rfl⟩ (.cons ⟨rfl,⟨_,rfl⟩,rfl⟩ (.cons ⟨rfl,⟨_,rfl⟩,rfl⟩ (.cons ⟨rfl,⟨_,rfl⟩,rfl⟩ (.cons ⟨rfl,⟨_,rfl⟩,rfl⟩ (.cons ⟨rfl,⟨_,rfl⟩,rfl⟩ .nil))))))))⟩
theorem na4 {K:ZF} {c:Addr} {a b d e:Str} (x:PySem.W.findIn K (.ref c) a=some none) (y:PySem.W.findIn K (.ref c) b=some none) (z:PySem.W.findIn K (.ref c) d=some none) (u:PySem.W.findIn K (.ref c) e=some none):NaAll K c [a,b,d,e]:=⟨x,y,z,u,trivial⟩
theorem sq_own_words {K:ZF} {a:Addr} {t1 t2 t3 t4 t5 t6 t7 t8 t9 t10 t11 t12 t13 t14 t15 t16 t17 t18 t19 t20 t21 t22:Tok} {n:Nat} (h:K.lookup a=some { cls:=.type "tuple",data:=.seq #[.str "word" t1,.str "cells" t2,.str "depth" t3,.str "places" t4,.str "marks" t5,.str "gate" t6,.str "kind" t7,.str "place" t8,.str "mark" t9,.str "number" t10,.str "row" t11,.str "set" t12,.str "if" t13,.str "else" t14,.str "top" t15,.str "next" t16,.str "go" t17,.str "call" t18,.str "back" t19,.str "stop" t20,.str "fault" t21,.str "bell" t22] n }):∀ H,SqT K H a (ap pb):=fun H=>
 .inr ⟨_,_,n,h,rfl,rfl,bh,vals_toks ["word","cells","depth","places","marks","gate","kind","place","mark","number","row","set","if","else","top","next","go","call","back","stop","fault","bell"] [t1,t2,t3,t4,t5,t6,t7,t8,t9,t10,t11,t12,t13,t14,t15,t16,t17,t18,t19,t20,t21,t22] rfl⟩
theorem sq_sorts {K:ZF} {a:Addr} {t1 t2 t3 t4:Tok} {n:Nat} (h:K.lookup a=some { cls:=.type "tuple",data:=.seq #[.str "place" t1,.str "mark" t2,.str "number" t3,.str "row" t4] n }):∀ H,SqT K H a (ap cG):=fun H=>
 .inr ⟨_,_,n,h,rfl,rfl,bh,vals_toks ["place","mark","number","row"] [t1,t2,t3,t4] rfl⟩
theorem sq_ends {K:ZF} {a:Addr} {t1 t2 t3 t4 t5 t6:Tok} {n:Nat} (h:K.lookup a=some { cls:=.type "tuple",data:=.seq #[.str "next" t1,.str "go" t2,.str "call" t3,.str "back" t4,.str "stop" t5,.str "fault" t6] n }):∀ H,SqT K H a (ap ["next","go","call","back","stop","fault"]):=fun H=>
 .inr ⟨_,_,n,h,rfl,rfl,bh,vals_toks ["next","go","call","back","stop","fault"] [t1,t2,t3,t4,t5,t6] rfl⟩
theorem sq_own_faults {K:ZF} {a:Addr} {t1 t2:Tok} {n:Nat} (h:K.lookup a=some { cls:=.type "tuple",data:=.seq #[.str "deep" t1,.str "bare" t2] n }):∀ H,SqT K H a (ap ["deep","bare"]):=fun H=>
 .inr ⟨_,_,n,h,rfl,rfl,bh,vals_toks ["deep","bare"] [t1,t2] rfl⟩
theorem sq_double_signs {K:ZF} {a:Addr} {t1 t2:Tok} {n:Nat} (h:K.lookup a=some { cls:=.type "tuple",data:=.seq #[.str "<<" t1,.str ">>" t2] n }):∀ H,SqT K H a ([.str "<<",.str ">>"]):=fun H=>
 .inr ⟨_,_,n,h,rfl,rfl,bh,vals_toks ["<<",">>"] [t1,t2] rfl⟩
theorem ls0 {p:List Value->Prop} (h:p []):∀ us:List Value,us.length=0->p us:=fun us hl=>match us,hl with|[],_=>h
theorem ls1 {p:List Value->Prop} (h:∀ a0,p [a0]):∀ us:List Value,us.length=1->p us:=fun us hl=>match us,hl with|[a0],_=>h a0
theorem ls2 {p:List Value->Prop} (h:∀ a0 a1,p [a0,a1]):∀ us:List Value,us.length=2->p us:=fun us hl=>match us,hl with|[a0,a1],_=>h a0 a1
theorem ls3 {p:List Value->Prop} (h:∀ a0 a1 a2,p [a0,a1,a2]):∀ us:List Value,us.length=3->p us:=fun us hl=>match us,hl with|[a0,a1,a2],_=>h a0 a1 a2
theorem ls4 {p:List Value->Prop} (h:∀ a0 a1 a2 a3,p [a0,a1,a2,a3]):∀ us:List Value,us.length=4->p us:=fun us hl=>match us,hl with|[a0,a1,a2,a3],_=>h a0 a1 a2 a3
theorem ls5 {p:List Value->Prop} (h:∀ a0 a1 a2 a3 a4,p [a0,a1,a2,a3,a4]):∀ us:List Value,us.length=5->p us:=fun us hl=>match us,hl with|[a0,a1,a2,a3,a4],_=>h a0 a1 a2 a3 a4
theorem ls8 {p:List Value->Prop} (h:∀ a0 a1 a2 a3 a4 a5 a6 a7,p [a0,a1,a2,a3,a4,a5,a6,a7]):∀ us:List Value,us.length=8->p us:=fun us hl=>match us,hl with|[a0,a1,a2,a3,a4,a5,a6,a7],_=>h a0 a1 a2 a3 a4 a5 a6 a7
theorem all_mk {l:PySem.W.OpenLaw} {w:World} {K:ZF} {h:Heap} {mg:Str->Option Value} {fa f0 f1 f2 f3 f4 f5 f6 f7 f8 f9 f10 f11 f12 f13 f14 f15 f16 f17 f18 f19 f20 f21 f22 f23 f24 f25 f26 f27 f28 f29 f30 f31 f32 f33 f34 f35 f36 f37 f38 f39 f40 f41 f42 f43 f44 f45 f46 f47 f48 f49 f50 f51 f52 f53 f54 f55 f56 f57 f58 f59 f60 cR iR cT iT m_look m_take m_need m_need_name m_need_number m_need_end m_kind_at m_fields_of a_OWN_WORDS a_SORTS a_ENDS a_OWN_FAULTS a_DOUBLE_SIGNS aO R fR cK fK cB cY iY qY c0 i0 q0 c1 i1 q1 c2 i2 q2 c3 i3 q3 c4 i4 q4 c5 i5 q5 c6 i6 q6 tg0 tg1 tg2 tg3 sr2 sr3 sr4 sr5 sr6 se0 se1 se4 se5 tgB srB vY e1 e2 e3 e4 e5 e6 e7 e8 e9:Addr} {k_MOST_FIGURES k_LONGEST_NAME k_MOST_TOKENS k_MOST_KINDS k_MOST_FIELDS k_MOST_SETS k_MOST_CHOICES k_MOST_SIGNS k_HIGHEST_INNER k_HIGHEST_WORD k_HIGHEST_FIELD k_HIGHEST_SELECTED k_HIGHEST_ADDRESS k_MOST_STEPS k_FIGURES k_LETTERS k_GAPS k_SINGLE_SIGNS:Tok} (X:K.In h) (G:h.Ns mainGlobals mg) (hfa:mg "law"=some (.ref fa))
  (d0:DefIn K "number_of" eU f0)
  (d1:DefIn K "is_whole" iy f1)
  (d2:DefIn K "is_within" gi f2)
  (d3:DefIn K "is_word" qA f3)
  (d4:DefIn K "is_name" iz f4)
  (d5:DefIn K "read_form" gG f5)
  (d6:DefIn K "read_bounded" dM f6)
  (d7:DefIn K "read_names" fB f7)
  (d8:DefIn K "read_kind" gH f8)
  (d9:DefIn K "read_fields" ei f9)
  (d10:DefIn K "read_field" fC f10)
  (d11:DefIn K "read_body" gI f11)
  (d12:DefIn K "read_leaf" gJ f12)
  (d13:DefIn K "read_end" iA f13)
  (d14:DefIn K "table_of_form" dN f14)
  (d15:DefIn K "add_name" iB f15)
  (d16:DefIn K "need_known" fE f16)
  (d17:DefIn K "kinds_named" er f17)
  (d18:DefIn K "names_with_fields" fF f18)
  (d19:DefIn K "deed_of" hX f19)
  (d20:DefIn K "end_of" mC f20)
  (d21:DefIn K "set_of" sSetOf f21)
  (d22:DefIn K "tokens_of" jO f22)
  (d23:DefIn K "sign_at" qB f23)
  (d24:DefIn K "run_at" wW f24)
  (d25:DefIn K "read_table" fG f25)
  (d26:DefIn K "_law_cell" qC f26)
  (d27:DefIn K "_law_stream" jP f27)
  (d28:DefIn K "_law_take" qD f28)
  (d29:DefIn K "ops_told" xL f29)
  (d30:DefIn K "is_headed" kc f30)
  (d31:DefIn K "is_inner" m8 f31)
  (d32:DefIn K "is_field" nc f32)
  (d33:DefIn K "is_address" rT f33)
  (d34:DefIn K "is_sel" xM f34)
  (d35:DefIn K "is_source" ke f35)
  (d36:DefIn K "is_step" kg f36)
  (d37:DefIn K "is_end" nh f37)
  (d38:DefIn K "is_way_on" ni f38)
  (d39:DefIn K "is_little" fb f39)
  (d40:DefIn K "step_of" kh f40)
  (d41:DefIn K "little_of" fc f41)
  (d42:DefIn K "fits" ot f42)
  (d43:DefIn K "step_fits" c7 f43)
  (d44:DefIn K "sel_fits" iJ f44)
  (d45:DefIn K "source_fits" iL f45)
  (d46:DefIn K "has_field" gR f46)
  (d47:DefIn K "on_fits" kj f47)
  (d48:DefIn K "_law_fields" iP f48)
  (d49:DefIn K "_law_worlds" eM f49)
  (d50:DefIn K "_law_field" ic f50)
  (d51:DefIn K "_law_sel" sT f51)
  (d52:DefIn K "_law_source" iQ f52)
  (d53:DefIn K "_law_step" ny f53)
  (d54:DefIn K "_law_on" yT f54)
  (d55:DefIn K "_law_little" gv f55)
  (d56:DefIn K "_law_part_fits" nz f56)
  (d57:DefIn K "_law_due" sW f57)
  (d58:DefIn K "_law_no_kind" iU f58)
  (d59:DefIn K "_law_asked" ku f59)
  (d60:DefIn K "law" o8 f60)
  (CR:CK K "Reader" cR iR ["tokens","spot","may_end"]) (IR:MIn K "__init__" "Reader.__init__" mS iR)
  (CT:CK K "Table" cT iT ["width","cells","depth","places","marks","gate","kinds","kinds_known"]) (IT:MIn K "__init__" "Table.__init__" jZ iT)
  (h_look:PySem.W.findIn K (.ref cR) "look"=some (some (.ref m_look))) (M_look:MIn K "look" "Reader.look" qH m_look)
  (h_take:PySem.W.findIn K (.ref cR) "take"=some (some (.ref m_take))) (M_take:MIn K "take" "Reader.take" A1 m_take)
  (h_need:PySem.W.findIn K (.ref cR) "need"=some (some (.ref m_need))) (M_need:MIn K "need" "Reader.need" qI m_need)
  (h_need_name:PySem.W.findIn K (.ref cR) "need_name"=some (some (.ref m_need_name))) (M_need_name:MIn K "need_name" "Reader.need_name" gL m_need_name)
  (h_need_number:PySem.W.findIn K (.ref cR) "need_number"=some (some (.ref m_need_number))) (M_need_number:MIn K "need_number" "Reader.need_number" eC m_need_number)
  (h_need_end:PySem.W.findIn K (.ref cR) "need_end"=some (some (.ref m_need_end))) (M_need_end:MIn K "need_end" "Reader.need_end" iE m_need_end)
  (h_kind_at:PySem.W.findIn K (.ref cT) "kind_at"=some (some (.ref m_kind_at))) (M_kind_at:MIn K "kind_at" "Table.kind_at" j4 m_kind_at)
  (h_fields_of:PySem.W.findIn K (.ref cT) "fields_of"=some (some (.ref m_fields_of))) (M_fields_of:MIn K "fields_of" "Table.fields_of" gO m_fields_of)
  (n_MOST_FIGURES:PySem.W.nsIn K mainGlobals "MOST_FIGURES"=some (some (.int 9 k_MOST_FIGURES)))
  (n_LONGEST_NAME:PySem.W.nsIn K mainGlobals "LONGEST_NAME"=some (some (.int 8 k_LONGEST_NAME)))
  (n_MOST_TOKENS:PySem.W.nsIn K mainGlobals "MOST_TOKENS"=some (some (.int 1500 k_MOST_TOKENS)))
  (n_MOST_KINDS:PySem.W.nsIn K mainGlobals "MOST_KINDS"=some (some (.int 8 k_MOST_KINDS)))
  (n_MOST_FIELDS:PySem.W.nsIn K mainGlobals "MOST_FIELDS"=some (some (.int 3 k_MOST_FIELDS)))
  (n_MOST_SETS:PySem.W.nsIn K mainGlobals "MOST_SETS"=some (some (.int 4 k_MOST_SETS)))
  (n_MOST_CHOICES:PySem.W.nsIn K mainGlobals "MOST_CHOICES"=some (some (.int 3 k_MOST_CHOICES)))
  (n_MOST_SIGNS:PySem.W.nsIn K mainGlobals "MOST_SIGNS"=some (some (.int 20000 k_MOST_SIGNS)))
  (n_HIGHEST_INNER:PySem.W.nsIn K mainGlobals "HIGHEST_INNER"=some (some (.int 7 k_HIGHEST_INNER)))
  (n_HIGHEST_WORD:PySem.W.nsIn K mainGlobals "HIGHEST_WORD"=some (some (.int 16777215 k_HIGHEST_WORD)))
  (n_HIGHEST_FIELD:PySem.W.nsIn K mainGlobals "HIGHEST_FIELD"=some (some (.int 2 k_HIGHEST_FIELD)))
  (n_HIGHEST_SELECTED:PySem.W.nsIn K mainGlobals "HIGHEST_SELECTED"=some (some (.int 3 k_HIGHEST_SELECTED)))
  (n_HIGHEST_ADDRESS:PySem.W.nsIn K mainGlobals "HIGHEST_ADDRESS"=some (some (.int 399 k_HIGHEST_ADDRESS)))
  (n_MOST_STEPS:PySem.W.nsIn K mainGlobals "MOST_STEPS"=some (some (.int 16 k_MOST_STEPS)))
  (n_FIGURES:PySem.W.nsIn K mainGlobals "FIGURES"=some (some (.str "0123456789" k_FIGURES)))
  (n_LETTERS:PySem.W.nsIn K mainGlobals "LETTERS"=some (some (.str "abcdefghijklmnopqrstuvwxyz" k_LETTERS)))
  (n_GAPS:PySem.W.nsIn K mainGlobals "GAPS"=some (some (.str " \n" k_GAPS)))
  (n_SINGLE_SIGNS:PySem.W.nsIn K mainGlobals "SINGLE_SIGNS"=some (some (.str "(){}[],;+-&|^<=" k_SINGLE_SIGNS)))
  (n_OWN_WORDS:PySem.W.nsIn K mainGlobals "OWN_WORDS"=some (some (.ref a_OWN_WORDS))) (q_OWN_WORDS:∀ H,SqT K H a_OWN_WORDS (ap pb))
  (n_SORTS:PySem.W.nsIn K mainGlobals "SORTS"=some (some (.ref a_SORTS))) (q_SORTS:∀ H,SqT K H a_SORTS (ap cG))
  (n_ENDS:PySem.W.nsIn K mainGlobals "ENDS"=some (some (.ref a_ENDS))) (q_ENDS:∀ H,SqT K H a_ENDS (ap ["next","go","call","back","stop","fault"]))
  (n_OWN_FAULTS:PySem.W.nsIn K mainGlobals "OWN_FAULTS"=some (some (.ref a_OWN_FAULTS))) (q_OWN_FAULTS:∀ H,SqT K H a_OWN_FAULTS (ap ["deep","bare"]))
  (n_DOUBLE_SIGNS:PySem.W.nsIn K mainGlobals "DOUBLE_SIGNS"=some (some (.ref a_DOUBLE_SIGNS))) (q_DOUBLE_SIGNS:∀ H,SqT K H a_DOUBLE_SIGNS ([.str "<<",.str ">>"]))
  (C0:CK K "Get" c0 i0 ["to","sel"]) (I0:MIn K "__init__" "Get.__init__" sI0 i0) (t0:PySem.W.findIn K (.ref c0) "told"=some (some (.ref q0))) (Q0:MIn K "told" "Get.told" sTo0 q0)
  (C1:CK K "Ask" c1 i1 ["to","sel"]) (I1:MIn K "__init__" "Ask.__init__" sI1 i1) (t1:PySem.W.findIn K (.ref c1) "told"=some (some (.ref q1))) (Q1:MIn K "told" "Ask.told" sTo1 q1)
  (C2:CK K "Cell" c2 i2 ["to","source"]) (I2:MIn K "__init__" "Cell.__init__" sI2 i2) (t2:PySem.W.findIn K (.ref c2) "told"=some (some (.ref q2))) (Q2:MIn K "told" "Cell.told" sTo2 q2)
  (C3:CK K "Two" c3 i3 ["to","op","one","other"]) (I3:MIn K "__init__" "Two.__init__" sI3 i3) (t3:PySem.W.findIn K (.ref c3) "told"=some (some (.ref q3))) (Q3:MIn K "told" "Two.told" sTo3 q3)
  (C4:CK K "Put" c4 i4 ["sel","source"]) (I4:MIn K "__init__" "Put.__init__" sI4 i4) (t4:PySem.W.findIn K (.ref c4) "told"=some (some (.ref q4))) (Q4:MIn K "told" "Put.told" sTo4 q4)
  (C5:CK K "Tell" c5 i5 ["sel","source"]) (I5:MIn K "__init__" "Tell.__init__" sI5 i5) (t5:PySem.W.findIn K (.ref c5) "told"=some (some (.ref q5))) (Q5:MIn K "told" "Tell.told" sTo5 q5)
  (C6:CK K "Store" c6 i6 ["at","source"]) (I6:MIn K "__init__" "Store.__init__" sI6 i6) (t6:PySem.W.findIn K (.ref c6) "told"=some (some (.ref q6))) (Q6:MIn K "told" "Store.told" sTo6 q6)
  (htg0:PySem.W.findIn K (.ref c0) "targets"=some (some (.ref tg0)))
  (htg1:PySem.W.findIn K (.ref c1) "targets"=some (some (.ref tg1)))
  (htg2:PySem.W.findIn K (.ref c2) "targets"=some (some (.ref tg2)))
  (htg3:PySem.W.findIn K (.ref c3) "targets"=some (some (.ref tg3)))
  (htg4:PySem.W.findIn K (.ref c4) "targets"=some (some (.ref tgB)))
  (htg5:PySem.W.findIn K (.ref c5) "targets"=some (some (.ref tgB)))
  (htg6:PySem.W.findIn K (.ref c6) "targets"=some (some (.ref tgB)))
  (Mtg0:MIn K "targets" "Get.targets" sf tg0)
  (Mtg1:MIn K "targets" "Ask.targets" sg tg1)
  (Mtg2:MIn K "targets" "Cell.targets" si tg2)
  (Mtg3:MIn K "targets" "Two.targets" sj tg3)
  (MtgB:MIn K "targets" "Step.targets" rY tgB)
  (hsr0:PySem.W.findIn K (.ref c0) "sources"=some (some (.ref srB)))
  (hsr1:PySem.W.findIn K (.ref c1) "sources"=some (some (.ref srB)))
  (hsr2:PySem.W.findIn K (.ref c2) "sources"=some (some (.ref sr2)))
  (hsr3:PySem.W.findIn K (.ref c3) "sources"=some (some (.ref sr3)))
  (hsr4:PySem.W.findIn K (.ref c4) "sources"=some (some (.ref sr4)))
  (hsr5:PySem.W.findIn K (.ref c5) "sources"=some (some (.ref sr5)))
  (hsr6:PySem.W.findIn K (.ref c6) "sources"=some (some (.ref sr6)))
  (Msr2:MIn K "sources" "Cell.sources" sk sr2)
  (Msr3:MIn K "sources" "Two.sources" su sr3)
  (Msr4:MIn K "sources" "Put.sources" sw sr4)
  (Msr5:MIn K "sources" "Tell.sources" sx sr5)
  (Msr6:MIn K "sources" "Store.sources" sy sr6)
  (MsrB:MIn K "sources" "Step.sources" uZ srB)
  (hse0:PySem.W.findIn K (.ref c0) "selects"=some (some (.ref se0)))
  (hse1:PySem.W.findIn K (.ref c1) "selects"=some (some (.ref se1)))
  (hse2:PySem.W.findIn K (.ref c2) "selects"=some (some (.ref vY)))
  (hse3:PySem.W.findIn K (.ref c3) "selects"=some (some (.ref vY)))
  (hse4:PySem.W.findIn K (.ref c4) "selects"=some (some (.ref se4)))
  (hse5:PySem.W.findIn K (.ref c5) "selects"=some (some (.ref se5)))
  (hse6:PySem.W.findIn K (.ref c6) "selects"=some (some (.ref vY)))
  (Mse0:MIn K "selects" "Get.selects" sE se0)
  (Mse1:MIn K "selects" "Ask.selects" sG se1)
  (Mse4:MIn K "selects" "Put.selects" sI se4)
  (Mse5:MIn K "selects" "Tell.selects" sJ se5)
  (MseB:MIn K "selects" "Step.selects" sC vY)
  (CY:CK K "Little" cY iY ["steps","on"]) (IY:MIn K "__init__" "Little.__init__" rU iY) (tY:PySem.W.findIn K (.ref cY) "told"=some (some (.ref qY))) (QY:MIn K "told" "Little.told" ki qY)
  (n_OPS:PySem.W.nsIn K mainGlobals "OPS"=some (some (.ref aO))) (dO:hU w K aO [("+",.ref e1),("-",.ref e2),("&",.ref e3),("|",.ref e4),("^",.ref e5),("<<",.ref e6),(">>",.ref e7),("<",.ref e8),("=",.ref e9)]) (lo:(aO == sysModules)=false)
  (xR:XCl K "RowsError" XB.bmV R) (rd:PySem.W.readsIn K R (.type "type")=true) (ri:PySem.W.findCls K (.ref R) (.type "type") "__init__"=some (.val (.ref fR))) (mR:MIn K "__init__" "RowsError.__init__" kl fR)
  (xK:XCl K "NoKind" (lK R) cK) (aK:PySem.W.findIn K (.ref cK) "name"=some none) (iK:PySem.W.findIn K (.ref cK) "__init__"=some (some (.ref fK))) (nK:PySem.W.isFn K (.ref fK)=true) (pK:PySem.W.keepIn K (.ref cK)=true) (mK:MIn K "__init__" "NoKind.__init__" ko fK) (xB:XCl K "BadStep" (lK R) cB)
  (z_len:PySem.W.nsIn K mainGlobals "len"=some none)
  (z_int:PySem.W.nsIn K mainGlobals "int"=some none)
  (z_max:PySem.W.nsIn K mainGlobals "max"=some none)
  (z_min:PySem.W.nsIn K mainGlobals "min"=some none)
  (z_range:PySem.W.nsIn K mainGlobals "range"=some none)
  (z_isinstance:PySem.W.nsIn K mainGlobals "isinstance"=some none)
  (z_list:PySem.W.nsIn K mainGlobals "list"=some none)
  (z_str:PySem.W.nsIn K mainGlobals "str"=some none)
  (z_bool:PySem.W.nsIn K mainGlobals "bool"=some none)
  (z_tuple:PySem.W.nsIn K mainGlobals "tuple"=some none)
  (z_all:PySem.W.nsIn K mainGlobals "all"=some none)
  (z_dict:PySem.W.nsIn K mainGlobals "dict"=some none)
  (z_enumerate:PySem.W.nsIn K mainGlobals "enumerate"=some none)
  (z_reversed:PySem.W.nsIn K mainGlobals "reversed"=some none)
  (z_ValueError:PySem.W.nsIn K mainGlobals "ValueError"=some none) :
  ∃ fd:FuncData,(∀ (s:Shared) (v:Value),BindsTo s fd ⟨[v],[]⟩ [("_law_script",v)])/\∀ base:Heap,K.In base->base.Ns mainGlobals mg->FnOk l.prog w K mg base bu 10 fa fd ["_law_script"] (spLaw K):=by
 have B:Bl mg:=⟨Ci X G z_len,Ci X G z_int,Ci X G z_max,Ci X G z_min,Ci X G z_range,Ci X G z_isinstance,Ci X G z_list,Ci X G z_str,Ci X G z_bool,Ci X G z_tuple,Ci X G z_all⟩
 have B3:A5 mg:=⟨Ci X G z_dict,Ci X G z_enumerate⟩
 have Z:mL K mg a_SORTS a_ENDS a_OWN_FAULTS k_MOST_FIELDS k_MOST_SETS k_MOST_CHOICES k_MOST_KINDS:=⟨(BU X G n_SORTS),q_SORTS,(BU X G n_ENDS),q_ENDS,(BU X G n_OWN_FAULTS),q_OWN_FAULTS,(BU X G n_MOST_FIELDS),(BU X G n_MOST_SETS),(BU X G n_MOST_CHOICES),(BU X G n_MOST_KINDS)⟩
 have CN:zM K mg a_OWN_WORDS k_LETTERS k_LONGEST_NAME:=⟨(BU X G n_OWN_WORDS),q_OWN_WORDS,(BU X G n_LETTERS),(BU X G n_LONGEST_NAME)⟩
 have CT2:uE K mg a_DOUBLE_SIGNS k_GAPS k_SINGLE_SIGNS:=⟨(BU X G n_GAPS),(BU X G n_SINGLE_SIGNS),(BU X G n_DOUBLE_SIGNS),q_DOUBLE_SIGNS,B.len⟩
 have CNT:CstNT K mg a_OWN_WORDS k_LETTERS k_LONGEST_NAME:=⟨(BU X G n_OWN_WORDS),q_OWN_WORDS,(BU X G n_LETTERS),(BU X G n_LONGEST_NAME)⟩
 have RC:Rc K cR:=⟨CR.cls,CR.na.1,CR.na.2.1,CR.na.2.2.1⟩
 have TC:Tc K cT:=⟨CT.cls,CT.na.get⟩
 have fsv:∃ fs:Str->V,Cst K mg w aO k_HIGHEST_INNER k_HIGHEST_WORD k_HIGHEST_FIELD k_HIGHEST_SELECTED k_HIGHEST_ADDRESS k_MOST_STEPS fs:=⟨fun x=>(([("+",.ref e1),("-",.ref e2),("&",.ref e3),("|",.ref e4),("^",.ref e5),("<<",.ref e6),(">>",.ref e7),("<",.ref e8),("=",.ref e9)]:List (Str×V)).lookup x).getD .non,(BU X G n_HIGHEST_INNER),(BU X G n_HIGHEST_WORD),(BU X G n_HIGHEST_FIELD),(BU X G n_HIGHEST_SELECTED),(BU X G n_HIGHEST_ADDRESS),(BU X G n_MOST_STEPS),(BU X G n_OPS),dO,lo⟩
 obtain ⟨fs,ZC⟩:=fsv
 have T:Ct K mg (seven c0 c1 c2 c3 c4 c5 c6) (seven i0 i1 i2 i3 i4 i5 i6):=⟨lt7 C0.cls C1.cls C2.cls C3.cls C4.cls C5.cls C6.cls,lt7 C0.na.get C1.na.get C2.na.get C3.na.get C4.na.get C5.na.get C6.na.get,lt7 C0.mk_ C1.mk_ C2.mk_ C3.mk_ C4.mk_ C5.mk_ C6.mk_,lt7 (BU X G C0.ns) (BU X G C1.ns) (BU X G C2.ns) (BU X G C3.ns) (BU X G C4.ns) (BU X G C5.ns) (BU X G C6.ns)⟩
 have TX:Xs K mg R fR cK fK cB:=⟨xR.c,xK.c,xB.c,aK,⟨iK,nK,pK⟩,⟨rd,ri,mR.fu.elim fun _ F=>F.kp⟩,BU X G xR.ns,BU X G xK.ns,BU X G xB.ns,Ci X G z_ValueError⟩
 have LC:Lc K cY:=⟨CY.cls,CY.na.1,CY.na.2.1⟩
 obtain ⟨a14,fd,F⟩:=d60
 have e:=hfa.symm.trans (BU X G a14)
 cases e
 obtain ⟨oc,od,kV,doc,pm,an,cdv,ct,osl,rfl,lk,hcd⟩:=id F.ex
 refine ⟨PySem.W.fnOf "law" "law" (cu o8) (cj o8) (aj o8) .none kV doc pm an cdv ct,fun s v=>.of_eq rfl,fun base _ _=>?_⟩
 have RI:Bg l.prog w K mg base fR:=by
  obtain ⟨⟨fd,F⟩,_⟩:=mR
  exact ⟨fd,F.binds (fun _ _ _ _ _ _=>by exact ls2 fun _ _=>rfl),Ab F TX⟩
 obtain ⟨⟨fdK,FK0⟩,_⟩:=id mK
 have FK:FnOk l.prog w K mg base bu 2 fK fdK ["self","name"] (vf cK):=Ac FK0 TX RI
 have BK:Binds K fdK ["self","name"] []:=FK0.binds (fun _ _ _ _ _ _=>by exact ls2 fun _ _=>rfl)
 have WH:=fn_mk (P:=l.prog) (w:=w) (base:=base) X G d1 (fun _ _ _ _ _ _=>by exact ls1 fun _=>rfl) (fun fd F=>qK F B)
 have WI:=fn_mk (P:=l.prog) (w:=w) (base:=base) X G d2 (fun _ _ _ _ _ _=>by exact ls3 fun _ _ _=>rfl) (fun fd F=>pc F WH)
 have NM:=fn_mk (P:=l.prog) (w:=w) (base:=base) X G d4 (fun _ _ _ _ _ _=>by exact ls1 fun _=>rfl) (fun fd F=>uB F B CN)
 have NU:=fn_mk (P:=l.prog) (w:=w) (base:=base) X G d0 (fun _ _ _ _ _ _=>by exact ls1 fun _=>rfl) (fun fd F=>lA F B (BU X G n_FIGURES) (BU X G n_MOST_FIGURES))
 have RM:Rm l.prog w K mg base cR:=⟨RC,(mth_mk (P:=l.prog) (w:=w) (mg:=mg) (base:=base) h_look M_look (fun _ _ _ _ _ _=>by exact ls1 fun _=>rfl) (fun fd F=>um F RC)),(mth_mk (P:=l.prog) (w:=w) (mg:=mg) (base:=base) h_take M_take (fun _ _ _ _ _ _=>by exact ls1 fun _=>rfl) (fun fd F=>zK F RC))⟩
 have RM2:tD l.prog w K mg base cR:=⟨RM,(mth_mk (P:=l.prog) (w:=w) (mg:=mg) (base:=base) h_need M_need (fun _ _ _ _ _ _=>by exact ls2 fun _ _=>rfl) (fun fd F=>uo F RM)),(mth_mk (P:=l.prog) (w:=w) (mg:=mg) (base:=base) h_need_name M_need_name (fun _ _ _ _ _ _=>by exact ls1 fun _=>rfl) (fun fd F=>li F RM NM)),(mth_mk (P:=l.prog) (w:=w) (mg:=mg) (base:=base) h_need_number M_need_number (fun _ _ _ _ _ _=>by exact ls3 fun _ _ _=>rfl) (fun fd F=>i8 F RM NU WI)),(mth_mk (P:=l.prog) (w:=w) (mg:=mg) (base:=base) h_need_end M_need_end (fun _ _ _ _ _ _=>by exact ls1 fun _=>rfl) (fun fd F=>mI F RM B))⟩
 obtain ⟨fdR,INR,bIR⟩:=ini_mk (P:=l.prog) (w:=w) (mg:=mg) (base:=base) IR (fun _ _ _ _ _ _=>by exact ls2 fun _ _=>rfl) (fun fd F=>qP F RC B (BU X G n_MOST_TOKENS))
 obtain ⟨fdT,INT,bIT⟩:=ini_mk (P:=l.prog) (w:=w) (mg:=mg) (base:=base) IT (fun _ _ _ _ _ _=>by exact ls8 fun _ _ _ _ _ _ _ _=>rfl) (fun fd F=>rf F TC B)
 have BO:=fn_mk (P:=l.prog) (w:=w) (base:=base) X G d6 (fun _ _ _ _ _ _=>by exact ls4 fun _ _ _ _=>rfl) (fun fd F=>mJ F RM2)
 have NA:=fn_mk (P:=l.prog) (w:=w) (base:=base) X G d7 (fun _ _ _ _ _ _=>by exact ls4 fun _ _ _ _=>rfl) (fun fd F=>qM F RM2 B)
 have FL:=fn_mk (P:=l.prog) (w:=w) (base:=base) X G d10 (fun _ _ _ _ _ _=>by exact ls1 fun _=>rfl) (fun fd F=>qN F RM2 Z)
 have EN:=fn_mk (P:=l.prog) (w:=w) (base:=base) X G d13 (fun _ _ _ _ _ _=>by exact ls1 fun _=>rfl) (fun fd F=>xf F RM2 Z)
 have LF:=fn_mk (P:=l.prog) (w:=w) (base:=base) X G d12 (fun _ _ _ _ _ _=>by exact ls2 fun _ _=>rfl) (fun fd F=>ur F RM2 Z B EN)
 have BD:=fn_mk (P:=l.prog) (w:=w) (base:=base) X G d11 (fun _ _ _ _ _ _=>by exact ls3 fun _ _ _=>rfl) (fun fd F=>ut F RM2 Z LF)
 have FS:=fn_mk (P:=l.prog) (w:=w) (base:=base) X G d9 (fun _ _ _ _ _ _=>by exact ls1 fun _=>rfl) (fun fd F=>ph F RM2 Z B FL)
 have KD:=fn_mk (P:=l.prog) (w:=w) (base:=base) X G d8 (fun _ _ _ _ _ _=>by exact ls2 fun _ _=>rfl) (fun fd F=>uu F RM2 FS BD)
 have RF:=fn_mk (P:=l.prog) (w:=w) (base:=base) X G d5 (fun _ _ _ _ _ _=>by exact ls1 fun _=>rfl) (fun fd F=>ux F RM2 Z B CR.mk_ (BU X G CR.ns) INR bIR BO NA KD)
 have AN:=fn_mk (P:=l.prog) (w:=w) (base:=base) X G d15 (fun _ _ _ _ _ _=>by exact ls4 fun _ _ _ _=>rfl) (fun fd F=>mW F)
 have NK:=fn_mk (P:=l.prog) (w:=w) (base:=base) X G d16 (fun _ _ _ _ _ _=>by exact ls3 fun _ _ _=>rfl) (fun fd F=>jW F)
 have EO:=fn_mk (P:=l.prog) (w:=w) (base:=base) X G d20 (fun _ _ _ _ _ _=>by exact ls2 fun _ _=>rfl) (fun fd F=>qS F)
 have SO:Fn l.prog w K mg base "set_of" 1 ["names","given"] xg:=fn_mk (P:=l.prog) (w:=w) (base:=base) X G d21 (fun _ _ _ _ _ _=>by exact ls2 fun _ _=>rfl) (fun fd F=>uy)
 have DO:=fn_mk (P:=l.prog) (w:=w) (base:=base) X G d19 (fun _ _ _ _ _ _=>by exact ls2 fun _ _=>rfl) (fun fd F=>pq F B EO SO)
 have NW:=fn_mk (P:=l.prog) (w:=w) (base:=base) X G d18 (fun _ _ _ _ _ _=>by exact ls2 fun _ _=>rfl) (fun fd F=>xt F B3 AN)
 have KN:=fn_mk (P:=l.prog) (w:=w) (base:=base) X G d17 (fun _ _ _ _ _ _=>by exact ls2 fun _ _=>rfl) (fun fd F=>zQ F B NW DO)
 have TF:=fn_mk (P:=l.prog) (w:=w) (base:=base) X G d14 (fun _ _ _ _ _ _=>by exact ls1 fun _=>rfl) (fun fd F=>zS F B B3 CT.mk_ (BU X G CT.ns) INT bIT AN NK KN)
 have SG:=fn_mk (P:=l.prog) (w:=w) (base:=base) X G d23 (fun _ _ _ _ _ _=>by exact ls2 fun _ _=>rfl) (fun fd F=>uH F CT2)
 have RN:=fn_mk (P:=l.prog) (w:=w) (base:=base) X G d24 (fun _ _ _ _ _ _=>by exact ls2 fun _ _=>rfl) (fun fd F=>xq F CT2 SG)
 have TO:=fn_mk (P:=l.prog) (w:=w) (base:=base) X G d22 (fun _ _ _ _ _ _=>by exact ls1 fun _=>rfl) (fun fd F=>uI F CT2 SG RN)
 have RT:=fn_mk (P:=l.prog) (w:=w) (base:=base) X G d25 (fun _ _ _ _ _ _=>by exact ls1 fun _=>rfl) (fun fd F=>zT F B (BU X G n_MOST_SIGNS) TO RF TF)
 have KA:sO l.prog w K mg base cT "kind_at" 4 ["self","kind"] (kq K cT cK):=(mthx_mk (P:=l.prog) (w:=w) (mg:=mg) (base:=base) h_kind_at M_kind_at (fun _ _ _ _ _ _=>by exact ls2 fun _ _=>rfl) (fun fd F=>sN F TC TX FK BK))
 have FO:sO l.prog w K mg base cT "fields_of" 5 ["self","kind"] (sP K cT cK):=(mthx_mk (P:=l.prog) (w:=w) (mg:=mg) (base:=base) h_fields_of M_fields_of (fun _ _ _ _ _ _=>by exact ls2 fun _ _=>rfl) (fun fd F=>yE F TC KA))
 have WHT:=fn_mk (P:=l.prog) (w:=w) (base:=base) X G d1 (fun _ _ _ _ _ _=>by exact ls1 fun _=>rfl) (fun fd F=>ok_wholeT F B)
 have WIT:=fn_mk (P:=l.prog) (w:=w) (base:=base) X G d2 (fun _ _ _ _ _ _=>by exact ls3 fun _ _ _=>rfl) (fun fd F=>ok_withinT F WHT)
 have NMT:=fn_mk (P:=l.prog) (w:=w) (base:=base) X G d4 (fun _ _ _ _ _ _=>by exact ls1 fun _=>rfl) (fun fd F=>ok_nameT F B CNT)
 have OP:=fn_mk (P:=l.prog) (w:=w) (base:=base) X G d29 (fun _ _ _ _ _ _=>by exact ls0 rfl) (fun fd F=>ok_ops F B ZC)
 have HD:=fn_mk (P:=l.prog) (w:=w) (base:=base) X G d30 (fun _ _ _ _ _ _=>by exact ls3 fun _ _ _=>rfl) (fun fd F=>ok_headed F B)
 have IN:=fn_mk (P:=l.prog) (w:=w) (base:=base) X G d31 (fun _ _ _ _ _ _=>by exact ls1 fun _=>rfl) (fun fd F=>ok_inner F ZC WIT)
 have FI:=fn_mk (P:=l.prog) (w:=w) (base:=base) X G d32 (fun _ _ _ _ _ _=>by exact ls1 fun _=>rfl) (fun fd F=>ok_fieldT F ZC WIT)
 have AD:=fn_mk (P:=l.prog) (w:=w) (base:=base) X G d33 (fun _ _ _ _ _ _=>by exact ls1 fun _=>rfl) (fun fd F=>ok_addr F ZC WIT)
 have SE:=fn_mk (P:=l.prog) (w:=w) (base:=base) X G d34 (fun _ _ _ _ _ _=>by exact ls1 fun _=>rfl) (fun fd F=>ok_sel F ZC WIT HD FI)
 have SO9:=fn_mk (P:=l.prog) (w:=w) (base:=base) X G d35 (fun _ _ _ _ _ _=>by exact ls1 fun _=>rfl) (fun fd F=>ok_source F ZC WIT HD FI IN)
 have IS:=fn_mk (P:=l.prog) (w:=w) (base:=base) X G d36 (fun _ _ _ _ _ _=>by exact ls1 fun _=>rfl) (fun fd F=>ok_isStep F HD IN SE SO9 OP)
 have EN9:=fn_mk (P:=l.prog) (w:=w) (base:=base) X G d37 (fun _ _ _ _ _ _=>by exact ls1 fun _=>rfl) (fun fd F=>ok_isEnd F (BU X G n_OWN_FAULTS) q_OWN_FAULTS HD FI NMT)
 have WO:=fn_mk (P:=l.prog) (w:=w) (base:=base) X G d38 (fun _ _ _ _ _ _=>by exact ls1 fun _=>rfl) (fun fd F=>ok_wayOn F HD AD IN EN9)
 have IL:=fn_mk (P:=l.prog) (w:=w) (base:=base) X G d39 (fun _ _ _ _ _ _=>by exact ls1 fun _=>rfl) (fun fd F=>ok_isLittle F B ZC IS WO)
 have J0:=ini_mk (P:=l.prog) (w:=w) (mg:=mg) (base:=base) I0 (fun _ _ _ _ _ _=>by exact ls3 fun _ _ _=>rfl) (fun fd F=>ok_I0 F T)
 have J1:=ini_mk (P:=l.prog) (w:=w) (mg:=mg) (base:=base) I1 (fun _ _ _ _ _ _=>by exact ls3 fun _ _ _=>rfl) (fun fd F=>ok_I1 F T)
 have J2:=ini_mk (P:=l.prog) (w:=w) (mg:=mg) (base:=base) I2 (fun _ _ _ _ _ _=>by exact ls3 fun _ _ _=>rfl) (fun fd F=>ok_I2 F T)
 have J3:=ini_mk (P:=l.prog) (w:=w) (mg:=mg) (base:=base) I3 (fun _ _ _ _ _ _=>by exact ls5 fun _ _ _ _ _=>rfl) (fun fd F=>ok_I3 F T)
 have J4:=ini_mk (P:=l.prog) (w:=w) (mg:=mg) (base:=base) I4 (fun _ _ _ _ _ _=>by exact ls3 fun _ _ _=>rfl) (fun fd F=>ok_I4 F T)
 have J5:=ini_mk (P:=l.prog) (w:=w) (mg:=mg) (base:=base) I5 (fun _ _ _ _ _ _=>by exact ls3 fun _ _ _=>rfl) (fun fd F=>ok_I5 F T)
 have J6:=ini_mk (P:=l.prog) (w:=w) (mg:=mg) (base:=base) I6 (fun _ _ _ _ _ _=>by exact ls3 fun _ _ _=>rfl) (fun fd F=>ok_I6 F T)
 have JY:=ini_mk (P:=l.prog) (w:=w) (mg:=mg) (base:=base) IY (fun _ _ _ _ _ _=>by exact ls3 fun _ _ _=>rfl) (fun fd F=>uW F B CY.cls CY.na.1 CY.na.2.1)
 have M:Bw l.prog w K mg base (seven c0 c1 c2 c3 c4 c5 c6):=⟨T.cls,lt7 (mth_mk t0 Q0 (fun _ _ _ _ _ _=>by exact ls1 fun _=>rfl) (fun fd F=>ok_To0 F T)) (mth_mk t1 Q1 (fun _ _ _ _ _ _=>by exact ls1 fun _=>rfl) (fun fd F=>ok_To1 F T)) (mth_mk t2 Q2 (fun _ _ _ _ _ _=>by exact ls1 fun _=>rfl) (fun fd F=>ok_To2 F T)) (mth_mk t3 Q3 (fun _ _ _ _ _ _=>by exact ls1 fun _=>rfl) (fun fd F=>ok_To3 F T)) (mth_mk t4 Q4 (fun _ _ _ _ _ _=>by exact ls1 fun _=>rfl) (fun fd F=>ok_To4 F T)) (mth_mk t5 Q5 (fun _ _ _ _ _ _=>by exact ls1 fun _=>rfl) (fun fd F=>ok_To5 F T)) (mth_mk t6 Q6 (fun _ _ _ _ _ _=>by exact ls1 fun _=>rfl) (fun fd F=>ok_To6 F T))⟩
 have MP:Bx l.prog w K mg base (seven c0 c1 c2 c3 c4 c5 c6):=⟨T.cls,lt7 (mth_mk htg0 Mtg0 (fun _ _ _ _ _ _=>by exact ls1 fun _=>rfl) (fun fd F=>xS F T)) (mth_mk htg1 Mtg1 (fun _ _ _ _ _ _=>by exact ls1 fun _=>rfl) (fun fd F=>xU F T)) (mth_mk htg2 Mtg2 (fun _ _ _ _ _ _=>by exact ls1 fun _=>rfl) (fun fd F=>xW F T)) (mth_mk htg3 Mtg3 (fun _ _ _ _ _ _=>by exact ls1 fun _=>rfl) (fun fd F=>xY F T)) (mth_mk htg4 MtgB (fun _ _ _ _ _ _=>by exact ls1 fun _=>rfl) (fun fd F=>xZ F T)) (mth_mk htg5 MtgB (fun _ _ _ _ _ _=>by exact ls1 fun _=>rfl) (fun fd F=>x6 F T)) (mth_mk htg6 MtgB (fun _ _ _ _ _ _=>by exact ls1 fun _=>rfl) (fun fd F=>x9 F T)),lt7 (mth_mk hsr0 MsrB (fun _ _ _ _ _ _=>by exact ls1 fun _=>rfl) (fun fd F=>ya F T)) (mth_mk hsr1 MsrB (fun _ _ _ _ _ _=>by exact ls1 fun _=>rfl) (fun fd F=>yb F T)) (mth_mk hsr2 Msr2 (fun _ _ _ _ _ _=>by exact ls1 fun _=>rfl) (fun fd F=>yd F T)) (mth_mk hsr3 Msr3 (fun _ _ _ _ _ _=>by exact ls1 fun _=>rfl) (fun fd F=>yf F T)) (mth_mk hsr4 Msr4 (fun _ _ _ _ _ _=>by exact ls1 fun _=>rfl) (fun fd F=>yh F T)) (mth_mk hsr5 Msr5 (fun _ _ _ _ _ _=>by exact ls1 fun _=>rfl) (fun fd F=>yj F T)) (mth_mk hsr6 Msr6 (fun _ _ _ _ _ _=>by exact ls1 fun _=>rfl) (fun fd F=>yl F T)),lt7 (mth_mk hse0 Mse0 (fun _ _ _ _ _ _=>by exact ls1 fun _=>rfl) (fun fd F=>yn F T)) (mth_mk hse1 Mse1 (fun _ _ _ _ _ _=>by exact ls1 fun _=>rfl) (fun fd F=>yp F T)) (mth_mk hse2 MseB (fun _ _ _ _ _ _=>by exact ls1 fun _=>rfl) (fun fd F=>yq F T)) (mth_mk hse3 MseB (fun _ _ _ _ _ _=>by exact ls1 fun _=>rfl) (fun fd F=>yr F T)) (mth_mk hse4 Mse4 (fun _ _ _ _ _ _=>by exact ls1 fun _=>rfl) (fun fd F=>yu F T)) (mth_mk hse5 Mse5 (fun _ _ _ _ _ _=>by exact ls1 fun _=>rfl) (fun fd F=>yx F T)) (mth_mk hse6 MseB (fun _ _ _ _ _ _=>by exact ls1 fun _=>rfl) (fun fd F=>yy F T))⟩
 have SF:=fn_mk (P:=l.prog) (w:=w) (base:=base) X G d40 (fun _ _ _ _ _ _=>by exact ls1 fun _=>rfl) (fun fd F=>ok_stepOf F T IS J0 J1 J2 J3 J4 J5 J6)
 have LOF:=fn_mk (P:=l.prog) (w:=w) (base:=base) X G d41 (fun _ _ _ _ _ _=>by exact ls1 fun _=>rfl) (fun fd F=>lG F IL SF CY.mk_ (BU X G CY.ns) JY)
 have MTO:dB l.prog w K mg base cY "told" 2 ["self"] (rW (seven c0 c1 c2 c3 c4 c5 c6) cY):=mth_mk tY QY (fun _ _ _ _ _ _=>by exact ls1 fun _=>rfl) (fun fd F=>rX F B LC M)
 have WD:=fn_mk (P:=l.prog) (w:=w) (base:=base) X G d3 (fun _ _ _ _ _ _=>by exact ls2 fun _ _=>rfl) (fun fd F=>Aa F WIT)
 have HF:=fn_mk (P:=l.prog) (w:=w) (base:=base) X G d46 (fun _ _ _ _ _ _=>by exact ls3 fun _ _ _=>rfl) (fun fd F=>u8 F B)
 have SEL:=fn_mk (P:=l.prog) (w:=w) (base:=base) X G d44 (fun _ _ _ _ _ _=>by exact ls4 fun _ _ _ _=>rfl) (fun fd F=>u9 F B TC HF)
 have SRC:=fn_mk (P:=l.prog) (w:=w) (base:=base) X G d45 (fun _ _ _ _ _ _=>by exact ls4 fun _ _ _ _=>rfl) (fun fd F=>ve F TC HF WD)
 have ONF:=fn_mk (P:=l.prog) (w:=w) (base:=base) X G d47 (fun _ _ _ _ _ _=>by exact ls3 fun _ _ _=>rfl) (fun fd F=>yI F HF)
 have STF:=fn_mk (P:=l.prog) (w:=w) (base:=base) X G d43 (fun _ _ _ _ _ _=>by exact ls4 fun _ _ _ _=>rfl) (fun fd F=>yJ F B MP SEL SRC)
 have FT:=fnx_mk (P:=l.prog) (w:=w) (base:=base) X G d42 (fun _ _ _ _ _ _=>by exact ls4 fun _ _ _ _=>rfl) (fun fd F=>vj F B TC LC FO STF ONF)
 have CL:=fn_mk (P:=l.prog) (w:=w) (base:=base) X G d26 (fun _ _ _ _ _ _=>by exact ls2 fun _ _=>rfl) (fun fd F=>uk F B)
 have ST:=fn_mk (P:=l.prog) (w:=w) (base:=base) X G d27 (fun _ _ _ _ _ _=>by exact ls1 fun _=>rfl) (fun fd F=>o9 F B)
 have TK1:=fn_mk (P:=l.prog) (w:=w) (base:=base) X G d28 (fun _ _ _ _ _ _=>by exact ls2 fun _ _=>rfl) (fun fd F=>ul F)
 have LFI:=fn_mk (P:=l.prog) (w:=w) (base:=base) X G d48 (fun _ _ _ _ _ _=>by exact ls1 fun _=>rfl) (fun fd F=>yN F TK1)
 have WS:=fn_mk (P:=l.prog) (w:=w) (base:=base) X G d49 (fun _ _ _ _ _ _=>by exact ls1 fun _=>rfl) (fun fd F=>yQ F B TK1 LFI RT)
 have FD:=fn_mk (P:=l.prog) (w:=w) (base:=base) X G d50 (fun _ _ _ _ _ _=>by exact ls3 fun _ _ _=>rfl) (fun fd F=>yR F B TK1)
 have LSE:=fn_mk (P:=l.prog) (w:=w) (base:=base) X G d51 (fun _ _ _ _ _ _=>by exact ls4 fun _ _ _ _=>rfl) (fun fd F=>yS (C:=cT) F B TK1 FD)
 have LSO:=fn_mk (P:=l.prog) (w:=w) (base:=base) X G d52 (fun _ _ _ _ _ _=>by exact ls4 fun _ _ _ _=>rfl) (fun fd F=>yU (C:=cT) F B TK1 FD)
 have LST:=fn_mk (P:=l.prog) (w:=w) (base:=base) X G d53 (fun _ _ _ _ _ _=>by exact ls4 fun _ _ _ _=>rfl) (fun fd F=>yV F B TK1 LSE LSO)
 have LON:=fn_mk (P:=l.prog) (w:=w) (base:=base) X G d54 (fun _ _ _ _ _ _=>by exact ls4 fun _ _ _ _=>rfl) (fun fd F=>yW (C:=cT) F B TK1 FD)
 have LLI:=fn_mk (P:=l.prog) (w:=w) (base:=base) X G d55 (fun _ _ _ _ _ _=>by exact ls3 fun _ _ _=>rfl) (fun fd F=>yX F B TK1 LST LON)
 have PF:=fn_mk (P:=l.prog) (w:=w) (base:=base) X G d56 (fun _ _ _ _ _ _=>by exact ls4 fun _ _ _ _=>rfl) (fun fd F=>yZ (C:=cT) F B)
 have DUE:=fn_mk (P:=l.prog) (w:=w) (base:=base) X G d57 (fun _ _ _ _ _ _=>by exact ls3 fun _ _ _=>rfl) (fun fd F=>vq F B PF)
 have NO:=fn_mk (P:=l.prog) (w:=w) (base:=base) X G d58 (fun _ _ _ _ _ _=>by exact ls3 fun _ _ _=>rfl) (fun fd F=>vx F B TX FT)
 have AS:=fn_mk (P:=l.prog) (w:=w) (base:=base) X G d59 (fun _ _ _ _ _ _=>by exact ls4 fun _ _ _ _=>rfl) (fun fd F=>pI F B FT.calm DUE)
 exact ok_law F B (Ci X G z_reversed) LC CL ST TK1 WS LLI LOF AS NO MTO
end L3
namespace PySem.W.Fast
def tw8722308434196630078:=0
def tw3731773889644955732:=0
def tw3632596538356899005:=0
def tw8199793803729355156:=0
def tw17947028918515605050:=0
def tw3178513001532623827:=0
def tw6847805787935054090:=0
def tw13065823336463981358:=0
def tw8255141845016598136:=0
def tw836760694953721431:=0
def tw7567659454369693299:=0
def tw14378227978055450594:=0
def tw14723131928300526926:=0
def tw17846128955918144706:=0
def tw6616584710492995615:=0
def tw11454987830440705375:=0
def tw2392638326792139063:=0
def tw5931182681767783945:=0
def tw17673897086390343663:=0
def tw16091448057303849610:=0
def tw12443999751670962432:=0
def tw8210689295011328512:=0
def tw13569844126572068885:=0
def tw6420312558561146171:=0
def tw4814383946366575010:=0
def tw12535703920315308568:=0
def tw3521752095429654886:=0
def tw3275262664107051081:=0
def tw12027537557220547709:=0
def tw6332964977325599715:=0
def tw16358375259838471432:=0
def tw14241728161474962274:=0
def tw6137016735606898749:=0
def tw470085870069974838:=0
def tw11964407105313570656:=0
def tw1370951687747396536:=0
def tw5769471811677345328:=0
def tw15545166550704548478:=0
def tw3006504830447976680:=0
def tw6238563449749002503:=0
def tw10938153854398999550:=0
def tw17499342789494491017:=0
def tw10890448765523498846:=0
def tw14932074988342974217:=0
def tw5758644369154374773:=0
def tw6051140515647272532:=0
def tw710390138386614230:=0
def tw12851343816531768380:=0
def tw17148944342388121308:=0
def tw13316280234286913710:=0
def tw3848298371395352884:=0
def tw12863385439385932480:=0
def tw1915157286396257205:=0
def tw15167925438478700593:=0
def tw4003694360252033379:=0
def tw14865425502834437923:=0
def tw15944747593098444068:=0
def tw1281171013014529039:=0
def tw14772069049502966478:=0
def tw16246196661362119850:=0
def tw1551544085943250900:=0
def tw12144352856995334087:=0
def tw3562220258903329118:=0
def tw7665232009388334968:=0
def tw9923284457314912579:=0
def tw15797871392138875878:=0
def tw5387934869173078974:=0
def tw17779822652191727101:=0
def tw18403383078921462083:=0
def tw7867857883118164931:=0
def tw16965543315761448845:=0
def tw899073674950738176:=0
def tw17739988570848338407:=0
def tw7677950068269743471:=0
def tw11735786780317675631:=0
def tw13793518558606497344:=0
def tw6750541155255164053:=0
def tw14642038592125556381:=0
def tw11436418957862638797:=0
def tw12270487244650648794:=0
def tw18116884903635500673:=0
def tw529588401121094412:=0
def tw7208218056712061864:=0
def tw12254324607516896247:=0
def tw13873661369607733017:=0
def tw16358179858346295430:=0
def tw14949899335755984225:=0
def tw8176804798415810879:=0
def tw8978111536975344115:=0
def tw1129853758447392141:=0
def tw13529667937341980727:=0
def tw4010111437823225653:=0
def tw2469549974714221243:=0
def tw2569242664004575296:=0
def tw10421718458226737220:=0
def tw13627682747420238836:=0
def tw9578081469867366798:=0
def tw18135293544161853380:=0
def tw3167924814615988242:=0
def tw16561768089917568216:=0
def tw2155415010055478326:=0
def tw1919814830185890066:=0
def tw4493087747840658432:=0
def tw17327423409215913891:=0
def tw4154013795696925511:=0
def tw9439411161637189341:=0
def tw10238263585440506071:=0
def tw12293055641914498327:=0
def tw3282583222785751752:=0
def tw16745846498509011466:=0
def tw5373262445164307668:=0
def tw9370097709370456510:=0
def tw13648859844262747518:=0
def tw10962111721012452327:=0
def tw15167222100192390338:=0
def tw1009197805594463805:=0
def tw4375265222691141678:=0
def tw1189876556417570839:=0
def tw6072005630775000938:=0
def tw13738884886447846767:=0
def tw10460947338462413923:=0
def tw6234213553901471336:=0
def tw5535396447800448002:=0
def tw15463402089638665069:=0
def tw14822505117690106961:=0
def tw1791652275889036556:=0
def tw11081683421438326226:=0
def tw16726102681546507978:=0
def tw14983558380066844167:=0
def tw9557344802220302225:=0
def tw10100504153940852841:=0
def tw17875304998966103611:=0
def tw17337224675144644620:=0
def tw18380114609775649279:=0
def tw7790969512278254503:=0
def tw6079167168863218189:=0
def tw12699894254785166637:=0
def tw3468439783930821907:=0
def tw12992715670924480953:=0
def tw3882163405865518911:=0
def tw14357188117195673128:=0
def tw5436385761384651108:=0
def tw10186814247445961623:=0
def tw6683221645481872817:=0
def tw2935368365615072666:=0
def tw3664410419992693971:=0
def tw5572272438507488188:=0
def tw7693599598567027591:=0
def tw8450451586012789084:=0
def tw13630773764898932770:=0
def tw89517035584575723:=0
def tw13895674110299047684:=0
def tw1266006535458034629:=0
def tw12423172438593171956:=0
def tw6878163352960182263:=0
def tw2384862913022115747:=0
def tw11535398564336301477:=0
def tw8386513186807754359:=0
def tw9662371818810644454:=0
def tw13829160144906239402:=0
def tw14091321557863051257:=0
def tw6773263964249596057:=0
def tw1799001973828642966:=0
def tw2580158847826889914:=0
def tw7103945305098801187:=0
def tw3789468883105375070:=0
def tw16440808112205175426:=0
def tw3075445151511329684:=0
def tw6512109484737476551:=0
def tw17399992796447639999:=0
def tw4295565592141373083:=0
def tw1393861072906436184:=0
def tw747172369789351962:=0
def tw13199453967401042876:=0
def tw11096570298770564581:=0
def tw8346424530261105495:=0
def tw2526685276334783829:=0
def tw7647901816738282617:=0
def tw8909743921712046783:=0
def tw13596851377616213734:=0
def tw308179669797679809:=0
def tw16861227070217499498:=0
def tw1748104517527087328:=0
def tw7211346346569481988:=0
def tw675651910142527091:=0
def tw4337984466304178369:=0
def tw16166322741014058902:=0
def tw14174289030490788195:=0
def tw425440593621611776:=0
def tw17931473094721025799:=0
def tw18339092879034873920:=0
def tw14644795283938767971:=0
def tw5309893688027905514:=0
def tw11000877128573946151:=0
def tw8241623258203495478:=0
def tw9715527990098089977:=0
def tw2770735831091779102:=0
def tw16476100543136791216:=0
def tw16384038194019591214:=0
def tw6069714907084444910:=0
def tw8346398576622581864:=0
def tw3008899475368078006:=0
def tw5072580528545761252:=0
def tw7556750132150956867:=0
def tw10209452714591057027:=0
def tw5735583619838100635:=0
def tw5248704300463577733:=0
def tw16063285809121156860:=0
def tw7551171350908322406:=0
def tw4760093134559076510:=0
def tw12952087965327750251:=0
def tw13562814048774706151:=0
def tw10545307844570289458:=0
def tw10675210775474475042:=0
def tw15677089500460430804:=0
def tw3139960995442382469:=0
def tw478793152035479289:=0
def tw15192961140407928164:=0
def tw7241660146616171222:=0
def tw651166678683073432:=0
def tw15978412430543315671:=0
def tw11437351099602582758:=0
def tw4042336182576207701:=0
def tw4913756348332320082:=0
def tw10761720878894156042:=0
def tw9019942050255577859:=0
def tw17872003785529929557:=0
def tw763100230711845896:=0
def tw4695441837220431614:=0
def tw16796976549379106203:=0
def tw16706502992230575177:=0
def tw3391008680618609525:=0
def tw17742570688599945631:=0
def tw7649510613565936109:=0
def tw4495274155903214645:=0
def tw6413423754975908917:=0
def tw17932712974190162719:=0
def tw17971818846802608095:=0
def tw6845047798363112649:=0
def tw6740771444077753167:=0
def tw4063714926699822909:=0
def tw6738857499543268410:=0
def tw5094687362047831455:=0
def tw12053374185901695433:=0
def tw2411293967206875437:=0
def tw3383224809233562792:=0
def tw17693578644219243358:=0
def tw4887285838601023151:=0
def tw2544855658189527746:=0
def tw4129218804946701766:=0
def tw14829473989852720536:=0
def tw13872772899840547187:=0
def tw3147968824254626506:=0
def tw2914200967124174632:=0
def tw4364425586638761035:=0
def tw3480632671501999982:=0
def tw17539357733417849692:=0
def tw15299648748022529861:=0
def tw14983290209365639858:=0
def tw10328694449987693947:=0
def tw4398192110771879426:=0
def tw16535941263987326554:=0
def tw11952129425851318411:=0
def tw17996553777597423686:=0
def tw846910784846197558:=0
def tw11497122728810450372:=0
def tw11902190698883022485:=0
def tw18278843664727942304:=0
def tw4414363177849521519:=0
def tw2698750266166434020:=0
def tw11455114656514839065:=0
def tw16915341906179768858:=0
def tw10433218372865595636:=0
def tw2309610300327258176:=0
def tw7663702711335979294:=0
def tw8911626495246581460:=0
def tw1590267372066787213:=0
def tw6242085793423034932:=0
def tw3159821328063568330:=0
def tw11302610296554945010:=0
def tw17675912731592756122:=0
def tw3165954088558193625:=0
def tw17034221884768730669:=0
def tw9766755842299184602:=0
def tw10849894169454907249:=0
def tw9137085621051985339:=0
def tw6567906420132043914:=0
def tw5343361541391159377:=0
def tw4045342051456490030:=0
def tw9372565594236299062:=0
def tw15691673341810343465:=0
def tw3849295797815020595:=0
def tw13804425826937092118:=0
def tw12972170976220561646:=0
def tw12663800434020045880:=0
def tw5091483897548856608:=0
def tw16418494162766445086:=0
def tw7820546222881447983:=0
def tw2979040005249798609:=0
def tw16985708361545607120:=0
def tw7841014623971449985:=0
def tw9019481573519531061:=0
def tw3494937720941757904:=0
def tw13478353743281903266:=0
def tw17382712548347989054:=0
def tw16334472856499953966:=0
def tw15579789215057652320:=0
def tw15301334804273566481:=0
def tw9964948389595014336:=0
def tw15366839741894122790:=0
def tw7671048029000578491:=0
def tw12480506185952409934:=0
def tw11032410895690887774:=0
def tw11593720845069145532:=0
def tw6453309790195138551:=0
def tw3947023651130061012:=0
def tw9895765353418404613:=0
def tw4302512459383309096:=0
def tw10522953580200156976:=0
def tw4488771531506788796:=0
def tw4050615215141095752:=0
def tw12301753753196669485:=0
def tw11650583080607193724:=0
def tw17894872467593333753:=0
def tw15284093035981036611:=0
def tw1745495456866847337:=0
def tw15575650167090053367:=0
def tw2147605390869845400:=0
def tw16498310059593466611:=0
def tw16236944592754509003:=0
def tw4353273720588154359:=0
def tw15211943014388756943:=0
def tw15974331809245166785:=0
def tw17967867128809267914:=0
def tw16363600291756685942:=0
def tw6137796926794090800:=0
def tw3085181142031322339:=0
def tw17852024352436314632:=0
def tw10428081608093202828:=0
def tw4243996996639799393:=0
def tw16741219333523465671:=0
def tw10429723419826005714:=0
def tw11492225130982792508:=0
def tw9254919721404466567:=0
def tw5248896297390088293:=0
def tw3439194818332418662:=0
def tw11339796756768261492:=0
def tw4269023460338353420:=0
def tw4277213336201778658:=0
def tw5595988362154122240:=0
def tw3380751484981934151:=0
def tw5677114942465172288:=0
def tw18442011969852700777:=0
def tw7684665061796010140:=0
def tw7739282766005818924:=0
def tw7982867136631580975:=0
def tw16615300027211393047:=0
def tw7968355213682332753:=0
def tw6541534747350571745:=0
def tw5357015689071361099:=0
def tw11183610730172962763:=0
def tw141769178097447564:=0
def tw3672871120580575651:=0
def tw14168251179545946537:=0
def tw6235901985758794032:=0
def tw9993378269768641574:=0
def tw8217351404400439852:=0
def tw222037054767476919:=0
def tw2025454000024747129:=0
def tw13906373341065700109:=0
def tw11683301444116825536:=0
def tw8161278741733386321:=0
def tw6487949901183356527:=0
def tw15525690207604942625:=0
def tw12360403189938295770:=0
def tw3065275359464994209:=0
def tw18047218602394212763:=0
def tw11238655960960589886:=0
def tw11850948193461458275:=0
def tw12511418022981464612:=0
def tw1328789434534459727:=0
def tw6360545248406729544:=0
def tw4192075979698227384:=0
def tw18004893817389800784:=0
def tw12904753914880556278:=0
def tw420046641423002272:=0
def tw392930733674122054:=0
def tw16582739360171744286:=0
def tw795721906304366677:=0
def tw4563587431264481096:=0
def tw11668021875634182762:=0
def tw7073759956563931688:=0
def tw3285429807254506208:=0
def tw2093692167101058934:=0
def tw18136753384328847604:=0
def tw342662288431044223:=0
def tw14878646444492941402:=0
def tw8435729777307056890:=0
def tw14733720617793536820:=0
def tw12818787250531330191:=0
end PySem.W.Fast
local macro_rules|`(tactic| walk_at "def of the top")=>`(tactic| (refine' L3.def_mk ?a ?l ?c ?k;(case a=>k_is);(case l=>k_is);(case c=>k_is);(case k=>k_is)))
local macro_rules|`(tactic| walk_at "class of refusals")=>`(tactic| (refine' L3.xcl_mk ?tl ?a ?l ?g1 ?g2 ?g3 ?g4;(case a=>k_is);(case l=>k_is);(case tl=>(first|exact L3.tlR|exact L3.tlV));(case g1=>k_is);(case g2=>k_is);(case g3=>k_is);(case g4=>k_is)))
local macro_rules|`(tactic| walk_at "def of a class")=>`(tactic| (refine' L3.min_mk ?l ?c ?k ?n;(case l=>k_is);(case c=>k_is);(case k=>k_is);(case n=>k_is)))
local macro_rules|`(tactic| walk_at "class of 2")=>`(tactic| (refine' L3.ck_mk ?ns ?g1 ?g2 ?g3 ?g4 ?m1 ?m2 ?m3 ?m4 ?na;(case ns=>k_is);(case g1=>k_is);(case g2=>k_is);(case g3=>k_is);(case g4=>k_is);(case m1=>k_is);(case m2=>k_is);(case m3=>k_is);(case m4=>k_is);(case na=>(refine' L3.na2 ?x ?y;(case x=>k_is);(case y=>k_is)))))
local macro_rules|`(tactic| walk_at "class of 4")=>`(tactic| (refine' L3.ck_mk ?ns ?g1 ?g2 ?g3 ?g4 ?m1 ?m2 ?m3 ?m4 ?na;(case ns=>k_is);(case g1=>k_is);(case g2=>k_is);(case g3=>k_is);(case g4=>k_is);(case m1=>k_is);(case m2=>k_is);(case m3=>k_is);(case m4=>k_is);(case na=>(refine' L3.na4 ?x ?y ?z ?u;(case x=>k_is);(case y=>k_is);(case z=>k_is);(case u=>k_is)))))
local macro_rules|`(tactic| walk_at "class of 3")=>`(tactic| (refine' L3.ck_mk ?ns ?g1 ?g2 ?g3 ?g4 ?m1 ?m2 ?m3 ?m4 ?na;(case ns=>k_is);(case g1=>k_is);(case g2=>k_is);(case g3=>k_is);(case g4=>k_is);(case m1=>k_is);(case m2=>k_is);(case m3=>k_is);(case m4=>k_is);(case na=>(refine' L3.na3 ?x ?y ?z;(case x=>k_is);(case y=>k_is);(case z=>k_is)))))
local macro_rules|`(tactic| walk_at "class of 8")=>`(tactic| (refine' L3.ck_mk ?ns ?g1 ?g2 ?g3 ?g4 ?m1 ?m2 ?m3 ?m4 ?na;(case ns=>k_is);(case g1=>k_is);(case g2=>k_is);(case g3=>k_is);(case g4=>k_is);(case m1=>k_is);(case m2=>k_is);(case m3=>k_is);(case m4=>k_is);(case na=>(refine' L3.na8 ?x ?y ?z ?u ?x1 ?y1 ?z1 ?u1;(case x=>k_is);(case y=>k_is);(case z=>k_is);(case u=>k_is);(case x1=>k_is);(case y1=>k_is);(case z1=>k_is);(case u1=>k_is)))))
namespace L2
open PySem PySem.W
def liveO (o : Obj) : Option Obj := match o with
  | ⟨_, _, .freed, _⟩ => none
  | o => some o
noncomputable def pickAt (l : List Obj) : Nat → List Nat → List (Option Obj) :=
  @List.rec Obj (fun _ => Nat → List Nat → List (Option Obj)) (fun _ as => @List.rec Nat (fun _ => List (Option Obj)) [] (fun _ _ _ => [none]) as)
    (fun o _ ih i as => @List.rec Nat (fun _ => List (Option Obj)) [] (fun a r _ => @Bool.rec (fun _ => List (Option Obj)) (ih (Nat.add i 1) (a :: r)) (liveO o :: ih (Nat.add i 1) r) (Nat.beq a i)) as) l
theorem pickAt_ok : ∀ (l : List Obj) (i : Nat) (K : Frag), pickAt l i (K.map (·.1)) = K.map (fun p => some p.2) → ∀ p ∈ K, i ≤ p.1 ∧ (l[p.1 - i]?).bind liveO = some p.2
  | _, _, [], _, p, hp => absurd hp List.not_mem_nil
  | [], i, q :: K, e, p, hp => by
    have e' : [none] = some q.2 :: K.map (fun p => some p.2) := e
    cases e'
  | o :: l, i, q :: K, e, p, hp => by
    have e' : @Bool.rec (fun _ => List (Option Obj)) (pickAt l (i + 1) (q.1 :: K.map (·.1))) (liveO o :: pickAt l (i + 1) (K.map (·.1))) (Nat.beq q.1 i) = some q.2 :: K.map (fun p => some p.2) := e
    have st : ∀ a : Nat, i + 1 ≤ a → (l[a - (i + 1)]?).bind liveO = some p.2 → i ≤ a ∧ ((o :: l)[a - i]?).bind liveO = some p.2 := fun a h1 h2 => by
      refine ⟨by omega, ?_⟩
      rw [show a - i = (a - (i + 1)) + 1 by omega]
      exact h2
    cases h : Nat.beq q.1 i with
    | true =>
      rw [h] at e'
      have e2 : liveO o :: pickAt l (i + 1) (K.map (·.1)) = some q.2 :: K.map (fun p => some p.2) := e'
      have hi := Nat.eq_of_beq_eq_true h
      have h1 := (List.cons.inj e2).1
      rcases List.mem_cons.mp hp with rfl | hp
      · refine ⟨Nat.le_of_eq hi.symm, ?_⟩
        rw [hi, Nat.sub_self, ← h1]
        rfl
      · obtain ⟨a, b⟩ := pickAt_ok l (i + 1) K (List.cons.inj e2).2 p hp
        exact st _ a b
    | false =>
      rw [h] at e'
      obtain ⟨a, b⟩ := pickAt_ok l (i + 1) (q :: K) e' p hp
      exact st _ a b
theorem lookup_mem {K : Frag} {a : Addr} {o : Obj} : K.lookup a = some o → (a, o) ∈ K := by
  induction K with
  | nil => intro h; cases h
  | cons p K ih =>
    intro h
    obtain ⟨b, x⟩ := p
    rw [List.lookup_cons] at h
    cases e : (a == b) with
    | true =>
      rw [e] at h
      have := eq_of_beq e
      subst this
      have := Option.some.inj h
      subst this
      exact List.mem_cons_self
    | false =>
      rw [e] at h
      exact List.mem_cons_of_mem _ (ih h)
theorem inP {K : Params → Frag} {as : List Addr} (e : ∀ P, as = (K P).map (·.1)) (w : World) (s : Shared) (x : pickAt s.heap.objs.toList 0 as = (K w.params).map fun p => some p.2) : InK K w s.heap := by
  intro a o h
  rw [e w.params] at x
  have := (pickAt_ok _ _ _ x _ (lookup_mem h)).2
  rw [Nat.sub_zero, Array.getElem?_toList] at this
  unfold Heap.get?
  cases e : s.heap.objs[a]? with
  | none => rw [e] at this; cases this
  | some z =>
    rw [e] at this
    obtain ⟨c, dd, da, sl⟩ := z
    cases da <;> first | exact this | cases this
noncomputable def kHookP (_ : Unit) (K : Params → Frag) (as : List Addr) (e : ∀ P, as = (K P).map (·.1)) : Hook :=
  ⟨List (Option Obj), fun s => pickAt s.heap.objs.toList 0 as, fun w => (K w.params).map fun p => some p.2, InK K, inP e, InK.keeps⟩
theorem kInP {K : Params → Frag} {as : List Addr} {e : ∀ P, as = (K P).map (·.1)} {w : World} {h : Heap} (Y : (kHookP () K as e).says w h) : (K w.params).In h := Y
end L2
local macro_rules | `(tactic| o_head ($f:ident $k:term $a:term $e:term)) => `(tactic| o_head (L2.kHookP () $k $a $e))
open PySem PySem.W PyProof.Rows
set_option maxRecDepth 100000 in
set_option maxHeartbeats 0 in
theorem PySem.Challenge.cw_rowsbeneath_k20_what_fits_holds : PySem.Challenge.rw_rowsbeneath_k20_what_fits.Holds := by
 w_on;o_law;k_head;(case hw=>w_witness2)
 k_fill
 refine L2.qi (l:=PySem.Challenge.rw_rowsbeneath_k20_what_fits) (n:=63) (k:=10) (x:="_law_script") (CX:=L2.bu) (sp:=L3.spLaw) rfl (by decide) rfl ⟨rfl,by decide,by decide⟩ (fun w h Y=>L2.kInP Y) ?F (fun _ _ a ns hl _ hS=>⟨a,ns,rfl,hS,hl,fun _=>rfl⟩) (fun _ _ _ _ z=>z)
 case F=>
  intro w mg fa h KX G hmg
  refine' L3.all_mk KX G hmg ?d0 ?d1 ?d2 ?d3 ?d4 ?d5 ?d6 ?d7 ?d8 ?d9 ?d10 ?d11 ?d12 ?d13 ?d14 ?d15 ?d16 ?d17 ?d18 ?d19 ?d20 ?d21 ?d22 ?d23 ?d24 ?d25 ?d26 ?d27 ?d28 ?d29 ?d30 ?d31 ?d32 ?d33 ?d34 ?d35 ?d36 ?d37 ?d38 ?d39 ?d40 ?d41 ?d42 ?d43 ?d44 ?d45 ?d46 ?d47 ?d48 ?d49 ?d50 ?d51 ?d52 ?d53 ?d54 ?d55 ?d56 ?d57 ?d58 ?d59 ?d60 ?CR ?IR ?CT ?IT ?h_look ?M_look ?h_take ?M_take ?h_need ?M_need ?h_need_name ?M_need_name ?h_need_number ?M_need_number ?h_need_end ?M_need_end ?h_kind_at ?M_kind_at ?h_fields_of ?M_fields_of ?n_MOST_FIGURES ?n_LONGEST_NAME ?n_MOST_TOKENS ?n_MOST_KINDS ?n_MOST_FIELDS ?n_MOST_SETS ?n_MOST_CHOICES ?n_MOST_SIGNS ?n_HIGHEST_INNER ?n_HIGHEST_WORD ?n_HIGHEST_FIELD ?n_HIGHEST_SELECTED ?n_HIGHEST_ADDRESS ?n_MOST_STEPS ?n_FIGURES ?n_LETTERS ?n_GAPS ?n_SINGLE_SIGNS ?n_OWN_WORDS ?q_OWN_WORDS ?n_SORTS ?q_SORTS ?n_ENDS ?q_ENDS ?n_OWN_FAULTS ?q_OWN_FAULTS ?n_DOUBLE_SIGNS ?q_DOUBLE_SIGNS ?C0 ?I0 ?t0 ?Q0 ?C1 ?I1 ?t1 ?Q1 ?C2 ?I2 ?t2 ?Q2 ?C3 ?I3 ?t3 ?Q3 ?C4 ?I4 ?t4 ?Q4 ?C5 ?I5 ?t5 ?Q5 ?C6 ?I6 ?t6 ?Q6 ?htg0 ?htg1 ?htg2 ?htg3 ?htg4 ?htg5 ?htg6 ?Mtg0 ?Mtg1 ?Mtg2 ?Mtg3 ?MtgB ?hsr0 ?hsr1 ?hsr2 ?hsr3 ?hsr4 ?hsr5 ?hsr6 ?Msr2 ?Msr3 ?Msr4 ?Msr5 ?Msr6 ?MsrB ?hse0 ?hse1 ?hse2 ?hse3 ?hse4 ?hse5 ?hse6 ?Mse0 ?Mse1 ?Mse4 ?Mse5 ?MseB ?CY ?IY ?tY ?QY ?n_OPS ?dO ?lo ?xR ?rd ?ri ?mR ?xK ?aK ?iK ?nK ?pK ?mK ?xB ?z_len ?z_int ?z_max ?z_min ?z_range ?z_isinstance ?z_list ?z_str ?z_bool ?z_tuple ?z_all ?z_dict ?z_enumerate ?z_reversed ?z_ValueError
  (case d0=>walk_at "def of the top")
  (case d1=>walk_at "def of the top")
  (case d2=>walk_at "def of the top")
  (case d3=>walk_at "def of the top")
  (case d4=>walk_at "def of the top")
  (case d5=>walk_at "def of the top")
  (case d6=>walk_at "def of the top")
  (case d7=>walk_at "def of the top")
  (case d8=>walk_at "def of the top")
  (case d9=>walk_at "def of the top")
  (case d10=>walk_at "def of the top")
  (case d11=>walk_at "def of the top")
  (case d12=>walk_at "def of the top")
  (case d13=>walk_at "def of the top")
  (case d14=>walk_at "def of the top")
  (case d15=>walk_at "def of the top")
  (case d16=>walk_at "def of the top")
  (case d17=>walk_at "def of the top")
  (case d18=>walk_at "def of the top")
  (case d19=>walk_at "def of the top")
  (case d20=>walk_at "def of the top")
  (case d21=>walk_at "def of the top")
  (case d22=>walk_at "def of the top")
  (case d23=>walk_at "def of the top")
  (case d24=>walk_at "def of the top")
  (case d25=>walk_at "def of the top")
  (case d26=>walk_at "def of the top")
  (case d27=>walk_at "def of the top")
  (case d28=>walk_at "def of the top")
  (case d29=>walk_at "def of the top")
  (case d30=>walk_at "def of the top")
  (case d31=>walk_at "def of the top")
  (case d32=>walk_at "def of the top")
  (case d33=>walk_at "def of the top")
  (case d34=>walk_at "def of the top")
  (case d35=>walk_at "def of the top")
  (case d36=>walk_at "def of the top")
  (case d37=>walk_at "def of the top")
  (case d38=>walk_at "def of the top")
  (case d39=>walk_at "def of the top")
  (case d40=>walk_at "def of the top")
  (case d41=>walk_at "def of the top")
  (case d42=>walk_at "def of the top")
  (case d43=>walk_at "def of the top")
  (case d44=>walk_at "def of the top")
  (case d45=>walk_at "def of the top")
  (case d46=>walk_at "def of the top")
  (case d47=>walk_at "def of the top")
  (case d48=>walk_at "def of the top")
  (case d49=>walk_at "def of the top")
  (case d50=>walk_at "def of the top")
  (case d51=>walk_at "def of the top")
  (case d52=>walk_at "def of the top")
  (case d53=>walk_at "def of the top")
  (case d54=>walk_at "def of the top")
  (case d55=>walk_at "def of the top")
  (case d56=>walk_at "def of the top")
  (case d57=>walk_at "def of the top")
  (case d58=>walk_at "def of the top")
  (case d59=>walk_at "def of the top")
  (case d60=>walk_at "def of the top")
  (case CR=>walk_at "class of 3")
  (case IR=>walk_at "def of a class")
  (case CT=>walk_at "class of 8")
  (case IT=>walk_at "def of a class")
  (case h_look=>k_is)
  (case M_look=>walk_at "def of a class")
  (case h_take=>k_is)
  (case M_take=>walk_at "def of a class")
  (case h_need=>k_is)
  (case M_need=>walk_at "def of a class")
  (case h_need_name=>k_is)
  (case M_need_name=>walk_at "def of a class")
  (case h_need_number=>k_is)
  (case M_need_number=>walk_at "def of a class")
  (case h_need_end=>k_is)
  (case M_need_end=>walk_at "def of a class")
  (case h_kind_at=>k_is)
  (case M_kind_at=>walk_at "def of a class")
  (case h_fields_of=>k_is)
  (case M_fields_of=>walk_at "def of a class")
  (case n_MOST_FIGURES=>k_is)
  (case n_LONGEST_NAME=>k_is)
  (case n_MOST_TOKENS=>k_is)
  (case n_MOST_KINDS=>k_is)
  (case n_MOST_FIELDS=>k_is)
  (case n_MOST_SETS=>k_is)
  (case n_MOST_CHOICES=>k_is)
  (case n_MOST_SIGNS=>k_is)
  (case n_HIGHEST_INNER=>k_is)
  (case n_HIGHEST_WORD=>k_is)
  (case n_HIGHEST_FIELD=>k_is)
  (case n_HIGHEST_SELECTED=>k_is)
  (case n_HIGHEST_ADDRESS=>k_is)
  (case n_MOST_STEPS=>k_is)
  (case n_FIGURES=>k_is)
  (case n_LETTERS=>k_is)
  (case n_GAPS=>k_is)
  (case n_SINGLE_SIGNS=>k_is)
  (case n_OWN_WORDS=>k_is)
  (case q_OWN_WORDS=>refine' L3.sq_own_words ?h;(case h=>k_is))
  (case n_SORTS=>k_is)
  (case q_SORTS=>refine' L3.sq_sorts ?h;(case h=>k_is))
  (case n_ENDS=>k_is)
  (case q_ENDS=>refine' L3.sq_ends ?h;(case h=>k_is))
  (case n_OWN_FAULTS=>k_is)
  (case q_OWN_FAULTS=>refine' L3.sq_own_faults ?h;(case h=>k_is))
  (case n_DOUBLE_SIGNS=>k_is)
  (case q_DOUBLE_SIGNS=>refine' L3.sq_double_signs ?h;(case h=>k_is))
  (case C0=>walk_at "class of 2")
  (case I0=>walk_at "def of a class")
  (case t0=>k_is)
  (case Q0=>walk_at "def of a class")
  (case C1=>walk_at "class of 2")
  (case I1=>walk_at "def of a class")
  (case t1=>k_is)
  (case Q1=>walk_at "def of a class")
  (case C2=>walk_at "class of 2")
  (case I2=>walk_at "def of a class")
  (case t2=>k_is)
  (case Q2=>walk_at "def of a class")
  (case C3=>walk_at "class of 4")
  (case I3=>walk_at "def of a class")
  (case t3=>k_is)
  (case Q3=>walk_at "def of a class")
  (case C4=>walk_at "class of 2")
  (case I4=>walk_at "def of a class")
  (case t4=>k_is)
  (case Q4=>walk_at "def of a class")
  (case C5=>walk_at "class of 2")
  (case I5=>walk_at "def of a class")
  (case t5=>k_is)
  (case Q5=>walk_at "def of a class")
  (case C6=>walk_at "class of 2")
  (case I6=>walk_at "def of a class")
  (case t6=>k_is)
  (case Q6=>walk_at "def of a class")
  (case htg0=>k_is)
  (case htg1=>k_is)
  (case htg2=>k_is)
  (case htg3=>k_is)
  (case htg4=>k_is)
  (case htg5=>k_is)
  (case htg6=>k_is)
  (case Mtg0=>walk_at "def of a class")
  (case Mtg1=>walk_at "def of a class")
  (case Mtg2=>walk_at "def of a class")
  (case Mtg3=>walk_at "def of a class")
  (case MtgB=>walk_at "def of a class")
  (case hsr0=>k_is)
  (case hsr1=>k_is)
  (case hsr2=>k_is)
  (case hsr3=>k_is)
  (case hsr4=>k_is)
  (case hsr5=>k_is)
  (case hsr6=>k_is)
  (case Msr2=>walk_at "def of a class")
  (case Msr3=>walk_at "def of a class")
  (case Msr4=>walk_at "def of a class")
  (case Msr5=>walk_at "def of a class")
  (case Msr6=>walk_at "def of a class")
  (case MsrB=>walk_at "def of a class")
  (case hse0=>k_is)
  (case hse1=>k_is)
  (case hse2=>k_is)
  (case hse3=>k_is)
  (case hse4=>k_is)
  (case hse5=>k_is)
  (case hse6=>k_is)
  (case Mse0=>walk_at "def of a class")
  (case Mse1=>walk_at "def of a class")
  (case Mse4=>walk_at "def of a class")
  (case Mse5=>walk_at "def of a class")
  (case MseB=>walk_at "def of a class")
  (case CY=>walk_at "class of 2")
  (case IY=>walk_at "def of a class")
  (case tY=>k_is)
  (case QY=>walk_at "def of a class")
  (case n_OPS=>k_is)
  (case dO=>refine' L3.top_mk ?h;(case h=>k_is))
  (case lo=>rfl)
  (case xR=>walk_at "class of refusals")
  (case rd=>k_is)
  (case ri=>k_is)
  (case mR=>walk_at "def of a class")
  (case xK=>walk_at "class of refusals")
  (case aK=>k_is)
  (case iK=>k_is)
  (case nK=>k_is)
  (case pK=>k_is)
  (case mK=>walk_at "def of a class")
  (case xB=>walk_at "class of refusals")
  (case z_len=>k_is)
  (case z_int=>k_is)
  (case z_max=>k_is)
  (case z_min=>k_is)
  (case z_range=>k_is)
  (case z_isinstance=>k_is)
  (case z_list=>k_is)
  (case z_str=>k_is)
  (case z_bool=>k_is)
  (case z_tuple=>k_is)
  (case z_all=>k_is)
  (case z_dict=>k_is)
  (case z_enumerate=>k_is)
  (case z_reversed=>k_is)
  (case z_ValueError=>k_is)
