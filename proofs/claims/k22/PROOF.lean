import PyProof.Rows.All
import Wide.All
import OpenK.AllK
import Wide.FinOn
import Lean
import PyProof.EqAt
import PyProof.EqKinds
import PyProof.TupleCall
import PySem.Challenge.RW_rowsbeneath_k22_rooms_as_texts
set_option Elab.async false
set_option linter.all false
set_option maxRecDepth 100000
section
open PySem PySem.Spec PyProof.Rows
def Ah:=@List.length_append
def Ai:=@List.length_cons
def Aj:=@List.length_map
def Ak:=@List.length_nil
def Al:=@Heap.get?_push_of_some
def Am:=@List.cons.inj
def An:=@List.getElem?_eq_some_iff
def Ao:=@Nat.le_refl
def Ap:=@Heap.lt_size
def Aq:=@Nat.le_trans
def Ar:=@PySem.F.plainAttrs_str
def As:=@List.size_toArray
def Au:=@Bool.false_ne_true
def Av:=@List.mem_cons_of_mem
def Aw:=@Bool.eq_false_iff
def Ax:=@Nat.lt_of_lt_of_le
def Ay:=@PySem.W.mg_of
def Az:=@List.append_assoc
def AA:=@List.map_cons
def AB:=@Heap.get?_push_size
def AC:=@List.mem_cons_self
def AE:=@List.map_append
def AG:=@List.mem_cons
def AH:=@List.length_take
def AI:=@PySem.F.type_list_append
def AJ:=@PySem.F.slot_list_append
def AK:=@List.mem_singleton
def AM:=@Nat.ne_of_lt
def AN:=@List.take_length
def AO:=@PySem.F.plainAttrs_list
def AQ:=@List.mem_append
def AR:=@PySem.boot_len
def AS:=@List.mem_append_right
def AT:=@PySem.W.mg_none_of
def AU:=@Bool.and_eq_true
def AV:=@List.mem_map
def AW:=@List.length_replicate
def AX:=@PySem.F.type_str_join
def AY:=@PySem.F.slot_str_join
def AZ:=@List.mem_of_getElem?
def A0:=@List.length_drop
def A1:=@Option.some.inj
def A2:=@List.getElem?_append_left
def Ba:=@PySem.W.kia_one
def Bb:=@List.take_succ
def Bc:=@Bool.eq_iff_iff
def Bd:=@List.append_nil
def Be:=@Nat.lt_irrefl
def Bf:=@List.cons_append
def Bg:=@List.map_map
def Bh:=@List.lookup_cons
def Bi:=@Nat.zero_le
def Bj:=@List.nil_append
def Bk:=@List.getElem?_eq_getElem
def Bm:=@List.all_eq_true
def Bn:=@List.flatten_cons
def Bo:=@List.take_of_length_le
def Bp:=@List.getElem?_map
def Bq:=@List.filterMap_cons
def Br:=@PySem.mem_of_lookup
def Bs:=@List.drop_zero
def Bt:=@PySem.W.callWith_K
def Bu:=@List.find?_cons
def Bv:=@PyProof.Rows.boot_int
def Bw:=@Nat.min_eq_left
def Bx:=@PyProof.Rows.callWith_type1
def By:=@List.mem_append_left
def Bz:=@List.mem_range
def BA:=@Array.length_toList
def BB:=@List.length_pos_iff
def BC:=@Heap.size_push
def BD:=@Nat.lt_succ_self
def BE:=@List.not_mem_nil
def BF:=@List.sum_cons
def BG:=@List.any_cons
def BH:=@List.nodup_cons
end
namespace L2
open PySem PySem.Spec PyProof.Rows
abbrev cO:=Sum Int Str
def im:cO->Value->Bool
 | .inl k,v=>Value.isInt k v
 | .inr x,v=>Value.isStrOf x v
def yw (w:World):cO->Int
 | .inl k=>hashInt k
 | .inr x=>hashStr w x
theorem bx:∀ {k:cO} {v:Value},im k v=true->(∃ i t,k=Sum.inl i/\v=Value.int i t)\/(∃ x t,k=Sum.inr x/\v=Value.str x t)
 | .inl i,v,h=>by
  obtain ⟨t,e⟩:=Value.isInt_shape (k:=i) (v:=v) h
  exact .inl ⟨i,t,rfl,e⟩
 | .inr x,v,h=>by
  obtain ⟨t,e⟩:=Value.isStrOf_shape (x:=x) (v:=v) h
  exact .inr ⟨x,t,rfl,e⟩
theorem m7 (i:Int) (t:Tok):im (.inl i) (.int i t)=true:=by simp [im,Value.isInt]
theorem m8 (x:Str) (t:Tok):im (.inr x) (.str x t)=true:=by simp [im,Value.isStrOf]
theorem ug (a b:Int):decide ((Sum.inl a:cO)=Sum.inl b)=(a == b):=by
 by_cases e:a=b
 ·subst e;simp
 ·have h:¬ (Sum.inl a:cO)=Sum.inl b:=fun q=>e (Sum.inl.inj q)
  rw [decide_eq_false h]
  exact (beq_eq_false_iff_ne.mpr e).symm
theorem uh (a b:Str):decide ((Sum.inr a:cO)=Sum.inr b)=decide (a=b):=by
 by_cases e:a=b
 ·subst e;simp
 ·have h:¬ (Sum.inr a:cO)=Sum.inr b:=fun q=>e (Sum.inr.inj q)
  rw [decide_eq_false h,decide_eq_false e]
theorem ui (a:Int) (b:Str):decide ((Sum.inl a:cO)=Sum.inr b)=false:=decide_eq_false (fun q=>nomatch q)
theorem uj (a:Str) (b:Int):decide ((Sum.inr a:cO)=Sum.inl b)=false:=decide_eq_false (fun q=>nomatch q)
def bz (prog:Program) (w:World):PySem.KeyKind prog w cO where
 is:=im
 hash:=yw w
 inj:=fun v a b ha hb=>by
  rcases bx ha with ⟨i,t,rfl,rfl⟩|⟨x,t,rfl,rfl⟩
  ·rcases bx hb with ⟨j,u,rfl,e⟩|⟨y,u,rfl,e⟩
   ·injection e with e1 _;rw [e1]
   ·exact nomatch e
  ·rcases bx hb with ⟨j,u,rfl,e⟩|⟨y,u,rfl,e⟩
   ·exact nomatch e
   ·injection e with e1 _;rw [e1]
 byValue:=fun k v h=>by
  rcases bx h with ⟨i,t,rfl,rfl⟩|⟨x,t,rfl,rfl⟩<;>rfl
 pyHash:=fun hv h=>by
  rcases bx hv with ⟨i,t,rfl,rfl⟩|⟨x,t,rfl,rfl⟩
  ·exact wpAny_pyHash_int h
  ·exact wpAny_pyHash_str h
 eqBool:=fun hu hv h=>by
  rcases bx hu with ⟨i,t,rfl,rfl⟩|⟨x,t,rfl,rfl⟩
  ·rcases bx hv with ⟨j,u,rfl,rfl⟩|⟨y,u,rfl,rfl⟩
   ·rw [ug] at h;exact wpAny_eqBool_int h
   ·rw [ui] at h;exact SeqAt.EqAt.int_str i t y u _ _ _ _ h
  ·rcases bx hv with ⟨j,u,rfl,rfl⟩|⟨y,u,rfl,rfl⟩
   ·rw [uj] at h;exact SeqAt.EqAt.str_int x t j u _ _ _ _ h
   ·rw [uh] at h;exact wpAny_eqBool_str h
 «strs»:=fun k x t v h=>by
  rcases bx h with ⟨i,u,rfl,e⟩|⟨y,u,rfl,e⟩
  ·exact nomatch e
  ·injection e with e1 _
   subst e1
   cases v<;>rfl
theorem jW (prog:Program) (w:World) (i:Int) (t:Tok):(bz prog w).is (.inl i) (.int i t)=true:=m7 i t
theorem jX (prog:Program) (w:World) (x:Str) (t:Tok):(bz prog w).is (.inr x) (.str x t)=true:=m8 x t
end L2
namespace L2
open PySem PySem.Spec PyProof.Rows
inductive V where
 | non|bl (b:Bool)|int (i:Int)|str (x:Str)|byt (b:Array UInt8)|flt (b:UInt64)|ref (a:Addr)|ty (n:String)
 deriving DecidableEq
def RelV:V->Value->Prop
 | .non,u=>u=Value.none
 | .bl b,u=>u=Value.bool b
 | .int i,u=>∃ t,u=Value.int i t
 | .str x,u=>∃ t,u=Value.str x t
 | .byt b,u=>∃ t,u=Value.bytes b t
 | .flt b,u=>∃ t,u=Value.float b t
 | .ref a,u=>u=Value.ref a
 | .ty n,u=>u=Value.type n
abbrev Vals:List V->List Value->Prop:=Paired RelV
theorem Vals.length {xs:List V} {us:List Value} (r:Vals xs us):xs.length=us.length:=Paired.length r
theorem Vals.get:∀ {xs:List V} {us:List Value} {i:Nat} {x:V},Vals xs us->xs[i]?=some x->∃ u,us[i]?=some u/\RelV x u
 | _,_,_,_,.nil,e=>by simp at e
 | _,_,0,_,.cons r _,e=>by simp at e;subst e;exact ⟨_,rfl,r⟩
 | _,_,i+1,x,.cons _ t,e=>by
  obtain ⟨u,h1,h2⟩:=Vals.get (i:=i) (x:=x) t (by simpa using e)
  exact ⟨u,by simpa using h1,h2⟩
theorem Vals.set {x:V} {u:Value} (r:RelV x u):∀ {xs:List V} {us:List Value} (i:Nat),Vals xs us->Vals (xs.set i x) (us.set i u)
 | _,_,_,.nil=>.nil
 | _,_,0,.cons _ t=>.cons r t
 | _,_,i+1,.cons q t=>.cons q (Vals.set r i t)
theorem Vals.append:∀ {xs ys:List V} {us ws:List Value},Vals xs us->Vals ys ws->Vals (xs++ys) (us++ws)
 | _,_,_,_,.nil,s=>s
 | _,_,_,_,.cons r t,s=>.cons r (Vals.append t s)
theorem Vals.take:∀ {xs:List V} {us:List Value} (n:Nat),Vals xs us->Vals (xs.take n) (us.take n)
 | _,_,0,_=>.nil
 | _,_,_+1,.nil=>.nil
 | _,_,n+1,.cons r t=>.cons r (Vals.take n t)
theorem Vals.drop:∀ {xs:List V} {us:List Value} (n:Nat),Vals xs us->Vals (xs.drop n) (us.drop n)
 | _,_,0,r=>r
 | _,_,_+1,.nil=>.nil
 | _,_,n+1,.cons _ t=>Vals.drop n t
def RelO:Option V->Option Value->Prop
 | some v,some u=>RelV v u
 | none,none=>True
 | _,_=>False
def KV {κ:Type}:List (κ×V)->List (κ×Value)->Prop:=Paired fun (p:κ×V) (q:κ×Value)=>p.1=q.1/\RelV p.2 q.2
def kV:cO->V
 | .inl i=>.int i
 | .inr x=>.str x
inductive HO where
 | lst (xs:List V)
 | tup (xs:List V)
 | dK (kvs:List (cO×V))|dT (kvs:List (List cO×V))
 | set (S:Int->Bool) (n:Nat)
 | ins (C dx:Addr) (fs:List (Str×V))
 | own (x:Addr)
 | xd (fs:List (Str×V))
 | met (f x:Addr)
 | rng (lo hi:Int)
 | frz (o:Obj) (u:HO)
 | tbl (ps:Array Value)
 | ext (φ:Heap->Prop)
abbrev Hp:=Addr->Option HO
def ax (H:Hp) (a:Addr) (o:HO):Hp:=fun b=>if b=a then some o else H b
theorem ad {H:Hp} {a:Addr} {o:HO}:ax H a o a=some o:=by unfold ax;rw [if_pos rfl]
theorem aB {H:Hp} {a b:Addr} {o:HO} (h:b≠a):ax H a o b=H b:=by unfold ax;rw [if_neg h]
theorem aJ {H:Hp} {a b:Addr} {o:HO} (h:H a=some o) (h':H b=none):a≠b:=by
 intro e;subst e;rw [h] at h';cases h'
def TupP (h:Heap) (a:Addr) (items:Array Value):Prop:=∃ o,h.get? a=some o/\(o.cls,o.dict)=(Value.type "tuple",none)/\∃ n,o.data=Data.seq items n
theorem TupP.up {h:Heap} {a:Addr} {items:Array Value} (p:TupP h a items):IsTup h a items:=let ⟨o,e,c,d⟩:=p;⟨o,e,(Prod.mk.inj c).1,d⟩
theorem TupP.lt {h:Heap} {a:Addr} {items:Array Value} (p:TupP h a items):a < h.objs.size:=let ⟨_,e,_⟩:=p;Ap e
theorem TupP.new (h:Heap) (items:Array Value):TupP (h.push { cls:=.type "tuple",data:=.seq items }) h.objs.size items:=⟨_,AB _ rfl,rfl,_,rfl⟩
section
variable (P:Program) (w:World)
def ObjOk (H:Hp) (h:Heap) (a:Addr):HO->Prop
 | .lst xs=>xs.length<=sizeLine/\∃ (its:List Value) (n:Nat),Vals xs its/\h.get? a=some { cls:=.type "list",data:=.seq its.toArray n }
 | .tup xs=>xs.length<=sizeLine/\∃ its:List Value,Vals xs its/\TupP h a its.toArray
 | .dK kvs=>kvs.length<=sizeLine/\(a == sysModules)=false/\∃ vs,KV kvs vs/\h.DictOf (bz P w) a vs
 | .dT kvs=>kvs.length<=sizeLine/\(a == sysModules)=false/\∃ xs:List (List cO×Addr×Value),
   Paired (fun (p:List cO×V) (q:List cO×Addr×Value)=>p.1=q.1/\H q.2.1=some (.tup (p.1.map kV))/\RelV p.2 q.2.2) kvs xs /\
   ∃ o es ep,h.get? a=some o/\o.ExactDict/\o.data=.dict es ep/\es.toList=xs.map (entryOfKey (tupleKind (bz P w)))/\(xs.map (·.1)).Nodup
 | .set S n=>h.SetOf (intKind P w) a S n
 | .ins C dx fs=>H dx=some (.own a)/\fs.length<=1000/\dx≠a/\h.get? a=some (PySem.W.instObj C dx) /\
   ∃ mA,h.Ns1 dx mA/\(∀ f,RelO (fs.lookup f) (mA f))/\PySem.Within mA (fs.map (·.1))
 | .own _=>∃ o,h.get? a=some o
 | .xd fs=>∃ mA,h.Ns1 a mA/\∀ f,RelO (fs.lookup f) (mA f)
 | .rng lo hi=>∃ t u v,h.get? a=some { cls:=.type "range",data:=.fields #[.int lo t,.int hi u,.int 1 v] }
 | .frz o u=>h.get? a=some o/\ObjOk H h a u
 | .tbl ps=>h.get? a=some { cls:=.none,data:=.fields ps }
 | .met f x=>h.get? a=some (PySem.W.methodObj (.ref f) (.ref x))
 | .ext φ=>φ h/\(∃ o,h.get? a=some o)/\∀ h1 h2:Heap,φ h1->(∀ o,h1.get? a=some o->h2.get? a=some o)->φ h2
def HOk (H:Hp) (h:Heap):Prop:=∀ a o,H a=some o->ObjOk P w H h a o
end
section
variable {P:Program} {w:World} {H H':Hp} {h h':Heap} {a:Addr} {o:HO}
theorem ObjOk.lt (x:ObjOk P w H h a o):a < h.objs.size:=by
 cases o with
 | lst xs=>obtain ⟨_,_,_,_,e⟩:=x;exact Ap e
 | tup xs=>obtain ⟨_,_,_,p⟩:=x;exact p.lt
 | dK kvs=>obtain ⟨_,_,_,_,o,_,_,e,_⟩:=x;exact Ap e
 | dT kvs=>obtain ⟨_,_,_,_,o,_,_,e,_⟩:=x;exact Ap e
 | set S n=>obtain ⟨o,_,_,_,e,_⟩:=x;exact Ap e
 | ins C dx fs=>obtain ⟨_,_,_,e,_⟩:=x;exact Ap e
 | own y=>obtain ⟨_,e⟩:=x;exact Ap e
 | xd fs=>obtain ⟨_,⟨_,_,_,e,_⟩,_⟩:=x;exact Ap e
 | rng lo hi=>obtain ⟨_,_,_,e⟩:=x;exact Ap e
 | frz ob u=>obtain ⟨e,_⟩:=x;exact Ap e
 | tbl ps=>exact Ap (show h.get? a=some _ from x)
 | met f y=>exact Ap (show h.get? a=some _ from x)
 | ext φ=>obtain ⟨_,⟨_,e⟩,_⟩:=x;exact Ap e
theorem Paired.mapP {α β:Type} {F G:α->β->Prop}:∀ {l₁:List α} {l₂:List β},Paired F l₁ l₂->(∀ a b,F a b->G a b)->Paired G l₁ l₂
 | _,_,.nil,_=>.nil
 | _,_,.cons r t,f=>.cons (f _ _ r) (Paired.mapP t f)
theorem ObjOk.stay (x:ObjOk P w H h a o) (k:∀ b u,(b=a\/H b=some (.own a))->h.get? b=some u->h'.get? b=some u)
  (ho:∀ b,H b=some (.own a)->H' b=some (.own a)) (ht:∀ b xs,H b=some (.tup xs)->H' b=some (.tup xs)):ObjOk P w H' h' a o:=by
 induction o with
 | lst xs=>obtain ⟨z,its,n,r,e⟩:=x;exact ⟨z,its,n,r,k _ _ (.inl rfl) e⟩
 | tup xs=>obtain ⟨z,its,r,ob,e,c⟩:=x;exact ⟨z,its,r,ob,k _ _ (.inl rfl) e,c⟩
 | dK kvs=>obtain ⟨z,y,vs,r,ob,es,ep,e,c⟩:=x;exact ⟨z,y,vs,r,ob,es,ep,k _ _ (.inl rfl) e,c⟩
 | dT kvs=>
  obtain ⟨z,y,xs,r,ob,es,ep,e,c⟩:=x
  exact ⟨z,y,xs,Paired.mapP r fun p q z=>⟨z.1,ht _ _ z.2.1,z.2.2⟩,ob,es,ep,k _ _ (.inl rfl) e,c⟩
 | set S n=>obtain ⟨ob,es,ep,t,e,c⟩:=x;exact ⟨ob,es,ep,t,k _ _ (.inl rfl) e,c⟩
 | ins C dx fs=>
  obtain ⟨d,z,ne,e,mA,⟨od,es,ep,e2,c⟩,r⟩:=x
  exact ⟨ho _ d,z,ne,k _ _ (.inl rfl) e,mA,⟨od,es,ep,k _ _ (.inr d) e2,c⟩,r⟩
 | own y=>obtain ⟨ob,e⟩:=x;exact ⟨ob,k _ _ (.inl rfl) e⟩
 | xd fs=>obtain ⟨mA,⟨od,es,ep,e,c⟩,r⟩:=x;exact ⟨mA,⟨od,es,ep,k _ _ (.inl rfl) e,c⟩,r⟩
 | rng lo hi=>obtain ⟨t,u,v,e⟩:=x;exact ⟨t,u,v,k _ _ (.inl rfl) e⟩
 | frz ob u ih=>obtain ⟨e,q⟩:=x;exact ⟨k _ _ (.inl rfl) e,ih q⟩
 | tbl ps=>
  have e:h.get? a=some { cls:=.none,data:=.fields ps }:=x
  show h'.get? a=some { cls:=.none,data:=.fields ps }
  exact k a _ (.inl rfl) e
 | met f y=>
  have e:h.get? a=some (PySem.W.methodObj (.ref f) (.ref y)):=x
  show h'.get? a=some (PySem.W.methodObj (.ref f) (.ref y))
  exact k a _ (.inl rfl) e
 | ext φ=>obtain ⟨p,⟨o,e⟩,st⟩:=x;exact ⟨st _ _ p fun o q=>k _ _ (.inl rfl) q,⟨o,k _ _ (.inl rfl) e⟩,st⟩
theorem HOk.lt (x:HOk P w H h) (e:H a=some o):a < h.objs.size:=(x a o e).lt
theorem HOk.fresh (x:HOk P w H h) (e:h.objs.size<=a):H a=none:=by
 cases q:H a with
 | none=>rfl
 | some u=>exact absurd (Ax (x.lt q) e) (Be _)
theorem HOk.kept (x:HOk P w H h) (k:∀ b u,h.get? b=some u->h'.get? b=some u):HOk P w H h':=fun a o e=>
 (x a o e).stay (fun b u _ q=>k b u q) (fun _ q=>q) fun _ _ q=>q
theorem HOk.laid (x:HOk P w H h) (k:∀ b u,h.get? b=some u->h'.get? b=some u) (hp:h.objs.size<=a) (new:ObjOk P w (ax H a o) h' a o):HOk P w (ax H a o) h':=fun b u e=>by
 have hn:=x.fresh hp
 by_cases hb:b=a
 ·subst hb;rw [ad] at e;cases e;exact new
 ·rw [aB hb] at e
  exact (x b u e).stay (fun c v _ q=>k c v q) (fun c q=>by rw [aB (aJ q hn)];exact q) fun c xs q=>by rw [aB (aJ q hn)];exact q
end
def Rd (H:Hp) (a:Addr) (u:HO):Prop:=H a=some u\/∃ o,H a=some (.frz o u)
theorem Rd.ok {P:Program} {w:World} {H:Hp} {h:Heap} {a:Addr} {u:HO} (r:Rd H a u) (x:HOk P w H h):ObjOk P w H h a u:=by
 rcases r with r|⟨o,r⟩
 ·exact x a u r
 ·obtain ⟨_,q⟩:=x a _ r
  exact q
def wj:Option HO->Prop
 | some (.lst _)=>True
 | some (.dK _)=>True
 | some (.dT _)=>True
 | some (.set _ _)=>True
 | some (.ins _ _ _)=>True
 | some (.ext _)=>True
 | _=>False
section
variable {P:Program} {w:World} {H:Hp} {h h':Heap} {x e:Addr} {o':HO}
theorem HOk.write (ok:HOk P w H h) (mu:wj (H x)) (he:e=x\/H e=some (.own x)) (k:∀ b u,b≠e->h.get? b=some u->h'.get? b=some u) (heo:∃ u,h'.get? e=some u)
  (new:ObjOk P w (ax H x o') h' x o'):HOk P w (ax H x o') h':=fun b u q=>by
 have nown:∀ c y,H c=some (.own y)->c≠x:=fun c y r z=>by subst z;rw [r] at mu;exact mu
 have ntup:∀ c xs,H c=some (.tup xs)->c≠x:=fun c xs r z=>by subst z;rw [r] at mu;exact mu
 by_cases hb:b=x
 ·subst hb;rw [ad] at q;cases q;exact new
 ·rw [aB hb] at q
  by_cases hbe:b=e
  ·have q':H b=some (.own x):=by
    rcases he with z|z
    ·exact absurd (hbe.trans z) hb
    ·rw [hbe];exact z
   rw [q] at q';cases q'
   obtain ⟨v,hv⟩:=heo
   exact ⟨v,by rw [hbe];exact hv⟩
  ·refine (ok b u q).stay (fun c v hc r=>k c v ?_ r) (fun c r=>by rw [aB (nown c b r)];exact r) fun c xs r=>by rw [aB (ntup c xs r)];exact r
   rcases hc with rfl|hc
   ·exact hbe
   ·rintro rfl
    rcases he with z|z
    ·exact nown c b hc z
    ·rw [hc] at z;cases z;exact hb rfl
end
structure Un (fs ex:List Addr) (H H':Hp) (h h':Heap):Prop where
 keep:∀ b o,h.get? b=some o->H b=none->b∉fs->b∉ex->h'.get? b=some o
 slot:∀ b o,h.get? b=some o->H b=none->b∈fs->b∉ex->∃ sl,h'.get? b=some { o with slots:=sl }
 free:∀ b o,h.get? b=some o->H b=none->b∉ex->H' b=none
 there:∀ b o,h.get? b=some o->b∉ex->∃ o',h'.get? b=some o'
 tups:∀ b xs,H b=some (.tup xs)->H' b=some (.tup xs)
 frzs:∀ b o u,H b=some (.frz o u)->H' b=some (.frz o u)
 tbls:∀ b ps,H b=some (.tbl ps)->∃ more,H' b=some (.tbl (ps++more))
section
variable {fs fs' ex ex':List Addr} {H H1 H2:Hp} {h h1 h2 h':Heap} {a x e:Addr} {o:HO}
theorem Un.any (u:Un fs ex H H1 h h1) {b:Addr} {ob:Obj} (q:h.get? b=some ob) (n:H b=none) (hx:b∉ex):∃ sl,h1.get? b=some { ob with slots:=sl }:=by
 by_cases hb:b∈fs
 ·exact u.slot b ob q n hb hx
 ·exact ⟨ob.slots,u.keep b ob q n hb hx⟩
theorem Un.kept (k:∀ b u,h.get? b=some u->h'.get? b=some u):Un fs ex H H h h':=
 ⟨fun b ob q _ _ _=>k b ob q,fun b ob q _ _ _=>⟨ob.slots,k b ob q⟩,fun _ _ _ n _=>n,fun b ob q _=>⟨ob,k b ob q⟩,fun _ _ q=>q,fun _ _ _ q=>q,fun _ ps q=>⟨#[],by rw [q];simp⟩⟩
theorem Un.refl:Un fs ex H H h h:=Un.kept fun _ _ q=>q
theorem Un.laid (k:∀ b u,h.get? b=some u->h'.get? b=some u) (hp:h.objs.size<=a) (hn:H a=none):Un fs ex H (ax H a o) h h' where
 keep:=fun b u q _ _ _=>k b u q
 slot:=fun b u q _ _ _=>⟨u.slots,k b u q⟩
 free:=fun b u q n _=>by rw [aB (AM (Ax (Ap q) hp))];exact n
 there:=fun b u q _=>⟨u,k b u q⟩
 tups:=fun b xs q=>by rw [aB (aJ q hn)];exact q
 frzs:=fun b u xs q=>by rw [aB (aJ q hn)];exact q
 tbls:=fun b ps q=>⟨#[],by rw [aB (aJ q hn),q];simp⟩
theorem Un.write (mu:wj (H x)) (he:e=x\/H e=some (.own x)) (k:∀ b u,b≠e->h.get? b=some u->h'.get? b=some u) (heo:∃ u,h'.get? e=some u):Un fs ex H (ax H x o) h h':=by
 have hx:∀ b,H b=none->b≠x:=fun b n z=>by subst z;rw [n] at mu;exact mu
 have hb:∀ b,H b=none->b≠e:=fun b n z=>by
  subst z
  rcases he with r|r
  ·exact hx b n r
  ·rw [n] at r;cases r
 have hm:∀ b u,H b=some u->¬ wj (some u)->b≠x:=fun b u q nm z=>by subst z;rw [q] at mu;exact nm mu
 refine ⟨fun b u q n _ _=>k b u (hb b n) q,fun b u q n _ _=>⟨u.slots,k b u (hb b n) q⟩,fun b u q n _=>by rw [aB (hx b n)];exact n,fun b u q _=>?_,
  fun b xs q=>by rw [aB (hm b _ q fun z=>z)];exact q,fun b u xs q=>by rw [aB (hm b _ q fun z=>z)];exact q,fun b ps q=>⟨#[],by rw [aB (hm b _ q fun z=>z),q];simp⟩⟩
 by_cases hbe:b=e
 ·subst hbe;exact heo
 ·exact ⟨u,k b u hbe q⟩
end
def yg (h:Heap) (H:Hp):List Addr:=(List.range h.objs.size).filter fun a=>(H a).isSome
def iY (h:Heap) (H:Hp):Heap:=PySem.W.hideAll h (yg h H)
theorem m9 (h:Heap) (H:Hp):(iY h H).objs.size=h.objs.size:=PySem.W.hideAll_size _ _
theorem nW {h:Heap} {H:Hp} {b:Addr} {o:Obj} (e:h.get? b=some o) (n:H b=none):(iY h H).get? b=some o:=
 PySem.W.hideAll_get _ e fun hm=>by
  have q:(H b).isSome=true:=(List.mem_filter.mp hm).2
  rw [n] at q;simp at q
theorem qP {h:Heap} {H:Hp} {b:Addr} {o:Obj} (e:(iY h H).get? b=some o):h.get? b=some o/\H b=none:=by
 have e':h.get? b=some o:=PySem.W.of_hideAll (yg h H) e
 refine ⟨e',?_⟩
 cases q:H b with
 | none=>rfl
 | some x=>
  have hm:b∈yg h H:=List.mem_filter.mpr ⟨Bz.mpr (Ap e'),by simp [q]⟩
  have z:(iY h H).get? b=none:=PySem.W.hideAll_none (yg h H) hm
  rw [z] at e;cases e
end L2
namespace L2
open PySem PySem.Spec PyProof.Rows
structure Mod (K:PySem.W.Frag) (mg:Str->Option Value) (base:Heap):Prop where
 kin:K.In base
 glob:base.Ns mainGlobals mg
 blt:∃ mb,base.Ns builtinsNs mb/\∀ x:Str,x≠"__name__"->mb x=bootBuiltins x
 nolimit:base.NoLimit
structure Cx where
 prog:Program
 w:World
 K:PySem.W.Frag
 mg:Str->Option Value
 base:Heap
 A:Around
 N:List Str
 s₀:Shared
 H₀:Hp
 env:Env
 outer:List Env
 stack:List Env
 ex:List Addr
 fn:Str->Bool
 calm:Bool
 pn:List (Addr×Obj)
 xe:Value->Shared->Prop
def iZ (l:List Env):List Addr:=l.filterMap (·.frame)
abbrev Cx.fs (X:Cx):List Addr:=iZ X.outer
def yh (sc:Scope) (x:Str):Prop:=sc.names.lookup x=some .local\/sc.names.lookup x=some .cell\/sc.names.lookup x=some .free
def yi (sc:Scope) (x:Str):Prop:=sc.names.lookup x=some .local\/sc.names.lookup x=some .cell
def wk (env:Env) (h:Heap) (m:Str->Option Value) (x:Str) (u:Value):Prop:=
 (env.kindOf x=some .local/\m x=some u)\/((env.kindOf x=some .cell\/env.kindOf x=some .free)/\∃ c,env.cells.lookup x=some c/\h.IsCell c (some u))
structure Cx.Ok (X:Cx):Prop where
 mod:Mod X.K X.mg X.base
 kind:X.env.scope.kind=.function
 glob:X.env.globals=mainGlobals
 blt:X.env.builtins=builtinsNs
 above:X.s₀.heap.objs.size<=X.env.locals
 inj:∀ x y c,X.env.cells.lookup x=some c->X.env.cells.lookup y=some c->x=y
 has:∀ x,(X.env.kindOf x=some .cell\/X.env.kindOf x=some .free)->∃ c,X.env.cells.lookup x=some c
 cab:∀ x c,X.fn x=true->X.env.cells.lookup x=some c->X.s₀.heap.objs.size<=c
 hd:X.calm=true->X.A.handled=none
 frames:X.A.frames=some X.stack
 stk:X.stack=X.outer\/(X.stack=X.env::X.outer/\X.env.frame=some X.env.locals)
 exf:∀ b∈X.ex,b≠X.env.locals/\∀ x c,X.env.cells.lookup x=some c->c≠b
 bs:∀ b o,X.base.get? b=some o->X.s₀.heap.get? b=some o/\X.H₀ b=none
 bsz:X.base.objs.size<=X.s₀.heap.objs.size
 noex:∀ b o,X.base.get? b=some o->b∉X.ex
 exfs:∀ b∈X.ex,b∉X.fs
 funs:X.s₀.heap.FunFrames X.base X.outer
 frf:∀ b∈X.fs,X.H₀ b=none
structure Inv (X:Cx) (pins:List (Addr×Obj)) (σ:List (Option V)) (H:Hp) (s:Shared):Prop where
 ok:X.Ok
 os:s.os=X.s₀.os
 bare:AllBare s.gens
 base:Un X.fs X.ex X.H₀ H X.s₀.heap s.heap
 loc:∃ m,s.heap.Ns X.env.locals m/\∀ (i:Nat) (x:Str) (v:V),X.N[i]?=some x->σ[i]?=some (some v)->yh X.env.scope x->∃ u,RelV v u/\wk X.env s.heap m x u
 cell:∀ x c,X.env.cells.lookup x=some c->∃ v,s.heap.IsCell c v
 free:H X.env.locals=none
 freeC:∀ x c,X.env.cells.lookup x=some c->H c=none
 pin:∀ p∈X.pn++pins,s.heap.get? p.1=some p.2/\H p.1=none/\p.1≠X.env.locals/\p.1∉X.fs/\∀ v,p.2.data≠.cell v
 hok:HOk X.prog X.w H s.heap
 len:σ.length=X.N.length
section
variable {X:Cx} {pins:List (Addr×Obj)} {σ:List (Option V)} {H H':Hp} {s:Shared} {h':Heap}
theorem Cx.Ok.nofr (ok:X.Ok) {b:Addr} {o:Obj} (e:X.base.get? b=some o):b∉X.fs:=fun hb=>by
 have:=(ok.funs.mem hb).1
 rw [e] at this;cases this
theorem Inv.bs (I:Inv X pins σ H s):∀ b o,X.base.get? b=some o->s.heap.get? b=some o/\H b=none:=fun b o e=>
 ⟨I.base.keep b o (I.ok.bs b o e).1 (I.ok.bs b o e).2 (I.ok.nofr e) (I.ok.noex b o e),I.base.free b o (I.ok.bs b o e).1 (I.ok.bs b o e).2 (I.ok.noex b o e)⟩
theorem Inv.bk (I:Inv X pins σ H s):∀ b o,X.base.get? b=some o->s.heap.get? b=some o:=fun b o e=>(I.bs b o e).1
theorem Inv.mod (I:Inv X pins σ H s):Mod X.K X.mg X.base:=I.ok.mod
theorem Inv.kIn (I:Inv X pins σ H s):X.K.In s.heap:=I.ok.mod.kin.keeps I.bk
theorem Inv.lt (I:Inv X pins σ H s):X.env.locals < s.heap.objs.size:=let ⟨_,hn,_⟩:=I.loc;hn.lt
theorem Inv.sz (I:Inv X pins σ H s):X.s₀.heap.objs.size<=s.heap.objs.size:=Aq I.ok.above (Nat.le_of_lt I.lt)
theorem Inv.nofs (I:Inv X pins σ H s) {a:Addr} (h:s.heap.objs.size<=a):a∉X.fs:=fun hb=>by
 obtain ⟨_,o,ho,_⟩:=I.ok.funs.mem hb
 exact absurd (Ax (Ap ho) (Aq I.sz h)) (Be _)
theorem Inv.cne (I:Inv X pins σ H s):∀ x c,X.env.cells.lookup x=some c->c≠X.env.locals:=fun x c e z=>by
 obtain ⟨v,o,ho,hd⟩:=I.cell x c e
 obtain ⟨m,⟨o',es,ep,ho',hd',_⟩,_⟩:=I.loc
 rw [z,ho'] at ho;cases ho;rw [hd'] at hd;cases hd
theorem Inv.funs (I:Inv X pins σ H s):s.heap.FunFrames X.base X.outer:=by
 have all:∀ (l:List Env),(∀ b∈iZ l,b∈X.fs)->X.s₀.heap.FunFrames X.base l->s.heap.FunFrames X.base l:=by
  intro l
  induction l with
  | nil=>intro _ _;trivial
  | cons env r ih=>
   intro hs hl
   obtain ⟨hk,⟨L,o,hf,hn,ho,hd⟩,hr⟩:=hl
   have hL:L∈X.fs:=hs L (by unfold iZ;rw [Bq,hf];exact AC)
   obtain ⟨sl,e⟩:=I.base.slot L o ho (I.ok.frf L hL) hL fun z=>I.ok.exfs L z hL
   exact ⟨hk,⟨L,_,hf,hn,e,hd⟩,ih (fun b hb=>hs b (by unfold iZ;rw [Bq,hf];exact Av _ hb)) hr⟩
 exact all X.outer (fun _ hb=>hb) I.ok.funs
theorem Inv.stack (I:Inv X pins σ H s):s.heap.FunFrames X.base X.stack:=by
 rcases I.ok.stk with e|⟨e,hf⟩
 ·rw [e];exact I.funs
 ·rw [e]
  obtain ⟨m,hn,_⟩:=I.loc
  refine .cons (by rw [I.ok.kind];decide) hf hn ?_ I.funs
  exact Heap.get?_none_of_le (Aq I.ok.bsz I.ok.above)
theorem Inv.stkSub (I:Inv X pins σ H s):∀ b∈iZ X.stack,b∈X.env.locals::X.fs:=fun b hb=>by
 rcases I.ok.stk with e|⟨e,hf⟩
 ·rw [e] at hb;exact Av _ hb
 ·rw [e] at hb
  unfold iZ at hb
  rw [Bq,hf] at hb
  exact hb
theorem Inv.stkFree (I:Inv X pins σ H s):∀ b∈iZ X.stack,H b=none:=fun b hb=>by
 rcases AG.mp (I.stkSub b hb) with e|hb
 ·rw [e];exact I.free
 ·obtain ⟨_,o,ho,_⟩:=I.ok.funs.mem hb
  exact I.base.free b o ho (I.ok.frf b hb) fun z=>I.ok.exfs b z hb
theorem Inv.step {g':Array GenState} {t':Nat} {d':Drawn} {ch:List Addr} (I:Inv X pins σ H s)
  (hch:∀ b∈ch,(b∈X.ex\/X.s₀.heap.objs.size<=b)/\b≠X.env.locals/\(∀ x c,X.env.cells.lookup x=some c->c≠b)/\∀ p∈X.pn++pins,p.1≠b)
  (keep:∀ b o,b≠X.env.locals->b∉X.fs->b∉ch->s.heap.get? b=some o->H b=none->h'.get? b=some o)
  (slot:∀ b o,b≠X.env.locals->b∈X.fs->b∉ch->s.heap.get? b=some o->H b=none->∃ sl,h'.get? b=some { o with slots:=sl }) (free:∀ b o,b∉ch->s.heap.get? b=some o->H b=none->H' b=none)
  (there:∀ b o,b∉ch->s.heap.get? b=some o->∃ o',h'.get? b=some o')
  (tups:∀ b xs,H b=some (.tup xs)->H' b=some (.tup xs)) (frzs:∀ b o u,H b=some (.frz o u)->H' b=some (.frz o u)) (tbls:∀ b ps,H b=some (.tbl ps)->∃ more,H' b=some (.tbl (ps++more)))
  (ns:∀ m,s.heap.Ns X.env.locals m->h'.Ns X.env.locals m) (hok:HOk X.prog X.w H' h') (hg:AllBare g') :
  Inv X pins σ H' { s with heap:=h',gens:=g',drawn:=d',toks:=t' }:=by
 have neL:∀ b o,X.s₀.heap.get? b=some o->b≠X.env.locals:=fun b o e=>AM (Ax (Ap e) I.ok.above)
 have neC:∀ b o,X.s₀.heap.get? b=some o->b∉X.ex->b∉ch:=fun b o e hx hb=>by
  rcases (hch b hb).1 with z|z
  ·exact hx z
  ·exact absurd (Ax (Ap e) z) (Be _)
 have cellK:∀ x c,X.env.cells.lookup x=some c->∀ v,s.heap.IsCell c v->h'.IsCell c v:=fun x c e v ⟨o,ho,hd⟩=>by
  have nch:c∉ch:=fun z=>(hch c z).2.2.1 x c e rfl
  by_cases hc:c∈X.fs
  ·obtain ⟨sl,q⟩:=slot c o (I.cne x c e) hc nch ho (I.freeC x c e)
   exact ⟨_,q,hd⟩
  ·exact ⟨o,keep c o (I.cne x c e) hc nch ho (I.freeC x c e),hd⟩
 refine ⟨I.ok,I.os,hg,⟨fun b o e n hb hx=>?_,fun b o e n hb hx=>?_,fun b o e n hx=>?_,fun b o e hx=>?_,fun b xs e=>tups b xs (I.base.tups b xs e),fun b o xs e=>frzs b o xs (I.base.frzs b o xs e),fun b ps e=>?_⟩,?_,fun x c e=>?_,?_,fun x c e=>?_,fun p hp=>?_,hok,I.len⟩
 ·exact keep b o (neL b o e) hb (neC b o e hx) (I.base.keep b o e n hb hx) (I.base.free b o e n hx)
 ·obtain ⟨sl,e1⟩:=I.base.slot b o e n hb hx
  obtain ⟨sl',e2⟩:=slot b _ (neL b o e) hb (neC b o e hx) e1 (I.base.free b o e n hx)
  exact ⟨sl',e2⟩
 ·obtain ⟨o',e1⟩:=I.base.there b o e hx
  exact free b o' (neC b o e hx) e1 (I.base.free b o e n hx)
 ·obtain ⟨o',e1⟩:=I.base.there b o e hx
  exact there b o' (neC b o e hx) e1
 ·obtain ⟨m1,e1⟩:=I.base.tbls b ps e
  obtain ⟨m2,e2⟩:=tbls b _ e1
  exact ⟨m1++m2,by rw [e2,Array.append_assoc]⟩
 ·obtain ⟨m,hn,hl⟩:=I.loc
  refine ⟨m,ns m hn,fun i x v e1 e2 e3=>?_⟩
  obtain ⟨u,r,l⟩:=hl i x v e1 e2 e3
  refine ⟨u,r,?_⟩
  rcases l with l|⟨k,c,e,z⟩
  ·exact .inl l
  ·exact .inr ⟨k,c,e,cellK x c e _ z⟩
 ·obtain ⟨v,z⟩:=I.cell x c e
  exact ⟨v,cellK x c e v z⟩
 ·obtain ⟨m,⟨o,_,_,ho,_⟩,_⟩:=I.loc
  exact free _ o (fun z=>(hch _ z).2.1 rfl) ho I.free
 ·obtain ⟨v,o,ho,hd⟩:=I.cell x c e
  exact free c o (fun z=>(hch c z).2.2.1 x c e rfl) ho (I.freeC x c e)
 ·obtain ⟨e,n,ne,nf,d⟩:=I.pin p hp
  have nch:p.1∉ch:=fun z=>(hch p.1 z).2.2.2 p hp rfl
  exact ⟨keep p.1 p.2 ne nf nch e n,free p.1 p.2 nch e n,ne,nf,d⟩
theorem Inv.un {t':Nat} (I:Inv X pins σ H s) (u:Un X.fs [] H H' s.heap h') (hok:HOk X.prog X.w H' h'):Inv X pins σ H' { s with heap:=h',toks:=t' }:=by
 obtain ⟨m,⟨o,es,ep,ho,r⟩,_⟩:=id I.loc
 obtain ⟨sl,hL⟩:=u.any ho I.free (by simp)
 exact I.step (g':=s.gens) (d':=s.drawn) (ch:=[]) (fun _ z=>nomatch z) (fun b o _ hb _ e n=>u.keep b o e n hb (by simp)) (fun b o _ hb _ e n=>u.slot b o e n hb (by simp)) (fun b o _ e n=>u.free b o e n (by simp)) (fun b o _ e=>u.there b o e (by simp)) u.tups u.frzs u.tbls (fun m' hm=>by
  obtain ⟨o',es',ep',ho',r'⟩:=hm
  rw [ho] at ho';cases ho'
  exact ⟨_,es',ep',hL,r'⟩) hok I.bare
theorem Inv.call {g':Array GenState} {t':Nat} {d':Drawn} {ch:List Addr} (I:Inv X pins σ H s) (u:Un (iZ X.stack) ch H H' s.heap h') (hok:HOk X.prog X.w H' h') (hg:AllBare g')
  (hch:∀ b∈ch,(b∈X.ex\/X.s₀.heap.objs.size<=b)/\b≠X.env.locals/\(∀ x c,X.env.cells.lookup x=some c->c≠b)/\∀ p∈X.pn++pins,p.1≠b) :
  Inv X pins σ H' { s with heap:=h',gens:=g',drawn:=d',toks:=t' }:=by
 obtain ⟨m,⟨o,es,ep,ho,r⟩,_⟩:=id I.loc
 obtain ⟨sl,hL⟩:=u.any ho I.free fun z=>(hch _ z).2.1 rfl
 exact I.step (ch:=ch) hch (fun b o hL hb hc e n=>u.keep b o e n (fun z=>(AG.mp (I.stkSub b z)).elim hL hb) hc) (fun b o _ _ hc e n=>u.any e n hc) (fun b o hc e n=>u.free b o e n hc) (fun b o hc e=>u.there b o e hc) u.tups u.frzs u.tbls (fun m' hm=>by
  obtain ⟨o',es',ep',ho',r'⟩:=hm
  rw [ho] at ho';cases ho'
  exact ⟨_,es',ep',hL,r'⟩) hok hg
theorem Inv.turned {t':Nat} {it:Addr} (I:Inv X pins σ H s) (k:∀ b o,b≠it->s.heap.get? b=some o->h'.get? b=some o) (hn:H it=none) (hL:it≠X.env.locals)
  (h1:it∈X.ex\/X.s₀.heap.objs.size<=it) (h2:∀ x c,X.env.cells.lookup x=some c->c≠it) (h3:∀ p∈X.pn++pins,p.1≠it):Inv X pins σ H { s with heap:=h',toks:=t' }:=by
 have nit:∀ b u,H b=some u->b≠it:=fun b u e z=>by rw [z,hn] at e;cases e
 refine I.step (g':=s.gens) (d':=s.drawn) (ch:=[it]) (fun b hb=>?_) (fun b o _ _ hc e _=>k b o (fun z=>hc (by simp [z])) e) (fun b o _ _ hc e _=>⟨o.slots,k b o (fun z=>hc (by simp [z])) e⟩) (fun _ _ _ _ n=>n)
  (fun b o hc e=>⟨o,k b o (fun z=>hc (by simp [z])) e⟩) (fun _ _ e=>e) (fun _ _ _ e=>e) (fun b ps e=>⟨#[],by rw [e];simp⟩) (fun m hm=>?_) (fun b u e=>?_) I.bare
 ·have e:b=it:=by simpa using hb
  subst e
  exact ⟨h1,hL,h2,h3⟩
 ·obtain ⟨o,es,ep,ho,r⟩:=hm
  exact ⟨o,es,ep,k _ o (Ne.symm hL) ho,r⟩
 ·refine (I.hok b u e).stay (fun c v hc q=>k c v ?_ q) (fun _ q=>q) fun _ _ q=>q
  rcases hc with z|z
  ·rw [z];exact nit b u e
  ·exact nit c _ z
theorem Inv.tok (I:Inv X pins σ H s) (t:Nat):Inv X pins σ H { s with toks:=t }:=I.un (h':=s.heap) (t':=t) Un.refl I.hok
theorem Inv.kept {t':Nat} (I:Inv X pins σ H s) (k:∀ b u,s.heap.get? b=some u->h'.get? b=some u):Inv X pins σ H { s with heap:=h',toks:=t' }:=I.un (Un.kept k) (I.hok.kept k)
theorem Inv.laid {a:Addr} {o:HO} {t':Nat} (I:Inv X pins σ H s) (k:∀ b u,s.heap.get? b=some u->h'.get? b=some u) (hp:s.heap.objs.size<=a) (new:ObjOk X.prog X.w (ax H a o) h' a o) :
  Inv X pins σ (ax H a o) { s with heap:=h',toks:=t' }:=I.un (Un.laid k hp (I.hok.fresh hp)) (I.hok.laid k hp new)
theorem Inv.write {x e:Addr} {o:HO} {t':Nat} (I:Inv X pins σ H s) (mu:wj (H x)) (he:e=x\/H e=some (.own x)) (k:∀ b u,b≠e->s.heap.get? b=some u->h'.get? b=some u) (heo:∃ u,h'.get? e=some u)
  (new:ObjOk X.prog X.w (ax H x o) h' x o):Inv X pins σ (ax H x o) { s with heap:=h',toks:=t' }:=I.un (Un.write mu he k heo) (I.hok.write mu he k heo new)
theorem Inv.weak {σ':List (Option V)} (I:Inv X pins σ H s) (hl:σ'.length=σ.length) (w:∀ (i:Nat) v,σ'[i]?=some (some v)->σ[i]?=some (some v)):Inv X pins σ' H s:=
 ⟨I.ok,I.os,I.bare,I.base,let ⟨m,hn,hl'⟩:=I.loc;⟨m,hn,fun i x v e1 e2 e3=>hl' i x v e1 (w i v e2) e3⟩,I.cell,I.free,I.freeC,I.pin,I.hok,hl.trans I.len⟩
theorem Inv.pins_of {pins':List (Addr×Obj)} (I:Inv X pins σ H s) (h:∀ p∈pins',s.heap.get? p.1=some p.2/\H p.1=none/\p.1≠X.env.locals/\p.1∉X.fs/\∀ v,p.2.data≠.cell v):Inv X pins' σ H s:=
 ⟨I.ok,I.os,I.bare,I.base,I.loc,I.cell,I.free,I.freeC,fun p hp=>(AQ.mp hp).elim (fun z=>I.pin p (By _ z)) (h p),I.hok,I.len⟩
theorem gD {N:List Str} (hN:N.Nodup) {i j:Nat} {x:Str} (a:N[i]?=some x) (b:N[j]?=some x):i=j:=by
 obtain ⟨h1,e1⟩:=An.mp a
 obtain ⟨h2,e2⟩:=An.mp b
 exact (List.getElem_inj hN).mp (e1.trans e2.symm)
theorem nc {M:Model} {A:Around} {E:Value->Shared->Prop} {i:Nat} {x:Str} {v:V} {u:Value} {Q:Unit->Shared->Prop} (I:Inv X pins σ H s) (hN:X.N.Nodup) (hi:X.N[i]?=some x) (hx:yi X.env.scope x) (r:RelV v u)
  (h:∀ s',Inv X pins (σ.set i (some v)) H s'->(∃ a,Heap.SameBut a s.heap s'.heap/\(a=X.env.locals\/X.env.cells.lookup x=some a))->Q () s') (hf:X.fn x=true\/X.env.scope.names.lookup x=some .local:=by first|exact .inl rfl|exact .inr rfl|assumption):wpAny M A (storeName X.env x u) Q E s:=by
 obtain ⟨m,hn,hl⟩:=id I.loc
 have hcls:(X.env.scope.kind == .class || (X.env.scope.kind == .module && X.env.locals != X.env.globals))=false:=by rw [I.ok.kind];rfl
 have hiσ:i < σ.length:=by rw [I.len];exact (An.mp hi).1
 have cne:=I.cne
 have tracked:∀ {a:Addr} {h':Heap},(∃ o,s.heap.get? a=some o/\H a=none)->Heap.SameBut a s.heap h'->HOk X.prog X.w H h':=fun {a h'} ha hs b ob e=>by
  obtain ⟨_,_,hfree⟩:=ha
  refine (I.hok b ob e).stay (fun c w' hc q=>(hs.2 c ?_).trans q) (fun _ q=>q) fun _ _ q=>q
  rintro rfl
  rcases hc with rfl|hc
  ·rw [hfree] at e;cases e
  ·rw [hfree] at hc;cases hc
 rcases hx with hk|hk
 ·refine wpAny_storeName_local hk hn (fun h' hn' hs=>?_) hcls
  obtain ⟨oL,_,_,hoL,_⟩:=id hn
  refine h _ ⟨I.ok,I.os,I.bare,⟨fun b o e n hb hx=>?_,fun b o e n hb hx=>?_,I.base.free,fun b o e hx=>?_,I.base.tups,I.base.frzs,I.base.tbls⟩,⟨_,hn',fun j y v' e1 e2 e3=>?_⟩,fun y c e=>?_,I.free,I.freeC,fun p hp=>?_,tracked ⟨oL,hoL,I.free⟩ hs,by simpa using I.len⟩ ⟨_,hs,.inl rfl⟩
  ·exact (hs.2 b (AM (Ax (Ap e) I.ok.above))).trans (I.base.keep b o e n hb hx)
  ·obtain ⟨sl,e1⟩:=I.base.slot b o e n hb hx
   exact ⟨sl,(hs.2 b (AM (Ax (Ap e) I.ok.above))).trans e1⟩
  ·obtain ⟨o',e1⟩:=I.base.there b o e hx
   exact ⟨o',(hs.2 b (AM (Ax (Ap e) I.ok.above))).trans e1⟩
  ·by_cases hj:j=i
   ·subst hj
    rw [hi] at e1;cases e1
    rw [List.getElem?_set_self hiσ] at e2
    cases e2
    exact ⟨u,r,.inl ⟨hk,by simp⟩⟩
   ·rw [List.getElem?_set_ne (Ne.symm hj)] at e2
    obtain ⟨u',r',q⟩:=hl j y v' e1 e2 e3
    refine ⟨u',r',?_⟩
    rcases q with ⟨k,e⟩|⟨k,c,e,z⟩
    ·refine .inl ⟨k,?_⟩
     have:y≠x:=fun e=>hj (gD hN e1 (e ▸ hi))
     simp [this,e]
    ·exact .inr ⟨k,c,e,z.sameBut hs (cne y c e)⟩
  ·obtain ⟨w',z⟩:=I.cell y c e
   exact ⟨w',z.sameBut hs (cne y c e)⟩
  ·obtain ⟨e,n,ne,nf,d⟩:=I.pin p hp
   exact ⟨(hs.2 p.1 ne).trans e,n,ne,nf,d⟩
 ·have hfn:X.fn x=true:=by
   rcases hf with z|z
   ·exact z
   ·rw [z] at hk;cases hk
  obtain ⟨c,hc⟩:=I.ok.has x (.inl hk)
  obtain ⟨w',z⟩:=I.cell x c hc
  refine wpAny_storeName_cell I.ok.kind hk hc z (fun h' hc' hs=>?_)
  obtain ⟨oc,hoc,hocd⟩:=id z
  refine h { s with heap:=h' } ⟨I.ok,I.os,I.bare,⟨fun b o e n hb hx=>?_,fun b o e n hb hx=>?_,I.base.free,fun b o e hx=>?_,I.base.tups,I.base.frzs,I.base.tbls⟩,⟨m,hn.sameBut hs (Ne.symm (cne x c hc)),fun j y v' e1 e2 e3=>?_⟩,fun y c' e=>?_,I.free,I.freeC,fun p hp=>?_,tracked ⟨oc,hoc,I.freeC x c hc⟩ hs,by simpa using I.len⟩ ⟨c,hs,.inr hc⟩
  ·exact (hs.2 b (AM (Ax (Ap e) (I.ok.cab x c hfn hc)))).trans (I.base.keep b o e n hb hx)
  ·obtain ⟨sl,e1⟩:=I.base.slot b o e n hb hx
   exact ⟨sl,(hs.2 b (AM (Ax (Ap e) (I.ok.cab x c hfn hc)))).trans e1⟩
  ·obtain ⟨o',e1⟩:=I.base.there b o e hx
   exact ⟨o',(hs.2 b (AM (Ax (Ap e) (I.ok.cab x c hfn hc)))).trans e1⟩
  ·by_cases hj:j=i
   ·subst hj
    rw [hi] at e1;cases e1
    rw [List.getElem?_set_self hiσ] at e2
    cases e2
    exact ⟨u,r,.inr ⟨.inl hk,c,hc,hc'⟩⟩
   ·rw [List.getElem?_set_ne (Ne.symm hj)] at e2
    obtain ⟨u',r',q⟩:=hl j y v' e1 e2 e3
    refine ⟨u',r',?_⟩
    rcases q with q|⟨k,c',e,z'⟩
    ·exact .inl q
    ·refine .inr ⟨k,c',e,z'.sameBut hs ?_⟩
     rintro rfl
     exact hj (gD hN e1 (I.ok.inj _ _ _ e hc ▸ hi))
  ·by_cases hcc:c'=c
   ·subst hcc;exact ⟨_,hc'⟩
   ·obtain ⟨w2,z2⟩:=I.cell y c' e
    exact ⟨w2,z2.sameBut hs hcc⟩
  ·obtain ⟨e,n,ne,nf,d⟩:=I.pin p hp
   refine ⟨(hs.2 p.1 ?_).trans e,n,ne,nf,d⟩
   intro q
   rw [q,hoc] at e
   have q':oc=p.2:=A1 e
   exact d w' (by rw [<-q'];exact hocd)
theorem gE {M:Model} {A:Around} {E:Value->Shared->Prop} {i:Nat} {x:Str} {v:V} {u:Value} {Q:Unit->Shared->Prop} (I:Inv X pins σ H s) (hN:X.N.Nodup) (hi:X.N[i]?=some x) (hx:yi X.env.scope x) (r:RelV v u)
  (h:∀ s',Inv X pins (σ.set i (some v)) H s'->Q () s') (hf:X.fn x=true\/X.env.scope.names.lookup x=some .local:=by first|exact .inl rfl|exact .inr rfl|assumption):wpAny M A (storeName X.env x u) Q E s:=
 nc I hN hi hx r (fun s' I' _=>h s' I') hf
theorem Inv.call' {s':Shared} {ch:List Addr} (I:Inv X pins σ H s) (ho:s'.os=s.os) (u:Un (iZ X.stack) ch H H' s.heap s'.heap) (hok:HOk X.prog X.w H' s'.heap) (hg:AllBare s'.gens)
  (hch:∀ b∈ch,(b∈X.ex\/X.s₀.heap.objs.size<=b)/\b≠X.env.locals/\(∀ x c,X.env.cells.lookup x=some c->c≠b)/\∀ p∈X.pn++pins,p.1≠b):Inv X pins σ H' s':=by
 obtain ⟨h',g',d',t',o'⟩:=s'
 have e:o'=s.os:=ho
 subst e
 exact I.call (g':=g') (t':=t') (d':=d') u hok hg hch
end
abbrev XK:=Value->Option Addr->Hp->Prop
abbrev St:=List (Option V)
abbrev VK:=V->Hp->Prop
abbrev TE:=St->Hp->VK->Prop
abbrev TT:=St->Hp->(Bool->Hp->Prop)->Prop
abbrev TA:=St->Hp->(List V->Hp->Prop)->Prop
structure Ends where
 nx:St->Hp->Prop
 rt:VK
 bk:St->Hp->Prop:=fun _ _=>False
 ct:St->Hp->Prop:=fun _ _=>False
abbrev TS:=Ends->St->Hp->Prop
inductive EP (X:Cx) (pins:List (Addr×Obj)) (σ:St) (Q:VK) (u:Value) (s':Shared):Prop
 | mk (v H':_):Inv X pins σ H' s'->RelV v u->Q v H'->EP X pins σ Q u s'
def TP (X:Cx) (pins:List (Addr×Obj)) (σ:St) (Q:Bool->Hp->Prop) (b:Bool) (s':Shared):Prop:=∃ H',Inv X pins σ H' s'/\Q b H'
inductive AP (X:Cx) (pins:List (Addr×Obj)) (σ:St) (Q:List V->Hp->Prop) (us:List Value) (s':Shared):Prop
 | mk (vs H':_):Inv X pins σ H' s'->Vals vs us->Q vs H'->AP X pins σ Q us s'
def SP (X:Cx) (pins:List (Addr×Obj)) (D:Ends) (f:Flow) (s':Shared):Prop:=
 match f with
 | .next=>∃ σ' H',Inv X pins σ' H' s'/\D.nx σ' H'
 | .brk=>∃ σ' H',Inv X pins σ' H' s'/\D.bk σ' H'
 | .cont=>∃ σ' H',Inv X pins σ' H' s'/\D.ct σ' H'
 | .ret u=>∃ v σ' H',Inv X pins σ' H' s'/\RelV v u/\D.rt v H'
structure PE (X:Cx) (e:Expr) (t:TE):Prop where
 run:∀ (pins:List (Addr×Obj)) (s:Shared) (σ:St) (H:Hp) (Q:VK),Inv X pins σ H s->t σ H Q->wpAny (model X.prog X.w) X.A (eval e X.env) (EP X pins σ Q) X.xe s
instance {X:Cx} {e:Expr} {t:TE}:CoeFun (PE X e t) fun _=>∀ (pins:List (Addr×Obj)) (s:Shared) (σ:St) (H:Hp) (Q:VK),Inv X pins σ H s->t σ H Q->wpAny (model X.prog X.w) X.A (eval e X.env) (EP X pins σ Q) X.xe s:=⟨PE.run⟩
structure PT (X:Cx) (e:Expr) (t:TT):Prop where
 run:∀ (pins:List (Addr×Obj)) (s:Shared) (σ:St) (H:Hp) (Q:Bool->Hp->Prop),Inv X pins σ H s->t σ H Q->wpAny (model X.prog X.w) X.A (isTrue e X.env (eval e X.env)) (TP X pins σ Q) X.xe s
instance {X:Cx} {e:Expr} {t:TT}:CoeFun (PT X e t) fun _=>∀ (pins:List (Addr×Obj)) (s:Shared) (σ:St) (H:Hp) (Q:Bool->Hp->Prop),Inv X pins σ H s->t σ H Q->wpAny (model X.prog X.w) X.A (isTrue e X.env (eval e X.env)) (TP X pins σ Q) X.xe s:=⟨PT.run⟩
structure PW (X:Cx) (e:Expr) (t:TT):Prop where
 run:∀ (whole:Sem Value) (pins:List (Addr×Obj)) (s:Shared) (σ:St) (H:Hp) (Q:Bool->Hp->Prop),Inv X pins σ H s->t σ H Q->wpAny (model X.prog X.w) X.A (isTrue e X.env whole) (TP X pins σ Q) X.xe s
instance {X:Cx} {e:Expr} {t:TT}:CoeFun (PW X e t) fun _=>∀ (whole:Sem Value) (pins:List (Addr×Obj)) (s:Shared) (σ:St) (H:Hp) (Q:Bool->Hp->Prop),Inv X pins σ H s->t σ H Q->wpAny (model X.prog X.w) X.A (isTrue e X.env whole) (TP X pins σ Q) X.xe s:=⟨PW.run⟩
theorem PW.pt {X:Cx} {e:Expr} {t:TT} (h:PW X e t):PT X e t:=⟨fun pins s σ H Q I q=>h _ pins s σ H Q I q⟩
structure PA (X:Cx) (es:List Expr) (t:TA):Prop where
 run:∀ (pos:Pos) (pins:List (Addr×Obj)) (s:Shared) (σ:St) (H:Hp) (Q:List V->Hp->Prop),Inv X pins σ H s->t σ H Q->wpAny (model X.prog X.w) X.A (spliced (backTo pos (starEach es X.env))) (AP X pins σ Q) X.xe s
instance {X:Cx} {es:List Expr} {t:TA}:CoeFun (PA X es t) fun _=>∀ (pos:Pos) (pins:List (Addr×Obj)) (s:Shared) (σ:St) (H:Hp) (Q:List V->Hp->Prop),Inv X pins σ H s->t σ H Q->wpAny (model X.prog X.w) X.A (spliced (backTo pos (starEach es X.env))) (AP X pins σ Q) X.xe s:=⟨PA.run⟩
structure PS (X:Cx) (st:Stmt) (t:TS):Prop where
 run:∀ (pins:List (Addr×Obj)) (s:Shared) (σ:St) (H:Hp) (D:Ends),Inv X pins σ H s->t D σ H->wpAny (model X.prog X.w) X.A (exec st X.env) (SP X pins D) X.xe s
instance {X:Cx} {st:Stmt} {t:TS}:CoeFun (PS X st t) fun _=>∀ (pins:List (Addr×Obj)) (s:Shared) (σ:St) (H:Hp) (D:Ends),Inv X pins σ H s->t D σ H->wpAny (model X.prog X.w) X.A (exec st X.env) (SP X pins D) X.xe s:=⟨PS.run⟩
structure PSs (X:Cx) (st:List Stmt) (t:TS):Prop where
 run:∀ (pins:List (Addr×Obj)) (s:Shared) (σ:St) (H:Hp) (D:Ends),Inv X pins σ H s->t D σ H->wpAny (model X.prog X.w) X.A (execs st X.env) (SP X pins D) X.xe s
instance {X:Cx} {st:List Stmt} {t:TS}:CoeFun (PSs X st t) fun _=>∀ (pins:List (Addr×Obj)) (s:Shared) (σ:St) (H:Hp) (D:Ends),Inv X pins σ H s->t D σ H->wpAny (model X.prog X.w) X.A (execs st X.env) (SP X pins D) X.xe s:=⟨PSs.run⟩
theorem bA {α:Type} {t:Sem α} {Q Q':α->Shared->Prop} {M:Model} {A:Around} {E:Value->Shared->Prop} {s:Shared} (h:wpAny M A t Q E s) (hQ:∀ a s,Q a s->Q' a s):wpAny M A t Q' E s:=wpAny_mono h hQ fun _ _ x=>x
end L2
namespace L2
open PySem PySem.Spec PyProof.Rows
section
variable {X:Cx}
inductive qQ (i:Nat) (σ:St) (H:Hp) (Q:VK):Prop
 | mk (v:_):σ[i]?=some (some v)->Q v H->qQ i σ H Q
def tC (v:V):TE:=fun _ H Q=>Q v H
theorem uk {i:Nat} {x:Str} {pos:Pos} (hN:X.N[i]?=some x) (hv:yh X.env.scope x) (hd:(x == ("__debug__":Str))=false:=by decide) (hcd:(x == ("__classdict__":Str))=false:=by decide):PE X (.Name x pos) (qQ i):=by
 refine ⟨?_⟩
 intro pins s σ H Q I h
 obtain ⟨v,e,h⟩:=h
 obtain ⟨m,hn,hl⟩:=I.loc
 obtain ⟨u,r,l⟩:=hl i x v hN e hv
 have fin:EP X pins σ Q u s:=⟨v,H,I,r,h⟩
 rcases l with ⟨hk,hm⟩|⟨hk,c,hc,hcell⟩
 ·exact wpAny_Name (wpAny_loadName_local I.ok.kind hk hn hm fin) hd
 ·rcases hk with hk|hk
  ·exact wpAny_Name (wpAny_loadName_cell I.ok.kind hk hc hcell fin) hd
  ·exact wpAny_Name (wpAny_loadName_free I.ok.kind hk hc hcell fin hcd) hd
theorem ae {i j pos}:PE X (.Constant (.int i) j pos) (tC (.int i)):=⟨fun _ _ _ H _ I h=>wpAny_Constant_int ⟨.int i,H,I.tok _,⟨_,rfl⟩,h⟩⟩
theorem eJ {b j pos}:PE X (.Constant (.bool b) j pos) (tC (.bl b)):=⟨fun _ _ _ H _ I h=>Constant_bool ⟨.bl b,H,I,rfl,h⟩⟩
theorem cv {j pos}:PE X (.Constant .none j pos) (tC .non):=⟨fun _ _ _ H _ I h=>Constant_none ⟨.non,H,I,rfl,h⟩⟩
theorem ah {x j pos}:PE X (.Constant (.str x) j pos) (tC (.str x)):=⟨fun _ _ _ H _ I h=>Calls.Constant_str ⟨.str x,H,I.tok _,⟨_,rfl⟩,h⟩⟩
def Gl (X:Cx) (x:Str):Prop:=X.env.kindOf x=some .globalImplicit
theorem dm {E:Value->Shared->Prop} {pins:List (Addr×Obj)} {s:Shared} {σ:St} {H:Hp} {x:Str} {u:Value} {pos:Pos} {Q:Value->Shared->Prop} (I:Inv X pins σ H s) (hg:Gl X x) (hm:X.mg x=some u) (h:Q u s)
  (hd:(x == ("__debug__":Str))=false:=by decide):wpAny (model X.prog X.w) X.A (eval (.Name x pos) X.env) Q E s:=
 Calls.Name_function_global I.ok.kind hg (Calls.loadGlobal_global (by rw [I.ok.glob];exact I.mod.glob.keeps I.bk) hm h) hd
theorem gF {E:Value->Shared->Prop} {pins:List (Addr×Obj)} {s:Shared} {σ:St} {H:Hp} {x:Str} {u:Value} {pos:Pos} {Q:Value->Shared->Prop} (I:Inv X pins σ H s) (hg:Gl X x) (hm:X.mg x=none) (hv:bootBuiltins x=some u) (h:Q u s)
  (hn:x≠"__name__":=by decide) (hd:(x == ("__debug__":Str))=false:=by decide):wpAny (model X.prog X.w) X.A (eval (.Name x pos) X.env) Q E s:=by
 obtain ⟨mb,h1,h2⟩:=I.mod.blt
 exact Calls.Name_function_global I.ok.kind hg (Calls.loadGlobal_builtin (by rw [I.ok.glob];exact I.mod.glob.keeps I.bk) hm (by rw [I.ok.blt];exact h1.keeps I.bk) ((h2 x hn).trans hv) h) hd
theorem bj {x:Str} {v:V} {u:Value} {pos:Pos} (hg:Gl X x) (hm:X.mg x=some u) (r:RelV v u) (hd:(x == ("__debug__":Str))=false:=by decide):PE X (.Name x pos) (tC v):=
 ⟨fun _ _ _ H _ I h=>dm I hg hm ⟨v,H,I,r,h⟩ hd⟩
theorem qR {x:Str} {v:V} {u:Value} {pos:Pos} (hg:Gl X x) (hm:X.mg x=none) (hv:bootBuiltins x=some u) (r:RelV v u) (hn:x≠"__name__":=by decide) (hd:(x == ("__debug__":Str))=false:=by decide):PE X (.Name x pos) (tC v):=
 ⟨fun _ _ _ H _ I h=>gF I hg hm hv ⟨v,H,I,r,h⟩ hn hd⟩
variable {a b:Expr} {ta tb:TE} {pos:Pos}
inductive zQ (Q:Bool->Hp->Prop) (x:V) (H1:Hp):Prop
 | mk (c:_):x=.bl c->Q c H1->zQ Q x H1
def tB (t:TE):TT:=fun σ H Q=>t σ H fun x H1=>zQ Q x H1
theorem a6 {e:Expr} {t:TE} (h:PE X e t) (he:∀ whole,isTrue e X.env whole=(do let v <-whole;standAt e.pos;holding [v] (truthy v)):=by intro _;rfl):PT X e (tB t):=by
 refine ⟨?_⟩
 intro pins s σ H Q I hw
 refine isTrue_plain (bA (h pins s σ H _ I hw) fun v s1 ⟨x,H1,I1,r1,q1⟩=>?_) (he _)
 obtain ⟨d,rfl,q⟩:=q1
 cases r1
 exact wpAny_truthy_bool ⟨H1,I1,q⟩
variable {tA tB':TT} {rest:List Expr}
def yx (t u:TT):TT:=fun σ H Q=>t σ H fun c H1=>if c=true then u σ H1 Q else Q false H1
def z0 (t u:TT):TT:=fun σ H Q=>t σ H fun c H1=>if c=true then Q true H1 else u σ H1 Q
def yy (t:TT):TT:=fun σ H Q=>t σ H fun c H1=>Q (!c) H1
theorem dn (ha:PT X a tA):PW X (.BoolOp .And [a] pos) tA:=by
 refine ⟨?_⟩
 intro wh pins s σ H Q I h
 refine isTrue_and (bA (ha pins s σ H Q I h) fun c s1 e=>?_)
 cases c with
 | true=>exact isTrue_and_nil e
 | false=>exact e
theorem ce (ha:PT X a tA):PW X (.BoolOp .Or [a] pos) tA:=by
 refine ⟨?_⟩
 intro wh pins s σ H Q I h
 refine isTrue_or (bA (ha pins s σ H Q I h) fun c s1 e=>?_)
 cases c with
 | false=>exact isTrue_or_nil e
 | true=>exact e
theorem eQ (ha:PT X a tA) (hb:PW X (.BoolOp .And (b::rest) pos) tB'):PW X (.BoolOp .And (a::b::rest) pos) (yx tA tB'):=by
 refine ⟨?_⟩
 intro wh pins s σ H Q I h
 refine isTrue_and (bA (ha pins s σ H _ I h) fun c s1 ⟨H1,I1,q1⟩=>?_)
 cases c with
 | true=>exact hb wh pins s1 σ H1 Q I1 q1
 | false=>exact ⟨H1,I1,q1⟩
theorem cR (ha:PT X a tA) (hb:PW X (.BoolOp .Or (b::rest) pos) tB'):PW X (.BoolOp .Or (a::b::rest) pos) (z0 tA tB'):=by
 refine ⟨?_⟩
 intro wh pins s σ H Q I h
 refine isTrue_or (bA (ha pins s σ H _ I h) fun c s1 ⟨H1,I1,q1⟩=>?_)
 cases c with
 | true=>exact ⟨H1,I1,q1⟩
 | false=>exact hb wh pins s1 σ H1 Q I1 q1
theorem c8 (ha:PT X a tA):PT X (.UnaryOp .Not a pos) (yy tA):=by
 refine ⟨?_⟩
 intro pins s σ H Q I h
 exact isTrue_not (ha pins s σ H (fun c H1=>Q (!c) H1) I h)
inductive nX (tb:TE) (σ:St) (Q:VK) (x:V) (H1:Hp):Prop
 | mk (c:_):x=.bl c->(if c=true then tb σ H1 Q else Q (.bl false) H1)->nX tb σ Q x H1
def wm (ta tb:TE):TE:=fun σ H Q=>ta σ H fun x H1=>nX tb σ Q x H1
inductive tG (tb:TE) (σ:St) (Q:VK) (x:V) (H1:Hp):Prop
 | mk (c:_):x=.bl c->(if c=true then Q (.bl true) H1 else tb σ H1 Q)->tG tb σ Q x H1
def yz (ta tb:TE):TE:=fun σ H Q=>ta σ H fun x H1=>tG tb σ Q x H1
inductive nY (Q:VK) (x:V) (H1:Hp):Prop
 | mk (c:_):x=.bl c->Q (.bl (!c)) H1->nY Q x H1
def wo (ta:TE):TE:=fun σ H Q=>ta σ H fun x H1=>nY Q x H1
theorem bP {op} {t:TE} (h:PE X a t):PE X (.BoolOp op [a] pos) t:=⟨fun pins s σ H Q I hw=>BoolOp_one (h pins s σ H Q I hw)⟩
theorem bE (ha:PE X a ta) (hb:PE X (.BoolOp .And (b::rest) pos) tb):PE X (.BoolOp .And (a::b::rest) pos) (wm ta tb):=by
 refine ⟨?_⟩
 intro pins s σ H Q I h
 refine BoolOp_and (bA (ha pins s σ H _ I h) fun v s1 ⟨x,H1,I1,r1,q1⟩=>?_)
 obtain ⟨c,rfl,q1⟩:=q1
 cases r1
 refine wpAny_truthy_bool ?_
 cases c with
 | true=>exact hb pins s1 σ H1 Q I1 q1
 | false=>exact ⟨.bl false,H1,I1,rfl,q1⟩
theorem tH (ha:PE X a ta) (hb:PE X (.BoolOp .Or (b::rest) pos) tb):PE X (.BoolOp .Or (a::b::rest) pos) (yz ta tb):=by
 refine ⟨?_⟩
 intro pins s σ H Q I h
 refine BoolOp_or (bA (ha pins s σ H _ I h) fun v s1 ⟨x,H1,I1,r1,q1⟩=>?_)
 obtain ⟨c,rfl,q1⟩:=q1
 cases r1
 refine wpAny_truthy_bool ?_
 cases c with
 | false=>exact hb pins s1 σ H1 Q I1 q1
 | true=>exact ⟨.bl true,H1,I1,rfl,q1⟩
theorem ul (ha:PE X a ta):PE X (.UnaryOp .Not a pos) (wo ta):=by
 refine ⟨?_⟩
 intro pins s σ H Q I h
 refine UnaryOp_ (bA (ha pins s σ H _ I h) fun v s1 ⟨x,H1,I1,r1,q1⟩=>?_)
 obtain ⟨c,rfl,q1⟩:=q1
 cases r1
 exact not_of (wpAny_truthy_bool ⟨.bl (!c),H1,I1,rfl,q1⟩)
def z3 (t:TT) (ta tb:TE):TE:=fun σ H Q=>t σ H fun c H1=>if c=true then ta σ H1 Q else tb σ H1 Q
theorem cf {c:Expr} (hc:PT X c tA) (ha:PE X a ta) (hb:PE X b tb):PE X (.IfExp c a b pos) (z3 tA ta tb):=by
 refine ⟨?_⟩
 intro pins s σ H Q I h
 refine wpAny_IfExp (bA (hc pins s σ H _ I h) fun d s1 ⟨H1,I1,q1⟩=>?_)
 cases d with
 | true=>exact ha pins s1 σ H1 Q I1 q1
 | false=>exact hb pins s1 σ H1 Q I1 q1
end
end L2
namespace L2
open PySem PySem.Spec PyProof.Rows
def SqL (K:PySem.W.Frag) (H:Hp) (a:Addr) (xs:List V):Prop:=
 Rd H a (.lst xs) ∨
  ∃ (o:Obj) (its:Array Value) (n:Nat),K.lookup a=some o/\o.cls=.type "list"/\o.dict=none/\o.data=.seq its n/\its.size<=sizeLine/\Vals xs its.toList
def SqT (K:PySem.W.Frag) (H:Hp) (a:Addr) (xs:List V):Prop:=
 Rd H a (.tup xs) ∨
  ∃ (o:Obj) (its:Array Value) (n:Nat),K.lookup a=some o/\o.cls=.type "tuple"/\o.data=.seq its n/\its.size<=sizeLine/\Vals xs its.toList
def yA:Value->Option V
 | .none=>some .non
 | .bool b=>some (.bl b)
 | .int i _=>some (.int i)
 | .str x _=>some (.str x)
 | .bytes b _=>some (.byt b)
 | .float b _=>some (.flt b)
 | .ref a=>some (.ref a)
 | .type n=>some (.ty n)
 | _=>none
theorem RelV.abs {x:V} {u:Value} (r:RelV x u):yA u=some x:=by
 cases x with
 | non=>cases r;rfl
 | bl _=>cases r;rfl
 | int _=>obtain ⟨t,rfl⟩:=r;rfl
 | str _=>obtain ⟨t,rfl⟩:=r;rfl
 | byt _=>obtain ⟨t,rfl⟩:=r;rfl
 | flt _=>obtain ⟨t,rfl⟩:=r;rfl
 | ref _=>cases r;rfl
 | ty _=>cases r;rfl
theorem RelV.inj {x y:V} {u:Value} (r:RelV x u) (q:RelV y u):x=y:=A1 (r.abs.symm.trans q.abs)
theorem Vals.inj:∀ {xs ys:List V} {us:List Value},Vals xs us->Vals ys us->xs=ys
 | _,_,_,.nil,.nil=>rfl
 | _,_,_,.cons r t,.cons r' t'=>by rw [r.inj r',Vals.inj t t']
section
variable {X:Cx} {pins:List (Addr×Obj)} {σ:St} {H:Hp} {s:Shared} {a:Addr} {xs ys:List V}
theorem SqL.of {K:PySem.W.Frag} (h:H a=some (.lst xs)):SqL K H a xs:=.inl (.inl h)
theorem SqT.of {K:PySem.W.Frag} (h:H a=some (.tup xs)):SqT K H a xs:=.inl (.inl h)
theorem Inv.list (I:Inv X pins σ H s) (h:SqL X.K H a xs):∃ its:List Value,Vals xs its/\PlainL s.heap a its.toArray/\xs.length<=sizeLine:=by
 rcases h with h|⟨o,its,n,hk,hc,hd,hs,hz,r⟩
 ·obtain ⟨z,its,n,r,e⟩:=h.ok I.hok
  exact ⟨its,r,⟨_,n,e,rfl,rfl,rfl⟩,z⟩
 ·refine ⟨its.toList,r,⟨o,n,I.kIn a o hk,hc,hd,by simpa using hs⟩,?_⟩
  have e:=r.length
  simp only [BA] at e
  omega
theorem Inv.tuple (I:Inv X pins σ H s) (h:SqT X.K H a xs):∃ its:List Value,Vals xs its/\IsTup s.heap a its.toArray/\xs.length<=sizeLine:=by
 rcases h with h|⟨o,its,n,hk,hc,hs,hz,r⟩
 ·obtain ⟨z,its,r,p⟩:=h.ok I.hok
  exact ⟨its,r,p.up,z⟩
 ·refine ⟨its.toList,r,⟨o,I.kIn a o hk,hc,n,by simpa using hs⟩,?_⟩
  have e:=r.length
  simp only [BA] at e
  omega
theorem Inv.list_inj (I:Inv X pins σ H s) (h:SqL X.K H a xs) (h':SqL X.K H a ys):xs=ys:=by
 obtain ⟨its,r,⟨o,n,e,_,_,d⟩,_⟩:=I.list h
 obtain ⟨its',r',⟨o',n',e',_,_,d'⟩,_⟩:=I.list h'
 rw [e] at e';cases e'
 rw [d] at d'
 injection d' with d1 _
 have:its=its':=by simpa using congrArg Array.toList d1
 subst this
 exact r.inj r'
theorem Inv.tuple_inj (I:Inv X pins σ H s) (h:SqT X.K H a xs) (h':SqT X.K H a ys):xs=ys:=by
 obtain ⟨its,r,⟨o,e,_,n,d⟩,_⟩:=I.tuple h
 obtain ⟨its',r',⟨o',e',_,n',d'⟩,_⟩:=I.tuple h'
 rw [e] at e';cases e'
 rw [d] at d'
 injection d' with d1 _
 have:its=its':=by simpa using congrArg Array.toList d1
 subst this
 exact r.inj r'
end
abbrev Cx.wish (X:Cx) (E:Value->Shared->Prop):Cx:={ X with xe:=E }
abbrev Cx.nox (X:Cx):Cx:=X.wish fun _ _=>False
theorem Cx.Ok.wish {X:Cx} (ok:X.Ok) (E:Value->Shared->Prop):(X.wish E).Ok:=
 ⟨ok.mod,ok.kind,ok.glob,ok.blt,ok.above,ok.inj,ok.has,ok.cab,ok.hd,ok.frames,ok.stk,ok.exf,ok.bs,ok.bsz,ok.noex,ok.exfs,ok.funs,ok.frf⟩
theorem Cx.Ok.unwish {X:Cx} {E:Value->Shared->Prop} (ok:(X.wish E).Ok):X.Ok:=
 ⟨ok.mod,ok.kind,ok.glob,ok.blt,ok.above,ok.inj,ok.has,ok.cab,ok.hd,ok.frames,ok.stk,ok.exf,ok.bs,ok.bsz,ok.noex,ok.exfs,ok.funs,ok.frf⟩
section
variable {X:Cx} {pins:List (Addr×Obj)} {σ:St} {H:Hp} {s:Shared} {E:Value->Shared->Prop}
theorem Inv.wish (I:Inv X pins σ H s) (E:Value->Shared->Prop):Inv (X.wish E) pins σ H s:=⟨I.ok.wish E,I.os,I.bare,I.base,I.loc,I.cell,I.free,I.freeC,I.pin,I.hok,I.len⟩
theorem Inv.unwish (I:Inv (X.wish E) pins σ H s):Inv X pins σ H s:=⟨I.ok.unwish,I.os,I.bare,I.base,I.loc,I.cell,I.free,I.freeC,I.pin,I.hok,I.len⟩
theorem SP.unwish {D:Ends} {f:Flow} {s':Shared} (h:SP (X.wish E) pins D f s'):SP X pins D f s':=by
 cases f with
 | next=>obtain ⟨σ',H',I,q⟩:=h;exact ⟨σ',H',I.unwish,q⟩
 | brk=>obtain ⟨σ',H',I,q⟩:=h;exact ⟨σ',H',I.unwish,q⟩
 | cont=>obtain ⟨σ',H',I,q⟩:=h;exact ⟨σ',H',I.unwish,q⟩
 | ret u=>obtain ⟨v,σ',H',I,r,q⟩:=h;exact ⟨v,σ',H',I.unwish,r,q⟩
theorem PSs.nox {st:List Stmt} {t:TS} (h:PSs X.nox st t):PSs X st t:=⟨fun pins s σ H D I hw=>
 wpAny_mono (h pins s σ H D (I.wish _) hw) (fun _ _ q=>q.unwish) fun _ _ z=>False.elim z⟩
end
section
variable {X:Cx} {st:Stmt} {rest:List Stmt} {t u:TS} {e:Expr} {te:TE} {pos:Pos}
def wp:TS:=fun D σ H=>D.nx σ H
def yB (t u:TS):TS:=fun D σ H=>t { D with nx:=u D } σ H
theorem aw:PSs X [] wp:=⟨fun _ _ σ H _ I h=>wpAny_execs_nil ⟨σ,H,I,h⟩⟩
theorem ak (h1:PS X st t) (h2:PSs X rest u):PSs X (st::rest) (yB t u):=by
 refine ⟨?_⟩
 intro pins s σ H D I h
 refine wpAny_execs_cons (bA (h1 pins s σ H { D with nx:=u D } I h) fun f s1 q=>?_)
 cases f with
 | next=>
  obtain ⟨σ',H',I',q⟩:=q
  exact h2 pins s1 σ' H' D I' q
 | ret v=>exact q
 | brk=>exact q
 | cont=>exact q
theorem af (h1:PS X st t):PSs X [st] t:=by
 refine ⟨?_⟩
 intro pins s σ H D I h
 refine wpAny_execs_cons (bA (h1 pins s σ H D I h) fun f s1 q=>?_)
 cases f with
 | next=>exact wpAny_execs_nil q
 | ret v=>exact q
 | brk=>exact q
 | cont=>exact q
theorem Inv.quiet {pins:List (Addr×Obj)} {σ:St} {H:Hp} {s:Shared} (I:Inv X pins σ H s):interactive X.env=false:=by simp [interactive,I.ok.kind]
def wq (te:TE):TS:=fun D σ H=>te σ H fun _ H1=>D.nx σ H1
theorem bT (he:PE X e te) (hs:swapsWith e none pos.line X.env=pure false:=by rfl):PS X (.Expr e pos) (wq te):=by
 refine ⟨?_⟩
 intro pins s σ H D I h
 exact wpAny_Expr_any (bA (he pins s σ H _ I h) fun v s1 ⟨x,H1,I1,r1,q1⟩=>⟨σ,H1,I1,q1⟩) I.quiet hs
def yC (te:TE):TS:=fun D σ H=>te σ H D.rt
theorem ao (he:PE X e te):PS X (.Return (some e) pos) (yC te):=by
 refine ⟨?_⟩
 intro pins s σ H D I h
 exact wpAny_Return_some (bA (he pins s σ H _ I h) fun v s1 ⟨x,H1,I1,r1,q1⟩=>⟨x,σ,H1,I1,r1,q1⟩)
def yD (c:TT) (t u:TS):TS:=fun D σ H=>c σ H fun b H1=>if b=true then t D σ H1 else u D σ H1
theorem aI {c:Expr} {a b:List Stmt} {tc:TT} (hc:PT X c tc) (ha:PSs X a t) (hb:PSs X b u):PS X (.If c a b pos) (yD tc t u):=by
 refine ⟨?_⟩
 intro pins s σ H D I h
 refine wpAny_If (bA (hc pins s σ H _ I h) fun d s1 ⟨H1,I1,q1⟩=>?_)
 cases d with
 | true=>exact ha pins s1 σ H1 D I1 q1
 | false=>exact hb pins s1 σ H1 D I1 q1
def um:TS:=fun _ _ _=>False
theorem jY:PS X st um:=⟨fun _ _ _ _ _ _ h=>h.elim⟩
end
abbrev TG:=V->St->Hp->(St->Hp->Prop)->Prop
abbrev wa:=List V->St->Hp->(St->Hp->Prop)->Prop
def PG (X:Cx) (target:Expr) (t:TG):Prop:=
 ∀ (pins:List (Addr×Obj)) (s:Shared) (σ:St) (H:Hp) (v:V) (u:Value) (Q:St->Hp->Prop),Inv X pins σ H s->RelV v u->t v σ H Q->
  wpAny (model X.prog X.w) X.A (assign target X.env u) (fun _ s'=>∃ σ' H',Inv X pins σ' H' s'/\Q σ' H') X.xe s
def yj (X:Cx) (ts:List Expr) (t:wa):Prop:=
 ∀ (pins:List (Addr×Obj)) (s:Shared) (σ:St) (H:Hp) (vs:List V) (us:List Value) (Q:St->Hp->Prop),Inv X pins σ H s->Vals vs us->t vs σ H Q->
  wpAny (model X.prog X.w) X.A (assignInOrder ((assignEach ts X.env).map (·.2)) us) (fun _ s'=>∃ σ' H',Inv X pins σ' H' s'/\Q σ' H') X.xe s
abbrev uo:=V->V->V->Hp->(Hp->Prop)->Prop
def wt (X:Cx) (t:uo):Prop:=
 ∀ (pins:List (Addr×Obj)) (s:Shared) (σ:St) (H:Hp) (o i v:V) (ov iv u:Value) (Q:Hp->Prop),Inv X pins σ H s->RelV o ov->RelV i iv->RelV v u->t o i v H Q->
  wpAny (model X.prog X.w) X.A (setItem ov iv u) (fun _ s'=>∃ H',Inv X pins σ H' s'/\Q H') X.xe s
section
variable {X:Cx} {pos:Pos}
def tI (i:Nat):TG:=fun v σ H Q=>Q (σ.set i (some v)) H
theorem a7 {i:Nat} {x:Str} (hN:X.N.Nodup) (hi:X.N[i]?=some x) (hx:yi X.env.scope x) (hf:X.fn x=true\/X.env.scope.names.lookup x=some .local:=by first|exact .inl rfl|exact .inr rfl|assumption):PG X (.Name x pos) (tI i):=by
 intro pins s σ H v u Q I r h
 exact wpAny_assign_Name (gE I hN hi hx r (fun s' I'=>⟨_,H,I',h⟩) hf)
def yE:wa:=fun vs σ H Q=>vs=[]/\Q σ H
inductive tJ (t:TG) (u:wa) (vs:List V) (σ:St) (H:Hp) (Q:St->Hp->Prop):Prop
 | mk (v r:_):vs=v::r->(t v σ H fun σ' H'=>u r σ' H' Q)->tJ t u vs σ H Q
theorem i7:yj X [] yE:=by
 intro pins s σ H vs us Q I r h
 obtain ⟨e,h⟩:=h
 subst e
 cases r
 exact assignInOrder_nil ⟨σ,H,I,h⟩
theorem cF {e:Expr} {es:List Expr} {t:TG} {u:wa} (h1:PG X e t) (h2:yj X es u)
  (hs:(assignEach (e::es) X.env).map (·.2)=assign e X.env::(assignEach es X.env).map (·.2):=by rfl):yj X (e::es) (tJ t u):=by
 intro pins s σ H vs us Q I r h
 obtain ⟨v,vr,e1,h⟩:=h
 subst e1
 cases r with
 | cons r rr=>
  rw [hs]
  refine assignInOrder_cons (bA (h1 pins s σ H _ _ _ I r h) fun _ s1 ⟨σ1,H1,I1,q1⟩=>?_)
  exact h2 pins s1 σ1 H1 _ _ Q I1 rr q1
inductive wu (K:PySem.W.Frag) (n:Nat) (t:wa) (v:V) (σ:St) (H:Hp) (Q:St->Hp->Prop):Prop
 | mk (a xs:_):v=.ref a->SqT K H a xs->xs.length=n->t xs σ H Q->wu K n t v σ H Q
theorem kK {es:List Expr} {k:Nat} {t:wa} {n:Nat} (hc:X.calm=true) (h:yj X es t)
  (hn:(assignEach es X.env).length=n:=by rfl) (hst:(assignEach es X.env).findIdx? (·.1)=none:=by rfl):PG X (.Tuple es k pos) (wu X.K n t):=by
 intro pins s σ H v u Q I r hw
 obtain ⟨a,xs,e1,hq,hl,hw⟩:=hw
 subst e1
 cases r
 obtain ⟨its,rv,ht,hz⟩:=I.tuple hq
 refine assign_Tuple_tuple (I.ok.hd hc) ht (by simp [hn,<-hl,rv.length]) hst fun h' hx=>?_
 have I1:Inv X pins σ H { s with heap:=h' }:=I.kept (t':=s.toks) fun b o e=>hx b o (AM (Ap e)) e
 exact h pins _ σ H xs _ Q I1 (by simpa using rv) hw
def yF (to ti:TE) (t:uo):TG:=fun v σ H Q=>to σ H fun o H1=>ti σ H1 fun i H2=>t o i v H2 fun H3=>Q σ H3
theorem kM {o i:Expr} {to ti:TE} {t:uo} (ho:PE X o to) (hi:PE X i ti) (hs:wt X t)
  (ha:∀ v,assign (.Subscript o i pos) X.env v=(do
   let ov <-holding [v] (eval o X.env)
   let iv <-holding [v,ov] (eval i X.env)
   standAt pos
   holding [v,ov,iv] (setItem ov iv v)
   release [v,ov,iv] []):=by intro _;rfl):PG X (.Subscript o i pos) (yF to ti t):=by
 intro pins s σ H v u Q I r h
 rw [ha]
 refine wpAny_bind (wpAny_holding (bA (ho pins s σ H _ I h) fun ov s1 ⟨x,H1,I1,r1,q1⟩=>?_))
 refine wpAny_bind (wpAny_holding (bA (hi pins s1 σ H1 _ I1 q1) fun iv s2 ⟨y,H2,I2,r2,q2⟩=>?_))
 refine wpAny_bind (wpAny_standAt (wpAny_bind (wpAny_holding (bA (hs pins s2 σ H2 x y v ov iv u _ I2 r1 r2 r q2) fun _ s3 ⟨H3,I3,q3⟩=>?_))))
 exact wpAny_release ⟨σ,H3,I3,q3⟩
def wv (te:TE) (g:TG):TS:=fun D σ H=>te σ H fun x H1=>g x σ H1 D.nx
theorem gG {tg e:Expr} {te:TE} {g:TG} (he:PE X e te) (hg:PG X tg g) (hs:swapsWithSole [tg] e pos.line X.env=pure false:=by rfl) (hw:swappedStores [tg] e X.env=pure none:=by rfl)
  (h1:(assignEach [tg] X.env).map (·.2)=[assign tg X.env]:=by rfl):PS X (.Assign [tg] e pos) (wv te g):=by
 refine ⟨?_⟩
 intro pins s σ H D I h
 refine wpAny_Assign_stores (bA (he pins s σ H _ I h) fun v s1 ⟨x,H1,I1,r1,q1⟩=>?_) hs hw
 rw [h1]
 exact bA (hg pins s1 σ H1 x v _ I1 r1 q1) fun _ s2 q=>q
theorem aR {i:Nat} {x:Str} {e:Expr} {te:TE} {pos':Pos} (hN:X.N.Nodup) (hi:X.N[i]?=some x) (hx:yi X.env.scope x) (he:PE X e te) (hs:swapsWith e (some (.Name x pos')) pos.line X.env=pure false:=by rfl) (hf:X.fn x=true\/X.env.scope.names.lookup x=some .local:=by first|exact .inl rfl|exact .inr rfl|assumption) :
  PS X (.Assign [.Name x pos'] e pos) (wv te (tI i)):=by
 refine ⟨?_⟩
 intro pins s σ H D I h
 refine wpAny_Assign_Name (bA (he pins s σ H _ I h) fun v s1 ⟨y,H1,I1,r1,q1⟩=>?_) hs
 exact gE I1 hN hi hx r1 (fun s2 I2=>⟨_,H1,I2,q1⟩) hf
end
structure It where
 go:Nat->Hp->Prop
 yld:Nat->Hp->V->Hp->Prop
 stop:Nat->Hp->Prop
def ii (X:Cx) (pins:List (Addr×Obj)) (H:Hp) (b:Addr):Prop:=
 H b=none/\b≠X.env.locals/\b∉X.fs/\(b∈X.ex\/X.s₀.heap.objs.size<=b)/\(∀ x c,X.env.cells.lookup x=some c->c≠b)/\∀ p∈X.pn++pins,p.1≠b
theorem Inv.fpOk {X:Cx} {pins:List (Addr×Obj)} {σ:St} {H H':Hp} {s:Shared} {b:Addr} (I:Inv X pins σ H s) (hb:s.heap.objs.size<=b) (hn:H' b=none):ii X pins H' b:=by
 refine ⟨hn,Nat.ne_of_gt (Ax I.lt hb),I.nofs hb,.inr (Aq I.sz hb),fun x c e z=>?_,fun p hp z=>?_⟩
 ·obtain ⟨v,q⟩:=I.cell x c e
  exact absurd (Ax q.lt (by rw [z];exact hb)) (Be _)
 ·exact absurd (Ax (Ap (I.pin p hp).1) (by rw [z];exact hb)) (Be _)
structure kO (P:Program) (w:World) (K:PySem.W.Frag) (tg:Expr) (J:It) (fp:List Addr) (it:Addr) (tn:Nat->Heap->Prop):Prop where
 mem:it∈fp
 obj:∀ i h,tn i h->∀ b∈fp,∃ o,h.get? b=some o/\∀ v,o.data≠.cell v
 keep:∀ i h h',tn i h->(∀ b∈fp,∀ o,h.get? b=some o->h'.get? b=some o)->tn i h'
 item:∀ (X:Cx),X.prog=P->X.w=w->X.K=K->X.calm=true->∀ (i:Nat) (pins:List (Addr×Obj)) (s:Shared) (σ:St) (H:Hp) (E:Value->Shared->Prop),Inv X pins σ H s->(∀ b∈fp,ii X pins H b)->tn i s.heap->J.go i H->
  wpAny (model P w) X.A (pyNext (.ref it)) (fun r s1=>∃ u,r=some u /\
   wpAny (model P w) X.A (letOwnedTupleGo tg (.ref it) u) (fun _ s2=>∃ x H',Inv X pins σ H' s2/\RelV x u/\J.yld i H x H'/\tn (i+1) s2.heap/\∀ b∈fp,H' b=none) E s1) E s
 done:∀ (X:Cx),X.prog=P->X.w=w->X.K=K->X.calm=true->∀ (i:Nat) (pins:List (Addr×Obj)) (s:Shared) (σ:St) (H:Hp) (E:Value->Shared->Prop),Inv X pins σ H s->(∀ b∈fp,ii X pins H b)->tn i s.heap->J.stop i H->
  wpAny (model P w) X.A (pyNext (.ref it)) (fun r s1=>r=none/\Inv X pins σ H s1) E s
 self:∀ (A:Around) (i:Nat) (s:Shared) (Q:Value->Shared->Prop) (E:Value->Shared->Prop),tn i s.heap->Q (.ref it) s->wpAny (model P w) A (pyIter (.ref it)) Q E s
abbrev TI:=St->Hp->(It->Hp->Prop)->Prop
inductive yk (X:Cx) (pins:List (Addr×Obj)) (σ:St) (tg:Expr) (R:It->Hp->Prop) (itv:Value) (s2:Shared):Prop
 | mk (it:Addr) (fp:List Addr) (tn:Nat->Heap->Prop) (J:It) (H':Hp):itv=.ref it->Inv X pins σ H' s2->kO X.prog X.w X.K tg J fp it tn->tn 0 s2.heap->(∀ b∈fp,ii X pins H' b)->R J H'->yk X pins σ tg R itv s2
structure PI (X:Cx) (tg iter:Expr) (wi:TI):Prop where
 run:∀ (pins:List (Addr×Obj)) (s:Shared) (σ:St) (H:Hp) (R:It->Hp->Prop),Inv X pins σ H s->wi σ H R->
  wpAny (model X.prog X.w) X.A (eval iter X.env) (fun v s1=>wpAny (model X.prog X.w) X.A (pyIter v) (yk X pins σ tg R) X.xe s1) X.xe s
instance {X:Cx} {tg iter:Expr} {wi:TI}:CoeFun (PI X tg iter wi) fun _=>∀ (pins:List (Addr×Obj)) (s:Shared) (σ:St) (H:Hp) (R:It->Hp->Prop),Inv X pins σ H s->wi σ H R->
  wpAny (model X.prog X.w) X.A (eval iter X.env) (fun v s1=>wpAny (model X.prog X.w) X.A (pyIter v) (yk X pins σ tg R) X.xe s1) X.xe s:=⟨PI.run⟩
theorem jZ {M:Model} {A:Around} {E:Value->Shared->Prop} {s:Shared} {tg:Expr} {it:Addr} {u:Value} {o:Obj} {n:String} {vs:Array Value} {Q:Unit->Shared->Prop} (ho:s.heap.get? it=some o) (hc:o.cls=.type n) (hd:o.data=.fields vs)
  (hn:["enumerate","zip","dict_itemiterator","dict_reverseitemiterator","odict_iterator","itertools.zip_longest","itertools.pairwise"].contains n=false) (hQ:Q () s):wpAny M A (letOwnedTupleGo tg (.ref it) u) Q E s:=by
 unfold letOwnedTupleGo
 cases tg<;>first
  | exact wpAny_pure hQ
  | (cases u<;>first
    | exact wpAny_pure hQ
    | (refine wpAny_bind (wpAny_load ho ?_)
       rw [hc,hd]
       show wpAny M A (if (["enumerate","zip","dict_itemiterator","dict_reverseitemiterator","odict_iterator","itertools.zip_longest","itertools.pairwise"].contains n && vs[0]? == some (rawInt _))=true then _ else _) Q E s
       rw [if_neg (by intro h;rw [hn,Bool.false_and] at h;cases h)]
       exact wpAny_pure hQ))
def wb (K:PySem.W.Frag) (a:Addr):It:=
 ⟨fun i H=>∃ xs x,SqL K H a xs/\xs[i]?=some x,fun i H x H'=>H'=H/\∀ xs,SqL K H a xs->xs[i]?=some x,fun i H=>∃ xs,SqL K H a xs/\xs.length<=i⟩
def wc (K:PySem.W.Frag) (a:Addr):It:=
 ⟨fun i H=>∃ xs x,SqT K H a xs/\xs[i]?=some x,fun i H x H'=>H'=H/\∀ xs,SqT K H a xs->xs[i]?=some x,fun i H=>∃ xs,SqT K H a xs/\xs.length<=i⟩
def uq (lo:Int) (n:Nat):It:=⟨fun i _=>i < n,fun i H x H'=>H'=H/\x=.int (lo+i),fun i _=>n<=i⟩
theorem ng {P:Program} {w:World} {K:PySem.W.Frag} {tg:Expr} (a it:Addr):kO P w K tg (wb K a) [it] it (fun i h=>h.IsListIter it a i) where
 mem:=by simp
 obj:=fun i h st b hb=>by
  have e:b=it:=by simpa using hb
  subst e
  obtain ⟨o,e,c,d⟩:=st
  exact ⟨o,e,fun v z=>by rw [d] at z;cases z⟩
 keep:=fun i h h' st k=>st.at fun o e=>k it (by simp) o e
 item:=by
  intro X hP hw hK hc i pins s σ H E I hf st hg
  subst hP hw hK
  obtain ⟨xs,x,hq,hx⟩:=hg
  obtain ⟨its,rv,p,hz⟩:=I.list hq
  obtain ⟨u,hu,ru⟩:=rv.get hx
  obtain ⟨f0,f1,f2,f3,f4,f5⟩:=hf it (by simp)
  refine wpAny_pyNext_list_item st p.isList (x:=u) (by simpa using hu) fun h' st' sb=>?_
  have I1:Inv X pins σ H { s with heap:=h' }:=I.turned (t':=s.toks) (fun b o hb e=>(sb.2 b hb).trans e) f0 f1 f3 f4 f5
  obtain ⟨o,e,c,d⟩:=id st'
  exact ⟨u,rfl,jZ (s:={ s with heap:=h' }) e c d (by decide) ⟨x,H,I1,ru,⟨rfl,fun ys hy=>by rw [I.list_inj hy hq];exact hx⟩,st',fun b hb=>(hf b hb).1⟩⟩
 done:=by
  intro X hP hw hK hc i pins s σ H E I hf st hg
  subst hP hw hK
  obtain ⟨xs,hq,hx⟩:=hg
  obtain ⟨its,rv,p,hz⟩:=I.list hq
  obtain ⟨f0,f1,f2,f3,f4,f5⟩:=hf it (by simp)
  have hl:=rv.length
  exact wpAny_pyNext_list_end (I.ok.hd hc) st p.isList (by simp;omega) fun h' eb=>⟨rfl,I.turned (t':=s.toks) (fun b o hb e=>eb b o hb e) f0 f1 f3 f4 f5⟩
 self:=fun _ _ _ _ _ st h=>wpAny_pyIter_listiter st h
theorem kP {P:Program} {w:World} {K:PySem.W.Frag} {tg:Expr} (a it:Addr):kO P w K tg (wc K a) [it] it (fun i h=>h.IsTupleIter it a i) where
 mem:=by simp
 obj:=fun i h st b hb=>by
  have e:b=it:=by simpa using hb
  subst e
  obtain ⟨o,e,c,d⟩:=st
  exact ⟨o,e,fun v z=>by rw [d] at z;cases z⟩
 keep:=fun i h h' st k=>st.at fun o e=>k it (by simp) o e
 item:=by
  intro X hP hw hK hc i pins s σ H E I hf st hg
  subst hP hw hK
  obtain ⟨xs,x,hq,hx⟩:=hg
  obtain ⟨its,rv,p,hz⟩:=I.tuple hq
  obtain ⟨u,hu,ru⟩:=rv.get hx
  obtain ⟨f0,f1,f2,f3,f4,f5⟩:=hf it (by simp)
  refine wpAny_pyNext_tuple_item st (show s.heap.IsTuple a its.toArray from p) (x:=u) (by simpa using hu) fun h' st' sb=>?_
  have I1:Inv X pins σ H { s with heap:=h' }:=I.turned (t':=s.toks) (fun b o hb e=>(sb.2 b hb).trans e) f0 f1 f3 f4 f5
  obtain ⟨o,e,c,d⟩:=id st'
  exact ⟨u,rfl,jZ (s:={ s with heap:=h' }) e c d (by decide) ⟨x,H,I1,ru,⟨rfl,fun ys hy=>by rw [I.tuple_inj hy hq];exact hx⟩,st',fun b hb=>(hf b hb).1⟩⟩
 done:=by
  intro X hP hw hK hc i pins s σ H E I hf st hg
  subst hP hw hK
  obtain ⟨xs,hq,hx⟩:=hg
  obtain ⟨its,rv,p,hz⟩:=I.tuple hq
  obtain ⟨f0,f1,f2,f3,f4,f5⟩:=hf it (by simp)
  have hl:=rv.length
  exact wpAny_pyNext_tuple_end (I.ok.hd hc) st (show s.heap.IsTuple a its.toArray from p) (by simp;omega) fun h' eb=>⟨rfl,I.turned (t':=s.toks) (fun b o hb e=>eb b o hb e) f0 f1 f3 f4 f5⟩
 self:=fun _ _ _ _ _ st h=>wpAny_pyIter_tupleiter st h
theorem kQ {P:Program} {w:World} {K:PySem.W.Frag} {tg:Expr} (it:Addr) (lo:Int) (n:Nat):kO P w K tg (uq lo n) [it] it (fun i h=>IsRangeIter h it (lo+(i:Nat)*1) ((n:Int) - (i:Nat)) 1) where
 mem:=by simp
 obj:=fun i h st b hb=>by
  have e:b=it:=by simpa using hb
  subst e
  exact ⟨_,st,fun v z=>by
   have z':Data.fields _=Data.cell v:=z
   cases z'⟩
 keep:=fun i h h' st k=>k it (by simp) _ st
 item:=by
  intro X hP hw hK hc i pins s σ H E I hf st hg
  subst hP hw hK
  obtain ⟨f0,f1,f2,f3,f4,f5⟩:=hf it (by simp)
  have W:=Walks.range (prog:=X.prog) (w:=X.w) (I.ok.hd hc) it lo 1 n
  refine W.item i s _ _ hg st fun v h' tk hv st' kk=>?_
  obtain ⟨t,rfl⟩:=hv
  have I1:Inv X pins σ H { s with heap:=h',toks:=tk }:=I.turned (fun b o hb e=>kk b o (by simpa using hb) e) f0 f1 f3 f4 f5
  refine ⟨_,rfl,jZ (s:={ s with heap:=h',toks:=tk }) (n:="range_iterator") st' rfl rfl (by decide) ⟨.int (lo+i),H,I1,⟨t,?_⟩,⟨rfl,rfl⟩,st',fun b hb=>(hf b hb).1⟩⟩
  rw [Int.mul_one]
 done:=by
  intro X hP hw hK hc i pins s σ H E I hf st hg
  subst hP hw hK
  obtain ⟨f0,f1,f2,f3,f4,f5⟩:=hf it (by simp)
  exact wpAny_pyNext_range_end (I.ok.hd hc) st (by have:n<=i:=hg;omega) fun h' eb=>⟨rfl,I.turned (t':=s.toks) (fun b o hb e=>eb b o hb e) f0 f1 f3 f4 f5⟩
 self:=fun _ _ _ _ _ st h=>wpAny_pyIter_rangeiter st h
end L2
namespace L2
open PySem PySem.Spec PyProof.Rows
section
variable {X:Cx} {tg:Expr}
inductive nZ (K:PySem.W.Frag) (R:It->Hp->Prop) (x:V) (H1:Hp):Prop
 | mk (a:_):x=.ref a->(∃ xs,SqL K H1 a xs)->R (wb K a) H1->nZ K R x H1
def tK (K:PySem.W.Frag) (tl:TE):TI:=fun σ H R=>tl σ H fun x H1=>nZ K R x H1
inductive tO (K:PySem.W.Frag) (R:It->Hp->Prop) (x:V) (H1:Hp):Prop
 | mk (a:_):x=.ref a->(∃ xs,SqT K H1 a xs)->R (wc K a) H1->tO K R x H1
def yG (K:PySem.W.Frag) (tl:TE):TI:=fun σ H R=>tl σ H fun x H1=>tO K R x H1
theorem dq {l:Expr} {tl:TE} (hl:PE X l tl):PI X tg l (tK X.K tl):=by
 refine ⟨?_⟩
 intro pins s σ H R I h
 refine bA (hl pins s σ H _ I h) fun v s1 ⟨x,H1,I1,r1,q1⟩=>?_
 obtain ⟨a,e,⟨xs,hq⟩,q⟩:=q1
 subst e
 cases r1
 obtain ⟨its,rv,p,hz⟩:=I1.list hq
 refine wpAny_pyIter_list p.isList ?_
 refine ⟨s1.heap.objs.size,[s1.heap.objs.size],_,_,H1,rfl,I1.kept (t':=s1.toks) fun b o e=>Al _ e,ng a _,⟨_,AB _ rfl,rfl,rfl⟩,fun b hb=>?_,q⟩
 have e:b=s1.heap.objs.size:=by simpa using hb
 subst e
 exact I1.fpOk (Ao _) (I1.hok.fresh (Ao _))
theorem fP {l:Expr} {tl:TE} (hl:PE X l tl):PI X tg l (yG X.K tl):=by
 refine ⟨?_⟩
 intro pins s σ H R I h
 refine bA (hl pins s σ H _ I h) fun v s1 ⟨x,H1,I1,r1,q1⟩=>?_
 obtain ⟨a,e,⟨xs,hq⟩,q⟩:=q1
 subst e
 cases r1
 obtain ⟨its,rv,p,hz⟩:=I1.tuple hq
 refine wpAny_pyIter_tuple (show s1.heap.IsTuple a its.toArray from p) ?_
 refine ⟨s1.heap.objs.size,[s1.heap.objs.size],_,_,H1,rfl,I1.kept (t':=s1.toks) fun b o e=>Al _ e,kP a _,⟨_,AB _ rfl,rfl,rfl⟩,fun b hb=>?_,q⟩
 have e:b=s1.heap.objs.size:=by simpa using hb
 subst e
 exact I1.fpOk (Ao _) (I1.hok.fresh (Ao _))
theorem oa {pins:List (Addr×Obj)} {σ:St} {H:Hp} {s:Shared} {R:It->Hp->Prop} {E:Value->Shared->Prop} {lo hi:Int} {t u v:Tok} {tk:Nat} (I:Inv X pins σ H s) (h1:-(2 ^ 62)<=lo) (h2:lo < 2 ^ 62) (h3:-(2 ^ 62)<=hi) (h4:hi < 2 ^ 62)
  (q:R (uq lo (hi - lo).toNat) H):wpAny (model X.prog X.w) X.A (pyIter (.ref s.heap.objs.size)) (yk X pins σ tg R) E { s with heap:=s.heap.push { cls:=.type "range",data:=.fields #[.int lo t,.int hi u,.int 1 v] },toks:=tk }:=by
 refine wpAny_pyIter_range (IsRange.new ..) (small_one h1 h2 h3 h4) ?_
 have I1:Inv X pins σ H { s with heap:=s.heap.push { cls:=.type "range",data:=.fields #[.int lo t,.int hi u,.int 1 v] },toks:=tk }:=I.kept fun b o e=>Al _ e
 refine ⟨(s.heap.push { cls:=.type "range",data:=.fields #[.int lo t,.int hi u,.int 1 v] }).objs.size,[(s.heap.push { cls:=.type "range",data:=.fields #[.int lo t,.int hi u,.int 1 v] }).objs.size],_,_,H,rfl,
  I1.kept (t':=tk) fun b o e=>Al _ e,kQ _ lo (hi - lo).toNat,?_,fun b hb=>?_,q⟩
 ·have e1:lo+((0:Nat):Int)*1=lo:=by simp
  have e2:(((hi - lo).toNat:Nat):Int) - ((0:Nat):Int)=Builtin.Range.rangeSize lo hi 1:=by rw [rangeSize_one];split<;>omega
  show IsRangeIter _ _ (lo+((0:Nat):Int)*1) ((((hi - lo).toNat:Nat):Int) - ((0:Nat):Int)) 1
  rw [e1,e2]
  exact AB _ rfl
 ·have e:b=(s.heap.push { cls:=.type "range",data:=.fields #[.int lo t,.int hi u,.int 1 v] }).objs.size:=by simpa using hb
  subst e
  exact I1.fpOk (Ao _) (I1.hok.fresh (Ao _))
inductive og (R:It->Hp->Prop) (vs:List V) (H1:Hp):Prop
 | mk (j:Int):vs=[.int j]->-(2 ^ 62)<=j->j < 2 ^ 62->R (uq 0 j.toNat) H1->og R vs H1
def ww (ta:TA):TI:=fun σ H R=>ta σ H fun vs H1=>og R vs H1
theorem dZ {a:Expr} {ta:TA} {p pos:Pos} (hg:Gl X "range") (hm:X.mg "range"=none) (ha:PA X [a] ta) (hs:starEach [a] X.env=[(false,eval a X.env)]:=by rfl):PI X tg (.Call (.Name "range" p) [a] [] pos) (ww ta):=by
 refine ⟨?_⟩
 intro pins s σ H R I h
 refine Call_ (gF I hg hm boot_range (Bx (bA (ha pos pins s σ H _ I h) fun us s1 ⟨vs,H1,I1,r1,q1⟩=>?_) hs rfl))
 obtain ⟨j,e,q1,q2,q⟩:=q1
 subst e
 cases r1 with
 | cons r rr=>
  cases rr
  obtain ⟨t,rfl⟩:=r
  exact call_range_1 (oa I1 (by omega) (by omega) q1 q2 (by simpa using q))
def yH (wi:TI) (g:TG) (tb:TS):TS:=fun D σ H=>wi σ H fun J H1=>∃ W:Nat->Nat->St->Hp->Prop,(∃ m,W 0 m σ H1)/\∀ i m σ H,W i m σ H->
 (J.stop i H/\D.nx σ H)\/(J.go i H/\∃ N:St->Hp->Prop,(∀ σ' H',N σ' H'->∃ m',m' < m/\W (i+1) m' σ' H')/\∀ x H',J.yld i H x H'->g x σ H' fun σ2 H2=>tb { D with nx:=N,ct:=N,bk:=D.nx } σ2 H2)
def c9 (fp:List Addr) (h:Heap):List (Addr×Obj):=fp.filterMap fun b=>(h.get? b).map fun o=>(b,o)
theorem eR {fp:List Addr} {h:Heap} {b:Addr} {o:Obj} (hb:b∈fp) (e:h.get? b=some o):(b,o)∈c9 fp h:=List.mem_filterMap.mpr ⟨b,hb,by rw [e];rfl⟩
theorem io {fp:List Addr} {h:Heap} {p:Addr×Obj} (hp:p∈c9 fp h):p.1∈fp/\h.get? p.1=some p.2:=by
 obtain ⟨b,hb,e⟩:=List.mem_filterMap.mp hp
 cases q:h.get? b with
 | none=>rw [q] at e;cases e
 | some o=>
  rw [q] at e
  have e':(b,o)=p:=A1 e
  subst e'
  exact ⟨hb,q⟩
theorem Inv.pinned {pins:List (Addr×Obj)} {σ:St} {H:Hp} {s:Shared} {fp:List Addr} (I:Inv X pins σ H s) (hf:∀ b∈fp,ii X pins H b) (ho:∀ b∈fp,∃ o,s.heap.get? b=some o/\∀ v,o.data≠.cell v):Inv X (pins++c9 fp s.heap) σ H s:=
 I.pins_of fun p hp=>(AQ.mp hp).elim (fun z=>I.pin p (AS _ z)) fun z=>by
  obtain ⟨hb,e⟩:=io z
  obtain ⟨f0,f1,f2,_⟩:=hf p.1 hb
  obtain ⟨o,e',d⟩:=ho p.1 hb
  rw [e] at e';cases e'
  exact ⟨e,f0,f1,f2,d⟩
theorem Inv.unpinned {pins pl:List (Addr×Obj)} {σ:St} {H:Hp} {s:Shared} (I:Inv X (pins++pl) σ H s):Inv X pins σ H s:=I.pins_of fun p hp=>I.pin p (AS _ (By _ hp))
theorem dL {iter:Expr} {body:List Stmt} {wi:TI} {g:TG} {tb:TS} {pos:Pos} (hp:PassesOwn (model X.prog X.w) X.A X.env X.xe) (hc:X.calm=true) (hi:PI X tg iter wi) (hg:PG X tg g) (hb:PSs X body tb)
  (hs:∀ x,foldedSetIterable iter X.env x=pure x:=by intro _;rfl):PS X (.For tg iter body [] pos) (yH wi g tb):=by
 refine ⟨?_⟩
 intro pins s σ H D I h
 refine wpAny_For (bA (hi pins s σ H _ I h) fun v s1 h1=>bA h1 fun itv s2 h2=>?_) hs
 obtain ⟨it,fp,tn,J,H2,e,I2,T,st2,f2,W,⟨m0,w0⟩,turn⟩:=h2
 subst e
 have stat:∀ {H':Hp},(∀ b∈fp,H' b=none)->∀ b∈fp,ii X pins H' b:=fun hn b hb=>⟨hn b hb,(f2 b hb).2⟩
 refine codeAny_forLoop_any (fun n s'=>∃ i σ' H',Inv X pins σ' H' s'/\tn i s'.heap/\(∀ b∈fp,H' b=none)/\W i n σ' H') ?_ m0 ⟨0,σ,H2,I2,st2,fun b hb=>(f2 b hb).1,w0⟩
 rintro n s3 ⟨i,σ3,H3,I3,st3,fr3,w3⟩
 rcases turn i n σ3 H3 w3 with ⟨stop,qn⟩|⟨go,N,hN,step⟩
 ·refine wpAny_passesOwn hp (bA (T.done X rfl rfl rfl hc i pins s3 σ3 H3 X.xe I3 (stat fr3) st3 stop) fun r s4 ⟨hr,I4⟩=>?_)
  subst hr
  exact wpAny_execs_nil ⟨σ3,H3,I4,qn⟩
 ·refine wpAny_passesOwn hp (bA (T.item X rfl rfl rfl hc i pins s3 σ3 H3 X.xe I3 (stat fr3) st3 go) fun r s4 ⟨u,hr,h4⟩=>?_)
  subst hr
  refine wpAny_passesOwn hp (bA h4 fun _ s5 ⟨x,H5,I5,r5,y5,st5,fr5⟩=>?_)
  have I5':=I5.pinned (stat fr5) (T.obj _ _ st5)
  refine wpAny_passesOwn hp (bA (hg _ s5 σ3 H5 x u _ I5' r5 (step x H5 y5)) fun _ s6 ⟨σ6,H6,I6,q6⟩=>?_)
  refine wpAny_passesOwn hp (bA (hb _ s6 σ6 H6 _ I6 q6) fun f s7 q7=>?_)
  have again:∀ {σ7:St} {H7:Hp},Inv X (pins++c9 fp s5.heap) σ7 H7 s7->N σ7 H7->∃ m,m < n/\∃ i σ' H',Inv X pins σ' H' s7/\tn i s7.heap/\(∀ b∈fp,H' b=none)/\W i m σ' H':=fun {σ7 H7} I7 n7=>by
   obtain ⟨m',hm,w7⟩:=hN σ7 H7 n7
   refine ⟨m',hm,i+1,σ7,H7,I7.unpinned,T.keep _ _ _ st5 fun b hb o e=>(I7.pin (b,o) (AS _ (AS _ (eR hb e)))).1,fun b hb=>?_,w7⟩
   obtain ⟨o,e,d⟩:=T.obj _ _ st5 b hb
   exact (I7.pin (b,o) (AS _ (AS _ (eR hb e)))).2.1
  cases f with
  | next=>obtain ⟨σ7,H7,I7,n7⟩:=q7;exact again I7 n7
  | cont=>obtain ⟨σ7,H7,I7,n7⟩:=q7;exact again I7 n7
  | brk=>obtain ⟨σ7,H7,I7,q7⟩:=q7;exact ⟨σ7,H7,I7.unpinned,q7⟩
  | ret v=>obtain ⟨x7,σ7,H7,I7,r7,q7⟩:=q7;exact ⟨x7,σ7,H7,I7.unpinned,r7,q7⟩
end
theorem gH {K:PySem.W.Frag} {a:Addr} {xs:List V} {g:TG} {tb:TS} {D:Ends} {σ:St} {H:Hp} (Pv:Nat->St->Hp->Prop) (h0:Pv 0 σ H) (hl:∀ i σ H,i<=xs.length->Pv i σ H->SqL K H a xs)
  (hs:∀ i x σ H,xs[i]?=some x->Pv i σ H->g x σ H fun σ2 H2=>tb { D with nx:=Pv (i+1),ct:=Pv (i+1),bk:=D.nx } σ2 H2) (hd:∀ σ H,Pv xs.length σ H->D.nx σ H) :
  ∃ W:Nat->Nat->St->Hp->Prop,(∃ m,W 0 m σ H)/\∀ i m σ H,W i m σ H->
   ((wb K a).stop i H/\D.nx σ H)\/((wb K a).go i H/\∃ N:St->Hp->Prop,(∀ σ' H',N σ' H'->∃ m',m' < m/\W (i+1) m' σ' H')/\∀ x H',(wb K a).yld i H x H'->g x σ H' fun σ2 H2=>tb { D with nx:=N,ct:=N,bk:=D.nx } σ2 H2):=by
 refine ⟨fun i m σ H=>m=xs.length - i/\i<=xs.length/\Pv i σ H,⟨xs.length,by simp,Bi _,h0⟩,?_⟩
 rintro i m σ H ⟨rfl,hi,p⟩
 have q:=hl i σ H hi p
 by_cases hlt:i < xs.length
 ·refine .inr ⟨⟨xs,xs[i],q,by simp [hlt]⟩,Pv (i+1),fun σ' H' p'=>⟨xs.length - (i+1),by omega,rfl,hlt,p'⟩,fun x H' y=>?_⟩
  obtain ⟨e,y⟩:=y
  subst e
  exact hs i x σ _ (y xs q) p
 ·have e:i=xs.length:=by omega
  subst e
  exact .inl ⟨⟨xs,q,Ao _⟩,hd σ H p⟩
theorem qS {K:PySem.W.Frag} {a:Addr} {xs:List V} {g:TG} {tb:TS} {D:Ends} {σ:St} {H:Hp} (Pv:Nat->St->Hp->Prop) (h0:Pv 0 σ H) (hl:∀ i σ H,i<=xs.length->Pv i σ H->SqT K H a xs)
  (hs:∀ i x σ H,xs[i]?=some x->Pv i σ H->g x σ H fun σ2 H2=>tb { D with nx:=Pv (i+1),ct:=Pv (i+1),bk:=D.nx } σ2 H2) (hd:∀ σ H,Pv xs.length σ H->D.nx σ H) :
  ∃ W:Nat->Nat->St->Hp->Prop,(∃ m,W 0 m σ H)/\∀ i m σ H,W i m σ H->
   ((wc K a).stop i H/\D.nx σ H)\/((wc K a).go i H/\∃ N:St->Hp->Prop,(∀ σ' H',N σ' H'->∃ m',m' < m/\W (i+1) m' σ' H')/\∀ x H',(wc K a).yld i H x H'->g x σ H' fun σ2 H2=>tb { D with nx:=N,ct:=N,bk:=D.nx } σ2 H2):=by
 refine ⟨fun i m σ H=>m=xs.length - i/\i<=xs.length/\Pv i σ H,⟨xs.length,by simp,Bi _,h0⟩,?_⟩
 rintro i m σ H ⟨rfl,hi,p⟩
 have q:=hl i σ H hi p
 by_cases hlt:i < xs.length
 ·refine .inr ⟨⟨xs,xs[i],q,by simp [hlt]⟩,Pv (i+1),fun σ' H' p'=>⟨xs.length - (i+1),by omega,rfl,hlt,p'⟩,fun x H' y=>?_⟩
  obtain ⟨e,y⟩:=y
  subst e
  exact hs i x σ _ (y xs q) p
 ·have e:i=xs.length:=by omega
  subst e
  exact .inl ⟨⟨xs,q,Ao _⟩,hd σ H p⟩
theorem fQ {lo:Int} {n:Nat} {g:TG} {tb:TS} {D:Ends} {σ:St} {H:Hp} (Pv:Nat->St->Hp->Prop) (h0:Pv 0 σ H)
  (hs:∀ i σ H,i < n->Pv i σ H->g (.int (lo+i)) σ H fun σ2 H2=>tb { D with nx:=Pv (i+1),ct:=Pv (i+1),bk:=D.nx } σ2 H2) (hd:∀ σ H,Pv n σ H->D.nx σ H) :
  ∃ W:Nat->Nat->St->Hp->Prop,(∃ m,W 0 m σ H)/\∀ i m σ H,W i m σ H->
   ((uq lo n).stop i H/\D.nx σ H)\/((uq lo n).go i H/\∃ N:St->Hp->Prop,(∀ σ' H',N σ' H'->∃ m',m' < m/\W (i+1) m' σ' H')/\∀ x H',(uq lo n).yld i H x H'->g x σ H' fun σ2 H2=>tb { D with nx:=N,ct:=N,bk:=D.nx } σ2 H2):=by
 refine ⟨fun i m σ H=>m=n - i/\i<=n/\Pv i σ H,⟨n,by simp,Bi _,h0⟩,?_⟩
 rintro i m σ H ⟨rfl,hi,p⟩
 by_cases hlt:i < n
 ·refine .inr ⟨hlt,Pv (i+1),fun σ' H' p'=>⟨n - (i+1),by omega,rfl,hlt,p'⟩,fun x H' y=>?_⟩
  obtain ⟨e,y⟩:=y
  subst e y
  exact hs i σ _ hlt p
 ·have e:i=n:=by omega
  subst e
  exact .inl ⟨Ao _,hd σ H p⟩
end L2
namespace L2
open PySem PySem.Spec PyProof.Rows
abbrev R2:=V->V->Hp->VK->Prop
def dG (X:Cx) (f:Value->Value->Sem Value) (r:R2):Prop:=
 ∀ (pins:List (Addr×Obj)) (s:Shared) (σ:St) (H:Hp) (x y:V) (v u:Value) (Q:VK),Inv X pins σ H s->RelV x v->RelV y u->r x y H Q->
  wpAny (model X.prog X.w) X.A (f v u) (EP X pins σ Q) X.xe s
def cu (X:Cx) (f:Value) (r:List V->Hp->VK->Prop):Prop:=
 ∀ (pins:List (Addr×Obj)) (s:Shared) (σ:St) (H:Hp) (xs:List V) (us:List Value) (Q:VK),Inv X pins σ H s->Vals xs us->r xs H Q->
  wpAny (model X.prog X.w) X.A (call f us) (EP X pins σ Q) X.xe s
def yI (X:Cx) (r:V->Hp->(Bool->Hp->Prop)->Prop):Prop:=
 ∀ (pins:List (Addr×Obj)) (s:Shared) (σ:St) (H:Hp) (x:V) (v:Value) (Q:Bool->Hp->Prop),Inv X pins σ H s->RelV x v->r x H Q->
  wpAny (model X.prog X.w) X.A (truthy v) (TP X pins σ Q) X.xe s
def yl (r:R2) (ta tb:TE):TE:=fun σ H Q=>ta σ H fun x H1=>tb σ H1 fun y H2=>r x y H2 Q
inductive rI (C:Int->Int->Prop) (g:Int->Int->V) (x:V) (y:V) (H:Hp) (Q:VK):Prop
 | mk (i j:_):x=.int i->y=.int j->C i j->Q (g i j) H->rI C g x y H Q
inductive tP (g:Int->Int->V) (x:V) (y:V) (H:Hp) (Q:VK):Prop
 | mk (i j:_):x=.int i->y=.int j->Q (g i j) H->tP g x y H Q
section
variable {X:Cx} {a b c:Expr} {ta tb tc:TE} {pos:Pos}
theorem ut (ha:PE X a ta) (hb:PE X b tb) {pins:List (Addr×Obj)} {s:Shared} {σ:St} {H:Hp} {R:V->V->Hp->Prop} (I:Inv X pins σ H s)
  (h:ta σ H fun x H1=>tb σ H1 fun y H2=>R x y H2) {Q:Value->Shared->Prop} {f:Value->Value->Sem Value}
  (hf:∀ v u s2 x y H2,Inv X pins σ H2 s2->RelV x v->RelV y u->R x y H2->wpAny (model X.prog X.w) X.A (f v u) Q X.xe s2) :
  wpAny (model X.prog X.w) X.A (eval a X.env) (fun v s₁=>wpAny (model X.prog X.w) X.A (eval b X.env) (fun u s₂=>wpAny (model X.prog X.w) X.A (f v u) Q X.xe s₂) X.xe s₁) X.xe s:=by
 refine bA (ha pins s σ H _ I h) fun v s1 ⟨x,H1,I1,r1,q1⟩=>?_
 refine bA (hb pins s1 σ H1 _ I1 q1) fun u s2 ⟨y,H2,I2,r2,q2⟩=>?_
 exact hf v u s2 x y H2 I2 r1 r2 q2
theorem aP {op:Operator} {r:R2} (ho:dG X (binaryOp op) r) (ha:PE X a ta) (hb:PE X b tb):PE X (.BinOp a op b pos) (yl r ta tb):=by
 refine ⟨?_⟩
 intro pins s σ H Q I h
 exact wpAny_BinOp (ut ha hb I h fun v u s2 x y H2 I2 rx ry q=>ho pins s2 σ H2 x y v u Q I2 rx ry q)
theorem wx {f:Value->Value->Sem Value} {C:Int->Int->Prop} {g:Int->Int->Int}
  (rule:∀ (i j:Int) (t u:Tok) (s:Shared) (Q:Value->Shared->Prop) (E:Value->Shared->Prop),C i j->Q (.int (g i j) s.toks) { s with toks:=s.toks+1 }->wpAny (model X.prog X.w) X.A (f (.int i t) (.int j u)) Q E s) :
  dG X f (rI C fun i j=>.int (g i j)):=by
 intro pins s σ H x y v u Q I rx ry h
 obtain ⟨i,j,rfl,rfl,hc,q⟩:=h
 obtain ⟨t,rfl⟩:=rx
 obtain ⟨t',rfl⟩:=ry
 exact rule i j t t' s _ _ hc ⟨.int (g i j),H,I.tok _,⟨_,rfl⟩,q⟩
theorem yJ {f:Value->Value->Sem Value} {g:Int->Int->Int}
  (rule:∀ (i j:Int) (t u:Tok) (s:Shared) (Q:Value->Shared->Prop) (E:Value->Shared->Prop),Q (.int (g i j) s.toks) { s with toks:=s.toks+1 }->wpAny (model X.prog X.w) X.A (f (.int i t) (.int j u)) Q E s) :
  dG X f (tP fun i j=>.int (g i j)):=by
 intro pins s σ H x y v u Q I rx ry h
 obtain ⟨i,j,rfl,rfl,q⟩:=h
 obtain ⟨t,rfl⟩:=rx
 obtain ⟨t',rfl⟩:=ry
 exact rule i j t t' s _ _ ⟨.int (g i j),H,I.tok _,⟨_,rfl⟩,q⟩
theorem qU {f:Value->Value->Sem Value} {g:Int->Int->Bool}
  (rule:∀ (i j:Int) (t u:Tok) (s:Shared) (Q:Value->Shared->Prop) (E:Value->Shared->Prop),Q (.bool (g i j)) s->wpAny (model X.prog X.w) X.A (f (.int i t) (.int j u)) Q E s) :
  dG X f (tP fun i j=>.bl (g i j)):=by
 intro pins s σ H x y v u Q I rx ry h
 obtain ⟨i,j,rfl,rfl,q⟩:=h
 obtain ⟨t,rfl⟩:=rx
 obtain ⟨t',rfl⟩:=ry
 exact rule i j t t' s _ _ ⟨.bl (g i j),H,I,rfl,q⟩
def yK (i j:Int):Prop:=0 < j/\j < 1073741824
def yL (i j:Int):Prop:=0<=j/\j<=1000000/\i.natAbs < 2 ^ 64
def CMul (i j:Int):Prop:=(-(2 ^ 64) < i/\i < 2 ^ 64)\/(-(2 ^ 64) < j/\j < 2 ^ 64)
theorem CMul.ok {i j:Int} (h:CMul i j):IntMulOk i j:=by
 rcases h with ⟨h1,h2⟩|⟨h1,h2⟩
 ·exact .of_left (intBits_le_64 h1 h2)
 ·exact .of_right (intBits_le_64 h1 h2)
theorem du:dG X (binaryOp .Add) (tP fun i j=>.int (i+j)):=yJ fun _ _ _ _ _ _ _ q=>add_int q
theorem eT:dG X (binaryOp .Mult) (rI CMul fun i j=>.int (i*j)):=wx fun _ _ _ _ _ _ _ hc q=>mul_int q hc.ok
theorem qV:dG X (binaryOp .FloorDiv) (rI yK fun i j=>.int (i / j)):=wx fun i j _ _ _ _ _ hc q=>by
 have h1:(0:Int) < j:=hc.1
 have h2:j < 1073741824:=hc.2
 exact floordiv_int (by omega) (by rw [Int.fdiv_eq_ediv_of_nonneg i (by omega)];exact q) (.inl (PyProof.noPylong_small (by omega)))
theorem fS:dG X (binaryOp .Mod) (rI (fun _ j=>0 < j) fun i j=>.int (i % j)):=wx fun i j _ _ _ _ _ hc q=>by
 have h1:(0:Int) < j:=hc
 exact mod_int' (by omega) (by rw [Int.fmod_eq_emod_of_nonneg i (by omega)];exact q)
theorem oh:dG X (binaryOp .Pow) (rI yL fun i j=>.int (i ^ j.toNat)):=wx fun _ _ _ _ _ _ _ hc q=>pow_int_small hc.1 hc.2.1 hc.2.2 q
end
def wy:V->V->Bool
 | .non,.non=>true|.non,.int _=>true|.int _,.non=>true|.non,.bl _=>true|.bl _,.non=>true|.non,.str _=>true|.str _,.non=>true
 | .int _,.int _=>true|.bl _,.bl _=>true|.str _,.str _=>true|.byt _,.byt _=>true
 | .int _,.str _=>true|.str _,.int _=>true|.bl _,.str _=>true|.str _,.bl _=>true
 | _,_=>false
def z4:R2:=fun x y H Q=>wy x y=true/\Q (.bl (decide (x=y))) H
def z5:R2:=fun x y H Q=>wy x y=true/\Q (.bl (!decide (x=y))) H
theorem l5 {i j:Int}:decide (V.int i=V.int j)=(i == j):=by
 rw [Bc]
 simp
theorem oi {i j:Bool}:decide (V.bl i=V.bl j)=(i == j):=by
 rw [Bc]
 simp
theorem ma {i j:Str}:decide (V.str i=V.str j)=(i == j):=by
 rw [Bc]
 simp
theorem md {i j:Array UInt8}:decide (V.byt i=V.byt j)=(i.toList == j.toList):=by
 rw [Bc]
 cases i
 cases j
 simp
section
variable {X:Cx} {a b c:Expr} {ta tb tc:TE} {pos:Pos}
theorem a9 {pins:List (Addr×Obj)} {σ:St} {H:Hp} {s:Shared} {Q:VK} {k k':Bool} (I:Inv X pins σ H s) (q:Q (.bl k) H) (e:k=k'):EP X pins σ Q (.bool k') s:=by
 subst e
 exact ⟨.bl k,H,I,rfl,q⟩
theorem bc:dG X (compareOp .Eq) z4:=by
 intro pins s σ H x y v u Q I rx ry h
 obtain ⟨hs,q⟩:=h
 cases x with
 | non=>
  cases rx
  cases y with
  | non=>cases ry;exact PySem.EqNone.eq_none_none (a9 I q (by simp))
  | bl j=>cases ry;exact PySem.EqNone.eq_none_bool (a9 I q (by simp))
  | int j=>obtain ⟨t',rfl⟩:=ry;exact PySem.EqNone.eq_none_int (a9 I q (by simp))
  | str j=>obtain ⟨t',rfl⟩:=ry;exact PySem.EqNone.eq_none_str (a9 I q (by simp))
  | _=>exact absurd (show false=true from hs) Au
 | bl i=>
  cases rx
  cases y with
  | non=>cases ry;exact PySem.EqNone.eq_bool_none (a9 I q (by simp))
  | bl j=>cases ry;exact eq_bool (a9 I q oi)
  | str j=>obtain ⟨t',rfl⟩:=ry;exact PySem.EqMixed.eq_bool_str (a9 I q (by simp))
  | _=>exact absurd (show false=true from hs) Au
 | int i=>
  obtain ⟨t,rfl⟩:=rx
  cases y with
  | non=>cases ry;exact PySem.EqNone.eq_int_none (a9 I q (by simp))
  | int j=>obtain ⟨t',rfl⟩:=ry;exact eq_int (a9 I q l5)
  | str j=>obtain ⟨t',rfl⟩:=ry;exact PySem.EqMixed.eq_int_str (a9 I q (by simp))
  | _=>exact absurd (show false=true from hs) Au
 | str i=>
  obtain ⟨t,rfl⟩:=rx
  cases y with
  | non=>cases ry;exact PySem.EqNone.eq_str_none (a9 I q (by simp))
  | bl j=>cases ry;exact PySem.EqMixed.eq_str_bool (a9 I q (by simp))
  | int j=>obtain ⟨t',rfl⟩:=ry;exact PySem.EqMixed.eq_str_int (a9 I q (by simp))
  | str j=>obtain ⟨t',rfl⟩:=ry;exact eq_str (a9 I q ma)
  | _=>exact absurd (show false=true from hs) Au
 | byt i=>
  obtain ⟨t,rfl⟩:=rx
  cases y with
  | byt j=>obtain ⟨t',rfl⟩:=ry;exact PySem.W.eq_bytes (a9 I q md)
  | _=>exact absurd (show false=true from hs) Au
 | _=>cases y<;>exact absurd (show false=true from hs) Au
theorem ip:dG X (compareOp .NotEq) z5:=by
 intro pins s σ H x y v u Q I rx ry h
 obtain ⟨hs,q⟩:=h
 cases x with
 | non=>
  cases rx
  cases y with
  | non=>cases ry;exact PySem.EqNone.ne_none_none (a9 I q (by simp))
  | bl j=>cases ry;exact PySem.EqNone.ne_none_bool (a9 I q (by simp))
  | int j=>obtain ⟨t',rfl⟩:=ry;exact PySem.EqNone.ne_none_int (a9 I q (by simp))
  | str j=>obtain ⟨t',rfl⟩:=ry;exact PySem.EqNone.ne_none_str (a9 I q (by simp))
  | _=>exact absurd (show false=true from hs) Au
 | bl i=>
  cases rx
  cases y with
  | non=>cases ry;exact PySem.EqNone.ne_bool_none (a9 I q (by simp))
  | bl j=>cases ry;exact ne_bool (a9 I q (congrArg not oi))
  | str j=>obtain ⟨t',rfl⟩:=ry;exact PySem.EqMixed.ne_bool_str (a9 I q (by simp))
  | _=>exact absurd (show false=true from hs) Au
 | int i=>
  obtain ⟨t,rfl⟩:=rx
  cases y with
  | non=>cases ry;exact PySem.EqNone.ne_int_none (a9 I q (by simp))
  | int j=>obtain ⟨t',rfl⟩:=ry;exact ne_int (a9 I q (congrArg not l5))
  | str j=>obtain ⟨t',rfl⟩:=ry;exact PySem.EqMixed.ne_int_str (a9 I q (by simp))
  | _=>exact absurd (show false=true from hs) Au
 | str i=>
  obtain ⟨t,rfl⟩:=rx
  cases y with
  | non=>cases ry;exact PySem.EqNone.ne_str_none (a9 I q (by simp))
  | bl j=>cases ry;exact PySem.EqMixed.ne_str_bool (a9 I q (by simp))
  | int j=>obtain ⟨t',rfl⟩:=ry;exact PySem.EqMixed.ne_str_int (a9 I q (by simp))
  | str j=>obtain ⟨t',rfl⟩:=ry;exact ne_str (a9 I q (congrArg not ma))
  | _=>exact absurd (show false=true from hs) Au
 | byt i=>
  obtain ⟨t,rfl⟩:=rx
  cases y with
  | byt j=>obtain ⟨t',rfl⟩:=ry;exact PySem.W.ne_bytes (a9 I q (congrArg not md))
  | _=>exact absurd (show false=true from hs) Au
 | _=>cases y<;>exact absurd (show false=true from hs) Au
theorem oj:dG X (compareOp .Lt) (tP fun i j=>.bl (decide (i < j))):=qU fun _ _ _ _ _ _ _ q=>lt_int q
theorem iq:dG X (compareOp .LtE) (tP fun i j=>.bl (decide (i<=j))):=qU fun _ _ _ _ _ _ _ q=>le_int q
theorem om:dG X (compareOp .Gt) (tP fun i j=>.bl (decide (j < i))):=qU fun _ _ _ _ _ _ _ q=>gt_int q
theorem wz:dG X (compareOp .GtE) (tP fun i j=>.bl (decide (j<=i))):=qU fun _ _ _ _ _ _ _ q=>ge_int q
theorem ir:dG X (compareOp .In) (fun x y H Q=>∃ i j,x=.str i/\y=.str j/\Q (.bl (!(Builtin.Str.occurrences j i 0 j.length 1).isEmpty)) H):=by
 intro pins s σ H x y v u Q I rx ry h
 obtain ⟨i,j,rfl,rfl,q⟩:=h
 obtain ⟨t,rfl⟩:=rx
 obtain ⟨t',rfl⟩:=ry
 exact in_str (a9 I q rfl)
theorem i8:dG X (compareOp .Is) (fun x y H Q=>y=.non/\Q (.bl (decide (x=.non))) H):=by
 intro pins s σ H x y v u Q I rx ry h
 obtain ⟨rfl,q⟩:=h
 cases ry
 refine is_none_gen (a9 I q ?_)
 cases x<;>first
  | (cases rx;rfl)
  | (obtain ⟨t,rfl⟩:=rx;rfl)
theorem ay (b:Expr) {op:CmpOp} (h:op≠.In:=by decide) (h2:op≠.NotIn:=by decide):behindInMarks op b=false:=by
 have e1:(op == CmpOp.In)=false:=by cases op<;>first|rfl|exact absurd rfl h
 have e2:(op == CmpOp.NotIn)=false:=by cases op<;>first|rfl|exact absurd rfl h2
 cases b<;>simp [behindInMarks,e1,e2]
theorem cg {op:CmpOp} {r:R2} (ho:dG X (compareOp op) r) (ha:PE X a ta) (hb:PE X b tb) (hm:behindInMarks op b=false):PE X (.Compare a [op] [b] pos) (yl r ta tb):=by
 refine ⟨?_⟩
 intro pins s σ H Q I h
 exact wpAny_Compare1 (ut ha hb I h fun v u s2 x y H2 I2 rx ry q=>ho pins s2 σ H2 x y v u Q I2 rx ry q) hm
inductive oo (Q:Bool->Hp->Prop) (x:V) (H':Hp):Prop
 | mk (k:_):x=.bl k->Q k H'->oo Q x H'
def tQ (t:TE):TT:=fun σ H Q=>t σ H fun x H'=>oo Q x H'
theorem av {op:CmpOp} {r:R2} (ho:dG X (compareOp op) r) (ha:PE X a ta) (hb:PE X b tb) (hm:behindInMarks op b=false):PT X (.Compare a [op] [b] pos) (tQ (yl r ta tb)):=by
 refine ⟨?_⟩
 intro pins s σ H Q I h
 refine wpAny_isTrue_Compare1 (bA (ha pins s σ H _ I h) fun v s1 ⟨x,H1,I1,r1,q1⟩=>bA (hb pins s1 σ H1 _ I1 q1) fun u s2 ⟨y,H2,I2,r2,q2⟩=>
  bA (ho pins s2 σ H2 x y v u _ I2 r1 r2 q2) fun c s3 ⟨z,H3,I3,r3,k,e,q3⟩=>?_) hm
 subst e
 cases r3
 exact wpAny_truthy_bool ⟨H3,I3,q3⟩
inductive me (r':R2) (tc:TE) (σ:St) (Q:VK) (y:V) (z:V) (H3:Hp):Prop
 | mk (k:_):z=.bl k->(if k=true then tc σ H3 fun w' H4=>r' y w' H4 Q else Q (.bl false) H3)->me r' tc σ Q y z H3
def oq (r r':R2) (ta tb tc:TE):TE:=fun σ H Q=>ta σ H fun x H1=>tb σ H1 fun y H2=>r x y H2 fun z H3=>me r' tc σ Q y z H3
theorem j0 {op op':CmpOp} {r r':R2} (ho:dG X (compareOp op) r) (ho':dG X (compareOp op') r') (ha:PE X a ta) (hb:PE X b tb) (hc:PE X c tc)
  (hm:lastMarks [op,op'] [b,c]=false:=by with_unfolding_all rfl):PE X (.Compare a [op,op'] [b,c] pos) (oq r r' ta tb tc):=by
 refine ⟨?_⟩
 intro pins s σ H Q I h
 refine Compare_chain (bA (ha pins s σ H _ I h) fun v s1 ⟨x,H1,I1,r1,q1⟩=>chain_link (bA (hb pins s1 σ H1 _ I1 q1) fun u s2 ⟨y,H2,I2,r2,q2⟩=>
  bA (ho pins s2 σ H2 x y v u _ I2 r1 r2 q2) fun d s3 ⟨z,H3,I3,r3,k,e,q3⟩=>?_)) hm
 subst e
 cases r3
 refine wpAny_truthy_bool ?_
 cases k with
 | false=>exact ite_ff ⟨.bl false,H3,I3,rfl,q3⟩
 | true=>exact ite_tt (chain_last (bA (hc pins s3 σ H3 _ I3 q3) fun w' s4 ⟨z',H4,I4,r4,q4⟩=>ho' pins s4 σ H4 y z' u w' Q I4 r2 r4 q4))
theorem ot {op op':CmpOp} {r r':R2} (ho:dG X (compareOp op) r) (ho':dG X (compareOp op') r') (ha:PE X a ta) (hb:PE X b tb) (hc:PE X c tc)
  (hm:lastMarks [op,op'] [b,c]=false:=by with_unfolding_all rfl):PT X (.Compare a [op,op'] [b,c] pos) (tQ (oq r r' ta tb tc)):=by
 refine ⟨?_⟩
 intro pins s σ H Q I h
 refine isTrue_chain (bA (ha pins s σ H _ I h) fun v s1 ⟨x,H1,I1,r1,q1⟩=>test_link (bA (hb pins s1 σ H1 _ I1 q1) fun u s2 ⟨y,H2,I2,r2,q2⟩=>
  bA (ho pins s2 σ H2 x y v u _ I2 r1 r2 q2) fun d s3 ⟨z,H3,I3,r3,k,e,q3⟩=>?_)) hm
 subst e
 cases r3
 refine wpAny_truthy_bool ?_
 cases k with
 | false=>
  obtain ⟨k',e',q'⟩:=q3
  cases e'
  exact ite_ff ⟨H3,I3,q'⟩
 | true=>
  refine ite_tt (test_last (bA (hc pins s3 σ H3 _ I3 q3) fun w' s4 ⟨z',H4,I4,r4,q4⟩=>bA (ho' pins s4 σ H4 y z' u w' _ I4 r2 r4 q4) fun d' s5 ⟨z2,H5,I5,r5,k2,e2,q5⟩=>?_))
  subst e2
  cases r5
  exact wpAny_truthy_bool ⟨H5,I5,q5⟩
def wB (K:PySem.W.Frag) (x:V) (H:Hp) (k:Bool):Prop:=
 match x with
 | .non=>k=false
 | .bl b=>k=b
 | .int i=>k=(i != 0)
 | .str y=>y.length<=sizeLine/\k=((y.length:Int) != 0)
 | .byt y=>y.size<=sizeLine/\k=((y.size:Int) != 0)
 | .ref p=>(∃ xs,SqL K H p xs/\k=!xs.isEmpty)\/(∃ xs,SqT K H p xs/\k=!xs.isEmpty)\/∃ kvs,H p=some (.dK kvs)/\k=!kvs.isEmpty
 | _=>False
theorem kR {κ:Type} {kvs:List (κ×V)} {vs:List (κ×Value)} (r:KV kvs vs):(!vs.isEmpty)=!kvs.isEmpty:=by
 cases r<;>rfl
theorem gI {xs:List V} {its:List Value} (r:Vals xs its):(!its.toArray.isEmpty)=!xs.isEmpty:=by
 cases r<;>simp
theorem eU:(sizeLine:Nat) < 2 ^ 63:=by rw [sizeLine_eq];decide
theorem uu:yI X (fun x H Q=>∃ k,wB X.K x H k/\Q k H):=by
 intro pins s σ H x v Q I rx h
 obtain ⟨k,e,q⟩:=h
 have hl:=eU
 have hs:sizeLine=16777216:=sizeLine_eq
 cases x with
 | non=>
  cases rx
  have e':k=false:=e
  subst e'
  exact truthy_none ⟨H,I,q⟩
 | bl b=>
  cases rx
  have e':k=b:=e
  subst e'
  exact wpAny_truthy_bool ⟨H,I,q⟩
 | int i=>
  obtain ⟨t,rfl⟩:=rx
  have e':k=(i != 0):=e
  subst e'
  exact PySem.P.truthy_int ⟨H,I,q⟩
 | str y=>
  obtain ⟨t,rfl⟩:=rx
  obtain ⟨hy,e'⟩:y.length<=sizeLine/\k=((y.length:Int) != 0):=e
  subst e'
  exact PySem.P.truthy_str (by omega) ⟨H,I.tok _,q⟩
 | byt y=>
  obtain ⟨t,rfl⟩:=rx
  obtain ⟨hy,e'⟩:y.size<=sizeLine/\k=((y.size:Int) != 0):=e
  subst e'
  exact PySem.W.truthy_bytes (by omega) ⟨H,I.tok _,q⟩
 | ref p=>
  cases rx
  have e':(∃ xs,SqL X.K H p xs/\k=!xs.isEmpty)\/(∃ xs,SqT X.K H p xs/\k=!xs.isEmpty)\/∃ kvs,H p=some (.dK kvs)/\k=!kvs.isEmpty:=e
  rcases e' with ⟨xs,hx,e'⟩|⟨xs,hx,e'⟩|⟨kvs,hx,e'⟩
  ·subst e'
   obtain ⟨its,r,pl,hz⟩:=I.list hx
   have hlen:=r.length
   exact wpAny_truthy_list pl.isList (by simp only [As];omega) ⟨H,I.tok _,by rw [gI r];exact q⟩
  ·subst e'
   obtain ⟨its,r,pl,hz⟩:=I.tuple hx
   have hlen:=r.length
   exact truthy_tuple pl (by simp only [As];omega) ⟨H,I.tok _,by rw [gI r];exact q⟩
  ·subst e'
   obtain ⟨hz,hS,vs,r,m⟩:kvs.length<=sizeLine/\(p == sysModules)=false/\∃ vs,KV kvs vs/\s.heap.DictOf (bz X.prog X.w) p vs:=I.hok p _ hx
   have hlen:kvs.length=vs.length:=Paired.length r
   exact wpAny_truthy_dict hS m (by omega) ⟨H,I.tok _,by rw [kR r];exact q⟩
 | _=>exact (show False from e).elim
theorem ou (ha:PE X a ta) (he:∀ whole,isTrue a X.env whole=(do let v <-whole;standAt a.pos;holding [v] (truthy v))) :
  PT X a (fun σ H Q=>ta σ H fun x H'=>∃ k,wB X.K x H' k/\Q k H'):=by
 refine ⟨?_⟩
 intro pins s σ H Q I h
 exact isTrue_plain (bA (ha pins s σ H _ I h) fun v s1 ⟨x,H1,I1,r1,q1⟩=>uu pins s1 σ H1 x v Q I1 r1 q1) (he _)
theorem aV:dG X (binaryOp .Add) (fun x y H Q=>∃ i j,x=.str i/\y=.str j/\i.length+j.length<=sizeLine/\Q (.str (i++j)) H):=by
 intro pins s σ H x y v u Q I rx ry h
 obtain ⟨i,j,rfl,rfl,hz,q⟩:=h
 obtain ⟨t,rfl⟩:=rx
 obtain ⟨t',rfl⟩:=ry
 exact add_str (fun t' tk=>⟨.str (i++j),H,I.tok _,⟨_,rfl⟩,q⟩) hz
theorem fh {x:V} {us:List Value} (r:Vals [x] us):∃ u,us=[u]/\RelV x u:=by
 cases r with
 | cons r1 r2=>cases r2;exact ⟨_,rfl,r1⟩
theorem ow {x y:V} {us:List Value} (r:Vals [x,y] us):∃ u w',us=[u,w']/\RelV x u/\RelV y w':=by
 cases r with
 | cons r1 r2=>
  cases r2 with
  | cons r3 r4=>cases r4;exact ⟨_,_,rfl,r1,r3⟩
theorem nh (hc:X.calm=true):cu X (.builtin "max") (fun xs H Q=>∃ i j,xs=[.int i,.int j]/\Q (.int (if j > i then j else i)) H):=by
 intro pins s σ H xs us Q I r h
 obtain ⟨i,j,rfl,q⟩:=h
 obtain ⟨u,w',rfl,⟨t,rfl⟩,⟨t',rfl⟩⟩:=ow r
 refine max_two_ints (I.ok.hd hc) fun h' tk k=>⟨_,H,I.kept k,?_,q⟩
 by_cases hj:j > i
 ·rw [if_pos hj,if_pos hj];exact ⟨_,rfl⟩
 ·rw [if_neg hj,if_neg hj];exact ⟨_,rfl⟩
theorem ni (hc:X.calm=true):cu X (.builtin "min") (fun xs H Q=>∃ i j,xs=[.int i,.int j]/\Q (.int (if j < i then j else i)) H):=by
 intro pins s σ H xs us Q I r h
 obtain ⟨i,j,rfl,q⟩:=h
 obtain ⟨u,w',rfl,⟨t,rfl⟩,⟨t',rfl⟩⟩:=ow r
 refine min_two_ints (I.ok.hd hc) fun h' tk k=>⟨_,H,I.kept k,?_,q⟩
 by_cases hj:j < i
 ·rw [if_pos hj,if_pos hj];exact ⟨_,rfl⟩
 ·rw [if_neg hj,if_neg hj];exact ⟨_,rfl⟩
theorem iu:cu X (.type "int") (fun xs H Q=>(∃ i,xs=[.int i]/\Q (.int i) H)\/∃ k,xs=[.bl k]/\Q (.int (if k then 1 else 0)) H):=by
 intro pins s σ H xs us Q I r h
 rcases h with ⟨i,rfl,q⟩|⟨k,rfl,q⟩
 ·obtain ⟨u,rfl,t,rfl⟩:=fh r
  exact call_int_int ⟨.int i,H,I,⟨_,rfl⟩,q⟩
 ·obtain ⟨u,rfl,r1⟩:=fh r
  cases r1
  exact call_int_bool ⟨.int (if k then 1 else 0),H,I.tok _,⟨_,rfl⟩,q⟩
theorem bB:cu X (.type "str") (fun xs H Q=>∃ i,xs=[.int i]/\i.natAbs.log2 < 1920/\Q (.str (toString i)) H):=by
 intro pins s σ H xs us Q I r h
 obtain ⟨i,rfl,hz,q⟩:=h
 obtain ⟨u,rfl,t,rfl⟩:=fh r
 exact PySem.P.str_of_int hz ⟨.str _,H,I.tok _,⟨_,rfl⟩,q⟩
end
end L2
namespace L2
open PySem PySem.Spec PyProof.Rows
structure ObjM (h:Heap) (x dx C:Addr) (mA:Str->Option Value):Prop where
 obj:h.get? x=some (PySem.W.instObj C dx)
 ns:h.Ns1 dx mA
 ne:dx≠x
theorem eg {h:Heap} {dx:Addr} {mA:Str->Option Value} (n:h.Ns1 dx mA):∃ od,h.get? dx=some od/\∀ name,PySem.W.lookIn name od=some (mA name):=by
 obtain ⟨o,es,ep,ho,hd,hk,_,hm⟩:=n
 refine ⟨o,ho,fun name=>?_⟩
 have e:=hm name
 unfold nsFind findBy at e
 rw [<-Array.find?_toList] at e
 unfold PySem.W.lookIn
 rw [hd]
 dsimp only
 split
 ·rename_i y q
  rw [q] at e
  exact congrArg some e
 ·rename_i q
  rw [q] at e
  have a:es.toList.any (·.refKey)=false:=by
   rw [List.any_eq_false]
   intro y hy
   obtain ⟨z,t,hkey⟩:=hk y (Array.mem_toList_iff.mp hy)
   simp [DictEntry.refKey,hkey]
  have a':¬ es.toList.any (·.refKey)=true:=by rw [a];exact Au
  rw [if_neg a']
  exact congrArg some e
theorem ObjM.look {h:Heap} {x dx C:Addr} {mA:Str->Option Value} (I:ObjM h x dx C mA):∃ od,PySem.W.InstAt h x (PySem.W.instObj C dx) C (some od)/\∀ name,PySem.W.lookIn name od=some (mA name):=
 let ⟨od,ho,hl⟩:=eg I.ns
 ⟨od,⟨I.obj,rfl,rfl,ho⟩,hl⟩
section
variable {prog:Program} {w:World} {A:Around} {E:Value->Shared->Prop} {s:Shared} {K:PySem.W.Frag} {x dx C f:Addr} {mA:Str->Option Value} {name:Str} {v:Value}
theorem qW {expr:Bool} {Q:Value->Shared->Prop} (X:K.In s.heap) (I:ObjM s.heap x dx C mA) (hg:PySem.W.plainGet K C name=true) (hh:PySem.W.hasDictIn K C=true)
  (ha:PySem.W.findIn K (.ref C) name=some none) (hv:mA name=some v) (hv':PySem.W.handedIn v=true) (h:Q v { s with toks:=s.toks+1 }) :
  wpAny (model prog w) A (getAttr (.ref x) name expr) Q E s:=by
 obtain ⟨od,J,hl⟩:=I.look
 exact PySem.W.get_value X J (PySem.W.plainGet_of hg).1 (PySem.W.findObj_own hh ha rfl (by rw [hl,hv])) hv' h
theorem oy {pl:Sem Bool} {Q:Value×List Value->Shared->Prop} (X:K.In s.heap) (I:ObjM s.heap x dx C mA) (hg:PySem.W.plainGet K C name=true)
  (hf:PySem.W.findIn K (.ref C) name=some (some (.ref f))) (ht:PySem.W.isFn K (.ref f)=true) (hv:mA name=none) (h:Q (.ref f,[.ref x]) s) :
  wpAny (model prog w) A (getMethod (.ref x) name pl) Q E s:=by
 obtain ⟨od,J,hl⟩:=I.look
 exact PySem.W.method_fn X J (PySem.W.plainGet_of hg).1 (PySem.W.plainGet_of hg).2 hf (beq_iff_eq.mp ht) (by show (PySem.W.lookIn name od).map (·.isSome)=some false;rw [hl,hv];rfl) h
theorem qX {ns:List Str} {Q:Unit->Shared->Prop} (X:K.In s.heap) (I:ObjM s.heap x dx C mA)
  (hs:PySem.W.findIn K (.ref C) "__setattr__"=some (some (.builtin "object.__setattr__"))) (hp:PySem.W.plainOver K C=true) (ht:PySem.W.takerIn K C name=some none) (hh:PySem.W.hasDictIn K C=true)
  (hw:PySem.Within mA ns) (hsz:ns.length<=sizeLine)
  (h:∀ h',ObjM h' x dx C (fun y=>if y=name then some v else mA y)->Heap.SameBut dx s.heap h'->Q () { s with heap:=h',toks:=s.toks+2 }) :
  wpAny (model prog w) A (setAttr (.ref x) name v) Q E s:=by
 obtain ⟨od,J,hl⟩:=I.look
 refine PySem.W.set_plain X J hs (PySem.W.osa_open (s:={ s with toks:=s.toks+1 }) (r:=none) X J hp ht fun b=>?_)
 obtain ⟨cd,hc,hd'⟩:=PySem.W.any_some hh
 have hx:s.heap.get? x=some ⟨.ref C,some dx,.plain,#[]⟩:=I.obj
 refine wpAny_bind (wpAny_pure (wpAny_bind (wpAny_bind (wpAny_loadPart hx (wpAny_bind (PySem.W.Looks.here (s:={ s with toks:=s.toks+1 }) (PySem.W.looks_clsIn X hc) ?_))))))
 rw [hd']
 refine wpAny_pure (a:=some dx) (wpAny_bind (wpAny_pure (wpAny_bind ?_)))
 refine wpAny_nsSet1 (s:={ s with toks:=s.toks+1 }) I.ns fun h' hn2 hs2=>?_
 obtain ⟨oD,esD,epD,hoD,hdD,hcD⟩:=hn2.count (PySem.Within.cons name v hw)
 refine wpAny_bind (wpAny_lookBehind hoD (by rw [hdD];exact pastItsLine_dict (Aq hcD (by rw [Ai];omega))) ?_)
 exact wpAny_pure (h _ ⟨(hs2.2 _ (Ne.symm I.ne)).trans I.obj,hn2,I.ne⟩ hs2)
theorem oz {R:Result->Shared->Prop} {vs:List Value} {kw:List (Str×Value)} (X:K.In s.heap) (hm:PySem.W.makesIn K C=true)
  (hi:PySem.W.findIn K (.ref C) "__init__"=some (some (.ref f))) (hf:PySem.W.typeIn K (.ref f)=some (.type "function"))
  (h:codeAny (model prog w) (A.under (.builtin "type.__call__" ⟨.ref C::vs,kw⟩)) (.call (.ref f) ⟨.ref (s.heap.objs.size+1)::vs,kw⟩) (PySem.W.InitBack (s.heap.objs.size+1) R)
   { s with heap:=(s.heap.push PySem.W.emptyDict).push (PySem.W.instObj C s.heap.objs.size) }) :
  codeAny (model prog w) A (.call (.ref C) ⟨vs,kw⟩) R s:=by
 obtain ⟨hh,g,d,t,os⟩:=s
 exact PySem.W.make_core (PySem.W.makes_of X hm) (PySem.W.looks_findIn X hi) (fun self=>PySem.W.bind_fn X self hf) (.inl rfl) h
end
def cG (f:Str) (v:V):List (Str×V)->List (Str×V)
 | []=>[(f,v)]
 | (g,x)::r=>if g=f then (g,v)::r else (g,x)::cG f v r
theorem dM (f g:Str) (v:V):∀ fs:List (Str×V),(cG f v fs).lookup g=if g=f then some v else fs.lookup g
 | []=>by
  show List.lookup g [(f,v)]=_
  by_cases h:g=f
  ·have hb:(g == f)=true:=beq_iff_eq.mpr h
   simp only [List.lookup,hb,if_pos h]
  ·have hb:(g == f)=false:=beq_eq_false_iff_ne.mpr h
   simp only [List.lookup,hb,if_neg h]
 | (k,x)::r=>by
  have ih:=dM f g v r
  rw [show cG f v ((k,x)::r)=(if k=f then (k,v)::r else (k,x)::cG f v r) from rfl]
  by_cases hk:k=f
  ·rw [if_pos hk]
   by_cases h:g=k
   ·have hb:(g == k)=true:=beq_iff_eq.mpr h
    simp only [List.lookup,hb,if_pos (h.trans hk)]
   ·have hb:(g == k)=false:=beq_eq_false_iff_ne.mpr h
    simp only [List.lookup,hb,if_neg (fun e:g=f=>h (e.trans hk.symm))]
  ·rw [if_neg hk]
   by_cases h:g=k
   ·have hb:(g == k)=true:=beq_iff_eq.mpr h
    simp only [List.lookup,hb,if_neg (fun e:g=f=>hk (h.symm.trans e))]
   ·have hb:(g == k)=false:=beq_eq_false_iff_ne.mpr h
    simp only [List.lookup,hb]
    exact ih
theorem de (f:Str) (v:V):∀ fs:List (Str×V),f∈(cG f v fs).map (·.1)/\∀ g,g∈fs.map (·.1)->g∈(cG f v fs).map (·.1)
 | []=>⟨by simp [cG],fun g h=>by simp at h⟩
 | (k,x)::r=>by
  obtain ⟨i1,i2⟩:=de f v r
  rw [show cG f v ((k,x)::r)=(if k=f then (k,v)::r else (k,x)::cG f v r) from rfl]
  by_cases hk:k=f
  ·rw [if_pos hk]
   subst hk
   exact ⟨by simp,fun g h=>by simpa using h⟩
  ·rw [if_neg hk]
   refine ⟨?_,fun g h=>?_⟩
   ·rw [AA]
    exact Av _ i1
   ·rw [AA] at h ⊢
    rcases AG.mp h with e|e
    ·exact AG.mpr (.inl e)
    ·exact Av _ (i2 g e)
theorem dN (f:Str) (v:V):∀ fs:List (Str×V),(cG f v fs).length<=fs.length+1
 | []=>by simp [cG]
 | (k,x)::r=>by
  have ih:=dN f v r
  rw [show cG f v ((k,x)::r)=(if k=f then (k,v)::r else (k,x)::cG f v r) from rfl]
  by_cases hk:k=f
  ·rw [if_pos hk,Ai,Ai];omega
  ·rw [if_neg hk,Ai,Ai];omega
theorem RelO.some_of {v:V} {o:Option Value} (r:RelO (some v) o):∃ u,o=some u/\RelV v u:=by
 cases o with
 | none=>exact (show False from r).elim
 | some u=>exact ⟨u,rfl,r⟩
theorem RelO.none_of {o:Option Value} (r:RelO none o):o=none:=by
 cases o with
 | none=>rfl
 | some u=>exact (show False from r).elim
theorem iw {v:V} {u:Value} (r:RelV v u):PySem.W.handedIn u=true:=by
 cases v with
 | non=>cases (show u=Value.none from r);rfl
 | bl b=>cases (show u=Value.bool b from r);rfl
 | int i=>obtain ⟨t,e⟩:=(show ∃ t,u=Value.int i t from r);cases e;rfl
 | str x=>obtain ⟨t,e⟩:=(show ∃ t,u=Value.str x t from r);cases e;rfl
 | byt b=>obtain ⟨t,e⟩:=(show ∃ t,u=Value.bytes b t from r);cases e;rfl
 | flt b=>obtain ⟨t,e⟩:=(show ∃ t,u=Value.float b t from r);cases e;rfl
 | ref a=>cases (show u=Value.ref a from r);rfl
 | ty n=>cases (show u=Value.type n from r);rfl
section
variable {P:Program} {w:World} {H H':Hp} {h h':Heap} {a C dx:Addr} {fs fs':List (Str×V)}
theorem gw (hok:HOk P w H h) (e:H a=some (.ins C dx fs)):∃ mA,ObjM h a dx C mA/\(∀ f,RelO (fs.lookup f) (mA f))/\PySem.Within mA (fs.map (·.1))/\fs.length<=1000/\H dx=some (.own a):=by
 obtain ⟨d,z,ne,ob,mA,n,r,q⟩:=(show ObjOk P w H h a (.ins C dx fs) from hok a _ e)
 exact ⟨mA,⟨ob,n,ne⟩,r,q,z,d⟩
end
structure Cls (K:PySem.W.Frag) (C:Addr):Prop where
 pg:PySem.W.plainGet K C Str.empty=true
 hd:PySem.W.hasDictIn K C=true
 po:PySem.W.plainOver K C=true
 sa:PySem.W.findIn K (.ref C) "__setattr__"=some (some (.builtin "object.__setattr__"))
theorem Cls.get {K:PySem.W.Frag} {C:Addr} (c:Cls K C) (f:Str):PySem.W.plainGet K C f=true:=c.pg
def NoAttr (K:PySem.W.Frag) (C:Addr) (f:Str):Prop:=PySem.W.findIn K (.ref C) f=some none
theorem NoAttr.taker {K:PySem.W.Frag} {C:Addr} {f:Str} (n:NoAttr K C f):PySem.W.takerIn K C f=some none:=by
 unfold PySem.W.takerIn
 rw [show PySem.W.findIn K (.ref C) f=some none from n]
 rfl
structure uv (K:PySem.W.Frag) (C:Addr) (m:Str) (f:Addr):Prop where
 at_:PySem.W.findIn K (.ref C) m=some (some (.ref f))
 fn:PySem.W.isFn K (.ref f)=true
 kp:PySem.W.keepIn K (.ref f)=true
section
variable {X:Cx} {pins:List (Addr×Obj)} {σ:St} {H:Hp} {s:Shared} {a C dx:Addr} {fs:List (Str×V)} {f:Str} {v:V} {A:Around} {E:Value->Shared->Prop}
theorem kS {b:Bool} {Q:Value->Shared->Prop} (I:Inv X pins σ H s) (e:H a=some (.ins C dx fs)) (c:Cls X.K C) (n:NoAttr X.K C f) (l:fs.lookup f=some v)
  (h:∀ u s',Inv X pins σ H s'->RelV v u->Q u s'):wpAny (model X.prog X.w) A (getAttr (.ref a) f b) Q E s:=by
 obtain ⟨mA,O,r,_,_,_⟩:=gw I.hok e
 obtain ⟨u,hu,ru⟩:=RelO.some_of (v:=v) (o:=mA f) (by rw [<-l];exact r f)
 exact qW I.kIn O (c.get f) c.hd n hu (iw ru) (h u _ (I.tok _) ru)
theorem kT {m:Str} {g:Addr} {pl:Sem Bool} {Q:Value×List Value->Shared->Prop} (I:Inv X pins σ H s) (e:H a=some (.ins C dx fs)) (c:Cls X.K C) (k:uv X.K C m g) (l:fs.lookup m=none)
  (h:Q (.ref g,[.ref a]) s):wpAny (model X.prog X.w) A (getMethod (.ref a) m pl) Q E s:=by
 obtain ⟨mA,O,r,_,_,_⟩:=gw I.hok e
 have hn:mA m=none:=RelO.none_of (by rw [<-l];exact r m)
 exact oy I.kIn O (c.get m) k.at_ k.fn hn h
theorem kU {y:V} {u:Value} {Q:Unit->Shared->Prop} (I:Inv X pins σ H s) (e:H a=some (.ins C dx fs)) (c:Cls X.K C) (n:NoAttr X.K C f) (hl:fs.length < 1000) (ry:RelV y u)
  (h:∀ s',Inv X pins σ (ax H a (.ins C dx (cG f y fs))) s'->Q () s'):wpAny (model X.prog X.w) A (setAttr (.ref a) f u) Q E s:=by
 obtain ⟨mA,O,r,wi,_,ho⟩:=gw I.hok e
 have hz:(fs.map (·.1)).length<=sizeLine:=by rw [Aj,sizeLine_eq];omega
 refine qX I.kIn O c.sa c.po n.taker c.hd wi hz fun h' O' sb=>h _ ?_
 have hd:∃ o,h'.get? dx=some o:=let ⟨o,_,_,e',_⟩:=O'.ns;⟨o,e'⟩
 refine I.write (x:=a) (e:=dx) (by rw [e];exact True.intro) (.inr ho) (fun b q hb z=>(sb.2 b hb).trans z) hd ?_
 refine ⟨by rw [aB O.ne];exact ho,?_,O.ne,O'.obj,_,O'.ns,fun g=>?_,fun g hg=>?_⟩
 ·have:=dN f y fs;omega
 ·show RelO ((cG f y fs).lookup g) (if g=f then some u else mA g)
  rw [dM]
  by_cases q:g=f
  ·rw [if_pos q,if_pos q];exact ry
  ·rw [if_neg q,if_neg q];exact r g
 ·by_cases q:g=f
  ·rw [q];exact (de f y fs).1
  ·refine (de f y fs).2 g (wi g fun z=>hg ?_)
   show (if g=f then some u else mA g)=none
   rw [if_neg q];exact z
theorem Inv.made (I:Inv X pins σ H s):Inv X pins σ (ax (ax H s.heap.objs.size (.own (s.heap.objs.size+1))) (s.heap.objs.size+1) (.ins C s.heap.objs.size []))
  { s with heap:=(s.heap.push PySem.W.emptyDict).push (PySem.W.instObj C s.heap.objs.size) }:=by
 have e1:(s.heap.push PySem.W.emptyDict).get? s.heap.objs.size=some PySem.W.emptyDict:=AB s.heap rfl
 have e2:((s.heap.push PySem.W.emptyDict).push (PySem.W.instObj C s.heap.objs.size)).get? (s.heap.objs.size+1)=some (PySem.W.instObj C s.heap.objs.size):=by
  have:=AB (s.heap.push PySem.W.emptyDict) (o:=PySem.W.instObj C s.heap.objs.size) rfl
  rwa [BC] at this
 have e3:(s.heap.push PySem.W.emptyDict).Ns s.heap.objs.size (fun _=>none):=⟨PySem.W.emptyDict,#[],_,e1,rfl,(fun e he=>absurd he (by simp)),fun _=>rfl⟩
 have I1:=I.laid (a:=s.heap.objs.size) (o:=.own (s.heap.objs.size+1)) (h':=s.heap.push PySem.W.emptyDict) (t':=s.toks) (fun b u q=>Al _ q) (Ao _) ⟨_,e1⟩
 refine I1.laid (a:=s.heap.objs.size+1) (o:=.ins C s.heap.objs.size []) (t':=s.toks) (fun b u q=>Al _ q) (Nat.le_of_eq (BC _ _)) ?_
 have ne:s.heap.objs.size≠s.heap.objs.size+1:=AM (BD _)
 refine ⟨by rw [aB ne,ad],Bi _,ne,e2,fun _=>none,(Heap.Ns1.of_empty e3).at fun o q=>Al _ q,fun _=>True.intro,fun y hy=>absurd rfl hy⟩
theorem mf {prog:Program} {w:World} {env:Env} {e:Expr} {f:Str} {pos:Pos} {s:Shared} {Q:Value->Shared->Prop} (hb:attributeBase e f env (eval e env)=eval e env)
  (h:wpAny (model prog w) A (eval e env) (fun o s₁=>wpAny (model prog w) A (getAttr o f true) Q E s₁) E s):wpAny (model prog w) A (eval (.Attribute e f pos) env) Q E s:=
 Attribute_any_ h (by rw [arm_eval_Attribute,hb])
end
inductive tR (K:PySem.W.Frag) (f:Str) (Q:VK) (x:V) (H1:Hp):Prop
 | mk (a C dx fs v:_):x=.ref a->H1 a=some (.ins C dx fs)->Cls K C->NoAttr K C f->fs.lookup f=some v->Q v H1->tR K f Q x H1
def yM (K:PySem.W.Frag) (ta:TE) (f:Str):TE:=fun σ H Q=>ta σ H fun x H1=>tR K f Q x H1
inductive tS (K:PySem.W.Frag) (f:Str) (D:Ends) (σ:St) (y:V) (x:V) (H2:Hp):Prop
 | mk (a C dx fs:_):x=.ref a->H2 a=some (.ins C dx fs)->Cls K C->NoAttr K C f->fs.length < 1000->D.nx σ (ax H2 a (.ins C dx (cG f y fs)))->tS K f D σ y x H2
def yN (K:PySem.W.Frag) (ta tv:TE) (f:Str):TS:=fun D σ H=>tv σ H fun y H1=>ta σ H1 fun x H2=>tS K f D σ y x H2
section
variable {X:Cx} {o e value:Expr} {f:Str} {pos pos' tpos:Pos} {ta tv:TE}
theorem aU (he:PE X e ta) (hb:attributeBase e f X.env (eval e X.env)=eval e X.env):PE X (.Attribute e f pos) (yM X.K ta f):=by
 refine ⟨?_⟩
 intro pins s σ H Q I h
 refine mf hb (bA (he pins s σ H _ I h) fun u s1 ⟨x,H1,I1,rx,a,C,dx,fs,v,ex,ea,c,n,l,q⟩=>?_)
 subst ex
 obtain rfl:u=Value.ref a:=rx
 exact kS I1 ea c n l fun u' s2 I2 ru=>⟨v,H1,I2,ru,q⟩
theorem bN (ha:PE X o ta) (hv:PE X value tv) (hs:swapsWith value (some (.Attribute o f pos')) pos.line X.env=pure false):PS X (.Assign [.Attribute o f pos'] value pos) (yN X.K ta tv f):=by
 refine ⟨?_⟩
 intro pins s σ H D I h
 refine plainObj_wpAny_Assign_Attribute (bA (hv pins s σ H _ I h) fun u s1 ⟨y,H1,I1,ry,q⟩=>bA (ha pins s1 σ H1 _ I1 q) fun ov s2 ⟨x,H2,I2,rx,a,C,dx,fs,ex,ea,c,n,l,q2⟩=>?_) hs
 subst ex
 obtain rfl:ov=Value.ref a:=rx
 exact kU I2 ea c n l ry fun s3 I3=>⟨σ,_,I3,q2⟩
end
section
variable {X:Cx} {pins:List (Addr×Obj)} {σ:St} {H:Hp} {s:Shared} {A:Around} {E:Value->Shared->Prop} {Q:Value->Shared->Prop} {c:Value} {b:Bool}
inductive eF (K:PySem.W.Frag) (H:Hp):V->Value->Prop where
 | non:eF K H .non (.type "NoneType")
 | bl (x:Bool):eF K H (.bl x) (.type "bool")
 | int (i:Int):eF K H (.int i) (.type "int")
 | str (x:Str):eF K H (.str x) (.type "str")
 | flt (x:UInt64):eF K H (.flt x) (.type "float")
 | lst {a:Addr} {xs:List V} (e:H a=some (.lst xs)):eF K H (.ref a) (.type "list")
 | frz {a:Addr} {o:Obj} {xs:List V} (e:H a=some (.frz o (.lst xs))):eF K H (.ref a) (.type "list")
 | tup {a:Addr} {xs:List V} (e:H a=some (.tup xs)):eF K H (.ref a) (.type "tuple")
 | dK {a:Addr} {kvs:List (cO×V)} (e:H a=some (.dK kvs)):eF K H (.ref a) (.type "dict")
 | dT {a:Addr} {kvs:List (List cO×V)} (e:H a=some (.dT kvs)):eF K H (.ref a) (.type "dict")
 | ins {a C dx:Addr} {fs:List (Str×V)} (e:H a=some (.ins C dx fs)) (cl:Cls K C) (ha:PySem.W.findIn K (.ref C) "__class__"=some (some (.builtin "object.__class__")))
   (hn:PySem.W.specialIn K (.builtin "object.__class__") "__get__"=some (some (.builtin "getset_descriptor.__get__"))) (htk:PySem.W.takesIn K (.builtin "object.__class__")=some true)
   (hm:PySem.W.mroIn K C (.type "object")=some true):eF K H (.ref a) (.ref C)
theorem iy {x:V} {u t:Value} (I:Inv X pins σ H s) (rx:RelV x u) (ty:eF X.K H x t) (e:PySem.W.kitOne X.K t c=some b) (h:∀ tk,Q (.bool b) { s with toks:=tk }) :
  wpAny (model X.prog X.w) A (call (.builtin "isinstance") [u,c]) Q E s:=by
 cases ty with
 | non=>cases (show u=Value.none from rx);exact Ba PySem.W.kitx_none I.kIn True.intro e (fun z=>nomatch z) h
 | bl y=>cases (show u=Value.bool y from rx);exact Ba PySem.W.kitx_bool I.kIn True.intro e (fun z=>nomatch z) h
 | int i=>obtain ⟨t,q⟩:=(show ∃ t,u=Value.int i t from rx);cases q;exact Ba PySem.W.kitx_int I.kIn True.intro e (fun z=>nomatch z) h
 | str y=>obtain ⟨t,q⟩:=(show ∃ t,u=Value.str y t from rx);cases q;exact Ba PySem.W.kitx_str I.kIn True.intro e (fun z=>nomatch z) h
 | flt y=>obtain ⟨t,q⟩:=(show ∃ t,u=Value.float y t from rx);cases q;exact Ba PySem.W.kitx_float I.kIn True.intro e (fun z=>nomatch z) h
 | @lst a xs ea=>
  cases (show u=Value.ref a from rx)
  obtain ⟨_,_,n,_,h1⟩:=(show ObjOk X.prog X.w H s.heap a (.lst xs) from I.hok a _ ea)
  exact Ba PySem.W.kitx_list I.kIn ⟨_,h1,rfl⟩ e (fun z=>nomatch z) h
 | @frz a ob xs ea=>
  cases (show u=Value.ref a from rx)
  obtain ⟨_,_,_,n,_,h1⟩:=(show ObjOk X.prog X.w H s.heap a (.frz ob (.lst xs)) from I.hok a _ ea)
  exact Ba PySem.W.kitx_list I.kIn ⟨_,h1,rfl⟩ e (fun z=>nomatch z) h
 | @tup a xs ea=>
  cases (show u=Value.ref a from rx)
  obtain ⟨_,_,_,p⟩:=(show ObjOk X.prog X.w H s.heap a (.tup xs) from I.hok a _ ea)
  obtain ⟨o,h1,h2,_⟩:=p
  exact Ba PySem.W.kitx_tuple I.kIn ⟨o,h1,(Prod.mk.inj h2).1⟩ e (fun z=>nomatch z) h
 | @dK a kvs ea=>
  cases (show u=Value.ref a from rx)
  obtain ⟨_,_,vs,_,p⟩:=(show ObjOk X.prog X.w H s.heap a (.dK kvs) from I.hok a _ ea)
  obtain ⟨o,es,ep,h1,h2,_⟩:=p
  exact Ba PySem.W.kitx_dict I.kIn ⟨o,h1,h2.1⟩ e (fun z=>nomatch z) h
 | @dT a kvs ea=>
  cases (show u=Value.ref a from rx)
  obtain ⟨_,_,xs,_,o,es,ep,h1,h2,_⟩:=(show ObjOk X.prog X.w H s.heap a (.dT kvs) from I.hok a _ ea)
  exact Ba PySem.W.kitx_dict I.kIn ⟨o,h1,h2.1⟩ e (fun z=>nomatch z) h
 | @ins a C dx fs ea cl ha hn htk hm=>
  cases (show u=Value.ref a from rx)
  obtain ⟨mA,O,_⟩:=gw I.hok ea
  obtain ⟨od,J,_⟩:=O.look
  exact Ba (PySem.W.kitx_own (cl.get _) cl.hd ha hn htk hm) I.kIn J e (fun z=>nomatch z) h
end
end L2
namespace L2
open PySem PySem.Spec PyProof.Rows
structure Room (k:Nat) (A:Around):Prop where
 hd:A.handled=none
 dp:A.depth+3*k+5 < recursionLimit
 un:A.units+16*k+200 < cLine
theorem Room.mono {j k:Nat} {A:Around} (r:Room k A) (h:j<=k):Room j A:=⟨r.hd,by have:=r.dp;omega,by have:=r.un;omega⟩
theorem Room.deeper {k:Nat} {A:Around} (r:Room (k+1) A) (env:Env):Room k (A.deeper env):=
 ⟨r.hd,by have:=r.dp;show A.depth+1+3*k+5 < _;omega,by have:=r.un;show A.units+3+16*k+200 < _;omega⟩
theorem kW {A:Around} {C:Addr} {us:List Value} {kw:List (Str×Value)}:(A.under (.builtin "type.__call__" ⟨.ref C::us,kw⟩)).depth=A.depth+1:=by
 first|rfl|simp [Around.under,Code.weight,Code.isCreation,Code.isGuard,Code.isCaller,Code.frames,Code.isFrame,guardIds]
theorem kX {A:Around} {C:Addr} {us:List Value} {kw:List (Str×Value)}:(A.under (.builtin "type.__call__" ⟨.ref C::us,kw⟩)).units=A.units+1:=by
 first|rfl|simp [Around.under,Code.cUnits,Code.frames,Code.isFrame]
theorem Room.make {k:Nat} {A:Around} (r:Room (k+1) A) (C:Addr) (us:List Value) (kw:List (Str×Value)):Room k (A.under (.builtin "type.__call__" ⟨.ref C::us,kw⟩)):=
 ⟨r.hd,by have:=r.dp;rw [kW];omega,by have:=r.un;rw [kX];omega⟩
theorem Room.depth {k:Nat} {A:Around} (r:Room k A):A.depth < recursionLimit:=by have:=r.dp;omega
theorem Room.units {k:Nat} {A:Around} (r:Room k A):A.units+64 < cLine:=by have:=r.un;omega
def qY:TA:=fun _ H Q=>Q [] H
def oA (ta:TE) (tr:TA):TA:=fun σ H Q=>ta σ H fun x H1=>tr σ H1 fun xs H2=>Q (x::xs) H2
section
variable {X:Cx} {e:Expr} {es:List Expr} {te:TE} {t:TA} {pos:Pos}
theorem ac:PA X [] qY:=⟨fun _ _ _ _ H Q I h=>Calls.spliced_nil ⟨[],H,I,.nil,h⟩⟩
theorem aa (ha:PE X e te) (hr:PA X es t) (hs:starEach (e::es) X.env=(false,eval e X.env)::starEach es X.env:=by rfl):PA X (e::es) (oA te t):=by
 refine ⟨?_⟩
 intro pos pins s σ H Q I h
 rw [hs]
 show wpAny _ _ (spliced ((false,eval e X.env)::backTo pos (starEach es X.env))) _ _ s
 refine Calls.spliced_cons (bA (ha pins s σ H _ I h) fun u s1 ⟨x,H1,I1,r1,q1⟩=>?_)
 exact bA (hr pos pins s1 σ H1 _ I1 q1) fun us s2 ⟨xs,H2,I2,r2,q2⟩=>⟨x::xs,H2,I2,.cons r1 r2,q2⟩
def yO (t:TA):TE:=fun σ H Q=>t σ H fun xs H1=>xs.length<=sizeLine/\∀ p,H1 p=none->Q (.ref p) (ax H1 p (.tup xs))
def yP (t:TA):TE:=fun σ H Q=>t σ H fun xs H1=>xs.length<=sizeLine/\∀ p,H1 p=none->Q (.ref p) (ax H1 p (.lst xs))
theorem aA {x1} (h:PA X es t):PE X (.Tuple es x1 pos) (yO t):=by
 refine ⟨?_⟩
 intro pins s σ H Q I hq
 refine wpAny_Tuple_spliced (bA (h pos pins s σ H _ I hq) fun us s1 ⟨xs,H1,I1,r,z,q⟩=>⟨by rw [<-r.length];exact z,?_⟩)
 have hf:H1 s1.heap.objs.size=none:=I1.hok.fresh (Ao _)
 refine ⟨.ref s1.heap.objs.size,ax H1 s1.heap.objs.size (.tup xs),I1.laid (t':=s1.toks) (fun b u e=>Al _ e) (Ao _) ?_,rfl,q _ hf⟩
 exact ⟨z,us,r,⟨_,AB _ rfl,rfl,_,rfl⟩⟩
theorem bf (h:PA X es t):PE X (.List es pos) (yP t):=by
 refine ⟨?_⟩
 intro pins s σ H Q I hq
 refine wpAny_List_spliced (bA (h pos pins s σ H _ I hq) fun us s1 ⟨xs,H1,I1,r,z,q⟩=>⟨by rw [<-r.length];exact z,?_⟩)
 have hf:H1 s1.heap.objs.size=none:=I1.hok.fresh (Ao _)
 refine ⟨.ref s1.heap.objs.size,ax H1 s1.heap.objs.size (.lst xs),I1.laid (t':=s1.toks) (fun b u e=>Al _ e) (Ao _) ?_,rfl,q _ hf⟩
 exact ⟨z,us,0,r,AB _ rfl⟩
end
abbrev Sp:=List V->Hp->VK->XK->Prop
abbrev nj:=List Env->Hp->Shared->XK->Value->Shared->Prop
structure Env0 (P:Program) (w:World) (K:PySem.W.Frag) (mg:Str->Option Value) (base:Heap) (A:Around) (outer:List Env) (s:Shared) (H:Hp):Prop where
 frames:A.frames=some outer
 mod:Mod K mg base
 bs:∀ b o,base.get? b=some o->s.heap.get? b=some o/\H b=none
 bsz:base.objs.size<=s.heap.objs.size
 funs:s.heap.FunFrames base outer
 frf:∀ b∈iZ outer,H b=none
 hok:HOk P w H s.heap
 bare:AllBare s.gens
inductive CE (outer:List Env) (P:Program) (w:World) (H:Hp) (s:Shared) (Q:VK) (u:Value) (s':Shared):Prop
 | mk (v H':_):s'.os=s.os->AllBare s'.gens->Un (iZ outer) [] H H' s.heap s'.heap->HOk P w H' s'.heap->RelV v u->Q v H'->CE outer P w H s Q u s'
def CR (CX:nj) (outer:List Env) (P:Program) (w:World) (H:Hp) (s:Shared) (Q:VK) (E:XK) (r:Result) (s':Shared):Prop:=
 match r with
 | .ok (.ret u)=>CE outer P w H s Q u s'
 | .ok _=>False
 | .error e=>CX outer H s E e s'
structure aG (P:Program) (w:World) (K:PySem.W.Frag) (mg:Str->Option Value) (base:Heap) (CX:nj) (k:Nat) (f:Addr) (fd:FuncData) (ps:List Str) (sp:Sp):Prop where
 len:∀ vs H Q E,sp vs H Q E->vs.length=ps.length
 run:∀ (A:Around) (outer:List Env) (s:Shared) (H:Hp) (args:Args) (us:List Value) (vs:List V) (Q:VK) (E:XK),Room k A->Env0 P w K mg base A outer s H->BindsTo s fd args (ps.zip us)->Vals vs us->sp vs H Q E->
  codeAny (model P w) A (.call (.ref f) args) (CR CX outer P w H s Q E) s
theorem Env0.make {P:Program} {w:World} {K:PySem.W.Frag} {mg:Str->Option Value} {base:Heap} {A:Around} {outer:List Env} {s:Shared} {H:Hp} (e:Env0 P w K mg base A outer s H) (C:Addr) (us:List Value) (kw:List (Str×Value)) :
  Env0 P w K mg base (A.under (.builtin "type.__call__" ⟨.ref C::us,kw⟩)) outer s H:=⟨by first|exact e.frames|(simpa [Around.under,Code.envs,Code.isFrame,pushEnvs] using e.frames),e.mod,e.bs,e.bsz,e.funs,e.frf,e.hok,e.bare⟩
section
variable {X:Cx} {pins:List (Addr×Obj)} {σ:St} {H:Hp} {s s':Shared}
theorem Inv.env0 (I:Inv X pins σ H s):Env0 X.prog X.w X.K X.mg X.base X.A X.stack s H:=
 ⟨I.ok.frames,I.ok.mod,I.bs,Aq I.ok.bsz I.sz,I.stack,I.stkFree,I.hok,I.bare⟩
theorem Inv.after {Q:VK} {u:Value} (I:Inv X pins σ H s) (h:CE X.stack X.prog X.w H s Q u s'):EP X pins σ Q u s':=by
 obtain ⟨v,H',os,bare,un,hok,r,q⟩:=h
 obtain ⟨hh,g,d,t,os'⟩:=s'
 obtain rfl:os'=s.os:=os
 exact ⟨v,H',I.call (h':=hh) (g':=g) (d':=d) (t':=t) (ch:=[]) un hok bare (fun b z=>absurd z (by simp)),r,q⟩
end
def mh (sp:Sp) (dvs:List V) (E:XK) (t:TA):TE:=fun σ H Q=>t σ H fun vs H1=>sp (vs++dvs) H1 Q E
def wC (C:Addr) (sp:Sp) (dvs:List V) (E:XK) (t:TA):TE:=fun σ H Q=>t σ H fun vs H1=>∀ x dx,H1 x=none->H1 dx=none->dx≠x->
 sp (.ref x::(vs++dvs)) (ax (ax H1 dx (.own x)) x (.ins C dx [])) (fun v H2=>v=.non/\Q (.ref x) H2) E
def Binds (K:PySem.W.Frag) (fd:FuncData) (ps:List Str) (ds:List Value):Prop:=
 ∀ (s:Shared) (us:List Value),K.In s.heap->(us++ds).length=ps.length->BindsTo s fd ⟨us,[]⟩ (ps.zip (us++ds))
theorem Binds.all {K:PySem.W.Frag} {fd:FuncData} {ps:List Str} (h:∀ us:List Value,us.length=ps.length->bindArgs fd ⟨us,[]⟩=pure (ps.zip us)):Binds K fd ps []:=fun s us _ hl=>by
 rw [Bd] at hl ⊢
 exact .of_eq (h us hl)
def dv (CX:nj) (X:Cx) (E:XK):Prop:=∀ (pins:List (Addr×Obj)) (σ:St) (H:Hp) (s:Shared) (e:Value) (s':Shared),Inv X pins σ H s->CX X.stack H s E e s'->X.xe e s'
section
variable {X:Cx} {CX:nj} {k:Nat} {f C:Addr} {fd:FuncData} {ps:List Str} {sp:Sp} {dvs:List V} {ds:List Value} {E:XK} {x m:Str} {p pos apos:Pos} {e o:Expr} {es:List Expr} {ta:TE} {t:TA}
theorem i9 {pins:List (Addr×Obj)} {σ:St} {H:Hp} {s:Shared} {Q:VK} {us:List Value} {vs:List V} (F:aG X.prog X.w X.K X.mg X.base CX k f fd ps sp) (hr:Room k X.A) (hb:Binds X.K fd ps ds) (hd:Vals dvs ds) (hx:dv CX X E)
  (I:Inv X pins σ H s) (r:Vals vs us) (h:sp (vs++dvs) H Q E):wpAny (model X.prog X.w) X.A (call (.ref f) us) (EP X pins σ Q) X.xe s:=by
 have r2:Vals (vs++dvs) (us++ds):=r.append hd
 have hl:(us++ds).length=ps.length:=by rw [<-r2.length];exact F.len _ _ _ _ h
 refine wpAny_call (codeAny_mono (F.run X.A X.stack s H ⟨us,[]⟩ (us++ds) (vs++dvs) Q E hr I.env0 (hb s us I.kIn hl) r2 h) fun r s' hq=>?_)
 cases r with
 | error e=>exact hx pins σ H s e s' I hq
 | ok fl=>
  cases fl with
  | ret u=>exact I.after hq
  | next=>exact False.elim hq
  | brk=>exact False.elim hq
  | cont=>exact False.elim hq
theorem qZ (F:aG X.prog X.w X.K X.mg X.base CX k f fd ps sp) (hr:Room k X.A) (hg:Gl X x) (hm:X.mg x=some (.ref f)) (hk:PySem.W.keepIn X.K (.ref f)=true) (hb:Binds X.K fd ps ds) (hd:Vals dvs ds) (hx:dv CX X E)
  (ha:PA X (e::es) t) (hdb:(x == ("__debug__":Str))=false:=by decide) (he:starEach (e::es) X.env=(false,eval e X.env)::starEach es X.env:=by rfl) (hpl:(backTo pos (starEach es X.env)).any (·.1)=false:=by rfl) :
  PE X (.Call (.Name x p) (e::es) [] pos) (mh sp dvs E t):=by
 refine ⟨?_⟩
 intro pins s σ H Q I h
 refine wpAny_Call_Name_kw (dm I hg hm ?_ hdb)
 refine Bt (h₀:=X.base) I.ok.mod.kin hk (bA (ha pos pins s σ H _ I h) fun us s1 ⟨vs,H1,I1,r,q⟩=>⟨I1.kIn,?_⟩) he hpl
 exact i9 F hr hb hd hx I1 r q
theorem oB (F:aG X.prog X.w X.K X.mg X.base CX k f fd ps sp) (hr:Room k X.A) (hg:Gl X x) (hm:X.mg x=some (.ref f)) (hk:PySem.W.keepIn X.K (.ref f)=true) (hb:Binds X.K fd ps ds) (hd:Vals dvs ds) (hx:dv CX X E)
  (hdb:(x == ("__debug__":Str))=false:=by decide):PE X (.Call (.Name x p) [] [] pos) (mh sp dvs E qY):=by
 refine ⟨?_⟩
 intro pins s σ H Q I h
 refine wpAny_Call_Name_kw (dm I hg hm ?_ hdb)
 exact PySem.W.callWith_K0 I.kIn hk (i9 (us:=[]) F hr hb hd hx I .nil h)
structure Mk (K:PySem.W.Frag) (C f:Addr):Prop where
 makes:PySem.W.makesIn K C=true
 init:PySem.W.findIn K (.ref C) "__init__"=some (some (.ref f))
 fn:PySem.W.isFn K (.ref f)=true
 kp:PySem.W.keepIn K (.ref C)=true
theorem oC {pins:List (Addr×Obj)} {σ:St} {H:Hp} {s:Shared} {Q:VK} {us:List Value} {vs:List V} (M:Mk X.K C f) (F:aG X.prog X.w X.K X.mg X.base CX k f fd ps sp) (hr:Room (k+1) X.A) (hb:Binds X.K fd ps ds) (hd:Vals dvs ds)
  (hx:dv CX X E) (I:Inv X pins σ H s) (r:Vals vs us)
  (h:∀ x dx,H x=none->H dx=none->dx≠x->sp (.ref x::(vs++dvs)) (ax (ax H dx (.own x)) x (.ins C dx [])) (fun v H2=>v=.non/\Q (.ref x) H2) E) :
  wpAny (model X.prog X.w) X.A (call (.ref C) us) (EP X pins σ Q) X.xe s:=by
 have hq:=h (s.heap.objs.size+1) s.heap.objs.size (I.hok.fresh (Nat.le_succ _)) (I.hok.fresh (Ao _)) (AM (BD _))
 have I2:=Inv.made (C:=C) I
 have r2:Vals (V.ref (s.heap.objs.size+1)::(vs++dvs)) (Value.ref (s.heap.objs.size+1)::(us++ds)):=.cons rfl (r.append hd)
 have hl:(Value.ref (s.heap.objs.size+1)::us++ds).length=ps.length:=by
  have e:=r2.length
  rw [F.len _ _ _ _ hq] at e
  exact e.symm
 refine wpAny_call (oz (f:=f) I.kIn M.makes M.init (beq_iff_eq.mp M.fn) (codeAny_mono (F.run _ X.stack _ _ ⟨Value.ref (s.heap.objs.size+1)::us,[]⟩ (Value.ref (s.heap.objs.size+1)::(us++ds)) _ _ E (hr.make C us [])
  (I2.env0.make C us []) (hb _ (Value.ref (s.heap.objs.size+1)::us) I2.kIn hl) r2 hq) fun r s' hq'=>?_))
 cases r with
 | error e=>exact hx pins σ _ _ e s' I2 hq'
 | ok fl=>
  cases fl with
  | ret u=>
   obtain ⟨v,H',I3,rv,ev,q3⟩:=I2.after hq'
   subst ev
   exact ⟨rv,⟨V.ref (s.heap.objs.size+1),H',I3,rfl,q3⟩⟩
  | next=>exact False.elim hq'
  | brk=>exact False.elim hq'
  | cont=>exact False.elim hq'
theorem cS (M:Mk X.K C f) (F:aG X.prog X.w X.K X.mg X.base CX k f fd ps sp) (hr:Room (k+1) X.A) (hg:Gl X x) (hm:X.mg x=some (.ref C)) (hb:Binds X.K fd ps ds) (hd:Vals dvs ds) (hx:dv CX X E)
  (ha:PA X (e::es) t) (hdb:(x == ("__debug__":Str))=false:=by decide) (he:starEach (e::es) X.env=(false,eval e X.env)::starEach es X.env:=by rfl) (hpl:(backTo pos (starEach es X.env)).any (·.1)=false:=by rfl) :
  PE X (.Call (.Name x p) (e::es) [] pos) (wC C sp dvs E t):=by
 refine ⟨?_⟩
 intro pins s σ H Q I h
 refine wpAny_Call_Name_kw (dm I hg hm ?_ hdb)
 refine Bt (h₀:=X.base) I.ok.mod.kin M.kp (bA (ha pos pins s σ H _ I h) fun us s1 ⟨vs,H1,I1,r,q⟩=>⟨I1.kIn,?_⟩) he hpl
 exact oC M F hr hb hd hx I1 r q
end
structure ap (N P:List Str) (sc:Scope):Prop where
 kind:sc.kind=.function
 co:sc.isCoroutine=false
 gen:sc.isGenerator=false
 nd:N.Nodup
 pre:N.take P.length=P
 par:∀ x∈P,sc.names.lookup x=some .local\/sc.names.lookup x=some .cell
 nofree:∀ y∈sc.names,y.2≠.free
theorem iz {kindOf:Str->Option NameKind} {x:Str}:∀ {binds:List (Str×Value)} {m:Str->Option Value},(∀ v,(x,v)∉binds)->bindL kindOf binds m x=m x
 | [],_,_=>rfl
 | (n,v)::r,m,h=>by
  unfold bindL
  rw [iz fun w hw=>h w (Av _ hw)]
  split
  ·have:x≠n:=by rintro rfl;exact h v AC
   simp [this]
  ·rfl
theorem iA {kindOf:Str->Option NameKind} {x:Str}:∀ {binds:List (Str×Value)} {m:Str->Option Value},(∀ v,(x,v)∉binds)->bindC kindOf binds m x=m x
 | [],_,_=>rfl
 | (n,v)::r,m,h=>by
  unfold bindC
  rw [iA fun w hw=>h w (Av _ hw)]
  split
  ·rfl
  ·have:x≠n:=by rintro rfl;exact h v AC
   simp [this]
theorem iB {kindOf:Str->Option NameKind} {x:Str} {v:Value}:∀ {P:List Str} {vs:List Value} {i:Nat} {m:Str->Option Value},P.Nodup->P[i]?=some x->vs[i]?=some v->kindOf x=some .local->
  bindL kindOf (P.zip vs) m x=some v
 | [],_,_,_,_,h,_,_=>by simp at h
 | _::_,[],_,_,_,_,h,_=>by simp at h
 | p::P,w::vs,0,m,nd,h1,h2,hk=>by
  simp at h1 h2;subst h1;subst h2
  show bindL kindOf ((p,w)::P.zip vs) m p=_
  unfold bindL
  rw [iz fun v hv=>(BH.mp nd).1 (List.of_mem_zip hv).1,if_pos hk]
  simp
 | p::P,w::vs,i+1,m,nd,h1,h2,hk=>by
  show bindL kindOf ((p,w)::P.zip vs) m x=_
  unfold bindL
  exact iB (i:=i) (BH.mp nd).2 (by simpa using h1) (by simpa using h2) hk
theorem iC {kindOf:Str->Option NameKind} {x:Str} {v:Value}:∀ {P:List Str} {vs:List Value} {i:Nat} {m:Str->Option Value},P.Nodup->P[i]?=some x->vs[i]?=some v->kindOf x≠some .local->
  bindC kindOf (P.zip vs) m x=some v
 | [],_,_,_,_,h,_,_=>by simp at h
 | _::_,[],_,_,_,_,h,_=>by simp at h
 | p::P,w::vs,0,m,nd,h1,h2,hk=>by
  simp at h1 h2;subst h1;subst h2
  show bindC kindOf ((p,w)::P.zip vs) m p=_
  unfold bindC
  rw [iA fun v hv=>(BH.mp nd).1 (List.of_mem_zip hv).1,if_neg hk]
  simp
 | p::P,w::vs,i+1,m,nd,h1,h2,hk=>by
  show bindC kindOf ((p,w)::P.zip vs) m x=_
  unfold bindC
  exact iC (i:=i) (BH.mp nd).2 (by simpa using h1) (by simpa using h2) hk
def fj (N:List Str) (vs:List V):St:=vs.map some++List.replicate (N.length - vs.length) none
def ja (CX:nj) (P:Program) (w:World) (K:PySem.W.Frag) (mg:Str->Option Value) (base:Heap) (N:List Str) (qual:Str) (scope:Scope) (f:Addr) (cd:Value) (A:Around) (outer:List Env) (s:Shared) (H:Hp) (E:XK):Cx where
 prog:=P
 w:=w
 K:=K
 mg:=mg
 base:=base
 A:=A.deeper (envOfC qual scope s.heap.objs.size f cd)
 N:=N
 s₀:=s
 H₀:=H
 env:=envOfC qual scope s.heap.objs.size f cd
 outer:=outer
 stack:=envOfC qual scope s.heap.objs.size f cd::outer
 ex:=[]
 calm:=true
 fn:=fun _=>true
 pn:=[]
 xe:=fun e s'=>wpAny (model P w) (A.deeper (envOfC qual scope s.heap.objs.size f cd)) (leaving (envOfC qual scope s.heap.objs.size f cd) e) (fun _ s''=>CX outer H s E e s'') (fun e' s''=>CX outer H s E e' s'') s'
theorem j1 {sc:Scope} {n:Nat} {x:Str} (h:sc.names.lookup x=some .cell):∃ c,(cellsFrom n sc.names []).lookup x=some c:=by
 have q:=PySem.W.cellsFrom_some sc.names n [] (.inl h)
 exact Option.isSome_iff_exists.mp q
theorem nu {CX:nj} {P:Program} {w:World} {K:PySem.W.Frag} {mg:Str->Option Value} {base:Heap} {N ps:List Str} {qual:Str} {scope:Scope} {f:Addr} {cd:Value} {A:Around} {outer:List Env} {s s1:Shared} {H:Hp} {E:XK} {us:List Value} {vs:List V}
  (S:ap N ps scope) (hd:A.handled=none) (e0:Env0 P w K mg base A outer s H) (hl:vs.length=ps.length) (r:Vals vs us)
  (x:InCallC s s.heap.objs.size (bindL (envOfC qual scope s.heap.objs.size f cd).kindOf (ps.zip us) fun _=>none) (cellsFrom (s.heap.objs.size+1) scope.names []) (bindC (envOfC qual scope s.heap.objs.size f cd).kindOf (ps.zip us) fun _=>none) s1) :
  Inv (ja CX P w K mg base N qual scope f cd A outer s H E) [] (fj N vs) H s1:=by
 have hpl:ps.length<=N.length:=by have:=congrArg List.length S.pre;rw [AH] at this;omega
 obtain ⟨h1,tk,rfl,hk⟩:=x.done
 have noA:∀ b:Addr,b∉(ja CX P w K mg base N qual scope f cd A outer s H E).ex:=fun b z=>absurd (show b∈([]:List Addr) from z) (by simp)
 refine ⟨⟨e0.mod,S.kind,rfl,rfl,Ao _,fun y z c h1 h2=>?_,fun y hy=>?_,fun y c _ h=>?_,fun _=>hd,Around.frames_deeper e0.frames,.inr ⟨rfl,rfl⟩,fun b z=>absurd z (noA b),e0.bs,e0.bsz,fun b _ _=>noA b,fun b z=>absurd z (noA b),e0.funs,e0.frf⟩,
  rfl,e0.bare,Un.kept hk,⟨_,x.toInCall.ns,fun i y v h1 h2 h3=>?_⟩,fun y c h=>⟨_,x.cell y c h⟩,e0.hok.fresh (Ao _),fun y c h=>?_,fun p hp=>absurd (show p∈([]:List (Addr×Obj)) from hp) (by simp),e0.hok.kept hk,?_⟩
 ·exact name_of_addr x.apart (Br h1) (Br h2)
 ·have hy:scope.names.lookup y=some .cell\/scope.names.lookup y=some .free:=hy
  rcases hy with hy|hy
  ·exact j1 hy
  ·exact absurd rfl (S.nofree _ (Br hy))
 ·exact Nat.le_of_lt (x.above y c (Br h))
 ·have hi:i < vs.length:=by
   unfold fj at h2
   by_cases hi:i < vs.length
   ·exact hi
   ·rw [List.getElem?_append_right (by simpa using hi)] at h2
    rw [List.getElem?_replicate] at h2
    split at h2<;>cases h2
  have ha:vs[i]?=some v:=by
   unfold fj at h2
   rw [A2 (by simpa using hi),Bp] at h2
   cases e:vs[i]? with
   | none=>rw [e] at h2;cases h2
   | some a=>rw [e] at h2;cases h2;rfl
  obtain ⟨u,hu,rv⟩:=r.get ha
  have hp:ps[i]?=some y:=by
   rw [<-S.pre,List.getElem?_take_of_lt (by omega)];exact h1
  have ndP:ps.Nodup:=by rw [<-S.pre];exact S.nd.sublist (List.take_sublist _ _)
  refine ⟨u,rv,?_⟩
  rcases S.par y (AZ hp) with k|k
  ·exact .inl ⟨k,iB ndP hp hu k⟩
  ·obtain ⟨c,e⟩:=j1 (n:=s.heap.objs.size+1) k
   refine .inr ⟨.inl k,c,e,?_⟩
   have q:=x.cell y c e
   rw [iC ndP hp hu (by show scope.names.lookup y≠_;rw [k];decide)] at q
   exact q
 ·exact e0.hok.fresh (Nat.le_of_lt (x.above y c (Br h)))
 ·unfold fj
  show _=N.length
  rw [Ah,Aj,AW]
  omega
theorem tT {CX:nj} {P:Program} {w:World} {K:PySem.W.Frag} {mg:Str->Option Value} {base:Heap} {k:Nat} {f:Addr} {name qual:Str} {params:Arguments} {body:List Stmt} {scope:Scope} {dV kV doc pm cdv ct oc:Value} {an od:Option Addr}
  {osl:Array (Option Value)} {N ps:List Str} {sp:Sp} (lk:K.lookup f=some ⟨oc,od,.func (PySem.W.fnOf name qual params body scope dV kV doc pm an cdv ct),osl⟩) (hcd:PySem.W.codeIn K cdv qual=true) (S:ap N ps scope)
  (len:∀ vs H Q E,sp vs H Q E->vs.length=ps.length)
  (hbody:∀ (A:Around) (outer:List Env) (s:Shared) (H:Hp) (vs:List V) (Q:VK) (E:XK),Room k (A.deeper (envOfC qual scope s.heap.objs.size f cdv))->sp vs H Q E->
   ∃ t,PSs (ja CX P w K mg base N qual scope f cdv A outer s H E) body t/\t { nx:=fun _ H'=>Q .non H',rt:=Q } (fj N vs) H) :
  aG P w K mg base CX (k+1) f (PySem.W.fnOf name qual params body scope dV kV doc pm an cdv ct) ps sp:=by
 refine ⟨len,fun A outer s H args us vs Q E hr e0 hb r hsp=>?_⟩
 have hl:=len _ _ _ _ hsp
 have KX:K.In s.heap:=e0.mod.kin.keeps fun b o e=>(e0.bs b o e).1
 have lim:s.heap.NoLimit:=e0.mod.nolimit.keeps fun b o e=>(e0.bs b o e).1
 have hkind:∀ y∈ps.zip us,scope.names.lookup y.1=some .local\/(scope.names.lookup y.1=some .cell/\((cellsFrom (s.heap.objs.size+1) scope.names []).lookup y.1).isSome=true):=fun ⟨n,v⟩ hy=>by
  rcases S.par n (List.of_mem_zip hy).1 with q|q
  ·exact .inl q
  ·exact .inr ⟨q,PySem.W.cellsFrom_some _ _ _ (.inl q)⟩
 refine codeAny_call_function hr.depth (KX _ _ lk) rfl S.co S.gen rfl (PySem.W.codeRec_of KX hcd) (hb _ _ _ _ ?_)
 refine wpAny_newFunctionEnv_cells S.kind hkind fun env he s1 x=>?_
 subst he
 refine ⟨lim.keeps x.toInCall.keep,codeAny_func ?_⟩
 obtain ⟨t,ht,hq⟩:=hbody A outer s H vs Q E (hr.deeper _) hsp
 have I:Inv (ja CX P w K mg base N qual scope f cdv A outer s H E) [] (fj N vs) H s1:=nu S hr.hd e0 hl r x
 refine wpAny_mono (ht [] s1 (fj N vs) H _ I hq) (fun fl s' hs=>?_) fun e s' hs=>hs
 have fin:∀ {σ':St} {H':Hp} {v:V} {u:Value},Inv (ja CX P w K mg base N qual scope f cdv A outer s H E) [] σ' H' s'->RelV v u->Q v H'->CE outer P w H s Q u s':=
  fun {σ' H' v u} J rv q=>⟨v,H',J.os,J.bare,J.base,J.hok,rv,q⟩
 cases fl with
 | ret u=>
  obtain ⟨v,σ',H',J,rv,q⟩:=hs
  exact fin J rv q
 | next=>
  obtain ⟨σ',H',J,q⟩:=hs
  exact fin (v:=V.non) (u:=Value.none) J rfl q
 | brk=>
  obtain ⟨_,_,_,q⟩:=hs
  exact False.elim q
 | cont=>
  obtain ⟨_,_,_,q⟩:=hs
  exact False.elim q
end L2
namespace L2
open PySem PySem.Spec PyProof.Rows
section
variable {X:Cx} {x:Str} {p pos:Pos} {e:Expr} {es:List Expr} {t:TA} {id T:String} {r:List V->Hp->VK->Prop}
def zR (r:List V->Hp->VK->Prop) (t:TA):TE:=fun σ H Q=>t σ H fun vs H1=>r vs H1 Q
theorem aH (hc:cu X (.builtin id) r) (hg:Gl X x) (hm:X.mg x=none) (hv:bootBuiltins x=some (.builtin id)) (ha:PA X (e::es) t) (hn:x≠"__name__":=by decide) (hdb:(x == ("__debug__":Str))=false:=by decide)
  (he:starEach (e::es) X.env=(false,eval e X.env)::starEach es X.env:=by rfl) (hpl:(backTo pos (starEach es X.env)).any (·.1)=false:=by rfl):PE X (.Call (.Name x p) (e::es) [] pos) (zR r t):=by
 refine ⟨?_⟩
 intro pins s σ H Q I h
 refine wpAny_Call_Name_kw (gF I hg hm hv ?_ hn hdb)
 exact PyProof.Rows.callWith_builtin1 (bA (ha pos pins s σ H _ I h) fun us s1 ⟨vs,H1,I1,r1,q1⟩=>hc pins s1 σ H1 vs us Q I1 r1 q1) he hpl
theorem aZ (hc:cu X (.type T) r) (hg:Gl X x) (hm:X.mg x=none) (hv:bootBuiltins x=some (.type T)) (ha:PA X (e::es) t) (hn:x≠"__name__":=by decide) (hdb:(x == ("__debug__":Str))=false:=by decide)
  (he:starEach (e::es) X.env=(false,eval e X.env)::starEach es X.env:=by rfl) (hpl:(backTo pos (starEach es X.env)).any (·.1)=false:=by rfl):PE X (.Call (.Name x p) (e::es) [] pos) (zR r t):=by
 refine ⟨?_⟩
 intro pins s σ H Q I h
 refine wpAny_Call_Name_kw (gF I hg hm hv ?_ hn hdb)
 exact Bx (bA (ha pos pins s σ H _ I h) fun us s1 ⟨vs,H1,I1,r1,q1⟩=>hc pins s1 σ H1 vs us Q I1 r1 q1) he hpl
end
end L2
namespace HT
open PySem PyProof.Rows
section
open PySem.SeqAt
open PySem.AutoSeq1 (wpAny_loadPart')
open PySem.MeetsSeq PySem.MeetsSeq2 PySem.MeetsSeq3
end
section
variable {prog:Program} {w:World} {A:Around} {E:Value->Shared->Prop} {s:Shared}
def sIx (n d:Nat):Option Int->Nat
 | none=>d
 | some v=>if v < 0 then (v+(n:Int)).toNat else min v.toNat n
theorem sIx_le (n d:Nat) (hd:d<=n) (o:Option Int):sIx n d o<=n:=by
 cases o with
 | none=>exact hd
 | some v=>
  show (if v < 0 then (v+(n:Int)).toNat else min v.toNat n)<=n
  by_cases hv:v < 0
  ·rw [if_pos hv];omega
  ·rw [if_neg hv];exact Nat.min_le_right _ _
theorem clip_eq (v:Int) (n d:Nat):(if v < 0 then max (v+(n:Int)) 0 else min v (n:Int))=((sIx n d (some v):Nat):Int):=by
 show (if v < 0 then max (v+(n:Int)) 0 else min v (n:Int))=(((if v < 0 then (v+(n:Int)).toNat else min v.toNat n):Nat):Int)
 by_cases hv:v < 0
 ·simp only [if_pos hv];omega
 ·simp only [if_neg hv];omega
theorem adjust_gen (lo hi:Option Int) (n:Nat):Builtin.Slice.sliceAdjust lo hi 1 (n:Int)=(((sIx n 0 lo:Nat):Int),((sIx n n hi:Nat):Int)):=by
 have h1:¬ ((1:Int) < 0):=by omega
 unfold Builtin.Slice.sliceAdjust
 simp only [h1,if_false]
 refine Prod.ext ?_ ?_
 ·cases lo with
  | none=>rfl
  | some v=>exact clip_eq v n 0
 ·cases hi with
  | none=>rfl
  | some v=>exact clip_eq v n n
theorem places_gen (i j:Nat):Builtin.Slice.slicePlaces (i:Int) (j:Int) 1=j - i:=by
 unfold Builtin.Slice.slicePlaces
 have h1:(1:Int) > 0:=by omega
 simp only [h1,if_true,Int.ediv_one]
 split<;>omega
theorem slicePart_ {v:Value} {o:Option Int} {Q:Option Int->Shared->Prop} (p:IsPart v o) (h:Q o s):wpAny (model prog w) A (Builtin.Slice.slicePartIndex v) Q E s:=by
 cases p with
 | none=>exact slicePart_none h
 | int i t=>exact slicePart_int h
theorem sliceApplied_gen {sl:Addr} {vl vu:Value} {lo hi:Option Int} {n:Nat} {Q:Int×Int×Nat->Shared->Prop} (hs:s.heap.IsSliceOf sl vl vu .none) (pl:IsPart vl lo) (pu:IsPart vu hi)
  (h:Q (((sIx n 0 lo:Nat):Int),1,sIx n n hi - sIx n 0 lo) s):wpAny (model prog w) A (Builtin.Slice.sliceApplied (.ref sl) (pure (n:Int))) Q E s:=by
 obtain ⟨os,hos,hcs,hds⟩:=id hs
 unfold Builtin.Slice.sliceApplied Builtin.Slice.sliceFields
 refine wpAny_bind (wpAny_bind (wpAny_field hos hds (x:=vl) rfl (wpAny_bind (wpAny_field hos hds (x:=vu) rfl (wpAny_bind (wpAny_field hos hds (x:=.none) rfl (wpAny_pure ?_)))))))
 refine wpAny_bind (slicePart_none ?_)
 show wpAny _ _ (if ((1:Int) == 0)=true then _ else _) _ _ s
 rw [if_neg (by decide)]
 refine wpAny_bind (slicePart_ pl (wpAny_bind (slicePart_ pu (wpAny_bind (wpAny_pure ?_)))))
 show wpAny _ _ (match Builtin.Slice.sliceAdjust lo hi 1 (n:Int) with|(lo,hi)=>pure (lo,(1:Int),Builtin.Slice.slicePlaces lo hi 1)) _ _ s
 rw [adjust_gen lo hi n]
 show wpAny _ _ (pure (((sIx n 0 lo:Nat):Int),(1:Int),Builtin.Slice.slicePlaces ((sIx n 0 lo:Nat):Int) ((sIx n n hi:Nat):Int) 1)) _ _ s
 rw [places_gen]
 exact wpAny_pure h
theorem pick_gen (xs:Array Value) (i k:Nat):((List.range k).filterMap fun (m:Nat)=>xs[((i:Int)+(m:Int)*1).toNat]?).toArray=((xs.toList.drop i).take k).toArray:=by
 have e:(fun (m:Nat)=>xs[((i:Int)+(m:Int)*1).toNat]?)=fun m=>xs[i+m]?:=by
  funext m
  have:((i:Int)+(m:Int)*1).toNat=i+m:=by omega
  rw [this]
 rw [e]
 have:=pick_run xs i k
 rw [List.filterMap_map] at this
 have e2:((fun x=>xs[x]?) ∘ fun x=>i+x)=fun m=>xs[i+m]?:=rfl
 rw [e2] at this
 rw [this]
theorem getItem_tuple_cut {t sl:Addr} {items:Array Value} {vl vu:Value} {lo hi:Option Int} {Q:Value->Shared->Prop} (ht:IsTup s.heap t items) (hs:s.heap.IsSliceOf sl vl vu .none) (pl:IsPart vl lo) (pu:IsPart vu hi)
  (hw:¬ (sIx items.size 0 lo=0/\sIx items.size items.size hi=items.size))
  (h:Q (.ref s.heap.objs.size) { s with heap:=s.heap.push { cls:=.type "tuple",data:=.seq ((items.toList.drop (sIx items.size 0 lo)).take (sIx items.size items.size hi - sIx items.size 0 lo)).toArray } })
  (hsz:items.size<=sizeLine):wpAny (model prog w) A (getItem (.ref t) (.ref sl)) Q E s:=by
 have htake:sizeOk (.seq ((items.toList.drop (sIx items.size 0 lo)).take (sIx items.size items.size hi - sIx items.size 0 lo)).toArray):=by
  show ((items.toList.drop (sIx items.size 0 lo)).take (sIx items.size items.size hi - sIx items.size 0 lo)).toArray.size<=sizeLine
  rw [As,AH,A0,BA]
  omega
 have hj:sIx items.size items.size hi<=items.size:=sIx_le _ _ (Ao _) hi
 obtain ⟨os,hos,hcs,hds⟩:=id hs
 have hTs:s.TypeIs (.ref sl) "slice":=⟨os,hos,hcs⟩
 unfold getItem
 try with_reducible refine wpAny_holding ?_
 first|refine wpAny_bind (wpAny_pure ?_)|skip
 refine wpAny_bind (wpAny_sequenceKey ht.typeIs (by decide) ?_)
 refine wpAny_bind (wpAny_callSpecial?_slot (name:=Str.ofString "__getitem__") ht.typeIs PyProof.Rows.slot_tuple_getitem
  (wpAny_call_entry PyProof.Rows.slot_tuple_getitem ht.typeIs entry_tuple_getitem ?_ (args_tuple_getitem _ _)))
 show wpAny _ _ (Builtin.Tuple.tupleItemsOf (.ref t) >>= _) _ _ s
 refine wpAny_bind (tupleItemsOf_ ht ?_)
 refine wpAny_bind (wpAny_typeOf hTs ?_)
 rw [if_pos (by decide)]
 refine wpAny_bind (sliceApplied_gen hs pl pu ?_)
 have hno:¬ ((((sIx items.size 0 lo:Nat):Int) == 0 && (1:Int) == 1 && (sIx items.size items.size hi - sIx items.size 0 lo) == items.size)=true):=by
  intro q
  rw [AU,AU] at q
  have q1:((sIx items.size 0 lo:Nat):Int)=0:=eq_of_beq q.1.1
  have q2:sIx items.size items.size hi - sIx items.size 0 lo=items.size:=eq_of_beq q.2
  exact hw ⟨by omega,by omega⟩
 show wpAny _ _ (if (((sIx items.size 0 lo:Nat):Int) == 0 && (1:Int) == 1 && (sIx items.size items.size hi - sIx items.size 0 lo) == items.size)=true then _ else _) _ _ s
 rw [if_neg hno,pick_gen]
 first
  | exact wpAny_bind (m:=Builtin.Tuple.tupleExact _) (wpAny_newObj_type (wpAny_pure ⟨_,rfl,wpAny_pure h⟩) htake)
  | exact wpAny_bind (m:=Builtin.Tuple.tupleExact _) (wpAny_newObj_type (wpAny_bind (wpAny_pure (wpAny_pure ⟨_,rfl,wpAny_pure h⟩))) htake)
  | exact wpAny_bind (wpAny_bind (m:=Builtin.Tuple.tupleExact _) (wpAny_newObj_type (wpAny_pure (wpAny_pure ⟨_,rfl,wpAny_pure h⟩)) htake))
  | exact wpAny_bind (wpAny_bind (m:=Builtin.Tuple.tupleExact _) (wpAny_newObj_type (wpAny_pure ⟨_,rfl,wpAny_pure h⟩) htake))
end
end HT
namespace L2
open PySem PySem.Spec PyProof.Rows
abbrev TO:=St->Hp->(Option Int->Hp->Prop)->Prop
structure PO (X:Cx) (e:Option Expr) (t:TO):Prop where
 run:∀ (pins:List (Addr×Obj)) (s:Shared) (σ:St) (H:Hp) (Q:Option Int->Hp->Prop),Inv X pins σ H s->t σ H Q->
  wpAny (model X.prog X.w) X.A (evalPart e X.env) (fun u s'=>∃ o H',Inv X pins σ H' s'/\IsPart u o/\Q o H') X.xe s
instance {X:Cx} {e:Option Expr} {t:TO}:CoeFun (PO X e t) fun _=>∀ (pins:List (Addr×Obj)) (s:Shared) (σ:St) (H:Hp) (Q:Option Int->Hp->Prop),Inv X pins σ H s->t σ H Q->
  wpAny (model X.prog X.w) X.A (evalPart e X.env) (fun u s'=>∃ o H',Inv X pins σ H' s'/\IsPart u o/\Q o H') X.xe s:=⟨PO.run⟩
def rc:TO:=fun _ H Q=>Q none H
inductive oE (Q:Option Int->Hp->Prop) (x:V) (H1:Hp):Prop
 | mk (i:_):x=.int i->Q (some i) H1->oE Q x H1
def wD (t:TE):TO:=fun σ H Q=>t σ H fun x H1=>oE Q x H1
section
variable {X:Cx} {e:Expr} {te:TE} {lo hi:Option Expr} {tl th:TO} {pos p2:Pos}
theorem cx:PO X none rc:=by
 refine ⟨?_⟩
 intro pins s σ H Q I h
 rw [evalPart_none]
 exact wpAny_pure ⟨none,H,I,.none,h⟩
theorem bX (h:PE X e te):PO X (some e) (wD te):=by
 refine ⟨?_⟩
 intro pins s σ H Q I hw
 rw [evalPart_some]
 refine bA (h pins s σ H _ I hw) fun u s1 ⟨x,H1,I1,r1,q1⟩=>?_
 obtain ⟨i,rfl,q⟩:=q1
 obtain ⟨t,rfl⟩:=r1
 exact ⟨some i,H1,I1,.int i t,q⟩
def ym (X:Cx) (r:V->Option Int->Option Int->Hp->VK->Prop):Prop:=
 ∀ (pins:List (Addr×Obj)) (s:Shared) (σ:St) (H:Hp) (x:V) (v vl vu:Value) (lo hi:Option Int) (sl:Addr) (Q:VK),Inv X pins σ H s->RelV x v->s.heap.IsSliceOf sl vl vu .none->IsPart vl lo->IsPart vu hi->r x lo hi H Q->
  ∃ T id,typeLookup (.type T) "__getitem__"=pure (some (.builtin id))/\s.TypeIs v T/\wpAny (model X.prog X.w) X.A (getItem v (.ref sl)) (EP X pins σ Q) X.xe s
def z6 (r:V->Option Int->Option Int->Hp->VK->Prop) (te:TE) (tl th:TO):TE:=fun σ H Q=>te σ H fun x H1=>tl σ H1 fun l H2=>th σ H2 fun u H3=>r x l u H3 Q
theorem bQ {r:V->Option Int->Option Int->Hp->VK->Prop} (hr:ym X r) (he:PE X e te) (hl:PO X lo tl) (hu:PO X hi th):PE X (.Subscript e (.Slice lo hi none p2) pos) (z6 r te tl th):=by
 refine ⟨?_⟩
 intro pins s σ H Q I h
 refine Subscript_ (bA (he pins s σ H _ I h) fun v s1 ⟨x,H1,I1,r1,q1⟩=>?_)
 refine wpAny_Slice (bA (hl pins s1 σ H1 _ I1 q1) fun vl s2 ⟨l,H2,I2,pl,q2⟩=>bA (hu pins s2 σ H2 _ I2 q2) fun vu s3 ⟨u,H3,I3,pu,q3⟩=>?_)
 rw [evalPart_none]
 refine wpAny_pure ?_
 have I4:Inv X pins σ H3 { s3 with heap:=s3.heap.push { cls:=.type "slice",data:=.fields #[vl,vu,.none] } }:=I3.kept (t':=s3.toks) fun b ob q=>Al _ q
 obtain ⟨T,id,hT,ht,hg⟩:=hr pins { s3 with heap:=s3.heap.push { cls:=.type "slice",data:=.fields #[vl,vu,.none] } } σ H3 x v vl vu l u s3.heap.objs.size Q I4 r1 (Heap.IsSliceOf.new ..) pl pu q3
 show wpAny (model X.prog X.w) X.A (subscriptTail e (.Slice lo hi none p2) v (.ref s3.heap.objs.size)) (EP X pins σ Q) X.xe { s3 with heap:=s3.heap.push { cls:=.type "slice",data:=.fields #[vl,vu,.none] } }
 exact tail_any (ops:=[.ref s3.heap.objs.size,v]) ht hT hg (by with_unfolding_all rfl)
def eG (xs:List V) (lo hi:Option Int):List V:=(xs.drop (HT.sIx xs.length 0 lo)).take (HT.sIx xs.length xs.length hi - HT.sIx xs.length 0 lo)
theorem gi (xs:List V) (lo hi:Option Int):(eG xs lo hi).length<=xs.length:=by
 unfold eG
 rw [AH,A0]
 omega
inductive wE (K:PySem.W.Frag) (x:V) (lo:Option Int) (hi:Option Int) (H:Hp) (Q:VK):Prop
 | mk (a xs:_):x=.ref a->SqT K H a xs->¬ (HT.sIx xs.length 0 lo=0/\HT.sIx xs.length xs.length hi=xs.length)->(∀ p,H p=none->Q (.ref p) (ax H p (.tup (eG xs lo hi))))->wE K x lo hi H Q
theorem uw:ym X (wE X.K):=by
 intro pins s σ H x v vl vu lo hi sl Q I rx hs pl pu h
 obtain ⟨a,xs,rfl,hx,hw,q⟩:=h
 cases rx
 obtain ⟨its,r,ht,hz⟩:=I.tuple hx
 have hlen:its.toArray.size=xs.length:=by rw [As];exact r.length.symm
 refine ⟨"tuple",_,PyProof.Rows.slot_tuple_getitem.lookup,ht.typeIs,?_⟩
 refine HT.getItem_tuple_cut ht hs pl pu (by rw [hlen];exact hw) ?_ (by rw [hlen];exact hz)
 rw [hlen]
 refine ⟨.ref s.heap.objs.size,_,I.laid (t':=s.toks) (o:=.tup (eG xs lo hi)) (fun b ob q=>Al _ q) (Ao _) ?_,rfl,q _ (I.hok.fresh (Ao _))⟩
 exact ⟨Aq (gi xs lo hi) hz,_,(r.drop (HT.sIx xs.length 0 lo)).take (HT.sIx xs.length xs.length hi - HT.sIx xs.length 0 lo),TupP.new _ _⟩
end
end L2
namespace L2
open PySem PySem.Spec PyProof.Rows
def ux (n:Nat) (i:Int):Option Nat:=if 0<=i then (if i < n then some i.toNat else none) else if -(n:Int)<=i then some (i+n).toNat else none
def jU {α:Type} (xs:List α) (i:Int):Option α:=(ux xs.length i).bind fun j=>xs[j]?
theorem mi {n:Nat} {i:Int} {j:Nat} (h:ux n i=some j):seqIndex? i n=some j/\j < n/\-(n:Int)<=i/\i < n:=by
 unfold ux at h
 by_cases h0:0<=i
 ·rw [if_pos h0] at h
  by_cases h1:i < n
  ·rw [if_pos h1] at h
   have e:i.toNat=j:=A1 h
   exact ⟨by rw [seqIndex_of h0 h1,e],by omega,by omega,h1⟩
  ·rw [if_neg h1] at h;cases h
 ·rw [if_neg h0] at h
  by_cases h1:-(n:Int)<=i
  ·rw [if_pos h1] at h
   have e:(i+n).toNat=j:=A1 h
   exact ⟨by rw [seqIndex_neg (by omega) h1,e],by omega,h1,by omega⟩
  ·rw [if_neg h1] at h;cases h
theorem jb {α:Type} {xs:List α} {i:Int} {v:α} (h:jU xs i=some v):∃ j,seqIndex? i xs.length=some j/\xs[j]?=some v/\j < xs.length/\-(xs.length:Int)<=i/\i < xs.length:=by
 unfold jU at h
 cases e:ux xs.length i with
 | none=>rw [e] at h;cases h
 | some j=>
  rw [e] at h
  obtain ⟨h1,h2,h3,h4⟩:=mi e
  exact ⟨j,h1,h,h2,h3,h4⟩
theorem aK {α:Type} {xs:List α} {j:Nat} {v:α} (h:xs[j]?=some v):jU xs (j:Int)=some v:=by
 have hj:j < xs.length:=(An.mp h).1
 have e:ux xs.length (j:Int)=some j:=by
  unfold ux
  rw [if_pos (by omega),if_pos (by omega)];simp
 unfold jU;rw [e];exact h
def re (b:Expr):Prop:=∀ o i,subscripted b false o i=operate [o,i] (getItem o i)
def yn (X:Cx) (r:R2):Prop:=
 ∀ (value slice:Expr) (pins:List (Addr×Obj)) (s:Shared) (σ:St) (H:Hp) (x y:V) (v u:Value) (Q:VK),Inv X pins σ H s->RelV x v->RelV y u->r x y H Q->
  subscripted slice false v u=operate [v,u] (getItem v u)->wpAny (model X.prog X.w) X.A (subscriptTail value slice v u) (EP X pins σ Q) X.xe s
def uy (X:Cx) (id:String) (r:V->List V->Hp->VK->Prop):Prop:=
 ∀ (pins:List (Addr×Obj)) (s:Shared) (σ:St) (H:Hp) (x:V) (xs:List V) (v:Value) (us:List Value) (Q:VK),Inv X pins σ H s->RelV x v->Vals xs us->r x xs H Q->
  wpAny (model X.prog X.w) X.A (call (.builtin id) (v::us)) (EP X pins σ Q) X.xe s
section
variable {X:Cx} {a b:Expr} {ta tb:TE} {pos:Pos}
theorem aq {r:R2} (hr:yn X r) (ha:PE X a ta) (hb:PE X b tb) (hs:re b):PE X (.Subscript a b pos) (yl r ta tb):=by
 refine ⟨?_⟩
 intro pins s σ H Q I h
 exact Subscript_ (ut ha hb I h fun v u s2 x y H2 I2 rx ry q=>hr a b pins s2 σ H2 x y v u Q I2 rx ry q (hs _ _))
inductive wF (K:PySem.W.Frag) (x:V) (y:V) (H:Hp) (Q:VK):Prop
 | mk (p xs i v:_):x=.ref p->y=.int i->SqL K H p xs->jU xs i=some v->Q v H->wF K x y H Q
inductive wG (K:PySem.W.Frag) (x:V) (y:V) (H:Hp) (Q:VK):Prop
 | mk (p xs i v:_):x=.ref p->y=.int i->SqT K H p xs->jU xs i=some v->Q v H->wG K x y H Q
inductive wH (x:V) (y:V) (H:Hp) (Q:VK):Prop
 | mk (z i c:_):x=.str z->y=.int i->z.length<=sizeLine->jU z.cps.toList i=some c->Q (.str ⟨#[c]⟩) H->wH x y H Q
theorem aC:yn X (wF X.K):=by
 intro value slice pins s σ H x y v u Q I rx ry h hs
 obtain ⟨p,xs,i,z,rfl,rfl,hq,he,q⟩:=h
 cases rx
 obtain ⟨t,rfl⟩:=ry
 obtain ⟨its,r,pl,hz⟩:=I.list hq
 obtain ⟨j,h1,h2,h3,h4,h5⟩:=jb he
 obtain ⟨w,ew,rw'⟩:=r.get h2
 have hl:=r.length
 have hn:=eU
 have fin:EP X pins σ Q w s:=⟨z,H,I,rw',q⟩
 by_cases h0:0<=i
 ·have hj:i.toNat=j:=by
   rw [seqIndex_of h0 h5] at h1
   exact A1 h1
  exact item_listR pl.isList h0 (by omega) (by rw [hj];simpa using ew) fin hs
 ·have hj:(i+(its.toArray.size:Int)).toNat=j:=by
   rw [seqIndex_neg (by omega) h4] at h1
   rw [As,<-hl]
   exact A1 h1
  exact subscriptTail_builtinR (x:=w) pl.isList.typeIs slot_list_getitem.lookup
   (wpAny_getItem_list_neg (Q:=fun r s'=>r=w/\EP X pins σ Q r s') pl.isList (by omega) (by rw [As]<;>omega) (by omega) (by rw [hj];simpa using ew) ⟨rfl,fin⟩) hs
theorem au:yn X (wG X.K):=by
 intro value slice pins s σ H x y v u Q I rx ry h hs
 obtain ⟨p,xs,i,z,rfl,rfl,hq,he,q⟩:=h
 cases rx
 obtain ⟨t,rfl⟩:=ry
 obtain ⟨its,r,pl,hz⟩:=I.tuple hq
 obtain ⟨j,h1,h2,h3,h4,h5⟩:=jb he
 obtain ⟨w,ew,rw'⟩:=r.get h2
 have hl:=r.length
 have hn:=eU
 have fin:EP X pins σ Q w s:=⟨z,H,I,rw',q⟩
 exact subscriptTail_builtinR (x:=w) pl.typeIs slot_tuple_getitem.lookup
  (getItem_tuple (j:=j) (Q:=fun r s'=>r=w/\EP X pins σ Q r s') pl (by omega) (by omega) (by rw [As,<-hl];exact h1) (by simpa using ew) ⟨rfl,fin⟩) hs
theorem uz:yn X wH:=by
 intro value slice pins s σ H x y v u Q I rx ry h hs
 obtain ⟨z,i,c,rfl,rfl,hz,he,q⟩:=h
 obtain ⟨t,rfl⟩:=rx
 obtain ⟨t',rfl⟩:=ry
 obtain ⟨j,h1,h2,h3,h4,h5⟩:=jb he
 have hl:z.cps.toList.length=z.length:=by simp [Str.length]
 rw [hl] at h1 h4 h5
 have hn:=eU
 exact tail_any (typeIs_str s z t) slot_str_getitem.lookup (getItem_str (c:=c) (by
  have e1:decide (i < -(2 ^ 63:Int))=false:=decide_eq_false (by omega)
  have e2:decide (i ≥ 2 ^ 63)=false:=decide_eq_false (by omega)
  rw [e1,e2,Bool.or_false]) (by rw [h1];simpa using h2) ⟨.str ⟨#[c]⟩,H,I.tok _,⟨_,rfl⟩,q⟩) hs
theorem kY (its:List Value) (n j:Nat) (u:Value):Obj.mapSeq (·.setIfInBounds j u) { cls:=.type "list",data:=.seq its.toArray n }={ cls:=.type "list",data:=.seq (its.set j u).toArray n }:=by
 simp [Obj.mapSeq]
theorem Inv.lst {pins:List (Addr×Obj)} {σ:St} {H:Hp} {s:Shared} {p:Addr} {xs:List V} (I:Inv X pins σ H s) (h:H p=some (.lst xs)) :
  ∃ (its:List Value) (n:Nat),Vals xs its/\s.heap.get? p=some { cls:=.type "list",data:=.seq its.toArray n }/\xs.length<=sizeLine:=by
 obtain ⟨z,its,n,r,e⟩:=I.hok p _ h
 exact ⟨its,n,r,e,z⟩
theorem Inv.lstUpd {pins:List (Addr×Obj)} {σ:St} {H:Hp} {s:Shared} {p:Addr} {xs ys:List V} {its its':List Value} {n n':Nat} {f:Obj->Obj} (I:Inv X pins σ H s) (h:H p=some (.lst xs))
  (ho:s.heap.get? p=some { cls:=.type "list",data:=.seq its.toArray n }) (hf:f { cls:=.type "list",data:=.seq its.toArray n }={ cls:=.type "list",data:=.seq its'.toArray n' }) (r:Vals ys its') (hz:ys.length<=sizeLine) (t:Nat) :
  Inv X pins σ (ax H p (.lst ys)) { s with heap:=s.heap.update p f,toks:=t }:=by
 have e:(s.heap.update p f).get? p=some { cls:=.type "list",data:=.seq its'.toArray n' }:=by
  rw [Heap.get?_update_self f ho (by rw [hf]<;>rfl),hf]
 refine I.write (x:=p) (e:=p) (by rw [h];trivial) (.inl rfl) (fun b u hb q=>(Heap.get?_update_other _ _ (Ne.symm hb)).trans q) ⟨_,e⟩ ?_
 exact ⟨hz,its',n',r,e⟩
inductive tU (o:V) (i:V) (v:V) (H:Hp) (Q:Hp->Prop):Prop
 | mk (p xs k j:_):o=.ref p->i=.int k->H p=some (.lst xs)->ux xs.length k=some j->Q (ax H p (.lst (xs.set j v)))->tU o i v H Q
theorem gJ:wt X tU:=by
 intro pins s σ H o i v ov iv u Q I ro ri rv h
 obtain ⟨p,xs,k,j,rfl,rfl,hp,hj,q⟩:=h
 cases ro
 obtain ⟨t,rfl⟩:=ri
 obtain ⟨its,n,r,ho,hz⟩:=I.lst hp
 obtain ⟨h1,h2,h3,h4⟩:=mi hj
 have hl:=r.length
 have hn:=eU
 have I':Inv X pins σ (ax H p (.lst (xs.set j v))) { s with heap:=s.heap.update p (Obj.mapSeq (·.setIfInBounds j u)) }:=
  I.lstUpd hp ho (kY its n j u) (r.set rv j) (by rw [List.length_set];exact hz) s.toks
 by_cases h0:0<=k
 ·have hk:k.toNat=j:=by
   rw [seqIndex_of h0 h4] at h1
   exact A1 h1
  exact PySem.W.ki_setAt ho h0 (by omega) (by rw [As,<-hl];exact h4) (by rw [hk];exact ⟨_,I',q⟩)
 ·have hk:(k+(its.toArray.size:Int)).toNat=j:=by
   rw [seqIndex_neg (by omega) h3] at h1
   rw [As,<-hl]
   exact A1 h1
  exact PySem.W.ki_setBack ho (by omega) (by rw [As,<-hl];exact h3) (by omega) (by rw [hk];exact ⟨_,I',q⟩)
theorem jc (lo hi:Option Int) (n:Nat):(sliceBounds lo hi none n).1=((HT.sIx n 0 lo:Nat):Int)/\(sliceBounds lo hi none n).2.1=((HT.sIx n n hi:Nat):Int)/\(sliceBounds lo hi none n).2.2=1:=by
 refine ⟨?_,?_,rfl⟩
 ·cases lo with
  | none=>simp [sliceBounds,HT.sIx]
  | some i=>
   simp only [sliceBounds,HT.sIx,Option.getD_none,show (1:Int) > 0 by decide,if_true]
   by_cases h:i < 0
   ·simp only [h,if_true]<;>omega
   ·simp only [h,if_false]<;>omega
 ·cases hi with
  | none=>simp [sliceBounds,HT.sIx]
  | some i=>
   simp only [sliceBounds,HT.sIx,Option.getD_none,show (1:Int) > 0 by decide,if_true]
   by_cases h:i < 0
   ·simp only [h,if_true]<;>omega
   ·simp only [h,if_false]<;>omega
theorem ij (its:List Value) (lo hi:Option Int):slicePick its.toArray lo hi none=((its.drop (HT.sIx its.length 0 lo)).take (HT.sIx its.length its.length hi - HT.sIx its.length 0 lo)).toArray:=by
 obtain ⟨h1,h2,h3⟩:=jc lo hi its.toArray.size
 unfold slicePick
 rw [h1,h2,h3]
 simp only [sliceRange_one,pick_run,As]<;>rfl
inductive rf (K:PySem.W.Frag) (x:V) (lo:Option Int) (hi:Option Int) (H:Hp) (Q:VK):Prop
 | mk (a xs:_):x=.ref a->SqL K H a xs->(∀ p,H p=none->Q (.ref p) (ax H p (.lst (eG xs lo hi))))->rf K x lo hi H Q
theorem cU:ym X (rf X.K):=by
 intro pins s σ H x v vl vu lo hi sl Q I rx hs pl pu h
 obtain ⟨a,xs,rfl,hx,q⟩:=h
 cases rx
 obtain ⟨its,r,ht,hz⟩:=I.list hx
 have hlen:=r.length
 refine ⟨"list",_,slot_list_getitem.lookup,ht.isList.typeIs,?_⟩
 refine wpAny_getItem_list_slice ht.isList hs pl pu .none (by simp) ?_ (by rw [As]<;>omega)
 rw [ij,<-hlen]
 refine ⟨.ref s.heap.objs.size,_,I.laid (t':=s.toks) (o:=.lst (eG xs lo hi)) (fun b ob q=>Al _ q) (Ao _) ?_,rfl,q _ (I.hok.fresh (Ao _))⟩
 exact ⟨Aq (gi xs lo hi) hz,_,0,(r.drop (HT.sIx xs.length 0 lo)).take (HT.sIx xs.length xs.length hi - HT.sIx xs.length 0 lo),AB _ rfl⟩
def fk:V->Bool
 | .non=>true
 | .bl _=>true
 | .int _=>true
 | .str _=>true
 | _=>false
def tV:V->V->Bool
 | .non,.non=>true
 | .bl a,.bl b=>a == b
 | .bl a,.int b=>(if a then 1 else 0) == b
 | .int a,.bl b=>a == (if b then 1 else 0)
 | .int a,.int b=>a == b
 | .str a,.str b=>a == b
 | _,_=>false
theorem uA {A:Around} {s:Shared} {y x:V} {u v:Value} (ry:RelV y u) (rx:RelV x v) (fy:fk y=true) (fx:fk x=true):SeqAt.EqAt A s u v (tV y x):=by
 cases y with
 | non=>
  cases ry
  cases x with
  | non=>cases rx;exact SeqAt.EqAt.same _
  | bl b=>cases rx;exact SeqAt.EqAt.none_bool b
  | int b=>obtain ⟨t,rfl⟩:=rx;exact SeqAt.EqAt.none_int b t
  | str b=>obtain ⟨t,rfl⟩:=rx;exact SeqAt.EqAt.none_str b t
  | _=>exact absurd (show false=true from fx) Au
 | bl a=>
  cases ry
  cases x with
  | non=>cases rx;exact SeqAt.EqAt.bool_none a
  | bl b=>cases rx;exact SeqAt.EqAt.bool_bool a b
  | int b=>obtain ⟨t,rfl⟩:=rx;exact SeqAt.EqAt.bool_int a b t
  | str b=>obtain ⟨t,rfl⟩:=rx;exact SeqAt.EqAt.bool_str a b t
  | _=>exact absurd (show false=true from fx) Au
 | int a=>
  obtain ⟨t',rfl⟩:=ry
  cases x with
  | non=>cases rx;exact SeqAt.EqAt.int_none a t'
  | bl b=>cases rx;exact SeqAt.EqAt.int_bool a t' b
  | int b=>obtain ⟨t,rfl⟩:=rx;exact SeqAt.EqAt.int_int a t' b t
  | str b=>obtain ⟨t,rfl⟩:=rx;exact SeqAt.EqAt.int_str a t' b t
  | _=>exact absurd (show false=true from fx) Au
 | str a=>
  obtain ⟨t',rfl⟩:=ry
  cases x with
  | non=>cases rx;exact SeqAt.EqAt.str_none a t'
  | bl b=>cases rx;exact SeqAt.EqAt.str_bool a t' b
  | int b=>obtain ⟨t,rfl⟩:=rx;exact SeqAt.EqAt.str_int a t' b t
  | str b=>obtain ⟨t,rfl⟩:=rx;exact SeqAt.EqAt.str_str a t' b t
  | _=>exact absurd (show false=true from fx) Au
 | _=>exact absurd (show false=true from fy) Au
def kZ (x:V) (u:Value):Bool:=match u with
 | .none=>tV .non x
 | .bool b=>tV (.bl b) x
 | .int i _=>tV (.int i) x
 | .str z _=>tV (.str z) x
 | _=>false
theorem oF {x y:V} {u:Value} (r:RelV y u) (f:fk y=true):kZ x u=tV y x:=by
 cases y with
 | non=>cases r;rfl
 | bl b=>cases r;rfl
 | int i=>obtain ⟨t,rfl⟩:=r;rfl
 | str z=>obtain ⟨t,rfl⟩:=r;rfl
 | _=>exact absurd (show false=true from f) Au
theorem fm {x:V}:∀ {xs:List V} {us:List Value},Vals xs us->xs.all fk=true->us.any (kZ x)=xs.any fun y=>tV y x
 | _,_,.nil,_=>rfl
 | y::xs,u::us,.cons r t,f=>by
  rw [List.all_cons,AU] at f
  rw [BG,BG,oF r f.1,fm t f.2]
theorem dP {A:Around} {s:Shared} {x:V} {v:Value} (rx:RelV x v) (fx:fk x=true):∀ {xs:List V} {us:List Value},Vals xs us->xs.all fk=true->∀ u∈us,SeqAt.EqAt A s u v (kZ x u)
 | _,_,.nil,_=>fun u hu=>by cases hu
 | y::xs,u::us,.cons r t,f=>fun u' hu=>by
  rw [List.all_cons,AU] at f
  rcases AG.mp hu with rfl|hu
  ·rw [oF r f.1];exact uA r rx f.1 fx
  ·exact dP rx fx t f.2 u' hu
def tW (x:V) (xs:List V):Bool:=xs.any fun y=>tV y x
inductive yo (K:PySem.W.Frag) (neg:Bool) (x:V) (y:V) (H:Hp) (Q:VK):Prop
 | mk (p xs:_):y=.ref p->(SqL K H p xs\/SqT K H p xs)->fk x=true->xs.all fk=true->Q (.bl (if neg then !tW x xs else tW x xs)) H->yo K neg x y H Q
theorem df:dG X (compareOp .In) (yo X.K false):=by
 intro pins s σ H x y v u Q I rx ry h
 obtain ⟨p,xs,rfl,hq,fx,fs,q⟩:=h
 cases ry
 rcases hq with hq|hq
 ·obtain ⟨its,r,pl,hz⟩:=I.list hq
  refine SeqAt.in_listAt (kZ x) pl.isList (fun w hw=>dP rx fx r fs w (by simpa using hw)) ⟨.bl _,H,I,rfl,?_⟩
  rw [show its.toArray.any (kZ x)=its.any (kZ x) by simp,fm r fs]
  exact q
 ·obtain ⟨its,r,pl,hz⟩:=I.tuple hq
  refine SeqAt.in_tupleAt (kZ x) pl (fun w hw=>dP rx fx r fs w (by simpa using hw)) ⟨.bl _,H,I,rfl,?_⟩
  rw [show its.toArray.any (kZ x)=its.any (kZ x) by simp,fm r fs]
  exact q
theorem jd:dG X (compareOp .NotIn) (yo X.K true):=by
 intro pins s σ H x y v u Q I rx ry h
 obtain ⟨p,xs,rfl,hq,fx,fs,q⟩:=h
 cases ry
 rcases hq with hq|hq
 ·obtain ⟨its,r,pl,hz⟩:=I.list hq
  refine SeqAt.notIn_listAt (kZ x) pl.isList (fun w hw=>dP rx fx r fs w (by simpa using hw)) ⟨.bl _,H,I,rfl,?_⟩
  rw [show its.toArray.any (kZ x)=its.any (kZ x) by simp,fm r fs]
  exact q
 ·obtain ⟨its,r,pl,hz⟩:=I.tuple hq
  refine SeqAt.notIn_tupleAt (kZ x) pl (fun w hw=>dP rx fx r fs w (by simpa using hw)) ⟨.bl _,H,I,rfl,?_⟩
  rw [show its.toArray.any (kZ x)=its.any (kZ x) by simp,fm r fs]
  exact q
theorem aT:cu X (.builtin "len") (fun xs H Q=>∃ p ys,xs=[.ref p]/\(SqL X.K H p ys\/SqT X.K H p ys)/\Q (.int ys.length) H):=by
 intro pins s σ H xs us Q I r h
 obtain ⟨p,ys,rfl,hq,q⟩:=h
 obtain ⟨u,rfl,rx⟩:=fh r
 cases rx
 have hn:=eU
 rcases hq with hq|hq
 ·obtain ⟨its,r',pl,hz⟩:=I.list hq
  have hlen:=r'.length
  exact Calls.call_len_list pl.isList (by simp only [As]<;>omega) ⟨.int ys.length,H,I.tok _,⟨s.toks+1,by rw [As,hlen]⟩,q⟩
 ·obtain ⟨its,r',pl,hz⟩:=I.tuple hq
  have hlen:=r'.length
  exact len_tuple pl (by simp only [As]<;>omega) ⟨.int ys.length,H,I.tok _,⟨s.toks+1,by rw [As,hlen]⟩,q⟩
theorem dw:cu X (.builtin "len") (fun xs H Q=>∃ z,xs=[.str z]/\z.length<=sizeLine/\Q (.int z.length) H):=by
 intro pins s σ H xs us Q I r h
 obtain ⟨z,rfl,hz,q⟩:=h
 obtain ⟨u,rfl,t,rfl⟩:=fh r
 have hn:=eU
 exact len_str (by omega) ⟨.int z.length,H,I.tok _,⟨_,rfl⟩,q⟩
theorem je:cu X (.type "list") (fun xs H Q=>∃ p ys,xs=[.ref p]/\(SqL X.K H p ys\/SqT X.K H p ys)/\∀ l,H l=none->Q (.ref l) (ax H l (.lst ys))):=by
 intro pins s σ H xs us Q I r h
 obtain ⟨p,ys,rfl,hq,q⟩:=h
 obtain ⟨u,rfl,rx⟩:=fh r
 cases rx
 have fin:∀ (its:List Value),Vals ys its->ys.length<=sizeLine->∀ (h':Heap) (c':Nat),(∀ b o',s.heap.get? b=some o'->h'.get? b=some o')->
   h'.get? s.heap.objs.size=some { cls:=.type "list",dict:=none,data:=.seq its.toArray c',slots:=#[] }->EP X pins σ Q (.ref s.heap.objs.size) { s with heap:=h' }:=fun its r' hz h' c' kp e=>
  ⟨.ref s.heap.objs.size,_,I.laid (t':=s.toks) kp (Ao _) (show ObjOk X.prog X.w _ h' _ (.lst ys) from ⟨hz,its,c',r',e⟩),rfl,q _ (I.hok.fresh (Ao _))⟩
 rcases hq with hq|hq
 ·obtain ⟨its,r',pl,hz⟩:=I.list hq
  have hlen:=r'.length
  obtain ⟨o,ho,hc,n,hd⟩:=pl.isList
  exact call_list_seq p (.inl rfl) ho hc hd (fun h' c' kp e=>fin its r' hz h' c' kp e) (by simp only [As]<;>omega)
 ·obtain ⟨its,r',pl,hz⟩:=I.tuple hq
  have hlen:=r'.length
  obtain ⟨o,ho,hc,n,hd⟩:=pl
  exact call_list_seq p (.inr rfl) ho hc hd (fun h' c' kp e=>fin its r' hz h' c' kp e) (by simp only [As]<;>omega)
theorem bM:cu X (.type "tuple") (fun xs H Q=>∃ p ys,xs=[.ref p]/\((SqL X.K H p ys/\∀ l,H l=none->Q (.ref l) (ax H l (.tup ys)))\/(SqT X.K H p ys/\Q (.ref p) H))):=by
 intro pins s σ H xs us Q I r h
 obtain ⟨p,ys,rfl,h⟩:=h
 obtain ⟨u,rfl,rx⟩:=fh r
 cases rx
 rcases h with ⟨hq,q⟩|⟨hq,q⟩
 ·obtain ⟨its,r',pl,hz⟩:=I.list hq
  have hlen:=r'.length
  refine call_tuple_list pl.isList (fun h' kp=>?_) (by simp only [As]<;>omega)
  have I1:Inv X pins σ H { s with heap:=h' }:=I.kept (t':=s.toks) kp
  have I2:Inv X pins σ (ax H h'.objs.size (.tup ys)) { s with heap:=h'.push { cls:=.type "tuple",data:=.seq its.toArray } }:=
   I1.laid (t':=s.toks) (fun b o e=>Al _ e) (Ao _) (show ObjOk X.prog X.w _ _ _ (.tup ys) from ⟨hz,its,r',TupP.new _ _⟩)
  exact ⟨.ref h'.objs.size,_,I2,rfl,q _ (I1.hok.fresh (Ao _))⟩
 ·obtain ⟨its,r',pl,hz⟩:=I.tuple hq
  exact call_tuple_same pl ⟨.ref p,H,I,rfl,q⟩
def zS (K:PySem.W.Frag) (T:String) (x:V) (H:Hp):Prop:=match x with
 | .str _=>T="str"
 | .int _=>T="int"
 | .ref p=>(T="list"/\∃ xs,SqL K H p xs)\/(T="tuple"/\∃ o,K.lookup p=some o/\o.cls=.type "tuple"/\o.dict=none) ∨
   (T="dict"/\((∃ kvs,H p=some (.dK kvs))\/∃ kvs,H p=some (.dT kvs)))\/(T="set"/\∃ S n,H p=some (.set S n))
 | _=>False
theorem uB {pins:List (Addr×Obj)} {σ:St} {H:Hp} {s:Shared} {T:String} {x:V} {v:Value} (I:Inv X pins σ H s) (r:RelV x v) (ty:zS X.K T x H) :
  s.TypeIs v T/\∀ a,v=.ref a->∃ ob,s.heap.get? a=some ob/\ob.dict=none:=by
 cases x with
 | str z=>
  obtain ⟨t,rfl⟩:=r
  cases (show T="str" from ty)
  exact ⟨typeIs_str s z t,fun _ e=>nomatch e⟩
 | int i=>
  obtain ⟨t,rfl⟩:=r
  cases (show T="int" from ty)
  exact ⟨typeIs_int s i t,fun _ e=>nomatch e⟩
 | ref p=>
  cases r
  rcases ty with ⟨rfl,xs,hq⟩|⟨rfl,o,hk,hc,hd⟩|⟨rfl,hk⟩|⟨rfl,S,n,hk⟩
  ·obtain ⟨its,_,pl,_⟩:=I.list hq
   refine ⟨pl.isList.typeIs,fun a e=>?_⟩
   cases e
   obtain ⟨o,n,e,c,hd,_⟩:=pl
   exact ⟨o,e,hd⟩
  ·refine ⟨⟨o,I.kIn p o hk,hc⟩,fun a e=>?_⟩
   cases e
   exact ⟨o,I.kIn _ o hk,hd⟩
  ·have z:∃ o,s.heap.get? p=some o/\o.ExactDict:=by
    rcases hk with ⟨kvs,hk⟩|⟨kvs,hk⟩
    ·obtain ⟨_,_,_,_,o,_,_,e,ex,_⟩:=I.hok p _ hk
     exact ⟨o,e,ex⟩
    ·obtain ⟨_,_,_,_,o,_,_,e,ex,_⟩:=I.hok p _ hk
     exact ⟨o,e,ex⟩
   obtain ⟨o,e,ex⟩:=z
   refine ⟨⟨o,e,ex.1⟩,fun a e2=>?_⟩
   cases e2
   exact ⟨o,e,ex.2.1⟩
  ·obtain ⟨o,_,_,_,e,ex,_⟩:=I.hok p _ hk
   refine ⟨⟨o,e,ex.1⟩,fun a e2=>?_⟩
   cases e2
   exact ⟨o,e,ex.2.1⟩
 | _=>exact False.elim ty
def yQ (K:PySem.W.Frag) (T:String) (r:V->List V->Hp->VK->Prop) (to:TE) (t:TA):TE:=fun σ H Q=>to σ H fun x H1=>zS K T x H1/\t σ H1 fun xs H2=>r x xs H2 Q
variable {o e:Expr} {es:List Expr} {to:TE} {t:TA} {name:Str} {apos cpos:Pos} {T id:String} {r:V->List V->Hp->VK->Prop}
theorem bq (pa:PlainAttrs T) (slot:Slot T name id) (hty:typeOf (.builtin id)=pure (.type "method_descriptor")) (hm:uy X id r) (ho:PE X o to) (ha:PA X (e::es) t)
  (hbase:attributeBase o name X.env (eval o X.env)=eval o X.env:=by rfl)
  (hfew:((backTo cpos (starEach (e::es) X.env)).all (fun x=>!x.1) && (backToKw cpos (keywordEach [] X.env)).all (fun x=>x.1.isSome)
   && decide ((e::es).length+([]:List Keyword).length+(if ([]:List Keyword).isEmpty then 0 else 1) < 30))=true:=by rfl)
  (hline:(apos.endLine == cpos.line)=true:=by rfl) (hs:starEach (e::es) X.env=(false,eval e X.env)::starEach es X.env:=by rfl) (hplain:(backTo cpos (starEach es X.env)).any (·.1)=false:=by rfl) :
  PE X (.Call (.Attribute o name apos) (e::es) [] cpos) (yQ X.K T r to t):=by
 refine ⟨?_⟩
 intro pins s σ H Q I h
 refine wpAny_Call_method_late hbase hfew hline rfl (bA (ho pins s σ H _ I h) fun v s1 ⟨x,H1,I1,r1,ty,q1⟩=>?_)
 obtain ⟨h1,h2⟩:=uB I1 r1 ty
 refine ⟨T,id,pa,slot,hty,h1,h2,?_⟩
 have hA:=ha cpos pins s1 σ H1 _ I1 q1
 rw [hs] at hA ⊢
 refine Calls.callWith_builtin (by show (false || (backTo cpos (starEach es X.env)).any (·.1))=false;rw [hplain]<;>rfl) (Calls.evalArgs_plain ?_)
 exact bA hA fun us s2 ⟨vs,H2,I2,r2,q2⟩=>hm pins s2 σ H2 x vs v us Q I2 r1 r2 q2
end
end L2
namespace L2
open PySem PySem.Spec PyProof.Rows
def z9 (X:Cx) (id:String) (r:V->List V->Hp->VK->Prop):Prop:=
 ∀ (pins:List (Addr×Obj)) (s:Shared) (σ:St) (H:Hp) (x:V) (xs:List V) (v:Value) (us:List Value) (Q:VK),Inv X pins σ H s->RelV x v->Vals xs us->r x xs H Q->
  wpAny (model X.prog X.w) X.A (call (.builtin id) (v::us)) (EP X pins σ Q) X.xe s
theorem Vals.one:∀ {x:V} {us:List Value},Vals [x] us->∃ u,us=[u]/\RelV x u
 | _,_,.cons r .nil=>⟨_,rfl,r⟩
theorem Vals.rep {xs:List V} {us:List Value} (h:Vals xs us):∀ k:Nat,Vals (List.replicate k xs).flatten (List.replicate k us).flatten
 | 0=>.nil
 | k+1=>by
  rw [List.replicate_succ,List.replicate_succ,Bn,Bn]
  exact Vals.append h (Vals.rep h k)
theorem iD (its:List Value):∀ (k:Nat) (acc:List Value),
  List.foldl (fun x1 x2=>x1++x2) acc.toArray (List.replicate k its.toArray)=(acc++(List.replicate k its).flatten).toArray
 | 0,acc=>by simp
 | k+1,acc=>by
  have e:acc.toArray++its.toArray=(acc++its).toArray:=by simp
  have e2:(acc++its)++(List.replicate k its).flatten=acc++(List.replicate (k+1) its).flatten:=by
   rw [List.replicate_succ,Bn,Az]
  rw [<-e2,<-iD its k (acc++its),<-e,List.replicate_succ,List.foldl_cons]
section
variable {X:Cx} {pins:List (Addr×Obj)} {σ:St} {H:Hp} {s:Shared} {l b:Addr} {xs ys zs:List V}
theorem Inv.lset {its its':List Value} {n:Nat} {f:Array Value->Array Value} {t':Nat} (I:Inv X pins σ H s) (hH:H l=some (.lst xs))
  (e:s.heap.get? l=some { cls:=.type "list",data:=.seq its.toArray n }) (hf:f its.toArray=its'.toArray) (hv:Vals ys its') (hz:ys.length<=sizeLine) :
  Inv X pins σ (ax H l (.lst ys)) { s with heap:=s.heap.update l (Obj.mapSeq f),toks:=t' }:=by
 have q:=PySem.IsL.update e f
 rw [hf] at q
 refine I.write (x:=l) (e:=l) (by rw [hH];exact trivial) (.inl rfl) (fun b' u hb hu=>(Heap.get?_update_other s.heap (Obj.mapSeq f) (Ne.symm hb)).trans hu) ⟨_,q⟩ ?_
 exact ⟨hz,its',_,hv,q⟩
theorem Inv.lnew {its:List Value} {t':Nat} (I:Inv X pins σ H s) (hv:Vals ys its) (hz:ys.length<=sizeLine) :
  Inv X pins σ (ax H s.heap.objs.size (.lst ys)) { s with heap:=s.heap.push { cls:=.type "list",data:=.seq its.toArray },toks:=t' }:=
 I.laid (fun _ _ q=>Al _ q) (Ao _) ⟨hz,its,0,hv,AB _ rfl⟩
theorem Inv.fresh (I:Inv X pins σ H s):H s.heap.objs.size=none:=I.hok.fresh (Ao _)
theorem Inv.lstM (I:Inv X pins σ H s) (hH:H l=some (.lst xs)):xs.length<=sizeLine/\∃ (its:List Value) (n:Nat),Vals xs its/\xs.length=its.length/\s.heap.get? l=some { cls:=.type "list",data:=.seq its.toArray n }:=by
 obtain ⟨z,its,n,r,e⟩:=I.hok l _ hH
 exact ⟨z,its,n,r,r.length,e⟩
theorem oG {n:Nat} (h:n<=sizeLine):Builtin.List.listTooLong n=false:=by
 unfold Builtin.List.listTooLong
 exact decide_eq_false (by omega)
end
section
variable {X:Cx}
inductive mj (x:V) (vs:List V) (H:Hp) (Q:VK):Prop
 | mk (l xs y:_):x=.ref l->vs=[y]->H l=some (.lst xs)->xs.length < sizeLine->Q .non (ax H l (.lst (xs++[y])))->mj x vs H Q
theorem bF:z9 X "list.append" mj:=by
 intro pins s σ H x vs v us Q I rx rv h
 obtain ⟨l,xs,y,rfl,rfl,hH,hz,q⟩:=h
 cases rx
 obtain ⟨u,rfl,ru⟩:=rv.one
 obtain ⟨z,its,n,r,hl,e⟩:=I.lstM hH
 refine call_meets F.slot_list_append ⟨_,e,rfl⟩ F.entry_list_append (F.args_list_append_2 _ _) (PySem.list_append l its.toArray n u (by rw [As];omega)) ⟨e,?_⟩
 refine ⟨.non,_,I.lset (its':=its++[u]) hH e (by simp) (r.append (.cons ru .nil)) ?_,rfl,q⟩
 rw [Ah,List.length_singleton]
 omega
inductive uC (x:V) (y:V) (H:Hp) (Q:VK):Prop
 | mk (l b xs zs:_):x=.ref l->y=.ref b->H l=some (.lst xs)->H b=some (.lst zs)->xs.length+zs.length<=sizeLine->(∀ p,H p=none->Q (.ref p) (ax H p (.lst (xs++zs))))->uC x y H Q
theorem cH:dG X (binaryOp .Add) uC:=by
 intro pins s σ H x y v u Q I rx ry h
 obtain ⟨l,b,xs,zs,rfl,rfl,hH,hB,hz,q⟩:=h
 cases rx
 cases ry
 obtain ⟨z,its,n,r,hl,e⟩:=I.lstM hH
 obtain ⟨z2,its2,n2,r2,hl2,e2⟩:=I.lstM hB
 refine PySem.P.add_list e e2 ?_ (by rw [As,As];omega)
 have ea:its.toArray++its2.toArray=(its++its2).toArray:=by simp
 rw [ea]
 exact ⟨.ref _,_,I.lnew (t':=s.toks) (r.append r2) (by rw [Ah];omega),rfl,q _ I.fresh⟩
inductive wI (x:V) (y:V) (H:Hp) (Q:VK):Prop
 | mk (l k xs:_):x=.ref l->y=.int k->H l=some (.lst xs)->-(2 ^ 63)<=k->k < 2 ^ 63->xs.length*k.toNat<=sizeLine->(∀ p,H p=none->Q (.ref p) (ax H p (.lst (List.replicate k.toNat xs).flatten)))->wI x y H Q
theorem gx {α:Type} (xs:List α) (k:Nat):(List.replicate k xs).flatten.length=k*xs.length:=by
 induction k with
 | zero=>simp
 | succ k ih=>rw [List.replicate_succ,Bn,Ah,ih,Nat.succ_mul,Nat.add_comm]
theorem oH:dG X (binaryOp .Mult) wI:=by
 intro pins s σ H x y v u Q I rx ry h
 obtain ⟨l,k,xs,rfl,rfl,hH,h1,h2,hz,q⟩:=h
 cases rx
 obtain ⟨t,rfl⟩:=ry
 obtain ⟨z,its,n,r,hl,e⟩:=I.lstM hH
 have hlen:its.toArray.size*k.toNat<=sizeLine:=by rw [As,<-hl];exact hz
 have hcap:¬ its.toArray.size*k.toNat > (2 ^ 63 - 1) / 8:=by
  have:(sizeLine:Nat)<=(2 ^ 63 - 1) / 8:=by decide
  omega
 have hfit:¬ (!Builtin.List.listFitsIndex k)=true:=by
  rw [fitsIndex_both h1 h2]
  exact Au
 have hlong:¬ Builtin.List.listTooLong (its.toArray.size*k.toNat)=true:=by
  rw [oG hlen]
  exact Au
 have hnew:List.foldl (fun x1 x2=>x1++x2) #[] (List.replicate (if its.toArray.isEmpty=true then 0 else k.toNat) its.toArray)=(List.replicate k.toNat its).flatten.toArray:=by
  have f0:∀ m:Nat,List.foldl (fun x1 x2=>x1++x2) #[] (List.replicate m its.toArray)=(List.replicate m its).flatten.toArray:=fun m=>by
   have:=iD its m []
   rw [Bj] at this
   exact this
  rw [f0]
  cases its with
  | nil=>simp
  | cons a r'=>rw [if_neg (by simp)]
 refine wpAny_binaryOp_repeat_ref (T:="list") (U:="int") (by decide) ⟨_,e,rfl⟩ (fun s'=>typeIs_int s' k t) noFill_list_mul F.fills_int_mul F.slot_int_rmul repeat_list F.slot_int_index.lookup
  (call_meets F.slot_int_rmul (typeIs_int s k t) F.entry_int_rmul (F.args_int_rmul_2 _ _) (int___rmul___int_list k t l its.toArray n)
   ⟨e,rfl,⟨_,e,rfl⟩,call_meets F.slot_list_mul ⟨_,e,rfl⟩ F.entry_list_mul (F.args_list_mul_2 _ _) (AutoListH.list___mul___list_int_3 l its.toArray n k t hfit hcap hlong) ⟨e,?_⟩⟩)
 rw [hnew]
 exact ⟨.ref _,_,I.lnew (t':=s.toks) (r.rep k.toNat) (by rw [gx,Nat.mul_comm];exact hz),rfl,q _ I.fresh⟩
end
end L2
namespace Att
open PySem PySem.W PySem.Calls PyProof.Rows
theorem ints_of_wellAll {P:Params} {h:Heap}:∀ (ns:List Int) (vs:List Value),WellAll P h vs (ns.map WData.int)->IntsAre vs ns:=by
 intro ns
 induction ns with
 | nil=>
  intro vs w
  rw [List.map_nil] at w
  cases w
  exact .nil
 | cons n ns ih=>
  intro vs w
  rw [AA] at w
  cases w with
  | cons a b=>
   cases a
   exact .cons _ _ (ih _ b)
theorem script_of {l:OpenLaw} {n:Nat} (hn:l.most=some n) {P:Params} {h:Heap} {args:List WData} {vals:List Value}
  (hpre:l.row.toRowW.claim.pre args=true) (hwl:WellAll P h vals args) :
  ∃ a vs ns,vals=[Value.ref a]/\args=[WData.list (ns.map WData.int)]/\h.get? a=some { cls:=.type "list",data:=.seq vs.toArray }/\IntsAre vs ns/\ns.length<=n:=by
 have hsh:WShape.hasAll [] args [.list .int]=true:=(pre_splitW hpre).1
 have hc:l.pre.holds [] { args:=args }=true:=(pre_splitW hpre).2
 obtain ⟨d,r,rfl,h1,h2⟩:=hasAllW_cons hsh
 obtain rfl:=hasAllW_nil h2
 obtain ⟨xs,rfl,h3⟩:=hasW_list h1
 obtain ⟨ns,rfl⟩:=items_int h3
 have hlen:ns.length<=n:=by
  unfold OpenLaw.pre at hc
  have h4:(WTm.not (.lt (.lit (.int (n:Int))) (.len (.arg 0)))).holds [] { args:=[.list (ns.map .int)] }=true:=by
   have h4:=(holds_andW hc).1
   rw [hn] at h4
   exact h4
  have h5:=condW_of h4 (w_not (w_lt w_lit (w_len_list (w_arg rfl))))
  rw [Aj] at h5
  refine Nat.le_of_not_lt fun q=>?_
  have q':(n:Int) < ((ns.length:Nat):Int):=by omega
  first
   | (rw [decide_eq_true q'] at h5;exact absurd h5 (by decide))
   | (simp at h5;omega)
 cases hwl with
 | cons w1 w2=>
  cases w2
  cases w1 with
  | list ho hall=>exact ⟨_,_,ns,rfl,rfl,ho,ints_of_wellAll ns _ hall,hlen⟩
theorem post_true (l:OpenLaw) (args:List WData):l.row.toRowW.claim.post args (.bool true) args=true:=
 postW_of (r:=l.row.toRowW) (X:=(true == true))
  (show WShape.has [] (.bool true) .bool=true by first|rfl|decide|simp [WShape.has,WShape.arms,WShape.armsAll])
  (show (WTm.eq .res (.lit (.bool true))).value [] { args:=args,res:=some (.bool true),after:=args }=some (.bool (true == true)) from w_eq_bool (w_res rfl) w_lit) rfl
theorem attach_call {l:OpenLaw} {n:Nat} {q:Program} {loose:List Str} {XP:(Str->Option Value)->Heap->Prop} {YP:World->Heap->Prop} {d:DefRec}
  (hn:l.most=some n) (hdf:d.params.defaults=[])
  (call:∀ (w:World) (s₀ s₁:Shared) (mg mb:Str->Option Value) (fa:Addr) (o:Obj) (pm cd doc:Value) (a:Addr) (vs:List Value) (ns:List Int),
   Ground q loose [] XP w s₀ mg mb s₁.heap->YP w s₁.heap->
   s₁.heap.get? fa=some o->o.data=.func (docDef d.name d.params d.body d.scope pm cd doc)->s₁.heap.CodeRec cd d.name->mg d.name=some (.ref fa)->
   s₁.heap.get? a=some { cls:=.type "list",data:=.seq vs.toArray }->IntsAre vs ns->ns.length<=n->s₁.gens=#[]->
   codeAny (model l.prog w) callerA (.call (.ref fa) ⟨[.ref a],[]⟩) (fun r s'=>r=.ok (.ret (.bool true))/\OldK s₁.heap s'.heap/\s'.os=s₁.os/\AllBare s'.gens) s₁) :
  WalkO q loose XP YP l.row.toRowW d [] (fun f vs=>PySem.call f vs):=by
 intro w s₀ s₁ mg mb G Y fa o pm cd doc dV kV ho hd hcd hD hmg hg args vals as hpre hlay hrd hwl hlo
 obtain rfl:dV=.none:=Dflts.none hD hdf
 obtain rfl:kV=.none:=Dflts.noKw hD
 obtain ⟨a,vs,ns,rfl,rfl,hobj,hints,hlen⟩:=script_of hn hpre hwl
 refine enter_call (codeAny_mono (call w s₀ s₁ mg mb fa o pm cd doc a vs ns G Y ho (fd_plain hd) hcd hmg hobj hints hlen hg) fun r s' hq=>?_)
 obtain ⟨rfl,h2,h3,h4⟩:=hq
 exact ⟨.inl ⟨.bool true,.bool true,[],rfl,fun _=>rfl,.bool true,post_true l _,fun _=>⟨List.Pairwise.nil,fun _ hm=>(nomatch hm)⟩⟩,h2,h3,h4⟩
section
variable {prog:Program} {w:World} {A:Around} {E:Value->Shared->Prop} {s:Shared} {K:Frag}
end
end Att
namespace L2
open PySem PySem.Spec PyProof.Rows
theorem iE:∀ {vs:List Value} {ns:List Int},IntsAre vs ns->Vals (ns.map V.int) vs
 | _,_,.nil=>.nil
 | _,_,.cons n t h=>.cons ⟨t,rfl⟩ (iE h)
def rh (H:Hp):Prop:=∀ b,H b=none\/∃ o xs,H b=some (.frz o (.lst xs))
theorem oJ {P:Program} {w:World} {K:PySem.W.Frag} {mg mb:Str->Option Value} {CX:nj} {k:Nat} {fa a:Addr} {fd:FuncData} {x:Str} {sp:Sp} {s₁:Shared} {vs:List Value} {ns:List Int}
  (KX:K.In s₁.heap) (hns:s₁.heap.Ns mainGlobals mg) (hb:s₁.heap.Ns builtinsNs mb) (hbb:∀ x:Str,x≠"__name__"->mb x=bootBuiltins x) (hlim:s₁.heap.NoLimit) (hg:s₁.gens=#[])
  (ha:s₁.heap.get? a=some { cls:=.type "list",data:=.seq vs.toArray }) (hi:IntsAre vs ns) (hl:ns.length<=sizeLine) (hr:Room k callerA)
  (F:∀ base:Heap,K.In base->base.Ns mainGlobals mg->aG P w K mg base CX k fa fd [x] sp) (hbind:∀ (s:Shared) (u:Value),BindsTo s fd ⟨[u],[]⟩ [(x,u)])
  (hsp:∀ H:Hp,rh H->SqL K H a (ns.map V.int)->sp [.ref a] H (fun v _=>v=.bl true) fun _ _ _=>False)
  (hCX:∀ H e s',CX [] H s₁ (fun _ _ _=>False) e s'->False) :
  codeAny (model P w) callerA (.call (.ref fa) ⟨[.ref a],[]⟩) (fun r s'=>r=.ok (.ret (.bool true))/\OldK s₁.heap s'.heap/\s'.os=s₁.os/\AllBare s'.gens) s₁:=by
 have rv:=iE hi
 have lenV:=hi.length
 have core:∀ H:Hp,rh H->SqL K H a (ns.map V.int)->HOk P w H s₁.heap->(∀ b,H b≠none->b=a)->(H a≠none->K.lookup a=none)->
   codeAny (model P w) callerA (.call (.ref fa) ⟨[.ref a],[]⟩) (fun r s'=>r=.ok (.ret (.bool true))/\OldK s₁.heap s'.heap/\s'.os=s₁.os/\AllBare s'.gens) s₁:=by
  intro H hO hS hok hA hK
  have base_of:∀ {b:Addr} {o:Obj},s₁.heap.get? b=some o->H b=none->(iY s₁.heap H).get? b=some o:=fun e n=>nW e n
  have noA:∀ {b:Addr} {o:Obj} {es:Array DictEntry} {ep:Nat},s₁.heap.get? b=some o->o.data=.dict es ep->H b=none:=fun {b o es ep} e d=>by
   cases q:H b with
   | none=>rfl
   | some u=>
    have e':b=a:=hA b (by rw [q];simp)
    subst e'
    rw [ha] at e;cases e
    have d':Data.seq vs.toArray _=Data.dict es ep:=d
    cases d'
  have nsK:∀ {b:Addr} {m:Str->Option Value},s₁.heap.Ns b m->(iY s₁.heap H).Ns b m:=fun {b m} ⟨o,es,ep,e,d,r⟩=>⟨o,es,ep,base_of e (noA e d),d,r⟩
  have hKb:K.In (iY s₁.heap H):=fun b o e=>base_of (KX b o e) (by
   cases q:H b with
   | none=>rfl
   | some u=>
    have e':b=a:=hA b (by rw [q];simp)
    subst e'
    rw [hK (by rw [q];simp)] at e;cases e)
  have hM:Mod K mg (iY s₁.heap H):=⟨hKb,nsK hns,⟨mb,nsK hb,hbb⟩,let ⟨mc,h1,h2⟩:=hlim;⟨mc,nsK h1,h2⟩⟩
  have e0:Env0 P w K mg (iY s₁.heap H) callerA [] s₁ H:=⟨rfl,hM,fun b o e=>qP e,Nat.le_of_eq (m9 _ _),trivial,fun b hb=>absurd (show b∈([]:List Addr) from hb) (by simp),hok,.of_eq hg⟩
  refine codeAny_mono ((F _ hKb (nsK hns)).run callerA [] s₁ H ⟨[.ref a],[]⟩ [.ref a] [.ref a] _ _ hr e0 (hbind s₁ (.ref a)) (.cons rfl .nil) (hsp H hO hS)) fun r s' h=>?_
  cases r with
  | error e=>exact (hCX H e s' h).elim
  | ok fl=>
   cases fl with
   | next=>exact False.elim h
   | brk=>exact False.elim h
   | cont=>exact False.elim h
   | ret u=>
    obtain ⟨v,H',os,bare,un,hok',r',q⟩:=h
    have q':v=.bl true:=q
    subst q'
    obtain rfl:u=Value.bool true:=r'
    refine ⟨rfl,OldK.of_keep fun b o e=>?_,os,bare⟩
    cases q:H b with
    | none=>exact un.keep b o e q (by intro z;exact absurd (show b∈([]:List Addr) from z) (by simp)) (by simp)
    | some u=>
     rcases hO b with z|⟨ob,xs,z⟩
     ·rw [q] at z;cases z
     ·have z2:=un.frzs b ob _ z
      obtain ⟨e1,_⟩:=hok b _ z
      obtain ⟨e2,_⟩:=hok' b _ z2
      rw [e] at e1;cases e1
      exact e2
 cases hk:K.lookup a with
 | some o=>
  have e:=KX a o hk
  rw [ha] at e
  cases e
  refine core (fun _=>none) (fun _=>.inl rfl) (.inr ⟨_,vs.toArray,_,hk,rfl,rfl,rfl,by rw [As,lenV];exact hl,by simpa using rv⟩) (fun b u z=>by have z':(none:Option HO)=some u:=z;cases z') (fun b z=>absurd rfl z) fun z=>absurd rfl z
 | none=>
  refine core (fun b=>if b=a then some (.frz { cls:=.type "list",data:=.seq vs.toArray } (.lst (ns.map V.int))) else none) (fun b=>?_) (.inl (.inr ⟨{ cls:=.type "list",data:=.seq vs.toArray },if_pos rfl⟩)) (fun b u z=>?_) (fun b z=>?_) fun _=>hk
  ·by_cases hb:b=a
   ·exact .inr ⟨_,_,if_pos hb⟩
   ·exact .inl (if_neg hb)
  ·by_cases hb:b=a
   ·have z':=(if_pos hb).symm.trans z
    cases z'
    subst hb
    exact ⟨ha,by rw [Aj];exact hl,vs,_,rv,ha⟩
   ·have z':=(if_neg hb).symm.trans z
    cases z'
  ·by_cases hb:b=a
   ·exact hb
   ·exact absurd (if_neg hb) z
end L2
namespace L2
open PySem PySem.Spec PyProof.Rows
theorem rj {l:PySem.W.OpenLaw} {n k:Nat} {q:Program} {loose:List Str} {XP:(Str->Option Value)->Heap->Prop} {YP:World->Heap->Prop} {d:DefRec} {K:Params->PySem.W.Frag} {CX:World->nj} {sp:World->Sp} {x:Str}
  (hn:l.most=some n) (hn2:n<=sizeLine) (hdf:d.params.defaults=[]) (hr:Room k callerA)
  (hY:∀ (w:World) (h:Heap),YP w h->(K w.params).In h)
  (F:∀ (w:World) (mg:Str->Option Value) (fa:Addr) (h:Heap),(K w.params).In h->h.Ns mainGlobals mg->mg d.name=some (.ref fa)->
   ∃ fd:FuncData,(∀ (s:Shared) (u:Value),BindsTo s fd ⟨[u],[]⟩ [(x,u)]) /\
    ∀ base:Heap,(K w.params).In base->base.Ns mainGlobals mg->aG l.prog w (K w.params) mg base (CX w) k fa fd [x] (sp w))
  (hsp:∀ (w:World) (H:Hp) (a:Addr) (ns:List Int),ns.length<=n->rh H->SqL (K w.params) H a (ns.map V.int)->sp w [.ref a] H (fun v _=>v=.bl true) fun _ _ _=>False)
  (hCX:∀ (w:World) (H:Hp) (s:Shared) (e:Value) (s':Shared),CX w [] H s (fun _ _ _=>False) e s'->False) :
  PySem.W.WalkO q loose XP YP l.row.toRowW d [] (fun f vs=>PySem.call f vs):=by
 refine Att.attach_call hn hdf fun w s₀ s₁ mg mb fa o pm cd doc a vs ns G Y ho hd hcd hmg hobj hints hlen hg=>?_
 have KX:=hY w _ Y
 obtain ⟨fd,hb,hF⟩:=F w mg fa _ KX G.T.g hmg
 exact oJ KX G.T.g G.T.b G.T.builtins G.T.nolimit hg hobj hints (Aq hlen hn2) hr hF hb (fun H hO hS=>hsp w H a ns hlen hO hS) fun H e s'=>hCX w H s₁ e s'
theorem oK {l:PySem.W.OpenLaw} {n k:Nat} {q:Program} {loose:List Str} {XP:(Str->Option Value)->Heap->Prop} {YP:World->Heap->Prop} {d:DefRec} {K:Params->PySem.W.Frag} {CX:nj} {sp:PySem.W.Frag->Sp} {x:Str}
  (hn:l.most=some n) (hn2:n<=sizeLine) (hdf:d.params.defaults=[]) (hr:Room k callerA)
  (hY:∀ (w:World) (h:Heap),YP w h->(K w.params).In h)
  (F:∀ (w:World) (mg:Str->Option Value) (fa:Addr) (h:Heap),(K w.params).In h->h.Ns mainGlobals mg->mg d.name=some (.ref fa)->
   ∃ fd:FuncData,(∀ (s:Shared) (u:Value),BindsTo s fd ⟨[u],[]⟩ [(x,u)]) /\
    ∀ base:Heap,(K w.params).In base->base.Ns mainGlobals mg->aG l.prog w (K w.params) mg base CX k fa fd [x] (sp (K w.params)))
  (hsp:∀ (K:PySem.W.Frag) (H:Hp) (a:Addr) (ns:List Int),ns.length<=n->rh H->SqL K H a (ns.map V.int)->sp K [.ref a] H (fun v _=>v=.bl true) fun _ _ _=>False)
  (hCX:∀ (H:Hp) (s:Shared) (e:Value) (s':Shared),CX [] H s (fun _ _ _=>False) e s'->False) :
  PySem.W.WalkO q loose XP YP l.row.toRowW d [] (fun f vs=>PySem.call f vs):=
 rj (K:=K) (CX:=fun _=>CX) (sp:=fun w=>sp (K w.params)) hn hn2 hdf hr hY F (fun w H a ns h1 h2 h3=>hsp (K w.params) H a ns h1 h2 h3) fun _ H s e s'=>hCX H s e s'
end L2
namespace L2
open PySem PySem.Spec PyProof.Rows
def a8 (s:Stmt) (j:Nat):Stmt:=match s with
 | .ClassDef _ _ _ body _ _ _ _ _ _ _=>body.getD j (.Pass ⟨0,0,0,0⟩)
 | _=>.Pass ⟨0,0,0,0⟩
def ci (s:Stmt):Arguments:=match s with
 | .FunctionDef _ a _ _ _ _ _ _ _ _=>a
 | _=>{ posonlyargs:=[],args:=[],vararg:=none,kwonlyargs:=[],kw_defaults:=[],kwarg:=none,defaults:=[] }
def bU (s:Stmt):List Stmt:=match s with
 | .FunctionDef _ _ b _ _ _ _ _ _ _=>b
 | _=>[]
def al (s:Stmt):Scope:=match s with
 | .FunctionDef _ _ _ _ _ _ sc _ _ _=>sc
 | _=>{ kind:=.function,names:=[],isGenerator:=false,isCoroutine:=false }
abbrev bu:nj:=fun _ _ _ _ _ _=>False
abbrev E0:XK:=fun _ _ _=>False
theorem cV {X:Cx}:dv bu X E0:=fun _ _ _ _ _ _ _ h=>h.elim
structure Fun (K:PySem.W.Frag) (x qual:Str) (st:Stmt) (f:Addr) (fd:FuncData):Prop where
 ex:∃ (oc:Value) (od:Option Addr) (kV doc pm:Value) (an:Option Addr) (cdv ct:Value) (osl:Array (Option Value)),
  fd=PySem.W.fnOf x qual (ci st) (bU st) (al st) .none kV doc pm an cdv ct/\K.lookup f=some ⟨oc,od,.func fd,osl⟩/\PySem.W.codeIn K cdv qual=true
 kp:PySem.W.keepIn K (.ref f)=true
section
variable {P:Program} {w:World} {K:PySem.W.Frag} {mg:Str->Option Value} {base:Heap}
theorem Fun.ok {x qual:Str} {st:Stmt} {f:Addr} {fd:FuncData} {N ps:List Str} {k:Nat} {sp:Sp} (F:Fun K x qual st f fd) (S:ap N ps (al st)) (len:∀ vs H Q E,sp vs H Q E->vs.length=ps.length)
  (hbody:∀ (cdv:Value) (A:Around) (outer:List Env) (s:Shared) (H:Hp) (vs:List V) (Q:VK) (E:XK),Room k (A.deeper (envOfC qual (al st) s.heap.objs.size f cdv))->sp vs H Q E->
   ∃ t,PSs (ja bu P w K mg base N qual (al st) f cdv A outer s H E).nox (bU st) t/\t { nx:=fun _ H'=>Q .non H',rt:=Q } (fj N vs) H):aG P w K mg base bu (k+1) f fd ps sp:=by
 obtain ⟨oc,od,kV,doc,pm,an,cdv,ct,osl,rfl,lk,hcd⟩:=F.ex
 refine tT lk hcd S len fun A outer s H vs Q E hr hsp=>?_
 obtain ⟨t,h,q⟩:=hbody cdv A outer s H vs Q E hr hsp
 exact ⟨t,h.nox,q⟩
theorem Fun.binds {x qual:Str} {st:Stmt} {f:Addr} {fd:FuncData} {ps:List Str} (F:Fun K x qual st f fd)
  (h:∀ (kV doc pm:Value) (an:Option Addr) (cdv ct:Value) (us:List Value),us.length=ps.length->bindArgs (PySem.W.fnOf x qual (ci st) (bU st) (al st) .none kV doc pm an cdv ct) ⟨us,[]⟩=pure (ps.zip us)):Binds K fd ps []:=by
 obtain ⟨oc,od,kV,doc,pm,an,cdv,ct,osl,rfl,lk,hcd⟩:=F.ex
 exact .all (h kV doc pm an cdv ct)
theorem oM {x qual:Str} {st:Stmt} {f:Addr} {oc:Value} {od an:Option Addr} {osl:Array (Option Value)} {kV doc pm cdv ct:Value} (l:K.lookup f=some ⟨oc,od,.func (PySem.W.fnOf x qual (ci st) (bU st) (al st) .none kV doc pm an cdv ct),osl⟩)
  (c:PySem.W.codeIn K cdv qual=true) (k:PySem.W.keepIn K (.ref f)=true):Fun K x qual st f (PySem.W.fnOf x qual (ci st) (bU st) (al st) .none kV doc pm an cdv ct):=⟨⟨oc,od,kV,doc,pm,an,cdv,ct,osl,rfl,l,c⟩,k⟩
end
theorem tX {A:Around} {k:Nat} (hr:Room k A):A.units+1 < cLine:=Nat.lt_of_le_of_lt (Nat.add_le_add_left (by decide:1<=64) _) hr.units
section
variable {X:Cx}
theorem pv (i:Nat) {x:Str} {pos:Pos} (hN:X.N[i]?=some x:=by rfl) (hv:yh X.env.scope x:=by first|exact Or.inl rfl|exact Or.inr (Or.inl rfl)|exact Or.inr (Or.inr rfl)) (hd:(x == ("__debug__":Str))=false:=by decide)
  (hcd:(x == ("__classdict__":Str))=false:=by decide):PE X (.Name x pos) (qQ i):=uk hN hv hd hcd
end
theorem bp {A B:Prop} (h:B):if false=true then A else B:=by
 rw [if_neg Au]
 exact h
theorem bV {A B:Prop} (h:A):if true=true then A else B:=by
 rw [if_pos rfl]
 exact h
theorem bC {c A B:Prop} [Decidable c] (h1:c->A) (h2:¬ c->B):if c then A else B:=by
 by_cases h:c
 ·rw [if_pos h]
  exact h1 h
 ·rw [if_neg h]
  exact h2 h
def Same (H H':Hp):Prop:=∀ b o,H b=some o->H' b=some o
theorem Same.refl (H:Hp):Same H H:=fun _ _ h=>h
theorem Same.trans {H H1 H2:Hp} (a:Same H H1) (b:Same H1 H2):Same H H2:=fun c o h=>b c o (a c o h)
theorem Same.free {H H':Hp} (e:Same H H') {l:Addr} (h:H' l=Option.none):H l=Option.none:=by
 cases q:H l with
 | none=>rfl
 | some o=>
  rw [e l o q] at h
  cases h
theorem Same.seq {K:PySem.W.Frag} {H H':Hp} {a:Addr} {xs:List V} (e:Same H H') (h:SqL K H a xs):SqL K H' a xs:=by
 rcases h with (h|⟨o,h⟩)|h
 ·exact .inl (.inl (e _ _ h))
 ·exact .inl (.inr ⟨o,e _ _ h⟩)
 ·exact .inr h
end L2
namespace L2
open PySem PySem.Spec PyProof.Rows
theorem eV (env:Env):∀ (names:List (Str×NameKind)) (cs:List (Str×Addr)),(∀ x∈names,x.2=.free->∃ c,env.cells.lookup x.1=some c)->(∀ x c,cs.lookup x=some c->env.cells.lookup x=some c)->
  ∃ cl,(forIn names cs fun (p:Str×NameKind) (r:List (Str×Addr))=>(if (p.2 == NameKind.free)=true then do let c <-cellOf env p.1;pure (ForInStep.yield ((p.1,c)::r)) else pure (ForInStep.yield r):Sem (ForInStep (List (Str×Addr)))))=(pure cl:Sem (List (Str×Addr))) /\
   (∀ x c,cl.lookup x=some c->env.cells.lookup x=some c)/\(∀ x,(∃ c,cs.lookup x=some c)->∃ c,cl.lookup x=some c)/\∀ x∈names,x.2=.free->∃ c,cl.lookup x.1=some c
 | [],cs,_,h=>⟨cs,rfl,h,fun _ z=>z,fun _ z=>nomatch z⟩
 | (n,k)::r,cs,hn,h=>by
  by_cases e:k=.free
  ·subst e
   obtain ⟨c,hc⟩:=hn (n,.free) AC rfl
   have h':∀ x c',((n,c)::cs).lookup x=some c'->env.cells.lookup x=some c':=fun x c' q=>by
    rw [Bh] at q
    cases ex:x == n with
    | true=>
     rw [ex] at q
     have:x=n:=by simpa using ex
     subst this
     cases q
     exact hc
    | false=>rw [ex] at q;exact h x c' q
   obtain ⟨cl,e1,e2,e3,e4⟩:=eV env r ((n,c)::cs) (fun x hx=>hn x (Av _ hx)) h'
   refine ⟨cl,?_,e2,fun x ⟨c',q⟩=>e3 x ?_,fun x hx hf=>?_⟩
   ·rw [List.forIn_cons]
    rw [if_pos (show (((n,NameKind.free):Str×NameKind).2 == NameKind.free)=true from by rfl)]
    unfold cellOf
    rw [hc]
    exact e1
   ·rw [Bh]
    cases ex:x == n with
    | true=>exact ⟨c,rfl⟩
    | false=>exact ⟨c',q⟩
   ·rcases AG.mp hx with z|z
    ·subst z
     exact e3 n ⟨c,by rw [Bh];simp⟩
    ·exact e4 x z hf
  ·obtain ⟨cl,e1,e2,e3,e4⟩:=eV env r cs (fun x hx=>hn x (Av _ hx)) h
   refine ⟨cl,?_,e2,e3,fun x hx hf=>?_⟩
   ·rw [List.forIn_cons]
    rw [if_neg (show ¬ (((n,k):Str×NameKind).2 == NameKind.free)=true by simpa using e)]
    exact e1
   ·rcases AG.mp hx with z|z
    ·subst z
     exact absurd hf e
    ·exact e4 x z hf
theorem k4 {env:Env} {sc:Scope} (hn:∀ x∈sc.names,x.2=.free->∃ c,env.cells.lookup x.1=some c) :
  ∃ cl,closureFor sc env=pure cl/\(∀ x c,cl.lookup x=some c->env.cells.lookup x=some c)/\∀ x∈sc.names,x.2=.free->∃ c,cl.lookup x.1=some c:=by
 obtain ⟨cl,e1,e2,_,e4⟩:=eV env sc.names [] hn (fun x c z=>by cases z)
 refine ⟨cl,?_,e2,e4⟩
 unfold closureFor
 exact (congrArg (fun (m:Sem (List (Str×Addr)))=>m >>= fun r=>pure r) e1)
theorem cW {κ:Type}:∀ {l:List (Str×κ)} {x:Str} {k:κ},l.lookup x=some k->(x,k)∈l
 | [],_,_,h=>by cases h
 | (n,k')::r,x,k,h=>by
  rw [Bh] at h
  cases e:x == n with
  | true=>
   rw [e] at h
   have:x=n:=by simpa using e
   subst this
   cases h
   exact AC
  | false=>
   rw [e] at h
   exact Av _ (cW h)
def jf (env:Env) (x:Str) (k:NameKind):NameKind:=if (k == NameKind.free && env.scope.kind == .function && env.kindOf x == some .cell)=true then .cell else k
theorem gK {env:Env}:∀ {names:List (Str×NameKind)} {x:Str},
  (names.map fun (p:Str×NameKind)=>match p with|(n,k)=>if (k == NameKind.free && env.scope.kind == .function && env.kindOf n == some .cell)=true then (n,NameKind.cell) else (n,k)).lookup x=(names.lookup x).map (jf env x)
 | [],x=>rfl
 | (n,k)::r,x=>by
  rw [AA]
  by_cases e:x=n
  ·subst e
   dsimp only
   by_cases c:(k == NameKind.free && env.scope.kind == .function && env.kindOf x == some .cell)=true
   ·rw [if_pos c]
    have z:jf env x k=.cell:=if_pos c
    simp [Bh,z]
   ·rw [if_neg c]
    have z:jf env x k=k:=if_neg c
    simp [Bh,z]
  ·have e':(x == n)=false:=by simpa using e
   dsimp only
   rw [Bh (a:=x) (b:=k),e']
   show _=(r.lookup x).map (jf env x)
   rw [<-gK]
   by_cases c:(k == NameKind.free && env.scope.kind == .function && env.kindOf n == some .cell)=true
   ·rw [if_pos c,Bh,e']
   ·rw [if_neg c,Bh,e']
theorem gL {sc:Scope} {env:Env} {cl:List (Str×Addr)} {C:Addr} {x:Str}:(compEnvC sc cl C env).kindOf x=(sc.names.lookup x).map (jf env x):=gK
def oN (N:List Str) (sc0 sc:Scope) (N':List Str) (ix:List (Option Nat)):Bool:=
 sc.kind == .function && ix.length == N'.length &&
 sc.names.all (fun p=>p.2 != .cell && (p.2 != .free || (sc0.names.lookup p.1 == some .cell || sc0.names.lookup p.1 == some .free)) && (p.2 != .local || sc.names.lookup p.1 == some .local)) &&
 (List.range N'.length).all fun j=>match ix[j]?,N'[j]? with
  | some (some i),some x=>N[i]? == some x && sc.names.lookup x == some .free
  | _,_=>true
theorem iF {N:List Str} {sc0 sc:Scope} {N':List Str} {ix:List (Option Nat)} (h:oN N sc0 sc N' ix=true) :
  sc.kind=.function/\ix.length=N'.length/\(∀ p∈sc.names,p.2≠.cell)/\(∀ p∈sc.names,p.2=.free->sc0.names.lookup p.1=some .cell\/sc0.names.lookup p.1=some .free) /\
   (∀ p∈sc.names,p.2=.local->sc.names.lookup p.1=some .local)/\∀ (j i:Nat) (x:Str),ix[j]?=some (some i)->N'[j]?=some x->N[i]?=some x/\sc.names.lookup x=some .free:=by
 unfold oN at h
 simp only [AU,Bm,beq_iff_eq,bne_iff_ne,Bool.or_eq_true,ne_eq] at h
 obtain ⟨⟨⟨h1,h2⟩,h3⟩,h4⟩:=h
 refine ⟨h1,h2,fun p hp=>(h3 p hp).1.1,fun p hp hf=>?_,fun p hp hl=>?_,fun j i x e1 e2=>?_⟩
 ·rcases (h3 p hp).1.2 with z|z
  ·exact absurd hf z
  ·exact z
 ·rcases (h3 p hp).2 with z|z
  ·exact absurd hl z
  ·exact z
 ·have hj:j < N'.length:=(An.mp e2).1
  have:=h4 j (Bz.mpr hj)
  rw [e1,e2] at this
  simpa using this
def jV (X:Cx) (sc:Scope) (N':List Str) (C:Addr) (cl:List (Str×Addr)) (s:Shared) (H:Hp) (fp:List Addr):Cx:=
 { X with N:=N',s₀:=s,H₀:=H,env:=compEnvC sc cl C X.env,outer:=X.stack,stack:=X.stack,ex:=fp,fn:=fun _=>false,pn:=[],xe:=fun _ _=>False }
def kI (ix:List (Option Nat)) (σ:St):St:=ix.map fun o=>match o with|some i=>(σ[i]?).getD none|none=>none
def ExtL:St->St->Prop
 | [],[]=>True
 | none::r,_::r'=>ExtL r r'
 | some v::r,w::r'=>w=some v/\ExtL r r'
 | _,_=>False
theorem ExtL.spec:∀ {a b:St},ExtL a b->a.length=b.length/\∀ (i:Nat) v,a[i]?=some (some v)->b[i]?=some (some v)
 | [],[],_=>⟨rfl,fun _ _ z=>by simp at z⟩
 | [],_::_,h=>h.elim
 | none::r,[],h=>h.elim
 | some v::r,[],h=>h.elim
 | none::r,w::r',h=>by
  obtain ⟨e1,e2⟩:=ExtL.spec (a:=r) (b:=r') h
  refine ⟨by simp [e1],fun i v z=>?_⟩
  cases i with
  | zero=>simp at z
  | succ i=>simpa using e2 i v (by simpa using z)
 | some u::r,w::r',h=>by
  obtain ⟨e0,h⟩:=h
  obtain ⟨e1,e2⟩:=ExtL.spec (a:=r) (b:=r') h
  refine ⟨by simp [e1],fun i v z=>?_⟩
  cases i with
  | zero=>simp at z;subst z;simp [e0]
  | succ i=>simpa using e2 i v (by simpa using z)
structure PF (X:Cx) (ifs:List Expr) (t:TT):Prop where
 run:∀ (pins:List (Addr×Obj)) (s:Shared) (σ:St) (H:Hp) (Q:Bool->Hp->Prop),Inv X pins σ H s->t σ H Q->
  wpAny (model X.prog X.w) X.A (forIn ifs true fun c r=>if r=true then do let ok <-isTrue c X.env (eval c X.env);pure (ForInStep.yield ok) else pure (ForInStep.yield r)) (TP X pins σ Q) X.xe s
instance {X:Cx} {ifs:List Expr} {t:TT}:CoeFun (PF X ifs t) fun _=>∀ (pins:List (Addr×Obj)) (s:Shared) (σ:St) (H:Hp) (Q:Bool->Hp->Prop),Inv X pins σ H s->t σ H Q->
  wpAny (model X.prog X.w) X.A (forIn ifs true fun c r=>if r=true then do let ok <-isTrue c X.env (eval c X.env);pure (ForInStep.yield ok) else pure (ForInStep.yield r)) (TP X pins σ Q) X.xe s:=⟨PF.run⟩
def wJ:TT:=fun _ H Q=>Q true H
theorem cz {X:Cx}:PF X [] wJ:=⟨fun pins s σ H Q I h=>wpAny_tests_nil ⟨H,I,h⟩⟩
def oO (J:It) (g:TG) (tf:TT) (te:TE) (ix:List (Option Nat)) (σ:St) (H1:Hp) (Q:VK):Prop:=∃ W:Nat->Nat->List V->Hp->Prop,(∃ m,W 0 m [] H1)/\∀ i m ys H,W i m ys H->
 (J.stop i H/\ys.length<=sizeLine/\∀ D,H D=none->Q (.ref D) (ax H D (.lst ys))) ∨
 (J.go i H/\ys.length<=sizeLine/\∀ x H',J.yld i H x H'->g x (kI ix σ) H' fun σ2 H2=>ExtL (kI ix σ) σ2/\tf σ2 H2 fun b H3=>if b=true then te σ2 H3 fun y H4=>∃ m',m' < m/\W (i+1) m' (ys++[y]) H4 else ∃ m',m' < m/\W (i+1) m' ys H3)
def zT (wi:TI) (g:TG) (tf:TT) (te:TE) (ix:List (Option Nat)):TE:=fun σ H Q=>wi σ H fun J H1=>oO J g tf te ix σ H1 Q
section
variable {X:Cx} {tg elt iter:Expr} {ifs:List Expr} {sc:Scope} {N':List Str} {ix:List (Option Nat)} {pins:List (Addr×Obj)} {σ:St} {H2:Hp} {s2:Shared} {fp:List Addr} {cl:List (Str×Addr)} {C:Addr} {pos:Pos}
theorem uD (I:Inv X pins σ H2 s2) (hix:oN X.N X.env.scope sc N' ix=true) (e2:∀ x c,cl.lookup x=some c->X.env.cells.lookup x=some c) (e3:∀ x∈sc.names,x.2=.free->∃ c,cl.lookup x.1=some c)
  (f2:∀ b∈fp,ii X pins H2 b) (fo:∀ b∈fp,∃ o,s2.heap.get? b=some o) (hC:s2.heap.objs.size<=C):(jV X sc N' C cl s2 H2 fp).Ok:=by
 obtain ⟨k1,_,k3,_,_,_⟩:=iF hix
 refine ⟨I.ok.mod,k1,I.ok.glob,I.ok.blt,hC,fun x y c a b=>I.ok.inj x y c (e2 x c a) (e2 y c b),fun x hx=>?_,fun x c z=>(by cases z),I.ok.hd,I.ok.frames,.inl rfl,fun b hb=>?_,I.bs,Aq I.ok.bsz I.sz,fun b o e hb=>?_,fun b hb hf=>?_,I.stack,I.stkFree⟩
 ·have hx':(compEnvC sc cl C X.env).kindOf x=some .cell\/(compEnvC sc cl C X.env).kindOf x=some .free:=hx
  rw [gL] at hx'
  cases q:sc.names.lookup x with
  | none=>rw [q] at hx';rcases hx' with z|z<;>cases z
  | some k=>
   have hm:=cW q
   have hf:k=.free:=by
    rw [q] at hx'
    have nk:=k3 _ hm
    cases k with
    | free=>rfl
    | cell=>exact absurd rfl nk
    | _=>rcases hx' with z|z<;>(simp [jf] at z)
   exact e3 (x,k) hm hf
 ·obtain ⟨o,ho⟩:=fo b hb
  exact ⟨AM (Ax (Ap ho) hC),fun x c q=>(f2 b hb).2.2.2.2.1 x c (e2 x c q)⟩
 ·have hb':b∈fp:=hb
  rcases (f2 b hb').2.2.2.1 with z|z
  ·exact I.ok.noex b o e z
  ·exact absurd (Ax (Ap e) (Aq I.ok.bsz z)) (Be _)
 ·have hb':b∈fp:=hb
  rcases AG.mp (I.stkSub b hf) with z|z
  ·exact (f2 b hb').2.1 z
  ·exact (f2 b hb').2.2.1 z
end
section
variable {X:Cx} {tg elt iter:Expr} {ifs:List Expr} {sc sc0:Scope} {N N':List Str} {ix:List (Option Nat)} {pos:Pos} {wi:TI} {g:TG} {tf:TT} {te:TE}
structure LcEnd (X:Cx) (pins:List (Addr×Obj)) (σ:St) (H:Hp) (s:Shared) (C:Addr):Prop where
 inv:Inv X pins σ H s
 ns:∃ m,s.heap.Ns C m
 free:H C=none
 loc:C≠X.env.locals
 cel:∀ x c,X.env.cells.lookup x=some c->c≠C
 abv:X.s₀.heap.objs.size<=C
 pin:∀ p∈X.pn++pins,p.1≠C
theorem LcEnd.gone {pins:List (Addr×Obj)} {σ:St} {H:Hp} {s:Shared} {C:Addr} {h':Heap} (L:LcEnd X pins σ H s C) (sb:Heap.SameBut C s.heap h'):Inv X pins σ H { s with heap:=h' }:=
 L.inv.turned (it:=C) (t':=s.toks) (fun b o hb e=>(sb.2 b hb).trans e) L.free L.loc (.inr L.abv) L.cel L.pin
set_option maxHeartbeats 2000000 in
theorem rp {pins:List (Addr×Obj)} {σ:St} {H:Hp} {s:Shared} {Q:VK} {use:Option (Value->Sem Unit)} {Qf:Value->Shared->Prop} {cpos:Pos} (hc:X.calm=true) (hix:oN X.N X.env.scope sc N' ix=true) (hi:PI X tg iter wi)
  (hg:∀ C cl s H fp,PG (jV X sc N' C cl s H fp) tg g) (hf:∀ C cl s H fp,PF (jV X sc N' C cl s H fp) ifs tf) (he:∀ C cl s H fp,PE (jV X sc N' C cl s H fp) elt te)
  (hs:∀ x,foldedSetIterable iter X.env x=pure x) (I:Inv X pins σ H s) (h:zT wi g tf te ix σ H Q)
  (hend:∀ (C D:Addr) (H':Hp) (s':Shared),LcEnd X pins σ H' s' C->Q (.ref D) H'->compPost (model X.prog X.w) X.A X.xe use Qf (.ref D) C (.ok .next) s') :
  wpAny (model X.prog X.w) X.A (comprehension (.ListComp elt [⟨tg,iter,ifs,0⟩] sc pos) sc X.env cpos (newList []) false (eval iter X.env) use) Qf X.xe s:=by
 obtain ⟨hk,hlen,hcell,hfreeX,hnames,hat⟩:=iF hix
 obtain ⟨cl,e1,e2,e3⟩:=k4 (env:=X.env) (sc:=sc) (fun x hx hf=>I.ok.has x.1 (hfreeX x hx hf))
 refine wpAny_comprehension_free (use:=use) (cl:=cl) rfl hs e1 hk hnames (bA (hi pins s σ H _ I h) fun v s1 h1=>bA h1 fun itv s2 h2=>?_)
 obtain ⟨it,fp,tn,J,H2,e,I2,T,st2,f2,W,⟨m0,w0⟩,turn⟩:=h2
 subst e
 refine wpAny_newObj_type (wpAny_newFunctionEnv hcell (by intro y hy;simp at hy) (fun h₁ hns₁ hsb₁=>?_) hk)
 dsimp only at hns₁ hsb₁ ⊢
 generalize hH2:s2.heap.push { cls:=.type "list",dict:=none,data:=.seq ([]:List Value).toArray }=G2 at hns₁ hsb₁ ⊢
 have hCs:G2.objs.size=s2.heap.objs.size+1:=by rw [<-hH2,BC]
 have hDC:s2.heap.objs.size≠G2.objs.size:=by rw [hCs];exact AM (BD _)
 have hCle:s2.heap.objs.size<=G2.objs.size:=by rw [hCs];exact Nat.le_succ _
 have belowC:∀ b,b < s2.heap.objs.size->b≠G2.objs.size:=fun b hb=>by rw [hCs];exact AM (Nat.lt_succ_of_lt hb)
 have belowD:∀ b,b < s2.heap.objs.size->b≠s2.heap.objs.size:=fun b hb=>AM hb
 have old:∀ b o,s2.heap.get? b=some o->h₁.get? b=some o:=fun b o e=>hsb₁.extBut b o (belowC b (Ap e)) (Al _ (hH2 ▸ Al _ e))
 have hacc:h₁.get? s2.heap.objs.size=some { cls:=.type "list",data:=.seq ([]:List Value).toArray }:=hsb₁.extBut _ _ hDC (Al _ (hH2 ▸ AB _ rfl))
 have fo:∀ b∈fp,∃ o,s2.heap.get? b=some o:=fun b hb=>let ⟨o,ho,_⟩:=T.obj _ _ st2 b hb;⟨o,ho⟩
 have fD:∀ b∈fp,b≠s2.heap.objs.size:=fun b hb=>let ⟨o,ho⟩:=fo b hb;belowD b (Ap ho)
 have ok':(jV X sc N' G2.objs.size cl s2 H2 fp).Ok:=uD I2 hix e2 e3 f2 fo hCle
 have HD:H2 s2.heap.objs.size=none:=I2.hok.fresh (Ao _)
 have HC:H2 G2.objs.size=none:=I2.hok.fresh hCle
 have I4:Inv (jV X sc N' G2.objs.size cl s2 H2 fp) [] (kI ix σ) H2 { s2 with heap:=h₁,toks:=s2.toks+([]:List (Str×Value)).length }:=by
  refine ⟨ok',rfl,I2.bare,Un.kept old,⟨_,hns₁,fun j x v a b c=>?_⟩,fun x c q=>?_,HC,fun x c q=>I2.freeC x c (e2 x c q),fun p hp=>(by cases hp),I2.hok.kept old,?_⟩
  ·
   have a':N'[j]?=some x:=a
   have b':(ix.map fun o=>match o with|some i=>(σ[i]?).getD none|none=>none)[j]?=some (some v):=b
   rw [Bp] at b'
   cases q:ix[j]? with
   | none=>rw [q] at b';cases b'
   | some o=>
    rw [q] at b'
    cases o with
    | none=>cases b'
    | some i=>
     obtain ⟨n1,n2⟩:=hat j i x q a'
     have b'':(σ[i]?).getD none=some v:=A1 b'
     have sv:σ[i]?=some (some v):=by
      cases z:σ[i]? with
      | none=>rw [z] at b'';cases b''
      | some y=>rw [z] at b'';exact congrArg some b''
     obtain ⟨m,hn,hl⟩:=I2.loc
     have kx:=hfreeX (x,.free) (cW n2) rfl
     obtain ⟨u,r,lk⟩:=hl i x v n1 sv (.inr kx)
     refine ⟨u,r,.inr ⟨?_,?_⟩⟩
     ·show (compEnvC sc cl G2.objs.size X.env).kindOf x=some .cell\/(compEnvC sc cl G2.objs.size X.env).kindOf x=some .free
      rw [gL,n2]
      show some (jf X.env x .free)=some .cell\/some (jf X.env x .free)=some .free
      unfold jf
      split
      ·exact .inl rfl
      ·exact .inr rfl
     ·obtain ⟨c1,hc1⟩:=e3 (x,.free) (cW n2) rfl
      refine ⟨c1,hc1,?_⟩
      have hc2:=e2 x c1 hc1
      rcases lk with ⟨z,_⟩|⟨_,c,hcc,hcl⟩
      ·have z':X.env.scope.names.lookup x=some .local:=z
       rcases kx with y|y<;>(rw [y] at z';cases z')
      ·rw [hc2] at hcc;cases hcc
       obtain ⟨o,ho,hd⟩:=hcl
       exact ⟨o,old c1 o ho,hd⟩
  ·obtain ⟨v,o,ho,hd⟩:=I2.cell x c (e2 x c q)
   exact ⟨v,o,old c o ho,hd⟩
  ·show (ix.map _).length=N'.length
   rw [Aj,hlen]
 have cellD:∀ x c,cl.lookup x=some c->c≠s2.heap.objs.size:=fun x c q z=>by
  obtain ⟨v,o,ho,hd⟩:=I2.cell x c (e2 x c q)
  exact belowD c (Ap ho) z
 have loop:∀ s₃:Shared,s₃={ s2 with heap:=h₁,toks:=s2.toks+([]:List (Str×Value)).length }->
   codeAny (model X.prog X.w) X.A (.compLoop (.ListComp elt [⟨tg,iter,ifs,0⟩] sc pos) 0 (.ref it) (.ref s2.heap.objs.size) (compEnvC sc cl G2.objs.size X.env))
    (compPost (model X.prog X.w) X.A X.xe use Qf (.ref s2.heap.objs.size) G2.objs.size) s₃:=by
  rintro s₃ rfl
  refine codeAny_loop rfl (fun n s'=>∃ i ys H' its k,Inv (jV X sc N' G2.objs.size cl s2 H2 fp) [] (kI ix σ) H' s'/\tn i s'.heap/\(∀ b∈fp,H' b=none)/\H' s2.heap.objs.size=none /\
   Vals ys its/\s'.heap.get? s2.heap.objs.size=some { cls:=.type "list",data:=.seq its.toArray k }/\W i n ys H') ?_ m0
   ⟨0,[],H2,[],_,I4,T.keep _ _ _ st2 (fun b _ o e=>old b o e),fun b hb=>(f2 b hb).1,HD,.nil,hacc,w0⟩
  rintro n s5 ⟨i,ys,H5,its,k,I5,st5,fr5,hD5,vv,oD,w5⟩
  show wpAny _ X.A ((compTurn (.ListComp elt [⟨tg,iter,ifs,0⟩] sc pos) 0 (.ref it) (.ref s2.heap.objs.size) (compEnvC sc cl G2.objs.size X.env)).onRaise (fun x=>do noteFrame x (compEnvC sc cl G2.objs.size X.env);theTreesLotGoes x)) _ _ s5
  refine wpAny_noted ?_
  rw [compTurn_list]
  have I5p:Inv (jV X sc N' G2.objs.size cl s2 H2 fp) [(s2.heap.objs.size,{ cls:=.type "list",data:=.seq its.toArray k })] (kI ix σ) H5 s5:=I5.pins_of fun p hp=>by
   have hp':p=(s2.heap.objs.size,{ cls:=.type "list",data:=.seq its.toArray k }):=by simpa using hp
   subst hp'
   refine ⟨oD,hD5,hDC,fun hb=>?_,fun v z=>(by cases z)⟩
   obtain ⟨_,o,ho,_⟩:=I2.stack.mem (show s2.heap.objs.size∈iZ X.stack from hb)
   exact Be _ (Ap ho)
  have fpk:∀ {H':Hp},(∀ b∈fp,H' b=none)->∀ b∈fp,ii (jV X sc N' G2.objs.size cl s2 H2 fp) [(s2.heap.objs.size,({ cls:=.type "list",data:=.seq its.toArray k }:Obj))] H' b:=fun {H'} hn b hb=>by
   refine ⟨hn b hb,(ok'.exf b hb).1,ok'.exfs b hb,.inl hb,(ok'.exf b hb).2,fun p hp=>?_⟩
   have hp':p=(s2.heap.objs.size,({ cls:=.type "list",data:=.seq its.toArray k }:Obj)):=by
    have z:p∈([]:List (Addr×Obj))++[(s2.heap.objs.size,({ cls:=.type "list",data:=.seq its.toArray k }:Obj))]:=hp
    simpa using z
   subst hp'
   exact (fD b hb).symm
  rcases turn i n ys H5 w5 with ⟨stop,hz,qn⟩|⟨go,hz,step⟩
  ·refine wpAny_bind (wpAny_standAt (wpAny_bind (wpAny_mono (T.done (jV X sc N' G2.objs.size cl s2 H2 fp) rfl rfl rfl hc i _ s5 (kI ix σ) H5 (fun _ _=>False) I5p (fpk fr5) st5 stop) (fun r s6 ⟨hr,I6⟩=>?_) fun _ _ f=>f.elim)))
   subst hr
   refine wpAny_pure ?_
   obtain ⟨m,hn,_⟩:=I6.loc
   have oD6:s6.heap.get? s2.heap.objs.size=some { cls:=.type "list",data:=.seq its.toArray k }:=(I6.pin (s2.heap.objs.size,{ cls:=.type "list",data:=.seq its.toArray k }) (by show _∈([]:List (Addr×Obj))++_;simp)).1
   have u6:Un (iZ X.stack) fp H2 H5 s2.heap s6.heap:=I6.base
   have HC5:H5 G2.objs.size=none:=I6.free
   refine hend _ _ (ax H5 s2.heap.objs.size (.lst ys)) s6 ⟨?_,⟨m,hn⟩,by rw [aB hDC.symm];exact HC5,(belowC _ I2.lt).symm,fun x c q=>?_,Aq I2.sz hCle,fun p hp=>?_⟩ (qn _ hD5)
   ·refine I2.call' (s':=s6) (ch:=fp) I6.os ?_ ?_ I6.bare fun b hb=>⟨(f2 b hb).2.2.2.1,(f2 b hb).2.1,(f2 b hb).2.2.2.2.1,(f2 b hb).2.2.2.2.2⟩
    ·refine ⟨fun b o e n nf nx=>u6.keep b o e n nf nx,fun b o e n nf nx=>u6.slot b o e n nf nx,fun b o e n nx=>?_,fun b o e nx=>u6.there b o e nx,fun b xs e=>?_,fun b o u e=>?_,fun b ps e=>?_⟩
     ·rw [aB (belowD b (Ap e))];exact u6.free b o e n nx
     ·rw [aB (aJ e HD)];exact u6.tups b xs e
     ·rw [aB (aJ e HD)];exact u6.frzs b o u e
     ·rw [aB (aJ e HD)];exact u6.tbls b ps e
    ·intro b o e
     by_cases hb:b=s2.heap.objs.size
     ·subst hb
      rw [ad] at e;cases e
      exact ⟨hz,its,k,vv,oD6⟩
     ·rw [aB hb] at e
      refine (I6.hok b o e).stay (fun c v hcc q=>q) (fun c q=>?_) fun c xs q=>?_
      ·rw [aB (aJ q hD5)];exact q
      ·rw [aB (aJ q hD5)];exact q
   ·obtain ⟨v,o,ho,hd⟩:=I2.cell x c q
    exact belowC c (Ap ho)
   ·exact belowC p.1 (Ap (I2.pin p hp).1)
  ·refine wpAny_bind (wpAny_standAt (wpAny_bind (wpAny_mono (T.item (jV X sc N' G2.objs.size cl s2 H2 fp) rfl rfl rfl hc i _ s5 (kI ix σ) H5 (fun _ _=>False) I5p (fpk fr5) st5 go) (fun r s6 ⟨u,hr,h6⟩=>?_) fun _ _ f=>f.elim)))
   subst hr
   refine wpAny_bind (wpAny_mono h6 (fun _ s7 ⟨x,H7,I7,r7,y7,st7,fr7⟩=>?_) fun _ _ f=>f.elim)
   have I7':=I7.pinned (fpk fr7) (T.obj _ _ st7)
   refine wpAny_bind (wpAny_mono (hg _ _ _ _ _ _ s7 (kI ix σ) H7 x u _ I7' r7 (step x H7 y7)) (fun _ s8 ⟨σ8,H8,I8,x8,q8⟩=>?_) fun _ _ f=>f.elim)
   obtain ⟨xl,xv⟩:=x8.spec
   have keepT:∀ {σ9:St} {H9:Hp} {s9:Shared} {pl:List (Addr×Obj)},(∀ p∈c9 fp s7.heap,p∈pl)->Inv (jV X sc N' G2.objs.size cl s2 H2 fp) pl σ9 H9 s9->tn (i+1) s9.heap/\∀ b∈fp,H9 b=none:=fun {σ9 H9 s9 pl} hp I9=>by
    have pn:∀ b o,b∈fp->s7.heap.get? b=some o->s9.heap.get? b=some o/\H9 b=none:=fun b o hb e=>by
     have:=I9.pin (b,o) (AS _ (hp _ (eR hb e)))
     exact ⟨this.1,this.2.1⟩
    refine ⟨T.keep _ _ _ st7 fun b hb o e=>(pn b o hb e).1,fun b hb=>?_⟩
    obtain ⟨o,e,_⟩:=T.obj _ _ st7 b hb
    exact (pn b o hb e).2
   refine wpAny_bind (wpAny_mono (hf _ _ _ _ _ _ s8 σ8 H8 _ I8 q8) (fun ok s9 ⟨H9,I9,q9⟩=>?_) fun _ _ f=>f.elim)
   have pD:∀ {σ9:St} {H9:Hp} {s9:Shared},Inv (jV X sc N' G2.objs.size cl s2 H2 fp) ([(s2.heap.objs.size,({ cls:=.type "list",data:=.seq its.toArray k }:Obj))]++c9 fp s7.heap) σ9 H9 s9->
     s9.heap.get? s2.heap.objs.size=some { cls:=.type "list",data:=.seq its.toArray k }/\H9 s2.heap.objs.size=none:=fun {σ9 H9 s9} I9=>by
    have:=I9.pin (s2.heap.objs.size,{ cls:=.type "list",data:=.seq its.toArray k }) (AS _ (By _ (by simp)))
    exact ⟨this.1,this.2.1⟩
   cases ok with
   | false=>
    obtain ⟨m',hm,w9⟩:=(show ∃ m',m' < n/\W (i+1) m' ys H9 from by simpa using q9)
    obtain ⟨t9,fr9⟩:=keepT (fun p hp=>AS _ hp) I9
    obtain ⟨oD9,hD9⟩:=pD I9
    refine wpAny_pure ⟨rfl,m',hm,i+1,ys,H9,its,k,(I9.pins_of (pins':=[]) fun p hp=>nomatch hp).weak xl xv,t9,fr9,hD9,vv,oD9,w9⟩
   | true=>
    have q9':te σ8 H9 fun y H4=>∃ m',m' < n/\W (i+1) m' (ys++[y]) H4:=by simpa using q9
    refine wpAny_bind (wpAny_bind (wpAny_mono (he _ _ _ _ _ _ s9 σ8 H9 _ I9 q9') (fun yv sA ⟨y,HA,IA,rA,m',hm,wA⟩=>?_) fun _ _ f=>f.elim))
    obtain ⟨oDA,hDA⟩:=pD IA
    have hsz:its.toArray.size<=sizeLine:=by rw [As,<-vv.length];exact hz
    refine wpAny_bind (wpAny_list_append_plain (hsz:=hsz) ⟨_,oDA⟩ fun h9 pl9 sb9=>?_)
    have IB:Inv (jV X sc N' G2.objs.size cl s2 H2 fp) (c9 fp s7.heap) σ8 HA sA:=IA.pins_of fun p hp=>IA.pin p (AS _ (AS _ hp))
    have IC:Inv (jV X sc N' G2.objs.size cl s2 H2 fp) (c9 fp s7.heap) σ8 HA { sA with heap:=h9 }:=IB.turned (it:=s2.heap.objs.size) (t':=sA.toks) (fun b o hb e=>(sb9.2 b hb).trans e) hDA hDC (.inr (Ao _)) (fun x c q=>cellD x c q) fun p hp=>by
     have hp':p∈c9 fp s7.heap:=by
      have z:p∈([]:List (Addr×Obj))++c9 fp s7.heap:=hp
      simpa using z
     exact fD p.1 (io hp').1
    obtain ⟨t9,fr9⟩:=keepT (fun p hp=>hp) IC
    obtain ⟨k',oD'⟩:=pl9
    refine wpAny_pure (wpAny_pure ⟨rfl,m',hm,i+1,ys++[y],HA,its++[yv],k',(IC.pins_of (pins':=[]) fun p hp=>nomatch hp).weak xl xv,t9,fr9,hDA,vv.append (.cons rA .nil),?_,wA⟩)
    show h9.get? s2.heap.objs.size=_
    rw [oD']
    simp
 exact codeAny_compStart_list (loop _ rfl) (T.self X.A 0 _ _ _ (T.keep _ _ _ st2 (fun b _ o e=>old b o e)) (loop _ rfl))
theorem dH (hc:X.calm=true) (hix:oN N sc0 sc N' ix=true) (hi:PI X tg iter wi)
  (hg:∀ C cl s H fp,PG (jV X sc N' C cl s H fp) tg g) (hf:∀ C cl s H fp,PF (jV X sc N' C cl s H fp) ifs tf) (he:∀ C cl s H fp,PE (jV X sc N' C cl s H fp) elt te)
  (eN:X.N=N:=by rfl) (eS:X.env.scope=sc0:=by rfl) (hs:∀ x,foldedSetIterable iter X.env x=pure x:=by intro _;rfl) :
  PE X (.ListComp elt [⟨tg,iter,ifs,0⟩] sc pos) (zT wi g tf te ix):=by
 refine ⟨?_⟩
 intro pins s σ H Q I h
 subst eN eS
 rw [eval_ListComp]
 refine rp (use:=none) hc hix hi hg hf he hs I h fun C D H' s' L q=>?_
 obtain ⟨m,hn⟩:=L.ns
 exact ⟨m,hn,fun h' sb=>⟨.ref D,H',L.gone sb,rfl,q⟩⟩
end
end L2
namespace L2
open PySem
def Nx (Pv:Nat->List V->Hp->Prop) (n i:Nat) (ys:List V) (H:Hp):Prop:=∃ m',m' < n - i/\(m'=n - (i+1)/\i+1<=n/\Pv (i+1) ys H)
theorem Nx.mk {Pv:Nat->List V->Hp->Prop} {n i:Nat} {ys:List V} {H:Hp} (h:i < n) (p:Pv (i+1) ys H):Nx Pv n i ys H:=⟨n - (i+1),by omega,rfl,h,p⟩
theorem gy {K:PySem.W.Frag} {a:Addr} {xs:List V} {g:TG} {tf:TT} {te:TE} {ix:List (Option Nat)} {σ:St} {H:Hp} {Q:VK} (Pv:Nat->List V->Hp->Prop) (h0:Pv 0 [] H)
  (hl:∀ i ys H,i<=xs.length->Pv i ys H->SqL K H a xs/\ys.length<=sizeLine)
  (hs:∀ i x ys H,xs[i]?=some x->Pv i ys H->g x (kI ix σ) H fun σ2 H2=>ExtL (kI ix σ) σ2/\tf σ2 H2 fun b H3=>if b=true then te σ2 H3 fun y H4=>Nx Pv xs.length i (ys++[y]) H4 else Nx Pv xs.length i ys H3)
  (hd:∀ ys H,Pv xs.length ys H->∀ D,H D=none->Q (.ref D) (ax H D (.lst ys))) :
  oO (wb K a) g tf te ix σ H Q:=by
 refine ⟨fun i m ys H=>m=xs.length - i/\i<=xs.length/\Pv i ys H,⟨xs.length,by simp,Bi _,h0⟩,?_⟩
 rintro i m ys H ⟨rfl,hi,p⟩
 obtain ⟨q,hz⟩:=hl i ys H hi p
 by_cases hlt:i < xs.length
 ·refine .inr ⟨⟨xs,xs[i],q,by simp [hlt]⟩,hz,fun x H' y=>?_⟩
  obtain ⟨e,y⟩:=y
  subst e
  exact hs i x ys _ (y xs q) p
 ·have e:i=xs.length:=by omega
  subst e
  exact .inl ⟨⟨xs,q,Ao _⟩,hz,hd ys H p⟩
theorem oP {lo:Int} {n:Nat} {g:TG} {tf:TT} {te:TE} {ix:List (Option Nat)} {σ:St} {H:Hp} {Q:VK} (Pv:Nat->List V->Hp->Prop) (h0:Pv 0 [] H)
  (hl:∀ i ys H,i<=n->Pv i ys H->ys.length<=sizeLine)
  (hs:∀ i ys H,i < n->Pv i ys H->g (.int (lo+i)) (kI ix σ) H fun σ2 H2=>ExtL (kI ix σ) σ2/\tf σ2 H2 fun b H3=>if b=true then te σ2 H3 fun y H4=>Nx Pv n i (ys++[y]) H4 else Nx Pv n i ys H3)
  (hd:∀ ys H,Pv n ys H->∀ D,H D=none->Q (.ref D) (ax H D (.lst ys))) :
  oO (uq lo n) g tf te ix σ H Q:=by
 refine ⟨fun i m ys H=>m=n - i/\i<=n/\Pv i ys H,⟨n,by simp,Bi _,h0⟩,?_⟩
 rintro i m ys H ⟨rfl,hi,p⟩
 have hz:=hl i ys H hi p
 by_cases hlt:i < n
 ·refine .inr ⟨hlt,hz,fun x H' y=>?_⟩
  obtain ⟨e,y⟩:=y
  subst e y
  exact hs i ys _ hlt p
 ·have e:i=n:=by omega
  subst e
  exact .inl ⟨Ao _,hz,hd ys H p⟩
theorem cw {σ:St} {H:Hp} {A B:Hp->Prop} (h:A H):wJ σ H fun b H3=>if b=true then A H3 else B H3:=by
 show if true=true then A H else B H
 rw [if_pos rfl]
 exact h
end L2
namespace L2
open PySem PySem.Spec PyProof.Rows
def oQ (w:World) (p:Str×V) (e:DictEntry):Prop:=e.hash=hashStr w p.1/\(∃ t,e.key=.str p.1 t)/\RelV p.2 e.val
def gz (w:World) (K:PySem.W.Frag) (a:Addr) (kvs:List (Str×V)):Prop:=
 ∃ (es:Array DictEntry) (ep:Nat),K.lookup a=some { cls:=.type "dict",data:=.dict es ep }/\Paired (oQ w) kvs es.toList
theorem j2 {P:Program} {w:World}:∀ {kvs:List (Str×V)} {es:List DictEntry},Paired (oQ w) kvs es->∀ e∈es,∃ k,(strKind P w).is k e.key=true/\e.hash=(strKind P w).hash k
 | _,_,.nil,_,h=>nomatch h
 | (x,y)::r,e::es,.cons h t,e',he=>by
  rcases AG.mp he with z|z
  ·subst z
   obtain ⟨h1,⟨tk,h2⟩,h3⟩:=h
   refine ⟨x,?_,h1⟩
   rw [h2]
   show Value.isStrOf x (.str x tk)=true
   simp [Value.isStrOf]
  ·exact j2 t e' z
mutual
inductive Dt (K:PySem.W.Frag) (H:Hp):V->PyData->Prop
 | non:Dt K H .non .none
 | bl (b:Bool):Dt K H (.bl b) (.bool b)
 | int (i:Int):Dt K H (.int i) (.int i)
 | str (x:Str):Dt K H (.str x) (.str x)
 | lst {a:Addr} {xs:List V} {ds:List PyData}:SqL K H a xs->DtAll K H xs ds->Dt K H (.ref a) (.list ds)
 | tup {a:Addr} {xs:List V} {ds:List PyData}:SqT K H a xs->DtAll K H xs ds->Dt K H (.ref a) (.tuple ds)
inductive DtAll (K:PySem.W.Frag) (H:Hp):List V->List PyData->Prop
 | nil:DtAll K H [] []
 | cons {v:V} {d:PyData} {vs:List V} {ds:List PyData}:Dt K H v d->DtAll K H vs ds->DtAll K H (v::vs) (d::ds)
end
section
variable {X:Cx} {pins:List (Addr×Obj)} {σ:St} {H:Hp} {s:Shared}
mutual
theorem Dt.reads (I:Inv X pins σ H s):∀ {v:V} {d:PyData} {u:Value},Dt X.K H v d->RelV v u->∃ as,Reads s.heap u d as
 | _,_,_,.non,r=>by cases r;exact ⟨_,.none⟩
 | _,_,_,.bl b,r=>by cases r;exact ⟨_,.bool b⟩
 | _,_,_,.int i,r=>by obtain ⟨t,rfl⟩:=r;exact ⟨_,.int i t⟩
 | _,_,_,.str x,r=>by obtain ⟨t,rfl⟩:=r;exact ⟨_,.str x t⟩
 | _,_,_,.lst hS hA,r=>by
  cases r
  obtain ⟨its,rv,⟨o,n,e,c,dd,hd⟩,hz⟩:=I.list hS
  obtain ⟨as,ha⟩:=DtAll.reads I hA rv
  first
   | exact ⟨_,.list e c hd (by simpa using ha)⟩
   | exact ⟨_,.list e c dd (by simpa using ha)⟩
 | _,_,_,.tup hS hA,r=>by
  cases r
  obtain ⟨its,rv,⟨o,e,c,n,hd⟩,hz⟩:=I.tuple hS
  obtain ⟨as,ha⟩:=DtAll.reads I hA rv
  exact ⟨_,.tuple e c hd (by simpa using ha)⟩
theorem DtAll.reads (I:Inv X pins σ H s):∀ {vs:List V} {ds:List PyData} {us:List Value},DtAll X.K H vs ds->Vals vs us->∃ as,ReadsAll s.heap us ds as
 | _,_,_,.nil,.nil=>⟨_,.nil⟩
 | _,_,_,.cons h t,.cons r rr=>by
  obtain ⟨a1,h1⟩:=Dt.reads I h r
  obtain ⟨a2,h2⟩:=DtAll.reads I t rr
  exact ⟨_,.cons h1 h2⟩
end
end
section
variable {X:Cx}
inductive rEqD (K:PySem.W.Frag) (x:V) (y:V) (H:Hp) (Q:VK):Prop
 | mk (dx dy:_):Dt K H x dx->Dt K H y dy->dx.canLay0=true->dy.canLay0=true->min dx.depth dy.depth<=60->Q (.bl (PyData.eqv dx dy)) H->rEqD K x y H Q
inductive rNeD (K:PySem.W.Frag) (x:V) (y:V) (H:Hp) (Q:VK):Prop
 | mk (dx dy:_):Dt K H x dx->Dt K H y dy->dx.canLay0=true->dy.canLay0=true->min dx.depth dy.depth<=60->Q (.bl (!PyData.eqv dx dy)) H->rNeD K x y H Q
theorem op_eqD {k:Nat} (hr:Room k X.A):dG X (compareOp .Eq) (rEqD X.K):=by
 intro pins s σ H x y v u Q I rx ry h
 obtain ⟨dx,dy,h1,h2,c1,c2,dp,q⟩:=h
 obtain ⟨as,ra⟩:=h1.reads I rx
 obtain ⟨bs,rb⟩:=h2.reads I ry
 exact SeqAt.compareEq_reads ra rb c1 c2 (by have:=hr.un;omega) ⟨.bl _,H,I,rfl,q⟩
theorem op_neD {k:Nat} (hr:Room k X.A):dG X (compareOp .NotEq) (rNeD X.K):=by
 intro pins s σ H x y v u Q I rx ry h
 obtain ⟨dx,dy,h1,h2,c1,c2,dp,q⟩:=h
 obtain ⟨as,ra⟩:=h1.reads I rx
 obtain ⟨bs,rb⟩:=h2.reads I ry
 exact SeqAt.compareNe_reads ra rb c1 c2 (by have:=hr.un;omega) ⟨.bl _,H,I,rfl,q⟩
end
end L2
namespace L2
open PySem PySem.Spec PyProof.Rows
theorem Inv.turnedS {X:Cx} {pins:List (Addr×Obj)} {σ:St} {H H':Hp} {s:Shared} {h':Heap} {t':Nat} {ch:List Addr} (I:Inv X pins σ H s) (hf:∀ b∈ch,ii X pins H b)
  (k:∀ b o,b∉ch->s.heap.get? b=some o->h'.get? b=some o) (hH:∀ b o,H b=some o->H' b=some o) (hN:∀ b,b < s.heap.objs.size->H b=none->H' b=none)
  (new:∀ b o,H b=none->H' b=some o->ObjOk X.prog X.w H' h' b o):Inv X pins σ H' { s with heap:=h',toks:=t' }:=by
 refine I.step (g':=s.gens) (d':=s.drawn) (ch:=ch) (fun b hb=>?_) (fun b o _ _ hc e _=>k b o hc e) (fun b o _ _ hc e _=>⟨o.slots,k b o hc e⟩) (fun b o _ e n=>hN b (Ap e) n)
  (fun b o hc e=>⟨o,k b o hc e⟩) (fun b xs e=>hH b _ e) (fun b o u e=>hH b _ e) (fun b ps e=>⟨#[],by rw [hH b _ e];simp⟩) (fun m hm=>?_) (fun b u e=>?_) I.bare
 ·obtain ⟨_,f1,_,f3,f4,f5⟩:=hf b hb
  exact ⟨f3,f1,f4,f5⟩
 ·obtain ⟨o,es,ep,ho,r⟩:=hm
  exact ⟨o,es,ep,k _ o (fun z=>(hf _ z).2.1 rfl) ho,r⟩
 ·cases q:H b with
  | none=>exact new b u q e
  | some v=>
   rw [hH b v q] at e
   cases e
   refine (I.hok b u q).stay (fun c v hc q'=>k c v (fun z=>?_) q') (fun c q'=>hH c _ q') fun c xs q'=>hH c _ q'
   have n:=(hf c z).1
   rcases hc with rfl|hc
   ·rw [q] at n;cases n
   ·rw [hc] at n;cases n
end L2
namespace L2
open PySem PySem.Spec PyProof.Rows
section
variable {X:Cx}
theorem dQ {x:Str} {n:String} {pos:Pos} (hg:Gl X x) (hm:X.mg x=none) (hv:bootBuiltins x=some (.type n)) (hn:x≠"__name__":=by decide) (hd:(x == ("__debug__":Str))=false:=by decide):PE X (.Name x pos) (tC (.ty n)):=
 qR hg hm hv rfl hn hd
theorem iG {P:Program} {w:World}:∀ {kvs:List (Str×V)} {es:List DictEntry},Paired (oQ w) kvs es->∃ vs:List (Str×Value),Pairs (strKind P w) es vs/\vs.map (·.1)=kvs.map (·.1)
 | _,_,.nil=>⟨[],.nil,rfl⟩
 | (x,y)::r,e::es,.cons h t=>by
  obtain ⟨vs,p,q⟩:=iG (P:=P) t
  obtain ⟨h1,⟨tk,h2⟩,h3⟩:=h
  refine ⟨(x,e.val)::vs,.cons ?_ rfl p,by rw [AA,AA,q]⟩
  rw [h2]
  show Value.isStrOf x (.str x tk)=true
  simp [Value.isStrOf]
theorem iH {P:Program} {w:World}:∀ {ks:List Str} {us:List Value},us.length=ks.length->(∀ (j:Nat) k u,ks[j]?=some k->us[j]?=some u->(strKind P w).is k u=true)->Vals (ks.map V.str) us
 | [],[],_,_=>.nil
 | k::ks,[],h,_=>by cases h
 | [],u::us,h,_=>by cases h
 | k::ks,u::us,h,hv=>by
  refine .cons ?_ (iH (P:=P) (w:=w) (by simpa using h) fun j k' u' a b=>hv (j+1) k' u' (by simpa using a) (by simpa using b))
  obtain ⟨t,e⟩:=Value.isStrOf_shape (hv 0 k u rfl rfl)
  exact ⟨t,e⟩
theorem ik (hc:X.calm=true):cu X (.type "list") (fun xs H Q=>∃ a kvs,xs=[.ref a]/\gz X.w X.K a kvs/\(kvs.map (·.1)).Nodup/\(a == sysModules)=false/\kvs.length<=1000/\∀ p,H p=none->Q (.ref p) (ax H p (.lst (kvs.map fun kv=>V.str kv.1)))):=by
 intro pins s σ H xs us Q I r h
 obtain ⟨a,kvs,rfl,⟨es,ep,hk,hp⟩,nd,lo,hz,q⟩:=h
 cases r with
 | cons r0 rr=>
  cases rr
  cases r0
  have ho:=I.kIn a _ hk
  obtain ⟨vs,pv,ek⟩:=iG (P:=X.prog) hp
  have hat:s.heap.DictAt (strKind X.prog X.w) a vs ep:=⟨_,es,ho,⟨rfl,rfl,rfl⟩,rfl,fun e he'=>j2 hp e (by simpa using he'),pv,by rw [ek];exact nd⟩
  have hl:vs.length=kvs.length:=by
   have:=congrArg List.length ek
   simpa using this
  have sz:(1000:Nat)<=sizeLine:=by decide
  refine PySem.W.kdl_call (PySem.W.kdl_dict (knd:=strKind X.prog X.w) (kvs:=vs) (ep:=ep) lo) (I.ok.hd hc) hat (by omega) fun h' tk acc' c' hkeep hD hacc=>?_
  have hv:Vals ((kvs.map (·.1)).map V.str) acc'.toList:=by
   refine iH (P:=X.prog) (w:=X.w) (by rw [BA,hacc.1,Aj,hl]) fun j k u e1 e2=>?_
   obtain ⟨k',x',e3,e4⟩:=hacc.2 j u (by rw [<-Array.getElem?_toList];exact e2)
   rw [<-ek,Bp,e3] at e1
   have:k'=k:=by simpa using e1
   rw [<-this];exact e4
  have e0:kvs.map (fun kv=>V.str kv.1)=(kvs.map (·.1)).map V.str:=by rw [Bg];rfl
  refine ⟨.ref s.heap.objs.size,ax H s.heap.objs.size (.lst (kvs.map fun kv=>V.str kv.1)),I.laid (t':=tk) hkeep (Ao _) ?_,rfl,q _ (I.hok.fresh (Ao _))⟩
  refine ⟨by rw [Aj];omega,acc'.toList,c',by rw [e0];exact hv,?_⟩
  rw [hD]
open PySem.Builtin.Str in
def parts (x y:Str):List Str:=partsBetween x (occurrences x y 0 x.length (x.length+1)) y.length
theorem iI:∀ (l:List (Str×Tok)),Vals ((l.map (·.1)).map V.str) (strValues l)
 | []=>.nil
 | p::r=>.cons ⟨p.2,rfl⟩ (iI r)
end
end L2
namespace TK
def jn (sep:List Nat):List (List Nat)->List Nat
 | []=>[]
 | [t]=>t
 | t::u::r=>t++(sep++jn sep (u::r))
end TK
namespace L2
open PySem PySem.Spec PyProof.Rows
def S (l:List Nat):Str:=⟨l.toArray⟩
theorem ba (l:List Nat):(S l).length=l.length:=by show l.toArray.size=_;simp
theorem S_inj {a b:List Nat}:S a=S b↔a=b:=⟨fun h=>by
 have:(S a).cps.toList=(S b).cps.toList:=by rw [h]
 simpa [S] using this,fun h=>by rw [h]⟩
def fU (l:List Nat) (lo hi:Option Int):List Nat:=(l.drop (HT.sIx l.length 0 lo)).take (HT.sIx l.length l.length hi - HT.sIx l.length 0 lo)
theorem rq (n:Nat) (v:Option Int) (d:Nat) (hd:d<=n):HT.sIx n d v<=n:=by
 cases v with
 | none=>exact hd
 | some i=>
  show (if i < 0 then (i+(n:Int)).toNat else min i.toNat n)<=n
  split<;>omega
open PySem.Builtin.Str in
theorem j4 (lo hi:Option Int) (n:Nat):strSliceIndices lo hi 1 n=(List.range (HT.sIx n n hi - HT.sIx n 0 lo)).map (HT.sIx n 0 lo+·):=by
 have clip:∀ (v:Option Int) (d:Nat),d<=n->(match v with|none=>(d:Int)|some i=>max 0 (min (if i < 0 then i+(n:Int) else i) n))=((HT.sIx n d v:Nat):Int):=fun v d hd=>by
  cases v with
  | none=>rfl
  | some i=>
   show max 0 (min (if i < 0 then i+(n:Int) else i) (n:Int))=(((if i < 0 then (i+(n:Int)).toNat else min i.toNat n:Nat)):Int)
   by_cases h:i < 0
   ·rw [if_pos h,if_pos h];omega
   ·rw [if_neg h,if_neg h];omega
 have c1:=clip lo 0 (Bi _)
 have c2:=clip hi n (Ao _)
 rw [<-sliceRange_one]
 rw [<-c1,<-c2]
 unfold strSliceIndices
 simp only [show (1:Int) > 0 by decide,if_true]
 cases lo<;>cases hi<;>rfl
theorem gM (l:List Nat) (a:Nat):∀ k,((List.range k).map (a+·)).filterMap (fun i=>l.toArray[i]?)=(l.drop a).take k
 | 0=>by simp
 | k+1=>by
  rw [List.range_succ,AE,List.filterMap_append,gM l a k,List.take_add_one]
  congr 1
  rw [List.getElem?_drop]
  cases q:l[a+k]? with
  | none=>simp [Bq,q]
  | some v=>simp [Bq,q]
open PySem.Builtin.Str in
theorem j6 (l:List Nat) (lo hi:Option Int):(if ((1:Int) == 1 && (strSliceIndices lo hi 1 (S l).length).length == (S l).length)=true then S l else ⟨((strSliceIndices lo hi 1 (S l).length).filterMap ((S l).cps[·]?)).toArray⟩)=S (fU l lo hi):=by
 rw [ba,j4]
 have e:((List.range (HT.sIx l.length l.length hi - HT.sIx l.length 0 lo)).map (HT.sIx l.length 0 lo+·)).filterMap ((S l).cps[·]?)=fU l lo hi:=gM l _ _
 rw [e]
 by_cases c:((1:Int) == 1 && ((List.range (HT.sIx l.length l.length hi - HT.sIx l.length 0 lo)).map (HT.sIx l.length 0 lo+·)).length == l.length)=true
 ·rw [if_pos c]
  simp at c
  have h2:=rq l.length hi l.length (Ao _)
  have:fU l lo hi=l:=by
   unfold fU
   by_cases z:l.length=0
   ·have:l=[]:=List.length_eq_zero_iff.mp z
    subst this;simp
   ·have h0:HT.sIx l.length 0 lo=0:=by omega
    rw [h0,Bs,Bo (by omega)]
  rw [this]
 ·rw [if_neg c];rfl
section
variable {X:Cx}
theorem oR:ym X (fun x lo hi H Q=>∃ l,x=.str (S l)/\l.length<=100000/\Q (.str (S (fU l lo hi))) H):=by
 intro pins s σ H x v vl vu lo hi sl Q I rx hs pl pu h
 obtain ⟨l,rfl,hz,q⟩:=h
 obtain ⟨t,rfl⟩:=rx
 obtain ⟨os,hos,hcs,hds⟩:=id hs
 have sz:(100000:Nat)<=sizeLine:=by decide
 have lc:(S (fU l lo hi)).length<=sizeLine:=by
  rw [ba]
  unfold fU
  rw [AH,A0]
  omega
 refine ⟨"str",_,F.slot_str_getitem.lookup,typeIs_str _ _ _,?_⟩
 have fin:∀ (a b:Option (Int×Tok)),a.map (·.1)=lo->b.map (·.1)=hi->s.heap.IsSlice sl a b none->wpAny (model X.prog X.w) X.A (getItem (.str (S l) t) (.ref sl)) (EP X pins σ Q) X.xe s:=fun a b ea eb hS=>by
  refine wpAny_getItem_str_slice hS rfl ?_
  unfold sliceMade slicePicked
  rw [ea,eb]
  refine post_val_or_str ?_
  show (if ((1:Int) == 1 && (Builtin.Str.strSliceIndices lo hi 1 (S l).length).length == (S l).length)=true then S l else ⟨((Builtin.Str.strSliceIndices lo hi 1 (S l).length).filterMap ((S l).cps[·]?)).toArray⟩).length<=sizeLine/\∀ t' k,EP X pins σ Q (.str (if ((1:Int) == 1 && (Builtin.Str.strSliceIndices lo hi 1 (S l).length).length == (S l).length)=true then S l else ⟨((Builtin.Str.strSliceIndices lo hi 1 (S l).length).filterMap ((S l).cps[·]?)).toArray⟩) t') { s with toks:=k }
  rw [j6]
  exact ⟨lc,fun t' k=>⟨.str (S (fU l lo hi)),H,I.tok _,⟨t',rfl⟩,q⟩⟩
 cases pl with
 | none=>
  cases pu with
  | none=>exact fin none none rfl rfl ⟨os,hos,hcs,hds⟩
  | int j u=>exact fin none (some (j,u)) rfl rfl ⟨os,hos,hcs,hds⟩
 | int i u0=>
  cases pu with
  | none=>exact fin (some (i,u0)) none rfl rfl ⟨os,hos,hcs,hds⟩
  | int j u=>exact fin (some (i,u0)) (some (j,u)) rfl rfl ⟨os,hos,hcs,hds⟩
theorem ml (c:Nat) (l:List Nat):(!(Builtin.Str.occurrences (S l) (S [c]) 0 (S l).length 1).isEmpty)=decide (c∈l):=by
 rw [Bc,StrLaws.found_iff,decide_eq_true_iff]
 constructor
 ·rintro ⟨i,hi,e⟩
  rw [ba,ba] at hi
  have hi':i < l.length:=by simp at hi;omega
  unfold Builtin.Str.subAt at e
  have e':l.toArray.extract i (i+1)=#[c]:=eq_of_beq e
  have:(l.drop i).take 1=[c]:=by
   have:=congrArg Array.toList e'
   simpa [List.extract_eq_drop_take] using this
  have hm:c∈(l.drop i).take 1:=by rw [this];simp
  exact List.mem_of_mem_drop (List.mem_of_mem_take hm)
 ·intro h
  obtain ⟨i,hi,e⟩:=List.getElem_of_mem h
  refine ⟨i,by rw [ba,ba];simp;omega,?_⟩
  unfold Builtin.Str.subAt
  have:l.toArray.extract i (i+1)=#[c]:=by
   apply Array.toList_inj.mp
   rw [Array.toList_extract]
   simp [List.extract_eq_drop_take,List.drop_eq_getElem_cons hi,e]
  show (l.toArray.extract i (i+1) == #[c])=true
  rw [this];exact beq_self_eq_true _
theorem dz:∀ {ys:List Str} {us:List Value},Vals (ys.map V.str) us->StrsAre us ys
 | [],_,.nil=>.nil
 | n::r,_,.cons h t=>by
  obtain ⟨tk,rfl⟩:=h
  exact .cons n tk (dz t)
theorem j7 (sep:List Nat) (ts:List (List Nat)):Txt.join (S sep) (ts.map S)=S (TK.jn sep ts):=by
 have go:∀ (r:List (List Nat)) (acc:List Nat),(r.map S).foldl (fun acc p=>acc++(S sep).cps++p.cps) acc.toArray=(acc++(r.map (sep++·)).flatten).toArray:=by
  intro r
  induction r with
  | nil=>intro acc;simp
  | cons t r ih=>
   intro acc
   rw [AA,List.foldl_cons]
   have:acc.toArray++(S sep).cps++(S t).cps=(acc++sep++t).toArray:=by simp [S]
   rw [this,ih]
   simp
 have fl:∀ (t:List Nat) (r:List (List Nat)),TK.jn sep (t::r)=t++(r.map (sep++·)).flatten:=by
  intro t r
  induction r generalizing t with
  | nil=>simp [TK.jn]
  | cons u r ih=>
   show t++(sep++TK.jn sep (u::r))=_
   rw [ih u]
   simp
 cases ts with
 | nil=>rfl
 | cons t r=>
  show (⟨((t::r).map S |>.drop 1).foldl (fun acc p=>acc++(S sep).cps++p.cps) (((t::r).map S).headD Str.empty).cps⟩:Str)=_
  rw [fl]
  have:=go r t
  show (⟨(r.map S).foldl (fun acc p=>acc++(S sep).cps++p.cps) t.toArray⟩:Str)=_
  rw [this]
  rfl
theorem cE:uy X "str.join" (fun x xs H Q=>∃ sep a ts,x=.str (S sep)/\xs=[.ref a]/\SqL X.K H a (ts.map fun t=>V.str (S t))/\(ts.map List.length).sum+ts.length*sep.length<=100000/\Q (.str (S (TK.jn sep ts))) H):=by
 intro pins s σ H x xs v us Q I rx rv h
 obtain ⟨sep,a,ts,rfl,rfl,hS,hz,q⟩:=h
 obtain ⟨t,rfl⟩:=rx
 obtain ⟨u,rfl,ru⟩:=rv.one
 cases ru
 obtain ⟨its,r,pl,hz2⟩:=I.list hS
 have e:(ts.map fun t=>V.str (S t))=(ts.map S).map V.str:=by rw [Bg];rfl
 rw [e] at r
 refine join_list pl.isList (ys:=ts.map S) (by simpa using dz r) ?_ fun t' k=>?_
 ·have:((ts.map S).map (·.length)).sum=(ts.map List.length).sum:=by
   rw [Bg]
   congr 1
  rw [this,Aj,ba]
  omega
 ·rw [j7]
  exact ⟨.str (S (TK.jn sep ts)),H,I.tok _,⟨t',rfl⟩,q⟩
end
end L2
namespace L2
open PySem PySem.Spec PyProof.Rows
section
variable {X:Cx}
open PySem.Builtin.Str in
theorem dh:uy X "str.split" (fun x xs H Q=>∃ a b,x=.str a/\xs=[.str b]/\(b.length == 0)=false/\a.length<=100000/\∀ p,H p=none->Q (.ref p) (ax H p (.lst ((Txt.split a b).map V.str)))):=by
 intro pins s σ H x xs v us Q I rx rv h
 obtain ⟨a,b,rfl,rfl,h0,h3,q⟩:=h
 obtain ⟨t,rfl⟩:=rx
 obtain ⟨u,rfl,ru⟩:=rv.one
 obtain ⟨t2,rfl⟩:=ru
 have sz:(100002:Nat)<=sizeLine:=by decide
 have hp:(partsBetween a (occurrences a b 0 a.length (a.length+1)) b.length).length<=100002:=by
  rw [PySem.length_partsBetween]
  have:=StrLaws.occ_length_le a b 0 a.length (a.length+1)
  omega
 cases h1:(decide (a.length < b.length) || decide (Builtin.Str.strKind a < Builtin.Str.strKind b))
 ·cases hf:(occurrences a b 0 a.length (a.length+1)).isEmpty
  ·have e1:Txt.split a b=parts a b:=by
    unfold Txt.split
    rw [h1,hf]
    rfl
   refine call_meets F.slot_str_split (typeIs_str _ _ _) F.entry_str_split (F.args_str_split_2 _ _) (meets_str_split_sep a b t t2 h1 h0 hf (by omega) (by omega)) ?_
   show PySem.wants _ _ _ { s with toks:=_,heap:=s.heap.push { cls:=.type "list",data:=.seq (strsFrom s.toks (parts a b)).toArray } }
   rw [strsFrom_eq]
   have e:=numbered_texts s.toks (parts a b)
   have v0:=iI (numbered s.toks (parts a b))
   rw [e] at v0
   rw [e1] at q
   refine ⟨.ref s.heap.objs.size,_,I.lnew (ys:=(parts a b).map V.str) v0 (by rw [Aj];unfold parts;omega),rfl,q _ (I.hok.fresh (Ao _))⟩
  ·have e1:Txt.split a b=[a]:=by
    unfold Txt.split
    rw [h1,hf]
    rfl
   rw [e1] at q
   refine call_meets F.slot_str_split (typeIs_str _ _ _) F.entry_str_split (F.args_str_split_2 _ _) (meets_str_split_not_found a b t t2 h1 h0 hf) ?_
   exact ⟨.ref s.heap.objs.size,_,I.lnew (ys:=[V.str a]) (its:=[.str a t]) (t':=s.toks) (.cons ⟨t,rfl⟩ .nil) (by show 1<=sizeLine;decide),rfl,q _ (I.hok.fresh (Ao _))⟩
 ·have e1:Txt.split a b=[a]:=by
   unfold Txt.split
   rw [h1]
   rfl
  rw [e1] at q
  refine call_meets F.slot_str_split (typeIs_str _ _ _) F.entry_str_split (F.args_str_split_2 _ _) (meets_str_split_cannot_occur a b t t2 h1) ?_
  exact ⟨.ref s.heap.objs.size,_,I.lnew (ys:=[V.str a]) (its:=[.str a t]) (t':=s.toks) (.cons ⟨t,rfl⟩ .nil) (by show 1<=sizeLine;decide),rfl,q _ (I.hok.fresh (Ao _))⟩
variable {o e:Expr} {es:List Expr} {to te:TE} {t:TA} {name:Str} {apos cpos:Pos} {T id:String} {r:V->List V->Hp->VK->Prop}
end
theorem iJ (c:Nat):∀ parts:List Str,(parts.map Str.length).sum<=(Str.join ⟨#[c]⟩ parts).length
 | []=>Ao _
 | [p]=>by simp [Str.join]
 | p::q::r=>by
  have ih:=iJ c (q::r)
  have:(Str.join ⟨#[c]⟩ (p::q::r)).length=p.length+1+(Str.join ⟨#[c]⟩ (q::r)).length:=by
   show (p++⟨#[c]⟩++Str.join ⟨#[c]⟩ (q::r)).cps.size=_
   simp only [Str.cps_append,Array.size_append]
   rfl
  rw [this,AA,BF]
  omega
end L2
namespace L2
open PySem PySem.Spec PyProof.Rows
section
variable {X:Cx}
theorem da {T:String}:cu X (.builtin "isinstance") (fun xs H Q=>∃ x t b,xs=[x,.ty T]/\eF X.K H x t/\PySem.W.kitOne X.K t (.type T)=some b/\Q (.bl b) H):=by
 intro pins s σ H xs us Q I r h
 obtain ⟨x,t,b,rfl,ty,e,q⟩:=h
 cases r with
 | cons r0 rr=>
  cases rr with
  | cons r1 rr=>
   cases rr
   cases r1
   exact iy I r0 ty e fun tk=>⟨.bl b,H,I.tok _,rfl,q⟩
theorem oS:dG X (binaryOp .FloorDiv) (rI (fun _ j=>0 < j/\j < 18446744073709551616) fun i j=>.int (i / j)):=wx fun i j _ _ _ _ _ hc q=>by
 have h1:(0:Int) < j:=hc.1
 have h2:j < 18446744073709551616:=hc.2
 refine floordiv_int (by omega) (by rw [Int.fdiv_eq_ediv_of_nonneg i (by omega)];exact q) (.inl (PyProof.noPylong_of_log2 ?_))
 have h3:j.natAbs≠0:=by omega
 have:j.natAbs.log2 < 64:=(Nat.log2_lt h3).mpr (by show j.natAbs < 2 ^ 64;omega)
 omega
def yp (l:List Nat):It:=⟨fun i _=>i < l.length,fun i H y H'=>H'=H/\∃ h:i < l.length,y=.str (S [l[i]]),fun i _=>l.length<=i⟩
theorem k7 {P:Program} {w:World} {K:PySem.W.Frag} {tg:Expr} (l:List Nat) (t:Tok) (it:Addr):kO P w K tg (yp l) [it] it (fun i h=>h.IsStrIter it "str_ascii_iterator" (S l) t i) where
 mem:=by simp
 obj:=fun i h st b hb=>by
  have e:b=it:=by simpa using hb
  subst e
  obtain ⟨o,e,c,d⟩:=st
  exact ⟨o,e,fun v z=>by rw [d] at z;cases z⟩
 keep:=fun i h h' st k=>let ⟨o,ho,r⟩:=st;⟨o,k it (by simp) o ho,r⟩
 item:=by
  intro X hP hw hK hc i pins s σ H E I hf st hg
  subst hP hw hK
  have hg':i < l.length:=hg
  obtain ⟨f0,f1,f2,f3,f4,f5⟩:=hf it (by simp)
  refine wpAny_pyNext_ascii_item st (c:=l[i]) (by show l.toArray[i]?=_;simp [hg']) fun h' st' sb=>?_
  have I1:Inv X pins σ H { s with heap:=h',toks:=s.toks+1 }:=I.turned (fun b o hb e=>(sb.2 b hb).trans e) f0 f1 f3 f4 f5
  obtain ⟨o,e,c,d⟩:=id st'
  exact ⟨_,rfl,jZ (s:={ s with heap:=h',toks:=s.toks+1 }) e c d (by decide) ⟨.str (S [l[i]]),H,I1,⟨_,rfl⟩,⟨rfl,hg',rfl⟩,st',fun b hb=>(hf b hb).1⟩⟩
 done:=by
  intro X hP hw hK hc i pins s σ H E I hf st hg
  subst hP hw hK
  have hg':l.length<=i:=hg
  obtain ⟨f0,f1,f2,f3,f4,f5⟩:=hf it (by simp)
  exact wpAny_pyNext_ascii_end (I.ok.hd hc) st (by show l.toArray[i]?=_;simp [hg']) fun h' eb=>⟨rfl,I.turned (t':=s.toks) (fun b o hb e=>eb b o hb e) f0 f1 f3 f4 f5⟩
 self:=fun _ _ _ _ _ st h=>wpAny_pyIter_striter_ascii st h
theorem nv {P:Program} {w:World} {K:PySem.W.Frag} {tg:Expr} (l:List Nat) (t:Tok) (it:Addr):kO P w K tg (yp l) [it] it (fun i h=>h.IsStrIter it "str_iterator" (S l) t i) where
 mem:=by simp
 obj:=fun i h st b hb=>by
  have e:b=it:=by simpa using hb
  subst e
  obtain ⟨o,e,c,d⟩:=st
  exact ⟨o,e,fun v z=>by rw [d] at z;cases z⟩
 keep:=fun i h h' st k=>let ⟨o,ho,r⟩:=st;⟨o,k it (by simp) o ho,r⟩
 item:=by
  intro X hP hw hK hc i pins s σ H E I hf st hg
  subst hP hw hK
  have hg':i < l.length:=hg
  obtain ⟨f0,f1,f2,f3,f4,f5⟩:=hf it (by simp)
  refine wpAny_pyNext_wide_item st (c:=l[i]) (by show l.toArray[i]?=_;simp [hg']) fun h' st' sb=>?_
  have I1:Inv X pins σ H { s with heap:=h',toks:=s.toks+1 }:=I.turned (fun b o hb e=>(sb.2 b hb).trans e) f0 f1 f3 f4 f5
  obtain ⟨o,e,c,d⟩:=id st'
  exact ⟨_,rfl,jZ (s:={ s with heap:=h',toks:=s.toks+1 }) e c d (by decide) ⟨.str (S [l[i]]),H,I1,⟨_,rfl⟩,⟨rfl,hg',rfl⟩,st',fun b hb=>(hf b hb).1⟩⟩
 done:=by
  intro X hP hw hK hc i pins s σ H E I hf st hg
  subst hP hw hK
  have hg':l.length<=i:=hg
  obtain ⟨f0,f1,f2,f3,f4,f5⟩:=hf it (by simp)
  exact wpAny_pyNext_wide_end (I.ok.hd hc) st (by show l.toArray[i]?=_;simp [hg']) fun h' eb=>⟨rfl,I.turned (t':=s.toks) (fun b o hb e=>eb b o hb e) f0 f1 f3 f4 f5⟩
 self:=fun _ _ _ _ _ st h=>wpAny_pyIter_striter_wide st h
inductive tY (R:It->Hp->Prop) (x:V) (H1:Hp):Prop
 | mk (l:_):x=.str (S l)->R (yp l) H1->tY R x H1
def yR (tl:TE):TI:=fun σ H R=>tl σ H fun x H1=>tY R x H1
theorem oU {tg l:Expr} {tl:TE} (hl:PE X l tl):PI X tg l (yR tl):=by
 refine ⟨?_⟩
 intro pins s σ H R I h
 refine bA (hl pins s σ H _ I h) fun v s1 ⟨x,H1,I1,r1,q1⟩=>?_
 obtain ⟨l,e,q⟩:=q1
 subst e
 obtain ⟨t,rfl⟩:=r1
 have fp:∀ b∈[s1.heap.objs.size],ii X pins H1 b:=fun b hb=>by
  have e:b=s1.heap.objs.size:=by simpa using hb
  subst e
  exact I1.fpOk (Ao _) (I1.hok.fresh (Ao _))
 cases ha:(S l).cps.all (· < 128)
 ·exact wpAny_pyIter_wide ha ⟨s1.heap.objs.size,[s1.heap.objs.size],_,_,H1,rfl,I1.kept (t':=s1.toks) fun b o e=>Al _ e,nv l t _,⟨_,AB _ rfl,rfl,rfl⟩,fp,q⟩
 ·exact wpAny_pyIter_ascii ha ⟨s1.heap.objs.size,[s1.heap.objs.size],_,_,H1,rfl,I1.kept (t':=s1.toks) fun b o e=>Al _ e,k7 l t _,⟨_,AB _ rfl,rfl,rfl⟩,fp,q⟩
theorem oV {l:List Nat} {g:TG} {tf:TT} {te:TE} {ix:List (Option Nat)} {σ:St} {H:Hp} {Q:VK} (Pv:Nat->List V->Hp->Prop) (h0:Pv 0 [] H)
  (hl:∀ i ys H,i<=l.length->Pv i ys H->ys.length<=sizeLine)
  (hs:∀ i ys H (h:i < l.length),Pv i ys H->g (.str (S [l[i]])) (kI ix σ) H fun σ2 H2=>ExtL (kI ix σ) σ2/\tf σ2 H2 fun b H3=>if b=true then te σ2 H3 fun y H4=>Nx Pv l.length i (ys++[y]) H4 else Nx Pv l.length i ys H3)
  (hd:∀ ys H,Pv l.length ys H->∀ D,H D=none->Q (.ref D) (ax H D (.lst ys))) :
  oO (yp l) g tf te ix σ H Q:=by
 refine ⟨fun i m ys H=>m=l.length - i/\i<=l.length/\Pv i ys H,⟨l.length,by simp,Bi _,h0⟩,?_⟩
 rintro i m ys H ⟨rfl,hi,p⟩
 have hz:=hl i ys H hi p
 by_cases hlt:i < l.length
 ·refine .inr ⟨hlt,hz,fun x H' y=>?_⟩
  obtain ⟨e,h,y⟩:=y
  subst e y
  exact hs i ys _ hlt p
 ·have e:i=l.length:=by omega
  subst e
  exact .inl ⟨Ao _,hz,hd ys H p⟩
theorem gN (hc:X.calm=true):cu X (.builtin "all") (fun xs H Q=>∃ (p:Addr) (bs:List Bool),xs=[.ref p]/\SqL X.K H p (bs.map V.bl)/\Q (.bl (bs.all id)) H):=by
 intro pins s σ H xs us Q I r h
 obtain ⟨p,bs,rfl,hS,q⟩:=h
 obtain ⟨u,rfl,rx⟩:=fh r
 cases rx
 obtain ⟨its,rv,pl,hz⟩:=I.list hS
 have hlen:=rv.length
 rw [Aj] at hlen
 have hne:p≠s.heap.objs.size:=by
  obtain ⟨o,ho,_⟩:=pl.isList
  exact AM (Ap ho)
 refine call_all_walk (wpAny_pyIter_list pl.isList ?_)
 refine ⟨s.heap.objs.size,_,_,_,_,_,fun i=>bs.getD i true,rfl,Walks.list (A:=X.A.in1) (I.ok.hd hc) s.heap.objs.size p hne its.toArray,⟨⟨_,AB _ rfl,rfl,rfl⟩,pl.isList.at fun o e=>Al _ e⟩,?_,?_⟩
 ·intro i v s' Q' E' hv hq
  have hv':its[i]?=some v:=by simpa using hv
  have hlt:i < its.length:=(An.mp hv').1
  have hb:i < bs.length:=by omega
  obtain ⟨u,hu,ru⟩:=rv.get (i:=i) (x:=.bl bs[i]) (by simp [hb])
  rw [hv'] at hu
  cases hu
  cases ru
  refine wpAny_truthy_bool ?_
  have e:bs.getD i true=bs[i]:=by simp [List.getD,hb]
  dsimp only at hq
  rw [e] at hq
  exact hq
 ·intro h' tk hk
  have e:(List.range its.toArray.size).all (fun i=>bs.getD i true)=bs.all id:=by
   rw [As,<-hlen,Bc,Bm,Bm]
   constructor
   ·intro z x hx
    obtain ⟨i,hi,e⟩:=List.getElem_of_mem hx
    have:=z i (Bz.mpr hi)
    rw [show bs.getD i true=bs[i] by simp [List.getD,hi],e] at this
    exact this
   ·intro z i hi
    have hi':=Bz.mp hi
    rw [show bs.getD i true=bs[i] by simp [List.getD,hi']]
    exact z _ (List.getElem_mem hi')
  rw [e]
  exact ⟨.bl _,H,I.kept fun b o e=>hk b o (fun z=>absurd (Ap e) (by rw [AK.mp z];exact Be _)) (Al _ e),rfl,q⟩
end
end L2
namespace L2
open PySem PySem.Spec PyProof.Rows
section
variable {κ:Type} [DecidableEq κ]
def dA (kvs:List (κ×V)) (k:κ):Option V:=(kvs.find? fun kv=>decide (kv.1=k)).map (·.2)
def j8 (kvs:List (κ×V)) (k:κ) (v:V):List (κ×V):=
 if (kvs.any fun kv=>decide (kv.1=k))=true then kvs.map (fun kv=>if kv.1=k then (kv.1,v) else kv) else kvs++[(k,v)]
theorem j9 {p:κ×V} {r:List (κ×V)} {k:κ} (e:p.1=k):dA (p::r) k=some p.2:=by simp [dA,Bu,e]
theorem ka {p:κ×V} {r:List (κ×V)} {k:κ} (e:¬ p.1=k):dA (p::r) k=dA r k:=by simp [dA,Bu,e]
theorem kb (kvs:List (κ×V)) (k:κ) (v:V):(j8 kvs k v).length<=kvs.length+1:=by
 unfold j8
 split
 ·rw [Aj];omega
 ·rw [Ah,Ai,Ak];omega
theorem RelO.getD {o:Option V} {u:Option Value} {d:V} {d':Value} (r:RelO o u) (rd:RelV d d'):RelV (o.getD d) (u.getD d'):=by
 cases o with
 | none=>cases u with
  | none=>exact rd
  | some _=>exact (show False from r).elim
 | some _=>cases u with
  | none=>exact (show False from r).elim
  | some _=>exact r
theorem KV.val {kvs:List (κ×V)} {vs:List (κ×Value)} (r:KV kvs vs) (k:κ):RelO (dA kvs k) (valueAt vs k):=by
 unfold KV at r
 induction r with
 | nil=>exact True.intro
 | @cons p q ps qs h t ih=>
  obtain ⟨h1,h2⟩:=h
  by_cases e:p.1=k
  ·have e':q.1=k:=h1.symm.trans e
   have b:valueAt (q::qs) k=some q.2:=by simp [valueAt,Bu,e']
   rw [j9 e,b];exact h2
  ·have e':¬ q.1=k:=fun z=>e (h1.trans z)
   have b:valueAt (q::qs) k=valueAt qs k:=by simp [valueAt,Bu,e']
   rw [ka e,b];exact ih
theorem KV.any {kvs:List (κ×V)} {vs:List (κ×Value)} (r:KV kvs vs) (k:κ):(kvs.any fun kv=>decide (kv.1=k))=vs.any fun kv=>decide (kv.1=k):=by
 unfold KV at r
 induction r with
 | nil=>rfl
 | cons h t ih=>rw [BG,BG,ih,h.1]
theorem KV.repl {kvs:List (κ×V)} {vs:List (κ×Value)} (r:KV kvs vs) (k:κ) {y:V} {u:Value} (ry:RelV y u) :
  KV (kvs.map fun kv=>if kv.1=k then (kv.1,y) else kv) (vs.map fun kv=>if kv.1=k then (kv.1,u) else kv):=by
 unfold KV at r ⊢
 induction r with
 | nil=>exact .nil
 | @cons p q ps qs h t ih=>
  rw [AA,AA]
  refine .cons ?_ ih
  obtain ⟨h1,h2⟩:=h
  by_cases e:p.1=k
  ·rw [if_pos e,if_pos (h1.symm.trans e)];exact ⟨h1,ry⟩
  ·rw [if_neg e,if_neg (fun z=>e (h1.trans z))];exact ⟨h1,h2⟩
theorem KV.put {kvs:List (κ×V)} {vs:List (κ×Value)} (r:KV kvs vs) (k:κ) {y:V} {u:Value} (ry:RelV y u):KV (j8 kvs k y) (stored vs k u):=by
 unfold j8 stored
 rw [r.any k]
 by_cases e:(vs.any fun kv=>decide (kv.1=k))=true
 ·rw [if_pos e,if_pos e];exact r.repl k ry
 ·rw [if_neg e,if_neg e];exact Paired.snoc r ⟨rfl,ry⟩
end
theorem mm {P:Program} {w:World} {k:cO} {u:Value} (r:RelV (kV k) u):(bz P w).is k u=true:=by
 cases k with
 | inl i=>obtain ⟨t,e⟩:=(show ∃ t,u=Value.int i t from r);subst e;exact jW P w i t
 | inr x=>obtain ⟨t,e⟩:=(show ∃ t,u=Value.str x t from r);subst e;exact jX P w x t
theorem iK {P:Program} {w:World}:∀ {ks:List cO} {us:List Value},Vals (ks.map kV) us->ItemsAre (bz P w) ks us
 | [],_,r=>by rw [List.map_nil] at r;cases r;exact .nil
 | k::ks,_,r=>by
  rw [AA] at r
  cases r with
  | cons h t=>exact .cons (mm h) (iK t)
abbrev KT (H:Hp):List (List cO×V)->List (List cO×Addr×Value)->Prop:=Paired fun p q=>p.1=q.1/\H q.2.1=some (.tup (p.1.map kV))/\RelV p.2 q.2.2
theorem KT.val {H:Hp} {kvs:List (List cO×V)} {xs:List (List cO×Addr×Value)} (r:KT H kvs xs) (k:List cO):RelO (dA kvs k) ((atKey xs k).map (·.2)):=by
 induction r with
 | nil=>exact True.intro
 | @cons p q ps qs h t ih=>
  obtain ⟨h1,_,h2⟩:=h
  by_cases e:p.1=k
  ·have e':q.1=k:=h1.symm.trans e
   have b:atKey (q::qs) k=some q.2:=by simp [atKey,Bu,e']
   rw [j9 e,b];exact h2
  ·have e':¬ q.1=k:=fun z=>e (h1.trans z)
   have b:atKey (q::qs) k=atKey qs k:=by simp [atKey,Bu,e']
   rw [ka e,b];exact ih
section
variable {P:Program} {w:World} {H:Hp} {h:Heap} {a:Addr}
theorem tZ {u:HO} (ok:HOk P w H h) (e:Rd H a u):ObjOk P w H h a u:=e.ok ok
theorem kc {kvs:List (cO×V)} (ok:HOk P w H h) (e:Rd H a (.dK kvs)):kvs.length<=sizeLine/\(a == sysModules)=false/\∃ vs,KV kvs vs/\h.DictOf (bz P w) a vs:=
 show ObjOk P w H h a (.dK kvs) from tZ ok e
theorem wK {kvs:List (cO×V)} (ok:HOk P w H h) (e:H a=some (.dK kvs)):kvs.length<=sizeLine/\(a == sysModules)=false/\∃ vs,KV kvs vs/\h.DictOf (bz P w) a vs:=kc ok (.inl e)
theorem k8 {ks:List cO} (ok:HOk P w H h) (e:H a=some (.tup (ks.map kV))):(tupleKind (bz P w)).is h ks a:=by
 obtain ⟨_,its,r,o,h1,h2,n,h3⟩:=(show ObjOk P w H h a (.tup (ks.map kV)) from ok a _ e)
 exact ⟨o,its.toArray,n,h1,(Prod.mk.inj h2).1,h3,by simpa using iK r⟩
theorem mn {kvs:List (List cO×V)} (ok:HOk P w H h) (e:Rd H a (.dT kvs)):kvs.length<=sizeLine/\(a == sysModules)=false /\
  ∃ xs,KT H kvs xs/\h.DictOfH (tupleKind (bz P w)) a xs:=by
 obtain ⟨z,y,xs,r,o,es,ep,h1,h2,h3,h4,h5⟩:=(show ObjOk P w H h a (.dT kvs) from tZ ok e)
 refine ⟨z,y,xs,r,o,es,ep,h1,h2,h3,h4,fun x hx=>?_,h5⟩
 have all:∀ {l:List (List cO×V)} {m:List (List cO×Addr×Value)},KT H l m->∀ x∈m,(tupleKind (bz P w)).is h x.1 x.2.1:=by
  intro l m q
  induction q with
  | nil=>intro x hx;exact nomatch hx
  | @cons p q ps qs hq t ih=>
   intro x hx
   rcases AG.mp hx with e|hx
   ·subst e
    exact k8 ok (by rw [<-hq.1];exact hq.2.1)
   ·exact ih x hx
 exact all r x hx
end
def DGet (H:Hp) (a:Addr) (y:V) (r:Option V):Prop:=
 (∃ kvs k,Rd H a (.dK kvs)/\y=kV k/\r=dA kvs k)\/∃ kvs k b,Rd H a (.dT kvs)/\y=.ref b/\H b=some (.tup (k.map kV))/\r=dA kvs k
theorem DGet.k {H:Hp} {a:Addr} {kvs:List (cO×V)} {k:cO} (e:H a=some (.dK kvs)):DGet H a (kV k) (dA kvs k):=.inl ⟨kvs,k,.inl e,rfl,rfl⟩
section
variable {X:Cx} {pins:List (Addr×Obj)} {σ:St} {H:Hp} {s:Shared} {a:Addr} {y v:V} {u r:Value} {o:Option V} {A:Around} {E:Value->Shared->Prop}
theorem Inv.big (I:Inv X pins σ H s):sysModules < s.heap.objs.size:=by
 have h:mainGlobals < s.heap.objs.size:=(I.mod.glob.keeps I.bk).lt
 exact Nat.lt_trans (by decide) h
theorem ny {Q:Value->Shared->Prop} (hu:A.units+1 < cLine) (I:Inv X pins σ H s) (g:DGet H a y (some v)) (ry:RelV y u) (h:∀ w' s',Inv X pins σ H s'->RelV v w'->Q w' s') :
  wpAny (model X.prog X.w) A (getItem (.ref a) u) Q E s:=by
 rcases g with ⟨kvs,k,e,ey,l⟩|⟨kvs,k,b,e,ey,eb,l⟩
 ·subst ey
  obtain ⟨z,hd,vs,rel,dd⟩:=kc I.hok e
  obtain ⟨w',hw,rw'⟩:=RelO.some_of (v:=v) (o:=valueAt vs k) (by rw [l];exact rel.val k)
  exact wpAny_getItem_of (mm ry) dd.mapOf hw (h w' _ (I.tok _) rw')
 ·subst ey
  cases (show u=Value.ref b from ry)
  obtain ⟨z,hd,xs,rel,dd⟩:=mn I.hok e
  obtain ⟨w',hw,rw'⟩:=RelO.some_of (v:=v) (o:=(atKey xs k).map (·.2)) (by rw [l];exact rel.val k)
  obtain ⟨p,hp,hp2⟩:=Option.map_eq_some_iff.mp hw
  refine wpAny_getItem_heap (tupleKind_room_in1 hu) (k8 I.hok eb) dd hp ?_
  rw [hp2]
  exact h w' _ (I.tok _) rw'
theorem rB {h':Heap} {t':Nat} {ob:HO} (I:Inv X pins σ H s) (mu:wj (H a)) (hs:Heap.SameBut a s.heap h') (he:∃ q,h'.get? a=some q) (new:ObjOk X.prog X.w (ax H a ob) h' a ob) :
  Inv X pins σ (ax H a ob) { s with heap:=h',toks:=t' }:=
 I.write (x:=a) (e:=a) mu (.inl rfl) (fun b q hb z=>(hs.2 b hb).trans z) he new
theorem uE {P:Program} {w:World} {H':Hp} {h':Heap} {kvs:List (cO×V)} {vs:List (cO×Value)} (z:kvs.length<=sizeLine) (hd:(a == sysModules)=false) (rel:KV kvs vs) (dd:h'.DictOf (bz P w) a vs) :
  ObjOk P w H' h' a (.dK kvs):=⟨z,hd,vs,rel,dd⟩
end
def wL (i:Expr):Prop:=∀ ov iv,subscripted i false ov iv=operate [ov,iv] (getItem ov iv)
theorem rC {prog:Program} {w:World} {A:Around} {E:Value->Shared->Prop} {s:Shared} {env:Env} {value slice:Expr} {pos:Pos} {T id:String} {Q:Value->Shared->Prop}
  (hl:typeLookup (.type T) "__getitem__"=pure (some (.builtin id))) (hs:wL slice)
  (h:wpAny (model prog w) A (eval value env) (fun o s₁=>wpAny (model prog w) A (eval slice env) (fun i s₂=>s₂.TypeIs o T/\wpAny (model prog w) A (getItem o i) Q E s₂) E s₁) E s) :
  wpAny (model prog w) A (eval (.Subscript value slice pos) env) Q E s:=by
 refine Subscript_ (wpAny_mono h (fun o s₁ h₁=>wpAny_mono h₁ (fun i s₂ h₂=>?_) fun _ _ x=>x) fun _ _ x=>x)
 obtain ⟨hT,h₂⟩:=h₂
 unfold subscriptTail
 refine wpAny_bind ?_
 rw [getitemInPython_of_ne hT.not_modules]
 refine wpAny_bind (wpAny_specialOf hT hl ?_)
 have fin:wpAny (model prog w) A (subscripted slice false o i) (fun r s₃=>wpAny (model prog w) A (letTemporaryGo value o r >>= fun _=>pure r) Q E s₃) E s₂:=by
  rw [hs o i]
  exact wpAny_operating (wpAny_mono h₂ (fun r s₃ h₃=>wpAny_bind (wpAny_letTemporaryGo (wpAny_pure h₃))) fun _ _ x=>x)
 first
  | exact wpAny_pure (wpAny_bind fin)
  | exact wpAny_bind (wpAny_pure (wpAny_bind fin))
  | exact wpAny_bind fin
theorem ke {X:Cx} {pins:List (Addr×Obj)} {σ:St} {H:Hp} {s:Shared} {a:Addr} {y:V} {o:Option V} (I:Inv X pins σ H s) (g:DGet H a y o):s.TypeIs (.ref a) "dict":=by
 rcases g with ⟨kvs,k,e,_,_⟩|⟨kvs,k,b,e,_,_,_⟩
 ·obtain ⟨_,_,vs,_,dd⟩:=kc I.hok e
  exact dd.typeIs
 ·obtain ⟨_,_,xs,_,dd⟩:=mn I.hok e
  exact dd.typeIs
inductive oW (Q:VK) (x:V) (y:V) (H2:Hp):Prop
 | mk (a v:_):x=.ref a->DGet H2 a y (some v)->Q v H2->oW Q x y H2
def wM (td ty:TE):TE:=fun σ H Q=>td σ H fun x H1=>ty σ H1 fun y H2=>oW Q x y H2
section
variable {X:Cx} {o i e value:Expr} {pos pos' tpos:Pos} {td ty tv:TE}
theorem rD (hu:X.A.units+1 < cLine) (ho:PE X o td) (hi:PE X i ty) (hs:wL i):PE X (.Subscript o i pos) (wM td ty):=by
 refine ⟨?_⟩
 intro pins s σ H Q I h
 refine rC PySem.F.slot_dict_getitem.lookup hs (bA (ho pins s σ H _ I h) fun u s1 ⟨x,H1,I1,rx,q1⟩=>bA (hi pins s1 σ H1 _ I1 q1) fun iv s2 ⟨y,H2,I2,ry,a,v,ex,g,q2⟩=>?_)
 subst ex
 obtain rfl:u=Value.ref a:=rx
 exact ⟨ke I2 g,ny hu I2 g ry fun w' s3 I3 rw'=>⟨v,H2,I3,rw',q2⟩⟩
end
theorem kf {P:Program} {w:World} {H:Hp} (h:Heap) (hb:sysModules < h.objs.size):ObjOk P w H (h.push { cls:=.type "dict",data:=.dict #[] }) h.objs.size (.dK []):=
 ⟨Bi _,beq_eq_false_iff_ne.mpr (Ne.symm (AM hb)),[],.nil,Heap.DictOf.new h⟩
def uF:TE:=fun _ H Q=>∀ p,H p=none->Q (.ref p) (ax H p (.dK []))
section
variable {X:Cx} {pos:Pos}
theorem oX:PE X (.Dict [] [] pos) uF:=⟨fun pins s σ H Q I h=>
 wpAny_Dict_empty ⟨.ref s.heap.objs.size,_,I.laid (a:=s.heap.objs.size) (o:=.dK []) (t':=s.toks) (fun _ _ q=>Al _ q) (Ao _) (kf s.heap I.big),rfl,h _ (I.hok.fresh (Ao _))⟩⟩
end
def k9:List (TE×TE)->St->Hp->(List (V×V)->Hp->Prop)->Prop
 | [],_,H,Q=>Q [] H
 | (tk,tv)::r,σ,H,Q=>tk σ H fun x H1=>tv σ H1 fun y H2=>k9 r σ H2 fun ps H3=>Q ((x,y)::ps) H3
abbrev VV:List (V×V)->List (Value×Value)->Prop:=Paired fun p q=>RelV p.1 q.1/\RelV p.2 q.2
def yq (X:Cx) (pos:Pos) (keys:List (Option Expr)) (values:List Expr) (trs:List (TE×TE)):Prop:=
 ∀ (pins:List (Addr×Obj)) (s:Shared) (σ:St) (H:Hp) (Q:List (V×V)->Hp->Prop),Inv X pins σ H s->k9 trs σ H Q->
  wpAny (model X.prog X.w) X.A (evalPairs (pairTrees keys values X.env pos)) (fun vs s'=>∃ ps H',Inv X pins σ H' s'/\VV ps vs/\Q ps H') X.xe s
theorem mo {X:Cx} {pos:Pos}:yq X pos [] [] []:=fun pins s σ H Q I h=>pairTrees_nil_walk ⟨[],H,I,.nil,h⟩
theorem cj {X:Cx} {pos:Pos} {k v:Expr} {ks:List (Option Expr)} {vs:List Expr} {tk tv:TE} {trs:List (TE×TE)} (hk:PE X k tk) (hv:PE X v tv) (hr:yq X pos ks vs trs) :
  yq X pos (some k::ks) (v::vs) ((tk,tv)::trs):=fun pins s σ H Q I h=>
 pairTrees_cons_walk (bA (hk pins s σ H _ I h) fun u s1 ⟨x,H1,I1,rx,q1⟩=>bA (hv pins s1 σ H1 _ I1 q1) fun w2 s2 ⟨y,H2,I2,ry,q2⟩=>
  bA (hr pins s2 σ H2 _ I2 q2) fun ws s3 ⟨ps,H3,I3,rel,q3⟩=>⟨(x,y)::ps,H3,I3,.cons ⟨rx,ry⟩ rel,q3⟩)
def bv (kvs more:List (cO×V)):List (cO×V):=more.foldl (fun acc kv=>j8 acc kv.1 kv.2) kvs
theorem KV.merge:∀ {more:List (cO×V)} {rs:List (cO×Value)} {kvs:List (cO×V)} {vs:List (cO×Value)},KV more rs->KV kvs vs->KV (bv kvs more) (merged vs rs):=by
 intro more rs kvs vs r
 unfold KV at r
 induction r generalizing kvs vs with
 | nil=>intro q;exact q
 | @cons p q ps qs h t ih=>
  intro r0
  have e:KV (j8 kvs p.1 p.2) (stored vs q.1 q.2):=by
   have:=r0.put p.1 h.2
   rw [<-h.1];exact this
  exact ih e
theorem eK:∀ (more kvs:List (cO×V)),(bv kvs more).length<=kvs.length+more.length
 | [],kvs=>by show kvs.length<=kvs.length+0;omega
 | p::r,kvs=>by
  have h1:=eK r (j8 kvs p.1 p.2)
  have h2:=kb kvs p.1 p.2
  show (bv (j8 kvs p.1 p.2) r).length<=_
  rw [Ai];omega
theorem gO {P:Program} {w:World}:∀ {kvs:List (cO×V)} {ws:List (Value×Value)},VV (kvs.map fun kv=>(kV kv.1,kv.2)) ws->∃ rs,Carries (bz P w) ws rs/\KV kvs rs
 | [],_,r=>by rw [List.map_nil] at r;cases r;exact ⟨[],True.intro,.nil⟩
 | p::kvs,_,r=>by
  rw [AA] at r
  cases r with
  | @cons a b as bs h t=>
   obtain ⟨rs,c,q⟩:=gO (P:=P) (w:=w) t
   obtain ⟨b1,b2⟩:=b
   exact ⟨(p.1,b2)::rs,⟨mm h.1,rfl,c⟩,.cons ⟨rfl,h.2⟩ q⟩
def wN (trs:List (TE×TE)):TE:=fun σ H Q=>∀ p,H p=none->k9 trs σ (ax H p (.dK [])) fun ps H2=>H2 p=some (.dK [])/\∃ kvs:List (cO×V),ps=kvs.map (fun kv=>(kV kv.1,kv.2))/\kvs.length<=15/\Q (.ref p) (ax H2 p (.dK (bv [] kvs)))
theorem mq {X:Cx} {pos:Pos} {keys:List (Option Expr)} {values:List Expr} {trs:List (TE×TE)} (h:yq X pos keys values trs) (hall:keys.all (·.isSome)=true) (hl:keys.length=values.length) (h0:keys≠[])
  (h15:keys.length<=15):PE X (.Dict keys values pos) (wN trs):=by
 refine ⟨?_⟩
 intro pins s σ H Q I q
 have hn:=I.hok.fresh (Ao s.heap.objs.size)
 have I1:=I.laid (a:=s.heap.objs.size) (o:=.dK []) (h':=s.heap.push { cls:=.type "dict",data:=.dict #[] }) (t':=s.toks) (fun _ _ q=>Al _ q) (Ao _) (kf s.heap I.big)
 refine wpAny_Dict_walk (knd:=bz X.prog X.w) hall hl h0 h15 (bA (h pins _ σ _ _ I1 (q _ hn)) fun ws s2 ⟨ps,H2,I2,rel,e,kvs,ep,lk,q2⟩=>?_)
 subst ep
 obtain ⟨rs,c,rk⟩:=gO (P:=X.prog) (w:=X.w) rel
 obtain ⟨z,hd,vs0,r0,dd⟩:=wK I2.hok e
 cases r0
 refine ⟨rs,c,dd,fun h' dd' hs=>⟨.ref s.heap.objs.size,_,?_,rfl,q2⟩⟩
 have hz:(bv [] kvs).length<=sizeLine:=by
  have h1:=eK kvs []
  rw [Ak] at h1
  rw [sizeLine_eq];omega
 have he:∃ q,h'.get? s.heap.objs.size=some q:=let ⟨q,_,_,hq,_⟩:=dd';⟨q,hq⟩
 exact rB I2 (by rw [e];exact True.intro) hs he (uE hz hd (rk.merge .nil) dd')
structure M2 (X:Cx) (o:Expr) (m:Str) (apos:Pos) (e f:Expr) (cpos:Pos):Prop where
 base:attributeBase o m X.env (eval o X.env)=eval o X.env
 few:((backTo cpos (starEach [e,f] X.env)).all (fun x=>!x.1) && (backToKw cpos (keywordEach [] X.env)).all (fun x=>x.1.isSome)
  && decide (([e,f]:List Expr).length+([]:List Keyword).length+(if ([]:List Keyword).isEmpty then 0 else 1) < 30))=true
 line:(apos.endLine == cpos.line)=true
 trees:backTo cpos (starEach [e,f] X.env)=[(false,eval e X.env),(false,eval f X.env)]
def zU (H:Hp) (a:Addr):Prop:=(∃ kvs,Rd H a (.dK kvs))\/∃ kvs,Rd H a (.dT kvs)
theorem uG {X:Cx} {pins:List (Addr×Obj)} {σ:St} {H:Hp} {s:Shared} {a:Addr} (I:Inv X pins σ H s) (d:zU H a) :
  s.TypeIs (.ref a) "dict"/\(∀ b,Value.ref a=.ref b->∃ ob,s.heap.get? b=some ob/\ob.dict=none)/\(a == sysModules)=false:=by
 rcases d with ⟨kvs,e⟩|⟨kvs,e⟩
 ·obtain ⟨_,hd,vs,_,dd⟩:=kc I.hok e
  refine ⟨dd.typeIs,fun b q=>?_,hd⟩
  cases q
  obtain ⟨ob,_,_,h1,h2,_⟩:=dd
  exact ⟨ob,h1,h2.2.1⟩
 ·obtain ⟨_,hd,xs,_,dd⟩:=mn I.hok e
  refine ⟨dd.typeIs,fun b q=>?_,hd⟩
  cases q
  obtain ⟨ob,_,_,h1,h2,_⟩:=dd
  exact ⟨ob,h1,h2.2.1⟩
section
variable {X:Cx} {pins:List (Addr×Obj)} {σ:St} {H:Hp} {s:Shared} {a:Addr} {y d:V} {u r:Value} {o:Option V} {A:Around} {E:Value->Shared->Prop}
theorem uH {Q:Value->Shared->Prop} (hu:A.units+1 < cLine) (I:Inv X pins σ H s) (g:DGet H a y o) (ry:RelV y u) (rd:RelV d r) (h:∀ w' s',Inv X pins σ H s'->RelV (o.getD d) w'->Q w' s') :
  wpAny (model X.prog X.w) A (call (.builtin "dict.get") [.ref a,u,r]) Q E s:=by
 rcases g with ⟨kvs,k,e,ey,l⟩|⟨kvs,k,b,e,ey,eb,l⟩
 ·subst ey
  obtain ⟨z,hd,vs,rel,dd⟩:=kc I.hok e
  refine call_meetsIn PySem.F.slot_dict_get dd.typeIs PySem.F.entry_dict_get (PySem.F.args_dict_get_3 _ _ _) (meets_dict_get_default (bz X.prog X.w) a (mm ry) hd r) ⟨_,dd.mapOf,h _ _ (I.tok _) ?_⟩
  rw [l]
  exact (rel.val k).getD rd
 ·subst ey
  cases (show u=Value.ref b from ry)
  obtain ⟨z,hd,xs,rel,dd⟩:=mn I.hok e
  refine call_meetsIn PySem.F.slot_dict_get dd.typeIs PySem.F.entry_dict_get (PySem.F.args_dict_get_3 _ _ _) (meetsH_dict_get_default (tupleKind (bz X.prog X.w)) a b hd r) ⟨tupleKind_room_in1 hu,k,xs,k8 I.hok eb,dd,h _ _ (I.tok _) ?_⟩
  rw [l]
  exact (rel.val k).getD rd
end
inductive mr (ty:TE) (tx:TE) (σ:St) (Q:VK) (x:V) (H1:Hp):Prop
 | mk (a:_):x=.ref a->zU H1 a->(ty σ H1 fun y H2=>tx σ H2 fun z H3=>∃ o,DGet H3 a y o/\Q (o.getD z) H3)->mr ty tx σ Q x H1
def uI (td ty tx:TE):TE:=fun σ H Q=>td σ H fun x H1=>mr ty tx σ Q x H1
section
variable {X:Cx} {o e f:Expr} {apos cpos:Pos} {td ty tx:TE}
theorem oY (hu:X.A.units+1 < cLine) (ho:PE X o td) (he:PE X e ty) (hf:PE X f tx) (m:M2 X o "get" apos e f cpos):PE X (.Call (.Attribute o "get" apos) [e,f] [] cpos) (uI td ty tx):=by
 refine ⟨?_⟩
 intro pins s σ H Q I h
 refine wpAny_Call_method m.base m.few m.line PySem.F.plainAttrs_dict PySem.F.slot_dict_get PySem.F.type_dict_get (bA (ho pins s σ H _ I h) fun u s1 ⟨x,H1,I1,rx,a,ex,d,q1⟩=>?_)
 subst ex
 obtain rfl:u=Value.ref a:=rx
 obtain ⟨t1,t2,_⟩:=uG I1 d
 refine ⟨t1,t2,?_⟩
 rw [m.trees]
 refine Calls.callWith_builtin rfl (Calls.evalArgs_plain (Calls.spliced_cons (bA (he pins s1 σ H1 _ I1 q1) fun iv s2 ⟨y,H2,I2,ry,q2⟩=>
  Calls.spliced_cons (bA (hf pins s2 σ H2 _ I2 q2) fun fv s3 ⟨z,H3,I3,rz,ov,g,q3⟩=>Calls.spliced_nil ?_))))
 exact uH hu I3 g ry rz fun w' s4 I4 rw'=>⟨_,H3,I4,rw',q3⟩
end
end L2
namespace L2
open PySem PySem.Spec PyProof.Rows
def yS (P:St->Hp->Prop) (t u:TS):TS:=fun D σ H=>(∀ σ' H',P σ' H'->u D σ' H')/\t { D with nx:=P } σ H
theorem gA {X:Cx} {st:Stmt} {rest:List Stmt} {t u:TS} (P:St->Hp->Prop) (h1:PS X st t) (h2:PSs X rest u):PSs X (st::rest) (yS P t u):=by
 refine ⟨?_⟩
 intro pins s σ H D I h
 refine wpAny_execs_cons (bA (h1 pins s σ H { D with nx:=P } I h.2) fun f s1 q=>?_)
 cases f with
 | next=>
  obtain ⟨σ',H',I',q⟩:=q
  exact h2 pins s1 σ' H' D I' (h.1 _ _ q)
 | ret v=>exact q
 | brk=>exact q
 | cont=>exact q
theorem oZ (l:List Nat) (a b:Option Int):(fU l a b).length<=l.length:=by
 unfold fU
 rw [AH,A0]
 omega
end L2
namespace L2
open PySem PySem.Spec PyProof.Rows
theorem gP {K:PySem.W.Frag} {a:Addr} {xs:List V} {g:TG} {tf:TT} {te:TE} {ix:List (Option Nat)} {σ:St} {H:Hp} {Q:VK} (Pv:Nat->List V->Hp->Prop) (h0:Pv 0 [] H)
  (hl:∀ i ys H,i<=xs.length->Pv i ys H->SqT K H a xs/\ys.length<=sizeLine)
  (hs:∀ i x ys H,xs[i]?=some x->Pv i ys H->g x (kI ix σ) H fun σ2 H2=>ExtL (kI ix σ) σ2/\tf σ2 H2 fun b H3=>if b=true then te σ2 H3 fun y H4=>Nx Pv xs.length i (ys++[y]) H4 else Nx Pv xs.length i ys H3)
  (hd:∀ ys H,Pv xs.length ys H->∀ D,H D=none->Q (.ref D) (ax H D (.lst ys))) :
  oO (wc K a) g tf te ix σ H Q:=by
 refine ⟨fun i m ys H=>m=xs.length - i/\i<=xs.length/\Pv i ys H,⟨xs.length,by simp,Bi _,h0⟩,?_⟩
 rintro i m ys H ⟨rfl,hi,p⟩
 obtain ⟨q,hz⟩:=hl i ys H hi p
 by_cases hlt:i < xs.length
 ·refine .inr ⟨⟨xs,xs[i],q,by simp [hlt]⟩,hz,fun x H' y=>?_⟩
  obtain ⟨e,y⟩:=y
  subst e
  exact hs i x ys _ (y xs q) p
 ·have e:i=xs.length:=by omega
  subst e
  exact .inl ⟨⟨xs,q,Ao _⟩,hz,hd ys H p⟩
def uJ (H H':Hp):Prop:=∀ a xs,H a=some (.tup xs)->H' a=some (.tup xs)
theorem ms {H H':Hp} (s:Same H H'):uJ H H':=fun a xs e=>s _ _ e
def we (x:Str):Bool:=(PyData.str x).canLay0
mutual
inductive Td (H:Hp):V->PyData->Prop
 | int (i:Int):Td H (.int i) (.int i)
 | str (x:Str) (h:we x=true):Td H (.str x) (.str x)
 | tup {a:Addr} {xs:List V} {ds:List PyData}:H a=some (.tup xs)->TdAll H xs ds->Td H (.ref a) (.tuple ds)
inductive TdAll (H:Hp):List V->List PyData->Prop
 | nil:TdAll H [] []
 | cons {v:V} {d:PyData} {vs:List V} {ds:List PyData}:Td H v d->TdAll H vs ds->TdAll H (v::vs) (d::ds)
end
mutual
theorem Td.dt {K:PySem.W.Frag} {H:Hp}:∀ {v:V} {d:PyData},Td H v d->Dt K H v d
 | _,_,.int i=>.int i
 | _,_,.str x _=>.str x
 | _,_,.tup e t=>.tup (SqT.of e) (TdAll.dt t)
theorem TdAll.dt {K:PySem.W.Frag} {H:Hp}:∀ {vs:List V} {ds:List PyData},TdAll H vs ds->DtAll K H vs ds
 | _,_,.nil=>.nil
 | _,_,.cons h t=>.cons (Td.dt h) (TdAll.dt t)
end
mutual
theorem Td.lay {H:Hp}:∀ {v:V} {d:PyData},Td H v d->d.canLay0=true
 | _,_,.int i=>rfl
 | _,_,.str x h=>h
 | _,_,.tup e t=>TdAll.lay t
theorem TdAll.lay {H:Hp}:∀ {vs:List V} {ds:List PyData},TdAll H vs ds->PyData.canLayAll0 ds=true
 | _,_,.nil=>rfl
 | _,_,.cons h t=>by
  simp only [PyData.canLayAll0,Td.lay h,TdAll.lay t,Bool.and_self]
end
mutual
theorem Td.eqv {H:Hp}:∀ {v:V} {d:PyData},Td H v d->PyData.eqv d d=true
 | _,_,.int i=>by simp [PyData.eqv]
 | _,_,.str x _=>by simp [PyData.eqv]
 | _,_,.tup e t=>by simp only [PyData.eqv];exact TdAll.eqv t
theorem TdAll.eqv {H:Hp}:∀ {vs:List V} {ds:List PyData},TdAll H vs ds->PyData.eqvAll ds ds=true
 | _,_,.nil=>by simp [PyData.eqvAll]
 | _,_,.cons h t=>by
  simp only [PyData.eqvAll,Td.eqv h,TdAll.eqv t,Bool.and_self]
end
end L2
namespace L2
open PySem PySem.Spec PyProof.Rows
def wO (K:PySem.W.Frag) (l:Addr):It:=
 ⟨fun i H=>∃ xs x,SqL K H l xs/\xs[i]?=some x,
  fun i H v H'=>∃ T x,v=.ref T/\H T=none/\H'=ax H T (.tup [.int i,x])/\∀ xs,SqL K H l xs->xs[i]?=some x,
  fun i H=>∃ xs,SqL K H l xs/\xs.length<=i⟩
theorem nz {P:Program} {w:World} {K:PySem.W.Frag} {elts:List Expr} {kt:Nat} {tp:Pos} {e it l:Addr} (hne:e≠it) :
  kO P w K (.Tuple elts kt tp) (wO K l) [e,it] e (fun i h=>(∃ old,IsEnum h e it i old)/\h.IsListIter it l i) where
 mem:=by simp
 obj:=fun i h st b hb=>by
  obtain ⟨⟨old,he⟩,⟨o1,h1,_,d1⟩⟩:=st
  simp at hb
  rcases hb with rfl|rfl
  ·exact ⟨_,he,fun v q=>by cases q⟩
  ·exact ⟨_,h1,fun v q=>by rw [d1] at q;cases q⟩
 keep:=fun i h h' st k=>by
  obtain ⟨⟨old,he⟩,h1⟩:=st
  exact ⟨⟨old,k e (by simp) _ he⟩,h1.at fun o q=>k it (by simp) o q⟩
 item:=by
  intro X hP hw hK hc i pins s σ H E I hf st hg
  subst hP hw hK
  obtain ⟨xs,x,hx,ex⟩:=hg
  obtain ⟨⟨old,he⟩,h1⟩:=st
  obtain ⟨its1,rv1,p1,z1⟩:=I.list hx
  obtain ⟨u1,eu1,ru1⟩:=rv1.get ex
  refine wpAny_pyNext_enum_item he h1 p1.isList (x:=u1) (by simpa using eu1) hne fun h' a1 a2 a3 a4 a5=>⟨_,rfl,?_⟩
  refine wpAny_letOwnedTupleGo_enum a1 fun h'' b1 b2=>?_
  have hT:H s.heap.objs.size=none:=I.hok.fresh (Ao _)
  have low:∀ b o,s.heap.get? b=some o->b≠s.heap.objs.size:=fun b o q=>AM (Ap q)
  refine ⟨.ref s.heap.objs.size,ax H s.heap.objs.size (.tup [.int i,x]),?_,rfl,⟨s.heap.objs.size,x,rfl,hT,rfl,fun xs' h=>by rw [I.list_inj h hx];exact ex⟩,?_,fun b hb=>?_⟩
  ·show Inv X pins σ (ax H s.heap.objs.size (.tup [.int i,x])) { s with heap:=h'',toks:=s.toks+1 }
   refine Inv.turnedS (s:=s) (h':=h'') (t':=s.toks+1) (ch:=[e,it]) I (fun b hb=>hf b hb) (fun b o hc q=>?_) (fun b o q=>by rw [aB (aJ q hT)];exact q) (fun b hb n=>by rw [aB (AM hb)];exact n) fun b o n q=>?_
   ·simp at hc
    exact b2.extBut b o hc.1 (a5 b o hc.1 hc.2 q)
   ·by_cases eb:b=s.heap.objs.size
    ·subst eb
     rw [ad] at q
     cases q
     refine ⟨by show 2<=sizeLine;decide,[.int i s.toks,u1],.cons ⟨_,rfl⟩ (.cons ru1 .nil),_,b2.extBut _ _ ?_ a3,rfl,_,rfl⟩
     exact fun z=>low e _ he z.symm
    ·rw [aB eb,n] at q
     cases q
  ·refine ⟨⟨_,b1⟩,a2.at fun o q=>b2.extBut _ o hne.symm q⟩
  ·have n:=(hf b hb).1
   have:b≠s.heap.objs.size:=by
    simp at hb
    obtain ⟨_,q1,_⟩:=id h1
    rcases hb with rfl|rfl
    ·exact low _ _ he
    ·exact low _ _ q1
   rw [aB this]
   exact n
 done:=by
  intro X hP hw hK hc i pins s σ H E I hf st hg
  subst hP hw hK
  obtain ⟨xs,hx,hl⟩:=hg
  obtain ⟨⟨old,he⟩,h1⟩:=st
  obtain ⟨its1,rv1,p1,z1⟩:=I.list hx
  have e1:=rv1.length
  refine wpAny_pyNext_enum_end (I.ok.hd hc) he h1 p1.isList (by simp;omega) fun h' k=>⟨rfl,?_⟩
  obtain ⟨f0,f1,f2,f3,f4,f5⟩:=hf it (by simp)
  exact I.turned (t':=s.toks) (fun b o hb q=>k b o hb q) f0 f1 f3 f4 f5
 self:=fun _ _ _ _ _ st h=>wpAny_pyIter_enum st.1.choose_spec h
section
variable {X:Cx}
inductive o0 (K:PySem.W.Frag) (R:It->Hp->Prop) (vs:List V) (H1:Hp):Prop
 | mk (l:_):vs=[.ref l]->(∃ xs,SqL K H1 l xs)->R (wO K l) H1->o0 K R vs H1
def wP (K:PySem.W.Frag) (ta:TA):TI:=fun σ H R=>ta σ H fun vs H1=>o0 K R vs H1
theorem nA:bootBuiltins "enumerate"=some (.type "enumerate"):=by decide +kernel
theorem rE {elts:List Expr} {kt:Nat} {tp:Pos} {a:Expr} {ta:TA} {p pos:Pos} (hg:Gl X "enumerate") (hm:X.mg "enumerate"=none) (ha:PA X [a] ta) (hs:starEach [a] X.env=[(false,eval a X.env)]:=by rfl) :
  PI X (.Tuple elts kt tp) (.Call (.Name "enumerate" p) [a] [] pos) (wP X.K ta):=by
 refine ⟨?_⟩
 intro pins s σ H R I h
 refine Call_ (gF I hg hm nA (Bx (bA (ha pos pins s σ H _ I h) fun us s1 ⟨vs,H1,I1,r1,q1⟩=>?_) hs rfl))
 obtain ⟨l,e,⟨xs,hx⟩,q⟩:=q1
 subst e
 cases r1 with
 | cons r rr=>
  cases rr
  cases r
  obtain ⟨its1,rv1,p1,z1⟩:=I1.list hx
  refine call_enumerate_list p1.isList fun h' a1 a2 a3 a4=>?_
  refine wpAny_pyIter_enum a1 ?_
  refine ⟨_,[s1.heap.objs.size+1,s1.heap.objs.size],_,_,H1,rfl,I1.kept (t':=s1.toks) a4,nz (Nat.ne_of_gt (BD _)),⟨⟨_,a1⟩,a2⟩,fun b hb=>?_,q⟩
  have hb':s1.heap.objs.size<=b:=by
   simp only [AG,BE,or_false] at hb
   rcases hb with e|e<;>rw [e]
   ·exact Nat.le_add_right _ _
   ·exact Ao _
  exact I1.fpOk hb' (I1.hok.fresh hb')
end
theorem o3 {K:PySem.W.Frag} {l:Addr} {xs:List V} {g:TG} {tb:TS} {D:Ends} {σ:St} {H:Hp} (Pv:Nat->St->Hp->Prop) (h0:Pv 0 σ H) (hl:∀ i σ H,i<=xs.length->Pv i σ H->SqL K H l xs)
  (hs:∀ i x σ H T,xs[i]?=some x->H T=none->Pv i σ H->g (.ref T) σ (ax H T (.tup [.int i,x])) fun σ2 H2=>tb { D with nx:=Pv (i+1),ct:=Pv (i+1),bk:=D.nx } σ2 H2) (hd:∀ σ H,Pv xs.length σ H->D.nx σ H) :
  ∃ W:Nat->Nat->St->Hp->Prop,(∃ m,W 0 m σ H)/\∀ i m σ H,W i m σ H->
   ((wO K l).stop i H/\D.nx σ H)\/((wO K l).go i H/\∃ N:St->Hp->Prop,(∀ σ' H',N σ' H'->∃ m',m' < m/\W (i+1) m' σ' H')/\∀ x H',(wO K l).yld i H x H'->g x σ H' fun σ2 H2=>tb { D with nx:=N,ct:=N,bk:=D.nx } σ2 H2):=by
 refine ⟨fun i m σ H=>m=xs.length - i/\i<=xs.length/\Pv i σ H,⟨xs.length,by simp,Bi _,h0⟩,?_⟩
 rintro i m σ H ⟨rfl,hi,p⟩
 have q:=hl i σ H hi p
 by_cases hlt:i < xs.length
 ·refine .inr ⟨⟨xs,xs[i],q,by simp [hlt]⟩,Pv (i+1),fun σ' H' p'=>⟨xs.length - (i+1),by omega,rfl,hlt,p'⟩,fun v H' y=>?_⟩
  obtain ⟨T,x,e1,hT,e2,hy⟩:=y
  subst e1 e2
  exact hs i x σ H T (hy xs q) hT p
 ·have e:i=xs.length:=by omega
  subst e
  exact .inl ⟨⟨xs,q,Ao _⟩,hd σ H p⟩
end L2
namespace XB
open PySem PySem.W PySem.Calls PyProof.Rows Builtin Builtin.ObjectAttr
abbrev bmV:List Value:=[.type "ValueError",.type "Exception",.type "BaseException",.type "object"]
section
variable {prog:Program} {w:World} {A:Around} {E:Value->Shared->Prop} {s:Shared} {K:Frag} {x C:Addr} {ox:Obj} {od:Option Obj} {name:Str} {expr:Bool}
theorem xga_run {tk:Tok} {v:Value} {R:Result->Shared->Prop} (X:K.In s.heap) (I:InstAt s.heap x ox C od) (hb:mroIn K C (.type "BaseException")=some true) (hf:findObj K C od name=some (.value v)) (hq:R (.ok (.ret v)) s) :
  codeAny (model prog w) A (.call (.builtin "BaseException.__getattribute__") ⟨[.ref x,.str name tk],[]⟩) R s:=by
 refine codeAny_call_builtin F.attr_ValueError.ga.plain F.entry_bexc_ga ?_
 refine @check_slot (model prog w) _ _ s "BaseException.__getattribute__" "BaseException" "__getattribute__" (.ref x) [.str name tk] [] _ (by decide +kernel) (by decide +kernel) (I.type.andThen (looks_mroIn X hb)) (F.args_bexc_ga (.ref x) (.str name tk)) ?_
 obtain ⟨hh,g,d,t,os⟩:=s
 have L0:=I.type (M:=model prog w)
 have L1:=looks_find (M:=model prog w) X I hf
 refine wpAny_bind (wpAny_pure (wpAny_bind (wpAny_pure (wpAny_bind (L0.at (wpAny_bind (L1.at ?_)))))))
 exact wpAny_pure hq
theorem xga_bind {tk:Tok} {g a:Value} {R:Result->Shared->Prop} (X:K.In s.heap) (I:InstAt s.heap x ox C od) (hb:mroIn K C (.type "BaseException")=some true) (hf:findObj K C od name=some (.bind g a))
  (hq:codeAny (model prog w) A.in1 (.call g ⟨[a,.ref x,.ref C],[]⟩) (fun r s'=>match r with|.ok (.ret v)=>R (.ok (.ret v)) s'|.ok _=>False|.error e=>R (.error e) s') s) :
  codeAny (model prog w) A (.call (.builtin "BaseException.__getattribute__") ⟨[.ref x,.str name tk],[]⟩) R s:=by
 refine codeAny_call_builtin F.attr_ValueError.ga.plain F.entry_bexc_ga ?_
 refine @check_slot (model prog w) _ _ s "BaseException.__getattribute__" "BaseException" "__getattribute__" (.ref x) [.str name tk] [] _ (by decide +kernel) (by decide +kernel) (I.type.andThen (looks_mroIn X hb)) (F.args_bexc_ga (.ref x) (.str name tk)) ?_
 obtain ⟨hh,g',d,t,os⟩:=s
 have L0:=I.type (M:=model prog w)
 have L1:=looks_find (M:=model prog w) X I hf
 refine wpAny_bind (wpAny_pure (wpAny_bind (wpAny_pure (wpAny_bind (L0.at (wpAny_bind (L1.at ?_)))))))
 show wpAny _ _ (holding [a] (call g [a,.ref x,.ref C]) >>= ret) _ _ _
 refine wpAny_bind (wpAny_holding (wpAny_call (codeAny_mono hq fun r s' z=>?_)))
 rcases r with e|(v|_|_|_)<;>first|exact z|exact wpAny_pure z
theorem xget_open {Q:Value->Shared->Prop} (X:K.In s.heap) (I:InstAt s.heap x ox C od) (hga:findIn K (.ref C) "__getattribute__"=some (some (.builtin "BaseException.__getattribute__"))) (hgt:findIn K (.ref C) "__getattr__"=some none)
  (h:codeAny (model prog w) A (.call (.builtin "BaseException.__getattribute__") ⟨[.ref x,.str name s.toks],[]⟩) (fun r s'=>match r with|.ok (.ret v)=>wpAny (model prog w) A (handedOut v) Q E s'|_=>False) { s with toks:=s.toks+1 }) :
  wpAny (model prog w) A (getAttr (.ref x) name expr) Q E s:=by
 obtain ⟨hh,g,d,t,os⟩:=s
 have L0:=I.type (M:=model prog w)
 have L1:=looks_findIn (M:=model prog w) X hga
 have L2:=looks_findIn (M:=model prog w) X hgt
 have hx2:(Value.builtin "BaseException.__getattribute__" == Value.builtin "object.__getattribute__")=false:=by decide +kernel
 unfold getAttr getAttrBy
 refine wpAny_bind (wpAny_mkText (wpAny_holding (wpAny_bind (L0.at (wpAny_bind (L1.at ?_))))))
 dsimp only
 rw [show (onTheHeap (Value.ref C) && Value.builtin "BaseException.__getattribute__" == Value.builtin "object.__getattribute__")=false by rw [hx2];rfl,if_neg (by decide)]
 unfold getAttrByItsOwn hookBefore
 rw [if_pos (show onTheHeap (Value.ref C)=true from rfl)]
 refine wpAny_bind (L2.at (wpAny_bind (wpAny_attempt (wpAny_holding ?_))))
 unfold callGetattribute
 rw [show (expr && onTheHeap (Value.builtin "BaseException.__getattribute__"))=false by cases expr<;>rfl,if_neg (by decide)]
 unfold boundAndCalled
 rw [F.attr_ValueError.ga.bind]
 refine wpAny_bind (wpAny_pure ?_)
 show wpAny _ _ (call (.builtin "BaseException.__getattribute__") [.ref x,.str name t]) _ _ _
 refine wpAny_call (codeAny_mono h fun r s' z=>?_)
 rcases r with e|(v|_|_|_)<;>first|exact z|exact z.elim
theorem xget_value {v:Value} {Q:Value->Shared->Prop} (X:K.In s.heap) (I:InstAt s.heap x ox C od) (hga:findIn K (.ref C) "__getattribute__"=some (some (.builtin "BaseException.__getattribute__"))) (hgt:findIn K (.ref C) "__getattr__"=some none)
  (hb:mroIn K C (.type "BaseException")=some true) (hf:findObj K C od name=some (.value v)) (hh:handedIn v=true) (h:Q v { s with toks:=s.toks+1 }):wpAny (model prog w) A (getAttr (.ref x) name expr) Q E s:=
 xget_open X I hga hgt (xga_run (s:={ s with toks:=s.toks+1 }) X I hb hf (handed_on hh h))
theorem xcls_open {Q:Option Value->Shared->Prop} (X:K.In s.heap) (I:InstAt s.heap x ox C od) (hga:findIn K (.ref C) "__getattribute__"=some (some (.builtin "BaseException.__getattribute__"))) (hgt:findIn K (.ref C) "__getattr__"=some none)
  (h:codeAny (model prog w) A (.call (.builtin "BaseException.__getattribute__") ⟨[.ref x,.str name s.toks],[]⟩) (fun r s'=>match r with|.ok (.ret v)=>wpAny (model prog w) A (handedOut v) (fun v s''=>Q (some v) s'') (fun _ _=>False) s'|_=>False) { s with toks:=s.toks+1 }) :
  wpAny (model prog w) A (getAttr? (.ref x) name) Q E s:=by
 obtain ⟨hh,g,d,t,os⟩:=s
 have L0:=I.type (M:=model prog w)
 have L1:=looks_findIn (M:=model prog w) X hga
 have L2:=looks_findIn (M:=model prog w) X hgt
 have hx2:(Value.builtin "BaseException.__getattribute__" == Value.builtin "object.__getattribute__")=false:=by decide +kernel
 unfold getAttr? getAttrBy? getAttrBy
 refine wpAny_bind (wpAny_mkText (wpAny_bind (wpAny_attempt (wpAny_holding (wpAny_bind (L0.at (wpAny_bind (L1.at ?_))))))))
 dsimp only
 rw [show (onTheHeap (Value.ref C) && Value.builtin "BaseException.__getattribute__" == Value.builtin "object.__getattribute__")=false by rw [hx2];rfl,if_neg (by decide)]
 unfold getAttrByItsOwn hookBefore
 rw [if_pos (show onTheHeap (Value.ref C)=true from rfl)]
 refine wpAny_bind (L2.at (wpAny_bind (wpAny_attempt (wpAny_holding ?_))))
 unfold callGetattribute
 rw [show (false && onTheHeap (Value.builtin "BaseException.__getattribute__"))=false from rfl,if_neg (by decide)]
 unfold boundAndCalled
 rw [F.attr_ValueError.ga.bind]
 refine wpAny_bind (wpAny_pure ?_)
 show wpAny _ _ (call (.builtin "BaseException.__getattribute__") [.ref x,.str name t]) _ _ _
 refine wpAny_call (codeAny_mono h fun r s' z=>?_)
 rcases r with e|(v|_|_|_)<;>first|exact wpAny_mono z (fun v s'' hv=>wpAny_pure hv) (fun _ _ z=>z.elim)|exact z.elim
theorem kitx_exc (hd:(clsIn K C).isSome=true) (hga:findIn K (.ref C) "__getattribute__"=some (some (.builtin "BaseException.__getattribute__"))) (hgt:findIn K (.ref C) "__getattr__"=some none)
  (hb:mroIn K C (.type "BaseException")=some true) (ho:mroIn K C (.type "object")=some true)
  (ha:findIn K (.ref C) "__class__"=some (some (.builtin "object.__class__"))) (hn:specialIn K (.builtin "object.__class__") "__get__"=some (some (.builtin "getset_descriptor.__get__"))) (htk:takesIn K (.builtin "object.__class__")=some true) :
  KitX K (.ref x) (.ref C) (fun h=>∃ ox od,InstAt h x ox C od) where
 ty:=fun _ _ _ ⟨_,_,I⟩=>I.type
 it:=fun _ _ X _=>by
  obtain ⟨cdD,hcD⟩:=Option.isSome_iff_exists.mp hd
  unfold clsIn at hcD
  split at hcD
  ·rename_i c' d' cd' sl' ho
   intro A' Q' E' s' k q
   unfold isType loadHead
   exact wpAny_bind (wpAny_loadPart (k _ _ (X _ _ ho)) (wpAny_pure q))
  ·cases hcD
 ne:=fun h tp dd its n sl X htp=>by
  obtain ⟨cdD,hcD⟩:=Option.isSome_iff_exists.mp hd
  refine Aw.mpr fun q=>?_
  have e:C=tp:=Value.ref.inj (beq_iff_eq.mp q)
  subst e
  unfold clsIn at hcD
  split at hcD
  ·rename_i c' d' cd' sl' ho
   have z:=(X _ _ ho).symm.trans htp
   cases z
  ·cases hcD
 ca:=fun {prog w A E Q s} X ⟨ox,od,I⟩ k=>by
  have hf:findObj K C od "__class__"=some (.bind (.builtin "getset_descriptor.__get__") (.builtin "object.__class__")):=by
   obtain ⟨cdD,hcD⟩:=Option.isSome_iff_exists.mp hd
   unfold findObj
   rw [hcD,Option.bind_some,ha,Option.bind_some]
   dsimp only
   rw [hn,Option.bind_some]
   dsimp only
   rw [htk,Option.bind_some]
  refine xcls_open X I hga hgt (xga_bind (s:={ s with toks:=s.toks+1 }) X I hb hf ?_)
  refine class_get (s:={ s with toks:=s.toks+1 }) X I ho ?_
  exact handed_on rfl k
end
end XB
namespace XB
open PySem PySem.W PySem.Calls PyProof.Rows Builtin Builtin.ObjectAttr
section
variable {prog:Program} {w:World} {A:Around} {E:Value->Shared->Prop} {h:Heap} {g:Array GenState} {d:Drawn} {t:Nat} {os:OsState}
variable {nm q:Str} {C N x:Addr} {bs bm:List Value} {sn:List Str} {sub:List Value} {ab:Bool} {col:Option Bool} {dd:Option Addr} {k0 k1 k2 k3 k5:Option Value} {newId:String}
 {mA:Str->Option Value} {name:Str} {v:Value} {o:Obj}
def Tail (bm:List Value):Prop:=bm=bmV\/∃ R,bm=.ref R::bmV
theorem Tail.pass {bm:List Value} (T:Tail bm) (self:Value):refuseLoop self "__setattr__" bm=pure ():=by
 rcases T with rfl|⟨R,rfl⟩
 ·exact F.store_ValueError.passes self
 ·rw [refuseLoop_ref];exact F.store_ValueError.passes self
theorem Tail.has {bm:List Value} (T:Tail bm) (C:Addr) (n:String) (b:Bool) (e:bmV.contains (.type n)=b):(Value.ref C::bm).contains (.type n)=b:=by
 rcases T with rfl|⟨R,rfl⟩
 ·rw [List.contains_cons,e];rfl
 ·rw [List.contains_cons,List.contains_cons,e];rfl
theorem xstore_new {tk:Tok} {Q:Fin->Shared->Prop} (T:Tail bm) (hC:h.get? C=some (excClassObj nm q C N bs bm true sn sub ab col dd k0 k1 k2 k3 k5 newId)) (LN:Looks (model prog w) h (typeLookup (.ref C) name) none)
  (hx:h.get? x=some o) (hc:o.cls=.ref C) (hnc:∀ c,o.data≠.cls c) (hdn:o.dict=none)
  (hq:∀ h' tk',h'.get? x=some { cls:=o.cls,dict:=some h.objs.size,data:=o.data,slots:=o.slots }->h'.Ns1 h.objs.size (fun y=>if y=name then some v else none)->(∀ b ob,b≠x->h.get? b=some ob->h'.get? b=some ob)->Q (.done (.ret .none)) ⟨h',g,d,tk',os⟩) :
  wpAny (model prog w) A (Builtin.«object.__setattr__» ⟨[.ref x,.str name tk,v],[]⟩) Q E ⟨h,g,d,t,os⟩:=by
 have hpass:=T.pass (.ref x)
 unfold Builtin.«object.__setattr__»
 repeat (first|rw [refuse_eq]|(rw [refuseLoop_ref,hpass])|(with_reducible refine wpAny_loadPart_at hx ?_;rw [hc])|with_reducible refine wpAny_mroOf_exc hC ?_|with_reducible refine LN.at ?_|wp_step)
 rw [hdn,if_neg (by simp [typeHasDict])]
 split
 ·rename_i hcd
  cases hcd
 split
 ·rename_i c hcd
  exact absurd hcd (hnc c)
 ·have hx₁:(h.push { cls:=.type "dict",data:=.dict #[] }).get? x=some o:=Al _ hx
  have hxs:x≠h.objs.size:=AM (Ap hx)
  refine wpAny_bind (wpAny_alloc' ?_)
  refine wpAny_bind (wpAny_update' hx₁ ?_)
  refine wpAny_pure ?_
  have hgd:((h.push { cls:=.type "dict",data:=.dict #[] }).update x fun o=>{ cls:=o.cls,dict:=some h.objs.size,data:=o.data,slots:=o.slots }).get? h.objs.size
    = some { cls:=.type "dict",data:=.dict #[] }:=
   (Heap.get?_update_ne _ _ _ _ hxs.symm).trans (Heap.get?_push_at rfl rfl)
  have hnd:((h.push { cls:=.type "dict",data:=.dict #[] }).update x fun o=>{ cls:=o.cls,dict:=some h.objs.size,data:=o.data,slots:=o.slots }).Ns h.objs.size (fun _=>none):=
   ⟨_,#[],_,hgd,rfl,fun e he=>absurd he (by simp),fun _=>rfl⟩
  show wpAny _ _ (storeInDict h.objs.size (.str name tk) name v) _ _ _
  unfold storeInDict newKeyGuard
  refine wpAny_bind (wpAny_pure (wpAny_bind (wpAny_nsSet1 (Heap.Ns1.of_empty hnd) fun h' hn' hs=>?_)))
  obtain ⟨oD,esD,epD,hoD,hdD,hcD⟩:=hn'.count (Within.cons name v Within.nil)
  refine wpAny_bind (wpAny_lookBehind hoD (by rw [hdD];exact pastItsLine_dict (Aq hcD (by rw [Ai,Ak,sizeLine_eq];omega))) ?_)
  wp_walk
  refine hq h' _ ?_ hn' (fun b ob hbx hb=>?_)
  ·refine (hs.2 x hxs).trans (Heap.get?_update_self _ hx₁ ?_)
   have hfr:=(Heap.get?_some_iff.mp hx).2
   obtain ⟨oc,od,odt,osl⟩:=o
   cases odt<;>first|rfl|exact hfr
  ·exact (hs.2 b (AM (Ap hb))).trans ((Heap.get?_update_ne _ _ _ _ hbx).trans (Al _ hb))
theorem xstore_old {tk:Tok} {Q:Fin->Shared->Prop} {dx:Addr} {ns:List Str} (T:Tail bm) (hC:h.get? C=some (excClassObj nm q C N bs bm true sn sub ab col dd k0 k1 k2 k3 k5 newId)) (LN:Looks (model prog w) h (typeLookup (.ref C) name) none)
  (hx:h.get? x=some o) (hc:o.cls=.ref C) (hdx:o.dict=some dx) (hns:h.Ns1 dx mA) (hw:Within mA ns) (hsz:ns.length < sizeLine)
  (hq:∀ h' tk',h'.Ns1 dx (fun y=>if y=name then some v else mA y)->Heap.SameBut dx h h'->Q (.done (.ret .none)) ⟨h',g,d,tk',os⟩) :
  wpAny (model prog w) A (Builtin.«object.__setattr__» ⟨[.ref x,.str name tk,v],[]⟩) Q E ⟨h,g,d,t,os⟩:=by
 have hpass:=T.pass (.ref x)
 unfold Builtin.«object.__setattr__»
 repeat (first|rw [refuse_eq]|(rw [refuseLoop_ref,hpass])|(with_reducible refine wpAny_loadPart_at hx ?_;rw [hc])|with_reducible refine wpAny_mroOf_exc hC ?_|with_reducible refine LN.at ?_|wp_step)
 rw [hdx]
 refine wpAny_pure ?_
 show wpAny _ _ (storeInDict dx (.str name tk) name v) _ _ _
 unfold storeInDict newKeyGuard
 refine wpAny_bind (wpAny_pure (wpAny_bind (wpAny_nsSet1 hns fun h' hn' hs=>?_)))
 obtain ⟨oD,esD,epD,hoD,hdD,hcD⟩:=hn'.count (Within.cons name v hw)
 refine wpAny_bind (wpAny_lookBehind hoD (by rw [hdD];exact pastItsLine_dict (Aq hcD (by rw [Ai];omega))) ?_)
 wp_walk
 exact hq h' _ hn' hs
theorem xset_open {Q:Unit->Shared->Prop} {K:Frag} {od:Option Obj} (X:K.In h) (I:InstAt h x o C od) (hs:findIn K (.ref C) "__setattr__"=some (some (.builtin "object.__setattr__"))) (ho:mroIn K C (.type "object")=some true)
  (hq:∀ A',wpAny (model prog w) A' (Builtin.«object.__setattr__» ⟨[.ref x,.str name t,v],[]⟩) (fun f s'=>f=.done (.ret .none)/\Q () s') (fun _ _=>False) ⟨h,g,d,t+1,os⟩) :
  wpAny (model prog w) A (setAttr (.ref x) name v) Q E ⟨h,g,d,t,os⟩:=by
 refine set_plain X I hs ?_
 refine codeAny_call_builtin F.store_ValueError.slot.plain F.store_ValueError.entry ?_
 refine @check_slot (model prog w) _ _ ⟨h,g,d,t+1,os⟩ "object.__setattr__" "object" "__setattr__" (.ref x) [.str name t,v] [] _ F.store_ValueError.kind F.store_ValueError.split (I.type.andThen (looks_mroIn X ho)) (F.store_ValueError.args (.ref x) (.str name t) v) ?_
 refine wpAny_mono (hq _) (fun f s' z=>?_) fun _ _ z=>z.elim
 obtain ⟨rfl,z⟩:=z
 exact z
theorem xcheck_new {M:Model} {rest:List Value} {Q:Unit->Shared->Prop} (T:Tail bm) (hC:h.get? C=some (excClassObj nm q C N bs bm true sn sub ab col dd k0 k1 k2 k3 k5 "ValueError.__new__"))
  (hq:Q () ⟨h,g,d,t,os⟩):wpAny M A (checkBuiltinCall "ValueError.__new__" ⟨.ref C::rest,[]⟩) Q E ⟨h,g,d,t,os⟩:=by
 have F:=F.excBase_ValueError
 have hcont:=T.has C "ValueError" true (by decide +kernel)
 have hstar:=F.noStar
 simp only [checkBuiltinCall,F.newKind,F.newSplit,F.newRow]
 repeat (first|refine wpAny_loadPart_at hC ?_|(refine wpAny_isSubtype_exc hC ?_;rw [hcont])|refine wpAny_staticBase_exc hC ?_|refine wpAny_madeBy_exc hC ?_|simp only [bne_self_eq_false,Bool.false_eq_true,if_false]|wp_step)
 exact hq
theorem xnew {R:Result->Shared->Prop} {rest:List Value} (T:Tail bm) (hC:h.get? C=some (excClassObj nm q C N bs bm true sn sub ab col dd k0 k1 k2 k3 k5 "ValueError.__new__"))
  (hq:R (.ok (.ret (.ref (h.objs.size+1)))) ⟨(h.push { cls:=.type "tuple",data:=.seq rest.toArray }).push
   { cls:=.ref C,data:=.fields #[.ref h.objs.size,.none,.none,.none,.bool false,.none] },g,d,t,os⟩) (hrest:rest.length<=sizeLine) :
  codeAny (model prog w) A (.builtin "ValueError.__new__" ⟨.ref C::rest,[]⟩) R ⟨h,g,d,t,os⟩:=by
 have F:=F.excBase_ValueError
 have hends:=F.ends
 have hcB:=T.has C "ValueError" true (by decide +kernel)
 have hcA:=T.has C "AttributeError" false (by decide +kernel)
 have hcN:=T.has C "NameError" false (by decide +kernel)
 refine codeAny_builtinAt F.entry ?_
 unfold Builtin.«BaseException.__new__»
 refine PySem.wpAt_bind ?_
 show PySem.wpAt _ _ _ (stack >>= _) _ _ _
 refine PySem.wpAt_bind (PySem.wpAt_stack fun p below=>PySem.wpAt_of_wpAny ?_)
 wp_walk
 refine PySem.wpAt_of_wpAny ?_
 rw [F.owner]
 repeat (first|with_reducible refine wpAny_madeHere_exc F.canon hC ?_|with_reducible refine wpAny_loadPart_at hC ?_|(with_reducible refine wpAny_isSubtype_exc hC ?_;first|rw [hcB]|rw [hcA]|rw [hcN])|wp_step)
 show R _ _
 rw [BC]
 exact hq
abbrev tupO (rest:List Value):Obj:={ cls:=.type "tuple",data:=.seq rest.toArray }
abbrev excO (C:Addr) (a:Addr):Obj:={ cls:=.ref C,data:=.fields #[.ref a,.none,.none,.none,.bool false,.none] }
theorem xmake_type {rest:List Value} {fI:Addr} {oI:Obj} {Q:Fin->Shared->Prop} (T:Tail bm) (hC:h.get? C=some (excClassObj nm q C N bs bm true sn sub ab col dd k0 k1 k2 k3 k5 "ValueError.__new__"))
  (LI:Looks (model prog w) h (typeLookup (.ref C) "__init__") (some (.ref fI))) (hfI:h.get? fI=some oI) (hfc:oI.cls=.type "function")
  (hq:wpAny (model prog w) A (call (.ref fI) (.ref (h.objs.size+1)::rest)) (fun r s'=>r=.none/\Q (.done (.ret (.ref (h.objs.size+1)))) s') E ⟨(h.push (tupO rest)).push (excO C h.objs.size),g,d,t,os⟩) (hrest:rest.length<=sizeLine) :
  wpAny (model prog w) A (Builtin.«type.__call__» ⟨.ref C::rest,[]⟩) Q E ⟨h,g,d,t,os⟩:=by
 have F:=F.excBase_ValueError
 repeat (first|with_reducible refine wpAny_loadPart_at hC ?_|with_reducible refine wpAny_madeBy_exc hC ?_|wp_step)
 refine codeAny_call_builtin_code (Code.quiet_builtin _ F.quiet) (xcheck_new T hC ?_)
 refine xnew T hC ?_ hrest
 show wpAny _ _ _ _ _ _
 have kp:∀ b o,h.get? b=some o->((h.push (tupO rest)).push (excO C h.objs.size)).get? b=some o:=fun b o hb=>Al _ (Al _ hb)
 have hC₁:=kp _ _ hC
 have hfI₁:=kp _ _ hfI
 have hget:((h.push (tupO rest)).push (excO C h.objs.size)).get? (h.objs.size+1)=some (excO C h.objs.size):=by heap_get
 have hcC:(Value.ref C::bm).contains (.ref C)=true:=by simp
 unfold isInstance
 repeat (first|with_reducible refine wpAny_loadPart_at hget ?_|(with_reducible refine wpAny_isSubtype_exc hC₁ ?_;rw [hcC])|wp_step)
 show wpAny _ _ (typeLookup (.ref C) _) _ _ _
 refine LI _ _ _ _ kp ?_
 refine wpAny_holding (wpAny_bind ?_)
 unfold bindSpecial
 refine wpAny_bind (wpAny_typeOf (T:="function") ⟨_,hfI₁,hfc⟩ ?_)
 rw [if_pos (by decide)]
 refine wpAny_pure (wpAny_bind (wpAny_mono hq (fun r s' hr=>?_) fun _ _ x=>x))
 obtain ⟨rfl,hQ⟩:=hr
 wp_walk
 exact hQ
theorem xmake {rest:List Value} {fI:Addr} {oI:Obj} {Q:Value->Shared->Prop} (T:Tail bm) (hC:h.get? C=some (excClassObj nm q C N bs bm true sn sub ab col dd k0 k1 k2 k3 k5 "ValueError.__new__"))
  (LI:Looks (model prog w) h (typeLookup (.ref C) "__init__") (some (.ref fI))) (hfI:h.get? fI=some oI) (hfc:oI.cls=.type "function")
  (hq:wpAny (model prog w) (A.under (.builtin "type.__call__" ⟨.ref C::rest,[]⟩)) (call (.ref fI) (.ref (h.objs.size+1)::rest)) (fun r s'=>r=.none/\Q (.ref (h.objs.size+1)) s') E ⟨(h.push (tupO rest)).push (excO C h.objs.size),g,d,t,os⟩)
  (hrest:rest.length<=sizeLine) :
  wpAny (model prog w) A (call (.ref C) rest) Q E ⟨h,g,d,t,os⟩:=by
 have f1:=tc_lookup
 have f2:=tc_bind (.ref C)
 have hT:(⟨h,g,d,t,os⟩:Shared).TypeIs (.ref C) "type":=⟨_,hC,rfl⟩
 refine wpAny_call (codeAny_of_tree ?_)
 show wpAny _ _ (callAny (.ref C) _) _ _ _
 repeat (any_goals (first|assumption|with_reducible refine wpAny_loadPart_at hC ?_|wp_step))
 refine ⟨rfl,?_⟩
 refine codeAny_call_builtin_at (Code.quiet_builtin _ (by decide +kernel)) entry_typeCall (wpAny_check_type_call_sub hC (xmake_type T hC LI hfI hfc ?_ hrest))
 exact hq
end
end XB
namespace XB
open PySem PySem.W PySem.Calls PyProof.Rows Builtin Builtin.ObjectAttr
section
variable {prog:Program} {w:World} {A:Around} {E:Value->Shared->Prop} {h:Heap} {g:Array GenState} {d:Drawn} {t:Nat} {os:OsState}
variable {nm q:Str} {C N x:Addr} {bs bm:List Value} {sn:List Str} {sub:List Value} {ab:Bool} {col:Option Bool} {dd:Option Addr} {k0 k1 k2 k3 k5:Option Value} {newId:String}
 {mA:Str->Option Value} {name:Str} {v:Value} {o:Obj}
theorem xinit {R:Result->Shared->Prop} {rest:List Value} {vs:Array Value} {a0:Addr} (T:Tail bm) (hC:h.get? C=some (excClassObj nm q C N bs bm true sn sub ab col dd k0 k1 k2 k3 k5 newId)) (hx:h.get? x=some o) (hc:o.cls=.ref C)
  (hd:o.data=.fields vs) (h0:vs[0]?=some (.ref a0)) (hrest:rest.length<=sizeLine)
  (hq:∀ h' vs',(∀ b ob,b≠x->h.get? b=some ob->h'.get? b=some ob)->h'.get? x=some { cls:=o.cls,dict:=o.dict,data:=.fields vs',slots:=o.slots }->(∃ a,vs'[0]?=some (.ref a)/\vs'[1]?=vs[1]?)->R (.ok (.ret .none)) ⟨h',g,d,t,os⟩) :
  codeAny (model prog w) A (.call (.builtin "ValueError.__init__") ⟨.ref x::rest,[]⟩) R ⟨h,g,d,t,os⟩:=by
 have F:=F.excBase_ValueError
 have hcB:=T.has C "ValueError" true (by decide +kernel)
 have hshort:=F.noStar
 refine codeAny_call_builtin F.init.plain F.initEntry ?_
 simp only [checkBuiltinCall,F.initKind,F.initSplit,F.initRow]
 repeat (first|(with_reducible refine wpAny_loadPart_at hx ?_;rw [hc])|(with_reducible refine wpAny_isSubtype_exc hC ?_;rw [hcB])|wp_step)
 refine wpAny_onRaise ?_
 rw [show ∀ (a b:String) (n:Nat),Bind.check ⟨.positional,"*","ValueError",.self,[⟨"args",.varPos,false⟩]⟩ a b n (List.map (fun x=>x.fst) ({ pos:=Value.ref x::rest }:Args).kw)=pure () from
  fun a b n=>check_star_args _ _ _ _ _ _]
 refine wpAny_pure ?_
 wp_walk
 rw [hd]
 repeat (any_goals (first|assumption|rw [h0]|wp_step))
 rw [hd]
 have hsz:0 < vs.size:=by
  have:=(Array.getElem?_eq_some_iff.mp h0).1
  exact this
 dsimp only
 rw [if_pos hsz]
 have hx₁:(h.push (tupO rest)).get? x=some o:=Al _ hx
 refine wpAny_update' hx₁ ?_
 repeat (any_goals (first|assumption|wp_step))
 have hfr:=(Heap.get?_some_iff.mp hx).2
 refine hq _ (vs.setIfInBounds 0 (.ref h.objs.size)) (fun b ob hb e=>?_) ?_ ⟨h.objs.size,?_,?_⟩
 ·rw [Heap.get?_update_ne _ _ _ _ hb]
  exact Al _ e
 ·rw [Heap.get?_update_self _ hx₁ (by obtain ⟨oc,od,odt,osl⟩:=o;cases hd;rfl)]
  obtain ⟨oc,od,odt,osl⟩:=o
  cases hd
  rfl
 ·simp [hsz]
 ·exact Array.getElem?_setIfInBounds_ne (by decide)
theorem val_cls {K:Frag}:findCls K (.type "ValueError") (.type "type") "__init__"=some (.val (.builtin "ValueError.__init__")):=by rfl
theorem val_opaque {M:Model} {h:Heap}:Looks M h (opaqueClassAbove (.type "ValueError")) none:=Looks.of_pure (by kernel_rfl)
theorem val_type {M:Model} {h:Heap}:Looks M h (typeOf (.type "ValueError")) (.type "type"):=Looks.of_pure (by kernel_rfl)
theorem val_method {K:Frag} {s:Shared} {pl:Sem Bool} {Q:Value×List Value->Shared->Prop} (X:K.In s.heap) (hq:Q (.builtin "ValueError.__init__",[]) { s with toks:=s.toks+1 }) :
  wpAny (model prog w) A (getMethod (.type "ValueError") "__init__" pl) Q E s:=by
 unfold getMethod specialOf
 refine wpAny_bind (wpAny_bind (val_type.here ?_))
 have L:Looks (model prog w) s.heap (typeLookup (.type "type") "__getattribute__") (some (.builtin "type.__getattribute__")):=Looks.of_pure KF.slot_tga.lookup
 refine L.here ?_
 dsimp only
 rw [if_pos canon_tga]
 refine wpAny_bind (cls_open (K:=K) (mc:=.type "type") (hook:=none) X val_opaque val_type (by rfl) (looks_hook X (by rfl)) (by rfl) val_cls ?_)
 exact wpAny_pure (handed_on rfl (wpAny_pure hq))
theorem own_method {K:Frag} {s:Shared} {pl:Sem Bool} {f C:Addr} {name:Str} {Q:Value×List Value->Shared->Prop} (X:K.In s.heap) (hr:readsIn K C (.type "type")=true) (hf:findCls K (.ref C) (.type "type") name=some (.val (.ref f)))
  (hq:Q (.ref f,[]) { s with toks:=s.toks+1 }):wpAny (model prog w) A (getMethod (.ref C) name pl) Q E s:=by
 have hs:specialIn K (.ref C) "__getattribute__"=some (some (.builtin "type.__getattribute__")):=by
  have hr':=hr
  simp only [readsIn,AU,beq_iff_eq] at hr'
  obtain ⟨⟨⟨⟨a,b⟩,c'⟩,d⟩,f⟩:=hr'
  unfold specialIn
  rw [b,Option.bind_some]
  exact c'
 exact method_cls X hs (cls_value X hr hf rfl hq)
end
end XB
namespace L2
open PySem PySem.Spec PyProof.Rows
def XO (e C:Addr) (d:Option Addr) (r:Bool) (h:Heap):Prop:=∃ (vs:Array Value) (a0:Addr),h.get? e=some { cls:=.ref C,dict:=d,data:=.fields vs }/\vs[0]?=some (.ref a0)/\(r=false->vs[1]?=some .none)
def DX (dx:Addr) (fs:List (Str×V)) (h:Heap):Prop:=∃ mA,h.Ns1 dx mA/\(∀ f,RelO (fs.lookup f) (mA f))/\PySem.Within mA (fs.map (·.1))
def XAt (H:Hp) (e C:Addr) (d:Option Addr) (r:Bool) (fs:List (Str×V)):Prop:=H e=some (.ext (XO e C d r))/\fs.length<=1000/\match d with|none=>fs=[]|some dx=>dx≠e/\H dx=some (.ext (DX dx fs))
structure XC (K:PySem.W.Frag) (C:Addr) (nm:Str) (bm:List Value):Prop where
 tl:XB.Tail bm
 obj:∃ q N bs sn sub ab col dd k0 k1 k2 k3 k5,K.lookup C=some (excClassObj nm q C N bs bm true sn sub ab col dd k0 k1 k2 k3 k5 "ValueError.__new__")
 ga:PySem.W.findIn K (.ref C) "__getattribute__"=some (some (.builtin "BaseException.__getattribute__"))
 gt:PySem.W.findIn K (.ref C) "__getattr__"=some none
 sa:PySem.W.findIn K (.ref C) "__setattr__"=some (some (.builtin "object.__setattr__"))
 cl:PySem.W.findIn K (.ref C) "__class__"=some (some (.builtin "object.__class__"))
section
variable {K:PySem.W.Frag} {C:Addr} {nm:Str} {bm:List Value}
theorem XC.clsIn (c:XC K C nm bm):∃ cd,PySem.W.clsIn K C=some cd/\cd.mro=.ref C::bm/\cd.hasDict=true:=by
 obtain ⟨q,N,bs,sn,sub,ab,col,dd,k0,k1,k2,k3,k5,l⟩:=c.obj
 refine ⟨_,by unfold PySem.W.clsIn;rw [l],rfl,rfl⟩
theorem XC.mro (c:XC K C nm bm) (n:String) (b:Bool) (e:XB.bmV.contains (.type n)=b):PySem.W.mroIn K C (.type n)=some b:=by
 obtain ⟨cd,h,m,_⟩:=c.clsIn
 unfold PySem.W.mroIn
 rw [h,Option.bind_some,m]
 show (if false=true then _ else _)=_
 rw [if_neg (by decide),c.tl.has C n b e]
theorem XC.kit (c:XC K C nm bm) {x:Addr}:PySem.W.KitX K (.ref x) (.ref C) (fun h=>∃ ox od,PySem.W.InstAt h x ox C od):=by
 obtain ⟨cd,h,_⟩:=c.clsIn
 exact XB.kitx_exc (by rw [h];rfl) c.ga c.gt (c.mro "BaseException" true (by decide +kernel)) (c.mro "object" true (by decide +kernel)) c.cl (by rfl) (by rfl)
theorem XC.one {C':Addr} {nm':Str} {bm':List Value} (c:XC K C nm bm) (c':XC K C' nm' bm'):PySem.W.kitOne K (.ref C) (.ref C')=some ((Value.ref C::bm).contains (.ref C')):=by
 obtain ⟨cd,h,m,_⟩:=c.clsIn
 obtain ⟨cd',h',_⟩:=c'.clsIn
 obtain ⟨q,N,bs,sn,sub,ab,col,dd,k0,k1,k2,k3,k5,l⟩:=c'.obj
 unfold PySem.W.kitOne
 by_cases e:(Value.ref C == Value.ref C')=true
 ·rw [if_pos e,List.contains_cons]
  have e':(Value.ref C' == Value.ref C)=true:=by rw [beq_iff_eq] at e ⊢;exact e.symm
  rw [e']
  rfl
 ·rw [if_neg e]
  unfold PySem.W.kitCls
  dsimp only
  have ht:PySem.W.typeIn K (.ref C')=some (.type "type"):=by
   show Option.map (fun x=>x.cls) (List.lookup C' K)=_
   rw [l]
   rfl
  rw [if_pos (by rw [h',ht];rfl)]
  unfold PySem.W.subIn PySem.W.mroIn
  dsimp only
  rw [h,Option.bind_some,m]
  show (if false=true then _ else _)=_
  rw [if_neg (by decide)]
end
section
variable {X:Cx} {pins:List (Addr×Obj)} {σ:St} {H:Hp} {s:Shared} {e C dx:Addr} {d:Option Addr} {rr:Bool} {nm:Str} {bm:List Value} {fs:List (Str×V)} {f:Str} {v:V} {A:Around} {E:Value->Shared->Prop}
theorem XAt.obj (x:XAt H e C d rr fs) (I:Inv X pins σ H s):∃ (vs:Array Value) (a0:Addr),s.heap.get? e=some { cls:=.ref C,dict:=d,data:=.fields vs }/\vs[0]?=some (.ref a0)/\(rr=false->vs[1]?=some .none):=by
 obtain ⟨p,_,_⟩:=(show ObjOk X.prog X.w H s.heap e (.ext (XO e C d rr)) from I.hok e _ x.1)
 exact p
theorem XAt.dict (x:XAt H e C (some dx) rr fs) (I:Inv X pins σ H s):∃ mA,s.heap.Ns1 dx mA/\(∀ f,RelO (fs.lookup f) (mA f))/\PySem.Within mA (fs.map (·.1)):=by
 obtain ⟨_,_,_,h⟩:=x
 obtain ⟨p,_,_⟩:=(show ObjOk X.prog X.w H s.heap dx (.ext (DX dx fs)) from I.hok dx _ h)
 exact p
theorem XAt.inst (x:XAt H e C d rr fs) (I:Inv X pins σ H s):∃ ox od,PySem.W.InstAt s.heap e ox C od:=by
 obtain ⟨vs,a0,h,_⟩:=x.obj I
 cases d with
 | none=>exact ⟨_,none,h,rfl,rfl,True.intro⟩
 | some dx=>
  obtain ⟨mA,n,_,_⟩:=x.dict I
  obtain ⟨od,ho,_⟩:=eg n
  exact ⟨_,some od,h,rfl,rfl,ho⟩
theorem rF:cu X (.builtin "isinstance") (fun xs H Q=>∃ e C d r fs nm bm C' nm' bm',xs=[.ref e,.ref C']/\XAt H e C d r fs/\XC X.K C nm bm/\XC X.K C' nm' bm'/\Q (.bl ((Value.ref C::bm).contains (.ref C'))) H):=by
 intro pins s σ H xs us Q I r h
 obtain ⟨e,C,d,r0,fs,nm,bm,C',nm',bm',rfl,x,c,c',q⟩:=h
 obtain ⟨u,u',rfl,rx,ry⟩:=ow r
 cases rx
 cases ry
 exact Ba c.kit I.kIn (x.inst I) (c.one c') (fun z=>nomatch z) fun tk=>⟨.bl _,H,I.tok _,rfl,q⟩
theorem nB {b:Bool} {Q:Value->Shared->Prop} (I:Inv X pins σ H s) (x:XAt H e C (some dx) rr fs) (c:XC X.K C nm bm) (n:NoAttr X.K C f) (l:fs.lookup f=some v)
  (h:∀ u s',Inv X pins σ H s'->RelV v u->Q u s'):wpAny (model X.prog X.w) A (getAttr (.ref e) f b) Q E s:=by
 obtain ⟨mA,ns,r,_⟩:=x.dict I
 obtain ⟨vs,a0,ho,_⟩:=x.obj I
 obtain ⟨u,hu,ru⟩:=RelO.some_of (v:=v) (o:=mA f) (by rw [<-l];exact r f)
 obtain ⟨od,hd,lk⟩:=eg ns
 obtain ⟨cd,hc,m,hh⟩:=c.clsIn
 have hf:PySem.W.findObj X.K C (some od) f=some (.value u):=by
  unfold PySem.W.findObj
  rw [hc,Option.bind_some,show PySem.W.findIn X.K (.ref C) f=some none from n,Option.bind_some]
  show ((PySem.W.ownOf cd (some od) f).bind _)=_
  have ho:PySem.W.ownOf cd (some od) f=some (some u):=by
   unfold PySem.W.ownOf
   rw [hh,if_pos rfl]
   show PySem.W.lookIn f od=_
   rw [lk f,hu]
  rw [ho]
  rfl
 exact XB.xget_value I.kIn (ox:={ cls:=.ref C,dict:=some dx,data:=.fields vs }) (od:=some od) ⟨ho,rfl,rfl,hd⟩ c.ga c.gt (c.mro "BaseException" true (by decide +kernel)) hf (iw ru) (h u _ (I.tok _) ru)
theorem Inv.two {h':Heap} {t':Nat} {D:Addr} {o1 o2:HO} {φ:Heap->Prop} (I:Inv X pins σ H s) (he:H e=some (.ext φ)) (hD:s.heap.objs.size<=D) (k:∀ b u,b≠e->s.heap.get? b=some u->h'.get? b=some u) (heo:∃ u,h'.get? e=some u)
  (n1:ObjOk X.prog X.w (ax (ax H e o1) D o2) h' e o1) (n2:ObjOk X.prog X.w (ax (ax H e o1) D o2) h' D o2):Inv X pins σ (ax (ax H e o1) D o2) { s with heap:=h',toks:=t' }:=by
 have hn:=I.hok.fresh hD
 have neD:e≠D:=aJ he hn
 have old:∀ b o,H b=some o->b≠e->ax (ax H e o1) D o2 b=some o:=fun b o hb ne=>by rw [aB (aJ hb hn),aB ne];exact hb
 have nt:∀ b o,H b=some o->(∀ ψ,o≠.ext ψ)->b≠e:=fun b o hb ne z=>by
  rw [z,he] at hb
  exact ne _ (A1 hb).symm
 refine I.un ⟨?_,?_,?_,?_,?_,?_,?_⟩ ?_
 ·intro b o q hb _ _
  exact k b o (fun z=>by rw [z,he] at hb;cases hb) q
 ·intro b o q hb _ _
  exact ⟨o.slots,k b o (fun z=>by rw [z,he] at hb;cases hb) q⟩
 ·intro b o q hb _
  have h1:b≠e:=fun z=>by rw [z,he] at hb;cases hb
  have h2:b≠D:=fun z=>by
   rw [z] at q
   exact absurd (Ap q) (Nat.not_lt_of_le hD)
  rw [aB h2,aB h1]
  exact hb
 ·intro b o q _
  by_cases z:b=e
  ·rw [z];exact heo
  ·exact ⟨o,k b o z q⟩
 ·intro b xs hb
  exact old b _ hb (nt b _ hb (fun ψ z=>nomatch z))
 ·intro b o u hb
  exact old b _ hb (nt b _ hb (fun ψ z=>nomatch z))
 ·intro b ps hb
  refine ⟨#[],?_⟩
  rw [Array.append_empty]
  exact old b _ hb (nt b _ hb (fun ψ z=>nomatch z))
 ·intro a o ha
  by_cases hd:a=D
  ·subst hd
   rw [ad] at ha
   cases ha
   exact n2
  ·rw [aB hd] at ha
   by_cases hx:a=e
   ·subst hx
    rw [ad] at ha
    cases ha
    exact n1
   ·rw [aB hx] at ha
    refine (I.hok a o ha).stay (fun b u hb q=>k b u ?_ q) (fun b hb=>old b _ hb (nt b _ hb (fun ψ z=>nomatch z))) (fun b xs hb=>old b _ hb (nt b _ hb (fun ψ z=>nomatch z)))
    rcases hb with rfl|hb
    ·exact hx
    ·exact nt b _ hb (fun ψ z=>nomatch z)
structure wQ (H H':Hp) (e C:Addr) (d:Option Addr) (r:Bool) (d':Addr) (fs:List (Str×V)):Prop where
 at_:XAt H' e C (some d') r fs
 keep:∀ b o,H b=some o->b≠e->some b≠d->H' b=some o
 new:d=none->H d'=none
 old:∀ dx,d=some dx->d'=dx
theorem eW {P:Program} {w:World} {H:Hp} {h:Heap} {a:Addr} {φ:Heap->Prop} (p:φ h) (o:∃ o,h.get? a=some o) (st:∀ h1 h2:Heap,φ h1->(∀ o,h1.get? a=some o->h2.get? a=some o)->φ h2):ObjOk P w H h a (.ext φ):=⟨p,o,st⟩
theorem XO.stay {e C:Addr} {d:Option Addr} {r:Bool}:∀ h1 h2:Heap,XO e C d r h1->(∀ o,h1.get? e=some o->h2.get? e=some o)->XO e C d r h2:=fun h1 h2 ⟨vs,a0,h,z⟩ k=>⟨vs,a0,k _ h,z⟩
theorem DX.stay {dx:Addr} {fs:List (Str×V)}:∀ h1 h2:Heap,DX dx fs h1->(∀ o,h1.get? dx=some o->h2.get? dx=some o)->DX dx fs h2:=fun h1 h2 ⟨mA,n,r⟩ k=>⟨mA,n.at k,r⟩
theorem mt {mA:Str->Option Value} {u:Value} {y:V} (r:∀ f,RelO (fs.lookup f) (mA f)) (ry:RelV y u) (g:Str):RelO ((cG f y fs).lookup g) (if g=f then some u else mA g):=by
 rw [dM]
 by_cases q:g=f
 ·rw [if_pos q,if_pos q];exact ry
 ·rw [if_neg q,if_neg q];exact r g
theorem gQ {mA:Str->Option Value} {u:Value} {y:V} (wi:PySem.Within mA (fs.map (·.1))):PySem.Within (fun g=>if g=f then some u else mA g) ((cG f y fs).map (·.1)):=fun g hg=>by
 by_cases q:g=f
 ·rw [q];exact (de f y fs).1
 ·refine (de f y fs).2 g (wi g fun z=>hg ?_)
  show (if g=f then some u else mA g)=none
  rw [if_neg q];exact z
theorem nC {y:V} {u:Value} {Q:Unit->Shared->Prop} (I:Inv X pins σ H s) (x:XAt H e C d rr fs) (c:XC X.K C nm bm) (n:NoAttr X.K C f) (hl:fs.length < 1000) (ry:RelV y u)
  (h:∀ s' H' d',Inv X pins σ H' s'->wQ H H' e C d rr d' (cG f y fs)->Q () s'):wpAny (model X.prog X.w) A (setAttr (.ref e) f u) Q E s:=by
 obtain ⟨q0,N,bs,sn,sub,ab,col,dd,k0,k1,k2,k3,k5,lk⟩:=c.obj
 have hC:=I.kIn _ _ lk
 have LN:=PySem.W.looks_findIn (M:=model X.prog X.w) I.kIn (show PySem.W.findIn X.K (.ref C) f=some none from n)
 obtain ⟨vs,a0,ho,hv0⟩:=x.obj I
 have hl2:(cG f y fs).length<=1000:=by have:=dN f y fs;omega
 obtain ⟨hh,g,dr,t,os⟩:=s
 cases d with
 | none=>
  have hfs:fs=[]:=x.2.2
  subst hfs
  refine XB.xset_open (o:={ cls:=.ref C,dict:=none,data:=.fields vs }) (od:=none) I.kIn ⟨ho,rfl,rfl,True.intro⟩ c.sa (c.mro "object" true (by decide +kernel)) fun A'=>?_
  refine XB.xstore_new c.tl hC LN ho rfl (fun c z=>nomatch z) rfl fun h' tk' hx' hn' hk=>⟨rfl,?_⟩
  have neD:e≠hh.objs.size:=AM (Ap ho)
  have nD:H hh.objs.size=none:=I.hok.fresh (Ao _)
  refine h _ _ hh.objs.size (Inv.two (o1:=.ext (XO e C (some hh.objs.size) rr)) (o2:=.ext (DX hh.objs.size (cG f y []))) I x.1 (Ao _) hk ⟨_,hx'⟩ ?_ ?_) ⟨⟨?_,hl2,neD.symm,ad⟩,?_,fun _=>nD,(fun dx z=>nomatch z)⟩
  ·exact eW ⟨vs,a0,hx',hv0⟩ ⟨_,hx'⟩ XO.stay
  ·refine eW ⟨_,hn',mt (mA:=fun _=>none) (fs:=[]) (fun _=>True.intro) ry,gQ (mA:=fun _=>none) (fs:=[]) (fun g hg=>absurd rfl hg)⟩ ?_ DX.stay
   obtain ⟨o',_,_,e1,_⟩:=hn'
   exact ⟨o',e1⟩
  ·rw [aB neD,ad]
  ·intro b o hb ne _
   rw [aB (aJ hb nD),aB ne]
   exact hb
 | some dx=>
  obtain ⟨mA,ns,r,wi⟩:=x.dict I
  obtain ⟨od,hd,_⟩:=eg ns
  obtain ⟨x1,x2,x3,x4⟩:=x
  refine XB.xset_open (o:={ cls:=.ref C,dict:=some dx,data:=.fields vs }) (od:=some od) I.kIn ⟨ho,rfl,rfl,hd⟩ c.sa (c.mro "object" true (by decide +kernel)) fun A'=>?_
  refine XB.xstore_old c.tl hC LN ho rfl rfl ns wi (by rw [Aj,sizeLine_eq];omega) fun h' tk' hn' sb=>⟨rfl,?_⟩
  have hd':∃ o,h'.get? dx=some o:=let ⟨o,_,_,e',_⟩:=hn';⟨o,e'⟩
  refine h _ _ dx (I.write (o:=.ext (DX dx (cG f y fs))) (x:=dx) (e:=dx) (by rw [x4];exact True.intro) (.inl rfl) (fun b q hb z=>(sb.2 b hb).trans z) hd' ?_) ⟨⟨by rw [aB x3.symm];exact x1,hl2,x3,ad⟩,?_,(fun z=>nomatch z),fun _ z=>A1 z⟩
  ·exact eW ⟨_,hn',mt r ry,gQ wi⟩ hd' DX.stay
  ·intro b o hb _ ne
   rw [aB (fun z=>ne (by rw [z]))]
   exact hb
end
end L2
namespace L2
open PySem PySem.Spec PyProof.Rows
section
variable {X:Cx} {o e value:Expr} {f:Str} {pos pos' tpos:Pos} {ta tv:TE}
def ua (K:PySem.W.Frag) (ta:TE) (f:Str):TE:=fun σ H Q=>ta σ H fun x H1=>∃ a C dx r fs nm bm v,x=.ref a/\XAt H1 a C (some dx) r fs/\XC K C nm bm/\NoAttr K C f/\fs.lookup f=some v/\Q v H1
theorem rG (he:PE X e ta) (hb:attributeBase e f X.env (eval e X.env)=eval e X.env):PE X (.Attribute e f pos) (ua X.K ta f):=by
 refine ⟨?_⟩
 intro pins s σ H Q I h
 refine mf hb (bA (he pins s σ H _ I h) fun u s1 ⟨x,H1,I1,rx,a,C,dx,r0,fs,nm,bm,v,ex,ea,c,n,l,q⟩=>?_)
 subst ex
 obtain rfl:u=Value.ref a:=rx
 exact nB I1 ea c n l fun u' s2 I2 ru=>⟨v,H1,I2,ru,q⟩
def wR (K:PySem.W.Frag) (ta tv:TE) (f:Str):TS:=fun D σ H=>tv σ H fun y H1=>ta σ H1 fun x H2=>∃ a C d r fs nm bm,x=.ref a/\XAt H2 a C d r fs/\XC K C nm bm/\NoAttr K C f/\fs.length < 1000 /\
 ∀ H3 d',wQ H2 H3 a C d r d' (cG f y fs)->D.nx σ H3
theorem rH (ha:PE X o ta) (hv:PE X value tv) (hs:swapsWith value (some (.Attribute o f pos')) pos.line X.env=pure false:=by rfl):PS X (.Assign [.Attribute o f pos'] value pos) (wR X.K ta tv f):=by
 refine ⟨?_⟩
 intro pins s σ H D I h
 refine plainObj_wpAny_Assign_Attribute (bA (hv pins s σ H _ I h) fun u s1 ⟨y,H1,I1,ry,q⟩=>bA (ha pins s1 σ H1 _ I1 q) fun ov s2 ⟨x,H2,I2,rx,a,C,d,r0,fs,nm,bm,ex,ea,c,n,l,q2⟩=>?_) hs
 subst ex
 obtain rfl:ov=Value.ref a:=rx
 exact nC I2 ea c n l ry fun s3 H3 d' I3 xs=>⟨σ,_,I3,q2 H3 d' xs⟩
end
section
variable {X:Cx} {CX:nj} {k:Nat} {f C:Addr} {fd:FuncData} {ps:List Str} {sp:Sp} {E:XK} {x m:Str} {p pos apos:Pos} {e o:Expr} {es:List Expr} {ta:TE} {t:TA} {nm:Str} {bm:List Value}
def o4 (C:Addr) (sp:Sp) (E:XK) (t:TA):TE:=fun σ H Q=>t σ H fun vs H1=>∀ a,H1 a=none->sp (.ref a::vs) (ax H1 a (.ext (XO a C none false))) (fun v H2=>v=.non/\Q (.ref a) H2) E
structure yT (K:PySem.W.Frag) (C f:Addr):Prop where
 init:PySem.W.findIn K (.ref C) "__init__"=some (some (.ref f))
 fn:PySem.W.isFn K (.ref f)=true
 kp:PySem.W.keepIn K (.ref C)=true
theorem nE {pins:List (Addr×Obj)} {σ:St} {H:Hp} {s:Shared} {Q:VK} {us:List Value} {vs:List V} (c:XC X.K C nm bm) (M:yT X.K C f) (F:aG X.prog X.w X.K X.mg X.base CX k f fd ps sp) (hr:Room (k+1) X.A) (hb:Binds X.K fd ps [])
  (hx:dv CX X E) (hps:ps.length<=1000) (I:Inv X pins σ H s) (r:Vals vs us)
  (h:∀ a,H a=none->sp (.ref a::vs) (ax H a (.ext (XO a C none false))) (fun v H2=>v=.non/\Q (.ref a) H2) E) :
  wpAny (model X.prog X.w) X.A (call (.ref C) us) (EP X pins σ Q) X.xe s:=by
 obtain ⟨q0,N,bs,sn,sub,ab,col,dd,k0,k1,k2,k3,k5,lk⟩:=c.obj
 have hC:=I.kIn _ _ lk
 have LI:=PySem.W.looks_findIn (M:=model X.prog X.w) I.kIn M.init
 obtain ⟨oI,hfI,hfc⟩:∃ oI,s.heap.get? f=some oI/\oI.cls=.type "function":=by
  have ht:PySem.W.typeIn X.K (.ref f)=some (.type "function"):=beq_iff_eq.mp M.fn
  obtain ⟨o,ho,hc⟩:=Option.map_eq_some_iff.mp ht
  exact ⟨o,I.kIn _ _ ho,hc⟩
 have hq:=h (s.heap.objs.size+1) (I.hok.fresh (Nat.le_succ _))
 have r2:Vals (V.ref (s.heap.objs.size+1)::vs) (Value.ref (s.heap.objs.size+1)::us):=.cons rfl r
 have hl:(Value.ref (s.heap.objs.size+1)::us).length=ps.length:=by
  have e:=r2.length
  rw [F.len _ _ _ _ hq] at e
  exact e.symm
 have kp:∀ b o,s.heap.get? b=some o->((s.heap.push (XB.tupO us)).push (XB.excO C s.heap.objs.size)).get? b=some o:=fun b o hb=>Al _ (Al _ hb)
 have hget:((s.heap.push (XB.tupO us)).push (XB.excO C s.heap.objs.size)).get? (s.heap.objs.size+1)=some (XB.excO C s.heap.objs.size):=by
  have:=AB (s.heap.push (XB.tupO us)) (o:=XB.excO C s.heap.objs.size) rfl
  rwa [BC] at this
 have I2:=I.laid (a:=s.heap.objs.size+1) (o:=.ext (XO (s.heap.objs.size+1) C none false)) (t':=s.toks) kp (Nat.le_succ _) (eW ⟨_,s.heap.objs.size,hget,rfl,fun _=>rfl⟩ ⟨_,hget⟩ XO.stay)
 have hus:us.length<=sizeLine:=by
  rw [Ai] at hl
  rw [sizeLine_eq]
  omega
 obtain ⟨hh,g,d,t,os⟩:=s
 refine XB.xmake c.tl hC LI hfI hfc (wpAny_call (codeAny_mono (F.run _ X.stack _ _ ⟨Value.ref (hh.objs.size+1)::us,[]⟩ (Value.ref (hh.objs.size+1)::us) _ _ E (hr.make C us []) (I2.env0.make C us []) (by
  have:=hb ⟨(hh.push (XB.tupO us)).push (XB.excO C hh.objs.size),g,d,t,os⟩ (Value.ref (hh.objs.size+1)::us) I2.kIn (by rw [Bd];exact hl)
  rw [Bd] at this
  exact this) r2 hq) fun r s' hq'=>?_)) hus
 cases r with
 | error e=>exact hx pins σ _ _ e s' I2 hq'
 | ok fl=>
  cases fl with
  | ret u=>
   obtain ⟨v,H',I3,rv,ev,q3⟩:=I2.after hq'
   subst ev
   exact ⟨rv,⟨V.ref (hh.objs.size+1),H',I3,rfl,q3⟩⟩
  | next=>exact False.elim hq'
  | brk=>exact False.elim hq'
  | cont=>exact False.elim hq'
theorem kg (c:XC X.K C nm bm) (M:yT X.K C f) (F:aG X.prog X.w X.K X.mg X.base CX k f fd ps sp) (hr:Room (k+1) X.A) (hg:Gl X x) (hm:X.mg x=some (.ref C)) (hb:Binds X.K fd ps []) (hx:dv CX X E) (hps:ps.length<=1000)
  (ha:PA X (e::es) t) (hdb:(x == ("__debug__":Str))=false:=by decide) (he:starEach (e::es) X.env=(false,eval e X.env)::starEach es X.env:=by rfl) (hpl:(backTo pos (starEach es X.env)).any (·.1)=false:=by rfl) :
  PE X (.Call (.Name x p) (e::es) [] pos) (o4 C sp E t):=by
 refine ⟨?_⟩
 intro pins s σ H Q I h
 refine wpAny_Call_Name_kw (dm I hg hm ?_ hdb)
 refine Bt (h₀:=X.base) I.ok.mod.kin M.kp (bA (ha pos pins s σ H _ I h) fun us s1 ⟨vs,H1,I1,r,q⟩=>⟨I1.kIn,?_⟩) he hpl
 exact nE c M F hr hb hx hps I1 r q
structure uc (K:PySem.W.Frag) (C:Addr) (m:Str) (f:Addr):Prop where
 rd:PySem.W.readsIn K C (.type "type")=true
 at_:PySem.W.findCls K (.ref C) (.type "type") m=some (.val (.ref f))
 kp:PySem.W.keepIn K (.ref f)=true
theorem o5 {pl:Sem Bool} (M:uc X.K C m f) (F:aG X.prog X.w X.K X.mg X.base CX k f fd ps sp) (hr:Room k X.A) (hg:Gl X x) (hm:X.mg x=some (.ref C)) (hb:Binds X.K fd ps []) (hx:dv CX X E) (ha:PA X (e::es) t)
  (hdb:(x == ("__debug__":Str))=false:=by decide) (hst:starEach (e::es) X.env=(false,eval e X.env)::starEach es X.env:=by rfl) (hpl:(backTo pos (starEach es X.env)).any (·.1)=false:=by rfl)
  (ht:eval (.Call (.Attribute (.Name x p) m apos) (e::es) [] pos) X.env=(do
   let ov <-eval (.Name x p) X.env
   standAt apos.atName
   let (f,first) <-holding [ov] (getMethod ov m pl)
   callWith pos f first (backTo pos (starEach (e::es) X.env)) (backToKw pos (keywordEach [] X.env))):=by rfl) :
  PE X (.Call (.Attribute (.Name x p) m apos) (e::es) [] pos) (mh sp [] E t):=by
 refine ⟨?_⟩
 intro pins s σ H Q I h
 refine PySem.W.methodCall_KW (pl:=pl) (bA (bj (v:=.ref C) hg hm rfl hdb pins s σ H (fun v H1=>v=.ref C/\H1=H) I ⟨rfl,rfl⟩) fun u s1 ⟨xx,H1,I1,rx,ex,eh⟩=>?_) ht
 subst ex eh
 obtain rfl:u=Value.ref C:=rx
 refine XB.own_method I1.kIn M.rd M.at_ ?_
 refine Bt (first:=[]) (h₀:=X.base) I.ok.mod.kin M.kp (bA (ha pos pins _ σ H1 _ (I1.tok _) h) fun us s2 ⟨vs,H2,I2,r,q2⟩=>⟨I2.kIn,?_⟩) hst hpl
 exact i9 (us:=us) (vs:=vs) (ds:=[]) (dvs:=[]) F hr hb .nil hx I2 r q2
theorem o6 {H:Hp} {a:Addr} {o:HO} (h:H a=some o):ax H a o=H:=by
 funext b
 unfold ax
 by_cases z:b=a
 ·rw [if_pos z,z,h]
 ·rw [if_neg z]
def wS (K:PySem.W.Frag) (t:TA):TE:=fun σ H Q=>t σ H fun vs H1=>∃ a rest C d r fs nm bm,vs=.ref a::rest/\rest.length<=1000/\XAt H1 a C d r fs/\XC K C nm bm/\Q .non H1
theorem rJ {pl:Sem Bool} (hg:Gl X "ValueError") (hm:X.mg "ValueError"=none) (ha:PA X (e::es) t)
  (hst:starEach (e::es) X.env=(false,eval e X.env)::starEach es X.env:=by rfl) (hpl:(backTo pos (starEach es X.env)).any (·.1)=false:=by rfl)
  (ht:eval (.Call (.Attribute (.Name "ValueError" p) "__init__" apos) (e::es) [] pos) X.env=(do
   let ov <-eval (.Name "ValueError" p) X.env
   standAt apos.atName
   let (f,first) <-holding [ov] (getMethod ov "__init__" pl)
   callWith pos f first (backTo pos (starEach (e::es) X.env)) (backToKw pos (keywordEach [] X.env))):=by rfl) :
  PE X (.Call (.Attribute (.Name "ValueError" p) "__init__" apos) (e::es) [] pos) (wS X.K t):=by
 refine ⟨?_⟩
 intro pins s σ H Q I h
 have hv:bootBuiltins "ValueError"=some (.type "ValueError"):=by decide +kernel
 refine PySem.W.methodCall_KW (pl:=pl) (bA (dQ (n:="ValueError") hg hm hv (by decide) (by decide) pins s σ H (fun v H1=>v=.ty "ValueError"/\H1=H) I ⟨rfl,rfl⟩) fun u s1 ⟨xx,H1,I1,rx,ex,eh⟩=>?_) ht
 subst ex eh
 obtain rfl:u=Value.type "ValueError":=rx
 refine XB.val_method I1.kIn ?_
 refine PyProof.Rows.callWith_builtin1 (bA (ha pos pins _ σ H1 _ (I1.tok _) h) fun us s2 ⟨vs,H2,I2,r,a,rest,C,d,r0,fs,nm,bm,ev,hz,x,c,q2⟩=>?_) hst hpl
 subst ev
 cases r with
 | @cons _ u _ us' r0 rr=>
  obtain rfl:u=Value.ref a:=r0
  obtain ⟨q0,N,bs,sn,sub,ab,col,dd,k0,k1,k2,k3,k5,lk⟩:=c.obj
  have hC:=I2.kIn _ _ lk
  obtain ⟨vv,a0,ho,hv0,hv1⟩:=x.obj I2
  have hl:=rr.length
  obtain ⟨hh,g,d',t',os⟩:=s2
  refine wpAny_call (XB.xinit c.tl hC ho rfl rfl hv0 (by rw [sizeLine_eq];omega) fun h' vs' hk hx' ⟨a1,h1,h2⟩=>?_)
  have I3:=I2.write (o:=.ext (XO a C d r0)) (x:=a) (e:=a) (t':=t') (by rw [x.1];exact True.intro) (.inl rfl) (fun b q hb z=>hk b q hb z) ⟨_,hx'⟩ (eW ⟨vs',a1,hx',h1,fun z=>h2.trans (hv1 z)⟩ ⟨_,hx'⟩ XO.stay)
  rw [o6 x.1] at I3
  exact ⟨.non,H2,I3,rfl,q2⟩
end
end L2
namespace L2
open PySem PySem.Spec PyProof.Rows
def ExT (e C:Addr) (d:Option Addr) (T:Addr) (fl:Value) (h:Heap):Prop:=
 ∃ (vs:Array Value) (a0:Addr) (oT:Obj) (ts:Array Value),h.get? e=some { cls:=.ref C,dict:=d,data:=.fields vs }/\vs[0]?=some (.ref a0)/\vs[1]?=some (.ref T)/\T≠e/\h.get? T=some oT/\oT.data=.fields ts/\ts[3]?=some fl
structure Wr (fs:List Addr) (e T:Addr) (h h':Heap):Prop where
 keep:∀ b o,h.get? b=some o->b∉fs->b≠e->b≠T->h'.get? b=some o
 slot:∀ b o,h.get? b=some o->b∈fs->∃ sl,h'.get? b=some { o with slots:=sl }
 old:∀ o,h.get? T=some o->∃ ts,o.data=.fields ts
 nf:T∉fs
def zV (n:Nat) (H:Hp) (L:Addr) (pn:List Addr) (e C:Addr) (d:Option Addr) (h:Heap):Prop:=
 ∃ (vs:Array Value) (a0:Addr),h.get? e=some { cls:=.ref C,dict:=d,data:=.fields vs }/\vs[0]?=some (.ref a0)/\(vs[1]?=some .none\/∃ T fl,ExT e C d T fl h/\n<=T/\H T=none/\T∉pn/\(fl=.none\/fl=rawInt L))
theorem ExT.xo {e C:Addr} {d:Option Addr} {T:Addr} {fl:Value} {h:Heap} (x:ExT e C d T fl h):XO e C d true h:=by
 obtain ⟨vs,a0,_,_,h1,h2,_⟩:=x
 exact ⟨vs,a0,h1,h2,fun z=>nomatch z⟩
theorem iM {o:Obj} {ts:Array Value} {f:Array Value->Array Value} (hd:o.data=.fields ts) (hf:f ts=ts):o.mapFields f=o:=by
 obtain ⟨c,d,dt,sl⟩:=o
 cases hd
 show Obj.mk c d (.fields (f ts)) sl=_
 rw [hf]
section
variable {M:Model} {A:Around} {E:Value->Shared->Prop} {s:Shared} {base:Heap} {env:Env} {outer:List Env} {L e C T:Addr} {d:Option Addr} {fl:Value} {Q:Unit->Shared->Prop}
theorem dB {fr:Option Addr} (x:ExT e C d T fl s.heap) (h:∀ h',(∀ b o,s.heap.get? b=some o->b≠T->h'.get? b=some o)->ExT e C d T (fr.elim .none fun f=>rawInt f) h'->Q () { s with heap:=h' }):wpAny M A (setFlight (.ref e) fr) Q E s:=by
 obtain ⟨vs,a0,oT,ts,he,h0,h1,ne,hT,hd,h3⟩:=x
 have hsz:3 < ts.size:=(Array.getElem?_eq_some_iff.mp h3).1
 unfold setFlight
 refine wpAny_bind (wpAny_field he rfl h1 ?_)
 rw [if_pos (show (Value.ref T != Value.none)=true from by simp)]
 have k:∀ b o,s.heap.get? b=some o->b≠T->(s.heap.update T (Obj.mapFields (·.setIfInBounds 3 (fr.elim Value.none fun f=>rawInt f)))).get? b=some o:=fun b o e' hb=>by
  rw [Heap.get?_update_other _ _ (Ne.symm hb)]
  exact e'
 refine wpAny_setField hT hd hsz (h _ k ?_)
 have hd':=Obj.data_mapFields hd (·.setIfInBounds 3 (fr.elim Value.none fun f=>rawInt f))
 exact ⟨vs,a0,_,_,k _ _ he (Ne.symm ne),h0,h1,ne,Heap.get?_update_self _ hT (Obj.isFreed_of_fields hd'),hd',by simp [hsz]⟩
theorem iN {vs:Array Value} {a0:Addr} {head:Value} {hadNext:Bool} (hfr:A.frames=some (env::outer)) (hl:s.heap.FunFrames base (env::outer)) (hf:env.frame=some L)
  (he:s.heap.get? e=some { cls:=.ref C,dict:=d,data:=.fields vs }) (h0:vs[0]?=some (.ref a0)) (hsz:1 < vs.size)
  (h:∀ h',Wr (iZ (env::outer)) e s.heap.objs.size s.heap h'->ExT e C d s.heap.objs.size (rawInt L) h'->Q () { s with heap:=h' }) :
  wpAny M A (do let a <-frameOf env;let pl <-entryPlaceOf L hadNext;let b <-EntryCells.newEntry head a .none (rawInt L) .none pl;setField (.ref e) 1 b) Q E s:=by
 have hene:e∉iZ (env::outer):=fun hm=>by
  obtain ⟨_,o,ho,hnf⟩:=hl.mem hm
  rw [he] at ho;injection ho with ho;subst ho;exact hnf vs rfl
 refine wpAny_bind (wpAny_frameOf_fun hfr hl hf fun h₁ hs₁=>?_)
 refine wpAny_bind (wpAny_entryPlaceOf fun pl hpl=>?_)
 unfold EntryCells.newEntry newFields
 refine wpAny_bind (wpAny_newObj_type ?_ (hpl.sizeOk5 _ _ _ _ _))
 generalize hts:([head,.ref L,.none,rawInt L,.none]++(if pl.isEmpty then List.replicate 6 Value.none else pl)).toArray=ts
 have h3:ts[3]?=some (rawInt L):=by rw [<-hts];simp
 have he₁:h₁.get? e=some { cls:=.ref C,dict:=d,data:=.fields vs }:=(hs₁.2.1 e hene).trans he
 have he₂:=Al (h:=h₁) { cls:=.type "traceback",dict:=none,data:=.fields ts } he₁
 refine wpAny_setField he₂ rfl hsz ?_
 have hsize:h₁.objs.size=s.heap.objs.size:=hs₁.1
 have hTe:h₁.objs.size≠e:=Nat.ne_of_gt (Ap he₁)
 have he₃:=Heap.get?_update_self (Obj.mapFields (·.setIfInBounds 1 (Value.ref h₁.objs.size))) he₂ rfl
 have hT₃:=(Heap.get?_update_other (h₁.push { cls:=.type "traceback",dict:=none,data:=.fields ts }) (Obj.mapFields (·.setIfInBounds 1 (Value.ref h₁.objs.size))) (Ne.symm hTe)).trans (AB h₁ rfl)
 have keep:∀ b o,b≠e->h₁.get? b=some o->((h₁.push { cls:=.type "traceback",dict:=none,data:=.fields ts }).update e (Obj.mapFields (·.setIfInBounds 1 (Value.ref h₁.objs.size)))).get? b=some o:=fun b o hbe hb=>by
  rw [Heap.get?_update_other _ _ (Ne.symm hbe)]
  exact Al _ hb
 rw [hsize] at he₃ hT₃ keep hTe ⊢
 refine h _ ⟨fun b o hb hbf hbe _=>keep b o hbe ((hs₁.2.1 b hbf).trans hb),fun b o hb hbf=>?_,fun o ho=>absurd (Ap ho) (Be _),fun hm=>?_⟩ ?_
 ·obtain ⟨sl,hs⟩:=hs₁.2.2 b o hb
  exact ⟨sl,keep b _ (fun z=>hene (z ▸ hbf)) hs⟩
 ·obtain ⟨_,o,ho,_⟩:=hl.mem hm
  exact absurd (Ap ho) (Be _)
 ·exact ⟨_,a0,_,ts,he₃,by rw [Array.getElem?_setIfInBounds_ne (by decide)];exact h0,by simp [hsz],hTe,hT₃,rfl,h3⟩
theorem gR {n:Nat} {H:Hp} {pn:List Addr} (hfr:A.frames=some (env::outer)) (hl:s.heap.FunFrames base (env::outer)) (hf:env.frame=some L) (x:zV n H L pn e C d s.heap) (hn:n<=s.heap.objs.size)
  (hH:∀ a,s.heap.objs.size<=a->H a=none) (hp:∀ a∈pn,a < s.heap.objs.size)
  (h:∀ h' T,Wr (iZ (env::outer)) e T s.heap h'->ExT e C d T (rawInt L) h'->n<=T->H T=none->T∉pn->Q () { s with heap:=h' }):wpAny M A (noteFrame (.ref e) env) Q E s:=by
 obtain ⟨vs,a0,he,h0,hm⟩:=x
 have new:∀ h',Wr (iZ (env::outer)) e s.heap.objs.size s.heap h'->ExT e C d s.heap.objs.size (rawInt L) h'->Q () { s with heap:=h' }:=fun h' w q=>h h' _ w q hn (hH _ (Ao _)) fun z=>absurd (hp _ z) (Be _)
 unfold noteFrame
 simp only [hf]
 rcases hm with h1|⟨T,fl,x,nT,fT,pT,fl0|fl1⟩
 ·refine wpAny_bind (wpAny_field he rfl h1 ?_)
  rw [if_neg (by decide)]
  exact iN hfr hl hf he h0 (Array.getElem?_eq_some_iff.mp h1).1 new
 ·subst fl0
  obtain ⟨vs',a0',oT,ts,he',h0',h1,ne,hT,hd,h3⟩:=x
  rw [he] at he'
  have ev:vs=vs':=by injection he' with e1;injection e1 with _ _ e2 _;injection e2
  subst ev
  refine wpAny_bind (wpAny_field he rfl h1 ?_)
  rw [if_pos (show (Value.ref T != Value.none)=true from by simp)]
  refine wpAny_bind (wpAny_field hT hd h3 ?_)
  rw [if_neg (show ¬ ((Value.none == rawInt L)=true) from by simp [rawInt])]
  have hsz:3 < ts.size:=(Array.getElem?_eq_some_iff.mp h3).1
  refine wpAny_bind (wpAny_setField hT hd hsz ?_)
  have same:ts.setIfInBounds 3 Value.none=ts:=by
   apply Array.ext_getElem?
   intro i
   by_cases hi:3=i
   ·subst hi;rw [h3];simp [hsz]
   ·rw [Array.getElem?_setIfInBounds_ne hi]
  have all:∀ b,(s.heap.update T (Obj.mapFields (·.setIfInBounds 3 Value.none))).get? b=s.heap.get? b:=fun b=>by
   by_cases hb:b=T
   ·rw [hb]
    have:=Heap.get?_update_self (Obj.mapFields (·.setIfInBounds 3 Value.none)) hT (by rw [iM hd same];exact Obj.isFreed_of_fields hd)
    rw [this,iM hd same,hT]
   ·exact Heap.get?_update_other _ _ (Ne.symm hb)
  refine iN (hadNext:=true) hfr (hl.of_keeps fun b o hb _=>⟨o,(all b).trans hb,rfl⟩) hf ((all e).trans he) h0 (Array.getElem?_eq_some_iff.mp h1).1 fun h' w q=>?_
  have hs:(s.heap.update T (Obj.mapFields (·.setIfInBounds 3 Value.none))).objs.size=s.heap.objs.size:=Heap.size_after_update _ _ _
  dsimp only at w q
  rw [hs] at w q
  refine new h' ⟨fun b o hb=>w.keep b o ((all b).trans hb),fun b o hb=>w.slot b o ((all b).trans hb),fun o ho=>w.old o ((all _).trans ho),w.nf⟩ q
 ·subst fl1
  obtain ⟨vs',a0',oT,ts,he',h0',h1,ne,hT,hd,h3⟩:=id x
  refine wpAny_bind (wpAny_field he' rfl h1 ?_)
  rw [if_pos (show (Value.ref T != Value.none)=true from by simp)]
  refine wpAny_bind (wpAny_field hT hd h3 ?_)
  rw [if_pos (show (rawInt L == rawInt L)=true from by simp)]
  refine wpAny_pure ?_
  have:=h s.heap T ⟨fun b o hb _ _ _=>hb,fun b o hb _=>⟨o.slots,hb⟩,fun o ho=>?_,fun hm=>?_⟩ x nT fT pT
  ·exact this
  ·rw [hT] at ho;cases ho;exact ⟨ts,hd⟩
  ·obtain ⟨_,o,ho,hnf⟩:=hl.mem hm
   rw [hT] at ho;cases ho
   exact hnf ts hd
end
theorem Wr.then {fs:List Addr} {e T:Addr} {h h1 h2:Heap} (w:Wr fs e T h h1) (k:∀ b o,h1.get? b=some o->b≠T->h2.get? b=some o):Wr fs e T h h2:=
 ⟨fun b o hb hf he hT=>k b o (w.keep b o hb hf he hT) hT,fun b o hb hf=>let ⟨sl,q⟩:=w.slot b o hb hf;⟨sl,k b _ q fun z=>w.nf (z ▸ hf)⟩,w.old,w.nf⟩
theorem Wr.un {fs:List Addr} {e T C:Addr} {d:Option Addr} {fl:Value} {h h':Heap} {H:Hp} {φ:Heap->Prop} (w:Wr fs e T h h') (x:ExT e C d T fl h') (He:H e=some (.ext φ)):Un fs [T] H H h h':=by
 obtain ⟨vs,a0,oT,ts,he,_,_,_,hT,_⟩:=x
 refine ⟨fun b o hb n hf hT'=>w.keep b o hb hf (fun z=>by rw [z,He] at n;cases n) (by simpa using hT'),fun b o hb _ hf _=>w.slot b o hb hf,fun _ _ _ n _=>n,fun b o hb hT'=>?_,fun _ _ q=>q,fun _ _ _ q=>q,fun b ps q=>⟨#[],by rw [q];simp⟩⟩
 by_cases hbe:b=e
 ·exact ⟨_,hbe ▸ he⟩
 ·by_cases hf:b∈fs
  ·obtain ⟨sl,q⟩:=w.slot b o hb hf;exact ⟨_,q⟩
  ·exact ⟨o,w.keep b o hb hf hbe (by simpa using hT')⟩
theorem Wr.hok {P:Program} {wd:World} {fs:List Addr} {e T C:Addr} {d:Option Addr} {fl:Value} {h h':Heap} {H:Hp} (w:Wr fs e T h h') (x:ExT e C d T fl h') (He:H e=some (.ext (XO e C d true))) (hT:H T=none) (hf:∀ b∈fs,H b=none) (ok:HOk P wd H h):HOk P wd H h':=by
 intro a o ha
 have k:∀ b o',H b=some o'->b≠e->∀ u,h.get? b=some u->h'.get? b=some u:=fun b o' hb ne u q=>w.keep b u q (fun z=>by rw [hf b z] at hb;cases hb) ne (aJ hb hT)
 by_cases hae:a=e
 ·subst hae
  rw [He] at ha;cases ha
  obtain ⟨vs,a0,oT,ts,he,_⟩:=id x
  exact eW x.xo ⟨_,he⟩ XO.stay
 ·refine (ok a o ha).stay (fun b u hb q=>?_) (fun _ q=>q) fun _ _ q=>q
  rcases hb with rfl|hb
  ·exact k _ _ ha hae u q
  ·exact k _ _ hb (fun z=>by rw [z,He] at hb;cases hb) u q
end L2
namespace L2
open PySem PySem.Spec PyProof.Rows
def qN (P:Program) (w:World):nj:=fun outer H s E e s'=>∃ a H' C d T,e=.ref a/\s'.os=s.os/\AllBare s'.gens/\Un (iZ outer) [] H H' s.heap s'.heap/\HOk P w H' s'.heap/\H' a=some (.ext (XO a C d true))/\ExT a C d T .none s'.heap /\
 s.heap.objs.size<=T/\H' T=none/\E e none H'
def wU (X:Cx) (H:Hp) (h:Heap) (a:Addr):Prop:=∃ C d,H a=some (.ext (XO a C d true))/\zV X.s₀.heap.objs.size H X.env.locals (X.pn.map (·.1)) a C d h
def gS (X:Cx) (ES:St->XK) (e:Value) (s:Shared):Prop:=∃ a σ H,e=.ref a/\Inv X [] σ H s/\wU X H s.heap a/\ES σ e none H
def yr (X:Cx) (ES:St->XK):Prop:=∀ e s',gS X ES e s'->X.xe e s'
abbrev Cx.esc (X:Cx) (ES:St->XK):Cx:=X.wish (gS X ES)
section
variable {X:Cx} {pins:List (Addr×Obj)} {σ:St} {H:Hp} {s:Shared} {ES:St->XK} {E:XK}
theorem gT:yr (X.esc ES) ES:=fun e s' ⟨a,σ,H,h1,I,⟨C,d,h2,h3⟩,h4⟩=>⟨a,σ,H,h1,I.unwish,⟨C,d,h2,h3⟩,h4⟩
theorem Inv.pn_lt (I:Inv X pins σ H s):∀ a∈X.pn.map (·.1),a < s.heap.objs.size:=fun a ha=>by
 obtain ⟨p,hp,rfl⟩:=AV.mp ha
 exact Ap (I.pin p (By _ hp)).1
theorem Inv.frame1 (I:Inv X pins σ H s) (hst:X.stack=X.env::X.outer):X.env.frame=some X.env.locals:=by
 rcases I.ok.stk with e|⟨_,e⟩
 ·rw [hst] at e
  exact absurd e (by intro z;have:=congrArg List.length z;simp at this)
 ·exact e
theorem Inv.wr {e T C:Addr} {d:Option Addr} {fl:Value} {h':Heap} (I:Inv X pins σ H s) (W:Wr (iZ X.stack) e T s.heap h') (x:ExT e C d T fl h') (He:H e=some (.ext (XO e C d true))) (hT:H T=none) (hn:X.s₀.heap.objs.size<=T)
  (hp:∀ p∈X.pn++pins,p.1≠T):Inv X pins σ H { s with heap:=h' }:=by
 have:=I.call (g':=s.gens) (t':=s.toks) (d':=s.drawn) (ch:=[T]) (W.un x He) (W.hok x He hT I.stkFree I.hok) I.bare (fun b hb=>?_)
 ·exact this
 ·have hb':b=T:=by simpa using hb
  subst hb'
  refine ⟨.inr hn,fun z=>?_,fun y c hc z=>?_,hp⟩
  ·obtain ⟨m,⟨o,es,ep,ho,hd,_⟩,_⟩:=I.loc
   obtain ⟨ts,hd'⟩:=W.old o (by rw [z];exact ho)
   rw [hd] at hd';cases hd'
  ·obtain ⟨v,o,ho,hd⟩:=I.cell y c hc
   obtain ⟨ts,hd'⟩:=W.old o (by rw [<-z];exact ho)
   rw [hd] at hd';cases hd'
theorem Inv.nopins (I:Inv X pins σ H s):Inv X [] σ H s:=Inv.unpinned (pins:=[]) (pl:=pins) I
theorem wV {e:Value} {s':Shared} (I:Inv X pins σ H s) (h:qN X.prog X.w X.stack H s (ES σ) e s'):gS X ES e s':=by
 obtain ⟨a,H',C,d,T,rfl,os,bare,un,hok,He,x,nT,fT,q⟩:=h
 have J:Inv X pins σ H' s':=I.call' (ch:=[]) os un hok bare (fun b z=>absurd z (by simp))
 obtain ⟨vs,a0,oT,ts,he,h0,h1,_⟩:=id x
 exact ⟨a,σ,H',rfl,J.nopins,⟨C,d,He,vs,a0,he,h0,.inr ⟨T,.none,x,Aq I.sz nT,fT,fun z=>absurd (Ax (I.pn_lt T z) nT) (Be _),.inl rfl⟩⟩,q⟩
theorem yU (hst:X.stack=X.env::X.outer):PassesOwn (model X.prog X.w) X.A X.env (gS X ES):=by
 intro e s' ⟨a,σ,H,he,I,⟨C,d,He,fl⟩,q⟩
 subst he
 have hf:=I.frame1 hst
 have hfr:X.A.frames=some (X.env::X.outer):=by rw [I.ok.frames,hst]
 have hl:s'.heap.FunFrames X.base (X.env::X.outer):=by rw [<-hst];exact I.stack
 refine gR hfr hl hf fl I.sz (fun b hb=>I.hok.fresh hb) I.pn_lt fun h' T w x nT fT pT=>?_
 show wpAny _ _ _ _ _ _
 obtain ⟨vs,a0,oT,ts,he,h0,h1,_⟩:=id x
 refine wpAny_bind (wpAny_field (s:={ s' with heap:=h' }) he rfl h1 ?_)
 rw [if_neg (show ¬ ((Value.ref T == Value.none)=true) from by simp)]
 rw [hf]
 refine dB (s:={ s' with heap:=h' }) x fun h'' k x'=>?_
 have W:=w.then k
 rw [<-hst] at W
 obtain ⟨vs',a0',oT',ts',he',h0',h1',_⟩:=id x'
 refine ⟨a,σ,H,rfl,I.wr (h':=h'') W x' He fT nT (fun p hp z=>?_),⟨C,d,He,vs',a0',he',h0',.inr ⟨T,_,x',nT,fT,pT,.inr rfl⟩⟩,q⟩
 rw [Bd] at hp
 exact pT (z ▸ List.mem_map_of_mem hp)
end
theorem PSs.wishTo {X:Cx} {E:Value->Shared->Prop} {st:List Stmt} {t:TS} (h:PSs (X.wish E) st t) (k:∀ e s',E e s'->X.xe e s'):PSs X st t:=⟨fun pins s σ H D I hw=>
 wpAny_mono (h pins s σ H D (I.wish _) hw) (fun _ _ q=>q.unwish) fun e s' z=>k e s' z⟩
section
variable {P:Program} {w:World} {K:PySem.W.Frag} {mg:Str->Option Value} {base:Heap}
theorem uK {N:List Str} {qual:Str} {sc:Scope} {f:Addr} {cd:Value} {A:Around} {outer:List Env} {s:Shared} {H:Hp} {E:XK} (e:Value) (s':Shared)
  (h:gS (ja (qN P w) P w K mg base N qual sc f cd A outer s H E) (fun _=>E) e s'):(ja (qN P w) P w K mg base N qual sc f cd A outer s H E).xe e s':=by
 obtain ⟨a,σ,H',he,I,⟨C,d,He,fl⟩,q⟩:=h
 subst he
 show wpAny (model P w) _ (leaving _ (.ref a)) _ _ s'
 unfold leaving
 refine wpAny_bind (gR (base:=base) I.ok.frames I.stack rfl fl I.sz (fun b hb=>I.hok.fresh hb) I.pn_lt fun h' T w x nT fT pT=>dB (s:={ s' with heap:=h' }) x fun h'' k x'=>?_)
 have W:=w.then k
 have J:=I.wr (h':=h'') W x' He fT nT (fun p hp=>absurd hp (by show p∉([]:List (Addr×Obj))++[];simp))
 exact ⟨a,H',C,d,T,rfl,J.os,J.bare,J.base,J.hok,He,x',nT,fT,q⟩
theorem Fun.okX {x qual:Str} {st:Stmt} {f:Addr} {fd:FuncData} {N ps:List Str} {k:Nat} {sp:Sp} (F:Fun K x qual st f fd) (S:ap N ps (al st)) (len:∀ vs H Q E,sp vs H Q E->vs.length=ps.length)
  (hbody:∀ (cdv:Value) (A:Around) (outer:List Env) (s:Shared) (H:Hp) (vs:List V) (Q:VK) (E:XK),Room k (A.deeper (envOfC qual (al st) s.heap.objs.size f cdv))->sp vs H Q E->
   ∃ t,PSs ((ja (qN P w) P w K mg base N qual (al st) f cdv A outer s H E).esc fun _=>E) (bU st) t/\t { nx:=fun _ H'=>Q .non H',rt:=Q } (fj N vs) H):aG P w K mg base (qN P w) (k+1) f fd ps sp:=by
 obtain ⟨oc,od,kV,doc,pm,an,cdv,ct,osl,rfl,lk,hcd⟩:=F.ex
 refine tT lk hcd S len fun A outer s H vs Q E hr hsp=>?_
 obtain ⟨t,h,q⟩:=hbody cdv A outer s H vs Q E hr hsp
 exact ⟨t,h.wishTo uK,q⟩
end
section
variable {X:Cx} {k:Nat} {f C:Addr} {fd:FuncData} {ps:List Str} {sp:Sp} {dvs:List V} {ds:List Value} {ES:St->XK} {x m:Str} {p pos apos:Pos} {e o:Expr} {es:List Expr} {ta:TE} {t:TA}
theorem rK {pins:List (Addr×Obj)} {σ:St} {H:Hp} {s:Shared} {Q:VK} {us:List Value} {vs:List V} (F:aG X.prog X.w X.K X.mg X.base (qN X.prog X.w) k f fd ps sp) (hr:Room k X.A) (hb:Binds X.K fd ps ds) (hd:Vals dvs ds) (hx:yr X ES)
  (I:Inv X pins σ H s) (r:Vals vs us) (h:sp (vs++dvs) H Q (ES σ)):wpAny (model X.prog X.w) X.A (call (.ref f) us) (EP X pins σ Q) X.xe s:=by
 have r2:Vals (vs++dvs) (us++ds):=r.append hd
 have hl:(us++ds).length=ps.length:=by rw [<-r2.length];exact F.len _ _ _ _ h
 refine wpAny_call (codeAny_mono (F.run X.A X.stack s H ⟨us,[]⟩ (us++ds) (vs++dvs) Q (ES σ) hr I.env0 (hb s us I.kIn hl) r2 h) fun r s' hq=>?_)
 cases r with
 | error e=>exact hx e s' (wV I hq)
 | ok fl=>
  cases fl with
  | ret u=>exact I.after hq
  | next=>exact False.elim hq
  | brk=>exact False.elim hq
  | cont=>exact False.elim hq
def uL (sp:Sp) (dvs:List V) (ES:St->XK) (t:TA):TE:=fun σ H Q=>t σ H fun vs H1=>sp (vs++dvs) H1 Q (ES σ)
theorem o8 (F:aG X.prog X.w X.K X.mg X.base (qN X.prog X.w) k f fd ps sp) (hr:Room k X.A) (hg:Gl X x) (hm:X.mg x=some (.ref f)) (hk:PySem.W.keepIn X.K (.ref f)=true) (hb:Binds X.K fd ps ds) (hd:Vals dvs ds) (hx:yr X ES)
  (ha:PA X (e::es) t) (hdb:(x == ("__debug__":Str))=false:=by decide) (he:starEach (e::es) X.env=(false,eval e X.env)::starEach es X.env:=by rfl) (hpl:(backTo pos (starEach es X.env)).any (·.1)=false:=by rfl) :
  PE X (.Call (.Name x p) (e::es) [] pos) (uL sp dvs ES t):=by
 refine ⟨?_⟩
 intro pins s σ H Q I h
 refine wpAny_Call_Name_kw (dm I hg hm ?_ hdb)
 refine Bt (h₀:=X.base) I.ok.mod.kin hk (bA (ha pos pins s σ H _ I h) fun us s1 ⟨vs,H1,I1,r,q⟩=>⟨I1.kIn,?_⟩) he hpl
 exact rK F hr hb hd hx I1 r q
end
end L2
namespace L2
open PySem PySem.Spec PyProof.Rows
section
variable {prog:Program} {w:World} {A:Around} {E:Value->Shared->Prop} {h:Heap} {g:Array GenState} {dr:Drawn} {t:Nat} {os:OsState}
theorem iO {a:Addr} {o:Obj} {vs:Array Value} {Q:Bool->Shared->Prop} (ha:h.get? a=some o) (hd:o.data=.fields vs) (hq:Q false ⟨h,g,dr,t,os⟩):wpAny (model prog w) A (isType (.ref a)) Q E ⟨h,g,dr,t,os⟩:=by
 simp only [isType,loadHead]
 refine wpAny_bind (wpAny_loadPart ha ?_)
 rw [hd];exact wpAny_pure hq
theorem cI {a:Addr} {o:Obj} {Q:Value->Shared->Prop} (ha:h.get? a=some o) (hq:Q o.cls ⟨h,g,dr,t,os⟩):wpAny (model prog w) A (typeOf (.ref a)) Q E ⟨h,g,dr,t,os⟩:=by
 simp only [typeOf]
 exact wpAny_bind (wpAny_loadPart ha (wpAny_pure hq))
end
section
variable {X:Cx} {pins:List (Addr×Obj)} {σ:St} {H:Hp} {s:Shared} {ES:St->XK} {e:Expr} {te:TE} {pos:Pos}
def o9 (K:PySem.W.Frag) (te:TE) (ES:St->XK):TS:=fun _ σ H=>te σ H fun x H1=>∃ a C d fs nm bm,x=.ref a/\XAt H1 a C d false fs/\XC K C nm bm/\ES σ (.ref a) none (ax H1 a (.ext (XO a C d true)))
theorem kh (he:PE X e te) (hx:yr X ES) (hc:X.calm=true):PS X (.Raise (some e) none pos) (o9 X.K te ES):=by
 refine ⟨fun pins s σ H D I h=>?_⟩
 show wpAny _ _ (do standAt pos;raiseStmt X.env (some (do let v <-eval e X.env;standAt pos;pure v)) none) _ _ s
 refine wpAny_bind (wpAny_standAt ?_)
 unfold raiseStmt
 dsimp only
 refine wpAny_bind (wpAny_bind (wpAny_mono (he pins s σ H _ I h) (fun v s₁ h₁=>wpAny_bind (wpAny_standAt (wpAny_pure ?_))) fun _ _ x=>x))
 obtain ⟨x,H1,I1,rx,a,C,d,fs,nm,bm,ex,xa,c,q⟩:=h₁
 subst ex
 obtain rfl:v=Value.ref a:=rx
 obtain ⟨vs,a0,ha,h0,h1⟩:=xa.obj I1
 have hb:(Value.ref C::bm).contains (.type "BaseException")=true:=c.tl.has C "BaseException" true (by decide +kernel)
 obtain ⟨q0,N,bs,sn,sub,ab,col,dd,k0,k1,k2,k3,k5,lk⟩:=c.obj
 have hC:=I1.kIn _ _ lk
 have hh:X.A.handled=none:=I1.ok.hd hc
 have I2:=I1.write (o:=.ext (XO a C d true)) (x:=a) (e:=a) (t':=s₁.toks) (h':=s₁.heap) (by rw [xa.1];exact True.intro) (.inl rfl) (fun b u _ z=>z) ⟨_,ha⟩ (eW ⟨vs,a0,ha,h0,fun z=>nomatch z⟩ ⟨_,ha⟩ XO.stay)
 have fin:X.xe (.ref a) s₁:=hx _ _ ⟨a,σ,_,rfl,I2.nopins,⟨C,d,ad,vs,a0,ha,h0,.inl (h1 rfl)⟩,q⟩
 obtain ⟨hp,g,dr,t,os⟩:=s₁
 refine wpAny_bind (wpAny_pure ?_)
 dsimp only
 refine wpAny_bind (wpAny_holding ?_)
 unfold excFromValue isExcClass
 refine wpAny_bind (wpAny_bind (iO ha rfl ?_))
 simp only [Bool.false_eq_true,if_false]
 refine wpAny_pure ?_
 simp only [Bool.false_eq_true,if_false]
 unfold isInstance
 refine wpAny_bind (wpAny_bind (cI ha (wpAny_isSubtype_exc hC ?_)))
 rw [hb]
 simp only [if_true]
 refine wpAny_pure ?_
 refine wpAny_bind (iO ha rfl ?_)
 simp only [Bool.false_eq_true,if_false]
 unfold raisedInstance
 refine wpAny_bind (wpAny_bind (cI ha (wpAny_bind (cI hC ?_))))
 rw [if_pos (by rfl)]
 refine wpAny_pure ?_
 unfold setFlight raiseNew
 refine wpAny_bind (wpAny_bind (wpAny_field ha rfl (h1 rfl) ?_))
 rw [if_neg (by decide)]
 refine wpAny_pure (wpAny_bind (wpAny_handled ?_))
 rw [hh]
 first
  | exact wpAny_throw fin
  | exact wpAny_bind (wpAny_pure (wpAny_throw fin))
end
end L2
namespace L2
open PySem PySem.Spec PyProof.Rows
section
variable {prog:Program} {w:World} {A:Around} {E:Value->Shared->Prop} {h:Heap} {g:Array GenState} {dr:Drawn} {t:Nat} {os:OsState}
theorem ld {a:Addr} {o:Obj} {cd:ClassData} {Q:Bool->Shared->Prop} (ha:h.get? a=some o) (hd:o.data=.cls cd) (hq:Q true ⟨h,g,dr,t,os⟩):wpAny (model prog w) A (isType (.ref a)) Q E ⟨h,g,dr,t,os⟩:=by
 simp only [isType,loadHead]
 refine wpAny_bind (wpAny_loadPart ha ?_)
 rw [hd];exact wpAny_pure hq
theorem pb {e C C':Addr} {oe:Obj} {nm q nm' q':Str} {N N':Addr} {bs bm bs' bm':List Value} {hdct hdct':Bool} {sn sn' sub sub' ab ab' col col' dd dd' k0 k0' k1 k1' k2 k2' k3 k3' k5 k5' newId newId'} {Q:Bool->Shared->Prop} (he:h.get? e=some oe) (hcls:oe.cls=.ref C) (hC:h.get? C=some (excClassObj nm q C N bs bm hdct sn sub ab col dd k0 k1 k2 k3 k5 newId))
  (hC':h.get? C'=some (excClassObj nm' q' C' N' bs' bm' hdct' sn' sub' ab' col' dd' k0' k1' k2' k3' k5' newId')) (hb':(Value.ref C'::bm').contains (.type "BaseException")=true) (hq:Q ((Value.ref C::bm).contains (.ref C')) ⟨h,g,dr,t,os⟩) :
  wpAny (model prog w) A (excMatches (.ref e) (.ref C')) Q E ⟨h,g,dr,t,os⟩:=by
 unfold excMatches isInstance
 refine wpAny_bind (wpAny_bind (cI hC' (wpAny_of_eq (a:=false) (by rfl) ?_)))
 simp only [Bool.false_eq_true,if_false]
 refine wpAny_bind (wpAny_pure ?_)
 simp only [forIn,ForIn.forIn,List.forIn'_cons,List.forIn'_nil,List.forIn_cons,List.forIn_nil]
 unfold isExcClass
 refine wpAny_bind ?_
 refine wpAny_bind ?_
 refine wpAny_bind (wpAny_bind (ld hC' rfl ?_))
 simp only [if_true]
 refine wpAny_isSubtype_exc hC' ?_
 rw [hb']
 simp only [Bool.not_true,Bool.false_eq_true,if_false]
 refine wpAny_pure (wpAny_pure ?_)
 refine wpAny_bind (cI he ?_)
 rw [hcls]
 refine wpAny_bind (wpAny_bind (wpAny_bind (wpAny_isSubtype_exc hC ?_)))
 generalize (Value.ref C::bm).contains (.ref C')=b at hq ⊢
 cases b with
 | true=>
  simp only [if_true]
  exact wpAny_pure (wpAny_pure (wpAny_pure hq))
 | false=>
  simp only [Bool.false_eq_true,if_false]
  exact wpAny_pure (wpAny_pure (wpAny_pure hq))
end
abbrev Cx.alt (X:Cx) (A:Around) (calm:Bool) (pn:List (Addr×Obj)) (xe:Value->Shared->Prop):Cx:={ X with A:=A,calm:=calm,pn:=pn,xe:=xe }
abbrev Cx.bear (X:Cx) (pn:List (Addr×Obj)):Cx:=X.alt X.A X.calm pn X.xe
abbrev Cx.suite (X:Cx) (A:Around) (pn:List (Addr×Obj)):Cx:=X.alt A false pn fun _ _=>False
section
variable {X:Cx} {pins pins' pn:List (Addr×Obj)} {σ:St} {H:Hp} {s:Shared} {A:Around} {calm:Bool} {xe:Value->Shared->Prop}
theorem Inv.alt (I:Inv X pins σ H s) (hA:A.frames=some X.stack) (hc:calm=true->A.handled=none) (hp:∀ p∈pn++pins',p∈X.pn++pins):Inv (X.alt A calm pn xe) pins' σ H s:=
 ⟨⟨I.ok.mod,I.ok.kind,I.ok.glob,I.ok.blt,I.ok.above,I.ok.inj,I.ok.has,I.ok.cab,hc,hA,I.ok.stk,I.ok.exf,I.ok.bs,I.ok.bsz,I.ok.noex,I.ok.exfs,I.ok.funs,I.ok.frf⟩,I.os,I.bare,I.base,I.loc,I.cell,I.free,I.freeC,fun p h=>I.pin p (hp p h),I.hok,I.len⟩
theorem Inv.unalt (I:Inv (X.alt A calm pn xe) pins' σ H s) (ok:X.Ok) (hp:∀ p∈X.pn++pins,p∈pn++pins'):Inv X pins σ H s:=
 ⟨ok,I.os,I.bare,I.base,I.loc,I.cell,I.free,I.freeC,fun p h=>I.pin p (hp p h),I.hok,I.len⟩
theorem Inv.unset {i:Nat} {n:Str} {m:Str->Option Value} {v:Option Value} {h':Heap} {t':Nat} (I:Inv X pins σ H s) (hN:X.N.Nodup) (hi:X.N[i]?=some n) (hn:s.heap.Ns X.env.locals m) (hl:∀ (i:Nat) (x:Str) (v:V),X.N[i]?=some x->σ[i]?=some (some v)->yh X.env.scope x->∃ u,RelV v u/\wk X.env s.heap m x u)
  (hn':h'.Ns X.env.locals fun x=>if x=n then v else m x) (hs:Heap.SameBut X.env.locals s.heap h'):Inv X pins (σ.set i none) H { s with heap:=h',toks:=t' }:=by
 have hiσ:i < σ.length:=by rw [I.len];exact (An.mp hi).1
 have cne:=I.cne
 obtain ⟨oL,_,_,hoL,_⟩:=id hn
 refine ⟨I.ok,I.os,I.bare,⟨fun b o e n hb hx=>?_,fun b o e n hb hx=>?_,I.base.free,fun b o e hx=>?_,I.base.tups,I.base.frzs,I.base.tbls⟩,⟨_,hn',fun j y v' e1 e2 e3=>?_⟩,fun y c e=>?_,I.free,I.freeC,fun p hp=>?_,fun b ob e=>?_,by simpa using I.len⟩
 ·exact (hs.2 b (AM (Ax (Ap e) I.ok.above))).trans (I.base.keep b o e n hb hx)
 ·obtain ⟨sl,e1⟩:=I.base.slot b o e n hb hx
  exact ⟨sl,(hs.2 b (AM (Ax (Ap e) I.ok.above))).trans e1⟩
 ·obtain ⟨o',e1⟩:=I.base.there b o e hx
  exact ⟨o',(hs.2 b (AM (Ax (Ap e) I.ok.above))).trans e1⟩
 ·by_cases hj:j=i
  ·subst hj
   rw [List.getElem?_set_self hiσ] at e2
   cases e2
  ·rw [List.getElem?_set_ne (Ne.symm hj)] at e2
   obtain ⟨u',r',q⟩:=hl j y v' e1 e2 e3
   refine ⟨u',r',?_⟩
   rcases q with ⟨k,e⟩|⟨k,c,e,z⟩
   ·refine .inl ⟨k,?_⟩
    have:y≠n:=fun e=>hj (gD hN e1 (e ▸ hi))
    simp [this,e]
   ·exact .inr ⟨k,c,e,z.sameBut hs (cne y c e)⟩
 ·obtain ⟨w',z⟩:=I.cell y c e
  exact ⟨w',z.sameBut hs (cne y c e)⟩
 ·obtain ⟨e,n,ne,nf,d⟩:=I.pin p hp
  exact ⟨(hs.2 p.1 ne).trans e,n,ne,nf,d⟩
 ·refine (I.hok b ob e).stay (fun c w' hc q=>(hs.2 c ?_).trans q) (fun _ q=>q) fun _ _ q=>q
  rintro rfl
  rcases hc with rfl|hc
  ·rw [I.free] at e;cases e
  ·rw [I.free] at hc;cases hc
end
section
variable {X:Cx} {body suite:List Stmt} {b₀:Stmt} {tb:(St->XK)->TS} {th:TS} {n cn:Str} {cp hpos pos:Pos} {i:Nat} {C':Addr} {nm':Str} {bm':List Value}
def Ends.drop (D:Ends) (i:Nat):Ends:={ nx:=fun σ H=>D.nx (σ.set i none) H,rt:=D.rt,bk:=fun σ H=>D.bk (σ.set i none) H,ct:=fun σ H=>D.ct (σ.set i none) H }
def pc (K:PySem.W.Frag) (C':Addr) (i:Nat) (th:TS) (D:Ends):St->XK:=fun σ e _ H=>∃ a C d fs nm bm,e=.ref a/\XAt H a C d true fs/\XC K C nm bm/\(Value.ref C::bm).contains (.ref C')=true/\th (D.drop i) (σ.set i (some (.ref a))) H
def yV (K:PySem.W.Frag) (tb:(St->XK)->TS) (C':Addr) (i:Nat) (th:TS):TS:=fun D σ H=>tb (pc K C' i th D) D σ H
theorem rL {H:Hp} {a C C2:Addr} {d d2:Option Addr} {fs:List (Str×V)} {h:Heap} {P:Program} {w:World} (x:XAt H a C d true fs) (ok:HOk P w H h) (y:∃ vs:Array Value,h.get? a=some { cls:=.ref C2,dict:=d2,data:=.fields vs }):C=C2/\d=d2:=by
 obtain ⟨⟨vs,a0,h1,_⟩,_⟩:=(show ObjOk P w H h a (.ext (XO a C d true)) from ok a _ x.1)
 obtain ⟨vs2,h2⟩:=y
 rw [h1] at h2
 injection h2 with h3
 injection h3 with h4 h5
 injection h4 with h6
 exact ⟨h6,h5⟩
set_option maxHeartbeats 1000000 in
theorem uM (hst:X.stack=X.env::X.outer) (hb:∀ (pn:List (Addr×Obj)) (ES:St->XK),PSs ((X.bear pn).esc ES) body (tb ES)) (hs:∀ (A:Around) (pn:List (Addr×Obj)),PSs (X.suite A pn) (b₀::suite) th)
  (hg:Gl X cn) (hm:X.mg cn=some (.ref C')) (c':XC X.K C' nm' bm') (hN:X.N.Nodup) (hi:X.N[i]?=some n) (hl:X.env.kindOf n=some .local) (hdb:(cn == ("__debug__":Str))=false:=by decide) :
  PS X (.Try body [.ExceptHandler (some (.Name cn cp)) (some n) (b₀::suite) hpos] [] [] pos) (yV X.K tb C' i th):=by
 refine ⟨fun pins s σ H D I h=>?_⟩
 have ok:=I.ok
 have I0:Inv (X.bear (X.pn++pins)) [] σ H s:=I.alt ok.frames ok.hd (fun p hp=>by rwa [Bd] at hp)
 have back:∀ {A calm xe σ H s},Inv (X.alt A calm (X.pn++pins) xe) [] σ H s->Inv X pins σ H s:=fun J=>J.unalt ok (fun p hp=>by rwa [Bd])
 refine wpAny_Try_except (wpAny_mono ((hb (X.pn++pins) (pc X.K C' i th D)) [] s σ H D (I0.wish _) h) (fun f s1 h1=>?_) fun e s1 h1=>?_)
 ·cases f with
  | next=>
   obtain ⟨σ',H',J,q⟩:=h1
   exact wpAny_pure ⟨σ',H',back J,q⟩
  | brk=>obtain ⟨σ',H',J,q⟩:=h1;exact ⟨σ',H',back J,q⟩
  | cont=>obtain ⟨σ',H',J,q⟩:=h1;exact ⟨σ',H',back J,q⟩
  | ret u=>obtain ⟨v,σ',H',J,r,q⟩:=h1;exact ⟨v,σ',H',back J,r,q⟩
 ·obtain ⟨a,σ1,H1,ea,J,⟨C,d,He,fl⟩,a',Cx',d',fs,nm,bm,e1,xa,c,hc,q⟩:=h1
  subst ea
  cases e1
  have hf:X.env.frame=some X.env.locals:=I.frame1 hst
  have hfr:X.A.frames=some (X.env::X.outer):=by rw [ok.frames,hst]
  have hl':s1.heap.FunFrames X.base (X.env::X.outer):=by rw [<-hst];exact J.stack
  refine gR hfr hl' hf fl J.sz (fun b hb=>J.hok.fresh hb) J.pn_lt fun h2 T w x nT fT pT=>dB (s:={ s1 with heap:=h2 }) x fun h3 k x3=>?_
  have W:=w.then k
  rw [<-hst] at W
  have ec:=rL xa J.hok (by obtain ⟨vs,a0,z,_⟩:=fl;exact ⟨vs,z⟩)
  obtain ⟨rfl,rfl⟩:=ec
  have J3:Inv (X.bear (X.pn++pins)) [] σ1 H1 { s1 with heap:=h3 }:=J.wr (h':=h3) W x3 He fT nT (fun p hp z=>pT (by rw [Bd] at hp;exact z ▸ List.mem_map_of_mem hp))
  obtain ⟨q0,N,bs,sn,sub,ab,col,dd,k0,k1,k2,k3,k5,lk⟩:=c.obj
  obtain ⟨q0',N',bs',sn',sub',ab',col',dd',k0',k1',k2',k3',k5',lk'⟩:=c'.obj
  have hC:=J3.kIn _ _ lk
  have hC':=J3.kIn _ _ lk'
  have J4:Inv (X.suite (X.A.mark (some (.ref a))) (X.pn++pins)) [] σ1 H1 { s1 with heap:=h3 }:=J3.alt (X:=X.bear (X.pn++pins)) ok.frames (fun z=>nomatch z) (fun p hp=>hp)
  refine wpAny_handleBy_cons (codeAny_handlers_test (dm (X:=X.suite (X.A.mark (some (.ref a))) (X.pn++pins)) J4 hg hm ?_ hdb)) (by intro z;cases z)
  obtain ⟨vs3,a03,_,_,he3,_⟩:=id x3
  refine pb he3 rfl hC hC' (c'.tl.has C' "BaseException" true (by decide +kernel)) ?_
  rw [hc]
  simp only [if_true]
  refine codeAny_handlers_suite_as (dB (s:={ s1 with heap:=h3 }) x3 fun h5 k5' x5=>?_)
  have J5:Inv (X.suite (X.A.mark (some (.ref a))) (X.pn++pins)) [] σ1 H1 { s1 with heap:=h5 }:=by
   refine J4.wr (h':=h5) (e:=a) (T:=T) ⟨fun b o hb _ _ hT=>k5' b o hb hT,fun b o hb hbf=>⟨o.slots,k5' b o hb fun z=>W.nf (z ▸ hbf)⟩,fun o ho=>?_,W.nf⟩ x5 He fT nT (fun p hp z=>pT (by rw [Bd] at hp;exact z ▸ List.mem_map_of_mem hp))
   obtain ⟨_,_,oT,ts,_,_,_,_,hT,hd,_⟩:=x3
   rw [hT] at ho;cases ho;exact ⟨ts,hd⟩
  refine gE (X:=X.suite (X.A.mark (some (.ref a))) (X.pn++pins)) (v:=.ref a) J5 hN hi (.inl hl) rfl (fun s6 J6=>?_) (.inr hl)
  refine wpAny_mono ((hs (X.A.mark (some (.ref a))) (X.pn++pins)) [] s6 _ H1 (D.drop i) J6 q) (fun f s7 h7=>?_) fun _ _ z=>False.elim z
  have fin:∀ {σ':St} {H':Hp} {R:Unit->Shared->Prop},Inv (X.suite (X.A.mark (some (.ref a))) (X.pn++pins)) [] σ' H' s7->(∀ s8,Inv X pins (σ'.set i none) H' s8->R () s8)->wpAny (model X.prog X.w) X.A (do bindName X.env n .none;unbindBehindTheSuite X.env n hpos) R X.xe s7:=fun {σ' H' R} J7 hR=>by
   obtain ⟨m,hn,hlk⟩:=J7.loc
   refine wpAny_nameGoes_keeps hl hn (by rw [ok.kind];rfl) fun h8 v hn8 hs8=>hR _ (back (J7.unset (t':=s7.toks+1) hN hi hn hlk hn8 hs8))
  cases f with
  | next=>obtain ⟨σ',H',J7,q7⟩:=h7;exact fin J7 fun s8 J8=>⟨_,H',J8,q7⟩
  | brk=>obtain ⟨σ',H',J7,q7⟩:=h7;exact fin J7 fun s8 J8=>⟨_,H',J8,q7⟩
  | cont=>obtain ⟨σ',H',J7,q7⟩:=h7;exact fin J7 fun s8 J8=>⟨_,H',J8,q7⟩
  | ret u=>obtain ⟨v,σ',H',J7,r,q7⟩:=h7;exact fin J7 fun s8 J8=>⟨v,_,H',J8,r,q7⟩
end
end L2
namespace XD
open PySem PySem.SeqAt PySem.MeetsSeq
theorem dict_declines_str (l:Addr) (es:Array DictEntry) (ep:Nat) (dd:Option Addr) (sl:Array (Option Value)) (b:Str) (u:Tok) :
  Meets (Builtin.«dict.__eq__» ⟨[.ref l,.str b u],[]⟩) (fun _ R s=>s.heap.get? l=some { cls:=.type "dict",dict:=dd,data:=.dict es ep,slots:=sl }/\R (.ok (.ret .notImplemented)) s):=
 .of_wp fun prog w A R s h=>by
  obtain ⟨hl,h⟩:=h
  have ht:s.TypeIs (.ref l) "dict":=⟨_,hl,rfl⟩
  show wpAny _ _ (Builtin.Dict.dictSlotArgs "__eq__" ⟨[.ref l,.str b u],[]⟩ >>= _) _ _ s
  refine wpAny_bind ?_
  unfold Builtin.Dict.dictSlotArgs
  refine wpAny_bind (wpAny_notOrdered_dict ht ?_)
  refine wpAny_pure ?_
  refine wpAny_bind (wpAny_isInstance (T:="str") (typeIs_str s b u) (by rfl:isSubtype (.type "str") (.type "dict")=pure false) ?_)
  simp only [Bool.not_false,if_true]
  exact wpAny_bind (wpAny_rule (wpAny_pure ⟨_,rfl,h⟩))
theorem str_declines_dict (b:Str) (u:Tok) (l:Addr) (c:Value) (es:Array DictEntry) (ep:Nat) (dd:Option Addr) (sl:Array (Option Value)) :
  Meets (Builtin.«str.__eq__» ⟨[.str b u,.ref l],[]⟩) (fun _ R s=>s.heap.get? l=some { cls:=c,dict:=dd,data:=.dict es ep,slots:=sl }/\R (.ok (.ret .notImplemented)) s):=
 .of_wp fun prog w A R s h=>by obtain ⟨hp,g,d,tk,os⟩:=s;obtain ⟨hl,h⟩:=h;wp_walk using AutoSeq1.wpAny_loadPart' hl,wpAny_load hl;exact ⟨_,rfl,h⟩
theorem rc_str_dict {A:Around} {s:Shared} {l:Addr} {es:Array DictEntry} {ep:Nat} {dd:Option Addr} {sl:Array (Option Value)} (b:Str) (u:Tok) (ho:s.heap.get? l=some { cls:=.type "dict",dict:=dd,data:=.dict es ep,slots:=sl }) (hu:A.units < cLine):RcAt A s (.str b u) (.ref l) false:=fun prog w E Q h=>
 rc_eq_decline_or (k:=false) (typeIs_str s b u) ⟨_,ho,rfl⟩ (by decide) (by rfl:isSubtype (.type "dict") (.type "str")=pure false) F.slot_str_eq F.slot_dict_eq_refl
  (fun _ hq=>call_meets F.slot_str_eq (typeIs_str s b u) F.entry_str_eq (F.args_str_eq_2 _ _) (str_declines_dict b u l (.type "dict") es ep dd sl) ⟨ho,hq⟩)
  (fun _ hq=>call_meets F.slot_dict_eq_refl ⟨_,ho,rfl⟩ F.entry_dict_eq (F.args_dict_eq_2 _ _) (dict_declines_str l es ep dd sl b u) ⟨ho,hq⟩)
  (fun _ hq=>wpAny_of_eq (rfl:isSame (.str b u) (.ref l)=pure false) hq) (.inr hu) h
theorem eq_str_dict {A:Around} {s:Shared} {l:Addr} {es:Array DictEntry} {ep:Nat} {dd:Option Addr} {sl:Array (Option Value)} (b:Str) (u:Tok) (ho:s.heap.get? l=some { cls:=.type "dict",dict:=dd,data:=.dict es ep,slots:=sl }) (hu:A.units < cLine):EqAt A s (.str b u) (.ref l) false:=fun prog w E Q h=>by
 unfold eqBool
 refine wpAny_holding ?_
 refine wpAny_ite_split (fun hab=>absurd (eq_of_beq hab) nofun) (fun _=>?_)
 exact wpAny_bind (rc_str_dict b u ho hu prog w E _ (wpAny_truthy_bool h))
end XD
namespace L2
open PySem PySem.Spec PyProof.Rows
def ud (K:PySem.W.Frag) (H:Hp) (a:Addr):Prop:=(∃ xs,SqL K H a xs)\/(∃ xs,SqT K H a xs)\/∃ kvs,H a=some (.dK kvs)
section
variable {X:Cx}
theorem ki {pins:List (Addr×Obj)} {σ:St} {H:Hp} {s:Shared} {a:Addr} {A:Around} (I:Inv X pins σ H s) (t:ud X.K H a) (hu:A.units < cLine) (b:Str) (u:Tok):SeqAt.EqAt A s (.str b u) (.ref a) false:=by
 rcases t with ⟨xs,t⟩|⟨xs,t⟩|⟨kvs,t⟩
 ·obtain ⟨its,_,pl,_⟩:=I.list t
  exact SeqAt.EqAt.str_list b u pl.isList hu
 ·obtain ⟨its,_,pl,_⟩:=I.tuple t
  exact SeqAt.EqAt.str_tuple b u pl hu
 ·obtain ⟨_,_,vs,_,o,es,ep,ho,hx,hd,_⟩:=(show ObjOk X.prog X.w H s.heap a (.dK kvs) from I.hok a _ t)
  obtain ⟨c,dd,dt,sl⟩:=o
  cases hd
  have hc:c=.type "dict":=hx.1
  subst hc
  exact XD.eq_str_dict b u ho hu
theorem gU {A:Around} {s:Shared} {a:Addr} (h:∀ b u,SeqAt.EqAt A s (.str b u) (.ref a) false):∀ {xs:List Str} {us:List Value},Vals (xs.map V.str) us->∀ u∈us,SeqAt.EqAt A s u (.ref a) ((fun _=>false) u)
 | [],_,.nil=>fun u hu=>by cases hu
 | x::xs,u::us,.cons r t=>fun u' hu=>by
  rcases AG.mp hu with rfl|hu
  ·obtain ⟨t',rfl⟩:=r;exact h x t'
  ·exact gU h t u' hu
theorem pd {l:List Value}:l.toArray.any (fun _=>false)=false:=by
 rw [Array.any_eq_false]
 intro i h
 exact Au
end
end L2
namespace L3
open PySem L2
def bK (i:Nat):Stmt:=PySem.Challenge.pw_rowsbeneath_k22_rooms_as_texts.main.body.getD i (.Pass ⟨0,0,0,0⟩)
abbrev le:Stmt:=bK 13
abbrev jg:Stmt:=bK 14
abbrev mv:Stmt:=bK 15
abbrev uN:Stmt:=bK 27
abbrev jh:Stmt:=bK 36
abbrev lf:Stmt:=bK 37
abbrev lh:Stmt:=bK 38
abbrev pe:Stmt:=bK 39
abbrev uO:Stmt:=bK 40
abbrev ji:Stmt:=bK 41
abbrev jj:Stmt:=bK 42
abbrev lp:Stmt:=bK 43
abbrev lv:Stmt:=bK 44
abbrev ej:Stmt:=bK 45
abbrev jk:Stmt:=bK 58
abbrev eC:Stmt:=bK 63
abbrev pf:Stmt:=bK 78
abbrev jm:Stmt:=bK 79
abbrev ph:Stmt:=bK 80
abbrev pi:Stmt:=bK 81
abbrev gV:Stmt:=bK 82
abbrev ly:Stmt:=bK 83
abbrev uP:Stmt:=bK 84
abbrev jp:Stmt:=bK 8
abbrev uQ:Stmt:=bK 55
abbrev uR:Stmt:=bK 56
abbrev uS:Stmt:=bK 57
abbrev uT:Stmt:=bK 61
abbrev pj:Stmt:=bK 62
abbrev mw:Stmt:=bK 67
abbrev lA:Stmt:=bK 68
abbrev mx:Stmt:=bK 69
abbrev lB:Stmt:=bK 70
abbrev pk:Stmt:=bK 71
abbrev lC:Stmt:=bK 72
abbrev pq:Stmt:=bK 73
abbrev lD:Stmt:=bK 74
abbrev lE:Stmt:=bK 75
abbrev jq:Stmt:=bK 76
abbrev fq:Stmt:=bK 85
abbrev jr:Stmt:=bK 86
abbrev js:Stmt:=bK 87
abbrev pw:Stmt:=bK 88
abbrev jt:Stmt:=bK 89
abbrev ju:Stmt:=bK 90
abbrev lF:Stmt:=bK 91
abbrev lG:Stmt:=bK 92
abbrev lH:Stmt:=bK 93
abbrev gW:Stmt:=bK 94
abbrev rM:Stmt:=bK 95
abbrev nF:Stmt:=bK 96
def Fn (P:Program) (w:World) (K:PySem.W.Frag) (mg:Str->Option Value) (base:Heap) (x:Str) (k:Nat) (ps:List Str) (sp:Sp):Prop:=
 ∃ (f:Addr) (fd:FuncData),mg x=some (.ref f)/\PySem.W.keepIn K (.ref f)=true/\Binds K fd ps []/\aG P w K mg base bu k f fd ps sp
def Aa (sp:Sp) (t:TA):TE:=fun σ H Q=>t σ H fun vs H1=>sp vs H1 Q E0
theorem am {X:Cx} {x:Str} {k:Nat} {ps:List Str} {sp:Sp} {p pos:Pos} {e:Expr} {es:List Expr} {t:TA} (h:Fn X.prog X.w X.K X.mg X.base x k ps sp) (hr:Room k X.A) (hg:Gl X x) (ha:PA X (e::es) t) (hdb:(x == ("__debug__":Str))=false:=by decide)
  (he:starEach (e::es) X.env=(false,eval e X.env)::starEach es X.env:=by rfl) (hpl:(backTo pos (starEach es X.env)).any (·.1)=false:=by rfl):PE X (.Call (.Name x p) (e::es) [] pos) (Aa sp t):=by
 obtain ⟨f,fd,hm,hk,hb,F⟩:=h
 refine ⟨?_⟩
 intro pins s σ H Q I q
 have ha':PA X (e::es) t:=ha
 refine qZ (dvs:=[]) (E:=E0) F hr hg hm hk hb .nil cV ha' hdb he hpl pins s σ H Q I ?_
 show t σ H fun vs H1=>sp (vs++[]) H1 Q E0
 have e2:(fun vs H1=>sp (vs++[]) H1 Q E0)=fun vs H1=>sp vs H1 Q E0:=by
  funext vs H1
  rw [Bd]
 rw [e2]
 exact q
theorem uU {X:Cx} {x:Str} {k:Nat} {sp:Sp} {p pos:Pos} (h:Fn X.prog X.w X.K X.mg X.base x k [] sp) (hr:Room k X.A) (hg:Gl X x) (hdb:(x == ("__debug__":Str))=false:=by decide):PE X (.Call (.Name x p) [] [] pos) (fun _ H Q=>sp [] H Q E0):=by
 obtain ⟨f,fd,hm,hk,hb,F⟩:=h
 refine ⟨?_⟩
 intro pins s σ H Q I q
 exact oB (dvs:=[]) (E:=E0) F hr hg hm hk hb .nil cV hdb pins s σ H Q I q
theorem aj {H:Hp} {p:Addr} {o:HO} (h:H p=none):Same H (ax H p o):=fun b u e=>by rw [aB (aJ e h)];exact e
theorem az {H H2:Hp} {p:Addr} {o:HO} (hp:H p=none) (s:Same H H2):Same H (ax H2 p o):=fun b u e=>by rw [aB (aJ e hp)];exact s b u e
theorem aN {A B:Prop} {b:Bool} (e:b=false) (h:B):if b=true then A else B:=by rw [e];exact bp h
theorem bg {A B:Prop} {b:Bool} (e:b=true) (h:A):if b=true then A else B:=by rw [e];exact bV h
theorem rN {l:List Nat} {i:Nat} (h:i < l.length):jU (S l).cps.toList (i:Int)=some l[i]:=aK (by show l.toArray.toList[i]?=_;simp [h])
theorem px:("":Str)=S []:=by decide +kernel
theorem jv (z:Str):z=S z.cps.toList:=by
 show z=⟨z.cps.toList.toArray⟩
 simp
theorem aQ (a b:List Nat):S a++S b=S (a++b):=by
 show (⟨(S a).cps++(S b).cps⟩:Str)=⟨(a++b).toArray⟩
 congr 1
 simp [S]
theorem bL:bootBuiltins "isinstance"=some (.builtin "isinstance"):=by decide +kernel
theorem eX:bootBuiltins "list"=some (.type "list"):=by decide +kernel
theorem bG:bootBuiltins "str"=some (.type "str"):=by decide +kernel
theorem lI:bootBuiltins "bool"=some (.type "bool"):=by decide +kernel
theorem br:bootBuiltins "tuple"=some (.type "tuple"):=by decide +kernel
theorem fV:bootBuiltins "all"=some (.builtin "all"):=by decide +kernel
structure Bl (mg:Str->Option Value):Prop where
 len:mg "len"=none
 int:mg "int"=none
 max:mg "max"=none
 min:mg "min"=none
 range:mg "range"=none
 isinstance:mg "isinstance"=none
 list:mg "list"=none
 str:mg "str"=none
 bool:mg "bool"=none
 tuple:mg "tuple"=none
 all:mg "all"=none
def uV (x y z:Int):HO:=.lst [.int x,.int y,.int z]
def Strm (H:Hp) (p:Addr):Prop:=∃ x y z:Int,H p=some (uV x y z)
def But (p:Addr) (H H':Hp):Prop:=∀ b o,H b=some o->b≠p->H' b=some o
theorem But.refl (p:Addr) (H:Hp):But p H H:=fun _ _ e _=>e
theorem But.trans {p:Addr} {H H1 H2:Hp} (a:But p H H1) (b:But p H1 H2):But p H H2:=fun c o e n=>b c o (a c o e n) n
theorem But.same {p:Addr} {H H1 H2:Hp} (a:But p H H1) (b:Same H1 H2):But p H H2:=fun c o e n=>b c o (a c o e n)
theorem jw {p:Addr} {H H1:Hp} (b:Same H H1):But p H H1:=fun c o e _=>b c o e
theorem Strm.same {p:Addr} {H H1:Hp} (a:Strm H p) (b:Same H H1):Strm H1 p:=let ⟨x,y,z,e⟩:=a;⟨x,y,z,b _ _ e⟩
theorem Strm.ne {p q:Addr} {H:Hp} (a:Strm H p) (h:H q=none):p≠q:=let ⟨_,_,_,e⟩:=a;aJ e h
inductive lJ (K:PySem.W.Frag) (vs:List V) (H:Hp) (Q:VK) (Z3:XK):Prop
 | mk (a:Addr) (ns:List Int) (k:Int):vs=[.ref a,.int k]->SqL K H a (ns.map V.int)->0<=k->(∀ c:Int,Q (.int c) H)->lJ K vs H Q Z3
inductive gX (vs:List V) (H:Hp) (Q:VK) (Z3:XK):Prop
 | mk (c:Int):vs=[.int c]->(∀ (p:Addr) H',H p=none->Same H H'->Strm H' p->Q (.ref p) H')->gX vs H Q Z3
inductive cJ (vs:List V) (H:Hp) (Q:VK) (Z3:XK):Prop
 | mk (p:Addr) (m:Nat):vs=[.ref p,.int m]->Strm H p->0 < m->m < 18446744073709551616->(∀ (r:Nat) H',r < m->Strm H' p->But p H H'->Q (.int r) H')->cJ vs H Q Z3
section
variable {P:Program} {w:World} {K:PySem.W.Frag} {mg:Str->Option Value} {base:Heap}
theorem uW:ap ["_law_script","_law_k"] ["_law_script","_law_k"] (al pf):=⟨rfl,rfl,rfl,by decide +kernel,rfl,by decide +kernel,by decide +kernel⟩
theorem rO {f:Addr} {fd:FuncData} (F:Fun K "_law_cell" "_law_cell" pf f fd) (T:Bl mg):aG P w K mg base bu 1 f fd ["_law_script","_law_k"] (lJ K):=by
 refine F.ok uW (fun vs H Q E h=>?_) (fun cdv A outer s H vs Q E hr h=>?_)
 ·obtain ⟨a,ns,k,rfl,_⟩:=h
  rfl
 ·obtain ⟨a,ns,k,rfl,hS,h0,q⟩:=h
  refine ⟨_,ak (aI (av oj (pv 1) (aH aT (by rfl) T.len AR (aa (pv 0) ac)) (ay _)) (af (ao (aq aC (pv 0) (pv 1) (fun _ _=>rfl)))) aw)
   (af (ao (aP du (aP eT ae (pv 1)) ae))),?_⟩
  refine ⟨_,rfl,_,rfl,a,_,rfl,.inl hS,_,_,rfl,rfl,_,rfl,?_⟩
  refine bC (fun h=>?_) (fun h=>?_)
  ·have hl:k < ((ns.map V.int).length:Int):=of_decide_eq_true h
   rw [Aj] at hl
   obtain ⟨n,rfl⟩:∃ n:Nat,k=n:=⟨k.toNat,by omega⟩
   have hn:n < ns.length:=by omega
   refine ⟨_,rfl,_,rfl,a,_,_,_,rfl,rfl,hS,aK (v:=.int ns[n]) (by simp [hn]),q _⟩
  ·exact ⟨_,rfl,_,_,rfl,rfl,.inl ⟨by decide,by decide⟩,_,_,rfl,rfl,q _⟩
theorem py:ap ["_law_cell_here"] ["_law_cell_here"] (al jm):=⟨rfl,rfl,rfl,by decide +kernel,rfl,by decide +kernel,by decide +kernel⟩
theorem nG {f:Addr} {fd:FuncData} (F:Fun K "_law_stream" "_law_stream" jm f fd) (T:Bl mg):aG P w K mg base bu 1 f fd ["_law_cell_here"] gX:=by
 refine F.ok py (fun vs H Q E h=>?_) (fun cdv A outer s H vs Q E hr h=>?_)
 ·obtain ⟨c,rfl,_⟩:=h
  rfl
 ·obtain ⟨c,rfl,q⟩:=h
  refine ⟨_,af (ao (bf (aa (aP eT (pv 0) (aZ iu (by rfl) T.int Bv (aa (cg wz (pv 0) (aP oh ae ae) (ay _)) ac)))
   (aa (aP fS (pv 0) ae) (aa ae ac))))),?_⟩
  refine ⟨_,rfl,_,rfl,_,_,rfl,rfl,⟨by decide,by decide,by decide⟩,_,_,rfl,rfl,.inr ⟨_,rfl,?_⟩⟩
  refine ⟨_,_,rfl,rfl,.inr (by split<;>decide),_,rfl,_,_,rfl,rfl,(by show (0:Int) < 2147483629;decide),(by show 3<=sizeLine;decide),fun l hl=>?_⟩
  exact q l _ hl (aj hl) ⟨_,_,_,ad⟩
theorem scTake:ap ["_law_stream_here","_law_many","_law_digit","_law_number"] ["_law_stream_here","_law_many"] (al ph):=⟨rfl,rfl,rfl,by decide +kernel,rfl,by decide +kernel,by decide +kernel⟩
theorem kj {n m:Int} (hm:0 < m) (h:m < 2 ^ 64):-(2 ^ 64) < n % m/\n % m < 2 ^ 64:=by
 have:=Int.emod_nonneg n (show m≠0 by omega)
 have:=Int.emod_lt_of_pos n hm
 omega
theorem rP {f:Addr} {fd:FuncData} (F:Fun K "_law_take" "_law_take" ph f fd):aG P w K mg base bu 1 f fd ["_law_stream_here","_law_many"] cJ:=by
 refine F.ok scTake (fun vs H Q E h=>?_) (fun cdv A outer s H vs Q E hr h=>?_)
 ·obtain ⟨p,m,rfl,_⟩:=h
  rfl
 ·obtain ⟨p,m,rfl,⟨x,y,z,hp⟩,m0,m1,q⟩:=h
  have fin:∀ (e x' y' z':Int) H1,0<=e->e < m->But p H H1->Q (.int e) (ax H1 p (uV x' y' z')):=fun e x' y' z' H1 h0 h1 b=>by
   have:=q e.toNat (ax H1 p (uV x' y' z')) (by omega) ⟨_,_,_,ad⟩ (fun c o e n=>by rw [aB n];exact b c o e n)
   rw [Int.toNat_of_nonneg h0] at this
   exact this
  have b1:∀ o,But p H (ax H p o):=fun o c u e n=>by rw [aB n];exact e
  refine ⟨_,ak (aI (av om (aq aC (pv 0) ae (fun _ _=>rfl)) ae (ay _))
    (ak (aR (i:=2) scTake.nd rfl (Or.inl rfl) (aP fS (aq aC (pv 0) ae (fun _ _=>rfl)) (pv 1)))
    (ak (gG (aP oS (aq aC (pv 0) ae (fun _ _=>rfl)) (pv 1)) (kM (pv 0) ae gJ))
    (af (ao (pv 2))))) aw)
   (ak (gG (aP du (aq aC (pv 0) ae (fun _ _=>rfl)) ae) (kM (pv 0) ae gJ))
   (ak (aR (i:=3) scTake.nd rfl (Or.inl rfl) (aP fS (aP du (aP eT (aP du (aq aC (pv 0) ae (fun _ _=>rfl)) (aP eT ae (aq aC (pv 0) ae (fun _ _=>rfl)))) ae) ae) ae))
   (ak (aR (i:=3) scTake.nd rfl (Or.inl rfl) (aP fS (aP eT (pv 3) (pv 3)) ae))
   (af (ao (aP fS (aP qV (aP fS (aP du (aP eT (pv 3) (pv 3)) (aP eT ae (aq aC (pv 0) ae (fun _ _=>rfl)))) ae) ae) (pv 1))))))),?_⟩
  refine ⟨_,rfl,p,_,_,_,rfl,rfl,SqL.of hp,rfl,_,_,rfl,rfl,_,rfl,?_⟩
  refine bC (fun h=>?_) (fun h=>?_)
  ·refine ⟨_,rfl,p,_,_,_,rfl,rfl,SqL.of hp,rfl,_,rfl,_,_,rfl,rfl,(by show (0:Int) < (m:Int);omega),?_⟩
   refine ⟨_,rfl,p,_,_,_,rfl,rfl,SqL.of hp,rfl,_,rfl,_,_,rfl,rfl,⟨by show (0:Int) < (m:Int);omega,by show (m:Int) < 18446744073709551616;omega⟩,?_⟩
   refine ⟨_,rfl,p,_,_,_,rfl,rfl,hp,rfl,?_⟩
   refine ⟨_,rfl,?_⟩
   exact fin _ _ _ _ _ (Int.emod_nonneg _ (by omega)) (Int.emod_lt_of_pos _ (by omega)) (But.refl _ _)
  ·refine ⟨_,rfl,p,_,_,_,rfl,rfl,SqL.of hp,rfl,_,_,rfl,rfl,?_⟩
   refine ⟨_,rfl,p,_,_,_,rfl,rfl,hp,rfl,?_⟩
   refine ⟨_,rfl,p,_,_,_,rfl,rfl,SqL.of ad,rfl,_,rfl,p,_,_,_,rfl,rfl,SqL.of ad,rfl,_,_,rfl,rfl,.inl ⟨by decide,by decide⟩,_,_,rfl,rfl,_,_,rfl,rfl,.inr ⟨by decide,by decide⟩,_,_,rfl,rfl,_,_,rfl,rfl,(by show (0:Int) < 2147483647;decide),?_⟩
   refine ⟨_,rfl,_,rfl,_,_,rfl,rfl,.inl (kj (by decide) (by decide)),_,_,rfl,rfl,(by show (0:Int) < 2147483629;decide),?_⟩
   refine ⟨_,rfl,_,rfl,_,_,rfl,rfl,.inl (kj (by decide) (by decide)),_,rfl,p,_,_,_,rfl,rfl,SqL.of ad,rfl,_,_,rfl,rfl,.inl ⟨by decide,by decide⟩,_,_,rfl,rfl,_,_,rfl,rfl,(by show (0:Int) < 2147483587;decide),_,_,rfl,rfl,⟨by decide,by decide⟩,_,rfl,_,_,rfl,rfl,(by show (0:Int) < (m:Int);omega),?_⟩
   exact fin _ _ _ _ _ (Int.emod_nonneg _ (by omega)) (Int.emod_lt_of_pos _ (by omega)) (But.refl _ _)
end
end L3
namespace L2
open PySem PySem.Spec PyProof.Rows
section
variable {X:Cx}
def wW (K:PySem.W.Frag):R2:=fun x y H Q=>∃ (a p:Addr) (xs:List Str),x=.ref a/\y=.ref p/\ud K H a/\(SqL K H p (xs.map V.str)\/SqT K H p (xs.map V.str))/\Q (.bl false) H
theorem uX {k:Nat} (hr:Room k X.A):dG X (compareOp .In) (wW X.K):=by
 intro pins s σ H x y v u Q I rx ry h
 obtain ⟨a,p,xs,rfl,rfl,t,hq,q⟩:=h
 cases rx
 cases ry
 have hu:X.A.in1.units < cLine:=by
  have:=hr.un
  show X.A.units+1 < _
  omega
 have ne:=ki I t hu
 rcases hq with hq|hq
 ·obtain ⟨its,r,pl,hz⟩:=I.list hq
  refine SeqAt.in_listAt (fun _=>false) pl.isList (fun w hw=>gU ne r w (by simpa using hw)) ⟨.bl _,H,I,rfl,?_⟩
  rw [pd]
  exact q
 ·obtain ⟨its,r,pl,hz⟩:=I.tuple hq
  refine SeqAt.in_tupleAt (fun _=>false) pl (fun w hw=>gU ne r w (by simpa using hw)) ⟨.bl _,H,I,rfl,?_⟩
  rw [pd]
  exact q
def zW (r1 r2:R2):R2:=fun x y H Q=>r1 x y H Q\/r2 x y H Q
theorem iP {f:Value->Value->Sem Value} {r1 r2:R2} (a:dG X f r1) (b:dG X f r2):dG X f (zW r1 r2):=by
 intro pins s σ H x y v u Q I rx ry h
 rcases h with h|h
 ·exact a pins s σ H x y v u Q I rx ry h
 ·exact b pins s σ H x y v u Q I rx ry h
end
end L2
namespace L3
open PySem L2
inductive Th
 | non
 | int (i:Int)
 | str (x:Str)
 | tup (l:List Th)
 | lst (l:List Th)
 | dct
mutual
inductive TgV (p:Addr) (H:Hp):V->Th->Prop
 | non:TgV p H .non .non
 | int (i:Int):TgV p H (.int i) (.int i)
 | str (x:Str):TgV p H (.str x) (.str x)
 | tup {a:Addr} {xs:List V} {ts:List Th}:H a=some (.tup xs)->TgA p H xs ts->TgV p H (.ref a) (.tup ts)
 | lst {a:Addr} {xs:List V} {ts:List Th}:a≠p->H a=some (.lst xs)->TgA p H xs ts->TgV p H (.ref a) (.lst ts)
 | dct {a:Addr}:a≠p->H a=some (.dK [])->TgV p H (.ref a) .dct
inductive TgA (p:Addr) (H:Hp):List V->List Th->Prop
 | nil:TgA p H [] []
 | cons {v:V} {t:Th} {vs:List V} {ts:List Th}:TgV p H v t->TgA p H vs ts->TgA p H (v::vs) (t::ts)
end
mutual
theorem TgV.but {p:Addr} {H H':Hp} (g:Strm H p) (b:But p H H'):∀ {v:V} {t:Th},TgV p H v t->TgV p H' v t
 | _,_,.non=>.non
 | _,_,.int i=>.int i
 | _,_,.str x=>.str x
 | _,_,.tup e t=>.tup (b _ _ e (fun z=>by obtain ⟨x,y,w,q⟩:=g;rw [z,q] at e;cases e)) (TgA.but g b t)
 | _,_,.lst n e t=>.lst n (b _ _ e n) (TgA.but g b t)
 | _,_,.dct n e=>.dct n (b _ _ e n)
theorem TgA.but {p:Addr} {H H':Hp} (g:Strm H p) (b:But p H H'):∀ {vs:List V} {ts:List Th},TgA p H vs ts->TgA p H' vs ts
 | _,_,.nil=>.nil
 | _,_,.cons h t=>.cons (TgV.but g b h) (TgA.but g b t)
end
mutual
theorem TgV.same {p:Addr} {H H':Hp} (s:Same H H'):∀ {v:V} {t:Th},TgV p H v t->TgV p H' v t
 | _,_,.non=>.non
 | _,_,.int i=>.int i
 | _,_,.str x=>.str x
 | _,_,.tup e t=>.tup (s _ _ e) (TgA.same s t)
 | _,_,.lst n e t=>.lst n (s _ _ e) (TgA.same s t)
 | _,_,.dct n e=>.dct n (s _ _ e)
theorem TgA.same {p:Addr} {H H':Hp} (s:Same H H'):∀ {vs:List V} {ts:List Th},TgA p H vs ts->TgA p H' vs ts
 | _,_,.nil=>.nil
 | _,_,.cons h t=>.cons (TgV.same s h) (TgA.same s t)
end
theorem TgA.length {p:Addr} {H:Hp}:∀ {vs:List V} {ts:List Th},TgA p H vs ts->vs.length=ts.length
 | _,_,.nil=>rfl
 | _,_,.cons _ t=>by simp [TgA.length t]
theorem TgA.get {p:Addr} {H:Hp}:∀ {vs:List V} {ts:List Th},TgA p H vs ts->∀ {i:Nat} {v:V},vs[i]?=some v->∃ t,ts[i]?=some t/\TgV p H v t
 | _,_,.cons h _,0,_,e=>by
  have e':=A1 e
  subst e'
  exact ⟨_,rfl,h⟩
 | _,_,.cons _ t,i+1,_,e=>TgA.get t (by simpa using e)
theorem TgA.app {p:Addr} {H:Hp}:∀ {vs us:List V} {ts rs:List Th},TgA p H vs ts->TgA p H us rs->TgA p H (vs++us) (ts++rs)
 | _,_,_,_,.nil,h=>h
 | _,_,_,_,.cons a t,h=>.cons a (TgA.app t h)
def Th.isInt:Th->Bool
 | .int _=>true
 | _=>false
def Th.isTup:Th->Bool
 | .tup _=>true
 | _=>false
def Th.isStr:Th->Bool
 | .str _=>true
 | _=>false
def Th.okStr:Th->Bool
 | .str x=>we x
 | _=>false
def wn (lo hi:Int):Th->Bool
 | .int i=>decide (lo<=i) && decide (i<=hi)
 | _=>false
def hd (w:Str) (n:Nat):Th->Bool
 | .tup (.str x::r)=>decide (r.length+1=n) && decide (x=w)
 | _=>false
def arg (i:Nat):Th->Th
 | .tup l=>(l[i]?).getD .non
 | _=>.non
def hg:Th->Bool
 | .tup (.lst _::_)=>false
 | .tup (.dct::_)=>false
 | .tup (.tup l::r)=>r.isEmpty || l.all Th.okStr
 | _=>true
def hg1:Th->Bool
 | .tup [.tup _]=>false
 | _=>true
def selOk (t:Th):Bool:=if hd "is" 2 t then wn 0 3 (arg 1 t) else hd "by" 2 t && wn 0 2 (arg 1 t)
def srcOk (t:Th):Bool:=if hd "in" 2 t then wn 0 7 (arg 1 t) else if hd "number" 2 t then wn 0 16777215 (arg 1 t) else hd "field" 2 t && wn 0 2 (arg 1 t)
def opsL:List Str:=["+","-","&","|","^","<<",">>","<","="]
def opOk:Th->Bool
 | .str x=>opsL.contains x
 | _=>false
def stepOk (t:Th):Bool:=
 if hd "get" 3 t || hd "ask" 3 t then wn 0 7 (arg 1 t) && selOk (arg 2 t)
 else if hd "cell" 3 t then wn 0 7 (arg 1 t) && srcOk (arg 2 t)
 else if hd "two" 5 t then wn 0 7 (arg 1 t) && (opOk (arg 2 t) && (srcOk (arg 3 t) && srcOk (arg 4 t)))
 else if hd "put" 3 t || hd "tell" 3 t then selOk (arg 1 t) && srcOk (arg 2 t)
 else hd "store" 3 t && (srcOk (arg 1 t) && srcOk (arg 2 t))
inductive Kd
 | whole|non|text|list|tuple|dict
def Kd.nm:Kd->String
 | .whole=>"int"
 | .non=>"NoneType"
 | .text=>"str"
 | .list=>"list"
 | .tuple=>"tuple"
 | .dict=>"dict"
def kd:Th->Kd
 | .non=>.non
 | .int _=>.whole
 | .str _=>.text
 | .tup _=>.tuple
 | .lst _=>.list
 | .dct=>.dict
theorem TgV.ty {K:PySem.W.Frag} {p:Addr} {H:Hp} {v:V} {t:Th} (h:TgV p H v t):eF K H v (.type (kd t).nm):=by
 cases h with
 | non=>exact .non
 | int i=>exact .int i
 | str x=>exact .str x
 | tup e _=>exact .tup e
 | lst _ e _=>exact .lst e
 | dct _ e=>exact .dK e
theorem kit_int {K:PySem.W.Frag} (t:Th):PySem.W.kitOne K (.type (kd t).nm) (.type "int")=some t.isInt:=by cases t<;>rfl
theorem kit_bool {K:PySem.W.Frag} (t:Th):PySem.W.kitOne K (.type (kd t).nm) (.type "bool")=some false:=by cases t<;>rfl
theorem kit_tup {K:PySem.W.Frag} (t:Th):PySem.W.kitOne K (.type (kd t).nm) (.type "tuple")=some t.isTup:=by cases t<;>rfl
theorem kit_str {K:PySem.W.Frag} (t:Th):PySem.W.kitOne K (.type (kd t).nm) (.type "str")=some t.isStr:=by cases t<;>rfl
structure Cst (K:PySem.W.Frag) (mg:Str->Option Value) (w:World) (aO:Addr) (t1 t2 t3 t4 t5 t6:Tok) (fs:Str->V):Prop where
 inner:mg "HIGHEST_INNER"=some (.int 7 t1)
 word:mg "HIGHEST_WORD"=some (.int 16777215 t2)
 field:mg "HIGHEST_FIELD"=some (.int 2 t3)
 sel:mg "HIGHEST_SELECTED"=some (.int 3 t4)
 addr:mg "HIGHEST_ADDRESS"=some (.int 399 t5)
 steps:mg "MOST_STEPS"=some (.int 16 t6)
 ops:mg "OPS"=some (.ref aO)
 dict:gz w K aO (opsL.map fun x=>(x,fs x))
 lo:(aO == sysModules)=false
def spWhole:Sp:=fun vs H Q _=>∃ (p:Addr) (v:V) (t:Th),vs=[v]/\TgV p H v t/\Q (.bl t.isInt) H
def spWithin:Sp:=fun vs H Q _=>∃ (p:Addr) (v:V) (t:Th) (lo hi:Int),vs=[v,.int lo,.int hi]/\TgV p H v t/\Q (.bl (wn lo hi t)) H
def spTo (hi:Int):Sp:=fun vs H Q _=>∃ (p:Addr) (v:V) (t:Th),vs=[v]/\TgV p H v t/\Q (.bl (wn 0 hi t)) H
def spOps:Sp:=fun vs H Q _=>vs=[]/\∀ p,H p=none->Q (.ref p) (ax H p (.lst (opsL.map V.str)))
def spHeaded:Sp:=fun vs H Q _=>∃ (p:Addr) (v:V) (t:Th) (w:Str) (m:Nat),vs=[v,.str w,.int m]/\TgV p H v t/\hg t=true/\(m=1->hg1 t=true)/\0 < m/\we w=true/\Q (.bl (hd w m t)) H
def spAsk (ok:Th->Bool) (gd:Th->Prop):Sp:=fun vs H Q _=>∃ (p:Addr) (v:V) (t:Th),vs=[v]/\TgV p H v t/\gd t/\∀ H',Same H H'->Q (.bl (ok t)) H'
theorem dint (a b:Int):decide (V.int a=V.int b)=decide (a=b):=by
 by_cases h:a=b
 ·subst h;simp
 ·have:¬ V.int a=V.int b:=fun z=>h (by injection z)
  simp [h,this]
theorem dstr (a b:Str):decide (V.str a=V.str b)=decide (a=b):=by
 by_cases h:a=b
 ·subst h;simp
 ·have:¬ V.str a=V.str b:=fun z=>h (by injection z)
  simp [h,this]
theorem at0 (x:V) (ys:List V):jU (x::ys) 0=some x:=aK (j:=0) rfl
section
variable {P:Program} {w:World} {K:PySem.W.Frag} {mg:Str->Option Value} {base:Heap} {aO:Addr} {t1 t2 t3 t4 t5 t6:Tok} {fs:Str->V}
theorem scWhole:ap ["thing"] ["thing"] (al le):=⟨rfl,rfl,rfl,by decide +kernel,rfl,by decide +kernel,by decide +kernel⟩
theorem ok_whole {f:Addr} {fd:FuncData} (F:Fun K "is_whole" "is_whole" le f fd) (T:Bl mg):aG P w K mg base bu 1 f fd ["thing"] spWhole:=by
 refine F.ok scWhole (fun vs H Q E h=>?_) (fun cdv A outer s H vs Q E hr h=>?_)
 ·obtain ⟨p,v,t,rfl,_⟩:=h
  rfl
 ·obtain ⟨p,v,t,rfl,tv,q⟩:=h
  refine ⟨_,af (ao (bE (aH (da (T:="int")) (by rfl) T.isinstance bL (aa (pv 0) (aa (dQ (by rfl) T.int Bv) ac))) (bP (ul (aH (da (T:="bool")) (by rfl) T.isinstance bL (aa (pv 0) (aa (dQ (by rfl) T.bool lI) ac))))))),?_⟩
  refine ⟨_,rfl,v,_,_,rfl,tv.ty,kit_int t,_,rfl,?_⟩
  cases hi:t.isInt with
  | true=>rw [hi] at q;exact bV ⟨_,rfl,v,_,_,rfl,tv.ty,kit_bool t,_,rfl,q⟩
  | false=>rw [hi] at q;exact bp q
theorem scWithin:ap ["thing","low","high"] ["thing","low","high"] (al jg):=⟨rfl,rfl,rfl,by decide +kernel,rfl,by decide +kernel,by decide +kernel⟩
theorem ok_within {f:Addr} {fd:FuncData} (F:Fun K "is_within" "is_within" jg f fd) (WH:Fn P w K mg base "is_whole" 1 ["thing"] spWhole):aG P w K mg base bu 2 f fd ["thing","low","high"] spWithin:=by
 refine F.ok scWithin (fun vs H Q E h=>?_) (fun cdv A outer s H vs Q E hr h=>?_)
 ·obtain ⟨p,v,t,lo,hi,rfl,_⟩:=h
  rfl
 ·obtain ⟨p,v,t,lo,hi,rfl,tv,q⟩:=h
  refine ⟨_,af (ao (bE (am WH hr rfl (aa (pv 0) ac)) (bP (j0 iq iq (pv 1) (pv 0) (pv 2))))),?_⟩
  refine ⟨_,rfl,p,v,t,rfl,tv,_,rfl,?_⟩
  cases tv with
  | int i=>
   refine bV ⟨_,rfl,_,rfl,_,_,rfl,rfl,_,rfl,bC (fun h=>?_) (fun h=>?_)⟩
   ·refine ⟨_,rfl,_,_,rfl,rfl,?_⟩
    have h':decide (lo<=i)=true:=h
    have q':Q (.bl (decide (lo<=i) && decide (i<=hi))) H:=q
    rw [h',Bool.true_and] at q'
    exact q'
   ·have h':decide (lo<=i)=false:=Aw.mpr h
    have q':Q (.bl (decide (lo<=i) && decide (i<=hi))) H:=q
    rw [h',Bool.false_and] at q'
    exact q'
  | non=>exact bp q
  | str x=>exact bp q
  | tup a b=>exact bp q
  | lst a b c=>exact bp q
  | dct a b=>exact bp q
theorem scOps:ap [] [] (al uN):=⟨rfl,rfl,rfl,by decide +kernel,rfl,by decide +kernel,by decide +kernel⟩
theorem ok_ops {f:Addr} {fd:FuncData} (F:Fun K "ops_told" "ops_told" uN f fd) (T:Bl mg) (C:Cst K mg w aO t1 t2 t3 t4 t5 t6 fs):aG P w K mg base bu 1 f fd [] spOps:=by
 refine F.ok scOps (fun vs H Q E h=>?_) (fun cdv A outer s H vs Q E hr h=>?_)
 ·obtain ⟨rfl,_⟩:=h
  rfl
 ·obtain ⟨rfl,q⟩:=h
  refine ⟨_,af (ao (aZ (ik rfl) (by rfl) T.list eX (aa (bj (v:=.ref aO) rfl C.ops rfl) ac))),?_⟩
  exact ⟨aO,_,rfl,C.dict,(show opsL.Nodup from by decide +kernel),C.lo,(by show 9<=1000;decide),fun p hp=>q p hp⟩
theorem scHeaded:ap ["thing","word","many"] ["thing","word","many"] (al jh):=⟨rfl,rfl,rfl,by decide +kernel,rfl,by decide +kernel,by decide +kernel⟩
theorem strs_dt {p:Addr} {H:Hp}:∀ {xs:List V} {ts:List Th},TgA p H xs ts->ts.all Th.okStr=true->∃ ss:List Str,DtAll K H xs (ss.map PyData.str)/\PyData.canLayAll0 (ss.map PyData.str)=true
 | _,_,.nil,_=>⟨[],.nil,rfl⟩
 | _,_,.cons (t:=t) a b,h=>by
  rw [List.all_cons,AU] at h
  obtain ⟨ss,d,l⟩:=strs_dt b h.2
  cases a with
  | str x=>exact ⟨x::ss,.cons (.str x) d,by simp only [AA,PyData.canLayAll0,l,Bool.and_true];exact h.1⟩
  | non=>cases h.1
  | int i=>cases h.1
  | tup _ _=>cases h.1
  | lst _ _ _=>cases h.1
  | dct _ _=>cases h.1
theorem hd_len {w:Str} {m:Nat} {ts:List Th} (h:ts.length≠m):hd w m (.tup ts)=false:=by
 match ts with
 | []=>rfl
 | .str x::r=>
  show (decide (r.length+1=m) && decide (x=w))=false
  rw [decide_eq_false (by simpa using h)]
  rfl
 | .non::r=>rfl
 | .int _::r=>rfl
 | .tup _::r=>rfl
 | .lst _::r=>rfl
 | .dct::r=>rfl
theorem ok_headed {f:Addr} {fd:FuncData} (F:Fun K "is_headed" "is_headed" jh f fd) (T:Bl mg):aG P w K mg base bu 1 f fd ["thing","word","many"] spHeaded:=by
 refine F.ok scHeaded (fun vs H Q E h=>?_) (fun cdv A outer s H vs Q E hr h=>?_)
 ·obtain ⟨p,v,t,w,m,rfl,_⟩:=h
  rfl
 ·obtain ⟨p,v,t,w,m,rfl,tv,hgt,hg1t,hm,hw,q⟩:=h
  refine ⟨_,af (ao (bE (aH (da (T:="tuple")) (by rfl) T.isinstance bL (aa (pv 0) (aa (dQ (by rfl) T.tuple br) ac)))
   (bE (cg bc (aH aT (by rfl) T.len AR (aa (pv 0) ac)) (pv 2) (ay _)) (bP (cg (iP bc (op_eqD hr)) (aq au (pv 0) ae (fun _ _=>rfl)) (pv 1) (ay _)))))),?_⟩
  refine ⟨_,rfl,v,_,_,rfl,tv.ty,kit_tup t,_,rfl,?_⟩
  cases tv with
  | non=>exact bp q
  | int i=>exact bp q
  | str x=>exact bp q
  | lst a b c=>exact bp q
  | dct a b=>exact bp q
  | @tup a xs ts e ta=>
   have hl:=ta.length
   refine bV ⟨_,rfl,a,_,rfl,.inr (SqT.of e),_,rfl,rfl,_,rfl,?_⟩
   rw [dint]
   by_cases hlm:ts.length=m
   ·have e1:decide ((xs.length:Int)=(m:Int))=true:=decide_eq_true (by omega)
    rw [e1]
    refine bV ?_
    match xs,ts,ta,hl,hlm,e,hgt,hg1t,q with
    | [],[],_,_,hlm,_,_,_,_=>exact absurd hlm (by simp;omega)
    | x::xr,t0::tr,.cons a0 ar,hl,hlm,e,hgt,hg1t,q=>
     refine ⟨_,rfl,a,_,_,_,rfl,rfl,SqT.of e,at0 _ _,_,rfl,?_⟩
     cases a0 with
     | non=>exact .inl ⟨rfl,q⟩
     | int i=>exact .inl ⟨rfl,q⟩
     | str x=>
      refine .inl ⟨rfl,?_⟩
      rw [dstr]
      have q':Q (.bl (decide (tr.length+1=m) && decide (x=w))) H:=q
      rw [decide_eq_true (by simpa using hlm),Bool.true_and] at q'
      exact q'
     | lst _ _ _=>cases hgt
     | dct _ _=>cases hgt
     | @tup b ys us eb ub=>
      have hgu:us.all Th.okStr=true:=by
       have hgt':(tr.isEmpty || us.all Th.okStr)=true:=hgt
       cases tr with
       | nil=>exact absurd (hg1t (by simpa using hlm.symm)) (by show ¬ (false=true);decide)
       | cons _ _=>exact hgt'
      obtain ⟨ss,d,l⟩:=strs_dt (K:=K) ub hgu
      have dd:Dt K H (.ref b) (.tuple (ss.map .str)):=.tup (SqT.of eb) d
      refine .inr ⟨_,.str w,dd,.str w,?_,?_,?_,?_⟩
      ·exact l
      ·exact hw
      ·exact Aq (Nat.min_le_right _ _) (by simp [PyData.depth])
      ·exact q
   ·have e1:decide ((xs.length:Int)=(m:Int))=false:=decide_eq_false (by omega)
    rw [e1]
    rw [hd_len hlm] at q
    exact bp q
theorem scInner:ap ["thing"] ["thing"] (al lf):=⟨rfl,rfl,rfl,by decide +kernel,rfl,by decide +kernel,by decide +kernel⟩
theorem ok_inner {f:Addr} {fd:FuncData} (F:Fun K "is_inner" "is_inner" lf f fd) (C:Cst K mg w aO t1 t2 t3 t4 t5 t6 fs) (WI:Fn P w K mg base "is_within" 2 ["thing","low","high"] spWithin):aG P w K mg base bu 3 f fd ["thing"] (spTo 7):=by
 refine F.ok scInner (fun vs H Q E h=>?_) (fun cdv A outer s H vs Q E hr h=>?_)
 ·obtain ⟨p,v,t,rfl,_⟩:=h
  rfl
 ·obtain ⟨p,v,t,rfl,tv,q⟩:=h
  refine ⟨_,af (ao (am WI hr rfl (aa (pv 0) (aa ae (aa (bj (v:=.int 7) rfl C.inner ⟨_,rfl⟩) ac))))),?_⟩
  exact ⟨_,rfl,p,v,t,0,7,rfl,tv,q⟩
theorem scField:ap ["thing"] ["thing"] (al lh):=⟨rfl,rfl,rfl,by decide +kernel,rfl,by decide +kernel,by decide +kernel⟩
theorem ok_field {f:Addr} {fd:FuncData} (F:Fun K "is_field" "is_field" lh f fd) (C:Cst K mg w aO t1 t2 t3 t4 t5 t6 fs) (WI:Fn P w K mg base "is_within" 2 ["thing","low","high"] spWithin):aG P w K mg base bu 3 f fd ["thing"] (spTo 2):=by
 refine F.ok scField (fun vs H Q E h=>?_) (fun cdv A outer s H vs Q E hr h=>?_)
 ·obtain ⟨p,v,t,rfl,_⟩:=h
  rfl
 ·obtain ⟨p,v,t,rfl,tv,q⟩:=h
  refine ⟨_,af (ao (am WI hr rfl (aa (pv 0) (aa ae (aa (bj (v:=.int 2) rfl C.field ⟨_,rfl⟩) ac))))),?_⟩
  exact ⟨_,rfl,p,v,t,0,2,rfl,tv,q⟩
theorem scAddr:ap ["thing"] ["thing"] (al pe):=⟨rfl,rfl,rfl,by decide +kernel,rfl,by decide +kernel,by decide +kernel⟩
theorem ok_addr {f:Addr} {fd:FuncData} (F:Fun K "is_address" "is_address" pe f fd) (C:Cst K mg w aO t1 t2 t3 t4 t5 t6 fs) (WI:Fn P w K mg base "is_within" 2 ["thing","low","high"] spWithin):aG P w K mg base bu 3 f fd ["thing"] (spTo 399):=by
 refine F.ok scAddr (fun vs H Q E h=>?_) (fun cdv A outer s H vs Q E hr h=>?_)
 ·obtain ⟨p,v,t,rfl,_⟩:=h
  rfl
 ·obtain ⟨p,v,t,rfl,tv,q⟩:=h
  refine ⟨_,af (ao (am WI hr rfl (aa (pv 0) (aa ae (aa (bj (v:=.int 399) rfl C.addr ⟨_,rfl⟩) ac))))),?_⟩
  exact ⟨_,rfl,p,v,t,0,399,rfl,tv,q⟩
end
end L3
namespace L3
open PySem L2
theorem bI {p:Addr} {H:Hp} {v:V} {t:Th} {w:Str} {n:Nat} (tv:TgV p H v t) (h:hd w n t=true):∃ (a:Addr) (xs:List V),v=.ref a/\H a=some (.tup xs)/\∀ i,i < n->∃ u,xs[i]?=some u/\TgV p H u (arg i t):=by
 cases tv with
 | non=>cases h
 | int i=>cases h
 | str x=>cases h
 | lst a b c=>cases h
 | dct a b=>cases h
 | @tup a xs ts e ta=>
  refine ⟨a,xs,rfl,e,fun i hi=>?_⟩
  have hl:ts.length=n:=by
   by_cases q:ts.length=n
   ·exact q
   ·rw [hd_len q] at h;cases h
  have hil:i < xs.length:=by rw [ta.length];omega
  have hx:xs[i]?=some xs[i]:=Bk hil
  obtain ⟨u,eu,tu⟩:=ta.get hx
  exact ⟨_,hx,by show TgV p H _ ((ts[i]?).getD .non);rw [eu];exact tu⟩
theorem ck (x:Str):∀ l:List Str,tW (.str x) (l.map V.str)=l.contains x
 | []=>rfl
 | y::l=>by
  have ih:=ck x l
  unfold tW at ih ⊢
  rw [AA,BG,ih,List.contains_cons]
  congr 1
  show decide (y=x)=(x == y)
  by_cases h:y=x
  ·subst h;simp
  ·have:(x == y)=false:=by simpa using Ne.symm h
   rw [this,decide_eq_false h]
def rQ (t:Th):Prop:=hg t=true/\∀ i,hg (arg i t)=true
theorem pz {K:PySem.W.Frag} {p l:Addr} {H:Hp} {u:V} {t:Th} {Q:VK} (tu:TgV p H u t) (el:H l=some (.lst (opsL.map V.str))) (q:Q (.bl (opOk t)) H):zW (yo K false) (wW K) u (.ref l) H Q:=by
 cases tu with
 | non=>exact .inl ⟨l,_,rfl,.inl (SqL.of el),rfl,by decide +kernel,q⟩
 | int i=>exact .inl ⟨l,_,rfl,.inl (SqL.of el),rfl,by decide +kernel,q⟩
 | str x=>
  refine .inl ⟨l,_,rfl,.inl (SqL.of el),rfl,by decide +kernel,?_⟩
  have:tW (.str x) (opsL.map V.str)=opsL.contains x:=ck x opsL
  have q':Q (.bl (opsL.contains x)) H:=q
  rw [<-this] at q'
  exact q'
 | tup e _=>exact .inr ⟨_,l,opsL,rfl,rfl,.inr (.inl ⟨_,SqT.of e⟩),.inl (SqL.of el),q⟩
 | lst _ e _=>exact .inr ⟨_,l,opsL,rfl,rfl,.inl ⟨_,SqL.of e⟩,.inl (SqL.of el),q⟩
 | dct _ e=>exact .inr ⟨_,l,opsL,rfl,rfl,.inr (.inr ⟨_,e⟩),.inl (SqL.of el),q⟩
def yt (ok:Th->Bool):Sp:=fun vs H Q _=>∃ (p:Addr) (v:V) (t:Th),vs=[v]/\TgV p H v t/\hg t=true/\Q (.bl (ok t)) H
section
variable {P:Program} {w:World} {K:PySem.W.Frag} {mg:Str->Option Value} {base:Heap} {aO:Addr} {t1 t2 t3 t4 t5 t6:Tok} {fs:Str->V}
theorem wX:ap ["thing"] ["thing"] (al uO):=⟨rfl,rfl,rfl,by decide +kernel,rfl,by decide +kernel,by decide +kernel⟩
theorem uY {f:Addr} {fd:FuncData} (F:Fun K "is_sel" "is_sel" uO f fd) (C:Cst K mg w aO t1 t2 t3 t4 t5 t6 fs) (WI:Fn P w K mg base "is_within" 2 ["thing","low","high"] spWithin) (HD:Fn P w K mg base "is_headed" 1 ["thing","word","many"] spHeaded) (FI:Fn P w K mg base "is_field" 3 ["thing"] (spTo 2)) :
  aG P w K mg base bu 4 f fd ["thing"] (yt selOk):=by
 refine F.ok wX (fun vs H Q E h=>?_) (fun cdv A outer s H vs Q E hr h=>?_)
 ·obtain ⟨p,v,t,rfl,_⟩:=h
  rfl
 ·obtain ⟨p,v,t,rfl,tv,hgt,q⟩:=h
  have hr1:Room 1 _:=hr.mono (by decide)
  have hr2:Room 2 _:=hr.mono (by decide)
  refine ⟨_,ak (aI (a6 (am HD hr1 rfl (aa (pv 0) (aa ah (aa ae ac))))) (af (ao (am WI hr2 rfl (aa (aq au (pv 0) ae (fun _ _=>rfl)) (aa ae (aa (bj (v:=.int 3) rfl C.sel ⟨_,rfl⟩) ac)))))) aw)
   (af (ao (bE (am HD hr1 rfl (aa (pv 0) (aa ah (aa ae ac)))) (bP (am FI hr rfl (aa (aq au (pv 0) ae (fun _ _=>rfl)) ac)))))),?_⟩
  have fin:∀ b,selOk t=b->Q (.bl b) H:=fun b e=>e ▸ q
  refine ⟨_,rfl,p,v,t,"is",2,rfl,tv,hgt,fun z=>absurd z (by decide),by decide,by decide +kernel,_,rfl,bC (fun h1=>?_) (fun h1=>?_)⟩
  ·obtain ⟨a,xs,rfl,e,ag⟩:=bI tv h1
   obtain ⟨u1,e1,ta⟩:=ag 1 (by decide)
   exact ⟨_,rfl,a,_,_,_,rfl,rfl,SqT.of e,aK (j:=1) e1,p,u1,_,0,3,rfl,ta,fin _ (by unfold selOk;rw [if_pos h1])⟩
  ·refine ⟨_,rfl,p,v,t,"by",2,rfl,tv,hgt,fun z=>absurd z (by decide),by decide,by decide +kernel,_,rfl,bC (fun h2=>?_) (fun h2=>?_)⟩
   ·obtain ⟨a,xs,rfl,e,ag⟩:=bI tv h2
    obtain ⟨u1,e1,ta⟩:=ag 1 (by decide)
    exact ⟨_,rfl,a,_,_,_,rfl,rfl,SqT.of e,aK (j:=1) e1,p,u1,_,rfl,ta,fin _ (by unfold selOk;rw [if_neg h1,h2,Bool.true_and])⟩
   ·exact fin _ (by unfold selOk;rw [if_neg h1,Aw.mpr h2,Bool.false_and])
theorem pA:ap ["thing"] ["thing"] (al ji):=⟨rfl,rfl,rfl,by decide +kernel,rfl,by decide +kernel,by decide +kernel⟩
theorem nH {f:Addr} {fd:FuncData} (F:Fun K "is_source" "is_source" ji f fd) (C:Cst K mg w aO t1 t2 t3 t4 t5 t6 fs) (WI:Fn P w K mg base "is_within" 2 ["thing","low","high"] spWithin) (HD:Fn P w K mg base "is_headed" 1 ["thing","word","many"] spHeaded) (FI:Fn P w K mg base "is_field" 3 ["thing"] (spTo 2)) (IN:Fn P w K mg base "is_inner" 3 ["thing"] (spTo 7)) :
  aG P w K mg base bu 4 f fd ["thing"] (yt srcOk):=by
 refine F.ok pA (fun vs H Q E h=>?_) (fun cdv A outer s H vs Q E hr h=>?_)
 ·obtain ⟨p,v,t,rfl,_⟩:=h
  rfl
 ·obtain ⟨p,v,t,rfl,tv,hgt,q⟩:=h
  have hr1:Room 1 _:=hr.mono (by decide)
  have hr2:Room 2 _:=hr.mono (by decide)
  refine ⟨_,ak (aI (a6 (am HD hr1 rfl (aa (pv 0) (aa ah (aa ae ac))))) (af (ao (am IN hr rfl (aa (aq au (pv 0) ae (fun _ _=>rfl)) ac)))) aw)
   (ak (aI (a6 (am HD hr1 rfl (aa (pv 0) (aa ah (aa ae ac))))) (af (ao (am WI hr2 rfl (aa (aq au (pv 0) ae (fun _ _=>rfl)) (aa ae (aa (bj (v:=.int 16777215) rfl C.word ⟨_,rfl⟩) ac)))))) aw)
   (af (ao (bE (am HD hr1 rfl (aa (pv 0) (aa ah (aa ae ac)))) (bP (am FI hr rfl (aa (aq au (pv 0) ae (fun _ _=>rfl)) ac))))))),?_⟩
  have fin:∀ b,srcOk t=b->Q (.bl b) H:=fun b e=>e ▸ q
  refine ⟨_,rfl,p,v,t,"in",2,rfl,tv,hgt,fun z=>absurd z (by decide),by decide,by decide +kernel,_,rfl,bC (fun h1=>?_) (fun h1=>?_)⟩
  ·obtain ⟨a,xs,rfl,e,ag⟩:=bI tv h1
   obtain ⟨u1,e1,ta⟩:=ag 1 (by decide)
   exact ⟨_,rfl,a,_,_,_,rfl,rfl,SqT.of e,aK (j:=1) e1,p,u1,_,rfl,ta,fin _ (by unfold srcOk;rw [if_pos h1])⟩
  ·refine ⟨_,rfl,p,v,t,"number",2,rfl,tv,hgt,fun z=>absurd z (by decide),by decide,by decide +kernel,_,rfl,bC (fun h2=>?_) (fun h2=>?_)⟩
   ·obtain ⟨a,xs,rfl,e,ag⟩:=bI tv h2
    obtain ⟨u1,e1,ta⟩:=ag 1 (by decide)
    exact ⟨_,rfl,a,_,_,_,rfl,rfl,SqT.of e,aK (j:=1) e1,p,u1,_,0,16777215,rfl,ta,fin _ (by unfold srcOk;rw [if_neg h1,if_pos h2])⟩
   ·refine ⟨_,rfl,p,v,t,"field",2,rfl,tv,hgt,fun z=>absurd z (by decide),by decide,by decide +kernel,_,rfl,bC (fun h3=>?_) (fun h3=>?_)⟩
    ·obtain ⟨a,xs,rfl,e,ag⟩:=bI tv h3
     obtain ⟨u1,e1,ta⟩:=ag 1 (by decide)
     exact ⟨_,rfl,a,_,_,_,rfl,rfl,SqT.of e,aK (j:=1) e1,p,u1,_,rfl,ta,fin _ (by unfold srcOk;rw [if_neg h1,if_neg h2,h3,Bool.true_and])⟩
    ·exact fin _ (by unfold srcOk;rw [if_neg h1,if_neg h2,Aw.mpr h3,Bool.false_and])
theorem pB:ap ["thing"] ["thing"] (al jj):=⟨rfl,rfl,rfl,by decide +kernel,rfl,by decide +kernel,by decide +kernel⟩
set_option maxHeartbeats 4000000 in
theorem nI {f:Addr} {fd:FuncData} (F:Fun K "is_step" "is_step" jj f fd) (HD:Fn P w K mg base "is_headed" 1 ["thing","word","many"] spHeaded) (IN:Fn P w K mg base "is_inner" 3 ["thing"] (spTo 7)) (SE:Fn P w K mg base "is_sel" 4 ["thing"] (yt selOk)) (SO:Fn P w K mg base "is_source" 4 ["thing"] (yt srcOk)) (OP:Fn P w K mg base "ops_told" 1 [] spOps) :
  aG P w K mg base bu 5 f fd ["thing"] (spAsk stepOk rQ):=by
 refine F.ok pB (fun vs H Q E h=>?_) (fun cdv A outer s H vs Q E hr h=>?_)
 ·obtain ⟨p,v,t,rfl,_⟩:=h
  rfl
 ·obtain ⟨p,v,t,rfl,tv,⟨hgt,hga⟩,q⟩:=h
  have hr1:Room 1 _:=hr.mono (by decide)
  have hr3:Room 3 _:=hr.mono (by decide)
  refine ⟨_,ak (aI (PW.pt (cR (a6 (am HD hr1 rfl (aa (pv 0) (aa ah (aa ae ac))))) (ce (a6 (am HD hr1 rfl (aa (pv 0) (aa ah (aa ae ac)))))))) (af (ao (bE (am IN hr3 rfl (aa (aq au (pv 0) ae (fun _ _=>rfl)) ac)) (bP (am SE hr rfl (aa (aq au (pv 0) ae (fun _ _=>rfl)) ac)))))) aw)
   (ak (aI (a6 (am HD hr1 rfl (aa (pv 0) (aa ah (aa ae ac))))) (af (ao (bE (am IN hr3 rfl (aa (aq au (pv 0) ae (fun _ _=>rfl)) ac)) (bP (am SO hr rfl (aa (aq au (pv 0) ae (fun _ _=>rfl)) ac)))))) aw)
   (ak (aI (a6 (am HD hr1 rfl (aa (pv 0) (aa ah (aa ae ac))))) (af (ao (bE (am IN hr3 rfl (aa (aq au (pv 0) ae (fun _ _=>rfl)) ac)) (bE (cg (iP df (uX hr)) (aq au (pv 0) ae (fun _ _=>rfl)) (uU OP hr1 rfl) rfl) (bE (am SO hr rfl (aa (aq au (pv 0) ae (fun _ _=>rfl)) ac)) (bP (am SO hr rfl (aa (aq au (pv 0) ae (fun _ _=>rfl)) ac)))))))) aw)
   (ak (aI (PW.pt (cR (a6 (am HD hr1 rfl (aa (pv 0) (aa ah (aa ae ac))))) (ce (a6 (am HD hr1 rfl (aa (pv 0) (aa ah (aa ae ac)))))))) (af (ao (bE (am SE hr rfl (aa (aq au (pv 0) ae (fun _ _=>rfl)) ac)) (bP (am SO hr rfl (aa (aq au (pv 0) ae (fun _ _=>rfl)) ac)))))) aw)
   (af (ao (bE (am HD hr1 rfl (aa (pv 0) (aa ah (aa ae ac)))) (bE (am SO hr rfl (aa (aq au (pv 0) ae (fun _ _=>rfl)) ac)) (bP (am SO hr rfl (aa (aq au (pv 0) ae (fun _ _=>rfl)) ac)))))))))),?_⟩
  have fin:∀ b H',stepOk t=b->Same H H'->Q (.bl b) H':=fun b H' e s=>e ▸ q H' s
  refine ⟨_,rfl,p,v,t,"get",3,rfl,tv,hgt,fun z=>absurd z (by decide),by decide,by decide +kernel,_,rfl,bC (fun h1=>?_) (fun h1=>?_)⟩
  ·obtain ⟨a,xs,rfl,e,ag⟩:=bI tv h1
   obtain ⟨u1,e1,t1⟩:=ag 1 (by decide)
   obtain ⟨u2,e2,t2⟩:=ag 2 (by decide)
   have eS:stepOk t=(wn 0 7 (arg 1 t) && (selOk (arg 2 t))):=by unfold stepOk;simp [h1]
   exact ⟨_,rfl,a,_,_,_,rfl,rfl,SqT.of e,aK (j:=1) e1,p,_,_,rfl,t1,_,rfl,bC (fun g0=>⟨_,rfl,a,_,_,_,rfl,rfl,SqT.of e,aK (j:=2) e2,p,_,_,rfl,t2,hga 2,fin _ _ (by rw [eS];simp [g0]) (Same.refl _)⟩) (fun g0=>fin false _ (by rw [eS];simp [Aw.mpr g0]) (Same.refl _))⟩
  ·skip
   refine ⟨_,rfl,p,v,t,"ask",3,rfl,tv,hgt,fun z=>absurd z (by decide),by decide,by decide +kernel,_,rfl,bC (fun h2=>?_) (fun h2=>?_)⟩
   ·obtain ⟨a,xs,rfl,e,ag⟩:=bI tv h2
    obtain ⟨u1,e1,t1⟩:=ag 1 (by decide)
    obtain ⟨u2,e2,t2⟩:=ag 2 (by decide)
    have eS:stepOk t=(wn 0 7 (arg 1 t) && (selOk (arg 2 t))):=by unfold stepOk;simp [h1,h2]
    exact ⟨_,rfl,a,_,_,_,rfl,rfl,SqT.of e,aK (j:=1) e1,p,_,_,rfl,t1,_,rfl,bC (fun g0=>⟨_,rfl,a,_,_,_,rfl,rfl,SqT.of e,aK (j:=2) e2,p,_,_,rfl,t2,hga 2,fin _ _ (by rw [eS];simp [g0]) (Same.refl _)⟩) (fun g0=>fin false _ (by rw [eS];simp [Aw.mpr g0]) (Same.refl _))⟩
   ·skip
    refine ⟨_,rfl,p,v,t,"cell",3,rfl,tv,hgt,fun z=>absurd z (by decide),by decide,by decide +kernel,_,rfl,bC (fun h3=>?_) (fun h3=>?_)⟩
    ·obtain ⟨a,xs,rfl,e,ag⟩:=bI tv h3
     obtain ⟨u1,e1,t1⟩:=ag 1 (by decide)
     obtain ⟨u2,e2,t2⟩:=ag 2 (by decide)
     have eS:stepOk t=(wn 0 7 (arg 1 t) && (srcOk (arg 2 t))):=by unfold stepOk;simp [h1,h2,h3]
     exact ⟨_,rfl,a,_,_,_,rfl,rfl,SqT.of e,aK (j:=1) e1,p,_,_,rfl,t1,_,rfl,bC (fun g0=>⟨_,rfl,a,_,_,_,rfl,rfl,SqT.of e,aK (j:=2) e2,p,_,_,rfl,t2,hga 2,fin _ _ (by rw [eS];simp [g0]) (Same.refl _)⟩) (fun g0=>fin false _ (by rw [eS];simp [Aw.mpr g0]) (Same.refl _))⟩
    ·skip
     refine ⟨_,rfl,p,v,t,"two",5,rfl,tv,hgt,fun z=>absurd z (by decide),by decide,by decide +kernel,_,rfl,bC (fun h4=>?_) (fun h4=>?_)⟩
     ·obtain ⟨a,xs,rfl,e,ag⟩:=bI tv h4
      obtain ⟨u1,e1,t1⟩:=ag 1 (by decide)
      obtain ⟨u2,e2,t2⟩:=ag 2 (by decide)
      obtain ⟨u3,e3,t3⟩:=ag 3 (by decide)
      obtain ⟨u4,e4,t4⟩:=ag 4 (by decide)
      have eS:stepOk t=(wn 0 7 (arg 1 t) && (opOk (arg 2 t) && (srcOk (arg 3 t) && (srcOk (arg 4 t))))):=by unfold stepOk;simp [h1,h2,h3,h4]
      exact ⟨_,rfl,a,_,_,_,rfl,rfl,SqT.of e,aK (j:=1) e1,p,_,_,rfl,t1,_,rfl,bC (fun g0=>⟨_,rfl,a,_,_,_,rfl,rfl,SqT.of e,aK (j:=2) e2,rfl,fun l nl=>by
        have s1:=aj (o:=.lst (opsL.map V.str)) nl
        have el:(ax H l (.lst (opsL.map V.str))) l=some (.lst (opsL.map V.str)):=ad
        generalize ax H l (.lst (opsL.map V.str))=H1 at *
        exact pz (t2.same s1) el ⟨_,rfl,bC (fun g1=>⟨_,rfl,a,_,_,_,rfl,rfl,SqT.of (s1 _ _ e),aK (j:=3) e3,p,_,_,rfl,t3.same s1,hga 3,_,rfl,bC (fun g2=>⟨_,rfl,a,_,_,_,rfl,rfl,SqT.of (s1 _ _ e),aK (j:=4) e4,p,_,_,rfl,t4.same s1,hga 4,fin _ _ (by rw [eS];simp [g0,g1,g2]) (s1)⟩) (fun g2=>fin false _ (by rw [eS];simp [g0,g1,Aw.mpr g2]) (s1))⟩) (fun g1=>fin false _ (by rw [eS];simp [g0,Aw.mpr g1]) s1)⟩⟩) (fun g0=>fin false _ (by rw [eS];simp [Aw.mpr g0]) (Same.refl _))⟩
     ·skip
      refine ⟨_,rfl,p,v,t,"put",3,rfl,tv,hgt,fun z=>absurd z (by decide),by decide,by decide +kernel,_,rfl,bC (fun h5=>?_) (fun h5=>?_)⟩
      ·obtain ⟨a,xs,rfl,e,ag⟩:=bI tv h5
       obtain ⟨u1,e1,t1⟩:=ag 1 (by decide)
       obtain ⟨u2,e2,t2⟩:=ag 2 (by decide)
       have eS:stepOk t=(selOk (arg 1 t) && (srcOk (arg 2 t))):=by unfold stepOk;simp [h1,h2,h3,h4,h5]
       exact ⟨_,rfl,a,_,_,_,rfl,rfl,SqT.of e,aK (j:=1) e1,p,_,_,rfl,t1,hga 1,_,rfl,bC (fun g0=>⟨_,rfl,a,_,_,_,rfl,rfl,SqT.of e,aK (j:=2) e2,p,_,_,rfl,t2,hga 2,fin _ _ (by rw [eS];simp [g0]) (Same.refl _)⟩) (fun g0=>fin false _ (by rw [eS];simp [Aw.mpr g0]) (Same.refl _))⟩
      ·skip
       refine ⟨_,rfl,p,v,t,"tell",3,rfl,tv,hgt,fun z=>absurd z (by decide),by decide,by decide +kernel,_,rfl,bC (fun h6=>?_) (fun h6=>?_)⟩
       ·obtain ⟨a,xs,rfl,e,ag⟩:=bI tv h6
        obtain ⟨u1,e1,t1⟩:=ag 1 (by decide)
        obtain ⟨u2,e2,t2⟩:=ag 2 (by decide)
        have eS:stepOk t=(selOk (arg 1 t) && (srcOk (arg 2 t))):=by unfold stepOk;simp [h1,h2,h3,h4,h5,h6]
        exact ⟨_,rfl,a,_,_,_,rfl,rfl,SqT.of e,aK (j:=1) e1,p,_,_,rfl,t1,hga 1,_,rfl,bC (fun g0=>⟨_,rfl,a,_,_,_,rfl,rfl,SqT.of e,aK (j:=2) e2,p,_,_,rfl,t2,hga 2,fin _ _ (by rw [eS];simp [g0]) (Same.refl _)⟩) (fun g0=>fin false _ (by rw [eS];simp [Aw.mpr g0]) (Same.refl _))⟩
       ·skip
        refine ⟨_,rfl,p,v,t,"store",3,rfl,tv,hgt,fun z=>absurd z (by decide),by decide,by decide +kernel,_,rfl,bC (fun h7=>?_) (fun h7=>?_)⟩
        ·obtain ⟨a,xs,rfl,e,ag⟩:=bI tv h7
         obtain ⟨u1,e1,t1⟩:=ag 1 (by decide)
         obtain ⟨u2,e2,t2⟩:=ag 2 (by decide)
         have eS:stepOk t=(srcOk (arg 1 t) && (srcOk (arg 2 t))):=by unfold stepOk;simp [h1,h2,h3,h4,h5,h6,h7]
         exact ⟨_,rfl,a,_,_,_,rfl,rfl,SqT.of e,aK (j:=1) e1,p,_,_,rfl,t1,hga 1,_,rfl,bC (fun g0=>⟨_,rfl,a,_,_,_,rfl,rfl,SqT.of e,aK (j:=2) e2,p,_,_,rfl,t2,hga 2,fin _ _ (by rw [eS];simp [g0]) (Same.refl _)⟩) (fun g0=>fin false _ (by rw [eS];simp [Aw.mpr g0]) (Same.refl _))⟩
        ·skip
         exact fin false _ (by unfold stepOk;simp [h1,h2,h3,h4,h5,h6,h7]) (Same.refl _)
end
end L3
namespace L3
open PySem L2
def ownS:List Str:=["word","cells","depth","places","marks","gate","kind","place","mark","number","row","set","if","else","top","next","go","call","back","stop","fault","bell"]
def ownV:List V:=ownS.map V.str
def rR:Str:="abcdefghijklmnopqrstuvwxyz"
def uZ:List Nat:=[97,98,99,100,101,102,103,104,105,106,107,108,109,110,111,112,113,114,115,116,117,118,119,120,121,122]
theorem wY:rR=S uZ:=by decide +kernel
theorem rS (c:Nat):c∈uZ↔97<=c/\c<=122:=by
 unfold uZ
 simp only [AG,BE,or_false]
 omega
def pC (l:List Nat):Bool:=tW (.str (S l)) ownV
def gY (c:Nat):Bool:=decide (97<=c) && decide (c<=122)
def iQ (l:List Nat):Bool:=!pC l && (decide (1<=l.length) && decide (l.length<=8) && l.all gY)
theorem nJ:ownV.all fk=true:=by decide +kernel
def my:Th->Bool
 | .str z=>iQ z.cps.toList
 | _=>false
def pE:Sp:=fun vs H Q _=>∃ (p:Addr) (v:V) (t:Th),vs=[v]/\TgV p H v t/\(∀ z,t=.str z->z.cps.toList.length<=1000)/\∀ H',Same H H'->Q (.bl (my t)) H'
structure wZ (K:PySem.W.Frag) (mg:Str->Option Value) (aO:Addr) (tL tN:Tok):Prop where
 own:mg "OWN_WORDS"=some (.ref aO)
 sq:∀ H,SqT K H aO ownV
 lets:mg "LETTERS"=some (.str rR tL)
 lng:mg "LONGEST_NAME"=some (.int 8 tN)
def fauS:List Str:=["deep","bare"]
def w8:Th->Bool
 | .str z=>!fauS.contains z
 | _=>false
def cX (t:Th):Bool:=if hd "go" 2 t || hd "call" 2 t then wn 0 2 (arg 1 t) else if hd "fault" 2 t then my (arg 1 t) && w8 (arg 1 t) else (hd "next" 1 t || (hd "back" 1 t || hd "stop" 1 t))
def eY (t:Th):Bool:=if hd "on" 2 t then wn 0 399 (arg 1 t) else if hd "some" 4 t || hd "top" 4 t then wn 0 7 (arg 1 t) && (wn 0 399 (arg 2 t) && wn 0 399 (arg 3 t)) else (hd "done" 2 t && cX (arg 1 t))
def bR:Th->Bool
 | .tup [.tup ss,on]=>decide (ss.length<=16) && (ss.all stepOk && eY on)
 | _=>false
def kl (t:Th):Prop:=hg t=true/\hg1 t=true/\∀ z,arg 1 t=.str z->z.cps.toList.length<=1000
def xb (t:Th):Prop:=hg t=true/\kl (arg 1 t)
section
variable {P:Program} {w:World} {K:PySem.W.Frag} {mg:Str->Option Value} {base:Heap} {aO:Addr} {t1 t2 t3 t4 t5 t6:Tok} {fs:Str->V}
theorem u5:ap ["thing"] ["thing"] (al mv):=⟨rfl,rfl,rfl,by decide +kernel,rfl,by decide +kernel,by decide +kernel⟩
theorem xc:(["sign"]:List Str).Nodup:=by decide +kernel
set_option maxHeartbeats 1000000 in
theorem rT {f aO:Addr} {fd:FuncData} {tL tN:Tok} (F:Fun K "is_name" "is_name" mv f fd) (T:Bl mg) (C:wZ K mg aO tL tN):aG P w K mg base bu 1 f fd ["thing"] pE:=by
 refine F.ok u5 (fun vs H Q E h=>?_) (fun cdv A outer s H vs Q E hr h=>?_)
 ·obtain ⟨p,x,t,rfl,_⟩:=h
  rfl
 ·obtain ⟨p,x,t,rfl,tv,hz,q⟩:=h
  refine ⟨_,ak (aI (PW.pt (cR (c8 (a6 (aH (da (T:="str")) (by rfl) T.isinstance bL (aa (pv 0) (aa (dQ (by rfl) T.str bG) ac)))))
    (ce (av df (pv 0) (bj (v:=.ref aO) rfl C.own rfl) rfl)))) (af (ao eJ)) aw)
   (af (ao (bE (j0 iq iq ae (aH dw (by rfl) T.len AR (aa (pv 0) ac)) (bj (v:=.int 8) rfl C.lng ⟨_,rfl⟩))
    (bP (aH (gN rfl) (by rfl) T.all fV (aa (dH (N':=["sign"]) (ix:=[none]) (sc0:=al mv) (N:=["thing"]) rfl (by decide +kernel) (oU (pv 0))
     (fun C' cl s H fp=>a7 (i:=0) xc rfl (Or.inl rfl) (.inr rfl)) (fun _ _ _ _ _=>cz) (fun C' cl s H fp=>cg ir (pv 0) (bj (v:=.str rR) rfl C.lets ⟨_,rfl⟩) rfl)) ac)))))),?_⟩
  refine ⟨_,rfl,x,_,_,rfl,tv.ty,kit_str t,_,rfl,?_⟩
  by_cases ht:t.isStr=true
  ·cases tv with
   | str z=>
    have hl:=hz z rfl
    rw [show my (.str z)=iQ z.cps.toList from rfl] at q
    generalize hzl:z.cps.toList=l at *
    have hzS:z=S l:=by rw [<-hzl];exact jv z
    subst hzS
    have sz:(100000:Nat)<=sizeLine:=by decide
    refine bp ⟨_,rfl,aO,ownV,rfl,.inr (C.sq H),rfl,nJ,_,rfl,?_⟩
    refine bC (fun h=>?_) (fun h=>?_)
    ·have h':pC l=true:=h
     have:=q H (Same.refl _)
     unfold iQ at this
     rw [h',Bool.not_true,Bool.false_and] at this
     exact this
    ·have h':pC l=false:=Aw.mpr h
     have q':∀ H',Same H H'->Q (.bl (decide (1<=l.length) && decide (l.length<=8) && l.all gY)) H':=fun H' s'=>by
      have:=q H' s'
      unfold iQ at this
      rw [h',Bool.not_false,Bool.true_and] at this
      exact this
     refine ⟨_,rfl,S l,rfl,(by rw [ba];omega),_,_,rfl,rfl,_,rfl,?_⟩
     rw [ba]
     by_cases c1:1<=l.length
     ·refine bg (decide_eq_true (by omega)) ⟨_,_,rfl,rfl,_,rfl,?_⟩
      by_cases c2:l.length<=8
      ·refine bg (decide_eq_true (by omega)) ⟨_,rfl,l,rfl,?_⟩
       refine oV (fun i ys H'=>ys=(l.take i).map (fun c=>V.bl (gY c))/\Same H H') ⟨rfl,Same.refl _⟩ (fun i ys H' hi ⟨e,_⟩=>by rw [e,Aj,AH];omega) ?_ ?_
       ·rintro i ys H' hi ⟨rfl,s'⟩
        refine ⟨trivial,cw ?_⟩
        refine ⟨_,rfl,S [l[i]],_,rfl,rfl,?_⟩
        rw [wY,ml]
        refine Nx.mk hi ⟨?_,s'⟩
        rw [<-List.take_append_getElem hi,AE]
        congr 2
        show V.bl _=V.bl (gY l[i])
        congr 1
        unfold gY
        rw [Bc,decide_eq_true_iff,AU,decide_eq_true_iff,decide_eq_true_iff]
        exact rS _
       ·rintro ys H' ⟨rfl,s'⟩ D hD
        refine ⟨D,l.map gY,rfl,SqL.of ?_,?_⟩
        ·rw [ad,AN,Bg]
         rfl
        ·have:=q' _ (s'.trans (aj (o:=.lst ((l.take l.length).map (fun c=>V.bl (gY c)))) hD))
         rw [decide_eq_true c1,decide_eq_true c2,Bool.true_and,Bool.true_and] at this
         rw [List.all_map]
         exact this
      ·refine aN (decide_eq_false (by omega)) ?_
       have:=q' H (Same.refl _)
       rw [decide_eq_false c2,Bool.and_false,Bool.false_and] at this
       exact this
     ·refine aN (decide_eq_false (by omega)) ⟨_,rfl,bp ?_⟩
      have:=q' H (Same.refl _)
      rw [decide_eq_false c1,Bool.false_and,Bool.false_and] at this
      exact this
   | non=>cases ht
   | int _=>cases ht
   | tup _ _=>cases ht
   | lst _ _ _=>cases ht
   | dct _ _=>cases ht
  ·have ht':t.isStr=false:=Aw.mpr ht
   rw [ht']
   refine bV ?_
   have:=q H (Same.refl _)
   cases tv with
   | str _=>exact absurd rfl ht
   | non=>exact this
   | int _=>exact this
   | tup _ _=>exact this
   | lst _ _ _=>exact this
   | dct _ _=>exact this
theorem rU:ap ["thing"] ["thing"] (al lp):=⟨rfl,rfl,rfl,by decide +kernel,rfl,by decide +kernel,by decide +kernel⟩
set_option maxHeartbeats 4000000 in
theorem pF {f aF:Addr} {fd:FuncData} (F:Fun K "is_end" "is_end" lp f fd) (hF:mg "OWN_FAULTS"=some (.ref aF)) (sF:∀ H,SqT K H aF (fauS.map V.str)) (HD:Fn P w K mg base "is_headed" 1 ["thing","word","many"] spHeaded) (FI:Fn P w K mg base "is_field" 3 ["thing"] (spTo 2)) (NM:Fn P w K mg base "is_name" 1 ["thing"] pE) :
  aG P w K mg base bu 4 f fd ["thing"] (spAsk cX kl):=by
 refine F.ok rU (fun vs H Q E h=>?_) (fun cdv A outer s H vs Q E hr h=>?_)
 ·obtain ⟨p,v,t,rfl,_⟩:=h
  rfl
 ·obtain ⟨p,v,t,rfl,tv,⟨hgt,hg1t,hgn⟩,q⟩:=h
  have hr1:Room 1 _:=hr.mono (by decide)
  refine ⟨_,ak (aI (PW.pt (cR (a6 (am HD hr1 rfl (aa (pv 0) (aa ah (aa ae ac))))) (ce (a6 (am HD hr1 rfl (aa (pv 0) (aa ah (aa ae ac)))))))) (af (ao (am FI hr rfl (aa (aq au (pv 0) ae (fun _ _=>rfl)) ac)))) aw)
   (ak (aI (a6 (am HD hr1 rfl (aa (pv 0) (aa ah (aa ae ac))))) (af (ao (bE (am NM hr1 rfl (aa (aq au (pv 0) ae (fun _ _=>rfl)) ac)) (bP (cg jd (aq au (pv 0) ae (fun _ _=>rfl)) (bj (v:=.ref aF) rfl hF rfl) rfl))))) aw)
   (af (ao (tH (am HD hr1 rfl (aa (pv 0) (aa ah (aa ae ac)))) (tH (am HD hr1 rfl (aa (pv 0) (aa ah (aa ae ac)))) (bP (am HD hr1 rfl (aa (pv 0) (aa ah (aa ae ac)))))))))),?_⟩
  have fin:∀ b H',cX t=b->Same H H'->Q (.bl b) H':=fun b H' e s=>e ▸ q H' s
  refine ⟨_,rfl,p,v,t,"go",2,rfl,tv,hgt,fun z=>absurd z (by decide),by decide,by decide +kernel,_,rfl,bC (fun h1=>?_) (fun h1=>?_)⟩
  ·obtain ⟨a,xs,rfl,e,ag⟩:=bI tv h1
   obtain ⟨u1,e1,t1⟩:=ag 1 (by decide)
   have eS:cX t=wn 0 2 (arg 1 t):=by unfold cX;simp [h1]
   exact ⟨_,rfl,a,_,_,_,rfl,rfl,SqT.of e,aK (j:=1) e1,p,_,_,rfl,t1,fin _ _ (by rw [eS]) (Same.refl _)⟩
  ·skip
   refine ⟨_,rfl,p,v,t,"call",2,rfl,tv,hgt,fun z=>absurd z (by decide),by decide,by decide +kernel,_,rfl,bC (fun h2=>?_) (fun h2=>?_)⟩
   ·obtain ⟨a,xs,rfl,e,ag⟩:=bI tv h2
    obtain ⟨u1,e1,t1⟩:=ag 1 (by decide)
    have eS:cX t=wn 0 2 (arg 1 t):=by unfold cX;simp [h1,h2]
    exact ⟨_,rfl,a,_,_,_,rfl,rfl,SqT.of e,aK (j:=1) e1,p,_,_,rfl,t1,fin _ _ (by rw [eS]) (Same.refl _)⟩
   ·skip
    refine ⟨_,rfl,p,v,t,"fault",2,rfl,tv,hgt,fun z=>absurd z (by decide),by decide,by decide +kernel,_,rfl,bC (fun h3=>?_) (fun h3=>?_)⟩
    ·obtain ⟨a,xs,rfl,e,ag⟩:=bI tv h3
     obtain ⟨u1,e1,t1⟩:=ag 1 (by decide)
     have eS:cX t=(my (arg 1 t) && w8 (arg 1 t)):=by unfold cX;simp [h1,h2,h3]
     refine ⟨_,rfl,a,_,_,_,rfl,rfl,SqT.of e,aK (j:=1) e1,p,_,_,rfl,t1,hgn,fun H1 s1=>⟨_,rfl,bC (fun g=>?_) (fun g=>?_)⟩⟩
     ·generalize hx:arg 1 t=x at *
      cases t1 with
      | str z=>
       refine ⟨_,rfl,a,_,_,_,rfl,rfl,SqT.of (s1 _ _ e),aK (j:=1) e1,aF,_,rfl,.inr (sF H1),rfl,by decide +kernel,?_⟩
       refine fin _ _ ?_ s1
       rw [eS,g,Bool.true_and]
       show (!fauS.contains z)=(if true=true then !tW (.str z) (fauS.map V.str) else tW (.str z) (fauS.map V.str))
       rw [if_pos rfl,ck]
      | non=>cases g
      | int _=>cases g
      | tup _ _=>cases g
      | lst _ _ _=>cases g
      | dct _ _=>cases g
     ·exact fin false _ (by rw [eS,Aw.mpr g,Bool.false_and]) s1
    ·have eS:cX t=(hd "next" 1 t || (hd "back" 1 t || hd "stop" 1 t)):=by unfold cX;simp [h1,h2,h3]
     refine ⟨_,rfl,p,v,t,"next",1,rfl,tv,hgt,fun _=>hg1t,by decide,by decide +kernel,_,rfl,bC (fun h4=>?_) (fun h4=>?_)⟩
     ·exact fin true _ (by rw [eS,h4];rfl) (Same.refl _)
     ·refine ⟨_,rfl,p,v,t,"back",1,rfl,tv,hgt,fun _=>hg1t,by decide,by decide +kernel,_,rfl,bC (fun h5=>?_) (fun h5=>?_)⟩
      ·exact fin true _ (by rw [eS];simp [h5]) (Same.refl _)
      ·exact ⟨_,rfl,p,v,t,"stop",1,rfl,tv,hgt,fun _=>hg1t,by decide,by decide +kernel,fin _ _ (by rw [eS];simp [h4,h5]) (Same.refl _)⟩
theorem rV:ap ["thing"] ["thing"] (al lv):=⟨rfl,rfl,rfl,by decide +kernel,rfl,by decide +kernel,by decide +kernel⟩
set_option maxHeartbeats 4000000 in
theorem pG {f:Addr} {fd:FuncData} (F:Fun K "is_way_on" "is_way_on" lv f fd) (HD:Fn P w K mg base "is_headed" 1 ["thing","word","many"] spHeaded) (AD:Fn P w K mg base "is_address" 3 ["thing"] (spTo 399)) (IN:Fn P w K mg base "is_inner" 3 ["thing"] (spTo 7)) (EN:Fn P w K mg base "is_end" 4 ["thing"] (spAsk cX kl)) :
  aG P w K mg base bu 5 f fd ["thing"] (spAsk eY xb):=by
 refine F.ok rV (fun vs H Q E h=>?_) (fun cdv A outer s H vs Q E hr h=>?_)
 ·obtain ⟨p,v,t,rfl,_⟩:=h
  rfl
 ·obtain ⟨p,v,t,rfl,tv,⟨hgt,hge⟩,q⟩:=h
  have hr1:Room 1 _:=hr.mono (by decide)
  have hr3:Room 3 _:=hr.mono (by decide)
  refine ⟨_,ak (aI (a6 (am HD hr1 rfl (aa (pv 0) (aa ah (aa ae ac))))) (af (ao (am AD hr3 rfl (aa (aq au (pv 0) ae (fun _ _=>rfl)) ac)))) aw)
   (ak (aI (PW.pt (cR (a6 (am HD hr1 rfl (aa (pv 0) (aa ah (aa ae ac))))) (ce (a6 (am HD hr1 rfl (aa (pv 0) (aa ah (aa ae ac)))))))) (af (ao (bE (am IN hr3 rfl (aa (aq au (pv 0) ae (fun _ _=>rfl)) ac)) (bE (am AD hr3 rfl (aa (aq au (pv 0) ae (fun _ _=>rfl)) ac)) (bP (am AD hr3 rfl (aa (aq au (pv 0) ae (fun _ _=>rfl)) ac))))))) aw)
   (af (ao (bE (am HD hr1 rfl (aa (pv 0) (aa ah (aa ae ac)))) (bP (am EN hr rfl (aa (aq au (pv 0) ae (fun _ _=>rfl)) ac))))))),?_⟩
  have fin:∀ b H',eY t=b->Same H H'->Q (.bl b) H':=fun b H' e s=>e ▸ q H' s
  refine ⟨_,rfl,p,v,t,"on",2,rfl,tv,hgt,fun z=>absurd z (by decide),by decide,by decide +kernel,_,rfl,bC (fun h1=>?_) (fun h1=>?_)⟩
  ·obtain ⟨a,xs,rfl,e,ag⟩:=bI tv h1
   obtain ⟨u1,e1,t1⟩:=ag 1 (by decide)
   have eS:eY t=(wn 0 399 (arg 1 t)):=by unfold eY;simp [h1]
   exact ⟨_,rfl,a,_,_,_,rfl,rfl,SqT.of e,aK (j:=1) e1,p,_,_,rfl,t1,fin _ _ (by rw [eS]) (Same.refl _)⟩
  ·skip
   refine ⟨_,rfl,p,v,t,"some",4,rfl,tv,hgt,fun z=>absurd z (by decide),by decide,by decide +kernel,_,rfl,bC (fun h2=>?_) (fun h2=>?_)⟩
   ·obtain ⟨a,xs,rfl,e,ag⟩:=bI tv h2
    obtain ⟨u1,e1,t1⟩:=ag 1 (by decide)
    obtain ⟨u2,e2,t2⟩:=ag 2 (by decide)
    obtain ⟨u3,e3,t3⟩:=ag 3 (by decide)
    have eS:eY t=(wn 0 7 (arg 1 t) && (wn 0 399 (arg 2 t) && wn 0 399 (arg 3 t))):=by unfold eY;simp [h1,h2]
    exact ⟨_,rfl,a,_,_,_,rfl,rfl,SqT.of e,aK (j:=1) e1,p,_,_,rfl,t1,_,rfl,bC (fun g0=>⟨_,rfl,a,_,_,_,rfl,rfl,SqT.of e,aK (j:=2) e2,p,_,_,rfl,t2,_,rfl,bC (fun g1=>⟨_,rfl,a,_,_,_,rfl,rfl,SqT.of e,aK (j:=3) e3,p,_,_,rfl,t3,fin _ _ (by rw [eS];simp [g0,g1]) (Same.refl _)⟩) (fun g1=>fin false _ (by rw [eS];simp [g0,Aw.mpr g1]) (Same.refl _))⟩) (fun g0=>fin false _ (by rw [eS];simp [Aw.mpr g0]) (Same.refl _))⟩
   ·skip
    refine ⟨_,rfl,p,v,t,"top",4,rfl,tv,hgt,fun z=>absurd z (by decide),by decide,by decide +kernel,_,rfl,bC (fun h3=>?_) (fun h3=>?_)⟩
    ·obtain ⟨a,xs,rfl,e,ag⟩:=bI tv h3
     obtain ⟨u1,e1,t1⟩:=ag 1 (by decide)
     obtain ⟨u2,e2,t2⟩:=ag 2 (by decide)
     obtain ⟨u3,e3,t3⟩:=ag 3 (by decide)
     have eS:eY t=(wn 0 7 (arg 1 t) && (wn 0 399 (arg 2 t) && wn 0 399 (arg 3 t))):=by unfold eY;simp [h1,h2,h3]
     exact ⟨_,rfl,a,_,_,_,rfl,rfl,SqT.of e,aK (j:=1) e1,p,_,_,rfl,t1,_,rfl,bC (fun g0=>⟨_,rfl,a,_,_,_,rfl,rfl,SqT.of e,aK (j:=2) e2,p,_,_,rfl,t2,_,rfl,bC (fun g1=>⟨_,rfl,a,_,_,_,rfl,rfl,SqT.of e,aK (j:=3) e3,p,_,_,rfl,t3,fin _ _ (by rw [eS];simp [g0,g1]) (Same.refl _)⟩) (fun g1=>fin false _ (by rw [eS];simp [g0,Aw.mpr g1]) (Same.refl _))⟩) (fun g0=>fin false _ (by rw [eS];simp [Aw.mpr g0]) (Same.refl _))⟩
    ·skip
     have eS:eY t=(hd "done" 2 t && cX (arg 1 t)):=by unfold eY;simp [h1,h2,h3]
     refine ⟨_,rfl,p,v,t,"done",2,rfl,tv,hgt,fun z=>absurd z (by decide),by decide,by decide +kernel,_,rfl,bC (fun h4=>?_) (fun h4=>?_)⟩
     ·obtain ⟨a,xs,rfl,e,ag⟩:=bI tv h4
      obtain ⟨u1,e1,t1⟩:=ag 1 (by decide)
      exact ⟨_,rfl,a,_,_,_,rfl,rfl,SqT.of e,aK (j:=1) e1,p,_,_,rfl,t1,hge,fun H1 s1=>fin _ _ (by rw [eS,h4,Bool.true_and]) s1⟩
     ·exact fin false _ (by rw [eS,Aw.mpr h4,Bool.false_and]) (Same.refl _)
end
end L3
namespace L3
open PySem L2
def pH (t:Th):Prop:=∀ ss on,t=.tup [.tup ss,on]->(∀ s∈ss,rQ s)/\xb on/\ss.length<=1000
theorem u7 {ts:List Th} (h:ts.length≠2):bR (.tup ts)=false:=by
 match ts with
 | []=>rfl
 | [a]=>cases a<;>rfl
 | [a,b]=>exact absurd rfl h
 | a::b::c::r=>cases a<;>rfl
theorem TgA.two {p:Addr} {H:Hp} {xs:List V} {ts:List Th} (h:TgA p H xs ts) (l:ts.length=2):∃ x y tx ty,xs=[x,y]/\ts=[tx,ty]/\TgV p H x tx/\TgV p H y ty:=by
 cases h with
 | nil=>cases l
 | cons a h=>
  cases h with
  | nil=>cases l
  | cons b h=>
   cases h with
   | nil=>exact ⟨_,_,_,_,rfl,rfl,a,b⟩
   | cons c h=>simp at l
section
variable {P:Program} {w:World} {K:PySem.W.Frag} {mg:Str->Option Value} {base:Heap} {aO:Addr} {t1 t2 t3 t4 t5 t6:Tok} {fs:Str->V}
theorem scIsLittle:ap ["thing","steps","on"] ["thing"] (al ej):=⟨rfl,rfl,rfl,by decide +kernel,rfl,by decide +kernel,by decide +kernel⟩
theorem xf:(["step"]:List Str).Nodup:=by decide +kernel
set_option maxHeartbeats 4000000 in
theorem km {f:Addr} {fd:FuncData} (F:Fun K "is_little" "is_little" ej f fd) (B:Bl mg) (C:Cst K mg w aO t1 t2 t3 t4 t5 t6 fs) (IS:Fn P w K mg base "is_step" 5 ["thing"] (spAsk stepOk rQ)) (WO:Fn P w K mg base "is_way_on" 5 ["thing"] (spAsk eY xb)) :
  aG P w K mg base bu 6 f fd ["thing"] (spAsk bR pH):=by
 refine F.ok scIsLittle (fun vs H Q E h=>?_) (fun cdv A outer s H vs Q E hr h=>?_)
 ·obtain ⟨p,v,t,rfl,_⟩:=h
  rfl
 ·obtain ⟨p,v,t,rfl,tv,lg,q⟩:=h
  have sz:(100000:Nat)<=sizeLine:=by decide
  refine ⟨_,ak (aI (PW.pt (cR (c8 (a6 (aH (da (T:="tuple")) (by rfl) B.isinstance bL (aa (pv 0) (aa (dQ (by rfl) B.tuple br) ac))))) (ce (av ip (aH aT (by rfl) B.len AR (aa (pv 0) ac)) ae (ay _))))) (af (ao eJ)) aw)
   (ak (gG (pv 0) (kK rfl (cF (a7 (i:=1) scIsLittle.nd rfl (Or.inl rfl)) (cF (a7 (i:=2) scIsLittle.nd rfl (Or.inl rfl)) i7))))
   (ak (aI (PW.pt (cR (c8 (a6 (aH (da (T:="tuple")) (by rfl) B.isinstance bL (aa (pv 1) (aa (dQ (by rfl) B.tuple br) ac))))) (ce (av om (aH aT (by rfl) B.len AR (aa (pv 1) ac)) (bj (v:=.int 16) rfl C.steps ⟨_,rfl⟩) (ay _))))) (af (ao eJ)) aw)
   (af (ao (bE (aH (gN rfl) (by rfl) B.all fV (aa (dH (N':=["step"]) (ix:=[none]) (sc0:=al ej) (N:=["thing","steps","on"]) rfl (by decide +kernel) (fP (pv 1))
     (fun C' cl s H fp=>a7 (i:=0) xf rfl (Or.inl rfl) (.inr rfl)) (fun _ _ _ _ _=>cz) (fun C' cl s H fp=>am IS hr rfl (aa (pv 0) ac))) ac)) (bP (am WO hr rfl (aa (pv 2) ac)))))))),?_⟩
  have fin:∀ b H',bR t=b->Same H H'->Q (.bl b) H':=fun b H' e s=>e ▸ q H' s
  refine ⟨_,rfl,v,_,_,rfl,tv.ty,kit_tup t,_,rfl,?_⟩
  cases tv with
  | non=>exact bV (fin false _ rfl (Same.refl _))
  | int _=>exact bV (fin false _ rfl (Same.refl _))
  | str _=>exact bV (fin false _ rfl (Same.refl _))
  | lst _ _ _=>exact bV (fin false _ rfl (Same.refl _))
  | dct _ _=>exact bV (fin false _ rfl (Same.refl _))
  | @tup a xs ts e ta=>
   have hl:=ta.length
   refine bp ⟨_,rfl,a,_,rfl,.inr (SqT.of e),rfl,_,rfl,?_⟩
   rw [dint]
   by_cases h2:ts.length=2
   ·refine aN (by rw [decide_eq_true (by omega)];rfl) ?_
    obtain ⟨x,y,tx,ty,rfl,rfl,hx,hy⟩:=ta.two h2
    ·refine ⟨_,rfl,a,_,rfl,SqT.of e,rfl,_,_,rfl,_,_,rfl,rfl,?_⟩
     refine ⟨_,rfl,x,_,_,rfl,hx.ty,kit_tup tx,_,rfl,?_⟩
     cases hx with
     | non=>exact bV (fin false _ rfl (Same.refl _))
     | int _=>exact bV (fin false _ rfl (Same.refl _))
     | str _=>exact bV (fin false _ rfl (Same.refl _))
     | lst _ _ _=>exact bV (fin false _ rfl (Same.refl _))
     | dct _ _=>exact bV (fin false _ rfl (Same.refl _))
     | @tup b us ss eb tb=>
      have hl2:=tb.length
      obtain ⟨l1,l2,l3⟩:=lg ss ty rfl
      have eS:bR (.tup [.tup ss,ty])=(decide (ss.length<=16) && (ss.all stepOk && eY ty)):=rfl
      refine bp ⟨_,rfl,b,_,rfl,.inr (SqT.of eb),_,_,rfl,rfl,_,rfl,?_⟩
      by_cases h16:ss.length<=16
      ·refine aN (decide_eq_false (by omega)) ?_
       rw [decide_eq_true h16,Bool.true_and] at eS
       refine ⟨_,rfl,b,rfl,⟨_,SqT.of eb⟩,?_⟩
       refine gP (K:=K) (a:=b) (xs:=us) (fun i ys H'=>Same H H'/\ys=(ss.take i).map (fun s=>V.bl (stepOk s))) ⟨Same.refl _,rfl⟩ (fun i ys H' hi ⟨s',e'⟩=>⟨SqT.of (s' _ _ eb),by rw [e',Aj,AH];omega⟩) ?_ ?_
       ·rintro i z ys H1 hz ⟨s1,rfl⟩
        have hlt:i < us.length:=(An.mp hz).1
        obtain ⟨tz,etz,hzt⟩:=tb.get hz
        refine ⟨trivial,cw ⟨_,rfl,p,z,tz,rfl,hzt.same s1,l1 tz (AZ etz),fun H2 s2=>Nx.mk hlt ⟨s1.trans s2,?_⟩⟩⟩
        have et:ss.take (i+1)=ss.take i++[tz]:=by rw [Bb,etz];rfl
        rw [et,AE]
        rfl
       ·rintro ys H1 ⟨s1,rfl⟩ D nD
        rw [hl2,AN]
        have s2:=aj (o:=.lst (ss.map fun s=>V.bl (stepOk s))) nD
        have e2:(ax H1 D (.lst (ss.map fun s=>V.bl (stepOk s)))) D=some (.lst ((ss.map stepOk).map V.bl)):=by rw [ad,Bg];rfl
        generalize ax H1 D (.lst (ss.map fun s=>V.bl (stepOk s)))=H2 at *
        have eA:(ss.map stepOk).all id=ss.all stepOk:=by rw [List.all_map];rfl
        refine ⟨D,ss.map stepOk,rfl,SqL.of e2,_,rfl,?_⟩
        rw [eA]
        refine bC (fun g=>?_) (fun g=>?_)
        ·exact ⟨_,rfl,p,y,ty,rfl,hy.same (s1.trans s2),l2,fun H3 s3=>fin _ _ (by rw [eS,g,Bool.true_and]) ((s1.trans s2).trans s3)⟩
        ·exact fin false _ (by rw [eS,Aw.mpr g,Bool.false_and]) (s1.trans s2)
      ·refine bg (decide_eq_true (by omega)) (fin false _ ?_ (Same.refl _))
       rw [eS,decide_eq_false h16,Bool.false_and]
   ·refine bg (by rw [decide_eq_false (by omega)];rfl) (fin false _ (u7 h2) (Same.refl _))
end
end L3
namespace L3
open PySem L2
theorem Strm.kt {p:Addr} {H H':Hp} (g:Strm H p) (b:But p H H'):uJ H H':=fun a xs e=>b a _ e (by
 rintro rfl
 obtain ⟨x,y,z,h⟩:=g
 rw [h] at e
 cases e)
inductive SelT:Th->Prop
 | is (i:Nat):i < 4->SelT (.tup [.str "is",.int i])
 | «by» (i:Nat):i < 3->SelT (.tup [.str "by",.int i])
inductive SrcT:Th->Prop
 | fld (i:Nat):i < 3->SrcT (.tup [.str "field",.int i])
 | num (i:Nat):i < 16777216->SrcT (.tup [.str "number",.int i])
 | inn (i:Nat):i < 8->SrcT (.tup [.str "in",.int i])
inductive StpT:Th->Prop
 | get (k:Nat) {s:Th}:k < 8->SelT s->StpT (.tup [.str "get",.int k,s])
 | ask (k:Nat) {s:Th}:k < 8->SelT s->StpT (.tup [.str "ask",.int k,s])
 | cell (k:Nat) {s:Th}:k < 8->SrcT s->StpT (.tup [.str "cell",.int k,s])
 | two (k:Nat) {o:Str} {a b:Th}:k < 8->o∈opsL->SrcT a->SrcT b->StpT (.tup [.str "two",.int k,.str o,a,b])
 | put {s a:Th}:SelT s->SrcT a->StpT (.tup [.str "put",s,a])
 | tell {s a:Th}:SelT s->SrcT a->StpT (.tup [.str "tell",s,a])
 | store {a b:Th}:SrcT a->SrcT b->StpT (.tup [.str "store",a,b])
def fW (C:Th->Prop):Sp:=fun vs H Q _=>∃ p:Addr,vs=[.ref p]/\Strm H p/\∀ v t H',TgV p H' v t->C t->Strm H' p->But p H H'->Q v H'
theorem pI {r:Nat} (h:r < 9):∃ f∈opsL,jU (opsL.map V.str) (r:Int)=some (.str f):=by
 rcases (by omega:r=0\/r=1\/r=2\/r=3\/r=4\/r=5\/r=6\/r=7\/r=8) with rfl|rfl|rfl|rfl|rfl|rfl|rfl|rfl|rfl<;>exact ⟨_,by decide +kernel,rfl⟩
def yW:List Str:=["get","ask","cell","two","put","tell","store","two"]
theorem SelT.ok {t:Th} (h:SelT t):selOk t=true/\hg t=true:=by
 cases h with
 | is i hi=>exact ⟨by show (decide ((0:Int)<=(i:Int)) && decide ((i:Int)<=3))=true;rw [decide_eq_true (by omega),decide_eq_true (by omega)];rfl,rfl⟩
 | «by» i hi=>exact ⟨by show (decide ((0:Int)<=(i:Int)) && decide ((i:Int)<=2))=true;rw [decide_eq_true (by omega),decide_eq_true (by omega)];rfl,rfl⟩
theorem SrcT.ok {t:Th} (h:SrcT t):srcOk t=true/\hg t=true:=by
 cases h with
 | fld i hi=>exact ⟨by show (decide ((0:Int)<=(i:Int)) && decide ((i:Int)<=2))=true;rw [decide_eq_true (by omega),decide_eq_true (by omega)];rfl,rfl⟩
 | num i hi=>exact ⟨by show (decide ((0:Int)<=(i:Int)) && decide ((i:Int)<=16777215))=true;rw [decide_eq_true (by omega),decide_eq_true (by omega)];rfl,rfl⟩
 | inn i hi=>exact ⟨by show (decide ((0:Int)<=(i:Int)) && decide ((i:Int)<=7))=true;rw [decide_eq_true (by omega),decide_eq_true (by omega)];rfl,rfl⟩
theorem wf {k:Nat} (h:k < 8):wn 0 7 (.int k)=true:=by
 show (decide ((0:Int)<=(k:Int)) && decide ((k:Int)<=7))=true
 rw [decide_eq_true (by omega),decide_eq_true (by omega)]
 rfl
section
variable {P:Program} {w:World} {K:PySem.W.Frag} {mg:Str->Option Value} {base:Heap}
theorem u8:ap ["_law_stream_here"] ["_law_stream_here"] (al pi):=⟨rfl,rfl,rfl,by decide +kernel,rfl,by decide +kernel,by decide +kernel⟩
theorem scLSource:ap ["_law_stream_here","_law_way"] ["_law_stream_here"] (al gV):=⟨rfl,rfl,rfl,by decide +kernel,rfl,by decide +kernel,by decide +kernel⟩
theorem scLStep:ap ["_law_stream_here","_law_word","_law_op"] ["_law_stream_here"] (al ly):=⟨rfl,rfl,rfl,by decide +kernel,rfl,by decide +kernel,by decide +kernel⟩
set_option maxHeartbeats 1000000 in
theorem rW {f:Addr} {fd:FuncData} (F:Fun K "_law_sel" "_law_sel" pi f fd) (TK:Fn P w K mg base "_law_take" 1 ["_law_stream_here","_law_many"] cJ):aG P w K mg base bu 2 f fd ["_law_stream_here"] (fW SelT):=by
 refine F.ok u8 (fun vs H Q E h=>?_) (fun cdv A outer s H vs Q E hr h=>?_)
 ·obtain ⟨p,rfl,_⟩:=h
  rfl
 ·obtain ⟨p,rfl,hp,q⟩:=h
  have hr1:Room 1 _:=hr
  refine ⟨_,af (ao (aq aC (bf (aa (aA (aa ah (aa (am TK hr1 rfl (aa (pv 0) (aa ae ac))) ac))) (aa (aA (aa ah (aa (am TK hr1 rfl (aa (pv 0) (aa ae ac))) ac))) ac))) (am TK hr1 rfl (aa (pv 0) (aa ae ac))) (fun _ _=>rfl))),?_⟩
  refine ⟨_,rfl,p,4,rfl,hp,by decide,by decide,fun r1 H1 l1 g1 b1=>⟨(by show 2<=sizeLine;decide),fun t1 n1=>?_⟩⟩
  have s1:=aj (o:=.tup [.str "is",.int r1]) n1
  have e1:(ax H1 t1 (.tup [.str "is",.int r1])) t1=some (.tup [.str "is",.int r1]):=ad
  have g1':=g1.same s1
  have c1:=b1.same s1
  generalize ax H1 t1 (.tup [.str "is",.int r1])=J1 at *
  refine ⟨_,rfl,p,3,rfl,g1',by decide,by decide,fun r2 H2 l2 g2 b2=>⟨(by show 2<=sizeLine;decide),fun t2 n2=>?_⟩⟩
  have s2:=aj (o:=.tup [.str "by",.int r2]) n2
  have e2:(ax H2 t2 (.tup [.str "by",.int r2])) t2=some (.tup [.str "by",.int r2]):=ad
  have g2':=g2.same s2
  have c2:=(c1.trans b2).same s2
  have e12:=(ms s2) _ _ ((g1'.kt b2) _ _ e1)
  generalize ax H2 t2 (.tup [.str "by",.int r2])=J2 at *
  refine ⟨(by show 2<=sizeLine;decide),fun lm nm=>?_⟩
  have s3:=aj (o:=.lst [.ref t1,.ref t2]) nm
  have e3:(ax J2 lm (.lst [.ref t1,.ref t2])) lm=some (.lst [.ref t1,.ref t2]):=ad
  have g3':=g2'.same s3
  have c3:=c2.same s3
  have f1:=s3 _ _ e12
  have f2:=s3 _ _ e2
  have ne:=(g2'.ne nm).symm
  generalize ax J2 lm (.lst [.ref t1,.ref t2])=J3 at *
  refine ⟨_,rfl,p,2,rfl,g3',by decide,by decide,fun r3 H3 l3 g3 b3=>?_⟩
  have k3:=g3'.kt b3
  have e4:=b3 _ _ e3 ne
  rcases (by omega:r3=0\/r3=1) with rfl|rfl
  ·exact ⟨lm,_,_,.ref t1,rfl,rfl,SqL.of e4,rfl,q _ (.tup [.str "is",.int r1]) _ (.tup (k3 _ _ f1) (.cons (.str _) (.cons (.int _) .nil))) (.is r1 l1) g3 (c3.trans b3)⟩
  ·exact ⟨lm,_,_,.ref t2,rfl,rfl,SqL.of e4,rfl,q _ (.tup [.str "by",.int r2]) _ (.tup (k3 _ _ f2) (.cons (.str _) (.cons (.int _) .nil))) (.«by» r2 l2) g3 (c3.trans b3)⟩
set_option maxHeartbeats 1000000 in
theorem lK {f:Addr} {fd:FuncData} (F:Fun K "_law_source" "_law_source" gV f fd) (TK:Fn P w K mg base "_law_take" 1 ["_law_stream_here","_law_many"] cJ):aG P w K mg base bu 2 f fd ["_law_stream_here"] (fW SrcT):=by
 refine F.ok scLSource (fun vs H Q E h=>?_) (fun cdv A outer s H vs Q E hr h=>?_)
 ·obtain ⟨p,rfl,_⟩:=h
  rfl
 ·obtain ⟨p,rfl,hp,q⟩:=h
  have hr1:Room 1 _:=hr
  refine ⟨_,ak (aR (i:=1) scLSource.nd rfl (Or.inl rfl) (am TK hr1 rfl (aa (pv 0) (aa ae ac))))
   (ak (aI (av bc (pv 1) ae (ay _)) (af (ao (aA (aa ah (aa (am TK hr1 rfl (aa (pv 0) (aa ae ac))) ac))))) aw)
   (ak (aI (av bc (pv 1) ae (ay _)) (af (ao (aA (aa ah (aa (am TK hr1 rfl (aa (pv 0) (aa (aq aC (bf (aa ae (aa (aP oh ae ae) ac))) (am TK hr1 rfl (aa (pv 0) (aa ae ac))) (fun _ _=>rfl)) ac))) ac))))) aw)
   (af (ao (aA (aa ah (aa (am TK hr1 rfl (aa (pv 0) (aa ae ac))) ac))))))),?_⟩
  refine ⟨_,rfl,p,4,rfl,hp,by decide,by decide,fun r1 H1 l1 g1 b1=>?_⟩
  refine ⟨_,rfl,rfl,_,rfl,bC (fun h=>?_) (fun h=>?_)⟩
  ·refine ⟨_,rfl,p,3,rfl,g1,by decide,by decide,fun r2 H2 l2 g2 b2=>⟨(by show 2<=sizeLine;decide),fun t nt=>?_⟩⟩
   have s3:=aj (o:=.tup [.str "field",.int r2]) nt
   exact q _ (.tup [.str "field",.int r2]) _ (.tup ad (.cons (.str _) (.cons (.int _) .nil))) (.fld r2 l2) (g2.same s3) ((b1.trans b2).same s3)
  ·refine ⟨_,rfl,rfl,_,rfl,bC (fun h2=>?_) (fun h2=>?_)⟩
   ·refine ⟨_,rfl,_,_,rfl,rfl,⟨by decide,by decide,by decide⟩,(by show 2<=sizeLine;decide),fun lm nm=>?_⟩
    have s2:=aj (o:=.lst [.int 4,.int 16777216]) nm
    have e2:(ax H1 lm (.lst [.int 4,.int 16777216])) lm=some (.lst [.int 4,.int 16777216]):=ad
    have g2:=g1.same s2
    refine ⟨_,rfl,p,2,rfl,g2,by decide,by decide,fun r3 H3 l3 g3 b3=>?_⟩
    have e3:=b3 _ _ e2 (g1.ne nm).symm
    obtain ⟨k,ek,k0,k1⟩:∃ k:Nat,jU [V.int 4,V.int 16777216] (r3:Int)=some (.int k)/\0 < k/\k<=16777216:=by
     rcases (by omega:r3=0\/r3=1) with rfl|rfl
     ·exact ⟨4,rfl,by decide,by decide⟩
     ·exact ⟨16777216,rfl,by decide,by decide⟩
    refine ⟨lm,_,_,_,rfl,rfl,SqL.of e3,ek,p,k,rfl,g3,k0,by omega,fun r4 H4 l4 g4 b4=>⟨(by show 2<=sizeLine;decide),fun t nt=>?_⟩⟩
    have s5:=aj (o:=.tup [.str "number",.int r4]) nt
    exact q _ (.tup [.str "number",.int r4]) _ (.tup ad (.cons (.str _) (.cons (.int _) .nil))) (.num r4 (by omega)) (g4.same s5) ((((b1.same s2).trans b3).trans b4).same s5)
   ·refine ⟨_,rfl,p,8,rfl,g1,by decide,by decide,fun r2 H2 l2 g2 b2=>⟨(by show 2<=sizeLine;decide),fun t nt=>?_⟩⟩
    have s3:=aj (o:=.tup [.str "in",.int r2]) nt
    exact q _ (.tup [.str "in",.int r2]) _ (.tup ad (.cons (.str _) (.cons (.int _) .nil))) (.inn r2 l2) (g2.same s3) ((b1.trans b2).same s3)
set_option maxHeartbeats 4000000 in
theorem pJ {f:Addr} {fd:FuncData} (F:Fun K "_law_step" "_law_step" ly f fd) (TK:Fn P w K mg base "_law_take" 1 ["_law_stream_here","_law_many"] cJ) (SO:Fn P w K mg base "_law_source" 2 ["_law_stream_here"] (fW SrcT)) (SE:Fn P w K mg base "_law_sel" 2 ["_law_stream_here"] (fW SelT)) :
  aG P w K mg base bu 3 f fd ["_law_stream_here"] (fW StpT):=by
 refine F.ok scLStep (fun vs H Q E h=>?_) (fun cdv A outer s H vs Q E hr h=>?_)
 ·obtain ⟨p,rfl,_⟩:=h
  rfl
 ·obtain ⟨p,rfl,hp,q⟩:=h
  have hr1:Room 1 _:=hr.mono (by decide)
  refine ⟨_,ak (aR (i:=1) scLStep.nd rfl (Or.inl rfl) (aq aC (bf (aa ah (aa ah (aa ah (aa ah (aa ah (aa ah (aa ah (aa ah ac))))))))) (am TK hr1 rfl (aa (pv 0) (aa ae ac))) (fun _ _=>rfl)))
   (ak (aI (PW.pt (cR (av bc (pv 1) ah (ay _)) (ce (av bc (pv 1) ah (ay _))))) (af (ao (aA (aa (pv 1) (aa (am TK hr1 rfl (aa (pv 0) (aa ae ac))) (aa (am SE hr rfl (aa (pv 0) ac)) ac)))))) aw)
   (ak (aI (av bc (pv 1) ah (ay _)) (af (ao (aA (aa (pv 1) (aa (am TK hr1 rfl (aa (pv 0) (aa ae ac))) (aa (am SO hr rfl (aa (pv 0) ac)) ac)))))) aw)
   (ak (aI (av bc (pv 1) ah (ay _)) (ak (aR (i:=2) scLStep.nd rfl (Or.inl rfl) (aq aC (bf (aa ah (aa ah (aa ah (aa ah (aa ah (aa ah (aa ah (aa ah (aa ah ac)))))))))) (am TK hr1 rfl (aa (pv 0) (aa ae ac))) (fun _ _=>rfl))) (af (ao (aA (aa (pv 1) (aa (am TK hr1 rfl (aa (pv 0) (aa ae ac))) (aa (pv 2) (aa (am SO hr rfl (aa (pv 0) ac)) (aa (am SO hr rfl (aa (pv 0) ac)) ac))))))))) aw)
   (ak (aI (av bc (pv 1) ah (ay _)) (af (ao (aA (aa (pv 1) (aa (am SO hr rfl (aa (pv 0) ac)) (aa (am SO hr rfl (aa (pv 0) ac)) ac)))))) aw)
   (af (ao (aA (aa (pv 1) (aa (am SE hr rfl (aa (pv 0) ac)) (aa (am SO hr rfl (aa (pv 0) ac)) ac)))))))))),?_⟩
  refine ⟨(by show 8<=sizeLine;decide),fun l0 n0=>?_⟩
  have s0:=aj (o:=.lst [V.str "get",V.str "ask",V.str "cell",V.str "two",V.str "put",V.str "tell",V.str "store",V.str "two"]) n0
  have e0:(ax H l0 (.lst [V.str "get",V.str "ask",V.str "cell",V.str "two",V.str "put",V.str "tell",V.str "store",V.str "two"])) l0=some (.lst [V.str "get",V.str "ask",V.str "cell",V.str "two",V.str "put",V.str "tell",V.str "store",V.str "two"]):=ad
  have g0:=hp.same s0
  have c0:But p H (ax H l0 (.lst [V.str "get",V.str "ask",V.str "cell",V.str "two",V.str "put",V.str "tell",V.str "store",V.str "two"])):=jw s0
  have ne0:=(hp.ne n0).symm
  generalize ax H l0 (.lst [V.str "get",V.str "ask",V.str "cell",V.str "two",V.str "put",V.str "tell",V.str "store",V.str "two"])=H0 at *
  refine ⟨_,rfl,p,8,rfl,g0,by decide,by decide,fun r1 H1 l1 g1 b1=>?_⟩
  have e1:=b1 _ _ e0 ne0
  have c1:=c0.trans b1
  rcases (by omega:r1=0\/r1=1\/r1=2\/r1=3\/r1=4\/r1=5\/r1=6\/r1=7) with rfl|rfl|rfl|rfl|rfl|rfl|rfl|rfl
  ·refine ⟨l0,_,_,.str "get",rfl,rfl,SqL.of e1,rfl,?_⟩
   refine ⟨_,rfl,rfl,_,rfl,bg (by decide +kernel) ?_⟩
   refine ⟨_,rfl,_,rfl,p,8,rfl,g1,by decide,by decide,fun r2 H2 l2 g2 b2=>⟨_,rfl,p,rfl,g2,fun v x H3 hv hx g3 b3=>⟨(by show 3<=sizeLine;decide),fun t nt=>?_⟩⟩⟩
   have s4:=aj (o:=.tup [.str "get",.int r2,v]) nt
   exact q _ (.tup [.str "get",.int r2,x]) _ (.tup ad (.cons (.str _) (.cons (.int _) (.cons (hv.same s4) .nil)))) (.get r2 l2 hx) (g3.same s4) (((c1.trans b2).trans b3).same s4)
  ·refine ⟨l0,_,_,.str "ask",rfl,rfl,SqL.of e1,rfl,?_⟩
   refine ⟨_,rfl,rfl,_,rfl,aN (by decide +kernel) ?_⟩
   refine ⟨_,rfl,rfl,_,rfl,bg (by decide +kernel) ?_⟩
   refine ⟨_,rfl,_,rfl,p,8,rfl,g1,by decide,by decide,fun r2 H2 l2 g2 b2=>⟨_,rfl,p,rfl,g2,fun v x H3 hv hx g3 b3=>⟨(by show 3<=sizeLine;decide),fun t nt=>?_⟩⟩⟩
   have s4:=aj (o:=.tup [.str "ask",.int r2,v]) nt
   exact q _ (.tup [.str "ask",.int r2,x]) _ (.tup ad (.cons (.str _) (.cons (.int _) (.cons (hv.same s4) .nil)))) (.ask r2 l2 hx) (g3.same s4) (((c1.trans b2).trans b3).same s4)
  ·refine ⟨l0,_,_,.str "cell",rfl,rfl,SqL.of e1,rfl,?_⟩
   refine ⟨_,rfl,rfl,_,rfl,aN (by decide +kernel) ?_⟩
   refine ⟨_,rfl,rfl,_,rfl,aN (by decide +kernel) ?_⟩
   refine ⟨_,rfl,rfl,_,rfl,bg (by decide +kernel) ?_⟩
   refine ⟨_,rfl,_,rfl,p,8,rfl,g1,by decide,by decide,fun r2 H2 l2 g2 b2=>⟨_,rfl,p,rfl,g2,fun v x H3 hv hx g3 b3=>⟨(by show 3<=sizeLine;decide),fun t nt=>?_⟩⟩⟩
   have s4:=aj (o:=.tup [.str "cell",.int r2,v]) nt
   exact q _ (.tup [.str "cell",.int r2,x]) _ (.tup ad (.cons (.str _) (.cons (.int _) (.cons (hv.same s4) .nil)))) (.cell r2 l2 hx) (g3.same s4) (((c1.trans b2).trans b3).same s4)
  ·refine ⟨l0,_,_,.str "two",rfl,rfl,SqL.of e1,rfl,?_⟩
   refine ⟨_,rfl,rfl,_,rfl,aN (by decide +kernel) ?_⟩
   refine ⟨_,rfl,rfl,_,rfl,aN (by decide +kernel) ?_⟩
   refine ⟨_,rfl,rfl,_,rfl,aN (by decide +kernel) ?_⟩
   refine ⟨_,rfl,rfl,_,rfl,bg (by decide +kernel) ?_⟩
   refine ⟨(by show 9<=sizeLine;decide),fun lo no=>?_⟩
   have so:=aj (o:=.lst [V.str "+",V.str "-",V.str "&",V.str "|",V.str "^",V.str "<<",V.str ">>",V.str "<",V.str "="]) no
   have eo:(ax H1 lo (.lst [V.str "+",V.str "-",V.str "&",V.str "|",V.str "^",V.str "<<",V.str ">>",V.str "<",V.str "="])) lo=some (.lst [V.str "+",V.str "-",V.str "&",V.str "|",V.str "^",V.str "<<",V.str ">>",V.str "<",V.str "="]):=ad
   have go:=g1.same so
   have co:=c1.same so
   have neo:=(g1.ne no).symm
   generalize ax H1 lo (.lst [V.str "+",V.str "-",V.str "&",V.str "|",V.str "^",V.str "<<",V.str ">>",V.str "<",V.str "="])=H1o at *
   refine ⟨_,rfl,p,9,rfl,go,by decide,by decide,fun r2 H2 l2 g2 b2=>?_⟩
   obtain ⟨fo,hfo,efo⟩:=pI l2
   refine ⟨lo,_,_,.str fo,rfl,rfl,SqL.of (b2 _ _ eo neo),efo,?_⟩
   refine ⟨_,rfl,_,rfl,p,8,rfl,g2,by decide,by decide,fun r3 H3 l3 g3 b3=>⟨_,rfl,_,rfl,p,rfl,g3,fun v x H4 hv hx g4 b4=>⟨_,rfl,p,rfl,g4,fun v2 y H5 hv2 hy g5 b5=>⟨(by show 5<=sizeLine;decide),fun t nt=>?_⟩⟩⟩⟩
   have s4:=aj (o:=.tup [.str "two",.int r3,.str fo,v,v2]) nt
   exact q _ (.tup [.str "two",.int r3,.str fo,x,y]) _ (.tup ad (.cons (.str _) (.cons (.int _) (.cons (.str _) (.cons ((hv.but g4 b5).same s4) (.cons (hv2.same s4) .nil)))))) (.two r3 l3 hfo hx hy) (g5.same s4) (((((co.trans b2).trans b3).trans b4).trans b5).same s4)
  ·refine ⟨l0,_,_,.str "put",rfl,rfl,SqL.of e1,rfl,?_⟩
   refine ⟨_,rfl,rfl,_,rfl,aN (by decide +kernel) ?_⟩
   refine ⟨_,rfl,rfl,_,rfl,aN (by decide +kernel) ?_⟩
   refine ⟨_,rfl,rfl,_,rfl,aN (by decide +kernel) ?_⟩
   refine ⟨_,rfl,rfl,_,rfl,aN (by decide +kernel) ?_⟩
   refine ⟨_,rfl,rfl,_,rfl,aN (by decide +kernel) ?_⟩
   refine ⟨_,rfl,_,rfl,p,rfl,g1,fun v x H4 hv hx g4 b4=>⟨_,rfl,p,rfl,g4,fun v2 y H5 hv2 hy g5 b5=>⟨(by show 3<=sizeLine;decide),fun t nt=>?_⟩⟩⟩
   have s4:=aj (o:=.tup [.str "put",v,v2]) nt
   exact q _ (.tup [.str "put",x,y]) _ (.tup ad (.cons (.str _) (.cons ((hv.but g4 b5).same s4) (.cons (hv2.same s4) .nil)))) (.put hx hy) (g5.same s4) (((c1.trans b4).trans b5).same s4)
  ·refine ⟨l0,_,_,.str "tell",rfl,rfl,SqL.of e1,rfl,?_⟩
   refine ⟨_,rfl,rfl,_,rfl,aN (by decide +kernel) ?_⟩
   refine ⟨_,rfl,rfl,_,rfl,aN (by decide +kernel) ?_⟩
   refine ⟨_,rfl,rfl,_,rfl,aN (by decide +kernel) ?_⟩
   refine ⟨_,rfl,rfl,_,rfl,aN (by decide +kernel) ?_⟩
   refine ⟨_,rfl,rfl,_,rfl,aN (by decide +kernel) ?_⟩
   refine ⟨_,rfl,_,rfl,p,rfl,g1,fun v x H4 hv hx g4 b4=>⟨_,rfl,p,rfl,g4,fun v2 y H5 hv2 hy g5 b5=>⟨(by show 3<=sizeLine;decide),fun t nt=>?_⟩⟩⟩
   have s4:=aj (o:=.tup [.str "tell",v,v2]) nt
   exact q _ (.tup [.str "tell",x,y]) _ (.tup ad (.cons (.str _) (.cons ((hv.but g4 b5).same s4) (.cons (hv2.same s4) .nil)))) (.tell hx hy) (g5.same s4) (((c1.trans b4).trans b5).same s4)
  ·refine ⟨l0,_,_,.str "store",rfl,rfl,SqL.of e1,rfl,?_⟩
   refine ⟨_,rfl,rfl,_,rfl,aN (by decide +kernel) ?_⟩
   refine ⟨_,rfl,rfl,_,rfl,aN (by decide +kernel) ?_⟩
   refine ⟨_,rfl,rfl,_,rfl,aN (by decide +kernel) ?_⟩
   refine ⟨_,rfl,rfl,_,rfl,aN (by decide +kernel) ?_⟩
   refine ⟨_,rfl,rfl,_,rfl,bg (by decide +kernel) ?_⟩
   refine ⟨_,rfl,_,rfl,p,rfl,g1,fun v x H4 hv hx g4 b4=>⟨_,rfl,p,rfl,g4,fun v2 y H5 hv2 hy g5 b5=>⟨(by show 3<=sizeLine;decide),fun t nt=>?_⟩⟩⟩
   have s4:=aj (o:=.tup [.str "store",v,v2]) nt
   exact q _ (.tup [.str "store",x,y]) _ (.tup ad (.cons (.str _) (.cons ((hv.but g4 b5).same s4) (.cons (hv2.same s4) .nil)))) (.store hx hy) (g5.same s4) (((c1.trans b4).trans b5).same s4)
  ·refine ⟨l0,_,_,.str "two",rfl,rfl,SqL.of e1,rfl,?_⟩
   refine ⟨_,rfl,rfl,_,rfl,aN (by decide +kernel) ?_⟩
   refine ⟨_,rfl,rfl,_,rfl,aN (by decide +kernel) ?_⟩
   refine ⟨_,rfl,rfl,_,rfl,aN (by decide +kernel) ?_⟩
   refine ⟨_,rfl,rfl,_,rfl,bg (by decide +kernel) ?_⟩
   refine ⟨(by show 9<=sizeLine;decide),fun lo no=>?_⟩
   have so:=aj (o:=.lst [V.str "+",V.str "-",V.str "&",V.str "|",V.str "^",V.str "<<",V.str ">>",V.str "<",V.str "="]) no
   have eo:(ax H1 lo (.lst [V.str "+",V.str "-",V.str "&",V.str "|",V.str "^",V.str "<<",V.str ">>",V.str "<",V.str "="])) lo=some (.lst [V.str "+",V.str "-",V.str "&",V.str "|",V.str "^",V.str "<<",V.str ">>",V.str "<",V.str "="]):=ad
   have go:=g1.same so
   have co:=c1.same so
   have neo:=(g1.ne no).symm
   generalize ax H1 lo (.lst [V.str "+",V.str "-",V.str "&",V.str "|",V.str "^",V.str "<<",V.str ">>",V.str "<",V.str "="])=H1o at *
   refine ⟨_,rfl,p,9,rfl,go,by decide,by decide,fun r2 H2 l2 g2 b2=>?_⟩
   obtain ⟨fo,hfo,efo⟩:=pI l2
   refine ⟨lo,_,_,.str fo,rfl,rfl,SqL.of (b2 _ _ eo neo),efo,?_⟩
   refine ⟨_,rfl,_,rfl,p,8,rfl,g2,by decide,by decide,fun r3 H3 l3 g3 b3=>⟨_,rfl,_,rfl,p,rfl,g3,fun v x H4 hv hx g4 b4=>⟨_,rfl,p,rfl,g4,fun v2 y H5 hv2 hy g5 b5=>⟨(by show 5<=sizeLine;decide),fun t nt=>?_⟩⟩⟩⟩
   have s4:=aj (o:=.tup [.str "two",.int r3,.str fo,v,v2]) nt
   exact q _ (.tup [.str "two",.int r3,.str fo,x,y]) _ (.tup ad (.cons (.str _) (.cons (.int _) (.cons (.str _) (.cons ((hv.but g4 b5).same s4) (.cons (hv2.same s4) .nil)))))) (.two r3 l3 hfo hx hy) (g5.same s4) (((((co.trans b2).trans b3).trans b4).trans b5).same s4)
end
end L3
namespace L3
open PySem L2
theorem gq {x y z:Th} (h:hg (.tup [x,y,z])=true) (hx:hg x=true) (hy:hg y=true) (hz:hg z=true):rQ (.tup [x,y,z]):=⟨h,fun i=>by
 match i with
 | 0=>exact hx
 | 1=>exact hy
 | 2=>exact hz
 | i+3=>rfl⟩
theorem xg {x y z u v:Th} (h:hg (.tup [x,y,z,u,v])=true) (hx:hg x=true) (hy:hg y=true) (hz:hg z=true) (hu:hg u=true) (hv:hg v=true):rQ (.tup [x,y,z,u,v]):=⟨h,fun i=>by
 match i with
 | 0=>exact hx
 | 1=>exact hy
 | 2=>exact hz
 | 3=>exact hu
 | 4=>exact hv
 | i+5=>rfl⟩
theorem rX {o:Str} (h:o∈opsL):opsL.contains o=true:=List.contains_iff_mem.mpr h
theorem StpT.ok {t:Th} (h:StpT t):stepOk t=true/\rQ t:=by
 cases h with
 | @get k s hk hs=>
  refine ⟨?_,gq rfl rfl rfl hs.ok.2⟩
  show (wn 0 7 (.int k) && selOk s)=true
  rw [wf hk,hs.ok.1];rfl
 | @ask k s hk hs=>
  refine ⟨?_,gq rfl rfl rfl hs.ok.2⟩
  show (wn 0 7 (.int k) && selOk s)=true
  rw [wf hk,hs.ok.1];rfl
 | @cell k s hk hs=>
  refine ⟨?_,gq rfl rfl rfl hs.ok.2⟩
  show (wn 0 7 (.int k) && srcOk s)=true
  rw [wf hk,hs.ok.1];rfl
 | @two k o a b hk ho ha hb=>
  refine ⟨?_,xg rfl rfl rfl rfl ha.ok.2 hb.ok.2⟩
  show (wn 0 7 (.int k) && (opsL.contains o && (srcOk a && srcOk b)))=true
  rw [wf hk,rX ho,ha.ok.1,hb.ok.1];rfl
 | @put s a hs ha=>
  refine ⟨?_,gq rfl rfl hs.ok.2 ha.ok.2⟩
  show (selOk s && srcOk a)=true
  rw [hs.ok.1,ha.ok.1];rfl
 | @tell s a hs ha=>
  refine ⟨?_,gq rfl rfl hs.ok.2 ha.ok.2⟩
  show (selOk s && srcOk a)=true
  rw [hs.ok.1,ha.ok.1];rfl
 | @store a b ha hb=>
  refine ⟨?_,gq rfl rfl ha.ok.2 hb.ok.2⟩
  show (srcOk a && srcOk b)=true
  rw [ha.ok.1,hb.ok.1];rfl
def nK:List Str:=["z","setq","deeply","gogogogo"]
inductive EndT:Th->Prop
 | next:EndT (.tup [.str "next"])
 | go (i:Nat):i < 3->EndT (.tup [.str "go",.int i])
 | call (i:Nat):i < 3->EndT (.tup [.str "call",.int i])
 | back:EndT (.tup [.str "back"])
 | stop:EndT (.tup [.str "stop"])
 | fault (z:Str):z∈nK->EndT (.tup [.str "fault",.str z])
inductive OnT:Th->Prop
 | two (z:Str) (i a b:Nat):(z="some"\/z="top")->i < 8->a < 400->b < 400->OnT (.tup [.str z,.int i,.int a,.int b])
 | on (a:Nat):a < 400->OnT (.tup [.str "on",.int a])
 | done {e:Th}:EndT e->OnT (.tup [.str "done",e])
theorem u9:∀ z∈nK,iQ z.cps.toList=true/\fauS.contains z=false/\z.cps.toList.length<=1000:=by decide +kernel
theorem zX {k:Nat} (h:k < 3):wn 0 2 (.int k)=true:=by
 show (decide ((0:Int)<=(k:Int)) && decide ((k:Int)<=2))=true
 rw [decide_eq_true (by omega),decide_eq_true (by omega)]
 rfl
theorem xh {k:Nat} (h:k < 400):wn 0 399 (.int k)=true:=by
 show (decide ((0:Int)<=(k:Int)) && decide ((k:Int)<=399))=true
 rw [decide_eq_true (by omega),decide_eq_true (by omega)]
 rfl
theorem EndT.ok {t:Th} (h:EndT t):cX t=true/\kl t:=by
 cases h with
 | next=>exact ⟨rfl,rfl,rfl,fun z e=>by cases e⟩
 | go i hi=>exact ⟨zX hi,rfl,rfl,fun z e=>by cases e⟩
 | call i hi=>exact ⟨zX hi,rfl,rfl,fun z e=>by cases e⟩
 | back=>exact ⟨rfl,rfl,rfl,fun z e=>by cases e⟩
 | stop=>exact ⟨rfl,rfl,rfl,fun z e=>by cases e⟩
 | fault z hz=>
  obtain ⟨a,b,c⟩:=u9 z hz
  refine ⟨?_,rfl,rfl,fun z' e=>?_⟩
  ·show (iQ z.cps.toList && !fauS.contains z)=true
   rw [a,b];rfl
  ·have e':Th.str z=.str z':=e
   cases e'
   exact c
theorem ft (i:Int):kl (.int i):=⟨rfl,rfl,fun z e=>by cases e⟩
theorem OnT.ok {t:Th} (h:OnT t):eY t=true/\xb t:=by
 cases h with
 | two z i a b hz hi ha hb=>
  rcases hz with rfl|rfl
  ·refine ⟨?_,rfl,ft _⟩
   show (wn 0 7 (.int i) && (wn 0 399 (.int a) && wn 0 399 (.int b)))=true
   rw [wf hi,xh ha,xh hb];rfl
  ·refine ⟨?_,rfl,ft _⟩
   show (wn 0 7 (.int i) && (wn 0 399 (.int a) && wn 0 399 (.int b)))=true
   rw [wf hi,xh ha,xh hb];rfl
 | on a ha=>exact ⟨xh ha,rfl,ft _⟩
 | done he=>exact ⟨he.ok.1,rfl,he.ok.2⟩
end L3
namespace L3
open PySem L2
theorem eZ {sep l:List Nat} (hs:sep≠[]) (i:Nat):StrLaws.At (S l) (S sep) (S l).length i↔sep <+: l.drop i:=by
 unfold StrLaws.At
 rw [StrLaws.subAt_eq,ba,ba,List.prefix_iff_eq_take]
 show (i+sep.length<=l.length/\((l.drop i).take sep.length == sep)=true)↔_
 rw [beq_iff_eq]
 constructor
 ·rintro ⟨_,h⟩;exact h.symm
 ·intro h
  refine ⟨?_,h.symm⟩
  have h2:=congrArg List.length h
  rw [AH,A0] at h2
  have:0 < sep.length:=BB.mpr hs
  omega
theorem fb {x y:Str} {hi:Nat}:∀ {c1 c2:List Nat} {a f1 f2:Nat},StrLaws.ChainG x y hi a c1 f1->StrLaws.ChainG x y hi a c2 f2->(∀ k,f1<=k->¬ StrLaws.At x y hi k)->(∀ k,f2<=k->¬ StrLaws.At x y hi k)->c1=c2
 | [],[],_,_,_,_,_,_,_=>rfl
 | [],c::r,a,f1,f2,h1,h2,n1,n2=>by
  have e:f1=a:=h1
  subst e
  exact absurd h2.2.1 (n1 c h2.1)
 | c::r,[],a,f1,f2,h1,h2,n1,n2=>by
  have e:f2=a:=h2
  subst e
  exact absurd h1.2.1 (n2 c h1.1)
 | c::r,d::q,a,f1,f2,h1,h2,n1,n2=>by
  have e:c=d:=by
   rcases Nat.lt_trichotomy c d with h|h|h
   ·exact absurd h1.2.1 (h2.2.2.1 c h1.1 h)
   ·exact h
   ·exact absurd h2.2.1 (h1.2.2.1 d h2.1 h)
  subst e
  rw [fb h1.2.2.2 h2.2.2.2 n1 n2]
theorem gZ {sep p b:List Nat} (hs:sep≠[]) (k:Nat):StrLaws.At (S (p++b)) (S sep) (S (p++b)).length (p.length+k)↔StrLaws.At (S b) (S sep) (S b).length k:=by
 rw [eZ hs,eZ hs,<-List.drop_drop,List.drop_left]
theorem gj {sep p b:List Nat} (hs:sep≠[]):∀ {c:List Nat} {a f:Nat},StrLaws.ChainG (S b) (S sep) (S b).length a c f->StrLaws.ChainG (S (p++b)) (S sep) (S (p++b)).length (p.length+a) (c.map (p.length+·)) (p.length+f)
 | [],a,f,h=>by
  have e:f=a:=h
  subst e
  exact rfl
 | c::r,a,f,h=>by
  refine ⟨by have:=h.1;show p.length+a<=p.length+c;omega,(gZ hs c).mpr h.2.1,fun k h1 h2=>?_,?_⟩
  ·obtain ⟨j,rfl⟩:∃ j,k=p.length+j:=⟨k - p.length,by omega⟩
   rw [gZ hs]
   have h2':p.length+j < p.length+c:=h2
   exact h.2.2.1 j (by omega) (by omega)
  ·have:=gj (p:=p) hs h.2.2.2
   rw [show p.length+c+(S sep).length=p.length+(c+(S sep).length) from by omega]
   exact this
theorem iR (p b:List Nat) (i j:Nat):Builtin.Str.strSub (S (p++b)) (p.length+i) (p.length+j)=Builtin.Str.strSub (S b) i j:=by
 have h:∀ x y:Str,x.cps.toList=y.cps.toList->x=y:=fun x y h=>by rw [jv x,jv y,h]
 apply h
 rw [StrLaws.strSub_toList,StrLaws.strSub_toList]
 show ((p++b).drop (p.length+i)).take (p.length+j - (p.length+i))=(b.drop i).take (j - i)
 rw [<-List.drop_drop,List.drop_left]
 congr 1
 omega
theorem gk (p b:List Nat) (w:Nat):∀ (c:List Nat) (a:Nat),StrLaws.partsFrom (S (p++b)) w (p.length+a) (c.map (p.length+·))=StrLaws.partsFrom (S b) w a c
 | [],a=>by
  show [Builtin.Str.strSub (S (p++b)) (p.length+a) (S (p++b)).length]=[Builtin.Str.strSub (S b) a (S b).length]
  rw [ba,ba,Ah,iR]
 | c::r,a=>by
  show Builtin.Str.strSub (S (p++b)) (p.length+a) (p.length+c)::StrLaws.partsFrom (S (p++b)) w (p.length+c+w) (r.map (p.length+·))=Builtin.Str.strSub (S b) a c::StrLaws.partsFrom (S b) w (c+w) r
  rw [iR,show p.length+c+w=p.length+(c+w) from by omega,gk p b w r]
theorem cy (x y:Str) (hy:(y.length == 0)=false):Txt.split x y=StrLaws.partsFrom x y.length 0 (Builtin.Str.occurrences x y 0 x.length (x.length+1)):=by
 rw [<-StrLaws.partsBetween_eq]
 have h:=PySem.W.m_split x y hy
 have h':(if (y.length == 0)=true then Option.none else some (PySem.W.WData.list ((Builtin.Str.partsBetween x (Builtin.Str.occurrences x y 0 x.length (x.length+1)) y.length).map .str)))=some (PySem.W.WData.list ((Txt.split x y).map .str)):=h
 rw [if_neg (by rw [hy];nofun)] at h'
 have h2:=A1 h'
 have h3:(Builtin.Str.partsBetween x (Builtin.Str.occurrences x y 0 x.length (x.length+1)) y.length).map PySem.W.WData.str=(Txt.split x y).map PySem.W.WData.str:=by injection h2
 exact ((List.map_inj_right (fun a b e=>by injection e)).mp h3).symm
theorem fw {sep:List Nat} (hs:sep≠[]):((S sep).length == 0)=false:=by
 rw [ba]
 cases sep with
 | nil=>exact absurd rfl hs
 | cons _ _=>rfl
theorem pK {sep:List Nat} (hs:sep≠[]):1<=(S sep).length:=by
 rw [ba];exact BB.mpr hs
theorem nM {sep a b:List Nat} (hs:sep≠[]) (h:∀ i,i < a.length->¬ sep <+: (a++sep++b).drop i):Txt.split (S (a++sep++b)) (S sep)=S a::Txt.split (S b) (S sep):=by
 rw [cy _ _ (fw hs),cy _ _ (fw hs)]
 obtain ⟨f,c1,n1⟩:=StrLaws.occ_tight (S (a++sep++b)) (S sep) (pK hs)
 obtain ⟨g,c2,n2⟩:=StrLaws.occ_tight (S b) (S sep) (pK hs)
 generalize Builtin.Str.occurrences (S (a++sep++b)) (S sep) 0 (S (a++sep++b)).length ((S (a++sep++b)).length+1)=o1 at *
 generalize Builtin.Str.occurrences (S b) (S sep) 0 (S b).length ((S b).length+1)=o2 at *
 have ea:StrLaws.At (S (a++sep++b)) (S sep) (S (a++sep++b)).length a.length:=by
  rw [eZ hs,Az,List.drop_left]
  exact List.prefix_append _ _
 have c3:StrLaws.ChainG (S (a++sep++b)) (S sep) (S (a++sep++b)).length 0 (a.length::o2.map ((a++sep).length+·)) ((a++sep).length+g):=by
  refine ⟨Bi _,ea,fun k _ hk=>by rw [eZ hs];exact h k hk,?_⟩
  have:=gj (p:=a++sep) hs c2
  rw [show a.length+(S sep).length=(a++sep).length+0 from by rw [ba,Ah];omega]
  exact this
 have n3:∀ k,(a++sep).length+g<=k->¬ StrLaws.At (S (a++sep++b)) (S sep) (S (a++sep++b)).length k:=fun k hk=>by
  obtain ⟨j,rfl⟩:∃ j,k=(a++sep).length+j:=⟨k - (a++sep).length,by omega⟩
  rw [gZ hs]
  exact n2 j (by omega)
 rw [fb c1 c3 n1 n3]
 show Builtin.Str.strSub (S (a++sep++b)) 0 a.length::StrLaws.partsFrom (S (a++sep++b)) (S sep).length (a.length+(S sep).length) (o2.map ((a++sep).length+·))=_
 rw [show a.length+(S sep).length=(a++sep).length+0 from by rw [ba,Ah];omega,gk]
 congr 1
 have h:∀ x y:Str,x.cps.toList=y.cps.toList->x=y:=fun x y h=>by rw [jv x,jv y,h]
 apply h
 rw [StrLaws.strSub_toList]
 show ((a++sep++b).drop 0).take (a.length - 0)=a
 rw [Bs,Nat.sub_zero,Az,List.take_left]
theorem lL {sep l:List Nat} (hs:sep≠[]) (h:∀ i,¬ sep <+: l.drop i):Txt.split (S l) (S sep)=[S l]:=by
 rw [cy _ _ (fw hs)]
 obtain ⟨f,c1,n1⟩:=StrLaws.occ_tight (S l) (S sep) (pK hs)
 generalize Builtin.Str.occurrences (S l) (S sep) 0 (S l).length ((S l).length+1)=o1 at *
 have c3:StrLaws.ChainG (S l) (S sep) (S l).length 0 [] 0:=rfl
 rw [fb c1 c3 n1 (fun k _=>by rw [eZ hs];exact h k)]
 show [Builtin.Str.strSub (S l) 0 (S l).length]=[S l]
 rw [StrLaws.sub_whole]
def cK (x y:Str):Str×Str×Str:=match Builtin.Str.occurrences x y 0 x.length 1 with
 | i::_=>(Builtin.Str.strSub x 0 i,y,Builtin.Str.strSub x (i+y.length) x.length)
 | []=>(x,Str.empty,Str.empty)
theorem pM {sep a b:List Nat} (hs:sep≠[]) (h:∀ i,i < a.length->¬ sep <+: (a++sep++b).drop i):cK (S (a++sep++b)) (S sep)=(S a,S sep,S b):=by
 have ea:StrLaws.At (S (a++sep++b)) (S sep) (S (a++sep++b)).length a.length:=by
  rw [eZ hs,Az,List.drop_left]
  exact List.prefix_append _ _
 unfold cK
 rcases StrLaws.occ_head (S (a++sep++b)) (S sep) 1 (Ao _) with ⟨_,n⟩|⟨i,r,e,ai,n⟩
 ·exact absurd ea (n _)
 ·have e2:i=a.length:=by
   rcases Nat.lt_trichotomy i a.length with g|g|g
   ·exact absurd ((eZ hs i).mp ai) (h i g)
   ·exact g
   ·exact absurd ea (n _ g)
  subst e2
  rw [e]
  have hx:∀ x y:Str,x.cps.toList=y.cps.toList->x=y:=fun x y h=>by rw [jv x,jv y,h]
  show (Builtin.Str.strSub (S (a++sep++b)) 0 a.length,S sep,Builtin.Str.strSub (S (a++sep++b)) (a.length+(S sep).length) (S (a++sep++b)).length)=_
  congr 1
  ·apply hx
   rw [StrLaws.strSub_toList]
   show ((a++sep++b).drop 0).take (a.length - 0)=a
   rw [Bs,Nat.sub_zero,Az,List.take_left]
  ·congr 1
   apply hx
   rw [StrLaws.strSub_toList,ba,ba]
   show ((a++sep++b).drop (a.length+sep.length)).take ((a++sep++b).length - (a.length+sep.length))=b
   rw [<-Ah,List.drop_left,Ah (as:=a++sep),Nat.add_sub_cancel_left,AN]
theorem pN {sep a b:List Nat} (c j:Nat) (hj:sep[j]?=some c) (hf:∀ k,sep[k]?=some c->k=j) (hc:c∉a):∀ i,i < a.length->¬ sep <+: (a++sep++b).drop i:=by
 rintro i hi ⟨t,ht⟩
 have e1:((a++sep++b).drop i)[j]?=some c:=by rw [<-ht,A2 (An.mp hj).1];exact hj
 rw [List.getElem?_drop,Az] at e1
 by_cases g:i+j < a.length
 ·rw [A2 g] at e1
  exact hc (AZ e1)
 ·rw [List.getElem?_append_right (by omega)] at e1
  have hjl:=(An.mp hj).1
  rw [A2 (by omega)] at e1
  have:=hf _ e1
  omega
theorem va {sep a:List Nat} (c j:Nat) (hj:sep[j]?=some c) (hc:c∉a):∀ i,¬ sep <+: a.drop i:=by
 rintro i ⟨t,ht⟩
 have e1:(a.drop i)[j]?=some c:=by rw [<-ht,A2 (An.mp hj).1];exact hj
 rw [List.getElem?_drop] at e1
 exact hc (AZ e1)
theorem eD {sep:List Nat} (c j:Nat) (hj:sep[j]?=some c) (hf:∀ k,sep[k]?=some c->k=j):∀ ts:List (List Nat),ts≠[]->(∀ t∈ts,c∉t)->Txt.split (S (TK.jn sep ts)) (S sep)=ts.map S
 | [],h,_=>absurd rfl h
 | [t],_,ht=>lL (by rintro rfl;cases hj) (va c j hj (ht t AC))
 | t::u::r,_,ht=>by
  have ih:=eD c j hj hf (u::r) (by simp) (fun z hz=>ht z (Av _ hz))
  show Txt.split (S (t++(sep++TK.jn sep (u::r)))) (S sep)=S t::(u::r).map S
  rw [<-Az,nM (by rintro rfl;cases hj) (pN c j hj hf (ht t AC)),ih]
theorem hE (l p:List Nat):Txt.startswith (S l) (S p)=decide (p <+: l):=by
 unfold Txt.startswith
 rw [StrLaws.subAt_eq,ba,ba,Bc,AU,decide_eq_true_iff,decide_eq_true_iff,beq_iff_eq,List.prefix_iff_eq_take]
 show (0+p.length<=l.length/\(l.drop 0).take p.length=p)↔_
 rw [Bs]
 constructor
 ·rintro ⟨_,h⟩;exact h.symm
 ·intro h
  refine ⟨?_,h.symm⟩
  have:=congrArg List.length h
  rw [AH] at this
  omega
end L3
namespace L3
open PySem L2
def dg (n:Nat):List Nat:=(Nat.toDigits 10 n).map Char.toNat
theorem hG {n:Nat} (h:n < 10):dg n=[48+n]:=by
 unfold dg
 rw [Nat.toDigits_of_lt_base h]
 have:∀ d:Nat,d < 10->[Nat.digitChar d].map Char.toNat=[48+d]:=by decide
 exact this n h
theorem ko {n:Nat} (h:10<=n):dg n=dg (n / 10)++[48+n % 10]:=by
 have hm:n % 10 < 10:=Nat.mod_lt n (by decide)
 have t:Nat.toDigits 10 (n / 10)++Nat.toDigits 10 (n % 10)=Nat.toDigits 10 (10*(n / 10)+n % 10):=Nat.toDigits_append_toDigits (by decide) (by omega) hm
 rw [Nat.div_add_mod] at t
 rw [<-hG hm]
 unfold dg
 rw [<-t,AE]
theorem lM (n:Nat):∀ c∈dg n,48<=c/\c<=57:=by
 induction n using Nat.strongRecOn with
 | _ n ih=>
  by_cases h:n < 10
  ·rw [hG h]
   intro c hc
   rw [AK.mp hc]
   omega
  ·rw [ko (by omega)]
   intro c hc
   rcases AQ.mp hc with hc|hc
   ·exact ih (n / 10) (by omega) c hc
   ·rw [AK.mp hc]
    omega
theorem lN (n:Nat):1<=(dg n).length/\∀ k,1<=k->n < 10 ^ k->(dg n).length<=k:=by
 induction n using Nat.strongRecOn with
 | _ n ih=>
  by_cases h:n < 10
  ·rw [hG h]
   exact ⟨by simp,fun k hk _=>by simpa using hk⟩
  ·rw [ko (by omega)]
   obtain ⟨a,b⟩:=ih (n / 10) (by omega)
   refine ⟨by rw [Ah];simp,fun k hk hn=>?_⟩
   rw [Ah]
   have hk2:2<=k:=by
    rcases (by omega:k=1\/2<=k) with rfl|z
    ·simp at hn
     omega
    ·exact z
   have:=b (k - 1) (by omega) (by
    have e:10 ^ k=10 ^ (k - 1)*10:=by rw [<-Nat.pow_succ];congr 1;omega
    rw [e] at hn
    exact Nat.div_lt_of_lt_mul (by rw [Nat.mul_comm];exact hn))
   simp
   omega
theorem rY (n:Nat) (h1:1<=n):(dg n)[0]?≠some 48:=by
 induction n using Nat.strongRecOn with
 | _ n ih=>
  by_cases h:n < 10
  ·rw [hG h]
   simp
   omega
  ·rw [ko (by omega)]
   have hl:=(lN (n / 10)).1
   rw [A2 (by omega)]
   exact ih (n / 10) (by omega) (by omega)
theorem bw (n:Nat):(toString (n:Int):Str)=S (dg n):=by
 have:=PySem.W.KIN.signs_num n
 have e:=jv (toString (n:Int):Str)
 rw [e]
 congr 1
def vb:List Nat:=(List.range 10).map (48+·)
def rZ:Str:="0123456789"
theorem xi:rZ=S vb:=by decide +kernel
theorem r8 (c:Nat) (h:48<=c/\c<=57):c∈vb:=AV.mpr ⟨c - 48,Bz.mpr (by omega),by omega⟩
section
variable {X:Cx}
theorem kq:cu X (.type "int") (fun xs H Q=>∃ n:Nat,xs=[.str (toString (n:Int):Str)]/\n < 1000000000/\Q (.int n) H):=by
 intro pins s σ H xs us Q I r h
 obtain ⟨n,rfl,hn,q⟩:=h
 obtain ⟨u,rfl,rx⟩:=fh r
 obtain ⟨t,rfl⟩:=rx
 exact PySem.W.KIN.call_num (by omega) (by omega) ⟨.int n,H,I.tok _,⟨_,rfl⟩,q⟩
end
def cp (z:Str):List Nat:=z.cps.toList
theorem bo (z:Str):S (cp z)=z:=(jv z).symm
theorem fz (l:List Nat):cp (S l)=l:=rfl
theorem jx (sep:List Nat):∀ ts:List (List Nat),(TK.jn sep ts).length<=(ts.map List.length).sum+ts.length*sep.length
 | []=>by simp [TK.jn]
 | [t]=>by simp [TK.jn]
 | t::u::r=>by
  have ih:=jx sep (u::r)
  show (t++(sep++TK.jn sep (u::r))).length<=_
  rw [Ah,Ah]
  simp only [AA,BF,Ai] at ih ⊢
  have:(r.length+1+1)*sep.length=(r.length+1)*sep.length+sep.length:=by rw [Nat.add_mul (r.length+1) 1,Nat.one_mul]
  omega
theorem fc (k:Nat):∀ ts:List (List Nat),(∀ t∈ts,t.length<=k)->(ts.map List.length).sum<=ts.length*k
 | [],_=>by simp
 | t::r,h=>by
  have ih:=fc k r (fun t ht=>h t (Av _ ht))
  have:=h t AC
  simp only [AA,BF,Ai]
  have:(r.length+1)*k=r.length*k+k:=by rw [Nat.add_mul,Nat.one_mul]
  omega
end L3
namespace L2
open PySem PySem.Spec PyProof.Rows
section
variable {X:Cx}
theorem jy (a:Str):Str.empty++a=a:=by
 show (⟨(#[]:Array Nat)++a.cps⟩:Str)=a
 simp
theorem cM {a:Str} {e:Expr} {te:TE} {j:Nat} {p1 p2 p3:Pos} (he:PE X e te) (ha:a.length<=sizeLine:=by decide +kernel):PE X (.JoinedStr [.Constant (.str a) j p1,.FormattedValue e (-1) none p2] p3)
  (fun σ H Q=>te σ H fun x H1=>∃ i:Int,x=.int i/\i.natAbs.log2 < 1920/\(a++(toString i:Str)).length<=sizeLine/\Q (.str (a++(toString i:Str))) H1):=by
 refine ⟨?_⟩
 intro pins s σ H Q I h
 refine JoinedStr_many (joinParts_cons (Calls.Constant_str ?_))
 dsimp only
 rw [jy]
 refine ⟨ha,joinParts_cons (FormattedValue_plain (bA (he pins _ σ H _ (I.tok _) h) fun u s1 ⟨x,H1,I1,r1,i,ex,hi,hz,q⟩=>?_))⟩
 subst ex
 obtain ⟨t,rfl⟩:=r1
 refine formatField_int_small hi ?_
 exact ⟨hz,joinParts_nil ⟨.str _,H1,I1.tok _,⟨_,rfl⟩,q⟩ hz⟩
abbrev TJ:=Str->St->Hp->(Str->Hp->Prop)->Prop
def PJ (X:Cx) (es:List Expr) (t:TJ):Prop:=∀ (pins:List (Addr×Obj)) (s:Shared) (σ:St) (H:Hp) (acc:Str) (Q:VK),Inv X pins σ H s->t acc σ H (fun z H1=>z.length<=sizeLine/\Q (.str z) H1)->
 wpAny (model X.prog X.w) X.A (joinParts acc (evalEach es X.env)) (EP X pins σ Q) X.xe s
theorem cA:PJ X [] (fun acc _ H Q=>Q acc H):=by
 intro pins s σ H acc Q I h
 obtain ⟨hz,q⟩:=h
 exact joinParts_nilE (joinParts_nil ⟨.str _,H,I.tok _,⟨_,rfl⟩,q⟩ hz)
theorem bt {a:Str} {j:Nat} {p:Pos} {es:List Expr} {t:TJ} (h:PJ X es t) (ha:a.length<=sizeLine:=by decide +kernel):PJ X (.Constant (.str a) j p::es) (fun acc σ H Q=>(acc++a).length<=sizeLine/\t (acc++a) σ H Q):=by
 intro pins s σ H acc Q I hh
 obtain ⟨hz,q⟩:=hh
 refine joinParts_consE (joinParts_cons (Calls.Constant_str ?_))
 dsimp only
 exact ⟨hz,h pins _ σ H _ Q (I.tok _) q⟩
theorem bh {e:Expr} {te:TE} {p:Pos} {es:List Expr} {t:TJ} (he:PE X e te) (h:PJ X es t):PJ X (.FormattedValue e (-1) none p::es)
  (fun acc σ H Q=>te σ H fun x H1=>(∃ i:Int,x=.int i/\i.natAbs.log2 < 1920/\(acc++(toString i:Str)).length<=sizeLine/\t (acc++(toString i:Str)) σ H1 Q)\/(∃ z:Str,x=.str z/\z.length<=sizeLine/\(acc++z).length<=sizeLine/\t (acc++z) σ H1 Q)):=by
 intro pins s σ H acc Q I hh
 refine joinParts_consE (joinParts_cons (FormattedValue_plain (bA (he pins _ σ H _ I hh) fun u s1 ⟨x,H1,I1,r1,hx⟩=>?_)))
 rcases hx with ⟨i,rfl,hi,hz,q⟩|⟨z,rfl,hi,hz,q⟩
 ·obtain ⟨t',rfl⟩:=r1
  refine formatField_int_small hi ?_
  exact ⟨hz,h pins _ σ H1 _ Q (I1.tok _) q⟩
 ·obtain ⟨t',rfl⟩:=r1
  refine formatField_str (fun t2 tk=>?_) hi
  exact ⟨hz,h pins _ σ H1 _ Q (I1.tok _) q⟩
theorem bY {v1 v2:Expr} {es:List Expr} {t:TJ} {p:Pos} (h:PJ X (v1::v2::es) t):PE X (.JoinedStr (v1::v2::es) p) (fun σ H Q=>t Str.empty σ H fun z H1=>z.length<=sizeLine/\Q (.str z) H1):=by
 refine ⟨?_⟩
 intro pins s σ H Q I hh
 exact JoinedStr_many (h pins s σ H Str.empty Q I hh)
end
end L2
namespace L3
open PySem L2
def eI (l:List Nat):Nat:=l.foldl (fun n c=>n*10+(c - 48)) 0
def di (c:Nat):Bool:=decide (48<=c) && decide (c<=57)
def fA (l:List Nat):Bool:=decide (1<=l.length) && (decide (l.length<=9) && (l.all di && !(decide (l[0]?=some 48) && decide (1 < l.length))))
def cP (l:List Nat):Th:=if fA l then .int (eI l:Nat) else .non
theorem iS (l:List Nat) (c:Nat):eI (l++[c])=eI l*10+(c - 48):=by
 unfold eI;rw [List.foldl_append];rfl
theorem r9 (n:Nat):eI (dg n)=n:=by
 induction n using Nat.strongRecOn with
 | _ n ih=>
  by_cases h:n < 10
  ·rw [hG h]
   show 0*10+(48+n - 48)=n
   omega
  ·rw [ko (by omega),iS,ih (n / 10) (by omega)]
   omega
theorem sd:∀ (k:Nat) (l:List Nat),l.length=k+1->l.all di=true->(l[0]?≠some 48\/k=0)->dg (eI l)=l/\eI l < 10 ^ (k+1)/\(l[0]?≠some 48->1<=eI l):=by
 intro k
 induction k with
 | zero=>
  intro l hl ha _
  match l,hl with
  | [c],_=>
   have hc:48<=c/\c<=57:=by simpa [di] using ha
   have e:eI [c]=c - 48:=by show 0*10+(c - 48)=_;omega
   rw [e,hG (by omega)]
   refine ⟨by congr 1;omega,by omega,fun h=>?_⟩
   have:c≠48:=fun z=>h (by rw [z];rfl)
   omega
 | succ k ih=>
  intro l hl ha h0
  have hne:l≠[]:=by rintro rfl;cases hl
  obtain ⟨r,c,rfl⟩:∃ r c,l=r++[c]:=⟨l.dropLast,l.getLast hne,(List.dropLast_concat_getLast hne).symm⟩
  rw [Ah] at hl
  have hl':r.length=k+1:=by simpa using hl
  rw [List.all_append,AU] at ha
  have hc:48<=c/\c<=57:=by simpa [di] using ha.2
  have e0:(r++[c])[0]?=r[0]?:=A2 (by omega)
  rw [e0] at h0 ⊢
  have h0':r[0]?≠some 48:=by rcases h0 with h|h;exact h;omega
  obtain ⟨a,b,d⟩:=ih r hl' ha.1 (.inl h0')
  have d1:=d h0'
  rw [iS]
  have p:10 ^ (k+1+1)=10 ^ (k+1)*10:=rfl
  refine ⟨?_,by omega,fun _=>by omega⟩
  rw [ko (by omega),show (eI r*10+(c - 48)) / 10=eI r from by omega,a,show (eI r*10+(c - 48)) % 10=c - 48 from by omega]
  congr 2
  omega
theorem se {l:List Nat} (h:fA l=true):l=dg (eI l)/\eI l < 1000000000:=by
 unfold fA at h
 rw [AU,AU,AU,decide_eq_true_iff,decide_eq_true_iff,Bool.not_eq_true',Bool.and_eq_false_iff,decide_eq_false_iff_not,decide_eq_false_iff_not] at h
 obtain ⟨h1,h2,h3,h4⟩:=h
 obtain ⟨a,b,_⟩:=sd (l.length - 1) l (by omega) h3 (by rcases h4 with h|h;exact .inl h;exact .inr (by omega))
 refine ⟨a.symm,Ax b ?_⟩
 rw [show (1000000000:Nat)=10 ^ 9 from rfl]
 exact Nat.pow_le_pow_right (by decide) (by omega)
theorem sf {n:Nat} (h:n < 1000000000):fA (dg n)=true:=by
 obtain ⟨l1,l9⟩:=lN n
 have l9:=l9 9 (by decide) (by omega)
 unfold fA
 rw [decide_eq_true l1,decide_eq_true l9,Bm.mpr (fun c hc=>by have:=lM n c hc;show (decide (48<=c) && decide (c<=57))=true;rw [decide_eq_true this.1,decide_eq_true this.2];rfl)]
 by_cases hz:n=0
 ·subst hz;rw [hG (by decide)];rfl
 ·rw [decide_eq_false (rY n (by omega))];rfl
theorem fB {n:Nat} (h:n < 1000000000):cP (dg n)=.int n:=by
 unfold cP
 rw [sf h,r9]
 rfl
def mz (c:Nat) (x:Str):Bool:=(cp x).head? == some c
def cr (c:Nat) (x:Str):Th:=if mz c x then cP ((cp x).drop 1) else .non
def fX (c:Nat) (x:Str):Th:=if mz 102 x then .tup [.str "by",cr 102 x] else .tup [.str "is",cr c x]
def dC (x:Str):Th:=if mz 114 x then .tup [.str "in",cr 114 x] else if mz 102 x then .tup [.str "field",cr 102 x] else .tup [.str "number",cP (cp x)]
def bi:List Str->Th
 | [h,a,b,c,d]=>if h="two" then .tup [.str h,cr 114 a,.str b,dC c,dC d] else .non
 | [h,a,b]=>if h="get" then .tup [.str h,cr 114 a,fX 112 b] else if h="ask" then .tup [.str h,cr 114 a,fX 109 b] else if h="cell" then .tup [.str h,cr 114 a,dC b]
   else if h="put" then .tup [.str h,fX 112 a,dC b] else if h="tell" then .tup [.str h,fX 109 a,dC b] else .tup [.str h,dC a,dC b]
 | _=>.non
def dj:List Str->Th
 | [h,a]=>if h="go"\/h="call" then .tup [.str h,cr 102 a] else .tup [.str h,.str a]
 | ws=>.tup (ws.map .str)
def fC:List Str->Th
 | [h,a]=>if h="on" then .tup [.str h,cP (cp a)] else .tup [.str h,dj [a]]
 | [h,a,b,c]=>if h="some"\/h="top" then .tup [.str h,cr 114 a,cP (cp b),cP (cp c)] else .tup [.str h,dj [a,b,c]]
 | h::r=>.tup [.str h,dj r]
 | []=>.non
def dJ (x:Str):Th:=if decide ([58,32] <+: cp x) then .tup [.tup [],fC (Txt.split (S ((cp x).drop 2)) (S [32]))]
 else .tup [.tup ((Txt.split (cK x (S [32,58,32])).1 (S [32,44,32])).map fun z=>bi (Txt.split z (S [32]))),fC (Txt.split (cK x (S [32,58,32])).2.2 (S [32]))]
def bH (k:Str):Nat:=if k="get"\/k="put" then 112 else if k="ask"\/k="tell" then 109 else 114
def pre (l:Nat) (k:Str):List Nat:=if k="is" then [l] else if k="by"\/k="field" then [102] else if k="in" then [114] else []
def be (l:Nat):Th->List Nat
 | .int i=>114::dg i.toNat
 | .str o=>cp o
 | .tup [.str k,.int i]=>pre l k++dg i.toNat
 | _=>[]
def pO:Th->List (List Nat)
 | .tup (.str k::ps)=>cp k::ps.map (be (bH k))
 | _=>[]
def hI:Th->List (List Nat)
 | .tup [.str e,.int i]=>[cp e,102::dg i.toNat]
 | .tup [.str e,.str z]=>[cp e,cp z]
 | .tup [.str e]=>[cp e]
 | _=>[]
def dI:Th->List (List Nat)
 | .tup [.str k,.int i,.int a,.int b]=>[cp k,114::dg i.toNat,dg a.toNat,dg b.toNat]
 | .tup [.str k,.int a]=>[cp k,dg a.toNat]
 | .tup [.str k,e]=>cp k::hI e
 | _=>[]
def cD (t:Th):List Nat:=TK.jn [32] (pO t)
def gr:Th->List Nat
 | .tup [.tup ss,on]=>(if ss=[] then [58,32] else TK.jn [32,44,32] (ss.map cD)++[32,58,32])++TK.jn [32] (dI on)
 | _=>[]
def vc (c:Nat):Bool:=c != 32 && c != 44 && c != 58 && c != 10
def kJ (l:List Nat):Bool:=l.all vc
theorem cb (n:Nat):kJ (dg n)=true:=Bm.mpr fun c hc=>by
 have:=lM n c hc
 unfold vc
 simp only [bne_iff_ne,AU]
 omega
theorem bS {c:Nat} {l:List Nat} (hc:vc c=true) (h:kJ l=true):kJ (c::l)=true:=by
 unfold kJ at *
 rw [List.all_cons,hc,h];rfl
theorem vd:∀ o∈opsL,kJ (cp o)=true:=by decide +kernel
theorem sg:∀ o∈nK,kJ (cp o)=true:=by decide +kernel
theorem cm {c n:Nat} (h:n < 1000000000):cr c (S (c::dg n))=.int n:=by
 unfold cr mz
 show (if (((c::dg n).head? == some c)=true) then cP ((c::dg n).drop 1) else .non)=_
 rw [if_pos (by simp)]
 exact fB h
theorem jz (c:Nat) (l:List Nat):mz c (S (c::l))=true:=by
 show ((c::l).head? == some c)=true
 simp
theorem pP {c d:Nat} (l:List Nat) (h:d≠c):mz c (S (d::l))=false:=by
 show ((d::l).head? == some c)=false
 simpa using h
theorem ue {c:Nat} (n:Nat) (h:57 < c):mz c (S (dg n))=false:=by
 show ((dg n).head? == some c)=false
 rw [beq_eq_false_iff_ne]
 intro e
 have:=lM n c (List.mem_of_mem_head? e)
 omega
theorem fY (l:Nat):pre l "is"=[l]:=by unfold pre;rw [if_pos rfl]
theorem fZ (l:Nat):pre l "by"=[102]:=by unfold pre;rw [if_neg (by decide +kernel),if_pos (.inl rfl)]
theorem dD (l:Nat):pre l "field"=[102]:=by unfold pre;rw [if_neg (by decide +kernel),if_pos (.inr rfl)]
theorem fe (l:Nat):pre l "in"=[114]:=by unfold pre;rw [if_neg (by decide +kernel),if_neg (by decide +kernel),if_pos rfl]
theorem dE (l:Nat):pre l "number"=[]:=by unfold pre;rw [if_neg (by decide +kernel),if_neg (by decide +kernel),if_neg (by decide +kernel)]
theorem SelT.rd {l:Nat} {t:Th} (hl:l≠102) (hc:vc l=true) (h:SelT t):fX l (S (be l t))=t/\kJ (be l t)=true:=by
 cases h with
 | is i hi=>
  have e:be l (.tup [.str "is",.int (i:Nat)])=l::dg i:=by show pre l "is"++dg i=_;rw [fY];rfl
  rw [e]
  unfold fX
  rw [pP _ hl,cm (by omega)]
  exact ⟨rfl,bS hc (cb _)⟩
 | «by» i hi=>
  have e:be l (.tup [.str "by",.int (i:Nat)])=102::dg i:=by show pre l "by"++dg i=_;rw [fZ];rfl
  rw [e]
  unfold fX
  rw [jz,cm (by omega)]
  exact ⟨rfl,bS (by decide) (cb _)⟩
theorem SrcT.rd {l:Nat} {t:Th} (h:SrcT t):dC (S (be l t))=t/\kJ (be l t)=true:=by
 cases h with
 | fld i hi=>
  have e:be l (.tup [.str "field",.int (i:Nat)])=102::dg i:=by show pre l "field"++dg i=_;rw [dD];rfl
  rw [e]
  unfold dC
  rw [pP _ (by decide),jz,cm (by omega)]
  exact ⟨rfl,bS (by decide) (cb _)⟩
 | num i hi=>
  have e:be l (.tup [.str "number",.int (i:Nat)])=dg i:=by show pre l "number"++dg i=_;rw [dE];rfl
  rw [e]
  unfold dC
  rw [ue _ (by decide),ue _ (by decide),fz,fB (by omega)]
  exact ⟨rfl,cb _⟩
 | inn i hi=>
  have e:be l (.tup [.str "in",.int (i:Nat)])=114::dg i:=by show pre l "in"++dg i=_;rw [fe];rfl
  rw [e]
  unfold dC
  rw [jz,cm (by omega)]
  exact ⟨rfl,bS (by decide) (cb _)⟩
theorem jA:bH "get"=112:=by decide +kernel
theorem jB:bH "put"=112:=by decide +kernel
theorem jC:bH "ask"=109:=by decide +kernel
theorem hJ:bH "tell"=109:=by decide +kernel
theorem aE {x:List Nat} {r:List (List Nat)} (h1:kJ x=true) (h2:∀ z∈r,kJ z=true):∀ z∈x::r,kJ z=true:=by
 intro z hz
 rcases AG.mp hz with rfl|hz
 ·exact h1
 ·exact h2 z hz
theorem bJ:∀ z∈([]:List (List Nat)),kJ z=true:=fun z hz=>by cases hz
theorem StpT.rd {t:Th} (h:StpT t):bi ((pO t).map S)=t/\(∀ z∈pO t,kJ z=true)/\∃ c r q,pO t=(c::r)::q/\c≠58/\c≠45:=by
 cases h with
 | @get k s hk hs=>
  have e:pO (.tup [.str "get",.int (k:Nat),s])=[cp "get",114::dg k,be 112 s]:=by show [cp "get",114::dg k,be (bH "get") s]=_;rw [jA]
  obtain ⟨a,b⟩:=hs.rd (l:=112) (by decide) (by decide)
  rw [e]
  refine ⟨?_,aE (by decide +kernel) (aE (bS (by decide) (cb _)) (aE b bJ)),_,_,_,rfl,by decide +kernel,by decide +kernel⟩
  show bi [S (cp "get"),S (114::dg k),S (be 112 s)]=_
  rw [bo]
  unfold bi
  dsimp only
  rw [if_pos rfl,cm (by omega),a]
 | @ask k s hk hs=>
  have e:pO (.tup [.str "ask",.int (k:Nat),s])=[cp "ask",114::dg k,be 109 s]:=by show [cp "ask",114::dg k,be (bH "ask") s]=_;rw [jC]
  obtain ⟨a,b⟩:=hs.rd (l:=109) (by decide) (by decide)
  rw [e]
  refine ⟨?_,aE (by decide +kernel) (aE (bS (by decide) (cb _)) (aE b bJ)),_,_,_,rfl,by decide +kernel,by decide +kernel⟩
  show bi [S (cp "ask"),S (114::dg k),S (be 109 s)]=_
  rw [bo]
  unfold bi
  dsimp only
  rw [if_neg (by decide +kernel),if_pos rfl,cm (by omega),a]
 | @cell k s hk hs=>
  obtain ⟨a,b⟩:=hs.rd (l:=bH "cell")
  have e:pO (.tup [.str "cell",.int (k:Nat),s])=[cp "cell",114::dg k,be (bH "cell") s]:=rfl
  rw [e]
  refine ⟨?_,aE (by decide +kernel) (aE (bS (by decide) (cb _)) (aE b bJ)),_,_,_,rfl,by decide +kernel,by decide +kernel⟩
  show bi [S (cp "cell"),S (114::dg k),S (be (bH "cell") s)]=_
  rw [bo]
  unfold bi
  dsimp only
  rw [if_neg (by decide +kernel),if_neg (by decide +kernel),if_pos rfl,cm (by omega),a]
 | @two k o x y hk ho hx hy=>
  obtain ⟨a,b⟩:=hx.rd (l:=bH "two")
  obtain ⟨c,d⟩:=hy.rd (l:=bH "two")
  have e:pO (.tup [.str "two",.int (k:Nat),.str o,x,y])=[cp "two",114::dg k,cp o,be (bH "two") x,be (bH "two") y]:=rfl
  rw [e]
  refine ⟨?_,aE (by decide +kernel) (aE (bS (by decide) (cb _)) (aE (vd o ho) (aE b (aE d bJ)))),_,_,_,rfl,by decide +kernel,by decide +kernel⟩
  show bi [S (cp "two"),S (114::dg k),S (cp o),S (be (bH "two") x),S (be (bH "two") y)]=_
  rw [bo,bo]
  unfold bi
  dsimp only
  rw [if_pos rfl,cm (by omega),a,c]
 | @put s x hs hx=>
  have e:pO (.tup [.str "put",s,x])=[cp "put",be 112 s,be 112 x]:=by show [cp "put",be (bH "put") s,be (bH "put") x]=_;rw [jB]
  obtain ⟨a,b⟩:=hs.rd (l:=112) (by decide) (by decide)
  obtain ⟨c,d⟩:=hx.rd (l:=112)
  rw [e]
  refine ⟨?_,aE (by decide +kernel) (aE b (aE d bJ)),_,_,_,rfl,by decide +kernel,by decide +kernel⟩
  show bi [S (cp "put"),S (be 112 s),S (be 112 x)]=_
  rw [bo]
  unfold bi
  dsimp only
  rw [if_neg (by decide +kernel),if_neg (by decide +kernel),if_neg (by decide +kernel),if_pos rfl,a,c]
 | @tell s x hs hx=>
  have e:pO (.tup [.str "tell",s,x])=[cp "tell",be 109 s,be 109 x]:=by show [cp "tell",be (bH "tell") s,be (bH "tell") x]=_;rw [hJ]
  obtain ⟨a,b⟩:=hs.rd (l:=109) (by decide) (by decide)
  obtain ⟨c,d⟩:=hx.rd (l:=109)
  rw [e]
  refine ⟨?_,aE (by decide +kernel) (aE b (aE d bJ)),_,_,_,rfl,by decide +kernel,by decide +kernel⟩
  show bi [S (cp "tell"),S (be 109 s),S (be 109 x)]=_
  rw [bo]
  unfold bi
  dsimp only
  rw [if_neg (by decide +kernel),if_neg (by decide +kernel),if_neg (by decide +kernel),if_neg (by decide +kernel),if_pos rfl,a,c]
 | @store x y hx hy=>
  obtain ⟨a,b⟩:=hx.rd (l:=bH "store")
  obtain ⟨c,d⟩:=hy.rd (l:=bH "store")
  have e:pO (.tup [.str "store",x,y])=[cp "store",be (bH "store") x,be (bH "store") y]:=rfl
  rw [e]
  refine ⟨?_,aE (by decide +kernel) (aE b (aE d bJ)),_,_,_,rfl,by decide +kernel,by decide +kernel⟩
  show bi [S (cp "store"),S (be (bH "store") x),S (be (bH "store") y)]=_
  rw [bo]
  unfold bi
  dsimp only
  rw [if_neg (by decide +kernel),if_neg (by decide +kernel),if_neg (by decide +kernel),if_neg (by decide +kernel),if_neg (by decide +kernel),a,c]
theorem OnT.rd {t:Th} (h:OnT t):fC ((dI t).map S)=t/\(∀ z∈dI t,kJ z=true)/\dI t≠[]:=by
 cases h with
 | two z i a b hz hi ha hb=>
  have e:dI (.tup [.str z,.int (i:Nat),.int (a:Nat),.int (b:Nat)])=[cp z,114::dg i,dg a,dg b]:=rfl
  rw [e]
  refine ⟨?_,aE (by rcases hz with rfl|rfl<;>decide +kernel) (aE (bS (by decide) (cb _)) (aE (cb _) (aE (cb _) bJ))),by simp⟩
  show fC [S (cp z),S (114::dg i),S (dg a),S (dg b)]=_
  rw [bo]
  unfold fC
  dsimp only
  rw [if_pos hz,cm (by omega),fz,fz,fB (by omega),fB (by omega)]
 | on a ha=>
  have e:dI (.tup [.str "on",.int (a:Nat)])=[cp "on",dg a]:=rfl
  rw [e]
  refine ⟨?_,aE (by decide +kernel) (aE (cb _) bJ),by simp⟩
  show fC [S (cp "on"),S (dg a)]=_
  rw [bo]
  unfold fC
  dsimp only
  rw [if_pos rfl,fz,fB (by omega)]
 | @done u he=>
  have nd:¬ (("done":Str)="on"):=by decide +kernel
  cases he with
  | next=>
   have e:dI (.tup [.str "done",.tup [.str "next"]])=[cp "done",cp "next"]:=rfl
   rw [e]
   refine ⟨?_,aE (by decide +kernel) (aE (by decide +kernel) bJ),by simp⟩
   show fC [S (cp "done"),S (cp "next")]=_
   rw [bo,bo]
   unfold fC
   dsimp only
   rw [if_neg nd]
   rfl
  | back=>
   have e:dI (.tup [.str "done",.tup [.str "back"]])=[cp "done",cp "back"]:=rfl
   rw [e]
   refine ⟨?_,aE (by decide +kernel) (aE (by decide +kernel) bJ),by simp⟩
   show fC [S (cp "done"),S (cp "back")]=_
   rw [bo,bo]
   unfold fC
   dsimp only
   rw [if_neg nd]
   rfl
  | stop=>
   have e:dI (.tup [.str "done",.tup [.str "stop"]])=[cp "done",cp "stop"]:=rfl
   rw [e]
   refine ⟨?_,aE (by decide +kernel) (aE (by decide +kernel) bJ),by simp⟩
   show fC [S (cp "done"),S (cp "stop")]=_
   rw [bo,bo]
   unfold fC
   dsimp only
   rw [if_neg nd]
   rfl
  | go i hi=>
   have e:dI (.tup [.str "done",.tup [.str "go",.int (i:Nat)]])=[cp "done",cp "go",102::dg i]:=rfl
   rw [e]
   refine ⟨?_,aE (by decide +kernel) (aE (by decide +kernel) (aE (bS (by decide) (cb _)) bJ)),by simp⟩
   show fC [S (cp "done"),S (cp "go"),S (102::dg i)]=_
   rw [bo,bo]
   show Th.tup [.str "done",dj ["go",S (102::dg i)]]=_
   unfold dj
   dsimp only
   rw [if_pos (.inl rfl),cm (by omega)]
  | call i hi=>
   have e:dI (.tup [.str "done",.tup [.str "call",.int (i:Nat)]])=[cp "done",cp "call",102::dg i]:=rfl
   rw [e]
   refine ⟨?_,aE (by decide +kernel) (aE (by decide +kernel) (aE (bS (by decide) (cb _)) bJ)),by simp⟩
   show fC [S (cp "done"),S (cp "call"),S (102::dg i)]=_
   rw [bo,bo]
   show Th.tup [.str "done",dj ["call",S (102::dg i)]]=_
   unfold dj
   dsimp only
   rw [if_pos (.inr rfl),cm (by omega)]
  | fault z hz=>
   have e:dI (.tup [.str "done",.tup [.str "fault",.str z]])=[cp "done",cp "fault",cp z]:=rfl
   rw [e]
   refine ⟨?_,aE (by decide +kernel) (aE (by decide +kernel) (aE (sg z hz) bJ)),by simp⟩
   show fC [S (cp "done"),S (cp "fault"),S (cp z)]=_
   rw [bo,bo,bo]
   show Th.tup [.str "done",dj ["fault",z]]=_
   unfold dj
   dsimp only
   rw [if_neg (by decide +kernel)]
structure LitT (t:Th):Prop where
 ex:∃ ss on,t=.tup [.tup ss,on]/\(∀ s∈ss,StpT s)/\OnT on/\ss.length<=16
theorem kr {c:Nat} {sep:List Nat} (hs:c∉sep):∀ {ts:List (List Nat)},(∀ t∈ts,c∉t)->c∉TK.jn sep ts
 | [],_,h=>by cases h
 | [t],ht,h=>ht t AC h
 | t::u::r,ht,h=>by
  have h':c∈t++(sep++TK.jn sep (u::r)):=h
  rcases AQ.mp h' with h|h
  ·exact ht t AC h
  ·rcases AQ.mp h with h|h
   ·exact hs h
   ·exact kr hs (fun z hz=>ht z (Av _ hz)) h
theorem lO {l:List Nat} {c:Nat} (h:kJ l=true) (hc:vc c=false):c∉l:=fun hm=>by
 have:=Bm.mp h c hm
 rw [hc] at this
 cases this
theorem gl {ws:List (List Nat)} (h0:ws≠[]) (h:∀ z∈ws,kJ z=true):Txt.split (S (TK.jn [32] ws)) (S [32])=ws.map S:=
 eD (sep:=[32]) 32 0 rfl (fun k hk=>by
  match k with
  | 0=>rfl
  | k+1=>cases hk) ws h0 fun t ht=>lO (h t ht) (by decide)
theorem lP {t:Th} (h:StpT t) {c:Nat} (hc:vc c=false) (h32:c≠32):c∉cD t:=kr (by simpa using h32) fun z hz=>lO (h.rd.2.1 z hz) hc
theorem ve {t:Th} (h:OnT t) {c:Nat} (hc:vc c=false) (h32:c≠32):c∉TK.jn [32] (dI t):=kr (by simpa using h32) fun z hz=>lO (h.rd.2.1 z hz) hc
theorem vf {t:Th} (h:StpT t):bi (Txt.split (S (cD t)) (S [32]))=t:=by
 obtain ⟨a,b,c,r,q,e,_⟩:=h.rd
 unfold cD
 rw [gl (by rw [e];simp) b,a]
theorem pQ {t:Th} (h:OnT t):fC (Txt.split (S (TK.jn [32] (dI t))) (S [32]))=t:=by
 obtain ⟨a,b,c⟩:=h.rd
 rw [gl c b,a]
theorem lQ {t:Th} (h:StpT t):∃ c r,cD t=c::r/\c≠58/\c≠45:=by
 obtain ⟨_,_,c,r,q,e,n⟩:=h.rd
 unfold cD
 rw [e]
 cases q with
 | nil=>exact ⟨c,r,rfl,n⟩
 | cons u q=>exact ⟨c,_,rfl,n⟩
theorem pR {sep:List Nat} {c:Nat} {r:List Nat}:∀ {ts:List (List Nat)},∃ q,TK.jn sep ((c::r)::ts)=c::q
 | []=>⟨r,rfl⟩
 | u::ts=>⟨_,rfl⟩
theorem LitT.rd {t:Th} (h:LitT t):dJ (S (gr t))=t:=by
 obtain ⟨ss,on,rfl,hs,ho,hl⟩:=h.ex
 cases ss with
 | nil=>
  have e:gr (.tup [.tup [],on])=58::32::TK.jn [32] (dI on):=rfl
  rw [e]
  unfold dJ
  rw [fz,if_pos (by rw [decide_eq_true_iff];exact ⟨_,rfl⟩)]
  show Th.tup [.tup [],fC (Txt.split (S (TK.jn [32] (dI on))) (S [32]))]=_
  rw [pQ ho]
 | cons s r=>
  have e:gr (.tup [.tup (s::r),on])=TK.jn [32,44,32] ((s::r).map cD)++[32,58,32]++TK.jn [32] (dI on):=by
   show (if s::r=[] then [58,32] else TK.jn [32,44,32] ((s::r).map cD)++[32,58,32])++TK.jn [32] (dI on)=_
   rw [if_neg (by simp)]
  have n58:58∉TK.jn [32,44,32] ((s::r).map cD):=kr (by decide) fun z hz=>by
   obtain ⟨x,hx,rfl⟩:=AV.mp hz
   exact lP (hs x hx) (by decide) (by decide)
  rw [e]
  unfold dJ
  rw [fz,if_neg ?a,pM (by simp) (pN 58 1 rfl ?b n58)]
  case a=>
   rw [decide_eq_true_iff]
   obtain ⟨c,q,ec,n,_⟩:=lQ (hs s AC)
   rw [AA,ec]
   obtain ⟨q2,e2⟩:=pR (sep:=[32,44,32]) (c:=c) (r:=q) (ts:=r.map cD)
   rw [e2]
   rintro ⟨z,hz⟩
   exact n (Am hz).1.symm
  case b=>
   intro k hk
   match k with
   | 0=>cases hk
   | 1=>rfl
   | 2=>cases hk
   | k+3=>cases hk
  show Th.tup [.tup ((Txt.split (S (TK.jn [32,44,32] ((s::r).map cD))) (S [32,44,32])).map fun z=>bi (Txt.split z (S [32]))),fC (Txt.split (S (TK.jn [32] (dI on))) (S [32]))]=_
  rw [pQ ho,eD 44 1 rfl ?c _ (by simp) fun z hz=>by
   obtain ⟨x,hx,rfl⟩:=AV.mp hz
   exact lP (hs x hx) (by decide) (by decide)]
  case c=>
   intro k hk
   match k with
   | 0=>cases hk
   | 1=>rfl
   | 2=>cases hk
   | k+3=>cases hk
  rw [Bg,Bg]
  have:(s::r).map (((fun z=>bi (Txt.split z (S [32]))) ∘ S) ∘ cD)=(s::r).map id:=List.map_congr_left fun x hx=>vf (hs x hx)
  rw [this,List.map_id]
end L3
namespace L3
open PySem L2
def badL:List Str:=[""," -","- ","--",":",": ",": on",": on 400",": on 03","on 3",": done",": done bare","get r0 p0",": some r8 0 0","get r0 m0 : on 1","ask r0 p0 : on 1","get r0 p4 : on 1","put f3 1 : on 1","None"]
theorem hU:∀ z∈badL,bR (dJ z)=false/\z≠"-"/\(cp z).all (fun c=>c != 10)=true/\(cp z).length<=20:=by decide +kernel
end L3
namespace L2
open PySem PySem.Spec PyProof.Rows
section
variable {X:Cx}
theorem dk:uy X "str.startswith" (fun x xs H Q=>∃ a b,x=.str a/\xs=[.str b]/\Q (.bl (Txt.startswith a b)) H):=by
 intro pins s σ H x xs v us Q I rx rv h
 obtain ⟨a,b,rfl,rfl,q⟩:=h
 obtain ⟨t,rfl⟩:=rx
 obtain ⟨u,rfl,ru⟩:=rv.one
 obtain ⟨t2,rfl⟩:=ru
 exact SC.startswith ⟨.bl _,H,I,rfl,q⟩
theorem jD:uy X "str.partition" (fun x xs H Q=>∃ a b,x=.str a/\xs=[.str b]/\(b.length == 0)=false/\a.length<=100000/\∀ p,H p=none->Q (.ref p) (ax H p (.tup [.str (L3.cK a b).1,.str (L3.cK a b).2.1,.str (L3.cK a b).2.2]))):=by
 intro pins s σ H x xs v us Q I rx rv h
 obtain ⟨a,b,rfl,rfl,h0,hl,q⟩:=h
 obtain ⟨t,rfl⟩:=rx
 obtain ⟨u,rfl,ru⟩:=rv.one
 obtain ⟨t2,rfl⟩:=ru
 have sz:(100000:Nat)<=sizeLine:=by decide
 refine call_meets F.slot_str_partition (typeIs_str _ _ _) F.entry_str_partition (F.args_str_partition_2 _ _) (meets_str_partition a b t t2 h0 (by omega)) ?_
 have q':=q s.heap.objs.size (I.hok.fresh (Ao _))
 unfold L3.cK at q'
 have lay:∀ (its:List Value) (ys:List V) (tk:Nat),Vals ys its->ys.length<=sizeLine->Inv X pins σ (ax H s.heap.objs.size (.tup ys)) { s with toks:=tk,heap:=s.heap.push { cls:=.type "tuple",data:=.seq its.toArray } }:=fun its ys tk r hz=>
  I.laid (t':=tk) (fun b o e=>Al _ e) (Ao _) (show ObjOk X.prog X.w _ _ _ (.tup ys) from ⟨hz,its,r,TupP.new _ _⟩)
 revert q'
 cases Builtin.Str.occurrences a b 0 a.length 1 with
 | nil=>intro q';exact ⟨.ref s.heap.objs.size,_,lay _ [.str a,.str Str.empty,.str Str.empty] _ (.cons ⟨_,rfl⟩ (.cons ⟨_,rfl⟩ (.cons ⟨_,rfl⟩ .nil))) (by show 3<=sizeLine;decide),rfl,q'⟩
 | cons i r=>intro q';exact ⟨.ref s.heap.objs.size,_,lay _ [.str (Builtin.Str.strSub a 0 i),.str b,.str (Builtin.Str.strSub a (i+b.length) a.length)] _ (.cons ⟨_,rfl⟩ (.cons ⟨_,rfl⟩ (.cons ⟨_,rfl⟩ .nil))) (by show 3<=sizeLine;decide),rfl,q'⟩
theorem pS:uy X "str.join" (fun x xs H Q=>∃ sep a ts,x=.str (S sep)/\xs=[.ref a]/\SqT X.K H a (ts.map fun t=>V.str (S t))/\(ts.map List.length).sum+ts.length*sep.length<=100000/\Q (.str (S (TK.jn sep ts))) H):=by
 intro pins s σ H x xs v us Q I rx rv h
 obtain ⟨sep,a,ts,rfl,rfl,hS,hz,q⟩:=h
 obtain ⟨t,rfl⟩:=rx
 obtain ⟨u,rfl,ru⟩:=rv.one
 cases ru
 obtain ⟨its,r,pl,hz2⟩:=I.tuple hS
 have e:(ts.map fun t=>V.str (S t))=(ts.map S).map V.str:=by rw [Bg];rfl
 rw [e] at r
 refine join_tuple pl (ys:=ts.map S) (by simpa using dz r) ?_ fun t' k=>?_
 ·have:((ts.map S).map (·.length)).sum=(ts.map List.length).sum:=by
   rw [Bg]
   congr 1
  rw [this,Aj,ba]
  omega
 ·rw [j7]
  exact ⟨.str (S (TK.jn sep ts)),H,I.tok _,⟨t',rfl⟩,q⟩
theorem si {X:Cx} {K:PySem.W.Frag} {o e:Expr} {es:List Expr} {to:TE} {t:TA} {name:Str} {apos cpos:Pos} {T id:String} {r:V->List V->Hp->VK->Prop} (h:X.K=K) (pa:PlainAttrs T) (slot:Slot T name id) (hty:typeOf (.builtin id)=pure (.type "method_descriptor")) (hm:uy X id r) (ho:PE X o to) (ha:PA X (e::es) t)
  (hbase:attributeBase o name X.env (eval o X.env)=eval o X.env:=by rfl) (hfew:((backTo cpos (starEach (e::es) X.env)).all (fun x=>!x.1) && (backToKw cpos (keywordEach [] X.env)).all (fun x=>x.1.isSome) && decide ((e::es).length+([]:List Keyword).length+(if ([]:List Keyword).isEmpty then 0 else 1) < 30))=true:=by rfl)
  (hline:(apos.endLine == cpos.line)=true:=by rfl) (hs:starEach (e::es) X.env=(false,eval e X.env)::starEach es X.env:=by rfl) (hplain:(backTo cpos (starEach es X.env)).any (·.1)=false:=by rfl):PE X (.Call (.Attribute o name apos) (e::es) [] cpos) (yQ K T r to t):=by
 subst h
 exact bq pa slot hty hm ho ha hbase hfew hline hs hplain
end
end L2
namespace L3
open PySem L2
theorem vg (l:List Nat):hg (cP l)=true:=by unfold cP;split<;>rfl
theorem jE (c:Nat) (x:Str):hg (cr c x)=true:=by unfold cr;split;exact vg _;rfl
theorem jF (c:Nat) (x:Str):hg (fX c x)=true:=by unfold fX;split<;>rfl
theorem ff (x:Str):hg (dC x)=true:=by unfold dC;split;rfl;split<;>rfl
theorem mC:rQ .non:=⟨rfl,fun _=>rfl⟩
theorem pU (ws:List Str):rQ (bi ws):=by
 unfold bi
 split
 ·split
  ·exact xg rfl rfl (jE _ _) rfl (ff _) (ff _)
  ·exact mC
 ·split
  ·exact gq rfl rfl (jE _ _) (jF _ _)
  ·split
   ·exact gq rfl rfl (jE _ _) (jF _ _)
   ·split
    ·exact gq rfl rfl (jE _ _) (ff _)
    ·split
     ·exact gq rfl rfl (jF _ _) (ff _)
     ·split
      ·exact gq rfl rfl (jF _ _) (ff _)
      ·exact gq rfl rfl (ff _) (ff _)
 ·exact mC
theorem ku (l:List Nat):kl (cP l):=by unfold cP;split;exact ft _;exact ⟨rfl,rfl,fun z e=>by cases e⟩
theorem pV (c:Nat) (x:Str):kl (cr c x):=by unfold cr;split;exact ku _;exact ⟨rfl,rfl,fun z e=>by cases e⟩
theorem pW (l:List Nat) (z:Str):cP l≠.str z:=by unfold cP;split<;>(intro e;cases e)
theorem pX (c:Nat) (x z:Str):cr c x≠.str z:=by unfold cr;split;exact pW _ _;intro e;cases e
theorem hV {ws:List Str} (h:∀ z∈ws,(cp z).length<=1000):kl (dj ws):=by
 unfold dj
 split
 ·rename_i h0 a
  split
  ·exact ⟨rfl,rfl,fun z e=>absurd e (pX _ _ _)⟩
  ·exact ⟨rfl,rfl,fun z e=>by
    have e':Th.str a=.str z:=e
    cases e'
    exact h _ (by simp)⟩
 ·match ws with
  | []=>exact ⟨rfl,rfl,fun z e=>by cases e⟩
  | [x]=>exact ⟨rfl,rfl,fun z e=>by cases e⟩
  | x::y::r=>exact ⟨rfl,rfl,fun z e=>by
    have e':Th.str y=.str z:=e
    cases e'
    exact h _ (by simp)⟩
theorem pY {ws:List Str} (h:∀ z∈ws,(cp z).length<=1000):xb (fC ws):=by
 unfold fC
 split
 ·split
  ·exact ⟨rfl,ku _⟩
  ·exact ⟨rfl,hV fun z hz=>h z (Av _ hz)⟩
 ·split
  ·exact ⟨rfl,pV _ _⟩
  ·exact ⟨rfl,hV fun z hz=>h z (Av _ hz)⟩
 ·exact ⟨rfl,hV fun z hz=>h z (Av _ hz)⟩
 ·exact ⟨rfl,rfl,rfl,fun z e=>by cases e⟩
theorem mD {a:Nat}:∀ {l:List Nat},a∈l->a<=l.sum
 | b::l,h=>by
  rw [BF]
  rcases AG.mp h with rfl|h
  ·omega
  ·have:=mD h;omega
theorem cc (z:Str):(cp z).length=z.length:=by show z.cps.toList.length=z.cps.size;simp
theorem dl {x z:Str} {c:Nat} (h:z∈Txt.split x (S [c])):(cp z).length<=(cp x).length:=by
 have e:=StrLaws.join_split x (S [c])
 have p:=iJ c (Txt.split x (S [c]))
 have:(⟨#[c]⟩:Str)=S [c]:=rfl
 rw [this,e] at p
 have:=mD (List.mem_map_of_mem (f:=Str.length) h)
 rw [cc,cc]
 omega
theorem cN (x:Str) {sep:List Nat} (hs:sep≠[]):(Txt.split x (S sep)).length<=(cp x).length+2:=by
 rw [cy _ _ (fw hs),<-StrLaws.partsBetween_eq,PySem.length_partsBetween,cc]
 have:=StrLaws.occ_length_le_len x (S sep) 0 x.length (x.length+1)
 omega
theorem ky (x y:Str):(cp (cK x y).1).length<=(cp x).length/\(cp (cK x y).2.2).length<=(cp x).length:=by
 unfold cK
 rw [cc,cc,cc]
 split
 ·exact ⟨strSub_length_le _ _ _,strSub_length_le _ _ _⟩
 ·exact ⟨Ao _,Bi _⟩
theorem pZ {x:Str} (h:(cp x).length<=900):pH (dJ x):=by
 unfold dJ
 split
 ·rintro ss on e
  injection e with e
  injection e with e1 e2
  injection e1 with e1
  injection e2 with e2 _
  subst e1 e2
  refine ⟨fun s hs=>(nomatch hs),pY fun z hz=>?_,Bi _⟩
  have:=dl hz
  rw [fz,A0] at this
  omega
 ·rintro ss on e
  injection e with e
  injection e with e1 e2
  injection e1 with e1
  injection e2 with e2 _
  subst e1 e2
  obtain ⟨p1,p2⟩:=ky x (S [32,58,32])
  refine ⟨fun s hs=>?_,pY fun z hz=>?_,?_⟩
  ·obtain ⟨z,_,rfl⟩:=AV.mp hs
   exact pU _
  ·have:=dl hz
   omega
  ·rw [Aj]
   have:=cN (cK x (S [32,58,32])).1 (sep:=[32,44,32]) (by simp)
   omega
end L3
namespace L3
open PySem L2
theorem fE (c:Nat) (x:Str):Txt.startswith x (S [c])=mz c x:=by
 rw [<-bo x,hE]
 unfold mz
 rw [fz]
 cases cp x with
 | nil=>simp
 | cons d l=>
  rw [Bc,decide_eq_true_iff]
  show _↔((some d == some c)=true)
  rw [beq_iff_eq]
  constructor
  ·rintro ⟨t,h⟩;exact congrArg some (Am h).1.symm
  ·intro h;cases h;exact ⟨l,rfl⟩
theorem kz (l:List Nat) (k:Nat):fU l (some (k:Int)) none=l.drop k:=by
 unfold fU
 have e1:HT.sIx l.length 0 (some (k:Int))=min k l.length:=by
  show (if (k:Int) < 0 then ((k:Int)+(l.length:Int)).toNat else min (k:Int).toNat l.length)=_
  rw [if_neg (by omega)];rfl
 have e2:HT.sIx l.length l.length none=l.length:=rfl
 rw [e1,e2]
 by_cases h:k<=l.length
 ·rw [Bw h,Bo (by rw [A0];omega)]
 ·rw [Nat.min_eq_right (by omega),List.drop_eq_nil_of_le (Ao _),List.drop_eq_nil_of_le (by omega),List.take_nil]
theorem sj (c:Nat):decide (c∈vb)=di c:=by
 rw [Bc,decide_eq_true_iff]
 unfold di
 rw [AU,decide_eq_true_iff,decide_eq_true_iff]
 constructor
 ·intro h
  obtain ⟨k,hk,rfl⟩:=AV.mp h
  have:=Bz.mp hk
  omega
 ·exact r8 c
def dR (F:Str->Th):Sp:=fun vs H Q _=>∃ x,vs=[.str x]/\(cp x).length<=900/\∀ v H',Same H H'->(∀ p,TgV p H' v (F x))->Q v H'
def hW (F:Nat->Str->Th):Sp:=fun vs H Q _=>∃ c x,vs=[.str (S [c]),.str x]/\(cp x).length<=900/\∀ v H',Same H H'->(∀ p,TgV p H' v (F c x))->Q v H'
section
variable {P:Program} {w:World} {K:PySem.W.Frag} {mg:Str->Option Value} {base:Heap}
theorem sk:ap ["token"] ["token"] (al jp):=⟨rfl,rfl,rfl,by decide +kernel,rfl,by decide +kernel,by decide +kernel⟩
set_option maxHeartbeats 1000000 in
theorem p0 {f:Addr} {fd:FuncData} {tF tM:Tok} (F:Fun K "number_of" "number_of" jp f fd) (T:Bl mg) (hF:mg "FIGURES"=some (.str rZ tF)) (hM:mg "MOST_FIGURES"=some (.int 9 tM)):aG P w K mg base bu 1 f fd ["token"] (dR fun x=>cP (cp x)):=by
 refine F.ok sk (fun vs H Q E h=>?_) (fun cdv A outer s H vs Q E hr h=>?_)
 ·obtain ⟨x,rfl,_⟩:=h
  rfl
 ·obtain ⟨x,rfl,hx,q⟩:=h
  refine ⟨_,ak (aI (PW.pt (cR (c8 (ot iq iq ae (aH dw (by rfl) T.len AR (aa (pv 0) ac)) (bj (v:=.int 9) rfl hM ⟨_,rfl⟩)))
    (ce (c8 (a6 (aH (gN rfl) (by rfl) T.all fV (aa (dH (N':=["sign"]) (ix:=[none]) (sc0:=al jp) (N:=["token"]) rfl (by decide +kernel) (oU (pv 0))
     (fun C' cl s H fp=>a7 (i:=0) xc rfl (Or.inl rfl) (.inr rfl)) (fun _ _ _ _ _=>cz) (fun C' cl s H fp=>cg ir (pv 0) (bj (v:=.str rZ) rfl hF ⟨_,rfl⟩) rfl)) ac))))))) (af (ao cv)) aw)
   (ak (aI (PW.pt (eQ (av bc (aq uz (pv 0) ae (fun _ _=>rfl)) ah (ay _)) (dn (av om (aH dw (by rfl) T.len AR (aa (pv 0) ac)) ae (ay _))))) (af (ao cv)) aw)
   (af (ao (aZ kq (by rfl) T.int Bv (aa (pv 0) ac))))),?_⟩
  have ex:=bo x
  generalize cp x=l at *
  subst ex
  have sz:(100000:Nat)<=sizeLine:=by decide
  have non:∀ H',Same H H'->fA l=false->Q .non H':=fun H' s' e=>q _ H' s' fun p=>by
   show TgV p H' .non (cP l)
   unfold cP;rw [e];exact .non
  refine ⟨_,rfl,S l,rfl,(by rw [ba];omega),_,_,rfl,rfl,_,rfl,?_⟩
  rw [ba]
  by_cases c1:1<=l.length
  ·refine bg (decide_eq_true (by omega)) ⟨_,_,rfl,rfl,_,rfl,?_⟩
   by_cases c2:l.length<=9
   ·rw [decide_eq_true (show ((l.length:Nat):Int)<=9 by omega)]
    refine bp ⟨_,rfl,l,rfl,?_⟩
    refine oV (fun i ys H'=>ys=(l.take i).map (fun c=>V.bl (di c))/\Same H H') ⟨rfl,Same.refl _⟩ (fun i ys H' hi ⟨e,_⟩=>by rw [e,Aj,AH];omega) ?_ ?_
    ·rintro i ys H' hi ⟨rfl,s'⟩
     refine ⟨trivial,cw ?_⟩
     refine ⟨_,rfl,S [l[i]],_,rfl,rfl,?_⟩
     rw [xi,ml,sj]
     refine Nx.mk hi ⟨?_,s'⟩
     rw [<-List.take_append_getElem hi,AE]
     rfl
    ·rintro ys H' ⟨rfl,s'⟩ D hD
     have s2:=s'.trans (aj (o:=.lst ((l.take l.length).map (fun c=>V.bl (di c)))) hD)
     refine ⟨D,l.map di,rfl,SqL.of ?_,?_⟩
     ·rw [ad,AN,Bg]
      rfl
     generalize ax H' D (.lst ((l.take l.length).map (fun c=>V.bl (di c))))=H2 at *
     rw [List.all_map]
     cases ha:l.all di with
     | false=>
      refine ⟨_,rfl,?_⟩
      have ha':l.all (id ∘ di)=false:=ha
      rw [ha']
      exact bV (non _ s2 (by unfold fA;rw [ha,Bool.false_and,Bool.and_false,Bool.and_false]))
     | true=>
      have ha':l.all (id ∘ di)=true:=ha
      rw [ha']
      refine ⟨_,rfl,bp ?_⟩
      refine ⟨_,rfl,S l,0,l[0],rfl,rfl,(by rw [ba];omega),rN (i:=0) (by omega),rfl,_,rfl,?_⟩
      have fin:fA l=true->Q (.int (eI l)) H2:=fun e=>q _ _ s2 fun p=>by
       show TgV p H2 _ (cP l)
       unfold cP;rw [e];exact .int _
      have e0:l[0]?=some l[0]:=Bk (by omega)
      have last:fA l=true->∃ n:Nat,[V.str (S l)]=[.str (toString (n:Int):Str)]/\n < 1000000000/\Q (.int n) H2:=fun e=>by
       obtain ⟨a,b⟩:=se e
       exact ⟨eI l,by rw [bw,<-a],b,fin e⟩
      by_cases hz:l[0]=48
      ·refine bg (decide_eq_true (by rw [hz];decide +kernel)) ?_
       refine ⟨_,rfl,S l,rfl,(by rw [ba];omega),_,_,rfl,rfl,_,rfl,?_⟩
       rw [ba]
       by_cases hl:1 < l.length
       ·exact bg (decide_eq_true (by omega)) (non _ s2 (by unfold fA;rw [e0,hz,decide_eq_true rfl,decide_eq_true hl];simp))
       ·exact aN (decide_eq_false (by omega)) ⟨_,rfl,last (by unfold fA;rw [ha,decide_eq_true c1,decide_eq_true c2,decide_eq_false hl];simp)⟩
      ·refine aN (decide_eq_false fun e=>hz ?_) (bp ⟨_,rfl,last (by unfold fA;rw [ha,decide_eq_true c1,decide_eq_true c2,e0,decide_eq_false (by simpa using hz)];rfl)⟩)
       have e2:=V.str.inj e
       have e3:S [l[0]]=S [48]:=e2.trans (by decide +kernel)
       exact (Am (S_inj.mp e3)).1
   ·rw [decide_eq_false (show ¬ ((l.length:Nat):Int)<=9 by omega)]
    exact bV (non _ (Same.refl _) (by unfold fA;rw [decide_eq_false c2,Bool.false_and,Bool.and_false]))
  ·exact aN (decide_eq_false (by omega)) ⟨_,rfl,bV (non _ (Same.refl _) (by unfold fA;rw [decide_eq_false c1,Bool.false_and]))⟩
theorem xj:ap ["letter","word"] ["letter","word"] (al jq):=⟨rfl,rfl,rfl,by decide +kernel,rfl,by decide +kernel,by decide +kernel⟩
theorem vh {f:Addr} {fd:FuncData} (F:Fun K "number_behind" "number_behind" jq f fd) (NO:Fn P w K mg base "number_of" 1 ["token"] (dR fun x=>cP (cp x))):aG P w K mg base bu 2 f fd ["letter","word"] (hW cr):=by
 refine F.ok xj (fun vs H Q E h=>?_) (fun cdv A outer s H vs Q E hr h=>?_)
 ·obtain ⟨c,x,rfl,_⟩:=h
  rfl
 ·obtain ⟨c,x,rfl,hx,q⟩:=h
  have hr1:Room 1 _:=hr
  refine ⟨_,af (ao (cf (a6 (bq Ar PySem.F.slot_str_startswith PySem.F.type_str_startswith dk (pv 1) (aa (pv 0) ac))) (am NO hr1 rfl (aa (bQ oR (pv 1) (bX ae) cx) ac)) cv)),?_⟩
  refine ⟨_,rfl,rfl,_,rfl,x,S [c],rfl,rfl,_,rfl,?_⟩
  rw [fE]
  cases hc:mz c x with
  | false=>
   refine bp (q _ _ (Same.refl _) fun p=>?_)
   unfold cr;rw [hc];exact .non
  | true=>
   refine bV ⟨_,rfl,_,rfl,cp x,congrArg V.str (bo x).symm,by omega,S ((cp x).drop 1),congrArg (fun z=>[V.str (S z)]) (kz (cp x) 1),by rw [fz,A0];omega,fun v H' s' h=>q _ _ s' fun p=>?_⟩
   unfold cr;rw [hc];exact h p
theorem vi:ap ["word"] ["word"] (al pq):=⟨rfl,rfl,rfl,by decide +kernel,rfl,by decide +kernel,by decide +kernel⟩
theorem sm {f:Addr} {fd:FuncData} (F:Fun K "inner_told" "inner_told" pq f fd) (NB:Fn P w K mg base "number_behind" 2 ["letter","word"] (hW cr)):aG P w K mg base bu 3 f fd ["word"] (dR (cr 114)):=by
 refine F.ok vi (fun vs H Q E h=>?_) (fun cdv A outer s H vs Q E hr h=>?_)
 ·obtain ⟨x,rfl,_⟩:=h
  rfl
 ·obtain ⟨x,rfl,hx,q⟩:=h
  refine ⟨_,af (ao (am NB hr rfl (aa ah (aa (pv 0) ac)))),?_⟩
  exact ⟨_,rfl,114,x,by rw [show S [114]=("r":Str) from by decide +kernel],hx,q⟩
theorem su:ap ["letter","word"] ["letter","word"] (al lD):=⟨rfl,rfl,rfl,by decide +kernel,rfl,by decide +kernel,by decide +kernel⟩
theorem sF:S [102]=("f":Str):=by decide +kernel
theorem sR:S [114]=("r":Str):=by decide +kernel
theorem p4 {f:Addr} {fd:FuncData} (F:Fun K "sel_told" "sel_told" lD f fd) (NB:Fn P w K mg base "number_behind" 2 ["letter","word"] (hW cr)):aG P w K mg base bu 3 f fd ["letter","word"] (hW fX):=by
 refine F.ok su (fun vs H Q E h=>?_) (fun cdv A outer s H vs Q E hr h=>?_)
 ·obtain ⟨c,x,rfl,_⟩:=h
  rfl
 ·obtain ⟨c,x,rfl,hx,q⟩:=h
  refine ⟨_,ak (aI (a6 (bq Ar PySem.F.slot_str_startswith PySem.F.type_str_startswith dk (pv 1) (aa ah ac))) (af (ao (aA (aa ah (aa (am NB hr rfl (aa ah (aa (pv 1) ac))) ac))))) aw)
   (af (ao (aA (aa ah (aa (am NB hr rfl (aa (pv 0) (aa (pv 1) ac))) ac))))),?_⟩
  refine ⟨_,rfl,rfl,x,_,rfl,rfl,_,rfl,?_⟩
  rw [<-sF,fE]
  cases hc:mz 102 x with
  | false=>
   refine bp ⟨_,rfl,_,rfl,c,x,rfl,hx,fun v H1 s1 h1=>⟨(by show 2<=sizeLine;decide),fun t nt=>?_⟩⟩
   have s2:=aj (o:=.tup [.str "is",v]) nt
   refine q _ _ (s1.trans s2) fun p=>?_
   unfold fX;rw [hc]
   exact .tup ad (.cons (.str _) (.cons ((h1 p).same s2) .nil))
  | true=>
   refine bV ⟨_,rfl,102,x,rfl,hx,fun v H1 s1 h1=>⟨(by show 2<=sizeLine;decide),fun t nt=>?_⟩⟩
   have s2:=aj (o:=.tup [.str "by",v]) nt
   refine q _ _ (s1.trans s2) fun p=>?_
   unfold fX;rw [hc]
   exact .tup ad (.cons (.str _) (.cons ((h1 p).same s2) .nil))
theorem sw:ap ["word"] ["word"] (al lE):=⟨rfl,rfl,rfl,by decide +kernel,rfl,by decide +kernel,by decide +kernel⟩
theorem p5 {f:Addr} {fd:FuncData} (F:Fun K "source_told" "source_told" lE f fd) (NB:Fn P w K mg base "number_behind" 2 ["letter","word"] (hW cr)) (NO:Fn P w K mg base "number_of" 1 ["token"] (dR fun x=>cP (cp x))):aG P w K mg base bu 3 f fd ["word"] (dR dC):=by
 refine F.ok sw (fun vs H Q E h=>?_) (fun cdv A outer s H vs Q E hr h=>?_)
 ·obtain ⟨x,rfl,_⟩:=h
  rfl
 ·obtain ⟨x,rfl,hx,q⟩:=h
  have hr1:Room 1 _:=hr.mono (by decide)
  refine ⟨_,ak (aI (a6 (bq Ar PySem.F.slot_str_startswith PySem.F.type_str_startswith dk (pv 0) (aa ah ac))) (af (ao (aA (aa ah (aa (am NB hr rfl (aa ah (aa (pv 0) ac))) ac))))) aw)
   (ak (aI (a6 (bq Ar PySem.F.slot_str_startswith PySem.F.type_str_startswith dk (pv 0) (aa ah ac))) (af (ao (aA (aa ah (aa (am NB hr rfl (aa ah (aa (pv 0) ac))) ac))))) aw)
   (af (ao (aA (aa ah (aa (am NO hr1 rfl (aa (pv 0) ac)) ac)))))),?_⟩
  have fin:∀ k t v H1,Same H H1->(∀ p,TgV p H1 v t)->dC x=.tup [.str k,t]->∀ a,H1 a=none->Q (.ref a) (ax H1 a (.tup [.str k,v])):=fun k t v H1 s1 h1 e a na=>by
   have s2:=aj (o:=.tup [.str k,v]) na
   refine q _ _ (s1.trans s2) fun p=>?_
   rw [e]
   exact .tup ad (.cons (.str _) (.cons ((h1 p).same s2) .nil))
  refine ⟨_,rfl,rfl,x,_,rfl,rfl,_,rfl,?_⟩
  rw [<-sR,fE]
  cases hc:mz 114 x with
  | true=>exact bV ⟨_,rfl,114,x,rfl,hx,fun v H1 s1 h1=>⟨(by show 2<=sizeLine;decide),fin _ _ _ _ s1 h1 (by unfold dC;rw [hc];rfl)⟩⟩
  | false=>
   refine bp ⟨_,rfl,rfl,x,_,rfl,rfl,_,rfl,?_⟩
   rw [<-sF,fE]
   cases hd:mz 102 x with
   | true=>exact bV ⟨_,rfl,102,x,rfl,hx,fun v H1 s1 h1=>⟨(by show 2<=sizeLine;decide),fin _ _ _ _ s1 h1 (by unfold dC;rw [hc,hd];rfl)⟩⟩
   | false=>exact bp ⟨_,rfl,x,rfl,hx,fun v H1 s1 h1=>⟨(by show 2<=sizeLine;decide),fin _ _ _ _ s1 h1 (by unfold dC;rw [hc,hd];rfl)⟩⟩
end
end L3
namespace L3
open PySem L2
def iU (ok:List Str->Prop) (F:List Str->Th):Sp:=fun vs H Q _=>∃ a ws,vs=[.ref a]/\H a=some (.lst (ws.map V.str))/\ok ws/\(∀ z∈ws,(cp z).length<=900)/\∀ v H',Same H H'->(∀ p,TgV p H' v (F ws))->Q v H'
theorem hX (p:Addr) (H:Hp):∀ ws:List Str,TgA p H (ws.map V.str) (ws.map Th.str)
 | []=>.nil
 | x::r=>.cons (.str x) (hX p H r)
theorem sx {ws:List Str} (h:ws.length≠2):dj ws=.tup (ws.map .str):=by
 unfold dj
 split
 ·exact absurd rfl h
 ·rfl
theorem p6 {h:Str} {r:List Str} (h1:¬ (h="on"/\(h::r).length=2)) (h2:¬ ((h="some"\/h="top")/\(h::r).length=4)):fC (h::r)=.tup [.str h,dj r]:=by
 unfold fC
 split
 ·rename_i e
  cases e
  rw [if_neg fun z=>h1 ⟨z,rfl⟩]
 ·rename_i e
  cases e
  rw [if_neg fun z=>h2 ⟨z,rfl⟩]
 ·rename_i e
  cases e
  rfl
 ·rename_i e
  cases e
theorem sP:S [112]=("p":Str):=by decide +kernel
theorem sM:S [109]=("m":Str):=by decide +kernel
theorem p7 {ws:List Str} (h:ws.length=2):∃ a b,ws=[a,b]:=by
 match ws,h with
 | [a,b],_=>exact ⟨a,b,rfl⟩
theorem sy {ws:List Str} (h:ws.length=4):∃ a b c d,ws=[a,b,c,d]:=by
 match ws,h with
 | [a,b,c,d],_=>exact ⟨a,b,c,d,rfl⟩
theorem p8 {ws:List Str} (h:ws.length=3):∃ a b c,ws=[a,b,c]:=by
 match ws,h with
 | [a,b,c],_=>exact ⟨a,b,c,rfl⟩
theorem sB {ws:List Str} (h:ws.length=5):∃ a b c d e,ws=[a,b,c,d,e]:=by
 match ws,h with
 | [a,b,c,d,e],_=>exact ⟨a,b,c,d,e,rfl⟩
theorem nN (ws:List Str):eG (ws.map V.str) (some 1) none=(ws.drop 1).map V.str:=by
 unfold eG
 rw [Aj]
 have e1:HT.sIx ws.length 0 (some 1)=min 1 ws.length:=by
  show (if (1:Int) < 0 then ((1:Int)+(ws.length:Int)).toNat else min (1:Int).toNat ws.length)=_
  rw [if_neg (by decide)];rfl
 have e2:HT.sIx ws.length ws.length none=ws.length:=rfl
 rw [e1,e2]
 cases ws with
 | nil=>rfl
 | cons x r=>
  rw [Ai,Bw (by omega),AA,List.drop_succ_cons,Bs,List.drop_succ_cons,Bs,Bo (by rw [Aj];omega)]
section
variable {P:Program} {w:World} {K:PySem.W.Frag} {mg:Str->Option Value} {base:Heap}
theorem sC:ap ["words"] ["words"] (al lC):=⟨rfl,rfl,rfl,by decide +kernel,rfl,by decide +kernel,by decide +kernel⟩
theorem p9 {f:Addr} {fd:FuncData} (F:Fun K "end_told" "end_told" lC f fd) (B:Bl mg) (NB:Fn P w K mg base "number_behind" 2 ["letter","word"] (hW cr)):aG P w K mg base bu 3 f fd ["words"] (iU (fun ws=>ws.length<=1000) dj):=by
 refine F.ok sC (fun vs H Q E h=>?_) (fun cdv A outer s H vs Q E hr h=>?_)
 ·obtain ⟨a,ws,rfl,_⟩:=h
  rfl
 ·obtain ⟨a,ws,rfl,e,hm,hw,q⟩:=h
  refine ⟨_,ak (aI (PW.pt (eQ (av bc (aH aT (by rfl) B.len AR (aa (pv 0) ac)) ae (ay _)) (dn (av df (aq aC (pv 0) ae (fun _ _=>rfl)) (aA (aa ah (aa ah ac))) rfl))))
    (af (ao (aA (aa (aq aC (pv 0) ae (fun _ _=>rfl)) (aa (am NB hr rfl (aa ah (aa (aq aC (pv 0) ae (fun _ _=>rfl)) ac))) ac))))) aw)
   (af (ao (aZ bM (by rfl) B.tuple br (aa (pv 0) ac)))),?_⟩
  have fin:∀ H1,Same H H1->dj ws=.tup (ws.map .str)->∃ p ys,[V.ref a]=[.ref p]/\((SqL K H1 p ys/\∀ l,H1 l=none->Q (.ref l) (ax H1 l (.tup ys)))\/(SqT K H1 p ys/\Q (.ref p) H1)):=fun H1 s1 ee=>by
   refine ⟨a,_,rfl,.inl ⟨SqL.of (s1 _ _ e),fun l nl=>?_⟩⟩
   refine q _ _ (s1.trans (aj nl)) fun p=>?_
   rw [ee]
   exact .tup ad (hX _ _ _)
  refine ⟨_,rfl,a,_,rfl,.inl (SqL.of e),rfl,_,rfl,?_⟩
  rw [Aj,dint]
  by_cases h2:ws.length=2
  ·refine bg (decide_eq_true (by omega)) ?_
   obtain ⟨h,x,rfl⟩:=p7 h2
   refine ⟨_,rfl,a,_,_,_,rfl,rfl,SqL.of e,rfl,(by show 2<=sizeLine;decide),fun t nt=>?_⟩
   have s1:=aj (o:=.tup [.str "go",.str "call"]) nt
   have e1:(ax H t (.tup [.str "go",.str "call"])) t=some (.tup ((["go","call"]:List Str).map V.str)):=ad
   generalize ax H t (.tup [V.str "go",.str "call"])=H1 at *
   refine ⟨t,_,rfl,.inr (SqT.of e1),rfl,by decide +kernel,_,rfl,?_⟩
   rw [ck]
   by_cases hh:h="go"\/h="call"
   ·refine bg (by rcases hh with rfl|rfl<;>decide +kernel) ?_
    refine ⟨_,rfl,a,_,_,_,rfl,rfl,SqL.of (s1 _ _ e),rfl,_,rfl,a,_,_,_,rfl,rfl,SqL.of (s1 _ _ e),rfl,102,x,by rw [sF],hw x (by simp),fun v H2 s2 h2=>⟨(by show 2<=sizeLine;decide),fun t2 nt2=>?_⟩⟩
    have s3:=aj (o:=.tup [.str h,v]) nt2
    refine q _ _ ((s1.trans s2).trans s3) fun p=>?_
    unfold dj
    dsimp only
    rw [if_pos hh]
    exact .tup ad (.cons (.str _) (.cons ((h2 p).same s3) .nil))
   ·refine aN ?_ ⟨_,rfl,fin _ s1 (by unfold dj;dsimp only;rw [if_neg hh];rfl)⟩
    rw [Aw]
    intro z
    exact hh (by simpa using z)
  ·exact aN (decide_eq_false (by omega)) (bp ⟨_,rfl,fin _ (Same.refl _) (sx h2)⟩)
theorem scOnTo:ap ["words","head"] ["words"] (al pk):=⟨rfl,rfl,rfl,by decide +kernel,rfl,by decide +kernel,by decide +kernel⟩
set_option maxHeartbeats 1000000 in
theorem sD {f:Addr} {fd:FuncData} (F:Fun K "on_told" "on_told" pk f fd) (B:Bl mg) (NO:Fn P w K mg base "number_of" 1 ["token"] (dR fun x=>cP (cp x))) (IT:Fn P w K mg base "inner_told" 3 ["word"] (dR (cr 114))) (ET:Fn P w K mg base "end_told" 3 ["words"] (iU (fun ws=>ws.length<=1000) dj)):aG P w K mg base bu 4 f fd ["words"] (iU (fun ws=>ws≠[]/\ws.length<=1000) fC):=by
 refine F.ok scOnTo (fun vs H Q E h=>?_) (fun cdv A outer s H vs Q E hr h=>?_)
 ·obtain ⟨a,ws,rfl,_⟩:=h
  rfl
 ·obtain ⟨a,ws,rfl,e,⟨h0,hm⟩,hw,q⟩:=h
  have hr1:Room 1 _:=hr.mono (by decide)
  obtain ⟨h,r,rfl⟩:∃ h r,ws=h::r:=by
   cases ws with
   | nil=>exact absurd rfl h0
   | cons h r=>exact ⟨h,r,rfl⟩
  refine ⟨_,ak (aR (i:=1) scOnTo.nd rfl (Or.inl rfl) (aq aC (pv 0) ae (fun _ _=>rfl)))
   (gA (fun σ H'=>σ=[some (.ref a),some (.str h)]/\Same H H'/\¬ (h="on"/\(h::r).length=2)) (aI (PW.pt (eQ (av bc (pv 1) ah (ay _)) (dn (av bc (aH aT (by rfl) B.len AR (aa (pv 0) ac)) ae (ay _)))))
    (af (ao (aA (aa (pv 1) (aa (am NO hr1 rfl (aa (aq aC (pv 0) ae (fun _ _=>rfl)) ac)) ac))))) aw)
   (gA (fun σ H'=>σ=[some (.ref a),some (.str h)]/\Same H H'/\fC (h::r)=.tup [.str h,dj r]) (aI (PW.pt (eQ (av df (pv 1) (aA (aa ah (aa ah ac))) rfl) (dn (av bc (aH aT (by rfl) B.len AR (aa (pv 0) ac)) ae (ay _)))))
    (af (ao (aA (aa (pv 1) (aa (am IT hr rfl (aa (aq aC (pv 0) ae (fun _ _=>rfl)) ac)) (aa (am NO hr1 rfl (aa (aq aC (pv 0) ae (fun _ _=>rfl)) ac)) (aa (am NO hr1 rfl (aa (aq aC (pv 0) ae (fun _ _=>rfl)) ac)) ac))))))) aw)
   (af (ao (aA (aa (pv 1) (aa (am ET hr rfl (aa (bQ cU (pv 0) (bX ae) cx) ac)) ac))))))),?_⟩
  refine ⟨_,rfl,a,_,_,.str h,rfl,rfl,SqL.of e,at0 _ _,?_⟩
  refine ⟨?_,?_⟩
  ·rintro σ' H1 ⟨rfl,s1,n1⟩
   have e1:=s1 _ _ e
   refine ⟨?_,?_⟩
   ·rintro σ' H2 ⟨rfl,s2,ee⟩
    have e2:=s2 _ _ e
    refine ⟨_,rfl,_,rfl,_,rfl,a,_,rfl,SqL.of e2,fun l nl=>?_⟩
    rw [nN]
    have s3:=aj (o:=.lst (((h::r).drop 1).map V.str)) nl
    have e3:(ax H2 l (.lst (((h::r).drop 1).map V.str))) l=some (.lst (r.map V.str)):=ad
    generalize ax H2 l (.lst (((h::r).drop 1).map V.str))=H3 at *
    refine ⟨l,r,rfl,e3,by have:r.length+1<=1000:=hm;omega,fun z hz=>hw z (Av _ hz),fun v H4 s4 h4=>⟨(by show 2<=sizeLine;decide),fun t nt=>?_⟩⟩
    have s5:=aj (o:=.tup [.str h,v]) nt
    refine q _ _ (((s2.trans s3).trans s4).trans s5) fun p=>?_
    rw [ee]
    exact .tup ad (.cons (.str _) (.cons ((h4 p).same s5) .nil))
   ·refine ⟨_,rfl,(by show 2<=sizeLine;decide),fun t nt=>?_⟩
    have s2:=aj (o:=.tup [.str "some",.str "top"]) nt
    have e2:(ax H1 t (.tup [.str "some",.str "top"])) t=some (.tup ((["some","top"]:List Str).map V.str)):=ad
    generalize ax H1 t (.tup [V.str "some",.str "top"])=H2 at *
    refine ⟨t,_,rfl,.inr (SqT.of e2),rfl,by decide +kernel,_,rfl,?_⟩
    rw [ck]
    by_cases hh:h="some"\/h="top"
    ·refine bg (by rcases hh with rfl|rfl<;>decide +kernel) ⟨_,rfl,a,_,rfl,.inl (SqL.of (s2 _ _ e1)),rfl,_,rfl,?_⟩
     rw [Aj,dint]
     by_cases h4:(h::r).length=4
     ·refine bg (decide_eq_true (by omega)) ?_
      obtain ⟨_,x,y,z,ex⟩:=sy h4
      cases ex
      have e2:=s2 _ _ e1
      refine ⟨_,rfl,_,rfl,a,_,_,_,rfl,rfl,SqL.of e2,rfl,x,rfl,hw x (by simp),fun v3 H3 s3 h3=>?_⟩
      refine ⟨_,rfl,a,_,_,_,rfl,rfl,SqL.of (s3 _ _ e2),rfl,y,rfl,hw y (by simp),fun v4 H4 s4 h4=>?_⟩
      refine ⟨_,rfl,a,_,_,_,rfl,rfl,SqL.of ((s3.trans s4) _ _ e2),rfl,z,rfl,hw z (by simp),fun v5 H5 s5 h5=>⟨(by show 4<=sizeLine;decide),fun t6 nt6=>?_⟩⟩
      have s6:=aj (o:=.tup [.str h,v3,v4,v5]) nt6
      refine q _ _ (((((s1.trans s2).trans s3).trans s4).trans s5).trans s6) fun p=>?_
      unfold fC
      dsimp only
      rw [if_pos hh]
      exact .tup ad (.cons (.str _) (.cons ((h3 p).same ((s4.trans s5).trans s6)) (.cons ((h4 p).same (s5.trans s6)) (.cons ((h5 p).same s6) .nil))))
     ·refine aN (decide_eq_false (by omega)) ⟨rfl,s1.trans s2,?_⟩
      exact p6 n1 (fun z=>h4 z.2)
    ·refine aN ?_ (bp ⟨rfl,s1.trans s2,p6 n1 (fun z=>hh z.1)⟩)
     rw [Aw]
     intro z
     exact hh (by simpa using z)
  ·refine ⟨_,rfl,rfl,_,rfl,?_⟩
   rw [dstr]
   by_cases hh:h="on"
   ·refine bg (decide_eq_true hh) ⟨_,rfl,a,_,rfl,.inl (SqL.of e),rfl,_,rfl,?_⟩
    rw [Aj,dint]
    by_cases h2:(h::r).length=2
    ·refine bg (decide_eq_true (by omega)) ?_
     obtain ⟨_,x,ex⟩:=p7 h2
     cases ex
     refine ⟨_,rfl,_,rfl,a,_,_,_,rfl,rfl,SqL.of e,rfl,x,rfl,hw x (by simp),fun v3 H3 s3 h3=>⟨(by show 2<=sizeLine;decide),fun t6 nt6=>?_⟩⟩
     have s6:=aj (o:=.tup [.str h,v3]) nt6
     refine q _ _ (s3.trans s6) fun p=>?_
     unfold fC
     dsimp only
     rw [if_pos hh]
     exact .tup ad (.cons (.str _) (.cons ((h3 p).same s6) .nil))
    ·exact aN (decide_eq_false (by omega)) ⟨rfl,Same.refl _,fun z=>h2 z.2⟩
   ·exact aN (decide_eq_false hh) (bp ⟨rfl,Same.refl _,fun z=>hh z.1⟩)
end
end L3
namespace L3
open PySem L2
theorem qa {ws:List Str} (h1:¬ (ws.head?=some "two"/\ws.length=5)) (h2:ws.length≠3):bi ws=.non:=by
 unfold bi
 split
 ·rename_i h a b c d
  rw [if_neg fun z=>h1 ⟨congrArg some z,rfl⟩]
 ·exact absurd rfl h2
 ·rfl
theorem TgA.snoc {p:Addr} {H:Hp} {vs:List V} {ts:List Th} {v:V} {t:Th} (h:TgA p H vs ts) (x:TgV p H v t):TgA p H (vs++[v]) (ts++[t]):=h.app (.cons x .nil)
section
variable {P:Program} {w:World} {K:PySem.W.Frag} {mg:Str->Option Value} {base:Heap}
theorem scStepT:ap ["words","head"] ["words"] (al lB):=⟨rfl,rfl,rfl,by decide +kernel,rfl,by decide +kernel,by decide +kernel⟩
set_option maxHeartbeats 2000000 in
theorem qb {f:Addr} {fd:FuncData} (F:Fun K "step_told" "step_told" lB f fd) (B:Bl mg) (IT:Fn P w K mg base "inner_told" 3 ["word"] (dR (cr 114))) (SE:Fn P w K mg base "sel_told" 3 ["letter","word"] (hW fX)) (SO:Fn P w K mg base "source_told" 3 ["word"] (dR dC)):aG P w K mg base bu 4 f fd ["words"] (iU (fun ws=>ws≠[]/\ws.length<=1000) bi):=by
 refine F.ok scStepT (fun vs H Q E h=>?_) (fun cdv A outer s H vs Q E hr h=>?_)
 ·obtain ⟨a,ws,rfl,_⟩:=h
  rfl
 ·obtain ⟨a,ws,rfl,e,⟨h0,hm⟩,hw,q⟩:=h
  obtain ⟨h,r,rfl⟩:∃ h r,ws=h::r:=by
   cases ws with
   | nil=>exact absurd rfl h0
   | cons h r=>exact ⟨h,r,rfl⟩
  refine ⟨_,ak (aR (i:=1) scStepT.nd rfl (Or.inl rfl) (aq aC (pv 0) ae (fun _ _=>rfl)))
   (gA (fun σ H'=>σ=[some (.ref a),some (.str h)]/\H'=H/\¬ (h="two"/\(h::r).length=5)) (aI (PW.pt (eQ (av bc (pv 1) ah (ay _)) (dn (av bc (aH aT (by rfl) B.len AR (aa (pv 0) ac)) ae (ay _)))))
    (af (ao (aA (aa (pv 1) (aa (am IT hr rfl (aa (aq aC (pv 0) ae (fun _ _=>rfl)) ac)) (aa (aq aC (pv 0) ae (fun _ _=>rfl)) (aa (am SO hr rfl (aa (aq aC (pv 0) ae (fun _ _=>rfl)) ac)) (aa (am SO hr rfl (aa (aq aC (pv 0) ae (fun _ _=>rfl)) ac)) ac)))))))) aw)
   (ak (aI (av ip (aH aT (by rfl) B.len AR (aa (pv 0) ac)) ae (ay _)) (af (ao cv)) aw)
   (ak (aI (av bc (pv 1) ah (ay _)) (af (ao (aA (aa (pv 1) (aa (am IT hr rfl (aa (aq aC (pv 0) ae (fun _ _=>rfl)) ac)) (aa (am SE hr rfl (aa ah (aa (aq aC (pv 0) ae (fun _ _=>rfl)) ac))) ac)))))) aw)
   (ak (aI (av bc (pv 1) ah (ay _)) (af (ao (aA (aa (pv 1) (aa (am IT hr rfl (aa (aq aC (pv 0) ae (fun _ _=>rfl)) ac)) (aa (am SE hr rfl (aa ah (aa (aq aC (pv 0) ae (fun _ _=>rfl)) ac))) ac)))))) aw)
   (ak (aI (av bc (pv 1) ah (ay _)) (af (ao (aA (aa (pv 1) (aa (am IT hr rfl (aa (aq aC (pv 0) ae (fun _ _=>rfl)) ac)) (aa (am SO hr rfl (aa (aq aC (pv 0) ae (fun _ _=>rfl)) ac)) ac)))))) aw)
   (ak (aI (av bc (pv 1) ah (ay _)) (af (ao (aA (aa (pv 1) (aa (am SE hr rfl (aa ah (aa (aq aC (pv 0) ae (fun _ _=>rfl)) ac))) (aa (am SO hr rfl (aa (aq aC (pv 0) ae (fun _ _=>rfl)) ac)) ac)))))) aw)
   (ak (aI (av bc (pv 1) ah (ay _)) (af (ao (aA (aa (pv 1) (aa (am SE hr rfl (aa ah (aa (aq aC (pv 0) ae (fun _ _=>rfl)) ac))) (aa (am SO hr rfl (aa (aq aC (pv 0) ae (fun _ _=>rfl)) ac)) ac)))))) aw)
   (af (ao (aA (aa (pv 1) (aa (am SO hr rfl (aa (aq aC (pv 0) ae (fun _ _=>rfl)) ac)) (aa (am SO hr rfl (aa (aq aC (pv 0) ae (fun _ _=>rfl)) ac)) ac))))))))))))),?_⟩
  have fin:∀ {t1 t2:Th} {v1 v2:V} {H1 H2:Hp} {k:Str},bi (h::r)=.tup [.str k,t1,t2]->Same H H1->Same H1 H2->(∀ p,TgV p H1 v1 t1)->(∀ p,TgV p H2 v2 t2)->∀ t,H2 t=none->Q (.ref t) (ax H2 t (.tup [.str k,v1,v2])):=fun {t1 t2 v1 v2 H1 H2 k} ee s1 s2 h1 h2 t nt=>by
   have s3:=aj (o:=.tup [.str k,v1,v2]) nt
   refine q _ _ ((s1.trans s2).trans s3) fun p=>?_
   rw [ee]
   exact .tup ad (.cons (.str _) (.cons ((h1 p).same (s2.trans s3)) (.cons ((h2 p).same s3) .nil)))
  refine ⟨_,rfl,a,_,_,.str h,rfl,rfl,SqL.of e,at0 _ _,?_⟩
  refine ⟨?_,?_⟩
  ·rintro σ' H1 ⟨rfl,rfl,n1⟩
   refine ⟨_,rfl,a,_,rfl,.inl (SqL.of e),rfl,_,rfl,?_⟩
   rw [Aj,dint]
   by_cases h3:(h::r).length=3
   ·refine aN (by rw [decide_eq_true (by omega)];rfl) ?_
    obtain ⟨_,x,y,ex⟩:=p8 h3
    cases ex
    have hx:=hw x (by simp)
    have hy:=hw y (by simp)
    refine ⟨_,rfl,rfl,_,rfl,?_⟩
    rw [dstr]
    by_cases g0:h="get"
    ·exact bg (decide_eq_true g0) ⟨_,rfl,_,rfl,a,_,_,_,rfl,rfl,SqL.of e,rfl,x,rfl,hx,fun v1 H1 s1 h1=>⟨_,rfl,a,_,_,_,rfl,rfl,SqL.of (s1 _ _ e),rfl,112,y,by rw [sP],hy,fun v2 H2 s2 h2=>⟨(by show 3<=sizeLine;decide),fin (by unfold bi;dsimp only;rw [if_pos g0]) s1 s2 h1 h2⟩⟩⟩
    refine aN (decide_eq_false g0) ?_
    refine ⟨_,rfl,rfl,_,rfl,?_⟩
    rw [dstr]
    by_cases g1:h="ask"
    ·exact bg (decide_eq_true g1) ⟨_,rfl,_,rfl,a,_,_,_,rfl,rfl,SqL.of e,rfl,x,rfl,hx,fun v1 H1 s1 h1=>⟨_,rfl,a,_,_,_,rfl,rfl,SqL.of (s1 _ _ e),rfl,109,y,by rw [sM],hy,fun v2 H2 s2 h2=>⟨(by show 3<=sizeLine;decide),fin (by unfold bi;dsimp only;rw [if_neg g0,if_pos g1]) s1 s2 h1 h2⟩⟩⟩
    refine aN (decide_eq_false g1) ?_
    refine ⟨_,rfl,rfl,_,rfl,?_⟩
    rw [dstr]
    by_cases g2:h="cell"
    ·exact bg (decide_eq_true g2) ⟨_,rfl,_,rfl,a,_,_,_,rfl,rfl,SqL.of e,rfl,x,rfl,hx,fun v1 H1 s1 h1=>⟨_,rfl,a,_,_,_,rfl,rfl,SqL.of (s1 _ _ e),rfl,y,rfl,hy,fun v2 H2 s2 h2=>⟨(by show 3<=sizeLine;decide),fin (by unfold bi;dsimp only;rw [if_neg g0,if_neg g1,if_pos g2]) s1 s2 h1 h2⟩⟩⟩
    refine aN (decide_eq_false g2) ?_
    refine ⟨_,rfl,rfl,_,rfl,?_⟩
    rw [dstr]
    by_cases g3:h="put"
    ·exact bg (decide_eq_true g3) ⟨_,rfl,_,rfl,a,_,_,_,rfl,rfl,SqL.of e,rfl,112,x,by rw [sP],hx,fun v1 H1 s1 h1=>⟨_,rfl,a,_,_,_,rfl,rfl,SqL.of (s1 _ _ e),rfl,y,rfl,hy,fun v2 H2 s2 h2=>⟨(by show 3<=sizeLine;decide),fin (by unfold bi;dsimp only;rw [if_neg g0,if_neg g1,if_neg g2,if_pos g3]) s1 s2 h1 h2⟩⟩⟩
    refine aN (decide_eq_false g3) ?_
    refine ⟨_,rfl,rfl,_,rfl,?_⟩
    rw [dstr]
    by_cases g4:h="tell"
    ·exact bg (decide_eq_true g4) ⟨_,rfl,_,rfl,a,_,_,_,rfl,rfl,SqL.of e,rfl,109,x,by rw [sM],hx,fun v1 H1 s1 h1=>⟨_,rfl,a,_,_,_,rfl,rfl,SqL.of (s1 _ _ e),rfl,y,rfl,hy,fun v2 H2 s2 h2=>⟨(by show 3<=sizeLine;decide),fin (by unfold bi;dsimp only;rw [if_neg g0,if_neg g1,if_neg g2,if_neg g3,if_pos g4]) s1 s2 h1 h2⟩⟩⟩
    refine aN (decide_eq_false g4) ?_
    exact ⟨_,rfl,_,rfl,a,_,_,_,rfl,rfl,SqL.of e,rfl,x,rfl,hx,fun v1 H1 s1 h1=>⟨_,rfl,a,_,_,_,rfl,rfl,SqL.of (s1 _ _ e),rfl,y,rfl,hy,fun v2 H2 s2 h2=>⟨(by show 3<=sizeLine;decide),fin (by unfold bi;dsimp only;rw [if_neg g0,if_neg g1,if_neg g2,if_neg g3,if_neg g4]) s1 s2 h1 h2⟩⟩⟩
   ·refine bg (by rw [decide_eq_false (by omega)];rfl) (q _ _ (Same.refl _) fun p=>?_)
    rw [qa (fun z=>n1 ⟨by simpa using z.1,z.2⟩) h3]
    exact .non
  ·refine ⟨_,rfl,rfl,_,rfl,?_⟩
   rw [dstr]
   by_cases hh:h="two"
   ·refine bg (decide_eq_true hh) ⟨_,rfl,a,_,rfl,.inl (SqL.of e),rfl,_,rfl,?_⟩
    rw [Aj,dint]
    by_cases h5:(h::r).length=5
    ·refine bg (decide_eq_true (by omega)) ?_
     obtain ⟨_,x,y,z,u,ex⟩:=sB h5
     cases ex
     refine ⟨_,rfl,_,rfl,a,_,_,_,rfl,rfl,SqL.of e,rfl,x,rfl,hw x (by simp),fun v1 H1 s1 h1=>?_⟩
     refine ⟨_,rfl,a,_,_,_,rfl,rfl,SqL.of (s1 _ _ e),rfl,?_⟩
     refine ⟨_,rfl,a,_,_,_,rfl,rfl,SqL.of (s1 _ _ e),rfl,z,rfl,hw z (by simp),fun v2 H2 s2 h2=>?_⟩
     refine ⟨_,rfl,a,_,_,_,rfl,rfl,SqL.of ((s1.trans s2) _ _ e),rfl,u,rfl,hw u (by simp),fun v3 H3 s3 h3=>⟨(by show 5<=sizeLine;decide),fun t nt=>?_⟩⟩
     have s4:=aj (o:=.tup [.str h,v1,.str y,v2,v3]) nt
     refine q _ _ (((s1.trans s2).trans s3).trans s4) fun p=>?_
     unfold bi
     dsimp only
     rw [if_pos hh]
     exact .tup ad (.cons (.str _) (.cons ((h1 p).same ((s2.trans s3).trans s4)) (.cons (.str _) (.cons ((h2 p).same (s3.trans s4)) (.cons ((h3 p).same s4) .nil)))))
    ·exact aN (decide_eq_false (by omega)) ⟨rfl,rfl,fun z=>h5 z.2⟩
   ·exact aN (decide_eq_false hh) (bp ⟨rfl,rfl,fun z=>hh z.1⟩)
theorem qc (x y:Str):Txt.split x y≠[]:=by
 unfold Txt.split
 split
 ·simp
 ·split
  ·simp
  ·rw [StrLaws.partsBetween_eq]
   obtain ⟨p,r,e⟩:=StrLaws.partsFrom_ne x y.length 0 (Builtin.Str.occurrences x y 0 x.length (x.length+1))
   rw [e];simp
theorem lR {x:Str} {sep:List Nat} (hs:sep≠[]) {z:Str} (h:z∈Txt.split x (S sep)):(cp z).length<=(cp x).length:=by
 rw [cy _ _ (fw hs)] at h
 generalize Builtin.Str.occurrences x (S sep) 0 x.length (x.length+1)=c at h
 rw [cc,cc]
 suffices H:∀ (c:List Nat) (a:Nat),z∈StrLaws.partsFrom x (S sep).length a c->z.length<=x.length from H c 0 h
 intro c
 induction c with
 | nil=>
  intro a h
  have h':z∈[Builtin.Str.strSub x a x.length]:=h
  rw [AK.mp h']
  exact strSub_length_le _ _ _
 | cons b r ih=>
  intro a h
  have h':z∈Builtin.Str.strSub x a b::StrLaws.partsFrom x (S sep).length (b+(S sep).length) r:=h
  rcases AG.mp h' with rfl|h'
  ·exact strSub_length_le _ _ _
  ·exact ih _ h'
theorem fF:(" ":Str)=S [32]:=by decide +kernel
theorem xk:(" : ":Str)=S [32,58,32]:=by decide +kernel
theorem vj:(" , ":Str)=S [32,44,32]:=by decide +kernel
theorem xm:(": ":Str)=S [58,32]:=by decide +kernel
theorem scLitT:ap ["text","steps","colon","on"] ["text"] (al mx):=⟨rfl,rfl,rfl,by decide +kernel,rfl,by decide +kernel,by decide +kernel⟩
theorem xn:(["step"]:List Str).Nodup:=by decide +kernel
set_option maxHeartbeats 2000000 in
theorem sE {f:Addr} {fd:FuncData} (F:Fun K "little_told" "little_told" mx f fd) (B:Bl mg) (ON:Fn P w K mg base "on_told" 4 ["words"] (iU (fun ws=>ws≠[]/\ws.length<=1000) fC)) (ST:Fn P w K mg base "step_told" 4 ["words"] (iU (fun ws=>ws≠[]/\ws.length<=1000) bi)):aG P w K mg base bu 5 f fd ["text"] (dR dJ):=by
 refine F.ok scLitT (fun vs H Q E h=>?_) (fun cdv A outer s H vs Q E hr h=>?_)
 ·obtain ⟨x,rfl,_⟩:=h
  rfl
 ·obtain ⟨x,rfl,hx,q⟩:=h
  refine ⟨_,ak (aI (a6 (bq Ar PySem.F.slot_str_startswith PySem.F.type_str_startswith dk (pv 0) (aa ah ac)))
    (af (ao (aA (aa (aA ac) (aa (am ON hr rfl (aa (bq Ar PySem.F.slot_str_split PySem.F.type_str_split dh (bQ oR (pv 0) (bX ae) cx) (aa ah ac)) ac)) ac))))) aw)
   (ak (gG (bq Ar PySem.F.slot_str_partition PySem.F.type_str_partition jD (pv 0) (aa ah ac)) (kK rfl (cF (a7 (i:=1) scLitT.nd rfl (Or.inl rfl)) (cF (a7 (i:=2) scLitT.nd rfl (Or.inl rfl)) (cF (a7 (i:=3) scLitT.nd rfl (Or.inl rfl)) i7)))))
   (af (ao (aA (aa (aZ bM (by rfl) B.tuple br (aa (dH (N':=["step"]) (ix:=[none]) (sc0:=al mx) (N:=["text","steps","colon","on"]) rfl (by decide +kernel) (dq (bq Ar PySem.F.slot_str_split PySem.F.type_str_split dh (pv 1) (aa ah ac)))
     (fun C' cl s H fp=>a7 (i:=0) xn rfl (Or.inl rfl) (.inr rfl)) (fun _ _ _ _ _=>cz) (fun C' cl s H fp=>am ST hr rfl (aa (si (K:=K) rfl Ar PySem.F.slot_str_split PySem.F.type_str_split dh (pv 0) (aa ah ac)) ac))) ac))
    (aa (am ON hr rfl (aa (bq Ar PySem.F.slot_str_split PySem.F.type_str_split dh (pv 3) (aa ah ac)) ac)) ac)))))),?_⟩
  have nb:((" ":Str).length == 0)=false:=by decide +kernel
  have sz:(100000:Nat)<=sizeLine:=by decide
  have wl:∀ y:Str,(cp y).length<=(cp x).length->Txt.split y (S [32])≠[]/\(Txt.split y (S [32])).length<=1000:=fun y hy=>⟨qc _ _,by
   have:=cN y (sep:=[32]) (by simp)
   omega⟩
  refine ⟨_,rfl,rfl,x,_,rfl,rfl,_,rfl,?_⟩
  rw [xm]
  have est:Txt.startswith x (S [58,32])=decide ([58,32] <+: cp x):=by
   have:=hE (cp x) [58,32]
   rw [bo] at this
   exact this
  rw [est]
  cases hst:decide ([58,32] <+: cp x) with
  | true=>
   refine bV ⟨(by show 0<=sizeLine;decide),fun t0 n0=>?_⟩
   have s0:=aj (o:=.tup []) n0
   have e0:(ax H t0 (.tup [])) t0=some (.tup []):=ad
   generalize ax H t0 (.tup [])=H0 at *
   refine ⟨_,rfl,_,rfl,cp x,congrArg V.str (bo x).symm,by omega,rfl,_,_,rfl,rfl,nb,by rw [ba];exact Aq (oZ _ _ _) (by omega),fun l nl=>?_⟩
   rw [show fU (cp x) (some 2) none=(cp x).drop 2 from kz (cp x) 2,fF]
   have s1:=aj (o:=.lst ((Txt.split (S ((cp x).drop 2)) (S [32])).map V.str)) nl
   have e1:(ax H0 l (.lst ((Txt.split (S ((cp x).drop 2)) (S [32])).map V.str))) l=some (.lst ((Txt.split (S ((cp x).drop 2)) (S [32])).map V.str)):=ad
   generalize ax H0 l (.lst ((Txt.split (S ((cp x).drop 2)) (S [32])).map V.str))=H1 at *
   have hl:(cp (S ((cp x).drop 2))).length<=(cp x).length:=by rw [fz,A0];omega
   refine ⟨l,_,rfl,e1,wl _ hl,fun z hz=>Aq (dl hz) (by omega),fun v H2 s2 h2=>⟨(by show 2<=sizeLine;decide),fun t nt=>?_⟩⟩
   have s3:=aj (o:=.tup [.ref t0,v]) nt
   refine q _ _ (((s0.trans s1).trans s2).trans s3) fun p=>?_
   unfold dJ
   rw [hst]
   exact .tup ad (.cons (.tup (((s1.trans s2).trans s3) _ _ e0) .nil) (.cons ((h2 p).same s3) .nil))
  | false=>
   refine bp ⟨_,rfl,rfl,x,_,rfl,rfl,by decide +kernel,by rw [<-cc];omega,fun t0 n0=>?_⟩
   rw [xk]
   obtain ⟨pl1,pl2⟩:=ky x (S [32,58,32])
   have fin:∀ v H',Same H H'->(∀ p,TgV p H' v (.tup [.tup ((Txt.split (cK x (S [32,58,32])).1 (S [32,44,32])).map fun z=>bi (Txt.split z (S [32]))),fC (Txt.split (cK x (S [32,58,32])).2.2 (S [32]))]))->Q v H':=fun v H' s' h=>q v H' s' fun p=>by
    unfold dJ
    rw [hst]
    exact h p
   generalize cK x (S [32,58,32])=pp at *
   obtain ⟨y,c,o⟩:=pp
   have s0:=aj (o:=.tup [.str y,.str c,.str o]) n0
   have e0:(ax H t0 (.tup [.str y,.str c,.str o])) t0=some (.tup [.str y,.str c,.str o]):=ad
   generalize ax H t0 (.tup [.str y,.str c,.str o])=H0 at *
   refine ⟨t0,_,rfl,SqT.of e0,rfl,_,_,rfl,_,_,rfl,_,_,rfl,rfl,?_⟩
   refine ⟨_,rfl,rfl,y,_,rfl,rfl,by decide +kernel,by rw [<-cc];exact Aq pl1 (by omega),fun l nl=>?_⟩
   rw [vj]
   have zl:∀ z∈Txt.split y (S [32,44,32]),(cp z).length<=(cp x).length:=fun z hz=>Aq (lR (by simp) hz) pl1
   have zm:(Txt.split y (S [32,44,32])).length<=1000:=by
    have:=cN y (sep:=[32,44,32]) (by simp)
    have:(cp y).length<=(cp x).length:=pl1
    omega
   generalize Txt.split y (S [32,44,32])=zs at *
   have s1:=aj (o:=.lst (zs.map V.str)) nl
   have e1:(ax H0 l (.lst (zs.map V.str))) l=some (.lst (zs.map V.str)):=ad
   generalize ax H0 l (.lst (zs.map V.str))=H1 at *
   refine ⟨l,rfl,⟨_,SqL.of e1⟩,?_⟩
   refine gy (K:=K) (a:=l) (xs:=zs.map V.str) (fun i ys H'=>Same H1 H'/\ys.length=i/\∀ p,TgA p H' ys ((zs.take i).map fun z=>bi (Txt.split z (S [32])))) ⟨Same.refl _,rfl,fun p=>.nil⟩ (fun i ys H' hi ⟨s',e',_⟩=>⟨SqL.of (s' _ _ e1),by rw [Aj] at hi;omega⟩) ?_ ?_
   ·rintro i z ys H2 hz ⟨s2,hl3,tg⟩
    rw [Bp] at hz
    cases hzz:zs[i]? with
    | none=>rw [hzz] at hz;cases hz
    | some z'=>
     rw [hzz] at hz
     cases hz
     have hlt:i < zs.length:=(An.mp hzz).1
     have hm:=zl z' (AZ hzz)
     refine ⟨trivial,cw ⟨_,rfl,rfl,z',_,rfl,rfl,nb,by rw [<-cc];omega,fun l2 nl2=>?_⟩⟩
     rw [fF]
     have s3:=aj (o:=.lst ((Txt.split z' (S [32])).map V.str)) nl2
     have e3:(ax H2 l2 (.lst ((Txt.split z' (S [32])).map V.str))) l2=some (.lst ((Txt.split z' (S [32])).map V.str)):=ad
     generalize ax H2 l2 (.lst ((Txt.split z' (S [32])).map V.str))=H3 at *
     refine ⟨l2,_,rfl,e3,wl _ hm,fun u hu=>Aq (dl hu) (by omega),fun v H4 s4 h4=>Nx.mk (by rw [Aj];exact hlt) ⟨(s2.trans s3).trans s4,by rw [Ah,hl3];rfl,fun p=>?_⟩⟩
     rw [Bb,hzz,AE]
     exact ((tg p).same (s3.trans s4)).snoc (h4 p)
   ·rintro ys H2 ⟨s2,hl3,tg⟩ D nD
    rw [Aj,AN] at tg
    have s3:=aj (o:=.lst ys) nD
    have e3:(ax H2 D (.lst ys)) D=some (.lst ys):=ad
    generalize ax H2 D (.lst ys)=H3 at *
    refine ⟨D,ys,rfl,.inl ⟨SqL.of e3,fun tp ntp=>?_⟩⟩
    have s4:=aj (o:=.tup ys) ntp
    have e4:(ax H3 tp (.tup ys)) tp=some (.tup ys):=ad
    generalize ax H3 tp (.tup ys)=H4 at *
    refine ⟨_,rfl,rfl,o,_,rfl,rfl,nb,by rw [<-cc];exact Aq pl2 (by omega),fun l2 nl2=>?_⟩
    rw [fF]
    have s5:=aj (o:=.lst ((Txt.split o (S [32])).map V.str)) nl2
    have e5:(ax H4 l2 (.lst ((Txt.split o (S [32])).map V.str))) l2=some (.lst ((Txt.split o (S [32])).map V.str)):=ad
    generalize ax H4 l2 (.lst ((Txt.split o (S [32])).map V.str))=H5 at *
    refine ⟨l2,_,rfl,e5,wl _ pl2,fun u hu=>Aq (dl hu) (Aq pl2 (by omega)),fun v H6 s6 h6=>⟨(by show 2<=sizeLine;decide),fun t nt=>?_⟩⟩
    have s7:=aj (o:=.tup [.ref tp,v]) nt
    refine fin _ _ (((((((s0.trans s1).trans s2).trans s3).trans s4).trans s5).trans s6).trans s7) fun p=>?_
    exact .tup ad (.cons (.tup (((s5.trans s6).trans s7) _ _ e4) ((tg p).same ((((s3.trans s4).trans s5).trans s6).trans s7))) (.cons ((h6 p).same s7) .nil))
end
end L3
namespace L3
open PySem L2
def Ab:Nat->Str
 | 0=>"Get"
 | 1=>"Ask"
 | 2=>"Cell"
 | 3=>"Two"
 | 4=>"Put"
 | 5=>"Tell"
 | _=>"Store"
def nO:Nat->Str
 | 0=>"get"
 | 1=>"ask"
 | 2=>"cell"
 | 3=>"two"
 | 4=>"put"
 | 5=>"tell"
 | _=>"store"
def qd:Nat->List Str
 | 0=>["to","sel"]
 | 1=>["to","sel"]
 | 2=>["to","source"]
 | 3=>["to","op","one","other"]
 | 4=>["sel","source"]
 | 5=>["sel","source"]
 | _=>["at","source"]
structure Ct (K:PySem.W.Frag) (mg:Str->Option Value) (C fi:Nat->Addr):Prop where
 cls:∀ k,k < 7->Cls K (C k)
 na:∀ k,k < 7->∀ f∈qd k,NoAttr K (C k) f
 mk_:∀ k,k < 7->Mk K (C k) (fi k)
 mg:∀ k,k < 7->mg (Ab k)=some (.ref (C k))
def gs (C:Addr) (a b:Str):Sp:=fun vs H Q _=>∃ (x dx:Addr) (u v:V),vs=[.ref x,u,v]/\H x=some (.ins C dx [])/\Q .non (ax (ax H x (.ins C dx [(a,u)])) x (.ins C dx [(a,u),(b,v)]))
def xp (C:Addr) (a b c d:Str):Sp:=fun vs H Q _=>∃ (x dx:Addr) (u v y z:V),vs=[.ref x,u,v,y,z]/\H x=some (.ins C dx []) /\
 Q .non (ax (ax (ax (ax H x (.ins C dx [(a,u)])) x (.ins C dx [(a,u),(b,v)])) x (.ins C dx [(a,u),(b,v),(c,y)])) x (.ins C dx [(a,u),(b,v),(c,y),(d,z)]))
def gm (P:Program) (w:World) (K:PySem.W.Frag) (mg:Str->Option Value) (base:Heap) (f:Addr) (ps:List Str) (sp:Sp):Prop:=∃ fd,aG P w K mg base bu 1 f fd ps sp/\Binds K fd ps []
inductive StO (C:Nat->Addr) (p:Addr) (H:Hp):V->Th->Prop
 | mk (k:Nat) (a dx:Addr) (us:List V) (ts:List Th):k < 7->H a=some (.ins (C k) dx ((qd k).zip us))->us.length=(qd k).length->TgA p H us ts->StpT (.tup (.str (nO k)::ts))->StO C p H (.ref a) (.tup (.str (nO k)::ts))
def mE (C:Nat->Addr):Sp:=fun vs H Q _=>∃ (p:Addr) (v:V) (t:Th),vs=[v]/\TgV p H v t/\StpT t/\∀ u H',Same H H'->StO C p H' u t->Q u H'
theorem StO.same {C:Nat->Addr} {p:Addr} {H H':Hp} {v:V} {t:Th} (s:Same H H') (h:StO C p H v t):StO C p H' v t:=by
 cases h with
 | mk k a dx us ts hk e l ta st=>exact .mk k a dx us ts hk (s _ _ e) l (ta.same s) st
theorem bZ {p:Addr} {H:Hp} {xs:List V} {x:Str} {a b:Th} (h:TgA p H xs [.str x,a,b]):∃ u v,xs=[.str x,u,v]/\TgA p H [u,v] [a,b]:=by
 cases h with
 | cons h0 t=>
  cases h0
  exact match t with|.cons h1 (.cons h2 .nil)=>⟨_,_,rfl,.cons h1 (.cons h2 .nil)⟩
theorem mF {p:Addr} {H:Hp} {xs:List V} {x:Str} {a b c d:Th} (h:TgA p H xs [.str x,a,b,c,d]):∃ u v y z,xs=[.str x,u,v,y,z]/\TgA p H [u,v,y,z] [a,b,c,d]:=by
 cases h with
 | cons h0 t=>
  cases h0
  exact match t with|.cons h1 (.cons h2 (.cons h3 (.cons h4 .nil)))=>⟨_,_,_,_,rfl,.cons h1 (.cons h2 (.cons h3 (.cons h4 .nil)))⟩
section
variable {P:Program} {w:World} {K:PySem.W.Frag} {mg:Str->Option Value} {base:Heap} {C fi:Nat->Addr}
abbrev yX:Stmt:=a8 (bK 48) 0
theorem yY:ap ["self","to","sel"] ["self","to","sel"] (al yX):=⟨rfl,rfl,rfl,by decide +kernel,rfl,by decide +kernel,by decide +kernel⟩
theorem xq {C fi:Nat->Addr} {f:Addr} {fd:FuncData} (F:Fun K "__init__" "Get.__init__" yX f fd) (T:Ct K mg C fi):aG P w K mg base bu 1 f fd ["self","to","sel"] (gs (C 0) "to" "sel"):=by
 refine F.ok yY (fun vs H Q E h=>?_) (fun cdv A outer s H vs Q E hr h=>?_)
 ·obtain ⟨x,dx,u,v,rfl,_⟩:=h
  rfl
 ·obtain ⟨x,dx,u,v,rfl,hx,q⟩:=h
  refine ⟨_,ak (bN (pv 0) (pv 1) rfl) (af (bN (pv 0) (pv 2) rfl)),?_⟩
  refine ⟨_,rfl,_,rfl,x,C 0,dx,_,rfl,hx,T.cls 0 (by decide),(T.na 0 (by decide) "to" (by decide +kernel)),(by show 0 < 1000;decide),?_⟩
  exact ⟨_,rfl,_,rfl,x,C 0,dx,_,rfl,ad,T.cls 0 (by decide),(T.na 0 (by decide) "sel" (by decide +kernel)),(by show 1 < 1000;decide),q⟩
abbrev yZ:Stmt:=a8 (bK 49) 0
theorem y0:ap ["self","to","sel"] ["self","to","sel"] (al yZ):=⟨rfl,rfl,rfl,by decide +kernel,rfl,by decide +kernel,by decide +kernel⟩
theorem xt {C fi:Nat->Addr} {f:Addr} {fd:FuncData} (F:Fun K "__init__" "Ask.__init__" yZ f fd) (T:Ct K mg C fi):aG P w K mg base bu 1 f fd ["self","to","sel"] (gs (C 1) "to" "sel"):=by
 refine F.ok y0 (fun vs H Q E h=>?_) (fun cdv A outer s H vs Q E hr h=>?_)
 ·obtain ⟨x,dx,u,v,rfl,_⟩:=h
  rfl
 ·obtain ⟨x,dx,u,v,rfl,hx,q⟩:=h
  refine ⟨_,ak (bN (pv 0) (pv 1) rfl) (af (bN (pv 0) (pv 2) rfl)),?_⟩
  refine ⟨_,rfl,_,rfl,x,C 1,dx,_,rfl,hx,T.cls 1 (by decide),(T.na 1 (by decide) "to" (by decide +kernel)),(by show 0 < 1000;decide),?_⟩
  exact ⟨_,rfl,_,rfl,x,C 1,dx,_,rfl,ad,T.cls 1 (by decide),(T.na 1 (by decide) "sel" (by decide +kernel)),(by show 1 < 1000;decide),q⟩
abbrev y8:Stmt:=a8 (bK 50) 0
theorem y9:ap ["self","to","source"] ["self","to","source"] (al y8):=⟨rfl,rfl,rfl,by decide +kernel,rfl,by decide +kernel,by decide +kernel⟩
theorem xu {C fi:Nat->Addr} {f:Addr} {fd:FuncData} (F:Fun K "__init__" "Cell.__init__" y8 f fd) (T:Ct K mg C fi):aG P w K mg base bu 1 f fd ["self","to","source"] (gs (C 2) "to" "source"):=by
 refine F.ok y9 (fun vs H Q E h=>?_) (fun cdv A outer s H vs Q E hr h=>?_)
 ·obtain ⟨x,dx,u,v,rfl,_⟩:=h
  rfl
 ·obtain ⟨x,dx,u,v,rfl,hx,q⟩:=h
  refine ⟨_,ak (bN (pv 0) (pv 1) rfl) (af (bN (pv 0) (pv 2) rfl)),?_⟩
  refine ⟨_,rfl,_,rfl,x,C 2,dx,_,rfl,hx,T.cls 2 (by decide),(T.na 2 (by decide) "to" (by decide +kernel)),(by show 0 < 1000;decide),?_⟩
  exact ⟨_,rfl,_,rfl,x,C 2,dx,_,rfl,ad,T.cls 2 (by decide),(T.na 2 (by decide) "source" (by decide +kernel)),(by show 1 < 1000;decide),q⟩
abbrev za:Stmt:=a8 (bK 51) 0
theorem zc:ap ["self","to","op","one","other"] ["self","to","op","one","other"] (al za):=⟨rfl,rfl,rfl,by decide +kernel,rfl,by decide +kernel,by decide +kernel⟩
theorem xw {C fi:Nat->Addr} {f:Addr} {fd:FuncData} (F:Fun K "__init__" "Two.__init__" za f fd) (T:Ct K mg C fi):aG P w K mg base bu 1 f fd ["self","to","op","one","other"] (xp (C 3) "to" "op" "one" "other"):=by
 refine F.ok zc (fun vs H Q E h=>?_) (fun cdv A outer s H vs Q E hr h=>?_)
 ·obtain ⟨x,dx,u,v,y,z,rfl,_⟩:=h
  rfl
 ·obtain ⟨x,dx,u,v,y,z,rfl,hx,q⟩:=h
  refine ⟨_,ak (bN (pv 0) (pv 1) rfl) (ak (bN (pv 0) (pv 2) rfl) (ak (bN (pv 0) (pv 3) rfl) (af (bN (pv 0) (pv 4) rfl)))),?_⟩
  refine ⟨_,rfl,_,rfl,x,C 3,dx,_,rfl,hx,T.cls 3 (by decide),(T.na 3 (by decide) "to" (by decide +kernel)),(by show 0 < 1000;decide),?_⟩
  refine ⟨_,rfl,_,rfl,x,C 3,dx,_,rfl,ad,T.cls 3 (by decide),(T.na 3 (by decide) "op" (by decide +kernel)),(by show 1 < 1000;decide),?_⟩
  refine ⟨_,rfl,_,rfl,x,C 3,dx,_,rfl,ad,T.cls 3 (by decide),(T.na 3 (by decide) "one" (by decide +kernel)),(by show 2 < 1000;decide),?_⟩
  exact ⟨_,rfl,_,rfl,x,C 3,dx,_,rfl,ad,T.cls 3 (by decide),(T.na 3 (by decide) "other" (by decide +kernel)),(by show 3 < 1000;decide),q⟩
abbrev zd:Stmt:=a8 (bK 52) 0
theorem ze:ap ["self","sel","source"] ["self","sel","source"] (al zd):=⟨rfl,rfl,rfl,by decide +kernel,rfl,by decide +kernel,by decide +kernel⟩
theorem xy {C fi:Nat->Addr} {f:Addr} {fd:FuncData} (F:Fun K "__init__" "Put.__init__" zd f fd) (T:Ct K mg C fi):aG P w K mg base bu 1 f fd ["self","sel","source"] (gs (C 4) "sel" "source"):=by
 refine F.ok ze (fun vs H Q E h=>?_) (fun cdv A outer s H vs Q E hr h=>?_)
 ·obtain ⟨x,dx,u,v,rfl,_⟩:=h
  rfl
 ·obtain ⟨x,dx,u,v,rfl,hx,q⟩:=h
  refine ⟨_,ak (bN (pv 0) (pv 1) rfl) (af (bN (pv 0) (pv 2) rfl)),?_⟩
  refine ⟨_,rfl,_,rfl,x,C 4,dx,_,rfl,hx,T.cls 4 (by decide),(T.na 4 (by decide) "sel" (by decide +kernel)),(by show 0 < 1000;decide),?_⟩
  exact ⟨_,rfl,_,rfl,x,C 4,dx,_,rfl,ad,T.cls 4 (by decide),(T.na 4 (by decide) "source" (by decide +kernel)),(by show 1 < 1000;decide),q⟩
abbrev zf:Stmt:=a8 (bK 53) 0
theorem zh:ap ["self","sel","source"] ["self","sel","source"] (al zf):=⟨rfl,rfl,rfl,by decide +kernel,rfl,by decide +kernel,by decide +kernel⟩
theorem xz {C fi:Nat->Addr} {f:Addr} {fd:FuncData} (F:Fun K "__init__" "Tell.__init__" zf f fd) (T:Ct K mg C fi):aG P w K mg base bu 1 f fd ["self","sel","source"] (gs (C 5) "sel" "source"):=by
 refine F.ok zh (fun vs H Q E h=>?_) (fun cdv A outer s H vs Q E hr h=>?_)
 ·obtain ⟨x,dx,u,v,rfl,_⟩:=h
  rfl
 ·obtain ⟨x,dx,u,v,rfl,hx,q⟩:=h
  refine ⟨_,ak (bN (pv 0) (pv 1) rfl) (af (bN (pv 0) (pv 2) rfl)),?_⟩
  refine ⟨_,rfl,_,rfl,x,C 5,dx,_,rfl,hx,T.cls 5 (by decide),(T.na 5 (by decide) "sel" (by decide +kernel)),(by show 0 < 1000;decide),?_⟩
  exact ⟨_,rfl,_,rfl,x,C 5,dx,_,rfl,ad,T.cls 5 (by decide),(T.na 5 (by decide) "source" (by decide +kernel)),(by show 1 < 1000;decide),q⟩
abbrev zi:Stmt:=a8 (bK 54) 0
theorem zj:ap ["self","at","source"] ["self","at","source"] (al zi):=⟨rfl,rfl,rfl,by decide +kernel,rfl,by decide +kernel,by decide +kernel⟩
theorem xA {C fi:Nat->Addr} {f:Addr} {fd:FuncData} (F:Fun K "__init__" "Store.__init__" zi f fd) (T:Ct K mg C fi):aG P w K mg base bu 1 f fd ["self","at","source"] (gs (C 6) "at" "source"):=by
 refine F.ok zj (fun vs H Q E h=>?_) (fun cdv A outer s H vs Q E hr h=>?_)
 ·obtain ⟨x,dx,u,v,rfl,_⟩:=h
  rfl
 ·obtain ⟨x,dx,u,v,rfl,hx,q⟩:=h
  refine ⟨_,ak (bN (pv 0) (pv 1) rfl) (af (bN (pv 0) (pv 2) rfl)),?_⟩
  refine ⟨_,rfl,_,rfl,x,C 6,dx,_,rfl,hx,T.cls 6 (by decide),(T.na 6 (by decide) "at" (by decide +kernel)),(by show 0 < 1000;decide),?_⟩
  exact ⟨_,rfl,_,rfl,x,C 6,dx,_,rfl,ad,T.cls 6 (by decide),(T.na 6 (by decide) "source" (by decide +kernel)),(by show 1 < 1000;decide),q⟩
theorem qe:ap ["told"] ["told"] (al jk):=⟨rfl,rfl,rfl,by decide +kernel,rfl,by decide +kernel,by decide +kernel⟩
set_option maxHeartbeats 8000000 in
theorem nP {f:Addr} {fd:FuncData} (F:Fun K "step_of" "step_of" jk f fd) (T:Ct K mg C fi) (IS:Fn P w K mg base "is_step" 5 ["thing"] (spAsk stepOk rQ)) (I0:gm P w K mg base (fi 0) ["self","to","sel"] (gs (C 0) "to" "sel")) (I1:gm P w K mg base (fi 1) ["self","to","sel"] (gs (C 1) "to" "sel")) (I2:gm P w K mg base (fi 2) ["self","to","source"] (gs (C 2) "to" "source")) (I3:gm P w K mg base (fi 3) ["self","to","op","one","other"] (xp (C 3) "to" "op" "one" "other")) (I4:gm P w K mg base (fi 4) ["self","sel","source"] (gs (C 4) "sel" "source")) (I5:gm P w K mg base (fi 5) ["self","sel","source"] (gs (C 5) "sel" "source")) (I6:gm P w K mg base (fi 6) ["self","at","source"] (gs (C 6) "at" "source")) :
  aG P w K mg base bu 6 f fd ["told"] (mE C):=by
 refine F.ok qe (fun vs H Q E h=>?_) (fun cdv A outer s H vs Q E hr h=>?_)
 ·obtain ⟨p,v,t,rfl,_⟩:=h
  rfl
 ·obtain ⟨p,v,t,rfl,tv,st,q⟩:=h
  have hr3:Room 2 _:=hr.mono (by decide)
  obtain ⟨fd0,F0,b0⟩:=I0
  obtain ⟨fd1,F1,b1⟩:=I1
  obtain ⟨fd2,F2,b2⟩:=I2
  obtain ⟨fd3,F3,b3⟩:=I3
  obtain ⟨fd4,F4,b4⟩:=I4
  obtain ⟨fd5,F5,b5⟩:=I5
  obtain ⟨fd6,F6,b6⟩:=I6
  refine ⟨_,ak (aI (c8 (a6 (am IS hr rfl (aa (pv 0) ac)))) (af jY) aw)
   (ak (aI (av bc (aq au (pv 0) ae (fun _ _=>rfl)) ah (ay _)) (af (ao (cS (T.mk_ 0 (by decide)) F0 hr3 rfl (T.mg 0 (by decide)) b0 .nil cV (aa (aq au (pv 0) ae (fun _ _=>rfl)) (aa (aq au (pv 0) ae (fun _ _=>rfl)) ac))))) aw)
   (ak (aI (av bc (aq au (pv 0) ae (fun _ _=>rfl)) ah (ay _)) (af (ao (cS (T.mk_ 1 (by decide)) F1 hr3 rfl (T.mg 1 (by decide)) b1 .nil cV (aa (aq au (pv 0) ae (fun _ _=>rfl)) (aa (aq au (pv 0) ae (fun _ _=>rfl)) ac))))) aw)
   (ak (aI (av bc (aq au (pv 0) ae (fun _ _=>rfl)) ah (ay _)) (af (ao (cS (T.mk_ 2 (by decide)) F2 hr3 rfl (T.mg 2 (by decide)) b2 .nil cV (aa (aq au (pv 0) ae (fun _ _=>rfl)) (aa (aq au (pv 0) ae (fun _ _=>rfl)) ac))))) aw)
   (ak (aI (av bc (aq au (pv 0) ae (fun _ _=>rfl)) ah (ay _)) (af (ao (cS (T.mk_ 3 (by decide)) F3 hr3 rfl (T.mg 3 (by decide)) b3 .nil cV (aa (aq au (pv 0) ae (fun _ _=>rfl)) (aa (aq au (pv 0) ae (fun _ _=>rfl)) (aa (aq au (pv 0) ae (fun _ _=>rfl)) (aa (aq au (pv 0) ae (fun _ _=>rfl)) ac))))))) aw)
   (ak (aI (av bc (aq au (pv 0) ae (fun _ _=>rfl)) ah (ay _)) (af (ao (cS (T.mk_ 4 (by decide)) F4 hr3 rfl (T.mg 4 (by decide)) b4 .nil cV (aa (aq au (pv 0) ae (fun _ _=>rfl)) (aa (aq au (pv 0) ae (fun _ _=>rfl)) ac))))) aw)
   (ak (aI (av bc (aq au (pv 0) ae (fun _ _=>rfl)) ah (ay _)) (af (ao (cS (T.mk_ 5 (by decide)) F5 hr3 rfl (T.mg 5 (by decide)) b5 .nil cV (aa (aq au (pv 0) ae (fun _ _=>rfl)) (aa (aq au (pv 0) ae (fun _ _=>rfl)) ac))))) aw)
   (af (ao (cS (T.mk_ 6 (by decide)) F6 hr3 rfl (T.mg 6 (by decide)) b6 .nil cV (aa (aq au (pv 0) ae (fun _ _=>rfl)) (aa (aq au (pv 0) ae (fun _ _=>rfl)) ac))))))))))),?_⟩
  obtain ⟨ok,hga⟩:=st.ok
  refine ⟨_,rfl,p,v,t,rfl,tv,hga,fun H1 s1=>⟨_,rfl,?_⟩⟩
  rw [ok]
  refine bp ?_
  have tv1:=tv.same s1
  have q1:∀ u H',Same H1 H'->StO C p H' u t->Q u H':=fun u H' s' h=>q u H' (s1.trans s') h
  have st':=st
  cases st with
  | @get k s hk hs=>
   cases tv1 with
   | @tup a xs _ e ta=>
    obtain ⟨u0,u1,rfl,ta'⟩:∃ u0 u1,xs=[.str "get",u0,u1]/\TgA p H1 [u0,u1] _:=bZ ta
    refine ⟨_,rfl,a,_,_,_,rfl,rfl,SqT.of e,rfl,rfl,_,rfl,bg (show decide (V.str "get"=V.str "get")=true by decide +kernel) ?_⟩
    refine ⟨_,rfl,a,_,_,_,rfl,rfl,SqT.of e,rfl,_,rfl,a,_,_,_,rfl,rfl,SqT.of e,rfl,fun x0 dx nx nd ne=>⟨x0,dx,_,_,rfl,ad,rfl,?_⟩⟩
    refine q1 _ _ ?_ (.mk 0 x0 dx [u0,u1] _ (by decide) ad rfl (ta'.same ?_) st')
    all_goals exact az nx (az nx (az nx (aj nd)))
  | @ask k s hk hs=>
   cases tv1 with
   | @tup a xs _ e ta=>
    obtain ⟨u0,u1,rfl,ta'⟩:∃ u0 u1,xs=[.str "ask",u0,u1]/\TgA p H1 [u0,u1] _:=bZ ta
    refine ⟨_,rfl,a,_,_,_,rfl,rfl,SqT.of e,rfl,rfl,_,rfl,aN (show decide (V.str "ask"=V.str "get")=false by decide +kernel) ?_⟩
    refine ⟨_,rfl,a,_,_,_,rfl,rfl,SqT.of e,rfl,rfl,_,rfl,bg (show decide (V.str "ask"=V.str "ask")=true by decide +kernel) ?_⟩
    refine ⟨_,rfl,a,_,_,_,rfl,rfl,SqT.of e,rfl,_,rfl,a,_,_,_,rfl,rfl,SqT.of e,rfl,fun x0 dx nx nd ne=>⟨x0,dx,_,_,rfl,ad,rfl,?_⟩⟩
    refine q1 _ _ ?_ (.mk 1 x0 dx [u0,u1] _ (by decide) ad rfl (ta'.same ?_) st')
    all_goals exact az nx (az nx (az nx (aj nd)))
  | @cell k s hk hs=>
   cases tv1 with
   | @tup a xs _ e ta=>
    obtain ⟨u0,u1,rfl,ta'⟩:∃ u0 u1,xs=[.str "cell",u0,u1]/\TgA p H1 [u0,u1] _:=bZ ta
    refine ⟨_,rfl,a,_,_,_,rfl,rfl,SqT.of e,rfl,rfl,_,rfl,aN (show decide (V.str "cell"=V.str "get")=false by decide +kernel) ?_⟩
    refine ⟨_,rfl,a,_,_,_,rfl,rfl,SqT.of e,rfl,rfl,_,rfl,aN (show decide (V.str "cell"=V.str "ask")=false by decide +kernel) ?_⟩
    refine ⟨_,rfl,a,_,_,_,rfl,rfl,SqT.of e,rfl,rfl,_,rfl,bg (show decide (V.str "cell"=V.str "cell")=true by decide +kernel) ?_⟩
    refine ⟨_,rfl,a,_,_,_,rfl,rfl,SqT.of e,rfl,_,rfl,a,_,_,_,rfl,rfl,SqT.of e,rfl,fun x0 dx nx nd ne=>⟨x0,dx,_,_,rfl,ad,rfl,?_⟩⟩
    refine q1 _ _ ?_ (.mk 2 x0 dx [u0,u1] _ (by decide) ad rfl (ta'.same ?_) st')
    all_goals exact az nx (az nx (az nx (aj nd)))
  | @two k o x y hk ho hx hy=>
   cases tv1 with
   | @tup a xs _ e ta=>
    obtain ⟨u0,u1,u2,u3,rfl,ta'⟩:∃ u0 u1 u2 u3,xs=[.str "two",u0,u1,u2,u3]/\TgA p H1 [u0,u1,u2,u3] _:=mF ta
    refine ⟨_,rfl,a,_,_,_,rfl,rfl,SqT.of e,rfl,rfl,_,rfl,aN (show decide (V.str "two"=V.str "get")=false by decide +kernel) ?_⟩
    refine ⟨_,rfl,a,_,_,_,rfl,rfl,SqT.of e,rfl,rfl,_,rfl,aN (show decide (V.str "two"=V.str "ask")=false by decide +kernel) ?_⟩
    refine ⟨_,rfl,a,_,_,_,rfl,rfl,SqT.of e,rfl,rfl,_,rfl,aN (show decide (V.str "two"=V.str "cell")=false by decide +kernel) ?_⟩
    refine ⟨_,rfl,a,_,_,_,rfl,rfl,SqT.of e,rfl,rfl,_,rfl,bg (show decide (V.str "two"=V.str "two")=true by decide +kernel) ?_⟩
    refine ⟨_,rfl,a,_,_,_,rfl,rfl,SqT.of e,rfl,_,rfl,a,_,_,_,rfl,rfl,SqT.of e,rfl,_,rfl,a,_,_,_,rfl,rfl,SqT.of e,rfl,_,rfl,a,_,_,_,rfl,rfl,SqT.of e,rfl,fun x0 dx nx nd ne=>⟨x0,dx,_,_,_,_,rfl,ad,rfl,?_⟩⟩
    refine q1 _ _ ?_ (.mk 3 x0 dx [u0,u1,u2,u3] _ (by decide) ad rfl (ta'.same ?_) st')
    all_goals exact az nx (az nx (az nx (az nx (az nx (aj nd)))))
  | @put s x hs hx=>
   cases tv1 with
   | @tup a xs _ e ta=>
    obtain ⟨u0,u1,rfl,ta'⟩:∃ u0 u1,xs=[.str "put",u0,u1]/\TgA p H1 [u0,u1] _:=bZ ta
    refine ⟨_,rfl,a,_,_,_,rfl,rfl,SqT.of e,rfl,rfl,_,rfl,aN (show decide (V.str "put"=V.str "get")=false by decide +kernel) ?_⟩
    refine ⟨_,rfl,a,_,_,_,rfl,rfl,SqT.of e,rfl,rfl,_,rfl,aN (show decide (V.str "put"=V.str "ask")=false by decide +kernel) ?_⟩
    refine ⟨_,rfl,a,_,_,_,rfl,rfl,SqT.of e,rfl,rfl,_,rfl,aN (show decide (V.str "put"=V.str "cell")=false by decide +kernel) ?_⟩
    refine ⟨_,rfl,a,_,_,_,rfl,rfl,SqT.of e,rfl,rfl,_,rfl,aN (show decide (V.str "put"=V.str "two")=false by decide +kernel) ?_⟩
    refine ⟨_,rfl,a,_,_,_,rfl,rfl,SqT.of e,rfl,rfl,_,rfl,bg (show decide (V.str "put"=V.str "put")=true by decide +kernel) ?_⟩
    refine ⟨_,rfl,a,_,_,_,rfl,rfl,SqT.of e,rfl,_,rfl,a,_,_,_,rfl,rfl,SqT.of e,rfl,fun x0 dx nx nd ne=>⟨x0,dx,_,_,rfl,ad,rfl,?_⟩⟩
    refine q1 _ _ ?_ (.mk 4 x0 dx [u0,u1] _ (by decide) ad rfl (ta'.same ?_) st')
    all_goals exact az nx (az nx (az nx (aj nd)))
  | @tell s x hs hx=>
   cases tv1 with
   | @tup a xs _ e ta=>
    obtain ⟨u0,u1,rfl,ta'⟩:∃ u0 u1,xs=[.str "tell",u0,u1]/\TgA p H1 [u0,u1] _:=bZ ta
    refine ⟨_,rfl,a,_,_,_,rfl,rfl,SqT.of e,rfl,rfl,_,rfl,aN (show decide (V.str "tell"=V.str "get")=false by decide +kernel) ?_⟩
    refine ⟨_,rfl,a,_,_,_,rfl,rfl,SqT.of e,rfl,rfl,_,rfl,aN (show decide (V.str "tell"=V.str "ask")=false by decide +kernel) ?_⟩
    refine ⟨_,rfl,a,_,_,_,rfl,rfl,SqT.of e,rfl,rfl,_,rfl,aN (show decide (V.str "tell"=V.str "cell")=false by decide +kernel) ?_⟩
    refine ⟨_,rfl,a,_,_,_,rfl,rfl,SqT.of e,rfl,rfl,_,rfl,aN (show decide (V.str "tell"=V.str "two")=false by decide +kernel) ?_⟩
    refine ⟨_,rfl,a,_,_,_,rfl,rfl,SqT.of e,rfl,rfl,_,rfl,aN (show decide (V.str "tell"=V.str "put")=false by decide +kernel) ?_⟩
    refine ⟨_,rfl,a,_,_,_,rfl,rfl,SqT.of e,rfl,rfl,_,rfl,bg (show decide (V.str "tell"=V.str "tell")=true by decide +kernel) ?_⟩
    refine ⟨_,rfl,a,_,_,_,rfl,rfl,SqT.of e,rfl,_,rfl,a,_,_,_,rfl,rfl,SqT.of e,rfl,fun x0 dx nx nd ne=>⟨x0,dx,_,_,rfl,ad,rfl,?_⟩⟩
    refine q1 _ _ ?_ (.mk 5 x0 dx [u0,u1] _ (by decide) ad rfl (ta'.same ?_) st')
    all_goals exact az nx (az nx (az nx (aj nd)))
  | @store x y hx hy=>
   cases tv1 with
   | @tup a xs _ e ta=>
    obtain ⟨u0,u1,rfl,ta'⟩:∃ u0 u1,xs=[.str "store",u0,u1]/\TgA p H1 [u0,u1] _:=bZ ta
    refine ⟨_,rfl,a,_,_,_,rfl,rfl,SqT.of e,rfl,rfl,_,rfl,aN (show decide (V.str "store"=V.str "get")=false by decide +kernel) ?_⟩
    refine ⟨_,rfl,a,_,_,_,rfl,rfl,SqT.of e,rfl,rfl,_,rfl,aN (show decide (V.str "store"=V.str "ask")=false by decide +kernel) ?_⟩
    refine ⟨_,rfl,a,_,_,_,rfl,rfl,SqT.of e,rfl,rfl,_,rfl,aN (show decide (V.str "store"=V.str "cell")=false by decide +kernel) ?_⟩
    refine ⟨_,rfl,a,_,_,_,rfl,rfl,SqT.of e,rfl,rfl,_,rfl,aN (show decide (V.str "store"=V.str "two")=false by decide +kernel) ?_⟩
    refine ⟨_,rfl,a,_,_,_,rfl,rfl,SqT.of e,rfl,rfl,_,rfl,aN (show decide (V.str "store"=V.str "put")=false by decide +kernel) ?_⟩
    refine ⟨_,rfl,a,_,_,_,rfl,rfl,SqT.of e,rfl,rfl,_,rfl,aN (show decide (V.str "store"=V.str "tell")=false by decide +kernel) ?_⟩
    refine ⟨_,rfl,a,_,_,_,rfl,rfl,SqT.of e,rfl,_,rfl,a,_,_,_,rfl,rfl,SqT.of e,rfl,fun x0 dx nx nd ne=>⟨x0,dx,_,_,rfl,ad,rfl,?_⟩⟩
    refine q1 _ _ ?_ (.mk 6 x0 dx [u0,u1] _ (by decide) ad rfl (ta'.same ?_) st')
    all_goals exact az nx (az nx (az nx (aj nd)))
end
end L3
namespace L3
open PySem L2
def dS (C:Nat->Addr) (k:Nat):Sp:=fun vs H Q _=>∃ (a dx:Addr) (us:List V),vs=[.ref a]/\H a=some (.ins (C k) dx ((qd k).zip us))/\us.length=(qd k).length/\∀ p,H p=none->Q (.ref p) (ax H p (.tup (.str (nO k)::us)))
theorem qg {us:List V} (h:us.length=2):∃ a b,us=[a,b]:=match us,h with|[a,b],_=>⟨a,b,rfl⟩
theorem Ac {us:List V} (h:us.length=4):∃ a b c d,us=[a,b,c,d]:=match us,h with|[a,b,c,d],_=>⟨a,b,c,d,rfl⟩
theorem nQ {i:Int} (h0:0<=i) (h1:i<=16777215):i.natAbs.log2 < 1920:=by
 have hn:i.natAbs<=16777215:=by omega
 have:i.natAbs.log2<=24:=by
  by_cases hz:i.natAbs=0
  ·rw [hz];decide
  ·have:=Nat.log2_lt hz |>.mpr (show i.natAbs < 2 ^ 24 by omega)
   omega
 omega
theorem bb {i:Nat} (h:i<=16777215):((i:Nat):Int).natAbs.log2 < 1920:=nQ (by omega) (by omega)
theorem cY {z:Str} {c:Nat} (hz:z=S [c]) (n:Nat):z++(toString (n:Int):Str)=S (c::dg n):=by
 rw [hz,bw,aQ];rfl
theorem aM {n:Nat} (h:n<=16777215):(dg n).length<=9:=(lN n).2 9 (by decide) (by omega)
theorem aD {l:List Nat} (h:l.length<=10000):(S l).length<=sizeLine:=by rw [ba];exact Aq h (by decide)
theorem dF {l:Nat} {t:Th} (h:SrcT t):be l t=be 114 t:=by
 cases h with
 | fld i hi=>show pre l "field"++_=pre 114 "field"++_;rw [dD,dD]
 | num i hi=>show pre l "number"++_=pre 114 "number"++_;rw [dE,dE]
 | inn i hi=>show pre l "in"++_=pre 114 "in"++_;rw [fe,fe]
theorem jG:∀ o∈opsL,(cp o).length<=2:=by decide +kernel
theorem zk:cp "get r"=cp "get"++[32,114]:=by decide +kernel
theorem mG:(cp "get r").length=5:=by decide +kernel
theorem zn:cp "ask r"=cp "ask"++[32,114]:=by decide +kernel
theorem mH:(cp "ask r").length=5:=by decide +kernel
theorem zo:cp "cell r"=cp "cell"++[32,114]:=by decide +kernel
theorem mI:(cp "cell r").length=6:=by decide +kernel
theorem zp:cp "two r"=cp "two"++[32,114]:=by decide +kernel
theorem gn:(cp "two r").length=5:=by decide +kernel
theorem zq:cp "put "=cp "put"++[32]:=by decide +kernel
theorem mJ:(cp "put ").length=4:=by decide +kernel
theorem zr:cp "tell "=cp "tell"++[32]:=by decide +kernel
theorem mK:(cp "tell ").length=5:=by decide +kernel
theorem zt:cp "store "=cp "store"++[32]:=by decide +kernel
theorem mM:(cp "store ").length=6:=by decide +kernel
theorem bO {p:Addr} {H:Hp} {xs:List V} {a b:Th} (h:TgA p H xs [a,b]):∃ u v,xs=[u,v]/\TgV p H u a/\TgV p H v b:=match h with|.cons h1 (.cons h2 .nil)=>⟨_,_,rfl,h1,h2⟩
theorem lS {p:Addr} {H:Hp} {xs:List V} {a b c d:Th} (h:TgA p H xs [a,b,c,d]):∃ u v y z,xs=[u,v,y,z]/\TgV p H u a/\TgV p H v b/\TgV p H y c/\TgV p H z d:=match h with|.cons h1 (.cons h2 (.cons h3 (.cons h4 .nil)))=>⟨_,_,_,_,rfl,h1,h2,h3,h4⟩
def gu (l:Nat) (ok:Th->Prop):Sp:=fun vs H Q _=>∃ (p:Addr) (v:V) (t:Th),vs=[v]/\TgV p H v t/\ok t/\Q (.str (S (be l t))) H
theorem cC {p:Addr} {H:Hp} {v:V} {x:Str} {i:Int} (h:TgV p H v (.tup [.str x,.int i])):∃ a,v=.ref a/\H a=some (.tup [.str x,.int i]):=by
 cases h with
 | tup e ta=>exact match ta with|.cons (.str _) (.cons (.int _) .nil)=>⟨_,rfl,e⟩
section
variable {P:Program} {w:World} {K:PySem.W.Frag} {mg:Str->Option Value} {base:Heap} {C fi:Nat->Addr}
theorem xC:ap ["sel"] ["sel"] (al uR):=⟨rfl,rfl,rfl,by decide +kernel,rfl,by decide +kernel,by decide +kernel⟩
theorem vk {f:Addr} {fd:FuncData} (F:Fun K "place_words" "place_words" uR f fd):aG P w K mg base bu 1 f fd ["sel"] (gu 112 SelT):=by
 refine F.ok xC (fun vs H Q E h=>?_) (fun cdv A outer s H vs Q E hr h=>?_)
 ·obtain ⟨p,v,t,rfl,_⟩:=h
  rfl
 ·obtain ⟨p,v,t,rfl,tv,st,q⟩:=h
  refine ⟨_,af (ao (cf (av bc (aq au (pv 0) ae (fun _ _=>rfl)) ah (ay _)) (cM (aq au (pv 0) ae (fun _ _=>rfl))) (cM (aq au (pv 0) ae (fun _ _=>rfl))))),?_⟩
  cases st with
  | is i hi=>
   obtain ⟨a,rfl,e⟩:=cC tv
   have eq:be 112 (.tup [.str "is",.int (i:Nat)])=112::dg i:=by show pre 112 "is"++dg i=_;rw [fY];rfl
   rw [eq] at q
   have tx:=cY (z:="p") (c:=112) (by decide +kernel) i
   refine ⟨_,rfl,a,_,_,_,rfl,rfl,SqT.of e,rfl,rfl,_,rfl,bg (by decide +kernel) ⟨_,rfl,a,_,_,_,rfl,rfl,SqT.of e,rfl,i,rfl,bb (by omega),?_,?_⟩⟩
   ·rw [tx];exact aD (by have:=aM (n:=i) (by omega);simp only [Ai];omega)
   ·rw [tx];exact q
  | «by» i hi=>
   obtain ⟨a,rfl,e⟩:=cC tv
   have eq:be 112 (.tup [.str "by",.int (i:Nat)])=102::dg i:=by show pre 112 "by"++dg i=_;rw [fZ];rfl
   rw [eq] at q
   have tx:=cY (z:="f") (c:=102) (by decide +kernel) i
   refine ⟨_,rfl,a,_,_,_,rfl,rfl,SqT.of e,rfl,rfl,_,rfl,aN (by decide +kernel) ⟨_,rfl,a,_,_,_,rfl,rfl,SqT.of e,rfl,i,rfl,bb (by omega),?_,?_⟩⟩
   ·rw [tx];exact aD (by have:=aM (n:=i) (by omega);simp only [Ai];omega)
   ·rw [tx];exact q
theorem xD:ap ["sel"] ["sel"] (al uS):=⟨rfl,rfl,rfl,by decide +kernel,rfl,by decide +kernel,by decide +kernel⟩
theorem vm {f:Addr} {fd:FuncData} (F:Fun K "mark_words" "mark_words" uS f fd):aG P w K mg base bu 1 f fd ["sel"] (gu 109 SelT):=by
 refine F.ok xD (fun vs H Q E h=>?_) (fun cdv A outer s H vs Q E hr h=>?_)
 ·obtain ⟨p,v,t,rfl,_⟩:=h
  rfl
 ·obtain ⟨p,v,t,rfl,tv,st,q⟩:=h
  refine ⟨_,af (ao (cf (av bc (aq au (pv 0) ae (fun _ _=>rfl)) ah (ay _)) (cM (aq au (pv 0) ae (fun _ _=>rfl))) (cM (aq au (pv 0) ae (fun _ _=>rfl))))),?_⟩
  cases st with
  | is i hi=>
   obtain ⟨a,rfl,e⟩:=cC tv
   have eq:be 109 (.tup [.str "is",.int (i:Nat)])=109::dg i:=by show pre 109 "is"++dg i=_;rw [fY];rfl
   rw [eq] at q
   have tx:=cY (z:="m") (c:=109) (by decide +kernel) i
   refine ⟨_,rfl,a,_,_,_,rfl,rfl,SqT.of e,rfl,rfl,_,rfl,bg (by decide +kernel) ⟨_,rfl,a,_,_,_,rfl,rfl,SqT.of e,rfl,i,rfl,bb (by omega),?_,?_⟩⟩
   ·rw [tx];exact aD (by have:=aM (n:=i) (by omega);simp only [Ai];omega)
   ·rw [tx];exact q
  | «by» i hi=>
   obtain ⟨a,rfl,e⟩:=cC tv
   have eq:be 109 (.tup [.str "by",.int (i:Nat)])=102::dg i:=by show pre 109 "by"++dg i=_;rw [fZ];rfl
   rw [eq] at q
   have tx:=cY (z:="f") (c:=102) (by decide +kernel) i
   refine ⟨_,rfl,a,_,_,_,rfl,rfl,SqT.of e,rfl,rfl,_,rfl,aN (by decide +kernel) ⟨_,rfl,a,_,_,_,rfl,rfl,SqT.of e,rfl,i,rfl,bb (by omega),?_,?_⟩⟩
   ·rw [tx];exact aD (by have:=aM (n:=i) (by omega);simp only [Ai];omega)
   ·rw [tx];exact q
theorem xE:ap ["source"] ["source"] (al uQ):=⟨rfl,rfl,rfl,by decide +kernel,rfl,by decide +kernel,by decide +kernel⟩
theorem vn {f:Addr} {fd:FuncData} (F:Fun K "source_words" "source_words" uQ f fd) (B:Bl mg):aG P w K mg base bu 1 f fd ["source"] (gu 114 SrcT):=by
 refine F.ok xE (fun vs H Q E h=>?_) (fun cdv A outer s H vs Q E hr h=>?_)
 ·obtain ⟨p,v,t,rfl,_⟩:=h
  rfl
 ·obtain ⟨p,v,t,rfl,tv,st,q⟩:=h
  refine ⟨_,ak (aI (av bc (aq au (pv 0) ae (fun _ _=>rfl)) ah (ay _)) (af (ao (cM (aq au (pv 0) ae (fun _ _=>rfl))))) aw) (af (ao (cf (av bc (aq au (pv 0) ae (fun _ _=>rfl)) ah (ay _)) (cM (aq au (pv 0) ae (fun _ _=>rfl))) (aZ bB (by rfl) B.str bG (aa (aq au (pv 0) ae (fun _ _=>rfl)) ac))))),?_⟩
  cases st with
  | inn i hi=>
   obtain ⟨a,rfl,e⟩:=cC tv
   have eq:be 114 (.tup [.str "in",.int (i:Nat)])=114::dg i:=by show pre 114 "in"++dg i=_;rw [fe];rfl
   rw [eq] at q
   have tx:=cY (z:="r") (c:=114) (by decide +kernel) i
   refine ⟨_,rfl,a,_,_,_,rfl,rfl,SqT.of e,rfl,rfl,_,rfl,bg (by decide +kernel) ⟨_,rfl,a,_,_,_,rfl,rfl,SqT.of e,rfl,i,rfl,bb (by omega),?_,?_⟩⟩
   ·rw [tx];exact aD (by have:=aM (n:=i) (by omega);simp only [Ai];omega)
   ·rw [tx];exact q
  | fld i hi=>
   obtain ⟨a,rfl,e⟩:=cC tv
   have eq:be 114 (.tup [.str "field",.int (i:Nat)])=102::dg i:=by show pre 114 "field"++dg i=_;rw [dD];rfl
   rw [eq] at q
   have tx:=cY (z:="f") (c:=102) (by decide +kernel) i
   refine ⟨_,rfl,a,_,_,_,rfl,rfl,SqT.of e,rfl,rfl,_,rfl,aN (by decide +kernel) ?_⟩
   refine ⟨_,rfl,a,_,_,_,rfl,rfl,SqT.of e,rfl,rfl,_,rfl,bg (by decide +kernel) ⟨_,rfl,a,_,_,_,rfl,rfl,SqT.of e,rfl,i,rfl,bb (by omega),?_,?_⟩⟩
   ·rw [tx];exact aD (by have:=aM (n:=i) (by omega);simp only [Ai];omega)
   ·rw [tx];exact q
  | num i hi=>
   obtain ⟨a,rfl,e⟩:=cC tv
   have eq:be 114 (.tup [.str "number",.int (i:Nat)])=dg i:=by show pre 114 "number"++dg i=_;rw [dE];rfl
   rw [eq,<-bw] at q
   refine ⟨_,rfl,a,_,_,_,rfl,rfl,SqT.of e,rfl,rfl,_,rfl,aN (by decide +kernel) ?_⟩
   exact ⟨_,rfl,a,_,_,_,rfl,rfl,SqT.of e,rfl,rfl,_,rfl,aN (by decide +kernel) ⟨_,rfl,a,_,_,_,rfl,rfl,SqT.of e,rfl,_,rfl,bb (by omega),q⟩⟩
abbrev vo:Stmt:=a8 (bK 48) 1
theorem xF:ap ["self"] ["self"] (al vo):=⟨rfl,rfl,rfl,by decide +kernel,rfl,by decide +kernel,by decide +kernel⟩
theorem vp {f:Addr} {fd:FuncData} (F:Fun K "told" "Get.told" vo f fd) (T:Ct K mg C fi):aG P w K mg base bu 1 f fd ["self"] (dS C 0):=by
 refine F.ok xF (fun vs H Q E h=>?_) (fun cdv A outer s H vs Q E hr h=>?_)
 ·obtain ⟨a,dx,us,rfl,_⟩:=h
  rfl
 ·obtain ⟨a,dx,us,rfl,ho,hl,q⟩:=h
  obtain ⟨u1,u2,rfl⟩:=qg hl
  refine ⟨_,af (ao (aA (aa ah (aa (aU (pv 0) rfl) (aa (aU (pv 0) rfl) ac))))),?_⟩
  exact ⟨_,rfl,a,C 0,dx,_,_,rfl,ho,T.cls 0 (by decide),T.na 0 (by decide) "to" (by decide +kernel),rfl,_,rfl,a,C 0,dx,_,_,rfl,ho,T.cls 0 (by decide),T.na 0 (by decide) "sel" (by decide +kernel),rfl,(by show 3<=sizeLine;decide),fun t ht=>q t ht⟩
abbrev vq:Stmt:=a8 (bK 49) 1
theorem xG:ap ["self"] ["self"] (al vq):=⟨rfl,rfl,rfl,by decide +kernel,rfl,by decide +kernel,by decide +kernel⟩
theorem vt {f:Addr} {fd:FuncData} (F:Fun K "told" "Ask.told" vq f fd) (T:Ct K mg C fi):aG P w K mg base bu 1 f fd ["self"] (dS C 1):=by
 refine F.ok xG (fun vs H Q E h=>?_) (fun cdv A outer s H vs Q E hr h=>?_)
 ·obtain ⟨a,dx,us,rfl,_⟩:=h
  rfl
 ·obtain ⟨a,dx,us,rfl,ho,hl,q⟩:=h
  obtain ⟨u1,u2,rfl⟩:=qg hl
  refine ⟨_,af (ao (aA (aa ah (aa (aU (pv 0) rfl) (aa (aU (pv 0) rfl) ac))))),?_⟩
  exact ⟨_,rfl,a,C 1,dx,_,_,rfl,ho,T.cls 1 (by decide),T.na 1 (by decide) "to" (by decide +kernel),rfl,_,rfl,a,C 1,dx,_,_,rfl,ho,T.cls 1 (by decide),T.na 1 (by decide) "sel" (by decide +kernel),rfl,(by show 3<=sizeLine;decide),fun t ht=>q t ht⟩
abbrev vw:Stmt:=a8 (bK 50) 1
theorem xH:ap ["self"] ["self"] (al vw):=⟨rfl,rfl,rfl,by decide +kernel,rfl,by decide +kernel,by decide +kernel⟩
theorem vx {f:Addr} {fd:FuncData} (F:Fun K "told" "Cell.told" vw f fd) (T:Ct K mg C fi):aG P w K mg base bu 1 f fd ["self"] (dS C 2):=by
 refine F.ok xH (fun vs H Q E h=>?_) (fun cdv A outer s H vs Q E hr h=>?_)
 ·obtain ⟨a,dx,us,rfl,_⟩:=h
  rfl
 ·obtain ⟨a,dx,us,rfl,ho,hl,q⟩:=h
  obtain ⟨u1,u2,rfl⟩:=qg hl
  refine ⟨_,af (ao (aA (aa ah (aa (aU (pv 0) rfl) (aa (aU (pv 0) rfl) ac))))),?_⟩
  exact ⟨_,rfl,a,C 2,dx,_,_,rfl,ho,T.cls 2 (by decide),T.na 2 (by decide) "to" (by decide +kernel),rfl,_,rfl,a,C 2,dx,_,_,rfl,ho,T.cls 2 (by decide),T.na 2 (by decide) "source" (by decide +kernel),rfl,(by show 3<=sizeLine;decide),fun t ht=>q t ht⟩
abbrev vy:Stmt:=a8 (bK 51) 1
theorem xI:ap ["self"] ["self"] (al vy):=⟨rfl,rfl,rfl,by decide +kernel,rfl,by decide +kernel,by decide +kernel⟩
theorem vz {f:Addr} {fd:FuncData} (F:Fun K "told" "Two.told" vy f fd) (T:Ct K mg C fi):aG P w K mg base bu 1 f fd ["self"] (dS C 3):=by
 refine F.ok xI (fun vs H Q E h=>?_) (fun cdv A outer s H vs Q E hr h=>?_)
 ·obtain ⟨a,dx,us,rfl,_⟩:=h
  rfl
 ·obtain ⟨a,dx,us,rfl,ho,hl,q⟩:=h
  obtain ⟨u1,u2,u3,u4,rfl⟩:=Ac hl
  refine ⟨_,af (ao (aA (aa ah (aa (aU (pv 0) rfl) (aa (aU (pv 0) rfl) (aa (aU (pv 0) rfl) (aa (aU (pv 0) rfl) ac))))))),?_⟩
  exact ⟨_,rfl,a,C 3,dx,_,_,rfl,ho,T.cls 3 (by decide),T.na 3 (by decide) "to" (by decide +kernel),rfl,_,rfl,a,C 3,dx,_,_,rfl,ho,T.cls 3 (by decide),T.na 3 (by decide) "op" (by decide +kernel),rfl,_,rfl,a,C 3,dx,_,_,rfl,ho,T.cls 3 (by decide),T.na 3 (by decide) "one" (by decide +kernel),rfl,_,rfl,a,C 3,dx,_,_,rfl,ho,T.cls 3 (by decide),T.na 3 (by decide) "other" (by decide +kernel),rfl,(by show 5<=sizeLine;decide),fun t ht=>q t ht⟩
abbrev vA:Stmt:=a8 (bK 52) 1
theorem xJ:ap ["self"] ["self"] (al vA):=⟨rfl,rfl,rfl,by decide +kernel,rfl,by decide +kernel,by decide +kernel⟩
theorem vB {f:Addr} {fd:FuncData} (F:Fun K "told" "Put.told" vA f fd) (T:Ct K mg C fi):aG P w K mg base bu 1 f fd ["self"] (dS C 4):=by
 refine F.ok xJ (fun vs H Q E h=>?_) (fun cdv A outer s H vs Q E hr h=>?_)
 ·obtain ⟨a,dx,us,rfl,_⟩:=h
  rfl
 ·obtain ⟨a,dx,us,rfl,ho,hl,q⟩:=h
  obtain ⟨u1,u2,rfl⟩:=qg hl
  refine ⟨_,af (ao (aA (aa ah (aa (aU (pv 0) rfl) (aa (aU (pv 0) rfl) ac))))),?_⟩
  exact ⟨_,rfl,a,C 4,dx,_,_,rfl,ho,T.cls 4 (by decide),T.na 4 (by decide) "sel" (by decide +kernel),rfl,_,rfl,a,C 4,dx,_,_,rfl,ho,T.cls 4 (by decide),T.na 4 (by decide) "source" (by decide +kernel),rfl,(by show 3<=sizeLine;decide),fun t ht=>q t ht⟩
abbrev vC:Stmt:=a8 (bK 53) 1
theorem xK:ap ["self"] ["self"] (al vC):=⟨rfl,rfl,rfl,by decide +kernel,rfl,by decide +kernel,by decide +kernel⟩
theorem vD {f:Addr} {fd:FuncData} (F:Fun K "told" "Tell.told" vC f fd) (T:Ct K mg C fi):aG P w K mg base bu 1 f fd ["self"] (dS C 5):=by
 refine F.ok xK (fun vs H Q E h=>?_) (fun cdv A outer s H vs Q E hr h=>?_)
 ·obtain ⟨a,dx,us,rfl,_⟩:=h
  rfl
 ·obtain ⟨a,dx,us,rfl,ho,hl,q⟩:=h
  obtain ⟨u1,u2,rfl⟩:=qg hl
  refine ⟨_,af (ao (aA (aa ah (aa (aU (pv 0) rfl) (aa (aU (pv 0) rfl) ac))))),?_⟩
  exact ⟨_,rfl,a,C 5,dx,_,_,rfl,ho,T.cls 5 (by decide),T.na 5 (by decide) "sel" (by decide +kernel),rfl,_,rfl,a,C 5,dx,_,_,rfl,ho,T.cls 5 (by decide),T.na 5 (by decide) "source" (by decide +kernel),rfl,(by show 3<=sizeLine;decide),fun t ht=>q t ht⟩
abbrev vE:Stmt:=a8 (bK 54) 1
theorem xM:ap ["self"] ["self"] (al vE):=⟨rfl,rfl,rfl,by decide +kernel,rfl,by decide +kernel,by decide +kernel⟩
theorem vF {f:Addr} {fd:FuncData} (F:Fun K "told" "Store.told" vE f fd) (T:Ct K mg C fi):aG P w K mg base bu 1 f fd ["self"] (dS C 6):=by
 refine F.ok xM (fun vs H Q E h=>?_) (fun cdv A outer s H vs Q E hr h=>?_)
 ·obtain ⟨a,dx,us,rfl,_⟩:=h
  rfl
 ·obtain ⟨a,dx,us,rfl,ho,hl,q⟩:=h
  obtain ⟨u1,u2,rfl⟩:=qg hl
  refine ⟨_,af (ao (aA (aa ah (aa (aU (pv 0) rfl) (aa (aU (pv 0) rfl) ac))))),?_⟩
  exact ⟨_,rfl,a,C 6,dx,_,_,rfl,ho,T.cls 6 (by decide),T.na 6 (by decide) "at" (by decide +kernel),rfl,_,rfl,a,C 6,dx,_,_,rfl,ho,T.cls 6 (by decide),T.na 6 (by decide) "source" (by decide +kernel),rfl,(by show 3<=sizeLine;decide),fun t ht=>q t ht⟩
def cZ (C:Nat->Addr) (k:Nat):Sp:=fun vs H Q _=>∃ (p a dx:Addr) (us:List V) (ts:List Th),vs=[.ref a]/\H a=some (.ins (C k) dx ((qd k).zip us))/\us.length=(qd k).length/\TgA p H us ts/\StpT (.tup (.str (nO k)::ts))/\Q (.str (S (cD (.tup (.str (nO k)::ts))))) H
theorem bd {l:Nat} {t:Th} (h:SelT t\/SrcT t):(be l t).length<=10:=by
 have key:∀ (k:Str) (i:Nat),i<=16777215->(pre l k).length<=1->(be l (.tup [.str k,.int (i:Nat)])).length<=10:=fun k i hi hp=>by
  show (pre l k++dg i).length<=10
  have:=aM hi
  rw [Ah];omega
 rcases h with h|h
 ·cases h with
  | is i hi=>exact key _ i (by omega) (by rw [fY];simp)
  | «by» i hi=>exact key _ i (by omega) (by rw [fZ];simp)
 ·cases h with
  | fld i hi=>exact key _ i (by omega) (by rw [dD];simp)
  | num i hi=>exact key _ i (by omega) (by rw [dE];simp)
  | inn i hi=>exact key _ i (by omega) (by rw [fe];simp)
abbrev zu:Stmt:=a8 (bK 48) 2
theorem zv:ap ["self"] ["self"] (al zu):=⟨rfl,rfl,rfl,by decide +kernel,rfl,by decide +kernel,by decide +kernel⟩
set_option maxHeartbeats 2000000 in
theorem xN {f:Addr} {fd:FuncData} (F:Fun K "words" "Get.words" zu f fd) (T:Ct K mg C fi) (PL:Fn P w K mg base "place_words" 1 ["sel"] (gu 112 SelT)):aG P w K mg base bu 2 f fd ["self"] (cZ C 0):=by
 refine F.ok zv (fun vs H Q E h=>?_) (fun cdv A outer s H vs Q E hr h=>?_)
 ·obtain ⟨p,a,dx,us,ts,rfl,_⟩:=h
  rfl
 ·obtain ⟨p,a,dx,us,ts,rfl,ho,hl,ta,st,q⟩:=h
  have hr1:Room 1 _:=hr
  refine ⟨_,af (ao (bY (bt (bh (aU (pv 0) rfl) (bt (bh (am PL hr1 rfl (aa (aU (pv 0) rfl) ac)) cA)))))),?_⟩
  generalize ht:Th.tup (.str (nO 0)::ts)=t at *
  cases st with
  | @get k s hk hs=>
   have hts:=(Am (Th.tup.inj ht)).2
   subst hts
   obtain ⟨u0,u1,rfl,t0,t1⟩:=bO ta
   cases t0
   have l0:=aM (n:=k) (by omega)
   have l1:=bd (l:=112) (.inl hs)
   have eL:(Str.empty++("get r":Str))=S (cp "get r"):=by decide +kernel
   have eB:(" ":Str)=S [32]:=by decide +kernel
   refine ⟨by rw [eL];exact aD (by decide +kernel),?_⟩
   rw [eL]
   refine ⟨_,rfl,a,C 0,dx,_,_,rfl,ho,T.cls 0 (by decide),T.na 0 (by decide) "to" (by decide +kernel),rfl,.inl ⟨k,rfl,bb (by omega),?_⟩⟩
   rw [bw,aQ]
   refine ⟨aD ?_,?_⟩
   ·simp only [Ah,Ai,Ak,mG];omega
   rw [eB,aQ]
   refine ⟨aD ?_,?_⟩
   ·simp only [Ah,Ai,Ak,mG];omega
   refine ⟨_,rfl,a,C 0,dx,_,_,rfl,ho,T.cls 0 (by decide),T.na 0 (by decide) "sel" (by decide +kernel),rfl,p,_,_,rfl,t1,hs,.inr ⟨_,rfl,aD (by omega),?_⟩⟩
   rw [aQ]
   refine ⟨aD ?_,?_⟩
   ·simp only [Ah,Ai,Ak,mG];omega
   refine ⟨aD ?_,?_⟩
   ·simp only [Ah,Ai,Ak,mG];omega
   have et:cD (.tup [.str "get",.int (k:Nat),s])=TK.jn [32] [cp "get",114::dg k,be 112 s]:=by
    show TK.jn [32] [cp "get",114::dg k,be (bH "get") s]=_
    rw [jA]
   rw [et] at q
   have ez:cp "get r"++dg k++[32]++be 112 s=TK.jn [32] [cp "get",114::dg k,be 112 s]:=by
    rw [zk]
    simp only [TK.jn,Az,Bf,Bj]
   rw [ez]
   exact q
  | ask _ _ _=>exact absurd (Th.str.inj (Am (Th.tup.inj ht)).1) (by decide +kernel)
  | cell _ _ _=>exact absurd (Th.str.inj (Am (Th.tup.inj ht)).1) (by decide +kernel)
  | two _ _ _ _ _=>exact absurd (Th.str.inj (Am (Th.tup.inj ht)).1) (by decide +kernel)
  | put _ _=>exact absurd (Th.str.inj (Am (Th.tup.inj ht)).1) (by decide +kernel)
  | tell _ _=>exact absurd (Th.str.inj (Am (Th.tup.inj ht)).1) (by decide +kernel)
  | store _ _=>exact absurd (Th.str.inj (Am (Th.tup.inj ht)).1) (by decide +kernel)
abbrev zw:Stmt:=a8 (bK 49) 2
theorem zx:ap ["self"] ["self"] (al zw):=⟨rfl,rfl,rfl,by decide +kernel,rfl,by decide +kernel,by decide +kernel⟩
set_option maxHeartbeats 2000000 in
theorem xO {f:Addr} {fd:FuncData} (F:Fun K "words" "Ask.words" zw f fd) (T:Ct K mg C fi) (ML:Fn P w K mg base "mark_words" 1 ["sel"] (gu 109 SelT)):aG P w K mg base bu 2 f fd ["self"] (cZ C 1):=by
 refine F.ok zx (fun vs H Q E h=>?_) (fun cdv A outer s H vs Q E hr h=>?_)
 ·obtain ⟨p,a,dx,us,ts,rfl,_⟩:=h
  rfl
 ·obtain ⟨p,a,dx,us,ts,rfl,ho,hl,ta,st,q⟩:=h
  have hr1:Room 1 _:=hr
  refine ⟨_,af (ao (bY (bt (bh (aU (pv 0) rfl) (bt (bh (am ML hr1 rfl (aa (aU (pv 0) rfl) ac)) cA)))))),?_⟩
  generalize ht:Th.tup (.str (nO 1)::ts)=t at *
  cases st with
  | get _ _ _=>exact absurd (Th.str.inj (Am (Th.tup.inj ht)).1) (by decide +kernel)
  | @ask k s hk hs=>
   have hts:=(Am (Th.tup.inj ht)).2
   subst hts
   obtain ⟨u0,u1,rfl,t0,t1⟩:=bO ta
   cases t0
   have l0:=aM (n:=k) (by omega)
   have l1:=bd (l:=109) (.inl hs)
   have eL:(Str.empty++("ask r":Str))=S (cp "ask r"):=by decide +kernel
   have eB:(" ":Str)=S [32]:=by decide +kernel
   refine ⟨by rw [eL];exact aD (by decide +kernel),?_⟩
   rw [eL]
   refine ⟨_,rfl,a,C 1,dx,_,_,rfl,ho,T.cls 1 (by decide),T.na 1 (by decide) "to" (by decide +kernel),rfl,.inl ⟨k,rfl,bb (by omega),?_⟩⟩
   rw [bw,aQ]
   refine ⟨aD ?_,?_⟩
   ·simp only [Ah,Ai,Ak,mH];omega
   rw [eB,aQ]
   refine ⟨aD ?_,?_⟩
   ·simp only [Ah,Ai,Ak,mH];omega
   refine ⟨_,rfl,a,C 1,dx,_,_,rfl,ho,T.cls 1 (by decide),T.na 1 (by decide) "sel" (by decide +kernel),rfl,p,_,_,rfl,t1,hs,.inr ⟨_,rfl,aD (by omega),?_⟩⟩
   rw [aQ]
   refine ⟨aD ?_,?_⟩
   ·simp only [Ah,Ai,Ak,mH];omega
   refine ⟨aD ?_,?_⟩
   ·simp only [Ah,Ai,Ak,mH];omega
   have et:cD (.tup [.str "ask",.int (k:Nat),s])=TK.jn [32] [cp "ask",114::dg k,be 109 s]:=by
    show TK.jn [32] [cp "ask",114::dg k,be (bH "ask") s]=_
    rw [jC]
   rw [et] at q
   have ez:cp "ask r"++dg k++[32]++be 109 s=TK.jn [32] [cp "ask",114::dg k,be 109 s]:=by
    rw [zn]
    simp only [TK.jn,Az,Bf,Bj]
   rw [ez]
   exact q
  | cell _ _ _=>exact absurd (Th.str.inj (Am (Th.tup.inj ht)).1) (by decide +kernel)
  | two _ _ _ _ _=>exact absurd (Th.str.inj (Am (Th.tup.inj ht)).1) (by decide +kernel)
  | put _ _=>exact absurd (Th.str.inj (Am (Th.tup.inj ht)).1) (by decide +kernel)
  | tell _ _=>exact absurd (Th.str.inj (Am (Th.tup.inj ht)).1) (by decide +kernel)
  | store _ _=>exact absurd (Th.str.inj (Am (Th.tup.inj ht)).1) (by decide +kernel)
abbrev zy:Stmt:=a8 (bK 50) 2
theorem zz:ap ["self"] ["self"] (al zy):=⟨rfl,rfl,rfl,by decide +kernel,rfl,by decide +kernel,by decide +kernel⟩
set_option maxHeartbeats 2000000 in
theorem xP {f:Addr} {fd:FuncData} (F:Fun K "words" "Cell.words" zy f fd) (T:Ct K mg C fi) (SL:Fn P w K mg base "source_words" 1 ["source"] (gu 114 SrcT)):aG P w K mg base bu 2 f fd ["self"] (cZ C 2):=by
 refine F.ok zz (fun vs H Q E h=>?_) (fun cdv A outer s H vs Q E hr h=>?_)
 ·obtain ⟨p,a,dx,us,ts,rfl,_⟩:=h
  rfl
 ·obtain ⟨p,a,dx,us,ts,rfl,ho,hl,ta,st,q⟩:=h
  have hr1:Room 1 _:=hr
  refine ⟨_,af (ao (bY (bt (bh (aU (pv 0) rfl) (bt (bh (am SL hr1 rfl (aa (aU (pv 0) rfl) ac)) cA)))))),?_⟩
  generalize ht:Th.tup (.str (nO 2)::ts)=t at *
  cases st with
  | get _ _ _=>exact absurd (Th.str.inj (Am (Th.tup.inj ht)).1) (by decide +kernel)
  | ask _ _ _=>exact absurd (Th.str.inj (Am (Th.tup.inj ht)).1) (by decide +kernel)
  | @cell k s hk hs=>
   have hts:=(Am (Th.tup.inj ht)).2
   subst hts
   obtain ⟨u0,u1,rfl,t0,t1⟩:=bO ta
   cases t0
   have l0:=aM (n:=k) (by omega)
   have l1:=bd (l:=114) (.inr hs)
   have eL:(Str.empty++("cell r":Str))=S (cp "cell r"):=by decide +kernel
   have eB:(" ":Str)=S [32]:=by decide +kernel
   refine ⟨by rw [eL];exact aD (by decide +kernel),?_⟩
   rw [eL]
   refine ⟨_,rfl,a,C 2,dx,_,_,rfl,ho,T.cls 2 (by decide),T.na 2 (by decide) "to" (by decide +kernel),rfl,.inl ⟨k,rfl,bb (by omega),?_⟩⟩
   rw [bw,aQ]
   refine ⟨aD ?_,?_⟩
   ·simp only [Ah,Ai,Ak,mI];omega
   rw [eB,aQ]
   refine ⟨aD ?_,?_⟩
   ·simp only [Ah,Ai,Ak,mI];omega
   refine ⟨_,rfl,a,C 2,dx,_,_,rfl,ho,T.cls 2 (by decide),T.na 2 (by decide) "source" (by decide +kernel),rfl,p,_,_,rfl,t1,hs,.inr ⟨_,rfl,aD (by omega),?_⟩⟩
   rw [aQ]
   refine ⟨aD ?_,?_⟩
   ·simp only [Ah,Ai,Ak,mI];omega
   refine ⟨aD ?_,?_⟩
   ·simp only [Ah,Ai,Ak,mI];omega
   have et:cD (.tup [.str "cell",.int (k:Nat),s])=TK.jn [32] [cp "cell",114::dg k,be 114 s]:=by
    show TK.jn [32] [cp "cell",114::dg k,be (bH "cell") s]=_
    rw [dF (l:=bH "cell") hs]
   rw [et] at q
   have ez:cp "cell r"++dg k++[32]++be 114 s=TK.jn [32] [cp "cell",114::dg k,be 114 s]:=by
    rw [zo]
    simp only [TK.jn,Az,Bf,Bj]
   rw [ez]
   exact q
  | two _ _ _ _ _=>exact absurd (Th.str.inj (Am (Th.tup.inj ht)).1) (by decide +kernel)
  | put _ _=>exact absurd (Th.str.inj (Am (Th.tup.inj ht)).1) (by decide +kernel)
  | tell _ _=>exact absurd (Th.str.inj (Am (Th.tup.inj ht)).1) (by decide +kernel)
  | store _ _=>exact absurd (Th.str.inj (Am (Th.tup.inj ht)).1) (by decide +kernel)
abbrev zA:Stmt:=a8 (bK 51) 2
theorem zB:ap ["self"] ["self"] (al zA):=⟨rfl,rfl,rfl,by decide +kernel,rfl,by decide +kernel,by decide +kernel⟩
set_option maxHeartbeats 2000000 in
theorem xQ {f:Addr} {fd:FuncData} (F:Fun K "words" "Two.words" zA f fd) (T:Ct K mg C fi) (SL:Fn P w K mg base "source_words" 1 ["source"] (gu 114 SrcT)):aG P w K mg base bu 2 f fd ["self"] (cZ C 3):=by
 refine F.ok zB (fun vs H Q E h=>?_) (fun cdv A outer s H vs Q E hr h=>?_)
 ·obtain ⟨p,a,dx,us,ts,rfl,_⟩:=h
  rfl
 ·obtain ⟨p,a,dx,us,ts,rfl,ho,hl,ta,st,q⟩:=h
  have hr1:Room 1 _:=hr
  refine ⟨_,af (ao (bY (bt (bh (aU (pv 0) rfl) (bt (bh (aU (pv 0) rfl) (bt (bh (am SL hr1 rfl (aa (aU (pv 0) rfl) ac)) (bt (bh (am SL hr1 rfl (aa (aU (pv 0) rfl) ac)) cA)))))))))),?_⟩
  generalize ht:Th.tup (.str (nO 3)::ts)=t at *
  cases st with
  | get _ _ _=>exact absurd (Th.str.inj (Am (Th.tup.inj ht)).1) (by decide +kernel)
  | ask _ _ _=>exact absurd (Th.str.inj (Am (Th.tup.inj ht)).1) (by decide +kernel)
  | cell _ _ _=>exact absurd (Th.str.inj (Am (Th.tup.inj ht)).1) (by decide +kernel)
  | @two k o x y hk ho' hx hy=>
   have hts:=(Am (Th.tup.inj ht)).2
   subst hts
   obtain ⟨u0,u1,u2,u3,rfl,t0,t1,t2,t3⟩:=lS ta
   cases t0
   cases t1
   have l0:=aM (n:=k) (by omega)
   have l1:=jG o ho'
   have l2:=bd (l:=114) (.inr hx)
   have l3:=bd (l:=114) (.inr hy)
   have eL:(Str.empty++("two r":Str))=S (cp "two r"):=by decide +kernel
   have eB:(" ":Str)=S [32]:=by decide +kernel
   refine ⟨by rw [eL];exact aD (by decide +kernel),?_⟩
   rw [eL]
   refine ⟨_,rfl,a,C 3,dx,_,_,rfl,ho,T.cls 3 (by decide),T.na 3 (by decide) "to" (by decide +kernel),rfl,.inl ⟨k,rfl,bb (by omega),?_⟩⟩
   rw [bw,aQ]
   refine ⟨aD ?_,?_⟩
   ·simp only [Ah,Ai,Ak,gn];omega
   rw [eB,aQ]
   refine ⟨aD ?_,?_⟩
   ·simp only [Ah,Ai,Ak,gn];omega
   refine ⟨_,rfl,a,C 3,dx,_,_,rfl,ho,T.cls 3 (by decide),T.na 3 (by decide) "op" (by decide +kernel),rfl,.inr ⟨o,rfl,?_⟩⟩
   rw [<-bo o,aQ]
   refine ⟨aD (by omega),aD ?_,?_⟩
   ·simp only [Ah,Ai,Ak,gn];omega
   rw [aQ]
   refine ⟨aD ?_,?_⟩
   ·simp only [Ah,Ai,Ak,gn];omega
   refine ⟨_,rfl,a,C 3,dx,_,_,rfl,ho,T.cls 3 (by decide),T.na 3 (by decide) "one" (by decide +kernel),rfl,p,_,_,rfl,t2,hx,.inr ⟨_,rfl,aD (by omega),?_⟩⟩
   rw [aQ]
   refine ⟨aD ?_,?_⟩
   ·simp only [Ah,Ai,Ak,gn];omega
   rw [aQ]
   refine ⟨aD ?_,?_⟩
   ·simp only [Ah,Ai,Ak,gn];omega
   refine ⟨_,rfl,a,C 3,dx,_,_,rfl,ho,T.cls 3 (by decide),T.na 3 (by decide) "other" (by decide +kernel),rfl,p,_,_,rfl,t3,hy,.inr ⟨_,rfl,aD (by omega),?_⟩⟩
   rw [aQ]
   refine ⟨aD ?_,?_⟩
   ·simp only [Ah,Ai,Ak,gn];omega
   refine ⟨aD ?_,?_⟩
   ·simp only [Ah,Ai,Ak,gn];omega
   have et:cD (.tup [.str "two",.int (k:Nat),.str o,x,y])=TK.jn [32] [cp "two",114::dg k,cp o,be 114 x,be 114 y]:=by
    show TK.jn [32] [cp "two",114::dg k,cp o,be (bH "two") x,be (bH "two") y]=_
    rw [dF (l:=bH "two") hx,dF (l:=bH "two") hy]
   rw [et] at q
   have ez:cp "two r"++dg k++[32]++cp o++[32]++be 114 x++[32]++be 114 y=TK.jn [32] [cp "two",114::dg k,cp o,be 114 x,be 114 y]:=by
    rw [zp]
    simp only [TK.jn,Az,Bf,Bj]
   rw [ez]
   exact q
  | put _ _=>exact absurd (Th.str.inj (Am (Th.tup.inj ht)).1) (by decide +kernel)
  | tell _ _=>exact absurd (Th.str.inj (Am (Th.tup.inj ht)).1) (by decide +kernel)
  | store _ _=>exact absurd (Th.str.inj (Am (Th.tup.inj ht)).1) (by decide +kernel)
abbrev zC:Stmt:=a8 (bK 52) 2
theorem zD:ap ["self"] ["self"] (al zC):=⟨rfl,rfl,rfl,by decide +kernel,rfl,by decide +kernel,by decide +kernel⟩
set_option maxHeartbeats 2000000 in
theorem xS {f:Addr} {fd:FuncData} (F:Fun K "words" "Put.words" zC f fd) (T:Ct K mg C fi) (PL:Fn P w K mg base "place_words" 1 ["sel"] (gu 112 SelT)) (SL:Fn P w K mg base "source_words" 1 ["source"] (gu 114 SrcT)):aG P w K mg base bu 2 f fd ["self"] (cZ C 4):=by
 refine F.ok zD (fun vs H Q E h=>?_) (fun cdv A outer s H vs Q E hr h=>?_)
 ·obtain ⟨p,a,dx,us,ts,rfl,_⟩:=h
  rfl
 ·obtain ⟨p,a,dx,us,ts,rfl,ho,hl,ta,st,q⟩:=h
  have hr1:Room 1 _:=hr
  refine ⟨_,af (ao (bY (bt (bh (am PL hr1 rfl (aa (aU (pv 0) rfl) ac)) (bt (bh (am SL hr1 rfl (aa (aU (pv 0) rfl) ac)) cA)))))),?_⟩
  generalize ht:Th.tup (.str (nO 4)::ts)=t at *
  cases st with
  | get _ _ _=>exact absurd (Th.str.inj (Am (Th.tup.inj ht)).1) (by decide +kernel)
  | ask _ _ _=>exact absurd (Th.str.inj (Am (Th.tup.inj ht)).1) (by decide +kernel)
  | cell _ _ _=>exact absurd (Th.str.inj (Am (Th.tup.inj ht)).1) (by decide +kernel)
  | two _ _ _ _ _=>exact absurd (Th.str.inj (Am (Th.tup.inj ht)).1) (by decide +kernel)
  | @put s x hs hx=>
   have hts:=(Am (Th.tup.inj ht)).2
   subst hts
   obtain ⟨u0,u1,rfl,t0,t1⟩:=bO ta
   have l0:=bd (l:=112) (.inl hs)
   have l1:=bd (l:=114) (.inr hx)
   have eL:(Str.empty++("put ":Str))=S (cp "put "):=by decide +kernel
   have eB:(" ":Str)=S [32]:=by decide +kernel
   refine ⟨by rw [eL];exact aD (by decide +kernel),?_⟩
   rw [eL]
   refine ⟨_,rfl,a,C 4,dx,_,_,rfl,ho,T.cls 4 (by decide),T.na 4 (by decide) "sel" (by decide +kernel),rfl,p,_,_,rfl,t0,hs,.inr ⟨_,rfl,aD (by omega),?_⟩⟩
   rw [aQ]
   refine ⟨aD ?_,?_⟩
   ·simp only [Ah,Ai,Ak,mJ];omega
   rw [eB,aQ]
   refine ⟨aD ?_,?_⟩
   ·simp only [Ah,Ai,Ak,mJ];omega
   refine ⟨_,rfl,a,C 4,dx,_,_,rfl,ho,T.cls 4 (by decide),T.na 4 (by decide) "source" (by decide +kernel),rfl,p,_,_,rfl,t1,hx,.inr ⟨_,rfl,aD (by omega),?_⟩⟩
   rw [aQ]
   refine ⟨aD ?_,?_⟩
   ·simp only [Ah,Ai,Ak,mJ];omega
   refine ⟨aD ?_,?_⟩
   ·simp only [Ah,Ai,Ak,mJ];omega
   have et:cD (.tup [.str "put",s,x])=TK.jn [32] [cp "put",be 112 s,be 114 x]:=by
    show TK.jn [32] [cp "put",be (bH "put") s,be (bH "put") x]=_
    rw [dF (l:=bH "put") hx,jB]
   rw [et] at q
   have ez:cp "put "++be 112 s++[32]++be 114 x=TK.jn [32] [cp "put",be 112 s,be 114 x]:=by
    rw [zq]
    simp only [TK.jn,Az,Bf,Bj]
   rw [ez]
   exact q
  | tell _ _=>exact absurd (Th.str.inj (Am (Th.tup.inj ht)).1) (by decide +kernel)
  | store _ _=>exact absurd (Th.str.inj (Am (Th.tup.inj ht)).1) (by decide +kernel)
abbrev zE:Stmt:=a8 (bK 53) 2
theorem zF:ap ["self"] ["self"] (al zE):=⟨rfl,rfl,rfl,by decide +kernel,rfl,by decide +kernel,by decide +kernel⟩
set_option maxHeartbeats 2000000 in
theorem xT {f:Addr} {fd:FuncData} (F:Fun K "words" "Tell.words" zE f fd) (T:Ct K mg C fi) (ML:Fn P w K mg base "mark_words" 1 ["sel"] (gu 109 SelT)) (SL:Fn P w K mg base "source_words" 1 ["source"] (gu 114 SrcT)):aG P w K mg base bu 2 f fd ["self"] (cZ C 5):=by
 refine F.ok zF (fun vs H Q E h=>?_) (fun cdv A outer s H vs Q E hr h=>?_)
 ·obtain ⟨p,a,dx,us,ts,rfl,_⟩:=h
  rfl
 ·obtain ⟨p,a,dx,us,ts,rfl,ho,hl,ta,st,q⟩:=h
  have hr1:Room 1 _:=hr
  refine ⟨_,af (ao (bY (bt (bh (am ML hr1 rfl (aa (aU (pv 0) rfl) ac)) (bt (bh (am SL hr1 rfl (aa (aU (pv 0) rfl) ac)) cA)))))),?_⟩
  generalize ht:Th.tup (.str (nO 5)::ts)=t at *
  cases st with
  | get _ _ _=>exact absurd (Th.str.inj (Am (Th.tup.inj ht)).1) (by decide +kernel)
  | ask _ _ _=>exact absurd (Th.str.inj (Am (Th.tup.inj ht)).1) (by decide +kernel)
  | cell _ _ _=>exact absurd (Th.str.inj (Am (Th.tup.inj ht)).1) (by decide +kernel)
  | two _ _ _ _ _=>exact absurd (Th.str.inj (Am (Th.tup.inj ht)).1) (by decide +kernel)
  | put _ _=>exact absurd (Th.str.inj (Am (Th.tup.inj ht)).1) (by decide +kernel)
  | @tell s x hs hx=>
   have hts:=(Am (Th.tup.inj ht)).2
   subst hts
   obtain ⟨u0,u1,rfl,t0,t1⟩:=bO ta
   have l0:=bd (l:=109) (.inl hs)
   have l1:=bd (l:=114) (.inr hx)
   have eL:(Str.empty++("tell ":Str))=S (cp "tell "):=by decide +kernel
   have eB:(" ":Str)=S [32]:=by decide +kernel
   refine ⟨by rw [eL];exact aD (by decide +kernel),?_⟩
   rw [eL]
   refine ⟨_,rfl,a,C 5,dx,_,_,rfl,ho,T.cls 5 (by decide),T.na 5 (by decide) "sel" (by decide +kernel),rfl,p,_,_,rfl,t0,hs,.inr ⟨_,rfl,aD (by omega),?_⟩⟩
   rw [aQ]
   refine ⟨aD ?_,?_⟩
   ·simp only [Ah,Ai,Ak,mK];omega
   rw [eB,aQ]
   refine ⟨aD ?_,?_⟩
   ·simp only [Ah,Ai,Ak,mK];omega
   refine ⟨_,rfl,a,C 5,dx,_,_,rfl,ho,T.cls 5 (by decide),T.na 5 (by decide) "source" (by decide +kernel),rfl,p,_,_,rfl,t1,hx,.inr ⟨_,rfl,aD (by omega),?_⟩⟩
   rw [aQ]
   refine ⟨aD ?_,?_⟩
   ·simp only [Ah,Ai,Ak,mK];omega
   refine ⟨aD ?_,?_⟩
   ·simp only [Ah,Ai,Ak,mK];omega
   have et:cD (.tup [.str "tell",s,x])=TK.jn [32] [cp "tell",be 109 s,be 114 x]:=by
    show TK.jn [32] [cp "tell",be (bH "tell") s,be (bH "tell") x]=_
    rw [dF (l:=bH "tell") hx,hJ]
   rw [et] at q
   have ez:cp "tell "++be 109 s++[32]++be 114 x=TK.jn [32] [cp "tell",be 109 s,be 114 x]:=by
    rw [zr]
    simp only [TK.jn,Az,Bf,Bj]
   rw [ez]
   exact q
  | store _ _=>exact absurd (Th.str.inj (Am (Th.tup.inj ht)).1) (by decide +kernel)
abbrev zG:Stmt:=a8 (bK 54) 2
theorem zH:ap ["self"] ["self"] (al zG):=⟨rfl,rfl,rfl,by decide +kernel,rfl,by decide +kernel,by decide +kernel⟩
set_option maxHeartbeats 2000000 in
theorem xU {f:Addr} {fd:FuncData} (F:Fun K "words" "Store.words" zG f fd) (T:Ct K mg C fi) (SL:Fn P w K mg base "source_words" 1 ["source"] (gu 114 SrcT)):aG P w K mg base bu 2 f fd ["self"] (cZ C 6):=by
 refine F.ok zH (fun vs H Q E h=>?_) (fun cdv A outer s H vs Q E hr h=>?_)
 ·obtain ⟨p,a,dx,us,ts,rfl,_⟩:=h
  rfl
 ·obtain ⟨p,a,dx,us,ts,rfl,ho,hl,ta,st,q⟩:=h
  have hr1:Room 1 _:=hr
  refine ⟨_,af (ao (bY (bt (bh (am SL hr1 rfl (aa (aU (pv 0) rfl) ac)) (bt (bh (am SL hr1 rfl (aa (aU (pv 0) rfl) ac)) cA)))))),?_⟩
  generalize ht:Th.tup (.str (nO 6)::ts)=t at *
  cases st with
  | get _ _ _=>exact absurd (Th.str.inj (Am (Th.tup.inj ht)).1) (by decide +kernel)
  | ask _ _ _=>exact absurd (Th.str.inj (Am (Th.tup.inj ht)).1) (by decide +kernel)
  | cell _ _ _=>exact absurd (Th.str.inj (Am (Th.tup.inj ht)).1) (by decide +kernel)
  | two _ _ _ _ _=>exact absurd (Th.str.inj (Am (Th.tup.inj ht)).1) (by decide +kernel)
  | put _ _=>exact absurd (Th.str.inj (Am (Th.tup.inj ht)).1) (by decide +kernel)
  | tell _ _=>exact absurd (Th.str.inj (Am (Th.tup.inj ht)).1) (by decide +kernel)
  | @store x y hx hy=>
   have hts:=(Am (Th.tup.inj ht)).2
   subst hts
   obtain ⟨u0,u1,rfl,t0,t1⟩:=bO ta
   have l0:=bd (l:=114) (.inr hx)
   have l1:=bd (l:=114) (.inr hy)
   have eL:(Str.empty++("store ":Str))=S (cp "store "):=by decide +kernel
   have eB:(" ":Str)=S [32]:=by decide +kernel
   refine ⟨by rw [eL];exact aD (by decide +kernel),?_⟩
   rw [eL]
   refine ⟨_,rfl,a,C 6,dx,_,_,rfl,ho,T.cls 6 (by decide),T.na 6 (by decide) "at" (by decide +kernel),rfl,p,_,_,rfl,t0,hx,.inr ⟨_,rfl,aD (by omega),?_⟩⟩
   rw [aQ]
   refine ⟨aD ?_,?_⟩
   ·simp only [Ah,Ai,Ak,mM];omega
   rw [eB,aQ]
   refine ⟨aD ?_,?_⟩
   ·simp only [Ah,Ai,Ak,mM];omega
   refine ⟨_,rfl,a,C 6,dx,_,_,rfl,ho,T.cls 6 (by decide),T.na 6 (by decide) "source" (by decide +kernel),rfl,p,_,_,rfl,t1,hy,.inr ⟨_,rfl,aD (by omega),?_⟩⟩
   rw [aQ]
   refine ⟨aD ?_,?_⟩
   ·simp only [Ah,Ai,Ak,mM];omega
   refine ⟨aD ?_,?_⟩
   ·simp only [Ah,Ai,Ak,mM];omega
   have et:cD (.tup [.str "store",x,y])=TK.jn [32] [cp "store",be 114 x,be 114 y]:=by
    show TK.jn [32] [cp "store",be (bH "store") x,be (bH "store") y]=_
    rw [dF (l:=bH "store") hx,dF (l:=bH "store") hy]
   rw [et] at q
   have ez:cp "store "++be 114 x++[32]++be 114 y=TK.jn [32] [cp "store",be 114 x,be 114 y]:=by
    rw [zt]
    simp only [TK.jn,Az,Bf,Bj]
   rw [ez]
   exact q
end
end L3
namespace L2
open PySem PySem.Spec PyProof.Rows
section
variable {X:Cx}
def vG (P:Program) (w:World) (K:PySem.W.Frag) (mg:Str->Option Value) (base:Heap) (k:Nat) (m:Str) (ta:TE):TE:=fun σ H Q=>ta σ H fun x H1=>∃ (a dx C f:Addr) (fs:List (Str×V)) (fd:FuncData) (ps:List Str) (sp:Sp),x=.ref a/\H1 a=some (.ins C dx fs)/\fs.lookup m=none /\
 Cls K C/\uv K C m f/\aG P w K mg base bu k f fd ps sp/\Binds K fd ps []/\sp [.ref a] H1 Q E0
theorem dU {P:Program} {w:World} {K:PySem.W.Frag} {mg:Str->Option Value} {base:Heap} {k:Nat} {pl:Sem Bool} {o:Expr} {m:Str} {ta:TE} {pos apos:Pos} (hP:X.prog=P) (hw:X.w=w) (hK:X.K=K) (hmg:X.mg=mg) (hbs:X.base=base) (hr:Room k X.A) (he:PE X o ta)
  (ht:eval (.Call (.Attribute o m apos) [] [] pos) X.env=(do
   let ov <-eval o X.env
   standAt apos.atName
   let (f,first) <-holding [ov] (getMethod ov m pl)
   callWith pos f first (backTo pos (starEach [] X.env)) (backToKw pos (keywordEach [] X.env))):=by rfl) :
  PE X (.Call (.Attribute o m apos) [] [] pos) (vG P w K mg base k m ta):=by
 subst hP hw hK hmg hbs
 refine ⟨?_⟩
 intro pins s σ H Q I h
 refine PySem.W.methodCall_KW (pl:=pl) (bA (he pins s σ H _ I h) fun u s1 ⟨x,H1,I1,rx,a,dx,C,f,fs,fd,ps,sp,ex,ea,l,c,hm,F,hb,q⟩=>?_) ht
 subst ex
 obtain rfl:u=Value.ref a:=rx
 refine kT I1 ea c hm l ?_
 exact PySem.W.callWith_K0 (first:=[.ref a]) I1.kIn hm.kp (i9 (us:=[.ref a]) (vs:=[.ref a]) (dvs:=[]) (ds:=[]) F hr hb .nil cV I1 (.cons rfl .nil) q)
theorem qh {K:PySem.W.Frag} (hK:X.K=K):cu X (.builtin "isinstance") (fun xs H Q=>∃ (v y:V) (t c:Value) (b:Bool),xs=[v,y]/\eF K H v t/\(∀ u,RelV y u->u=c)/\PySem.W.kitOne K t c=some b/\Q (.bl b) H):=by
 subst hK
 intro pins s σ H xs us Q I r h
 obtain ⟨v,y,t,c,b,rfl,ty,hy,e,q⟩:=h
 cases r with
 | cons r1 r2=>
  cases r2 with
  | cons r2 r3=>
   cases r3
   rw [hy _ r2]
   exact iy I r1 ty e fun tk=>⟨.bl b,H,I.tok _,rfl,q⟩
end
end L2
namespace L3
open PySem L2
def gp (P:Program) (w:World) (K:PySem.W.Frag) (mg:Str->Option Value) (base:Heap) (C:Addr) (nm:Str) (n:Nat) (ps:List Str) (sp:Sp):Prop:=∃ f fd,uv K C nm f/\aG P w K mg base bu n f fd ps sp/\Binds K fd ps []
theorem eO {α β:Type} {R:α->β->Prop} {x:α} {y:β} (h:R x y):∀ {xs:List α} {ys:List β},Paired R xs ys->Paired R (xs++[x]) (ys++[y])
 | _,_,.nil=>.cons h .nil
 | _,_,.cons a t=>.cons a (eO h t)
theorem jH {α β:Type} {R:α->β->Prop}:∀ {xs:List α} {ys:List β},Paired R xs ys->∀ {i:Nat} {x:α},xs[i]?=some x->∃ y,ys[i]?=some y/\R x y
 | _,_,.cons a t,0,_,h=>by cases h;exact ⟨_,rfl,a⟩
 | _,_,.cons a t,i+1,_,h=>jH t (i:=i) h
inductive LiO (C:Nat->Addr) (cT p:Addr) (H:Hp):V->Th->Prop
 | mk (a dx tp:Addr) (us:List V) (o:V) (ss:List Th) (on:Th):H a=some (.ins cT dx [("steps",.ref tp),("on",o)])->H tp=some (.tup us)->Paired (StO C p H) us ss->TgV p H o on->OnT on->ss.length<=16->(∀ s∈ss,StpT s)->LiO C cT p H (.ref a) (.tup [.tup ss,on])
theorem LiO.same {C:Nat->Addr} {cT p:Addr} {H H':Hp} {v:V} {t:Th} (s:Same H H') (h:LiO C cT p H v t):LiO C cT p H' v t:=by
 cases h with
 | mk a dx tp us o ss on e e2 ps to ho hl hs=>exact .mk a dx tp us o ss on (s _ _ e) (s _ _ e2) (L2.Paired.mapP ps fun _ _ h=>h.same s) (to.same s) ho hl hs
theorem mN {u:Th} (h:EndT u):TK.jn [32] (dI (.tup [.str "done",u]))=cp "done"++[32]++TK.jn [32] (hI u):=by
 have e:dI (.tup [.str "done",u])=cp "done"::hI u:=by cases h<;>rfl
 have n:hI u≠[]:=by cases h<;>simp [hI]
 rw [e]
 match hI u,n with
 | x::r,_=>
  show cp "done"++([32]++TK.jn [32] (x::r))=_
  simp
def xV:Sp:=fun vs H Q _=>∃ (p:Addr) (v:V) (t:Th),vs=[v]/\TgV p H v t/\EndT t/\∀ H',Same H H'->Q (.str (S (TK.jn [32] (hI t)))) H'
def xW:Sp:=fun vs H Q _=>∃ (p:Addr) (v:V) (t:Th),vs=[v]/\TgV p H v t/\OnT t/\∀ H',Same H H'->Q (.str (S (TK.jn [32] (dI t)))) H'
theorem gv {p:Addr} {H:Hp} {v:V} {x:Str} (h:TgV p H v (.tup [.str x])):∃ a,v=.ref a/\H a=some (.tup [.str x]):=by
 cases h with
 | tup e ta=>exact match ta with|.cons (.str _) .nil=>⟨_,rfl,e⟩
theorem mO {p:Addr} {H:Hp} {v:V} {x z:Str} (h:TgV p H v (.tup [.str x,.str z])):∃ a,v=.ref a/\H a=some (.tup [.str x,.str z]):=by
 cases h with
 | tup e ta=>exact match ta with|.cons (.str _) (.cons (.str _) .nil)=>⟨_,rfl,e⟩
theorem mP {p:Addr} {H:Hp} {v:V} {x:Str} {t:Th} (h:TgV p H v (.tup [.str x,t])):∃ a u,v=.ref a/\H a=some (.tup [.str x,u])/\TgV p H u t:=by
 cases h with
 | tup e ta=>exact match ta with|.cons (.str _) (.cons h .nil)=>⟨_,_,rfl,e,h⟩
theorem sG {p:Addr} {H:Hp} {v:V} {x:Str} {i j k:Int} (h:TgV p H v (.tup [.str x,.int i,.int j,.int k])):∃ a,v=.ref a/\H a=some (.tup [.str x,.int i,.int j,.int k]):=by
 cases h with
 | tup e ta=>exact match ta with|.cons (.str _) (.cons (.int _) (.cons (.int _) (.cons (.int _) .nil)))=>⟨_,rfl,e⟩
theorem mQ:∀ z∈nK,(cp z).length<=8:=by decide +kernel
theorem lT {t:Th} (h:EndT t):(TK.jn [32] (hI t)).length<=30:=by
 cases h with
 | next=>decide +kernel
 | back=>decide +kernel
 | stop=>decide +kernel
 | go i hi=>have:=aM (n:=i) (by omega);show (cp "go"++([32]++(102::dg i))).length<=30;simp only [Ah,Ai,Ak,show (cp "go").length=2 from by decide +kernel];omega
 | call i hi=>have:=aM (n:=i) (by omega);show (cp "call"++([32]++(102::dg i))).length<=30;simp only [Ah,Ai,Ak,show (cp "call").length=4 from by decide +kernel];omega
 | fault z hz=>have:=mQ z hz;show (cp "fault"++([32]++cp z)).length<=30;simp only [Ah,Ai,Ak,show (cp "fault").length=5 from by decide +kernel];omega
section
variable {P:Program} {w:World} {K:PySem.W.Frag} {mg:Str->Option Value} {base:Heap} {C fi:Nat->Addr} {cT:Addr}
theorem vH:ap ["end"] ["end"] (al pj):=⟨rfl,rfl,rfl,by decide +kernel,rfl,by decide +kernel,by decide +kernel⟩
set_option maxHeartbeats 1000000 in
theorem sI {f:Addr} {fd:FuncData} (F:Fun K "end_words" "end_words" pj f fd):aG P w K mg base bu 1 f fd ["end"] xV:=by
 refine F.ok vH (fun vs H Q E h=>?_) (fun cdv A outer s H vs Q E hr h=>?_)
 ·obtain ⟨p,v,t,rfl,_⟩:=h
  rfl
 ·obtain ⟨p,v,t,rfl,tv,st,q⟩:=h
  refine ⟨_,ak (aI (av df (aq au (pv 0) ae (fun _ _=>rfl)) (aA (aa ah (aa ah ac))) rfl) (af (ao (bY (bh (aq au (pv 0) ae (fun _ _=>rfl)) (bt (bh (aq au (pv 0) ae (fun _ _=>rfl)) cA)))))) aw)
   (af (ao (bq Ar AY AX pS ah (aa (pv 0) ac)))),?_⟩
  have ask:∀ (a:Addr) (x:Str) (r:List V),H a=some (.tup (.str x::r))->∀ t,H t=none->∃ H1,ax H t (.tup [.str "go",.str "call"])=H1/\Same H H1/\H1 t=some (.tup ((["go","call"]:List Str).map V.str))/\H1 a=some (.tup (.str x::r)):=fun a x r e t nt=>⟨_,rfl,aj nt,ad,aj nt _ _ e⟩
  have jo:∀ (a:Addr) (ts:List (List Nat)) (H1:Hp),H1 a=some (.tup (ts.map fun t=>V.str (S t)))->Same H H1->(ts.map List.length).sum+ts.length*1<=1000->TK.jn [32] ts=TK.jn [32] (hI t)->yQ K "str" (fun x xs H Q=>∃ sep a ts,x=.str (S sep)/\xs=[.ref a]/\SqT K H a (ts.map fun t=>V.str (S t))/\(ts.map List.length).sum+ts.length*sep.length<=100000/\Q (.str (S (TK.jn sep ts))) H) (tC (.str " ")) (oA (qQ 0) qY) [some (.ref a)] H1 Q:=fun a ts H1 e s1 hl et=>by
   refine ⟨rfl,_,rfl,[32],a,ts,congrArg V.str fF,rfl,SqT.of e,by show _+_*1<=100000;omega,?_⟩
   rw [et]
   exact q _ s1
  cases st with
  | next=>
   obtain ⟨a,rfl,e⟩:=gv tv
   refine ⟨_,rfl,a,_,_,_,rfl,rfl,SqT.of e,rfl,(by show 2<=sizeLine;decide),fun t nt=>?_⟩
   obtain ⟨H1,eH,s1,et,ea⟩:=ask a _ _ e t nt
   rw [eH]
   refine ⟨t,_,rfl,.inr (SqT.of et),rfl,by decide +kernel,_,rfl,aN (by rw [ck];decide +kernel) ?_⟩
   exact jo a [cp "next"] H1 (by rw [ea];rw [AA,bo];rfl) s1 (by decide +kernel) rfl
  | back=>
   obtain ⟨a,rfl,e⟩:=gv tv
   refine ⟨_,rfl,a,_,_,_,rfl,rfl,SqT.of e,rfl,(by show 2<=sizeLine;decide),fun t nt=>?_⟩
   obtain ⟨H1,eH,s1,et,ea⟩:=ask a _ _ e t nt
   rw [eH]
   refine ⟨t,_,rfl,.inr (SqT.of et),rfl,by decide +kernel,_,rfl,aN (by rw [ck];decide +kernel) ?_⟩
   exact jo a [cp "back"] H1 (by rw [ea];rw [AA,bo];rfl) s1 (by decide +kernel) rfl
  | stop=>
   obtain ⟨a,rfl,e⟩:=gv tv
   refine ⟨_,rfl,a,_,_,_,rfl,rfl,SqT.of e,rfl,(by show 2<=sizeLine;decide),fun t nt=>?_⟩
   obtain ⟨H1,eH,s1,et,ea⟩:=ask a _ _ e t nt
   rw [eH]
   refine ⟨t,_,rfl,.inr (SqT.of et),rfl,by decide +kernel,_,rfl,aN (by rw [ck];decide +kernel) ?_⟩
   exact jo a [cp "stop"] H1 (by rw [ea];rw [AA,bo];rfl) s1 (by decide +kernel) rfl
  | fault z hz=>
   obtain ⟨a,rfl,e⟩:=mO tv
   refine ⟨_,rfl,a,_,_,_,rfl,rfl,SqT.of e,rfl,(by show 2<=sizeLine;decide),fun t nt=>?_⟩
   obtain ⟨H1,eH,s1,et,ea⟩:=ask a _ _ e t nt
   rw [eH]
   refine ⟨t,_,rfl,.inr (SqT.of et),rfl,by decide +kernel,_,rfl,aN (by rw [ck];decide +kernel) ?_⟩
   have:=mQ z hz
   exact jo a [cp "fault",cp z] H1 (by rw [ea];rw [AA,AA,bo,bo];rfl) s1 (by simp only [AA,List.map_nil,BF,List.sum_nil,Ai,Ak,show (cp "fault").length=5 from by decide +kernel];omega) rfl
  | go i hi=>
   obtain ⟨a,rfl,e⟩:=cC tv
   refine ⟨_,rfl,a,_,_,_,rfl,rfl,SqT.of e,rfl,(by show 2<=sizeLine;decide),fun t nt=>?_⟩
   obtain ⟨H1,eH,s1,et,ea⟩:=ask a _ _ e t nt
   rw [eH]
   refine ⟨t,_,rfl,.inr (SqT.of et),rfl,by decide +kernel,_,rfl,bg (by rw [ck];decide +kernel) ?_⟩
   have l9:=aM (n:=i) (by omega)
   have eL:(Str.empty++("go":Str))++(" f":Str)=S (cp "go"++[32,102]):=by decide +kernel
   refine ⟨_,rfl,a,_,_,_,rfl,rfl,SqT.of ea,rfl,.inr ⟨_,rfl,by decide +kernel,by decide +kernel,?_⟩⟩
   rw [eL]
   refine ⟨by decide +kernel,?_⟩
   refine ⟨_,rfl,a,_,_,_,rfl,rfl,SqT.of ea,rfl,.inl ⟨i,rfl,bb (by omega),?_⟩⟩
   rw [bw,aQ]
   have hz:(cp "go"++[32,102]++dg i).length<=10000:=by simp only [Ah,Ai,Ak,show (cp "go").length=2 from by decide +kernel];omega
   refine ⟨aD hz,aD hz,?_⟩
   have:=q _ s1
   rw [show TK.jn [32] (hI (.tup [.str "go",.int (i:Nat)]))=cp "go"++[32,102]++dg i from by show cp "go"++([32]++(102::dg i))=_;simp] at this
   exact this
  | call i hi=>
   obtain ⟨a,rfl,e⟩:=cC tv
   refine ⟨_,rfl,a,_,_,_,rfl,rfl,SqT.of e,rfl,(by show 2<=sizeLine;decide),fun t nt=>?_⟩
   obtain ⟨H1,eH,s1,et,ea⟩:=ask a _ _ e t nt
   rw [eH]
   refine ⟨t,_,rfl,.inr (SqT.of et),rfl,by decide +kernel,_,rfl,bg (by rw [ck];decide +kernel) ?_⟩
   have l9:=aM (n:=i) (by omega)
   have eL:(Str.empty++("call":Str))++(" f":Str)=S (cp "call"++[32,102]):=by decide +kernel
   refine ⟨_,rfl,a,_,_,_,rfl,rfl,SqT.of ea,rfl,.inr ⟨_,rfl,by decide +kernel,by decide +kernel,?_⟩⟩
   rw [eL]
   refine ⟨by decide +kernel,?_⟩
   refine ⟨_,rfl,a,_,_,_,rfl,rfl,SqT.of ea,rfl,.inl ⟨i,rfl,bb (by omega),?_⟩⟩
   rw [bw,aQ]
   have hz:(cp "call"++[32,102]++dg i).length<=10000:=by simp only [Ah,Ai,Ak,show (cp "call").length=4 from by decide +kernel];omega
   refine ⟨aD hz,aD hz,?_⟩
   have:=q _ s1
   rw [show TK.jn [32] (hI (.tup [.str "call",.int (i:Nat)]))=cp "call"++[32,102]++dg i from by show cp "call"++([32]++(102::dg i))=_;simp] at this
   exact this
theorem xX:ap ["on"] ["on"] (al uT):=⟨rfl,rfl,rfl,by decide +kernel,rfl,by decide +kernel,by decide +kernel⟩
set_option maxHeartbeats 1000000 in
theorem vI {f:Addr} {fd:FuncData} (F:Fun K "on_words" "on_words" uT f fd) (EW:Fn P w K mg base "end_words" 1 ["end"] xV):aG P w K mg base bu 2 f fd ["on"] xW:=by
 refine F.ok xX (fun vs H Q E h=>?_) (fun cdv A outer s H vs Q E hr h=>?_)
 ·obtain ⟨p,v,t,rfl,_⟩:=h
  rfl
 ·obtain ⟨p,v,t,rfl,tv,st,q⟩:=h
  have hr1:Room 1 _:=hr
  refine ⟨_,ak (aI (av bc (aq au (pv 0) ae (fun _ _=>rfl)) ah (ay _)) (af (ao (cM (aq au (pv 0) ae (fun _ _=>rfl))))) aw)
   (ak (aI (av bc (aq au (pv 0) ae (fun _ _=>rfl)) ah (ay _)) (af (ao (bY (bt (bh (am EW hr1 rfl (aa (aq au (pv 0) ae (fun _ _=>rfl)) ac)) cA))))) aw)
   (af (ao (bY (bh (aq au (pv 0) ae (fun _ _=>rfl)) (bt (bh (aq au (pv 0) ae (fun _ _=>rfl)) (bt (bh (aq au (pv 0) ae (fun _ _=>rfl)) (bt (bh (aq au (pv 0) ae (fun _ _=>rfl)) cA))))))))))),?_⟩
  cases st with
  | on i hi=>
   obtain ⟨a,rfl,e⟩:=cC tv
   have l9:=aM (n:=i) (by omega)
   have tx:("on ":Str)++(toString ((i:Nat):Int):Str)=S (TK.jn [32] (dI (.tup [.str "on",.int (i:Nat)]))):=by
    rw [bw,show ("on ":Str)=S (cp "on"++[32]) from by decide +kernel,aQ]
    show S (cp "on"++[32]++dg i)=S (cp "on"++([32]++dg i))
    rw [Az]
   refine ⟨_,rfl,a,_,_,_,rfl,rfl,SqT.of e,rfl,rfl,_,rfl,bg (by decide +kernel) ⟨_,rfl,a,_,_,_,rfl,rfl,SqT.of e,rfl,i,rfl,bb (by omega),?_,?_⟩⟩
   ·rw [tx]
    refine aD ?_
    show (cp "on"++([32]++dg i)).length<=10000
    simp only [Ah,Ai,Ak,show (cp "on").length=2 from by decide +kernel];omega
   ·rw [tx];exact q _ (Same.refl _)
  | @done u he=>
   obtain ⟨a,x,rfl,e,hx⟩:=mP tv
   have el:=lT he
   refine ⟨_,rfl,a,_,_,_,rfl,rfl,SqT.of e,rfl,rfl,_,rfl,aN (by decide +kernel) ?_⟩
   refine ⟨_,rfl,a,_,_,_,rfl,rfl,SqT.of e,rfl,rfl,_,rfl,bg (by decide +kernel) ⟨by decide +kernel,?_⟩⟩
   refine ⟨_,rfl,a,_,_,_,rfl,rfl,SqT.of e,rfl,p,x,u,rfl,hx,he,fun H1 s1=>.inr ⟨_,rfl,aD (by omega),?_⟩⟩
   rw [show (Str.empty++("done ":Str))=S (cp "done"++[32]) from by decide +kernel,aQ]
   have hz:(cp "done"++[32]++TK.jn [32] (hI u)).length<=10000:=by simp only [Ah,Ai,Ak,show (cp "done").length=4 from by decide +kernel];omega
   refine ⟨aD hz,aD hz,?_⟩
   have:=q _ s1
   rw [mN he] at this
   exact this
  | two z i x y hz hi hx hy=>
   obtain ⟨a,rfl,e⟩:=sG tv
   have l1:=aM (n:=i) (by omega)
   have l2:=aM (n:=x) (by omega)
   have l3:=aM (n:=y) (by omega)
   have lz:(cp z).length<=4:=by rcases hz with rfl|rfl<;>decide +kernel
   refine ⟨_,rfl,a,_,_,_,rfl,rfl,SqT.of e,rfl,rfl,_,rfl,aN (by rcases hz with rfl|rfl<;>decide +kernel) ?_⟩
   refine ⟨_,rfl,a,_,_,_,rfl,rfl,SqT.of e,rfl,rfl,_,rfl,aN (by rcases hz with rfl|rfl<;>decide +kernel) ?_⟩
   refine ⟨_,rfl,a,_,_,_,rfl,rfl,SqT.of e,rfl,.inr ⟨z,rfl,by rw [<-cc];exact Aq lz (by decide),?_⟩⟩
   rw [jy,show (" r":Str)=S [32,114] from by decide +kernel,<-bo z,aQ]
   have ll:∀ {l:List Nat},l.length<=100->(S l).length<=sizeLine:=fun h=>aD (by omega)
   refine ⟨ll (by omega),ll (by simp only [Ah,Ai,Ak];omega),?_⟩
   refine ⟨_,rfl,a,_,_,_,rfl,rfl,SqT.of e,rfl,.inl ⟨i,rfl,bb (by omega),?_⟩⟩
   rw [bw,aQ,fF,aQ]
   refine ⟨ll (by simp only [Ah,Ai,Ak];omega),ll (by simp only [Ah,Ai,Ak];omega),?_⟩
   refine ⟨_,rfl,a,_,_,_,rfl,rfl,SqT.of e,rfl,.inl ⟨x,rfl,bb (by omega),?_⟩⟩
   rw [bw,aQ,aQ]
   refine ⟨ll (by simp only [Ah,Ai,Ak];omega),ll (by simp only [Ah,Ai,Ak];omega),?_⟩
   refine ⟨_,rfl,a,_,_,_,rfl,rfl,SqT.of e,rfl,.inl ⟨y,rfl,bb (by omega),?_⟩⟩
   rw [bw,aQ]
   refine ⟨ll (by simp only [Ah,Ai,Ak];omega),ll (by simp only [Ah,Ai,Ak];omega),?_⟩
   have:=q _ (Same.refl _)
   rw [show TK.jn [32] (dI (.tup [.str z,.int (i:Nat),.int (x:Nat),.int (y:Nat)]))=cp z++[32,114]++dg i++[32]++dg x++[32]++dg y from by show cp z++([32]++((114::dg i)++([32]++(dg x++([32]++dg y)))))=_;simp] at this
   exact this
end
end L3
namespace L3
open PySem L2
abbrev qi:Stmt:=a8 (bK 60) 0
abbrev jI:Stmt:=a8 (bK 60) 1
abbrev jJ:Stmt:=a8 (bK 60) 2
def qj (C:Addr):Sp:=fun vs H Q _=>∃ (x dx l:Addr) (us:List V) (o:V),vs=[.ref x,.ref l,o]/\H x=some (.ins C dx [])/\H l=some (.lst us)/\∀ tp,H tp=none->Q .non (ax (ax (ax H tp (.tup us)) x (.ins C dx [("steps",.ref tp)])) x (.ins C dx [("steps",.ref tp),("on",o)]))
theorem hZ {x:Str}:∀ {ks:List Str} {us:List V},x∉ks->(ks.zip us).lookup x=none
 | [],_,_=>rfl
 | k::ks,[],_=>rfl
 | k::ks,u::us,h=>by
  show (match x == k with|true=>some u|false=>(ks.zip us).lookup x)=none
  rw [beq_eq_false_iff_ne.mpr (fun z:x=k=>h (by rw [z];exact AC))]
  exact hZ fun z=>h (Av _ z)
structure zI (P:Program) (w:World) (K:PySem.W.Frag) (mg:Str->Option Value) (base:Heap) (C:Nat->Addr):Prop where
 cls:∀ k,k < 7->Cls K (C k)
 told:∀ k,k < 7->gp P w K mg base (C k) "told" 1 ["self"] (dS C k)
 words:∀ k,k < 7->gp P w K mg base (C k) "words" 2 ["self"] (cZ C k)
theorem mS:∀ k,("told":Str)∉qd k/\("words":Str)∉qd k:=fun k=>by
 match k with
 | 0=>decide +kernel
 | 1=>decide +kernel
 | 2=>decide +kernel
 | 3=>decide +kernel
 | 4=>decide +kernel
 | 5=>decide +kernel
 | k+6=>exact (by decide +kernel:("told":Str)∉qd 6/\("words":Str)∉qd 6)
structure Lc (K:PySem.W.Frag) (cT:Addr):Prop where
 cls:Cls K cT
 n1:NoAttr K cT "steps"
 n2:NoAttr K cT "on"
def mU (C:Nat->Addr) (cT:Addr):Sp:=fun vs H Q _=>∃ (p:Addr) (v:V) (t:Th),vs=[v]/\LiO C cT p H v t/\∀ r H',Same H H'->TgV p H' r t->Q r H'
def qk (C:Nat->Addr) (cT:Addr):Sp:=fun vs H Q _=>∃ (p:Addr) (v:V) (t:Th),vs=[v]/\LiO C cT p H v t/\∀ H',Same H H'->Q (.str (S (gr t))) H'
def ql (C:Nat->Addr) (cT:Addr):Sp:=fun vs H Q _=>∃ (p:Addr) (v:V) (t:Th),vs=[v]/\TgV p H v t/\LitT t/\∀ u H',Same H H'->LiO C cT p H' u t->Q u H'
theorem vJ {t:Th} (h:StpT t):(cD t).length<=40:=by
 have j3:∀ {a b c:List Nat},a.length<=5->b.length<=10->c.length<=10->(TK.jn [32] [a,b,c]).length<=40:=fun {a b c} h1 h2 h3=>by
  show (a++([32]++(b++([32]++c)))).length<=40
  simp only [Ah,Ai,Ak];omega
 have j5:∀ {a b c d e:List Nat},a.length<=3->b.length<=10->c.length<=2->d.length<=10->e.length<=10->(TK.jn [32] [a,b,c,d,e]).length<=40:=fun {a b c d e} h1 h2 h3 h4 h5=>by
  show (a++([32]++(b++([32]++(c++([32]++(d++([32]++e)))))))).length<=40
  simp only [Ah,Ai,Ak];omega
 have num:∀ {k:Nat},k < 8->(114::dg k).length<=10:=fun {k} h=>by
  have:=aM (n:=k) (by omega)
  simp only [Ai];omega
 cases h with
 | get k hk hs=>exact j3 (by decide +kernel) (num hk) (bd (l:=bH "get") (.inl hs))
 | ask k hk hs=>exact j3 (by decide +kernel) (num hk) (bd (l:=bH "ask") (.inl hs))
 | cell k hk hs=>exact j3 (by decide +kernel) (num hk) (bd (l:=bH "cell") (.inr hs))
 | two k hk ho hx hy=>exact j5 (by decide +kernel) (num hk) (jG _ ho) (bd (l:=bH "two") (.inr hx)) (bd (l:=bH "two") (.inr hy))
 | put hs hx=>exact j3 (by decide +kernel) (bd (l:=bH "put") (.inl hs)) (bd (l:=bH "put") (.inr hx))
 | tell hs hx=>exact j3 (by decide +kernel) (bd (l:=bH "tell") (.inl hs)) (bd (l:=bH "tell") (.inr hx))
 | store hx hy=>exact j3 (by decide +kernel) (bd (l:=bH "store") (.inr hx)) (bd (l:=bH "store") (.inr hy))
theorem lU {t:Th} (h:OnT t):(TK.jn [32] (dI t)).length<=60:=by
 cases h with
 | two z i x y hz hi hx hy=>
  have l1:=aM (n:=i) (by omega)
  have l2:=aM (n:=x) (by omega)
  have l3:=aM (n:=y) (by omega)
  have lz:(cp z).length<=4:=by rcases hz with rfl|rfl<;>decide +kernel
  show (cp z++([32]++((114::dg i)++([32]++(dg x++([32]++dg y)))))).length<=60
  simp only [Ah,Ai,Ak];omega
 | on i hi=>
  have l1:=aM (n:=i) (by omega)
  show (cp "on"++([32]++dg i)).length<=60
  simp only [Ah,Ai,Ak,show (cp "on").length=2 from by decide +kernel];omega
 | done he=>
  rw [mN he]
  have:=lT he
  simp only [Ah,Ai,Ak,show (cp "done").length=4 from by decide +kernel];omega
theorem gb {ss:List Th} (h:∀ s∈ss,StpT s) (hl:ss.length<=16):((ss.map cD).map List.length).sum<=640/\(TK.jn [32,44,32] (ss.map cD)).length<=700:=by
 have a:=fc 40 (ss.map cD) fun z hz=>by
  obtain ⟨s,hs,rfl⟩:=AV.mp hz
  exact vJ (h s hs)
 have b:=jx [32,44,32] (ss.map cD)
 rw [Aj] at a b
 have c:ss.length*([32,44,32]:List Nat).length<=48:=by show ss.length*3<=48;omega
 constructor<;>omega
section
variable {P:Program} {w:World} {K:PySem.W.Frag} {mg:Str->Option Value} {base:Heap} {C fi:Nat->Addr} {cT:Addr}
theorem vK:ap ["self","steps","on"] ["self","steps","on"] (al qi):=⟨rfl,rfl,rfl,by decide +kernel,rfl,by decide +kernel,by decide +kernel⟩
theorem sJ {f:Addr} {fd:FuncData} (F:Fun K "__init__" "Little.__init__" qi f fd) (B:Bl mg) (c:Cls K cT) (n1:NoAttr K cT "steps") (n2:NoAttr K cT "on"):aG P w K mg base bu 1 f fd ["self","steps","on"] (qj cT):=by
 refine F.ok vK (fun vs H Q E h=>?_) (fun cdv A outer s H vs Q E hr h=>?_)
 ·obtain ⟨x,dx,l,us,o,rfl,_⟩:=h
  rfl
 ·obtain ⟨x,dx,l,us,o,rfl,hx,hl,q⟩:=h
  refine ⟨_,ak (bN (pv 0) (aZ bM (by rfl) B.tuple br (aa (pv 1) ac)) rfl) (af (bN (pv 0) (pv 2) rfl)),?_⟩
  refine ⟨_,rfl,l,us,rfl,.inl ⟨SqL.of hl,fun tp np=>?_⟩⟩
  have hx1:(ax H tp (.tup us)) x=some (.ins cT dx []):=by rw [aB (aJ hx np)];exact hx
  have q':=q tp np
  refine ⟨_,rfl,x,cT,dx,_,rfl,hx1,c,n1,(by show 0 < 1000;decide),?_⟩
  exact ⟨_,rfl,_,rfl,x,cT,dx,_,rfl,ad,c,n2,(by show 1 < 1000;decide),q'⟩
theorem sK:ap ["self"] ["self"] (al jI):=⟨rfl,rfl,rfl,by decide +kernel,rfl,by decide +kernel,by decide +kernel⟩
theorem vL:(["step"]:List Str).Nodup:=by decide +kernel
set_option maxHeartbeats 2000000 in
theorem qm {f:Addr} {fd:FuncData} (F:Fun K "told" "Little.told" jI f fd) (B:Bl mg) (L:Lc K cT) (M:zI P w K mg base C):aG P w K mg base bu 2 f fd ["self"] (mU C cT):=by
 refine F.ok sK (fun vs H Q E h=>?_) (fun cdv A outer s H vs Q E hr h=>?_)
 ·obtain ⟨p,v,t,rfl,_⟩:=h
  rfl
 ·obtain ⟨p,v,t,rfl,lo,q⟩:=h
  have hr1:Room 1 _:=hr
  have sz:(100000:Nat)<=sizeLine:=by decide
  refine ⟨_,af (ao (aA (aa (aZ bM (by rfl) B.tuple br (aa (dH (N':=["step"]) (ix:=[none]) (sc0:=al jI) (N:=["self"]) rfl (by decide +kernel) (fP (aU (pv 0) rfl))
     (fun C' cl s H fp=>a7 (i:=0) vL rfl (Or.inl rfl) (.inr rfl)) (fun _ _ _ _ _=>cz) (fun C' cl s H fp=>dU (P:=P) (w:=w) (K:=K) (mg:=mg) (base:=base) (k:=1) rfl rfl rfl rfl rfl hr1 (pv 0))) ac)) (aa (aU (pv 0) rfl) ac)))),?_⟩
  cases lo with
  | mk a dx tp us o ss on e e2 ps to ho hl hs=>
   have lus:=ps.length
   refine ⟨_,rfl,a,cT,dx,_,_,rfl,e,L.cls,L.n1,rfl,tp,rfl,⟨_,SqT.of e2⟩,?_⟩
   refine gP (K:=K) (a:=tp) (xs:=us) (fun i ys H'=>Same H H'/\ys.length=i/\TgA p H' ys (ss.take i)) ⟨Same.refl _,rfl,.nil⟩ (fun i ys H' hi ⟨s',e',_⟩=>⟨SqT.of (s' _ _ e2),by omega⟩) ?_ ?_
   ·rintro i z ys H2 hz ⟨s2,hl3,tg⟩
    have hlt:i < us.length:=(An.mp hz).1
    obtain ⟨t,et,st⟩:=jH ps hz
    have st:=st.same s2
    cases st with
    | mk k a2 dx2 qg ts hk e3 l3 ta sp=>
     obtain ⟨f2,fd2,m2,F2,b2⟩:=M.told k hk
     refine ⟨trivial,cw ⟨_,rfl,a2,dx2,C k,f2,_,fd2,_,_,rfl,e3,hZ (mS k).1,M.cls k hk,m2,F2,b2,a2,dx2,qg,rfl,e3,l3,fun r nr=>?_⟩⟩
     have s3:=aj (o:=.tup (.str (nO k)::qg)) nr
     refine Nx.mk hlt ⟨s2.trans s3,by rw [Ah,hl3];rfl,?_⟩
     rw [Bb,et]
     exact (tg.same s3).snoc (.tup ad (.cons (.str _) (ta.same s3)))
   ·rintro ys H2 ⟨s2,hl3,tg⟩ D nD
    rw [lus,AN] at tg
    have s3:=aj (o:=.lst ys) nD
    have e3:(ax H2 D (.lst ys)) D=some (.lst ys):=ad
    generalize ax H2 D (.lst ys)=H3 at *
    refine ⟨D,ys,rfl,.inl ⟨SqL.of e3,fun t4 n4=>?_⟩⟩
    have s4:=aj (o:=.tup ys) n4
    have e4:(ax H3 t4 (.tup ys)) t4=some (.tup ys):=ad
    generalize ax H3 t4 (.tup ys)=H4 at *
    have s14:=(s2.trans s3).trans s4
    refine ⟨_,rfl,a,cT,dx,_,_,rfl,s14 _ _ e,L.cls,L.n2,rfl,(by show 2<=sizeLine;decide),fun r nr=>?_⟩
    have s5:=aj (o:=.tup [.ref t4,o]) nr
    exact q _ _ (s14.trans s5) (.tup ad (.cons (.tup (s5 _ _ e4) (tg.same ((s3.trans s4).trans s5))) (.cons (to.same (s14.trans s5)) .nil)))
theorem scLitWo:ap ["self","steps"] ["self"] (al jJ):=⟨rfl,rfl,rfl,by decide +kernel,rfl,by decide +kernel,by decide +kernel⟩
set_option maxHeartbeats 2000000 in
theorem qo {f:Addr} {fd:FuncData} (F:Fun K "words" "Little.words" jJ f fd) (B:Bl mg) (L:Lc K cT) (M:zI P w K mg base C) (OW:Fn P w K mg base "on_words" 2 ["on"] xW):aG P w K mg base bu 3 f fd ["self"] (qk C cT):=by
 refine F.ok scLitWo (fun vs H Q E h=>?_) (fun cdv A outer s H vs Q E hr h=>?_)
 ·obtain ⟨p,v,t,rfl,_⟩:=h
  rfl
 ·obtain ⟨p,v,t,rfl,lo,q⟩:=h
  have sz:(100000:Nat)<=sizeLine:=by decide
  refine ⟨_,ak (aR (i:=1) scLitWo.nd rfl (Or.inl rfl) (bq Ar AY AX cE ah (aa (dH (N':=["step"]) (ix:=[none]) (sc0:=al jJ) (N:=["self","steps"]) rfl (by decide +kernel) (fP (aU (pv 0) rfl))
     (fun C' cl s H fp=>a7 (i:=0) vL rfl (Or.inl rfl) (.inr rfl)) (fun _ _ _ _ _=>cz) (fun C' cl s H fp=>dU (P:=P) (w:=w) (K:=K) (mg:=mg) (base:=base) (k:=2) rfl rfl rfl rfl rfl hr (pv 0))) ac)))
   (af (ao (cf (ou (aU (pv 0) rfl) (fun _=>rfl)) (bY (bh (pv 1) (bt (bh (am OW hr rfl (aa (aU (pv 0) rfl) ac)) cA)))) (bY (bt (bh (am OW hr rfl (aa (aU (pv 0) rfl) ac)) cA)))))),?_⟩
  cases lo with
  | mk a dx tp us o ss on e e2 ps to ho hl hs=>
   have lus:=ps.length
   obtain ⟨sl1,sl2⟩:=gb hs hl
   have ol:=lU ho
   refine ⟨rfl,_,rfl,a,cT,dx,_,_,rfl,e,L.cls,L.n1,rfl,tp,rfl,⟨_,SqT.of e2⟩,?_⟩
   refine gP (K:=K) (a:=tp) (xs:=us) (fun i ys H'=>Same H H'/\ys=((ss.take i).map cD).map (fun t=>V.str (S t))) ⟨Same.refl _,rfl⟩ (fun i ys H' hi ⟨s',e'⟩=>⟨SqT.of (s' _ _ e2),by rw [e',Aj,Aj,AH];omega⟩) ?_ ?_
   ·rintro i z ys H2 hz ⟨s2,rfl⟩
    have hlt:i < us.length:=(An.mp hz).1
    obtain ⟨t,et,st⟩:=jH ps hz
    have st:=st.same s2
    cases st with
    | mk k a2 dx2 qg ts hk e3 l3 ta sp=>
     obtain ⟨f2,fd2,m2,F2,b2⟩:=M.words k hk
     refine ⟨trivial,cw ⟨_,rfl,a2,dx2,C k,f2,_,fd2,_,_,rfl,e3,hZ (mS k).2,M.cls k hk,m2,F2,b2,p,a2,dx2,qg,ts,rfl,e3,l3,ta,sp,?_⟩⟩
     refine Nx.mk hlt ⟨s2,?_⟩
     rw [Bb,et,AE,AE]
     rfl
   ·rintro ys H2 ⟨s2,rfl⟩ D nD
    rw [lus,AN]
    have s3:=aj (o:=.lst ((ss.map cD).map (fun t=>V.str (S t)))) nD
    have e3:(ax H2 D (.lst ((ss.map cD).map (fun t=>V.str (S t))))) D=some (.lst ((ss.map cD).map (fun t=>V.str (S t)))):=ad
    generalize ax H2 D (.lst ((ss.map cD).map (fun t=>V.str (S t))))=H3 at *
    have s13:=s2.trans s3
    refine ⟨[32,44,32],D,ss.map cD,congrArg V.str vj,rfl,SqL.of e3,?_,?_⟩
    ·rw [Aj]
     show _+ss.length*3<=100000
     omega
    refine ⟨_,rfl,a,cT,dx,_,_,rfl,s13 _ _ e,L.cls,L.n1,rfl,!us.isEmpty,.inr (.inl ⟨us,SqT.of (s13 _ _ e2),rfl⟩),?_⟩
    cases ss with
    | nil=>
     cases us with
     | cons _ _=>cases lus
     | nil=>
      refine bp ⟨by decide +kernel,_,rfl,a,cT,dx,_,_,rfl,s13 _ _ e,L.cls,L.n2,rfl,p,o,on,rfl,to.same s13,ho,fun H4 s4=>.inr ⟨_,rfl,aD (by omega),?_⟩⟩
      rw [show (Str.empty++(": ":Str))=S [58,32] from by decide +kernel,aQ]
      have hz:([58,32]++TK.jn [32] (dI on)).length<=10000:=by simp only [Ah,Ai,Ak];omega
      exact ⟨aD hz,aD hz,q _ (s13.trans s4)⟩
    | cons s0 sr=>
     cases us with
     | nil=>cases lus
     | cons u0 ur=>
      refine bV ⟨_,rfl,.inr ⟨_,rfl,aD (by omega),?_⟩⟩
      rw [jy,xk,aQ]
      refine ⟨aD (by omega),aD (by simp only [Ah,Ai,Ak];omega),?_⟩
      refine ⟨_,rfl,a,cT,dx,_,_,rfl,s13 _ _ e,L.cls,L.n2,rfl,p,o,on,rfl,to.same s13,ho,fun H4 s4=>.inr ⟨_,rfl,aD (by omega),?_⟩⟩
      rw [aQ]
      have hz:(TK.jn [32,44,32] ((s0::sr).map cD)++[32,58,32]++TK.jn [32] (dI on)).length<=10000:=by simp only [Ah,Ai,Ak];omega
      refine ⟨aD hz,aD hz,?_⟩
      have:=q _ (s13.trans s4)
      have ew:gr (.tup [.tup (s0::sr),on])=TK.jn [32,44,32] ((s0::sr).map cD)++[32,58,32]++TK.jn [32] (dI on):=by
       show (if s0::sr=[] then [58,32] else TK.jn [32,44,32] ((s0::sr).map cD)++[32,58,32])++TK.jn [32] (dI on)=_
       rw [if_neg (by simp)]
      rw [ew] at this
      exact this
theorem LitT.ok {t:Th} (h:LitT t):bR t=true/\pH t:=by
 obtain ⟨ss,on,rfl,hs,ho,hl⟩:=h.ex
 refine ⟨?_,fun ss' on' e=>?_⟩
 ·show (decide (ss.length<=16) && (ss.all stepOk && eY on))=true
  rw [decide_eq_true hl,ho.ok.1,Bm.mpr fun s h=>(hs s h).ok.1];rfl
 ·injection e with e
  injection e with e1 e2
  injection e1 with e1
  injection e2 with e2 _
  subst e1 e2
  exact ⟨fun s h=>(hs s h).ok.2,ho.ok.2,by omega⟩
theorem sL:ap ["told"] ["told"] (al eC):=⟨rfl,rfl,rfl,by decide +kernel,rfl,by decide +kernel,by decide +kernel⟩
set_option maxHeartbeats 8000000 in
theorem kA {f fT:Addr} {fd:FuncData} (F:Fun K "little_of" "little_of" eC f fd) (IL:Fn P w K mg base "is_little" 6 ["thing"] (spAsk bR pH)) (SF:Fn P w K mg base "step_of" 6 ["told"] (mE C))
  (mk_:Mk K cT fT) (mT:mg "Little"=some (.ref cT)) (I0:gm P w K mg base fT ["self","steps","on"] (qj cT)):aG P w K mg base bu 7 f fd ["told"] (ql C cT):=by
 refine F.ok sL (fun vs H Q E h=>?_) (fun cdv A outer s H vs Q E hr h=>?_)
 ·obtain ⟨p,v,t,rfl,_⟩:=h
  rfl
 ·obtain ⟨p,v,t,rfl,tv,lt,q⟩:=h
  have sz:(100000:Nat)<=sizeLine:=by decide
  have hr3:Room 2 _:=hr.mono (by decide)
  obtain ⟨fd0,F0,b0⟩:=I0
  refine ⟨_,ak (aI (c8 (a6 (am IL hr rfl (aa (pv 0) ac)))) (af jY) aw)
   (af (ao (cS mk_ F0 hr3 rfl mT b0 .nil cV (aa (dH (N':=["step"]) (ix:=[none]) (sc0:=al eC) (N:=["told"]) rfl (by decide +kernel) (fP (aq au (pv 0) ae (fun _ _=>rfl)))
     (fun C' cl s H fp=>a7 (i:=0) vL rfl (Or.inl rfl) (.inr rfl)) (fun _ _ _ _ _=>cz) (fun C' cl s H fp=>am SF hr rfl (aa (pv 0) ac))) (aa (aq au (pv 0) ae (fun _ _=>rfl)) ac))))),?_⟩
  obtain ⟨ok,lg⟩:=lt.ok
  refine ⟨_,rfl,p,v,t,rfl,tv,lg,fun H1 s1=>⟨_,rfl,?_⟩⟩
  rw [ok]
  refine bp ?_
  obtain ⟨ss,on,rfl,hs,ho,hl⟩:=lt.ex
  cases tv with
  | @tup a xs _ e0 ta=>
   obtain ⟨x,y,tx,ty,rfl,ets,hx,hy⟩:=ta.two rfl
   cases ets
   cases hx with
   | @tup b us _ eb tb=>
    have e:=s1 _ _ e0
    have eb1:=s1 _ _ eb
    have hl2:=tb.length
    refine ⟨_,rfl,a,_,_,_,rfl,rfl,SqT.of e,rfl,b,rfl,⟨_,SqT.of eb1⟩,?_⟩
    refine gP (K:=K) (a:=b) (xs:=us) (fun i ys H'=>Same H1 H'/\ys.length=i/\Paired (StO C p H') ys (ss.take i)) ⟨Same.refl _,rfl,.nil⟩ (fun i ys H' hi ⟨s',e',_⟩=>⟨SqT.of (s' _ _ eb1),by omega⟩) ?_ ?_
    ·rintro i z ys H2 hz ⟨s2,hl3,pr⟩
     have hlt:i < us.length:=(An.mp hz).1
     obtain ⟨tz,etz,hzt⟩:=tb.get hz
     have hm:=AZ etz
     refine ⟨trivial,cw ⟨_,rfl,p,z,tz,rfl,hzt.same (s1.trans s2),hs tz hm,fun u H3 s3 ob=>Nx.mk hlt ⟨s2.trans s3,by rw [Ah,hl3];rfl,?_⟩⟩⟩
     rw [Bb,etz]
     exact eO ob (L2.Paired.mapP pr fun _ _ h=>h.same s3)
    ·rintro ys H2 ⟨s2,hl3,pr⟩ D nD
     rw [hl2,AN] at pr
     have s3:=aj (o:=.lst ys) nD
     have e3:(ax H2 D (.lst ys)) D=some (.lst ys):=ad
     generalize ax H2 D (.lst ys)=H3 at *
     have s13:=s2.trans s3
     refine ⟨_,rfl,a,_,_,_,rfl,rfl,SqT.of (s13 _ _ e),rfl,fun x0 dx nx nd ne=>⟨x0,dx,D,ys,_,rfl,ad,?_,fun tp np=>?_⟩⟩
     ·exact az nx (aj nd) _ _ e3
     ·have hx0:tp≠x0:=by
       rintro rfl
       rw [ad] at np
       cases np
      refine ⟨rfl,q _ _ (s1.trans ?_) (.mk x0 dx tp ys _ ss on ad (by rw [aB hx0,aB hx0];exact ad) (L2.Paired.mapP pr fun _ _ h=>h.same ?_) (hy.same (s1.trans ?_)) ho hl hs)⟩
      ·exact s13.trans (az nx (az nx ((az nx (aj nd)).trans (aj np))))
      ·exact s3.trans (az nx (az nx ((az nx (aj nd)).trans (aj np))))
      ·exact s13.trans (az nx (az nx ((az nx (aj nd)).trans (aj np))))
end
end L3
namespace L3
open PySem L2
structure Kp (H H':Hp):Prop where
 t:uJ H H'
 i:∀ a C dx fs,H a=some (.ins C dx fs)->H' a=some (.ins C dx fs)
theorem Kp.of {H H':Hp} (s:Same H H'):Kp H H':=⟨ms s,fun _ _ _ _ e=>s _ _ e⟩
theorem Kp.trans {H H1 H2:Hp} (a:Kp H H1) (b:Kp H1 H2):Kp H H2:=⟨fun x xs e=>b.t x xs (a.t x xs e),fun x C dx fs e=>b.i x C dx fs (a.i x C dx fs e)⟩
theorem Kp.but {p:Addr} {H H':Hp} (g:Strm H p) (b:But p H H'):Kp H H':=⟨g.kt b,fun a C dx fs e=>b _ _ e (by
 rintro rfl
 obtain ⟨x,y,z,h⟩:=g
 rw [h] at e
 cases e)⟩
theorem Kp.lst {H:Hp} {l:Addr} {us ys:List V} (e:H l=some (.lst us)):Kp H (ax H l (.lst ys)):=⟨fun a xs h=>by
  rw [aB (by rintro rfl;rw [e] at h;cases h)];exact h,fun a C dx fs h=>by
  rw [aB (by rintro rfl;rw [e] at h;cases h)];exact h⟩
theorem SelT.kp {p p':Addr} {H H':Hp} {v:V} {t:Th} (h:SelT t) (tv:TgV p H v t) (k:Kp H H'):TgV p' H' v t:=by
 cases h with
 | is i hi=>obtain ⟨a,rfl,e⟩:=cC tv;exact .tup (k.t _ _ e) (.cons (.str _) (.cons (.int _) .nil))
 | «by» i hi=>obtain ⟨a,rfl,e⟩:=cC tv;exact .tup (k.t _ _ e) (.cons (.str _) (.cons (.int _) .nil))
theorem SrcT.kp {p p':Addr} {H H':Hp} {v:V} {t:Th} (h:SrcT t) (tv:TgV p H v t) (k:Kp H H'):TgV p' H' v t:=by
 cases h with
 | fld i hi=>obtain ⟨a,rfl,e⟩:=cC tv;exact .tup (k.t _ _ e) (.cons (.str _) (.cons (.int _) .nil))
 | num i hi=>obtain ⟨a,rfl,e⟩:=cC tv;exact .tup (k.t _ _ e) (.cons (.str _) (.cons (.int _) .nil))
 | inn i hi=>obtain ⟨a,rfl,e⟩:=cC tv;exact .tup (k.t _ _ e) (.cons (.str _) (.cons (.int _) .nil))
theorem EndT.kp {p p':Addr} {H H':Hp} {v:V} {t:Th} (h:EndT t) (tv:TgV p H v t) (k:Kp H H'):TgV p' H' v t:=by
 cases h with
 | next=>obtain ⟨a,rfl,e⟩:=gv tv;exact .tup (k.t _ _ e) (.cons (.str _) .nil)
 | back=>obtain ⟨a,rfl,e⟩:=gv tv;exact .tup (k.t _ _ e) (.cons (.str _) .nil)
 | stop=>obtain ⟨a,rfl,e⟩:=gv tv;exact .tup (k.t _ _ e) (.cons (.str _) .nil)
 | go i hi=>obtain ⟨a,rfl,e⟩:=cC tv;exact .tup (k.t _ _ e) (.cons (.str _) (.cons (.int _) .nil))
 | call i hi=>obtain ⟨a,rfl,e⟩:=cC tv;exact .tup (k.t _ _ e) (.cons (.str _) (.cons (.int _) .nil))
 | fault z hz=>obtain ⟨a,rfl,e⟩:=mO tv;exact .tup (k.t _ _ e) (.cons (.str _) (.cons (.str _) .nil))
theorem OnT.kp {p p':Addr} {H H':Hp} {v:V} {t:Th} (h:OnT t) (tv:TgV p H v t) (k:Kp H H'):TgV p' H' v t:=by
 cases h with
 | two z i a b hz hi ha hb=>obtain ⟨a,rfl,e⟩:=sG tv;exact .tup (k.t _ _ e) (.cons (.str _) (.cons (.int _) (.cons (.int _) (.cons (.int _) .nil))))
 | on a ha=>obtain ⟨a,rfl,e⟩:=cC tv;exact .tup (k.t _ _ e) (.cons (.str _) (.cons (.int _) .nil))
 | done he=>obtain ⟨a,u,rfl,e,h⟩:=mP tv;exact .tup (k.t _ _ e) (.cons (.str _) (.cons (he.kp h k) .nil))
theorem jK {p p':Addr} {H H':Hp} {v:V} {i:Int} (tv:TgV p H v (.int i)):TgV p' H' v (.int i):=by cases tv;exact .int _
theorem vM {p p':Addr} {H H':Hp} {v:V} {i:Str} (tv:TgV p H v (.str i)):TgV p' H' v (.str i):=by cases tv;exact .str _
theorem StpT.kpA {p p':Addr} {H H':Hp} {us:List V} {x:Str} {ts:List Th} (h:StpT (.tup (.str x::ts))) (ta:TgA p H us ts) (k:Kp H H'):TgA p' H' us ts:=by
 generalize ht:Th.tup (.str x::ts)=t at h
 cases h with
 | @get n s hk hs=>
  have hts:=(Am (Th.tup.inj ht)).2
  subst hts
  obtain ⟨u0,u1,rfl,t0,t1⟩:=bO ta
  exact .cons (jK t0) (.cons (hs.kp t1 k) (.nil))
 | @ask n s hk hs=>
  have hts:=(Am (Th.tup.inj ht)).2
  subst hts
  obtain ⟨u0,u1,rfl,t0,t1⟩:=bO ta
  exact .cons (jK t0) (.cons (hs.kp t1 k) (.nil))
 | @cell n s hk hs=>
  have hts:=(Am (Th.tup.inj ht)).2
  subst hts
  obtain ⟨u0,u1,rfl,t0,t1⟩:=bO ta
  exact .cons (jK t0) (.cons (hs.kp t1 k) (.nil))
 | @two n o x y hk ho hx hy=>
  have hts:=(Am (Th.tup.inj ht)).2
  subst hts
  obtain ⟨u0,u1,u2,u3,rfl,t0,t1,t2,t3⟩:=lS ta
  exact .cons (jK t0) (.cons (vM t1) (.cons (hx.kp t2 k) (.cons (hy.kp t3 k) (.nil))))
 | @put s x hs hx=>
  have hts:=(Am (Th.tup.inj ht)).2
  subst hts
  obtain ⟨u0,u1,rfl,t0,t1⟩:=bO ta
  exact .cons (hs.kp t0 k) (.cons (hx.kp t1 k) (.nil))
 | @tell s x hs hx=>
  have hts:=(Am (Th.tup.inj ht)).2
  subst hts
  obtain ⟨u0,u1,rfl,t0,t1⟩:=bO ta
  exact .cons (hs.kp t0 k) (.cons (hx.kp t1 k) (.nil))
 | @store x y hx hy=>
  have hts:=(Am (Th.tup.inj ht)).2
  subst hts
  obtain ⟨u0,u1,rfl,t0,t1⟩:=bO ta
  exact .cons (hx.kp t0 k) (.cons (hy.kp t1 k) (.nil))
theorem StpT.kp {p p':Addr} {H H':Hp} {v:V} {t:Th} (h:StpT t) (tv:TgV p H v t) (k:Kp H H'):TgV p' H' v t:=by
 obtain ⟨x,ts,rfl⟩:∃ x ts,t=.tup (.str x::ts):=by cases h<;>exact ⟨_,_,rfl⟩
 cases tv with
 | tup e ta=>
  cases ta with
  | cons h0 ta=>
   cases h0
   exact .tup (k.t _ _ e) (.cons (.str _) (h.kpA ta k))
theorem kB {p p':Addr} {H H':Hp} (k:Kp H H'):∀ {us:List V} {ss:List Th},(∀ s∈ss,StpT s)->TgA p H us ss->TgA p' H' us ss
 | _,_,_,.nil=>.nil
 | _,_,h,.cons a t=>.cons ((h _ AC).kp a k) (kB k (fun s hs=>h s (Av _ hs)) t)
theorem LitT.kp {p p':Addr} {H H':Hp} {v:V} {t:Th} (h:LitT t) (tv:TgV p H v t) (k:Kp H H'):TgV p' H' v t:=by
 obtain ⟨ss,on,rfl,hs,ho,hl⟩:=h.ex
 cases tv with
 | tup e ta=>exact match ta with
  | .cons (.tup e1 h1) (.cons h2 .nil)=>.tup (k.t _ _ e) (.cons (.tup (k.t _ _ e1) (kB k hs h1)) (.cons (ho.kp h2 k) .nil))
theorem StO.kp {C:Nat->Addr} {p p':Addr} {H H':Hp} {v:V} {t:Th} (k:Kp H H') (h:StO C p H v t):StO C p' H' v t:=by
 cases h with
 | mk n a dx us ts hk e l ta st=>exact .mk n a dx us ts hk (k.i _ _ _ _ e) l (st.kpA ta k) st
theorem LiO.kp {C:Nat->Addr} {cT p p':Addr} {H H':Hp} {v:V} {t:Th} (k:Kp H H') (h:LiO C cT p H v t):LiO C cT p' H' v t:=by
 cases h with
 | mk a dx tp us o ss on e e2 ps to ho hl hs=>exact .mk a dx tp us o ss on (k.i _ _ _ _ e) (k.t _ _ e2) (L2.Paired.mapP ps fun _ _ h=>h.kp k) (ho.kp to k) ho hl hs
theorem LiO.lit {C:Nat->Addr} {cT p:Addr} {H:Hp} {v:V} {t:Th} (h:LiO C cT p H v t):LitT t:=by
 cases h with
 | mk a dx tp us o ss on e e2 ps to ho hl hs=>exact ⟨ss,on,rfl,hs,ho,hl⟩
abbrev jL:Stmt:=a8 (bK 2) 0
abbrev jM:Stmt:=a8 (bK 3) 0
abbrev mV (R:Addr):List Value:=.ref R::XB.bmV
structure Xs (K:PySem.W.Frag) (mg:Str->Option Value) (R fR cL fL cB:Addr):Prop where
 r:XC K R "RowsError" XB.bmV
 l:XC K cL "BadLine" (mV R)
 b:XC K cB "BadStep" (mV R)
 na:NoAttr K cL "line"
 mkx:yT K cL fL
 ri:uc K R "__init__" fR
 mR:mg "RowsError"=some (.ref R)
 mL:mg "BadLine"=some (.ref cL)
 mB:mg "BadStep"=some (.ref cB)
 val:mg "ValueError"=none
def zJ (K:PySem.W.Frag):Sp:=fun vs H Q _=>∃ e x C d r fs nm bm,vs=[.ref e,x]/\XAt H e C d r fs/\XC K C nm bm/\Q .non H
def sN (C:Addr):Sp:=fun vs H Q _=>∃ e x,vs=[.ref e,x]/\XAt H e C none false []/\∀ H' d,XAt H' e C (some d) false [("line",x)]->(∀ b o,H b=some o->b≠e->H' b=some o)->Q .non H'
section
variable {P:Program} {w:World} {K:PySem.W.Frag} {mg:Str->Option Value} {base:Heap} {R fR cL fL cB cT:Addr} {C fi:Nat->Addr}
theorem zK:ap ["self","text"] ["self","text"] (al jL):=⟨rfl,rfl,rfl,by decide +kernel,rfl,by decide +kernel,by decide +kernel⟩
theorem xY {f:Addr} {fd:FuncData} (F:Fun K "__init__" "RowsError.__init__" jL f fd) (T:Xs K mg R fR cL fL cB):aG P w K mg base bu 1 f fd ["self","text"] (zJ K):=by
 refine F.ok zK (fun vs H Q E h=>?_) (fun cdv A outer s H vs Q E hr h=>?_)
 ·obtain ⟨e,x,C,d,r,fs,nm,bm,rfl,_⟩:=h
  rfl
 ·obtain ⟨e,x,C,d,r,fs,nm,bm,rfl,xa,c,q⟩:=h
  refine ⟨_,af (bT (rJ rfl T.val (aa (pv 0) (aa (pv 1) ac)))),?_⟩
  exact ⟨_,rfl,_,rfl,e,[x],C,d,r,fs,nm,bm,rfl,(by show 1<=1000;decide),xa,c,q⟩
def zL (P:Program) (w:World) (K:PySem.W.Frag) (mg:Str->Option Value) (base:Heap) (fR:Addr):Prop:=∃ fd,Binds K fd ["self","text"] []/\aG P w K mg base bu 1 fR fd ["self","text"] (zJ K)
theorem vN {X:Cx} {p apos pos:Pos} {e:Expr} {es:List Expr} {t:TA} (h:zL X.prog X.w X.K X.mg X.base fR) (T:Xs X.K X.mg R fR cL fL cB) (hr:Room 1 X.A) (hg:Gl X "RowsError") (ha:PA X (e::es) t)
  (hst:starEach (e::es) X.env=(false,eval e X.env)::starEach es X.env:=by rfl) (hpl:(backTo pos (starEach es X.env)).any (·.1)=false:=by rfl) (pl:Sem Bool)
  (ht:eval (.Call (.Attribute (.Name "RowsError" p) "__init__" apos) (e::es) [] pos) X.env=(do
   let ov <-eval (.Name "RowsError" p) X.env
   standAt apos.atName
   let (f,first) <-holding [ov] (getMethod ov "__init__" pl)
   callWith pos f first (backTo pos (starEach (e::es) X.env)) (backToKw pos (keywordEach [] X.env)))) :
  PE X (.Call (.Attribute (.Name "RowsError" p) "__init__" apos) (e::es) [] pos) (mh (zJ X.K) [] E0 t):=by
 obtain ⟨fd,hb,F⟩:=h
 exact o5 (pl:=pl) T.ri F hr hg T.mR hb cV ha (by decide) hst hpl ht
theorem zM:ap ["self","line"] ["self","line"] (al jM):=⟨rfl,rfl,rfl,by decide +kernel,rfl,by decide +kernel,by decide +kernel⟩
theorem xZ {f:Addr} {fd:FuncData} (F:Fun K "__init__" "BadLine.__init__" jM f fd) (T:Xs K mg R fR cL fL cB) (RI':zL P w K mg base fR):aG P w K mg base bu 2 f fd ["self","line"] (sN cL):=by
 refine F.ok zM (fun vs H Q E h=>?_) (fun cdv A outer s H vs Q E hr h=>?_)
 ·obtain ⟨e,x,rfl,_⟩:=h
  rfl
 ·obtain ⟨e,x,rfl,xa,q⟩:=h
  refine ⟨_,ak (bT (vN RI' T hr rfl (aa (pv 0) (aa ah ac)) rfl rfl _ rfl)) (af (rH (pv 0) (pv 1))),?_⟩
  refine ⟨_,rfl,e,_,cL,none,false,[],"BadLine",mV R,rfl,xa,T.l,?_⟩
  refine ⟨_,rfl,_,rfl,e,cL,none,false,[],"BadLine",mV R,rfl,xa,T.l,T.na,(by show 0 < 1000;decide),fun H3 d' xs=>?_⟩
  exact q H3 d' xs.at_ fun b o hb ne=>xs.keep b o hb ne (fun z=>nomatch z)
end
def qp (cL:Addr) (n:Int) (H:Hp) (E:XK):Prop:=∀ e d H',Same H H'->H e=none->XAt H' e cL (some d) true [("line",.int n)]->E (.ref e) none H'
end L3
namespace L3
open PySem L2
def gc (r:Str):Th:=if r="-" then .non else dJ r
def cQ (r:Str):Bool:=!decide (r="-") && !bR (dJ r)
def db (k:Nat):List Str->Option Nat
 | []=>none
 | r::rs=>if k=400\/cQ r=true then some k else db (k+1) rs
def mW (r:Str):Prop:=(cp r).length<=900/\(r≠"-"->bR (dJ r)=true->LitT (dJ r))
inductive Inp (p:Addr) (H:Hp):V->Nat ⊕ List Th->Prop
 | bad (x:Str) (n:Nat):(cp x).length<=100000->(∀ r∈Txt.split x (S [10]),mW r)->db 0 (Txt.split x (S [10]))=some n->Inp p H (.str x) (.inl n)
 | good (x:Str):(cp x).length<=100000->(∀ r∈Txt.split x (S [10]),mW r)->db 0 (Txt.split x (S [10]))=none->Inp p H (.str x) (.inr ((Txt.split x (S [10])).map gc))
 | no {v:V} {t:Th}:TgV p H v t->t.isStr=false->Inp p H v (.inl 0)
inductive RmO (C:Nat->Addr) (cT p:Addr) (H:Hp):V->Th->Prop
 | non:RmO C cT p H .non .non
 | lit {v:V} {t:Th}:LiO C cT p H v t->RmO C cT p H v t
theorem RmO.kp {C:Nat->Addr} {cT p p':Addr} {H H':Hp} {v:V} {t:Th} (k:Kp H H') (h:RmO C cT p H v t):RmO C cT p' H' v t:=by
 cases h with
 | non=>exact .non
 | lit h=>exact .lit (h.kp k)
theorem Inp.cases {p:Addr} {H:Hp} {v:V} {o:Nat ⊕ List Th} (h:Inp p H v o):(∃ t,TgV p H v t/\t.isStr=false/\o=.inl 0)\/∃ x,v=.str x/\(cp x).length<=100000/\(∀ r∈Txt.split x (S [10]),mW r)/\(∀ n,db 0 (Txt.split x (S [10]))=some n->o=.inl n)/\(db 0 (Txt.split x (S [10]))=none->o=.inr ((Txt.split x (S [10])).map gc)):=by
 cases h with
 | bad x n hx hr hb=>exact .inr ⟨x,rfl,hx,hr,fun m hm=>by rw [hb] at hm;cases hm;rfl,fun z=>by rw [hb] at z;cases z⟩
 | good x hx hr hb=>exact .inr ⟨x,rfl,hx,hr,fun m hm=>(by rw [hb] at hm;cases hm),fun _=>rfl⟩
 | no tv hs=>exact .inl ⟨_,tv,hs,rfl⟩
theorem fg {K:PySem.W.Frag} {mg:Str->Option Value} {R fR cL fL cB:Addr} {n:Int} {H H1:Hp} {E:XK} {te:TE} {D:Ends} {σ:St} (TX:Xs K mg R fR cL fL cB) (s1:Same H H1) (qf:qp cL n H E) (ht:∀ Q:VK,Q (.int n) H1->te σ H1 Q):o9 K (o4 cL (sN cL) E0 (oA te qY)) (fun _=>E) D σ H1:=by
 refine ht _ fun e he=>⟨e,.int n,rfl,⟨ad,by show 0<=1000;decide,rfl⟩,fun H2 d xa k=>⟨rfl,e,cL,some d,_,"BadLine",mV R,rfl,xa,TX.l,?_⟩⟩
 obtain ⟨x1,x2,x3,x4⟩:=xa
 refine qf e d _ (fun b o hb=>?_) (s1.free he) ⟨ad,x2,x3,by rw [aB x3];exact x4⟩
 have hb1:=s1 _ _ hb
 have ne:b≠e:=aJ hb1 he
 rw [aB ne]
 exact k b o (by rw [aB ne];exact hb1) ne
def qq (C:Nat->Addr) (cT cL:Addr):Sp:=fun vs H Q E=>∃ (p:Addr) (v:V) (o:Nat ⊕ List Th),vs=[v]/\Inp p H v o/\(∀ n,o=.inl n->qp cL n H E)/\(∀ ts,o=.inr ts->∀ l us H',Same H H'->H' l=some (.lst us)->Paired (RmO C cT p H') us ts->Q (.ref l) H')
def zY (P:Program) (w:World) (K:PySem.W.Frag) (mg:Str->Option Value) (base:Heap) (x:Str) (k:Nat) (ps:List Str) (sp:Sp):Prop:=
 ∃ (f:Addr) (fd:FuncData),mg x=some (.ref f)/\PySem.W.keepIn K (.ref f)=true/\Binds K fd ps []/\aG P w K mg base (qN P w) k f fd ps sp
theorem fG:("\n":Str)=S [10]:=by decide +kernel
theorem iV:gc "-"=.non:=by unfold gc;rw [if_pos rfl]
theorem mX {r:Str} (h:r≠"-"):gc r=dJ r:=by unfold gc;rw [if_neg h]
section
variable {P:Program} {w:World} {K:PySem.W.Frag} {mg:Str->Option Value} {base:Heap} {C fi:Nat->Addr} {R fR cL fL cB cT:Addr}
theorem scReadR:ap ["text","room","at","row","told"] ["text"] (al lA):=⟨rfl,rfl,rfl,by decide +kernel,rfl,by decide +kernel,by decide +kernel⟩
set_option maxHeartbeats 4000000 in
theorem qr {f:Addr} {fd fdL:FuncData} {tM tN:Tok} (F:Fun K "read_room" "read_room" lA f fd) (B:Bl mg) (hen:mg "enumerate"=none) (TX:Xs K mg R fR cL fL cB) (hM:mg "MOST_ADDRESSES"=some (.int 400 tM)) (hN:mg "NO_LITTLE"=some (.str "-" tN)) (FL:aG P w K mg base bu 2 fL fdL ["self","line"] (sN cL)) (BL:Binds K fdL ["self","line"] [])
  (LT:Fn P w K mg base "little_told" 5 ["text"] (dR dJ)) (IL:Fn P w K mg base "is_little" 6 ["thing"] (spAsk bR pH)) (LO:Fn P w K mg base "little_of" 7 ["told"] (ql C cT)):aG P w K mg base (qN P w) 8 f fd ["text"] (qq C cT cL):=by
 refine F.okX scReadR (fun vs H Q E h=>?_) (fun cdv A outer s H vs Q E hr h=>?_)
 ·obtain ⟨p,v,o,rfl,_⟩:=h
  rfl
 ·obtain ⟨p,v,o,rfl,inp,qf,qt⟩:=h
  have hr2:Room 3 _:=hr.mono (by decide)
  have hr5:Room 5 _:=hr.mono (by decide)
  have hr6:Room 6 _:=hr.mono (by decide)
  have sz:(100002:Nat)<=sizeLine:=by decide
  refine ⟨_,ak (aI (c8 (a6 (aH (da (T:="str")) (by rfl) B.isinstance bL (aa (pv 0) (aa (dQ (by rfl) B.str bG) ac))))) (af (kh (kg TX.l TX.mkx FL hr2 rfl TX.mL BL cV (by decide) (aa ae ac)) gT rfl)) aw)
   (ak (aR (i:=1) scReadR.nd rfl (Or.inl rfl) (bf ac))
   (ak (dL (yU (ES:=fun _=>E) rfl) rfl (rE rfl hen (aa (bq Ar PySem.F.slot_str_split PySem.F.type_str_split dh (pv 0) (aa ah ac)) ac)) (kK rfl (cF (a7 (i:=2) scReadR.nd rfl (Or.inl rfl)) (cF (a7 (i:=3) scReadR.nd rfl (Or.inl rfl)) i7)))
    (ak (aR (i:=4) scReadR.nd rfl (Or.inl rfl) (am LT hr5 rfl (aa (pv 3) ac)))
    (ak (aI (PW.pt (cR (av bc (pv 2) (bj (v:=.int 400) rfl hM ⟨_,rfl⟩) (ay _)) (ce (PW.pt (eQ (av ip (pv 3) (bj (v:=.str "-") rfl hN ⟨_,rfl⟩) (ay _)) (dn (c8 (a6 (am IL hr6 rfl (aa (pv 4) ac)))))))))) (af (kh (kg TX.l TX.mkx FL hr2 rfl TX.mL BL cV (by decide) (aa (pv 2) ac)) gT rfl)) aw)
    (af (bT (bq AO AJ AI bF (pv 1) (aa (cf (av bc (pv 3) (bj (v:=.str "-") rfl hN ⟨_,rfl⟩) (ay _)) cv (am LO hr rfl (aa (pv 4) ac))) ac)))))))
   (af (ao (pv 1))))),?_⟩
  rcases inp.cases with ⟨t,tv,hs,rfl⟩|⟨x,rfl,hx,hrow,ho1,ho2⟩
  ·refine ⟨_,rfl,v,_,_,rfl,tv.ty,kit_str t,_,rfl,?_⟩
   rw [hs]
   exact bV (fg (D:={ nx:=fun _ _=>True,rt:=fun _ _=>True }) (n:=0) TX (Same.refl _) (qf 0 rfl) fun Q' h=>h)
  ·refine ⟨_,rfl,_,_,_,rfl,.str x,rfl,_,rfl,bp ?_⟩
   refine ⟨(by show 0<=sizeLine;decide),fun rm nrm=>?_⟩
   have s1:=aj (o:=.lst []) nrm
   have e1:(ax H rm (.lst [])) rm=some (.lst []):=ad
   generalize ax H rm (.lst [])=H1 at *
   refine ⟨_,rfl,rfl,x,_,rfl,rfl,by decide +kernel,by rw [<-cc];omega,fun rl nrl=>?_⟩
   rw [fG]
   have zm:(Txt.split x (S [10])).length<=100002:=by
    have:=cN x (sep:=[10]) (by simp)
    omega
   generalize Txt.split x (S [10])=rows at *
   have s2:=aj (o:=.lst (rows.map V.str)) nrl
   have e2:(ax H1 rl (.lst (rows.map V.str))) rl=some (.lst (rows.map V.str)):=ad
   have e1':=s2 _ _ e1
   have nl0:H rl=none:=s1.free nrl
   have ne12:rm≠rl:=aJ e1 nrl
   generalize ax H1 rl (.lst (rows.map V.str))=H2 at *
   refine ⟨rl,rfl,⟨_,SqL.of e2⟩,?_⟩
   refine o3 (K:=K) (l:=rl) (xs:=rows.map V.str) (fun i σ H'=>∃ v2 v3 v4:Option V,σ=[some (.str x),some (.ref rm),v2,v3,v4]/\Same H H'/\H' rl=some (.lst (rows.map V.str))/\db 0 rows=db i (rows.drop i)/\∃ us,H' rm=some (.lst us)/\us.length=i/\Paired (RmO C cT p H') us ((rows.take i).map gc)) ⟨_,_,_,rfl,s1.trans s2,e2,rfl,[],e1',rfl,.nil⟩ (fun i σ H' _ ⟨_,_,_,_,_,e,_⟩=>SqL.of e) ?_ ?_
   ·rintro i z σ H3 T hz nT ⟨v2,v3,v4,rfl,s3,e3,eb,us,em,lu,pr⟩
    rw [Bp] at hz
    cases hr':rows[i]? with
    | none=>rw [hr'] at hz;cases hz
    | some r=>
    rw [hr'] at hz
    cases hz
    have hlt:i < rows.length:=(An.mp hr').1
    obtain ⟨rk,rg⟩:=hrow r (AZ hr')
    have ed:rows.drop i=r::rows.drop (i+1):=by
     rw [List.drop_eq_getElem_cons hlt,(An.mp hr').2]
    have et:(rows.take (i+1)).map gc=(rows.take i).map gc++[gc r]:=by rw [Bb,hr',AE];rfl
    rw [ed] at eb
    have s4:=aj (o:=.tup [.int i,.str r]) nT
    have e4:(ax H3 T (.tup [.int i,.str r])) T=some (.tup [.int i,.str r]):=ad
    generalize ax H3 T (.tup [.int i,.str r])=H4 at *
    refine ⟨T,_,rfl,SqT.of e4,rfl,_,_,rfl,_,_,rfl,rfl,?_⟩
    refine ⟨_,rfl,r,rfl,rk,fun u H5 s5 tg=>?_⟩
    have s35:=(s3.trans s4).trans s5
    have k35:=Kp.of (s4.trans s5)
    refine ⟨_,rfl,rfl,_,rfl,?_⟩
    rw [dint]
    by_cases h4:i=400
    ·refine bg (decide_eq_true (by omega)) (fg (D:={ nx:=fun _ _=>True,rt:=fun _ _=>True }) (n:=i) TX s35 (qf i (ho1 i ?_)) fun Q' h=>⟨_,rfl,h⟩)
     rw [eb]
     unfold db
     rw [if_pos (.inl h4)]
    ·refine aN (decide_eq_false (by omega)) ⟨_,rfl,rfl,_,rfl,?_⟩
     rw [dstr]
     by_cases hd:r="-"
     ·rw [decide_eq_true hd]
      refine bp (bp ?_)
      refine ⟨_,rfl,.inl ⟨rfl,_,SqL.of ((s4.trans s5) _ _ em)⟩,_,rfl,rfl,_,rfl,?_⟩
      rw [dstr]
      refine bg (decide_eq_true hd) ⟨rm,_,_,rfl,rfl,(s4.trans s5) _ _ em,by omega,?_⟩
      have kk:=k35.trans (Kp.lst (ys:=us++[.non]) ((s4.trans s5) _ _ em))
      refine ⟨_,_,_,rfl,az nrm s35,by rw [aB ne12.symm];exact (s4.trans s5) _ _ e3,?_,us++[.non],ad,by rw [Ah,lu];rfl,?_⟩
      ·rw [eb]
       show (if i=400\/cQ r=true then some i else db (i+1) (rows.drop (i+1)))=_
       rw [if_neg]
       rintro (z|z)
       ·exact h4 z
       ·rw [cQ,decide_eq_true hd] at z;cases z
      ·rw [et,hd,iV]
       exact eO .non (L2.Paired.mapP pr fun _ _ h=>h.kp kk)
     ·rw [decide_eq_false hd]
      refine bV ⟨_,rfl,p,u,dJ r,rfl,tg p,pZ rk,fun H6 s6=>⟨_,rfl,?_⟩⟩
      cases hok:bR (dJ r) with
      | false=>
       refine bV (fg (D:={ nx:=fun _ _=>True,rt:=fun _ _=>True }) (n:=i) TX (s35.trans s6) (qf i (ho1 i ?_)) fun Q' h=>⟨_,rfl,h⟩)
       rw [eb]
       show (if i=400\/cQ r=true then some i else db (i+1) (rows.drop (i+1)))=_
       rw [if_pos]
       right
       rw [cQ,hok,decide_eq_false hd];rfl
      | true=>
       refine bp ?_
       have s46:=(s4.trans s5).trans s6
       refine ⟨_,rfl,.inl ⟨rfl,_,SqL.of (s46 _ _ em)⟩,_,rfl,rfl,_,rfl,?_⟩
       rw [dstr]
       refine aN (decide_eq_false hd) ⟨_,rfl,p,u,dJ r,rfl,(tg p).same s6,rg hd hok,fun o7 H7 s7 lo=>?_⟩
       have s47:=s46.trans s7
       refine ⟨rm,_,_,rfl,rfl,s47 _ _ em,by omega,?_⟩
       have kk:Kp H3 (ax H7 rm (.lst (us++[o7]))):=(Kp.of s47).trans (Kp.lst (s47 _ _ em))
       refine ⟨_,_,_,rfl,az nrm ((s35.trans s6).trans s7),by rw [aB ne12.symm];exact s47 _ _ e3,?_,us++[o7],ad,by rw [Ah,lu];rfl,?_⟩
       ·rw [eb]
        show (if i=400\/cQ r=true then some i else db (i+1) (rows.drop (i+1)))=_
        rw [if_neg]
        rintro (z|z)
        ·exact h4 z
        ·rw [cQ,hok,Bool.not_true,Bool.and_false] at z;cases z
       ·rw [et,mX hd]
        exact eO (.lit (lo.kp (Kp.lst (s47 _ _ em)))) (L2.Paired.mapP pr fun _ _ h=>h.kp kk)
   ·rintro σ H3 ⟨v2,v3,v4,rfl,s3,e3,eb,us,em,lu,pr⟩
    rw [Aj] at eb pr
    rw [List.drop_length] at eb
    rw [AN] at pr
    exact ⟨_,rfl,qt _ (ho2 eb) rm us H3 s3 em pr⟩
end
end L3
namespace L2
open PySem PySem.Spec PyProof.Rows
section
variable {X:Cx}
theorem qu {K:PySem.W.Frag} (h:X.K=K):cu X (.builtin "isinstance") (fun xs H Q=>∃ e C d r fs nm bm C' nm' bm',xs=[.ref e,.ref C']/\XAt H e C d r fs/\XC K C nm bm/\XC K C' nm' bm'/\Q (.bl ((Value.ref C::bm).contains (.ref C'))) H):=by
 subst h;exact rF
theorem qv {K:PySem.W.Frag} {e:Expr} {f:Str} {ta:TE} {pos:Pos} (h:X.K=K) (he:PE X e ta) (hb:attributeBase e f X.env (eval e X.env)=eval e X.env):PE X (.Attribute e f pos) (ua K ta f):=by
 subst h;exact rG he hb
theorem qw {K:PySem.W.Frag} {tg l:Expr} {tl:TE} (h:X.K=K) (hl:PE X l tl):PI X tg l (tK K tl):=by
 subst h
 exact dq hl
theorem sO {K:PySem.W.Frag} {T:String} (h:X.K=K):cu X (.builtin "isinstance") (fun xs H Q=>∃ x t b,xs=[x,.ty T]/\eF K H x t/\PySem.W.kitOne K t (.type T)=some b/\Q (.bl b) H):=by
 subst h
 exact da
end
end L2
namespace L3
open PySem L2
structure Lk (K:PySem.W.Frag) (cT:Addr):Prop where
 t1:PySem.W.findIn K (.ref cT) "__class__"=some (some (.builtin "object.__class__"))
 t2:PySem.W.specialIn K (.builtin "object.__class__") "__get__"=some (some (.builtin "getset_descriptor.__get__"))
 t3:PySem.W.takesIn K (.builtin "object.__class__")=some true
 t4:PySem.W.mroIn K cT (.type "object")=some true
 kn:PySem.W.kitOne K (.type "NoneType") (.ref cT)=some false
theorem qx {K:PySem.W.Frag} (c:Value):PySem.W.kitOne K c c=some true:=by
 unfold PySem.W.kitOne
 rw [if_pos (by simp)]
inductive RmV (p:Addr) (H:Hp):V->Th->Prop
 | non:RmV p H .non .non
 | lit {v:V} {t:Th}:LitT t->TgV p H v t->RmV p H v t
theorem RmV.kp {p p':Addr} {H H':Hp} {v:V} {t:Th} (k:Kp H H') (h:RmV p H v t):RmV p' H' v t:=by
 cases h with
 | non=>exact .non
 | lit a b=>exact .lit a (a.kp b k)
def lV (C:Nat->Addr) (cT:Addr):Sp:=fun vs H Q _=>∃ (p:Addr) (v:V) (o:Nat ⊕ List Th),vs=[v]/\Inp p H v o/\(∀ n:Nat,o=.inl n->∀ r H',Same H H'->H' r=some (.tup [.str "bad",.int n])->Q (.ref r) H') /\
 (∀ ts,o=.inr ts->∀ r l us H',Same H H'->H' r=some (.tup [.str "told",.ref l,.bl true])->H' l=some (.lst us)->Paired (RmV p H') us ts->Q (.ref r) H')
def aX:Th->List Nat
 | .non=>[45]
 | t=>gr t
theorem fH {t:Th} (h:LitT t):aX t=gr t:=by
 obtain ⟨ss,on,rfl,_⟩:=h.ex
 rfl
theorem kC {t:Th} (h:LitT t):(gr t).length<=800:=by
 obtain ⟨ss,on,rfl,hs,ho,hl⟩:=h.ex
 have a:=(gb hs hl).2
 have b:=lU ho
 show ((if ss=[] then [58,32] else TK.jn [32,44,32] (ss.map cD)++[32,58,32])++TK.jn [32] (dI on)).length<=800
 split<;>simp only [Ah,Ai,Ak]<;>omega
def qy (C:Nat->Addr) (cT:Addr):Sp:=fun vs H Q _=>∃ (p l:Addr) (us:List V) (ts:List Th),vs=[.ref l]/\H l=some (.lst us)/\Paired (RmO C cT p H) us ts/\ts.length<=20/\∀ H',Same H H'->Q (.str (S (TK.jn [10] (ts.map aX)))) H'
section
variable {P:Program} {w:World} {K:PySem.W.Frag} {mg:Str->Option Value} {base:Heap} {C fi:Nat->Addr} {R fR cL fL cB cT:Addr}
theorem vO:ap ["room"] ["room"] (al mw):=⟨rfl,rfl,rfl,by decide +kernel,rfl,by decide +kernel,by decide +kernel⟩
theorem zN:(["little"]:List Str).Nodup:=by decide +kernel
set_option maxHeartbeats 2000000 in
theorem sQ {f:Addr} {fd:FuncData} {tN:Tok} (F:Fun K "show_room" "show_room" mw f fd) (hN:mg "NO_LITTLE"=some (.str "-" tN)) (L:Lc K cT) (WO:gp P w K mg base cT "words" 3 ["self"] (qk C cT)):aG P w K mg base bu 4 f fd ["room"] (qy C cT):=by
 refine F.ok vO (fun vs H Q E h=>?_) (fun cdv A outer s H vs Q E hr h=>?_)
 ·obtain ⟨p,l,us,ts,rfl,_⟩:=h
  rfl
 ·obtain ⟨p,l,us,ts,rfl,el,pr,hl,q⟩:=h
  have sz:(100000:Nat)<=sizeLine:=by decide
  obtain ⟨f2,fd2,m2,F2,b2⟩:=WO
  refine ⟨_,af (ao (bq Ar AY AX cE ah (aa (dH (N':=["little"]) (ix:=[none]) (sc0:=al mw) (N:=["room"]) rfl (by decide +kernel) (dq (pv 0))
     (fun C' cl s H fp=>a7 (i:=0) zN rfl (Or.inl rfl) (.inr rfl)) (fun _ _ _ _ _=>cz) (fun C' cl s H fp=>cf (av i8 (pv 0) cv (ay _)) (bj (v:=.str "-") rfl hN ⟨_,rfl⟩) (dU (P:=P) (w:=w) (K:=K) (mg:=mg) (base:=base) (k:=3) rfl rfl rfl rfl rfl hr (pv 0)))) ac))),?_⟩
  have lus:=pr.length
  refine ⟨rfl,_,rfl,l,rfl,⟨_,SqL.of el⟩,?_⟩
  refine gy (K:=K) (a:=l) (xs:=us) (fun i ys H'=>Same H H'/\ys=((ts.take i).map aX).map (fun t=>V.str (S t))) ⟨Same.refl _,rfl⟩ (fun i ys H' hi ⟨s',e'⟩=>⟨SqL.of (s' _ _ el),by rw [e',Aj,Aj,AH];omega⟩) ?_ ?_
  ·rintro i z ys H2 hz ⟨s2,rfl⟩
   have hlt:i < us.length:=(An.mp hz).1
   obtain ⟨t,et,st⟩:=jH pr hz
   have tk:((ts.take (i+1)).map aX).map (fun t=>V.str (S t))=((ts.take i).map aX).map (fun t=>V.str (S t))++[.str (S (aX t))]:=by
    rw [Bb,et,AE,AE];rfl
   refine ⟨trivial,cw ⟨_,rfl,rfl,_,rfl,?_⟩⟩
   cases st with
   | non=>
    refine bg (decide_eq_true rfl) ?_
    unfold tC
    refine Nx.mk hlt ⟨s2,?_⟩
    rw [tk]
    have:("-":Str)=S (aX .non):=by decide +kernel
    rw [this]
   | lit lo=>
    have lo2:=lo.same s2
    have hlit:=lo.lit
    have lo3:=lo2
    cases lo3 with
    | mk a dx tp vs o ss on e e2 ps to ho hl' hs=>
     refine aN (decide_eq_false (by intro z;cases z)) ⟨_,rfl,a,dx,cT,f2,_,fd2,_,_,rfl,e,rfl,L.cls,m2,F2,b2,p,_,_,rfl,lo2,fun H3 s3=>Nx.mk hlt ⟨s2.trans s3,?_⟩⟩
     rw [tk,fH hlit]
  ·rintro ys H2 ⟨s2,rfl⟩ D nD
   rw [lus,AN]
   have s3:=aj (o:=.lst ((ts.map aX).map (fun t=>V.str (S t)))) nD
   refine ⟨[10],D,ts.map aX,congrArg V.str fG,rfl,SqL.of ad,?_,q _ (s2.trans s3)⟩
   have a:=fc 800 (ts.map aX) fun z hz=>by
    obtain ⟨t,ht,rfl⟩:=AV.mp hz
    obtain ⟨i,hi,e⟩:=List.getElem_of_mem ht
    have:∀ {us:List V} {ts:List Th},Paired (RmO C cT p H) us ts->∀ t∈ts,(aX t).length<=800:=by
     intro us ts h
     induction h with
     | nil=>intro t ht;cases ht
     | cons h _ ih=>
      intro t ht
      rcases AG.mp ht with rfl|ht
      ·cases h with
       | non=>decide
       | lit lo=>rw [fH lo.lit];exact kC lo.lit
      ·exact ih t ht
    exact this pr t ht
   rw [Aj] at a
   rw [Aj]
   show _+ts.length*1<=100000
   omega
theorem scLSaid:ap ["_law_text","_law_found","_law_room_here","e"] ["_law_text"] (al ju):=⟨rfl,rfl,rfl,by decide +kernel,rfl,by decide +kernel,by decide +kernel⟩
theorem x6:(["_law_one"]:List Str).Nodup:=by decide +kernel
set_option maxHeartbeats 4000000 in
theorem qz {f:Addr} {fd:FuncData} (F:Fun K "_law_said" "_law_said" ju f fd) (B:Bl mg) (TX:Xs K mg R fR cL fL cB) (mT:mg "Little"=some (.ref cT)) (L:Lc K cT) (L2':Lk K cT) (TO:gp P w K mg base cT "told" 2 ["self"] (mU C cT)) (RD:zY P w K mg base "read_room" 8 ["text"] (qq C cT cL)):aG P w K mg base bu 9 f fd ["_law_text"] (lV C cT):=by
 refine F.ok scLSaid (fun vs H Q E h=>?_) (fun cdv A outer s H vs Q E hr h=>?_)
 ·obtain ⟨p,v,o,rfl,_⟩:=h
  rfl
 ·obtain ⟨p,v,o,rfl,inp,qf,qt⟩:=h
  have sz:(100002:Nat)<=sizeLine:=by decide
  have hr2:Room 2 _:=hr.mono (by decide)
  obtain ⟨f1,fd1,m1,k1,b1,F1⟩:=RD
  obtain ⟨f2,fd2,m2,F2,b2⟩:=TO
  refine ⟨_,ak (aR (i:=1) scLSaid.nd rfl (Or.inl rfl) cv)
   (ak (uM (i:=3) rfl (fun pn ES=>ak (aR (i:=2) scLSaid.nd rfl (Or.inl rfl) (o8 F1 hr rfl m1 k1 b1 .nil gT (aa (pv 0) ac)))
     (af (aR (i:=1) scLSaid.nd rfl (Or.inl rfl) (aA (aa ah (aa (dH (N':=["_law_one"]) (ix:=[none]) (sc0:=al ju) (N:=["_law_text","_law_found","_law_room_here","e"]) rfl (by decide +kernel) (qw (K:=K) rfl (pv 2))
      (fun C' cl s H fp=>a7 (i:=0) x6 rfl (Or.inl rfl) (.inr rfl)) (fun _ _ _ _ _=>cz) (fun C' cl s H fp=>cf (a6 (aH (qh (K:=K) rfl) (by rfl) B.isinstance bL (aa (pv 0) (aa (bj (v:=.ref cT) rfl mT rfl) ac)))) (dU (P:=P) (w:=w) (K:=K) (mg:=mg) (base:=base) (k:=2) rfl rfl rfl rfl rfl hr2 (pv 0)) (pv 0)))
      (aa (aH (sO (K:=K) (T:="list") rfl) (by rfl) B.isinstance bL (aa (pv 2) (aa (dQ (by rfl) B.list eX) ac))) ac)))))))
    (fun A pn=>af (aI (a6 (aH (qu (K:=K) rfl) (by rfl) B.isinstance bL (aa (pv 3) (aa (bj (v:=.ref cL) rfl TX.mL rfl) ac))))
     (af (aR (i:=1) scLSaid.nd rfl (Or.inl rfl) (aA (aa ah (aa (qv (K:=K) rfl (pv 3) rfl) ac))))) aw)) rfl TX.mR TX.r scLSaid.nd rfl rfl)
   (af (ao (pv 1)))),?_⟩
  have hc1:(Value.ref cL::mV R).contains (.ref R)=true:=by simp [List.contains_cons]
  have hc2:(Value.ref cL::mV R).contains (.ref cL)=true:=by simp [List.contains_cons]
  refine ⟨_,rfl,p,v,o,rfl,inp,fun n eo e d H1 s1 _ xa=>?_,fun ts eo l us H1 s1 el pr=>?_⟩
  ·refine ⟨e,cL,some d,_,"BadLine",mV R,rfl,xa,TX.l,hc1,?_⟩
   refine ⟨_,rfl,e,cL,some d,true,_,"BadLine",mV R,cL,"BadLine",mV R,rfl,xa,TX.l,TX.l,_,rfl,bg hc2 ?_⟩
   refine ⟨_,rfl,e,cL,d,true,_,"BadLine",mV R,.int n,rfl,xa,TX.l,TX.na,rfl,(by show 2<=sizeLine;decide),fun r nr=>?_⟩
   exact ⟨_,rfl,qf n eo r _ (s1.trans (aj nr)) ad⟩
  ·have lus:=pr.length
   have bnd:us.length<=100002:=by
    subst eo
    generalize ho:(Sum.inr ts:Nat ⊕ List Th)=o at inp
    cases inp with
    | good x hx _ _=>
     cases ho
     rw [Aj] at lus
     have:=cN x (sep:=[10]) (by simp)
     omega
    | bad=>cases ho
    | no=>cases ho
   refine ⟨_,rfl,l,rfl,⟨_,SqL.of el⟩,?_⟩
   refine gy (K:=K) (a:=l) (xs:=us) (fun i ys H'=>Same H1 H'/\ys.length=i/\Paired (RmV p H') ys (ts.take i)) ⟨Same.refl _,rfl,.nil⟩ (fun i ys H' hi ⟨s',e',_⟩=>⟨SqL.of (s' _ _ el),by omega⟩) ?_ ?_
   ·rintro i z ys H2 hz ⟨s2,hl3,pv⟩
    have hlt:i < us.length:=(An.mp hz).1
    obtain ⟨t,et,st⟩:=jH pr hz
    have tk:ts.take (i+1)=ts.take i++[t]:=by rw [Bb,et];rfl
    cases st with
    | non=>
     refine ⟨trivial,cw ⟨_,rfl,.non,.ref cT,_,.ref cT,false,rfl,.non,fun u h=>h,L2'.kn,_,rfl,bp ⟨_,rfl,Nx.mk hlt ⟨s2,by rw [Ah,hl3];rfl,?_⟩⟩⟩⟩
     rw [tk]
     exact eO .non pv
    | lit lo=>
     have lo2:=lo.same s2
     have hlit:=lo.lit
     have lo3:=lo2
     cases lo3 with
     | mk a dx tp vs o ss on e e2 ps to ho hl' hs=>
      refine ⟨trivial,cw ⟨_,rfl,.ref a,.ref cT,.ref cT,.ref cT,true,rfl,.ins e L.cls L2'.t1 L2'.t2 L2'.t3 L2'.t4,fun u h=>h,qx _,_,rfl,bV ⟨_,rfl,a,dx,cT,f2,_,fd2,_,_,rfl,e,rfl,L.cls,m2,F2,b2,p,_,_,rfl,lo2,fun r H3 s3 tg=>Nx.mk hlt ⟨s2.trans s3,by rw [Ah,hl3];rfl,?_⟩⟩⟩⟩
      rw [tk]
      exact eO (.lit hlit tg) (L2.Paired.mapP pv fun _ _ h=>h.kp (Kp.of s3))
   ·rintro ys H2 ⟨s2,hl3,pv⟩ D nD
    rw [lus,AN] at pv
    have s3:=aj (o:=.lst ys) nD
    have e3:(ax H2 D (.lst ys)) D=some (.lst ys):=ad
    generalize ax H2 D (.lst ys)=H3 at *
    refine ⟨_,rfl,.ref l,_,_,rfl,.lst ((s2.trans s3) _ _ el),rfl,(by show 3<=sizeLine;decide),fun r nr=>?_⟩
    have s4:=aj (o:=.tup [.str "told",.ref D,.bl true]) nr
    exact ⟨_,rfl,qt ts eo r D ys _ (((s1.trans s2).trans s3).trans s4) ad (s4 _ _ e3) (L2.Paired.mapP pv fun _ _ h=>h.kp (Kp.of (s3.trans s4)))⟩
end
end L3
namespace L2
open PySem PySem.Spec PyProof.Rows
section
variable {X:Cx}
theorem sS:dG X (binaryOp .Mult) (fun x y H Q=>∃ (z:Str) (n:Nat),x=.str z/\y=.int n/\2<=n/\n<=100/\1<=z.length/\z.length<=100/\(⟨(List.replicate n z.cps).foldl (·++·) #[]⟩:Str).length<=sizeLine/\Q (.str ⟨(List.replicate n z.cps).foldl (·++·) #[]⟩) H):=by
 intro pins s σ H x y v u Q I rx ry h
 obtain ⟨z,n,rfl,rfl,h1,h2,h3,h4,h5,q⟩:=h
 obtain ⟨t,rfl⟩:=rx
 obtain ⟨t2,rfl⟩:=ry
 refine PySem.P.mul_str ?_ ?_ ?_ ?_
 ·simp;omega
 ·intro _ _ hgt
  have:(100:Int)<=(2 ^ 63 - 1) / (n:Int):=by
   rw [Int.le_ediv_iff_mul_le (by omega)]
   omega
  omega
 ·intro _ _
  unfold Builtin.Str.tooLong
  have sz:(10000:Nat)<=sizeLine:=by decide
  have hm:z.length*n<=100*100:=Nat.mul_le_mul h4 h2
  simp
  omega
 ·rw [if_neg (by omega),if_neg (by simp;omega)]
  rw [Int.toNat_natCast]
  exact ⟨h5,.str _,H,I.tok _,⟨_,rfl⟩,q⟩
end
end L2
namespace L3
open PySem L2
def gB (C:Th->Prop):Sp:=fun vs H Q _=>∃ p:Addr,vs=[.ref p,.int 400]/\Strm H p/\∀ v t H',TgV p H' v t->C t->Strm H' p->But p H H'->Q v H'
theorem zZ:(⟨(List.replicate 4 ("go":Str).cps).foldl (·++·) #[]⟩:Str)="gogogogo":=by decide +kernel
theorem vP {r:Nat} (h:r < 4):∃ z∈nK,jU [V.str "z",.str "setq",.str "deeply",.str "gogogogo"] (r:Int)=some (.str z):=by
 rcases (by omega:r=0\/r=1\/r=2\/r=3) with rfl|rfl|rfl|rfl<;>exact ⟨_,by decide +kernel,rfl⟩
theorem TgA.nth {p:Addr} {H:Hp} {vs:List V} {ts:List Th} (h:TgA p H vs ts) {r:Nat} (hr:r < ts.length):∃ v t,jU vs (r:Int)=some v/\t∈ts/\TgV p H v t:=by
 have hl:=h.length
 have hlt:r < vs.length:=by omega
 have hx:vs[r]?=some vs[r]:=Bk hlt
 obtain ⟨t,et,tv⟩:=h.get hx
 exact ⟨_,t,aK hx,AZ et,tv⟩
theorem TgA.all {p:Addr} {H:Hp} {C:Th->Prop} {vs:List V} {ts:List Th} (h:TgA p H vs ts) (c:∀ t∈ts,C t) {r:Nat} (hr:r < ts.length):∃ v t,jU vs (r:Int)=some v/\C t/\TgV p H v t:=by
 obtain ⟨v,t,e,m,tv⟩:=h.nth hr
 exact ⟨v,t,e,c t m,tv⟩
section
variable {P:Program} {w:World} {K:PySem.W.Frag} {mg:Str->Option Value} {base:Heap}
theorem scLOn:ap ["_law_stream_here","_law_most","_law_way","_law_ends"] ["_law_stream_here","_law_most"] (al uP):=⟨rfl,rfl,rfl,by decide +kernel,rfl,by decide +kernel,by decide +kernel⟩
set_option maxHeartbeats 8000000 in
theorem vQ {f:Addr} {fd:FuncData} (F:Fun K "_law_on" "_law_on" uP f fd) (TK:Fn P w K mg base "_law_take" 1 ["_law_stream_here","_law_many"] cJ):aG P w K mg base bu 2 f fd ["_law_stream_here","_law_most"] (gB OnT):=by
 refine F.ok scLOn (fun vs H Q E h=>?_) (fun cdv A outer s H vs Q E hr h=>?_)
 ·obtain ⟨p,rfl,_⟩:=h
  rfl
 ·obtain ⟨p,rfl,hp,q⟩:=h
  refine ⟨_,ak (aR (i:=2) scLOn.nd rfl (Or.inl rfl) (am TK hr rfl (aa (pv 0) (aa ae ac))))
   (ak (aI (av oj (pv 2) ae (ay _)) (af (ao (aA (aa (aq aC (bf (aa ah (aa ah ac))) (pv 2) (fun _ _=>rfl)) (aa (am TK hr rfl (aa (pv 0) (aa ae ac))) (aa (am TK hr rfl (aa (pv 0) (aa (pv 1) ac))) (aa (am TK hr rfl (aa (pv 0) (aa (pv 1) ac))) ac))))))) aw)
   (ak (aI (av oj (pv 2) ae (ay _)) (af (ao (aA (aa ah (aa (am TK hr rfl (aa (pv 0) (aa (pv 1) ac))) ac))))) aw)
   (ak (aR (i:=3) scLOn.nd rfl (Or.inl rfl) (bf (aa (aA (aa ah ac)) (aa (aA (aa ah (aa (am TK hr rfl (aa (pv 0) (aa ae ac))) ac))) (aa (aA (aa ah (aa (am TK hr rfl (aa (pv 0) (aa ae ac))) ac))) (aa (aA (aa ah ac)) (aa (aA (aa ah ac)) ac)))))))
   (af (ao (aA (aa ah (aa (aq aC (aP cH (pv 3) (bf (aa (aA (aa ah (aa (aq aC (bf (aa ah (aa ah (aa ah (aa (aP sS ah ae) ac))))) (am TK hr rfl (aa (pv 0) (aa ae ac))) (fun _ _=>rfl)) ac))) ac))) (am TK hr rfl (aa (pv 0) (aa ae ac))) (fun _ _=>rfl)) ac)))))))),?_⟩
  refine ⟨_,rfl,p,6,rfl,hp,by decide,by decide,fun r1 H1 l1 g1 b1=>?_⟩
  refine ⟨_,rfl,_,_,rfl,rfl,_,rfl,bC (fun h=>?_) (fun h0=>?_)⟩
  ·have hr2:r1 < 2:=by have:=of_decide_eq_true h;omega
   refine ⟨(by show 2<=sizeLine;decide),fun lm nm=>?_⟩
   have s2:=aj (o:=.lst [.str "some",.str "top"]) nm
   have e2:(ax H1 lm (.lst [.str "some",.str "top"])) lm=some (.lst [.str "some",.str "top"]):=ad
   have g2:=g1.same s2
   generalize ax H1 lm (.lst [V.str "some",.str "top"])=H2 at *
   obtain ⟨z,hz,ez⟩:∃ z:Str,(z="some"\/z="top")/\jU [V.str "some",.str "top"] (r1:Int)=some (.str z):=by
    rcases (by omega:r1=0\/r1=1) with rfl|rfl
    ·exact ⟨_,.inl rfl,rfl⟩
    ·exact ⟨_,.inr rfl,rfl⟩
   refine ⟨_,rfl,lm,_,_,_,rfl,rfl,SqL.of e2,ez,?_⟩
   refine ⟨_,rfl,p,8,rfl,g2,by decide,by decide,fun i H3 li g3 b3=>⟨_,rfl,_,rfl,p,400,rfl,g3,by decide,by decide,fun a H4 la g4 b4=>⟨_,rfl,_,rfl,p,400,rfl,g4,by decide,by decide,fun b H5 lb g5 b5=>⟨(by show 4<=sizeLine;decide),fun tp np=>?_⟩⟩⟩⟩
   have s6:=aj (o:=.tup [.str z,.int i,.int a,.int b]) np
   exact q _ (.tup [.str z,.int i,.int a,.int b]) _ (.tup ad (.cons (.str _) (.cons (.int _) (.cons (.int _) (.cons (.int _) .nil))))) (.two z i a b hz li la lb) (g5.same s6) (((((b1.same s2).trans b3).trans b4).trans b5).same s6)
  refine ⟨_,rfl,_,_,rfl,rfl,_,rfl,bC (fun h=>?_) (fun h1=>?_)⟩
  ·refine ⟨_,rfl,_,rfl,p,400,rfl,g1,by decide,by decide,fun a H4 la g4 b4=>⟨(by show 2<=sizeLine;decide),fun tp np=>?_⟩⟩
   have s6:=aj (o:=.tup [.str "on",.int a]) np
   exact q _ (.tup [.str "on",.int a]) _ (.tup ad (.cons (.str _) (.cons (.int _) .nil))) (.on a la) (g4.same s6) ((b1.trans b4).same s6)
  ·refine ⟨(by show 1<=sizeLine;decide),fun t1 n1=>?_⟩
   have s1:=aj (o:=.tup [.str "next"]) n1
   have e1:(ax H1 t1 (.tup [.str "next"])) t1=some (.tup [.str "next"]):=ad
   have f1:=g1.same s1
   generalize ax H1 t1 (.tup [V.str "next"])=J1 at *
   refine ⟨_,rfl,p,3,rfl,f1,by decide,by decide,fun i H2 li g2 b2=>⟨(by show 2<=sizeLine;decide),fun t2 n2=>?_⟩⟩
   have s2:=aj (o:=.tup [.str "go",.int i]) n2
   have e2:(ax H2 t2 (.tup [.str "go",.int i])) t2=some (.tup [.str "go",.int i]):=ad
   have f2:=g2.same s2
   generalize ax H2 t2 (.tup [V.str "go",.int i])=J2 at *
   refine ⟨_,rfl,p,3,rfl,f2,by decide,by decide,fun j H3 lj g3 b3=>⟨(by show 2<=sizeLine;decide),fun t3 n3=>?_⟩⟩
   have s3:=aj (o:=.tup [.str "call",.int j]) n3
   have e3:(ax H3 t3 (.tup [.str "call",.int j])) t3=some (.tup [.str "call",.int j]):=ad
   have f3:=g3.same s3
   generalize ax H3 t3 (.tup [V.str "call",.int j])=J3 at *
   refine ⟨(by show 1<=sizeLine;decide),fun t4 n4=>⟨(by show 1<=sizeLine;decide),fun t5 n5=>⟨(by show 5<=sizeLine;decide),fun lm nm=>?_⟩⟩⟩
   have s4:=aj (o:=.tup [.str "back"]) n4
   have e4:(ax J3 t4 (.tup [.str "back"])) t4=some (.tup [.str "back"]):=ad
   have f4:=f3.same s4
   generalize ax J3 t4 (.tup [V.str "back"])=J4 at *
   have s5:=aj (o:=.tup [.str "stop"]) n5
   have e5:(ax J4 t5 (.tup [.str "stop"])) t5=some (.tup [.str "stop"]):=ad
   have f5:=f4.same s5
   generalize ax J4 t5 (.tup [V.str "stop"])=J5 at *
   have kt12:=f1.kt b2
   have kt23:=f2.kt b3
   have s35:=s4.trans s5
   have e1':=s35 _ _ (s3 _ _ (kt23 _ _ (s2 _ _ (kt12 _ _ e1))))
   have e2':=s35 _ _ (s3 _ _ (kt23 _ _ e2))
   have e3':=s35 _ _ e3
   have e4':=s5 _ _ e4
   have b5:But p H J5:=(((((b1.same s1).trans b2).same s2).trans b3).same s3).same s35
   have s6:=aj (o:=.lst [.ref t1,.ref t2,.ref t3,.ref t4,.ref t5]) nm
   have e6:(ax J5 lm (.lst [.ref t1,.ref t2,.ref t3,.ref t4,.ref t5])) lm=some (.lst [.ref t1,.ref t2,.ref t3,.ref t4,.ref t5]):=ad
   have f6:=f5.same s6
   have ne6:=(f5.ne nm).symm
   generalize ax J5 lm (.lst [V.ref t1,.ref t2,.ref t3,.ref t4,.ref t5])=J6 at *
   refine ⟨_,rfl,"go",4,rfl,rfl,by decide,by decide,by decide +kernel,by decide +kernel,(by rw [zZ];decide +kernel),?_⟩
   rw [zZ]
   refine ⟨(by show 4<=sizeLine;decide),fun ln nn=>?_⟩
   have s7:=aj (o:=.lst [.str "z",.str "setq",.str "deeply",.str "gogogogo"]) nn
   have e7:(ax J6 ln (.lst [.str "z",.str "setq",.str "deeply",.str "gogogogo"])) ln=some (.lst [.str "z",.str "setq",.str "deeply",.str "gogogogo"]):=ad
   have f7:=f6.same s7
   have ne7:=(f6.ne nn).symm
   generalize ax J6 ln (.lst [V.str "z",.str "setq",.str "deeply",.str "gogogogo"])=J7 at *
   refine ⟨_,rfl,p,4,rfl,f7,by decide,by decide,fun r2 H8 l2 g8 b8=>?_⟩
   obtain ⟨z,hz,ez⟩:=vP l2
   refine ⟨ln,_,_,_,rfl,rfl,SqL.of (b8 _ _ e7 ne7),ez,(by show 2<=sizeLine;decide),fun t9 n9=>?_⟩
   have s9:=aj (o:=.tup [.str "fault",.str z]) n9
   have e9:(ax H8 t9 (.tup [.str "fault",.str z])) t9=some (.tup [.str "fault",.str z]):=ad
   have f9:=g8.same s9
   generalize ax H8 t9 (.tup [V.str "fault",.str z])=J9 at *
   refine ⟨(by show 1<=sizeLine;decide),fun lq nq=>?_⟩
   have s10:=aj (o:=.lst [.ref t9]) nq
   have e10:(ax J9 lq (.lst [.ref t9])) lq=some (.lst [.ref t9]):=ad
   have f10:=f9.same s10
   generalize ax J9 lq (.lst [V.ref t9])=J10 at *
   have kt8:=f7.kt b8
   have s810:=s9.trans s10
   have e6':=s810 _ _ (b8 _ _ (s7 _ _ e6) ne6)
   refine ⟨lm,lq,_,_,rfl,rfl,e6',e10,(by show 5+1<=sizeLine;decide),fun lr nr=>?_⟩
   have s11:=aj (o:=.lst ([.ref t1,.ref t2,.ref t3,.ref t4,.ref t5]++[.ref t9])) nr
   have e11:(ax J10 lr (.lst ([.ref t1,.ref t2,.ref t3,.ref t4,.ref t5]++[.ref t9]))) lr=some (.lst ([.ref t1,.ref t2,.ref t3,.ref t4,.ref t5]++[.ref t9])):=ad
   have f11:=f10.same s11
   have ne11:=(f10.ne nr).symm
   generalize ax J10 lr (.lst ([V.ref t1,.ref t2,.ref t3,.ref t4,.ref t5]++[V.ref t9]))=J11 at *
   have up:∀ {b:Addr} {ys:List V},J5 b=some (.tup ys)->J11 b=some (.tup ys):=fun e=>s11 _ _ (s810 _ _ (kt8 _ _ ((s6.trans s7) _ _ e)))
   have hL:TgA p J11 [.ref t1,.ref t2,.ref t3,.ref t4,.ref t5,.ref t9] [.tup [.str "next"],.tup [.str "go",.int i],.tup [.str "call",.int j],.tup [.str "back"],.tup [.str "stop"],.tup [.str "fault",.str z]]:=
    .cons (.tup (up e1') (.cons (.str _) .nil)) (.cons (.tup (up e2') (.cons (.str _) (.cons (.int _) .nil))) (.cons (.tup (up e3') (.cons (.str _) (.cons (.int _) .nil))) (.cons (.tup (up e4') (.cons (.str _) .nil)) (.cons (.tup (up e5) (.cons (.str _) .nil)) (.cons (.tup ((s10.trans s11) _ _ e9) (.cons (.str _) (.cons (.str _) .nil))) .nil)))))
   have hC:∀ t∈[Th.tup [.str "next"],.tup [.str "go",.int i],.tup [.str "call",.int j],.tup [.str "back"],.tup [.str "stop"],.tup [.str "fault",.str z]],EndT t:=by
    intro t ht
    simp only [AG,BE,or_false] at ht
    rcases ht with rfl|rfl|rfl|rfl|rfl|rfl
    ·exact .next
    ·exact .go i li
    ·exact .call j lj
    ·exact .back
    ·exact .stop
    ·exact .fault z hz
   refine ⟨_,rfl,p,6,rfl,f11,by decide,by decide,fun r3 H12 l3 g12 b12=>?_⟩
   obtain ⟨u,t,eu,ct,tu⟩:=hL.all hC (r:=r3) l3
   refine ⟨lr,_,_,u,rfl,rfl,SqL.of (b12 _ _ e11 ne11),eu,(by show 2<=sizeLine;decide),fun tp np=>?_⟩
   have s13:=aj (o:=.tup [.str "done",u]) np
   exact q _ (.tup [.str "done",t]) _ (.tup ad (.cons (.str _) (.cons ((tu.but f11 b12).same s13) .nil))) (.done ct) (g12.same s13) ((((((b5.same (s6.trans s7)).trans b8).same (s810.trans s11)).trans b12)).same s13)
end
end L3
namespace L2
open PySem PySem.Spec PyProof.Rows
section
variable {X:Cx}
theorem qA:dG X (binaryOp .Mult) (fun x y H Q=>∃ (l:List Nat) (b:Bool),x=.str (S l)/\y=.int (if b=true then 1 else 0)/\l.length<=1000/\Q (.str (S (if b=true then l else []))) H):=by
 intro pins s σ H x y v u Q I rx ry h
 obtain ⟨l,b,rfl,rfl,hn,q⟩:=h
 obtain ⟨t,rfl⟩:=rx
 obtain ⟨t2,rfl⟩:=ry
 have hl:(S l).length=l.length:=ba l
 refine PySem.P.mul_str ?_ ?_ ?_ ?_
 ·cases b<;>simp
 ·intro _ _
  rw [hl]
  cases b
  ·intro hgt;simp at *
  ·intro hgt;first|(simp at *;done)|(simp at *;omega)
 ·intro _ _
  rw [hl]
  unfold Builtin.Str.tooLong
  have sz:(10000:Nat)<=sizeLine:=by decide
  cases b<;>simp<;>omega
 ·cases b with
  | false=>
   rw [if_pos (by simp)]
   refine ⟨?_,⟨.str (S []),H,I.tok _,⟨_,rfl⟩,q⟩⟩
   decide
  | true=>
   rw [if_neg (by simp),if_pos (by simp)]
   exact ⟨.str (S l),H,I.tok _,⟨t,rfl⟩,q⟩
end
end L2
namespace L3
open PySem L2
theorem sT {r:Nat} (h:r < 8):∃ m:Nat,m<=16/\jU [V.int 0,.int 1,.int 2,.int 3,.int 1,.int 2,.int 5,.int 1] (r:Int)=some (.int m):=by
 rcases (by omega:r=0\/r=1\/r=2\/r=3\/r=4\/r=5\/r=6\/r=7) with rfl|rfl|rfl|rfl|rfl|rfl|rfl|rfl
 ·exact ⟨0,by decide,rfl⟩
 ·exact ⟨1,by decide,rfl⟩
 ·exact ⟨2,by decide,rfl⟩
 ·exact ⟨3,by decide,rfl⟩
 ·exact ⟨1,by decide,rfl⟩
 ·exact ⟨2,by decide,rfl⟩
 ·exact ⟨5,by decide,rfl⟩
 ·exact ⟨1,by decide,rfl⟩
def nR (t:Th):Prop:=(∃ k:Nat,k < 8/\t=.int k)\/(∃ o∈opsL,t=.str o)\/SelT t\/SrcT t
theorem StpT.parts {t:Th} (h:StpT t):∃ x ts,t=.tup (.str x::ts)/\x∈yW/\(∀ z∈ts,nR z)/\2<=ts.length/\ts.length<=4:=by
 have nil:∀ z∈([]:List Th),nR z:=fun z hz=>by cases hz
 have con:∀ {x:Th} {l:List Th},nR x->(∀ z∈l,nR z)->∀ z∈x::l,nR z:=fun h1 h2 z hz=>by
  rcases AG.mp hz with rfl|hz
  ·exact h1
  ·exact h2 z hz
 cases h with
 | get k hk hs=>exact ⟨_,_,rfl,by decide +kernel,con (.inl ⟨k,hk,rfl⟩) (con (.inr (.inr (.inl hs))) nil),by simp,by simp⟩
 | ask k hk hs=>exact ⟨_,_,rfl,by decide +kernel,con (.inl ⟨k,hk,rfl⟩) (con (.inr (.inr (.inl hs))) nil),by simp,by simp⟩
 | cell k hk hs=>exact ⟨_,_,rfl,by decide +kernel,con (.inl ⟨k,hk,rfl⟩) (con (.inr (.inr (.inr hs))) nil),by simp,by simp⟩
 | two k hk ho hx hy=>exact ⟨_,_,rfl,by decide +kernel,con (.inl ⟨k,hk,rfl⟩) (con (.inr (.inl ⟨_,ho,rfl⟩)) (con (.inr (.inr (.inr hx))) (con (.inr (.inr (.inr hy))) nil))),by simp,by simp⟩
 | put hs hx=>exact ⟨_,_,rfl,by decide +kernel,con (.inr (.inr (.inl hs))) (con (.inr (.inr (.inr hx))) nil),by simp,by simp⟩
 | tell hs hx=>exact ⟨_,_,rfl,by decide +kernel,con (.inr (.inr (.inl hs))) (con (.inr (.inr (.inr hx))) nil),by simp,by simp⟩
 | store hx hy=>exact ⟨_,_,rfl,by decide +kernel,con (.inr (.inr (.inr hx))) (con (.inr (.inr (.inr hy))) nil),by simp,by simp⟩
def ia (l:Str):List (cO×V):=[(Sum.inr "is",.str l),(Sum.inr "by",.str "f"),(Sum.inr "in",.str "r"),(Sum.inr "field",.str "f"),(Sum.inr "number",.str "")]
theorem vR (l:Str):dA (bv [] (ia l)) (Sum.inr "is")=some (.str l):=by kernel_rfl
theorem vS (l:Str):dA (bv [] (ia l)) (Sum.inr "by")=some (.str "f"):=by kernel_rfl
theorem vT (l:Str):dA (bv [] (ia l)) (Sum.inr "in")=some (.str "r"):=by kernel_rfl
theorem nS (l:Str):dA (bv [] (ia l)) (Sum.inr "field")=some (.str "f"):=by kernel_rfl
theorem lW (l:Str):dA (bv [] (ia l)) (Sum.inr "number")=some (.str ""):=by kernel_rfl
theorem jN {l:Nat} {t:Th} (h:SelT t\/SrcT t):∃ (k:Str) (i:Nat),t=.tup [.str k,.int i]/\i<=16777215/\dA (bv [] (ia (S [l]))) (Sum.inr k)=some (.str (S (pre l k)))/\be l t=pre l k++dg i/\(pre l k).length<=1:=by
 rcases h with h|h
 ·cases h with
  | is i hi=>exact ⟨_,i,rfl,by omega,by rw [fY];exact vR _,rfl,by rw [fY];simp⟩
  | «by» i hi=>exact ⟨_,i,rfl,by omega,by rw [fZ,sF];exact vS _,rfl,by rw [fZ];simp⟩
 ·cases h with
  | fld i hi=>exact ⟨_,i,rfl,by omega,by rw [dD,sF];exact nS _,rfl,by rw [dD];simp⟩
  | num i hi=>exact ⟨_,i,rfl,by omega,by rw [dE,<-px];exact lW _,rfl,by rw [dE];simp⟩
  | inn i hi=>exact ⟨_,i,rfl,by omega,by rw [fe,sR];exact vT _,rfl,by rw [fe];simp⟩
def kD:List (cO×V):=[(Sum.inr "get",.str "p"),(Sum.inr "ask",.str "m"),(Sum.inr "put",.str "p"),(Sum.inr "tell",.str "m")]
theorem sU:∀ x∈yW,(dA (bv [] kD) (Sum.inr x)).getD (.str "r")=.str (S [bH x])/\(cp x).length<=5:=by
 have h:∀ (x:Str) (l:Nat) (z:Str),bH x=l->S [l]=z->(dA (bv [] kD) (Sum.inr x)).getD (.str "r")=.str z->(cp x).length<=5->(dA (bv [] kD) (Sum.inr x)).getD (.str "r")=.str (S [bH x])/\(cp x).length<=5:=fun x l z h1 h2 h3 h4=>⟨by rw [h1,h2];exact h3,h4⟩
 intro x hx
 simp only [yW,AG,BE,or_false] at hx
 rcases hx with rfl|rfl|rfl|rfl|rfl|rfl|rfl|rfl
 ·exact h _ 112 "p" jA sP (by kernel_rfl) (by decide +kernel)
 ·exact h _ 109 "m" jC sM (by kernel_rfl) (by decide +kernel)
 ·exact h _ 114 "r" (by decide +kernel) sR (by kernel_rfl) (by decide +kernel)
 ·exact h _ 114 "r" (by decide +kernel) sR (by kernel_rfl) (by decide +kernel)
 ·exact h _ 112 "p" jB sP (by kernel_rfl) (by decide +kernel)
 ·exact h _ 109 "m" hJ sM (by kernel_rfl) (by decide +kernel)
 ·exact h _ 114 "r" (by decide +kernel) sR (by kernel_rfl) (by decide +kernel)
 ·exact h _ 114 "r" (by decide +kernel) sR (by kernel_rfl) (by decide +kernel)
theorem mY {l:Nat} {t:Th} (h:nR t):(be l t).length<=10:=by
 rcases h with ⟨k,hk,rfl⟩|⟨o,ho,rfl⟩|h|h
 ·have:=aM (n:=k) (by omega)
  show (114::dg k).length<=10
  simp only [Ai];omega
 ·exact Aq (jG o ho) (by decide)
 ·exact bd (.inl h)
 ·exact bd (.inr h)
def x9:Sp:=fun vs H Q _=>∃ (p:Addr) (v:V) (t:Th) (l:Nat),vs=[v,.str (S [l])]/\TgV p H v t/\(SelT t\/SrcT t)/\∀ H',Same H H'->Q (.str (S (be l t))) H'
def ya:Sp:=fun vs H Q _=>∃ (p:Addr) (v:V) (t:Th),vs=[v]/\TgV p H v t/\StpT t/\∀ H',Same H H'->Q (.str (S (cD t))) H'
def yb:Sp:=fun vs H Q _=>∃ (p:Addr) (v:V) (t:Th),vs=[v]/\TgV p H v t/\OnT t/\∀ H',Same H H'->Q (.str (S (TK.jn [32] (dI t)))) H'
def yc:Sp:=fun vs H Q _=>∃ (p:Addr) (v:V) (t:Th),vs=[v]/\TgV p H v t/\LitT t/\∀ H',Same H H'->Q (.str (S (gr t))) H'
section
variable {P:Program} {w:World} {K:PySem.W.Frag} {mg:Str->Option Value} {base:Heap}
theorem scLLittle:ap ["_law_stream_here","_law_most","_law_many"] ["_law_stream_here","_law_most"] (al fq):=⟨rfl,rfl,rfl,by decide +kernel,rfl,by decide +kernel,by decide +kernel⟩
theorem zO:(["_law_k","_law_stream_here"]:List Str).Nodup:=by decide +kernel
set_option maxHeartbeats 2000000 in
theorem lX {f:Addr} {fd:FuncData} (F:Fun K "_law_little" "_law_little" fq f fd) (B:Bl mg) (TK:Fn P w K mg base "_law_take" 1 ["_law_stream_here","_law_many"] cJ) (LS:Fn P w K mg base "_law_step" 3 ["_law_stream_here"] (fW StpT)) (LO:Fn P w K mg base "_law_on" 2 ["_law_stream_here","_law_most"] (gB OnT)):aG P w K mg base bu 4 f fd ["_law_stream_here","_law_most"] (gB LitT):=by
 refine F.ok scLLittle (fun vs H Q E h=>?_) (fun cdv A outer s H vs Q E hr h=>?_)
 ·obtain ⟨p,rfl,_⟩:=h
  rfl
 ·obtain ⟨p,rfl,hp,q⟩:=h
  have hr1:Room 1 _:=hr.mono (by decide)
  have hr2:Room 2 _:=hr.mono (by decide)
  have sz:(100000:Nat)<=sizeLine:=by decide
  refine ⟨_,ak (aR (i:=2) scLLittle.nd rfl (Or.inl rfl) (aq aC (bf (aa ae (aa ae (aa ae (aa ae (aa ae (aa ae (aa ae (aa ae ac))))))))) (am TK hr1 rfl (aa (pv 0) (aa ae ac))) (fun _ _=>rfl)))
   (af (ao (aA (aa (aZ bM (by rfl) B.tuple br (aa (dH (N':=["_law_k","_law_stream_here"]) (ix:=[none,some 0]) (sc0:=al fq) (N:=["_law_stream_here","_law_most","_law_many"]) rfl (by decide +kernel) (dZ rfl B.range (aa (pv 2) ac))
     (fun C' cl s H fp=>a7 (i:=0) zO rfl (Or.inl rfl) (.inr rfl)) (fun _ _ _ _ _=>cz) (fun C' cl s H fp=>am LS hr rfl (aa (pv 1) ac))) ac)) (aa (am LO hr2 rfl (aa (pv 0) (aa (pv 1) ac))) ac))))),?_⟩
  refine ⟨(by show 8<=sizeLine;decide),fun lm nm=>?_⟩
  have s1:=aj (o:=.lst [.int 0,.int 1,.int 2,.int 3,.int 1,.int 2,.int 5,.int 1]) nm
  have e1:(ax H lm (.lst [.int 0,.int 1,.int 2,.int 3,.int 1,.int 2,.int 5,.int 1])) lm=some (.lst [.int 0,.int 1,.int 2,.int 3,.int 1,.int 2,.int 5,.int 1]):=ad
  have ne1:=(hp.ne nm).symm
  have g1:=hp.same s1
  have b1:But p H (ax H lm (.lst [.int 0,.int 1,.int 2,.int 3,.int 1,.int 2,.int 5,.int 1])):=jw s1
  generalize ax H lm (.lst [V.int 0,.int 1,.int 2,.int 3,.int 1,.int 2,.int 5,.int 1])=H1 at *
  refine ⟨_,rfl,p,8,rfl,g1,by decide,by decide,fun r H2 lr g2 b2=>?_⟩
  obtain ⟨m,hm,em⟩:=sT lr
  refine ⟨lm,_,_,_,rfl,rfl,SqL.of (b2 _ _ e1 ne1),em,?_⟩
  refine ⟨_,rfl,m,rfl,by omega,by omega,?_⟩
  refine oP (lo:=0) (n:=m) (fun i ys H'=>Strm H' p/\But p H H'/\∃ ts:List Th,ts.length=i/\TgA p H' ys ts/\∀ t∈ts,StpT t) ⟨g2,b1.trans b2,[],rfl,.nil,fun t ht=>nomatch ht⟩ (fun i ys H' hi ⟨_,_,ts,hl,ta,_⟩=>by rw [ta.length,hl];omega) ?_ ?_
  ·rintro i ys H' hi ⟨g,b,ts,hl,ta,ct⟩
   refine ⟨⟨rfl,trivial⟩,cw ⟨_,rfl,p,rfl,g,fun v t H3 tv c g3 b3=>Nx.mk hi ⟨g3,b.trans b3,ts++[t],by rw [Ah,hl];rfl,(ta.but g b3).snoc tv,fun x hx=>?_⟩⟩⟩
   rcases AQ.mp hx with h|h
   ·exact ct x h
   ·rw [AK.mp h];exact c
  ·rintro ys H3 ⟨g3,b3,ts,hl,ta,ct⟩ D nD
   have s4:=aj (o:=.lst ys) nD
   have e4:(ax H3 D (.lst ys)) D=some (.lst ys):=ad
   have g4:=g3.same s4
   generalize ax H3 D (.lst ys)=H4 at *
   refine ⟨D,ys,rfl,.inl ⟨SqL.of e4,fun tp np=>?_⟩⟩
   have s5:=aj (o:=.tup ys) np
   have e5:(ax H4 tp (.tup ys)) tp=some (.tup ys):=ad
   have g5:=g4.same s5
   generalize ax H4 tp (.tup ys)=H5 at *
   refine ⟨_,rfl,_,rfl,p,rfl,g5,fun v t H6 tv c g6 b6=>⟨(by show 2<=sizeLine;decide),fun r6 n6=>?_⟩⟩
   have s7:=aj (o:=.tup [.ref tp,v]) n6
   refine q _ (.tup [.tup ts,t]) _ (.tup ad (.cons (.tup (s7 _ _ (g5.kt b6 _ _ e5)) ((((ta.same s4).same s5).but g5 b6).same s7)) (.cons (tv.same s7) .nil))) ⟨ts,t,rfl,ct,c,by omega⟩ (g6.same s7) ((((b3.same s4).same s5).trans b6).same s7)
theorem scPartT:ap ["_law_part","_law_letter","_law_letters"] ["_law_part","_law_letter"] (al jr):=⟨rfl,rfl,rfl,by decide +kernel,rfl,by decide +kernel,by decide +kernel⟩
set_option maxHeartbeats 1000000 in
theorem qB {f:Addr} {fd:FuncData} (F:Fun K "_law_part_text" "_law_part_text" jr f fd) (B:Bl mg):aG P w K mg base bu 1 f fd ["_law_part","_law_letter"] x9:=by
 refine F.ok scPartT (fun vs H Q E h=>?_) (fun cdv A outer s H vs Q E hr h=>?_)
 ·obtain ⟨p,v,t,l,rfl,_⟩:=h
  rfl
 ·obtain ⟨p,v,t,l,rfl,tv,ht,q⟩:=h
  have hu:=tX hr
  refine ⟨_,ak (aR (i:=2) scPartT.nd rfl (Or.inl rfl) (mq (cj ah (pv 1) (cj ah ah (cj ah ah (cj ah ah (cj ah ah mo))))) rfl rfl (by intro z;cases z) (by show 5<=15;decide)))
   (af (ao (aP aV (rD hu (pv 2) (aq au (pv 0) ae (fun _ _=>rfl)) (fun _ _=>rfl)) (aZ bB (by rfl) B.str bG (aa (aq au (pv 0) ae (fun _ _=>rfl)) ac))))),?_⟩
  obtain ⟨k,i,rfl,hi,hv,ew,hp1⟩:=jN (l:=l) ht
  obtain ⟨a,rfl,e⟩:=cC tv
  refine fun d nd=>⟨_,rfl,ad,ia (S [l]),rfl,(by show 5<=15;decide),?_⟩
  have s1:Same H (ax (ax H d (.dK [])) d (.dK (bv [] (ia (S [l]))))):=az nd (aj nd)
  have e1:(ax (ax H d (.dK [])) d (.dK (bv [] (ia (S [l]))))) d=some (.dK (bv [] (ia (S [l])))):=ad
  generalize ax (ax H d (.dK [])) d (.dK (bv [] (ia (S [l]))))=H1 at *
  have g:DGet H1 d (.str k) (some (.str (S (pre l k)))):=by
   have:=DGet.k (k:=Sum.inr k) e1
   rw [hv] at this
   exact this
  have q':=q _ s1
  rw [ew,<-aQ,<-bw] at q'
  have l9:=aM hi
  refine ⟨_,rfl,_,rfl,a,_,_,_,rfl,rfl,SqT.of (s1 _ _ e),rfl,d,_,rfl,g,?_⟩
  exact ⟨_,rfl,a,_,_,_,rfl,rfl,SqT.of (s1 _ _ e),rfl,_,rfl,bb hi,_,_,rfl,rfl,(by rw [bw,ba,ba];exact Aq (show _<=100 by omega) (by decide)),q'⟩
theorem scLStepT:ap ["_law_step_here","_law_letter","_law_words","_law_part"] ["_law_step_here"] (al js):=⟨rfl,rfl,rfl,by decide +kernel,rfl,by decide +kernel,by decide +kernel⟩
set_option maxHeartbeats 4000000 in
theorem nU {f:Addr} {fd:FuncData} (F:Fun K "_law_step_text" "_law_step_text" js f fd) (B:Bl mg) (PT:Fn P w K mg base "_law_part_text" 1 ["_law_part","_law_letter"] x9):aG P w K mg base bu 2 f fd ["_law_step_here"] ya:=by
 refine F.ok scLStepT (fun vs H Q E h=>?_) (fun cdv A outer s H vs Q E hr h=>?_)
 ·obtain ⟨p,v,t,rfl,_⟩:=h
  rfl
 ·obtain ⟨p,v,t,rfl,tv,st,q⟩:=h
  have hu:=tX hr
  have hr1:Room 1 _:=hr
  refine ⟨_,ak (aR (i:=1) scLStepT.nd rfl (Or.inl rfl) (oY hu (mq (cj ah ah (cj ah ah (cj ah ah (cj ah ah mo)))) rfl rfl (by intro z;cases z) (by show 4<=15;decide)) (aq au (pv 0) ae (fun _ _=>rfl)) ah ⟨rfl,rfl,rfl,rfl⟩))
   (ak (aR (i:=2) scLStepT.nd rfl (Or.inl rfl) (bf (aa (aq au (pv 0) ae (fun _ _=>rfl)) ac)))
   (ak (dL PassesOwn.never rfl (fP (bQ uw (pv 0) (bX ae) cx)) (a7 (i:=3) scLStepT.nd rfl (Or.inl rfl))
    (af (aI (a6 (aH (da (T:="tuple")) (by rfl) B.isinstance bL (aa (pv 3) (aa (dQ (by rfl) B.tuple br) ac))))
     (af (bT (bq AO AJ AI bF (pv 2) (aa (am PT hr1 rfl (aa (pv 3) (aa (pv 1) ac))) ac))))
     (af (aI (a6 (aH (da (T:="str")) (by rfl) B.isinstance bL (aa (pv 3) (aa (dQ (by rfl) B.str bG) ac))))
      (af (bT (bq AO AJ AI bF (pv 2) (aa (pv 3) ac))))
      (af (bT (bq AO AJ AI bF (pv 2) (aa (aP aV ah (aZ bB (by rfl) B.str bG (aa (pv 3) ac))) ac)))))))))
   (af (ao (bq Ar AY AX cE ah (aa (pv 2) ac)))))),?_⟩
  obtain ⟨x,ts,rfl,hx,hit,x2,x4⟩:=st.parts
  obtain ⟨vl,xl⟩:=sU x hx
  have es:cD (.tup (.str x::ts))=TK.jn [32] (cp x::ts.map (be (bH x))):=rfl
  rw [es] at q
  cases tv with
  | @tup pp xs0 _ hp ta0=>
  obtain ⟨xs,rfl,ta⟩:∃ xs,xs0=.str x::xs/\TgA p H xs ts:=by
   cases ta0 with
   | cons h0 t=>cases h0;exact ⟨_,rfl,t⟩
  have lx:=ta.length
  refine fun dd nd=>⟨ad,kD,rfl,(by show 4<=15;decide),dd,rfl,.inl ⟨_,.inl ad⟩,?_⟩
  have s1:Same H (ax (ax H dd (.dK [])) dd (.dK (bv [] kD))):=az nd (aj nd)
  have e1:(ax (ax H dd (.dK [])) dd (.dK (bv [] kD))) dd=some (.dK (bv [] kD)):=ad
  generalize ax (ax H dd (.dK [])) dd (.dK (bv [] kD))=H1 at *
  have hp1:=s1 _ _ hp
  refine ⟨_,rfl,pp,_,_,_,rfl,rfl,SqT.of hp1,at0 _ _,_,DGet.k (k:=Sum.inr x) e1,?_⟩
  rw [vl]
  refine ⟨_,rfl,pp,_,_,_,rfl,rfl,SqT.of hp1,at0 _ _,(by show 1<=sizeLine;decide),fun lw nw=>?_⟩
  have s2:=aj (o:=.lst [.str x]) nw
  have e2:(ax H1 lw (.lst [.str x])) lw=some (.lst ([cp x].map fun t=>V.str (S t))):=by rw [ad,AA,bo];rfl
  have s12:=s1.trans s2
  have n0:H lw=none:=s1.free nw
  generalize ax H1 lw (.lst [V.str x])=H2 at *
  have ec:eG (V.str x::xs) (some 1) none=xs:=by
   match xs,(show 2<=xs.length by omega),(show xs.length<=4 by omega) with
   | [_,_],_,_=>rfl
   | [_,_,_],_,_=>rfl
   | [_,_,_,_],_,_=>rfl
  refine ⟨_,rfl,_,rfl,pp,_,rfl,SqT.of (s12 _ _ hp),?_,fun tt nt=>?_⟩
  ·intro z
   have:=z.1
   first|(simp [HT.sIx] at this;done)|(simp [HT.sIx] at this;omega)
  rw [ec]
  have s3:=aj (o:=.tup xs) nt
  have e3:(ax H2 tt (.tup xs)) tt=some (.tup xs):=ad
  have e2':=s3 _ _ e2
  have s13:=s12.trans s3
  have nlt:lw≠tt:=aJ e2 nt
  generalize ax H2 tt (.tup xs)=H3 at *
  refine ⟨tt,rfl,⟨_,SqT.of e3⟩,?_⟩
  refine qS (K:=K) (a:=tt) (xs:=xs) (fun i σ H'=>∃ v3:Option V,σ=[some (.ref pp),some (.str (S [bH x])),some (.ref lw),v3]/\Same H H'/\H' tt=some (.tup xs)/\H' lw=some (.lst ((cp x::(ts.take i).map (be (bH x))).map fun t=>V.str (S t)))) ⟨_,rfl,s13,e3,e2'⟩ (fun i σ H' _ ⟨_,_,_,e,_⟩=>SqT.of e) ?_ ?_
  ·rintro i z σ H' hz ⟨v3,rfl,sH,et,el⟩
   obtain ⟨tz,etz,tvz⟩:=ta.get hz
   have hlt:i < xs.length:=(An.mp hz).1
   have hi:=hit tz (AZ etz)
   have hzl:=mY (l:=bH x) hi
   have tk:(cp x::(ts.take (i+1)).map (be (bH x))).map (fun t=>V.str (S t))=(cp x::(ts.take i).map (be (bH x))).map (fun t=>V.str (S t))++[.str (S (be (bH x) tz))]:=by
    rw [Bb,etz];simp
   have lsz:((cp x::(ts.take i).map (be (bH x))).map fun t=>V.str (S t)).length < sizeLine:=by
    rw [Aj,Ai,Aj,AH]
    have:(1000:Nat)<=sizeLine:=by decide
    omega
   have fin:∀ H4,Same H' H4->H4 lw=some (.lst ((cp x::(ts.take i).map (be (bH x))).map fun t=>V.str (S t)))->H4 tt=some (.tup xs)->∃ v3:Option V,[some (V.ref pp),some (.str (S [bH x])),some (.ref lw),some z]=[some (.ref pp),some (.str (S [bH x])),some (.ref lw),v3]/\Same H (ax H4 lw (.lst ((cp x::(ts.take i).map (be (bH x))).map (fun t=>V.str (S t))++[.str (S (be (bH x) tz))])))/\(ax H4 lw (.lst ((cp x::(ts.take i).map (be (bH x))).map (fun t=>V.str (S t))++[.str (S (be (bH x) tz))]))) tt=some (.tup xs)/\(ax H4 lw (.lst ((cp x::(ts.take i).map (be (bH x))).map (fun t=>V.str (S t))++[.str (S (be (bH x) tz))]))) lw=some (.lst ((cp x::(ts.take (i+1)).map (be (bH x))).map fun t=>V.str (S t))):=by
    intro H4 s4 l4 t4
    exact ⟨_,rfl,az n0 (sH.trans s4),by rw [aB nlt.symm];exact t4,by rw [ad,tk]⟩
   rcases hi with ⟨k,hk,rfl⟩|⟨o,ho,rfl⟩|h|h
   ·cases tvz
    have tx:=cY (z:="r") (c:=114) (by decide +kernel) k
    have l9:=aM (n:=k) (by omega)
    have rl1:("r":Str).length=1:=by decide +kernel
    refine ⟨_,rfl,_,_,_,rfl,.int _,rfl,_,rfl,bp ?_⟩
    refine ⟨_,rfl,_,_,_,rfl,.int _,rfl,_,rfl,bp ?_⟩
    refine ⟨_,rfl,.inl ⟨rfl,_,SqL.of el⟩,_,rfl,_,rfl,bb (by omega),_,_,rfl,rfl,(by rw [bw,ba,rl1];exact Aq (show _<=100 by omega) (by decide)),?_⟩
    rw [tx]
    exact ⟨lw,_,_,rfl,rfl,el,lsz,fin H' (Same.refl _) el et⟩
   ·cases tvz
    have fin':=fin H' (Same.refl _) el et
    rw [show be (bH x) (.str o)=cp o from rfl,bo] at fin'
    refine ⟨_,rfl,_,_,_,rfl,.str _,rfl,_,rfl,bp ?_⟩
    refine ⟨_,rfl,_,_,_,rfl,.str _,rfl,_,rfl,bV ?_⟩
    refine ⟨_,rfl,.inl ⟨rfl,_,SqL.of el⟩,_,rfl,?_⟩
    exact ⟨lw,_,_,rfl,rfl,el,lsz,fin'⟩
   ·obtain ⟨k,n,rfl,_⟩:=jN (l:=bH x) (.inl h)
    obtain ⟨b,rfl,eb⟩:=cC tvz
    refine ⟨_,rfl,_,_,_,rfl,.tup (sH _ _ eb),rfl,_,rfl,bV ?_⟩
    refine ⟨_,rfl,.inl ⟨rfl,_,SqL.of el⟩,_,rfl,_,rfl,p,_,_,bH x,rfl,tvz.same sH,.inl h,fun H4 s4=>?_⟩
    exact ⟨lw,_,_,rfl,rfl,s4 _ _ el,lsz,fin H4 s4 (s4 _ _ el) (s4 _ _ et)⟩
   ·obtain ⟨k,n,rfl,_⟩:=jN (l:=bH x) (.inr h)
    obtain ⟨b,rfl,eb⟩:=cC tvz
    refine ⟨_,rfl,_,_,_,rfl,.tup (sH _ _ eb),rfl,_,rfl,bV ?_⟩
    refine ⟨_,rfl,.inl ⟨rfl,_,SqL.of el⟩,_,rfl,_,rfl,p,_,_,bH x,rfl,tvz.same sH,.inr h,fun H4 s4=>?_⟩
    exact ⟨lw,_,_,rfl,rfl,s4 _ _ el,lsz,fin H4 s4 (s4 _ _ el) (s4 _ _ et)⟩
  ·rintro σ H' ⟨v3,rfl,sH,et,el⟩
   rw [lx,AN] at el
   refine ⟨rfl,_,rfl,[32],lw,cp x::ts.map (be (bH x)),congrArg V.str fF,rfl,SqL.of el,?_,q _ sH⟩
   have a:=fc 10 (cp x::ts.map (be (bH x))) fun z hz=>by
    rcases AG.mp hz with rfl|hz
    ·omega
    ·obtain ⟨t,ht,rfl⟩:=AV.mp hz
     exact mY (hit t ht)
   rw [Ai,Aj] at a
   rw [Ai,Aj]
   show _+(ts.length+1)*1<=100000
   omega
end
end L3
namespace L3
open PySem L2
section
variable {P:Program} {w:World} {K:PySem.W.Frag} {mg:Str->Option Value} {base:Heap}
theorem scLOnT:ap ["_law_on_here","_law_end"] ["_law_on_here"] (al pw):=⟨rfl,rfl,rfl,by decide +kernel,rfl,by decide +kernel,by decide +kernel⟩
theorem qC {sep z:List Nat}:∀ {l:List (List Nat)},z∈l->z.length<=(TK.jn sep l).length
 | [t],h=>by rw [AK.mp h];exact Ao _
 | t::u::r,h=>by
  show z.length<=(t++(sep++TK.jn sep (u::r))).length
  rw [Ah,Ah]
  rcases AG.mp h with rfl|h
  ·omega
  ·have:=qC (sep:=sep) h
   omega
theorem qO {a b:List Nat} (h:a.length+b.length<=10000):(S a).length+(S b).length<=sizeLine:=by rw [ba,ba];exact Aq h (by decide)
set_option maxHeartbeats 4000000 in
theorem sV {f:Addr} {fd:FuncData} (F:Fun K "_law_on_text" "_law_on_text" pw f fd) (B:Bl mg):aG P w K mg base bu 1 f fd ["_law_on_here"] yb:=by
 refine F.ok scLOnT (fun vs H Q E h=>?_) (fun cdv A outer s H vs Q E hr h=>?_)
 ·obtain ⟨p,v,t,rfl,_⟩:=h
  rfl
 ·obtain ⟨p,v,t,rfl,tv,st,q⟩:=h
  obtain ⟨a,r,rfl,ea⟩:∃ a r,v=.ref a/\H a=some (.tup r):=by
   cases st<;>(cases tv with|tup e _=>exact ⟨_,_,rfl,e⟩)
  refine ⟨_,ak (aI (av bc (aq au (pv 0) ae (fun _ _=>rfl)) ah (ay _))
    (ak (aR (i:=1) scLOnT.nd rfl (Or.inl rfl) (aZ je (by rfl) B.list eX (aa (aq au (pv 0) ae (fun _ _=>rfl)) ac)))
    (gA (fun σ H'=>∃ l u,t=.tup [.str "done",u]/\EndT u/\σ=[some (.ref a),some (.ref l)]/\Same H H'/\H' l=some (.lst ((hI u).map fun t=>V.str (S t)))) (aI (PW.pt (cR (av bc (aq aC (pv 1) ae (fun _ _=>rfl)) ah (ay _)) (ce (av bc (aq aC (pv 1) ae (fun _ _=>rfl)) ah (ay _)))))
      (af (gG (aP aV ah (aZ bB (by rfl) B.str bG (aa (aq aC (pv 1) ae (fun _ _=>rfl)) ac))) (kM (pv 1) ae gJ))) aw)
    (af (ao (bq Ar AY AX cE ah (aa (aP cH (bf (aa ah ac)) (pv 1)) ac)))))) aw)
   (ak (aI (av bc (aq au (pv 0) ae (fun _ _=>rfl)) ah (ay _)) (af (ao (aP aV ah (aZ bB (by rfl) B.str bG (aa (aq au (pv 0) ae (fun _ _=>rfl)) ac))))) aw)
   (af (ao (aP aV (aP aV (aP aV (aP aV (aP aV (aP aV (aq au (pv 0) ae (fun _ _=>rfl)) ah) (aZ bB (by rfl) B.str bG (aa (aq au (pv 0) ae (fun _ _=>rfl)) ac))) ah) (aZ bB (by rfl) B.str bG (aa (aq au (pv 0) ae (fun _ _=>rfl)) ac))) ah) (aZ bB (by rfl) B.str bG (aa (aq au (pv 0) ae (fun _ _=>rfl)) ac)))))),?_⟩
  cases st with
  | on i hi=>
   obtain ⟨a',ea',e⟩:=cC tv
   cases ea'
   have l9:=aM (n:=i) (by omega)
   refine ⟨_,rfl,a,_,_,_,rfl,rfl,SqT.of e,rfl,rfl,_,rfl,aN (by decide +kernel) ?_⟩
   refine ⟨_,rfl,a,_,_,_,rfl,rfl,SqT.of e,rfl,rfl,_,rfl,bg (by decide +kernel) ?_⟩
   refine ⟨_,rfl,a,_,_,_,rfl,rfl,SqT.of e,rfl,_,rfl,bb (by omega),_,_,rfl,rfl,?_⟩
   rw [bw,show ("on ":Str)=S (cp "on"++[32]) from by decide +kernel,aQ]
   have:=q _ (Same.refl _)
   rw [show TK.jn [32] (dI (.tup [.str "on",.int (i:Nat)]))=cp "on"++[32]++dg i from by show cp "on"++([32]++dg i)=_;simp] at this
   refine ⟨qO ?_,this⟩
   simp only [Ah,Ai,Ak,show (cp "on").length=2 from by decide +kernel];omega
  | two z i x y hz hi hx hy=>
   obtain ⟨a',ea',e⟩:=sG tv
   cases ea'
   have l1:=aM (n:=i) (by omega)
   have l2:=aM (n:=x) (by omega)
   have l3:=aM (n:=y) (by omega)
   have lz:(cp z).length<=4:=by rcases hz with rfl|rfl<;>decide +kernel
   refine ⟨_,rfl,a,_,_,_,rfl,rfl,SqT.of e,rfl,rfl,_,rfl,aN (by rcases hz with rfl|rfl<;>decide +kernel) ?_⟩
   refine ⟨_,rfl,a,_,_,_,rfl,rfl,SqT.of e,rfl,rfl,_,rfl,aN (by rcases hz with rfl|rfl<;>decide +kernel) ?_⟩
   refine ⟨_,rfl,a,_,_,_,rfl,rfl,SqT.of e,rfl,_,_,rfl,rfl,?_⟩
   rw [show (" r":Str)=S [32,114] from by decide +kernel,<-bo z,aQ]
   refine ⟨qO (by simp only [Ah,Ai,Ak];omega),?_⟩
   refine ⟨_,rfl,a,_,_,_,rfl,rfl,SqT.of e,rfl,_,rfl,bb (by omega),_,_,rfl,rfl,?_⟩
   rw [bw,aQ]
   refine ⟨qO (by simp only [Ah,Ai,Ak];omega),_,_,rfl,rfl,?_⟩
   rw [fF,aQ]
   refine ⟨qO (by simp only [Ah,Ai,Ak];omega),?_⟩
   refine ⟨_,rfl,a,_,_,_,rfl,rfl,SqT.of e,rfl,_,rfl,bb (by omega),_,_,rfl,rfl,?_⟩
   rw [bw,aQ]
   refine ⟨qO (by simp only [Ah,Ai,Ak];omega),_,_,rfl,rfl,?_⟩
   rw [aQ]
   refine ⟨qO (by simp only [Ah,Ai,Ak];omega),?_⟩
   refine ⟨_,rfl,a,_,_,_,rfl,rfl,SqT.of e,rfl,_,rfl,bb (by omega),_,_,rfl,rfl,?_⟩
   rw [bw,aQ]
   refine ⟨qO (by simp only [Ah,Ai,Ak];omega),?_⟩
   have:=q _ (Same.refl _)
   rw [show TK.jn [32] (dI (.tup [.str z,.int (i:Nat),.int (x:Nat),.int (y:Nat)]))=cp z++[32,114]++dg i++[32]++dg x++[32]++dg y from by show cp z++([32]++((114::dg i)++([32]++(dg x++([32]++dg y)))))=_;simp] at this
   exact this
  | @done u he=>
   obtain ⟨a',x,ea',e,hx⟩:=mP tv
   cases ea'
   have el:=lT he
   refine ⟨_,rfl,a,_,_,_,rfl,rfl,SqT.of e,rfl,rfl,_,rfl,bg (by decide +kernel) ?_⟩
   have cs:∃ (b:Addr) (w0:Str) (rest:List V),x=.ref b/\H b=some (.tup (.str w0::rest))/\((∃ i:Nat,i < 3/\(w0="go"\/w0="call")/\rest=[.int i]/\hI u=[cp w0,102::dg i])\/(¬ w0="go"/\¬ w0="call"/\(.str w0::rest)=(hI u).map fun t=>V.str (S t))):=by
    cases he with
    | next=>obtain ⟨b,rfl,eb⟩:=gv hx;exact ⟨b,_,_,rfl,eb,.inr ⟨by decide +kernel,by decide +kernel,by show _=[V.str (S (cp "next"))];rw [bo]⟩⟩
    | back=>obtain ⟨b,rfl,eb⟩:=gv hx;exact ⟨b,_,_,rfl,eb,.inr ⟨by decide +kernel,by decide +kernel,by show _=[V.str (S (cp "back"))];rw [bo]⟩⟩
    | stop=>obtain ⟨b,rfl,eb⟩:=gv hx;exact ⟨b,_,_,rfl,eb,.inr ⟨by decide +kernel,by decide +kernel,by show _=[V.str (S (cp "stop"))];rw [bo]⟩⟩
    | go i hi=>obtain ⟨b,rfl,eb⟩:=cC hx;exact ⟨b,_,_,rfl,eb,.inl ⟨i,hi,.inl rfl,rfl,rfl⟩⟩
    | call i hi=>obtain ⟨b,rfl,eb⟩:=cC hx;exact ⟨b,_,_,rfl,eb,.inl ⟨i,hi,.inr rfl,rfl,rfl⟩⟩
    | fault z hz=>obtain ⟨b,rfl,eb⟩:=mO hx;exact ⟨b,_,_,rfl,eb,.inr ⟨by decide +kernel,by decide +kernel,by show _=[V.str (S (cp "fault")),V.str (S (cp z))];rw [bo,bo]⟩⟩
   obtain ⟨b,w0,rest,rfl,eb,hcase⟩:=cs
   refine ⟨_,rfl,a,_,_,_,rfl,rfl,SqT.of e,rfl,b,_,rfl,.inr (SqT.of eb),fun l nl=>?_⟩
   have s1:=aj (o:=.lst (.str w0::rest)) nl
   have e1:(ax H l (.lst (.str w0::rest))) l=some (.lst (.str w0::rest)):=ad
   have eu:∀ o,ax (ax H l (.lst (.str w0::rest))) l o=ax H l o:=fun o=>by
    funext c
    by_cases hc:c=l
    ·subst hc;rw [ad,ad]
    ·rw [aB hc,aB hc,aB hc]
   refine ⟨?_,?_⟩
   ·rintro σ' H2 ⟨l2,u2,eu2,he2,rfl,s2,e2⟩
    cases eu2
    refine ⟨rfl,(by show 1<=sizeLine;decide),fun l3 n3=>?_⟩
    have s3:=aj (o:=.lst [.str "done"]) n3
    have e3:(ax H2 l3 (.lst [.str "done"])) l3=some (.lst [.str "done"]):=ad
    generalize ax H2 l3 (.lst [V.str "done"])=H3 at *
    have ln:(hI u).length<=3:=by cases he<;>simp [hI]
    refine ⟨_,rfl,l3,l2,_,_,rfl,rfl,e3,s3 _ _ e2,by rw [Aj];exact Aq (show _<=10 by show 1+_<=10;omega) (by decide),fun l4 n4=>?_⟩
    have s4:=aj (o:=.lst ([.str "done"]++(hI u).map fun t=>V.str (S t))) n4
    refine ⟨[32],l4,cp "done"::hI u,congrArg V.str fF,rfl,SqL.of ?_,?_,?_⟩
    ·rw [ad,AA,bo];rfl
    ·have a:=fc 30 (cp "done"::hI u) fun z hz=>by
      rcases AG.mp hz with rfl|hz
      ·decide +kernel
      ·exact Aq (qC hz) el
     rw [Ai] at a
     rw [Ai]
     show _+((hI u).length+1)*1<=100000
     omega
    ·have:=q _ ((s2.trans s3).trans s4)
     have eo:dI (.tup [.str "done",u])=cp "done"::hI u:=by cases he<;>rfl
     rw [eo] at this
     exact this
   ·rcases hcase with ⟨i,hi,hw,rfl,en⟩|⟨n1,n2,en⟩
    ·have l9:=aM (n:=i) (by omega)
     have tx:=cY (z:="f") (c:=102) (by decide +kernel) i
     have asg:∃ i' j,(("f":Str)++(toString ((i:Nat):Int):Str))=i'/\j=i':=⟨_,_,rfl,rfl⟩
     have rl1:("f":Str).length=1:=by decide +kernel
     have body:(ax H l (.lst [.str w0,.int i])) l=some (.lst [.str w0,.int i])->Same H (ax (ax H l (.lst [.str w0,.int i])) l (.lst [.str w0,.str (S (102::dg i))]))/\(ax (ax H l (.lst [.str w0,.int i])) l (.lst [.str w0,.str (S (102::dg i))])) l=some (.lst ((hI u).map fun t=>V.str (S t))):=fun _=>⟨az nl (aj nl),by rw [ad,en,AA,bo];rfl⟩
     obtain ⟨b1,b2⟩:=body e1
     rcases hw with rfl|rfl
     ·refine ⟨_,rfl,l,_,_,_,rfl,rfl,SqL.of e1,rfl,rfl,_,rfl,bg (by decide +kernel) ?_⟩
      refine ⟨_,rfl,l,_,_,_,rfl,rfl,SqL.of e1,rfl,_,rfl,bb (by omega),_,_,rfl,rfl,(by rw [bw,ba,rl1];exact Aq (show _<=100 by omega) (by decide)),?_⟩
      rw [tx]
      exact ⟨_,rfl,l,_,_,_,rfl,rfl,e1,rfl,l,u,rfl,he,rfl,b1,b2⟩
     ·refine ⟨_,rfl,l,_,_,_,rfl,rfl,SqL.of e1,rfl,rfl,_,rfl,aN (by decide +kernel) ?_⟩
      refine ⟨_,rfl,l,_,_,_,rfl,rfl,SqL.of e1,rfl,rfl,_,rfl,bg (by decide +kernel) ?_⟩
      refine ⟨_,rfl,l,_,_,_,rfl,rfl,SqL.of e1,rfl,_,rfl,bb (by omega),_,_,rfl,rfl,(by rw [bw,ba,rl1];exact Aq (show _<=100 by omega) (by decide)),?_⟩
      rw [tx]
      exact ⟨_,rfl,l,_,_,_,rfl,rfl,e1,rfl,l,u,rfl,he,rfl,b1,b2⟩
    ·refine ⟨_,rfl,l,_,_,_,rfl,rfl,SqL.of e1,at0 _ _,rfl,_,rfl,?_⟩
     rw [dstr]
     refine aN (decide_eq_false n1) ⟨_,rfl,l,_,_,_,rfl,rfl,SqL.of e1,at0 _ _,rfl,_,rfl,?_⟩
     rw [dstr]
     exact aN (decide_eq_false n2) ⟨l,u,rfl,he,rfl,s1,by rw [e1,en]⟩
theorem scLLitT:ap ["_law_told","_law_steps"] ["_law_told"] (al jt):=⟨rfl,rfl,rfl,by decide +kernel,rfl,by decide +kernel,by decide +kernel⟩
theorem zP:(["_law_step_here"]:List Str).Nodup:=by decide +kernel
set_option maxHeartbeats 4000000 in
theorem qD {f:Addr} {fd:FuncData} (F:Fun K "_law_little_text" "_law_little_text" jt f fd) (B:Bl mg) (ST:Fn P w K mg base "_law_step_text" 2 ["_law_step_here"] ya) (OT:Fn P w K mg base "_law_on_text" 1 ["_law_on_here"] yb):aG P w K mg base bu 3 f fd ["_law_told"] yc:=by
 refine F.ok scLLitT (fun vs H Q E h=>?_) (fun cdv A outer s H vs Q E hr h=>?_)
 ·obtain ⟨p,v,t,rfl,_⟩:=h
  rfl
 ·obtain ⟨p,v,t,rfl,tv,lt,q⟩:=h
  have hr1:Room 1 _:=hr.mono (by decide)
  have sz:(100000:Nat)<=sizeLine:=by decide
  refine ⟨_,ak (aR (i:=1) scLLitT.nd rfl (Or.inl rfl) (bq Ar AY AX cE ah (aa (dH (N':=["_law_step_here"]) (ix:=[none]) (sc0:=al jt) (N:=["_law_told","_law_steps"]) rfl (by decide +kernel) (fP (aq au (pv 0) ae (fun _ _=>rfl)))
     (fun C' cl s H fp=>a7 (i:=0) zP rfl (Or.inl rfl) (.inr rfl)) (fun _ _ _ _ _=>cz) (fun C' cl s H fp=>am ST hr rfl (aa (pv 0) ac))) ac)))
   (af (ao (aP aV (aP aV (aP aV (pv 1) (aP qA ah (aZ iu (by rfl) B.int Bv (aa (cg ip (pv 1) ah (ay _)) ac)))) ah) (am OT hr1 rfl (aa (aq au (pv 0) ae (fun _ _=>rfl)) ac))))),?_⟩
  obtain ⟨ss,on,rfl,hs,ho,hl⟩:=lt.ex
  obtain ⟨sl1,sl2⟩:=gb hs hl
  have ol:=lU ho
  cases tv with
  | @tup a xs _ e ta=>
   obtain ⟨x,y,tx,ty,rfl,ets,hx,hy⟩:=ta.two rfl
   cases ets
   cases hx with
   | @tup b us _ eb tb=>
    have lus:=tb.length
    refine ⟨rfl,_,rfl,a,_,_,_,rfl,rfl,SqT.of e,rfl,b,rfl,⟨_,SqT.of eb⟩,?_⟩
    refine gP (K:=K) (a:=b) (xs:=us) (fun i ys H'=>Same H H'/\ys=((ss.take i).map cD).map (fun t=>V.str (S t))) ⟨Same.refl _,rfl⟩ (fun i ys H' hi ⟨s',e'⟩=>⟨SqT.of (s' _ _ eb),by rw [e',Aj,Aj,AH];omega⟩) ?_ ?_
    ·rintro i z ys H2 hz ⟨s2,rfl⟩
     have hlt:i < us.length:=(An.mp hz).1
     obtain ⟨tz,etz,hzt⟩:=tb.get hz
     refine ⟨trivial,cw ⟨_,rfl,p,z,tz,rfl,hzt.same s2,hs tz (AZ etz),fun H3 s3=>Nx.mk hlt ⟨s2.trans s3,?_⟩⟩⟩
     rw [Bb,etz,AE,AE]
     rfl
    ·rintro ys H2 ⟨s2,rfl⟩ D nD
     rw [lus,AN]
     have s3:=aj (o:=.lst ((ss.map cD).map (fun t=>V.str (S t)))) nD
     have e3:(ax H2 D (.lst ((ss.map cD).map (fun t=>V.str (S t))))) D=some (.lst ((ss.map cD).map (fun t=>V.str (S t)))):=ad
     generalize ax H2 D (.lst ((ss.map cD).map (fun t=>V.str (S t))))=H3 at *
     have s13:=s2.trans s3
     refine ⟨[32,44,32],D,ss.map cD,congrArg V.str vj,rfl,SqL.of e3,?_,?_⟩
     ·rw [Aj]
      show _+ss.length*3<=100000
      omega
     have ew:gr (.tup [.tup ss,on])=TK.jn [32,44,32] (ss.map cD)++(if decide (ss=[])=true then [] else [32])++[58,32]++TK.jn [32] (dI on):=by
      show (if ss=[] then [58,32] else TK.jn [32,44,32] (ss.map cD)++[32,58,32])++TK.jn [32] (dI on)=_
      cases ss with
      | nil=>rfl
      | cons s0 sr=>simp
     have ed:(!decide (V.str (S (TK.jn [32,44,32] (ss.map cD)))=V.str ""))=!decide (ss=[]):=by
      rw [dstr,px]
      congr 1
      rw [Bc,decide_eq_true_iff,decide_eq_true_iff,S_inj]
      cases ss with
      | nil=>exact ⟨fun _=>rfl,fun _=>rfl⟩
      | cons s0 sr=>
       obtain ⟨c,r,ec,_⟩:=lQ (hs s0 AC)
       obtain ⟨q2,e2⟩:=pR (sep:=[32,44,32]) (c:=c) (r:=r) (ts:=sr.map cD)
       rw [AA,ec,e2]
       exact ⟨fun z=>(nomatch z),fun z=>(nomatch z)⟩
     refine ⟨_,rfl,_,rfl,rfl,.inr ⟨_,rfl,?_⟩⟩
     rw [ed]
     refine ⟨[32],!decide (ss=[]),congrArg V.str fF,rfl,by decide,?_⟩
     have ei:(if (!decide (ss=[]))=true then [32] else [])=(if decide (ss=[])=true then ([]:List Nat) else [32]):=by cases decide (ss=[])<;>rfl
     rw [ei]
     have l1:(if decide (ss=[])=true then ([]:List Nat) else [32]).length<=1:=by split<;>simp
     generalize (if decide (ss=[])=true then ([]:List Nat) else [32])=bl at *
     refine ⟨_,_,rfl,rfl,qO (by omega),?_⟩
     rw [aQ,xm]
     refine ⟨_,_,rfl,rfl,qO (by simp only [Ah,Ai,Ak];omega),?_⟩
     rw [aQ]
     refine ⟨_,rfl,a,_,_,_,rfl,rfl,SqT.of (s13 _ _ e),rfl,p,y,on,rfl,hy.same s13,ho,fun H4 s4=>?_⟩
     refine ⟨_,_,rfl,rfl,qO (by simp only [Ah,Ai,Ak];omega),?_⟩
     rw [aQ]
     have:=q _ (s13.trans s4)
     rw [ew] at this
     exact this
end
end L3
namespace L3
open PySem L2
mutual
def eP:Th->PyData
 | .int i=>.int i
 | .str x=>.str x
 | .tup l=>.tuple (bD l)
 | _=>.none
def bD:List Th->List PyData
 | []=>[]
 | t::r=>eP t::bD r
end
theorem ops_okS:∀ o∈opsL,we o=true:=by decide +kernel
theorem fau_okS:∀ o∈nK,we o=true:=by decide +kernel
theorem td_pair {p:Addr} {H:Hp} {v:V} {x:Str} {i:Int} (h:we x=true) (tv:TgV p H v (.tup [.str x,.int i])):Td H v (eP (.tup [.str x,.int i]))/\(eP (.tup [.str x,.int i])).depth<=2:=by
 obtain ⟨a,rfl,e⟩:=cC tv
 refine ⟨.tup e (.cons (.str _ h) (.cons (.int _) .nil)),?_⟩
 simp [eP,bD,PyData.depth,PyData.depthAll]
theorem SelT.td {p:Addr} {H:Hp} {v:V} {t:Th} (h:SelT t) (tv:TgV p H v t):Td H v (eP t)/\(eP t).depth<=2:=by
 cases h with
 | is i hi=>exact td_pair (by decide +kernel) tv
 | «by» i hi=>exact td_pair (by decide +kernel) tv
theorem SrcT.td {p:Addr} {H:Hp} {v:V} {t:Th} (h:SrcT t) (tv:TgV p H v t):Td H v (eP t)/\(eP t).depth<=2:=by
 cases h with
 | fld i hi=>exact td_pair (by decide +kernel) tv
 | num i hi=>exact td_pair (by decide +kernel) tv
 | inn i hi=>exact td_pair (by decide +kernel) tv
theorem EndT.td {p:Addr} {H:Hp} {v:V} {t:Th} (h:EndT t) (tv:TgV p H v t):Td H v (eP t)/\(eP t).depth<=2:=by
 cases h with
 | next=>obtain ⟨a,rfl,e⟩:=gv tv;exact ⟨.tup e (.cons (.str _ (by decide +kernel)) .nil),by simp [eP,bD,PyData.depth,PyData.depthAll]⟩
 | back=>obtain ⟨a,rfl,e⟩:=gv tv;exact ⟨.tup e (.cons (.str _ (by decide +kernel)) .nil),by simp [eP,bD,PyData.depth,PyData.depthAll]⟩
 | stop=>obtain ⟨a,rfl,e⟩:=gv tv;exact ⟨.tup e (.cons (.str _ (by decide +kernel)) .nil),by simp [eP,bD,PyData.depth,PyData.depthAll]⟩
 | go i hi=>exact td_pair (by decide +kernel) tv
 | call i hi=>exact td_pair (by decide +kernel) tv
 | fault z hz=>obtain ⟨a,rfl,e⟩:=mO tv;exact ⟨.tup e (.cons (.str _ (by decide +kernel)) (.cons (.str _ (fau_okS z hz)) .nil)),by simp [eP,bD,PyData.depth,PyData.depthAll]⟩
theorem OnT.td {p:Addr} {H:Hp} {v:V} {t:Th} (h:OnT t) (tv:TgV p H v t):Td H v (eP t)/\(eP t).depth<=4:=by
 cases h with
 | two z i x y hz hi hx hy=>
  obtain ⟨a,rfl,e⟩:=sG tv
  exact ⟨.tup e (.cons (.str _ (by rcases hz with rfl|rfl<;>decide +kernel)) (.cons (.int _) (.cons (.int _) (.cons (.int _) .nil)))),by simp [eP,bD,PyData.depth,PyData.depthAll]⟩
 | on i hi=>exact ⟨(td_pair (by decide +kernel) tv).1,Aq (td_pair (by decide +kernel) tv).2 (by decide)⟩
 | done he=>
  obtain ⟨a,u,rfl,e,h⟩:=mP tv
  obtain ⟨h1,h2⟩:=he.td h
  refine ⟨.tup e (.cons (.str _ (by decide +kernel)) (.cons h1 .nil)),?_⟩
  simp [eP,bD,PyData.depth,PyData.depthAll]
  omega
theorem StpT.td {p:Addr} {H:Hp} {v:V} {t:Th} (h:StpT t) (tv:TgV p H v t):Td H v (eP t)/\(eP t).depth<=4:=by
 cases h with
 | @get n s hk hs=>
  cases tv with
  | @tup a xs _ e ta=>
   obtain ⟨u0,u1,rfl,ta'⟩:=bZ ta
   obtain ⟨w0,w1,eq,t0,t1⟩:=bO ta'
   cases eq
   cases t0
   obtain ⟨a1,b1⟩:=hs.td t1
   refine ⟨.tup e (.cons (.str _ (by decide +kernel)) (.cons (.int _) (.cons a1 .nil))),?_⟩
   simp [eP,bD,PyData.depth,PyData.depthAll]
   omega
 | @ask n s hk hs=>
  cases tv with
  | @tup a xs _ e ta=>
   obtain ⟨u0,u1,rfl,ta'⟩:=bZ ta
   obtain ⟨w0,w1,eq,t0,t1⟩:=bO ta'
   cases eq
   cases t0
   obtain ⟨a1,b1⟩:=hs.td t1
   refine ⟨.tup e (.cons (.str _ (by decide +kernel)) (.cons (.int _) (.cons a1 .nil))),?_⟩
   simp [eP,bD,PyData.depth,PyData.depthAll]
   omega
 | @cell n s hk hs=>
  cases tv with
  | @tup a xs _ e ta=>
   obtain ⟨u0,u1,rfl,ta'⟩:=bZ ta
   obtain ⟨w0,w1,eq,t0,t1⟩:=bO ta'
   cases eq
   cases t0
   obtain ⟨a1,b1⟩:=hs.td t1
   refine ⟨.tup e (.cons (.str _ (by decide +kernel)) (.cons (.int _) (.cons a1 .nil))),?_⟩
   simp [eP,bD,PyData.depth,PyData.depthAll]
   omega
 | @two n o x y hk ho hx hy=>
  cases tv with
  | @tup a xs _ e ta=>
   obtain ⟨u0,u1,u2,u3,rfl,ta'⟩:=mF ta
   obtain ⟨w0,w1,w2,w3,eq,t0,t1,t2,t3⟩:=lS ta'
   cases eq
   cases t0
   cases t1
   obtain ⟨a2,b2⟩:=hx.td t2
   obtain ⟨a3,b3⟩:=hy.td t3
   refine ⟨.tup e (.cons (.str _ (by decide +kernel)) (.cons (.int _) (.cons (.str _ (ops_okS o ho)) (.cons a2 (.cons a3 .nil))))),?_⟩
   simp [eP,bD,PyData.depth,PyData.depthAll]
   omega
 | @put s x hs hx=>
  cases tv with
  | @tup a xs _ e ta=>
   obtain ⟨u0,u1,rfl,ta'⟩:=bZ ta
   obtain ⟨w0,w1,eq,t0,t1⟩:=bO ta'
   cases eq
   obtain ⟨a0,b0⟩:=hs.td t0
   obtain ⟨a1,b1⟩:=hx.td t1
   refine ⟨.tup e (.cons (.str _ (by decide +kernel)) (.cons a0 (.cons a1 .nil))),?_⟩
   simp [eP,bD,PyData.depth,PyData.depthAll]
   omega
 | @tell s x hs hx=>
  cases tv with
  | @tup a xs _ e ta=>
   obtain ⟨u0,u1,rfl,ta'⟩:=bZ ta
   obtain ⟨w0,w1,eq,t0,t1⟩:=bO ta'
   cases eq
   obtain ⟨a0,b0⟩:=hs.td t0
   obtain ⟨a1,b1⟩:=hx.td t1
   refine ⟨.tup e (.cons (.str _ (by decide +kernel)) (.cons a0 (.cons a1 .nil))),?_⟩
   simp [eP,bD,PyData.depth,PyData.depthAll]
   omega
 | @store x y hx hy=>
  cases tv with
  | @tup a xs _ e ta=>
   obtain ⟨u0,u1,rfl,ta'⟩:=bZ ta
   obtain ⟨w0,w1,eq,t0,t1⟩:=bO ta'
   cases eq
   obtain ⟨a0,b0⟩:=hx.td t0
   obtain ⟨a1,b1⟩:=hy.td t1
   refine ⟨.tup e (.cons (.str _ (by decide +kernel)) (.cons a0 (.cons a1 .nil))),?_⟩
   simp [eP,bD,PyData.depth,PyData.depthAll]
   omega
theorem steps_td {p:Addr} {H:Hp}:∀ {us:List V} {ss:List Th},(∀ s∈ss,StpT s)->TgA p H us ss->TdAll H us (bD ss)/\PyData.depthAll (bD ss)<=4
 | _,_,_,.nil=>⟨.nil,by simp [bD,PyData.depthAll]⟩
 | _,_,h,.cons a t=>by
  obtain ⟨x1,x2⟩:=(h _ AC).td a
  obtain ⟨y1,y2⟩:=steps_td (fun s hs=>h s (Av _ hs)) t
  refine ⟨.cons x1 y1,?_⟩
  simp only [bD,PyData.depthAll]
  omega
theorem LitT.td {p:Addr} {H:Hp} {v:V} {t:Th} (h:LitT t) (tv:TgV p H v t):Td H v (eP t)/\(eP t).depth<=8:=by
 obtain ⟨ss,on,rfl,hs,ho,hl⟩:=h.ex
 cases tv with
 | tup e ta=>match ta with
  | .cons (.tup e1 h1) (.cons h2 .nil)=>
   obtain ⟨x1,x2⟩:=steps_td hs h1
   obtain ⟨y1,y2⟩:=ho.td h2
   refine ⟨.tup e (.cons (.tup e1 x1) (.cons y1 .nil)),?_⟩
   simp only [eP,bD,PyData.depth,PyData.depthAll]
   omega
structure DtG (K:PySem.W.Frag) (H:Hp) (v:V) (d:PyData):Prop where
 dt:Dt K H v d
 lay:d.canLay0=true
 eqv:PyData.eqv d d=true
 dep:d.depth<=20
theorem RmV.dt {K:PySem.W.Frag} {p:Addr} {H:Hp} {v:V} {t:Th} (h:RmV p H v t):DtG K H v (eP t)/\(eP t).depth<=8:=by
 cases h with
 | non=>exact ⟨⟨.non,by decide +kernel,by decide +kernel,by decide +kernel⟩,by decide +kernel⟩
 | lit l tv=>
  obtain ⟨a,b⟩:=l.td tv
  exact ⟨⟨a.dt,a.lay,a.eqv,by omega⟩,b⟩
theorem rows_dt {K:PySem.W.Frag} {p:Addr} {H:Hp}:∀ {us:List V} {ts:List Th},Paired (RmV p H) us ts->DtAll K H us (bD ts)/\PyData.canLayAll0 (bD ts)=true/\PyData.eqvAll (bD ts) (bD ts)=true/\PyData.depthAll (bD ts)<=8
 | _,_,.nil=>⟨.nil,by simp [bD,PyData.canLayAll0],by simp [bD,PyData.eqvAll],by simp [bD,PyData.depthAll]⟩
 | _,_,.cons a t=>by
  obtain ⟨x,xd⟩:=a.dt (K:=K)
  obtain ⟨y1,y2,y3,y4⟩:=rows_dt (K:=K) t
  refine ⟨.cons x.dt y1,?_,?_,?_⟩
  ·simp only [bD,PyData.canLayAll0,x.lay,y2,Bool.and_self]
  ·simp only [bD,PyData.eqvAll,x.eqv,y3,Bool.and_self]
  ·simp only [bD,PyData.depthAll]
   omega
theorem rows_g {K:PySem.W.Frag} {p l:Addr} {H:Hp} {us:List V} {ts:List Th} (e:H l=some (.lst us)) (h:Paired (RmV p H) us ts):DtG K H (.ref l) (.list (bD ts))/\(PyData.list (bD ts)).depth<=10:=by
 obtain ⟨a,b,c,d⟩:=rows_dt (K:=K) h
 have dd:(PyData.list (bD ts)).depth<=10:=by simp only [PyData.depth];omega
 exact ⟨⟨.lst (SqL.of e) a,by simp only [PyData.canLay0];exact b,by simp only [PyData.eqv];exact c,by omega⟩,dd⟩
theorem eq_nil (ts:List Th):PyData.eqv (.list (bD ts)) (.list [])=decide (ts=[]):=by
 cases ts with
 | nil=>simp [bD,PyData.eqv,PyData.eqvAll]
 | cons t r=>simp [bD,PyData.eqv,PyData.eqvAll]
def badA:List V:=[.str "",.str " -",.str "- ",.str "--",.str ":",.str ": ",.str ": on",.str ": on 400",.str ": on 03",.str "on 3",.str ": done",.str ": done bare",.str "get r0 p0"]
def badB:List V:=[.str ": some r8 0 0",.str "get r0 m0 : on 1",.str "ask r0 p0 : on 1",.str "get r0 p4 : on 1",.str "put f3 1 : on 1",.str "None"]
theorem bad_app:badA++badB=badL.map V.str:=rfl
def spRoom:Sp:=fun vs H Q _=>∃ p:Addr,vs=[.ref p]/\Strm H p/\∀ l us ts H',H l=none->H' l=some (.lst us)->Paired (RmV p H') us ts->ts≠[]->ts.length<=12->Strm H' p->But p H H'->Q (.ref l) H'
def spMade (C:Nat->Addr) (cT:Addr):Sp:=fun vs H Q _=>∃ (p l:Addr) (us:List V) (ts:List Th),vs=[.ref l]/\H l=some (.lst us)/\Paired (RmV p H) us ts/\ts.length<=12/\∀ r os H',H r=none->Same H H'->H' r=some (.lst os)->Paired (RmO C cT p H') os ts->Q (.ref r) H'
def rsV (rs:List (List Nat)):List V:=rs.map fun t=>V.str (S t)
def spRows:Sp:=fun vs H Q _=>∃ (p l:Addr) (us:List V) (ts:List Th),vs=[.ref l]/\H l=some (.lst us)/\Paired (RmV p H) us ts/\ts.length<=12/\∀ r H',H r=none->Same H H'->H' r=some (.lst (rsV (ts.map aX)))->Q (.ref r) H'
def spBadRow:Sp:=fun vs H Q _=>∃ p:Addr,vs=[.ref p]/\Strm H p/\∀ z H',z∈badL->Strm H' p->But p H H'->Q (.str z) H'
section
variable {P:Program} {w:World} {K:PySem.W.Frag} {mg:Str->Option Value} {base:Heap} {C fi:Nat->Addr} {R fR cL fL cB cT:Addr}
theorem scBadR:ap ["_law_stream_here","_law_bad"] ["_law_stream_here"] (al gW):=⟨rfl,rfl,rfl,by decide +kernel,rfl,by decide +kernel,by decide +kernel⟩
set_option maxHeartbeats 4000000 in
theorem ok_badRow {f:Addr} {fd:FuncData} (F:Fun K "_law_bad_row" "_law_bad_row" gW f fd) (B:Bl mg) (TK:Fn P w K mg base "_law_take" 1 ["_law_stream_here","_law_many"] cJ):aG P w K mg base bu 2 f fd ["_law_stream_here"] spBadRow:=by
 refine F.ok scBadR (fun vs H Q E h=>?_) (fun cdv A outer s H vs Q E hr h=>?_)
 ·obtain ⟨p,rfl,_⟩:=h
  rfl
 ·obtain ⟨p,rfl,hp,q⟩:=h
  refine ⟨_,ak (aR (i:=1) scBadR.nd rfl (Or.inl rfl) (bf (aa ah (aa ah (aa ah (aa ah (aa ah (aa ah (aa ah (aa ah (aa ah (aa ah (aa ah (aa ah (aa ah ac)))))))))))))))
   (ak (aR (i:=1) scBadR.nd rfl (Or.inl rfl) (aP cH (pv 1) (bf (aa ah (aa ah (aa ah (aa ah (aa ah (aa ah ac)))))))))
   (af (ao (aq aC (pv 1) (am TK hr rfl (aa (pv 0) (aa (aH aT (by rfl) B.len AR (aa (pv 1) ac)) ac))) (fun _ _=>rfl))))),?_⟩
  refine ⟨(by show 13<=sizeLine;decide),fun l1 n1=>?_⟩
  have s1:=aj (o:=.lst [V.str "",V.str " -",V.str "- ",V.str "--",V.str ":",V.str ": ",V.str ": on",V.str ": on 400",V.str ": on 03",V.str "on 3",V.str ": done",V.str ": done bare",V.str "get r0 p0"]) n1
  have e1:(ax H l1 (.lst [V.str "",V.str " -",V.str "- ",V.str "--",V.str ":",V.str ": ",V.str ": on",V.str ": on 400",V.str ": on 03",V.str "on 3",V.str ": done",V.str ": done bare",V.str "get r0 p0"])) l1=some (.lst badA):=ad
  have g1:=hp.same s1
  generalize ax H l1 (.lst [V.str "",V.str " -",V.str "- ",V.str "--",V.str ":",V.str ": ",V.str ": on",V.str ": on 400",V.str ": on 03",V.str "on 3",V.str ": done",V.str ": done bare",V.str "get r0 p0"])=H1 at *
  refine ⟨_,rfl,(by show 6<=sizeLine;decide),fun l2 n2=>?_⟩
  have s2:=aj (o:=.lst [V.str ": some r8 0 0",V.str "get r0 m0 : on 1",V.str "ask r0 p0 : on 1",V.str "get r0 p4 : on 1",V.str "put f3 1 : on 1",V.str "None"]) n2
  have e2:(ax H1 l2 (.lst [V.str ": some r8 0 0",V.str "get r0 m0 : on 1",V.str "ask r0 p0 : on 1",V.str "get r0 p4 : on 1",V.str "put f3 1 : on 1",V.str "None"])) l2=some (.lst badB):=ad
  have g2:=g1.same s2
  generalize ax H1 l2 (.lst [V.str ": some r8 0 0",V.str "get r0 m0 : on 1",V.str "ask r0 p0 : on 1",V.str "get r0 p4 : on 1",V.str "put f3 1 : on 1",V.str "None"])=H2 at *
  refine ⟨l1,l2,badA,badB,rfl,rfl,s2 _ _ e1,e2,(by show 19<=sizeLine;decide),fun l3 n3=>?_⟩
  rw [bad_app]
  have s3:=aj (o:=.lst (badL.map V.str)) n3
  have e3:(ax H2 l3 (.lst (badL.map V.str))) l3=some (.lst (badL.map V.str)):=ad
  have g3:=g2.same s3
  have ne3:=(g2.ne n3).symm
  generalize ax H2 l3 (.lst (badL.map V.str))=H3 at *
  refine ⟨_,rfl,_,rfl,_,rfl,l3,_,rfl,.inl (SqL.of e3),p,19,rfl,g3,by decide,by decide,fun r H4 lr g4 b4=>?_⟩
  have hr':r < badL.length:=lr
  have ea:jU (badL.map V.str) (r:Int)=some (.str badL[r]):=aK (by rw [Bp,Bk hr'];rfl)
  exact ⟨l3,_,_,_,rfl,rfl,SqL.of (b4 _ _ e3 ne3),ea,q _ _ (List.getElem_mem hr') g4 (((jw (p:=p) s1).same s2).same s3 |>.trans b4)⟩
theorem scLRoom:ap ["_law_stream_here","_law_told","_law_address","_law_way"] ["_law_stream_here"] (al lF):=⟨rfl,rfl,rfl,by decide +kernel,rfl,by decide +kernel,by decide +kernel⟩
set_option maxHeartbeats 4000000 in
theorem ok_lRoom {f:Addr} {fd:FuncData} (F:Fun K "_law_room" "_law_room" lF f fd) (B:Bl mg) (TK:Fn P w K mg base "_law_take" 1 ["_law_stream_here","_law_many"] cJ) (LL:Fn P w K mg base "_law_little" 4 ["_law_stream_here","_law_most"] (gB LitT)):aG P w K mg base bu 5 f fd ["_law_stream_here"] spRoom:=by
 refine F.ok scLRoom (fun vs H Q E h=>?_) (fun cdv A outer s H vs Q E hr h=>?_)
 ·obtain ⟨p,rfl,_⟩:=h
  rfl
 ·obtain ⟨p,rfl,hp,q⟩:=h
  have hr1:Room 1 _:=hr.mono (by decide)
  have sz:(100000:Nat)<=sizeLine:=by decide
  refine ⟨_,ak (aR (i:=1) scLRoom.nd rfl (Or.inl rfl) (bf ac))
   (ak (dL PassesOwn.never rfl (dZ rfl B.range (aa (aP du ae (am TK hr1 rfl (aa (pv 0) (aa ae ac)))) ac)) (a7 (i:=2) scLRoom.nd rfl (Or.inl rfl))
    (ak (aR (i:=3) scLRoom.nd rfl (Or.inl rfl) (am TK hr1 rfl (aa (pv 0) (aa ae ac))))
    (af (aI (av bc (pv 3) ae (ay _)) (af (bT (bq AO AJ AI bF (pv 1) (aa cv ac))))
     (af (aI (PW.pt (eQ (av bc (pv 3) ae (ay _)) (dn (av (op_neD hr) (pv 1) (bf ac) (ay _)))))
      (af (bT (bq AO AJ AI bF (pv 1) (aa (aq aC (pv 1) (am TK hr1 rfl (aa (pv 0) (aa (aH aT (by rfl) B.len AR (aa (pv 1) ac)) ac))) (fun _ _=>rfl)) ac))))
      (af (bT (bq AO AJ AI bF (pv 1) (aa (am LL hr rfl (aa (pv 0) (aa ae ac))) ac))))))))))
   (af (ao (pv 1)))),?_⟩
  refine ⟨(by show 0<=sizeLine;decide),fun tl nl=>?_⟩
  have s1:=aj (o:=.lst []) nl
  have e1:(ax H tl (.lst [])) tl=some (.lst []):=ad
  have g1:=hp.same s1
  have ne:tl≠p:=(hp.ne nl).symm
  generalize ax H tl (.lst [])=H1 at *
  refine ⟨_,rfl,p,12,rfl,g1,by decide,by decide,fun r0 H2 lr g2 b2=>⟨_,_,rfl,rfl,((r0+1:Nat):Int),congrArg (fun z=>[V.int z]) (by omega:(1+(r0:Int))=((r0+1:Nat):Int)),by omega,by omega,?_⟩⟩
  refine fQ (n:=r0+1) (fun i σ H'=>∃ v3 v4 us ts,σ=[some (.ref p),some (.ref tl),v3,v4]/\H' tl=some (.lst us)/\Paired (RmV p H') us ts/\ts.length=i/\Strm H' p/\But p H H') ⟨_,_,[],[],rfl,b2 _ _ e1 ne,.nil,rfl,g2,(jw s1).trans b2⟩ ?_ ?_
  ·rintro i σ H3 hi ⟨v3,v4,us,ts,rfl,e3,pr,lt,g3,b3⟩
   refine ⟨_,rfl,p,5,rfl,g3,by decide,by decide,fun r H4 lr4 g4 b4=>?_⟩
   have e4:=b4 _ _ e3 ne
   have pr4:Paired (RmV p H4) us ts:=L2.Paired.mapP pr fun _ _ h=>h.kp (Kp.but g3 b4)
   have lu:us.length=i:=by rw [pr.length,lt]
   have fin:∀ v t v3 v4 H5,RmV p H5 v t->H5 tl=some (.lst us)->Paired (RmV p H5) us ts->Strm H5 p->But p H H5->∃ w3 w4 us' ts',[some (V.ref p),some (.ref tl),v3,v4]=[some (.ref p),some (.ref tl),w3,w4]/\(ax H5 tl (.lst (us++[v]))) tl=some (.lst us')/\Paired (RmV p (ax H5 tl (.lst (us++[v])))) us' ts'/\ts'.length=i+1/\Strm (ax H5 tl (.lst (us++[v]))) p/\But p H (ax H5 tl (.lst (us++[v]))):=fun v t v3 v4 H5 hv e5 pr5 g5 b5=>by
    have kk:Kp H5 (ax H5 tl (.lst (us++[v]))):=Kp.lst e5
    refine ⟨_,_,us++[v],ts++[t],rfl,ad,eO (hv.kp kk) (L2.Paired.mapP pr5 fun _ _ h=>h.kp kk),by rw [Ah,lt];rfl,?_,?_⟩
    ·obtain ⟨x,y,z,ex⟩:=g5
     exact ⟨x,y,z,by rw [aB ne.symm];exact ex⟩
    ·intro b o eb nb
     rw [aB (aJ eb nl)]
     exact b5 _ _ eb nb
   refine ⟨_,rfl,rfl,_,rfl,?_⟩
   rw [dint]
   by_cases h0:r=0
   ·refine bg (decide_eq_true (by omega)) ⟨_,rfl,.inl ⟨rfl,_,SqL.of e4⟩,tl,_,_,rfl,rfl,e4,by omega,?_⟩
    exact fin .non .non _ _ H4 .non e4 pr4 g4 (b3.trans b4)
   ·refine aN (decide_eq_false (by omega)) ⟨_,rfl,rfl,_,rfl,?_⟩
    have third:∀ H5,Same H4 H5->∃ p',[V.ref p,.int 400]=[.ref p',.int 400]/\Strm H5 p'/\True:=fun H5 s5=>⟨p,rfl,g4.same s5,trivial⟩
    rw [dint]
    by_cases h1:r=1
    ·refine bg (decide_eq_true (by omega)) ⟨_,rfl,(by show 0<=sizeLine;decide),fun l0 n0=>?_⟩
     have s5:=aj (o:=.lst []) n0
     have e5:(ax H4 l0 (.lst [])) l0=some (.lst []):=ad
     generalize ax H4 l0 (.lst [])=H5 at *
     have pr5:Paired (RmV p H5) us ts:=L2.Paired.mapP pr4 fun _ _ h=>h.kp (Kp.of s5)
     obtain ⟨dg1,dg2⟩:=rows_g (K:=K) (s5 _ _ e4) pr5
     refine ⟨.list (bD ts),.list [],dg1.dt,.lst (SqL.of e5) .nil,dg1.lay,by decide +kernel,Aq (Nat.min_le_left _ _) (by omega),_,rfl,?_⟩
     rw [eq_nil]
     by_cases hn:ts=[]
     ·rw [decide_eq_true hn]
      refine bp ⟨_,rfl,.inl ⟨rfl,_,SqL.of (s5 _ _ e4)⟩,_,rfl,p,rfl,g4.same s5,fun v t H6 tv c g6 b6=>?_⟩
      have k6:=Kp.but (g4.same s5) b6
      exact ⟨tl,_,_,rfl,rfl,b6 _ _ (s5 _ _ e4) ne,by omega,fin v t _ _ H6 (.lit c tv) (b6 _ _ (s5 _ _ e4) ne) (L2.Paired.mapP pr5 fun _ _ h=>h.kp k6) g6 (((b3.trans b4).same s5).trans b6)⟩
     ·rw [decide_eq_false hn]
      have hlen:0 < us.length:=by
       rw [pr.length]
       exact BB.mpr hn
      refine bV ⟨_,rfl,.inl ⟨rfl,_,SqL.of (s5 _ _ e4)⟩,_,rfl,_,rfl,_,rfl,tl,_,rfl,.inl (SqL.of (s5 _ _ e4)),p,us.length,rfl,g4.same s5,hlen,by omega,fun r6 H6 l6 g6 b6=>?_⟩
      have k6:=Kp.but (g4.same s5) b6
      have e6:=b6 _ _ (s5 _ _ e4) ne
      have pr6:Paired (RmV p H6) us ts:=L2.Paired.mapP pr5 fun _ _ h=>h.kp k6
      have ex:us[r6]?=some us[r6]:=Bk l6
      obtain ⟨t,et,hv⟩:=jH pr6 ex
      exact ⟨tl,_,_,_,rfl,rfl,SqL.of e6,aK ex,tl,_,_,rfl,rfl,e6,by omega,fin _ t _ _ H6 hv e6 pr6 g6 (((b3.trans b4).same s5).trans b6)⟩
    ·refine aN (decide_eq_false (by omega)) (bp ⟨_,rfl,.inl ⟨rfl,_,SqL.of e4⟩,_,rfl,p,rfl,g4,fun v t H6 tv c g6 b6=>?_⟩)
     have k6:=Kp.but g4 b6
     exact ⟨tl,_,_,rfl,rfl,b6 _ _ e4 ne,by omega,fin v t _ _ H6 (.lit c tv) (b6 _ _ e4 ne) (L2.Paired.mapP pr4 fun _ _ h=>h.kp k6) g6 ((b3.trans b4).trans b6)⟩
  ·rintro σ H3 ⟨v3,v4,us,ts,rfl,e3,pr,lt,g3,b3⟩
   exact ⟨_,rfl,q tl us ts H3 nl e3 pr (by intro z;rw [z] at lt;cases lt) (by omega) g3 b3⟩
end
end L3
namespace L3
open PySem L2
def lY (t:Th):Prop:=t=.non\/LitT t
theorem RmV.row {p:Addr} {H:Hp} {v:V} {t:Th} (h:RmV p H v t):lY t:=by
 cases h with
 | non=>exact .inl rfl
 | lit a _=>exact .inr a
theorem kE {p:Addr} {H:Hp}:∀ {us:List V} {ts:List Th},Paired (RmV p H) us ts->∀ t∈ts,lY t
 | _,_,.cons a t,x,hx=>by
  rcases AG.mp hx with rfl|hx
  ·exact a.row
  ·exact kE t x hx
theorem dash_S:("-":Str)=S [45]:=by decide +kernel
theorem qE {t:Th} (h:LitT t):10∉gr t:=by
 obtain ⟨ss,on,rfl,hs,ho,hl⟩:=h.ex
 show 10∉(if ss=[] then [58,32] else TK.jn [32,44,32] (ss.map cD)++[32,58,32])++TK.jn [32] (dI on)
 intro hm
 rcases AQ.mp hm with hm|hm
 ·split at hm
  ·revert hm;decide
  ·rcases AQ.mp hm with hm|hm
   ·exact kr (by decide) (fun z hz=>by
     obtain ⟨s,hs',rfl⟩:=AV.mp hz
     exact lP (hs s hs') (by decide) (by decide)) hm
   ·revert hm;decide
 ·exact ve ho (by decide) (by decide) hm
theorem vU {t:Th} (h:LitT t):S (gr t)≠"-":=by
 rw [dash_S]
 intro e
 have e:=S_inj.mp e
 obtain ⟨ss,on,rfl,hs,ho,hl⟩:=h.ex
 cases ss with
 | nil=>exact absurd (Am e).1 (by decide)
 | cons s r=>
  have e':(if s::r=[] then [58,32] else TK.jn [32,44,32] ((s::r).map cD)++[32,58,32])++TK.jn [32] (dI on)=[45]:=e
  rw [if_neg (by simp)] at e'
  obtain ⟨c,q,ec,n,n2⟩:=lQ (hs s AC)
  obtain ⟨q2,e2⟩:=pR (sep:=[32,44,32]) (c:=c) (r:=q) (ts:=r.map cD)
  rw [AA,ec,e2] at e'
  exact n2 (Am e').1
structure ge (l:List Nat):Prop where
 ok:mW (S l)
 n10:10∉l
 len:l.length<=800
theorem cq {t:Th} (h:lY t):ge (aX t)/\cQ (S (aX t))=false/\gc (S (aX t))=t:=by
 rcases h with rfl|h
 ·exact ⟨⟨⟨by decide,fun z=>absurd dash_S.symm z⟩,by decide,by decide⟩,by decide +kernel,by rw [show S (aX .non)=("-":Str) from dash_S.symm,iV]⟩
 ·rw [fH h]
  have hl:=kC h
  refine ⟨⟨⟨by rw [fz];omega,fun _ _=>by rw [h.rd];exact h⟩,qE h,hl⟩,?_,?_⟩
  ·rw [cQ,h.rd,h.ok.1,Bool.not_true,Bool.and_false]
  ·rw [mX (vU h),h.rd]
theorem dW {z:Str} (h:z∈badL):ge (cp z)/\cQ (S (cp z))=true:=by
 obtain ⟨a,b,c,d⟩:=hU z h
 refine ⟨⟨⟨by rw [fz];omega,fun _ hk=>?_⟩,fun hm=>?_,by omega⟩,?_⟩
 ·rw [bo,a] at hk
  cases hk
 ·have:=Bm.mp c 10 hm
  cases this
 ·rw [bo,cQ,a,decide_eq_false b];rfl
theorem fJ:∀ {xs:List Str} {k:Nat} {r:List Str},(∀ x∈xs,cQ x=false)->k+xs.length<=400->db k (xs++r)=db (k+xs.length) r
 | [],_,_,_,_=>rfl
 | x::xs,k,r,h,hk=>by
  rw [Ai] at hk
  show (if k=400\/cQ x=true then some k else db (k+1) (xs++r))=_
  rw [if_neg (by
   rintro (z|z)
   ·omega
   ·rw [h x AC] at z;cases z),fJ (fun y hy=>h y (Av _ hy)) (by omega)]
  congr 1
  rw [Ai];omega
theorem iW {xs:List Str} (h:∀ x∈xs,cQ x=false) (hk:xs.length<=400):db 0 xs=none:=by
 have:=fJ (r:=[]) h (k:=0) (by omega)
 rw [Bd] at this
 rw [this];rfl
theorem gf {xs r:List Str} {z:Str} (h:∀ x∈xs,cQ x=false) (hk:xs.length<=400) (hz:cQ z=true):db 0 (xs++z::r)=some xs.length:=by
 rw [fJ h (by omega),Nat.zero_add]
 show (if _\/cQ z=true then _ else _)=_
 rw [if_pos (.inr hz)]
theorem qF {xs r:List Str} {z:Str} (h:∀ x∈xs,cQ x=false) (hk:xs.length=400):db 0 (xs++z::r)=some 400:=by
 rw [fJ h (by omega),Nat.zero_add,hk]
 rfl
theorem ib {rs:List (List Nat)} (h0:rs≠[]) (h:∀ r∈rs,10∉r):Txt.split (S (TK.jn [10] rs)) (S [10])=rs.map S:=
 eD (sep:=[10]) 10 0 rfl (fun k hk=>by
  match k with
  | 0=>rfl
  | k+1=>cases hk) rs h0 h
theorem fK {p:Addr} {H:Hp} {rs:List (List Nat)} {n:Nat} (h0:rs≠[]) (hg:∀ r∈rs,ge r) (hl:(TK.jn [10] rs).length<=100000) (hb:db 0 (rs.map S)=some n):Inp p H (.str (S (TK.jn [10] rs))) (.inl n):=by
 have e:=ib h0 (fun r hr=>(hg r hr).n10)
 refine .bad _ n (by rw [fz];exact hl) (fun r hr=>?_) (by rw [e];exact hb)
 rw [e] at hr
 obtain ⟨l,hl,rfl⟩:=AV.mp hr
 exact (hg l hl).ok
theorem kG {p:Addr} {H:Hp} {rs:List (List Nat)} (h0:rs≠[]) (hg:∀ r∈rs,ge r) (hl:(TK.jn [10] rs).length<=100000) (hb:db 0 (rs.map S)=none):Inp p H (.str (S (TK.jn [10] rs))) (.inr ((rs.map S).map gc)):=by
 have e:=ib h0 (fun r hr=>(hg r hr).n10)
 have:=Inp.good (p:=p) (H:=H) (S (TK.jn [10] rs)) (by rw [fz];exact hl) (fun r hr=>by
  rw [e] at hr
  obtain ⟨l,hl,rfl⟩:=AV.mp hr
  exact (hg l hl).ok) (by rw [e];exact hb)
 rw [e] at this
 exact this
theorem ic {rs:List (List Nat)} (hg:∀ r∈rs,ge r) (hl:rs.length<=100):(TK.jn [10] rs).length<=100000/\(rs.map List.length).sum+rs.length*1<=100000:=by
 have a:=fc 800 rs fun r hr=>(hg r hr).len
 have b:=jx [10] rs
 have c:rs.length*([10]:List Nat).length=rs.length:=by show rs.length*1=_;omega
 constructor<;>omega
theorem jO {sep z:List Nat}:∀ {l:List (List Nat)},l≠[]->TK.jn sep (l++[z])=TK.jn sep l++(sep++z)
 | [],h=>absurd rfl h
 | [t],_=>rfl
 | t::u::r,_=>by
  have ih:=jO (sep:=sep) (z:=z) (l:=u::r) (by simp)
  show t++(sep++TK.jn sep ((u::r)++[z]))=(t++(sep++TK.jn sep (u::r)))++(sep++z)
  rw [ih]
  simp
theorem dc {H:Hp} {r:Addr} {n:Int} (e:H r=some (.tup [.str "bad",.int n])):Td H (.ref r) (.tuple [.str "bad",.int n]):=.tup e (.cons (.str _ (by decide +kernel)) (.cons (.int _) .nil))
theorem ie {K:PySem.W.Frag} {H:Hp} {r t:Addr} {n:Int} {Q:VK} (er:H r=some (.tup [.str "bad",.int n])) (et:H t=some (.tup [.str "bad",.int n])) (q:Q (.bl false) H):rNeD K (.ref r) (.ref t) H Q:=by
 refine ⟨_,_,(dc er).dt,(dc et).dt,(dc er).lay,(dc et).lay,Aq (Nat.min_le_left _ _) (by simp [PyData.depth,PyData.depthAll]),?_⟩
 rw [(dc er).eqv]
 exact q
theorem qG {K:PySem.W.Frag} {H:Hp} {r t:Addr} {n:Int} {Q:VK} (er:H r=some (.tup [.str "bad",.int n])) (et:H t=some (.tup [.str "bad",.int n])) (q:Q (.bl true) H):rEqD K (.ref r) (.ref t) H Q:=by
 refine ⟨_,_,(dc er).dt,(dc et).dt,(dc er).lay,(dc et).lay,Aq (Nat.min_le_left _ _) (by simp [PyData.depth,PyData.depthAll]),?_⟩
 rw [(dc er).eqv]
 exact q
theorem sW {K:PySem.W.Frag} {H:Hp} {p r t l l':Addr} {us us':List V} {ts:List Th} {Q:VK} (er:H r=some (.tup [.str "told",.ref l,.bl true])) (et:H t=some (.tup [.str "told",.ref l',.bl true])) (el:H l=some (.lst us)) (el':H l'=some (.lst us')) (h:Paired (RmV p H) us ts) (h':Paired (RmV p H) us' ts) (q:Q (.bl false) H):rNeD K (.ref r) (.ref t) H Q:=by
 obtain ⟨a,b⟩:=rows_g (K:=K) el h
 obtain ⟨a',b'⟩:=rows_g (K:=K) el' h'
 have la:(PyData.tuple [.str "told",.list (bD ts),.bool true]).canLay0=true:=by
  have:(PyData.str "told").canLay0=true:=by decide +kernel
  have hb:(PyData.bool true).canLay0=true:=by decide +kernel
  simp only [PyData.canLay0,PyData.canLayAll0] at this hb ⊢
  have a2:=a.lay
  simp only [PyData.canLay0] at a2
  simp [this,hb,a2]
 refine ⟨.tuple [.str "told",.list (bD ts),.bool true],.tuple [.str "told",.list (bD ts),.bool true],.tup (SqT.of er) (.cons (.str _) (.cons a.dt (.cons (.bl _) .nil))),.tup (SqT.of et) (.cons (.str _) (.cons a'.dt (.cons (.bl _) .nil))),la,la,Aq (Nat.min_le_left _ _) ?_,?_⟩
 ·simp only [PyData.depth,PyData.depthAll] at b ⊢
  omega
 ·have e:PyData.eqv (.tuple [.str "told",.list (bD ts),.bool true]) (.tuple [.str "told",.list (bD ts),.bool true])=true:=by
   have h1:PyData.eqv (.str "told") (.str "told")=true:=by decide +kernel
   have h2:PyData.eqv (.bool true) (.bool true)=true:=by decide +kernel
   simp only [PyData.eqv,PyData.eqvAll] at h1 h2 ⊢
   have h3:=a.eqv
   simp only [PyData.eqv] at h3
   simp [h1,h2,h3]
  rw [e]
  exact q
section
variable {P:Program} {w:World} {K:PySem.W.Frag} {mg:Str->Option Value} {base:Heap} {C fi:Nat->Addr} {R fR cL fL cB cT:Addr}
theorem scMade:ap ["_law_told","_law_room_here","_law_one"] ["_law_told"] (al lG):=⟨rfl,rfl,rfl,by decide +kernel,rfl,by decide +kernel,by decide +kernel⟩
set_option maxHeartbeats 2000000 in
theorem sX {f:Addr} {fd:FuncData} (F:Fun K "_law_made" "_law_made" lG f fd) (LO:Fn P w K mg base "little_of" 7 ["told"] (ql C cT)):aG P w K mg base bu 8 f fd ["_law_told"] (spMade C cT):=by
 refine F.ok scMade (fun vs H Q E h=>?_) (fun cdv A outer s H vs Q E hr h=>?_)
 ·obtain ⟨p,l,us,ts,rfl,_⟩:=h
  rfl
 ·obtain ⟨p,l,us,ts,rfl,el,pr,hl,q⟩:=h
  have sz:(100000:Nat)<=sizeLine:=by decide
  refine ⟨_,ak (aR (i:=1) scMade.nd rfl (Or.inl rfl) (bf ac))
   (ak (dL PassesOwn.never rfl (dq (pv 0)) (a7 (i:=2) scMade.nd rfl (Or.inl rfl))
    (af (aI (av i8 (pv 2) cv (ay _)) (af (bT (bq AO AJ AI bF (pv 1) (aa cv ac)))) (af (bT (bq AO AJ AI bF (pv 1) (aa (am LO hr rfl (aa (pv 2) ac)) ac)))))))
   (af (ao (pv 1)))),?_⟩
  have lus:=pr.length
  refine ⟨(by show 0<=sizeLine;decide),fun rm nrm=>?_⟩
  have s1:=aj (o:=.lst []) nrm
  have e1:(ax H rm (.lst [])) rm=some (.lst []):=ad
  have nel:l≠rm:=aJ el nrm
  generalize ax H rm (.lst [])=H1 at *
  refine ⟨_,rfl,l,rfl,⟨_,SqL.of (s1 _ _ el)⟩,?_⟩
  refine gH (K:=K) (a:=l) (xs:=us) (fun i σ H'=>∃ v3 os,σ=[some (.ref l),some (.ref rm),v3]/\Same H H'/\H' rm=some (.lst os)/\os.length=i/\Paired (RmO C cT p H') os (ts.take i)) ⟨_,[],rfl,s1,e1,rfl,.nil⟩ (fun i σ H' _ ⟨_,_,_,s',_⟩=>SqL.of (s' _ _ el)) ?_ ?_
  ·rintro i z σ H3 hz ⟨v3,os,rfl,s3,e3,lo,pr3⟩
   have hlt:i < us.length:=(An.mp hz).1
   obtain ⟨t,et,hv⟩:=jH pr hz
   have tk:ts.take (i+1)=ts.take i++[t]:=by rw [Bb,et];rfl
   have fin:∀ o v3 H4,Same H3 H4->RmO C cT p H4 o t->∃ w3 os',[some (V.ref l),some (.ref rm),v3]=[some (.ref l),some (.ref rm),w3]/\Same H (ax H4 rm (.lst (os++[o])))/\(ax H4 rm (.lst (os++[o]))) rm=some (.lst os')/\os'.length=i+1/\Paired (RmO C cT p (ax H4 rm (.lst (os++[o])))) os' (ts.take (i+1)):=fun o v3 H4 s4 ho=>by
    have kk:Kp H4 (ax H4 rm (.lst (os++[o]))):=Kp.lst (s4 _ _ e3)
    refine ⟨_,os++[o],rfl,az nrm (s3.trans s4),ad,by rw [Ah,lo];rfl,?_⟩
    rw [tk]
    exact eO (ho.kp kk) (L2.Paired.mapP pr3 fun _ _ h=>h.kp ((Kp.of s4).trans kk))
   refine ⟨_,rfl,rfl,_,rfl,?_⟩
   cases hv with
   | non=>exact bg (decide_eq_true rfl) ⟨_,rfl,.inl ⟨rfl,_,SqL.of e3⟩,rm,_,_,rfl,rfl,e3,by omega,fin _ _ H3 (Same.refl _) .non⟩
   | lit lt tv=>
    have hne:¬ z=.non:=by
     rintro rfl
     obtain ⟨ss,on,rfl,_⟩:=lt.ex
     cases tv
    refine aN (decide_eq_false hne) ⟨_,rfl,.inl ⟨rfl,_,SqL.of e3⟩,_,rfl,p,z,t,rfl,tv.same s3,lt,fun o H4 s4 lo4=>⟨rm,_,_,rfl,rfl,s4 _ _ e3,by omega,fin _ _ H4 s4 (.lit lo4)⟩⟩
  ·rintro σ H3 ⟨v3,os,rfl,s3,e3,lo,pr3⟩
   rw [lus,AN] at pr3
   exact ⟨_,rfl,q rm os H3 nrm s3 e3 pr3⟩
theorem scRowsL:ap ["_law_told","_law_rows_here","_law_one"] ["_law_told"] (al lH):=⟨rfl,rfl,rfl,by decide +kernel,rfl,by decide +kernel,by decide +kernel⟩
set_option maxHeartbeats 2000000 in
theorem sY {f:Addr} {fd:FuncData} (F:Fun K "_law_rows" "_law_rows" lH f fd) (LT:Fn P w K mg base "_law_little_text" 3 ["_law_told"] yc):aG P w K mg base bu 4 f fd ["_law_told"] spRows:=by
 refine F.ok scRowsL (fun vs H Q E h=>?_) (fun cdv A outer s H vs Q E hr h=>?_)
 ·obtain ⟨p,l,us,ts,rfl,_⟩:=h
  rfl
 ·obtain ⟨p,l,us,ts,rfl,el,pr,hl,q⟩:=h
  have sz:(100000:Nat)<=sizeLine:=by decide
  refine ⟨_,ak (aR (i:=1) scRowsL.nd rfl (Or.inl rfl) (bf ac))
   (ak (dL PassesOwn.never rfl (dq (pv 0)) (a7 (i:=2) scRowsL.nd rfl (Or.inl rfl))
    (af (aI (av i8 (pv 2) cv (ay _)) (af (bT (bq AO AJ AI bF (pv 1) (aa ah ac)))) (af (bT (bq AO AJ AI bF (pv 1) (aa (am LT hr rfl (aa (pv 2) ac)) ac)))))))
   (af (ao (pv 1)))),?_⟩
  have lus:=pr.length
  refine ⟨(by show 0<=sizeLine;decide),fun rm nrm=>?_⟩
  have s1:=aj (o:=.lst []) nrm
  have e1:(ax H rm (.lst [])) rm=some (.lst []):=ad
  generalize ax H rm (.lst [])=H1 at *
  refine ⟨_,rfl,l,rfl,⟨_,SqL.of (s1 _ _ el)⟩,?_⟩
  refine gH (K:=K) (a:=l) (xs:=us) (fun i σ H'=>∃ v3,σ=[some (.ref l),some (.ref rm),v3]/\Same H H'/\H' rm=some (.lst (rsV ((ts.take i).map aX)))) ⟨_,rfl,s1,e1⟩ (fun i σ H' _ ⟨_,_,s',_⟩=>SqL.of (s' _ _ el)) ?_ ?_
  ·rintro i z σ H3 hz ⟨v3,rfl,s3,e3⟩
   have hlt:i < us.length:=(An.mp hz).1
   obtain ⟨t,et,hv⟩:=jH pr hz
   have tk:rsV ((ts.take (i+1)).map aX)=rsV ((ts.take i).map aX)++[.str (S (aX t))]:=by
    rw [Bb,et,AE]
    unfold rsV
    rw [AE];rfl
   have lsz:(rsV ((ts.take i).map aX)).length < sizeLine:=by
    unfold rsV
    rw [Aj,Aj,AH];omega
   have fin:∀ v3 H4,Same H3 H4->∃ w3,[some (V.ref l),some (.ref rm),v3]=[some (.ref l),some (.ref rm),w3]/\Same H (ax H4 rm (.lst (rsV ((ts.take i).map aX)++[.str (S (aX t))])))/\(ax H4 rm (.lst (rsV ((ts.take i).map aX)++[.str (S (aX t))]))) rm=some (.lst (rsV ((ts.take (i+1)).map aX))):=fun v3 H4 s4=>⟨_,rfl,az nrm (s3.trans s4),by rw [ad,tk]⟩
   refine ⟨_,rfl,rfl,_,rfl,?_⟩
   cases hv with
   | non=>
    have f0:=fin (some .non) H3 (Same.refl _)
    rw [show S (aX .non)=("-":Str) from dash_S.symm] at f0
    exact bg (decide_eq_true rfl) ⟨_,rfl,.inl ⟨rfl,_,SqL.of e3⟩,rm,_,_,rfl,rfl,e3,lsz,f0⟩
   | lit lt tv=>
    have hne:¬ z=.non:=by
     rintro rfl
     obtain ⟨ss,on,rfl,_⟩:=lt.ex
     cases tv
    refine aN (decide_eq_false hne) ⟨_,rfl,.inl ⟨rfl,_,SqL.of e3⟩,_,rfl,p,z,t,rfl,tv.same s3,lt,fun H4 s4=>⟨rm,_,_,rfl,rfl,s4 _ _ e3,lsz,?_⟩⟩
    have f0:=fin (some z) H4 s4
    rw [fH lt] at f0
    exact f0
  ·rintro σ H3 ⟨v3,rfl,s3,e3⟩
   rw [lus,AN] at e3
   exact ⟨_,rfl,q rm H3 nrm s3 e3⟩
end
end L3
namespace L3
open PySem L2
theorem sZ (xs:List V) (k:Nat):eG xs none (some (k:Int))=xs.take k:=by
 unfold eG
 have e1:HT.sIx xs.length 0 none=0:=rfl
 have e2:HT.sIx xs.length xs.length (some (k:Int))=min k xs.length:=by
  show (if (k:Int) < 0 then ((k:Int)+(xs.length:Int)).toNat else min (k:Int).toNat xs.length)=_
  rw [if_neg (by omega)];rfl
 rw [e1,e2,Bs,Nat.sub_zero]
 by_cases h:k<=xs.length
 ·rw [Bw h]
 ·rw [Nat.min_eq_right (by omega),AN,Bo (by omega)]
theorem nV (xs:List V) (k:Nat):eG xs (some (k:Int)) none=xs.drop k:=by
 unfold eG
 have e1:HT.sIx xs.length 0 (some (k:Int))=min k xs.length:=by
  show (if (k:Int) < 0 then ((k:Int)+(xs.length:Int)).toNat else min (k:Int).toNat xs.length)=_
  rw [if_neg (by omega)];rfl
 have e2:HT.sIx xs.length xs.length none=xs.length:=rfl
 rw [e1,e2]
 by_cases h:k<=xs.length
 ·rw [Bw h,Bo (by rw [A0];omega)]
 ·rw [Nat.min_eq_right (by omega),List.drop_eq_nil_of_le (Ao _),List.drop_eq_nil_of_le (by omega),List.take_nil]
theorem qH {K:PySem.W.Frag} {H:Hp} {a:Addr} {X:List V} {r:Nat} {Q:VK} (e:H a=some (.lst X)) (q:∀ l H',H l=none->Same H H'->H' l=some (.lst (X.take r))->Q (.ref l) H'):rf K (.ref a) none (some (r:Int)) H Q:=
 ⟨a,X,rfl,SqL.of e,fun l nl=>by rw [sZ];exact q l _ nl (aj nl) ad⟩
theorem jP {K:PySem.W.Frag} {H:Hp} {a:Addr} {X:List V} {r:Nat} {i:Int} {Q:VK} (hi:i=(r:Int)) (e:H a=some (.lst X)) (q:∀ l H',H l=none->Same H H'->H' l=some (.lst (X.drop r))->Q (.ref l) H'):rf K (.ref a) (some i) none H Q:=
 ⟨a,X,rfl,SqL.of e,fun l nl=>by rw [hi,nV];exact q l _ nl (aj nl) ad⟩
theorem dX {H:Hp} {a b:Addr} {xs zs:List V} {Q:VK} (h1:H a=some (.lst xs)) (h2:H b=some (.lst zs)) (hl:xs.length+zs.length<=10000) (q:∀ l H',H l=none->Same H H'->H' l=some (.lst (xs++zs))->Q (.ref l) H'):uC (.ref a) (.ref b) H Q:=
 ⟨a,b,xs,zs,rfl,rfl,h1,h2,Aq hl (by decide),fun l nl=>q l _ nl (aj nl) ad⟩
structure AF (C:Nat->Addr) (cT p tl rm rw:Addr) (ts:List Th) (us os:List V) (H:Hp):Prop where
 g:Strm H p
 et:H tl=some (.lst us)
 pt:Paired (RmV p H) us ts
 em:H rm=some (.lst os)
 pm:Paired (RmO C cT p H) os ts
 er:H rw=some (.lst (rsV (ts.map aX)))
 n1:tl≠p
 n2:rm≠p
 n3:rw≠p
theorem AF.same {C:Nat->Addr} {cT p tl rm rw:Addr} {ts:List Th} {us os:List V} {H H':Hp} (A:AF C cT p tl rm rw ts us os H) (s:Same H H'):AF C cT p tl rm rw ts us os H':=
 ⟨A.g.same s,s _ _ A.et,L2.Paired.mapP A.pt fun _ _ h=>h.kp (Kp.of s),s _ _ A.em,L2.Paired.mapP A.pm fun _ _ h=>h.kp (Kp.of s),s _ _ A.er,A.n1,A.n2,A.n3⟩
theorem AF.but {C:Nat->Addr} {cT p tl rm rw:Addr} {ts:List Th} {us os:List V} {H H':Hp} (A:AF C cT p tl rm rw ts us os H) (g:Strm H' p) (b:But p H H'):AF C cT p tl rm rw ts us os H':=
 have k:=Kp.but A.g b
 ⟨g,b _ _ A.et A.n1,L2.Paired.mapP A.pt fun _ _ h=>h.kp k,b _ _ A.em A.n2,L2.Paired.mapP A.pm fun _ _ h=>h.kp k,b _ _ A.er A.n3,A.n1,A.n2,A.n3⟩
def SpO (r:Nat) (H:Hp) (v:V):Prop:=∃ l rr,v=.ref l/\H l=some (.lst (rsV rr))/\rr≠[]/\(∀ x∈rr,ge x)/\rr.length<=100/\db 0 (rr.map S)=some r
theorem SpO.same {r:Nat} {H H':Hp} {v:V} (s:Same H H') (h:SpO r H v):SpO r H' v:=let ⟨l,rr,a,b,c⟩:=h;⟨l,rr,a,s _ _ b,c⟩
theorem iX {ts:List Th} (h:∀ t∈ts,lY t):(((ts.map aX).map S).map gc)=ts:=by
 rw [Bg,Bg]
 refine Eq.trans (List.map_congr_left fun t ht=>?_) (List.map_id ts)
 exact (cq (h t ht)).2.2
theorem c7 (a b:List (List Nat)):rsV a++rsV b=rsV (a++b):=by unfold rsV;rw [AE]
theorem ig (a:List (List Nat)) (k:Nat):(rsV a).take k=rsV (a.take k):=by unfold rsV;rw [List.map_take]
theorem fM (a:List (List Nat)) (k:Nat):(rsV a).drop k=rsV (a.drop k):=by unfold rsV;rw [List.map_drop]
theorem jQ (z:Str):[V.str z]=rsV [cp z]:=by show _=[V.str (S (cp z))];rw [bo]
theorem tj (z y:Str):[V.str z,.str y]=rsV [cp z,cp y]:=by show _=[V.str (S (cp z)),V.str (S (cp y))];rw [bo,bo]
theorem lZ {ts:List Th} {r:Nat} {z:Str} {rest:List (List Nat)} (h:∀ t∈ts,lY t) (hl:ts.length<=12) (hr:r < ts.length) (hz:z∈badL) (hg:∀ x∈rest,ge x) (hn:rest.length<=20):((ts.map aX).take r++([cp z]++rest))≠[]/\(∀ x∈(ts.map aX).take r++([cp z]++rest),ge x)/\((ts.map aX).take r++([cp z]++rest)).length<=100/\db 0 (((ts.map aX).take r++([cp z]++rest)).map S)=some r:=by
 obtain ⟨zg,zb⟩:=dW hz
 refine ⟨by simp,fun x hx=>?_,?_,?_⟩
 ·rcases AQ.mp hx with hx|hx
  ·obtain ⟨t,ht,rfl⟩:=AV.mp (List.mem_of_mem_take hx)
   exact (cq (h t ht)).1
  ·rcases AQ.mp hx with hx|hx
   ·rw [AK.mp hx];exact zg
   ·exact hg x hx
 ·simp only [Ah,AH,Aj,Ai,Ak];omega
 ·rw [AE]
  have:(([cp z]++rest).map S)=S (cp z)::rest.map S:=rfl
  have hb:∀ x∈((ts.map aX).take r).map S,cQ x=false:=fun x hx=>by
   obtain ⟨l,hl',rfl⟩:=AV.mp hx
   obtain ⟨t,ht,rfl⟩:=AV.mp (List.mem_of_mem_take hl')
   exact (cq (h t ht)).2.1
  have hlen:(((ts.map aX).take r).map S).length=r:=by rw [Aj,AH,Aj];omega
  rw [this,gf hb (by omega) zb,hlen]
def uf:Sp:=fun vs H Q _=>∃ p:Addr,vs=[.ref p]/\Strm H p/\∀ H',But p H H'->Q (.bl true) H'
section
variable {P:Program} {w:World} {K:PySem.W.Frag} {mg:Str->Option Value} {base:Heap} {C fi:Nat->Addr} {R fR cL fL cB cT:Addr}
theorem scAll:ap ["_law_stream_here","_law_told","_law_room_here","_law_rows_here","_law_text","_law_turn","_law_at","_law_bad","_law_more","_law_spoilt","_law_some","_law_thing"] ["_law_stream_here"] (al rM):=⟨rfl,rfl,rfl,by decide +kernel,rfl,by decide +kernel,by decide +kernel⟩
theorem yd:(["_law_one"]:List Str).Nodup:=by decide +kernel
set_option maxHeartbeats 8000000 in
theorem vV {f:Addr} {fd:FuncData} (F:Fun K "_law_all" "_law_all" rM f fd) (B:Bl mg) (L:Lc K cT) (TA:Fn P w K mg base "_law_take" 1 ["_law_stream_here","_law_many"] cJ) (RO:Fn P w K mg base "_law_room" 5 ["_law_stream_here"] spRoom) (MA:Fn P w K mg base "_law_made" 8 ["_law_told"] (spMade C cT)) (RW:Fn P w K mg base "_law_rows" 4 ["_law_told"] spRows)
  (SH:Fn P w K mg base "show_room" 4 ["room"] (qy C cT)) (SA:Fn P w K mg base "_law_said" 9 ["_law_text"] (lV C cT)) (BR:Fn P w K mg base "_law_bad_row" 2 ["_law_stream_here"] spBadRow) (TO:gp P w K mg base cT "told" 2 ["self"] (mU C cT)):aG P w K mg base bu 10 f fd ["_law_stream_here"] uf:=by
 refine F.ok scAll (fun vs H Q E h=>?_) (fun cdv A outer s H vs Q E hr h=>?_)
 ·obtain ⟨p,rfl,_⟩:=h
  rfl
 ·obtain ⟨p,rfl,hp,q⟩:=h
  have hr1:Room 1 _:=hr.mono (by decide)
  have hr2:Room 2 _:=hr.mono (by decide)
  have hr4:Room 4 _:=hr.mono (by decide)
  have hr5:Room 5 _:=hr.mono (by decide)
  have hr8:Room 8 _:=hr.mono (by decide)
  have sz:(100000:Nat)<=sizeLine:=by decide
  obtain ⟨f2,fd2,m2,F2,b2⟩:=TO
  refine ⟨_,ak (aR (i:=1) scAll.nd rfl (Or.inl rfl) (am RO hr5 rfl (aa (pv 0) ac)))
   (ak (aR (i:=2) scAll.nd rfl (Or.inl rfl) (am MA hr8 rfl (aa (pv 1) ac)))
   (ak (aR (i:=3) scAll.nd rfl (Or.inl rfl) (am RW hr4 rfl (aa (pv 1) ac)))
   (ak (aR (i:=4) scAll.nd rfl (Or.inl rfl) (bq Ar AY AX cE ah (aa (pv 3) ac)))
   (ak (dL PassesOwn.never rfl (dZ rfl B.range (aa ae ac)) (a7 (i:=5) scAll.nd rfl (Or.inl rfl))
    (af (aI (PW.pt (cR (av ip (am SH hr4 rfl (aa (pv 2) ac)) (pv 4) (ay _)) (ce (av (op_neD hr) (am SA hr rfl (aa (pv 4) ac)) (aA (aa ah (aa (pv 1) (aa eJ ac)))) (ay _))))) (af (ao eJ)) aw)))
   (ak (aR (i:=6) scAll.nd rfl (Or.inl rfl) (am TA hr1 rfl (aa (pv 0) (aa (aH aT (by rfl) B.len AR (aa (pv 3) ac)) ac))))
   (ak (aR (i:=7) scAll.nd rfl (Or.inl rfl) (am BR hr2 rfl (aa (pv 0) ac)))
   (ak (aR (i:=8) scAll.nd rfl (Or.inl rfl) (am BR hr2 rfl (aa (pv 0) ac)))
   (ak (aR (i:=9) scAll.nd rfl (Or.inl rfl) (bf (aa (aP cH (aP cH (bQ cU (pv 3) cx (bX (pv 6))) (bf (aa (pv 7) ac))) (bQ cU (pv 3) (bX (aP du (pv 6) ae)) cx)) (aa (aP cH (aP cH (bQ cU (pv 3) cx (bX (pv 6))) (bf (aa (pv 7) ac))) (bQ cU (pv 3) (bX (pv 6)) cx)) (aa (aP cH (bQ cU (pv 3) cx (bX (pv 6))) (bf (aa (pv 7) (aa (pv 8) ac)))) ac)))))
   (ak (dL PassesOwn.never rfl (dq (pv 9)) (a7 (i:=10) scAll.nd rfl (Or.inl rfl))
    (af (aI (av (op_neD hr) (am SA hr rfl (aa (bq Ar AY AX cE ah (aa (pv 10) ac)) ac)) (aA (aa ah (aa (pv 6) ac))) (ay _)) (af (ao eJ)) aw)))
   (ak (aI (PW.pt (cR (av (op_neD hr) (am SA hr rfl (aa (aP aV (aP aV (pv 4) ah) (pv 7)) ac)) (aA (aa ah (aa (aH aT (by rfl) B.len AR (aa (pv 3) ac)) ac))) (ay _)) (ce (av (op_neD hr) (am SA hr rfl (aa (aP aV (pv 4) ah) ac)) (aA (aa ah (aa (aH aT (by rfl) B.len AR (aa (pv 3) ac)) ac))) (ay _))))) (af (ao eJ)) aw)
   (ak (aR (i:=11) scAll.nd rfl (Or.inl rfl) (aq aC (bf (aa cv (aa ae (aa (pv 3) (aa (aZ bM (by rfl) B.tuple br (aa (pv 3) ac)) (aa oX (aa ah ac))))))) (am TA hr1 rfl (aa (pv 0) (aa ae ac))) (fun _ _=>rfl)))
   (af (ao (bE (cg (op_eqD hr) (am SA hr rfl (aa (pv 11) ac)) (aA (aa ah (aa ae ac))) (ay _)) (bP (cg (op_eqD hr) (dH (N':=["_law_one"]) (ix:=[none]) (sc0:=al rM) (N:=["_law_stream_here","_law_told","_law_room_here","_law_rows_here","_law_text","_law_turn","_law_at","_law_bad","_law_more","_law_spoilt","_law_some","_law_thing"]) rfl (by decide +kernel) (dq (pv 2))
     (fun C' cl s H fp=>a7 (i:=0) yd rfl (Or.inl rfl) (.inr rfl)) (fun _ _ _ _ _=>cz) (fun C' cl s H fp=>cf (av i8 (pv 0) cv (ay _)) (pv 0) (dU (P:=P) (w:=w) (K:=K) (mg:=mg) (base:=base) (k:=2) rfl rfl rfl rfl rfl hr2 (pv 0)))) (pv 1) (ay _))))))))))))))))),?_⟩
  refine ⟨_,rfl,p,rfl,hp,fun tl us ts H1 ntl e1 pr1 hne hl g1 b1=>?_⟩
  have n1:tl≠p:=(hp.ne ntl).symm
  refine ⟨_,rfl,p,tl,us,ts,rfl,e1,pr1,hl,fun rm os H2 nrm s2 e2 pr2=>?_⟩
  have n2:rm≠p:=(g1.ne nrm).symm
  have pr12:Paired (RmV p H2) us ts:=L2.Paired.mapP pr1 fun _ _ h=>h.kp (Kp.of s2)
  refine ⟨_,rfl,p,tl,us,ts,rfl,s2 _ _ e1,pr12,hl,fun rw H3 nrw s3 e3=>?_⟩
  have n3:rw≠p:=((g1.same s2).ne nrw).symm
  have A3:AF C cT p tl rm rw ts us os H3:=⟨(g1.same s2).same s3,s3 _ _ (s2 _ _ e1),L2.Paired.mapP pr12 fun _ _ h=>h.kp (Kp.of s3),s3 _ _ e2,L2.Paired.mapP pr2 fun _ _ h=>h.kp (Kp.of s3),e3,n1,n2,n3⟩
  have B3:But p H H3:=(b1.same s2).same s3
  have rt:=kE pr1
  have rg:∀ x∈ts.map aX,ge x:=fun x hx=>by
   obtain ⟨t,ht,rfl⟩:=AV.mp hx
   exact (cq (rt t ht)).1
  have rb:∀ x∈(ts.map aX).map S,cQ x=false:=fun x hx=>by
   obtain ⟨l,hl',rfl⟩:=AV.mp hx
   obtain ⟨t,ht,rfl⟩:=AV.mp hl'
   exact (cq (rt t ht)).2.1
  have rl:(ts.map aX).length<=12:=by rw [Aj];exact hl
  have rn:ts.map aX≠[]:=by simpa using hne
  obtain ⟨jb1,jb2⟩:=ic rg (by omega)
  have bn:=iW rb (by rw [Aj];omega)
  refine ⟨rfl,_,rfl,[10],rw,ts.map aX,congrArg V.str fG,rfl,SqL.of A3.er,jb2,?_⟩
  refine ⟨2,rfl,by decide,by decide,?_⟩
  have HD:∀ (v5:Option V),True:=fun _=>trivial
  refine fQ (n:=2) (fun i σ H'=>∃ v5,σ=[some (.ref p),some (.ref tl),some (.ref rm),some (.ref rw),some (.str (S (TK.jn [10] (ts.map aX)))),v5,none,none,none,none,none,none]/\AF C cT p tl rm rw ts us os H'/\But p H H') ⟨_,rfl,A3,B3⟩ ?_ ?_
  ·rintro i σ H4 hi ⟨v5,rfl,A4,B4⟩
   refine ⟨_,rfl,p,rm,os,ts,rfl,A4.em,A4.pm,by omega,fun H5 s5=>⟨_,rfl,rfl,_,rfl,aN (by rw [decide_eq_true rfl];rfl) ?_⟩⟩
   refine ⟨_,rfl,p,_,_,rfl,kG rn rg jb1 bn,fun n eo=>(nomatch eo),fun ts' eo r l us' H6 s6 er el pr=>?_⟩
   rw [iX rt] at eo
   cases eo
   have A6:=(A4.same s5).same s6
   refine ⟨_,rfl,(by show 3<=sizeLine;decide),fun t nt=>?_⟩
   have s7:=aj (o:=.tup [.str "told",.ref tl,.bl true]) nt
   have e7:(ax H6 t (.tup [.str "told",.ref tl,.bl true])) t=some (.tup [.str "told",.ref tl,.bl true]):=ad
   generalize ax H6 t (.tup [V.str "told",.ref tl,.bl true])=H7 at *
   exact sW (s7 _ _ er) e7 (s7 _ _ el) (s7 _ _ A6.et) (L2.Paired.mapP pr fun _ _ h=>h.kp (Kp.of s7)) (A6.same s7).pt ⟨_,rfl,bp ⟨_,rfl,A6.same s7,((B4.same s5).same s6).same s7⟩⟩
  ·rintro σ H4 ⟨v5,rfl,A4,B4⟩
   refine ⟨_,rfl,_,rfl,rw,_,rfl,.inl (SqL.of A4.er),p,ts.length,by unfold rsV;rw [Aj,Aj],A4.g,BB.mpr hne,by omega,fun r H5 lr g5 b5=>?_⟩
   have A5:=A4.but g5 b5
   refine ⟨_,rfl,p,rfl,A5.g,fun z7 H6 hz7 g6 b6=>?_⟩
   have A6:=A5.but g6 b6
   refine ⟨_,rfl,p,rfl,A6.g,fun z8 H7 hz8 g7 b7=>?_⟩
   have A7:=A6.but g7 b7
   have B7:But p H H7:=((B4.trans b5).trans b6).trans b7
   have xl:(rsV (ts.map aX)).length=ts.length:=by unfold rsV;rw [Aj,Aj]
   have tl12:((rsV (ts.map aX)).take r).length<=12:=by rw [AH];omega
   have dl12:∀ k,((rsV (ts.map aX)).drop k).length<=12:=fun k=>by rw [A0];omega
   refine ⟨_,rfl,_,rfl,_,rfl,qH A7.er fun l1 J1 _ s1 q1=>?_⟩
   refine ⟨_,rfl,(by show 1<=sizeLine;decide),fun l2 n_l2=>?_⟩
   have s2':=aj (o:=.lst [V.str z7]) n_l2
   have q2:(ax J1 l2 (.lst [V.str z7])) l2=some (.lst [V.str z7]):=ad
   generalize ax J1 l2 (.lst [V.str z7])=J2 at *
   refine dX (s2' _ _ q1) q2 (by show _+1<=10000;omega) fun l3 J3 _ s3' q3=>?_
   have A8:=((A7.same s1).same s2').same s3'
   refine ⟨_,rfl,_,rfl,_,_,rfl,rfl,_,rfl,jP (r:=r+1) (by omega) A8.er fun l4 J4 _ s4 q4=>?_⟩
   refine dX (s4 _ _ q3) q4 (by have:=dl12 (r+1);rw [Ah];show _+1+_<=10000;omega) fun x1 J5 _ s5 q5=>?_
   have A9:=(A8.same s4).same s5
   refine ⟨_,rfl,_,rfl,_,rfl,qH A9.er fun l6 J6 _ s6 q6=>?_⟩
   refine ⟨_,rfl,(by show 1<=sizeLine;decide),fun l7 n_l7=>?_⟩
   have s7:=aj (o:=.lst [V.str z7]) n_l7
   have q7:(ax J6 l7 (.lst [V.str z7])) l7=some (.lst [V.str z7]):=ad
   generalize ax J6 l7 (.lst [V.str z7])=J7 at *
   refine dX (s7 _ _ q6) q7 (by show _+1<=10000;omega) fun l8 J8 _ s8 q8=>?_
   have A10:=((A9.same s6).same s7).same s8
   refine ⟨_,rfl,_,rfl,_,rfl,jP (r:=r) rfl A10.er fun l9 J9 _ s9 q9=>?_⟩
   refine dX (s9 _ _ q8) q9 (by have:=dl12 r;rw [Ah];show _+1+_<=10000;omega) fun x2 J10 _ s10 q10=>?_
   have A11:=(A10.same s9).same s10
   refine ⟨_,rfl,_,rfl,_,rfl,qH A11.er fun l11 J11 _ s11 q11=>?_⟩
   refine ⟨_,rfl,_,rfl,(by show 2<=sizeLine;decide),fun l12 n_l12=>?_⟩
   have s12:=aj (o:=.lst [V.str z7,.str z8]) n_l12
   have q12:(ax J11 l12 (.lst [V.str z7,.str z8])) l12=some (.lst [V.str z7,.str z8]):=ad
   generalize ax J11 l12 (.lst [V.str z7,.str z8])=J12 at *
   refine dX (s12 _ _ q11) q12 (by show _+2<=10000;omega) fun x3 J13 _ s13 q13=>?_
   refine ⟨(by show 3<=sizeLine;decide),fun ls n_ls=>?_⟩
   have s14:=aj (o:=.lst [V.ref x1,.ref x2,.ref x3]) n_ls
   have q14:(ax J13 ls (.lst [V.ref x1,.ref x2,.ref x3])) ls=some (.lst [V.ref x1,.ref x2,.ref x3]):=ad
   generalize ax J13 ls (.lst [V.ref x1,.ref x2,.ref x3])=J14 at *
   have A14:=((((A11.same s11).same s12).same s13).same s14)
   have t1013:=((s11.trans s12).trans s13).trans s14
   have t513:=(((((s6.trans s7).trans s8).trans s9).trans s10)).trans t1013
   have B14:But p H J14:=(((((B7.same s1).same s2').same s3').same s4).same s5).same t513
   have r1:SpO r J14 (.ref x1):=by
    obtain ⟨a,b,c,d⟩:=lZ (rest:=(ts.map aX).drop (r+1)) rt hl lr hz7 (fun x hx=>rg x (List.mem_of_mem_drop hx)) (by rw [A0];omega)
    rw [ig,jQ,c7,fM,c7,Az] at q5
    exact ⟨x1,_,rfl,t513 _ _ q5,a,b,c,d⟩
   have r2:SpO r J14 (.ref x2):=by
    obtain ⟨a,b,c,d⟩:=lZ (rest:=(ts.map aX).drop r) rt hl lr hz7 (fun x hx=>rg x (List.mem_of_mem_drop hx)) (by rw [A0];omega)
    rw [ig,jQ,c7,fM,c7,Az] at q10
    exact ⟨x2,_,rfl,t1013 _ _ q10,a,b,c,d⟩
   have r3:SpO r J14 (.ref x3):=by
    obtain ⟨a,b,c,d⟩:=lZ (rest:=[cp z8]) rt hl lr hz7 (fun x hx=>by rw [AK.mp hx];exact (dW hz8).1) (by simp)
    rw [ig,tj,c7] at q13
    exact ⟨x3,_,rfl,s14 _ _ q13,a,b,c,d⟩
   refine ⟨_,rfl,ls,rfl,⟨_,SqL.of q14⟩,?_⟩
   refine gH (K:=K) (a:=ls) (xs:=[.ref x1,.ref x2,.ref x3]) (fun i σ H'=>∃ v5 v10,σ=[some (.ref p),some (.ref tl),some (.ref rm),some (.ref rw),some (.str (S (TK.jn [10] (ts.map aX)))),v5,some (.int r),some (.str z7),some (.str z8),some (.ref ls),v10,none]/\AF C cT p tl rm rw ts us os H'/\But p H H'/\H' ls=some (.lst [.ref x1,.ref x2,.ref x3])/\SpO r H' (.ref x1)/\SpO r H' (.ref x2)/\SpO r H' (.ref x3)) ⟨_,_,rfl,A14,B14,q14,r1,r2,r3⟩ (fun i σ H' _ ⟨_,_,_,_,_,e,_⟩=>SqL.of e) ?_ ?_
   ·rintro i z σ H8 hz ⟨v5,v10,rfl,A8,B8,els,y1,y2,y3⟩
    have hsp:SpO r H8 z:=by
     match i,hz with
     | 0,h=>cases h;exact y1
     | 1,h=>cases h;exact y2
     | 2,h=>cases h;exact y3
     | i+3,h=>cases h
    obtain ⟨l,rr,rfl,el,rn',rg',rl',rb'⟩:=hsp
    obtain ⟨k1,k2⟩:=ic rg' rl'
    refine ⟨rfl,_,rfl,[10],l,rr,congrArg V.str fG,rfl,SqL.of el,k2,?_⟩
    refine ⟨p,_,_,rfl,fK rn' rg' k1 rb',fun n eo r' H9 s9 er=>?_,fun ts eo=>(nomatch eo)⟩
    cases eo
    refine ⟨_,rfl,(by show 2<=sizeLine;decide),fun t nt=>?_⟩
    have s10:=aj (o:=.tup [.str "bad",.int r]) nt
    have e10:(ax H9 t (.tup [.str "bad",.int r])) t=some (.tup [.str "bad",.int r]):=ad
    generalize ax H9 t (.tup [V.str "bad",.int r])=H10 at *
    exact ie (s10 _ _ er) e10 ⟨_,rfl,bp ⟨_,_,rfl,(A8.same s9).same s10,(B8.same s9).same s10,s10 _ _ (s9 _ _ els),(y1.same s9).same s10,(y2.same s9).same s10,(y3.same s9).same s10⟩⟩
   ·rintro σ H8 ⟨v5,v10,rfl,A8,B8,els,_⟩
    have hz0:("":Str)∈badL:=by decide +kernel
    have ex:∀ z:Str,(S (TK.jn [10] (ts.map aX))++("
":Str))++z=S (TK.jn [10] (ts.map aX++[cp z])):=fun z=>by
     rw [fG,jO rn,<-Az,<-aQ,<-aQ,bo]
    have ex0:S (TK.jn [10] (ts.map aX))++("
":Str)=S (TK.jn [10] (ts.map aX++[cp ""])):=by
     rw [<-ex "",px]
     rw [fG,aQ,aQ,Bd]
    have inp:∀ (z:Str) (H':Hp),z∈badL->Inp p H' (.str (S (TK.jn [10] (ts.map aX++[cp z])))) (.inl ts.length):=fun z H' hz=>by
     obtain ⟨zg,zb⟩:=dW hz
     have hg':∀ x∈ts.map aX++[cp z],ge x:=fun x hx=>by
      rcases AQ.mp hx with hx|hx
      ·exact rg x hx
      ·rw [AK.mp hx];exact zg
     obtain ⟨k1,_⟩:=ic hg' (by rw [Ah];show _+1<=100;omega)
     refine fK (by simp) hg' k1 ?_
     rw [AE]
     have:=gf (r:=[]) rb (by rw [Aj];omega) zb
     rw [Aj,Aj] at this
     exact this
    have jl:(S (TK.jn [10] (ts.map aX))).length+("
":Str).length<=sizeLine:=by rw [ba,show ("
":Str).length=1 from by decide +kernel];exact Aq (show _<=100001 by omega) (by decide)
    have jl7:(S (TK.jn [10] (ts.map aX))++("
":Str)).length+z7.length<=sizeLine:=by
     rw [fG,aQ,ba,Ah,<-cc]
     have:=(hU z7 hz7).2.2.2
     exact Aq (show _<=100100 by show _+1+_<=_;omega) (by decide)
    refine ⟨_,rfl,_,_,rfl,rfl,jl,_,rfl,_,_,rfl,rfl,jl7,?_⟩
    rw [ex z7]
    refine ⟨p,_,_,rfl,inp z7 _ hz7,fun n eo r' H9 s9 er=>?_,fun ts eo=>(nomatch eo)⟩
    cases eo
    have A9:=A8.same s9
    refine ⟨_,rfl,rw,_,rfl,.inl (SqL.of A9.er),(by show 2<=sizeLine;decide),fun t nt=>?_⟩
    rw [xl]
    have s10:=aj (o:=.tup [.str "bad",.int ts.length]) nt
    have e10:(ax H9 t (.tup [.str "bad",.int ts.length])) t=some (.tup [.str "bad",.int ts.length]):=ad
    generalize ax H9 t (.tup [V.str "bad",.int ts.length])=H10 at *
    refine ie (s10 _ _ er) e10 ⟨_,rfl,bp ?_⟩
    refine ⟨_,rfl,_,_,rfl,rfl,jl,?_⟩
    rw [ex0]
    refine ⟨p,_,_,rfl,inp "" _ hz0,fun n eo r' H11 s11 er=>?_,fun ts eo=>(nomatch eo)⟩
    cases eo
    have A11:=(A9.same s10).same s11
    refine ⟨_,rfl,rw,_,rfl,.inl (SqL.of A11.er),(by show 2<=sizeLine;decide),fun t nt=>?_⟩
    rw [xl]
    have s12:=aj (o:=.tup [.str "bad",.int ts.length]) nt
    have e12:(ax H11 t (.tup [.str "bad",.int ts.length])) t=some (.tup [.str "bad",.int ts.length]):=ad
    generalize ax H11 t (.tup [V.str "bad",.int ts.length])=H12 at *
    refine ie (s12 _ _ er) e12 ⟨_,rfl,bp ?_⟩
    have A12:=A11.same s12
    have B12:But p H H12:=(((B8.same s9).same s10).same s11).same s12
    refine ⟨_,rfl,_,rfl,rw,_,rfl,.inl ⟨SqL.of A12.er,fun tp ntp=>?_⟩⟩
    have s13:=aj (o:=.tup (rsV (ts.map aX))) ntp
    have e13:(ax H12 tp (.tup (rsV (ts.map aX)))) tp=some (.tup (rsV (ts.map aX))):=ad
    generalize ax H12 tp (.tup (rsV (ts.map aX)))=H13 at *
    refine fun dd ndd=>?_
    have s14:=aj (o:=.dK []) ndd
    have e14:(ax H13 dd (.dK [])) dd=some (.dK []):=ad
    generalize ax H13 dd (.dK [])=H14 at *
    refine ⟨(by show 6<=sizeLine;decide),fun lt nlt=>?_⟩
    have s15:=aj (o:=.lst [V.non,.int 7,.ref rw,.ref tp,.ref dd,.str ""]) nlt
    have e15:(ax H14 lt (.lst [V.non,.int 7,.ref rw,.ref tp,.ref dd,.str ""])) lt=some (.lst [V.non,.int 7,.ref rw,.ref tp,.ref dd,.str ""]):=ad
    generalize ax H14 lt (.lst [V.non,.int 7,.ref rw,.ref tp,.ref dd,.str ""])=H15 at *
    have A15:=((A12.same s13).same s14).same s15
    refine ⟨_,rfl,p,6,rfl,A15.g,by decide,by decide,fun k H16 lk g16 b16=>?_⟩
    have A16:=A15.but g16 b16
    have B16:But p H H16:=(((B12.same s13).same s14).same s15).trans b16
    have e16:=b16 _ _ e15 (((A12.same s13).same s14).g.ne nlt).symm
    have et16:=b16 _ _ (s15 _ _ (s14 _ _ e13)) ((A12.g.ne ntp).symm)
    have ed16:=b16 _ _ (s15 _ _ e14) (((A12.same s13).g.ne ndd).symm)
    have tgx:∀ H',TgA p H' (rsV (ts.map aX)) (((ts.map aX).map S).map Th.str):=fun H'=>by
     have:=hX p H' ((ts.map aX).map S)
     rw [Bg (g:=V.str)] at this
     exact this
    have inp0:Inp p H16 (.str "") (.inl 0):=by
     have:=fK (p:=p) (H:=H16) (rs:=[cp ""]) (n:=0) (by simp) (fun x hx=>by rw [AK.mp hx];exact (dW hz0).1) (by decide +kernel) (by decide +kernel)
     have e0:S (TK.jn [10] [cp ""])=("":Str):=by decide +kernel
     rw [e0] at this
     exact this
    have thing:∃ v,jU [V.non,.int 7,.ref rw,.ref tp,.ref dd,.str ""] (k:Int)=some v/\Inp p H16 v (.inl 0):=by
     rcases (by omega:k=0\/k=1\/k=2\/k=3\/k=4\/k=5) with rfl|rfl|rfl|rfl|rfl|rfl
     ·exact ⟨_,rfl,.no .non rfl⟩
     ·exact ⟨_,rfl,.no (.int 7) rfl⟩
     ·exact ⟨_,rfl,.no (.lst n3 A16.er (tgx _)) rfl⟩
     ·exact ⟨_,rfl,.no (.tup et16 (tgx _)) rfl⟩
     ·exact ⟨_,rfl,.no (.dct ((A12.same s13).g.ne ndd).symm ed16) rfl⟩
     ·exact ⟨_,rfl,inp0⟩
    obtain ⟨v,ev,inv⟩:=thing
    refine ⟨lt,_,_,_,rfl,rfl,SqL.of e16,ev,?_⟩
    refine ⟨_,rfl,p,v,.inl 0,rfl,inv,fun n eo r' H17 s17 er=>?_,fun ts eo=>(nomatch eo)⟩
    cases eo
    refine ⟨(by show 2<=sizeLine;decide),fun t nt=>?_⟩
    have s18:=aj (o:=.tup [.str "bad",.int 0]) nt
    have e18:(ax H17 t (.tup [.str "bad",.int 0])) t=some (.tup [.str "bad",.int 0]):=ad
    generalize ax H17 t (.tup [V.str "bad",.int 0])=H18 at *
    refine qG (s18 _ _ er) e18 ⟨_,rfl,bV ?_⟩
    have A18:=(A16.same s17).same s18
    have B18:=(B16.same s17).same s18
    have los:=A18.pm.length
    refine ⟨_,rfl,rm,rfl,⟨_,SqL.of A18.em⟩,?_⟩
    refine gy (K:=K) (a:=rm) (xs:=os) (fun i ys H'=>Same H18 H'/\ys.length=i/\Paired (RmV p H') ys (ts.take i)) ⟨Same.refl _,rfl,.nil⟩ (fun i ys H' hi ⟨s',e',_⟩=>⟨SqL.of (s' _ _ A18.em),by omega⟩) ?_ ?_
    ·rintro i z ys H19 hz ⟨s19,hl3,pv⟩
     have hlt:i < os.length:=(An.mp hz).1
     obtain ⟨t,et,st⟩:=jH A18.pm hz
     have tk:ts.take (i+1)=ts.take i++[t]:=by rw [Bb,et];rfl
     refine ⟨trivial,cw ⟨_,rfl,rfl,_,rfl,?_⟩⟩
     cases st with
     | non=>
      refine bg (decide_eq_true rfl) ⟨_,rfl,Nx.mk hlt ⟨s19,by rw [Ah,hl3];rfl,?_⟩⟩
      rw [tk]
      exact eO .non pv
     | lit lo=>
      have lo2:=lo.same s19
      have hlit:=lo.lit
      have lo3:=lo2
      cases lo3 with
      | mk a dx tp vs o ss on e e2 ps to ho hl' hs=>
       refine aN (decide_eq_false (by intro z;cases z)) ⟨_,rfl,a,dx,cT,f2,_,fd2,_,_,rfl,e,rfl,L.cls,m2,F2,b2,p,_,_,rfl,lo2,fun r H20 s20 tg=>Nx.mk hlt ⟨s19.trans s20,by rw [Ah,hl3];rfl,?_⟩⟩
       rw [tk]
       exact eO (.lit hlit tg) (L2.Paired.mapP pv fun _ _ h=>h.kp (Kp.of s20))
    ·rintro ys H19 ⟨s19,hl3,pv⟩ D nD
     rw [los,AN] at pv
     have s20:=aj (o:=.lst ys) nD
     have e20:(ax H19 D (.lst ys)) D=some (.lst ys):=ad
     generalize ax H19 D (.lst ys)=H20 at *
     have A20:=(A18.same s19).same s20
     have pv2:Paired (RmV p H20) ys ts:=L2.Paired.mapP pv fun _ _ h=>h.kp (Kp.of s20)
     obtain ⟨a1,a2⟩:=rows_g (K:=K) e20 pv2
     obtain ⟨c1,c2⟩:=rows_g (K:=K) A20.et A20.pt
     refine ⟨_,rfl,_,_,a1.dt,c1.dt,a1.lay,c1.lay,Aq (Nat.min_le_left _ _) (by omega),?_⟩
     rw [a1.eqv]
     exact q _ ((B18.same s19).same s20)
end
end L3
namespace L2
open PySem PySem.Spec PyProof.Rows
section
variable {X:Cx}
theorem tm:dG X (binaryOp .Mult) (fun x y H Q=>∃ (l:List Nat) (n:Nat),x=.str (S l)/\y=.int n/\2<=n/\n<=1000/\1<=l.length/\l.length<=10/\Q (.str (S (List.replicate n l).flatten)) H):=by
 intro pins s σ H x y v u Q I rx ry h
 obtain ⟨l,n,rfl,rfl,h1,h2,h3,h4,q⟩:=h
 obtain ⟨t,rfl⟩:=rx
 obtain ⟨t2,rfl⟩:=ry
 have hl:(S l).length=l.length:=ba l
 have ef:∀ (k:Nat) (acc:List Nat),(List.replicate k (S l).cps).foldl (·++·) acc.toArray=(acc++(List.replicate k l).flatten).toArray:=by
  intro k
  induction k with
  | zero=>intro acc;simp
  | succ k ih=>
   intro acc
   rw [List.replicate_succ,List.foldl_cons]
   have:acc.toArray++(S l).cps=(acc++l).toArray:=by simp [S]
   rw [this,ih,List.replicate_succ,Bn,Az]
 have e0:(⟨(List.replicate n (S l).cps).foldl (·++·) #[]⟩:Str)=S (List.replicate n l).flatten:=by
  have:=ef n []
  rw [Bj] at this
  show (⟨_⟩:Str)=⟨_⟩
  rw [<-this]
 have hm:l.length*n<=10*1000:=Nat.mul_le_mul h4 h2
 have sz:(10000:Nat)<=sizeLine:=by decide
 refine PySem.P.mul_str ?_ ?_ ?_ ?_
 ·simp;omega
 ·intro _ _ hgt
  have:(100:Int)<=(2 ^ 63 - 1) / (n:Int):=by
   rw [Int.le_ediv_iff_mul_le (by omega)]
   omega
  rw [hl] at hgt
  omega
 ·intro _ _
  unfold Builtin.Str.tooLong
  rw [hl]
  simp
  omega
 ·rw [if_neg (by omega),if_neg (by simp;omega)]
  rw [Int.toNat_natCast,e0]
  refine ⟨?_,.str _,H,I.tok _,⟨_,rfl⟩,q⟩
  rw [ba,gx,Nat.mul_comm]
  omega
end
end L2
namespace L3
open PySem L2
def qI (K:PySem.W.Frag):Sp:=fun vs H Q _=>∃ (a:Addr) (ns:List Int),vs=[.ref a]/\SqL K H a (ns.map V.int)/\ns.length<=63/\∀ H',Q (.bl true) H'
theorem tq {p:Addr} {H H2 H3:Hp} (s:Same H H2) (hp:H p=none) (b:But p H2 H3):Same H H3:=fun c u e=>b c u (s c u e) (aJ e hp)
def qJ:Th:=.tup [.tup [],.tup [.str "on",.int (399:Nat)]]
theorem qK:LitT qJ:=⟨[],_,rfl,fun s hs=>(nomatch hs),.on 399 (by decide),by decide⟩
theorem tw:S (aX qJ)=(": on 399":Str):=by decide +kernel
def tsM:List Th:=List.replicate 399 .non++[qJ]
theorem jR:∀ t∈tsM,lY t:=fun t ht=>by
 rcases AQ.mp ht with ht|ht
 ·exact .inl (List.eq_of_mem_replicate ht)
 ·rw [AK.mp ht];exact .inr qK
theorem fN:tsM.length=400:=by unfold tsM;rw [Ah,AW];rfl
theorem mZ (w:List Nat):∀ n,TK.jn [10] (List.replicate n [45]++[w])=(List.replicate n [45,10]).flatten++w
 | 0=>rfl
 | 1=>rfl
 | n+2=>by
  have ih:=mZ w (n+1)
  rw [List.replicate_succ] at ih
  rw [List.replicate_succ,List.replicate_succ,Bf,Bf]
  show [45]++([10]++TK.jn [10] ([45]::List.replicate n [45]++[w]))=_
  rw [ih,List.replicate_succ (n:=n+1),Bn]
  simp
theorem gC:tsM.map aX=List.replicate 399 [45]++[aX qJ]:=by
 unfold tsM
 rw [AE,List.map_replicate]
 rfl
theorem eE {rs:List (List Nat)} (hg:∀ r∈rs,r.length<=20) (hl:rs.length<=900):(TK.jn [10] rs).length<=100000/\(rs.map List.length).sum+rs.length*1<=100000:=by
 have a:=fc 20 rs hg
 have b:=jx [10] rs
 have c:rs.length*([10]:List Nat).length=rs.length:=by show rs.length*1=_;omega
 constructor<;>omega
theorem m5 {ts:List Th} (h:∀ t∈ts,lY t):(∀ x∈ts.map aX,ge x)/\∀ x∈(ts.map aX).map S,cQ x=false:=by
 constructor
 ·intro x hx
  obtain ⟨t,ht,rfl⟩:=AV.mp hx
  exact (cq (h t ht)).1
 ·intro x hx
  obtain ⟨l,hl',rfl⟩:=AV.mp hx
  obtain ⟨t,ht,rfl⟩:=AV.mp hl'
  exact (cq (h t ht)).2.1
theorem gg:∀ x∈tsM.map aX,x.length<=20:=fun x hx=>by
 rw [gC] at hx
 rcases AQ.mp hx with hx|hx
 ·rw [List.eq_of_mem_replicate hx];decide
 ·rw [AK.mp hx];decide +kernel
theorem ye {p:Addr} {H:Hp}:Inp p H (.str (S (TK.jn [10] (tsM.map aX)))) (.inr tsM):=by
 obtain ⟨a,b⟩:=m5 jR
 have:=kG (p:=p) (H:=H) (rs:=tsM.map aX) (by rw [gC];simp) a (eE gg (by rw [Aj,fN];decide)).1 (iW b (by rw [Aj,Aj,fN];decide))
 rw [iX jR] at this
 exact this
theorem vW {p:Addr} {H:Hp}:Inp p H (.str (S (TK.jn [10] (tsM.map aX++[[45]])))) (.inl 400):=by
 obtain ⟨a,b⟩:=m5 jR
 have sh:∀ x∈tsM.map aX++[[45]],x.length<=20:=fun x hx=>by
  rcases AQ.mp hx with hx|hx
  ·exact gg x hx
  ·rw [AK.mp hx];decide
 refine fK (by simp) (fun x hx=>?_) (eE sh (by rw [Ah,Aj,fN];decide)).1 ?_
 ·rcases AQ.mp hx with hx|hx
  ·exact a x hx
  ·rw [AK.mp hx];exact (cq (t:=.non) (.inl rfl)).1
 ·rw [AE]
  exact qF b (by rw [Aj,Aj,fN])
theorem jS (n:Nat):(∀ x∈List.replicate n [45],ge x/\x.length<=20)/\∀ x∈(List.replicate n [45]).map S,cQ x=false:=by
 obtain ⟨a,b,_⟩:=cq (t:=.non) (.inl rfl)
 constructor
 ·intro x hx
  rw [List.eq_of_mem_replicate hx]
  exact ⟨a,by decide⟩
 ·intro x hx
  rw [List.map_replicate] at hx
  rw [List.eq_of_mem_replicate hx]
  exact b
theorem qL {p:Addr} {H:Hp} {r m n:Nat} {z:Str} (hz:z∈badL) (hr:r<=400) (hm:m<=400) (hn:n=r):Inp p H (.str (S (TK.jn [10] (List.replicate r [45]++([cp z]++List.replicate m [45]))))) (.inl n)/\((List.replicate r [45]++([cp z]++List.replicate m [45])).map List.length).sum+(List.replicate r [45]++([cp z]++List.replicate m [45])).length*1<=100000:=by
 obtain ⟨zg,zb⟩:=dW hz
 have zl:=(hU z hz).2.2.2
 have gd:∀ x∈List.replicate r [45]++([cp z]++List.replicate m [45]),ge x/\x.length<=20:=fun x hx=>by
  rcases AQ.mp hx with hx|hx
  ·exact (jS r).1 x hx
  ·rcases AQ.mp hx with hx|hx
   ·rw [AK.mp hx];exact ⟨zg,zl⟩
   ·exact (jS m).1 x hx
 have hlen:(List.replicate r [45]++([cp z]++List.replicate m [45])).length<=900:=by
  simp only [Ah,AW,Ai,Ak];omega
 obtain ⟨k1,k2⟩:=eE (fun x hx=>(gd x hx).2) hlen
 refine ⟨fK (by simp) (fun x hx=>(gd x hx).1) k1 ?_,k2⟩
 rw [AE]
 have:=gf (r:=(List.replicate m [45]).map S) (jS r).2 (by rw [Aj,AW];exact hr) zb
 rw [Aj,AW] at this
 rw [hn]
 exact this
theorem tD {p:Addr} {H:Hp} {z:Str} (hz:z∈badL):Inp p H (.str (S (TK.jn [10] (List.replicate 400 [45]++[cp z])))) (.inl 400)/\((List.replicate 400 [45]++[cp z]).map List.length).sum+(List.replicate 400 [45]++[cp z]).length*1<=100000:=by
 have h:=qL (p:=p) (H:=H) (r:=400) (m:=0) (n:=400) hz (by decide) (by decide) rfl
 exact h
theorem qM (xs:List V) (k:Nat):eG xs (some (k:Int)) (some ((k+1:Nat):Int))=(xs.drop k).take 1:=by
 unfold eG
 have e1:∀ (d k:Nat),HT.sIx xs.length d (some (k:Int))=min k xs.length:=fun d k=>by
  show (if (k:Int) < 0 then ((k:Int)+(xs.length:Int)).toNat else min (k:Int).toNat xs.length)=_
  rw [if_neg (by omega)];rfl
 rw [e1,e1]
 by_cases h:k < xs.length
 ·rw [Bw (by omega),Bw (by omega),Nat.add_sub_cancel_left]
 ·rw [Nat.min_eq_right (by omega),Nat.min_eq_right (by omega),List.drop_eq_nil_of_le (Ao _),List.drop_eq_nil_of_le (by omega),List.take_nil,List.take_nil]
theorem m6 (n:Nat):(List.replicate n [V.str "-"]).flatten=rsV (List.replicate n [45]):=by
 unfold rsV
 rw [List.map_replicate,dash_S]
 induction n with
 | zero=>rfl
 | succ n ih=>rw [List.replicate_succ,Bn,ih];rfl
section
variable {P:Program} {w:World} {K:PySem.W.Frag} {mg:Str->Option Value} {base:Heap} {C fi:Nat->Addr} {R fR cL fL cB cT:Addr}
theorem scLaw:ap ["_law_script","_law_k","_law_many","_law_stream_here","_law_at","_law_rows_here"] ["_law_script"] (al nF):=⟨rfl,rfl,rfl,by decide +kernel,rfl,by decide +kernel,by decide +kernel⟩
set_option maxHeartbeats 4000000 in
theorem vX {f:Addr} {fd:FuncData} (F:Fun K "law" "law" nF f fd) (B:Bl mg) (CL:Fn P w K mg base "_law_cell" 1 ["_law_script","_law_k"] (lJ K)) (ST:Fn P w K mg base "_law_stream" 1 ["_law_cell_here"] gX) (TA:Fn P w K mg base "_law_take" 1 ["_law_stream_here","_law_many"] cJ) (BR:Fn P w K mg base "_law_bad_row" 2 ["_law_stream_here"] spBadRow) (SA:Fn P w K mg base "_law_said" 9 ["_law_text"] (lV C cT)) (AL:Fn P w K mg base "_law_all" 10 ["_law_stream_here"] uf):aG P w K mg base bu 11 f fd ["_law_script"] (qI K):=by
 refine F.ok scLaw (fun vs H Q E h=>?_) (fun cdv A outer s H vs Q E hr h=>?_)
 ·obtain ⟨a,ns,rfl,_⟩:=h
  rfl
 ·obtain ⟨l,ns,rfl,hS,hlen,q⟩:=h
  have hr1:Room 1 _:=hr.mono (by decide)
  have hr2:Room 2 _:=hr.mono (by decide)
  have hr9:Room 9 _:=hr.mono (by decide)
  refine ⟨_,ak (dL PassesOwn.never rfl (dZ rfl B.range (aa (aH (nh rfl) (by rfl) B.max PyProof.Rows.boot_max (aa ae (aa (aH (ni rfl) (by rfl) B.min PyProof.Rows.boot_min (aa (aH aT (by rfl) B.len AR (aa (pv 0) ac)) (aa ae ac))) ac))) ac)) (a7 (i:=1) scLaw.nd rfl (Or.inl rfl))
    (af (aI (c8 (a6 (am AL hr rfl (aa (am ST hr1 rfl (aa (am CL hr1 rfl (aa (pv 0) (aa (pv 1) ac))) ac)) ac)))) (af (ao eJ)) aw)))
   (ak (aR (i:=2) scLaw.nd rfl (Or.inl rfl) (aP aV (aP tm ah ae) ah))
   (ak (aI (PW.pt (cR (av ip (aq au (am SA hr9 rfl (aa (pv 2) ac)) ae (fun _ _=>rfl)) ah (ay _)) (ce (av (op_neD hr) (am SA hr9 rfl (aa (aP aV (pv 2) ah) ac)) (aA (aa ah (aa ae ac))) (ay _))))) (af (ao eJ)) aw)
   (ak (aR (i:=3) scLaw.nd rfl (Or.inl rfl) (am ST hr1 rfl (aa (am CL hr1 rfl (aa (pv 0) (aa ae ac))) ac)))
   (ak (aR (i:=4) scLaw.nd rfl (Or.inl rfl) (am TA hr1 rfl (aa (pv 3) (aa ae ac))))
   (ak (aR (i:=5) scLaw.nd rfl (Or.inl rfl) (aP cH (aP cH (aP oH (bf (aa ah ac)) (pv 4)) (bf (aa (am BR hr2 rfl (aa (pv 3) ac)) ac))) (aP oH (bf (aa ah ac)) ae)))
   (ak (aI (av (op_neD hr) (am SA hr9 rfl (aa (bq Ar AY AX cE ah (aa (pv 5) ac)) ac)) (aA (aa ah (aa (pv 4) ac))) (ay _)) (af (ao eJ)) aw)
   (af (ao (cg (op_eqD hr) (am SA hr9 rfl (aa (bq Ar AY AX cE ah (aa (aP cH (bQ cU (pv 5) (bX (aP du (pv 4) ae)) cx) (bQ cU (pv 5) (bX (pv 4)) (bX (aP du (pv 4) ae)))) ac)) ac)) (aA (aa ah (aa ae ac))) (ay _)))))))))),?_⟩
  refine ⟨_,rfl,l,_,rfl,.inl hS,_,_,rfl,_,_,rfl,_,rfl,?_,?_,?_⟩
  ·split<;>(try split)<;>omega
  ·rw [Aj];split<;>(try split)<;>omega
  refine fQ (lo:=0) (fun i σ H2=>∃ v1:Option V,σ=[some (.ref l),v1,none,none,none,none]/\Same H H2) ⟨_,rfl,Same.refl _⟩ ?_ ?_
  ·rintro i σ H1 hi ⟨v1,rfl,s1⟩
   refine ⟨_,rfl,_,rfl,l,ns,0+(i:Int),rfl,s1.seq hS,by omega,fun c=>⟨c,rfl,fun p H2 np s2 g2=>?_⟩⟩
   exact ⟨p,rfl,g2,fun H3 b3=>⟨_,rfl,bp ⟨_,rfl,s1.trans (tq s2 np b3)⟩⟩⟩
  ·rintro σ H1 ⟨v1,rfl,s1⟩
   have el:((List.replicate 399 [45,10]).flatten++aX qJ).length<=10000:=by
    rw [Ah,gx]
    decide +kernel
   have eM:S (List.replicate 399 [45,10]).flatten++(": on 399":Str)=S (TK.jn [10] (tsM.map aX)):=by
    rw [<-tw,aQ,gC,mZ]
   refine ⟨[45,10],399,congrArg V.str (by decide +kernel),rfl,by decide,by decide,by decide,by decide,_,_,rfl,rfl,?_,?_⟩
   ·rw [ba,gx]
    decide +kernel
   rw [eM]
   refine ⟨_,rfl,l,_,_,rfl,ye,fun n eo=>(nomatch eo),fun ts eo r l2 us H2 s2 er el2 pr=>?_⟩
   refine ⟨r,_,_,_,rfl,rfl,SqT.of er,rfl,rfl,_,rfl,aN (by decide +kernel) ?_⟩
   have jl:(S (TK.jn [10] (tsM.map aX))).length+("\n-":Str).length<=sizeLine:=by
    have:=(eE gg (by rw [Aj,fN];decide)).1
    rw [ba,show ("\n-":Str).length=2 from by decide +kernel]
    exact Aq (show _<=100002 by omega) (by decide)
   refine ⟨_,rfl,_,_,rfl,rfl,jl,?_⟩
   rw [show ("\n-":Str)=S ([10]++[45]) from by decide +kernel,aQ,<-jO (by rw [gC];simp)]
   refine ⟨l,_,_,rfl,vW,fun n eo r' H3 s3 er'=>?_,fun ts eo=>(nomatch eo)⟩
   cases eo
   refine ⟨(by show 2<=sizeLine;decide),fun t nt=>?_⟩
   have s4:=aj (o:=.tup [.str "bad",.int 400]) nt
   have e4:(ax H3 t (.tup [.str "bad",.int 400])) t=some (.tup [.str "bad",.int 400]):=ad
   generalize ax H3 t (.tup [V.str "bad",.int 400])=H4 at *
   refine ie (s4 _ _ er') e4 ⟨_,rfl,bp ?_⟩
   have s14:=((s1.trans s2).trans s3).trans s4
   refine ⟨_,rfl,l,ns,0,rfl,s14.seq hS,by decide,fun c=>⟨c,rfl,fun p H5 np s5 g5=>?_⟩⟩
   refine ⟨_,rfl,p,400,rfl,g5,by decide,by decide,fun r6 H6 lr g6 b6=>?_⟩
   refine ⟨(by show 1<=sizeLine;decide),fun l7 n7=>?_⟩
   have s7:=aj (o:=.lst [.str "-"]) n7
   have e7:(ax H6 l7 (.lst [.str "-"])) l7=some (.lst [.str "-"]):=ad
   have g7:=g6.same s7
   generalize ax H6 l7 (.lst [V.str "-"])=H7 at *
   refine ⟨_,rfl,l7,r6,_,rfl,rfl,e7,by omega,by omega,Aq (show _<=1000 by show 1*r6<=1000;omega) (by decide),fun l8 n8=>?_⟩
   rw [show (Int.toNat (r6:Int))=r6 from rfl,m6]
   have s8:=aj (o:=.lst (rsV (List.replicate r6 [45]))) n8
   have e8:(ax H7 l8 (.lst (rsV (List.replicate r6 [45])))) l8=some (.lst (rsV (List.replicate r6 [45]))):=ad
   have g8:=g7.same s8
   have ne8:=(g7.ne n8).symm
   generalize ax H7 l8 (.lst (rsV (List.replicate r6 [45])))=H8 at *
   refine ⟨_,rfl,p,rfl,g8,fun z H9 hz g9 b9=>⟨(by show 1<=sizeLine;decide),fun l10 n10=>?_⟩⟩
   have s10:=aj (o:=.lst [.str z]) n10
   have e10:(ax H9 l10 (.lst [.str z])) l10=some (.lst [.str z]):=ad
   have g10:=g9.same s10
   generalize ax H9 l10 (.lst [V.str z])=H10 at *
   have lrs:∀ k,(rsV (List.replicate k [45])).length=k:=fun k=>by unfold rsV;rw [Aj,AW]
   refine dX (s10 _ _ (b9 _ _ e8 ne8)) e10 (by rw [lrs];show _+1<=10000;omega) fun l11 H11 n11 s11 e11=>?_
   refine ⟨(by show 1<=sizeLine;decide),fun l12 n12=>?_⟩
   have s12:=aj (o:=.lst [.str "-"]) n12
   have e12:(ax H11 l12 (.lst [.str "-"])) l12=some (.lst [.str "-"]):=ad
   generalize ax H11 l12 (.lst [V.str "-"])=H12 at *
   refine ⟨l12,400,_,rfl,rfl,e12,by decide,by decide,by decide,fun l13 n13=>?_⟩
   rw [show (Int.toNat (400:Int))=400 from rfl,m6]
   have s13:=aj (o:=.lst (rsV (List.replicate 400 [45]))) n13
   have e13:(ax H12 l13 (.lst (rsV (List.replicate 400 [45])))) l13=some (.lst (rsV (List.replicate 400 [45]))):=ad
   generalize ax H12 l13 (.lst (rsV (List.replicate 400 [45])))=H13 at *
   refine dX ((s12.trans s13) _ _ e11) e13 (by rw [Ah,lrs,lrs];show _+1+_<=10000;omega) fun rw H14 n14 s14' e14=>?_
   rw [jQ,c7,c7,Az] at e14
   obtain ⟨i1,k1⟩:=qL (p:=l) (H:=H14) (r:=r6) (m:=400) (n:=r6) hz (by omega) (by omega) rfl
   refine ⟨rfl,_,rfl,[10],rw,_,congrArg V.str fG,rfl,SqL.of e14,k1,?_⟩
   refine ⟨l,_,_,rfl,i1,fun n eo r' H15 s15 er'=>?_,fun ts eo=>(nomatch eo)⟩
   cases eo
   refine ⟨_,rfl,(by show 2<=sizeLine;decide),fun t nt=>?_⟩
   have s16:=aj (o:=.tup [.str "bad",.int r6]) nt
   have e16:(ax H15 t (.tup [.str "bad",.int r6])) t=some (.tup [.str "bad",.int r6]):=ad
   generalize ax H15 t (.tup [V.str "bad",.int r6])=H16 at *
   refine ie (s16 _ _ er') e16 ⟨_,rfl,bp ?_⟩
   have e17:=s16 _ _ (s15 _ _ e14)
   refine ⟨rfl,_,rfl,_,rfl,_,_,rfl,rfl,_,rfl,jP (r:=r6+1) (by omega) e17 fun l18 H18 n18 s18 e18=>?_⟩
   refine ⟨_,rfl,_,rfl,_,rfl,_,rfl,_,_,rfl,rfl,_,rfl,rw,_,rfl,SqL.of (s18 _ _ e17),fun l19 n19=>?_⟩
   have ec:eG (rsV (List.replicate r6 [45]++([cp z]++List.replicate 400 [45]))) (some (r6:Int)) (some ((r6:Int)+1))=rsV [cp z]:=by
    rw [show ((r6:Int)+1)=((r6+1:Nat):Int) from by omega,qM,fM,List.drop_append_of_le_length (by rw [AW];omega),List.drop_eq_nil_of_le (by rw [AW];omega)]
    rfl
   rw [ec]
   have ed:(rsV (List.replicate r6 [45]++([cp z]++List.replicate 400 [45]))).drop (r6+1)=rsV (List.replicate 400 [45]):=by
    rw [fM,<-Az,List.drop_append_of_le_length (by rw [Ah,AW];show _<=_+1;omega),List.drop_eq_nil_of_le (by rw [Ah,AW];show _+1<=_;omega)]
    rfl
   rw [ed] at e18
   have s19:=aj (o:=.lst (rsV [cp z])) n19
   have e19:(ax H18 l19 (.lst (rsV [cp z]))) l19=some (.lst (rsV [cp z])):=ad
   generalize ax H18 l19 (.lst (rsV [cp z]))=H19 at *
   refine dX (s19 _ _ e18) e19 (by rw [lrs];show _+1<=10000;omega) fun l20 H20 n20 s20 e20=>?_
   rw [c7] at e20
   obtain ⟨i2,k2⟩:=tD (p:=l) (H:=H20) hz
   refine ⟨[10],l20,_,congrArg V.str fG,rfl,SqL.of e20,k2,?_⟩
   refine ⟨l,_,_,rfl,i2,fun n eo r' H21 s21 er'=>?_,fun ts eo=>(nomatch eo)⟩
   cases eo
   refine ⟨(by show 2<=sizeLine;decide),fun t nt=>?_⟩
   have s22:=aj (o:=.tup [.str "bad",.int 400]) nt
   have e22:(ax H21 t (.tup [.str "bad",.int 400])) t=some (.tup [.str "bad",.int 400]):=ad
   generalize ax H21 t (.tup [V.str "bad",.int 400])=H22 at *
   exact qG (s22 _ _ er') e22 (q _)
end
end L3
namespace L3
open PySem L2
def aS (K:PySem.W.Frag) (x:Str) (st:Stmt) (f:Addr):Prop:=
 PySem.W.nsIn K mainGlobals x=some (some (.ref f))/\∃ fd:FuncData,Fun K x x st f fd
theorem vY {K:PySem.W.Frag} {x:Str} {st:Stmt} {f:Addr} {oc:Value} {od an:Option Addr} {osl:Array (Option Value)} {kV doc pm cdv ct:Value} (a:PySem.W.nsIn K mainGlobals x=some (some (.ref f)))
  (l:K.lookup f=some ⟨oc,od,.func (PySem.W.fnOf x x (ci st) (bU st) (al st) .none kV doc pm an cdv ct),osl⟩) (c:PySem.W.codeIn K cdv x=true) (k:PySem.W.keepIn K (.ref f)=true):aS K x st f:=⟨a,_,oM l c k⟩
theorem aY {P:Program} {w:World} {K:PySem.W.Frag} {mg:Str->Option Value} {base h:Heap} {x:Str} {st:Stmt} {f:Addr} {k:Nat} {ps:List Str} {sp:Sp} (X:K.In h) (G:h.Ns mainGlobals mg) (D:aS K x st f)
  (hb:∀ (kV doc pm:Value) (an:Option Addr) (cdv ct:Value) (us:List Value),us.length=ps.length->bindArgs (PySem.W.fnOf x x (ci st) (bU st) (al st) .none kV doc pm an cdv ct) ⟨us,[]⟩=pure (ps.zip us))
  (ok:∀ fd,Fun K x x st f fd->aG P w K mg base bu k f fd ps sp):Fn P w K mg base x k ps sp:=by
 obtain ⟨a,fd,F⟩:=D
 exact ⟨f,fd,Ay X G a,F.kp,F.binds hb,ok fd F⟩
structure fO (K:PySem.W.Frag) (x qual:Str) (st:Stmt) (f:Addr):Prop where
 fu:∃ fd:FuncData,Fun K x qual st f fd
 fn:PySem.W.isFn K (.ref f)=true
theorem vZ {K:PySem.W.Frag} {x qual:Str} {st:Stmt} {f:Addr} {oc:Value} {od an:Option Addr} {osl:Array (Option Value)} {kV doc pm cdv ct:Value}
  (l:K.lookup f=some ⟨oc,od,.func (PySem.W.fnOf x qual (ci st) (bU st) (al st) .none kV doc pm an cdv ct),osl⟩) (c:PySem.W.codeIn K cdv qual=true) (k:PySem.W.keepIn K (.ref f)=true) (n:PySem.W.isFn K (.ref f)=true):fO K x qual st f:=⟨⟨_,oM l c k⟩,n⟩
theorem dY {P:Program} {w:World} {K:PySem.W.Frag} {mg:Str->Option Value} {base:Heap} {f:Addr} {x qual:Str} {st:Stmt} {ps:List Str} {sp:Sp} (D:fO K x qual st f)
  (hb:∀ (kV doc pm:Value) (an:Option Addr) (cdv ct:Value) (us:List Value),us.length=ps.length->bindArgs (PySem.W.fnOf x qual (ci st) (bU st) (al st) .none kV doc pm an cdv ct) ⟨us,[]⟩=pure (ps.zip us))
  (ok:∀ fd,Fun K x qual st f fd->aG P w K mg base bu 1 f fd ps sp):∃ fd,aG P w K mg base bu 1 f fd ps sp/\Binds K fd ps []:=by
 obtain ⟨⟨fd,F⟩,n⟩:=D
 exact ⟨fd,ok fd F,F.binds hb⟩
structure yu (K:PySem.W.Frag) (nm:Str) (bm:List Value) (C:Addr):Prop where
 ns:PySem.W.nsIn K mainGlobals nm=some (some (.ref C))
 c:XC K C nm bm
theorem v6 {K:PySem.W.Frag} {nm:Str} {bm:List Value} {C:Addr} {q:Str} {N:Addr} {bs:List Value} {sn:List Str} {sub:List Value} {ab:Bool} {col:Option Bool} {dd:Option Addr} {k0 k1 k2 k3 k5:Option Value} (tl:XB.Tail bm) (a:PySem.W.nsIn K mainGlobals nm=some (some (.ref C))) (l:K.lookup C=some (excClassObj nm q C N bs bm true sn sub ab col dd k0 k1 k2 k3 k5 "ValueError.__new__"))
  (g1:PySem.W.findIn K (.ref C) "__getattribute__"=some (some (.builtin "BaseException.__getattribute__"))) (g2:PySem.W.findIn K (.ref C) "__getattr__"=some none) (g3:PySem.W.findIn K (.ref C) "__setattr__"=some (some (.builtin "object.__setattr__"))) (g4:PySem.W.findIn K (.ref C) "__class__"=some (some (.builtin "object.__class__"))):yu K nm bm C:=
 ⟨a,⟨tl,⟨q,N,bs,sn,sub,ab,col,dd,k0,k1,k2,k3,k5,l⟩,g1,g2,g3,g4⟩⟩
theorem Ad:XB.Tail XB.bmV:=.inl rfl
theorem Ae {R:Addr}:XB.Tail (mV R):=.inr ⟨R,rfl⟩
def NaAll (K:PySem.W.Frag) (c:Addr):List Str->Prop
 | []=>True
 | f::r=>NoAttr K c f/\NaAll K c r
theorem NaAll.get {K:PySem.W.Frag} {c:Addr}:∀ {l:List Str},NaAll K c l->∀ f∈l,NoAttr K c f
 | [],_,f,hf=>absurd hf (by simp)
 | g::r,h,f,hf=>by
  rcases AG.mp hf with rfl|hf
  ·exact h.1
  ·exact NaAll.get h.2 f hf
structure CK (K:PySem.W.Frag) (n:Str) (c i td wd:Addr) (fl:List Str):Prop where
 ns:PySem.W.nsIn K mainGlobals n=some (some (.ref c))
 cls:Cls K c
 na:NaAll K c fl
 mk_:Mk K c i
 td_:PySem.W.findIn K (.ref c) "told"=some (some (.ref td))
 wd_:PySem.W.findIn K (.ref c) "words"=some (some (.ref wd))
theorem yf {K:PySem.W.Frag} {n:Str} {c i td wd:Addr} {fl:List Str} (ns:PySem.W.nsIn K mainGlobals n=some (some (.ref c))) (g1:PySem.W.plainGet K c Str.empty=true) (g2:PySem.W.hasDictIn K c=true) (g3:PySem.W.plainOver K c=true)
  (g4:PySem.W.findIn K (.ref c) "__setattr__"=some (some (.builtin "object.__setattr__"))) (m1:PySem.W.makesIn K c=true) (m2:PySem.W.findIn K (.ref c) "__init__"=some (some (.ref i))) (m3:PySem.W.isFn K (.ref i)=true) (m4:PySem.W.keepIn K (.ref c)=true)
  (h7:PySem.W.findIn K (.ref c) "told"=some (some (.ref td))) (h8:PySem.W.findIn K (.ref c) "words"=some (some (.ref wd))) (na:NaAll K c fl):CK K n c i td wd fl:=
 ⟨ns,⟨g1,g2,g3,g4⟩,na,⟨m1,m2,m3,m4⟩,h7,h8⟩
theorem Af {K:PySem.W.Frag} {c:Addr} {a b:Str} (x:PySem.W.findIn K (.ref c) a=some none) (y:PySem.W.findIn K (.ref c) b=some none):NaAll K c [a,b]:=⟨x,y,trivial⟩
theorem gh:∀ (zs:List Str) (ts:List Tok),ts.length=zs.length->Vals (zs.map V.str) ((zs.zip ts).map fun p=>Value.str p.1 p.2)
 | [],_,_=>.nil
 | z::r,[],h=>by cases h
 | z::r,t::u,h=>.cons ⟨t,rfl⟩ (gh r u (by simpa using h))
theorem bW {P:Program} {w:World} {K:PySem.W.Frag} {mg:Str->Option Value} {base:Heap} {Cc f:Addr} {x qual:Str} {st:Stmt} {k:Nat} {ps:List Str} {sp:Sp} (a:PySem.W.findIn K (.ref Cc) x=some (some (.ref f))) (D:fO K x qual st f)
  (hb:∀ (kV doc pm:Value) (an:Option Addr) (cdv ct:Value) (us:List Value),us.length=ps.length->bindArgs (PySem.W.fnOf x qual (ci st) (bU st) (al st) .none kV doc pm an cdv ct) ⟨us,[]⟩=pure (ps.zip us))
  (ok:∀ fd,Fun K x qual st f fd->aG P w K mg base bu k f fd ps sp):gp P w K mg base Cc x k ps sp:=by
 obtain ⟨⟨fd,F⟩,n⟩:=D
 exact ⟨f,fd,⟨a,n,F.kp⟩,ok fd F,F.binds hb⟩
def kH (a b c d e f g:Addr):Nat->Addr
 | 0=>a
 | 1=>b
 | 2=>c
 | 3=>d
 | 4=>e
 | 5=>f
 | _=>g
theorem wg {p:Nat->Prop} (h0:p 0) (h1:p 1) (h2:p 2) (h3:p 3) (h4:p 4) (h5:p 5) (h6:p 6):∀ k,k < 7->p k:=by
 intro k hk
 rcases (by omega:k=0\/k=1\/k=2\/k=3\/k=4\/k=5\/k=6) with rfl|rfl|rfl|rfl|rfl|rfl|rfl<;>assumption
theorem v7 {w:World} {K:PySem.W.Frag} {a f1 f2 f3 f4 f5 f6 f7 f8 f9:Addr} {t1 t2 t3 t4 t5 t6 t7 t8 t9:Tok} {ep:Nat}
  (h:K.lookup a=some { cls:=.type "dict",data:=.dict #[⟨PyData.keyHash w.params "+",.str "+" t1,.ref f1⟩,⟨PyData.keyHash w.params "-",.str "-" t2,.ref f2⟩,⟨PyData.keyHash w.params "&",.str "&" t3,.ref f3⟩,⟨PyData.keyHash w.params "|",.str "|" t4,.ref f4⟩,⟨PyData.keyHash w.params "^",.str "^" t5,.ref f5⟩,
   ⟨PyData.keyHash w.params "<<",.str "<<" t6,.ref f6⟩,⟨PyData.keyHash w.params ">>",.str ">>" t7,.ref f7⟩,⟨PyData.keyHash w.params "<",.str "<" t8,.ref f8⟩,⟨PyData.keyHash w.params "=",.str "=" t9,.ref f9⟩] ep }) :
  gz w K a [("+",.ref f1),("-",.ref f2),("&",.ref f3),("|",.ref f4),("^",.ref f5),("<<",.ref f6),(">>",.ref f7),("<",.ref f8),("=",.ref f9)]:=
 ⟨_,ep,h,.cons ⟨rfl,⟨_,rfl⟩,rfl⟩ (.cons ⟨rfl,⟨_,rfl⟩,rfl⟩ (.cons ⟨rfl,⟨_,rfl⟩,rfl⟩ (.cons ⟨rfl,⟨_,rfl⟩,rfl⟩ (.cons ⟨rfl,⟨_,rfl⟩,rfl⟩ (.cons ⟨rfl,⟨_,rfl⟩,rfl⟩ (.cons ⟨rfl,⟨_,rfl⟩,rfl⟩ (.cons ⟨rfl,⟨_,rfl⟩,rfl⟩ (.cons ⟨rfl,⟨_,rfl⟩,rfl⟩ .nil))))))))⟩
theorem jT {K:PySem.W.Frag} {a:Addr} {t1 t2 t3 t4 t5 t6 t7 t8 t9 t10 t11 t12 t13 t14 t15 t16 t17 t18 t19 t20 t21 t22:Tok} {n:Nat} (h:K.lookup a=some { cls:=.type "tuple",data:=.seq #[.str "word" t1,.str "cells" t2,.str "depth" t3,.str "places" t4,.str "marks" t5,.str "gate" t6,.str "kind" t7,.str "place" t8,.str "mark" t9,.str "number" t10,.str "row" t11,.str "set" t12,.str "if" t13,.str "else" t14,.str "top" t15,.str "next" t16,.str "go" t17,.str "call" t18,.str "back" t19,.str "stop" t20,.str "fault" t21,.str "bell" t22] n }):∀ H,SqT K H a (ownV):=fun H=>
 .inr ⟨_,_,n,h,rfl,rfl,(by show 22<=sizeLine;decide),gh ["word","cells","depth","places","marks","gate","kind","place","mark","number","row","set","if","else","top","next","go","call","back","stop","fault","bell"] [t1,t2,t3,t4,t5,t6,t7,t8,t9,t10,t11,t12,t13,t14,t15,t16,t17,t18,t19,t20,t21,t22] rfl⟩
theorem il {K:PySem.W.Frag} {a:Addr} {t1 t2:Tok} {n:Nat} (h:K.lookup a=some { cls:=.type "tuple",data:=.seq #[.str "deep" t1,.str "bare" t2] n }):∀ H,SqT K H a (fauS.map V.str):=fun H=>
 .inr ⟨_,_,n,h,rfl,rfl,(by show 2<=sizeLine;decide),gh ["deep","bare"] [t1,t2] rfl⟩
theorem v8 {P:Program} {w:World} {K:PySem.W.Frag} {mg:Str->Option Value} {base h:Heap} {x:Str} {st:Stmt} {f:Addr} {k:Nat} {ps:List Str} {sp:Sp} (X:K.In h) (G:h.Ns mainGlobals mg) (D:aS K x st f)
  (hb:∀ (kV doc pm:Value) (an:Option Addr) (cdv ct:Value) (us:List Value),us.length=ps.length->bindArgs (PySem.W.fnOf x x (ci st) (bU st) (al st) .none kV doc pm an cdv ct) ⟨us,[]⟩=pure (ps.zip us))
  (ok:∀ fd,Fun K x x st f fd->aG P w K mg base (qN P w) k f fd ps sp):zY P w K mg base x k ps sp:=by
 obtain ⟨a,fd,F⟩:=D
 exact ⟨f,fd,Ay X G a,F.kp,F.binds hb,ok fd F⟩
theorem tE {K:PySem.W.Frag} {c:Addr} (t:PySem.W.typeIn K (.ref c)=some (.type "type")) (i:PySem.W.isClsIn K c=true):PySem.W.kitOne K (.type "NoneType") (.ref c)=some false:=by
 have i':(PySem.W.clsIn K c).isSome=true:=i
 unfold PySem.W.kitOne
 rw [if_neg (by simp)]
 unfold PySem.W.kitCls
 dsimp only
 rw [if_pos (by rw [i',t];rfl)]
 rfl
set_option maxHeartbeats 8000000 in
theorem v9 {l:PySem.W.OpenLaw} {w:World} {K:PySem.W.Frag} {h:Heap} {mg:Str->Option Value} {fa aW aF aO R fR cB cL fL cT iT qT wT f0 f1 f2 f3 f4 f5 f6 f7 f8 f9 f10 f11 f12 f13 f14 f15 f16 f17 f18 f19 f20 f21 f22 f23 f24 f25 f26 f27 f28 f29 f30 f31 f32 f33 f34 f35 f36 f37 f38 f39 f40 f41 f42 f43 f44 f45 f46 f47 f48 f49 f50 c0 i0 q0 w0 c1 i1 q1 w1 c2 i2 q2 w2 c3 i3 q3 w3 c4 i4 q4 w4 c5 i5 q5 w5 c6 i6 q6 w6 e1 e2 e3 e4 e5 e6 e7 e8 e9:Addr} {kL kF kN k_HIGHEST_INNER k_HIGHEST_WORD k_HIGHEST_FIELD k_HIGHEST_SELECTED k_HIGHEST_ADDRESS k_MOST_STEPS k_LONGEST_NAME k_MOST_FIGURES k_MOST_ADDRESSES:Tok} (X:K.In h) (G:h.Ns mainGlobals mg) (hfa:mg "law"=some (.ref fa))
  (d0:aS K "number_of" jp f0)
  (d1:aS K "is_whole" le f1)
  (d2:aS K "is_within" jg f2)
  (d3:aS K "is_name" mv f3)
  (d4:aS K "ops_told" uN f4)
  (d5:aS K "is_headed" jh f5)
  (d6:aS K "is_inner" lf f6)
  (d7:aS K "is_field" lh f7)
  (d8:aS K "is_address" pe f8)
  (d9:aS K "is_sel" uO f9)
  (d10:aS K "is_source" ji f10)
  (d11:aS K "is_step" jj f11)
  (d12:aS K "is_end" lp f12)
  (d13:aS K "is_way_on" lv f13)
  (d14:aS K "is_little" ej f14)
  (d15:aS K "source_words" uQ f15)
  (d16:aS K "place_words" uR f16)
  (d17:aS K "mark_words" uS f17)
  (d18:aS K "step_of" jk f18)
  (d19:aS K "on_words" uT f19)
  (d20:aS K "end_words" pj f20)
  (d21:aS K "little_of" eC f21)
  (d22:aS K "show_room" mw f22)
  (d23:aS K "read_room" lA f23)
  (d24:aS K "little_told" mx f24)
  (d25:aS K "step_told" lB f25)
  (d26:aS K "on_told" pk f26)
  (d27:aS K "end_told" lC f27)
  (d28:aS K "inner_told" pq f28)
  (d29:aS K "sel_told" lD f29)
  (d30:aS K "source_told" lE f30)
  (d31:aS K "number_behind" jq f31)
  (d32:aS K "_law_cell" pf f32)
  (d33:aS K "_law_stream" jm f33)
  (d34:aS K "_law_take" ph f34)
  (d35:aS K "_law_sel" pi f35)
  (d36:aS K "_law_source" gV f36)
  (d37:aS K "_law_step" ly f37)
  (d38:aS K "_law_on" uP f38)
  (d39:aS K "_law_little" fq f39)
  (d40:aS K "_law_part_text" jr f40)
  (d41:aS K "_law_step_text" js f41)
  (d42:aS K "_law_on_text" pw f42)
  (d43:aS K "_law_little_text" jt f43)
  (d44:aS K "_law_said" ju f44)
  (d45:aS K "_law_room" lF f45)
  (d46:aS K "_law_made" lG f46)
  (d47:aS K "_law_rows" lH f47)
  (d48:aS K "_law_bad_row" gW f48)
  (d49:aS K "_law_all" rM f49)
  (d50:aS K "law" nF f50)
  (C0:CK K "Get" c0 i0 q0 w0 ["to","sel"]) (I0:fO K "__init__" "Get.__init__" yX i0) (Q0:fO K "told" "Get.told" vo q0) (W0:fO K "words" "Get.words" zu w0)
  (C1:CK K "Ask" c1 i1 q1 w1 ["to","sel"]) (I1:fO K "__init__" "Ask.__init__" yZ i1) (Q1:fO K "told" "Ask.told" vq q1) (W1:fO K "words" "Ask.words" zw w1)
  (C2:CK K "Cell" c2 i2 q2 w2 ["to","source"]) (I2:fO K "__init__" "Cell.__init__" y8 i2) (Q2:fO K "told" "Cell.told" vw q2) (W2:fO K "words" "Cell.words" zy w2)
  (C3:CK K "Two" c3 i3 q3 w3 ["to","op","one","other"]) (I3:fO K "__init__" "Two.__init__" za i3) (Q3:fO K "told" "Two.told" vy q3) (W3:fO K "words" "Two.words" zA w3)
  (C4:CK K "Put" c4 i4 q4 w4 ["sel","source"]) (I4:fO K "__init__" "Put.__init__" zd i4) (Q4:fO K "told" "Put.told" vA q4) (W4:fO K "words" "Put.words" zC w4)
  (C5:CK K "Tell" c5 i5 q5 w5 ["sel","source"]) (I5:fO K "__init__" "Tell.__init__" zf i5) (Q5:fO K "told" "Tell.told" vC q5) (W5:fO K "words" "Tell.words" zE w5)
  (C6:CK K "Store" c6 i6 q6 w6 ["at","source"]) (I6:fO K "__init__" "Store.__init__" zi i6) (Q6:fO K "told" "Store.told" vE q6) (W6:fO K "words" "Store.words" zG w6)
  (CT:CK K "Little" cT iT qT wT ["steps","on"]) (IT:fO K "__init__" "Little.__init__" qi iT) (QT:fO K "told" "Little.told" jI qT) (WT:fO K "words" "Little.words" jJ wT)
  (y1:PySem.W.findIn K (.ref cT) "__class__"=some (some (.builtin "object.__class__"))) (y2:PySem.W.specialIn K (.builtin "object.__class__") "__get__"=some (some (.builtin "getset_descriptor.__get__"))) (y3:PySem.W.takesIn K (.builtin "object.__class__")=some true) (y4:PySem.W.mroIn K cT (.type "object")=some true) (y5:PySem.W.typeIn K (.ref cT)=some (.type "type")) (y6:PySem.W.isClsIn K cT=true)
  (n_HIGHEST_INNER:PySem.W.nsIn K mainGlobals "HIGHEST_INNER"=some (some (.int 7 k_HIGHEST_INNER)))
  (n_HIGHEST_WORD:PySem.W.nsIn K mainGlobals "HIGHEST_WORD"=some (some (.int 16777215 k_HIGHEST_WORD)))
  (n_HIGHEST_FIELD:PySem.W.nsIn K mainGlobals "HIGHEST_FIELD"=some (some (.int 2 k_HIGHEST_FIELD)))
  (n_HIGHEST_SELECTED:PySem.W.nsIn K mainGlobals "HIGHEST_SELECTED"=some (some (.int 3 k_HIGHEST_SELECTED)))
  (n_HIGHEST_ADDRESS:PySem.W.nsIn K mainGlobals "HIGHEST_ADDRESS"=some (some (.int 399 k_HIGHEST_ADDRESS)))
  (n_MOST_STEPS:PySem.W.nsIn K mainGlobals "MOST_STEPS"=some (some (.int 16 k_MOST_STEPS)))
  (n_LONGEST_NAME:PySem.W.nsIn K mainGlobals "LONGEST_NAME"=some (some (.int 8 k_LONGEST_NAME)))
  (n_MOST_FIGURES:PySem.W.nsIn K mainGlobals "MOST_FIGURES"=some (some (.int 9 k_MOST_FIGURES)))
  (n_MOST_ADDRESSES:PySem.W.nsIn K mainGlobals "MOST_ADDRESSES"=some (some (.int 400 k_MOST_ADDRESSES)))
  (n_LETTERS:PySem.W.nsIn K mainGlobals "LETTERS"=some (some (.str rR kL))) (n_FIGURES:PySem.W.nsIn K mainGlobals "FIGURES"=some (some (.str rZ kF))) (n_NO:PySem.W.nsIn K mainGlobals "NO_LITTLE"=some (some (.str "-" kN))) (n_OW:PySem.W.nsIn K mainGlobals "OWN_WORDS"=some (some (.ref aW))) (q_OW:∀ H,SqT K H aW ownV) (n_OF:PySem.W.nsIn K mainGlobals "OWN_FAULTS"=some (some (.ref aF))) (q_OF:∀ H,SqT K H aF (fauS.map V.str))
  (n_OPS:PySem.W.nsIn K mainGlobals "OPS"=some (some (.ref aO))) (dO:gz w K aO [("+",.ref e1),("-",.ref e2),("&",.ref e3),("|",.ref e4),("^",.ref e5),("<<",.ref e6),(">>",.ref e7),("<",.ref e8),("=",.ref e9)]) (lo:(aO == sysModules)=false)
  (xR:yu K "RowsError" XB.bmV R) (rd:PySem.W.readsIn K R (.type "type")=true) (ri:PySem.W.findCls K (.ref R) (.type "type") "__init__"=some (.val (.ref fR))) (mR:fO K "__init__" "RowsError.__init__" jL fR)
  (xL:yu K "BadLine" (mV R) cL) (aL:PySem.W.findIn K (.ref cL) "line"=some none) (iL:PySem.W.findIn K (.ref cL) "__init__"=some (some (.ref fL))) (nL:PySem.W.isFn K (.ref fL)=true) (pL:PySem.W.keepIn K (.ref cL)=true) (mL:fO K "__init__" "BadLine.__init__" jM fL)
  (xB:yu K "BadStep" (mV R) cB)
  (z_len:PySem.W.nsIn K mainGlobals "len"=some none)
  (z_int:PySem.W.nsIn K mainGlobals "int"=some none)
  (z_max:PySem.W.nsIn K mainGlobals "max"=some none)
  (z_min:PySem.W.nsIn K mainGlobals "min"=some none)
  (z_range:PySem.W.nsIn K mainGlobals "range"=some none)
  (z_isinstance:PySem.W.nsIn K mainGlobals "isinstance"=some none)
  (z_list:PySem.W.nsIn K mainGlobals "list"=some none)
  (z_str:PySem.W.nsIn K mainGlobals "str"=some none)
  (z_bool:PySem.W.nsIn K mainGlobals "bool"=some none)
  (z_tuple:PySem.W.nsIn K mainGlobals "tuple"=some none)
  (z_all:PySem.W.nsIn K mainGlobals "all"=some none)
  (z_ValueError:PySem.W.nsIn K mainGlobals "ValueError"=some none)
  (z_enumerate:PySem.W.nsIn K mainGlobals "enumerate"=some none) :
  ∃ fd:FuncData,(∀ (s:Shared) (v:Value),BindsTo s fd ⟨[v],[]⟩ [("_law_script",v)])/\∀ base:Heap,K.In base->base.Ns mainGlobals mg->aG l.prog w K mg base bu 11 fa fd ["_law_script"] (qI K):=by
 have B:Bl mg:=⟨AT X G z_len,AT X G z_int,AT X G z_max,AT X G z_min,AT X G z_range,AT X G z_isinstance,AT X G z_list,AT X G z_str,AT X G z_bool,AT X G z_tuple,AT X G z_all⟩
 have fsv:∃ fs:Str->V,Cst K mg w aO k_HIGHEST_INNER k_HIGHEST_WORD k_HIGHEST_FIELD k_HIGHEST_SELECTED k_HIGHEST_ADDRESS k_MOST_STEPS fs:=⟨fun x=>(([("+",.ref e1),("-",.ref e2),("&",.ref e3),("|",.ref e4),("^",.ref e5),("<<",.ref e6),(">>",.ref e7),("<",.ref e8),("=",.ref e9)]:List (Str×V)).lookup x).getD .non,(Ay X G n_HIGHEST_INNER),(Ay X G n_HIGHEST_WORD),(Ay X G n_HIGHEST_FIELD),(Ay X G n_HIGHEST_SELECTED),(Ay X G n_HIGHEST_ADDRESS),(Ay X G n_MOST_STEPS),(Ay X G n_OPS),dO,lo⟩
 obtain ⟨fs,Z⟩:=fsv
 have CN:wZ K mg aW kL k_LONGEST_NAME:=⟨(Ay X G n_OW),q_OW,(Ay X G n_LETTERS),(Ay X G n_LONGEST_NAME)⟩
 have T:Ct K mg (kH c0 c1 c2 c3 c4 c5 c6) (kH i0 i1 i2 i3 i4 i5 i6):=⟨wg C0.cls C1.cls C2.cls C3.cls C4.cls C5.cls C6.cls,wg C0.na.get C1.na.get C2.na.get C3.na.get C4.na.get C5.na.get C6.na.get,wg C0.mk_ C1.mk_ C2.mk_ C3.mk_ C4.mk_ C5.mk_ C6.mk_,wg (Ay X G C0.ns) (Ay X G C1.ns) (Ay X G C2.ns) (Ay X G C3.ns) (Ay X G C4.ns) (Ay X G C5.ns) (Ay X G C6.ns)⟩
 have TX:Xs K mg R fR cL fL cB:=⟨xR.c,xL.c,xB.c,aL,⟨iL,nL,pL⟩,⟨rd,ri,mR.fu.elim fun _ F=>F.kp⟩,Ay X G xR.ns,Ay X G xL.ns,Ay X G xB.ns,AT X G z_ValueError⟩
 have LC:Lc K cT:=⟨CT.cls,CT.na.1,CT.na.2.1⟩
 have LK:Lk K cT:=⟨y1,y2,y3,y4,tE y5 y6⟩
 have mT:=Ay X G CT.ns
 obtain ⟨a14,fd,F⟩:=d50
 have e:=hfa.symm.trans (Ay X G a14)
 cases e
 obtain ⟨oc,od,kV,doc,pm,an,cdv,ct,osl,rfl,lk,hcd⟩:=id F.ex
 refine ⟨PySem.W.fnOf "law" "law" (ci nF) (bU nF) (al nF) .none kV doc pm an cdv ct,fun s v=>.of_eq rfl,fun base _ _=>?_⟩
 have RI:zL l.prog w K mg base fR:=by
  obtain ⟨⟨fd,F⟩,_⟩:=mR
  exact ⟨fd,F.binds (fun _ _ _ _ _ _ us hl=>match us,hl with|[_,_],_=>rfl),xY F TX⟩
 obtain ⟨⟨fdL,FL0⟩,_⟩:=id mL
 have FL:aG l.prog w K mg base bu 2 fL fdL ["self","line"] (sN cL):=xZ FL0 TX RI
 have BL:Binds K fdL ["self","line"] []:=FL0.binds (fun _ _ _ _ _ _ us hl=>match us,hl with|[_,_],_=>rfl)
 have WH:=aY (P:=l.prog) (w:=w) (base:=base) X G d1 (fun _ _ _ _ _ _ us hl=>match us,hl with|[_],_=>rfl) (fun fd F=>ok_whole F B)
 have WI:=aY (P:=l.prog) (w:=w) (base:=base) X G d2 (fun _ _ _ _ _ _ us hl=>match us,hl with|[_,_,_],_=>rfl) (fun fd F=>ok_within F WH)
 have NM:=aY (P:=l.prog) (w:=w) (base:=base) X G d3 (fun _ _ _ _ _ _ us hl=>match us,hl with|[_],_=>rfl) (fun fd F=>rT F B CN)
 have OP:=aY (P:=l.prog) (w:=w) (base:=base) X G d4 (fun _ _ _ _ _ _ us hl=>match us,hl with|[],_=>rfl) (fun fd F=>ok_ops F B Z)
 have HD:=aY (P:=l.prog) (w:=w) (base:=base) X G d5 (fun _ _ _ _ _ _ us hl=>match us,hl with|[_,_,_],_=>rfl) (fun fd F=>ok_headed F B)
 have IN:=aY (P:=l.prog) (w:=w) (base:=base) X G d6 (fun _ _ _ _ _ _ us hl=>match us,hl with|[_],_=>rfl) (fun fd F=>ok_inner F Z WI)
 have FI:=aY (P:=l.prog) (w:=w) (base:=base) X G d7 (fun _ _ _ _ _ _ us hl=>match us,hl with|[_],_=>rfl) (fun fd F=>ok_field F Z WI)
 have AD:=aY (P:=l.prog) (w:=w) (base:=base) X G d8 (fun _ _ _ _ _ _ us hl=>match us,hl with|[_],_=>rfl) (fun fd F=>ok_addr F Z WI)
 have SE:=aY (P:=l.prog) (w:=w) (base:=base) X G d9 (fun _ _ _ _ _ _ us hl=>match us,hl with|[_],_=>rfl) (fun fd F=>uY F Z WI HD FI)
 have SO:=aY (P:=l.prog) (w:=w) (base:=base) X G d10 (fun _ _ _ _ _ _ us hl=>match us,hl with|[_],_=>rfl) (fun fd F=>nH F Z WI HD FI IN)
 have IS:=aY (P:=l.prog) (w:=w) (base:=base) X G d11 (fun _ _ _ _ _ _ us hl=>match us,hl with|[_],_=>rfl) (fun fd F=>nI F HD IN SE SO OP)
 have EN:=aY (P:=l.prog) (w:=w) (base:=base) X G d12 (fun _ _ _ _ _ _ us hl=>match us,hl with|[_],_=>rfl) (fun fd F=>pF F (Ay X G n_OF) q_OF HD FI NM)
 have WO:=aY (P:=l.prog) (w:=w) (base:=base) X G d13 (fun _ _ _ _ _ _ us hl=>match us,hl with|[_],_=>rfl) (fun fd F=>pG F HD AD IN EN)
 have IL:=aY (P:=l.prog) (w:=w) (base:=base) X G d14 (fun _ _ _ _ _ _ us hl=>match us,hl with|[_],_=>rfl) (fun fd F=>km F B Z IS WO)
 have NO:=aY (P:=l.prog) (w:=w) (base:=base) X G d0 (fun _ _ _ _ _ _ us hl=>match us,hl with|[_],_=>rfl) (fun fd F=>p0 F B (Ay X G n_FIGURES) (Ay X G n_MOST_FIGURES))
 have NB:=aY (P:=l.prog) (w:=w) (base:=base) X G d31 (fun _ _ _ _ _ _ us hl=>match us,hl with|[_,_],_=>rfl) (fun fd F=>vh F NO)
 have IT1:=aY (P:=l.prog) (w:=w) (base:=base) X G d28 (fun _ _ _ _ _ _ us hl=>match us,hl with|[_],_=>rfl) (fun fd F=>sm F NB)
 have ST1:=aY (P:=l.prog) (w:=w) (base:=base) X G d29 (fun _ _ _ _ _ _ us hl=>match us,hl with|[_,_],_=>rfl) (fun fd F=>p4 F NB)
 have SO1:=aY (P:=l.prog) (w:=w) (base:=base) X G d30 (fun _ _ _ _ _ _ us hl=>match us,hl with|[_],_=>rfl) (fun fd F=>p5 F NB NO)
 have ET1:=aY (P:=l.prog) (w:=w) (base:=base) X G d27 (fun _ _ _ _ _ _ us hl=>match us,hl with|[_],_=>rfl) (fun fd F=>p9 F B NB)
 have OT1:=aY (P:=l.prog) (w:=w) (base:=base) X G d26 (fun _ _ _ _ _ _ us hl=>match us,hl with|[_],_=>rfl) (fun fd F=>sD F B NO IT1 ET1)
 have TT1:=aY (P:=l.prog) (w:=w) (base:=base) X G d25 (fun _ _ _ _ _ _ us hl=>match us,hl with|[_],_=>rfl) (fun fd F=>qb F B IT1 ST1 SO1)
 have LT1:=aY (P:=l.prog) (w:=w) (base:=base) X G d24 (fun _ _ _ _ _ _ us hl=>match us,hl with|[_],_=>rfl) (fun fd F=>sE F B OT1 TT1)
 have J0:=dY (P:=l.prog) (w:=w) (mg:=mg) (base:=base) I0 (fun _ _ _ _ _ _ us hl=>match us,hl with|[_,_,_],_=>rfl) (fun fd F=>xq F T)
 have J1:=dY (P:=l.prog) (w:=w) (mg:=mg) (base:=base) I1 (fun _ _ _ _ _ _ us hl=>match us,hl with|[_,_,_],_=>rfl) (fun fd F=>xt F T)
 have J2:=dY (P:=l.prog) (w:=w) (mg:=mg) (base:=base) I2 (fun _ _ _ _ _ _ us hl=>match us,hl with|[_,_,_],_=>rfl) (fun fd F=>xu F T)
 have J3:=dY (P:=l.prog) (w:=w) (mg:=mg) (base:=base) I3 (fun _ _ _ _ _ _ us hl=>match us,hl with|[_,_,_,_,_],_=>rfl) (fun fd F=>xw F T)
 have J4:=dY (P:=l.prog) (w:=w) (mg:=mg) (base:=base) I4 (fun _ _ _ _ _ _ us hl=>match us,hl with|[_,_,_],_=>rfl) (fun fd F=>xy F T)
 have J5:=dY (P:=l.prog) (w:=w) (mg:=mg) (base:=base) I5 (fun _ _ _ _ _ _ us hl=>match us,hl with|[_,_,_],_=>rfl) (fun fd F=>xz F T)
 have J6:=dY (P:=l.prog) (w:=w) (mg:=mg) (base:=base) I6 (fun _ _ _ _ _ _ us hl=>match us,hl with|[_,_,_],_=>rfl) (fun fd F=>xA F T)
 have JT:=dY (P:=l.prog) (w:=w) (mg:=mg) (base:=base) IT (fun _ _ _ _ _ _ us hl=>match us,hl with|[_,_,_],_=>rfl) (fun fd F=>sJ F B CT.cls CT.na.1 CT.na.2.1)
 have PL:=aY (P:=l.prog) (w:=w) (base:=base) X G d16 (fun _ _ _ _ _ _ us hl=>match us,hl with|[_],_=>rfl) (fun fd F=>vk F)
 have ML:=aY (P:=l.prog) (w:=w) (base:=base) X G d17 (fun _ _ _ _ _ _ us hl=>match us,hl with|[_],_=>rfl) (fun fd F=>vm F)
 have SL:=aY (P:=l.prog) (w:=w) (base:=base) X G d15 (fun _ _ _ _ _ _ us hl=>match us,hl with|[_],_=>rfl) (fun fd F=>vn F B)
 have M:zI l.prog w K mg base (kH c0 c1 c2 c3 c4 c5 c6):=⟨T.cls,wg (bW C0.td_ Q0 (fun _ _ _ _ _ _ us hl=>match us,hl with|[_],_=>rfl) (fun fd F=>vp F T)) (bW C1.td_ Q1 (fun _ _ _ _ _ _ us hl=>match us,hl with|[_],_=>rfl) (fun fd F=>vt F T)) (bW C2.td_ Q2 (fun _ _ _ _ _ _ us hl=>match us,hl with|[_],_=>rfl) (fun fd F=>vx F T)) (bW C3.td_ Q3 (fun _ _ _ _ _ _ us hl=>match us,hl with|[_],_=>rfl) (fun fd F=>vz F T)) (bW C4.td_ Q4 (fun _ _ _ _ _ _ us hl=>match us,hl with|[_],_=>rfl) (fun fd F=>vB F T)) (bW C5.td_ Q5 (fun _ _ _ _ _ _ us hl=>match us,hl with|[_],_=>rfl) (fun fd F=>vD F T)) (bW C6.td_ Q6 (fun _ _ _ _ _ _ us hl=>match us,hl with|[_],_=>rfl) (fun fd F=>vF F T)),wg (bW C0.wd_ W0 (fun _ _ _ _ _ _ us hl=>match us,hl with|[_],_=>rfl) (fun fd F=>xN F T PL)) (bW C1.wd_ W1 (fun _ _ _ _ _ _ us hl=>match us,hl with|[_],_=>rfl) (fun fd F=>xO F T ML)) (bW C2.wd_ W2 (fun _ _ _ _ _ _ us hl=>match us,hl with|[_],_=>rfl) (fun fd F=>xP F T SL)) (bW C3.wd_ W3 (fun _ _ _ _ _ _ us hl=>match us,hl with|[_],_=>rfl) (fun fd F=>xQ F T SL)) (bW C4.wd_ W4 (fun _ _ _ _ _ _ us hl=>match us,hl with|[_],_=>rfl) (fun fd F=>xS F T PL SL)) (bW C5.wd_ W5 (fun _ _ _ _ _ _ us hl=>match us,hl with|[_],_=>rfl) (fun fd F=>xT F T ML SL)) (bW C6.wd_ W6 (fun _ _ _ _ _ _ us hl=>match us,hl with|[_],_=>rfl) (fun fd F=>xU F T SL))⟩
 have SF:=aY (P:=l.prog) (w:=w) (base:=base) X G d18 (fun _ _ _ _ _ _ us hl=>match us,hl with|[_],_=>rfl) (fun fd F=>nP F T IS J0 J1 J2 J3 J4 J5 J6)
 have LF:=aY (P:=l.prog) (w:=w) (base:=base) X G d21 (fun _ _ _ _ _ _ us hl=>match us,hl with|[_],_=>rfl) (fun fd F=>kA F IL SF CT.mk_ mT JT)
 have EW:=aY (P:=l.prog) (w:=w) (base:=base) X G d20 (fun _ _ _ _ _ _ us hl=>match us,hl with|[_],_=>rfl) (fun fd F=>sI F)
 have OW:=aY (P:=l.prog) (w:=w) (base:=base) X G d19 (fun _ _ _ _ _ _ us hl=>match us,hl with|[_],_=>rfl) (fun fd F=>vI F EW)
 have MTO:gp l.prog w K mg base cT "told" 2 ["self"] (mU (kH c0 c1 c2 c3 c4 c5 c6) cT):=bW CT.td_ QT (fun _ _ _ _ _ _ us hl=>match us,hl with|[_],_=>rfl) (fun fd F=>qm F B LC M)
 have MWO:gp l.prog w K mg base cT "words" 3 ["self"] (qk (kH c0 c1 c2 c3 c4 c5 c6) cT):=bW CT.wd_ WT (fun _ _ _ _ _ _ us hl=>match us,hl with|[_],_=>rfl) (fun fd F=>qo F B LC M OW)
 have SH:=aY (P:=l.prog) (w:=w) (base:=base) X G d22 (fun _ _ _ _ _ _ us hl=>match us,hl with|[_],_=>rfl) (fun fd F=>sQ F (Ay X G n_NO) LC MWO)
 have RD:=v8 (P:=l.prog) (w:=w) (base:=base) X G d23 (fun _ _ _ _ _ _ us hl=>match us,hl with|[_],_=>rfl) (fun fd F=>qr F B (AT X G z_enumerate) TX (Ay X G n_MOST_ADDRESSES) (Ay X G n_NO) FL BL LT1 IL LF)
 have CL:=aY (P:=l.prog) (w:=w) (base:=base) X G d32 (fun _ _ _ _ _ _ us hl=>match us,hl with|[_,_],_=>rfl) (fun fd F=>rO F B)
 have ST:=aY (P:=l.prog) (w:=w) (base:=base) X G d33 (fun _ _ _ _ _ _ us hl=>match us,hl with|[_],_=>rfl) (fun fd F=>nG F B)
 have TK:=aY (P:=l.prog) (w:=w) (base:=base) X G d34 (fun _ _ _ _ _ _ us hl=>match us,hl with|[_,_],_=>rfl) (fun fd F=>rP F)
 have LSE:=aY (P:=l.prog) (w:=w) (base:=base) X G d35 (fun _ _ _ _ _ _ us hl=>match us,hl with|[_],_=>rfl) (fun fd F=>rW F TK)
 have LSO:=aY (P:=l.prog) (w:=w) (base:=base) X G d36 (fun _ _ _ _ _ _ us hl=>match us,hl with|[_],_=>rfl) (fun fd F=>lK F TK)
 have LST:=aY (P:=l.prog) (w:=w) (base:=base) X G d37 (fun _ _ _ _ _ _ us hl=>match us,hl with|[_],_=>rfl) (fun fd F=>pJ F TK LSO LSE)
 have LON:=aY (P:=l.prog) (w:=w) (base:=base) X G d38 (fun _ _ _ _ _ _ us hl=>match us,hl with|[_,_],_=>rfl) (fun fd F=>vQ F TK)
 have LLI:=aY (P:=l.prog) (w:=w) (base:=base) X G d39 (fun _ _ _ _ _ _ us hl=>match us,hl with|[_,_],_=>rfl) (fun fd F=>lX F B TK LST LON)
 have PT:=aY (P:=l.prog) (w:=w) (base:=base) X G d40 (fun _ _ _ _ _ _ us hl=>match us,hl with|[_,_],_=>rfl) (fun fd F=>qB F B)
 have STX:=aY (P:=l.prog) (w:=w) (base:=base) X G d41 (fun _ _ _ _ _ _ us hl=>match us,hl with|[_],_=>rfl) (fun fd F=>nU F B PT)
 have OTX:=aY (P:=l.prog) (w:=w) (base:=base) X G d42 (fun _ _ _ _ _ _ us hl=>match us,hl with|[_],_=>rfl) (fun fd F=>sV F B)
 have LTX:=aY (P:=l.prog) (w:=w) (base:=base) X G d43 (fun _ _ _ _ _ _ us hl=>match us,hl with|[_],_=>rfl) (fun fd F=>qD F B STX OTX)
 have SA:=aY (P:=l.prog) (w:=w) (base:=base) X G d44 (fun _ _ _ _ _ _ us hl=>match us,hl with|[_],_=>rfl) (fun fd F=>qz F B TX mT LC LK MTO RD)
 have RO:=aY (P:=l.prog) (w:=w) (base:=base) X G d45 (fun _ _ _ _ _ _ us hl=>match us,hl with|[_],_=>rfl) (fun fd F=>ok_lRoom F B TK LLI)
 have MA:=aY (P:=l.prog) (w:=w) (base:=base) X G d46 (fun _ _ _ _ _ _ us hl=>match us,hl with|[_],_=>rfl) (fun fd F=>sX F LF)
 have RW:=aY (P:=l.prog) (w:=w) (base:=base) X G d47 (fun _ _ _ _ _ _ us hl=>match us,hl with|[_],_=>rfl) (fun fd F=>sY F LTX)
 have BR:=aY (P:=l.prog) (w:=w) (base:=base) X G d48 (fun _ _ _ _ _ _ us hl=>match us,hl with|[_],_=>rfl) (fun fd F=>ok_badRow F B TK)
 have AL:=aY (P:=l.prog) (w:=w) (base:=base) X G d49 (fun _ _ _ _ _ _ us hl=>match us,hl with|[_],_=>rfl) (fun fd F=>vV F B LC TK RO MA RW SH SA BR MTO)
 exact vX F B CL ST TK BR SA AL
end L3
namespace L3
open PySem L2
theorem Ag {K:PySem.W.Frag} {c:Addr} {a b d e:Str} (x:PySem.W.findIn K (.ref c) a=some none) (y:PySem.W.findIn K (.ref c) b=some none) (z:PySem.W.findIn K (.ref c) d=some none) (u:PySem.W.findIn K (.ref c) e=some none):NaAll K c [a,b,d,e]:=⟨x,y,z,u,trivial⟩
end L3
namespace PySem.W.Fast
def tw13113801602388051008:Nat:=0
def tw11678382903245896427:Nat:=0
def tw6378177344967381620:Nat:=0
def tw13998252256925654604:Nat:=0
def tw9103865104121538907:Nat:=0
def tw2366769467827539927:Nat:=0
def tw15790715437591279838:Nat:=0
def tw11584757063974620637:Nat:=0
def tw15823991770591132656:Nat:=0
def tw2510459719870995183:Nat:=0
def tw7062138410518890680:Nat:=0
def tw13882521285956239409:Nat:=0
def tw5423507134948758091:Nat:=0
def tw9043364254989440530:Nat:=0
def tw9282268045068579533:Nat:=0
def tw16231393181670774800:Nat:=0
def tw2686578332858463868:Nat:=0
def tw1868176273855027113:Nat:=0
def tw14311228765354023474:Nat:=0
def tw13387650780735989000:Nat:=0
def tw11082149088239564556:Nat:=0
def tw4723991938114208755:Nat:=0
def tw18429139690367001889:Nat:=0
def tw8866255084721361936:Nat:=0
def tw11192065316967392253:Nat:=0
def tw16285667647220850546:Nat:=0
def tw4260316089888417022:Nat:=0
def tw14671416872379058641:Nat:=0
def tw13043442805271781233:Nat:=0
def tw3142773110841567315:Nat:=0
def tw7376780176193524837:Nat:=0
def tw12780479159280947939:Nat:=0
def tw13331027131795599462:Nat:=0
def tw2066617708696955840:Nat:=0
def tw16468087862013623316:Nat:=0
def tw12920532761519408760:Nat:=0
def tw8859813514233700444:Nat:=0
def tw9319532651380733538:Nat:=0
def tw14897623637854666650:Nat:=0
def tw412054418234779829:Nat:=0
def tw7793776856624619029:Nat:=0
def tw17412081465063776823:Nat:=0
def tw6806579328501653122:Nat:=0
def tw5554919356029298001:Nat:=0
def tw5833994825090057204:Nat:=0
def tw16393910194421971587:Nat:=0
def tw16247838989808261755:Nat:=0
def tw3551401052275846789:Nat:=0
def tw17947396378896059347:Nat:=0
def tw16891989304571376114:Nat:=0
def tw4975437937134419100:Nat:=0
def tw15412437481312619895:Nat:=0
def tw8469507974453669057:Nat:=0
def tw7610705114429460270:Nat:=0
def tw14768798752142948022:Nat:=0
def tw10079188208246620458:Nat:=0
def tw18057896173246827046:Nat:=0
def tw4126691475105895934:Nat:=0
def tw6310937056935972481:Nat:=0
def tw2562673694942096330:Nat:=0
def tw16708492137777941273:Nat:=0
def tw7159723035560374872:Nat:=0
def tw8610346500561437361:Nat:=0
def tw16871938835439085645:Nat:=0
def tw16405222783816661710:Nat:=0
def tw9677806296124849344:Nat:=0
def tw3116337653173377166:Nat:=0
def tw16318213798342055736:Nat:=0
def tw1646608876304367510:Nat:=0
def tw6294848555324687745:Nat:=0
def tw10167215798639654258:Nat:=0
def tw14028033011999320605:Nat:=0
def tw18152659256420873424:Nat:=0
def tw10819387535304116591:Nat:=0
def tw3669463704143962851:Nat:=0
def tw17186809211886630999:Nat:=0
def tw10676702869940084094:Nat:=0
def tw136258169246533056:Nat:=0
def tw7353479200001722886:Nat:=0
def tw6690425212436124397:Nat:=0
def tw3885410800809534875:Nat:=0
def tw11158823157427639464:Nat:=0
def tw4397215602455948060:Nat:=0
def tw8600528954913558984:Nat:=0
def tw16148735044331137070:Nat:=0
def tw13642374399702028847:Nat:=0
def tw5417066068578270380:Nat:=0
def tw1025305640828700843:Nat:=0
def tw11615369575008428303:Nat:=0
def tw7290314742568401030:Nat:=0
def tw1540970881973165758:Nat:=0
def tw1052150235237206016:Nat:=0
def tw9117944869588204115:Nat:=0
def tw3064893578854509197:Nat:=0
def tw18143518699884388515:Nat:=0
def tw3612040115913457887:Nat:=0
def tw5287823780084595879:Nat:=0
def tw17935555514344173062:Nat:=0
def tw5446314022339611901:Nat:=0
def tw13848887351887482948:Nat:=0
def tw10367359413492158541:Nat:=0
def tw17703444536187736441:Nat:=0
def tw6398218629638648176:Nat:=0
def tw5058850214596872425:Nat:=0
def tw11943597622506611137:Nat:=0
def tw3122849462967130413:Nat:=0
def tw13905339027157144488:Nat:=0
def tw8195716226189308586:Nat:=0
def tw9270882296404708429:Nat:=0
def tw4232755225911815600:Nat:=0
def tw5753448357509332338:Nat:=0
def tw6850397440368254697:Nat:=0
def tw854048455075095560:Nat:=0
def tw13227620774297031279:Nat:=0
def tw17048475771117197851:Nat:=0
def tw4687588521260336268:Nat:=0
def tw12786521591500294251:Nat:=0
def tw14199448576322959526:Nat:=0
def tw858650664234334850:Nat:=0
def tw3314102301551243181:Nat:=0
def tw16237457996459064781:Nat:=0
def tw5804458525174567277:Nat:=0
def tw17536817226850108794:Nat:=0
def tw18387205622917815407:Nat:=0
def tw14747584453897883340:Nat:=0
def tw13044792825541428203:Nat:=0
def tw16257365447356956584:Nat:=0
def tw13679543019191044494:Nat:=0
def tw4080823064031200968:Nat:=0
def tw3133230993876857556:Nat:=0
def tw2502435093405854418:Nat:=0
def tw16915714615807776927:Nat:=0
def tw4446165748636277026:Nat:=0
def tw8595999361219370375:Nat:=0
def tw13290781692928315578:Nat:=0
def tw10203481966139119754:Nat:=0
def tw13090105264689062440:Nat:=0
def tw16898932230515449408:Nat:=0
def tw5236485276861807374:Nat:=0
def tw13767858758852298662:Nat:=0
def tw478609942603055033:Nat:=0
def tw17409598574988096802:Nat:=0
def tw7750626233226091826:Nat:=0
def tw17377369298176723926:Nat:=0
def tw16026144314539847933:Nat:=0
def tw4955553166089007848:Nat:=0
def tw245643696990791721:Nat:=0
def tw2497823029036506217:Nat:=0
def tw3295162736821080447:Nat:=0
def tw18283570018952455015:Nat:=0
def tw8860989505949286896:Nat:=0
def tw9324854978462807378:Nat:=0
def tw6523935801926954039:Nat:=0
def tw6193476491355026936:Nat:=0
def tw3420896928266706414:Nat:=0
def tw18094800829591591523:Nat:=0
def tw15346008790570475627:Nat:=0
def tw9023566365801701420:Nat:=0
def tw7603557470450250209:Nat:=0
def tw17776417342546710318:Nat:=0
def tw9169767037243508352:Nat:=0
def tw3791177960456254810:Nat:=0
def tw7994089714088895117:Nat:=0
def tw5413877780375150185:Nat:=0
def tw14130796476448338241:Nat:=0
def tw11005806706967105073:Nat:=0
def tw11929557883181157503:Nat:=0
def tw3136883606486379319:Nat:=0
def tw3918189027176922273:Nat:=0
def tw11607683123170738950:Nat:=0
def tw1060121715610682574:Nat:=0
def tw3932105370147393533:Nat:=0
def tw15660046975402086003:Nat:=0
def tw11620273131250501305:Nat:=0
def tw8070248218322089141:Nat:=0
def tw1128722764023302698:Nat:=0
def tw3438159417298034703:Nat:=0
def tw11519913576711968951:Nat:=0
def tw5864991772189533873:Nat:=0
def tw12154798222268286519:Nat:=0
def tw18216028791701486574:Nat:=0
def tw5719456085467693000:Nat:=0
def tw15709334782095414512:Nat:=0
def tw16225042575701180955:Nat:=0
def tw15389777234599175649:Nat:=0
def tw4443609891464273394:Nat:=0
def tw7614415365259598875:Nat:=0
def tw9721916705372913740:Nat:=0
def tw15562998918815385556:Nat:=0
def tw1061041813185604281:Nat:=0
def tw2080332844357730051:Nat:=0
def tw15382594870279063955:Nat:=0
def tw453300178847469035:Nat:=0
def tw300209191941457925:Nat:=0
def tw921383057908694615:Nat:=0
def tw8961618353842220683:Nat:=0
def tw851510076231296498:Nat:=0
def tw3701641562412529194:Nat:=0
def tw1385382341516066342:Nat:=0
def tw12496552688495340326:Nat:=0
def tw8479983822740915583:Nat:=0
def tw7965968079636199107:Nat:=0
def tw15191739076599098647:Nat:=0
def tw5246320778966153662:Nat:=0
def tw4183854523265387688:Nat:=0
def tw1260261906016045470:Nat:=0
def tw10711194460754764581:Nat:=0
def tw8822494437738783560:Nat:=0
def tw7234058872255348519:Nat:=0
def tw12697480259205036162:Nat:=0
def tw9573478822075490168:Nat:=0
def tw13685284503761191954:Nat:=0
def tw8727386630600370965:Nat:=0
def tw8270309200286429925:Nat:=0
def tw3794974706868830594:Nat:=0
def tw14315037098222353511:Nat:=0
def tw615917458333413601:Nat:=0
def tw10382040822974878155:Nat:=0
def tw14202999885702650846:Nat:=0
def tw10775585163413732360:Nat:=0
def tw9934210212770645488:Nat:=0
def tw7741531482604396804:Nat:=0
def tw3069079144560787131:Nat:=0
def tw5715484228527929586:Nat:=0
def tw5927565452516493503:Nat:=0
def tw16202000494073423050:Nat:=0
def tw2926119462544474326:Nat:=0
def tw12105815617808199469:Nat:=0
def tw5183954874665755728:Nat:=0
def tw14348310382598262243:Nat:=0
def tw12299737092136632817:Nat:=0
def tw1215500451773134060:Nat:=0
def tw11324961065554310107:Nat:=0
def tw8870426921191706811:Nat:=0
def tw9116374596713420387:Nat:=0
def tw10865948810511762794:Nat:=0
def tw11610152808768444412:Nat:=0
def tw7505872412336733724:Nat:=0
def tw5034087736751203083:Nat:=0
def tw4155385012099550472:Nat:=0
def tw9510453897340902621:Nat:=0
def tw7948084931345774671:Nat:=0
def tw12063849160653725490:Nat:=0
def tw246869736811890884:Nat:=0
def tw8084774398663708797:Nat:=0
def tw13445827117229237672:Nat:=0
def tw17434447700896846918:Nat:=0
def tw8606936121189160718:Nat:=0
def tw7308114071597757967:Nat:=0
def tw7928427543800211014:Nat:=0
def tw6586301045460250514:Nat:=0
def tw8954904619494608103:Nat:=0
def tw2288268028758059481:Nat:=0
def tw10271751837852383813:Nat:=0
def tw6062546838928441151:Nat:=0
def tw1717014746915199223:Nat:=0
def tw6426518191323762656:Nat:=0
def tw1006176247068913204:Nat:=0
def tw7695238715214071507:Nat:=0
def tw17143427553328953944:Nat:=0
def tw1141181955341750066:Nat:=0
def tw14715814065491318882:Nat:=0
def tw3034212844500735852:Nat:=0
def tw4118275020090221418:Nat:=0
def tw3285835064710507314:Nat:=0
def tw1235013118454715440:Nat:=0
def tw13181634362517601357:Nat:=0
def tw8950037803343206737:Nat:=0
def tw870466628391881369:Nat:=0
def tw15428651257975760318:Nat:=0
def tw1516882135405752759:Nat:=0
def tw2618684230555792034:Nat:=0
def tw10521427030861794828:Nat:=0
def tw15221921305973754334:Nat:=0
def tw9214908367891525224:Nat:=0
def tw18058944043023684760:Nat:=0
def tw2378195955832623255:Nat:=0
def tw15884510558134102219:Nat:=0
def tw13700676149421957072:Nat:=0
def tw10376632725978610592:Nat:=0
def tw2948577958314857933:Nat:=0
def tw14928408004570272542:Nat:=0
def tw13655838630034409100:Nat:=0
def tw423951996614120391:Nat:=0
def tw6446295457498287002:Nat:=0
def tw4358541197049848226:Nat:=0
def tw5256735536271772623:Nat:=0
def tw12207741632224595500:Nat:=0
def tw4460708685915387472:Nat:=0
def tw1109482453850350390:Nat:=0
def tw13137295980056902934:Nat:=0
def tw11397946410200125224:Nat:=0
def tw15974963090293305473:Nat:=0
def tw8662615928701709157:Nat:=0
def tw6590578963206017508:Nat:=0
def tw13136772579880745185:Nat:=0
def tw3589533249944815392:Nat:=0
def tw12361998536844001680:Nat:=0
def tw16680544601136084625:Nat:=0
def tw5543586494297698438:Nat:=0
def tw12525072332758368240:Nat:=0
def tw7222120574344700090:Nat:=0
def tw13023162764985250643:Nat:=0
def tw12704252058363813357:Nat:=0
def tw10718344634612920955:Nat:=0
def tw1038384452621789182:Nat:=0
def tw12432725907434478567:Nat:=0
def tw9113759905184145842:Nat:=0
def tw3921905271101319280:Nat:=0
def tw8583620114924687065:Nat:=0
def tw2984644180700957993:Nat:=0
def tw1950892208028321296:Nat:=0
def tw7753618285583366971:Nat:=0
def tw7972781119520641529:Nat:=0
def tw16342687851062536638:Nat:=0
def tw14507968010075892446:Nat:=0
def tw9538399663173142421:Nat:=0
def tw3371303575464953545:Nat:=0
def tw2070463798183169731:Nat:=0
def tw9506059276403261748:Nat:=0
def tw17599922945968227112:Nat:=0
def tw16677353871218300110:Nat:=0
def tw5736365960262368426:Nat:=0
def tw16390726367944399378:Nat:=0
def tw15900925303656524407:Nat:=0
def tw12109865525811728439:Nat:=0
def tw18364679315944888346:Nat:=0
def tw15777481568657074602:Nat:=0
def tw1826626030181719201:Nat:=0
def tw12235176008325312939:Nat:=0
def tw7680662035721539745:Nat:=0
def tw6557242645553428905:Nat:=0
def tw9008391080618381696:Nat:=0
def tw3145722472843884060:Nat:=0
def tw17882294130573344216:Nat:=0
def tw9414759100728729044:Nat:=0
def tw2078630651127261142:Nat:=0
def tw14797305111039668826:Nat:=0
def tw9873685256579114140:Nat:=0
def tw3930705516911641453:Nat:=0
def tw18199078925419758515:Nat:=0
def tw18064925596248810289:Nat:=0
def tw16885295879438787077:Nat:=0
def tw16730618215061145091:Nat:=0
def tw14954957821338633491:Nat:=0
def tw10764429310621551226:Nat:=0
def tw7848425298822387894:Nat:=0
def tw8587906677420164264:Nat:=0
def tw8313703604598018869:Nat:=0
def tw8205447917116896031:Nat:=0
def tw1411283962992751333:Nat:=0
def tw12877565334291994369:Nat:=0
def tw11787692850998840264:Nat:=0
def tw1008066916157193027:Nat:=0
def tw16573452572355049791:Nat:=0
def tw10748653378293489903:Nat:=0
def tw9084793717569410343:Nat:=0
def tw7826652884033163277:Nat:=0
def tw17889493858837645133:Nat:=0
def tw17619820975959797397:Nat:=0
def tw145593041301798761:Nat:=0
def tw11925162294563984439:Nat:=0
def tw858620760527515290:Nat:=0
def tw5783196629675919463:Nat:=0
def tw4592044627260308941:Nat:=0
def tw1466536308518468874:Nat:=0
def tw9953157225262541359:Nat:=0
def tw14038890575702175297:Nat:=0
def tw4536648683073958703:Nat:=0
def tw9794627793596236854:Nat:=0
def tw5486178067301510008:Nat:=0
def tw2835761895960295176:Nat:=0
def tw8878409443555303228:Nat:=0
def tw5563987859975279430:Nat:=0
def tw1350414888505997844:Nat:=0
def tw8321154549172741085:Nat:=0
def tw6691119252008979964:Nat:=0
def tw365173273677472491:Nat:=0
def tw15131666223718326865:Nat:=0
def tw8793388270488261542:Nat:=0
def tw4952831893045681663:Nat:=0
def tw15392095102403285311:Nat:=0
def tw14841042231057664874:Nat:=0
def tw16831401498624898722:Nat:=0
def tw7570754391380251819:Nat:=0
def tw3855460591354167343:Nat:=0
def tw16476391444291454602:Nat:=0
def tw1570677637683706017:Nat:=0
def tw1549341503597182648:Nat:=0
def tw3818261832559118458:Nat:=0
def tw7496196317717851690:Nat:=0
def tw4914521575403388905:Nat:=0
def tw1469516870927830109:Nat:=0
def tw14054580175863250044:Nat:=0
def tw9339799026176439351:Nat:=0
def tw6767503001539009453:Nat:=0
def tw13096272991656289481:Nat:=0
def tw12016762119488670217:Nat:=0
def tw9467112410743901655:Nat:=0
def tw1065482057093600818:Nat:=0
def tw8936752064356779909:Nat:=0
def tw13733133650018647346:Nat:=0
def tw10421288418989921060:Nat:=0
def tw3655472047210498707:Nat:=0
def tw3104689433009858371:Nat:=0
def tw2707891609816864731:Nat:=0
def tw16200174341999283651:Nat:=0
def tw12607900048518771927:Nat:=0
def tw7012438238397450921:Nat:=0
def tw17150222627692491193:Nat:=0
def tw13223313548763329832:Nat:=0
def tw10581786355328695407:Nat:=0
def tw9641673877276565159:Nat:=0
def tw15973790087818842455:Nat:=0
def tw5751271382180265927:Nat:=0
def tw4173823929238889850:Nat:=0
def tw3889556009387172039:Nat:=0
def tw8057403037576975316:Nat:=0
def tw5148469122741824467:Nat:=0
def tw14269189103132787543:Nat:=0
def tw12364921666729557135:Nat:=0
def tw17750090483302783678:Nat:=0
def tw1570546394295812747:Nat:=0
def tw5889931586184825043:Nat:=0
def tw2987443428589624148:Nat:=0
def tw1189011570973929027:Nat:=0
def tw11544747372333943430:Nat:=0
def tw10365980482671619222:Nat:=0
def tw7355014250651253006:Nat:=0
def tw8384029656344465119:Nat:=0
def tw6972608878282885748:Nat:=0
def tw3880406473030863318:Nat:=0
def tw2282243678005740082:Nat:=0
def tw1808326581588424236:Nat:=0
def tw10417472274879190678:Nat:=0
def tw16857645657164424031:Nat:=0
def tw12603208546669457179:Nat:=0
def tw12360530552036056056:Nat:=0
def tw7074980647309508063:Nat:=0
def tw2894166958684889409:Nat:=0
def tw16080795062097832561:Nat:=0
def tw12593812828341875560:Nat:=0
def tw4076575524570814357:Nat:=0
def tw11935197114339179684:Nat:=0
def tw150251899463167868:Nat:=0
def tw1002252492755747708:Nat:=0
def tw15612953053591987323:Nat:=0
def tw10959593788293508339:Nat:=0
def tw18055319975708629335:Nat:=0
def tw4382951093836285130:Nat:=0
def tw1739693266875019061:Nat:=0
def tw16838489743006992952:Nat:=0
def tw12553440332668879851:Nat:=0
def tw413295401279905561:Nat:=0
def tw11824001215436588559:Nat:=0
def tw17613993333991121798:Nat:=0
def tw2428612532077837172:Nat:=0
def tw10316685499380123147:Nat:=0
def tw4002593494358475975:Nat:=0
def tw368568144231331246:Nat:=0
def tw18165717107409740542:Nat:=0
def tw12367537504804125695:Nat:=0
def tw11600873117954563407:Nat:=0
def tw12744202276840059443:Nat:=0
def tw5332573789909631462:Nat:=0
def tw15602236862153647402:Nat:=0
def tw11462192539881512949:Nat:=0
def tw10158966517812329488:Nat:=0
def tw10410656303365479987:Nat:=0
def tw16014399500558055494:Nat:=0
def tw11280913781923998136:Nat:=0
def tw7418601297586207489:Nat:=0
def tw11968225186333750333:Nat:=0
def tw3743078786367904668:Nat:=0
def tw7732969219786808427:Nat:=0
def tw4930897818002157795:Nat:=0
def tw13342406913921637933:Nat:=0
def tw3874501931905340909:Nat:=0
def tw4929919509785786666:Nat:=0
def tw2346937144787819105:Nat:=0
def tw6194358660839648714:Nat:=0
def tw3501482264210631090:Nat:=0
def tw16489603664060483297:Nat:=0
def tw15497385398433183193:Nat:=0
def tw10779754131515181055:Nat:=0
def tw3060467765705048846:Nat:=0
def tw4772039768523434476:Nat:=0
def tw12243089093301133432:Nat:=0
def tw7286546763968192043:Nat:=0
def tw5085008698790201602:Nat:=0
def tw14095461590072143469:Nat:=0
def tw9143855115190453700:Nat:=0
def tw11352623135423552155:Nat:=0
def tw11051596524820682113:Nat:=0
def tw1010416516752557682:Nat:=0
def tw7282542183436795244:Nat:=0
def tw9810644886973315885:Nat:=0
def tw2409441060209464512:Nat:=0
def tw17097614076280826697:Nat:=0
def tw3625340926027744228:Nat:=0
def tw7769038560594463784:Nat:=0
def tw9824718978693931120:Nat:=0
def tw9597441457061577741:Nat:=0
def tw3125242114874499747:Nat:=0
def tw2778362028752654433:Nat:=0
def tw1946408365656621596:Nat:=0
def tw1772298039486199503:Nat:=0
def tw16623823432163795615:Nat:=0
def tw12436426264469559129:Nat:=0
def tw974178225626072727:Nat:=0
def tw3565356892786007362:Nat:=0
def tw18240310249968150354:Nat:=0
def tw17860548828150334765:Nat:=0
def tw16376222751126364397:Nat:=0
def tw15200723613607665530:Nat:=0
def tw13656059081382860623:Nat:=0
def tw13592351535838338246:Nat:=0
def tw12077882815092512310:Nat:=0
def tw18425949463769993625:Nat:=0
def tw8622537475569378947:Nat:=0
def tw15669627515080357340:Nat:=0
def tw7435766255755934894:Nat:=0
def tw3599750347837228988:Nat:=0
def tw11947843820660055956:Nat:=0
def tw7620656443707931082:Nat:=0
def tw14195138043134545565:Nat:=0
def tw14510769440014744761:Nat:=0
def tw12112300004926935650:Nat:=0
def tw4813006236668764397:Nat:=0
def tw17058527308432650340:Nat:=0
def tw7839371275568291807:Nat:=0
def tw10563728612954739839:Nat:=0
def tw9408537080697221157:Nat:=0
def tw4896726047550307377:Nat:=0
def tw7483112232805616228:Nat:=0
def tw6821245146199435745:Nat:=0
def tw5085422895599457326:Nat:=0
def tw17833240391081352133:Nat:=0
def tw17646158943189023969:Nat:=0
def tw15653495824575708748:Nat:=0
def tw1414782783387277456:Nat:=0
def tw10581050907466075342:Nat:=0
def tw3302514189525500425:Nat:=0
def tw12661331172480698407:Nat:=0
def tw12105229856809980947:Nat:=0
def tw3981278074656127695:Nat:=0
def tw6781735223678965651:Nat:=0
def tw12939873332115556371:Nat:=0
def tw4592063047733638368:Nat:=0
def tw17944181833265662850:Nat:=0
def tw16776854891920446343:Nat:=0
def tw6124769565368846393:Nat:=0
def tw5104722741617011553:Nat:=0
def tw1034205775666705782:Nat:=0
def tw4183964741527037792:Nat:=0
def tw3453444698232600999:Nat:=0
def tw16546321428550116158:Nat:=0
def tw7527032399061897838:Nat:=0
def tw964586003819482172:Nat:=0
def tw16788596865160453976:Nat:=0
def tw16305718537037004752:Nat:=0
def tw1117079367926960492:Nat:=0
def tw3138994824462289660:Nat:=0
def tw3020023535790208412:Nat:=0
def tw12882740697350059402:Nat:=0
def tw2307446016223562510:Nat:=0
def tw8386315677574048313:Nat:=0
def tw12779130692775493708:Nat:=0
def tw8789990148117649366:Nat:=0
def tw7782490412407313386:Nat:=0
def tw8694353024133761343:Nat:=0
def tw8194459728032101953:Nat:=0
def tw6993976752392674992:Nat:=0
def tw6771963512170522603:Nat:=0
def tw5911210227352463990:Nat:=0
def tw5772098378498051546:Nat:=0
def tw4963628279468763073:Nat:=0
def tw4591277863293683558:Nat:=0
def tw4317510148822357218:Nat:=0
def tw2115961920029776199:Nat:=0
def tw12866139896348873580:Nat:=0
def tw974323871344523650:Nat:=0
def tw8661340607764343121:Nat:=0
def tw8649106403395398162:Nat:=0
def tw8512786456400613511:Nat:=0
def tw8500850394786179468:Nat:=0
def tw7891558063482358679:Nat:=0
def tw7845853576923234772:Nat:=0
def tw7756020890447926296:Nat:=0
def tw7671122546410000670:Nat:=0
def tw7502440354787385122:Nat:=0
def tw7309271799933475416:Nat:=0
def tw7305197214353540965:Nat:=0
def tw5635493066334550574:Nat:=0
def tw5036915428257294419:Nat:=0
def tw4579214276084647260:Nat:=0
def tw3957923504894878085:Nat:=0
def tw3765790037766963889:Nat:=0
def tw3221806862314117176:Nat:=0
def tw3195709251559729746:Nat:=0
def tw2882659054043842250:Nat:=0
def tw271941984339044670:Nat:=0
def tw1867919634917871556:Nat:=0
def tw1830225459735304748:Nat:=0
def tw18290263250254964543:Nat:=0
def tw18098625767016763164:Nat:=0
def tw17461278835475628929:Nat:=0
def tw17140769647930122886:Nat:=0
def tw16419060194439244647:Nat:=0
def tw16277430035689959512:Nat:=0
def tw15693928538374223998:Nat:=0
def tw15536743429320378212:Nat:=0
def tw15434428049027216915:Nat:=0
def tw14907334593879376094:Nat:=0
def tw11200436337229798505:Nat:=0
def tw10817583229599351439:Nat:=0
def tw10816681402056070960:Nat:=0
def tw1050476678662607081:Nat:=0
def tw1013598352069837728:Nat:=0
def tw5166390231563824339:Nat:=0
def tw16226539754806910054:Nat:=0
def tw13199970747357562744:Nat:=0
def tw6231855593827169217:Nat:=0
def tw1206045675838867832:Nat:=0
def tw7905849823018441303:Nat:=0
def tw7888257735287310600:Nat:=0
def tw7569831287286571513:Nat:=0
def tw4958724414606982430:Nat:=0
def tw4270714286297042384:Nat:=0
def tw4026393402528950617:Nat:=0
def tw3767130161589404742:Nat:=0
def tw17496959353700470311:Nat:=0
def tw17268692873842924533:Nat:=0
def tw15896666234693913277:Nat:=0
def tw13310025447637716626:Nat:=0
def tw11754060439946006375:Nat:=0
def tw6977256194905930778:Nat:=0
def tw8861527170478172434:Nat:=0
def tw8044899917970285330:Nat:=0
def tw3907941402027344844:Nat:=0
def tw3588392499688892892:Nat:=0
def tw3325536523216515173:Nat:=0
def tw16608477321527202841:Nat:=0
def tw16136125588931382130:Nat:=0
def tw13118956604009534312:Nat:=0
def tw1310549011889344641:Nat:=0
def tw12186115172314528306:Nat:=0
def tw11760888405341137108:Nat:=0
def tw10841135908818916202:Nat:=0
def tw12157591157987279308:Nat:=0
def tw485920685417174131:Nat:=0
def tw2028141587020679266:Nat:=0
def tw17303471020085203481:Nat:=0
def tw16795094633535015893:Nat:=0
def tw14990664947593333164:Nat:=0
def tw14938299750683456703:Nat:=0
def tw14591623452502360078:Nat:=0
def tw12200976038689920952:Nat:=0
def tw12045465977651933824:Nat:=0
def tw7856901534585160942:Nat:=0
def tw4793216218075388247:Nat:=0
def tw3104129321269983037:Nat:=0
def tw3091185094547184341:Nat:=0
def tw17953663480440702063:Nat:=0
def tw17540876647739580120:Nat:=0
def tw17113040090648334096:Nat:=0
def tw15890783675271758243:Nat:=0
def tw13389751308325880012:Nat:=0
def tw11744585383859619652:Nat:=0
def tw11651254931564381069:Nat:=0
def tw1009731297975940640:Nat:=0
def tw9806224134574086744:Nat:=0
def tw9802157338285168203:Nat:=0
def tw978674986558322799:Nat:=0
def tw9779027699979439012:Nat:=0
def tw974717379977159010:Nat:=0
def tw9664263878741494467:Nat:=0
def tw9544011275665596183:Nat:=0
def tw9540417744815538811:Nat:=0
def tw9433087331976161985:Nat:=0
def tw9409035861601948162:Nat:=0
def tw9364304297501009447:Nat:=0
def tw9342692632923012494:Nat:=0
def tw929716445668538474:Nat:=0
def tw9295050305235782183:Nat:=0
def tw9289641534339249366:Nat:=0
def tw9246049843020777048:Nat:=0
def tw9207012818437647648:Nat:=0
def tw9181667746751333153:Nat:=0
def tw9006259051145873075:Nat:=0
def tw9000895018099575364:Nat:=0
def tw89601978626914756:Nat:=0
def tw8873396373002409034:Nat:=0
def tw8717613303314428267:Nat:=0
def tw871418887965474866:Nat:=0
def tw850223736353531945:Nat:=0
def tw849220375067348405:Nat:=0
def tw8471046763598767401:Nat:=0
def tw8389149576549501422:Nat:=0
def tw831202340060697892:Nat:=0
def tw8192574760184246603:Nat:=0
def tw8125975480719117946:Nat:=0
def tw8040091969432910561:Nat:=0
def tw7829264371196323392:Nat:=0
def tw7804719976697671215:Nat:=0
def tw736410578772750720:Nat:=0
def tw6974556475305783416:Nat:=0
def tw6932608020005916257:Nat:=0
def tw6842146580766467570:Nat:=0
def tw682642194373712927:Nat:=0
def tw6778558957221590140:Nat:=0
def tw6543497279510561261:Nat:=0
def tw6510069157734491563:Nat:=0
def tw6369850384241397493:Nat:=0
def tw6320252878208367665:Nat:=0
def tw6292324238171577511:Nat:=0
def tw6252249753480089022:Nat:=0
def tw6219259792903568350:Nat:=0
def tw6119187011050632422:Nat:=0
def tw6099555710419913165:Nat:=0
def tw6027676149494581401:Nat:=0
def tw5993675713085583388:Nat:=0
def tw5989001421576923169:Nat:=0
def tw5969901894630692524:Nat:=0
def tw5853176460177401924:Nat:=0
def tw5836120153103815189:Nat:=0
def tw5788791102848446441:Nat:=0
def tw5602273742128955361:Nat:=0
def tw5512485953821353153:Nat:=0
def tw5441962489564499014:Nat:=0
def tw534841443378545268:Nat:=0
def tw5281311950507194542:Nat:=0
def tw5281212467668843199:Nat:=0
def tw5200795409383904181:Nat:=0
def tw5037826162492126823:Nat:=0
def tw482657512562694232:Nat:=0
def tw4731903786797075405:Nat:=0
def tw4671958169679941662:Nat:=0
def tw4615981947220002091:Nat:=0
def tw4236646859147310089:Nat:=0
def tw4161698923497589491:Nat:=0
def tw3939496487337578283:Nat:=0
def tw3916636114239131381:Nat:=0
def tw3881757874036464225:Nat:=0
def tw3777278714846263168:Nat:=0
def tw3771089005829059093:Nat:=0
def tw3733625099931348492:Nat:=0
def tw3730130342269537729:Nat:=0
def tw3682833315089344418:Nat:=0
def tw3670734550491923886:Nat:=0
def tw3661360754346942614:Nat:=0
def tw3567122104583335698:Nat:=0
def tw3564822681249217354:Nat:=0
def tw3421784710198779934:Nat:=0
def tw3315626185530021471:Nat:=0
def tw3273130336439494420:Nat:=0
def tw3233476435328022673:Nat:=0
def tw3213966984978610625:Nat:=0
def tw3117896299506914081:Nat:=0
def tw3074524892566895472:Nat:=0
def tw3050770427042119304:Nat:=0
def tw2992140424759982947:Nat:=0
def tw2967191182668251562:Nat:=0
def tw2950681244902616746:Nat:=0
def tw2924029576768817692:Nat:=0
def tw2915913957472721604:Nat:=0
def tw290415772989161587:Nat:=0
def tw2876704067565120564:Nat:=0
def tw2851071201981623992:Nat:=0
def tw2790562224533170879:Nat:=0
def tw2790307365936365047:Nat:=0
def tw2778576613974046615:Nat:=0
def tw2686323892778736852:Nat:=0
def tw2590164025405429954:Nat:=0
def tw2447346480137318444:Nat:=0
def tw2289523036638088725:Nat:=0
def tw227069057044148056:Nat:=0
def tw2241540693321214428:Nat:=0
def tw2224938227392744273:Nat:=0
def tw2198476879414201442:Nat:=0
def tw2141586046144534208:Nat:=0
def tw2103307044509566962:Nat:=0
def tw2076100276079035183:Nat:=0
def tw1992227585589317115:Nat:=0
def tw1974713507750351052:Nat:=0
def tw18210429626826163350:Nat:=0
def tw18184309261137029309:Nat:=0
def tw18045028969474609767:Nat:=0
def tw18013668449081251964:Nat:=0
def tw18011106637544372383:Nat:=0
def tw17952581942542879303:Nat:=0
def tw17944343597580715644:Nat:=0
def tw17907127426564316603:Nat:=0
def tw17866494160784018306:Nat:=0
def tw1785220051918084771:Nat:=0
def tw17666888866364968548:Nat:=0
def tw17627195306559393104:Nat:=0
def tw17508812772779832228:Nat:=0
def tw17346794505853860406:Nat:=0
def tw17306440586194688895:Nat:=0
def tw17285993758768206210:Nat:=0
def tw17282406974841518008:Nat:=0
def tw172692319166495948:Nat:=0
def tw17251259537849260093:Nat:=0
def tw17231245227591589193:Nat:=0
def tw17134487944611928441:Nat:=0
def tw17112565604042454777:Nat:=0
def tw17106508089444118590:Nat:=0
def tw17102402191005946459:Nat:=0
def tw17021462842686368717:Nat:=0
def tw17007166273812728678:Nat:=0
def tw16901132659408871339:Nat:=0
def tw16752494049292386270:Nat:=0
def tw16724480954516971872:Nat:=0
def tw16665845898462220919:Nat:=0
def tw16486285262049584981:Nat:=0
def tw16398330704166390688:Nat:=0
def tw16308883543714706358:Nat:=0
def tw16295411395456129347:Nat:=0
def tw16269093922683890114:Nat:=0
def tw16088718962442369333:Nat:=0
def tw15894068094531431799:Nat:=0
def tw15840594785487099358:Nat:=0
def tw15818798606036276204:Nat:=0
def tw15739475583800821516:Nat:=0
def tw15702185258021623316:Nat:=0
def tw15694386791990654319:Nat:=0
def tw15617788845400292126:Nat:=0
def tw15509940517897462188:Nat:=0
def tw15361882201819340576:Nat:=0
def tw1534437813900475467:Nat:=0
def tw15305046281346619633:Nat:=0
def tw15259766913892401603:Nat:=0
def tw151849624785983831:Nat:=0
def tw15177467226186995627:Nat:=0
def tw14993961951493614093:Nat:=0
def tw14986309588296929813:Nat:=0
def tw14930903501323379722:Nat:=0
def tw14883035192733049679:Nat:=0
def tw14791668787037205041:Nat:=0
def tw14743135661845381550:Nat:=0
def tw14734374346903673958:Nat:=0
def tw14691043782107269920:Nat:=0
def tw14507526243212620811:Nat:=0
def tw14484932045562449033:Nat:=0
def tw14429950797522501354:Nat:=0
def tw14376216715300667591:Nat:=0
def tw14374818945745994833:Nat:=0
def tw14346780820577476888:Nat:=0
def tw14300504711421533195:Nat:=0
def tw14286151830379328363:Nat:=0
def tw14145997034203727845:Nat:=0
def tw14137681160462879641:Nat:=0
def tw14092320850453314035:Nat:=0
def tw13843274453761652174:Nat:=0
def tw13660979887603132996:Nat:=0
def tw13658014327536461683:Nat:=0
def tw1361313833182742543:Nat:=0
def tw13565295915083237648:Nat:=0
def tw13409862052225534049:Nat:=0
def tw13382595531079875064:Nat:=0
def tw13186037078632529780:Nat:=0
def tw13126953932835721003:Nat:=0
def tw1307883662732821327:Nat:=0
def tw129441864694505382:Nat:=0
def tw12908788478003834875:Nat:=0
def tw12859829963056624969:Nat:=0
def tw12851015067515647707:Nat:=0
def tw12830701970694962231:Nat:=0
def tw1273505563495173769:Nat:=0
def tw1271817480152652965:Nat:=0
def tw12665881083968410250:Nat:=0
def tw12507346684373433491:Nat:=0
def tw12419695189441361900:Nat:=0
def tw12315522057706392825:Nat:=0
def tw1230059893384277030:Nat:=0
def tw12100520345319469254:Nat:=0
def tw12087802240740130571:Nat:=0
def tw12014453031999953150:Nat:=0
def tw11991345220876418915:Nat:=0
def tw1195315693340683544:Nat:=0
def tw11850467920876306444:Nat:=0
def tw11745985853937130985:Nat:=0
def tw1173842100603136632:Nat:=0
def tw11725870369667003701:Nat:=0
def tw11652202290005182451:Nat:=0
def tw11610576733288420968:Nat:=0
def tw11580694913013590140:Nat:=0
def tw11517466894793164026:Nat:=0
def tw11448107199724397714:Nat:=0
def tw11424908897620746679:Nat:=0
def tw11420757423233799251:Nat:=0
def tw1138601404061092599:Nat:=0
def tw11361720800508159326:Nat:=0
def tw11322071459660540368:Nat:=0
def tw11225247204567233810:Nat:=0
def tw11166423883538132990:Nat:=0
def tw11149607921702556373:Nat:=0
def tw11093402300884370856:Nat:=0
def tw110766276588898845:Nat:=0
def tw11056315512980905179:Nat:=0
def tw10931369665734348052:Nat:=0
def tw1090216100136707541:Nat:=0
def tw10880342978412724608:Nat:=0
def tw10873417131627426762:Nat:=0
def tw10867333901635341068:Nat:=0
def tw10747895377613532584:Nat:=0
def tw10674001440075483034:Nat:=0
def tw10637050991363297571:Nat:=0
def tw10632104871215447475:Nat:=0
def tw10626218400931469337:Nat:=0
def tw10485112936100253507:Nat:=0
def tw10408545012872335336:Nat:=0
def tw10191138533472952893:Nat:=0
def tw10129927670472284822:Nat:=0
def tw101284706809971317:Nat:=0
def tw10116441760441627977:Nat:=0
def tw10038115136147197726:Nat:=0
def tw10019677286608854431:Nat:=0
end PySem.W.Fast
local macro_rules|`(tactic| walk_at "def of the top")=>`(tactic| (refine' L3.vY ?a ?l ?c ?k;(case a=>k_is);(case l=>k_is);(case c=>k_is);(case k=>k_is)))
local macro_rules|`(tactic| walk_at "def of a class")=>`(tactic| (refine' L3.vZ ?l ?c ?k ?n;(case l=>k_is);(case c=>k_is);(case k=>k_is);(case n=>k_is)))
local macro_rules|`(tactic| walk_at "class of steps")=>`(tactic| (refine' L3.yf ?ns ?g1 ?g2 ?g3 ?g4 ?m1 ?m2 ?m3 ?m4 ?h7 ?h8 ?na;(case ns=>k_is);(case g1=>k_is);(case g2=>k_is);(case g3=>k_is);(case g4=>k_is);(case m1=>k_is);(case m2=>k_is);(case m3=>k_is);(case m4=>k_is);(case h7=>k_is);(case h8=>k_is);(case na=>(first|(refine' L3.Af ?x ?y;(case x=>k_is);(case y=>k_is))|(refine' L3.Ag ?x ?y ?z ?u;(case x=>k_is);(case y=>k_is);(case z=>k_is);(case u=>k_is))))))
local macro_rules|`(tactic| walk_at "class of refusals")=>`(tactic| (refine' L3.v6 ?tl ?a ?l ?g1 ?g2 ?g3 ?g4;(case a=>k_is);(case l=>k_is);(case tl=>(first|exact L3.Ae|exact L3.Ad));(case g1=>k_is);(case g2=>k_is);(case g3=>k_is);(case g4=>k_is)))
open PySem PySem.W PyProof.Rows
set_option maxRecDepth 100000 in
set_option maxHeartbeats 0 in
theorem PySem.Challenge.cw_rowsbeneath_k22_rooms_as_texts_holds : PySem.Challenge.rw_rowsbeneath_k22_rooms_as_texts.Holds := by
 w_on;o_law;k_head;(case hw=>w_witness2)
 k_fill
 refine L2.oK (l:=PySem.Challenge.rw_rowsbeneath_k22_rooms_as_texts) (n:=63) (k:=11) (x:="_law_script") (CX:=L2.bu) (sp:=L3.qI) rfl (by decide) rfl ⟨rfl,by decide,by decide⟩ (fun w h Y=>PySem.W.kIn_of Y) ?F (fun _ _ a ns hl _ hS=>⟨a,ns,rfl,hS,hl,fun _=>rfl⟩) (fun _ _ _ _ z=>z)
 case F=>
  intro w mg fa h KX G hmg
  refine' L3.v9 KX G hmg ?d0 ?d1 ?d2 ?d3 ?d4 ?d5 ?d6 ?d7 ?d8 ?d9 ?d10 ?d11 ?d12 ?d13 ?d14 ?d15 ?d16 ?d17 ?d18 ?d19 ?d20 ?d21 ?d22 ?d23 ?d24 ?d25 ?d26 ?d27 ?d28 ?d29 ?d30 ?d31 ?d32 ?d33 ?d34 ?d35 ?d36 ?d37 ?d38 ?d39 ?d40 ?d41 ?d42 ?d43 ?d44 ?d45 ?d46 ?d47 ?d48 ?d49 ?d50 ?C0 ?I0 ?Q0 ?W0 ?C1 ?I1 ?Q1 ?W1 ?C2 ?I2 ?Q2 ?W2 ?C3 ?I3 ?Q3 ?W3 ?C4 ?I4 ?Q4 ?W4 ?C5 ?I5 ?Q5 ?W5 ?C6 ?I6 ?Q6 ?W6 ?CT ?IT ?QT ?WT ?y1 ?y2 ?y3 ?y4 ?y5 ?y6 ?n_HIGHEST_INNER ?n_HIGHEST_WORD ?n_HIGHEST_FIELD ?n_HIGHEST_SELECTED ?n_HIGHEST_ADDRESS ?n_MOST_STEPS ?n_LONGEST_NAME ?n_MOST_FIGURES ?n_MOST_ADDRESSES ?n_LETTERS ?n_FIGURES ?n_NO ?n_OW ?q_OW ?n_OF ?q_OF ?n_OPS ?dO ?lo ?xR ?rd ?ri ?mR ?xL ?aL ?iL ?nL ?pL ?mL ?xB ?z_len ?z_int ?z_max ?z_min ?z_range ?z_isinstance ?z_list ?z_str ?z_bool ?z_tuple ?z_all ?z_ValueError ?z_enumerate
  (case d0=>walk_at "def of the top")
  (case d1=>walk_at "def of the top")
  (case d2=>walk_at "def of the top")
  (case d3=>walk_at "def of the top")
  (case d4=>walk_at "def of the top")
  (case d5=>walk_at "def of the top")
  (case d6=>walk_at "def of the top")
  (case d7=>walk_at "def of the top")
  (case d8=>walk_at "def of the top")
  (case d9=>walk_at "def of the top")
  (case d10=>walk_at "def of the top")
  (case d11=>walk_at "def of the top")
  (case d12=>walk_at "def of the top")
  (case d13=>walk_at "def of the top")
  (case d14=>walk_at "def of the top")
  (case d15=>walk_at "def of the top")
  (case d16=>walk_at "def of the top")
  (case d17=>walk_at "def of the top")
  (case d18=>walk_at "def of the top")
  (case d19=>walk_at "def of the top")
  (case d20=>walk_at "def of the top")
  (case d21=>walk_at "def of the top")
  (case d22=>walk_at "def of the top")
  (case d23=>walk_at "def of the top")
  (case d24=>walk_at "def of the top")
  (case d25=>walk_at "def of the top")
  (case d26=>walk_at "def of the top")
  (case d27=>walk_at "def of the top")
  (case d28=>walk_at "def of the top")
  (case d29=>walk_at "def of the top")
  (case d30=>walk_at "def of the top")
  (case d31=>walk_at "def of the top")
  (case d32=>walk_at "def of the top")
  (case d33=>walk_at "def of the top")
  (case d34=>walk_at "def of the top")
  (case d35=>walk_at "def of the top")
  (case d36=>walk_at "def of the top")
  (case d37=>walk_at "def of the top")
  (case d38=>walk_at "def of the top")
  (case d39=>walk_at "def of the top")
  (case d40=>walk_at "def of the top")
  (case d41=>walk_at "def of the top")
  (case d42=>walk_at "def of the top")
  (case d43=>walk_at "def of the top")
  (case d44=>walk_at "def of the top")
  (case d45=>walk_at "def of the top")
  (case d46=>walk_at "def of the top")
  (case d47=>walk_at "def of the top")
  (case d48=>walk_at "def of the top")
  (case d49=>walk_at "def of the top")
  (case d50=>walk_at "def of the top")
  (case C0=>walk_at "class of steps")
  (case I0=>walk_at "def of a class")
  (case Q0=>walk_at "def of a class")
  (case W0=>walk_at "def of a class")
  (case C1=>walk_at "class of steps")
  (case I1=>walk_at "def of a class")
  (case Q1=>walk_at "def of a class")
  (case W1=>walk_at "def of a class")
  (case C2=>walk_at "class of steps")
  (case I2=>walk_at "def of a class")
  (case Q2=>walk_at "def of a class")
  (case W2=>walk_at "def of a class")
  (case C3=>walk_at "class of steps")
  (case I3=>walk_at "def of a class")
  (case Q3=>walk_at "def of a class")
  (case W3=>walk_at "def of a class")
  (case C4=>walk_at "class of steps")
  (case I4=>walk_at "def of a class")
  (case Q4=>walk_at "def of a class")
  (case W4=>walk_at "def of a class")
  (case C5=>walk_at "class of steps")
  (case I5=>walk_at "def of a class")
  (case Q5=>walk_at "def of a class")
  (case W5=>walk_at "def of a class")
  (case C6=>walk_at "class of steps")
  (case I6=>walk_at "def of a class")
  (case Q6=>walk_at "def of a class")
  (case W6=>walk_at "def of a class")
  (case CT=>walk_at "class of steps")
  (case IT=>walk_at "def of a class")
  (case QT=>walk_at "def of a class")
  (case WT=>walk_at "def of a class")
  (case y1=>k_is)
  (case y2=>k_is)
  (case y3=>k_is)
  (case y4=>k_is)
  (case y5=>k_is)
  (case y6=>k_is)
  (case n_HIGHEST_INNER=>k_is)
  (case n_HIGHEST_WORD=>k_is)
  (case n_HIGHEST_FIELD=>k_is)
  (case n_HIGHEST_SELECTED=>k_is)
  (case n_HIGHEST_ADDRESS=>k_is)
  (case n_MOST_STEPS=>k_is)
  (case n_LONGEST_NAME=>k_is)
  (case n_MOST_FIGURES=>k_is)
  (case n_MOST_ADDRESSES=>k_is)
  (case n_LETTERS=>k_is)
  (case n_FIGURES=>k_is)
  (case n_NO=>k_is)
  (case n_OW=>k_is)
  (case q_OW=>refine' L3.jT ?h;(case h=>k_is))
  (case n_OF=>k_is)
  (case q_OF=>refine' L3.il ?h;(case h=>k_is))
  (case n_OPS=>k_is)
  (case dO=>refine' L3.v7 ?h;(case h=>k_is))
  (case lo=>rfl)
  (case xR=>walk_at "class of refusals")
  (case rd=>k_is)
  (case ri=>k_is)
  (case mR=>walk_at "def of a class")
  (case xL=>walk_at "class of refusals")
  (case aL=>k_is)
  (case iL=>k_is)
  (case nL=>k_is)
  (case pL=>k_is)
  (case mL=>walk_at "def of a class")
  (case xB=>walk_at "class of refusals")
  (case z_len=>k_is)
  (case z_int=>k_is)
  (case z_max=>k_is)
  (case z_min=>k_is)
  (case z_range=>k_is)
  (case z_isinstance=>k_is)
  (case z_list=>k_is)
  (case z_str=>k_is)
  (case z_bool=>k_is)
  (case z_tuple=>k_is)
  (case z_all=>k_is)
  (case z_ValueError=>k_is)
  (case z_enumerate=>k_is)
