import PyProof.Rows.All
import Wide.All
import OpenK.AllK
import Wide.FinOn
import Lean
import PyProof.EqAt
import PyProof.EqKinds
import PyProof.TupleCall
import PySem.Challenge.RW_rowsbeneath_k19_little_texts
set_option Elab.async false
set_option linter.all false
set_option maxRecDepth 100000
section
open PySem PySem.Spec PyProof.Rows
def Bx:=@List.length_cons
def By:=@List.length_append
def Bz:=@List.length_nil
def BA:=@List.cons.inj
def BB:=@Heap.get?_push_of_some
def BC:=@Bool.eq_false_iff
def BD:=@Bool.and_eq_true
def BE:=@List.length_map
def BF:=@List.mem_cons_of_mem
def BG:=@Nat.le_refl
def BH:=@List.mem_cons
def BI:=@Heap.lt_size
def BJ:=@List.mem_cons_self
def BK:=@PySem.F.plainAttrs_str
def BM:=@List.getElem?_eq_some_iff
def BN:=@Nat.le_trans
def BO:=@List.size_toArray
def BP:=@Bool.false_ne_true
def BQ:=@Nat.lt_of_lt_of_le
def BR:=@List.map_cons
def BS:=@PySem.W.mg_of
def BT:=@List.append_assoc
def BU:=@Heap.get?_push_size
def BV:=@List.mem_append_right
def BW:=@List.not_mem_nil
def BX:=@Nat.ne_of_lt
def BY:=@Option.some.inj
def BZ:=@List.length_take
def B0:=@PySem.W.mg_none_of
def B1:=@List.take_length
def B2:=@List.length_drop
def B5:=@PySem.boot_len
def B6:=@List.getElem?_append_left
def B7:=@List.mem_of_getElem?
def B8:=@List.map_append
def B9:=@PySem.F.type_str_join
def Ca:=@PySem.F.slot_str_join
def Cb:=@PySem.W.kia_one
def Cd:=@List.all_eq_true
def Ce:=@Bool.eq_iff_iff
def Cf:=@List.mem_append
def Cg:=@List.lookup_cons
def Ch:=@List.mem_singleton
def Ci:=@Nat.lt_irrefl
def Cj:=@List.cons_append
def Ck:=@List.take_of_length_le
def Cl9:=@List.map_map
def Cm:=@List.getElem?_eq_getElem
def Cn:=@List.mem_map
def Co:=@List.append_nil
def Cp:=@Nat.zero_le
def Cq:=@List.contains_iff_mem
def Cr:=@List.drop_zero
def Cs:=@List.take_succ
def Cu:=@List.nil_append
def Cv:=@PySem.F.type_list_append
def Cw:=@List.getElem?_map
def Cy:=@PySem.F.slot_list_append
def Cz:=@List.filterMap_cons
def CA:=@PySem.mem_of_lookup
def CB:=@PySem.F.plainAttrs_list
def CC:=@PySem.W.callWith_K
def CD:=@List.find?_cons
def CF:=@PyProof.Rows.boot_int
def CG:=@List.mem_append_left
def CH:=@List.mem_range
def CI:=@Array.length_toList
def CJ:=@List.length_pos_iff
def CM:=@List.sum_cons
def CO:=@Calls.callWith_builtin
def CP:=@Heap.size_push
def CQ:=@List.any_cons
def CS:=@List.nodup_cons
def CU:=@Nat.min_eq_left
end
namespace L2
open PySem PySem.Spec PyProof.Rows
abbrev cY:=Sum Int Str
def iH:cY->Value->Bool
 | .inl k,v=>Value.isInt k v
 | .inr x,v=>Value.isStrOf x v
def zD (w:World):cY->Int
 | .inl k=>hashInt k
 | .inr x=>hashStr w x
theorem bx:∀ {k:cY} {v:Value},iH k v=true->(∃ i t,k=Sum.inl i/\v=Value.int i t)\/(∃ x t,k=Sum.inr x/\v=Value.str x t)
 | .inl i,v,h=>by
  obtain ⟨t,e⟩:=Value.isInt_shape (k:=i) (v:=v) h
  exact .inl ⟨i,t,rfl,e⟩
 | .inr x,v,h=>by
  obtain ⟨t,e⟩:=Value.isStrOf_shape (x:=x) (v:=v) h
  exact .inr ⟨x,t,rfl,e⟩
theorem nO (i:Int) (t:Tok):iH (.inl i) (.int i t)=true:=by simp [iH,Value.isInt]
theorem nP (x:Str) (t:Tok):iH (.inr x) (.str x t)=true:=by simp [iH,Value.isStrOf]
theorem uX (a b:Int):decide ((Sum.inl a:cY)=Sum.inl b)=(a == b):=by
 by_cases e:a=b
 ·subst e;simp
 ·have h:¬ (Sum.inl a:cY)=Sum.inl b:=fun q=>e (Sum.inl.inj q)
  rw [decide_eq_false h]
  exact (beq_eq_false_iff_ne.mpr e).symm
theorem uY (a b:Str):decide ((Sum.inr a:cY)=Sum.inr b)=decide (a=b):=by
 by_cases e:a=b
 ·subst e;simp
 ·have h:¬ (Sum.inr a:cY)=Sum.inr b:=fun q=>e (Sum.inr.inj q)
  rw [decide_eq_false h,decide_eq_false e]
theorem uZ (a:Int) (b:Str):decide ((Sum.inl a:cY)=Sum.inr b)=false:=decide_eq_false (fun q=>nomatch q)
theorem u5 (a:Str) (b:Int):decide ((Sum.inr a:cY)=Sum.inl b)=false:=decide_eq_false (fun q=>nomatch q)
def bz (prog:Program) (w:World):PySem.KeyKind prog w cY where
 is:=iH
 hash:=zD w
 inj:=fun v a b ha hb=>by
  rcases bx ha with ⟨i,t,rfl,rfl⟩|⟨x,t,rfl,rfl⟩
  ·rcases bx hb with ⟨j,u,rfl,e⟩|⟨y,u,rfl,e⟩
   ·injection e with e1 _;rw [e1]
   ·exact nomatch e
  ·rcases bx hb with ⟨j,u,rfl,e⟩|⟨y,u,rfl,e⟩
   ·exact nomatch e
   ·injection e with e1 _;rw [e1]
 byValue:=fun k v h=>by
  rcases bx h with ⟨i,t,rfl,rfl⟩|⟨x,t,rfl,rfl⟩<;>rfl
 pyHash:=fun hv h=>by
  rcases bx hv with ⟨i,t,rfl,rfl⟩|⟨x,t,rfl,rfl⟩
  ·exact wpAny_pyHash_int h
  ·exact wpAny_pyHash_str h
 eqBool:=fun hu hv h=>by
  rcases bx hu with ⟨i,t,rfl,rfl⟩|⟨x,t,rfl,rfl⟩
  ·rcases bx hv with ⟨j,u,rfl,rfl⟩|⟨y,u,rfl,rfl⟩
   ·rw [uX] at h;exact wpAny_eqBool_int h
   ·rw [uZ] at h;exact SeqAt.EqAt.int_str i t y u _ _ _ _ h
  ·rcases bx hv with ⟨j,u,rfl,rfl⟩|⟨y,u,rfl,rfl⟩
   ·rw [u5] at h;exact SeqAt.EqAt.str_int x t j u _ _ _ _ h
   ·rw [uY] at h;exact wpAny_eqBool_str h
 «strs»:=fun k x t v h=>by
  rcases bx h with ⟨i,u,rfl,e⟩|⟨y,u,rfl,e⟩
  ·exact nomatch e
  ·injection e with e1 _
   subst e1
   cases v<;>rfl
theorem kh (prog:Program) (w:World) (i:Int) (t:Tok):(bz prog w).is (.inl i) (.int i t)=true:=nO i t
theorem ki (prog:Program) (w:World) (x:Str) (t:Tok):(bz prog w).is (.inr x) (.str x t)=true:=nP x t
end L2
namespace L2
open PySem PySem.Spec PyProof.Rows
inductive V where
 | non|bl (b:Bool)|int (i:Int)|str (x:Str)|byt (b:Array UInt8)|flt (b:UInt64)|ref (a:Addr)|ty (n:String)
 deriving DecidableEq
def RelV:V->Value->Prop
 | .non,u=>u=Value.none
 | .bl b,u=>u=Value.bool b
 | .int i,u=>∃ t,u=Value.int i t
 | .str x,u=>∃ t,u=Value.str x t
 | .byt b,u=>∃ t,u=Value.bytes b t
 | .flt b,u=>∃ t,u=Value.float b t
 | .ref a,u=>u=Value.ref a
 | .ty n,u=>u=Value.type n
abbrev Vals:List V->List Value->Prop:=Paired RelV
theorem Vals.length {xs:List V} {us:List Value} (r:Vals xs us):xs.length=us.length:=Paired.length r
theorem Vals.get:∀ {xs:List V} {us:List Value} {i:Nat} {x:V},Vals xs us->xs[i]?=some x->∃ u,us[i]?=some u/\RelV x u
 | _,_,_,_,.nil,e=>by simp at e
 | _,_,0,_,.cons r _,e=>by simp at e;subst e;exact ⟨_,rfl,r⟩
 | _,_,i+1,x,.cons _ t,e=>by
  obtain ⟨u,h1,h2⟩:=Vals.get (i:=i) (x:=x) t (by simpa using e)
  exact ⟨u,by simpa using h1,h2⟩
theorem Vals.set {x:V} {u:Value} (r:RelV x u):∀ {xs:List V} {us:List Value} (i:Nat),Vals xs us->Vals (xs.set i x) (us.set i u)
 | _,_,_,.nil=>.nil
 | _,_,0,.cons _ t=>.cons r t
 | _,_,i+1,.cons q t=>.cons q (Vals.set r i t)
theorem Vals.append:∀ {xs ys:List V} {us ws:List Value},Vals xs us->Vals ys ws->Vals (xs++ys) (us++ws)
 | _,_,_,_,.nil,s=>s
 | _,_,_,_,.cons r t,s=>.cons r (Vals.append t s)
theorem Vals.take:∀ {xs:List V} {us:List Value} (n:Nat),Vals xs us->Vals (xs.take n) (us.take n)
 | _,_,0,_=>.nil
 | _,_,_+1,.nil=>.nil
 | _,_,n+1,.cons r t=>.cons r (Vals.take n t)
theorem Vals.drop:∀ {xs:List V} {us:List Value} (n:Nat),Vals xs us->Vals (xs.drop n) (us.drop n)
 | _,_,0,r=>r
 | _,_,_+1,.nil=>.nil
 | _,_,n+1,.cons _ t=>Vals.drop n t
def RelO:Option V->Option Value->Prop
 | some v,some u=>RelV v u
 | none,none=>True
 | _,_=>False
def KV {κ:Type}:List (κ×V)->List (κ×Value)->Prop:=Paired fun (p:κ×V) (q:κ×Value)=>p.1=q.1/\RelV p.2 q.2
def kV:cY->V
 | .inl i=>.int i
 | .inr x=>.str x
inductive HO where
 | lst (xs:List V)
 | tup (xs:List V)
 | dK (kvs:List (cY×V))|dT (kvs:List (List cY×V))
 | set (S:Int->Bool) (n:Nat)
 | ins (C dx:Addr) (fs:List (Str×V))
 | own (x:Addr)
 | xd (fs:List (Str×V))
 | met (f x:Addr)
 | rng (lo hi:Int)
 | frz (o:Obj) (u:HO)
 | tbl (ps:Array Value)
 | ext (φ:Heap->Prop)
abbrev Hp:=Addr->Option HO
def az (H:Hp) (a:Addr) (o:HO):Hp:=fun b=>if b=a then some o else H b
theorem ae {H:Hp} {a:Addr} {o:HO}:az H a o a=some o:=by unfold az;rw [if_pos rfl]
theorem aG {H:Hp} {a b:Addr} {o:HO} (h:b≠a):az H a o b=H b:=by unfold az;rw [if_neg h]
theorem aS {H:Hp} {a b:Addr} {o:HO} (h:H a=some o) (h':H b=none):a≠b:=by
 intro e;subst e;rw [h] at h';cases h'
def TupP (h:Heap) (a:Addr) (items:Array Value):Prop:=∃ o,h.get? a=some o/\(o.cls,o.dict)=(Value.type "tuple",none)/\∃ n,o.data=Data.seq items n
theorem TupP.up {h:Heap} {a:Addr} {items:Array Value} (p:TupP h a items):IsTup h a items:=let ⟨o,e,c,d⟩:=p;⟨o,e,(Prod.mk.inj c).1,d⟩
theorem TupP.lt {h:Heap} {a:Addr} {items:Array Value} (p:TupP h a items):a < h.objs.size:=let ⟨_,e,_⟩:=p;BI e
theorem TupP.new (h:Heap) (items:Array Value):TupP (h.push { cls:=.type "tuple",data:=.seq items }) h.objs.size items:=⟨_,BU _ rfl,rfl,_,rfl⟩
section
variable (P:Program) (w:World)
def ObjOk (H:Hp) (h:Heap) (a:Addr):HO->Prop
 | .lst xs=>xs.length<=sizeLine/\∃ (its:List Value) (n:Nat),Vals xs its/\h.get? a=some { cls:=.type "list",data:=.seq its.toArray n }
 | .tup xs=>xs.length<=sizeLine/\∃ its:List Value,Vals xs its/\TupP h a its.toArray
 | .dK kvs=>kvs.length<=sizeLine/\(a == sysModules)=false/\∃ vs,KV kvs vs/\h.DictOf (bz P w) a vs
 | .dT kvs=>kvs.length<=sizeLine/\(a == sysModules)=false/\∃ xs:List (List cY×Addr×Value),
   Paired (fun (p:List cY×V) (q:List cY×Addr×Value)=>p.1=q.1/\H q.2.1=some (.tup (p.1.map kV))/\RelV p.2 q.2.2) kvs xs /\
   ∃ o es ep,h.get? a=some o/\o.ExactDict/\o.data=.dict es ep/\es.toList=xs.map (entryOfKey (tupleKind (bz P w)))/\(xs.map (·.1)).Nodup
 | .set S n=>h.SetOf (intKind P w) a S n
 | .ins C dx fs=>H dx=some (.own a)/\fs.length<=1000/\dx≠a/\h.get? a=some (PySem.W.instObj C dx) /\
   ∃ mA,h.Ns1 dx mA/\(∀ f,RelO (fs.lookup f) (mA f))/\PySem.Within mA (fs.map (·.1))
 | .own _=>∃ o,h.get? a=some o
 | .xd fs=>∃ mA,h.Ns1 a mA/\∀ f,RelO (fs.lookup f) (mA f)
 | .rng lo hi=>∃ t u v,h.get? a=some { cls:=.type "range",data:=.fields #[.int lo t,.int hi u,.int 1 v] }
 | .frz o u=>h.get? a=some o/\ObjOk H h a u
 | .tbl ps=>h.get? a=some { cls:=.none,data:=.fields ps }
 | .met f x=>h.get? a=some (PySem.W.methodObj (.ref f) (.ref x))
 | .ext φ=>φ h/\(∃ o,h.get? a=some o)/\∀ h1 h2:Heap,φ h1->(∀ o,h1.get? a=some o->h2.get? a=some o)->φ h2
def HOk (H:Hp) (h:Heap):Prop:=∀ a o,H a=some o->ObjOk P w H h a o
end
section
variable {P:Program} {w:World} {H H':Hp} {h h':Heap} {a:Addr} {o:HO}
theorem ObjOk.lt (x:ObjOk P w H h a o):a < h.objs.size:=by
 cases o with
 | lst xs=>obtain ⟨_,_,_,_,e⟩:=x;exact BI e
 | tup xs=>obtain ⟨_,_,_,p⟩:=x;exact p.lt
 | dK kvs=>obtain ⟨_,_,_,_,o,_,_,e,_⟩:=x;exact BI e
 | dT kvs=>obtain ⟨_,_,_,_,o,_,_,e,_⟩:=x;exact BI e
 | set S n=>obtain ⟨o,_,_,_,e,_⟩:=x;exact BI e
 | ins C dx fs=>obtain ⟨_,_,_,e,_⟩:=x;exact BI e
 | own y=>obtain ⟨_,e⟩:=x;exact BI e
 | xd fs=>obtain ⟨_,⟨_,_,_,e,_⟩,_⟩:=x;exact BI e
 | rng lo hi=>obtain ⟨_,_,_,e⟩:=x;exact BI e
 | frz ob u=>obtain ⟨e,_⟩:=x;exact BI e
 | tbl ps=>exact BI (show h.get? a=some _ from x)
 | met f y=>exact BI (show h.get? a=some _ from x)
 | ext φ=>obtain ⟨_,⟨_,e⟩,_⟩:=x;exact BI e
theorem Paired.mapP {α β:Type} {F G:α->β->Prop}:∀ {l₁:List α} {l₂:List β},Paired F l₁ l₂->(∀ a b,F a b->G a b)->Paired G l₁ l₂
 | _,_,.nil,_=>.nil
 | _,_,.cons r t,f=>.cons (f _ _ r) (Paired.mapP t f)
theorem ObjOk.stay (x:ObjOk P w H h a o) (k:∀ b u,(b=a\/H b=some (.own a))->h.get? b=some u->h'.get? b=some u)
  (ho:∀ b,H b=some (.own a)->H' b=some (.own a)) (ht:∀ b xs,H b=some (.tup xs)->H' b=some (.tup xs)):ObjOk P w H' h' a o:=by
 induction o with
 | lst xs=>obtain ⟨z,its,n,r,e⟩:=x;exact ⟨z,its,n,r,k _ _ (.inl rfl) e⟩
 | tup xs=>obtain ⟨z,its,r,ob,e,c⟩:=x;exact ⟨z,its,r,ob,k _ _ (.inl rfl) e,c⟩
 | dK kvs=>obtain ⟨z,y,vs,r,ob,es,ep,e,c⟩:=x;exact ⟨z,y,vs,r,ob,es,ep,k _ _ (.inl rfl) e,c⟩
 | dT kvs=>
  obtain ⟨z,y,xs,r,ob,es,ep,e,c⟩:=x
  exact ⟨z,y,xs,Paired.mapP r fun p q z=>⟨z.1,ht _ _ z.2.1,z.2.2⟩,ob,es,ep,k _ _ (.inl rfl) e,c⟩
 | set S n=>obtain ⟨ob,es,ep,t,e,c⟩:=x;exact ⟨ob,es,ep,t,k _ _ (.inl rfl) e,c⟩
 | ins C dx fs=>
  obtain ⟨d,z,ne,e,mA,⟨od,es,ep,e2,c⟩,r⟩:=x
  exact ⟨ho _ d,z,ne,k _ _ (.inl rfl) e,mA,⟨od,es,ep,k _ _ (.inr d) e2,c⟩,r⟩
 | own y=>obtain ⟨ob,e⟩:=x;exact ⟨ob,k _ _ (.inl rfl) e⟩
 | xd fs=>obtain ⟨mA,⟨od,es,ep,e,c⟩,r⟩:=x;exact ⟨mA,⟨od,es,ep,k _ _ (.inl rfl) e,c⟩,r⟩
 | rng lo hi=>obtain ⟨t,u,v,e⟩:=x;exact ⟨t,u,v,k _ _ (.inl rfl) e⟩
 | frz ob u ih=>obtain ⟨e,q⟩:=x;exact ⟨k _ _ (.inl rfl) e,ih q⟩
 | tbl ps=>
  have e:h.get? a=some { cls:=.none,data:=.fields ps }:=x
  show h'.get? a=some { cls:=.none,data:=.fields ps }
  exact k a _ (.inl rfl) e
 | met f y=>
  have e:h.get? a=some (PySem.W.methodObj (.ref f) (.ref y)):=x
  show h'.get? a=some (PySem.W.methodObj (.ref f) (.ref y))
  exact k a _ (.inl rfl) e
 | ext φ=>obtain ⟨p,⟨o,e⟩,st⟩:=x;exact ⟨st _ _ p fun o q=>k _ _ (.inl rfl) q,⟨o,k _ _ (.inl rfl) e⟩,st⟩
theorem HOk.lt (x:HOk P w H h) (e:H a=some o):a < h.objs.size:=(x a o e).lt
theorem HOk.fresh (x:HOk P w H h) (e:h.objs.size<=a):H a=none:=by
 cases q:H a with
 | none=>rfl
 | some u=>exact absurd (BQ (x.lt q) e) (Ci _)
theorem HOk.kept (x:HOk P w H h) (k:∀ b u,h.get? b=some u->h'.get? b=some u):HOk P w H h':=fun a o e=>
 (x a o e).stay (fun b u _ q=>k b u q) (fun _ q=>q) fun _ _ q=>q
theorem HOk.laid (x:HOk P w H h) (k:∀ b u,h.get? b=some u->h'.get? b=some u) (hp:h.objs.size<=a) (new:ObjOk P w (az H a o) h' a o):HOk P w (az H a o) h':=fun b u e=>by
 have hn:=x.fresh hp
 by_cases hb:b=a
 ·subst hb;rw [ae] at e;cases e;exact new
 ·rw [aG hb] at e
  exact (x b u e).stay (fun c v _ q=>k c v q) (fun c q=>by rw [aG (aS q hn)];exact q) fun c xs q=>by rw [aG (aS q hn)];exact q
end
def Rd (H:Hp) (a:Addr) (u:HO):Prop:=H a=some u\/∃ o,H a=some (.frz o u)
theorem Rd.ok {P:Program} {w:World} {H:Hp} {h:Heap} {a:Addr} {u:HO} (r:Rd H a u) (x:HOk P w H h):ObjOk P w H h a u:=by
 rcases r with r|⟨o,r⟩
 ·exact x a u r
 ·obtain ⟨_,q⟩:=x a _ r
  exact q
def xq:Option HO->Prop
 | some (.lst _)=>True
 | some (.dK _)=>True
 | some (.dT _)=>True
 | some (.set _ _)=>True
 | some (.ins _ _ _)=>True
 | some (.ext _)=>True
 | _=>False
section
variable {P:Program} {w:World} {H:Hp} {h h':Heap} {x e:Addr} {o':HO}
theorem HOk.write (ok:HOk P w H h) (mu:xq (H x)) (he:e=x\/H e=some (.own x)) (k:∀ b u,b≠e->h.get? b=some u->h'.get? b=some u) (heo:∃ u,h'.get? e=some u)
  (new:ObjOk P w (az H x o') h' x o'):HOk P w (az H x o') h':=fun b u q=>by
 have nown:∀ c y,H c=some (.own y)->c≠x:=fun c y r z=>by subst z;rw [r] at mu;exact mu
 have ntup:∀ c xs,H c=some (.tup xs)->c≠x:=fun c xs r z=>by subst z;rw [r] at mu;exact mu
 by_cases hb:b=x
 ·subst hb;rw [ae] at q;cases q;exact new
 ·rw [aG hb] at q
  by_cases hbe:b=e
  ·have q':H b=some (.own x):=by
    rcases he with z|z
    ·exact absurd (hbe.trans z) hb
    ·rw [hbe];exact z
   rw [q] at q';cases q'
   obtain ⟨v,hv⟩:=heo
   exact ⟨v,by rw [hbe];exact hv⟩
  ·refine (ok b u q).stay (fun c v hc r=>k c v ?_ r) (fun c r=>by rw [aG (nown c b r)];exact r) fun c xs r=>by rw [aG (ntup c xs r)];exact r
   rcases hc with rfl|hc
   ·exact hbe
   ·rintro rfl
    rcases he with z|z
    ·exact nown c b hc z
    ·rw [hc] at z;cases z;exact hb rfl
end
structure Un (fs ex:List Addr) (H H':Hp) (h h':Heap):Prop where
 keep:∀ b o,h.get? b=some o->H b=none->b∉fs->b∉ex->h'.get? b=some o
 slot:∀ b o,h.get? b=some o->H b=none->b∈fs->b∉ex->∃ sl,h'.get? b=some { o with slots:=sl }
 free:∀ b o,h.get? b=some o->H b=none->b∉ex->H' b=none
 there:∀ b o,h.get? b=some o->b∉ex->∃ o',h'.get? b=some o'
 tups:∀ b xs,H b=some (.tup xs)->H' b=some (.tup xs)
 frzs:∀ b o u,H b=some (.frz o u)->H' b=some (.frz o u)
 tbls:∀ b ps,H b=some (.tbl ps)->∃ more,H' b=some (.tbl (ps++more))
section
variable {fs fs' ex ex':List Addr} {H H1 H2:Hp} {h h1 h2 h':Heap} {a x e:Addr} {o:HO}
theorem Un.any (u:Un fs ex H H1 h h1) {b:Addr} {ob:Obj} (q:h.get? b=some ob) (n:H b=none) (hx:b∉ex):∃ sl,h1.get? b=some { ob with slots:=sl }:=by
 by_cases hb:b∈fs
 ·exact u.slot b ob q n hb hx
 ·exact ⟨ob.slots,u.keep b ob q n hb hx⟩
theorem Un.kept (k:∀ b u,h.get? b=some u->h'.get? b=some u):Un fs ex H H h h':=
 ⟨fun b ob q _ _ _=>k b ob q,fun b ob q _ _ _=>⟨ob.slots,k b ob q⟩,fun _ _ _ n _=>n,fun b ob q _=>⟨ob,k b ob q⟩,fun _ _ q=>q,fun _ _ _ q=>q,fun _ ps q=>⟨#[],by rw [q];simp⟩⟩
theorem Un.refl:Un fs ex H H h h:=Un.kept fun _ _ q=>q
theorem Un.laid (k:∀ b u,h.get? b=some u->h'.get? b=some u) (hp:h.objs.size<=a) (hn:H a=none):Un fs ex H (az H a o) h h' where
 keep:=fun b u q _ _ _=>k b u q
 slot:=fun b u q _ _ _=>⟨u.slots,k b u q⟩
 free:=fun b u q n _=>by rw [aG (BX (BQ (BI q) hp))];exact n
 there:=fun b u q _=>⟨u,k b u q⟩
 tups:=fun b xs q=>by rw [aG (aS q hn)];exact q
 frzs:=fun b u xs q=>by rw [aG (aS q hn)];exact q
 tbls:=fun b ps q=>⟨#[],by rw [aG (aS q hn),q];simp⟩
theorem Un.write (mu:xq (H x)) (he:e=x\/H e=some (.own x)) (k:∀ b u,b≠e->h.get? b=some u->h'.get? b=some u) (heo:∃ u,h'.get? e=some u):Un fs ex H (az H x o) h h':=by
 have hx:∀ b,H b=none->b≠x:=fun b n z=>by subst z;rw [n] at mu;exact mu
 have hb:∀ b,H b=none->b≠e:=fun b n z=>by
  subst z
  rcases he with r|r
  ·exact hx b n r
  ·rw [n] at r;cases r
 have hm:∀ b u,H b=some u->¬ xq (some u)->b≠x:=fun b u q nm z=>by subst z;rw [q] at mu;exact nm mu
 refine ⟨fun b u q n _ _=>k b u (hb b n) q,fun b u q n _ _=>⟨u.slots,k b u (hb b n) q⟩,fun b u q n _=>by rw [aG (hx b n)];exact n,fun b u q _=>?_,
  fun b xs q=>by rw [aG (hm b _ q fun z=>z)];exact q,fun b u xs q=>by rw [aG (hm b _ q fun z=>z)];exact q,fun b ps q=>⟨#[],by rw [aG (hm b _ q fun z=>z),q];simp⟩⟩
 by_cases hbe:b=e
 ·subst hbe;exact heo
 ·exact ⟨u,k b u hbe q⟩
end
def zj (h:Heap) (H:Hp):List Addr:=(List.range h.objs.size).filter fun a=>(H a).isSome
def jm (h:Heap) (H:Hp):Heap:=PySem.W.hideAll h (zj h H)
theorem nQ (h:Heap) (H:Hp):(jm h H).objs.size=h.objs.size:=PySem.W.hideAll_size _ _
theorem oF {h:Heap} {H:Hp} {b:Addr} {o:Obj} (e:h.get? b=some o) (n:H b=none):(jm h H).get? b=some o:=
 PySem.W.hideAll_get _ e fun hm=>by
  have q:(H b).isSome=true:=(List.mem_filter.mp hm).2
  rw [n] at q;simp at q
theorem rC {h:Heap} {H:Hp} {b:Addr} {o:Obj} (e:(jm h H).get? b=some o):h.get? b=some o/\H b=none:=by
 have e':h.get? b=some o:=PySem.W.of_hideAll (zj h H) e
 refine ⟨e',?_⟩
 cases q:H b with
 | none=>rfl
 | some x=>
  have hm:b∈zj h H:=List.mem_filter.mpr ⟨CH.mpr (BI e'),by simp [q]⟩
  have z:(jm h H).get? b=none:=PySem.W.hideAll_none (zj h H) hm
  rw [z] at e;cases e
end L2
namespace L2
open PySem PySem.Spec PyProof.Rows
structure Mod (K:PySem.W.Frag) (mg:Str->Option Value) (base:Heap):Prop where
 kin:K.In base
 glob:base.Ns mainGlobals mg
 blt:∃ mb,base.Ns builtinsNs mb/\∀ x:Str,x≠"__name__"->mb x=bootBuiltins x
 nolimit:base.NoLimit
structure Cx where
 prog:Program
 w:World
 K:PySem.W.Frag
 mg:Str->Option Value
 base:Heap
 A:Around
 N:List Str
 s₀:Shared
 H₀:Hp
 env:Env
 outer:List Env
 stack:List Env
 ex:List Addr
 fn:Str->Bool
 calm:Bool
 pn:List (Addr×Obj)
 xe:Value->Shared->Prop
def jp (l:List Env):List Addr:=l.filterMap (·.frame)
abbrev Cx.fs (X:Cx):List Addr:=jp X.outer
def zk (sc:Scope) (x:Str):Prop:=sc.names.lookup x=some .local\/sc.names.lookup x=some .cell\/sc.names.lookup x=some .free
def zo (sc:Scope) (x:Str):Prop:=sc.names.lookup x=some .local\/sc.names.lookup x=some .cell
def xt (env:Env) (h:Heap) (m:Str->Option Value) (x:Str) (u:Value):Prop:=
 (env.kindOf x=some .local/\m x=some u)\/((env.kindOf x=some .cell\/env.kindOf x=some .free)/\∃ c,env.cells.lookup x=some c/\h.IsCell c (some u))
structure Cx.Ok (X:Cx):Prop where
 mod:Mod X.K X.mg X.base
 kind:X.env.scope.kind=.function
 glob:X.env.globals=mainGlobals
 blt:X.env.builtins=builtinsNs
 above:X.s₀.heap.objs.size<=X.env.locals
 inj:∀ x y c,X.env.cells.lookup x=some c->X.env.cells.lookup y=some c->x=y
 has:∀ x,(X.env.kindOf x=some .cell\/X.env.kindOf x=some .free)->∃ c,X.env.cells.lookup x=some c
 cab:∀ x c,X.fn x=true->X.env.cells.lookup x=some c->X.s₀.heap.objs.size<=c
 hd:X.calm=true->X.A.handled=none
 frames:X.A.frames=some X.stack
 stk:X.stack=X.outer\/(X.stack=X.env::X.outer/\X.env.frame=some X.env.locals)
 exf:∀ b∈X.ex,b≠X.env.locals/\∀ x c,X.env.cells.lookup x=some c->c≠b
 bs:∀ b o,X.base.get? b=some o->X.s₀.heap.get? b=some o/\X.H₀ b=none
 bsz:X.base.objs.size<=X.s₀.heap.objs.size
 noex:∀ b o,X.base.get? b=some o->b∉X.ex
 exfs:∀ b∈X.ex,b∉X.fs
 funs:X.s₀.heap.FunFrames X.base X.outer
 frf:∀ b∈X.fs,X.H₀ b=none
structure Inv (X:Cx) (pins:List (Addr×Obj)) (σ:List (Option V)) (H:Hp) (s:Shared):Prop where
 ok:X.Ok
 os:s.os=X.s₀.os
 bare:AllBare s.gens
 base:Un X.fs X.ex X.H₀ H X.s₀.heap s.heap
 loc:∃ m,s.heap.Ns X.env.locals m/\∀ (i:Nat) (x:Str) (v:V),X.N[i]?=some x->σ[i]?=some (some v)->zk X.env.scope x->∃ u,RelV v u/\xt X.env s.heap m x u
 cell:∀ x c,X.env.cells.lookup x=some c->∃ v,s.heap.IsCell c v
 free:H X.env.locals=none
 freeC:∀ x c,X.env.cells.lookup x=some c->H c=none
 pin:∀ p∈X.pn++pins,s.heap.get? p.1=some p.2/\H p.1=none/\p.1≠X.env.locals/\p.1∉X.fs/\∀ v,p.2.data≠.cell v
 hok:HOk X.prog X.w H s.heap
 len:σ.length=X.N.length
section
variable {X:Cx} {pins:List (Addr×Obj)} {σ:List (Option V)} {H H':Hp} {s:Shared} {h':Heap}
theorem Cx.Ok.nofr (ok:X.Ok) {b:Addr} {o:Obj} (e:X.base.get? b=some o):b∉X.fs:=fun hb=>by
 have:=(ok.funs.mem hb).1
 rw [e] at this;cases this
theorem Inv.bs (I:Inv X pins σ H s):∀ b o,X.base.get? b=some o->s.heap.get? b=some o/\H b=none:=fun b o e=>
 ⟨I.base.keep b o (I.ok.bs b o e).1 (I.ok.bs b o e).2 (I.ok.nofr e) (I.ok.noex b o e),I.base.free b o (I.ok.bs b o e).1 (I.ok.bs b o e).2 (I.ok.noex b o e)⟩
theorem Inv.bk (I:Inv X pins σ H s):∀ b o,X.base.get? b=some o->s.heap.get? b=some o:=fun b o e=>(I.bs b o e).1
theorem Inv.mod (I:Inv X pins σ H s):Mod X.K X.mg X.base:=I.ok.mod
theorem Inv.kIn (I:Inv X pins σ H s):X.K.In s.heap:=I.ok.mod.kin.keeps I.bk
theorem Inv.lt (I:Inv X pins σ H s):X.env.locals < s.heap.objs.size:=let ⟨_,hn,_⟩:=I.loc;hn.lt
theorem Inv.sz (I:Inv X pins σ H s):X.s₀.heap.objs.size<=s.heap.objs.size:=BN I.ok.above (Nat.le_of_lt I.lt)
theorem Inv.nofs (I:Inv X pins σ H s) {a:Addr} (h:s.heap.objs.size<=a):a∉X.fs:=fun hb=>by
 obtain ⟨_,o,ho,_⟩:=I.ok.funs.mem hb
 exact absurd (BQ (BI ho) (BN I.sz h)) (Ci _)
theorem Inv.cne (I:Inv X pins σ H s):∀ x c,X.env.cells.lookup x=some c->c≠X.env.locals:=fun x c e z=>by
 obtain ⟨v,o,ho,hd⟩:=I.cell x c e
 obtain ⟨m,⟨o',es,ep,ho',hd',_⟩,_⟩:=I.loc
 rw [z,ho'] at ho;cases ho;rw [hd'] at hd;cases hd
theorem Inv.funs (I:Inv X pins σ H s):s.heap.FunFrames X.base X.outer:=by
 have all:∀ (l:List Env),(∀ b∈jp l,b∈X.fs)->X.s₀.heap.FunFrames X.base l->s.heap.FunFrames X.base l:=by
  intro l
  induction l with
  | nil=>intro _ _;trivial
  | cons env r ih=>
   intro hs hl
   obtain ⟨hk,⟨L,o,hf,hn,ho,hd⟩,hr⟩:=hl
   have hL:L∈X.fs:=hs L (by unfold jp;rw [Cz,hf];exact BJ)
   obtain ⟨sl,e⟩:=I.base.slot L o ho (I.ok.frf L hL) hL fun z=>I.ok.exfs L z hL
   exact ⟨hk,⟨L,_,hf,hn,e,hd⟩,ih (fun b hb=>hs b (by unfold jp;rw [Cz,hf];exact BF _ hb)) hr⟩
 exact all X.outer (fun _ hb=>hb) I.ok.funs
theorem Inv.stack (I:Inv X pins σ H s):s.heap.FunFrames X.base X.stack:=by
 rcases I.ok.stk with e|⟨e,hf⟩
 ·rw [e];exact I.funs
 ·rw [e]
  obtain ⟨m,hn,_⟩:=I.loc
  refine .cons (by rw [I.ok.kind];decide) hf hn ?_ I.funs
  exact Heap.get?_none_of_le (BN I.ok.bsz I.ok.above)
theorem Inv.stkSub (I:Inv X pins σ H s):∀ b∈jp X.stack,b∈X.env.locals::X.fs:=fun b hb=>by
 rcases I.ok.stk with e|⟨e,hf⟩
 ·rw [e] at hb;exact BF _ hb
 ·rw [e] at hb
  unfold jp at hb
  rw [Cz,hf] at hb
  exact hb
theorem Inv.stkFree (I:Inv X pins σ H s):∀ b∈jp X.stack,H b=none:=fun b hb=>by
 rcases BH.mp (I.stkSub b hb) with e|hb
 ·rw [e];exact I.free
 ·obtain ⟨_,o,ho,_⟩:=I.ok.funs.mem hb
  exact I.base.free b o ho (I.ok.frf b hb) fun z=>I.ok.exfs b z hb
theorem Inv.step {g':Array GenState} {t':Nat} {d':Drawn} {ch:List Addr} (I:Inv X pins σ H s)
  (hch:∀ b∈ch,(b∈X.ex\/X.s₀.heap.objs.size<=b)/\b≠X.env.locals/\(∀ x c,X.env.cells.lookup x=some c->c≠b)/\∀ p∈X.pn++pins,p.1≠b)
  (keep:∀ b o,b≠X.env.locals->b∉X.fs->b∉ch->s.heap.get? b=some o->H b=none->h'.get? b=some o)
  (slot:∀ b o,b≠X.env.locals->b∈X.fs->b∉ch->s.heap.get? b=some o->H b=none->∃ sl,h'.get? b=some { o with slots:=sl }) (free:∀ b o,b∉ch->s.heap.get? b=some o->H b=none->H' b=none)
  (there:∀ b o,b∉ch->s.heap.get? b=some o->∃ o',h'.get? b=some o')
  (tups:∀ b xs,H b=some (.tup xs)->H' b=some (.tup xs)) (frzs:∀ b o u,H b=some (.frz o u)->H' b=some (.frz o u)) (tbls:∀ b ps,H b=some (.tbl ps)->∃ more,H' b=some (.tbl (ps++more)))
  (ns:∀ m,s.heap.Ns X.env.locals m->h'.Ns X.env.locals m) (hok:HOk X.prog X.w H' h') (hg:AllBare g') :
  Inv X pins σ H' { s with heap:=h',gens:=g',drawn:=d',toks:=t' }:=by
 have neL:∀ b o,X.s₀.heap.get? b=some o->b≠X.env.locals:=fun b o e=>BX (BQ (BI e) I.ok.above)
 have neC:∀ b o,X.s₀.heap.get? b=some o->b∉X.ex->b∉ch:=fun b o e hx hb=>by
  rcases (hch b hb).1 with z|z
  ·exact hx z
  ·exact absurd (BQ (BI e) z) (Ci _)
 have cellK:∀ x c,X.env.cells.lookup x=some c->∀ v,s.heap.IsCell c v->h'.IsCell c v:=fun x c e v ⟨o,ho,hd⟩=>by
  have nch:c∉ch:=fun z=>(hch c z).2.2.1 x c e rfl
  by_cases hc:c∈X.fs
  ·obtain ⟨sl,q⟩:=slot c o (I.cne x c e) hc nch ho (I.freeC x c e)
   exact ⟨_,q,hd⟩
  ·exact ⟨o,keep c o (I.cne x c e) hc nch ho (I.freeC x c e),hd⟩
 refine ⟨I.ok,I.os,hg,⟨fun b o e n hb hx=>?_,fun b o e n hb hx=>?_,fun b o e n hx=>?_,fun b o e hx=>?_,fun b xs e=>tups b xs (I.base.tups b xs e),fun b o xs e=>frzs b o xs (I.base.frzs b o xs e),fun b ps e=>?_⟩,?_,fun x c e=>?_,?_,fun x c e=>?_,fun p hp=>?_,hok,I.len⟩
 ·exact keep b o (neL b o e) hb (neC b o e hx) (I.base.keep b o e n hb hx) (I.base.free b o e n hx)
 ·obtain ⟨sl,e1⟩:=I.base.slot b o e n hb hx
  obtain ⟨sl',e2⟩:=slot b _ (neL b o e) hb (neC b o e hx) e1 (I.base.free b o e n hx)
  exact ⟨sl',e2⟩
 ·obtain ⟨o',e1⟩:=I.base.there b o e hx
  exact free b o' (neC b o e hx) e1 (I.base.free b o e n hx)
 ·obtain ⟨o',e1⟩:=I.base.there b o e hx
  exact there b o' (neC b o e hx) e1
 ·obtain ⟨m1,e1⟩:=I.base.tbls b ps e
  obtain ⟨m2,e2⟩:=tbls b _ e1
  exact ⟨m1++m2,by rw [e2,Array.append_assoc]⟩
 ·obtain ⟨m,hn,hl⟩:=I.loc
  refine ⟨m,ns m hn,fun i x v e1 e2 e3=>?_⟩
  obtain ⟨u,r,l⟩:=hl i x v e1 e2 e3
  refine ⟨u,r,?_⟩
  rcases l with l|⟨k,c,e,z⟩
  ·exact .inl l
  ·exact .inr ⟨k,c,e,cellK x c e _ z⟩
 ·obtain ⟨v,z⟩:=I.cell x c e
  exact ⟨v,cellK x c e v z⟩
 ·obtain ⟨m,⟨o,_,_,ho,_⟩,_⟩:=I.loc
  exact free _ o (fun z=>(hch _ z).2.1 rfl) ho I.free
 ·obtain ⟨v,o,ho,hd⟩:=I.cell x c e
  exact free c o (fun z=>(hch c z).2.2.1 x c e rfl) ho (I.freeC x c e)
 ·obtain ⟨e,n,ne,nf,d⟩:=I.pin p hp
  have nch:p.1∉ch:=fun z=>(hch p.1 z).2.2.2 p hp rfl
  exact ⟨keep p.1 p.2 ne nf nch e n,free p.1 p.2 nch e n,ne,nf,d⟩
theorem Inv.un {t':Nat} (I:Inv X pins σ H s) (u:Un X.fs [] H H' s.heap h') (hok:HOk X.prog X.w H' h'):Inv X pins σ H' { s with heap:=h',toks:=t' }:=by
 obtain ⟨m,⟨o,es,ep,ho,r⟩,_⟩:=id I.loc
 obtain ⟨sl,hL⟩:=u.any ho I.free (by simp)
 exact I.step (g':=s.gens) (d':=s.drawn) (ch:=[]) (fun _ z=>nomatch z) (fun b o _ hb _ e n=>u.keep b o e n hb (by simp)) (fun b o _ hb _ e n=>u.slot b o e n hb (by simp)) (fun b o _ e n=>u.free b o e n (by simp)) (fun b o _ e=>u.there b o e (by simp)) u.tups u.frzs u.tbls (fun m' hm=>by
  obtain ⟨o',es',ep',ho',r'⟩:=hm
  rw [ho] at ho';cases ho'
  exact ⟨_,es',ep',hL,r'⟩) hok I.bare
theorem Inv.call {g':Array GenState} {t':Nat} {d':Drawn} {ch:List Addr} (I:Inv X pins σ H s) (u:Un (jp X.stack) ch H H' s.heap h') (hok:HOk X.prog X.w H' h') (hg:AllBare g')
  (hch:∀ b∈ch,(b∈X.ex\/X.s₀.heap.objs.size<=b)/\b≠X.env.locals/\(∀ x c,X.env.cells.lookup x=some c->c≠b)/\∀ p∈X.pn++pins,p.1≠b) :
  Inv X pins σ H' { s with heap:=h',gens:=g',drawn:=d',toks:=t' }:=by
 obtain ⟨m,⟨o,es,ep,ho,r⟩,_⟩:=id I.loc
 obtain ⟨sl,hL⟩:=u.any ho I.free fun z=>(hch _ z).2.1 rfl
 exact I.step (ch:=ch) hch (fun b o hL hb hc e n=>u.keep b o e n (fun z=>(BH.mp (I.stkSub b z)).elim hL hb) hc) (fun b o _ _ hc e n=>u.any e n hc) (fun b o hc e n=>u.free b o e n hc) (fun b o hc e=>u.there b o e hc) u.tups u.frzs u.tbls (fun m' hm=>by
  obtain ⟨o',es',ep',ho',r'⟩:=hm
  rw [ho] at ho';cases ho'
  exact ⟨_,es',ep',hL,r'⟩) hok hg
theorem Inv.turned {t':Nat} {it:Addr} (I:Inv X pins σ H s) (k:∀ b o,b≠it->s.heap.get? b=some o->h'.get? b=some o) (hn:H it=none) (hL:it≠X.env.locals)
  (h1:it∈X.ex\/X.s₀.heap.objs.size<=it) (h2:∀ x c,X.env.cells.lookup x=some c->c≠it) (h3:∀ p∈X.pn++pins,p.1≠it):Inv X pins σ H { s with heap:=h',toks:=t' }:=by
 have nit:∀ b u,H b=some u->b≠it:=fun b u e z=>by rw [z,hn] at e;cases e
 refine I.step (g':=s.gens) (d':=s.drawn) (ch:=[it]) (fun b hb=>?_) (fun b o _ _ hc e _=>k b o (fun z=>hc (by simp [z])) e) (fun b o _ _ hc e _=>⟨o.slots,k b o (fun z=>hc (by simp [z])) e⟩) (fun _ _ _ _ n=>n)
  (fun b o hc e=>⟨o,k b o (fun z=>hc (by simp [z])) e⟩) (fun _ _ e=>e) (fun _ _ _ e=>e) (fun b ps e=>⟨#[],by rw [e];simp⟩) (fun m hm=>?_) (fun b u e=>?_) I.bare
 ·have e:b=it:=by simpa using hb
  subst e
  exact ⟨h1,hL,h2,h3⟩
 ·obtain ⟨o,es,ep,ho,r⟩:=hm
  exact ⟨o,es,ep,k _ o (Ne.symm hL) ho,r⟩
 ·refine (I.hok b u e).stay (fun c v hc q=>k c v ?_ q) (fun _ q=>q) fun _ _ q=>q
  rcases hc with z|z
  ·rw [z];exact nit b u e
  ·exact nit c _ z
theorem Inv.tok (I:Inv X pins σ H s) (t:Nat):Inv X pins σ H { s with toks:=t }:=I.un (h':=s.heap) (t':=t) Un.refl I.hok
theorem Inv.kept {t':Nat} (I:Inv X pins σ H s) (k:∀ b u,s.heap.get? b=some u->h'.get? b=some u):Inv X pins σ H { s with heap:=h',toks:=t' }:=I.un (Un.kept k) (I.hok.kept k)
theorem Inv.laid {a:Addr} {o:HO} {t':Nat} (I:Inv X pins σ H s) (k:∀ b u,s.heap.get? b=some u->h'.get? b=some u) (hp:s.heap.objs.size<=a) (new:ObjOk X.prog X.w (az H a o) h' a o) :
  Inv X pins σ (az H a o) { s with heap:=h',toks:=t' }:=I.un (Un.laid k hp (I.hok.fresh hp)) (I.hok.laid k hp new)
theorem Inv.write {x e:Addr} {o:HO} {t':Nat} (I:Inv X pins σ H s) (mu:xq (H x)) (he:e=x\/H e=some (.own x)) (k:∀ b u,b≠e->s.heap.get? b=some u->h'.get? b=some u) (heo:∃ u,h'.get? e=some u)
  (new:ObjOk X.prog X.w (az H x o) h' x o):Inv X pins σ (az H x o) { s with heap:=h',toks:=t' }:=I.un (Un.write mu he k heo) (I.hok.write mu he k heo new)
theorem Inv.weak {σ':List (Option V)} (I:Inv X pins σ H s) (hl:σ'.length=σ.length) (w:∀ (i:Nat) v,σ'[i]?=some (some v)->σ[i]?=some (some v)):Inv X pins σ' H s:=
 ⟨I.ok,I.os,I.bare,I.base,let ⟨m,hn,hl'⟩:=I.loc;⟨m,hn,fun i x v e1 e2 e3=>hl' i x v e1 (w i v e2) e3⟩,I.cell,I.free,I.freeC,I.pin,I.hok,hl.trans I.len⟩
theorem Inv.pins_of {pins':List (Addr×Obj)} (I:Inv X pins σ H s) (h:∀ p∈pins',s.heap.get? p.1=some p.2/\H p.1=none/\p.1≠X.env.locals/\p.1∉X.fs/\∀ v,p.2.data≠.cell v):Inv X pins' σ H s:=
 ⟨I.ok,I.os,I.bare,I.base,I.loc,I.cell,I.free,I.freeC,fun p hp=>(Cf.mp hp).elim (fun z=>I.pin p (CG _ z)) (h p),I.hok,I.len⟩
theorem gU {N:List Str} (hN:N.Nodup) {i j:Nat} {x:Str} (a:N[i]?=some x) (b:N[j]?=some x):i=j:=by
 obtain ⟨h1,e1⟩:=BM.mp a
 obtain ⟨h2,e2⟩:=BM.mp b
 exact (List.getElem_inj hN).mp (e1.trans e2.symm)
theorem nR {M:Model} {A:Around} {E:Value->Shared->Prop} {i:Nat} {x:Str} {v:V} {u:Value} {Q:Unit->Shared->Prop} (I:Inv X pins σ H s) (hN:X.N.Nodup) (hi:X.N[i]?=some x) (hx:zo X.env.scope x) (r:RelV v u)
  (h:∀ s',Inv X pins (σ.set i (some v)) H s'->(∃ a,Heap.SameBut a s.heap s'.heap/\(a=X.env.locals\/X.env.cells.lookup x=some a))->Q () s') (hf:X.fn x=true\/X.env.scope.names.lookup x=some .local:=by first|exact .inl rfl|exact .inr rfl|assumption):wpAny M A (storeName X.env x u) Q E s:=by
 obtain ⟨m,hn,hl⟩:=id I.loc
 have hcls:(X.env.scope.kind == .class || (X.env.scope.kind == .module && X.env.locals != X.env.globals))=false:=by rw [I.ok.kind];rfl
 have hiσ:i < σ.length:=by rw [I.len];exact (BM.mp hi).1
 have cne:=I.cne
 have tracked:∀ {a:Addr} {h':Heap},(∃ o,s.heap.get? a=some o/\H a=none)->Heap.SameBut a s.heap h'->HOk X.prog X.w H h':=fun {a h'} ha hs b ob e=>by
  obtain ⟨_,_,hfree⟩:=ha
  refine (I.hok b ob e).stay (fun c w' hc q=>(hs.2 c ?_).trans q) (fun _ q=>q) fun _ _ q=>q
  rintro rfl
  rcases hc with rfl|hc
  ·rw [hfree] at e;cases e
  ·rw [hfree] at hc;cases hc
 rcases hx with hk|hk
 ·refine wpAny_storeName_local hk hn (fun h' hn' hs=>?_) hcls
  obtain ⟨oL,_,_,hoL,_⟩:=id hn
  refine h _ ⟨I.ok,I.os,I.bare,⟨fun b o e n hb hx=>?_,fun b o e n hb hx=>?_,I.base.free,fun b o e hx=>?_,I.base.tups,I.base.frzs,I.base.tbls⟩,⟨_,hn',fun j y v' e1 e2 e3=>?_⟩,fun y c e=>?_,I.free,I.freeC,fun p hp=>?_,tracked ⟨oL,hoL,I.free⟩ hs,by simpa using I.len⟩ ⟨_,hs,.inl rfl⟩
  ·exact (hs.2 b (BX (BQ (BI e) I.ok.above))).trans (I.base.keep b o e n hb hx)
  ·obtain ⟨sl,e1⟩:=I.base.slot b o e n hb hx
   exact ⟨sl,(hs.2 b (BX (BQ (BI e) I.ok.above))).trans e1⟩
  ·obtain ⟨o',e1⟩:=I.base.there b o e hx
   exact ⟨o',(hs.2 b (BX (BQ (BI e) I.ok.above))).trans e1⟩
  ·by_cases hj:j=i
   ·subst hj
    rw [hi] at e1;cases e1
    rw [List.getElem?_set_self hiσ] at e2
    cases e2
    exact ⟨u,r,.inl ⟨hk,by simp⟩⟩
   ·rw [List.getElem?_set_ne (Ne.symm hj)] at e2
    obtain ⟨u',r',q⟩:=hl j y v' e1 e2 e3
    refine ⟨u',r',?_⟩
    rcases q with ⟨k,e⟩|⟨k,c,e,z⟩
    ·refine .inl ⟨k,?_⟩
     have:y≠x:=fun e=>hj (gU hN e1 (e ▸ hi))
     simp [this,e]
    ·exact .inr ⟨k,c,e,z.sameBut hs (cne y c e)⟩
  ·obtain ⟨w',z⟩:=I.cell y c e
   exact ⟨w',z.sameBut hs (cne y c e)⟩
  ·obtain ⟨e,n,ne,nf,d⟩:=I.pin p hp
   exact ⟨(hs.2 p.1 ne).trans e,n,ne,nf,d⟩
 ·have hfn:X.fn x=true:=by
   rcases hf with z|z
   ·exact z
   ·rw [z] at hk;cases hk
  obtain ⟨c,hc⟩:=I.ok.has x (.inl hk)
  obtain ⟨w',z⟩:=I.cell x c hc
  refine wpAny_storeName_cell I.ok.kind hk hc z (fun h' hc' hs=>?_)
  obtain ⟨oc,hoc,hocd⟩:=id z
  refine h { s with heap:=h' } ⟨I.ok,I.os,I.bare,⟨fun b o e n hb hx=>?_,fun b o e n hb hx=>?_,I.base.free,fun b o e hx=>?_,I.base.tups,I.base.frzs,I.base.tbls⟩,⟨m,hn.sameBut hs (Ne.symm (cne x c hc)),fun j y v' e1 e2 e3=>?_⟩,fun y c' e=>?_,I.free,I.freeC,fun p hp=>?_,tracked ⟨oc,hoc,I.freeC x c hc⟩ hs,by simpa using I.len⟩ ⟨c,hs,.inr hc⟩
  ·exact (hs.2 b (BX (BQ (BI e) (I.ok.cab x c hfn hc)))).trans (I.base.keep b o e n hb hx)
  ·obtain ⟨sl,e1⟩:=I.base.slot b o e n hb hx
   exact ⟨sl,(hs.2 b (BX (BQ (BI e) (I.ok.cab x c hfn hc)))).trans e1⟩
  ·obtain ⟨o',e1⟩:=I.base.there b o e hx
   exact ⟨o',(hs.2 b (BX (BQ (BI e) (I.ok.cab x c hfn hc)))).trans e1⟩
  ·by_cases hj:j=i
   ·subst hj
    rw [hi] at e1;cases e1
    rw [List.getElem?_set_self hiσ] at e2
    cases e2
    exact ⟨u,r,.inr ⟨.inl hk,c,hc,hc'⟩⟩
   ·rw [List.getElem?_set_ne (Ne.symm hj)] at e2
    obtain ⟨u',r',q⟩:=hl j y v' e1 e2 e3
    refine ⟨u',r',?_⟩
    rcases q with q|⟨k,c',e,z'⟩
    ·exact .inl q
    ·refine .inr ⟨k,c',e,z'.sameBut hs ?_⟩
     rintro rfl
     exact hj (gU hN e1 (I.ok.inj _ _ _ e hc ▸ hi))
  ·by_cases hcc:c'=c
   ·subst hcc;exact ⟨_,hc'⟩
   ·obtain ⟨w2,z2⟩:=I.cell y c' e
    exact ⟨w2,z2.sameBut hs hcc⟩
  ·obtain ⟨e,n,ne,nf,d⟩:=I.pin p hp
   refine ⟨(hs.2 p.1 ?_).trans e,n,ne,nf,d⟩
   intro q
   rw [q,hoc] at e
   have q':oc=p.2:=BY e
   exact d w' (by rw [<-q'];exact hocd)
theorem gV {M:Model} {A:Around} {E:Value->Shared->Prop} {i:Nat} {x:Str} {v:V} {u:Value} {Q:Unit->Shared->Prop} (I:Inv X pins σ H s) (hN:X.N.Nodup) (hi:X.N[i]?=some x) (hx:zo X.env.scope x) (r:RelV v u)
  (h:∀ s',Inv X pins (σ.set i (some v)) H s'->Q () s') (hf:X.fn x=true\/X.env.scope.names.lookup x=some .local:=by first|exact .inl rfl|exact .inr rfl|assumption):wpAny M A (storeName X.env x u) Q E s:=
 nR I hN hi hx r (fun s' I' _=>h s' I') hf
theorem Inv.call' {s':Shared} {ch:List Addr} (I:Inv X pins σ H s) (ho:s'.os=s.os) (u:Un (jp X.stack) ch H H' s.heap s'.heap) (hok:HOk X.prog X.w H' s'.heap) (hg:AllBare s'.gens)
  (hch:∀ b∈ch,(b∈X.ex\/X.s₀.heap.objs.size<=b)/\b≠X.env.locals/\(∀ x c,X.env.cells.lookup x=some c->c≠b)/\∀ p∈X.pn++pins,p.1≠b):Inv X pins σ H' s':=by
 obtain ⟨h',g',d',t',o'⟩:=s'
 have e:o'=s.os:=ho
 subst e
 exact I.call (g':=g') (t':=t') (d':=d') u hok hg hch
end
abbrev XK:=Value->Option Addr->Hp->Prop
abbrev St:=List (Option V)
abbrev VK:=V->Hp->Prop
abbrev TE:=St->Hp->VK->Prop
abbrev TT:=St->Hp->(Bool->Hp->Prop)->Prop
abbrev TA:=St->Hp->(List V->Hp->Prop)->Prop
structure Ends where
 nx:St->Hp->Prop
 rt:VK
 bk:St->Hp->Prop:=fun _ _=>False
 ct:St->Hp->Prop:=fun _ _=>False
abbrev TS:=Ends->St->Hp->Prop
inductive EP (X:Cx) (pins:List (Addr×Obj)) (σ:St) (Q:VK) (u:Value) (s':Shared):Prop
 | mk (v H':_):Inv X pins σ H' s'->RelV v u->Q v H'->EP X pins σ Q u s'
def TP (X:Cx) (pins:List (Addr×Obj)) (σ:St) (Q:Bool->Hp->Prop) (b:Bool) (s':Shared):Prop:=∃ H',Inv X pins σ H' s'/\Q b H'
inductive AP (X:Cx) (pins:List (Addr×Obj)) (σ:St) (Q:List V->Hp->Prop) (us:List Value) (s':Shared):Prop
 | mk (vs H':_):Inv X pins σ H' s'->Vals vs us->Q vs H'->AP X pins σ Q us s'
def SP (X:Cx) (pins:List (Addr×Obj)) (D:Ends) (f:Flow) (s':Shared):Prop:=
 match f with
 | .next=>∃ σ' H',Inv X pins σ' H' s'/\D.nx σ' H'
 | .brk=>∃ σ' H',Inv X pins σ' H' s'/\D.bk σ' H'
 | .cont=>∃ σ' H',Inv X pins σ' H' s'/\D.ct σ' H'
 | .ret u=>∃ v σ' H',Inv X pins σ' H' s'/\RelV v u/\D.rt v H'
structure PE (X:Cx) (e:Expr) (t:TE):Prop where
 run:∀ (pins:List (Addr×Obj)) (s:Shared) (σ:St) (H:Hp) (Q:VK),Inv X pins σ H s->t σ H Q->wpAny (model X.prog X.w) X.A (eval e X.env) (EP X pins σ Q) X.xe s
instance {X:Cx} {e:Expr} {t:TE}:CoeFun (PE X e t) fun _=>∀ (pins:List (Addr×Obj)) (s:Shared) (σ:St) (H:Hp) (Q:VK),Inv X pins σ H s->t σ H Q->wpAny (model X.prog X.w) X.A (eval e X.env) (EP X pins σ Q) X.xe s:=⟨PE.run⟩
structure PT (X:Cx) (e:Expr) (t:TT):Prop where
 run:∀ (pins:List (Addr×Obj)) (s:Shared) (σ:St) (H:Hp) (Q:Bool->Hp->Prop),Inv X pins σ H s->t σ H Q->wpAny (model X.prog X.w) X.A (isTrue e X.env (eval e X.env)) (TP X pins σ Q) X.xe s
instance {X:Cx} {e:Expr} {t:TT}:CoeFun (PT X e t) fun _=>∀ (pins:List (Addr×Obj)) (s:Shared) (σ:St) (H:Hp) (Q:Bool->Hp->Prop),Inv X pins σ H s->t σ H Q->wpAny (model X.prog X.w) X.A (isTrue e X.env (eval e X.env)) (TP X pins σ Q) X.xe s:=⟨PT.run⟩
structure PW (X:Cx) (e:Expr) (t:TT):Prop where
 run:∀ (whole:Sem Value) (pins:List (Addr×Obj)) (s:Shared) (σ:St) (H:Hp) (Q:Bool->Hp->Prop),Inv X pins σ H s->t σ H Q->wpAny (model X.prog X.w) X.A (isTrue e X.env whole) (TP X pins σ Q) X.xe s
instance {X:Cx} {e:Expr} {t:TT}:CoeFun (PW X e t) fun _=>∀ (whole:Sem Value) (pins:List (Addr×Obj)) (s:Shared) (σ:St) (H:Hp) (Q:Bool->Hp->Prop),Inv X pins σ H s->t σ H Q->wpAny (model X.prog X.w) X.A (isTrue e X.env whole) (TP X pins σ Q) X.xe s:=⟨PW.run⟩
theorem PW.pt {X:Cx} {e:Expr} {t:TT} (h:PW X e t):PT X e t:=⟨fun pins s σ H Q I q=>h _ pins s σ H Q I q⟩
structure PA (X:Cx) (es:List Expr) (t:TA):Prop where
 run:∀ (pos:Pos) (pins:List (Addr×Obj)) (s:Shared) (σ:St) (H:Hp) (Q:List V->Hp->Prop),Inv X pins σ H s->t σ H Q->wpAny (model X.prog X.w) X.A (spliced (backTo pos (starEach es X.env))) (AP X pins σ Q) X.xe s
instance {X:Cx} {es:List Expr} {t:TA}:CoeFun (PA X es t) fun _=>∀ (pos:Pos) (pins:List (Addr×Obj)) (s:Shared) (σ:St) (H:Hp) (Q:List V->Hp->Prop),Inv X pins σ H s->t σ H Q->wpAny (model X.prog X.w) X.A (spliced (backTo pos (starEach es X.env))) (AP X pins σ Q) X.xe s:=⟨PA.run⟩
structure PS (X:Cx) (st:Stmt) (t:TS):Prop where
 run:∀ (pins:List (Addr×Obj)) (s:Shared) (σ:St) (H:Hp) (D:Ends),Inv X pins σ H s->t D σ H->wpAny (model X.prog X.w) X.A (exec st X.env) (SP X pins D) X.xe s
instance {X:Cx} {st:Stmt} {t:TS}:CoeFun (PS X st t) fun _=>∀ (pins:List (Addr×Obj)) (s:Shared) (σ:St) (H:Hp) (D:Ends),Inv X pins σ H s->t D σ H->wpAny (model X.prog X.w) X.A (exec st X.env) (SP X pins D) X.xe s:=⟨PS.run⟩
structure PSs (X:Cx) (st:List Stmt) (t:TS):Prop where
 run:∀ (pins:List (Addr×Obj)) (s:Shared) (σ:St) (H:Hp) (D:Ends),Inv X pins σ H s->t D σ H->wpAny (model X.prog X.w) X.A (execs st X.env) (SP X pins D) X.xe s
instance {X:Cx} {st:List Stmt} {t:TS}:CoeFun (PSs X st t) fun _=>∀ (pins:List (Addr×Obj)) (s:Shared) (σ:St) (H:Hp) (D:Ends),Inv X pins σ H s->t D σ H->wpAny (model X.prog X.w) X.A (execs st X.env) (SP X pins D) X.xe s:=⟨PSs.run⟩
theorem bA {α:Type} {t:Sem α} {Q Q':α->Shared->Prop} {M:Model} {A:Around} {E:Value->Shared->Prop} {s:Shared} (h:wpAny M A t Q E s) (hQ:∀ a s,Q a s->Q' a s):wpAny M A t Q' E s:=wpAny_mono h hQ fun _ _ x=>x
end L2
namespace L2
open PySem PySem.Spec PyProof.Rows
section
variable {X:Cx}
inductive rD (i:Nat) (σ:St) (H:Hp) (Q:VK):Prop
 | mk (v:_):σ[i]?=some (some v)->Q v H->rD i σ H Q
def tC (v:V):TE:=fun _ H Q=>Q v H
theorem u7 {i:Nat} {x:Str} {pos:Pos} (hN:X.N[i]?=some x) (hv:zk X.env.scope x) (hd:(x == ("__debug__":Str))=false:=by decide) (hcd:(x == ("__classdict__":Str))=false:=by decide):PE X (.Name x pos) (rD i):=by
 refine ⟨?_⟩
 intro pins s σ H Q I h
 obtain ⟨v,e,h⟩:=h
 obtain ⟨m,hn,hl⟩:=I.loc
 obtain ⟨u,r,l⟩:=hl i x v hN e hv
 have fin:EP X pins σ Q u s:=⟨v,H,I,r,h⟩
 rcases l with ⟨hk,hm⟩|⟨hk,c,hc,hcell⟩
 ·exact wpAny_Name (wpAny_loadName_local I.ok.kind hk hn hm fin) hd
 ·rcases hk with hk|hk
  ·exact wpAny_Name (wpAny_loadName_cell I.ok.kind hk hc hcell fin) hd
  ·exact wpAny_Name (wpAny_loadName_free I.ok.kind hk hc hcell fin hcd) hd
theorem ad {i j pos}:PE X (.Constant (.int i) j pos) (tC (.int i)):=⟨fun _ _ _ H _ I h=>wpAny_Constant_int ⟨.int i,H,I.tok _,⟨_,rfl⟩,h⟩⟩
theorem fb {b j pos}:PE X (.Constant (.bool b) j pos) (tC (.bl b)):=⟨fun _ _ _ H _ I h=>Constant_bool ⟨.bl b,H,I,rfl,h⟩⟩
theorem ef {j pos}:PE X (.Constant .none j pos) (tC .non):=⟨fun _ _ _ H _ I h=>Constant_none ⟨.non,H,I,rfl,h⟩⟩
theorem af {x j pos}:PE X (.Constant (.str x) j pos) (tC (.str x)):=⟨fun _ _ _ H _ I h=>Calls.Constant_str ⟨.str x,H,I.tok _,⟨_,rfl⟩,h⟩⟩
def Gl (X:Cx) (x:Str):Prop:=X.env.kindOf x=some .globalImplicit
theorem dC {E:Value->Shared->Prop} {pins:List (Addr×Obj)} {s:Shared} {σ:St} {H:Hp} {x:Str} {u:Value} {pos:Pos} {Q:Value->Shared->Prop} (I:Inv X pins σ H s) (hg:Gl X x) (hm:X.mg x=some u) (h:Q u s)
  (hd:(x == ("__debug__":Str))=false:=by decide):wpAny (model X.prog X.w) X.A (eval (.Name x pos) X.env) Q E s:=
 Calls.Name_function_global I.ok.kind hg (Calls.loadGlobal_global (by rw [I.ok.glob];exact I.mod.glob.keeps I.bk) hm h) hd
theorem jq {E:Value->Shared->Prop} {pins:List (Addr×Obj)} {s:Shared} {σ:St} {H:Hp} {x:Str} {u:Value} {pos:Pos} {Q:Value->Shared->Prop} (I:Inv X pins σ H s) (hg:Gl X x) (hm:X.mg x=none) (hv:bootBuiltins x=some u) (h:Q u s)
  (hn:x≠"__name__":=by decide) (hd:(x == ("__debug__":Str))=false:=by decide):wpAny (model X.prog X.w) X.A (eval (.Name x pos) X.env) Q E s:=by
 obtain ⟨mb,h1,h2⟩:=I.mod.blt
 exact Calls.Name_function_global I.ok.kind hg (Calls.loadGlobal_builtin (by rw [I.ok.glob];exact I.mod.glob.keeps I.bk) hm (by rw [I.ok.blt];exact h1.keeps I.bk) ((h2 x hn).trans hv) h) hd
theorem bB {x:Str} {v:V} {u:Value} {pos:Pos} (hg:Gl X x) (hm:X.mg x=some u) (r:RelV v u) (hd:(x == ("__debug__":Str))=false:=by decide):PE X (.Name x pos) (tC v):=
 ⟨fun _ _ _ H _ I h=>dC I hg hm ⟨v,H,I,r,h⟩ hd⟩
theorem rE {x:Str} {v:V} {u:Value} {pos:Pos} (hg:Gl X x) (hm:X.mg x=none) (hv:bootBuiltins x=some u) (r:RelV v u) (hn:x≠"__name__":=by decide) (hd:(x == ("__debug__":Str))=false:=by decide):PE X (.Name x pos) (tC v):=
 ⟨fun _ _ _ H _ I h=>jq I hg hm hv ⟨v,H,I,r,h⟩ hn hd⟩
variable {a b:Expr} {ta tb:TE} {pos:Pos}
inductive AW (Q:Bool->Hp->Prop) (x:V) (H1:Hp):Prop
 | mk (c:_):x=.bl c->Q c H1->AW Q x H1
def tB (t:TE):TT:=fun σ H Q=>t σ H fun x H1=>AW Q x H1
theorem aV {e:Expr} {t:TE} (h:PE X e t) (he:∀ whole,isTrue e X.env whole=(do let v <-whole;standAt e.pos;holding [v] (truthy v)):=by intro _;rfl):PT X e (tB t):=by
 refine ⟨?_⟩
 intro pins s σ H Q I hw
 refine isTrue_plain (bA (h pins s σ H _ I hw) fun v s1 ⟨x,H1,I1,r1,q1⟩=>?_) (he _)
 obtain ⟨d,rfl,q⟩:=q1
 cases r1
 exact wpAny_truthy_bool ⟨H1,I1,q⟩
variable {tA tB':TT} {rest:List Expr}
def zE (t u:TT):TT:=fun σ H Q=>t σ H fun c H1=>if c=true then u σ H1 Q else Q false H1
def Bb (t u:TT):TT:=fun σ H Q=>t σ H fun c H1=>if c=true then Q true H1 else u σ H1 Q
def zF (t:TT):TT:=fun σ H Q=>t σ H fun c H1=>Q (!c) H1
theorem dD (ha:PT X a tA):PW X (.BoolOp .And [a] pos) tA:=by
 refine ⟨?_⟩
 intro wh pins s σ H Q I h
 refine isTrue_and (bA (ha pins s σ H Q I h) fun c s1 e=>?_)
 cases c with
 | true=>exact isTrue_and_nil e
 | false=>exact e
theorem cm (ha:PT X a tA):PW X (.BoolOp .Or [a] pos) tA:=by
 refine ⟨?_⟩
 intro wh pins s σ H Q I h
 refine isTrue_or (bA (ha pins s σ H Q I h) fun c s1 e=>?_)
 cases c with
 | false=>exact isTrue_or_nil e
 | true=>exact e
theorem fg (ha:PT X a tA) (hb:PW X (.BoolOp .And (b::rest) pos) tB'):PW X (.BoolOp .And (a::b::rest) pos) (zE tA tB'):=by
 refine ⟨?_⟩
 intro wh pins s σ H Q I h
 refine isTrue_and (bA (ha pins s σ H _ I h) fun c s1 ⟨H1,I1,q1⟩=>?_)
 cases c with
 | true=>exact hb wh pins s1 σ H1 Q I1 q1
 | false=>exact ⟨H1,I1,q1⟩
theorem cM (ha:PT X a tA) (hb:PW X (.BoolOp .Or (b::rest) pos) tB'):PW X (.BoolOp .Or (a::b::rest) pos) (Bb tA tB'):=by
 refine ⟨?_⟩
 intro wh pins s σ H Q I h
 refine isTrue_or (bA (ha pins s σ H _ I h) fun c s1 ⟨H1,I1,q1⟩=>?_)
 cases c with
 | true=>exact ⟨H1,I1,q1⟩
 | false=>exact hb wh pins s1 σ H1 Q I1 q1
theorem cw (ha:PT X a tA):PT X (.UnaryOp .Not a pos) (zF tA):=by
 refine ⟨?_⟩
 intro pins s σ H Q I h
 exact isTrue_not (ha pins s σ H (fun c H1=>Q (!c) H1) I h)
inductive oG (tb:TE) (σ:St) (Q:VK) (x:V) (H1:Hp):Prop
 | mk (c:_):x=.bl c->(if c=true then tb σ H1 Q else Q (.bl false) H1)->oG tb σ Q x H1
def xu (ta tb:TE):TE:=fun σ H Q=>ta σ H fun x H1=>oG tb σ Q x H1
inductive ut (tb:TE) (σ:St) (Q:VK) (x:V) (H1:Hp):Prop
 | mk (c:_):x=.bl c->(if c=true then Q (.bl true) H1 else tb σ H1 Q)->ut tb σ Q x H1
def zG (ta tb:TE):TE:=fun σ H Q=>ta σ H fun x H1=>ut tb σ Q x H1
inductive oH (Q:VK) (x:V) (H1:Hp):Prop
 | mk (c:_):x=.bl c->Q (.bl (!c)) H1->oH Q x H1
def xw (ta:TE):TE:=fun σ H Q=>ta σ H fun x H1=>oH Q x H1
theorem bU {op} {t:TE} (h:PE X a t):PE X (.BoolOp op [a] pos) t:=⟨fun pins s σ H Q I hw=>BoolOp_one (h pins s σ H Q I hw)⟩
theorem bI (ha:PE X a ta) (hb:PE X (.BoolOp .And (b::rest) pos) tb):PE X (.BoolOp .And (a::b::rest) pos) (xu ta tb):=by
 refine ⟨?_⟩
 intro pins s σ H Q I h
 refine BoolOp_and (bA (ha pins s σ H _ I h) fun v s1 ⟨x,H1,I1,r1,q1⟩=>?_)
 obtain ⟨c,rfl,q1⟩:=q1
 cases r1
 refine wpAny_truthy_bool ?_
 cases c with
 | true=>exact hb pins s1 σ H1 Q I1 q1
 | false=>exact ⟨.bl false,H1,I1,rfl,q1⟩
theorem uu (ha:PE X a ta) (hb:PE X (.BoolOp .Or (b::rest) pos) tb):PE X (.BoolOp .Or (a::b::rest) pos) (zG ta tb):=by
 refine ⟨?_⟩
 intro pins s σ H Q I h
 refine BoolOp_or (bA (ha pins s σ H _ I h) fun v s1 ⟨x,H1,I1,r1,q1⟩=>?_)
 obtain ⟨c,rfl,q1⟩:=q1
 cases r1
 refine wpAny_truthy_bool ?_
 cases c with
 | false=>exact hb pins s1 σ H1 Q I1 q1
 | true=>exact ⟨.bl true,H1,I1,rfl,q1⟩
theorem u8 (ha:PE X a ta):PE X (.UnaryOp .Not a pos) (xw ta):=by
 refine ⟨?_⟩
 intro pins s σ H Q I h
 refine UnaryOp_ (bA (ha pins s σ H _ I h) fun v s1 ⟨x,H1,I1,r1,q1⟩=>?_)
 obtain ⟨c,rfl,q1⟩:=q1
 cases r1
 exact not_of (wpAny_truthy_bool ⟨.bl (!c),H1,I1,rfl,q1⟩)
def Be (t:TT) (ta tb:TE):TE:=fun σ H Q=>t σ H fun c H1=>if c=true then ta σ H1 Q else tb σ H1 Q
theorem dq {c:Expr} (hc:PT X c tA) (ha:PE X a ta) (hb:PE X b tb):PE X (.IfExp c a b pos) (Be tA ta tb):=by
 refine ⟨?_⟩
 intro pins s σ H Q I h
 refine wpAny_IfExp (bA (hc pins s σ H _ I h) fun d s1 ⟨H1,I1,q1⟩=>?_)
 cases d with
 | true=>exact ha pins s1 σ H1 Q I1 q1
 | false=>exact hb pins s1 σ H1 Q I1 q1
end
end L2
namespace L2
open PySem PySem.Spec PyProof.Rows
def SqL (K:PySem.W.Frag) (H:Hp) (a:Addr) (xs:List V):Prop:=
 Rd H a (.lst xs) ∨
  ∃ (o:Obj) (its:Array Value) (n:Nat),K.lookup a=some o/\o.cls=.type "list"/\o.dict=none/\o.data=.seq its n/\its.size<=sizeLine/\Vals xs its.toList
def SqT (K:PySem.W.Frag) (H:Hp) (a:Addr) (xs:List V):Prop:=
 Rd H a (.tup xs) ∨
  ∃ (o:Obj) (its:Array Value) (n:Nat),K.lookup a=some o/\o.cls=.type "tuple"/\o.data=.seq its n/\its.size<=sizeLine/\Vals xs its.toList
def zH:Value->Option V
 | .none=>some .non
 | .bool b=>some (.bl b)
 | .int i _=>some (.int i)
 | .str x _=>some (.str x)
 | .bytes b _=>some (.byt b)
 | .float b _=>some (.flt b)
 | .ref a=>some (.ref a)
 | .type n=>some (.ty n)
 | _=>none
theorem RelV.abs {x:V} {u:Value} (r:RelV x u):zH u=some x:=by
 cases x with
 | non=>cases r;rfl
 | bl _=>cases r;rfl
 | int _=>obtain ⟨t,rfl⟩:=r;rfl
 | str _=>obtain ⟨t,rfl⟩:=r;rfl
 | byt _=>obtain ⟨t,rfl⟩:=r;rfl
 | flt _=>obtain ⟨t,rfl⟩:=r;rfl
 | ref _=>cases r;rfl
 | ty _=>cases r;rfl
theorem RelV.inj {x y:V} {u:Value} (r:RelV x u) (q:RelV y u):x=y:=BY (r.abs.symm.trans q.abs)
theorem Vals.inj:∀ {xs ys:List V} {us:List Value},Vals xs us->Vals ys us->xs=ys
 | _,_,_,.nil,.nil=>rfl
 | _,_,_,.cons r t,.cons r' t'=>by rw [r.inj r',Vals.inj t t']
section
variable {X:Cx} {pins:List (Addr×Obj)} {σ:St} {H:Hp} {s:Shared} {a:Addr} {xs ys:List V}
theorem SqL.of {K:PySem.W.Frag} (h:H a=some (.lst xs)):SqL K H a xs:=.inl (.inl h)
theorem SqT.of {K:PySem.W.Frag} (h:H a=some (.tup xs)):SqT K H a xs:=.inl (.inl h)
theorem Inv.list (I:Inv X pins σ H s) (h:SqL X.K H a xs):∃ its:List Value,Vals xs its/\PlainL s.heap a its.toArray/\xs.length<=sizeLine:=by
 rcases h with h|⟨o,its,n,hk,hc,hd,hs,hz,r⟩
 ·obtain ⟨z,its,n,r,e⟩:=h.ok I.hok
  exact ⟨its,r,⟨_,n,e,rfl,rfl,rfl⟩,z⟩
 ·refine ⟨its.toList,r,⟨o,n,I.kIn a o hk,hc,hd,by simpa using hs⟩,?_⟩
  have e:=r.length
  simp only [CI] at e
  omega
theorem Inv.tuple (I:Inv X pins σ H s) (h:SqT X.K H a xs):∃ its:List Value,Vals xs its/\IsTup s.heap a its.toArray/\xs.length<=sizeLine:=by
 rcases h with h|⟨o,its,n,hk,hc,hs,hz,r⟩
 ·obtain ⟨z,its,r,p⟩:=h.ok I.hok
  exact ⟨its,r,p.up,z⟩
 ·refine ⟨its.toList,r,⟨o,I.kIn a o hk,hc,n,by simpa using hs⟩,?_⟩
  have e:=r.length
  simp only [CI] at e
  omega
theorem Inv.list_inj (I:Inv X pins σ H s) (h:SqL X.K H a xs) (h':SqL X.K H a ys):xs=ys:=by
 obtain ⟨its,r,⟨o,n,e,_,_,d⟩,_⟩:=I.list h
 obtain ⟨its',r',⟨o',n',e',_,_,d'⟩,_⟩:=I.list h'
 rw [e] at e';cases e'
 rw [d] at d'
 injection d' with d1 _
 have:its=its':=by simpa using congrArg Array.toList d1
 subst this
 exact r.inj r'
theorem Inv.tuple_inj (I:Inv X pins σ H s) (h:SqT X.K H a xs) (h':SqT X.K H a ys):xs=ys:=by
 obtain ⟨its,r,⟨o,e,_,n,d⟩,_⟩:=I.tuple h
 obtain ⟨its',r',⟨o',e',_,n',d'⟩,_⟩:=I.tuple h'
 rw [e] at e';cases e'
 rw [d] at d'
 injection d' with d1 _
 have:its=its':=by simpa using congrArg Array.toList d1
 subst this
 exact r.inj r'
end
abbrev Cx.wish (X:Cx) (E:Value->Shared->Prop):Cx:={ X with xe:=E }
abbrev Cx.nox (X:Cx):Cx:=X.wish fun _ _=>False
theorem Cx.Ok.wish {X:Cx} (ok:X.Ok) (E:Value->Shared->Prop):(X.wish E).Ok:=
 ⟨ok.mod,ok.kind,ok.glob,ok.blt,ok.above,ok.inj,ok.has,ok.cab,ok.hd,ok.frames,ok.stk,ok.exf,ok.bs,ok.bsz,ok.noex,ok.exfs,ok.funs,ok.frf⟩
theorem Cx.Ok.unwish {X:Cx} {E:Value->Shared->Prop} (ok:(X.wish E).Ok):X.Ok:=
 ⟨ok.mod,ok.kind,ok.glob,ok.blt,ok.above,ok.inj,ok.has,ok.cab,ok.hd,ok.frames,ok.stk,ok.exf,ok.bs,ok.bsz,ok.noex,ok.exfs,ok.funs,ok.frf⟩
section
variable {X:Cx} {pins:List (Addr×Obj)} {σ:St} {H:Hp} {s:Shared} {E:Value->Shared->Prop}
theorem Inv.wish (I:Inv X pins σ H s) (E:Value->Shared->Prop):Inv (X.wish E) pins σ H s:=⟨I.ok.wish E,I.os,I.bare,I.base,I.loc,I.cell,I.free,I.freeC,I.pin,I.hok,I.len⟩
theorem Inv.unwish (I:Inv (X.wish E) pins σ H s):Inv X pins σ H s:=⟨I.ok.unwish,I.os,I.bare,I.base,I.loc,I.cell,I.free,I.freeC,I.pin,I.hok,I.len⟩
theorem SP.unwish {D:Ends} {f:Flow} {s':Shared} (h:SP (X.wish E) pins D f s'):SP X pins D f s':=by
 cases f with
 | next=>obtain ⟨σ',H',I,q⟩:=h;exact ⟨σ',H',I.unwish,q⟩
 | brk=>obtain ⟨σ',H',I,q⟩:=h;exact ⟨σ',H',I.unwish,q⟩
 | cont=>obtain ⟨σ',H',I,q⟩:=h;exact ⟨σ',H',I.unwish,q⟩
 | ret u=>obtain ⟨v,σ',H',I,r,q⟩:=h;exact ⟨v,σ',H',I.unwish,r,q⟩
theorem PSs.nox {st:List Stmt} {t:TS} (h:PSs X.nox st t):PSs X st t:=⟨fun pins s σ H D I hw=>
 wpAny_mono (h pins s σ H D (I.wish _) hw) (fun _ _ q=>q.unwish) fun _ _ z=>False.elim z⟩
end
section
variable {X:Cx} {st:Stmt} {rest:List Stmt} {t u:TS} {e:Expr} {te:TE} {pos:Pos}
def xy:TS:=fun D σ H=>D.nx σ H
def zI (t u:TS):TS:=fun D σ H=>t { D with nx:=u D } σ H
theorem aw:PSs X [] xy:=⟨fun _ _ σ H _ I h=>wpAny_execs_nil ⟨σ,H,I,h⟩⟩
theorem ak (h1:PS X st t) (h2:PSs X rest u):PSs X (st::rest) (zI t u):=by
 refine ⟨?_⟩
 intro pins s σ H D I h
 refine wpAny_execs_cons (bA (h1 pins s σ H { D with nx:=u D } I h) fun f s1 q=>?_)
 cases f with
 | next=>
  obtain ⟨σ',H',I',q⟩:=q
  exact h2 pins s1 σ' H' D I' q
 | ret v=>exact q
 | brk=>exact q
 | cont=>exact q
theorem ah (h1:PS X st t):PSs X [st] t:=by
 refine ⟨?_⟩
 intro pins s σ H D I h
 refine wpAny_execs_cons (bA (h1 pins s σ H D I h) fun f s1 q=>?_)
 cases f with
 | next=>exact wpAny_execs_nil q
 | ret v=>exact q
 | brk=>exact q
 | cont=>exact q
theorem Inv.quiet {pins:List (Addr×Obj)} {σ:St} {H:Hp} {s:Shared} (I:Inv X pins σ H s):interactive X.env=false:=by simp [interactive,I.ok.kind]
def xz (te:TE):TS:=fun D σ H=>te σ H fun _ H1=>D.nx σ H1
theorem eT (he:PE X e te) (hs:swapsWith e none pos.line X.env=pure false:=by rfl):PS X (.Expr e pos) (xz te):=by
 refine ⟨?_⟩
 intro pins s σ H D I h
 exact wpAny_Expr_any (bA (he pins s σ H _ I h) fun v s1 ⟨x,H1,I1,r1,q1⟩=>⟨σ,H1,I1,q1⟩) I.quiet hs
def zJ (te:TE):TS:=fun D σ H=>te σ H D.rt
theorem am (he:PE X e te):PS X (.Return (some e) pos) (zJ te):=by
 refine ⟨?_⟩
 intro pins s σ H D I h
 exact wpAny_Return_some (bA (he pins s σ H _ I h) fun v s1 ⟨x,H1,I1,r1,q1⟩=>⟨x,σ,H1,I1,r1,q1⟩)
def zK (c:TT) (t u:TS):TS:=fun D σ H=>c σ H fun b H1=>if b=true then t D σ H1 else u D σ H1
theorem aH {c:Expr} {a b:List Stmt} {tc:TT} (hc:PT X c tc) (ha:PSs X a t) (hb:PSs X b u):PS X (.If c a b pos) (zK tc t u):=by
 refine ⟨?_⟩
 intro pins s σ H D I h
 refine wpAny_If (bA (hc pins s σ H _ I h) fun d s1 ⟨H1,I1,q1⟩=>?_)
 cases d with
 | true=>exact ha pins s1 σ H1 D I1 q1
 | false=>exact hb pins s1 σ H1 D I1 q1
def va:TS:=fun _ _ _=>False
theorem kj:PS X st va:=⟨fun _ _ _ _ _ _ h=>h.elim⟩
end
abbrev TG:=V->St->Hp->(St->Hp->Prop)->Prop
abbrev xi:=List V->St->Hp->(St->Hp->Prop)->Prop
def PG (X:Cx) (target:Expr) (t:TG):Prop:=
 ∀ (pins:List (Addr×Obj)) (s:Shared) (σ:St) (H:Hp) (v:V) (u:Value) (Q:St->Hp->Prop),Inv X pins σ H s->RelV v u->t v σ H Q->
  wpAny (model X.prog X.w) X.A (assign target X.env u) (fun _ s'=>∃ σ' H',Inv X pins σ' H' s'/\Q σ' H') X.xe s
def zq (X:Cx) (ts:List Expr) (t:xi):Prop:=
 ∀ (pins:List (Addr×Obj)) (s:Shared) (σ:St) (H:Hp) (vs:List V) (us:List Value) (Q:St->Hp->Prop),Inv X pins σ H s->Vals vs us->t vs σ H Q->
  wpAny (model X.prog X.w) X.A (assignInOrder ((assignEach ts X.env).map (·.2)) us) (fun _ s'=>∃ σ' H',Inv X pins σ' H' s'/\Q σ' H') X.xe s
abbrev vb:=V->V->V->Hp->(Hp->Prop)->Prop
def xA (X:Cx) (t:vb):Prop:=
 ∀ (pins:List (Addr×Obj)) (s:Shared) (σ:St) (H:Hp) (o i v:V) (ov iv u:Value) (Q:Hp->Prop),Inv X pins σ H s->RelV o ov->RelV i iv->RelV v u->t o i v H Q->
  wpAny (model X.prog X.w) X.A (setItem ov iv u) (fun _ s'=>∃ H',Inv X pins σ H' s'/\Q H') X.xe s
section
variable {X:Cx} {pos:Pos}
def uv (i:Nat):TG:=fun v σ H Q=>Q (σ.set i (some v)) H
theorem bt {i:Nat} {x:Str} (hN:X.N.Nodup) (hi:X.N[i]?=some x) (hx:zo X.env.scope x) (hf:X.fn x=true\/X.env.scope.names.lookup x=some .local:=by first|exact .inl rfl|exact .inr rfl|assumption):PG X (.Name x pos) (uv i):=by
 intro pins s σ H v u Q I r h
 exact wpAny_assign_Name (gV I hN hi hx r (fun s' I'=>⟨_,H,I',h⟩) hf)
def zL:xi:=fun vs σ H Q=>vs=[]/\Q σ H
inductive uw (t:TG) (u:xi) (vs:List V) (σ:St) (H:Hp) (Q:St->Hp->Prop):Prop
 | mk (v r:_):vs=v::r->(t v σ H fun σ' H'=>u r σ' H' Q)->uw t u vs σ H Q
theorem mC:zq X [] zL:=by
 intro pins s σ H vs us Q I r h
 obtain ⟨e,h⟩:=h
 subst e
 cases r
 exact assignInOrder_nil ⟨σ,H,I,h⟩
theorem eg {e:Expr} {es:List Expr} {t:TG} {u:xi} (h1:PG X e t) (h2:zq X es u)
  (hs:(assignEach (e::es) X.env).map (·.2)=assign e X.env::(assignEach es X.env).map (·.2):=by rfl):zq X (e::es) (uw t u):=by
 intro pins s σ H vs us Q I r h
 obtain ⟨v,vr,e1,h⟩:=h
 subst e1
 cases r with
 | cons r rr=>
  rw [hs]
  refine assignInOrder_cons (bA (h1 pins s σ H _ _ _ I r h) fun _ s1 ⟨σ1,H1,I1,q1⟩=>?_)
  exact h2 pins s1 σ1 H1 _ _ Q I1 rr q1
inductive xC (K:PySem.W.Frag) (n:Nat) (t:xi) (v:V) (σ:St) (H:Hp) (Q:St->Hp->Prop):Prop
 | mk (a xs:_):v=.ref a->SqT K H a xs->xs.length=n->t xs σ H Q->xC K n t v σ H Q
theorem oJ {es:List Expr} {k:Nat} {t:xi} {n:Nat} (hc:X.calm=true) (h:zq X es t)
  (hn:(assignEach es X.env).length=n:=by rfl) (hst:(assignEach es X.env).findIdx? (·.1)=none:=by rfl):PG X (.Tuple es k pos) (xC X.K n t):=by
 intro pins s σ H v u Q I r hw
 obtain ⟨a,xs,e1,hq,hl,hw⟩:=hw
 subst e1
 cases r
 obtain ⟨its,rv,ht,hz⟩:=I.tuple hq
 refine assign_Tuple_tuple (I.ok.hd hc) ht (by simp [hn,<-hl,rv.length]) hst fun h' hx=>?_
 have I1:Inv X pins σ H { s with heap:=h' }:=I.kept (t':=s.toks) fun b o e=>hx b o (BX (BI e)) e
 exact h pins _ σ H xs _ Q I1 (by simpa using rv) hw
def zM (to ti:TE) (t:vb):TG:=fun v σ H Q=>to σ H fun o H1=>ti σ H1 fun i H2=>t o i v H2 fun H3=>Q σ H3
theorem lC {o i:Expr} {to ti:TE} {t:vb} (ho:PE X o to) (hi:PE X i ti) (hs:xA X t)
  (ha:∀ v,assign (.Subscript o i pos) X.env v=(do
   let ov <-holding [v] (eval o X.env)
   let iv <-holding [v,ov] (eval i X.env)
   standAt pos
   holding [v,ov,iv] (setItem ov iv v)
   release [v,ov,iv] []):=by intro _;rfl):PG X (.Subscript o i pos) (zM to ti t):=by
 intro pins s σ H v u Q I r h
 rw [ha]
 refine wpAny_bind (wpAny_holding (bA (ho pins s σ H _ I h) fun ov s1 ⟨x,H1,I1,r1,q1⟩=>?_))
 refine wpAny_bind (wpAny_holding (bA (hi pins s1 σ H1 _ I1 q1) fun iv s2 ⟨y,H2,I2,r2,q2⟩=>?_))
 refine wpAny_bind (wpAny_standAt (wpAny_bind (wpAny_holding (bA (hs pins s2 σ H2 x y v ov iv u _ I2 r1 r2 r q2) fun _ s3 ⟨H3,I3,q3⟩=>?_))))
 exact wpAny_release ⟨σ,H3,I3,q3⟩
def xD (te:TE) (g:TG):TS:=fun D σ H=>te σ H fun x H1=>g x σ H1 D.nx
theorem gW {tg e:Expr} {te:TE} {g:TG} (he:PE X e te) (hg:PG X tg g) (hs:swapsWithSole [tg] e pos.line X.env=pure false:=by rfl) (hw:swappedStores [tg] e X.env=pure none:=by rfl)
  (h1:(assignEach [tg] X.env).map (·.2)=[assign tg X.env]:=by rfl):PS X (.Assign [tg] e pos) (xD te g):=by
 refine ⟨?_⟩
 intro pins s σ H D I h
 refine wpAny_Assign_stores (bA (he pins s σ H _ I h) fun v s1 ⟨x,H1,I1,r1,q1⟩=>?_) hs hw
 rw [h1]
 exact bA (hg pins s1 σ H1 x v _ I1 r1 q1) fun _ s2 q=>q
theorem a6 {i:Nat} {x:Str} {e:Expr} {te:TE} {pos':Pos} (hN:X.N.Nodup) (hi:X.N[i]?=some x) (hx:zo X.env.scope x) (he:PE X e te) (hs:swapsWith e (some (.Name x pos')) pos.line X.env=pure false:=by rfl) (hf:X.fn x=true\/X.env.scope.names.lookup x=some .local:=by first|exact .inl rfl|exact .inr rfl|assumption) :
  PS X (.Assign [.Name x pos'] e pos) (xD te (uv i)):=by
 refine ⟨?_⟩
 intro pins s σ H D I h
 refine wpAny_Assign_Name (bA (he pins s σ H _ I h) fun v s1 ⟨y,H1,I1,r1,q1⟩=>?_) hs
 exact gV I1 hN hi hx r1 (fun s2 I2=>⟨_,H1,I2,q1⟩) hf
end
structure It where
 go:Nat->Hp->Prop
 yld:Nat->Hp->V->Hp->Prop
 stop:Nat->Hp->Prop
def jr (X:Cx) (pins:List (Addr×Obj)) (H:Hp) (b:Addr):Prop:=
 H b=none/\b≠X.env.locals/\b∉X.fs/\(b∈X.ex\/X.s₀.heap.objs.size<=b)/\(∀ x c,X.env.cells.lookup x=some c->c≠b)/\∀ p∈X.pn++pins,p.1≠b
theorem Inv.fpOk {X:Cx} {pins:List (Addr×Obj)} {σ:St} {H H':Hp} {s:Shared} {b:Addr} (I:Inv X pins σ H s) (hb:s.heap.objs.size<=b) (hn:H' b=none):jr X pins H' b:=by
 refine ⟨hn,Nat.ne_of_gt (BQ I.lt hb),I.nofs hb,.inr (BN I.sz hb),fun x c e z=>?_,fun p hp z=>?_⟩
 ·obtain ⟨v,q⟩:=I.cell x c e
  exact absurd (BQ q.lt (by rw [z];exact hb)) (Ci _)
 ·exact absurd (BQ (BI (I.pin p hp).1) (by rw [z];exact hb)) (Ci _)
structure nS (P:Program) (w:World) (K:PySem.W.Frag) (tg:Expr) (J:It) (fp:List Addr) (it:Addr) (tn:Nat->Heap->Prop):Prop where
 mem:it∈fp
 obj:∀ i h,tn i h->∀ b∈fp,∃ o,h.get? b=some o/\∀ v,o.data≠.cell v
 keep:∀ i h h',tn i h->(∀ b∈fp,∀ o,h.get? b=some o->h'.get? b=some o)->tn i h'
 item:∀ (X:Cx),X.prog=P->X.w=w->X.K=K->X.calm=true->∀ (i:Nat) (pins:List (Addr×Obj)) (s:Shared) (σ:St) (H:Hp) (E:Value->Shared->Prop),Inv X pins σ H s->(∀ b∈fp,jr X pins H b)->tn i s.heap->J.go i H->
  wpAny (model P w) X.A (pyNext (.ref it)) (fun r s1=>∃ u,r=some u /\
   wpAny (model P w) X.A (letOwnedTupleGo tg (.ref it) u) (fun _ s2=>∃ x H',Inv X pins σ H' s2/\RelV x u/\J.yld i H x H'/\tn (i+1) s2.heap/\∀ b∈fp,H' b=none) E s1) E s
 done:∀ (X:Cx),X.prog=P->X.w=w->X.K=K->X.calm=true->∀ (i:Nat) (pins:List (Addr×Obj)) (s:Shared) (σ:St) (H:Hp) (E:Value->Shared->Prop),Inv X pins σ H s->(∀ b∈fp,jr X pins H b)->tn i s.heap->J.stop i H->
  wpAny (model P w) X.A (pyNext (.ref it)) (fun r s1=>r=none/\Inv X pins σ H s1) E s
 self:∀ (A:Around) (i:Nat) (s:Shared) (Q:Value->Shared->Prop) (E:Value->Shared->Prop),tn i s.heap->Q (.ref it) s->wpAny (model P w) A (pyIter (.ref it)) Q E s
abbrev TI:=St->Hp->(It->Hp->Prop)->Prop
inductive zr (X:Cx) (pins:List (Addr×Obj)) (σ:St) (tg:Expr) (R:It->Hp->Prop) (itv:Value) (s2:Shared):Prop
 | mk (it:Addr) (fp:List Addr) (tn:Nat->Heap->Prop) (J:It) (H':Hp):itv=.ref it->Inv X pins σ H' s2->nS X.prog X.w X.K tg J fp it tn->tn 0 s2.heap->(∀ b∈fp,jr X pins H' b)->R J H'->zr X pins σ tg R itv s2
structure PI (X:Cx) (tg iter:Expr) (wi:TI):Prop where
 run:∀ (pins:List (Addr×Obj)) (s:Shared) (σ:St) (H:Hp) (R:It->Hp->Prop),Inv X pins σ H s->wi σ H R->
  wpAny (model X.prog X.w) X.A (eval iter X.env) (fun v s1=>wpAny (model X.prog X.w) X.A (pyIter v) (zr X pins σ tg R) X.xe s1) X.xe s
instance {X:Cx} {tg iter:Expr} {wi:TI}:CoeFun (PI X tg iter wi) fun _=>∀ (pins:List (Addr×Obj)) (s:Shared) (σ:St) (H:Hp) (R:It->Hp->Prop),Inv X pins σ H s->wi σ H R->
  wpAny (model X.prog X.w) X.A (eval iter X.env) (fun v s1=>wpAny (model X.prog X.w) X.A (pyIter v) (zr X pins σ tg R) X.xe s1) X.xe s:=⟨PI.run⟩
theorem kl {M:Model} {A:Around} {E:Value->Shared->Prop} {s:Shared} {tg:Expr} {it:Addr} {u:Value} {o:Obj} {n:String} {vs:Array Value} {Q:Unit->Shared->Prop} (ho:s.heap.get? it=some o) (hc:o.cls=.type n) (hd:o.data=.fields vs)
  (hn:["enumerate","zip","dict_itemiterator","dict_reverseitemiterator","odict_iterator","itertools.zip_longest","itertools.pairwise"].contains n=false) (hQ:Q () s):wpAny M A (letOwnedTupleGo tg (.ref it) u) Q E s:=by
 unfold letOwnedTupleGo
 cases tg<;>first
  | exact wpAny_pure hQ
  | (cases u<;>first
    | exact wpAny_pure hQ
    | (refine wpAny_bind (wpAny_load ho ?_)
       rw [hc,hd]
       show wpAny M A (if (["enumerate","zip","dict_itemiterator","dict_reverseitemiterator","odict_iterator","itertools.zip_longest","itertools.pairwise"].contains n && vs[0]? == some (rawInt _))=true then _ else _) Q E s
       rw [if_neg (by intro h;rw [hn,Bool.false_and] at h;cases h)]
       exact wpAny_pure hQ))
def zN (K:PySem.W.Frag) (a:Addr):It:=
 ⟨fun i H=>∃ xs x,SqL K H a xs/\xs[i]?=some x,fun i H x H'=>H'=H/\∀ xs,SqL K H a xs->xs[i]?=some x,fun i H=>∃ xs,SqL K H a xs/\xs.length<=i⟩
def xj (K:PySem.W.Frag) (a:Addr):It:=
 ⟨fun i H=>∃ xs x,SqT K H a xs/\xs[i]?=some x,fun i H x H'=>H'=H/\∀ xs,SqT K H a xs->xs[i]?=some x,fun i H=>∃ xs,SqT K H a xs/\xs.length<=i⟩
def vc (lo:Int) (n:Nat):It:=⟨fun i _=>i < n,fun i H x H'=>H'=H/\x=.int (lo+i),fun i _=>n<=i⟩
theorem nU {P:Program} {w:World} {K:PySem.W.Frag} {tg:Expr} (a it:Addr):nS P w K tg (zN K a) [it] it (fun i h=>h.IsListIter it a i) where
 mem:=by simp
 obj:=fun i h st b hb=>by
  have e:b=it:=by simpa using hb
  subst e
  obtain ⟨o,e,c,d⟩:=st
  exact ⟨o,e,fun v z=>by rw [d] at z;cases z⟩
 keep:=fun i h h' st k=>st.at fun o e=>k it (by simp) o e
 item:=by
  intro X hP hw hK hc i pins s σ H E I hf st hg
  subst hP hw hK
  obtain ⟨xs,x,hq,hx⟩:=hg
  obtain ⟨its,rv,p,hz⟩:=I.list hq
  obtain ⟨u,hu,ru⟩:=rv.get hx
  obtain ⟨f0,f1,f2,f3,f4,f5⟩:=hf it (by simp)
  refine wpAny_pyNext_list_item st p.isList (x:=u) (by simpa using hu) fun h' st' sb=>?_
  have I1:Inv X pins σ H { s with heap:=h' }:=I.turned (t':=s.toks) (fun b o hb e=>(sb.2 b hb).trans e) f0 f1 f3 f4 f5
  obtain ⟨o,e,c,d⟩:=id st'
  exact ⟨u,rfl,kl (s:={ s with heap:=h' }) e c d (by decide) ⟨x,H,I1,ru,⟨rfl,fun ys hy=>by rw [I.list_inj hy hq];exact hx⟩,st',fun b hb=>(hf b hb).1⟩⟩
 done:=by
  intro X hP hw hK hc i pins s σ H E I hf st hg
  subst hP hw hK
  obtain ⟨xs,hq,hx⟩:=hg
  obtain ⟨its,rv,p,hz⟩:=I.list hq
  obtain ⟨f0,f1,f2,f3,f4,f5⟩:=hf it (by simp)
  have hl:=rv.length
  exact wpAny_pyNext_list_end (I.ok.hd hc) st p.isList (by simp;omega) fun h' eb=>⟨rfl,I.turned (t':=s.toks) (fun b o hb e=>eb b o hb e) f0 f1 f3 f4 f5⟩
 self:=fun _ _ _ _ _ st h=>wpAny_pyIter_listiter st h
theorem lD {P:Program} {w:World} {K:PySem.W.Frag} {tg:Expr} (a it:Addr):nS P w K tg (xj K a) [it] it (fun i h=>h.IsTupleIter it a i) where
 mem:=by simp
 obj:=fun i h st b hb=>by
  have e:b=it:=by simpa using hb
  subst e
  obtain ⟨o,e,c,d⟩:=st
  exact ⟨o,e,fun v z=>by rw [d] at z;cases z⟩
 keep:=fun i h h' st k=>st.at fun o e=>k it (by simp) o e
 item:=by
  intro X hP hw hK hc i pins s σ H E I hf st hg
  subst hP hw hK
  obtain ⟨xs,x,hq,hx⟩:=hg
  obtain ⟨its,rv,p,hz⟩:=I.tuple hq
  obtain ⟨u,hu,ru⟩:=rv.get hx
  obtain ⟨f0,f1,f2,f3,f4,f5⟩:=hf it (by simp)
  refine wpAny_pyNext_tuple_item st (show s.heap.IsTuple a its.toArray from p) (x:=u) (by simpa using hu) fun h' st' sb=>?_
  have I1:Inv X pins σ H { s with heap:=h' }:=I.turned (t':=s.toks) (fun b o hb e=>(sb.2 b hb).trans e) f0 f1 f3 f4 f5
  obtain ⟨o,e,c,d⟩:=id st'
  exact ⟨u,rfl,kl (s:={ s with heap:=h' }) e c d (by decide) ⟨x,H,I1,ru,⟨rfl,fun ys hy=>by rw [I.tuple_inj hy hq];exact hx⟩,st',fun b hb=>(hf b hb).1⟩⟩
 done:=by
  intro X hP hw hK hc i pins s σ H E I hf st hg
  subst hP hw hK
  obtain ⟨xs,hq,hx⟩:=hg
  obtain ⟨its,rv,p,hz⟩:=I.tuple hq
  obtain ⟨f0,f1,f2,f3,f4,f5⟩:=hf it (by simp)
  have hl:=rv.length
  exact wpAny_pyNext_tuple_end (I.ok.hd hc) st (show s.heap.IsTuple a its.toArray from p) (by simp;omega) fun h' eb=>⟨rfl,I.turned (t':=s.toks) (fun b o hb e=>eb b o hb e) f0 f1 f3 f4 f5⟩
 self:=fun _ _ _ _ _ st h=>wpAny_pyIter_tupleiter st h
theorem lE {P:Program} {w:World} {K:PySem.W.Frag} {tg:Expr} (it:Addr) (lo:Int) (n:Nat):nS P w K tg (vc lo n) [it] it (fun i h=>IsRangeIter h it (lo+(i:Nat)*1) ((n:Int) - (i:Nat)) 1) where
 mem:=by simp
 obj:=fun i h st b hb=>by
  have e:b=it:=by simpa using hb
  subst e
  exact ⟨_,st,fun v z=>by
   have z':Data.fields _=Data.cell v:=z
   cases z'⟩
 keep:=fun i h h' st k=>k it (by simp) _ st
 item:=by
  intro X hP hw hK hc i pins s σ H E I hf st hg
  subst hP hw hK
  obtain ⟨f0,f1,f2,f3,f4,f5⟩:=hf it (by simp)
  have W:=Walks.range (prog:=X.prog) (w:=X.w) (I.ok.hd hc) it lo 1 n
  refine W.item i s _ _ hg st fun v h' tk hv st' kk=>?_
  obtain ⟨t,rfl⟩:=hv
  have I1:Inv X pins σ H { s with heap:=h',toks:=tk }:=I.turned (fun b o hb e=>kk b o (by simpa using hb) e) f0 f1 f3 f4 f5
  refine ⟨_,rfl,kl (s:={ s with heap:=h',toks:=tk }) (n:="range_iterator") st' rfl rfl (by decide) ⟨.int (lo+i),H,I1,⟨t,?_⟩,⟨rfl,rfl⟩,st',fun b hb=>(hf b hb).1⟩⟩
  rw [Int.mul_one]
 done:=by
  intro X hP hw hK hc i pins s σ H E I hf st hg
  subst hP hw hK
  obtain ⟨f0,f1,f2,f3,f4,f5⟩:=hf it (by simp)
  exact wpAny_pyNext_range_end (I.ok.hd hc) st (by have:n<=i:=hg;omega) fun h' eb=>⟨rfl,I.turned (t':=s.toks) (fun b o hb e=>eb b o hb e) f0 f1 f3 f4 f5⟩
 self:=fun _ _ _ _ _ st h=>wpAny_pyIter_rangeiter st h
end L2
namespace L2
open PySem PySem.Spec PyProof.Rows
section
variable {X:Cx} {tg:Expr}
inductive oK (K:PySem.W.Frag) (R:It->Hp->Prop) (x:V) (H1:Hp):Prop
 | mk (a:_):x=.ref a->(∃ xs,SqL K H1 a xs)->R (zN K a) H1->oK K R x H1
def xE (K:PySem.W.Frag) (tl:TE):TI:=fun σ H R=>tl σ H fun x H1=>oK K R x H1
inductive ux (K:PySem.W.Frag) (R:It->Hp->Prop) (x:V) (H1:Hp):Prop
 | mk (a:_):x=.ref a->(∃ xs,SqT K H1 a xs)->R (xj K a) H1->ux K R x H1
def zO (K:PySem.W.Frag) (tl:TE):TI:=fun σ H R=>tl σ H fun x H1=>ux K R x H1
theorem rF {l:Expr} {tl:TE} (hl:PE X l tl):PI X tg l (xE X.K tl):=by
 refine ⟨?_⟩
 intro pins s σ H R I h
 refine bA (hl pins s σ H _ I h) fun v s1 ⟨x,H1,I1,r1,q1⟩=>?_
 obtain ⟨a,e,⟨xs,hq⟩,q⟩:=q1
 subst e
 cases r1
 obtain ⟨its,rv,p,hz⟩:=I1.list hq
 refine wpAny_pyIter_list p.isList ?_
 refine ⟨s1.heap.objs.size,[s1.heap.objs.size],_,_,H1,rfl,I1.kept (t':=s1.toks) fun b o e=>BB _ e,nU a _,⟨_,BU _ rfl,rfl,rfl⟩,fun b hb=>?_,q⟩
 have e:b=s1.heap.objs.size:=by simpa using hb
 subst e
 exact I1.fpOk (BG _) (I1.hok.fresh (BG _))
theorem fh {l:Expr} {tl:TE} (hl:PE X l tl):PI X tg l (zO X.K tl):=by
 refine ⟨?_⟩
 intro pins s σ H R I h
 refine bA (hl pins s σ H _ I h) fun v s1 ⟨x,H1,I1,r1,q1⟩=>?_
 obtain ⟨a,e,⟨xs,hq⟩,q⟩:=q1
 subst e
 cases r1
 obtain ⟨its,rv,p,hz⟩:=I1.tuple hq
 refine wpAny_pyIter_tuple (show s1.heap.IsTuple a its.toArray from p) ?_
 refine ⟨s1.heap.objs.size,[s1.heap.objs.size],_,_,H1,rfl,I1.kept (t':=s1.toks) fun b o e=>BB _ e,lD a _,⟨_,BU _ rfl,rfl,rfl⟩,fun b hb=>?_,q⟩
 have e:b=s1.heap.objs.size:=by simpa using hb
 subst e
 exact I1.fpOk (BG _) (I1.hok.fresh (BG _))
theorem oM {pins:List (Addr×Obj)} {σ:St} {H:Hp} {s:Shared} {R:It->Hp->Prop} {E:Value->Shared->Prop} {lo hi:Int} {t u v:Tok} {tk:Nat} (I:Inv X pins σ H s) (h1:-(2 ^ 62)<=lo) (h2:lo < 2 ^ 62) (h3:-(2 ^ 62)<=hi) (h4:hi < 2 ^ 62)
  (q:R (vc lo (hi - lo).toNat) H):wpAny (model X.prog X.w) X.A (pyIter (.ref s.heap.objs.size)) (zr X pins σ tg R) E { s with heap:=s.heap.push { cls:=.type "range",data:=.fields #[.int lo t,.int hi u,.int 1 v] },toks:=tk }:=by
 refine wpAny_pyIter_range (IsRange.new ..) (small_one h1 h2 h3 h4) ?_
 have I1:Inv X pins σ H { s with heap:=s.heap.push { cls:=.type "range",data:=.fields #[.int lo t,.int hi u,.int 1 v] },toks:=tk }:=I.kept fun b o e=>BB _ e
 refine ⟨(s.heap.push { cls:=.type "range",data:=.fields #[.int lo t,.int hi u,.int 1 v] }).objs.size,[(s.heap.push { cls:=.type "range",data:=.fields #[.int lo t,.int hi u,.int 1 v] }).objs.size],_,_,H,rfl,
  I1.kept (t':=tk) fun b o e=>BB _ e,lE _ lo (hi - lo).toNat,?_,fun b hb=>?_,q⟩
 ·have e1:lo+((0:Nat):Int)*1=lo:=by simp
  have e2:(((hi - lo).toNat:Nat):Int) - ((0:Nat):Int)=Builtin.Range.rangeSize lo hi 1:=by rw [rangeSize_one];split<;>omega
  show IsRangeIter _ _ (lo+((0:Nat):Int)*1) ((((hi - lo).toNat:Nat):Int) - ((0:Nat):Int)) 1
  rw [e1,e2]
  exact BU _ rfl
 ·have e:b=(s.heap.push { cls:=.type "range",data:=.fields #[.int lo t,.int hi u,.int 1 v] }).objs.size:=by simpa using hb
  subst e
  exact I1.fpOk (BG _) (I1.hok.fresh (BG _))
inductive oN (R:It->Hp->Prop) (vs:List V) (H1:Hp):Prop
 | mk (j:Int):vs=[.int j]->-(2 ^ 62)<=j->j < 2 ^ 62->R (vc 0 j.toNat) H1->oN R vs H1
def xF (ta:TA):TI:=fun σ H R=>ta σ H fun vs H1=>oN R vs H1
theorem gk {a:Expr} {ta:TA} {p pos:Pos} (hg:Gl X "range") (hm:X.mg "range"=none) (ha:PA X [a] ta) (hs:starEach [a] X.env=[(false,eval a X.env)]:=by rfl):PI X tg (.Call (.Name "range" p) [a] [] pos) (xF ta):=by
 refine ⟨?_⟩
 intro pins s σ H R I h
 refine Call_ (jq I hg hm boot_range (PyProof.Rows.callWith_type1 (bA (ha pos pins s σ H _ I h) fun us s1 ⟨vs,H1,I1,r1,q1⟩=>?_) hs rfl))
 obtain ⟨j,e,q1,q2,q⟩:=q1
 subst e
 cases r1 with
 | cons r rr=>
  cases rr
  obtain ⟨t,rfl⟩:=r
  exact call_range_1 (oM I1 (by omega) (by omega) q1 q2 (by simpa using q))
def zP (wi:TI) (g:TG) (tb:TS):TS:=fun D σ H=>wi σ H fun J H1=>∃ W:Nat->Nat->St->Hp->Prop,(∃ m,W 0 m σ H1)/\∀ i m σ H,W i m σ H->
 (J.stop i H/\D.nx σ H)\/(J.go i H/\∃ N:St->Hp->Prop,(∀ σ' H',N σ' H'->∃ m',m' < m/\W (i+1) m' σ' H')/\∀ x H',J.yld i H x H'->g x σ H' fun σ2 H2=>tb { D with nx:=N,ct:=N,bk:=D.nx } σ2 H2)
def de (fp:List Addr) (h:Heap):List (Addr×Obj):=fp.filterMap fun b=>(h.get? b).map fun o=>(b,o)
theorem fj {fp:List Addr} {h:Heap} {b:Addr} {o:Obj} (hb:b∈fp) (e:h.get? b=some o):(b,o)∈de fp h:=List.mem_filterMap.mpr ⟨b,hb,by rw [e];rfl⟩
theorem iI {fp:List Addr} {h:Heap} {p:Addr×Obj} (hp:p∈de fp h):p.1∈fp/\h.get? p.1=some p.2:=by
 obtain ⟨b,hb,e⟩:=List.mem_filterMap.mp hp
 cases q:h.get? b with
 | none=>rw [q] at e;cases e
 | some o=>
  rw [q] at e
  have e':(b,o)=p:=BY e
  subst e'
  exact ⟨hb,q⟩
theorem Inv.pinned {pins:List (Addr×Obj)} {σ:St} {H:Hp} {s:Shared} {fp:List Addr} (I:Inv X pins σ H s) (hf:∀ b∈fp,jr X pins H b) (ho:∀ b∈fp,∃ o,s.heap.get? b=some o/\∀ v,o.data≠.cell v):Inv X (pins++de fp s.heap) σ H s:=
 I.pins_of fun p hp=>(Cf.mp hp).elim (fun z=>I.pin p (BV _ z)) fun z=>by
  obtain ⟨hb,e⟩:=iI z
  obtain ⟨f0,f1,f2,_⟩:=hf p.1 hb
  obtain ⟨o,e',d⟩:=ho p.1 hb
  rw [e] at e';cases e'
  exact ⟨e,f0,f1,f2,d⟩
theorem Inv.unpinned {pins pl:List (Addr×Obj)} {σ:St} {H:Hp} {s:Shared} (I:Inv X (pins++pl) σ H s):Inv X pins σ H s:=I.pins_of fun p hp=>I.pin p (BV _ (CG _ hp))
theorem lF {iter:Expr} {body:List Stmt} {wi:TI} {g:TG} {tb:TS} {pos:Pos} (hp:PassesOwn (model X.prog X.w) X.A X.env X.xe) (hc:X.calm=true) (hi:PI X tg iter wi) (hg:PG X tg g) (hb:PSs X body tb)
  (hs:∀ x,foldedSetIterable iter X.env x=pure x:=by intro _;rfl):PS X (.For tg iter body [] pos) (zP wi g tb):=by
 refine ⟨?_⟩
 intro pins s σ H D I h
 refine wpAny_For (bA (hi pins s σ H _ I h) fun v s1 h1=>bA h1 fun itv s2 h2=>?_) hs
 obtain ⟨it,fp,tn,J,H2,e,I2,T,st2,f2,W,⟨m0,w0⟩,turn⟩:=h2
 subst e
 have stat:∀ {H':Hp},(∀ b∈fp,H' b=none)->∀ b∈fp,jr X pins H' b:=fun hn b hb=>⟨hn b hb,(f2 b hb).2⟩
 refine codeAny_forLoop_any (fun n s'=>∃ i σ' H',Inv X pins σ' H' s'/\tn i s'.heap/\(∀ b∈fp,H' b=none)/\W i n σ' H') ?_ m0 ⟨0,σ,H2,I2,st2,fun b hb=>(f2 b hb).1,w0⟩
 rintro n s3 ⟨i,σ3,H3,I3,st3,fr3,w3⟩
 rcases turn i n σ3 H3 w3 with ⟨stop,qn⟩|⟨go,N,hN,step⟩
 ·refine wpAny_passesOwn hp (bA (T.done X rfl rfl rfl hc i pins s3 σ3 H3 X.xe I3 (stat fr3) st3 stop) fun r s4 ⟨hr,I4⟩=>?_)
  subst hr
  exact wpAny_execs_nil ⟨σ3,H3,I4,qn⟩
 ·refine wpAny_passesOwn hp (bA (T.item X rfl rfl rfl hc i pins s3 σ3 H3 X.xe I3 (stat fr3) st3 go) fun r s4 ⟨u,hr,h4⟩=>?_)
  subst hr
  refine wpAny_passesOwn hp (bA h4 fun _ s5 ⟨x,H5,I5,r5,y5,st5,fr5⟩=>?_)
  have I5':=I5.pinned (stat fr5) (T.obj _ _ st5)
  refine wpAny_passesOwn hp (bA (hg _ s5 σ3 H5 x u _ I5' r5 (step x H5 y5)) fun _ s6 ⟨σ6,H6,I6,q6⟩=>?_)
  refine wpAny_passesOwn hp (bA (hb _ s6 σ6 H6 _ I6 q6) fun f s7 q7=>?_)
  have again:∀ {σ7:St} {H7:Hp},Inv X (pins++de fp s5.heap) σ7 H7 s7->N σ7 H7->∃ m,m < n/\∃ i σ' H',Inv X pins σ' H' s7/\tn i s7.heap/\(∀ b∈fp,H' b=none)/\W i m σ' H':=fun {σ7 H7} I7 n7=>by
   obtain ⟨m',hm,w7⟩:=hN σ7 H7 n7
   refine ⟨m',hm,i+1,σ7,H7,I7.unpinned,T.keep _ _ _ st5 fun b hb o e=>(I7.pin (b,o) (BV _ (BV _ (fj hb e)))).1,fun b hb=>?_,w7⟩
   obtain ⟨o,e,d⟩:=T.obj _ _ st5 b hb
   exact (I7.pin (b,o) (BV _ (BV _ (fj hb e)))).2.1
  cases f with
  | next=>obtain ⟨σ7,H7,I7,n7⟩:=q7;exact again I7 n7
  | cont=>obtain ⟨σ7,H7,I7,n7⟩:=q7;exact again I7 n7
  | brk=>obtain ⟨σ7,H7,I7,q7⟩:=q7;exact ⟨σ7,H7,I7.unpinned,q7⟩
  | ret v=>obtain ⟨x7,σ7,H7,I7,r7,q7⟩:=q7;exact ⟨x7,σ7,H7,I7.unpinned,r7,q7⟩
end
theorem rG {K:PySem.W.Frag} {a:Addr} {xs:List V} {g:TG} {tb:TS} {D:Ends} {σ:St} {H:Hp} (Pv:Nat->St->Hp->Prop) (h0:Pv 0 σ H) (hl:∀ i σ H,i<=xs.length->Pv i σ H->SqT K H a xs)
  (hs:∀ i x σ H,xs[i]?=some x->Pv i σ H->g x σ H fun σ2 H2=>tb { D with nx:=Pv (i+1),ct:=Pv (i+1),bk:=D.nx } σ2 H2) (hd:∀ σ H,Pv xs.length σ H->D.nx σ H) :
  ∃ W:Nat->Nat->St->Hp->Prop,(∃ m,W 0 m σ H)/\∀ i m σ H,W i m σ H->
   ((xj K a).stop i H/\D.nx σ H)\/((xj K a).go i H/\∃ N:St->Hp->Prop,(∀ σ' H',N σ' H'->∃ m',m' < m/\W (i+1) m' σ' H')/\∀ x H',(xj K a).yld i H x H'->g x σ H' fun σ2 H2=>tb { D with nx:=N,ct:=N,bk:=D.nx } σ2 H2):=by
 refine ⟨fun i m σ H=>m=xs.length - i/\i<=xs.length/\Pv i σ H,⟨xs.length,by simp,Cp _,h0⟩,?_⟩
 rintro i m σ H ⟨rfl,hi,p⟩
 have q:=hl i σ H hi p
 by_cases hlt:i < xs.length
 ·refine .inr ⟨⟨xs,xs[i],q,by simp [hlt]⟩,Pv (i+1),fun σ' H' p'=>⟨xs.length - (i+1),by omega,rfl,hlt,p'⟩,fun x H' y=>?_⟩
  obtain ⟨e,y⟩:=y
  subst e
  exact hs i x σ _ (y xs q) p
 ·have e:i=xs.length:=by omega
  subst e
  exact .inl ⟨⟨xs,q,BG _⟩,hd σ H p⟩
theorem iJ {lo:Int} {n:Nat} {g:TG} {tb:TS} {D:Ends} {σ:St} {H:Hp} (Pv:Nat->St->Hp->Prop) (h0:Pv 0 σ H)
  (hs:∀ i σ H,i < n->Pv i σ H->g (.int (lo+i)) σ H fun σ2 H2=>tb { D with nx:=Pv (i+1),ct:=Pv (i+1),bk:=D.nx } σ2 H2) (hd:∀ σ H,Pv n σ H->D.nx σ H) :
  ∃ W:Nat->Nat->St->Hp->Prop,(∃ m,W 0 m σ H)/\∀ i m σ H,W i m σ H->
   ((vc lo n).stop i H/\D.nx σ H)\/((vc lo n).go i H/\∃ N:St->Hp->Prop,(∀ σ' H',N σ' H'->∃ m',m' < m/\W (i+1) m' σ' H')/\∀ x H',(vc lo n).yld i H x H'->g x σ H' fun σ2 H2=>tb { D with nx:=N,ct:=N,bk:=D.nx } σ2 H2):=by
 refine ⟨fun i m σ H=>m=n - i/\i<=n/\Pv i σ H,⟨n,by simp,Cp _,h0⟩,?_⟩
 rintro i m σ H ⟨rfl,hi,p⟩
 by_cases hlt:i < n
 ·refine .inr ⟨hlt,Pv (i+1),fun σ' H' p'=>⟨n - (i+1),by omega,rfl,hlt,p'⟩,fun x H' y=>?_⟩
  obtain ⟨e,y⟩:=y
  subst e y
  exact hs i σ _ hlt p
 ·have e:i=n:=by omega
  subst e
  exact .inl ⟨BG _,hd σ H p⟩
end L2
namespace L2
open PySem PySem.Spec PyProof.Rows
abbrev R2:=V->V->Hp->VK->Prop
def eC (X:Cx) (f:Value->Value->Sem Value) (r:R2):Prop:=
 ∀ (pins:List (Addr×Obj)) (s:Shared) (σ:St) (H:Hp) (x y:V) (v u:Value) (Q:VK),Inv X pins σ H s->RelV x v->RelV y u->r x y H Q->
  wpAny (model X.prog X.w) X.A (f v u) (EP X pins σ Q) X.xe s
def cA (X:Cx) (f:Value) (r:List V->Hp->VK->Prop):Prop:=
 ∀ (pins:List (Addr×Obj)) (s:Shared) (σ:St) (H:Hp) (xs:List V) (us:List Value) (Q:VK),Inv X pins σ H s->Vals xs us->r xs H Q->
  wpAny (model X.prog X.w) X.A (call f us) (EP X pins σ Q) X.xe s
def zQ (X:Cx) (r:V->Hp->(Bool->Hp->Prop)->Prop):Prop:=
 ∀ (pins:List (Addr×Obj)) (s:Shared) (σ:St) (H:Hp) (x:V) (v:Value) (Q:Bool->Hp->Prop),Inv X pins σ H s->RelV x v->r x H Q->
  wpAny (model X.prog X.w) X.A (truthy v) (TP X pins σ Q) X.xe s
def zt (r:R2) (ta tb:TE):TE:=fun σ H Q=>ta σ H fun x H1=>tb σ H1 fun y H2=>r x y H2 Q
inductive rI (C:Int->Int->Prop) (g:Int->Int->V) (x:V) (y:V) (H:Hp) (Q:VK):Prop
 | mk (i j:_):x=.int i->y=.int j->C i j->Q (g i j) H->rI C g x y H Q
inductive uy (g:Int->Int->V) (x:V) (y:V) (H:Hp) (Q:VK):Prop
 | mk (i j:_):x=.int i->y=.int j->Q (g i j) H->uy g x y H Q
section
variable {X:Cx} {a b c:Expr} {ta tb tc:TE} {pos:Pos}
theorem vd (ha:PE X a ta) (hb:PE X b tb) {pins:List (Addr×Obj)} {s:Shared} {σ:St} {H:Hp} {R:V->V->Hp->Prop} (I:Inv X pins σ H s)
  (h:ta σ H fun x H1=>tb σ H1 fun y H2=>R x y H2) {Q:Value->Shared->Prop} {f:Value->Value->Sem Value}
  (hf:∀ v u s2 x y H2,Inv X pins σ H2 s2->RelV x v->RelV y u->R x y H2->wpAny (model X.prog X.w) X.A (f v u) Q X.xe s2) :
  wpAny (model X.prog X.w) X.A (eval a X.env) (fun v s₁=>wpAny (model X.prog X.w) X.A (eval b X.env) (fun u s₂=>wpAny (model X.prog X.w) X.A (f v u) Q X.xe s₂) X.xe s₁) X.xe s:=by
 refine bA (ha pins s σ H _ I h) fun v s1 ⟨x,H1,I1,r1,q1⟩=>?_
 refine bA (hb pins s1 σ H1 _ I1 q1) fun u s2 ⟨y,H2,I2,r2,q2⟩=>?_
 exact hf v u s2 x y H2 I2 r1 r2 q2
theorem aT {op:Operator} {r:R2} (ho:eC X (binaryOp op) r) (ha:PE X a ta) (hb:PE X b tb):PE X (.BinOp a op b pos) (zt r ta tb):=by
 refine ⟨?_⟩
 intro pins s σ H Q I h
 exact wpAny_BinOp (vd ha hb I h fun v u s2 x y H2 I2 rx ry q=>ho pins s2 σ H2 x y v u Q I2 rx ry q)
theorem xG {f:Value->Value->Sem Value} {C:Int->Int->Prop} {g:Int->Int->Int}
  (rule:∀ (i j:Int) (t u:Tok) (s:Shared) (Q:Value->Shared->Prop) (E:Value->Shared->Prop),C i j->Q (.int (g i j) s.toks) { s with toks:=s.toks+1 }->wpAny (model X.prog X.w) X.A (f (.int i t) (.int j u)) Q E s) :
  eC X f (rI C fun i j=>.int (g i j)):=by
 intro pins s σ H x y v u Q I rx ry h
 obtain ⟨i,j,rfl,rfl,hc,q⟩:=h
 obtain ⟨t,rfl⟩:=rx
 obtain ⟨t',rfl⟩:=ry
 exact rule i j t t' s _ _ hc ⟨.int (g i j),H,I.tok _,⟨_,rfl⟩,q⟩
theorem zR {f:Value->Value->Sem Value} {g:Int->Int->Int}
  (rule:∀ (i j:Int) (t u:Tok) (s:Shared) (Q:Value->Shared->Prop) (E:Value->Shared->Prop),Q (.int (g i j) s.toks) { s with toks:=s.toks+1 }->wpAny (model X.prog X.w) X.A (f (.int i t) (.int j u)) Q E s) :
  eC X f (uy fun i j=>.int (g i j)):=by
 intro pins s σ H x y v u Q I rx ry h
 obtain ⟨i,j,rfl,rfl,q⟩:=h
 obtain ⟨t,rfl⟩:=rx
 obtain ⟨t',rfl⟩:=ry
 exact rule i j t t' s _ _ ⟨.int (g i j),H,I.tok _,⟨_,rfl⟩,q⟩
theorem rH {f:Value->Value->Sem Value} {g:Int->Int->Bool}
  (rule:∀ (i j:Int) (t u:Tok) (s:Shared) (Q:Value->Shared->Prop) (E:Value->Shared->Prop),Q (.bool (g i j)) s->wpAny (model X.prog X.w) X.A (f (.int i t) (.int j u)) Q E s) :
  eC X f (uy fun i j=>.bl (g i j)):=by
 intro pins s σ H x y v u Q I rx ry h
 obtain ⟨i,j,rfl,rfl,q⟩:=h
 obtain ⟨t,rfl⟩:=rx
 obtain ⟨t',rfl⟩:=ry
 exact rule i j t t' s _ _ ⟨.bl (g i j),H,I,rfl,q⟩
def zS (i j:Int):Prop:=0 < j/\j < 1073741824
def zT (i j:Int):Prop:=0<=j/\j<=1000000/\i.natAbs < 2 ^ 64
def CMul (i j:Int):Prop:=(-(2 ^ 64) < i/\i < 2 ^ 64)\/(-(2 ^ 64) < j/\j < 2 ^ 64)
theorem CMul.ok {i j:Int} (h:CMul i j):IntMulOk i j:=by
 rcases h with ⟨h1,h2⟩|⟨h1,h2⟩
 ·exact .of_left (intBits_le_64 h1 h2)
 ·exact .of_right (intBits_le_64 h1 h2)
theorem fk:eC X (binaryOp .Add) (uy fun i j=>.int (i+j)):=zR fun _ _ _ _ _ _ _ q=>add_int q
theorem fm:eC X (binaryOp .Mult) (rI CMul fun i j=>.int (i*j)):=xG fun _ _ _ _ _ _ _ hc q=>mul_int q hc.ok
theorem rJ:eC X (binaryOp .FloorDiv) (rI zS fun i j=>.int (i / j)):=xG fun i j _ _ _ _ _ hc q=>by
 have h1:(0:Int) < j:=hc.1
 have h2:j < 1073741824:=hc.2
 exact floordiv_int (by omega) (by rw [Int.fdiv_eq_ediv_of_nonneg i (by omega)];exact q) (.inl (PyProof.noPylong_small (by omega)))
theorem gl:eC X (binaryOp .Mod) (rI (fun _ j=>0 < j) fun i j=>.int (i % j)):=xG fun i j _ _ _ _ _ hc q=>by
 have h1:(0:Int) < j:=hc
 exact mod_int' (by omega) (by rw [Int.fmod_eq_emod_of_nonneg i (by omega)];exact q)
theorem oO:eC X (binaryOp .Pow) (rI zT fun i j=>.int (i ^ j.toNat)):=xG fun _ _ _ _ _ _ _ hc q=>pow_int_small hc.1 hc.2.1 hc.2.2 q
end
def xH:V->V->Bool
 | .non,.non=>true|.non,.int _=>true|.int _,.non=>true|.non,.bl _=>true|.bl _,.non=>true|.non,.str _=>true|.str _,.non=>true
 | .int _,.int _=>true|.bl _,.bl _=>true|.str _,.str _=>true|.byt _,.byt _=>true
 | .int _,.str _=>true|.str _,.int _=>true|.bl _,.str _=>true|.str _,.bl _=>true
 | _,_=>false
def Bf:R2:=fun x y H Q=>xH x y=true/\Q (.bl (decide (x=y))) H
def Bg:R2:=fun x y H Q=>xH x y=true/\Q (.bl (!decide (x=y))) H
theorem mD {i j:Int}:decide (V.int i=V.int j)=(i == j):=by
 rw [Ce]
 simp
theorem oP {i j:Bool}:decide (V.bl i=V.bl j)=(i == j):=by
 rw [Ce]
 simp
theorem mE {i j:Str}:decide (V.str i=V.str j)=(i == j):=by
 rw [Ce]
 simp
theorem mF {i j:Array UInt8}:decide (V.byt i=V.byt j)=(i.toList == j.toList):=by
 rw [Ce]
 cases i
 cases j
 simp
section
variable {X:Cx} {a b c:Expr} {ta tb tc:TE} {pos:Pos}
theorem a7 {pins:List (Addr×Obj)} {σ:St} {H:Hp} {s:Shared} {Q:VK} {k k':Bool} (I:Inv X pins σ H s) (q:Q (.bl k) H) (e:k=k'):EP X pins σ Q (.bool k') s:=by
 subst e
 exact ⟨.bl k,H,I,rfl,q⟩
theorem bb:eC X (compareOp .Eq) Bf:=by
 intro pins s σ H x y v u Q I rx ry h
 obtain ⟨hs,q⟩:=h
 cases x with
 | non=>
  cases rx
  cases y with
  | non=>cases ry;exact PySem.EqNone.eq_none_none (a7 I q (by simp))
  | bl j=>cases ry;exact PySem.EqNone.eq_none_bool (a7 I q (by simp))
  | int j=>obtain ⟨t',rfl⟩:=ry;exact PySem.EqNone.eq_none_int (a7 I q (by simp))
  | str j=>obtain ⟨t',rfl⟩:=ry;exact PySem.EqNone.eq_none_str (a7 I q (by simp))
  | _=>exact absurd (show false=true from hs) BP
 | bl i=>
  cases rx
  cases y with
  | non=>cases ry;exact PySem.EqNone.eq_bool_none (a7 I q (by simp))
  | bl j=>cases ry;exact eq_bool (a7 I q oP)
  | str j=>obtain ⟨t',rfl⟩:=ry;exact PySem.EqMixed.eq_bool_str (a7 I q (by simp))
  | _=>exact absurd (show false=true from hs) BP
 | int i=>
  obtain ⟨t,rfl⟩:=rx
  cases y with
  | non=>cases ry;exact PySem.EqNone.eq_int_none (a7 I q (by simp))
  | int j=>obtain ⟨t',rfl⟩:=ry;exact eq_int (a7 I q mD)
  | str j=>obtain ⟨t',rfl⟩:=ry;exact PySem.EqMixed.eq_int_str (a7 I q (by simp))
  | _=>exact absurd (show false=true from hs) BP
 | str i=>
  obtain ⟨t,rfl⟩:=rx
  cases y with
  | non=>cases ry;exact PySem.EqNone.eq_str_none (a7 I q (by simp))
  | bl j=>cases ry;exact PySem.EqMixed.eq_str_bool (a7 I q (by simp))
  | int j=>obtain ⟨t',rfl⟩:=ry;exact PySem.EqMixed.eq_str_int (a7 I q (by simp))
  | str j=>obtain ⟨t',rfl⟩:=ry;exact eq_str (a7 I q mE)
  | _=>exact absurd (show false=true from hs) BP
 | byt i=>
  obtain ⟨t,rfl⟩:=rx
  cases y with
  | byt j=>obtain ⟨t',rfl⟩:=ry;exact PySem.W.eq_bytes (a7 I q mF)
  | _=>exact absurd (show false=true from hs) BP
 | _=>cases y<;>exact absurd (show false=true from hs) BP
theorem km:eC X (compareOp .NotEq) Bg:=by
 intro pins s σ H x y v u Q I rx ry h
 obtain ⟨hs,q⟩:=h
 cases x with
 | non=>
  cases rx
  cases y with
  | non=>cases ry;exact PySem.EqNone.ne_none_none (a7 I q (by simp))
  | bl j=>cases ry;exact PySem.EqNone.ne_none_bool (a7 I q (by simp))
  | int j=>obtain ⟨t',rfl⟩:=ry;exact PySem.EqNone.ne_none_int (a7 I q (by simp))
  | str j=>obtain ⟨t',rfl⟩:=ry;exact PySem.EqNone.ne_none_str (a7 I q (by simp))
  | _=>exact absurd (show false=true from hs) BP
 | bl i=>
  cases rx
  cases y with
  | non=>cases ry;exact PySem.EqNone.ne_bool_none (a7 I q (by simp))
  | bl j=>cases ry;exact ne_bool (a7 I q (congrArg not oP))
  | str j=>obtain ⟨t',rfl⟩:=ry;exact PySem.EqMixed.ne_bool_str (a7 I q (by simp))
  | _=>exact absurd (show false=true from hs) BP
 | int i=>
  obtain ⟨t,rfl⟩:=rx
  cases y with
  | non=>cases ry;exact PySem.EqNone.ne_int_none (a7 I q (by simp))
  | int j=>obtain ⟨t',rfl⟩:=ry;exact ne_int (a7 I q (congrArg not mD))
  | str j=>obtain ⟨t',rfl⟩:=ry;exact PySem.EqMixed.ne_int_str (a7 I q (by simp))
  | _=>exact absurd (show false=true from hs) BP
 | str i=>
  obtain ⟨t,rfl⟩:=rx
  cases y with
  | non=>cases ry;exact PySem.EqNone.ne_str_none (a7 I q (by simp))
  | bl j=>cases ry;exact PySem.EqMixed.ne_str_bool (a7 I q (by simp))
  | int j=>obtain ⟨t',rfl⟩:=ry;exact PySem.EqMixed.ne_str_int (a7 I q (by simp))
  | str j=>obtain ⟨t',rfl⟩:=ry;exact ne_str (a7 I q (congrArg not mE))
  | _=>exact absurd (show false=true from hs) BP
 | byt i=>
  obtain ⟨t,rfl⟩:=rx
  cases y with
  | byt j=>obtain ⟨t',rfl⟩:=ry;exact PySem.W.ne_bytes (a7 I q (congrArg not mF))
  | _=>exact absurd (show false=true from hs) BP
 | _=>cases y<;>exact absurd (show false=true from hs) BP
theorem oQ:eC X (compareOp .Lt) (uy fun i j=>.bl (decide (i < j))):=rH fun _ _ _ _ _ _ _ q=>lt_int q
theorem iK:eC X (compareOp .LtE) (uy fun i j=>.bl (decide (i<=j))):=rH fun _ _ _ _ _ _ _ q=>le_int q
theorem oR:eC X (compareOp .Gt) (uy fun i j=>.bl (decide (j < i))):=rH fun _ _ _ _ _ _ _ q=>gt_int q
theorem xI:eC X (compareOp .GtE) (uy fun i j=>.bl (decide (j<=i))):=rH fun _ _ _ _ _ _ _ q=>ge_int q
theorem iM:eC X (compareOp .In) (fun x y H Q=>∃ i j,x=.str i/\y=.str j/\Q (.bl (!(Builtin.Str.occurrences j i 0 j.length 1).isEmpty)) H):=by
 intro pins s σ H x y v u Q I rx ry h
 obtain ⟨i,j,rfl,rfl,q⟩:=h
 obtain ⟨t,rfl⟩:=rx
 obtain ⟨t',rfl⟩:=ry
 exact in_str (a7 I q rfl)
theorem aB (b:Expr) {op:CmpOp} (h:op≠.In:=by decide) (h2:op≠.NotIn:=by decide):behindInMarks op b=false:=by
 have e1:(op == CmpOp.In)=false:=by cases op<;>first|rfl|exact absurd rfl h
 have e2:(op == CmpOp.NotIn)=false:=by cases op<;>first|rfl|exact absurd rfl h2
 cases b<;>simp [behindInMarks,e1,e2]
theorem cz {op:CmpOp} {r:R2} (ho:eC X (compareOp op) r) (ha:PE X a ta) (hb:PE X b tb) (hm:behindInMarks op b=false):PE X (.Compare a [op] [b] pos) (zt r ta tb):=by
 refine ⟨?_⟩
 intro pins s σ H Q I h
 exact wpAny_Compare1 (vd ha hb I h fun v u s2 x y H2 I2 rx ry q=>ho pins s2 σ H2 x y v u Q I2 rx ry q) hm
inductive oS (Q:Bool->Hp->Prop) (x:V) (H':Hp):Prop
 | mk (k:_):x=.bl k->Q k H'->oS Q x H'
def uz (t:TE):TT:=fun σ H Q=>t σ H fun x H'=>oS Q x H'
theorem ax {op:CmpOp} {r:R2} (ho:eC X (compareOp op) r) (ha:PE X a ta) (hb:PE X b tb) (hm:behindInMarks op b=false):PT X (.Compare a [op] [b] pos) (uz (zt r ta tb)):=by
 refine ⟨?_⟩
 intro pins s σ H Q I h
 refine wpAny_isTrue_Compare1 (bA (ha pins s σ H _ I h) fun v s1 ⟨x,H1,I1,r1,q1⟩=>bA (hb pins s1 σ H1 _ I1 q1) fun u s2 ⟨y,H2,I2,r2,q2⟩=>
  bA (ho pins s2 σ H2 x y v u _ I2 r1 r2 q2) fun c s3 ⟨z,H3,I3,r3,k,e,q3⟩=>?_) hm
 subst e
 cases r3
 exact wpAny_truthy_bool ⟨H3,I3,q3⟩
inductive mG (r':R2) (tc:TE) (σ:St) (Q:VK) (y:V) (z:V) (H3:Hp):Prop
 | mk (k:_):z=.bl k->(if k=true then tc σ H3 fun w' H4=>r' y w' H4 Q else Q (.bl false) H3)->mG r' tc σ Q y z H3
def oU (r r':R2) (ta tb tc:TE):TE:=fun σ H Q=>ta σ H fun x H1=>tb σ H1 fun y H2=>r x y H2 fun z H3=>mG r' tc σ Q y z H3
theorem ko {op op':CmpOp} {r r':R2} (ho:eC X (compareOp op) r) (ho':eC X (compareOp op') r') (ha:PE X a ta) (hb:PE X b tb) (hc:PE X c tc)
  (hm:lastMarks [op,op'] [b,c]=false:=by with_unfolding_all rfl):PE X (.Compare a [op,op'] [b,c] pos) (oU r r' ta tb tc):=by
 refine ⟨?_⟩
 intro pins s σ H Q I h
 refine Compare_chain (bA (ha pins s σ H _ I h) fun v s1 ⟨x,H1,I1,r1,q1⟩=>chain_link (bA (hb pins s1 σ H1 _ I1 q1) fun u s2 ⟨y,H2,I2,r2,q2⟩=>
  bA (ho pins s2 σ H2 x y v u _ I2 r1 r2 q2) fun d s3 ⟨z,H3,I3,r3,k,e,q3⟩=>?_)) hm
 subst e
 cases r3
 refine wpAny_truthy_bool ?_
 cases k with
 | false=>exact ite_ff ⟨.bl false,H3,I3,rfl,q3⟩
 | true=>exact ite_tt (chain_last (bA (hc pins s3 σ H3 _ I3 q3) fun w' s4 ⟨z',H4,I4,r4,q4⟩=>ho' pins s4 σ H4 y z' u w' Q I4 r2 r4 q4))
theorem oV {op op':CmpOp} {r r':R2} (ho:eC X (compareOp op) r) (ho':eC X (compareOp op') r') (ha:PE X a ta) (hb:PE X b tb) (hc:PE X c tc)
  (hm:lastMarks [op,op'] [b,c]=false:=by with_unfolding_all rfl):PT X (.Compare a [op,op'] [b,c] pos) (uz (oU r r' ta tb tc)):=by
 refine ⟨?_⟩
 intro pins s σ H Q I h
 refine isTrue_chain (bA (ha pins s σ H _ I h) fun v s1 ⟨x,H1,I1,r1,q1⟩=>test_link (bA (hb pins s1 σ H1 _ I1 q1) fun u s2 ⟨y,H2,I2,r2,q2⟩=>
  bA (ho pins s2 σ H2 x y v u _ I2 r1 r2 q2) fun d s3 ⟨z,H3,I3,r3,k,e,q3⟩=>?_)) hm
 subst e
 cases r3
 refine wpAny_truthy_bool ?_
 cases k with
 | false=>
  obtain ⟨k',e',q'⟩:=q3
  cases e'
  exact ite_ff ⟨H3,I3,q'⟩
 | true=>
  refine ite_tt (test_last (bA (hc pins s3 σ H3 _ I3 q3) fun w' s4 ⟨z',H4,I4,r4,q4⟩=>bA (ho' pins s4 σ H4 y z' u w' _ I4 r2 r4 q4) fun d' s5 ⟨z2,H5,I5,r5,k2,e2,q5⟩=>?_))
  subst e2
  cases r5
  exact wpAny_truthy_bool ⟨H5,I5,q5⟩
def xJ (K:PySem.W.Frag) (x:V) (H:Hp) (k:Bool):Prop:=
 match x with
 | .non=>k=false
 | .bl b=>k=b
 | .int i=>k=(i != 0)
 | .str y=>y.length<=sizeLine/\k=((y.length:Int) != 0)
 | .byt y=>y.size<=sizeLine/\k=((y.size:Int) != 0)
 | .ref p=>(∃ xs,SqL K H p xs/\k=!xs.isEmpty)\/(∃ xs,SqT K H p xs/\k=!xs.isEmpty)\/∃ kvs,H p=some (.dK kvs)/\k=!kvs.isEmpty
 | _=>False
theorem lG {κ:Type} {kvs:List (κ×V)} {vs:List (κ×Value)} (r:KV kvs vs):(!vs.isEmpty)=!kvs.isEmpty:=by
 cases r<;>rfl
theorem gX {xs:List V} {its:List Value} (r:Vals xs its):(!its.toArray.isEmpty)=!xs.isEmpty:=by
 cases r<;>simp
theorem fq:(sizeLine:Nat) < 2 ^ 63:=by rw [sizeLine_eq];decide
theorem ve:zQ X (fun x H Q=>∃ k,xJ X.K x H k/\Q k H):=by
 intro pins s σ H x v Q I rx h
 obtain ⟨k,e,q⟩:=h
 have hl:=fq
 have hs:sizeLine=16777216:=sizeLine_eq
 cases x with
 | non=>
  cases rx
  have e':k=false:=e
  subst e'
  exact truthy_none ⟨H,I,q⟩
 | bl b=>
  cases rx
  have e':k=b:=e
  subst e'
  exact wpAny_truthy_bool ⟨H,I,q⟩
 | int i=>
  obtain ⟨t,rfl⟩:=rx
  have e':k=(i != 0):=e
  subst e'
  exact PySem.P.truthy_int ⟨H,I,q⟩
 | str y=>
  obtain ⟨t,rfl⟩:=rx
  obtain ⟨hy,e'⟩:y.length<=sizeLine/\k=((y.length:Int) != 0):=e
  subst e'
  exact PySem.P.truthy_str (by omega) ⟨H,I.tok _,q⟩
 | byt y=>
  obtain ⟨t,rfl⟩:=rx
  obtain ⟨hy,e'⟩:y.size<=sizeLine/\k=((y.size:Int) != 0):=e
  subst e'
  exact PySem.W.truthy_bytes (by omega) ⟨H,I.tok _,q⟩
 | ref p=>
  cases rx
  have e':(∃ xs,SqL X.K H p xs/\k=!xs.isEmpty)\/(∃ xs,SqT X.K H p xs/\k=!xs.isEmpty)\/∃ kvs,H p=some (.dK kvs)/\k=!kvs.isEmpty:=e
  rcases e' with ⟨xs,hx,e'⟩|⟨xs,hx,e'⟩|⟨kvs,hx,e'⟩
  ·subst e'
   obtain ⟨its,r,pl,hz⟩:=I.list hx
   have hlen:=r.length
   exact wpAny_truthy_list pl.isList (by simp only [BO];omega) ⟨H,I.tok _,by rw [gX r];exact q⟩
  ·subst e'
   obtain ⟨its,r,pl,hz⟩:=I.tuple hx
   have hlen:=r.length
   exact truthy_tuple pl (by simp only [BO];omega) ⟨H,I.tok _,by rw [gX r];exact q⟩
  ·subst e'
   obtain ⟨hz,hS,vs,r,m⟩:kvs.length<=sizeLine/\(p == sysModules)=false/\∃ vs,KV kvs vs/\s.heap.DictOf (bz X.prog X.w) p vs:=I.hok p _ hx
   have hlen:kvs.length=vs.length:=Paired.length r
   exact wpAny_truthy_dict hS m (by omega) ⟨H,I.tok _,by rw [lG r];exact q⟩
 | _=>exact (show False from e).elim
theorem oW (ha:PE X a ta) (he:∀ whole,isTrue a X.env whole=(do let v <-whole;standAt a.pos;holding [v] (truthy v))) :
  PT X a (fun σ H Q=>ta σ H fun x H'=>∃ k,xJ X.K x H' k/\Q k H'):=by
 refine ⟨?_⟩
 intro pins s σ H Q I h
 exact isTrue_plain (bA (ha pins s σ H _ I h) fun v s1 ⟨x,H1,I1,r1,q1⟩=>ve pins s1 σ H1 x v Q I1 r1 q1) (he _)
theorem aK:eC X (binaryOp .Add) (fun x y H Q=>∃ i j,x=.str i/\y=.str j/\i.length+j.length<=sizeLine/\Q (.str (i++j)) H):=by
 intro pins s σ H x y v u Q I rx ry h
 obtain ⟨i,j,rfl,rfl,hz,q⟩:=h
 obtain ⟨t,rfl⟩:=rx
 obtain ⟨t',rfl⟩:=ry
 exact add_str (fun t' tk=>⟨.str (i++j),H,I.tok _,⟨_,rfl⟩,q⟩) hz
theorem fP {x:V} {us:List Value} (r:Vals [x] us):∃ u,us=[u]/\RelV x u:=by
 cases r with
 | cons r1 r2=>cases r2;exact ⟨_,rfl,r1⟩
theorem oX {x y:V} {us:List Value} (r:Vals [x,y] us):∃ u w',us=[u,w']/\RelV x u/\RelV y w':=by
 cases r with
 | cons r1 r2=>
  cases r2 with
  | cons r3 r4=>cases r4;exact ⟨_,_,rfl,r1,r3⟩
theorem nV (hc:X.calm=true):cA X (.builtin "max") (fun xs H Q=>∃ i j,xs=[.int i,.int j]/\Q (.int (if j > i then j else i)) H):=by
 intro pins s σ H xs us Q I r h
 obtain ⟨i,j,rfl,q⟩:=h
 obtain ⟨u,w',rfl,⟨t,rfl⟩,⟨t',rfl⟩⟩:=oX r
 refine max_two_ints (I.ok.hd hc) fun h' tk k=>⟨_,H,I.kept k,?_,q⟩
 by_cases hj:j > i
 ·rw [if_pos hj,if_pos hj];exact ⟨_,rfl⟩
 ·rw [if_neg hj,if_neg hj];exact ⟨_,rfl⟩
theorem nW (hc:X.calm=true):cA X (.builtin "min") (fun xs H Q=>∃ i j,xs=[.int i,.int j]/\Q (.int (if j < i then j else i)) H):=by
 intro pins s σ H xs us Q I r h
 obtain ⟨i,j,rfl,q⟩:=h
 obtain ⟨u,w',rfl,⟨t,rfl⟩,⟨t',rfl⟩⟩:=oX r
 refine min_two_ints (I.ok.hd hc) fun h' tk k=>⟨_,H,I.kept k,?_,q⟩
 by_cases hj:j < i
 ·rw [if_pos hj,if_pos hj];exact ⟨_,rfl⟩
 ·rw [if_neg hj,if_neg hj];exact ⟨_,rfl⟩
theorem iN:cA X (.type "int") (fun xs H Q=>(∃ i,xs=[.int i]/\Q (.int i) H)\/∃ k,xs=[.bl k]/\Q (.int (if k then 1 else 0)) H):=by
 intro pins s σ H xs us Q I r h
 rcases h with ⟨i,rfl,q⟩|⟨k,rfl,q⟩
 ·obtain ⟨u,rfl,t,rfl⟩:=fP r
  exact call_int_int ⟨.int i,H,I,⟨_,rfl⟩,q⟩
 ·obtain ⟨u,rfl,r1⟩:=fP r
  cases r1
  exact call_int_bool ⟨.int (if k then 1 else 0),H,I.tok _,⟨_,rfl⟩,q⟩
theorem bC:cA X (.type "str") (fun xs H Q=>∃ i,xs=[.int i]/\i.natAbs.log2 < 1920/\Q (.str (toString i)) H):=by
 intro pins s σ H xs us Q I r h
 obtain ⟨i,rfl,hz,q⟩:=h
 obtain ⟨u,rfl,t,rfl⟩:=fP r
 exact PySem.P.str_of_int hz ⟨.str _,H,I.tok _,⟨_,rfl⟩,q⟩
end
end L2
namespace L2
open PySem PySem.Spec PyProof.Rows
structure ObjM (h:Heap) (x dx C:Addr) (mA:Str->Option Value):Prop where
 obj:h.get? x=some (PySem.W.instObj C dx)
 ns:h.Ns1 dx mA
 ne:dx≠x
theorem eU {h:Heap} {dx:Addr} {mA:Str->Option Value} (n:h.Ns1 dx mA):∃ od,h.get? dx=some od/\∀ name,PySem.W.lookIn name od=some (mA name):=by
 obtain ⟨o,es,ep,ho,hd,hk,_,hm⟩:=n
 refine ⟨o,ho,fun name=>?_⟩
 have e:=hm name
 unfold nsFind findBy at e
 rw [<-Array.find?_toList] at e
 unfold PySem.W.lookIn
 rw [hd]
 dsimp only
 split
 ·rename_i y q
  rw [q] at e
  exact congrArg some e
 ·rename_i q
  rw [q] at e
  have a:es.toList.any (·.refKey)=false:=by
   rw [List.any_eq_false]
   intro y hy
   obtain ⟨z,t,hkey⟩:=hk y (Array.mem_toList_iff.mp hy)
   simp [DictEntry.refKey,hkey]
  have a':¬ es.toList.any (·.refKey)=true:=by rw [a];exact BP
  rw [if_neg a']
  exact congrArg some e
theorem ObjM.look {h:Heap} {x dx C:Addr} {mA:Str->Option Value} (I:ObjM h x dx C mA):∃ od,PySem.W.InstAt h x (PySem.W.instObj C dx) C (some od)/\∀ name,PySem.W.lookIn name od=some (mA name):=
 let ⟨od,ho,hl⟩:=eU I.ns
 ⟨od,⟨I.obj,rfl,rfl,ho⟩,hl⟩
section
variable {prog:Program} {w:World} {A:Around} {E:Value->Shared->Prop} {s:Shared} {K:PySem.W.Frag} {x dx C f:Addr} {mA:Str->Option Value} {name:Str} {v:Value}
theorem rK {expr:Bool} {Q:Value->Shared->Prop} (X:K.In s.heap) (I:ObjM s.heap x dx C mA) (hg:PySem.W.plainGet K C name=true) (hh:PySem.W.hasDictIn K C=true)
  (ha:PySem.W.findIn K (.ref C) name=some none) (hv:mA name=some v) (hv':PySem.W.handedIn v=true) (h:Q v { s with toks:=s.toks+1 }) :
  wpAny (model prog w) A (getAttr (.ref x) name expr) Q E s:=by
 obtain ⟨od,J,hl⟩:=I.look
 exact PySem.W.get_value X J (PySem.W.plainGet_of hg).1 (PySem.W.findObj_own hh ha rfl (by rw [hl,hv])) hv' h
theorem oY {pl:Sem Bool} {Q:Value×List Value->Shared->Prop} (X:K.In s.heap) (I:ObjM s.heap x dx C mA) (hg:PySem.W.plainGet K C name=true)
  (hf:PySem.W.findIn K (.ref C) name=some (some (.ref f))) (ht:PySem.W.isFn K (.ref f)=true) (hv:mA name=none) (h:Q (.ref f,[.ref x]) s) :
  wpAny (model prog w) A (getMethod (.ref x) name pl) Q E s:=by
 obtain ⟨od,J,hl⟩:=I.look
 exact PySem.W.method_fn X J (PySem.W.plainGet_of hg).1 (PySem.W.plainGet_of hg).2 hf (beq_iff_eq.mp ht) (by show (PySem.W.lookIn name od).map (·.isSome)=some false;rw [hl,hv];rfl) h
theorem rL {ns:List Str} {Q:Unit->Shared->Prop} (X:K.In s.heap) (I:ObjM s.heap x dx C mA)
  (hs:PySem.W.findIn K (.ref C) "__setattr__"=some (some (.builtin "object.__setattr__"))) (hp:PySem.W.plainOver K C=true) (ht:PySem.W.takerIn K C name=some none) (hh:PySem.W.hasDictIn K C=true)
  (hw:PySem.Within mA ns) (hsz:ns.length<=sizeLine)
  (h:∀ h',ObjM h' x dx C (fun y=>if y=name then some v else mA y)->Heap.SameBut dx s.heap h'->Q () { s with heap:=h',toks:=s.toks+2 }) :
  wpAny (model prog w) A (setAttr (.ref x) name v) Q E s:=by
 obtain ⟨od,J,hl⟩:=I.look
 refine PySem.W.set_plain X J hs (PySem.W.osa_open (s:={ s with toks:=s.toks+1 }) (r:=none) X J hp ht fun b=>?_)
 obtain ⟨cd,hc,hd'⟩:=PySem.W.any_some hh
 have hx:s.heap.get? x=some ⟨.ref C,some dx,.plain,#[]⟩:=I.obj
 refine wpAny_bind (wpAny_pure (wpAny_bind (wpAny_bind (wpAny_loadPart hx (wpAny_bind (PySem.W.Looks.here (s:={ s with toks:=s.toks+1 }) (PySem.W.looks_clsIn X hc) ?_))))))
 rw [hd']
 refine wpAny_pure (a:=some dx) (wpAny_bind (wpAny_pure (wpAny_bind ?_)))
 refine wpAny_nsSet1 (s:={ s with toks:=s.toks+1 }) I.ns fun h' hn2 hs2=>?_
 obtain ⟨oD,esD,epD,hoD,hdD,hcD⟩:=hn2.count (PySem.Within.cons name v hw)
 refine wpAny_bind (wpAny_lookBehind hoD (by rw [hdD];exact pastItsLine_dict (BN hcD (by rw [Bx];omega))) ?_)
 exact wpAny_pure (h _ ⟨(hs2.2 _ (Ne.symm I.ne)).trans I.obj,hn2,I.ne⟩ hs2)
theorem oZ {R:Result->Shared->Prop} {vs:List Value} {kw:List (Str×Value)} (X:K.In s.heap) (hm:PySem.W.makesIn K C=true)
  (hi:PySem.W.findIn K (.ref C) "__init__"=some (some (.ref f))) (hf:PySem.W.typeIn K (.ref f)=some (.type "function"))
  (h:codeAny (model prog w) (A.under (.builtin "type.__call__" ⟨.ref C::vs,kw⟩)) (.call (.ref f) ⟨.ref (s.heap.objs.size+1)::vs,kw⟩) (PySem.W.InitBack (s.heap.objs.size+1) R)
   { s with heap:=(s.heap.push PySem.W.emptyDict).push (PySem.W.instObj C s.heap.objs.size) }) :
  codeAny (model prog w) A (.call (.ref C) ⟨vs,kw⟩) R s:=by
 obtain ⟨hh,g,d,t,os⟩:=s
 exact PySem.W.make_core (PySem.W.makes_of X hm) (PySem.W.looks_findIn X hi) (fun self=>PySem.W.bind_fn X self hf) (.inl rfl) h
end
def cR (f:Str) (v:V):List (Str×V)->List (Str×V)
 | []=>[(f,v)]
 | (g,x)::r=>if g=f then (g,v)::r else (g,x)::cR f v r
theorem eE (f g:Str) (v:V):∀ fs:List (Str×V),(cR f v fs).lookup g=if g=f then some v else fs.lookup g
 | []=>by
  show List.lookup g [(f,v)]=_
  by_cases h:g=f
  ·have hb:(g == f)=true:=beq_iff_eq.mpr h
   simp only [List.lookup,hb,if_pos h]
  ·have hb:(g == f)=false:=beq_eq_false_iff_ne.mpr h
   simp only [List.lookup,hb,if_neg h]
 | (k,x)::r=>by
  have ih:=eE f g v r
  rw [show cR f v ((k,x)::r)=(if k=f then (k,v)::r else (k,x)::cR f v r) from rfl]
  by_cases hk:k=f
  ·rw [if_pos hk]
   by_cases h:g=k
   ·have hb:(g == k)=true:=beq_iff_eq.mpr h
    simp only [List.lookup,hb,if_pos (h.trans hk)]
   ·have hb:(g == k)=false:=beq_eq_false_iff_ne.mpr h
    simp only [List.lookup,hb,if_neg (fun e:g=f=>h (e.trans hk.symm))]
  ·rw [if_neg hk]
   by_cases h:g=k
   ·have hb:(g == k)=true:=beq_iff_eq.mpr h
    simp only [List.lookup,hb,if_neg (fun e:g=f=>hk (h.symm.trans e))]
   ·have hb:(g == k)=false:=beq_eq_false_iff_ne.mpr h
    simp only [List.lookup,hb]
    exact ih
theorem du (f:Str) (v:V):∀ fs:List (Str×V),f∈(cR f v fs).map (·.1)/\∀ g,g∈fs.map (·.1)->g∈(cR f v fs).map (·.1)
 | []=>⟨by simp [cR],fun g h=>by simp at h⟩
 | (k,x)::r=>by
  obtain ⟨i1,i2⟩:=du f v r
  rw [show cR f v ((k,x)::r)=(if k=f then (k,v)::r else (k,x)::cR f v r) from rfl]
  by_cases hk:k=f
  ·rw [if_pos hk]
   subst hk
   exact ⟨by simp,fun g h=>by simpa using h⟩
  ·rw [if_neg hk]
   refine ⟨?_,fun g h=>?_⟩
   ·rw [BR]
    exact BF _ i1
   ·rw [BR] at h ⊢
    rcases BH.mp h with e|e
    ·exact BH.mpr (.inl e)
    ·exact BF _ (i2 g e)
theorem eF (f:Str) (v:V):∀ fs:List (Str×V),(cR f v fs).length<=fs.length+1
 | []=>by simp [cR]
 | (k,x)::r=>by
  have ih:=eF f v r
  rw [show cR f v ((k,x)::r)=(if k=f then (k,v)::r else (k,x)::cR f v r) from rfl]
  by_cases hk:k=f
  ·rw [if_pos hk,Bx,Bx];omega
  ·rw [if_neg hk,Bx,Bx];omega
theorem RelO.some_of {v:V} {o:Option Value} (r:RelO (some v) o):∃ u,o=some u/\RelV v u:=by
 cases o with
 | none=>exact (show False from r).elim
 | some u=>exact ⟨u,rfl,r⟩
theorem RelO.none_of {o:Option Value} (r:RelO none o):o=none:=by
 cases o with
 | none=>rfl
 | some u=>exact (show False from r).elim
theorem iO {v:V} {u:Value} (r:RelV v u):PySem.W.handedIn u=true:=by
 cases v with
 | non=>cases (show u=Value.none from r);rfl
 | bl b=>cases (show u=Value.bool b from r);rfl
 | int i=>obtain ⟨t,e⟩:=(show ∃ t,u=Value.int i t from r);cases e;rfl
 | str x=>obtain ⟨t,e⟩:=(show ∃ t,u=Value.str x t from r);cases e;rfl
 | byt b=>obtain ⟨t,e⟩:=(show ∃ t,u=Value.bytes b t from r);cases e;rfl
 | flt b=>obtain ⟨t,e⟩:=(show ∃ t,u=Value.float b t from r);cases e;rfl
 | ref a=>cases (show u=Value.ref a from r);rfl
 | ty n=>cases (show u=Value.type n from r);rfl
section
variable {P:Program} {w:World} {H H':Hp} {h h':Heap} {a C dx:Addr} {fs fs':List (Str×V)}
theorem gO (hok:HOk P w H h) (e:H a=some (.ins C dx fs)):∃ mA,ObjM h a dx C mA/\(∀ f,RelO (fs.lookup f) (mA f))/\PySem.Within mA (fs.map (·.1))/\fs.length<=1000/\H dx=some (.own a):=by
 obtain ⟨d,z,ne,ob,mA,n,r,q⟩:=(show ObjOk P w H h a (.ins C dx fs) from hok a _ e)
 exact ⟨mA,⟨ob,n,ne⟩,r,q,z,d⟩
end
structure Cls (K:PySem.W.Frag) (C:Addr):Prop where
 pg:PySem.W.plainGet K C Str.empty=true
 hd:PySem.W.hasDictIn K C=true
 po:PySem.W.plainOver K C=true
 sa:PySem.W.findIn K (.ref C) "__setattr__"=some (some (.builtin "object.__setattr__"))
theorem Cls.get {K:PySem.W.Frag} {C:Addr} (c:Cls K C) (f:Str):PySem.W.plainGet K C f=true:=c.pg
def NoAttr (K:PySem.W.Frag) (C:Addr) (f:Str):Prop:=PySem.W.findIn K (.ref C) f=some none
theorem NoAttr.taker {K:PySem.W.Frag} {C:Addr} {f:Str} (n:NoAttr K C f):PySem.W.takerIn K C f=some none:=by
 unfold PySem.W.takerIn
 rw [show PySem.W.findIn K (.ref C) f=some none from n]
 rfl
structure vf (K:PySem.W.Frag) (C:Addr) (m:Str) (f:Addr):Prop where
 at_:PySem.W.findIn K (.ref C) m=some (some (.ref f))
 fn:PySem.W.isFn K (.ref f)=true
 kp:PySem.W.keepIn K (.ref f)=true
section
variable {X:Cx} {pins:List (Addr×Obj)} {σ:St} {H:Hp} {s:Shared} {a C dx:Addr} {fs:List (Str×V)} {f:Str} {v:V} {A:Around} {E:Value->Shared->Prop}
theorem lH {b:Bool} {Q:Value->Shared->Prop} (I:Inv X pins σ H s) (e:H a=some (.ins C dx fs)) (c:Cls X.K C) (n:NoAttr X.K C f) (l:fs.lookup f=some v)
  (h:∀ u s',Inv X pins σ H s'->RelV v u->Q u s'):wpAny (model X.prog X.w) A (getAttr (.ref a) f b) Q E s:=by
 obtain ⟨mA,O,r,_,_,_⟩:=gO I.hok e
 obtain ⟨u,hu,ru⟩:=RelO.some_of (v:=v) (o:=mA f) (by rw [<-l];exact r f)
 exact rK I.kIn O (c.get f) c.hd n hu (iO ru) (h u _ (I.tok _) ru)
theorem lI {m:Str} {g:Addr} {pl:Sem Bool} {Q:Value×List Value->Shared->Prop} (I:Inv X pins σ H s) (e:H a=some (.ins C dx fs)) (c:Cls X.K C) (k:vf X.K C m g) (l:fs.lookup m=none)
  (h:Q (.ref g,[.ref a]) s):wpAny (model X.prog X.w) A (getMethod (.ref a) m pl) Q E s:=by
 obtain ⟨mA,O,r,_,_,_⟩:=gO I.hok e
 have hn:mA m=none:=RelO.none_of (by rw [<-l];exact r m)
 exact oY I.kIn O (c.get m) k.at_ k.fn hn h
theorem lJ {y:V} {u:Value} {Q:Unit->Shared->Prop} (I:Inv X pins σ H s) (e:H a=some (.ins C dx fs)) (c:Cls X.K C) (n:NoAttr X.K C f) (hl:fs.length < 1000) (ry:RelV y u)
  (h:∀ s',Inv X pins σ (az H a (.ins C dx (cR f y fs))) s'->Q () s'):wpAny (model X.prog X.w) A (setAttr (.ref a) f u) Q E s:=by
 obtain ⟨mA,O,r,wi,_,ho⟩:=gO I.hok e
 have hz:(fs.map (·.1)).length<=sizeLine:=by rw [BE,sizeLine_eq];omega
 refine rL I.kIn O c.sa c.po n.taker c.hd wi hz fun h' O' sb=>h _ ?_
 have hd:∃ o,h'.get? dx=some o:=let ⟨o,_,_,e',_⟩:=O'.ns;⟨o,e'⟩
 refine I.write (x:=a) (e:=dx) (by rw [e];exact True.intro) (.inr ho) (fun b q hb z=>(sb.2 b hb).trans z) hd ?_
 refine ⟨by rw [aG O.ne];exact ho,?_,O.ne,O'.obj,_,O'.ns,fun g=>?_,fun g hg=>?_⟩
 ·have:=eF f y fs;omega
 ·show RelO ((cR f y fs).lookup g) (if g=f then some u else mA g)
  rw [eE]
  by_cases q:g=f
  ·rw [if_pos q,if_pos q];exact ry
  ·rw [if_neg q,if_neg q];exact r g
 ·by_cases q:g=f
  ·rw [q];exact (du f y fs).1
  ·refine (du f y fs).2 g (wi g fun z=>hg ?_)
   show (if g=f then some u else mA g)=none
   rw [if_neg q];exact z
theorem Inv.made (I:Inv X pins σ H s):Inv X pins σ (az (az H s.heap.objs.size (.own (s.heap.objs.size+1))) (s.heap.objs.size+1) (.ins C s.heap.objs.size []))
  { s with heap:=(s.heap.push PySem.W.emptyDict).push (PySem.W.instObj C s.heap.objs.size) }:=by
 have e1:(s.heap.push PySem.W.emptyDict).get? s.heap.objs.size=some PySem.W.emptyDict:=BU s.heap rfl
 have e2:((s.heap.push PySem.W.emptyDict).push (PySem.W.instObj C s.heap.objs.size)).get? (s.heap.objs.size+1)=some (PySem.W.instObj C s.heap.objs.size):=by
  have:=BU (s.heap.push PySem.W.emptyDict) (o:=PySem.W.instObj C s.heap.objs.size) rfl
  rwa [CP] at this
 have e3:(s.heap.push PySem.W.emptyDict).Ns s.heap.objs.size (fun _=>none):=⟨PySem.W.emptyDict,#[],_,e1,rfl,(fun e he=>absurd he (by simp)),fun _=>rfl⟩
 have I1:=I.laid (a:=s.heap.objs.size) (o:=.own (s.heap.objs.size+1)) (h':=s.heap.push PySem.W.emptyDict) (t':=s.toks) (fun b u q=>BB _ q) (BG _) ⟨_,e1⟩
 refine I1.laid (a:=s.heap.objs.size+1) (o:=.ins C s.heap.objs.size []) (t':=s.toks) (fun b u q=>BB _ q) (Nat.le_of_eq (CP _ _)) ?_
 have ne:s.heap.objs.size≠s.heap.objs.size+1:=BX (Nat.lt_succ_self _)
 refine ⟨by rw [aG ne,ae],Cp _,ne,e2,fun _=>none,(Heap.Ns1.of_empty e3).at fun o q=>BB _ q,fun _=>True.intro,fun y hy=>absurd rfl hy⟩
theorem mH {prog:Program} {w:World} {env:Env} {e:Expr} {f:Str} {pos:Pos} {s:Shared} {Q:Value->Shared->Prop} (hb:attributeBase e f env (eval e env)=eval e env)
  (h:wpAny (model prog w) A (eval e env) (fun o s₁=>wpAny (model prog w) A (getAttr o f true) Q E s₁) E s):wpAny (model prog w) A (eval (.Attribute e f pos) env) Q E s:=
 Attribute_any_ h (by rw [arm_eval_Attribute,hb])
end
inductive uA (K:PySem.W.Frag) (f:Str) (Q:VK) (x:V) (H1:Hp):Prop
 | mk (a C dx fs v:_):x=.ref a->H1 a=some (.ins C dx fs)->Cls K C->NoAttr K C f->fs.lookup f=some v->Q v H1->uA K f Q x H1
def zU (K:PySem.W.Frag) (ta:TE) (f:Str):TE:=fun σ H Q=>ta σ H fun x H1=>uA K f Q x H1
inductive uB (K:PySem.W.Frag) (f:Str) (D:Ends) (σ:St) (y:V) (x:V) (H2:Hp):Prop
 | mk (a C dx fs:_):x=.ref a->H2 a=some (.ins C dx fs)->Cls K C->NoAttr K C f->fs.length < 1000->D.nx σ (az H2 a (.ins C dx (cR f y fs)))->uB K f D σ y x H2
def zV (K:PySem.W.Frag) (ta tv:TE) (f:Str):TS:=fun D σ H=>tv σ H fun y H1=>ta σ H1 fun x H2=>uB K f D σ y x H2
section
variable {X:Cx} {o e value:Expr} {f:Str} {pos pos' tpos:Pos} {ta tv:TE}
theorem aU (he:PE X e ta) (hb:attributeBase e f X.env (eval e X.env)=eval e X.env):PE X (.Attribute e f pos) (zU X.K ta f):=by
 refine ⟨?_⟩
 intro pins s σ H Q I h
 refine mH hb (bA (he pins s σ H _ I h) fun u s1 ⟨x,H1,I1,rx,a,C,dx,fs,v,ex,ea,c,n,l,q⟩=>?_)
 subst ex
 obtain rfl:u=Value.ref a:=rx
 exact lH I1 ea c n l fun u' s2 I2 ru=>⟨v,H1,I2,ru,q⟩
theorem bO (ha:PE X o ta) (hv:PE X value tv) (hs:swapsWith value (some (.Attribute o f pos')) pos.line X.env=pure false):PS X (.Assign [.Attribute o f pos'] value pos) (zV X.K ta tv f):=by
 refine ⟨?_⟩
 intro pins s σ H D I h
 refine plainObj_wpAny_Assign_Attribute (bA (hv pins s σ H _ I h) fun u s1 ⟨y,H1,I1,ry,q⟩=>bA (ha pins s1 σ H1 _ I1 q) fun ov s2 ⟨x,H2,I2,rx,a,C,dx,fs,ex,ea,c,n,l,q2⟩=>?_) hs
 subst ex
 obtain rfl:ov=Value.ref a:=rx
 exact lJ I2 ea c n l ry fun s3 I3=>⟨σ,_,I3,q2⟩
end
section
variable {X:Cx} {pins:List (Addr×Obj)} {σ:St} {H:Hp} {s:Shared} {A:Around} {E:Value->Shared->Prop} {Q:Value->Shared->Prop} {c:Value} {b:Bool}
inductive ft (K:PySem.W.Frag) (H:Hp):V->Value->Prop where
 | non:ft K H .non (.type "NoneType")
 | bl (x:Bool):ft K H (.bl x) (.type "bool")
 | int (i:Int):ft K H (.int i) (.type "int")
 | str (x:Str):ft K H (.str x) (.type "str")
 | flt (x:UInt64):ft K H (.flt x) (.type "float")
 | lst {a:Addr} {xs:List V} (e:H a=some (.lst xs)):ft K H (.ref a) (.type "list")
 | frz {a:Addr} {o:Obj} {xs:List V} (e:H a=some (.frz o (.lst xs))):ft K H (.ref a) (.type "list")
 | tup {a:Addr} {xs:List V} (e:H a=some (.tup xs)):ft K H (.ref a) (.type "tuple")
 | dK {a:Addr} {kvs:List (cY×V)} (e:H a=some (.dK kvs)):ft K H (.ref a) (.type "dict")
 | dT {a:Addr} {kvs:List (List cY×V)} (e:H a=some (.dT kvs)):ft K H (.ref a) (.type "dict")
 | ins {a C dx:Addr} {fs:List (Str×V)} (e:H a=some (.ins C dx fs)) (cl:Cls K C) (ha:PySem.W.findIn K (.ref C) "__class__"=some (some (.builtin "object.__class__")))
   (hn:PySem.W.specialIn K (.builtin "object.__class__") "__get__"=some (some (.builtin "getset_descriptor.__get__"))) (htk:PySem.W.takesIn K (.builtin "object.__class__")=some true)
   (hm:PySem.W.mroIn K C (.type "object")=some true):ft K H (.ref a) (.ref C)
theorem iP {x:V} {u t:Value} (I:Inv X pins σ H s) (rx:RelV x u) (ty:ft X.K H x t) (e:PySem.W.kitOne X.K t c=some b) (h:∀ tk,Q (.bool b) { s with toks:=tk }) :
  wpAny (model X.prog X.w) A (call (.builtin "isinstance") [u,c]) Q E s:=by
 cases ty with
 | non=>cases (show u=Value.none from rx);exact Cb PySem.W.kitx_none I.kIn True.intro e (fun z=>nomatch z) h
 | bl y=>cases (show u=Value.bool y from rx);exact Cb PySem.W.kitx_bool I.kIn True.intro e (fun z=>nomatch z) h
 | int i=>obtain ⟨t,q⟩:=(show ∃ t,u=Value.int i t from rx);cases q;exact Cb PySem.W.kitx_int I.kIn True.intro e (fun z=>nomatch z) h
 | str y=>obtain ⟨t,q⟩:=(show ∃ t,u=Value.str y t from rx);cases q;exact Cb PySem.W.kitx_str I.kIn True.intro e (fun z=>nomatch z) h
 | flt y=>obtain ⟨t,q⟩:=(show ∃ t,u=Value.float y t from rx);cases q;exact Cb PySem.W.kitx_float I.kIn True.intro e (fun z=>nomatch z) h
 | @lst a xs ea=>
  cases (show u=Value.ref a from rx)
  obtain ⟨_,_,n,_,h1⟩:=(show ObjOk X.prog X.w H s.heap a (.lst xs) from I.hok a _ ea)
  exact Cb PySem.W.kitx_list I.kIn ⟨_,h1,rfl⟩ e (fun z=>nomatch z) h
 | @frz a ob xs ea=>
  cases (show u=Value.ref a from rx)
  obtain ⟨_,_,_,n,_,h1⟩:=(show ObjOk X.prog X.w H s.heap a (.frz ob (.lst xs)) from I.hok a _ ea)
  exact Cb PySem.W.kitx_list I.kIn ⟨_,h1,rfl⟩ e (fun z=>nomatch z) h
 | @tup a xs ea=>
  cases (show u=Value.ref a from rx)
  obtain ⟨_,_,_,p⟩:=(show ObjOk X.prog X.w H s.heap a (.tup xs) from I.hok a _ ea)
  obtain ⟨o,h1,h2,_⟩:=p
  exact Cb PySem.W.kitx_tuple I.kIn ⟨o,h1,(Prod.mk.inj h2).1⟩ e (fun z=>nomatch z) h
 | @dK a kvs ea=>
  cases (show u=Value.ref a from rx)
  obtain ⟨_,_,vs,_,p⟩:=(show ObjOk X.prog X.w H s.heap a (.dK kvs) from I.hok a _ ea)
  obtain ⟨o,es,ep,h1,h2,_⟩:=p
  exact Cb PySem.W.kitx_dict I.kIn ⟨o,h1,h2.1⟩ e (fun z=>nomatch z) h
 | @dT a kvs ea=>
  cases (show u=Value.ref a from rx)
  obtain ⟨_,_,xs,_,o,es,ep,h1,h2,_⟩:=(show ObjOk X.prog X.w H s.heap a (.dT kvs) from I.hok a _ ea)
  exact Cb PySem.W.kitx_dict I.kIn ⟨o,h1,h2.1⟩ e (fun z=>nomatch z) h
 | @ins a C dx fs ea cl ha hn htk hm=>
  cases (show u=Value.ref a from rx)
  obtain ⟨mA,O,_⟩:=gO I.hok ea
  obtain ⟨od,J,_⟩:=O.look
  exact Cb (PySem.W.kitx_own (cl.get _) cl.hd ha hn htk hm) I.kIn J e (fun z=>nomatch z) h
end
end L2
namespace L2
open PySem PySem.Spec PyProof.Rows
structure Room (k:Nat) (A:Around):Prop where
 hd:A.handled=none
 dp:A.depth+3*k+5 < recursionLimit
 un:A.units+16*k+200 < cLine
theorem Room.mono {j k:Nat} {A:Around} (r:Room k A) (h:j<=k):Room j A:=⟨r.hd,by have:=r.dp;omega,by have:=r.un;omega⟩
theorem Room.deeper {k:Nat} {A:Around} (r:Room (k+1) A) (env:Env):Room k (A.deeper env):=
 ⟨r.hd,by have:=r.dp;show A.depth+1+3*k+5 < _;omega,by have:=r.un;show A.units+3+16*k+200 < _;omega⟩
theorem lK {A:Around} {C:Addr} {us:List Value} {kw:List (Str×Value)}:(A.under (.builtin "type.__call__" ⟨.ref C::us,kw⟩)).depth=A.depth+1:=by
 first|rfl|simp [Around.under,Code.weight,Code.isCreation,Code.isGuard,Code.isCaller,Code.frames,Code.isFrame,guardIds]
theorem lL {A:Around} {C:Addr} {us:List Value} {kw:List (Str×Value)}:(A.under (.builtin "type.__call__" ⟨.ref C::us,kw⟩)).units=A.units+1:=by
 first|rfl|simp [Around.under,Code.cUnits,Code.frames,Code.isFrame]
theorem Room.make {k:Nat} {A:Around} (r:Room (k+1) A) (C:Addr) (us:List Value) (kw:List (Str×Value)):Room k (A.under (.builtin "type.__call__" ⟨.ref C::us,kw⟩)):=
 ⟨r.hd,by have:=r.dp;rw [lK];omega,by have:=r.un;rw [lL];omega⟩
theorem Room.depth {k:Nat} {A:Around} (r:Room k A):A.depth < recursionLimit:=by have:=r.dp;omega
theorem Room.units {k:Nat} {A:Around} (r:Room k A):A.units+64 < cLine:=by have:=r.un;omega
def rM:TA:=fun _ H Q=>Q [] H
def o0 (ta:TE) (tr:TA):TA:=fun σ H Q=>ta σ H fun x H1=>tr σ H1 fun xs H2=>Q (x::xs) H2
section
variable {X:Cx} {e:Expr} {es:List Expr} {te:TE} {t:TA} {pos:Pos}
theorem ac:PA X [] rM:=⟨fun _ _ _ _ H Q I h=>Calls.spliced_nil ⟨[],H,I,.nil,h⟩⟩
theorem aa (ha:PE X e te) (hr:PA X es t) (hs:starEach (e::es) X.env=(false,eval e X.env)::starEach es X.env:=by rfl):PA X (e::es) (o0 te t):=by
 refine ⟨?_⟩
 intro pos pins s σ H Q I h
 rw [hs]
 show wpAny _ _ (spliced ((false,eval e X.env)::backTo pos (starEach es X.env))) _ _ s
 refine Calls.spliced_cons (bA (ha pins s σ H _ I h) fun u s1 ⟨x,H1,I1,r1,q1⟩=>?_)
 exact bA (hr pos pins s1 σ H1 _ I1 q1) fun us s2 ⟨xs,H2,I2,r2,q2⟩=>⟨x::xs,H2,I2,.cons r1 r2,q2⟩
def zW (t:TA):TE:=fun σ H Q=>t σ H fun xs H1=>xs.length<=sizeLine/\∀ p,H1 p=none->Q (.ref p) (az H1 p (.tup xs))
def zX (t:TA):TE:=fun σ H Q=>t σ H fun xs H1=>xs.length<=sizeLine/\∀ p,H1 p=none->Q (.ref p) (az H1 p (.lst xs))
theorem aC {x1} (h:PA X es t):PE X (.Tuple es x1 pos) (zW t):=by
 refine ⟨?_⟩
 intro pins s σ H Q I hq
 refine wpAny_Tuple_spliced (bA (h pos pins s σ H _ I hq) fun us s1 ⟨xs,H1,I1,r,z,q⟩=>⟨by rw [<-r.length];exact z,?_⟩)
 have hf:H1 s1.heap.objs.size=none:=I1.hok.fresh (BG _)
 refine ⟨.ref s1.heap.objs.size,az H1 s1.heap.objs.size (.tup xs),I1.laid (t':=s1.toks) (fun b u e=>BB _ e) (BG _) ?_,rfl,q _ hf⟩
 exact ⟨z,us,r,⟨_,BU _ rfl,rfl,_,rfl⟩⟩
theorem bp (h:PA X es t):PE X (.List es pos) (zX t):=by
 refine ⟨?_⟩
 intro pins s σ H Q I hq
 refine wpAny_List_spliced (bA (h pos pins s σ H _ I hq) fun us s1 ⟨xs,H1,I1,r,z,q⟩=>⟨by rw [<-r.length];exact z,?_⟩)
 have hf:H1 s1.heap.objs.size=none:=I1.hok.fresh (BG _)
 refine ⟨.ref s1.heap.objs.size,az H1 s1.heap.objs.size (.lst xs),I1.laid (t':=s1.toks) (fun b u e=>BB _ e) (BG _) ?_,rfl,q _ hf⟩
 exact ⟨z,us,0,r,BU _ rfl⟩
end
abbrev Sp:=List V->Hp->VK->XK->Prop
abbrev nX:=List Env->Hp->Shared->XK->Value->Shared->Prop
structure Env0 (P:Program) (w:World) (K:PySem.W.Frag) (mg:Str->Option Value) (base:Heap) (A:Around) (outer:List Env) (s:Shared) (H:Hp):Prop where
 frames:A.frames=some outer
 mod:Mod K mg base
 bs:∀ b o,base.get? b=some o->s.heap.get? b=some o/\H b=none
 bsz:base.objs.size<=s.heap.objs.size
 funs:s.heap.FunFrames base outer
 frf:∀ b∈jp outer,H b=none
 hok:HOk P w H s.heap
 bare:AllBare s.gens
inductive CE (outer:List Env) (P:Program) (w:World) (H:Hp) (s:Shared) (Q:VK) (u:Value) (s':Shared):Prop
 | mk (v H':_):s'.os=s.os->AllBare s'.gens->Un (jp outer) [] H H' s.heap s'.heap->HOk P w H' s'.heap->RelV v u->Q v H'->CE outer P w H s Q u s'
def CR (CX:nX) (outer:List Env) (P:Program) (w:World) (H:Hp) (s:Shared) (Q:VK) (E:XK) (r:Result) (s':Shared):Prop:=
 match r with
 | .ok (.ret u)=>CE outer P w H s Q u s'
 | .ok _=>False
 | .error e=>CX outer H s E e s'
structure aI (P:Program) (w:World) (K:PySem.W.Frag) (mg:Str->Option Value) (base:Heap) (CX:nX) (k:Nat) (f:Addr) (fd:FuncData) (ps:List Str) (sp:Sp):Prop where
 len:∀ vs H Q E,sp vs H Q E->vs.length=ps.length
 run:∀ (A:Around) (outer:List Env) (s:Shared) (H:Hp) (args:Args) (us:List Value) (vs:List V) (Q:VK) (E:XK),Room k A->Env0 P w K mg base A outer s H->BindsTo s fd args (ps.zip us)->Vals vs us->sp vs H Q E->
  codeAny (model P w) A (.call (.ref f) args) (CR CX outer P w H s Q E) s
theorem Env0.make {P:Program} {w:World} {K:PySem.W.Frag} {mg:Str->Option Value} {base:Heap} {A:Around} {outer:List Env} {s:Shared} {H:Hp} (e:Env0 P w K mg base A outer s H) (C:Addr) (us:List Value) (kw:List (Str×Value)) :
  Env0 P w K mg base (A.under (.builtin "type.__call__" ⟨.ref C::us,kw⟩)) outer s H:=⟨by first|exact e.frames|(simpa [Around.under,Code.envs,Code.isFrame,pushEnvs] using e.frames),e.mod,e.bs,e.bsz,e.funs,e.frf,e.hok,e.bare⟩
section
variable {X:Cx} {pins:List (Addr×Obj)} {σ:St} {H:Hp} {s s':Shared}
theorem Inv.env0 (I:Inv X pins σ H s):Env0 X.prog X.w X.K X.mg X.base X.A X.stack s H:=
 ⟨I.ok.frames,I.ok.mod,I.bs,BN I.ok.bsz I.sz,I.stack,I.stkFree,I.hok,I.bare⟩
theorem Inv.after {Q:VK} {u:Value} (I:Inv X pins σ H s) (h:CE X.stack X.prog X.w H s Q u s'):EP X pins σ Q u s':=by
 obtain ⟨v,H',os,bare,un,hok,r,q⟩:=h
 obtain ⟨hh,g,d,t,os'⟩:=s'
 obtain rfl:os'=s.os:=os
 exact ⟨v,H',I.call (h':=hh) (g':=g) (d':=d) (t':=t) (ch:=[]) un hok bare (fun b z=>absurd z (by simp)),r,q⟩
end
def mI (sp:Sp) (dvs:List V) (E:XK) (t:TA):TE:=fun σ H Q=>t σ H fun vs H1=>sp (vs++dvs) H1 Q E
def xK (C:Addr) (sp:Sp) (dvs:List V) (E:XK) (t:TA):TE:=fun σ H Q=>t σ H fun vs H1=>∀ x dx,H1 x=none->H1 dx=none->dx≠x->
 sp (.ref x::(vs++dvs)) (az (az H1 dx (.own x)) x (.ins C dx [])) (fun v H2=>v=.non/\Q (.ref x) H2) E
def Binds (K:PySem.W.Frag) (fd:FuncData) (ps:List Str) (ds:List Value):Prop:=
 ∀ (s:Shared) (us:List Value),K.In s.heap->(us++ds).length=ps.length->BindsTo s fd ⟨us,[]⟩ (ps.zip (us++ds))
theorem Binds.all {K:PySem.W.Frag} {fd:FuncData} {ps:List Str} (h:∀ us:List Value,us.length=ps.length->bindArgs fd ⟨us,[]⟩=pure (ps.zip us)):Binds K fd ps []:=fun s us _ hl=>by
 rw [Co] at hl ⊢
 exact .of_eq (h us hl)
def dE (CX:nX) (X:Cx) (E:XK):Prop:=∀ (pins:List (Addr×Obj)) (σ:St) (H:Hp) (s:Shared) (e:Value) (s':Shared),Inv X pins σ H s->CX X.stack H s E e s'->X.xe e s'
section
variable {X:Cx} {CX:nX} {k:Nat} {f C:Addr} {fd:FuncData} {ps:List Str} {sp:Sp} {dvs:List V} {ds:List Value} {E:XK} {x m:Str} {p pos apos:Pos} {e o:Expr} {es:List Expr} {ta:TE} {t:TA}
theorem js {pins:List (Addr×Obj)} {σ:St} {H:Hp} {s:Shared} {Q:VK} {us:List Value} {vs:List V} (F:aI X.prog X.w X.K X.mg X.base CX k f fd ps sp) (hr:Room k X.A) (hb:Binds X.K fd ps ds) (hd:Vals dvs ds) (hx:dE CX X E)
  (I:Inv X pins σ H s) (r:Vals vs us) (h:sp (vs++dvs) H Q E):wpAny (model X.prog X.w) X.A (call (.ref f) us) (EP X pins σ Q) X.xe s:=by
 have r2:Vals (vs++dvs) (us++ds):=r.append hd
 have hl:(us++ds).length=ps.length:=by rw [<-r2.length];exact F.len _ _ _ _ h
 refine wpAny_call (codeAny_mono (F.run X.A X.stack s H ⟨us,[]⟩ (us++ds) (vs++dvs) Q E hr I.env0 (hb s us I.kIn hl) r2 h) fun r s' hq=>?_)
 cases r with
 | error e=>exact hx pins σ H s e s' I hq
 | ok fl=>
  cases fl with
  | ret u=>exact I.after hq
  | next=>exact False.elim hq
  | brk=>exact False.elim hq
  | cont=>exact False.elim hq
theorem rN (F:aI X.prog X.w X.K X.mg X.base CX k f fd ps sp) (hr:Room k X.A) (hg:Gl X x) (hm:X.mg x=some (.ref f)) (hk:PySem.W.keepIn X.K (.ref f)=true) (hb:Binds X.K fd ps ds) (hd:Vals dvs ds) (hx:dE CX X E)
  (ha:PA X (e::es) t) (hdb:(x == ("__debug__":Str))=false:=by decide) (he:starEach (e::es) X.env=(false,eval e X.env)::starEach es X.env:=by rfl) (hpl:(backTo pos (starEach es X.env)).any (·.1)=false:=by rfl) :
  PE X (.Call (.Name x p) (e::es) [] pos) (mI sp dvs E t):=by
 refine ⟨?_⟩
 intro pins s σ H Q I h
 refine wpAny_Call_Name_kw (dC I hg hm ?_ hdb)
 refine CC (h₀:=X.base) I.ok.mod.kin hk (bA (ha pos pins s σ H _ I h) fun us s1 ⟨vs,H1,I1,r,q⟩=>⟨I1.kIn,?_⟩) he hpl
 exact js F hr hb hd hx I1 r q
theorem o3 (F:aI X.prog X.w X.K X.mg X.base CX k f fd ps sp) (hr:Room k X.A) (hg:Gl X x) (hm:X.mg x=some (.ref f)) (hk:PySem.W.keepIn X.K (.ref f)=true) (hb:Binds X.K fd ps ds) (hd:Vals dvs ds) (hx:dE CX X E)
  (hdb:(x == ("__debug__":Str))=false:=by decide):PE X (.Call (.Name x p) [] [] pos) (mI sp dvs E rM):=by
 refine ⟨?_⟩
 intro pins s σ H Q I h
 refine wpAny_Call_Name_kw (dC I hg hm ?_ hdb)
 exact PySem.W.callWith_K0 I.kIn hk (js (us:=[]) F hr hb hd hx I .nil h)
structure Mk (K:PySem.W.Frag) (C f:Addr):Prop where
 makes:PySem.W.makesIn K C=true
 init:PySem.W.findIn K (.ref C) "__init__"=some (some (.ref f))
 fn:PySem.W.isFn K (.ref f)=true
 kp:PySem.W.keepIn K (.ref C)=true
theorem o4 {pins:List (Addr×Obj)} {σ:St} {H:Hp} {s:Shared} {Q:VK} {us:List Value} {vs:List V} (M:Mk X.K C f) (F:aI X.prog X.w X.K X.mg X.base CX k f fd ps sp) (hr:Room (k+1) X.A) (hb:Binds X.K fd ps ds) (hd:Vals dvs ds)
  (hx:dE CX X E) (I:Inv X pins σ H s) (r:Vals vs us)
  (h:∀ x dx,H x=none->H dx=none->dx≠x->sp (.ref x::(vs++dvs)) (az (az H dx (.own x)) x (.ins C dx [])) (fun v H2=>v=.non/\Q (.ref x) H2) E) :
  wpAny (model X.prog X.w) X.A (call (.ref C) us) (EP X pins σ Q) X.xe s:=by
 have hq:=h (s.heap.objs.size+1) s.heap.objs.size (I.hok.fresh (Nat.le_succ _)) (I.hok.fresh (BG _)) (BX (Nat.lt_succ_self _))
 have I2:=Inv.made (C:=C) I
 have r2:Vals (V.ref (s.heap.objs.size+1)::(vs++dvs)) (Value.ref (s.heap.objs.size+1)::(us++ds)):=.cons rfl (r.append hd)
 have hl:(Value.ref (s.heap.objs.size+1)::us++ds).length=ps.length:=by
  have e:=r2.length
  rw [F.len _ _ _ _ hq] at e
  exact e.symm
 refine wpAny_call (oZ (f:=f) I.kIn M.makes M.init (beq_iff_eq.mp M.fn) (codeAny_mono (F.run _ X.stack _ _ ⟨Value.ref (s.heap.objs.size+1)::us,[]⟩ (Value.ref (s.heap.objs.size+1)::(us++ds)) _ _ E (hr.make C us [])
  (I2.env0.make C us []) (hb _ (Value.ref (s.heap.objs.size+1)::us) I2.kIn hl) r2 hq) fun r s' hq'=>?_))
 cases r with
 | error e=>exact hx pins σ _ _ e s' I2 hq'
 | ok fl=>
  cases fl with
  | ret u=>
   obtain ⟨v,H',I3,rv,ev,q3⟩:=I2.after hq'
   subst ev
   exact ⟨rv,⟨V.ref (s.heap.objs.size+1),H',I3,rfl,q3⟩⟩
  | next=>exact False.elim hq'
  | brk=>exact False.elim hq'
  | cont=>exact False.elim hq'
theorem cN (M:Mk X.K C f) (F:aI X.prog X.w X.K X.mg X.base CX k f fd ps sp) (hr:Room (k+1) X.A) (hg:Gl X x) (hm:X.mg x=some (.ref C)) (hb:Binds X.K fd ps ds) (hd:Vals dvs ds) (hx:dE CX X E)
  (ha:PA X (e::es) t) (hdb:(x == ("__debug__":Str))=false:=by decide) (he:starEach (e::es) X.env=(false,eval e X.env)::starEach es X.env:=by rfl) (hpl:(backTo pos (starEach es X.env)).any (·.1)=false:=by rfl) :
  PE X (.Call (.Name x p) (e::es) [] pos) (xK C sp dvs E t):=by
 refine ⟨?_⟩
 intro pins s σ H Q I h
 refine wpAny_Call_Name_kw (dC I hg hm ?_ hdb)
 refine CC (h₀:=X.base) I.ok.mod.kin M.kp (bA (ha pos pins s σ H _ I h) fun us s1 ⟨vs,H1,I1,r,q⟩=>⟨I1.kIn,?_⟩) he hpl
 exact o4 M F hr hb hd hx I1 r q
end
structure aq (N P:List Str) (sc:Scope):Prop where
 kind:sc.kind=.function
 co:sc.isCoroutine=false
 gen:sc.isGenerator=false
 nd:N.Nodup
 pre:N.take P.length=P
 par:∀ x∈P,sc.names.lookup x=some .local\/sc.names.lookup x=some .cell
 nofree:∀ y∈sc.names,y.2≠.free
theorem iQ {kindOf:Str->Option NameKind} {x:Str}:∀ {binds:List (Str×Value)} {m:Str->Option Value},(∀ v,(x,v)∉binds)->bindL kindOf binds m x=m x
 | [],_,_=>rfl
 | (n,v)::r,m,h=>by
  unfold bindL
  rw [iQ fun w hw=>h w (BF _ hw)]
  split
  ·have:x≠n:=by rintro rfl;exact h v BJ
   simp [this]
  ·rfl
theorem iR {kindOf:Str->Option NameKind} {x:Str}:∀ {binds:List (Str×Value)} {m:Str->Option Value},(∀ v,(x,v)∉binds)->bindC kindOf binds m x=m x
 | [],_,_=>rfl
 | (n,v)::r,m,h=>by
  unfold bindC
  rw [iR fun w hw=>h w (BF _ hw)]
  split
  ·rfl
  ·have:x≠n:=by rintro rfl;exact h v BJ
   simp [this]
theorem iS {kindOf:Str->Option NameKind} {x:Str} {v:Value}:∀ {P:List Str} {vs:List Value} {i:Nat} {m:Str->Option Value},P.Nodup->P[i]?=some x->vs[i]?=some v->kindOf x=some .local->
  bindL kindOf (P.zip vs) m x=some v
 | [],_,_,_,_,h,_,_=>by simp at h
 | _::_,[],_,_,_,_,h,_=>by simp at h
 | p::P,w::vs,0,m,nd,h1,h2,hk=>by
  simp at h1 h2;subst h1;subst h2
  show bindL kindOf ((p,w)::P.zip vs) m p=_
  unfold bindL
  rw [iQ fun v hv=>(CS.mp nd).1 (List.of_mem_zip hv).1,if_pos hk]
  simp
 | p::P,w::vs,i+1,m,nd,h1,h2,hk=>by
  show bindL kindOf ((p,w)::P.zip vs) m x=_
  unfold bindL
  exact iS (i:=i) (CS.mp nd).2 (by simpa using h1) (by simpa using h2) hk
theorem iU {kindOf:Str->Option NameKind} {x:Str} {v:Value}:∀ {P:List Str} {vs:List Value} {i:Nat} {m:Str->Option Value},P.Nodup->P[i]?=some x->vs[i]?=some v->kindOf x≠some .local->
  bindC kindOf (P.zip vs) m x=some v
 | [],_,_,_,_,h,_,_=>by simp at h
 | _::_,[],_,_,_,_,h,_=>by simp at h
 | p::P,w::vs,0,m,nd,h1,h2,hk=>by
  simp at h1 h2;subst h1;subst h2
  show bindC kindOf ((p,w)::P.zip vs) m p=_
  unfold bindC
  rw [iR fun v hv=>(CS.mp nd).1 (List.of_mem_zip hv).1,if_neg hk]
  simp
 | p::P,w::vs,i+1,m,nd,h1,h2,hk=>by
  show bindC kindOf ((p,w)::P.zip vs) m x=_
  unfold bindC
  exact iU (i:=i) (CS.mp nd).2 (by simpa using h1) (by simpa using h2) hk
def fQ (N:List Str) (vs:List V):St:=vs.map some++List.replicate (N.length - vs.length) none
def jt (CX:nX) (P:Program) (w:World) (K:PySem.W.Frag) (mg:Str->Option Value) (base:Heap) (N:List Str) (qual:Str) (scope:Scope) (f:Addr) (cd:Value) (A:Around) (outer:List Env) (s:Shared) (H:Hp) (E:XK):Cx where
 prog:=P
 w:=w
 K:=K
 mg:=mg
 base:=base
 A:=A.deeper (envOfC qual scope s.heap.objs.size f cd)
 N:=N
 s₀:=s
 H₀:=H
 env:=envOfC qual scope s.heap.objs.size f cd
 outer:=outer
 stack:=envOfC qual scope s.heap.objs.size f cd::outer
 ex:=[]
 calm:=true
 fn:=fun _=>true
 pn:=[]
 xe:=fun e s'=>wpAny (model P w) (A.deeper (envOfC qual scope s.heap.objs.size f cd)) (leaving (envOfC qual scope s.heap.objs.size f cd) e) (fun _ s''=>CX outer H s E e s'') (fun e' s''=>CX outer H s E e' s'') s'
theorem kq {sc:Scope} {n:Nat} {x:Str} (h:sc.names.lookup x=some .cell):∃ c,(cellsFrom n sc.names []).lookup x=some c:=by
 have q:=PySem.W.cellsFrom_some sc.names n [] (.inl h)
 exact Option.isSome_iff_exists.mp q
theorem nY {CX:nX} {P:Program} {w:World} {K:PySem.W.Frag} {mg:Str->Option Value} {base:Heap} {N ps:List Str} {qual:Str} {scope:Scope} {f:Addr} {cd:Value} {A:Around} {outer:List Env} {s s1:Shared} {H:Hp} {E:XK} {us:List Value} {vs:List V}
  (S:aq N ps scope) (hd:A.handled=none) (e0:Env0 P w K mg base A outer s H) (hl:vs.length=ps.length) (r:Vals vs us)
  (x:InCallC s s.heap.objs.size (bindL (envOfC qual scope s.heap.objs.size f cd).kindOf (ps.zip us) fun _=>none) (cellsFrom (s.heap.objs.size+1) scope.names []) (bindC (envOfC qual scope s.heap.objs.size f cd).kindOf (ps.zip us) fun _=>none) s1) :
  Inv (jt CX P w K mg base N qual scope f cd A outer s H E) [] (fQ N vs) H s1:=by
 have hpl:ps.length<=N.length:=by have:=congrArg List.length S.pre;rw [BZ] at this;omega
 obtain ⟨h1,tk,rfl,hk⟩:=x.done
 have noA:∀ b:Addr,b∉(jt CX P w K mg base N qual scope f cd A outer s H E).ex:=fun b z=>absurd (show b∈([]:List Addr) from z) (by simp)
 refine ⟨⟨e0.mod,S.kind,rfl,rfl,BG _,fun y z c h1 h2=>?_,fun y hy=>?_,fun y c _ h=>?_,fun _=>hd,Around.frames_deeper e0.frames,.inr ⟨rfl,rfl⟩,fun b z=>absurd z (noA b),e0.bs,e0.bsz,fun b _ _=>noA b,fun b z=>absurd z (noA b),e0.funs,e0.frf⟩,
  rfl,e0.bare,Un.kept hk,⟨_,x.toInCall.ns,fun i y v h1 h2 h3=>?_⟩,fun y c h=>⟨_,x.cell y c h⟩,e0.hok.fresh (BG _),fun y c h=>?_,fun p hp=>absurd (show p∈([]:List (Addr×Obj)) from hp) (by simp),e0.hok.kept hk,?_⟩
 ·exact name_of_addr x.apart (CA h1) (CA h2)
 ·have hy:scope.names.lookup y=some .cell\/scope.names.lookup y=some .free:=hy
  rcases hy with hy|hy
  ·exact kq hy
  ·exact absurd rfl (S.nofree _ (CA hy))
 ·exact Nat.le_of_lt (x.above y c (CA h))
 ·have hi:i < vs.length:=by
   unfold fQ at h2
   by_cases hi:i < vs.length
   ·exact hi
   ·rw [List.getElem?_append_right (by simpa using hi)] at h2
    rw [List.getElem?_replicate] at h2
    split at h2<;>cases h2
  have ha:vs[i]?=some v:=by
   unfold fQ at h2
   rw [B6 (by simpa using hi),Cw] at h2
   cases e:vs[i]? with
   | none=>rw [e] at h2;cases h2
   | some a=>rw [e] at h2;cases h2;rfl
  obtain ⟨u,hu,rv⟩:=r.get ha
  have hp:ps[i]?=some y:=by
   rw [<-S.pre,List.getElem?_take_of_lt (by omega)];exact h1
  have ndP:ps.Nodup:=by rw [<-S.pre];exact S.nd.sublist (List.take_sublist _ _)
  refine ⟨u,rv,?_⟩
  rcases S.par y (B7 hp) with k|k
  ·exact .inl ⟨k,iS ndP hp hu k⟩
  ·obtain ⟨c,e⟩:=kq (n:=s.heap.objs.size+1) k
   refine .inr ⟨.inl k,c,e,?_⟩
   have q:=x.cell y c e
   rw [iU ndP hp hu (by show scope.names.lookup y≠_;rw [k];decide)] at q
   exact q
 ·exact e0.hok.fresh (Nat.le_of_lt (x.above y c (CA h)))
 ·unfold fQ
  show _=N.length
  rw [By,BE,List.length_replicate]
  omega
theorem uC {CX:nX} {P:Program} {w:World} {K:PySem.W.Frag} {mg:Str->Option Value} {base:Heap} {k:Nat} {f:Addr} {name qual:Str} {params:Arguments} {body:List Stmt} {scope:Scope} {dV kV doc pm cdv ct oc:Value} {an od:Option Addr}
  {osl:Array (Option Value)} {N ps:List Str} {sp:Sp} (lk:K.lookup f=some ⟨oc,od,.func (PySem.W.fnOf name qual params body scope dV kV doc pm an cdv ct),osl⟩) (hcd:PySem.W.codeIn K cdv qual=true) (S:aq N ps scope)
  (len:∀ vs H Q E,sp vs H Q E->vs.length=ps.length)
  (hbody:∀ (A:Around) (outer:List Env) (s:Shared) (H:Hp) (vs:List V) (Q:VK) (E:XK),Room k (A.deeper (envOfC qual scope s.heap.objs.size f cdv))->sp vs H Q E->
   ∃ t,PSs (jt CX P w K mg base N qual scope f cdv A outer s H E) body t/\t { nx:=fun _ H'=>Q .non H',rt:=Q } (fQ N vs) H) :
  aI P w K mg base CX (k+1) f (PySem.W.fnOf name qual params body scope dV kV doc pm an cdv ct) ps sp:=by
 refine ⟨len,fun A outer s H args us vs Q E hr e0 hb r hsp=>?_⟩
 have hl:=len _ _ _ _ hsp
 have KX:K.In s.heap:=e0.mod.kin.keeps fun b o e=>(e0.bs b o e).1
 have lim:s.heap.NoLimit:=e0.mod.nolimit.keeps fun b o e=>(e0.bs b o e).1
 have hkind:∀ y∈ps.zip us,scope.names.lookup y.1=some .local\/(scope.names.lookup y.1=some .cell/\((cellsFrom (s.heap.objs.size+1) scope.names []).lookup y.1).isSome=true):=fun ⟨n,v⟩ hy=>by
  rcases S.par n (List.of_mem_zip hy).1 with q|q
  ·exact .inl q
  ·exact .inr ⟨q,PySem.W.cellsFrom_some _ _ _ (.inl q)⟩
 refine codeAny_call_function hr.depth (KX _ _ lk) rfl S.co S.gen rfl (PySem.W.codeRec_of KX hcd) (hb _ _ _ _ ?_)
 refine wpAny_newFunctionEnv_cells S.kind hkind fun env he s1 x=>?_
 subst he
 refine ⟨lim.keeps x.toInCall.keep,codeAny_func ?_⟩
 obtain ⟨t,ht,hq⟩:=hbody A outer s H vs Q E (hr.deeper _) hsp
 have I:Inv (jt CX P w K mg base N qual scope f cdv A outer s H E) [] (fQ N vs) H s1:=nY S hr.hd e0 hl r x
 refine wpAny_mono (ht [] s1 (fQ N vs) H _ I hq) (fun fl s' hs=>?_) fun e s' hs=>hs
 have fin:∀ {σ':St} {H':Hp} {v:V} {u:Value},Inv (jt CX P w K mg base N qual scope f cdv A outer s H E) [] σ' H' s'->RelV v u->Q v H'->CE outer P w H s Q u s':=
  fun {σ' H' v u} J rv q=>⟨v,H',J.os,J.bare,J.base,J.hok,rv,q⟩
 cases fl with
 | ret u=>
  obtain ⟨v,σ',H',J,rv,q⟩:=hs
  exact fin J rv q
 | next=>
  obtain ⟨σ',H',J,q⟩:=hs
  exact fin (v:=V.non) (u:=Value.none) J rfl q
 | brk=>
  obtain ⟨_,_,_,q⟩:=hs
  exact False.elim q
 | cont=>
  obtain ⟨_,_,_,q⟩:=hs
  exact False.elim q
end L2
namespace L2
open PySem PySem.Spec PyProof.Rows
section
variable {X:Cx} {x:Str} {p pos:Pos} {e:Expr} {es:List Expr} {t:TA} {id T:String} {r:List V->Hp->VK->Prop}
def AX (r:List V->Hp->VK->Prop) (t:TA):TE:=fun σ H Q=>t σ H fun vs H1=>r vs H1 Q
theorem aJ (hc:cA X (.builtin id) r) (hg:Gl X x) (hm:X.mg x=none) (hv:bootBuiltins x=some (.builtin id)) (ha:PA X (e::es) t) (hn:x≠"__name__":=by decide) (hdb:(x == ("__debug__":Str))=false:=by decide)
  (he:starEach (e::es) X.env=(false,eval e X.env)::starEach es X.env:=by rfl) (hpl:(backTo pos (starEach es X.env)).any (·.1)=false:=by rfl):PE X (.Call (.Name x p) (e::es) [] pos) (AX r t):=by
 refine ⟨?_⟩
 intro pins s σ H Q I h
 refine wpAny_Call_Name_kw (jq I hg hm hv ?_ hn hdb)
 exact PyProof.Rows.callWith_builtin1 (bA (ha pos pins s σ H _ I h) fun us s1 ⟨vs,H1,I1,r1,q1⟩=>hc pins s1 σ H1 vs us Q I1 r1 q1) he hpl
theorem aY (hc:cA X (.type T) r) (hg:Gl X x) (hm:X.mg x=none) (hv:bootBuiltins x=some (.type T)) (ha:PA X (e::es) t) (hn:x≠"__name__":=by decide) (hdb:(x == ("__debug__":Str))=false:=by decide)
  (he:starEach (e::es) X.env=(false,eval e X.env)::starEach es X.env:=by rfl) (hpl:(backTo pos (starEach es X.env)).any (·.1)=false:=by rfl):PE X (.Call (.Name x p) (e::es) [] pos) (AX r t):=by
 refine ⟨?_⟩
 intro pins s σ H Q I h
 refine wpAny_Call_Name_kw (jq I hg hm hv ?_ hn hdb)
 exact PyProof.Rows.callWith_type1 (bA (ha pos pins s σ H _ I h) fun us s1 ⟨vs,H1,I1,r1,q1⟩=>hc pins s1 σ H1 vs us Q I1 r1 q1) he hpl
end
end L2
namespace HT
open PySem PyProof.Rows
section
open PySem.SeqAt
open PySem.AutoSeq1 (wpAny_loadPart')
open PySem.MeetsSeq PySem.MeetsSeq2 PySem.MeetsSeq3
end
section
variable {prog:Program} {w:World} {A:Around} {E:Value->Shared->Prop} {s:Shared}
def sIx (n d:Nat):Option Int->Nat
 | none=>d
 | some v=>if v < 0 then (v+(n:Int)).toNat else min v.toNat n
theorem sIx_le (n d:Nat) (hd:d<=n) (o:Option Int):sIx n d o<=n:=by
 cases o with
 | none=>exact hd
 | some v=>
  show (if v < 0 then (v+(n:Int)).toNat else min v.toNat n)<=n
  by_cases hv:v < 0
  ·rw [if_pos hv];omega
  ·rw [if_neg hv];exact Nat.min_le_right _ _
theorem clip_eq (v:Int) (n d:Nat):(if v < 0 then max (v+(n:Int)) 0 else min v (n:Int))=((sIx n d (some v):Nat):Int):=by
 show (if v < 0 then max (v+(n:Int)) 0 else min v (n:Int))=(((if v < 0 then (v+(n:Int)).toNat else min v.toNat n):Nat):Int)
 by_cases hv:v < 0
 ·simp only [if_pos hv];omega
 ·simp only [if_neg hv];omega
theorem adjust_gen (lo hi:Option Int) (n:Nat):Builtin.Slice.sliceAdjust lo hi 1 (n:Int)=(((sIx n 0 lo:Nat):Int),((sIx n n hi:Nat):Int)):=by
 have h1:¬ ((1:Int) < 0):=by omega
 unfold Builtin.Slice.sliceAdjust
 simp only [h1,if_false]
 refine Prod.ext ?_ ?_
 ·cases lo with
  | none=>rfl
  | some v=>exact clip_eq v n 0
 ·cases hi with
  | none=>rfl
  | some v=>exact clip_eq v n n
theorem places_gen (i j:Nat):Builtin.Slice.slicePlaces (i:Int) (j:Int) 1=j - i:=by
 unfold Builtin.Slice.slicePlaces
 have h1:(1:Int) > 0:=by omega
 simp only [h1,if_true,Int.ediv_one]
 split<;>omega
theorem slicePart_ {v:Value} {o:Option Int} {Q:Option Int->Shared->Prop} (p:IsPart v o) (h:Q o s):wpAny (model prog w) A (Builtin.Slice.slicePartIndex v) Q E s:=by
 cases p with
 | none=>exact slicePart_none h
 | int i t=>exact slicePart_int h
theorem sliceApplied_gen {sl:Addr} {vl vu:Value} {lo hi:Option Int} {n:Nat} {Q:Int×Int×Nat->Shared->Prop} (hs:s.heap.IsSliceOf sl vl vu .none) (pl:IsPart vl lo) (pu:IsPart vu hi)
  (h:Q (((sIx n 0 lo:Nat):Int),1,sIx n n hi - sIx n 0 lo) s):wpAny (model prog w) A (Builtin.Slice.sliceApplied (.ref sl) (pure (n:Int))) Q E s:=by
 obtain ⟨os,hos,hcs,hds⟩:=id hs
 unfold Builtin.Slice.sliceApplied Builtin.Slice.sliceFields
 refine wpAny_bind (wpAny_bind (wpAny_field hos hds (x:=vl) rfl (wpAny_bind (wpAny_field hos hds (x:=vu) rfl (wpAny_bind (wpAny_field hos hds (x:=.none) rfl (wpAny_pure ?_)))))))
 refine wpAny_bind (slicePart_none ?_)
 show wpAny _ _ (if ((1:Int) == 0)=true then _ else _) _ _ s
 rw [if_neg (by decide)]
 refine wpAny_bind (slicePart_ pl (wpAny_bind (slicePart_ pu (wpAny_bind (wpAny_pure ?_)))))
 show wpAny _ _ (match Builtin.Slice.sliceAdjust lo hi 1 (n:Int) with|(lo,hi)=>pure (lo,(1:Int),Builtin.Slice.slicePlaces lo hi 1)) _ _ s
 rw [adjust_gen lo hi n]
 show wpAny _ _ (pure (((sIx n 0 lo:Nat):Int),(1:Int),Builtin.Slice.slicePlaces ((sIx n 0 lo:Nat):Int) ((sIx n n hi:Nat):Int) 1)) _ _ s
 rw [places_gen]
 exact wpAny_pure h
theorem pick_gen (xs:Array Value) (i k:Nat):((List.range k).filterMap fun (m:Nat)=>xs[((i:Int)+(m:Int)*1).toNat]?).toArray=((xs.toList.drop i).take k).toArray:=by
 have e:(fun (m:Nat)=>xs[((i:Int)+(m:Int)*1).toNat]?)=fun m=>xs[i+m]?:=by
  funext m
  have:((i:Int)+(m:Int)*1).toNat=i+m:=by omega
  rw [this]
 rw [e]
 have:=pick_run xs i k
 rw [List.filterMap_map] at this
 have e2:((fun x=>xs[x]?) ∘ fun x=>i+x)=fun m=>xs[i+m]?:=rfl
 rw [e2] at this
 rw [this]
theorem getItem_tuple_cut {t sl:Addr} {items:Array Value} {vl vu:Value} {lo hi:Option Int} {Q:Value->Shared->Prop} (ht:IsTup s.heap t items) (hs:s.heap.IsSliceOf sl vl vu .none) (pl:IsPart vl lo) (pu:IsPart vu hi)
  (hw:¬ (sIx items.size 0 lo=0/\sIx items.size items.size hi=items.size))
  (h:Q (.ref s.heap.objs.size) { s with heap:=s.heap.push { cls:=.type "tuple",data:=.seq ((items.toList.drop (sIx items.size 0 lo)).take (sIx items.size items.size hi - sIx items.size 0 lo)).toArray } })
  (hsz:items.size<=sizeLine):wpAny (model prog w) A (getItem (.ref t) (.ref sl)) Q E s:=by
 have htake:sizeOk (.seq ((items.toList.drop (sIx items.size 0 lo)).take (sIx items.size items.size hi - sIx items.size 0 lo)).toArray):=by
  show ((items.toList.drop (sIx items.size 0 lo)).take (sIx items.size items.size hi - sIx items.size 0 lo)).toArray.size<=sizeLine
  rw [BO,BZ,B2,CI]
  omega
 have hj:sIx items.size items.size hi<=items.size:=sIx_le _ _ (BG _) hi
 obtain ⟨os,hos,hcs,hds⟩:=id hs
 have hTs:s.TypeIs (.ref sl) "slice":=⟨os,hos,hcs⟩
 unfold getItem
 try with_reducible refine wpAny_holding ?_
 first|refine wpAny_bind (wpAny_pure ?_)|skip
 refine wpAny_bind (wpAny_sequenceKey ht.typeIs (by decide) ?_)
 refine wpAny_bind (wpAny_callSpecial?_slot (name:=Str.ofString "__getitem__") ht.typeIs PyProof.Rows.slot_tuple_getitem
  (wpAny_call_entry PyProof.Rows.slot_tuple_getitem ht.typeIs entry_tuple_getitem ?_ (args_tuple_getitem _ _)))
 show wpAny _ _ (Builtin.Tuple.tupleItemsOf (.ref t) >>= _) _ _ s
 refine wpAny_bind (tupleItemsOf_ ht ?_)
 refine wpAny_bind (wpAny_typeOf hTs ?_)
 rw [if_pos (by decide)]
 refine wpAny_bind (sliceApplied_gen hs pl pu ?_)
 have hno:¬ ((((sIx items.size 0 lo:Nat):Int) == 0 && (1:Int) == 1 && (sIx items.size items.size hi - sIx items.size 0 lo) == items.size)=true):=by
  intro q
  rw [BD,BD] at q
  have q1:((sIx items.size 0 lo:Nat):Int)=0:=eq_of_beq q.1.1
  have q2:sIx items.size items.size hi - sIx items.size 0 lo=items.size:=eq_of_beq q.2
  exact hw ⟨by omega,by omega⟩
 show wpAny _ _ (if (((sIx items.size 0 lo:Nat):Int) == 0 && (1:Int) == 1 && (sIx items.size items.size hi - sIx items.size 0 lo) == items.size)=true then _ else _) _ _ s
 rw [if_neg hno,pick_gen]
 first
  | exact wpAny_bind (m:=Builtin.Tuple.tupleExact _) (wpAny_newObj_type (wpAny_pure ⟨_,rfl,wpAny_pure h⟩) htake)
  | exact wpAny_bind (m:=Builtin.Tuple.tupleExact _) (wpAny_newObj_type (wpAny_bind (wpAny_pure (wpAny_pure ⟨_,rfl,wpAny_pure h⟩))) htake)
  | exact wpAny_bind (wpAny_bind (m:=Builtin.Tuple.tupleExact _) (wpAny_newObj_type (wpAny_pure (wpAny_pure ⟨_,rfl,wpAny_pure h⟩)) htake))
  | exact wpAny_bind (wpAny_bind (m:=Builtin.Tuple.tupleExact _) (wpAny_newObj_type (wpAny_pure ⟨_,rfl,wpAny_pure h⟩) htake))
end
end HT
namespace L2
open PySem PySem.Spec PyProof.Rows
abbrev TO:=St->Hp->(Option Int->Hp->Prop)->Prop
structure PO (X:Cx) (e:Option Expr) (t:TO):Prop where
 run:∀ (pins:List (Addr×Obj)) (s:Shared) (σ:St) (H:Hp) (Q:Option Int->Hp->Prop),Inv X pins σ H s->t σ H Q->
  wpAny (model X.prog X.w) X.A (evalPart e X.env) (fun u s'=>∃ o H',Inv X pins σ H' s'/\IsPart u o/\Q o H') X.xe s
instance {X:Cx} {e:Option Expr} {t:TO}:CoeFun (PO X e t) fun _=>∀ (pins:List (Addr×Obj)) (s:Shared) (σ:St) (H:Hp) (Q:Option Int->Hp->Prop),Inv X pins σ H s->t σ H Q->
  wpAny (model X.prog X.w) X.A (evalPart e X.env) (fun u s'=>∃ o H',Inv X pins σ H' s'/\IsPart u o/\Q o H') X.xe s:=⟨PO.run⟩
def rO:TO:=fun _ H Q=>Q none H
inductive o5 (Q:Option Int->Hp->Prop) (x:V) (H1:Hp):Prop
 | mk (i:_):x=.int i->Q (some i) H1->o5 Q x H1
def xM (t:TE):TO:=fun σ H Q=>t σ H fun x H1=>o5 Q x H1
section
variable {X:Cx} {e:Expr} {te:TE} {lo hi:Option Expr} {tl th:TO} {pos p2:Pos}
theorem bQ:PO X none rO:=by
 refine ⟨?_⟩
 intro pins s σ H Q I h
 rw [evalPart_none]
 exact wpAny_pure ⟨none,H,I,.none,h⟩
theorem bR (h:PE X e te):PO X (some e) (xM te):=by
 refine ⟨?_⟩
 intro pins s σ H Q I hw
 rw [evalPart_some]
 refine bA (h pins s σ H _ I hw) fun u s1 ⟨x,H1,I1,r1,q1⟩=>?_
 obtain ⟨i,rfl,q⟩:=q1
 obtain ⟨t,rfl⟩:=r1
 exact ⟨some i,H1,I1,.int i t,q⟩
def zu (X:Cx) (r:V->Option Int->Option Int->Hp->VK->Prop):Prop:=
 ∀ (pins:List (Addr×Obj)) (s:Shared) (σ:St) (H:Hp) (x:V) (v vl vu:Value) (lo hi:Option Int) (sl:Addr) (Q:VK),Inv X pins σ H s->RelV x v->s.heap.IsSliceOf sl vl vu .none->IsPart vl lo->IsPart vu hi->r x lo hi H Q->
  ∃ T id,typeLookup (.type T) "__getitem__"=pure (some (.builtin id))/\s.TypeIs v T/\wpAny (model X.prog X.w) X.A (getItem v (.ref sl)) (EP X pins σ Q) X.xe s
def Bh (r:V->Option Int->Option Int->Hp->VK->Prop) (te:TE) (tl th:TO):TE:=fun σ H Q=>te σ H fun x H1=>tl σ H1 fun l H2=>th σ H2 fun u H3=>r x l u H3 Q
theorem bD {r:V->Option Int->Option Int->Hp->VK->Prop} (hr:zu X r) (he:PE X e te) (hl:PO X lo tl) (hu:PO X hi th):PE X (.Subscript e (.Slice lo hi none p2) pos) (Bh r te tl th):=by
 refine ⟨?_⟩
 intro pins s σ H Q I h
 refine Subscript_ (bA (he pins s σ H _ I h) fun v s1 ⟨x,H1,I1,r1,q1⟩=>?_)
 refine wpAny_Slice (bA (hl pins s1 σ H1 _ I1 q1) fun vl s2 ⟨l,H2,I2,pl,q2⟩=>bA (hu pins s2 σ H2 _ I2 q2) fun vu s3 ⟨u,H3,I3,pu,q3⟩=>?_)
 rw [evalPart_none]
 refine wpAny_pure ?_
 have I4:Inv X pins σ H3 { s3 with heap:=s3.heap.push { cls:=.type "slice",data:=.fields #[vl,vu,.none] } }:=I3.kept (t':=s3.toks) fun b ob q=>BB _ q
 obtain ⟨T,id,hT,ht,hg⟩:=hr pins { s3 with heap:=s3.heap.push { cls:=.type "slice",data:=.fields #[vl,vu,.none] } } σ H3 x v vl vu l u s3.heap.objs.size Q I4 r1 (Heap.IsSliceOf.new ..) pl pu q3
 show wpAny (model X.prog X.w) X.A (subscriptTail e (.Slice lo hi none p2) v (.ref s3.heap.objs.size)) (EP X pins σ Q) X.xe { s3 with heap:=s3.heap.push { cls:=.type "slice",data:=.fields #[vl,vu,.none] } }
 exact tail_any (ops:=[.ref s3.heap.objs.size,v]) ht hT hg (by with_unfolding_all rfl)
def gm (xs:List V) (lo hi:Option Int):List V:=(xs.drop (HT.sIx xs.length 0 lo)).take (HT.sIx xs.length xs.length hi - HT.sIx xs.length 0 lo)
theorem gB (xs:List V) (lo hi:Option Int):(gm xs lo hi).length<=xs.length:=by
 unfold gm
 rw [BZ,B2]
 omega
inductive xN (K:PySem.W.Frag) (x:V) (lo:Option Int) (hi:Option Int) (H:Hp) (Q:VK):Prop
 | mk (a xs:_):x=.ref a->SqT K H a xs->¬ (HT.sIx xs.length 0 lo=0/\HT.sIx xs.length xs.length hi=xs.length)->(∀ p,H p=none->Q (.ref p) (az H p (.tup (gm xs lo hi))))->xN K x lo hi H Q
theorem vg:zu X (xN X.K):=by
 intro pins s σ H x v vl vu lo hi sl Q I rx hs pl pu h
 obtain ⟨a,xs,rfl,hx,hw,q⟩:=h
 cases rx
 obtain ⟨its,r,ht,hz⟩:=I.tuple hx
 have hlen:its.toArray.size=xs.length:=by rw [BO];exact r.length.symm
 refine ⟨"tuple",_,PyProof.Rows.slot_tuple_getitem.lookup,ht.typeIs,?_⟩
 refine HT.getItem_tuple_cut ht hs pl pu (by rw [hlen];exact hw) ?_ (by rw [hlen];exact hz)
 rw [hlen]
 refine ⟨.ref s.heap.objs.size,_,I.laid (t':=s.toks) (o:=.tup (gm xs lo hi)) (fun b ob q=>BB _ q) (BG _) ?_,rfl,q _ (I.hok.fresh (BG _))⟩
 exact ⟨BN (gB xs lo hi) hz,_,(r.drop (HT.sIx xs.length 0 lo)).take (HT.sIx xs.length xs.length hi - HT.sIx xs.length 0 lo),TupP.new _ _⟩
end
end L2
namespace L2
open PySem PySem.Spec PyProof.Rows
def vh (n:Nat) (i:Int):Option Nat:=if 0<=i then (if i < n then some i.toNat else none) else if -(n:Int)<=i then some (i+n).toNat else none
def iV {α:Type} (xs:List α) (i:Int):Option α:=(vh xs.length i).bind fun j=>xs[j]?
theorem mJ {n:Nat} {i:Int} {j:Nat} (h:vh n i=some j):seqIndex? i n=some j/\j < n/\-(n:Int)<=i/\i < n:=by
 unfold vh at h
 by_cases h0:0<=i
 ·rw [if_pos h0] at h
  by_cases h1:i < n
  ·rw [if_pos h1] at h
   have e:i.toNat=j:=BY h
   exact ⟨by rw [seqIndex_of h0 h1,e],by omega,by omega,h1⟩
  ·rw [if_neg h1] at h;cases h
 ·rw [if_neg h0] at h
  by_cases h1:-(n:Int)<=i
  ·rw [if_pos h1] at h
   have e:(i+n).toNat=j:=BY h
   exact ⟨by rw [seqIndex_neg (by omega) h1,e],by omega,h1,by omega⟩
  ·rw [if_neg h1] at h;cases h
theorem ju {α:Type} {xs:List α} {i:Int} {v:α} (h:iV xs i=some v):∃ j,seqIndex? i xs.length=some j/\xs[j]?=some v/\j < xs.length/\-(xs.length:Int)<=i/\i < xs.length:=by
 unfold iV at h
 cases e:vh xs.length i with
 | none=>rw [e] at h;cases h
 | some j=>
  rw [e] at h
  obtain ⟨h1,h2,h3,h4⟩:=mJ e
  exact ⟨j,h1,h,h2,h3,h4⟩
theorem aM {α:Type} {xs:List α} {j:Nat} {v:α} (h:xs[j]?=some v):iV xs (j:Int)=some v:=by
 have hj:j < xs.length:=(BM.mp h).1
 have e:vh xs.length (j:Int)=some j:=by
  unfold vh
  rw [if_pos (by omega),if_pos (by omega)];simp
 unfold iV;rw [e];exact h
def rP (b:Expr):Prop:=∀ o i,subscripted b false o i=operate [o,i] (getItem o i)
def zv (X:Cx) (r:R2):Prop:=
 ∀ (value slice:Expr) (pins:List (Addr×Obj)) (s:Shared) (σ:St) (H:Hp) (x y:V) (v u:Value) (Q:VK),Inv X pins σ H s->RelV x v->RelV y u->r x y H Q->
  subscripted slice false v u=operate [v,u] (getItem v u)->wpAny (model X.prog X.w) X.A (subscriptTail value slice v u) (EP X pins σ Q) X.xe s
def rQ (X:Cx) (id:String) (r:V->List V->Hp->VK->Prop):Prop:=
 ∀ (pins:List (Addr×Obj)) (s:Shared) (σ:St) (H:Hp) (x:V) (xs:List V) (v:Value) (us:List Value) (Q:VK),Inv X pins σ H s->RelV x v->Vals xs us->r x xs H Q->
  wpAny (model X.prog X.w) X.A (call (.builtin id) (v::us)) (EP X pins σ Q) X.xe s
section
variable {X:Cx} {a b:Expr} {ta tb:TE} {pos:Pos}
theorem ap {r:R2} (hr:zv X r) (ha:PE X a ta) (hb:PE X b tb) (hs:rP b):PE X (.Subscript a b pos) (zt r ta tb):=by
 refine ⟨?_⟩
 intro pins s σ H Q I h
 exact Subscript_ (vd ha hb I h fun v u s2 x y H2 I2 rx ry q=>hr a b pins s2 σ H2 x y v u Q I2 rx ry q (hs _ _))
inductive xO (K:PySem.W.Frag) (x:V) (y:V) (H:Hp) (Q:VK):Prop
 | mk (p xs i v:_):x=.ref p->y=.int i->SqL K H p xs->iV xs i=some v->Q v H->xO K x y H Q
inductive xP (K:PySem.W.Frag) (x:V) (y:V) (H:Hp) (Q:VK):Prop
 | mk (p xs i v:_):x=.ref p->y=.int i->SqT K H p xs->iV xs i=some v->Q v H->xP K x y H Q
inductive xQ (x:V) (y:V) (H:Hp) (Q:VK):Prop
 | mk (z i c:_):x=.str z->y=.int i->z.length<=sizeLine->iV z.cps.toList i=some c->Q (.str ⟨#[c]⟩) H->xQ x y H Q
theorem ay:zv X (xO X.K):=by
 intro value slice pins s σ H x y v u Q I rx ry h hs
 obtain ⟨p,xs,i,z,rfl,rfl,hq,he,q⟩:=h
 cases rx
 obtain ⟨t,rfl⟩:=ry
 obtain ⟨its,r,pl,hz⟩:=I.list hq
 obtain ⟨j,h1,h2,h3,h4,h5⟩:=ju he
 obtain ⟨w,ew,rw'⟩:=r.get h2
 have hl:=r.length
 have hn:=fq
 have fin:EP X pins σ Q w s:=⟨z,H,I,rw',q⟩
 by_cases h0:0<=i
 ·have hj:i.toNat=j:=by
   rw [seqIndex_of h0 h5] at h1
   exact BY h1
  exact item_listR pl.isList h0 (by omega) (by rw [hj];simpa using ew) fin hs
 ·have hj:(i+(its.toArray.size:Int)).toNat=j:=by
   rw [seqIndex_neg (by omega) h4] at h1
   rw [BO,<-hl]
   exact BY h1
  exact subscriptTail_builtinR (x:=w) pl.isList.typeIs slot_list_getitem.lookup
   (wpAny_getItem_list_neg (Q:=fun r s'=>r=w/\EP X pins σ Q r s') pl.isList (by omega) (by rw [BO]<;>omega) (by omega) (by rw [hj];simpa using ew) ⟨rfl,fin⟩) hs
theorem au:zv X (xP X.K):=by
 intro value slice pins s σ H x y v u Q I rx ry h hs
 obtain ⟨p,xs,i,z,rfl,rfl,hq,he,q⟩:=h
 cases rx
 obtain ⟨t,rfl⟩:=ry
 obtain ⟨its,r,pl,hz⟩:=I.tuple hq
 obtain ⟨j,h1,h2,h3,h4,h5⟩:=ju he
 obtain ⟨w,ew,rw'⟩:=r.get h2
 have hl:=r.length
 have hn:=fq
 have fin:EP X pins σ Q w s:=⟨z,H,I,rw',q⟩
 exact subscriptTail_builtinR (x:=w) pl.typeIs slot_tuple_getitem.lookup
  (getItem_tuple (j:=j) (Q:=fun r s'=>r=w/\EP X pins σ Q r s') pl (by omega) (by omega) (by rw [BO,<-hl];exact h1) (by simpa using ew) ⟨rfl,fin⟩) hs
theorem vi:zv X xQ:=by
 intro value slice pins s σ H x y v u Q I rx ry h hs
 obtain ⟨z,i,c,rfl,rfl,hz,he,q⟩:=h
 obtain ⟨t,rfl⟩:=rx
 obtain ⟨t',rfl⟩:=ry
 obtain ⟨j,h1,h2,h3,h4,h5⟩:=ju he
 have hl:z.cps.toList.length=z.length:=by simp [Str.length]
 rw [hl] at h1 h4 h5
 have hn:=fq
 exact tail_any (typeIs_str s z t) slot_str_getitem.lookup (getItem_str (c:=c) (by
  have e1:decide (i < -(2 ^ 63:Int))=false:=decide_eq_false (by omega)
  have e2:decide (i ≥ 2 ^ 63)=false:=decide_eq_false (by omega)
  rw [e1,e2,Bool.or_false]) (by rw [h1];simpa using h2) ⟨.str ⟨#[c]⟩,H,I.tok _,⟨_,rfl⟩,q⟩) hs
theorem lM (its:List Value) (n j:Nat) (u:Value):Obj.mapSeq (·.setIfInBounds j u) { cls:=.type "list",data:=.seq its.toArray n }={ cls:=.type "list",data:=.seq (its.set j u).toArray n }:=by
 simp [Obj.mapSeq]
theorem Inv.lst {pins:List (Addr×Obj)} {σ:St} {H:Hp} {s:Shared} {p:Addr} {xs:List V} (I:Inv X pins σ H s) (h:H p=some (.lst xs)) :
  ∃ (its:List Value) (n:Nat),Vals xs its/\s.heap.get? p=some { cls:=.type "list",data:=.seq its.toArray n }/\xs.length<=sizeLine:=by
 obtain ⟨z,its,n,r,e⟩:=I.hok p _ h
 exact ⟨its,n,r,e,z⟩
theorem Inv.lstUpd {pins:List (Addr×Obj)} {σ:St} {H:Hp} {s:Shared} {p:Addr} {xs ys:List V} {its its':List Value} {n n':Nat} {f:Obj->Obj} (I:Inv X pins σ H s) (h:H p=some (.lst xs))
  (ho:s.heap.get? p=some { cls:=.type "list",data:=.seq its.toArray n }) (hf:f { cls:=.type "list",data:=.seq its.toArray n }={ cls:=.type "list",data:=.seq its'.toArray n' }) (r:Vals ys its') (hz:ys.length<=sizeLine) (t:Nat) :
  Inv X pins σ (az H p (.lst ys)) { s with heap:=s.heap.update p f,toks:=t }:=by
 have e:(s.heap.update p f).get? p=some { cls:=.type "list",data:=.seq its'.toArray n' }:=by
  rw [Heap.get?_update_self f ho (by rw [hf]<;>rfl),hf]
 refine I.write (x:=p) (e:=p) (by rw [h];trivial) (.inl rfl) (fun b u hb q=>(Heap.get?_update_other _ _ (Ne.symm hb)).trans q) ⟨_,e⟩ ?_
 exact ⟨hz,its',n',r,e⟩
inductive uD (o:V) (i:V) (v:V) (H:Hp) (Q:Hp->Prop):Prop
 | mk (p xs k j:_):o=.ref p->i=.int k->H p=some (.lst xs)->vh xs.length k=some j->Q (az H p (.lst (xs.set j v)))->uD o i v H Q
theorem gY:xA X uD:=by
 intro pins s σ H o i v ov iv u Q I ro ri rv h
 obtain ⟨p,xs,k,j,rfl,rfl,hp,hj,q⟩:=h
 cases ro
 obtain ⟨t,rfl⟩:=ri
 obtain ⟨its,n,r,ho,hz⟩:=I.lst hp
 obtain ⟨h1,h2,h3,h4⟩:=mJ hj
 have hl:=r.length
 have hn:=fq
 have I':Inv X pins σ (az H p (.lst (xs.set j v))) { s with heap:=s.heap.update p (Obj.mapSeq (·.setIfInBounds j u)) }:=
  I.lstUpd hp ho (lM its n j u) (r.set rv j) (by rw [List.length_set];exact hz) s.toks
 by_cases h0:0<=k
 ·have hk:k.toNat=j:=by
   rw [seqIndex_of h0 h4] at h1
   exact BY h1
  exact PySem.W.ki_setAt ho h0 (by omega) (by rw [BO,<-hl];exact h4) (by rw [hk];exact ⟨_,I',q⟩)
 ·have hk:(k+(its.toArray.size:Int)).toNat=j:=by
   rw [seqIndex_neg (by omega) h3] at h1
   rw [BO,<-hl]
   exact BY h1
  exact PySem.W.ki_setBack ho (by omega) (by rw [BO,<-hl];exact h3) (by omega) (by rw [hk];exact ⟨_,I',q⟩)
theorem jv (lo hi:Option Int) (n:Nat):(sliceBounds lo hi none n).1=((HT.sIx n 0 lo:Nat):Int)/\(sliceBounds lo hi none n).2.1=((HT.sIx n n hi:Nat):Int)/\(sliceBounds lo hi none n).2.2=1:=by
 refine ⟨?_,?_,rfl⟩
 ·cases lo with
  | none=>simp [sliceBounds,HT.sIx]
  | some i=>
   simp only [sliceBounds,HT.sIx,Option.getD_none,show (1:Int) > 0 by decide,if_true]
   by_cases h:i < 0
   ·simp only [h,if_true]<;>omega
   ·simp only [h,if_false]<;>omega
 ·cases hi with
  | none=>simp [sliceBounds,HT.sIx]
  | some i=>
   simp only [sliceBounds,HT.sIx,Option.getD_none,show (1:Int) > 0 by decide,if_true]
   by_cases h:i < 0
   ·simp only [h,if_true]<;>omega
   ·simp only [h,if_false]<;>omega
theorem iE (its:List Value) (lo hi:Option Int):slicePick its.toArray lo hi none=((its.drop (HT.sIx its.length 0 lo)).take (HT.sIx its.length its.length hi - HT.sIx its.length 0 lo)).toArray:=by
 obtain ⟨h1,h2,h3⟩:=jv lo hi its.toArray.size
 unfold slicePick
 rw [h1,h2,h3]
 simp only [sliceRange_one,pick_run,BO]<;>rfl
inductive rR (K:PySem.W.Frag) (x:V) (lo:Option Int) (hi:Option Int) (H:Hp) (Q:VK):Prop
 | mk (a xs:_):x=.ref a->SqL K H a xs->(∀ p,H p=none->Q (.ref p) (az H p (.lst (gm xs lo hi))))->rR K x lo hi H Q
theorem dF:zu X (rR X.K):=by
 intro pins s σ H x v vl vu lo hi sl Q I rx hs pl pu h
 obtain ⟨a,xs,rfl,hx,q⟩:=h
 cases rx
 obtain ⟨its,r,ht,hz⟩:=I.list hx
 have hlen:=r.length
 refine ⟨"list",_,slot_list_getitem.lookup,ht.isList.typeIs,?_⟩
 refine wpAny_getItem_list_slice ht.isList hs pl pu .none (by simp) ?_ (by rw [BO]<;>omega)
 rw [iE,<-hlen]
 refine ⟨.ref s.heap.objs.size,_,I.laid (t':=s.toks) (o:=.lst (gm xs lo hi)) (fun b ob q=>BB _ q) (BG _) ?_,rfl,q _ (I.hok.fresh (BG _))⟩
 exact ⟨BN (gB xs lo hi) hz,_,0,(r.drop (HT.sIx xs.length 0 lo)).take (HT.sIx xs.length xs.length hi - HT.sIx xs.length 0 lo),BU _ rfl⟩
def fS:V->Bool
 | .non=>true
 | .bl _=>true
 | .int _=>true
 | .str _=>true
 | _=>false
def uE:V->V->Bool
 | .non,.non=>true
 | .bl a,.bl b=>a == b
 | .bl a,.int b=>(if a then 1 else 0) == b
 | .int a,.bl b=>a == (if b then 1 else 0)
 | .int a,.int b=>a == b
 | .str a,.str b=>a == b
 | _,_=>false
theorem vj {A:Around} {s:Shared} {y x:V} {u v:Value} (ry:RelV y u) (rx:RelV x v) (fy:fS y=true) (fx:fS x=true):SeqAt.EqAt A s u v (uE y x):=by
 cases y with
 | non=>
  cases ry
  cases x with
  | non=>cases rx;exact SeqAt.EqAt.same _
  | bl b=>cases rx;exact SeqAt.EqAt.none_bool b
  | int b=>obtain ⟨t,rfl⟩:=rx;exact SeqAt.EqAt.none_int b t
  | str b=>obtain ⟨t,rfl⟩:=rx;exact SeqAt.EqAt.none_str b t
  | _=>exact absurd (show false=true from fx) BP
 | bl a=>
  cases ry
  cases x with
  | non=>cases rx;exact SeqAt.EqAt.bool_none a
  | bl b=>cases rx;exact SeqAt.EqAt.bool_bool a b
  | int b=>obtain ⟨t,rfl⟩:=rx;exact SeqAt.EqAt.bool_int a b t
  | str b=>obtain ⟨t,rfl⟩:=rx;exact SeqAt.EqAt.bool_str a b t
  | _=>exact absurd (show false=true from fx) BP
 | int a=>
  obtain ⟨t',rfl⟩:=ry
  cases x with
  | non=>cases rx;exact SeqAt.EqAt.int_none a t'
  | bl b=>cases rx;exact SeqAt.EqAt.int_bool a t' b
  | int b=>obtain ⟨t,rfl⟩:=rx;exact SeqAt.EqAt.int_int a t' b t
  | str b=>obtain ⟨t,rfl⟩:=rx;exact SeqAt.EqAt.int_str a t' b t
  | _=>exact absurd (show false=true from fx) BP
 | str a=>
  obtain ⟨t',rfl⟩:=ry
  cases x with
  | non=>cases rx;exact SeqAt.EqAt.str_none a t'
  | bl b=>cases rx;exact SeqAt.EqAt.str_bool a t' b
  | int b=>obtain ⟨t,rfl⟩:=rx;exact SeqAt.EqAt.str_int a t' b t
  | str b=>obtain ⟨t,rfl⟩:=rx;exact SeqAt.EqAt.str_str a t' b t
  | _=>exact absurd (show false=true from fx) BP
 | _=>exact absurd (show false=true from fy) BP
def lN (x:V) (u:Value):Bool:=match u with
 | .none=>uE .non x
 | .bool b=>uE (.bl b) x
 | .int i _=>uE (.int i) x
 | .str z _=>uE (.str z) x
 | _=>false
theorem o6 {x y:V} {u:Value} (r:RelV y u) (f:fS y=true):lN x u=uE y x:=by
 cases y with
 | non=>cases r;rfl
 | bl b=>cases r;rfl
 | int i=>obtain ⟨t,rfl⟩:=r;rfl
 | str z=>obtain ⟨t,rfl⟩:=r;rfl
 | _=>exact absurd (show false=true from f) BP
theorem fU {x:V}:∀ {xs:List V} {us:List Value},Vals xs us->xs.all fS=true->us.any (lN x)=xs.any fun y=>uE y x
 | _,_,.nil,_=>rfl
 | y::xs,u::us,.cons r t,f=>by
  rw [List.all_cons,BD] at f
  rw [CQ,CQ,o6 r f.1,fU t f.2]
theorem eG {A:Around} {s:Shared} {x:V} {v:Value} (rx:RelV x v) (fx:fS x=true):∀ {xs:List V} {us:List Value},Vals xs us->xs.all fS=true->∀ u∈us,SeqAt.EqAt A s u v (lN x u)
 | _,_,.nil,_=>fun u hu=>by cases hu
 | y::xs,u::us,.cons r t,f=>fun u' hu=>by
  rw [List.all_cons,BD] at f
  rcases BH.mp hu with rfl|hu
  ·rw [o6 r f.1];exact vj r rx f.1 fx
  ·exact eG rx fx t f.2 u' hu
def uF (x:V) (xs:List V):Bool:=xs.any fun y=>uE y x
inductive zw (K:PySem.W.Frag) (neg:Bool) (x:V) (y:V) (H:Hp) (Q:VK):Prop
 | mk (p xs:_):y=.ref p->(SqL K H p xs\/SqT K H p xs)->fS x=true->xs.all fS=true->Q (.bl (if neg then !uF x xs else uF x xs)) H->zw K neg x y H Q
theorem cx:eC X (compareOp .In) (zw X.K false):=by
 intro pins s σ H x y v u Q I rx ry h
 obtain ⟨p,xs,rfl,hq,fx,fs,q⟩:=h
 cases ry
 rcases hq with hq|hq
 ·obtain ⟨its,r,pl,hz⟩:=I.list hq
  refine SeqAt.in_listAt (lN x) pl.isList (fun w hw=>eG rx fx r fs w (by simpa using hw)) ⟨.bl _,H,I,rfl,?_⟩
  rw [show its.toArray.any (lN x)=its.any (lN x) by simp,fU r fs]
  exact q
 ·obtain ⟨its,r,pl,hz⟩:=I.tuple hq
  refine SeqAt.in_tupleAt (lN x) pl (fun w hw=>eG rx fx r fs w (by simpa using hw)) ⟨.bl _,H,I,rfl,?_⟩
  rw [show its.toArray.any (lN x)=its.any (lN x) by simp,fU r fs]
  exact q
theorem jw:eC X (compareOp .NotIn) (zw X.K true):=by
 intro pins s σ H x y v u Q I rx ry h
 obtain ⟨p,xs,rfl,hq,fx,fs,q⟩:=h
 cases ry
 rcases hq with hq|hq
 ·obtain ⟨its,r,pl,hz⟩:=I.list hq
  refine SeqAt.notIn_listAt (lN x) pl.isList (fun w hw=>eG rx fx r fs w (by simpa using hw)) ⟨.bl _,H,I,rfl,?_⟩
  rw [show its.toArray.any (lN x)=its.any (lN x) by simp,fU r fs]
  exact q
 ·obtain ⟨its,r,pl,hz⟩:=I.tuple hq
  refine SeqAt.notIn_tupleAt (lN x) pl (fun w hw=>eG rx fx r fs w (by simpa using hw)) ⟨.bl _,H,I,rfl,?_⟩
  rw [show its.toArray.any (lN x)=its.any (lN x) by simp,fU r fs]
  exact q
theorem bc:cA X (.builtin "len") (fun xs H Q=>∃ p ys,xs=[.ref p]/\(SqL X.K H p ys\/SqT X.K H p ys)/\Q (.int ys.length) H):=by
 intro pins s σ H xs us Q I r h
 obtain ⟨p,ys,rfl,hq,q⟩:=h
 obtain ⟨u,rfl,rx⟩:=fP r
 cases rx
 have hn:=fq
 rcases hq with hq|hq
 ·obtain ⟨its,r',pl,hz⟩:=I.list hq
  have hlen:=r'.length
  exact Calls.call_len_list pl.isList (by simp only [BO]<;>omega) ⟨.int ys.length,H,I.tok _,⟨s.toks+1,by rw [BO,hlen]⟩,q⟩
 ·obtain ⟨its,r',pl,hz⟩:=I.tuple hq
  have hlen:=r'.length
  exact len_tuple pl (by simp only [BO]<;>omega) ⟨.int ys.length,H,I.tok _,⟨s.toks+1,by rw [BO,hlen]⟩,q⟩
theorem dG:cA X (.builtin "len") (fun xs H Q=>∃ z,xs=[.str z]/\z.length<=sizeLine/\Q (.int z.length) H):=by
 intro pins s σ H xs us Q I r h
 obtain ⟨z,rfl,hz,q⟩:=h
 obtain ⟨u,rfl,t,rfl⟩:=fP r
 have hn:=fq
 exact len_str (by omega) ⟨.int z.length,H,I.tok _,⟨_,rfl⟩,q⟩
theorem dH:cA X (.type "list") (fun xs H Q=>∃ p ys,xs=[.ref p]/\(SqL X.K H p ys\/SqT X.K H p ys)/\∀ l,H l=none->Q (.ref l) (az H l (.lst ys))):=by
 intro pins s σ H xs us Q I r h
 obtain ⟨p,ys,rfl,hq,q⟩:=h
 obtain ⟨u,rfl,rx⟩:=fP r
 cases rx
 have fin:∀ (its:List Value),Vals ys its->ys.length<=sizeLine->∀ (h':Heap) (c':Nat),(∀ b o',s.heap.get? b=some o'->h'.get? b=some o')->
   h'.get? s.heap.objs.size=some { cls:=.type "list",dict:=none,data:=.seq its.toArray c',slots:=#[] }->EP X pins σ Q (.ref s.heap.objs.size) { s with heap:=h' }:=fun its r' hz h' c' kp e=>
  ⟨.ref s.heap.objs.size,_,I.laid (t':=s.toks) kp (BG _) (show ObjOk X.prog X.w _ h' _ (.lst ys) from ⟨hz,its,c',r',e⟩),rfl,q _ (I.hok.fresh (BG _))⟩
 rcases hq with hq|hq
 ·obtain ⟨its,r',pl,hz⟩:=I.list hq
  have hlen:=r'.length
  obtain ⟨o,ho,hc,n,hd⟩:=pl.isList
  exact call_list_seq p (.inl rfl) ho hc hd (fun h' c' kp e=>fin its r' hz h' c' kp e) (by simp only [BO]<;>omega)
 ·obtain ⟨its,r',pl,hz⟩:=I.tuple hq
  have hlen:=r'.length
  obtain ⟨o,ho,hc,n,hd⟩:=pl
  exact call_list_seq p (.inr rfl) ho hc hd (fun h' c' kp e=>fin its r' hz h' c' kp e) (by simp only [BO]<;>omega)
theorem cb:cA X (.type "tuple") (fun xs H Q=>∃ p ys,xs=[.ref p]/\((SqL X.K H p ys/\∀ l,H l=none->Q (.ref l) (az H l (.tup ys)))\/(SqT X.K H p ys/\Q (.ref p) H))):=by
 intro pins s σ H xs us Q I r h
 obtain ⟨p,ys,rfl,h⟩:=h
 obtain ⟨u,rfl,rx⟩:=fP r
 cases rx
 rcases h with ⟨hq,q⟩|⟨hq,q⟩
 ·obtain ⟨its,r',pl,hz⟩:=I.list hq
  have hlen:=r'.length
  refine call_tuple_list pl.isList (fun h' kp=>?_) (by simp only [BO]<;>omega)
  have I1:Inv X pins σ H { s with heap:=h' }:=I.kept (t':=s.toks) kp
  have I2:Inv X pins σ (az H h'.objs.size (.tup ys)) { s with heap:=h'.push { cls:=.type "tuple",data:=.seq its.toArray } }:=
   I1.laid (t':=s.toks) (fun b o e=>BB _ e) (BG _) (show ObjOk X.prog X.w _ _ _ (.tup ys) from ⟨hz,its,r',TupP.new _ _⟩)
  exact ⟨.ref h'.objs.size,_,I2,rfl,q _ (I1.hok.fresh (BG _))⟩
 ·obtain ⟨its,r',pl,hz⟩:=I.tuple hq
  exact call_tuple_same pl ⟨.ref p,H,I,rfl,q⟩
def zY (K:PySem.W.Frag) (T:String) (x:V) (H:Hp):Prop:=match x with
 | .str _=>T="str"
 | .int _=>T="int"
 | .ref p=>(T="list"/\∃ xs,SqL K H p xs)\/(T="tuple"/\∃ o,K.lookup p=some o/\o.cls=.type "tuple"/\o.dict=none) ∨
   (T="dict"/\((∃ kvs,H p=some (.dK kvs))\/∃ kvs,H p=some (.dT kvs)))\/(T="set"/\∃ S n,H p=some (.set S n))
 | _=>False
theorem o7 {pins:List (Addr×Obj)} {σ:St} {H:Hp} {s:Shared} {T:String} {x:V} {v:Value} (I:Inv X pins σ H s) (r:RelV x v) (ty:zY X.K T x H) :
  s.TypeIs v T/\∀ a,v=.ref a->∃ ob,s.heap.get? a=some ob/\ob.dict=none:=by
 cases x with
 | str z=>
  obtain ⟨t,rfl⟩:=r
  cases (show T="str" from ty)
  exact ⟨typeIs_str s z t,fun _ e=>nomatch e⟩
 | int i=>
  obtain ⟨t,rfl⟩:=r
  cases (show T="int" from ty)
  exact ⟨typeIs_int s i t,fun _ e=>nomatch e⟩
 | ref p=>
  cases r
  rcases ty with ⟨rfl,xs,hq⟩|⟨rfl,o,hk,hc,hd⟩|⟨rfl,hk⟩|⟨rfl,S,n,hk⟩
  ·obtain ⟨its,_,pl,_⟩:=I.list hq
   refine ⟨pl.isList.typeIs,fun a e=>?_⟩
   cases e
   obtain ⟨o,n,e,c,hd,_⟩:=pl
   exact ⟨o,e,hd⟩
  ·refine ⟨⟨o,I.kIn p o hk,hc⟩,fun a e=>?_⟩
   cases e
   exact ⟨o,I.kIn _ o hk,hd⟩
  ·have z:∃ o,s.heap.get? p=some o/\o.ExactDict:=by
    rcases hk with ⟨kvs,hk⟩|⟨kvs,hk⟩
    ·obtain ⟨_,_,_,_,o,_,_,e,ex,_⟩:=I.hok p _ hk
     exact ⟨o,e,ex⟩
    ·obtain ⟨_,_,_,_,o,_,_,e,ex,_⟩:=I.hok p _ hk
     exact ⟨o,e,ex⟩
   obtain ⟨o,e,ex⟩:=z
   refine ⟨⟨o,e,ex.1⟩,fun a e2=>?_⟩
   cases e2
   exact ⟨o,e,ex.2.1⟩
  ·obtain ⟨o,_,_,_,e,ex,_⟩:=I.hok p _ hk
   refine ⟨⟨o,e,ex.1⟩,fun a e2=>?_⟩
   cases e2
   exact ⟨o,e,ex.2.1⟩
 | _=>exact False.elim ty
def zZ (K:PySem.W.Frag) (T:String) (r:V->List V->Hp->VK->Prop) (to:TE):TE:=fun σ H Q=>to σ H fun x H1=>zY K T x H1/\r x [] H1 Q
def z1 (K:PySem.W.Frag) (T:String) (r:V->List V->Hp->VK->Prop) (to:TE) (t:TA):TE:=fun σ H Q=>to σ H fun x H1=>zY K T x H1/\t σ H1 fun xs H2=>r x xs H2 Q
variable {o e:Expr} {es:List Expr} {to:TE} {t:TA} {name:Str} {apos cpos:Pos} {T id:String} {r:V->List V->Hp->VK->Prop}
theorem o8 (pa:PlainAttrs T) (slot:Slot T name id) (hty:typeOf (.builtin id)=pure (.type "method_descriptor")) (hm:rQ X id r) (ho:PE X o to)
  (hbase:attributeBase o name X.env (eval o X.env)=eval o X.env:=by rfl) (hline:(apos.endLine == cpos.line)=true:=by rfl):PE X (.Call (.Attribute o name apos) [] [] cpos) (zZ X.K T r to):=by
 refine ⟨?_⟩
 intro pins s σ H Q I h
 refine wpAny_Call_method0_late hbase hline (bA (ho pins s σ H _ I h) fun v s1 ⟨x,H1,I1,r1,ty,q1⟩=>?_)
 obtain ⟨h1,h2⟩:=o7 I1 r1 ty
 exact ⟨T,id,pa,slot,hty,h1,h2,CO rfl (PySem.evalArgs_none (hm pins s1 σ H1 x [] v [] Q I1 r1 .nil q1))⟩
theorem bV (pa:PlainAttrs T) (slot:Slot T name id) (hty:typeOf (.builtin id)=pure (.type "method_descriptor")) (hm:rQ X id r) (ho:PE X o to) (ha:PA X (e::es) t)
  (hbase:attributeBase o name X.env (eval o X.env)=eval o X.env:=by rfl)
  (hfew:((backTo cpos (starEach (e::es) X.env)).all (fun x=>!x.1) && (backToKw cpos (keywordEach [] X.env)).all (fun x=>x.1.isSome)
   && decide ((e::es).length+([]:List Keyword).length+(if ([]:List Keyword).isEmpty then 0 else 1) < 30))=true:=by rfl)
  (hline:(apos.endLine == cpos.line)=true:=by rfl) (hs:starEach (e::es) X.env=(false,eval e X.env)::starEach es X.env:=by rfl) (hplain:(backTo cpos (starEach es X.env)).any (·.1)=false:=by rfl) :
  PE X (.Call (.Attribute o name apos) (e::es) [] cpos) (z1 X.K T r to t):=by
 refine ⟨?_⟩
 intro pins s σ H Q I h
 refine wpAny_Call_method_late hbase hfew hline rfl (bA (ho pins s σ H _ I h) fun v s1 ⟨x,H1,I1,r1,ty,q1⟩=>?_)
 obtain ⟨h1,h2⟩:=o7 I1 r1 ty
 refine ⟨T,id,pa,slot,hty,h1,h2,?_⟩
 have hA:=ha cpos pins s1 σ H1 _ I1 q1
 rw [hs] at hA ⊢
 refine CO (by show (false || (backTo cpos (starEach es X.env)).any (·.1))=false;rw [hplain]<;>rfl) (Calls.evalArgs_plain ?_)
 exact bA hA fun us s2 ⟨vs,H2,I2,r2,q2⟩=>hm pins s2 σ H2 x vs v us Q I2 r1 r2 q2
end
end L2
namespace L2
open PySem PySem.Spec PyProof.Rows
def Bi (X:Cx) (id:String) (r:V->List V->Hp->VK->Prop):Prop:=
 ∀ (pins:List (Addr×Obj)) (s:Shared) (σ:St) (H:Hp) (x:V) (xs:List V) (v:Value) (us:List Value) (Q:VK),Inv X pins σ H s->RelV x v->Vals xs us->r x xs H Q->
  wpAny (model X.prog X.w) X.A (call (.builtin id) (v::us)) (EP X pins σ Q) X.xe s
theorem Vals.one:∀ {x:V} {us:List Value},Vals [x] us->∃ u,us=[u]/\RelV x u
 | _,_,.cons r .nil=>⟨_,rfl,r⟩
section
variable {X:Cx} {pins:List (Addr×Obj)} {σ:St} {H:Hp} {s:Shared} {l b:Addr} {xs ys zs:List V}
theorem Inv.lset {its its':List Value} {n:Nat} {f:Array Value->Array Value} {t':Nat} (I:Inv X pins σ H s) (hH:H l=some (.lst xs))
  (e:s.heap.get? l=some { cls:=.type "list",data:=.seq its.toArray n }) (hf:f its.toArray=its'.toArray) (hv:Vals ys its') (hz:ys.length<=sizeLine) :
  Inv X pins σ (az H l (.lst ys)) { s with heap:=s.heap.update l (Obj.mapSeq f),toks:=t' }:=by
 have q:=PySem.IsL.update e f
 rw [hf] at q
 refine I.write (x:=l) (e:=l) (by rw [hH];exact trivial) (.inl rfl) (fun b' u hb hu=>(Heap.get?_update_other s.heap (Obj.mapSeq f) (Ne.symm hb)).trans hu) ⟨_,q⟩ ?_
 exact ⟨hz,its',_,hv,q⟩
theorem Inv.lnew {its:List Value} {t':Nat} (I:Inv X pins σ H s) (hv:Vals ys its) (hz:ys.length<=sizeLine) :
  Inv X pins σ (az H s.heap.objs.size (.lst ys)) { s with heap:=s.heap.push { cls:=.type "list",data:=.seq its.toArray },toks:=t' }:=
 I.laid (fun _ _ q=>BB _ q) (BG _) ⟨hz,its,0,hv,BU _ rfl⟩
theorem Inv.fresh (I:Inv X pins σ H s):H s.heap.objs.size=none:=I.hok.fresh (BG _)
theorem Inv.lstM (I:Inv X pins σ H s) (hH:H l=some (.lst xs)):xs.length<=sizeLine/\∃ (its:List Value) (n:Nat),Vals xs its/\xs.length=its.length/\s.heap.get? l=some { cls:=.type "list",data:=.seq its.toArray n }:=by
 obtain ⟨z,its,n,r,e⟩:=I.hok l _ hH
 exact ⟨z,its,n,r,r.length,e⟩
end
section
variable {X:Cx}
inductive mK (x:V) (vs:List V) (H:Hp) (Q:VK):Prop
 | mk (l xs y:_):x=.ref l->vs=[y]->H l=some (.lst xs)->xs.length < sizeLine->Q .non (az H l (.lst (xs++[y])))->mK x vs H Q
theorem eV:Bi X "list.append" mK:=by
 intro pins s σ H x vs v us Q I rx rv h
 obtain ⟨l,xs,y,rfl,rfl,hH,hz,q⟩:=h
 cases rx
 obtain ⟨u,rfl,ru⟩:=rv.one
 obtain ⟨z,its,n,r,hl,e⟩:=I.lstM hH
 refine call_meets F.slot_list_append ⟨_,e,rfl⟩ F.entry_list_append (F.args_list_append_2 _ _) (PySem.list_append l its.toArray n u (by rw [BO];omega)) ⟨e,?_⟩
 refine ⟨.non,_,I.lset (its':=its++[u]) hH e (by simp) (r.append (.cons ru .nil)) ?_,rfl,q⟩
 rw [By,List.length_singleton]
 omega
inductive vk (x:V) (y:V) (H:Hp) (Q:VK):Prop
 | mk (l b xs zs:_):x=.ref l->y=.ref b->H l=some (.lst xs)->H b=some (.lst zs)->xs.length+zs.length<=sizeLine->(∀ p,H p=none->Q (.ref p) (az H p (.lst (xs++zs))))->vk x y H Q
theorem fz:eC X (binaryOp .Add) vk:=by
 intro pins s σ H x y v u Q I rx ry h
 obtain ⟨l,b,xs,zs,rfl,rfl,hH,hB,hz,q⟩:=h
 cases rx
 cases ry
 obtain ⟨z,its,n,r,hl,e⟩:=I.lstM hH
 obtain ⟨z2,its2,n2,r2,hl2,e2⟩:=I.lstM hB
 refine PySem.P.add_list e e2 ?_ (by rw [BO,BO];omega)
 have ea:its.toArray++its2.toArray=(its++its2).toArray:=by simp
 rw [ea]
 exact ⟨.ref _,_,I.lnew (t':=s.toks) (r.append r2) (by rw [By];omega),rfl,q _ I.fresh⟩
end
end L2
namespace Att
open PySem PySem.W PySem.Calls PyProof.Rows
theorem ints_of_wellAll {P:Params} {h:Heap}:∀ (ns:List Int) (vs:List Value),WellAll P h vs (ns.map WData.int)->IntsAre vs ns:=by
 intro ns
 induction ns with
 | nil=>
  intro vs w
  rw [List.map_nil] at w
  cases w
  exact .nil
 | cons n ns ih=>
  intro vs w
  rw [BR] at w
  cases w with
  | cons a b=>
   cases a
   exact .cons _ _ (ih _ b)
theorem script_of {l:OpenLaw} {n:Nat} (hn:l.most=some n) {P:Params} {h:Heap} {args:List WData} {vals:List Value}
  (hpre:l.row.toRowW.claim.pre args=true) (hwl:WellAll P h vals args) :
  ∃ a vs ns,vals=[Value.ref a]/\args=[WData.list (ns.map WData.int)]/\h.get? a=some { cls:=.type "list",data:=.seq vs.toArray }/\IntsAre vs ns/\ns.length<=n:=by
 have hsh:WShape.hasAll [] args [.list .int]=true:=(pre_splitW hpre).1
 have hc:l.pre.holds [] { args:=args }=true:=(pre_splitW hpre).2
 obtain ⟨d,r,rfl,h1,h2⟩:=hasAllW_cons hsh
 obtain rfl:=hasAllW_nil h2
 obtain ⟨xs,rfl,h3⟩:=hasW_list h1
 obtain ⟨ns,rfl⟩:=items_int h3
 have hlen:ns.length<=n:=by
  unfold OpenLaw.pre at hc
  have h4:(WTm.not (.lt (.lit (.int (n:Int))) (.len (.arg 0)))).holds [] { args:=[.list (ns.map .int)] }=true:=by
   have h4:=(holds_andW hc).1
   rw [hn] at h4
   exact h4
  have h5:=condW_of h4 (w_not (w_lt w_lit (w_len_list (w_arg rfl))))
  rw [BE] at h5
  refine Nat.le_of_not_lt fun q=>?_
  have q':(n:Int) < ((ns.length:Nat):Int):=by omega
  first
   | (rw [decide_eq_true q'] at h5;exact absurd h5 (by decide))
   | (simp at h5;omega)
 cases hwl with
 | cons w1 w2=>
  cases w2
  cases w1 with
  | list ho hall=>exact ⟨_,_,ns,rfl,rfl,ho,ints_of_wellAll ns _ hall,hlen⟩
theorem post_true (l:OpenLaw) (args:List WData):l.row.toRowW.claim.post args (.bool true) args=true:=
 postW_of (r:=l.row.toRowW) (X:=(true == true))
  (show WShape.has [] (.bool true) .bool=true by first|rfl|decide|simp [WShape.has,WShape.arms,WShape.armsAll])
  (show (WTm.eq .res (.lit (.bool true))).value [] { args:=args,res:=some (.bool true),after:=args }=some (.bool (true == true)) from w_eq_bool (w_res rfl) w_lit) rfl
theorem attach_call {l:OpenLaw} {n:Nat} {q:Program} {loose:List Str} {XP:(Str->Option Value)->Heap->Prop} {YP:World->Heap->Prop} {d:DefRec}
  (hn:l.most=some n) (hdf:d.params.defaults=[])
  (call:∀ (w:World) (s₀ s₁:Shared) (mg mb:Str->Option Value) (fa:Addr) (o:Obj) (pm cd doc:Value) (a:Addr) (vs:List Value) (ns:List Int),
   Ground q loose [] XP w s₀ mg mb s₁.heap->YP w s₁.heap->
   s₁.heap.get? fa=some o->o.data=.func (docDef d.name d.params d.body d.scope pm cd doc)->s₁.heap.CodeRec cd d.name->mg d.name=some (.ref fa)->
   s₁.heap.get? a=some { cls:=.type "list",data:=.seq vs.toArray }->IntsAre vs ns->ns.length<=n->s₁.gens=#[]->
   codeAny (model l.prog w) callerA (.call (.ref fa) ⟨[.ref a],[]⟩) (fun r s'=>r=.ok (.ret (.bool true))/\OldK s₁.heap s'.heap/\s'.os=s₁.os/\AllBare s'.gens) s₁) :
  WalkO q loose XP YP l.row.toRowW d [] (fun f vs=>PySem.call f vs):=by
 intro w s₀ s₁ mg mb G Y fa o pm cd doc dV kV ho hd hcd hD hmg hg args vals as hpre hlay hrd hwl hlo
 obtain rfl:dV=.none:=Dflts.none hD hdf
 obtain rfl:kV=.none:=Dflts.noKw hD
 obtain ⟨a,vs,ns,rfl,rfl,hobj,hints,hlen⟩:=script_of hn hpre hwl
 refine enter_call (codeAny_mono (call w s₀ s₁ mg mb fa o pm cd doc a vs ns G Y ho (fd_plain hd) hcd hmg hobj hints hlen hg) fun r s' hq=>?_)
 obtain ⟨rfl,h2,h3,h4⟩:=hq
 exact ⟨.inl ⟨.bool true,.bool true,[],rfl,fun _=>rfl,.bool true,post_true l _,fun _=>⟨List.Pairwise.nil,fun _ hm=>(nomatch hm)⟩⟩,h2,h3,h4⟩
section
variable {prog:Program} {w:World} {A:Around} {E:Value->Shared->Prop} {s:Shared} {K:Frag}
end
end Att
namespace L2
open PySem PySem.Spec PyProof.Rows
theorem iW:∀ {vs:List Value} {ns:List Int},IntsAre vs ns->Vals (ns.map V.int) vs
 | _,_,.nil=>.nil
 | _,_,.cons n t h=>.cons ⟨t,rfl⟩ (iW h)
def rS (H:Hp):Prop:=∀ b,H b=none\/∃ o xs,H b=some (.frz o (.lst xs))
theorem o9 {P:Program} {w:World} {K:PySem.W.Frag} {mg mb:Str->Option Value} {CX:nX} {k:Nat} {fa a:Addr} {fd:FuncData} {x:Str} {sp:Sp} {s₁:Shared} {vs:List Value} {ns:List Int}
  (KX:K.In s₁.heap) (hns:s₁.heap.Ns mainGlobals mg) (hb:s₁.heap.Ns builtinsNs mb) (hbb:∀ x:Str,x≠"__name__"->mb x=bootBuiltins x) (hlim:s₁.heap.NoLimit) (hg:s₁.gens=#[])
  (ha:s₁.heap.get? a=some { cls:=.type "list",data:=.seq vs.toArray }) (hi:IntsAre vs ns) (hl:ns.length<=sizeLine) (hr:Room k callerA)
  (F:∀ base:Heap,K.In base->base.Ns mainGlobals mg->aI P w K mg base CX k fa fd [x] sp) (hbind:∀ (s:Shared) (u:Value),BindsTo s fd ⟨[u],[]⟩ [(x,u)])
  (hsp:∀ H:Hp,rS H->SqL K H a (ns.map V.int)->sp [.ref a] H (fun v _=>v=.bl true) fun _ _ _=>False)
  (hCX:∀ H e s',CX [] H s₁ (fun _ _ _=>False) e s'->False) :
  codeAny (model P w) callerA (.call (.ref fa) ⟨[.ref a],[]⟩) (fun r s'=>r=.ok (.ret (.bool true))/\OldK s₁.heap s'.heap/\s'.os=s₁.os/\AllBare s'.gens) s₁:=by
 have rv:=iW hi
 have lenV:=hi.length
 have core:∀ H:Hp,rS H->SqL K H a (ns.map V.int)->HOk P w H s₁.heap->(∀ b,H b≠none->b=a)->(H a≠none->K.lookup a=none)->
   codeAny (model P w) callerA (.call (.ref fa) ⟨[.ref a],[]⟩) (fun r s'=>r=.ok (.ret (.bool true))/\OldK s₁.heap s'.heap/\s'.os=s₁.os/\AllBare s'.gens) s₁:=by
  intro H hO hS hok hA hK
  have base_of:∀ {b:Addr} {o:Obj},s₁.heap.get? b=some o->H b=none->(jm s₁.heap H).get? b=some o:=fun e n=>oF e n
  have noA:∀ {b:Addr} {o:Obj} {es:Array DictEntry} {ep:Nat},s₁.heap.get? b=some o->o.data=.dict es ep->H b=none:=fun {b o es ep} e d=>by
   cases q:H b with
   | none=>rfl
   | some u=>
    have e':b=a:=hA b (by rw [q];simp)
    subst e'
    rw [ha] at e;cases e
    have d':Data.seq vs.toArray _=Data.dict es ep:=d
    cases d'
  have nsK:∀ {b:Addr} {m:Str->Option Value},s₁.heap.Ns b m->(jm s₁.heap H).Ns b m:=fun {b m} ⟨o,es,ep,e,d,r⟩=>⟨o,es,ep,base_of e (noA e d),d,r⟩
  have hKb:K.In (jm s₁.heap H):=fun b o e=>base_of (KX b o e) (by
   cases q:H b with
   | none=>rfl
   | some u=>
    have e':b=a:=hA b (by rw [q];simp)
    subst e'
    rw [hK (by rw [q];simp)] at e;cases e)
  have hM:Mod K mg (jm s₁.heap H):=⟨hKb,nsK hns,⟨mb,nsK hb,hbb⟩,let ⟨mc,h1,h2⟩:=hlim;⟨mc,nsK h1,h2⟩⟩
  have e0:Env0 P w K mg (jm s₁.heap H) callerA [] s₁ H:=⟨rfl,hM,fun b o e=>rC e,Nat.le_of_eq (nQ _ _),trivial,fun b hb=>absurd (show b∈([]:List Addr) from hb) (by simp),hok,.of_eq hg⟩
  refine codeAny_mono ((F _ hKb (nsK hns)).run callerA [] s₁ H ⟨[.ref a],[]⟩ [.ref a] [.ref a] _ _ hr e0 (hbind s₁ (.ref a)) (.cons rfl .nil) (hsp H hO hS)) fun r s' h=>?_
  cases r with
  | error e=>exact (hCX H e s' h).elim
  | ok fl=>
   cases fl with
   | next=>exact False.elim h
   | brk=>exact False.elim h
   | cont=>exact False.elim h
   | ret u=>
    obtain ⟨v,H',os,bare,un,hok',r',q⟩:=h
    have q':v=.bl true:=q
    subst q'
    obtain rfl:u=Value.bool true:=r'
    refine ⟨rfl,OldK.of_keep fun b o e=>?_,os,bare⟩
    cases q:H b with
    | none=>exact un.keep b o e q (by intro z;exact absurd (show b∈([]:List Addr) from z) (by simp)) (by simp)
    | some u=>
     rcases hO b with z|⟨ob,xs,z⟩
     ·rw [q] at z;cases z
     ·have z2:=un.frzs b ob _ z
      obtain ⟨e1,_⟩:=hok b _ z
      obtain ⟨e2,_⟩:=hok' b _ z2
      rw [e] at e1;cases e1
      exact e2
 cases hk:K.lookup a with
 | some o=>
  have e:=KX a o hk
  rw [ha] at e
  cases e
  refine core (fun _=>none) (fun _=>.inl rfl) (.inr ⟨_,vs.toArray,_,hk,rfl,rfl,rfl,by rw [BO,lenV];exact hl,by simpa using rv⟩) (fun b u z=>by have z':(none:Option HO)=some u:=z;cases z') (fun b z=>absurd rfl z) fun z=>absurd rfl z
 | none=>
  refine core (fun b=>if b=a then some (.frz { cls:=.type "list",data:=.seq vs.toArray } (.lst (ns.map V.int))) else none) (fun b=>?_) (.inl (.inr ⟨{ cls:=.type "list",data:=.seq vs.toArray },if_pos rfl⟩)) (fun b u z=>?_) (fun b z=>?_) fun _=>hk
  ·by_cases hb:b=a
   ·exact .inr ⟨_,_,if_pos hb⟩
   ·exact .inl (if_neg hb)
  ·by_cases hb:b=a
   ·have z':=(if_pos hb).symm.trans z
    cases z'
    subst hb
    exact ⟨ha,by rw [BE];exact hl,vs,_,rv,ha⟩
   ·have z':=(if_neg hb).symm.trans z
    cases z'
  ·by_cases hb:b=a
   ·exact hb
   ·exact absurd (if_neg hb) z
end L2
namespace L2
open PySem PySem.Spec PyProof.Rows
theorem rT {l:PySem.W.OpenLaw} {n k:Nat} {q:Program} {loose:List Str} {XP:(Str->Option Value)->Heap->Prop} {YP:World->Heap->Prop} {d:DefRec} {K:Params->PySem.W.Frag} {CX:World->nX} {sp:World->Sp} {x:Str}
  (hn:l.most=some n) (hn2:n<=sizeLine) (hdf:d.params.defaults=[]) (hr:Room k callerA)
  (hY:∀ (w:World) (h:Heap),YP w h->(K w.params).In h)
  (F:∀ (w:World) (mg:Str->Option Value) (fa:Addr) (h:Heap),(K w.params).In h->h.Ns mainGlobals mg->mg d.name=some (.ref fa)->
   ∃ fd:FuncData,(∀ (s:Shared) (u:Value),BindsTo s fd ⟨[u],[]⟩ [(x,u)]) /\
    ∀ base:Heap,(K w.params).In base->base.Ns mainGlobals mg->aI l.prog w (K w.params) mg base (CX w) k fa fd [x] (sp w))
  (hsp:∀ (w:World) (H:Hp) (a:Addr) (ns:List Int),ns.length<=n->rS H->SqL (K w.params) H a (ns.map V.int)->sp w [.ref a] H (fun v _=>v=.bl true) fun _ _ _=>False)
  (hCX:∀ (w:World) (H:Hp) (s:Shared) (e:Value) (s':Shared),CX w [] H s (fun _ _ _=>False) e s'->False) :
  PySem.W.WalkO q loose XP YP l.row.toRowW d [] (fun f vs=>PySem.call f vs):=by
 refine Att.attach_call hn hdf fun w s₀ s₁ mg mb fa o pm cd doc a vs ns G Y ho hd hcd hmg hobj hints hlen hg=>?_
 have KX:=hY w _ Y
 obtain ⟨fd,hb,hF⟩:=F w mg fa _ KX G.T.g hmg
 exact o9 KX G.T.g G.T.b G.T.builtins G.T.nolimit hg hobj hints (BN hlen hn2) hr hF hb (fun H hO hS=>hsp w H a ns hlen hO hS) fun H e s'=>hCX w H s₁ e s'
theorem pb {l:PySem.W.OpenLaw} {n k:Nat} {q:Program} {loose:List Str} {XP:(Str->Option Value)->Heap->Prop} {YP:World->Heap->Prop} {d:DefRec} {K:Params->PySem.W.Frag} {CX:nX} {sp:PySem.W.Frag->Sp} {x:Str}
  (hn:l.most=some n) (hn2:n<=sizeLine) (hdf:d.params.defaults=[]) (hr:Room k callerA)
  (hY:∀ (w:World) (h:Heap),YP w h->(K w.params).In h)
  (F:∀ (w:World) (mg:Str->Option Value) (fa:Addr) (h:Heap),(K w.params).In h->h.Ns mainGlobals mg->mg d.name=some (.ref fa)->
   ∃ fd:FuncData,(∀ (s:Shared) (u:Value),BindsTo s fd ⟨[u],[]⟩ [(x,u)]) /\
    ∀ base:Heap,(K w.params).In base->base.Ns mainGlobals mg->aI l.prog w (K w.params) mg base CX k fa fd [x] (sp (K w.params)))
  (hsp:∀ (K:PySem.W.Frag) (H:Hp) (a:Addr) (ns:List Int),ns.length<=n->rS H->SqL K H a (ns.map V.int)->sp K [.ref a] H (fun v _=>v=.bl true) fun _ _ _=>False)
  (hCX:∀ (H:Hp) (s:Shared) (e:Value) (s':Shared),CX [] H s (fun _ _ _=>False) e s'->False) :
  PySem.W.WalkO q loose XP YP l.row.toRowW d [] (fun f vs=>PySem.call f vs):=
 rT (K:=K) (CX:=fun _=>CX) (sp:=fun w=>sp (K w.params)) hn hn2 hdf hr hY F (fun w H a ns h1 h2 h3=>hsp (K w.params) H a ns h1 h2 h3) fun _ H s e s'=>hCX H s e s'
end L2
namespace L2
open PySem PySem.Spec PyProof.Rows
def a4 (s:Stmt) (j:Nat):Stmt:=match s with
 | .ClassDef _ _ _ body _ _ _ _ _ _ _=>body.getD j (.Pass ⟨0,0,0,0⟩)
 | _=>.Pass ⟨0,0,0,0⟩
def cq (s:Stmt):Arguments:=match s with
 | .FunctionDef _ a _ _ _ _ _ _ _ _=>a
 | _=>{ posonlyargs:=[],args:=[],vararg:=none,kwonlyargs:=[],kw_defaults:=[],kwarg:=none,defaults:=[] }
def bX (s:Stmt):List Stmt:=match s with
 | .FunctionDef _ _ b _ _ _ _ _ _ _=>b
 | _=>[]
def al (s:Stmt):Scope:=match s with
 | .FunctionDef _ _ _ _ _ _ sc _ _ _=>sc
 | _=>{ kind:=.function,names:=[],isGenerator:=false,isCoroutine:=false }
abbrev bE:nX:=fun _ _ _ _ _ _=>False
abbrev E0:XK:=fun _ _ _=>False
theorem c7 {X:Cx}:dE bE X E0:=fun _ _ _ _ _ _ _ h=>h.elim
structure Fun (K:PySem.W.Frag) (x qual:Str) (st:Stmt) (f:Addr) (fd:FuncData):Prop where
 ex:∃ (oc:Value) (od:Option Addr) (kV doc pm:Value) (an:Option Addr) (cdv ct:Value) (osl:Array (Option Value)),
  fd=PySem.W.fnOf x qual (cq st) (bX st) (al st) .none kV doc pm an cdv ct/\K.lookup f=some ⟨oc,od,.func fd,osl⟩/\PySem.W.codeIn K cdv qual=true
 kp:PySem.W.keepIn K (.ref f)=true
section
variable {P:Program} {w:World} {K:PySem.W.Frag} {mg:Str->Option Value} {base:Heap}
theorem Fun.ok {x qual:Str} {st:Stmt} {f:Addr} {fd:FuncData} {N ps:List Str} {k:Nat} {sp:Sp} (F:Fun K x qual st f fd) (S:aq N ps (al st)) (len:∀ vs H Q E,sp vs H Q E->vs.length=ps.length)
  (hbody:∀ (cdv:Value) (A:Around) (outer:List Env) (s:Shared) (H:Hp) (vs:List V) (Q:VK) (E:XK),Room k (A.deeper (envOfC qual (al st) s.heap.objs.size f cdv))->sp vs H Q E->
   ∃ t,PSs (jt bE P w K mg base N qual (al st) f cdv A outer s H E).nox (bX st) t/\t { nx:=fun _ H'=>Q .non H',rt:=Q } (fQ N vs) H):aI P w K mg base bE (k+1) f fd ps sp:=by
 obtain ⟨oc,od,kV,doc,pm,an,cdv,ct,osl,rfl,lk,hcd⟩:=F.ex
 refine uC lk hcd S len fun A outer s H vs Q E hr hsp=>?_
 obtain ⟨t,h,q⟩:=hbody cdv A outer s H vs Q E hr hsp
 exact ⟨t,h.nox,q⟩
theorem Fun.binds {x qual:Str} {st:Stmt} {f:Addr} {fd:FuncData} {ps:List Str} (F:Fun K x qual st f fd)
  (h:∀ (kV doc pm:Value) (an:Option Addr) (cdv ct:Value) (us:List Value),us.length=ps.length->bindArgs (PySem.W.fnOf x qual (cq st) (bX st) (al st) .none kV doc pm an cdv ct) ⟨us,[]⟩=pure (ps.zip us)):Binds K fd ps []:=by
 obtain ⟨oc,od,kV,doc,pm,an,cdv,ct,osl,rfl,lk,hcd⟩:=F.ex
 exact .all (h kV doc pm an cdv ct)
theorem pc {x qual:Str} {st:Stmt} {f:Addr} {oc:Value} {od an:Option Addr} {osl:Array (Option Value)} {kV doc pm cdv ct:Value} (l:K.lookup f=some ⟨oc,od,.func (PySem.W.fnOf x qual (cq st) (bX st) (al st) .none kV doc pm an cdv ct),osl⟩)
  (c:PySem.W.codeIn K cdv qual=true) (k:PySem.W.keepIn K (.ref f)=true):Fun K x qual st f (PySem.W.fnOf x qual (cq st) (bX st) (al st) .none kV doc pm an cdv ct):=⟨⟨oc,od,kV,doc,pm,an,cdv,ct,osl,rfl,l,c⟩,k⟩
end
theorem uG {A:Around} {k:Nat} (hr:Room k A):A.units+1 < cLine:=Nat.lt_of_le_of_lt (Nat.add_le_add_left (by decide:1<=64) _) hr.units
section
variable {X:Cx}
theorem pv (i:Nat) {x:Str} {pos:Pos} (hN:X.N[i]?=some x:=by rfl) (hv:zk X.env.scope x:=by first|exact Or.inl rfl|exact Or.inr (Or.inl rfl)|exact Or.inr (Or.inr rfl)) (hd:(x == ("__debug__":Str))=false:=by decide)
  (hcd:(x == ("__classdict__":Str))=false:=by decide):PE X (.Name x pos) (rD i):=u7 hN hv hd hcd
end
theorem bo {A B:Prop} (h:B):if false=true then A else B:=by
 rw [if_neg BP]
 exact h
theorem bY {A B:Prop} (h:A):if true=true then A else B:=by
 rw [if_pos rfl]
 exact h
theorem bF {c A B:Prop} [Decidable c] (h1:c->A) (h2:¬ c->B):if c then A else B:=by
 by_cases h:c
 ·rw [if_pos h]
  exact h1 h
 ·rw [if_neg h]
  exact h2 h
def Same (H H':Hp):Prop:=∀ b o,H b=some o->H' b=some o
theorem Same.refl (H:Hp):Same H H:=fun _ _ h=>h
theorem Same.trans {H H1 H2:Hp} (a:Same H H1) (b:Same H1 H2):Same H H2:=fun c o h=>b c o (a c o h)
theorem Same.free {H H':Hp} (e:Same H H') {l:Addr} (h:H' l=Option.none):H l=Option.none:=by
 cases q:H l with
 | none=>rfl
 | some o=>
  rw [e l o q] at h
  cases h
theorem Same.seq {K:PySem.W.Frag} {H H':Hp} {a:Addr} {xs:List V} (e:Same H H') (h:SqL K H a xs):SqL K H' a xs:=by
 rcases h with (h|⟨o,h⟩)|h
 ·exact .inl (.inl (e _ _ h))
 ·exact .inl (.inr ⟨o,e _ _ h⟩)
 ·exact .inr h
end L2
namespace L2
open PySem PySem.Spec PyProof.Rows
theorem fC (env:Env):∀ (names:List (Str×NameKind)) (cs:List (Str×Addr)),(∀ x∈names,x.2=.free->∃ c,env.cells.lookup x.1=some c)->(∀ x c,cs.lookup x=some c->env.cells.lookup x=some c)->
  ∃ cl,(forIn names cs fun (p:Str×NameKind) (r:List (Str×Addr))=>(if (p.2 == NameKind.free)=true then do let c <-cellOf env p.1;pure (ForInStep.yield ((p.1,c)::r)) else pure (ForInStep.yield r):Sem (ForInStep (List (Str×Addr)))))=(pure cl:Sem (List (Str×Addr))) /\
   (∀ x c,cl.lookup x=some c->env.cells.lookup x=some c)/\(∀ x,(∃ c,cs.lookup x=some c)->∃ c,cl.lookup x=some c)/\∀ x∈names,x.2=.free->∃ c,cl.lookup x.1=some c
 | [],cs,_,h=>⟨cs,rfl,h,fun _ z=>z,fun _ z=>nomatch z⟩
 | (n,k)::r,cs,hn,h=>by
  by_cases e:k=.free
  ·subst e
   obtain ⟨c,hc⟩:=hn (n,.free) BJ rfl
   have h':∀ x c',((n,c)::cs).lookup x=some c'->env.cells.lookup x=some c':=fun x c' q=>by
    rw [Cg] at q
    cases ex:x == n with
    | true=>
     rw [ex] at q
     have:x=n:=by simpa using ex
     subst this
     cases q
     exact hc
    | false=>rw [ex] at q;exact h x c' q
   obtain ⟨cl,e1,e2,e3,e4⟩:=fC env r ((n,c)::cs) (fun x hx=>hn x (BF _ hx)) h'
   refine ⟨cl,?_,e2,fun x ⟨c',q⟩=>e3 x ?_,fun x hx hf=>?_⟩
   ·rw [List.forIn_cons]
    rw [if_pos (show (((n,NameKind.free):Str×NameKind).2 == NameKind.free)=true from by rfl)]
    unfold cellOf
    rw [hc]
    exact e1
   ·rw [Cg]
    cases ex:x == n with
    | true=>exact ⟨c,rfl⟩
    | false=>exact ⟨c',q⟩
   ·rcases BH.mp hx with z|z
    ·subst z
     exact e3 n ⟨c,by rw [Cg];simp⟩
    ·exact e4 x z hf
  ·obtain ⟨cl,e1,e2,e3,e4⟩:=fC env r cs (fun x hx=>hn x (BF _ hx)) h
   refine ⟨cl,?_,e2,e3,fun x hx hf=>?_⟩
   ·rw [List.forIn_cons]
    rw [if_neg (show ¬ (((n,k):Str×NameKind).2 == NameKind.free)=true by simpa using e)]
    exact e1
   ·rcases BH.mp hx with z|z
    ·subst z
     exact absurd hf e
    ·exact e4 x z hf
theorem lO {env:Env} {sc:Scope} (hn:∀ x∈sc.names,x.2=.free->∃ c,env.cells.lookup x.1=some c) :
  ∃ cl,closureFor sc env=pure cl/\(∀ x c,cl.lookup x=some c->env.cells.lookup x=some c)/\∀ x∈sc.names,x.2=.free->∃ c,cl.lookup x.1=some c:=by
 obtain ⟨cl,e1,e2,_,e4⟩:=fC env sc.names [] hn (fun x c z=>by cases z)
 refine ⟨cl,?_,e2,e4⟩
 unfold closureFor
 exact (congrArg (fun (m:Sem (List (Str×Addr)))=>m >>= fun r=>pure r) e1)
theorem c8 {κ:Type}:∀ {l:List (Str×κ)} {x:Str} {k:κ},l.lookup x=some k->(x,k)∈l
 | [],_,_,h=>by cases h
 | (n,k')::r,x,k,h=>by
  rw [Cg] at h
  cases e:x == n with
  | true=>
   rw [e] at h
   have:x=n:=by simpa using e
   subst this
   cases h
   exact BJ
  | false=>
   rw [e] at h
   exact BF _ (c8 h)
def jx (env:Env) (x:Str) (k:NameKind):NameKind:=if (k == NameKind.free && env.scope.kind == .function && env.kindOf x == some .cell)=true then .cell else k
theorem gZ {env:Env}:∀ {names:List (Str×NameKind)} {x:Str},
  (names.map fun (p:Str×NameKind)=>match p with|(n,k)=>if (k == NameKind.free && env.scope.kind == .function && env.kindOf n == some .cell)=true then (n,NameKind.cell) else (n,k)).lookup x=(names.lookup x).map (jx env x)
 | [],x=>rfl
 | (n,k)::r,x=>by
  rw [BR]
  by_cases e:x=n
  ·subst e
   dsimp only
   by_cases c:(k == NameKind.free && env.scope.kind == .function && env.kindOf x == some .cell)=true
   ·rw [if_pos c]
    have z:jx env x k=.cell:=if_pos c
    simp [Cg,z]
   ·rw [if_neg c]
    have z:jx env x k=k:=if_neg c
    simp [Cg,z]
  ·have e':(x == n)=false:=by simpa using e
   dsimp only
   rw [Cg (a:=x) (b:=k),e']
   show _=(r.lookup x).map (jx env x)
   rw [<-gZ]
   by_cases c:(k == NameKind.free && env.scope.kind == .function && env.kindOf n == some .cell)=true
   ·rw [if_pos c,Cg,e']
   ·rw [if_neg c,Cg,e']
theorem g7 {sc:Scope} {env:Env} {cl:List (Str×Addr)} {C:Addr} {x:Str}:(compEnvC sc cl C env).kindOf x=(sc.names.lookup x).map (jx env x):=gZ
def pd (N:List Str) (sc0 sc:Scope) (N':List Str) (ix:List (Option Nat)):Bool:=
 sc.kind == .function && ix.length == N'.length &&
 sc.names.all (fun p=>p.2 != .cell && (p.2 != .free || (sc0.names.lookup p.1 == some .cell || sc0.names.lookup p.1 == some .free)) && (p.2 != .local || sc.names.lookup p.1 == some .local)) &&
 (List.range N'.length).all fun j=>match ix[j]?,N'[j]? with
  | some (some i),some x=>N[i]? == some x && sc.names.lookup x == some .free
  | _,_=>true
theorem iX {N:List Str} {sc0 sc:Scope} {N':List Str} {ix:List (Option Nat)} (h:pd N sc0 sc N' ix=true) :
  sc.kind=.function/\ix.length=N'.length/\(∀ p∈sc.names,p.2≠.cell)/\(∀ p∈sc.names,p.2=.free->sc0.names.lookup p.1=some .cell\/sc0.names.lookup p.1=some .free) /\
   (∀ p∈sc.names,p.2=.local->sc.names.lookup p.1=some .local)/\∀ (j i:Nat) (x:Str),ix[j]?=some (some i)->N'[j]?=some x->N[i]?=some x/\sc.names.lookup x=some .free:=by
 unfold pd at h
 simp only [BD,Cd,beq_iff_eq,bne_iff_ne,Bool.or_eq_true,ne_eq] at h
 obtain ⟨⟨⟨h1,h2⟩,h3⟩,h4⟩:=h
 refine ⟨h1,h2,fun p hp=>(h3 p hp).1.1,fun p hp hf=>?_,fun p hp hl=>?_,fun j i x e1 e2=>?_⟩
 ·rcases (h3 p hp).1.2 with z|z
  ·exact absurd hf z
  ·exact z
 ·rcases (h3 p hp).2 with z|z
  ·exact absurd hl z
  ·exact z
 ·have hj:j < N'.length:=(BM.mp e2).1
  have:=h4 j (CH.mpr hj)
  rw [e1,e2] at this
  simpa using this
def ke (X:Cx) (sc:Scope) (N':List Str) (C:Addr) (cl:List (Str×Addr)) (s:Shared) (H:Hp) (fp:List Addr):Cx:=
 { X with N:=N',s₀:=s,H₀:=H,env:=compEnvC sc cl C X.env,outer:=X.stack,stack:=X.stack,ex:=fp,fn:=fun _=>false,pn:=[],xe:=fun _ _=>False }
def lA (ix:List (Option Nat)) (σ:St):St:=ix.map fun o=>match o with|some i=>(σ[i]?).getD none|none=>none
def ExtL:St->St->Prop
 | [],[]=>True
 | none::r,_::r'=>ExtL r r'
 | some v::r,w::r'=>w=some v/\ExtL r r'
 | _,_=>False
theorem ExtL.spec:∀ {a b:St},ExtL a b->a.length=b.length/\∀ (i:Nat) v,a[i]?=some (some v)->b[i]?=some (some v)
 | [],[],_=>⟨rfl,fun _ _ z=>by simp at z⟩
 | [],_::_,h=>h.elim
 | none::r,[],h=>h.elim
 | some v::r,[],h=>h.elim
 | none::r,w::r',h=>by
  obtain ⟨e1,e2⟩:=ExtL.spec (a:=r) (b:=r') h
  refine ⟨by simp [e1],fun i v z=>?_⟩
  cases i with
  | zero=>simp at z
  | succ i=>simpa using e2 i v (by simpa using z)
 | some u::r,w::r',h=>by
  obtain ⟨e0,h⟩:=h
  obtain ⟨e1,e2⟩:=ExtL.spec (a:=r) (b:=r') h
  refine ⟨by simp [e1],fun i v z=>?_⟩
  cases i with
  | zero=>simp at z;subst z;simp [e0]
  | succ i=>simpa using e2 i v (by simpa using z)
structure PF (X:Cx) (ifs:List Expr) (t:TT):Prop where
 run:∀ (pins:List (Addr×Obj)) (s:Shared) (σ:St) (H:Hp) (Q:Bool->Hp->Prop),Inv X pins σ H s->t σ H Q->
  wpAny (model X.prog X.w) X.A (forIn ifs true fun c r=>if r=true then do let ok <-isTrue c X.env (eval c X.env);pure (ForInStep.yield ok) else pure (ForInStep.yield r)) (TP X pins σ Q) X.xe s
instance {X:Cx} {ifs:List Expr} {t:TT}:CoeFun (PF X ifs t) fun _=>∀ (pins:List (Addr×Obj)) (s:Shared) (σ:St) (H:Hp) (Q:Bool->Hp->Prop),Inv X pins σ H s->t σ H Q->
  wpAny (model X.prog X.w) X.A (forIn ifs true fun c r=>if r=true then do let ok <-isTrue c X.env (eval c X.env);pure (ForInStep.yield ok) else pure (ForInStep.yield r)) (TP X pins σ Q) X.xe s:=⟨PF.run⟩
def xS:TT:=fun _ H Q=>Q true H
theorem df {X:Cx}:PF X [] xS:=⟨fun pins s σ H Q I h=>wpAny_tests_nil ⟨H,I,h⟩⟩
def pf (J:It) (g:TG) (tf:TT) (te:TE) (ix:List (Option Nat)) (σ:St) (H1:Hp) (Q:VK):Prop:=∃ W:Nat->Nat->List V->Hp->Prop,(∃ m,W 0 m [] H1)/\∀ i m ys H,W i m ys H->
 (J.stop i H/\ys.length<=sizeLine/\∀ D,H D=none->Q (.ref D) (az H D (.lst ys))) ∨
 (J.go i H/\ys.length<=sizeLine/\∀ x H',J.yld i H x H'->g x (lA ix σ) H' fun σ2 H2=>ExtL (lA ix σ) σ2/\tf σ2 H2 fun b H3=>if b=true then te σ2 H3 fun y H4=>∃ m',m' < m/\W (i+1) m' (ys++[y]) H4 else ∃ m',m' < m/\W (i+1) m' ys H3)
def AY (wi:TI) (g:TG) (tf:TT) (te:TE) (ix:List (Option Nat)):TE:=fun σ H Q=>wi σ H fun J H1=>pf J g tf te ix σ H1 Q
section
variable {X:Cx} {tg elt iter:Expr} {ifs:List Expr} {sc:Scope} {N':List Str} {ix:List (Option Nat)} {pins:List (Addr×Obj)} {σ:St} {H2:Hp} {s2:Shared} {fp:List Addr} {cl:List (Str×Addr)} {C:Addr} {pos:Pos}
theorem vm (I:Inv X pins σ H2 s2) (hix:pd X.N X.env.scope sc N' ix=true) (e2:∀ x c,cl.lookup x=some c->X.env.cells.lookup x=some c) (e3:∀ x∈sc.names,x.2=.free->∃ c,cl.lookup x.1=some c)
  (f2:∀ b∈fp,jr X pins H2 b) (fo:∀ b∈fp,∃ o,s2.heap.get? b=some o) (hC:s2.heap.objs.size<=C):(ke X sc N' C cl s2 H2 fp).Ok:=by
 obtain ⟨k1,_,k3,_,_,_⟩:=iX hix
 refine ⟨I.ok.mod,k1,I.ok.glob,I.ok.blt,hC,fun x y c a b=>I.ok.inj x y c (e2 x c a) (e2 y c b),fun x hx=>?_,fun x c z=>(by cases z),I.ok.hd,I.ok.frames,.inl rfl,fun b hb=>?_,I.bs,BN I.ok.bsz I.sz,fun b o e hb=>?_,fun b hb hf=>?_,I.stack,I.stkFree⟩
 ·have hx':(compEnvC sc cl C X.env).kindOf x=some .cell\/(compEnvC sc cl C X.env).kindOf x=some .free:=hx
  rw [g7] at hx'
  cases q:sc.names.lookup x with
  | none=>rw [q] at hx';rcases hx' with z|z<;>cases z
  | some k=>
   have hm:=c8 q
   have hf:k=.free:=by
    rw [q] at hx'
    have nk:=k3 _ hm
    cases k with
    | free=>rfl
    | cell=>exact absurd rfl nk
    | _=>rcases hx' with z|z<;>(simp [jx] at z)
   exact e3 (x,k) hm hf
 ·obtain ⟨o,ho⟩:=fo b hb
  exact ⟨BX (BQ (BI ho) hC),fun x c q=>(f2 b hb).2.2.2.2.1 x c (e2 x c q)⟩
 ·have hb':b∈fp:=hb
  rcases (f2 b hb').2.2.2.1 with z|z
  ·exact I.ok.noex b o e z
  ·exact absurd (BQ (BI e) (BN I.ok.bsz z)) (Ci _)
 ·have hb':b∈fp:=hb
  rcases BH.mp (I.stkSub b hf) with z|z
  ·exact (f2 b hb').2.1 z
  ·exact (f2 b hb').2.2.1 z
end
section
variable {X:Cx} {tg elt iter:Expr} {ifs:List Expr} {sc sc0:Scope} {N N':List Str} {ix:List (Option Nat)} {pos:Pos} {wi:TI} {g:TG} {tf:TT} {te:TE}
structure LcEnd (X:Cx) (pins:List (Addr×Obj)) (σ:St) (H:Hp) (s:Shared) (C:Addr):Prop where
 inv:Inv X pins σ H s
 ns:∃ m,s.heap.Ns C m
 free:H C=none
 loc:C≠X.env.locals
 cel:∀ x c,X.env.cells.lookup x=some c->c≠C
 abv:X.s₀.heap.objs.size<=C
 pin:∀ p∈X.pn++pins,p.1≠C
theorem LcEnd.gone {pins:List (Addr×Obj)} {σ:St} {H:Hp} {s:Shared} {C:Addr} {h':Heap} (L:LcEnd X pins σ H s C) (sb:Heap.SameBut C s.heap h'):Inv X pins σ H { s with heap:=h' }:=
 L.inv.turned (it:=C) (t':=s.toks) (fun b o hb e=>(sb.2 b hb).trans e) L.free L.loc (.inr L.abv) L.cel L.pin
set_option maxHeartbeats 2000000 in
theorem rU {pins:List (Addr×Obj)} {σ:St} {H:Hp} {s:Shared} {Q:VK} {use:Option (Value->Sem Unit)} {Qf:Value->Shared->Prop} {cpos:Pos} (hc:X.calm=true) (hix:pd X.N X.env.scope sc N' ix=true) (hi:PI X tg iter wi)
  (hg:∀ C cl s H fp,PG (ke X sc N' C cl s H fp) tg g) (hf:∀ C cl s H fp,PF (ke X sc N' C cl s H fp) ifs tf) (he:∀ C cl s H fp,PE (ke X sc N' C cl s H fp) elt te)
  (hs:∀ x,foldedSetIterable iter X.env x=pure x) (I:Inv X pins σ H s) (h:AY wi g tf te ix σ H Q)
  (hend:∀ (C D:Addr) (H':Hp) (s':Shared),LcEnd X pins σ H' s' C->Q (.ref D) H'->compPost (model X.prog X.w) X.A X.xe use Qf (.ref D) C (.ok .next) s') :
  wpAny (model X.prog X.w) X.A (comprehension (.ListComp elt [⟨tg,iter,ifs,0⟩] sc pos) sc X.env cpos (newList []) false (eval iter X.env) use) Qf X.xe s:=by
 obtain ⟨hk,hlen,hcell,hfreeX,hnames,hat⟩:=iX hix
 obtain ⟨cl,e1,e2,e3⟩:=lO (env:=X.env) (sc:=sc) (fun x hx hf=>I.ok.has x.1 (hfreeX x hx hf))
 refine wpAny_comprehension_free (use:=use) (cl:=cl) rfl hs e1 hk hnames (bA (hi pins s σ H _ I h) fun v s1 h1=>bA h1 fun itv s2 h2=>?_)
 obtain ⟨it,fp,tn,J,H2,e,I2,T,st2,f2,W,⟨m0,w0⟩,turn⟩:=h2
 subst e
 refine wpAny_newObj_type (wpAny_newFunctionEnv hcell (by intro y hy;simp at hy) (fun h₁ hns₁ hsb₁=>?_) hk)
 dsimp only at hns₁ hsb₁ ⊢
 generalize hH2:s2.heap.push { cls:=.type "list",dict:=none,data:=.seq ([]:List Value).toArray }=G2 at hns₁ hsb₁ ⊢
 have hCs:G2.objs.size=s2.heap.objs.size+1:=by rw [<-hH2,CP]
 have hDC:s2.heap.objs.size≠G2.objs.size:=by rw [hCs];exact BX (Nat.lt_succ_self _)
 have hCle:s2.heap.objs.size<=G2.objs.size:=by rw [hCs];exact Nat.le_succ _
 have belowC:∀ b,b < s2.heap.objs.size->b≠G2.objs.size:=fun b hb=>by rw [hCs];exact BX (Nat.lt_succ_of_lt hb)
 have belowD:∀ b,b < s2.heap.objs.size->b≠s2.heap.objs.size:=fun b hb=>BX hb
 have old:∀ b o,s2.heap.get? b=some o->h₁.get? b=some o:=fun b o e=>hsb₁.extBut b o (belowC b (BI e)) (BB _ (hH2 ▸ BB _ e))
 have hacc:h₁.get? s2.heap.objs.size=some { cls:=.type "list",data:=.seq ([]:List Value).toArray }:=hsb₁.extBut _ _ hDC (BB _ (hH2 ▸ BU _ rfl))
 have fo:∀ b∈fp,∃ o,s2.heap.get? b=some o:=fun b hb=>let ⟨o,ho,_⟩:=T.obj _ _ st2 b hb;⟨o,ho⟩
 have fD:∀ b∈fp,b≠s2.heap.objs.size:=fun b hb=>let ⟨o,ho⟩:=fo b hb;belowD b (BI ho)
 have ok':(ke X sc N' G2.objs.size cl s2 H2 fp).Ok:=vm I2 hix e2 e3 f2 fo hCle
 have HD:H2 s2.heap.objs.size=none:=I2.hok.fresh (BG _)
 have HC:H2 G2.objs.size=none:=I2.hok.fresh hCle
 have I4:Inv (ke X sc N' G2.objs.size cl s2 H2 fp) [] (lA ix σ) H2 { s2 with heap:=h₁,toks:=s2.toks+([]:List (Str×Value)).length }:=by
  refine ⟨ok',rfl,I2.bare,Un.kept old,⟨_,hns₁,fun j x v a b c=>?_⟩,fun x c q=>?_,HC,fun x c q=>I2.freeC x c (e2 x c q),fun p hp=>(by cases hp),I2.hok.kept old,?_⟩
  ·
   have a':N'[j]?=some x:=a
   have b':(ix.map fun o=>match o with|some i=>(σ[i]?).getD none|none=>none)[j]?=some (some v):=b
   rw [Cw] at b'
   cases q:ix[j]? with
   | none=>rw [q] at b';cases b'
   | some o=>
    rw [q] at b'
    cases o with
    | none=>cases b'
    | some i=>
     obtain ⟨n1,n2⟩:=hat j i x q a'
     have b'':(σ[i]?).getD none=some v:=BY b'
     have sv:σ[i]?=some (some v):=by
      cases z:σ[i]? with
      | none=>rw [z] at b'';cases b''
      | some y=>rw [z] at b'';exact congrArg some b''
     obtain ⟨m,hn,hl⟩:=I2.loc
     have kx:=hfreeX (x,.free) (c8 n2) rfl
     obtain ⟨u,r,lk⟩:=hl i x v n1 sv (.inr kx)
     refine ⟨u,r,.inr ⟨?_,?_⟩⟩
     ·show (compEnvC sc cl G2.objs.size X.env).kindOf x=some .cell\/(compEnvC sc cl G2.objs.size X.env).kindOf x=some .free
      rw [g7,n2]
      show some (jx X.env x .free)=some .cell\/some (jx X.env x .free)=some .free
      unfold jx
      split
      ·exact .inl rfl
      ·exact .inr rfl
     ·obtain ⟨c1,hc1⟩:=e3 (x,.free) (c8 n2) rfl
      refine ⟨c1,hc1,?_⟩
      have hc2:=e2 x c1 hc1
      rcases lk with ⟨z,_⟩|⟨_,c,hcc,hcl⟩
      ·have z':X.env.scope.names.lookup x=some .local:=z
       rcases kx with y|y<;>(rw [y] at z';cases z')
      ·rw [hc2] at hcc;cases hcc
       obtain ⟨o,ho,hd⟩:=hcl
       exact ⟨o,old c1 o ho,hd⟩
  ·obtain ⟨v,o,ho,hd⟩:=I2.cell x c (e2 x c q)
   exact ⟨v,o,old c o ho,hd⟩
  ·show (ix.map _).length=N'.length
   rw [BE,hlen]
 have cellD:∀ x c,cl.lookup x=some c->c≠s2.heap.objs.size:=fun x c q z=>by
  obtain ⟨v,o,ho,hd⟩:=I2.cell x c (e2 x c q)
  exact belowD c (BI ho) z
 have loop:∀ s₃:Shared,s₃={ s2 with heap:=h₁,toks:=s2.toks+([]:List (Str×Value)).length }->
   codeAny (model X.prog X.w) X.A (.compLoop (.ListComp elt [⟨tg,iter,ifs,0⟩] sc pos) 0 (.ref it) (.ref s2.heap.objs.size) (compEnvC sc cl G2.objs.size X.env))
    (compPost (model X.prog X.w) X.A X.xe use Qf (.ref s2.heap.objs.size) G2.objs.size) s₃:=by
  rintro s₃ rfl
  refine codeAny_loop rfl (fun n s'=>∃ i ys H' its k,Inv (ke X sc N' G2.objs.size cl s2 H2 fp) [] (lA ix σ) H' s'/\tn i s'.heap/\(∀ b∈fp,H' b=none)/\H' s2.heap.objs.size=none /\
   Vals ys its/\s'.heap.get? s2.heap.objs.size=some { cls:=.type "list",data:=.seq its.toArray k }/\W i n ys H') ?_ m0
   ⟨0,[],H2,[],_,I4,T.keep _ _ _ st2 (fun b _ o e=>old b o e),fun b hb=>(f2 b hb).1,HD,.nil,hacc,w0⟩
  rintro n s5 ⟨i,ys,H5,its,k,I5,st5,fr5,hD5,vv,oD,w5⟩
  show wpAny _ X.A ((compTurn (.ListComp elt [⟨tg,iter,ifs,0⟩] sc pos) 0 (.ref it) (.ref s2.heap.objs.size) (compEnvC sc cl G2.objs.size X.env)).onRaise (fun x=>do noteFrame x (compEnvC sc cl G2.objs.size X.env);theTreesLotGoes x)) _ _ s5
  refine wpAny_noted ?_
  rw [compTurn_list]
  have I5p:Inv (ke X sc N' G2.objs.size cl s2 H2 fp) [(s2.heap.objs.size,{ cls:=.type "list",data:=.seq its.toArray k })] (lA ix σ) H5 s5:=I5.pins_of fun p hp=>by
   have hp':p=(s2.heap.objs.size,{ cls:=.type "list",data:=.seq its.toArray k }):=by simpa using hp
   subst hp'
   refine ⟨oD,hD5,hDC,fun hb=>?_,fun v z=>(by cases z)⟩
   obtain ⟨_,o,ho,_⟩:=I2.stack.mem (show s2.heap.objs.size∈jp X.stack from hb)
   exact Ci _ (BI ho)
  have fpk:∀ {H':Hp},(∀ b∈fp,H' b=none)->∀ b∈fp,jr (ke X sc N' G2.objs.size cl s2 H2 fp) [(s2.heap.objs.size,({ cls:=.type "list",data:=.seq its.toArray k }:Obj))] H' b:=fun {H'} hn b hb=>by
   refine ⟨hn b hb,(ok'.exf b hb).1,ok'.exfs b hb,.inl hb,(ok'.exf b hb).2,fun p hp=>?_⟩
   have hp':p=(s2.heap.objs.size,({ cls:=.type "list",data:=.seq its.toArray k }:Obj)):=by
    have z:p∈([]:List (Addr×Obj))++[(s2.heap.objs.size,({ cls:=.type "list",data:=.seq its.toArray k }:Obj))]:=hp
    simpa using z
   subst hp'
   exact (fD b hb).symm
  rcases turn i n ys H5 w5 with ⟨stop,hz,qn⟩|⟨go,hz,step⟩
  ·refine wpAny_bind (wpAny_standAt (wpAny_bind (wpAny_mono (T.done (ke X sc N' G2.objs.size cl s2 H2 fp) rfl rfl rfl hc i _ s5 (lA ix σ) H5 (fun _ _=>False) I5p (fpk fr5) st5 stop) (fun r s6 ⟨hr,I6⟩=>?_) fun _ _ f=>f.elim)))
   subst hr
   refine wpAny_pure ?_
   obtain ⟨m,hn,_⟩:=I6.loc
   have oD6:s6.heap.get? s2.heap.objs.size=some { cls:=.type "list",data:=.seq its.toArray k }:=(I6.pin (s2.heap.objs.size,{ cls:=.type "list",data:=.seq its.toArray k }) (by show _∈([]:List (Addr×Obj))++_;simp)).1
   have u6:Un (jp X.stack) fp H2 H5 s2.heap s6.heap:=I6.base
   have HC5:H5 G2.objs.size=none:=I6.free
   refine hend _ _ (az H5 s2.heap.objs.size (.lst ys)) s6 ⟨?_,⟨m,hn⟩,by rw [aG hDC.symm];exact HC5,(belowC _ I2.lt).symm,fun x c q=>?_,BN I2.sz hCle,fun p hp=>?_⟩ (qn _ hD5)
   ·refine I2.call' (s':=s6) (ch:=fp) I6.os ?_ ?_ I6.bare fun b hb=>⟨(f2 b hb).2.2.2.1,(f2 b hb).2.1,(f2 b hb).2.2.2.2.1,(f2 b hb).2.2.2.2.2⟩
    ·refine ⟨fun b o e n nf nx=>u6.keep b o e n nf nx,fun b o e n nf nx=>u6.slot b o e n nf nx,fun b o e n nx=>?_,fun b o e nx=>u6.there b o e nx,fun b xs e=>?_,fun b o u e=>?_,fun b ps e=>?_⟩
     ·rw [aG (belowD b (BI e))];exact u6.free b o e n nx
     ·rw [aG (aS e HD)];exact u6.tups b xs e
     ·rw [aG (aS e HD)];exact u6.frzs b o u e
     ·rw [aG (aS e HD)];exact u6.tbls b ps e
    ·intro b o e
     by_cases hb:b=s2.heap.objs.size
     ·subst hb
      rw [ae] at e;cases e
      exact ⟨hz,its,k,vv,oD6⟩
     ·rw [aG hb] at e
      refine (I6.hok b o e).stay (fun c v hcc q=>q) (fun c q=>?_) fun c xs q=>?_
      ·rw [aG (aS q hD5)];exact q
      ·rw [aG (aS q hD5)];exact q
   ·obtain ⟨v,o,ho,hd⟩:=I2.cell x c q
    exact belowC c (BI ho)
   ·exact belowC p.1 (BI (I2.pin p hp).1)
  ·refine wpAny_bind (wpAny_standAt (wpAny_bind (wpAny_mono (T.item (ke X sc N' G2.objs.size cl s2 H2 fp) rfl rfl rfl hc i _ s5 (lA ix σ) H5 (fun _ _=>False) I5p (fpk fr5) st5 go) (fun r s6 ⟨u,hr,h6⟩=>?_) fun _ _ f=>f.elim)))
   subst hr
   refine wpAny_bind (wpAny_mono h6 (fun _ s7 ⟨x,H7,I7,r7,y7,st7,fr7⟩=>?_) fun _ _ f=>f.elim)
   have I7':=I7.pinned (fpk fr7) (T.obj _ _ st7)
   refine wpAny_bind (wpAny_mono (hg _ _ _ _ _ _ s7 (lA ix σ) H7 x u _ I7' r7 (step x H7 y7)) (fun _ s8 ⟨σ8,H8,I8,x8,q8⟩=>?_) fun _ _ f=>f.elim)
   obtain ⟨xl,xv⟩:=x8.spec
   have keepT:∀ {σ9:St} {H9:Hp} {s9:Shared} {pl:List (Addr×Obj)},(∀ p∈de fp s7.heap,p∈pl)->Inv (ke X sc N' G2.objs.size cl s2 H2 fp) pl σ9 H9 s9->tn (i+1) s9.heap/\∀ b∈fp,H9 b=none:=fun {σ9 H9 s9 pl} hp I9=>by
    have pn:∀ b o,b∈fp->s7.heap.get? b=some o->s9.heap.get? b=some o/\H9 b=none:=fun b o hb e=>by
     have:=I9.pin (b,o) (BV _ (hp _ (fj hb e)))
     exact ⟨this.1,this.2.1⟩
    refine ⟨T.keep _ _ _ st7 fun b hb o e=>(pn b o hb e).1,fun b hb=>?_⟩
    obtain ⟨o,e,_⟩:=T.obj _ _ st7 b hb
    exact (pn b o hb e).2
   refine wpAny_bind (wpAny_mono (hf _ _ _ _ _ _ s8 σ8 H8 _ I8 q8) (fun ok s9 ⟨H9,I9,q9⟩=>?_) fun _ _ f=>f.elim)
   have pD:∀ {σ9:St} {H9:Hp} {s9:Shared},Inv (ke X sc N' G2.objs.size cl s2 H2 fp) ([(s2.heap.objs.size,({ cls:=.type "list",data:=.seq its.toArray k }:Obj))]++de fp s7.heap) σ9 H9 s9->
     s9.heap.get? s2.heap.objs.size=some { cls:=.type "list",data:=.seq its.toArray k }/\H9 s2.heap.objs.size=none:=fun {σ9 H9 s9} I9=>by
    have:=I9.pin (s2.heap.objs.size,{ cls:=.type "list",data:=.seq its.toArray k }) (BV _ (CG _ (by simp)))
    exact ⟨this.1,this.2.1⟩
   cases ok with
   | false=>
    obtain ⟨m',hm,w9⟩:=(show ∃ m',m' < n/\W (i+1) m' ys H9 from by simpa using q9)
    obtain ⟨t9,fr9⟩:=keepT (fun p hp=>BV _ hp) I9
    obtain ⟨oD9,hD9⟩:=pD I9
    refine wpAny_pure ⟨rfl,m',hm,i+1,ys,H9,its,k,(I9.pins_of (pins':=[]) fun p hp=>nomatch hp).weak xl xv,t9,fr9,hD9,vv,oD9,w9⟩
   | true=>
    have q9':te σ8 H9 fun y H4=>∃ m',m' < n/\W (i+1) m' (ys++[y]) H4:=by simpa using q9
    refine wpAny_bind (wpAny_bind (wpAny_mono (he _ _ _ _ _ _ s9 σ8 H9 _ I9 q9') (fun yv sA ⟨y,HA,IA,rA,m',hm,wA⟩=>?_) fun _ _ f=>f.elim))
    obtain ⟨oDA,hDA⟩:=pD IA
    have hsz:its.toArray.size<=sizeLine:=by rw [BO,<-vv.length];exact hz
    refine wpAny_bind (wpAny_list_append_plain (hsz:=hsz) ⟨_,oDA⟩ fun h9 pl9 sb9=>?_)
    have IB:Inv (ke X sc N' G2.objs.size cl s2 H2 fp) (de fp s7.heap) σ8 HA sA:=IA.pins_of fun p hp=>IA.pin p (BV _ (BV _ hp))
    have IC:Inv (ke X sc N' G2.objs.size cl s2 H2 fp) (de fp s7.heap) σ8 HA { sA with heap:=h9 }:=IB.turned (it:=s2.heap.objs.size) (t':=sA.toks) (fun b o hb e=>(sb9.2 b hb).trans e) hDA hDC (.inr (BG _)) (fun x c q=>cellD x c q) fun p hp=>by
     have hp':p∈de fp s7.heap:=by
      have z:p∈([]:List (Addr×Obj))++de fp s7.heap:=hp
      simpa using z
     exact fD p.1 (iI hp').1
    obtain ⟨t9,fr9⟩:=keepT (fun p hp=>hp) IC
    obtain ⟨k',oD'⟩:=pl9
    refine wpAny_pure (wpAny_pure ⟨rfl,m',hm,i+1,ys++[y],HA,its++[yv],k',(IC.pins_of (pins':=[]) fun p hp=>nomatch hp).weak xl xv,t9,fr9,hDA,vv.append (.cons rA .nil),?_,wA⟩)
    show h9.get? s2.heap.objs.size=_
    rw [oD']
    simp
 exact codeAny_compStart_list (loop _ rfl) (T.self X.A 0 _ _ _ (T.keep _ _ _ st2 (fun b _ o e=>old b o e)) (loop _ rfl))
theorem fc (hc:X.calm=true) (hix:pd N sc0 sc N' ix=true) (hi:PI X tg iter wi)
  (hg:∀ C cl s H fp,PG (ke X sc N' C cl s H fp) tg g) (hf:∀ C cl s H fp,PF (ke X sc N' C cl s H fp) ifs tf) (he:∀ C cl s H fp,PE (ke X sc N' C cl s H fp) elt te)
  (eN:X.N=N:=by rfl) (eS:X.env.scope=sc0:=by rfl) (hs:∀ x,foldedSetIterable iter X.env x=pure x:=by intro _;rfl) :
  PE X (.ListComp elt [⟨tg,iter,ifs,0⟩] sc pos) (AY wi g tf te ix):=by
 refine ⟨?_⟩
 intro pins s σ H Q I h
 subst eN eS
 rw [eval_ListComp]
 refine rU (use:=none) hc hix hi hg hf he hs I h fun C D H' s' L q=>?_
 obtain ⟨m,hn⟩:=L.ns
 exact ⟨m,hn,fun h' sb=>⟨.ref D,H',L.gone sb,rfl,q⟩⟩
end
end L2
namespace L2
open PySem
def Nx (Pv:Nat->List V->Hp->Prop) (n i:Nat) (ys:List V) (H:Hp):Prop:=∃ m',m' < n - i/\(m'=n - (i+1)/\i+1<=n/\Pv (i+1) ys H)
theorem Nx.mk {Pv:Nat->List V->Hp->Prop} {n i:Nat} {ys:List V} {H:Hp} (h:i < n) (p:Pv (i+1) ys H):Nx Pv n i ys H:=⟨n - (i+1),by omega,rfl,h,p⟩
theorem rV {K:PySem.W.Frag} {a:Addr} {xs:List V} {g:TG} {tf:TT} {te:TE} {ix:List (Option Nat)} {σ:St} {H:Hp} {Q:VK} (Pv:Nat->List V->Hp->Prop) (h0:Pv 0 [] H)
  (hl:∀ i ys H,i<=xs.length->Pv i ys H->SqL K H a xs/\ys.length<=sizeLine)
  (hs:∀ i x ys H,xs[i]?=some x->Pv i ys H->g x (lA ix σ) H fun σ2 H2=>ExtL (lA ix σ) σ2/\tf σ2 H2 fun b H3=>if b=true then te σ2 H3 fun y H4=>Nx Pv xs.length i (ys++[y]) H4 else Nx Pv xs.length i ys H3)
  (hd:∀ ys H,Pv xs.length ys H->∀ D,H D=none->Q (.ref D) (az H D (.lst ys))) :
  pf (zN K a) g tf te ix σ H Q:=by
 refine ⟨fun i m ys H=>m=xs.length - i/\i<=xs.length/\Pv i ys H,⟨xs.length,by simp,Cp _,h0⟩,?_⟩
 rintro i m ys H ⟨rfl,hi,p⟩
 obtain ⟨q,hz⟩:=hl i ys H hi p
 by_cases hlt:i < xs.length
 ·refine .inr ⟨⟨xs,xs[i],q,by simp [hlt]⟩,hz,fun x H' y=>?_⟩
  obtain ⟨e,y⟩:=y
  subst e
  exact hs i x ys _ (y xs q) p
 ·have e:i=xs.length:=by omega
  subst e
  exact .inl ⟨⟨xs,q,BG _⟩,hz,hd ys H p⟩
theorem ph {lo:Int} {n:Nat} {g:TG} {tf:TT} {te:TE} {ix:List (Option Nat)} {σ:St} {H:Hp} {Q:VK} (Pv:Nat->List V->Hp->Prop) (h0:Pv 0 [] H)
  (hl:∀ i ys H,i<=n->Pv i ys H->ys.length<=sizeLine)
  (hs:∀ i ys H,i < n->Pv i ys H->g (.int (lo+i)) (lA ix σ) H fun σ2 H2=>ExtL (lA ix σ) σ2/\tf σ2 H2 fun b H3=>if b=true then te σ2 H3 fun y H4=>Nx Pv n i (ys++[y]) H4 else Nx Pv n i ys H3)
  (hd:∀ ys H,Pv n ys H->∀ D,H D=none->Q (.ref D) (az H D (.lst ys))) :
  pf (vc lo n) g tf te ix σ H Q:=by
 refine ⟨fun i m ys H=>m=n - i/\i<=n/\Pv i ys H,⟨n,by simp,Cp _,h0⟩,?_⟩
 rintro i m ys H ⟨rfl,hi,p⟩
 have hz:=hl i ys H hi p
 by_cases hlt:i < n
 ·refine .inr ⟨hlt,hz,fun x H' y=>?_⟩
  obtain ⟨e,y⟩:=y
  subst e y
  exact hs i ys _ hlt p
 ·have e:i=n:=by omega
  subst e
  exact .inl ⟨BG _,hz,hd ys H p⟩
theorem dh {σ:St} {H:Hp} {A B:Hp->Prop} (h:A H):xS σ H fun b H3=>if b=true then A H3 else B H3:=by
 show if true=true then A H else B H
 rw [if_pos rfl]
 exact h
end L2
namespace L2
open PySem PySem.Spec PyProof.Rows
def pi (w:World) (p:Str×V) (e:DictEntry):Prop:=e.hash=hashStr w p.1/\(∃ t,e.key=.str p.1 t)/\RelV p.2 e.val
def gP (w:World) (K:PySem.W.Frag) (a:Addr) (kvs:List (Str×V)):Prop:=
 ∃ (es:Array DictEntry) (ep:Nat),K.lookup a=some { cls:=.type "dict",data:=.dict es ep }/\Paired (pi w) kvs es.toList
theorem kr {P:Program} {w:World}:∀ {kvs:List (Str×V)} {es:List DictEntry},Paired (pi w) kvs es->∀ e∈es,∃ k,(strKind P w).is k e.key=true/\e.hash=(strKind P w).hash k
 | _,_,.nil,_,h=>nomatch h
 | (x,y)::r,e::es,.cons h t,e',he=>by
  rcases BH.mp he with z|z
  ·subst z
   obtain ⟨h1,⟨tk,h2⟩,h3⟩:=h
   refine ⟨x,?_,h1⟩
   rw [h2]
   show Value.isStrOf x (.str x tk)=true
   simp [Value.isStrOf]
  ·exact kr t e' z
mutual
inductive Dt (K:PySem.W.Frag) (H:Hp):V->PyData->Prop
 | non:Dt K H .non .none
 | bl (b:Bool):Dt K H (.bl b) (.bool b)
 | int (i:Int):Dt K H (.int i) (.int i)
 | str (x:Str):Dt K H (.str x) (.str x)
 | lst {a:Addr} {xs:List V} {ds:List PyData}:SqL K H a xs->DtAll K H xs ds->Dt K H (.ref a) (.list ds)
 | tup {a:Addr} {xs:List V} {ds:List PyData}:SqT K H a xs->DtAll K H xs ds->Dt K H (.ref a) (.tuple ds)
inductive DtAll (K:PySem.W.Frag) (H:Hp):List V->List PyData->Prop
 | nil:DtAll K H [] []
 | cons {v:V} {d:PyData} {vs:List V} {ds:List PyData}:Dt K H v d->DtAll K H vs ds->DtAll K H (v::vs) (d::ds)
end
section
variable {X:Cx} {pins:List (Addr×Obj)} {σ:St} {H:Hp} {s:Shared}
mutual
theorem Dt.reads (I:Inv X pins σ H s):∀ {v:V} {d:PyData} {u:Value},Dt X.K H v d->RelV v u->∃ as,Reads s.heap u d as
 | _,_,_,.non,r=>by cases r;exact ⟨_,.none⟩
 | _,_,_,.bl b,r=>by cases r;exact ⟨_,.bool b⟩
 | _,_,_,.int i,r=>by obtain ⟨t,rfl⟩:=r;exact ⟨_,.int i t⟩
 | _,_,_,.str x,r=>by obtain ⟨t,rfl⟩:=r;exact ⟨_,.str x t⟩
 | _,_,_,.lst hS hA,r=>by
  cases r
  obtain ⟨its,rv,⟨o,n,e,c,dd,hd⟩,hz⟩:=I.list hS
  obtain ⟨as,ha⟩:=DtAll.reads I hA rv
  first
   | exact ⟨_,.list e c hd (by simpa using ha)⟩
   | exact ⟨_,.list e c dd (by simpa using ha)⟩
 | _,_,_,.tup hS hA,r=>by
  cases r
  obtain ⟨its,rv,⟨o,e,c,n,hd⟩,hz⟩:=I.tuple hS
  obtain ⟨as,ha⟩:=DtAll.reads I hA rv
  exact ⟨_,.tuple e c hd (by simpa using ha)⟩
theorem DtAll.reads (I:Inv X pins σ H s):∀ {vs:List V} {ds:List PyData} {us:List Value},DtAll X.K H vs ds->Vals vs us->∃ as,ReadsAll s.heap us ds as
 | _,_,_,.nil,.nil=>⟨_,.nil⟩
 | _,_,_,.cons h t,.cons r rr=>by
  obtain ⟨a1,h1⟩:=Dt.reads I h r
  obtain ⟨a2,h2⟩:=DtAll.reads I t rr
  exact ⟨_,.cons h1 h2⟩
end
end
section
variable {X:Cx}
inductive rEqD (K:PySem.W.Frag) (x:V) (y:V) (H:Hp) (Q:VK):Prop
 | mk (dx dy:_):Dt K H x dx->Dt K H y dy->dx.canLay0=true->dy.canLay0=true->min dx.depth dy.depth<=60->Q (.bl (PyData.eqv dx dy)) H->rEqD K x y H Q
inductive rNeD (K:PySem.W.Frag) (x:V) (y:V) (H:Hp) (Q:VK):Prop
 | mk (dx dy:_):Dt K H x dx->Dt K H y dy->dx.canLay0=true->dy.canLay0=true->min dx.depth dy.depth<=60->Q (.bl (!PyData.eqv dx dy)) H->rNeD K x y H Q
theorem op_eqD {k:Nat} (hr:Room k X.A):eC X (compareOp .Eq) (rEqD X.K):=by
 intro pins s σ H x y v u Q I rx ry h
 obtain ⟨dx,dy,h1,h2,c1,c2,dp,q⟩:=h
 obtain ⟨as,ra⟩:=h1.reads I rx
 obtain ⟨bs,rb⟩:=h2.reads I ry
 exact SeqAt.compareEq_reads ra rb c1 c2 (by have:=hr.un;omega) ⟨.bl _,H,I,rfl,q⟩
theorem op_neD {k:Nat} (hr:Room k X.A):eC X (compareOp .NotEq) (rNeD X.K):=by
 intro pins s σ H x y v u Q I rx ry h
 obtain ⟨dx,dy,h1,h2,c1,c2,dp,q⟩:=h
 obtain ⟨as,ra⟩:=h1.reads I rx
 obtain ⟨bs,rb⟩:=h2.reads I ry
 exact SeqAt.compareNe_reads ra rb c1 c2 (by have:=hr.un;omega) ⟨.bl _,H,I,rfl,q⟩
end
end L2
namespace L2
open PySem PySem.Spec PyProof.Rows
end L2
namespace L2
open PySem PySem.Spec PyProof.Rows
section
variable {X:Cx}
theorem dY {x:Str} {n:String} {pos:Pos} (hg:Gl X x) (hm:X.mg x=none) (hv:bootBuiltins x=some (.type n)) (hn:x≠"__name__":=by decide) (hd:(x == ("__debug__":Str))=false:=by decide):PE X (.Name x pos) (tC (.ty n)):=
 rE hg hm hv rfl hn hd
theorem iY {P:Program} {w:World}:∀ {kvs:List (Str×V)} {es:List DictEntry},Paired (pi w) kvs es->∃ vs:List (Str×Value),Pairs (strKind P w) es vs/\vs.map (·.1)=kvs.map (·.1)
 | _,_,.nil=>⟨[],.nil,rfl⟩
 | (x,y)::r,e::es,.cons h t=>by
  obtain ⟨vs,p,q⟩:=iY (P:=P) t
  obtain ⟨h1,⟨tk,h2⟩,h3⟩:=h
  refine ⟨(x,e.val)::vs,.cons ?_ rfl p,by rw [BR,BR,q]⟩
  rw [h2]
  show Value.isStrOf x (.str x tk)=true
  simp [Value.isStrOf]
theorem iZ {P:Program} {w:World}:∀ {ks:List Str} {us:List Value},us.length=ks.length->(∀ (j:Nat) k u,ks[j]?=some k->us[j]?=some u->(strKind P w).is k u=true)->Vals (ks.map V.str) us
 | [],[],_,_=>.nil
 | k::ks,[],h,_=>by cases h
 | [],u::us,h,_=>by cases h
 | k::ks,u::us,h,hv=>by
  refine .cons ?_ (iZ (P:=P) (w:=w) (by simpa using h) fun j k' u' a b=>hv (j+1) k' u' (by simpa using a) (by simpa using b))
  obtain ⟨t,e⟩:=Value.isStrOf_shape (hv 0 k u rfl rfl)
  exact ⟨t,e⟩
theorem iF (hc:X.calm=true):cA X (.type "list") (fun xs H Q=>∃ a kvs,xs=[.ref a]/\gP X.w X.K a kvs/\(kvs.map (·.1)).Nodup/\(a == sysModules)=false/\kvs.length<=1000/\∀ p,H p=none->Q (.ref p) (az H p (.lst (kvs.map fun kv=>V.str kv.1)))):=by
 intro pins s σ H xs us Q I r h
 obtain ⟨a,kvs,rfl,⟨es,ep,hk,hp⟩,nd,lo,hz,q⟩:=h
 cases r with
 | cons r0 rr=>
  cases rr
  cases r0
  have ho:=I.kIn a _ hk
  obtain ⟨vs,pv,ek⟩:=iY (P:=X.prog) hp
  have hat:s.heap.DictAt (strKind X.prog X.w) a vs ep:=⟨_,es,ho,⟨rfl,rfl,rfl⟩,rfl,fun e he'=>kr hp e (by simpa using he'),pv,by rw [ek];exact nd⟩
  have hl:vs.length=kvs.length:=by
   have:=congrArg List.length ek
   simpa using this
  have sz:(1000:Nat)<=sizeLine:=by decide
  refine PySem.W.kdl_call (PySem.W.kdl_dict (knd:=strKind X.prog X.w) (kvs:=vs) (ep:=ep) lo) (I.ok.hd hc) hat (by omega) fun h' tk acc' c' hkeep hD hacc=>?_
  have hv:Vals ((kvs.map (·.1)).map V.str) acc'.toList:=by
   refine iZ (P:=X.prog) (w:=X.w) (by rw [CI,hacc.1,BE,hl]) fun j k u e1 e2=>?_
   obtain ⟨k',x',e3,e4⟩:=hacc.2 j u (by rw [<-Array.getElem?_toList];exact e2)
   rw [<-ek,Cw,e3] at e1
   have:k'=k:=by simpa using e1
   rw [<-this];exact e4
  have e0:kvs.map (fun kv=>V.str kv.1)=(kvs.map (·.1)).map V.str:=by rw [Cl9];rfl
  refine ⟨.ref s.heap.objs.size,az H s.heap.objs.size (.lst (kvs.map fun kv=>V.str kv.1)),I.laid (t':=tk) hkeep (BG _) ?_,rfl,q _ (I.hok.fresh (BG _))⟩
  refine ⟨by rw [BE];omega,acc'.toList,c',by rw [e0];exact hv,?_⟩
  rw [hD]
open PySem.Builtin.Str in
def parts (x y:Str):List Str:=partsBetween x (occurrences x y 0 x.length (x.length+1)) y.length
theorem i7:∀ (l:List (Str×Tok)),Vals ((l.map (·.1)).map V.str) (strValues l)
 | []=>.nil
 | p::r=>.cons ⟨p.2,rfl⟩ (i7 r)
end
end L2
namespace TK
def jn (sep:List Nat):List (List Nat)->List Nat
 | []=>[]
 | [t]=>t
 | t::u::r=>t++(sep++jn sep (u::r))
end TK
namespace L2
open PySem PySem.Spec PyProof.Rows
def S (l:List Nat):Str:=⟨l.toArray⟩
theorem a8 (l:List Nat):(S l).length=l.length:=by show l.toArray.size=_;simp
theorem S_inj {a b:List Nat}:S a=S b↔a=b:=⟨fun h=>by
 have:(S a).cps.toList=(S b).cps.toList:=by rw [h]
 simpa [S] using this,fun h=>by rw [h]⟩
def dI (l:List Nat) (lo hi:Option Int):List Nat:=(l.drop (HT.sIx l.length 0 lo)).take (HT.sIx l.length l.length hi - HT.sIx l.length 0 lo)
theorem rW (n:Nat) (v:Option Int) (d:Nat) (hd:d<=n):HT.sIx n d v<=n:=by
 cases v with
 | none=>exact hd
 | some i=>
  show (if i < 0 then (i+(n:Int)).toNat else min i.toNat n)<=n
  split<;>omega
open PySem.Builtin.Str in
theorem ku (lo hi:Option Int) (n:Nat):strSliceIndices lo hi 1 n=(List.range (HT.sIx n n hi - HT.sIx n 0 lo)).map (HT.sIx n 0 lo+·):=by
 have clip:∀ (v:Option Int) (d:Nat),d<=n->(match v with|none=>(d:Int)|some i=>max 0 (min (if i < 0 then i+(n:Int) else i) n))=((HT.sIx n d v:Nat):Int):=fun v d hd=>by
  cases v with
  | none=>rfl
  | some i=>
   show max 0 (min (if i < 0 then i+(n:Int) else i) (n:Int))=(((if i < 0 then (i+(n:Int)).toNat else min i.toNat n:Nat)):Int)
   by_cases h:i < 0
   ·rw [if_pos h,if_pos h];omega
   ·rw [if_neg h,if_neg h];omega
 have c1:=clip lo 0 (Cp _)
 have c2:=clip hi n (BG _)
 rw [<-sliceRange_one]
 rw [<-c1,<-c2]
 unfold strSliceIndices
 simp only [show (1:Int) > 0 by decide,if_true]
 cases lo<;>cases hi<;>rfl
theorem g9 (l:List Nat) (a:Nat):∀ k,((List.range k).map (a+·)).filterMap (fun i=>l.toArray[i]?)=(l.drop a).take k
 | 0=>by simp
 | k+1=>by
  rw [List.range_succ,B8,List.filterMap_append,g9 l a k,List.take_add_one]
  congr 1
  rw [List.getElem?_drop]
  cases q:l[a+k]? with
  | none=>simp [Cz,q]
  | some v=>simp [Cz,q]
open PySem.Builtin.Str in
theorem ky (l:List Nat) (lo hi:Option Int):(if ((1:Int) == 1 && (strSliceIndices lo hi 1 (S l).length).length == (S l).length)=true then S l else ⟨((strSliceIndices lo hi 1 (S l).length).filterMap ((S l).cps[·]?)).toArray⟩)=S (dI l lo hi):=by
 rw [a8,ku]
 have e:((List.range (HT.sIx l.length l.length hi - HT.sIx l.length 0 lo)).map (HT.sIx l.length 0 lo+·)).filterMap ((S l).cps[·]?)=dI l lo hi:=g9 l _ _
 rw [e]
 by_cases c:((1:Int) == 1 && ((List.range (HT.sIx l.length l.length hi - HT.sIx l.length 0 lo)).map (HT.sIx l.length 0 lo+·)).length == l.length)=true
 ·rw [if_pos c]
  simp at c
  have h2:=rW l.length hi l.length (BG _)
  have:dI l lo hi=l:=by
   unfold dI
   by_cases z:l.length=0
   ·have:l=[]:=List.length_eq_zero_iff.mp z
    subst this;simp
   ·have h0:HT.sIx l.length 0 lo=0:=by omega
    rw [h0,Cr,Ck (by omega)]
  rw [this]
 ·rw [if_neg c];rfl
section
variable {X:Cx}
theorem gn:zu X (fun x lo hi H Q=>∃ l,x=.str (S l)/\l.length<=100000/\Q (.str (S (dI l lo hi))) H):=by
 intro pins s σ H x v vl vu lo hi sl Q I rx hs pl pu h
 obtain ⟨l,rfl,hz,q⟩:=h
 obtain ⟨t,rfl⟩:=rx
 obtain ⟨os,hos,hcs,hds⟩:=id hs
 have sz:(100000:Nat)<=sizeLine:=by decide
 have lc:(S (dI l lo hi)).length<=sizeLine:=by
  rw [a8]
  unfold dI
  rw [BZ,B2]
  omega
 refine ⟨"str",_,F.slot_str_getitem.lookup,typeIs_str _ _ _,?_⟩
 have fin:∀ (a b:Option (Int×Tok)),a.map (·.1)=lo->b.map (·.1)=hi->s.heap.IsSlice sl a b none->wpAny (model X.prog X.w) X.A (getItem (.str (S l) t) (.ref sl)) (EP X pins σ Q) X.xe s:=fun a b ea eb hS=>by
  refine wpAny_getItem_str_slice hS rfl ?_
  unfold sliceMade slicePicked
  rw [ea,eb]
  refine post_val_or_str ?_
  show (if ((1:Int) == 1 && (Builtin.Str.strSliceIndices lo hi 1 (S l).length).length == (S l).length)=true then S l else ⟨((Builtin.Str.strSliceIndices lo hi 1 (S l).length).filterMap ((S l).cps[·]?)).toArray⟩).length<=sizeLine/\∀ t' k,EP X pins σ Q (.str (if ((1:Int) == 1 && (Builtin.Str.strSliceIndices lo hi 1 (S l).length).length == (S l).length)=true then S l else ⟨((Builtin.Str.strSliceIndices lo hi 1 (S l).length).filterMap ((S l).cps[·]?)).toArray⟩) t') { s with toks:=k }
  rw [ky]
  exact ⟨lc,fun t' k=>⟨.str (S (dI l lo hi)),H,I.tok _,⟨t',rfl⟩,q⟩⟩
 cases pl with
 | none=>
  cases pu with
  | none=>exact fin none none rfl rfl ⟨os,hos,hcs,hds⟩
  | int j u=>exact fin none (some (j,u)) rfl rfl ⟨os,hos,hcs,hds⟩
 | int i u0=>
  cases pu with
  | none=>exact fin (some (i,u0)) none rfl rfl ⟨os,hos,hcs,hds⟩
  | int j u=>exact fin (some (i,u0)) (some (j,u)) rfl rfl ⟨os,hos,hcs,hds⟩
theorem mM (c:Nat) (l:List Nat):(!(Builtin.Str.occurrences (S l) (S [c]) 0 (S l).length 1).isEmpty)=decide (c∈l):=by
 rw [Ce,StrLaws.found_iff,decide_eq_true_iff]
 constructor
 ·rintro ⟨i,hi,e⟩
  rw [a8,a8] at hi
  have hi':i < l.length:=by simp at hi;omega
  unfold Builtin.Str.subAt at e
  have e':l.toArray.extract i (i+1)=#[c]:=eq_of_beq e
  have:(l.drop i).take 1=[c]:=by
   have:=congrArg Array.toList e'
   simpa [List.extract_eq_drop_take] using this
  have hm:c∈(l.drop i).take 1:=by rw [this];simp
  exact List.mem_of_mem_drop (List.mem_of_mem_take hm)
 ·intro h
  obtain ⟨i,hi,e⟩:=List.getElem_of_mem h
  refine ⟨i,by rw [a8,a8];simp;omega,?_⟩
  unfold Builtin.Str.subAt
  have:l.toArray.extract i (i+1)=#[c]:=by
   apply Array.toList_inj.mp
   rw [Array.toList_extract]
   simp [List.extract_eq_drop_take,List.drop_eq_getElem_cons hi,e]
  show (l.toArray.extract i (i+1) == #[c])=true
  rw [this];exact beq_self_eq_true _
theorem dJ:∀ {ys:List Str} {us:List Value},Vals (ys.map V.str) us->StrsAre us ys
 | [],_,.nil=>.nil
 | n::r,_,.cons h t=>by
  obtain ⟨tk,rfl⟩:=h
  exact .cons n tk (dJ t)
theorem kz (sep:List Nat) (ts:List (List Nat)):Txt.join (S sep) (ts.map S)=S (TK.jn sep ts):=by
 have go:∀ (r:List (List Nat)) (acc:List Nat),(r.map S).foldl (fun acc p=>acc++(S sep).cps++p.cps) acc.toArray=(acc++(r.map (sep++·)).flatten).toArray:=by
  intro r
  induction r with
  | nil=>intro acc;simp
  | cons t r ih=>
   intro acc
   rw [BR,List.foldl_cons]
   have:acc.toArray++(S sep).cps++(S t).cps=(acc++sep++t).toArray:=by simp [S]
   rw [this,ih]
   simp
 have fl:∀ (t:List Nat) (r:List (List Nat)),TK.jn sep (t::r)=t++(r.map (sep++·)).flatten:=by
  intro t r
  induction r generalizing t with
  | nil=>simp [TK.jn]
  | cons u r ih=>
   show t++(sep++TK.jn sep (u::r))=_
   rw [ih u]
   simp
 cases ts with
 | nil=>rfl
 | cons t r=>
  show (⟨((t::r).map S |>.drop 1).foldl (fun acc p=>acc++(S sep).cps++p.cps) (((t::r).map S).headD Str.empty).cps⟩:Str)=_
  rw [fl]
  have:=go r t
  show (⟨(r.map S).foldl (fun acc p=>acc++(S sep).cps++p.cps) t.toArray⟩:Str)=_
  rw [this]
  rfl
theorem dL:rQ X "str.join" (fun x xs H Q=>∃ sep a ts,x=.str (S sep)/\xs=[.ref a]/\SqL X.K H a (ts.map fun t=>V.str (S t))/\(ts.map List.length).sum+ts.length*sep.length<=100000/\Q (.str (S (TK.jn sep ts))) H):=by
 intro pins s σ H x xs v us Q I rx rv h
 obtain ⟨sep,a,ts,rfl,rfl,hS,hz,q⟩:=h
 obtain ⟨t,rfl⟩:=rx
 obtain ⟨u,rfl,ru⟩:=rv.one
 cases ru
 obtain ⟨its,r,pl,hz2⟩:=I.list hS
 have e:(ts.map fun t=>V.str (S t))=(ts.map S).map V.str:=by rw [Cl9];rfl
 rw [e] at r
 refine join_list pl.isList (ys:=ts.map S) (by simpa using dJ r) ?_ fun t' k=>?_
 ·have:((ts.map S).map (·.length)).sum=(ts.map List.length).sum:=by
   rw [Cl9]
   congr 1
  rw [this,BE,a8]
  omega
 ·rw [kz]
  exact ⟨.str (S (TK.jn sep ts)),H,I.tok _,⟨t',rfl⟩,q⟩
end
end L2
namespace L2
open PySem PySem.Spec PyProof.Rows
section
variable {X:Cx}
open PySem.Builtin.Str in
theorem dv:rQ X "str.split" (fun x xs H Q=>∃ a b,x=.str a/\xs=[.str b]/\(b.length == 0)=false/\a.length<=100000/\∀ p,H p=none->Q (.ref p) (az H p (.lst ((Txt.split a b).map V.str)))):=by
 intro pins s σ H x xs v us Q I rx rv h
 obtain ⟨a,b,rfl,rfl,h0,h3,q⟩:=h
 obtain ⟨t,rfl⟩:=rx
 obtain ⟨u,rfl,ru⟩:=rv.one
 obtain ⟨t2,rfl⟩:=ru
 have sz:(100002:Nat)<=sizeLine:=by decide
 have hp:(partsBetween a (occurrences a b 0 a.length (a.length+1)) b.length).length<=100002:=by
  rw [PySem.length_partsBetween]
  have:=StrLaws.occ_length_le a b 0 a.length (a.length+1)
  omega
 cases h1:(decide (a.length < b.length) || decide (Builtin.Str.strKind a < Builtin.Str.strKind b))
 ·cases hf:(occurrences a b 0 a.length (a.length+1)).isEmpty
  ·have e1:Txt.split a b=parts a b:=by
    unfold Txt.split
    rw [h1,hf]
    rfl
   refine call_meets F.slot_str_split (typeIs_str _ _ _) F.entry_str_split (F.args_str_split_2 _ _) (meets_str_split_sep a b t t2 h1 h0 hf (by omega) (by omega)) ?_
   show PySem.wants _ _ _ { s with toks:=_,heap:=s.heap.push { cls:=.type "list",data:=.seq (strsFrom s.toks (parts a b)).toArray } }
   rw [strsFrom_eq]
   have e:=numbered_texts s.toks (parts a b)
   have v0:=i7 (numbered s.toks (parts a b))
   rw [e] at v0
   rw [e1] at q
   refine ⟨.ref s.heap.objs.size,_,I.lnew (ys:=(parts a b).map V.str) v0 (by rw [BE];unfold parts;omega),rfl,q _ (I.hok.fresh (BG _))⟩
  ·have e1:Txt.split a b=[a]:=by
    unfold Txt.split
    rw [h1,hf]
    rfl
   rw [e1] at q
   refine call_meets F.slot_str_split (typeIs_str _ _ _) F.entry_str_split (F.args_str_split_2 _ _) (meets_str_split_not_found a b t t2 h1 h0 hf) ?_
   exact ⟨.ref s.heap.objs.size,_,I.lnew (ys:=[V.str a]) (its:=[.str a t]) (t':=s.toks) (.cons ⟨t,rfl⟩ .nil) (by show 1<=sizeLine;decide),rfl,q _ (I.hok.fresh (BG _))⟩
 ·have e1:Txt.split a b=[a]:=by
   unfold Txt.split
   rw [h1]
   rfl
  rw [e1] at q
  refine call_meets F.slot_str_split (typeIs_str _ _ _) F.entry_str_split (F.args_str_split_2 _ _) (meets_str_split_cannot_occur a b t t2 h1) ?_
  exact ⟨.ref s.heap.objs.size,_,I.lnew (ys:=[V.str a]) (its:=[.str a t]) (t':=s.toks) (.cons ⟨t,rfl⟩ .nil) (by show 1<=sizeLine;decide),rfl,q _ (I.hok.fresh (BG _))⟩
variable {o e:Expr} {es:List Expr} {to te:TE} {t:TA} {name:Str} {apos cpos:Pos} {T id:String} {r:V->List V->Hp->VK->Prop}
end
theorem i8 (c:Nat):∀ parts:List Str,(parts.map Str.length).sum<=(Str.join ⟨#[c]⟩ parts).length
 | []=>BG _
 | [p]=>by simp [Str.join]
 | p::q::r=>by
  have ih:=i8 c (q::r)
  have:(Str.join ⟨#[c]⟩ (p::q::r)).length=p.length+1+(Str.join ⟨#[c]⟩ (q::r)).length:=by
   show (p++⟨#[c]⟩++Str.join ⟨#[c]⟩ (q::r)).cps.size=_
   simp only [Str.cps_append,Array.size_append]
   rfl
  rw [this,BR,CM]
  omega
end L2
namespace L2
open PySem PySem.Spec PyProof.Rows
section
variable {X:Cx}
theorem cS {T:String}:cA X (.builtin "isinstance") (fun xs H Q=>∃ x t b,xs=[x,.ty T]/\ft X.K H x t/\PySem.W.kitOne X.K t (.type T)=some b/\Q (.bl b) H):=by
 intro pins s σ H xs us Q I r h
 obtain ⟨x,t,b,rfl,ty,e,q⟩:=h
 cases r with
 | cons r0 rr=>
  cases rr with
  | cons r1 rr=>
   cases rr
   cases r1
   exact iP I r0 ty e fun tk=>⟨.bl b,H,I.tok _,rfl,q⟩
theorem pj:eC X (binaryOp .FloorDiv) (rI (fun _ j=>0 < j/\j < 18446744073709551616) fun i j=>.int (i / j)):=xG fun i j _ _ _ _ _ hc q=>by
 have h1:(0:Int) < j:=hc.1
 have h2:j < 18446744073709551616:=hc.2
 refine floordiv_int (by omega) (by rw [Int.fdiv_eq_ediv_of_nonneg i (by omega)];exact q) (.inl (PyProof.noPylong_of_log2 ?_))
 have h3:j.natAbs≠0:=by omega
 have:j.natAbs.log2 < 64:=(Nat.log2_lt h3).mpr (by show j.natAbs < 2 ^ 64;omega)
 omega
def zx (l:List Nat):It:=⟨fun i _=>i < l.length,fun i H y H'=>H'=H/\∃ h:i < l.length,y=.str (S [l[i]]),fun i _=>l.length<=i⟩
theorem lP {P:Program} {w:World} {K:PySem.W.Frag} {tg:Expr} (l:List Nat) (t:Tok) (it:Addr):nS P w K tg (zx l) [it] it (fun i h=>h.IsStrIter it "str_ascii_iterator" (S l) t i) where
 mem:=by simp
 obj:=fun i h st b hb=>by
  have e:b=it:=by simpa using hb
  subst e
  obtain ⟨o,e,c,d⟩:=st
  exact ⟨o,e,fun v z=>by rw [d] at z;cases z⟩
 keep:=fun i h h' st k=>let ⟨o,ho,r⟩:=st;⟨o,k it (by simp) o ho,r⟩
 item:=by
  intro X hP hw hK hc i pins s σ H E I hf st hg
  subst hP hw hK
  have hg':i < l.length:=hg
  obtain ⟨f0,f1,f2,f3,f4,f5⟩:=hf it (by simp)
  refine wpAny_pyNext_ascii_item st (c:=l[i]) (by show l.toArray[i]?=_;simp [hg']) fun h' st' sb=>?_
  have I1:Inv X pins σ H { s with heap:=h',toks:=s.toks+1 }:=I.turned (fun b o hb e=>(sb.2 b hb).trans e) f0 f1 f3 f4 f5
  obtain ⟨o,e,c,d⟩:=id st'
  exact ⟨_,rfl,kl (s:={ s with heap:=h',toks:=s.toks+1 }) e c d (by decide) ⟨.str (S [l[i]]),H,I1,⟨_,rfl⟩,⟨rfl,hg',rfl⟩,st',fun b hb=>(hf b hb).1⟩⟩
 done:=by
  intro X hP hw hK hc i pins s σ H E I hf st hg
  subst hP hw hK
  have hg':l.length<=i:=hg
  obtain ⟨f0,f1,f2,f3,f4,f5⟩:=hf it (by simp)
  exact wpAny_pyNext_ascii_end (I.ok.hd hc) st (by show l.toArray[i]?=_;simp [hg']) fun h' eb=>⟨rfl,I.turned (t':=s.toks) (fun b o hb e=>eb b o hb e) f0 f1 f3 f4 f5⟩
 self:=fun _ _ _ _ _ st h=>wpAny_pyIter_striter_ascii st h
theorem nZ {P:Program} {w:World} {K:PySem.W.Frag} {tg:Expr} (l:List Nat) (t:Tok) (it:Addr):nS P w K tg (zx l) [it] it (fun i h=>h.IsStrIter it "str_iterator" (S l) t i) where
 mem:=by simp
 obj:=fun i h st b hb=>by
  have e:b=it:=by simpa using hb
  subst e
  obtain ⟨o,e,c,d⟩:=st
  exact ⟨o,e,fun v z=>by rw [d] at z;cases z⟩
 keep:=fun i h h' st k=>let ⟨o,ho,r⟩:=st;⟨o,k it (by simp) o ho,r⟩
 item:=by
  intro X hP hw hK hc i pins s σ H E I hf st hg
  subst hP hw hK
  have hg':i < l.length:=hg
  obtain ⟨f0,f1,f2,f3,f4,f5⟩:=hf it (by simp)
  refine wpAny_pyNext_wide_item st (c:=l[i]) (by show l.toArray[i]?=_;simp [hg']) fun h' st' sb=>?_
  have I1:Inv X pins σ H { s with heap:=h',toks:=s.toks+1 }:=I.turned (fun b o hb e=>(sb.2 b hb).trans e) f0 f1 f3 f4 f5
  obtain ⟨o,e,c,d⟩:=id st'
  exact ⟨_,rfl,kl (s:={ s with heap:=h',toks:=s.toks+1 }) e c d (by decide) ⟨.str (S [l[i]]),H,I1,⟨_,rfl⟩,⟨rfl,hg',rfl⟩,st',fun b hb=>(hf b hb).1⟩⟩
 done:=by
  intro X hP hw hK hc i pins s σ H E I hf st hg
  subst hP hw hK
  have hg':l.length<=i:=hg
  obtain ⟨f0,f1,f2,f3,f4,f5⟩:=hf it (by simp)
  exact wpAny_pyNext_wide_end (I.ok.hd hc) st (by show l.toArray[i]?=_;simp [hg']) fun h' eb=>⟨rfl,I.turned (t':=s.toks) (fun b o hb e=>eb b o hb e) f0 f1 f3 f4 f5⟩
 self:=fun _ _ _ _ _ st h=>wpAny_pyIter_striter_wide st h
inductive uH (R:It->Hp->Prop) (x:V) (H1:Hp):Prop
 | mk (l:_):x=.str (S l)->R (zx l) H1->uH R x H1
def z3 (tl:TE):TI:=fun σ H R=>tl σ H fun x H1=>uH R x H1
theorem pk {tg l:Expr} {tl:TE} (hl:PE X l tl):PI X tg l (z3 tl):=by
 refine ⟨?_⟩
 intro pins s σ H R I h
 refine bA (hl pins s σ H _ I h) fun v s1 ⟨x,H1,I1,r1,q1⟩=>?_
 obtain ⟨l,e,q⟩:=q1
 subst e
 obtain ⟨t,rfl⟩:=r1
 have fp:∀ b∈[s1.heap.objs.size],jr X pins H1 b:=fun b hb=>by
  have e:b=s1.heap.objs.size:=by simpa using hb
  subst e
  exact I1.fpOk (BG _) (I1.hok.fresh (BG _))
 cases ha:(S l).cps.all (· < 128)
 ·exact wpAny_pyIter_wide ha ⟨s1.heap.objs.size,[s1.heap.objs.size],_,_,H1,rfl,I1.kept (t':=s1.toks) fun b o e=>BB _ e,nZ l t _,⟨_,BU _ rfl,rfl,rfl⟩,fp,q⟩
 ·exact wpAny_pyIter_ascii ha ⟨s1.heap.objs.size,[s1.heap.objs.size],_,_,H1,rfl,I1.kept (t':=s1.toks) fun b o e=>BB _ e,lP l t _,⟨_,BU _ rfl,rfl,rfl⟩,fp,q⟩
theorem pq {l:List Nat} {g:TG} {tf:TT} {te:TE} {ix:List (Option Nat)} {σ:St} {H:Hp} {Q:VK} (Pv:Nat->List V->Hp->Prop) (h0:Pv 0 [] H)
  (hl:∀ i ys H,i<=l.length->Pv i ys H->ys.length<=sizeLine)
  (hs:∀ i ys H (h:i < l.length),Pv i ys H->g (.str (S [l[i]])) (lA ix σ) H fun σ2 H2=>ExtL (lA ix σ) σ2/\tf σ2 H2 fun b H3=>if b=true then te σ2 H3 fun y H4=>Nx Pv l.length i (ys++[y]) H4 else Nx Pv l.length i ys H3)
  (hd:∀ ys H,Pv l.length ys H->∀ D,H D=none->Q (.ref D) (az H D (.lst ys))) :
  pf (zx l) g tf te ix σ H Q:=by
 refine ⟨fun i m ys H=>m=l.length - i/\i<=l.length/\Pv i ys H,⟨l.length,by simp,Cp _,h0⟩,?_⟩
 rintro i m ys H ⟨rfl,hi,p⟩
 have hz:=hl i ys H hi p
 by_cases hlt:i < l.length
 ·refine .inr ⟨hlt,hz,fun x H' y=>?_⟩
  obtain ⟨e,h,y⟩:=y
  subst e y
  exact hs i ys _ hlt p
 ·have e:i=l.length:=by omega
  subst e
  exact .inl ⟨BG _,hz,hd ys H p⟩
theorem hE (hc:X.calm=true):cA X (.builtin "all") (fun xs H Q=>∃ (p:Addr) (bs:List Bool),xs=[.ref p]/\SqL X.K H p (bs.map V.bl)/\Q (.bl (bs.all id)) H):=by
 intro pins s σ H xs us Q I r h
 obtain ⟨p,bs,rfl,hS,q⟩:=h
 obtain ⟨u,rfl,rx⟩:=fP r
 cases rx
 obtain ⟨its,rv,pl,hz⟩:=I.list hS
 have hlen:=rv.length
 rw [BE] at hlen
 have hne:p≠s.heap.objs.size:=by
  obtain ⟨o,ho,_⟩:=pl.isList
  exact BX (BI ho)
 refine call_all_walk (wpAny_pyIter_list pl.isList ?_)
 refine ⟨s.heap.objs.size,_,_,_,_,_,fun i=>bs.getD i true,rfl,Walks.list (A:=X.A.in1) (I.ok.hd hc) s.heap.objs.size p hne its.toArray,⟨⟨_,BU _ rfl,rfl,rfl⟩,pl.isList.at fun o e=>BB _ e⟩,?_,?_⟩
 ·intro i v s' Q' E' hv hq
  have hv':its[i]?=some v:=by simpa using hv
  have hlt:i < its.length:=(BM.mp hv').1
  have hb:i < bs.length:=by omega
  obtain ⟨u,hu,ru⟩:=rv.get (i:=i) (x:=.bl bs[i]) (by simp [hb])
  rw [hv'] at hu
  cases hu
  cases ru
  refine wpAny_truthy_bool ?_
  have e:bs.getD i true=bs[i]:=by simp [List.getD,hb]
  dsimp only at hq
  rw [e] at hq
  exact hq
 ·intro h' tk hk
  have e:(List.range its.toArray.size).all (fun i=>bs.getD i true)=bs.all id:=by
   rw [BO,<-hlen,Ce,Cd,Cd]
   constructor
   ·intro z x hx
    obtain ⟨i,hi,e⟩:=List.getElem_of_mem hx
    have:=z i (CH.mpr hi)
    rw [show bs.getD i true=bs[i] by simp [List.getD,hi],e] at this
    exact this
   ·intro z i hi
    have hi':=CH.mp hi
    rw [show bs.getD i true=bs[i] by simp [List.getD,hi']]
    exact z _ (List.getElem_mem hi')
  rw [e]
  exact ⟨.bl _,H,I.kept fun b o e=>hk b o (fun z=>absurd (BI e) (by rw [Ch.mp z];exact Ci _)) (BB _ e),rfl,q⟩
end
end L2
namespace L2
open PySem PySem.Spec PyProof.Rows
section
variable {κ:Type} [DecidableEq κ]
def dM (kvs:List (κ×V)) (k:κ):Option V:=(kvs.find? fun kv=>decide (kv.1=k)).map (·.2)
def kA (kvs:List (κ×V)) (k:κ) (v:V):List (κ×V):=
 if (kvs.any fun kv=>decide (kv.1=k))=true then kvs.map (fun kv=>if kv.1=k then (kv.1,v) else kv) else kvs++[(k,v)]
theorem kB {p:κ×V} {r:List (κ×V)} {k:κ} (e:p.1=k):dM (p::r) k=some p.2:=by simp [dM,CD,e]
theorem kC {p:κ×V} {r:List (κ×V)} {k:κ} (e:¬ p.1=k):dM (p::r) k=dM r k:=by simp [dM,CD,e]
theorem kD (kvs:List (κ×V)) (k:κ) (v:V):(kA kvs k v).length<=kvs.length+1:=by
 unfold kA
 split
 ·rw [BE];omega
 ·rw [By,Bx,Bz];omega
theorem RelO.getD {o:Option V} {u:Option Value} {d:V} {d':Value} (r:RelO o u) (rd:RelV d d'):RelV (o.getD d) (u.getD d'):=by
 cases o with
 | none=>cases u with
  | none=>exact rd
  | some _=>exact (show False from r).elim
 | some _=>cases u with
  | none=>exact (show False from r).elim
  | some _=>exact r
theorem KV.val {kvs:List (κ×V)} {vs:List (κ×Value)} (r:KV kvs vs) (k:κ):RelO (dM kvs k) (valueAt vs k):=by
 unfold KV at r
 induction r with
 | nil=>exact True.intro
 | @cons p q ps qs h t ih=>
  obtain ⟨h1,h2⟩:=h
  by_cases e:p.1=k
  ·have e':q.1=k:=h1.symm.trans e
   have b:valueAt (q::qs) k=some q.2:=by simp [valueAt,CD,e']
   rw [kB e,b];exact h2
  ·have e':¬ q.1=k:=fun z=>e (h1.trans z)
   have b:valueAt (q::qs) k=valueAt qs k:=by simp [valueAt,CD,e']
   rw [kC e,b];exact ih
theorem KV.any {kvs:List (κ×V)} {vs:List (κ×Value)} (r:KV kvs vs) (k:κ):(kvs.any fun kv=>decide (kv.1=k))=vs.any fun kv=>decide (kv.1=k):=by
 unfold KV at r
 induction r with
 | nil=>rfl
 | cons h t ih=>rw [CQ,CQ,ih,h.1]
theorem KV.repl {kvs:List (κ×V)} {vs:List (κ×Value)} (r:KV kvs vs) (k:κ) {y:V} {u:Value} (ry:RelV y u) :
  KV (kvs.map fun kv=>if kv.1=k then (kv.1,y) else kv) (vs.map fun kv=>if kv.1=k then (kv.1,u) else kv):=by
 unfold KV at r ⊢
 induction r with
 | nil=>exact .nil
 | @cons p q ps qs h t ih=>
  rw [BR,BR]
  refine .cons ?_ ih
  obtain ⟨h1,h2⟩:=h
  by_cases e:p.1=k
  ·rw [if_pos e,if_pos (h1.symm.trans e)];exact ⟨h1,ry⟩
  ·rw [if_neg e,if_neg (fun z=>e (h1.trans z))];exact ⟨h1,h2⟩
theorem KV.put {kvs:List (κ×V)} {vs:List (κ×Value)} (r:KV kvs vs) (k:κ) {y:V} {u:Value} (ry:RelV y u):KV (kA kvs k y) (stored vs k u):=by
 unfold kA stored
 rw [r.any k]
 by_cases e:(vs.any fun kv=>decide (kv.1=k))=true
 ·rw [if_pos e,if_pos e];exact r.repl k ry
 ·rw [if_neg e,if_neg e];exact Paired.snoc r ⟨rfl,ry⟩
end
theorem mN {P:Program} {w:World} {k:cY} {u:Value} (r:RelV (kV k) u):(bz P w).is k u=true:=by
 cases k with
 | inl i=>obtain ⟨t,e⟩:=(show ∃ t,u=Value.int i t from r);subst e;exact kh P w i t
 | inr x=>obtain ⟨t,e⟩:=(show ∃ t,u=Value.str x t from r);subst e;exact ki P w x t
theorem i9 {P:Program} {w:World}:∀ {ks:List cY} {us:List Value},Vals (ks.map kV) us->ItemsAre (bz P w) ks us
 | [],_,r=>by rw [List.map_nil] at r;cases r;exact .nil
 | k::ks,_,r=>by
  rw [BR] at r
  cases r with
  | cons h t=>exact .cons (mN h) (i9 t)
abbrev KT (H:Hp):List (List cY×V)->List (List cY×Addr×Value)->Prop:=Paired fun p q=>p.1=q.1/\H q.2.1=some (.tup (p.1.map kV))/\RelV p.2 q.2.2
theorem KT.val {H:Hp} {kvs:List (List cY×V)} {xs:List (List cY×Addr×Value)} (r:KT H kvs xs) (k:List cY):RelO (dM kvs k) ((atKey xs k).map (·.2)):=by
 induction r with
 | nil=>exact True.intro
 | @cons p q ps qs h t ih=>
  obtain ⟨h1,_,h2⟩:=h
  by_cases e:p.1=k
  ·have e':q.1=k:=h1.symm.trans e
   have b:atKey (q::qs) k=some q.2:=by simp [atKey,CD,e']
   rw [kB e,b];exact h2
  ·have e':¬ q.1=k:=fun z=>e (h1.trans z)
   have b:atKey (q::qs) k=atKey qs k:=by simp [atKey,CD,e']
   rw [kC e,b];exact ih
section
variable {P:Program} {w:World} {H:Hp} {h:Heap} {a:Addr}
theorem uI {u:HO} (ok:HOk P w H h) (e:Rd H a u):ObjOk P w H h a u:=e.ok ok
theorem kE {kvs:List (cY×V)} (ok:HOk P w H h) (e:Rd H a (.dK kvs)):kvs.length<=sizeLine/\(a == sysModules)=false/\∃ vs,KV kvs vs/\h.DictOf (bz P w) a vs:=
 show ObjOk P w H h a (.dK kvs) from uI ok e
theorem xT {kvs:List (cY×V)} (ok:HOk P w H h) (e:H a=some (.dK kvs)):kvs.length<=sizeLine/\(a == sysModules)=false/\∃ vs,KV kvs vs/\h.DictOf (bz P w) a vs:=kE ok (.inl e)
theorem lQ {ks:List cY} (ok:HOk P w H h) (e:H a=some (.tup (ks.map kV))):(tupleKind (bz P w)).is h ks a:=by
 obtain ⟨_,its,r,o,h1,h2,n,h3⟩:=(show ObjOk P w H h a (.tup (ks.map kV)) from ok a _ e)
 exact ⟨o,its.toArray,n,h1,(Prod.mk.inj h2).1,h3,by simpa using i9 r⟩
theorem mO {kvs:List (List cY×V)} (ok:HOk P w H h) (e:Rd H a (.dT kvs)):kvs.length<=sizeLine/\(a == sysModules)=false /\
  ∃ xs,KT H kvs xs/\h.DictOfH (tupleKind (bz P w)) a xs:=by
 obtain ⟨z,y,xs,r,o,es,ep,h1,h2,h3,h4,h5⟩:=(show ObjOk P w H h a (.dT kvs) from uI ok e)
 refine ⟨z,y,xs,r,o,es,ep,h1,h2,h3,h4,fun x hx=>?_,h5⟩
 have all:∀ {l:List (List cY×V)} {m:List (List cY×Addr×Value)},KT H l m->∀ x∈m,(tupleKind (bz P w)).is h x.1 x.2.1:=by
  intro l m q
  induction q with
  | nil=>intro x hx;exact nomatch hx
  | @cons p q ps qs hq t ih=>
   intro x hx
   rcases BH.mp hx with e|hx
   ·subst e
    exact lQ ok (by rw [<-hq.1];exact hq.2.1)
   ·exact ih x hx
 exact all r x hx
end
def DGet (H:Hp) (a:Addr) (y:V) (r:Option V):Prop:=
 (∃ kvs k,Rd H a (.dK kvs)/\y=kV k/\r=dM kvs k)\/∃ kvs k b,Rd H a (.dT kvs)/\y=.ref b/\H b=some (.tup (k.map kV))/\r=dM kvs k
theorem DGet.k {H:Hp} {a:Addr} {kvs:List (cY×V)} {k:cY} (e:H a=some (.dK kvs)):DGet H a (kV k) (dM kvs k):=.inl ⟨kvs,k,.inl e,rfl,rfl⟩
section
variable {X:Cx} {pins:List (Addr×Obj)} {σ:St} {H:Hp} {s:Shared} {a:Addr} {y v:V} {u r:Value} {o:Option V} {A:Around} {E:Value->Shared->Prop}
theorem Inv.big (I:Inv X pins σ H s):sysModules < s.heap.objs.size:=by
 have h:mainGlobals < s.heap.objs.size:=(I.mod.glob.keeps I.bk).lt
 exact Nat.lt_trans (by decide) h
theorem oa {Q:Value->Shared->Prop} (hu:A.units+1 < cLine) (I:Inv X pins σ H s) (g:DGet H a y (some v)) (ry:RelV y u) (h:∀ w' s',Inv X pins σ H s'->RelV v w'->Q w' s') :
  wpAny (model X.prog X.w) A (getItem (.ref a) u) Q E s:=by
 rcases g with ⟨kvs,k,e,ey,l⟩|⟨kvs,k,b,e,ey,eb,l⟩
 ·subst ey
  obtain ⟨z,hd,vs,rel,dd⟩:=kE I.hok e
  obtain ⟨w',hw,rw'⟩:=RelO.some_of (v:=v) (o:=valueAt vs k) (by rw [l];exact rel.val k)
  exact wpAny_getItem_of (mN ry) dd.mapOf hw (h w' _ (I.tok _) rw')
 ·subst ey
  cases (show u=Value.ref b from ry)
  obtain ⟨z,hd,xs,rel,dd⟩:=mO I.hok e
  obtain ⟨w',hw,rw'⟩:=RelO.some_of (v:=v) (o:=(atKey xs k).map (·.2)) (by rw [l];exact rel.val k)
  obtain ⟨p,hp,hp2⟩:=Option.map_eq_some_iff.mp hw
  refine wpAny_getItem_heap (tupleKind_room_in1 hu) (lQ I.hok eb) dd hp ?_
  rw [hp2]
  exact h w' _ (I.tok _) rw'
theorem rX {h':Heap} {t':Nat} {ob:HO} (I:Inv X pins σ H s) (mu:xq (H a)) (hs:Heap.SameBut a s.heap h') (he:∃ q,h'.get? a=some q) (new:ObjOk X.prog X.w (az H a ob) h' a ob) :
  Inv X pins σ (az H a ob) { s with heap:=h',toks:=t' }:=
 I.write (x:=a) (e:=a) mu (.inl rfl) (fun b q hb z=>(hs.2 b hb).trans z) he new
theorem vn {P:Program} {w:World} {H':Hp} {h':Heap} {kvs:List (cY×V)} {vs:List (cY×Value)} (z:kvs.length<=sizeLine) (hd:(a == sysModules)=false) (rel:KV kvs vs) (dd:h'.DictOf (bz P w) a vs) :
  ObjOk P w H' h' a (.dK kvs):=⟨z,hd,vs,rel,dd⟩
end
def xU (i:Expr):Prop:=∀ ov iv,subscripted i false ov iv=operate [ov,iv] (getItem ov iv)
theorem rY {prog:Program} {w:World} {A:Around} {E:Value->Shared->Prop} {s:Shared} {env:Env} {value slice:Expr} {pos:Pos} {T id:String} {Q:Value->Shared->Prop}
  (hl:typeLookup (.type T) "__getitem__"=pure (some (.builtin id))) (hs:xU slice)
  (h:wpAny (model prog w) A (eval value env) (fun o s₁=>wpAny (model prog w) A (eval slice env) (fun i s₂=>s₂.TypeIs o T/\wpAny (model prog w) A (getItem o i) Q E s₂) E s₁) E s) :
  wpAny (model prog w) A (eval (.Subscript value slice pos) env) Q E s:=by
 refine Subscript_ (wpAny_mono h (fun o s₁ h₁=>wpAny_mono h₁ (fun i s₂ h₂=>?_) fun _ _ x=>x) fun _ _ x=>x)
 obtain ⟨hT,h₂⟩:=h₂
 unfold subscriptTail
 refine wpAny_bind ?_
 rw [getitemInPython_of_ne hT.not_modules]
 refine wpAny_bind (wpAny_specialOf hT hl ?_)
 have fin:wpAny (model prog w) A (subscripted slice false o i) (fun r s₃=>wpAny (model prog w) A (letTemporaryGo value o r >>= fun _=>pure r) Q E s₃) E s₂:=by
  rw [hs o i]
  exact wpAny_operating (wpAny_mono h₂ (fun r s₃ h₃=>wpAny_bind (wpAny_letTemporaryGo (wpAny_pure h₃))) fun _ _ x=>x)
 first
  | exact wpAny_pure (wpAny_bind fin)
  | exact wpAny_bind (wpAny_pure (wpAny_bind fin))
  | exact wpAny_bind fin
theorem kG {X:Cx} {pins:List (Addr×Obj)} {σ:St} {H:Hp} {s:Shared} {a:Addr} {y:V} {o:Option V} (I:Inv X pins σ H s) (g:DGet H a y o):s.TypeIs (.ref a) "dict":=by
 rcases g with ⟨kvs,k,e,_,_⟩|⟨kvs,k,b,e,_,_,_⟩
 ·obtain ⟨_,_,vs,_,dd⟩:=kE I.hok e
  exact dd.typeIs
 ·obtain ⟨_,_,xs,_,dd⟩:=mO I.hok e
  exact dd.typeIs
inductive pw (Q:VK) (x:V) (y:V) (H2:Hp):Prop
 | mk (a v:_):x=.ref a->DGet H2 a y (some v)->Q v H2->pw Q x y H2
def xV (td ty:TE):TE:=fun σ H Q=>td σ H fun x H1=>ty σ H1 fun y H2=>pw Q x y H2
section
variable {X:Cx} {o i e value:Expr} {pos pos' tpos:Pos} {td ty tv:TE}
theorem rZ (hu:X.A.units+1 < cLine) (ho:PE X o td) (hi:PE X i ty) (hs:xU i):PE X (.Subscript o i pos) (xV td ty):=by
 refine ⟨?_⟩
 intro pins s σ H Q I h
 refine rY PySem.F.slot_dict_getitem.lookup hs (bA (ho pins s σ H _ I h) fun u s1 ⟨x,H1,I1,rx,q1⟩=>bA (hi pins s1 σ H1 _ I1 q1) fun iv s2 ⟨y,H2,I2,ry,a,v,ex,g,q2⟩=>?_)
 subst ex
 obtain rfl:u=Value.ref a:=rx
 exact ⟨kG I2 g,oa hu I2 g ry fun w' s3 I3 rw'=>⟨v,H2,I3,rw',q2⟩⟩
end
theorem px {P:Program} {w:World} {H:Hp} (h:Heap) (hb:sysModules < h.objs.size):ObjOk P w H (h.push { cls:=.type "dict",data:=.dict #[] }) h.objs.size (.dK []):=
 ⟨Cp _,beq_eq_false_iff_ne.mpr (Ne.symm (BX hb)),[],.nil,Heap.DictOf.new h⟩
def lR:List (TE×TE)->St->Hp->(List (V×V)->Hp->Prop)->Prop
 | [],_,H,Q=>Q [] H
 | (tk,tv)::r,σ,H,Q=>tk σ H fun x H1=>tv σ H1 fun y H2=>lR r σ H2 fun ps H3=>Q ((x,y)::ps) H3
abbrev VV:List (V×V)->List (Value×Value)->Prop:=Paired fun p q=>RelV p.1 q.1/\RelV p.2 q.2
def zy (X:Cx) (pos:Pos) (keys:List (Option Expr)) (values:List Expr) (trs:List (TE×TE)):Prop:=
 ∀ (pins:List (Addr×Obj)) (s:Shared) (σ:St) (H:Hp) (Q:List (V×V)->Hp->Prop),Inv X pins σ H s->lR trs σ H Q->
  wpAny (model X.prog X.w) X.A (evalPairs (pairTrees keys values X.env pos)) (fun vs s'=>∃ ps H',Inv X pins σ H' s'/\VV ps vs/\Q ps H') X.xe s
theorem mP {X:Cx} {pos:Pos}:zy X pos [] [] []:=fun pins s σ H Q I h=>pairTrees_nil_walk ⟨[],H,I,.nil,h⟩
theorem cr {X:Cx} {pos:Pos} {k v:Expr} {ks:List (Option Expr)} {vs:List Expr} {tk tv:TE} {trs:List (TE×TE)} (hk:PE X k tk) (hv:PE X v tv) (hr:zy X pos ks vs trs) :
  zy X pos (some k::ks) (v::vs) ((tk,tv)::trs):=fun pins s σ H Q I h=>
 pairTrees_cons_walk (bA (hk pins s σ H _ I h) fun u s1 ⟨x,H1,I1,rx,q1⟩=>bA (hv pins s1 σ H1 _ I1 q1) fun w2 s2 ⟨y,H2,I2,ry,q2⟩=>
  bA (hr pins s2 σ H2 _ I2 q2) fun ws s3 ⟨ps,H3,I3,rel,q3⟩=>⟨(x,y)::ps,H3,I3,.cons ⟨rx,ry⟩ rel,q3⟩)
def bu (kvs more:List (cY×V)):List (cY×V):=more.foldl (fun acc kv=>kA acc kv.1 kv.2) kvs
theorem KV.merge:∀ {more:List (cY×V)} {rs:List (cY×Value)} {kvs:List (cY×V)} {vs:List (cY×Value)},KV more rs->KV kvs vs->KV (bu kvs more) (merged vs rs):=by
 intro more rs kvs vs r
 unfold KV at r
 induction r generalizing kvs vs with
 | nil=>intro q;exact q
 | @cons p q ps qs h t ih=>
  intro r0
  have e:KV (kA kvs p.1 p.2) (stored vs q.1 q.2):=by
   have:=r0.put p.1 h.2
   rw [<-h.1];exact this
  exact ih e
theorem fe:∀ (more kvs:List (cY×V)),(bu kvs more).length<=kvs.length+more.length
 | [],kvs=>by show kvs.length<=kvs.length+0;omega
 | p::r,kvs=>by
  have h1:=fe r (kA kvs p.1 p.2)
  have h2:=kD kvs p.1 p.2
  show (bu (kA kvs p.1 p.2) r).length<=_
  rw [Bx];omega
theorem hG {P:Program} {w:World}:∀ {kvs:List (cY×V)} {ws:List (Value×Value)},VV (kvs.map fun kv=>(kV kv.1,kv.2)) ws->∃ rs,Carries (bz P w) ws rs/\KV kvs rs
 | [],_,r=>by rw [List.map_nil] at r;cases r;exact ⟨[],True.intro,.nil⟩
 | p::kvs,_,r=>by
  rw [BR] at r
  cases r with
  | @cons a b as bs h t=>
   obtain ⟨rs,c,q⟩:=hG (P:=P) (w:=w) t
   obtain ⟨b1,b2⟩:=b
   exact ⟨(p.1,b2)::rs,⟨mN h.1,rfl,c⟩,.cons ⟨rfl,h.2⟩ q⟩
def xW (trs:List (TE×TE)):TE:=fun σ H Q=>∀ p,H p=none->lR trs σ (az H p (.dK [])) fun ps H2=>H2 p=some (.dK [])/\∃ kvs:List (cY×V),ps=kvs.map (fun kv=>(kV kv.1,kv.2))/\kvs.length<=15/\Q (.ref p) (az H2 p (.dK (bu [] kvs)))
theorem mQ {X:Cx} {pos:Pos} {keys:List (Option Expr)} {values:List Expr} {trs:List (TE×TE)} (h:zy X pos keys values trs) (hall:keys.all (·.isSome)=true) (hl:keys.length=values.length) (h0:keys≠[])
  (h15:keys.length<=15):PE X (.Dict keys values pos) (xW trs):=by
 refine ⟨?_⟩
 intro pins s σ H Q I q
 have hn:=I.hok.fresh (BG s.heap.objs.size)
 have I1:=I.laid (a:=s.heap.objs.size) (o:=.dK []) (h':=s.heap.push { cls:=.type "dict",data:=.dict #[] }) (t':=s.toks) (fun _ _ q=>BB _ q) (BG _) (px s.heap I.big)
 refine wpAny_Dict_walk (knd:=bz X.prog X.w) hall hl h0 h15 (bA (h pins _ σ _ _ I1 (q _ hn)) fun ws s2 ⟨ps,H2,I2,rel,e,kvs,ep,lk,q2⟩=>?_)
 subst ep
 obtain ⟨rs,c,rk⟩:=hG (P:=X.prog) (w:=X.w) rel
 obtain ⟨z,hd,vs0,r0,dd⟩:=xT I2.hok e
 cases r0
 refine ⟨rs,c,dd,fun h' dd' hs=>⟨.ref s.heap.objs.size,_,?_,rfl,q2⟩⟩
 have hz:(bu [] kvs).length<=sizeLine:=by
  have h1:=fe kvs []
  rw [Bz] at h1
  rw [sizeLine_eq];omega
 have he:∃ q,h'.get? s.heap.objs.size=some q:=let ⟨q,_,_,hq,_⟩:=dd';⟨q,hq⟩
 exact rX I2 (by rw [e];exact True.intro) hs he (vn hz hd (rk.merge .nil) dd')
structure M2 (X:Cx) (o:Expr) (m:Str) (apos:Pos) (e f:Expr) (cpos:Pos):Prop where
 base:attributeBase o m X.env (eval o X.env)=eval o X.env
 few:((backTo cpos (starEach [e,f] X.env)).all (fun x=>!x.1) && (backToKw cpos (keywordEach [] X.env)).all (fun x=>x.1.isSome)
  && decide (([e,f]:List Expr).length+([]:List Keyword).length+(if ([]:List Keyword).isEmpty then 0 else 1) < 30))=true
 line:(apos.endLine == cpos.line)=true
 trees:backTo cpos (starEach [e,f] X.env)=[(false,eval e X.env),(false,eval f X.env)]
def AZ (H:Hp) (a:Addr):Prop:=(∃ kvs,Rd H a (.dK kvs))\/∃ kvs,Rd H a (.dT kvs)
theorem vo {X:Cx} {pins:List (Addr×Obj)} {σ:St} {H:Hp} {s:Shared} {a:Addr} (I:Inv X pins σ H s) (d:AZ H a) :
  s.TypeIs (.ref a) "dict"/\(∀ b,Value.ref a=.ref b->∃ ob,s.heap.get? b=some ob/\ob.dict=none)/\(a == sysModules)=false:=by
 rcases d with ⟨kvs,e⟩|⟨kvs,e⟩
 ·obtain ⟨_,hd,vs,_,dd⟩:=kE I.hok e
  refine ⟨dd.typeIs,fun b q=>?_,hd⟩
  cases q
  obtain ⟨ob,_,_,h1,h2,_⟩:=dd
  exact ⟨ob,h1,h2.2.1⟩
 ·obtain ⟨_,hd,xs,_,dd⟩:=mO I.hok e
  refine ⟨dd.typeIs,fun b q=>?_,hd⟩
  cases q
  obtain ⟨ob,_,_,h1,h2,_⟩:=dd
  exact ⟨ob,h1,h2.2.1⟩
section
variable {X:Cx} {pins:List (Addr×Obj)} {σ:St} {H:Hp} {s:Shared} {a:Addr} {y d:V} {u r:Value} {o:Option V} {A:Around} {E:Value->Shared->Prop}
theorem vp {Q:Value->Shared->Prop} (hu:A.units+1 < cLine) (I:Inv X pins σ H s) (g:DGet H a y o) (ry:RelV y u) (rd:RelV d r) (h:∀ w' s',Inv X pins σ H s'->RelV (o.getD d) w'->Q w' s') :
  wpAny (model X.prog X.w) A (call (.builtin "dict.get") [.ref a,u,r]) Q E s:=by
 rcases g with ⟨kvs,k,e,ey,l⟩|⟨kvs,k,b,e,ey,eb,l⟩
 ·subst ey
  obtain ⟨z,hd,vs,rel,dd⟩:=kE I.hok e
  refine call_meetsIn PySem.F.slot_dict_get dd.typeIs PySem.F.entry_dict_get (PySem.F.args_dict_get_3 _ _ _) (meets_dict_get_default (bz X.prog X.w) a (mN ry) hd r) ⟨_,dd.mapOf,h _ _ (I.tok _) ?_⟩
  rw [l]
  exact (rel.val k).getD rd
 ·subst ey
  cases (show u=Value.ref b from ry)
  obtain ⟨z,hd,xs,rel,dd⟩:=mO I.hok e
  refine call_meetsIn PySem.F.slot_dict_get dd.typeIs PySem.F.entry_dict_get (PySem.F.args_dict_get_3 _ _ _) (meetsH_dict_get_default (tupleKind (bz X.prog X.w)) a b hd r) ⟨tupleKind_room_in1 hu,k,xs,lQ I.hok eb,dd,h _ _ (I.tok _) ?_⟩
  rw [l]
  exact (rel.val k).getD rd
end
inductive mS (ty:TE) (tx:TE) (σ:St) (Q:VK) (x:V) (H1:Hp):Prop
 | mk (a:_):x=.ref a->AZ H1 a->(ty σ H1 fun y H2=>tx σ H2 fun z H3=>∃ o,DGet H3 a y o/\Q (o.getD z) H3)->mS ty tx σ Q x H1
def vq (td ty tx:TE):TE:=fun σ H Q=>td σ H fun x H1=>mS ty tx σ Q x H1
section
variable {X:Cx} {o e f:Expr} {apos cpos:Pos} {td ty tx:TE}
theorem py (hu:X.A.units+1 < cLine) (ho:PE X o td) (he:PE X e ty) (hf:PE X f tx) (m:M2 X o "get" apos e f cpos):PE X (.Call (.Attribute o "get" apos) [e,f] [] cpos) (vq td ty tx):=by
 refine ⟨?_⟩
 intro pins s σ H Q I h
 refine wpAny_Call_method m.base m.few m.line PySem.F.plainAttrs_dict PySem.F.slot_dict_get PySem.F.type_dict_get (bA (ho pins s σ H _ I h) fun u s1 ⟨x,H1,I1,rx,a,ex,d,q1⟩=>?_)
 subst ex
 obtain rfl:u=Value.ref a:=rx
 obtain ⟨t1,t2,_⟩:=vo I1 d
 refine ⟨t1,t2,?_⟩
 rw [m.trees]
 refine CO rfl (Calls.evalArgs_plain (Calls.spliced_cons (bA (he pins s1 σ H1 _ I1 q1) fun iv s2 ⟨y,H2,I2,ry,q2⟩=>
  Calls.spliced_cons (bA (hf pins s2 σ H2 _ I2 q2) fun fv s3 ⟨z,H3,I3,rz,ov,g,q3⟩=>Calls.spliced_nil ?_))))
 exact vp hu I3 g ry rz fun w' s4 I4 rw'=>⟨_,H3,I4,rw',q3⟩
end
end L2
namespace L2
open PySem PySem.Spec PyProof.Rows
def z4 (P:St->Hp->Prop) (t u:TS):TS:=fun D σ H=>(∀ σ' H',P σ' H'->u D σ' H')/\t { D with nx:=P } σ H
theorem fV {X:Cx} {st:Stmt} {rest:List Stmt} {t u:TS} (P:St->Hp->Prop) (h1:PS X st t) (h2:PSs X rest u):PSs X (st::rest) (z4 P t u):=by
 refine ⟨?_⟩
 intro pins s σ H D I h
 refine wpAny_execs_cons (bA (h1 pins s σ H { D with nx:=P } I h.2) fun f s1 q=>?_)
 cases f with
 | next=>
  obtain ⟨σ',H',I',q⟩:=q
  exact h2 pins s1 σ' H' D I' (h.1 _ _ q)
 | ret v=>exact q
 | brk=>exact q
 | cont=>exact q
theorem pz (l:List Nat) (a b:Option Int):(dI l a b).length<=l.length:=by
 unfold dI
 rw [BZ,B2]
 omega
end L2
namespace L2
open PySem PySem.Spec PyProof.Rows
theorem gp {K:PySem.W.Frag} {a:Addr} {xs:List V} {g:TG} {tf:TT} {te:TE} {ix:List (Option Nat)} {σ:St} {H:Hp} {Q:VK} (Pv:Nat->List V->Hp->Prop) (h0:Pv 0 [] H)
  (hl:∀ i ys H,i<=xs.length->Pv i ys H->SqT K H a xs/\ys.length<=sizeLine)
  (hs:∀ i x ys H,xs[i]?=some x->Pv i ys H->g x (lA ix σ) H fun σ2 H2=>ExtL (lA ix σ) σ2/\tf σ2 H2 fun b H3=>if b=true then te σ2 H3 fun y H4=>Nx Pv xs.length i (ys++[y]) H4 else Nx Pv xs.length i ys H3)
  (hd:∀ ys H,Pv xs.length ys H->∀ D,H D=none->Q (.ref D) (az H D (.lst ys))) :
  pf (xj K a) g tf te ix σ H Q:=by
 refine ⟨fun i m ys H=>m=xs.length - i/\i<=xs.length/\Pv i ys H,⟨xs.length,by simp,Cp _,h0⟩,?_⟩
 rintro i m ys H ⟨rfl,hi,p⟩
 obtain ⟨q,hz⟩:=hl i ys H hi p
 by_cases hlt:i < xs.length
 ·refine .inr ⟨⟨xs,xs[i],q,by simp [hlt]⟩,hz,fun x H' y=>?_⟩
  obtain ⟨e,y⟩:=y
  subst e
  exact hs i x ys _ (y xs q) p
 ·have e:i=xs.length:=by omega
  subst e
  exact .inl ⟨⟨xs,q,BG _⟩,hz,hd ys H p⟩
def vt (H H':Hp):Prop:=∀ a xs,H a=some (.tup xs)->H' a=some (.tup xs)
theorem r8 {H H':Hp} (s:Same H H'):vt H H':=fun a xs e=>s _ _ e
def xk (x:Str):Bool:=(PyData.str x).canLay0
mutual
inductive Td (H:Hp):V->PyData->Prop
 | int (i:Int):Td H (.int i) (.int i)
 | str (x:Str) (h:xk x=true):Td H (.str x) (.str x)
 | tup {a:Addr} {xs:List V} {ds:List PyData}:H a=some (.tup xs)->TdAll H xs ds->Td H (.ref a) (.tuple ds)
inductive TdAll (H:Hp):List V->List PyData->Prop
 | nil:TdAll H [] []
 | cons {v:V} {d:PyData} {vs:List V} {ds:List PyData}:Td H v d->TdAll H vs ds->TdAll H (v::vs) (d::ds)
end
mutual
theorem Td.dt {K:PySem.W.Frag} {H:Hp}:∀ {v:V} {d:PyData},Td H v d->Dt K H v d
 | _,_,.int i=>.int i
 | _,_,.str x _=>.str x
 | _,_,.tup e t=>.tup (SqT.of e) (TdAll.dt t)
theorem TdAll.dt {K:PySem.W.Frag} {H:Hp}:∀ {vs:List V} {ds:List PyData},TdAll H vs ds->DtAll K H vs ds
 | _,_,.nil=>.nil
 | _,_,.cons h t=>.cons (Td.dt h) (TdAll.dt t)
end
mutual
theorem Td.lay {H:Hp}:∀ {v:V} {d:PyData},Td H v d->d.canLay0=true
 | _,_,.int i=>rfl
 | _,_,.str x h=>h
 | _,_,.tup e t=>TdAll.lay t
theorem TdAll.lay {H:Hp}:∀ {vs:List V} {ds:List PyData},TdAll H vs ds->PyData.canLayAll0 ds=true
 | _,_,.nil=>rfl
 | _,_,.cons h t=>by
  simp only [PyData.canLayAll0,Td.lay h,TdAll.lay t,Bool.and_self]
end
mutual
theorem Td.eqv {H:Hp}:∀ {v:V} {d:PyData},Td H v d->PyData.eqv d d=true
 | _,_,.int i=>by simp [PyData.eqv]
 | _,_,.str x _=>by simp [PyData.eqv]
 | _,_,.tup e t=>by simp only [PyData.eqv];exact TdAll.eqv t
theorem TdAll.eqv {H:Hp}:∀ {vs:List V} {ds:List PyData},TdAll H vs ds->PyData.eqvAll ds ds=true
 | _,_,.nil=>by simp [PyData.eqvAll]
 | _,_,.cons h t=>by
  simp only [PyData.eqvAll,Td.eqv h,TdAll.eqv t,Bool.and_self]
end
end L2
namespace XB
open PySem PySem.W PySem.Calls PyProof.Rows Builtin Builtin.ObjectAttr
abbrev bmV:List Value:=[.type "ValueError",.type "Exception",.type "BaseException",.type "object"]
section
variable {prog:Program} {w:World} {A:Around} {E:Value->Shared->Prop} {s:Shared} {K:Frag} {x C:Addr} {ox:Obj} {od:Option Obj} {name:Str} {expr:Bool}
theorem xga_run {tk:Tok} {v:Value} {R:Result->Shared->Prop} (X:K.In s.heap) (I:InstAt s.heap x ox C od) (hb:mroIn K C (.type "BaseException")=some true) (hf:findObj K C od name=some (.value v)) (hq:R (.ok (.ret v)) s) :
  codeAny (model prog w) A (.call (.builtin "BaseException.__getattribute__") ⟨[.ref x,.str name tk],[]⟩) R s:=by
 refine codeAny_call_builtin F.attr_ValueError.ga.plain F.entry_bexc_ga ?_
 refine @check_slot (model prog w) _ _ s "BaseException.__getattribute__" "BaseException" "__getattribute__" (.ref x) [.str name tk] [] _ (by decide +kernel) (by decide +kernel) (I.type.andThen (looks_mroIn X hb)) (F.args_bexc_ga (.ref x) (.str name tk)) ?_
 obtain ⟨hh,g,d,t,os⟩:=s
 have L0:=I.type (M:=model prog w)
 have L1:=looks_find (M:=model prog w) X I hf
 refine wpAny_bind (wpAny_pure (wpAny_bind (wpAny_pure (wpAny_bind (L0.at (wpAny_bind (L1.at ?_)))))))
 exact wpAny_pure hq
theorem xga_bind {tk:Tok} {g a:Value} {R:Result->Shared->Prop} (X:K.In s.heap) (I:InstAt s.heap x ox C od) (hb:mroIn K C (.type "BaseException")=some true) (hf:findObj K C od name=some (.bind g a))
  (hq:codeAny (model prog w) A.in1 (.call g ⟨[a,.ref x,.ref C],[]⟩) (fun r s'=>match r with|.ok (.ret v)=>R (.ok (.ret v)) s'|.ok _=>False|.error e=>R (.error e) s') s) :
  codeAny (model prog w) A (.call (.builtin "BaseException.__getattribute__") ⟨[.ref x,.str name tk],[]⟩) R s:=by
 refine codeAny_call_builtin F.attr_ValueError.ga.plain F.entry_bexc_ga ?_
 refine @check_slot (model prog w) _ _ s "BaseException.__getattribute__" "BaseException" "__getattribute__" (.ref x) [.str name tk] [] _ (by decide +kernel) (by decide +kernel) (I.type.andThen (looks_mroIn X hb)) (F.args_bexc_ga (.ref x) (.str name tk)) ?_
 obtain ⟨hh,g',d,t,os⟩:=s
 have L0:=I.type (M:=model prog w)
 have L1:=looks_find (M:=model prog w) X I hf
 refine wpAny_bind (wpAny_pure (wpAny_bind (wpAny_pure (wpAny_bind (L0.at (wpAny_bind (L1.at ?_)))))))
 show wpAny _ _ (holding [a] (call g [a,.ref x,.ref C]) >>= ret) _ _ _
 refine wpAny_bind (wpAny_holding (wpAny_call (codeAny_mono hq fun r s' z=>?_)))
 rcases r with e|(v|_|_|_)<;>first|exact z|exact wpAny_pure z
theorem xget_open {Q:Value->Shared->Prop} (X:K.In s.heap) (I:InstAt s.heap x ox C od) (hga:findIn K (.ref C) "__getattribute__"=some (some (.builtin "BaseException.__getattribute__"))) (hgt:findIn K (.ref C) "__getattr__"=some none)
  (h:codeAny (model prog w) A (.call (.builtin "BaseException.__getattribute__") ⟨[.ref x,.str name s.toks],[]⟩) (fun r s'=>match r with|.ok (.ret v)=>wpAny (model prog w) A (handedOut v) Q E s'|_=>False) { s with toks:=s.toks+1 }) :
  wpAny (model prog w) A (getAttr (.ref x) name expr) Q E s:=by
 obtain ⟨hh,g,d,t,os⟩:=s
 have L0:=I.type (M:=model prog w)
 have L1:=looks_findIn (M:=model prog w) X hga
 have L2:=looks_findIn (M:=model prog w) X hgt
 have hx2:(Value.builtin "BaseException.__getattribute__" == Value.builtin "object.__getattribute__")=false:=by decide +kernel
 unfold getAttr getAttrBy
 refine wpAny_bind (wpAny_mkText (wpAny_holding (wpAny_bind (L0.at (wpAny_bind (L1.at ?_))))))
 dsimp only
 rw [show (onTheHeap (Value.ref C) && Value.builtin "BaseException.__getattribute__" == Value.builtin "object.__getattribute__")=false by rw [hx2];rfl,if_neg (by decide)]
 unfold getAttrByItsOwn hookBefore
 rw [if_pos (show onTheHeap (Value.ref C)=true from rfl)]
 refine wpAny_bind (L2.at (wpAny_bind (wpAny_attempt (wpAny_holding ?_))))
 unfold callGetattribute
 rw [show (expr && onTheHeap (Value.builtin "BaseException.__getattribute__"))=false by cases expr<;>rfl,if_neg (by decide)]
 unfold boundAndCalled
 rw [F.attr_ValueError.ga.bind]
 refine wpAny_bind (wpAny_pure ?_)
 show wpAny _ _ (call (.builtin "BaseException.__getattribute__") [.ref x,.str name t]) _ _ _
 refine wpAny_call (codeAny_mono h fun r s' z=>?_)
 rcases r with e|(v|_|_|_)<;>first|exact z|exact z.elim
theorem xget_value {v:Value} {Q:Value->Shared->Prop} (X:K.In s.heap) (I:InstAt s.heap x ox C od) (hga:findIn K (.ref C) "__getattribute__"=some (some (.builtin "BaseException.__getattribute__"))) (hgt:findIn K (.ref C) "__getattr__"=some none)
  (hb:mroIn K C (.type "BaseException")=some true) (hf:findObj K C od name=some (.value v)) (hh:handedIn v=true) (h:Q v { s with toks:=s.toks+1 }):wpAny (model prog w) A (getAttr (.ref x) name expr) Q E s:=
 xget_open X I hga hgt (xga_run (s:={ s with toks:=s.toks+1 }) X I hb hf (handed_on hh h))
theorem xcls_open {Q:Option Value->Shared->Prop} (X:K.In s.heap) (I:InstAt s.heap x ox C od) (hga:findIn K (.ref C) "__getattribute__"=some (some (.builtin "BaseException.__getattribute__"))) (hgt:findIn K (.ref C) "__getattr__"=some none)
  (h:codeAny (model prog w) A (.call (.builtin "BaseException.__getattribute__") ⟨[.ref x,.str name s.toks],[]⟩) (fun r s'=>match r with|.ok (.ret v)=>wpAny (model prog w) A (handedOut v) (fun v s''=>Q (some v) s'') (fun _ _=>False) s'|_=>False) { s with toks:=s.toks+1 }) :
  wpAny (model prog w) A (getAttr? (.ref x) name) Q E s:=by
 obtain ⟨hh,g,d,t,os⟩:=s
 have L0:=I.type (M:=model prog w)
 have L1:=looks_findIn (M:=model prog w) X hga
 have L2:=looks_findIn (M:=model prog w) X hgt
 have hx2:(Value.builtin "BaseException.__getattribute__" == Value.builtin "object.__getattribute__")=false:=by decide +kernel
 unfold getAttr? getAttrBy? getAttrBy
 refine wpAny_bind (wpAny_mkText (wpAny_bind (wpAny_attempt (wpAny_holding (wpAny_bind (L0.at (wpAny_bind (L1.at ?_))))))))
 dsimp only
 rw [show (onTheHeap (Value.ref C) && Value.builtin "BaseException.__getattribute__" == Value.builtin "object.__getattribute__")=false by rw [hx2];rfl,if_neg (by decide)]
 unfold getAttrByItsOwn hookBefore
 rw [if_pos (show onTheHeap (Value.ref C)=true from rfl)]
 refine wpAny_bind (L2.at (wpAny_bind (wpAny_attempt (wpAny_holding ?_))))
 unfold callGetattribute
 rw [show (false && onTheHeap (Value.builtin "BaseException.__getattribute__"))=false from rfl,if_neg (by decide)]
 unfold boundAndCalled
 rw [F.attr_ValueError.ga.bind]
 refine wpAny_bind (wpAny_pure ?_)
 show wpAny _ _ (call (.builtin "BaseException.__getattribute__") [.ref x,.str name t]) _ _ _
 refine wpAny_call (codeAny_mono h fun r s' z=>?_)
 rcases r with e|(v|_|_|_)<;>first|exact wpAny_mono z (fun v s'' hv=>wpAny_pure hv) (fun _ _ z=>z.elim)|exact z.elim
theorem kitx_exc (hd:(clsIn K C).isSome=true) (hga:findIn K (.ref C) "__getattribute__"=some (some (.builtin "BaseException.__getattribute__"))) (hgt:findIn K (.ref C) "__getattr__"=some none)
  (hb:mroIn K C (.type "BaseException")=some true) (ho:mroIn K C (.type "object")=some true)
  (ha:findIn K (.ref C) "__class__"=some (some (.builtin "object.__class__"))) (hn:specialIn K (.builtin "object.__class__") "__get__"=some (some (.builtin "getset_descriptor.__get__"))) (htk:takesIn K (.builtin "object.__class__")=some true) :
  KitX K (.ref x) (.ref C) (fun h=>∃ ox od,InstAt h x ox C od) where
 ty:=fun _ _ _ ⟨_,_,I⟩=>I.type
 it:=fun _ _ X _=>by
  obtain ⟨cdD,hcD⟩:=Option.isSome_iff_exists.mp hd
  unfold clsIn at hcD
  split at hcD
  ·rename_i c' d' cd' sl' ho
   intro A' Q' E' s' k q
   unfold isType loadHead
   exact wpAny_bind (wpAny_loadPart (k _ _ (X _ _ ho)) (wpAny_pure q))
  ·cases hcD
 ne:=fun h tp dd its n sl X htp=>by
  obtain ⟨cdD,hcD⟩:=Option.isSome_iff_exists.mp hd
  refine BC.mpr fun q=>?_
  have e:C=tp:=Value.ref.inj (beq_iff_eq.mp q)
  subst e
  unfold clsIn at hcD
  split at hcD
  ·rename_i c' d' cd' sl' ho
   have z:=(X _ _ ho).symm.trans htp
   cases z
  ·cases hcD
 ca:=fun {prog w A E Q s} X ⟨ox,od,I⟩ k=>by
  have hf:findObj K C od "__class__"=some (.bind (.builtin "getset_descriptor.__get__") (.builtin "object.__class__")):=by
   obtain ⟨cdD,hcD⟩:=Option.isSome_iff_exists.mp hd
   unfold findObj
   rw [hcD,Option.bind_some,ha,Option.bind_some]
   dsimp only
   rw [hn,Option.bind_some]
   dsimp only
   rw [htk,Option.bind_some]
  refine xcls_open X I hga hgt (xga_bind (s:={ s with toks:=s.toks+1 }) X I hb hf ?_)
  refine class_get (s:={ s with toks:=s.toks+1 }) X I ho ?_
  exact handed_on rfl k
end
end XB
namespace XB
open PySem PySem.W PySem.Calls PyProof.Rows Builtin Builtin.ObjectAttr
section
variable {prog:Program} {w:World} {A:Around} {E:Value->Shared->Prop} {h:Heap} {g:Array GenState} {d:Drawn} {t:Nat} {os:OsState}
variable {nm q:Str} {C N x:Addr} {bs bm:List Value} {sn:List Str} {sub:List Value} {ab:Bool} {col:Option Bool} {dd:Option Addr} {k0 k1 k2 k3 k5:Option Value} {newId:String}
 {mA:Str->Option Value} {name:Str} {v:Value} {o:Obj}
def Tail (bm:List Value):Prop:=bm=bmV\/∃ R,bm=.ref R::bmV
theorem Tail.pass {bm:List Value} (T:Tail bm) (self:Value):refuseLoop self "__setattr__" bm=pure ():=by
 rcases T with rfl|⟨R,rfl⟩
 ·exact F.store_ValueError.passes self
 ·rw [refuseLoop_ref];exact F.store_ValueError.passes self
theorem Tail.has {bm:List Value} (T:Tail bm) (C:Addr) (n:String) (b:Bool) (e:bmV.contains (.type n)=b):(Value.ref C::bm).contains (.type n)=b:=by
 rcases T with rfl|⟨R,rfl⟩
 ·rw [List.contains_cons,e];rfl
 ·rw [List.contains_cons,List.contains_cons,e];rfl
theorem xstore_new {tk:Tok} {Q:Fin->Shared->Prop} (T:Tail bm) (hC:h.get? C=some (excClassObj nm q C N bs bm true sn sub ab col dd k0 k1 k2 k3 k5 newId)) (LN:Looks (model prog w) h (typeLookup (.ref C) name) none)
  (hx:h.get? x=some o) (hc:o.cls=.ref C) (hnc:∀ c,o.data≠.cls c) (hdn:o.dict=none)
  (hq:∀ h' tk',h'.get? x=some { cls:=o.cls,dict:=some h.objs.size,data:=o.data,slots:=o.slots }->h'.Ns1 h.objs.size (fun y=>if y=name then some v else none)->(∀ b ob,b≠x->h.get? b=some ob->h'.get? b=some ob)->Q (.done (.ret .none)) ⟨h',g,d,tk',os⟩) :
  wpAny (model prog w) A (Builtin.«object.__setattr__» ⟨[.ref x,.str name tk,v],[]⟩) Q E ⟨h,g,d,t,os⟩:=by
 have hpass:=T.pass (.ref x)
 unfold Builtin.«object.__setattr__»
 repeat (first|rw [refuse_eq]|(rw [refuseLoop_ref,hpass])|(with_reducible refine wpAny_loadPart_at hx ?_;rw [hc])|with_reducible refine wpAny_mroOf_exc hC ?_|with_reducible refine LN.at ?_|wp_step)
 rw [hdn,if_neg (by simp [typeHasDict])]
 split
 ·rename_i hcd
  cases hcd
 split
 ·rename_i c hcd
  exact absurd hcd (hnc c)
 ·have hx₁:(h.push { cls:=.type "dict",data:=.dict #[] }).get? x=some o:=BB _ hx
  have hxs:x≠h.objs.size:=BX (BI hx)
  refine wpAny_bind (wpAny_alloc' ?_)
  refine wpAny_bind (wpAny_update' hx₁ ?_)
  refine wpAny_pure ?_
  have hgd:((h.push { cls:=.type "dict",data:=.dict #[] }).update x fun o=>{ cls:=o.cls,dict:=some h.objs.size,data:=o.data,slots:=o.slots }).get? h.objs.size
    = some { cls:=.type "dict",data:=.dict #[] }:=
   (Heap.get?_update_ne _ _ _ _ hxs.symm).trans (Heap.get?_push_at rfl rfl)
  have hnd:((h.push { cls:=.type "dict",data:=.dict #[] }).update x fun o=>{ cls:=o.cls,dict:=some h.objs.size,data:=o.data,slots:=o.slots }).Ns h.objs.size (fun _=>none):=
   ⟨_,#[],_,hgd,rfl,fun e he=>absurd he (by simp),fun _=>rfl⟩
  show wpAny _ _ (storeInDict h.objs.size (.str name tk) name v) _ _ _
  unfold storeInDict newKeyGuard
  refine wpAny_bind (wpAny_pure (wpAny_bind (wpAny_nsSet1 (Heap.Ns1.of_empty hnd) fun h' hn' hs=>?_)))
  obtain ⟨oD,esD,epD,hoD,hdD,hcD⟩:=hn'.count (Within.cons name v Within.nil)
  refine wpAny_bind (wpAny_lookBehind hoD (by rw [hdD];exact pastItsLine_dict (BN hcD (by rw [Bx,Bz,sizeLine_eq];omega))) ?_)
  wp_walk
  refine hq h' _ ?_ hn' (fun b ob hbx hb=>?_)
  ·refine (hs.2 x hxs).trans (Heap.get?_update_self _ hx₁ ?_)
   have hfr:=(Heap.get?_some_iff.mp hx).2
   obtain ⟨oc,od,odt,osl⟩:=o
   cases odt<;>first|rfl|exact hfr
  ·exact (hs.2 b (BX (BI hb))).trans ((Heap.get?_update_ne _ _ _ _ hbx).trans (BB _ hb))
theorem xstore_old {tk:Tok} {Q:Fin->Shared->Prop} {dx:Addr} {ns:List Str} (T:Tail bm) (hC:h.get? C=some (excClassObj nm q C N bs bm true sn sub ab col dd k0 k1 k2 k3 k5 newId)) (LN:Looks (model prog w) h (typeLookup (.ref C) name) none)
  (hx:h.get? x=some o) (hc:o.cls=.ref C) (hdx:o.dict=some dx) (hns:h.Ns1 dx mA) (hw:Within mA ns) (hsz:ns.length < sizeLine)
  (hq:∀ h' tk',h'.Ns1 dx (fun y=>if y=name then some v else mA y)->Heap.SameBut dx h h'->Q (.done (.ret .none)) ⟨h',g,d,tk',os⟩) :
  wpAny (model prog w) A (Builtin.«object.__setattr__» ⟨[.ref x,.str name tk,v],[]⟩) Q E ⟨h,g,d,t,os⟩:=by
 have hpass:=T.pass (.ref x)
 unfold Builtin.«object.__setattr__»
 repeat (first|rw [refuse_eq]|(rw [refuseLoop_ref,hpass])|(with_reducible refine wpAny_loadPart_at hx ?_;rw [hc])|with_reducible refine wpAny_mroOf_exc hC ?_|with_reducible refine LN.at ?_|wp_step)
 rw [hdx]
 refine wpAny_pure ?_
 show wpAny _ _ (storeInDict dx (.str name tk) name v) _ _ _
 unfold storeInDict newKeyGuard
 refine wpAny_bind (wpAny_pure (wpAny_bind (wpAny_nsSet1 hns fun h' hn' hs=>?_)))
 obtain ⟨oD,esD,epD,hoD,hdD,hcD⟩:=hn'.count (Within.cons name v hw)
 refine wpAny_bind (wpAny_lookBehind hoD (by rw [hdD];exact pastItsLine_dict (BN hcD (by rw [Bx];omega))) ?_)
 wp_walk
 exact hq h' _ hn' hs
theorem xset_open {Q:Unit->Shared->Prop} {K:Frag} {od:Option Obj} (X:K.In h) (I:InstAt h x o C od) (hs:findIn K (.ref C) "__setattr__"=some (some (.builtin "object.__setattr__"))) (ho:mroIn K C (.type "object")=some true)
  (hq:∀ A',wpAny (model prog w) A' (Builtin.«object.__setattr__» ⟨[.ref x,.str name t,v],[]⟩) (fun f s'=>f=.done (.ret .none)/\Q () s') (fun _ _=>False) ⟨h,g,d,t+1,os⟩) :
  wpAny (model prog w) A (setAttr (.ref x) name v) Q E ⟨h,g,d,t,os⟩:=by
 refine set_plain X I hs ?_
 refine codeAny_call_builtin F.store_ValueError.slot.plain F.store_ValueError.entry ?_
 refine @check_slot (model prog w) _ _ ⟨h,g,d,t+1,os⟩ "object.__setattr__" "object" "__setattr__" (.ref x) [.str name t,v] [] _ F.store_ValueError.kind F.store_ValueError.split (I.type.andThen (looks_mroIn X ho)) (F.store_ValueError.args (.ref x) (.str name t) v) ?_
 refine wpAny_mono (hq _) (fun f s' z=>?_) fun _ _ z=>z.elim
 obtain ⟨rfl,z⟩:=z
 exact z
theorem xcheck_new {M:Model} {rest:List Value} {Q:Unit->Shared->Prop} (T:Tail bm) (hC:h.get? C=some (excClassObj nm q C N bs bm true sn sub ab col dd k0 k1 k2 k3 k5 "ValueError.__new__"))
  (hq:Q () ⟨h,g,d,t,os⟩):wpAny M A (checkBuiltinCall "ValueError.__new__" ⟨.ref C::rest,[]⟩) Q E ⟨h,g,d,t,os⟩:=by
 have F:=F.excBase_ValueError
 have hcont:=T.has C "ValueError" true (by decide +kernel)
 have hstar:=F.noStar
 simp only [checkBuiltinCall,F.newKind,F.newSplit,F.newRow]
 repeat (first|refine wpAny_loadPart_at hC ?_|(refine wpAny_isSubtype_exc hC ?_;rw [hcont])|refine wpAny_staticBase_exc hC ?_|refine wpAny_madeBy_exc hC ?_|simp only [bne_self_eq_false,Bool.false_eq_true,if_false]|wp_step)
 exact hq
theorem xnew {R:Result->Shared->Prop} {rest:List Value} (T:Tail bm) (hC:h.get? C=some (excClassObj nm q C N bs bm true sn sub ab col dd k0 k1 k2 k3 k5 "ValueError.__new__"))
  (hq:R (.ok (.ret (.ref (h.objs.size+1)))) ⟨(h.push { cls:=.type "tuple",data:=.seq rest.toArray }).push
   { cls:=.ref C,data:=.fields #[.ref h.objs.size,.none,.none,.none,.bool false,.none] },g,d,t,os⟩) (hrest:rest.length<=sizeLine) :
  codeAny (model prog w) A (.builtin "ValueError.__new__" ⟨.ref C::rest,[]⟩) R ⟨h,g,d,t,os⟩:=by
 have F:=F.excBase_ValueError
 have hends:=F.ends
 have hcB:=T.has C "ValueError" true (by decide +kernel)
 have hcA:=T.has C "AttributeError" false (by decide +kernel)
 have hcN:=T.has C "NameError" false (by decide +kernel)
 refine codeAny_builtinAt F.entry ?_
 unfold Builtin.«BaseException.__new__»
 refine PySem.wpAt_bind ?_
 show PySem.wpAt _ _ _ (stack >>= _) _ _ _
 refine PySem.wpAt_bind (PySem.wpAt_stack fun p below=>PySem.wpAt_of_wpAny ?_)
 wp_walk
 refine PySem.wpAt_of_wpAny ?_
 rw [F.owner]
 repeat (first|with_reducible refine wpAny_madeHere_exc F.canon hC ?_|with_reducible refine wpAny_loadPart_at hC ?_|(with_reducible refine wpAny_isSubtype_exc hC ?_;first|rw [hcB]|rw [hcA]|rw [hcN])|wp_step)
 show R _ _
 rw [CP]
 exact hq
abbrev tupO (rest:List Value):Obj:={ cls:=.type "tuple",data:=.seq rest.toArray }
abbrev excO (C:Addr) (a:Addr):Obj:={ cls:=.ref C,data:=.fields #[.ref a,.none,.none,.none,.bool false,.none] }
theorem xmake_type {rest:List Value} {fI:Addr} {oI:Obj} {Q:Fin->Shared->Prop} (T:Tail bm) (hC:h.get? C=some (excClassObj nm q C N bs bm true sn sub ab col dd k0 k1 k2 k3 k5 "ValueError.__new__"))
  (LI:Looks (model prog w) h (typeLookup (.ref C) "__init__") (some (.ref fI))) (hfI:h.get? fI=some oI) (hfc:oI.cls=.type "function")
  (hq:wpAny (model prog w) A (call (.ref fI) (.ref (h.objs.size+1)::rest)) (fun r s'=>r=.none/\Q (.done (.ret (.ref (h.objs.size+1)))) s') E ⟨(h.push (tupO rest)).push (excO C h.objs.size),g,d,t,os⟩) (hrest:rest.length<=sizeLine) :
  wpAny (model prog w) A (Builtin.«type.__call__» ⟨.ref C::rest,[]⟩) Q E ⟨h,g,d,t,os⟩:=by
 have F:=F.excBase_ValueError
 repeat (first|with_reducible refine wpAny_loadPart_at hC ?_|with_reducible refine wpAny_madeBy_exc hC ?_|wp_step)
 refine codeAny_call_builtin_code (Code.quiet_builtin _ F.quiet) (xcheck_new T hC ?_)
 refine xnew T hC ?_ hrest
 show wpAny _ _ _ _ _ _
 have kp:∀ b o,h.get? b=some o->((h.push (tupO rest)).push (excO C h.objs.size)).get? b=some o:=fun b o hb=>BB _ (BB _ hb)
 have hC₁:=kp _ _ hC
 have hfI₁:=kp _ _ hfI
 have hget:((h.push (tupO rest)).push (excO C h.objs.size)).get? (h.objs.size+1)=some (excO C h.objs.size):=by heap_get
 have hcC:(Value.ref C::bm).contains (.ref C)=true:=by simp
 unfold isInstance
 repeat (first|with_reducible refine wpAny_loadPart_at hget ?_|(with_reducible refine wpAny_isSubtype_exc hC₁ ?_;rw [hcC])|wp_step)
 show wpAny _ _ (typeLookup (.ref C) _) _ _ _
 refine LI _ _ _ _ kp ?_
 refine wpAny_holding (wpAny_bind ?_)
 unfold bindSpecial
 refine wpAny_bind (wpAny_typeOf (T:="function") ⟨_,hfI₁,hfc⟩ ?_)
 rw [if_pos (by decide)]
 refine wpAny_pure (wpAny_bind (wpAny_mono hq (fun r s' hr=>?_) fun _ _ x=>x))
 obtain ⟨rfl,hQ⟩:=hr
 wp_walk
 exact hQ
theorem xmake {rest:List Value} {fI:Addr} {oI:Obj} {Q:Value->Shared->Prop} (T:Tail bm) (hC:h.get? C=some (excClassObj nm q C N bs bm true sn sub ab col dd k0 k1 k2 k3 k5 "ValueError.__new__"))
  (LI:Looks (model prog w) h (typeLookup (.ref C) "__init__") (some (.ref fI))) (hfI:h.get? fI=some oI) (hfc:oI.cls=.type "function")
  (hq:wpAny (model prog w) (A.under (.builtin "type.__call__" ⟨.ref C::rest,[]⟩)) (call (.ref fI) (.ref (h.objs.size+1)::rest)) (fun r s'=>r=.none/\Q (.ref (h.objs.size+1)) s') E ⟨(h.push (tupO rest)).push (excO C h.objs.size),g,d,t,os⟩)
  (hrest:rest.length<=sizeLine) :
  wpAny (model prog w) A (call (.ref C) rest) Q E ⟨h,g,d,t,os⟩:=by
 have f1:=tc_lookup
 have f2:=tc_bind (.ref C)
 have hT:(⟨h,g,d,t,os⟩:Shared).TypeIs (.ref C) "type":=⟨_,hC,rfl⟩
 refine wpAny_call (codeAny_of_tree ?_)
 show wpAny _ _ (callAny (.ref C) _) _ _ _
 repeat (any_goals (first|assumption|with_reducible refine wpAny_loadPart_at hC ?_|wp_step))
 refine ⟨rfl,?_⟩
 refine codeAny_call_builtin_at (Code.quiet_builtin _ (by decide +kernel)) entry_typeCall (wpAny_check_type_call_sub hC (xmake_type T hC LI hfI hfc ?_ hrest))
 exact hq
end
end XB
namespace XB
open PySem PySem.W PySem.Calls PyProof.Rows Builtin Builtin.ObjectAttr
section
variable {prog:Program} {w:World} {A:Around} {E:Value->Shared->Prop} {h:Heap} {g:Array GenState} {d:Drawn} {t:Nat} {os:OsState}
variable {nm q:Str} {C N x:Addr} {bs bm:List Value} {sn:List Str} {sub:List Value} {ab:Bool} {col:Option Bool} {dd:Option Addr} {k0 k1 k2 k3 k5:Option Value} {newId:String}
 {mA:Str->Option Value} {name:Str} {v:Value} {o:Obj}
theorem xinit {R:Result->Shared->Prop} {rest:List Value} {vs:Array Value} {a0:Addr} (T:Tail bm) (hC:h.get? C=some (excClassObj nm q C N bs bm true sn sub ab col dd k0 k1 k2 k3 k5 newId)) (hx:h.get? x=some o) (hc:o.cls=.ref C)
  (hd:o.data=.fields vs) (h0:vs[0]?=some (.ref a0)) (hrest:rest.length<=sizeLine)
  (hq:∀ h' vs',(∀ b ob,b≠x->h.get? b=some ob->h'.get? b=some ob)->h'.get? x=some { cls:=o.cls,dict:=o.dict,data:=.fields vs',slots:=o.slots }->(∃ a,vs'[0]?=some (.ref a)/\vs'[1]?=vs[1]?)->R (.ok (.ret .none)) ⟨h',g,d,t,os⟩) :
  codeAny (model prog w) A (.call (.builtin "ValueError.__init__") ⟨.ref x::rest,[]⟩) R ⟨h,g,d,t,os⟩:=by
 have F:=F.excBase_ValueError
 have hcB:=T.has C "ValueError" true (by decide +kernel)
 have hshort:=F.noStar
 refine codeAny_call_builtin F.init.plain F.initEntry ?_
 simp only [checkBuiltinCall,F.initKind,F.initSplit,F.initRow]
 repeat (first|(with_reducible refine wpAny_loadPart_at hx ?_;rw [hc])|(with_reducible refine wpAny_isSubtype_exc hC ?_;rw [hcB])|wp_step)
 refine wpAny_onRaise ?_
 rw [show ∀ (a b:String) (n:Nat),Bind.check ⟨.positional,"*","ValueError",.self,[⟨"args",.varPos,false⟩]⟩ a b n (List.map (fun x=>x.fst) ({ pos:=Value.ref x::rest }:Args).kw)=pure () from
  fun a b n=>check_star_args _ _ _ _ _ _]
 refine wpAny_pure ?_
 wp_walk
 rw [hd]
 repeat (any_goals (first|assumption|rw [h0]|wp_step))
 rw [hd]
 have hsz:0 < vs.size:=by
  have:=(Array.getElem?_eq_some_iff.mp h0).1
  exact this
 dsimp only
 rw [if_pos hsz]
 have hx₁:(h.push (tupO rest)).get? x=some o:=BB _ hx
 refine wpAny_update' hx₁ ?_
 repeat (any_goals (first|assumption|wp_step))
 have hfr:=(Heap.get?_some_iff.mp hx).2
 refine hq _ (vs.setIfInBounds 0 (.ref h.objs.size)) (fun b ob hb e=>?_) ?_ ⟨h.objs.size,?_,?_⟩
 ·rw [Heap.get?_update_ne _ _ _ _ hb]
  exact BB _ e
 ·rw [Heap.get?_update_self _ hx₁ (by obtain ⟨oc,od,odt,osl⟩:=o;cases hd;rfl)]
  obtain ⟨oc,od,odt,osl⟩:=o
  cases hd
  rfl
 ·simp [hsz]
 ·exact Array.getElem?_setIfInBounds_ne (by decide)
theorem val_cls {K:Frag}:findCls K (.type "ValueError") (.type "type") "__init__"=some (.val (.builtin "ValueError.__init__")):=by rfl
theorem val_opaque {M:Model} {h:Heap}:Looks M h (opaqueClassAbove (.type "ValueError")) none:=Looks.of_pure (by kernel_rfl)
theorem val_type {M:Model} {h:Heap}:Looks M h (typeOf (.type "ValueError")) (.type "type"):=Looks.of_pure (by kernel_rfl)
theorem val_method {K:Frag} {s:Shared} {pl:Sem Bool} {Q:Value×List Value->Shared->Prop} (X:K.In s.heap) (hq:Q (.builtin "ValueError.__init__",[]) { s with toks:=s.toks+1 }) :
  wpAny (model prog w) A (getMethod (.type "ValueError") "__init__" pl) Q E s:=by
 unfold getMethod specialOf
 refine wpAny_bind (wpAny_bind (val_type.here ?_))
 have L:Looks (model prog w) s.heap (typeLookup (.type "type") "__getattribute__") (some (.builtin "type.__getattribute__")):=Looks.of_pure KF.slot_tga.lookup
 refine L.here ?_
 dsimp only
 rw [if_pos canon_tga]
 refine wpAny_bind (cls_open (K:=K) (mc:=.type "type") (hook:=none) X val_opaque val_type (by rfl) (looks_hook X (by rfl)) (by rfl) val_cls ?_)
 exact wpAny_pure (handed_on rfl (wpAny_pure hq))
theorem own_method {K:Frag} {s:Shared} {pl:Sem Bool} {f C:Addr} {name:Str} {Q:Value×List Value->Shared->Prop} (X:K.In s.heap) (hr:readsIn K C (.type "type")=true) (hf:findCls K (.ref C) (.type "type") name=some (.val (.ref f)))
  (hq:Q (.ref f,[]) { s with toks:=s.toks+1 }):wpAny (model prog w) A (getMethod (.ref C) name pl) Q E s:=by
 have hs:specialIn K (.ref C) "__getattribute__"=some (some (.builtin "type.__getattribute__")):=by
  have hr':=hr
  simp only [readsIn,BD,beq_iff_eq] at hr'
  obtain ⟨⟨⟨⟨a,b⟩,c'⟩,d⟩,f⟩:=hr'
  unfold specialIn
  rw [b,Option.bind_some]
  exact c'
 exact method_cls X hs (cls_value X hr hf rfl hq)
end
end XB
namespace L2
open PySem PySem.Spec PyProof.Rows
def XO (e C:Addr) (d:Option Addr) (r:Bool) (h:Heap):Prop:=∃ (vs:Array Value) (a0:Addr),h.get? e=some { cls:=.ref C,dict:=d,data:=.fields vs }/\vs[0]?=some (.ref a0)/\(r=false->vs[1]?=some .none)
def DX (dx:Addr) (fs:List (Str×V)) (h:Heap):Prop:=∃ mA,h.Ns1 dx mA/\(∀ f,RelO (fs.lookup f) (mA f))/\PySem.Within mA (fs.map (·.1))
def XAt (H:Hp) (e C:Addr) (d:Option Addr) (r:Bool) (fs:List (Str×V)):Prop:=H e=some (.ext (XO e C d r))/\fs.length<=1000/\match d with|none=>fs=[]|some dx=>dx≠e/\H dx=some (.ext (DX dx fs))
structure XC (K:PySem.W.Frag) (C:Addr) (nm:Str) (bm:List Value):Prop where
 tl:XB.Tail bm
 obj:∃ q N bs sn sub ab col dd k0 k1 k2 k3 k5,K.lookup C=some (excClassObj nm q C N bs bm true sn sub ab col dd k0 k1 k2 k3 k5 "ValueError.__new__")
 ga:PySem.W.findIn K (.ref C) "__getattribute__"=some (some (.builtin "BaseException.__getattribute__"))
 gt:PySem.W.findIn K (.ref C) "__getattr__"=some none
 sa:PySem.W.findIn K (.ref C) "__setattr__"=some (some (.builtin "object.__setattr__"))
 cl:PySem.W.findIn K (.ref C) "__class__"=some (some (.builtin "object.__class__"))
section
variable {K:PySem.W.Frag} {C:Addr} {nm:Str} {bm:List Value}
theorem XC.clsIn (c:XC K C nm bm):∃ cd,PySem.W.clsIn K C=some cd/\cd.mro=.ref C::bm/\cd.hasDict=true:=by
 obtain ⟨q,N,bs,sn,sub,ab,col,dd,k0,k1,k2,k3,k5,l⟩:=c.obj
 refine ⟨_,by unfold PySem.W.clsIn;rw [l],rfl,rfl⟩
theorem XC.mro (c:XC K C nm bm) (n:String) (b:Bool) (e:XB.bmV.contains (.type n)=b):PySem.W.mroIn K C (.type n)=some b:=by
 obtain ⟨cd,h,m,_⟩:=c.clsIn
 unfold PySem.W.mroIn
 rw [h,Option.bind_some,m]
 show (if false=true then _ else _)=_
 rw [if_neg (by decide),c.tl.has C n b e]
theorem XC.kit (c:XC K C nm bm) {x:Addr}:PySem.W.KitX K (.ref x) (.ref C) (fun h=>∃ ox od,PySem.W.InstAt h x ox C od):=by
 obtain ⟨cd,h,_⟩:=c.clsIn
 exact XB.kitx_exc (by rw [h];rfl) c.ga c.gt (c.mro "BaseException" true (by decide +kernel)) (c.mro "object" true (by decide +kernel)) c.cl (by rfl) (by rfl)
theorem XC.one {C':Addr} {nm':Str} {bm':List Value} (c:XC K C nm bm) (c':XC K C' nm' bm'):PySem.W.kitOne K (.ref C) (.ref C')=some ((Value.ref C::bm).contains (.ref C')):=by
 obtain ⟨cd,h,m,_⟩:=c.clsIn
 obtain ⟨cd',h',_⟩:=c'.clsIn
 obtain ⟨q,N,bs,sn,sub,ab,col,dd,k0,k1,k2,k3,k5,l⟩:=c'.obj
 unfold PySem.W.kitOne
 by_cases e:(Value.ref C == Value.ref C')=true
 ·rw [if_pos e,List.contains_cons]
  have e':(Value.ref C' == Value.ref C)=true:=by rw [beq_iff_eq] at e ⊢;exact e.symm
  rw [e']
  rfl
 ·rw [if_neg e]
  unfold PySem.W.kitCls
  dsimp only
  have ht:PySem.W.typeIn K (.ref C')=some (.type "type"):=by
   show Option.map (fun x=>x.cls) (List.lookup C' K)=_
   rw [l]
   rfl
  rw [if_pos (by rw [h',ht];rfl)]
  unfold PySem.W.subIn PySem.W.mroIn
  dsimp only
  rw [h,Option.bind_some,m]
  show (if false=true then _ else _)=_
  rw [if_neg (by decide)]
end
section
variable {X:Cx} {pins:List (Addr×Obj)} {σ:St} {H:Hp} {s:Shared} {e C dx:Addr} {d:Option Addr} {rr:Bool} {nm:Str} {bm:List Value} {fs:List (Str×V)} {f:Str} {v:V} {A:Around} {E:Value->Shared->Prop}
theorem XAt.obj (x:XAt H e C d rr fs) (I:Inv X pins σ H s):∃ (vs:Array Value) (a0:Addr),s.heap.get? e=some { cls:=.ref C,dict:=d,data:=.fields vs }/\vs[0]?=some (.ref a0)/\(rr=false->vs[1]?=some .none):=by
 obtain ⟨p,_,_⟩:=(show ObjOk X.prog X.w H s.heap e (.ext (XO e C d rr)) from I.hok e _ x.1)
 exact p
theorem XAt.dict (x:XAt H e C (some dx) rr fs) (I:Inv X pins σ H s):∃ mA,s.heap.Ns1 dx mA/\(∀ f,RelO (fs.lookup f) (mA f))/\PySem.Within mA (fs.map (·.1)):=by
 obtain ⟨_,_,_,h⟩:=x
 obtain ⟨p,_,_⟩:=(show ObjOk X.prog X.w H s.heap dx (.ext (DX dx fs)) from I.hok dx _ h)
 exact p
theorem XAt.inst (x:XAt H e C d rr fs) (I:Inv X pins σ H s):∃ ox od,PySem.W.InstAt s.heap e ox C od:=by
 obtain ⟨vs,a0,h,_⟩:=x.obj I
 cases d with
 | none=>exact ⟨_,none,h,rfl,rfl,True.intro⟩
 | some dx=>
  obtain ⟨mA,n,_,_⟩:=x.dict I
  obtain ⟨od,ho,_⟩:=eU n
  exact ⟨_,some od,h,rfl,rfl,ho⟩
theorem sd:cA X (.builtin "isinstance") (fun xs H Q=>∃ e C d r fs nm bm C' nm' bm',xs=[.ref e,.ref C']/\XAt H e C d r fs/\XC X.K C nm bm/\XC X.K C' nm' bm'/\Q (.bl ((Value.ref C::bm).contains (.ref C'))) H):=by
 intro pins s σ H xs us Q I r h
 obtain ⟨e,C,d,r0,fs,nm,bm,C',nm',bm',rfl,x,c,c',q⟩:=h
 obtain ⟨u,u',rfl,rx,ry⟩:=oX r
 cases rx
 cases ry
 exact Cb c.kit I.kIn (x.inst I) (c.one c') (fun z=>nomatch z) fun tk=>⟨.bl _,H,I.tok _,rfl,q⟩
theorem og {b:Bool} {Q:Value->Shared->Prop} (I:Inv X pins σ H s) (x:XAt H e C (some dx) rr fs) (c:XC X.K C nm bm) (n:NoAttr X.K C f) (l:fs.lookup f=some v)
  (h:∀ u s',Inv X pins σ H s'->RelV v u->Q u s'):wpAny (model X.prog X.w) A (getAttr (.ref e) f b) Q E s:=by
 obtain ⟨mA,ns,r,_⟩:=x.dict I
 obtain ⟨vs,a0,ho,_⟩:=x.obj I
 obtain ⟨u,hu,ru⟩:=RelO.some_of (v:=v) (o:=mA f) (by rw [<-l];exact r f)
 obtain ⟨od,hd,lk⟩:=eU ns
 obtain ⟨cd,hc,m,hh⟩:=c.clsIn
 have hf:PySem.W.findObj X.K C (some od) f=some (.value u):=by
  unfold PySem.W.findObj
  rw [hc,Option.bind_some,show PySem.W.findIn X.K (.ref C) f=some none from n,Option.bind_some]
  show ((PySem.W.ownOf cd (some od) f).bind _)=_
  have ho:PySem.W.ownOf cd (some od) f=some (some u):=by
   unfold PySem.W.ownOf
   rw [hh,if_pos rfl]
   show PySem.W.lookIn f od=_
   rw [lk f,hu]
  rw [ho]
  rfl
 exact XB.xget_value I.kIn (ox:={ cls:=.ref C,dict:=some dx,data:=.fields vs }) (od:=some od) ⟨ho,rfl,rfl,hd⟩ c.ga c.gt (c.mro "BaseException" true (by decide +kernel)) hf (iO ru) (h u _ (I.tok _) ru)
theorem Inv.two {h':Heap} {t':Nat} {D:Addr} {o1 o2:HO} {φ:Heap->Prop} (I:Inv X pins σ H s) (he:H e=some (.ext φ)) (hD:s.heap.objs.size<=D) (k:∀ b u,b≠e->s.heap.get? b=some u->h'.get? b=some u) (heo:∃ u,h'.get? e=some u)
  (n1:ObjOk X.prog X.w (az (az H e o1) D o2) h' e o1) (n2:ObjOk X.prog X.w (az (az H e o1) D o2) h' D o2):Inv X pins σ (az (az H e o1) D o2) { s with heap:=h',toks:=t' }:=by
 have hn:=I.hok.fresh hD
 have neD:e≠D:=aS he hn
 have old:∀ b o,H b=some o->b≠e->az (az H e o1) D o2 b=some o:=fun b o hb ne=>by rw [aG (aS hb hn),aG ne];exact hb
 have nt:∀ b o,H b=some o->(∀ ψ,o≠.ext ψ)->b≠e:=fun b o hb ne z=>by
  rw [z,he] at hb
  exact ne _ (BY hb).symm
 refine I.un ⟨?_,?_,?_,?_,?_,?_,?_⟩ ?_
 ·intro b o q hb _ _
  exact k b o (fun z=>by rw [z,he] at hb;cases hb) q
 ·intro b o q hb _ _
  exact ⟨o.slots,k b o (fun z=>by rw [z,he] at hb;cases hb) q⟩
 ·intro b o q hb _
  have h1:b≠e:=fun z=>by rw [z,he] at hb;cases hb
  have h2:b≠D:=fun z=>by
   rw [z] at q
   exact absurd (BI q) (Nat.not_lt_of_le hD)
  rw [aG h2,aG h1]
  exact hb
 ·intro b o q _
  by_cases z:b=e
  ·rw [z];exact heo
  ·exact ⟨o,k b o z q⟩
 ·intro b xs hb
  exact old b _ hb (nt b _ hb (fun ψ z=>nomatch z))
 ·intro b o u hb
  exact old b _ hb (nt b _ hb (fun ψ z=>nomatch z))
 ·intro b ps hb
  refine ⟨#[],?_⟩
  rw [Array.append_empty]
  exact old b _ hb (nt b _ hb (fun ψ z=>nomatch z))
 ·intro a o ha
  by_cases hd:a=D
  ·subst hd
   rw [ae] at ha
   cases ha
   exact n2
  ·rw [aG hd] at ha
   by_cases hx:a=e
   ·subst hx
    rw [ae] at ha
    cases ha
    exact n1
   ·rw [aG hx] at ha
    refine (I.hok a o ha).stay (fun b u hb q=>k b u ?_ q) (fun b hb=>old b _ hb (nt b _ hb (fun ψ z=>nomatch z))) (fun b xs hb=>old b _ hb (nt b _ hb (fun ψ z=>nomatch z)))
    rcases hb with rfl|hb
    ·exact hx
    ·exact nt b _ hb (fun ψ z=>nomatch z)
structure xX (H H':Hp) (e C:Addr) (d:Option Addr) (r:Bool) (d':Addr) (fs:List (Str×V)):Prop where
 at_:XAt H' e C (some d') r fs
 keep:∀ b o,H b=some o->b≠e->some b≠d->H' b=some o
 new:d=none->H d'=none
 old:∀ dx,d=some dx->d'=dx
theorem fE {P:Program} {w:World} {H:Hp} {h:Heap} {a:Addr} {φ:Heap->Prop} (p:φ h) (o:∃ o,h.get? a=some o) (st:∀ h1 h2:Heap,φ h1->(∀ o,h1.get? a=some o->h2.get? a=some o)->φ h2):ObjOk P w H h a (.ext φ):=⟨p,o,st⟩
theorem XO.stay {e C:Addr} {d:Option Addr} {r:Bool}:∀ h1 h2:Heap,XO e C d r h1->(∀ o,h1.get? e=some o->h2.get? e=some o)->XO e C d r h2:=fun h1 h2 ⟨vs,a0,h,z⟩ k=>⟨vs,a0,k _ h,z⟩
theorem DX.stay {dx:Addr} {fs:List (Str×V)}:∀ h1 h2:Heap,DX dx fs h1->(∀ o,h1.get? dx=some o->h2.get? dx=some o)->DX dx fs h2:=fun h1 h2 ⟨mA,n,r⟩ k=>⟨mA,n.at k,r⟩
theorem mU {mA:Str->Option Value} {u:Value} {y:V} (r:∀ f,RelO (fs.lookup f) (mA f)) (ry:RelV y u) (g:Str):RelO ((cR f y fs).lookup g) (if g=f then some u else mA g):=by
 rw [eE]
 by_cases q:g=f
 ·rw [if_pos q,if_pos q];exact ry
 ·rw [if_neg q,if_neg q];exact r g
theorem hI {mA:Str->Option Value} {u:Value} {y:V} (wi:PySem.Within mA (fs.map (·.1))):PySem.Within (fun g=>if g=f then some u else mA g) ((cR f y fs).map (·.1)):=fun g hg=>by
 by_cases q:g=f
 ·rw [q];exact (du f y fs).1
 ·refine (du f y fs).2 g (wi g fun z=>hg ?_)
  show (if g=f then some u else mA g)=none
  rw [if_neg q];exact z
theorem oh {y:V} {u:Value} {Q:Unit->Shared->Prop} (I:Inv X pins σ H s) (x:XAt H e C d rr fs) (c:XC X.K C nm bm) (n:NoAttr X.K C f) (hl:fs.length < 1000) (ry:RelV y u)
  (h:∀ s' H' d',Inv X pins σ H' s'->xX H H' e C d rr d' (cR f y fs)->Q () s'):wpAny (model X.prog X.w) A (setAttr (.ref e) f u) Q E s:=by
 obtain ⟨q0,N,bs,sn,sub,ab,col,dd,k0,k1,k2,k3,k5,lk⟩:=c.obj
 have hC:=I.kIn _ _ lk
 have LN:=PySem.W.looks_findIn (M:=model X.prog X.w) I.kIn (show PySem.W.findIn X.K (.ref C) f=some none from n)
 obtain ⟨vs,a0,ho,hv0⟩:=x.obj I
 have hl2:(cR f y fs).length<=1000:=by have:=eF f y fs;omega
 obtain ⟨hh,g,dr,t,os⟩:=s
 cases d with
 | none=>
  have hfs:fs=[]:=x.2.2
  subst hfs
  refine XB.xset_open (o:={ cls:=.ref C,dict:=none,data:=.fields vs }) (od:=none) I.kIn ⟨ho,rfl,rfl,True.intro⟩ c.sa (c.mro "object" true (by decide +kernel)) fun A'=>?_
  refine XB.xstore_new c.tl hC LN ho rfl (fun c z=>nomatch z) rfl fun h' tk' hx' hn' hk=>⟨rfl,?_⟩
  have neD:e≠hh.objs.size:=BX (BI ho)
  have nD:H hh.objs.size=none:=I.hok.fresh (BG _)
  refine h _ _ hh.objs.size (Inv.two (o1:=.ext (XO e C (some hh.objs.size) rr)) (o2:=.ext (DX hh.objs.size (cR f y []))) I x.1 (BG _) hk ⟨_,hx'⟩ ?_ ?_) ⟨⟨?_,hl2,neD.symm,ae⟩,?_,fun _=>nD,(fun dx z=>nomatch z)⟩
  ·exact fE ⟨vs,a0,hx',hv0⟩ ⟨_,hx'⟩ XO.stay
  ·refine fE ⟨_,hn',mU (mA:=fun _=>none) (fs:=[]) (fun _=>True.intro) ry,hI (mA:=fun _=>none) (fs:=[]) (fun g hg=>absurd rfl hg)⟩ ?_ DX.stay
   obtain ⟨o',_,_,e1,_⟩:=hn'
   exact ⟨o',e1⟩
  ·rw [aG neD,ae]
  ·intro b o hb ne _
   rw [aG (aS hb nD),aG ne]
   exact hb
 | some dx=>
  obtain ⟨mA,ns,r,wi⟩:=x.dict I
  obtain ⟨od,hd,_⟩:=eU ns
  obtain ⟨x1,x2,x3,x4⟩:=x
  refine XB.xset_open (o:={ cls:=.ref C,dict:=some dx,data:=.fields vs }) (od:=some od) I.kIn ⟨ho,rfl,rfl,hd⟩ c.sa (c.mro "object" true (by decide +kernel)) fun A'=>?_
  refine XB.xstore_old c.tl hC LN ho rfl rfl ns wi (by rw [BE,sizeLine_eq];omega) fun h' tk' hn' sb=>⟨rfl,?_⟩
  have hd':∃ o,h'.get? dx=some o:=let ⟨o,_,_,e',_⟩:=hn';⟨o,e'⟩
  refine h _ _ dx (I.write (o:=.ext (DX dx (cR f y fs))) (x:=dx) (e:=dx) (by rw [x4];exact True.intro) (.inl rfl) (fun b q hb z=>(sb.2 b hb).trans z) hd' ?_) ⟨⟨by rw [aG x3.symm];exact x1,hl2,x3,ae⟩,?_,(fun z=>nomatch z),fun _ z=>BY z⟩
  ·exact fE ⟨_,hn',mU r ry,hI wi⟩ hd' DX.stay
  ·intro b o hb _ ne
   rw [aG (fun z=>ne (by rw [z]))]
   exact hb
end
end L2
namespace L2
open PySem PySem.Spec PyProof.Rows
section
variable {X:Cx} {o e value:Expr} {f:Str} {pos pos' tpos:Pos} {ta tv:TE}
def uJ (K:PySem.W.Frag) (ta:TE) (f:Str):TE:=fun σ H Q=>ta σ H fun x H1=>∃ a C dx r fs nm bm v,x=.ref a/\XAt H1 a C (some dx) r fs/\XC K C nm bm/\NoAttr K C f/\fs.lookup f=some v/\Q v H1
theorem se (he:PE X e ta) (hb:attributeBase e f X.env (eval e X.env)=eval e X.env):PE X (.Attribute e f pos) (uJ X.K ta f):=by
 refine ⟨?_⟩
 intro pins s σ H Q I h
 refine mH hb (bA (he pins s σ H _ I h) fun u s1 ⟨x,H1,I1,rx,a,C,dx,r0,fs,nm,bm,v,ex,ea,c,n,l,q⟩=>?_)
 subst ex
 obtain rfl:u=Value.ref a:=rx
 exact og I1 ea c n l fun u' s2 I2 ru=>⟨v,H1,I2,ru,q⟩
def xY (K:PySem.W.Frag) (ta tv:TE) (f:Str):TS:=fun D σ H=>tv σ H fun y H1=>ta σ H1 fun x H2=>∃ a C d r fs nm bm,x=.ref a/\XAt H2 a C d r fs/\XC K C nm bm/\NoAttr K C f/\fs.length < 1000 /\
 ∀ H3 d',xX H2 H3 a C d r d' (cR f y fs)->D.nx σ H3
theorem sf (ha:PE X o ta) (hv:PE X value tv) (hs:swapsWith value (some (.Attribute o f pos')) pos.line X.env=pure false:=by rfl):PS X (.Assign [.Attribute o f pos'] value pos) (xY X.K ta tv f):=by
 refine ⟨?_⟩
 intro pins s σ H D I h
 refine plainObj_wpAny_Assign_Attribute (bA (hv pins s σ H _ I h) fun u s1 ⟨y,H1,I1,ry,q⟩=>bA (ha pins s1 σ H1 _ I1 q) fun ov s2 ⟨x,H2,I2,rx,a,C,d,r0,fs,nm,bm,ex,ea,c,n,l,q2⟩=>?_) hs
 subst ex
 obtain rfl:ov=Value.ref a:=rx
 exact oh I2 ea c n l ry fun s3 H3 d' I3 xs=>⟨σ,_,I3,q2 H3 d' xs⟩
end
section
variable {X:Cx} {CX:nX} {k:Nat} {f C:Addr} {fd:FuncData} {ps:List Str} {sp:Sp} {E:XK} {x m:Str} {p pos apos:Pos} {e o:Expr} {es:List Expr} {ta:TE} {t:TA} {nm:Str} {bm:List Value}
def pA (C:Addr) (sp:Sp) (E:XK) (t:TA):TE:=fun σ H Q=>t σ H fun vs H1=>∀ a,H1 a=none->sp (.ref a::vs) (az H1 a (.ext (XO a C none false))) (fun v H2=>v=.non/\Q (.ref a) H2) E
structure z5 (K:PySem.W.Frag) (C f:Addr):Prop where
 init:PySem.W.findIn K (.ref C) "__init__"=some (some (.ref f))
 fn:PySem.W.isFn K (.ref f)=true
 kp:PySem.W.keepIn K (.ref C)=true
theorem oi {pins:List (Addr×Obj)} {σ:St} {H:Hp} {s:Shared} {Q:VK} {us:List Value} {vs:List V} (c:XC X.K C nm bm) (M:z5 X.K C f) (F:aI X.prog X.w X.K X.mg X.base CX k f fd ps sp) (hr:Room (k+1) X.A) (hb:Binds X.K fd ps [])
  (hx:dE CX X E) (hps:ps.length<=1000) (I:Inv X pins σ H s) (r:Vals vs us)
  (h:∀ a,H a=none->sp (.ref a::vs) (az H a (.ext (XO a C none false))) (fun v H2=>v=.non/\Q (.ref a) H2) E) :
  wpAny (model X.prog X.w) X.A (call (.ref C) us) (EP X pins σ Q) X.xe s:=by
 obtain ⟨q0,N,bs,sn,sub,ab,col,dd,k0,k1,k2,k3,k5,lk⟩:=c.obj
 have hC:=I.kIn _ _ lk
 have LI:=PySem.W.looks_findIn (M:=model X.prog X.w) I.kIn M.init
 obtain ⟨oI,hfI,hfc⟩:∃ oI,s.heap.get? f=some oI/\oI.cls=.type "function":=by
  have ht:PySem.W.typeIn X.K (.ref f)=some (.type "function"):=beq_iff_eq.mp M.fn
  obtain ⟨o,ho,hc⟩:=Option.map_eq_some_iff.mp ht
  exact ⟨o,I.kIn _ _ ho,hc⟩
 have hq:=h (s.heap.objs.size+1) (I.hok.fresh (Nat.le_succ _))
 have r2:Vals (V.ref (s.heap.objs.size+1)::vs) (Value.ref (s.heap.objs.size+1)::us):=.cons rfl r
 have hl:(Value.ref (s.heap.objs.size+1)::us).length=ps.length:=by
  have e:=r2.length
  rw [F.len _ _ _ _ hq] at e
  exact e.symm
 have kp:∀ b o,s.heap.get? b=some o->((s.heap.push (XB.tupO us)).push (XB.excO C s.heap.objs.size)).get? b=some o:=fun b o hb=>BB _ (BB _ hb)
 have hget:((s.heap.push (XB.tupO us)).push (XB.excO C s.heap.objs.size)).get? (s.heap.objs.size+1)=some (XB.excO C s.heap.objs.size):=by
  have:=BU (s.heap.push (XB.tupO us)) (o:=XB.excO C s.heap.objs.size) rfl
  rwa [CP] at this
 have I2:=I.laid (a:=s.heap.objs.size+1) (o:=.ext (XO (s.heap.objs.size+1) C none false)) (t':=s.toks) kp (Nat.le_succ _) (fE ⟨_,s.heap.objs.size,hget,rfl,fun _=>rfl⟩ ⟨_,hget⟩ XO.stay)
 have hus:us.length<=sizeLine:=by
  rw [Bx] at hl
  rw [sizeLine_eq]
  omega
 obtain ⟨hh,g,d,t,os⟩:=s
 refine XB.xmake c.tl hC LI hfI hfc (wpAny_call (codeAny_mono (F.run _ X.stack _ _ ⟨Value.ref (hh.objs.size+1)::us,[]⟩ (Value.ref (hh.objs.size+1)::us) _ _ E (hr.make C us []) (I2.env0.make C us []) (by
  have:=hb ⟨(hh.push (XB.tupO us)).push (XB.excO C hh.objs.size),g,d,t,os⟩ (Value.ref (hh.objs.size+1)::us) I2.kIn (by rw [Co];exact hl)
  rw [Co] at this
  exact this) r2 hq) fun r s' hq'=>?_)) hus
 cases r with
 | error e=>exact hx pins σ _ _ e s' I2 hq'
 | ok fl=>
  cases fl with
  | ret u=>
   obtain ⟨v,H',I3,rv,ev,q3⟩:=I2.after hq'
   subst ev
   exact ⟨rv,⟨V.ref (hh.objs.size+1),H',I3,rfl,q3⟩⟩
  | next=>exact False.elim hq'
  | brk=>exact False.elim hq'
  | cont=>exact False.elim hq'
theorem pB (c:XC X.K C nm bm) (M:z5 X.K C f) (F:aI X.prog X.w X.K X.mg X.base CX k f fd ps sp) (hr:Room (k+1) X.A) (hg:Gl X x) (hm:X.mg x=some (.ref C)) (hb:Binds X.K fd ps []) (hx:dE CX X E) (hps:ps.length<=1000)
  (ha:PA X (e::es) t) (hdb:(x == ("__debug__":Str))=false:=by decide) (he:starEach (e::es) X.env=(false,eval e X.env)::starEach es X.env:=by rfl) (hpl:(backTo pos (starEach es X.env)).any (·.1)=false:=by rfl) :
  PE X (.Call (.Name x p) (e::es) [] pos) (pA C sp E t):=by
 refine ⟨?_⟩
 intro pins s σ H Q I h
 refine wpAny_Call_Name_kw (dC I hg hm ?_ hdb)
 refine CC (h₀:=X.base) I.ok.mod.kin M.kp (bA (ha pos pins s σ H _ I h) fun us s1 ⟨vs,H1,I1,r,q⟩=>⟨I1.kIn,?_⟩) he hpl
 exact oi c M F hr hb hx hps I1 r q
structure uK (K:PySem.W.Frag) (C:Addr) (m:Str) (f:Addr):Prop where
 rd:PySem.W.readsIn K C (.type "type")=true
 at_:PySem.W.findCls K (.ref C) (.type "type") m=some (.val (.ref f))
 kp:PySem.W.keepIn K (.ref f)=true
theorem pC {pl:Sem Bool} (M:uK X.K C m f) (F:aI X.prog X.w X.K X.mg X.base CX k f fd ps sp) (hr:Room k X.A) (hg:Gl X x) (hm:X.mg x=some (.ref C)) (hb:Binds X.K fd ps []) (hx:dE CX X E) (ha:PA X (e::es) t)
  (hdb:(x == ("__debug__":Str))=false:=by decide) (hst:starEach (e::es) X.env=(false,eval e X.env)::starEach es X.env:=by rfl) (hpl:(backTo pos (starEach es X.env)).any (·.1)=false:=by rfl)
  (ht:eval (.Call (.Attribute (.Name x p) m apos) (e::es) [] pos) X.env=(do
   let ov <-eval (.Name x p) X.env
   standAt apos.atName
   let (f,first) <-holding [ov] (getMethod ov m pl)
   callWith pos f first (backTo pos (starEach (e::es) X.env)) (backToKw pos (keywordEach [] X.env))):=by rfl) :
  PE X (.Call (.Attribute (.Name x p) m apos) (e::es) [] pos) (mI sp [] E t):=by
 refine ⟨?_⟩
 intro pins s σ H Q I h
 refine PySem.W.methodCall_KW (pl:=pl) (bA (bB (v:=.ref C) hg hm rfl hdb pins s σ H (fun v H1=>v=.ref C/\H1=H) I ⟨rfl,rfl⟩) fun u s1 ⟨xx,H1,I1,rx,ex,eh⟩=>?_) ht
 subst ex eh
 obtain rfl:u=Value.ref C:=rx
 refine XB.own_method I1.kIn M.rd M.at_ ?_
 refine CC (first:=[]) (h₀:=X.base) I.ok.mod.kin M.kp (bA (ha pos pins _ σ H1 _ (I1.tok _) h) fun us s2 ⟨vs,H2,I2,r,q2⟩=>⟨I2.kIn,?_⟩) hst hpl
 exact js (us:=us) (vs:=vs) (ds:=[]) (dvs:=[]) F hr hb .nil hx I2 r q2
theorem pE {H:Hp} {a:Addr} {o:HO} (h:H a=some o):az H a o=H:=by
 funext b
 unfold az
 by_cases z:b=a
 ·rw [if_pos z,z,h]
 ·rw [if_neg z]
def xZ (K:PySem.W.Frag) (t:TA):TE:=fun σ H Q=>t σ H fun vs H1=>∃ a rest C d r fs nm bm,vs=.ref a::rest/\rest.length<=1000/\XAt H1 a C d r fs/\XC K C nm bm/\Q .non H1
theorem sg {pl:Sem Bool} (hg:Gl X "ValueError") (hm:X.mg "ValueError"=none) (ha:PA X (e::es) t)
  (hst:starEach (e::es) X.env=(false,eval e X.env)::starEach es X.env:=by rfl) (hpl:(backTo pos (starEach es X.env)).any (·.1)=false:=by rfl)
  (ht:eval (.Call (.Attribute (.Name "ValueError" p) "__init__" apos) (e::es) [] pos) X.env=(do
   let ov <-eval (.Name "ValueError" p) X.env
   standAt apos.atName
   let (f,first) <-holding [ov] (getMethod ov "__init__" pl)
   callWith pos f first (backTo pos (starEach (e::es) X.env)) (backToKw pos (keywordEach [] X.env))):=by rfl) :
  PE X (.Call (.Attribute (.Name "ValueError" p) "__init__" apos) (e::es) [] pos) (xZ X.K t):=by
 refine ⟨?_⟩
 intro pins s σ H Q I h
 have hv:bootBuiltins "ValueError"=some (.type "ValueError"):=by decide +kernel
 refine PySem.W.methodCall_KW (pl:=pl) (bA (dY (n:="ValueError") hg hm hv (by decide) (by decide) pins s σ H (fun v H1=>v=.ty "ValueError"/\H1=H) I ⟨rfl,rfl⟩) fun u s1 ⟨xx,H1,I1,rx,ex,eh⟩=>?_) ht
 subst ex eh
 obtain rfl:u=Value.type "ValueError":=rx
 refine XB.val_method I1.kIn ?_
 refine PyProof.Rows.callWith_builtin1 (bA (ha pos pins _ σ H1 _ (I1.tok _) h) fun us s2 ⟨vs,H2,I2,r,a,rest,C,d,r0,fs,nm,bm,ev,hz,x,c,q2⟩=>?_) hst hpl
 subst ev
 cases r with
 | @cons _ u _ us' r0 rr=>
  obtain rfl:u=Value.ref a:=r0
  obtain ⟨q0,N,bs,sn,sub,ab,col,dd,k0,k1,k2,k3,k5,lk⟩:=c.obj
  have hC:=I2.kIn _ _ lk
  obtain ⟨vv,a0,ho,hv0,hv1⟩:=x.obj I2
  have hl:=rr.length
  obtain ⟨hh,g,d',t',os⟩:=s2
  refine wpAny_call (XB.xinit c.tl hC ho rfl rfl hv0 (by rw [sizeLine_eq];omega) fun h' vs' hk hx' ⟨a1,h1,h2⟩=>?_)
  have I3:=I2.write (o:=.ext (XO a C d r0)) (x:=a) (e:=a) (t':=t') (by rw [x.1];exact True.intro) (.inl rfl) (fun b q hb z=>hk b q hb z) ⟨_,hx'⟩ (fE ⟨vs',a1,hx',h1,fun z=>h2.trans (hv1 z)⟩ ⟨_,hx'⟩ XO.stay)
  rw [pE x.1] at I3
  exact ⟨.non,H2,I3,rfl,q2⟩
end
end L2
namespace L2
open PySem PySem.Spec PyProof.Rows
def ExT (e C:Addr) (d:Option Addr) (T:Addr) (fl:Value) (h:Heap):Prop:=
 ∃ (vs:Array Value) (a0:Addr) (oT:Obj) (ts:Array Value),h.get? e=some { cls:=.ref C,dict:=d,data:=.fields vs }/\vs[0]?=some (.ref a0)/\vs[1]?=some (.ref T)/\T≠e/\h.get? T=some oT/\oT.data=.fields ts/\ts[3]?=some fl
structure Wr (fs:List Addr) (e T:Addr) (h h':Heap):Prop where
 keep:∀ b o,h.get? b=some o->b∉fs->b≠e->b≠T->h'.get? b=some o
 slot:∀ b o,h.get? b=some o->b∈fs->∃ sl,h'.get? b=some { o with slots:=sl }
 old:∀ o,h.get? T=some o->∃ ts,o.data=.fields ts
 nf:T∉fs
def A0 (n:Nat) (H:Hp) (L:Addr) (pn:List Addr) (e C:Addr) (d:Option Addr) (h:Heap):Prop:=
 ∃ (vs:Array Value) (a0:Addr),h.get? e=some { cls:=.ref C,dict:=d,data:=.fields vs }/\vs[0]?=some (.ref a0)/\(vs[1]?=some .none\/∃ T fl,ExT e C d T fl h/\n<=T/\H T=none/\T∉pn/\(fl=.none\/fl=rawInt L))
theorem ExT.xo {e C:Addr} {d:Option Addr} {T:Addr} {fl:Value} {h:Heap} (x:ExT e C d T fl h):XO e C d true h:=by
 obtain ⟨vs,a0,_,_,h1,h2,_⟩:=x
 exact ⟨vs,a0,h1,h2,fun z=>nomatch z⟩
theorem ja {o:Obj} {ts:Array Value} {f:Array Value->Array Value} (hd:o.data=.fields ts) (hf:f ts=ts):o.mapFields f=o:=by
 obtain ⟨c,d,dt,sl⟩:=o
 cases hd
 show Obj.mk c d (.fields (f ts)) sl=_
 rw [hf]
section
variable {M:Model} {A:Around} {E:Value->Shared->Prop} {s:Shared} {base:Heap} {env:Env} {outer:List Env} {L e C T:Addr} {d:Option Addr} {fl:Value} {Q:Unit->Shared->Prop}
theorem fF {fr:Option Addr} (x:ExT e C d T fl s.heap) (h:∀ h',(∀ b o,s.heap.get? b=some o->b≠T->h'.get? b=some o)->ExT e C d T (fr.elim .none fun f=>rawInt f) h'->Q () { s with heap:=h' }):wpAny M A (setFlight (.ref e) fr) Q E s:=by
 obtain ⟨vs,a0,oT,ts,he,h0,h1,ne,hT,hd,h3⟩:=x
 have hsz:3 < ts.size:=(Array.getElem?_eq_some_iff.mp h3).1
 unfold setFlight
 refine wpAny_bind (wpAny_field he rfl h1 ?_)
 rw [if_pos (show (Value.ref T != Value.none)=true from by simp)]
 have k:∀ b o,s.heap.get? b=some o->b≠T->(s.heap.update T (Obj.mapFields (·.setIfInBounds 3 (fr.elim Value.none fun f=>rawInt f)))).get? b=some o:=fun b o e' hb=>by
  rw [Heap.get?_update_other _ _ (Ne.symm hb)]
  exact e'
 refine wpAny_setField hT hd hsz (h _ k ?_)
 have hd':=Obj.data_mapFields hd (·.setIfInBounds 3 (fr.elim Value.none fun f=>rawInt f))
 exact ⟨vs,a0,_,_,k _ _ he (Ne.symm ne),h0,h1,ne,Heap.get?_update_self _ hT (Obj.isFreed_of_fields hd'),hd',by simp [hsz]⟩
theorem jb {vs:Array Value} {a0:Addr} {head:Value} {hadNext:Bool} (hfr:A.frames=some (env::outer)) (hl:s.heap.FunFrames base (env::outer)) (hf:env.frame=some L)
  (he:s.heap.get? e=some { cls:=.ref C,dict:=d,data:=.fields vs }) (h0:vs[0]?=some (.ref a0)) (hsz:1 < vs.size)
  (h:∀ h',Wr (jp (env::outer)) e s.heap.objs.size s.heap h'->ExT e C d s.heap.objs.size (rawInt L) h'->Q () { s with heap:=h' }) :
  wpAny M A (do let a <-frameOf env;let pl <-entryPlaceOf L hadNext;let b <-EntryCells.newEntry head a .none (rawInt L) .none pl;setField (.ref e) 1 b) Q E s:=by
 have hene:e∉jp (env::outer):=fun hm=>by
  obtain ⟨_,o,ho,hnf⟩:=hl.mem hm
  rw [he] at ho;injection ho with ho;subst ho;exact hnf vs rfl
 refine wpAny_bind (wpAny_frameOf_fun hfr hl hf fun h₁ hs₁=>?_)
 refine wpAny_bind (wpAny_entryPlaceOf fun pl hpl=>?_)
 unfold EntryCells.newEntry newFields
 refine wpAny_bind (wpAny_newObj_type ?_ (hpl.sizeOk5 _ _ _ _ _))
 generalize hts:([head,.ref L,.none,rawInt L,.none]++(if pl.isEmpty then List.replicate 6 Value.none else pl)).toArray=ts
 have h3:ts[3]?=some (rawInt L):=by rw [<-hts];simp
 have he₁:h₁.get? e=some { cls:=.ref C,dict:=d,data:=.fields vs }:=(hs₁.2.1 e hene).trans he
 have he₂:=BB (h:=h₁) { cls:=.type "traceback",dict:=none,data:=.fields ts } he₁
 refine wpAny_setField he₂ rfl hsz ?_
 have hsize:h₁.objs.size=s.heap.objs.size:=hs₁.1
 have hTe:h₁.objs.size≠e:=Nat.ne_of_gt (BI he₁)
 have he₃:=Heap.get?_update_self (Obj.mapFields (·.setIfInBounds 1 (Value.ref h₁.objs.size))) he₂ rfl
 have hT₃:=(Heap.get?_update_other (h₁.push { cls:=.type "traceback",dict:=none,data:=.fields ts }) (Obj.mapFields (·.setIfInBounds 1 (Value.ref h₁.objs.size))) (Ne.symm hTe)).trans (BU h₁ rfl)
 have keep:∀ b o,b≠e->h₁.get? b=some o->((h₁.push { cls:=.type "traceback",dict:=none,data:=.fields ts }).update e (Obj.mapFields (·.setIfInBounds 1 (Value.ref h₁.objs.size)))).get? b=some o:=fun b o hbe hb=>by
  rw [Heap.get?_update_other _ _ (Ne.symm hbe)]
  exact BB _ hb
 rw [hsize] at he₃ hT₃ keep hTe ⊢
 refine h _ ⟨fun b o hb hbf hbe _=>keep b o hbe ((hs₁.2.1 b hbf).trans hb),fun b o hb hbf=>?_,fun o ho=>absurd (BI ho) (Ci _),fun hm=>?_⟩ ?_
 ·obtain ⟨sl,hs⟩:=hs₁.2.2 b o hb
  exact ⟨sl,keep b _ (fun z=>hene (z ▸ hbf)) hs⟩
 ·obtain ⟨_,o,ho,_⟩:=hl.mem hm
  exact absurd (BI ho) (Ci _)
 ·exact ⟨_,a0,_,ts,he₃,by rw [Array.getElem?_setIfInBounds_ne (by decide)];exact h0,by simp [hsz],hTe,hT₃,rfl,h3⟩
theorem kH {n:Nat} {H:Hp} {pn:List Addr} (hfr:A.frames=some (env::outer)) (hl:s.heap.FunFrames base (env::outer)) (hf:env.frame=some L) (x:A0 n H L pn e C d s.heap) (hn:n<=s.heap.objs.size)
  (hH:∀ a,s.heap.objs.size<=a->H a=none) (hp:∀ a∈pn,a < s.heap.objs.size)
  (h:∀ h' T,Wr (jp (env::outer)) e T s.heap h'->ExT e C d T (rawInt L) h'->n<=T->H T=none->T∉pn->Q () { s with heap:=h' }):wpAny M A (noteFrame (.ref e) env) Q E s:=by
 obtain ⟨vs,a0,he,h0,hm⟩:=x
 have new:∀ h',Wr (jp (env::outer)) e s.heap.objs.size s.heap h'->ExT e C d s.heap.objs.size (rawInt L) h'->Q () { s with heap:=h' }:=fun h' w q=>h h' _ w q hn (hH _ (BG _)) fun z=>absurd (hp _ z) (Ci _)
 unfold noteFrame
 simp only [hf]
 rcases hm with h1|⟨T,fl,x,nT,fT,pT,fl0|fl1⟩
 ·refine wpAny_bind (wpAny_field he rfl h1 ?_)
  rw [if_neg (by decide)]
  exact jb hfr hl hf he h0 (Array.getElem?_eq_some_iff.mp h1).1 new
 ·subst fl0
  obtain ⟨vs',a0',oT,ts,he',h0',h1,ne,hT,hd,h3⟩:=x
  rw [he] at he'
  have ev:vs=vs':=by injection he' with e1;injection e1 with _ _ e2 _;injection e2
  subst ev
  refine wpAny_bind (wpAny_field he rfl h1 ?_)
  rw [if_pos (show (Value.ref T != Value.none)=true from by simp)]
  refine wpAny_bind (wpAny_field hT hd h3 ?_)
  rw [if_neg (show ¬ ((Value.none == rawInt L)=true) from by simp [rawInt])]
  have hsz:3 < ts.size:=(Array.getElem?_eq_some_iff.mp h3).1
  refine wpAny_bind (wpAny_setField hT hd hsz ?_)
  have same:ts.setIfInBounds 3 Value.none=ts:=by
   apply Array.ext_getElem?
   intro i
   by_cases hi:3=i
   ·subst hi;rw [h3];simp [hsz]
   ·rw [Array.getElem?_setIfInBounds_ne hi]
  have all:∀ b,(s.heap.update T (Obj.mapFields (·.setIfInBounds 3 Value.none))).get? b=s.heap.get? b:=fun b=>by
   by_cases hb:b=T
   ·rw [hb]
    have:=Heap.get?_update_self (Obj.mapFields (·.setIfInBounds 3 Value.none)) hT (by rw [ja hd same];exact Obj.isFreed_of_fields hd)
    rw [this,ja hd same,hT]
   ·exact Heap.get?_update_other _ _ (Ne.symm hb)
  refine jb (hadNext:=true) hfr (hl.of_keeps fun b o hb _=>⟨o,(all b).trans hb,rfl⟩) hf ((all e).trans he) h0 (Array.getElem?_eq_some_iff.mp h1).1 fun h' w q=>?_
  have hs:(s.heap.update T (Obj.mapFields (·.setIfInBounds 3 Value.none))).objs.size=s.heap.objs.size:=Heap.size_after_update _ _ _
  dsimp only at w q
  rw [hs] at w q
  refine new h' ⟨fun b o hb=>w.keep b o ((all b).trans hb),fun b o hb=>w.slot b o ((all b).trans hb),fun o ho=>w.old o ((all _).trans ho),w.nf⟩ q
 ·subst fl1
  obtain ⟨vs',a0',oT,ts,he',h0',h1,ne,hT,hd,h3⟩:=id x
  refine wpAny_bind (wpAny_field he' rfl h1 ?_)
  rw [if_pos (show (Value.ref T != Value.none)=true from by simp)]
  refine wpAny_bind (wpAny_field hT hd h3 ?_)
  rw [if_pos (show (rawInt L == rawInt L)=true from by simp)]
  refine wpAny_pure ?_
  have:=h s.heap T ⟨fun b o hb _ _ _=>hb,fun b o hb _=>⟨o.slots,hb⟩,fun o ho=>?_,fun hm=>?_⟩ x nT fT pT
  ·exact this
  ·rw [hT] at ho;cases ho;exact ⟨ts,hd⟩
  ·obtain ⟨_,o,ho,hnf⟩:=hl.mem hm
   rw [hT] at ho;cases ho
   exact hnf ts hd
end
theorem Wr.then {fs:List Addr} {e T:Addr} {h h1 h2:Heap} (w:Wr fs e T h h1) (k:∀ b o,h1.get? b=some o->b≠T->h2.get? b=some o):Wr fs e T h h2:=
 ⟨fun b o hb hf he hT=>k b o (w.keep b o hb hf he hT) hT,fun b o hb hf=>let ⟨sl,q⟩:=w.slot b o hb hf;⟨sl,k b _ q fun z=>w.nf (z ▸ hf)⟩,w.old,w.nf⟩
theorem Wr.un {fs:List Addr} {e T C:Addr} {d:Option Addr} {fl:Value} {h h':Heap} {H:Hp} {φ:Heap->Prop} (w:Wr fs e T h h') (x:ExT e C d T fl h') (He:H e=some (.ext φ)):Un fs [T] H H h h':=by
 obtain ⟨vs,a0,oT,ts,he,_,_,_,hT,_⟩:=x
 refine ⟨fun b o hb n hf hT'=>w.keep b o hb hf (fun z=>by rw [z,He] at n;cases n) (by simpa using hT'),fun b o hb _ hf _=>w.slot b o hb hf,fun _ _ _ n _=>n,fun b o hb hT'=>?_,fun _ _ q=>q,fun _ _ _ q=>q,fun b ps q=>⟨#[],by rw [q];simp⟩⟩
 by_cases hbe:b=e
 ·exact ⟨_,hbe ▸ he⟩
 ·by_cases hf:b∈fs
  ·obtain ⟨sl,q⟩:=w.slot b o hb hf;exact ⟨_,q⟩
  ·exact ⟨o,w.keep b o hb hf hbe (by simpa using hT')⟩
theorem Wr.hok {P:Program} {wd:World} {fs:List Addr} {e T C:Addr} {d:Option Addr} {fl:Value} {h h':Heap} {H:Hp} (w:Wr fs e T h h') (x:ExT e C d T fl h') (He:H e=some (.ext (XO e C d true))) (hT:H T=none) (hf:∀ b∈fs,H b=none) (ok:HOk P wd H h):HOk P wd H h':=by
 intro a o ha
 have k:∀ b o',H b=some o'->b≠e->∀ u,h.get? b=some u->h'.get? b=some u:=fun b o' hb ne u q=>w.keep b u q (fun z=>by rw [hf b z] at hb;cases hb) ne (aS hb hT)
 by_cases hae:a=e
 ·subst hae
  rw [He] at ha;cases ha
  obtain ⟨vs,a0,oT,ts,he,_⟩:=id x
  exact fE x.xo ⟨_,he⟩ XO.stay
 ·refine (ok a o ha).stay (fun b u hb q=>?_) (fun _ q=>q) fun _ _ q=>q
  rcases hb with rfl|hb
  ·exact k _ _ ha hae u q
  ·exact k _ _ hb (fun z=>by rw [z,He] at hb;cases hb) u q
end L2
namespace L2
open PySem PySem.Spec PyProof.Rows
def rB (P:Program) (w:World):nX:=fun outer H s E e s'=>∃ a H' C d T,e=.ref a/\s'.os=s.os/\AllBare s'.gens/\Un (jp outer) [] H H' s.heap s'.heap/\HOk P w H' s'.heap/\H' a=some (.ext (XO a C d true))/\ExT a C d T .none s'.heap /\
 s.heap.objs.size<=T/\H' T=none/\E e none H'
def x6 (X:Cx) (H:Hp) (h:Heap) (a:Addr):Prop:=∃ C d,H a=some (.ext (XO a C d true))/\A0 X.s₀.heap.objs.size H X.env.locals (X.pn.map (·.1)) a C d h
def jy (X:Cx) (ES:St->XK) (e:Value) (s:Shared):Prop:=∃ a σ H,e=.ref a/\Inv X [] σ H s/\x6 X H s.heap a/\ES σ e none H
def zz (X:Cx) (ES:St->XK):Prop:=∀ e s',jy X ES e s'->X.xe e s'
abbrev Cx.esc (X:Cx) (ES:St->XK):Cx:=X.wish (jy X ES)
section
variable {X:Cx} {pins:List (Addr×Obj)} {σ:St} {H:Hp} {s:Shared} {ES:St->XK} {E:XK}
theorem kI:zz (X.esc ES) ES:=fun e s' ⟨a,σ,H,h1,I,⟨C,d,h2,h3⟩,h4⟩=>⟨a,σ,H,h1,I.unwish,⟨C,d,h2,h3⟩,h4⟩
theorem Inv.pn_lt (I:Inv X pins σ H s):∀ a∈X.pn.map (·.1),a < s.heap.objs.size:=fun a ha=>by
 obtain ⟨p,hp,rfl⟩:=Cn.mp ha
 exact BI (I.pin p (CG _ hp)).1
theorem Inv.frame1 (I:Inv X pins σ H s) (hst:X.stack=X.env::X.outer):X.env.frame=some X.env.locals:=by
 rcases I.ok.stk with e|⟨_,e⟩
 ·rw [hst] at e
  exact absurd e (by intro z;have:=congrArg List.length z;simp at this)
 ·exact e
theorem Inv.wr {e T C:Addr} {d:Option Addr} {fl:Value} {h':Heap} (I:Inv X pins σ H s) (W:Wr (jp X.stack) e T s.heap h') (x:ExT e C d T fl h') (He:H e=some (.ext (XO e C d true))) (hT:H T=none) (hn:X.s₀.heap.objs.size<=T)
  (hp:∀ p∈X.pn++pins,p.1≠T):Inv X pins σ H { s with heap:=h' }:=by
 have:=I.call (g':=s.gens) (t':=s.toks) (d':=s.drawn) (ch:=[T]) (W.un x He) (W.hok x He hT I.stkFree I.hok) I.bare (fun b hb=>?_)
 ·exact this
 ·have hb':b=T:=by simpa using hb
  subst hb'
  refine ⟨.inr hn,fun z=>?_,fun y c hc z=>?_,hp⟩
  ·obtain ⟨m,⟨o,es,ep,ho,hd,_⟩,_⟩:=I.loc
   obtain ⟨ts,hd'⟩:=W.old o (by rw [z];exact ho)
   rw [hd] at hd';cases hd'
  ·obtain ⟨v,o,ho,hd⟩:=I.cell y c hc
   obtain ⟨ts,hd'⟩:=W.old o (by rw [<-z];exact ho)
   rw [hd] at hd';cases hd'
theorem Inv.nopins (I:Inv X pins σ H s):Inv X [] σ H s:=Inv.unpinned (pins:=[]) (pl:=pins) I
theorem x9 {e:Value} {s':Shared} (I:Inv X pins σ H s) (h:rB X.prog X.w X.stack H s (ES σ) e s'):jy X ES e s':=by
 obtain ⟨a,H',C,d,T,rfl,os,bare,un,hok,He,x,nT,fT,q⟩:=h
 have J:Inv X pins σ H' s':=I.call' (ch:=[]) os un hok bare (fun b z=>absurd z (by simp))
 obtain ⟨vs,a0,oT,ts,he,h0,h1,_⟩:=id x
 exact ⟨a,σ,H',rfl,J.nopins,⟨C,d,He,vs,a0,he,h0,.inr ⟨T,.none,x,BN I.sz nT,fT,fun z=>absurd (BQ (I.pn_lt T z) nT) (Ci _),.inl rfl⟩⟩,q⟩
end
theorem PSs.wishTo {X:Cx} {E:Value->Shared->Prop} {st:List Stmt} {t:TS} (h:PSs (X.wish E) st t) (k:∀ e s',E e s'->X.xe e s'):PSs X st t:=⟨fun pins s σ H D I hw=>
 wpAny_mono (h pins s σ H D (I.wish _) hw) (fun _ _ q=>q.unwish) fun e s' z=>k e s' z⟩
section
variable {P:Program} {w:World} {K:PySem.W.Frag} {mg:Str->Option Value} {base:Heap}
theorem vw {N:List Str} {qual:Str} {sc:Scope} {f:Addr} {cd:Value} {A:Around} {outer:List Env} {s:Shared} {H:Hp} {E:XK} (e:Value) (s':Shared)
  (h:jy (jt (rB P w) P w K mg base N qual sc f cd A outer s H E) (fun _=>E) e s'):(jt (rB P w) P w K mg base N qual sc f cd A outer s H E).xe e s':=by
 obtain ⟨a,σ,H',he,I,⟨C,d,He,fl⟩,q⟩:=h
 subst he
 show wpAny (model P w) _ (leaving _ (.ref a)) _ _ s'
 unfold leaving
 refine wpAny_bind (kH (base:=base) I.ok.frames I.stack rfl fl I.sz (fun b hb=>I.hok.fresh hb) I.pn_lt fun h' T w x nT fT pT=>fF (s:={ s' with heap:=h' }) x fun h'' k x'=>?_)
 have W:=w.then k
 have J:=I.wr (h':=h'') W x' He fT nT (fun p hp=>absurd hp (by show p∉([]:List (Addr×Obj))++[];simp))
 exact ⟨a,H',C,d,T,rfl,J.os,J.bare,J.base,J.hok,He,x',nT,fT,q⟩
theorem Fun.okX {x qual:Str} {st:Stmt} {f:Addr} {fd:FuncData} {N ps:List Str} {k:Nat} {sp:Sp} (F:Fun K x qual st f fd) (S:aq N ps (al st)) (len:∀ vs H Q E,sp vs H Q E->vs.length=ps.length)
  (hbody:∀ (cdv:Value) (A:Around) (outer:List Env) (s:Shared) (H:Hp) (vs:List V) (Q:VK) (E:XK),Room k (A.deeper (envOfC qual (al st) s.heap.objs.size f cdv))->sp vs H Q E->
   ∃ t,PSs ((jt (rB P w) P w K mg base N qual (al st) f cdv A outer s H E).esc fun _=>E) (bX st) t/\t { nx:=fun _ H'=>Q .non H',rt:=Q } (fQ N vs) H):aI P w K mg base (rB P w) (k+1) f fd ps sp:=by
 obtain ⟨oc,od,kV,doc,pm,an,cdv,ct,osl,rfl,lk,hcd⟩:=F.ex
 refine uC lk hcd S len fun A outer s H vs Q E hr hsp=>?_
 obtain ⟨t,h,q⟩:=hbody cdv A outer s H vs Q E hr hsp
 exact ⟨t,h.wishTo vw,q⟩
end
section
variable {X:Cx} {k:Nat} {f C:Addr} {fd:FuncData} {ps:List Str} {sp:Sp} {dvs:List V} {ds:List Value} {ES:St->XK} {x m:Str} {p pos apos:Pos} {e o:Expr} {es:List Expr} {ta:TE} {t:TA}
theorem sh {pins:List (Addr×Obj)} {σ:St} {H:Hp} {s:Shared} {Q:VK} {us:List Value} {vs:List V} (F:aI X.prog X.w X.K X.mg X.base (rB X.prog X.w) k f fd ps sp) (hr:Room k X.A) (hb:Binds X.K fd ps ds) (hd:Vals dvs ds) (hx:zz X ES)
  (I:Inv X pins σ H s) (r:Vals vs us) (h:sp (vs++dvs) H Q (ES σ)):wpAny (model X.prog X.w) X.A (call (.ref f) us) (EP X pins σ Q) X.xe s:=by
 have r2:Vals (vs++dvs) (us++ds):=r.append hd
 have hl:(us++ds).length=ps.length:=by rw [<-r2.length];exact F.len _ _ _ _ h
 refine wpAny_call (codeAny_mono (F.run X.A X.stack s H ⟨us,[]⟩ (us++ds) (vs++dvs) Q (ES σ) hr I.env0 (hb s us I.kIn hl) r2 h) fun r s' hq=>?_)
 cases r with
 | error e=>exact hx e s' (x9 I hq)
 | ok fl=>
  cases fl with
  | ret u=>exact I.after hq
  | next=>exact False.elim hq
  | brk=>exact False.elim hq
  | cont=>exact False.elim hq
def vx (sp:Sp) (dvs:List V) (ES:St->XK) (t:TA):TE:=fun σ H Q=>t σ H fun vs H1=>sp (vs++dvs) H1 Q (ES σ)
theorem pF (F:aI X.prog X.w X.K X.mg X.base (rB X.prog X.w) k f fd ps sp) (hr:Room k X.A) (hg:Gl X x) (hm:X.mg x=some (.ref f)) (hk:PySem.W.keepIn X.K (.ref f)=true) (hb:Binds X.K fd ps ds) (hd:Vals dvs ds) (hx:zz X ES)
  (ha:PA X (e::es) t) (hdb:(x == ("__debug__":Str))=false:=by decide) (he:starEach (e::es) X.env=(false,eval e X.env)::starEach es X.env:=by rfl) (hpl:(backTo pos (starEach es X.env)).any (·.1)=false:=by rfl) :
  PE X (.Call (.Name x p) (e::es) [] pos) (vx sp dvs ES t):=by
 refine ⟨?_⟩
 intro pins s σ H Q I h
 refine wpAny_Call_Name_kw (dC I hg hm ?_ hdb)
 refine CC (h₀:=X.base) I.ok.mod.kin hk (bA (ha pos pins s σ H _ I h) fun us s1 ⟨vs,H1,I1,r,q⟩=>⟨I1.kIn,?_⟩) he hpl
 exact sh F hr hb hd hx I1 r q
end
end L2
namespace L2
open PySem PySem.Spec PyProof.Rows
section
variable {prog:Program} {w:World} {A:Around} {E:Value->Shared->Prop} {h:Heap} {g:Array GenState} {dr:Drawn} {t:Nat} {os:OsState}
theorem jc {a:Addr} {o:Obj} {vs:Array Value} {Q:Bool->Shared->Prop} (ha:h.get? a=some o) (hd:o.data=.fields vs) (hq:Q false ⟨h,g,dr,t,os⟩):wpAny (model prog w) A (isType (.ref a)) Q E ⟨h,g,dr,t,os⟩:=by
 simp only [isType,loadHead]
 refine wpAny_bind (wpAny_loadPart ha ?_)
 rw [hd];exact wpAny_pure hq
theorem cU {a:Addr} {o:Obj} {Q:Value->Shared->Prop} (ha:h.get? a=some o) (hq:Q o.cls ⟨h,g,dr,t,os⟩):wpAny (model prog w) A (typeOf (.ref a)) Q E ⟨h,g,dr,t,os⟩:=by
 simp only [typeOf]
 exact wpAny_bind (wpAny_loadPart ha (wpAny_pure hq))
end
section
variable {X:Cx} {pins:List (Addr×Obj)} {σ:St} {H:Hp} {s:Shared} {ES:St->XK} {e:Expr} {te:TE} {pos:Pos}
def pG (K:PySem.W.Frag) (te:TE) (ES:St->XK):TS:=fun _ σ H=>te σ H fun x H1=>∃ a C d fs nm bm,x=.ref a/\XAt H1 a C d false fs/\XC K C nm bm/\ES σ (.ref a) none (az H1 a (.ext (XO a C d true)))
theorem pH (he:PE X e te) (hx:zz X ES) (hc:X.calm=true):PS X (.Raise (some e) none pos) (pG X.K te ES):=by
 refine ⟨fun pins s σ H D I h=>?_⟩
 show wpAny _ _ (do standAt pos;raiseStmt X.env (some (do let v <-eval e X.env;standAt pos;pure v)) none) _ _ s
 refine wpAny_bind (wpAny_standAt ?_)
 unfold raiseStmt
 dsimp only
 refine wpAny_bind (wpAny_bind (wpAny_mono (he pins s σ H _ I h) (fun v s₁ h₁=>wpAny_bind (wpAny_standAt (wpAny_pure ?_))) fun _ _ x=>x))
 obtain ⟨x,H1,I1,rx,a,C,d,fs,nm,bm,ex,xa,c,q⟩:=h₁
 subst ex
 obtain rfl:v=Value.ref a:=rx
 obtain ⟨vs,a0,ha,h0,h1⟩:=xa.obj I1
 have hb:(Value.ref C::bm).contains (.type "BaseException")=true:=c.tl.has C "BaseException" true (by decide +kernel)
 obtain ⟨q0,N,bs,sn,sub,ab,col,dd,k0,k1,k2,k3,k5,lk⟩:=c.obj
 have hC:=I1.kIn _ _ lk
 have hh:X.A.handled=none:=I1.ok.hd hc
 have I2:=I1.write (o:=.ext (XO a C d true)) (x:=a) (e:=a) (t':=s₁.toks) (h':=s₁.heap) (by rw [xa.1];exact True.intro) (.inl rfl) (fun b u _ z=>z) ⟨_,ha⟩ (fE ⟨vs,a0,ha,h0,fun z=>nomatch z⟩ ⟨_,ha⟩ XO.stay)
 have fin:X.xe (.ref a) s₁:=hx _ _ ⟨a,σ,_,rfl,I2.nopins,⟨C,d,ae,vs,a0,ha,h0,.inl (h1 rfl)⟩,q⟩
 obtain ⟨hp,g,dr,t,os⟩:=s₁
 refine wpAny_bind (wpAny_pure ?_)
 dsimp only
 refine wpAny_bind (wpAny_holding ?_)
 unfold excFromValue isExcClass
 refine wpAny_bind (wpAny_bind (jc ha rfl ?_))
 simp only [Bool.false_eq_true,if_false]
 refine wpAny_pure ?_
 simp only [Bool.false_eq_true,if_false]
 unfold isInstance
 refine wpAny_bind (wpAny_bind (cU ha (wpAny_isSubtype_exc hC ?_)))
 rw [hb]
 simp only [if_true]
 refine wpAny_pure ?_
 refine wpAny_bind (jc ha rfl ?_)
 simp only [Bool.false_eq_true,if_false]
 unfold raisedInstance
 refine wpAny_bind (wpAny_bind (cU ha (wpAny_bind (cU hC ?_))))
 rw [if_pos (by rfl)]
 refine wpAny_pure ?_
 unfold setFlight raiseNew
 refine wpAny_bind (wpAny_bind (wpAny_field ha rfl (h1 rfl) ?_))
 rw [if_neg (by decide)]
 refine wpAny_pure (wpAny_bind (wpAny_handled ?_))
 rw [hh]
 first
  | exact wpAny_throw fin
  | exact wpAny_bind (wpAny_pure (wpAny_throw fin))
end
end L2
namespace L2
open PySem PySem.Spec PyProof.Rows
section
variable {prog:Program} {w:World} {A:Around} {E:Value->Shared->Prop} {h:Heap} {g:Array GenState} {dr:Drawn} {t:Nat} {os:OsState}
theorem lS {a:Addr} {o:Obj} {cd:ClassData} {Q:Bool->Shared->Prop} (ha:h.get? a=some o) (hd:o.data=.cls cd) (hq:Q true ⟨h,g,dr,t,os⟩):wpAny (model prog w) A (isType (.ref a)) Q E ⟨h,g,dr,t,os⟩:=by
 simp only [isType,loadHead]
 refine wpAny_bind (wpAny_loadPart ha ?_)
 rw [hd];exact wpAny_pure hq
theorem pI {e C C':Addr} {oe:Obj} {nm q nm' q':Str} {N N':Addr} {bs bm bs' bm':List Value} {hdct hdct':Bool} {sn sn' sub sub' ab ab' col col' dd dd' k0 k0' k1 k1' k2 k2' k3 k3' k5 k5' newId newId'} {Q:Bool->Shared->Prop} (he:h.get? e=some oe) (hcls:oe.cls=.ref C) (hC:h.get? C=some (excClassObj nm q C N bs bm hdct sn sub ab col dd k0 k1 k2 k3 k5 newId))
  (hC':h.get? C'=some (excClassObj nm' q' C' N' bs' bm' hdct' sn' sub' ab' col' dd' k0' k1' k2' k3' k5' newId')) (hb':(Value.ref C'::bm').contains (.type "BaseException")=true) (hq:Q ((Value.ref C::bm).contains (.ref C')) ⟨h,g,dr,t,os⟩) :
  wpAny (model prog w) A (excMatches (.ref e) (.ref C')) Q E ⟨h,g,dr,t,os⟩:=by
 unfold excMatches isInstance
 refine wpAny_bind (wpAny_bind (cU hC' (wpAny_of_eq (a:=false) (by rfl) ?_)))
 simp only [Bool.false_eq_true,if_false]
 refine wpAny_bind (wpAny_pure ?_)
 simp only [forIn,ForIn.forIn,List.forIn'_cons,List.forIn'_nil,List.forIn_cons,List.forIn_nil]
 unfold isExcClass
 refine wpAny_bind ?_
 refine wpAny_bind ?_
 refine wpAny_bind (wpAny_bind (lS hC' rfl ?_))
 simp only [if_true]
 refine wpAny_isSubtype_exc hC' ?_
 rw [hb']
 simp only [Bool.not_true,Bool.false_eq_true,if_false]
 refine wpAny_pure (wpAny_pure ?_)
 refine wpAny_bind (cU he ?_)
 rw [hcls]
 refine wpAny_bind (wpAny_bind (wpAny_bind (wpAny_isSubtype_exc hC ?_)))
 generalize (Value.ref C::bm).contains (.ref C')=b at hq ⊢
 cases b with
 | true=>
  simp only [if_true]
  exact wpAny_pure (wpAny_pure (wpAny_pure hq))
 | false=>
  simp only [Bool.false_eq_true,if_false]
  exact wpAny_pure (wpAny_pure (wpAny_pure hq))
end
abbrev Cx.alt (X:Cx) (A:Around) (calm:Bool) (pn:List (Addr×Obj)) (xe:Value->Shared->Prop):Cx:={ X with A:=A,calm:=calm,pn:=pn,xe:=xe }
abbrev Cx.bear (X:Cx) (pn:List (Addr×Obj)):Cx:=X.alt X.A X.calm pn X.xe
abbrev Cx.suite (X:Cx) (A:Around) (pn:List (Addr×Obj)):Cx:=X.alt A false pn fun _ _=>False
section
variable {X:Cx} {pins pins' pn:List (Addr×Obj)} {σ:St} {H:Hp} {s:Shared} {A:Around} {calm:Bool} {xe:Value->Shared->Prop}
theorem Inv.alt (I:Inv X pins σ H s) (hA:A.frames=some X.stack) (hc:calm=true->A.handled=none) (hp:∀ p∈pn++pins',p∈X.pn++pins):Inv (X.alt A calm pn xe) pins' σ H s:=
 ⟨⟨I.ok.mod,I.ok.kind,I.ok.glob,I.ok.blt,I.ok.above,I.ok.inj,I.ok.has,I.ok.cab,hc,hA,I.ok.stk,I.ok.exf,I.ok.bs,I.ok.bsz,I.ok.noex,I.ok.exfs,I.ok.funs,I.ok.frf⟩,I.os,I.bare,I.base,I.loc,I.cell,I.free,I.freeC,fun p h=>I.pin p (hp p h),I.hok,I.len⟩
theorem Inv.unalt (I:Inv (X.alt A calm pn xe) pins' σ H s) (ok:X.Ok) (hp:∀ p∈X.pn++pins,p∈pn++pins'):Inv X pins σ H s:=
 ⟨ok,I.os,I.bare,I.base,I.loc,I.cell,I.free,I.freeC,fun p h=>I.pin p (hp p h),I.hok,I.len⟩
theorem Inv.unset {i:Nat} {n:Str} {m:Str->Option Value} {v:Option Value} {h':Heap} {t':Nat} (I:Inv X pins σ H s) (hN:X.N.Nodup) (hi:X.N[i]?=some n) (hn:s.heap.Ns X.env.locals m) (hl:∀ (i:Nat) (x:Str) (v:V),X.N[i]?=some x->σ[i]?=some (some v)->zk X.env.scope x->∃ u,RelV v u/\xt X.env s.heap m x u)
  (hn':h'.Ns X.env.locals fun x=>if x=n then v else m x) (hs:Heap.SameBut X.env.locals s.heap h'):Inv X pins (σ.set i none) H { s with heap:=h',toks:=t' }:=by
 have hiσ:i < σ.length:=by rw [I.len];exact (BM.mp hi).1
 have cne:=I.cne
 obtain ⟨oL,_,_,hoL,_⟩:=id hn
 refine ⟨I.ok,I.os,I.bare,⟨fun b o e n hb hx=>?_,fun b o e n hb hx=>?_,I.base.free,fun b o e hx=>?_,I.base.tups,I.base.frzs,I.base.tbls⟩,⟨_,hn',fun j y v' e1 e2 e3=>?_⟩,fun y c e=>?_,I.free,I.freeC,fun p hp=>?_,fun b ob e=>?_,by simpa using I.len⟩
 ·exact (hs.2 b (BX (BQ (BI e) I.ok.above))).trans (I.base.keep b o e n hb hx)
 ·obtain ⟨sl,e1⟩:=I.base.slot b o e n hb hx
  exact ⟨sl,(hs.2 b (BX (BQ (BI e) I.ok.above))).trans e1⟩
 ·obtain ⟨o',e1⟩:=I.base.there b o e hx
  exact ⟨o',(hs.2 b (BX (BQ (BI e) I.ok.above))).trans e1⟩
 ·by_cases hj:j=i
  ·subst hj
   rw [List.getElem?_set_self hiσ] at e2
   cases e2
  ·rw [List.getElem?_set_ne (Ne.symm hj)] at e2
   obtain ⟨u',r',q⟩:=hl j y v' e1 e2 e3
   refine ⟨u',r',?_⟩
   rcases q with ⟨k,e⟩|⟨k,c,e,z⟩
   ·refine .inl ⟨k,?_⟩
    have:y≠n:=fun e=>hj (gU hN e1 (e ▸ hi))
    simp [this,e]
   ·exact .inr ⟨k,c,e,z.sameBut hs (cne y c e)⟩
 ·obtain ⟨w',z⟩:=I.cell y c e
  exact ⟨w',z.sameBut hs (cne y c e)⟩
 ·obtain ⟨e,n,ne,nf,d⟩:=I.pin p hp
  exact ⟨(hs.2 p.1 ne).trans e,n,ne,nf,d⟩
 ·refine (I.hok b ob e).stay (fun c w' hc q=>(hs.2 c ?_).trans q) (fun _ q=>q) fun _ _ q=>q
  rintro rfl
  rcases hc with rfl|hc
  ·rw [I.free] at e;cases e
  ·rw [I.free] at hc;cases hc
end
section
variable {X:Cx} {body suite:List Stmt} {b₀:Stmt} {tb:(St->XK)->TS} {th:TS} {n cn:Str} {cp hpos pos:Pos} {i:Nat} {C':Addr} {nm':Str} {bm':List Value}
def Ends.drop (D:Ends) (i:Nat):Ends:={ nx:=fun σ H=>D.nx (σ.set i none) H,rt:=D.rt,bk:=fun σ H=>D.bk (σ.set i none) H,ct:=fun σ H=>D.ct (σ.set i none) H }
def pJ (K:PySem.W.Frag) (C':Addr) (i:Nat) (th:TS) (D:Ends):St->XK:=fun σ e _ H=>∃ a C d fs nm bm,e=.ref a/\XAt H a C d true fs/\XC K C nm bm/\(Value.ref C::bm).contains (.ref C')=true/\th (D.drop i) (σ.set i (some (.ref a))) H
def z6 (K:PySem.W.Frag) (tb:(St->XK)->TS) (C':Addr) (i:Nat) (th:TS):TS:=fun D σ H=>tb (pJ K C' i th D) D σ H
theorem si {H:Hp} {a C C2:Addr} {d d2:Option Addr} {fs:List (Str×V)} {h:Heap} {P:Program} {w:World} (x:XAt H a C d true fs) (ok:HOk P w H h) (y:∃ vs:Array Value,h.get? a=some { cls:=.ref C2,dict:=d2,data:=.fields vs }):C=C2/\d=d2:=by
 obtain ⟨⟨vs,a0,h1,_⟩,_⟩:=(show ObjOk P w H h a (.ext (XO a C d true)) from ok a _ x.1)
 obtain ⟨vs2,h2⟩:=y
 rw [h1] at h2
 injection h2 with h3
 injection h3 with h4 h5
 injection h4 with h6
 exact ⟨h6,h5⟩
set_option maxHeartbeats 1000000 in
theorem vy (hst:X.stack=X.env::X.outer) (hb:∀ (pn:List (Addr×Obj)) (ES:St->XK),PSs ((X.bear pn).esc ES) body (tb ES)) (hs:∀ (A:Around) (pn:List (Addr×Obj)),PSs (X.suite A pn) (b₀::suite) th)
  (hg:Gl X cn) (hm:X.mg cn=some (.ref C')) (c':XC X.K C' nm' bm') (hN:X.N.Nodup) (hi:X.N[i]?=some n) (hl:X.env.kindOf n=some .local) (hdb:(cn == ("__debug__":Str))=false:=by decide) :
  PS X (.Try body [.ExceptHandler (some (.Name cn cp)) (some n) (b₀::suite) hpos] [] [] pos) (z6 X.K tb C' i th):=by
 refine ⟨fun pins s σ H D I h=>?_⟩
 have ok:=I.ok
 have I0:Inv (X.bear (X.pn++pins)) [] σ H s:=I.alt ok.frames ok.hd (fun p hp=>by rwa [Co] at hp)
 have back:∀ {A calm xe σ H s},Inv (X.alt A calm (X.pn++pins) xe) [] σ H s->Inv X pins σ H s:=fun J=>J.unalt ok (fun p hp=>by rwa [Co])
 refine wpAny_Try_except (wpAny_mono ((hb (X.pn++pins) (pJ X.K C' i th D)) [] s σ H D (I0.wish _) h) (fun f s1 h1=>?_) fun e s1 h1=>?_)
 ·cases f with
  | next=>
   obtain ⟨σ',H',J,q⟩:=h1
   exact wpAny_pure ⟨σ',H',back J,q⟩
  | brk=>obtain ⟨σ',H',J,q⟩:=h1;exact ⟨σ',H',back J,q⟩
  | cont=>obtain ⟨σ',H',J,q⟩:=h1;exact ⟨σ',H',back J,q⟩
  | ret u=>obtain ⟨v,σ',H',J,r,q⟩:=h1;exact ⟨v,σ',H',back J,r,q⟩
 ·obtain ⟨a,σ1,H1,ea,J,⟨C,d,He,fl⟩,a',Cx',d',fs,nm,bm,e1,xa,c,hc,q⟩:=h1
  subst ea
  cases e1
  have hf:X.env.frame=some X.env.locals:=I.frame1 hst
  have hfr:X.A.frames=some (X.env::X.outer):=by rw [ok.frames,hst]
  have hl':s1.heap.FunFrames X.base (X.env::X.outer):=by rw [<-hst];exact J.stack
  refine kH hfr hl' hf fl J.sz (fun b hb=>J.hok.fresh hb) J.pn_lt fun h2 T w x nT fT pT=>fF (s:={ s1 with heap:=h2 }) x fun h3 k x3=>?_
  have W:=w.then k
  rw [<-hst] at W
  have ec:=si xa J.hok (by obtain ⟨vs,a0,z,_⟩:=fl;exact ⟨vs,z⟩)
  obtain ⟨rfl,rfl⟩:=ec
  have J3:Inv (X.bear (X.pn++pins)) [] σ1 H1 { s1 with heap:=h3 }:=J.wr (h':=h3) W x3 He fT nT (fun p hp z=>pT (by rw [Co] at hp;exact z ▸ List.mem_map_of_mem hp))
  obtain ⟨q0,N,bs,sn,sub,ab,col,dd,k0,k1,k2,k3,k5,lk⟩:=c.obj
  obtain ⟨q0',N',bs',sn',sub',ab',col',dd',k0',k1',k2',k3',k5',lk'⟩:=c'.obj
  have hC:=J3.kIn _ _ lk
  have hC':=J3.kIn _ _ lk'
  have J4:Inv (X.suite (X.A.mark (some (.ref a))) (X.pn++pins)) [] σ1 H1 { s1 with heap:=h3 }:=J3.alt (X:=X.bear (X.pn++pins)) ok.frames (fun z=>nomatch z) (fun p hp=>hp)
  refine wpAny_handleBy_cons (codeAny_handlers_test (dC (X:=X.suite (X.A.mark (some (.ref a))) (X.pn++pins)) J4 hg hm ?_ hdb)) (by intro z;cases z)
  obtain ⟨vs3,a03,_,_,he3,_⟩:=id x3
  refine pI he3 rfl hC hC' (c'.tl.has C' "BaseException" true (by decide +kernel)) ?_
  rw [hc]
  simp only [if_true]
  refine codeAny_handlers_suite_as (fF (s:={ s1 with heap:=h3 }) x3 fun h5 k5' x5=>?_)
  have J5:Inv (X.suite (X.A.mark (some (.ref a))) (X.pn++pins)) [] σ1 H1 { s1 with heap:=h5 }:=by
   refine J4.wr (h':=h5) (e:=a) (T:=T) ⟨fun b o hb _ _ hT=>k5' b o hb hT,fun b o hb hbf=>⟨o.slots,k5' b o hb fun z=>W.nf (z ▸ hbf)⟩,fun o ho=>?_,W.nf⟩ x5 He fT nT (fun p hp z=>pT (by rw [Co] at hp;exact z ▸ List.mem_map_of_mem hp))
   obtain ⟨_,_,oT,ts,_,_,_,_,hT,hd,_⟩:=x3
   rw [hT] at ho;cases ho;exact ⟨ts,hd⟩
  refine gV (X:=X.suite (X.A.mark (some (.ref a))) (X.pn++pins)) (v:=.ref a) J5 hN hi (.inl hl) rfl (fun s6 J6=>?_) (.inr hl)
  refine wpAny_mono ((hs (X.A.mark (some (.ref a))) (X.pn++pins)) [] s6 _ H1 (D.drop i) J6 q) (fun f s7 h7=>?_) fun _ _ z=>False.elim z
  have fin:∀ {σ':St} {H':Hp} {R:Unit->Shared->Prop},Inv (X.suite (X.A.mark (some (.ref a))) (X.pn++pins)) [] σ' H' s7->(∀ s8,Inv X pins (σ'.set i none) H' s8->R () s8)->wpAny (model X.prog X.w) X.A (do bindName X.env n .none;unbindBehindTheSuite X.env n hpos) R X.xe s7:=fun {σ' H' R} J7 hR=>by
   obtain ⟨m,hn,hlk⟩:=J7.loc
   refine wpAny_nameGoes_keeps hl hn (by rw [ok.kind];rfl) fun h8 v hn8 hs8=>hR _ (back (J7.unset (t':=s7.toks+1) hN hi hn hlk hn8 hs8))
  cases f with
  | next=>obtain ⟨σ',H',J7,q7⟩:=h7;exact fin J7 fun s8 J8=>⟨_,H',J8,q7⟩
  | brk=>obtain ⟨σ',H',J7,q7⟩:=h7;exact fin J7 fun s8 J8=>⟨_,H',J8,q7⟩
  | cont=>obtain ⟨σ',H',J7,q7⟩:=h7;exact fin J7 fun s8 J8=>⟨_,H',J8,q7⟩
  | ret u=>obtain ⟨v,σ',H',J7,r,q7⟩:=h7;exact fin J7 fun s8 J8=>⟨v,_,H',J8,r,q7⟩
end
end L2
namespace XD
open PySem PySem.SeqAt PySem.MeetsSeq
theorem dict_declines_str (l:Addr) (es:Array DictEntry) (ep:Nat) (dd:Option Addr) (sl:Array (Option Value)) (b:Str) (u:Tok) :
  Meets (Builtin.«dict.__eq__» ⟨[.ref l,.str b u],[]⟩) (fun _ R s=>s.heap.get? l=some { cls:=.type "dict",dict:=dd,data:=.dict es ep,slots:=sl }/\R (.ok (.ret .notImplemented)) s):=
 .of_wp fun prog w A R s h=>by
  obtain ⟨hl,h⟩:=h
  have ht:s.TypeIs (.ref l) "dict":=⟨_,hl,rfl⟩
  show wpAny _ _ (Builtin.Dict.dictSlotArgs "__eq__" ⟨[.ref l,.str b u],[]⟩ >>= _) _ _ s
  refine wpAny_bind ?_
  unfold Builtin.Dict.dictSlotArgs
  refine wpAny_bind (wpAny_notOrdered_dict ht ?_)
  refine wpAny_pure ?_
  refine wpAny_bind (wpAny_isInstance (T:="str") (typeIs_str s b u) (by rfl:isSubtype (.type "str") (.type "dict")=pure false) ?_)
  simp only [Bool.not_false,if_true]
  exact wpAny_bind (wpAny_rule (wpAny_pure ⟨_,rfl,h⟩))
theorem str_declines_dict (b:Str) (u:Tok) (l:Addr) (c:Value) (es:Array DictEntry) (ep:Nat) (dd:Option Addr) (sl:Array (Option Value)) :
  Meets (Builtin.«str.__eq__» ⟨[.str b u,.ref l],[]⟩) (fun _ R s=>s.heap.get? l=some { cls:=c,dict:=dd,data:=.dict es ep,slots:=sl }/\R (.ok (.ret .notImplemented)) s):=
 .of_wp fun prog w A R s h=>by obtain ⟨hp,g,d,tk,os⟩:=s;obtain ⟨hl,h⟩:=h;wp_walk using AutoSeq1.wpAny_loadPart' hl,wpAny_load hl;exact ⟨_,rfl,h⟩
theorem rc_str_dict {A:Around} {s:Shared} {l:Addr} {es:Array DictEntry} {ep:Nat} {dd:Option Addr} {sl:Array (Option Value)} (b:Str) (u:Tok) (ho:s.heap.get? l=some { cls:=.type "dict",dict:=dd,data:=.dict es ep,slots:=sl }) (hu:A.units < cLine):RcAt A s (.str b u) (.ref l) false:=fun prog w E Q h=>
 rc_eq_decline_or (k:=false) (typeIs_str s b u) ⟨_,ho,rfl⟩ (by decide) (by rfl:isSubtype (.type "dict") (.type "str")=pure false) F.slot_str_eq F.slot_dict_eq_refl
  (fun _ hq=>call_meets F.slot_str_eq (typeIs_str s b u) F.entry_str_eq (F.args_str_eq_2 _ _) (str_declines_dict b u l (.type "dict") es ep dd sl) ⟨ho,hq⟩)
  (fun _ hq=>call_meets F.slot_dict_eq_refl ⟨_,ho,rfl⟩ F.entry_dict_eq (F.args_dict_eq_2 _ _) (dict_declines_str l es ep dd sl b u) ⟨ho,hq⟩)
  (fun _ hq=>wpAny_of_eq (rfl:isSame (.str b u) (.ref l)=pure false) hq) (.inr hu) h
theorem eq_str_dict {A:Around} {s:Shared} {l:Addr} {es:Array DictEntry} {ep:Nat} {dd:Option Addr} {sl:Array (Option Value)} (b:Str) (u:Tok) (ho:s.heap.get? l=some { cls:=.type "dict",dict:=dd,data:=.dict es ep,slots:=sl }) (hu:A.units < cLine):EqAt A s (.str b u) (.ref l) false:=fun prog w E Q h=>by
 unfold eqBool
 refine wpAny_holding ?_
 refine wpAny_ite_split (fun hab=>absurd (eq_of_beq hab) nofun) (fun _=>?_)
 exact wpAny_bind (rc_str_dict b u ho hu prog w E _ (wpAny_truthy_bool h))
end XD
namespace L2
open PySem PySem.Spec PyProof.Rows
def uL (K:PySem.W.Frag) (H:Hp) (a:Addr):Prop:=(∃ xs,SqL K H a xs)\/(∃ xs,SqT K H a xs)\/∃ kvs,H a=some (.dK kvs)
section
variable {X:Cx}
theorem kJ {pins:List (Addr×Obj)} {σ:St} {H:Hp} {s:Shared} {a:Addr} {A:Around} (I:Inv X pins σ H s) (t:uL X.K H a) (hu:A.units < cLine) (b:Str) (u:Tok):SeqAt.EqAt A s (.str b u) (.ref a) false:=by
 rcases t with ⟨xs,t⟩|⟨xs,t⟩|⟨kvs,t⟩
 ·obtain ⟨its,_,pl,_⟩:=I.list t
  exact SeqAt.EqAt.str_list b u pl.isList hu
 ·obtain ⟨its,_,pl,_⟩:=I.tuple t
  exact SeqAt.EqAt.str_tuple b u pl hu
 ·obtain ⟨_,_,vs,_,o,es,ep,ho,hx,hd,_⟩:=(show ObjOk X.prog X.w H s.heap a (.dK kvs) from I.hok a _ t)
  obtain ⟨c,dd,dt,sl⟩:=o
  cases hd
  have hc:c=.type "dict":=hx.1
  subst hc
  exact XD.eq_str_dict b u ho hu
theorem hJ {A:Around} {s:Shared} {a:Addr} (h:∀ b u,SeqAt.EqAt A s (.str b u) (.ref a) false):∀ {xs:List Str} {us:List Value},Vals (xs.map V.str) us->∀ u∈us,SeqAt.EqAt A s u (.ref a) ((fun _=>false) u)
 | [],_,.nil=>fun u hu=>by cases hu
 | x::xs,u::us,.cons r t=>fun u' hu=>by
  rcases BH.mp hu with rfl|hu
  ·obtain ⟨t',rfl⟩:=r;exact h x t'
  ·exact hJ h t u' hu
theorem pK {l:List Value}:l.toArray.any (fun _=>false)=false:=by
 rw [Array.any_eq_false]
 intro i h
 exact BP
end
end L2
namespace L3
open PySem L2
def bS (i:Nat):Stmt:=PySem.Challenge.pw_rowsbeneath_k19_little_texts.main.body.getD i (.Pass ⟨0,0,0,0⟩)
abbrev lT:Stmt:=bS 13
abbrev jz:Stmt:=bS 14
abbrev mV:Stmt:=bS 15
abbrev vz:Stmt:=bS 27
abbrev jA:Stmt:=bS 36
abbrev lU:Stmt:=bS 37
abbrev lV:Stmt:=bS 38
abbrev pM:Stmt:=bS 39
abbrev vA:Stmt:=bS 40
abbrev jB:Stmt:=bS 41
abbrev jC:Stmt:=bS 42
abbrev lW:Stmt:=bS 43
abbrev lX:Stmt:=bS 44
abbrev eX:Stmt:=bS 45
abbrev jD:Stmt:=bS 58
abbrev eY:Stmt:=bS 63
abbrev pN:Stmt:=bS 75
abbrev jE:Stmt:=bS 76
abbrev pO:Stmt:=bS 77
abbrev pP:Stmt:=bS 78
abbrev hU:Stmt:=bS 79
abbrev lY:Stmt:=bS 80
abbrev vB:Stmt:=bS 81
abbrev jF:Stmt:=bS 8
abbrev vC:Stmt:=bS 55
abbrev vD:Stmt:=bS 56
abbrev vE:Stmt:=bS 57
abbrev vF:Stmt:=bS 61
abbrev pQ:Stmt:=bS 62
abbrev lZ:Stmt:=bS 65
abbrev mW:Stmt:=bS 66
abbrev l6:Stmt:=bS 67
abbrev pR:Stmt:=bS 68
abbrev l7:Stmt:=bS 69
abbrev pS:Stmt:=bS 70
abbrev ma:Stmt:=bS 71
abbrev md:Stmt:=bS 72
abbrev jG:Stmt:=bS 73
abbrev fW:Stmt:=bS 82
abbrev jH:Stmt:=bS 83
abbrev jI:Stmt:=bS 84
abbrev pU:Stmt:=bS 85
abbrev jJ:Stmt:=bS 86
abbrev me:Stmt:=bS 89
abbrev pV:Stmt:=bS 87
abbrev hW:Stmt:=bS 88
abbrev sj:Stmt:=bS 90
abbrev oj:Stmt:=bS 91
def Fn (P:Program) (w:World) (K:PySem.W.Frag) (mg:Str->Option Value) (base:Heap) (x:Str) (k:Nat) (ps:List Str) (sp:Sp):Prop:=
 ∃ (f:Addr) (fd:FuncData),mg x=some (.ref f)/\PySem.W.keepIn K (.ref f)=true/\Binds K fd ps []/\aI P w K mg base bE k f fd ps sp
def Bj (sp:Sp) (t:TA):TE:=fun σ H Q=>t σ H fun vs H1=>sp vs H1 Q E0
theorem ao {X:Cx} {x:Str} {k:Nat} {ps:List Str} {sp:Sp} {p pos:Pos} {e:Expr} {es:List Expr} {t:TA} (h:Fn X.prog X.w X.K X.mg X.base x k ps sp) (hr:Room k X.A) (hg:Gl X x) (ha:PA X (e::es) t) (hdb:(x == ("__debug__":Str))=false:=by decide)
  (he:starEach (e::es) X.env=(false,eval e X.env)::starEach es X.env:=by rfl) (hpl:(backTo pos (starEach es X.env)).any (·.1)=false:=by rfl):PE X (.Call (.Name x p) (e::es) [] pos) (Bj sp t):=by
 obtain ⟨f,fd,hm,hk,hb,F⟩:=h
 refine ⟨?_⟩
 intro pins s σ H Q I q
 have ha':PA X (e::es) t:=ha
 refine rN (dvs:=[]) (E:=E0) F hr hg hm hk hb .nil c7 ha' hdb he hpl pins s σ H Q I ?_
 show t σ H fun vs H1=>sp (vs++[]) H1 Q E0
 have e2:(fun vs H1=>sp (vs++[]) H1 Q E0)=fun vs H1=>sp vs H1 Q E0:=by
  funext vs H1
  rw [Co]
 rw [e2]
 exact q
theorem vG {X:Cx} {x:Str} {k:Nat} {sp:Sp} {p pos:Pos} (h:Fn X.prog X.w X.K X.mg X.base x k [] sp) (hr:Room k X.A) (hg:Gl X x) (hdb:(x == ("__debug__":Str))=false:=by decide):PE X (.Call (.Name x p) [] [] pos) (fun _ H Q=>sp [] H Q E0):=by
 obtain ⟨f,fd,hm,hk,hb,F⟩:=h
 refine ⟨?_⟩
 intro pins s σ H Q I q
 exact o3 (dvs:=[]) (E:=E0) F hr hg hm hk hb .nil c7 hdb pins s σ H Q I q
theorem aj {H:Hp} {p:Addr} {o:HO} (h:H p=none):Same H (az H p o):=fun b u e=>by rw [aG (aS e h)];exact e
theorem aA {H H2:Hp} {p:Addr} {o:HO} (hp:H p=none) (s:Same H H2):Same H (az H2 p o):=fun b u e=>by rw [aG (aS e hp)];exact s b u e
theorem aR {A B:Prop} {b:Bool} (e:b=false) (h:B):if b=true then A else B:=by rw [e];exact bo h
theorem bg {A B:Prop} {b:Bool} (e:b=true) (h:A):if b=true then A else B:=by rw [e];exact bY h
theorem sk {l:List Nat} {i:Nat} (h:i < l.length):iV (S l).cps.toList (i:Int)=some l[i]:=aM (by show l.toArray.toList[i]?=_;simp [h])
theorem uM:("":Str)=S []:=by decide +kernel
theorem gJ (z:Str):z=S z.cps.toList:=by
 show z=⟨z.cps.toList.toArray⟩
 simp
theorem aP (a b:List Nat):S a++S b=S (a++b):=by
 show (⟨(S a).cps++(S b).cps⟩:Str)=⟨(a++b).toArray⟩
 congr 1
 simp [S]
theorem bG:bootBuiltins "isinstance"=some (.builtin "isinstance"):=by decide +kernel
theorem dN:bootBuiltins "list"=some (.type "list"):=by decide +kernel
theorem bK:bootBuiltins "str"=some (.type "str"):=by decide +kernel
theorem mf:bootBuiltins "bool"=some (.type "bool"):=by decide +kernel
theorem bh:bootBuiltins "tuple"=some (.type "tuple"):=by decide +kernel
theorem gq:bootBuiltins "all"=some (.builtin "all"):=by decide +kernel
structure Bl (mg:Str->Option Value):Prop where
 len:mg "len"=none
 int:mg "int"=none
 max:mg "max"=none
 min:mg "min"=none
 range:mg "range"=none
 isinstance:mg "isinstance"=none
 list:mg "list"=none
 str:mg "str"=none
 bool:mg "bool"=none
 tuple:mg "tuple"=none
 all:mg "all"=none
def sm (x y z:Int):HO:=.lst [.int x,.int y,.int z]
def Strm (H:Hp) (p:Addr):Prop:=∃ x y z:Int,H p=some (sm x y z)
def But (p:Addr) (H H':Hp):Prop:=∀ b o,H b=some o->b≠p->H' b=some o
theorem But.refl (p:Addr) (H:Hp):But p H H:=fun _ _ e _=>e
theorem But.trans {p:Addr} {H H1 H2:Hp} (a:But p H H1) (b:But p H1 H2):But p H H2:=fun c o e n=>b c o (a c o e n) n
theorem But.same {p:Addr} {H H1 H2:Hp} (a:But p H H1) (b:Same H1 H2):But p H H2:=fun c o e n=>b c o (a c o e n)
theorem jK {p:Addr} {H H1:Hp} (b:Same H H1):But p H H1:=fun c o e _=>b c o e
theorem Strm.same {p:Addr} {H H1:Hp} (a:Strm H p) (b:Same H H1):Strm H1 p:=let ⟨x,y,z,e⟩:=a;⟨x,y,z,b _ _ e⟩
theorem Strm.ne {p q:Addr} {H:Hp} (a:Strm H p) (h:H q=none):p≠q:=let ⟨_,_,_,e⟩:=a;aS e h
inductive mh (K:PySem.W.Frag) (vs:List V) (H:Hp) (Q:VK) (Z3:XK):Prop
 | mk (a:Addr) (ns:List Int) (k:Int):vs=[.ref a,.int k]->SqL K H a (ns.map V.int)->0<=k->(∀ c:Int,Q (.int c) H)->mh K vs H Q Z3
inductive hX (vs:List V) (H:Hp) (Q:VK) (Z3:XK):Prop
 | mk (c:Int):vs=[.int c]->(∀ (p:Addr) H',H p=none->Same H H'->Strm H' p->Q (.ref p) H')->hX vs H Q Z3
inductive di (vs:List V) (H:Hp) (Q:VK) (Z3:XK):Prop
 | mk (p:Addr) (m:Nat):vs=[.ref p,.int m]->Strm H p->0 < m->m < 18446744073709551616->(∀ (r:Nat) H',r < m->Strm H' p->But p H H'->Q (.int r) H')->di vs H Q Z3
section
variable {P:Program} {w:World} {K:PySem.W.Frag} {mg:Str->Option Value} {base:Heap}
theorem vH:aq ["_law_script","_law_k"] ["_law_script","_law_k"] (al pN):=⟨rfl,rfl,rfl,by decide +kernel,rfl,by decide +kernel,by decide +kernel⟩
theorem su {f:Addr} {fd:FuncData} (F:Fun K "_law_cell" "_law_cell" pN f fd) (T:Bl mg):aI P w K mg base bE 1 f fd ["_law_script","_law_k"] (mh K):=by
 refine F.ok vH (fun vs H Q E h=>?_) (fun cdv A outer s H vs Q E hr h=>?_)
 ·obtain ⟨a,ns,k,rfl,_⟩:=h
  rfl
 ·obtain ⟨a,ns,k,rfl,hS,h0,q⟩:=h
  refine ⟨_,ak (aH (ax oQ (pv 1) (aJ bc (by rfl) T.len B5 (aa (pv 0) ac)) (aB _)) (ah (am (ap ay (pv 0) (pv 1) (fun _ _=>rfl)))) aw)
   (ah (am (aT fk (aT fm ad (pv 1)) ad))),?_⟩
  refine ⟨_,rfl,_,rfl,a,_,rfl,.inl hS,_,_,rfl,rfl,_,rfl,?_⟩
  refine bF (fun h=>?_) (fun h=>?_)
  ·have hl:k < ((ns.map V.int).length:Int):=of_decide_eq_true h
   rw [BE] at hl
   obtain ⟨n,rfl⟩:∃ n:Nat,k=n:=⟨k.toNat,by omega⟩
   have hn:n < ns.length:=by omega
   refine ⟨_,rfl,_,rfl,a,_,_,_,rfl,rfl,hS,aM (v:=.int ns[n]) (by simp [hn]),q _⟩
  ·exact ⟨_,rfl,_,_,rfl,rfl,.inl ⟨by decide,by decide⟩,_,_,rfl,rfl,q _⟩
theorem pW:aq ["_law_cell_here"] ["_law_cell_here"] (al jE):=⟨rfl,rfl,rfl,by decide +kernel,rfl,by decide +kernel,by decide +kernel⟩
theorem om {f:Addr} {fd:FuncData} (F:Fun K "_law_stream" "_law_stream" jE f fd) (T:Bl mg):aI P w K mg base bE 1 f fd ["_law_cell_here"] hX:=by
 refine F.ok pW (fun vs H Q E h=>?_) (fun cdv A outer s H vs Q E hr h=>?_)
 ·obtain ⟨c,rfl,_⟩:=h
  rfl
 ·obtain ⟨c,rfl,q⟩:=h
  refine ⟨_,ah (am (bp (aa (aT fm (pv 0) (aY iN (by rfl) T.int CF (aa (cz xI (pv 0) (aT oO ad ad) (aB _)) ac)))
   (aa (aT gl (pv 0) ad) (aa ad ac))))),?_⟩
  refine ⟨_,rfl,_,rfl,_,_,rfl,rfl,⟨by decide,by decide,by decide⟩,_,_,rfl,rfl,.inr ⟨_,rfl,?_⟩⟩
  refine ⟨_,_,rfl,rfl,.inr (by split<;>decide),_,rfl,_,_,rfl,rfl,(by show (0:Int) < 2147483629;decide),(by show 3<=sizeLine;decide),fun l hl=>?_⟩
  exact q l _ hl (aj hl) ⟨_,_,_,ae⟩
theorem scTake:aq ["_law_stream_here","_law_many","_law_digit","_law_number"] ["_law_stream_here","_law_many"] (al pO):=⟨rfl,rfl,rfl,by decide +kernel,rfl,by decide +kernel,by decide +kernel⟩
theorem kK {n m:Int} (hm:0 < m) (h:m < 2 ^ 64):-(2 ^ 64) < n % m/\n % m < 2 ^ 64:=by
 have:=Int.emod_nonneg n (show m≠0 by omega)
 have:=Int.emod_lt_of_pos n hm
 omega
theorem sw {f:Addr} {fd:FuncData} (F:Fun K "_law_take" "_law_take" pO f fd):aI P w K mg base bE 1 f fd ["_law_stream_here","_law_many"] di:=by
 refine F.ok scTake (fun vs H Q E h=>?_) (fun cdv A outer s H vs Q E hr h=>?_)
 ·obtain ⟨p,m,rfl,_⟩:=h
  rfl
 ·obtain ⟨p,m,rfl,⟨x,y,z,hp⟩,m0,m1,q⟩:=h
  have fin:∀ (e x' y' z':Int) H1,0<=e->e < m->But p H H1->Q (.int e) (az H1 p (sm x' y' z')):=fun e x' y' z' H1 h0 h1 b=>by
   have:=q e.toNat (az H1 p (sm x' y' z')) (by omega) ⟨_,_,_,ae⟩ (fun c o e n=>by rw [aG n];exact b c o e n)
   rw [Int.toNat_of_nonneg h0] at this
   exact this
  have b1:∀ o,But p H (az H p o):=fun o c u e n=>by rw [aG n];exact e
  refine ⟨_,ak (aH (ax oR (ap ay (pv 0) ad (fun _ _=>rfl)) ad (aB _))
    (ak (a6 (i:=2) scTake.nd rfl (Or.inl rfl) (aT gl (ap ay (pv 0) ad (fun _ _=>rfl)) (pv 1)))
    (ak (gW (aT pj (ap ay (pv 0) ad (fun _ _=>rfl)) (pv 1)) (lC (pv 0) ad gY))
    (ah (am (pv 2))))) aw)
   (ak (gW (aT fk (ap ay (pv 0) ad (fun _ _=>rfl)) ad) (lC (pv 0) ad gY))
   (ak (a6 (i:=3) scTake.nd rfl (Or.inl rfl) (aT gl (aT fk (aT fm (aT fk (ap ay (pv 0) ad (fun _ _=>rfl)) (aT fm ad (ap ay (pv 0) ad (fun _ _=>rfl)))) ad) ad) ad))
   (ak (a6 (i:=3) scTake.nd rfl (Or.inl rfl) (aT gl (aT fm (pv 3) (pv 3)) ad))
   (ah (am (aT gl (aT rJ (aT gl (aT fk (aT fm (pv 3) (pv 3)) (aT fm ad (ap ay (pv 0) ad (fun _ _=>rfl)))) ad) ad) (pv 1))))))),?_⟩
  refine ⟨_,rfl,p,_,_,_,rfl,rfl,SqL.of hp,rfl,_,_,rfl,rfl,_,rfl,?_⟩
  refine bF (fun h=>?_) (fun h=>?_)
  ·refine ⟨_,rfl,p,_,_,_,rfl,rfl,SqL.of hp,rfl,_,rfl,_,_,rfl,rfl,(by show (0:Int) < (m:Int);omega),?_⟩
   refine ⟨_,rfl,p,_,_,_,rfl,rfl,SqL.of hp,rfl,_,rfl,_,_,rfl,rfl,⟨by show (0:Int) < (m:Int);omega,by show (m:Int) < 18446744073709551616;omega⟩,?_⟩
   refine ⟨_,rfl,p,_,_,_,rfl,rfl,hp,rfl,?_⟩
   refine ⟨_,rfl,?_⟩
   exact fin _ _ _ _ _ (Int.emod_nonneg _ (by omega)) (Int.emod_lt_of_pos _ (by omega)) (But.refl _ _)
  ·refine ⟨_,rfl,p,_,_,_,rfl,rfl,SqL.of hp,rfl,_,_,rfl,rfl,?_⟩
   refine ⟨_,rfl,p,_,_,_,rfl,rfl,hp,rfl,?_⟩
   refine ⟨_,rfl,p,_,_,_,rfl,rfl,SqL.of ae,rfl,_,rfl,p,_,_,_,rfl,rfl,SqL.of ae,rfl,_,_,rfl,rfl,.inl ⟨by decide,by decide⟩,_,_,rfl,rfl,_,_,rfl,rfl,.inr ⟨by decide,by decide⟩,_,_,rfl,rfl,_,_,rfl,rfl,(by show (0:Int) < 2147483647;decide),?_⟩
   refine ⟨_,rfl,_,rfl,_,_,rfl,rfl,.inl (kK (by decide) (by decide)),_,_,rfl,rfl,(by show (0:Int) < 2147483629;decide),?_⟩
   refine ⟨_,rfl,_,rfl,_,_,rfl,rfl,.inl (kK (by decide) (by decide)),_,rfl,p,_,_,_,rfl,rfl,SqL.of ae,rfl,_,_,rfl,rfl,.inl ⟨by decide,by decide⟩,_,_,rfl,rfl,_,_,rfl,rfl,(by show (0:Int) < 2147483587;decide),_,_,rfl,rfl,⟨by decide,by decide⟩,_,rfl,_,_,rfl,rfl,(by show (0:Int) < (m:Int);omega),?_⟩
   exact fin _ _ _ _ _ (Int.emod_nonneg _ (by omega)) (Int.emod_lt_of_pos _ (by omega)) (But.refl _ _)
end
end L3
namespace L2
open PySem PySem.Spec PyProof.Rows
section
variable {X:Cx}
def ya (K:PySem.W.Frag):R2:=fun x y H Q=>∃ (a p:Addr) (xs:List Str),x=.ref a/\y=.ref p/\uL K H a/\(SqL K H p (xs.map V.str)\/SqT K H p (xs.map V.str))/\Q (.bl false) H
theorem vI {k:Nat} (hr:Room k X.A):eC X (compareOp .In) (ya X.K):=by
 intro pins s σ H x y v u Q I rx ry h
 obtain ⟨a,p,xs,rfl,rfl,t,hq,q⟩:=h
 cases rx
 cases ry
 have hu:X.A.in1.units < cLine:=by
  have:=hr.un
  show X.A.units+1 < _
  omega
 have ne:=kJ I t hu
 rcases hq with hq|hq
 ·obtain ⟨its,r,pl,hz⟩:=I.list hq
  refine SeqAt.in_listAt (fun _=>false) pl.isList (fun w hw=>hJ ne r w (by simpa using hw)) ⟨.bl _,H,I,rfl,?_⟩
  rw [pK]
  exact q
 ·obtain ⟨its,r,pl,hz⟩:=I.tuple hq
  refine SeqAt.in_tupleAt (fun _=>false) pl (fun w hw=>hJ ne r w (by simpa using hw)) ⟨.bl _,H,I,rfl,?_⟩
  rw [pK]
  exact q
def A1 (r1 r2:R2):R2:=fun x y H Q=>r1 x y H Q\/r2 x y H Q
theorem jd {f:Value->Value->Sem Value} {r1 r2:R2} (a:eC X f r1) (b:eC X f r2):eC X f (A1 r1 r2):=by
 intro pins s σ H x y v u Q I rx ry h
 rcases h with h|h
 ·exact a pins s σ H x y v u Q I rx ry h
 ·exact b pins s σ H x y v u Q I rx ry h
end
end L2
namespace L3
open PySem L2
inductive Th
 | non
 | int (i:Int)
 | str (x:Str)
 | tup (l:List Th)
 | lst (l:List Th)
 | dct
mutual
inductive TgV (p:Addr) (H:Hp):V->Th->Prop
 | non:TgV p H .non .non
 | int (i:Int):TgV p H (.int i) (.int i)
 | str (x:Str):TgV p H (.str x) (.str x)
 | tup {a:Addr} {xs:List V} {ts:List Th}:H a=some (.tup xs)->TgA p H xs ts->TgV p H (.ref a) (.tup ts)
 | lst {a:Addr} {xs:List V} {ts:List Th}:a≠p->H a=some (.lst xs)->TgA p H xs ts->TgV p H (.ref a) (.lst ts)
 | dct {a:Addr}:a≠p->H a=some (.dK [])->TgV p H (.ref a) .dct
inductive TgA (p:Addr) (H:Hp):List V->List Th->Prop
 | nil:TgA p H [] []
 | cons {v:V} {t:Th} {vs:List V} {ts:List Th}:TgV p H v t->TgA p H vs ts->TgA p H (v::vs) (t::ts)
end
mutual
theorem TgV.but {p:Addr} {H H':Hp} (g:Strm H p) (b:But p H H'):∀ {v:V} {t:Th},TgV p H v t->TgV p H' v t
 | _,_,.non=>.non
 | _,_,.int i=>.int i
 | _,_,.str x=>.str x
 | _,_,.tup e t=>.tup (b _ _ e (fun z=>by obtain ⟨x,y,w,q⟩:=g;rw [z,q] at e;cases e)) (TgA.but g b t)
 | _,_,.lst n e t=>.lst n (b _ _ e n) (TgA.but g b t)
 | _,_,.dct n e=>.dct n (b _ _ e n)
theorem TgA.but {p:Addr} {H H':Hp} (g:Strm H p) (b:But p H H'):∀ {vs:List V} {ts:List Th},TgA p H vs ts->TgA p H' vs ts
 | _,_,.nil=>.nil
 | _,_,.cons h t=>.cons (TgV.but g b h) (TgA.but g b t)
end
mutual
theorem TgV.same {p:Addr} {H H':Hp} (s:Same H H'):∀ {v:V} {t:Th},TgV p H v t->TgV p H' v t
 | _,_,.non=>.non
 | _,_,.int i=>.int i
 | _,_,.str x=>.str x
 | _,_,.tup e t=>.tup (s _ _ e) (TgA.same s t)
 | _,_,.lst n e t=>.lst n (s _ _ e) (TgA.same s t)
 | _,_,.dct n e=>.dct n (s _ _ e)
theorem TgA.same {p:Addr} {H H':Hp} (s:Same H H'):∀ {vs:List V} {ts:List Th},TgA p H vs ts->TgA p H' vs ts
 | _,_,.nil=>.nil
 | _,_,.cons h t=>.cons (TgV.same s h) (TgA.same s t)
end
theorem TgA.length {p:Addr} {H:Hp}:∀ {vs:List V} {ts:List Th},TgA p H vs ts->vs.length=ts.length
 | _,_,.nil=>rfl
 | _,_,.cons _ t=>by simp [TgA.length t]
theorem TgA.get {p:Addr} {H:Hp}:∀ {vs:List V} {ts:List Th},TgA p H vs ts->∀ {i:Nat} {v:V},vs[i]?=some v->∃ t,ts[i]?=some t/\TgV p H v t
 | _,_,.cons h _,0,_,e=>by
  have e':=BY e
  subst e'
  exact ⟨_,rfl,h⟩
 | _,_,.cons _ t,i+1,_,e=>TgA.get t (by simpa using e)
theorem TgA.app {p:Addr} {H:Hp}:∀ {vs us:List V} {ts rs:List Th},TgA p H vs ts->TgA p H us rs->TgA p H (vs++us) (ts++rs)
 | _,_,_,_,.nil,h=>h
 | _,_,_,_,.cons a t,h=>.cons a (TgA.app t h)
def Th.isInt:Th->Bool
 | .int _=>true
 | _=>false
def Th.isTup:Th->Bool
 | .tup _=>true
 | _=>false
def Th.isStr:Th->Bool
 | .str _=>true
 | _=>false
def Th.okStr:Th->Bool
 | .str x=>xk x
 | _=>false
def wn (lo hi:Int):Th->Bool
 | .int i=>decide (lo<=i) && decide (i<=hi)
 | _=>false
def hd (w:Str) (n:Nat):Th->Bool
 | .tup (.str x::r)=>decide (r.length+1=n) && decide (x=w)
 | _=>false
def arg (i:Nat):Th->Th
 | .tup l=>(l[i]?).getD .non
 | _=>.non
def hg:Th->Bool
 | .tup (.lst _::_)=>false
 | .tup (.dct::_)=>false
 | .tup (.tup l::r)=>r.isEmpty || l.all Th.okStr
 | _=>true
def hg1:Th->Bool
 | .tup [.tup _]=>false
 | _=>true
def selOk (t:Th):Bool:=if hd "is" 2 t then wn 0 3 (arg 1 t) else hd "by" 2 t && wn 0 2 (arg 1 t)
def srcOk (t:Th):Bool:=if hd "in" 2 t then wn 0 7 (arg 1 t) else if hd "number" 2 t then wn 0 16777215 (arg 1 t) else hd "field" 2 t && wn 0 2 (arg 1 t)
def opsL:List Str:=["+","-","&","|","^","<<",">>","<","="]
def opOk:Th->Bool
 | .str x=>opsL.contains x
 | _=>false
def stepOk (t:Th):Bool:=
 if hd "get" 3 t || hd "ask" 3 t then wn 0 7 (arg 1 t) && selOk (arg 2 t)
 else if hd "cell" 3 t then wn 0 7 (arg 1 t) && srcOk (arg 2 t)
 else if hd "two" 5 t then wn 0 7 (arg 1 t) && (opOk (arg 2 t) && (srcOk (arg 3 t) && srcOk (arg 4 t)))
 else if hd "put" 3 t || hd "tell" 3 t then selOk (arg 1 t) && srcOk (arg 2 t)
 else hd "store" 3 t && (srcOk (arg 1 t) && srcOk (arg 2 t))
inductive Kd
 | whole|non|text|list|tuple|dict
def Kd.nm:Kd->String
 | .whole=>"int"
 | .non=>"NoneType"
 | .text=>"str"
 | .list=>"list"
 | .tuple=>"tuple"
 | .dict=>"dict"
def kd:Th->Kd
 | .non=>.non
 | .int _=>.whole
 | .str _=>.text
 | .tup _=>.tuple
 | .lst _=>.list
 | .dct=>.dict
theorem TgV.ty {K:PySem.W.Frag} {p:Addr} {H:Hp} {v:V} {t:Th} (h:TgV p H v t):ft K H v (.type (kd t).nm):=by
 cases h with
 | non=>exact .non
 | int i=>exact .int i
 | str x=>exact .str x
 | tup e _=>exact .tup e
 | lst _ e _=>exact .lst e
 | dct _ e=>exact .dK e
theorem kit_int {K:PySem.W.Frag} (t:Th):PySem.W.kitOne K (.type (kd t).nm) (.type "int")=some t.isInt:=by cases t<;>rfl
theorem kit_bool {K:PySem.W.Frag} (t:Th):PySem.W.kitOne K (.type (kd t).nm) (.type "bool")=some false:=by cases t<;>rfl
theorem kit_tup {K:PySem.W.Frag} (t:Th):PySem.W.kitOne K (.type (kd t).nm) (.type "tuple")=some t.isTup:=by cases t<;>rfl
theorem kit_str {K:PySem.W.Frag} (t:Th):PySem.W.kitOne K (.type (kd t).nm) (.type "str")=some t.isStr:=by cases t<;>rfl
structure Cst (K:PySem.W.Frag) (mg:Str->Option Value) (w:World) (aO:Addr) (t1 t2 t3 t4 t5 t6:Tok) (fs:Str->V):Prop where
 inner:mg "HIGHEST_INNER"=some (.int 7 t1)
 word:mg "HIGHEST_WORD"=some (.int 16777215 t2)
 field:mg "HIGHEST_FIELD"=some (.int 2 t3)
 sel:mg "HIGHEST_SELECTED"=some (.int 3 t4)
 addr:mg "HIGHEST_ADDRESS"=some (.int 399 t5)
 steps:mg "MOST_STEPS"=some (.int 16 t6)
 ops:mg "OPS"=some (.ref aO)
 dict:gP w K aO (opsL.map fun x=>(x,fs x))
 lo:(aO == sysModules)=false
def spWhole:Sp:=fun vs H Q _=>∃ (p:Addr) (v:V) (t:Th),vs=[v]/\TgV p H v t/\Q (.bl t.isInt) H
def spWithin:Sp:=fun vs H Q _=>∃ (p:Addr) (v:V) (t:Th) (lo hi:Int),vs=[v,.int lo,.int hi]/\TgV p H v t/\Q (.bl (wn lo hi t)) H
def spTo (hi:Int):Sp:=fun vs H Q _=>∃ (p:Addr) (v:V) (t:Th),vs=[v]/\TgV p H v t/\Q (.bl (wn 0 hi t)) H
def spOps:Sp:=fun vs H Q _=>vs=[]/\∀ p,H p=none->Q (.ref p) (az H p (.lst (opsL.map V.str)))
def spHeaded:Sp:=fun vs H Q _=>∃ (p:Addr) (v:V) (t:Th) (w:Str) (m:Nat),vs=[v,.str w,.int m]/\TgV p H v t/\hg t=true/\(m=1->hg1 t=true)/\0 < m/\xk w=true/\Q (.bl (hd w m t)) H
def spAsk (ok:Th->Bool) (gd:Th->Prop):Sp:=fun vs H Q _=>∃ (p:Addr) (v:V) (t:Th),vs=[v]/\TgV p H v t/\gd t/\∀ H',Same H H'->Q (.bl (ok t)) H'
theorem dint (a b:Int):decide (V.int a=V.int b)=decide (a=b):=by
 by_cases h:a=b
 ·subst h;simp
 ·have:¬ V.int a=V.int b:=fun z=>h (by injection z)
  simp [h,this]
theorem dstr (a b:Str):decide (V.str a=V.str b)=decide (a=b):=by
 by_cases h:a=b
 ·subst h;simp
 ·have:¬ V.str a=V.str b:=fun z=>h (by injection z)
  simp [h,this]
theorem at0 (x:V) (ys:List V):iV (x::ys) 0=some x:=aM (j:=0) rfl
section
variable {P:Program} {w:World} {K:PySem.W.Frag} {mg:Str->Option Value} {base:Heap} {aO:Addr} {t1 t2 t3 t4 t5 t6:Tok} {fs:Str->V}
theorem scWhole:aq ["thing"] ["thing"] (al lT):=⟨rfl,rfl,rfl,by decide +kernel,rfl,by decide +kernel,by decide +kernel⟩
theorem ok_whole {f:Addr} {fd:FuncData} (F:Fun K "is_whole" "is_whole" lT f fd) (T:Bl mg):aI P w K mg base bE 1 f fd ["thing"] spWhole:=by
 refine F.ok scWhole (fun vs H Q E h=>?_) (fun cdv A outer s H vs Q E hr h=>?_)
 ·obtain ⟨p,v,t,rfl,_⟩:=h
  rfl
 ·obtain ⟨p,v,t,rfl,tv,q⟩:=h
  refine ⟨_,ah (am (bI (aJ (cS (T:="int")) (by rfl) T.isinstance bG (aa (pv 0) (aa (dY (by rfl) T.int CF) ac))) (bU (u8 (aJ (cS (T:="bool")) (by rfl) T.isinstance bG (aa (pv 0) (aa (dY (by rfl) T.bool mf) ac))))))),?_⟩
  refine ⟨_,rfl,v,_,_,rfl,tv.ty,kit_int t,_,rfl,?_⟩
  cases hi:t.isInt with
  | true=>rw [hi] at q;exact bY ⟨_,rfl,v,_,_,rfl,tv.ty,kit_bool t,_,rfl,q⟩
  | false=>rw [hi] at q;exact bo q
theorem scWithin:aq ["thing","low","high"] ["thing","low","high"] (al jz):=⟨rfl,rfl,rfl,by decide +kernel,rfl,by decide +kernel,by decide +kernel⟩
theorem ok_within {f:Addr} {fd:FuncData} (F:Fun K "is_within" "is_within" jz f fd) (WH:Fn P w K mg base "is_whole" 1 ["thing"] spWhole):aI P w K mg base bE 2 f fd ["thing","low","high"] spWithin:=by
 refine F.ok scWithin (fun vs H Q E h=>?_) (fun cdv A outer s H vs Q E hr h=>?_)
 ·obtain ⟨p,v,t,lo,hi,rfl,_⟩:=h
  rfl
 ·obtain ⟨p,v,t,lo,hi,rfl,tv,q⟩:=h
  refine ⟨_,ah (am (bI (ao WH hr rfl (aa (pv 0) ac)) (bU (ko iK iK (pv 1) (pv 0) (pv 2))))),?_⟩
  refine ⟨_,rfl,p,v,t,rfl,tv,_,rfl,?_⟩
  cases tv with
  | int i=>
   refine bY ⟨_,rfl,_,rfl,_,_,rfl,rfl,_,rfl,bF (fun h=>?_) (fun h=>?_)⟩
   ·refine ⟨_,rfl,_,_,rfl,rfl,?_⟩
    have h':decide (lo<=i)=true:=h
    have q':Q (.bl (decide (lo<=i) && decide (i<=hi))) H:=q
    rw [h',Bool.true_and] at q'
    exact q'
   ·have h':decide (lo<=i)=false:=BC.mpr h
    have q':Q (.bl (decide (lo<=i) && decide (i<=hi))) H:=q
    rw [h',Bool.false_and] at q'
    exact q'
  | non=>exact bo q
  | str x=>exact bo q
  | tup a b=>exact bo q
  | lst a b c=>exact bo q
  | dct a b=>exact bo q
theorem scOps:aq [] [] (al vz):=⟨rfl,rfl,rfl,by decide +kernel,rfl,by decide +kernel,by decide +kernel⟩
theorem ok_ops {f:Addr} {fd:FuncData} (F:Fun K "ops_told" "ops_told" vz f fd) (T:Bl mg) (C:Cst K mg w aO t1 t2 t3 t4 t5 t6 fs):aI P w K mg base bE 1 f fd [] spOps:=by
 refine F.ok scOps (fun vs H Q E h=>?_) (fun cdv A outer s H vs Q E hr h=>?_)
 ·obtain ⟨rfl,_⟩:=h
  rfl
 ·obtain ⟨rfl,q⟩:=h
  refine ⟨_,ah (am (aY (iF rfl) (by rfl) T.list dN (aa (bB (v:=.ref aO) rfl C.ops rfl) ac))),?_⟩
  exact ⟨aO,_,rfl,C.dict,(show opsL.Nodup from by decide +kernel),C.lo,(by show 9<=1000;decide),fun p hp=>q p hp⟩
theorem scHeaded:aq ["thing","word","many"] ["thing","word","many"] (al jA):=⟨rfl,rfl,rfl,by decide +kernel,rfl,by decide +kernel,by decide +kernel⟩
theorem strs_dt {p:Addr} {H:Hp}:∀ {xs:List V} {ts:List Th},TgA p H xs ts->ts.all Th.okStr=true->∃ ss:List Str,DtAll K H xs (ss.map PyData.str)/\PyData.canLayAll0 (ss.map PyData.str)=true
 | _,_,.nil,_=>⟨[],.nil,rfl⟩
 | _,_,.cons (t:=t) a b,h=>by
  rw [List.all_cons,BD] at h
  obtain ⟨ss,d,l⟩:=strs_dt b h.2
  cases a with
  | str x=>exact ⟨x::ss,.cons (.str x) d,by simp only [BR,PyData.canLayAll0,l,Bool.and_true];exact h.1⟩
  | non=>cases h.1
  | int i=>cases h.1
  | tup _ _=>cases h.1
  | lst _ _ _=>cases h.1
  | dct _ _=>cases h.1
theorem hd_len {w:Str} {m:Nat} {ts:List Th} (h:ts.length≠m):hd w m (.tup ts)=false:=by
 match ts with
 | []=>rfl
 | .str x::r=>
  show (decide (r.length+1=m) && decide (x=w))=false
  rw [decide_eq_false (by simpa using h)]
  rfl
 | .non::r=>rfl
 | .int _::r=>rfl
 | .tup _::r=>rfl
 | .lst _::r=>rfl
 | .dct::r=>rfl
theorem ok_headed {f:Addr} {fd:FuncData} (F:Fun K "is_headed" "is_headed" jA f fd) (T:Bl mg):aI P w K mg base bE 1 f fd ["thing","word","many"] spHeaded:=by
 refine F.ok scHeaded (fun vs H Q E h=>?_) (fun cdv A outer s H vs Q E hr h=>?_)
 ·obtain ⟨p,v,t,w,m,rfl,_⟩:=h
  rfl
 ·obtain ⟨p,v,t,w,m,rfl,tv,hgt,hg1t,hm,hw,q⟩:=h
  refine ⟨_,ah (am (bI (aJ (cS (T:="tuple")) (by rfl) T.isinstance bG (aa (pv 0) (aa (dY (by rfl) T.tuple bh) ac)))
   (bI (cz bb (aJ bc (by rfl) T.len B5 (aa (pv 0) ac)) (pv 2) (aB _)) (bU (cz (jd bb (op_eqD hr)) (ap au (pv 0) ad (fun _ _=>rfl)) (pv 1) (aB _)))))),?_⟩
  refine ⟨_,rfl,v,_,_,rfl,tv.ty,kit_tup t,_,rfl,?_⟩
  cases tv with
  | non=>exact bo q
  | int i=>exact bo q
  | str x=>exact bo q
  | lst a b c=>exact bo q
  | dct a b=>exact bo q
  | @tup a xs ts e ta=>
   have hl:=ta.length
   refine bY ⟨_,rfl,a,_,rfl,.inr (SqT.of e),_,rfl,rfl,_,rfl,?_⟩
   rw [dint]
   by_cases hlm:ts.length=m
   ·have e1:decide ((xs.length:Int)=(m:Int))=true:=decide_eq_true (by omega)
    rw [e1]
    refine bY ?_
    match xs,ts,ta,hl,hlm,e,hgt,hg1t,q with
    | [],[],_,_,hlm,_,_,_,_=>exact absurd hlm (by simp;omega)
    | x::xr,t0::tr,.cons a0 ar,hl,hlm,e,hgt,hg1t,q=>
     refine ⟨_,rfl,a,_,_,_,rfl,rfl,SqT.of e,at0 _ _,_,rfl,?_⟩
     cases a0 with
     | non=>exact .inl ⟨rfl,q⟩
     | int i=>exact .inl ⟨rfl,q⟩
     | str x=>
      refine .inl ⟨rfl,?_⟩
      rw [dstr]
      have q':Q (.bl (decide (tr.length+1=m) && decide (x=w))) H:=q
      rw [decide_eq_true (by simpa using hlm),Bool.true_and] at q'
      exact q'
     | lst _ _ _=>cases hgt
     | dct _ _=>cases hgt
     | @tup b ys us eb ub=>
      have hgu:us.all Th.okStr=true:=by
       have hgt':(tr.isEmpty || us.all Th.okStr)=true:=hgt
       cases tr with
       | nil=>exact absurd (hg1t (by simpa using hlm.symm)) (by show ¬ (false=true);decide)
       | cons _ _=>exact hgt'
      obtain ⟨ss,d,l⟩:=strs_dt (K:=K) ub hgu
      have dd:Dt K H (.ref b) (.tuple (ss.map .str)):=.tup (SqT.of eb) d
      refine .inr ⟨_,.str w,dd,.str w,?_,?_,?_,?_⟩
      ·exact l
      ·exact hw
      ·exact BN (Nat.min_le_right _ _) (by simp [PyData.depth])
      ·exact q
   ·have e1:decide ((xs.length:Int)=(m:Int))=false:=decide_eq_false (by omega)
    rw [e1]
    rw [hd_len hlm] at q
    exact bo q
theorem scInner:aq ["thing"] ["thing"] (al lU):=⟨rfl,rfl,rfl,by decide +kernel,rfl,by decide +kernel,by decide +kernel⟩
theorem ok_inner {f:Addr} {fd:FuncData} (F:Fun K "is_inner" "is_inner" lU f fd) (C:Cst K mg w aO t1 t2 t3 t4 t5 t6 fs) (WI:Fn P w K mg base "is_within" 2 ["thing","low","high"] spWithin):aI P w K mg base bE 3 f fd ["thing"] (spTo 7):=by
 refine F.ok scInner (fun vs H Q E h=>?_) (fun cdv A outer s H vs Q E hr h=>?_)
 ·obtain ⟨p,v,t,rfl,_⟩:=h
  rfl
 ·obtain ⟨p,v,t,rfl,tv,q⟩:=h
  refine ⟨_,ah (am (ao WI hr rfl (aa (pv 0) (aa ad (aa (bB (v:=.int 7) rfl C.inner ⟨_,rfl⟩) ac))))),?_⟩
  exact ⟨_,rfl,p,v,t,0,7,rfl,tv,q⟩
theorem scField:aq ["thing"] ["thing"] (al lV):=⟨rfl,rfl,rfl,by decide +kernel,rfl,by decide +kernel,by decide +kernel⟩
theorem ok_field {f:Addr} {fd:FuncData} (F:Fun K "is_field" "is_field" lV f fd) (C:Cst K mg w aO t1 t2 t3 t4 t5 t6 fs) (WI:Fn P w K mg base "is_within" 2 ["thing","low","high"] spWithin):aI P w K mg base bE 3 f fd ["thing"] (spTo 2):=by
 refine F.ok scField (fun vs H Q E h=>?_) (fun cdv A outer s H vs Q E hr h=>?_)
 ·obtain ⟨p,v,t,rfl,_⟩:=h
  rfl
 ·obtain ⟨p,v,t,rfl,tv,q⟩:=h
  refine ⟨_,ah (am (ao WI hr rfl (aa (pv 0) (aa ad (aa (bB (v:=.int 2) rfl C.field ⟨_,rfl⟩) ac))))),?_⟩
  exact ⟨_,rfl,p,v,t,0,2,rfl,tv,q⟩
theorem scAddr:aq ["thing"] ["thing"] (al pM):=⟨rfl,rfl,rfl,by decide +kernel,rfl,by decide +kernel,by decide +kernel⟩
theorem ok_addr {f:Addr} {fd:FuncData} (F:Fun K "is_address" "is_address" pM f fd) (C:Cst K mg w aO t1 t2 t3 t4 t5 t6 fs) (WI:Fn P w K mg base "is_within" 2 ["thing","low","high"] spWithin):aI P w K mg base bE 3 f fd ["thing"] (spTo 399):=by
 refine F.ok scAddr (fun vs H Q E h=>?_) (fun cdv A outer s H vs Q E hr h=>?_)
 ·obtain ⟨p,v,t,rfl,_⟩:=h
  rfl
 ·obtain ⟨p,v,t,rfl,tv,q⟩:=h
  refine ⟨_,ah (am (ao WI hr rfl (aa (pv 0) (aa ad (aa (bB (v:=.int 399) rfl C.addr ⟨_,rfl⟩) ac))))),?_⟩
  exact ⟨_,rfl,p,v,t,0,399,rfl,tv,q⟩
end
end L3
namespace L3
open PySem L2
theorem bM {p:Addr} {H:Hp} {v:V} {t:Th} {w:Str} {n:Nat} (tv:TgV p H v t) (h:hd w n t=true):∃ (a:Addr) (xs:List V),v=.ref a/\H a=some (.tup xs)/\∀ i,i < n->∃ u,xs[i]?=some u/\TgV p H u (arg i t):=by
 cases tv with
 | non=>cases h
 | int i=>cases h
 | str x=>cases h
 | lst a b c=>cases h
 | dct a b=>cases h
 | @tup a xs ts e ta=>
  refine ⟨a,xs,rfl,e,fun i hi=>?_⟩
  have hl:ts.length=n:=by
   by_cases q:ts.length=n
   ·exact q
   ·rw [hd_len q] at h;cases h
  have hil:i < xs.length:=by rw [ta.length];omega
  have hx:xs[i]?=some xs[i]:=Cm hil
  obtain ⟨u,eu,tu⟩:=ta.get hx
  exact ⟨_,hx,by show TgV p H _ ((ts[i]?).getD .non);rw [eu];exact tu⟩
theorem bZ (x:Str):∀ l:List Str,uF (.str x) (l.map V.str)=l.contains x
 | []=>rfl
 | y::l=>by
  have ih:=bZ x l
  unfold uF at ih ⊢
  rw [BR,CQ,ih,List.contains_cons]
  congr 1
  show decide (y=x)=(x == y)
  by_cases h:y=x
  ·subst h;simp
  ·have:(x == y)=false:=by simpa using Ne.symm h
   rw [this,decide_eq_false h]
def sx (t:Th):Prop:=hg t=true/\∀ i,hg (arg i t)=true
theorem pX {K:PySem.W.Frag} {p l:Addr} {H:Hp} {u:V} {t:Th} {Q:VK} (tu:TgV p H u t) (el:H l=some (.lst (opsL.map V.str))) (q:Q (.bl (opOk t)) H):A1 (zw K false) (ya K) u (.ref l) H Q:=by
 cases tu with
 | non=>exact .inl ⟨l,_,rfl,.inl (SqL.of el),rfl,by decide +kernel,q⟩
 | int i=>exact .inl ⟨l,_,rfl,.inl (SqL.of el),rfl,by decide +kernel,q⟩
 | str x=>
  refine .inl ⟨l,_,rfl,.inl (SqL.of el),rfl,by decide +kernel,?_⟩
  have:uF (.str x) (opsL.map V.str)=opsL.contains x:=bZ x opsL
  have q':Q (.bl (opsL.contains x)) H:=q
  rw [<-this] at q'
  exact q'
 | tup e _=>exact .inr ⟨_,l,opsL,rfl,rfl,.inr (.inl ⟨_,SqT.of e⟩),.inl (SqL.of el),q⟩
 | lst _ e _=>exact .inr ⟨_,l,opsL,rfl,rfl,.inl ⟨_,SqL.of e⟩,.inl (SqL.of el),q⟩
 | dct _ e=>exact .inr ⟨_,l,opsL,rfl,rfl,.inr (.inr ⟨_,e⟩),.inl (SqL.of el),q⟩
def zA (ok:Th->Bool):Sp:=fun vs H Q _=>∃ (p:Addr) (v:V) (t:Th),vs=[v]/\TgV p H v t/\hg t=true/\Q (.bl (ok t)) H
section
variable {P:Program} {w:World} {K:PySem.W.Frag} {mg:Str->Option Value} {base:Heap} {aO:Addr} {t1 t2 t3 t4 t5 t6:Tok} {fs:Str->V}
theorem yb:aq ["thing"] ["thing"] (al vA):=⟨rfl,rfl,rfl,by decide +kernel,rfl,by decide +kernel,by decide +kernel⟩
theorem vJ {f:Addr} {fd:FuncData} (F:Fun K "is_sel" "is_sel" vA f fd) (C:Cst K mg w aO t1 t2 t3 t4 t5 t6 fs) (WI:Fn P w K mg base "is_within" 2 ["thing","low","high"] spWithin) (HD:Fn P w K mg base "is_headed" 1 ["thing","word","many"] spHeaded) (FI:Fn P w K mg base "is_field" 3 ["thing"] (spTo 2)) :
  aI P w K mg base bE 4 f fd ["thing"] (zA selOk):=by
 refine F.ok yb (fun vs H Q E h=>?_) (fun cdv A outer s H vs Q E hr h=>?_)
 ·obtain ⟨p,v,t,rfl,_⟩:=h
  rfl
 ·obtain ⟨p,v,t,rfl,tv,hgt,q⟩:=h
  have hr1:Room 1 _:=hr.mono (by decide)
  have hr2:Room 2 _:=hr.mono (by decide)
  refine ⟨_,ak (aH (aV (ao HD hr1 rfl (aa (pv 0) (aa af (aa ad ac))))) (ah (am (ao WI hr2 rfl (aa (ap au (pv 0) ad (fun _ _=>rfl)) (aa ad (aa (bB (v:=.int 3) rfl C.sel ⟨_,rfl⟩) ac)))))) aw)
   (ah (am (bI (ao HD hr1 rfl (aa (pv 0) (aa af (aa ad ac)))) (bU (ao FI hr rfl (aa (ap au (pv 0) ad (fun _ _=>rfl)) ac)))))),?_⟩
  have fin:∀ b,selOk t=b->Q (.bl b) H:=fun b e=>e ▸ q
  refine ⟨_,rfl,p,v,t,"is",2,rfl,tv,hgt,fun z=>absurd z (by decide),by decide,by decide +kernel,_,rfl,bF (fun h1=>?_) (fun h1=>?_)⟩
  ·obtain ⟨a,xs,rfl,e,ag⟩:=bM tv h1
   obtain ⟨u1,e1,ta⟩:=ag 1 (by decide)
   exact ⟨_,rfl,a,_,_,_,rfl,rfl,SqT.of e,aM (j:=1) e1,p,u1,_,0,3,rfl,ta,fin _ (by unfold selOk;rw [if_pos h1])⟩
  ·refine ⟨_,rfl,p,v,t,"by",2,rfl,tv,hgt,fun z=>absurd z (by decide),by decide,by decide +kernel,_,rfl,bF (fun h2=>?_) (fun h2=>?_)⟩
   ·obtain ⟨a,xs,rfl,e,ag⟩:=bM tv h2
    obtain ⟨u1,e1,ta⟩:=ag 1 (by decide)
    exact ⟨_,rfl,a,_,_,_,rfl,rfl,SqT.of e,aM (j:=1) e1,p,u1,_,rfl,ta,fin _ (by unfold selOk;rw [if_neg h1,h2,Bool.true_and])⟩
   ·exact fin _ (by unfold selOk;rw [if_neg h1,BC.mpr h2,Bool.false_and])
theorem pY:aq ["thing"] ["thing"] (al jB):=⟨rfl,rfl,rfl,by decide +kernel,rfl,by decide +kernel,by decide +kernel⟩
theorem oo {f:Addr} {fd:FuncData} (F:Fun K "is_source" "is_source" jB f fd) (C:Cst K mg w aO t1 t2 t3 t4 t5 t6 fs) (WI:Fn P w K mg base "is_within" 2 ["thing","low","high"] spWithin) (HD:Fn P w K mg base "is_headed" 1 ["thing","word","many"] spHeaded) (FI:Fn P w K mg base "is_field" 3 ["thing"] (spTo 2)) (IN:Fn P w K mg base "is_inner" 3 ["thing"] (spTo 7)) :
  aI P w K mg base bE 4 f fd ["thing"] (zA srcOk):=by
 refine F.ok pY (fun vs H Q E h=>?_) (fun cdv A outer s H vs Q E hr h=>?_)
 ·obtain ⟨p,v,t,rfl,_⟩:=h
  rfl
 ·obtain ⟨p,v,t,rfl,tv,hgt,q⟩:=h
  have hr1:Room 1 _:=hr.mono (by decide)
  have hr2:Room 2 _:=hr.mono (by decide)
  refine ⟨_,ak (aH (aV (ao HD hr1 rfl (aa (pv 0) (aa af (aa ad ac))))) (ah (am (ao IN hr rfl (aa (ap au (pv 0) ad (fun _ _=>rfl)) ac)))) aw)
   (ak (aH (aV (ao HD hr1 rfl (aa (pv 0) (aa af (aa ad ac))))) (ah (am (ao WI hr2 rfl (aa (ap au (pv 0) ad (fun _ _=>rfl)) (aa ad (aa (bB (v:=.int 16777215) rfl C.word ⟨_,rfl⟩) ac)))))) aw)
   (ah (am (bI (ao HD hr1 rfl (aa (pv 0) (aa af (aa ad ac)))) (bU (ao FI hr rfl (aa (ap au (pv 0) ad (fun _ _=>rfl)) ac))))))),?_⟩
  have fin:∀ b,srcOk t=b->Q (.bl b) H:=fun b e=>e ▸ q
  refine ⟨_,rfl,p,v,t,"in",2,rfl,tv,hgt,fun z=>absurd z (by decide),by decide,by decide +kernel,_,rfl,bF (fun h1=>?_) (fun h1=>?_)⟩
  ·obtain ⟨a,xs,rfl,e,ag⟩:=bM tv h1
   obtain ⟨u1,e1,ta⟩:=ag 1 (by decide)
   exact ⟨_,rfl,a,_,_,_,rfl,rfl,SqT.of e,aM (j:=1) e1,p,u1,_,rfl,ta,fin _ (by unfold srcOk;rw [if_pos h1])⟩
  ·refine ⟨_,rfl,p,v,t,"number",2,rfl,tv,hgt,fun z=>absurd z (by decide),by decide,by decide +kernel,_,rfl,bF (fun h2=>?_) (fun h2=>?_)⟩
   ·obtain ⟨a,xs,rfl,e,ag⟩:=bM tv h2
    obtain ⟨u1,e1,ta⟩:=ag 1 (by decide)
    exact ⟨_,rfl,a,_,_,_,rfl,rfl,SqT.of e,aM (j:=1) e1,p,u1,_,0,16777215,rfl,ta,fin _ (by unfold srcOk;rw [if_neg h1,if_pos h2])⟩
   ·refine ⟨_,rfl,p,v,t,"field",2,rfl,tv,hgt,fun z=>absurd z (by decide),by decide,by decide +kernel,_,rfl,bF (fun h3=>?_) (fun h3=>?_)⟩
    ·obtain ⟨a,xs,rfl,e,ag⟩:=bM tv h3
     obtain ⟨u1,e1,ta⟩:=ag 1 (by decide)
     exact ⟨_,rfl,a,_,_,_,rfl,rfl,SqT.of e,aM (j:=1) e1,p,u1,_,rfl,ta,fin _ (by unfold srcOk;rw [if_neg h1,if_neg h2,h3,Bool.true_and])⟩
    ·exact fin _ (by unfold srcOk;rw [if_neg h1,if_neg h2,BC.mpr h3,Bool.false_and])
theorem pZ:aq ["thing"] ["thing"] (al jC):=⟨rfl,rfl,rfl,by decide +kernel,rfl,by decide +kernel,by decide +kernel⟩
set_option maxHeartbeats 4000000 in
theorem oq {f:Addr} {fd:FuncData} (F:Fun K "is_step" "is_step" jC f fd) (HD:Fn P w K mg base "is_headed" 1 ["thing","word","many"] spHeaded) (IN:Fn P w K mg base "is_inner" 3 ["thing"] (spTo 7)) (SE:Fn P w K mg base "is_sel" 4 ["thing"] (zA selOk)) (SO:Fn P w K mg base "is_source" 4 ["thing"] (zA srcOk)) (OP:Fn P w K mg base "ops_told" 1 [] spOps) :
  aI P w K mg base bE 5 f fd ["thing"] (spAsk stepOk sx):=by
 refine F.ok pZ (fun vs H Q E h=>?_) (fun cdv A outer s H vs Q E hr h=>?_)
 ·obtain ⟨p,v,t,rfl,_⟩:=h
  rfl
 ·obtain ⟨p,v,t,rfl,tv,⟨hgt,hga⟩,q⟩:=h
  have hr1:Room 1 _:=hr.mono (by decide)
  have hr3:Room 3 _:=hr.mono (by decide)
  refine ⟨_,ak (aH (PW.pt (cM (aV (ao HD hr1 rfl (aa (pv 0) (aa af (aa ad ac))))) (cm (aV (ao HD hr1 rfl (aa (pv 0) (aa af (aa ad ac)))))))) (ah (am (bI (ao IN hr3 rfl (aa (ap au (pv 0) ad (fun _ _=>rfl)) ac)) (bU (ao SE hr rfl (aa (ap au (pv 0) ad (fun _ _=>rfl)) ac)))))) aw)
   (ak (aH (aV (ao HD hr1 rfl (aa (pv 0) (aa af (aa ad ac))))) (ah (am (bI (ao IN hr3 rfl (aa (ap au (pv 0) ad (fun _ _=>rfl)) ac)) (bU (ao SO hr rfl (aa (ap au (pv 0) ad (fun _ _=>rfl)) ac)))))) aw)
   (ak (aH (aV (ao HD hr1 rfl (aa (pv 0) (aa af (aa ad ac))))) (ah (am (bI (ao IN hr3 rfl (aa (ap au (pv 0) ad (fun _ _=>rfl)) ac)) (bI (cz (jd cx (vI hr)) (ap au (pv 0) ad (fun _ _=>rfl)) (vG OP hr1 rfl) rfl) (bI (ao SO hr rfl (aa (ap au (pv 0) ad (fun _ _=>rfl)) ac)) (bU (ao SO hr rfl (aa (ap au (pv 0) ad (fun _ _=>rfl)) ac)))))))) aw)
   (ak (aH (PW.pt (cM (aV (ao HD hr1 rfl (aa (pv 0) (aa af (aa ad ac))))) (cm (aV (ao HD hr1 rfl (aa (pv 0) (aa af (aa ad ac)))))))) (ah (am (bI (ao SE hr rfl (aa (ap au (pv 0) ad (fun _ _=>rfl)) ac)) (bU (ao SO hr rfl (aa (ap au (pv 0) ad (fun _ _=>rfl)) ac)))))) aw)
   (ah (am (bI (ao HD hr1 rfl (aa (pv 0) (aa af (aa ad ac)))) (bI (ao SO hr rfl (aa (ap au (pv 0) ad (fun _ _=>rfl)) ac)) (bU (ao SO hr rfl (aa (ap au (pv 0) ad (fun _ _=>rfl)) ac)))))))))),?_⟩
  have fin:∀ b H',stepOk t=b->Same H H'->Q (.bl b) H':=fun b H' e s=>e ▸ q H' s
  refine ⟨_,rfl,p,v,t,"get",3,rfl,tv,hgt,fun z=>absurd z (by decide),by decide,by decide +kernel,_,rfl,bF (fun h1=>?_) (fun h1=>?_)⟩
  ·obtain ⟨a,xs,rfl,e,ag⟩:=bM tv h1
   obtain ⟨u1,e1,t1⟩:=ag 1 (by decide)
   obtain ⟨u2,e2,t2⟩:=ag 2 (by decide)
   have eS:stepOk t=(wn 0 7 (arg 1 t) && (selOk (arg 2 t))):=by unfold stepOk;simp [h1]
   exact ⟨_,rfl,a,_,_,_,rfl,rfl,SqT.of e,aM (j:=1) e1,p,_,_,rfl,t1,_,rfl,bF (fun g0=>⟨_,rfl,a,_,_,_,rfl,rfl,SqT.of e,aM (j:=2) e2,p,_,_,rfl,t2,hga 2,fin _ _ (by rw [eS];simp [g0]) (Same.refl _)⟩) (fun g0=>fin false _ (by rw [eS];simp [BC.mpr g0]) (Same.refl _))⟩
  ·skip
   refine ⟨_,rfl,p,v,t,"ask",3,rfl,tv,hgt,fun z=>absurd z (by decide),by decide,by decide +kernel,_,rfl,bF (fun h2=>?_) (fun h2=>?_)⟩
   ·obtain ⟨a,xs,rfl,e,ag⟩:=bM tv h2
    obtain ⟨u1,e1,t1⟩:=ag 1 (by decide)
    obtain ⟨u2,e2,t2⟩:=ag 2 (by decide)
    have eS:stepOk t=(wn 0 7 (arg 1 t) && (selOk (arg 2 t))):=by unfold stepOk;simp [h1,h2]
    exact ⟨_,rfl,a,_,_,_,rfl,rfl,SqT.of e,aM (j:=1) e1,p,_,_,rfl,t1,_,rfl,bF (fun g0=>⟨_,rfl,a,_,_,_,rfl,rfl,SqT.of e,aM (j:=2) e2,p,_,_,rfl,t2,hga 2,fin _ _ (by rw [eS];simp [g0]) (Same.refl _)⟩) (fun g0=>fin false _ (by rw [eS];simp [BC.mpr g0]) (Same.refl _))⟩
   ·skip
    refine ⟨_,rfl,p,v,t,"cell",3,rfl,tv,hgt,fun z=>absurd z (by decide),by decide,by decide +kernel,_,rfl,bF (fun h3=>?_) (fun h3=>?_)⟩
    ·obtain ⟨a,xs,rfl,e,ag⟩:=bM tv h3
     obtain ⟨u1,e1,t1⟩:=ag 1 (by decide)
     obtain ⟨u2,e2,t2⟩:=ag 2 (by decide)
     have eS:stepOk t=(wn 0 7 (arg 1 t) && (srcOk (arg 2 t))):=by unfold stepOk;simp [h1,h2,h3]
     exact ⟨_,rfl,a,_,_,_,rfl,rfl,SqT.of e,aM (j:=1) e1,p,_,_,rfl,t1,_,rfl,bF (fun g0=>⟨_,rfl,a,_,_,_,rfl,rfl,SqT.of e,aM (j:=2) e2,p,_,_,rfl,t2,hga 2,fin _ _ (by rw [eS];simp [g0]) (Same.refl _)⟩) (fun g0=>fin false _ (by rw [eS];simp [BC.mpr g0]) (Same.refl _))⟩
    ·skip
     refine ⟨_,rfl,p,v,t,"two",5,rfl,tv,hgt,fun z=>absurd z (by decide),by decide,by decide +kernel,_,rfl,bF (fun h4=>?_) (fun h4=>?_)⟩
     ·obtain ⟨a,xs,rfl,e,ag⟩:=bM tv h4
      obtain ⟨u1,e1,t1⟩:=ag 1 (by decide)
      obtain ⟨u2,e2,t2⟩:=ag 2 (by decide)
      obtain ⟨u3,e3,t3⟩:=ag 3 (by decide)
      obtain ⟨u4,e4,t4⟩:=ag 4 (by decide)
      have eS:stepOk t=(wn 0 7 (arg 1 t) && (opOk (arg 2 t) && (srcOk (arg 3 t) && (srcOk (arg 4 t))))):=by unfold stepOk;simp [h1,h2,h3,h4]
      exact ⟨_,rfl,a,_,_,_,rfl,rfl,SqT.of e,aM (j:=1) e1,p,_,_,rfl,t1,_,rfl,bF (fun g0=>⟨_,rfl,a,_,_,_,rfl,rfl,SqT.of e,aM (j:=2) e2,rfl,fun l nl=>by
        have s1:=aj (o:=.lst (opsL.map V.str)) nl
        have el:(az H l (.lst (opsL.map V.str))) l=some (.lst (opsL.map V.str)):=ae
        generalize az H l (.lst (opsL.map V.str))=H1 at *
        exact pX (t2.same s1) el ⟨_,rfl,bF (fun g1=>⟨_,rfl,a,_,_,_,rfl,rfl,SqT.of (s1 _ _ e),aM (j:=3) e3,p,_,_,rfl,t3.same s1,hga 3,_,rfl,bF (fun g2=>⟨_,rfl,a,_,_,_,rfl,rfl,SqT.of (s1 _ _ e),aM (j:=4) e4,p,_,_,rfl,t4.same s1,hga 4,fin _ _ (by rw [eS];simp [g0,g1,g2]) (s1)⟩) (fun g2=>fin false _ (by rw [eS];simp [g0,g1,BC.mpr g2]) (s1))⟩) (fun g1=>fin false _ (by rw [eS];simp [g0,BC.mpr g1]) s1)⟩⟩) (fun g0=>fin false _ (by rw [eS];simp [BC.mpr g0]) (Same.refl _))⟩
     ·skip
      refine ⟨_,rfl,p,v,t,"put",3,rfl,tv,hgt,fun z=>absurd z (by decide),by decide,by decide +kernel,_,rfl,bF (fun h5=>?_) (fun h5=>?_)⟩
      ·obtain ⟨a,xs,rfl,e,ag⟩:=bM tv h5
       obtain ⟨u1,e1,t1⟩:=ag 1 (by decide)
       obtain ⟨u2,e2,t2⟩:=ag 2 (by decide)
       have eS:stepOk t=(selOk (arg 1 t) && (srcOk (arg 2 t))):=by unfold stepOk;simp [h1,h2,h3,h4,h5]
       exact ⟨_,rfl,a,_,_,_,rfl,rfl,SqT.of e,aM (j:=1) e1,p,_,_,rfl,t1,hga 1,_,rfl,bF (fun g0=>⟨_,rfl,a,_,_,_,rfl,rfl,SqT.of e,aM (j:=2) e2,p,_,_,rfl,t2,hga 2,fin _ _ (by rw [eS];simp [g0]) (Same.refl _)⟩) (fun g0=>fin false _ (by rw [eS];simp [BC.mpr g0]) (Same.refl _))⟩
      ·skip
       refine ⟨_,rfl,p,v,t,"tell",3,rfl,tv,hgt,fun z=>absurd z (by decide),by decide,by decide +kernel,_,rfl,bF (fun h6=>?_) (fun h6=>?_)⟩
       ·obtain ⟨a,xs,rfl,e,ag⟩:=bM tv h6
        obtain ⟨u1,e1,t1⟩:=ag 1 (by decide)
        obtain ⟨u2,e2,t2⟩:=ag 2 (by decide)
        have eS:stepOk t=(selOk (arg 1 t) && (srcOk (arg 2 t))):=by unfold stepOk;simp [h1,h2,h3,h4,h5,h6]
        exact ⟨_,rfl,a,_,_,_,rfl,rfl,SqT.of e,aM (j:=1) e1,p,_,_,rfl,t1,hga 1,_,rfl,bF (fun g0=>⟨_,rfl,a,_,_,_,rfl,rfl,SqT.of e,aM (j:=2) e2,p,_,_,rfl,t2,hga 2,fin _ _ (by rw [eS];simp [g0]) (Same.refl _)⟩) (fun g0=>fin false _ (by rw [eS];simp [BC.mpr g0]) (Same.refl _))⟩
       ·skip
        refine ⟨_,rfl,p,v,t,"store",3,rfl,tv,hgt,fun z=>absurd z (by decide),by decide,by decide +kernel,_,rfl,bF (fun h7=>?_) (fun h7=>?_)⟩
        ·obtain ⟨a,xs,rfl,e,ag⟩:=bM tv h7
         obtain ⟨u1,e1,t1⟩:=ag 1 (by decide)
         obtain ⟨u2,e2,t2⟩:=ag 2 (by decide)
         have eS:stepOk t=(srcOk (arg 1 t) && (srcOk (arg 2 t))):=by unfold stepOk;simp [h1,h2,h3,h4,h5,h6,h7]
         exact ⟨_,rfl,a,_,_,_,rfl,rfl,SqT.of e,aM (j:=1) e1,p,_,_,rfl,t1,hga 1,_,rfl,bF (fun g0=>⟨_,rfl,a,_,_,_,rfl,rfl,SqT.of e,aM (j:=2) e2,p,_,_,rfl,t2,hga 2,fin _ _ (by rw [eS];simp [g0]) (Same.refl _)⟩) (fun g0=>fin false _ (by rw [eS];simp [BC.mpr g0]) (Same.refl _))⟩
        ·skip
         exact fin false _ (by unfold stepOk;simp [h1,h2,h3,h4,h5,h6,h7]) (Same.refl _)
end
end L3
namespace L3
open PySem L2
def ownS:List Str:=["word","cells","depth","places","marks","gate","kind","place","mark","number","row","set","if","else","top","next","go","call","back","stop","fault","bell"]
def ownV:List V:=ownS.map V.str
def sy:Str:="abcdefghijklmnopqrstuvwxyz"
def vK:List Nat:=[97,98,99,100,101,102,103,104,105,106,107,108,109,110,111,112,113,114,115,116,117,118,119,120,121,122]
theorem yc:sy=S vK:=by decide +kernel
theorem sB (c:Nat):c∈vK↔97<=c/\c<=122:=by
 unfold vK
 simp only [BH,BW,or_false]
 omega
def p0 (l:List Nat):Bool:=uF (.str (S l)) ownV
def dw (c:Nat):Bool:=decide (97<=c) && decide (c<=122)
def eI (l:List Nat):Bool:=!p0 l && (decide (1<=l.length) && decide (l.length<=8) && l.all dw)
theorem ot:ownV.all fS=true:=by decide +kernel
def kM:Th->Bool
 | .str z=>eI z.cps.toList
 | _=>false
def p4:Sp:=fun vs H Q _=>∃ (p:Addr) (v:V) (t:Th),vs=[v]/\TgV p H v t/\(∀ z,t=.str z->z.cps.toList.length<=1000)/\∀ H',Same H H'->Q (.bl (kM t)) H'
structure yd (K:PySem.W.Frag) (mg:Str->Option Value) (aO:Addr) (tL tN:Tok):Prop where
 own:mg "OWN_WORDS"=some (.ref aO)
 sq:∀ H,SqT K H aO ownV
 lets:mg "LETTERS"=some (.str sy tL)
 lng:mg "LONGEST_NAME"=some (.int 8 tN)
def fauS:List Str:=["deep","bare"]
def vL:Th->Bool
 | .str z=>!fauS.contains z
 | _=>false
def bT (t:Th):Bool:=if hd "go" 2 t || hd "call" 2 t then wn 0 2 (arg 1 t) else if hd "fault" 2 t then kM (arg 1 t) && vL (arg 1 t) else (hd "next" 1 t || (hd "back" 1 t || hd "stop" 1 t))
def cv (t:Th):Bool:=if hd "on" 2 t then wn 0 399 (arg 1 t) else if hd "some" 4 t || hd "top" 4 t then wn 0 7 (arg 1 t) && (wn 0 399 (arg 2 t) && wn 0 399 (arg 3 t)) else (hd "done" 2 t && bT (arg 1 t))
def bH:Th->Bool
 | .tup [.tup ss,on]=>decide (ss.length<=16) && (ss.all stepOk && cv on)
 | _=>false
def kN (t:Th):Prop:=hg t=true/\hg1 t=true/\∀ z,arg 1 t=.str z->z.cps.toList.length<=1000
def ye (t:Th):Prop:=hg t=true/\kN (arg 1 t)
section
variable {P:Program} {w:World} {K:PySem.W.Frag} {mg:Str->Option Value} {base:Heap} {aO:Addr} {t1 t2 t3 t4 t5 t6:Tok} {fs:Str->V}
theorem vM:aq ["thing"] ["thing"] (al mV):=⟨rfl,rfl,rfl,by decide +kernel,rfl,by decide +kernel,by decide +kernel⟩
theorem yf:(["sign"]:List Str).Nodup:=by decide +kernel
set_option maxHeartbeats 1000000 in
theorem sC {f aO:Addr} {fd:FuncData} {tL tN:Tok} (F:Fun K "is_name" "is_name" mV f fd) (T:Bl mg) (C:yd K mg aO tL tN):aI P w K mg base bE 1 f fd ["thing"] p4:=by
 refine F.ok vM (fun vs H Q E h=>?_) (fun cdv A outer s H vs Q E hr h=>?_)
 ·obtain ⟨p,x,t,rfl,_⟩:=h
  rfl
 ·obtain ⟨p,x,t,rfl,tv,hz,q⟩:=h
  refine ⟨_,ak (aH (PW.pt (cM (cw (aV (aJ (cS (T:="str")) (by rfl) T.isinstance bG (aa (pv 0) (aa (dY (by rfl) T.str bK) ac)))))
    (cm (ax cx (pv 0) (bB (v:=.ref aO) rfl C.own rfl) rfl)))) (ah (am fb)) aw)
   (ah (am (bI (ko iK iK ad (aJ dG (by rfl) T.len B5 (aa (pv 0) ac)) (bB (v:=.int 8) rfl C.lng ⟨_,rfl⟩))
    (bU (aJ (hE rfl) (by rfl) T.all gq (aa (fc (N':=["sign"]) (ix:=[none]) (sc0:=al mV) (N:=["thing"]) rfl (by decide +kernel) (pk (pv 0))
     (fun C' cl s H fp=>bt (i:=0) yf rfl (Or.inl rfl) (.inr rfl)) (fun _ _ _ _ _=>df) (fun C' cl s H fp=>cz iM (pv 0) (bB (v:=.str sy) rfl C.lets ⟨_,rfl⟩) rfl)) ac)))))),?_⟩
  refine ⟨_,rfl,x,_,_,rfl,tv.ty,kit_str t,_,rfl,?_⟩
  by_cases ht:t.isStr=true
  ·cases tv with
   | str z=>
    have hl:=hz z rfl
    rw [show kM (.str z)=eI z.cps.toList from rfl] at q
    generalize hzl:z.cps.toList=l at *
    have hzS:z=S l:=by rw [<-hzl];exact gJ z
    subst hzS
    have sz:(100000:Nat)<=sizeLine:=by decide
    refine bo ⟨_,rfl,aO,ownV,rfl,.inr (C.sq H),rfl,ot,_,rfl,?_⟩
    refine bF (fun h=>?_) (fun h=>?_)
    ·have h':p0 l=true:=h
     have:=q H (Same.refl _)
     unfold eI at this
     rw [h',Bool.not_true,Bool.false_and] at this
     exact this
    ·have h':p0 l=false:=BC.mpr h
     have q':∀ H',Same H H'->Q (.bl (decide (1<=l.length) && decide (l.length<=8) && l.all dw)) H':=fun H' s'=>by
      have:=q H' s'
      unfold eI at this
      rw [h',Bool.not_false,Bool.true_and] at this
      exact this
     refine ⟨_,rfl,S l,rfl,(by rw [a8];omega),_,_,rfl,rfl,_,rfl,?_⟩
     rw [a8]
     by_cases c1:1<=l.length
     ·refine bg (decide_eq_true (by omega)) ⟨_,_,rfl,rfl,_,rfl,?_⟩
      by_cases c2:l.length<=8
      ·refine bg (decide_eq_true (by omega)) ⟨_,rfl,l,rfl,?_⟩
       refine pq (fun i ys H'=>ys=(l.take i).map (fun c=>V.bl (dw c))/\Same H H') ⟨rfl,Same.refl _⟩ (fun i ys H' hi ⟨e,_⟩=>by rw [e,BE,BZ];omega) ?_ ?_
       ·rintro i ys H' hi ⟨rfl,s'⟩
        refine ⟨trivial,dh ?_⟩
        refine ⟨_,rfl,S [l[i]],_,rfl,rfl,?_⟩
        rw [yc,mM]
        refine Nx.mk hi ⟨?_,s'⟩
        rw [<-List.take_append_getElem hi,B8]
        congr 2
        show V.bl _=V.bl (dw l[i])
        congr 1
        unfold dw
        rw [Ce,decide_eq_true_iff,BD,decide_eq_true_iff,decide_eq_true_iff]
        exact sB _
       ·rintro ys H' ⟨rfl,s'⟩ D hD
        refine ⟨D,l.map dw,rfl,SqL.of ?_,?_⟩
        ·rw [ae,B1,Cl9]
         rfl
        ·have:=q' _ (s'.trans (aj (o:=.lst ((l.take l.length).map (fun c=>V.bl (dw c)))) hD))
         rw [decide_eq_true c1,decide_eq_true c2,Bool.true_and,Bool.true_and] at this
         rw [List.all_map]
         exact this
      ·refine aR (decide_eq_false (by omega)) ?_
       have:=q' H (Same.refl _)
       rw [decide_eq_false c2,Bool.and_false,Bool.false_and] at this
       exact this
     ·refine aR (decide_eq_false (by omega)) ⟨_,rfl,bo ?_⟩
      have:=q' H (Same.refl _)
      rw [decide_eq_false c1,Bool.false_and,Bool.false_and] at this
      exact this
   | non=>cases ht
   | int _=>cases ht
   | tup _ _=>cases ht
   | lst _ _ _=>cases ht
   | dct _ _=>cases ht
  ·have ht':t.isStr=false:=BC.mpr ht
   rw [ht']
   refine bY ?_
   have:=q H (Same.refl _)
   cases tv with
   | str _=>exact absurd rfl ht
   | non=>exact this
   | int _=>exact this
   | tup _ _=>exact this
   | lst _ _ _=>exact this
   | dct _ _=>exact this
theorem sD:aq ["thing"] ["thing"] (al lW):=⟨rfl,rfl,rfl,by decide +kernel,rfl,by decide +kernel,by decide +kernel⟩
set_option maxHeartbeats 4000000 in
theorem p5 {f aF:Addr} {fd:FuncData} (F:Fun K "is_end" "is_end" lW f fd) (hF:mg "OWN_FAULTS"=some (.ref aF)) (sF:∀ H,SqT K H aF (fauS.map V.str)) (HD:Fn P w K mg base "is_headed" 1 ["thing","word","many"] spHeaded) (FI:Fn P w K mg base "is_field" 3 ["thing"] (spTo 2)) (NM:Fn P w K mg base "is_name" 1 ["thing"] p4) :
  aI P w K mg base bE 4 f fd ["thing"] (spAsk bT kN):=by
 refine F.ok sD (fun vs H Q E h=>?_) (fun cdv A outer s H vs Q E hr h=>?_)
 ·obtain ⟨p,v,t,rfl,_⟩:=h
  rfl
 ·obtain ⟨p,v,t,rfl,tv,⟨hgt,hg1t,hgn⟩,q⟩:=h
  have hr1:Room 1 _:=hr.mono (by decide)
  refine ⟨_,ak (aH (PW.pt (cM (aV (ao HD hr1 rfl (aa (pv 0) (aa af (aa ad ac))))) (cm (aV (ao HD hr1 rfl (aa (pv 0) (aa af (aa ad ac)))))))) (ah (am (ao FI hr rfl (aa (ap au (pv 0) ad (fun _ _=>rfl)) ac)))) aw)
   (ak (aH (aV (ao HD hr1 rfl (aa (pv 0) (aa af (aa ad ac))))) (ah (am (bI (ao NM hr1 rfl (aa (ap au (pv 0) ad (fun _ _=>rfl)) ac)) (bU (cz jw (ap au (pv 0) ad (fun _ _=>rfl)) (bB (v:=.ref aF) rfl hF rfl) rfl))))) aw)
   (ah (am (uu (ao HD hr1 rfl (aa (pv 0) (aa af (aa ad ac)))) (uu (ao HD hr1 rfl (aa (pv 0) (aa af (aa ad ac)))) (bU (ao HD hr1 rfl (aa (pv 0) (aa af (aa ad ac)))))))))),?_⟩
  have fin:∀ b H',bT t=b->Same H H'->Q (.bl b) H':=fun b H' e s=>e ▸ q H' s
  refine ⟨_,rfl,p,v,t,"go",2,rfl,tv,hgt,fun z=>absurd z (by decide),by decide,by decide +kernel,_,rfl,bF (fun h1=>?_) (fun h1=>?_)⟩
  ·obtain ⟨a,xs,rfl,e,ag⟩:=bM tv h1
   obtain ⟨u1,e1,t1⟩:=ag 1 (by decide)
   have eS:bT t=wn 0 2 (arg 1 t):=by unfold bT;simp [h1]
   exact ⟨_,rfl,a,_,_,_,rfl,rfl,SqT.of e,aM (j:=1) e1,p,_,_,rfl,t1,fin _ _ (by rw [eS]) (Same.refl _)⟩
  ·skip
   refine ⟨_,rfl,p,v,t,"call",2,rfl,tv,hgt,fun z=>absurd z (by decide),by decide,by decide +kernel,_,rfl,bF (fun h2=>?_) (fun h2=>?_)⟩
   ·obtain ⟨a,xs,rfl,e,ag⟩:=bM tv h2
    obtain ⟨u1,e1,t1⟩:=ag 1 (by decide)
    have eS:bT t=wn 0 2 (arg 1 t):=by unfold bT;simp [h1,h2]
    exact ⟨_,rfl,a,_,_,_,rfl,rfl,SqT.of e,aM (j:=1) e1,p,_,_,rfl,t1,fin _ _ (by rw [eS]) (Same.refl _)⟩
   ·skip
    refine ⟨_,rfl,p,v,t,"fault",2,rfl,tv,hgt,fun z=>absurd z (by decide),by decide,by decide +kernel,_,rfl,bF (fun h3=>?_) (fun h3=>?_)⟩
    ·obtain ⟨a,xs,rfl,e,ag⟩:=bM tv h3
     obtain ⟨u1,e1,t1⟩:=ag 1 (by decide)
     have eS:bT t=(kM (arg 1 t) && vL (arg 1 t)):=by unfold bT;simp [h1,h2,h3]
     refine ⟨_,rfl,a,_,_,_,rfl,rfl,SqT.of e,aM (j:=1) e1,p,_,_,rfl,t1,hgn,fun H1 s1=>⟨_,rfl,bF (fun g=>?_) (fun g=>?_)⟩⟩
     ·generalize hx:arg 1 t=x at *
      cases t1 with
      | str z=>
       refine ⟨_,rfl,a,_,_,_,rfl,rfl,SqT.of (s1 _ _ e),aM (j:=1) e1,aF,_,rfl,.inr (sF H1),rfl,by decide +kernel,?_⟩
       refine fin _ _ ?_ s1
       rw [eS,g,Bool.true_and]
       show (!fauS.contains z)=(if true=true then !uF (.str z) (fauS.map V.str) else uF (.str z) (fauS.map V.str))
       rw [if_pos rfl,bZ]
      | non=>cases g
      | int _=>cases g
      | tup _ _=>cases g
      | lst _ _ _=>cases g
      | dct _ _=>cases g
     ·exact fin false _ (by rw [eS,BC.mpr g,Bool.false_and]) s1
    ·have eS:bT t=(hd "next" 1 t || (hd "back" 1 t || hd "stop" 1 t)):=by unfold bT;simp [h1,h2,h3]
     refine ⟨_,rfl,p,v,t,"next",1,rfl,tv,hgt,fun _=>hg1t,by decide,by decide +kernel,_,rfl,bF (fun h4=>?_) (fun h4=>?_)⟩
     ·exact fin true _ (by rw [eS,h4];rfl) (Same.refl _)
     ·refine ⟨_,rfl,p,v,t,"back",1,rfl,tv,hgt,fun _=>hg1t,by decide,by decide +kernel,_,rfl,bF (fun h5=>?_) (fun h5=>?_)⟩
      ·exact fin true _ (by rw [eS];simp [h5]) (Same.refl _)
      ·exact ⟨_,rfl,p,v,t,"stop",1,rfl,tv,hgt,fun _=>hg1t,by decide,by decide +kernel,fin _ _ (by rw [eS];simp [h4,h5]) (Same.refl _)⟩
theorem sE:aq ["thing"] ["thing"] (al lX):=⟨rfl,rfl,rfl,by decide +kernel,rfl,by decide +kernel,by decide +kernel⟩
set_option maxHeartbeats 4000000 in
theorem p6 {f:Addr} {fd:FuncData} (F:Fun K "is_way_on" "is_way_on" lX f fd) (HD:Fn P w K mg base "is_headed" 1 ["thing","word","many"] spHeaded) (AD:Fn P w K mg base "is_address" 3 ["thing"] (spTo 399)) (IN:Fn P w K mg base "is_inner" 3 ["thing"] (spTo 7)) (EN:Fn P w K mg base "is_end" 4 ["thing"] (spAsk bT kN)) :
  aI P w K mg base bE 5 f fd ["thing"] (spAsk cv ye):=by
 refine F.ok sE (fun vs H Q E h=>?_) (fun cdv A outer s H vs Q E hr h=>?_)
 ·obtain ⟨p,v,t,rfl,_⟩:=h
  rfl
 ·obtain ⟨p,v,t,rfl,tv,⟨hgt,hge⟩,q⟩:=h
  have hr1:Room 1 _:=hr.mono (by decide)
  have hr3:Room 3 _:=hr.mono (by decide)
  refine ⟨_,ak (aH (aV (ao HD hr1 rfl (aa (pv 0) (aa af (aa ad ac))))) (ah (am (ao AD hr3 rfl (aa (ap au (pv 0) ad (fun _ _=>rfl)) ac)))) aw)
   (ak (aH (PW.pt (cM (aV (ao HD hr1 rfl (aa (pv 0) (aa af (aa ad ac))))) (cm (aV (ao HD hr1 rfl (aa (pv 0) (aa af (aa ad ac)))))))) (ah (am (bI (ao IN hr3 rfl (aa (ap au (pv 0) ad (fun _ _=>rfl)) ac)) (bI (ao AD hr3 rfl (aa (ap au (pv 0) ad (fun _ _=>rfl)) ac)) (bU (ao AD hr3 rfl (aa (ap au (pv 0) ad (fun _ _=>rfl)) ac))))))) aw)
   (ah (am (bI (ao HD hr1 rfl (aa (pv 0) (aa af (aa ad ac)))) (bU (ao EN hr rfl (aa (ap au (pv 0) ad (fun _ _=>rfl)) ac))))))),?_⟩
  have fin:∀ b H',cv t=b->Same H H'->Q (.bl b) H':=fun b H' e s=>e ▸ q H' s
  refine ⟨_,rfl,p,v,t,"on",2,rfl,tv,hgt,fun z=>absurd z (by decide),by decide,by decide +kernel,_,rfl,bF (fun h1=>?_) (fun h1=>?_)⟩
  ·obtain ⟨a,xs,rfl,e,ag⟩:=bM tv h1
   obtain ⟨u1,e1,t1⟩:=ag 1 (by decide)
   have eS:cv t=(wn 0 399 (arg 1 t)):=by unfold cv;simp [h1]
   exact ⟨_,rfl,a,_,_,_,rfl,rfl,SqT.of e,aM (j:=1) e1,p,_,_,rfl,t1,fin _ _ (by rw [eS]) (Same.refl _)⟩
  ·skip
   refine ⟨_,rfl,p,v,t,"some",4,rfl,tv,hgt,fun z=>absurd z (by decide),by decide,by decide +kernel,_,rfl,bF (fun h2=>?_) (fun h2=>?_)⟩
   ·obtain ⟨a,xs,rfl,e,ag⟩:=bM tv h2
    obtain ⟨u1,e1,t1⟩:=ag 1 (by decide)
    obtain ⟨u2,e2,t2⟩:=ag 2 (by decide)
    obtain ⟨u3,e3,t3⟩:=ag 3 (by decide)
    have eS:cv t=(wn 0 7 (arg 1 t) && (wn 0 399 (arg 2 t) && wn 0 399 (arg 3 t))):=by unfold cv;simp [h1,h2]
    exact ⟨_,rfl,a,_,_,_,rfl,rfl,SqT.of e,aM (j:=1) e1,p,_,_,rfl,t1,_,rfl,bF (fun g0=>⟨_,rfl,a,_,_,_,rfl,rfl,SqT.of e,aM (j:=2) e2,p,_,_,rfl,t2,_,rfl,bF (fun g1=>⟨_,rfl,a,_,_,_,rfl,rfl,SqT.of e,aM (j:=3) e3,p,_,_,rfl,t3,fin _ _ (by rw [eS];simp [g0,g1]) (Same.refl _)⟩) (fun g1=>fin false _ (by rw [eS];simp [g0,BC.mpr g1]) (Same.refl _))⟩) (fun g0=>fin false _ (by rw [eS];simp [BC.mpr g0]) (Same.refl _))⟩
   ·skip
    refine ⟨_,rfl,p,v,t,"top",4,rfl,tv,hgt,fun z=>absurd z (by decide),by decide,by decide +kernel,_,rfl,bF (fun h3=>?_) (fun h3=>?_)⟩
    ·obtain ⟨a,xs,rfl,e,ag⟩:=bM tv h3
     obtain ⟨u1,e1,t1⟩:=ag 1 (by decide)
     obtain ⟨u2,e2,t2⟩:=ag 2 (by decide)
     obtain ⟨u3,e3,t3⟩:=ag 3 (by decide)
     have eS:cv t=(wn 0 7 (arg 1 t) && (wn 0 399 (arg 2 t) && wn 0 399 (arg 3 t))):=by unfold cv;simp [h1,h2,h3]
     exact ⟨_,rfl,a,_,_,_,rfl,rfl,SqT.of e,aM (j:=1) e1,p,_,_,rfl,t1,_,rfl,bF (fun g0=>⟨_,rfl,a,_,_,_,rfl,rfl,SqT.of e,aM (j:=2) e2,p,_,_,rfl,t2,_,rfl,bF (fun g1=>⟨_,rfl,a,_,_,_,rfl,rfl,SqT.of e,aM (j:=3) e3,p,_,_,rfl,t3,fin _ _ (by rw [eS];simp [g0,g1]) (Same.refl _)⟩) (fun g1=>fin false _ (by rw [eS];simp [g0,BC.mpr g1]) (Same.refl _))⟩) (fun g0=>fin false _ (by rw [eS];simp [BC.mpr g0]) (Same.refl _))⟩
    ·skip
     have eS:cv t=(hd "done" 2 t && bT (arg 1 t)):=by unfold cv;simp [h1,h2,h3]
     refine ⟨_,rfl,p,v,t,"done",2,rfl,tv,hgt,fun z=>absurd z (by decide),by decide,by decide +kernel,_,rfl,bF (fun h4=>?_) (fun h4=>?_)⟩
     ·obtain ⟨a,xs,rfl,e,ag⟩:=bM tv h4
      obtain ⟨u1,e1,t1⟩:=ag 1 (by decide)
      exact ⟨_,rfl,a,_,_,_,rfl,rfl,SqT.of e,aM (j:=1) e1,p,_,_,rfl,t1,hge,fun H1 s1=>fin _ _ (by rw [eS,h4,Bool.true_and]) s1⟩
     ·exact fin false _ (by rw [eS,BC.mpr h4,Bool.false_and]) (Same.refl _)
end
end L3
namespace L3
open PySem L2
def p7 (t:Th):Prop:=∀ ss on,t=.tup [.tup ss,on]->(∀ s∈ss,sx s)/\ye on/\ss.length<=1000
theorem vN {ts:List Th} (h:ts.length≠2):bH (.tup ts)=false:=by
 match ts with
 | []=>rfl
 | [a]=>cases a<;>rfl
 | [a,b]=>exact absurd rfl h
 | a::b::c::r=>cases a<;>rfl
theorem TgA.two {p:Addr} {H:Hp} {xs:List V} {ts:List Th} (h:TgA p H xs ts) (l:ts.length=2):∃ x y tx ty,xs=[x,y]/\ts=[tx,ty]/\TgV p H x tx/\TgV p H y ty:=by
 cases h with
 | nil=>cases l
 | cons a h=>
  cases h with
  | nil=>cases l
  | cons b h=>
   cases h with
   | nil=>exact ⟨_,_,_,_,rfl,rfl,a,b⟩
   | cons c h=>simp at l
section
variable {P:Program} {w:World} {K:PySem.W.Frag} {mg:Str->Option Value} {base:Heap} {aO:Addr} {t1 t2 t3 t4 t5 t6:Tok} {fs:Str->V}
theorem scIsLittle:aq ["thing","steps","on"] ["thing"] (al eX):=⟨rfl,rfl,rfl,by decide +kernel,rfl,by decide +kernel,by decide +kernel⟩
theorem yg:(["step"]:List Str).Nodup:=by decide +kernel
set_option maxHeartbeats 4000000 in
theorem kO {f:Addr} {fd:FuncData} (F:Fun K "is_little" "is_little" eX f fd) (B:Bl mg) (C:Cst K mg w aO t1 t2 t3 t4 t5 t6 fs) (IS:Fn P w K mg base "is_step" 5 ["thing"] (spAsk stepOk sx)) (WO:Fn P w K mg base "is_way_on" 5 ["thing"] (spAsk cv ye)) :
  aI P w K mg base bE 6 f fd ["thing"] (spAsk bH p7):=by
 refine F.ok scIsLittle (fun vs H Q E h=>?_) (fun cdv A outer s H vs Q E hr h=>?_)
 ·obtain ⟨p,v,t,rfl,_⟩:=h
  rfl
 ·obtain ⟨p,v,t,rfl,tv,lg,q⟩:=h
  have sz:(100000:Nat)<=sizeLine:=by decide
  refine ⟨_,ak (aH (PW.pt (cM (cw (aV (aJ (cS (T:="tuple")) (by rfl) B.isinstance bG (aa (pv 0) (aa (dY (by rfl) B.tuple bh) ac))))) (cm (ax km (aJ bc (by rfl) B.len B5 (aa (pv 0) ac)) ad (aB _))))) (ah (am fb)) aw)
   (ak (gW (pv 0) (oJ rfl (eg (bt (i:=1) scIsLittle.nd rfl (Or.inl rfl)) (eg (bt (i:=2) scIsLittle.nd rfl (Or.inl rfl)) mC))))
   (ak (aH (PW.pt (cM (cw (aV (aJ (cS (T:="tuple")) (by rfl) B.isinstance bG (aa (pv 1) (aa (dY (by rfl) B.tuple bh) ac))))) (cm (ax oR (aJ bc (by rfl) B.len B5 (aa (pv 1) ac)) (bB (v:=.int 16) rfl C.steps ⟨_,rfl⟩) (aB _))))) (ah (am fb)) aw)
   (ah (am (bI (aJ (hE rfl) (by rfl) B.all gq (aa (fc (N':=["step"]) (ix:=[none]) (sc0:=al eX) (N:=["thing","steps","on"]) rfl (by decide +kernel) (fh (pv 1))
     (fun C' cl s H fp=>bt (i:=0) yg rfl (Or.inl rfl) (.inr rfl)) (fun _ _ _ _ _=>df) (fun C' cl s H fp=>ao IS hr rfl (aa (pv 0) ac))) ac)) (bU (ao WO hr rfl (aa (pv 2) ac)))))))),?_⟩
  have fin:∀ b H',bH t=b->Same H H'->Q (.bl b) H':=fun b H' e s=>e ▸ q H' s
  refine ⟨_,rfl,v,_,_,rfl,tv.ty,kit_tup t,_,rfl,?_⟩
  cases tv with
  | non=>exact bY (fin false _ rfl (Same.refl _))
  | int _=>exact bY (fin false _ rfl (Same.refl _))
  | str _=>exact bY (fin false _ rfl (Same.refl _))
  | lst _ _ _=>exact bY (fin false _ rfl (Same.refl _))
  | dct _ _=>exact bY (fin false _ rfl (Same.refl _))
  | @tup a xs ts e ta=>
   have hl:=ta.length
   refine bo ⟨_,rfl,a,_,rfl,.inr (SqT.of e),rfl,_,rfl,?_⟩
   rw [dint]
   by_cases h2:ts.length=2
   ·refine aR (by rw [decide_eq_true (by omega)];rfl) ?_
    obtain ⟨x,y,tx,ty,rfl,rfl,hx,hy⟩:=ta.two h2
    ·refine ⟨_,rfl,a,_,rfl,SqT.of e,rfl,_,_,rfl,_,_,rfl,rfl,?_⟩
     refine ⟨_,rfl,x,_,_,rfl,hx.ty,kit_tup tx,_,rfl,?_⟩
     cases hx with
     | non=>exact bY (fin false _ rfl (Same.refl _))
     | int _=>exact bY (fin false _ rfl (Same.refl _))
     | str _=>exact bY (fin false _ rfl (Same.refl _))
     | lst _ _ _=>exact bY (fin false _ rfl (Same.refl _))
     | dct _ _=>exact bY (fin false _ rfl (Same.refl _))
     | @tup b us ss eb tb=>
      have hl2:=tb.length
      obtain ⟨l1,l2,l3⟩:=lg ss ty rfl
      have eS:bH (.tup [.tup ss,ty])=(decide (ss.length<=16) && (ss.all stepOk && cv ty)):=rfl
      refine bo ⟨_,rfl,b,_,rfl,.inr (SqT.of eb),_,_,rfl,rfl,_,rfl,?_⟩
      by_cases h16:ss.length<=16
      ·refine aR (decide_eq_false (by omega)) ?_
       rw [decide_eq_true h16,Bool.true_and] at eS
       refine ⟨_,rfl,b,rfl,⟨_,SqT.of eb⟩,?_⟩
       refine gp (K:=K) (a:=b) (xs:=us) (fun i ys H'=>Same H H'/\ys=(ss.take i).map (fun s=>V.bl (stepOk s))) ⟨Same.refl _,rfl⟩ (fun i ys H' hi ⟨s',e'⟩=>⟨SqT.of (s' _ _ eb),by rw [e',BE,BZ];omega⟩) ?_ ?_
       ·rintro i z ys H1 hz ⟨s1,rfl⟩
        have hlt:i < us.length:=(BM.mp hz).1
        obtain ⟨tz,etz,hzt⟩:=tb.get hz
        refine ⟨trivial,dh ⟨_,rfl,p,z,tz,rfl,hzt.same s1,l1 tz (B7 etz),fun H2 s2=>Nx.mk hlt ⟨s1.trans s2,?_⟩⟩⟩
        have et:ss.take (i+1)=ss.take i++[tz]:=by rw [Cs,etz];rfl
        rw [et,B8]
        rfl
       ·rintro ys H1 ⟨s1,rfl⟩ D nD
        rw [hl2,B1]
        have s2:=aj (o:=.lst (ss.map fun s=>V.bl (stepOk s))) nD
        have e2:(az H1 D (.lst (ss.map fun s=>V.bl (stepOk s)))) D=some (.lst ((ss.map stepOk).map V.bl)):=by rw [ae,Cl9];rfl
        generalize az H1 D (.lst (ss.map fun s=>V.bl (stepOk s)))=H2 at *
        have eA:(ss.map stepOk).all id=ss.all stepOk:=by rw [List.all_map];rfl
        refine ⟨D,ss.map stepOk,rfl,SqL.of e2,_,rfl,?_⟩
        rw [eA]
        refine bF (fun g=>?_) (fun g=>?_)
        ·exact ⟨_,rfl,p,y,ty,rfl,hy.same (s1.trans s2),l2,fun H3 s3=>fin _ _ (by rw [eS,g,Bool.true_and]) ((s1.trans s2).trans s3)⟩
        ·exact fin false _ (by rw [eS,BC.mpr g,Bool.false_and]) (s1.trans s2)
      ·refine bg (decide_eq_true (by omega)) (fin false _ ?_ (Same.refl _))
       rw [eS,decide_eq_false h16,Bool.false_and]
   ·refine bg (by rw [decide_eq_false (by omega)];rfl) (fin false _ (vN h2) (Same.refl _))
end
end L3
namespace L3
open PySem L2
theorem Strm.kt {p:Addr} {H H':Hp} (g:Strm H p) (b:But p H H'):vt H H':=fun a xs e=>b a _ e (by
 rintro rfl
 obtain ⟨x,y,z,h⟩:=g
 rw [h] at e
 cases e)
inductive SelT:Th->Prop
 | is (i:Nat):i < 4->SelT (.tup [.str "is",.int i])
 | «by» (i:Nat):i < 3->SelT (.tup [.str "by",.int i])
inductive SrcT:Th->Prop
 | fld (i:Nat):i < 3->SrcT (.tup [.str "field",.int i])
 | num (i:Nat):i < 16777216->SrcT (.tup [.str "number",.int i])
 | inn (i:Nat):i < 8->SrcT (.tup [.str "in",.int i])
inductive StpT:Th->Prop
 | get (k:Nat) {s:Th}:k < 8->SelT s->StpT (.tup [.str "get",.int k,s])
 | ask (k:Nat) {s:Th}:k < 8->SelT s->StpT (.tup [.str "ask",.int k,s])
 | cell (k:Nat) {s:Th}:k < 8->SrcT s->StpT (.tup [.str "cell",.int k,s])
 | two (k:Nat) {o:Str} {a b:Th}:k < 8->o∈opsL->SrcT a->SrcT b->StpT (.tup [.str "two",.int k,.str o,a,b])
 | put {s a:Th}:SelT s->SrcT a->StpT (.tup [.str "put",s,a])
 | tell {s a:Th}:SelT s->SrcT a->StpT (.tup [.str "tell",s,a])
 | store {a b:Th}:SrcT a->SrcT b->StpT (.tup [.str "store",a,b])
def gr (C:Th->Prop):Sp:=fun vs H Q _=>∃ p:Addr,vs=[.ref p]/\Strm H p/\∀ v t H',TgV p H' v t->C t->Strm H' p->But p H H'->Q v H'
theorem p8 {r:Nat} (h:r < 9):∃ f∈opsL,iV (opsL.map V.str) (r:Int)=some (.str f):=by
 rcases (by omega:r=0\/r=1\/r=2\/r=3\/r=4\/r=5\/r=6\/r=7\/r=8) with rfl|rfl|rfl|rfl|rfl|rfl|rfl|rfl|rfl<;>exact ⟨_,by decide +kernel,rfl⟩
def z7:List Str:=["get","ask","cell","two","put","tell","store","two"]
theorem SelT.ok {t:Th} (h:SelT t):selOk t=true/\hg t=true:=by
 cases h with
 | is i hi=>exact ⟨by show (decide ((0:Int)<=(i:Int)) && decide ((i:Int)<=3))=true;rw [decide_eq_true (by omega),decide_eq_true (by omega)];rfl,rfl⟩
 | «by» i hi=>exact ⟨by show (decide ((0:Int)<=(i:Int)) && decide ((i:Int)<=2))=true;rw [decide_eq_true (by omega),decide_eq_true (by omega)];rfl,rfl⟩
theorem SrcT.ok {t:Th} (h:SrcT t):srcOk t=true/\hg t=true:=by
 cases h with
 | fld i hi=>exact ⟨by show (decide ((0:Int)<=(i:Int)) && decide ((i:Int)<=2))=true;rw [decide_eq_true (by omega),decide_eq_true (by omega)];rfl,rfl⟩
 | num i hi=>exact ⟨by show (decide ((0:Int)<=(i:Int)) && decide ((i:Int)<=16777215))=true;rw [decide_eq_true (by omega),decide_eq_true (by omega)];rfl,rfl⟩
 | inn i hi=>exact ⟨by show (decide ((0:Int)<=(i:Int)) && decide ((i:Int)<=7))=true;rw [decide_eq_true (by omega),decide_eq_true (by omega)];rfl,rfl⟩
theorem xm {k:Nat} (h:k < 8):wn 0 7 (.int k)=true:=by
 show (decide ((0:Int)<=(k:Int)) && decide ((k:Int)<=7))=true
 rw [decide_eq_true (by omega),decide_eq_true (by omega)]
 rfl
section
variable {P:Program} {w:World} {K:PySem.W.Frag} {mg:Str->Option Value} {base:Heap}
theorem vO:aq ["_law_stream_here"] ["_law_stream_here"] (al pP):=⟨rfl,rfl,rfl,by decide +kernel,rfl,by decide +kernel,by decide +kernel⟩
theorem scLSource:aq ["_law_stream_here","_law_way"] ["_law_stream_here"] (al hU):=⟨rfl,rfl,rfl,by decide +kernel,rfl,by decide +kernel,by decide +kernel⟩
theorem scLStep:aq ["_law_stream_here","_law_word","_law_op"] ["_law_stream_here"] (al lY):=⟨rfl,rfl,rfl,by decide +kernel,rfl,by decide +kernel,by decide +kernel⟩
set_option maxHeartbeats 1000000 in
theorem sG {f:Addr} {fd:FuncData} (F:Fun K "_law_sel" "_law_sel" pP f fd) (TK:Fn P w K mg base "_law_take" 1 ["_law_stream_here","_law_many"] di):aI P w K mg base bE 2 f fd ["_law_stream_here"] (gr SelT):=by
 refine F.ok vO (fun vs H Q E h=>?_) (fun cdv A outer s H vs Q E hr h=>?_)
 ·obtain ⟨p,rfl,_⟩:=h
  rfl
 ·obtain ⟨p,rfl,hp,q⟩:=h
  have hr1:Room 1 _:=hr
  refine ⟨_,ah (am (ap ay (bp (aa (aC (aa af (aa (ao TK hr1 rfl (aa (pv 0) (aa ad ac))) ac))) (aa (aC (aa af (aa (ao TK hr1 rfl (aa (pv 0) (aa ad ac))) ac))) ac))) (ao TK hr1 rfl (aa (pv 0) (aa ad ac))) (fun _ _=>rfl))),?_⟩
  refine ⟨_,rfl,p,4,rfl,hp,by decide,by decide,fun r1 H1 l1 g1 b1=>⟨(by show 2<=sizeLine;decide),fun t1 n1=>?_⟩⟩
  have s1:=aj (o:=.tup [.str "is",.int r1]) n1
  have e1:(az H1 t1 (.tup [.str "is",.int r1])) t1=some (.tup [.str "is",.int r1]):=ae
  have g1':=g1.same s1
  have c1:=b1.same s1
  generalize az H1 t1 (.tup [.str "is",.int r1])=J1 at *
  refine ⟨_,rfl,p,3,rfl,g1',by decide,by decide,fun r2 H2 l2 g2 b2=>⟨(by show 2<=sizeLine;decide),fun t2 n2=>?_⟩⟩
  have s2:=aj (o:=.tup [.str "by",.int r2]) n2
  have e2:(az H2 t2 (.tup [.str "by",.int r2])) t2=some (.tup [.str "by",.int r2]):=ae
  have g2':=g2.same s2
  have c2:=(c1.trans b2).same s2
  have e12:=(r8 s2) _ _ ((g1'.kt b2) _ _ e1)
  generalize az H2 t2 (.tup [.str "by",.int r2])=J2 at *
  refine ⟨(by show 2<=sizeLine;decide),fun lm nm=>?_⟩
  have s3:=aj (o:=.lst [.ref t1,.ref t2]) nm
  have e3:(az J2 lm (.lst [.ref t1,.ref t2])) lm=some (.lst [.ref t1,.ref t2]):=ae
  have g3':=g2'.same s3
  have c3:=c2.same s3
  have f1:=s3 _ _ e12
  have f2:=s3 _ _ e2
  have ne:=(g2'.ne nm).symm
  generalize az J2 lm (.lst [.ref t1,.ref t2])=J3 at *
  refine ⟨_,rfl,p,2,rfl,g3',by decide,by decide,fun r3 H3 l3 g3 b3=>?_⟩
  have k3:=g3'.kt b3
  have e4:=b3 _ _ e3 ne
  rcases (by omega:r3=0\/r3=1) with rfl|rfl
  ·exact ⟨lm,_,_,.ref t1,rfl,rfl,SqL.of e4,rfl,q _ (.tup [.str "is",.int r1]) _ (.tup (k3 _ _ f1) (.cons (.str _) (.cons (.int _) .nil))) (.is r1 l1) g3 (c3.trans b3)⟩
  ·exact ⟨lm,_,_,.ref t2,rfl,rfl,SqL.of e4,rfl,q _ (.tup [.str "by",.int r2]) _ (.tup (k3 _ _ f2) (.cons (.str _) (.cons (.int _) .nil))) (.«by» r2 l2) g3 (c3.trans b3)⟩
set_option maxHeartbeats 1000000 in
theorem mi {f:Addr} {fd:FuncData} (F:Fun K "_law_source" "_law_source" hU f fd) (TK:Fn P w K mg base "_law_take" 1 ["_law_stream_here","_law_many"] di):aI P w K mg base bE 2 f fd ["_law_stream_here"] (gr SrcT):=by
 refine F.ok scLSource (fun vs H Q E h=>?_) (fun cdv A outer s H vs Q E hr h=>?_)
 ·obtain ⟨p,rfl,_⟩:=h
  rfl
 ·obtain ⟨p,rfl,hp,q⟩:=h
  have hr1:Room 1 _:=hr
  refine ⟨_,ak (a6 (i:=1) scLSource.nd rfl (Or.inl rfl) (ao TK hr1 rfl (aa (pv 0) (aa ad ac))))
   (ak (aH (ax bb (pv 1) ad (aB _)) (ah (am (aC (aa af (aa (ao TK hr1 rfl (aa (pv 0) (aa ad ac))) ac))))) aw)
   (ak (aH (ax bb (pv 1) ad (aB _)) (ah (am (aC (aa af (aa (ao TK hr1 rfl (aa (pv 0) (aa (ap ay (bp (aa ad (aa (aT oO ad ad) ac))) (ao TK hr1 rfl (aa (pv 0) (aa ad ac))) (fun _ _=>rfl)) ac))) ac))))) aw)
   (ah (am (aC (aa af (aa (ao TK hr1 rfl (aa (pv 0) (aa ad ac))) ac))))))),?_⟩
  refine ⟨_,rfl,p,4,rfl,hp,by decide,by decide,fun r1 H1 l1 g1 b1=>?_⟩
  refine ⟨_,rfl,rfl,_,rfl,bF (fun h=>?_) (fun h=>?_)⟩
  ·refine ⟨_,rfl,p,3,rfl,g1,by decide,by decide,fun r2 H2 l2 g2 b2=>⟨(by show 2<=sizeLine;decide),fun t nt=>?_⟩⟩
   have s3:=aj (o:=.tup [.str "field",.int r2]) nt
   exact q _ (.tup [.str "field",.int r2]) _ (.tup ae (.cons (.str _) (.cons (.int _) .nil))) (.fld r2 l2) (g2.same s3) ((b1.trans b2).same s3)
  ·refine ⟨_,rfl,rfl,_,rfl,bF (fun h2=>?_) (fun h2=>?_)⟩
   ·refine ⟨_,rfl,_,_,rfl,rfl,⟨by decide,by decide,by decide⟩,(by show 2<=sizeLine;decide),fun lm nm=>?_⟩
    have s2:=aj (o:=.lst [.int 4,.int 16777216]) nm
    have e2:(az H1 lm (.lst [.int 4,.int 16777216])) lm=some (.lst [.int 4,.int 16777216]):=ae
    have g2:=g1.same s2
    refine ⟨_,rfl,p,2,rfl,g2,by decide,by decide,fun r3 H3 l3 g3 b3=>?_⟩
    have e3:=b3 _ _ e2 (g1.ne nm).symm
    obtain ⟨k,ek,k0,k1⟩:∃ k:Nat,iV [V.int 4,V.int 16777216] (r3:Int)=some (.int k)/\0 < k/\k<=16777216:=by
     rcases (by omega:r3=0\/r3=1) with rfl|rfl
     ·exact ⟨4,rfl,by decide,by decide⟩
     ·exact ⟨16777216,rfl,by decide,by decide⟩
    refine ⟨lm,_,_,_,rfl,rfl,SqL.of e3,ek,p,k,rfl,g3,k0,by omega,fun r4 H4 l4 g4 b4=>⟨(by show 2<=sizeLine;decide),fun t nt=>?_⟩⟩
    have s5:=aj (o:=.tup [.str "number",.int r4]) nt
    exact q _ (.tup [.str "number",.int r4]) _ (.tup ae (.cons (.str _) (.cons (.int _) .nil))) (.num r4 (by omega)) (g4.same s5) ((((b1.same s2).trans b3).trans b4).same s5)
   ·refine ⟨_,rfl,p,8,rfl,g1,by decide,by decide,fun r2 H2 l2 g2 b2=>⟨(by show 2<=sizeLine;decide),fun t nt=>?_⟩⟩
    have s3:=aj (o:=.tup [.str "in",.int r2]) nt
    exact q _ (.tup [.str "in",.int r2]) _ (.tup ae (.cons (.str _) (.cons (.int _) .nil))) (.inn r2 l2) (g2.same s3) ((b1.trans b2).same s3)
set_option maxHeartbeats 4000000 in
theorem p9 {f:Addr} {fd:FuncData} (F:Fun K "_law_step" "_law_step" lY f fd) (TK:Fn P w K mg base "_law_take" 1 ["_law_stream_here","_law_many"] di) (SO:Fn P w K mg base "_law_source" 2 ["_law_stream_here"] (gr SrcT)) (SE:Fn P w K mg base "_law_sel" 2 ["_law_stream_here"] (gr SelT)) :
  aI P w K mg base bE 3 f fd ["_law_stream_here"] (gr StpT):=by
 refine F.ok scLStep (fun vs H Q E h=>?_) (fun cdv A outer s H vs Q E hr h=>?_)
 ·obtain ⟨p,rfl,_⟩:=h
  rfl
 ·obtain ⟨p,rfl,hp,q⟩:=h
  have hr1:Room 1 _:=hr.mono (by decide)
  refine ⟨_,ak (a6 (i:=1) scLStep.nd rfl (Or.inl rfl) (ap ay (bp (aa af (aa af (aa af (aa af (aa af (aa af (aa af (aa af ac))))))))) (ao TK hr1 rfl (aa (pv 0) (aa ad ac))) (fun _ _=>rfl)))
   (ak (aH (PW.pt (cM (ax bb (pv 1) af (aB _)) (cm (ax bb (pv 1) af (aB _))))) (ah (am (aC (aa (pv 1) (aa (ao TK hr1 rfl (aa (pv 0) (aa ad ac))) (aa (ao SE hr rfl (aa (pv 0) ac)) ac)))))) aw)
   (ak (aH (ax bb (pv 1) af (aB _)) (ah (am (aC (aa (pv 1) (aa (ao TK hr1 rfl (aa (pv 0) (aa ad ac))) (aa (ao SO hr rfl (aa (pv 0) ac)) ac)))))) aw)
   (ak (aH (ax bb (pv 1) af (aB _)) (ak (a6 (i:=2) scLStep.nd rfl (Or.inl rfl) (ap ay (bp (aa af (aa af (aa af (aa af (aa af (aa af (aa af (aa af (aa af ac)))))))))) (ao TK hr1 rfl (aa (pv 0) (aa ad ac))) (fun _ _=>rfl))) (ah (am (aC (aa (pv 1) (aa (ao TK hr1 rfl (aa (pv 0) (aa ad ac))) (aa (pv 2) (aa (ao SO hr rfl (aa (pv 0) ac)) (aa (ao SO hr rfl (aa (pv 0) ac)) ac))))))))) aw)
   (ak (aH (ax bb (pv 1) af (aB _)) (ah (am (aC (aa (pv 1) (aa (ao SO hr rfl (aa (pv 0) ac)) (aa (ao SO hr rfl (aa (pv 0) ac)) ac)))))) aw)
   (ah (am (aC (aa (pv 1) (aa (ao SE hr rfl (aa (pv 0) ac)) (aa (ao SO hr rfl (aa (pv 0) ac)) ac)))))))))),?_⟩
  refine ⟨(by show 8<=sizeLine;decide),fun l0 n0=>?_⟩
  have s0:=aj (o:=.lst [V.str "get",V.str "ask",V.str "cell",V.str "two",V.str "put",V.str "tell",V.str "store",V.str "two"]) n0
  have e0:(az H l0 (.lst [V.str "get",V.str "ask",V.str "cell",V.str "two",V.str "put",V.str "tell",V.str "store",V.str "two"])) l0=some (.lst [V.str "get",V.str "ask",V.str "cell",V.str "two",V.str "put",V.str "tell",V.str "store",V.str "two"]):=ae
  have g0:=hp.same s0
  have c0:But p H (az H l0 (.lst [V.str "get",V.str "ask",V.str "cell",V.str "two",V.str "put",V.str "tell",V.str "store",V.str "two"])):=jK s0
  have ne0:=(hp.ne n0).symm
  generalize az H l0 (.lst [V.str "get",V.str "ask",V.str "cell",V.str "two",V.str "put",V.str "tell",V.str "store",V.str "two"])=H0 at *
  refine ⟨_,rfl,p,8,rfl,g0,by decide,by decide,fun r1 H1 l1 g1 b1=>?_⟩
  have e1:=b1 _ _ e0 ne0
  have c1:=c0.trans b1
  rcases (by omega:r1=0\/r1=1\/r1=2\/r1=3\/r1=4\/r1=5\/r1=6\/r1=7) with rfl|rfl|rfl|rfl|rfl|rfl|rfl|rfl
  ·refine ⟨l0,_,_,.str "get",rfl,rfl,SqL.of e1,rfl,?_⟩
   refine ⟨_,rfl,rfl,_,rfl,bg (by decide +kernel) ?_⟩
   refine ⟨_,rfl,_,rfl,p,8,rfl,g1,by decide,by decide,fun r2 H2 l2 g2 b2=>⟨_,rfl,p,rfl,g2,fun v x H3 hv hx g3 b3=>⟨(by show 3<=sizeLine;decide),fun t nt=>?_⟩⟩⟩
   have s4:=aj (o:=.tup [.str "get",.int r2,v]) nt
   exact q _ (.tup [.str "get",.int r2,x]) _ (.tup ae (.cons (.str _) (.cons (.int _) (.cons (hv.same s4) .nil)))) (.get r2 l2 hx) (g3.same s4) (((c1.trans b2).trans b3).same s4)
  ·refine ⟨l0,_,_,.str "ask",rfl,rfl,SqL.of e1,rfl,?_⟩
   refine ⟨_,rfl,rfl,_,rfl,aR (by decide +kernel) ?_⟩
   refine ⟨_,rfl,rfl,_,rfl,bg (by decide +kernel) ?_⟩
   refine ⟨_,rfl,_,rfl,p,8,rfl,g1,by decide,by decide,fun r2 H2 l2 g2 b2=>⟨_,rfl,p,rfl,g2,fun v x H3 hv hx g3 b3=>⟨(by show 3<=sizeLine;decide),fun t nt=>?_⟩⟩⟩
   have s4:=aj (o:=.tup [.str "ask",.int r2,v]) nt
   exact q _ (.tup [.str "ask",.int r2,x]) _ (.tup ae (.cons (.str _) (.cons (.int _) (.cons (hv.same s4) .nil)))) (.ask r2 l2 hx) (g3.same s4) (((c1.trans b2).trans b3).same s4)
  ·refine ⟨l0,_,_,.str "cell",rfl,rfl,SqL.of e1,rfl,?_⟩
   refine ⟨_,rfl,rfl,_,rfl,aR (by decide +kernel) ?_⟩
   refine ⟨_,rfl,rfl,_,rfl,aR (by decide +kernel) ?_⟩
   refine ⟨_,rfl,rfl,_,rfl,bg (by decide +kernel) ?_⟩
   refine ⟨_,rfl,_,rfl,p,8,rfl,g1,by decide,by decide,fun r2 H2 l2 g2 b2=>⟨_,rfl,p,rfl,g2,fun v x H3 hv hx g3 b3=>⟨(by show 3<=sizeLine;decide),fun t nt=>?_⟩⟩⟩
   have s4:=aj (o:=.tup [.str "cell",.int r2,v]) nt
   exact q _ (.tup [.str "cell",.int r2,x]) _ (.tup ae (.cons (.str _) (.cons (.int _) (.cons (hv.same s4) .nil)))) (.cell r2 l2 hx) (g3.same s4) (((c1.trans b2).trans b3).same s4)
  ·refine ⟨l0,_,_,.str "two",rfl,rfl,SqL.of e1,rfl,?_⟩
   refine ⟨_,rfl,rfl,_,rfl,aR (by decide +kernel) ?_⟩
   refine ⟨_,rfl,rfl,_,rfl,aR (by decide +kernel) ?_⟩
   refine ⟨_,rfl,rfl,_,rfl,aR (by decide +kernel) ?_⟩
   refine ⟨_,rfl,rfl,_,rfl,bg (by decide +kernel) ?_⟩
   refine ⟨(by show 9<=sizeLine;decide),fun lo no=>?_⟩
   have so:=aj (o:=.lst [V.str "+",V.str "-",V.str "&",V.str "|",V.str "^",V.str "<<",V.str ">>",V.str "<",V.str "="]) no
   have eo:(az H1 lo (.lst [V.str "+",V.str "-",V.str "&",V.str "|",V.str "^",V.str "<<",V.str ">>",V.str "<",V.str "="])) lo=some (.lst [V.str "+",V.str "-",V.str "&",V.str "|",V.str "^",V.str "<<",V.str ">>",V.str "<",V.str "="]):=ae
   have go:=g1.same so
   have co:=c1.same so
   have neo:=(g1.ne no).symm
   generalize az H1 lo (.lst [V.str "+",V.str "-",V.str "&",V.str "|",V.str "^",V.str "<<",V.str ">>",V.str "<",V.str "="])=H1o at *
   refine ⟨_,rfl,p,9,rfl,go,by decide,by decide,fun r2 H2 l2 g2 b2=>?_⟩
   obtain ⟨fo,hfo,efo⟩:=p8 l2
   refine ⟨lo,_,_,.str fo,rfl,rfl,SqL.of (b2 _ _ eo neo),efo,?_⟩
   refine ⟨_,rfl,_,rfl,p,8,rfl,g2,by decide,by decide,fun r3 H3 l3 g3 b3=>⟨_,rfl,_,rfl,p,rfl,g3,fun v x H4 hv hx g4 b4=>⟨_,rfl,p,rfl,g4,fun v2 y H5 hv2 hy g5 b5=>⟨(by show 5<=sizeLine;decide),fun t nt=>?_⟩⟩⟩⟩
   have s4:=aj (o:=.tup [.str "two",.int r3,.str fo,v,v2]) nt
   exact q _ (.tup [.str "two",.int r3,.str fo,x,y]) _ (.tup ae (.cons (.str _) (.cons (.int _) (.cons (.str _) (.cons ((hv.but g4 b5).same s4) (.cons (hv2.same s4) .nil)))))) (.two r3 l3 hfo hx hy) (g5.same s4) (((((co.trans b2).trans b3).trans b4).trans b5).same s4)
  ·refine ⟨l0,_,_,.str "put",rfl,rfl,SqL.of e1,rfl,?_⟩
   refine ⟨_,rfl,rfl,_,rfl,aR (by decide +kernel) ?_⟩
   refine ⟨_,rfl,rfl,_,rfl,aR (by decide +kernel) ?_⟩
   refine ⟨_,rfl,rfl,_,rfl,aR (by decide +kernel) ?_⟩
   refine ⟨_,rfl,rfl,_,rfl,aR (by decide +kernel) ?_⟩
   refine ⟨_,rfl,rfl,_,rfl,aR (by decide +kernel) ?_⟩
   refine ⟨_,rfl,_,rfl,p,rfl,g1,fun v x H4 hv hx g4 b4=>⟨_,rfl,p,rfl,g4,fun v2 y H5 hv2 hy g5 b5=>⟨(by show 3<=sizeLine;decide),fun t nt=>?_⟩⟩⟩
   have s4:=aj (o:=.tup [.str "put",v,v2]) nt
   exact q _ (.tup [.str "put",x,y]) _ (.tup ae (.cons (.str _) (.cons ((hv.but g4 b5).same s4) (.cons (hv2.same s4) .nil)))) (.put hx hy) (g5.same s4) (((c1.trans b4).trans b5).same s4)
  ·refine ⟨l0,_,_,.str "tell",rfl,rfl,SqL.of e1,rfl,?_⟩
   refine ⟨_,rfl,rfl,_,rfl,aR (by decide +kernel) ?_⟩
   refine ⟨_,rfl,rfl,_,rfl,aR (by decide +kernel) ?_⟩
   refine ⟨_,rfl,rfl,_,rfl,aR (by decide +kernel) ?_⟩
   refine ⟨_,rfl,rfl,_,rfl,aR (by decide +kernel) ?_⟩
   refine ⟨_,rfl,rfl,_,rfl,aR (by decide +kernel) ?_⟩
   refine ⟨_,rfl,_,rfl,p,rfl,g1,fun v x H4 hv hx g4 b4=>⟨_,rfl,p,rfl,g4,fun v2 y H5 hv2 hy g5 b5=>⟨(by show 3<=sizeLine;decide),fun t nt=>?_⟩⟩⟩
   have s4:=aj (o:=.tup [.str "tell",v,v2]) nt
   exact q _ (.tup [.str "tell",x,y]) _ (.tup ae (.cons (.str _) (.cons ((hv.but g4 b5).same s4) (.cons (hv2.same s4) .nil)))) (.tell hx hy) (g5.same s4) (((c1.trans b4).trans b5).same s4)
  ·refine ⟨l0,_,_,.str "store",rfl,rfl,SqL.of e1,rfl,?_⟩
   refine ⟨_,rfl,rfl,_,rfl,aR (by decide +kernel) ?_⟩
   refine ⟨_,rfl,rfl,_,rfl,aR (by decide +kernel) ?_⟩
   refine ⟨_,rfl,rfl,_,rfl,aR (by decide +kernel) ?_⟩
   refine ⟨_,rfl,rfl,_,rfl,aR (by decide +kernel) ?_⟩
   refine ⟨_,rfl,rfl,_,rfl,bg (by decide +kernel) ?_⟩
   refine ⟨_,rfl,_,rfl,p,rfl,g1,fun v x H4 hv hx g4 b4=>⟨_,rfl,p,rfl,g4,fun v2 y H5 hv2 hy g5 b5=>⟨(by show 3<=sizeLine;decide),fun t nt=>?_⟩⟩⟩
   have s4:=aj (o:=.tup [.str "store",v,v2]) nt
   exact q _ (.tup [.str "store",x,y]) _ (.tup ae (.cons (.str _) (.cons ((hv.but g4 b5).same s4) (.cons (hv2.same s4) .nil)))) (.store hx hy) (g5.same s4) (((c1.trans b4).trans b5).same s4)
  ·refine ⟨l0,_,_,.str "two",rfl,rfl,SqL.of e1,rfl,?_⟩
   refine ⟨_,rfl,rfl,_,rfl,aR (by decide +kernel) ?_⟩
   refine ⟨_,rfl,rfl,_,rfl,aR (by decide +kernel) ?_⟩
   refine ⟨_,rfl,rfl,_,rfl,aR (by decide +kernel) ?_⟩
   refine ⟨_,rfl,rfl,_,rfl,bg (by decide +kernel) ?_⟩
   refine ⟨(by show 9<=sizeLine;decide),fun lo no=>?_⟩
   have so:=aj (o:=.lst [V.str "+",V.str "-",V.str "&",V.str "|",V.str "^",V.str "<<",V.str ">>",V.str "<",V.str "="]) no
   have eo:(az H1 lo (.lst [V.str "+",V.str "-",V.str "&",V.str "|",V.str "^",V.str "<<",V.str ">>",V.str "<",V.str "="])) lo=some (.lst [V.str "+",V.str "-",V.str "&",V.str "|",V.str "^",V.str "<<",V.str ">>",V.str "<",V.str "="]):=ae
   have go:=g1.same so
   have co:=c1.same so
   have neo:=(g1.ne no).symm
   generalize az H1 lo (.lst [V.str "+",V.str "-",V.str "&",V.str "|",V.str "^",V.str "<<",V.str ">>",V.str "<",V.str "="])=H1o at *
   refine ⟨_,rfl,p,9,rfl,go,by decide,by decide,fun r2 H2 l2 g2 b2=>?_⟩
   obtain ⟨fo,hfo,efo⟩:=p8 l2
   refine ⟨lo,_,_,.str fo,rfl,rfl,SqL.of (b2 _ _ eo neo),efo,?_⟩
   refine ⟨_,rfl,_,rfl,p,8,rfl,g2,by decide,by decide,fun r3 H3 l3 g3 b3=>⟨_,rfl,_,rfl,p,rfl,g3,fun v x H4 hv hx g4 b4=>⟨_,rfl,p,rfl,g4,fun v2 y H5 hv2 hy g5 b5=>⟨(by show 5<=sizeLine;decide),fun t nt=>?_⟩⟩⟩⟩
   have s4:=aj (o:=.tup [.str "two",.int r3,.str fo,v,v2]) nt
   exact q _ (.tup [.str "two",.int r3,.str fo,x,y]) _ (.tup ae (.cons (.str _) (.cons (.int _) (.cons (.str _) (.cons ((hv.but g4 b5).same s4) (.cons (hv2.same s4) .nil)))))) (.two r3 l3 hfo hx hy) (g5.same s4) (((((co.trans b2).trans b3).trans b4).trans b5).same s4)
end
end L3
namespace L3
open PySem L2
theorem gK {x y z:Th} (h:hg (.tup [x,y,z])=true) (hx:hg x=true) (hy:hg y=true) (hz:hg z=true):sx (.tup [x,y,z]):=⟨h,fun i=>by
 match i with
 | 0=>exact hx
 | 1=>exact hy
 | 2=>exact hz
 | i+3=>rfl⟩
theorem yh {x y z u v:Th} (h:hg (.tup [x,y,z,u,v])=true) (hx:hg x=true) (hy:hg y=true) (hz:hg z=true) (hu:hg u=true) (hv:hg v=true):sx (.tup [x,y,z,u,v]):=⟨h,fun i=>by
 match i with
 | 0=>exact hx
 | 1=>exact hy
 | 2=>exact hz
 | 3=>exact hu
 | 4=>exact hv
 | i+5=>rfl⟩
theorem sI {o:Str} (h:o∈opsL):opsL.contains o=true:=Cq.mpr h
theorem StpT.ok {t:Th} (h:StpT t):stepOk t=true/\sx t:=by
 cases h with
 | @get k s hk hs=>
  refine ⟨?_,gK rfl rfl rfl hs.ok.2⟩
  show (wn 0 7 (.int k) && selOk s)=true
  rw [xm hk,hs.ok.1];rfl
 | @ask k s hk hs=>
  refine ⟨?_,gK rfl rfl rfl hs.ok.2⟩
  show (wn 0 7 (.int k) && selOk s)=true
  rw [xm hk,hs.ok.1];rfl
 | @cell k s hk hs=>
  refine ⟨?_,gK rfl rfl rfl hs.ok.2⟩
  show (wn 0 7 (.int k) && srcOk s)=true
  rw [xm hk,hs.ok.1];rfl
 | @two k o a b hk ho ha hb=>
  refine ⟨?_,yh rfl rfl rfl rfl ha.ok.2 hb.ok.2⟩
  show (wn 0 7 (.int k) && (opsL.contains o && (srcOk a && srcOk b)))=true
  rw [xm hk,sI ho,ha.ok.1,hb.ok.1];rfl
 | @put s a hs ha=>
  refine ⟨?_,gK rfl rfl hs.ok.2 ha.ok.2⟩
  show (selOk s && srcOk a)=true
  rw [hs.ok.1,ha.ok.1];rfl
 | @tell s a hs ha=>
  refine ⟨?_,gK rfl rfl hs.ok.2 ha.ok.2⟩
  show (selOk s && srcOk a)=true
  rw [hs.ok.1,ha.ok.1];rfl
 | @store a b ha hb=>
  refine ⟨?_,gK rfl rfl ha.ok.2 hb.ok.2⟩
  show (srcOk a && srcOk b)=true
  rw [ha.ok.1,hb.ok.1];rfl
def ou:List Str:=["z","setq","deeply","gogogogo"]
inductive EndT:Th->Prop
 | next:EndT (.tup [.str "next"])
 | go (i:Nat):i < 3->EndT (.tup [.str "go",.int i])
 | call (i:Nat):i < 3->EndT (.tup [.str "call",.int i])
 | back:EndT (.tup [.str "back"])
 | stop:EndT (.tup [.str "stop"])
 | fault (z:Str):z∈ou->EndT (.tup [.str "fault",.str z])
inductive OnT:Th->Prop
 | two (z:Str) (i a b:Nat):(z="some"\/z="top")->i < 8->a < 400->b < 400->OnT (.tup [.str z,.int i,.int a,.int b])
 | on (a:Nat):a < 400->OnT (.tup [.str "on",.int a])
 | done {e:Th}:EndT e->OnT (.tup [.str "done",e])
theorem vP:∀ z∈ou,eI z.cps.toList=true/\fauS.contains z=false/\z.cps.toList.length<=1000:=by decide +kernel
theorem A2 {k:Nat} (h:k < 3):wn 0 2 (.int k)=true:=by
 show (decide ((0:Int)<=(k:Int)) && decide ((k:Int)<=2))=true
 rw [decide_eq_true (by omega),decide_eq_true (by omega)]
 rfl
theorem yi {k:Nat} (h:k < 400):wn 0 399 (.int k)=true:=by
 show (decide ((0:Int)<=(k:Int)) && decide ((k:Int)<=399))=true
 rw [decide_eq_true (by omega),decide_eq_true (by omega)]
 rfl
theorem EndT.ok {t:Th} (h:EndT t):bT t=true/\kN t:=by
 cases h with
 | next=>exact ⟨rfl,rfl,rfl,fun z e=>by cases e⟩
 | go i hi=>exact ⟨A2 hi,rfl,rfl,fun z e=>by cases e⟩
 | call i hi=>exact ⟨A2 hi,rfl,rfl,fun z e=>by cases e⟩
 | back=>exact ⟨rfl,rfl,rfl,fun z e=>by cases e⟩
 | stop=>exact ⟨rfl,rfl,rfl,fun z e=>by cases e⟩
 | fault z hz=>
  obtain ⟨a,b,c⟩:=vP z hz
  refine ⟨?_,rfl,rfl,fun z' e=>?_⟩
  ·show (eI z.cps.toList && !fauS.contains z)=true
   rw [a,b];rfl
  ·have e':Th.str z=.str z':=e
   cases e'
   exact c
theorem fX (i:Int):kN (.int i):=⟨rfl,rfl,fun z e=>by cases e⟩
theorem OnT.ok {t:Th} (h:OnT t):cv t=true/\ye t:=by
 cases h with
 | two z i a b hz hi ha hb=>
  rcases hz with rfl|rfl
  ·refine ⟨?_,rfl,fX _⟩
   show (wn 0 7 (.int i) && (wn 0 399 (.int a) && wn 0 399 (.int b)))=true
   rw [xm hi,yi ha,yi hb];rfl
  ·refine ⟨?_,rfl,fX _⟩
   show (wn 0 7 (.int i) && (wn 0 399 (.int a) && wn 0 399 (.int b)))=true
   rw [xm hi,yi ha,yi hb];rfl
 | on a ha=>exact ⟨yi ha,rfl,fX _⟩
 | done he=>exact ⟨he.ok.1,rfl,he.ok.2⟩
end L3
namespace L3
open PySem L2
theorem eJ {sep l:List Nat} (hs:sep≠[]) (i:Nat):StrLaws.At (S l) (S sep) (S l).length i↔sep <+: l.drop i:=by
 unfold StrLaws.At
 rw [StrLaws.subAt_eq,a8,a8,List.prefix_iff_eq_take]
 show (i+sep.length<=l.length/\((l.drop i).take sep.length == sep)=true)↔_
 rw [beq_iff_eq]
 constructor
 ·rintro ⟨_,h⟩;exact h.symm
 ·intro h
  refine ⟨?_,h.symm⟩
  have h2:=congrArg List.length h
  rw [BZ,B2] at h2
  have:0 < sep.length:=CJ.mpr hs
  omega
theorem fG {x y:Str} {hi:Nat}:∀ {c1 c2:List Nat} {a f1 f2:Nat},StrLaws.ChainG x y hi a c1 f1->StrLaws.ChainG x y hi a c2 f2->(∀ k,f1<=k->¬ StrLaws.At x y hi k)->(∀ k,f2<=k->¬ StrLaws.At x y hi k)->c1=c2
 | [],[],_,_,_,_,_,_,_=>rfl
 | [],c::r,a,f1,f2,h1,h2,n1,n2=>by
  have e:f1=a:=h1
  subst e
  exact absurd h2.2.1 (n1 c h2.1)
 | c::r,[],a,f1,f2,h1,h2,n1,n2=>by
  have e:f2=a:=h2
  subst e
  exact absurd h1.2.1 (n2 c h1.1)
 | c::r,d::q,a,f1,f2,h1,h2,n1,n2=>by
  have e:c=d:=by
   rcases Nat.lt_trichotomy c d with h|h|h
   ·exact absurd h1.2.1 (h2.2.2.1 c h1.1 h)
   ·exact h
   ·exact absurd h2.2.1 (h1.2.2.1 d h2.1 h)
  subst e
  rw [fG h1.2.2.2 h2.2.2.2 n1 n2]
theorem hZ {sep p b:List Nat} (hs:sep≠[]) (k:Nat):StrLaws.At (S (p++b)) (S sep) (S (p++b)).length (p.length+k)↔StrLaws.At (S b) (S sep) (S b).length k:=by
 rw [eJ hs,eJ hs,<-List.drop_drop,List.drop_left]
theorem gC {sep p b:List Nat} (hs:sep≠[]):∀ {c:List Nat} {a f:Nat},StrLaws.ChainG (S b) (S sep) (S b).length a c f->StrLaws.ChainG (S (p++b)) (S sep) (S (p++b)).length (p.length+a) (c.map (p.length+·)) (p.length+f)
 | [],a,f,h=>by
  have e:f=a:=h
  subst e
  exact rfl
 | c::r,a,f,h=>by
  refine ⟨by have:=h.1;show p.length+a<=p.length+c;omega,(hZ hs c).mpr h.2.1,fun k h1 h2=>?_,?_⟩
  ·obtain ⟨j,rfl⟩:∃ j,k=p.length+j:=⟨k - p.length,by omega⟩
   rw [hZ hs]
   have h2':p.length+j < p.length+c:=h2
   exact h.2.2.1 j (by omega) (by omega)
  ·have:=gC (p:=p) hs h.2.2.2
   rw [show p.length+c+(S sep).length=p.length+(c+(S sep).length) from by omega]
   exact this
theorem je (p b:List Nat) (i j:Nat):Builtin.Str.strSub (S (p++b)) (p.length+i) (p.length+j)=Builtin.Str.strSub (S b) i j:=by
 have h:∀ x y:Str,x.cps.toList=y.cps.toList->x=y:=fun x y h=>by rw [gJ x,gJ y,h]
 apply h
 rw [StrLaws.strSub_toList,StrLaws.strSub_toList]
 show ((p++b).drop (p.length+i)).take (p.length+j - (p.length+i))=(b.drop i).take (j - i)
 rw [<-List.drop_drop,List.drop_left]
 congr 1
 omega
theorem gD (p b:List Nat) (w:Nat):∀ (c:List Nat) (a:Nat),StrLaws.partsFrom (S (p++b)) w (p.length+a) (c.map (p.length+·))=StrLaws.partsFrom (S b) w a c
 | [],a=>by
  show [Builtin.Str.strSub (S (p++b)) (p.length+a) (S (p++b)).length]=[Builtin.Str.strSub (S b) a (S b).length]
  rw [a8,a8,By,je]
 | c::r,a=>by
  show Builtin.Str.strSub (S (p++b)) (p.length+a) (p.length+c)::StrLaws.partsFrom (S (p++b)) w (p.length+c+w) (r.map (p.length+·))=Builtin.Str.strSub (S b) a c::StrLaws.partsFrom (S b) w (c+w) r
  rw [je,show p.length+c+w=p.length+(c+w) from by omega,gD p b w r]
theorem cC (x y:Str) (hy:(y.length == 0)=false):Txt.split x y=StrLaws.partsFrom x y.length 0 (Builtin.Str.occurrences x y 0 x.length (x.length+1)):=by
 rw [<-StrLaws.partsBetween_eq]
 have h:=PySem.W.m_split x y hy
 have h':(if (y.length == 0)=true then Option.none else some (PySem.W.WData.list ((Builtin.Str.partsBetween x (Builtin.Str.occurrences x y 0 x.length (x.length+1)) y.length).map .str)))=some (PySem.W.WData.list ((Txt.split x y).map .str)):=h
 rw [if_neg (by rw [hy];nofun)] at h'
 have h2:=BY h'
 have h3:(Builtin.Str.partsBetween x (Builtin.Str.occurrences x y 0 x.length (x.length+1)) y.length).map PySem.W.WData.str=(Txt.split x y).map PySem.W.WData.str:=by injection h2
 exact ((List.map_inj_right (fun a b e=>by injection e)).mp h3).symm
theorem fY {sep:List Nat} (hs:sep≠[]):((S sep).length == 0)=false:=by
 rw [a8]
 cases sep with
 | nil=>exact absurd rfl hs
 | cons _ _=>rfl
theorem qa {sep:List Nat} (hs:sep≠[]):1<=(S sep).length:=by
 rw [a8];exact CJ.mpr hs
theorem ow {sep a b:List Nat} (hs:sep≠[]) (h:∀ i,i < a.length->¬ sep <+: (a++sep++b).drop i):Txt.split (S (a++sep++b)) (S sep)=S a::Txt.split (S b) (S sep):=by
 rw [cC _ _ (fY hs),cC _ _ (fY hs)]
 obtain ⟨f,c1,n1⟩:=StrLaws.occ_tight (S (a++sep++b)) (S sep) (qa hs)
 obtain ⟨g,c2,n2⟩:=StrLaws.occ_tight (S b) (S sep) (qa hs)
 generalize Builtin.Str.occurrences (S (a++sep++b)) (S sep) 0 (S (a++sep++b)).length ((S (a++sep++b)).length+1)=o1 at *
 generalize Builtin.Str.occurrences (S b) (S sep) 0 (S b).length ((S b).length+1)=o2 at *
 have ea:StrLaws.At (S (a++sep++b)) (S sep) (S (a++sep++b)).length a.length:=by
  rw [eJ hs,BT,List.drop_left]
  exact List.prefix_append _ _
 have c3:StrLaws.ChainG (S (a++sep++b)) (S sep) (S (a++sep++b)).length 0 (a.length::o2.map ((a++sep).length+·)) ((a++sep).length+g):=by
  refine ⟨Cp _,ea,fun k _ hk=>by rw [eJ hs];exact h k hk,?_⟩
  have:=gC (p:=a++sep) hs c2
  rw [show a.length+(S sep).length=(a++sep).length+0 from by rw [a8,By];omega]
  exact this
 have n3:∀ k,(a++sep).length+g<=k->¬ StrLaws.At (S (a++sep++b)) (S sep) (S (a++sep++b)).length k:=fun k hk=>by
  obtain ⟨j,rfl⟩:∃ j,k=(a++sep).length+j:=⟨k - (a++sep).length,by omega⟩
  rw [hZ hs]
  exact n2 j (by omega)
 rw [fG c1 c3 n1 n3]
 show Builtin.Str.strSub (S (a++sep++b)) 0 a.length::StrLaws.partsFrom (S (a++sep++b)) (S sep).length (a.length+(S sep).length) (o2.map ((a++sep).length+·))=_
 rw [show a.length+(S sep).length=(a++sep).length+0 from by rw [a8,By];omega,gD]
 congr 1
 have h:∀ x y:Str,x.cps.toList=y.cps.toList->x=y:=fun x y h=>by rw [gJ x,gJ y,h]
 apply h
 rw [StrLaws.strSub_toList]
 show ((a++sep++b).drop 0).take (a.length - 0)=a
 rw [Cr,Nat.sub_zero,BT,List.take_left]
theorem mj {sep l:List Nat} (hs:sep≠[]) (h:∀ i,¬ sep <+: l.drop i):Txt.split (S l) (S sep)=[S l]:=by
 rw [cC _ _ (fY hs)]
 obtain ⟨f,c1,n1⟩:=StrLaws.occ_tight (S l) (S sep) (qa hs)
 generalize Builtin.Str.occurrences (S l) (S sep) 0 (S l).length ((S l).length+1)=o1 at *
 have c3:StrLaws.ChainG (S l) (S sep) (S l).length 0 [] 0:=rfl
 rw [fG c1 c3 n1 (fun k _=>by rw [eJ hs];exact h k)]
 show [Builtin.Str.strSub (S l) 0 (S l).length]=[S l]
 rw [StrLaws.sub_whole]
def cc (x y:Str):Str×Str×Str:=match Builtin.Str.occurrences x y 0 x.length 1 with
 | i::_=>(Builtin.Str.strSub x 0 i,y,Builtin.Str.strSub x (i+y.length) x.length)
 | []=>(x,Str.empty,Str.empty)
theorem qb {sep a b:List Nat} (hs:sep≠[]) (h:∀ i,i < a.length->¬ sep <+: (a++sep++b).drop i):cc (S (a++sep++b)) (S sep)=(S a,S sep,S b):=by
 have ea:StrLaws.At (S (a++sep++b)) (S sep) (S (a++sep++b)).length a.length:=by
  rw [eJ hs,BT,List.drop_left]
  exact List.prefix_append _ _
 unfold cc
 rcases StrLaws.occ_head (S (a++sep++b)) (S sep) 1 (BG _) with ⟨_,n⟩|⟨i,r,e,ai,n⟩
 ·exact absurd ea (n _)
 ·have e2:i=a.length:=by
   rcases Nat.lt_trichotomy i a.length with g|g|g
   ·exact absurd ((eJ hs i).mp ai) (h i g)
   ·exact g
   ·exact absurd ea (n _ g)
  subst e2
  rw [e]
  have hx:∀ x y:Str,x.cps.toList=y.cps.toList->x=y:=fun x y h=>by rw [gJ x,gJ y,h]
  show (Builtin.Str.strSub (S (a++sep++b)) 0 a.length,S sep,Builtin.Str.strSub (S (a++sep++b)) (a.length+(S sep).length) (S (a++sep++b)).length)=_
  congr 1
  ·apply hx
   rw [StrLaws.strSub_toList]
   show ((a++sep++b).drop 0).take (a.length - 0)=a
   rw [Cr,Nat.sub_zero,BT,List.take_left]
  ·congr 1
   apply hx
   rw [StrLaws.strSub_toList,a8,a8]
   show ((a++sep++b).drop (a.length+sep.length)).take ((a++sep++b).length - (a.length+sep.length))=b
   rw [<-By,List.drop_left,By (as:=a++sep),Nat.add_sub_cancel_left,B1]
theorem qc {sep a b:List Nat} (c j:Nat) (hj:sep[j]?=some c) (hf:∀ k,sep[k]?=some c->k=j) (hc:c∉a):∀ i,i < a.length->¬ sep <+: (a++sep++b).drop i:=by
 rintro i hi ⟨t,ht⟩
 have e1:((a++sep++b).drop i)[j]?=some c:=by rw [<-ht,B6 (BM.mp hj).1];exact hj
 rw [List.getElem?_drop,BT] at e1
 by_cases g:i+j < a.length
 ·rw [B6 g] at e1
  exact hc (B7 e1)
 ·rw [List.getElem?_append_right (by omega)] at e1
  have hjl:=(BM.mp hj).1
  rw [B6 (by omega)] at e1
  have:=hf _ e1
  omega
theorem vQ {sep a:List Nat} (c j:Nat) (hj:sep[j]?=some c) (hc:c∉a):∀ i,¬ sep <+: a.drop i:=by
 rintro i ⟨t,ht⟩
 have e1:(a.drop i)[j]?=some c:=by rw [<-ht,B6 (BM.mp hj).1];exact hj
 rw [List.getElem?_drop] at e1
 exact hc (B7 e1)
theorem gs {sep:List Nat} (c j:Nat) (hj:sep[j]?=some c) (hf:∀ k,sep[k]?=some c->k=j):∀ ts:List (List Nat),ts≠[]->(∀ t∈ts,c∉t)->Txt.split (S (TK.jn sep ts)) (S sep)=ts.map S
 | [],h,_=>absurd rfl h
 | [t],_,ht=>mj (by rintro rfl;cases hj) (vQ c j hj (ht t BJ))
 | t::u::r,_,ht=>by
  have ih:=gs c j hj hf (u::r) (by simp) (fun z hz=>ht z (BF _ hz))
  show Txt.split (S (t++(sep++TK.jn sep (u::r)))) (S sep)=S t::(u::r).map S
  rw [<-BT,ow (by rintro rfl;cases hj) (qc c j hj hf (ht t BJ)),ih]
theorem ia (l p:List Nat):Txt.startswith (S l) (S p)=decide (p <+: l):=by
 unfold Txt.startswith
 rw [StrLaws.subAt_eq,a8,a8,Ce,BD,decide_eq_true_iff,decide_eq_true_iff,beq_iff_eq,List.prefix_iff_eq_take]
 show (0+p.length<=l.length/\(l.drop 0).take p.length=p)↔_
 rw [Cr]
 constructor
 ·rintro ⟨_,h⟩;exact h.symm
 ·intro h
  refine ⟨?_,h.symm⟩
  have:=congrArg List.length h
  rw [BZ] at this
  omega
end L3
namespace L3
open PySem L2
def dg (n:Nat):List Nat:=(Nat.toDigits 10 n).map Char.toNat
theorem ib {n:Nat} (h:n < 10):dg n=[48+n]:=by
 unfold dg
 rw [Nat.toDigits_of_lt_base h]
 have:∀ d:Nat,d < 10->[Nat.digitChar d].map Char.toNat=[48+d]:=by decide
 exact this n h
theorem kP {n:Nat} (h:10<=n):dg n=dg (n / 10)++[48+n % 10]:=by
 have hm:n % 10 < 10:=Nat.mod_lt n (by decide)
 have t:Nat.toDigits 10 (n / 10)++Nat.toDigits 10 (n % 10)=Nat.toDigits 10 (10*(n / 10)+n % 10):=Nat.toDigits_append_toDigits (by decide) (by omega) hm
 rw [Nat.div_add_mod] at t
 rw [<-ib hm]
 unfold dg
 rw [<-t,B8]
theorem ml (n:Nat):∀ c∈dg n,48<=c/\c<=57:=by
 induction n using Nat.strongRecOn with
 | _ n ih=>
  by_cases h:n < 10
  ·rw [ib h]
   intro c hc
   rw [Ch.mp hc]
   omega
  ·rw [kP (by omega)]
   intro c hc
   rcases Cf.mp hc with hc|hc
   ·exact ih (n / 10) (by omega) c hc
   ·rw [Ch.mp hc]
    omega
theorem mm (n:Nat):1<=(dg n).length/\∀ k,1<=k->n < 10 ^ k->(dg n).length<=k:=by
 induction n using Nat.strongRecOn with
 | _ n ih=>
  by_cases h:n < 10
  ·rw [ib h]
   exact ⟨by simp,fun k hk _=>by simpa using hk⟩
  ·rw [kP (by omega)]
   obtain ⟨a,b⟩:=ih (n / 10) (by omega)
   refine ⟨by rw [By];simp,fun k hk hn=>?_⟩
   rw [By]
   have hk2:2<=k:=by
    rcases (by omega:k=1\/2<=k) with rfl|z
    ·simp at hn
     omega
    ·exact z
   have:=b (k - 1) (by omega) (by
    have e:10 ^ k=10 ^ (k - 1)*10:=by rw [<-Nat.pow_succ];congr 1;omega
    rw [e] at hn
    exact Nat.div_lt_of_lt_mul (by rw [Nat.mul_comm];exact hn))
   simp
   omega
theorem sJ (n:Nat) (h1:1<=n):(dg n)[0]?≠some 48:=by
 induction n using Nat.strongRecOn with
 | _ n ih=>
  by_cases h:n < 10
  ·rw [ib h]
   simp
   omega
  ·rw [kP (by omega)]
   have hl:=(mm (n / 10)).1
   rw [B6 (by omega)]
   exact ih (n / 10) (by omega) (by omega)
theorem bw (n:Nat):(toString (n:Int):Str)=S (dg n):=by
 have:=PySem.W.KIN.signs_num n
 have e:=gJ (toString (n:Int):Str)
 rw [e]
 congr 1
def vR:List Nat:=(List.range 10).map (48+·)
def sK:Str:="0123456789"
theorem yj:sK=S vR:=by decide +kernel
theorem sL (c:Nat) (h:48<=c/\c<=57):c∈vR:=Cn.mpr ⟨c - 48,CH.mpr (by omega),by omega⟩
section
variable {X:Cx}
theorem kQ:cA X (.type "int") (fun xs H Q=>∃ n:Nat,xs=[.str (toString (n:Int):Str)]/\n < 1000000000/\Q (.int n) H):=by
 intro pins s σ H xs us Q I r h
 obtain ⟨n,rfl,hn,q⟩:=h
 obtain ⟨u,rfl,rx⟩:=fP r
 obtain ⟨t,rfl⟩:=rx
 exact PySem.W.KIN.call_num (by omega) (by omega) ⟨.int n,H,I.tok _,⟨_,rfl⟩,q⟩
end
def cp (z:Str):List Nat:=z.cps.toList
theorem bn (z:Str):S (cp z)=z:=(gJ z).symm
theorem cF (l:List Nat):cp (S l)=l:=rfl
theorem kR (l:List Str):(l.map cp).map S=l:=by
 rw [Cl9]
 refine Eq.trans ?_ (List.map_id l)
 exact List.map_congr_left fun z _=>bn z
theorem eK (sep:List Nat):∀ ts:List (List Nat),(S sep).join (ts.map S)=S (TK.jn sep ts)
 | []=>rfl
 | [t]=>rfl
 | t::u::r=>by
  have ih:=eK sep (u::r)
  show S t++S sep++(S sep).join ((u::r).map S)=S (t++(sep++TK.jn sep (u::r)))
  rw [ih,aP,aP,BT]
theorem uN (c:Nat) (t u:List Nat) (r:List (List Nat)):c∈TK.jn [c] (t::u::r):=by
 show c∈t++([c]++TK.jn [c] (u::r))
 simp
theorem qd {c:Nat}:∀ {a b x y:List Nat},c∉a->c∉b->a++(c::x)=b++(c::y)->a=b/\x=y
 | [],[],x,y,_,_,h=>by simpa using h
 | [],b::bs,x,y,_,hb,h=>by
  simp at h
  exact absurd (h.1 ▸ BJ) hb
 | a::as,[],x,y,ha,_,h=>by
  simp at h
  exact absurd (h.1 ▸ BJ) ha
 | a::as,b::bs,x,y,ha,hb,h=>by
  simp at h
  obtain ⟨h1,h2⟩:=h
  obtain ⟨h3,h4⟩:=qd (a:=as) (b:=bs) (fun z=>ha (BF _ z)) (fun z=>hb (BF _ z)) h2
  exact ⟨by rw [h1,h3],h4⟩
theorem qe {c:Nat}:∀ {a b:List (List Nat)},a≠[]->b≠[]->(∀ t∈a,c∉t)->(∀ t∈b,c∉t)->TK.jn [c] a=TK.jn [c] b->a=b
 | [],_,h,_,_,_,_=>absurd rfl h
 | _,[],_,h,_,_,_=>absurd rfl h
 | [t],[u],_,_,_,_,h=>by
  have:t=u:=h
  rw [this]
 | [t],u::v::r,_,_,ha,_,h=>by
  have h1:t=TK.jn [c] (u::v::r):=h
  exact absurd (h1 ▸ uN c u v r) (ha t BJ)
 | t::s::q,[u],_,_,_,hb,h=>by
  have h1:TK.jn [c] (t::s::q)=u:=h
  exact absurd (h1 ▸ uN c t s q) (hb u BJ)
 | t::s::q,u::v::r,_,_,ha,hb,h=>by
  have h1:t++(c::TK.jn [c] (s::q))=u++(c::TK.jn [c] (v::r)):=h
  obtain ⟨h2,h3⟩:=qd (ha t BJ) (hb u BJ) h1
  have:=qe (a:=s::q) (b:=v::r) (by simp) (by simp) (fun z hz=>ha z (BF _ hz)) (fun z hz=>hb z (BF _ hz)) h3
  rw [h2,this]
theorem qg (sep:List Nat):∀ ts:List (List Nat),(TK.jn sep ts).length<=(ts.map List.length).sum+ts.length*sep.length
 | []=>by simp [TK.jn]
 | [t]=>by simp [TK.jn]
 | t::u::r=>by
  have ih:=qg sep (u::r)
  show (t++(sep++TK.jn sep (u::r))).length<=_
  rw [By,By]
  simp only [BR,CM,Bx] at ih ⊢
  have:(r.length+1+1)*sep.length=(r.length+1)*sep.length+sep.length:=by rw [Nat.add_mul (r.length+1) 1,Nat.one_mul]
  omega
theorem jL (k:Nat):∀ ts:List (List Nat),(∀ t∈ts,t.length<=k)->(ts.map List.length).sum<=ts.length*k
 | [],_=>by simp
 | t::r,h=>by
  have ih:=jL k r (fun t ht=>h t (BF _ ht))
  have:=h t BJ
  simp only [BR,CM,Bx]
  have:(r.length+1)*k=r.length*k+k:=by rw [Nat.add_mul,Nat.one_mul]
  omega
end L3
namespace L2
open PySem PySem.Spec PyProof.Rows
section
variable {X:Cx}
theorem jM (a:Str):Str.empty++a=a:=by
 show (⟨(#[]:Array Nat)++a.cps⟩:Str)=a
 simp
theorem cV {a:Str} {e:Expr} {te:TE} {j:Nat} {p1 p2 p3:Pos} (he:PE X e te) (ha:a.length<=sizeLine:=by decide +kernel):PE X (.JoinedStr [.Constant (.str a) j p1,.FormattedValue e (-1) none p2] p3)
  (fun σ H Q=>te σ H fun x H1=>∃ i:Int,x=.int i/\i.natAbs.log2 < 1920/\(a++(toString i:Str)).length<=sizeLine/\Q (.str (a++(toString i:Str))) H1):=by
 refine ⟨?_⟩
 intro pins s σ H Q I h
 refine JoinedStr_many (joinParts_cons (Calls.Constant_str ?_))
 dsimp only
 rw [jM]
 refine ⟨ha,joinParts_cons (FormattedValue_plain (bA (he pins _ σ H _ (I.tok _) h) fun u s1 ⟨x,H1,I1,r1,i,ex,hi,hz,q⟩=>?_))⟩
 subst ex
 obtain ⟨t,rfl⟩:=r1
 refine formatField_int_small hi ?_
 exact ⟨hz,joinParts_nil ⟨.str _,H1,I1.tok _,⟨_,rfl⟩,q⟩ hz⟩
abbrev TJ:=Str->St->Hp->(Str->Hp->Prop)->Prop
def PJ (X:Cx) (es:List Expr) (t:TJ):Prop:=∀ (pins:List (Addr×Obj)) (s:Shared) (σ:St) (H:Hp) (acc:Str) (Q:VK),Inv X pins σ H s->t acc σ H (fun z H1=>z.length<=sizeLine/\Q (.str z) H1)->
 wpAny (model X.prog X.w) X.A (joinParts acc (evalEach es X.env)) (EP X pins σ Q) X.xe s
theorem cG:PJ X [] (fun acc _ H Q=>Q acc H):=by
 intro pins s σ H acc Q I h
 obtain ⟨hz,q⟩:=h
 exact joinParts_nilE (joinParts_nil ⟨.str _,H,I.tok _,⟨_,rfl⟩,q⟩ hz)
theorem bq {a:Str} {j:Nat} {p:Pos} {es:List Expr} {t:TJ} (h:PJ X es t) (ha:a.length<=sizeLine:=by decide +kernel):PJ X (.Constant (.str a) j p::es) (fun acc σ H Q=>(acc++a).length<=sizeLine/\t (acc++a) σ H Q):=by
 intro pins s σ H acc Q I hh
 obtain ⟨hz,q⟩:=hh
 refine joinParts_consE (joinParts_cons (Calls.Constant_str ?_))
 dsimp only
 exact ⟨hz,h pins _ σ H _ Q (I.tok _) q⟩
theorem bi {e:Expr} {te:TE} {p:Pos} {es:List Expr} {t:TJ} (he:PE X e te) (h:PJ X es t):PJ X (.FormattedValue e (-1) none p::es)
  (fun acc σ H Q=>te σ H fun x H1=>(∃ i:Int,x=.int i/\i.natAbs.log2 < 1920/\(acc++(toString i:Str)).length<=sizeLine/\t (acc++(toString i:Str)) σ H1 Q)\/(∃ z:Str,x=.str z/\z.length<=sizeLine/\(acc++z).length<=sizeLine/\t (acc++z) σ H1 Q)):=by
 intro pins s σ H acc Q I hh
 refine joinParts_consE (joinParts_cons (FormattedValue_plain (bA (he pins _ σ H _ I hh) fun u s1 ⟨x,H1,I1,r1,hx⟩=>?_)))
 rcases hx with ⟨i,rfl,hi,hz,q⟩|⟨z,rfl,hi,hz,q⟩
 ·obtain ⟨t',rfl⟩:=r1
  refine formatField_int_small hi ?_
  exact ⟨hz,h pins _ σ H1 _ Q (I1.tok _) q⟩
 ·obtain ⟨t',rfl⟩:=r1
  refine formatField_str (fun t2 tk=>?_) hi
  exact ⟨hz,h pins _ σ H1 _ Q (I1.tok _) q⟩
theorem cf {v1 v2:Expr} {es:List Expr} {t:TJ} {p:Pos} (h:PJ X (v1::v2::es) t):PE X (.JoinedStr (v1::v2::es) p) (fun σ H Q=>t Str.empty σ H fun z H1=>z.length<=sizeLine/\Q (.str z) H1):=by
 refine ⟨?_⟩
 intro pins s σ H Q I hh
 exact JoinedStr_many (h pins s σ H Str.empty Q I hh)
end
end L2
namespace L3
open PySem L2
def dj (l:List Nat):Nat:=l.foldl (fun n c=>n*10+(c - 48)) 0
def a9 (c:Nat):Bool:=decide (48<=c) && decide (c<=57)
def ck (l:List Nat):Bool:=decide (1<=l.length) && (decide (l.length<=9) && (l.all a9 && !(decide (l[0]?=some 48) && decide (1 < l.length))))
def br (l:List Nat):Th:=if ck l then .int (dj l:Nat) else .non
theorem jf (l:List Nat) (c:Nat):dj (l++[c])=dj l*10+(c - 48):=by
 unfold dj;rw [List.foldl_append];rfl
theorem sN (n:Nat):dj (dg n)=n:=by
 induction n using Nat.strongRecOn with
 | _ n ih=>
  by_cases h:n < 10
  ·rw [ib h]
   show 0*10+(48+n - 48)=n
   omega
  ·rw [kP (by omega),jf,ih (n / 10) (by omega)]
   omega
theorem sO:∀ (k:Nat) (l:List Nat),l.length=k+1->l.all a9=true->(l[0]?≠some 48\/k=0)->dg (dj l)=l/\dj l < 10 ^ (k+1)/\(l[0]?≠some 48->1<=dj l):=by
 intro k
 induction k with
 | zero=>
  intro l hl ha _
  match l,hl with
  | [c],_=>
   have hc:48<=c/\c<=57:=by simpa [a9] using ha
   have e:dj [c]=c - 48:=by show 0*10+(c - 48)=_;omega
   rw [e,ib (by omega)]
   refine ⟨by congr 1;omega,by omega,fun h=>?_⟩
   have:c≠48:=fun z=>h (by rw [z];rfl)
   omega
 | succ k ih=>
  intro l hl ha h0
  have hne:l≠[]:=by rintro rfl;cases hl
  obtain ⟨r,c,rfl⟩:∃ r c,l=r++[c]:=⟨l.dropLast,l.getLast hne,(List.dropLast_concat_getLast hne).symm⟩
  rw [By] at hl
  have hl':r.length=k+1:=by simpa using hl
  rw [List.all_append,BD] at ha
  have hc:48<=c/\c<=57:=by simpa [a9] using ha.2
  have e0:(r++[c])[0]?=r[0]?:=B6 (by omega)
  rw [e0] at h0 ⊢
  have h0':r[0]?≠some 48:=by rcases h0 with h|h;exact h;omega
  obtain ⟨a,b,d⟩:=ih r hl' ha.1 (.inl h0')
  have d1:=d h0'
  rw [jf]
  have p:10 ^ (k+1+1)=10 ^ (k+1)*10:=rfl
  refine ⟨?_,by omega,fun _=>by omega⟩
  rw [kP (by omega),show (dj r*10+(c - 48)) / 10=dj r from by omega,a,show (dj r*10+(c - 48)) % 10=c - 48 from by omega]
  congr 2
  omega
theorem sQ {l:List Nat} (h:ck l=true):l=dg (dj l)/\dj l < 1000000000:=by
 unfold ck at h
 rw [BD,BD,BD,decide_eq_true_iff,decide_eq_true_iff,Bool.not_eq_true',Bool.and_eq_false_iff,decide_eq_false_iff_not,decide_eq_false_iff_not] at h
 obtain ⟨h1,h2,h3,h4⟩:=h
 obtain ⟨a,b,_⟩:=sO (l.length - 1) l (by omega) h3 (by rcases h4 with h|h;exact .inl h;exact .inr (by omega))
 refine ⟨a.symm,BQ b ?_⟩
 rw [show (1000000000:Nat)=10 ^ 9 from rfl]
 exact Nat.pow_le_pow_right (by decide) (by omega)
theorem sS {n:Nat} (h:n < 1000000000):ck (dg n)=true:=by
 obtain ⟨l1,l9⟩:=mm n
 have l9:=l9 9 (by decide) (by omega)
 unfold ck
 rw [decide_eq_true l1,decide_eq_true l9,Cd.mpr (fun c hc=>by have:=ml n c hc;show (decide (48<=c) && decide (c<=57))=true;rw [decide_eq_true this.1,decide_eq_true this.2];rfl)]
 by_cases hz:n=0
 ·subst hz;rw [ib (by decide)];rfl
 ·rw [decide_eq_false (sJ n (by omega))];rfl
theorem fZ {n:Nat} (h:n < 1000000000):br (dg n)=.int n:=by
 unfold br
 rw [sS h,sN]
 rfl
def kf (c:Nat) (x:Str):Bool:=(cp x).head? == some c
def bJ (c:Nat) (x:Str):Th:=if kf c x then br ((cp x).drop 1) else .non
def cO (c:Nat) (x:Str):Th:=if kf 102 x then .tup [.str "by",bJ 102 x] else .tup [.str "is",bJ c x]
def b7 (x:Str):Th:=if kf 114 x then .tup [.str "in",bJ 114 x] else if kf 102 x then .tup [.str "field",bJ 102 x] else .tup [.str "number",br (cp x)]
def be:List Str->Th
 | [h,a,b,c,d]=>if h="two" then .tup [.str h,bJ 114 a,.str b,b7 c,b7 d] else .non
 | [h,a,b]=>if h="get" then .tup [.str h,bJ 114 a,cO 112 b] else if h="ask" then .tup [.str h,bJ 114 a,cO 109 b] else if h="cell" then .tup [.str h,bJ 114 a,b7 b]
   else if h="put" then .tup [.str h,cO 112 a,b7 b] else if h="tell" then .tup [.str h,cO 109 a,b7 b] else .tup [.str h,b7 a,b7 b]
 | _=>.non
def ce:List Str->Th
 | [h,a]=>if h="go"\/h="call" then .tup [.str h,bJ 102 a] else .tup [.str h,.str a]
 | ws=>.tup (ws.map .str)
def ff:List Str->Th
 | [h,a]=>if h="on" then .tup [.str h,br (cp a)] else .tup [.str h,ce [a]]
 | [h,a,b,c]=>if h="some"\/h="top" then .tup [.str h,bJ 114 a,br (cp b),br (cp c)] else .tup [.str h,ce [a,b,c]]
 | h::r=>.tup [.str h,ce r]
 | []=>.non
def dk (x:Str):Th:=if decide ([58,32] <+: cp x) then .tup [.tup [],ff (Txt.split (S ((cp x).drop 2)) (S [32]))]
 else .tup [.tup ((Txt.split (cc x (S [32,58,32])).1 (S [32,44,32])).map fun z=>be (Txt.split z (S [32]))),ff (Txt.split (cc x (S [32,58,32])).2.2 (S [32]))]
def bL (k:Str):Nat:=if k="get"\/k="put" then 112 else if k="ask"\/k="tell" then 109 else 114
def pre (l:Nat) (k:Str):List Nat:=if k="is" then [l] else if k="by"\/k="field" then [102] else if k="in" then [114] else []
def bf (l:Nat):Th->List Nat
 | .int i=>114::dg i.toNat
 | .str o=>cp o
 | .tup [.str k,.int i]=>pre l k++dg i.toNat
 | _=>[]
def qh:Th->List (List Nat)
 | .tup (.str k::ps)=>cp k::ps.map (bf (bL k))
 | _=>[]
def ic:Th->List (List Nat)
 | .tup [.str e,.int i]=>[cp e,102::dg i.toNat]
 | .tup [.str e,.str z]=>[cp e,cp z]
 | .tup [.str e]=>[cp e]
 | _=>[]
def eM:Th->List (List Nat)
 | .tup [.str k,.int i,.int a,.int b]=>[cp k,114::dg i.toNat,dg a.toNat,dg b.toNat]
 | .tup [.str k,.int a]=>[cp k,dg a.toNat]
 | .tup [.str k,e]=>cp k::ic e
 | _=>[]
def cW (t:Th):List Nat:=TK.jn [32] (qh t)
def fH:Th->List Nat
 | .tup [.tup ss,on]=>(if ss=[] then [58,32] else TK.jn [32,44,32] (ss.map cW)++[32,58,32])++TK.jn [32] (eM on)
 | _=>[]
def xn (c:Nat):Bool:=c != 32 && c != 44 && c != 58 && c != 10
def lB (l:List Nat):Bool:=l.all xn
theorem ci (n:Nat):lB (dg n)=true:=Cd.mpr fun c hc=>by
 have:=ml n c hc
 unfold xn
 simp only [bne_iff_ne,BD]
 omega
theorem bW {c:Nat} {l:List Nat} (hc:xn c=true) (h:lB l=true):lB (c::l)=true:=by
 unfold lB at *
 rw [List.all_cons,hc,h];rfl
theorem vS:∀ o∈opsL,lB (cp o)=true:=by decide +kernel
theorem sT:∀ o∈ou,lB (cp o)=true:=by decide +kernel
theorem cu {c n:Nat} (h:n < 1000000000):bJ c (S (c::dg n))=.int n:=by
 unfold bJ kf
 show (if (((c::dg n).head? == some c)=true) then br ((c::dg n).drop 1) else .non)=_
 rw [if_pos (by simp)]
 exact fZ h
theorem jN (c:Nat) (l:List Nat):kf c (S (c::l))=true:=by
 show ((c::l).head? == some c)=true
 simp
theorem qi {c d:Nat} (l:List Nat) (h:d≠c):kf c (S (d::l))=false:=by
 show ((d::l).head? == some c)=false
 simpa using h
theorem uO {c:Nat} (n:Nat) (h:57 < c):kf c (S (dg n))=false:=by
 show ((dg n).head? == some c)=false
 rw [beq_eq_false_iff_ne]
 intro e
 have:=ml n c (List.mem_of_mem_head? e)
 omega
theorem gu (l:Nat):pre l "is"=[l]:=by unfold pre;rw [if_pos rfl]
theorem gv (l:Nat):pre l "by"=[102]:=by unfold pre;rw [if_neg (by decide +kernel),if_pos (.inl rfl)]
theorem dP (l:Nat):pre l "field"=[102]:=by unfold pre;rw [if_neg (by decide +kernel),if_pos (.inr rfl)]
theorem fJ (l:Nat):pre l "in"=[114]:=by unfold pre;rw [if_neg (by decide +kernel),if_neg (by decide +kernel),if_pos rfl]
theorem dQ (l:Nat):pre l "number"=[]:=by unfold pre;rw [if_neg (by decide +kernel),if_neg (by decide +kernel),if_neg (by decide +kernel)]
theorem SelT.rd {l:Nat} {t:Th} (hl:l≠102) (hc:xn l=true) (h:SelT t):cO l (S (bf l t))=t/\lB (bf l t)=true:=by
 cases h with
 | is i hi=>
  have e:bf l (.tup [.str "is",.int (i:Nat)])=l::dg i:=by show pre l "is"++dg i=_;rw [gu];rfl
  rw [e]
  unfold cO
  rw [qi _ hl,cu (by omega)]
  exact ⟨rfl,bW hc (ci _)⟩
 | «by» i hi=>
  have e:bf l (.tup [.str "by",.int (i:Nat)])=102::dg i:=by show pre l "by"++dg i=_;rw [gv];rfl
  rw [e]
  unfold cO
  rw [jN,cu (by omega)]
  exact ⟨rfl,bW (by decide) (ci _)⟩
theorem SrcT.rd {l:Nat} {t:Th} (h:SrcT t):b7 (S (bf l t))=t/\lB (bf l t)=true:=by
 cases h with
 | fld i hi=>
  have e:bf l (.tup [.str "field",.int (i:Nat)])=102::dg i:=by show pre l "field"++dg i=_;rw [dP];rfl
  rw [e]
  unfold b7
  rw [qi _ (by decide),jN,cu (by omega)]
  exact ⟨rfl,bW (by decide) (ci _)⟩
 | num i hi=>
  have e:bf l (.tup [.str "number",.int (i:Nat)])=dg i:=by show pre l "number"++dg i=_;rw [dQ];rfl
  rw [e]
  unfold b7
  rw [uO _ (by decide),uO _ (by decide),cF,fZ (by omega)]
  exact ⟨rfl,ci _⟩
 | inn i hi=>
  have e:bf l (.tup [.str "in",.int (i:Nat)])=114::dg i:=by show pre l "in"++dg i=_;rw [fJ];rfl
  rw [e]
  unfold b7
  rw [jN,cu (by omega)]
  exact ⟨rfl,bW (by decide) (ci _)⟩
theorem jO:bL "get"=112:=by decide +kernel
theorem jP:bL "put"=112:=by decide +kernel
theorem jQ:bL "ask"=109:=by decide +kernel
theorem ie:bL "tell"=109:=by decide +kernel
theorem aE {x:List Nat} {r:List (List Nat)} (h1:lB x=true) (h2:∀ z∈r,lB z=true):∀ z∈x::r,lB z=true:=by
 intro z hz
 rcases BH.mp hz with rfl|hz
 ·exact h1
 ·exact h2 z hz
theorem bN:∀ z∈([]:List (List Nat)),lB z=true:=fun z hz=>by cases hz
theorem StpT.rd {t:Th} (h:StpT t):be ((qh t).map S)=t/\(∀ z∈qh t,lB z=true)/\∃ c r q,qh t=(c::r)::q/\c≠58/\c≠45:=by
 cases h with
 | @get k s hk hs=>
  have e:qh (.tup [.str "get",.int (k:Nat),s])=[cp "get",114::dg k,bf 112 s]:=by show [cp "get",114::dg k,bf (bL "get") s]=_;rw [jO]
  obtain ⟨a,b⟩:=hs.rd (l:=112) (by decide) (by decide)
  rw [e]
  refine ⟨?_,aE (by decide +kernel) (aE (bW (by decide) (ci _)) (aE b bN)),_,_,_,rfl,by decide +kernel,by decide +kernel⟩
  show be [S (cp "get"),S (114::dg k),S (bf 112 s)]=_
  rw [bn]
  unfold be
  dsimp only
  rw [if_pos rfl,cu (by omega),a]
 | @ask k s hk hs=>
  have e:qh (.tup [.str "ask",.int (k:Nat),s])=[cp "ask",114::dg k,bf 109 s]:=by show [cp "ask",114::dg k,bf (bL "ask") s]=_;rw [jQ]
  obtain ⟨a,b⟩:=hs.rd (l:=109) (by decide) (by decide)
  rw [e]
  refine ⟨?_,aE (by decide +kernel) (aE (bW (by decide) (ci _)) (aE b bN)),_,_,_,rfl,by decide +kernel,by decide +kernel⟩
  show be [S (cp "ask"),S (114::dg k),S (bf 109 s)]=_
  rw [bn]
  unfold be
  dsimp only
  rw [if_neg (by decide +kernel),if_pos rfl,cu (by omega),a]
 | @cell k s hk hs=>
  obtain ⟨a,b⟩:=hs.rd (l:=bL "cell")
  have e:qh (.tup [.str "cell",.int (k:Nat),s])=[cp "cell",114::dg k,bf (bL "cell") s]:=rfl
  rw [e]
  refine ⟨?_,aE (by decide +kernel) (aE (bW (by decide) (ci _)) (aE b bN)),_,_,_,rfl,by decide +kernel,by decide +kernel⟩
  show be [S (cp "cell"),S (114::dg k),S (bf (bL "cell") s)]=_
  rw [bn]
  unfold be
  dsimp only
  rw [if_neg (by decide +kernel),if_neg (by decide +kernel),if_pos rfl,cu (by omega),a]
 | @two k o x y hk ho hx hy=>
  obtain ⟨a,b⟩:=hx.rd (l:=bL "two")
  obtain ⟨c,d⟩:=hy.rd (l:=bL "two")
  have e:qh (.tup [.str "two",.int (k:Nat),.str o,x,y])=[cp "two",114::dg k,cp o,bf (bL "two") x,bf (bL "two") y]:=rfl
  rw [e]
  refine ⟨?_,aE (by decide +kernel) (aE (bW (by decide) (ci _)) (aE (vS o ho) (aE b (aE d bN)))),_,_,_,rfl,by decide +kernel,by decide +kernel⟩
  show be [S (cp "two"),S (114::dg k),S (cp o),S (bf (bL "two") x),S (bf (bL "two") y)]=_
  rw [bn,bn]
  unfold be
  dsimp only
  rw [if_pos rfl,cu (by omega),a,c]
 | @put s x hs hx=>
  have e:qh (.tup [.str "put",s,x])=[cp "put",bf 112 s,bf 112 x]:=by show [cp "put",bf (bL "put") s,bf (bL "put") x]=_;rw [jP]
  obtain ⟨a,b⟩:=hs.rd (l:=112) (by decide) (by decide)
  obtain ⟨c,d⟩:=hx.rd (l:=112)
  rw [e]
  refine ⟨?_,aE (by decide +kernel) (aE b (aE d bN)),_,_,_,rfl,by decide +kernel,by decide +kernel⟩
  show be [S (cp "put"),S (bf 112 s),S (bf 112 x)]=_
  rw [bn]
  unfold be
  dsimp only
  rw [if_neg (by decide +kernel),if_neg (by decide +kernel),if_neg (by decide +kernel),if_pos rfl,a,c]
 | @tell s x hs hx=>
  have e:qh (.tup [.str "tell",s,x])=[cp "tell",bf 109 s,bf 109 x]:=by show [cp "tell",bf (bL "tell") s,bf (bL "tell") x]=_;rw [ie]
  obtain ⟨a,b⟩:=hs.rd (l:=109) (by decide) (by decide)
  obtain ⟨c,d⟩:=hx.rd (l:=109)
  rw [e]
  refine ⟨?_,aE (by decide +kernel) (aE b (aE d bN)),_,_,_,rfl,by decide +kernel,by decide +kernel⟩
  show be [S (cp "tell"),S (bf 109 s),S (bf 109 x)]=_
  rw [bn]
  unfold be
  dsimp only
  rw [if_neg (by decide +kernel),if_neg (by decide +kernel),if_neg (by decide +kernel),if_neg (by decide +kernel),if_pos rfl,a,c]
 | @store x y hx hy=>
  obtain ⟨a,b⟩:=hx.rd (l:=bL "store")
  obtain ⟨c,d⟩:=hy.rd (l:=bL "store")
  have e:qh (.tup [.str "store",x,y])=[cp "store",bf (bL "store") x,bf (bL "store") y]:=rfl
  rw [e]
  refine ⟨?_,aE (by decide +kernel) (aE b (aE d bN)),_,_,_,rfl,by decide +kernel,by decide +kernel⟩
  show be [S (cp "store"),S (bf (bL "store") x),S (bf (bL "store") y)]=_
  rw [bn]
  unfold be
  dsimp only
  rw [if_neg (by decide +kernel),if_neg (by decide +kernel),if_neg (by decide +kernel),if_neg (by decide +kernel),if_neg (by decide +kernel),a,c]
theorem OnT.rd {t:Th} (h:OnT t):ff ((eM t).map S)=t/\(∀ z∈eM t,lB z=true)/\eM t≠[]:=by
 cases h with
 | two z i a b hz hi ha hb=>
  have e:eM (.tup [.str z,.int (i:Nat),.int (a:Nat),.int (b:Nat)])=[cp z,114::dg i,dg a,dg b]:=rfl
  rw [e]
  refine ⟨?_,aE (by rcases hz with rfl|rfl<;>decide +kernel) (aE (bW (by decide) (ci _)) (aE (ci _) (aE (ci _) bN))),by simp⟩
  show ff [S (cp z),S (114::dg i),S (dg a),S (dg b)]=_
  rw [bn]
  unfold ff
  dsimp only
  rw [if_pos hz,cu (by omega),cF,cF,fZ (by omega),fZ (by omega)]
 | on a ha=>
  have e:eM (.tup [.str "on",.int (a:Nat)])=[cp "on",dg a]:=rfl
  rw [e]
  refine ⟨?_,aE (by decide +kernel) (aE (ci _) bN),by simp⟩
  show ff [S (cp "on"),S (dg a)]=_
  rw [bn]
  unfold ff
  dsimp only
  rw [if_pos rfl,cF,fZ (by omega)]
 | @done u he=>
  have nd:¬ (("done":Str)="on"):=by decide +kernel
  cases he with
  | next=>
   have e:eM (.tup [.str "done",.tup [.str "next"]])=[cp "done",cp "next"]:=rfl
   rw [e]
   refine ⟨?_,aE (by decide +kernel) (aE (by decide +kernel) bN),by simp⟩
   show ff [S (cp "done"),S (cp "next")]=_
   rw [bn,bn]
   unfold ff
   dsimp only
   rw [if_neg nd]
   rfl
  | back=>
   have e:eM (.tup [.str "done",.tup [.str "back"]])=[cp "done",cp "back"]:=rfl
   rw [e]
   refine ⟨?_,aE (by decide +kernel) (aE (by decide +kernel) bN),by simp⟩
   show ff [S (cp "done"),S (cp "back")]=_
   rw [bn,bn]
   unfold ff
   dsimp only
   rw [if_neg nd]
   rfl
  | stop=>
   have e:eM (.tup [.str "done",.tup [.str "stop"]])=[cp "done",cp "stop"]:=rfl
   rw [e]
   refine ⟨?_,aE (by decide +kernel) (aE (by decide +kernel) bN),by simp⟩
   show ff [S (cp "done"),S (cp "stop")]=_
   rw [bn,bn]
   unfold ff
   dsimp only
   rw [if_neg nd]
   rfl
  | go i hi=>
   have e:eM (.tup [.str "done",.tup [.str "go",.int (i:Nat)]])=[cp "done",cp "go",102::dg i]:=rfl
   rw [e]
   refine ⟨?_,aE (by decide +kernel) (aE (by decide +kernel) (aE (bW (by decide) (ci _)) bN)),by simp⟩
   show ff [S (cp "done"),S (cp "go"),S (102::dg i)]=_
   rw [bn,bn]
   show Th.tup [.str "done",ce ["go",S (102::dg i)]]=_
   unfold ce
   dsimp only
   rw [if_pos (.inl rfl),cu (by omega)]
  | call i hi=>
   have e:eM (.tup [.str "done",.tup [.str "call",.int (i:Nat)]])=[cp "done",cp "call",102::dg i]:=rfl
   rw [e]
   refine ⟨?_,aE (by decide +kernel) (aE (by decide +kernel) (aE (bW (by decide) (ci _)) bN)),by simp⟩
   show ff [S (cp "done"),S (cp "call"),S (102::dg i)]=_
   rw [bn,bn]
   show Th.tup [.str "done",ce ["call",S (102::dg i)]]=_
   unfold ce
   dsimp only
   rw [if_pos (.inr rfl),cu (by omega)]
  | fault z hz=>
   have e:eM (.tup [.str "done",.tup [.str "fault",.str z]])=[cp "done",cp "fault",cp z]:=rfl
   rw [e]
   refine ⟨?_,aE (by decide +kernel) (aE (by decide +kernel) (aE (sT z hz) bN)),by simp⟩
   show ff [S (cp "done"),S (cp "fault"),S (cp z)]=_
   rw [bn,bn,bn]
   show Th.tup [.str "done",ce ["fault",z]]=_
   unfold ce
   dsimp only
   rw [if_neg (by decide +kernel)]
structure LitT (t:Th):Prop where
 ex:∃ ss on,t=.tup [.tup ss,on]/\(∀ s∈ss,StpT s)/\OnT on/\ss.length<=16
theorem qj {c:Nat} {sep:List Nat} (hs:c∉sep):∀ {ts:List (List Nat)},(∀ t∈ts,c∉t)->c∉TK.jn sep ts
 | [],_,h=>by cases h
 | [t],ht,h=>ht t BJ h
 | t::u::r,ht,h=>by
  have h':c∈t++(sep++TK.jn sep (u::r)):=h
  rcases Cf.mp h' with h|h
  ·exact ht t BJ h
  ·rcases Cf.mp h with h|h
   ·exact hs h
   ·exact qj hs (fun z hz=>ht z (BF _ hz)) h
theorem qk {l:List Nat} {c:Nat} (h:lB l=true) (hc:xn c=false):c∉l:=fun hm=>by
 have:=Cd.mp h c hm
 rw [hc] at this
 cases this
theorem gE {ws:List (List Nat)} (h0:ws≠[]) (h:∀ z∈ws,lB z=true):Txt.split (S (TK.jn [32] ws)) (S [32])=ws.map S:=
 gs (sep:=[32]) 32 0 rfl (fun k hk=>by
  match k with
  | 0=>rfl
  | k+1=>cases hk) ws h0 fun t ht=>qk (h t ht) (by decide)
theorem ql {t:Th} (h:StpT t) {c:Nat} (hc:xn c=false) (h32:c≠32):c∉cW t:=qj (by simpa using h32) fun z hz=>qk (h.rd.2.1 z hz) hc
theorem vT {t:Th} (h:StpT t):be (Txt.split (S (cW t)) (S [32]))=t:=by
 obtain ⟨a,b,c,r,q,e,_⟩:=h.rd
 unfold cW
 rw [gE (by rw [e];simp) b,a]
theorem qm {t:Th} (h:OnT t):ff (Txt.split (S (TK.jn [32] (eM t))) (S [32]))=t:=by
 obtain ⟨a,b,c⟩:=h.rd
 rw [gE c b,a]
theorem qo {t:Th} (h:StpT t):∃ c r,cW t=c::r/\c≠58/\c≠45:=by
 obtain ⟨_,_,c,r,q,e,n⟩:=h.rd
 unfold cW
 rw [e]
 cases q with
 | nil=>exact ⟨c,r,rfl,n⟩
 | cons u q=>exact ⟨c,_,rfl,n⟩
theorem uP {sep:List Nat} {c:Nat} {r:List Nat}:∀ {ts:List (List Nat)},∃ q,TK.jn sep ((c::r)::ts)=c::q
 | []=>⟨r,rfl⟩
 | u::ts=>⟨_,rfl⟩
theorem LitT.rd {t:Th} (h:LitT t):dk (S (fH t))=t:=by
 obtain ⟨ss,on,rfl,hs,ho,hl⟩:=h.ex
 cases ss with
 | nil=>
  have e:fH (.tup [.tup [],on])=58::32::TK.jn [32] (eM on):=rfl
  rw [e]
  unfold dk
  rw [cF,if_pos (by rw [decide_eq_true_iff];exact ⟨_,rfl⟩)]
  show Th.tup [.tup [],ff (Txt.split (S (TK.jn [32] (eM on))) (S [32]))]=_
  rw [qm ho]
 | cons s r=>
  have e:fH (.tup [.tup (s::r),on])=TK.jn [32,44,32] ((s::r).map cW)++[32,58,32]++TK.jn [32] (eM on):=by
   show (if s::r=[] then [58,32] else TK.jn [32,44,32] ((s::r).map cW)++[32,58,32])++TK.jn [32] (eM on)=_
   rw [if_neg (by simp)]
  have n58:58∉TK.jn [32,44,32] ((s::r).map cW):=qj (by decide) fun z hz=>by
   obtain ⟨x,hx,rfl⟩:=Cn.mp hz
   exact ql (hs x hx) (by decide) (by decide)
  rw [e]
  unfold dk
  rw [cF,if_neg ?a,qb (by simp) (qc 58 1 rfl ?b n58)]
  case a=>
   rw [decide_eq_true_iff]
   obtain ⟨c,q,ec,n,_⟩:=qo (hs s BJ)
   rw [BR,ec]
   obtain ⟨q2,e2⟩:=uP (sep:=[32,44,32]) (c:=c) (r:=q) (ts:=r.map cW)
   rw [e2]
   rintro ⟨z,hz⟩
   exact n (BA hz).1.symm
  case b=>
   intro k hk
   match k with
   | 0=>cases hk
   | 1=>rfl
   | 2=>cases hk
   | k+3=>cases hk
  show Th.tup [.tup ((Txt.split (S (TK.jn [32,44,32] ((s::r).map cW))) (S [32,44,32])).map fun z=>be (Txt.split z (S [32]))),ff (Txt.split (S (TK.jn [32] (eM on))) (S [32]))]=_
  rw [qm ho,gs 44 1 rfl ?c _ (by simp) fun z hz=>by
   obtain ⟨x,hx,rfl⟩:=Cn.mp hz
   exact ql (hs x hx) (by decide) (by decide)]
  case c=>
   intro k hk
   match k with
   | 0=>cases hk
   | 1=>rfl
   | 2=>cases hk
   | k+3=>cases hk
  rw [Cl9,Cl9]
  have:(s::r).map (((fun z=>be (Txt.split z (S [32]))) ∘ S) ∘ cW)=(s::r).map id:=List.map_congr_left fun x hx=>vT (hs x hx)
  rw [this,List.map_id]
end L3
namespace L2
open PySem PySem.Spec PyProof.Rows
section
variable {X:Cx}
theorem dz:rQ X "str.startswith" (fun x xs H Q=>∃ a b,x=.str a/\xs=[.str b]/\Q (.bl (Txt.startswith a b)) H):=by
 intro pins s σ H x xs v us Q I rx rv h
 obtain ⟨a,b,rfl,rfl,q⟩:=h
 obtain ⟨t,rfl⟩:=rx
 obtain ⟨u,rfl,ru⟩:=rv.one
 obtain ⟨t2,rfl⟩:=ru
 exact SC.startswith ⟨.bl _,H,I,rfl,q⟩
theorem jR:rQ X "str.partition" (fun x xs H Q=>∃ a b,x=.str a/\xs=[.str b]/\(b.length == 0)=false/\a.length<=100000/\∀ p,H p=none->Q (.ref p) (az H p (.tup [.str (L3.cc a b).1,.str (L3.cc a b).2.1,.str (L3.cc a b).2.2]))):=by
 intro pins s σ H x xs v us Q I rx rv h
 obtain ⟨a,b,rfl,rfl,h0,hl,q⟩:=h
 obtain ⟨t,rfl⟩:=rx
 obtain ⟨u,rfl,ru⟩:=rv.one
 obtain ⟨t2,rfl⟩:=ru
 have sz:(100000:Nat)<=sizeLine:=by decide
 refine call_meets F.slot_str_partition (typeIs_str _ _ _) F.entry_str_partition (F.args_str_partition_2 _ _) (meets_str_partition a b t t2 h0 (by omega)) ?_
 have q':=q s.heap.objs.size (I.hok.fresh (BG _))
 unfold L3.cc at q'
 have lay:∀ (its:List Value) (ys:List V) (tk:Nat),Vals ys its->ys.length<=sizeLine->Inv X pins σ (az H s.heap.objs.size (.tup ys)) { s with toks:=tk,heap:=s.heap.push { cls:=.type "tuple",data:=.seq its.toArray } }:=fun its ys tk r hz=>
  I.laid (t':=tk) (fun b o e=>BB _ e) (BG _) (show ObjOk X.prog X.w _ _ _ (.tup ys) from ⟨hz,its,r,TupP.new _ _⟩)
 revert q'
 cases Builtin.Str.occurrences a b 0 a.length 1 with
 | nil=>intro q';exact ⟨.ref s.heap.objs.size,_,lay _ [.str a,.str Str.empty,.str Str.empty] _ (.cons ⟨_,rfl⟩ (.cons ⟨_,rfl⟩ (.cons ⟨_,rfl⟩ .nil))) (by show 3<=sizeLine;decide),rfl,q'⟩
 | cons i r=>intro q';exact ⟨.ref s.heap.objs.size,_,lay _ [.str (Builtin.Str.strSub a 0 i),.str b,.str (Builtin.Str.strSub a (i+b.length) a.length)] _ (.cons ⟨_,rfl⟩ (.cons ⟨_,rfl⟩ (.cons ⟨_,rfl⟩ .nil))) (by show 3<=sizeLine;decide),rfl,q'⟩
theorem qp:rQ X "str.join" (fun x xs H Q=>∃ sep a ts,x=.str (S sep)/\xs=[.ref a]/\SqT X.K H a (ts.map fun t=>V.str (S t))/\(ts.map List.length).sum+ts.length*sep.length<=100000/\Q (.str (S (TK.jn sep ts))) H):=by
 intro pins s σ H x xs v us Q I rx rv h
 obtain ⟨sep,a,ts,rfl,rfl,hS,hz,q⟩:=h
 obtain ⟨t,rfl⟩:=rx
 obtain ⟨u,rfl,ru⟩:=rv.one
 cases ru
 obtain ⟨its,r,pl,hz2⟩:=I.tuple hS
 have e:(ts.map fun t=>V.str (S t))=(ts.map S).map V.str:=by rw [Cl9];rfl
 rw [e] at r
 refine join_tuple pl (ys:=ts.map S) (by simpa using dJ r) ?_ fun t' k=>?_
 ·have:((ts.map S).map (·.length)).sum=(ts.map List.length).sum:=by
   rw [Cl9]
   congr 1
  rw [this,BE,a8]
  omega
 ·rw [kz]
  exact ⟨.str (S (TK.jn sep ts)),H,I.tok _,⟨t',rfl⟩,q⟩
theorem sU {X:Cx} {K:PySem.W.Frag} {o e:Expr} {es:List Expr} {to:TE} {t:TA} {name:Str} {apos cpos:Pos} {T id:String} {r:V->List V->Hp->VK->Prop} (h:X.K=K) (pa:PlainAttrs T) (slot:Slot T name id) (hty:typeOf (.builtin id)=pure (.type "method_descriptor")) (hm:rQ X id r) (ho:PE X o to) (ha:PA X (e::es) t)
  (hbase:attributeBase o name X.env (eval o X.env)=eval o X.env:=by rfl) (hfew:((backTo cpos (starEach (e::es) X.env)).all (fun x=>!x.1) && (backToKw cpos (keywordEach [] X.env)).all (fun x=>x.1.isSome) && decide ((e::es).length+([]:List Keyword).length+(if ([]:List Keyword).isEmpty then 0 else 1) < 30))=true:=by rfl)
  (hline:(apos.endLine == cpos.line)=true:=by rfl) (hs:starEach (e::es) X.env=(false,eval e X.env)::starEach es X.env:=by rfl) (hplain:(backTo cpos (starEach es X.env)).any (·.1)=false:=by rfl):PE X (.Call (.Attribute o name apos) (e::es) [] cpos) (z1 K T r to t):=by
 subst h
 exact bV pa slot hty hm ho ha hbase hfew hline hs hplain
end
end L2
namespace L3
open PySem L2
theorem vU (l:List Nat):hg (br l)=true:=by unfold br;split<;>rfl
theorem jS (c:Nat) (x:Str):hg (bJ c x)=true:=by unfold bJ;split;exact vU _;rfl
theorem jT (c:Nat) (x:Str):hg (cO c x)=true:=by unfold cO;split<;>rfl
theorem fK (x:Str):hg (b7 x)=true:=by unfold b7;split;rfl;split<;>rfl
theorem mX:sx .non:=⟨rfl,fun _=>rfl⟩
theorem qq (ws:List Str):sx (be ws):=by
 unfold be
 split
 ·split
  ·exact yh rfl rfl (jS _ _) rfl (fK _) (fK _)
  ·exact mX
 ·split
  ·exact gK rfl rfl (jS _ _) (jT _ _)
  ·split
   ·exact gK rfl rfl (jS _ _) (jT _ _)
   ·split
    ·exact gK rfl rfl (jS _ _) (fK _)
    ·split
     ·exact gK rfl rfl (jT _ _) (fK _)
     ·split
      ·exact gK rfl rfl (jT _ _) (fK _)
      ·exact gK rfl rfl (fK _) (fK _)
 ·exact mX
theorem kS (l:List Nat):kN (br l):=by unfold br;split;exact fX _;exact ⟨rfl,rfl,fun z e=>by cases e⟩
theorem qr (c:Nat) (x:Str):kN (bJ c x):=by unfold bJ;split;exact kS _;exact ⟨rfl,rfl,fun z e=>by cases e⟩
theorem qu (l:List Nat) (z:Str):br l≠.str z:=by unfold br;split<;>(intro e;cases e)
theorem qv (c:Nat) (x z:Str):bJ c x≠.str z:=by unfold bJ;split;exact qu _ _;intro e;cases e
theorem ig {ws:List Str} (h:∀ z∈ws,(cp z).length<=1000):kN (ce ws):=by
 unfold ce
 split
 ·rename_i h0 a
  split
  ·exact ⟨rfl,rfl,fun z e=>absurd e (qv _ _ _)⟩
  ·exact ⟨rfl,rfl,fun z e=>by
    have e':Th.str a=.str z:=e
    cases e'
    exact h _ (by simp)⟩
 ·match ws with
  | []=>exact ⟨rfl,rfl,fun z e=>by cases e⟩
  | [x]=>exact ⟨rfl,rfl,fun z e=>by cases e⟩
  | x::y::r=>exact ⟨rfl,rfl,fun z e=>by
    have e':Th.str y=.str z:=e
    cases e'
    exact h _ (by simp)⟩
theorem qw {ws:List Str} (h:∀ z∈ws,(cp z).length<=1000):ye (ff ws):=by
 unfold ff
 split
 ·split
  ·exact ⟨rfl,kS _⟩
  ·exact ⟨rfl,ig fun z hz=>h z (BF _ hz)⟩
 ·split
  ·exact ⟨rfl,qr _ _⟩
  ·exact ⟨rfl,ig fun z hz=>h z (BF _ hz)⟩
 ·exact ⟨rfl,ig fun z hz=>h z (BF _ hz)⟩
 ·exact ⟨rfl,rfl,rfl,fun z e=>by cases e⟩
theorem mY {a:Nat}:∀ {l:List Nat},a∈l->a<=l.sum
 | b::l,h=>by
  rw [CM]
  rcases BH.mp h with rfl|h
  ·omega
  ·have:=mY h;omega
theorem cy (z:Str):(cp z).length=z.length:=by show z.cps.toList.length=z.cps.size;simp
theorem dA {x z:Str} {c:Nat} (h:z∈Txt.split x (S [c])):(cp z).length<=(cp x).length:=by
 have e:=StrLaws.join_split x (S [c])
 have p:=i8 c (Txt.split x (S [c]))
 have:(⟨#[c]⟩:Str)=S [c]:=rfl
 rw [this,e] at p
 have:=mY (List.mem_map_of_mem (f:=Str.length) h)
 rw [cy,cy]
 omega
theorem fM (x:Str) {sep:List Nat} (hs:sep≠[]):(Txt.split x (S sep)).length<=(cp x).length+2:=by
 rw [cC _ _ (fY hs),<-StrLaws.partsBetween_eq,PySem.length_partsBetween,cy]
 have:=StrLaws.occ_length_le_len x (S sep) 0 x.length (x.length+1)
 omega
theorem kT (x y:Str):(cp (cc x y).1).length<=(cp x).length/\(cp (cc x y).2.2).length<=(cp x).length:=by
 unfold cc
 rw [cy,cy,cy]
 split
 ·exact ⟨strSub_length_le _ _ _,strSub_length_le _ _ _⟩
 ·exact ⟨BG _,Cp _⟩
theorem kU {x:Str} (h:(cp x).length<=900):p7 (dk x):=by
 unfold dk
 split
 ·rintro ss on e
  injection e with e
  injection e with e1 e2
  injection e1 with e1
  injection e2 with e2 _
  subst e1 e2
  refine ⟨fun s hs=>(nomatch hs),qw fun z hz=>?_,Cp _⟩
  have:=dA hz
  rw [cF,B2] at this
  omega
 ·rintro ss on e
  injection e with e
  injection e with e1 e2
  injection e1 with e1
  injection e2 with e2 _
  subst e1 e2
  obtain ⟨p1,p2⟩:=kT x (S [32,58,32])
  refine ⟨fun s hs=>?_,qw fun z hz=>?_,?_⟩
  ·obtain ⟨z,_,rfl⟩:=Cn.mp hs
   exact qq _
  ·have:=dA hz
   omega
  ·rw [BE]
   have:=fM (cc x (S [32,58,32])).1 (sep:=[32,44,32]) (by simp)
   omega
end L3
namespace L3
open PySem L2
theorem gb (c:Nat) (x:Str):Txt.startswith x (S [c])=kf c x:=by
 rw [<-bn x,ia]
 unfold kf
 rw [cF]
 cases cp x with
 | nil=>simp
 | cons d l=>
  rw [Ce,decide_eq_true_iff]
  show _↔((some d == some c)=true)
  rw [beq_iff_eq]
  constructor
  ·rintro ⟨t,h⟩;exact congrArg some (BA h).1.symm
  ·intro h;cases h;exact ⟨l,rfl⟩
theorem gc (l:List Nat) (k:Nat):dI l (some (k:Int)) none=l.drop k:=by
 unfold dI
 have e1:HT.sIx l.length 0 (some (k:Int))=min k l.length:=by
  show (if (k:Int) < 0 then ((k:Int)+(l.length:Int)).toNat else min (k:Int).toNat l.length)=_
  rw [if_neg (by omega)];rfl
 have e2:HT.sIx l.length l.length none=l.length:=rfl
 rw [e1,e2]
 by_cases h:k<=l.length
 ·rw [CU h,Ck (by rw [B2];omega)]
 ·rw [Nat.min_eq_right (by omega),List.drop_eq_nil_of_le (BG _),List.drop_eq_nil_of_le (by omega),List.take_nil]
theorem sV (c:Nat):decide (c∈vR)=a9 c:=by
 rw [Ce,decide_eq_true_iff]
 unfold a9
 rw [BD,decide_eq_true_iff,decide_eq_true_iff]
 constructor
 ·intro h
  obtain ⟨k,hk,rfl⟩:=Cn.mp h
  have:=CH.mp hk
  omega
 ·exact sL c
def eO (F:Str->Th):Sp:=fun vs H Q _=>∃ x,vs=[.str x]/\(cp x).length<=900/\∀ v H',Same H H'->(∀ p,TgV p H' v (F x))->Q v H'
def ii (F:Nat->Str->Th):Sp:=fun vs H Q _=>∃ c x,vs=[.str (S [c]),.str x]/\(cp x).length<=900/\∀ v H',Same H H'->(∀ p,TgV p H' v (F c x))->Q v H'
section
variable {P:Program} {w:World} {K:PySem.W.Frag} {mg:Str->Option Value} {base:Heap}
theorem sW:aq ["token"] ["token"] (al jF):=⟨rfl,rfl,rfl,by decide +kernel,rfl,by decide +kernel,by decide +kernel⟩
set_option maxHeartbeats 1000000 in
theorem qx {f:Addr} {fd:FuncData} {tF tM:Tok} (F:Fun K "number_of" "number_of" jF f fd) (T:Bl mg) (hF:mg "FIGURES"=some (.str sK tF)) (hM:mg "MOST_FIGURES"=some (.int 9 tM)):aI P w K mg base bE 1 f fd ["token"] (eO fun x=>br (cp x)):=by
 refine F.ok sW (fun vs H Q E h=>?_) (fun cdv A outer s H vs Q E hr h=>?_)
 ·obtain ⟨x,rfl,_⟩:=h
  rfl
 ·obtain ⟨x,rfl,hx,q⟩:=h
  refine ⟨_,ak (aH (PW.pt (cM (cw (oV iK iK ad (aJ dG (by rfl) T.len B5 (aa (pv 0) ac)) (bB (v:=.int 9) rfl hM ⟨_,rfl⟩)))
    (cm (cw (aV (aJ (hE rfl) (by rfl) T.all gq (aa (fc (N':=["sign"]) (ix:=[none]) (sc0:=al jF) (N:=["token"]) rfl (by decide +kernel) (pk (pv 0))
     (fun C' cl s H fp=>bt (i:=0) yf rfl (Or.inl rfl) (.inr rfl)) (fun _ _ _ _ _=>df) (fun C' cl s H fp=>cz iM (pv 0) (bB (v:=.str sK) rfl hF ⟨_,rfl⟩) rfl)) ac))))))) (ah (am ef)) aw)
   (ak (aH (PW.pt (fg (ax bb (ap vi (pv 0) ad (fun _ _=>rfl)) af (aB _)) (dD (ax oR (aJ dG (by rfl) T.len B5 (aa (pv 0) ac)) ad (aB _))))) (ah (am ef)) aw)
   (ah (am (aY kQ (by rfl) T.int CF (aa (pv 0) ac))))),?_⟩
  have ex:=bn x
  generalize cp x=l at *
  subst ex
  have sz:(100000:Nat)<=sizeLine:=by decide
  have non:∀ H',Same H H'->ck l=false->Q .non H':=fun H' s' e=>q _ H' s' fun p=>by
   show TgV p H' .non (br l)
   unfold br;rw [e];exact .non
  refine ⟨_,rfl,S l,rfl,(by rw [a8];omega),_,_,rfl,rfl,_,rfl,?_⟩
  rw [a8]
  by_cases c1:1<=l.length
  ·refine bg (decide_eq_true (by omega)) ⟨_,_,rfl,rfl,_,rfl,?_⟩
   by_cases c2:l.length<=9
   ·rw [decide_eq_true (show ((l.length:Nat):Int)<=9 by omega)]
    refine bo ⟨_,rfl,l,rfl,?_⟩
    refine pq (fun i ys H'=>ys=(l.take i).map (fun c=>V.bl (a9 c))/\Same H H') ⟨rfl,Same.refl _⟩ (fun i ys H' hi ⟨e,_⟩=>by rw [e,BE,BZ];omega) ?_ ?_
    ·rintro i ys H' hi ⟨rfl,s'⟩
     refine ⟨trivial,dh ?_⟩
     refine ⟨_,rfl,S [l[i]],_,rfl,rfl,?_⟩
     rw [yj,mM,sV]
     refine Nx.mk hi ⟨?_,s'⟩
     rw [<-List.take_append_getElem hi,B8]
     rfl
    ·rintro ys H' ⟨rfl,s'⟩ D hD
     have s2:=s'.trans (aj (o:=.lst ((l.take l.length).map (fun c=>V.bl (a9 c)))) hD)
     refine ⟨D,l.map a9,rfl,SqL.of ?_,?_⟩
     ·rw [ae,B1,Cl9]
      rfl
     generalize az H' D (.lst ((l.take l.length).map (fun c=>V.bl (a9 c))))=H2 at *
     rw [List.all_map]
     cases ha:l.all a9 with
     | false=>
      refine ⟨_,rfl,?_⟩
      have ha':l.all (id ∘ a9)=false:=ha
      rw [ha']
      exact bY (non _ s2 (by unfold ck;rw [ha,Bool.false_and,Bool.and_false,Bool.and_false]))
     | true=>
      have ha':l.all (id ∘ a9)=true:=ha
      rw [ha']
      refine ⟨_,rfl,bo ?_⟩
      refine ⟨_,rfl,S l,0,l[0],rfl,rfl,(by rw [a8];omega),sk (i:=0) (by omega),rfl,_,rfl,?_⟩
      have fin:ck l=true->Q (.int (dj l)) H2:=fun e=>q _ _ s2 fun p=>by
       show TgV p H2 _ (br l)
       unfold br;rw [e];exact .int _
      have e0:l[0]?=some l[0]:=Cm (by omega)
      have last:ck l=true->∃ n:Nat,[V.str (S l)]=[.str (toString (n:Int):Str)]/\n < 1000000000/\Q (.int n) H2:=fun e=>by
       obtain ⟨a,b⟩:=sQ e
       exact ⟨dj l,by rw [bw,<-a],b,fin e⟩
      by_cases hz:l[0]=48
      ·refine bg (decide_eq_true (by rw [hz];decide +kernel)) ?_
       refine ⟨_,rfl,S l,rfl,(by rw [a8];omega),_,_,rfl,rfl,_,rfl,?_⟩
       rw [a8]
       by_cases hl:1 < l.length
       ·exact bg (decide_eq_true (by omega)) (non _ s2 (by unfold ck;rw [e0,hz,decide_eq_true rfl,decide_eq_true hl];simp))
       ·exact aR (decide_eq_false (by omega)) ⟨_,rfl,last (by unfold ck;rw [ha,decide_eq_true c1,decide_eq_true c2,decide_eq_false hl];simp)⟩
      ·refine aR (decide_eq_false fun e=>hz ?_) (bo ⟨_,rfl,last (by unfold ck;rw [ha,decide_eq_true c1,decide_eq_true c2,e0,decide_eq_false (by simpa using hz)];rfl)⟩)
       have e2:=V.str.inj e
       have e3:S [l[0]]=S [48]:=e2.trans (by decide +kernel)
       exact (BA (S_inj.mp e3)).1
   ·rw [decide_eq_false (show ¬ ((l.length:Nat):Int)<=9 by omega)]
    exact bY (non _ (Same.refl _) (by unfold ck;rw [decide_eq_false c2,Bool.false_and,Bool.and_false]))
  ·exact aR (decide_eq_false (by omega)) ⟨_,rfl,bY (non _ (Same.refl _) (by unfold ck;rw [decide_eq_false c1,Bool.false_and]))⟩
theorem yk:aq ["letter","word"] ["letter","word"] (al jG):=⟨rfl,rfl,rfl,by decide +kernel,rfl,by decide +kernel,by decide +kernel⟩
theorem vV {f:Addr} {fd:FuncData} (F:Fun K "number_behind" "number_behind" jG f fd) (NO:Fn P w K mg base "number_of" 1 ["token"] (eO fun x=>br (cp x))):aI P w K mg base bE 2 f fd ["letter","word"] (ii bJ):=by
 refine F.ok yk (fun vs H Q E h=>?_) (fun cdv A outer s H vs Q E hr h=>?_)
 ·obtain ⟨c,x,rfl,_⟩:=h
  rfl
 ·obtain ⟨c,x,rfl,hx,q⟩:=h
  have hr1:Room 1 _:=hr
  refine ⟨_,ah (am (dq (aV (bV BK PySem.F.slot_str_startswith PySem.F.type_str_startswith dz (pv 1) (aa (pv 0) ac))) (ao NO hr1 rfl (aa (bD gn (pv 1) (bR ad) bQ) ac)) ef)),?_⟩
  refine ⟨_,rfl,rfl,_,rfl,x,S [c],rfl,rfl,_,rfl,?_⟩
  rw [gb]
  cases hc:kf c x with
  | false=>
   refine bo (q _ _ (Same.refl _) fun p=>?_)
   unfold bJ;rw [hc];exact .non
  | true=>
   refine bY ⟨_,rfl,_,rfl,cp x,congrArg V.str (bn x).symm,by omega,S ((cp x).drop 1),congrArg (fun z=>[V.str (S z)]) (gc (cp x) 1),by rw [cF,B2];omega,fun v H' s' h=>q _ _ s' fun p=>?_⟩
   unfold bJ;rw [hc];exact h p
theorem vW:aq ["word"] ["word"] (al pS):=⟨rfl,rfl,rfl,by decide +kernel,rfl,by decide +kernel,by decide +kernel⟩
theorem sX {f:Addr} {fd:FuncData} (F:Fun K "inner_told" "inner_told" pS f fd) (NB:Fn P w K mg base "number_behind" 2 ["letter","word"] (ii bJ)):aI P w K mg base bE 3 f fd ["word"] (eO (bJ 114)):=by
 refine F.ok vW (fun vs H Q E h=>?_) (fun cdv A outer s H vs Q E hr h=>?_)
 ·obtain ⟨x,rfl,_⟩:=h
  rfl
 ·obtain ⟨x,rfl,hx,q⟩:=h
  refine ⟨_,ah (am (ao NB hr rfl (aa af (aa (pv 0) ac)))),?_⟩
  exact ⟨_,rfl,114,x,by rw [show S [114]=("r":Str) from by decide +kernel],hx,q⟩
theorem sY:aq ["letter","word"] ["letter","word"] (al ma):=⟨rfl,rfl,rfl,by decide +kernel,rfl,by decide +kernel,by decide +kernel⟩
theorem sF:S [102]=("f":Str):=by decide +kernel
theorem sR:S [114]=("r":Str):=by decide +kernel
theorem qy {f:Addr} {fd:FuncData} (F:Fun K "sel_told" "sel_told" ma f fd) (NB:Fn P w K mg base "number_behind" 2 ["letter","word"] (ii bJ)):aI P w K mg base bE 3 f fd ["letter","word"] (ii cO):=by
 refine F.ok sY (fun vs H Q E h=>?_) (fun cdv A outer s H vs Q E hr h=>?_)
 ·obtain ⟨c,x,rfl,_⟩:=h
  rfl
 ·obtain ⟨c,x,rfl,hx,q⟩:=h
  refine ⟨_,ak (aH (aV (bV BK PySem.F.slot_str_startswith PySem.F.type_str_startswith dz (pv 1) (aa af ac))) (ah (am (aC (aa af (aa (ao NB hr rfl (aa af (aa (pv 1) ac))) ac))))) aw)
   (ah (am (aC (aa af (aa (ao NB hr rfl (aa (pv 0) (aa (pv 1) ac))) ac))))),?_⟩
  refine ⟨_,rfl,rfl,x,_,rfl,rfl,_,rfl,?_⟩
  rw [<-sF,gb]
  cases hc:kf 102 x with
  | false=>
   refine bo ⟨_,rfl,_,rfl,c,x,rfl,hx,fun v H1 s1 h1=>⟨(by show 2<=sizeLine;decide),fun t nt=>?_⟩⟩
   have s2:=aj (o:=.tup [.str "is",v]) nt
   refine q _ _ (s1.trans s2) fun p=>?_
   unfold cO;rw [hc]
   exact .tup ae (.cons (.str _) (.cons ((h1 p).same s2) .nil))
  | true=>
   refine bY ⟨_,rfl,102,x,rfl,hx,fun v H1 s1 h1=>⟨(by show 2<=sizeLine;decide),fun t nt=>?_⟩⟩
   have s2:=aj (o:=.tup [.str "by",v]) nt
   refine q _ _ (s1.trans s2) fun p=>?_
   unfold cO;rw [hc]
   exact .tup ae (.cons (.str _) (.cons ((h1 p).same s2) .nil))
theorem sZ:aq ["word"] ["word"] (al md):=⟨rfl,rfl,rfl,by decide +kernel,rfl,by decide +kernel,by decide +kernel⟩
theorem qz {f:Addr} {fd:FuncData} (F:Fun K "source_told" "source_told" md f fd) (NB:Fn P w K mg base "number_behind" 2 ["letter","word"] (ii bJ)) (NO:Fn P w K mg base "number_of" 1 ["token"] (eO fun x=>br (cp x))):aI P w K mg base bE 3 f fd ["word"] (eO b7):=by
 refine F.ok sZ (fun vs H Q E h=>?_) (fun cdv A outer s H vs Q E hr h=>?_)
 ·obtain ⟨x,rfl,_⟩:=h
  rfl
 ·obtain ⟨x,rfl,hx,q⟩:=h
  have hr1:Room 1 _:=hr.mono (by decide)
  refine ⟨_,ak (aH (aV (bV BK PySem.F.slot_str_startswith PySem.F.type_str_startswith dz (pv 0) (aa af ac))) (ah (am (aC (aa af (aa (ao NB hr rfl (aa af (aa (pv 0) ac))) ac))))) aw)
   (ak (aH (aV (bV BK PySem.F.slot_str_startswith PySem.F.type_str_startswith dz (pv 0) (aa af ac))) (ah (am (aC (aa af (aa (ao NB hr rfl (aa af (aa (pv 0) ac))) ac))))) aw)
   (ah (am (aC (aa af (aa (ao NO hr1 rfl (aa (pv 0) ac)) ac)))))),?_⟩
  have fin:∀ k t v H1,Same H H1->(∀ p,TgV p H1 v t)->b7 x=.tup [.str k,t]->∀ a,H1 a=none->Q (.ref a) (az H1 a (.tup [.str k,v])):=fun k t v H1 s1 h1 e a na=>by
   have s2:=aj (o:=.tup [.str k,v]) na
   refine q _ _ (s1.trans s2) fun p=>?_
   rw [e]
   exact .tup ae (.cons (.str _) (.cons ((h1 p).same s2) .nil))
  refine ⟨_,rfl,rfl,x,_,rfl,rfl,_,rfl,?_⟩
  rw [<-sR,gb]
  cases hc:kf 114 x with
  | true=>exact bY ⟨_,rfl,114,x,rfl,hx,fun v H1 s1 h1=>⟨(by show 2<=sizeLine;decide),fin _ _ _ _ s1 h1 (by unfold b7;rw [hc];rfl)⟩⟩
  | false=>
   refine bo ⟨_,rfl,rfl,x,_,rfl,rfl,_,rfl,?_⟩
   rw [<-sF,gb]
   cases hd:kf 102 x with
   | true=>exact bY ⟨_,rfl,102,x,rfl,hx,fun v H1 s1 h1=>⟨(by show 2<=sizeLine;decide),fin _ _ _ _ s1 h1 (by unfold b7;rw [hc,hd];rfl)⟩⟩
   | false=>exact bo ⟨_,rfl,x,rfl,hx,fun v H1 s1 h1=>⟨(by show 2<=sizeLine;decide),fin _ _ _ _ s1 h1 (by unfold b7;rw [hc,hd];rfl)⟩⟩
end
end L3
namespace L3
open PySem L2
def jg (ok:List Str->Prop) (F:List Str->Th):Sp:=fun vs H Q _=>∃ a ws,vs=[.ref a]/\H a=some (.lst (ws.map V.str))/\ok ws/\(∀ z∈ws,(cp z).length<=900)/\∀ v H',Same H H'->(∀ p,TgV p H' v (F ws))->Q v H'
theorem kW (p:Addr) (H:Hp):∀ ws:List Str,TgA p H (ws.map V.str) (ws.map Th.str)
 | []=>.nil
 | x::r=>.cons (.str x) (kW p H r)
theorem tj {ws:List Str} (h:ws.length≠2):ce ws=.tup (ws.map .str):=by
 unfold ce
 split
 ·exact absurd rfl h
 ·rfl
theorem qA {h:Str} {r:List Str} (h1:¬ (h="on"/\(h::r).length=2)) (h2:¬ ((h="some"\/h="top")/\(h::r).length=4)):ff (h::r)=.tup [.str h,ce r]:=by
 unfold ff
 split
 ·rename_i e
  cases e
  rw [if_neg fun z=>h1 ⟨z,rfl⟩]
 ·rename_i e
  cases e
  rw [if_neg fun z=>h2 ⟨z,rfl⟩]
 ·rename_i e
  cases e
  rfl
 ·rename_i e
  cases e
theorem sP:S [112]=("p":Str):=by decide +kernel
theorem sM:S [109]=("m":Str):=by decide +kernel
theorem qB {ws:List Str} (h:ws.length=2):∃ a b,ws=[a,b]:=by
 match ws,h with
 | [a,b],_=>exact ⟨a,b,rfl⟩
theorem tm {ws:List Str} (h:ws.length=4):∃ a b c d,ws=[a,b,c,d]:=by
 match ws,h with
 | [a,b,c,d],_=>exact ⟨a,b,c,d,rfl⟩
theorem qC {ws:List Str} (h:ws.length=3):∃ a b c,ws=[a,b,c]:=by
 match ws,h with
 | [a,b,c],_=>exact ⟨a,b,c,rfl⟩
theorem tq {ws:List Str} (h:ws.length=5):∃ a b c d e,ws=[a,b,c,d,e]:=by
 match ws,h with
 | [a,b,c,d,e],_=>exact ⟨a,b,c,d,e,rfl⟩
theorem oy (ws:List Str):gm (ws.map V.str) (some 1) none=(ws.drop 1).map V.str:=by
 unfold gm
 rw [BE]
 have e1:HT.sIx ws.length 0 (some 1)=min 1 ws.length:=by
  show (if (1:Int) < 0 then ((1:Int)+(ws.length:Int)).toNat else min (1:Int).toNat ws.length)=_
  rw [if_neg (by decide)];rfl
 have e2:HT.sIx ws.length ws.length none=ws.length:=rfl
 rw [e1,e2]
 cases ws with
 | nil=>rfl
 | cons x r=>
  rw [Bx,CU (by omega),BR,List.drop_succ_cons,Cr,List.drop_succ_cons,Cr,Ck (by rw [BE];omega)]
section
variable {P:Program} {w:World} {K:PySem.W.Frag} {mg:Str->Option Value} {base:Heap}
theorem tw:aq ["words"] ["words"] (al l7):=⟨rfl,rfl,rfl,by decide +kernel,rfl,by decide +kernel,by decide +kernel⟩
theorem qD {f:Addr} {fd:FuncData} (F:Fun K "end_told" "end_told" l7 f fd) (B:Bl mg) (NB:Fn P w K mg base "number_behind" 2 ["letter","word"] (ii bJ)):aI P w K mg base bE 3 f fd ["words"] (jg (fun ws=>ws.length<=1000) ce):=by
 refine F.ok tw (fun vs H Q E h=>?_) (fun cdv A outer s H vs Q E hr h=>?_)
 ·obtain ⟨a,ws,rfl,_⟩:=h
  rfl
 ·obtain ⟨a,ws,rfl,e,hm,hw,q⟩:=h
  refine ⟨_,ak (aH (PW.pt (fg (ax bb (aJ bc (by rfl) B.len B5 (aa (pv 0) ac)) ad (aB _)) (dD (ax cx (ap ay (pv 0) ad (fun _ _=>rfl)) (aC (aa af (aa af ac))) rfl))))
    (ah (am (aC (aa (ap ay (pv 0) ad (fun _ _=>rfl)) (aa (ao NB hr rfl (aa af (aa (ap ay (pv 0) ad (fun _ _=>rfl)) ac))) ac))))) aw)
   (ah (am (aY cb (by rfl) B.tuple bh (aa (pv 0) ac)))),?_⟩
  have fin:∀ H1,Same H H1->ce ws=.tup (ws.map .str)->∃ p ys,[V.ref a]=[.ref p]/\((SqL K H1 p ys/\∀ l,H1 l=none->Q (.ref l) (az H1 l (.tup ys)))\/(SqT K H1 p ys/\Q (.ref p) H1)):=fun H1 s1 ee=>by
   refine ⟨a,_,rfl,.inl ⟨SqL.of (s1 _ _ e),fun l nl=>?_⟩⟩
   refine q _ _ (s1.trans (aj nl)) fun p=>?_
   rw [ee]
   exact .tup ae (kW _ _ _)
  refine ⟨_,rfl,a,_,rfl,.inl (SqL.of e),rfl,_,rfl,?_⟩
  rw [BE,dint]
  by_cases h2:ws.length=2
  ·refine bg (decide_eq_true (by omega)) ?_
   obtain ⟨h,x,rfl⟩:=qB h2
   refine ⟨_,rfl,a,_,_,_,rfl,rfl,SqL.of e,rfl,(by show 2<=sizeLine;decide),fun t nt=>?_⟩
   have s1:=aj (o:=.tup [.str "go",.str "call"]) nt
   have e1:(az H t (.tup [.str "go",.str "call"])) t=some (.tup ((["go","call"]:List Str).map V.str)):=ae
   generalize az H t (.tup [V.str "go",.str "call"])=H1 at *
   refine ⟨t,_,rfl,.inr (SqT.of e1),rfl,by decide +kernel,_,rfl,?_⟩
   rw [bZ]
   by_cases hh:h="go"\/h="call"
   ·refine bg (by rcases hh with rfl|rfl<;>decide +kernel) ?_
    refine ⟨_,rfl,a,_,_,_,rfl,rfl,SqL.of (s1 _ _ e),rfl,_,rfl,a,_,_,_,rfl,rfl,SqL.of (s1 _ _ e),rfl,102,x,by rw [sF],hw x (by simp),fun v H2 s2 h2=>⟨(by show 2<=sizeLine;decide),fun t2 nt2=>?_⟩⟩
    have s3:=aj (o:=.tup [.str h,v]) nt2
    refine q _ _ ((s1.trans s2).trans s3) fun p=>?_
    unfold ce
    dsimp only
    rw [if_pos hh]
    exact .tup ae (.cons (.str _) (.cons ((h2 p).same s3) .nil))
   ·refine aR ?_ ⟨_,rfl,fin _ s1 (by unfold ce;dsimp only;rw [if_neg hh];rfl)⟩
    rw [BC]
    intro z
    exact hh (by simpa using z)
  ·exact aR (decide_eq_false (by omega)) (bo ⟨_,rfl,fin _ (Same.refl _) (tj h2)⟩)
theorem scOnTo:aq ["words","head"] ["words"] (al pR):=⟨rfl,rfl,rfl,by decide +kernel,rfl,by decide +kernel,by decide +kernel⟩
set_option maxHeartbeats 1000000 in
theorem tD {f:Addr} {fd:FuncData} (F:Fun K "on_told" "on_told" pR f fd) (B:Bl mg) (NO:Fn P w K mg base "number_of" 1 ["token"] (eO fun x=>br (cp x))) (IT:Fn P w K mg base "inner_told" 3 ["word"] (eO (bJ 114))) (ET:Fn P w K mg base "end_told" 3 ["words"] (jg (fun ws=>ws.length<=1000) ce)):aI P w K mg base bE 4 f fd ["words"] (jg (fun ws=>ws≠[]/\ws.length<=1000) ff):=by
 refine F.ok scOnTo (fun vs H Q E h=>?_) (fun cdv A outer s H vs Q E hr h=>?_)
 ·obtain ⟨a,ws,rfl,_⟩:=h
  rfl
 ·obtain ⟨a,ws,rfl,e,⟨h0,hm⟩,hw,q⟩:=h
  have hr1:Room 1 _:=hr.mono (by decide)
  obtain ⟨h,r,rfl⟩:∃ h r,ws=h::r:=by
   cases ws with
   | nil=>exact absurd rfl h0
   | cons h r=>exact ⟨h,r,rfl⟩
  refine ⟨_,ak (a6 (i:=1) scOnTo.nd rfl (Or.inl rfl) (ap ay (pv 0) ad (fun _ _=>rfl)))
   (fV (fun σ H'=>σ=[some (.ref a),some (.str h)]/\Same H H'/\¬ (h="on"/\(h::r).length=2)) (aH (PW.pt (fg (ax bb (pv 1) af (aB _)) (dD (ax bb (aJ bc (by rfl) B.len B5 (aa (pv 0) ac)) ad (aB _)))))
    (ah (am (aC (aa (pv 1) (aa (ao NO hr1 rfl (aa (ap ay (pv 0) ad (fun _ _=>rfl)) ac)) ac))))) aw)
   (fV (fun σ H'=>σ=[some (.ref a),some (.str h)]/\Same H H'/\ff (h::r)=.tup [.str h,ce r]) (aH (PW.pt (fg (ax cx (pv 1) (aC (aa af (aa af ac))) rfl) (dD (ax bb (aJ bc (by rfl) B.len B5 (aa (pv 0) ac)) ad (aB _)))))
    (ah (am (aC (aa (pv 1) (aa (ao IT hr rfl (aa (ap ay (pv 0) ad (fun _ _=>rfl)) ac)) (aa (ao NO hr1 rfl (aa (ap ay (pv 0) ad (fun _ _=>rfl)) ac)) (aa (ao NO hr1 rfl (aa (ap ay (pv 0) ad (fun _ _=>rfl)) ac)) ac))))))) aw)
   (ah (am (aC (aa (pv 1) (aa (ao ET hr rfl (aa (bD dF (pv 0) (bR ad) bQ) ac)) ac))))))),?_⟩
  refine ⟨_,rfl,a,_,_,.str h,rfl,rfl,SqL.of e,at0 _ _,?_⟩
  refine ⟨?_,?_⟩
  ·rintro σ' H1 ⟨rfl,s1,n1⟩
   have e1:=s1 _ _ e
   refine ⟨?_,?_⟩
   ·rintro σ' H2 ⟨rfl,s2,ee⟩
    have e2:=s2 _ _ e
    refine ⟨_,rfl,_,rfl,_,rfl,a,_,rfl,SqL.of e2,fun l nl=>?_⟩
    rw [oy]
    have s3:=aj (o:=.lst (((h::r).drop 1).map V.str)) nl
    have e3:(az H2 l (.lst (((h::r).drop 1).map V.str))) l=some (.lst (r.map V.str)):=ae
    generalize az H2 l (.lst (((h::r).drop 1).map V.str))=H3 at *
    refine ⟨l,r,rfl,e3,by have:r.length+1<=1000:=hm;omega,fun z hz=>hw z (BF _ hz),fun v H4 s4 h4=>⟨(by show 2<=sizeLine;decide),fun t nt=>?_⟩⟩
    have s5:=aj (o:=.tup [.str h,v]) nt
    refine q _ _ (((s2.trans s3).trans s4).trans s5) fun p=>?_
    rw [ee]
    exact .tup ae (.cons (.str _) (.cons ((h4 p).same s5) .nil))
   ·refine ⟨_,rfl,(by show 2<=sizeLine;decide),fun t nt=>?_⟩
    have s2:=aj (o:=.tup [.str "some",.str "top"]) nt
    have e2:(az H1 t (.tup [.str "some",.str "top"])) t=some (.tup ((["some","top"]:List Str).map V.str)):=ae
    generalize az H1 t (.tup [V.str "some",.str "top"])=H2 at *
    refine ⟨t,_,rfl,.inr (SqT.of e2),rfl,by decide +kernel,_,rfl,?_⟩
    rw [bZ]
    by_cases hh:h="some"\/h="top"
    ·refine bg (by rcases hh with rfl|rfl<;>decide +kernel) ⟨_,rfl,a,_,rfl,.inl (SqL.of (s2 _ _ e1)),rfl,_,rfl,?_⟩
     rw [BE,dint]
     by_cases h4:(h::r).length=4
     ·refine bg (decide_eq_true (by omega)) ?_
      obtain ⟨_,x,y,z,ex⟩:=tm h4
      cases ex
      have e2:=s2 _ _ e1
      refine ⟨_,rfl,_,rfl,a,_,_,_,rfl,rfl,SqL.of e2,rfl,x,rfl,hw x (by simp),fun v3 H3 s3 h3=>?_⟩
      refine ⟨_,rfl,a,_,_,_,rfl,rfl,SqL.of (s3 _ _ e2),rfl,y,rfl,hw y (by simp),fun v4 H4 s4 h4=>?_⟩
      refine ⟨_,rfl,a,_,_,_,rfl,rfl,SqL.of ((s3.trans s4) _ _ e2),rfl,z,rfl,hw z (by simp),fun v5 H5 s5 h5=>⟨(by show 4<=sizeLine;decide),fun t6 nt6=>?_⟩⟩
      have s6:=aj (o:=.tup [.str h,v3,v4,v5]) nt6
      refine q _ _ (((((s1.trans s2).trans s3).trans s4).trans s5).trans s6) fun p=>?_
      unfold ff
      dsimp only
      rw [if_pos hh]
      exact .tup ae (.cons (.str _) (.cons ((h3 p).same ((s4.trans s5).trans s6)) (.cons ((h4 p).same (s5.trans s6)) (.cons ((h5 p).same s6) .nil))))
     ·refine aR (decide_eq_false (by omega)) ⟨rfl,s1.trans s2,?_⟩
      exact qA n1 (fun z=>h4 z.2)
    ·refine aR ?_ (bo ⟨rfl,s1.trans s2,qA n1 (fun z=>hh z.1)⟩)
     rw [BC]
     intro z
     exact hh (by simpa using z)
  ·refine ⟨_,rfl,rfl,_,rfl,?_⟩
   rw [dstr]
   by_cases hh:h="on"
   ·refine bg (decide_eq_true hh) ⟨_,rfl,a,_,rfl,.inl (SqL.of e),rfl,_,rfl,?_⟩
    rw [BE,dint]
    by_cases h2:(h::r).length=2
    ·refine bg (decide_eq_true (by omega)) ?_
     obtain ⟨_,x,ex⟩:=qB h2
     cases ex
     refine ⟨_,rfl,_,rfl,a,_,_,_,rfl,rfl,SqL.of e,rfl,x,rfl,hw x (by simp),fun v3 H3 s3 h3=>⟨(by show 2<=sizeLine;decide),fun t6 nt6=>?_⟩⟩
     have s6:=aj (o:=.tup [.str h,v3]) nt6
     refine q _ _ (s3.trans s6) fun p=>?_
     unfold ff
     dsimp only
     rw [if_pos hh]
     exact .tup ae (.cons (.str _) (.cons ((h3 p).same s6) .nil))
    ·exact aR (decide_eq_false (by omega)) ⟨rfl,Same.refl _,fun z=>h2 z.2⟩
   ·exact aR (decide_eq_false hh) (bo ⟨rfl,Same.refl _,fun z=>hh z.1⟩)
end
end L3
namespace L3
open PySem L2
theorem qE {ws:List Str} (h1:¬ (ws.head?=some "two"/\ws.length=5)) (h2:ws.length≠3):be ws=.non:=by
 unfold be
 split
 ·rename_i h a b c d
  rw [if_neg fun z=>h1 ⟨congrArg some z,rfl⟩]
 ·exact absurd rfl h2
 ·rfl
theorem TgA.snoc {p:Addr} {H:Hp} {vs:List V} {ts:List Th} {v:V} {t:Th} (h:TgA p H vs ts) (x:TgV p H v t):TgA p H (vs++[v]) (ts++[t]):=h.app (.cons x .nil)
section
variable {P:Program} {w:World} {K:PySem.W.Frag} {mg:Str->Option Value} {base:Heap}
theorem scStepT:aq ["words","head"] ["words"] (al l6):=⟨rfl,rfl,rfl,by decide +kernel,rfl,by decide +kernel,by decide +kernel⟩
set_option maxHeartbeats 2000000 in
theorem qF {f:Addr} {fd:FuncData} (F:Fun K "step_told" "step_told" l6 f fd) (B:Bl mg) (IT:Fn P w K mg base "inner_told" 3 ["word"] (eO (bJ 114))) (SE:Fn P w K mg base "sel_told" 3 ["letter","word"] (ii cO)) (SO:Fn P w K mg base "source_told" 3 ["word"] (eO b7)):aI P w K mg base bE 4 f fd ["words"] (jg (fun ws=>ws≠[]/\ws.length<=1000) be):=by
 refine F.ok scStepT (fun vs H Q E h=>?_) (fun cdv A outer s H vs Q E hr h=>?_)
 ·obtain ⟨a,ws,rfl,_⟩:=h
  rfl
 ·obtain ⟨a,ws,rfl,e,⟨h0,hm⟩,hw,q⟩:=h
  obtain ⟨h,r,rfl⟩:∃ h r,ws=h::r:=by
   cases ws with
   | nil=>exact absurd rfl h0
   | cons h r=>exact ⟨h,r,rfl⟩
  refine ⟨_,ak (a6 (i:=1) scStepT.nd rfl (Or.inl rfl) (ap ay (pv 0) ad (fun _ _=>rfl)))
   (fV (fun σ H'=>σ=[some (.ref a),some (.str h)]/\H'=H/\¬ (h="two"/\(h::r).length=5)) (aH (PW.pt (fg (ax bb (pv 1) af (aB _)) (dD (ax bb (aJ bc (by rfl) B.len B5 (aa (pv 0) ac)) ad (aB _)))))
    (ah (am (aC (aa (pv 1) (aa (ao IT hr rfl (aa (ap ay (pv 0) ad (fun _ _=>rfl)) ac)) (aa (ap ay (pv 0) ad (fun _ _=>rfl)) (aa (ao SO hr rfl (aa (ap ay (pv 0) ad (fun _ _=>rfl)) ac)) (aa (ao SO hr rfl (aa (ap ay (pv 0) ad (fun _ _=>rfl)) ac)) ac)))))))) aw)
   (ak (aH (ax km (aJ bc (by rfl) B.len B5 (aa (pv 0) ac)) ad (aB _)) (ah (am ef)) aw)
   (ak (aH (ax bb (pv 1) af (aB _)) (ah (am (aC (aa (pv 1) (aa (ao IT hr rfl (aa (ap ay (pv 0) ad (fun _ _=>rfl)) ac)) (aa (ao SE hr rfl (aa af (aa (ap ay (pv 0) ad (fun _ _=>rfl)) ac))) ac)))))) aw)
   (ak (aH (ax bb (pv 1) af (aB _)) (ah (am (aC (aa (pv 1) (aa (ao IT hr rfl (aa (ap ay (pv 0) ad (fun _ _=>rfl)) ac)) (aa (ao SE hr rfl (aa af (aa (ap ay (pv 0) ad (fun _ _=>rfl)) ac))) ac)))))) aw)
   (ak (aH (ax bb (pv 1) af (aB _)) (ah (am (aC (aa (pv 1) (aa (ao IT hr rfl (aa (ap ay (pv 0) ad (fun _ _=>rfl)) ac)) (aa (ao SO hr rfl (aa (ap ay (pv 0) ad (fun _ _=>rfl)) ac)) ac)))))) aw)
   (ak (aH (ax bb (pv 1) af (aB _)) (ah (am (aC (aa (pv 1) (aa (ao SE hr rfl (aa af (aa (ap ay (pv 0) ad (fun _ _=>rfl)) ac))) (aa (ao SO hr rfl (aa (ap ay (pv 0) ad (fun _ _=>rfl)) ac)) ac)))))) aw)
   (ak (aH (ax bb (pv 1) af (aB _)) (ah (am (aC (aa (pv 1) (aa (ao SE hr rfl (aa af (aa (ap ay (pv 0) ad (fun _ _=>rfl)) ac))) (aa (ao SO hr rfl (aa (ap ay (pv 0) ad (fun _ _=>rfl)) ac)) ac)))))) aw)
   (ah (am (aC (aa (pv 1) (aa (ao SO hr rfl (aa (ap ay (pv 0) ad (fun _ _=>rfl)) ac)) (aa (ao SO hr rfl (aa (ap ay (pv 0) ad (fun _ _=>rfl)) ac)) ac))))))))))))),?_⟩
  have fin:∀ {t1 t2:Th} {v1 v2:V} {H1 H2:Hp} {k:Str},be (h::r)=.tup [.str k,t1,t2]->Same H H1->Same H1 H2->(∀ p,TgV p H1 v1 t1)->(∀ p,TgV p H2 v2 t2)->∀ t,H2 t=none->Q (.ref t) (az H2 t (.tup [.str k,v1,v2])):=fun {t1 t2 v1 v2 H1 H2 k} ee s1 s2 h1 h2 t nt=>by
   have s3:=aj (o:=.tup [.str k,v1,v2]) nt
   refine q _ _ ((s1.trans s2).trans s3) fun p=>?_
   rw [ee]
   exact .tup ae (.cons (.str _) (.cons ((h1 p).same (s2.trans s3)) (.cons ((h2 p).same s3) .nil)))
  refine ⟨_,rfl,a,_,_,.str h,rfl,rfl,SqL.of e,at0 _ _,?_⟩
  refine ⟨?_,?_⟩
  ·rintro σ' H1 ⟨rfl,rfl,n1⟩
   refine ⟨_,rfl,a,_,rfl,.inl (SqL.of e),rfl,_,rfl,?_⟩
   rw [BE,dint]
   by_cases h3:(h::r).length=3
   ·refine aR (by rw [decide_eq_true (by omega)];rfl) ?_
    obtain ⟨_,x,y,ex⟩:=qC h3
    cases ex
    have hx:=hw x (by simp)
    have hy:=hw y (by simp)
    refine ⟨_,rfl,rfl,_,rfl,?_⟩
    rw [dstr]
    by_cases g0:h="get"
    ·exact bg (decide_eq_true g0) ⟨_,rfl,_,rfl,a,_,_,_,rfl,rfl,SqL.of e,rfl,x,rfl,hx,fun v1 H1 s1 h1=>⟨_,rfl,a,_,_,_,rfl,rfl,SqL.of (s1 _ _ e),rfl,112,y,by rw [sP],hy,fun v2 H2 s2 h2=>⟨(by show 3<=sizeLine;decide),fin (by unfold be;dsimp only;rw [if_pos g0]) s1 s2 h1 h2⟩⟩⟩
    refine aR (decide_eq_false g0) ?_
    refine ⟨_,rfl,rfl,_,rfl,?_⟩
    rw [dstr]
    by_cases g1:h="ask"
    ·exact bg (decide_eq_true g1) ⟨_,rfl,_,rfl,a,_,_,_,rfl,rfl,SqL.of e,rfl,x,rfl,hx,fun v1 H1 s1 h1=>⟨_,rfl,a,_,_,_,rfl,rfl,SqL.of (s1 _ _ e),rfl,109,y,by rw [sM],hy,fun v2 H2 s2 h2=>⟨(by show 3<=sizeLine;decide),fin (by unfold be;dsimp only;rw [if_neg g0,if_pos g1]) s1 s2 h1 h2⟩⟩⟩
    refine aR (decide_eq_false g1) ?_
    refine ⟨_,rfl,rfl,_,rfl,?_⟩
    rw [dstr]
    by_cases g2:h="cell"
    ·exact bg (decide_eq_true g2) ⟨_,rfl,_,rfl,a,_,_,_,rfl,rfl,SqL.of e,rfl,x,rfl,hx,fun v1 H1 s1 h1=>⟨_,rfl,a,_,_,_,rfl,rfl,SqL.of (s1 _ _ e),rfl,y,rfl,hy,fun v2 H2 s2 h2=>⟨(by show 3<=sizeLine;decide),fin (by unfold be;dsimp only;rw [if_neg g0,if_neg g1,if_pos g2]) s1 s2 h1 h2⟩⟩⟩
    refine aR (decide_eq_false g2) ?_
    refine ⟨_,rfl,rfl,_,rfl,?_⟩
    rw [dstr]
    by_cases g3:h="put"
    ·exact bg (decide_eq_true g3) ⟨_,rfl,_,rfl,a,_,_,_,rfl,rfl,SqL.of e,rfl,112,x,by rw [sP],hx,fun v1 H1 s1 h1=>⟨_,rfl,a,_,_,_,rfl,rfl,SqL.of (s1 _ _ e),rfl,y,rfl,hy,fun v2 H2 s2 h2=>⟨(by show 3<=sizeLine;decide),fin (by unfold be;dsimp only;rw [if_neg g0,if_neg g1,if_neg g2,if_pos g3]) s1 s2 h1 h2⟩⟩⟩
    refine aR (decide_eq_false g3) ?_
    refine ⟨_,rfl,rfl,_,rfl,?_⟩
    rw [dstr]
    by_cases g4:h="tell"
    ·exact bg (decide_eq_true g4) ⟨_,rfl,_,rfl,a,_,_,_,rfl,rfl,SqL.of e,rfl,109,x,by rw [sM],hx,fun v1 H1 s1 h1=>⟨_,rfl,a,_,_,_,rfl,rfl,SqL.of (s1 _ _ e),rfl,y,rfl,hy,fun v2 H2 s2 h2=>⟨(by show 3<=sizeLine;decide),fin (by unfold be;dsimp only;rw [if_neg g0,if_neg g1,if_neg g2,if_neg g3,if_pos g4]) s1 s2 h1 h2⟩⟩⟩
    refine aR (decide_eq_false g4) ?_
    exact ⟨_,rfl,_,rfl,a,_,_,_,rfl,rfl,SqL.of e,rfl,x,rfl,hx,fun v1 H1 s1 h1=>⟨_,rfl,a,_,_,_,rfl,rfl,SqL.of (s1 _ _ e),rfl,y,rfl,hy,fun v2 H2 s2 h2=>⟨(by show 3<=sizeLine;decide),fin (by unfold be;dsimp only;rw [if_neg g0,if_neg g1,if_neg g2,if_neg g3,if_neg g4]) s1 s2 h1 h2⟩⟩⟩
   ·refine bg (by rw [decide_eq_false (by omega)];rfl) (q _ _ (Same.refl _) fun p=>?_)
    rw [qE (fun z=>n1 ⟨by simpa using z.1,z.2⟩) h3]
    exact .non
  ·refine ⟨_,rfl,rfl,_,rfl,?_⟩
   rw [dstr]
   by_cases hh:h="two"
   ·refine bg (decide_eq_true hh) ⟨_,rfl,a,_,rfl,.inl (SqL.of e),rfl,_,rfl,?_⟩
    rw [BE,dint]
    by_cases h5:(h::r).length=5
    ·refine bg (decide_eq_true (by omega)) ?_
     obtain ⟨_,x,y,z,u,ex⟩:=tq h5
     cases ex
     refine ⟨_,rfl,_,rfl,a,_,_,_,rfl,rfl,SqL.of e,rfl,x,rfl,hw x (by simp),fun v1 H1 s1 h1=>?_⟩
     refine ⟨_,rfl,a,_,_,_,rfl,rfl,SqL.of (s1 _ _ e),rfl,?_⟩
     refine ⟨_,rfl,a,_,_,_,rfl,rfl,SqL.of (s1 _ _ e),rfl,z,rfl,hw z (by simp),fun v2 H2 s2 h2=>?_⟩
     refine ⟨_,rfl,a,_,_,_,rfl,rfl,SqL.of ((s1.trans s2) _ _ e),rfl,u,rfl,hw u (by simp),fun v3 H3 s3 h3=>⟨(by show 5<=sizeLine;decide),fun t nt=>?_⟩⟩
     have s4:=aj (o:=.tup [.str h,v1,.str y,v2,v3]) nt
     refine q _ _ (((s1.trans s2).trans s3).trans s4) fun p=>?_
     unfold be
     dsimp only
     rw [if_pos hh]
     exact .tup ae (.cons (.str _) (.cons ((h1 p).same ((s2.trans s3).trans s4)) (.cons (.str _) (.cons ((h2 p).same (s3.trans s4)) (.cons ((h3 p).same s4) .nil)))))
    ·exact aR (decide_eq_false (by omega)) ⟨rfl,rfl,fun z=>h5 z.2⟩
   ·exact aR (decide_eq_false hh) (bo ⟨rfl,rfl,fun z=>hh z.1⟩)
theorem ij (x y:Str):Txt.split x y≠[]:=by
 unfold Txt.split
 split
 ·simp
 ·split
  ·simp
  ·rw [StrLaws.partsBetween_eq]
   obtain ⟨p,r,e⟩:=StrLaws.partsFrom_ne x y.length 0 (Builtin.Str.occurrences x y 0 x.length (x.length+1))
   rw [e];simp
theorem mo {x:Str} {sep:List Nat} (hs:sep≠[]) {z:Str} (h:z∈Txt.split x (S sep)):(cp z).length<=(cp x).length:=by
 rw [cC _ _ (fY hs)] at h
 generalize Builtin.Str.occurrences x (S sep) 0 x.length (x.length+1)=c at h
 rw [cy,cy]
 suffices H:∀ (c:List Nat) (a:Nat),z∈StrLaws.partsFrom x (S sep).length a c->z.length<=x.length from H c 0 h
 intro c
 induction c with
 | nil=>
  intro a h
  have h':z∈[Builtin.Str.strSub x a x.length]:=h
  rw [Ch.mp h']
  exact strSub_length_le _ _ _
 | cons b r ih=>
  intro a h
  have h':z∈Builtin.Str.strSub x a b::StrLaws.partsFrom x (S sep).length (b+(S sep).length) r:=h
  rcases BH.mp h' with rfl|h'
  ·exact strSub_length_le _ _ _
  ·exact ih _ h'
theorem ge:(" ":Str)=S [32]:=by decide +kernel
theorem yl:(" : ":Str)=S [32,58,32]:=by decide +kernel
theorem vX:(" , ":Str)=S [32,44,32]:=by decide +kernel
theorem ym:(": ":Str)=S [58,32]:=by decide +kernel
theorem scLitT:aq ["text","steps","colon","on"] ["text"] (al mW):=⟨rfl,rfl,rfl,by decide +kernel,rfl,by decide +kernel,by decide +kernel⟩
theorem yn:(["step"]:List Str).Nodup:=by decide +kernel
set_option maxHeartbeats 2000000 in
theorem tE {f:Addr} {fd:FuncData} (F:Fun K "little_told" "little_told" mW f fd) (B:Bl mg) (ON:Fn P w K mg base "on_told" 4 ["words"] (jg (fun ws=>ws≠[]/\ws.length<=1000) ff)) (ST:Fn P w K mg base "step_told" 4 ["words"] (jg (fun ws=>ws≠[]/\ws.length<=1000) be)):aI P w K mg base bE 5 f fd ["text"] (eO dk):=by
 refine F.ok scLitT (fun vs H Q E h=>?_) (fun cdv A outer s H vs Q E hr h=>?_)
 ·obtain ⟨x,rfl,_⟩:=h
  rfl
 ·obtain ⟨x,rfl,hx,q⟩:=h
  refine ⟨_,ak (aH (aV (bV BK PySem.F.slot_str_startswith PySem.F.type_str_startswith dz (pv 0) (aa af ac)))
    (ah (am (aC (aa (aC ac) (aa (ao ON hr rfl (aa (bV BK PySem.F.slot_str_split PySem.F.type_str_split dv (bD gn (pv 0) (bR ad) bQ) (aa af ac)) ac)) ac))))) aw)
   (ak (gW (bV BK PySem.F.slot_str_partition PySem.F.type_str_partition jR (pv 0) (aa af ac)) (oJ rfl (eg (bt (i:=1) scLitT.nd rfl (Or.inl rfl)) (eg (bt (i:=2) scLitT.nd rfl (Or.inl rfl)) (eg (bt (i:=3) scLitT.nd rfl (Or.inl rfl)) mC)))))
   (ah (am (aC (aa (aY cb (by rfl) B.tuple bh (aa (fc (N':=["step"]) (ix:=[none]) (sc0:=al mW) (N:=["text","steps","colon","on"]) rfl (by decide +kernel) (rF (bV BK PySem.F.slot_str_split PySem.F.type_str_split dv (pv 1) (aa af ac)))
     (fun C' cl s H fp=>bt (i:=0) yn rfl (Or.inl rfl) (.inr rfl)) (fun _ _ _ _ _=>df) (fun C' cl s H fp=>ao ST hr rfl (aa (sU (K:=K) rfl BK PySem.F.slot_str_split PySem.F.type_str_split dv (pv 0) (aa af ac)) ac))) ac))
    (aa (ao ON hr rfl (aa (bV BK PySem.F.slot_str_split PySem.F.type_str_split dv (pv 3) (aa af ac)) ac)) ac)))))),?_⟩
  have nb:((" ":Str).length == 0)=false:=by decide +kernel
  have sz:(100000:Nat)<=sizeLine:=by decide
  have wl:∀ y:Str,(cp y).length<=(cp x).length->Txt.split y (S [32])≠[]/\(Txt.split y (S [32])).length<=1000:=fun y hy=>⟨ij _ _,by
   have:=fM y (sep:=[32]) (by simp)
   omega⟩
  refine ⟨_,rfl,rfl,x,_,rfl,rfl,_,rfl,?_⟩
  rw [ym]
  have est:Txt.startswith x (S [58,32])=decide ([58,32] <+: cp x):=by
   have:=ia (cp x) [58,32]
   rw [bn] at this
   exact this
  rw [est]
  cases hst:decide ([58,32] <+: cp x) with
  | true=>
   refine bY ⟨(by show 0<=sizeLine;decide),fun t0 n0=>?_⟩
   have s0:=aj (o:=.tup []) n0
   have e0:(az H t0 (.tup [])) t0=some (.tup []):=ae
   generalize az H t0 (.tup [])=H0 at *
   refine ⟨_,rfl,_,rfl,cp x,congrArg V.str (bn x).symm,by omega,rfl,_,_,rfl,rfl,nb,by rw [a8];exact BN (pz _ _ _) (by omega),fun l nl=>?_⟩
   rw [show dI (cp x) (some 2) none=(cp x).drop 2 from gc (cp x) 2,ge]
   have s1:=aj (o:=.lst ((Txt.split (S ((cp x).drop 2)) (S [32])).map V.str)) nl
   have e1:(az H0 l (.lst ((Txt.split (S ((cp x).drop 2)) (S [32])).map V.str))) l=some (.lst ((Txt.split (S ((cp x).drop 2)) (S [32])).map V.str)):=ae
   generalize az H0 l (.lst ((Txt.split (S ((cp x).drop 2)) (S [32])).map V.str))=H1 at *
   have hl:(cp (S ((cp x).drop 2))).length<=(cp x).length:=by rw [cF,B2];omega
   refine ⟨l,_,rfl,e1,wl _ hl,fun z hz=>BN (dA hz) (by omega),fun v H2 s2 h2=>⟨(by show 2<=sizeLine;decide),fun t nt=>?_⟩⟩
   have s3:=aj (o:=.tup [.ref t0,v]) nt
   refine q _ _ (((s0.trans s1).trans s2).trans s3) fun p=>?_
   unfold dk
   rw [hst]
   exact .tup ae (.cons (.tup (((s1.trans s2).trans s3) _ _ e0) .nil) (.cons ((h2 p).same s3) .nil))
  | false=>
   refine bo ⟨_,rfl,rfl,x,_,rfl,rfl,by decide +kernel,by rw [<-cy];omega,fun t0 n0=>?_⟩
   rw [yl]
   obtain ⟨pl1,pl2⟩:=kT x (S [32,58,32])
   have fin:∀ v H',Same H H'->(∀ p,TgV p H' v (.tup [.tup ((Txt.split (cc x (S [32,58,32])).1 (S [32,44,32])).map fun z=>be (Txt.split z (S [32]))),ff (Txt.split (cc x (S [32,58,32])).2.2 (S [32]))]))->Q v H':=fun v H' s' h=>q v H' s' fun p=>by
    unfold dk
    rw [hst]
    exact h p
   generalize cc x (S [32,58,32])=pp at *
   obtain ⟨y,c,o⟩:=pp
   have s0:=aj (o:=.tup [.str y,.str c,.str o]) n0
   have e0:(az H t0 (.tup [.str y,.str c,.str o])) t0=some (.tup [.str y,.str c,.str o]):=ae
   generalize az H t0 (.tup [.str y,.str c,.str o])=H0 at *
   refine ⟨t0,_,rfl,SqT.of e0,rfl,_,_,rfl,_,_,rfl,_,_,rfl,rfl,?_⟩
   refine ⟨_,rfl,rfl,y,_,rfl,rfl,by decide +kernel,by rw [<-cy];exact BN pl1 (by omega),fun l nl=>?_⟩
   rw [vX]
   have zl:∀ z∈Txt.split y (S [32,44,32]),(cp z).length<=(cp x).length:=fun z hz=>BN (mo (by simp) hz) pl1
   have zm:(Txt.split y (S [32,44,32])).length<=1000:=by
    have:=fM y (sep:=[32,44,32]) (by simp)
    have:(cp y).length<=(cp x).length:=pl1
    omega
   generalize Txt.split y (S [32,44,32])=zs at *
   have s1:=aj (o:=.lst (zs.map V.str)) nl
   have e1:(az H0 l (.lst (zs.map V.str))) l=some (.lst (zs.map V.str)):=ae
   generalize az H0 l (.lst (zs.map V.str))=H1 at *
   refine ⟨l,rfl,⟨_,SqL.of e1⟩,?_⟩
   refine rV (K:=K) (a:=l) (xs:=zs.map V.str) (fun i ys H'=>Same H1 H'/\ys.length=i/\∀ p,TgA p H' ys ((zs.take i).map fun z=>be (Txt.split z (S [32])))) ⟨Same.refl _,rfl,fun p=>.nil⟩ (fun i ys H' hi ⟨s',e',_⟩=>⟨SqL.of (s' _ _ e1),by rw [BE] at hi;omega⟩) ?_ ?_
   ·rintro i z ys H2 hz ⟨s2,hl3,tg⟩
    rw [Cw] at hz
    cases hzz:zs[i]? with
    | none=>rw [hzz] at hz;cases hz
    | some z'=>
     rw [hzz] at hz
     cases hz
     have hlt:i < zs.length:=(BM.mp hzz).1
     have hm:=zl z' (B7 hzz)
     refine ⟨trivial,dh ⟨_,rfl,rfl,z',_,rfl,rfl,nb,by rw [<-cy];omega,fun l2 nl2=>?_⟩⟩
     rw [ge]
     have s3:=aj (o:=.lst ((Txt.split z' (S [32])).map V.str)) nl2
     have e3:(az H2 l2 (.lst ((Txt.split z' (S [32])).map V.str))) l2=some (.lst ((Txt.split z' (S [32])).map V.str)):=ae
     generalize az H2 l2 (.lst ((Txt.split z' (S [32])).map V.str))=H3 at *
     refine ⟨l2,_,rfl,e3,wl _ hm,fun u hu=>BN (dA hu) (by omega),fun v H4 s4 h4=>Nx.mk (by rw [BE];exact hlt) ⟨(s2.trans s3).trans s4,by rw [By,hl3];rfl,fun p=>?_⟩⟩
     rw [Cs,hzz,B8]
     exact ((tg p).same (s3.trans s4)).snoc (h4 p)
   ·rintro ys H2 ⟨s2,hl3,tg⟩ D nD
    rw [BE,B1] at tg
    have s3:=aj (o:=.lst ys) nD
    have e3:(az H2 D (.lst ys)) D=some (.lst ys):=ae
    generalize az H2 D (.lst ys)=H3 at *
    refine ⟨D,ys,rfl,.inl ⟨SqL.of e3,fun tp ntp=>?_⟩⟩
    have s4:=aj (o:=.tup ys) ntp
    have e4:(az H3 tp (.tup ys)) tp=some (.tup ys):=ae
    generalize az H3 tp (.tup ys)=H4 at *
    refine ⟨_,rfl,rfl,o,_,rfl,rfl,nb,by rw [<-cy];exact BN pl2 (by omega),fun l2 nl2=>?_⟩
    rw [ge]
    have s5:=aj (o:=.lst ((Txt.split o (S [32])).map V.str)) nl2
    have e5:(az H4 l2 (.lst ((Txt.split o (S [32])).map V.str))) l2=some (.lst ((Txt.split o (S [32])).map V.str)):=ae
    generalize az H4 l2 (.lst ((Txt.split o (S [32])).map V.str))=H5 at *
    refine ⟨l2,_,rfl,e5,wl _ pl2,fun u hu=>BN (dA hu) (BN pl2 (by omega)),fun v H6 s6 h6=>⟨(by show 2<=sizeLine;decide),fun t nt=>?_⟩⟩
    have s7:=aj (o:=.tup [.ref tp,v]) nt
    refine fin _ _ (((((((s0.trans s1).trans s2).trans s3).trans s4).trans s5).trans s6).trans s7) fun p=>?_
    exact .tup ae (.cons (.tup (((s5.trans s6).trans s7) _ _ e4) ((tg p).same ((((s3.trans s4).trans s5).trans s6).trans s7))) (.cons ((h6 p).same s7) .nil))
end
end L3
namespace L3
open PySem L2
def Bk:Nat->Str
 | 0=>"Get"
 | 1=>"Ask"
 | 2=>"Cell"
 | 3=>"Two"
 | 4=>"Put"
 | 5=>"Tell"
 | _=>"Store"
def mZ:Nat->Str
 | 0=>"get"
 | 1=>"ask"
 | 2=>"cell"
 | 3=>"two"
 | 4=>"put"
 | 5=>"tell"
 | _=>"store"
def qG:Nat->List Str
 | 0=>["to","sel"]
 | 1=>["to","sel"]
 | 2=>["to","source"]
 | 3=>["to","op","one","other"]
 | 4=>["sel","source"]
 | 5=>["sel","source"]
 | _=>["at","source"]
structure Ct (K:PySem.W.Frag) (mg:Str->Option Value) (C fi:Nat->Addr):Prop where
 cls:∀ k,k < 7->Cls K (C k)
 na:∀ k,k < 7->∀ f∈qG k,NoAttr K (C k) f
 mk_:∀ k,k < 7->Mk K (C k) (fi k)
 mg:∀ k,k < 7->mg (Bk k)=some (.ref (C k))
def gL (C:Addr) (a b:Str):Sp:=fun vs H Q _=>∃ (x dx:Addr) (u v:V),vs=[.ref x,u,v]/\H x=some (.ins C dx [])/\Q .non (az (az H x (.ins C dx [(a,u)])) x (.ins C dx [(a,u),(b,v)]))
def yo (C:Addr) (a b c d:Str):Sp:=fun vs H Q _=>∃ (x dx:Addr) (u v y z:V),vs=[.ref x,u,v,y,z]/\H x=some (.ins C dx []) /\
 Q .non (az (az (az (az H x (.ins C dx [(a,u)])) x (.ins C dx [(a,u),(b,v)])) x (.ins C dx [(a,u),(b,v),(c,y)])) x (.ins C dx [(a,u),(b,v),(c,y),(d,z)]))
def gf (P:Program) (w:World) (K:PySem.W.Frag) (mg:Str->Option Value) (base:Heap) (f:Addr) (ps:List Str) (sp:Sp):Prop:=∃ fd,aI P w K mg base bE 1 f fd ps sp/\Binds K fd ps []
inductive StO (C:Nat->Addr) (p:Addr) (H:Hp):V->Th->Prop
 | mk (k:Nat) (a dx:Addr) (us:List V) (ts:List Th):k < 7->H a=some (.ins (C k) dx ((qG k).zip us))->us.length=(qG k).length->TgA p H us ts->StpT (.tup (.str (mZ k)::ts))->StO C p H (.ref a) (.tup (.str (mZ k)::ts))
def m5 (C:Nat->Addr):Sp:=fun vs H Q _=>∃ (p:Addr) (v:V) (t:Th),vs=[v]/\TgV p H v t/\StpT t/\∀ u H',Same H H'->StO C p H' u t->Q u H'
theorem StO.same {C:Nat->Addr} {p:Addr} {H H':Hp} {v:V} {t:Th} (s:Same H H') (h:StO C p H v t):StO C p H' v t:=by
 cases h with
 | mk k a dx us ts hk e l ta st=>exact .mk k a dx us ts hk (s _ _ e) l (ta.same s) st
theorem StO.but {C:Nat->Addr} {p:Addr} {H H':Hp} {v:V} {t:Th} (g:Strm H p) (b:But p H H') (h:StO C p H v t):StO C p H' v t:=by
 cases h with
 | mk k a dx us ts hk e l ta st=>
  have ne:a≠p:=by
   rintro rfl
   obtain ⟨x,y,z,h⟩:=g
   rw [h] at e
   cases e
  exact .mk k a dx us ts hk (b _ _ e ne) l (ta.but g b) st
theorem cg {p:Addr} {H:Hp} {xs:List V} {x:Str} {a b:Th} (h:TgA p H xs [.str x,a,b]):∃ u v,xs=[.str x,u,v]/\TgA p H [u,v] [a,b]:=by
 cases h with
 | cons h0 t=>
  cases h0
  exact match t with|.cons h1 (.cons h2 .nil)=>⟨_,_,rfl,.cons h1 (.cons h2 .nil)⟩
theorem m6 {p:Addr} {H:Hp} {xs:List V} {x:Str} {a b c d:Th} (h:TgA p H xs [.str x,a,b,c,d]):∃ u v y z,xs=[.str x,u,v,y,z]/\TgA p H [u,v,y,z] [a,b,c,d]:=by
 cases h with
 | cons h0 t=>
  cases h0
  exact match t with|.cons h1 (.cons h2 (.cons h3 (.cons h4 .nil)))=>⟨_,_,_,_,rfl,.cons h1 (.cons h2 (.cons h3 (.cons h4 .nil)))⟩
section
variable {P:Program} {w:World} {K:PySem.W.Frag} {mg:Str->Option Value} {base:Heap} {C fi:Nat->Addr}
abbrev z8:Stmt:=a4 (bS 48) 0
theorem z9:aq ["self","to","sel"] ["self","to","sel"] (al z8):=⟨rfl,rfl,rfl,by decide +kernel,rfl,by decide +kernel,by decide +kernel⟩
theorem yp {C fi:Nat->Addr} {f:Addr} {fd:FuncData} (F:Fun K "__init__" "Get.__init__" z8 f fd) (T:Ct K mg C fi):aI P w K mg base bE 1 f fd ["self","to","sel"] (gL (C 0) "to" "sel"):=by
 refine F.ok z9 (fun vs H Q E h=>?_) (fun cdv A outer s H vs Q E hr h=>?_)
 ·obtain ⟨x,dx,u,v,rfl,_⟩:=h
  rfl
 ·obtain ⟨x,dx,u,v,rfl,hx,q⟩:=h
  refine ⟨_,ak (bO (pv 0) (pv 1) rfl) (ah (bO (pv 0) (pv 2) rfl)),?_⟩
  refine ⟨_,rfl,_,rfl,x,C 0,dx,_,rfl,hx,T.cls 0 (by decide),(T.na 0 (by decide) "to" (by decide +kernel)),(by show 0 < 1000;decide),?_⟩
  exact ⟨_,rfl,_,rfl,x,C 0,dx,_,rfl,ae,T.cls 0 (by decide),(T.na 0 (by decide) "sel" (by decide +kernel)),(by show 1 < 1000;decide),q⟩
abbrev Aa:Stmt:=a4 (bS 49) 0
theorem Ab:aq ["self","to","sel"] ["self","to","sel"] (al Aa):=⟨rfl,rfl,rfl,by decide +kernel,rfl,by decide +kernel,by decide +kernel⟩
theorem yq {C fi:Nat->Addr} {f:Addr} {fd:FuncData} (F:Fun K "__init__" "Ask.__init__" Aa f fd) (T:Ct K mg C fi):aI P w K mg base bE 1 f fd ["self","to","sel"] (gL (C 1) "to" "sel"):=by
 refine F.ok Ab (fun vs H Q E h=>?_) (fun cdv A outer s H vs Q E hr h=>?_)
 ·obtain ⟨x,dx,u,v,rfl,_⟩:=h
  rfl
 ·obtain ⟨x,dx,u,v,rfl,hx,q⟩:=h
  refine ⟨_,ak (bO (pv 0) (pv 1) rfl) (ah (bO (pv 0) (pv 2) rfl)),?_⟩
  refine ⟨_,rfl,_,rfl,x,C 1,dx,_,rfl,hx,T.cls 1 (by decide),(T.na 1 (by decide) "to" (by decide +kernel)),(by show 0 < 1000;decide),?_⟩
  exact ⟨_,rfl,_,rfl,x,C 1,dx,_,rfl,ae,T.cls 1 (by decide),(T.na 1 (by decide) "sel" (by decide +kernel)),(by show 1 < 1000;decide),q⟩
abbrev Ae:Stmt:=a4 (bS 50) 0
theorem Af:aq ["self","to","source"] ["self","to","source"] (al Ae):=⟨rfl,rfl,rfl,by decide +kernel,rfl,by decide +kernel,by decide +kernel⟩
theorem yr {C fi:Nat->Addr} {f:Addr} {fd:FuncData} (F:Fun K "__init__" "Cell.__init__" Ae f fd) (T:Ct K mg C fi):aI P w K mg base bE 1 f fd ["self","to","source"] (gL (C 2) "to" "source"):=by
 refine F.ok Af (fun vs H Q E h=>?_) (fun cdv A outer s H vs Q E hr h=>?_)
 ·obtain ⟨x,dx,u,v,rfl,_⟩:=h
  rfl
 ·obtain ⟨x,dx,u,v,rfl,hx,q⟩:=h
  refine ⟨_,ak (bO (pv 0) (pv 1) rfl) (ah (bO (pv 0) (pv 2) rfl)),?_⟩
  refine ⟨_,rfl,_,rfl,x,C 2,dx,_,rfl,hx,T.cls 2 (by decide),(T.na 2 (by decide) "to" (by decide +kernel)),(by show 0 < 1000;decide),?_⟩
  exact ⟨_,rfl,_,rfl,x,C 2,dx,_,rfl,ae,T.cls 2 (by decide),(T.na 2 (by decide) "source" (by decide +kernel)),(by show 1 < 1000;decide),q⟩
abbrev Ag:Stmt:=a4 (bS 51) 0
theorem Ah:aq ["self","to","op","one","other"] ["self","to","op","one","other"] (al Ag):=⟨rfl,rfl,rfl,by decide +kernel,rfl,by decide +kernel,by decide +kernel⟩
theorem yt {C fi:Nat->Addr} {f:Addr} {fd:FuncData} (F:Fun K "__init__" "Two.__init__" Ag f fd) (T:Ct K mg C fi):aI P w K mg base bE 1 f fd ["self","to","op","one","other"] (yo (C 3) "to" "op" "one" "other"):=by
 refine F.ok Ah (fun vs H Q E h=>?_) (fun cdv A outer s H vs Q E hr h=>?_)
 ·obtain ⟨x,dx,u,v,y,z,rfl,_⟩:=h
  rfl
 ·obtain ⟨x,dx,u,v,y,z,rfl,hx,q⟩:=h
  refine ⟨_,ak (bO (pv 0) (pv 1) rfl) (ak (bO (pv 0) (pv 2) rfl) (ak (bO (pv 0) (pv 3) rfl) (ah (bO (pv 0) (pv 4) rfl)))),?_⟩
  refine ⟨_,rfl,_,rfl,x,C 3,dx,_,rfl,hx,T.cls 3 (by decide),(T.na 3 (by decide) "to" (by decide +kernel)),(by show 0 < 1000;decide),?_⟩
  refine ⟨_,rfl,_,rfl,x,C 3,dx,_,rfl,ae,T.cls 3 (by decide),(T.na 3 (by decide) "op" (by decide +kernel)),(by show 1 < 1000;decide),?_⟩
  refine ⟨_,rfl,_,rfl,x,C 3,dx,_,rfl,ae,T.cls 3 (by decide),(T.na 3 (by decide) "one" (by decide +kernel)),(by show 2 < 1000;decide),?_⟩
  exact ⟨_,rfl,_,rfl,x,C 3,dx,_,rfl,ae,T.cls 3 (by decide),(T.na 3 (by decide) "other" (by decide +kernel)),(by show 3 < 1000;decide),q⟩
abbrev Ai:Stmt:=a4 (bS 52) 0
theorem Aj:aq ["self","sel","source"] ["self","sel","source"] (al Ai):=⟨rfl,rfl,rfl,by decide +kernel,rfl,by decide +kernel,by decide +kernel⟩
theorem yu {C fi:Nat->Addr} {f:Addr} {fd:FuncData} (F:Fun K "__init__" "Put.__init__" Ai f fd) (T:Ct K mg C fi):aI P w K mg base bE 1 f fd ["self","sel","source"] (gL (C 4) "sel" "source"):=by
 refine F.ok Aj (fun vs H Q E h=>?_) (fun cdv A outer s H vs Q E hr h=>?_)
 ·obtain ⟨x,dx,u,v,rfl,_⟩:=h
  rfl
 ·obtain ⟨x,dx,u,v,rfl,hx,q⟩:=h
  refine ⟨_,ak (bO (pv 0) (pv 1) rfl) (ah (bO (pv 0) (pv 2) rfl)),?_⟩
  refine ⟨_,rfl,_,rfl,x,C 4,dx,_,rfl,hx,T.cls 4 (by decide),(T.na 4 (by decide) "sel" (by decide +kernel)),(by show 0 < 1000;decide),?_⟩
  exact ⟨_,rfl,_,rfl,x,C 4,dx,_,rfl,ae,T.cls 4 (by decide),(T.na 4 (by decide) "source" (by decide +kernel)),(by show 1 < 1000;decide),q⟩
abbrev Ak:Stmt:=a4 (bS 53) 0
theorem Al:aq ["self","sel","source"] ["self","sel","source"] (al Ak):=⟨rfl,rfl,rfl,by decide +kernel,rfl,by decide +kernel,by decide +kernel⟩
theorem yw {C fi:Nat->Addr} {f:Addr} {fd:FuncData} (F:Fun K "__init__" "Tell.__init__" Ak f fd) (T:Ct K mg C fi):aI P w K mg base bE 1 f fd ["self","sel","source"] (gL (C 5) "sel" "source"):=by
 refine F.ok Al (fun vs H Q E h=>?_) (fun cdv A outer s H vs Q E hr h=>?_)
 ·obtain ⟨x,dx,u,v,rfl,_⟩:=h
  rfl
 ·obtain ⟨x,dx,u,v,rfl,hx,q⟩:=h
  refine ⟨_,ak (bO (pv 0) (pv 1) rfl) (ah (bO (pv 0) (pv 2) rfl)),?_⟩
  refine ⟨_,rfl,_,rfl,x,C 5,dx,_,rfl,hx,T.cls 5 (by decide),(T.na 5 (by decide) "sel" (by decide +kernel)),(by show 0 < 1000;decide),?_⟩
  exact ⟨_,rfl,_,rfl,x,C 5,dx,_,rfl,ae,T.cls 5 (by decide),(T.na 5 (by decide) "source" (by decide +kernel)),(by show 1 < 1000;decide),q⟩
abbrev Am:Stmt:=a4 (bS 54) 0
theorem An:aq ["self","at","source"] ["self","at","source"] (al Am):=⟨rfl,rfl,rfl,by decide +kernel,rfl,by decide +kernel,by decide +kernel⟩
theorem yx {C fi:Nat->Addr} {f:Addr} {fd:FuncData} (F:Fun K "__init__" "Store.__init__" Am f fd) (T:Ct K mg C fi):aI P w K mg base bE 1 f fd ["self","at","source"] (gL (C 6) "at" "source"):=by
 refine F.ok An (fun vs H Q E h=>?_) (fun cdv A outer s H vs Q E hr h=>?_)
 ·obtain ⟨x,dx,u,v,rfl,_⟩:=h
  rfl
 ·obtain ⟨x,dx,u,v,rfl,hx,q⟩:=h
  refine ⟨_,ak (bO (pv 0) (pv 1) rfl) (ah (bO (pv 0) (pv 2) rfl)),?_⟩
  refine ⟨_,rfl,_,rfl,x,C 6,dx,_,rfl,hx,T.cls 6 (by decide),(T.na 6 (by decide) "at" (by decide +kernel)),(by show 0 < 1000;decide),?_⟩
  exact ⟨_,rfl,_,rfl,x,C 6,dx,_,rfl,ae,T.cls 6 (by decide),(T.na 6 (by decide) "source" (by decide +kernel)),(by show 1 < 1000;decide),q⟩
theorem qH:aq ["told"] ["told"] (al jD):=⟨rfl,rfl,rfl,by decide +kernel,rfl,by decide +kernel,by decide +kernel⟩
set_option maxHeartbeats 8000000 in
theorem oz {f:Addr} {fd:FuncData} (F:Fun K "step_of" "step_of" jD f fd) (T:Ct K mg C fi) (IS:Fn P w K mg base "is_step" 5 ["thing"] (spAsk stepOk sx)) (I0:gf P w K mg base (fi 0) ["self","to","sel"] (gL (C 0) "to" "sel")) (I1:gf P w K mg base (fi 1) ["self","to","sel"] (gL (C 1) "to" "sel")) (I2:gf P w K mg base (fi 2) ["self","to","source"] (gL (C 2) "to" "source")) (I3:gf P w K mg base (fi 3) ["self","to","op","one","other"] (yo (C 3) "to" "op" "one" "other")) (I4:gf P w K mg base (fi 4) ["self","sel","source"] (gL (C 4) "sel" "source")) (I5:gf P w K mg base (fi 5) ["self","sel","source"] (gL (C 5) "sel" "source")) (I6:gf P w K mg base (fi 6) ["self","at","source"] (gL (C 6) "at" "source")) :
  aI P w K mg base bE 6 f fd ["told"] (m5 C):=by
 refine F.ok qH (fun vs H Q E h=>?_) (fun cdv A outer s H vs Q E hr h=>?_)
 ·obtain ⟨p,v,t,rfl,_⟩:=h
  rfl
 ·obtain ⟨p,v,t,rfl,tv,st,q⟩:=h
  have hr3:Room 2 _:=hr.mono (by decide)
  obtain ⟨fd0,F0,b0⟩:=I0
  obtain ⟨fd1,F1,b1⟩:=I1
  obtain ⟨fd2,F2,b2⟩:=I2
  obtain ⟨fd3,F3,b3⟩:=I3
  obtain ⟨fd4,F4,b4⟩:=I4
  obtain ⟨fd5,F5,b5⟩:=I5
  obtain ⟨fd6,F6,b6⟩:=I6
  refine ⟨_,ak (aH (cw (aV (ao IS hr rfl (aa (pv 0) ac)))) (ah kj) aw)
   (ak (aH (ax bb (ap au (pv 0) ad (fun _ _=>rfl)) af (aB _)) (ah (am (cN (T.mk_ 0 (by decide)) F0 hr3 rfl (T.mg 0 (by decide)) b0 .nil c7 (aa (ap au (pv 0) ad (fun _ _=>rfl)) (aa (ap au (pv 0) ad (fun _ _=>rfl)) ac))))) aw)
   (ak (aH (ax bb (ap au (pv 0) ad (fun _ _=>rfl)) af (aB _)) (ah (am (cN (T.mk_ 1 (by decide)) F1 hr3 rfl (T.mg 1 (by decide)) b1 .nil c7 (aa (ap au (pv 0) ad (fun _ _=>rfl)) (aa (ap au (pv 0) ad (fun _ _=>rfl)) ac))))) aw)
   (ak (aH (ax bb (ap au (pv 0) ad (fun _ _=>rfl)) af (aB _)) (ah (am (cN (T.mk_ 2 (by decide)) F2 hr3 rfl (T.mg 2 (by decide)) b2 .nil c7 (aa (ap au (pv 0) ad (fun _ _=>rfl)) (aa (ap au (pv 0) ad (fun _ _=>rfl)) ac))))) aw)
   (ak (aH (ax bb (ap au (pv 0) ad (fun _ _=>rfl)) af (aB _)) (ah (am (cN (T.mk_ 3 (by decide)) F3 hr3 rfl (T.mg 3 (by decide)) b3 .nil c7 (aa (ap au (pv 0) ad (fun _ _=>rfl)) (aa (ap au (pv 0) ad (fun _ _=>rfl)) (aa (ap au (pv 0) ad (fun _ _=>rfl)) (aa (ap au (pv 0) ad (fun _ _=>rfl)) ac))))))) aw)
   (ak (aH (ax bb (ap au (pv 0) ad (fun _ _=>rfl)) af (aB _)) (ah (am (cN (T.mk_ 4 (by decide)) F4 hr3 rfl (T.mg 4 (by decide)) b4 .nil c7 (aa (ap au (pv 0) ad (fun _ _=>rfl)) (aa (ap au (pv 0) ad (fun _ _=>rfl)) ac))))) aw)
   (ak (aH (ax bb (ap au (pv 0) ad (fun _ _=>rfl)) af (aB _)) (ah (am (cN (T.mk_ 5 (by decide)) F5 hr3 rfl (T.mg 5 (by decide)) b5 .nil c7 (aa (ap au (pv 0) ad (fun _ _=>rfl)) (aa (ap au (pv 0) ad (fun _ _=>rfl)) ac))))) aw)
   (ah (am (cN (T.mk_ 6 (by decide)) F6 hr3 rfl (T.mg 6 (by decide)) b6 .nil c7 (aa (ap au (pv 0) ad (fun _ _=>rfl)) (aa (ap au (pv 0) ad (fun _ _=>rfl)) ac))))))))))),?_⟩
  obtain ⟨ok,hga⟩:=st.ok
  refine ⟨_,rfl,p,v,t,rfl,tv,hga,fun H1 s1=>⟨_,rfl,?_⟩⟩
  rw [ok]
  refine bo ?_
  have tv1:=tv.same s1
  have q1:∀ u H',Same H1 H'->StO C p H' u t->Q u H':=fun u H' s' h=>q u H' (s1.trans s') h
  have st':=st
  cases st with
  | @get k s hk hs=>
   cases tv1 with
   | @tup a xs _ e ta=>
    obtain ⟨u0,u1,rfl,ta'⟩:∃ u0 u1,xs=[.str "get",u0,u1]/\TgA p H1 [u0,u1] _:=cg ta
    refine ⟨_,rfl,a,_,_,_,rfl,rfl,SqT.of e,rfl,rfl,_,rfl,bg (show decide (V.str "get"=V.str "get")=true by decide +kernel) ?_⟩
    refine ⟨_,rfl,a,_,_,_,rfl,rfl,SqT.of e,rfl,_,rfl,a,_,_,_,rfl,rfl,SqT.of e,rfl,fun x0 dx nx nd ne=>⟨x0,dx,_,_,rfl,ae,rfl,?_⟩⟩
    refine q1 _ _ ?_ (.mk 0 x0 dx [u0,u1] _ (by decide) ae rfl (ta'.same ?_) st')
    all_goals exact aA nx (aA nx (aA nx (aj nd)))
  | @ask k s hk hs=>
   cases tv1 with
   | @tup a xs _ e ta=>
    obtain ⟨u0,u1,rfl,ta'⟩:∃ u0 u1,xs=[.str "ask",u0,u1]/\TgA p H1 [u0,u1] _:=cg ta
    refine ⟨_,rfl,a,_,_,_,rfl,rfl,SqT.of e,rfl,rfl,_,rfl,aR (show decide (V.str "ask"=V.str "get")=false by decide +kernel) ?_⟩
    refine ⟨_,rfl,a,_,_,_,rfl,rfl,SqT.of e,rfl,rfl,_,rfl,bg (show decide (V.str "ask"=V.str "ask")=true by decide +kernel) ?_⟩
    refine ⟨_,rfl,a,_,_,_,rfl,rfl,SqT.of e,rfl,_,rfl,a,_,_,_,rfl,rfl,SqT.of e,rfl,fun x0 dx nx nd ne=>⟨x0,dx,_,_,rfl,ae,rfl,?_⟩⟩
    refine q1 _ _ ?_ (.mk 1 x0 dx [u0,u1] _ (by decide) ae rfl (ta'.same ?_) st')
    all_goals exact aA nx (aA nx (aA nx (aj nd)))
  | @cell k s hk hs=>
   cases tv1 with
   | @tup a xs _ e ta=>
    obtain ⟨u0,u1,rfl,ta'⟩:∃ u0 u1,xs=[.str "cell",u0,u1]/\TgA p H1 [u0,u1] _:=cg ta
    refine ⟨_,rfl,a,_,_,_,rfl,rfl,SqT.of e,rfl,rfl,_,rfl,aR (show decide (V.str "cell"=V.str "get")=false by decide +kernel) ?_⟩
    refine ⟨_,rfl,a,_,_,_,rfl,rfl,SqT.of e,rfl,rfl,_,rfl,aR (show decide (V.str "cell"=V.str "ask")=false by decide +kernel) ?_⟩
    refine ⟨_,rfl,a,_,_,_,rfl,rfl,SqT.of e,rfl,rfl,_,rfl,bg (show decide (V.str "cell"=V.str "cell")=true by decide +kernel) ?_⟩
    refine ⟨_,rfl,a,_,_,_,rfl,rfl,SqT.of e,rfl,_,rfl,a,_,_,_,rfl,rfl,SqT.of e,rfl,fun x0 dx nx nd ne=>⟨x0,dx,_,_,rfl,ae,rfl,?_⟩⟩
    refine q1 _ _ ?_ (.mk 2 x0 dx [u0,u1] _ (by decide) ae rfl (ta'.same ?_) st')
    all_goals exact aA nx (aA nx (aA nx (aj nd)))
  | @two k o x y hk ho hx hy=>
   cases tv1 with
   | @tup a xs _ e ta=>
    obtain ⟨u0,u1,u2,u3,rfl,ta'⟩:∃ u0 u1 u2 u3,xs=[.str "two",u0,u1,u2,u3]/\TgA p H1 [u0,u1,u2,u3] _:=m6 ta
    refine ⟨_,rfl,a,_,_,_,rfl,rfl,SqT.of e,rfl,rfl,_,rfl,aR (show decide (V.str "two"=V.str "get")=false by decide +kernel) ?_⟩
    refine ⟨_,rfl,a,_,_,_,rfl,rfl,SqT.of e,rfl,rfl,_,rfl,aR (show decide (V.str "two"=V.str "ask")=false by decide +kernel) ?_⟩
    refine ⟨_,rfl,a,_,_,_,rfl,rfl,SqT.of e,rfl,rfl,_,rfl,aR (show decide (V.str "two"=V.str "cell")=false by decide +kernel) ?_⟩
    refine ⟨_,rfl,a,_,_,_,rfl,rfl,SqT.of e,rfl,rfl,_,rfl,bg (show decide (V.str "two"=V.str "two")=true by decide +kernel) ?_⟩
    refine ⟨_,rfl,a,_,_,_,rfl,rfl,SqT.of e,rfl,_,rfl,a,_,_,_,rfl,rfl,SqT.of e,rfl,_,rfl,a,_,_,_,rfl,rfl,SqT.of e,rfl,_,rfl,a,_,_,_,rfl,rfl,SqT.of e,rfl,fun x0 dx nx nd ne=>⟨x0,dx,_,_,_,_,rfl,ae,rfl,?_⟩⟩
    refine q1 _ _ ?_ (.mk 3 x0 dx [u0,u1,u2,u3] _ (by decide) ae rfl (ta'.same ?_) st')
    all_goals exact aA nx (aA nx (aA nx (aA nx (aA nx (aj nd)))))
  | @put s x hs hx=>
   cases tv1 with
   | @tup a xs _ e ta=>
    obtain ⟨u0,u1,rfl,ta'⟩:∃ u0 u1,xs=[.str "put",u0,u1]/\TgA p H1 [u0,u1] _:=cg ta
    refine ⟨_,rfl,a,_,_,_,rfl,rfl,SqT.of e,rfl,rfl,_,rfl,aR (show decide (V.str "put"=V.str "get")=false by decide +kernel) ?_⟩
    refine ⟨_,rfl,a,_,_,_,rfl,rfl,SqT.of e,rfl,rfl,_,rfl,aR (show decide (V.str "put"=V.str "ask")=false by decide +kernel) ?_⟩
    refine ⟨_,rfl,a,_,_,_,rfl,rfl,SqT.of e,rfl,rfl,_,rfl,aR (show decide (V.str "put"=V.str "cell")=false by decide +kernel) ?_⟩
    refine ⟨_,rfl,a,_,_,_,rfl,rfl,SqT.of e,rfl,rfl,_,rfl,aR (show decide (V.str "put"=V.str "two")=false by decide +kernel) ?_⟩
    refine ⟨_,rfl,a,_,_,_,rfl,rfl,SqT.of e,rfl,rfl,_,rfl,bg (show decide (V.str "put"=V.str "put")=true by decide +kernel) ?_⟩
    refine ⟨_,rfl,a,_,_,_,rfl,rfl,SqT.of e,rfl,_,rfl,a,_,_,_,rfl,rfl,SqT.of e,rfl,fun x0 dx nx nd ne=>⟨x0,dx,_,_,rfl,ae,rfl,?_⟩⟩
    refine q1 _ _ ?_ (.mk 4 x0 dx [u0,u1] _ (by decide) ae rfl (ta'.same ?_) st')
    all_goals exact aA nx (aA nx (aA nx (aj nd)))
  | @tell s x hs hx=>
   cases tv1 with
   | @tup a xs _ e ta=>
    obtain ⟨u0,u1,rfl,ta'⟩:∃ u0 u1,xs=[.str "tell",u0,u1]/\TgA p H1 [u0,u1] _:=cg ta
    refine ⟨_,rfl,a,_,_,_,rfl,rfl,SqT.of e,rfl,rfl,_,rfl,aR (show decide (V.str "tell"=V.str "get")=false by decide +kernel) ?_⟩
    refine ⟨_,rfl,a,_,_,_,rfl,rfl,SqT.of e,rfl,rfl,_,rfl,aR (show decide (V.str "tell"=V.str "ask")=false by decide +kernel) ?_⟩
    refine ⟨_,rfl,a,_,_,_,rfl,rfl,SqT.of e,rfl,rfl,_,rfl,aR (show decide (V.str "tell"=V.str "cell")=false by decide +kernel) ?_⟩
    refine ⟨_,rfl,a,_,_,_,rfl,rfl,SqT.of e,rfl,rfl,_,rfl,aR (show decide (V.str "tell"=V.str "two")=false by decide +kernel) ?_⟩
    refine ⟨_,rfl,a,_,_,_,rfl,rfl,SqT.of e,rfl,rfl,_,rfl,aR (show decide (V.str "tell"=V.str "put")=false by decide +kernel) ?_⟩
    refine ⟨_,rfl,a,_,_,_,rfl,rfl,SqT.of e,rfl,rfl,_,rfl,bg (show decide (V.str "tell"=V.str "tell")=true by decide +kernel) ?_⟩
    refine ⟨_,rfl,a,_,_,_,rfl,rfl,SqT.of e,rfl,_,rfl,a,_,_,_,rfl,rfl,SqT.of e,rfl,fun x0 dx nx nd ne=>⟨x0,dx,_,_,rfl,ae,rfl,?_⟩⟩
    refine q1 _ _ ?_ (.mk 5 x0 dx [u0,u1] _ (by decide) ae rfl (ta'.same ?_) st')
    all_goals exact aA nx (aA nx (aA nx (aj nd)))
  | @store x y hx hy=>
   cases tv1 with
   | @tup a xs _ e ta=>
    obtain ⟨u0,u1,rfl,ta'⟩:∃ u0 u1,xs=[.str "store",u0,u1]/\TgA p H1 [u0,u1] _:=cg ta
    refine ⟨_,rfl,a,_,_,_,rfl,rfl,SqT.of e,rfl,rfl,_,rfl,aR (show decide (V.str "store"=V.str "get")=false by decide +kernel) ?_⟩
    refine ⟨_,rfl,a,_,_,_,rfl,rfl,SqT.of e,rfl,rfl,_,rfl,aR (show decide (V.str "store"=V.str "ask")=false by decide +kernel) ?_⟩
    refine ⟨_,rfl,a,_,_,_,rfl,rfl,SqT.of e,rfl,rfl,_,rfl,aR (show decide (V.str "store"=V.str "cell")=false by decide +kernel) ?_⟩
    refine ⟨_,rfl,a,_,_,_,rfl,rfl,SqT.of e,rfl,rfl,_,rfl,aR (show decide (V.str "store"=V.str "two")=false by decide +kernel) ?_⟩
    refine ⟨_,rfl,a,_,_,_,rfl,rfl,SqT.of e,rfl,rfl,_,rfl,aR (show decide (V.str "store"=V.str "put")=false by decide +kernel) ?_⟩
    refine ⟨_,rfl,a,_,_,_,rfl,rfl,SqT.of e,rfl,rfl,_,rfl,aR (show decide (V.str "store"=V.str "tell")=false by decide +kernel) ?_⟩
    refine ⟨_,rfl,a,_,_,_,rfl,rfl,SqT.of e,rfl,_,rfl,a,_,_,_,rfl,rfl,SqT.of e,rfl,fun x0 dx nx nd ne=>⟨x0,dx,_,_,rfl,ae,rfl,?_⟩⟩
    refine q1 _ _ ?_ (.mk 6 x0 dx [u0,u1] _ (by decide) ae rfl (ta'.same ?_) st')
    all_goals exact aA nx (aA nx (aA nx (aj nd)))
end
end L3
namespace L3
open PySem L2
def eP (C:Nat->Addr) (k:Nat):Sp:=fun vs H Q _=>∃ (a dx:Addr) (us:List V),vs=[.ref a]/\H a=some (.ins (C k) dx ((qG k).zip us))/\us.length=(qG k).length/\∀ p,H p=none->Q (.ref p) (az H p (.tup (.str (mZ k)::us)))
theorem m7 {us:List V} (h:us.length=2):∃ a b,us=[a,b]:=match us,h with|[a,b],_=>⟨a,b,rfl⟩
theorem Bm {us:List V} (h:us.length=4):∃ a b c d,us=[a,b,c,d]:=match us,h with|[a,b,c,d],_=>⟨a,b,c,d,rfl⟩
theorem oA {i:Int} (h0:0<=i) (h1:i<=16777215):i.natAbs.log2 < 1920:=by
 have hn:i.natAbs<=16777215:=by omega
 have:i.natAbs.log2<=24:=by
  by_cases hz:i.natAbs=0
  ·rw [hz];decide
  ·have:=Nat.log2_lt hz |>.mpr (show i.natAbs < 2 ^ 24 by omega)
   omega
 omega
theorem a5 {i:Nat} (h:i<=16777215):((i:Nat):Int).natAbs.log2 < 1920:=oA (by omega) (by omega)
theorem c9 {z:Str} {c:Nat} (hz:z=S [c]) (n:Nat):z++(toString (n:Int):Str)=S (c::dg n):=by
 rw [hz,bw,aP];rfl
theorem aN {n:Nat} (h:n<=16777215):(dg n).length<=9:=(mm n).2 9 (by decide) (by omega)
theorem aD {l:List Nat} (h:l.length<=10000):(S l).length<=sizeLine:=by rw [a8];exact BN h (by decide)
theorem dR {l:Nat} {t:Th} (h:SrcT t):bf l t=bf 114 t:=by
 cases h with
 | fld i hi=>show pre l "field"++_=pre 114 "field"++_;rw [dP,dP]
 | num i hi=>show pre l "number"++_=pre 114 "number"++_;rw [dQ,dQ]
 | inn i hi=>show pre l "in"++_=pre 114 "in"++_;rw [fJ,fJ]
theorem jU:∀ o∈opsL,(cp o).length<=2:=by decide +kernel
theorem Ao:cp "get r"=cp "get"++[32,114]:=by decide +kernel
theorem m8:(cp "get r").length=5:=by decide +kernel
theorem Ap:cp "ask r"=cp "ask"++[32,114]:=by decide +kernel
theorem m9:(cp "ask r").length=5:=by decide +kernel
theorem Aq:cp "cell r"=cp "cell"++[32,114]:=by decide +kernel
theorem ng:(cp "cell r").length=6:=by decide +kernel
theorem Ar:cp "two r"=cp "two"++[32,114]:=by decide +kernel
theorem gF:(cp "two r").length=5:=by decide +kernel
theorem As:cp "put "=cp "put"++[32]:=by decide +kernel
theorem ni:(cp "put ").length=4:=by decide +kernel
theorem Au:cp "tell "=cp "tell"++[32]:=by decide +kernel
theorem nj:(cp "tell ").length=5:=by decide +kernel
theorem Av:cp "store "=cp "store"++[32]:=by decide +kernel
theorem nu:(cp "store ").length=6:=by decide +kernel
theorem bP {p:Addr} {H:Hp} {xs:List V} {a b:Th} (h:TgA p H xs [a,b]):∃ u v,xs=[u,v]/\TgV p H u a/\TgV p H v b:=match h with|.cons h1 (.cons h2 .nil)=>⟨_,_,rfl,h1,h2⟩
theorem mq {p:Addr} {H:Hp} {xs:List V} {a b c d:Th} (h:TgA p H xs [a,b,c,d]):∃ u v y z,xs=[u,v,y,z]/\TgV p H u a/\TgV p H v b/\TgV p H y c/\TgV p H z d:=match h with|.cons h1 (.cons h2 (.cons h3 (.cons h4 .nil)))=>⟨_,_,_,_,rfl,h1,h2,h3,h4⟩
def gM (l:Nat) (ok:Th->Prop):Sp:=fun vs H Q _=>∃ (p:Addr) (v:V) (t:Th),vs=[v]/\TgV p H v t/\ok t/\Q (.str (S (bf l t))) H
theorem cH {p:Addr} {H:Hp} {v:V} {x:Str} {i:Int} (h:TgV p H v (.tup [.str x,.int i])):∃ a,v=.ref a/\H a=some (.tup [.str x,.int i]):=by
 cases h with
 | tup e ta=>exact match ta with|.cons (.str _) (.cons (.int _) .nil)=>⟨_,rfl,e⟩
section
variable {P:Program} {w:World} {K:PySem.W.Frag} {mg:Str->Option Value} {base:Heap} {C fi:Nat->Addr}
theorem yy:aq ["sel"] ["sel"] (al vD):=⟨rfl,rfl,rfl,by decide +kernel,rfl,by decide +kernel,by decide +kernel⟩
theorem vY {f:Addr} {fd:FuncData} (F:Fun K "place_words" "place_words" vD f fd):aI P w K mg base bE 1 f fd ["sel"] (gM 112 SelT):=by
 refine F.ok yy (fun vs H Q E h=>?_) (fun cdv A outer s H vs Q E hr h=>?_)
 ·obtain ⟨p,v,t,rfl,_⟩:=h
  rfl
 ·obtain ⟨p,v,t,rfl,tv,st,q⟩:=h
  refine ⟨_,ah (am (dq (ax bb (ap au (pv 0) ad (fun _ _=>rfl)) af (aB _)) (cV (ap au (pv 0) ad (fun _ _=>rfl))) (cV (ap au (pv 0) ad (fun _ _=>rfl))))),?_⟩
  cases st with
  | is i hi=>
   obtain ⟨a,rfl,e⟩:=cH tv
   have eq:bf 112 (.tup [.str "is",.int (i:Nat)])=112::dg i:=by show pre 112 "is"++dg i=_;rw [gu];rfl
   rw [eq] at q
   have tx:=c9 (z:="p") (c:=112) (by decide +kernel) i
   refine ⟨_,rfl,a,_,_,_,rfl,rfl,SqT.of e,rfl,rfl,_,rfl,bg (by decide +kernel) ⟨_,rfl,a,_,_,_,rfl,rfl,SqT.of e,rfl,i,rfl,a5 (by omega),?_,?_⟩⟩
   ·rw [tx];exact aD (by have:=aN (n:=i) (by omega);simp only [Bx];omega)
   ·rw [tx];exact q
  | «by» i hi=>
   obtain ⟨a,rfl,e⟩:=cH tv
   have eq:bf 112 (.tup [.str "by",.int (i:Nat)])=102::dg i:=by show pre 112 "by"++dg i=_;rw [gv];rfl
   rw [eq] at q
   have tx:=c9 (z:="f") (c:=102) (by decide +kernel) i
   refine ⟨_,rfl,a,_,_,_,rfl,rfl,SqT.of e,rfl,rfl,_,rfl,aR (by decide +kernel) ⟨_,rfl,a,_,_,_,rfl,rfl,SqT.of e,rfl,i,rfl,a5 (by omega),?_,?_⟩⟩
   ·rw [tx];exact aD (by have:=aN (n:=i) (by omega);simp only [Bx];omega)
   ·rw [tx];exact q
theorem yz:aq ["sel"] ["sel"] (al vE):=⟨rfl,rfl,rfl,by decide +kernel,rfl,by decide +kernel,by decide +kernel⟩
theorem vZ {f:Addr} {fd:FuncData} (F:Fun K "mark_words" "mark_words" vE f fd):aI P w K mg base bE 1 f fd ["sel"] (gM 109 SelT):=by
 refine F.ok yz (fun vs H Q E h=>?_) (fun cdv A outer s H vs Q E hr h=>?_)
 ·obtain ⟨p,v,t,rfl,_⟩:=h
  rfl
 ·obtain ⟨p,v,t,rfl,tv,st,q⟩:=h
  refine ⟨_,ah (am (dq (ax bb (ap au (pv 0) ad (fun _ _=>rfl)) af (aB _)) (cV (ap au (pv 0) ad (fun _ _=>rfl))) (cV (ap au (pv 0) ad (fun _ _=>rfl))))),?_⟩
  cases st with
  | is i hi=>
   obtain ⟨a,rfl,e⟩:=cH tv
   have eq:bf 109 (.tup [.str "is",.int (i:Nat)])=109::dg i:=by show pre 109 "is"++dg i=_;rw [gu];rfl
   rw [eq] at q
   have tx:=c9 (z:="m") (c:=109) (by decide +kernel) i
   refine ⟨_,rfl,a,_,_,_,rfl,rfl,SqT.of e,rfl,rfl,_,rfl,bg (by decide +kernel) ⟨_,rfl,a,_,_,_,rfl,rfl,SqT.of e,rfl,i,rfl,a5 (by omega),?_,?_⟩⟩
   ·rw [tx];exact aD (by have:=aN (n:=i) (by omega);simp only [Bx];omega)
   ·rw [tx];exact q
  | «by» i hi=>
   obtain ⟨a,rfl,e⟩:=cH tv
   have eq:bf 109 (.tup [.str "by",.int (i:Nat)])=102::dg i:=by show pre 109 "by"++dg i=_;rw [gv];rfl
   rw [eq] at q
   have tx:=c9 (z:="f") (c:=102) (by decide +kernel) i
   refine ⟨_,rfl,a,_,_,_,rfl,rfl,SqT.of e,rfl,rfl,_,rfl,aR (by decide +kernel) ⟨_,rfl,a,_,_,_,rfl,rfl,SqT.of e,rfl,i,rfl,a5 (by omega),?_,?_⟩⟩
   ·rw [tx];exact aD (by have:=aN (n:=i) (by omega);simp only [Bx];omega)
   ·rw [tx];exact q
theorem yA:aq ["source"] ["source"] (al vC):=⟨rfl,rfl,rfl,by decide +kernel,rfl,by decide +kernel,by decide +kernel⟩
theorem v7 {f:Addr} {fd:FuncData} (F:Fun K "source_words" "source_words" vC f fd) (B:Bl mg):aI P w K mg base bE 1 f fd ["source"] (gM 114 SrcT):=by
 refine F.ok yA (fun vs H Q E h=>?_) (fun cdv A outer s H vs Q E hr h=>?_)
 ·obtain ⟨p,v,t,rfl,_⟩:=h
  rfl
 ·obtain ⟨p,v,t,rfl,tv,st,q⟩:=h
  refine ⟨_,ak (aH (ax bb (ap au (pv 0) ad (fun _ _=>rfl)) af (aB _)) (ah (am (cV (ap au (pv 0) ad (fun _ _=>rfl))))) aw) (ah (am (dq (ax bb (ap au (pv 0) ad (fun _ _=>rfl)) af (aB _)) (cV (ap au (pv 0) ad (fun _ _=>rfl))) (aY bC (by rfl) B.str bK (aa (ap au (pv 0) ad (fun _ _=>rfl)) ac))))),?_⟩
  cases st with
  | inn i hi=>
   obtain ⟨a,rfl,e⟩:=cH tv
   have eq:bf 114 (.tup [.str "in",.int (i:Nat)])=114::dg i:=by show pre 114 "in"++dg i=_;rw [fJ];rfl
   rw [eq] at q
   have tx:=c9 (z:="r") (c:=114) (by decide +kernel) i
   refine ⟨_,rfl,a,_,_,_,rfl,rfl,SqT.of e,rfl,rfl,_,rfl,bg (by decide +kernel) ⟨_,rfl,a,_,_,_,rfl,rfl,SqT.of e,rfl,i,rfl,a5 (by omega),?_,?_⟩⟩
   ·rw [tx];exact aD (by have:=aN (n:=i) (by omega);simp only [Bx];omega)
   ·rw [tx];exact q
  | fld i hi=>
   obtain ⟨a,rfl,e⟩:=cH tv
   have eq:bf 114 (.tup [.str "field",.int (i:Nat)])=102::dg i:=by show pre 114 "field"++dg i=_;rw [dP];rfl
   rw [eq] at q
   have tx:=c9 (z:="f") (c:=102) (by decide +kernel) i
   refine ⟨_,rfl,a,_,_,_,rfl,rfl,SqT.of e,rfl,rfl,_,rfl,aR (by decide +kernel) ?_⟩
   refine ⟨_,rfl,a,_,_,_,rfl,rfl,SqT.of e,rfl,rfl,_,rfl,bg (by decide +kernel) ⟨_,rfl,a,_,_,_,rfl,rfl,SqT.of e,rfl,i,rfl,a5 (by omega),?_,?_⟩⟩
   ·rw [tx];exact aD (by have:=aN (n:=i) (by omega);simp only [Bx];omega)
   ·rw [tx];exact q
  | num i hi=>
   obtain ⟨a,rfl,e⟩:=cH tv
   have eq:bf 114 (.tup [.str "number",.int (i:Nat)])=dg i:=by show pre 114 "number"++dg i=_;rw [dQ];rfl
   rw [eq,<-bw] at q
   refine ⟨_,rfl,a,_,_,_,rfl,rfl,SqT.of e,rfl,rfl,_,rfl,aR (by decide +kernel) ?_⟩
   exact ⟨_,rfl,a,_,_,_,rfl,rfl,SqT.of e,rfl,rfl,_,rfl,aR (by decide +kernel) ⟨_,rfl,a,_,_,_,rfl,rfl,SqT.of e,rfl,_,rfl,a5 (by omega),q⟩⟩
abbrev v8:Stmt:=a4 (bS 48) 1
theorem yB:aq ["self"] ["self"] (al v8):=⟨rfl,rfl,rfl,by decide +kernel,rfl,by decide +kernel,by decide +kernel⟩
theorem v9 {f:Addr} {fd:FuncData} (F:Fun K "told" "Get.told" v8 f fd) (T:Ct K mg C fi):aI P w K mg base bE 1 f fd ["self"] (eP C 0):=by
 refine F.ok yB (fun vs H Q E h=>?_) (fun cdv A outer s H vs Q E hr h=>?_)
 ·obtain ⟨a,dx,us,rfl,_⟩:=h
  rfl
 ·obtain ⟨a,dx,us,rfl,ho,hl,q⟩:=h
  obtain ⟨u1,u2,rfl⟩:=m7 hl
  refine ⟨_,ah (am (aC (aa af (aa (aU (pv 0) rfl) (aa (aU (pv 0) rfl) ac))))),?_⟩
  exact ⟨_,rfl,a,C 0,dx,_,_,rfl,ho,T.cls 0 (by decide),T.na 0 (by decide) "to" (by decide +kernel),rfl,_,rfl,a,C 0,dx,_,_,rfl,ho,T.cls 0 (by decide),T.na 0 (by decide) "sel" (by decide +kernel),rfl,(by show 3<=sizeLine;decide),fun t ht=>q t ht⟩
abbrev wb:Stmt:=a4 (bS 49) 1
theorem yC:aq ["self"] ["self"] (al wb):=⟨rfl,rfl,rfl,by decide +kernel,rfl,by decide +kernel,by decide +kernel⟩
theorem wc {f:Addr} {fd:FuncData} (F:Fun K "told" "Ask.told" wb f fd) (T:Ct K mg C fi):aI P w K mg base bE 1 f fd ["self"] (eP C 1):=by
 refine F.ok yC (fun vs H Q E h=>?_) (fun cdv A outer s H vs Q E hr h=>?_)
 ·obtain ⟨a,dx,us,rfl,_⟩:=h
  rfl
 ·obtain ⟨a,dx,us,rfl,ho,hl,q⟩:=h
  obtain ⟨u1,u2,rfl⟩:=m7 hl
  refine ⟨_,ah (am (aC (aa af (aa (aU (pv 0) rfl) (aa (aU (pv 0) rfl) ac))))),?_⟩
  exact ⟨_,rfl,a,C 1,dx,_,_,rfl,ho,T.cls 1 (by decide),T.na 1 (by decide) "to" (by decide +kernel),rfl,_,rfl,a,C 1,dx,_,_,rfl,ho,T.cls 1 (by decide),T.na 1 (by decide) "sel" (by decide +kernel),rfl,(by show 3<=sizeLine;decide),fun t ht=>q t ht⟩
abbrev we:Stmt:=a4 (bS 50) 1
theorem yD:aq ["self"] ["self"] (al we):=⟨rfl,rfl,rfl,by decide +kernel,rfl,by decide +kernel,by decide +kernel⟩
theorem wg {f:Addr} {fd:FuncData} (F:Fun K "told" "Cell.told" we f fd) (T:Ct K mg C fi):aI P w K mg base bE 1 f fd ["self"] (eP C 2):=by
 refine F.ok yD (fun vs H Q E h=>?_) (fun cdv A outer s H vs Q E hr h=>?_)
 ·obtain ⟨a,dx,us,rfl,_⟩:=h
  rfl
 ·obtain ⟨a,dx,us,rfl,ho,hl,q⟩:=h
  obtain ⟨u1,u2,rfl⟩:=m7 hl
  refine ⟨_,ah (am (aC (aa af (aa (aU (pv 0) rfl) (aa (aU (pv 0) rfl) ac))))),?_⟩
  exact ⟨_,rfl,a,C 2,dx,_,_,rfl,ho,T.cls 2 (by decide),T.na 2 (by decide) "to" (by decide +kernel),rfl,_,rfl,a,C 2,dx,_,_,rfl,ho,T.cls 2 (by decide),T.na 2 (by decide) "source" (by decide +kernel),rfl,(by show 3<=sizeLine;decide),fun t ht=>q t ht⟩
abbrev wj:Stmt:=a4 (bS 51) 1
theorem yE:aq ["self"] ["self"] (al wj):=⟨rfl,rfl,rfl,by decide +kernel,rfl,by decide +kernel,by decide +kernel⟩
theorem wk {f:Addr} {fd:FuncData} (F:Fun K "told" "Two.told" wj f fd) (T:Ct K mg C fi):aI P w K mg base bE 1 f fd ["self"] (eP C 3):=by
 refine F.ok yE (fun vs H Q E h=>?_) (fun cdv A outer s H vs Q E hr h=>?_)
 ·obtain ⟨a,dx,us,rfl,_⟩:=h
  rfl
 ·obtain ⟨a,dx,us,rfl,ho,hl,q⟩:=h
  obtain ⟨u1,u2,u3,u4,rfl⟩:=Bm hl
  refine ⟨_,ah (am (aC (aa af (aa (aU (pv 0) rfl) (aa (aU (pv 0) rfl) (aa (aU (pv 0) rfl) (aa (aU (pv 0) rfl) ac))))))),?_⟩
  exact ⟨_,rfl,a,C 3,dx,_,_,rfl,ho,T.cls 3 (by decide),T.na 3 (by decide) "to" (by decide +kernel),rfl,_,rfl,a,C 3,dx,_,_,rfl,ho,T.cls 3 (by decide),T.na 3 (by decide) "op" (by decide +kernel),rfl,_,rfl,a,C 3,dx,_,_,rfl,ho,T.cls 3 (by decide),T.na 3 (by decide) "one" (by decide +kernel),rfl,_,rfl,a,C 3,dx,_,_,rfl,ho,T.cls 3 (by decide),T.na 3 (by decide) "other" (by decide +kernel),rfl,(by show 5<=sizeLine;decide),fun t ht=>q t ht⟩
abbrev wo:Stmt:=a4 (bS 52) 1
theorem yF:aq ["self"] ["self"] (al wo):=⟨rfl,rfl,rfl,by decide +kernel,rfl,by decide +kernel,by decide +kernel⟩
theorem wp {f:Addr} {fd:FuncData} (F:Fun K "told" "Put.told" wo f fd) (T:Ct K mg C fi):aI P w K mg base bE 1 f fd ["self"] (eP C 4):=by
 refine F.ok yF (fun vs H Q E h=>?_) (fun cdv A outer s H vs Q E hr h=>?_)
 ·obtain ⟨a,dx,us,rfl,_⟩:=h
  rfl
 ·obtain ⟨a,dx,us,rfl,ho,hl,q⟩:=h
  obtain ⟨u1,u2,rfl⟩:=m7 hl
  refine ⟨_,ah (am (aC (aa af (aa (aU (pv 0) rfl) (aa (aU (pv 0) rfl) ac))))),?_⟩
  exact ⟨_,rfl,a,C 4,dx,_,_,rfl,ho,T.cls 4 (by decide),T.na 4 (by decide) "sel" (by decide +kernel),rfl,_,rfl,a,C 4,dx,_,_,rfl,ho,T.cls 4 (by decide),T.na 4 (by decide) "source" (by decide +kernel),rfl,(by show 3<=sizeLine;decide),fun t ht=>q t ht⟩
abbrev wq:Stmt:=a4 (bS 53) 1
theorem yG:aq ["self"] ["self"] (al wq):=⟨rfl,rfl,rfl,by decide +kernel,rfl,by decide +kernel,by decide +kernel⟩
theorem wt {f:Addr} {fd:FuncData} (F:Fun K "told" "Tell.told" wq f fd) (T:Ct K mg C fi):aI P w K mg base bE 1 f fd ["self"] (eP C 5):=by
 refine F.ok yG (fun vs H Q E h=>?_) (fun cdv A outer s H vs Q E hr h=>?_)
 ·obtain ⟨a,dx,us,rfl,_⟩:=h
  rfl
 ·obtain ⟨a,dx,us,rfl,ho,hl,q⟩:=h
  obtain ⟨u1,u2,rfl⟩:=m7 hl
  refine ⟨_,ah (am (aC (aa af (aa (aU (pv 0) rfl) (aa (aU (pv 0) rfl) ac))))),?_⟩
  exact ⟨_,rfl,a,C 5,dx,_,_,rfl,ho,T.cls 5 (by decide),T.na 5 (by decide) "sel" (by decide +kernel),rfl,_,rfl,a,C 5,dx,_,_,rfl,ho,T.cls 5 (by decide),T.na 5 (by decide) "source" (by decide +kernel),rfl,(by show 3<=sizeLine;decide),fun t ht=>q t ht⟩
abbrev wu:Stmt:=a4 (bS 54) 1
theorem yH:aq ["self"] ["self"] (al wu):=⟨rfl,rfl,rfl,by decide +kernel,rfl,by decide +kernel,by decide +kernel⟩
theorem wv {f:Addr} {fd:FuncData} (F:Fun K "told" "Store.told" wu f fd) (T:Ct K mg C fi):aI P w K mg base bE 1 f fd ["self"] (eP C 6):=by
 refine F.ok yH (fun vs H Q E h=>?_) (fun cdv A outer s H vs Q E hr h=>?_)
 ·obtain ⟨a,dx,us,rfl,_⟩:=h
  rfl
 ·obtain ⟨a,dx,us,rfl,ho,hl,q⟩:=h
  obtain ⟨u1,u2,rfl⟩:=m7 hl
  refine ⟨_,ah (am (aC (aa af (aa (aU (pv 0) rfl) (aa (aU (pv 0) rfl) ac))))),?_⟩
  exact ⟨_,rfl,a,C 6,dx,_,_,rfl,ho,T.cls 6 (by decide),T.na 6 (by decide) "at" (by decide +kernel),rfl,_,rfl,a,C 6,dx,_,_,rfl,ho,T.cls 6 (by decide),T.na 6 (by decide) "source" (by decide +kernel),rfl,(by show 3<=sizeLine;decide),fun t ht=>q t ht⟩
def db (C:Nat->Addr) (k:Nat):Sp:=fun vs H Q _=>∃ (p a dx:Addr) (us:List V) (ts:List Th),vs=[.ref a]/\H a=some (.ins (C k) dx ((qG k).zip us))/\us.length=(qG k).length/\TgA p H us ts/\StpT (.tup (.str (mZ k)::ts))/\Q (.str (S (cW (.tup (.str (mZ k)::ts))))) H
theorem ba {l:Nat} {t:Th} (h:SelT t\/SrcT t):(bf l t).length<=10:=by
 have key:∀ (k:Str) (i:Nat),i<=16777215->(pre l k).length<=1->(bf l (.tup [.str k,.int (i:Nat)])).length<=10:=fun k i hi hp=>by
  show (pre l k++dg i).length<=10
  have:=aN hi
  rw [By];omega
 rcases h with h|h
 ·cases h with
  | is i hi=>exact key _ i (by omega) (by rw [gu];simp)
  | «by» i hi=>exact key _ i (by omega) (by rw [gv];simp)
 ·cases h with
  | fld i hi=>exact key _ i (by omega) (by rw [dP];simp)
  | num i hi=>exact key _ i (by omega) (by rw [dQ];simp)
  | inn i hi=>exact key _ i (by omega) (by rw [fJ];simp)
abbrev Aw:Stmt:=a4 (bS 48) 2
theorem Ax:aq ["self"] ["self"] (al Aw):=⟨rfl,rfl,rfl,by decide +kernel,rfl,by decide +kernel,by decide +kernel⟩
set_option maxHeartbeats 2000000 in
theorem yI {f:Addr} {fd:FuncData} (F:Fun K "words" "Get.words" Aw f fd) (T:Ct K mg C fi) (PL:Fn P w K mg base "place_words" 1 ["sel"] (gM 112 SelT)):aI P w K mg base bE 2 f fd ["self"] (db C 0):=by
 refine F.ok Ax (fun vs H Q E h=>?_) (fun cdv A outer s H vs Q E hr h=>?_)
 ·obtain ⟨p,a,dx,us,ts,rfl,_⟩:=h
  rfl
 ·obtain ⟨p,a,dx,us,ts,rfl,ho,hl,ta,st,q⟩:=h
  have hr1:Room 1 _:=hr
  refine ⟨_,ah (am (cf (bq (bi (aU (pv 0) rfl) (bq (bi (ao PL hr1 rfl (aa (aU (pv 0) rfl) ac)) cG)))))),?_⟩
  generalize ht:Th.tup (.str (mZ 0)::ts)=t at *
  cases st with
  | @get k s hk hs=>
   have hts:=(BA (Th.tup.inj ht)).2
   subst hts
   obtain ⟨u0,u1,rfl,t0,t1⟩:=bP ta
   cases t0
   have l0:=aN (n:=k) (by omega)
   have l1:=ba (l:=112) (.inl hs)
   have eL:(Str.empty++("get r":Str))=S (cp "get r"):=by decide +kernel
   have eB:(" ":Str)=S [32]:=by decide +kernel
   refine ⟨by rw [eL];exact aD (by decide +kernel),?_⟩
   rw [eL]
   refine ⟨_,rfl,a,C 0,dx,_,_,rfl,ho,T.cls 0 (by decide),T.na 0 (by decide) "to" (by decide +kernel),rfl,.inl ⟨k,rfl,a5 (by omega),?_⟩⟩
   rw [bw,aP]
   refine ⟨aD ?_,?_⟩
   ·simp only [By,Bx,Bz,m8];omega
   rw [eB,aP]
   refine ⟨aD ?_,?_⟩
   ·simp only [By,Bx,Bz,m8];omega
   refine ⟨_,rfl,a,C 0,dx,_,_,rfl,ho,T.cls 0 (by decide),T.na 0 (by decide) "sel" (by decide +kernel),rfl,p,_,_,rfl,t1,hs,.inr ⟨_,rfl,aD (by omega),?_⟩⟩
   rw [aP]
   refine ⟨aD ?_,?_⟩
   ·simp only [By,Bx,Bz,m8];omega
   refine ⟨aD ?_,?_⟩
   ·simp only [By,Bx,Bz,m8];omega
   have et:cW (.tup [.str "get",.int (k:Nat),s])=TK.jn [32] [cp "get",114::dg k,bf 112 s]:=by
    show TK.jn [32] [cp "get",114::dg k,bf (bL "get") s]=_
    rw [jO]
   rw [et] at q
   have ez:cp "get r"++dg k++[32]++bf 112 s=TK.jn [32] [cp "get",114::dg k,bf 112 s]:=by
    rw [Ao]
    simp only [TK.jn,BT,Cj,Cu]
   rw [ez]
   exact q
  | ask _ _ _=>exact absurd (Th.str.inj (BA (Th.tup.inj ht)).1) (by decide +kernel)
  | cell _ _ _=>exact absurd (Th.str.inj (BA (Th.tup.inj ht)).1) (by decide +kernel)
  | two _ _ _ _ _=>exact absurd (Th.str.inj (BA (Th.tup.inj ht)).1) (by decide +kernel)
  | put _ _=>exact absurd (Th.str.inj (BA (Th.tup.inj ht)).1) (by decide +kernel)
  | tell _ _=>exact absurd (Th.str.inj (BA (Th.tup.inj ht)).1) (by decide +kernel)
  | store _ _=>exact absurd (Th.str.inj (BA (Th.tup.inj ht)).1) (by decide +kernel)
abbrev Ay:Stmt:=a4 (bS 49) 2
theorem Az:aq ["self"] ["self"] (al Ay):=⟨rfl,rfl,rfl,by decide +kernel,rfl,by decide +kernel,by decide +kernel⟩
set_option maxHeartbeats 2000000 in
theorem yJ {f:Addr} {fd:FuncData} (F:Fun K "words" "Ask.words" Ay f fd) (T:Ct K mg C fi) (ML:Fn P w K mg base "mark_words" 1 ["sel"] (gM 109 SelT)):aI P w K mg base bE 2 f fd ["self"] (db C 1):=by
 refine F.ok Az (fun vs H Q E h=>?_) (fun cdv A outer s H vs Q E hr h=>?_)
 ·obtain ⟨p,a,dx,us,ts,rfl,_⟩:=h
  rfl
 ·obtain ⟨p,a,dx,us,ts,rfl,ho,hl,ta,st,q⟩:=h
  have hr1:Room 1 _:=hr
  refine ⟨_,ah (am (cf (bq (bi (aU (pv 0) rfl) (bq (bi (ao ML hr1 rfl (aa (aU (pv 0) rfl) ac)) cG)))))),?_⟩
  generalize ht:Th.tup (.str (mZ 1)::ts)=t at *
  cases st with
  | get _ _ _=>exact absurd (Th.str.inj (BA (Th.tup.inj ht)).1) (by decide +kernel)
  | @ask k s hk hs=>
   have hts:=(BA (Th.tup.inj ht)).2
   subst hts
   obtain ⟨u0,u1,rfl,t0,t1⟩:=bP ta
   cases t0
   have l0:=aN (n:=k) (by omega)
   have l1:=ba (l:=109) (.inl hs)
   have eL:(Str.empty++("ask r":Str))=S (cp "ask r"):=by decide +kernel
   have eB:(" ":Str)=S [32]:=by decide +kernel
   refine ⟨by rw [eL];exact aD (by decide +kernel),?_⟩
   rw [eL]
   refine ⟨_,rfl,a,C 1,dx,_,_,rfl,ho,T.cls 1 (by decide),T.na 1 (by decide) "to" (by decide +kernel),rfl,.inl ⟨k,rfl,a5 (by omega),?_⟩⟩
   rw [bw,aP]
   refine ⟨aD ?_,?_⟩
   ·simp only [By,Bx,Bz,m9];omega
   rw [eB,aP]
   refine ⟨aD ?_,?_⟩
   ·simp only [By,Bx,Bz,m9];omega
   refine ⟨_,rfl,a,C 1,dx,_,_,rfl,ho,T.cls 1 (by decide),T.na 1 (by decide) "sel" (by decide +kernel),rfl,p,_,_,rfl,t1,hs,.inr ⟨_,rfl,aD (by omega),?_⟩⟩
   rw [aP]
   refine ⟨aD ?_,?_⟩
   ·simp only [By,Bx,Bz,m9];omega
   refine ⟨aD ?_,?_⟩
   ·simp only [By,Bx,Bz,m9];omega
   have et:cW (.tup [.str "ask",.int (k:Nat),s])=TK.jn [32] [cp "ask",114::dg k,bf 109 s]:=by
    show TK.jn [32] [cp "ask",114::dg k,bf (bL "ask") s]=_
    rw [jQ]
   rw [et] at q
   have ez:cp "ask r"++dg k++[32]++bf 109 s=TK.jn [32] [cp "ask",114::dg k,bf 109 s]:=by
    rw [Ap]
    simp only [TK.jn,BT,Cj,Cu]
   rw [ez]
   exact q
  | cell _ _ _=>exact absurd (Th.str.inj (BA (Th.tup.inj ht)).1) (by decide +kernel)
  | two _ _ _ _ _=>exact absurd (Th.str.inj (BA (Th.tup.inj ht)).1) (by decide +kernel)
  | put _ _=>exact absurd (Th.str.inj (BA (Th.tup.inj ht)).1) (by decide +kernel)
  | tell _ _=>exact absurd (Th.str.inj (BA (Th.tup.inj ht)).1) (by decide +kernel)
  | store _ _=>exact absurd (Th.str.inj (BA (Th.tup.inj ht)).1) (by decide +kernel)
abbrev AA:Stmt:=a4 (bS 50) 2
theorem AB:aq ["self"] ["self"] (al AA):=⟨rfl,rfl,rfl,by decide +kernel,rfl,by decide +kernel,by decide +kernel⟩
set_option maxHeartbeats 2000000 in
theorem yK {f:Addr} {fd:FuncData} (F:Fun K "words" "Cell.words" AA f fd) (T:Ct K mg C fi) (SL:Fn P w K mg base "source_words" 1 ["source"] (gM 114 SrcT)):aI P w K mg base bE 2 f fd ["self"] (db C 2):=by
 refine F.ok AB (fun vs H Q E h=>?_) (fun cdv A outer s H vs Q E hr h=>?_)
 ·obtain ⟨p,a,dx,us,ts,rfl,_⟩:=h
  rfl
 ·obtain ⟨p,a,dx,us,ts,rfl,ho,hl,ta,st,q⟩:=h
  have hr1:Room 1 _:=hr
  refine ⟨_,ah (am (cf (bq (bi (aU (pv 0) rfl) (bq (bi (ao SL hr1 rfl (aa (aU (pv 0) rfl) ac)) cG)))))),?_⟩
  generalize ht:Th.tup (.str (mZ 2)::ts)=t at *
  cases st with
  | get _ _ _=>exact absurd (Th.str.inj (BA (Th.tup.inj ht)).1) (by decide +kernel)
  | ask _ _ _=>exact absurd (Th.str.inj (BA (Th.tup.inj ht)).1) (by decide +kernel)
  | @cell k s hk hs=>
   have hts:=(BA (Th.tup.inj ht)).2
   subst hts
   obtain ⟨u0,u1,rfl,t0,t1⟩:=bP ta
   cases t0
   have l0:=aN (n:=k) (by omega)
   have l1:=ba (l:=114) (.inr hs)
   have eL:(Str.empty++("cell r":Str))=S (cp "cell r"):=by decide +kernel
   have eB:(" ":Str)=S [32]:=by decide +kernel
   refine ⟨by rw [eL];exact aD (by decide +kernel),?_⟩
   rw [eL]
   refine ⟨_,rfl,a,C 2,dx,_,_,rfl,ho,T.cls 2 (by decide),T.na 2 (by decide) "to" (by decide +kernel),rfl,.inl ⟨k,rfl,a5 (by omega),?_⟩⟩
   rw [bw,aP]
   refine ⟨aD ?_,?_⟩
   ·simp only [By,Bx,Bz,ng];omega
   rw [eB,aP]
   refine ⟨aD ?_,?_⟩
   ·simp only [By,Bx,Bz,ng];omega
   refine ⟨_,rfl,a,C 2,dx,_,_,rfl,ho,T.cls 2 (by decide),T.na 2 (by decide) "source" (by decide +kernel),rfl,p,_,_,rfl,t1,hs,.inr ⟨_,rfl,aD (by omega),?_⟩⟩
   rw [aP]
   refine ⟨aD ?_,?_⟩
   ·simp only [By,Bx,Bz,ng];omega
   refine ⟨aD ?_,?_⟩
   ·simp only [By,Bx,Bz,ng];omega
   have et:cW (.tup [.str "cell",.int (k:Nat),s])=TK.jn [32] [cp "cell",114::dg k,bf 114 s]:=by
    show TK.jn [32] [cp "cell",114::dg k,bf (bL "cell") s]=_
    rw [dR (l:=bL "cell") hs]
   rw [et] at q
   have ez:cp "cell r"++dg k++[32]++bf 114 s=TK.jn [32] [cp "cell",114::dg k,bf 114 s]:=by
    rw [Aq]
    simp only [TK.jn,BT,Cj,Cu]
   rw [ez]
   exact q
  | two _ _ _ _ _=>exact absurd (Th.str.inj (BA (Th.tup.inj ht)).1) (by decide +kernel)
  | put _ _=>exact absurd (Th.str.inj (BA (Th.tup.inj ht)).1) (by decide +kernel)
  | tell _ _=>exact absurd (Th.str.inj (BA (Th.tup.inj ht)).1) (by decide +kernel)
  | store _ _=>exact absurd (Th.str.inj (BA (Th.tup.inj ht)).1) (by decide +kernel)
abbrev AC:Stmt:=a4 (bS 51) 2
theorem AE:aq ["self"] ["self"] (al AC):=⟨rfl,rfl,rfl,by decide +kernel,rfl,by decide +kernel,by decide +kernel⟩
set_option maxHeartbeats 2000000 in
theorem yL {f:Addr} {fd:FuncData} (F:Fun K "words" "Two.words" AC f fd) (T:Ct K mg C fi) (SL:Fn P w K mg base "source_words" 1 ["source"] (gM 114 SrcT)):aI P w K mg base bE 2 f fd ["self"] (db C 3):=by
 refine F.ok AE (fun vs H Q E h=>?_) (fun cdv A outer s H vs Q E hr h=>?_)
 ·obtain ⟨p,a,dx,us,ts,rfl,_⟩:=h
  rfl
 ·obtain ⟨p,a,dx,us,ts,rfl,ho,hl,ta,st,q⟩:=h
  have hr1:Room 1 _:=hr
  refine ⟨_,ah (am (cf (bq (bi (aU (pv 0) rfl) (bq (bi (aU (pv 0) rfl) (bq (bi (ao SL hr1 rfl (aa (aU (pv 0) rfl) ac)) (bq (bi (ao SL hr1 rfl (aa (aU (pv 0) rfl) ac)) cG)))))))))),?_⟩
  generalize ht:Th.tup (.str (mZ 3)::ts)=t at *
  cases st with
  | get _ _ _=>exact absurd (Th.str.inj (BA (Th.tup.inj ht)).1) (by decide +kernel)
  | ask _ _ _=>exact absurd (Th.str.inj (BA (Th.tup.inj ht)).1) (by decide +kernel)
  | cell _ _ _=>exact absurd (Th.str.inj (BA (Th.tup.inj ht)).1) (by decide +kernel)
  | @two k o x y hk ho' hx hy=>
   have hts:=(BA (Th.tup.inj ht)).2
   subst hts
   obtain ⟨u0,u1,u2,u3,rfl,t0,t1,t2,t3⟩:=mq ta
   cases t0
   cases t1
   have l0:=aN (n:=k) (by omega)
   have l1:=jU o ho'
   have l2:=ba (l:=114) (.inr hx)
   have l3:=ba (l:=114) (.inr hy)
   have eL:(Str.empty++("two r":Str))=S (cp "two r"):=by decide +kernel
   have eB:(" ":Str)=S [32]:=by decide +kernel
   refine ⟨by rw [eL];exact aD (by decide +kernel),?_⟩
   rw [eL]
   refine ⟨_,rfl,a,C 3,dx,_,_,rfl,ho,T.cls 3 (by decide),T.na 3 (by decide) "to" (by decide +kernel),rfl,.inl ⟨k,rfl,a5 (by omega),?_⟩⟩
   rw [bw,aP]
   refine ⟨aD ?_,?_⟩
   ·simp only [By,Bx,Bz,gF];omega
   rw [eB,aP]
   refine ⟨aD ?_,?_⟩
   ·simp only [By,Bx,Bz,gF];omega
   refine ⟨_,rfl,a,C 3,dx,_,_,rfl,ho,T.cls 3 (by decide),T.na 3 (by decide) "op" (by decide +kernel),rfl,.inr ⟨o,rfl,?_⟩⟩
   rw [<-bn o,aP]
   refine ⟨aD (by omega),aD ?_,?_⟩
   ·simp only [By,Bx,Bz,gF];omega
   rw [aP]
   refine ⟨aD ?_,?_⟩
   ·simp only [By,Bx,Bz,gF];omega
   refine ⟨_,rfl,a,C 3,dx,_,_,rfl,ho,T.cls 3 (by decide),T.na 3 (by decide) "one" (by decide +kernel),rfl,p,_,_,rfl,t2,hx,.inr ⟨_,rfl,aD (by omega),?_⟩⟩
   rw [aP]
   refine ⟨aD ?_,?_⟩
   ·simp only [By,Bx,Bz,gF];omega
   rw [aP]
   refine ⟨aD ?_,?_⟩
   ·simp only [By,Bx,Bz,gF];omega
   refine ⟨_,rfl,a,C 3,dx,_,_,rfl,ho,T.cls 3 (by decide),T.na 3 (by decide) "other" (by decide +kernel),rfl,p,_,_,rfl,t3,hy,.inr ⟨_,rfl,aD (by omega),?_⟩⟩
   rw [aP]
   refine ⟨aD ?_,?_⟩
   ·simp only [By,Bx,Bz,gF];omega
   refine ⟨aD ?_,?_⟩
   ·simp only [By,Bx,Bz,gF];omega
   have et:cW (.tup [.str "two",.int (k:Nat),.str o,x,y])=TK.jn [32] [cp "two",114::dg k,cp o,bf 114 x,bf 114 y]:=by
    show TK.jn [32] [cp "two",114::dg k,cp o,bf (bL "two") x,bf (bL "two") y]=_
    rw [dR (l:=bL "two") hx,dR (l:=bL "two") hy]
   rw [et] at q
   have ez:cp "two r"++dg k++[32]++cp o++[32]++bf 114 x++[32]++bf 114 y=TK.jn [32] [cp "two",114::dg k,cp o,bf 114 x,bf 114 y]:=by
    rw [Ar]
    simp only [TK.jn,BT,Cj,Cu]
   rw [ez]
   exact q
  | put _ _=>exact absurd (Th.str.inj (BA (Th.tup.inj ht)).1) (by decide +kernel)
  | tell _ _=>exact absurd (Th.str.inj (BA (Th.tup.inj ht)).1) (by decide +kernel)
  | store _ _=>exact absurd (Th.str.inj (BA (Th.tup.inj ht)).1) (by decide +kernel)
abbrev AF:Stmt:=a4 (bS 52) 2
theorem AG:aq ["self"] ["self"] (al AF):=⟨rfl,rfl,rfl,by decide +kernel,rfl,by decide +kernel,by decide +kernel⟩
set_option maxHeartbeats 2000000 in
theorem yM {f:Addr} {fd:FuncData} (F:Fun K "words" "Put.words" AF f fd) (T:Ct K mg C fi) (PL:Fn P w K mg base "place_words" 1 ["sel"] (gM 112 SelT)) (SL:Fn P w K mg base "source_words" 1 ["source"] (gM 114 SrcT)):aI P w K mg base bE 2 f fd ["self"] (db C 4):=by
 refine F.ok AG (fun vs H Q E h=>?_) (fun cdv A outer s H vs Q E hr h=>?_)
 ·obtain ⟨p,a,dx,us,ts,rfl,_⟩:=h
  rfl
 ·obtain ⟨p,a,dx,us,ts,rfl,ho,hl,ta,st,q⟩:=h
  have hr1:Room 1 _:=hr
  refine ⟨_,ah (am (cf (bq (bi (ao PL hr1 rfl (aa (aU (pv 0) rfl) ac)) (bq (bi (ao SL hr1 rfl (aa (aU (pv 0) rfl) ac)) cG)))))),?_⟩
  generalize ht:Th.tup (.str (mZ 4)::ts)=t at *
  cases st with
  | get _ _ _=>exact absurd (Th.str.inj (BA (Th.tup.inj ht)).1) (by decide +kernel)
  | ask _ _ _=>exact absurd (Th.str.inj (BA (Th.tup.inj ht)).1) (by decide +kernel)
  | cell _ _ _=>exact absurd (Th.str.inj (BA (Th.tup.inj ht)).1) (by decide +kernel)
  | two _ _ _ _ _=>exact absurd (Th.str.inj (BA (Th.tup.inj ht)).1) (by decide +kernel)
  | @put s x hs hx=>
   have hts:=(BA (Th.tup.inj ht)).2
   subst hts
   obtain ⟨u0,u1,rfl,t0,t1⟩:=bP ta
   have l0:=ba (l:=112) (.inl hs)
   have l1:=ba (l:=114) (.inr hx)
   have eL:(Str.empty++("put ":Str))=S (cp "put "):=by decide +kernel
   have eB:(" ":Str)=S [32]:=by decide +kernel
   refine ⟨by rw [eL];exact aD (by decide +kernel),?_⟩
   rw [eL]
   refine ⟨_,rfl,a,C 4,dx,_,_,rfl,ho,T.cls 4 (by decide),T.na 4 (by decide) "sel" (by decide +kernel),rfl,p,_,_,rfl,t0,hs,.inr ⟨_,rfl,aD (by omega),?_⟩⟩
   rw [aP]
   refine ⟨aD ?_,?_⟩
   ·simp only [By,Bx,Bz,ni];omega
   rw [eB,aP]
   refine ⟨aD ?_,?_⟩
   ·simp only [By,Bx,Bz,ni];omega
   refine ⟨_,rfl,a,C 4,dx,_,_,rfl,ho,T.cls 4 (by decide),T.na 4 (by decide) "source" (by decide +kernel),rfl,p,_,_,rfl,t1,hx,.inr ⟨_,rfl,aD (by omega),?_⟩⟩
   rw [aP]
   refine ⟨aD ?_,?_⟩
   ·simp only [By,Bx,Bz,ni];omega
   refine ⟨aD ?_,?_⟩
   ·simp only [By,Bx,Bz,ni];omega
   have et:cW (.tup [.str "put",s,x])=TK.jn [32] [cp "put",bf 112 s,bf 114 x]:=by
    show TK.jn [32] [cp "put",bf (bL "put") s,bf (bL "put") x]=_
    rw [dR (l:=bL "put") hx,jP]
   rw [et] at q
   have ez:cp "put "++bf 112 s++[32]++bf 114 x=TK.jn [32] [cp "put",bf 112 s,bf 114 x]:=by
    rw [As]
    simp only [TK.jn,BT,Cj,Cu]
   rw [ez]
   exact q
  | tell _ _=>exact absurd (Th.str.inj (BA (Th.tup.inj ht)).1) (by decide +kernel)
  | store _ _=>exact absurd (Th.str.inj (BA (Th.tup.inj ht)).1) (by decide +kernel)
abbrev AH:Stmt:=a4 (bS 53) 2
theorem AI:aq ["self"] ["self"] (al AH):=⟨rfl,rfl,rfl,by decide +kernel,rfl,by decide +kernel,by decide +kernel⟩
set_option maxHeartbeats 2000000 in
theorem yN {f:Addr} {fd:FuncData} (F:Fun K "words" "Tell.words" AH f fd) (T:Ct K mg C fi) (ML:Fn P w K mg base "mark_words" 1 ["sel"] (gM 109 SelT)) (SL:Fn P w K mg base "source_words" 1 ["source"] (gM 114 SrcT)):aI P w K mg base bE 2 f fd ["self"] (db C 5):=by
 refine F.ok AI (fun vs H Q E h=>?_) (fun cdv A outer s H vs Q E hr h=>?_)
 ·obtain ⟨p,a,dx,us,ts,rfl,_⟩:=h
  rfl
 ·obtain ⟨p,a,dx,us,ts,rfl,ho,hl,ta,st,q⟩:=h
  have hr1:Room 1 _:=hr
  refine ⟨_,ah (am (cf (bq (bi (ao ML hr1 rfl (aa (aU (pv 0) rfl) ac)) (bq (bi (ao SL hr1 rfl (aa (aU (pv 0) rfl) ac)) cG)))))),?_⟩
  generalize ht:Th.tup (.str (mZ 5)::ts)=t at *
  cases st with
  | get _ _ _=>exact absurd (Th.str.inj (BA (Th.tup.inj ht)).1) (by decide +kernel)
  | ask _ _ _=>exact absurd (Th.str.inj (BA (Th.tup.inj ht)).1) (by decide +kernel)
  | cell _ _ _=>exact absurd (Th.str.inj (BA (Th.tup.inj ht)).1) (by decide +kernel)
  | two _ _ _ _ _=>exact absurd (Th.str.inj (BA (Th.tup.inj ht)).1) (by decide +kernel)
  | put _ _=>exact absurd (Th.str.inj (BA (Th.tup.inj ht)).1) (by decide +kernel)
  | @tell s x hs hx=>
   have hts:=(BA (Th.tup.inj ht)).2
   subst hts
   obtain ⟨u0,u1,rfl,t0,t1⟩:=bP ta
   have l0:=ba (l:=109) (.inl hs)
   have l1:=ba (l:=114) (.inr hx)
   have eL:(Str.empty++("tell ":Str))=S (cp "tell "):=by decide +kernel
   have eB:(" ":Str)=S [32]:=by decide +kernel
   refine ⟨by rw [eL];exact aD (by decide +kernel),?_⟩
   rw [eL]
   refine ⟨_,rfl,a,C 5,dx,_,_,rfl,ho,T.cls 5 (by decide),T.na 5 (by decide) "sel" (by decide +kernel),rfl,p,_,_,rfl,t0,hs,.inr ⟨_,rfl,aD (by omega),?_⟩⟩
   rw [aP]
   refine ⟨aD ?_,?_⟩
   ·simp only [By,Bx,Bz,nj];omega
   rw [eB,aP]
   refine ⟨aD ?_,?_⟩
   ·simp only [By,Bx,Bz,nj];omega
   refine ⟨_,rfl,a,C 5,dx,_,_,rfl,ho,T.cls 5 (by decide),T.na 5 (by decide) "source" (by decide +kernel),rfl,p,_,_,rfl,t1,hx,.inr ⟨_,rfl,aD (by omega),?_⟩⟩
   rw [aP]
   refine ⟨aD ?_,?_⟩
   ·simp only [By,Bx,Bz,nj];omega
   refine ⟨aD ?_,?_⟩
   ·simp only [By,Bx,Bz,nj];omega
   have et:cW (.tup [.str "tell",s,x])=TK.jn [32] [cp "tell",bf 109 s,bf 114 x]:=by
    show TK.jn [32] [cp "tell",bf (bL "tell") s,bf (bL "tell") x]=_
    rw [dR (l:=bL "tell") hx,ie]
   rw [et] at q
   have ez:cp "tell "++bf 109 s++[32]++bf 114 x=TK.jn [32] [cp "tell",bf 109 s,bf 114 x]:=by
    rw [Au]
    simp only [TK.jn,BT,Cj,Cu]
   rw [ez]
   exact q
  | store _ _=>exact absurd (Th.str.inj (BA (Th.tup.inj ht)).1) (by decide +kernel)
abbrev AJ:Stmt:=a4 (bS 54) 2
theorem AK:aq ["self"] ["self"] (al AJ):=⟨rfl,rfl,rfl,by decide +kernel,rfl,by decide +kernel,by decide +kernel⟩
set_option maxHeartbeats 2000000 in
theorem yO {f:Addr} {fd:FuncData} (F:Fun K "words" "Store.words" AJ f fd) (T:Ct K mg C fi) (SL:Fn P w K mg base "source_words" 1 ["source"] (gM 114 SrcT)):aI P w K mg base bE 2 f fd ["self"] (db C 6):=by
 refine F.ok AK (fun vs H Q E h=>?_) (fun cdv A outer s H vs Q E hr h=>?_)
 ·obtain ⟨p,a,dx,us,ts,rfl,_⟩:=h
  rfl
 ·obtain ⟨p,a,dx,us,ts,rfl,ho,hl,ta,st,q⟩:=h
  have hr1:Room 1 _:=hr
  refine ⟨_,ah (am (cf (bq (bi (ao SL hr1 rfl (aa (aU (pv 0) rfl) ac)) (bq (bi (ao SL hr1 rfl (aa (aU (pv 0) rfl) ac)) cG)))))),?_⟩
  generalize ht:Th.tup (.str (mZ 6)::ts)=t at *
  cases st with
  | get _ _ _=>exact absurd (Th.str.inj (BA (Th.tup.inj ht)).1) (by decide +kernel)
  | ask _ _ _=>exact absurd (Th.str.inj (BA (Th.tup.inj ht)).1) (by decide +kernel)
  | cell _ _ _=>exact absurd (Th.str.inj (BA (Th.tup.inj ht)).1) (by decide +kernel)
  | two _ _ _ _ _=>exact absurd (Th.str.inj (BA (Th.tup.inj ht)).1) (by decide +kernel)
  | put _ _=>exact absurd (Th.str.inj (BA (Th.tup.inj ht)).1) (by decide +kernel)
  | tell _ _=>exact absurd (Th.str.inj (BA (Th.tup.inj ht)).1) (by decide +kernel)
  | @store x y hx hy=>
   have hts:=(BA (Th.tup.inj ht)).2
   subst hts
   obtain ⟨u0,u1,rfl,t0,t1⟩:=bP ta
   have l0:=ba (l:=114) (.inr hx)
   have l1:=ba (l:=114) (.inr hy)
   have eL:(Str.empty++("store ":Str))=S (cp "store "):=by decide +kernel
   have eB:(" ":Str)=S [32]:=by decide +kernel
   refine ⟨by rw [eL];exact aD (by decide +kernel),?_⟩
   rw [eL]
   refine ⟨_,rfl,a,C 6,dx,_,_,rfl,ho,T.cls 6 (by decide),T.na 6 (by decide) "at" (by decide +kernel),rfl,p,_,_,rfl,t0,hx,.inr ⟨_,rfl,aD (by omega),?_⟩⟩
   rw [aP]
   refine ⟨aD ?_,?_⟩
   ·simp only [By,Bx,Bz,nu];omega
   rw [eB,aP]
   refine ⟨aD ?_,?_⟩
   ·simp only [By,Bx,Bz,nu];omega
   refine ⟨_,rfl,a,C 6,dx,_,_,rfl,ho,T.cls 6 (by decide),T.na 6 (by decide) "source" (by decide +kernel),rfl,p,_,_,rfl,t1,hy,.inr ⟨_,rfl,aD (by omega),?_⟩⟩
   rw [aP]
   refine ⟨aD ?_,?_⟩
   ·simp only [By,Bx,Bz,nu];omega
   refine ⟨aD ?_,?_⟩
   ·simp only [By,Bx,Bz,nu];omega
   have et:cW (.tup [.str "store",x,y])=TK.jn [32] [cp "store",bf 114 x,bf 114 y]:=by
    show TK.jn [32] [cp "store",bf (bL "store") x,bf (bL "store") y]=_
    rw [dR (l:=bL "store") hx,dR (l:=bL "store") hy]
   rw [et] at q
   have ez:cp "store "++bf 114 x++[32]++bf 114 y=TK.jn [32] [cp "store",bf 114 x,bf 114 y]:=by
    rw [Av]
    simp only [TK.jn,BT,Cj,Cu]
   rw [ez]
   exact q
end
end L3
namespace L2
open PySem PySem.Spec PyProof.Rows
section
variable {X:Cx}
def wx (P:Program) (w:World) (K:PySem.W.Frag) (mg:Str->Option Value) (base:Heap) (k:Nat) (m:Str) (ta:TE):TE:=fun σ H Q=>ta σ H fun x H1=>∃ (a dx C f:Addr) (fs:List (Str×V)) (fd:FuncData) (ps:List Str) (sp:Sp),x=.ref a/\H1 a=some (.ins C dx fs)/\fs.lookup m=none /\
 Cls K C/\vf K C m f/\aI P w K mg base bE k f fd ps sp/\Binds K fd ps []/\sp [.ref a] H1 Q E0
theorem cD {P:Program} {w:World} {K:PySem.W.Frag} {mg:Str->Option Value} {base:Heap} {k:Nat} {pl:Sem Bool} {o:Expr} {m:Str} {ta:TE} {pos apos:Pos} (hP:X.prog=P) (hw:X.w=w) (hK:X.K=K) (hmg:X.mg=mg) (hbs:X.base=base) (hr:Room k X.A) (he:PE X o ta)
  (ht:eval (.Call (.Attribute o m apos) [] [] pos) X.env=(do
   let ov <-eval o X.env
   standAt apos.atName
   let (f,first) <-holding [ov] (getMethod ov m pl)
   callWith pos f first (backTo pos (starEach [] X.env)) (backToKw pos (keywordEach [] X.env))):=by rfl) :
  PE X (.Call (.Attribute o m apos) [] [] pos) (wx P w K mg base k m ta):=by
 subst hP hw hK hmg hbs
 refine ⟨?_⟩
 intro pins s σ H Q I h
 refine PySem.W.methodCall_KW (pl:=pl) (bA (he pins s σ H _ I h) fun u s1 ⟨x,H1,I1,rx,a,dx,C,f,fs,fd,ps,sp,ex,ea,l,c,hm,F,hb,q⟩=>?_) ht
 subst ex
 obtain rfl:u=Value.ref a:=rx
 refine lI I1 ea c hm l ?_
 exact PySem.W.callWith_K0 (first:=[.ref a]) I1.kIn hm.kp (js (us:=[.ref a]) (vs:=[.ref a]) (dvs:=[]) (ds:=[]) F hr hb .nil c7 I1 (.cons rfl .nil) q)
theorem qI {K:PySem.W.Frag} (hK:X.K=K):cA X (.builtin "isinstance") (fun xs H Q=>∃ (v y:V) (t c:Value) (b:Bool),xs=[v,y]/\ft K H v t/\(∀ u,RelV y u->u=c)/\PySem.W.kitOne K t c=some b/\Q (.bl b) H):=by
 subst hK
 intro pins s σ H xs us Q I r h
 obtain ⟨v,y,t,c,b,rfl,ty,hy,e,q⟩:=h
 cases r with
 | cons r1 r2=>
  cases r2 with
  | cons r2 r3=>
   cases r3
   rw [hy _ r2]
   exact iP I r1 ty e fun tk=>⟨.bl b,H,I.tok _,rfl,q⟩
end
end L2
namespace L3
open PySem L2
def gG (P:Program) (w:World) (K:PySem.W.Frag) (mg:Str->Option Value) (base:Heap) (C:Addr) (nm:Str) (n:Nat) (ps:List Str) (sp:Sp):Prop:=∃ f fd,vf K C nm f/\aI P w K mg base bE n f fd ps sp/\Binds K fd ps []
theorem uQ {α β:Type} {R:α->β->Prop} {x:α} {y:β} (h:R x y):∀ {xs:List α} {ys:List β},Paired R xs ys->Paired R (xs++[x]) (ys++[y])
 | _,_,.nil=>.cons h .nil
 | _,_,.cons a t=>.cons a (uQ h t)
theorem tG {α β:Type} {R:α->β->Prop}:∀ {xs:List α} {ys:List β},Paired R xs ys->∀ {i:Nat} {x:α},xs[i]?=some x->∃ y,ys[i]?=some y/\R x y
 | _,_,.cons a t,0,_,h=>by cases h;exact ⟨_,rfl,a⟩
 | _,_,.cons a t,i+1,_,h=>tG t (i:=i) h
inductive LiO (C:Nat->Addr) (cT p:Addr) (H:Hp):V->Th->Prop
 | mk (a dx tp:Addr) (us:List V) (o:V) (ss:List Th) (on:Th):H a=some (.ins cT dx [("steps",.ref tp),("on",o)])->H tp=some (.tup us)->Paired (StO C p H) us ss->TgV p H o on->OnT on->ss.length<=16->(∀ s∈ss,StpT s)->LiO C cT p H (.ref a) (.tup [.tup ss,on])
theorem LiO.same {C:Nat->Addr} {cT p:Addr} {H H':Hp} {v:V} {t:Th} (s:Same H H') (h:LiO C cT p H v t):LiO C cT p H' v t:=by
 cases h with
 | mk a dx tp us o ss on e e2 ps to ho hl hs=>exact .mk a dx tp us o ss on (s _ _ e) (s _ _ e2) (L2.Paired.mapP ps fun _ _ h=>h.same s) (to.same s) ho hl hs
theorem LiO.but {C:Nat->Addr} {cT p:Addr} {H H':Hp} {v:V} {t:Th} (g:Strm H p) (b:But p H H') (h:LiO C cT p H v t):LiO C cT p H' v t:=by
 cases h with
 | mk a dx tp us o ss on e e2 ps to ho hl hs=>
  have ne:∀ {q:Addr} {u:HO},H q=some u->(∀ x y z,u≠sm x y z)->q≠p:=by
   rintro q u hq hu rfl
   obtain ⟨x,y,z,h⟩:=g
   rw [h] at hq
   exact hu x y z (BY hq).symm
  exact .mk a dx tp us o ss on (b _ _ e (ne e (by intro x y z h;cases h))) (b _ _ e2 (ne e2 (by intro x y z h;cases h))) (L2.Paired.mapP ps fun _ _ h=>h.but g b) (to.but g b) ho hl hs
theorem nv {u:Th} (h:EndT u):TK.jn [32] (eM (.tup [.str "done",u]))=cp "done"++[32]++TK.jn [32] (ic u):=by
 have e:eM (.tup [.str "done",u])=cp "done"::ic u:=by cases h<;>rfl
 have n:ic u≠[]:=by cases h<;>simp [ic]
 rw [e]
 match ic u,n with
 | x::r,_=>
  show cp "done"++([32]++TK.jn [32] (x::r))=_
  simp
def yP:Sp:=fun vs H Q _=>∃ (p:Addr) (v:V) (t:Th),vs=[v]/\TgV p H v t/\EndT t/\∀ H',Same H H'->Q (.str (S (TK.jn [32] (ic t)))) H'
def yQ:Sp:=fun vs H Q _=>∃ (p:Addr) (v:V) (t:Th),vs=[v]/\TgV p H v t/\OnT t/\∀ H',Same H H'->Q (.str (S (TK.jn [32] (eM t)))) H'
theorem gN {p:Addr} {H:Hp} {v:V} {x:Str} (h:TgV p H v (.tup [.str x])):∃ a,v=.ref a/\H a=some (.tup [.str x]):=by
 cases h with
 | tup e ta=>exact match ta with|.cons (.str _) .nil=>⟨_,rfl,e⟩
theorem ny {p:Addr} {H:Hp} {v:V} {x z:Str} (h:TgV p H v (.tup [.str x,.str z])):∃ a,v=.ref a/\H a=some (.tup [.str x,.str z]):=by
 cases h with
 | tup e ta=>exact match ta with|.cons (.str _) (.cons (.str _) .nil)=>⟨_,rfl,e⟩
theorem nz {p:Addr} {H:Hp} {v:V} {x:Str} {t:Th} (h:TgV p H v (.tup [.str x,t])):∃ a u,v=.ref a/\H a=some (.tup [.str x,u])/\TgV p H u t:=by
 cases h with
 | tup e ta=>exact match ta with|.cons (.str _) (.cons h .nil)=>⟨_,_,rfl,e,h⟩
theorem tH {p:Addr} {H:Hp} {v:V} {x:Str} {i j k:Int} (h:TgV p H v (.tup [.str x,.int i,.int j,.int k])):∃ a,v=.ref a/\H a=some (.tup [.str x,.int i,.int j,.int k]):=by
 cases h with
 | tup e ta=>exact match ta with|.cons (.str _) (.cons (.int _) (.cons (.int _) (.cons (.int _) .nil)))=>⟨_,rfl,e⟩
theorem nA:∀ z∈ou,(cp z).length<=8:=by decide +kernel
theorem mr {t:Th} (h:EndT t):(TK.jn [32] (ic t)).length<=30:=by
 cases h with
 | next=>decide +kernel
 | back=>decide +kernel
 | stop=>decide +kernel
 | go i hi=>have:=aN (n:=i) (by omega);show (cp "go"++([32]++(102::dg i))).length<=30;simp only [By,Bx,Bz,show (cp "go").length=2 from by decide +kernel];omega
 | call i hi=>have:=aN (n:=i) (by omega);show (cp "call"++([32]++(102::dg i))).length<=30;simp only [By,Bx,Bz,show (cp "call").length=4 from by decide +kernel];omega
 | fault z hz=>have:=nA z hz;show (cp "fault"++([32]++cp z)).length<=30;simp only [By,Bx,Bz,show (cp "fault").length=5 from by decide +kernel];omega
section
variable {P:Program} {w:World} {K:PySem.W.Frag} {mg:Str->Option Value} {base:Heap} {C fi:Nat->Addr} {cT:Addr}
theorem wz:aq ["end"] ["end"] (al pQ):=⟨rfl,rfl,rfl,by decide +kernel,rfl,by decide +kernel,by decide +kernel⟩
set_option maxHeartbeats 1000000 in
theorem tI {f:Addr} {fd:FuncData} (F:Fun K "end_words" "end_words" pQ f fd):aI P w K mg base bE 1 f fd ["end"] yP:=by
 refine F.ok wz (fun vs H Q E h=>?_) (fun cdv A outer s H vs Q E hr h=>?_)
 ·obtain ⟨p,v,t,rfl,_⟩:=h
  rfl
 ·obtain ⟨p,v,t,rfl,tv,st,q⟩:=h
  refine ⟨_,ak (aH (ax cx (ap au (pv 0) ad (fun _ _=>rfl)) (aC (aa af (aa af ac))) rfl) (ah (am (cf (bi (ap au (pv 0) ad (fun _ _=>rfl)) (bq (bi (ap au (pv 0) ad (fun _ _=>rfl)) cG)))))) aw)
   (ah (am (bV BK Ca B9 qp af (aa (pv 0) ac)))),?_⟩
  have ask:∀ (a:Addr) (x:Str) (r:List V),H a=some (.tup (.str x::r))->∀ t,H t=none->∃ H1,az H t (.tup [.str "go",.str "call"])=H1/\Same H H1/\H1 t=some (.tup ((["go","call"]:List Str).map V.str))/\H1 a=some (.tup (.str x::r)):=fun a x r e t nt=>⟨_,rfl,aj nt,ae,aj nt _ _ e⟩
  have jo:∀ (a:Addr) (ts:List (List Nat)) (H1:Hp),H1 a=some (.tup (ts.map fun t=>V.str (S t)))->Same H H1->(ts.map List.length).sum+ts.length*1<=1000->TK.jn [32] ts=TK.jn [32] (ic t)->z1 K "str" (fun x xs H Q=>∃ sep a ts,x=.str (S sep)/\xs=[.ref a]/\SqT K H a (ts.map fun t=>V.str (S t))/\(ts.map List.length).sum+ts.length*sep.length<=100000/\Q (.str (S (TK.jn sep ts))) H) (tC (.str " ")) (o0 (rD 0) rM) [some (.ref a)] H1 Q:=fun a ts H1 e s1 hl et=>by
   refine ⟨rfl,_,rfl,[32],a,ts,congrArg V.str ge,rfl,SqT.of e,by show _+_*1<=100000;omega,?_⟩
   rw [et]
   exact q _ s1
  cases st with
  | next=>
   obtain ⟨a,rfl,e⟩:=gN tv
   refine ⟨_,rfl,a,_,_,_,rfl,rfl,SqT.of e,rfl,(by show 2<=sizeLine;decide),fun t nt=>?_⟩
   obtain ⟨H1,eH,s1,et,ea⟩:=ask a _ _ e t nt
   rw [eH]
   refine ⟨t,_,rfl,.inr (SqT.of et),rfl,by decide +kernel,_,rfl,aR (by rw [bZ];decide +kernel) ?_⟩
   exact jo a [cp "next"] H1 (by rw [ea];rw [BR,bn];rfl) s1 (by decide +kernel) rfl
  | back=>
   obtain ⟨a,rfl,e⟩:=gN tv
   refine ⟨_,rfl,a,_,_,_,rfl,rfl,SqT.of e,rfl,(by show 2<=sizeLine;decide),fun t nt=>?_⟩
   obtain ⟨H1,eH,s1,et,ea⟩:=ask a _ _ e t nt
   rw [eH]
   refine ⟨t,_,rfl,.inr (SqT.of et),rfl,by decide +kernel,_,rfl,aR (by rw [bZ];decide +kernel) ?_⟩
   exact jo a [cp "back"] H1 (by rw [ea];rw [BR,bn];rfl) s1 (by decide +kernel) rfl
  | stop=>
   obtain ⟨a,rfl,e⟩:=gN tv
   refine ⟨_,rfl,a,_,_,_,rfl,rfl,SqT.of e,rfl,(by show 2<=sizeLine;decide),fun t nt=>?_⟩
   obtain ⟨H1,eH,s1,et,ea⟩:=ask a _ _ e t nt
   rw [eH]
   refine ⟨t,_,rfl,.inr (SqT.of et),rfl,by decide +kernel,_,rfl,aR (by rw [bZ];decide +kernel) ?_⟩
   exact jo a [cp "stop"] H1 (by rw [ea];rw [BR,bn];rfl) s1 (by decide +kernel) rfl
  | fault z hz=>
   obtain ⟨a,rfl,e⟩:=ny tv
   refine ⟨_,rfl,a,_,_,_,rfl,rfl,SqT.of e,rfl,(by show 2<=sizeLine;decide),fun t nt=>?_⟩
   obtain ⟨H1,eH,s1,et,ea⟩:=ask a _ _ e t nt
   rw [eH]
   refine ⟨t,_,rfl,.inr (SqT.of et),rfl,by decide +kernel,_,rfl,aR (by rw [bZ];decide +kernel) ?_⟩
   have:=nA z hz
   exact jo a [cp "fault",cp z] H1 (by rw [ea];rw [BR,BR,bn,bn];rfl) s1 (by simp only [BR,List.map_nil,CM,List.sum_nil,Bx,Bz,show (cp "fault").length=5 from by decide +kernel];omega) rfl
  | go i hi=>
   obtain ⟨a,rfl,e⟩:=cH tv
   refine ⟨_,rfl,a,_,_,_,rfl,rfl,SqT.of e,rfl,(by show 2<=sizeLine;decide),fun t nt=>?_⟩
   obtain ⟨H1,eH,s1,et,ea⟩:=ask a _ _ e t nt
   rw [eH]
   refine ⟨t,_,rfl,.inr (SqT.of et),rfl,by decide +kernel,_,rfl,bg (by rw [bZ];decide +kernel) ?_⟩
   have l9:=aN (n:=i) (by omega)
   have eL:(Str.empty++("go":Str))++(" f":Str)=S (cp "go"++[32,102]):=by decide +kernel
   refine ⟨_,rfl,a,_,_,_,rfl,rfl,SqT.of ea,rfl,.inr ⟨_,rfl,by decide +kernel,by decide +kernel,?_⟩⟩
   rw [eL]
   refine ⟨by decide +kernel,?_⟩
   refine ⟨_,rfl,a,_,_,_,rfl,rfl,SqT.of ea,rfl,.inl ⟨i,rfl,a5 (by omega),?_⟩⟩
   rw [bw,aP]
   have hz:(cp "go"++[32,102]++dg i).length<=10000:=by simp only [By,Bx,Bz,show (cp "go").length=2 from by decide +kernel];omega
   refine ⟨aD hz,aD hz,?_⟩
   have:=q _ s1
   rw [show TK.jn [32] (ic (.tup [.str "go",.int (i:Nat)]))=cp "go"++[32,102]++dg i from by show cp "go"++([32]++(102::dg i))=_;simp] at this
   exact this
  | call i hi=>
   obtain ⟨a,rfl,e⟩:=cH tv
   refine ⟨_,rfl,a,_,_,_,rfl,rfl,SqT.of e,rfl,(by show 2<=sizeLine;decide),fun t nt=>?_⟩
   obtain ⟨H1,eH,s1,et,ea⟩:=ask a _ _ e t nt
   rw [eH]
   refine ⟨t,_,rfl,.inr (SqT.of et),rfl,by decide +kernel,_,rfl,bg (by rw [bZ];decide +kernel) ?_⟩
   have l9:=aN (n:=i) (by omega)
   have eL:(Str.empty++("call":Str))++(" f":Str)=S (cp "call"++[32,102]):=by decide +kernel
   refine ⟨_,rfl,a,_,_,_,rfl,rfl,SqT.of ea,rfl,.inr ⟨_,rfl,by decide +kernel,by decide +kernel,?_⟩⟩
   rw [eL]
   refine ⟨by decide +kernel,?_⟩
   refine ⟨_,rfl,a,_,_,_,rfl,rfl,SqT.of ea,rfl,.inl ⟨i,rfl,a5 (by omega),?_⟩⟩
   rw [bw,aP]
   have hz:(cp "call"++[32,102]++dg i).length<=10000:=by simp only [By,Bx,Bz,show (cp "call").length=4 from by decide +kernel];omega
   refine ⟨aD hz,aD hz,?_⟩
   have:=q _ s1
   rw [show TK.jn [32] (ic (.tup [.str "call",.int (i:Nat)]))=cp "call"++[32,102]++dg i from by show cp "call"++([32]++(102::dg i))=_;simp] at this
   exact this
theorem yR:aq ["on"] ["on"] (al vF):=⟨rfl,rfl,rfl,by decide +kernel,rfl,by decide +kernel,by decide +kernel⟩
set_option maxHeartbeats 1000000 in
theorem wB {f:Addr} {fd:FuncData} (F:Fun K "on_words" "on_words" vF f fd) (EW:Fn P w K mg base "end_words" 1 ["end"] yP):aI P w K mg base bE 2 f fd ["on"] yQ:=by
 refine F.ok yR (fun vs H Q E h=>?_) (fun cdv A outer s H vs Q E hr h=>?_)
 ·obtain ⟨p,v,t,rfl,_⟩:=h
  rfl
 ·obtain ⟨p,v,t,rfl,tv,st,q⟩:=h
  have hr1:Room 1 _:=hr
  refine ⟨_,ak (aH (ax bb (ap au (pv 0) ad (fun _ _=>rfl)) af (aB _)) (ah (am (cV (ap au (pv 0) ad (fun _ _=>rfl))))) aw)
   (ak (aH (ax bb (ap au (pv 0) ad (fun _ _=>rfl)) af (aB _)) (ah (am (cf (bq (bi (ao EW hr1 rfl (aa (ap au (pv 0) ad (fun _ _=>rfl)) ac)) cG))))) aw)
   (ah (am (cf (bi (ap au (pv 0) ad (fun _ _=>rfl)) (bq (bi (ap au (pv 0) ad (fun _ _=>rfl)) (bq (bi (ap au (pv 0) ad (fun _ _=>rfl)) (bq (bi (ap au (pv 0) ad (fun _ _=>rfl)) cG))))))))))),?_⟩
  cases st with
  | on i hi=>
   obtain ⟨a,rfl,e⟩:=cH tv
   have l9:=aN (n:=i) (by omega)
   have tx:("on ":Str)++(toString ((i:Nat):Int):Str)=S (TK.jn [32] (eM (.tup [.str "on",.int (i:Nat)]))):=by
    rw [bw,show ("on ":Str)=S (cp "on"++[32]) from by decide +kernel,aP]
    show S (cp "on"++[32]++dg i)=S (cp "on"++([32]++dg i))
    rw [BT]
   refine ⟨_,rfl,a,_,_,_,rfl,rfl,SqT.of e,rfl,rfl,_,rfl,bg (by decide +kernel) ⟨_,rfl,a,_,_,_,rfl,rfl,SqT.of e,rfl,i,rfl,a5 (by omega),?_,?_⟩⟩
   ·rw [tx]
    refine aD ?_
    show (cp "on"++([32]++dg i)).length<=10000
    simp only [By,Bx,Bz,show (cp "on").length=2 from by decide +kernel];omega
   ·rw [tx];exact q _ (Same.refl _)
  | @done u he=>
   obtain ⟨a,x,rfl,e,hx⟩:=nz tv
   have el:=mr he
   refine ⟨_,rfl,a,_,_,_,rfl,rfl,SqT.of e,rfl,rfl,_,rfl,aR (by decide +kernel) ?_⟩
   refine ⟨_,rfl,a,_,_,_,rfl,rfl,SqT.of e,rfl,rfl,_,rfl,bg (by decide +kernel) ⟨by decide +kernel,?_⟩⟩
   refine ⟨_,rfl,a,_,_,_,rfl,rfl,SqT.of e,rfl,p,x,u,rfl,hx,he,fun H1 s1=>.inr ⟨_,rfl,aD (by omega),?_⟩⟩
   rw [show (Str.empty++("done ":Str))=S (cp "done"++[32]) from by decide +kernel,aP]
   have hz:(cp "done"++[32]++TK.jn [32] (ic u)).length<=10000:=by simp only [By,Bx,Bz,show (cp "done").length=4 from by decide +kernel];omega
   refine ⟨aD hz,aD hz,?_⟩
   have:=q _ s1
   rw [nv he] at this
   exact this
  | two z i x y hz hi hx hy=>
   obtain ⟨a,rfl,e⟩:=tH tv
   have l1:=aN (n:=i) (by omega)
   have l2:=aN (n:=x) (by omega)
   have l3:=aN (n:=y) (by omega)
   have lz:(cp z).length<=4:=by rcases hz with rfl|rfl<;>decide +kernel
   refine ⟨_,rfl,a,_,_,_,rfl,rfl,SqT.of e,rfl,rfl,_,rfl,aR (by rcases hz with rfl|rfl<;>decide +kernel) ?_⟩
   refine ⟨_,rfl,a,_,_,_,rfl,rfl,SqT.of e,rfl,rfl,_,rfl,aR (by rcases hz with rfl|rfl<;>decide +kernel) ?_⟩
   refine ⟨_,rfl,a,_,_,_,rfl,rfl,SqT.of e,rfl,.inr ⟨z,rfl,by rw [<-cy];exact BN lz (by decide),?_⟩⟩
   rw [jM,show (" r":Str)=S [32,114] from by decide +kernel,<-bn z,aP]
   have ll:∀ {l:List Nat},l.length<=100->(S l).length<=sizeLine:=fun h=>aD (by omega)
   refine ⟨ll (by omega),ll (by simp only [By,Bx,Bz];omega),?_⟩
   refine ⟨_,rfl,a,_,_,_,rfl,rfl,SqT.of e,rfl,.inl ⟨i,rfl,a5 (by omega),?_⟩⟩
   rw [bw,aP,ge,aP]
   refine ⟨ll (by simp only [By,Bx,Bz];omega),ll (by simp only [By,Bx,Bz];omega),?_⟩
   refine ⟨_,rfl,a,_,_,_,rfl,rfl,SqT.of e,rfl,.inl ⟨x,rfl,a5 (by omega),?_⟩⟩
   rw [bw,aP,aP]
   refine ⟨ll (by simp only [By,Bx,Bz];omega),ll (by simp only [By,Bx,Bz];omega),?_⟩
   refine ⟨_,rfl,a,_,_,_,rfl,rfl,SqT.of e,rfl,.inl ⟨y,rfl,a5 (by omega),?_⟩⟩
   rw [bw,aP]
   refine ⟨ll (by simp only [By,Bx,Bz];omega),ll (by simp only [By,Bx,Bz];omega),?_⟩
   have:=q _ (Same.refl _)
   rw [show TK.jn [32] (eM (.tup [.str z,.int (i:Nat),.int (x:Nat),.int (y:Nat)]))=cp z++[32,114]++dg i++[32]++dg x++[32]++dg y from by show cp z++([32]++((114::dg i)++([32]++(dg x++([32]++dg y)))))=_;simp] at this
   exact this
end
end L3
namespace L3
open PySem L2
abbrev qJ:Stmt:=a4 (bS 60) 0
abbrev jV:Stmt:=a4 (bS 60) 1
abbrev jW:Stmt:=a4 (bS 60) 2
def ms (C:Addr):Sp:=fun vs H Q _=>∃ (x dx l:Addr) (us:List V) (o:V),vs=[.ref x,.ref l,o]/\H x=some (.ins C dx [])/\H l=some (.lst us)/\∀ tp,H tp=none->Q .non (az (az (az H tp (.tup us)) x (.ins C dx [("steps",.ref tp)])) x (.ins C dx [("steps",.ref tp),("on",o)]))
theorem gg {x:Str}:∀ {ks:List Str} {us:List V},x∉ks->(ks.zip us).lookup x=none
 | [],_,_=>rfl
 | k::ks,[],_=>rfl
 | k::ks,u::us,h=>by
  show (match x == k with|true=>some u|false=>(ks.zip us).lookup x)=none
  rw [beq_eq_false_iff_ne.mpr (fun z:x=k=>h (by rw [z];exact BJ))]
  exact gg fun z=>h (BF _ z)
structure zB (P:Program) (w:World) (K:PySem.W.Frag) (mg:Str->Option Value) (base:Heap) (C:Nat->Addr):Prop where
 cls:∀ k,k < 7->Cls K (C k)
 told:∀ k,k < 7->gG P w K mg base (C k) "told" 1 ["self"] (eP C k)
 words:∀ k,k < 7->gG P w K mg base (C k) "words" 2 ["self"] (db C k)
theorem jX:∀ k,("told":Str)∉qG k/\("words":Str)∉qG k:=fun k=>by
 match k with
 | 0=>decide +kernel
 | 1=>decide +kernel
 | 2=>decide +kernel
 | 3=>decide +kernel
 | 4=>decide +kernel
 | 5=>decide +kernel
 | k+6=>exact (by decide +kernel:("told":Str)∉qG 6/\("words":Str)∉qG 6)
structure Lc (K:PySem.W.Frag) (cT:Addr):Prop where
 cls:Cls K cT
 n1:NoAttr K cT "steps"
 n2:NoAttr K cT "on"
def nB (C:Nat->Addr) (cT:Addr):Sp:=fun vs H Q _=>∃ (p:Addr) (v:V) (t:Th),vs=[v]/\LiO C cT p H v t/\∀ r H',Same H H'->TgV p H' r t->Q r H'
def qK (C:Nat->Addr) (cT:Addr):Sp:=fun vs H Q _=>∃ (p:Addr) (v:V) (t:Th),vs=[v]/\LiO C cT p H v t/\∀ H',Same H H'->Q (.str (S (fH t))) H'
def qL (C:Nat->Addr) (cT:Addr):Sp:=fun vs H Q _=>∃ (p:Addr) (v:V) (t:Th),vs=[v]/\TgV p H v t/\LitT t/\∀ u H',Same H H'->LiO C cT p H' u t->Q u H'
theorem wC {t:Th} (h:StpT t):(cW t).length<=40:=by
 have j3:∀ {a b c:List Nat},a.length<=5->b.length<=10->c.length<=10->(TK.jn [32] [a,b,c]).length<=40:=fun {a b c} h1 h2 h3=>by
  show (a++([32]++(b++([32]++c)))).length<=40
  simp only [By,Bx,Bz];omega
 have j5:∀ {a b c d e:List Nat},a.length<=3->b.length<=10->c.length<=2->d.length<=10->e.length<=10->(TK.jn [32] [a,b,c,d,e]).length<=40:=fun {a b c d e} h1 h2 h3 h4 h5=>by
  show (a++([32]++(b++([32]++(c++([32]++(d++([32]++e)))))))).length<=40
  simp only [By,Bx,Bz];omega
 have num:∀ {k:Nat},k < 8->(114::dg k).length<=10:=fun {k} h=>by
  have:=aN (n:=k) (by omega)
  simp only [Bx];omega
 cases h with
 | get k hk hs=>exact j3 (by decide +kernel) (num hk) (ba (l:=bL "get") (.inl hs))
 | ask k hk hs=>exact j3 (by decide +kernel) (num hk) (ba (l:=bL "ask") (.inl hs))
 | cell k hk hs=>exact j3 (by decide +kernel) (num hk) (ba (l:=bL "cell") (.inr hs))
 | two k hk ho hx hy=>exact j5 (by decide +kernel) (num hk) (jU _ ho) (ba (l:=bL "two") (.inr hx)) (ba (l:=bL "two") (.inr hy))
 | put hs hx=>exact j3 (by decide +kernel) (ba (l:=bL "put") (.inl hs)) (ba (l:=bL "put") (.inr hx))
 | tell hs hx=>exact j3 (by decide +kernel) (ba (l:=bL "tell") (.inl hs)) (ba (l:=bL "tell") (.inr hx))
 | store hx hy=>exact j3 (by decide +kernel) (ba (l:=bL "store") (.inr hx)) (ba (l:=bL "store") (.inr hy))
theorem mt {t:Th} (h:OnT t):(TK.jn [32] (eM t)).length<=60:=by
 cases h with
 | two z i x y hz hi hx hy=>
  have l1:=aN (n:=i) (by omega)
  have l2:=aN (n:=x) (by omega)
  have l3:=aN (n:=y) (by omega)
  have lz:(cp z).length<=4:=by rcases hz with rfl|rfl<;>decide +kernel
  show (cp z++([32]++((114::dg i)++([32]++(dg x++([32]++dg y)))))).length<=60
  simp only [By,Bx,Bz];omega
 | on i hi=>
  have l1:=aN (n:=i) (by omega)
  show (cp "on"++([32]++dg i)).length<=60
  simp only [By,Bx,Bz,show (cp "on").length=2 from by decide +kernel];omega
 | done he=>
  rw [nv he]
  have:=mr he
  simp only [By,Bx,Bz,show (cp "done").length=4 from by decide +kernel];omega
theorem gw {ss:List Th} (h:∀ s∈ss,StpT s) (hl:ss.length<=16):((ss.map cW).map List.length).sum<=640/\(TK.jn [32,44,32] (ss.map cW)).length<=700:=by
 have a:=jL 40 (ss.map cW) fun z hz=>by
  obtain ⟨s,hs,rfl⟩:=Cn.mp hz
  exact wC (h s hs)
 have b:=qg [32,44,32] (ss.map cW)
 rw [BE] at a b
 have c:ss.length*([32,44,32]:List Nat).length<=48:=by show ss.length*3<=48;omega
 constructor<;>omega
section
variable {P:Program} {w:World} {K:PySem.W.Frag} {mg:Str->Option Value} {base:Heap} {C fi:Nat->Addr} {cT:Addr}
theorem wD:aq ["self","steps","on"] ["self","steps","on"] (al qJ):=⟨rfl,rfl,rfl,by decide +kernel,rfl,by decide +kernel,by decide +kernel⟩
theorem tJ {f:Addr} {fd:FuncData} (F:Fun K "__init__" "Little.__init__" qJ f fd) (B:Bl mg) (c:Cls K cT) (n1:NoAttr K cT "steps") (n2:NoAttr K cT "on"):aI P w K mg base bE 1 f fd ["self","steps","on"] (ms cT):=by
 refine F.ok wD (fun vs H Q E h=>?_) (fun cdv A outer s H vs Q E hr h=>?_)
 ·obtain ⟨x,dx,l,us,o,rfl,_⟩:=h
  rfl
 ·obtain ⟨x,dx,l,us,o,rfl,hx,hl,q⟩:=h
  refine ⟨_,ak (bO (pv 0) (aY cb (by rfl) B.tuple bh (aa (pv 1) ac)) rfl) (ah (bO (pv 0) (pv 2) rfl)),?_⟩
  refine ⟨_,rfl,l,us,rfl,.inl ⟨SqL.of hl,fun tp np=>?_⟩⟩
  have hx1:(az H tp (.tup us)) x=some (.ins cT dx []):=by rw [aG (aS hx np)];exact hx
  have q':=q tp np
  refine ⟨_,rfl,x,cT,dx,_,rfl,hx1,c,n1,(by show 0 < 1000;decide),?_⟩
  exact ⟨_,rfl,_,rfl,x,cT,dx,_,rfl,ae,c,n2,(by show 1 < 1000;decide),q'⟩
theorem tK:aq ["self"] ["self"] (al jV):=⟨rfl,rfl,rfl,by decide +kernel,rfl,by decide +kernel,by decide +kernel⟩
theorem wE:(["step"]:List Str).Nodup:=by decide +kernel
set_option maxHeartbeats 2000000 in
theorem qM {f:Addr} {fd:FuncData} (F:Fun K "told" "Little.told" jV f fd) (B:Bl mg) (L:Lc K cT) (M:zB P w K mg base C):aI P w K mg base bE 2 f fd ["self"] (nB C cT):=by
 refine F.ok tK (fun vs H Q E h=>?_) (fun cdv A outer s H vs Q E hr h=>?_)
 ·obtain ⟨p,v,t,rfl,_⟩:=h
  rfl
 ·obtain ⟨p,v,t,rfl,lo,q⟩:=h
  have hr1:Room 1 _:=hr
  have sz:(100000:Nat)<=sizeLine:=by decide
  refine ⟨_,ah (am (aC (aa (aY cb (by rfl) B.tuple bh (aa (fc (N':=["step"]) (ix:=[none]) (sc0:=al jV) (N:=["self"]) rfl (by decide +kernel) (fh (aU (pv 0) rfl))
     (fun C' cl s H fp=>bt (i:=0) wE rfl (Or.inl rfl) (.inr rfl)) (fun _ _ _ _ _=>df) (fun C' cl s H fp=>cD (P:=P) (w:=w) (K:=K) (mg:=mg) (base:=base) (k:=1) rfl rfl rfl rfl rfl hr1 (pv 0))) ac)) (aa (aU (pv 0) rfl) ac)))),?_⟩
  cases lo with
  | mk a dx tp us o ss on e e2 ps to ho hl hs=>
   have lus:=ps.length
   refine ⟨_,rfl,a,cT,dx,_,_,rfl,e,L.cls,L.n1,rfl,tp,rfl,⟨_,SqT.of e2⟩,?_⟩
   refine gp (K:=K) (a:=tp) (xs:=us) (fun i ys H'=>Same H H'/\ys.length=i/\TgA p H' ys (ss.take i)) ⟨Same.refl _,rfl,.nil⟩ (fun i ys H' hi ⟨s',e',_⟩=>⟨SqT.of (s' _ _ e2),by omega⟩) ?_ ?_
   ·rintro i z ys H2 hz ⟨s2,hl3,tg⟩
    have hlt:i < us.length:=(BM.mp hz).1
    obtain ⟨t,et,st⟩:=tG ps hz
    have st:=st.same s2
    cases st with
    | mk k a2 dx2 m7 ts hk e3 l3 ta sp=>
     obtain ⟨f2,fd2,m2,F2,b2⟩:=M.told k hk
     refine ⟨trivial,dh ⟨_,rfl,a2,dx2,C k,f2,_,fd2,_,_,rfl,e3,gg (jX k).1,M.cls k hk,m2,F2,b2,a2,dx2,m7,rfl,e3,l3,fun r nr=>?_⟩⟩
     have s3:=aj (o:=.tup (.str (mZ k)::m7)) nr
     refine Nx.mk hlt ⟨s2.trans s3,by rw [By,hl3];rfl,?_⟩
     rw [Cs,et]
     exact (tg.same s3).snoc (.tup ae (.cons (.str _) (ta.same s3)))
   ·rintro ys H2 ⟨s2,hl3,tg⟩ D nD
    rw [lus,B1] at tg
    have s3:=aj (o:=.lst ys) nD
    have e3:(az H2 D (.lst ys)) D=some (.lst ys):=ae
    generalize az H2 D (.lst ys)=H3 at *
    refine ⟨D,ys,rfl,.inl ⟨SqL.of e3,fun t4 n4=>?_⟩⟩
    have s4:=aj (o:=.tup ys) n4
    have e4:(az H3 t4 (.tup ys)) t4=some (.tup ys):=ae
    generalize az H3 t4 (.tup ys)=H4 at *
    have s14:=(s2.trans s3).trans s4
    refine ⟨_,rfl,a,cT,dx,_,_,rfl,s14 _ _ e,L.cls,L.n2,rfl,(by show 2<=sizeLine;decide),fun r nr=>?_⟩
    have s5:=aj (o:=.tup [.ref t4,o]) nr
    exact q _ _ (s14.trans s5) (.tup ae (.cons (.tup (s5 _ _ e4) (tg.same ((s3.trans s4).trans s5))) (.cons (to.same (s14.trans s5)) .nil)))
theorem scLitWo:aq ["self","steps"] ["self"] (al jW):=⟨rfl,rfl,rfl,by decide +kernel,rfl,by decide +kernel,by decide +kernel⟩
set_option maxHeartbeats 2000000 in
theorem qN {f:Addr} {fd:FuncData} (F:Fun K "words" "Little.words" jW f fd) (B:Bl mg) (L:Lc K cT) (M:zB P w K mg base C) (OW:Fn P w K mg base "on_words" 2 ["on"] yQ):aI P w K mg base bE 3 f fd ["self"] (qK C cT):=by
 refine F.ok scLitWo (fun vs H Q E h=>?_) (fun cdv A outer s H vs Q E hr h=>?_)
 ·obtain ⟨p,v,t,rfl,_⟩:=h
  rfl
 ·obtain ⟨p,v,t,rfl,lo,q⟩:=h
  have sz:(100000:Nat)<=sizeLine:=by decide
  refine ⟨_,ak (a6 (i:=1) scLitWo.nd rfl (Or.inl rfl) (bV BK Ca B9 dL af (aa (fc (N':=["step"]) (ix:=[none]) (sc0:=al jW) (N:=["self","steps"]) rfl (by decide +kernel) (fh (aU (pv 0) rfl))
     (fun C' cl s H fp=>bt (i:=0) wE rfl (Or.inl rfl) (.inr rfl)) (fun _ _ _ _ _=>df) (fun C' cl s H fp=>cD (P:=P) (w:=w) (K:=K) (mg:=mg) (base:=base) (k:=2) rfl rfl rfl rfl rfl hr (pv 0))) ac)))
   (ah (am (dq (oW (aU (pv 0) rfl) (fun _=>rfl)) (cf (bi (pv 1) (bq (bi (ao OW hr rfl (aa (aU (pv 0) rfl) ac)) cG)))) (cf (bq (bi (ao OW hr rfl (aa (aU (pv 0) rfl) ac)) cG)))))),?_⟩
  cases lo with
  | mk a dx tp us o ss on e e2 ps to ho hl hs=>
   have lus:=ps.length
   obtain ⟨sl1,sl2⟩:=gw hs hl
   have ol:=mt ho
   refine ⟨rfl,_,rfl,a,cT,dx,_,_,rfl,e,L.cls,L.n1,rfl,tp,rfl,⟨_,SqT.of e2⟩,?_⟩
   refine gp (K:=K) (a:=tp) (xs:=us) (fun i ys H'=>Same H H'/\ys=((ss.take i).map cW).map (fun t=>V.str (S t))) ⟨Same.refl _,rfl⟩ (fun i ys H' hi ⟨s',e'⟩=>⟨SqT.of (s' _ _ e2),by rw [e',BE,BE,BZ];omega⟩) ?_ ?_
   ·rintro i z ys H2 hz ⟨s2,rfl⟩
    have hlt:i < us.length:=(BM.mp hz).1
    obtain ⟨t,et,st⟩:=tG ps hz
    have st:=st.same s2
    cases st with
    | mk k a2 dx2 m7 ts hk e3 l3 ta sp=>
     obtain ⟨f2,fd2,m2,F2,b2⟩:=M.words k hk
     refine ⟨trivial,dh ⟨_,rfl,a2,dx2,C k,f2,_,fd2,_,_,rfl,e3,gg (jX k).2,M.cls k hk,m2,F2,b2,p,a2,dx2,m7,ts,rfl,e3,l3,ta,sp,?_⟩⟩
     refine Nx.mk hlt ⟨s2,?_⟩
     rw [Cs,et,B8,B8]
     rfl
   ·rintro ys H2 ⟨s2,rfl⟩ D nD
    rw [lus,B1]
    have s3:=aj (o:=.lst ((ss.map cW).map (fun t=>V.str (S t)))) nD
    have e3:(az H2 D (.lst ((ss.map cW).map (fun t=>V.str (S t))))) D=some (.lst ((ss.map cW).map (fun t=>V.str (S t)))):=ae
    generalize az H2 D (.lst ((ss.map cW).map (fun t=>V.str (S t))))=H3 at *
    have s13:=s2.trans s3
    refine ⟨[32,44,32],D,ss.map cW,congrArg V.str vX,rfl,SqL.of e3,?_,?_⟩
    ·rw [BE]
     show _+ss.length*3<=100000
     omega
    refine ⟨_,rfl,a,cT,dx,_,_,rfl,s13 _ _ e,L.cls,L.n1,rfl,!us.isEmpty,.inr (.inl ⟨us,SqT.of (s13 _ _ e2),rfl⟩),?_⟩
    cases ss with
    | nil=>
     cases us with
     | cons _ _=>cases lus
     | nil=>
      refine bo ⟨by decide +kernel,_,rfl,a,cT,dx,_,_,rfl,s13 _ _ e,L.cls,L.n2,rfl,p,o,on,rfl,to.same s13,ho,fun H4 s4=>.inr ⟨_,rfl,aD (by omega),?_⟩⟩
      rw [show (Str.empty++(": ":Str))=S [58,32] from by decide +kernel,aP]
      have hz:([58,32]++TK.jn [32] (eM on)).length<=10000:=by simp only [By,Bx,Bz];omega
      exact ⟨aD hz,aD hz,q _ (s13.trans s4)⟩
    | cons s0 sr=>
     cases us with
     | nil=>cases lus
     | cons u0 ur=>
      refine bY ⟨_,rfl,.inr ⟨_,rfl,aD (by omega),?_⟩⟩
      rw [jM,yl,aP]
      refine ⟨aD (by omega),aD (by simp only [By,Bx,Bz];omega),?_⟩
      refine ⟨_,rfl,a,cT,dx,_,_,rfl,s13 _ _ e,L.cls,L.n2,rfl,p,o,on,rfl,to.same s13,ho,fun H4 s4=>.inr ⟨_,rfl,aD (by omega),?_⟩⟩
      rw [aP]
      have hz:(TK.jn [32,44,32] ((s0::sr).map cW)++[32,58,32]++TK.jn [32] (eM on)).length<=10000:=by simp only [By,Bx,Bz];omega
      refine ⟨aD hz,aD hz,?_⟩
      have:=q _ (s13.trans s4)
      have ew:fH (.tup [.tup (s0::sr),on])=TK.jn [32,44,32] ((s0::sr).map cW)++[32,58,32]++TK.jn [32] (eM on):=by
       show (if s0::sr=[] then [58,32] else TK.jn [32,44,32] ((s0::sr).map cW)++[32,58,32])++TK.jn [32] (eM on)=_
       rw [if_neg (by simp)]
      rw [ew] at this
      exact this
theorem LitT.ok {t:Th} (h:LitT t):bH t=true/\p7 t:=by
 obtain ⟨ss,on,rfl,hs,ho,hl⟩:=h.ex
 refine ⟨?_,fun ss' on' e=>?_⟩
 ·show (decide (ss.length<=16) && (ss.all stepOk && cv on))=true
  rw [decide_eq_true hl,ho.ok.1,Cd.mpr fun s h=>(hs s h).ok.1];rfl
 ·injection e with e
  injection e with e1 e2
  injection e1 with e1
  injection e2 with e2 _
  subst e1 e2
  exact ⟨fun s h=>(hs s h).ok.2,ho.ok.2,by omega⟩
theorem tO:aq ["told"] ["told"] (al eY):=⟨rfl,rfl,rfl,by decide +kernel,rfl,by decide +kernel,by decide +kernel⟩
set_option maxHeartbeats 8000000 in
theorem kX {f fT:Addr} {fd:FuncData} (F:Fun K "little_of" "little_of" eY f fd) (IL:Fn P w K mg base "is_little" 6 ["thing"] (spAsk bH p7)) (SF:Fn P w K mg base "step_of" 6 ["told"] (m5 C))
  (mk_:Mk K cT fT) (mT:mg "Little"=some (.ref cT)) (I0:gf P w K mg base fT ["self","steps","on"] (ms cT)):aI P w K mg base bE 7 f fd ["told"] (qL C cT):=by
 refine F.ok tO (fun vs H Q E h=>?_) (fun cdv A outer s H vs Q E hr h=>?_)
 ·obtain ⟨p,v,t,rfl,_⟩:=h
  rfl
 ·obtain ⟨p,v,t,rfl,tv,lt,q⟩:=h
  have sz:(100000:Nat)<=sizeLine:=by decide
  have hr3:Room 2 _:=hr.mono (by decide)
  obtain ⟨fd0,F0,b0⟩:=I0
  refine ⟨_,ak (aH (cw (aV (ao IL hr rfl (aa (pv 0) ac)))) (ah kj) aw)
   (ah (am (cN mk_ F0 hr3 rfl mT b0 .nil c7 (aa (fc (N':=["step"]) (ix:=[none]) (sc0:=al eY) (N:=["told"]) rfl (by decide +kernel) (fh (ap au (pv 0) ad (fun _ _=>rfl)))
     (fun C' cl s H fp=>bt (i:=0) wE rfl (Or.inl rfl) (.inr rfl)) (fun _ _ _ _ _=>df) (fun C' cl s H fp=>ao SF hr rfl (aa (pv 0) ac))) (aa (ap au (pv 0) ad (fun _ _=>rfl)) ac))))),?_⟩
  obtain ⟨ok,lg⟩:=lt.ok
  refine ⟨_,rfl,p,v,t,rfl,tv,lg,fun H1 s1=>⟨_,rfl,?_⟩⟩
  rw [ok]
  refine bo ?_
  obtain ⟨ss,on,rfl,hs,ho,hl⟩:=lt.ex
  cases tv with
  | @tup a xs _ e0 ta=>
   obtain ⟨x,y,tx,ty,rfl,ets,hx,hy⟩:=ta.two rfl
   cases ets
   cases hx with
   | @tup b us _ eb tb=>
    have e:=s1 _ _ e0
    have eb1:=s1 _ _ eb
    have hl2:=tb.length
    refine ⟨_,rfl,a,_,_,_,rfl,rfl,SqT.of e,rfl,b,rfl,⟨_,SqT.of eb1⟩,?_⟩
    refine gp (K:=K) (a:=b) (xs:=us) (fun i ys H'=>Same H1 H'/\ys.length=i/\Paired (StO C p H') ys (ss.take i)) ⟨Same.refl _,rfl,.nil⟩ (fun i ys H' hi ⟨s',e',_⟩=>⟨SqT.of (s' _ _ eb1),by omega⟩) ?_ ?_
    ·rintro i z ys H2 hz ⟨s2,hl3,pr⟩
     have hlt:i < us.length:=(BM.mp hz).1
     obtain ⟨tz,etz,hzt⟩:=tb.get hz
     have hm:=B7 etz
     refine ⟨trivial,dh ⟨_,rfl,p,z,tz,rfl,hzt.same (s1.trans s2),hs tz hm,fun u H3 s3 ob=>Nx.mk hlt ⟨s2.trans s3,by rw [By,hl3];rfl,?_⟩⟩⟩
     rw [Cs,etz]
     exact uQ ob (L2.Paired.mapP pr fun _ _ h=>h.same s3)
    ·rintro ys H2 ⟨s2,hl3,pr⟩ D nD
     rw [hl2,B1] at pr
     have s3:=aj (o:=.lst ys) nD
     have e3:(az H2 D (.lst ys)) D=some (.lst ys):=ae
     generalize az H2 D (.lst ys)=H3 at *
     have s13:=s2.trans s3
     refine ⟨_,rfl,a,_,_,_,rfl,rfl,SqT.of (s13 _ _ e),rfl,fun x0 dx nx nd ne=>⟨x0,dx,D,ys,_,rfl,ae,?_,fun tp np=>?_⟩⟩
     ·exact aA nx (aj nd) _ _ e3
     ·have hx0:tp≠x0:=by
       rintro rfl
       rw [ae] at np
       cases np
      refine ⟨rfl,q _ _ (s1.trans ?_) (.mk x0 dx tp ys _ ss on ae (by rw [aG hx0,aG hx0];exact ae) (L2.Paired.mapP pr fun _ _ h=>h.same ?_) (hy.same (s1.trans ?_)) ho hl hs)⟩
      ·exact s13.trans (aA nx (aA nx ((aA nx (aj nd)).trans (aj np))))
      ·exact s3.trans (aA nx (aA nx ((aA nx (aj nd)).trans (aj np))))
      ·exact s13.trans (aA nx (aA nx ((aA nx (aj nd)).trans (aj np))))
end
end L3
namespace L3
open PySem L2
structure Kp (H H':Hp):Prop where
 t:vt H H'
 i:∀ a C dx fs,H a=some (.ins C dx fs)->H' a=some (.ins C dx fs)
theorem Kp.lst {H:Hp} {l:Addr} {us ys:List V} (e:H l=some (.lst us)):Kp H (az H l (.lst ys)):=⟨fun a xs h=>by
  rw [aG (by rintro rfl;rw [e] at h;cases h)];exact h,fun a C dx fs h=>by
  rw [aG (by rintro rfl;rw [e] at h;cases h)];exact h⟩
theorem SelT.kp {p p':Addr} {H H':Hp} {v:V} {t:Th} (h:SelT t) (tv:TgV p H v t) (k:Kp H H'):TgV p' H' v t:=by
 cases h with
 | is i hi=>obtain ⟨a,rfl,e⟩:=cH tv;exact .tup (k.t _ _ e) (.cons (.str _) (.cons (.int _) .nil))
 | «by» i hi=>obtain ⟨a,rfl,e⟩:=cH tv;exact .tup (k.t _ _ e) (.cons (.str _) (.cons (.int _) .nil))
theorem SrcT.kp {p p':Addr} {H H':Hp} {v:V} {t:Th} (h:SrcT t) (tv:TgV p H v t) (k:Kp H H'):TgV p' H' v t:=by
 cases h with
 | fld i hi=>obtain ⟨a,rfl,e⟩:=cH tv;exact .tup (k.t _ _ e) (.cons (.str _) (.cons (.int _) .nil))
 | num i hi=>obtain ⟨a,rfl,e⟩:=cH tv;exact .tup (k.t _ _ e) (.cons (.str _) (.cons (.int _) .nil))
 | inn i hi=>obtain ⟨a,rfl,e⟩:=cH tv;exact .tup (k.t _ _ e) (.cons (.str _) (.cons (.int _) .nil))
theorem EndT.kp {p p':Addr} {H H':Hp} {v:V} {t:Th} (h:EndT t) (tv:TgV p H v t) (k:Kp H H'):TgV p' H' v t:=by
 cases h with
 | next=>obtain ⟨a,rfl,e⟩:=gN tv;exact .tup (k.t _ _ e) (.cons (.str _) .nil)
 | back=>obtain ⟨a,rfl,e⟩:=gN tv;exact .tup (k.t _ _ e) (.cons (.str _) .nil)
 | stop=>obtain ⟨a,rfl,e⟩:=gN tv;exact .tup (k.t _ _ e) (.cons (.str _) .nil)
 | go i hi=>obtain ⟨a,rfl,e⟩:=cH tv;exact .tup (k.t _ _ e) (.cons (.str _) (.cons (.int _) .nil))
 | call i hi=>obtain ⟨a,rfl,e⟩:=cH tv;exact .tup (k.t _ _ e) (.cons (.str _) (.cons (.int _) .nil))
 | fault z hz=>obtain ⟨a,rfl,e⟩:=ny tv;exact .tup (k.t _ _ e) (.cons (.str _) (.cons (.str _) .nil))
theorem OnT.kp {p p':Addr} {H H':Hp} {v:V} {t:Th} (h:OnT t) (tv:TgV p H v t) (k:Kp H H'):TgV p' H' v t:=by
 cases h with
 | two z i a b hz hi ha hb=>obtain ⟨a,rfl,e⟩:=tH tv;exact .tup (k.t _ _ e) (.cons (.str _) (.cons (.int _) (.cons (.int _) (.cons (.int _) .nil))))
 | on a ha=>obtain ⟨a,rfl,e⟩:=cH tv;exact .tup (k.t _ _ e) (.cons (.str _) (.cons (.int _) .nil))
 | done he=>obtain ⟨a,u,rfl,e,h⟩:=nz tv;exact .tup (k.t _ _ e) (.cons (.str _) (.cons (he.kp h k) .nil))
theorem jY {p p':Addr} {H H':Hp} {v:V} {i:Int} (tv:TgV p H v (.int i)):TgV p' H' v (.int i):=by cases tv;exact .int _
theorem wF {p p':Addr} {H H':Hp} {v:V} {i:Str} (tv:TgV p H v (.str i)):TgV p' H' v (.str i):=by cases tv;exact .str _
theorem StpT.kpA {p p':Addr} {H H':Hp} {us:List V} {x:Str} {ts:List Th} (h:StpT (.tup (.str x::ts))) (ta:TgA p H us ts) (k:Kp H H'):TgA p' H' us ts:=by
 generalize ht:Th.tup (.str x::ts)=t at h
 cases h with
 | @get n s hk hs=>
  have hts:=(BA (Th.tup.inj ht)).2
  subst hts
  obtain ⟨u0,u1,rfl,t0,t1⟩:=bP ta
  exact .cons (jY t0) (.cons (hs.kp t1 k) (.nil))
 | @ask n s hk hs=>
  have hts:=(BA (Th.tup.inj ht)).2
  subst hts
  obtain ⟨u0,u1,rfl,t0,t1⟩:=bP ta
  exact .cons (jY t0) (.cons (hs.kp t1 k) (.nil))
 | @cell n s hk hs=>
  have hts:=(BA (Th.tup.inj ht)).2
  subst hts
  obtain ⟨u0,u1,rfl,t0,t1⟩:=bP ta
  exact .cons (jY t0) (.cons (hs.kp t1 k) (.nil))
 | @two n o x y hk ho hx hy=>
  have hts:=(BA (Th.tup.inj ht)).2
  subst hts
  obtain ⟨u0,u1,u2,u3,rfl,t0,t1,t2,t3⟩:=mq ta
  exact .cons (jY t0) (.cons (wF t1) (.cons (hx.kp t2 k) (.cons (hy.kp t3 k) (.nil))))
 | @put s x hs hx=>
  have hts:=(BA (Th.tup.inj ht)).2
  subst hts
  obtain ⟨u0,u1,rfl,t0,t1⟩:=bP ta
  exact .cons (hs.kp t0 k) (.cons (hx.kp t1 k) (.nil))
 | @tell s x hs hx=>
  have hts:=(BA (Th.tup.inj ht)).2
  subst hts
  obtain ⟨u0,u1,rfl,t0,t1⟩:=bP ta
  exact .cons (hs.kp t0 k) (.cons (hx.kp t1 k) (.nil))
 | @store x y hx hy=>
  have hts:=(BA (Th.tup.inj ht)).2
  subst hts
  obtain ⟨u0,u1,rfl,t0,t1⟩:=bP ta
  exact .cons (hx.kp t0 k) (.cons (hy.kp t1 k) (.nil))
theorem StpT.kp {p p':Addr} {H H':Hp} {v:V} {t:Th} (h:StpT t) (tv:TgV p H v t) (k:Kp H H'):TgV p' H' v t:=by
 obtain ⟨x,ts,rfl⟩:∃ x ts,t=.tup (.str x::ts):=by cases h<;>exact ⟨_,_,rfl⟩
 cases tv with
 | tup e ta=>
  cases ta with
  | cons h0 ta=>
   cases h0
   exact .tup (k.t _ _ e) (.cons (.str _) (h.kpA ta k))
theorem kY {p p':Addr} {H H':Hp} (k:Kp H H'):∀ {us:List V} {ss:List Th},(∀ s∈ss,StpT s)->TgA p H us ss->TgA p' H' us ss
 | _,_,_,.nil=>.nil
 | _,_,h,.cons a t=>.cons ((h _ BJ).kp a k) (kY k (fun s hs=>h s (BF _ hs)) t)
theorem LitT.kp {p p':Addr} {H H':Hp} {v:V} {t:Th} (h:LitT t) (tv:TgV p H v t) (k:Kp H H'):TgV p' H' v t:=by
 obtain ⟨ss,on,rfl,hs,ho,hl⟩:=h.ex
 cases tv with
 | tup e ta=>exact match ta with
  | .cons (.tup e1 h1) (.cons h2 .nil)=>.tup (k.t _ _ e) (.cons (.tup (k.t _ _ e1) (kY k hs h1)) (.cons (ho.kp h2 k) .nil))
theorem StO.kp {C:Nat->Addr} {p p':Addr} {H H':Hp} {v:V} {t:Th} (k:Kp H H') (h:StO C p H v t):StO C p' H' v t:=by
 cases h with
 | mk n a dx us ts hk e l ta st=>exact .mk n a dx us ts hk (k.i _ _ _ _ e) l (st.kpA ta k) st
theorem LiO.kp {C:Nat->Addr} {cT p p':Addr} {H H':Hp} {v:V} {t:Th} (k:Kp H H') (h:LiO C cT p H v t):LiO C cT p' H' v t:=by
 cases h with
 | mk a dx tp us o ss on e e2 ps to ho hl hs=>exact .mk a dx tp us o ss on (k.i _ _ _ _ e) (k.t _ _ e2) (L2.Paired.mapP ps fun _ _ h=>h.kp k) (ho.kp to k) ho hl hs
abbrev jZ:Stmt:=a4 (bS 2) 0
abbrev j0:Stmt:=a4 (bS 3) 0
abbrev kg (R:Addr):List Value:=.ref R::XB.bmV
structure Xs (K:PySem.W.Frag) (mg:Str->Option Value) (R fR cL fL cB:Addr):Prop where
 r:XC K R "RowsError" XB.bmV
 l:XC K cL "BadLine" (kg R)
 b:XC K cB "BadStep" (kg R)
 na:NoAttr K cL "line"
 mkx:z5 K cL fL
 ri:uK K R "__init__" fR
 mR:mg "RowsError"=some (.ref R)
 mL:mg "BadLine"=some (.ref cL)
 mB:mg "BadStep"=some (.ref cB)
 val:mg "ValueError"=none
def AM (K:PySem.W.Frag):Sp:=fun vs H Q _=>∃ e x C d r fs nm bm,vs=[.ref e,x]/\XAt H e C d r fs/\XC K C nm bm/\Q .non H
def tP (C:Addr):Sp:=fun vs H Q _=>∃ e x,vs=[.ref e,x]/\XAt H e C none false []/\∀ H' d,XAt H' e C (some d) false [("line",x)]->(∀ b o,H b=some o->b≠e->H' b=some o)->Q .non H'
section
variable {P:Program} {w:World} {K:PySem.W.Frag} {mg:Str->Option Value} {base:Heap} {R fR cL fL cB cT:Addr} {C fi:Nat->Addr}
theorem AN:aq ["self","text"] ["self","text"] (al jZ):=⟨rfl,rfl,rfl,by decide +kernel,rfl,by decide +kernel,by decide +kernel⟩
theorem yS {f:Addr} {fd:FuncData} (F:Fun K "__init__" "RowsError.__init__" jZ f fd) (T:Xs K mg R fR cL fL cB):aI P w K mg base bE 1 f fd ["self","text"] (AM K):=by
 refine F.ok AN (fun vs H Q E h=>?_) (fun cdv A outer s H vs Q E hr h=>?_)
 ·obtain ⟨e,x,C,d,r,fs,nm,bm,rfl,_⟩:=h
  rfl
 ·obtain ⟨e,x,C,d,r,fs,nm,bm,rfl,xa,c,q⟩:=h
  refine ⟨_,ah (eT (sg rfl T.val (aa (pv 0) (aa (pv 1) ac)))),?_⟩
  exact ⟨_,rfl,_,rfl,e,[x],C,d,r,fs,nm,bm,rfl,(by show 1<=1000;decide),xa,c,q⟩
def AO (P:Program) (w:World) (K:PySem.W.Frag) (mg:Str->Option Value) (base:Heap) (fR:Addr):Prop:=∃ fd,Binds K fd ["self","text"] []/\aI P w K mg base bE 1 fR fd ["self","text"] (AM K)
theorem wG {X:Cx} {p apos pos:Pos} {e:Expr} {es:List Expr} {t:TA} (h:AO X.prog X.w X.K X.mg X.base fR) (T:Xs X.K X.mg R fR cL fL cB) (hr:Room 1 X.A) (hg:Gl X "RowsError") (ha:PA X (e::es) t)
  (hst:starEach (e::es) X.env=(false,eval e X.env)::starEach es X.env:=by rfl) (hpl:(backTo pos (starEach es X.env)).any (·.1)=false:=by rfl) (pl:Sem Bool)
  (ht:eval (.Call (.Attribute (.Name "RowsError" p) "__init__" apos) (e::es) [] pos) X.env=(do
   let ov <-eval (.Name "RowsError" p) X.env
   standAt apos.atName
   let (f,first) <-holding [ov] (getMethod ov "__init__" pl)
   callWith pos f first (backTo pos (starEach (e::es) X.env)) (backToKw pos (keywordEach [] X.env)))) :
  PE X (.Call (.Attribute (.Name "RowsError" p) "__init__" apos) (e::es) [] pos) (mI (AM X.K) [] E0 t):=by
 obtain ⟨fd,hb,F⟩:=h
 exact pC (pl:=pl) T.ri F hr hg T.mR hb c7 ha (by decide) hst hpl ht
theorem AQ:aq ["self","line"] ["self","line"] (al j0):=⟨rfl,rfl,rfl,by decide +kernel,rfl,by decide +kernel,by decide +kernel⟩
theorem yT {f:Addr} {fd:FuncData} (F:Fun K "__init__" "BadLine.__init__" j0 f fd) (T:Xs K mg R fR cL fL cB) (RI':AO P w K mg base fR):aI P w K mg base bE 2 f fd ["self","line"] (tP cL):=by
 refine F.ok AQ (fun vs H Q E h=>?_) (fun cdv A outer s H vs Q E hr h=>?_)
 ·obtain ⟨e,x,rfl,_⟩:=h
  rfl
 ·obtain ⟨e,x,rfl,xa,q⟩:=h
  refine ⟨_,ak (eT (wG RI' T hr rfl (aa (pv 0) (aa af ac)) rfl rfl _ rfl)) (ah (sf (pv 0) (pv 1))),?_⟩
  refine ⟨_,rfl,e,_,cL,none,false,[],"BadLine",kg R,rfl,xa,T.l,?_⟩
  refine ⟨_,rfl,_,rfl,e,cL,none,false,[],"BadLine",kg R,rfl,xa,T.l,T.na,(by show 0 < 1000;decide),fun H3 d' xs=>?_⟩
  exact q H3 d' xs.at_ fun b o hb ne=>xs.keep b o hb ne (fun z=>nomatch z)
end
def qO (cL:Addr) (n:Int) (H:Hp) (E:XK):Prop:=∀ e d H',Same H H'->H e=none->XAt H' e cL (some d) true [("line",.int n)]->E (.ref e) none H'
end L3
namespace L3
open PySem L2
inductive Kn
 | inn|selP|selM|src|op|adr|fld|nam
 deriving DecidableEq
def cE:Kn->List Nat->Bool
 | .inn,w=>wn 0 7 (bJ 114 (S w))
 | .selP,w=>selOk (cO 112 (S w))
 | .selM,w=>selOk (cO 109 (S w))
 | .src,w=>srcOk (b7 (S w))
 | .op,w=>opOk (.str (S w))
 | .adr,w=>wn 0 399 (br w)
 | .fld,w=>wn 0 2 (bJ 102 (S w))
 | .nam,w=>eI w && !fauS.contains (S w)
def tblS:List (List Nat×List Kn):=[(cp "get",[.inn,.selP]),(cp "ask",[.inn,.selM]),(cp "cell",[.inn,.src]),(cp "two",[.inn,.op,.src,.src]),(cp "put",[.selP,.src]),(cp "tell",[.selM,.src]),(cp "store",[.src,.src])]
def tblO:List (List Nat×Option (List Kn)):=[(cp "on",some [.adr]),(cp "some",some [.inn,.adr,.adr]),(cp "top",some [.inn,.adr,.adr]),(cp "done",none)]
def tblE:List (List Nat×List Kn):=[(cp "next",[]),(cp "back",[]),(cp "stop",[]),(cp "go",[.fld]),(cp "call",[.fld]),(cp "fault",[.nam])]
inductive Stt
 | st (f:Bool)|pe (l:List Kn)|on|en|fi (l:List Kn)
def dl:Stt->List Nat->Option Stt
 | .st f,w=>if f=true/\w=[58] then some .on else (tblS.lookup w).map .pe
 | .pe [],w=>if w=[44] then some (.st false) else if w=[58] then some .on else none
 | .pe (k::l),w=>if cE k w=true then some (.pe l) else none
 | .on,w=>(tblO.lookup w).map fun x=>match x with|some l=>.fi l|none=>.en
 | .en,w=>(tblE.lookup w).map .fi
 | .fi [],_=>none
 | .fi (k::l),w=>if cE k w=true then some (.fi l) else none
def run:Stt->List (List Nat)->Bool
 | .fi [],[]=>true
 | _,[]=>false
 | q,w::r=>match dl q w with
  | some q'=>run q' r
  | none=>false
theorem ik (q:Stt) (w:List Nat) (r:List (List Nat)):run q (w::r)=match dl q w with|some q'=>run q' r|none=>false:=by
 cases q with
 | fi l=>cases l<;>rfl
 | _=>rfl
theorem dm {q:Stt} {w:List Nat} {r:List (List Nat)} (h:run q (w::r)=true):∃ q',dl q w=some q'/\run q' r=true:=by
 rw [ik] at h
 cases e:dl q w with
 | none=>rw [e] at h;cases h
 | some q'=>rw [e] at h;exact ⟨q',rfl,h⟩
theorem cj {q q':Stt} {w:List Nat} {r:List (List Nat)} (h:dl q w=some q'):run q (w::r)=run q' r:=by rw [ik,h]
theorem bj {q:Stt} {w:List Nat} {r:List (List Nat)} (h:dl q w=none):run q (w::r)=false:=by rw [ik,h]
theorem aQ {α:Type}:∀ {tbl:List (List Nat×α)} {w:List Nat} {v:α},tbl.lookup w=some v->(w,v)∈tbl
 | (k,u)::t,w,v,h=>by
  rw [Cg] at h
  cases e:w == k with
  | true=>
   rw [e] at h
   cases h
   rw [eq_of_beq e]
   exact BJ
  | false=>
   rw [e] at h
   exact BF _ (aQ h)
theorem kZ (k:Kn):cE k [44]=false/\cE k [58]=false:=by cases k<;>decide +kernel
def wH:List (List Nat):=tblE.map (·.1)
def il:List (List Nat):=tblS.map (·.1)++tblO.map (·.1)++wH
theorem nC:∀ k:Kn,k≠.nam->∀ h∈il,cE k h=false:=by
 intro k hk
 cases k with
 | nam=>exact absurd rfl hk
 | inn=>decide +kernel
 | selP=>decide +kernel
 | selM=>decide +kernel
 | src=>decide +kernel
 | op=>decide +kernel
 | adr=>decide +kernel
 | fld=>decide +kernel
theorem yU:∀ h∈wH,cE .nam h=false:=by decide +kernel
theorem dS:∀ e∈tblS,(∃ k l,e.2=k::l/\k≠.nam)/\e.1≠[58]/\e.1≠[44]/\tblO.lookup e.1=none/\e.1∈il:=by
 intro e he
 simp only [tblS,BH,BW,or_false] at he
 rcases he with rfl|rfl|rfl|rfl|rfl|rfl|rfl<;>exact ⟨⟨_,_,rfl,by decide⟩,by decide +kernel,by decide +kernel,by decide +kernel,by decide +kernel⟩
theorem cP:∀ e∈tblO,(e.2=none\/∃ k l,e.2=some (k::l)/\k≠.nam)/\e.1≠[58]/\e.1≠[44]/\tblS.lookup e.1=none/\tblE.lookup e.1=none/\e.1∈il:=by
 intro e he
 simp only [tblO,BH,BW,or_false] at he
 rcases he with rfl|rfl|rfl|rfl
 ·exact ⟨.inr ⟨_,_,rfl,by decide⟩,by decide +kernel,by decide +kernel,by decide +kernel,by decide +kernel,by decide +kernel⟩
 ·exact ⟨.inr ⟨_,_,rfl,by decide⟩,by decide +kernel,by decide +kernel,by decide +kernel,by decide +kernel,by decide +kernel⟩
 ·exact ⟨.inr ⟨_,_,rfl,by decide⟩,by decide +kernel,by decide +kernel,by decide +kernel,by decide +kernel,by decide +kernel⟩
 ·exact ⟨.inl rfl,by decide +kernel,by decide +kernel,by decide +kernel,by decide +kernel,by decide +kernel⟩
theorem gQ:∀ e∈tblE,(e.2=[]\/∃ k,e.2=[k]/\cE k e.1=false)/\tblO.lookup e.1=none/\e.1∈wH:=by
 intro e he
 simp only [tblE,BH,BW,or_false] at he
 rcases he with rfl|rfl|rfl|rfl|rfl|rfl
 ·exact ⟨.inl rfl,by decide +kernel,by decide +kernel⟩
 ·exact ⟨.inl rfl,by decide +kernel,by decide +kernel⟩
 ·exact ⟨.inl rfl,by decide +kernel,by decide +kernel⟩
 ·exact ⟨.inr ⟨_,rfl,by decide +kernel⟩,by decide +kernel,by decide +kernel⟩
 ·exact ⟨.inr ⟨_,rfl,by decide +kernel⟩,by decide +kernel,by decide +kernel⟩
 ·exact ⟨.inr ⟨_,rfl,by decide +kernel⟩,by decide +kernel,by decide +kernel⟩
theorem yV {k:Kn} {w:List Nat} (hk:k≠.nam) (h:cE k w=true):tblS.lookup w=none/\tblO.lookup w=none/\w≠[58]/\w≠[44]:=by
 have no:w∉il:=fun hm=>by rw [nC k hk w hm] at h;cases h
 refine ⟨?_,?_,?_,?_⟩
 ·cases e:tblS.lookup w with
  | none=>rfl
  | some l=>exact absurd ((dS _ (aQ e)).2.2.2.2) no
 ·cases e:tblO.lookup w with
  | none=>rfl
  | some l=>exact absurd ((cP _ (aQ e)).2.2.2.2.2) no
 ·rintro rfl;rw [(kZ k).2] at h;cases h
 ·rintro rfl;rw [(kZ k).1] at h;cases h
theorem AR {k:Kn} {w:List Nat} (h:cE k w=true):tblE.lookup w=none:=by
 cases e:tblE.lookup w with
 | none=>rfl
 | some l=>
  have hm:=(gQ _ (aQ e)).2.2
  by_cases hk:k=.nam
  ·subst hk;rw [yU w hm] at h;cases h
  ·have:w∈il:=BV _ hm
   rw [nC k hk w this] at h;cases h
theorem j6 {k:Kn} {w:List Nat} (h:cE k w=true):w≠[58]/\w≠[44]:=⟨(by rintro rfl;rw [(kZ k).2] at h;cases h),(by rintro rfl;rw [(kZ k).1] at h;cases h)⟩
theorem gH {k:Kn} {l:List Kn} {T:List (List Nat)} (h:run (.pe (k::l)) T=true):∃ w r,T=w::r/\cE k w=true/\run (.pe l) r=true:=by
 cases T with
 | nil=>cases h
 | cons w r=>
  obtain ⟨q',e,h'⟩:=dm h
  have e':(if cE k w=true then some (Stt.pe l) else none)=some q':=e
  by_cases ok:cE k w=true
  ·rw [if_pos ok] at e';cases e';exact ⟨w,r,rfl,ok,h'⟩
  ·rw [if_neg ok] at e';cases e'
theorem im {k:Kn} {l:List Kn} {T:List (List Nat)} (h:run (.fi (k::l)) T=true):∃ w r,T=w::r/\cE k w=true/\run (.fi l) r=true:=by
 cases T with
 | nil=>cases h
 | cons w r=>
  obtain ⟨q',e,h'⟩:=dm h
  have e':(if cE k w=true then some (Stt.fi l) else none)=some q':=e
  by_cases ok:cE k w=true
  ·rw [if_pos ok] at e';cases e';exact ⟨w,r,rfl,ok,h'⟩
  ·rw [if_neg ok] at e';cases e'
theorem io:∀ {l:List Kn} {T:List (List Nat)},run (.fi l) T=true->T.length=l.length
 | [],[],_=>rfl
 | [],w::r,h=>by rw [bj rfl] at h;cases h
 | k::l,T,h=>by
  obtain ⟨w,r,rfl,_,h'⟩:=im h
  rw [Bx,Bx,io h']
theorem mv {l:List Kn} {T:List (List Nat)} (h:T.length≠l.length):run (.fi l) T=false:=BC.mpr fun z=>h (io z)
theorem ip {T:List (List Nat)} (h:run (.pe []) T=true):∃ w r,T=w::r/\(w=[44]/\run (.st false) r=true\/w=[58]/\run .on r=true):=by
 cases T with
 | nil=>cases h
 | cons w r=>
  obtain ⟨q',e,h'⟩:=dm h
  have e':(if w=[44] then some (Stt.st false) else if w=[58] then some .on else none)=some q':=e
  by_cases h1:w=[44]
  ·rw [if_pos h1] at e';cases e';exact ⟨w,r,rfl,.inl ⟨h1,h'⟩⟩
  ·rw [if_neg h1] at e'
   by_cases h2:w=[58]
   ·rw [if_pos h2] at e';cases e';exact ⟨w,r,rfl,.inr ⟨h2,h'⟩⟩
   ·rw [if_neg h2] at e';cases e'
theorem nE:∀ {l p:List Kn} {T:List (List Nat)},run (.pe l) T=true->p.length=l.length+1->run (.pe p) T=false
 | [],[k],T,h,_=>by
  obtain ⟨w,r,rfl,hw⟩:=ip h
  refine bj ?_
  show (if cE k w=true then _ else _)=none
  rw [if_neg]
  rcases hw with ⟨rfl,_⟩|⟨rfl,_⟩
  ·rw [(kZ k).1];decide
  ·rw [(kZ k).2];decide
 | [],k::k2::p,T,h,hp=>by simp at hp
 | [],[],T,h,hp=>by simp at hp
 | k1::l,[],T,h,hp=>by simp at hp
 | k1::l,k::p,T,h,hp=>by
  obtain ⟨w,r,rfl,_,h'⟩:=gH h
  cases ok:cE k w with
  | false=>exact bj (by show (if cE k w=true then _ else _)=none;rw [ok];rfl)
  | true=>
   rw [cj (q':=.pe p) (by show (if cE k w=true then _ else _)=_;rw [ok];rfl)]
   exact nE h' (by simpa using hp)
theorem k4:∀ {l:List Kn} {w:List Nat} {T:List (List Nat)},run (.pe l) T=true->w≠[58]->w≠[44]->run (.pe l) (w::T)=false
 | [],w,T,h,h1,h2=>bj (by show (if w=[44] then _ else if w=[58] then _ else _)=none;rw [if_neg h2,if_neg h1])
 | k::l,w,T,h,h1,h2=>by
  obtain ⟨w1,r,rfl,ok1,h'⟩:=gH h
  cases ok:cE k w with
  | false=>exact bj (by show (if cE k w=true then _ else _)=none;rw [ok];rfl)
  | true=>
   rw [cj (q':=.pe l) (by show (if cE k w=true then _ else _)=_;rw [ok];rfl)]
   exact k4 h' (j6 ok1).1 (j6 ok1).2
theorem k6 {f:Bool} {w:List Nat} {r:List (List Nat)} (h:run (.st f) (w::r)=true):(f=true/\w=[58]/\run .on r=true)\/∃ l,tblS.lookup w=some l/\run (.pe l) r=true:=by
 obtain ⟨q',e,h'⟩:=dm h
 have e':(if f=true/\w=[58] then some Stt.on else (tblS.lookup w).map .pe)=some q':=e
 by_cases hc:f=true/\w=[58]
 ·rw [if_pos hc] at e';cases e';exact .inl ⟨hc.1,hc.2,h'⟩
 ·rw [if_neg hc] at e'
  cases el:tblS.lookup w with
  | none=>rw [el] at e';cases e'
  | some l=>rw [el] at e';cases e';exact .inr ⟨l,rfl,h'⟩
theorem k7 {f:Bool} {w:List Nat} {r:List (List Nat)} (h1:w≠[58]) (h2:tblS.lookup w=none):run (.st f) (w::r)=false:=bj (by show (if f=true/\w=[58] then _ else (tblS.lookup w).map Stt.pe)=none;rw [if_neg (fun z=>h1 z.2),h2];rfl)
theorem jh {T:List (List Nat)} (h:run .on T=true):∃ w r,T=w::r/\((tblO.lookup w=some none/\run .en r=true)\/∃ l,tblO.lookup w=some (some l)/\run (.fi l) r=true):=by
 cases T with
 | nil=>cases h
 | cons w r=>
  obtain ⟨q',e,h'⟩:=dm h
  have e':(tblO.lookup w).map (fun x=>match x with|some l=>Stt.fi l|none=>.en)=some q':=e
  cases el:tblO.lookup w with
  | none=>rw [el] at e';cases e'
  | some x=>
   rw [el] at e'
   cases x with
   | none=>cases e';exact ⟨w,r,rfl,.inl ⟨el,h'⟩⟩
   | some l=>cases e';exact ⟨w,r,rfl,.inr ⟨l,el,h'⟩⟩
theorem k8 {w:List Nat} {r:List (List Nat)} (h:tblO.lookup w=none):run .on (w::r)=false:=bj (by show (tblO.lookup w).map _=none;rw [h];rfl)
theorem ji {T:List (List Nat)} (h:run .en T=true):∃ w r l,T=w::r/\tblE.lookup w=some l/\run (.fi l) r=true:=by
 cases T with
 | nil=>cases h
 | cons w r=>
  obtain ⟨q',e,h'⟩:=dm h
  have e':(tblE.lookup w).map Stt.fi=some q':=e
  cases el:tblE.lookup w with
  | none=>rw [el] at e';cases e'
  | some l=>rw [el] at e';cases e';exact ⟨w,r,l,rfl,el,h'⟩
theorem nF {w:List Nat} {r:List (List Nat)} (h:tblE.lookup w=none):run .en (w::r)=false:=bj (by show (tblE.lookup w).map _=none;rw [h];rfl)
theorem tQ {q:Stt} {w:List Nat} {T:List (List Nat)} (h:run q (w::T)=true):run q T=false:=by
 cases q with
 | st f=>
  rcases k6 h with ⟨_,_,h'⟩|⟨l,el,h'⟩
  ·obtain ⟨w1,r,rfl,hw⟩:=jh h'
   have hm:∃ x,tblO.lookup w1=some x:=by rcases hw with ⟨e,_⟩|⟨l,e,_⟩<;>exact ⟨_,e⟩
   obtain ⟨x,ex⟩:=hm
   obtain ⟨_,a,_,b,_⟩:=cP _ (aQ ex)
   exact k7 a b
  ·obtain ⟨⟨k,l',e2,hk⟩,_⟩:=dS _ (aQ el)
   have e2':l=k::l':=e2
   subst e2'
   obtain ⟨w1,r,rfl,ok,_⟩:=gH h'
   obtain ⟨a,_,b,_⟩:=yV hk ok
   exact k7 b a
 | pe l=>
  cases l with
  | nil=>
   obtain ⟨w1,r,e,hw⟩:=ip h
   cases e
   rcases hw with ⟨_,h'⟩|⟨_,h'⟩
   ·cases T with
    | nil=>cases h'
    | cons w1 r=>
     have:w1≠[44]/\w1≠[58]:=by
      rcases k6 h' with ⟨z,_⟩|⟨l,el,_⟩
      ·cases z
      ·obtain ⟨_,a,b,_⟩:=dS _ (aQ el)
       exact ⟨b,a⟩
     exact bj (by show (if w1=[44] then _ else if w1=[58] then _ else _)=none;rw [if_neg this.1,if_neg this.2])
   ·obtain ⟨w1,r,rfl,hw⟩:=jh h'
    have hm:∃ x,tblO.lookup w1=some x:=by rcases hw with ⟨e,_⟩|⟨l,e,_⟩<;>exact ⟨_,e⟩
    obtain ⟨x,ex⟩:=hm
    obtain ⟨_,a,b,_⟩:=cP _ (aQ ex)
    exact bj (by show (if w1=[44] then _ else if w1=[58] then _ else _)=none;rw [if_neg b,if_neg a])
  | cons k l=>
   obtain ⟨w1,r,e,ok,h'⟩:=gH h
   cases e
   exact nE h' rfl
 | on=>
  obtain ⟨w1,r,e,hw⟩:=jh h
  cases e
  rcases hw with ⟨e1,h'⟩|⟨l,e1,h'⟩
  ·obtain ⟨w2,r,l,rfl,e2,_⟩:=ji h'
   exact k8 (gQ _ (aQ e2)).2.1
  ·obtain ⟨hl,_⟩:=cP _ (aQ e1)
   rcases hl with z|⟨k,l',z,hk⟩
   ·cases z
   ·have z':some l=some (k::l'):=z
    cases z'
    obtain ⟨w2,r,rfl,ok,_⟩:=im h'
    exact k8 (yV hk ok).2.1
 | en=>
  obtain ⟨w1,r,l,e,e1,h'⟩:=ji h
  cases e
  cases T with
  | nil=>rfl
  | cons w2 r=>
   cases l with
   | nil=>rw [bj rfl] at h';cases h'
   | cons k l=>
    obtain ⟨w3,r3,e3,ok,_⟩:=im h'
    cases e3
    exact nF (AR ok)
 | fi l=>
  have:=io h
  exact mv (by rw [Bx] at this;omega)
theorem tR {q:Stt} {w:List Nat} {T:List (List Nat)} (h:run q (w::T)=true):run q (w::w::T)=false:=by
 obtain ⟨q',e,h'⟩:=dm h
 rw [cj e]
 cases q with
 | st f=>
  rcases k6 h with ⟨hf,rfl,_⟩|⟨l,el,h2⟩
  ·have:q'=.on:=by
    have e':(if f=true/\([58]:List Nat)=[58] then some Stt.on else _)=some q':=e
    rw [if_pos ⟨hf,rfl⟩] at e'
    exact (BY e').symm
   subst this
   exact k8 (by decide +kernel)
  ·obtain ⟨⟨k,l',e2,hk⟩,n58,_,_,hm⟩:=dS _ (aQ el)
   have e2':l=k::l':=e2
   subst e2'
   have:q'=.pe (k::l'):=by
    have e':(if f=true/\w=[58] then some Stt.on else (tblS.lookup w).map .pe)=some q':=e
    rw [if_neg (fun z=>n58 z.2),el] at e'
    exact (BY e').symm
   subst this
   exact bj (by show (if cE k w=true then _ else _)=none;rw [nC k hk w hm];rfl)
 | pe l=>
  cases l with
  | nil=>
   obtain ⟨w1,r,e1,hw⟩:=ip h
   cases e1
   have e':(if w=[44] then some (Stt.st false) else if w=[58] then some .on else none)=some q':=e
   rcases hw with ⟨rfl,_⟩|⟨rfl,_⟩
   ·rw [if_pos rfl] at e';cases e'
    exact k7 (by decide) (by decide +kernel)
   ·rw [if_neg (by decide),if_pos rfl] at e';cases e'
    exact k8 (by decide +kernel)
  | cons k l=>
   obtain ⟨w1,r,e1,ok,h2⟩:=gH h
   cases e1
   have e':(if cE k w=true then some (Stt.pe l) else none)=some q':=e
   rw [if_pos ok] at e';cases e'
   exact k4 h2 (j6 ok).1 (j6 ok).2
 | on=>
  obtain ⟨w1,r,e1,hw⟩:=jh h
  cases e1
  have e':(tblO.lookup w).map (fun x=>match x with|some l=>Stt.fi l|none=>.en)=some q':=e
  rcases hw with ⟨e2,_⟩|⟨l,e2,_⟩
  ·rw [e2] at e';cases e'
   exact nF (cP _ (aQ e2)).2.2.2.2.1
  ·rw [e2] at e';cases e'
   obtain ⟨hl,_,_,_,_,hm⟩:=cP _ (aQ e2)
   rcases hl with z|⟨k,l',z,hk⟩
   ·cases z
   ·have z':some l=some (k::l'):=z
    cases z'
    exact bj (by show (if cE k w=true then _ else _)=none;rw [nC k hk w hm];rfl)
 | en=>
  obtain ⟨w1,r,l,e1,e2,h2⟩:=ji h
  cases e1
  have e':(tblE.lookup w).map Stt.fi=some q':=e
  rw [e2] at e';cases e'
  have:=io h2
  exact mv (by rw [Bx];omega)
 | fi l=>
  cases l with
  | nil=>cases e
  | cons k l=>
   obtain ⟨w1,r,e1,ok,h2⟩:=im h
   cases e1
   have e':(if cE k w=true then some (Stt.fi l) else none)=some q':=e
   rw [if_pos ok] at e';cases e'
   have:=io h2
   exact mv (by rw [Bx];omega)
theorem iq {z:List Nat}:∀ {T:List (List Nat)} {q:Stt},run q T=true->run q (T++[z])=false
 | [],q,h=>by
  cases q with
  | fi l=>
   cases l with
   | nil=>exact bj rfl
   | cons _ _=>cases h
  | _=>cases h
 | w::T,q,h=>by
  obtain ⟨q',e,h'⟩:=dm h
  rw [Cj,cj e]
  exact iq h'
theorem dB:∀ {U:List (List Nat)} {q:Stt} {X:List (List Nat)},run q (U++X)=true->∃ q',run q' X=true/\∀ Y,run q (U++Y)=run q' Y
 | [],q,X,h=>⟨q,h,fun _=>rfl⟩
 | w::U,q,X,h=>by
  obtain ⟨q1,e,h'⟩:=dm h
  obtain ⟨q',h2,hy⟩:=dB h'
  exact ⟨q',h2,fun Y=>by rw [Cj,cj e,hy]⟩
end L3
namespace L3
open PySem L2
def ir:List Nat:=[114,112,109,102]
inductive qP (w:List Nat):List Nat->Prop
 | sep (o:List Nat):(w=[44]\/w=[58])->o∈([[],[59],[44,58],[58,58],[58,44]]:List (List Nat))->qP w o
 | let_ (c:Nat) (d X:List Nat):w=c::d->d≠[]->d.all a9=true->c∈ir->X∈([48::d,[56],[57],[],[45,49],cp "16777216",[48,48],[120]]:List (List Nat))->qP w (c::X)
 | num (o:List Nat):w≠[]->w.all a9=true->o∈([48::w,cp "16777216",[45,49],43::w,[120],[],List.replicate 30 49]:List (List Nat))->qP w o
 | oth (o:List Nat):¬ (w=[44]\/w=[58])->(∀ c d,w=c::d->c∈ir->d≠[]->d.all a9=false)->(w≠[]->w.all a9=false)->o∈([[],w++[50],cp "deep",[42],cp "Load"]:List (List Nat))->qP w o
theorem iu {d:List Nat} (h:ck d=true):d≠[]/\d.all a9=true:=by
 unfold ck at h
 rw [BD,BD,BD,decide_eq_true_iff] at h
 exact ⟨by rintro rfl;exact absurd h.1 (by decide),h.2.2.1⟩
theorem dU {lo hi:Int} {l:List Nat} (h:wn lo hi (br l)=true):ck l=true:=by
 unfold br at h
 cases e:ck l with
 | true=>rfl
 | false=>rw [e] at h;cases h
theorem cI {c:Nat} {lo hi:Int} {w:List Nat} (h:wn lo hi (bJ c (S w))=true):∃ d,w=c::d/\wn lo hi (br d)=true:=by
 unfold bJ kf at h
 rw [cF] at h
 cases w with
 | nil=>cases h
 | cons a d=>
  by_cases e:a=c
  ·subst e
   rw [if_pos (by simp)] at h
   exact ⟨d,rfl,h⟩
  ·rw [if_neg (by simpa using e)] at h;cases h
theorem dW {c:Nat} {w:List Nat} (h:selOk (cO c (S w))=true):∃ d,(w=102::d/\wn 0 2 (br d)=true)\/(w=c::d/\wn 0 3 (br d)=true):=by
 unfold cO at h
 by_cases e:kf 102 (S w)=true
 ·rw [if_pos e] at h
  obtain ⟨d,a,b⟩:=cI (lo:=0) (hi:=2) (w:=w) (c:=102) h
  exact ⟨d,.inl ⟨a,b⟩⟩
 ·rw [if_neg e] at h
  obtain ⟨d,a,b⟩:=cI (lo:=0) (hi:=3) (w:=w) (c:=c) h
  exact ⟨d,.inr ⟨a,b⟩⟩
theorem gx {w:List Nat} (h:srcOk (b7 (S w))=true):(∃ d,w=114::d/\wn 0 7 (br d)=true)\/(∃ d,w=102::d/\wn 0 2 (br d)=true)\/wn 0 16777215 (br w)=true:=by
 unfold b7 at h
 by_cases e:kf 114 (S w)=true
 ·rw [if_pos e] at h
  obtain ⟨d,a,b⟩:=cI (lo:=0) (hi:=7) (w:=w) (c:=114) h
  exact .inl ⟨d,a,b⟩
 ·rw [if_neg e] at h
  by_cases e2:kf 102 (S w)=true
  ·rw [if_pos e2] at h
   obtain ⟨d,a,b⟩:=cI (lo:=0) (hi:=2) (w:=w) (c:=102) h
   exact .inr (.inl ⟨d,a,b⟩)
  ·rw [if_neg e2,cF] at h
   exact .inr (.inr h)
def wI (X:List Nat):Prop:=∀ hi:Int,hi<=7->wn 0 hi (br X)=false
theorem eQ {X:List Nat} (h:ck X=false):wI X:=fun hi _=>by unfold br;rw [h];rfl
theorem iw {X:List Nat} (h:8<=dj X):wI X:=fun hi hh=>by
 unfold br
 split
 ·show (decide ((0:Int)<=(dj X:Int)) && decide ((dj X:Int)<=hi))=false
  rw [decide_eq_false (show ¬ ((dj X:Int)<=hi) by omega),Bool.and_false]
 ·rfl
theorem k9 {d:List Nat} (h:d≠[]):ck (48::d)=false:=by
 unfold ck
 have:1 < (48::d).length:=by
  rw [Bx]
  have:=CJ.mpr h
  omega
 rw [decide_eq_true this]
 simp
theorem AS {d X:List Nat} (hd:d≠[]) (hx:X∈([48::d,[56],[57],[],[45,49],cp "16777216",[48,48],[120]]:List (List Nat))):wI X:=by
 simp only [BH,BW,or_false] at hx
 rcases hx with rfl|rfl|rfl|rfl|rfl|rfl|rfl|rfl
 ·exact eQ (k9 hd)
 ·exact iw (by decide)
 ·exact iw (by decide)
 ·exact eQ (by decide)
 ·exact eQ (by decide)
 ·exact iw (by decide +kernel)
 ·exact eQ (by decide)
 ·exact eQ (by decide)
theorem tS {c:Nat} {X:List Nat} (hc:c∈ir):ck (c::X)=false:=by
 have:a9 c=false:=by
  simp only [ir,BH,BW,or_false] at hc
  rcases hc with rfl|rfl|rfl|rfl<;>decide
 unfold ck
 rw [List.all_cons,this,Bool.false_and,Bool.false_and,Bool.and_false,Bool.and_false]
theorem cJ {lo hi:Int} {l:List Nat} (h:ck l=false):wn lo hi (br l)=false:=by unfold br;rw [h];rfl
theorem nG:∀ o∈opsL,(cp o).all a9=false/\((cp o).drop 1=[]\/((cp o).drop 1).all a9=false):=by decide +kernel
theorem tT:∀ o∈opsL,∀ z∈([[],cp o++[50],cp "deep",[42],cp "Load"]:List (List Nat)),opsL.contains (S z)=false:=by decide +kernel
theorem gy {w:List Nat} (h:cE .op w=true):S w∈opsL:=Cq.mp h
theorem gR {w:List Nat} (h:cE .nam w=true):1<=w.length/\w.all dw=true:=by
 have h':(eI w && !fauS.contains (S w))=true:=h
 rw [BD] at h'
 have h2:=h'.1
 unfold eI at h2
 rw [BD,BD,BD,decide_eq_true_iff] at h2
 exact ⟨h2.2.1.1,h2.2.2⟩
theorem tU {c:Nat} (h:dw c=true):a9 c=false:=by
 unfold dw at h
 unfold a9
 rw [BD,decide_eq_true_iff,decide_eq_true_iff] at h
 rw [decide_eq_false (show ¬ c<=57 by omega),Bool.and_false]
theorem gI {w:List Nat} (hw:w≠[]) (h:w.all dw=true):w.all a9=false:=by
 cases w with
 | nil=>exact absurd rfl hw
 | cons c r=>
  rw [List.all_cons,BD] at h
  rw [List.all_cons,tU h.1,Bool.false_and]
theorem qQ {w:List Nat} {c:Nat} (hc:c∈w) (h:dw c=false):cE .nam w=false:=BC.mpr fun z=>by
 have:=Cd.mp (gR z).2 c hc
 rw [h] at this;cases this
theorem mw {w:List Nat} (k:Kn) (ok:cE k w=true) (hsep:¬ (w=[44]\/w=[58])) (hlet:∀ c d,w=c::d->c∈ir->d≠[]->d.all a9=false) (hnum:w≠[]->w.all a9=false):k=.op\/k=.nam:=by
 have nb:∀ c d hi,w=c::d->c∈ir->wn 0 hi (br d)=true->False:=fun c d hi e hc hw=>by
  obtain ⟨a,b⟩:=iu (dU hw)
  rw [hlet c d e hc a] at b;cases b
 have nn:∀ hi,wn 0 hi (br w)=true->False:=fun hi hw=>by
  obtain ⟨a,b⟩:=iu (dU hw)
  rw [hnum a] at b;cases b
 cases k with
 | op=>exact .inl rfl
 | nam=>exact .inr rfl
 | inn=>obtain ⟨d,e,h⟩:=cI (lo:=0) (hi:=7) ok;exact (nb _ _ _ e (by decide) h).elim
 | fld=>obtain ⟨d,e,h⟩:=cI (lo:=0) (hi:=2) ok;exact (nb _ _ _ e (by decide) h).elim
 | selP=>
  obtain ⟨d,h⟩:=dW ok
  rcases h with ⟨e,h⟩|⟨e,h⟩<;>exact (nb _ _ _ e (by decide) h).elim
 | selM=>
  obtain ⟨d,h⟩:=dW ok
  rcases h with ⟨e,h⟩|⟨e,h⟩<;>exact (nb _ _ _ e (by decide) h).elim
 | src=>
  rcases gx ok with ⟨d,e,h⟩|⟨d,e,h⟩|h
  ·exact (nb _ _ _ e (by decide) h).elim
  ·exact (nb _ _ _ e (by decide) h).elim
  ·exact (nn _ h).elim
 | adr=>exact (nn _ ok).elim
theorem nH {k:Kn} {w o:List Nat} (ok:cE k w=true) (h:qP w o):cE k o=false:=by
 cases h with
 | sep o hw ho=>
  rcases hw with rfl|rfl
  ·rw [(kZ k).1] at ok;cases ok
  ·rw [(kZ k).2] at ok;cases ok
 | let_ c d X hw hd hf hc hx=>
  have nx:=AS hd hx
  have lx:ck (c::X)=false:=tS hc
  have beh:∀ (c':Nat) (hi:Int),hi<=7->wn 0 hi (bJ c' (S (c::X)))=false:=fun c' hi hh=>BC.mpr fun z=>by
   obtain ⟨d',e,h'⟩:=cI z
   cases e
   rw [nx hi hh] at h';cases h'
  have sel:∀ c':Nat,selOk (cO c' (S (c::X)))=false:=fun c'=>BC.mpr fun z=>by
   obtain ⟨d',h'⟩:=dW z
   rcases h' with ⟨e,h'⟩|⟨e,h'⟩
   ·cases e;rw [nx 2 (by decide)] at h';cases h'
   ·cases e;rw [nx 3 (by decide)] at h';cases h'
  cases k with
  | inn=>exact beh _ _ (by decide)
  | fld=>exact beh _ _ (by decide)
  | selP=>exact sel _
  | selM=>exact sel _
  | src=>
   exact BC.mpr fun z=>by
    rcases gx z with ⟨d',e,h'⟩|⟨d',e,h'⟩|h'
    ·cases e;rw [nx 7 (by decide)] at h';cases h'
    ·cases e;rw [nx 2 (by decide)] at h';cases h'
    ·rw [cJ lx] at h';cases h'
  | adr=>exact cJ lx
  | op=>
   exfalso
   have:=(nG _ (gy ok)).2
   rw [cF,hw] at this
   rcases this with z|z
   ·exact hd z
   ·rw [show (c::d).drop 1=d from rfl,hf] at z;cases z
  | nam=>
   exfalso
   have:=(gR ok).2
   rw [hw,List.all_cons,BD] at this
   rw [gI hd this.2] at hf;cases hf
 | num o hw hf ho=>
  have hne:∀ c d,w=c::d->a9 c=true:=fun c d e=>by rw [e,List.all_cons,BD] at hf;exact hf.1
  have nb:∀ c' d hi,w=c'::d->a9 c'=false->wn 0 hi (br d)=true->False:=fun c' d hi e hc _=>by rw [hne c' d e] at hc;cases hc
  have bad:∀ hi:Int,hi<=16777215->wn 0 hi (br o)=false:=fun hi hh=>by
   simp only [BH,BW,or_false] at ho
   rcases ho with rfl|rfl|rfl|rfl|rfl|rfl|rfl
   ·exact cJ (k9 hw)
   ·unfold br
    split
    ·rw [show dj (cp "16777216")=16777216 from by decide +kernel]
     show (decide ((0:Int)<=16777216) && decide ((16777216:Int)<=hi))=false
     rw [decide_eq_false (show ¬ ((16777216:Int)<=hi) by omega),Bool.and_false]
    ·rfl
   ·exact cJ (by decide)
   ·refine cJ ?_
    unfold ck
    rw [List.all_cons,show a9 43=false from by decide,Bool.false_and,Bool.false_and,Bool.and_false,Bool.and_false]
   ·exact cJ (by decide)
   ·exact cJ (by decide)
   ·exact cJ (by decide +kernel)
  have hd:∀ c∈ir,∀ d,o≠c::d:=by
   intro c hc d e
   have hfc:a9 c=false/\c≠45/\c≠43/\c≠120:=by
    simp only [ir,BH,BW,or_false] at hc
    rcases hc with rfl|rfl|rfl|rfl<;>decide
   simp only [BH,BW,or_false] at ho
   rcases ho with rfl|rfl|rfl|rfl|rfl|rfl|rfl
   ·rw [<-(BA e).1] at hfc;exact absurd hfc.1 (by decide)
   ·have:=congrArg List.head? e
    have h1:(cp "16777216").head?=some 49:=by decide +kernel
    rw [h1] at this
    cases this
    exact absurd hfc.1 (by decide)
   ·exact hfc.2.1 (BA e).1.symm
   ·exact hfc.2.2.1 (BA e).1.symm
   ·exact hfc.2.2.2 (BA e).1.symm
   ·cases e
   ·have:=(BA (show 49::List.replicate 29 49=c::d from e)).1
    rw [<-this] at hfc;exact absurd hfc.1 (by decide)
  cases k with
  | inn=>obtain ⟨d,e,h⟩:=cI (lo:=0) (hi:=7) ok;exact (nb _ _ _ e (by decide) h).elim
  | fld=>obtain ⟨d,e,h⟩:=cI (lo:=0) (hi:=2) ok;exact (nb _ _ _ e (by decide) h).elim
  | selP=>
   obtain ⟨d,h⟩:=dW ok
   rcases h with ⟨e,h⟩|⟨e,h⟩<;>exact (nb _ _ _ e (by decide) h).elim
  | selM=>
   obtain ⟨d,h⟩:=dW ok
   rcases h with ⟨e,h⟩|⟨e,h⟩<;>exact (nb _ _ _ e (by decide) h).elim
  | src=>
   exact BC.mpr fun z=>by
    rcases gx z with ⟨d',e,_⟩|⟨d',e,_⟩|h'
    ·exact hd _ (by decide) _ e
    ·exact hd _ (by decide) _ e
    ·rw [bad _ (by decide)] at h';cases h'
  | adr=>exact bad _ (by decide)
  | op=>
   exfalso
   have:=(nG _ (gy ok)).1
   rw [cF,hf] at this;cases this
  | nam=>
   exfalso
   rw [gI hw (gR ok).2] at hf;cases hf
 | oth o hsep hlet hnum ho=>
  rcases mw k ok hsep hlet hnum with rfl|rfl
  ·have:=tT _ (gy ok) o (by rw [cF];exact ho)
   exact this
  ·simp only [BH,BW,or_false] at ho
   rcases ho with rfl|rfl|rfl|rfl|rfl
   ·decide +kernel
   ·exact qQ (c:=50) (by simp) (by decide)
   ·decide +kernel
   ·decide +kernel
   ·decide +kernel
theorem qR:∀ h∈il,h≠[]/\h.all a9=false/\(h.drop 1).all a9=false/\h≠[44]/\h≠[58]/\∀ o∈([[],h++[50],cp "deep",[42],cp "Load"]:List (List Nat)),tblS.lookup o=none/\tblO.lookup o=none/\tblE.lookup o=none/\o≠[58]:=by decide +kernel
theorem nI:∀ o∈([[],[59],[44,58],[58,58],[58,44]]:List (List Nat)),tblS.lookup o=none/\o≠[58]/\o≠[44]:=by decide +kernel
theorem mx {w o:List Nat} (hm:w∈il) (h:qP w o):tblS.lookup o=none/\tblO.lookup o=none/\tblE.lookup o=none/\o≠[58]:=by
 obtain ⟨a,b,c,d,e,f⟩:=qR w hm
 cases h with
 | sep o hw ho=>rcases hw with z|z;exact absurd z d;exact absurd z e
 | let_ c' d' X hw hd hf hc hx=>rw [hw,show (c'::d').drop 1=d' from rfl,hf] at c;cases c
 | num o hw hf ho=>rw [hf] at b;cases b
 | oth o hsep hlet hnum ho=>exact f o ho
theorem tV {q:Stt} {w o:List Nat} {T:List (List Nat)} (h:run q (w::T)=true) (ho:qP w o):run q (o::T)=false:=by
 cases q with
 | st f=>
  rcases k6 h with ⟨_,rfl,_⟩|⟨l,el,_⟩
  ·cases ho with
   | sep o hw ho=>obtain ⟨a,b,_⟩:=nI o ho;exact k7 b a
   | let_ c d X hw hd hf hc hx=>
    have:=(BA hw).1
    subst this
    exact absurd hc (by decide)
   | num o hw hf ho=>exact absurd hf (by decide)
   | oth o hsep hlet hnum ho=>exact absurd (.inr rfl) hsep
  ·obtain ⟨a,_,_,d⟩:=mx (dS _ (aQ el)).2.2.2.2 ho
   exact k7 d a
 | pe l=>
  cases l with
  | nil=>
   obtain ⟨w1,r,e1,hw⟩:=ip h
   cases e1
   have hs:w=[44]\/w=[58]:=by rcases hw with ⟨z,_⟩|⟨z,_⟩;exact .inl z;exact .inr z
   have key:o≠[58]/\o≠[44]:=by
    cases ho with
    | sep o hw ho=>exact (nI o ho).2
    | let_ c d X hw hd hf hc hx=>
     exfalso
     rcases hs with z|z
     ·rw [z] at hw;have:=(BA hw).1;subst this;exact absurd hc (by decide)
     ·rw [z] at hw;have:=(BA hw).1;subst this;exact absurd hc (by decide)
    | num o hw hf ho=>
     exfalso
     rcases hs with z|z
     ·rw [z] at hf;exact absurd hf (by decide)
     ·rw [z] at hf;exact absurd hf (by decide)
    | oth o hsep hlet hnum ho=>exact absurd hs hsep
   exact bj (by show (if o=[44] then _ else if o=[58] then _ else _)=none;rw [if_neg key.2,if_neg key.1])
  | cons k l=>
   obtain ⟨w1,r,e1,ok,_⟩:=gH h
   cases e1
   exact bj (by show (if cE k o=true then _ else _)=none;rw [nH ok ho];rfl)
 | on=>
  obtain ⟨w1,r,e1,hw⟩:=jh h
  cases e1
  have hm:∃ x,tblO.lookup w=some x:=by rcases hw with ⟨e,_⟩|⟨l,e,_⟩<;>exact ⟨_,e⟩
  obtain ⟨x,ex⟩:=hm
  exact k8 (mx (cP _ (aQ ex)).2.2.2.2.2 ho).2.1
 | en=>
  obtain ⟨w1,r,l,e1,e2,_⟩:=ji h
  cases e1
  have hm:w∈il:=BV _ (gQ _ (aQ e2)).2.2
  exact nF (mx hm ho).2.2.1
 | fi l=>
  cases l with
  | nil=>rw [bj rfl] at h;cases h
  | cons k l=>
   obtain ⟨w1,r,e1,ok,_⟩:=im h
   cases e1
   exact bj (by show (if cE k o=true then _ else _)=none;rw [nH ok ho];rfl)
theorem gS (l:List Nat):ck (l++[10])=false:=by
 unfold ck
 rw [List.all_append,show ([10]:List Nat).all a9=false from by decide,Bool.and_false,Bool.false_and,Bool.and_false,Bool.and_false]
theorem wJ:∀ o∈opsL,opsL.contains (S (cp o++[10]))=false:=by decide +kernel
theorem qS {k:Kn} {w:List Nat} (ok:cE k w=true):cE k (w++[10])=false:=by
 have beh:∀ (c:Nat) (hi:Int),w≠[]->wn 0 hi (bJ c (S (w++[10])))=false:=fun c hi hw=>BC.mpr fun z=>by
  obtain ⟨d,e,h⟩:=cI z
  cases w with
  | nil=>exact hw rfl
  | cons a r=>
   have:d=r++[10]:=(BA e).2.symm
   rw [this,cJ (gS r)] at h;cases h
 have tl:∀ {c:Nat} {d:List Nat} {hi:Int},w≠[]->w++[10]=c::d->wn 0 hi (br d)=true->False:=fun {c d hi} hw e h=>by
  cases w with
  | nil=>exact hw rfl
  | cons a r=>
   have:d=r++[10]:=(BA e).2.symm
   rw [this,cJ (gS r)] at h;cases h
 have wne:w≠[]:=by
  rintro rfl
  revert ok
  cases k<;>decide +kernel
 cases k with
 | inn=>exact beh _ _ wne
 | fld=>exact beh _ _ wne
 | selP=>
  exact BC.mpr fun z=>by
   obtain ⟨d,h⟩:=dW z
   rcases h with ⟨e,h⟩|⟨e,h⟩<;>exact tl wne e h
 | selM=>
  exact BC.mpr fun z=>by
   obtain ⟨d,h⟩:=dW z
   rcases h with ⟨e,h⟩|⟨e,h⟩<;>exact tl wne e h
 | src=>
  exact BC.mpr fun z=>by
   rcases gx z with ⟨d,e,h⟩|⟨d,e,h⟩|h
   ·exact tl wne e h
   ·exact tl wne e h
   ·rw [cJ (gS w)] at h;cases h
 | adr=>exact cJ (gS w)
 | op=>
  have:=wJ _ (gy ok)
  rw [cF] at this
  exact this
 | nam=>exact qQ (c:=10) (by simp) (by decide)
theorem wK:∀ e∈tblE,tblE.lookup (e.1++[10])=none:=by decide +kernel
theorem wL {q:Stt} {w:List Nat} (h:run q [w]=true):run q [w++[10]]=false:=by
 cases q with
 | st f=>
  rcases k6 h with ⟨_,_,h'⟩|⟨l,_,h'⟩
  ·cases h'
  ·cases l<;>cases h'
 | pe l=>
  cases l with
  | nil=>
   obtain ⟨w1,r,e1,hw⟩:=ip h
   cases e1
   rcases hw with ⟨_,h'⟩|⟨_,h'⟩<;>cases h'
  | cons k l=>
   obtain ⟨w1,r,e1,ok,_⟩:=gH h
   cases e1
   exact bj (by show (if cE k (w++[10])=true then _ else _)=none;rw [qS ok];rfl)
 | on=>
  obtain ⟨w1,r,e1,hw⟩:=jh h
  cases e1
  rcases hw with ⟨_,h'⟩|⟨l,e2,h'⟩
  ·cases h'
  ·obtain ⟨hl,_⟩:=cP _ (aQ e2)
   rcases hl with z|⟨k,l',z,_⟩
   ·cases z
   ·have z':some l=some (k::l'):=z
    cases z'
    cases h'
 | en=>
  obtain ⟨w1,r,l,e1,e2,_⟩:=ji h
  cases e1
  exact nF (wK _ (aQ e2))
 | fi l=>
  cases l with
  | nil=>rw [bj rfl] at h;cases h
  | cons k l=>
   obtain ⟨w1,r,e1,ok,_⟩:=im h
   cases e1
   exact bj (by show (if cE k (w++[10])=true then _ else _)=none;rw [qS ok];rfl)
end L3
namespace L3
open PySem L2
def cZ (l:List Nat):List (List Nat):=(Txt.split (S l) (S [32])).map cp
theorem ld (l:List Nat):(cZ l).map S=Txt.split (S l) (S [32]):=kR _
theorem fN (l:List Nat):TK.jn [32] (cZ l)=l:=by
 have h:=StrLaws.join_split (S l) (S [32])
 rw [<-ld,eK] at h
 exact S_inj.mp h
theorem cX {l w:List Nat} (h:w∈cZ l):32∉w:=by
 obtain ⟨z,hz,rfl⟩:=Cn.mp h
 exact StrLaws.split_free (S l) 32 z hz
theorem dn (l:List Nat):cZ l≠[]:=fun h=>ij (S l) (S [32]) (by simpa [cZ] using h)
theorem iy {V:List (List Nat)} (h0:V≠[]) (h:∀ w∈V,32∉w):cZ (TK.jn [32] V)=V:=qe (dn _) h0 (fun w hw=>cX hw) h (fN _)
theorem j7 {sep:List Nat} {B:List (List Nat)} (hb:B≠[]):∀ {A:List (List Nat)},A≠[]->TK.jn sep (A++B)=TK.jn sep A++(sep++TK.jn sep B)
 | [],h=>absurd rfl h
 | [t],_=>by
  cases B with
  | nil=>exact absurd rfl hb
  | cons u r=>rfl
 | t::u::r,_=>by
  have ih:=j7 (sep:=sep) hb (A:=u::r) (by simp)
  show t++(sep++TK.jn sep ((u::r)++B))=(t++(sep++TK.jn sep (u::r)))++(sep++TK.jn sep B)
  rw [ih]
  simp
theorem cQ (a b:List Nat):cZ (a++32::b)=cZ a++cZ b:=by
 have e:a++32::b=TK.jn [32] (cZ a++cZ b):=by rw [j7 (dn b) (dn a),fN,fN];rfl
 rw [e]
 refine iy (by simp [dn]) fun w hw=>?_
 rcases Cf.mp hw with hw|hw<;>exact cX hw
theorem dX {w:List Nat} (h:32∉w):cZ w=[w]:=iy (V:=[w]) (by simp) (fun x hx=>by rw [Ch.mp hx];exact h)
theorem uR {f:Bool} {w:List Nat} {l:List Kn} {R:List (List Nat)} (h:tblS.lookup w=some l):run (.st f) (w::R)=run (.pe l) R:=by
 refine cj ?_
 show (if f=true/\w=[58] then some Stt.on else (tblS.lookup w).map .pe)=_
 rw [if_neg (fun z=>(dS _ (aQ h)).2.1 z.2),h]
 rfl
theorem jj {k:Kn} {l:List Kn} {w:List Nat} {R:List (List Nat)} (h:cE k w=true):run (.pe (k::l)) (w::R)=run (.pe l) R:=cj (by show (if cE k w=true then _ else _)=_;rw [if_pos h])
theorem le {k:Kn} {l:List Kn} {w:List Nat} {R:List (List Nat)} (h:cE k w=true):run (.fi (k::l)) (w::R)=run (.fi l) R:=cj (by show (if cE k w=true then _ else _)=_;rw [if_pos h])
theorem gh {w:List Nat} {x:Str} (h:S w=x):w=cp x:=by rw [<-h,cF]
theorem lf {ws:List (List Nat)} (h:stepOk (be (ws.map S))=true) (f:Bool) (R:List (List Nat)):run (.st f) (ws++R)=run (.pe []) R:=by
 have no:stepOk .non=true->False:=fun z=>by cases z
 match ws,h with
 | [],h=>exact (no h).elim
 | [a],h=>exact (no h).elim
 | [a,b],h=>exact (no h).elim
 | [x,a,b,c],h=>exact (no h).elim
 | a::b::c::d::e::g::r,h=>exact (no h).elim
 | [x,a,b,c,d],h=>
  have h':stepOk (if S x="two" then .tup [.str (S x),bJ 114 (S a),.str (S b),b7 (S c),b7 (S d)] else .non)=true:=h
  by_cases e:S x="two"
  ·rw [if_pos e,e] at h'
   have h2:(wn 0 7 (bJ 114 (S a)) && (opOk (.str (S b)) && (srcOk (b7 (S c)) && srcOk (b7 (S d)))))=true:=h'
   rw [BD,BD,BD] at h2
   rw [gh e]
   show run (.st f) (cp "two"::a::b::c::d::R)=_
   rw [uR (l:=[.inn,.op,.src,.src]) (by decide +kernel),jj (k:=.inn) h2.1,jj (k:=.op) h2.2.1,jj (k:=.src) h2.2.2.1,jj (k:=.src) h2.2.2.2]
  ·rw [if_neg e] at h';exact (no h').elim
 | [x,a,b],h=>
  have h':stepOk (if S x="get" then .tup [.str (S x),bJ 114 (S a),cO 112 (S b)] else if S x="ask" then .tup [.str (S x),bJ 114 (S a),cO 109 (S b)] else if S x="cell" then .tup [.str (S x),bJ 114 (S a),b7 (S b)] else if S x="put" then .tup [.str (S x),cO 112 (S a),b7 (S b)] else if S x="tell" then .tup [.str (S x),cO 109 (S a),b7 (S b)] else .tup [.str (S x),b7 (S a),b7 (S b)])=true:=h
  show run (.st f) (x::a::b::R)=_
  have two:∀ {k1 k2:Kn},tblS.lookup x=some [k1,k2]->(cE k1 a && cE k2 b)=true->run (.st f) (x::a::b::R)=run (.pe []) R:=fun {k1 k2} hl ho=>by
   rw [BD] at ho
   rw [uR hl,jj ho.1,jj ho.2]
  by_cases e1:S x="get"
  ·rw [if_pos e1,e1] at h'
   exact two (k1:=.inn) (k2:=.selP) (by rw [gh e1];decide +kernel) h'
  rw [if_neg e1] at h'
  by_cases e2:S x="ask"
  ·rw [if_pos e2,e2] at h'
   exact two (k1:=.inn) (k2:=.selM) (by rw [gh e2];decide +kernel) h'
  rw [if_neg e2] at h'
  by_cases e3:S x="cell"
  ·rw [if_pos e3,e3] at h'
   exact two (k1:=.inn) (k2:=.src) (by rw [gh e3];decide +kernel) h'
  rw [if_neg e3] at h'
  by_cases e4:S x="put"
  ·rw [if_pos e4,e4] at h'
   exact two (k1:=.selP) (k2:=.src) (by rw [gh e4];decide +kernel) h'
  rw [if_neg e4] at h'
  by_cases e5:S x="tell"
  ·rw [if_pos e5,e5] at h'
   exact two (k1:=.selM) (k2:=.src) (by rw [gh e5];decide +kernel) h'
  rw [if_neg e5] at h'
  by_cases e6:S x="store"
  ·rw [e6] at h'
   exact two (k1:=.src) (k2:=.src) (by rw [gh e6];decide +kernel) h'
  ·exfalso
   have nh:∀ (w:Str) (n:Nat),(n=3->S x≠w)->hd w n (.tup [.str (S x),b7 (S a),b7 (S b)])=false:=fun w n hw=>by
    show (decide (2+1=n) && decide (S x=w))=false
    by_cases h3:n=3
    ·rw [decide_eq_false (hw h3),Bool.and_false]
    ·rw [decide_eq_false (by omega),Bool.false_and]
   unfold stepOk at h'
   rw [nh _ _ (fun _=>e1),nh _ _ (fun _=>e2),nh _ _ (fun _=>e3),nh _ _ (fun z=>absurd z (by decide)),nh _ _ (fun _=>e4),nh _ _ (fun _=>e5),nh _ _ (fun _=>e6)] at h'
   cases h'
theorem tW {ws:List (List Nat)} (h:bT (ce (ws.map S))=true):run .en ws=true:=by
 have strE:∀ l:List Str,bT (.tup (l.map .str))=true->(∃ x,l=[x]/\(x="next"\/x="back"\/x="stop"))\/∃ x y,l=[x,y]/\x="fault"/\(kM (.str y) && vL (.str y))=true\/∃ x y,l=[x,y]/\(x="go"\/x="call"):=fun l hl=>by
  match l,hl with
  | [],hl=>cases hl
  | [x],hl=>
   left
   refine ⟨x,rfl,?_⟩
   have h2:(hd "next" 1 (.tup [.str x]) || (hd "back" 1 (.tup [.str x]) || hd "stop" 1 (.tup [.str x])))=true:=by
    unfold bT at hl
    have n2:∀ w:Str,hd w 2 (.tup ([x].map .str))=false:=fun w=>rfl
    rw [n2,n2,n2] at hl
    exact hl
   have h3:((decide (x="next")) || (decide (x="back") || decide (x="stop")))=true:=by
    have e:∀ w:Str,hd w 1 (.tup [.str x])=decide (x=w):=fun w=>by
     show (decide (0+1=1) && decide (x=w))=_
     rw [decide_eq_true rfl,Bool.true_and]
    rw [e,e,e] at h2
    exact h2
   simpa using h3
  | [x,y],hl=>
   right
   by_cases hf:x="fault"
   ·exact ⟨x,y,.inl ⟨rfl,hf,by subst hf;exact hl⟩⟩
   ·by_cases hg:x="go"\/x="call"
    ·exact ⟨x,y,.inr ⟨x,y,rfl,hg⟩⟩
    ·exfalso
     have e2:∀ w:Str,hd w 2 (.tup [.str x,.str y])=decide (x=w):=fun w=>by
      show (decide (1+1=2) && decide (x=w))=_
      rw [decide_eq_true rfl,Bool.true_and]
     have e1:∀ w:Str,hd w 1 (.tup [.str x,.str y])=false:=fun w=>rfl
     have hl':bT (.tup [.str x,.str y])=true:=hl
     unfold bT at hl'
     rw [e2,e2,e2,e1,e1,e1,decide_eq_false hf,decide_eq_false (fun z=>hg (.inl z)),decide_eq_false (fun z=>hg (.inr z))] at hl'
     cases hl'
  | x::y::z::r,hl=>
   exfalso
   have e:∀ (w:Str) (n:Nat),n<=2->hd w n (.tup (.str x::.str y::.str z::r.map .str))=false:=fun w n hn=>by
    show (decide ((.str y::.str z::r.map Th.str:List Th).length+1=n) && _)=false
    rw [decide_eq_false (by simp only [Bx];omega),Bool.false_and]
   have hl':bT (.tup (.str x::.str y::.str z::r.map .str))=true:=hl
   unfold bT at hl'
   rw [e _ _ (by decide),e _ _ (by decide),e _ _ (by decide),e _ _ (by decide),e _ _ (by decide),e _ _ (by decide)] at hl'
   cases hl'
 have one:∀ {x:List Nat},tblE.lookup x=some []->run .en [x]=true:=fun {x} e=>by
  rw [cj (q':=.fi []) (by show (tblE.lookup x).map Stt.fi=_;rw [e];rfl)];rfl
 have two:∀ {x y:List Nat} {k:Kn},tblE.lookup x=some [k]->cE k y=true->run .en [x,y]=true:=fun {x y k} e ho=>by
  rw [cj (q':=.fi [k]) (by show (tblE.lookup x).map Stt.fi=_;rw [e];rfl),le ho];rfl
 have gen:∀ l:List Str,bT (.tup (l.map .str))=true->l=ws.map S->(∀ x y,l=[x,y]->x="go"\/x="call"->False)->run .en ws=true:=fun l hl el hng=>by
  rcases strE l hl with ⟨x,rfl,hx⟩|⟨x,y,h1|⟨x',y',e1,hx⟩⟩
  ·match ws,el with
   | [a],el=>
    have ea:S a=x:=(BA el).1.symm
    refine one ?_
    rcases hx with rfl|rfl|rfl<;>(rw [gh ea];decide +kernel)
  ·obtain ⟨rfl,rfl,hn⟩:=h1
   match ws,el with
   | [a,b],el=>
    have ea:S a="fault":=(BA el).1.symm
    have eb:S b=y:=(BA (BA el).2).1.symm
    refine two (k:=.nam) (by rw [gh ea];decide +kernel) ?_
    subst eb
    exact hn
  ·exact (hng x' y' e1 hx).elim
 match ws,h with
 | [],h=>cases h
 | [a],h=>exact gen [S a] h rfl (fun x y e=>by cases e)
 | [a,b],h=>
  have h':bT (if S a="go"\/S a="call" then .tup [.str (S a),bJ 102 (S b)] else .tup [.str (S a),.str (S b)])=true:=h
  by_cases hg:S a="go"\/S a="call"
  ·rw [if_pos hg] at h'
   rcases hg with e|e
   ·rw [e] at h'
    exact two (k:=.fld) (by rw [gh e];decide +kernel) h'
   ·rw [e] at h'
    exact two (k:=.fld) (by rw [gh e];decide +kernel) h'
  ·rw [if_neg hg] at h'
   exact gen [S a,S b] h' rfl (fun x y e hx=>by cases e;exact hg hx)
 | a::b::c::r,h=>exact gen (S a::S b::S c::r.map S) h rfl (fun x y e=>by cases e)
theorem qU {ws:List (List Nat)} (h:cv (ff (ws.map S))=true):run .on ws=true:=by
 have e2:∀ (w x:Str) (t:Th),hd w 2 (.tup [.str x,t])=decide (x=w):=fun w x t=>by
  show (decide (1+1=2) && decide (x=w))=_
  rw [decide_eq_true rfl,Bool.true_and]
 have done:∀ (x:List Nat) (r:List (List Nat)),cv (.tup [.str (S x),ce (r.map S)])=true->(S x≠"on")->run .on (x::r)=true:=fun x r hh hn=>by
  unfold cv at hh
  rw [e2,e2,decide_eq_false hn] at hh
  have n4:∀ w:Str,hd w 4 (.tup [.str (S x),ce (r.map S)])=false:=fun w=>rfl
  rw [n4,n4] at hh
  have hh':(decide (S x="done") && bT (ce (r.map S)))=true:=hh
  rw [BD,decide_eq_true_iff] at hh'
  have ex:=gh hh'.1
  rw [ex,cj (q':=.en) (by show (tblO.lookup (cp "done")).map (fun x=>match x with|some l=>Stt.fi l|none=>Stt.en)=_;rw [show tblO.lookup (cp "done")=some none from by decide +kernel];rfl)]
  exact tW hh'.2
 have onE:∀ (x:List Nat) (r:List (List Nat)),S x="on"->cv (.tup [.str (S x),ce (r.map S)])=true->False:=fun x r e hh=>by
  rw [e] at hh
  have:wn 0 399 (ce (r.map S))=true:=hh
  unfold ce at this
  split at this
  ·split at this<;>cases this
  ·cases this
 match ws,h with
 | [],h=>cases h
 | [a],h=>
  have h':cv (.tup [.str (S a),ce (([]:List (List Nat)).map S)])=true:=h
  by_cases e:S a="on"
  ·exact (onE a [] e h').elim
  ·exact done a [] h' e
 | [a,b],h=>
  have h':cv (if S a="on" then .tup [.str (S a),br (cp (S b))] else .tup [.str (S a),ce [S b]])=true:=h
  by_cases e:S a="on"
  ·rw [if_pos e,e,cF] at h'
   have ho:cE .adr b=true:=h'
   rw [gh e,cj (q':=.fi [.adr]) (by show (tblO.lookup (cp "on")).map (fun x=>match x with|some l=>Stt.fi l|none=>Stt.en)=_;rw [show tblO.lookup (cp "on")=some (some [.adr]) from by decide +kernel];rfl),le ho]
   rfl
  ·rw [if_neg e] at h'
   exact done a [b] h' e
 | [a,b,c],h=>
  have h':cv (.tup [.str (S a),ce ([b,c].map S)])=true:=h
  by_cases e:S a="on"
  ·exact (onE a _ e h').elim
  ·exact done a _ h' e
 | [a,b,c,d],h=>
  have h':cv (if S a="some"\/S a="top" then .tup [.str (S a),bJ 114 (S b),br (cp (S c)),br (cp (S d))] else .tup [.str (S a),ce [S b,S c,S d]])=true:=h
  by_cases e:S a="some"\/S a="top"
  ·rw [if_pos e,cF,cF] at h'
   have hx:(cE .inn b && (cE .adr c && cE .adr d))=true:=by
    rcases e with e|e
    ·rw [e] at h';exact h'
    ·rw [e] at h';exact h'
   rw [BD,BD] at hx
   have hl:tblO.lookup a=some (some [.inn,.adr,.adr]):=by rcases e with e|e<;>(rw [gh e];decide +kernel)
   rw [cj (q':=.fi [.inn,.adr,.adr]) (by show (tblO.lookup a).map (fun x=>match x with|some l=>Stt.fi l|none=>Stt.en)=_;rw [hl];rfl),le hx.1,le hx.2.1,le hx.2.2]
   rfl
  ·rw [if_neg e] at h'
   by_cases e':S a="on"
   ·exact (onE a [b,c,d] e' h').elim
   ·exact done a [b,c,d] h' e'
 | a::b::c::d::g::r,h=>
  have h':cv (.tup [.str (S a),ce ((b::c::d::g::r).map S)])=true:=h
  by_cases e:S a="on"
  ·exact (onE a _ e h').elim
  ·exact done a _ h' e
end L3
namespace L3
open PySem L2
theorem jk:∀ (ps:List (List Nat)),ps≠[]->(∀ p∈ps,stepOk (be ((cZ p).map S))=true)->∀ (f:Bool) (R:List (List Nat)),run (.st f) (cZ (TK.jn [32,44,32] ps)++[58]::R)=run .on R
 | [],h,_,_,_=>absurd rfl h
 | [p],_,h,f,R=>by
  show run (.st f) (cZ p++[58]::R)=_
  rw [lf (h p BJ)]
  rfl
 | p::u::r,_,h,f,R=>by
  have ih:=jk (u::r) (by simp) (fun z hz=>h z (BF _ hz)) false R
  have e:TK.jn [32,44,32] (p::u::r)=p++32::([44]++32::TK.jn [32,44,32] (u::r)):=rfl
  rw [e,cQ,cQ,dX (w:=[44]) (by decide),BT,BT,lf (h p BJ)]
  show run (.pe []) ([44]::(cZ (TK.jn [32,44,32] (u::r))++[58]::R))=_
  rw [cj (q':=.st false) rfl,ih]
theorem jl {ss:List Th} {on:Th} (h:bH (.tup [.tup ss,on])=true):(∀ s∈ss,stepOk s=true)/\cv on=true:=by
 have h':(decide (ss.length<=16) && (ss.all stepOk && cv on))=true:=h
 rw [BD,BD] at h'
 exact ⟨fun s hs=>Cd.mp h'.2.1 s hs,h'.2.2⟩
theorem tX:cv (ff (Txt.split Str.empty (S [32])))=false:=by decide +kernel
theorem fO {l:List Nat} (h:bH (dk (S l))=true):run (.st true) (cZ l)=true:=by
 unfold dk at h
 rw [cF] at h
 by_cases hp:[58,32] <+: l
 ·rw [if_pos (decide_eq_true hp)] at h
  obtain ⟨t,rfl⟩:=hp
  have h2:=(jl h).2
  have h3:cv (ff (Txt.split (S t) (S [32])))=true:=h2
  rw [<-ld] at h3
  show run (.st true) (cZ ([58]++32::t))=true
  rw [cQ,dX (w:=[58]) (by decide)]
  show run (.st true) ([58]::cZ t)=true
  rw [cj (q':=.on) rfl]
  exact qU h3
 ·rw [if_neg (by rw [decide_eq_true_iff];exact hp)] at h
  obtain ⟨hs,ho⟩:=jl h
  rcases StrLaws.occ_head (S l) (S [32,58,32]) 1 (BG _) with ⟨e,_⟩|⟨i,r,e,ai,_⟩
  ·exfalso
   have:(cc (S l) (S [32,58,32])).2.2=Str.empty:=by unfold cc;rw [e]
   rw [this,tX] at ho
   cases ho
  ·have hd:=(eJ (sep:=[32,58,32]) (by decide) i).mp ai
   obtain ⟨b,hb⟩:=hd
   have hl:l=l.take i++([32,58,32]++b):=by rw [hb,List.take_append_drop]
   have hx:∀ x y:Str,x.cps.toList=y.cps.toList->x=y:=fun x y h=>by rw [gJ x,gJ y,h]
   have e1:(cc (S l) (S [32,58,32])).1=S (l.take i):=by
    unfold cc;rw [e]
    apply hx
    rw [StrLaws.strSub_toList]
    show (l.drop 0).take (i - 0)=l.take i
    rw [Cr,Nat.sub_zero]
   have e2:(cc (S l) (S [32,58,32])).2.2=S b:=by
    unfold cc;rw [e]
    apply hx
    rw [StrLaws.strSub_toList,a8]
    show (l.drop (i+3)).take ((S l).length - (i+3))=b
    have:l.drop (i+3)=b:=by rw [<-List.drop_drop,<-hb];rfl
    rw [this,a8,Ck]
    rw [<-this,B2]
    exact BG _
   rw [e1] at hs
   rw [e2,<-ld] at ho
   have ej:TK.jn [32,44,32] ((Txt.split (S (l.take i)) (S [32,44,32])).map cp)=l.take i:=by
    have h:=StrLaws.join_split (S (l.take i)) (S [32,44,32])
    rw [<-kR (Txt.split (S (l.take i)) (S [32,44,32])),eK] at h
    exact S_inj.mp h
   have hne:(Txt.split (S (l.take i)) (S [32,44,32])).map cp≠[]:=by simp [ij]
   have hall:∀ p∈(Txt.split (S (l.take i)) (S [32,44,32])).map cp,stepOk (be ((cZ p).map S))=true:=fun p hp=>by
    obtain ⟨z,hz,rfl⟩:=Cn.mp hp
    rw [ld]
    exact hs _ (Cn.mpr ⟨z,hz,by rw [show S (cp z)=z from (gJ z).symm]⟩)
   generalize (Txt.split (S (l.take i)) (S [32,44,32])).map cp=ps at ej hne hall
   rw [hl,<-ej]
   show run (.st true) (cZ (TK.jn [32,44,32] ps++32::([58]++32::b)))=true
   rw [cQ,cQ,dX (w:=[58]) (by decide)]
   show run (.st true) (cZ (TK.jn [32,44,32] ps)++[58]::cZ b)=true
   rw [jk ps hne hall]
   exact qU ho
theorem tY:bH (dk (S []))=false:=by decide +kernel
theorem gi {V:List (List Nat)} (hV:∀ w∈V,32∉w) (h:run (.st true) V=false):bH (dk (S (TK.jn [32] V)))=false:=by
 by_cases h0:V=[]
 ·subst h0;exact tY
 ·exact BC.mpr fun z=>by
   have:=fO z
   rw [iy h0 hV,h] at this
   cases this
theorem eZ {l:List Nat} (h:ck l=true):l.length<=9:=by
 unfold ck at h
 simp only [BD,decide_eq_true_iff] at h
 exact h.2.1
theorem wM:∀ o∈opsL,(cp o).length<=10:=by decide +kernel
theorem wN {k:Kn} {w:List Nat} (h:cE k w=true):w.length<=10:=by
 have beh:∀ {c:Nat} {hi:Int},wn 0 hi (bJ c (S w))=true->w.length<=10:=fun {c hi} z=>by
  obtain ⟨d,rfl,z'⟩:=cI z
  have:=eZ (dU z')
  rw [Bx];omega
 have sel:∀ {c:Nat},selOk (cO c (S w))=true->w.length<=10:=fun {c} z=>by
  obtain ⟨d,⟨rfl,z'⟩|⟨rfl,z'⟩⟩:=dW z
  all_goals
   have:=eZ (dU z')
   rw [Bx];omega
 cases k with
 | inn=>exact beh h
 | fld=>exact beh h
 | selP=>exact sel h
 | selM=>exact sel h
 | src=>
  rcases gx h with ⟨d,rfl,z⟩|⟨d,rfl,z⟩|z
  ·have:=eZ (dU z);rw [Bx];omega
  ·have:=eZ (dU z);rw [Bx];omega
  ·have:=eZ (dU z);omega
 | adr=>have:=eZ (dU (l:=w) h);omega
 | op=>
  have:=wM _ (gy h)
  rwa [cF] at this
 | nam=>
  have h':(eI w && !fauS.contains (S w))=true:=h
  unfold eI at h'
  simp only [BD,decide_eq_true_iff] at h'
  omega
theorem tZ:∀ w∈il,w.length<=10:=by decide +kernel
theorem j8 {P:List Nat->Prop} (hk:∀ k w,cE k w=true->P w) (hA:∀ w∈il,P w) (h1:P [58]) (h2:P [44]):∀ {T:List (List Nat)} {q:Stt},run q T=true->∀ w∈T,P w
 | [],_,_,w,hw=>by cases hw
 | u::T,q,h,w,hw=>by
  have hT:w=u\/w∈T:=BH.mp hw
  obtain ⟨q',e,h'⟩:=dm h
  rcases hT with rfl|hT
  ·cases q with
   | st f=>
    have e':(if f=true/\w=[58] then some Stt.on else (tblS.lookup w).map .pe)=some q':=e
    by_cases hf:f=true/\w=[58]
    ·rw [hf.2];exact h1
    ·rw [if_neg hf] at e'
     cases el:tblS.lookup w with
     | none=>rw [el] at e';cases e'
     | some v=>exact hA _ ((dS _ (aQ el)).2.2.2.2)
   | pe l=>
    cases l with
    | nil=>
     have e':(if w=[44] then some (Stt.st false) else if w=[58] then some .on else none)=some q':=e
     by_cases hc:w=[44]
     ·rw [hc];exact h2
     ·rw [if_neg hc] at e'
      by_cases hc2:w=[58]
      ·rw [hc2];exact h1
      ·rw [if_neg hc2] at e';cases e'
    | cons k l=>
     obtain ⟨w1,r,e1,ok,_⟩:=gH h
     cases e1
     exact hk _ _ ok
   | on=>
    cases el:tblO.lookup w with
    | none=>
     have e':(tblO.lookup w).map (fun x=>match x with|some l=>Stt.fi l|none=>Stt.en)=some q':=e
     rw [el] at e';cases e'
    | some v=>exact hA _ ((cP _ (aQ el)).2.2.2.2.2)
   | en=>
    obtain ⟨w1,r,l,e1,e2,_⟩:=ji h
    cases e1
    exact hA _ (BV _ (gQ _ (aQ e2)).2.2)
   | fi l=>
    cases l with
    | nil=>rw [bj rfl] at h;cases h
    | cons k l=>
     obtain ⟨w1,r,e1,ok,_⟩:=im h
     cases e1
     exact hk _ _ ok
  ·exact j8 hk hA h1 h2 h' w hT
theorem qV {T:List (List Nat)} {q:Stt} (h:run q T=true):∀ w∈T,w.length<=10:=j8 (fun _ _=>wN) tZ (by decide) (by decide) h
theorem ua:∀ o∈opsL,∀ c∈cp o,c < 128:=by decide +kernel
theorem qW:∀ w∈il,∀ c∈w,c < 128:=by decide +kernel
theorem uc {k:Kn} {w:List Nat} (h:cE k w=true):∀ c∈w,c < 128:=by
 have fig:∀ {l:List Nat} {lo hi:Int},wn lo hi (br l)=true->∀ c∈l,c < 128:=fun {l lo hi} z c hc=>by
  have:=Cd.mp (iu (dU z)).2 c hc
  simp only [a9,BD,decide_eq_true_iff] at this
  omega
 have con:∀ {a:Nat} {d:List Nat} {lo hi:Int},a < 128->wn lo hi (br d)=true->∀ c∈a::d,c < 128:=fun {a d lo hi} ha z c hc=>by
  rcases BH.mp hc with rfl|hc
  ·exact ha
  ·exact fig z c hc
 have beh:∀ {c:Nat} {hi:Int},c < 128->wn 0 hi (bJ c (S w))=true->∀ c∈w,c < 128:=fun {c hi} hc z=>by
  obtain ⟨d,rfl,z'⟩:=cI z
  exact con hc z'
 have sel:∀ {c:Nat},c < 128->selOk (cO c (S w))=true->∀ c∈w,c < 128:=fun {c} hc z=>by
  obtain ⟨d,⟨rfl,z'⟩|⟨rfl,z'⟩⟩:=dW z
  ·exact con (by decide) z'
  ·exact con hc z'
 cases k with
 | inn=>exact beh (by decide) h
 | fld=>exact beh (by decide) h
 | selP=>exact sel (by decide) h
 | selM=>exact sel (by decide) h
 | src=>
  rcases gx h with ⟨d,rfl,z⟩|⟨d,rfl,z⟩|z
  ·exact con (by decide) z
  ·exact con (by decide) z
  ·exact fig z
 | adr=>exact fig (l:=w) h
 | op=>
  have:=ua _ (gy h)
  rwa [cF] at this
 | nam=>
  intro c hc
  have:=Cd.mp (gR h).2 c hc
  simp only [dw,BD,decide_eq_true_iff] at this
  omega
theorem ud {T:List (List Nat)} {q:Stt} (h:run q T=true):∀ w∈T,∀ c∈w,c < 128:=j8 (fun _ _=>uc) qW (by decide) (by decide) h
inductive j9 (l:List Nat):List Nat->Prop
 | del (A B:List (List Nat)) (w:List Nat):cZ l=A++w::B->j9 l (TK.jn [32] (A++B))
 | dbl (A B:List (List Nat)) (w:List Nat):cZ l=A++w::B->j9 l (TK.jn [32] (A++w::w::B))
 | odd (A B:List (List Nat)) (w o:List Nat):cZ l=A++w::B->qP w o->j9 l (TK.jn [32] (A++o::B))
 | bl:j9 l (32::l)
 | lb:j9 l (l++[32])
 | ln:j9 l (l++[10])
 | nl:j9 l (10::l)
 | lc:j9 l (l++[32,58])
 | mn:j9 l (45::32::l)
theorem iz {w o:List Nat} (hw:32∉w) (h:qP w o):32∉o/\o.length<=w.length+30:=by
 cases h with
 | sep _ _ ho=>
  revert ho;revert o
  intro o ho
  have:∀ o∈([[],[59],[44,58],[58,58],[58,44]]:List (List Nat)),32∉o/\o.length<=30:=by decide
  have:=this o ho
  exact ⟨this.1,by omega⟩
 | let_ c d X hw' _ _ hc hx=>
  subst hw'
  have hc':32≠c:=fun z=>hw (z ▸ BJ)
  have hd':32∉d:=fun z=>hw (BF _ z)
  rcases BH.mp hx with rfl|hx
  ·exact ⟨by simp [hc',hd'],by simp⟩
  ·have:∀ X∈([[56],[57],[],[45,49],cp "16777216",[48,48],[120]]:List (List Nat)),32∉X/\X.length<=20:=by decide +kernel
   have:=this X hx
   exact ⟨by simp [hc',this.1],by rw [Bx,Bx];omega⟩
 | num _ _ _ ho=>
  simp only [BH,BW,or_false] at ho
  have:∀ X∈([cp "16777216",[45,49],[120],[],List.replicate 30 49]:List (List Nat)),32∉X/\X.length<=30:=by decide +kernel
  rcases ho with rfl|rfl|rfl|rfl|rfl|rfl|rfl
  ·exact ⟨by simp [hw],by simp⟩
  ·have:=this _ (by simp:cp "16777216"∈_);exact ⟨this.1,by omega⟩
  ·exact ⟨by decide,by simp⟩
  ·exact ⟨by simp [hw],by simp⟩
  ·exact ⟨by decide,by simp⟩
  ·exact ⟨by decide,by simp⟩
  ·exact ⟨by decide,by rw [List.length_replicate];omega⟩
 | oth _ _ _ _ ho=>
  simp only [BH,BW,or_false] at ho
  have:∀ X∈([cp "deep",cp "Load"]:List (List Nat)),32∉X/\X.length<=30:=by decide +kernel
  rcases ho with rfl|rfl|rfl|rfl|rfl
  ·exact ⟨by decide,by simp⟩
  ·exact ⟨by simp [hw],by simp⟩
  ·have:=this _ (by simp:cp "deep"∈_);exact ⟨this.1,by omega⟩
  ·exact ⟨by decide,by simp⟩
  ·have:=this _ (by simp:cp "Load"∈_);exact ⟨this.1,by omega⟩
theorem ue:∀ e∈tblS,e.1.head?≠some 10:=by decide +kernel
theorem uf {l o:List Nat} (h:run (.st true) (cZ l)=true) (hs:j9 l o):bH (dk (S o))=false:=by
 have fr:∀ {A B:List (List Nat)} {w:List Nat},cZ l=A++w::B->(∀ z∈A,32∉z)/\32∉w/\∀ z∈B,32∉z:=fun {A B w} e=>by
  have hf:∀ z∈A++w::B,32∉z:=fun z hz=>cX (l:=l) (by rw [e];exact hz)
  exact ⟨fun z hz=>hf z (by simp [hz]),hf w (by simp),fun z hz=>hf z (by simp [hz])⟩
 have of:∀ {o:List Nat} {V:List (List Nat)},cZ o=V->run (.st true) V=false->bH (dk (S o))=false:=fun {o V} e hr=>BC.mpr fun z=>by
  have:=fO z
  rw [e,hr] at this
  cases this
 cases hs with
 | del A B w e=>
  obtain ⟨fA,fw,fB⟩:=fr e
  refine gi (fun z hz=>(Cf.mp hz).elim (fA z) (fB z)) ?_
  rw [e] at h
  obtain ⟨q',hq,hy⟩:=dB h
  rw [hy];exact tQ hq
 | dbl A B w e=>
  obtain ⟨fA,fw,fB⟩:=fr e
  refine gi (fun z hz=>by
   rcases Cf.mp hz with hz|hz
   ·exact fA z hz
   ·rcases BH.mp hz with rfl|hz
    ·exact fw
    ·rcases BH.mp hz with rfl|hz
     ·exact fw
     ·exact fB z hz) ?_
  rw [e] at h
  obtain ⟨q',hq,hy⟩:=dB h
  rw [hy];exact tR hq
 | odd A B w o e ho=>
  obtain ⟨fA,fw,fB⟩:=fr e
  refine gi (fun z hz=>by
   rcases Cf.mp hz with hz|hz
   ·exact fA z hz
   ·rcases BH.mp hz with rfl|hz
    ·exact (iz fw ho).1
    ·exact fB z hz) ?_
  rw [e] at h
  obtain ⟨q',hq,hy⟩:=dB h
  rw [hy];exact tV hq ho
 | bl=>exact of (V:=[]::cZ l) (by rw [show (32::l:List Nat)=[]++32::l from rfl,cQ,dX (w:=[]) (by decide)];rfl) (bj (by decide +kernel))
 | lb=>exact of (V:=cZ l++[[]]) (by rw [cQ,dX (w:=[]) (by decide)]) (iq h)
 | lc=>exact of (V:=cZ l++[[58]]) (by rw [show l++[32,58]=l++32::[58] from rfl,cQ,dX (w:=[58]) (by decide)]) (iq h)
 | mn=>exact of (V:=[45]::cZ l) (by rw [show (45::32::l:List Nat)=[45]++32::l from rfl,cQ,dX (w:=[45]) (by decide)];rfl) (bj (by decide +kernel))
 | nl=>
  cases ew:cZ l with
  | nil=>exact absurd ew (dn l)
  | cons w T=>
   have e2:10::l=TK.jn [32] ((10::w)::T):=by
    have:=fN l
    rw [ew] at this
    rw [<-this]
    cases T<;>rfl
   rw [e2]
   have hf:∀ z∈w::T,32∉z:=fun z hz=>cX (l:=l) (by rw [ew];exact hz)
   refine gi (fun z hz=>by
    rcases BH.mp hz with rfl|hz
    ·have:=hf w BJ
     simp [this]
    ·exact hf z (BF _ hz)) ?_
   refine bj ?_
   show (if true=true/\10::w=[58] then some Stt.on else (tblS.lookup (10::w)).map .pe)=none
   rw [if_neg (by simp)]
   cases el:tblS.lookup (10::w) with
   | none=>rfl
   | some v=>exact absurd rfl (ue _ (aQ el))
 | ln=>
  obtain ⟨A,w,ew⟩:∃ A w,cZ l=A++[w]:=⟨(cZ l).dropLast,(cZ l).getLast (dn l),(List.dropLast_concat_getLast (dn l)).symm⟩
  have e2:l++[10]=TK.jn [32] (A++[w++[10]]):=by
   have:=fN l
   rw [ew] at this
   rw [<-this]
   by_cases hA:A=[]
   ·subst hA;rfl
   ·rw [j7 (by simp) hA,j7 (by simp) hA]
    show TK.jn [32] A++([32]++w)++[10]=TK.jn [32] A++([32]++(w++[10]))
    simp
  rw [e2]
  have hf:∀ z∈A++[w],32∉z:=fun z hz=>cX (l:=l) (by rw [ew];exact hz)
  refine gi (fun z hz=>by
   rcases Cf.mp hz with hz|hz
   ·exact hf z (by simp [hz])
   ·rw [Ch.mp hz]
    have:=hf w (by simp)
    simp [this]) ?_
  rw [ew] at h
  obtain ⟨q',hq,hy⟩:=dB h
  rw [hy];exact wL hq
def lg (ts:List (List Nat)):Nat:=(ts.map List.length).sum+ts.length
theorem gz (a b:List (List Nat)):lg (a++b)=lg a+lg b:=by
 unfold lg
 rw [B8,List.sum_append,By];omega
theorem dc (w:List Nat) (a:List (List Nat)):lg (w::a)=w.length+1+lg a:=by
 unfold lg
 rw [BR,CM,Bx];omega
theorem lh:∀ {ts:List (List Nat)},ts≠[]->(TK.jn [32] ts).length+1=lg ts
 | [],h=>absurd rfl h
 | [t],_=>by
  rw [dc]
  show t.length+1=t.length+1+0
  rfl
 | t::u::r,_=>by
  have ih:=lh (ts:=u::r) (by simp)
  rw [dc,<-ih]
  show (t++([32]++TK.jn [32] (u::r))).length+1=_
  rw [By,By,List.length_singleton];omega
theorem qX (ts:List (List Nat)):(TK.jn [32] ts).length<=lg ts:=by
 by_cases h:ts=[]
 ·subst h;exact BG _
 ·have:=lh h;omega
theorem qY {l o:List Nat} (h:run (.st true) (cZ l)=true) (hs:j9 l o):o.length<=l.length+45:=by
 have hl:lg (cZ l)=l.length+1:=by rw [<-lh (dn l),fN]
 cases hs with
 | del A B w e=>
  have:=qX (A++B)
  rw [e,gz,dc] at hl
  rw [gz] at this
  omega
 | dbl A B w e=>
  have:=qX (A++w::w::B)
  have hw:=qV h w (by rw [e];simp)
  rw [e,gz,dc] at hl
  rw [gz,dc,dc] at this
  omega
 | odd A B w o e ho=>
  have:=qX (A++o::B)
  have hw:=(iz (cX (l:=l) (by rw [e];simp)) ho).2
  rw [e,gz,dc] at hl
  rw [gz,dc] at this
  omega
 | bl=>rw [Bx];omega
 | lb=>rw [By,List.length_singleton];omega
 | ln=>rw [By,List.length_singleton];omega
 | nl=>rw [Bx];omega
 | lc=>rw [By];show l.length+2<=_;omega
 | mn=>rw [Bx,Bx];omega
end L3
namespace L2
open PySem PySem.Spec PyProof.Rows
section
variable {X:Cx}
theorem lp {K:PySem.W.Frag} (h:X.K=K):cA X (.builtin "isinstance") (fun xs H Q=>∃ e C d r fs nm bm C' nm' bm',xs=[.ref e,.ref C']/\XAt H e C d r fs/\XC K C nm bm/\XC K C' nm' bm'/\Q (.bl ((Value.ref C::bm).contains (.ref C'))) H):=by
 subst h;exact sd
theorem qZ {K:PySem.W.Frag} {e:Expr} {f:Str} {ta:TE} {pos:Pos} (h:X.K=K) (he:PE X e ta) (hb:attributeBase e f X.env (eval e X.env)=eval e X.env):PE X (.Attribute e f pos) (uJ K ta f):=by
 subst h;exact se he hb
end
end L2
namespace L3
open PySem L2
structure Lk (K:PySem.W.Frag) (cT:Addr):Prop where
 t1:PySem.W.findIn K (.ref cT) "__class__"=some (some (.builtin "object.__class__"))
 t2:PySem.W.specialIn K (.builtin "object.__class__") "__get__"=some (some (.builtin "getset_descriptor.__get__"))
 t3:PySem.W.takesIn K (.builtin "object.__class__")=some true
 t4:PySem.W.mroIn K cT (.type "object")=some true
 kn:PySem.W.kitOne K (.type "NoneType") (.ref cT)=some false
theorem rc {K:PySem.W.Frag} (c:Value):PySem.W.kitOne K c c=some true:=by
 unfold PySem.W.kitOne
 rw [if_pos (by simp)]
theorem iA {K:PySem.W.Frag} {mg:Str->Option Value} {R fR cL fL cB:Addr} {n:Int} {H H1:Hp} {E:XK} {te:TE} {D:Ends} {σ:St} (TX:Xs K mg R fR cL fL cB) (s1:Same H H1) (qf:qO cL n H E) (ht:∀ Q:VK,Q (.int n) H1->te σ H1 Q):pG K (pA cL (tP cL) E0 (o0 te rM)) (fun _=>E) D σ H1:=by
 refine ht _ fun e he=>⟨e,.int n,rfl,⟨ae,by show 0<=1000;decide,rfl⟩,fun H2 d xa k=>⟨rfl,e,cL,some d,_,"BadLine",kg R,rfl,xa,TX.l,?_⟩⟩
 obtain ⟨x1,x2,x3,x4⟩:=xa
 refine qf e d _ (fun b o hb=>?_) (s1.free he) ⟨ae,x2,x3,by rw [aG x3];exact x4⟩
 have hb1:=s1 _ _ hb
 have ne:b≠e:=aS hb1 he
 rw [aG ne]
 exact k b o (by rw [aG ne];exact hb1) ne
def A6 (P:Program) (w:World) (K:PySem.W.Frag) (mg:Str->Option Value) (base:Heap) (x:Str) (k:Nat) (ps:List Str) (sp:Sp):Prop:=
 ∃ (f:Addr) (fd:FuncData),mg x=some (.ref f)/\PySem.W.keepIn K (.ref f)=true/\Binds K fd ps []/\aI P w K mg base (rB P w) k f fd ps sp
theorem iB {t:Th} (h:LitT t):(fH t).length<=800:=by
 obtain ⟨ss,on,rfl,hs,ho,hl⟩:=h.ex
 have a:=(gw hs hl).2
 have b:=mt ho
 show ((if ss=[] then [58,32] else TK.jn [32,44,32] (ss.map cW)++[32,58,32])++TK.jn [32] (eM on)).length<=800
 split<;>simp only [By,Bx,Bz]<;>omega
inductive InL (p:Addr) (H:Hp):V->Option Th->Prop
 | bad (x:Str):(cp x).length<=900->bH (dk x)=false->InL p H (.str x) none
 | good (x:Str):(cp x).length<=900->LitT (dk x)->InL p H (.str x) (some (dk x))
 | no {v:V} {t:Th}:TgV p H v t->t.isStr=false->InL p H v none
def yW (C:Nat->Addr) (cT cL:Addr):Sp:=fun vs H Q E=>∃ (p:Addr) (v:V) (o:Option Th),vs=[v]/\InL p H v o/\(o=none->qO cL 0 H E)/\(∀ t,o=some t->∀ u H',Same H H'->LiO C cT p H' u t->Q u H')
def re (C:Nat->Addr) (cT:Addr):Sp:=fun vs H Q _=>∃ (p:Addr) (v:V) (o:Option Th),vs=[v]/\InL p H v o/\(o=none->∀ r H',Same H H'->H' r=some (.tup [.str "bad",.int 0])->Q (.ref r) H') /\
 (∀ t,o=some t->∀ r u H',Same H H'->H' r=some (.tup [.str "told",u])->TgV p H' u t->Q (.ref r) H')
section
variable {P:Program} {w:World} {K:PySem.W.Frag} {mg:Str->Option Value} {base:Heap} {C fi:Nat->Addr} {R fR cL fL cB cT:Addr}
theorem scReadL:aq ["text","told"] ["text"] (al lZ):=⟨rfl,rfl,rfl,by decide +kernel,rfl,by decide +kernel,by decide +kernel⟩
set_option maxHeartbeats 4000000 in
theorem rf {f:Addr} {fd fdL:FuncData} (F:Fun K "read_little" "read_little" lZ f fd) (B:Bl mg) (TX:Xs K mg R fR cL fL cB) (FL:aI P w K mg base bE 2 fL fdL ["self","line"] (tP cL)) (BL:Binds K fdL ["self","line"] [])
  (LT:Fn P w K mg base "little_told" 5 ["text"] (eO dk)) (IL:Fn P w K mg base "is_little" 6 ["thing"] (spAsk bH p7)) (LO:Fn P w K mg base "little_of" 7 ["told"] (qL C cT)):aI P w K mg base (rB P w) 8 f fd ["text"] (yW C cT cL):=by
 refine F.okX scReadL (fun vs H Q E h=>?_) (fun cdv A outer s H vs Q E hr h=>?_)
 ·obtain ⟨p,v,o,rfl,_⟩:=h
  rfl
 ·obtain ⟨p,v,o,rfl,inp,qf,qt⟩:=h
  have hr2:Room 3 _:=hr.mono (by decide)
  have hr5:Room 5 _:=hr.mono (by decide)
  have hr6:Room 6 _:=hr.mono (by decide)
  refine ⟨_,ak (a6 (i:=1) scReadL.nd rfl (Or.inl rfl) (dq (aV (aJ (cS (T:="str")) (by rfl) B.isinstance bG (aa (pv 0) (aa (dY (by rfl) B.str bK) ac)))) (ao LT hr5 rfl (aa (pv 0) ac)) ef))
   (ak (aH (cw (aV (ao IL hr6 rfl (aa (pv 1) ac)))) (ah (pH (pB TX.l TX.mkx FL hr2 rfl TX.mL BL c7 (by decide) (aa ad ac)) kI rfl)) aw)
   (ah (am (ao LO hr rfl (aa (pv 1) ac))))),?_⟩
  cases inp with
  | no tv hs=>
   refine ⟨_,rfl,v,_,_,rfl,tv.ty,kit_str _,_,rfl,?_⟩
   rw [hs]
   refine bo ⟨_,rfl,p,.non,.non,rfl,.non,fun ss on z=>(by cases z),fun H2 s2=>⟨_,rfl,?_⟩⟩
   exact bY (iA (D:={ nx:=fun _ _=>True,rt:=fun _ _=>True }) (n:=0) TX s2 (qf rfl) fun Q' h=>h)
  | bad x hx hb=>
   refine ⟨_,rfl,_,_,_,rfl,.str x,rfl,_,rfl,bY ⟨_,rfl,x,rfl,hx,fun u H1 s1 tg=>?_⟩⟩
   refine ⟨_,rfl,p,u,dk x,rfl,tg p,kU hx,fun H2 s2=>⟨_,rfl,?_⟩⟩
   rw [hb]
   exact bY (iA (D:={ nx:=fun _ _=>True,rt:=fun _ _=>True }) (n:=0) TX (s1.trans s2) (qf rfl) fun Q' h=>h)
  | good x hx hg=>
   refine ⟨_,rfl,_,_,_,rfl,.str x,rfl,_,rfl,bY ⟨_,rfl,x,rfl,hx,fun u H1 s1 tg=>?_⟩⟩
   refine ⟨_,rfl,p,u,dk x,rfl,tg p,kU hx,fun H2 s2=>⟨_,rfl,?_⟩⟩
   rw [hg.ok.1]
   exact bo ⟨_,rfl,p,u,dk x,rfl,(tg p).same s2,hg,fun o H3 s3 lo=>qt _ rfl o H3 ((s1.trans s2).trans s3) lo⟩
theorem scLSaid:aq ["_law_text","_law_found","_law_made","e"] ["_law_text"] (al me):=⟨rfl,rfl,rfl,by decide +kernel,rfl,by decide +kernel,by decide +kernel⟩
set_option maxHeartbeats 4000000 in
theorem rg {f:Addr} {fd:FuncData} (F:Fun K "_law_said" "_law_said" me f fd) (B:Bl mg) (TX:Xs K mg R fR cL fL cB) (mB:mg "BadStep"=some (.ref cB)) (nb:(Value.ref cL::kg R).contains (.ref cB)=false) (L:Lc K cT) (TO:gG P w K mg base cT "told" 2 ["self"] (nB C cT)) (RD:A6 P w K mg base "read_little" 8 ["text"] (yW C cT cL)):aI P w K mg base bE 9 f fd ["_law_text"] (re C cT):=by
 refine F.ok scLSaid (fun vs H Q E h=>?_) (fun cdv A outer s H vs Q E hr h=>?_)
 ·obtain ⟨p,v,o,rfl,_⟩:=h
  rfl
 ·obtain ⟨p,v,o,rfl,inp,qf,qt⟩:=h
  have hr2:Room 2 _:=hr.mono (by decide)
  obtain ⟨f1,fd1,m1,k1,b1,F1⟩:=RD
  obtain ⟨f2,fd2,m2,F2,b2⟩:=TO
  refine ⟨_,ak (a6 (i:=1) scLSaid.nd rfl (Or.inl rfl) ef)
   (ak (vy (i:=3) rfl (fun pn ES=>ak (a6 (i:=2) scLSaid.nd rfl (Or.inl rfl) (pF F1 hr rfl m1 k1 b1 .nil kI (aa (pv 0) ac)))
     (ah (a6 (i:=1) scLSaid.nd rfl (Or.inl rfl) (aC (aa af (aa (cD (P:=P) (w:=w) (K:=K) (mg:=mg) (base:=base) (k:=2) rfl rfl rfl rfl rfl hr2 (pv 2)) ac))))))
    (fun A pn=>ah (aH (PW.pt (fg (aV (aJ (lp (K:=K) rfl) (by rfl) B.isinstance bG (aa (pv 3) (aa (bB (v:=.ref cL) rfl TX.mL rfl) ac)))) (dD (cw (aV (aJ (lp (K:=K) rfl) (by rfl) B.isinstance bG (aa (pv 3) (aa (bB (v:=.ref cB) rfl mB rfl) ac))))))))
     (ah (a6 (i:=1) scLSaid.nd rfl (Or.inl rfl) (aC (aa af (aa (qZ (K:=K) rfl (pv 3) rfl) ac))))) aw)) rfl TX.mR TX.r scLSaid.nd rfl rfl)
   (ah (am (pv 1)))),?_⟩
  have hc1:(Value.ref cL::kg R).contains (.ref R)=true:=by simp [List.contains_cons]
  have hc2:(Value.ref cL::kg R).contains (.ref cL)=true:=by simp [List.contains_cons]
  refine ⟨_,rfl,p,v,o,rfl,inp,fun eo e d H1 s1 _ xa=>?_,fun t eo u H1 s1 lo=>?_⟩
  ·refine ⟨e,cL,some d,_,"BadLine",kg R,rfl,xa,TX.l,hc1,?_⟩
   refine ⟨_,rfl,e,cL,some d,true,_,"BadLine",kg R,cL,"BadLine",kg R,rfl,xa,TX.l,TX.l,_,rfl,bg hc2 ?_⟩
   refine ⟨_,rfl,e,cL,some d,true,_,"BadLine",kg R,cB,"BadStep",kg R,rfl,xa,TX.l,TX.b,_,rfl,?_⟩
   rw [nb]
   refine bY ?_
   refine ⟨_,rfl,e,cL,d,true,_,"BadLine",kg R,.int 0,rfl,xa,TX.l,TX.na,rfl,(by show 2<=sizeLine;decide),fun r nr=>?_⟩
   exact ⟨_,rfl,qf eo r _ (s1.trans (aj nr)) ae⟩
  ·have lo3:=lo
   cases lo3 with
   | mk a dx tp vs o ss on e e2 ps to ho hl' hs=>
    refine ⟨_,rfl,a,dx,cT,f2,_,fd2,_,_,rfl,e,rfl,L.cls,m2,F2,b2,p,_,_,rfl,lo,fun r H3 s3 tg=>?_⟩
    refine ⟨(by show 2<=sizeLine;decide),fun q nq=>⟨_,rfl,qt _ eo q r _ ((s1.trans s3).trans (aj nq)) ae (tg.same (aj nq))⟩⟩
end
end L3
namespace L2
open PySem PySem.Spec PyProof.Rows
section
variable {X:Cx}
theorem nJ:eC X (binaryOp .Mult) (fun x y H Q=>∃ (z:Str) (n:Nat),x=.str z/\y=.int n/\2<=n/\n<=100/\1<=z.length/\z.length<=100/\(⟨(List.replicate n z.cps).foldl (·++·) #[]⟩:Str).length<=sizeLine/\Q (.str ⟨(List.replicate n z.cps).foldl (·++·) #[]⟩) H):=by
 intro pins s σ H x y v u Q I rx ry h
 obtain ⟨z,n,rfl,rfl,h1,h2,h3,h4,h5,q⟩:=h
 obtain ⟨t,rfl⟩:=rx
 obtain ⟨t2,rfl⟩:=ry
 refine PySem.P.mul_str ?_ ?_ ?_ ?_
 ·simp;omega
 ·intro _ _ hgt
  have:(100:Int)<=(2 ^ 63 - 1) / (n:Int):=by
   rw [Int.le_ediv_iff_mul_le (by omega)]
   omega
  omega
 ·intro _ _
  unfold Builtin.Str.tooLong
  have sz:(10000:Nat)<=sizeLine:=by decide
  have hm:z.length*n<=100*100:=Nat.mul_le_mul h4 h2
  simp
  omega
 ·rw [if_neg (by omega),if_neg (by simp;omega)]
  rw [Int.toNat_natCast]
  exact ⟨h5,.str _,H,I.tok _,⟨_,rfl⟩,q⟩
end
end L2
namespace L3
open PySem L2
def gT (C:Th->Prop):Sp:=fun vs H Q _=>∃ p:Addr,vs=[.ref p,.int 400]/\Strm H p/\∀ v t H',TgV p H' v t->C t->Strm H' p->But p H H'->Q v H'
theorem A7:(⟨(List.replicate 4 ("go":Str).cps).foldl (·++·) #[]⟩:Str)="gogogogo":=by decide +kernel
theorem wO {r:Nat} (h:r < 4):∃ z∈ou,iV [V.str "z",.str "setq",.str "deeply",.str "gogogogo"] (r:Int)=some (.str z):=by
 rcases (by omega:r=0\/r=1\/r=2\/r=3) with rfl|rfl|rfl|rfl<;>exact ⟨_,by decide +kernel,rfl⟩
theorem TgA.nth {p:Addr} {H:Hp} {vs:List V} {ts:List Th} (h:TgA p H vs ts) {r:Nat} (hr:r < ts.length):∃ v t,iV vs (r:Int)=some v/\t∈ts/\TgV p H v t:=by
 have hl:=h.length
 have hlt:r < vs.length:=by omega
 have hx:vs[r]?=some vs[r]:=Cm hlt
 obtain ⟨t,et,tv⟩:=h.get hx
 exact ⟨_,t,aM hx,B7 et,tv⟩
theorem TgA.all {p:Addr} {H:Hp} {C:Th->Prop} {vs:List V} {ts:List Th} (h:TgA p H vs ts) (c:∀ t∈ts,C t) {r:Nat} (hr:r < ts.length):∃ v t,iV vs (r:Int)=some v/\C t/\TgV p H v t:=by
 obtain ⟨v,t,e,m,tv⟩:=h.nth hr
 exact ⟨v,t,e,c t m,tv⟩
section
variable {P:Program} {w:World} {K:PySem.W.Frag} {mg:Str->Option Value} {base:Heap}
theorem scLOn:aq ["_law_stream_here","_law_most","_law_way","_law_ends"] ["_law_stream_here","_law_most"] (al vB):=⟨rfl,rfl,rfl,by decide +kernel,rfl,by decide +kernel,by decide +kernel⟩
set_option maxHeartbeats 8000000 in
theorem wP {f:Addr} {fd:FuncData} (F:Fun K "_law_on" "_law_on" vB f fd) (TK:Fn P w K mg base "_law_take" 1 ["_law_stream_here","_law_many"] di):aI P w K mg base bE 2 f fd ["_law_stream_here","_law_most"] (gT OnT):=by
 refine F.ok scLOn (fun vs H Q E h=>?_) (fun cdv A outer s H vs Q E hr h=>?_)
 ·obtain ⟨p,rfl,_⟩:=h
  rfl
 ·obtain ⟨p,rfl,hp,q⟩:=h
  refine ⟨_,ak (a6 (i:=2) scLOn.nd rfl (Or.inl rfl) (ao TK hr rfl (aa (pv 0) (aa ad ac))))
   (ak (aH (ax oQ (pv 2) ad (aB _)) (ah (am (aC (aa (ap ay (bp (aa af (aa af ac))) (pv 2) (fun _ _=>rfl)) (aa (ao TK hr rfl (aa (pv 0) (aa ad ac))) (aa (ao TK hr rfl (aa (pv 0) (aa (pv 1) ac))) (aa (ao TK hr rfl (aa (pv 0) (aa (pv 1) ac))) ac))))))) aw)
   (ak (aH (ax oQ (pv 2) ad (aB _)) (ah (am (aC (aa af (aa (ao TK hr rfl (aa (pv 0) (aa (pv 1) ac))) ac))))) aw)
   (ak (a6 (i:=3) scLOn.nd rfl (Or.inl rfl) (bp (aa (aC (aa af ac)) (aa (aC (aa af (aa (ao TK hr rfl (aa (pv 0) (aa ad ac))) ac))) (aa (aC (aa af (aa (ao TK hr rfl (aa (pv 0) (aa ad ac))) ac))) (aa (aC (aa af ac)) (aa (aC (aa af ac)) ac)))))))
   (ah (am (aC (aa af (aa (ap ay (aT fz (pv 3) (bp (aa (aC (aa af (aa (ap ay (bp (aa af (aa af (aa af (aa (aT nJ af ad) ac))))) (ao TK hr rfl (aa (pv 0) (aa ad ac))) (fun _ _=>rfl)) ac))) ac))) (ao TK hr rfl (aa (pv 0) (aa ad ac))) (fun _ _=>rfl)) ac)))))))),?_⟩
  refine ⟨_,rfl,p,6,rfl,hp,by decide,by decide,fun r1 H1 l1 g1 b1=>?_⟩
  refine ⟨_,rfl,_,_,rfl,rfl,_,rfl,bF (fun h=>?_) (fun h0=>?_)⟩
  ·have hr2:r1 < 2:=by have:=of_decide_eq_true h;omega
   refine ⟨(by show 2<=sizeLine;decide),fun lm nm=>?_⟩
   have s2:=aj (o:=.lst [.str "some",.str "top"]) nm
   have e2:(az H1 lm (.lst [.str "some",.str "top"])) lm=some (.lst [.str "some",.str "top"]):=ae
   have g2:=g1.same s2
   generalize az H1 lm (.lst [V.str "some",.str "top"])=H2 at *
   obtain ⟨z,hz,ez⟩:∃ z:Str,(z="some"\/z="top")/\iV [V.str "some",.str "top"] (r1:Int)=some (.str z):=by
    rcases (by omega:r1=0\/r1=1) with rfl|rfl
    ·exact ⟨_,.inl rfl,rfl⟩
    ·exact ⟨_,.inr rfl,rfl⟩
   refine ⟨_,rfl,lm,_,_,_,rfl,rfl,SqL.of e2,ez,?_⟩
   refine ⟨_,rfl,p,8,rfl,g2,by decide,by decide,fun i H3 li g3 b3=>⟨_,rfl,_,rfl,p,400,rfl,g3,by decide,by decide,fun a H4 la g4 b4=>⟨_,rfl,_,rfl,p,400,rfl,g4,by decide,by decide,fun b H5 lb g5 b5=>⟨(by show 4<=sizeLine;decide),fun tp np=>?_⟩⟩⟩⟩
   have s6:=aj (o:=.tup [.str z,.int i,.int a,.int b]) np
   exact q _ (.tup [.str z,.int i,.int a,.int b]) _ (.tup ae (.cons (.str _) (.cons (.int _) (.cons (.int _) (.cons (.int _) .nil))))) (.two z i a b hz li la lb) (g5.same s6) (((((b1.same s2).trans b3).trans b4).trans b5).same s6)
  refine ⟨_,rfl,_,_,rfl,rfl,_,rfl,bF (fun h=>?_) (fun h1=>?_)⟩
  ·refine ⟨_,rfl,_,rfl,p,400,rfl,g1,by decide,by decide,fun a H4 la g4 b4=>⟨(by show 2<=sizeLine;decide),fun tp np=>?_⟩⟩
   have s6:=aj (o:=.tup [.str "on",.int a]) np
   exact q _ (.tup [.str "on",.int a]) _ (.tup ae (.cons (.str _) (.cons (.int _) .nil))) (.on a la) (g4.same s6) ((b1.trans b4).same s6)
  ·refine ⟨(by show 1<=sizeLine;decide),fun t1 n1=>?_⟩
   have s1:=aj (o:=.tup [.str "next"]) n1
   have e1:(az H1 t1 (.tup [.str "next"])) t1=some (.tup [.str "next"]):=ae
   have f1:=g1.same s1
   generalize az H1 t1 (.tup [V.str "next"])=J1 at *
   refine ⟨_,rfl,p,3,rfl,f1,by decide,by decide,fun i H2 li g2 b2=>⟨(by show 2<=sizeLine;decide),fun t2 n2=>?_⟩⟩
   have s2:=aj (o:=.tup [.str "go",.int i]) n2
   have e2:(az H2 t2 (.tup [.str "go",.int i])) t2=some (.tup [.str "go",.int i]):=ae
   have f2:=g2.same s2
   generalize az H2 t2 (.tup [V.str "go",.int i])=J2 at *
   refine ⟨_,rfl,p,3,rfl,f2,by decide,by decide,fun j H3 lj g3 b3=>⟨(by show 2<=sizeLine;decide),fun t3 n3=>?_⟩⟩
   have s3:=aj (o:=.tup [.str "call",.int j]) n3
   have e3:(az H3 t3 (.tup [.str "call",.int j])) t3=some (.tup [.str "call",.int j]):=ae
   have f3:=g3.same s3
   generalize az H3 t3 (.tup [V.str "call",.int j])=J3 at *
   refine ⟨(by show 1<=sizeLine;decide),fun t4 n4=>⟨(by show 1<=sizeLine;decide),fun t5 n5=>⟨(by show 5<=sizeLine;decide),fun lm nm=>?_⟩⟩⟩
   have s4:=aj (o:=.tup [.str "back"]) n4
   have e4:(az J3 t4 (.tup [.str "back"])) t4=some (.tup [.str "back"]):=ae
   have f4:=f3.same s4
   generalize az J3 t4 (.tup [V.str "back"])=J4 at *
   have s5:=aj (o:=.tup [.str "stop"]) n5
   have e5:(az J4 t5 (.tup [.str "stop"])) t5=some (.tup [.str "stop"]):=ae
   have f5:=f4.same s5
   generalize az J4 t5 (.tup [V.str "stop"])=J5 at *
   have kt12:=f1.kt b2
   have kt23:=f2.kt b3
   have s35:=s4.trans s5
   have e1':=s35 _ _ (s3 _ _ (kt23 _ _ (s2 _ _ (kt12 _ _ e1))))
   have e2':=s35 _ _ (s3 _ _ (kt23 _ _ e2))
   have e3':=s35 _ _ e3
   have e4':=s5 _ _ e4
   have b5:But p H J5:=(((((b1.same s1).trans b2).same s2).trans b3).same s3).same s35
   have s6:=aj (o:=.lst [.ref t1,.ref t2,.ref t3,.ref t4,.ref t5]) nm
   have e6:(az J5 lm (.lst [.ref t1,.ref t2,.ref t3,.ref t4,.ref t5])) lm=some (.lst [.ref t1,.ref t2,.ref t3,.ref t4,.ref t5]):=ae
   have f6:=f5.same s6
   have ne6:=(f5.ne nm).symm
   generalize az J5 lm (.lst [V.ref t1,.ref t2,.ref t3,.ref t4,.ref t5])=J6 at *
   refine ⟨_,rfl,"go",4,rfl,rfl,by decide,by decide,by decide +kernel,by decide +kernel,(by rw [A7];decide +kernel),?_⟩
   rw [A7]
   refine ⟨(by show 4<=sizeLine;decide),fun ln nn=>?_⟩
   have s7:=aj (o:=.lst [.str "z",.str "setq",.str "deeply",.str "gogogogo"]) nn
   have e7:(az J6 ln (.lst [.str "z",.str "setq",.str "deeply",.str "gogogogo"])) ln=some (.lst [.str "z",.str "setq",.str "deeply",.str "gogogogo"]):=ae
   have f7:=f6.same s7
   have ne7:=(f6.ne nn).symm
   generalize az J6 ln (.lst [V.str "z",.str "setq",.str "deeply",.str "gogogogo"])=J7 at *
   refine ⟨_,rfl,p,4,rfl,f7,by decide,by decide,fun r2 H8 l2 g8 b8=>?_⟩
   obtain ⟨z,hz,ez⟩:=wO l2
   refine ⟨ln,_,_,_,rfl,rfl,SqL.of (b8 _ _ e7 ne7),ez,(by show 2<=sizeLine;decide),fun t9 n9=>?_⟩
   have s9:=aj (o:=.tup [.str "fault",.str z]) n9
   have e9:(az H8 t9 (.tup [.str "fault",.str z])) t9=some (.tup [.str "fault",.str z]):=ae
   have f9:=g8.same s9
   generalize az H8 t9 (.tup [V.str "fault",.str z])=J9 at *
   refine ⟨(by show 1<=sizeLine;decide),fun lq nq=>?_⟩
   have s10:=aj (o:=.lst [.ref t9]) nq
   have e10:(az J9 lq (.lst [.ref t9])) lq=some (.lst [.ref t9]):=ae
   have f10:=f9.same s10
   generalize az J9 lq (.lst [V.ref t9])=J10 at *
   have kt8:=f7.kt b8
   have s810:=s9.trans s10
   have e6':=s810 _ _ (b8 _ _ (s7 _ _ e6) ne6)
   refine ⟨lm,lq,_,_,rfl,rfl,e6',e10,(by show 5+1<=sizeLine;decide),fun lr nr=>?_⟩
   have s11:=aj (o:=.lst ([.ref t1,.ref t2,.ref t3,.ref t4,.ref t5]++[.ref t9])) nr
   have e11:(az J10 lr (.lst ([.ref t1,.ref t2,.ref t3,.ref t4,.ref t5]++[.ref t9]))) lr=some (.lst ([.ref t1,.ref t2,.ref t3,.ref t4,.ref t5]++[.ref t9])):=ae
   have f11:=f10.same s11
   have ne11:=(f10.ne nr).symm
   generalize az J10 lr (.lst ([V.ref t1,.ref t2,.ref t3,.ref t4,.ref t5]++[V.ref t9]))=J11 at *
   have up:∀ {b:Addr} {ys:List V},J5 b=some (.tup ys)->J11 b=some (.tup ys):=fun e=>s11 _ _ (s810 _ _ (kt8 _ _ ((s6.trans s7) _ _ e)))
   have hL:TgA p J11 [.ref t1,.ref t2,.ref t3,.ref t4,.ref t5,.ref t9] [.tup [.str "next"],.tup [.str "go",.int i],.tup [.str "call",.int j],.tup [.str "back"],.tup [.str "stop"],.tup [.str "fault",.str z]]:=
    .cons (.tup (up e1') (.cons (.str _) .nil)) (.cons (.tup (up e2') (.cons (.str _) (.cons (.int _) .nil))) (.cons (.tup (up e3') (.cons (.str _) (.cons (.int _) .nil))) (.cons (.tup (up e4') (.cons (.str _) .nil)) (.cons (.tup (up e5) (.cons (.str _) .nil)) (.cons (.tup ((s10.trans s11) _ _ e9) (.cons (.str _) (.cons (.str _) .nil))) .nil)))))
   have hC:∀ t∈[Th.tup [.str "next"],.tup [.str "go",.int i],.tup [.str "call",.int j],.tup [.str "back"],.tup [.str "stop"],.tup [.str "fault",.str z]],EndT t:=by
    intro t ht
    simp only [BH,BW,or_false] at ht
    rcases ht with rfl|rfl|rfl|rfl|rfl|rfl
    ·exact .next
    ·exact .go i li
    ·exact .call j lj
    ·exact .back
    ·exact .stop
    ·exact .fault z hz
   refine ⟨_,rfl,p,6,rfl,f11,by decide,by decide,fun r3 H12 l3 g12 b12=>?_⟩
   obtain ⟨u,t,eu,ct,tu⟩:=hL.all hC (r:=r3) l3
   refine ⟨lr,_,_,u,rfl,rfl,SqL.of (b12 _ _ e11 ne11),eu,(by show 2<=sizeLine;decide),fun tp np=>?_⟩
   have s13:=aj (o:=.tup [.str "done",u]) np
   exact q _ (.tup [.str "done",t]) _ (.tup ae (.cons (.str _) (.cons ((tu.but f11 b12).same s13) .nil))) (.done ct) (g12.same s13) ((((((b5.same (s6.trans s7)).trans b8).same (s810.trans s11)).trans b12)).same s13)
end
end L3
namespace L2
open PySem PySem.Spec PyProof.Rows
section
variable {X:Cx}
theorem rh:eC X (binaryOp .Mult) (fun x y H Q=>∃ (l:List Nat) (b:Bool),x=.str (S l)/\y=.int (if b=true then 1 else 0)/\l.length<=1000/\Q (.str (S (if b=true then l else []))) H):=by
 intro pins s σ H x y v u Q I rx ry h
 obtain ⟨l,b,rfl,rfl,hn,q⟩:=h
 obtain ⟨t,rfl⟩:=rx
 obtain ⟨t2,rfl⟩:=ry
 have hl:(S l).length=l.length:=a8 l
 refine PySem.P.mul_str ?_ ?_ ?_ ?_
 ·cases b<;>simp
 ·intro _ _
  rw [hl]
  cases b
  ·intro hgt;simp at *
  ·intro hgt;first|(simp at *;done)|(simp at *;omega)
 ·intro _ _
  rw [hl]
  unfold Builtin.Str.tooLong
  have sz:(10000:Nat)<=sizeLine:=by decide
  cases b<;>simp<;>omega
 ·cases b with
  | false=>
   rw [if_pos (by simp)]
   refine ⟨?_,⟨.str (S []),H,I.tok _,⟨_,rfl⟩,q⟩⟩
   decide
  | true=>
   rw [if_neg (by simp),if_pos (by simp)]
   exact ⟨.str (S l),H,I.tok _,⟨t,rfl⟩,q⟩
end
end L2
namespace L3
open PySem L2
theorem ug {r:Nat} (h:r < 8):∃ m:Nat,m<=16/\iV [V.int 0,.int 1,.int 2,.int 3,.int 1,.int 2,.int 5,.int 16] (r:Int)=some (.int m):=by
 rcases (by omega:r=0\/r=1\/r=2\/r=3\/r=4\/r=5\/r=6\/r=7) with rfl|rfl|rfl|rfl|rfl|rfl|rfl|rfl
 ·exact ⟨0,by decide,rfl⟩
 ·exact ⟨1,by decide,rfl⟩
 ·exact ⟨2,by decide,rfl⟩
 ·exact ⟨3,by decide,rfl⟩
 ·exact ⟨1,by decide,rfl⟩
 ·exact ⟨2,by decide,rfl⟩
 ·exact ⟨5,by decide,rfl⟩
 ·exact ⟨16,by decide,rfl⟩
def oB (t:Th):Prop:=(∃ k:Nat,k < 8/\t=.int k)\/(∃ o∈opsL,t=.str o)\/SelT t\/SrcT t
theorem StpT.parts {t:Th} (h:StpT t):∃ x ts,t=.tup (.str x::ts)/\x∈z7/\(∀ z∈ts,oB z)/\2<=ts.length/\ts.length<=4:=by
 have nil:∀ z∈([]:List Th),oB z:=fun z hz=>by cases hz
 have con:∀ {x:Th} {l:List Th},oB x->(∀ z∈l,oB z)->∀ z∈x::l,oB z:=fun h1 h2 z hz=>by
  rcases BH.mp hz with rfl|hz
  ·exact h1
  ·exact h2 z hz
 cases h with
 | get k hk hs=>exact ⟨_,_,rfl,by decide +kernel,con (.inl ⟨k,hk,rfl⟩) (con (.inr (.inr (.inl hs))) nil),by simp,by simp⟩
 | ask k hk hs=>exact ⟨_,_,rfl,by decide +kernel,con (.inl ⟨k,hk,rfl⟩) (con (.inr (.inr (.inl hs))) nil),by simp,by simp⟩
 | cell k hk hs=>exact ⟨_,_,rfl,by decide +kernel,con (.inl ⟨k,hk,rfl⟩) (con (.inr (.inr (.inr hs))) nil),by simp,by simp⟩
 | two k hk ho hx hy=>exact ⟨_,_,rfl,by decide +kernel,con (.inl ⟨k,hk,rfl⟩) (con (.inr (.inl ⟨_,ho,rfl⟩)) (con (.inr (.inr (.inr hx))) (con (.inr (.inr (.inr hy))) nil))),by simp,by simp⟩
 | put hs hx=>exact ⟨_,_,rfl,by decide +kernel,con (.inr (.inr (.inl hs))) (con (.inr (.inr (.inr hx))) nil),by simp,by simp⟩
 | tell hs hx=>exact ⟨_,_,rfl,by decide +kernel,con (.inr (.inr (.inl hs))) (con (.inr (.inr (.inr hx))) nil),by simp,by simp⟩
 | store hx hy=>exact ⟨_,_,rfl,by decide +kernel,con (.inr (.inr (.inr hx))) (con (.inr (.inr (.inr hy))) nil),by simp,by simp⟩
def iC (l:Str):List (cY×V):=[(Sum.inr "is",.str l),(Sum.inr "by",.str "f"),(Sum.inr "in",.str "r"),(Sum.inr "field",.str "f"),(Sum.inr "number",.str "")]
theorem wQ (l:Str):dM (bu [] (iC l)) (Sum.inr "is")=some (.str l):=by kernel_rfl
theorem wR (l:Str):dM (bu [] (iC l)) (Sum.inr "by")=some (.str "f"):=by kernel_rfl
theorem wS (l:Str):dM (bu [] (iC l)) (Sum.inr "in")=some (.str "r"):=by kernel_rfl
theorem oC (l:Str):dM (bu [] (iC l)) (Sum.inr "field")=some (.str "f"):=by kernel_rfl
theorem my (l:Str):dM (bu [] (iC l)) (Sum.inr "number")=some (.str ""):=by kernel_rfl
theorem ka {l:Nat} {t:Th} (h:SelT t\/SrcT t):∃ (k:Str) (i:Nat),t=.tup [.str k,.int i]/\i<=16777215/\dM (bu [] (iC (S [l]))) (Sum.inr k)=some (.str (S (pre l k)))/\bf l t=pre l k++dg i/\(pre l k).length<=1:=by
 rcases h with h|h
 ·cases h with
  | is i hi=>exact ⟨_,i,rfl,by omega,by rw [gu];exact wQ _,rfl,by rw [gu];simp⟩
  | «by» i hi=>exact ⟨_,i,rfl,by omega,by rw [gv,sF];exact wR _,rfl,by rw [gv];simp⟩
 ·cases h with
  | fld i hi=>exact ⟨_,i,rfl,by omega,by rw [dP,sF];exact oC _,rfl,by rw [dP];simp⟩
  | num i hi=>exact ⟨_,i,rfl,by omega,by rw [dQ,<-uM];exact my _,rfl,by rw [dQ];simp⟩
  | inn i hi=>exact ⟨_,i,rfl,by omega,by rw [fJ,sR];exact wS _,rfl,by rw [fJ];simp⟩
def ls:List (cY×V):=[(Sum.inr "get",.str "p"),(Sum.inr "ask",.str "m"),(Sum.inr "put",.str "p"),(Sum.inr "tell",.str "m")]
theorem uh:∀ x∈z7,(dM (bu [] ls) (Sum.inr x)).getD (.str "r")=.str (S [bL x])/\(cp x).length<=5:=by
 have h:∀ (x:Str) (l:Nat) (z:Str),bL x=l->S [l]=z->(dM (bu [] ls) (Sum.inr x)).getD (.str "r")=.str z->(cp x).length<=5->(dM (bu [] ls) (Sum.inr x)).getD (.str "r")=.str (S [bL x])/\(cp x).length<=5:=fun x l z h1 h2 h3 h4=>⟨by rw [h1,h2];exact h3,h4⟩
 intro x hx
 simp only [z7,BH,BW,or_false] at hx
 rcases hx with rfl|rfl|rfl|rfl|rfl|rfl|rfl|rfl
 ·exact h _ 112 "p" jO sP (by kernel_rfl) (by decide +kernel)
 ·exact h _ 109 "m" jQ sM (by kernel_rfl) (by decide +kernel)
 ·exact h _ 114 "r" (by decide +kernel) sR (by kernel_rfl) (by decide +kernel)
 ·exact h _ 114 "r" (by decide +kernel) sR (by kernel_rfl) (by decide +kernel)
 ·exact h _ 112 "p" jP sP (by kernel_rfl) (by decide +kernel)
 ·exact h _ 109 "m" ie sM (by kernel_rfl) (by decide +kernel)
 ·exact h _ 114 "r" (by decide +kernel) sR (by kernel_rfl) (by decide +kernel)
 ·exact h _ 114 "r" (by decide +kernel) sR (by kernel_rfl) (by decide +kernel)
theorem nK {l:Nat} {t:Th} (h:oB t):(bf l t).length<=10:=by
 rcases h with ⟨k,hk,rfl⟩|⟨o,ho,rfl⟩|h|h
 ·have:=aN (n:=k) (by omega)
  show (114::dg k).length<=10
  simp only [Bx];omega
 ·exact BN (jU o ho) (by decide)
 ·exact ba (.inl h)
 ·exact ba (.inr h)
def yX:Sp:=fun vs H Q _=>∃ (p:Addr) (v:V) (t:Th) (l:Nat),vs=[v,.str (S [l])]/\TgV p H v t/\(SelT t\/SrcT t)/\∀ H',Same H H'->Q (.str (S (bf l t))) H'
def yY:Sp:=fun vs H Q _=>∃ (p:Addr) (v:V) (t:Th),vs=[v]/\TgV p H v t/\StpT t/\∀ H',Same H H'->Q (.str (S (cW t))) H'
def yZ:Sp:=fun vs H Q _=>∃ (p:Addr) (v:V) (t:Th),vs=[v]/\TgV p H v t/\OnT t/\∀ H',Same H H'->Q (.str (S (TK.jn [32] (eM t)))) H'
def y0:Sp:=fun vs H Q _=>∃ (p:Addr) (v:V) (t:Th),vs=[v]/\TgV p H v t/\LitT t/\∀ H',Same H H'->Q (.str (S (fH t))) H'
section
variable {P:Program} {w:World} {K:PySem.W.Frag} {mg:Str->Option Value} {base:Heap}
theorem scLLittle:aq ["_law_stream_here","_law_most","_law_many"] ["_law_stream_here","_law_most"] (al fW):=⟨rfl,rfl,rfl,by decide +kernel,rfl,by decide +kernel,by decide +kernel⟩
theorem AT:(["_law_k","_law_stream_here"]:List Str).Nodup:=by decide +kernel
set_option maxHeartbeats 2000000 in
theorem mz {f:Addr} {fd:FuncData} (F:Fun K "_law_little" "_law_little" fW f fd) (B:Bl mg) (TK:Fn P w K mg base "_law_take" 1 ["_law_stream_here","_law_many"] di) (LS:Fn P w K mg base "_law_step" 3 ["_law_stream_here"] (gr StpT)) (LO:Fn P w K mg base "_law_on" 2 ["_law_stream_here","_law_most"] (gT OnT)):aI P w K mg base bE 4 f fd ["_law_stream_here","_law_most"] (gT LitT):=by
 refine F.ok scLLittle (fun vs H Q E h=>?_) (fun cdv A outer s H vs Q E hr h=>?_)
 ·obtain ⟨p,rfl,_⟩:=h
  rfl
 ·obtain ⟨p,rfl,hp,q⟩:=h
  have hr1:Room 1 _:=hr.mono (by decide)
  have hr2:Room 2 _:=hr.mono (by decide)
  have sz:(100000:Nat)<=sizeLine:=by decide
  refine ⟨_,ak (a6 (i:=2) scLLittle.nd rfl (Or.inl rfl) (ap ay (bp (aa ad (aa ad (aa ad (aa ad (aa ad (aa ad (aa ad (aa ad ac))))))))) (ao TK hr1 rfl (aa (pv 0) (aa ad ac))) (fun _ _=>rfl)))
   (ah (am (aC (aa (aY cb (by rfl) B.tuple bh (aa (fc (N':=["_law_k","_law_stream_here"]) (ix:=[none,some 0]) (sc0:=al fW) (N:=["_law_stream_here","_law_most","_law_many"]) rfl (by decide +kernel) (gk rfl B.range (aa (pv 2) ac))
     (fun C' cl s H fp=>bt (i:=0) AT rfl (Or.inl rfl) (.inr rfl)) (fun _ _ _ _ _=>df) (fun C' cl s H fp=>ao LS hr rfl (aa (pv 1) ac))) ac)) (aa (ao LO hr2 rfl (aa (pv 0) (aa (pv 1) ac))) ac))))),?_⟩
  refine ⟨(by show 8<=sizeLine;decide),fun lm nm=>?_⟩
  have s1:=aj (o:=.lst [.int 0,.int 1,.int 2,.int 3,.int 1,.int 2,.int 5,.int 16]) nm
  have e1:(az H lm (.lst [.int 0,.int 1,.int 2,.int 3,.int 1,.int 2,.int 5,.int 16])) lm=some (.lst [.int 0,.int 1,.int 2,.int 3,.int 1,.int 2,.int 5,.int 16]):=ae
  have ne1:=(hp.ne nm).symm
  have g1:=hp.same s1
  have b1:But p H (az H lm (.lst [.int 0,.int 1,.int 2,.int 3,.int 1,.int 2,.int 5,.int 16])):=jK s1
  generalize az H lm (.lst [V.int 0,.int 1,.int 2,.int 3,.int 1,.int 2,.int 5,.int 16])=H1 at *
  refine ⟨_,rfl,p,8,rfl,g1,by decide,by decide,fun r H2 lr g2 b2=>?_⟩
  obtain ⟨m,hm,em⟩:=ug lr
  refine ⟨lm,_,_,_,rfl,rfl,SqL.of (b2 _ _ e1 ne1),em,?_⟩
  refine ⟨_,rfl,m,rfl,by omega,by omega,?_⟩
  refine ph (lo:=0) (n:=m) (fun i ys H'=>Strm H' p/\But p H H'/\∃ ts:List Th,ts.length=i/\TgA p H' ys ts/\∀ t∈ts,StpT t) ⟨g2,b1.trans b2,[],rfl,.nil,fun t ht=>nomatch ht⟩ (fun i ys H' hi ⟨_,_,ts,hl,ta,_⟩=>by rw [ta.length,hl];omega) ?_ ?_
  ·rintro i ys H' hi ⟨g,b,ts,hl,ta,ct⟩
   refine ⟨⟨rfl,trivial⟩,dh ⟨_,rfl,p,rfl,g,fun v t H3 tv c g3 b3=>Nx.mk hi ⟨g3,b.trans b3,ts++[t],by rw [By,hl];rfl,(ta.but g b3).snoc tv,fun x hx=>?_⟩⟩⟩
   rcases Cf.mp hx with h|h
   ·exact ct x h
   ·rw [Ch.mp h];exact c
  ·rintro ys H3 ⟨g3,b3,ts,hl,ta,ct⟩ D nD
   have s4:=aj (o:=.lst ys) nD
   have e4:(az H3 D (.lst ys)) D=some (.lst ys):=ae
   have g4:=g3.same s4
   generalize az H3 D (.lst ys)=H4 at *
   refine ⟨D,ys,rfl,.inl ⟨SqL.of e4,fun tp np=>?_⟩⟩
   have s5:=aj (o:=.tup ys) np
   have e5:(az H4 tp (.tup ys)) tp=some (.tup ys):=ae
   have g5:=g4.same s5
   generalize az H4 tp (.tup ys)=H5 at *
   refine ⟨_,rfl,_,rfl,p,rfl,g5,fun v t H6 tv c g6 b6=>⟨(by show 2<=sizeLine;decide),fun r6 n6=>?_⟩⟩
   have s7:=aj (o:=.tup [.ref tp,v]) n6
   refine q _ (.tup [.tup ts,t]) _ (.tup ae (.cons (.tup (s7 _ _ (g5.kt b6 _ _ e5)) ((((ta.same s4).same s5).but g5 b6).same s7)) (.cons (tv.same s7) .nil))) ⟨ts,t,rfl,ct,c,by omega⟩ (g6.same s7) ((((b3.same s4).same s5).trans b6).same s7)
theorem scPartT:aq ["_law_part","_law_letter","_law_letters"] ["_law_part","_law_letter"] (al jH):=⟨rfl,rfl,rfl,by decide +kernel,rfl,by decide +kernel,by decide +kernel⟩
set_option maxHeartbeats 1000000 in
theorem rj {f:Addr} {fd:FuncData} (F:Fun K "_law_part_text" "_law_part_text" jH f fd) (B:Bl mg):aI P w K mg base bE 1 f fd ["_law_part","_law_letter"] yX:=by
 refine F.ok scPartT (fun vs H Q E h=>?_) (fun cdv A outer s H vs Q E hr h=>?_)
 ·obtain ⟨p,v,t,l,rfl,_⟩:=h
  rfl
 ·obtain ⟨p,v,t,l,rfl,tv,ht,q⟩:=h
  have hu:=uG hr
  refine ⟨_,ak (a6 (i:=2) scPartT.nd rfl (Or.inl rfl) (mQ (cr af (pv 1) (cr af af (cr af af (cr af af (cr af af mP))))) rfl rfl (by intro z;cases z) (by show 5<=15;decide)))
   (ah (am (aT aK (rZ hu (pv 2) (ap au (pv 0) ad (fun _ _=>rfl)) (fun _ _=>rfl)) (aY bC (by rfl) B.str bK (aa (ap au (pv 0) ad (fun _ _=>rfl)) ac))))),?_⟩
  obtain ⟨k,i,rfl,hi,hv,ew,hp1⟩:=ka (l:=l) ht
  obtain ⟨a,rfl,e⟩:=cH tv
  refine fun d nd=>⟨_,rfl,ae,iC (S [l]),rfl,(by show 5<=15;decide),?_⟩
  have s1:Same H (az (az H d (.dK [])) d (.dK (bu [] (iC (S [l]))))):=aA nd (aj nd)
  have e1:(az (az H d (.dK [])) d (.dK (bu [] (iC (S [l]))))) d=some (.dK (bu [] (iC (S [l])))):=ae
  generalize az (az H d (.dK [])) d (.dK (bu [] (iC (S [l]))))=H1 at *
  have g:DGet H1 d (.str k) (some (.str (S (pre l k)))):=by
   have:=DGet.k (k:=Sum.inr k) e1
   rw [hv] at this
   exact this
  have q':=q _ s1
  rw [ew,<-aP,<-bw] at q'
  have l9:=aN hi
  refine ⟨_,rfl,_,rfl,a,_,_,_,rfl,rfl,SqT.of (s1 _ _ e),rfl,d,_,rfl,g,?_⟩
  exact ⟨_,rfl,a,_,_,_,rfl,rfl,SqT.of (s1 _ _ e),rfl,_,rfl,a5 hi,_,_,rfl,rfl,(by rw [bw,a8,a8];exact BN (show _<=100 by omega) (by decide)),q'⟩
theorem scLStepT:aq ["_law_step_here","_law_letter","_law_words","_law_part"] ["_law_step_here"] (al jI):=⟨rfl,rfl,rfl,by decide +kernel,rfl,by decide +kernel,by decide +kernel⟩
set_option maxHeartbeats 4000000 in
theorem oE {f:Addr} {fd:FuncData} (F:Fun K "_law_step_text" "_law_step_text" jI f fd) (B:Bl mg) (PT:Fn P w K mg base "_law_part_text" 1 ["_law_part","_law_letter"] yX):aI P w K mg base bE 2 f fd ["_law_step_here"] yY:=by
 refine F.ok scLStepT (fun vs H Q E h=>?_) (fun cdv A outer s H vs Q E hr h=>?_)
 ·obtain ⟨p,v,t,rfl,_⟩:=h
  rfl
 ·obtain ⟨p,v,t,rfl,tv,st,q⟩:=h
  have hu:=uG hr
  have hr1:Room 1 _:=hr
  refine ⟨_,ak (a6 (i:=1) scLStepT.nd rfl (Or.inl rfl) (py hu (mQ (cr af af (cr af af (cr af af (cr af af mP)))) rfl rfl (by intro z;cases z) (by show 4<=15;decide)) (ap au (pv 0) ad (fun _ _=>rfl)) af ⟨rfl,rfl,rfl,rfl⟩))
   (ak (a6 (i:=2) scLStepT.nd rfl (Or.inl rfl) (bp (aa (ap au (pv 0) ad (fun _ _=>rfl)) ac)))
   (ak (lF PassesOwn.never rfl (fh (bD vg (pv 0) (bR ad) bQ)) (bt (i:=3) scLStepT.nd rfl (Or.inl rfl))
    (ah (aH (aV (aJ (cS (T:="tuple")) (by rfl) B.isinstance bG (aa (pv 3) (aa (dY (by rfl) B.tuple bh) ac))))
     (ah (eT (bV CB Cy Cv eV (pv 2) (aa (ao PT hr1 rfl (aa (pv 3) (aa (pv 1) ac))) ac))))
     (ah (aH (aV (aJ (cS (T:="str")) (by rfl) B.isinstance bG (aa (pv 3) (aa (dY (by rfl) B.str bK) ac))))
      (ah (eT (bV CB Cy Cv eV (pv 2) (aa (pv 3) ac))))
      (ah (eT (bV CB Cy Cv eV (pv 2) (aa (aT aK af (aY bC (by rfl) B.str bK (aa (pv 3) ac))) ac)))))))))
   (ah (am (bV BK Ca B9 dL af (aa (pv 2) ac)))))),?_⟩
  obtain ⟨x,ts,rfl,hx,hit,x2,x4⟩:=st.parts
  obtain ⟨vl,xl⟩:=uh x hx
  have es:cW (.tup (.str x::ts))=TK.jn [32] (cp x::ts.map (bf (bL x))):=rfl
  rw [es] at q
  cases tv with
  | @tup pp xs0 _ hp ta0=>
  obtain ⟨xs,rfl,ta⟩:∃ xs,xs0=.str x::xs/\TgA p H xs ts:=by
   cases ta0 with
   | cons h0 t=>cases h0;exact ⟨_,rfl,t⟩
  have lx:=ta.length
  refine fun dd nd=>⟨ae,ls,rfl,(by show 4<=15;decide),dd,rfl,.inl ⟨_,.inl ae⟩,?_⟩
  have s1:Same H (az (az H dd (.dK [])) dd (.dK (bu [] ls))):=aA nd (aj nd)
  have e1:(az (az H dd (.dK [])) dd (.dK (bu [] ls))) dd=some (.dK (bu [] ls)):=ae
  generalize az (az H dd (.dK [])) dd (.dK (bu [] ls))=H1 at *
  have hp1:=s1 _ _ hp
  refine ⟨_,rfl,pp,_,_,_,rfl,rfl,SqT.of hp1,at0 _ _,_,DGet.k (k:=Sum.inr x) e1,?_⟩
  rw [vl]
  refine ⟨_,rfl,pp,_,_,_,rfl,rfl,SqT.of hp1,at0 _ _,(by show 1<=sizeLine;decide),fun lw nw=>?_⟩
  have s2:=aj (o:=.lst [.str x]) nw
  have e2:(az H1 lw (.lst [.str x])) lw=some (.lst ([cp x].map fun t=>V.str (S t))):=by rw [ae,BR,bn];rfl
  have s12:=s1.trans s2
  have n0:H lw=none:=s1.free nw
  generalize az H1 lw (.lst [V.str x])=H2 at *
  have ec:gm (V.str x::xs) (some 1) none=xs:=by
   match xs,(show 2<=xs.length by omega),(show xs.length<=4 by omega) with
   | [_,_],_,_=>rfl
   | [_,_,_],_,_=>rfl
   | [_,_,_,_],_,_=>rfl
  refine ⟨_,rfl,_,rfl,pp,_,rfl,SqT.of (s12 _ _ hp),?_,fun tt nt=>?_⟩
  ·intro z
   have:=z.1
   first|(simp [HT.sIx] at this;done)|(simp [HT.sIx] at this;omega)
  rw [ec]
  have s3:=aj (o:=.tup xs) nt
  have e3:(az H2 tt (.tup xs)) tt=some (.tup xs):=ae
  have e2':=s3 _ _ e2
  have s13:=s12.trans s3
  have nlt:lw≠tt:=aS e2 nt
  generalize az H2 tt (.tup xs)=H3 at *
  refine ⟨tt,rfl,⟨_,SqT.of e3⟩,?_⟩
  refine rG (K:=K) (a:=tt) (xs:=xs) (fun i σ H'=>∃ v3:Option V,σ=[some (.ref pp),some (.str (S [bL x])),some (.ref lw),v3]/\Same H H'/\H' tt=some (.tup xs)/\H' lw=some (.lst ((cp x::(ts.take i).map (bf (bL x))).map fun t=>V.str (S t)))) ⟨_,rfl,s13,e3,e2'⟩ (fun i σ H' _ ⟨_,_,_,e,_⟩=>SqT.of e) ?_ ?_
  ·rintro i z σ H' hz ⟨v3,rfl,sH,et,el⟩
   obtain ⟨tz,etz,tvz⟩:=ta.get hz
   have hlt:i < xs.length:=(BM.mp hz).1
   have hi:=hit tz (B7 etz)
   have hzl:=nK (l:=bL x) hi
   have tk:(cp x::(ts.take (i+1)).map (bf (bL x))).map (fun t=>V.str (S t))=(cp x::(ts.take i).map (bf (bL x))).map (fun t=>V.str (S t))++[.str (S (bf (bL x) tz))]:=by
    rw [Cs,etz];simp
   have lsz:((cp x::(ts.take i).map (bf (bL x))).map fun t=>V.str (S t)).length < sizeLine:=by
    rw [BE,Bx,BE,BZ]
    have:(1000:Nat)<=sizeLine:=by decide
    omega
   have fin:∀ H4,Same H' H4->H4 lw=some (.lst ((cp x::(ts.take i).map (bf (bL x))).map fun t=>V.str (S t)))->H4 tt=some (.tup xs)->∃ v3:Option V,[some (V.ref pp),some (.str (S [bL x])),some (.ref lw),some z]=[some (.ref pp),some (.str (S [bL x])),some (.ref lw),v3]/\Same H (az H4 lw (.lst ((cp x::(ts.take i).map (bf (bL x))).map (fun t=>V.str (S t))++[.str (S (bf (bL x) tz))])))/\(az H4 lw (.lst ((cp x::(ts.take i).map (bf (bL x))).map (fun t=>V.str (S t))++[.str (S (bf (bL x) tz))]))) tt=some (.tup xs)/\(az H4 lw (.lst ((cp x::(ts.take i).map (bf (bL x))).map (fun t=>V.str (S t))++[.str (S (bf (bL x) tz))]))) lw=some (.lst ((cp x::(ts.take (i+1)).map (bf (bL x))).map fun t=>V.str (S t))):=by
    intro H4 s4 l4 t4
    exact ⟨_,rfl,aA n0 (sH.trans s4),by rw [aG nlt.symm];exact t4,by rw [ae,tk]⟩
   rcases hi with ⟨k,hk,rfl⟩|⟨o,ho,rfl⟩|h|h
   ·cases tvz
    have tx:=c9 (z:="r") (c:=114) (by decide +kernel) k
    have l9:=aN (n:=k) (by omega)
    have rl1:("r":Str).length=1:=by decide +kernel
    refine ⟨_,rfl,_,_,_,rfl,.int _,rfl,_,rfl,bo ?_⟩
    refine ⟨_,rfl,_,_,_,rfl,.int _,rfl,_,rfl,bo ?_⟩
    refine ⟨_,rfl,.inl ⟨rfl,_,SqL.of el⟩,_,rfl,_,rfl,a5 (by omega),_,_,rfl,rfl,(by rw [bw,a8,rl1];exact BN (show _<=100 by omega) (by decide)),?_⟩
    rw [tx]
    exact ⟨lw,_,_,rfl,rfl,el,lsz,fin H' (Same.refl _) el et⟩
   ·cases tvz
    have fin':=fin H' (Same.refl _) el et
    rw [show bf (bL x) (.str o)=cp o from rfl,bn] at fin'
    refine ⟨_,rfl,_,_,_,rfl,.str _,rfl,_,rfl,bo ?_⟩
    refine ⟨_,rfl,_,_,_,rfl,.str _,rfl,_,rfl,bY ?_⟩
    refine ⟨_,rfl,.inl ⟨rfl,_,SqL.of el⟩,_,rfl,?_⟩
    exact ⟨lw,_,_,rfl,rfl,el,lsz,fin'⟩
   ·obtain ⟨k,n,rfl,_⟩:=ka (l:=bL x) (.inl h)
    obtain ⟨b,rfl,eb⟩:=cH tvz
    refine ⟨_,rfl,_,_,_,rfl,.tup (sH _ _ eb),rfl,_,rfl,bY ?_⟩
    refine ⟨_,rfl,.inl ⟨rfl,_,SqL.of el⟩,_,rfl,_,rfl,p,_,_,bL x,rfl,tvz.same sH,.inl h,fun H4 s4=>?_⟩
    exact ⟨lw,_,_,rfl,rfl,s4 _ _ el,lsz,fin H4 s4 (s4 _ _ el) (s4 _ _ et)⟩
   ·obtain ⟨k,n,rfl,_⟩:=ka (l:=bL x) (.inr h)
    obtain ⟨b,rfl,eb⟩:=cH tvz
    refine ⟨_,rfl,_,_,_,rfl,.tup (sH _ _ eb),rfl,_,rfl,bY ?_⟩
    refine ⟨_,rfl,.inl ⟨rfl,_,SqL.of el⟩,_,rfl,_,rfl,p,_,_,bL x,rfl,tvz.same sH,.inr h,fun H4 s4=>?_⟩
    exact ⟨lw,_,_,rfl,rfl,s4 _ _ el,lsz,fin H4 s4 (s4 _ _ el) (s4 _ _ et)⟩
  ·rintro σ H' ⟨v3,rfl,sH,et,el⟩
   rw [lx,B1] at el
   refine ⟨rfl,_,rfl,[32],lw,cp x::ts.map (bf (bL x)),congrArg V.str ge,rfl,SqL.of el,?_,q _ sH⟩
   have a:=jL 10 (cp x::ts.map (bf (bL x))) fun z hz=>by
    rcases BH.mp hz with rfl|hz
    ·omega
    ·obtain ⟨t,ht,rfl⟩:=Cn.mp hz
     exact nK (hit t ht)
   rw [Bx,BE] at a
   rw [Bx,BE]
   show _+(ts.length+1)*1<=100000
   omega
end
end L3
namespace L3
open PySem L2
section
variable {P:Program} {w:World} {K:PySem.W.Frag} {mg:Str->Option Value} {base:Heap}
theorem scLOnT:aq ["_law_on_here","_law_end"] ["_law_on_here"] (al pU):=⟨rfl,rfl,rfl,by decide +kernel,rfl,by decide +kernel,by decide +kernel⟩
theorem rm {sep z:List Nat}:∀ {l:List (List Nat)},z∈l->z.length<=(TK.jn sep l).length
 | [t],h=>by rw [Ch.mp h];exact BG _
 | t::u::r,h=>by
  show z.length<=(t++(sep++TK.jn sep (u::r))).length
  rw [By,By]
  rcases BH.mp h with rfl|h
  ·omega
  ·have:=rm (sep:=sep) h
   omega
theorem lu {a b:List Nat} (h:a.length+b.length<=10000):(S a).length+(S b).length<=sizeLine:=by rw [a8,a8];exact BN h (by decide)
set_option maxHeartbeats 4000000 in
theorem ui {f:Addr} {fd:FuncData} (F:Fun K "_law_on_text" "_law_on_text" pU f fd) (B:Bl mg):aI P w K mg base bE 1 f fd ["_law_on_here"] yZ:=by
 refine F.ok scLOnT (fun vs H Q E h=>?_) (fun cdv A outer s H vs Q E hr h=>?_)
 ·obtain ⟨p,v,t,rfl,_⟩:=h
  rfl
 ·obtain ⟨p,v,t,rfl,tv,st,q⟩:=h
  obtain ⟨a,r,rfl,ea⟩:∃ a r,v=.ref a/\H a=some (.tup r):=by
   cases st<;>(cases tv with|tup e _=>exact ⟨_,_,rfl,e⟩)
  refine ⟨_,ak (aH (ax bb (ap au (pv 0) ad (fun _ _=>rfl)) af (aB _))
    (ak (a6 (i:=1) scLOnT.nd rfl (Or.inl rfl) (aY dH (by rfl) B.list dN (aa (ap au (pv 0) ad (fun _ _=>rfl)) ac)))
    (fV (fun σ H'=>∃ l u,t=.tup [.str "done",u]/\EndT u/\σ=[some (.ref a),some (.ref l)]/\Same H H'/\H' l=some (.lst ((ic u).map fun t=>V.str (S t)))) (aH (PW.pt (cM (ax bb (ap ay (pv 1) ad (fun _ _=>rfl)) af (aB _)) (cm (ax bb (ap ay (pv 1) ad (fun _ _=>rfl)) af (aB _)))))
      (ah (gW (aT aK af (aY bC (by rfl) B.str bK (aa (ap ay (pv 1) ad (fun _ _=>rfl)) ac))) (lC (pv 1) ad gY))) aw)
    (ah (am (bV BK Ca B9 dL af (aa (aT fz (bp (aa af ac)) (pv 1)) ac)))))) aw)
   (ak (aH (ax bb (ap au (pv 0) ad (fun _ _=>rfl)) af (aB _)) (ah (am (aT aK af (aY bC (by rfl) B.str bK (aa (ap au (pv 0) ad (fun _ _=>rfl)) ac))))) aw)
   (ah (am (aT aK (aT aK (aT aK (aT aK (aT aK (aT aK (ap au (pv 0) ad (fun _ _=>rfl)) af) (aY bC (by rfl) B.str bK (aa (ap au (pv 0) ad (fun _ _=>rfl)) ac))) af) (aY bC (by rfl) B.str bK (aa (ap au (pv 0) ad (fun _ _=>rfl)) ac))) af) (aY bC (by rfl) B.str bK (aa (ap au (pv 0) ad (fun _ _=>rfl)) ac)))))),?_⟩
  cases st with
  | on i hi=>
   obtain ⟨a',ea',e⟩:=cH tv
   cases ea'
   have l9:=aN (n:=i) (by omega)
   refine ⟨_,rfl,a,_,_,_,rfl,rfl,SqT.of e,rfl,rfl,_,rfl,aR (by decide +kernel) ?_⟩
   refine ⟨_,rfl,a,_,_,_,rfl,rfl,SqT.of e,rfl,rfl,_,rfl,bg (by decide +kernel) ?_⟩
   refine ⟨_,rfl,a,_,_,_,rfl,rfl,SqT.of e,rfl,_,rfl,a5 (by omega),_,_,rfl,rfl,?_⟩
   rw [bw,show ("on ":Str)=S (cp "on"++[32]) from by decide +kernel,aP]
   have:=q _ (Same.refl _)
   rw [show TK.jn [32] (eM (.tup [.str "on",.int (i:Nat)]))=cp "on"++[32]++dg i from by show cp "on"++([32]++dg i)=_;simp] at this
   refine ⟨lu ?_,this⟩
   simp only [By,Bx,Bz,show (cp "on").length=2 from by decide +kernel];omega
  | two z i x y hz hi hx hy=>
   obtain ⟨a',ea',e⟩:=tH tv
   cases ea'
   have l1:=aN (n:=i) (by omega)
   have l2:=aN (n:=x) (by omega)
   have l3:=aN (n:=y) (by omega)
   have lz:(cp z).length<=4:=by rcases hz with rfl|rfl<;>decide +kernel
   refine ⟨_,rfl,a,_,_,_,rfl,rfl,SqT.of e,rfl,rfl,_,rfl,aR (by rcases hz with rfl|rfl<;>decide +kernel) ?_⟩
   refine ⟨_,rfl,a,_,_,_,rfl,rfl,SqT.of e,rfl,rfl,_,rfl,aR (by rcases hz with rfl|rfl<;>decide +kernel) ?_⟩
   refine ⟨_,rfl,a,_,_,_,rfl,rfl,SqT.of e,rfl,_,_,rfl,rfl,?_⟩
   rw [show (" r":Str)=S [32,114] from by decide +kernel,<-bn z,aP]
   refine ⟨lu (by simp only [By,Bx,Bz];omega),?_⟩
   refine ⟨_,rfl,a,_,_,_,rfl,rfl,SqT.of e,rfl,_,rfl,a5 (by omega),_,_,rfl,rfl,?_⟩
   rw [bw,aP]
   refine ⟨lu (by simp only [By,Bx,Bz];omega),_,_,rfl,rfl,?_⟩
   rw [ge,aP]
   refine ⟨lu (by simp only [By,Bx,Bz];omega),?_⟩
   refine ⟨_,rfl,a,_,_,_,rfl,rfl,SqT.of e,rfl,_,rfl,a5 (by omega),_,_,rfl,rfl,?_⟩
   rw [bw,aP]
   refine ⟨lu (by simp only [By,Bx,Bz];omega),_,_,rfl,rfl,?_⟩
   rw [aP]
   refine ⟨lu (by simp only [By,Bx,Bz];omega),?_⟩
   refine ⟨_,rfl,a,_,_,_,rfl,rfl,SqT.of e,rfl,_,rfl,a5 (by omega),_,_,rfl,rfl,?_⟩
   rw [bw,aP]
   refine ⟨lu (by simp only [By,Bx,Bz];omega),?_⟩
   have:=q _ (Same.refl _)
   rw [show TK.jn [32] (eM (.tup [.str z,.int (i:Nat),.int (x:Nat),.int (y:Nat)]))=cp z++[32,114]++dg i++[32]++dg x++[32]++dg y from by show cp z++([32]++((114::dg i)++([32]++(dg x++([32]++dg y)))))=_;simp] at this
   exact this
  | @done u he=>
   obtain ⟨a',x,ea',e,hx⟩:=nz tv
   cases ea'
   have el:=mr he
   refine ⟨_,rfl,a,_,_,_,rfl,rfl,SqT.of e,rfl,rfl,_,rfl,bg (by decide +kernel) ?_⟩
   have cs:∃ (b:Addr) (w0:Str) (rest:List V),x=.ref b/\H b=some (.tup (.str w0::rest))/\((∃ i:Nat,i < 3/\(w0="go"\/w0="call")/\rest=[.int i]/\ic u=[cp w0,102::dg i])\/(¬ w0="go"/\¬ w0="call"/\(.str w0::rest)=(ic u).map fun t=>V.str (S t))):=by
    cases he with
    | next=>obtain ⟨b,rfl,eb⟩:=gN hx;exact ⟨b,_,_,rfl,eb,.inr ⟨by decide +kernel,by decide +kernel,by show _=[V.str (S (cp "next"))];rw [bn]⟩⟩
    | back=>obtain ⟨b,rfl,eb⟩:=gN hx;exact ⟨b,_,_,rfl,eb,.inr ⟨by decide +kernel,by decide +kernel,by show _=[V.str (S (cp "back"))];rw [bn]⟩⟩
    | stop=>obtain ⟨b,rfl,eb⟩:=gN hx;exact ⟨b,_,_,rfl,eb,.inr ⟨by decide +kernel,by decide +kernel,by show _=[V.str (S (cp "stop"))];rw [bn]⟩⟩
    | go i hi=>obtain ⟨b,rfl,eb⟩:=cH hx;exact ⟨b,_,_,rfl,eb,.inl ⟨i,hi,.inl rfl,rfl,rfl⟩⟩
    | call i hi=>obtain ⟨b,rfl,eb⟩:=cH hx;exact ⟨b,_,_,rfl,eb,.inl ⟨i,hi,.inr rfl,rfl,rfl⟩⟩
    | fault z hz=>obtain ⟨b,rfl,eb⟩:=ny hx;exact ⟨b,_,_,rfl,eb,.inr ⟨by decide +kernel,by decide +kernel,by show _=[V.str (S (cp "fault")),V.str (S (cp z))];rw [bn,bn]⟩⟩
   obtain ⟨b,w0,rest,rfl,eb,hcase⟩:=cs
   refine ⟨_,rfl,a,_,_,_,rfl,rfl,SqT.of e,rfl,b,_,rfl,.inr (SqT.of eb),fun l nl=>?_⟩
   have s1:=aj (o:=.lst (.str w0::rest)) nl
   have e1:(az H l (.lst (.str w0::rest))) l=some (.lst (.str w0::rest)):=ae
   have eu:∀ o,az (az H l (.lst (.str w0::rest))) l o=az H l o:=fun o=>by
    funext c
    by_cases hc:c=l
    ·subst hc;rw [ae,ae]
    ·rw [aG hc,aG hc,aG hc]
   refine ⟨?_,?_⟩
   ·rintro σ' H2 ⟨l2,u2,eu2,he2,rfl,s2,e2⟩
    cases eu2
    refine ⟨rfl,(by show 1<=sizeLine;decide),fun l3 n3=>?_⟩
    have s3:=aj (o:=.lst [.str "done"]) n3
    have e3:(az H2 l3 (.lst [.str "done"])) l3=some (.lst [.str "done"]):=ae
    generalize az H2 l3 (.lst [V.str "done"])=H3 at *
    have ln:(ic u).length<=3:=by cases he<;>simp [ic]
    refine ⟨_,rfl,l3,l2,_,_,rfl,rfl,e3,s3 _ _ e2,by rw [BE];exact BN (show _<=10 by show 1+_<=10;omega) (by decide),fun l4 n4=>?_⟩
    have s4:=aj (o:=.lst ([.str "done"]++(ic u).map fun t=>V.str (S t))) n4
    refine ⟨[32],l4,cp "done"::ic u,congrArg V.str ge,rfl,SqL.of ?_,?_,?_⟩
    ·rw [ae,BR,bn];rfl
    ·have a:=jL 30 (cp "done"::ic u) fun z hz=>by
      rcases BH.mp hz with rfl|hz
      ·decide +kernel
      ·exact BN (rm hz) el
     rw [Bx] at a
     rw [Bx]
     show _+((ic u).length+1)*1<=100000
     omega
    ·have:=q _ ((s2.trans s3).trans s4)
     have eo:eM (.tup [.str "done",u])=cp "done"::ic u:=by cases he<;>rfl
     rw [eo] at this
     exact this
   ·rcases hcase with ⟨i,hi,hw,rfl,en⟩|⟨n1,n2,en⟩
    ·have l9:=aN (n:=i) (by omega)
     have tx:=c9 (z:="f") (c:=102) (by decide +kernel) i
     have asg:∃ i' j,(("f":Str)++(toString ((i:Nat):Int):Str))=i'/\j=i':=⟨_,_,rfl,rfl⟩
     have rl1:("f":Str).length=1:=by decide +kernel
     have body:(az H l (.lst [.str w0,.int i])) l=some (.lst [.str w0,.int i])->Same H (az (az H l (.lst [.str w0,.int i])) l (.lst [.str w0,.str (S (102::dg i))]))/\(az (az H l (.lst [.str w0,.int i])) l (.lst [.str w0,.str (S (102::dg i))])) l=some (.lst ((ic u).map fun t=>V.str (S t))):=fun _=>⟨aA nl (aj nl),by rw [ae,en,BR,bn];rfl⟩
     obtain ⟨b1,b2⟩:=body e1
     rcases hw with rfl|rfl
     ·refine ⟨_,rfl,l,_,_,_,rfl,rfl,SqL.of e1,rfl,rfl,_,rfl,bg (by decide +kernel) ?_⟩
      refine ⟨_,rfl,l,_,_,_,rfl,rfl,SqL.of e1,rfl,_,rfl,a5 (by omega),_,_,rfl,rfl,(by rw [bw,a8,rl1];exact BN (show _<=100 by omega) (by decide)),?_⟩
      rw [tx]
      exact ⟨_,rfl,l,_,_,_,rfl,rfl,e1,rfl,l,u,rfl,he,rfl,b1,b2⟩
     ·refine ⟨_,rfl,l,_,_,_,rfl,rfl,SqL.of e1,rfl,rfl,_,rfl,aR (by decide +kernel) ?_⟩
      refine ⟨_,rfl,l,_,_,_,rfl,rfl,SqL.of e1,rfl,rfl,_,rfl,bg (by decide +kernel) ?_⟩
      refine ⟨_,rfl,l,_,_,_,rfl,rfl,SqL.of e1,rfl,_,rfl,a5 (by omega),_,_,rfl,rfl,(by rw [bw,a8,rl1];exact BN (show _<=100 by omega) (by decide)),?_⟩
      rw [tx]
      exact ⟨_,rfl,l,_,_,_,rfl,rfl,e1,rfl,l,u,rfl,he,rfl,b1,b2⟩
    ·refine ⟨_,rfl,l,_,_,_,rfl,rfl,SqL.of e1,at0 _ _,rfl,_,rfl,?_⟩
     rw [dstr]
     refine aR (decide_eq_false n1) ⟨_,rfl,l,_,_,_,rfl,rfl,SqL.of e1,at0 _ _,rfl,_,rfl,?_⟩
     rw [dstr]
     exact aR (decide_eq_false n2) ⟨l,u,rfl,he,rfl,s1,by rw [e1,en]⟩
theorem scLLitT:aq ["_law_told","_law_steps"] ["_law_told"] (al jJ):=⟨rfl,rfl,rfl,by decide +kernel,rfl,by decide +kernel,by decide +kernel⟩
theorem AU:(["_law_step_here"]:List Str).Nodup:=by decide +kernel
set_option maxHeartbeats 4000000 in
theorem rn {f:Addr} {fd:FuncData} (F:Fun K "_law_little_text" "_law_little_text" jJ f fd) (B:Bl mg) (ST:Fn P w K mg base "_law_step_text" 2 ["_law_step_here"] yY) (OT:Fn P w K mg base "_law_on_text" 1 ["_law_on_here"] yZ):aI P w K mg base bE 3 f fd ["_law_told"] y0:=by
 refine F.ok scLLitT (fun vs H Q E h=>?_) (fun cdv A outer s H vs Q E hr h=>?_)
 ·obtain ⟨p,v,t,rfl,_⟩:=h
  rfl
 ·obtain ⟨p,v,t,rfl,tv,lt,q⟩:=h
  have hr1:Room 1 _:=hr.mono (by decide)
  have sz:(100000:Nat)<=sizeLine:=by decide
  refine ⟨_,ak (a6 (i:=1) scLLitT.nd rfl (Or.inl rfl) (bV BK Ca B9 dL af (aa (fc (N':=["_law_step_here"]) (ix:=[none]) (sc0:=al jJ) (N:=["_law_told","_law_steps"]) rfl (by decide +kernel) (fh (ap au (pv 0) ad (fun _ _=>rfl)))
     (fun C' cl s H fp=>bt (i:=0) AU rfl (Or.inl rfl) (.inr rfl)) (fun _ _ _ _ _=>df) (fun C' cl s H fp=>ao ST hr rfl (aa (pv 0) ac))) ac)))
   (ah (am (aT aK (aT aK (aT aK (pv 1) (aT rh af (aY iN (by rfl) B.int CF (aa (cz km (pv 1) af (aB _)) ac)))) af) (ao OT hr1 rfl (aa (ap au (pv 0) ad (fun _ _=>rfl)) ac))))),?_⟩
  obtain ⟨ss,on,rfl,hs,ho,hl⟩:=lt.ex
  obtain ⟨sl1,sl2⟩:=gw hs hl
  have ol:=mt ho
  cases tv with
  | @tup a xs _ e ta=>
   obtain ⟨x,y,tx,ty,rfl,ets,hx,hy⟩:=ta.two rfl
   cases ets
   cases hx with
   | @tup b us _ eb tb=>
    have lus:=tb.length
    refine ⟨rfl,_,rfl,a,_,_,_,rfl,rfl,SqT.of e,rfl,b,rfl,⟨_,SqT.of eb⟩,?_⟩
    refine gp (K:=K) (a:=b) (xs:=us) (fun i ys H'=>Same H H'/\ys=((ss.take i).map cW).map (fun t=>V.str (S t))) ⟨Same.refl _,rfl⟩ (fun i ys H' hi ⟨s',e'⟩=>⟨SqT.of (s' _ _ eb),by rw [e',BE,BE,BZ];omega⟩) ?_ ?_
    ·rintro i z ys H2 hz ⟨s2,rfl⟩
     have hlt:i < us.length:=(BM.mp hz).1
     obtain ⟨tz,etz,hzt⟩:=tb.get hz
     refine ⟨trivial,dh ⟨_,rfl,p,z,tz,rfl,hzt.same s2,hs tz (B7 etz),fun H3 s3=>Nx.mk hlt ⟨s2.trans s3,?_⟩⟩⟩
     rw [Cs,etz,B8,B8]
     rfl
    ·rintro ys H2 ⟨s2,rfl⟩ D nD
     rw [lus,B1]
     have s3:=aj (o:=.lst ((ss.map cW).map (fun t=>V.str (S t)))) nD
     have e3:(az H2 D (.lst ((ss.map cW).map (fun t=>V.str (S t))))) D=some (.lst ((ss.map cW).map (fun t=>V.str (S t)))):=ae
     generalize az H2 D (.lst ((ss.map cW).map (fun t=>V.str (S t))))=H3 at *
     have s13:=s2.trans s3
     refine ⟨[32,44,32],D,ss.map cW,congrArg V.str vX,rfl,SqL.of e3,?_,?_⟩
     ·rw [BE]
      show _+ss.length*3<=100000
      omega
     have ew:fH (.tup [.tup ss,on])=TK.jn [32,44,32] (ss.map cW)++(if decide (ss=[])=true then [] else [32])++[58,32]++TK.jn [32] (eM on):=by
      show (if ss=[] then [58,32] else TK.jn [32,44,32] (ss.map cW)++[32,58,32])++TK.jn [32] (eM on)=_
      cases ss with
      | nil=>rfl
      | cons s0 sr=>simp
     have ed:(!decide (V.str (S (TK.jn [32,44,32] (ss.map cW)))=V.str ""))=!decide (ss=[]):=by
      rw [dstr,uM]
      congr 1
      rw [Ce,decide_eq_true_iff,decide_eq_true_iff,S_inj]
      cases ss with
      | nil=>exact ⟨fun _=>rfl,fun _=>rfl⟩
      | cons s0 sr=>
       obtain ⟨c,r,ec,_⟩:=qo (hs s0 BJ)
       obtain ⟨q2,e2⟩:=uP (sep:=[32,44,32]) (c:=c) (r:=r) (ts:=sr.map cW)
       rw [BR,ec,e2]
       exact ⟨fun z=>(nomatch z),fun z=>(nomatch z)⟩
     refine ⟨_,rfl,_,rfl,rfl,.inr ⟨_,rfl,?_⟩⟩
     rw [ed]
     refine ⟨[32],!decide (ss=[]),congrArg V.str ge,rfl,by decide,?_⟩
     have ei:(if (!decide (ss=[]))=true then [32] else [])=(if decide (ss=[])=true then ([]:List Nat) else [32]):=by cases decide (ss=[])<;>rfl
     rw [ei]
     have l1:(if decide (ss=[])=true then ([]:List Nat) else [32]).length<=1:=by split<;>simp
     generalize (if decide (ss=[])=true then ([]:List Nat) else [32])=bl at *
     refine ⟨_,_,rfl,rfl,lu (by omega),?_⟩
     rw [aP,ym]
     refine ⟨_,_,rfl,rfl,lu (by simp only [By,Bx,Bz];omega),?_⟩
     rw [aP]
     refine ⟨_,rfl,a,_,_,_,rfl,rfl,SqT.of (s13 _ _ e),rfl,p,y,on,rfl,hy.same s13,ho,fun H4 s4=>?_⟩
     refine ⟨_,_,rfl,rfl,lu (by simp only [By,Bx,Bz];omega),?_⟩
     rw [aP]
     have:=q _ (s13.trans s4)
     rw [ew] at this
     exact this
end
end L3
namespace L3
open PySem L2
mutual
def dZ:Th->PyData
 | .int i=>.int i
 | .str x=>.str x
 | .tup l=>.tuple (cK l)
 | _=>.none
def cK:List Th->List PyData
 | []=>[]
 | t::r=>dZ t::cK r
end
theorem ops_okS:∀ o∈opsL,xk o=true:=by decide +kernel
theorem fau_okS:∀ o∈ou,xk o=true:=by decide +kernel
theorem td_pair {p:Addr} {H:Hp} {v:V} {x:Str} {i:Int} (h:xk x=true) (tv:TgV p H v (.tup [.str x,.int i])):Td H v (dZ (.tup [.str x,.int i]))/\(dZ (.tup [.str x,.int i])).depth<=2:=by
 obtain ⟨a,rfl,e⟩:=cH tv
 refine ⟨.tup e (.cons (.str _ h) (.cons (.int _) .nil)),?_⟩
 simp [dZ,cK,PyData.depth,PyData.depthAll]
theorem SelT.td {p:Addr} {H:Hp} {v:V} {t:Th} (h:SelT t) (tv:TgV p H v t):Td H v (dZ t)/\(dZ t).depth<=2:=by
 cases h with
 | is i hi=>exact td_pair (by decide +kernel) tv
 | «by» i hi=>exact td_pair (by decide +kernel) tv
theorem SrcT.td {p:Addr} {H:Hp} {v:V} {t:Th} (h:SrcT t) (tv:TgV p H v t):Td H v (dZ t)/\(dZ t).depth<=2:=by
 cases h with
 | fld i hi=>exact td_pair (by decide +kernel) tv
 | num i hi=>exact td_pair (by decide +kernel) tv
 | inn i hi=>exact td_pair (by decide +kernel) tv
theorem EndT.td {p:Addr} {H:Hp} {v:V} {t:Th} (h:EndT t) (tv:TgV p H v t):Td H v (dZ t)/\(dZ t).depth<=2:=by
 cases h with
 | next=>obtain ⟨a,rfl,e⟩:=gN tv;exact ⟨.tup e (.cons (.str _ (by decide +kernel)) .nil),by simp [dZ,cK,PyData.depth,PyData.depthAll]⟩
 | back=>obtain ⟨a,rfl,e⟩:=gN tv;exact ⟨.tup e (.cons (.str _ (by decide +kernel)) .nil),by simp [dZ,cK,PyData.depth,PyData.depthAll]⟩
 | stop=>obtain ⟨a,rfl,e⟩:=gN tv;exact ⟨.tup e (.cons (.str _ (by decide +kernel)) .nil),by simp [dZ,cK,PyData.depth,PyData.depthAll]⟩
 | go i hi=>exact td_pair (by decide +kernel) tv
 | call i hi=>exact td_pair (by decide +kernel) tv
 | fault z hz=>obtain ⟨a,rfl,e⟩:=ny tv;exact ⟨.tup e (.cons (.str _ (by decide +kernel)) (.cons (.str _ (fau_okS z hz)) .nil)),by simp [dZ,cK,PyData.depth,PyData.depthAll]⟩
theorem OnT.td {p:Addr} {H:Hp} {v:V} {t:Th} (h:OnT t) (tv:TgV p H v t):Td H v (dZ t)/\(dZ t).depth<=4:=by
 cases h with
 | two z i x y hz hi hx hy=>
  obtain ⟨a,rfl,e⟩:=tH tv
  exact ⟨.tup e (.cons (.str _ (by rcases hz with rfl|rfl<;>decide +kernel)) (.cons (.int _) (.cons (.int _) (.cons (.int _) .nil)))),by simp [dZ,cK,PyData.depth,PyData.depthAll]⟩
 | on i hi=>exact ⟨(td_pair (by decide +kernel) tv).1,BN (td_pair (by decide +kernel) tv).2 (by decide)⟩
 | done he=>
  obtain ⟨a,u,rfl,e,h⟩:=nz tv
  obtain ⟨h1,h2⟩:=he.td h
  refine ⟨.tup e (.cons (.str _ (by decide +kernel)) (.cons h1 .nil)),?_⟩
  simp [dZ,cK,PyData.depth,PyData.depthAll]
  omega
theorem StpT.td {p:Addr} {H:Hp} {v:V} {t:Th} (h:StpT t) (tv:TgV p H v t):Td H v (dZ t)/\(dZ t).depth<=4:=by
 cases h with
 | @get n s hk hs=>
  cases tv with
  | @tup a xs _ e ta=>
   obtain ⟨u0,u1,rfl,ta'⟩:=cg ta
   obtain ⟨w0,w1,eq,t0,t1⟩:=bP ta'
   cases eq
   cases t0
   obtain ⟨a1,b1⟩:=hs.td t1
   refine ⟨.tup e (.cons (.str _ (by decide +kernel)) (.cons (.int _) (.cons a1 .nil))),?_⟩
   simp [dZ,cK,PyData.depth,PyData.depthAll]
   omega
 | @ask n s hk hs=>
  cases tv with
  | @tup a xs _ e ta=>
   obtain ⟨u0,u1,rfl,ta'⟩:=cg ta
   obtain ⟨w0,w1,eq,t0,t1⟩:=bP ta'
   cases eq
   cases t0
   obtain ⟨a1,b1⟩:=hs.td t1
   refine ⟨.tup e (.cons (.str _ (by decide +kernel)) (.cons (.int _) (.cons a1 .nil))),?_⟩
   simp [dZ,cK,PyData.depth,PyData.depthAll]
   omega
 | @cell n s hk hs=>
  cases tv with
  | @tup a xs _ e ta=>
   obtain ⟨u0,u1,rfl,ta'⟩:=cg ta
   obtain ⟨w0,w1,eq,t0,t1⟩:=bP ta'
   cases eq
   cases t0
   obtain ⟨a1,b1⟩:=hs.td t1
   refine ⟨.tup e (.cons (.str _ (by decide +kernel)) (.cons (.int _) (.cons a1 .nil))),?_⟩
   simp [dZ,cK,PyData.depth,PyData.depthAll]
   omega
 | @two n o x y hk ho hx hy=>
  cases tv with
  | @tup a xs _ e ta=>
   obtain ⟨u0,u1,u2,u3,rfl,ta'⟩:=m6 ta
   obtain ⟨w0,w1,w2,w3,eq,t0,t1,t2,t3⟩:=mq ta'
   cases eq
   cases t0
   cases t1
   obtain ⟨a2,b2⟩:=hx.td t2
   obtain ⟨a3,b3⟩:=hy.td t3
   refine ⟨.tup e (.cons (.str _ (by decide +kernel)) (.cons (.int _) (.cons (.str _ (ops_okS o ho)) (.cons a2 (.cons a3 .nil))))),?_⟩
   simp [dZ,cK,PyData.depth,PyData.depthAll]
   omega
 | @put s x hs hx=>
  cases tv with
  | @tup a xs _ e ta=>
   obtain ⟨u0,u1,rfl,ta'⟩:=cg ta
   obtain ⟨w0,w1,eq,t0,t1⟩:=bP ta'
   cases eq
   obtain ⟨a0,b0⟩:=hs.td t0
   obtain ⟨a1,b1⟩:=hx.td t1
   refine ⟨.tup e (.cons (.str _ (by decide +kernel)) (.cons a0 (.cons a1 .nil))),?_⟩
   simp [dZ,cK,PyData.depth,PyData.depthAll]
   omega
 | @tell s x hs hx=>
  cases tv with
  | @tup a xs _ e ta=>
   obtain ⟨u0,u1,rfl,ta'⟩:=cg ta
   obtain ⟨w0,w1,eq,t0,t1⟩:=bP ta'
   cases eq
   obtain ⟨a0,b0⟩:=hs.td t0
   obtain ⟨a1,b1⟩:=hx.td t1
   refine ⟨.tup e (.cons (.str _ (by decide +kernel)) (.cons a0 (.cons a1 .nil))),?_⟩
   simp [dZ,cK,PyData.depth,PyData.depthAll]
   omega
 | @store x y hx hy=>
  cases tv with
  | @tup a xs _ e ta=>
   obtain ⟨u0,u1,rfl,ta'⟩:=cg ta
   obtain ⟨w0,w1,eq,t0,t1⟩:=bP ta'
   cases eq
   obtain ⟨a0,b0⟩:=hx.td t0
   obtain ⟨a1,b1⟩:=hy.td t1
   refine ⟨.tup e (.cons (.str _ (by decide +kernel)) (.cons a0 (.cons a1 .nil))),?_⟩
   simp [dZ,cK,PyData.depth,PyData.depthAll]
   omega
theorem steps_td {p:Addr} {H:Hp}:∀ {us:List V} {ss:List Th},(∀ s∈ss,StpT s)->TgA p H us ss->TdAll H us (cK ss)/\PyData.depthAll (cK ss)<=4
 | _,_,_,.nil=>⟨.nil,by simp [cK,PyData.depthAll]⟩
 | _,_,h,.cons a t=>by
  obtain ⟨x1,x2⟩:=(h _ BJ).td a
  obtain ⟨y1,y2⟩:=steps_td (fun s hs=>h s (BF _ hs)) t
  refine ⟨.cons x1 y1,?_⟩
  simp only [cK,PyData.depthAll]
  omega
theorem LitT.td {p:Addr} {H:Hp} {v:V} {t:Th} (h:LitT t) (tv:TgV p H v t):Td H v (dZ t)/\(dZ t).depth<=8:=by
 obtain ⟨ss,on,rfl,hs,ho,hl⟩:=h.ex
 cases tv with
 | tup e ta=>match ta with
  | .cons (.tup e1 h1) (.cons h2 .nil)=>
   obtain ⟨x1,x2⟩:=steps_td hs h1
   obtain ⟨y1,y2⟩:=ho.td h2
   refine ⟨.tup e (.cons (.tup e1 x1) (.cons y1 .nil)),?_⟩
   simp only [dZ,cK,PyData.depth,PyData.depthAll]
   omega
def rsV (rs:List (List Nat)):List V:=rs.map fun t=>V.str (S t)
theorem bad_td {H:Hp} {r:Addr} {n:Int} (e:H r=some (.tup [.str "bad",.int n])):Td H (.ref r) (.tuple [.str "bad",.int n]):=.tup e (.cons (.str _ (by decide +kernel)) (.cons (.int _) .nil))
theorem bad_ne {K:PySem.W.Frag} {H:Hp} {r t:Addr} {n:Int} {Q:VK} (er:H r=some (.tup [.str "bad",.int n])) (et:H t=some (.tup [.str "bad",.int n])) (q:Q (.bl false) H):rNeD K (.ref r) (.ref t) H Q:=by
 refine ⟨_,_,(bad_td er).dt,(bad_td et).dt,(bad_td er).lay,(bad_td et).lay,BN (Nat.min_le_left _ _) (by simp [PyData.depth,PyData.depthAll]),?_⟩
 rw [(bad_td er).eqv]
 exact q
theorem bad_eq {K:PySem.W.Frag} {H:Hp} {r t:Addr} {n:Int} {Q:VK} (er:H r=some (.tup [.str "bad",.int n])) (et:H t=some (.tup [.str "bad",.int n])) (q:Q (.bl true) H):rEqD K (.ref r) (.ref t) H Q:=by
 refine ⟨_,_,(bad_td er).dt,(bad_td et).dt,(bad_td er).lay,(bad_td et).lay,BN (Nat.min_le_left _ _) (by simp [PyData.depth,PyData.depthAll]),?_⟩
 rw [(bad_td er).eqv]
 exact q
theorem told_td {p r:Addr} {H:Hp} {u:V} {t:Th} (h:LitT t) (e:H r=some (.tup [.str "told",u])) (tv:TgV p H u t):Td H (.ref r) (.tuple [.str "told",dZ t])/\(PyData.tuple [.str "told",dZ t]).depth<=10:=by
 obtain ⟨a,b⟩:=h.td tv
 refine ⟨.tup e (.cons (.str _ (by decide +kernel)) (.cons a .nil)),?_⟩
 simp only [PyData.depth,PyData.depthAll]
 omega
theorem td_ne {K:PySem.W.Frag} {H:Hp} {v u:V} {d:PyData} {Q:VK} (a:Td H v d) (b:Td H u d) (hd:d.depth<=10) (q:Q (.bl false) H):rNeD K v u H Q:=by
 refine ⟨_,_,a.dt,b.dt,a.lay,b.lay,BN (Nat.min_le_left _ _) (by omega),?_⟩
 rw [a.eqv]
 exact q
theorem td_eq {K:PySem.W.Frag} {H:Hp} {v u:V} {d:PyData} {Q:VK} (a:Td H v d) (b:Td H u d) (hd:d.depth<=10) (q:Q (.bl true) H):rEqD K v u H Q:=by
 refine ⟨_,_,a.dt,b.dt,a.lay,b.lay,BN (Nat.min_le_left _ _) (by omega),?_⟩
 rw [a.eqv]
 exact q
theorem cutV_to (xs:List V) (k:Nat):gm xs none (some (k:Int))=xs.take k:=by
 unfold gm
 have e1:HT.sIx xs.length 0 none=0:=rfl
 have e2:HT.sIx xs.length xs.length (some (k:Int))=min k xs.length:=by
  show (if (k:Int) < 0 then ((k:Int)+(xs.length:Int)).toNat else min (k:Int).toNat xs.length)=_
  rw [if_neg (by omega)];rfl
 rw [e1,e2,Cr,Nat.sub_zero]
 by_cases h:k<=xs.length
 ·rw [CU h]
 ·rw [Nat.min_eq_right (by omega),B1,Ck (by omega)]
theorem cutV_from (xs:List V) (k:Nat):gm xs (some (k:Int)) none=xs.drop k:=by
 unfold gm
 have e1:HT.sIx xs.length 0 (some (k:Int))=min k xs.length:=by
  show (if (k:Int) < 0 then ((k:Int)+(xs.length:Int)).toNat else min (k:Int).toNat xs.length)=_
  rw [if_neg (by omega)];rfl
 have e2:HT.sIx xs.length xs.length none=xs.length:=rfl
 rw [e1,e2]
 by_cases h:k<=xs.length
 ·rw [CU h,Ck (by rw [B2];omega)]
 ·rw [Nat.min_eq_right (by omega),List.drop_eq_nil_of_le (BG _),List.drop_eq_nil_of_le (by omega),List.take_nil]
theorem rd_to {K:PySem.W.Frag} {H:Hp} {a:Addr} {X:List V} {r:Nat} {Q:VK} (e:H a=some (.lst X)) (q:∀ l H',H l=none->Same H H'->H' l=some (.lst (X.take r))->Q (.ref l) H'):rR K (.ref a) none (some (r:Int)) H Q:=
 ⟨a,X,rfl,SqL.of e,fun l nl=>by rw [cutV_to];exact q l _ nl (aj nl) ae⟩
theorem rd_from {K:PySem.W.Frag} {H:Hp} {a:Addr} {X:List V} {r:Nat} {i:Int} {Q:VK} (hi:i=(r:Int)) (e:H a=some (.lst X)) (q:∀ l H',H l=none->Same H H'->H' l=some (.lst (X.drop r))->Q (.ref l) H'):rR K (.ref a) (some i) none H Q:=
 ⟨a,X,rfl,SqL.of e,fun l nl=>by rw [hi,cutV_from];exact q l _ nl (aj nl) ae⟩
theorem rd_cat {H:Hp} {a b:Addr} {xs zs:List V} {Q:VK} (h1:H a=some (.lst xs)) (h2:H b=some (.lst zs)) (hl:xs.length+zs.length<=10000) (q:∀ l H',H l=none->Same H H'->H' l=some (.lst (xs++zs))->Q (.ref l) H'):vk (.ref a) (.ref b) H Q:=
 ⟨a,b,xs,zs,rfl,rfl,h1,h2,BN hl (by decide),fun l nl=>q l _ nl (aj nl) ae⟩
theorem rsV_app (a b:List (List Nat)):rsV a++rsV b=rsV (a++b):=by unfold rsV;rw [B8]
theorem rsV_take (a:List (List Nat)) (k:Nat):(rsV a).take k=rsV (a.take k):=by unfold rsV;rw [List.map_take]
theorem rsV_drop (a:List (List Nat)) (k:Nat):(rsV a).drop k=rsV (a.drop k):=by unfold rsV;rw [List.map_drop]
end L3
namespace L2
open PySem PySem.Spec PyProof.Rows
section
variable {X:Cx}
theorem iD:rQ X "str.isdigit" (fun x xs H Q=>∃ a,x=.str a/\xs=[]/\Q (.bl (Txt.isdigit a)) H):=by
 intro pins s σ H x xs v us Q I rx rv h
 obtain ⟨a,rfl,rfl,q⟩:=h
 obtain ⟨t,rfl⟩:=rx
 cases rv
 exact SC.isdigit ⟨.bl _,H,I,rfl,q⟩
end
end L2
namespace L3
open PySem L2
theorem uj:∀ c:Fin 128,Unicode.isDigit c.val=a9 c.val:=by decide +kernel
theorem uS (l:List Nat) (h:∀ c∈l,c < 128):Txt.isdigit (S l)=(decide (l≠[]) && l.all a9):=by
 have e:(S l).cps.all Unicode.isDigit=l.all a9:=by
  show (l.toArray).all Unicode.isDigit=_
  rw [List.all_toArray]
  induction l with
  | nil=>rfl
  | cons c r ih=>
   rw [List.all_cons,List.all_cons,ih (fun z hz=>h z (BF _ hz)),show Unicode.isDigit c=a9 c from uj ⟨c,h c BJ⟩]
 unfold Txt.isdigit
 rw [e,a8]
 congr 1
 cases l<;>simp
theorem nM {os:List (List Nat)} {r:Nat} (h:r < os.length):∃ o∈os,iV (rsV os) (r:Int)=some (.str (S o)):=⟨os[r],List.getElem_mem h,aM (by unfold rsV;rw [Cw,Cm h];rfl)⟩
def A8:List (List Nat):=[[],[59],[44,58],[58,58],[58,44]]
theorem y8:[V.str "",.str ";",.str ",:",.str "::",.str ":,"]=rsV A8:=by decide +kernel
def AV:List (List Nat):=[[56],[57],[],[45,49],cp "16777216",[48,48],[120]]
theorem y9:[V.str "8",.str "9",.str "",.str "-1",.str "16777216",.str "00",.str "x"]=rsV AV:=by decide +kernel
theorem za (d:List Nat):[V.str (S ([48]++d)),.str "8",.str "9",.str "",.str "-1",.str "16777216",.str "00",.str "x"]=rsV ((48::d)::AV):=by
 rw [y9];rfl
theorem Bn:(⟨(List.replicate 30 ("1":Str).cps).foldl (·++·) #[]⟩:Str)=S (List.replicate 30 49):=by decide +kernel
theorem z0:("0":Str)=S [48]:=by decide +kernel
theorem zp:("+":Str)=S [43]:=by decide +kernel
theorem z2:("2":Str)=S [50]:=by decide +kernel
theorem zn:("":Str)=S []:=by decide +kernel
def A9 (w:List Nat):List (List Nat):=[48::w,cp "16777216",[45,49],43::w,[120],[],List.replicate 30 49]
theorem zb (w:List Nat):[V.str (S ([48]++w)),.str "16777216",.str "-1",.str (S ([43]++w)),.str "x",.str "",.str ⟨(List.replicate 30 ("1":Str).cps).foldl (·++·) #[]⟩]=rsV (A9 w):=by
 rw [Bn,show ("16777216":Str)=S (cp "16777216") from (bn _).symm,show ("-1":Str)=S [45,49] from by decide +kernel,show ("x":Str)=S [120] from by decide +kernel,zn]
 rfl
def Ba (w:List Nat):List (List Nat):=[[],w++[50],cp "deep",[42],cp "Load"]
theorem zc (w:List Nat):[V.str "",.str (S (w++[50])),.str "deep",.str "*",.str "Load"]=rsV (Ba w):=by
 rw [zn,show ("deep":Str)=S (cp "deep") from (bn _).symm,show ("*":Str)=S [42] from by decide +kernel,show ("Load":Str)=S (cp "Load") from (bn _).symm]
 rfl
theorem zd (w:List Nat):([",",":"]:List Str).contains (S w)=decide (w=[44]\/w=[58]):=by
 have h1:(",":Str)=S [44]:=by decide +kernel
 have h2:(":":Str)=S [58]:=by decide +kernel
 rw [h1,h2]
 by_cases h:w=[44]\/w=[58]
 ·rw [decide_eq_true h,Cq]
  rcases h with rfl|rfl<;>simp
 ·rw [decide_eq_false h]
  refine BC.mpr fun z=>h ?_
  rw [Cq] at z
  simp only [BH,BW,or_false,S_inj] at z
  exact z
theorem uT (w:List Nat):(["r","p","m","f"]:List Str).contains (S (w.take 1))=true↔∃ c d,w=c::d/\c∈ir:=by
 have h1:(["r","p","m","f"]:List Str)=[S [114],S [112],S [109],S [102]]:=by decide +kernel
 rw [h1,Cq]
 simp only [BH,BW,or_false,S_inj]
 cases w with
 | nil=>simp
 | cons c d=>
  show (c::List.take 0 d=[114]\/c::List.take 0 d=[112]\/c::List.take 0 d=[109]\/c::List.take 0 d=[102])↔_
  rw [List.take_zero]
  simp only [List.cons.injEq,and_true]
  constructor
  ·intro h
   exact ⟨c,d,⟨rfl,rfl⟩,by rcases h with rfl|rfl|rfl|rfl<;>decide⟩
  ·rintro ⟨c',d',⟨rfl,rfl⟩,h⟩
   simp only [ir,BH,BW,or_false] at h
   omega
theorem nN (l:List Nat):dI l none (some 1)=l.take 1:=by
 unfold dI
 cases l with
 | nil=>rfl
 | cons c r=>
  have e2:HT.sIx (c::r).length (c::r).length (some 1)=1:=by
   show (if (1:Int) < 0 then ((1:Int)+((c::r).length:Int)).toNat else min (1:Int).toNat (r.length+1))=1
   rw [if_neg (by omega)]
   show min 1 (r.length+1)=1
   omega
  rw [e2]
  rfl
def uU:Sp:=fun vs H Q _=>∃ (p:Addr) (w:List Nat),vs=[.str (S w),.ref p]/\w.length<=10/\(∀ c∈w,c < 128)/\32∉w/\Strm H p/\∀ o H',qP w o->Strm H' p->But p H H'->Q (.str (S o)) H'
section
variable {P:Program} {w:World} {K:PySem.W.Frag} {mg:Str->Option Value} {base:Heap}
theorem ze:aq ["_law_word","_law_stream_here"] ["_law_word","_law_stream_here"] (al pV):=⟨rfl,rfl,rfl,by decide +kernel,rfl,by decide +kernel,by decide +kernel⟩
set_option maxHeartbeats 4000000 in
theorem uk {f:Addr} {fd:FuncData} (F:Fun K "_law_odd_word" "_law_odd_word" pV f fd) (TA:Fn P w K mg base "_law_take" 1 ["_law_stream_here","_law_many"] di):aI P w K mg base bE 2 f fd ["_law_word","_law_stream_here"] uU:=by
 refine F.ok ze (fun vs H Q E h=>?_) (fun cdv A outer s H vs Q E hr h=>?_)
 ·obtain ⟨p,w,rfl,_⟩:=h
  rfl
 ·obtain ⟨p,wd,rfl,hl,ha,ha',hp,q⟩:=h
  have sz:(100000:Nat)<=sizeLine:=by decide
  refine ⟨_,ak (aH (ax cx (pv 0) (bp (aa af (aa af ac))) rfl) (ah (am (ap ay (bp (aa af (aa af (aa af (aa af (aa af ac)))))) (ao TA hr rfl (aa (pv 1) (aa ad ac))) (fun _ _=>rfl)))) aw)
   (fV (fun σ H'=>σ=[some (.str (S wd)),some (.ref p)]/\Strm H' p/\But p H H'/\∀ c d,wd=c::d->c∈ir->d≠[]->d.all a9=false) (aH (PW.pt (fg (aV (o8 BK PySem.F.slot_str_isdigit PySem.F.type_str_isdigit iD (bD gn (pv 0) (bR ad) bQ))) (dD (ax cx (bD gn (pv 0) bQ (bR ad)) (bp (aa af (aa af (aa af (aa af ac))))) rfl)))) (ah (am (aT aK (bD gn (pv 0) bQ (bR ad)) (ap ay (bp (aa (aT aK af (bD gn (pv 0) (bR ad) bQ)) (aa af (aa af (aa af (aa af (aa af (aa af (aa af ac))))))))) (ao TA hr rfl (aa (pv 1) (aa ad ac))) (fun _ _=>rfl))))) aw)
   (ak (aH (aV (o8 BK PySem.F.slot_str_isdigit PySem.F.type_str_isdigit iD (pv 0))) (ah (am (ap ay (bp (aa (aT aK af (pv 0)) (aa af (aa af (aa (aT aK af (pv 0)) (aa af (aa af (aa (aT nJ af ad) ac)))))))) (ao TA hr rfl (aa (pv 1) (aa ad ac))) (fun _ _=>rfl)))) aw)
   (ah (am (ap ay (bp (aa af (aa (aT aK (pv 0) af) (aa af (aa af (aa af ac)))))) (ao TA hr rfl (aa (pv 1) (aa ad ac))) (fun _ _=>rfl)))))),?_⟩
  have fin:∀ (os:List (List Nat)) (n:Nat) (H1:Hp) (l:Addr),os.length=n->But p H H1->Strm H1 p->H1 l=none->∀ (r:Nat) (H3:Hp),r < n->Strm H3 p->But p (az H1 l (.lst (rsV os))) H3->∃ o∈os,SqL K H3 l (rsV os)/\iV (rsV os) (r:Int)=some (.str (S o))/\But p H H3:=fun os n H1 l hn b1 g1 nl r H3 lr g3 b3=>by
   have s2:=aj (o:=.lst (rsV os)) nl
   obtain ⟨o,ho,ea⟩:=nM (os:=os) (r:=r) (by omega)
   exact ⟨o,ho,SqL.of (b3 _ _ ae (g1.ne nl).symm),ea,(b1.same s2).trans b3⟩
  refine ⟨_,rfl,(by show 2<=sizeLine;decide),fun t nt=>?_⟩
  have s1:=aj (o:=.lst [.str ",",.str ":"]) nt
  have e1:(az H t (.lst [.str ",",.str ":"])) t=some (.lst (([",",":"]:List Str).map V.str)):=ae
  have g1:=hp.same s1
  have b1:But p H _:=jK s1
  generalize az H t (.lst [V.str ",",.str ":"])=H1 at *
  refine ⟨t,_,rfl,.inl (SqL.of e1),rfl,by decide +kernel,_,rfl,?_⟩
  rw [bZ,zd]
  by_cases hs:wd=[44]\/wd=[58]
  ·refine bg (decide_eq_true hs) ⟨(by show 5<=sizeLine;decide),fun l nl=>?_⟩
   rw [y8]
   refine ⟨_,rfl,p,5,rfl,g1.same (aj nl),by decide,by decide,fun r H3 lr g3 b3=>?_⟩
   obtain ⟨o,ho,hq,ea,b⟩:=fin A8 5 _ l rfl b1 g1 nl r H3 lr g3 b3
   exact ⟨l,_,_,_,rfl,rfl,hq,ea,q o H3 (.sep o hs ho) g3 b⟩
  refine aR (decide_eq_false hs) ?_
  refine ⟨?_,?_⟩
  ·rintro σ' H2 ⟨rfl,g2,b2,hno⟩
   refine ⟨_,rfl,rfl,_,rfl,rfl,_,rfl,?_⟩
   rw [uS _ ha]
   by_cases hf:wd≠[]/\wd.all a9=true
   ·refine bg (by rw [decide_eq_true hf.1,hf.2];rfl) ?_
    refine ⟨_,rfl,_,_,rfl,rfl,?_⟩
    rw [z0,aP]
    refine ⟨lu (by simp;omega),_,rfl,_,_,rfl,rfl,?_⟩
    rw [zp,aP]
    refine ⟨lu (by simp;omega),"1",30,rfl,rfl,by decide,by decide,by decide +kernel,by decide +kernel,by decide +kernel,(by show 7<=sizeLine;decide),fun l nl=>?_⟩
    rw [zb]
    refine ⟨_,rfl,p,7,rfl,g2.same (aj nl),by decide,by decide,fun r H3 lr g3 b3=>?_⟩
    obtain ⟨o,ho,hq,ea,b⟩:=fin (A9 wd) 7 _ l rfl b2 g2 nl r H3 lr g3 b3
    exact ⟨l,_,_,_,rfl,rfl,hq,ea,q o H3 (.num o hf.1 hf.2 ho) g3 b⟩
   ·refine aR (BC.mpr fun z=>hf (by rw [BD,decide_eq_true_iff] at z;exact z)) ?_
    refine ⟨_,rfl,_,_,rfl,rfl,?_⟩
    rw [z2,aP]
    refine ⟨lu (by simp;omega),(by show 5<=sizeLine;decide),fun l nl=>?_⟩
    rw [zc]
    refine ⟨_,rfl,p,5,rfl,g2.same (aj nl),by decide,by decide,fun r H3 lr g3 b3=>?_⟩
    obtain ⟨o,ho,hq,ea,b⟩:=fin (Ba wd) 5 _ l rfl b2 g2 nl r H3 lr g3 b3
    exact ⟨l,_,_,_,rfl,rfl,hq,ea,q o H3 (.oth o hs hno (fun h0=>BC.mpr fun z=>hf ⟨h0,z⟩) ho) g3 b⟩
  ·refine ⟨_,rfl,_,rfl,wd,rfl,by omega,rfl,_,rfl,rfl,_,rfl,?_⟩
   rw [show dI wd (some 1) none=wd.drop 1 from gc wd 1,uS _ (fun c hc=>ha c (List.mem_of_mem_drop hc))]
   by_cases hd:wd.drop 1≠[]/\(wd.drop 1).all a9=true
   ·refine bg (by rw [decide_eq_true hd.1,hd.2];rfl) ?_
    refine ⟨_,rfl,_,rfl,wd,rfl,by omega,(by show 4<=sizeLine;decide),fun t2 nt2=>?_⟩
    rw [show dI wd none (some 1)=wd.take 1 from nN wd]
    have s2:=aj (o:=.lst [.str "r",.str "p",.str "m",.str "f"]) nt2
    have e2:(az H1 t2 (.lst [.str "r",.str "p",.str "m",.str "f"])) t2=some (.lst ((["r","p","m","f"]:List Str).map V.str)):=ae
    have g2:=g1.same s2
    have b2:=b1.same s2
    generalize az H1 t2 (.lst [V.str "r",.str "p",.str "m",.str "f"])=H2 at *
    refine ⟨t2,_,rfl,.inl (SqL.of e2),rfl,by decide +kernel,_,rfl,?_⟩
    rw [bZ]
    by_cases hc:(["r","p","m","f"]:List Str).contains (S (wd.take 1))=true
    ·refine bg hc ?_
     obtain ⟨c,d,rfl,hm⟩:=(uT wd).mp hc
     have hl':d.length+1<=10:=hl
     refine ⟨_,rfl,_,rfl,c::d,rfl,by omega,_,rfl,_,rfl,c::d,rfl,by omega,_,_,rfl,rfl,?_⟩
     rw [show dI (c::d) none (some 1)=[c] from nN (c::d),show dI (c::d) (some 1) none=d from gc (c::d) 1,z0,aP]
     refine ⟨lu (by simp;omega),(by show 8<=sizeLine;decide),fun l nl=>?_⟩
     rw [za]
     refine ⟨_,rfl,p,8,rfl,g2.same (aj nl),by decide,by decide,fun r H3 lr g3 b3=>?_⟩
     obtain ⟨o,ho,hq,ea,b⟩:=fin ((48::d)::AV) 8 _ l rfl b2 g2 nl r H3 lr g3 b3
     refine ⟨l,_,_,_,rfl,rfl,hq,ea,_,_,rfl,rfl,?_⟩
     rw [aP]
     have od:qP (c::d) (c::o):=.let_ c d o rfl hd.1 hd.2 hm ho
     have:=(iz ha' od).2
     exact ⟨lu (by rw [Bx,Bx] at this;rw [List.length_singleton];omega),q (c::o) H3 od g3 b⟩
    ·refine aR (BC.mpr hc) ⟨rfl,g2,b2,fun c d e hm _=>absurd ((uT wd).mpr ⟨c,d,e,hm⟩) hc⟩
   ·refine aR (BC.mpr fun z=>hd (by rw [BD,decide_eq_true_iff] at z;exact z)) (bo ⟨rfl,g1,b1,fun c d e hm hn=>BC.mpr fun z=>hd (by rw [e];exact ⟨hn,z⟩)⟩)
end
end L3
namespace L3
open PySem L2
theorem wU (l:List Nat):(Txt.split (S l) (S [32])).map V.str=rsV (cZ l):=by
 rw [<-ld,Cl9];rfl
theorem rp (l:List Nat):(cZ l).length<=l.length+1:=by
 have h:=lh (dn l)
 rw [fN] at h
 unfold lg at h
 omega
def lv (l:List Nat):List (List Nat):=[32::l,l++[32],l++[10],10::l,l++[32,58],45::32::l]
theorem zf (l:List Nat):[V.str (S ([32]++l)),.str (S (l++[32])),.str (S (l++[10])),.str (S ([10]++l)),.str (S (l++[32,58])),.str (S ([45,32]++l))]=rsV (lv l):=rfl
theorem ul {l o:List Nat} (h:o∈lv l):j9 l o:=by
 simp only [lv,BH,BW,or_false] at h
 rcases h with rfl|rfl|rfl|rfl|rfl|rfl
 ·exact .bl
 ·exact .lb
 ·exact .ln
 ·exact .nl
 ·exact .lc
 ·exact .mn
theorem Bo:(" ":Str)=S [32]:=by decide +kernel
theorem Bp:("\n":Str)=S [10]:=by decide +kernel
theorem Bq:(" :":Str)=S [32,58]:=by decide +kernel
theorem Br:("- ":Str)=S [45,32]:=by decide +kernel
theorem zg {l o:List Nat} (V:List (List Nat)) (hl:l.length<=800) (h:run (.st true) (cZ l)=true) (hs:j9 l o) (e:o=TK.jn [32] V):(V.map List.length).sum+V.length*1<=100000:=by
 have h1:=qY h hs
 by_cases h0:V=[]
 ·subst h0;decide
 ·have:=lh h0
  rw [e] at h1
  unfold lg at this
  omega
def uV:Sp:=fun vs H Q _=>∃ (p:Addr) (l:List Nat),vs=[.str (S l),.ref p]/\l.length<=800/\run (.st true) (cZ l)=true/\Strm H p/\∀ o H',j9 l o->Strm H' p->But p H H'->Q (.str (S o)) H'
section
variable {P:Program} {w:World} {K:PySem.W.Frag} {mg:Str->Option Value} {base:Heap}
theorem scSpl:aq ["_law_text","_law_stream_here","_law_words","_law_at","_law_way"] ["_law_text","_law_stream_here"] (al hW):=⟨rfl,rfl,rfl,by decide +kernel,rfl,by decide +kernel,by decide +kernel⟩
set_option maxHeartbeats 4000000 in
theorem um {f:Addr} {fd:FuncData} (F:Fun K "_law_spoilt" "_law_spoilt" hW f fd) (B:Bl mg) (TA:Fn P w K mg base "_law_take" 1 ["_law_stream_here","_law_many"] di) (OD:Fn P w K mg base "_law_odd_word" 2 ["_law_word","_law_stream_here"] uU):aI P w K mg base bE 3 f fd ["_law_text","_law_stream_here"] uV:=by
 refine F.ok scSpl (fun vs H Q E h=>?_) (fun cdv A outer s H vs Q E hr h=>?_)
 ·obtain ⟨p,l,rfl,_⟩:=h
  rfl
 ·obtain ⟨p,l,rfl,hl,hrun,hp,q⟩:=h
  have sz:(100000:Nat)<=sizeLine:=by decide
  have hr1:Room 1 _:=hr.mono (by decide)
  refine ⟨_,ak (a6 (i:=2) scSpl.nd rfl (Or.inl rfl) (bV BK PySem.F.slot_str_split PySem.F.type_str_split dv (pv 0) (aa af ac)))
   (ak (a6 (i:=3) scSpl.nd rfl (Or.inl rfl) (ao TA hr1 rfl (aa (pv 1) (aa (aJ bc (by rfl) B.len B5 (aa (pv 2) ac)) ac))))
   (ak (a6 (i:=4) scSpl.nd rfl (Or.inl rfl) (ao TA hr1 rfl (aa (pv 1) (aa ad ac))))
   (ak (aH (ax bb (pv 4) ad (aB _)) (ah (am (bV BK Ca B9 dL af (aa (aT fz (bD dF (pv 2) bQ (bR (pv 3))) (bD dF (pv 2) (bR (aT fk (pv 3) ad)) bQ)) ac)))) aw)
   (ak (aH (ax bb (pv 4) ad (aB _)) (ah (am (bV BK Ca B9 dL af (aa (aT fz (aT fz (bD dF (pv 2) bQ (bR (pv 3))) (bp (aa (ap ay (pv 2) (pv 3) (fun _ _=>rfl)) ac))) (bD dF (pv 2) (bR (pv 3)) bQ)) ac)))) aw)
   (ak (aH (ax bb (pv 4) ad (aB _)) (ah (am (ap ay (bp (aa (aT aK af (pv 0)) (aa (aT aK (pv 0) af) (aa (aT aK (pv 0) af) (aa (aT aK af (pv 0)) (aa (aT aK (pv 0) af) (aa (aT aK af (pv 0)) ac))))))) (ao TA hr1 rfl (aa (pv 1) (aa ad ac))) (fun _ _=>rfl)))) aw)
   (ah (am (bV BK Ca B9 dL af (aa (aT fz (aT fz (bD dF (pv 2) bQ (bR (pv 3))) (bp (aa (ao OD hr rfl (aa (ap ay (pv 2) (pv 3) (fun _ _=>rfl)) (aa (pv 1) ac))) ac))) (bD dF (pv 2) (bR (aT fk (pv 3) ad)) bQ)) ac))))))))),?_⟩
  refine ⟨_,rfl,rfl,S l,_,rfl,rfl,by decide +kernel,by rw [a8];omega,fun rl nrl=>?_⟩
  rw [Bo,wU]
  have wm:=rp l
  have wf:∀ w∈cZ l,32∉w:=fun w h=>cX h
  have wl:=qV hrun
  have wa:=ud hrun
  generalize eW:cZ l=W at *
  have Wn:W≠[]:=by rw [<-eW];exact dn l
  have s1:=aj (o:=.lst (rsV W)) nrl
  have e1:(az H rl (.lst (rsV W))) rl=some (.lst (rsV W)):=ae
  have g1:=hp.same s1
  have b1:But p H _:=jK s1
  have ne1:=(hp.ne nrl).symm
  generalize az H rl (.lst (rsV W))=H1 at *
  have xl:(rsV W).length=W.length:=by unfold rsV;rw [BE]
  refine ⟨_,rfl,_,rfl,rl,_,rfl,.inl (SqL.of e1),p,(rsV W).length,rfl,g1,by rw [xl];exact CJ.mpr Wn,by omega,fun k H2 lk g2 b2=>?_⟩
  rw [xl] at lk
  refine ⟨_,rfl,p,6,rfl,g2,by decide,by decide,fun wy H3 _ g3 b3=>?_⟩
  have e3:=b3 _ _ (b2 _ _ e1 ne1) ne1
  have B3:=(b1.trans b2).trans b3
  have eD:W.drop k=W[k]::W.drop (k+1):=List.drop_eq_getElem_cons lk
  have eS:W=W.take k++W[k]::W.drop (k+1):=by rw [<-eD,List.take_append_drop]
  have ek:iV (rsV W) (k:Int)=some (.str (S W[k])):=aM (by unfold rsV;rw [Cw,Cm lk];rfl)
  have tl:((rsV W).take k).length<=801:=by rw [BZ];omega
  have dl:∀ k,((rsV W).drop k).length<=801:=fun k=>by rw [B2];omega
  have done:∀ (V':List (List Nat)) (a:Addr) (J:Hp),j9 l (TK.jn [32] V')->Strm J p->But p H J->J a=some (.lst (rsV V'))->∃ sep a' ts,V.str (S [32])=.str (S sep)/\[V.ref a]=[.ref a']/\SqL K J a' (ts.map fun t=>V.str (S t))/\(ts.map List.length).sum+ts.length*sep.length<=100000/\Q (.str (S (TK.jn sep ts))) J:=fun V' a J hs g b e=>
   ⟨[32],a,V',rfl,rfl,SqL.of e,zg V' hl (by rw [eW];exact hrun) hs rfl,q _ J hs g b⟩
  refine ⟨_,rfl,rfl,_,rfl,?_⟩
  rw [dint]
  by_cases h0:wy=0
  ·refine bg (decide_eq_true (by omega)) ⟨rfl,_,rfl,_,rfl,_,rfl,rd_to e3 fun l1 J1 _ j1 q1=>?_⟩
   refine ⟨_,rfl,_,rfl,_,_,rfl,rfl,_,rfl,rd_from (r:=k+1) (by omega) (j1 _ _ e3) fun l2 J2 _ j2 q2=>?_⟩
   refine rd_cat (j2 _ _ q1) q2 (by have:=dl (k+1);omega) fun l3 J3 _ j3 q3=>?_
   have ss:=(j1.trans j2).trans j3
   rw [rsV_take,rsV_drop,rsV_app] at q3
   exact done (W.take k++W.drop (k+1)) l3 J3 (.del _ _ W[k] (eW.trans eS)) (g3.same ss) (B3.same ss) q3
  refine aR (decide_eq_false (by omega)) ⟨_,rfl,rfl,_,rfl,?_⟩
  rw [dint]
  by_cases h1:wy=1
  ·refine bg (decide_eq_true (by omega)) ⟨rfl,_,rfl,_,rfl,_,rfl,rd_to e3 fun l1 J1 _ j1 q1=>?_⟩
   refine ⟨_,rfl,_,rfl,rl,_,_,_,rfl,rfl,SqL.of (j1 _ _ e3),ek,(by show 1<=sizeLine;decide),fun l2 n2=>?_⟩
   have j2:=aj (o:=.lst [V.str (S W[k])]) n2
   have q2:(az J1 l2 (.lst [V.str (S W[k])])) l2=some (.lst (rsV [W[k]])):=ae
   generalize az J1 l2 (.lst [V.str (S W[k])])=J2 at *
   refine rd_cat (j2 _ _ q1) q2 (by show _+1<=10000;omega) fun l3 J3 _ j3 q3=>?_
   have s3:=(j1.trans j2).trans j3
   refine ⟨_,rfl,_,rfl,_,rfl,rd_from (r:=k) rfl (s3 _ _ e3) fun l4 J4 _ j4 q4=>?_⟩
   refine rd_cat (j4 _ _ q3) q4 (by have:=dl k;rw [By];show _+1+_<=10000;omega) fun l5 J5 _ j5 q5=>?_
   have ss:=(s3.trans j4).trans j5
   rw [rsV_take,rsV_drop,rsV_app,rsV_app,eD] at q5
   have sp:j9 l (TK.jn [32] (W.take k++W[k]::W[k]::W.drop (k+1))):=.dbl _ _ W[k] (eW.trans eS)
   rw [show W.take k++W[k]::W[k]::W.drop (k+1)=W.take k++[W[k]]++W[k]::W.drop (k+1) from (BT _ [W[k]] _).symm] at sp
   exact done _ l5 J5 sp (g3.same ss) (B3.same ss) q5
  refine aR (decide_eq_false (by omega)) ⟨_,rfl,rfl,_,rfl,?_⟩
  rw [dint]
  by_cases h2:wy=2
  ·refine bg (decide_eq_true (by omega)) ⟨_,rfl,_,_,rfl,rfl,?_⟩
   rw [Bp,Bq,Br,aP]
   have a1:∀ c:List Nat,c.length<=2->(S c).length+(S l).length<=sizeLine:=fun c hc=>lu (by omega)
   have a2:∀ c:List Nat,c.length<=2->(S l).length+(S c).length<=sizeLine:=fun c hc=>lu (by omega)
   refine ⟨a1 _ (by decide),_,rfl,_,_,rfl,rfl,?_⟩
   rw [aP]
   refine ⟨a2 _ (by decide),_,rfl,_,_,rfl,rfl,?_⟩
   rw [aP]
   refine ⟨a2 _ (by decide),_,rfl,_,_,rfl,rfl,?_⟩
   rw [aP]
   refine ⟨a1 _ (by decide),_,rfl,_,_,rfl,rfl,?_⟩
   rw [aP]
   refine ⟨a2 _ (by decide),_,rfl,_,_,rfl,rfl,?_⟩
   rw [aP]
   refine ⟨a1 _ (by decide),(by show 6<=sizeLine;decide),fun l1 n1=>?_⟩
   rw [zf]
   have j1:=aj (o:=.lst (rsV (lv l))) n1
   have q1:(az H3 l1 (.lst (rsV (lv l)))) l1=some (.lst (rsV (lv l))):=ae
   have ne:=(g3.ne n1).symm
   generalize az H3 l1 (.lst (rsV (lv l)))=J1 at *
   refine ⟨_,rfl,p,6,rfl,g3.same j1,by decide,by decide,fun r J2 lr g b=>?_⟩
   obtain ⟨o,ho,ea⟩:=nM (os:=lv l) (r:=r) lr
   exact ⟨l1,_,_,_,rfl,rfl,SqL.of (b _ _ q1 ne),ea,q o J2 (ul ho) g ((B3.same j1).trans b)⟩
  refine aR (decide_eq_false (by omega)) ⟨rfl,_,rfl,_,rfl,_,rfl,rd_to e3 fun l1 J1 n1 j1 q1=>?_⟩
  have hm:W[k]∈W:=List.getElem_mem lk
  have ne:=(g3.ne n1).symm
  refine ⟨_,rfl,_,rfl,rl,_,_,_,rfl,rfl,SqL.of (j1 _ _ e3),ek,_,rfl,p,W[k],rfl,wl _ hm,wa _ hm,wf _ hm,g3.same j1,fun o J2 ho g b=>?_⟩
  refine ⟨(by show 1<=sizeLine;decide),fun l2 n2=>?_⟩
  have q1':=b _ _ q1 ne
  have e4:=b _ _ (j1 _ _ e3) ne1
  have B4:=(B3.same j1).trans b
  have j2:=aj (o:=.lst [V.str (S o)]) n2
  have q2:(az J2 l2 (.lst [V.str (S o)])) l2=some (.lst (rsV [o])):=ae
  generalize az J2 l2 (.lst [V.str (S o)])=J3 at *
  refine rd_cat (j2 _ _ q1') q2 (by show _+1<=10000;omega) fun l3 J4 _ j3 q3=>?_
  have s3:=j2.trans j3
  refine ⟨_,rfl,_,rfl,_,_,rfl,rfl,_,rfl,rd_from (r:=k+1) (by omega) (s3 _ _ e4) fun l4 J5 _ j4 q4=>?_⟩
  refine rd_cat (j4 _ _ q3) q4 (by have:=dl (k+1);rw [By];show _+1+_<=10000;omega) fun l5 J6 _ j5 q5=>?_
  have ss:=(s3.trans j4).trans j5
  rw [rsV_take,rsV_drop,rsV_app,rsV_app] at q5
  have sp:j9 l (TK.jn [32] (W.take k++o::W.drop (k+1))):=.odd _ _ W[k] o (eW.trans eS) ho
  rw [show W.take k++o::W.drop (k+1)=W.take k++[o]++W.drop (k+1) from (BT _ [o] _).symm] at sp
  exact done _ l5 J6 sp (g.same ss) (B4.same ss) q5
end
end L3
namespace L3
open PySem L2
structure AL (C:Nat->Addr) (cT p:Addr) (v m:V) (t:Th) (H:Hp):Prop where
 g:Strm H p
 tv:TgV p H v t
 lo:LiO C cT p H m t
theorem AL.same {C:Nat->Addr} {cT p:Addr} {v m:V} {t:Th} {H H':Hp} (A:AL C cT p v m t H) (s:Same H H'):AL C cT p v m t H':=⟨A.g.same s,A.tv.same s,A.lo.same s⟩
theorem AL.but {C:Nat->Addr} {cT p:Addr} {v m:V} {t:Th} {H H':Hp} (A:AL C cT p v m t H) (g:Strm H' p) (b:But p H H'):AL C cT p v m t H':=⟨g,A.tv.but A.g b,A.lo.but A.g b⟩
theorem OnT.isTup {t:Th} (h:OnT t):t.isTup=true:=by cases h<;>rfl
theorem wV {K:PySem.W.Frag} {H:Hp} {p l l':Addr} {us us':List V} {ss:List Th} {Q:VK} (hs:∀ s∈ss,StpT s) (e:H l=some (.lst us)) (e':H l'=some (.lst us')) (h:TgA p H us ss) (h':TgA p H us' ss) (q:Q (.bl false) H):rNeD K (.ref l) (.ref l') H Q:=by
 obtain ⟨a,da⟩:=steps_td hs h
 obtain ⟨b,_⟩:=steps_td hs h'
 refine ⟨.list (cK ss),.list (cK ss),.lst (SqL.of e) a.dt,.lst (SqL.of e') b.dt,by simp only [PyData.canLay0];exact a.lay,by simp only [PyData.canLay0];exact a.lay,BN (Nat.min_le_left _ _) (by simp only [PyData.depth];omega),?_⟩
 rw [show PyData.eqv (.list (cK ss)) (.list (cK ss))=true from by simp only [PyData.eqv];exact a.eqv]
 exact q
def uW:Sp:=fun vs H Q _=>∃ p:Addr,vs=[.ref p]/\Strm H p/\∀ H',But p H H'->Q (.bl true) H'
theorem kb {t:Th} (h:LitT t):run (.st true) (cZ (fH t))=true:=fO (by rw [h.rd];exact h.ok.1)
theorem wW {p:Addr} {H:Hp} {t:Th} (h:LitT t):InL p H (.str (S (fH t))) (some t):=by
 have:=InL.good (p:=p) (H:=H) (S (fH t)) (by rw [cF];have:=iB h;omega) (by rw [h.rd];exact h)
 rwa [h.rd] at this
theorem wX {p:Addr} {H:Hp} {t:Th} {o:List Nat} (h:LitT t) (hs:j9 (fH t) o):InL p H (.str (S o)) none:=.bad (S o) (by rw [cF];have:=iB h;have:=qY (kb h) hs;omega) (uf (kb h) hs)
section
variable {P:Program} {w:World} {K:PySem.W.Frag} {mg:Str->Option Value} {base:Heap} {C fi:Nat->Addr} {R fR cL fL cB cT fT:Addr}
theorem scAll:aq ["_law_stream_here","_law_told","_law_text","_law_made","_law_steps","_law_other","_law_k","_law_thing"] ["_law_stream_here"] (al sj):=⟨rfl,rfl,rfl,by decide +kernel,rfl,by decide +kernel,by decide +kernel⟩
theorem zh:(["_law_step_here"]:List Str).Nodup:=by decide +kernel
set_option maxHeartbeats 8000000 in
theorem wY {f:Addr} {fd:FuncData} (F:Fun K "_law_all" "_law_all" sj f fd) (B:Bl mg) (L:Lc K cT) (L2':Lk K cT) (mk_:Mk K cT fT) (mT:mg "Little"=some (.ref cT)) (I0:gf P w K mg base fT ["self","steps","on"] (ms cT)) (M:zB P w K mg base C) (TA:Fn P w K mg base "_law_take" 1 ["_law_stream_here","_law_many"] di)
  (LL:Fn P w K mg base "_law_little" 4 ["_law_stream_here","_law_most"] (gT LitT)) (LT:Fn P w K mg base "_law_little_text" 3 ["_law_told"] y0) (LO:Fn P w K mg base "little_of" 7 ["told"] (qL C cT)) (SA:Fn P w K mg base "_law_said" 9 ["_law_text"] (re C cT)) (SP:Fn P w K mg base "_law_spoilt" 3 ["_law_text","_law_stream_here"] uV)
  (TO:gG P w K mg base cT "told" 2 ["self"] (nB C cT)) (WO:gG P w K mg base cT "words" 3 ["self"] (qK C cT)):aI P w K mg base bE 10 f fd ["_law_stream_here"] uW:=by
 refine F.ok scAll (fun vs H Q E h=>?_) (fun cdv A outer s H vs Q E hr h=>?_)
 ·obtain ⟨p,rfl,_⟩:=h
  rfl
 ·obtain ⟨p,rfl,hp,q⟩:=h
  have hr1:Room 1 _:=hr.mono (by decide)
  have hr2:Room 2 _:=hr.mono (by decide)
  have hr3:Room 3 _:=hr.mono (by decide)
  have hr4:Room 4 _:=hr.mono (by decide)
  have hr7:Room 7 _:=hr.mono (by decide)
  have sz:(100000:Nat)<=sizeLine:=by decide
  obtain ⟨f2,fd2,m2,F2,b2⟩:=TO
  obtain ⟨f3,fd3,m3,F3,b3⟩:=WO
  obtain ⟨fd0,F0,b0⟩:=I0
  refine ⟨_,(ak (a6 (i:=1) scAll.nd rfl (Or.inl rfl) (ao LL hr4 rfl (aa (pv 0) (aa ad ac))))
   (ak (a6 (i:=2) scAll.nd rfl (Or.inl rfl) (ao LT hr3 rfl (aa (pv 1) ac)))
   (ak (a6 (i:=3) scAll.nd rfl (Or.inl rfl) (ao LO hr7 rfl (aa (pv 1) ac)))
   (ak (aH (PW.pt (cM (cw (aV (aJ (qI (K:=K) rfl) (by rfl) B.isinstance bG (aa (pv 3) (aa (bB (v:=.ref cT) rfl mT rfl) ac))))) (cM (ax (op_neD hr) (cD (P:=P) (w:=w) (K:=K) (mg:=mg) (base:=base) (k:=2) rfl rfl rfl rfl rfl hr2 (pv 3)) (pv 1) (aB _)) (cm (ax km (cD (P:=P) (w:=w) (K:=K) (mg:=mg) (base:=base) (k:=3) rfl rfl rfl rfl rfl hr3 (pv 3)) (pv 2) (aB _)))))) (ah (am fb)) aw)
   (ak (aH (PW.pt (cM (cw (aV (aJ (cS (T:="tuple")) (by rfl) B.isinstance bG (aa (aU (pv 3) rfl) (aa (dY (by rfl) B.tuple bh) ac))))) (cm (ax (op_neD hr) (aU (pv 3) rfl) (ap au (pv 1) ad (fun _ _=>rfl)) (aB _))))) (ah (am fb)) aw)
   (ak (aH (PW.pt (cM (ax (op_neD hr) (fc (N':=["_law_step_here"]) (ix:=[none]) (sc0:=al sj) (N:=["_law_stream_here","_law_told","_law_text","_law_made","_law_steps","_law_other","_law_k","_law_thing"]) rfl (by decide +kernel) (fh (aU (pv 3) rfl))
     (fun C' cl s H fp=>bt (i:=0) zh rfl (Or.inl rfl) (.inr rfl)) (fun _ _ _ _ _=>df) (fun C' cl s H fp=>(cD (P:=P) (w:=w) (K:=K) (mg:=mg) (base:=base) (k:=1) rfl rfl rfl rfl rfl hr1 (pv 0)))) (aY dH (by rfl) B.list dN (aa (ap au (pv 1) ad (fun _ _=>rfl)) ac)) (aB _)) (cm (ax (op_neD hr) (ao SA hr rfl (aa (pv 2) ac)) (aC (aa af (aa (pv 1) ac))) (aB _))))) (ah (am fb)) aw)
   (ak (a6 (i:=4) scAll.nd rfl (Or.inl rfl) (aY dH (by rfl) B.list dN (aa (aU (pv 3) rfl) ac)))
   (ak (a6 (i:=5) scAll.nd rfl (Or.inl rfl) (cN mk_ F0 hr2 rfl mT b0 .nil c7 (aa (pv 4) (aa (ap au (pv 1) ad (fun _ _=>rfl)) ac))))
   (ak (eT (bV CB Cy Cv eV (pv 4) (aa ef ac)))
   (ak (aH (PW.pt (cM (cw (aV (aJ (cS (T:="tuple")) (by rfl) B.isinstance bG (aa (aU (pv 5) rfl) (aa (dY (by rfl) B.tuple bh) ac))))) (cM (ax (op_neD hr) (cD (P:=P) (w:=w) (K:=K) (mg:=mg) (base:=base) (k:=2) rfl rfl rfl rfl rfl hr2 (pv 5)) (pv 1) (aB _)) (cm (ax km (cD (P:=P) (w:=w) (K:=K) (mg:=mg) (base:=base) (k:=3) rfl rfl rfl rfl rfl hr3 (pv 5)) (pv 2) (aB _)))))) (ah (am fb)) aw)
   (ak (lF PassesOwn.never rfl (gk rfl B.range (aa ad ac)) (bt (i:=6) scAll.nd rfl (Or.inl rfl)) (ah (aH (ax (op_neD hr) (ao SA hr rfl (aa (ao SP hr3 rfl (aa (pv 2) (aa (pv 0) ac))) ac)) (aC (aa af (aa ad ac))) (aB _)) (ah (am fb)) aw)))
   (ak (a6 (i:=7) scAll.nd rfl (Or.inl rfl) (ap ay (bp (aa ef (aa ad (aa (bp (aa (pv 2) ac)) (aa (aC (aa (pv 2) ac)) (aa af (aa (pv 1) (aa af ac)))))))) (ao TA hr1 rfl (aa (pv 0) (aa ad ac))) (fun _ _=>rfl)))
   (ah (am (bI (cz (op_eqD hr) (ao SA hr rfl (aa (pv 7) ac)) (aC (aa af (aa ad ac))) (aB _)) (bU (cz (op_eqD hr) (ao SA hr rfl (aa (pv 2) ac)) (aC (aa af (aa (pv 1) ac))) (aB _)))))))))))))))))),?_⟩
  refine ⟨_,rfl,p,rfl,hp,fun v t H1 tv lt g1 b1=>?_⟩
  refine ⟨_,rfl,p,v,t,rfl,tv,lt,fun H2 s2=>?_⟩
  refine ⟨_,rfl,p,v,t,rfl,tv.same s2,lt,fun m H3 s3 lo=>?_⟩
  have A3:AL C cT p v m t H3:=⟨(g1.same s2).same s3,(tv.same s2).same s3,lo⟩
  have B3:But p H H3:=(b1.same s2).same s3
  have ltl:=iB lt
  have ww:=kb lt
  have lin:∀ H',InL p H' (.str (S (fH t))) (some t):=fun H'=>wW lt
  have lsp:∀ o H',j9 (fH t) o->InL p H' (.str (S o)) none:=fun o H' h=>wX lt h
  have ltd:∀ {H':Hp} {u:V},TgV p H' u t->Td H' u (dZ t)/\(dZ t).depth<=8:=fun h=>lt.td h
  have ltt:∀ {H':Hp} {u:V} {r:Addr},H' r=some (.tup [.str "told",u])->TgV p H' u t->Td H' (.ref r) (.tuple [.str "told",dZ t])/\(PyData.tuple [.str "told",dZ t]).depth<=10:=fun e h=>told_td lt e h
  generalize etx:fH t=tx at *
  cases lo with
  | mk a dx tp us o ss on e e2 ps to ho hl hs=>
  have tvv:=A3.tv
  cases tvv with
  | @tup av xs _ e0 ta=>
  obtain ⟨x,y,tx',ty,rfl,ets,hx,hy⟩:=ta.two rfl
  cases ets
  cases hx with
  | @tup bv vs' _ eb tb=>
  refine ⟨_,rfl,.ref a,.ref cT,.ref cT,.ref cT,true,rfl,.ins e L.cls L2'.t1 L2'.t2 L2'.t3 L2'.t4,fun u h=>h,rc _,_,rfl,bo ?_⟩
  refine ⟨_,rfl,a,dx,cT,f2,_,fd2,_,_,rfl,e,rfl,L.cls,m2,F2,b2,p,_,_,rfl,A3.lo,fun r4 H4 s4 tg4=>⟨_,rfl,?_⟩⟩
  refine td_ne (ltd tg4).1 (ltd (A3.tv.same s4)).1 (by have:=(ltd tg4).2;omega) ⟨_,rfl,bo ?_⟩
  have A4:=A3.same s4
  refine ⟨_,rfl,a,dx,cT,f3,_,fd3,_,_,rfl,s4 _ _ e,rfl,L.cls,m3,F3,b3,p,_,_,rfl,A4.lo,fun H5 s5=>⟨_,rfl,rfl,_,rfl,?_⟩⟩
  rw [etx]
  refine aR (by rw [decide_eq_true rfl];rfl) ?_
  have s35:=s4.trans s5
  have A5:=A3.same s35
  refine ⟨_,rfl,a,cT,dx,_,_,rfl,s35 _ _ e,L.cls,L.n2,rfl,o,_,true,rfl,(to.same s35).ty,by rw [kit_tup,ho.isTup],_,rfl,bo ?_⟩
  refine ⟨_,rfl,a,cT,dx,_,_,rfl,s35 _ _ e,L.cls,L.n2,rfl,_,rfl,av,_,_,_,rfl,rfl,SqT.of (s35 _ _ e0),rfl,?_⟩
  refine td_ne (ho.td (to.same s35)).1 (ho.td (hy.same s35)).1 (by have:=(ho.td to).2;omega) ⟨_,rfl,bo ?_⟩
  have lus:=ps.length
  refine ⟨_,rfl,a,cT,dx,_,_,rfl,s35 _ _ e,L.cls,L.n1,rfl,tp,rfl,⟨_,SqT.of (s35 _ _ e2)⟩,?_⟩
  refine gp (K:=K) (a:=tp) (xs:=us) (fun i ys H'=>Same H5 H'/\ys.length=i/\TgA p H' ys (ss.take i)) ⟨Same.refl _,rfl,.nil⟩ (fun i ys H' hi ⟨s',e',_⟩=>⟨SqT.of (s' _ _ (s35 _ _ e2)),by omega⟩) ?_ ?_
  ·rintro i z ys H6 hz ⟨s6,hl3,tg⟩
   have hlt:i < us.length:=(BM.mp hz).1
   obtain ⟨t,et,st⟩:=tG ps hz
   have st:=st.same (s35.trans s6)
   cases st with
   | mk k a2 dx2 m7 ts hk e3 l3 ta sp=>
    obtain ⟨f4,fd4,m4,F4,b4⟩:=M.told k hk
    refine ⟨trivial,dh ⟨_,rfl,a2,dx2,C k,f4,_,fd4,_,_,rfl,e3,gg (jX k).1,M.cls k hk,m4,F4,b4,a2,dx2,m7,rfl,e3,l3,fun r nr=>?_⟩⟩
    have s7:=aj (o:=.tup (.str (mZ k)::m7)) nr
    refine Nx.mk hlt ⟨s6.trans s7,by rw [By,hl3];rfl,?_⟩
    rw [Cs,et]
    exact (tg.same s7).snoc (.tup ae (.cons (.str _) (ta.same s7)))
  rintro ys H6 ⟨s6,hl3,tg⟩ D nD
  rw [lus,B1] at tg
  have s7:=aj (o:=.lst ys) nD
  have e7:(az H6 D (.lst ys)) D=some (.lst ys):=ae
  generalize az H6 D (.lst ys)=H7 at *
  have s37:=(s35.trans s6).trans s7
  refine ⟨_,rfl,av,_,_,_,rfl,rfl,SqT.of (s37 _ _ e0),rfl,bv,_,rfl,.inr (SqT.of (s37 _ _ eb)),fun l8 n8=>?_⟩
  have s8:=aj (o:=.lst vs') n8
  have e8:(az H7 l8 (.lst vs')) l8=some (.lst vs'):=ae
  generalize az H7 l8 (.lst vs')=H8 at *
  have s38:=s37.trans s8
  refine wV hs (s8 _ _ e7) e8 (tg.same (s7.trans s8)) (tb.same s38) ⟨_,rfl,bo ?_⟩
  refine ⟨_,rfl,p,_,_,rfl,lin _,fun z=>(nomatch z),fun t' eo r9 u9 H9 s9 er9 tu9=>?_⟩
  cases eo
  have s39:=s38.trans s9
  refine ⟨_,rfl,(by show 2<=sizeLine;decide),fun r10 n10=>?_⟩
  have s10:=aj (o:=.tup [.str "told",.ref av]) n10
  have e10:(az H9 r10 (.tup [.str "told",.ref av])) r10=some (.tup [.str "told",.ref av]):=ae
  generalize az H9 r10 (.tup [V.str "told",.ref av])=H10 at *
  have s310:=s39.trans s10
  have A10:=A3.same s310
  refine td_ne (ltt (s10 _ _ er9) (tu9.same s10)).1 (ltt e10 A10.tv).1 (ltt e10 A10.tv).2 ⟨_,rfl,bo ?_⟩
  refine ⟨_,rfl,a,cT,dx,_,_,rfl,s310 _ _ e,L.cls,L.n1,rfl,tp,us,rfl,.inr (SqT.of (s310 _ _ e2)),fun sl nsl=>?_⟩
  have s11:=aj (o:=.lst us) nsl
  have e11:(az H10 sl (.lst us)) sl=some (.lst us):=ae
  have nesl:=(A10.g.ne nsl).symm
  generalize az H10 sl (.lst us)=H11 at *
  have s311:=s310.trans s11
  refine ⟨_,rfl,_,rfl,av,_,_,_,rfl,rfl,SqT.of (s311 _ _ e0),rfl,fun x0 dx0 nx nd ne=>⟨x0,dx0,sl,us,_,rfl,ae,?_,fun tp0 np=>?_⟩⟩
  ·exact aA nx (aj nd) _ _ e11
  refine ⟨rfl,?_⟩
  have hx0:tp0≠x0:=by
   rintro rfl
   rw [ae] at np
   cases np
  have s12:Same H11 (az (az (az (az (az H11 dx0 (.own x0)) x0 (.ins cT dx0 [])) tp0 (.tup us)) x0 (.ins cT dx0 [("steps",.ref tp0)])) x0 (.ins cT dx0 [("steps",.ref tp0),("on",y)])):=aA nx (aA nx ((aA nx (aj nd)).trans (aj np)))
  have e12:(az (az (az (az (az H11 dx0 (.own x0)) x0 (.ins cT dx0 [])) tp0 (.tup us)) x0 (.ins cT dx0 [("steps",.ref tp0)])) x0 (.ins cT dx0 [("steps",.ref tp0),("on",y)])) x0=some (.ins cT dx0 [("steps",.ref tp0),("on",y)]):=ae
  have e12t:(az (az (az (az (az H11 dx0 (.own x0)) x0 (.ins cT dx0 [])) tp0 (.tup us)) x0 (.ins cT dx0 [("steps",.ref tp0)])) x0 (.ins cT dx0 [("steps",.ref tp0),("on",y)])) tp0=some (.tup us):=by rw [aG hx0,aG hx0];exact ae
  generalize (az (az (az (az (az H11 dx0 (HO.own x0)) x0 (.ins cT dx0 [])) tp0 (.tup us)) x0 (.ins cT dx0 [("steps",.ref tp0)])) x0 (.ins cT dx0 [("steps",.ref tp0),("on",y)]))=H12 at *
  have s312:=s311.trans s12
  have A12:=A3.same s312
  have O12:LiO C cT p H12 (.ref x0) (.tup [.tup ss,on]):=.mk x0 dx0 tp0 us y ss on e12 e12t (L2.Paired.mapP ps fun _ _ h=>h.same s312) (hy.same s312) ho hl hs
  have e12s:=s12 _ _ e11
  refine ⟨_,rfl,.inl ⟨rfl,_,SqL.of e12s⟩,sl,_,_,rfl,rfl,e12s,by omega,?_⟩
  have kk:Kp H12 (az H12 sl (.lst (us++[.non]))):=Kp.lst e12s
  have A13:AL C cT p (.ref av) (.ref a) (.tup [.tup ss,on]) (az H12 sl (.lst (us++[.non]))):=⟨by
   obtain ⟨x,y,z,ex⟩:=A12.g
   exact ⟨x,y,z,by rw [aG nesl.symm];exact ex⟩,lt.kp A12.tv kk,A12.lo.kp kk⟩
  have O13:LiO C cT p (az H12 sl (.lst (us++[.non]))) (.ref x0) (.tup [.tup ss,on]):=O12.kp kk
  have e13:=kk.i _ _ _ _ e12
  have e13t:=kk.t _ _ e12t
  have B13:But p H (az H12 sl (.lst (us++[.non]))):=fun b u eb nb=>by
   have h10:=(B3.same s310) b u eb nb
   rw [aG (aS h10 nsl)]
   exact (s11.trans s12) _ _ h10
  generalize az H12 sl (.lst (us++[V.non]))=H13 at *
  refine ⟨_,rfl,x0,cT,dx0,_,_,rfl,e13,L.cls,L.n1,rfl,.ref tp0,_,true,rfl,.tup e13t,rfl,_,rfl,bo ?_⟩
  refine ⟨_,rfl,x0,dx0,cT,f2,_,fd2,_,_,rfl,e13,rfl,L.cls,m2,F2,b2,p,_,_,rfl,O13,fun r14 H14 s14 tg14=>⟨_,rfl,?_⟩⟩
  refine td_ne (ltd tg14).1 (ltd (A13.tv.same s14)).1 (by have:=(ltd tg14).2;omega) ⟨_,rfl,bo ?_⟩
  refine ⟨_,rfl,x0,dx0,cT,f3,_,fd3,_,_,rfl,s14 _ _ e13,rfl,L.cls,m3,F3,b3,p,_,_,rfl,O13.same s14,fun H15 s15=>⟨_,rfl,rfl,_,rfl,?_⟩⟩
  rw [etx]
  refine aR (by rw [decide_eq_true rfl];rfl) ?_
  have A15:=(A13.same s14).same s15
  have B15:=(B13.same s14).same s15
  refine ⟨3,rfl,by decide,by decide,?_⟩
  refine iJ (n:=3) (fun i σ H'=>∃ v6,σ=[some (.ref p),some (.ref av),some (.str (S tx)),some (.ref a),some (.ref sl),some (.ref x0),v6,none]/\AL C cT p (.ref av) (.ref a) (.tup [.tup ss,on]) H'/\But p H H') ⟨_,rfl,A15,B15⟩ ?_ ?_
  ·rintro i σ H16 hi ⟨v6,rfl,A16,B16⟩
   refine ⟨_,rfl,_,rfl,p,tx,rfl,ltl,ww,A16.g,fun o' H17 hsp g17 b17=>?_⟩
   have A17:=A16.but g17 b17
   refine ⟨p,_,_,rfl,lsp o' _ hsp,fun _ r18 H18 s18 er18=>?_,fun t' eo=>(nomatch eo)⟩
   refine ⟨(by show 2<=sizeLine;decide),fun r19 n19=>?_⟩
   have s19:=aj (o:=.tup [.str "bad",.int 0]) n19
   have e19:(az H18 r19 (.tup [.str "bad",.int 0])) r19=some (.tup [.str "bad",.int 0]):=ae
   generalize az H18 r19 (.tup [V.str "bad",.int 0])=H19 at *
   exact bad_ne (s19 _ _ er18) e19 ⟨_,rfl,bo ⟨_,rfl,(A17.same s18).same s19,((B16.trans b17).same s18).same s19⟩⟩
  rintro σ H16 ⟨v6,rfl,A16,B16⟩
  refine ⟨_,rfl,(by show 1<=sizeLine;decide),fun la na=>?_⟩
  have sa:=aj (o:=.lst [V.str (S tx)]) na
  have ea:(az H16 la (.lst [V.str (S tx)])) la=some (.lst [V.str (S tx)]):=ae
  have nea:=(A16.g.ne na).symm
  generalize az H16 la (.lst [V.str (S tx)])=Ha at *
  refine ⟨_,rfl,(by show 1<=sizeLine;decide),fun lb nb=>?_⟩
  have sb:=aj (o:=.tup [V.str (S tx)]) nb
  have eb':(az Ha lb (.tup [V.str (S tx)])) lb=some (.tup [V.str (S tx)]):=ae
  have neb:=((A16.g.same sa).ne nb).symm
  generalize az Ha lb (.tup [V.str (S tx)])=Hb at *
  refine ⟨_,rfl,(by show 7<=sizeLine;decide),fun lc nc=>?_⟩
  have sc:=aj (o:=.lst [V.non,.int 3,.ref la,.ref lb,.str "",.ref av,.str "-"]) nc
  have ec:(az Hb lc (.lst [V.non,.int 3,.ref la,.ref lb,.str "",.ref av,.str "-"])) lc=some (.lst [V.non,.int 3,.ref la,.ref lb,.str "",.ref av,.str "-"]):=ae
  have nec:=(((A16.g.same sa).same sb).ne nc).symm
  generalize az Hb lc (.lst [V.non,.int 3,.ref la,.ref lb,.str "",.ref av,.str "-"])=Hc at *
  have Ac:=((A16.same sa).same sb).same sc
  have Bc:But p H Hc:=((B16.same sa).same sb).same sc
  refine ⟨_,rfl,p,7,rfl,Ac.g,by decide,by decide,fun k Hd lk gd bd=>?_⟩
  have Ad:=Ac.but gd bd
  have Bd:=Bc.trans bd
  have thing:∃ v,iV [V.non,.int 3,.ref la,.ref lb,.str "",.ref av,.str "-"] (k:Int)=some v/\InL p Hd v none:=by
   rcases (by omega:k=0\/k=1\/k=2\/k=3\/k=4\/k=5\/k=6) with rfl|rfl|rfl|rfl|rfl|rfl|rfl
   ·exact ⟨_,rfl,.no .non rfl⟩
   ·exact ⟨_,rfl,.no (.int 3) rfl⟩
   ·exact ⟨_,rfl,.no (.lst nea (bd _ _ (sc _ _ (sb _ _ ea)) nea) (.cons (.str _) .nil)) rfl⟩
   ·exact ⟨_,rfl,.no (.tup (bd _ _ (sc _ _ eb') neb) (.cons (.str _) .nil)) rfl⟩
   ·exact ⟨_,rfl,.bad "" (by decide +kernel) (by decide +kernel)⟩
   ·exact ⟨_,rfl,.no Ad.tv rfl⟩
   ·exact ⟨_,rfl,.bad "-" (by decide +kernel) (by decide +kernel)⟩
  obtain ⟨v,ev,inv⟩:=thing
  refine ⟨lc,_,_,_,rfl,rfl,SqL.of (bd _ _ ec nec),ev,?_⟩
  refine ⟨_,rfl,p,v,none,rfl,inv,fun _ r17 H17 s17 er17=>?_,fun t' eo=>(nomatch eo)⟩
  refine ⟨(by show 2<=sizeLine;decide),fun r18 n18=>?_⟩
  have s18:=aj (o:=.tup [.str "bad",.int 0]) n18
  have e18:(az H17 r18 (.tup [.str "bad",.int 0])) r18=some (.tup [.str "bad",.int 0]):=ae
  generalize az H17 r18 (.tup [V.str "bad",.int 0])=H18 at *
  refine bad_eq (s18 _ _ er17) e18 ⟨_,rfl,bY ?_⟩
  have A18:=(Ad.same s17).same s18
  have B18:=(Bd.same s17).same s18
  refine ⟨_,rfl,p,_,_,rfl,lin _,fun z=>(nomatch z),fun t' eo r19 u19 H19 s19 er19 tu19=>?_⟩
  cases eo
  refine ⟨_,rfl,(by show 2<=sizeLine;decide),fun r20 n20=>?_⟩
  have s20:=aj (o:=.tup [.str "told",.ref av]) n20
  have e20:(az H19 r20 (.tup [.str "told",.ref av])) r20=some (.tup [.str "told",.ref av]):=ae
  generalize az H19 r20 (.tup [V.str "told",.ref av])=H20 at *
  have A20:=(A18.same s19).same s20
  exact td_eq (ltt (s20 _ _ er19) (tu19.same s20)).1 (ltt e20 A20.tv).1 (ltt e20 A20.tv).2 (q _ ((B18.same s19).same s20))
end
end L3
namespace L3
open PySem L2
def rq (K:PySem.W.Frag):Sp:=fun vs H Q _=>∃ (a:Addr) (ns:List Int),vs=[.ref a]/\SqL K H a (ns.map V.int)/\ns.length<=63/\∀ H',Q (.bl true) H'
theorem uo {p:Addr} {H H2 H3:Hp} (s:Same H H2) (hp:H p=none) (b:But p H2 H3):Same H H3:=fun c u e=>b c u (s c u e) (aS e hp)
theorem Bs {cL R cB:Addr} (h1:(cB == cL)=false) (h2:(cB == R)=false):(Value.ref cL::kg R).contains (.ref cB)=false:=by
 have n1:cB≠cL:=by simpa using h1
 have n2:cB≠R:=by simpa using h2
 simp [List.contains_cons,XB.bmV,n1,n2]
section
variable {P:Program} {w:World} {K:PySem.W.Frag} {mg:Str->Option Value} {base:Heap}
theorem scLaw:aq ["_law_script","_law_k"] ["_law_script"] (al oj):=⟨rfl,rfl,rfl,by decide +kernel,rfl,by decide +kernel,by decide +kernel⟩
set_option maxHeartbeats 4000000 in
theorem wZ {f:Addr} {fd:FuncData} (F:Fun K "law" "law" oj f fd) (B:Bl mg) (CL:Fn P w K mg base "_law_cell" 1 ["_law_script","_law_k"] (mh K)) (ST:Fn P w K mg base "_law_stream" 1 ["_law_cell_here"] hX) (AL:Fn P w K mg base "_law_all" 10 ["_law_stream_here"] uW):aI P w K mg base bE 11 f fd ["_law_script"] (rq K):=by
 refine F.ok scLaw (fun vs H Q E h=>?_) (fun cdv A outer s H vs Q E hr h=>?_)
 ·obtain ⟨a,ns,rfl,_⟩:=h
  rfl
 ·obtain ⟨l,ns,rfl,hS,hlen,q⟩:=h
  have hr1:Room 1 _:=hr.mono (by decide)
  refine ⟨_,ak (lF PassesOwn.never rfl (gk rfl B.range (aa (aJ (nV rfl) (by rfl) B.max PyProof.Rows.boot_max (aa ad (aa (aJ (nW rfl) (by rfl) B.min PyProof.Rows.boot_min (aa (aJ bc (by rfl) B.len B5 (aa (pv 0) ac)) (aa ad ac))) ac))) ac)) (bt (i:=1) scLaw.nd rfl (Or.inl rfl))
    (ah (aH (cw (aV (ao AL hr rfl (aa (ao ST hr1 rfl (aa (ao CL hr1 rfl (aa (pv 0) (aa (pv 1) ac))) ac)) ac)))) (ah (am fb)) aw)))
   (ah (am fb)),?_⟩
  refine ⟨_,rfl,l,_,rfl,.inl hS,_,_,rfl,_,_,rfl,_,rfl,?_,?_,?_⟩
  ·split<;>(try split)<;>omega
  ·rw [BE];split<;>(try split)<;>omega
  refine iJ (lo:=0) (fun i σ H2=>∃ v1:Option V,σ=[some (.ref l),v1]/\Same H H2) ⟨_,rfl,Same.refl _⟩ ?_ ?_
  ·rintro i σ H1 hi ⟨v1,rfl,s1⟩
   refine ⟨_,rfl,_,rfl,l,ns,0+(i:Int),rfl,s1.seq hS,by omega,fun c=>⟨c,rfl,fun p H2 np s2 g2=>?_⟩⟩
   exact ⟨p,rfl,g2,fun H3 b3=>⟨_,rfl,bo ⟨_,rfl,s1.trans (uo s2 np b3)⟩⟩⟩
  ·rintro σ H1 ⟨v1,rfl,s1⟩
   exact q _
end
end L3
namespace L3
open PySem L2
def aX (K:PySem.W.Frag) (x:Str) (st:Stmt) (f:Addr):Prop:=
 PySem.W.nsIn K mainGlobals x=some (some (.ref f))/\∃ fd:FuncData,Fun K x x st f fd
theorem w8 {K:PySem.W.Frag} {x:Str} {st:Stmt} {f:Addr} {oc:Value} {od an:Option Addr} {osl:Array (Option Value)} {kV doc pm cdv ct:Value} (a:PySem.W.nsIn K mainGlobals x=some (some (.ref f)))
  (l:K.lookup f=some ⟨oc,od,.func (PySem.W.fnOf x x (cq st) (bX st) (al st) .none kV doc pm an cdv ct),osl⟩) (c:PySem.W.codeIn K cdv x=true) (k:PySem.W.keepIn K (.ref f)=true):aX K x st f:=⟨a,_,pc l c k⟩
theorem aZ {P:Program} {w:World} {K:PySem.W.Frag} {mg:Str->Option Value} {base h:Heap} {x:Str} {st:Stmt} {f:Addr} {k:Nat} {ps:List Str} {sp:Sp} (X:K.In h) (G:h.Ns mainGlobals mg) (D:aX K x st f)
  (hb:∀ (kV doc pm:Value) (an:Option Addr) (cdv ct:Value) (us:List Value),us.length=ps.length->bindArgs (PySem.W.fnOf x x (cq st) (bX st) (al st) .none kV doc pm an cdv ct) ⟨us,[]⟩=pure (ps.zip us))
  (ok:∀ fd,Fun K x x st f fd->aI P w K mg base bE k f fd ps sp):Fn P w K mg base x k ps sp:=by
 obtain ⟨a,fd,F⟩:=D
 exact ⟨f,fd,BS X G a,F.kp,F.binds hb,ok fd F⟩
structure gj (K:PySem.W.Frag) (x qual:Str) (st:Stmt) (f:Addr):Prop where
 fu:∃ fd:FuncData,Fun K x qual st f fd
 fn:PySem.W.isFn K (.ref f)=true
theorem xb {K:PySem.W.Frag} {x qual:Str} {st:Stmt} {f:Addr} {oc:Value} {od an:Option Addr} {osl:Array (Option Value)} {kV doc pm cdv ct:Value}
  (l:K.lookup f=some ⟨oc,od,.func (PySem.W.fnOf x qual (cq st) (bX st) (al st) .none kV doc pm an cdv ct),osl⟩) (c:PySem.W.codeIn K cdv qual=true) (k:PySem.W.keepIn K (.ref f)=true) (n:PySem.W.isFn K (.ref f)=true):gj K x qual st f:=⟨⟨_,pc l c k⟩,n⟩
theorem eR {P:Program} {w:World} {K:PySem.W.Frag} {mg:Str->Option Value} {base:Heap} {f:Addr} {x qual:Str} {st:Stmt} {ps:List Str} {sp:Sp} (D:gj K x qual st f)
  (hb:∀ (kV doc pm:Value) (an:Option Addr) (cdv ct:Value) (us:List Value),us.length=ps.length->bindArgs (PySem.W.fnOf x qual (cq st) (bX st) (al st) .none kV doc pm an cdv ct) ⟨us,[]⟩=pure (ps.zip us))
  (ok:∀ fd,Fun K x qual st f fd->aI P w K mg base bE 1 f fd ps sp):∃ fd,aI P w K mg base bE 1 f fd ps sp/\Binds K fd ps []:=by
 obtain ⟨⟨fd,F⟩,n⟩:=D
 exact ⟨fd,ok fd F,F.binds hb⟩
structure zC (K:PySem.W.Frag) (nm:Str) (bm:List Value) (C:Addr):Prop where
 ns:PySem.W.nsIn K mainGlobals nm=some (some (.ref C))
 c:XC K C nm bm
theorem xc {K:PySem.W.Frag} {nm:Str} {bm:List Value} {C:Addr} {q:Str} {N:Addr} {bs:List Value} {sn:List Str} {sub:List Value} {ab:Bool} {col:Option Bool} {dd:Option Addr} {k0 k1 k2 k3 k5:Option Value} (tl:XB.Tail bm) (a:PySem.W.nsIn K mainGlobals nm=some (some (.ref C))) (l:K.lookup C=some (excClassObj nm q C N bs bm true sn sub ab col dd k0 k1 k2 k3 k5 "ValueError.__new__"))
  (g1:PySem.W.findIn K (.ref C) "__getattribute__"=some (some (.builtin "BaseException.__getattribute__"))) (g2:PySem.W.findIn K (.ref C) "__getattr__"=some none) (g3:PySem.W.findIn K (.ref C) "__setattr__"=some (some (.builtin "object.__setattr__"))) (g4:PySem.W.findIn K (.ref C) "__class__"=some (some (.builtin "object.__class__"))):zC K nm bm C:=
 ⟨a,⟨tl,⟨q,N,bs,sn,sub,ab,col,dd,k0,k1,k2,k3,k5,l⟩,g1,g2,g3,g4⟩⟩
theorem Bt:XB.Tail XB.bmV:=.inl rfl
theorem Bu {R:Addr}:XB.Tail (kg R):=.inr ⟨R,rfl⟩
def NaAll (K:PySem.W.Frag) (c:Addr):List Str->Prop
 | []=>True
 | f::r=>NoAttr K c f/\NaAll K c r
theorem NaAll.get {K:PySem.W.Frag} {c:Addr}:∀ {l:List Str},NaAll K c l->∀ f∈l,NoAttr K c f
 | [],_,f,hf=>absurd hf (by simp)
 | g::r,h,f,hf=>by
  rcases BH.mp hf with rfl|hf
  ·exact h.1
  ·exact NaAll.get h.2 f hf
structure CK (K:PySem.W.Frag) (n:Str) (c i td wd:Addr) (fl:List Str):Prop where
 ns:PySem.W.nsIn K mainGlobals n=some (some (.ref c))
 cls:Cls K c
 na:NaAll K c fl
 mk_:Mk K c i
 td_:PySem.W.findIn K (.ref c) "told"=some (some (.ref td))
 wd_:PySem.W.findIn K (.ref c) "words"=some (some (.ref wd))
theorem zi {K:PySem.W.Frag} {n:Str} {c i td wd:Addr} {fl:List Str} (ns:PySem.W.nsIn K mainGlobals n=some (some (.ref c))) (g1:PySem.W.plainGet K c Str.empty=true) (g2:PySem.W.hasDictIn K c=true) (g3:PySem.W.plainOver K c=true)
  (g4:PySem.W.findIn K (.ref c) "__setattr__"=some (some (.builtin "object.__setattr__"))) (m1:PySem.W.makesIn K c=true) (m2:PySem.W.findIn K (.ref c) "__init__"=some (some (.ref i))) (m3:PySem.W.isFn K (.ref i)=true) (m4:PySem.W.keepIn K (.ref c)=true)
  (h7:PySem.W.findIn K (.ref c) "told"=some (some (.ref td))) (h8:PySem.W.findIn K (.ref c) "words"=some (some (.ref wd))) (na:NaAll K c fl):CK K n c i td wd fl:=
 ⟨ns,⟨g1,g2,g3,g4⟩,na,⟨m1,m2,m3,m4⟩,h7,h8⟩
theorem Bv {K:PySem.W.Frag} {c:Addr} {a b:Str} (x:PySem.W.findIn K (.ref c) a=some none) (y:PySem.W.findIn K (.ref c) b=some none):NaAll K c [a,b]:=⟨x,y,trivial⟩
theorem gA:∀ (zs:List Str) (ts:List Tok),ts.length=zs.length->Vals (zs.map V.str) ((zs.zip ts).map fun p=>Value.str p.1 p.2)
 | [],_,_=>.nil
 | z::r,[],h=>by cases h
 | z::r,t::u,h=>.cons ⟨t,rfl⟩ (gA r u (by simpa using h))
theorem b9 {P:Program} {w:World} {K:PySem.W.Frag} {mg:Str->Option Value} {base:Heap} {Cc f:Addr} {x qual:Str} {st:Stmt} {k:Nat} {ps:List Str} {sp:Sp} (a:PySem.W.findIn K (.ref Cc) x=some (some (.ref f))) (D:gj K x qual st f)
  (hb:∀ (kV doc pm:Value) (an:Option Addr) (cdv ct:Value) (us:List Value),us.length=ps.length->bindArgs (PySem.W.fnOf x qual (cq st) (bX st) (al st) .none kV doc pm an cdv ct) ⟨us,[]⟩=pure (ps.zip us))
  (ok:∀ fd,Fun K x qual st f fd->aI P w K mg base bE k f fd ps sp):gG P w K mg base Cc x k ps sp:=by
 obtain ⟨⟨fd,F⟩,n⟩:=D
 exact ⟨f,fd,⟨a,n,F.kp⟩,ok fd F,F.binds hb⟩
def ly (a b c d e f g:Addr):Nat->Addr
 | 0=>a
 | 1=>b
 | 2=>c
 | 3=>d
 | 4=>e
 | 5=>f
 | _=>g
theorem xp {p:Nat->Prop} (h0:p 0) (h1:p 1) (h2:p 2) (h3:p 3) (h4:p 4) (h5:p 5) (h6:p 6):∀ k,k < 7->p k:=by
 intro k hk
 rcases (by omega:k=0\/k=1\/k=2\/k=3\/k=4\/k=5\/k=6) with rfl|rfl|rfl|rfl|rfl|rfl|rfl<;>assumption
theorem xf {w:World} {K:PySem.W.Frag} {a f1 f2 f3 f4 f5 f6 f7 f8 f9:Addr} {t1 t2 t3 t4 t5 t6 t7 t8 t9:Tok} {ep:Nat}
  (h:K.lookup a=some { cls:=.type "dict",data:=.dict #[⟨PyData.keyHash w.params "+",.str "+" t1,.ref f1⟩,⟨PyData.keyHash w.params "-",.str "-" t2,.ref f2⟩,⟨PyData.keyHash w.params "&",.str "&" t3,.ref f3⟩,⟨PyData.keyHash w.params "|",.str "|" t4,.ref f4⟩,⟨PyData.keyHash w.params "^",.str "^" t5,.ref f5⟩,
   ⟨PyData.keyHash w.params "<<",.str "<<" t6,.ref f6⟩,⟨PyData.keyHash w.params ">>",.str ">>" t7,.ref f7⟩,⟨PyData.keyHash w.params "<",.str "<" t8,.ref f8⟩,⟨PyData.keyHash w.params "=",.str "=" t9,.ref f9⟩] ep }) :
  gP w K a [("+",.ref f1),("-",.ref f2),("&",.ref f3),("|",.ref f4),("^",.ref f5),("<<",.ref f6),(">>",.ref f7),("<",.ref f8),("=",.ref f9)]:=
 ⟨_,ep,h,.cons ⟨rfl,⟨_,rfl⟩,rfl⟩ (.cons ⟨rfl,⟨_,rfl⟩,rfl⟩ (.cons ⟨rfl,⟨_,rfl⟩,rfl⟩ (.cons ⟨rfl,⟨_,rfl⟩,rfl⟩ (.cons ⟨rfl,⟨_,rfl⟩,rfl⟩ (.cons ⟨rfl,⟨_,rfl⟩,rfl⟩ (.cons ⟨rfl,⟨_,rfl⟩,rfl⟩ (.cons ⟨rfl,⟨_,rfl⟩,rfl⟩ (.cons ⟨rfl,⟨_,rfl⟩,rfl⟩ .nil))))))))⟩
theorem kc {K:PySem.W.Frag} {a:Addr} {t1 t2 t3 t4 t5 t6 t7 t8 t9 t10 t11 t12 t13 t14 t15 t16 t17 t18 t19 t20 t21 t22:Tok} {n:Nat} (h:K.lookup a=some { cls:=.type "tuple",data:=.seq #[.str "word" t1,.str "cells" t2,.str "depth" t3,.str "places" t4,.str "marks" t5,.str "gate" t6,.str "kind" t7,.str "place" t8,.str "mark" t9,.str "number" t10,.str "row" t11,.str "set" t12,.str "if" t13,.str "else" t14,.str "top" t15,.str "next" t16,.str "go" t17,.str "call" t18,.str "back" t19,.str "stop" t20,.str "fault" t21,.str "bell" t22] n }):∀ H,SqT K H a (ownV):=fun H=>
 .inr ⟨_,_,n,h,rfl,rfl,(by show 22<=sizeLine;decide),gA ["word","cells","depth","places","marks","gate","kind","place","mark","number","row","set","if","else","top","next","go","call","back","stop","fault","bell"] [t1,t2,t3,t4,t5,t6,t7,t8,t9,t10,t11,t12,t13,t14,t15,t16,t17,t18,t19,t20,t21,t22] rfl⟩
theorem iG {K:PySem.W.Frag} {a:Addr} {t1 t2:Tok} {n:Nat} (h:K.lookup a=some { cls:=.type "tuple",data:=.seq #[.str "deep" t1,.str "bare" t2] n }):∀ H,SqT K H a (fauS.map V.str):=fun H=>
 .inr ⟨_,_,n,h,rfl,rfl,(by show 2<=sizeLine;decide),gA ["deep","bare"] [t1,t2] rfl⟩
theorem xg {P:Program} {w:World} {K:PySem.W.Frag} {mg:Str->Option Value} {base h:Heap} {x:Str} {st:Stmt} {f:Addr} {k:Nat} {ps:List Str} {sp:Sp} (X:K.In h) (G:h.Ns mainGlobals mg) (D:aX K x st f)
  (hb:∀ (kV doc pm:Value) (an:Option Addr) (cdv ct:Value) (us:List Value),us.length=ps.length->bindArgs (PySem.W.fnOf x x (cq st) (bX st) (al st) .none kV doc pm an cdv ct) ⟨us,[]⟩=pure (ps.zip us))
  (ok:∀ fd,Fun K x x st f fd->aI P w K mg base (rB P w) k f fd ps sp):A6 P w K mg base x k ps sp:=by
 obtain ⟨a,fd,F⟩:=D
 exact ⟨f,fd,BS X G a,F.kp,F.binds hb,ok fd F⟩
theorem uq {K:PySem.W.Frag} {c:Addr} (t:PySem.W.typeIn K (.ref c)=some (.type "type")) (i:PySem.W.isClsIn K c=true):PySem.W.kitOne K (.type "NoneType") (.ref c)=some false:=by
 have i':(PySem.W.clsIn K c).isSome=true:=i
 unfold PySem.W.kitOne
 rw [if_neg (by simp)]
 unfold PySem.W.kitCls
 dsimp only
 rw [if_pos (by rw [i',t];rfl)]
 rfl
set_option maxHeartbeats 8000000 in
theorem xh {l:PySem.W.OpenLaw} {w:World} {K:PySem.W.Frag} {h:Heap} {mg:Str->Option Value} {fa aW aF aO R fR cB cL fL cT iT qT wT f0 f1 f2 f3 f4 f5 f6 f7 f8 f9 f10 f11 f12 f13 f14 f15 f16 f17 f18 f19 f20 f21 f22 f23 f24 f25 f26 f27 f28 f29 f30 f31 f32 f33 f34 f35 f36 f37 f38 f39 f40 f41 f42 f43 f44 f45 f46 f47 c0 i0 q0 w0 c1 i1 q1 w1 c2 i2 q2 w2 c3 i3 q3 w3 c4 i4 q4 w4 c5 i5 q5 w5 c6 i6 q6 w6 e1 e2 e3 e4 e5 e6 e7 e8 e9:Addr} {kL kF k_HIGHEST_INNER k_HIGHEST_WORD k_HIGHEST_FIELD k_HIGHEST_SELECTED k_HIGHEST_ADDRESS k_MOST_STEPS k_LONGEST_NAME k_MOST_FIGURES:Tok} (X:K.In h) (G:h.Ns mainGlobals mg) (hfa:mg "law"=some (.ref fa))
  (d0:aX K "number_of" jF f0)
  (d1:aX K "is_whole" lT f1)
  (d2:aX K "is_within" jz f2)
  (d3:aX K "is_name" mV f3)
  (d4:aX K "ops_told" vz f4)
  (d5:aX K "is_headed" jA f5)
  (d6:aX K "is_inner" lU f6)
  (d7:aX K "is_field" lV f7)
  (d8:aX K "is_address" pM f8)
  (d9:aX K "is_sel" vA f9)
  (d10:aX K "is_source" jB f10)
  (d11:aX K "is_step" jC f11)
  (d12:aX K "is_end" lW f12)
  (d13:aX K "is_way_on" lX f13)
  (d14:aX K "is_little" eX f14)
  (d15:aX K "source_words" vC f15)
  (d16:aX K "place_words" vD f16)
  (d17:aX K "mark_words" vE f17)
  (d18:aX K "step_of" jD f18)
  (d19:aX K "on_words" vF f19)
  (d20:aX K "end_words" pQ f20)
  (d21:aX K "little_of" eY f21)
  (d22:aX K "read_little" lZ f22)
  (d23:aX K "little_told" mW f23)
  (d24:aX K "step_told" l6 f24)
  (d25:aX K "on_told" pR f25)
  (d26:aX K "end_told" l7 f26)
  (d27:aX K "inner_told" pS f27)
  (d28:aX K "sel_told" ma f28)
  (d29:aX K "source_told" md f29)
  (d30:aX K "number_behind" jG f30)
  (d31:aX K "_law_cell" pN f31)
  (d32:aX K "_law_stream" jE f32)
  (d33:aX K "_law_take" pO f33)
  (d34:aX K "_law_sel" pP f34)
  (d35:aX K "_law_source" hU f35)
  (d36:aX K "_law_step" lY f36)
  (d37:aX K "_law_on" vB f37)
  (d38:aX K "_law_little" fW f38)
  (d39:aX K "_law_part_text" jH f39)
  (d40:aX K "_law_step_text" jI f40)
  (d41:aX K "_law_on_text" pU f41)
  (d42:aX K "_law_little_text" jJ f42)
  (d43:aX K "_law_odd_word" pV f43)
  (d44:aX K "_law_spoilt" hW f44)
  (d45:aX K "_law_said" me f45)
  (d46:aX K "_law_all" sj f46)
  (d47:aX K "law" oj f47)
  (C0:CK K "Get" c0 i0 q0 w0 ["to","sel"]) (I0:gj K "__init__" "Get.__init__" z8 i0) (Q0:gj K "told" "Get.told" v8 q0) (W0:gj K "words" "Get.words" Aw w0)
  (C1:CK K "Ask" c1 i1 q1 w1 ["to","sel"]) (I1:gj K "__init__" "Ask.__init__" Aa i1) (Q1:gj K "told" "Ask.told" wb q1) (W1:gj K "words" "Ask.words" Ay w1)
  (C2:CK K "Cell" c2 i2 q2 w2 ["to","source"]) (I2:gj K "__init__" "Cell.__init__" Ae i2) (Q2:gj K "told" "Cell.told" we q2) (W2:gj K "words" "Cell.words" AA w2)
  (C3:CK K "Two" c3 i3 q3 w3 ["to","op","one","other"]) (I3:gj K "__init__" "Two.__init__" Ag i3) (Q3:gj K "told" "Two.told" wj q3) (W3:gj K "words" "Two.words" AC w3)
  (C4:CK K "Put" c4 i4 q4 w4 ["sel","source"]) (I4:gj K "__init__" "Put.__init__" Ai i4) (Q4:gj K "told" "Put.told" wo q4) (W4:gj K "words" "Put.words" AF w4)
  (C5:CK K "Tell" c5 i5 q5 w5 ["sel","source"]) (I5:gj K "__init__" "Tell.__init__" Ak i5) (Q5:gj K "told" "Tell.told" wq q5) (W5:gj K "words" "Tell.words" AH w5)
  (C6:CK K "Store" c6 i6 q6 w6 ["at","source"]) (I6:gj K "__init__" "Store.__init__" Am i6) (Q6:gj K "told" "Store.told" wu q6) (W6:gj K "words" "Store.words" AJ w6)
  (CT:CK K "Little" cT iT qT wT ["steps","on"]) (IT:gj K "__init__" "Little.__init__" qJ iT) (QT:gj K "told" "Little.told" jV qT) (WT:gj K "words" "Little.words" jW wT)
  (y1:PySem.W.findIn K (.ref cT) "__class__"=some (some (.builtin "object.__class__"))) (y2:PySem.W.specialIn K (.builtin "object.__class__") "__get__"=some (some (.builtin "getset_descriptor.__get__"))) (y3:PySem.W.takesIn K (.builtin "object.__class__")=some true) (y4:PySem.W.mroIn K cT (.type "object")=some true) (y5:PySem.W.typeIn K (.ref cT)=some (.type "type")) (y6:PySem.W.isClsIn K cT=true)
  (n_HIGHEST_INNER:PySem.W.nsIn K mainGlobals "HIGHEST_INNER"=some (some (.int 7 k_HIGHEST_INNER)))
  (n_HIGHEST_WORD:PySem.W.nsIn K mainGlobals "HIGHEST_WORD"=some (some (.int 16777215 k_HIGHEST_WORD)))
  (n_HIGHEST_FIELD:PySem.W.nsIn K mainGlobals "HIGHEST_FIELD"=some (some (.int 2 k_HIGHEST_FIELD)))
  (n_HIGHEST_SELECTED:PySem.W.nsIn K mainGlobals "HIGHEST_SELECTED"=some (some (.int 3 k_HIGHEST_SELECTED)))
  (n_HIGHEST_ADDRESS:PySem.W.nsIn K mainGlobals "HIGHEST_ADDRESS"=some (some (.int 399 k_HIGHEST_ADDRESS)))
  (n_MOST_STEPS:PySem.W.nsIn K mainGlobals "MOST_STEPS"=some (some (.int 16 k_MOST_STEPS)))
  (n_LONGEST_NAME:PySem.W.nsIn K mainGlobals "LONGEST_NAME"=some (some (.int 8 k_LONGEST_NAME)))
  (n_MOST_FIGURES:PySem.W.nsIn K mainGlobals "MOST_FIGURES"=some (some (.int 9 k_MOST_FIGURES)))
  (n_LETTERS:PySem.W.nsIn K mainGlobals "LETTERS"=some (some (.str sy kL))) (n_FIGURES:PySem.W.nsIn K mainGlobals "FIGURES"=some (some (.str sK kF))) (n_OW:PySem.W.nsIn K mainGlobals "OWN_WORDS"=some (some (.ref aW))) (q_OW:∀ H,SqT K H aW ownV) (n_OF:PySem.W.nsIn K mainGlobals "OWN_FAULTS"=some (some (.ref aF))) (q_OF:∀ H,SqT K H aF (fauS.map V.str))
  (n_OPS:PySem.W.nsIn K mainGlobals "OPS"=some (some (.ref aO))) (dO:gP w K aO [("+",.ref e1),("-",.ref e2),("&",.ref e3),("|",.ref e4),("^",.ref e5),("<<",.ref e6),(">>",.ref e7),("<",.ref e8),("=",.ref e9)]) (lo:(aO == sysModules)=false)
  (xR:zC K "RowsError" XB.bmV R) (rd:PySem.W.readsIn K R (.type "type")=true) (ri:PySem.W.findCls K (.ref R) (.type "type") "__init__"=some (.val (.ref fR))) (mR:gj K "__init__" "RowsError.__init__" jZ fR)
  (xL:zC K "BadLine" (kg R) cL) (aL:PySem.W.findIn K (.ref cL) "line"=some none) (iL:PySem.W.findIn K (.ref cL) "__init__"=some (some (.ref fL))) (nL:PySem.W.isFn K (.ref fL)=true) (pL:PySem.W.keepIn K (.ref cL)=true) (mL:gj K "__init__" "BadLine.__init__" j0 fL)
  (xB:zC K "BadStep" (kg R) cB) (nb1:(cB == cL)=false) (nb2:(cB == R)=false)
  (z_len:PySem.W.nsIn K mainGlobals "len"=some none)
  (z_int:PySem.W.nsIn K mainGlobals "int"=some none)
  (z_max:PySem.W.nsIn K mainGlobals "max"=some none)
  (z_min:PySem.W.nsIn K mainGlobals "min"=some none)
  (z_range:PySem.W.nsIn K mainGlobals "range"=some none)
  (z_isinstance:PySem.W.nsIn K mainGlobals "isinstance"=some none)
  (z_list:PySem.W.nsIn K mainGlobals "list"=some none)
  (z_str:PySem.W.nsIn K mainGlobals "str"=some none)
  (z_bool:PySem.W.nsIn K mainGlobals "bool"=some none)
  (z_tuple:PySem.W.nsIn K mainGlobals "tuple"=some none)
  (z_all:PySem.W.nsIn K mainGlobals "all"=some none)
  (z_ValueError:PySem.W.nsIn K mainGlobals "ValueError"=some none) :
  ∃ fd:FuncData,(∀ (s:Shared) (v:Value),BindsTo s fd ⟨[v],[]⟩ [("_law_script",v)])/\∀ base:Heap,K.In base->base.Ns mainGlobals mg->aI l.prog w K mg base bE 11 fa fd ["_law_script"] (rq K):=by
 have B:Bl mg:=⟨B0 X G z_len,B0 X G z_int,B0 X G z_max,B0 X G z_min,B0 X G z_range,B0 X G z_isinstance,B0 X G z_list,B0 X G z_str,B0 X G z_bool,B0 X G z_tuple,B0 X G z_all⟩
 have fsv:∃ fs:Str->V,Cst K mg w aO k_HIGHEST_INNER k_HIGHEST_WORD k_HIGHEST_FIELD k_HIGHEST_SELECTED k_HIGHEST_ADDRESS k_MOST_STEPS fs:=⟨fun x=>(([("+",.ref e1),("-",.ref e2),("&",.ref e3),("|",.ref e4),("^",.ref e5),("<<",.ref e6),(">>",.ref e7),("<",.ref e8),("=",.ref e9)]:List (Str×V)).lookup x).getD .non,(BS X G n_HIGHEST_INNER),(BS X G n_HIGHEST_WORD),(BS X G n_HIGHEST_FIELD),(BS X G n_HIGHEST_SELECTED),(BS X G n_HIGHEST_ADDRESS),(BS X G n_MOST_STEPS),(BS X G n_OPS),dO,lo⟩
 obtain ⟨fs,Z⟩:=fsv
 have CN:yd K mg aW kL k_LONGEST_NAME:=⟨(BS X G n_OW),q_OW,(BS X G n_LETTERS),(BS X G n_LONGEST_NAME)⟩
 have T:Ct K mg (ly c0 c1 c2 c3 c4 c5 c6) (ly i0 i1 i2 i3 i4 i5 i6):=⟨xp C0.cls C1.cls C2.cls C3.cls C4.cls C5.cls C6.cls,xp C0.na.get C1.na.get C2.na.get C3.na.get C4.na.get C5.na.get C6.na.get,xp C0.mk_ C1.mk_ C2.mk_ C3.mk_ C4.mk_ C5.mk_ C6.mk_,xp (BS X G C0.ns) (BS X G C1.ns) (BS X G C2.ns) (BS X G C3.ns) (BS X G C4.ns) (BS X G C5.ns) (BS X G C6.ns)⟩
 have TX:Xs K mg R fR cL fL cB:=⟨xR.c,xL.c,xB.c,aL,⟨iL,nL,pL⟩,⟨rd,ri,mR.fu.elim fun _ F=>F.kp⟩,BS X G xR.ns,BS X G xL.ns,BS X G xB.ns,B0 X G z_ValueError⟩
 have LC:Lc K cT:=⟨CT.cls,CT.na.1,CT.na.2.1⟩
 have LK:Lk K cT:=⟨y1,y2,y3,y4,uq y5 y6⟩
 have mT:=BS X G CT.ns
 obtain ⟨a14,fd,F⟩:=d47
 have e:=hfa.symm.trans (BS X G a14)
 cases e
 obtain ⟨oc,od,kV,doc,pm,an,cdv,ct,osl,rfl,lk,hcd⟩:=id F.ex
 refine ⟨PySem.W.fnOf "law" "law" (cq oj) (bX oj) (al oj) .none kV doc pm an cdv ct,fun s v=>.of_eq rfl,fun base _ _=>?_⟩
 have RI:AO l.prog w K mg base fR:=by
  obtain ⟨⟨fd,F⟩,_⟩:=mR
  exact ⟨fd,F.binds (fun _ _ _ _ _ _ us hl=>match us,hl with|[_,_],_=>rfl),yS F TX⟩
 obtain ⟨⟨fdL,FL0⟩,_⟩:=id mL
 have FL:aI l.prog w K mg base bE 2 fL fdL ["self","line"] (tP cL):=yT FL0 TX RI
 have BL:Binds K fdL ["self","line"] []:=FL0.binds (fun _ _ _ _ _ _ us hl=>match us,hl with|[_,_],_=>rfl)
 have WH:=aZ (P:=l.prog) (w:=w) (base:=base) X G d1 (fun _ _ _ _ _ _ us hl=>match us,hl with|[_],_=>rfl) (fun fd F=>ok_whole F B)
 have WI:=aZ (P:=l.prog) (w:=w) (base:=base) X G d2 (fun _ _ _ _ _ _ us hl=>match us,hl with|[_,_,_],_=>rfl) (fun fd F=>ok_within F WH)
 have NM:=aZ (P:=l.prog) (w:=w) (base:=base) X G d3 (fun _ _ _ _ _ _ us hl=>match us,hl with|[_],_=>rfl) (fun fd F=>sC F B CN)
 have OP:=aZ (P:=l.prog) (w:=w) (base:=base) X G d4 (fun _ _ _ _ _ _ us hl=>match us,hl with|[],_=>rfl) (fun fd F=>ok_ops F B Z)
 have HD:=aZ (P:=l.prog) (w:=w) (base:=base) X G d5 (fun _ _ _ _ _ _ us hl=>match us,hl with|[_,_,_],_=>rfl) (fun fd F=>ok_headed F B)
 have IN:=aZ (P:=l.prog) (w:=w) (base:=base) X G d6 (fun _ _ _ _ _ _ us hl=>match us,hl with|[_],_=>rfl) (fun fd F=>ok_inner F Z WI)
 have FI:=aZ (P:=l.prog) (w:=w) (base:=base) X G d7 (fun _ _ _ _ _ _ us hl=>match us,hl with|[_],_=>rfl) (fun fd F=>ok_field F Z WI)
 have AD:=aZ (P:=l.prog) (w:=w) (base:=base) X G d8 (fun _ _ _ _ _ _ us hl=>match us,hl with|[_],_=>rfl) (fun fd F=>ok_addr F Z WI)
 have SE:=aZ (P:=l.prog) (w:=w) (base:=base) X G d9 (fun _ _ _ _ _ _ us hl=>match us,hl with|[_],_=>rfl) (fun fd F=>vJ F Z WI HD FI)
 have SO:=aZ (P:=l.prog) (w:=w) (base:=base) X G d10 (fun _ _ _ _ _ _ us hl=>match us,hl with|[_],_=>rfl) (fun fd F=>oo F Z WI HD FI IN)
 have IS:=aZ (P:=l.prog) (w:=w) (base:=base) X G d11 (fun _ _ _ _ _ _ us hl=>match us,hl with|[_],_=>rfl) (fun fd F=>oq F HD IN SE SO OP)
 have EN:=aZ (P:=l.prog) (w:=w) (base:=base) X G d12 (fun _ _ _ _ _ _ us hl=>match us,hl with|[_],_=>rfl) (fun fd F=>p5 F (BS X G n_OF) q_OF HD FI NM)
 have WO:=aZ (P:=l.prog) (w:=w) (base:=base) X G d13 (fun _ _ _ _ _ _ us hl=>match us,hl with|[_],_=>rfl) (fun fd F=>p6 F HD AD IN EN)
 have IL:=aZ (P:=l.prog) (w:=w) (base:=base) X G d14 (fun _ _ _ _ _ _ us hl=>match us,hl with|[_],_=>rfl) (fun fd F=>kO F B Z IS WO)
 have NO:=aZ (P:=l.prog) (w:=w) (base:=base) X G d0 (fun _ _ _ _ _ _ us hl=>match us,hl with|[_],_=>rfl) (fun fd F=>qx F B (BS X G n_FIGURES) (BS X G n_MOST_FIGURES))
 have NB:=aZ (P:=l.prog) (w:=w) (base:=base) X G d30 (fun _ _ _ _ _ _ us hl=>match us,hl with|[_,_],_=>rfl) (fun fd F=>vV F NO)
 have IT1:=aZ (P:=l.prog) (w:=w) (base:=base) X G d27 (fun _ _ _ _ _ _ us hl=>match us,hl with|[_],_=>rfl) (fun fd F=>sX F NB)
 have ST1:=aZ (P:=l.prog) (w:=w) (base:=base) X G d28 (fun _ _ _ _ _ _ us hl=>match us,hl with|[_,_],_=>rfl) (fun fd F=>qy F NB)
 have SO1:=aZ (P:=l.prog) (w:=w) (base:=base) X G d29 (fun _ _ _ _ _ _ us hl=>match us,hl with|[_],_=>rfl) (fun fd F=>qz F NB NO)
 have ET1:=aZ (P:=l.prog) (w:=w) (base:=base) X G d26 (fun _ _ _ _ _ _ us hl=>match us,hl with|[_],_=>rfl) (fun fd F=>qD F B NB)
 have OT1:=aZ (P:=l.prog) (w:=w) (base:=base) X G d25 (fun _ _ _ _ _ _ us hl=>match us,hl with|[_],_=>rfl) (fun fd F=>tD F B NO IT1 ET1)
 have TT1:=aZ (P:=l.prog) (w:=w) (base:=base) X G d24 (fun _ _ _ _ _ _ us hl=>match us,hl with|[_],_=>rfl) (fun fd F=>qF F B IT1 ST1 SO1)
 have LT1:=aZ (P:=l.prog) (w:=w) (base:=base) X G d23 (fun _ _ _ _ _ _ us hl=>match us,hl with|[_],_=>rfl) (fun fd F=>tE F B OT1 TT1)
 have J0:=eR (P:=l.prog) (w:=w) (mg:=mg) (base:=base) I0 (fun _ _ _ _ _ _ us hl=>match us,hl with|[_,_,_],_=>rfl) (fun fd F=>yp F T)
 have J1:=eR (P:=l.prog) (w:=w) (mg:=mg) (base:=base) I1 (fun _ _ _ _ _ _ us hl=>match us,hl with|[_,_,_],_=>rfl) (fun fd F=>yq F T)
 have J2:=eR (P:=l.prog) (w:=w) (mg:=mg) (base:=base) I2 (fun _ _ _ _ _ _ us hl=>match us,hl with|[_,_,_],_=>rfl) (fun fd F=>yr F T)
 have J3:=eR (P:=l.prog) (w:=w) (mg:=mg) (base:=base) I3 (fun _ _ _ _ _ _ us hl=>match us,hl with|[_,_,_,_,_],_=>rfl) (fun fd F=>yt F T)
 have J4:=eR (P:=l.prog) (w:=w) (mg:=mg) (base:=base) I4 (fun _ _ _ _ _ _ us hl=>match us,hl with|[_,_,_],_=>rfl) (fun fd F=>yu F T)
 have J5:=eR (P:=l.prog) (w:=w) (mg:=mg) (base:=base) I5 (fun _ _ _ _ _ _ us hl=>match us,hl with|[_,_,_],_=>rfl) (fun fd F=>yw F T)
 have J6:=eR (P:=l.prog) (w:=w) (mg:=mg) (base:=base) I6 (fun _ _ _ _ _ _ us hl=>match us,hl with|[_,_,_],_=>rfl) (fun fd F=>yx F T)
 have JT:=eR (P:=l.prog) (w:=w) (mg:=mg) (base:=base) IT (fun _ _ _ _ _ _ us hl=>match us,hl with|[_,_,_],_=>rfl) (fun fd F=>tJ F B CT.cls CT.na.1 CT.na.2.1)
 have PL:=aZ (P:=l.prog) (w:=w) (base:=base) X G d16 (fun _ _ _ _ _ _ us hl=>match us,hl with|[_],_=>rfl) (fun fd F=>vY F)
 have ML:=aZ (P:=l.prog) (w:=w) (base:=base) X G d17 (fun _ _ _ _ _ _ us hl=>match us,hl with|[_],_=>rfl) (fun fd F=>vZ F)
 have SL:=aZ (P:=l.prog) (w:=w) (base:=base) X G d15 (fun _ _ _ _ _ _ us hl=>match us,hl with|[_],_=>rfl) (fun fd F=>v7 F B)
 have M:zB l.prog w K mg base (ly c0 c1 c2 c3 c4 c5 c6):=⟨T.cls,xp (b9 C0.td_ Q0 (fun _ _ _ _ _ _ us hl=>match us,hl with|[_],_=>rfl) (fun fd F=>v9 F T)) (b9 C1.td_ Q1 (fun _ _ _ _ _ _ us hl=>match us,hl with|[_],_=>rfl) (fun fd F=>wc F T)) (b9 C2.td_ Q2 (fun _ _ _ _ _ _ us hl=>match us,hl with|[_],_=>rfl) (fun fd F=>wg F T)) (b9 C3.td_ Q3 (fun _ _ _ _ _ _ us hl=>match us,hl with|[_],_=>rfl) (fun fd F=>wk F T)) (b9 C4.td_ Q4 (fun _ _ _ _ _ _ us hl=>match us,hl with|[_],_=>rfl) (fun fd F=>wp F T)) (b9 C5.td_ Q5 (fun _ _ _ _ _ _ us hl=>match us,hl with|[_],_=>rfl) (fun fd F=>wt F T)) (b9 C6.td_ Q6 (fun _ _ _ _ _ _ us hl=>match us,hl with|[_],_=>rfl) (fun fd F=>wv F T)),xp (b9 C0.wd_ W0 (fun _ _ _ _ _ _ us hl=>match us,hl with|[_],_=>rfl) (fun fd F=>yI F T PL)) (b9 C1.wd_ W1 (fun _ _ _ _ _ _ us hl=>match us,hl with|[_],_=>rfl) (fun fd F=>yJ F T ML)) (b9 C2.wd_ W2 (fun _ _ _ _ _ _ us hl=>match us,hl with|[_],_=>rfl) (fun fd F=>yK F T SL)) (b9 C3.wd_ W3 (fun _ _ _ _ _ _ us hl=>match us,hl with|[_],_=>rfl) (fun fd F=>yL F T SL)) (b9 C4.wd_ W4 (fun _ _ _ _ _ _ us hl=>match us,hl with|[_],_=>rfl) (fun fd F=>yM F T PL SL)) (b9 C5.wd_ W5 (fun _ _ _ _ _ _ us hl=>match us,hl with|[_],_=>rfl) (fun fd F=>yN F T ML SL)) (b9 C6.wd_ W6 (fun _ _ _ _ _ _ us hl=>match us,hl with|[_],_=>rfl) (fun fd F=>yO F T SL))⟩
 have SF:=aZ (P:=l.prog) (w:=w) (base:=base) X G d18 (fun _ _ _ _ _ _ us hl=>match us,hl with|[_],_=>rfl) (fun fd F=>oz F T IS J0 J1 J2 J3 J4 J5 J6)
 have LF:=aZ (P:=l.prog) (w:=w) (base:=base) X G d21 (fun _ _ _ _ _ _ us hl=>match us,hl with|[_],_=>rfl) (fun fd F=>kX F IL SF CT.mk_ mT JT)
 have EW:=aZ (P:=l.prog) (w:=w) (base:=base) X G d20 (fun _ _ _ _ _ _ us hl=>match us,hl with|[_],_=>rfl) (fun fd F=>tI F)
 have OW:=aZ (P:=l.prog) (w:=w) (base:=base) X G d19 (fun _ _ _ _ _ _ us hl=>match us,hl with|[_],_=>rfl) (fun fd F=>wB F EW)
 have MTO:gG l.prog w K mg base cT "told" 2 ["self"] (nB (ly c0 c1 c2 c3 c4 c5 c6) cT):=b9 CT.td_ QT (fun _ _ _ _ _ _ us hl=>match us,hl with|[_],_=>rfl) (fun fd F=>qM F B LC M)
 have MWO:gG l.prog w K mg base cT "words" 3 ["self"] (qK (ly c0 c1 c2 c3 c4 c5 c6) cT):=b9 CT.wd_ WT (fun _ _ _ _ _ _ us hl=>match us,hl with|[_],_=>rfl) (fun fd F=>qN F B LC M OW)
 have RD:=xg (P:=l.prog) (w:=w) (base:=base) X G d22 (fun _ _ _ _ _ _ us hl=>match us,hl with|[_],_=>rfl) (fun fd F=>rf F B TX FL BL LT1 IL LF)
 have CL:=aZ (P:=l.prog) (w:=w) (base:=base) X G d31 (fun _ _ _ _ _ _ us hl=>match us,hl with|[_,_],_=>rfl) (fun fd F=>su F B)
 have ST:=aZ (P:=l.prog) (w:=w) (base:=base) X G d32 (fun _ _ _ _ _ _ us hl=>match us,hl with|[_],_=>rfl) (fun fd F=>om F B)
 have TK:=aZ (P:=l.prog) (w:=w) (base:=base) X G d33 (fun _ _ _ _ _ _ us hl=>match us,hl with|[_,_],_=>rfl) (fun fd F=>sw F)
 have LSE:=aZ (P:=l.prog) (w:=w) (base:=base) X G d34 (fun _ _ _ _ _ _ us hl=>match us,hl with|[_],_=>rfl) (fun fd F=>sG F TK)
 have LSO:=aZ (P:=l.prog) (w:=w) (base:=base) X G d35 (fun _ _ _ _ _ _ us hl=>match us,hl with|[_],_=>rfl) (fun fd F=>mi F TK)
 have LST:=aZ (P:=l.prog) (w:=w) (base:=base) X G d36 (fun _ _ _ _ _ _ us hl=>match us,hl with|[_],_=>rfl) (fun fd F=>p9 F TK LSO LSE)
 have LON:=aZ (P:=l.prog) (w:=w) (base:=base) X G d37 (fun _ _ _ _ _ _ us hl=>match us,hl with|[_,_],_=>rfl) (fun fd F=>wP F TK)
 have LLI:=aZ (P:=l.prog) (w:=w) (base:=base) X G d38 (fun _ _ _ _ _ _ us hl=>match us,hl with|[_,_],_=>rfl) (fun fd F=>mz F B TK LST LON)
 have PT:=aZ (P:=l.prog) (w:=w) (base:=base) X G d39 (fun _ _ _ _ _ _ us hl=>match us,hl with|[_,_],_=>rfl) (fun fd F=>rj F B)
 have STX:=aZ (P:=l.prog) (w:=w) (base:=base) X G d40 (fun _ _ _ _ _ _ us hl=>match us,hl with|[_],_=>rfl) (fun fd F=>oE F B PT)
 have OTX:=aZ (P:=l.prog) (w:=w) (base:=base) X G d41 (fun _ _ _ _ _ _ us hl=>match us,hl with|[_],_=>rfl) (fun fd F=>ui F B)
 have LTX:=aZ (P:=l.prog) (w:=w) (base:=base) X G d42 (fun _ _ _ _ _ _ us hl=>match us,hl with|[_],_=>rfl) (fun fd F=>rn F B STX OTX)
 have SA:=aZ (P:=l.prog) (w:=w) (base:=base) X G d45 (fun _ _ _ _ _ _ us hl=>match us,hl with|[_],_=>rfl) (fun fd F=>rg F B TX TX.mB (Bs nb1 nb2) LC MTO RD)
 have OD:=aZ (P:=l.prog) (w:=w) (base:=base) X G d43 (fun _ _ _ _ _ _ us hl=>match us,hl with|[_,_],_=>rfl) (fun fd F=>uk F TK)
 have SPL:=aZ (P:=l.prog) (w:=w) (base:=base) X G d44 (fun _ _ _ _ _ _ us hl=>match us,hl with|[_,_],_=>rfl) (fun fd F=>um F B TK OD)
 have AL:=aZ (P:=l.prog) (w:=w) (base:=base) X G d46 (fun _ _ _ _ _ _ us hl=>match us,hl with|[_],_=>rfl) (fun fd F=>wY F B LC LK CT.mk_ mT JT M TK LLI LTX LF SA SPL MTO MWO)
 exact wZ F B CL ST AL
end L3
namespace L3
open PySem L2
theorem Bw {K:PySem.W.Frag} {c:Addr} {a b d e:Str} (x:PySem.W.findIn K (.ref c) a=some none) (y:PySem.W.findIn K (.ref c) b=some none) (z:PySem.W.findIn K (.ref c) d=some none) (u:PySem.W.findIn K (.ref c) e=some none):NaAll K c [a,b,d,e]:=⟨x,y,z,u,trivial⟩
end L3
namespace PySem.W.Fast
def tw18111788716661457697:Nat:=0
def tw10049921290830846317:Nat:=0
def tw7377988329600651216:Nat:=0
def tw12188368469668042161:Nat:=0
def tw5346531790043729362:Nat:=0
def tw16746986086433209507:Nat:=0
def tw15373532621041062776:Nat:=0
def tw1909390818713625109:Nat:=0
def tw3208462353440566762:Nat:=0
def tw12945064764914926365:Nat:=0
def tw16035585671469374924:Nat:=0
def tw1192244969512476718:Nat:=0
def tw5556267650806361111:Nat:=0
def tw4164051581426904840:Nat:=0
def tw6673588863397198453:Nat:=0
def tw294088084042872705:Nat:=0
def tw11929840582792097156:Nat:=0
def tw17807737749334829428:Nat:=0
def tw2652128452829535735:Nat:=0
def tw15840207131994769756:Nat:=0
def tw15576372596111331312:Nat:=0
def tw13890533935486635637:Nat:=0
def tw10513594047509577176:Nat:=0
def tw17365454833278051843:Nat:=0
def tw16328623369625711788:Nat:=0
def tw6405682576948799756:Nat:=0
def tw10824546999561458478:Nat:=0
def tw4655856798901773216:Nat:=0
def tw4138884679910624798:Nat:=0
def tw13723040221933891179:Nat:=0
def tw16854769841546767557:Nat:=0
def tw7871657662061013273:Nat:=0
def tw15114209280234389725:Nat:=0
def tw8598150259555493921:Nat:=0
def tw6808889685879800263:Nat:=0
def tw15371795426027020272:Nat:=0
def tw13193121542353576108:Nat:=0
def tw5564960142681605490:Nat:=0
def tw14156771118706040911:Nat:=0
def tw15860745596324696876:Nat:=0
def tw3933549748539126695:Nat:=0
def tw2485820341293768889:Nat:=0
def tw10446390805648806014:Nat:=0
def tw13509988270228632662:Nat:=0
def tw11223511655756585393:Nat:=0
def tw11469447080937184586:Nat:=0
def tw337997246998022707:Nat:=0
def tw16150161284015620449:Nat:=0
def tw15976953804651273135:Nat:=0
def tw13821228505918958524:Nat:=0
def tw13836111162228849433:Nat:=0
def tw14943977739221201018:Nat:=0
def tw8097301559749858491:Nat:=0
def tw3132133592465252395:Nat:=0
def tw12575327489631120131:Nat:=0
def tw16859969828889113755:Nat:=0
def tw3214253469301061047:Nat:=0
def tw11498332933491044773:Nat:=0
def tw9904912706505181327:Nat:=0
def tw7765618058953027705:Nat:=0
def tw4669428428607890312:Nat:=0
def tw10102957914912933427:Nat:=0
def tw695189016863368645:Nat:=0
def tw3036244459935779720:Nat:=0
def tw10931550337787661132:Nat:=0
def tw15733793594541754296:Nat:=0
def tw12537660079911453493:Nat:=0
def tw8354681019177017194:Nat:=0
def tw12583952317837499934:Nat:=0
def tw2220726493294268242:Nat:=0
def tw16624700798041035319:Nat:=0
def tw14978073778228914827:Nat:=0
def tw10205724410106210536:Nat:=0
def tw11202201430786420534:Nat:=0
def tw14772421957821434388:Nat:=0
def tw15554453749418373857:Nat:=0
def tw14940259109151217037:Nat:=0
def tw9988819052439824039:Nat:=0
def tw13604685910696390171:Nat:=0
def tw17537034745883578833:Nat:=0
def tw1364886309962599051:Nat:=0
def tw4641255273230203595:Nat:=0
def tw12163495023642124257:Nat:=0
def tw12232030268835249227:Nat:=0
def tw5255116499159295356:Nat:=0
def tw9419025358591051269:Nat:=0
def tw3064051582992295624:Nat:=0
def tw14656473262813908051:Nat:=0
def tw13193017988035796346:Nat:=0
def tw9792340896268708738:Nat:=0
def tw15221924472610722477:Nat:=0
def tw1109343376435793624:Nat:=0
def tw13511088256756071017:Nat:=0
def tw694026586016354475:Nat:=0
def tw15194645732064873908:Nat:=0
def tw2295949416791590549:Nat:=0
def tw12966578196395618127:Nat:=0
def tw1423081558606941124:Nat:=0
def tw16091677780325682364:Nat:=0
def tw3587258217548160373:Nat:=0
def tw4631241707729499977:Nat:=0
def tw16345466560404996200:Nat:=0
def tw6546998312723217450:Nat:=0
def tw10874585657543387861:Nat:=0
def tw15553921812624677431:Nat:=0
def tw12078703967343343044:Nat:=0
def tw16546850550205657706:Nat:=0
def tw3097892925250195560:Nat:=0
def tw14122958537960258666:Nat:=0
def tw3122647607937239734:Nat:=0
def tw10158486089528683496:Nat:=0
def tw11109010155979513446:Nat:=0
def tw379012802242444468:Nat:=0
def tw281354137330213291:Nat:=0
def tw14006055802499544999:Nat:=0
def tw16112703345151270819:Nat:=0
def tw15110220942833356296:Nat:=0
def tw3494260055601982211:Nat:=0
def tw12727627455077696817:Nat:=0
def tw5698270721951046374:Nat:=0
def tw17012846196864565677:Nat:=0
def tw2671060837518175219:Nat:=0
def tw17214548603849673357:Nat:=0
def tw10600962769685129439:Nat:=0
def tw6071749352008665049:Nat:=0
def tw3125122112266923223:Nat:=0
def tw14075164239520734118:Nat:=0
def tw4796116715958903943:Nat:=0
def tw12703710777564461602:Nat:=0
def tw16104412354953693215:Nat:=0
def tw11993280102232198957:Nat:=0
def tw5418591468111903661:Nat:=0
def tw14295802379327331499:Nat:=0
def tw6170326814690704116:Nat:=0
def tw7719137576097880199:Nat:=0
def tw8723362018806326519:Nat:=0
def tw1969944893960866043:Nat:=0
def tw785594710469364440:Nat:=0
def tw7968824592678029549:Nat:=0
def tw17589810666018658052:Nat:=0
def tw11405626633090899524:Nat:=0
def tw11611741208844347226:Nat:=0
def tw10922484287100333077:Nat:=0
def tw6607957625703981655:Nat:=0
def tw12846307892421671794:Nat:=0
def tw9500900691625820509:Nat:=0
def tw14935305382786675475:Nat:=0
def tw14706511006215247518:Nat:=0
def tw4590285786258366196:Nat:=0
def tw3415016691513073233:Nat:=0
def tw1546572282820805148:Nat:=0
def tw8070547047420169299:Nat:=0
def tw14641813019646953349:Nat:=0
def tw4776784881965183871:Nat:=0
def tw6164728568048017096:Nat:=0
def tw13564390680127147076:Nat:=0
def tw8281630770269964092:Nat:=0
def tw10856792485159821914:Nat:=0
def tw7592575456760124018:Nat:=0
def tw8878345428811434972:Nat:=0
def tw6045322419277142987:Nat:=0
def tw17634103673308871731:Nat:=0
def tw6021438052404416984:Nat:=0
def tw2780958573908858638:Nat:=0
def tw9974108054526832116:Nat:=0
def tw8001611457107735599:Nat:=0
def tw2607719261041289552:Nat:=0
def tw14834478929322497266:Nat:=0
def tw13003627948498502730:Nat:=0
def tw3438452424066684748:Nat:=0
def tw9098909862921863538:Nat:=0
def tw11793302051289097491:Nat:=0
def tw604912181023034866:Nat:=0
def tw3035092527833223957:Nat:=0
def tw8293658501771244214:Nat:=0
def tw9449405933634805276:Nat:=0
def tw12010424881690966198:Nat:=0
def tw5920787917176051267:Nat:=0
def tw10555486248348115889:Nat:=0
def tw15471259333603400921:Nat:=0
def tw9971870018805938676:Nat:=0
def tw11016561463273094573:Nat:=0
def tw2885836399681976174:Nat:=0
def tw7632024506716954854:Nat:=0
def tw409013691286963712:Nat:=0
def tw5978067259091249490:Nat:=0
def tw5599834803153032646:Nat:=0
def tw507428632981733815:Nat:=0
def tw7729429780708239659:Nat:=0
def tw15572839708947053611:Nat:=0
def tw15463456629969106991:Nat:=0
def tw528669213512364890:Nat:=0
def tw17413382852313412798:Nat:=0
def tw18003225781033380626:Nat:=0
def tw3597596398522153923:Nat:=0
def tw16642169230242745005:Nat:=0
def tw1023203928322150755:Nat:=0
def tw14206031044655079264:Nat:=0
def tw9565580577990744322:Nat:=0
def tw12448493037338727437:Nat:=0
def tw17230710144950290855:Nat:=0
def tw13021572952318722525:Nat:=0
def tw8985073427499626007:Nat:=0
def tw3196510967819726064:Nat:=0
def tw14517005159684352800:Nat:=0
def tw7634954584706193063:Nat:=0
def tw4740482380312947522:Nat:=0
def tw5825956724012985628:Nat:=0
def tw908234702759349510:Nat:=0
def tw6130329345184956639:Nat:=0
def tw13231480300919963597:Nat:=0
def tw7218636635457773097:Nat:=0
def tw16241583599968688149:Nat:=0
def tw18386527164580222358:Nat:=0
def tw16292076254762996919:Nat:=0
def tw1587808553131707290:Nat:=0
def tw4184065353361484175:Nat:=0
def tw4205658450176514088:Nat:=0
def tw16526654355310969384:Nat:=0
def tw16344539700446639029:Nat:=0
def tw12846382491261443358:Nat:=0
def tw14473561683427997324:Nat:=0
def tw12529944737003085585:Nat:=0
def tw14074454737643196534:Nat:=0
def tw11313960329539490710:Nat:=0
def tw5108109929553672862:Nat:=0
def tw7892419745077183343:Nat:=0
def tw6066925655424931329:Nat:=0
def tw15679815260014477:Nat:=0
def tw15449702200829036358:Nat:=0
def tw17696190851401585869:Nat:=0
def tw7686971889021483640:Nat:=0
def tw18270587221534699658:Nat:=0
def tw11906279147609907959:Nat:=0
def tw17642631203403641321:Nat:=0
def tw18342022682114718552:Nat:=0
def tw17712341869462168846:Nat:=0
def tw10354245377490513931:Nat:=0
def tw14966657872453578314:Nat:=0
def tw10521827773189770867:Nat:=0
def tw7325771875672681995:Nat:=0
def tw7189871392459233431:Nat:=0
def tw9577803107225172674:Nat:=0
def tw5150965264898883796:Nat:=0
def tw16484392197572802624:Nat:=0
def tw9965637565800130866:Nat:=0
def tw8135477857871779098:Nat:=0
def tw7806537283443943589:Nat:=0
def tw6077508747926243065:Nat:=0
def tw16049322990878323886:Nat:=0
def tw8698009469433968509:Nat:=0
def tw8280324430505186039:Nat:=0
def tw16940921893120380871:Nat:=0
def tw14391290417495256209:Nat:=0
def tw12911698237271680367:Nat:=0
def tw9212386527717754615:Nat:=0
def tw4426861832113045077:Nat:=0
def tw10096214066320121736:Nat:=0
def tw11707884576440479532:Nat:=0
def tw12500433580472595604:Nat:=0
def tw2989136568698015683:Nat:=0
def tw7097912311946450418:Nat:=0
def tw9642497011013113095:Nat:=0
def tw14116437788741185649:Nat:=0
def tw17962548522316992931:Nat:=0
def tw23518865589408445:Nat:=0
def tw11335672105980920685:Nat:=0
def tw5432863204209642502:Nat:=0
def tw4371217329298024338:Nat:=0
def tw17000233328481004645:Nat:=0
def tw10916170445530852917:Nat:=0
def tw9144757508649428488:Nat:=0
def tw2345197479017697777:Nat:=0
def tw15281537237941000163:Nat:=0
def tw2005062546043815010:Nat:=0
def tw864305683089967295:Nat:=0
def tw11144837411339443207:Nat:=0
def tw9833480521931268177:Nat:=0
def tw2123092679828058890:Nat:=0
def tw15940964974458716597:Nat:=0
def tw2651820545826156955:Nat:=0
def tw3136154618760935863:Nat:=0
def tw15815627468842219565:Nat:=0
def tw1811245035788452732:Nat:=0
def tw1616774293662358857:Nat:=0
def tw13720866989247247644:Nat:=0
def tw10207307092009898656:Nat:=0
def tw10666672741402195685:Nat:=0
def tw4652138313746682101:Nat:=0
def tw91700477330951532:Nat:=0
def tw15200273652917040203:Nat:=0
def tw9322520605416193557:Nat:=0
def tw16249011429691529247:Nat:=0
def tw6953733955559514670:Nat:=0
def tw794747486691668968:Nat:=0
def tw12695781548529536086:Nat:=0
def tw5557374587193706086:Nat:=0
def tw1922314054682620354:Nat:=0
def tw297201024580543893:Nat:=0
def tw14690715107360269780:Nat:=0
def tw10552567666319112196:Nat:=0
def tw5709280008115272821:Nat:=0
def tw7378729941565729046:Nat:=0
def tw7102329532901739828:Nat:=0
def tw1965944998033398435:Nat:=0
def tw10374263330183490499:Nat:=0
def tw9620011318266050660:Nat:=0
def tw7789330665471096432:Nat:=0
def tw13577236340243139774:Nat:=0
def tw3560015839880961529:Nat:=0
def tw1106801231136916525:Nat:=0
def tw3381286484505611315:Nat:=0
def tw9557726234537087407:Nat:=0
def tw16191111630915636658:Nat:=0
def tw1081724043903457303:Nat:=0
def tw2243721236716926834:Nat:=0
def tw9454293622303659583:Nat:=0
def tw1545735997359958703:Nat:=0
def tw1758733485443296220:Nat:=0
def tw5340155319703914662:Nat:=0
def tw12782439991924897756:Nat:=0
def tw14305270185601104541:Nat:=0
def tw16555040705323891588:Nat:=0
def tw6408879662651238021:Nat:=0
def tw8787301494340183037:Nat:=0
def tw13954997992675786209:Nat:=0
def tw5869964064243050299:Nat:=0
def tw13390816355047300223:Nat:=0
def tw11285865059273850107:Nat:=0
def tw18060541250124196193:Nat:=0
def tw13755811894958403176:Nat:=0
def tw8311379897773677023:Nat:=0
def tw8195084745572597964:Nat:=0
def tw7372651499325588734:Nat:=0
def tw17958035124219972608:Nat:=0
def tw16197981203931569134:Nat:=0
def tw13418559122761649486:Nat:=0
def tw4008535579060763675:Nat:=0
def tw951164780912262074:Nat:=0
def tw8122656620310463149:Nat:=0
def tw18420881605852103888:Nat:=0
def tw17591368695819975230:Nat:=0
def tw17052364963533908768:Nat:=0
def tw14724507334473104269:Nat:=0
def tw11025618657229745404:Nat:=0
def tw9284438184340289514:Nat:=0
def tw780947105821555482:Nat:=0
def tw6724045798944904516:Nat:=0
def tw2726750543274519176:Nat:=0
def tw14720678140452058952:Nat:=0
def tw14497301398999384834:Nat:=0
def tw13170659917139581296:Nat:=0
def tw12467659610151871346:Nat:=0
def tw8618391024353451842:Nat:=0
def tw3207887074042740671:Nat:=0
def tw11163772621083430408:Nat:=0
def tw10887757730435760591:Nat:=0
def tw312775534274712618:Nat:=0
def tw13323640118333255740:Nat:=0
def tw8221105115460268330:Nat:=0
def tw9482083634004900557:Nat:=0
def tw6690442325307090397:Nat:=0
def tw16593945808194960027:Nat:=0
def tw3259177035259394841:Nat:=0
def tw1803216145231055169:Nat:=0
def tw13860475260930135819:Nat:=0
def tw9808626604643607014:Nat:=0
def tw9404390328675265912:Nat:=0
def tw8691460657774230572:Nat:=0
def tw11726077512788987905:Nat:=0
def tw5196018708491567275:Nat:=0
def tw16555433689001577839:Nat:=0
def tw1079657561492443930:Nat:=0
def tw1068832306427666650:Nat:=0
def tw8706271018700304647:Nat:=0
def tw9494586462916928079:Nat:=0
def tw4764608485587738588:Nat:=0
def tw16626894264818974630:Nat:=0
def tw1308584299551309354:Nat:=0
def tw10326165348508986335:Nat:=0
def tw1906840214912857266:Nat:=0
def tw13572259047532309188:Nat:=0
def tw16047082979964310776:Nat:=0
def tw2899943719690211713:Nat:=0
def tw15311861803992444808:Nat:=0
def tw13590001702667486632:Nat:=0
def tw15268350879192967780:Nat:=0
def tw3641850166561345490:Nat:=0
def tw15256124001029027335:Nat:=0
def tw8022240598182381184:Nat:=0
def tw2286277471676326281:Nat:=0
def tw15326458460618704119:Nat:=0
def tw9828120412992130166:Nat:=0
def tw18367794752589967714:Nat:=0
def tw15809573088671136582:Nat:=0
def tw1284510794376164786:Nat:=0
def tw17859542850440254160:Nat:=0
def tw15741272674351021341:Nat:=0
def tw14244622352859708860:Nat:=0
def tw4641755301670284678:Nat:=0
def tw10013890516144513581:Nat:=0
def tw5872610559061554794:Nat:=0
def tw17456146239108598146:Nat:=0
def tw8460483382283094239:Nat:=0
def tw4157331734481031522:Nat:=0
def tw13388111855454390370:Nat:=0
def tw9426355686334086483:Nat:=0
def tw4209806808199203211:Nat:=0
def tw18418621942611106222:Nat:=0
def tw13917178528865553693:Nat:=0
def tw12077608571764931386:Nat:=0
def tw1872595338516484550:Nat:=0
def tw14712714512953258179:Nat:=0
def tw9880116150882713150:Nat:=0
def tw3816336763416535726:Nat:=0
def tw18076812372029950812:Nat:=0
def tw14910744864956447307:Nat:=0
def tw10380261147794605701:Nat:=0
def tw8656181656428747891:Nat:=0
def tw8227030222466054713:Nat:=0
def tw17625230852881290973:Nat:=0
def tw17329685740427530353:Nat:=0
def tw12438570008101109626:Nat:=0
def tw11622275581813224977:Nat:=0
def tw16452052737759732110:Nat:=0
def tw17961408020606328758:Nat:=0
def tw10666509076957473629:Nat:=0
def tw6530148226181822403:Nat:=0
def tw5686599485541987095:Nat:=0
def tw14419592588620131312:Nat:=0
def tw18219368496404367369:Nat:=0
def tw1137871398203590256:Nat:=0
def tw8409396271971250305:Nat:=0
def tw3860936908072829145:Nat:=0
def tw13481676249618119254:Nat:=0
def tw4707831032651734670:Nat:=0
def tw17804038589160850514:Nat:=0
def tw756888121023594909:Nat:=0
def tw3205134314032334458:Nat:=0
def tw13837991151631260390:Nat:=0
def tw15125375968636040724:Nat:=0
def tw14558208383137119818:Nat:=0
def tw2828448461165931339:Nat:=0
def tw5660557933067026233:Nat:=0
def tw4824085071690972742:Nat:=0
def tw6560481225222475106:Nat:=0
def tw6052607170770829706:Nat:=0
def tw5073639703256106066:Nat:=0
def tw4460409144264528602:Nat:=0
def tw3035598833684013011:Nat:=0
def tw14176257435460144846:Nat:=0
def tw16344288604362600817:Nat:=0
def tw1575460319398462187:Nat:=0
def tw15733067581367101584:Nat:=0
def tw10523095822398109301:Nat:=0
def tw12035929263432274638:Nat:=0
def tw6941190235602140171:Nat:=0
def tw3303349307824470045:Nat:=0
def tw3615335047546321148:Nat:=0
def tw3101971075197608728:Nat:=0
def tw13625011189949134945:Nat:=0
def tw8025370867841925150:Nat:=0
def tw7011883144631775846:Nat:=0
def tw4772715460678699304:Nat:=0
def tw11536494991975814129:Nat:=0
def tw17481813821273631132:Nat:=0
def tw16728325891140664111:Nat:=0
def tw9001089183033939740:Nat:=0
def tw4155443558909003407:Nat:=0
def tw4143484545820470903:Nat:=0
def tw3613157939368211668:Nat:=0
def tw14285149081116030682:Nat:=0
def tw7381581144693330547:Nat:=0
def tw9841826479978753831:Nat:=0
def tw7579559306604244328:Nat:=0
def tw17040832503065254950:Nat:=0
def tw9736833890849124073:Nat:=0
def tw6509345167750014006:Nat:=0
def tw14207017891441567868:Nat:=0
def tw11871984610611771191:Nat:=0
def tw7263957739809236625:Nat:=0
def tw14714764697262679592:Nat:=0
def tw14507278016668455214:Nat:=0
def tw363884100225496036:Nat:=0
def tw14912342241976990537:Nat:=0
def tw7403497238121084205:Nat:=0
def tw7517896111065394234:Nat:=0
def tw3058726238323127006:Nat:=0
def tw2114356111257235978:Nat:=0
def tw2096793409486410568:Nat:=0
def tw13462409540856094101:Nat:=0
def tw13063426556879221660:Nat:=0
def tw12829445706330960353:Nat:=0
def tw11756170269912411476:Nat:=0
def tw8454081783355906663:Nat:=0
def tw8218599475047370123:Nat:=0
def tw573869918911729751:Nat:=0
def tw5335091783062665371:Nat:=0
def tw3208226984483350410:Nat:=0
def tw15499838242390470367:Nat:=0
def tw12470005311369752978:Nat:=0
def tw10948327021812128808:Nat:=0
def tw10127348948300221160:Nat:=0
def tw292516550890509204:Nat:=0
def tw6530312396930049150:Nat:=0
def tw11480548270979076769:Nat:=0
def tw2655198187710992083:Nat:=0
def tw8888855357759336641:Nat:=0
def tw6932738599126107851:Nat:=0
def tw12019299357099308441:Nat:=0
def tw15049865397231239992:Nat:=0
def tw10566196135435217551:Nat:=0
def tw3841179006375875070:Nat:=0
def tw5966866627364918003:Nat:=0
def tw7635523531794774594:Nat:=0
def tw25795169481227771:Nat:=0
def tw6693661908726862970:Nat:=0
def tw18194427611406903898:Nat:=0
def tw15370087440755353696:Nat:=0
def tw5176377504628097484:Nat:=0
def tw8963314199382033609:Nat:=0
def tw3958986322539742259:Nat:=0
def tw3626817536842286784:Nat:=0
def tw215191303069399580:Nat:=0
def tw17810951345367856561:Nat:=0
def tw1603776101540094236:Nat:=0
def tw12111675401365786613:Nat:=0
def tw11476044363831677267:Nat:=0
def tw587361239303195138:Nat:=0
def tw13721478055856304804:Nat:=0
def tw11310819323417007854:Nat:=0
def tw8687292410187898378:Nat:=0
def tw9369723447474553647:Nat:=0
def tw7634235460794872707:Nat:=0
def tw3030159794396211459:Nat:=0
def tw14595367690748759461:Nat:=0
def tw10198329235879487437:Nat:=0
def tw4439623161010891892:Nat:=0
def tw4310312046236406428:Nat:=0
def tw13327123247415575771:Nat:=0
def tw765585916235245698:Nat:=0
def tw14577413690504050755:Nat:=0
def tw11934295529314282277:Nat:=0
def tw5444292372306475155:Nat:=0
def tw5683701472752147581:Nat:=0
def tw4481427875973778997:Nat:=0
def tw3326745082492330561:Nat:=0
def tw16714491641987205747:Nat:=0
def tw16383603397651210897:Nat:=0
def tw2026094444318168161:Nat:=0
def tw8774508691700108897:Nat:=0
def tw3315978121623746895:Nat:=0
def tw9084370088206086568:Nat:=0
def tw6397636395203158961:Nat:=0
def tw2509167405294306785:Nat:=0
def tw2378707892621618427:Nat:=0
def tw4147741277442839791:Nat:=0
def tw8939180444108965086:Nat:=0
def tw7233646167368162667:Nat:=0
def tw4617540069185550396:Nat:=0
def tw3834861539501907682:Nat:=0
def tw220034001207551718:Nat:=0
def tw18360734637717408538:Nat:=0
def tw18223136236133716113:Nat:=0
def tw16164430521875490492:Nat:=0
def tw142750829820873471:Nat:=0
def tw10661647675194008391:Nat:=0
def tw10641375686885471189:Nat:=0
def tw9719783657170097824:Nat:=0
def tw9514949408990265922:Nat:=0
def tw8379463265772287887:Nat:=0
def tw7876023123044913739:Nat:=0
def tw7836986678147937521:Nat:=0
def tw7496408578902887244:Nat:=0
def tw7488581747608693219:Nat:=0
def tw7130782441512702807:Nat:=0
def tw6231309435864669764:Nat:=0
def tw6165645645054131937:Nat:=0
def tw6038068947583099523:Nat:=0
def tw603086669510481789:Nat:=0
def tw5929031200692974693:Nat:=0
def tw5897610653402317181:Nat:=0
def tw5771276342426565949:Nat:=0
def tw4982480728211360896:Nat:=0
def tw4258902077004022489:Nat:=0
def tw4170367655918339153:Nat:=0
def tw3718263151414088138:Nat:=0
def tw3332914903912616750:Nat:=0
def tw2178262116560877202:Nat:=0
def tw1970099767139230958:Nat:=0
def tw18159511167661719340:Nat:=0
def tw17899047937060244307:Nat:=0
def tw17762188175110356425:Nat:=0
def tw15718911763886847546:Nat:=0
def tw15655311238459200067:Nat:=0
def tw15451159694685938921:Nat:=0
def tw15360251265228040215:Nat:=0
def tw1293349569615594659:Nat:=0
def tw12896014402277528516:Nat:=0
def tw12137354787488345735:Nat:=0
def tw11796661954579746471:Nat:=0
def tw11443273463839894818:Nat:=0
def tw11313110775280165789:Nat:=0
def tw1096539937835594821:Nat:=0
def tw10236349916205399322:Nat:=0
def tw10206722451539708193:Nat:=0
def tw8889137344651603630:Nat:=0
def tw15422109234485881309:Nat:=0
def tw13615892561732792939:Nat:=0
def tw4847445973604633276:Nat:=0
def tw3546930070122731485:Nat:=0
def tw9080768427334519952:Nat:=0
def tw8719297680468855960:Nat:=0
def tw8471832542447936407:Nat:=0
def tw4541840009451056611:Nat:=0
def tw17256882079132268749:Nat:=0
def tw16190880629029399890:Nat:=0
def tw14396747376468945748:Nat:=0
def tw14217731726070930740:Nat:=0
def tw12534681281098432066:Nat:=0
def tw11617907443960341506:Nat:=0
def tw10399714677639065653:Nat:=0
def tw10391745773170630667:Nat:=0
def tw13061100812644934207:Nat:=0
def tw9813952408868170516:Nat:=0
def tw8875860991791069745:Nat:=0
def tw5301396674296271321:Nat:=0
def tw18430623742253995375:Nat:=0
def tw17945724057759465239:Nat:=0
def tw17586640532668409965:Nat:=0
def tw17392464269859497239:Nat:=0
def tw16931750821093846689:Nat:=0
def tw13324723633117543927:Nat:=0
def tw12649980997335546935:Nat:=0
def tw12287531814518842236:Nat:=0
def tw10275284060287391648:Nat:=0
def tw9941941157769002033:Nat:=0
def tw9399981259005184883:Nat:=0
def tw753592682370152112:Nat:=0
def tw7218578809145572628:Nat:=0
def tw5711476788395176206:Nat:=0
def tw17260731536258760647:Nat:=0
def tw1598498492655230874:Nat:=0
def tw15759218181923544785:Nat:=0
def tw15688270106408532509:Nat:=0
def tw13783908285600930693:Nat:=0
def tw8561695389763926552:Nat:=0
def tw7264539552717595441:Nat:=0
def tw7118385893980118448:Nat:=0
def tw2351034399476373011:Nat:=0
def tw16210308459708620029:Nat:=0
def tw15687609210288968165:Nat:=0
def tw15523334377131084149:Nat:=0
def tw15398381735270824414:Nat:=0
def tw14594203300220476010:Nat:=0
def tw14116645448818748777:Nat:=0
def tw1320994497967375442:Nat:=0
def tw10496579128012772296:Nat:=0
def tw9873944404243477354:Nat:=0
def tw9850985853812577665:Nat:=0
def tw9819769593563751612:Nat:=0
def tw9794915169777826668:Nat:=0
def tw9659683483525839377:Nat:=0
def tw9585441882214840528:Nat:=0
def tw9478261160404562629:Nat:=0
def tw94761427849467894:Nat:=0
def tw9378467594674503109:Nat:=0
def tw9360397736907474738:Nat:=0
def tw9352496951228947068:Nat:=0
def tw9297261916223496284:Nat:=0
def tw9161568423801031401:Nat:=0
def tw9155977058633485461:Nat:=0
def tw9057950779967324131:Nat:=0
def tw9019304534877848072:Nat:=0
def tw8863333393131359532:Nat:=0
def tw8845004721801947620:Nat:=0
def tw8837235598201624986:Nat:=0
def tw8697330412000423978:Nat:=0
def tw8620147457814104722:Nat:=0
def tw8437815051625454276:Nat:=0
def tw8401154623061445352:Nat:=0
def tw8395468588111577036:Nat:=0
def tw834501030793348110:Nat:=0
def tw8294890343289242931:Nat:=0
def tw821538200969551043:Nat:=0
def tw819639626379995870:Nat:=0
def tw8168504609862673340:Nat:=0
def tw8063966024183189988:Nat:=0
def tw8044548053802498724:Nat:=0
def tw8031303564733164512:Nat:=0
def tw7906414356396437703:Nat:=0
def tw7855067829845100018:Nat:=0
def tw7653108478790327097:Nat:=0
def tw7511675578486620458:Nat:=0
def tw7508294880005189400:Nat:=0
def tw7371984703564689911:Nat:=0
def tw7333230045787213128:Nat:=0
def tw7315675746058370149:Nat:=0
def tw7297083837006548189:Nat:=0
def tw713360572352484795:Nat:=0
def tw7073499856167334610:Nat:=0
def tw7017708218931544433:Nat:=0
def tw7007070848601032340:Nat:=0
def tw6903822616320536145:Nat:=0
def tw6840876471110484483:Nat:=0
def tw6663698879515983779:Nat:=0
def tw6430755404256178357:Nat:=0
def tw6413884719336994365:Nat:=0
def tw6400787256994781778:Nat:=0
def tw6327515763826736076:Nat:=0
def tw6275439010123758428:Nat:=0
def tw6266450558640806429:Nat:=0
def tw6250303645923366458:Nat:=0
def tw6219099521313313386:Nat:=0
def tw619276431124938784:Nat:=0
def tw6131752840485710416:Nat:=0
def tw6119608706016144509:Nat:=0
def tw5907591925257836788:Nat:=0
def tw5847550144884242434:Nat:=0
def tw572993414144897643:Nat:=0
def tw5717039901938071345:Nat:=0
def tw5612381954748699241:Nat:=0
def tw5590099684676878312:Nat:=0
def tw5530107399164647769:Nat:=0
def tw5525595071381740426:Nat:=0
def tw5440437476227979028:Nat:=0
def tw5426484782212929284:Nat:=0
def tw5222599909791358143:Nat:=0
def tw5173054704002673550:Nat:=0
def tw5149377316600123606:Nat:=0
def tw5104963956827243408:Nat:=0
def tw5038486769954910777:Nat:=0
def tw4985509683510718723:Nat:=0
def tw4935657855864097153:Nat:=0
def tw4795583843689467912:Nat:=0
def tw473186948701143952:Nat:=0
def tw4650062441714050126:Nat:=0
def tw4647747942125265086:Nat:=0
def tw4576869624886805362:Nat:=0
def tw4532578628142074105:Nat:=0
def tw4521747260225356717:Nat:=0
def tw4461764458808386073:Nat:=0
def tw4409327485768722443:Nat:=0
def tw4252379467758879061:Nat:=0
def tw4124519096941012248:Nat:=0
def tw4112416861591432747:Nat:=0
def tw4069413388451467407:Nat:=0
def tw4041735292901707940:Nat:=0
def tw3994524385774476205:Nat:=0
def tw3959404468992136209:Nat:=0
def tw3944279593631134990:Nat:=0
def tw3929252987966076625:Nat:=0
def tw3881117738393261234:Nat:=0
def tw3792378691792649118:Nat:=0
def tw3772658374686666857:Nat:=0
def tw3767436170271030820:Nat:=0
def tw3764591142379203555:Nat:=0
def tw3756339972296578595:Nat:=0
def tw3679665307872513220:Nat:=0
def tw3643276619631079625:Nat:=0
def tw3599349529009292767:Nat:=0
def tw3596196736069078000:Nat:=0
def tw3388227035609363852:Nat:=0
def tw3304121648182098548:Nat:=0
def tw32984841858025835:Nat:=0
def tw3269020731704949217:Nat:=0
def tw3042998711630175796:Nat:=0
def tw3029674022550304199:Nat:=0
def tw3010721059525651530:Nat:=0
def tw2898992717567279564:Nat:=0
def tw2801304855398266027:Nat:=0
def tw2796986285121450854:Nat:=0
def tw2696563849306051791:Nat:=0
def tw2677815519742537022:Nat:=0
def tw2641170274315795538:Nat:=0
def tw2620952113469677017:Nat:=0
def tw2536609377929525194:Nat:=0
def tw2406536167969970455:Nat:=0
def tw2342769560378416477:Nat:=0
def tw2184138864272865414:Nat:=0
def tw2182765995757230843:Nat:=0
def tw2131137477607998849:Nat:=0
def tw2118274153871239580:Nat:=0
def tw2058689252208173378:Nat:=0
def tw2000396538885363120:Nat:=0
def tw1940234740688308628:Nat:=0
def tw1936028341941189808:Nat:=0
def tw1844942029713012124:Nat:=0
def tw18386574367492619977:Nat:=0
def tw18385131848718037000:Nat:=0
def tw18282303238302548218:Nat:=0
def tw18270399688152394212:Nat:=0
def tw18233421852819637571:Nat:=0
def tw17948760253566986193:Nat:=0
def tw17947534222266844579:Nat:=0
def tw17843417049362497305:Nat:=0
def tw17812377187435402831:Nat:=0
def tw17793196891189849457:Nat:=0
def tw17707082054822946786:Nat:=0
def tw17587583141109336742:Nat:=0
def tw1750366977251152851:Nat:=0
def tw17494322450864914736:Nat:=0
def tw17479541926077250562:Nat:=0
def tw1735360041758535599:Nat:=0
def tw17315713171202935275:Nat:=0
def tw17267325863478280419:Nat:=0
def tw17265432823883611205:Nat:=0
def tw17077135481651545817:Nat:=0
def tw17072098084858620869:Nat:=0
def tw17035961387758234395:Nat:=0
def tw16773397549599338145:Nat:=0
def tw16700578244123463785:Nat:=0
def tw166745770163425422:Nat:=0
def tw1662017532089651239:Nat:=0
def tw16590811737109000262:Nat:=0
def tw1656324849455209075:Nat:=0
def tw16543253411440069782:Nat:=0
def tw16384779588979148909:Nat:=0
def tw16259793201446735246:Nat:=0
def tw16241354715562655727:Nat:=0
def tw16191028935302902556:Nat:=0
def tw16166710935051602194:Nat:=0
def tw16156070832842789091:Nat:=0
def tw16112171953175310565:Nat:=0
def tw1604858651725622125:Nat:=0
def tw15997985461464925005:Nat:=0
def tw1599124041187953522:Nat:=0
def tw1590292984138055278:Nat:=0
def tw15828737864642026439:Nat:=0
def tw15825672126152893606:Nat:=0
def tw15640265357056274479:Nat:=0
def tw15622532964982657765:Nat:=0
def tw1558126414666287611:Nat:=0
def tw15422713110716888076:Nat:=0
def tw1536663089866829779:Nat:=0
def tw15289382912880244670:Nat:=0
def tw15152778041809091035:Nat:=0
def tw15046338257751092200:Nat:=0
def tw15030932814448365285:Nat:=0
def tw15028596974751771005:Nat:=0
def tw14960721395721750007:Nat:=0
def tw14948905946942331990:Nat:=0
def tw14833022644789453523:Nat:=0
def tw14832420695207030566:Nat:=0
def tw14750173892584263607:Nat:=0
def tw14708287427781859197:Nat:=0
def tw14694240617689547856:Nat:=0
def tw14580428347342810174:Nat:=0
def tw14435994764589148570:Nat:=0
def tw14192225332570136592:Nat:=0
def tw14185299557394389062:Nat:=0
def tw141252215700034996:Nat:=0
def tw13814775592890941301:Nat:=0
def tw13812644116328222724:Nat:=0
def tw13757174228474954786:Nat:=0
def tw13628523422900886695:Nat:=0
def tw13578076584980272905:Nat:=0
def tw13505495853590774606:Nat:=0
def tw13345808826703503262:Nat:=0
def tw1324060110837819320:Nat:=0
def tw13183116115131285223:Nat:=0
def tw13014281686721914150:Nat:=0
def tw12655577839546173434:Nat:=0
def tw12528690207304225767:Nat:=0
def tw12527900308422231169:Nat:=0
def tw1240468058200630404:Nat:=0
def tw1224017681473001838:Nat:=0
def tw12141495786175933476:Nat:=0
def tw12097802360423754736:Nat:=0
def tw12082249630478993460:Nat:=0
def tw1203212400040937915:Nat:=0
def tw12019325561647981621:Nat:=0
def tw11864215259551075735:Nat:=0
def tw11759801697748285039:Nat:=0
def tw11747745819579593697:Nat:=0
def tw11623909739519832422:Nat:=0
def tw11525909865731027694:Nat:=0
def tw11522952149345359493:Nat:=0
def tw11432383024574452205:Nat:=0
def tw11379430504735570826:Nat:=0
def tw1132961506649614361:Nat:=0
def tw11266607632450405030:Nat:=0
def tw11147699715943327294:Nat:=0
def tw11083344485323562330:Nat:=0
def tw10967885031595753112:Nat:=0
def tw10959678795966803899:Nat:=0
def tw109423154469260934:Nat:=0
def tw1093982811376960446:Nat:=0
def tw10893623332366122847:Nat:=0
def tw1084680191987769532:Nat:=0
def tw10815682448689028003:Nat:=0
def tw10642858453803395645:Nat:=0
def tw10584291248022224315:Nat:=0
def tw10584243938878577196:Nat:=0
def tw10532867749771444663:Nat:=0
def tw10521307241572696847:Nat:=0
def tw10405404440840582972:Nat:=0
def tw10157709178738660214:Nat:=0
def tw1014097224787472399:Nat:=0
def tw10109796194505033719:Nat:=0
def tw1010784574345420933:Nat:=0
def tw10073950518918426601:Nat:=0
end PySem.W.Fast
local macro_rules|`(tactic| walk_at "def of the top")=>`(tactic| (refine' L3.w8 ?a ?l ?c ?k;(case a=>k_is);(case l=>k_is);(case c=>k_is);(case k=>k_is)))
local macro_rules|`(tactic| walk_at "def of a class")=>`(tactic| (refine' L3.xb ?l ?c ?k ?n;(case l=>k_is);(case c=>k_is);(case k=>k_is);(case n=>k_is)))
local macro_rules|`(tactic| walk_at "class of steps")=>`(tactic| (refine' L3.zi ?ns ?g1 ?g2 ?g3 ?g4 ?m1 ?m2 ?m3 ?m4 ?h7 ?h8 ?na;(case ns=>k_is);(case g1=>k_is);(case g2=>k_is);(case g3=>k_is);(case g4=>k_is);(case m1=>k_is);(case m2=>k_is);(case m3=>k_is);(case m4=>k_is);(case h7=>k_is);(case h8=>k_is);(case na=>(first|(refine' L3.Bv ?x ?y;(case x=>k_is);(case y=>k_is))|(refine' L3.Bw ?x ?y ?z ?u;(case x=>k_is);(case y=>k_is);(case z=>k_is);(case u=>k_is))))))
local macro_rules|`(tactic| walk_at "class of refusals")=>`(tactic| (refine' L3.xc ?tl ?a ?l ?g1 ?g2 ?g3 ?g4;(case a=>k_is);(case l=>k_is);(case tl=>(first|exact L3.Bu|exact L3.Bt));(case g1=>k_is);(case g2=>k_is);(case g3=>k_is);(case g4=>k_is)))
open PySem PySem.W PyProof.Rows
set_option maxRecDepth 100000 in
set_option maxHeartbeats 0 in
theorem PySem.Challenge.cw_rowsbeneath_k19_little_texts_holds : PySem.Challenge.rw_rowsbeneath_k19_little_texts.Holds := by
 w_on;o_law;k_head;(case hw=>w_witness2)
 k_fill
 refine L2.pb (l:=PySem.Challenge.rw_rowsbeneath_k19_little_texts) (n:=63) (k:=11) (x:="_law_script") (CX:=L2.bE) (sp:=L3.rq) rfl (by decide) rfl ⟨rfl,by decide,by decide⟩ (fun w h Y=>PySem.W.kIn_of Y) ?F (fun _ _ a ns hl _ hS=>⟨a,ns,rfl,hS,hl,fun _=>rfl⟩) (fun _ _ _ _ z=>z)
 case F=>
  intro w mg fa h KX G hmg
  refine' L3.xh KX G hmg ?d0 ?d1 ?d2 ?d3 ?d4 ?d5 ?d6 ?d7 ?d8 ?d9 ?d10 ?d11 ?d12 ?d13 ?d14 ?d15 ?d16 ?d17 ?d18 ?d19 ?d20 ?d21 ?d22 ?d23 ?d24 ?d25 ?d26 ?d27 ?d28 ?d29 ?d30 ?d31 ?d32 ?d33 ?d34 ?d35 ?d36 ?d37 ?d38 ?d39 ?d40 ?d41 ?d42 ?d43 ?d44 ?d45 ?d46 ?d47 ?C0 ?I0 ?Q0 ?W0 ?C1 ?I1 ?Q1 ?W1 ?C2 ?I2 ?Q2 ?W2 ?C3 ?I3 ?Q3 ?W3 ?C4 ?I4 ?Q4 ?W4 ?C5 ?I5 ?Q5 ?W5 ?C6 ?I6 ?Q6 ?W6 ?CT ?IT ?QT ?WT ?y1 ?y2 ?y3 ?y4 ?y5 ?y6 ?n_HIGHEST_INNER ?n_HIGHEST_WORD ?n_HIGHEST_FIELD ?n_HIGHEST_SELECTED ?n_HIGHEST_ADDRESS ?n_MOST_STEPS ?n_LONGEST_NAME ?n_MOST_FIGURES ?n_LETTERS ?n_FIGURES ?n_OW ?q_OW ?n_OF ?q_OF ?n_OPS ?dO ?lo ?xR ?rd ?ri ?mR ?xL ?aL ?iL ?nL ?pL ?mL ?xB ?nb1 ?nb2 ?z_len ?z_int ?z_max ?z_min ?z_range ?z_isinstance ?z_list ?z_str ?z_bool ?z_tuple ?z_all ?z_ValueError
  (case d0=>walk_at "def of the top")
  (case d1=>walk_at "def of the top")
  (case d2=>walk_at "def of the top")
  (case d3=>walk_at "def of the top")
  (case d4=>walk_at "def of the top")
  (case d5=>walk_at "def of the top")
  (case d6=>walk_at "def of the top")
  (case d7=>walk_at "def of the top")
  (case d8=>walk_at "def of the top")
  (case d9=>walk_at "def of the top")
  (case d10=>walk_at "def of the top")
  (case d11=>walk_at "def of the top")
  (case d12=>walk_at "def of the top")
  (case d13=>walk_at "def of the top")
  (case d14=>walk_at "def of the top")
  (case d15=>walk_at "def of the top")
  (case d16=>walk_at "def of the top")
  (case d17=>walk_at "def of the top")
  (case d18=>walk_at "def of the top")
  (case d19=>walk_at "def of the top")
  (case d20=>walk_at "def of the top")
  (case d21=>walk_at "def of the top")
  (case d22=>walk_at "def of the top")
  (case d23=>walk_at "def of the top")
  (case d24=>walk_at "def of the top")
  (case d25=>walk_at "def of the top")
  (case d26=>walk_at "def of the top")
  (case d27=>walk_at "def of the top")
  (case d28=>walk_at "def of the top")
  (case d29=>walk_at "def of the top")
  (case d30=>walk_at "def of the top")
  (case d31=>walk_at "def of the top")
  (case d32=>walk_at "def of the top")
  (case d33=>walk_at "def of the top")
  (case d34=>walk_at "def of the top")
  (case d35=>walk_at "def of the top")
  (case d36=>walk_at "def of the top")
  (case d37=>walk_at "def of the top")
  (case d38=>walk_at "def of the top")
  (case d39=>walk_at "def of the top")
  (case d40=>walk_at "def of the top")
  (case d41=>walk_at "def of the top")
  (case d42=>walk_at "def of the top")
  (case d43=>walk_at "def of the top")
  (case d44=>walk_at "def of the top")
  (case d45=>walk_at "def of the top")
  (case d46=>walk_at "def of the top")
  (case d47=>walk_at "def of the top")
  (case C0=>walk_at "class of steps")
  (case I0=>walk_at "def of a class")
  (case Q0=>walk_at "def of a class")
  (case W0=>walk_at "def of a class")
  (case C1=>walk_at "class of steps")
  (case I1=>walk_at "def of a class")
  (case Q1=>walk_at "def of a class")
  (case W1=>walk_at "def of a class")
  (case C2=>walk_at "class of steps")
  (case I2=>walk_at "def of a class")
  (case Q2=>walk_at "def of a class")
  (case W2=>walk_at "def of a class")
  (case C3=>walk_at "class of steps")
  (case I3=>walk_at "def of a class")
  (case Q3=>walk_at "def of a class")
  (case W3=>walk_at "def of a class")
  (case C4=>walk_at "class of steps")
  (case I4=>walk_at "def of a class")
  (case Q4=>walk_at "def of a class")
  (case W4=>walk_at "def of a class")
  (case C5=>walk_at "class of steps")
  (case I5=>walk_at "def of a class")
  (case Q5=>walk_at "def of a class")
  (case W5=>walk_at "def of a class")
  (case C6=>walk_at "class of steps")
  (case I6=>walk_at "def of a class")
  (case Q6=>walk_at "def of a class")
  (case W6=>walk_at "def of a class")
  (case CT=>walk_at "class of steps")
  (case IT=>walk_at "def of a class")
  (case QT=>walk_at "def of a class")
  (case WT=>walk_at "def of a class")
  (case y1=>k_is)
  (case y2=>k_is)
  (case y3=>k_is)
  (case y4=>k_is)
  (case y5=>k_is)
  (case y6=>k_is)
  (case n_HIGHEST_INNER=>k_is)
  (case n_HIGHEST_WORD=>k_is)
  (case n_HIGHEST_FIELD=>k_is)
  (case n_HIGHEST_SELECTED=>k_is)
  (case n_HIGHEST_ADDRESS=>k_is)
  (case n_MOST_STEPS=>k_is)
  (case n_LONGEST_NAME=>k_is)
  (case n_MOST_FIGURES=>k_is)
  (case n_LETTERS=>k_is)
  (case n_FIGURES=>k_is)
  (case n_OW=>k_is)
  (case q_OW=>refine' L3.kc ?h;(case h=>k_is))
  (case n_OF=>k_is)
  (case q_OF=>refine' L3.iG ?h;(case h=>k_is))
  (case n_OPS=>k_is)
  (case dO=>refine' L3.xf ?h;(case h=>k_is))
  (case lo=>rfl)
  (case xR=>walk_at "class of refusals")
  (case rd=>k_is)
  (case ri=>k_is)
  (case mR=>walk_at "def of a class")
  (case xL=>walk_at "class of refusals")
  (case aL=>k_is)
  (case iL=>k_is)
  (case nL=>k_is)
  (case pL=>k_is)
  (case mL=>walk_at "def of a class")
  (case xB=>walk_at "class of refusals")
  (case nb1=>rfl)
  (case nb2=>rfl)
  (case z_len=>k_is)
  (case z_int=>k_is)
  (case z_max=>k_is)
  (case z_min=>k_is)
  (case z_range=>k_is)
  (case z_isinstance=>k_is)
  (case z_list=>k_is)
  (case z_str=>k_is)
  (case z_bool=>k_is)
  (case z_tuple=>k_is)
  (case z_all=>k_is)
  (case z_ValueError=>k_is)
