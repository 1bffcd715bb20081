import PyProof.Rows.All
import Wide.All
import OpenK.AllK
import Wide.FinOn
import Lean
import PyProof.EqAt
import PyProof.EqKinds
import PyProof.TupleCall
import PySem.Challenge.RW_rowsbeneath_k13_lines_refused
set_option Elab.async false
set_option linter.all false
set_option maxRecDepth 100000
section
open PySem PySem.Spec PyProof.Rows
def D5:=@List.length_map
def D6:=@Heap.get?_push_of_some
def D7:=@List.getElem?_eq_some_iff
def D8:=@List.length_cons
def D9:=@List.length_append
def Ea:=@List.mem_cons_self
def Eb:=@List.getElem?_map
def Ec:=@Nat.le_refl
def Ed:=@List.map_append
def Ee:=@List.mem_cons_of_mem
def Ef:=@Heap.lt_size
def Eg:=@Option.some.inj
def Eh:=@List.length_take
def Ei:=@PySem.boot_len
def Ej:=@List.mem_cons
def Ek:=@List.map_cons
def El:=@List.getElem?_eq_getElem
def Em:=@Heap.get?_push_size
def En:=@List.size_toArray
def Eo:=@Bool.false_ne_true
def Ep:=@PySem.F.plainAttrs_list
def Er:=@Nat.lt_of_lt_of_le
def Es:=@List.not_mem_nil
def Et:=@PySem.F.type_list_append
def Eu:=@PySem.F.slot_list_append
def Ev:=@List.length_nil
def Ew:=@Nat.le_trans
def Ex:=@List.mem_of_getElem?
def Ey:=@Nat.ne_of_lt
def Ez:=@List.mem_append
def EA:=@PySem.W.mg_of
def EB:=@Bool.and_eq_true
def EC:=@List.take_of_length_le
def ED:=@List.mem_map
def EE:=@PySem.F.plainAttrs_str
def EF:=@List.length_drop
def EG:=@List.mem_singleton
def EH:=@List.mem_append_right
def EI:=@List.take_length
def EJ:=@List.take_succ
def EK:=@List.contains_iff_mem
def EL:=@PySem.W.mg_none_of
def EM:=@Nat.zero_le
def EQ:=@List.drop_eq_getElem_cons
def ER:=@List.all_eq_true
def ET:=@List.append_nil
def EU:=@List.append_assoc
def EV:=@PyProof.Rows.callWith_type1
def EW:=@PyProof.Rows.boot_int
def EX:=@Bool.eq_iff_iff
def EY:=@Bool.eq_false_iff
def EZ:=@List.mem_of_mem_take
def E1:=@List.map_map
def E2:=@Heap.size_push
def E3:=@PySem.W.kia_one
def E4:=@PySem.F.type_str_join
def E5:=@PySem.F.slot_str_join
def E6:=@Int.toNat_natCast
def E7:=@Nat.lt_irrefl
def E8:=@List.cons_append
def E9:=@List.getElem_mem
def Fa:=@List.lookup_cons
def Fb:=@List.mem_range
def Fc:=@List.length_replicate
def Fd:=@List.take_append_drop
def Fe:=@Nat.pow_le_pow_right
def Ff:=@List.length_eq_zero_iff
def Fg:=@List.flatten_cons
def Fh:=@Nat.min_eq_left
def Fi:=@PySem.W.callWith_K
def Fj:=@List.mem_append_left
def Fk:=@List.nodup_cons
def Fl:=@List.filterMap_cons
def Fo:=@PySem.mem_of_lookup
def Fp:=@List.find?_cons
def Fq:=@List.drop_zero
def Fr:=@List.getElem?_append_left
def Fs:=@Nat.lt_succ_self
def Ft:=@List.mem_filter
def Fu:=@List.of_mem_zip
def Fv:=@List.cons.inj
def Fw:=@Calls.callWith_builtin
def Fx:=@List.any_cons
def Fy:=@Option.map_some
def Fz:=@Nat.ne_of_gt
end
namespace L2
open PySem PySem.Spec PyProof.Rows
abbrev cq:=Sum Int Str
def kJ:cq->Value->Bool
 | .inl k,v=>Value.isInt k v
 | .inr x,v=>Value.isStrOf x v
def Cu (w:World):cq->Int
 | .inl k=>hashInt k
 | .inr x=>hashStr w x
theorem cf:∀ {k:cq} {v:Value},kJ k v=true->(∃ i t,k=Sum.inl i/\v=Value.int i t)\/(∃ x t,k=Sum.inr x/\v=Value.str x t)
 | .inl i,v,h=>by
  obtain ⟨t,e⟩:=Value.isInt_shape (k:=i) (v:=v) h
  exact .inl ⟨i,t,rfl,e⟩
 | .inr x,v,h=>by
  obtain ⟨t,e⟩:=Value.isStrOf_shape (x:=x) (v:=v) h
  exact .inr ⟨x,t,rfl,e⟩
theorem rP (i:Int) (t:Tok):kJ (.inl i) (.int i t)=true:=by simp [kJ,Value.isInt]
theorem rQ (x:Str) (t:Tok):kJ (.inr x) (.str x t)=true:=by simp [kJ,Value.isStrOf]
theorem zc (a b:Int):decide ((Sum.inl a:cq)=Sum.inl b)=(a == b):=by
 by_cases e:a=b
 ·subst e;simp
 ·have h:¬ (Sum.inl a:cq)=Sum.inl b:=fun q=>e (Sum.inl.inj q)
  rw [decide_eq_false h]
  exact (beq_eq_false_iff_ne.mpr e).symm
theorem zd (a b:Str):decide ((Sum.inr a:cq)=Sum.inr b)=decide (a=b):=by
 by_cases e:a=b
 ·subst e;simp
 ·have h:¬ (Sum.inr a:cq)=Sum.inr b:=fun q=>e (Sum.inr.inj q)
  rw [decide_eq_false h,decide_eq_false e]
theorem ze (a:Int) (b:Str):decide ((Sum.inl a:cq)=Sum.inr b)=false:=decide_eq_false (fun q=>nomatch q)
theorem zf (a:Str) (b:Int):decide ((Sum.inr a:cq)=Sum.inl b)=false:=decide_eq_false (fun q=>nomatch q)
def cg (prog:Program) (w:World):PySem.KeyKind prog w cq where
 is:=kJ
 hash:=Cu w
 inj:=fun v a b ha hb=>by
  rcases cf ha with ⟨i,t,rfl,rfl⟩|⟨x,t,rfl,rfl⟩
  ·rcases cf hb with ⟨j,u,rfl,e⟩|⟨y,u,rfl,e⟩
   ·injection e with e1 _;rw [e1]
   ·exact nomatch e
  ·rcases cf hb with ⟨j,u,rfl,e⟩|⟨y,u,rfl,e⟩
   ·exact nomatch e
   ·injection e with e1 _;rw [e1]
 byValue:=fun k v h=>by
  rcases cf h with ⟨i,t,rfl,rfl⟩|⟨x,t,rfl,rfl⟩<;>rfl
 pyHash:=fun hv h=>by
  rcases cf hv with ⟨i,t,rfl,rfl⟩|⟨x,t,rfl,rfl⟩
  ·exact wpAny_pyHash_int h
  ·exact wpAny_pyHash_str h
 eqBool:=fun hu hv h=>by
  rcases cf hu with ⟨i,t,rfl,rfl⟩|⟨x,t,rfl,rfl⟩
  ·rcases cf hv with ⟨j,u,rfl,rfl⟩|⟨y,u,rfl,rfl⟩
   ·rw [zc] at h;exact wpAny_eqBool_int h
   ·rw [ze] at h;exact SeqAt.EqAt.int_str i t y u _ _ _ _ h
  ·rcases cf hv with ⟨j,u,rfl,rfl⟩|⟨y,u,rfl,rfl⟩
   ·rw [zf] at h;exact SeqAt.EqAt.str_int x t j u _ _ _ _ h
   ·rw [zd] at h;exact wpAny_eqBool_str h
 «strs»:=fun k x t v h=>by
  rcases cf h with ⟨i,u,rfl,e⟩|⟨y,u,rfl,e⟩
  ·exact nomatch e
  ·injection e with e1 _
   subst e1
   cases v<;>rfl
theorem ny (prog:Program) (w:World) (i:Int) (t:Tok):(cg prog w).is (.inl i) (.int i t)=true:=rP i t
theorem nz (prog:Program) (w:World) (x:Str) (t:Tok):(cg prog w).is (.inr x) (.str x t)=true:=rQ x t
end L2
namespace L2
open PySem PySem.Spec PyProof.Rows
inductive V where
 | non|bl (b:Bool)|int (i:Int)|str (x:Str)|byt (b:Array UInt8)|flt (b:UInt64)|ref (a:Addr)|ty (n:String)
 deriving DecidableEq
def RelV:V->Value->Prop
 | .non,u=>u=Value.none
 | .bl b,u=>u=Value.bool b
 | .int i,u=>∃ t,u=Value.int i t
 | .str x,u=>∃ t,u=Value.str x t
 | .byt b,u=>∃ t,u=Value.bytes b t
 | .flt b,u=>∃ t,u=Value.float b t
 | .ref a,u=>u=Value.ref a
 | .ty n,u=>u=Value.type n
abbrev Vals:List V->List Value->Prop:=Paired RelV
theorem Vals.length {xs:List V} {us:List Value} (r:Vals xs us):xs.length=us.length:=Paired.length r
theorem Vals.get:∀ {xs:List V} {us:List Value} {i:Nat} {x:V},Vals xs us->xs[i]?=some x->∃ u,us[i]?=some u/\RelV x u
 | _,_,_,_,.nil,e=>by simp at e
 | _,_,0,_,.cons r _,e=>by simp at e;subst e;exact ⟨_,rfl,r⟩
 | _,_,i+1,x,.cons _ t,e=>by
  obtain ⟨u,h1,h2⟩:=Vals.get (i:=i) (x:=x) t (by simpa using e)
  exact ⟨u,by simpa using h1,h2⟩
theorem Vals.set {x:V} {u:Value} (r:RelV x u):∀ {xs:List V} {us:List Value} (i:Nat),Vals xs us->Vals (xs.set i x) (us.set i u)
 | _,_,_,.nil=>.nil
 | _,_,0,.cons _ t=>.cons r t
 | _,_,i+1,.cons q t=>.cons q (Vals.set r i t)
theorem Vals.append:∀ {xs ys:List V} {us ws:List Value},Vals xs us->Vals ys ws->Vals (xs++ys) (us++ws)
 | _,_,_,_,.nil,s=>s
 | _,_,_,_,.cons r t,s=>.cons r (Vals.append t s)
theorem Vals.take:∀ {xs:List V} {us:List Value} (n:Nat),Vals xs us->Vals (xs.take n) (us.take n)
 | _,_,0,_=>.nil
 | _,_,_+1,.nil=>.nil
 | _,_,n+1,.cons r t=>.cons r (Vals.take n t)
theorem Vals.drop:∀ {xs:List V} {us:List Value} (n:Nat),Vals xs us->Vals (xs.drop n) (us.drop n)
 | _,_,0,r=>r
 | _,_,_+1,.nil=>.nil
 | _,_,n+1,.cons _ t=>Vals.drop n t
def RelO:Option V->Option Value->Prop
 | some v,some u=>RelV v u
 | none,none=>True
 | _,_=>False
def KV {κ:Type}:List (κ×V)->List (κ×Value)->Prop:=Paired fun (p:κ×V) (q:κ×Value)=>p.1=q.1/\RelV p.2 q.2
def kV:cq->V
 | .inl i=>.int i
 | .inr x=>.str x
inductive HO where
 | lst (xs:List V)
 | tup (xs:List V)
 | dK (kvs:List (cq×V))|dT (kvs:List (List cq×V))
 | set (S:Int->Bool) (n:Nat)
 | ins (C dx:Addr) (fs:List (Str×V))
 | own (x:Addr)
 | xd (fs:List (Str×V))
 | met (f x:Addr)
 | rng (lo hi:Int)
 | frz (o:Obj) (u:HO)
 | tbl (ps:Array Value)
 | ext (φ:Heap->Prop)
abbrev Hp:=Addr->Option HO
def ax (H:Hp) (a:Addr) (o:HO):Hp:=fun b=>if b=a then some o else H b
theorem ad {H:Hp} {a:Addr} {o:HO}:ax H a o a=some o:=by unfold ax;rw [if_pos rfl]
theorem ao {H:Hp} {a b:Addr} {o:HO} (h:b≠a):ax H a o b=H b:=by unfold ax;rw [if_neg h]
theorem AT {H:Hp} {a b:Addr} {o u:HO} (h:H a=some o) (h':H b=some u) (d:o≠u):a≠b:=by
 intro e;subst e;rw [h] at h';exact d (Eg h')
theorem aG {H:Hp} {a b:Addr} {o:HO} (h:H a=some o) (h':H b=none):a≠b:=by
 intro e;subst e;rw [h] at h';cases h'
def TupP (h:Heap) (a:Addr) (items:Array Value):Prop:=∃ o,h.get? a=some o/\(o.cls,o.dict)=(Value.type "tuple",none)/\∃ n,o.data=Data.seq items n
theorem TupP.up {h:Heap} {a:Addr} {items:Array Value} (p:TupP h a items):IsTup h a items:=let ⟨o,e,c,d⟩:=p;⟨o,e,(Prod.mk.inj c).1,d⟩
theorem TupP.lt {h:Heap} {a:Addr} {items:Array Value} (p:TupP h a items):a < h.objs.size:=let ⟨_,e,_⟩:=p;Ef e
theorem TupP.new (h:Heap) (items:Array Value):TupP (h.push { cls:=.type "tuple",data:=.seq items }) h.objs.size items:=⟨_,Em _ rfl,rfl,_,rfl⟩
section
variable (P:Program) (w:World)
def ObjOk (H:Hp) (h:Heap) (a:Addr):HO->Prop
 | .lst xs=>xs.length<=sizeLine/\∃ (its:List Value) (n:Nat),Vals xs its/\h.get? a=some { cls:=.type "list",data:=.seq its.toArray n }
 | .tup xs=>xs.length<=sizeLine/\∃ its:List Value,Vals xs its/\TupP h a its.toArray
 | .dK kvs=>kvs.length<=sizeLine/\(a == sysModules)=false/\∃ vs,KV kvs vs/\h.DictOf (cg P w) a vs
 | .dT kvs=>kvs.length<=sizeLine/\(a == sysModules)=false/\∃ xs:List (List cq×Addr×Value),
   Paired (fun (p:List cq×V) (q:List cq×Addr×Value)=>p.1=q.1/\H q.2.1=some (.tup (p.1.map kV))/\RelV p.2 q.2.2) kvs xs /\
   ∃ o es ep,h.get? a=some o/\o.ExactDict/\o.data=.dict es ep/\es.toList=xs.map (entryOfKey (tupleKind (cg P w)))/\(xs.map (·.1)).Nodup
 | .set S n=>h.SetOf (intKind P w) a S n
 | .ins C dx fs=>H dx=some (.own a)/\fs.length<=1000/\dx≠a/\h.get? a=some (PySem.W.instObj C dx) /\
   ∃ mA,h.Ns1 dx mA/\(∀ f,RelO (fs.lookup f) (mA f))/\PySem.Within mA (fs.map (·.1))
 | .own _=>∃ o,h.get? a=some o
 | .xd fs=>∃ mA,h.Ns1 a mA/\∀ f,RelO (fs.lookup f) (mA f)
 | .rng lo hi=>∃ t u v,h.get? a=some { cls:=.type "range",data:=.fields #[.int lo t,.int hi u,.int 1 v] }
 | .frz o u=>h.get? a=some o/\ObjOk H h a u
 | .tbl ps=>h.get? a=some { cls:=.none,data:=.fields ps }
 | .met f x=>h.get? a=some (PySem.W.methodObj (.ref f) (.ref x))
 | .ext φ=>φ h/\(∃ o,h.get? a=some o)/\∀ h1 h2:Heap,φ h1->(∀ o,h1.get? a=some o->h2.get? a=some o)->φ h2
def HOk (H:Hp) (h:Heap):Prop:=∀ a o,H a=some o->ObjOk P w H h a o
end
section
variable {P:Program} {w:World} {H H':Hp} {h h':Heap} {a:Addr} {o:HO}
theorem ObjOk.lt (x:ObjOk P w H h a o):a < h.objs.size:=by
 cases o with
 | lst xs=>obtain ⟨_,_,_,_,e⟩:=x;exact Ef e
 | tup xs=>obtain ⟨_,_,_,p⟩:=x;exact p.lt
 | dK kvs=>obtain ⟨_,_,_,_,o,_,_,e,_⟩:=x;exact Ef e
 | dT kvs=>obtain ⟨_,_,_,_,o,_,_,e,_⟩:=x;exact Ef e
 | set S n=>obtain ⟨o,_,_,_,e,_⟩:=x;exact Ef e
 | ins C dx fs=>obtain ⟨_,_,_,e,_⟩:=x;exact Ef e
 | own y=>obtain ⟨_,e⟩:=x;exact Ef e
 | xd fs=>obtain ⟨_,⟨_,_,_,e,_⟩,_⟩:=x;exact Ef e
 | rng lo hi=>obtain ⟨_,_,_,e⟩:=x;exact Ef e
 | frz ob u=>obtain ⟨e,_⟩:=x;exact Ef e
 | tbl ps=>exact Ef (show h.get? a=some _ from x)
 | met f y=>exact Ef (show h.get? a=some _ from x)
 | ext φ=>obtain ⟨_,⟨_,e⟩,_⟩:=x;exact Ef e
theorem Paired.mapP {α β:Type} {F G:α->β->Prop}:∀ {l₁:List α} {l₂:List β},Paired F l₁ l₂->(∀ a b,F a b->G a b)->Paired G l₁ l₂
 | _,_,.nil,_=>.nil
 | _,_,.cons r t,f=>.cons (f _ _ r) (Paired.mapP t f)
theorem ObjOk.stay (x:ObjOk P w H h a o) (k:∀ b u,(b=a\/H b=some (.own a))->h.get? b=some u->h'.get? b=some u)
  (ho:∀ b,H b=some (.own a)->H' b=some (.own a)) (ht:∀ b xs,H b=some (.tup xs)->H' b=some (.tup xs)):ObjOk P w H' h' a o:=by
 induction o with
 | lst xs=>obtain ⟨z,its,n,r,e⟩:=x;exact ⟨z,its,n,r,k _ _ (.inl rfl) e⟩
 | tup xs=>obtain ⟨z,its,r,ob,e,c⟩:=x;exact ⟨z,its,r,ob,k _ _ (.inl rfl) e,c⟩
 | dK kvs=>obtain ⟨z,y,vs,r,ob,es,ep,e,c⟩:=x;exact ⟨z,y,vs,r,ob,es,ep,k _ _ (.inl rfl) e,c⟩
 | dT kvs=>
  obtain ⟨z,y,xs,r,ob,es,ep,e,c⟩:=x
  exact ⟨z,y,xs,Paired.mapP r fun p q z=>⟨z.1,ht _ _ z.2.1,z.2.2⟩,ob,es,ep,k _ _ (.inl rfl) e,c⟩
 | set S n=>obtain ⟨ob,es,ep,t,e,c⟩:=x;exact ⟨ob,es,ep,t,k _ _ (.inl rfl) e,c⟩
 | ins C dx fs=>
  obtain ⟨d,z,ne,e,mA,⟨od,es,ep,e2,c⟩,r⟩:=x
  exact ⟨ho _ d,z,ne,k _ _ (.inl rfl) e,mA,⟨od,es,ep,k _ _ (.inr d) e2,c⟩,r⟩
 | own y=>obtain ⟨ob,e⟩:=x;exact ⟨ob,k _ _ (.inl rfl) e⟩
 | xd fs=>obtain ⟨mA,⟨od,es,ep,e,c⟩,r⟩:=x;exact ⟨mA,⟨od,es,ep,k _ _ (.inl rfl) e,c⟩,r⟩
 | rng lo hi=>obtain ⟨t,u,v,e⟩:=x;exact ⟨t,u,v,k _ _ (.inl rfl) e⟩
 | frz ob u ih=>obtain ⟨e,q⟩:=x;exact ⟨k _ _ (.inl rfl) e,ih q⟩
 | tbl ps=>
  have e:h.get? a=some { cls:=.none,data:=.fields ps }:=x
  show h'.get? a=some { cls:=.none,data:=.fields ps }
  exact k a _ (.inl rfl) e
 | met f y=>
  have e:h.get? a=some (PySem.W.methodObj (.ref f) (.ref y)):=x
  show h'.get? a=some (PySem.W.methodObj (.ref f) (.ref y))
  exact k a _ (.inl rfl) e
 | ext φ=>obtain ⟨p,⟨o,e⟩,st⟩:=x;exact ⟨st _ _ p fun o q=>k _ _ (.inl rfl) q,⟨o,k _ _ (.inl rfl) e⟩,st⟩
theorem HOk.lt (x:HOk P w H h) (e:H a=some o):a < h.objs.size:=(x a o e).lt
theorem HOk.fresh (x:HOk P w H h) (e:h.objs.size<=a):H a=none:=by
 cases q:H a with
 | none=>rfl
 | some u=>exact absurd (Er (x.lt q) e) (E7 _)
theorem HOk.kept (x:HOk P w H h) (k:∀ b u,h.get? b=some u->h'.get? b=some u):HOk P w H h':=fun a o e=>
 (x a o e).stay (fun b u _ q=>k b u q) (fun _ q=>q) fun _ _ q=>q
theorem HOk.laid (x:HOk P w H h) (k:∀ b u,h.get? b=some u->h'.get? b=some u) (hp:h.objs.size<=a) (new:ObjOk P w (ax H a o) h' a o):HOk P w (ax H a o) h':=fun b u e=>by
 have hn:=x.fresh hp
 by_cases hb:b=a
 ·subst hb;rw [ad] at e;cases e;exact new
 ·rw [ao hb] at e
  exact (x b u e).stay (fun c v _ q=>k c v q) (fun c q=>by rw [ao (aG q hn)];exact q) fun c xs q=>by rw [ao (aG q hn)];exact q
end
def Rd (H:Hp) (a:Addr) (u:HO):Prop:=H a=some u\/∃ o,H a=some (.frz o u)
theorem Rd.ok {P:Program} {w:World} {H:Hp} {h:Heap} {a:Addr} {u:HO} (r:Rd H a u) (x:HOk P w H h):ObjOk P w H h a u:=by
 rcases r with r|⟨o,r⟩
 ·exact x a u r
 ·obtain ⟨_,q⟩:=x a _ r
  exact q
def AU:Option HO->Prop
 | some (.lst _)=>True
 | some (.dK _)=>True
 | some (.dT _)=>True
 | some (.set _ _)=>True
 | some (.ins _ _ _)=>True
 | some (.ext _)=>True
 | _=>False
section
variable {P:Program} {w:World} {H:Hp} {h h':Heap} {x e:Addr} {o':HO}
theorem HOk.write (ok:HOk P w H h) (mu:AU (H x)) (he:e=x\/H e=some (.own x)) (k:∀ b u,b≠e->h.get? b=some u->h'.get? b=some u) (heo:∃ u,h'.get? e=some u)
  (new:ObjOk P w (ax H x o') h' x o'):HOk P w (ax H x o') h':=fun b u q=>by
 have nown:∀ c y,H c=some (.own y)->c≠x:=fun c y r z=>by subst z;rw [r] at mu;exact mu
 have ntup:∀ c xs,H c=some (.tup xs)->c≠x:=fun c xs r z=>by subst z;rw [r] at mu;exact mu
 by_cases hb:b=x
 ·subst hb;rw [ad] at q;cases q;exact new
 ·rw [ao hb] at q
  by_cases hbe:b=e
  ·have q':H b=some (.own x):=by
    rcases he with z|z
    ·exact absurd (hbe.trans z) hb
    ·rw [hbe];exact z
   rw [q] at q';cases q'
   obtain ⟨v,hv⟩:=heo
   exact ⟨v,by rw [hbe];exact hv⟩
  ·refine (ok b u q).stay (fun c v hc r=>k c v ?_ r) (fun c r=>by rw [ao (nown c b r)];exact r) fun c xs r=>by rw [ao (ntup c xs r)];exact r
   rcases hc with rfl|hc
   ·exact hbe
   ·rintro rfl
    rcases he with z|z
    ·exact nown c b hc z
    ·rw [hc] at z;cases z;exact hb rfl
end
structure Un (fs ex:List Addr) (H H':Hp) (h h':Heap):Prop where
 keep:∀ b o,h.get? b=some o->H b=none->b∉fs->b∉ex->h'.get? b=some o
 slot:∀ b o,h.get? b=some o->H b=none->b∈fs->b∉ex->∃ sl,h'.get? b=some { o with slots:=sl }
 free:∀ b o,h.get? b=some o->H b=none->b∉ex->H' b=none
 there:∀ b o,h.get? b=some o->b∉ex->∃ o',h'.get? b=some o'
 tups:∀ b xs,H b=some (.tup xs)->H' b=some (.tup xs)
 frzs:∀ b o u,H b=some (.frz o u)->H' b=some (.frz o u)
 tbls:∀ b ps,H b=some (.tbl ps)->∃ more,H' b=some (.tbl (ps++more))
section
variable {fs fs' ex ex':List Addr} {H H1 H2:Hp} {h h1 h2 h':Heap} {a x e:Addr} {o:HO}
theorem Un.any (u:Un fs ex H H1 h h1) {b:Addr} {ob:Obj} (q:h.get? b=some ob) (n:H b=none) (hx:b∉ex):∃ sl,h1.get? b=some { ob with slots:=sl }:=by
 by_cases hb:b∈fs
 ·exact u.slot b ob q n hb hx
 ·exact ⟨ob.slots,u.keep b ob q n hb hx⟩
theorem Un.kept (k:∀ b u,h.get? b=some u->h'.get? b=some u):Un fs ex H H h h':=
 ⟨fun b ob q _ _ _=>k b ob q,fun b ob q _ _ _=>⟨ob.slots,k b ob q⟩,fun _ _ _ n _=>n,fun b ob q _=>⟨ob,k b ob q⟩,fun _ _ q=>q,fun _ _ _ q=>q,fun _ ps q=>⟨#[],by rw [q];simp⟩⟩
theorem Un.refl:Un fs ex H H h h:=Un.kept fun _ _ q=>q
theorem Un.laid (k:∀ b u,h.get? b=some u->h'.get? b=some u) (hp:h.objs.size<=a) (hn:H a=none):Un fs ex H (ax H a o) h h' where
 keep:=fun b u q _ _ _=>k b u q
 slot:=fun b u q _ _ _=>⟨u.slots,k b u q⟩
 free:=fun b u q n _=>by rw [ao (Ey (Er (Ef q) hp))];exact n
 there:=fun b u q _=>⟨u,k b u q⟩
 tups:=fun b xs q=>by rw [ao (aG q hn)];exact q
 frzs:=fun b u xs q=>by rw [ao (aG q hn)];exact q
 tbls:=fun b ps q=>⟨#[],by rw [ao (aG q hn),q];simp⟩
theorem Un.write (mu:AU (H x)) (he:e=x\/H e=some (.own x)) (k:∀ b u,b≠e->h.get? b=some u->h'.get? b=some u) (heo:∃ u,h'.get? e=some u):Un fs ex H (ax H x o) h h':=by
 have hx:∀ b,H b=none->b≠x:=fun b n z=>by subst z;rw [n] at mu;exact mu
 have hb:∀ b,H b=none->b≠e:=fun b n z=>by
  subst z
  rcases he with r|r
  ·exact hx b n r
  ·rw [n] at r;cases r
 have hm:∀ b u,H b=some u->¬ AU (some u)->b≠x:=fun b u q nm z=>by subst z;rw [q] at mu;exact nm mu
 refine ⟨fun b u q n _ _=>k b u (hb b n) q,fun b u q n _ _=>⟨u.slots,k b u (hb b n) q⟩,fun b u q n _=>by rw [ao (hx b n)];exact n,fun b u q _=>?_,
  fun b xs q=>by rw [ao (hm b _ q fun z=>z)];exact q,fun b u xs q=>by rw [ao (hm b _ q fun z=>z)];exact q,fun b ps q=>⟨#[],by rw [ao (hm b _ q fun z=>z),q];simp⟩⟩
 by_cases hbe:b=e
 ·subst hbe;exact heo
 ·exact ⟨u,k b u hbe q⟩
end
def Cm (h:Heap) (H:Hp):List Addr:=(List.range h.objs.size).filter fun a=>(H a).isSome
def lO (h:Heap) (H:Hp):Heap:=PySem.W.hideAll h (Cm h H)
theorem rR (h:Heap) (H:Hp):(lO h H).objs.size=h.objs.size:=PySem.W.hideAll_size _ _
theorem tX {h:Heap} {H:Hp} {b:Addr} {o:Obj} (e:h.get? b=some o) (n:H b=none):(lO h H).get? b=some o:=
 PySem.W.hideAll_get _ e fun hm=>by
  have q:(H b).isSome=true:=(Ft.mp hm).2
  rw [n] at q;simp at q
theorem wU {h:Heap} {H:Hp} {b:Addr} {o:Obj} (e:(lO h H).get? b=some o):h.get? b=some o/\H b=none:=by
 have e':h.get? b=some o:=PySem.W.of_hideAll (Cm h H) e
 refine ⟨e',?_⟩
 cases q:H b with
 | none=>rfl
 | some x=>
  have hm:b∈Cm h H:=Ft.mpr ⟨Fb.mpr (Ef e'),by simp [q]⟩
  have z:(lO h H).get? b=none:=PySem.W.hideAll_none (Cm h H) hm
  rw [z] at e;cases e
end L2
namespace L2
open PySem PySem.Spec PyProof.Rows
structure Mod (K:PySem.W.Frag) (mg:Str->Option Value) (base:Heap):Prop where
 kin:K.In base
 glob:base.Ns mainGlobals mg
 blt:∃ mb,base.Ns builtinsNs mb/\∀ x:Str,x≠"__name__"->mb x=bootBuiltins x
 nolimit:base.NoLimit
structure Cx where
 prog:Program
 w:World
 K:PySem.W.Frag
 mg:Str->Option Value
 base:Heap
 A:Around
 N:List Str
 s₀:Shared
 H₀:Hp
 env:Env
 outer:List Env
 stack:List Env
 ex:List Addr
 fn:Str->Bool
 calm:Bool
 pn:List (Addr×Obj)
 xe:Value->Shared->Prop
def lP (l:List Env):List Addr:=l.filterMap (·.frame)
abbrev Cx.fs (X:Cx):List Addr:=lP X.outer
def AV (sc:Scope) (x:Str):Prop:=sc.names.lookup x=some .local\/sc.names.lookup x=some .cell\/sc.names.lookup x=some .free
def AW (sc:Scope) (x:Str):Prop:=sc.names.lookup x=some .local\/sc.names.lookup x=some .cell
def AX (env:Env) (h:Heap) (m:Str->Option Value) (x:Str) (u:Value):Prop:=
 (env.kindOf x=some .local/\m x=some u)\/((env.kindOf x=some .cell\/env.kindOf x=some .free)/\∃ c,env.cells.lookup x=some c/\h.IsCell c (some u))
structure Cx.Ok (X:Cx):Prop where
 mod:Mod X.K X.mg X.base
 kind:X.env.scope.kind=.function
 glob:X.env.globals=mainGlobals
 blt:X.env.builtins=builtinsNs
 above:X.s₀.heap.objs.size<=X.env.locals
 inj:∀ x y c,X.env.cells.lookup x=some c->X.env.cells.lookup y=some c->x=y
 has:∀ x,(X.env.kindOf x=some .cell\/X.env.kindOf x=some .free)->∃ c,X.env.cells.lookup x=some c
 cab:∀ x c,X.fn x=true->X.env.cells.lookup x=some c->X.s₀.heap.objs.size<=c
 hd:X.calm=true->X.A.handled=none
 frames:X.A.frames=some X.stack
 stk:X.stack=X.outer\/(X.stack=X.env::X.outer/\X.env.frame=some X.env.locals)
 exf:∀ b∈X.ex,b≠X.env.locals/\∀ x c,X.env.cells.lookup x=some c->c≠b
 bs:∀ b o,X.base.get? b=some o->X.s₀.heap.get? b=some o/\X.H₀ b=none
 bsz:X.base.objs.size<=X.s₀.heap.objs.size
 noex:∀ b o,X.base.get? b=some o->b∉X.ex
 exfs:∀ b∈X.ex,b∉X.fs
 funs:X.s₀.heap.FunFrames X.base X.outer
 frf:∀ b∈X.fs,X.H₀ b=none
structure Inv (X:Cx) (pins:List (Addr×Obj)) (σ:List (Option V)) (H:Hp) (s:Shared):Prop where
 ok:X.Ok
 os:s.os=X.s₀.os
 bare:AllBare s.gens
 base:Un X.fs X.ex X.H₀ H X.s₀.heap s.heap
 loc:∃ m,s.heap.Ns X.env.locals m/\∀ (i:Nat) (x:Str) (v:V),X.N[i]?=some x->σ[i]?=some (some v)->AV X.env.scope x->∃ u,RelV v u/\AX X.env s.heap m x u
 cell:∀ x c,X.env.cells.lookup x=some c->∃ v,s.heap.IsCell c v
 free:H X.env.locals=none
 freeC:∀ x c,X.env.cells.lookup x=some c->H c=none
 pin:∀ p∈X.pn++pins,s.heap.get? p.1=some p.2/\H p.1=none/\p.1≠X.env.locals/\p.1∉X.fs/\∀ v,p.2.data≠.cell v
 hok:HOk X.prog X.w H s.heap
 len:σ.length=X.N.length
section
variable {X:Cx} {pins:List (Addr×Obj)} {σ:List (Option V)} {H H':Hp} {s:Shared} {h':Heap}
theorem Cx.Ok.nofr (ok:X.Ok) {b:Addr} {o:Obj} (e:X.base.get? b=some o):b∉X.fs:=fun hb=>by
 have:=(ok.funs.mem hb).1
 rw [e] at this;cases this
theorem Inv.bs (I:Inv X pins σ H s):∀ b o,X.base.get? b=some o->s.heap.get? b=some o/\H b=none:=fun b o e=>
 ⟨I.base.keep b o (I.ok.bs b o e).1 (I.ok.bs b o e).2 (I.ok.nofr e) (I.ok.noex b o e),I.base.free b o (I.ok.bs b o e).1 (I.ok.bs b o e).2 (I.ok.noex b o e)⟩
theorem Inv.bk (I:Inv X pins σ H s):∀ b o,X.base.get? b=some o->s.heap.get? b=some o:=fun b o e=>(I.bs b o e).1
theorem Inv.mod (I:Inv X pins σ H s):Mod X.K X.mg X.base:=I.ok.mod
theorem Inv.kIn (I:Inv X pins σ H s):X.K.In s.heap:=I.ok.mod.kin.keeps I.bk
theorem Inv.lt (I:Inv X pins σ H s):X.env.locals < s.heap.objs.size:=let ⟨_,hn,_⟩:=I.loc;hn.lt
theorem Inv.sz (I:Inv X pins σ H s):X.s₀.heap.objs.size<=s.heap.objs.size:=Ew I.ok.above (Nat.le_of_lt I.lt)
theorem Inv.nofs (I:Inv X pins σ H s) {a:Addr} (h:s.heap.objs.size<=a):a∉X.fs:=fun hb=>by
 obtain ⟨_,o,ho,_⟩:=I.ok.funs.mem hb
 exact absurd (Er (Ef ho) (Ew I.sz h)) (E7 _)
theorem Inv.cne (I:Inv X pins σ H s):∀ x c,X.env.cells.lookup x=some c->c≠X.env.locals:=fun x c e z=>by
 obtain ⟨v,o,ho,hd⟩:=I.cell x c e
 obtain ⟨m,⟨o',es,ep,ho',hd',_⟩,_⟩:=I.loc
 rw [z,ho'] at ho;cases ho;rw [hd'] at hd;cases hd
theorem Inv.funs (I:Inv X pins σ H s):s.heap.FunFrames X.base X.outer:=by
 have all:∀ (l:List Env),(∀ b∈lP l,b∈X.fs)->X.s₀.heap.FunFrames X.base l->s.heap.FunFrames X.base l:=by
  intro l
  induction l with
  | nil=>intro _ _;trivial
  | cons env r ih=>
   intro hs hl
   obtain ⟨hk,⟨L,o,hf,hn,ho,hd⟩,hr⟩:=hl
   have hL:L∈X.fs:=hs L (by unfold lP;rw [Fl,hf];exact Ea)
   obtain ⟨sl,e⟩:=I.base.slot L o ho (I.ok.frf L hL) hL fun z=>I.ok.exfs L z hL
   exact ⟨hk,⟨L,_,hf,hn,e,hd⟩,ih (fun b hb=>hs b (by unfold lP;rw [Fl,hf];exact Ee _ hb)) hr⟩
 exact all X.outer (fun _ hb=>hb) I.ok.funs
theorem Inv.stack (I:Inv X pins σ H s):s.heap.FunFrames X.base X.stack:=by
 rcases I.ok.stk with e|⟨e,hf⟩
 ·rw [e];exact I.funs
 ·rw [e]
  obtain ⟨m,hn,_⟩:=I.loc
  refine .cons (by rw [I.ok.kind];decide) hf hn ?_ I.funs
  exact Heap.get?_none_of_le (Ew I.ok.bsz I.ok.above)
theorem Inv.stkSub (I:Inv X pins σ H s):∀ b∈lP X.stack,b∈X.env.locals::X.fs:=fun b hb=>by
 rcases I.ok.stk with e|⟨e,hf⟩
 ·rw [e] at hb;exact Ee _ hb
 ·rw [e] at hb
  unfold lP at hb
  rw [Fl,hf] at hb
  exact hb
theorem Inv.stkFree (I:Inv X pins σ H s):∀ b∈lP X.stack,H b=none:=fun b hb=>by
 rcases Ej.mp (I.stkSub b hb) with e|hb
 ·rw [e];exact I.free
 ·obtain ⟨_,o,ho,_⟩:=I.ok.funs.mem hb
  exact I.base.free b o ho (I.ok.frf b hb) fun z=>I.ok.exfs b z hb
theorem Inv.step {g':Array GenState} {t':Nat} {d':Drawn} {ch:List Addr} (I:Inv X pins σ H s)
  (hch:∀ b∈ch,(b∈X.ex\/X.s₀.heap.objs.size<=b)/\b≠X.env.locals/\(∀ x c,X.env.cells.lookup x=some c->c≠b)/\∀ p∈X.pn++pins,p.1≠b)
  (keep:∀ b o,b≠X.env.locals->b∉X.fs->b∉ch->s.heap.get? b=some o->H b=none->h'.get? b=some o)
  (slot:∀ b o,b≠X.env.locals->b∈X.fs->b∉ch->s.heap.get? b=some o->H b=none->∃ sl,h'.get? b=some { o with slots:=sl }) (free:∀ b o,b∉ch->s.heap.get? b=some o->H b=none->H' b=none)
  (there:∀ b o,b∉ch->s.heap.get? b=some o->∃ o',h'.get? b=some o')
  (tups:∀ b xs,H b=some (.tup xs)->H' b=some (.tup xs)) (frzs:∀ b o u,H b=some (.frz o u)->H' b=some (.frz o u)) (tbls:∀ b ps,H b=some (.tbl ps)->∃ more,H' b=some (.tbl (ps++more)))
  (ns:∀ m,s.heap.Ns X.env.locals m->h'.Ns X.env.locals m) (hok:HOk X.prog X.w H' h') (hg:AllBare g') :
  Inv X pins σ H' { s with heap:=h',gens:=g',drawn:=d',toks:=t' }:=by
 have neL:∀ b o,X.s₀.heap.get? b=some o->b≠X.env.locals:=fun b o e=>Ey (Er (Ef e) I.ok.above)
 have neC:∀ b o,X.s₀.heap.get? b=some o->b∉X.ex->b∉ch:=fun b o e hx hb=>by
  rcases (hch b hb).1 with z|z
  ·exact hx z
  ·exact absurd (Er (Ef e) z) (E7 _)
 have cellK:∀ x c,X.env.cells.lookup x=some c->∀ v,s.heap.IsCell c v->h'.IsCell c v:=fun x c e v ⟨o,ho,hd⟩=>by
  have nch:c∉ch:=fun z=>(hch c z).2.2.1 x c e rfl
  by_cases hc:c∈X.fs
  ·obtain ⟨sl,q⟩:=slot c o (I.cne x c e) hc nch ho (I.freeC x c e)
   exact ⟨_,q,hd⟩
  ·exact ⟨o,keep c o (I.cne x c e) hc nch ho (I.freeC x c e),hd⟩
 refine ⟨I.ok,I.os,hg,⟨fun b o e n hb hx=>?_,fun b o e n hb hx=>?_,fun b o e n hx=>?_,fun b o e hx=>?_,fun b xs e=>tups b xs (I.base.tups b xs e),fun b o xs e=>frzs b o xs (I.base.frzs b o xs e),fun b ps e=>?_⟩,?_,fun x c e=>?_,?_,fun x c e=>?_,fun p hp=>?_,hok,I.len⟩
 ·exact keep b o (neL b o e) hb (neC b o e hx) (I.base.keep b o e n hb hx) (I.base.free b o e n hx)
 ·obtain ⟨sl,e1⟩:=I.base.slot b o e n hb hx
  obtain ⟨sl',e2⟩:=slot b _ (neL b o e) hb (neC b o e hx) e1 (I.base.free b o e n hx)
  exact ⟨sl',e2⟩
 ·obtain ⟨o',e1⟩:=I.base.there b o e hx
  exact free b o' (neC b o e hx) e1 (I.base.free b o e n hx)
 ·obtain ⟨o',e1⟩:=I.base.there b o e hx
  exact there b o' (neC b o e hx) e1
 ·obtain ⟨m1,e1⟩:=I.base.tbls b ps e
  obtain ⟨m2,e2⟩:=tbls b _ e1
  exact ⟨m1++m2,by rw [e2,Array.append_assoc]⟩
 ·obtain ⟨m,hn,hl⟩:=I.loc
  refine ⟨m,ns m hn,fun i x v e1 e2 e3=>?_⟩
  obtain ⟨u,r,l⟩:=hl i x v e1 e2 e3
  refine ⟨u,r,?_⟩
  rcases l with l|⟨k,c,e,z⟩
  ·exact .inl l
  ·exact .inr ⟨k,c,e,cellK x c e _ z⟩
 ·obtain ⟨v,z⟩:=I.cell x c e
  exact ⟨v,cellK x c e v z⟩
 ·obtain ⟨m,⟨o,_,_,ho,_⟩,_⟩:=I.loc
  exact free _ o (fun z=>(hch _ z).2.1 rfl) ho I.free
 ·obtain ⟨v,o,ho,hd⟩:=I.cell x c e
  exact free c o (fun z=>(hch c z).2.2.1 x c e rfl) ho (I.freeC x c e)
 ·obtain ⟨e,n,ne,nf,d⟩:=I.pin p hp
  have nch:p.1∉ch:=fun z=>(hch p.1 z).2.2.2 p hp rfl
  exact ⟨keep p.1 p.2 ne nf nch e n,free p.1 p.2 nch e n,ne,nf,d⟩
theorem Inv.un {t':Nat} (I:Inv X pins σ H s) (u:Un X.fs [] H H' s.heap h') (hok:HOk X.prog X.w H' h'):Inv X pins σ H' { s with heap:=h',toks:=t' }:=by
 obtain ⟨m,⟨o,es,ep,ho,r⟩,_⟩:=id I.loc
 obtain ⟨sl,hL⟩:=u.any ho I.free (by simp)
 exact I.step (g':=s.gens) (d':=s.drawn) (ch:=[]) (fun _ z=>nomatch z) (fun b o _ hb _ e n=>u.keep b o e n hb (by simp)) (fun b o _ hb _ e n=>u.slot b o e n hb (by simp)) (fun b o _ e n=>u.free b o e n (by simp)) (fun b o _ e=>u.there b o e (by simp)) u.tups u.frzs u.tbls (fun m' hm=>by
  obtain ⟨o',es',ep',ho',r'⟩:=hm
  rw [ho] at ho';cases ho'
  exact ⟨_,es',ep',hL,r'⟩) hok I.bare
theorem Inv.call {g':Array GenState} {t':Nat} {d':Drawn} {ch:List Addr} (I:Inv X pins σ H s) (u:Un (lP X.stack) ch H H' s.heap h') (hok:HOk X.prog X.w H' h') (hg:AllBare g')
  (hch:∀ b∈ch,(b∈X.ex\/X.s₀.heap.objs.size<=b)/\b≠X.env.locals/\(∀ x c,X.env.cells.lookup x=some c->c≠b)/\∀ p∈X.pn++pins,p.1≠b) :
  Inv X pins σ H' { s with heap:=h',gens:=g',drawn:=d',toks:=t' }:=by
 obtain ⟨m,⟨o,es,ep,ho,r⟩,_⟩:=id I.loc
 obtain ⟨sl,hL⟩:=u.any ho I.free fun z=>(hch _ z).2.1 rfl
 exact I.step (ch:=ch) hch (fun b o hL hb hc e n=>u.keep b o e n (fun z=>(Ej.mp (I.stkSub b z)).elim hL hb) hc) (fun b o _ _ hc e n=>u.any e n hc) (fun b o hc e n=>u.free b o e n hc) (fun b o hc e=>u.there b o e hc) u.tups u.frzs u.tbls (fun m' hm=>by
  obtain ⟨o',es',ep',ho',r'⟩:=hm
  rw [ho] at ho';cases ho'
  exact ⟨_,es',ep',hL,r'⟩) hok hg
theorem Inv.turned {t':Nat} {it:Addr} (I:Inv X pins σ H s) (k:∀ b o,b≠it->s.heap.get? b=some o->h'.get? b=some o) (hn:H it=none) (hL:it≠X.env.locals)
  (h1:it∈X.ex\/X.s₀.heap.objs.size<=it) (h2:∀ x c,X.env.cells.lookup x=some c->c≠it) (h3:∀ p∈X.pn++pins,p.1≠it):Inv X pins σ H { s with heap:=h',toks:=t' }:=by
 have nit:∀ b u,H b=some u->b≠it:=fun b u e z=>by rw [z,hn] at e;cases e
 refine I.step (g':=s.gens) (d':=s.drawn) (ch:=[it]) (fun b hb=>?_) (fun b o _ _ hc e _=>k b o (fun z=>hc (by simp [z])) e) (fun b o _ _ hc e _=>⟨o.slots,k b o (fun z=>hc (by simp [z])) e⟩) (fun _ _ _ _ n=>n)
  (fun b o hc e=>⟨o,k b o (fun z=>hc (by simp [z])) e⟩) (fun _ _ e=>e) (fun _ _ _ e=>e) (fun b ps e=>⟨#[],by rw [e];simp⟩) (fun m hm=>?_) (fun b u e=>?_) I.bare
 ·have e:b=it:=by simpa using hb
  subst e
  exact ⟨h1,hL,h2,h3⟩
 ·obtain ⟨o,es,ep,ho,r⟩:=hm
  exact ⟨o,es,ep,k _ o (Ne.symm hL) ho,r⟩
 ·refine (I.hok b u e).stay (fun c v hc q=>k c v ?_ q) (fun _ q=>q) fun _ _ q=>q
  rcases hc with z|z
  ·rw [z];exact nit b u e
  ·exact nit c _ z
theorem Inv.tok (I:Inv X pins σ H s) (t:Nat):Inv X pins σ H { s with toks:=t }:=I.un (h':=s.heap) (t':=t) Un.refl I.hok
theorem Inv.kept {t':Nat} (I:Inv X pins σ H s) (k:∀ b u,s.heap.get? b=some u->h'.get? b=some u):Inv X pins σ H { s with heap:=h',toks:=t' }:=I.un (Un.kept k) (I.hok.kept k)
theorem Inv.laid {a:Addr} {o:HO} {t':Nat} (I:Inv X pins σ H s) (k:∀ b u,s.heap.get? b=some u->h'.get? b=some u) (hp:s.heap.objs.size<=a) (new:ObjOk X.prog X.w (ax H a o) h' a o) :
  Inv X pins σ (ax H a o) { s with heap:=h',toks:=t' }:=I.un (Un.laid k hp (I.hok.fresh hp)) (I.hok.laid k hp new)
theorem Inv.write {x e:Addr} {o:HO} {t':Nat} (I:Inv X pins σ H s) (mu:AU (H x)) (he:e=x\/H e=some (.own x)) (k:∀ b u,b≠e->s.heap.get? b=some u->h'.get? b=some u) (heo:∃ u,h'.get? e=some u)
  (new:ObjOk X.prog X.w (ax H x o) h' x o):Inv X pins σ (ax H x o) { s with heap:=h',toks:=t' }:=I.un (Un.write mu he k heo) (I.hok.write mu he k heo new)
theorem Inv.weak {σ':List (Option V)} (I:Inv X pins σ H s) (hl:σ'.length=σ.length) (w:∀ (i:Nat) v,σ'[i]?=some (some v)->σ[i]?=some (some v)):Inv X pins σ' H s:=
 ⟨I.ok,I.os,I.bare,I.base,let ⟨m,hn,hl'⟩:=I.loc;⟨m,hn,fun i x v e1 e2 e3=>hl' i x v e1 (w i v e2) e3⟩,I.cell,I.free,I.freeC,I.pin,I.hok,hl.trans I.len⟩
theorem Inv.pins_of {pins':List (Addr×Obj)} (I:Inv X pins σ H s) (h:∀ p∈pins',s.heap.get? p.1=some p.2/\H p.1=none/\p.1≠X.env.locals/\p.1∉X.fs/\∀ v,p.2.data≠.cell v):Inv X pins' σ H s:=
 ⟨I.ok,I.os,I.bare,I.base,I.loc,I.cell,I.free,I.freeC,fun p hp=>(Ez.mp hp).elim (fun z=>I.pin p (Fj _ z)) (h p),I.hok,I.len⟩
theorem jB {N:List Str} (hN:N.Nodup) {i j:Nat} {x:Str} (a:N[i]?=some x) (b:N[j]?=some x):i=j:=by
 obtain ⟨h1,e1⟩:=D7.mp a
 obtain ⟨h2,e2⟩:=D7.mp b
 exact (List.getElem_inj hN).mp (e1.trans e2.symm)
theorem kK {M:Model} {A:Around} {E:Value->Shared->Prop} {i:Nat} {x:Str} {v:V} {u:Value} {Q:Unit->Shared->Prop} (I:Inv X pins σ H s) (hN:X.N.Nodup) (hi:X.N[i]?=some x) (hx:AW X.env.scope x) (r:RelV v u)
  (h:∀ s',Inv X pins (σ.set i (some v)) H s'->(∃ a,Heap.SameBut a s.heap s'.heap/\(a=X.env.locals\/X.env.cells.lookup x=some a))->Q () s') (hf:X.fn x=true\/X.env.scope.names.lookup x=some .local:=by first|exact .inl rfl|exact .inr rfl|assumption):wpAny M A (storeName X.env x u) Q E s:=by
 obtain ⟨m,hn,hl⟩:=id I.loc
 have hcls:(X.env.scope.kind == .class || (X.env.scope.kind == .module && X.env.locals != X.env.globals))=false:=by rw [I.ok.kind];rfl
 have hiσ:i < σ.length:=by rw [I.len];exact (D7.mp hi).1
 have cne:=I.cne
 have tracked:∀ {a:Addr} {h':Heap},(∃ o,s.heap.get? a=some o/\H a=none)->Heap.SameBut a s.heap h'->HOk X.prog X.w H h':=fun {a h'} ha hs b ob e=>by
  obtain ⟨_,_,hfree⟩:=ha
  refine (I.hok b ob e).stay (fun c w' hc q=>(hs.2 c ?_).trans q) (fun _ q=>q) fun _ _ q=>q
  rintro rfl
  rcases hc with rfl|hc
  ·rw [hfree] at e;cases e
  ·rw [hfree] at hc;cases hc
 rcases hx with hk|hk
 ·refine wpAny_storeName_local hk hn (fun h' hn' hs=>?_) hcls
  obtain ⟨oL,_,_,hoL,_⟩:=id hn
  refine h _ ⟨I.ok,I.os,I.bare,⟨fun b o e n hb hx=>?_,fun b o e n hb hx=>?_,I.base.free,fun b o e hx=>?_,I.base.tups,I.base.frzs,I.base.tbls⟩,⟨_,hn',fun j y v' e1 e2 e3=>?_⟩,fun y c e=>?_,I.free,I.freeC,fun p hp=>?_,tracked ⟨oL,hoL,I.free⟩ hs,by simpa using I.len⟩ ⟨_,hs,.inl rfl⟩
  ·exact (hs.2 b (Ey (Er (Ef e) I.ok.above))).trans (I.base.keep b o e n hb hx)
  ·obtain ⟨sl,e1⟩:=I.base.slot b o e n hb hx
   exact ⟨sl,(hs.2 b (Ey (Er (Ef e) I.ok.above))).trans e1⟩
  ·obtain ⟨o',e1⟩:=I.base.there b o e hx
   exact ⟨o',(hs.2 b (Ey (Er (Ef e) I.ok.above))).trans e1⟩
  ·by_cases hj:j=i
   ·subst hj
    rw [hi] at e1;cases e1
    rw [List.getElem?_set_self hiσ] at e2
    cases e2
    exact ⟨u,r,.inl ⟨hk,by simp⟩⟩
   ·rw [List.getElem?_set_ne (Ne.symm hj)] at e2
    obtain ⟨u',r',q⟩:=hl j y v' e1 e2 e3
    refine ⟨u',r',?_⟩
    rcases q with ⟨k,e⟩|⟨k,c,e,z⟩
    ·refine .inl ⟨k,?_⟩
     have:y≠x:=fun e=>hj (jB hN e1 (e ▸ hi))
     simp [this,e]
    ·exact .inr ⟨k,c,e,z.sameBut hs (cne y c e)⟩
  ·obtain ⟨w',z⟩:=I.cell y c e
   exact ⟨w',z.sameBut hs (cne y c e)⟩
  ·obtain ⟨e,n,ne,nf,d⟩:=I.pin p hp
   exact ⟨(hs.2 p.1 ne).trans e,n,ne,nf,d⟩
 ·have hfn:X.fn x=true:=by
   rcases hf with z|z
   ·exact z
   ·rw [z] at hk;cases hk
  obtain ⟨c,hc⟩:=I.ok.has x (.inl hk)
  obtain ⟨w',z⟩:=I.cell x c hc
  refine wpAny_storeName_cell I.ok.kind hk hc z (fun h' hc' hs=>?_)
  obtain ⟨oc,hoc,hocd⟩:=id z
  refine h { s with heap:=h' } ⟨I.ok,I.os,I.bare,⟨fun b o e n hb hx=>?_,fun b o e n hb hx=>?_,I.base.free,fun b o e hx=>?_,I.base.tups,I.base.frzs,I.base.tbls⟩,⟨m,hn.sameBut hs (Ne.symm (cne x c hc)),fun j y v' e1 e2 e3=>?_⟩,fun y c' e=>?_,I.free,I.freeC,fun p hp=>?_,tracked ⟨oc,hoc,I.freeC x c hc⟩ hs,by simpa using I.len⟩ ⟨c,hs,.inr hc⟩
  ·exact (hs.2 b (Ey (Er (Ef e) (I.ok.cab x c hfn hc)))).trans (I.base.keep b o e n hb hx)
  ·obtain ⟨sl,e1⟩:=I.base.slot b o e n hb hx
   exact ⟨sl,(hs.2 b (Ey (Er (Ef e) (I.ok.cab x c hfn hc)))).trans e1⟩
  ·obtain ⟨o',e1⟩:=I.base.there b o e hx
   exact ⟨o',(hs.2 b (Ey (Er (Ef e) (I.ok.cab x c hfn hc)))).trans e1⟩
  ·by_cases hj:j=i
   ·subst hj
    rw [hi] at e1;cases e1
    rw [List.getElem?_set_self hiσ] at e2
    cases e2
    exact ⟨u,r,.inr ⟨.inl hk,c,hc,hc'⟩⟩
   ·rw [List.getElem?_set_ne (Ne.symm hj)] at e2
    obtain ⟨u',r',q⟩:=hl j y v' e1 e2 e3
    refine ⟨u',r',?_⟩
    rcases q with q|⟨k,c',e,z'⟩
    ·exact .inl q
    ·refine .inr ⟨k,c',e,z'.sameBut hs ?_⟩
     rintro rfl
     exact hj (jB hN e1 (I.ok.inj _ _ _ e hc ▸ hi))
  ·by_cases hcc:c'=c
   ·subst hcc;exact ⟨_,hc'⟩
   ·obtain ⟨w2,z2⟩:=I.cell y c' e
    exact ⟨w2,z2.sameBut hs hcc⟩
  ·obtain ⟨e,n,ne,nf,d⟩:=I.pin p hp
   refine ⟨(hs.2 p.1 ?_).trans e,n,ne,nf,d⟩
   intro q
   rw [q,hoc] at e
   have q':oc=p.2:=Eg e
   exact d w' (by rw [<-q'];exact hocd)
theorem iu {M:Model} {A:Around} {E:Value->Shared->Prop} {i:Nat} {x:Str} {v:V} {u:Value} {Q:Unit->Shared->Prop} (I:Inv X pins σ H s) (hN:X.N.Nodup) (hi:X.N[i]?=some x) (hx:AW X.env.scope x) (r:RelV v u)
  (h:∀ s',Inv X pins (σ.set i (some v)) H s'->Q () s') (hf:X.fn x=true\/X.env.scope.names.lookup x=some .local:=by first|exact .inl rfl|exact .inr rfl|assumption):wpAny M A (storeName X.env x u) Q E s:=
 kK I hN hi hx r (fun s' I' _=>h s' I') hf
theorem Inv.call' {s':Shared} {ch:List Addr} (I:Inv X pins σ H s) (ho:s'.os=s.os) (u:Un (lP X.stack) ch H H' s.heap s'.heap) (hok:HOk X.prog X.w H' s'.heap) (hg:AllBare s'.gens)
  (hch:∀ b∈ch,(b∈X.ex\/X.s₀.heap.objs.size<=b)/\b≠X.env.locals/\(∀ x c,X.env.cells.lookup x=some c->c≠b)/\∀ p∈X.pn++pins,p.1≠b):Inv X pins σ H' s':=by
 obtain ⟨h',g',d',t',o'⟩:=s'
 have e:o'=s.os:=ho
 subst e
 exact I.call (g':=g') (t':=t') (d':=d') u hok hg hch
end
abbrev XK:=Value->Option Addr->Hp->Prop
abbrev St:=List (Option V)
abbrev VK:=V->Hp->Prop
abbrev TE:=St->Hp->VK->Prop
abbrev TT:=St->Hp->(Bool->Hp->Prop)->Prop
abbrev TA:=St->Hp->(List V->Hp->Prop)->Prop
structure Ends where
 nx:St->Hp->Prop
 rt:VK
 bk:St->Hp->Prop:=fun _ _=>False
 ct:St->Hp->Prop:=fun _ _=>False
abbrev TS:=Ends->St->Hp->Prop
inductive EP (X:Cx) (pins:List (Addr×Obj)) (σ:St) (Q:VK) (u:Value) (s':Shared):Prop
 | mk (v H':_):Inv X pins σ H' s'->RelV v u->Q v H'->EP X pins σ Q u s'
def TP (X:Cx) (pins:List (Addr×Obj)) (σ:St) (Q:Bool->Hp->Prop) (b:Bool) (s':Shared):Prop:=∃ H',Inv X pins σ H' s'/\Q b H'
inductive AP (X:Cx) (pins:List (Addr×Obj)) (σ:St) (Q:List V->Hp->Prop) (us:List Value) (s':Shared):Prop
 | mk (vs H':_):Inv X pins σ H' s'->Vals vs us->Q vs H'->AP X pins σ Q us s'
def SP (X:Cx) (pins:List (Addr×Obj)) (D:Ends) (f:Flow) (s':Shared):Prop:=
 match f with
 | .next=>∃ σ' H',Inv X pins σ' H' s'/\D.nx σ' H'
 | .brk=>∃ σ' H',Inv X pins σ' H' s'/\D.bk σ' H'
 | .cont=>∃ σ' H',Inv X pins σ' H' s'/\D.ct σ' H'
 | .ret u=>∃ v σ' H',Inv X pins σ' H' s'/\RelV v u/\D.rt v H'
structure PE (X:Cx) (e:Expr) (t:TE):Prop where
 run:∀ (pins:List (Addr×Obj)) (s:Shared) (σ:St) (H:Hp) (Q:VK),Inv X pins σ H s->t σ H Q->wpAny (model X.prog X.w) X.A (eval e X.env) (EP X pins σ Q) X.xe s
instance {X:Cx} {e:Expr} {t:TE}:CoeFun (PE X e t) fun _=>∀ (pins:List (Addr×Obj)) (s:Shared) (σ:St) (H:Hp) (Q:VK),Inv X pins σ H s->t σ H Q->wpAny (model X.prog X.w) X.A (eval e X.env) (EP X pins σ Q) X.xe s:=⟨PE.run⟩
structure PT (X:Cx) (e:Expr) (t:TT):Prop where
 run:∀ (pins:List (Addr×Obj)) (s:Shared) (σ:St) (H:Hp) (Q:Bool->Hp->Prop),Inv X pins σ H s->t σ H Q->wpAny (model X.prog X.w) X.A (isTrue e X.env (eval e X.env)) (TP X pins σ Q) X.xe s
instance {X:Cx} {e:Expr} {t:TT}:CoeFun (PT X e t) fun _=>∀ (pins:List (Addr×Obj)) (s:Shared) (σ:St) (H:Hp) (Q:Bool->Hp->Prop),Inv X pins σ H s->t σ H Q->wpAny (model X.prog X.w) X.A (isTrue e X.env (eval e X.env)) (TP X pins σ Q) X.xe s:=⟨PT.run⟩
structure PW (X:Cx) (e:Expr) (t:TT):Prop where
 run:∀ (whole:Sem Value) (pins:List (Addr×Obj)) (s:Shared) (σ:St) (H:Hp) (Q:Bool->Hp->Prop),Inv X pins σ H s->t σ H Q->wpAny (model X.prog X.w) X.A (isTrue e X.env whole) (TP X pins σ Q) X.xe s
instance {X:Cx} {e:Expr} {t:TT}:CoeFun (PW X e t) fun _=>∀ (whole:Sem Value) (pins:List (Addr×Obj)) (s:Shared) (σ:St) (H:Hp) (Q:Bool->Hp->Prop),Inv X pins σ H s->t σ H Q->wpAny (model X.prog X.w) X.A (isTrue e X.env whole) (TP X pins σ Q) X.xe s:=⟨PW.run⟩
theorem PW.pt {X:Cx} {e:Expr} {t:TT} (h:PW X e t):PT X e t:=⟨fun pins s σ H Q I q=>h _ pins s σ H Q I q⟩
structure PA (X:Cx) (es:List Expr) (t:TA):Prop where
 run:∀ (pos:Pos) (pins:List (Addr×Obj)) (s:Shared) (σ:St) (H:Hp) (Q:List V->Hp->Prop),Inv X pins σ H s->t σ H Q->wpAny (model X.prog X.w) X.A (spliced (backTo pos (starEach es X.env))) (AP X pins σ Q) X.xe s
instance {X:Cx} {es:List Expr} {t:TA}:CoeFun (PA X es t) fun _=>∀ (pos:Pos) (pins:List (Addr×Obj)) (s:Shared) (σ:St) (H:Hp) (Q:List V->Hp->Prop),Inv X pins σ H s->t σ H Q->wpAny (model X.prog X.w) X.A (spliced (backTo pos (starEach es X.env))) (AP X pins σ Q) X.xe s:=⟨PA.run⟩
structure PS (X:Cx) (st:Stmt) (t:TS):Prop where
 run:∀ (pins:List (Addr×Obj)) (s:Shared) (σ:St) (H:Hp) (D:Ends),Inv X pins σ H s->t D σ H->wpAny (model X.prog X.w) X.A (exec st X.env) (SP X pins D) X.xe s
instance {X:Cx} {st:Stmt} {t:TS}:CoeFun (PS X st t) fun _=>∀ (pins:List (Addr×Obj)) (s:Shared) (σ:St) (H:Hp) (D:Ends),Inv X pins σ H s->t D σ H->wpAny (model X.prog X.w) X.A (exec st X.env) (SP X pins D) X.xe s:=⟨PS.run⟩
structure PSs (X:Cx) (st:List Stmt) (t:TS):Prop where
 run:∀ (pins:List (Addr×Obj)) (s:Shared) (σ:St) (H:Hp) (D:Ends),Inv X pins σ H s->t D σ H->wpAny (model X.prog X.w) X.A (execs st X.env) (SP X pins D) X.xe s
instance {X:Cx} {st:List Stmt} {t:TS}:CoeFun (PSs X st t) fun _=>∀ (pins:List (Addr×Obj)) (s:Shared) (σ:St) (H:Hp) (D:Ends),Inv X pins σ H s->t D σ H->wpAny (model X.prog X.w) X.A (execs st X.env) (SP X pins D) X.xe s:=⟨PSs.run⟩
theorem bK {α:Type} {t:Sem α} {Q Q':α->Shared->Prop} {M:Model} {A:Around} {E:Value->Shared->Prop} {s:Shared} (h:wpAny M A t Q E s) (hQ:∀ a s,Q a s->Q' a s):wpAny M A t Q' E s:=wpAny_mono h hQ fun _ _ x=>x
end L2
namespace L2
open PySem PySem.Spec PyProof.Rows
section
variable {X:Cx}
inductive rS (i:Nat) (σ:St) (H:Hp) (Q:VK):Prop
 | mk (v:_):σ[i]?=some (some v)->Q v H->rS i σ H Q
def tC (v:V):TE:=fun _ H Q=>Q v H
theorem zg {i:Nat} {x:Str} {pos:Pos} (hN:X.N[i]?=some x) (hv:AV X.env.scope x) (hd:(x == ("__debug__":Str))=false:=by decide) (hcd:(x == ("__classdict__":Str))=false:=by decide):PE X (.Name x pos) (rS i):=by
 refine ⟨?_⟩
 intro pins s σ H Q I h
 obtain ⟨v,e,h⟩:=h
 obtain ⟨m,hn,hl⟩:=I.loc
 obtain ⟨u,r,l⟩:=hl i x v hN e hv
 have fin:EP X pins σ Q u s:=⟨v,H,I,r,h⟩
 rcases l with ⟨hk,hm⟩|⟨hk,c,hc,hcell⟩
 ·exact wpAny_Name (wpAny_loadName_local I.ok.kind hk hn hm fin) hd
 ·rcases hk with hk|hk
  ·exact wpAny_Name (wpAny_loadName_cell I.ok.kind hk hc hcell fin) hd
  ·exact wpAny_Name (wpAny_loadName_free I.ok.kind hk hc hcell fin hcd) hd
theorem aj {i j pos}:PE X (.Constant (.int i) j pos) (tC (.int i)):=⟨fun _ _ _ H _ I h=>wpAny_Constant_int ⟨.int i,H,I.tok _,⟨_,rfl⟩,h⟩⟩
theorem eO {b j pos}:PE X (.Constant (.bool b) j pos) (tC (.bl b)):=⟨fun _ _ _ H _ I h=>Constant_bool ⟨.bl b,H,I,rfl,h⟩⟩
theorem cz {j pos}:PE X (.Constant .none j pos) (tC .non):=⟨fun _ _ _ H _ I h=>Constant_none ⟨.non,H,I,rfl,h⟩⟩
theorem ak {x j pos}:PE X (.Constant (.str x) j pos) (tC (.str x)):=⟨fun _ _ _ H _ I h=>Calls.Constant_str ⟨.str x,H,I.tok _,⟨_,rfl⟩,h⟩⟩
def Gl (X:Cx) (x:Str):Prop:=X.env.kindOf x=some .globalImplicit
theorem gJ {E:Value->Shared->Prop} {pins:List (Addr×Obj)} {s:Shared} {σ:St} {H:Hp} {x:Str} {u:Value} {pos:Pos} {Q:Value->Shared->Prop} (I:Inv X pins σ H s) (hg:Gl X x) (hm:X.mg x=some u) (h:Q u s)
  (hd:(x == ("__debug__":Str))=false:=by decide):wpAny (model X.prog X.w) X.A (eval (.Name x pos) X.env) Q E s:=
 Calls.Name_function_global I.ok.kind hg (Calls.loadGlobal_global (by rw [I.ok.glob];exact I.mod.glob.keeps I.bk) hm h) hd
theorem ff {E:Value->Shared->Prop} {pins:List (Addr×Obj)} {s:Shared} {σ:St} {H:Hp} {x:Str} {u:Value} {pos:Pos} {Q:Value->Shared->Prop} (I:Inv X pins σ H s) (hg:Gl X x) (hm:X.mg x=none) (hv:bootBuiltins x=some u) (h:Q u s)
  (hn:x≠"__name__":=by decide) (hd:(x == ("__debug__":Str))=false:=by decide):wpAny (model X.prog X.w) X.A (eval (.Name x pos) X.env) Q E s:=by
 obtain ⟨mb,h1,h2⟩:=I.mod.blt
 exact Calls.Name_function_global I.ok.kind hg (Calls.loadGlobal_builtin (by rw [I.ok.glob];exact I.mod.glob.keeps I.bk) hm (by rw [I.ok.blt];exact h1.keeps I.bk) ((h2 x hn).trans hv) h) hd
theorem bo {x:Str} {v:V} {u:Value} {pos:Pos} (hg:Gl X x) (hm:X.mg x=some u) (r:RelV v u) (hd:(x == ("__debug__":Str))=false:=by decide):PE X (.Name x pos) (tC v):=
 ⟨fun _ _ _ H _ I h=>gJ I hg hm ⟨v,H,I,r,h⟩ hd⟩
theorem wW {x:Str} {v:V} {u:Value} {pos:Pos} (hg:Gl X x) (hm:X.mg x=none) (hv:bootBuiltins x=some u) (r:RelV v u) (hn:x≠"__name__":=by decide) (hd:(x == ("__debug__":Str))=false:=by decide):PE X (.Name x pos) (tC v):=
 ⟨fun _ _ _ H _ I h=>ff I hg hm hv ⟨v,H,I,r,h⟩ hn hd⟩
variable {a b:Expr} {ta tb:TE} {pos:Pos}
def PC (X:Cx) (op:CmpOp) (a b:Expr) (t:TE):Prop:=
 ∀ (pins:List (Addr×Obj)) (s:Shared) (σ:St) (H:Hp) (Q:VK),Inv X pins σ H s->t σ H Q->
  wpAny (model X.prog X.w) X.A (eval a X.env) (fun v s₁=>wpAny (model X.prog X.w) X.A (eval b X.env) (fun u s₂=>wpAny (model X.prog X.w) X.A (compareOp op v u) (EP X pins σ Q) X.xe s₂) X.xe s₁) X.xe s
inductive Dw (Q:Bool->Hp->Prop) (x:V) (H1:Hp):Prop
 | mk (c:_):x=.bl c->Q c H1->Dw Q x H1
def tB (t:TE):TT:=fun σ H Q=>t σ H fun x H1=>Dw Q x H1
theorem oP {op:CmpOp} {t:TE} (h:PC X op a b t) (h1:behindInMarks op b=false:=by first|exact nobehind _ (by decide) (by decide)|rfl):PT X (.Compare a [op] [b] pos) (tB t):=by
 refine ⟨?_⟩
 intro pins s σ H Q I hw
 refine wpAny_isTrue_Compare1 (bK (h pins s σ H _ I hw) fun v s1 h1=>bK h1 fun u s2 h2=>bK h2 fun c s3 ⟨x,H1,I1,r1,q1⟩=>?_) h1
 obtain ⟨d,rfl,q⟩:=q1
 cases r1
 exact wpAny_truthy_bool ⟨H1,I1,q⟩
theorem cO {e:Expr} {t:TE} (h:PE X e t) (he:∀ whole,isTrue e X.env whole=(do let v <-whole;standAt e.pos;holding [v] (truthy v)):=by intro _;rfl):PT X e (tB t):=by
 refine ⟨?_⟩
 intro pins s σ H Q I hw
 refine isTrue_plain (bK (h pins s σ H _ I hw) fun v s1 ⟨x,H1,I1,r1,q1⟩=>?_) (he _)
 obtain ⟨d,rfl,q⟩:=q1
 cases r1
 exact wpAny_truthy_bool ⟨H1,I1,q⟩
variable {tA tB':TT} {rest:List Expr}
def Cv (t u:TT):TT:=fun σ H Q=>t σ H fun c H1=>if c=true then u σ H1 Q else Q false H1
def DJ (t u:TT):TT:=fun σ H Q=>t σ H fun c H1=>if c=true then Q true H1 else u σ H1 Q
def Cw (t:TT):TT:=fun σ H Q=>t σ H fun c H1=>Q (!c) H1
theorem ck (ha:PT X a tA):PW X (.BoolOp .And [a] pos) tA:=by
 refine ⟨?_⟩
 intro wh pins s σ H Q I h
 refine isTrue_and (bK (ha pins s σ H Q I h) fun c s1 e=>?_)
 cases c with
 | true=>exact isTrue_and_nil e
 | false=>exact e
theorem cZ (ha:PT X a tA):PW X (.BoolOp .Or [a] pos) tA:=by
 refine ⟨?_⟩
 intro wh pins s σ H Q I h
 refine isTrue_or (bK (ha pins s σ H Q I h) fun c s1 e=>?_)
 cases c with
 | false=>exact isTrue_or_nil e
 | true=>exact e
theorem cE (ha:PT X a tA) (hb:PW X (.BoolOp .And (b::rest) pos) tB'):PW X (.BoolOp .And (a::b::rest) pos) (Cv tA tB'):=by
 refine ⟨?_⟩
 intro wh pins s σ H Q I h
 refine isTrue_and (bK (ha pins s σ H _ I h) fun c s1 ⟨H1,I1,q1⟩=>?_)
 cases c with
 | true=>exact hb wh pins s1 σ H1 Q I1 q1
 | false=>exact ⟨H1,I1,q1⟩
theorem dF (ha:PT X a tA) (hb:PW X (.BoolOp .Or (b::rest) pos) tB'):PW X (.BoolOp .Or (a::b::rest) pos) (DJ tA tB'):=by
 refine ⟨?_⟩
 intro wh pins s σ H Q I h
 refine isTrue_or (bK (ha pins s σ H _ I h) fun c s1 ⟨H1,I1,q1⟩=>?_)
 cases c with
 | true=>exact ⟨H1,I1,q1⟩
 | false=>exact hb wh pins s1 σ H1 Q I1 q1
theorem cQ (ha:PT X a tA):PT X (.UnaryOp .Not a pos) (Cw tA):=by
 refine ⟨?_⟩
 intro pins s σ H Q I h
 exact isTrue_not (ha pins s σ H (fun c H1=>Q (!c) H1) I h)
inductive tY (tb:TE) (σ:St) (Q:VK) (x:V) (H1:Hp):Prop
 | mk (c:_):x=.bl c->(if c=true then tb σ H1 Q else Q (.bl false) H1)->tY tb σ Q x H1
def AY (ta tb:TE):TE:=fun σ H Q=>ta σ H fun x H1=>tY tb σ Q x H1
inductive tZ (Q:VK) (x:V) (H1:Hp):Prop
 | mk (c:_):x=.bl c->Q (.bl (!c)) H1->tZ Q x H1
def AZ (ta:TE):TE:=fun σ H Q=>ta σ H fun x H1=>tZ Q x H1
theorem fO {op} {t:TE} (h:PE X a t):PE X (.BoolOp op [a] pos) t:=⟨fun pins s σ H Q I hw=>BoolOp_one (h pins s σ H Q I hw)⟩
theorem hV (ha:PE X a ta) (hb:PE X (.BoolOp .And (b::rest) pos) tb):PE X (.BoolOp .And (a::b::rest) pos) (AY ta tb):=by
 refine ⟨?_⟩
 intro pins s σ H Q I h
 refine BoolOp_and (bK (ha pins s σ H _ I h) fun v s1 ⟨x,H1,I1,r1,q1⟩=>?_)
 obtain ⟨c,rfl,q1⟩:=q1
 cases r1
 refine wpAny_truthy_bool ?_
 cases c with
 | true=>exact hb pins s1 σ H1 Q I1 q1
 | false=>exact ⟨.bl false,H1,I1,rfl,q1⟩
theorem ua (ha:PE X a ta):PE X (.UnaryOp .Not a pos) (AZ ta):=by
 refine ⟨?_⟩
 intro pins s σ H Q I h
 refine UnaryOp_ (bK (ha pins s σ H _ I h) fun v s1 ⟨x,H1,I1,r1,q1⟩=>?_)
 obtain ⟨c,rfl,q1⟩:=q1
 cases r1
 exact not_of (wpAny_truthy_bool ⟨.bl (!c),H1,I1,rfl,q1⟩)
def DK (t:TT) (ta tb:TE):TE:=fun σ H Q=>t σ H fun c H1=>if c=true then ta σ H1 Q else tb σ H1 Q
theorem dG {c:Expr} (hc:PT X c tA) (ha:PE X a ta) (hb:PE X b tb):PE X (.IfExp c a b pos) (DK tA ta tb):=by
 refine ⟨?_⟩
 intro pins s σ H Q I h
 refine wpAny_IfExp (bK (hc pins s σ H _ I h) fun d s1 ⟨H1,I1,q1⟩=>?_)
 cases d with
 | true=>exact ha pins s1 σ H1 Q I1 q1
 | false=>exact hb pins s1 σ H1 Q I1 q1
end
end L2
namespace L2
open PySem PySem.Spec PyProof.Rows
def SqL (K:PySem.W.Frag) (H:Hp) (a:Addr) (xs:List V):Prop:=
 Rd H a (.lst xs) ∨
  ∃ (o:Obj) (its:Array Value) (n:Nat),K.lookup a=some o/\o.cls=.type "list"/\o.dict=none/\o.data=.seq its n/\its.size<=sizeLine/\Vals xs its.toList
def SqT (K:PySem.W.Frag) (H:Hp) (a:Addr) (xs:List V):Prop:=
 Rd H a (.tup xs) ∨
  ∃ (o:Obj) (its:Array Value) (n:Nat),K.lookup a=some o/\o.cls=.type "tuple"/\o.data=.seq its n/\its.size<=sizeLine/\Vals xs its.toList
def Cy:Value->Option V
 | .none=>some .non
 | .bool b=>some (.bl b)
 | .int i _=>some (.int i)
 | .str x _=>some (.str x)
 | .bytes b _=>some (.byt b)
 | .float b _=>some (.flt b)
 | .ref a=>some (.ref a)
 | .type n=>some (.ty n)
 | _=>none
theorem RelV.abs {x:V} {u:Value} (r:RelV x u):Cy u=some x:=by
 cases x with
 | non=>cases r;rfl
 | bl _=>cases r;rfl
 | int _=>obtain ⟨t,rfl⟩:=r;rfl
 | str _=>obtain ⟨t,rfl⟩:=r;rfl
 | byt _=>obtain ⟨t,rfl⟩:=r;rfl
 | flt _=>obtain ⟨t,rfl⟩:=r;rfl
 | ref _=>cases r;rfl
 | ty _=>cases r;rfl
theorem RelV.inj {x y:V} {u:Value} (r:RelV x u) (q:RelV y u):x=y:=Eg (r.abs.symm.trans q.abs)
theorem Vals.inj:∀ {xs ys:List V} {us:List Value},Vals xs us->Vals ys us->xs=ys
 | _,_,_,.nil,.nil=>rfl
 | _,_,_,.cons r t,.cons r' t'=>by rw [r.inj r',Vals.inj t t']
section
variable {X:Cx} {pins:List (Addr×Obj)} {σ:St} {H:Hp} {s:Shared} {a:Addr} {xs ys:List V}
theorem SqL.of {K:PySem.W.Frag} (h:H a=some (.lst xs)):SqL K H a xs:=.inl (.inl h)
theorem SqT.of {K:PySem.W.Frag} (h:H a=some (.tup xs)):SqT K H a xs:=.inl (.inl h)
theorem Inv.list (I:Inv X pins σ H s) (h:SqL X.K H a xs):∃ its:List Value,Vals xs its/\PlainL s.heap a its.toArray/\xs.length<=sizeLine:=by
 rcases h with h|⟨o,its,n,hk,hc,hd,hs,hz,r⟩
 ·obtain ⟨z,its,n,r,e⟩:=h.ok I.hok
  exact ⟨its,r,⟨_,n,e,rfl,rfl,rfl⟩,z⟩
 ·refine ⟨its.toList,r,⟨o,n,I.kIn a o hk,hc,hd,by simpa using hs⟩,?_⟩
  have e:=r.length
  simp only [Array.length_toList] at e
  omega
theorem Inv.tuple (I:Inv X pins σ H s) (h:SqT X.K H a xs):∃ its:List Value,Vals xs its/\IsTup s.heap a its.toArray/\xs.length<=sizeLine:=by
 rcases h with h|⟨o,its,n,hk,hc,hs,hz,r⟩
 ·obtain ⟨z,its,r,p⟩:=h.ok I.hok
  exact ⟨its,r,p.up,z⟩
 ·refine ⟨its.toList,r,⟨o,I.kIn a o hk,hc,n,by simpa using hs⟩,?_⟩
  have e:=r.length
  simp only [Array.length_toList] at e
  omega
theorem Inv.list_inj (I:Inv X pins σ H s) (h:SqL X.K H a xs) (h':SqL X.K H a ys):xs=ys:=by
 obtain ⟨its,r,⟨o,n,e,_,_,d⟩,_⟩:=I.list h
 obtain ⟨its',r',⟨o',n',e',_,_,d'⟩,_⟩:=I.list h'
 rw [e] at e';cases e'
 rw [d] at d'
 injection d' with d1 _
 have:its=its':=by simpa using congrArg Array.toList d1
 subst this
 exact r.inj r'
theorem Inv.tuple_inj (I:Inv X pins σ H s) (h:SqT X.K H a xs) (h':SqT X.K H a ys):xs=ys:=by
 obtain ⟨its,r,⟨o,e,_,n,d⟩,_⟩:=I.tuple h
 obtain ⟨its',r',⟨o',e',_,n',d'⟩,_⟩:=I.tuple h'
 rw [e] at e';cases e'
 rw [d] at d'
 injection d' with d1 _
 have:its=its':=by simpa using congrArg Array.toList d1
 subst this
 exact r.inj r'
end
abbrev Cx.wish (X:Cx) (E:Value->Shared->Prop):Cx:={ X with xe:=E }
abbrev Cx.nox (X:Cx):Cx:=X.wish fun _ _=>False
theorem Cx.Ok.wish {X:Cx} (ok:X.Ok) (E:Value->Shared->Prop):(X.wish E).Ok:=
 ⟨ok.mod,ok.kind,ok.glob,ok.blt,ok.above,ok.inj,ok.has,ok.cab,ok.hd,ok.frames,ok.stk,ok.exf,ok.bs,ok.bsz,ok.noex,ok.exfs,ok.funs,ok.frf⟩
theorem Cx.Ok.unwish {X:Cx} {E:Value->Shared->Prop} (ok:(X.wish E).Ok):X.Ok:=
 ⟨ok.mod,ok.kind,ok.glob,ok.blt,ok.above,ok.inj,ok.has,ok.cab,ok.hd,ok.frames,ok.stk,ok.exf,ok.bs,ok.bsz,ok.noex,ok.exfs,ok.funs,ok.frf⟩
section
variable {X:Cx} {pins:List (Addr×Obj)} {σ:St} {H:Hp} {s:Shared} {E:Value->Shared->Prop}
theorem Inv.wish (I:Inv X pins σ H s) (E:Value->Shared->Prop):Inv (X.wish E) pins σ H s:=⟨I.ok.wish E,I.os,I.bare,I.base,I.loc,I.cell,I.free,I.freeC,I.pin,I.hok,I.len⟩
theorem Inv.unwish (I:Inv (X.wish E) pins σ H s):Inv X pins σ H s:=⟨I.ok.unwish,I.os,I.bare,I.base,I.loc,I.cell,I.free,I.freeC,I.pin,I.hok,I.len⟩
theorem SP.unwish {D:Ends} {f:Flow} {s':Shared} (h:SP (X.wish E) pins D f s'):SP X pins D f s':=by
 cases f with
 | next=>obtain ⟨σ',H',I,q⟩:=h;exact ⟨σ',H',I.unwish,q⟩
 | brk=>obtain ⟨σ',H',I,q⟩:=h;exact ⟨σ',H',I.unwish,q⟩
 | cont=>obtain ⟨σ',H',I,q⟩:=h;exact ⟨σ',H',I.unwish,q⟩
 | ret u=>obtain ⟨v,σ',H',I,r,q⟩:=h;exact ⟨v,σ',H',I.unwish,r,q⟩
theorem PSs.nox {st:List Stmt} {t:TS} (h:PSs X.nox st t):PSs X st t:=⟨fun pins s σ H D I hw=>
 wpAny_mono (h pins s σ H D (I.wish _) hw) (fun _ _ q=>q.unwish) fun _ _ z=>False.elim z⟩
end
section
variable {X:Cx} {st:Stmt} {rest:List Stmt} {t u:TS} {e:Expr} {te:TE} {pos:Pos}
def A0:TS:=fun D σ H=>D.nx σ H
def Cz (t u:TS):TS:=fun D σ H=>t { D with nx:=u D } σ H
theorem aI:PSs X [] A0:=⟨fun _ _ σ H _ I h=>wpAny_execs_nil ⟨σ,H,I,h⟩⟩
theorem af (h1:PS X st t) (h2:PSs X rest u):PSs X (st::rest) (Cz t u):=by
 refine ⟨?_⟩
 intro pins s σ H D I h
 refine wpAny_execs_cons (bK (h1 pins s σ H { D with nx:=u D } I h) fun f s1 q=>?_)
 cases f with
 | next=>
  obtain ⟨σ',H',I',q⟩:=q
  exact h2 pins s1 σ' H' D I' q
 | ret v=>exact q
 | brk=>exact q
 | cont=>exact q
theorem ai (h1:PS X st t):PSs X [st] t:=by
 refine ⟨?_⟩
 intro pins s σ H D I h
 refine wpAny_execs_cons (bK (h1 pins s σ H D I h) fun f s1 q=>?_)
 cases f with
 | next=>exact wpAny_execs_nil q
 | ret v=>exact q
 | brk=>exact q
 | cont=>exact q
theorem Inv.quiet {pins:List (Addr×Obj)} {σ:St} {H:Hp} {s:Shared} (I:Inv X pins σ H s):interactive X.env=false:=by simp [interactive,I.ok.kind]
def A1 (te:TE):TS:=fun D σ H=>te σ H fun _ H1=>D.nx σ H1
theorem aQ (he:PE X e te) (hs:swapsWith e none pos.line X.env=pure false:=by rfl):PS X (.Expr e pos) (A1 te):=by
 refine ⟨?_⟩
 intro pins s σ H D I h
 exact wpAny_Expr_any (bK (he pins s σ H _ I h) fun v s1 ⟨x,H1,I1,r1,q1⟩=>⟨σ,H1,I1,q1⟩) I.quiet hs
def A2 (te:TE):TS:=fun D σ H=>te σ H D.rt
theorem av (he:PE X e te):PS X (.Return (some e) pos) (A2 te):=by
 refine ⟨?_⟩
 intro pins s σ H D I h
 exact wpAny_Return_some (bK (he pins s σ H _ I h) fun v s1 ⟨x,H1,I1,r1,q1⟩=>⟨x,σ,H1,I1,r1,q1⟩)
def CA (c:TT) (t u:TS):TS:=fun D σ H=>c σ H fun b H1=>if b=true then t D σ H1 else u D σ H1
theorem aT {c:Expr} {a b:List Stmt} {tc:TT} (hc:PT X c tc) (ha:PSs X a t) (hb:PSs X b u):PS X (.If c a b pos) (CA tc t u):=by
 refine ⟨?_⟩
 intro pins s σ H D I h
 refine wpAny_If (bK (hc pins s σ H _ I h) fun d s1 ⟨H1,I1,q1⟩=>?_)
 cases d with
 | true=>exact ha pins s1 σ H1 D I1 q1
 | false=>exact hb pins s1 σ H1 D I1 q1
def zh:TS:=fun _ _ _=>False
theorem bG:PS X st zh:=⟨fun _ _ _ _ _ _ h=>h.elim⟩
end
abbrev TG:=V->St->Hp->(St->Hp->Prop)->Prop
abbrev zi:=List V->St->Hp->(St->Hp->Prop)->Prop
def PG (X:Cx) (target:Expr) (t:TG):Prop:=
 ∀ (pins:List (Addr×Obj)) (s:Shared) (σ:St) (H:Hp) (v:V) (u:Value) (Q:St->Hp->Prop),Inv X pins σ H s->RelV v u->t v σ H Q->
  wpAny (model X.prog X.w) X.A (assign target X.env u) (fun _ s'=>∃ σ' H',Inv X pins σ' H' s'/\Q σ' H') X.xe s
def A3 (X:Cx) (ts:List Expr) (t:zi):Prop:=
 ∀ (pins:List (Addr×Obj)) (s:Shared) (σ:St) (H:Hp) (vs:List V) (us:List Value) (Q:St->Hp->Prop),Inv X pins σ H s->Vals vs us->t vs σ H Q->
  wpAny (model X.prog X.w) X.A (assignInOrder ((assignEach ts X.env).map (·.2)) us) (fun _ s'=>∃ σ' H',Inv X pins σ' H' s'/\Q σ' H') X.xe s
abbrev zj:=V->V->V->Hp->(Hp->Prop)->Prop
def A4 (X:Cx) (t:zj):Prop:=
 ∀ (pins:List (Addr×Obj)) (s:Shared) (σ:St) (H:Hp) (o i v:V) (ov iv u:Value) (Q:Hp->Prop),Inv X pins σ H s->RelV o ov->RelV i iv->RelV v u->t o i v H Q->
  wpAny (model X.prog X.w) X.A (setItem ov iv u) (fun _ s'=>∃ H',Inv X pins σ H' s'/\Q H') X.xe s
abbrev CB:=V->V->Hp->VK->Prop
def Dx (X:Cx) (op:Operator) (t:CB):Prop:=
 ∀ (pins:List (Addr×Obj)) (s:Shared) (σ:St) (H:Hp) (x y:V) (v u:Value) (Q:VK),Inv X pins σ H s->RelV x v->RelV y u->t x y H Q->
  wpAny (model X.prog X.w) X.A (inplaceOp op v u) (EP X pins σ Q) X.xe s
section
variable {X:Cx} {pos:Pos}
def yC (i:Nat):TG:=fun v σ H Q=>Q (σ.set i (some v)) H
theorem ar {i:Nat} {x:Str} (hN:X.N.Nodup) (hi:X.N[i]?=some x) (hx:AW X.env.scope x) (hf:X.fn x=true\/X.env.scope.names.lookup x=some .local:=by first|exact .inl rfl|exact .inr rfl|assumption):PG X (.Name x pos) (yC i):=by
 intro pins s σ H v u Q I r h
 exact wpAny_assign_Name (iu I hN hi hx r (fun s' I'=>⟨_,H,I',h⟩) hf)
def CC:zi:=fun vs σ H Q=>vs=[]/\Q σ H
inductive yD (t:TG) (u:zi) (vs:List V) (σ:St) (H:Hp) (Q:St->Hp->Prop):Prop
 | mk (v r:_):vs=v::r->(t v σ H fun σ' H'=>u r σ' H' Q)->yD t u vs σ H Q
theorem bD:A3 X [] CC:=by
 intro pins s σ H vs us Q I r h
 obtain ⟨e,h⟩:=h
 subst e
 cases r
 exact assignInOrder_nil ⟨σ,H,I,h⟩
theorem az {e:Expr} {es:List Expr} {t:TG} {u:zi} (h1:PG X e t) (h2:A3 X es u)
  (hs:(assignEach (e::es) X.env).map (·.2)=assign e X.env::(assignEach es X.env).map (·.2):=by rfl):A3 X (e::es) (yD t u):=by
 intro pins s σ H vs us Q I r h
 obtain ⟨v,vr,e1,h⟩:=h
 subst e1
 cases r with
 | cons r rr=>
  rw [hs]
  refine assignInOrder_cons (bK (h1 pins s σ H _ _ _ I r h) fun _ s1 ⟨σ1,H1,I1,q1⟩=>?_)
  exact h2 pins s1 σ1 H1 _ _ Q I1 rr q1
inductive zk (K:PySem.W.Frag) (n:Nat) (t:zi) (v:V) (σ:St) (H:Hp) (Q:St->Hp->Prop):Prop
 | mk (a xs:_):v=.ref a->SqT K H a xs->xs.length=n->t xs σ H Q->zk K n t v σ H Q
theorem c0 {es:List Expr} {k:Nat} {t:zi} {n:Nat} (hc:X.calm=true) (h:A3 X es t)
  (hn:(assignEach es X.env).length=n:=by rfl) (hst:(assignEach es X.env).findIdx? (·.1)=none:=by rfl):PG X (.Tuple es k pos) (zk X.K n t):=by
 intro pins s σ H v u Q I r hw
 obtain ⟨a,xs,e1,hq,hl,hw⟩:=hw
 subst e1
 cases r
 obtain ⟨its,rv,ht,hz⟩:=I.tuple hq
 refine assign_Tuple_tuple (I.ok.hd hc) ht (by simp [hn,<-hl,rv.length]) hst fun h' hx=>?_
 have I1:Inv X pins σ H { s with heap:=h' }:=I.kept (t':=s.toks) fun b o e=>hx b o (Ey (Ef e)) e
 exact h pins _ σ H xs _ Q I1 (by simpa using rv) hw
def CD (to ti:TE) (t:zj):TG:=fun v σ H Q=>to σ H fun o H1=>ti σ H1 fun i H2=>t o i v H2 fun H3=>Q σ H3
theorem jC {o i:Expr} {to ti:TE} {t:zj} (ho:PE X o to) (hi:PE X i ti) (hs:A4 X t)
  (ha:∀ v,assign (.Subscript o i pos) X.env v=(do
   let ov <-holding [v] (eval o X.env)
   let iv <-holding [v,ov] (eval i X.env)
   standAt pos
   holding [v,ov,iv] (setItem ov iv v)
   release [v,ov,iv] []):=by intro _;rfl):PG X (.Subscript o i pos) (CD to ti t):=by
 intro pins s σ H v u Q I r h
 rw [ha]
 refine wpAny_bind (wpAny_holding (bK (ho pins s σ H _ I h) fun ov s1 ⟨x,H1,I1,r1,q1⟩=>?_))
 refine wpAny_bind (wpAny_holding (bK (hi pins s1 σ H1 _ I1 q1) fun iv s2 ⟨y,H2,I2,r2,q2⟩=>?_))
 refine wpAny_bind (wpAny_standAt (wpAny_bind (wpAny_holding (bK (hs pins s2 σ H2 x y v ov iv u _ I2 r1 r2 r q2) fun _ s3 ⟨H3,I3,q3⟩=>?_))))
 exact wpAny_release ⟨σ,H3,I3,q3⟩
def A5 (te:TE) (g:TG):TS:=fun D σ H=>te σ H fun x H1=>g x σ H1 D.nx
theorem fg {tg e:Expr} {te:TE} {g:TG} (he:PE X e te) (hg:PG X tg g) (hs:swapsWithSole [tg] e pos.line X.env=pure false:=by rfl) (hw:swappedStores [tg] e X.env=pure none:=by rfl)
  (h1:(assignEach [tg] X.env).map (·.2)=[assign tg X.env]:=by rfl):PS X (.Assign [tg] e pos) (A5 te g):=by
 refine ⟨?_⟩
 intro pins s σ H D I h
 refine wpAny_Assign_stores (bK (he pins s σ H _ I h) fun v s1 ⟨x,H1,I1,r1,q1⟩=>?_) hs hw
 rw [h1]
 exact bK (hg pins s1 σ H1 x v _ I1 r1 q1) fun _ s2 q=>q
theorem aw {i:Nat} {x:Str} {e:Expr} {te:TE} {pos':Pos} (hN:X.N.Nodup) (hi:X.N[i]?=some x) (hx:AW X.env.scope x) (he:PE X e te) (hs:swapsWith e (some (.Name x pos')) pos.line X.env=pure false:=by rfl) (hf:X.fn x=true\/X.env.scope.names.lookup x=some .local:=by first|exact .inl rfl|exact .inr rfl|assumption) :
  PS X (.Assign [.Name x pos'] e pos) (A5 te (yC i)):=by
 refine ⟨?_⟩
 intro pins s σ H D I h
 refine wpAny_Assign_Name (bK (he pins s σ H _ I h) fun v s1 ⟨y,H1,I1,r1,q1⟩=>?_) hs
 exact iu I1 hN hi hx r1 (fun s2 I2=>⟨_,H1,I2,q1⟩) hf
inductive A6 (i:Nat) (te:TE) (ti:CB) (D:Ends) (σ:St) (H:Hp):Prop
 | mk (x:_):σ[i]?=some (some x)->(te σ H fun y H1=>ti x y H1 fun z H2=>D.nx (σ.set i (some z)) H2)->A6 i te ti D σ H
theorem oQ {i:Nat} {x:Str} {e:Expr} {te:TE} {op:Operator} {ti:CB} {pos':Pos} (hN:X.N.Nodup) (hi:X.N[i]?=some x) (hx:AW X.env.scope x) (he:PE X e te) (ho:Dx X op ti) (hf:X.fn x=true\/X.env.scope.names.lookup x=some .local:=by first|exact .inl rfl|exact .inr rfl|assumption) :
  PS X (.AugAssign (.Name x pos') op e pos) (A6 i te ti):=by
 refine ⟨?_⟩
 intro pins s σ H D I h
 obtain ⟨v,e1,h⟩:=h
 obtain ⟨m,hn,hl⟩:=I.loc
 have vis:AV X.env.scope x:=by rcases hx with k|k;exact .inl k;exact .inr (.inl k)
 obtain ⟨u,r,l⟩:=hl i x v hi e1 vis
 refine wpAny_AugAssign_Name ?_
 have go:wpAny (model X.prog X.w) X.A (eval e X.env) (fun w s₂=>wpAny (model X.prog X.w) X.A (inplaceOp op u w) (fun r s₃=>wpAny (model X.prog X.w) X.A (storeName X.env x r) (fun _=>SP X pins D .next) X.xe s₃) X.xe s₂) X.xe s:=by
  refine bK (he pins s σ H _ I h) fun w s1 ⟨y,H1,I1,r1,q1⟩=>?_
  refine bK (ho pins s1 σ H1 v y u w _ I1 r r1 q1) fun z s2 ⟨zv,H2,I2,r2,q2⟩=>?_
  exact iu I2 hN hi hx r2 (fun s3 I3=>⟨_,H2,I3,q2⟩) hf
 rcases l with ⟨hk,hm⟩|⟨hk,c,hc,hcell⟩
 ·exact wpAny_loadName_local I.ok.kind hk hn hm go
 ·rcases hk with hk|hk
  ·exact wpAny_loadName_cell I.ok.kind hk hc hcell go
  ·rcases hx with k|k
   ·have:X.env.scope.names.lookup x=some .free:=hk
    rw [k] at this;cases this
   ·have:X.env.scope.names.lookup x=some .free:=hk
    rw [k] at this;cases this
inductive Dy (f:Int->Int->Int) (x:V) (y:V) (H:Hp) (Q:VK):Prop
 | mk (i j:_):x=.int i->y=.int j->Q (.int (f i j)) H->Dy f x y H Q
theorem oR:Dx X .Add (Dy fun i j=>i+j):=by
 intro pins s σ H x y v u Q I r1 r2 h
 obtain ⟨i,j,e1,e2,q⟩:=h
 subst e1;subst e2
 obtain ⟨t,rfl⟩:=r1
 obtain ⟨t',rfl⟩:=r2
 exact iadd_int ⟨.int _,H,I.tok _,⟨_,rfl⟩,q⟩
end
section
variable {X:Cx} {pos:Pos}
inductive ub (c:TT) (tb:TS) (D:Ends) (σ:St) (H:Hp):Prop
 | mk (W:Nat->St->Hp->Prop):(∃ m,W m σ H)->(∀ m σ H,W m σ H->
 c σ H fun b H1=>if b=true then ∃ N:St->Hp->Prop,(∀ σ' H',N σ' H'->∃ m',m' < m/\W m' σ' H')/\tb { D with nx:=N,ct:=N,bk:=D.nx } σ H1 else D.nx σ H1)->ub c tb D σ H
theorem eP {c:Expr} {body:List Stmt} {tc:TT} {tb:TS} (hp:PassesOwn (model X.prog X.w) X.A X.env X.xe) (hc:PT X c tc) (hb:PSs X body tb):PS X (.While c body [] pos) (ub tc tb):=by
 refine ⟨?_⟩
 intro pins s σ H D I h
 obtain ⟨W,⟨m0,w0⟩,turn⟩:=h
 refine wpAny_While (codeAny_whileLoop (fun n s'=>∃ σ' H',Inv X pins σ' H' s'/\W n σ' H') ?_ m0 ⟨σ,H,I,w0⟩)
 rintro n s1 ⟨σ1,H1,I1,w1⟩
 refine wpAny_passesOwn hp (bK (hc pins s1 σ1 H1 _ I1 (turn n σ1 H1 w1)) fun b s2 ⟨H2,I2,q2⟩=>?_)
 cases b with
 | true=>
  obtain ⟨N,hN,q2⟩:=q2
  rw [if_pos rfl]
  refine wpAny_passesOwn hp (bK (hb pins s2 σ1 H2 _ I2 q2) fun f s3 q3=>?_)
  cases f with
  | next=>
   obtain ⟨σ3,H3,I3,n3⟩:=q3
   obtain ⟨m',hm,w3⟩:=hN σ3 H3 n3
   exact ⟨m',hm,σ3,H3,I3,w3⟩
  | cont=>
   obtain ⟨σ3,H3,I3,n3⟩:=q3
   obtain ⟨m',hm,w3⟩:=hN σ3 H3 n3
   exact ⟨m',hm,σ3,H3,I3,w3⟩
  | brk=>exact q3
  | ret v=>exact q3
 | false=>
  rw [if_neg Eo]
  exact wpAny_execs_nil ⟨σ1,H2,I2,q2⟩
end
structure It where
 go:Nat->Hp->Prop
 yld:Nat->Hp->V->Hp->Prop
 stop:Nat->Hp->Prop
def kC (X:Cx) (pins:List (Addr×Obj)) (H:Hp) (b:Addr):Prop:=
 H b=none/\b≠X.env.locals/\b∉X.fs/\(b∈X.ex\/X.s₀.heap.objs.size<=b)/\(∀ x c,X.env.cells.lookup x=some c->c≠b)/\∀ p∈X.pn++pins,p.1≠b
theorem Inv.fpOk {X:Cx} {pins:List (Addr×Obj)} {σ:St} {H H':Hp} {s:Shared} {b:Addr} (I:Inv X pins σ H s) (hb:s.heap.objs.size<=b) (hn:H' b=none):kC X pins H' b:=by
 refine ⟨hn,Fz (Er I.lt hb),I.nofs hb,.inr (Ew I.sz hb),fun x c e z=>?_,fun p hp z=>?_⟩
 ·obtain ⟨v,q⟩:=I.cell x c e
  exact absurd (Er q.lt (by rw [z];exact hb)) (E7 _)
 ·exact absurd (Er (Ef (I.pin p hp).1) (by rw [z];exact hb)) (E7 _)
structure kD (P:Program) (w:World) (K:PySem.W.Frag) (tg:Expr) (J:It) (fp:List Addr) (it:Addr) (tn:Nat->Heap->Prop):Prop where
 mem:it∈fp
 obj:∀ i h,tn i h->∀ b∈fp,∃ o,h.get? b=some o/\∀ v,o.data≠.cell v
 keep:∀ i h h',tn i h->(∀ b∈fp,∀ o,h.get? b=some o->h'.get? b=some o)->tn i h'
 item:∀ (X:Cx),X.prog=P->X.w=w->X.K=K->X.calm=true->∀ (i:Nat) (pins:List (Addr×Obj)) (s:Shared) (σ:St) (H:Hp) (E:Value->Shared->Prop),Inv X pins σ H s->(∀ b∈fp,kC X pins H b)->tn i s.heap->J.go i H->
  wpAny (model P w) X.A (pyNext (.ref it)) (fun r s1=>∃ u,r=some u /\
   wpAny (model P w) X.A (letOwnedTupleGo tg (.ref it) u) (fun _ s2=>∃ x H',Inv X pins σ H' s2/\RelV x u/\J.yld i H x H'/\tn (i+1) s2.heap/\∀ b∈fp,H' b=none) E s1) E s
 done:∀ (X:Cx),X.prog=P->X.w=w->X.K=K->X.calm=true->∀ (i:Nat) (pins:List (Addr×Obj)) (s:Shared) (σ:St) (H:Hp) (E:Value->Shared->Prop),Inv X pins σ H s->(∀ b∈fp,kC X pins H b)->tn i s.heap->J.stop i H->
  wpAny (model P w) X.A (pyNext (.ref it)) (fun r s1=>r=none/\Inv X pins σ H s1) E s
 self:∀ (A:Around) (i:Nat) (s:Shared) (Q:Value->Shared->Prop) (E:Value->Shared->Prop),tn i s.heap->Q (.ref it) s->wpAny (model P w) A (pyIter (.ref it)) Q E s
abbrev TI:=St->Hp->(It->Hp->Prop)->Prop
inductive Cn (X:Cx) (pins:List (Addr×Obj)) (σ:St) (tg:Expr) (R:It->Hp->Prop) (itv:Value) (s2:Shared):Prop
 | mk (it:Addr) (fp:List Addr) (tn:Nat->Heap->Prop) (J:It) (H':Hp):itv=.ref it->Inv X pins σ H' s2->kD X.prog X.w X.K tg J fp it tn->tn 0 s2.heap->(∀ b∈fp,kC X pins H' b)->R J H'->Cn X pins σ tg R itv s2
structure PI (X:Cx) (tg iter:Expr) (wi:TI):Prop where
 run:∀ (pins:List (Addr×Obj)) (s:Shared) (σ:St) (H:Hp) (R:It->Hp->Prop),Inv X pins σ H s->wi σ H R->
  wpAny (model X.prog X.w) X.A (eval iter X.env) (fun v s1=>wpAny (model X.prog X.w) X.A (pyIter v) (Cn X pins σ tg R) X.xe s1) X.xe s
instance {X:Cx} {tg iter:Expr} {wi:TI}:CoeFun (PI X tg iter wi) fun _=>∀ (pins:List (Addr×Obj)) (s:Shared) (σ:St) (H:Hp) (R:It->Hp->Prop),Inv X pins σ H s->wi σ H R->
  wpAny (model X.prog X.w) X.A (eval iter X.env) (fun v s1=>wpAny (model X.prog X.w) X.A (pyIter v) (Cn X pins σ tg R) X.xe s1) X.xe s:=⟨PI.run⟩
theorem nA {M:Model} {A:Around} {E:Value->Shared->Prop} {s:Shared} {tg:Expr} {it:Addr} {u:Value} {o:Obj} {n:String} {vs:Array Value} {Q:Unit->Shared->Prop} (ho:s.heap.get? it=some o) (hc:o.cls=.type n) (hd:o.data=.fields vs)
  (hn:["enumerate","zip","dict_itemiterator","dict_reverseitemiterator","odict_iterator","itertools.zip_longest","itertools.pairwise"].contains n=false) (hQ:Q () s):wpAny M A (letOwnedTupleGo tg (.ref it) u) Q E s:=by
 unfold letOwnedTupleGo
 cases tg<;>first
  | exact wpAny_pure hQ
  | (cases u<;>first
    | exact wpAny_pure hQ
    | (refine wpAny_bind (wpAny_load ho ?_)
       rw [hc,hd]
       show wpAny M A (if (["enumerate","zip","dict_itemiterator","dict_reverseitemiterator","odict_iterator","itertools.zip_longest","itertools.pairwise"].contains n && vs[0]? == some (rawInt _))=true then _ else _) Q E s
       rw [if_neg (by intro h;rw [hn,Bool.false_and] at h;cases h)]
       exact wpAny_pure hQ))
def AK (K:PySem.W.Frag) (a:Addr):It:=
 ⟨fun i H=>∃ xs x,SqL K H a xs/\xs[i]?=some x,fun i H x H'=>H'=H/\∀ xs,SqL K H a xs->xs[i]?=some x,fun i H=>∃ xs,SqL K H a xs/\xs.length<=i⟩
def AL (K:PySem.W.Frag) (a:Addr):It:=
 ⟨fun i H=>∃ xs x,SqT K H a xs/\xs[i]?=some x,fun i H x H'=>H'=H/\∀ xs,SqT K H a xs->xs[i]?=some x,fun i H=>∃ xs,SqT K H a xs/\xs.length<=i⟩
def yE (lo:Int) (n:Nat):It:=⟨fun i _=>i < n,fun i H x H'=>H'=H/\x=.int (lo+i),fun i _=>n<=i⟩
theorem rT {P:Program} {w:World} {K:PySem.W.Frag} {tg:Expr} (a it:Addr):kD P w K tg (AK K a) [it] it (fun i h=>h.IsListIter it a i) where
 mem:=by simp
 obj:=fun i h st b hb=>by
  have e:b=it:=by simpa using hb
  subst e
  obtain ⟨o,e,c,d⟩:=st
  exact ⟨o,e,fun v z=>by rw [d] at z;cases z⟩
 keep:=fun i h h' st k=>st.at fun o e=>k it (by simp) o e
 item:=by
  intro X hP hw hK hc i pins s σ H E I hf st hg
  subst hP hw hK
  obtain ⟨xs,x,hq,hx⟩:=hg
  obtain ⟨its,rv,p,hz⟩:=I.list hq
  obtain ⟨u,hu,ru⟩:=rv.get hx
  obtain ⟨f0,f1,f2,f3,f4,f5⟩:=hf it (by simp)
  refine wpAny_pyNext_list_item st p.isList (x:=u) (by simpa using hu) fun h' st' sb=>?_
  have I1:Inv X pins σ H { s with heap:=h' }:=I.turned (t':=s.toks) (fun b o hb e=>(sb.2 b hb).trans e) f0 f1 f3 f4 f5
  obtain ⟨o,e,c,d⟩:=id st'
  exact ⟨u,rfl,nA (s:={ s with heap:=h' }) e c d (by decide) ⟨x,H,I1,ru,⟨rfl,fun ys hy=>by rw [I.list_inj hy hq];exact hx⟩,st',fun b hb=>(hf b hb).1⟩⟩
 done:=by
  intro X hP hw hK hc i pins s σ H E I hf st hg
  subst hP hw hK
  obtain ⟨xs,hq,hx⟩:=hg
  obtain ⟨its,rv,p,hz⟩:=I.list hq
  obtain ⟨f0,f1,f2,f3,f4,f5⟩:=hf it (by simp)
  have hl:=rv.length
  exact wpAny_pyNext_list_end (I.ok.hd hc) st p.isList (by simp;omega) fun h' eb=>⟨rfl,I.turned (t':=s.toks) (fun b o hb e=>eb b o hb e) f0 f1 f3 f4 f5⟩
 self:=fun _ _ _ _ _ st h=>wpAny_pyIter_listiter st h
theorem oS {P:Program} {w:World} {K:PySem.W.Frag} {tg:Expr} (a it:Addr):kD P w K tg (AL K a) [it] it (fun i h=>h.IsTupleIter it a i) where
 mem:=by simp
 obj:=fun i h st b hb=>by
  have e:b=it:=by simpa using hb
  subst e
  obtain ⟨o,e,c,d⟩:=st
  exact ⟨o,e,fun v z=>by rw [d] at z;cases z⟩
 keep:=fun i h h' st k=>st.at fun o e=>k it (by simp) o e
 item:=by
  intro X hP hw hK hc i pins s σ H E I hf st hg
  subst hP hw hK
  obtain ⟨xs,x,hq,hx⟩:=hg
  obtain ⟨its,rv,p,hz⟩:=I.tuple hq
  obtain ⟨u,hu,ru⟩:=rv.get hx
  obtain ⟨f0,f1,f2,f3,f4,f5⟩:=hf it (by simp)
  refine wpAny_pyNext_tuple_item st (show s.heap.IsTuple a its.toArray from p) (x:=u) (by simpa using hu) fun h' st' sb=>?_
  have I1:Inv X pins σ H { s with heap:=h' }:=I.turned (t':=s.toks) (fun b o hb e=>(sb.2 b hb).trans e) f0 f1 f3 f4 f5
  obtain ⟨o,e,c,d⟩:=id st'
  exact ⟨u,rfl,nA (s:={ s with heap:=h' }) e c d (by decide) ⟨x,H,I1,ru,⟨rfl,fun ys hy=>by rw [I.tuple_inj hy hq];exact hx⟩,st',fun b hb=>(hf b hb).1⟩⟩
 done:=by
  intro X hP hw hK hc i pins s σ H E I hf st hg
  subst hP hw hK
  obtain ⟨xs,hq,hx⟩:=hg
  obtain ⟨its,rv,p,hz⟩:=I.tuple hq
  obtain ⟨f0,f1,f2,f3,f4,f5⟩:=hf it (by simp)
  have hl:=rv.length
  exact wpAny_pyNext_tuple_end (I.ok.hd hc) st (show s.heap.IsTuple a its.toArray from p) (by simp;omega) fun h' eb=>⟨rfl,I.turned (t':=s.toks) (fun b o hb e=>eb b o hb e) f0 f1 f3 f4 f5⟩
 self:=fun _ _ _ _ _ st h=>wpAny_pyIter_tupleiter st h
theorem oU {P:Program} {w:World} {K:PySem.W.Frag} {tg:Expr} (it:Addr) (lo:Int) (n:Nat):kD P w K tg (yE lo n) [it] it (fun i h=>IsRangeIter h it (lo+(i:Nat)*1) ((n:Int) - (i:Nat)) 1) where
 mem:=by simp
 obj:=fun i h st b hb=>by
  have e:b=it:=by simpa using hb
  subst e
  exact ⟨_,st,fun v z=>by
   have z':Data.fields _=Data.cell v:=z
   cases z'⟩
 keep:=fun i h h' st k=>k it (by simp) _ st
 item:=by
  intro X hP hw hK hc i pins s σ H E I hf st hg
  subst hP hw hK
  obtain ⟨f0,f1,f2,f3,f4,f5⟩:=hf it (by simp)
  have W:=Walks.range (prog:=X.prog) (w:=X.w) (I.ok.hd hc) it lo 1 n
  refine W.item i s _ _ hg st fun v h' tk hv st' kk=>?_
  obtain ⟨t,rfl⟩:=hv
  have I1:Inv X pins σ H { s with heap:=h',toks:=tk }:=I.turned (fun b o hb e=>kk b o (by simpa using hb) e) f0 f1 f3 f4 f5
  refine ⟨_,rfl,nA (s:={ s with heap:=h',toks:=tk }) (n:="range_iterator") st' rfl rfl (by decide) ⟨.int (lo+i),H,I1,⟨t,?_⟩,⟨rfl,rfl⟩,st',fun b hb=>(hf b hb).1⟩⟩
  rw [Int.mul_one]
 done:=by
  intro X hP hw hK hc i pins s σ H E I hf st hg
  subst hP hw hK
  obtain ⟨f0,f1,f2,f3,f4,f5⟩:=hf it (by simp)
  exact wpAny_pyNext_range_end (I.ok.hd hc) st (by have:n<=i:=hg;omega) fun h' eb=>⟨rfl,I.turned (t':=s.toks) (fun b o hb e=>eb b o hb e) f0 f1 f3 f4 f5⟩
 self:=fun _ _ _ _ _ st h=>wpAny_pyIter_rangeiter st h
end L2
namespace L2
open PySem PySem.Spec PyProof.Rows
section
variable {X:Cx} {tg:Expr}
inductive uc (K:PySem.W.Frag) (R:It->Hp->Prop) (x:V) (H1:Hp):Prop
 | mk (a:_):x=.ref a->(∃ xs,SqL K H1 a xs)->R (AK K a) H1->uc K R x H1
def A7 (K:PySem.W.Frag) (tl:TE):TI:=fun σ H R=>tl σ H fun x H1=>uc K R x H1
inductive yF (K:PySem.W.Frag) (R:It->Hp->Prop) (x:V) (H1:Hp):Prop
 | mk (a:_):x=.ref a->(∃ xs,SqT K H1 a xs)->R (AL K a) H1->yF K R x H1
def CF (K:PySem.W.Frag) (tl:TE):TI:=fun σ H R=>tl σ H fun x H1=>yF K R x H1
theorem dP {l:Expr} {tl:TE} (hl:PE X l tl):PI X tg l (A7 X.K tl):=by
 refine ⟨?_⟩
 intro pins s σ H R I h
 refine bK (hl pins s σ H _ I h) fun v s1 ⟨x,H1,I1,r1,q1⟩=>?_
 obtain ⟨a,e,⟨xs,hq⟩,q⟩:=q1
 subst e
 cases r1
 obtain ⟨its,rv,p,hz⟩:=I1.list hq
 refine wpAny_pyIter_list p.isList ?_
 refine ⟨s1.heap.objs.size,[s1.heap.objs.size],_,_,H1,rfl,I1.kept (t':=s1.toks) fun b o e=>D6 _ e,rT a _,⟨_,Em _ rfl,rfl,rfl⟩,fun b hb=>?_,q⟩
 have e:b=s1.heap.objs.size:=by simpa using hb
 subst e
 exact I1.fpOk (Ec _) (I1.hok.fresh (Ec _))
theorem hX {l:Expr} {tl:TE} (hl:PE X l tl):PI X tg l (CF X.K tl):=by
 refine ⟨?_⟩
 intro pins s σ H R I h
 refine bK (hl pins s σ H _ I h) fun v s1 ⟨x,H1,I1,r1,q1⟩=>?_
 obtain ⟨a,e,⟨xs,hq⟩,q⟩:=q1
 subst e
 cases r1
 obtain ⟨its,rv,p,hz⟩:=I1.tuple hq
 refine wpAny_pyIter_tuple (show s1.heap.IsTuple a its.toArray from p) ?_
 refine ⟨s1.heap.objs.size,[s1.heap.objs.size],_,_,H1,rfl,I1.kept (t':=s1.toks) fun b o e=>D6 _ e,oS a _,⟨_,Em _ rfl,rfl,rfl⟩,fun b hb=>?_,q⟩
 have e:b=s1.heap.objs.size:=by simpa using hb
 subst e
 exact I1.fpOk (Ec _) (I1.hok.fresh (Ec _))
theorem nB {pins:List (Addr×Obj)} {σ:St} {H:Hp} {s:Shared} {R:It->Hp->Prop} {E:Value->Shared->Prop} {lo hi:Int} {t u v:Tok} {tk:Nat} (I:Inv X pins σ H s) (h1:-(2 ^ 62)<=lo) (h2:lo < 2 ^ 62) (h3:-(2 ^ 62)<=hi) (h4:hi < 2 ^ 62)
  (q:R (yE lo (hi - lo).toNat) H):wpAny (model X.prog X.w) X.A (pyIter (.ref s.heap.objs.size)) (Cn X pins σ tg R) E { s with heap:=s.heap.push { cls:=.type "range",data:=.fields #[.int lo t,.int hi u,.int 1 v] },toks:=tk }:=by
 refine wpAny_pyIter_range (IsRange.new ..) (small_one h1 h2 h3 h4) ?_
 have I1:Inv X pins σ H { s with heap:=s.heap.push { cls:=.type "range",data:=.fields #[.int lo t,.int hi u,.int 1 v] },toks:=tk }:=I.kept fun b o e=>D6 _ e
 refine ⟨(s.heap.push { cls:=.type "range",data:=.fields #[.int lo t,.int hi u,.int 1 v] }).objs.size,[(s.heap.push { cls:=.type "range",data:=.fields #[.int lo t,.int hi u,.int 1 v] }).objs.size],_,_,H,rfl,
  I1.kept (t':=tk) fun b o e=>D6 _ e,oU _ lo (hi - lo).toNat,?_,fun b hb=>?_,q⟩
 ·have e1:lo+((0:Nat):Int)*1=lo:=by simp
  have e2:(((hi - lo).toNat:Nat):Int) - ((0:Nat):Int)=Builtin.Range.rangeSize lo hi 1:=by rw [rangeSize_one];split<;>omega
  show IsRangeIter _ _ (lo+((0:Nat):Int)*1) ((((hi - lo).toNat:Nat):Int) - ((0:Nat):Int)) 1
  rw [e1,e2]
  exact Em _ rfl
 ·have e:b=(s.heap.push { cls:=.type "range",data:=.fields #[.int lo t,.int hi u,.int 1 v] }).objs.size:=by simpa using hb
  subst e
  exact I1.fpOk (Ec _) (I1.hok.fresh (Ec _))
inductive ud (R:It->Hp->Prop) (vs:List V) (H1:Hp):Prop
 | mk (j:Int):vs=[.int j]->-(2 ^ 62)<=j->j < 2 ^ 62->R (yE 0 j.toNat) H1->ud R vs H1
def A8 (ta:TA):TI:=fun σ H R=>ta σ H fun vs H1=>ud R vs H1
inductive ue (R:It->Hp->Prop) (vs:List V) (H1:Hp):Prop
 | mk (i j:Int):vs=[.int i,.int j]->(-(2 ^ 62)<=i/\i < 2 ^ 62/\-(2 ^ 62)<=j/\j < 2 ^ 62)->R (yE i (j - i).toNat) H1->ue R vs H1
def A9 (ta:TA):TI:=fun σ H R=>ta σ H fun vs H1=>ue R vs H1
theorem eQ {a:Expr} {ta:TA} {p pos:Pos} (hg:Gl X "range") (hm:X.mg "range"=none) (ha:PA X [a] ta) (hs:starEach [a] X.env=[(false,eval a X.env)]:=by rfl):PI X tg (.Call (.Name "range" p) [a] [] pos) (A8 ta):=by
 refine ⟨?_⟩
 intro pins s σ H R I h
 refine Call_ (ff I hg hm boot_range (EV (bK (ha pos pins s σ H _ I h) fun us s1 ⟨vs,H1,I1,r1,q1⟩=>?_) hs rfl))
 obtain ⟨j,e,q1,q2,q⟩:=q1
 subst e
 cases r1 with
 | cons r rr=>
  cases rr
  obtain ⟨t,rfl⟩:=r
  exact call_range_1 (nB I1 (by omega) (by omega) q1 q2 (by simpa using q))
theorem rV {a b:Expr} {ta:TA} {p pos:Pos} (hg:Gl X "range") (hm:X.mg "range"=none) (ha:PA X [a,b] ta) (hs:starEach [a,b] X.env=[(false,eval a X.env),(false,eval b X.env)]:=by rfl) (hs2:starEach [b] X.env=[(false,eval b X.env)]:=by rfl) :
  PI X tg (.Call (.Name "range" p) [a,b] [] pos) (A9 ta):=by
 refine ⟨?_⟩
 intro pins s σ H R I h
 refine Call_ (ff I hg hm boot_range (EV (bK (ha pos pins s σ H _ I h) fun us s1 ⟨vs,H1,I1,r1,q1⟩=>?_) (by rw [hs,hs2]) (by rw [hs2];rfl)))
 obtain ⟨i,j,e,⟨q1,q2,q3,q4⟩,q⟩:=q1
 subst e
 cases r1 with
 | cons r rr=>
  cases rr with
  | cons r' rr=>
   cases rr
   obtain ⟨t,rfl⟩:=r
   obtain ⟨t',rfl⟩:=r'
   exact call_range_2 (nB I1 q1 q2 q3 q4 q)
def CG (wi:TI) (g:TG) (tb:TS):TS:=fun D σ H=>wi σ H fun J H1=>∃ W:Nat->Nat->St->Hp->Prop,(∃ m,W 0 m σ H1)/\∀ i m σ H,W i m σ H->
 (J.stop i H/\D.nx σ H)\/(J.go i H/\∃ N:St->Hp->Prop,(∀ σ' H',N σ' H'->∃ m',m' < m/\W (i+1) m' σ' H')/\∀ x H',J.yld i H x H'->g x σ H' fun σ2 H2=>tb { D with nx:=N,ct:=N,bk:=D.nx } σ2 H2)
def eJ (fp:List Addr) (h:Heap):List (Addr×Obj):=fp.filterMap fun b=>(h.get? b).map fun o=>(b,o)
theorem hZ {fp:List Addr} {h:Heap} {b:Addr} {o:Obj} (hb:b∈fp) (e:h.get? b=some o):(b,o)∈eJ fp h:=List.mem_filterMap.mpr ⟨b,hb,by rw [e];rfl⟩
theorem kL {fp:List Addr} {h:Heap} {p:Addr×Obj} (hp:p∈eJ fp h):p.1∈fp/\h.get? p.1=some p.2:=by
 obtain ⟨b,hb,e⟩:=List.mem_filterMap.mp hp
 cases q:h.get? b with
 | none=>rw [q] at e;cases e
 | some o=>
  rw [q] at e
  have e':(b,o)=p:=Eg e
  subst e'
  exact ⟨hb,q⟩
theorem Inv.pinned {pins:List (Addr×Obj)} {σ:St} {H:Hp} {s:Shared} {fp:List Addr} (I:Inv X pins σ H s) (hf:∀ b∈fp,kC X pins H b) (ho:∀ b∈fp,∃ o,s.heap.get? b=some o/\∀ v,o.data≠.cell v):Inv X (pins++eJ fp s.heap) σ H s:=
 I.pins_of fun p hp=>(Ez.mp hp).elim (fun z=>I.pin p (EH _ z)) fun z=>by
  obtain ⟨hb,e⟩:=kL z
  obtain ⟨f0,f1,f2,_⟩:=hf p.1 hb
  obtain ⟨o,e',d⟩:=ho p.1 hb
  rw [e] at e';cases e'
  exact ⟨e,f0,f1,f2,d⟩
theorem Inv.unpinned {pins pl:List (Addr×Obj)} {σ:St} {H:Hp} {s:Shared} (I:Inv X (pins++pl) σ H s):Inv X pins σ H s:=I.pins_of fun p hp=>I.pin p (EH _ (Fj _ hp))
theorem cS {iter:Expr} {body:List Stmt} {wi:TI} {g:TG} {tb:TS} {pos:Pos} (hp:PassesOwn (model X.prog X.w) X.A X.env X.xe) (hc:X.calm=true) (hi:PI X tg iter wi) (hg:PG X tg g) (hb:PSs X body tb)
  (hs:∀ x,foldedSetIterable iter X.env x=pure x:=by intro _;rfl):PS X (.For tg iter body [] pos) (CG wi g tb):=by
 refine ⟨?_⟩
 intro pins s σ H D I h
 refine wpAny_For (bK (hi pins s σ H _ I h) fun v s1 h1=>bK h1 fun itv s2 h2=>?_) hs
 obtain ⟨it,fp,tn,J,H2,e,I2,T,st2,f2,W,⟨m0,w0⟩,turn⟩:=h2
 subst e
 have stat:∀ {H':Hp},(∀ b∈fp,H' b=none)->∀ b∈fp,kC X pins H' b:=fun hn b hb=>⟨hn b hb,(f2 b hb).2⟩
 refine codeAny_forLoop_any (fun n s'=>∃ i σ' H',Inv X pins σ' H' s'/\tn i s'.heap/\(∀ b∈fp,H' b=none)/\W i n σ' H') ?_ m0 ⟨0,σ,H2,I2,st2,fun b hb=>(f2 b hb).1,w0⟩
 rintro n s3 ⟨i,σ3,H3,I3,st3,fr3,w3⟩
 rcases turn i n σ3 H3 w3 with ⟨stop,qn⟩|⟨go,N,hN,step⟩
 ·refine wpAny_passesOwn hp (bK (T.done X rfl rfl rfl hc i pins s3 σ3 H3 X.xe I3 (stat fr3) st3 stop) fun r s4 ⟨hr,I4⟩=>?_)
  subst hr
  exact wpAny_execs_nil ⟨σ3,H3,I4,qn⟩
 ·refine wpAny_passesOwn hp (bK (T.item X rfl rfl rfl hc i pins s3 σ3 H3 X.xe I3 (stat fr3) st3 go) fun r s4 ⟨u,hr,h4⟩=>?_)
  subst hr
  refine wpAny_passesOwn hp (bK h4 fun _ s5 ⟨x,H5,I5,r5,y5,st5,fr5⟩=>?_)
  have I5':=I5.pinned (stat fr5) (T.obj _ _ st5)
  refine wpAny_passesOwn hp (bK (hg _ s5 σ3 H5 x u _ I5' r5 (step x H5 y5)) fun _ s6 ⟨σ6,H6,I6,q6⟩=>?_)
  refine wpAny_passesOwn hp (bK (hb _ s6 σ6 H6 _ I6 q6) fun f s7 q7=>?_)
  have again:∀ {σ7:St} {H7:Hp},Inv X (pins++eJ fp s5.heap) σ7 H7 s7->N σ7 H7->∃ m,m < n/\∃ i σ' H',Inv X pins σ' H' s7/\tn i s7.heap/\(∀ b∈fp,H' b=none)/\W i m σ' H':=fun {σ7 H7} I7 n7=>by
   obtain ⟨m',hm,w7⟩:=hN σ7 H7 n7
   refine ⟨m',hm,i+1,σ7,H7,I7.unpinned,T.keep _ _ _ st5 fun b hb o e=>(I7.pin (b,o) (EH _ (EH _ (hZ hb e)))).1,fun b hb=>?_,w7⟩
   obtain ⟨o,e,d⟩:=T.obj _ _ st5 b hb
   exact (I7.pin (b,o) (EH _ (EH _ (hZ hb e)))).2.1
  cases f with
  | next=>obtain ⟨σ7,H7,I7,n7⟩:=q7;exact again I7 n7
  | cont=>obtain ⟨σ7,H7,I7,n7⟩:=q7;exact again I7 n7
  | brk=>obtain ⟨σ7,H7,I7,q7⟩:=q7;exact ⟨σ7,H7,I7.unpinned,q7⟩
  | ret v=>obtain ⟨x7,σ7,H7,I7,r7,q7⟩:=q7;exact ⟨x7,σ7,H7,I7.unpinned,r7,q7⟩
end
theorem jD {K:PySem.W.Frag} {a:Addr} {xs:List V} {g:TG} {tb:TS} {D:Ends} {σ:St} {H:Hp} (Pv:Nat->St->Hp->Prop) (h0:Pv 0 σ H) (hl:∀ i σ H,i<=xs.length->Pv i σ H->SqL K H a xs)
  (hs:∀ i x σ H,xs[i]?=some x->Pv i σ H->g x σ H fun σ2 H2=>tb { D with nx:=Pv (i+1),ct:=Pv (i+1),bk:=D.nx } σ2 H2) (hd:∀ σ H,Pv xs.length σ H->D.nx σ H) :
  ∃ W:Nat->Nat->St->Hp->Prop,(∃ m,W 0 m σ H)/\∀ i m σ H,W i m σ H->
   ((AK K a).stop i H/\D.nx σ H)\/((AK K a).go i H/\∃ N:St->Hp->Prop,(∀ σ' H',N σ' H'->∃ m',m' < m/\W (i+1) m' σ' H')/\∀ x H',(AK K a).yld i H x H'->g x σ H' fun σ2 H2=>tb { D with nx:=N,ct:=N,bk:=D.nx } σ2 H2):=by
 refine ⟨fun i m σ H=>m=xs.length - i/\i<=xs.length/\Pv i σ H,⟨xs.length,by simp,EM _,h0⟩,?_⟩
 rintro i m σ H ⟨rfl,hi,p⟩
 have q:=hl i σ H hi p
 by_cases hlt:i < xs.length
 ·refine .inr ⟨⟨xs,xs[i],q,by simp [hlt]⟩,Pv (i+1),fun σ' H' p'=>⟨xs.length - (i+1),by omega,rfl,hlt,p'⟩,fun x H' y=>?_⟩
  obtain ⟨e,y⟩:=y
  subst e
  exact hs i x σ _ (y xs q) p
 ·have e:i=xs.length:=by omega
  subst e
  exact .inl ⟨⟨xs,q,Ec _⟩,hd σ H p⟩
theorem lQ {K:PySem.W.Frag} {a:Addr} {xs:List V} {g:TG} {tb:TS} {D:Ends} {σ:St} {H:Hp} (Pv:Nat->St->Hp->Prop) (h0:Pv 0 σ H) (hl:∀ i σ H,i<=xs.length->Pv i σ H->SqT K H a xs)
  (hs:∀ i x σ H,xs[i]?=some x->Pv i σ H->g x σ H fun σ2 H2=>tb { D with nx:=Pv (i+1),ct:=Pv (i+1),bk:=D.nx } σ2 H2) (hd:∀ σ H,Pv xs.length σ H->D.nx σ H) :
  ∃ W:Nat->Nat->St->Hp->Prop,(∃ m,W 0 m σ H)/\∀ i m σ H,W i m σ H->
   ((AL K a).stop i H/\D.nx σ H)\/((AL K a).go i H/\∃ N:St->Hp->Prop,(∀ σ' H',N σ' H'->∃ m',m' < m/\W (i+1) m' σ' H')/\∀ x H',(AL K a).yld i H x H'->g x σ H' fun σ2 H2=>tb { D with nx:=N,ct:=N,bk:=D.nx } σ2 H2):=by
 refine ⟨fun i m σ H=>m=xs.length - i/\i<=xs.length/\Pv i σ H,⟨xs.length,by simp,EM _,h0⟩,?_⟩
 rintro i m σ H ⟨rfl,hi,p⟩
 have q:=hl i σ H hi p
 by_cases hlt:i < xs.length
 ·refine .inr ⟨⟨xs,xs[i],q,by simp [hlt]⟩,Pv (i+1),fun σ' H' p'=>⟨xs.length - (i+1),by omega,rfl,hlt,p'⟩,fun x H' y=>?_⟩
  obtain ⟨e,y⟩:=y
  subst e
  exact hs i x σ _ (y xs q) p
 ·have e:i=xs.length:=by omega
  subst e
  exact .inl ⟨⟨xs,q,Ec _⟩,hd σ H p⟩
theorem gK {lo:Int} {n:Nat} {g:TG} {tb:TS} {D:Ends} {σ:St} {H:Hp} (Pv:Nat->St->Hp->Prop) (h0:Pv 0 σ H)
  (hs:∀ i σ H,i < n->Pv i σ H->g (.int (lo+i)) σ H fun σ2 H2=>tb { D with nx:=Pv (i+1),ct:=Pv (i+1),bk:=D.nx } σ2 H2) (hd:∀ σ H,Pv n σ H->D.nx σ H) :
  ∃ W:Nat->Nat->St->Hp->Prop,(∃ m,W 0 m σ H)/\∀ i m σ H,W i m σ H->
   ((yE lo n).stop i H/\D.nx σ H)\/((yE lo n).go i H/\∃ N:St->Hp->Prop,(∀ σ' H',N σ' H'->∃ m',m' < m/\W (i+1) m' σ' H')/\∀ x H',(yE lo n).yld i H x H'->g x σ H' fun σ2 H2=>tb { D with nx:=N,ct:=N,bk:=D.nx } σ2 H2):=by
 refine ⟨fun i m σ H=>m=n - i/\i<=n/\Pv i σ H,⟨n,by simp,EM _,h0⟩,?_⟩
 rintro i m σ H ⟨rfl,hi,p⟩
 by_cases hlt:i < n
 ·refine .inr ⟨hlt,Pv (i+1),fun σ' H' p'=>⟨n - (i+1),by omega,rfl,hlt,p'⟩,fun x H' y=>?_⟩
  obtain ⟨e,y⟩:=y
  subst e y
  exact hs i σ _ hlt p
 ·have e:i=n:=by omega
  subst e
  exact .inl ⟨Ec _,hd σ H p⟩
end L2
namespace L2
open PySem PySem.Spec PyProof.Rows
abbrev R2:=V->V->Hp->VK->Prop
def fN (X:Cx) (f:Value->Value->Sem Value) (r:R2):Prop:=
 ∀ (pins:List (Addr×Obj)) (s:Shared) (σ:St) (H:Hp) (x y:V) (v u:Value) (Q:VK),Inv X pins σ H s->RelV x v->RelV y u->r x y H Q->
  wpAny (model X.prog X.w) X.A (f v u) (EP X pins σ Q) X.xe s
def CH (X:Cx) (f:Value->Sem Value) (r:V->Hp->VK->Prop):Prop:=
 ∀ (pins:List (Addr×Obj)) (s:Shared) (σ:St) (H:Hp) (x:V) (v:Value) (Q:VK),Inv X pins σ H s->RelV x v->r x H Q->
  wpAny (model X.prog X.w) X.A (f v) (EP X pins σ Q) X.xe s
def dW (X:Cx) (f:Value) (r:List V->Hp->VK->Prop):Prop:=
 ∀ (pins:List (Addr×Obj)) (s:Shared) (σ:St) (H:Hp) (xs:List V) (us:List Value) (Q:VK),Inv X pins σ H s->Vals xs us->r xs H Q->
  wpAny (model X.prog X.w) X.A (call f us) (EP X pins σ Q) X.xe s
def CI (X:Cx) (r:V->Hp->(Bool->Hp->Prop)->Prop):Prop:=
 ∀ (pins:List (Addr×Obj)) (s:Shared) (σ:St) (H:Hp) (x:V) (v:Value) (Q:Bool->Hp->Prop),Inv X pins σ H s->RelV x v->r x H Q->
  wpAny (model X.prog X.w) X.A (truthy v) (TP X pins σ Q) X.xe s
def Co (r:R2) (ta tb:TE):TE:=fun σ H Q=>ta σ H fun x H1=>tb σ H1 fun y H2=>r x y H2 Q
def DL (r:V->Hp->VK->Prop) (ta:TE):TE:=fun σ H Q=>ta σ H fun x H1=>r x H1 Q
inductive rI (C:Int->Int->Prop) (g:Int->Int->V) (x:V) (y:V) (H:Hp) (Q:VK):Prop
 | mk (i j:_):x=.int i->y=.int j->C i j->Q (g i j) H->rI C g x y H Q
inductive wX (g:Int->Int->V) (x:V) (y:V) (H:Hp) (Q:VK):Prop
 | mk (i j:_):x=.int i->y=.int j->Q (g i j) H->wX g x y H Q
inductive rU (g:Int->V) (x:V) (H:Hp) (Q:VK):Prop
 | mk (i:_):x=.int i->Q (g i) H->rU g x H Q
section
variable {X:Cx} {a b c:Expr} {ta tb tc:TE} {pos:Pos}
theorem zm (ha:PE X a ta) (hb:PE X b tb) {pins:List (Addr×Obj)} {s:Shared} {σ:St} {H:Hp} {R:V->V->Hp->Prop} (I:Inv X pins σ H s)
  (h:ta σ H fun x H1=>tb σ H1 fun y H2=>R x y H2) {Q:Value->Shared->Prop} {f:Value->Value->Sem Value}
  (hf:∀ v u s2 x y H2,Inv X pins σ H2 s2->RelV x v->RelV y u->R x y H2->wpAny (model X.prog X.w) X.A (f v u) Q X.xe s2) :
  wpAny (model X.prog X.w) X.A (eval a X.env) (fun v s₁=>wpAny (model X.prog X.w) X.A (eval b X.env) (fun u s₂=>wpAny (model X.prog X.w) X.A (f v u) Q X.xe s₂) X.xe s₁) X.xe s:=by
 refine bK (ha pins s σ H _ I h) fun v s1 ⟨x,H1,I1,r1,q1⟩=>?_
 refine bK (hb pins s1 σ H1 _ I1 q1) fun u s2 ⟨y,H2,I2,r2,q2⟩=>?_
 exact hf v u s2 x y H2 I2 r1 r2 q2
theorem aH {op:Operator} {r:R2} (ho:fN X (binaryOp op) r) (ha:PE X a ta) (hb:PE X b tb):PE X (.BinOp a op b pos) (Co r ta tb):=by
 refine ⟨?_⟩
 intro pins s σ H Q I h
 exact wpAny_BinOp (zm ha hb I h fun v u s2 x y H2 I2 rx ry q=>ho pins s2 σ H2 x y v u Q I2 rx ry q)
theorem yG {op:UnaryOp} {r:V->Hp->VK->Prop} (ho:CH X (unaryOp op) r) (ha:PE X a ta):PE X (.UnaryOp op a pos) (DL r ta):=by
 refine ⟨?_⟩
 intro pins s σ H Q I h
 exact UnaryOp_ (bK (ha pins s σ H _ I h) fun v s1 ⟨x,H1,I1,r1,q1⟩=>ho pins s1 σ H1 x v Q I1 r1 q1)
theorem AM {f:Value->Value->Sem Value} {C:Int->Int->Prop} {g:Int->Int->Int}
  (rule:∀ (i j:Int) (t u:Tok) (s:Shared) (Q:Value->Shared->Prop) (E:Value->Shared->Prop),C i j->Q (.int (g i j) s.toks) { s with toks:=s.toks+1 }->wpAny (model X.prog X.w) X.A (f (.int i t) (.int j u)) Q E s) :
  fN X f (rI C fun i j=>.int (g i j)):=by
 intro pins s σ H x y v u Q I rx ry h
 obtain ⟨i,j,rfl,rfl,hc,q⟩:=h
 obtain ⟨t,rfl⟩:=rx
 obtain ⟨t',rfl⟩:=ry
 exact rule i j t t' s _ _ hc ⟨.int (g i j),H,I.tok _,⟨_,rfl⟩,q⟩
theorem Ba {f:Value->Value->Sem Value} {g:Int->Int->Int}
  (rule:∀ (i j:Int) (t u:Tok) (s:Shared) (Q:Value->Shared->Prop) (E:Value->Shared->Prop),Q (.int (g i j) s.toks) { s with toks:=s.toks+1 }->wpAny (model X.prog X.w) X.A (f (.int i t) (.int j u)) Q E s) :
  fN X f (wX fun i j=>.int (g i j)):=by
 intro pins s σ H x y v u Q I rx ry h
 obtain ⟨i,j,rfl,rfl,q⟩:=h
 obtain ⟨t,rfl⟩:=rx
 obtain ⟨t',rfl⟩:=ry
 exact rule i j t t' s _ _ ⟨.int (g i j),H,I.tok _,⟨_,rfl⟩,q⟩
theorem wY {f:Value->Value->Sem Value} {g:Int->Int->Bool}
  (rule:∀ (i j:Int) (t u:Tok) (s:Shared) (Q:Value->Shared->Prop) (E:Value->Shared->Prop),Q (.bool (g i j)) s->wpAny (model X.prog X.w) X.A (f (.int i t) (.int j u)) Q E s) :
  fN X f (wX fun i j=>.bl (g i j)):=by
 intro pins s σ H x y v u Q I rx ry h
 obtain ⟨i,j,rfl,rfl,q⟩:=h
 obtain ⟨t,rfl⟩:=rx
 obtain ⟨t',rfl⟩:=ry
 exact rule i j t t' s _ _ ⟨.bl (g i j),H,I,rfl,q⟩
def CJ (i j:Int):Prop:=0 < j/\j < 1073741824
def zn (i j:Int):Prop:=0<=j/\j<=1000000/\i.natAbs < 2 ^ 64
def CMul (i j:Int):Prop:=(-(2 ^ 64) < i/\i < 2 ^ 64)\/(-(2 ^ 64) < j/\j < 2 ^ 64)
theorem CMul.ok {i j:Int} (h:CMul i j):IntMulOk i j:=by
 rcases h with ⟨h1,h2⟩|⟨h1,h2⟩
 ·exact .of_left (intBits_le_64 h1 h2)
 ·exact .of_right (intBits_le_64 h1 h2)
theorem bS:fN X (binaryOp .Add) (wX fun i j=>.int (i+j)):=Ba fun _ _ _ _ _ _ _ q=>add_int q
theorem dX:fN X (binaryOp .Sub) (wX fun i j=>.int (i - j)):=Ba fun _ _ _ _ _ _ _ q=>sub_int q
theorem fP:fN X (binaryOp .Mult) (rI CMul fun i j=>.int (i*j)):=AM fun _ _ _ _ _ _ _ hc q=>mul_int q hc.ok
theorem qu:fN X (binaryOp .FloorDiv) (rI CJ fun i j=>.int (i / j)):=AM fun i j _ _ _ _ _ hc q=>by
 have h1:(0:Int) < j:=hc.1
 have h2:j < 1073741824:=hc.2
 exact floordiv_int (by omega) (by rw [Int.fdiv_eq_ediv_of_nonneg i (by omega)];exact q) (.inl (PyProof.noPylong_small (by omega)))
theorem fQ:fN X (binaryOp .Mod) (rI (fun _ j=>0 < j) fun i j=>.int (i % j)):=AM fun i j _ _ _ _ _ hc q=>by
 have h1:(0:Int) < j:=hc
 exact mod_int' (by omega) (by rw [Int.fmod_eq_emod_of_nonneg i (by omega)];exact q)
theorem zo:fN X (binaryOp .Pow) (rI zn fun i j=>.int (i ^ j.toNat)):=AM fun _ _ _ _ _ _ _ hc q=>pow_int_small hc.1 hc.2.1 hc.2.2 q
theorem oW:fN X (binaryOp .LShift) (rI zn fun i j=>.int (i*2 ^ j.toNat)):=AM fun _ _ _ _ _ _ _ hc q=>lshift_int_small hc.1 hc.2.1 hc.2.2 q
theorem DM {f:Value->Sem Value} {g:Int->Int}
  (rule:∀ (i:Int) (t:Tok) (s:Shared) (Q:Value->Shared->Prop) (E:Value->Shared->Prop),Q (.int (g i) s.toks) { s with toks:=s.toks+1 }->wpAny (model X.prog X.w) X.A (f (.int i t)) Q E s) :
  CH X f (rU fun i=>.int (g i)):=by
 intro pins s σ H x v Q I rx h
 obtain ⟨i,rfl,q⟩:=h
 obtain ⟨t,rfl⟩:=rx
 exact rule i t s _ _ ⟨.int (g i),H,I.tok _,⟨_,rfl⟩,q⟩
theorem uf:CH X (unaryOp .USub) (rU fun i=>.int (-i)):=DM fun _ _ _ _ _ q=>neg_int q
end
def Bb:V->V->Bool
 | .non,.non=>true|.non,.int _=>true|.int _,.non=>true|.non,.bl _=>true|.bl _,.non=>true|.non,.str _=>true|.str _,.non=>true
 | .int _,.int _=>true|.bl _,.bl _=>true|.str _,.str _=>true|.byt _,.byt _=>true
 | .int _,.str _=>true|.str _,.int _=>true|.bl _,.str _=>true|.str _,.bl _=>true
 | _,_=>false
def DN:R2:=fun x y H Q=>Bb x y=true/\Q (.bl (decide (x=y))) H
def DP:R2:=fun x y H Q=>Bb x y=true/\Q (.bl (!decide (x=y))) H
theorem qv {i j:Int}:decide (V.int i=V.int j)=(i == j):=by
 rw [EX]
 simp
theorem ug {i j:Bool}:decide (V.bl i=V.bl j)=(i == j):=by
 rw [EX]
 simp
theorem qx {i j:Str}:decide (V.str i=V.str j)=(i == j):=by
 rw [EX]
 simp
theorem qy {i j:Array UInt8}:decide (V.byt i=V.byt j)=(i.toList == j.toList):=by
 rw [EX]
 cases i
 cases j
 simp
section
variable {X:Cx} {a b c:Expr} {ta tb tc:TE} {pos:Pos}
theorem bj {pins:List (Addr×Obj)} {σ:St} {H:Hp} {s:Shared} {Q:VK} {k k':Bool} (I:Inv X pins σ H s) (q:Q (.bl k) H) (e:k=k'):EP X pins σ Q (.bool k') s:=by
 subst e
 exact ⟨.bl k,H,I,rfl,q⟩
theorem bO:fN X (compareOp .Eq) DN:=by
 intro pins s σ H x y v u Q I rx ry h
 obtain ⟨hs,q⟩:=h
 cases x with
 | non=>
  cases rx
  cases y with
  | non=>cases ry;exact PySem.EqNone.eq_none_none (bj I q (by simp))
  | bl j=>cases ry;exact PySem.EqNone.eq_none_bool (bj I q (by simp))
  | int j=>obtain ⟨t',rfl⟩:=ry;exact PySem.EqNone.eq_none_int (bj I q (by simp))
  | str j=>obtain ⟨t',rfl⟩:=ry;exact PySem.EqNone.eq_none_str (bj I q (by simp))
  | _=>exact absurd (show false=true from hs) Eo
 | bl i=>
  cases rx
  cases y with
  | non=>cases ry;exact PySem.EqNone.eq_bool_none (bj I q (by simp))
  | bl j=>cases ry;exact eq_bool (bj I q ug)
  | str j=>obtain ⟨t',rfl⟩:=ry;exact PySem.EqMixed.eq_bool_str (bj I q (by simp))
  | _=>exact absurd (show false=true from hs) Eo
 | int i=>
  obtain ⟨t,rfl⟩:=rx
  cases y with
  | non=>cases ry;exact PySem.EqNone.eq_int_none (bj I q (by simp))
  | int j=>obtain ⟨t',rfl⟩:=ry;exact eq_int (bj I q qv)
  | str j=>obtain ⟨t',rfl⟩:=ry;exact PySem.EqMixed.eq_int_str (bj I q (by simp))
  | _=>exact absurd (show false=true from hs) Eo
 | str i=>
  obtain ⟨t,rfl⟩:=rx
  cases y with
  | non=>cases ry;exact PySem.EqNone.eq_str_none (bj I q (by simp))
  | bl j=>cases ry;exact PySem.EqMixed.eq_str_bool (bj I q (by simp))
  | int j=>obtain ⟨t',rfl⟩:=ry;exact PySem.EqMixed.eq_str_int (bj I q (by simp))
  | str j=>obtain ⟨t',rfl⟩:=ry;exact eq_str (bj I q qx)
  | _=>exact absurd (show false=true from hs) Eo
 | byt i=>
  obtain ⟨t,rfl⟩:=rx
  cases y with
  | byt j=>obtain ⟨t',rfl⟩:=ry;exact PySem.W.eq_bytes (bj I q qy)
  | _=>exact absurd (show false=true from hs) Eo
 | _=>cases y<;>exact absurd (show false=true from hs) Eo
theorem iw:fN X (compareOp .NotEq) DP:=by
 intro pins s σ H x y v u Q I rx ry h
 obtain ⟨hs,q⟩:=h
 cases x with
 | non=>
  cases rx
  cases y with
  | non=>cases ry;exact PySem.EqNone.ne_none_none (bj I q (by simp))
  | bl j=>cases ry;exact PySem.EqNone.ne_none_bool (bj I q (by simp))
  | int j=>obtain ⟨t',rfl⟩:=ry;exact PySem.EqNone.ne_none_int (bj I q (by simp))
  | str j=>obtain ⟨t',rfl⟩:=ry;exact PySem.EqNone.ne_none_str (bj I q (by simp))
  | _=>exact absurd (show false=true from hs) Eo
 | bl i=>
  cases rx
  cases y with
  | non=>cases ry;exact PySem.EqNone.ne_bool_none (bj I q (by simp))
  | bl j=>cases ry;exact ne_bool (bj I q (congrArg not ug))
  | str j=>obtain ⟨t',rfl⟩:=ry;exact PySem.EqMixed.ne_bool_str (bj I q (by simp))
  | _=>exact absurd (show false=true from hs) Eo
 | int i=>
  obtain ⟨t,rfl⟩:=rx
  cases y with
  | non=>cases ry;exact PySem.EqNone.ne_int_none (bj I q (by simp))
  | int j=>obtain ⟨t',rfl⟩:=ry;exact ne_int (bj I q (congrArg not qv))
  | str j=>obtain ⟨t',rfl⟩:=ry;exact PySem.EqMixed.ne_int_str (bj I q (by simp))
  | _=>exact absurd (show false=true from hs) Eo
 | str i=>
  obtain ⟨t,rfl⟩:=rx
  cases y with
  | non=>cases ry;exact PySem.EqNone.ne_str_none (bj I q (by simp))
  | bl j=>cases ry;exact PySem.EqMixed.ne_str_bool (bj I q (by simp))
  | int j=>obtain ⟨t',rfl⟩:=ry;exact PySem.EqMixed.ne_str_int (bj I q (by simp))
  | str j=>obtain ⟨t',rfl⟩:=ry;exact ne_str (bj I q (congrArg not qx))
  | _=>exact absurd (show false=true from hs) Eo
 | byt i=>
  obtain ⟨t,rfl⟩:=rx
  cases y with
  | byt j=>obtain ⟨t',rfl⟩:=ry;exact PySem.W.ne_bytes (bj I q (congrArg not qy))
  | _=>exact absurd (show false=true from hs) Eo
 | _=>cases y<;>exact absurd (show false=true from hs) Eo
theorem fU:fN X (compareOp .Lt) (wX fun i j=>.bl (decide (i < j))):=wY fun _ _ _ _ _ _ _ q=>lt_int q
theorem eR:fN X (compareOp .LtE) (wX fun i j=>.bl (decide (i<=j))):=wY fun _ _ _ _ _ _ _ q=>le_int q
theorem nC:fN X (compareOp .Gt) (wX fun i j=>.bl (decide (j < i))):=wY fun _ _ _ _ _ _ _ q=>gt_int q
theorem Bc:fN X (compareOp .GtE) (wX fun i j=>.bl (decide (j<=i))):=wY fun _ _ _ _ _ _ _ q=>ge_int q
theorem eT:fN X (compareOp .In) (fun x y H Q=>∃ i j,x=.str i/\y=.str j/\Q (.bl (!(Builtin.Str.occurrences j i 0 j.length 1).isEmpty)) H):=by
 intro pins s σ H x y v u Q I rx ry h
 obtain ⟨i,j,rfl,rfl,q⟩:=h
 obtain ⟨t,rfl⟩:=rx
 obtain ⟨t',rfl⟩:=ry
 exact in_str (bj I q rfl)
theorem oX:fN X (compareOp .Is) (fun x y H Q=>y=.non/\Q (.bl (decide (x=.non))) H):=by
 intro pins s σ H x y v u Q I rx ry h
 obtain ⟨rfl,q⟩:=h
 cases ry
 refine is_none_gen (bj I q ?_)
 cases x<;>first
  | (cases rx;rfl)
  | (obtain ⟨t,rfl⟩:=rx;rfl)
theorem wZ:fN X (compareOp .IsNot) (fun x y H Q=>y=.non/\Q (.bl (!decide (x=.non))) H):=by
 intro pins s σ H x y v u Q I rx ry h
 obtain ⟨rfl,q⟩:=h
 cases ry
 refine isnot_none_gen (bj I q ?_)
 cases x<;>first
  | (cases rx;rfl)
  | (obtain ⟨t,rfl⟩:=rx;rfl)
theorem lR:fN X (compareOp .NotIn) (fun x y H Q=>∃ i j,x=.str i/\y=.str j/\Q (.bl (!(!(Builtin.Str.occurrences j i 0 j.length 1).isEmpty))) H):=by
 intro pins s σ H x y v u Q I rx ry h
 obtain ⟨i,j,rfl,rfl,q⟩:=h
 obtain ⟨t,rfl⟩:=rx
 obtain ⟨t',rfl⟩:=ry
 exact notIn_str (bj I q rfl)
theorem aB (b:Expr) {op:CmpOp} (h:op≠.In:=by decide) (h2:op≠.NotIn:=by decide):behindInMarks op b=false:=by
 have e1:(op == CmpOp.In)=false:=by cases op<;>first|rfl|exact absurd rfl h
 have e2:(op == CmpOp.NotIn)=false:=by cases op<;>first|rfl|exact absurd rfl h2
 cases b<;>simp [behindInMarks,e1,e2]
theorem cX {op:CmpOp} {r:R2} (ho:fN X (compareOp op) r) (ha:PE X a ta) (hb:PE X b tb) (hm:behindInMarks op b=false):PE X (.Compare a [op] [b] pos) (Co r ta tb):=by
 refine ⟨?_⟩
 intro pins s σ H Q I h
 exact wpAny_Compare1 (zm ha hb I h fun v u s2 x y H2 I2 rx ry q=>ho pins s2 σ H2 x y v u Q I2 rx ry q) hm
inductive uh (Q:Bool->Hp->Prop) (x:V) (H':Hp):Prop
 | mk (k:_):x=.bl k->Q k H'->uh Q x H'
def yH (t:TE):TT:=fun σ H Q=>t σ H fun x H'=>uh Q x H'
theorem aq {op:CmpOp} {r:R2} (ho:fN X (compareOp op) r) (ha:PE X a ta) (hb:PE X b tb) (hm:behindInMarks op b=false):PT X (.Compare a [op] [b] pos) (yH (Co r ta tb)):=by
 refine ⟨?_⟩
 intro pins s σ H Q I h
 refine wpAny_isTrue_Compare1 (bK (ha pins s σ H _ I h) fun v s1 ⟨x,H1,I1,r1,q1⟩=>bK (hb pins s1 σ H1 _ I1 q1) fun u s2 ⟨y,H2,I2,r2,q2⟩=>
  bK (ho pins s2 σ H2 x y v u _ I2 r1 r2 q2) fun c s3 ⟨z,H3,I3,r3,k,e,q3⟩=>?_) hm
 subst e
 cases r3
 exact wpAny_truthy_bool ⟨H3,I3,q3⟩
inductive qz (r':R2) (tc:TE) (σ:St) (Q:VK) (y:V) (z:V) (H3:Hp):Prop
 | mk (k:_):z=.bl k->(if k=true then tc σ H3 fun w' H4=>r' y w' H4 Q else Q (.bl false) H3)->qz r' tc σ Q y z H3
def ui (r r':R2) (ta tb tc:TE):TE:=fun σ H Q=>ta σ H fun x H1=>tb σ H1 fun y H2=>r x y H2 fun z H3=>qz r' tc σ Q y z H3
theorem jE {op op':CmpOp} {r r':R2} (ho:fN X (compareOp op) r) (ho':fN X (compareOp op') r') (ha:PE X a ta) (hb:PE X b tb) (hc:PE X c tc)
  (hm:lastMarks [op,op'] [b,c]=false:=by with_unfolding_all rfl):PE X (.Compare a [op,op'] [b,c] pos) (ui r r' ta tb tc):=by
 refine ⟨?_⟩
 intro pins s σ H Q I h
 refine Compare_chain (bK (ha pins s σ H _ I h) fun v s1 ⟨x,H1,I1,r1,q1⟩=>chain_link (bK (hb pins s1 σ H1 _ I1 q1) fun u s2 ⟨y,H2,I2,r2,q2⟩=>
  bK (ho pins s2 σ H2 x y v u _ I2 r1 r2 q2) fun d s3 ⟨z,H3,I3,r3,k,e,q3⟩=>?_)) hm
 subst e
 cases r3
 refine wpAny_truthy_bool ?_
 cases k with
 | false=>exact ite_ff ⟨.bl false,H3,I3,rfl,q3⟩
 | true=>exact ite_tt (chain_last (bK (hc pins s3 σ H3 _ I3 q3) fun w' s4 ⟨z',H4,I4,r4,q4⟩=>ho' pins s4 σ H4 y z' u w' Q I4 r2 r4 q4))
theorem jF {op op':CmpOp} {r r':R2} (ho:fN X (compareOp op) r) (ho':fN X (compareOp op') r') (ha:PE X a ta) (hb:PE X b tb) (hc:PE X c tc)
  (hm:lastMarks [op,op'] [b,c]=false:=by with_unfolding_all rfl):PT X (.Compare a [op,op'] [b,c] pos) (yH (ui r r' ta tb tc)):=by
 refine ⟨?_⟩
 intro pins s σ H Q I h
 refine isTrue_chain (bK (ha pins s σ H _ I h) fun v s1 ⟨x,H1,I1,r1,q1⟩=>test_link (bK (hb pins s1 σ H1 _ I1 q1) fun u s2 ⟨y,H2,I2,r2,q2⟩=>
  bK (ho pins s2 σ H2 x y v u _ I2 r1 r2 q2) fun d s3 ⟨z,H3,I3,r3,k,e,q3⟩=>?_)) hm
 subst e
 cases r3
 refine wpAny_truthy_bool ?_
 cases k with
 | false=>
  obtain ⟨k',e',q'⟩:=q3
  cases e'
  exact ite_ff ⟨H3,I3,q'⟩
 | true=>
  refine ite_tt (test_last (bK (hc pins s3 σ H3 _ I3 q3) fun w' s4 ⟨z',H4,I4,r4,q4⟩=>bK (ho' pins s4 σ H4 y z' u w' _ I4 r2 r4 q4) fun d' s5 ⟨z2,H5,I5,r5,k2,e2,q5⟩=>?_))
  subst e2
  cases r5
  exact wpAny_truthy_bool ⟨H5,I5,q5⟩
def Bd (K:PySem.W.Frag) (x:V) (H:Hp) (k:Bool):Prop:=
 match x with
 | .non=>k=false
 | .bl b=>k=b
 | .int i=>k=(i != 0)
 | .str y=>y.length<=sizeLine/\k=((y.length:Int) != 0)
 | .byt y=>y.size<=sizeLine/\k=((y.size:Int) != 0)
 | .ref p=>(∃ xs,SqL K H p xs/\k=!xs.isEmpty)\/(∃ xs,SqT K H p xs/\k=!xs.isEmpty)\/∃ kvs,H p=some (.dK kvs)/\k=!kvs.isEmpty
 | _=>False
theorem oY {κ:Type} {kvs:List (κ×V)} {vs:List (κ×Value)} (r:KV kvs vs):(!vs.isEmpty)=!kvs.isEmpty:=by
 cases r<;>rfl
theorem jG {xs:List V} {its:List Value} (r:Vals xs its):(!its.toArray.isEmpty)=!xs.isEmpty:=by
 cases r<;>simp
theorem ia:(sizeLine:Nat) < 2 ^ 63:=by rw [sizeLine_eq];decide
theorem zp:CI X (fun x H Q=>∃ k,Bd X.K x H k/\Q k H):=by
 intro pins s σ H x v Q I rx h
 obtain ⟨k,e,q⟩:=h
 have hl:=ia
 have hs:sizeLine=16777216:=sizeLine_eq
 cases x with
 | non=>
  cases rx
  have e':k=false:=e
  subst e'
  exact truthy_none ⟨H,I,q⟩
 | bl b=>
  cases rx
  have e':k=b:=e
  subst e'
  exact wpAny_truthy_bool ⟨H,I,q⟩
 | int i=>
  obtain ⟨t,rfl⟩:=rx
  have e':k=(i != 0):=e
  subst e'
  exact PySem.P.truthy_int ⟨H,I,q⟩
 | str y=>
  obtain ⟨t,rfl⟩:=rx
  obtain ⟨hy,e'⟩:y.length<=sizeLine/\k=((y.length:Int) != 0):=e
  subst e'
  exact PySem.P.truthy_str (by omega) ⟨H,I.tok _,q⟩
 | byt y=>
  obtain ⟨t,rfl⟩:=rx
  obtain ⟨hy,e'⟩:y.size<=sizeLine/\k=((y.size:Int) != 0):=e
  subst e'
  exact PySem.W.truthy_bytes (by omega) ⟨H,I.tok _,q⟩
 | ref p=>
  cases rx
  have e':(∃ xs,SqL X.K H p xs/\k=!xs.isEmpty)\/(∃ xs,SqT X.K H p xs/\k=!xs.isEmpty)\/∃ kvs,H p=some (.dK kvs)/\k=!kvs.isEmpty:=e
  rcases e' with ⟨xs,hx,e'⟩|⟨xs,hx,e'⟩|⟨kvs,hx,e'⟩
  ·subst e'
   obtain ⟨its,r,pl,hz⟩:=I.list hx
   have hlen:=r.length
   exact wpAny_truthy_list pl.isList (by simp only [En];omega) ⟨H,I.tok _,by rw [jG r];exact q⟩
  ·subst e'
   obtain ⟨its,r,pl,hz⟩:=I.tuple hx
   have hlen:=r.length
   exact truthy_tuple pl (by simp only [En];omega) ⟨H,I.tok _,by rw [jG r];exact q⟩
  ·subst e'
   obtain ⟨hz,hS,vs,r,m⟩:kvs.length<=sizeLine/\(p == sysModules)=false/\∃ vs,KV kvs vs/\s.heap.DictOf (cg X.prog X.w) p vs:=I.hok p _ hx
   have hlen:kvs.length=vs.length:=Paired.length r
   exact wpAny_truthy_dict hS m (by omega) ⟨H,I.tok _,by rw [oY r];exact q⟩
 | _=>exact (show False from e).elim
theorem jH (ha:PE X a ta) (he:∀ whole,isTrue a X.env whole=(do let v <-whole;standAt a.pos;holding [v] (truthy v))) :
  PT X a (fun σ H Q=>ta σ H fun x H'=>∃ k,Bd X.K x H' k/\Q k H'):=by
 refine ⟨?_⟩
 intro pins s σ H Q I h
 exact isTrue_plain (bK (ha pins s σ H _ I h) fun v s1 ⟨x,H1,I1,r1,q1⟩=>zp pins s1 σ H1 x v Q I1 r1 q1) (he _)
theorem bT:fN X (binaryOp .Add) (fun x y H Q=>∃ i j,x=.str i/\y=.str j/\i.length+j.length<=sizeLine/\Q (.str (i++j)) H):=by
 intro pins s σ H x y v u Q I rx ry h
 obtain ⟨i,j,rfl,rfl,hz,q⟩:=h
 obtain ⟨t,rfl⟩:=rx
 obtain ⟨t',rfl⟩:=ry
 exact add_str (fun t' tk=>⟨.str (i++j),H,I.tok _,⟨_,rfl⟩,q⟩) hz
theorem gZ {x:V} {us:List Value} (r:Vals [x] us):∃ u,us=[u]/\RelV x u:=by
 cases r with
 | cons r1 r2=>cases r2;exact ⟨_,rfl,r1⟩
theorem uk {x y:V} {us:List Value} (r:Vals [x,y] us):∃ u w',us=[u,w']/\RelV x u/\RelV y w':=by
 cases r with
 | cons r1 r2=>
  cases r2 with
  | cons r3 r4=>cases r4;exact ⟨_,_,rfl,r1,r3⟩
theorem rW (hc:X.calm=true):dW X (.builtin "max") (fun xs H Q=>∃ i j,xs=[.int i,.int j]/\Q (.int (if j > i then j else i)) H):=by
 intro pins s σ H xs us Q I r h
 obtain ⟨i,j,rfl,q⟩:=h
 obtain ⟨u,w',rfl,⟨t,rfl⟩,⟨t',rfl⟩⟩:=uk r
 refine max_two_ints (I.ok.hd hc) fun h' tk k=>⟨_,H,I.kept k,?_,q⟩
 by_cases hj:j > i
 ·rw [if_pos hj,if_pos hj];exact ⟨_,rfl⟩
 ·rw [if_neg hj,if_neg hj];exact ⟨_,rfl⟩
theorem rX (hc:X.calm=true):dW X (.builtin "min") (fun xs H Q=>∃ i j,xs=[.int i,.int j]/\Q (.int (if j < i then j else i)) H):=by
 intro pins s σ H xs us Q I r h
 obtain ⟨i,j,rfl,q⟩:=h
 obtain ⟨u,w',rfl,⟨t,rfl⟩,⟨t',rfl⟩⟩:=uk r
 refine min_two_ints (I.ok.hd hc) fun h' tk k=>⟨_,H,I.kept k,?_,q⟩
 by_cases hj:j < i
 ·rw [if_pos hj,if_pos hj];exact ⟨_,rfl⟩
 ·rw [if_neg hj,if_neg hj];exact ⟨_,rfl⟩
theorem gL:dW X (.type "int") (fun xs H Q=>(∃ i,xs=[.int i]/\Q (.int i) H)\/∃ k,xs=[.bl k]/\Q (.int (if k then 1 else 0)) H):=by
 intro pins s σ H xs us Q I r h
 rcases h with ⟨i,rfl,q⟩|⟨k,rfl,q⟩
 ·obtain ⟨u,rfl,t,rfl⟩:=gZ r
  exact call_int_int ⟨.int i,H,I,⟨_,rfl⟩,q⟩
 ·obtain ⟨u,rfl,r1⟩:=gZ r
  cases r1
  exact call_int_bool ⟨.int (if k then 1 else 0),H,I.tok _,⟨_,rfl⟩,q⟩
theorem bN:dW X (.type "str") (fun xs H Q=>∃ i,xs=[.int i]/\i.natAbs.log2 < 1920/\Q (.str (toString i)) H):=by
 intro pins s σ H xs us Q I r h
 obtain ⟨i,rfl,hz,q⟩:=h
 obtain ⟨u,rfl,t,rfl⟩:=gZ r
 exact PySem.P.str_of_int hz ⟨.str _,H,I.tok _,⟨_,rfl⟩,q⟩
end
end L2
namespace L2
open PySem PySem.Spec PyProof.Rows
structure ObjM (h:Heap) (x dx C:Addr) (mA:Str->Option Value):Prop where
 obj:h.get? x=some (PySem.W.instObj C dx)
 ns:h.Ns1 dx mA
 ne:dx≠x
theorem iK {h:Heap} {dx:Addr} {mA:Str->Option Value} (n:h.Ns1 dx mA):∃ od,h.get? dx=some od/\∀ name,PySem.W.lookIn name od=some (mA name):=by
 obtain ⟨o,es,ep,ho,hd,hk,_,hm⟩:=n
 refine ⟨o,ho,fun name=>?_⟩
 have e:=hm name
 unfold nsFind findBy at e
 rw [<-Array.find?_toList] at e
 unfold PySem.W.lookIn
 rw [hd]
 dsimp only
 split
 ·rename_i y q
  rw [q] at e
  exact congrArg some e
 ·rename_i q
  rw [q] at e
  have a:es.toList.any (·.refKey)=false:=by
   rw [List.any_eq_false]
   intro y hy
   obtain ⟨z,t,hkey⟩:=hk y (Array.mem_toList_iff.mp hy)
   simp [DictEntry.refKey,hkey]
  have a':¬ es.toList.any (·.refKey)=true:=by rw [a];exact Eo
  rw [if_neg a']
  exact congrArg some e
theorem ObjM.look {h:Heap} {x dx C:Addr} {mA:Str->Option Value} (I:ObjM h x dx C mA):∃ od,PySem.W.InstAt h x (PySem.W.instObj C dx) C (some od)/\∀ name,PySem.W.lookIn name od=some (mA name):=
 let ⟨od,ho,hl⟩:=iK I.ns
 ⟨od,⟨I.obj,rfl,rfl,ho⟩,hl⟩
section
variable {prog:Program} {w:World} {A:Around} {E:Value->Shared->Prop} {s:Shared} {K:PySem.W.Frag} {x dx C f:Addr} {mA:Str->Option Value} {name:Str} {v:Value}
theorem xb {expr:Bool} {Q:Value->Shared->Prop} (X:K.In s.heap) (I:ObjM s.heap x dx C mA) (hg:PySem.W.plainGet K C name=true) (hh:PySem.W.hasDictIn K C=true)
  (ha:PySem.W.findIn K (.ref C) name=some none) (hv:mA name=some v) (hv':PySem.W.handedIn v=true) (h:Q v { s with toks:=s.toks+1 }) :
  wpAny (model prog w) A (getAttr (.ref x) name expr) Q E s:=by
 obtain ⟨od,J,hl⟩:=I.look
 exact PySem.W.get_value X J (PySem.W.plainGet_of hg).1 (PySem.W.findObj_own hh ha rfl (by rw [hl,hv])) hv' h
theorem ul {pl:Sem Bool} {Q:Value×List Value->Shared->Prop} (X:K.In s.heap) (I:ObjM s.heap x dx C mA) (hg:PySem.W.plainGet K C name=true)
  (hf:PySem.W.findIn K (.ref C) name=some (some (.ref f))) (ht:PySem.W.isFn K (.ref f)=true) (hv:mA name=none) (h:Q (.ref f,[.ref x]) s) :
  wpAny (model prog w) A (getMethod (.ref x) name pl) Q E s:=by
 obtain ⟨od,J,hl⟩:=I.look
 exact PySem.W.method_fn X J (PySem.W.plainGet_of hg).1 (PySem.W.plainGet_of hg).2 hf (beq_iff_eq.mp ht) (by show (PySem.W.lookIn name od).map (·.isSome)=some false;rw [hl,hv];rfl) h
theorem xc {ns:List Str} {Q:Unit->Shared->Prop} (X:K.In s.heap) (I:ObjM s.heap x dx C mA)
  (hs:PySem.W.findIn K (.ref C) "__setattr__"=some (some (.builtin "object.__setattr__"))) (hp:PySem.W.plainOver K C=true) (ht:PySem.W.takerIn K C name=some none) (hh:PySem.W.hasDictIn K C=true)
  (hw:PySem.Within mA ns) (hsz:ns.length<=sizeLine)
  (h:∀ h',ObjM h' x dx C (fun y=>if y=name then some v else mA y)->Heap.SameBut dx s.heap h'->Q () { s with heap:=h',toks:=s.toks+2 }) :
  wpAny (model prog w) A (setAttr (.ref x) name v) Q E s:=by
 obtain ⟨od,J,hl⟩:=I.look
 refine PySem.W.set_plain X J hs (PySem.W.osa_open (s:={ s with toks:=s.toks+1 }) (r:=none) X J hp ht fun b=>?_)
 obtain ⟨cd,hc,hd'⟩:=PySem.W.any_some hh
 have hx:s.heap.get? x=some ⟨.ref C,some dx,.plain,#[]⟩:=I.obj
 refine wpAny_bind (wpAny_pure (wpAny_bind (wpAny_bind (wpAny_loadPart hx (wpAny_bind (PySem.W.Looks.here (s:={ s with toks:=s.toks+1 }) (PySem.W.looks_clsIn X hc) ?_))))))
 rw [hd']
 refine wpAny_pure (a:=some dx) (wpAny_bind (wpAny_pure (wpAny_bind ?_)))
 refine wpAny_nsSet1 (s:={ s with toks:=s.toks+1 }) I.ns fun h' hn2 hs2=>?_
 obtain ⟨oD,esD,epD,hoD,hdD,hcD⟩:=hn2.count (PySem.Within.cons name v hw)
 refine wpAny_bind (wpAny_lookBehind hoD (by rw [hdD];exact pastItsLine_dict (Ew hcD (by rw [D8];omega))) ?_)
 exact wpAny_pure (h _ ⟨(hs2.2 _ (Ne.symm I.ne)).trans I.obj,hn2,I.ne⟩ hs2)
theorem um {R:Result->Shared->Prop} {vs:List Value} {kw:List (Str×Value)} (X:K.In s.heap) (hm:PySem.W.makesIn K C=true)
  (hi:PySem.W.findIn K (.ref C) "__init__"=some (some (.ref f))) (hf:PySem.W.typeIn K (.ref f)=some (.type "function"))
  (h:codeAny (model prog w) (A.under (.builtin "type.__call__" ⟨.ref C::vs,kw⟩)) (.call (.ref f) ⟨.ref (s.heap.objs.size+1)::vs,kw⟩) (PySem.W.InitBack (s.heap.objs.size+1) R)
   { s with heap:=(s.heap.push PySem.W.emptyDict).push (PySem.W.instObj C s.heap.objs.size) }) :
  codeAny (model prog w) A (.call (.ref C) ⟨vs,kw⟩) R s:=by
 obtain ⟨hh,g,d,t,os⟩:=s
 exact PySem.W.make_core (PySem.W.makes_of X hm) (PySem.W.looks_findIn X hi) (fun self=>PySem.W.bind_fn X self hf) (.inl rfl) h
end
def aJ (f:Str) (v:V):List (Str×V)->List (Str×V)
 | []=>[(f,v)]
 | (g,x)::r=>if g=f then (g,v)::r else (g,x)::aJ f v r
theorem fV (f g:Str) (v:V):∀ fs:List (Str×V),(aJ f v fs).lookup g=if g=f then some v else fs.lookup g
 | []=>by
  show List.lookup g [(f,v)]=_
  by_cases h:g=f
  ·have hb:(g == f)=true:=beq_iff_eq.mpr h
   simp only [List.lookup,hb,if_pos h]
  ·have hb:(g == f)=false:=beq_eq_false_iff_ne.mpr h
   simp only [List.lookup,hb,if_neg h]
 | (k,x)::r=>by
  have ih:=fV f g v r
  rw [show aJ f v ((k,x)::r)=(if k=f then (k,v)::r else (k,x)::aJ f v r) from rfl]
  by_cases hk:k=f
  ·rw [if_pos hk]
   by_cases h:g=k
   ·have hb:(g == k)=true:=beq_iff_eq.mpr h
    simp only [List.lookup,hb,if_pos (h.trans hk)]
   ·have hb:(g == k)=false:=beq_eq_false_iff_ne.mpr h
    simp only [List.lookup,hb,if_neg (fun e:g=f=>h (e.trans hk.symm))]
  ·rw [if_neg hk]
   by_cases h:g=k
   ·have hb:(g == k)=true:=beq_iff_eq.mpr h
    simp only [List.lookup,hb,if_neg (fun e:g=f=>hk (h.symm.trans e))]
   ·have hb:(g == k)=false:=beq_eq_false_iff_ne.mpr h
    simp only [List.lookup,hb]
    exact ih
theorem eV (f:Str) (v:V):∀ fs:List (Str×V),f∈(aJ f v fs).map (·.1)/\∀ g,g∈fs.map (·.1)->g∈(aJ f v fs).map (·.1)
 | []=>⟨by simp [aJ],fun g h=>by simp at h⟩
 | (k,x)::r=>by
  obtain ⟨i1,i2⟩:=eV f v r
  rw [show aJ f v ((k,x)::r)=(if k=f then (k,v)::r else (k,x)::aJ f v r) from rfl]
  by_cases hk:k=f
  ·rw [if_pos hk]
   subst hk
   exact ⟨by simp,fun g h=>by simpa using h⟩
  ·rw [if_neg hk]
   refine ⟨?_,fun g h=>?_⟩
   ·rw [Ek]
    exact Ee _ i1
   ·rw [Ek] at h ⊢
    rcases Ej.mp h with e|e
    ·exact Ej.mpr (.inl e)
    ·exact Ee _ (i2 g e)
theorem fW (f:Str) (v:V):∀ fs:List (Str×V),(aJ f v fs).length<=fs.length+1
 | []=>by simp [aJ]
 | (k,x)::r=>by
  have ih:=fW f v r
  rw [show aJ f v ((k,x)::r)=(if k=f then (k,v)::r else (k,x)::aJ f v r) from rfl]
  by_cases hk:k=f
  ·rw [if_pos hk,D8,D8];omega
  ·rw [if_neg hk,D8,D8];omega
theorem RelO.some_of {v:V} {o:Option Value} (r:RelO (some v) o):∃ u,o=some u/\RelV v u:=by
 cases o with
 | none=>exact (show False from r).elim
 | some u=>exact ⟨u,rfl,r⟩
theorem RelO.none_of {o:Option Value} (r:RelO none o):o=none:=by
 cases o with
 | none=>rfl
 | some u=>exact (show False from r).elim
theorem kM {v:V} {u:Value} (r:RelV v u):PySem.W.handedIn u=true:=by
 cases v with
 | non=>cases (show u=Value.none from r);rfl
 | bl b=>cases (show u=Value.bool b from r);rfl
 | int i=>obtain ⟨t,e⟩:=(show ∃ t,u=Value.int i t from r);cases e;rfl
 | str x=>obtain ⟨t,e⟩:=(show ∃ t,u=Value.str x t from r);cases e;rfl
 | byt b=>obtain ⟨t,e⟩:=(show ∃ t,u=Value.bytes b t from r);cases e;rfl
 | flt b=>obtain ⟨t,e⟩:=(show ∃ t,u=Value.float b t from r);cases e;rfl
 | ref a=>cases (show u=Value.ref a from r);rfl
 | ty n=>cases (show u=Value.type n from r);rfl
section
variable {P:Program} {w:World} {H H':Hp} {h h':Heap} {a C dx:Addr} {fs fs':List (Str×V)}
theorem jm (hok:HOk P w H h) (e:H a=some (.ins C dx fs)):∃ mA,ObjM h a dx C mA/\(∀ f,RelO (fs.lookup f) (mA f))/\PySem.Within mA (fs.map (·.1))/\fs.length<=1000/\H dx=some (.own a):=by
 obtain ⟨d,z,ne,ob,mA,n,r,q⟩:=(show ObjOk P w H h a (.ins C dx fs) from hok a _ e)
 exact ⟨mA,⟨ob,n,ne⟩,r,q,z,d⟩
end
structure Cls (K:PySem.W.Frag) (C:Addr):Prop where
 pg:PySem.W.plainGet K C Str.empty=true
 hd:PySem.W.hasDictIn K C=true
 po:PySem.W.plainOver K C=true
 sa:PySem.W.findIn K (.ref C) "__setattr__"=some (some (.builtin "object.__setattr__"))
theorem Cls.get {K:PySem.W.Frag} {C:Addr} (c:Cls K C) (f:Str):PySem.W.plainGet K C f=true:=c.pg
def NoAttr (K:PySem.W.Frag) (C:Addr) (f:Str):Prop:=PySem.W.findIn K (.ref C) f=some none
theorem NoAttr.taker {K:PySem.W.Frag} {C:Addr} {f:Str} (n:NoAttr K C f):PySem.W.takerIn K C f=some none:=by
 unfold PySem.W.takerIn
 rw [show PySem.W.findIn K (.ref C) f=some none from n]
 rfl
structure xf (K:PySem.W.Frag) (C:Addr) (m:Str) (f:Addr):Prop where
 at_:PySem.W.findIn K (.ref C) m=some (some (.ref f))
 fn:PySem.W.isFn K (.ref f)=true
 kp:PySem.W.keepIn K (.ref f)=true
section
variable {X:Cx} {pins:List (Addr×Obj)} {σ:St} {H:Hp} {s:Shared} {a C dx:Addr} {fs:List (Str×V)} {f:Str} {v:V} {A:Around} {E:Value->Shared->Prop}
theorem jI {b:Bool} {Q:Value->Shared->Prop} (I:Inv X pins σ H s) (e:H a=some (.ins C dx fs)) (c:Cls X.K C) (n:NoAttr X.K C f) (l:fs.lookup f=some v)
  (h:∀ u s',Inv X pins σ H s'->RelV v u->Q u s'):wpAny (model X.prog X.w) A (getAttr (.ref a) f b) Q E s:=by
 obtain ⟨mA,O,r,_,_,_⟩:=jm I.hok e
 obtain ⟨u,hu,ru⟩:=RelO.some_of (v:=v) (o:=mA f) (by rw [<-l];exact r f)
 exact xb I.kIn O (c.get f) c.hd n hu (kM ru) (h u _ (I.tok _) ru)
theorem jJ {m:Str} {g:Addr} {pl:Sem Bool} {Q:Value×List Value->Shared->Prop} (I:Inv X pins σ H s) (e:H a=some (.ins C dx fs)) (c:Cls X.K C) (k:xf X.K C m g) (l:fs.lookup m=none)
  (h:Q (.ref g,[.ref a]) s):wpAny (model X.prog X.w) A (getMethod (.ref a) m pl) Q E s:=by
 obtain ⟨mA,O,r,_,_,_⟩:=jm I.hok e
 have hn:mA m=none:=RelO.none_of (by rw [<-l];exact r m)
 exact ul I.kIn O (c.get m) k.at_ k.fn hn h
theorem jK {y:V} {u:Value} {Q:Unit->Shared->Prop} (I:Inv X pins σ H s) (e:H a=some (.ins C dx fs)) (c:Cls X.K C) (n:NoAttr X.K C f) (hl:fs.length < 1000) (ry:RelV y u)
  (h:∀ s',Inv X pins σ (ax H a (.ins C dx (aJ f y fs))) s'->Q () s'):wpAny (model X.prog X.w) A (setAttr (.ref a) f u) Q E s:=by
 obtain ⟨mA,O,r,wi,_,ho⟩:=jm I.hok e
 have hz:(fs.map (·.1)).length<=sizeLine:=by rw [D5,sizeLine_eq];omega
 refine xc I.kIn O c.sa c.po n.taker c.hd wi hz fun h' O' sb=>h _ ?_
 have hd:∃ o,h'.get? dx=some o:=let ⟨o,_,_,e',_⟩:=O'.ns;⟨o,e'⟩
 refine I.write (x:=a) (e:=dx) (by rw [e];exact True.intro) (.inr ho) (fun b q hb z=>(sb.2 b hb).trans z) hd ?_
 refine ⟨by rw [ao O.ne];exact ho,?_,O.ne,O'.obj,_,O'.ns,fun g=>?_,fun g hg=>?_⟩
 ·have:=fW f y fs;omega
 ·show RelO ((aJ f y fs).lookup g) (if g=f then some u else mA g)
  rw [fV]
  by_cases q:g=f
  ·rw [if_pos q,if_pos q];exact ry
  ·rw [if_neg q,if_neg q];exact r g
 ·by_cases q:g=f
  ·rw [q];exact (eV f y fs).1
  ·refine (eV f y fs).2 g (wi g fun z=>hg ?_)
   show (if g=f then some u else mA g)=none
   rw [if_neg q];exact z
theorem Inv.made (I:Inv X pins σ H s):Inv X pins σ (ax (ax H s.heap.objs.size (.own (s.heap.objs.size+1))) (s.heap.objs.size+1) (.ins C s.heap.objs.size []))
  { s with heap:=(s.heap.push PySem.W.emptyDict).push (PySem.W.instObj C s.heap.objs.size) }:=by
 have e1:(s.heap.push PySem.W.emptyDict).get? s.heap.objs.size=some PySem.W.emptyDict:=Em s.heap rfl
 have e2:((s.heap.push PySem.W.emptyDict).push (PySem.W.instObj C s.heap.objs.size)).get? (s.heap.objs.size+1)=some (PySem.W.instObj C s.heap.objs.size):=by
  have:=Em (s.heap.push PySem.W.emptyDict) (o:=PySem.W.instObj C s.heap.objs.size) rfl
  rwa [E2] at this
 have e3:(s.heap.push PySem.W.emptyDict).Ns s.heap.objs.size (fun _=>none):=⟨PySem.W.emptyDict,#[],_,e1,rfl,(fun e he=>absurd he (by simp)),fun _=>rfl⟩
 have I1:=I.laid (a:=s.heap.objs.size) (o:=.own (s.heap.objs.size+1)) (h':=s.heap.push PySem.W.emptyDict) (t':=s.toks) (fun b u q=>D6 _ q) (Ec _) ⟨_,e1⟩
 refine I1.laid (a:=s.heap.objs.size+1) (o:=.ins C s.heap.objs.size []) (t':=s.toks) (fun b u q=>D6 _ q) (Nat.le_of_eq (E2 _ _)) ?_
 have ne:s.heap.objs.size≠s.heap.objs.size+1:=Ey (Fs _)
 refine ⟨by rw [ao ne,ad],EM _,ne,e2,fun _=>none,(Heap.Ns1.of_empty e3).at fun o q=>D6 _ q,fun _=>True.intro,fun y hy=>absurd rfl hy⟩
theorem qA {prog:Program} {w:World} {env:Env} {e:Expr} {f:Str} {pos:Pos} {s:Shared} {Q:Value->Shared->Prop} (hb:attributeBase e f env (eval e env)=eval e env)
  (h:wpAny (model prog w) A (eval e env) (fun o s₁=>wpAny (model prog w) A (getAttr o f true) Q E s₁) E s):wpAny (model prog w) A (eval (.Attribute e f pos) env) Q E s:=
 Attribute_any_ h (by rw [arm_eval_Attribute,hb])
end
inductive yI (K:PySem.W.Frag) (f:Str) (Q:VK) (x:V) (H1:Hp):Prop
 | mk (a C dx fs v:_):x=.ref a->H1 a=some (.ins C dx fs)->Cls K C->NoAttr K C f->fs.lookup f=some v->Q v H1->yI K f Q x H1
def CM (K:PySem.W.Frag) (ta:TE) (f:Str):TE:=fun σ H Q=>ta σ H fun x H1=>yI K f Q x H1
inductive yJ (K:PySem.W.Frag) (f:Str) (D:Ends) (σ:St) (y:V) (x:V) (H2:Hp):Prop
 | mk (a C dx fs:_):x=.ref a->H2 a=some (.ins C dx fs)->Cls K C->NoAttr K C f->fs.length < 1000->D.nx σ (ax H2 a (.ins C dx (aJ f y fs)))->yJ K f D σ y x H2
def CO (K:PySem.W.Frag) (ta tv:TE) (f:Str):TS:=fun D σ H=>tv σ H fun y H1=>ta σ H1 fun x H2=>yJ K f D σ y x H2
def Be (X:Cx) (op:Operator) (rd:V->V->Hp->VK->Prop):Prop:=
 ∀ (pins:List (Addr×Obj)) (s:Shared) (σ:St) (H:Hp) (x y:V) (u v:Value) (Q:VK),Inv X pins σ H s->RelV x u->RelV y v->rd x y H Q->wpAny (model X.prog X.w) X.A (inplaceOp op u v) (EP X pins σ Q) X.xe s
inductive nE (K:PySem.W.Frag) (tv:TE) (rd:V->V->Hp->VK->Prop) (f:Str) (D:Ends) (σ:St) (x:V) (H1:Hp):Prop
 | mk (a C dx fs v:_):x=.ref a->H1 a=some (.ins C dx fs)->Cls K C->NoAttr K C f->fs.lookup f=some v->(tv σ H1 fun y H2=>rd v y H2 fun z H3=>∃ dx' fs',H3 a=some (.ins C dx' fs')/\fs'.length < 1000/\D.nx σ (ax H3 a (.ins C dx' (aJ f z fs'))))->nE K tv rd f D σ x H1
def xg (K:PySem.W.Frag) (ta tv:TE) (rd:V->V->Hp->VK->Prop) (f:Str):TS:=fun D σ H=>ta σ H fun x H1=>nE K tv rd f D σ x H1
section
variable {X:Cx} {o e value:Expr} {f:Str} {pos pos' tpos:Pos} {ta tv:TE}
theorem cb (he:PE X e ta) (hb:attributeBase e f X.env (eval e X.env)=eval e X.env):PE X (.Attribute e f pos) (CM X.K ta f):=by
 refine ⟨?_⟩
 intro pins s σ H Q I h
 refine qA hb (bK (he pins s σ H _ I h) fun u s1 ⟨x,H1,I1,rx,a,C,dx,fs,v,ex,ea,c,n,l,q⟩=>?_)
 subst ex
 obtain rfl:u=Value.ref a:=rx
 exact jI I1 ea c n l fun u' s2 I2 ru=>⟨v,H1,I2,ru,q⟩
theorem dn (ha:PE X o ta) (hv:PE X value tv) (hs:swapsWith value (some (.Attribute o f pos')) pos.line X.env=pure false):PS X (.Assign [.Attribute o f pos'] value pos) (CO X.K ta tv f):=by
 refine ⟨?_⟩
 intro pins s σ H D I h
 refine plainObj_wpAny_Assign_Attribute (bK (hv pins s σ H _ I h) fun u s1 ⟨y,H1,I1,ry,q⟩=>bK (ha pins s1 σ H1 _ I1 q) fun ov s2 ⟨x,H2,I2,rx,a,C,dx,fs,ex,ea,c,n,l,q2⟩=>?_) hs
 subst ex
 obtain rfl:ov=Value.ref a:=rx
 exact jK I2 ea c n l ry fun s3 I3=>⟨σ,_,I3,q2⟩
theorem kN {op:Operator} {rd:V->V->Hp->VK->Prop} (ha:PE X o ta) (hv:PE X value tv) (hop:Be X op rd):PS X (.AugAssign (.Attribute o f tpos) op value pos) (xg X.K ta tv rd f):=by
 refine ⟨?_⟩
 intro pins s σ H D I h
 refine wpAny_AugAssign_AttributeAny (bK (ha pins s σ H _ I h) fun ov s1 ⟨x,H1,I1,rx,a,C,dx,fs,v,ex,ea,c,n,l,q⟩=>?_)
 subst ex
 obtain rfl:ov=Value.ref a:=rx
 refine jI I1 ea c n l fun u s2 I2 ru=>bK (hv pins s2 σ H1 _ I2 q) fun w3 s3 ⟨y,H2,I3,ry,q3⟩=>bK (hop pins s3 σ H2 v y u w3 _ I3 ru ry q3) fun w4 s4 ⟨z,H3,I4,rz,dx',fs',ea',l',q4⟩=>?_
 exact jK I4 ea' c n l' rz fun s5 I5=>⟨σ,_,I5,q4⟩
inductive Bf (x:V) (y:V) (H:Hp) (Q:VK):Prop
 | mk (i j:_):x=.int i->y=.int j->Q (.int (i+j)) H->Bf x y H Q
theorem uo:Be X .Add Bf:=by
 rintro pins s σ H x y u v Q I rx ry ⟨i,j,rfl,rfl,q⟩
 obtain ⟨t,rfl⟩:=(show ∃ t,u=Value.int i t from rx)
 obtain ⟨t',rfl⟩:=(show ∃ t',v=Value.int j t' from ry)
 exact PyProof.Rows.iadd_int ⟨.int (i+j),H,I.tok _,⟨_,rfl⟩,q⟩
end
section
variable {X:Cx} {pins:List (Addr×Obj)} {σ:St} {H:Hp} {s:Shared} {A:Around} {E:Value->Shared->Prop} {Q:Value->Shared->Prop} {c:Value} {b:Bool}
inductive iy (K:PySem.W.Frag) (H:Hp):V->Value->Prop where
 | non:iy K H .non (.type "NoneType")
 | bl (x:Bool):iy K H (.bl x) (.type "bool")
 | int (i:Int):iy K H (.int i) (.type "int")
 | str (x:Str):iy K H (.str x) (.type "str")
 | flt (x:UInt64):iy K H (.flt x) (.type "float")
 | lst {a:Addr} {xs:List V} (e:H a=some (.lst xs)):iy K H (.ref a) (.type "list")
 | frz {a:Addr} {o:Obj} {xs:List V} (e:H a=some (.frz o (.lst xs))):iy K H (.ref a) (.type "list")
 | tup {a:Addr} {xs:List V} (e:H a=some (.tup xs)):iy K H (.ref a) (.type "tuple")
 | dK {a:Addr} {kvs:List (cq×V)} (e:H a=some (.dK kvs)):iy K H (.ref a) (.type "dict")
 | dT {a:Addr} {kvs:List (List cq×V)} (e:H a=some (.dT kvs)):iy K H (.ref a) (.type "dict")
 | ins {a C dx:Addr} {fs:List (Str×V)} (e:H a=some (.ins C dx fs)) (cl:Cls K C) (ha:PySem.W.findIn K (.ref C) "__class__"=some (some (.builtin "object.__class__")))
   (hn:PySem.W.specialIn K (.builtin "object.__class__") "__get__"=some (some (.builtin "getset_descriptor.__get__"))) (htk:PySem.W.takesIn K (.builtin "object.__class__")=some true)
   (hm:PySem.W.mroIn K C (.type "object")=some true):iy K H (.ref a) (.ref C)
theorem rY {x:V} {u t:Value} (I:Inv X pins σ H s) (rx:RelV x u) (ty:iy X.K H x t) (e:PySem.W.kitOne X.K t c=some b) (h:∀ tk,Q (.bool b) { s with toks:=tk }) :
  wpAny (model X.prog X.w) A (call (.builtin "isinstance") [u,c]) Q E s:=by
 cases ty with
 | non=>cases (show u=Value.none from rx);exact E3 PySem.W.kitx_none I.kIn True.intro e (fun z=>nomatch z) h
 | bl y=>cases (show u=Value.bool y from rx);exact E3 PySem.W.kitx_bool I.kIn True.intro e (fun z=>nomatch z) h
 | int i=>obtain ⟨t,q⟩:=(show ∃ t,u=Value.int i t from rx);cases q;exact E3 PySem.W.kitx_int I.kIn True.intro e (fun z=>nomatch z) h
 | str y=>obtain ⟨t,q⟩:=(show ∃ t,u=Value.str y t from rx);cases q;exact E3 PySem.W.kitx_str I.kIn True.intro e (fun z=>nomatch z) h
 | flt y=>obtain ⟨t,q⟩:=(show ∃ t,u=Value.float y t from rx);cases q;exact E3 PySem.W.kitx_float I.kIn True.intro e (fun z=>nomatch z) h
 | @lst a xs ea=>
  cases (show u=Value.ref a from rx)
  obtain ⟨_,_,n,_,h1⟩:=(show ObjOk X.prog X.w H s.heap a (.lst xs) from I.hok a _ ea)
  exact E3 PySem.W.kitx_list I.kIn ⟨_,h1,rfl⟩ e (fun z=>nomatch z) h
 | @frz a ob xs ea=>
  cases (show u=Value.ref a from rx)
  obtain ⟨_,_,_,n,_,h1⟩:=(show ObjOk X.prog X.w H s.heap a (.frz ob (.lst xs)) from I.hok a _ ea)
  exact E3 PySem.W.kitx_list I.kIn ⟨_,h1,rfl⟩ e (fun z=>nomatch z) h
 | @tup a xs ea=>
  cases (show u=Value.ref a from rx)
  obtain ⟨_,_,_,p⟩:=(show ObjOk X.prog X.w H s.heap a (.tup xs) from I.hok a _ ea)
  obtain ⟨o,h1,h2,_⟩:=p
  exact E3 PySem.W.kitx_tuple I.kIn ⟨o,h1,(Prod.mk.inj h2).1⟩ e (fun z=>nomatch z) h
 | @dK a kvs ea=>
  cases (show u=Value.ref a from rx)
  obtain ⟨_,_,vs,_,p⟩:=(show ObjOk X.prog X.w H s.heap a (.dK kvs) from I.hok a _ ea)
  obtain ⟨o,es,ep,h1,h2,_⟩:=p
  exact E3 PySem.W.kitx_dict I.kIn ⟨o,h1,h2.1⟩ e (fun z=>nomatch z) h
 | @dT a kvs ea=>
  cases (show u=Value.ref a from rx)
  obtain ⟨_,_,xs,_,o,es,ep,h1,h2,_⟩:=(show ObjOk X.prog X.w H s.heap a (.dT kvs) from I.hok a _ ea)
  exact E3 PySem.W.kitx_dict I.kIn ⟨o,h1,h2.1⟩ e (fun z=>nomatch z) h
 | @ins a C dx fs ea cl ha hn htk hm=>
  cases (show u=Value.ref a from rx)
  obtain ⟨mA,O,_⟩:=jm I.hok ea
  obtain ⟨od,J,_⟩:=O.look
  exact E3 (PySem.W.kitx_own (cl.get _) cl.hd ha hn htk hm) I.kIn J e (fun z=>nomatch z) h
end
end L2
namespace L2
open PySem PySem.Spec PyProof.Rows
structure Room (k:Nat) (A:Around):Prop where
 hd:A.handled=none
 dp:A.depth+3*k+5 < recursionLimit
 un:A.units+16*k+200 < cLine
theorem Room.mono {j k:Nat} {A:Around} (r:Room k A) (h:j<=k):Room j A:=⟨r.hd,by have:=r.dp;omega,by have:=r.un;omega⟩
theorem Room.deeper {k:Nat} {A:Around} (r:Room (k+1) A) (env:Env):Room k (A.deeper env):=
 ⟨r.hd,by have:=r.dp;show A.depth+1+3*k+5 < _;omega,by have:=r.un;show A.units+3+16*k+200 < _;omega⟩
theorem oZ {A:Around} {C:Addr} {us:List Value} {kw:List (Str×Value)}:(A.under (.builtin "type.__call__" ⟨.ref C::us,kw⟩)).depth=A.depth+1:=by
 first|rfl|simp [Around.under,Code.weight,Code.isCreation,Code.isGuard,Code.isCaller,Code.frames,Code.isFrame,guardIds]
theorem o0 {A:Around} {C:Addr} {us:List Value} {kw:List (Str×Value)}:(A.under (.builtin "type.__call__" ⟨.ref C::us,kw⟩)).units=A.units+1:=by
 first|rfl|simp [Around.under,Code.cUnits,Code.frames,Code.isFrame]
theorem Room.make {k:Nat} {A:Around} (r:Room (k+1) A) (C:Addr) (us:List Value) (kw:List (Str×Value)):Room k (A.under (.builtin "type.__call__" ⟨.ref C::us,kw⟩)):=
 ⟨r.hd,by have:=r.dp;rw [oZ];omega,by have:=r.un;rw [o0];omega⟩
theorem Room.depth {k:Nat} {A:Around} (r:Room k A):A.depth < recursionLimit:=by have:=r.dp;omega
theorem Room.units {k:Nat} {A:Around} (r:Room k A):A.units+64 < cLine:=by have:=r.un;omega
def Bg:TA:=fun _ H Q=>Q [] H
def yK (ta:TE) (tr:TA):TA:=fun σ H Q=>ta σ H fun x H1=>tr σ H1 fun xs H2=>Q (x::xs) H2
section
variable {X:Cx} {e:Expr} {es:List Expr} {te:TE} {t:TA} {pos:Pos}
theorem ac:PA X [] Bg:=⟨fun _ _ _ _ H Q I h=>Calls.spliced_nil ⟨[],H,I,.nil,h⟩⟩
theorem aa (ha:PE X e te) (hr:PA X es t) (hs:starEach (e::es) X.env=(false,eval e X.env)::starEach es X.env:=by rfl):PA X (e::es) (yK te t):=by
 refine ⟨?_⟩
 intro pos pins s σ H Q I h
 rw [hs]
 show wpAny _ _ (spliced ((false,eval e X.env)::backTo pos (starEach es X.env))) _ _ s
 refine Calls.spliced_cons (bK (ha pins s σ H _ I h) fun u s1 ⟨x,H1,I1,r1,q1⟩=>?_)
 exact bK (hr pos pins s1 σ H1 _ I1 q1) fun us s2 ⟨xs,H2,I2,r2,q2⟩=>⟨x::xs,H2,I2,.cons r1 r2,q2⟩
def CQ (t:TA):TE:=fun σ H Q=>t σ H fun xs H1=>xs.length<=sizeLine/\∀ p,H1 p=none->Q (.ref p) (ax H1 p (.tup xs))
def CS (t:TA):TE:=fun σ H Q=>t σ H fun xs H1=>xs.length<=sizeLine/\∀ p,H1 p=none->Q (.ref p) (ax H1 p (.lst xs))
theorem aW {x1} (h:PA X es t):PE X (.Tuple es x1 pos) (CQ t):=by
 refine ⟨?_⟩
 intro pins s σ H Q I hq
 refine wpAny_Tuple_spliced (bK (h pos pins s σ H _ I hq) fun us s1 ⟨xs,H1,I1,r,z,q⟩=>⟨by rw [<-r.length];exact z,?_⟩)
 have hf:H1 s1.heap.objs.size=none:=I1.hok.fresh (Ec _)
 refine ⟨.ref s1.heap.objs.size,ax H1 s1.heap.objs.size (.tup xs),I1.laid (t':=s1.toks) (fun b u e=>D6 _ e) (Ec _) ?_,rfl,q _ hf⟩
 exact ⟨z,us,r,⟨_,Em _ rfl,rfl,_,rfl⟩⟩
theorem aV (h:PA X es t):PE X (.List es pos) (CS t):=by
 refine ⟨?_⟩
 intro pins s σ H Q I hq
 refine wpAny_List_spliced (bK (h pos pins s σ H _ I hq) fun us s1 ⟨xs,H1,I1,r,z,q⟩=>⟨by rw [<-r.length];exact z,?_⟩)
 have hf:H1 s1.heap.objs.size=none:=I1.hok.fresh (Ec _)
 refine ⟨.ref s1.heap.objs.size,ax H1 s1.heap.objs.size (.lst xs),I1.laid (t':=s1.toks) (fun b u e=>D6 _ e) (Ec _) ?_,rfl,q _ hf⟩
 exact ⟨z,us,0,r,Em _ rfl⟩
end
abbrev Sp:=List V->Hp->VK->XK->Prop
abbrev rZ:=List Env->Hp->Shared->XK->Value->Shared->Prop
structure Env0 (P:Program) (w:World) (K:PySem.W.Frag) (mg:Str->Option Value) (base:Heap) (A:Around) (outer:List Env) (s:Shared) (H:Hp):Prop where
 frames:A.frames=some outer
 mod:Mod K mg base
 bs:∀ b o,base.get? b=some o->s.heap.get? b=some o/\H b=none
 bsz:base.objs.size<=s.heap.objs.size
 funs:s.heap.FunFrames base outer
 frf:∀ b∈lP outer,H b=none
 hok:HOk P w H s.heap
 bare:AllBare s.gens
inductive CE (outer:List Env) (P:Program) (w:World) (H:Hp) (s:Shared) (Q:VK) (u:Value) (s':Shared):Prop
 | mk (v H':_):s'.os=s.os->AllBare s'.gens->Un (lP outer) [] H H' s.heap s'.heap->HOk P w H' s'.heap->RelV v u->Q v H'->CE outer P w H s Q u s'
def CR (CX:rZ) (outer:List Env) (P:Program) (w:World) (H:Hp) (s:Shared) (Q:VK) (E:XK) (r:Result) (s':Shared):Prop:=
 match r with
 | .ok (.ret u)=>CE outer P w H s Q u s'
 | .ok _=>False
 | .error e=>CX outer H s E e s'
structure aN (P:Program) (w:World) (K:PySem.W.Frag) (mg:Str->Option Value) (base:Heap) (CX:rZ) (k:Nat) (f:Addr) (fd:FuncData) (ps:List Str) (sp:Sp):Prop where
 len:∀ vs H Q E,sp vs H Q E->vs.length=ps.length
 run:∀ (A:Around) (outer:List Env) (s:Shared) (H:Hp) (args:Args) (us:List Value) (vs:List V) (Q:VK) (E:XK),Room k A->Env0 P w K mg base A outer s H->BindsTo s fd args (ps.zip us)->Vals vs us->sp vs H Q E->
  codeAny (model P w) A (.call (.ref f) args) (CR CX outer P w H s Q E) s
theorem Env0.make {P:Program} {w:World} {K:PySem.W.Frag} {mg:Str->Option Value} {base:Heap} {A:Around} {outer:List Env} {s:Shared} {H:Hp} (e:Env0 P w K mg base A outer s H) (C:Addr) (us:List Value) (kw:List (Str×Value)) :
  Env0 P w K mg base (A.under (.builtin "type.__call__" ⟨.ref C::us,kw⟩)) outer s H:=⟨by first|exact e.frames|(simpa [Around.under,Code.envs,Code.isFrame,pushEnvs] using e.frames),e.mod,e.bs,e.bsz,e.funs,e.frf,e.hok,e.bare⟩
section
variable {X:Cx} {pins:List (Addr×Obj)} {σ:St} {H:Hp} {s s':Shared}
theorem Inv.env0 (I:Inv X pins σ H s):Env0 X.prog X.w X.K X.mg X.base X.A X.stack s H:=
 ⟨I.ok.frames,I.ok.mod,I.bs,Ew I.ok.bsz I.sz,I.stack,I.stkFree,I.hok,I.bare⟩
theorem Inv.after {Q:VK} {u:Value} (I:Inv X pins σ H s) (h:CE X.stack X.prog X.w H s Q u s'):EP X pins σ Q u s':=by
 obtain ⟨v,H',os,bare,un,hok,r,q⟩:=h
 obtain ⟨hh,g,d,t,os'⟩:=s'
 obtain rfl:os'=s.os:=os
 exact ⟨v,H',I.call (h':=hh) (g':=g) (d':=d) (t':=t) (ch:=[]) un hok bare (fun b z=>absurd z (by simp)),r,q⟩
end
def uq (sp:Sp) (dvs:List V) (E:XK) (t:TA):TE:=fun σ H Q=>t σ H fun vs H1=>sp (vs++dvs) H1 Q E
def Bh (C:Addr) (sp:Sp) (dvs:List V) (E:XK) (t:TA):TE:=fun σ H Q=>t σ H fun vs H1=>∀ x dx,H1 x=none->H1 dx=none->dx≠x->
 sp (.ref x::(vs++dvs)) (ax (ax H1 dx (.own x)) x (.ins C dx [])) (fun v H2=>v=.non/\Q (.ref x) H2) E
def Binds (K:PySem.W.Frag) (fd:FuncData) (ps:List Str) (ds:List Value):Prop:=
 ∀ (s:Shared) (us:List Value),K.In s.heap->(us++ds).length=ps.length->BindsTo s fd ⟨us,[]⟩ (ps.zip (us++ds))
theorem Binds.all {K:PySem.W.Frag} {fd:FuncData} {ps:List Str} (h:∀ us:List Value,us.length=ps.length->bindArgs fd ⟨us,[]⟩=pure (ps.zip us)):Binds K fd ps []:=fun s us _ hl=>by
 rw [ET] at hl ⊢
 exact .of_eq (h us hl)
def fX (CX:rZ) (X:Cx) (E:XK):Prop:=∀ (pins:List (Addr×Obj)) (σ:St) (H:Hp) (s:Shared) (e:Value) (s':Shared),Inv X pins σ H s->CX X.stack H s E e s'->X.xe e s'
section
variable {X:Cx} {CX:rZ} {k:Nat} {f C:Addr} {fd:FuncData} {ps:List Str} {sp:Sp} {dvs:List V} {ds:List Value} {E:XK} {x m:Str} {p pos apos:Pos} {e o:Expr} {es:List Expr} {ta:TE} {t:TA}
theorem lS {pins:List (Addr×Obj)} {σ:St} {H:Hp} {s:Shared} {Q:VK} {us:List Value} {vs:List V} (F:aN X.prog X.w X.K X.mg X.base CX k f fd ps sp) (hr:Room k X.A) (hb:Binds X.K fd ps ds) (hd:Vals dvs ds) (hx:fX CX X E)
  (I:Inv X pins σ H s) (r:Vals vs us) (h:sp (vs++dvs) H Q E):wpAny (model X.prog X.w) X.A (call (.ref f) us) (EP X pins σ Q) X.xe s:=by
 have r2:Vals (vs++dvs) (us++ds):=r.append hd
 have hl:(us++ds).length=ps.length:=by rw [<-r2.length];exact F.len _ _ _ _ h
 refine wpAny_call (codeAny_mono (F.run X.A X.stack s H ⟨us,[]⟩ (us++ds) (vs++dvs) Q E hr I.env0 (hb s us I.kIn hl) r2 h) fun r s' hq=>?_)
 cases r with
 | error e=>exact hx pins σ H s e s' I hq
 | ok fl=>
  cases fl with
  | ret u=>exact I.after hq
  | next=>exact False.elim hq
  | brk=>exact False.elim hq
  | cont=>exact False.elim hq
theorem xh (F:aN X.prog X.w X.K X.mg X.base CX k f fd ps sp) (hr:Room k X.A) (hg:Gl X x) (hm:X.mg x=some (.ref f)) (hk:PySem.W.keepIn X.K (.ref f)=true) (hb:Binds X.K fd ps ds) (hd:Vals dvs ds) (hx:fX CX X E)
  (ha:PA X (e::es) t) (hdb:(x == ("__debug__":Str))=false:=by decide) (he:starEach (e::es) X.env=(false,eval e X.env)::starEach es X.env:=by rfl) (hpl:(backTo pos (starEach es X.env)).any (·.1)=false:=by rfl) :
  PE X (.Call (.Name x p) (e::es) [] pos) (uq sp dvs E t):=by
 refine ⟨?_⟩
 intro pins s σ H Q I h
 refine wpAny_Call_Name_kw (gJ I hg hm ?_ hdb)
 refine Fi (h₀:=X.base) I.ok.mod.kin hk (bK (ha pos pins s σ H _ I h) fun us s1 ⟨vs,H1,I1,r,q⟩=>⟨I1.kIn,?_⟩) he hpl
 exact lS F hr hb hd hx I1 r q
structure Mk (K:PySem.W.Frag) (C f:Addr):Prop where
 makes:PySem.W.makesIn K C=true
 init:PySem.W.findIn K (.ref C) "__init__"=some (some (.ref f))
 fn:PySem.W.isFn K (.ref f)=true
 kp:PySem.W.keepIn K (.ref C)=true
theorem ur {pins:List (Addr×Obj)} {σ:St} {H:Hp} {s:Shared} {Q:VK} {us:List Value} {vs:List V} (M:Mk X.K C f) (F:aN X.prog X.w X.K X.mg X.base CX k f fd ps sp) (hr:Room (k+1) X.A) (hb:Binds X.K fd ps ds) (hd:Vals dvs ds)
  (hx:fX CX X E) (I:Inv X pins σ H s) (r:Vals vs us)
  (h:∀ x dx,H x=none->H dx=none->dx≠x->sp (.ref x::(vs++dvs)) (ax (ax H dx (.own x)) x (.ins C dx [])) (fun v H2=>v=.non/\Q (.ref x) H2) E) :
  wpAny (model X.prog X.w) X.A (call (.ref C) us) (EP X pins σ Q) X.xe s:=by
 have hq:=h (s.heap.objs.size+1) s.heap.objs.size (I.hok.fresh (Nat.le_succ _)) (I.hok.fresh (Ec _)) (Ey (Fs _))
 have I2:=Inv.made (C:=C) I
 have r2:Vals (V.ref (s.heap.objs.size+1)::(vs++dvs)) (Value.ref (s.heap.objs.size+1)::(us++ds)):=.cons rfl (r.append hd)
 have hl:(Value.ref (s.heap.objs.size+1)::us++ds).length=ps.length:=by
  have e:=r2.length
  rw [F.len _ _ _ _ hq] at e
  exact e.symm
 refine wpAny_call (um (f:=f) I.kIn M.makes M.init (beq_iff_eq.mp M.fn) (codeAny_mono (F.run _ X.stack _ _ ⟨Value.ref (s.heap.objs.size+1)::us,[]⟩ (Value.ref (s.heap.objs.size+1)::(us++ds)) _ _ E (hr.make C us [])
  (I2.env0.make C us []) (hb _ (Value.ref (s.heap.objs.size+1)::us) I2.kIn hl) r2 hq) fun r s' hq'=>?_))
 cases r with
 | error e=>exact hx pins σ _ _ e s' I2 hq'
 | ok fl=>
  cases fl with
  | ret u=>
   obtain ⟨v,H',I3,rv,ev,q3⟩:=I2.after hq'
   subst ev
   exact ⟨rv,⟨V.ref (s.heap.objs.size+1),H',I3,rfl,q3⟩⟩
  | next=>exact False.elim hq'
  | brk=>exact False.elim hq'
  | cont=>exact False.elim hq'
theorem lT (M:Mk X.K C f) (F:aN X.prog X.w X.K X.mg X.base CX k f fd ps sp) (hr:Room (k+1) X.A) (hg:Gl X x) (hm:X.mg x=some (.ref C)) (hb:Binds X.K fd ps ds) (hd:Vals dvs ds) (hx:fX CX X E)
  (ha:PA X (e::es) t) (hdb:(x == ("__debug__":Str))=false:=by decide) (he:starEach (e::es) X.env=(false,eval e X.env)::starEach es X.env:=by rfl) (hpl:(backTo pos (starEach es X.env)).any (·.1)=false:=by rfl) :
  PE X (.Call (.Name x p) (e::es) [] pos) (Bh C sp dvs E t):=by
 refine ⟨?_⟩
 intro pins s σ H Q I h
 refine wpAny_Call_Name_kw (gJ I hg hm ?_ hdb)
 refine Fi (h₀:=X.base) I.ok.mod.kin M.kp (bK (ha pos pins s σ H _ I h) fun us s1 ⟨vs,H1,I1,r,q⟩=>⟨I1.kIn,?_⟩) he hpl
 exact ur M F hr hb hd hx I1 r q
end
structure ay (N P:List Str) (sc:Scope):Prop where
 kind:sc.kind=.function
 co:sc.isCoroutine=false
 gen:sc.isGenerator=false
 nd:N.Nodup
 pre:N.take P.length=P
 par:∀ x∈P,sc.names.lookup x=some .local\/sc.names.lookup x=some .cell
 nofree:∀ y∈sc.names,y.2≠.free
theorem kO {kindOf:Str->Option NameKind} {x:Str}:∀ {binds:List (Str×Value)} {m:Str->Option Value},(∀ v,(x,v)∉binds)->bindL kindOf binds m x=m x
 | [],_,_=>rfl
 | (n,v)::r,m,h=>by
  unfold bindL
  rw [kO fun w hw=>h w (Ee _ hw)]
  split
  ·have:x≠n:=by rintro rfl;exact h v Ea
   simp [this]
  ·rfl
theorem kP {kindOf:Str->Option NameKind} {x:Str}:∀ {binds:List (Str×Value)} {m:Str->Option Value},(∀ v,(x,v)∉binds)->bindC kindOf binds m x=m x
 | [],_,_=>rfl
 | (n,v)::r,m,h=>by
  unfold bindC
  rw [kP fun w hw=>h w (Ee _ hw)]
  split
  ·rfl
  ·have:x≠n:=by rintro rfl;exact h v Ea
   simp [this]
theorem kQ {kindOf:Str->Option NameKind} {x:Str} {v:Value}:∀ {P:List Str} {vs:List Value} {i:Nat} {m:Str->Option Value},P.Nodup->P[i]?=some x->vs[i]?=some v->kindOf x=some .local->
  bindL kindOf (P.zip vs) m x=some v
 | [],_,_,_,_,h,_,_=>by simp at h
 | _::_,[],_,_,_,_,h,_=>by simp at h
 | p::P,w::vs,0,m,nd,h1,h2,hk=>by
  simp at h1 h2;subst h1;subst h2
  show bindL kindOf ((p,w)::P.zip vs) m p=_
  unfold bindL
  rw [kO fun v hv=>(Fk.mp nd).1 (Fu hv).1,if_pos hk]
  simp
 | p::P,w::vs,i+1,m,nd,h1,h2,hk=>by
  show bindL kindOf ((p,w)::P.zip vs) m x=_
  unfold bindL
  exact kQ (i:=i) (Fk.mp nd).2 (by simpa using h1) (by simpa using h2) hk
theorem kR {kindOf:Str->Option NameKind} {x:Str} {v:Value}:∀ {P:List Str} {vs:List Value} {i:Nat} {m:Str->Option Value},P.Nodup->P[i]?=some x->vs[i]?=some v->kindOf x≠some .local->
  bindC kindOf (P.zip vs) m x=some v
 | [],_,_,_,_,h,_,_=>by simp at h
 | _::_,[],_,_,_,_,h,_=>by simp at h
 | p::P,w::vs,0,m,nd,h1,h2,hk=>by
  simp at h1 h2;subst h1;subst h2
  show bindC kindOf ((p,w)::P.zip vs) m p=_
  unfold bindC
  rw [kP fun v hv=>(Fk.mp nd).1 (Fu hv).1,if_neg hk]
  simp
 | p::P,w::vs,i+1,m,nd,h1,h2,hk=>by
  show bindC kindOf ((p,w)::P.zip vs) m x=_
  unfold bindC
  exact kR (i:=i) (Fk.mp nd).2 (by simpa using h1) (by simpa using h2) hk
def start (N:List Str) (vs:List V):St:=vs.map some++List.replicate (N.length - vs.length) none
def lU (CX:rZ) (P:Program) (w:World) (K:PySem.W.Frag) (mg:Str->Option Value) (base:Heap) (N:List Str) (qual:Str) (scope:Scope) (f:Addr) (cd:Value) (A:Around) (outer:List Env) (s:Shared) (H:Hp) (E:XK):Cx where
 prog:=P
 w:=w
 K:=K
 mg:=mg
 base:=base
 A:=A.deeper (envOfC qual scope s.heap.objs.size f cd)
 N:=N
 s₀:=s
 H₀:=H
 env:=envOfC qual scope s.heap.objs.size f cd
 outer:=outer
 stack:=envOfC qual scope s.heap.objs.size f cd::outer
 ex:=[]
 calm:=true
 fn:=fun _=>true
 pn:=[]
 xe:=fun e s'=>wpAny (model P w) (A.deeper (envOfC qual scope s.heap.objs.size f cd)) (leaving (envOfC qual scope s.heap.objs.size f cd) e) (fun _ s''=>CX outer H s E e s'') (fun e' s''=>CX outer H s E e' s'') s'
theorem nF {sc:Scope} {n:Nat} {x:Str} (h:sc.names.lookup x=some .cell):∃ c,(cellsFrom n sc.names []).lookup x=some c:=by
 have q:=PySem.W.cellsFrom_some sc.names n [] (.inl h)
 exact Option.isSome_iff_exists.mp q
theorem r9 {CX:rZ} {P:Program} {w:World} {K:PySem.W.Frag} {mg:Str->Option Value} {base:Heap} {N ps:List Str} {qual:Str} {scope:Scope} {f:Addr} {cd:Value} {A:Around} {outer:List Env} {s s1:Shared} {H:Hp} {E:XK} {us:List Value} {vs:List V}
  (S:ay N ps scope) (hd:A.handled=none) (e0:Env0 P w K mg base A outer s H) (hl:vs.length=ps.length) (r:Vals vs us)
  (x:InCallC s s.heap.objs.size (bindL (envOfC qual scope s.heap.objs.size f cd).kindOf (ps.zip us) fun _=>none) (cellsFrom (s.heap.objs.size+1) scope.names []) (bindC (envOfC qual scope s.heap.objs.size f cd).kindOf (ps.zip us) fun _=>none) s1) :
  Inv (lU CX P w K mg base N qual scope f cd A outer s H E) [] (start N vs) H s1:=by
 have hpl:ps.length<=N.length:=by have:=congrArg List.length S.pre;rw [Eh] at this;omega
 obtain ⟨h1,tk,rfl,hk⟩:=x.done
 have noA:∀ b:Addr,b∉(lU CX P w K mg base N qual scope f cd A outer s H E).ex:=fun b z=>absurd (show b∈([]:List Addr) from z) (by simp)
 refine ⟨⟨e0.mod,S.kind,rfl,rfl,Ec _,fun y z c h1 h2=>?_,fun y hy=>?_,fun y c _ h=>?_,fun _=>hd,Around.frames_deeper e0.frames,.inr ⟨rfl,rfl⟩,fun b z=>absurd z (noA b),e0.bs,e0.bsz,fun b _ _=>noA b,fun b z=>absurd z (noA b),e0.funs,e0.frf⟩,
  rfl,e0.bare,Un.kept hk,⟨_,x.toInCall.ns,fun i y v h1 h2 h3=>?_⟩,fun y c h=>⟨_,x.cell y c h⟩,e0.hok.fresh (Ec _),fun y c h=>?_,fun p hp=>absurd (show p∈([]:List (Addr×Obj)) from hp) (by simp),e0.hok.kept hk,?_⟩
 ·exact name_of_addr x.apart (Fo h1) (Fo h2)
 ·have hy:scope.names.lookup y=some .cell\/scope.names.lookup y=some .free:=hy
  rcases hy with hy|hy
  ·exact nF hy
  ·exact absurd rfl (S.nofree _ (Fo hy))
 ·exact Nat.le_of_lt (x.above y c (Fo h))
 ·have hi:i < vs.length:=by
   unfold start at h2
   by_cases hi:i < vs.length
   ·exact hi
   ·rw [List.getElem?_append_right (by simpa using hi)] at h2
    rw [List.getElem?_replicate] at h2
    split at h2<;>cases h2
  have ha:vs[i]?=some v:=by
   unfold start at h2
   rw [Fr (by simpa using hi),Eb] at h2
   cases e:vs[i]? with
   | none=>rw [e] at h2;cases h2
   | some a=>rw [e] at h2;cases h2;rfl
  obtain ⟨u,hu,rv⟩:=r.get ha
  have hp:ps[i]?=some y:=by
   rw [<-S.pre,List.getElem?_take_of_lt (by omega)];exact h1
  have ndP:ps.Nodup:=by rw [<-S.pre];exact S.nd.sublist (List.take_sublist _ _)
  refine ⟨u,rv,?_⟩
  rcases S.par y (Ex hp) with k|k
  ·exact .inl ⟨k,kQ ndP hp hu k⟩
  ·obtain ⟨c,e⟩:=nF (n:=s.heap.objs.size+1) k
   refine .inr ⟨.inl k,c,e,?_⟩
   have q:=x.cell y c e
   rw [kR ndP hp hu (by show scope.names.lookup y≠_;rw [k];decide)] at q
   exact q
 ·exact e0.hok.fresh (Nat.le_of_lt (x.above y c (Fo h)))
 ·unfold start
  show _=N.length
  rw [D9,D5,Fc]
  omega
theorem yL {CX:rZ} {P:Program} {w:World} {K:PySem.W.Frag} {mg:Str->Option Value} {base:Heap} {k:Nat} {f:Addr} {name qual:Str} {params:Arguments} {body:List Stmt} {scope:Scope} {dV kV doc pm cdv ct oc:Value} {an od:Option Addr}
  {osl:Array (Option Value)} {N ps:List Str} {sp:Sp} (lk:K.lookup f=some ⟨oc,od,.func (PySem.W.fnOf name qual params body scope dV kV doc pm an cdv ct),osl⟩) (hcd:PySem.W.codeIn K cdv qual=true) (S:ay N ps scope)
  (len:∀ vs H Q E,sp vs H Q E->vs.length=ps.length)
  (hbody:∀ (A:Around) (outer:List Env) (s:Shared) (H:Hp) (vs:List V) (Q:VK) (E:XK),Room k (A.deeper (envOfC qual scope s.heap.objs.size f cdv))->sp vs H Q E->
   ∃ t,PSs (lU CX P w K mg base N qual scope f cdv A outer s H E) body t/\t { nx:=fun _ H'=>Q .non H',rt:=Q } (start N vs) H) :
  aN P w K mg base CX (k+1) f (PySem.W.fnOf name qual params body scope dV kV doc pm an cdv ct) ps sp:=by
 refine ⟨len,fun A outer s H args us vs Q E hr e0 hb r hsp=>?_⟩
 have hl:=len _ _ _ _ hsp
 have KX:K.In s.heap:=e0.mod.kin.keeps fun b o e=>(e0.bs b o e).1
 have lim:s.heap.NoLimit:=e0.mod.nolimit.keeps fun b o e=>(e0.bs b o e).1
 have hkind:∀ y∈ps.zip us,scope.names.lookup y.1=some .local\/(scope.names.lookup y.1=some .cell/\((cellsFrom (s.heap.objs.size+1) scope.names []).lookup y.1).isSome=true):=fun ⟨n,v⟩ hy=>by
  rcases S.par n (Fu hy).1 with q|q
  ·exact .inl q
  ·exact .inr ⟨q,PySem.W.cellsFrom_some _ _ _ (.inl q)⟩
 refine codeAny_call_function hr.depth (KX _ _ lk) rfl S.co S.gen rfl (PySem.W.codeRec_of KX hcd) (hb _ _ _ _ ?_)
 refine wpAny_newFunctionEnv_cells S.kind hkind fun env he s1 x=>?_
 subst he
 refine ⟨lim.keeps x.toInCall.keep,codeAny_func ?_⟩
 obtain ⟨t,ht,hq⟩:=hbody A outer s H vs Q E (hr.deeper _) hsp
 have I:Inv (lU CX P w K mg base N qual scope f cdv A outer s H E) [] (start N vs) H s1:=r9 S hr.hd e0 hl r x
 refine wpAny_mono (ht [] s1 (start N vs) H _ I hq) (fun fl s' hs=>?_) fun e s' hs=>hs
 have fin:∀ {σ':St} {H':Hp} {v:V} {u:Value},Inv (lU CX P w K mg base N qual scope f cdv A outer s H E) [] σ' H' s'->RelV v u->Q v H'->CE outer P w H s Q u s':=
  fun {σ' H' v u} J rv q=>⟨v,H',J.os,J.bare,J.base,J.hok,rv,q⟩
 cases fl with
 | ret u=>
  obtain ⟨v,σ',H',J,rv,q⟩:=hs
  exact fin J rv q
 | next=>
  obtain ⟨σ',H',J,q⟩:=hs
  exact fin (v:=V.non) (u:=Value.none) J rfl q
 | brk=>
  obtain ⟨_,_,_,q⟩:=hs
  exact False.elim q
 | cont=>
  obtain ⟨_,_,_,q⟩:=hs
  exact False.elim q
end L2
namespace L2
open PySem PySem.Spec PyProof.Rows
section
variable {X:Cx} {x:Str} {p pos:Pos} {e:Expr} {es:List Expr} {t:TA} {id T:String} {r:List V->Hp->VK->Prop}
def Dz (r:List V->Hp->VK->Prop) (t:TA):TE:=fun σ H Q=>t σ H fun vs H1=>r vs H1 Q
theorem au (hc:dW X (.builtin id) r) (hg:Gl X x) (hm:X.mg x=none) (hv:bootBuiltins x=some (.builtin id)) (ha:PA X (e::es) t) (hn:x≠"__name__":=by decide) (hdb:(x == ("__debug__":Str))=false:=by decide)
  (he:starEach (e::es) X.env=(false,eval e X.env)::starEach es X.env:=by rfl) (hpl:(backTo pos (starEach es X.env)).any (·.1)=false:=by rfl):PE X (.Call (.Name x p) (e::es) [] pos) (Dz r t):=by
 refine ⟨?_⟩
 intro pins s σ H Q I h
 refine wpAny_Call_Name_kw (ff I hg hm hv ?_ hn hdb)
 exact PyProof.Rows.callWith_builtin1 (bK (ha pos pins s σ H _ I h) fun us s1 ⟨vs,H1,I1,r1,q1⟩=>hc pins s1 σ H1 vs us Q I1 r1 q1) he hpl
theorem aM (hc:dW X (.type T) r) (hg:Gl X x) (hm:X.mg x=none) (hv:bootBuiltins x=some (.type T)) (ha:PA X (e::es) t) (hn:x≠"__name__":=by decide) (hdb:(x == ("__debug__":Str))=false:=by decide)
  (he:starEach (e::es) X.env=(false,eval e X.env)::starEach es X.env:=by rfl) (hpl:(backTo pos (starEach es X.env)).any (·.1)=false:=by rfl):PE X (.Call (.Name x p) (e::es) [] pos) (Dz r t):=by
 refine ⟨?_⟩
 intro pins s σ H Q I h
 refine wpAny_Call_Name_kw (ff I hg hm hv ?_ hn hdb)
 exact EV (bK (ha pos pins s σ H _ I h) fun us s1 ⟨vs,H1,I1,r1,q1⟩=>hc pins s1 σ H1 vs us Q I1 r1 q1) he hpl
end
end L2
namespace HT
open PySem PyProof.Rows
section
open PySem.SeqAt
open PySem.AutoSeq1 (wpAny_loadPart')
open PySem.MeetsSeq PySem.MeetsSeq2 PySem.MeetsSeq3
end
section
variable {prog:Program} {w:World} {A:Around} {E:Value->Shared->Prop} {s:Shared}
def sIx (n d:Nat):Option Int->Nat
 | none=>d
 | some v=>if v < 0 then (v+(n:Int)).toNat else min v.toNat n
theorem sIx_none (n d:Nat):sIx n d none=d:=rfl
theorem sIx_nat (n d k:Nat):sIx n d (some (k:Int))=min k n:=by
 show (if (k:Int) < 0 then ((k:Int)+(n:Int)).toNat else min (k:Int).toNat n)=min k n
 rw [if_neg (by omega),E6]
end
end HT
namespace L2
open PySem PySem.Spec PyProof.Rows
abbrev TO:=St->Hp->(Option Int->Hp->Prop)->Prop
structure PO (X:Cx) (e:Option Expr) (t:TO):Prop where
 run:∀ (pins:List (Addr×Obj)) (s:Shared) (σ:St) (H:Hp) (Q:Option Int->Hp->Prop),Inv X pins σ H s->t σ H Q->
  wpAny (model X.prog X.w) X.A (evalPart e X.env) (fun u s'=>∃ o H',Inv X pins σ H' s'/\IsPart u o/\Q o H') X.xe s
instance {X:Cx} {e:Option Expr} {t:TO}:CoeFun (PO X e t) fun _=>∀ (pins:List (Addr×Obj)) (s:Shared) (σ:St) (H:Hp) (Q:Option Int->Hp->Prop),Inv X pins σ H s->t σ H Q->
  wpAny (model X.prog X.w) X.A (evalPart e X.env) (fun u s'=>∃ o H',Inv X pins σ H' s'/\IsPart u o/\Q o H') X.xe s:=⟨PO.run⟩
def xi:TO:=fun _ H Q=>Q none H
inductive ut (Q:Option Int->Hp->Prop) (x:V) (H1:Hp):Prop
 | mk (i:_):x=.int i->Q (some i) H1->ut Q x H1
def uu (t:TE):TO:=fun σ H Q=>t σ H fun x H1=>ut Q x H1
section
variable {X:Cx} {e:Expr} {te:TE} {lo hi:Option Expr} {tl th:TO} {pos p2:Pos}
theorem dD:PO X none xi:=by
 refine ⟨?_⟩
 intro pins s σ H Q I h
 rw [evalPart_none]
 exact wpAny_pure ⟨none,H,I,.none,h⟩
theorem bZ (h:PE X e te):PO X (some e) (uu te):=by
 refine ⟨?_⟩
 intro pins s σ H Q I hw
 rw [evalPart_some]
 refine bK (h pins s σ H _ I hw) fun u s1 ⟨x,H1,I1,r1,q1⟩=>?_
 obtain ⟨i,rfl,q⟩:=q1
 obtain ⟨t,rfl⟩:=r1
 exact ⟨some i,H1,I1,.int i t,q⟩
def CU (X:Cx) (r:V->Option Int->Option Int->Hp->VK->Prop):Prop:=
 ∀ (pins:List (Addr×Obj)) (s:Shared) (σ:St) (H:Hp) (x:V) (v vl vu:Value) (lo hi:Option Int) (sl:Addr) (Q:VK),Inv X pins σ H s->RelV x v->s.heap.IsSliceOf sl vl vu .none->IsPart vl lo->IsPart vu hi->r x lo hi H Q->
  ∃ T id,typeLookup (.type T) "__getitem__"=pure (some (.builtin id))/\s.TypeIs v T/\wpAny (model X.prog X.w) X.A (getItem v (.ref sl)) (EP X pins σ Q) X.xe s
def DA (r:V->Option Int->Option Int->Hp->VK->Prop) (te:TE) (tl th:TO):TE:=fun σ H Q=>te σ H fun x H1=>tl σ H1 fun l H2=>th σ H2 fun u H3=>r x l u H3 Q
theorem ci {r:V->Option Int->Option Int->Hp->VK->Prop} (hr:CU X r) (he:PE X e te) (hl:PO X lo tl) (hu:PO X hi th):PE X (.Subscript e (.Slice lo hi none p2) pos) (DA r te tl th):=by
 refine ⟨?_⟩
 intro pins s σ H Q I h
 refine Subscript_ (bK (he pins s σ H _ I h) fun v s1 ⟨x,H1,I1,r1,q1⟩=>?_)
 refine wpAny_Slice (bK (hl pins s1 σ H1 _ I1 q1) fun vl s2 ⟨l,H2,I2,pl,q2⟩=>bK (hu pins s2 σ H2 _ I2 q2) fun vu s3 ⟨u,H3,I3,pu,q3⟩=>?_)
 rw [evalPart_none]
 refine wpAny_pure ?_
 have I4:Inv X pins σ H3 { s3 with heap:=s3.heap.push { cls:=.type "slice",data:=.fields #[vl,vu,.none] } }:=I3.kept (t':=s3.toks) fun b ob q=>D6 _ q
 obtain ⟨T,id,hT,ht,hg⟩:=hr pins { s3 with heap:=s3.heap.push { cls:=.type "slice",data:=.fields #[vl,vu,.none] } } σ H3 x v vl vu l u s3.heap.objs.size Q I4 r1 (Heap.IsSliceOf.new ..) pl pu q3
 show wpAny (model X.prog X.w) X.A (subscriptTail e (.Slice lo hi none p2) v (.ref s3.heap.objs.size)) (EP X pins σ Q) X.xe { s3 with heap:=s3.heap.push { cls:=.type "slice",data:=.fields #[vl,vu,.none] } }
 exact tail_any (ops:=[.ref s3.heap.objs.size,v]) ht hT hg (by with_unfolding_all rfl)
def eX (xs:List V) (lo hi:Option Int):List V:=(xs.drop (HT.sIx xs.length 0 lo)).take (HT.sIx xs.length xs.length hi - HT.sIx xs.length 0 lo)
theorem nG (xs:List V) (lo hi:Option Int):(eX xs lo hi).length<=xs.length:=by
 unfold eX
 rw [Eh,EF]
 omega
end
end L2
namespace L2
open PySem PySem.Spec PyProof.Rows
def tW (n:Nat) (i:Int):Option Nat:=if 0<=i then (if i < n then some i.toNat else none) else if -(n:Int)<=i then some (i+n).toNat else none
def uv {α:Type} (xs:List α) (i:Int):Option α:=(tW xs.length i).bind fun j=>xs[j]?
theorem lV {n:Nat} {i:Int} {j:Nat} (h:tW n i=some j):seqIndex? i n=some j/\j < n/\-(n:Int)<=i/\i < n:=by
 unfold tW at h
 by_cases h0:0<=i
 ·rw [if_pos h0] at h
  by_cases h1:i < n
  ·rw [if_pos h1] at h
   have e:i.toNat=j:=Eg h
   exact ⟨by rw [seqIndex_of h0 h1,e],by omega,by omega,h1⟩
  ·rw [if_neg h1] at h;cases h
 ·rw [if_neg h0] at h
  by_cases h1:-(n:Int)<=i
  ·rw [if_pos h1] at h
   have e:(i+n).toNat=j:=Eg h
   exact ⟨by rw [seqIndex_neg (by omega) h1,e],by omega,h1,by omega⟩
  ·rw [if_neg h1] at h;cases h
theorem lX {α:Type} {xs:List α} {i:Int} {v:α} (h:uv xs i=some v):∃ j,seqIndex? i xs.length=some j/\xs[j]?=some v/\j < xs.length/\-(xs.length:Int)<=i/\i < xs.length:=by
 unfold uv at h
 cases e:tW xs.length i with
 | none=>rw [e] at h;cases h
 | some j=>
  rw [e] at h
  obtain ⟨h1,h2,h3,h4⟩:=lV e
  exact ⟨j,h1,h,h2,h3,h4⟩
theorem bE {α:Type} {xs:List α} {j:Nat} {v:α} (h:xs[j]?=some v):uv xs (j:Int)=some v:=by
 have hj:j < xs.length:=(D7.mp h).1
 have e:tW xs.length (j:Int)=some j:=by
  unfold tW
  rw [if_pos (by omega),if_pos (by omega)];simp
 unfold uv;rw [e];exact h
def xj (b:Expr):Prop:=∀ o i,subscripted b false o i=operate [o,i] (getItem o i)
def AO (X:Cx) (r:R2):Prop:=
 ∀ (value slice:Expr) (pins:List (Addr×Obj)) (s:Shared) (σ:St) (H:Hp) (x y:V) (v u:Value) (Q:VK),Inv X pins σ H s->RelV x v->RelV y u->r x y H Q->
  subscripted slice false v u=operate [v,u] (getItem v u)->wpAny (model X.prog X.w) X.A (subscriptTail value slice v u) (EP X pins σ Q) X.xe s
def Bi (X:Cx) (id:String) (r:V->List V->Hp->VK->Prop):Prop:=
 ∀ (pins:List (Addr×Obj)) (s:Shared) (σ:St) (H:Hp) (x:V) (xs:List V) (v:Value) (us:List Value) (Q:VK),Inv X pins σ H s->RelV x v->Vals xs us->r x xs H Q->
  wpAny (model X.prog X.w) X.A (call (.builtin id) (v::us)) (EP X pins σ Q) X.xe s
section
variable {X:Cx} {a b:Expr} {ta tb:TE} {pos:Pos}
theorem aP {r:R2} (hr:AO X r) (ha:PE X a ta) (hb:PE X b tb) (hs:xj b):PE X (.Subscript a b pos) (Co r ta tb):=by
 refine ⟨?_⟩
 intro pins s σ H Q I h
 exact Subscript_ (zm ha hb I h fun v u s2 x y H2 I2 rx ry q=>hr a b pins s2 σ H2 x y v u Q I2 rx ry q (hs _ _))
inductive zq (K:PySem.W.Frag) (x:V) (y:V) (H:Hp) (Q:VK):Prop
 | mk (p xs i v:_):x=.ref p->y=.int i->SqL K H p xs->uv xs i=some v->Q v H->zq K x y H Q
inductive zr (K:PySem.W.Frag) (x:V) (y:V) (H:Hp) (Q:VK):Prop
 | mk (p xs i v:_):x=.ref p->y=.int i->SqT K H p xs->uv xs i=some v->Q v H->zr K x y H Q
inductive Bj (x:V) (y:V) (H:Hp) (Q:VK):Prop
 | mk (z i c:_):x=.str z->y=.int i->z.length<=sizeLine->uv z.cps.toList i=some c->Q (.str ⟨#[c]⟩) H->Bj x y H Q
theorem aK:AO X (zq X.K):=by
 intro value slice pins s σ H x y v u Q I rx ry h hs
 obtain ⟨p,xs,i,z,rfl,rfl,hq,he,q⟩:=h
 cases rx
 obtain ⟨t,rfl⟩:=ry
 obtain ⟨its,r,pl,hz⟩:=I.list hq
 obtain ⟨j,h1,h2,h3,h4,h5⟩:=lX he
 obtain ⟨w,ew,rw'⟩:=r.get h2
 have hl:=r.length
 have hn:=ia
 have fin:EP X pins σ Q w s:=⟨z,H,I,rw',q⟩
 by_cases h0:0<=i
 ·have hj:i.toNat=j:=by
   rw [seqIndex_of h0 h5] at h1
   exact Eg h1
  exact item_listR pl.isList h0 (by omega) (by rw [hj];simpa using ew) fin hs
 ·have hj:(i+(its.toArray.size:Int)).toNat=j:=by
   rw [seqIndex_neg (by omega) h4] at h1
   rw [En,<-hl]
   exact Eg h1
  exact subscriptTail_builtinR (x:=w) pl.isList.typeIs slot_list_getitem.lookup
   (wpAny_getItem_list_neg (Q:=fun r s'=>r=w/\EP X pins σ Q r s') pl.isList (by omega) (by rw [En]<;>omega) (by omega) (by rw [hj];simpa using ew) ⟨rfl,fin⟩) hs
theorem dq:AO X (zr X.K):=by
 intro value slice pins s σ H x y v u Q I rx ry h hs
 obtain ⟨p,xs,i,z,rfl,rfl,hq,he,q⟩:=h
 cases rx
 obtain ⟨t,rfl⟩:=ry
 obtain ⟨its,r,pl,hz⟩:=I.tuple hq
 obtain ⟨j,h1,h2,h3,h4,h5⟩:=lX he
 obtain ⟨w,ew,rw'⟩:=r.get h2
 have hl:=r.length
 have hn:=ia
 have fin:EP X pins σ Q w s:=⟨z,H,I,rw',q⟩
 exact subscriptTail_builtinR (x:=w) pl.typeIs slot_tuple_getitem.lookup
  (getItem_tuple (j:=j) (Q:=fun r s'=>r=w/\EP X pins σ Q r s') pl (by omega) (by omega) (by rw [En,<-hl];exact h1) (by simpa using ew) ⟨rfl,fin⟩) hs
theorem fY:AO X Bj:=by
 intro value slice pins s σ H x y v u Q I rx ry h hs
 obtain ⟨z,i,c,rfl,rfl,hz,he,q⟩:=h
 obtain ⟨t,rfl⟩:=rx
 obtain ⟨t',rfl⟩:=ry
 obtain ⟨j,h1,h2,h3,h4,h5⟩:=lX he
 have hl:z.cps.toList.length=z.length:=by simp [Str.length]
 rw [hl] at h1 h4 h5
 have hn:=ia
 exact tail_any (typeIs_str s z t) slot_str_getitem.lookup (getItem_str (c:=c) (by
  have e1:decide (i < -(2 ^ 63:Int))=false:=decide_eq_false (by omega)
  have e2:decide (i ≥ 2 ^ 63)=false:=decide_eq_false (by omega)
  rw [e1,e2,Bool.or_false]) (by rw [h1];simpa using h2) ⟨.str ⟨#[c]⟩,H,I.tok _,⟨_,rfl⟩,q⟩) hs
theorem o8 (its:List Value) (n j:Nat) (u:Value):Obj.mapSeq (·.setIfInBounds j u) { cls:=.type "list",data:=.seq its.toArray n }={ cls:=.type "list",data:=.seq (its.set j u).toArray n }:=by
 simp [Obj.mapSeq]
theorem Inv.lst {pins:List (Addr×Obj)} {σ:St} {H:Hp} {s:Shared} {p:Addr} {xs:List V} (I:Inv X pins σ H s) (h:H p=some (.lst xs)) :
  ∃ (its:List Value) (n:Nat),Vals xs its/\s.heap.get? p=some { cls:=.type "list",data:=.seq its.toArray n }/\xs.length<=sizeLine:=by
 obtain ⟨z,its,n,r,e⟩:=I.hok p _ h
 exact ⟨its,n,r,e,z⟩
theorem Inv.lstUpd {pins:List (Addr×Obj)} {σ:St} {H:Hp} {s:Shared} {p:Addr} {xs ys:List V} {its its':List Value} {n n':Nat} {f:Obj->Obj} (I:Inv X pins σ H s) (h:H p=some (.lst xs))
  (ho:s.heap.get? p=some { cls:=.type "list",data:=.seq its.toArray n }) (hf:f { cls:=.type "list",data:=.seq its.toArray n }={ cls:=.type "list",data:=.seq its'.toArray n' }) (r:Vals ys its') (hz:ys.length<=sizeLine) (t:Nat) :
  Inv X pins σ (ax H p (.lst ys)) { s with heap:=s.heap.update p f,toks:=t }:=by
 have e:(s.heap.update p f).get? p=some { cls:=.type "list",data:=.seq its'.toArray n' }:=by
  rw [Heap.get?_update_self f ho (by rw [hf]<;>rfl),hf]
 refine I.write (x:=p) (e:=p) (by rw [h];trivial) (.inl rfl) (fun b u hb q=>(Heap.get?_update_other _ _ (Ne.symm hb)).trans q) ⟨_,e⟩ ?_
 exact ⟨hz,its',n',r,e⟩
inductive yM (o:V) (i:V) (v:V) (H:Hp) (Q:Hp->Prop):Prop
 | mk (p xs k j:_):o=.ref p->i=.int k->H p=some (.lst xs)->tW xs.length k=some j->Q (ax H p (.lst (xs.set j v)))->yM o i v H Q
theorem fZ:A4 X yM:=by
 intro pins s σ H o i v ov iv u Q I ro ri rv h
 obtain ⟨p,xs,k,j,rfl,rfl,hp,hj,q⟩:=h
 cases ro
 obtain ⟨t,rfl⟩:=ri
 obtain ⟨its,n,r,ho,hz⟩:=I.lst hp
 obtain ⟨h1,h2,h3,h4⟩:=lV hj
 have hl:=r.length
 have hn:=ia
 have I':Inv X pins σ (ax H p (.lst (xs.set j v))) { s with heap:=s.heap.update p (Obj.mapSeq (·.setIfInBounds j u)) }:=
  I.lstUpd hp ho (o8 its n j u) (r.set rv j) (by rw [List.length_set];exact hz) s.toks
 by_cases h0:0<=k
 ·have hk:k.toNat=j:=by
   rw [seqIndex_of h0 h4] at h1
   exact Eg h1
  exact PySem.W.ki_setAt ho h0 (by omega) (by rw [En,<-hl];exact h4) (by rw [hk];exact ⟨_,I',q⟩)
 ·have hk:(k+(its.toArray.size:Int)).toNat=j:=by
   rw [seqIndex_neg (by omega) h3] at h1
   rw [En,<-hl]
   exact Eg h1
  exact PySem.W.ki_setBack ho (by omega) (by rw [En,<-hl];exact h3) (by omega) (by rw [hk];exact ⟨_,I',q⟩)
theorem lY (lo hi:Option Int) (n:Nat):(sliceBounds lo hi none n).1=((HT.sIx n 0 lo:Nat):Int)/\(sliceBounds lo hi none n).2.1=((HT.sIx n n hi:Nat):Int)/\(sliceBounds lo hi none n).2.2=1:=by
 refine ⟨?_,?_,rfl⟩
 ·cases lo with
  | none=>simp [sliceBounds,HT.sIx]
  | some i=>
   simp only [sliceBounds,HT.sIx,Option.getD_none,show (1:Int) > 0 by decide,if_true]
   by_cases h:i < 0
   ·simp only [h,if_true]<;>omega
   ·simp only [h,if_false]<;>omega
 ·cases hi with
  | none=>simp [sliceBounds,HT.sIx]
  | some i=>
   simp only [sliceBounds,HT.sIx,Option.getD_none,show (1:Int) > 0 by decide,if_true]
   by_cases h:i < 0
   ·simp only [h,if_true]<;>omega
   ·simp only [h,if_false]<;>omega
theorem kE (its:List Value) (lo hi:Option Int):slicePick its.toArray lo hi none=((its.drop (HT.sIx its.length 0 lo)).take (HT.sIx its.length its.length hi - HT.sIx its.length 0 lo)).toArray:=by
 obtain ⟨h1,h2,h3⟩:=lY lo hi its.toArray.size
 unfold slicePick
 rw [h1,h2,h3]
 simp only [sliceRange_one,pick_run,En]<;>rfl
inductive Bk (K:PySem.W.Frag) (x:V) (lo:Option Int) (hi:Option Int) (H:Hp) (Q:VK):Prop
 | mk (a xs:_):x=.ref a->SqL K H a xs->(∀ p,H p=none->Q (.ref p) (ax H p (.lst (eX xs lo hi))))->Bk K x lo hi H Q
theorem dQ:CU X (Bk X.K):=by
 intro pins s σ H x v vl vu lo hi sl Q I rx hs pl pu h
 obtain ⟨a,xs,rfl,hx,q⟩:=h
 cases rx
 obtain ⟨its,r,ht,hz⟩:=I.list hx
 have hlen:=r.length
 refine ⟨"list",_,slot_list_getitem.lookup,ht.isList.typeIs,?_⟩
 refine wpAny_getItem_list_slice ht.isList hs pl pu .none (by simp) ?_ (by rw [En]<;>omega)
 rw [kE,<-hlen]
 refine ⟨.ref s.heap.objs.size,_,I.laid (t':=s.toks) (o:=.lst (eX xs lo hi)) (fun b ob q=>D6 _ q) (Ec _) ?_,rfl,q _ (I.hok.fresh (Ec _))⟩
 exact ⟨Ew (nG xs lo hi) hz,_,0,(r.drop (HT.sIx xs.length 0 lo)).take (HT.sIx xs.length xs.length hi - HT.sIx xs.length 0 lo),Em _ rfl⟩
def hG:V->Bool
 | .non=>true
 | .bl _=>true
 | .int _=>true
 | .str _=>true
 | _=>false
def sd:V->V->Bool
 | .non,.non=>true
 | .bl a,.bl b=>a == b
 | .bl a,.int b=>(if a then 1 else 0) == b
 | .int a,.bl b=>a == (if b then 1 else 0)
 | .int a,.int b=>a == b
 | .str a,.str b=>a == b
 | _,_=>false
theorem zt {A:Around} {s:Shared} {y x:V} {u v:Value} (ry:RelV y u) (rx:RelV x v) (fy:hG y=true) (fx:hG x=true):SeqAt.EqAt A s u v (sd y x):=by
 cases y with
 | non=>
  cases ry
  cases x with
  | non=>cases rx;exact SeqAt.EqAt.same _
  | bl b=>cases rx;exact SeqAt.EqAt.none_bool b
  | int b=>obtain ⟨t,rfl⟩:=rx;exact SeqAt.EqAt.none_int b t
  | str b=>obtain ⟨t,rfl⟩:=rx;exact SeqAt.EqAt.none_str b t
  | _=>exact absurd (show false=true from fx) Eo
 | bl a=>
  cases ry
  cases x with
  | non=>cases rx;exact SeqAt.EqAt.bool_none a
  | bl b=>cases rx;exact SeqAt.EqAt.bool_bool a b
  | int b=>obtain ⟨t,rfl⟩:=rx;exact SeqAt.EqAt.bool_int a b t
  | str b=>obtain ⟨t,rfl⟩:=rx;exact SeqAt.EqAt.bool_str a b t
  | _=>exact absurd (show false=true from fx) Eo
 | int a=>
  obtain ⟨t',rfl⟩:=ry
  cases x with
  | non=>cases rx;exact SeqAt.EqAt.int_none a t'
  | bl b=>cases rx;exact SeqAt.EqAt.int_bool a t' b
  | int b=>obtain ⟨t,rfl⟩:=rx;exact SeqAt.EqAt.int_int a t' b t
  | str b=>obtain ⟨t,rfl⟩:=rx;exact SeqAt.EqAt.int_str a t' b t
  | _=>exact absurd (show false=true from fx) Eo
 | str a=>
  obtain ⟨t',rfl⟩:=ry
  cases x with
  | non=>cases rx;exact SeqAt.EqAt.str_none a t'
  | bl b=>cases rx;exact SeqAt.EqAt.str_bool a t' b
  | int b=>obtain ⟨t,rfl⟩:=rx;exact SeqAt.EqAt.str_int a t' b t
  | str b=>obtain ⟨t,rfl⟩:=rx;exact SeqAt.EqAt.str_str a t' b t
  | _=>exact absurd (show false=true from fx) Eo
 | _=>exact absurd (show false=true from fy) Eo
def nI (x:V) (u:Value):Bool:=match u with
 | .none=>sd .non x
 | .bool b=>sd (.bl b) x
 | .int i _=>sd (.int i) x
 | .str z _=>sd (.str z) x
 | _=>false
theorem o9 {x y:V} {u:Value} (r:RelV y u) (f:hG y=true):nI x u=sd y x:=by
 cases y with
 | non=>cases r;rfl
 | bl b=>cases r;rfl
 | int i=>obtain ⟨t,rfl⟩:=r;rfl
 | str z=>obtain ⟨t,rfl⟩:=r;rfl
 | _=>exact absurd (show false=true from f) Eo
theorem iz {x:V}:∀ {xs:List V} {us:List Value},Vals xs us->xs.all hG=true->us.any (nI x)=xs.any fun y=>sd y x
 | _,_,.nil,_=>rfl
 | y::xs,u::us,.cons r t,f=>by
  rw [List.all_cons,EB] at f
  rw [Fx,Fx,o9 r f.1,iz t f.2]
theorem eY {A:Around} {s:Shared} {x:V} {v:Value} (rx:RelV x v) (fx:hG x=true):∀ {xs:List V} {us:List Value},Vals xs us->xs.all hG=true->∀ u∈us,SeqAt.EqAt A s u v (nI x u)
 | _,_,.nil,_=>fun u hu=>by cases hu
 | y::xs,u::us,.cons r t,f=>fun u' hu=>by
  rw [List.all_cons,EB] at f
  rcases Ej.mp hu with rfl|hu
  ·rw [o9 r f.1];exact zt r rx f.1 fx
  ·exact eY rx fx t f.2 u' hu
def iM (x:V) (xs:List V):Bool:=xs.any fun y=>sd y x
inductive CV (K:PySem.W.Frag) (neg:Bool) (x:V) (y:V) (H:Hp) (Q:VK):Prop
 | mk (p xs:_):y=.ref p->(SqL K H p xs\/SqT K H p xs)->hG x=true->xs.all hG=true->Q (.bl (if neg then !iM x xs else iM x xs)) H->CV K neg x y H Q
theorem cI:fN X (compareOp .In) (CV X.K false):=by
 intro pins s σ H x y v u Q I rx ry h
 obtain ⟨p,xs,rfl,hq,fx,fs,q⟩:=h
 cases ry
 rcases hq with hq|hq
 ·obtain ⟨its,r,pl,hz⟩:=I.list hq
  refine SeqAt.in_listAt (nI x) pl.isList (fun w hw=>eY rx fx r fs w (by simpa using hw)) ⟨.bl _,H,I,rfl,?_⟩
  rw [show its.toArray.any (nI x)=its.any (nI x) by simp,iz r fs]
  exact q
 ·obtain ⟨its,r,pl,hz⟩:=I.tuple hq
  refine SeqAt.in_tupleAt (nI x) pl (fun w hw=>eY rx fx r fs w (by simpa using hw)) ⟨.bl _,H,I,rfl,?_⟩
  rw [show its.toArray.any (nI x)=its.any (nI x) by simp,iz r fs]
  exact q
theorem cJ:fN X (compareOp .NotIn) (CV X.K true):=by
 intro pins s σ H x y v u Q I rx ry h
 obtain ⟨p,xs,rfl,hq,fx,fs,q⟩:=h
 cases ry
 rcases hq with hq|hq
 ·obtain ⟨its,r,pl,hz⟩:=I.list hq
  refine SeqAt.notIn_listAt (nI x) pl.isList (fun w hw=>eY rx fx r fs w (by simpa using hw)) ⟨.bl _,H,I,rfl,?_⟩
  rw [show its.toArray.any (nI x)=its.any (nI x) by simp,iz r fs]
  exact q
 ·obtain ⟨its,r,pl,hz⟩:=I.tuple hq
  refine SeqAt.notIn_tupleAt (nI x) pl (fun w hw=>eY rx fx r fs w (by simpa using hw)) ⟨.bl _,H,I,rfl,?_⟩
  rw [show its.toArray.any (nI x)=its.any (nI x) by simp,iz r fs]
  exact q
theorem lZ:fN X (compareOp .NotIn) (fun x y H Q=>∃ i j,x=.str i/\y=.str j/\Q (.bl (!(!(Builtin.Str.occurrences j i 0 j.length 1).isEmpty))) H):=by
 intro pins s σ H x y v u Q I rx ry h
 obtain ⟨i,j,rfl,rfl,q⟩:=h
 obtain ⟨t,rfl⟩:=rx
 obtain ⟨t',rfl⟩:=ry
 exact notIn_str ⟨.bl _,H,I,rfl,q⟩
theorem aA:dW X (.builtin "len") (fun xs H Q=>∃ p ys,xs=[.ref p]/\(SqL X.K H p ys\/SqT X.K H p ys)/\Q (.int ys.length) H):=by
 intro pins s σ H xs us Q I r h
 obtain ⟨p,ys,rfl,hq,q⟩:=h
 obtain ⟨u,rfl,rx⟩:=gZ r
 cases rx
 have hn:=ia
 rcases hq with hq|hq
 ·obtain ⟨its,r',pl,hz⟩:=I.list hq
  have hlen:=r'.length
  exact Calls.call_len_list pl.isList (by simp only [En]<;>omega) ⟨.int ys.length,H,I.tok _,⟨s.toks+1,by rw [En,hlen]⟩,q⟩
 ·obtain ⟨its,r',pl,hz⟩:=I.tuple hq
  have hlen:=r'.length
  exact len_tuple pl (by simp only [En]<;>omega) ⟨.int ys.length,H,I.tok _,⟨s.toks+1,by rw [En,hlen]⟩,q⟩
theorem bA:dW X (.builtin "len") (fun xs H Q=>∃ z,xs=[.str z]/\z.length<=sizeLine/\Q (.int z.length) H):=by
 intro pins s σ H xs us Q I r h
 obtain ⟨z,rfl,hz,q⟩:=h
 obtain ⟨u,rfl,t,rfl⟩:=gZ r
 have hn:=ia
 exact len_str (by omega) ⟨.int z.length,H,I.tok _,⟨_,rfl⟩,q⟩
theorem bF:dW X (.type "tuple") (fun xs H Q=>∃ p ys,xs=[.ref p]/\((SqL X.K H p ys/\∀ l,H l=none->Q (.ref l) (ax H l (.tup ys)))\/(SqT X.K H p ys/\Q (.ref p) H))):=by
 intro pins s σ H xs us Q I r h
 obtain ⟨p,ys,rfl,h⟩:=h
 obtain ⟨u,rfl,rx⟩:=gZ r
 cases rx
 rcases h with ⟨hq,q⟩|⟨hq,q⟩
 ·obtain ⟨its,r',pl,hz⟩:=I.list hq
  have hlen:=r'.length
  refine call_tuple_list pl.isList (fun h' kp=>?_) (by simp only [En]<;>omega)
  have I1:Inv X pins σ H { s with heap:=h' }:=I.kept (t':=s.toks) kp
  have I2:Inv X pins σ (ax H h'.objs.size (.tup ys)) { s with heap:=h'.push { cls:=.type "tuple",data:=.seq its.toArray } }:=
   I1.laid (t':=s.toks) (fun b o e=>D6 _ e) (Ec _) (show ObjOk X.prog X.w _ _ _ (.tup ys) from ⟨hz,its,r',TupP.new _ _⟩)
  exact ⟨.ref h'.objs.size,_,I2,rfl,q _ (I1.hok.fresh (Ec _))⟩
 ·obtain ⟨its,r',pl,hz⟩:=I.tuple hq
  exact call_tuple_same pl ⟨.ref p,H,I,rfl,q⟩
def DB (K:PySem.W.Frag) (T:String) (x:V) (H:Hp):Prop:=match x with
 | .str _=>T="str"
 | .int _=>T="int"
 | .ref p=>(T="list"/\∃ xs,SqL K H p xs)\/(T="tuple"/\∃ o,K.lookup p=some o/\o.cls=.type "tuple"/\o.dict=none) ∨
   (T="dict"/\((∃ kvs,H p=some (.dK kvs))\/∃ kvs,H p=some (.dT kvs)))\/(T="set"/\∃ S n,H p=some (.set S n))
 | _=>False
theorem zu {pins:List (Addr×Obj)} {σ:St} {H:Hp} {s:Shared} {T:String} {x:V} {v:Value} (I:Inv X pins σ H s) (r:RelV x v) (ty:DB X.K T x H) :
  s.TypeIs v T/\∀ a,v=.ref a->∃ ob,s.heap.get? a=some ob/\ob.dict=none:=by
 cases x with
 | str z=>
  obtain ⟨t,rfl⟩:=r
  cases (show T="str" from ty)
  exact ⟨typeIs_str s z t,fun _ e=>nomatch e⟩
 | int i=>
  obtain ⟨t,rfl⟩:=r
  cases (show T="int" from ty)
  exact ⟨typeIs_int s i t,fun _ e=>nomatch e⟩
 | ref p=>
  cases r
  rcases ty with ⟨rfl,xs,hq⟩|⟨rfl,o,hk,hc,hd⟩|⟨rfl,hk⟩|⟨rfl,S,n,hk⟩
  ·obtain ⟨its,_,pl,_⟩:=I.list hq
   refine ⟨pl.isList.typeIs,fun a e=>?_⟩
   cases e
   obtain ⟨o,n,e,c,hd,_⟩:=pl
   exact ⟨o,e,hd⟩
  ·refine ⟨⟨o,I.kIn p o hk,hc⟩,fun a e=>?_⟩
   cases e
   exact ⟨o,I.kIn _ o hk,hd⟩
  ·have z:∃ o,s.heap.get? p=some o/\o.ExactDict:=by
    rcases hk with ⟨kvs,hk⟩|⟨kvs,hk⟩
    ·obtain ⟨_,_,_,_,o,_,_,e,ex,_⟩:=I.hok p _ hk
     exact ⟨o,e,ex⟩
    ·obtain ⟨_,_,_,_,o,_,_,e,ex,_⟩:=I.hok p _ hk
     exact ⟨o,e,ex⟩
   obtain ⟨o,e,ex⟩:=z
   refine ⟨⟨o,e,ex.1⟩,fun a e2=>?_⟩
   cases e2
   exact ⟨o,e,ex.2.1⟩
  ·obtain ⟨o,_,_,_,e,ex,_⟩:=I.hok p _ hk
   refine ⟨⟨o,e,ex.1⟩,fun a e2=>?_⟩
   cases e2
   exact ⟨o,e,ex.2.1⟩
 | _=>exact False.elim ty
def DQ (K:PySem.W.Frag) (T:String) (r:V->List V->Hp->VK->Prop) (to:TE) (t:TA):TE:=fun σ H Q=>to σ H fun x H1=>DB K T x H1/\t σ H1 fun xs H2=>r x xs H2 Q
variable {o e:Expr} {es:List Expr} {to:TE} {t:TA} {name:Str} {apos cpos:Pos} {T id:String} {r:V->List V->Hp->VK->Prop}
theorem bX (pa:PlainAttrs T) (slot:Slot T name id) (hty:typeOf (.builtin id)=pure (.type "method_descriptor")) (hm:Bi X id r) (ho:PE X o to) (ha:PA X (e::es) t)
  (hbase:attributeBase o name X.env (eval o X.env)=eval o X.env:=by rfl)
  (hfew:((backTo cpos (starEach (e::es) X.env)).all (fun x=>!x.1) && (backToKw cpos (keywordEach [] X.env)).all (fun x=>x.1.isSome)
   && decide ((e::es).length+([]:List Keyword).length+(if ([]:List Keyword).isEmpty then 0 else 1) < 30))=true:=by rfl)
  (hline:(apos.endLine == cpos.line)=true:=by rfl) (hs:starEach (e::es) X.env=(false,eval e X.env)::starEach es X.env:=by rfl) (hplain:(backTo cpos (starEach es X.env)).any (·.1)=false:=by rfl) :
  PE X (.Call (.Attribute o name apos) (e::es) [] cpos) (DQ X.K T r to t):=by
 refine ⟨?_⟩
 intro pins s σ H Q I h
 refine wpAny_Call_method_late hbase hfew hline rfl (bK (ho pins s σ H _ I h) fun v s1 ⟨x,H1,I1,r1,ty,q1⟩=>?_)
 obtain ⟨h1,h2⟩:=zu I1 r1 ty
 refine ⟨T,id,pa,slot,hty,h1,h2,?_⟩
 have hA:=ha cpos pins s1 σ H1 _ I1 q1
 rw [hs] at hA ⊢
 refine Fw (by show (false || (backTo cpos (starEach es X.env)).any (·.1))=false;rw [hplain]<;>rfl) (Calls.evalArgs_plain ?_)
 exact bK hA fun us s2 ⟨vs,H2,I2,r2,q2⟩=>hm pins s2 σ H2 x vs v us Q I2 r1 r2 q2
end
end L2
namespace L2
open PySem PySem.Spec PyProof.Rows
def CW (X:Cx) (id:String) (r:V->List V->Hp->VK->Prop):Prop:=
 ∀ (pins:List (Addr×Obj)) (s:Shared) (σ:St) (H:Hp) (x:V) (xs:List V) (v:Value) (us:List Value) (Q:VK),Inv X pins σ H s->RelV x v->Vals xs us->r x xs H Q->
  wpAny (model X.prog X.w) X.A (call (.builtin id) (v::us)) (EP X pins σ Q) X.xe s
theorem Vals.one:∀ {x:V} {us:List Value},Vals [x] us->∃ u,us=[u]/\RelV x u
 | _,_,.cons r .nil=>⟨_,rfl,r⟩
theorem Vals.eraseIdx:∀ {xs:List V} {us:List Value} (i:Nat),Vals xs us->Vals (xs.eraseIdx i) (us.eraseIdx i)
 | _,_,_,.nil=>.nil
 | _,_,0,.cons _ t=>t
 | _,_,i+1,.cons r t=>.cons r (Vals.eraseIdx i t)
theorem kU {α:Type}:∀ (l:List α) (i:Nat),(l.eraseIdx i).length<=l.length
 | [],_=>Ec _
 | _::_,0=>Nat.le_succ _
 | _::r,i+1=>Nat.succ_le_succ (kU r i)
section
variable {X:Cx} {pins:List (Addr×Obj)} {σ:St} {H:Hp} {s:Shared} {l b:Addr} {xs ys zs:List V}
theorem Inv.lset {its its':List Value} {n:Nat} {f:Array Value->Array Value} {t':Nat} (I:Inv X pins σ H s) (hH:H l=some (.lst xs))
  (e:s.heap.get? l=some { cls:=.type "list",data:=.seq its.toArray n }) (hf:f its.toArray=its'.toArray) (hv:Vals ys its') (hz:ys.length<=sizeLine) :
  Inv X pins σ (ax H l (.lst ys)) { s with heap:=s.heap.update l (Obj.mapSeq f),toks:=t' }:=by
 have q:=PySem.IsL.update e f
 rw [hf] at q
 refine I.write (x:=l) (e:=l) (by rw [hH];exact trivial) (.inl rfl) (fun b' u hb hu=>(Heap.get?_update_other s.heap (Obj.mapSeq f) (Ne.symm hb)).trans hu) ⟨_,q⟩ ?_
 exact ⟨hz,its',_,hv,q⟩
theorem Inv.lnew {its:List Value} {t':Nat} (I:Inv X pins σ H s) (hv:Vals ys its) (hz:ys.length<=sizeLine) :
  Inv X pins σ (ax H s.heap.objs.size (.lst ys)) { s with heap:=s.heap.push { cls:=.type "list",data:=.seq its.toArray },toks:=t' }:=
 I.laid (fun _ _ q=>D6 _ q) (Ec _) ⟨hz,its,0,hv,Em _ rfl⟩
theorem Inv.fresh (I:Inv X pins σ H s):H s.heap.objs.size=none:=I.hok.fresh (Ec _)
theorem Inv.lstM (I:Inv X pins σ H s) (hH:H l=some (.lst xs)):xs.length<=sizeLine/\∃ (its:List Value) (n:Nat),Vals xs its/\xs.length=its.length/\s.heap.get? l=some { cls:=.type "list",data:=.seq its.toArray n }:=by
 obtain ⟨z,its,n,r,e⟩:=I.hok l _ hH
 exact ⟨z,its,n,r,r.length,e⟩
end
section
variable {X:Cx}
inductive qB (x:V) (vs:List V) (H:Hp) (Q:VK):Prop
 | mk (l xs y:_):x=.ref l->vs=[y]->H l=some (.lst xs)->xs.length < sizeLine->Q .non (ax H l (.lst (xs++[y])))->qB x vs H Q
theorem bM:CW X "list.append" qB:=by
 intro pins s σ H x vs v us Q I rx rv h
 obtain ⟨l,xs,y,rfl,rfl,hH,hz,q⟩:=h
 cases rx
 obtain ⟨u,rfl,ru⟩:=rv.one
 obtain ⟨z,its,n,r,hl,e⟩:=I.lstM hH
 refine call_meets F.slot_list_append ⟨_,e,rfl⟩ F.entry_list_append (F.args_list_append_2 _ _) (PySem.list_append l its.toArray n u (by rw [En];omega)) ⟨e,?_⟩
 refine ⟨.non,_,I.lset (its':=its++[u]) hH e (by simp) (r.append (.cons ru .nil)) ?_,rfl,q⟩
 rw [D9,List.length_singleton]
 omega
inductive uw (x:V) (vs:List V) (H:Hp) (Q:VK):Prop
 | mk (l xs i k y:_):x=.ref l->vs=[.int i]->H l=some (.lst xs)->-(2 ^ 63)<=i->i < 2 ^ 63->seqIndex? i xs.length=some k->xs[k]?=some y->Q y (ax H l (.lst (xs.eraseIdx k)))->uw x vs H Q
theorem ux:CW X "list.pop" uw:=by
 intro pins s σ H x vs v us Q I rx rv h
 obtain ⟨l,xs,i,k,y,rfl,rfl,hH,h1,h2,hk,hy,q⟩:=h
 cases rx
 obtain ⟨u,rfl,ru⟩:=rv.one
 obtain ⟨t,rfl⟩:=ru
 obtain ⟨z,its,n,r,hl,e⟩:=I.lstM hH
 obtain ⟨w,hw,rw'⟩:=r.get hy
 refine call_meets F.slot_list_pop ⟨_,e,rfl⟩ F.entry_list_pop (F.args_list_pop_2 _ _)
  (MeetsSeq.list_pop_at l its.toArray n i t k w (fitsIndex_both h1 h2) (by rw [En,<-hl];exact hk) (by rw [<-Array.getElem?_toList];exact hw) (by rw [En];omega)) ⟨e,?_⟩
 refine ⟨y,_,I.lset (its':=its.eraseIdx k) hH e ?_ (r.eraseIdx k) ?_,rw',q⟩
 ·show its.toArray.eraseIdxIfInBounds k=(its.eraseIdx k).toArray
  rw [List.eraseIdxIfInBounds_toArray]
 ·have:=kU xs k
  omega
inductive Bm (x:V) (y:V) (H:Hp) (Q:VK):Prop
 | mk (l b xs zs:_):x=.ref l->y=.ref b->H l=some (.lst xs)->H b=some (.lst zs)->xs.length+zs.length<=sizeLine->(∀ p,H p=none->Q (.ref p) (ax H p (.lst (xs++zs))))->Bm x y H Q
theorem c8:fN X (binaryOp .Add) Bm:=by
 intro pins s σ H x y v u Q I rx ry h
 obtain ⟨l,b,xs,zs,rfl,rfl,hH,hB,hz,q⟩:=h
 cases rx
 cases ry
 obtain ⟨z,its,n,r,hl,e⟩:=I.lstM hH
 obtain ⟨z2,its2,n2,r2,hl2,e2⟩:=I.lstM hB
 refine PySem.P.add_list e e2 ?_ (by rw [En,En];omega)
 have ea:its.toArray++its2.toArray=(its++its2).toArray:=by simp
 rw [ea]
 exact ⟨.ref _,_,I.lnew (t':=s.toks) (r.append r2) (by rw [D9];omega),rfl,q _ I.fresh⟩
end
end L2
namespace Att
open PySem PySem.W PySem.Calls PyProof.Rows
theorem ints_of_wellAll {P:Params} {h:Heap}:∀ (ns:List Int) (vs:List Value),WellAll P h vs (ns.map WData.int)->IntsAre vs ns:=by
 intro ns
 induction ns with
 | nil=>
  intro vs w
  rw [List.map_nil] at w
  cases w
  exact .nil
 | cons n ns ih=>
  intro vs w
  rw [Ek] at w
  cases w with
  | cons a b=>
   cases a
   exact .cons _ _ (ih _ b)
theorem script_of {l:OpenLaw} {n:Nat} (hn:l.most=some n) {P:Params} {h:Heap} {args:List WData} {vals:List Value}
  (hpre:l.row.toRowW.claim.pre args=true) (hwl:WellAll P h vals args) :
  ∃ a vs ns,vals=[Value.ref a]/\args=[WData.list (ns.map WData.int)]/\h.get? a=some { cls:=.type "list",data:=.seq vs.toArray }/\IntsAre vs ns/\ns.length<=n:=by
 have hsh:WShape.hasAll [] args [.list .int]=true:=(pre_splitW hpre).1
 have hc:l.pre.holds [] { args:=args }=true:=(pre_splitW hpre).2
 obtain ⟨d,r,rfl,h1,h2⟩:=hasAllW_cons hsh
 obtain rfl:=hasAllW_nil h2
 obtain ⟨xs,rfl,h3⟩:=hasW_list h1
 obtain ⟨ns,rfl⟩:=items_int h3
 have hlen:ns.length<=n:=by
  unfold OpenLaw.pre at hc
  have h4:(WTm.not (.lt (.lit (.int (n:Int))) (.len (.arg 0)))).holds [] { args:=[.list (ns.map .int)] }=true:=by
   have h4:=(holds_andW hc).1
   rw [hn] at h4
   exact h4
  have h5:=condW_of h4 (w_not (w_lt w_lit (w_len_list (w_arg rfl))))
  rw [D5] at h5
  refine Nat.le_of_not_lt fun q=>?_
  have q':(n:Int) < ((ns.length:Nat):Int):=by omega
  first
   | (rw [decide_eq_true q'] at h5;exact absurd h5 (by decide))
   | (simp at h5;omega)
 cases hwl with
 | cons w1 w2=>
  cases w2
  cases w1 with
  | list ho hall=>exact ⟨_,_,ns,rfl,rfl,ho,ints_of_wellAll ns _ hall,hlen⟩
theorem post_true (l:OpenLaw) (args:List WData):l.row.toRowW.claim.post args (.bool true) args=true:=
 postW_of (r:=l.row.toRowW) (X:=(true == true))
  (show WShape.has [] (.bool true) .bool=true by first|rfl|decide|simp [WShape.has,WShape.arms,WShape.armsAll])
  (show (WTm.eq .res (.lit (.bool true))).value [] { args:=args,res:=some (.bool true),after:=args }=some (.bool (true == true)) from w_eq_bool (w_res rfl) w_lit) rfl
theorem attach_call {l:OpenLaw} {n:Nat} {q:Program} {loose:List Str} {XP:(Str->Option Value)->Heap->Prop} {YP:World->Heap->Prop} {d:DefRec}
  (hn:l.most=some n) (hdf:d.params.defaults=[])
  (call:∀ (w:World) (s₀ s₁:Shared) (mg mb:Str->Option Value) (fa:Addr) (o:Obj) (pm cd doc:Value) (a:Addr) (vs:List Value) (ns:List Int),
   Ground q loose [] XP w s₀ mg mb s₁.heap->YP w s₁.heap->
   s₁.heap.get? fa=some o->o.data=.func (docDef d.name d.params d.body d.scope pm cd doc)->s₁.heap.CodeRec cd d.name->mg d.name=some (.ref fa)->
   s₁.heap.get? a=some { cls:=.type "list",data:=.seq vs.toArray }->IntsAre vs ns->ns.length<=n->s₁.gens=#[]->
   codeAny (model l.prog w) callerA (.call (.ref fa) ⟨[.ref a],[]⟩) (fun r s'=>r=.ok (.ret (.bool true))/\OldK s₁.heap s'.heap/\s'.os=s₁.os/\AllBare s'.gens) s₁) :
  WalkO q loose XP YP l.row.toRowW d [] (fun f vs=>PySem.call f vs):=by
 intro w s₀ s₁ mg mb G Y fa o pm cd doc dV kV ho hd hcd hD hmg hg args vals as hpre hlay hrd hwl hlo
 obtain rfl:dV=.none:=Dflts.none hD hdf
 obtain rfl:kV=.none:=Dflts.noKw hD
 obtain ⟨a,vs,ns,rfl,rfl,hobj,hints,hlen⟩:=script_of hn hpre hwl
 refine enter_call (codeAny_mono (call w s₀ s₁ mg mb fa o pm cd doc a vs ns G Y ho (fd_plain hd) hcd hmg hobj hints hlen hg) fun r s' hq=>?_)
 obtain ⟨rfl,h2,h3,h4⟩:=hq
 exact ⟨.inl ⟨.bool true,.bool true,[],rfl,fun _=>rfl,.bool true,post_true l _,fun _=>⟨List.Pairwise.nil,fun _ hm=>(nomatch hm)⟩⟩,h2,h3,h4⟩
section
variable {prog:Program} {w:World} {A:Around} {E:Value->Shared->Prop} {s:Shared} {K:Frag}
end
end Att
namespace L2
open PySem PySem.Spec PyProof.Rows
theorem kW:∀ {vs:List Value} {ns:List Int},IntsAre vs ns->Vals (ns.map V.int) vs
 | _,_,.nil=>.nil
 | _,_,.cons n t h=>.cons ⟨t,rfl⟩ (kW h)
def xk (H:Hp):Prop:=∀ b,H b=none\/∃ o xs,H b=some (.frz o (.lst xs))
theorem uy {P:Program} {w:World} {K:PySem.W.Frag} {mg mb:Str->Option Value} {CX:rZ} {k:Nat} {fa a:Addr} {fd:FuncData} {x:Str} {sp:Sp} {s₁:Shared} {vs:List Value} {ns:List Int}
  (KX:K.In s₁.heap) (hns:s₁.heap.Ns mainGlobals mg) (hb:s₁.heap.Ns builtinsNs mb) (hbb:∀ x:Str,x≠"__name__"->mb x=bootBuiltins x) (hlim:s₁.heap.NoLimit) (hg:s₁.gens=#[])
  (ha:s₁.heap.get? a=some { cls:=.type "list",data:=.seq vs.toArray }) (hi:IntsAre vs ns) (hl:ns.length<=sizeLine) (hr:Room k callerA)
  (F:∀ base:Heap,K.In base->base.Ns mainGlobals mg->aN P w K mg base CX k fa fd [x] sp) (hbind:∀ (s:Shared) (u:Value),BindsTo s fd ⟨[u],[]⟩ [(x,u)])
  (hsp:∀ H:Hp,xk H->SqL K H a (ns.map V.int)->sp [.ref a] H (fun v _=>v=.bl true) fun _ _ _=>False)
  (hCX:∀ H e s',CX [] H s₁ (fun _ _ _=>False) e s'->False) :
  codeAny (model P w) callerA (.call (.ref fa) ⟨[.ref a],[]⟩) (fun r s'=>r=.ok (.ret (.bool true))/\OldK s₁.heap s'.heap/\s'.os=s₁.os/\AllBare s'.gens) s₁:=by
 have rv:=kW hi
 have lenV:=hi.length
 have core:∀ H:Hp,xk H->SqL K H a (ns.map V.int)->HOk P w H s₁.heap->(∀ b,H b≠none->b=a)->(H a≠none->K.lookup a=none)->
   codeAny (model P w) callerA (.call (.ref fa) ⟨[.ref a],[]⟩) (fun r s'=>r=.ok (.ret (.bool true))/\OldK s₁.heap s'.heap/\s'.os=s₁.os/\AllBare s'.gens) s₁:=by
  intro H hO hS hok hA hK
  have base_of:∀ {b:Addr} {o:Obj},s₁.heap.get? b=some o->H b=none->(lO s₁.heap H).get? b=some o:=fun e n=>tX e n
  have noA:∀ {b:Addr} {o:Obj} {es:Array DictEntry} {ep:Nat},s₁.heap.get? b=some o->o.data=.dict es ep->H b=none:=fun {b o es ep} e d=>by
   cases q:H b with
   | none=>rfl
   | some u=>
    have e':b=a:=hA b (by rw [q];simp)
    subst e'
    rw [ha] at e;cases e
    have d':Data.seq vs.toArray _=Data.dict es ep:=d
    cases d'
  have nsK:∀ {b:Addr} {m:Str->Option Value},s₁.heap.Ns b m->(lO s₁.heap H).Ns b m:=fun {b m} ⟨o,es,ep,e,d,r⟩=>⟨o,es,ep,base_of e (noA e d),d,r⟩
  have hKb:K.In (lO s₁.heap H):=fun b o e=>base_of (KX b o e) (by
   cases q:H b with
   | none=>rfl
   | some u=>
    have e':b=a:=hA b (by rw [q];simp)
    subst e'
    rw [hK (by rw [q];simp)] at e;cases e)
  have hM:Mod K mg (lO s₁.heap H):=⟨hKb,nsK hns,⟨mb,nsK hb,hbb⟩,let ⟨mc,h1,h2⟩:=hlim;⟨mc,nsK h1,h2⟩⟩
  have e0:Env0 P w K mg (lO s₁.heap H) callerA [] s₁ H:=⟨rfl,hM,fun b o e=>wU e,Nat.le_of_eq (rR _ _),trivial,fun b hb=>absurd (show b∈([]:List Addr) from hb) (by simp),hok,.of_eq hg⟩
  refine codeAny_mono ((F _ hKb (nsK hns)).run callerA [] s₁ H ⟨[.ref a],[]⟩ [.ref a] [.ref a] _ _ hr e0 (hbind s₁ (.ref a)) (.cons rfl .nil) (hsp H hO hS)) fun r s' h=>?_
  cases r with
  | error e=>exact (hCX H e s' h).elim
  | ok fl=>
   cases fl with
   | next=>exact False.elim h
   | brk=>exact False.elim h
   | cont=>exact False.elim h
   | ret u=>
    obtain ⟨v,H',os,bare,un,hok',r',q⟩:=h
    have q':v=.bl true:=q
    subst q'
    obtain rfl:u=Value.bool true:=r'
    refine ⟨rfl,OldK.of_keep fun b o e=>?_,os,bare⟩
    cases q:H b with
    | none=>exact un.keep b o e q (by intro z;exact absurd (show b∈([]:List Addr) from z) (by simp)) (by simp)
    | some u=>
     rcases hO b with z|⟨ob,xs,z⟩
     ·rw [q] at z;cases z
     ·have z2:=un.frzs b ob _ z
      obtain ⟨e1,_⟩:=hok b _ z
      obtain ⟨e2,_⟩:=hok' b _ z2
      rw [e] at e1;cases e1
      exact e2
 cases hk:K.lookup a with
 | some o=>
  have e:=KX a o hk
  rw [ha] at e
  cases e
  refine core (fun _=>none) (fun _=>.inl rfl) (.inr ⟨_,vs.toArray,_,hk,rfl,rfl,rfl,by rw [En,lenV];exact hl,by simpa using rv⟩) (fun b u z=>by have z':(none:Option HO)=some u:=z;cases z') (fun b z=>absurd rfl z) fun z=>absurd rfl z
 | none=>
  refine core (fun b=>if b=a then some (.frz { cls:=.type "list",data:=.seq vs.toArray } (.lst (ns.map V.int))) else none) (fun b=>?_) (.inl (.inr ⟨{ cls:=.type "list",data:=.seq vs.toArray },if_pos rfl⟩)) (fun b u z=>?_) (fun b z=>?_) fun _=>hk
  ·by_cases hb:b=a
   ·exact .inr ⟨_,_,if_pos hb⟩
   ·exact .inl (if_neg hb)
  ·by_cases hb:b=a
   ·have z':=(if_pos hb).symm.trans z
    cases z'
    subst hb
    exact ⟨ha,by rw [D5];exact hl,vs,_,rv,ha⟩
   ·have z':=(if_neg hb).symm.trans z
    cases z'
  ·by_cases hb:b=a
   ·exact hb
   ·exact absurd (if_neg hb) z
end L2
namespace L2
open PySem PySem.Spec PyProof.Rows
theorem xm {l:PySem.W.OpenLaw} {n k:Nat} {q:Program} {loose:List Str} {XP:(Str->Option Value)->Heap->Prop} {YP:World->Heap->Prop} {d:DefRec} {K:Params->PySem.W.Frag} {CX:World->rZ} {sp:World->Sp} {x:Str}
  (hn:l.most=some n) (hn2:n<=sizeLine) (hdf:d.params.defaults=[]) (hr:Room k callerA)
  (hY:∀ (w:World) (h:Heap),YP w h->(K w.params).In h)
  (F:∀ (w:World) (mg:Str->Option Value) (fa:Addr) (h:Heap),(K w.params).In h->h.Ns mainGlobals mg->mg d.name=some (.ref fa)->
   ∃ fd:FuncData,(∀ (s:Shared) (u:Value),BindsTo s fd ⟨[u],[]⟩ [(x,u)]) /\
    ∀ base:Heap,(K w.params).In base->base.Ns mainGlobals mg->aN l.prog w (K w.params) mg base (CX w) k fa fd [x] (sp w))
  (hsp:∀ (w:World) (H:Hp) (a:Addr) (ns:List Int),ns.length<=n->xk H->SqL (K w.params) H a (ns.map V.int)->sp w [.ref a] H (fun v _=>v=.bl true) fun _ _ _=>False)
  (hCX:∀ (w:World) (H:Hp) (s:Shared) (e:Value) (s':Shared),CX w [] H s (fun _ _ _=>False) e s'->False) :
  PySem.W.WalkO q loose XP YP l.row.toRowW d [] (fun f vs=>PySem.call f vs):=by
 refine Att.attach_call hn hdf fun w s₀ s₁ mg mb fa o pm cd doc a vs ns G Y ho hd hcd hmg hobj hints hlen hg=>?_
 have KX:=hY w _ Y
 obtain ⟨fd,hb,hF⟩:=F w mg fa _ KX G.T.g hmg
 exact uy KX G.T.g G.T.b G.T.builtins G.T.nolimit hg hobj hints (Ew hlen hn2) hr hF hb (fun H hO hS=>hsp w H a ns hlen hO hS) fun H e s'=>hCX w H s₁ e s'
theorem uz {l:PySem.W.OpenLaw} {n k:Nat} {q:Program} {loose:List Str} {XP:(Str->Option Value)->Heap->Prop} {YP:World->Heap->Prop} {d:DefRec} {K:Params->PySem.W.Frag} {CX:rZ} {sp:PySem.W.Frag->Sp} {x:Str}
  (hn:l.most=some n) (hn2:n<=sizeLine) (hdf:d.params.defaults=[]) (hr:Room k callerA)
  (hY:∀ (w:World) (h:Heap),YP w h->(K w.params).In h)
  (F:∀ (w:World) (mg:Str->Option Value) (fa:Addr) (h:Heap),(K w.params).In h->h.Ns mainGlobals mg->mg d.name=some (.ref fa)->
   ∃ fd:FuncData,(∀ (s:Shared) (u:Value),BindsTo s fd ⟨[u],[]⟩ [(x,u)]) /\
    ∀ base:Heap,(K w.params).In base->base.Ns mainGlobals mg->aN l.prog w (K w.params) mg base CX k fa fd [x] (sp (K w.params)))
  (hsp:∀ (K:PySem.W.Frag) (H:Hp) (a:Addr) (ns:List Int),ns.length<=n->xk H->SqL K H a (ns.map V.int)->sp K [.ref a] H (fun v _=>v=.bl true) fun _ _ _=>False)
  (hCX:∀ (H:Hp) (s:Shared) (e:Value) (s':Shared),CX [] H s (fun _ _ _=>False) e s'->False) :
  PySem.W.WalkO q loose XP YP l.row.toRowW d [] (fun f vs=>PySem.call f vs):=
 xm (K:=K) (CX:=fun _=>CX) (sp:=fun w=>sp (K w.params)) hn hn2 hdf hr hY F (fun w H a ns h1 h2 h3=>hsp (K w.params) H a ns h1 h2 h3) fun _ H s e s'=>hCX H s e s'
end L2
namespace L2
open PySem PySem.Spec PyProof.Rows
def cK (s:Stmt) (j:Nat):Stmt:=match s with
 | .ClassDef _ _ _ body _ _ _ _ _ _ _=>body.getD j (.Pass ⟨0,0,0,0⟩)
 | _=>.Pass ⟨0,0,0,0⟩
def df (s:Stmt):Arguments:=match s with
 | .FunctionDef _ a _ _ _ _ _ _ _ _=>a
 | _=>{ posonlyargs:=[],args:=[],vararg:=none,kwonlyargs:=[],kw_defaults:=[],kwarg:=none,defaults:=[] }
def cM (s:Stmt):List Stmt:=match s with
 | .FunctionDef _ _ b _ _ _ _ _ _ _=>b
 | _=>[]
def am (s:Stmt):Scope:=match s with
 | .FunctionDef _ _ _ _ _ _ sc _ _ _=>sc
 | _=>{ kind:=.function,names:=[],isGenerator:=false,isCoroutine:=false }
abbrev cj:rZ:=fun _ _ _ _ _ _=>False
abbrev E0:XK:=fun _ _ _=>False
theorem hI {X:Cx}:fX cj X E0:=fun _ _ _ _ _ _ _ h=>h.elim
structure Fun (K:PySem.W.Frag) (x qual:Str) (st:Stmt) (f:Addr) (fd:FuncData):Prop where
 ex:∃ (oc:Value) (od:Option Addr) (kV doc pm:Value) (an:Option Addr) (cdv ct:Value) (osl:Array (Option Value)),
  fd=PySem.W.fnOf x qual (df st) (cM st) (am st) .none kV doc pm an cdv ct/\K.lookup f=some ⟨oc,od,.func fd,osl⟩/\PySem.W.codeIn K cdv qual=true
 kp:PySem.W.keepIn K (.ref f)=true
section
variable {P:Program} {w:World} {K:PySem.W.Frag} {mg:Str->Option Value} {base:Heap}
theorem Fun.ok {x qual:Str} {st:Stmt} {f:Addr} {fd:FuncData} {N ps:List Str} {k:Nat} {sp:Sp} (F:Fun K x qual st f fd) (S:ay N ps (am st)) (len:∀ vs H Q E,sp vs H Q E->vs.length=ps.length)
  (hbody:∀ (cdv:Value) (A:Around) (outer:List Env) (s:Shared) (H:Hp) (vs:List V) (Q:VK) (E:XK),Room k (A.deeper (envOfC qual (am st) s.heap.objs.size f cdv))->sp vs H Q E->
   ∃ t,PSs (lU cj P w K mg base N qual (am st) f cdv A outer s H E).nox (cM st) t/\t { nx:=fun _ H'=>Q .non H',rt:=Q } (start N vs) H):aN P w K mg base cj (k+1) f fd ps sp:=by
 obtain ⟨oc,od,kV,doc,pm,an,cdv,ct,osl,rfl,lk,hcd⟩:=F.ex
 refine yL lk hcd S len fun A outer s H vs Q E hr hsp=>?_
 obtain ⟨t,h,q⟩:=hbody cdv A outer s H vs Q E hr hsp
 exact ⟨t,h.nox,q⟩
theorem Fun.binds {x qual:Str} {st:Stmt} {f:Addr} {fd:FuncData} {ps:List Str} (F:Fun K x qual st f fd)
  (h:∀ (kV doc pm:Value) (an:Option Addr) (cdv ct:Value) (us:List Value),us.length=ps.length->bindArgs (PySem.W.fnOf x qual (df st) (cM st) (am st) .none kV doc pm an cdv ct) ⟨us,[]⟩=pure (ps.zip us)):Binds K fd ps []:=by
 obtain ⟨oc,od,kV,doc,pm,an,cdv,ct,osl,rfl,lk,hcd⟩:=F.ex
 exact .all (h kV doc pm an cdv ct)
theorem uA {x qual:Str} {st:Stmt} {f:Addr} {oc:Value} {od an:Option Addr} {osl:Array (Option Value)} {kV doc pm cdv ct:Value} (l:K.lookup f=some ⟨oc,od,.func (PySem.W.fnOf x qual (df st) (cM st) (am st) .none kV doc pm an cdv ct),osl⟩)
  (c:PySem.W.codeIn K cdv qual=true) (k:PySem.W.keepIn K (.ref f)=true):Fun K x qual st f (PySem.W.fnOf x qual (df st) (cM st) (am st) .none kV doc pm an cdv ct):=⟨⟨oc,od,kV,doc,pm,an,cdv,ct,osl,rfl,l,c⟩,k⟩
end
theorem hJ {A:Around} {k:Nat} (hr:Room k A):A.units+1 < cLine:=Nat.lt_of_le_of_lt (Nat.add_le_add_left (by decide:1<=64) _) hr.units
section
variable {X:Cx}
theorem pv (i:Nat) {x:Str} {pos:Pos} (hN:X.N[i]?=some x:=by rfl) (hv:AV X.env.scope x:=by first|exact Or.inl rfl|exact Or.inr (Or.inl rfl)|exact Or.inr (Or.inr rfl)) (hd:(x == ("__debug__":Str))=false:=by decide)
  (hcd:(x == ("__classdict__":Str))=false:=by decide):PE X (.Name x pos) (rS i):=zg hN hv hd hcd
end
theorem cA {A B:Prop} (h:B):if false=true then A else B:=by
 rw [if_neg Eo]
 exact h
theorem gh {A B:Prop} (h:A):if true=true then A else B:=by
 rw [if_pos rfl]
 exact h
theorem eD {c A B:Prop} [Decidable c] (h1:c->A) (h2:¬ c->B):if c then A else B:=by
 by_cases h:c
 ·rw [if_pos h]
  exact h1 h
 ·rw [if_neg h]
  exact h2 h
def Same (H H':Hp):Prop:=∀ b o,H b=some o->H' b=some o
theorem Same.refl (H:Hp):Same H H:=fun _ _ h=>h
theorem Same.trans {H H1 H2:Hp} (a:Same H H1) (b:Same H1 H2):Same H H2:=fun c o h=>b c o (a c o h)
theorem Same.free {H H':Hp} (e:Same H H') {l:Addr} (h:H' l=Option.none):H l=Option.none:=by
 cases q:H l with
 | none=>rfl
 | some o=>
  rw [e l o q] at h
  cases h
theorem Same.seq {K:PySem.W.Frag} {H H':Hp} {a:Addr} {xs:List V} (e:Same H H') (h:SqL K H a xs):SqL K H' a xs:=by
 rcases h with (h|⟨o,h⟩)|h
 ·exact .inl (.inl (e _ _ h))
 ·exact .inl (.inr ⟨o,e _ _ h⟩)
 ·exact .inr h
end L2
namespace L2
open PySem PySem.Spec PyProof.Rows
theorem ic (env:Env):∀ (names:List (Str×NameKind)) (cs:List (Str×Addr)),(∀ x∈names,x.2=.free->∃ c,env.cells.lookup x.1=some c)->(∀ x c,cs.lookup x=some c->env.cells.lookup x=some c)->
  ∃ cl,(forIn names cs fun (p:Str×NameKind) (r:List (Str×Addr))=>(if (p.2 == NameKind.free)=true then do let c <-cellOf env p.1;pure (ForInStep.yield ((p.1,c)::r)) else pure (ForInStep.yield r):Sem (ForInStep (List (Str×Addr)))))=(pure cl:Sem (List (Str×Addr))) /\
   (∀ x c,cl.lookup x=some c->env.cells.lookup x=some c)/\(∀ x,(∃ c,cs.lookup x=some c)->∃ c,cl.lookup x=some c)/\∀ x∈names,x.2=.free->∃ c,cl.lookup x.1=some c
 | [],cs,_,h=>⟨cs,rfl,h,fun _ z=>z,fun _ z=>nomatch z⟩
 | (n,k)::r,cs,hn,h=>by
  by_cases e:k=.free
  ·subst e
   obtain ⟨c,hc⟩:=hn (n,.free) Ea rfl
   have h':∀ x c',((n,c)::cs).lookup x=some c'->env.cells.lookup x=some c':=fun x c' q=>by
    rw [Fa] at q
    cases ex:x == n with
    | true=>
     rw [ex] at q
     have:x=n:=by simpa using ex
     subst this
     cases q
     exact hc
    | false=>rw [ex] at q;exact h x c' q
   obtain ⟨cl,e1,e2,e3,e4⟩:=ic env r ((n,c)::cs) (fun x hx=>hn x (Ee _ hx)) h'
   refine ⟨cl,?_,e2,fun x ⟨c',q⟩=>e3 x ?_,fun x hx hf=>?_⟩
   ·rw [List.forIn_cons]
    rw [if_pos (show (((n,NameKind.free):Str×NameKind).2 == NameKind.free)=true from by rfl)]
    unfold cellOf
    rw [hc]
    exact e1
   ·rw [Fa]
    cases ex:x == n with
    | true=>exact ⟨c,rfl⟩
    | false=>exact ⟨c',q⟩
   ·rcases Ej.mp hx with z|z
    ·subst z
     exact e3 n ⟨c,by rw [Fa];simp⟩
    ·exact e4 x z hf
  ·obtain ⟨cl,e1,e2,e3,e4⟩:=ic env r cs (fun x hx=>hn x (Ee _ hx)) h
   refine ⟨cl,?_,e2,e3,fun x hx hf=>?_⟩
   ·rw [List.forIn_cons]
    rw [if_neg (show ¬ (((n,k):Str×NameKind).2 == NameKind.free)=true by simpa using e)]
    exact e1
   ·rcases Ej.mp hx with z|z
    ·subst z
     exact absurd hf e
    ·exact e4 x z hf
theorem pb {env:Env} {sc:Scope} (hn:∀ x∈sc.names,x.2=.free->∃ c,env.cells.lookup x.1=some c) :
  ∃ cl,closureFor sc env=pure cl/\(∀ x c,cl.lookup x=some c->env.cells.lookup x=some c)/\∀ x∈sc.names,x.2=.free->∃ c,cl.lookup x.1=some c:=by
 obtain ⟨cl,e1,e2,_,e4⟩:=ic env sc.names [] hn (fun x c z=>by cases z)
 refine ⟨cl,?_,e2,e4⟩
 unfold closureFor
 exact (congrArg (fun (m:Sem (List (Str×Addr)))=>m >>= fun r=>pure r) e1)
theorem eE {κ:Type}:∀ {l:List (Str×κ)} {x:Str} {k:κ},l.lookup x=some k->(x,k)∈l
 | [],_,_,h=>by cases h
 | (n,k')::r,x,k,h=>by
  rw [Fa] at h
  cases e:x == n with
  | true=>
   rw [e] at h
   have:x=n:=by simpa using e
   subst this
   cases h
   exact Ea
  | false=>
   rw [e] at h
   exact Ee _ (eE h)
def ma (env:Env) (x:Str) (k:NameKind):NameKind:=if (k == NameKind.free && env.scope.kind == .function && env.kindOf x == some .cell)=true then .cell else k
theorem jL {env:Env}:∀ {names:List (Str×NameKind)} {x:Str},
  (names.map fun (p:Str×NameKind)=>match p with|(n,k)=>if (k == NameKind.free && env.scope.kind == .function && env.kindOf n == some .cell)=true then (n,NameKind.cell) else (n,k)).lookup x=(names.lookup x).map (ma env x)
 | [],x=>rfl
 | (n,k)::r,x=>by
  rw [Ek]
  by_cases e:x=n
  ·subst e
   dsimp only
   by_cases c:(k == NameKind.free && env.scope.kind == .function && env.kindOf x == some .cell)=true
   ·rw [if_pos c]
    have z:ma env x k=.cell:=if_pos c
    simp [Fa,z]
   ·rw [if_neg c]
    have z:ma env x k=k:=if_neg c
    simp [Fa,z]
  ·have e':(x == n)=false:=by simpa using e
   dsimp only
   rw [Fa (a:=x) (b:=k),e']
   show _=(r.lookup x).map (ma env x)
   rw [<-jL]
   by_cases c:(k == NameKind.free && env.scope.kind == .function && env.kindOf n == some .cell)=true
   ·rw [if_pos c,Fa,e']
   ·rw [if_neg c,Fa,e']
theorem jM {sc:Scope} {env:Env} {cl:List (Str×Addr)} {C:Addr} {x:Str}:(compEnvC sc cl C env).kindOf x=(sc.names.lookup x).map (ma env x):=jL
def sh (N:List Str) (sc0 sc:Scope) (N':List Str) (ix:List (Option Nat)):Bool:=
 sc.kind == .function && ix.length == N'.length &&
 sc.names.all (fun p=>p.2 != .cell && (p.2 != .free || (sc0.names.lookup p.1 == some .cell || sc0.names.lookup p.1 == some .free)) && (p.2 != .local || sc.names.lookup p.1 == some .local)) &&
 (List.range N'.length).all fun j=>match ix[j]?,N'[j]? with
  | some (some i),some x=>N[i]? == some x && sc.names.lookup x == some .free
  | _,_=>true
theorem kX {N:List Str} {sc0 sc:Scope} {N':List Str} {ix:List (Option Nat)} (h:sh N sc0 sc N' ix=true) :
  sc.kind=.function/\ix.length=N'.length/\(∀ p∈sc.names,p.2≠.cell)/\(∀ p∈sc.names,p.2=.free->sc0.names.lookup p.1=some .cell\/sc0.names.lookup p.1=some .free) /\
   (∀ p∈sc.names,p.2=.local->sc.names.lookup p.1=some .local)/\∀ (j i:Nat) (x:Str),ix[j]?=some (some i)->N'[j]?=some x->N[i]?=some x/\sc.names.lookup x=some .free:=by
 unfold sh at h
 simp only [EB,ER,beq_iff_eq,bne_iff_ne,Bool.or_eq_true,ne_eq] at h
 obtain ⟨⟨⟨h1,h2⟩,h3⟩,h4⟩:=h
 refine ⟨h1,h2,fun p hp=>(h3 p hp).1.1,fun p hp hf=>?_,fun p hp hl=>?_,fun j i x e1 e2=>?_⟩
 ·rcases (h3 p hp).1.2 with z|z
  ·exact absurd hf z
  ·exact z
 ·rcases (h3 p hp).2 with z|z
  ·exact absurd hl z
  ·exact z
 ·have hj:j < N'.length:=(D7.mp e2).1
  have:=h4 j (Fb.mpr hj)
  rw [e1,e2] at this
  simpa using this
def kF (X:Cx) (sc:Scope) (N':List Str) (C:Addr) (cl:List (Str×Addr)) (s:Shared) (H:Hp) (fp:List Addr):Cx:=
 { X with N:=N',s₀:=s,H₀:=H,env:=compEnvC sc cl C X.env,outer:=X.stack,stack:=X.stack,ex:=fp,fn:=fun _=>false,pn:=[],xe:=fun _ _=>False }
def kY (ix:List (Option Nat)) (σ:St):St:=ix.map fun o=>match o with|some i=>(σ[i]?).getD none|none=>none
def ExtL:St->St->Prop
 | [],[]=>True
 | none::r,_::r'=>ExtL r r'
 | some v::r,w::r'=>w=some v/\ExtL r r'
 | _,_=>False
theorem ExtL.spec:∀ {a b:St},ExtL a b->a.length=b.length/\∀ (i:Nat) v,a[i]?=some (some v)->b[i]?=some (some v)
 | [],[],_=>⟨rfl,fun _ _ z=>by simp at z⟩
 | [],_::_,h=>h.elim
 | none::r,[],h=>h.elim
 | some v::r,[],h=>h.elim
 | none::r,w::r',h=>by
  obtain ⟨e1,e2⟩:=ExtL.spec (a:=r) (b:=r') h
  refine ⟨by simp [e1],fun i v z=>?_⟩
  cases i with
  | zero=>simp at z
  | succ i=>simpa using e2 i v (by simpa using z)
 | some u::r,w::r',h=>by
  obtain ⟨e0,h⟩:=h
  obtain ⟨e1,e2⟩:=ExtL.spec (a:=r) (b:=r') h
  refine ⟨by simp [e1],fun i v z=>?_⟩
  cases i with
  | zero=>simp at z;subst z;simp [e0]
  | succ i=>simpa using e2 i v (by simpa using z)
structure PF (X:Cx) (ifs:List Expr) (t:TT):Prop where
 run:∀ (pins:List (Addr×Obj)) (s:Shared) (σ:St) (H:Hp) (Q:Bool->Hp->Prop),Inv X pins σ H s->t σ H Q->
  wpAny (model X.prog X.w) X.A (forIn ifs true fun c r=>if r=true then do let ok <-isTrue c X.env (eval c X.env);pure (ForInStep.yield ok) else pure (ForInStep.yield r)) (TP X pins σ Q) X.xe s
instance {X:Cx} {ifs:List Expr} {t:TT}:CoeFun (PF X ifs t) fun _=>∀ (pins:List (Addr×Obj)) (s:Shared) (σ:St) (H:Hp) (Q:Bool->Hp->Prop),Inv X pins σ H s->t σ H Q->
  wpAny (model X.prog X.w) X.A (forIn ifs true fun c r=>if r=true then do let ok <-isTrue c X.env (eval c X.env);pure (ForInStep.yield ok) else pure (ForInStep.yield r)) (TP X pins σ Q) X.xe s:=⟨PF.run⟩
def Bn:TT:=fun _ H Q=>Q true H
theorem cU {X:Cx}:PF X [] Bn:=⟨fun pins s σ H Q I h=>wpAny_tests_nil ⟨H,I,h⟩⟩
theorem md {X:Cx} {c:Expr} {t:TT} (h:PT X c t):PF X [c] t:=⟨fun pins s σ H Q I q=>wpAny_tests_one (h pins s σ H Q I q)⟩
def pc (J:It) (g:TG) (tf:TT) (te:TE) (ix:List (Option Nat)) (σ:St) (H1:Hp) (Q:VK):Prop:=∃ W:Nat->Nat->List V->Hp->Prop,(∃ m,W 0 m [] H1)/\∀ i m ys H,W i m ys H->
 (J.stop i H/\ys.length<=sizeLine/\∀ D,H D=none->Q (.ref D) (ax H D (.lst ys))) ∨
 (J.go i H/\ys.length<=sizeLine/\∀ x H',J.yld i H x H'->g x (kY ix σ) H' fun σ2 H2=>ExtL (kY ix σ) σ2/\tf σ2 H2 fun b H3=>if b=true then te σ2 H3 fun y H4=>∃ m',m' < m/\W (i+1) m' (ys++[y]) H4 else ∃ m',m' < m/\W (i+1) m' ys H3)
def CY (wi:TI) (g:TG) (tf:TT) (te:TE) (ix:List (Option Nat)):TE:=fun σ H Q=>wi σ H fun J H1=>pc J g tf te ix σ H1 Q
section
variable {X:Cx} {tg elt iter:Expr} {ifs:List Expr} {sc:Scope} {N':List Str} {ix:List (Option Nat)} {pins:List (Addr×Obj)} {σ:St} {H2:Hp} {s2:Shared} {fp:List Addr} {cl:List (Str×Addr)} {C:Addr} {pos:Pos}
theorem zw (I:Inv X pins σ H2 s2) (hix:sh X.N X.env.scope sc N' ix=true) (e2:∀ x c,cl.lookup x=some c->X.env.cells.lookup x=some c) (e3:∀ x∈sc.names,x.2=.free->∃ c,cl.lookup x.1=some c)
  (f2:∀ b∈fp,kC X pins H2 b) (fo:∀ b∈fp,∃ o,s2.heap.get? b=some o) (hC:s2.heap.objs.size<=C):(kF X sc N' C cl s2 H2 fp).Ok:=by
 obtain ⟨k1,_,k3,_,_,_⟩:=kX hix
 refine ⟨I.ok.mod,k1,I.ok.glob,I.ok.blt,hC,fun x y c a b=>I.ok.inj x y c (e2 x c a) (e2 y c b),fun x hx=>?_,fun x c z=>(by cases z),I.ok.hd,I.ok.frames,.inl rfl,fun b hb=>?_,I.bs,Ew I.ok.bsz I.sz,fun b o e hb=>?_,fun b hb hf=>?_,I.stack,I.stkFree⟩
 ·have hx':(compEnvC sc cl C X.env).kindOf x=some .cell\/(compEnvC sc cl C X.env).kindOf x=some .free:=hx
  rw [jM] at hx'
  cases q:sc.names.lookup x with
  | none=>rw [q] at hx';rcases hx' with z|z<;>cases z
  | some k=>
   have hm:=eE q
   have hf:k=.free:=by
    rw [q] at hx'
    have nk:=k3 _ hm
    cases k with
    | free=>rfl
    | cell=>exact absurd rfl nk
    | _=>rcases hx' with z|z<;>(simp [ma] at z)
   exact e3 (x,k) hm hf
 ·obtain ⟨o,ho⟩:=fo b hb
  exact ⟨Ey (Er (Ef ho) hC),fun x c q=>(f2 b hb).2.2.2.2.1 x c (e2 x c q)⟩
 ·have hb':b∈fp:=hb
  rcases (f2 b hb').2.2.2.1 with z|z
  ·exact I.ok.noex b o e z
  ·exact absurd (Er (Ef e) (Ew I.ok.bsz z)) (E7 _)
 ·have hb':b∈fp:=hb
  rcases Ej.mp (I.stkSub b hf) with z|z
  ·exact (f2 b hb').2.1 z
  ·exact (f2 b hb').2.2.1 z
end
section
variable {X:Cx} {tg elt iter:Expr} {ifs:List Expr} {sc sc0:Scope} {N N':List Str} {ix:List (Option Nat)} {pos:Pos} {wi:TI} {g:TG} {tf:TT} {te:TE}
structure LcEnd (X:Cx) (pins:List (Addr×Obj)) (σ:St) (H:Hp) (s:Shared) (C:Addr):Prop where
 inv:Inv X pins σ H s
 ns:∃ m,s.heap.Ns C m
 free:H C=none
 loc:C≠X.env.locals
 cel:∀ x c,X.env.cells.lookup x=some c->c≠C
 abv:X.s₀.heap.objs.size<=C
 pin:∀ p∈X.pn++pins,p.1≠C
theorem LcEnd.gone {pins:List (Addr×Obj)} {σ:St} {H:Hp} {s:Shared} {C:Addr} {h':Heap} (L:LcEnd X pins σ H s C) (sb:Heap.SameBut C s.heap h'):Inv X pins σ H { s with heap:=h' }:=
 L.inv.turned (it:=C) (t':=s.toks) (fun b o hb e=>(sb.2 b hb).trans e) L.free L.loc (.inr L.abv) L.cel L.pin
set_option maxHeartbeats 2000000 in
theorem qC {pins:List (Addr×Obj)} {σ:St} {H:Hp} {s:Shared} {Q:VK} {use:Option (Value->Sem Unit)} {Qf:Value->Shared->Prop} {cpos:Pos} (hc:X.calm=true) (hix:sh X.N X.env.scope sc N' ix=true) (hi:PI X tg iter wi)
  (hg:∀ C cl s H fp,PG (kF X sc N' C cl s H fp) tg g) (hf:∀ C cl s H fp,PF (kF X sc N' C cl s H fp) ifs tf) (he:∀ C cl s H fp,PE (kF X sc N' C cl s H fp) elt te)
  (hs:∀ x,foldedSetIterable iter X.env x=pure x) (I:Inv X pins σ H s) (h:CY wi g tf te ix σ H Q)
  (hend:∀ (C D:Addr) (H':Hp) (s':Shared),LcEnd X pins σ H' s' C->Q (.ref D) H'->compPost (model X.prog X.w) X.A X.xe use Qf (.ref D) C (.ok .next) s') :
  wpAny (model X.prog X.w) X.A (comprehension (.ListComp elt [⟨tg,iter,ifs,0⟩] sc pos) sc X.env cpos (newList []) false (eval iter X.env) use) Qf X.xe s:=by
 obtain ⟨hk,hlen,hcell,hfreeX,hnames,hat⟩:=kX hix
 obtain ⟨cl,e1,e2,e3⟩:=pb (env:=X.env) (sc:=sc) (fun x hx hf=>I.ok.has x.1 (hfreeX x hx hf))
 refine wpAny_comprehension_free (use:=use) (cl:=cl) rfl hs e1 hk hnames (bK (hi pins s σ H _ I h) fun v s1 h1=>bK h1 fun itv s2 h2=>?_)
 obtain ⟨it,fp,tn,J,H2,e,I2,T,st2,f2,W,⟨m0,w0⟩,turn⟩:=h2
 subst e
 refine wpAny_newObj_type (wpAny_newFunctionEnv hcell (by intro y hy;simp at hy) (fun h₁ hns₁ hsb₁=>?_) hk)
 dsimp only at hns₁ hsb₁ ⊢
 generalize hH2:s2.heap.push { cls:=.type "list",dict:=none,data:=.seq ([]:List Value).toArray }=G2 at hns₁ hsb₁ ⊢
 have hCs:G2.objs.size=s2.heap.objs.size+1:=by rw [<-hH2,E2]
 have hDC:s2.heap.objs.size≠G2.objs.size:=by rw [hCs];exact Ey (Fs _)
 have hCle:s2.heap.objs.size<=G2.objs.size:=by rw [hCs];exact Nat.le_succ _
 have belowC:∀ b,b < s2.heap.objs.size->b≠G2.objs.size:=fun b hb=>by rw [hCs];exact Ey (Nat.lt_succ_of_lt hb)
 have belowD:∀ b,b < s2.heap.objs.size->b≠s2.heap.objs.size:=fun b hb=>Ey hb
 have old:∀ b o,s2.heap.get? b=some o->h₁.get? b=some o:=fun b o e=>hsb₁.extBut b o (belowC b (Ef e)) (D6 _ (hH2 ▸ D6 _ e))
 have hacc:h₁.get? s2.heap.objs.size=some { cls:=.type "list",data:=.seq ([]:List Value).toArray }:=hsb₁.extBut _ _ hDC (D6 _ (hH2 ▸ Em _ rfl))
 have fo:∀ b∈fp,∃ o,s2.heap.get? b=some o:=fun b hb=>let ⟨o,ho,_⟩:=T.obj _ _ st2 b hb;⟨o,ho⟩
 have fD:∀ b∈fp,b≠s2.heap.objs.size:=fun b hb=>let ⟨o,ho⟩:=fo b hb;belowD b (Ef ho)
 have ok':(kF X sc N' G2.objs.size cl s2 H2 fp).Ok:=zw I2 hix e2 e3 f2 fo hCle
 have HD:H2 s2.heap.objs.size=none:=I2.hok.fresh (Ec _)
 have HC:H2 G2.objs.size=none:=I2.hok.fresh hCle
 have I4:Inv (kF X sc N' G2.objs.size cl s2 H2 fp) [] (kY ix σ) H2 { s2 with heap:=h₁,toks:=s2.toks+([]:List (Str×Value)).length }:=by
  refine ⟨ok',rfl,I2.bare,Un.kept old,⟨_,hns₁,fun j x v a b c=>?_⟩,fun x c q=>?_,HC,fun x c q=>I2.freeC x c (e2 x c q),fun p hp=>(by cases hp),I2.hok.kept old,?_⟩
  ·
   have a':N'[j]?=some x:=a
   have b':(ix.map fun o=>match o with|some i=>(σ[i]?).getD none|none=>none)[j]?=some (some v):=b
   rw [Eb] at b'
   cases q:ix[j]? with
   | none=>rw [q] at b';cases b'
   | some o=>
    rw [q] at b'
    cases o with
    | none=>cases b'
    | some i=>
     obtain ⟨n1,n2⟩:=hat j i x q a'
     have b'':(σ[i]?).getD none=some v:=Eg b'
     have sv:σ[i]?=some (some v):=by
      cases z:σ[i]? with
      | none=>rw [z] at b'';cases b''
      | some y=>rw [z] at b'';exact congrArg some b''
     obtain ⟨m,hn,hl⟩:=I2.loc
     have kx:=hfreeX (x,.free) (eE n2) rfl
     obtain ⟨u,r,lk⟩:=hl i x v n1 sv (.inr kx)
     refine ⟨u,r,.inr ⟨?_,?_⟩⟩
     ·show (compEnvC sc cl G2.objs.size X.env).kindOf x=some .cell\/(compEnvC sc cl G2.objs.size X.env).kindOf x=some .free
      rw [jM,n2]
      show some (ma X.env x .free)=some .cell\/some (ma X.env x .free)=some .free
      unfold ma
      split
      ·exact .inl rfl
      ·exact .inr rfl
     ·obtain ⟨c1,hc1⟩:=e3 (x,.free) (eE n2) rfl
      refine ⟨c1,hc1,?_⟩
      have hc2:=e2 x c1 hc1
      rcases lk with ⟨z,_⟩|⟨_,c,hcc,hcl⟩
      ·have z':X.env.scope.names.lookup x=some .local:=z
       rcases kx with y|y<;>(rw [y] at z';cases z')
      ·rw [hc2] at hcc;cases hcc
       obtain ⟨o,ho,hd⟩:=hcl
       exact ⟨o,old c1 o ho,hd⟩
  ·obtain ⟨v,o,ho,hd⟩:=I2.cell x c (e2 x c q)
   exact ⟨v,o,old c o ho,hd⟩
  ·show (ix.map _).length=N'.length
   rw [D5,hlen]
 have cellD:∀ x c,cl.lookup x=some c->c≠s2.heap.objs.size:=fun x c q z=>by
  obtain ⟨v,o,ho,hd⟩:=I2.cell x c (e2 x c q)
  exact belowD c (Ef ho) z
 have loop:∀ s₃:Shared,s₃={ s2 with heap:=h₁,toks:=s2.toks+([]:List (Str×Value)).length }->
   codeAny (model X.prog X.w) X.A (.compLoop (.ListComp elt [⟨tg,iter,ifs,0⟩] sc pos) 0 (.ref it) (.ref s2.heap.objs.size) (compEnvC sc cl G2.objs.size X.env))
    (compPost (model X.prog X.w) X.A X.xe use Qf (.ref s2.heap.objs.size) G2.objs.size) s₃:=by
  rintro s₃ rfl
  refine codeAny_loop rfl (fun n s'=>∃ i ys H' its k,Inv (kF X sc N' G2.objs.size cl s2 H2 fp) [] (kY ix σ) H' s'/\tn i s'.heap/\(∀ b∈fp,H' b=none)/\H' s2.heap.objs.size=none /\
   Vals ys its/\s'.heap.get? s2.heap.objs.size=some { cls:=.type "list",data:=.seq its.toArray k }/\W i n ys H') ?_ m0
   ⟨0,[],H2,[],_,I4,T.keep _ _ _ st2 (fun b _ o e=>old b o e),fun b hb=>(f2 b hb).1,HD,.nil,hacc,w0⟩
  rintro n s5 ⟨i,ys,H5,its,k,I5,st5,fr5,hD5,vv,oD,w5⟩
  show wpAny _ X.A ((compTurn (.ListComp elt [⟨tg,iter,ifs,0⟩] sc pos) 0 (.ref it) (.ref s2.heap.objs.size) (compEnvC sc cl G2.objs.size X.env)).onRaise (fun x=>do noteFrame x (compEnvC sc cl G2.objs.size X.env);theTreesLotGoes x)) _ _ s5
  refine wpAny_noted ?_
  rw [compTurn_list]
  have I5p:Inv (kF X sc N' G2.objs.size cl s2 H2 fp) [(s2.heap.objs.size,{ cls:=.type "list",data:=.seq its.toArray k })] (kY ix σ) H5 s5:=I5.pins_of fun p hp=>by
   have hp':p=(s2.heap.objs.size,{ cls:=.type "list",data:=.seq its.toArray k }):=by simpa using hp
   subst hp'
   refine ⟨oD,hD5,hDC,fun hb=>?_,fun v z=>(by cases z)⟩
   obtain ⟨_,o,ho,_⟩:=I2.stack.mem (show s2.heap.objs.size∈lP X.stack from hb)
   exact E7 _ (Ef ho)
  have fpk:∀ {H':Hp},(∀ b∈fp,H' b=none)->∀ b∈fp,kC (kF X sc N' G2.objs.size cl s2 H2 fp) [(s2.heap.objs.size,({ cls:=.type "list",data:=.seq its.toArray k }:Obj))] H' b:=fun {H'} hn b hb=>by
   refine ⟨hn b hb,(ok'.exf b hb).1,ok'.exfs b hb,.inl hb,(ok'.exf b hb).2,fun p hp=>?_⟩
   have hp':p=(s2.heap.objs.size,({ cls:=.type "list",data:=.seq its.toArray k }:Obj)):=by
    have z:p∈([]:List (Addr×Obj))++[(s2.heap.objs.size,({ cls:=.type "list",data:=.seq its.toArray k }:Obj))]:=hp
    simpa using z
   subst hp'
   exact (fD b hb).symm
  rcases turn i n ys H5 w5 with ⟨stop,hz,qn⟩|⟨go,hz,step⟩
  ·refine wpAny_bind (wpAny_standAt (wpAny_bind (wpAny_mono (T.done (kF X sc N' G2.objs.size cl s2 H2 fp) rfl rfl rfl hc i _ s5 (kY ix σ) H5 (fun _ _=>False) I5p (fpk fr5) st5 stop) (fun r s6 ⟨hr,I6⟩=>?_) fun _ _ f=>f.elim)))
   subst hr
   refine wpAny_pure ?_
   obtain ⟨m,hn,_⟩:=I6.loc
   have oD6:s6.heap.get? s2.heap.objs.size=some { cls:=.type "list",data:=.seq its.toArray k }:=(I6.pin (s2.heap.objs.size,{ cls:=.type "list",data:=.seq its.toArray k }) (by show _∈([]:List (Addr×Obj))++_;simp)).1
   have u6:Un (lP X.stack) fp H2 H5 s2.heap s6.heap:=I6.base
   have HC5:H5 G2.objs.size=none:=I6.free
   refine hend _ _ (ax H5 s2.heap.objs.size (.lst ys)) s6 ⟨?_,⟨m,hn⟩,by rw [ao hDC.symm];exact HC5,(belowC _ I2.lt).symm,fun x c q=>?_,Ew I2.sz hCle,fun p hp=>?_⟩ (qn _ hD5)
   ·refine I2.call' (s':=s6) (ch:=fp) I6.os ?_ ?_ I6.bare fun b hb=>⟨(f2 b hb).2.2.2.1,(f2 b hb).2.1,(f2 b hb).2.2.2.2.1,(f2 b hb).2.2.2.2.2⟩
    ·refine ⟨fun b o e n nf nx=>u6.keep b o e n nf nx,fun b o e n nf nx=>u6.slot b o e n nf nx,fun b o e n nx=>?_,fun b o e nx=>u6.there b o e nx,fun b xs e=>?_,fun b o u e=>?_,fun b ps e=>?_⟩
     ·rw [ao (belowD b (Ef e))];exact u6.free b o e n nx
     ·rw [ao (aG e HD)];exact u6.tups b xs e
     ·rw [ao (aG e HD)];exact u6.frzs b o u e
     ·rw [ao (aG e HD)];exact u6.tbls b ps e
    ·intro b o e
     by_cases hb:b=s2.heap.objs.size
     ·subst hb
      rw [ad] at e;cases e
      exact ⟨hz,its,k,vv,oD6⟩
     ·rw [ao hb] at e
      refine (I6.hok b o e).stay (fun c v hcc q=>q) (fun c q=>?_) fun c xs q=>?_
      ·rw [ao (aG q hD5)];exact q
      ·rw [ao (aG q hD5)];exact q
   ·obtain ⟨v,o,ho,hd⟩:=I2.cell x c q
    exact belowC c (Ef ho)
   ·exact belowC p.1 (Ef (I2.pin p hp).1)
  ·refine wpAny_bind (wpAny_standAt (wpAny_bind (wpAny_mono (T.item (kF X sc N' G2.objs.size cl s2 H2 fp) rfl rfl rfl hc i _ s5 (kY ix σ) H5 (fun _ _=>False) I5p (fpk fr5) st5 go) (fun r s6 ⟨u,hr,h6⟩=>?_) fun _ _ f=>f.elim)))
   subst hr
   refine wpAny_bind (wpAny_mono h6 (fun _ s7 ⟨x,H7,I7,r7,y7,st7,fr7⟩=>?_) fun _ _ f=>f.elim)
   have I7':=I7.pinned (fpk fr7) (T.obj _ _ st7)
   refine wpAny_bind (wpAny_mono (hg _ _ _ _ _ _ s7 (kY ix σ) H7 x u _ I7' r7 (step x H7 y7)) (fun _ s8 ⟨σ8,H8,I8,x8,q8⟩=>?_) fun _ _ f=>f.elim)
   obtain ⟨xl,xv⟩:=x8.spec
   have keepT:∀ {σ9:St} {H9:Hp} {s9:Shared} {pl:List (Addr×Obj)},(∀ p∈eJ fp s7.heap,p∈pl)->Inv (kF X sc N' G2.objs.size cl s2 H2 fp) pl σ9 H9 s9->tn (i+1) s9.heap/\∀ b∈fp,H9 b=none:=fun {σ9 H9 s9 pl} hp I9=>by
    have pn:∀ b o,b∈fp->s7.heap.get? b=some o->s9.heap.get? b=some o/\H9 b=none:=fun b o hb e=>by
     have:=I9.pin (b,o) (EH _ (hp _ (hZ hb e)))
     exact ⟨this.1,this.2.1⟩
    refine ⟨T.keep _ _ _ st7 fun b hb o e=>(pn b o hb e).1,fun b hb=>?_⟩
    obtain ⟨o,e,_⟩:=T.obj _ _ st7 b hb
    exact (pn b o hb e).2
   refine wpAny_bind (wpAny_mono (hf _ _ _ _ _ _ s8 σ8 H8 _ I8 q8) (fun ok s9 ⟨H9,I9,q9⟩=>?_) fun _ _ f=>f.elim)
   have pD:∀ {σ9:St} {H9:Hp} {s9:Shared},Inv (kF X sc N' G2.objs.size cl s2 H2 fp) ([(s2.heap.objs.size,({ cls:=.type "list",data:=.seq its.toArray k }:Obj))]++eJ fp s7.heap) σ9 H9 s9->
     s9.heap.get? s2.heap.objs.size=some { cls:=.type "list",data:=.seq its.toArray k }/\H9 s2.heap.objs.size=none:=fun {σ9 H9 s9} I9=>by
    have:=I9.pin (s2.heap.objs.size,{ cls:=.type "list",data:=.seq its.toArray k }) (EH _ (Fj _ (by simp)))
    exact ⟨this.1,this.2.1⟩
   cases ok with
   | false=>
    obtain ⟨m',hm,w9⟩:=(show ∃ m',m' < n/\W (i+1) m' ys H9 from by simpa using q9)
    obtain ⟨t9,fr9⟩:=keepT (fun p hp=>EH _ hp) I9
    obtain ⟨oD9,hD9⟩:=pD I9
    refine wpAny_pure ⟨rfl,m',hm,i+1,ys,H9,its,k,(I9.pins_of (pins':=[]) fun p hp=>nomatch hp).weak xl xv,t9,fr9,hD9,vv,oD9,w9⟩
   | true=>
    have q9':te σ8 H9 fun y H4=>∃ m',m' < n/\W (i+1) m' (ys++[y]) H4:=by simpa using q9
    refine wpAny_bind (wpAny_bind (wpAny_mono (he _ _ _ _ _ _ s9 σ8 H9 _ I9 q9') (fun yv sA ⟨y,HA,IA,rA,m',hm,wA⟩=>?_) fun _ _ f=>f.elim))
    obtain ⟨oDA,hDA⟩:=pD IA
    have hsz:its.toArray.size<=sizeLine:=by rw [En,<-vv.length];exact hz
    refine wpAny_bind (wpAny_list_append_plain (hsz:=hsz) ⟨_,oDA⟩ fun h9 pl9 sb9=>?_)
    have IB:Inv (kF X sc N' G2.objs.size cl s2 H2 fp) (eJ fp s7.heap) σ8 HA sA:=IA.pins_of fun p hp=>IA.pin p (EH _ (EH _ hp))
    have IC:Inv (kF X sc N' G2.objs.size cl s2 H2 fp) (eJ fp s7.heap) σ8 HA { sA with heap:=h9 }:=IB.turned (it:=s2.heap.objs.size) (t':=sA.toks) (fun b o hb e=>(sb9.2 b hb).trans e) hDA hDC (.inr (Ec _)) (fun x c q=>cellD x c q) fun p hp=>by
     have hp':p∈eJ fp s7.heap:=by
      have z:p∈([]:List (Addr×Obj))++eJ fp s7.heap:=hp
      simpa using z
     exact fD p.1 (kL hp').1
    obtain ⟨t9,fr9⟩:=keepT (fun p hp=>hp) IC
    obtain ⟨k',oD'⟩:=pl9
    refine wpAny_pure (wpAny_pure ⟨rfl,m',hm,i+1,ys++[y],HA,its++[yv],k',(IC.pins_of (pins':=[]) fun p hp=>nomatch hp).weak xl xv,t9,fr9,hDA,vv.append (.cons rA .nil),?_,wA⟩)
    show h9.get? s2.heap.objs.size=_
    rw [oD']
    simp
 exact codeAny_compStart_list (loop _ rfl) (T.self X.A 0 _ _ _ (T.keep _ _ _ st2 (fun b _ o e=>old b o e)) (loop _ rfl))
theorem eG (hc:X.calm=true) (hix:sh N sc0 sc N' ix=true) (hi:PI X tg iter wi)
  (hg:∀ C cl s H fp,PG (kF X sc N' C cl s H fp) tg g) (hf:∀ C cl s H fp,PF (kF X sc N' C cl s H fp) ifs tf) (he:∀ C cl s H fp,PE (kF X sc N' C cl s H fp) elt te)
  (eN:X.N=N:=by rfl) (eS:X.env.scope=sc0:=by rfl) (hs:∀ x,foldedSetIterable iter X.env x=pure x:=by intro _;rfl) :
  PE X (.ListComp elt [⟨tg,iter,ifs,0⟩] sc pos) (CY wi g tf te ix):=by
 refine ⟨?_⟩
 intro pins s σ H Q I h
 subst eN eS
 rw [eval_ListComp]
 refine qC (use:=none) hc hix hi hg hf he hs I h fun C D H' s' L q=>?_
 obtain ⟨m,hn⟩:=L.ns
 exact ⟨m,hn,fun h' sb=>⟨.ref D,H',L.gone sb,rfl,q⟩⟩
def zx (i:Nat) (t:TE):TS:=fun D σ H=>t σ H fun v H1=>D.nx (σ.set i (some v)) H1
theorem eZ {i:Nat} {y:Str} {py spos:Pos} (hN:X.N.Nodup) (hiy:X.N[i]?=some y) (hy:X.env.scope.names.lookup y=some .local) (hc:X.calm=true) (hix:sh N sc0 sc N' ix=true) (hi:PI X tg iter wi)
  (hg:∀ C cl s H fp,PG (kF X sc N' C cl s H fp) tg g) (hf:∀ C cl s H fp,PF (kF X sc N' C cl s H fp) ifs tf) (he:∀ C cl s H fp,PE (kF X sc N' C cl s H fp) elt te)
  (eN:X.N=N:=by rfl) (eS:X.env.scope=sc0:=by rfl) (hs:∀ x,foldedSetIterable iter X.env x=pure x:=by intro _;rfl)
  (hsw:swapsWith (.ListComp elt [⟨tg,iter,ifs,0⟩] sc pos) (some (.Name y py)) spos.line X.env=pure true:=by rfl) :
  PS X (.Assign [.Name y py] (.ListComp elt [⟨tg,iter,ifs,0⟩] sc pos) spos) (zx i (CY wi g tf te ix)):=by
 refine ⟨?_⟩
 intro pins s σ H Dn I h
 subst eN eS
 rw [exec_Assign_Name_used _ _ _ _ hsw]
 refine wpAny_bind (wpAny_standAt (wpAny_bind ?_))
 show wpAny _ X.A (do let _ <-comprehension (.ListComp elt [⟨tg,iter,ifs,0⟩] sc pos) sc X.env _ (newList []) false (eval iter X.env) (some (assign (.Name y py) X.env))) _ _ s
 refine wpAny_bind (wpAny_mono (qC (use:=some (assign (.Name y py) X.env)) (Qf:=fun _ s'=>SP X pins Dn .next s') hc hix hi hg hf he hs I h fun C D H' s' L q=>?_) (fun _ s' hq=>wpAny_pure (wpAny_pure hq)) fun _ _ e=>e)
 show wpAny _ X.A (assign (.Name y py) X.env (.ref D)) _ _ s'
 refine wpAny_assign_Name (kK L.inv hN hiy (.inl hy) (v:=.ref D) rfl (fun s1 I1 hsb=>?_) (.inr hy))
 obtain ⟨a,sb,ha⟩:=hsb
 have haC:C≠a:=by
  rcases ha with z|z
  ·rw [z];exact L.loc
  ·exact (L.cel y a z).symm
 obtain ⟨m,hn⟩:=L.ns
 have L1:LcEnd X pins (σ.set i (some (.ref D))) H' s1 C:=⟨I1,⟨m,hn.sameBut sb haC⟩,L.free,L.loc,L.cel,L.abv,L.pin⟩
 exact ⟨m,hn.sameBut sb haC,fun h' sb'=>⟨_,H',L1.gone sb',q⟩⟩
end
end L2
namespace L2
open PySem
def Nx (Pv:Nat->List V->Hp->Prop) (n i:Nat) (ys:List V) (H:Hp):Prop:=∃ m',m' < n - i/\(m'=n - (i+1)/\i+1<=n/\Pv (i+1) ys H)
theorem Nx.mk {Pv:Nat->List V->Hp->Prop} {n i:Nat} {ys:List V} {H:Hp} (h:i < n) (p:Pv (i+1) ys H):Nx Pv n i ys H:=⟨n - (i+1),by omega,rfl,h,p⟩
theorem gM {K:PySem.W.Frag} {a:Addr} {xs:List V} {g:TG} {tf:TT} {te:TE} {ix:List (Option Nat)} {σ:St} {H:Hp} {Q:VK} (Pv:Nat->List V->Hp->Prop) (h0:Pv 0 [] H)
  (hl:∀ i ys H,i<=xs.length->Pv i ys H->SqL K H a xs/\ys.length<=sizeLine)
  (hs:∀ i x ys H,xs[i]?=some x->Pv i ys H->g x (kY ix σ) H fun σ2 H2=>ExtL (kY ix σ) σ2/\tf σ2 H2 fun b H3=>if b=true then te σ2 H3 fun y H4=>Nx Pv xs.length i (ys++[y]) H4 else Nx Pv xs.length i ys H3)
  (hd:∀ ys H,Pv xs.length ys H->∀ D,H D=none->Q (.ref D) (ax H D (.lst ys))) :
  pc (AK K a) g tf te ix σ H Q:=by
 refine ⟨fun i m ys H=>m=xs.length - i/\i<=xs.length/\Pv i ys H,⟨xs.length,by simp,EM _,h0⟩,?_⟩
 rintro i m ys H ⟨rfl,hi,p⟩
 obtain ⟨q,hz⟩:=hl i ys H hi p
 by_cases hlt:i < xs.length
 ·refine .inr ⟨⟨xs,xs[i],q,by simp [hlt]⟩,hz,fun x H' y=>?_⟩
  obtain ⟨e,y⟩:=y
  subst e
  exact hs i x ys _ (y xs q) p
 ·have e:i=xs.length:=by omega
  subst e
  exact .inl ⟨⟨xs,q,Ec _⟩,hz,hd ys H p⟩
theorem nJ {lo:Int} {n:Nat} {g:TG} {tf:TT} {te:TE} {ix:List (Option Nat)} {σ:St} {H:Hp} {Q:VK} (Pv:Nat->List V->Hp->Prop) (h0:Pv 0 [] H)
  (hl:∀ i ys H,i<=n->Pv i ys H->ys.length<=sizeLine)
  (hs:∀ i ys H,i < n->Pv i ys H->g (.int (lo+i)) (kY ix σ) H fun σ2 H2=>ExtL (kY ix σ) σ2/\tf σ2 H2 fun b H3=>if b=true then te σ2 H3 fun y H4=>Nx Pv n i (ys++[y]) H4 else Nx Pv n i ys H3)
  (hd:∀ ys H,Pv n ys H->∀ D,H D=none->Q (.ref D) (ax H D (.lst ys))) :
  pc (yE lo n) g tf te ix σ H Q:=by
 refine ⟨fun i m ys H=>m=n - i/\i<=n/\Pv i ys H,⟨n,by simp,EM _,h0⟩,?_⟩
 rintro i m ys H ⟨rfl,hi,p⟩
 have hz:=hl i ys H hi p
 by_cases hlt:i < n
 ·refine .inr ⟨hlt,hz,fun x H' y=>?_⟩
  obtain ⟨e,y⟩:=y
  subst e y
  exact hs i ys _ hlt p
 ·have e:i=n:=by omega
  subst e
  exact .inl ⟨Ec _,hz,hd ys H p⟩
theorem c9 {σ:St} {H:Hp} {A B:Hp->Prop} (h:A H):Bn σ H fun b H3=>if b=true then A H3 else B H3:=by
 show if true=true then A H else B H
 rw [if_pos rfl]
 exact h
end L2
namespace L2
open PySem PySem.Spec PyProof.Rows
mutual
inductive Dt (K:PySem.W.Frag) (H:Hp):V->PyData->Prop
 | non:Dt K H .non .none
 | bl (b:Bool):Dt K H (.bl b) (.bool b)
 | int (i:Int):Dt K H (.int i) (.int i)
 | str (x:Str):Dt K H (.str x) (.str x)
 | lst {a:Addr} {xs:List V} {ds:List PyData}:SqL K H a xs->DtAll K H xs ds->Dt K H (.ref a) (.list ds)
 | tup {a:Addr} {xs:List V} {ds:List PyData}:SqT K H a xs->DtAll K H xs ds->Dt K H (.ref a) (.tuple ds)
inductive DtAll (K:PySem.W.Frag) (H:Hp):List V->List PyData->Prop
 | nil:DtAll K H [] []
 | cons {v:V} {d:PyData} {vs:List V} {ds:List PyData}:Dt K H v d->DtAll K H vs ds->DtAll K H (v::vs) (d::ds)
end
section
variable {X:Cx} {pins:List (Addr×Obj)} {σ:St} {H:Hp} {s:Shared}
mutual
theorem Dt.reads (I:Inv X pins σ H s):∀ {v:V} {d:PyData} {u:Value},Dt X.K H v d->RelV v u->∃ as,Reads s.heap u d as
 | _,_,_,.non,r=>by cases r;exact ⟨_,.none⟩
 | _,_,_,.bl b,r=>by cases r;exact ⟨_,.bool b⟩
 | _,_,_,.int i,r=>by obtain ⟨t,rfl⟩:=r;exact ⟨_,.int i t⟩
 | _,_,_,.str x,r=>by obtain ⟨t,rfl⟩:=r;exact ⟨_,.str x t⟩
 | _,_,_,.lst hS hA,r=>by
  cases r
  obtain ⟨its,rv,⟨o,n,e,c,dd,hd⟩,hz⟩:=I.list hS
  obtain ⟨as,ha⟩:=DtAll.reads I hA rv
  first
   | exact ⟨_,.list e c hd (by simpa using ha)⟩
   | exact ⟨_,.list e c dd (by simpa using ha)⟩
 | _,_,_,.tup hS hA,r=>by
  cases r
  obtain ⟨its,rv,⟨o,e,c,n,hd⟩,hz⟩:=I.tuple hS
  obtain ⟨as,ha⟩:=DtAll.reads I hA rv
  exact ⟨_,.tuple e c hd (by simpa using ha)⟩
theorem DtAll.reads (I:Inv X pins σ H s):∀ {vs:List V} {ds:List PyData} {us:List Value},DtAll X.K H vs ds->Vals vs us->∃ as,ReadsAll s.heap us ds as
 | _,_,_,.nil,.nil=>⟨_,.nil⟩
 | _,_,_,.cons h t,.cons r rr=>by
  obtain ⟨a1,h1⟩:=Dt.reads I h r
  obtain ⟨a2,h2⟩:=DtAll.reads I t rr
  exact ⟨_,.cons h1 h2⟩
end
end
section
variable {X:Cx}
inductive rEqD (K:PySem.W.Frag) (x:V) (y:V) (H:Hp) (Q:VK):Prop
 | mk (dx dy:_):Dt K H x dx->Dt K H y dy->dx.canLay0=true->dy.canLay0=true->min dx.depth dy.depth<=60->Q (.bl (PyData.eqv dx dy)) H->rEqD K x y H Q
inductive rNeD (K:PySem.W.Frag) (x:V) (y:V) (H:Hp) (Q:VK):Prop
 | mk (dx dy:_):Dt K H x dx->Dt K H y dy->dx.canLay0=true->dy.canLay0=true->min dx.depth dy.depth<=60->Q (.bl (!PyData.eqv dx dy)) H->rNeD K x y H Q
theorem op_eqD {k:Nat} (hr:Room k X.A):fN X (compareOp .Eq) (rEqD X.K):=by
 intro pins s σ H x y v u Q I rx ry h
 obtain ⟨dx,dy,h1,h2,c1,c2,dp,q⟩:=h
 obtain ⟨as,ra⟩:=h1.reads I rx
 obtain ⟨bs,rb⟩:=h2.reads I ry
 exact SeqAt.compareEq_reads ra rb c1 c2 (by have:=hr.un;omega) ⟨.bl _,H,I,rfl,q⟩
theorem op_neD {k:Nat} (hr:Room k X.A):fN X (compareOp .NotEq) (rNeD X.K):=by
 intro pins s σ H x y v u Q I rx ry h
 obtain ⟨dx,dy,h1,h2,c1,c2,dp,q⟩:=h
 obtain ⟨as,ra⟩:=h1.reads I rx
 obtain ⟨bs,rb⟩:=h2.reads I ry
 exact SeqAt.compareNe_reads ra rb c1 c2 (by have:=hr.un;omega) ⟨.bl _,H,I,rfl,q⟩
end
end L2
namespace L2
open PySem PySem.Spec PyProof.Rows
theorem Inv.turnedS {X:Cx} {pins:List (Addr×Obj)} {σ:St} {H H':Hp} {s:Shared} {h':Heap} {t':Nat} {ch:List Addr} (I:Inv X pins σ H s) (hf:∀ b∈ch,kC X pins H b)
  (k:∀ b o,b∉ch->s.heap.get? b=some o->h'.get? b=some o) (hH:∀ b o,H b=some o->H' b=some o) (hN:∀ b,b < s.heap.objs.size->H b=none->H' b=none)
  (new:∀ b o,H b=none->H' b=some o->ObjOk X.prog X.w H' h' b o):Inv X pins σ H' { s with heap:=h',toks:=t' }:=by
 refine I.step (g':=s.gens) (d':=s.drawn) (ch:=ch) (fun b hb=>?_) (fun b o _ _ hc e _=>k b o hc e) (fun b o _ _ hc e _=>⟨o.slots,k b o hc e⟩) (fun b o _ e n=>hN b (Ef e) n)
  (fun b o hc e=>⟨o,k b o hc e⟩) (fun b xs e=>hH b _ e) (fun b o u e=>hH b _ e) (fun b ps e=>⟨#[],by rw [hH b _ e];simp⟩) (fun m hm=>?_) (fun b u e=>?_) I.bare
 ·obtain ⟨_,f1,_,f3,f4,f5⟩:=hf b hb
  exact ⟨f3,f1,f4,f5⟩
 ·obtain ⟨o,es,ep,ho,r⟩:=hm
  exact ⟨o,es,ep,k _ o (fun z=>(hf _ z).2.1 rfl) ho,r⟩
 ·cases q:H b with
  | none=>exact new b u q e
  | some v=>
   rw [hH b v q] at e
   cases e
   refine (I.hok b u q).stay (fun c v hc q'=>k c v (fun z=>?_) q') (fun c q'=>hH c _ q') fun c xs q'=>hH c _ q'
   have n:=(hf c z).1
   rcases hc with rfl|hc
   ·rw [q] at n;cases n
   ·rw [hc] at n;cases n
section
variable {X:Cx}
theorem nK:bootBuiltins "zip"=some (.type "zip"):=by decide +kernel
end
end L2
namespace L2
open PySem PySem.Spec PyProof.Rows
section
variable {X:Cx}
theorem gi {x:Str} {n:String} {pos:Pos} (hg:Gl X x) (hm:X.mg x=none) (hv:bootBuiltins x=some (.type n)) (hn:x≠"__name__":=by decide) (hd:(x == ("__debug__":Str))=false:=by decide):PE X (.Name x pos) (tC (.ty n)):=
 wW hg hm hv rfl hn hd
open PySem.Builtin.Str in
def kZ (x y:Str):List Str:=partsBetween x (occurrences x y 0 x.length (x.length+1)) y.length
theorem k7:∀ (l:List (Str×Tok)),Vals ((l.map (·.1)).map V.str) (strValues l)
 | []=>.nil
 | p::r=>.cons ⟨p.2,rfl⟩ (k7 r)
end
end L2
namespace TK
def fJ (c:Nat):Bool:=c == 32 || c == 10
def du (c:Nat):Bool:=[40,41,123,125,91,93,44,59,43,45,38,124,94,60,61].contains c
def iN:List Nat->Nat
 | []=>0
 | [c]=>if du c then 1 else 0
 | c::d::_=>if (c == 60 && d == 60) || (c == 62 && d == 62) then 2 else if du c then 1 else 0
def run:List Nat->Nat
 | []=>0
 | c::r=>if fJ c || iN (c::r) != 0 then 0 else 1+run r
theorem fh (c:Nat):iN [c]=if du c=true then 1 else 0:=rfl
theorem dR (c d:Nat) (r:List Nat):iN (c::d::r)=if ((c == 60 && d == 60) || (c == 62 && d == 62))=true then 2 else if du c=true then 1 else 0:=rfl
theorem cu (c:Nat) (r:List Nat):run (c::r)=if (fJ c || iN (c::r) != 0)=true then 0 else 1+run r:=by rw [run]
theorem mh (l:List Nat):iN l<=l.length:=by
 match l with
 | []=>simp [iN]
 | [c]=>rw [fh];split<;>simp
 | c::d::r=>rw [dR];split<;>(try split)<;>simp
theorem mi:∀ l:List Nat,run l<=l.length
 | []=>by simp [run]
 | c::r=>by
  have:=mi r
  rw [cu]
  split<;>simp<;>omega
def one (l:List Nat):Nat:=if iN l=0 then run l else iN l
theorem jo {c:Nat} {r:List Nat} (h:fJ c=false):0 < one (c::r):=by
 unfold one
 by_cases e:iN (c::r)=0
 ·rw [if_pos e]
  rw [cu,h,e]
  simp
  omega
 ·rw [if_neg e];omega
theorem zy (l:List Nat):one l<=l.length:=by
 unfold one
 split
 ·exact mi l
 ·exact mh l
def jb:Nat->List Nat->List (List Nat)
 | 0,_=>[]
 | _,[]=>[]
 | n+1,c::r=>if fJ c then jb n r else (c::r).take (one (c::r))::jb n ((c::r).drop (one (c::r)))
theorem ie:∀ (n m:Nat) (l:List Nat),l.length<=n->l.length<=m->jb n l=jb m l
 | 0,0,_,_,_=>rfl
 | 0,m+1,l,h,_=>by
  have:l=[]:=Ff.mp (by omega)
  subst this;rfl
 | n+1,0,l,_,h=>by
  have:l=[]:=Ff.mp (by omega)
  subst this;rfl
 | n+1,m+1,[],_,_=>rfl
 | n+1,m+1,c::r,h1,h2=>by
  simp only [D8] at h1 h2
  unfold jb
  by_cases g:fJ c=true
  ·rw [if_pos g,if_pos g]
   exact ie n m r (by omega) (by omega)
  ·rw [if_neg g,if_neg g]
   have p:=jo (r:=r) (by simpa using g)
   rw [ie n m _ (by rw [EF,D8];omega) (by rw [EF,D8];omega)]
def toks (l:List Nat):List (List Nat):=jb l.length l
theorem uB:toks []=[]:=rfl
theorem nM {c:Nat} {r:List Nat} (h:fJ c=true):toks (c::r)=toks r:=by
 unfold toks
 rw [D8]
 show (if fJ c then jb r.length r else _)=_
 rw [if_pos h]
theorem nN {c:Nat} {r:List Nat} (h:fJ c=false):toks (c::r)=(c::r).take (one (c::r))::toks ((c::r).drop (one (c::r))):=by
 unfold toks
 rw [D8]
 show (if fJ c then _ else (c::r).take (one (c::r))::jb r.length ((c::r).drop (one (c::r))))=_
 rw [if_neg (by rw [h];decide)]
 have p:=jo (r:=r) h
 rw [ie r.length _ _ (by rw [EF,D8];omega) (Ec _)]
structure Tok (t:List Nat):Prop where
 cut:∀ s:List Nat,(s=[]\/∃ c r,s=c::r/\fJ c=true)->one (t++s)=t.length
 ne:t≠[]
 ng:∀ c∈t,fJ c=false
theorem nO {t s:List Nat} (h:Tok t) (hs:s=[]\/∃ c r,s=c::r/\fJ c=true):toks (t++s)=t::toks s:=by
 cases t with
 | nil=>exact absurd rfl h.ne
 | cons c r=>
  have g:=h.ng c Ea
  have e:=h.cut s hs
  rw [E8] at e ⊢
  rw [nN g,e]
  have e1:(c::(r++s)).take (c::r).length=c::r:=by rw [<-E8,List.take_left'];rfl
  have e2:(c::(r++s)).drop (c::r).length=s:=by rw [<-E8,List.drop_left'];rfl
  rw [e1,e2]
theorem qD:∀ (l s:List Nat),(s=[]\/∃ c r,s=c::r/\fJ c=true)->run (l.take (run l)++s)=run l
 | [],s,hs=>by
  rcases hs with rfl|⟨c,r,rfl,g⟩
  ·rfl
  ·show run (c::r)=0
   rw [cu,g];simp
 | c::r,s,hs=>by
  by_cases q:(fJ c || iN (c::r) != 0)=true
  ·have e:run (c::r)=0:=by rw [cu,if_pos q]
   rw [e]
   rcases hs with rfl|⟨d,r',rfl,g⟩
   ·rfl
   ·show run (d::r')=0
    rw [cu,g];simp
  ·have e:run (c::r)=1+run r:=by rw [cu,if_neg q]
   rw [e,Nat.add_comm 1,List.take_succ_cons,E8]
   have ih:=qD r s hs
   simp at q
   obtain ⟨qg,qs⟩:=q
   have q2:(fJ c || iN (c::(r.take (run r)++s)) != 0)=false:=by
    rw [qg]
    simp
    have sc:du c=false:=by
     cases r with
     | nil=>
      rw [fh] at qs
      split at qs
      ·cases qs
      ·rename_i nn;simpa using nn
     | cons d r2=>
      rw [dR] at qs
      split at qs
      ·cases qs
      ·split at qs
       ·cases qs
       ·rename_i nn;simpa using nn
    cases hh:r.take (run r)++s with
    | nil=>rw [fh,sc];rfl
    | cons d r2=>
     rw [dR,sc]
     have nd:((c == 60 && d == 60) || (c == 62 && d == 62))=false:=by
      cases r with
      | nil=>
       rw [List.take_nil,List.nil_append] at hh
       rcases hs with z|⟨c2,r3,z,g⟩
       ·rw [z] at hh;cases hh
       ·rw [z] at hh
        injection hh with h1 _
        subst h1
        unfold fJ at g
        simp at g
        rcases g with rfl|rfl<;>simp
      | cons d2 r3=>
       by_cases z0:run (d2::r3)=0
       ·rw [z0,List.take_zero,List.nil_append] at hh
        rcases hs with z|⟨c2,r4,z,g⟩
        ·rw [z] at hh;cases hh
        ·rw [z] at hh
         injection hh with h1 _
         subst h1
         unfold fJ at g
         simp at g
         rcases g with rfl|rfl<;>simp
       ·obtain ⟨k,hk⟩:∃ k,run (d2::r3)=k+1:=⟨run (d2::r3) - 1,by omega⟩
        rw [hk,List.take_succ_cons,E8] at hh
        injection hh with h1 _
        subst h1
        rw [dR] at qs
        split at qs
        ·cases qs
        ·rename_i nn
         simpa using nn
     rw [nd]
     rfl
   rw [show run (c::(r.take (run r)++s))=1+run (r.take (run r)++s) by rw [cu,if_neg (by rw [q2];decide)],ih,Nat.add_comm]
theorem uC:∀ (l:List Nat),∀ c∈l.take (run l),fJ c=false
 | [],_,h=>by cases h
 | c::r,d,h=>by
  by_cases q:(fJ c || iN (c::r) != 0)=true
  ·rw [cu,if_pos q] at h;cases h
  ·rw [cu,if_neg q,Nat.add_comm,List.take_succ_cons] at h
   rcases Ej.mp h with z|z
   ·subst z;simp at q;exact q.1
   ·exact uC r d z
theorem sj {c d:Nat} (h:((c == 60 && d == 60) || (c == 62 && d == 62))=true):fJ c=false/\fJ d=false:=by
 simp at h
 rcases h with ⟨rfl,rfl⟩|⟨rfl,rfl⟩<;>exact ⟨rfl,rfl⟩
theorem sk {c d:Nat} (h:fJ d=true):((c == 60 && d == 60) || (c == 62 && d == 62))=false:=by
 unfold fJ at h
 simp at h
 rcases h with rfl|rfl<;>simp
theorem fj {c:Nat} {r:List Nat} (h:fJ c=false):Tok ((c::r).take (one (c::r))):=by
 by_cases e:iN (c::r)=0
 ·have o:one (c::r)=run (c::r):=if_pos e
  have rp:0 < run (c::r):=by rw [<-o];exact jo h
  rw [o]
  refine ⟨fun s hs=>?_,fun z=>?_,uC _⟩
  ·have rc:=qD (c::r) s hs
   have s0:iN ((c::r).take (run (c::r))++s)=0:=by
    cases hh:(c::r).take (run (c::r))++s with
    | nil=>rfl
    | cons d r2=>
     rw [hh,cu] at rc
     split at rc
     ·omega
     ·rename_i nn
      simp at nn
      exact nn.2
   unfold one
   rw [if_pos s0,rc,Eh]
   have:=mi (c::r)
   omega
  ·have:=congrArg List.length z
   rw [Eh] at this
   have:=mi (c::r)
   simp at *
   omega
 ·have o:one (c::r)=iN (c::r):=if_neg e
  rw [o]
  have key:(du c=true/\iN (c::r)=1)\/∃ d r2,r=d::r2/\((c == 60 && d == 60) || (c == 62 && d == 62))=true/\iN (c::r)=2:=by
   cases r with
   | nil=>
    rw [fh] at e ⊢
    split at e
    ·rename_i nn;exact .inl ⟨nn,by rw [if_pos nn]⟩
    ·exact absurd rfl e
   | cons d r2=>
    rw [dR] at e ⊢
    by_cases nn:((c == 60 && d == 60) || (c == 62 && d == 62))=true
    ·exact .inr ⟨d,r2,rfl,nn,by rw [if_pos nn]⟩
    ·rw [if_neg nn] at e ⊢
     by_cases n2:du c=true
     ·exact .inl ⟨n2,by rw [if_pos n2]⟩
     ·rw [if_neg n2] at e;exact absurd rfl e
  rcases key with ⟨sc,se⟩|⟨d,r2,rfl,dd,se⟩
  ·rw [se]
   refine ⟨fun s hs=>?_,by simp,fun x hx=>?_⟩
   ·show one (c::s)=1
    have:iN (c::s)=1:=by
     rcases hs with rfl|⟨d,r2,rfl,g⟩
     ·rw [fh,if_pos sc]
     ·rw [dR,sk g,if_neg (by decide),if_pos sc]
    unfold one
    rw [this];rfl
   ·have:x=c:=by simpa using hx
    rw [this];exact h
  ·rw [se]
   refine ⟨fun s hs=>?_,by simp,fun x hx=>?_⟩
   ·show one (c::d::s)=2
    have:iN (c::d::s)=2:=by rw [dR,if_pos dd]
    unfold one
    rw [this];rfl
   ·have hx':x=c\/x=d:=by simpa using hx
    rcases hx' with z|z
    ·rw [z];exact h
    ·rw [z];exact (sj dd).2
theorem gN:∀ (s l:List Nat),(∀ c∈s,fJ c=true)->toks (s++l)=toks l
 | [],_,_=>rfl
 | c::r,l,h=>by
  rw [E8,nM (h c Ea)]
  exact gN r l fun d hd=>h d (Ee _ hd)
def jn (sep:List Nat):List (List Nat)->List Nat
 | []=>[]
 | [t]=>t
 | t::u::r=>t++(sep++jn sep (u::r))
theorem qE (sep tail:List Nat) (hne:sep≠[]) (hs:∀ c∈sep,fJ c=true) (ht:∀ c∈tail,fJ c=true):∀ ts:List (List Nat),(∀ t∈ts,Tok t)->toks (jn sep ts++tail)=ts
 | [],_=>by
  have:=gN tail [] ht
  rw [ET] at this
  exact this
 | [t],h=>by
  have e:tail=[]\/∃ c r,tail=c::r/\fJ c=true:=by
   cases tail with
   | nil=>exact .inl rfl
   | cons c r=>exact .inr ⟨c,r,rfl,ht c Ea⟩
  show toks (t++tail)=[t]
  rw [nO (h t Ea) e]
  have:=gN tail [] ht
  rw [ET] at this
  rw [this];rfl
 | t::u::r,h=>by
  show toks ((t++(sep++jn sep (u::r)))++tail)=_
  rw [EU,EU]
  have e:sep++(jn sep (u::r)++tail)=[]\/∃ c r',sep++(jn sep (u::r)++tail)=c::r'/\fJ c=true:=by
   cases hsep:sep with
   | nil=>exact absurd hsep hne
   | cons c r'=>exact .inr ⟨c,_,rfl,hs c (by rw [hsep];exact Ea)⟩
  rw [nO (h t Ea) e,gN sep _ hs,qE sep tail hne hs ht (u::r) fun x hx=>h x (Ee _ hx)]
end TK
namespace L2
open PySem PySem.Spec PyProof.Rows
def S (l:List Nat):Str:=⟨l.toArray⟩
theorem aR (l:List Nat):(S l).length=l.length:=by show l.toArray.size=_;simp
theorem S_inj {a b:List Nat}:S a=S b↔a=b:=⟨fun h=>by
 have:(S a).cps.toList=(S b).cps.toList:=by rw [h]
 simpa [S] using this,fun h=>by rw [h]⟩
def fk (l:List Nat) (lo hi:Option Int):List Nat:=(l.drop (HT.sIx l.length 0 lo)).take (HT.sIx l.length l.length hi - HT.sIx l.length 0 lo)
theorem xn (n:Nat) (v:Option Int) (d:Nat) (hd:d<=n):HT.sIx n d v<=n:=by
 cases v with
 | none=>exact hd
 | some i=>
  show (if i < 0 then (i+(n:Int)).toNat else min i.toNat n)<=n
  split<;>omega
open PySem.Builtin.Str in
theorem nP (lo hi:Option Int) (n:Nat):strSliceIndices lo hi 1 n=(List.range (HT.sIx n n hi - HT.sIx n 0 lo)).map (HT.sIx n 0 lo+·):=by
 have clip:∀ (v:Option Int) (d:Nat),d<=n->(match v with|none=>(d:Int)|some i=>max 0 (min (if i < 0 then i+(n:Int) else i) n))=((HT.sIx n d v:Nat):Int):=fun v d hd=>by
  cases v with
  | none=>rfl
  | some i=>
   show max 0 (min (if i < 0 then i+(n:Int) else i) (n:Int))=(((if i < 0 then (i+(n:Int)).toNat else min i.toNat n:Nat)):Int)
   by_cases h:i < 0
   ·rw [if_pos h,if_pos h];omega
   ·rw [if_neg h,if_neg h];omega
 have c1:=clip lo 0 (EM _)
 have c2:=clip hi n (Ec _)
 rw [<-sliceRange_one]
 rw [<-c1,<-c2]
 unfold strSliceIndices
 simp only [show (1:Int) > 0 by decide,if_true]
 cases lo<;>cases hi<;>rfl
theorem jN (l:List Nat) (a:Nat):∀ k,((List.range k).map (a+·)).filterMap (fun i=>l.toArray[i]?)=(l.drop a).take k
 | 0=>by simp
 | k+1=>by
  rw [List.range_succ,Ed,List.filterMap_append,jN l a k,List.take_add_one]
  congr 1
  rw [List.getElem?_drop]
  cases q:l[a+k]? with
  | none=>simp [Fl,q]
  | some v=>simp [Fl,q]
open PySem.Builtin.Str in
theorem nQ (l:List Nat) (lo hi:Option Int):(if ((1:Int) == 1 && (strSliceIndices lo hi 1 (S l).length).length == (S l).length)=true then S l else ⟨((strSliceIndices lo hi 1 (S l).length).filterMap ((S l).cps[·]?)).toArray⟩)=S (fk l lo hi):=by
 rw [aR,nP]
 have e:((List.range (HT.sIx l.length l.length hi - HT.sIx l.length 0 lo)).map (HT.sIx l.length 0 lo+·)).filterMap ((S l).cps[·]?)=fk l lo hi:=jN l _ _
 rw [e]
 by_cases c:((1:Int) == 1 && ((List.range (HT.sIx l.length l.length hi - HT.sIx l.length 0 lo)).map (HT.sIx l.length 0 lo+·)).length == l.length)=true
 ·rw [if_pos c]
  simp at c
  have h2:=xn l.length hi l.length (Ec _)
  have:fk l lo hi=l:=by
   unfold fk
   by_cases z:l.length=0
   ·have:l=[]:=Ff.mp z
    subst this;simp
   ·have h0:HT.sIx l.length 0 lo=0:=by omega
    rw [h0,Fq,EC (by omega)]
  rw [this]
 ·rw [if_neg c];rfl
section
variable {X:Cx}
theorem jO:CU X (fun x lo hi H Q=>∃ l,x=.str (S l)/\l.length<=100000/\Q (.str (S (fk l lo hi))) H):=by
 intro pins s σ H x v vl vu lo hi sl Q I rx hs pl pu h
 obtain ⟨l,rfl,hz,q⟩:=h
 obtain ⟨t,rfl⟩:=rx
 obtain ⟨os,hos,hcs,hds⟩:=id hs
 have sz:(100000:Nat)<=sizeLine:=by decide
 have lc:(S (fk l lo hi)).length<=sizeLine:=by
  rw [aR]
  unfold fk
  rw [Eh,EF]
  omega
 refine ⟨"str",_,F.slot_str_getitem.lookup,typeIs_str _ _ _,?_⟩
 have fin:∀ (a b:Option (Int×Tok)),a.map (·.1)=lo->b.map (·.1)=hi->s.heap.IsSlice sl a b none->wpAny (model X.prog X.w) X.A (getItem (.str (S l) t) (.ref sl)) (EP X pins σ Q) X.xe s:=fun a b ea eb hS=>by
  refine wpAny_getItem_str_slice hS rfl ?_
  unfold sliceMade slicePicked
  rw [ea,eb]
  refine post_val_or_str ?_
  show (if ((1:Int) == 1 && (Builtin.Str.strSliceIndices lo hi 1 (S l).length).length == (S l).length)=true then S l else ⟨((Builtin.Str.strSliceIndices lo hi 1 (S l).length).filterMap ((S l).cps[·]?)).toArray⟩).length<=sizeLine/\∀ t' k,EP X pins σ Q (.str (if ((1:Int) == 1 && (Builtin.Str.strSliceIndices lo hi 1 (S l).length).length == (S l).length)=true then S l else ⟨((Builtin.Str.strSliceIndices lo hi 1 (S l).length).filterMap ((S l).cps[·]?)).toArray⟩) t') { s with toks:=k }
  rw [nQ]
  exact ⟨lc,fun t' k=>⟨.str (S (fk l lo hi)),H,I.tok _,⟨t',rfl⟩,q⟩⟩
 cases pl with
 | none=>
  cases pu with
  | none=>exact fin none none rfl rfl ⟨os,hos,hcs,hds⟩
  | int j u=>exact fin none (some (j,u)) rfl rfl ⟨os,hos,hcs,hds⟩
 | int i u0=>
  cases pu with
  | none=>exact fin (some (i,u0)) none rfl rfl ⟨os,hos,hcs,hds⟩
  | int j u=>exact fin (some (i,u0)) (some (j,u)) rfl rfl ⟨os,hos,hcs,hds⟩
theorem fq (c:Nat) (l:List Nat):(!(Builtin.Str.occurrences (S l) (S [c]) 0 (S l).length 1).isEmpty)=decide (c∈l):=by
 rw [EX,StrLaws.found_iff,decide_eq_true_iff]
 constructor
 ·rintro ⟨i,hi,e⟩
  rw [aR,aR] at hi
  have hi':i < l.length:=by simp at hi;omega
  unfold Builtin.Str.subAt at e
  have e':l.toArray.extract i (i+1)=#[c]:=eq_of_beq e
  have:(l.drop i).take 1=[c]:=by
   have:=congrArg Array.toList e'
   simpa [List.extract_eq_drop_take] using this
  have hm:c∈(l.drop i).take 1:=by rw [this];simp
  exact List.mem_of_mem_drop (EZ hm)
 ·intro h
  obtain ⟨i,hi,e⟩:=List.getElem_of_mem h
  refine ⟨i,by rw [aR,aR];simp;omega,?_⟩
  unfold Builtin.Str.subAt
  have:l.toArray.extract i (i+1)=#[c]:=by
   apply Array.toList_inj.mp
   rw [Array.toList_extract]
   simp [List.extract_eq_drop_take,EQ hi,e]
  show (l.toArray.extract i (i+1) == #[c])=true
  rw [this];exact beq_self_eq_true _
inductive yN (tb:TE) (σ:St) (Q:VK) (x:V) (H1:Hp):Prop
 | mk (l:_):x=.str (S l)->l.length<=100000->(if l=[] then tb σ H1 Q else Q (.str (S l)) H1)->yN tb σ Q x H1
def CZ (ta tb:TE):TE:=fun σ H Q=>ta σ H fun x H1=>yN tb σ Q x H1
theorem zz {a b:Expr} {rest:List Expr} {pos:Pos} {ta tb:TE} (ha:PE X a ta) (hb:PE X (.BoolOp .Or (b::rest) pos) tb):PE X (.BoolOp .Or (a::b::rest) pos) (CZ ta tb):=by
 refine ⟨?_⟩
 intro pins s σ H Q I h
 refine BoolOp_or (bK (ha pins s σ H _ I h) fun v s1 ⟨x,H1,I1,r1,q1⟩=>?_)
 obtain ⟨l,rfl,hz,q1⟩:=q1
 obtain ⟨t,rfl⟩:=r1
 refine PySem.P.truthy_str (by rw [aR];omega) ?_
 rw [aR]
 by_cases e:l=[]
 ·subst e
  rw [if_pos rfl] at q1
  exact hb pins _ σ H1 Q (I1.tok _) q1
 ·rw [if_neg e] at q1
  have:((l.length:Int) != 0)=true:=by
   have:l.length≠0:=fun z=>e (Ff.mp z)
   simp;exact e
  rw [this]
  exact ⟨.str (S l),H1,I1.tok _,⟨t,rfl⟩,q1⟩
theorem iA:∀ {ys:List Str} {us:List Value},Vals (ys.map V.str) us->StrsAre us ys
 | [],_,.nil=>.nil
 | n::r,_,.cons h t=>by
  obtain ⟨tk,rfl⟩:=h
  exact .cons n tk (iA t)
theorem uD (sep:List Nat) (ts:List (List Nat)):Txt.join (S sep) (ts.map S)=S (TK.jn sep ts):=by
 have go:∀ (r:List (List Nat)) (acc:List Nat),(r.map S).foldl (fun acc p=>acc++(S sep).cps++p.cps) acc.toArray=(acc++(r.map (sep++·)).flatten).toArray:=by
  intro r
  induction r with
  | nil=>intro acc;simp
  | cons t r ih=>
   intro acc
   rw [Ek,List.foldl_cons]
   have:acc.toArray++(S sep).cps++(S t).cps=(acc++sep++t).toArray:=by simp [S]
   rw [this,ih]
   simp
 have fl:∀ (t:List Nat) (r:List (List Nat)),TK.jn sep (t::r)=t++(r.map (sep++·)).flatten:=by
  intro t r
  induction r generalizing t with
  | nil=>simp [TK.jn]
  | cons u r ih=>
   show t++(sep++TK.jn sep (u::r))=_
   rw [ih u]
   simp
 cases ts with
 | nil=>rfl
 | cons t r=>
  show (⟨((t::r).map S |>.drop 1).foldl (fun acc p=>acc++(S sep).cps++p.cps) (((t::r).map S).headD Str.empty).cps⟩:Str)=_
  rw [fl]
  have:=go r t
  show (⟨(r.map S).foldl (fun acc p=>acc++(S sep).cps++p.cps) t.toArray⟩:Str)=_
  rw [this]
  rfl
theorem ft:Bi X "str.join" (fun x xs H Q=>∃ sep a ts,x=.str (S sep)/\xs=[.ref a]/\SqL X.K H a (ts.map fun t=>V.str (S t))/\(ts.map List.length).sum+ts.length*sep.length<=100000/\Q (.str (S (TK.jn sep ts))) H):=by
 intro pins s σ H x xs v us Q I rx rv h
 obtain ⟨sep,a,ts,rfl,rfl,hS,hz,q⟩:=h
 obtain ⟨t,rfl⟩:=rx
 obtain ⟨u,rfl,ru⟩:=rv.one
 cases ru
 obtain ⟨its,r,pl,hz2⟩:=I.list hS
 have e:(ts.map fun t=>V.str (S t))=(ts.map S).map V.str:=by rw [E1];rfl
 rw [e] at r
 refine join_list pl.isList (ys:=ts.map S) (by simpa using iA r) ?_ fun t' k=>?_
 ·have:((ts.map S).map (·.length)).sum=(ts.map List.length).sum:=by
   rw [E1]
   congr 1
  rw [this,D5,aR]
  omega
 ·rw [uD]
  exact ⟨.str (S (TK.jn sep ts)),H,I.tok _,⟨t',rfl⟩,q⟩
end
end L2
namespace L2
open PySem PySem.Spec PyProof.Rows
section
variable {X:Cx}
open PySem.Builtin.Str in
theorem dv:Bi X "str.split" (fun x xs H Q=>∃ a b,x=.str a/\xs=[.str b]/\(b.length == 0)=false/\a.length<=100000/\∀ p,H p=none->Q (.ref p) (ax H p (.lst ((Txt.split a b).map V.str)))):=by
 intro pins s σ H x xs v us Q I rx rv h
 obtain ⟨a,b,rfl,rfl,h0,h3,q⟩:=h
 obtain ⟨t,rfl⟩:=rx
 obtain ⟨u,rfl,ru⟩:=rv.one
 obtain ⟨t2,rfl⟩:=ru
 have sz:(100002:Nat)<=sizeLine:=by decide
 have hp:(partsBetween a (occurrences a b 0 a.length (a.length+1)) b.length).length<=100002:=by
  rw [PySem.length_partsBetween]
  have:=StrLaws.occ_length_le a b 0 a.length (a.length+1)
  omega
 cases h1:(decide (a.length < b.length) || decide (Builtin.Str.strKind a < Builtin.Str.strKind b))
 ·cases hf:(occurrences a b 0 a.length (a.length+1)).isEmpty
  ·have e1:Txt.split a b=kZ a b:=by
    unfold Txt.split
    rw [h1,hf]
    rfl
   refine call_meets F.slot_str_split (typeIs_str _ _ _) F.entry_str_split (F.args_str_split_2 _ _) (meets_str_split_sep a b t t2 h1 h0 hf (by omega) (by omega)) ?_
   show PySem.wants _ _ _ { s with toks:=_,heap:=s.heap.push { cls:=.type "list",data:=.seq (strsFrom s.toks (kZ a b)).toArray } }
   rw [strsFrom_eq]
   have e:=numbered_texts s.toks (kZ a b)
   have v0:=k7 (numbered s.toks (kZ a b))
   rw [e] at v0
   rw [e1] at q
   refine ⟨.ref s.heap.objs.size,_,I.lnew (ys:=(kZ a b).map V.str) v0 (by rw [D5];unfold kZ;omega),rfl,q _ (I.hok.fresh (Ec _))⟩
  ·have e1:Txt.split a b=[a]:=by
    unfold Txt.split
    rw [h1,hf]
    rfl
   rw [e1] at q
   refine call_meets F.slot_str_split (typeIs_str _ _ _) F.entry_str_split (F.args_str_split_2 _ _) (meets_str_split_not_found a b t t2 h1 h0 hf) ?_
   exact ⟨.ref s.heap.objs.size,_,I.lnew (ys:=[V.str a]) (its:=[.str a t]) (t':=s.toks) (.cons ⟨t,rfl⟩ .nil) (by show 1<=sizeLine;decide),rfl,q _ (I.hok.fresh (Ec _))⟩
 ·have e1:Txt.split a b=[a]:=by
   unfold Txt.split
   rw [h1]
   rfl
  rw [e1] at q
  refine call_meets F.slot_str_split (typeIs_str _ _ _) F.entry_str_split (F.args_str_split_2 _ _) (meets_str_split_cannot_occur a b t t2 h1) ?_
  exact ⟨.ref s.heap.objs.size,_,I.lnew (ys:=[V.str a]) (its:=[.str a t]) (t':=s.toks) (.cons ⟨t,rfl⟩ .nil) (by show 1<=sizeLine;decide),rfl,q _ (I.hok.fresh (Ec _))⟩
variable {o e:Expr} {es:List Expr} {to te:TE} {t:TA} {name:Str} {apos cpos:Pos} {T id:String} {r:V->List V->Hp->VK->Prop}
end
end L2
namespace L2
open PySem PySem.Spec PyProof.Rows
section
variable {X:Cx}
theorem eK {T:String}:dW X (.builtin "isinstance") (fun xs H Q=>∃ x t b,xs=[x,.ty T]/\iy X.K H x t/\PySem.W.kitOne X.K t (.type T)=some b/\Q (.bl b) H):=by
 intro pins s σ H xs us Q I r h
 obtain ⟨x,t,b,rfl,ty,e,q⟩:=h
 cases r with
 | cons r0 rr=>
  cases rr with
  | cons r1 rr=>
   cases rr
   cases r1
   exact rY I r0 ty e fun tk=>⟨.bl b,H,I.tok _,rfl,q⟩
theorem uE:fN X (binaryOp .FloorDiv) (rI (fun _ j=>0 < j/\j < 18446744073709551616) fun i j=>.int (i / j)):=AM fun i j _ _ _ _ _ hc q=>by
 have h1:(0:Int) < j:=hc.1
 have h2:j < 18446744073709551616:=hc.2
 refine floordiv_int (by omega) (by rw [Int.fdiv_eq_ediv_of_nonneg i (by omega)];exact q) (.inl (PyProof.noPylong_of_log2 ?_))
 have h3:j.natAbs≠0:=by omega
 have:j.natAbs.log2 < 64:=(Nat.log2_lt h3).mpr (by show j.natAbs < 2 ^ 64;omega)
 omega
def Cq (l:List Nat):It:=⟨fun i _=>i < l.length,fun i H y H'=>H'=H/\∃ h:i < l.length,y=.str (S [l[i]]),fun i _=>l.length<=i⟩
theorem ph {P:Program} {w:World} {K:PySem.W.Frag} {tg:Expr} (l:List Nat) (t:Tok) (it:Addr):kD P w K tg (Cq l) [it] it (fun i h=>h.IsStrIter it "str_ascii_iterator" (S l) t i) where
 mem:=by simp
 obj:=fun i h st b hb=>by
  have e:b=it:=by simpa using hb
  subst e
  obtain ⟨o,e,c,d⟩:=st
  exact ⟨o,e,fun v z=>by rw [d] at z;cases z⟩
 keep:=fun i h h' st k=>let ⟨o,ho,r⟩:=st;⟨o,k it (by simp) o ho,r⟩
 item:=by
  intro X hP hw hK hc i pins s σ H E I hf st hg
  subst hP hw hK
  have hg':i < l.length:=hg
  obtain ⟨f0,f1,f2,f3,f4,f5⟩:=hf it (by simp)
  refine wpAny_pyNext_ascii_item st (c:=l[i]) (by show l.toArray[i]?=_;simp [hg']) fun h' st' sb=>?_
  have I1:Inv X pins σ H { s with heap:=h',toks:=s.toks+1 }:=I.turned (fun b o hb e=>(sb.2 b hb).trans e) f0 f1 f3 f4 f5
  obtain ⟨o,e,c,d⟩:=id st'
  exact ⟨_,rfl,nA (s:={ s with heap:=h',toks:=s.toks+1 }) e c d (by decide) ⟨.str (S [l[i]]),H,I1,⟨_,rfl⟩,⟨rfl,hg',rfl⟩,st',fun b hb=>(hf b hb).1⟩⟩
 done:=by
  intro X hP hw hK hc i pins s σ H E I hf st hg
  subst hP hw hK
  have hg':l.length<=i:=hg
  obtain ⟨f0,f1,f2,f3,f4,f5⟩:=hf it (by simp)
  exact wpAny_pyNext_ascii_end (I.ok.hd hc) st (by show l.toArray[i]?=_;simp [hg']) fun h' eb=>⟨rfl,I.turned (t':=s.toks) (fun b o hb e=>eb b o hb e) f0 f1 f3 f4 f5⟩
 self:=fun _ _ _ _ _ st h=>wpAny_pyIter_striter_ascii st h
theorem sr {P:Program} {w:World} {K:PySem.W.Frag} {tg:Expr} (l:List Nat) (t:Tok) (it:Addr):kD P w K tg (Cq l) [it] it (fun i h=>h.IsStrIter it "str_iterator" (S l) t i) where
 mem:=by simp
 obj:=fun i h st b hb=>by
  have e:b=it:=by simpa using hb
  subst e
  obtain ⟨o,e,c,d⟩:=st
  exact ⟨o,e,fun v z=>by rw [d] at z;cases z⟩
 keep:=fun i h h' st k=>let ⟨o,ho,r⟩:=st;⟨o,k it (by simp) o ho,r⟩
 item:=by
  intro X hP hw hK hc i pins s σ H E I hf st hg
  subst hP hw hK
  have hg':i < l.length:=hg
  obtain ⟨f0,f1,f2,f3,f4,f5⟩:=hf it (by simp)
  refine wpAny_pyNext_wide_item st (c:=l[i]) (by show l.toArray[i]?=_;simp [hg']) fun h' st' sb=>?_
  have I1:Inv X pins σ H { s with heap:=h',toks:=s.toks+1 }:=I.turned (fun b o hb e=>(sb.2 b hb).trans e) f0 f1 f3 f4 f5
  obtain ⟨o,e,c,d⟩:=id st'
  exact ⟨_,rfl,nA (s:={ s with heap:=h',toks:=s.toks+1 }) e c d (by decide) ⟨.str (S [l[i]]),H,I1,⟨_,rfl⟩,⟨rfl,hg',rfl⟩,st',fun b hb=>(hf b hb).1⟩⟩
 done:=by
  intro X hP hw hK hc i pins s σ H E I hf st hg
  subst hP hw hK
  have hg':l.length<=i:=hg
  obtain ⟨f0,f1,f2,f3,f4,f5⟩:=hf it (by simp)
  exact wpAny_pyNext_wide_end (I.ok.hd hc) st (by show l.toArray[i]?=_;simp [hg']) fun h' eb=>⟨rfl,I.turned (t':=s.toks) (fun b o hb e=>eb b o hb e) f0 f1 f3 f4 f5⟩
 self:=fun _ _ _ _ _ st h=>wpAny_pyIter_striter_wide st h
inductive yO (R:It->Hp->Prop) (x:V) (H1:Hp):Prop
 | mk (l:_):x=.str (S l)->R (Cq l) H1->yO R x H1
def C0 (tl:TE):TI:=fun σ H R=>tl σ H fun x H1=>yO R x H1
theorem mj {tg l:Expr} {tl:TE} (hl:PE X l tl):PI X tg l (C0 tl):=by
 refine ⟨?_⟩
 intro pins s σ H R I h
 refine bK (hl pins s σ H _ I h) fun v s1 ⟨x,H1,I1,r1,q1⟩=>?_
 obtain ⟨l,e,q⟩:=q1
 subst e
 obtain ⟨t,rfl⟩:=r1
 have fp:∀ b∈[s1.heap.objs.size],kC X pins H1 b:=fun b hb=>by
  have e:b=s1.heap.objs.size:=by simpa using hb
  subst e
  exact I1.fpOk (Ec _) (I1.hok.fresh (Ec _))
 cases ha:(S l).cps.all (· < 128)
 ·exact wpAny_pyIter_wide ha ⟨s1.heap.objs.size,[s1.heap.objs.size],_,_,H1,rfl,I1.kept (t':=s1.toks) fun b o e=>D6 _ e,sr l t _,⟨_,Em _ rfl,rfl,rfl⟩,fp,q⟩
 ·exact wpAny_pyIter_ascii ha ⟨s1.heap.objs.size,[s1.heap.objs.size],_,_,H1,rfl,I1.kept (t':=s1.toks) fun b o e=>D6 _ e,ph l t _,⟨_,Em _ rfl,rfl,rfl⟩,fp,q⟩
theorem ml {l:List Nat} {g:TG} {tf:TT} {te:TE} {ix:List (Option Nat)} {σ:St} {H:Hp} {Q:VK} (Pv:Nat->List V->Hp->Prop) (h0:Pv 0 [] H)
  (hl:∀ i ys H,i<=l.length->Pv i ys H->ys.length<=sizeLine)
  (hs:∀ i ys H (h:i < l.length),Pv i ys H->g (.str (S [l[i]])) (kY ix σ) H fun σ2 H2=>ExtL (kY ix σ) σ2/\tf σ2 H2 fun b H3=>if b=true then te σ2 H3 fun y H4=>Nx Pv l.length i (ys++[y]) H4 else Nx Pv l.length i ys H3)
  (hd:∀ ys H,Pv l.length ys H->∀ D,H D=none->Q (.ref D) (ax H D (.lst ys))) :
  pc (Cq l) g tf te ix σ H Q:=by
 refine ⟨fun i m ys H=>m=l.length - i/\i<=l.length/\Pv i ys H,⟨l.length,by simp,EM _,h0⟩,?_⟩
 rintro i m ys H ⟨rfl,hi,p⟩
 have hz:=hl i ys H hi p
 by_cases hlt:i < l.length
 ·refine .inr ⟨hlt,hz,fun x H' y=>?_⟩
  obtain ⟨e,h,y⟩:=y
  subst e y
  exact hs i ys _ hlt p
 ·have e:i=l.length:=by omega
  subst e
  exact .inl ⟨Ec _,hz,hd ys H p⟩
theorem iB (hc:X.calm=true):dW X (.builtin "all") (fun xs H Q=>∃ (p:Addr) (bs:List Bool),xs=[.ref p]/\SqL X.K H p (bs.map V.bl)/\Q (.bl (bs.all id)) H):=by
 intro pins s σ H xs us Q I r h
 obtain ⟨p,bs,rfl,hS,q⟩:=h
 obtain ⟨u,rfl,rx⟩:=gZ r
 cases rx
 obtain ⟨its,rv,pl,hz⟩:=I.list hS
 have hlen:=rv.length
 rw [D5] at hlen
 have hne:p≠s.heap.objs.size:=by
  obtain ⟨o,ho,_⟩:=pl.isList
  exact Ey (Ef ho)
 refine call_all_walk (wpAny_pyIter_list pl.isList ?_)
 refine ⟨s.heap.objs.size,_,_,_,_,_,fun i=>bs.getD i true,rfl,Walks.list (A:=X.A.in1) (I.ok.hd hc) s.heap.objs.size p hne its.toArray,⟨⟨_,Em _ rfl,rfl,rfl⟩,pl.isList.at fun o e=>D6 _ e⟩,?_,?_⟩
 ·intro i v s' Q' E' hv hq
  have hv':its[i]?=some v:=by simpa using hv
  have hlt:i < its.length:=(D7.mp hv').1
  have hb:i < bs.length:=by omega
  obtain ⟨u,hu,ru⟩:=rv.get (i:=i) (x:=.bl bs[i]) (by simp [hb])
  rw [hv'] at hu
  cases hu
  cases ru
  refine wpAny_truthy_bool ?_
  have e:bs.getD i true=bs[i]:=by simp [List.getD,hb]
  dsimp only at hq
  rw [e] at hq
  exact hq
 ·intro h' tk hk
  have e:(List.range its.toArray.size).all (fun i=>bs.getD i true)=bs.all id:=by
   rw [En,<-hlen,EX,ER,ER]
   constructor
   ·intro z x hx
    obtain ⟨i,hi,e⟩:=List.getElem_of_mem hx
    have:=z i (Fb.mpr hi)
    rw [show bs.getD i true=bs[i] by simp [List.getD,hi],e] at this
    exact this
   ·intro z i hi
    have hi':=Fb.mp hi
    rw [show bs.getD i true=bs[i] by simp [List.getD,hi']]
    exact z _ (E9 hi')
  rw [e]
  exact ⟨.bl _,H,I.kept fun b o e=>hk b o (fun z=>absurd (Ef e) (by rw [EG.mp z];exact E7 _)) (D6 _ e),rfl,q⟩
end
end L2
namespace L2
open PySem PySem.Spec PyProof.Rows
section
variable {κ:Type} [DecidableEq κ]
def aY (kvs:List (κ×V)) (k:κ):Option V:=(kvs.find? fun kv=>decide (kv.1=k)).map (·.2)
def bh (kvs:List (κ×V)) (k:κ) (v:V):List (κ×V):=
 if (kvs.any fun kv=>decide (kv.1=k))=true then kvs.map (fun kv=>if kv.1=k then (kv.1,v) else kv) else kvs++[(k,v)]
theorem nR {k:κ}:aY ([]:List (κ×V)) k=none:=rfl
theorem cv {p:κ×V} {r:List (κ×V)} {k:κ} (e:p.1=k):aY (p::r) k=some p.2:=by simp [aY,Fp,e]
theorem bP {p:κ×V} {r:List (κ×V)} {k:κ} (e:¬ p.1=k):aY (p::r) k=aY r k:=by simp [aY,Fp,e]
theorem gj (k:κ):∀ kvs:List (κ×V),(kvs.any fun kv=>decide (kv.1=k))=(aY kvs k).isSome
 | []=>rfl
 | p::r=>by
  rw [Fx]
  by_cases e:p.1=k
  ·simp only [cv e,decide_eq_true e,Bool.true_or,Option.isSome_some]
  ·rw [bP e,decide_eq_false e,Bool.false_or];exact gj k r
theorem nS (k j:κ) (y:V):∀ kvs:List (κ×V),aY (kvs.map fun kv=>if kv.1=k then (kv.1,y) else kv) j=(aY kvs j).map fun x=>if j=k then y else x
 | []=>rfl
 | p::r=>by
  have ih:=nS k j y r
  rw [Ek]
  by_cases h:p.1=k
  ·rw [if_pos h]
   by_cases e:p.1=j
   ·rw [cv (p:=(p.1,y)) e,cv e,Fy,if_pos (e.symm.trans h)]
   ·rw [bP (p:=(p.1,y)) e,bP e,ih]
  ·rw [if_neg h]
   by_cases e:p.1=j
   ·rw [cv (p:=p) e,cv e,Fy,if_neg (fun z=>h (e.trans z))]
   ·rw [bP (p:=p) e,bP e,ih]
theorem ld (k j:κ) (y:V):∀ kvs:List (κ×V),aY kvs k=none->aY (kvs++[(k,y)]) j=if j=k then some y else aY kvs j
 | [],_=>by
  by_cases e:k=j
  ·rw [if_pos e.symm];exact cv (p:=(k,y)) e
  ·rw [if_neg (fun z=>e z.symm)];exact bP (p:=(k,y)) e
 | p::r,hn=>by
  rw [E8]
  have hk:¬ p.1=k:=fun z=>by rw [cv z] at hn;cases hn
  rw [bP hk] at hn
  have ih:=ld k j y r hn
  by_cases e:p.1=j
  ·rw [cv e,cv e,if_neg (fun z=>hk (e.trans z))]
  ·rw [bP e,bP e,ih]
theorem nU (kvs:List (κ×V)) (k j:κ) (y:V):aY (bh kvs k y) j=if j=k then some y else aY kvs j:=by
 unfold bh
 by_cases a:(kvs.any fun kv=>decide (kv.1=k))=true
 ·rw [if_pos a,nS]
  rw [gj] at a
  by_cases e:j=k
  ·obtain ⟨x,hx⟩:=Option.isSome_iff_exists.mp a
   rw [if_pos e,e,hx,Fy,if_pos rfl]
  ·rw [if_neg e]
   cases aY kvs j with
   | none=>rfl
   | some x=>rw [Fy,if_neg e]
 ·rw [if_neg a]
  refine ld k j y kvs ?_
  rw [gj] at a
  cases q:aY kvs k with
  | none=>rfl
  | some x=>rw [q] at a;exact (a rfl).elim
theorem gm (kvs:List (κ×V)) (k:κ) (v:V):(bh kvs k v).length<=kvs.length+1:=by
 unfold bh
 split
 ·rw [D5];omega
 ·rw [D9,D8,Ev];omega
theorem gp {kvs:List (κ×V)} {k:κ} (v:V) (h:aY kvs k=none):bh kvs k v=kvs++[(k,v)]:=by
 unfold bh
 rw [gj,h]
 exact if_neg (by decide)
theorem RelO.isSome_eq {o:Option V} {u:Option Value} (r:RelO o u):o.isSome=u.isSome:=by
 cases o with
 | none=>cases u with
  | none=>rfl
  | some _=>exact (show False from r).elim
 | some _=>cases u with
  | none=>exact (show False from r).elim
  | some _=>rfl
theorem KV.val {kvs:List (κ×V)} {vs:List (κ×Value)} (r:KV kvs vs) (k:κ):RelO (aY kvs k) (valueAt vs k):=by
 unfold KV at r
 induction r with
 | nil=>exact True.intro
 | @cons p q ps qs h t ih=>
  obtain ⟨h1,h2⟩:=h
  by_cases e:p.1=k
  ·have e':q.1=k:=h1.symm.trans e
   have b:valueAt (q::qs) k=some q.2:=by simp [valueAt,Fp,e']
   rw [cv e,b];exact h2
  ·have e':¬ q.1=k:=fun z=>e (h1.trans z)
   have b:valueAt (q::qs) k=valueAt qs k:=by simp [valueAt,Fp,e']
   rw [bP e,b];exact ih
theorem KV.any {kvs:List (κ×V)} {vs:List (κ×Value)} (r:KV kvs vs) (k:κ):(kvs.any fun kv=>decide (kv.1=k))=vs.any fun kv=>decide (kv.1=k):=by
 unfold KV at r
 induction r with
 | nil=>rfl
 | cons h t ih=>rw [Fx,Fx,ih,h.1]
theorem KV.repl {kvs:List (κ×V)} {vs:List (κ×Value)} (r:KV kvs vs) (k:κ) {y:V} {u:Value} (ry:RelV y u) :
  KV (kvs.map fun kv=>if kv.1=k then (kv.1,y) else kv) (vs.map fun kv=>if kv.1=k then (kv.1,u) else kv):=by
 unfold KV at r ⊢
 induction r with
 | nil=>exact .nil
 | @cons p q ps qs h t ih=>
  rw [Ek,Ek]
  refine .cons ?_ ih
  obtain ⟨h1,h2⟩:=h
  by_cases e:p.1=k
  ·rw [if_pos e,if_pos (h1.symm.trans e)];exact ⟨h1,ry⟩
  ·rw [if_neg e,if_neg (fun z=>e (h1.trans z))];exact ⟨h1,h2⟩
theorem KV.put {kvs:List (κ×V)} {vs:List (κ×Value)} (r:KV kvs vs) (k:κ) {y:V} {u:Value} (ry:RelV y u):KV (bh kvs k y) (stored vs k u):=by
 unfold bh stored
 rw [r.any k]
 by_cases e:(vs.any fun kv=>decide (kv.1=k))=true
 ·rw [if_pos e,if_pos e];exact r.repl k ry
 ·rw [if_neg e,if_neg e];exact Paired.snoc r ⟨rfl,ry⟩
theorem KV.length {kvs:List (κ×V)} {vs:List (κ×Value)} (r:KV kvs vs):kvs.length=vs.length:=Paired.length r
end
theorem lh {P:Program} {w:World} {k:cq} {u:Value} (r:RelV (kV k) u):(cg P w).is k u=true:=by
 cases k with
 | inl i=>obtain ⟨t,e⟩:=(show ∃ t,u=Value.int i t from r);subst e;exact ny P w i t
 | inr x=>obtain ⟨t,e⟩:=(show ∃ t,u=Value.str x t from r);subst e;exact nz P w x t
theorem li {P:Program} {w:World}:∀ {ks:List cq} {us:List Value},Vals (ks.map kV) us->ItemsAre (cg P w) ks us
 | [],_,r=>by rw [List.map_nil] at r;cases r;exact .nil
 | k::ks,_,r=>by
  rw [Ek] at r
  cases r with
  | cons h t=>exact .cons (lh h) (li t)
abbrev KT (H:Hp):List (List cq×V)->List (List cq×Addr×Value)->Prop:=Paired fun p q=>p.1=q.1/\H q.2.1=some (.tup (p.1.map kV))/\RelV p.2 q.2.2
theorem KT.val {H:Hp} {kvs:List (List cq×V)} {xs:List (List cq×Addr×Value)} (r:KT H kvs xs) (k:List cq):RelO (aY kvs k) ((atKey xs k).map (·.2)):=by
 induction r with
 | nil=>exact True.intro
 | @cons p q ps qs h t ih=>
  obtain ⟨h1,_,h2⟩:=h
  by_cases e:p.1=k
  ·have e':q.1=k:=h1.symm.trans e
   have b:atKey (q::qs) k=some q.2:=by simp [atKey,Fp,e']
   rw [cv e,b];exact h2
  ·have e':¬ q.1=k:=fun z=>e (h1.trans z)
   have b:atKey (q::qs) k=atKey qs k:=by simp [atKey,Fp,e']
   rw [bP e,b];exact ih
theorem KT.repl {H:Hp} {kvs:List (List cq×V)} {xs:List (List cq×Addr×Value)} (r:KT H kvs xs) (k:List cq) {y:V} {u:Value} (ry:RelV y u) :
  KT H (kvs.map fun kv=>if kv.1=k then (kv.1,y) else kv) (xs.map (putAt k u)):=by
 induction r with
 | nil=>exact .nil
 | @cons p q ps qs h t ih=>
  rw [Ek,Ek]
  refine .cons ?_ ih
  obtain ⟨h1,h2,h3⟩:=h
  unfold putAt
  by_cases e:p.1=k
  ·rw [if_pos e,if_pos (h1.symm.trans e)];exact ⟨h1,h2,ry⟩
  ·rw [if_neg e,if_neg (fun z=>e (h1.trans z))];exact ⟨h1,h2,h3⟩
theorem KT.put {H:Hp} {kvs:List (List cq×V)} {xs:List (List cq×Addr×Value)} (r:KT H kvs xs) (k:List cq) {b:Addr} {y:V} {u:Value} (hb:H b=some (.tup (k.map kV))) (ry:RelV y u) :
  KT H (bh kvs k y) (storedH xs k b u):=by
 have e:(kvs.any fun kv=>decide (kv.1=k))=(atKey xs k).isSome:=by
  rw [gj,(r.val k).isSome_eq,Option.isSome_map]
 unfold bh storedH
 rw [e]
 by_cases q:(atKey xs k).isSome=true
 ·rw [if_pos q,if_pos q];exact r.repl k ry
 ·rw [if_neg q,if_neg q];exact Paired.snoc r ⟨rfl,hb,ry⟩
theorem KT.keeps {H H':Hp} {kvs:List (List cq×V)} {xs:List (List cq×Addr×Value)} (r:KT H kvs xs) (ht:∀ b ys,H b=some (.tup ys)->H' b=some (.tup ys)):KT H' kvs xs:=
 Paired.mapP r fun _ _ z=>⟨z.1,ht _ _ z.2.1,z.2.2⟩
section
variable {P:Program} {w:World} {H:Hp} {h:Heap} {a:Addr}
theorem yP {u:HO} (ok:HOk P w H h) (e:Rd H a u):ObjOk P w H h a u:=e.ok ok
theorem lz {kvs:List (cq×V)} (ok:HOk P w H h) (e:Rd H a (.dK kvs)):kvs.length<=sizeLine/\(a == sysModules)=false/\∃ vs,KV kvs vs/\h.DictOf (cg P w) a vs:=
 show ObjOk P w H h a (.dK kvs) from yP ok e
theorem nV {kvs:List (cq×V)} (ok:HOk P w H h) (e:H a=some (.dK kvs)):kvs.length<=sizeLine/\(a == sysModules)=false/\∃ vs,KV kvs vs/\h.DictOf (cg P w) a vs:=lz ok (.inl e)
theorem jP {ks:List cq} (ok:HOk P w H h) (e:H a=some (.tup (ks.map kV))):(tupleKind (cg P w)).is h ks a:=by
 obtain ⟨_,its,r,o,h1,h2,n,h3⟩:=(show ObjOk P w H h a (.tup (ks.map kV)) from ok a _ e)
 exact ⟨o,its.toArray,n,h1,(Prod.mk.inj h2).1,h3,by simpa using li r⟩
theorem lA {kvs:List (List cq×V)} (ok:HOk P w H h) (e:Rd H a (.dT kvs)):kvs.length<=sizeLine/\(a == sysModules)=false /\
  ∃ xs,KT H kvs xs/\h.DictOfH (tupleKind (cg P w)) a xs:=by
 obtain ⟨z,y,xs,r,o,es,ep,h1,h2,h3,h4,h5⟩:=(show ObjOk P w H h a (.dT kvs) from yP ok e)
 refine ⟨z,y,xs,r,o,es,ep,h1,h2,h3,h4,fun x hx=>?_,h5⟩
 have all:∀ {l:List (List cq×V)} {m:List (List cq×Addr×Value)},KT H l m->∀ x∈m,(tupleKind (cg P w)).is h x.1 x.2.1:=by
  intro l m q
  induction q with
  | nil=>intro x hx;exact nomatch hx
  | @cons p q ps qs hq t ih=>
   intro x hx
   rcases Ej.mp hx with e|hx
   ·subst e
    exact jP ok (by rw [<-hq.1];exact hq.2.1)
   ·exact ih x hx
 exact all r x hx
theorem Bo {kvs:List (List cq×V)} (ok:HOk P w H h) (e:H a=some (.dT kvs)):kvs.length<=sizeLine/\(a == sysModules)=false /\
  ∃ xs,KT H kvs xs/\h.DictOfH (tupleKind (cg P w)) a xs:=lA ok (.inl e)
end
def DGet (H:Hp) (a:Addr) (y:V) (r:Option V):Prop:=
 (∃ kvs k,Rd H a (.dK kvs)/\y=kV k/\r=aY kvs k)\/∃ kvs k b,Rd H a (.dT kvs)/\y=.ref b/\H b=some (.tup (k.map kV))/\r=aY kvs k
def DPut (H:Hp) (a:Addr) (y v:V) (H':Hp):Prop:=
 (∃ kvs k,H a=some (.dK kvs)/\y=kV k/\kvs.length < sizeLine/\H'=ax H a (.dK (bh kvs k v))) ∨
 ∃ kvs k b,H a=some (.dT kvs)/\y=.ref b/\H b=some (.tup (k.map kV))/\kvs.length < sizeLine/\H'=ax H a (.dT (bh kvs k v))
theorem DGet.k {H:Hp} {a:Addr} {kvs:List (cq×V)} {k:cq} (e:H a=some (.dK kvs)):DGet H a (kV k) (aY kvs k):=.inl ⟨kvs,k,.inl e,rfl,rfl⟩
theorem DPut.k {H:Hp} {a:Addr} {kvs:List (cq×V)} {k:cq} {v:V} (e:H a=some (.dK kvs)) (hl:kvs.length < sizeLine):DPut H a (kV k) v (ax H a (.dK (bh kvs k v))):=.inl ⟨kvs,k,e,rfl,hl,rfl⟩
section
variable {X:Cx} {pins:List (Addr×Obj)} {σ:St} {H:Hp} {s:Shared} {a:Addr} {y v:V} {u r:Value} {o:Option V} {A:Around} {E:Value->Shared->Prop}
theorem Inv.big (I:Inv X pins σ H s):sysModules < s.heap.objs.size:=by
 have h:mainGlobals < s.heap.objs.size:=(I.mod.glob.keeps I.bk).lt
 exact Nat.lt_trans (by decide) h
theorem ss {Q:Value->Shared->Prop} (hu:A.units+1 < cLine) (I:Inv X pins σ H s) (g:DGet H a y (some v)) (ry:RelV y u) (h:∀ w' s',Inv X pins σ H s'->RelV v w'->Q w' s') :
  wpAny (model X.prog X.w) A (getItem (.ref a) u) Q E s:=by
 rcases g with ⟨kvs,k,e,ey,l⟩|⟨kvs,k,b,e,ey,eb,l⟩
 ·subst ey
  obtain ⟨z,hd,vs,rel,dd⟩:=lz I.hok e
  obtain ⟨w',hw,rw'⟩:=RelO.some_of (v:=v) (o:=valueAt vs k) (by rw [l];exact rel.val k)
  exact wpAny_getItem_of (lh ry) dd.mapOf hw (h w' _ (I.tok _) rw')
 ·subst ey
  cases (show u=Value.ref b from ry)
  obtain ⟨z,hd,xs,rel,dd⟩:=lA I.hok e
  obtain ⟨w',hw,rw'⟩:=RelO.some_of (v:=v) (o:=(atKey xs k).map (·.2)) (by rw [l];exact rel.val k)
  obtain ⟨p,hp,hp2⟩:=Option.map_eq_some_iff.mp hw
  refine wpAny_getItem_heap (tupleKind_room_in1 hu) (jP I.hok eb) dd hp ?_
  rw [hp2]
  exact h w' _ (I.tok _) rw'
theorem C1 {Q:Value->Shared->Prop} (hu:A.units+1 < cLine) (I:Inv X pins σ H s) (g:DGet H a y o) (ry:RelV y u) (h:∀ s',Inv X pins σ H s'->Q (.bool o.isSome) s') :
  wpAny (model X.prog X.w) A (compareOp .In u (.ref a)) Q E s:=by
 rcases g with ⟨kvs,k,e,ey,l⟩|⟨kvs,k,b,e,ey,eb,l⟩
 ·subst ey
  obtain ⟨z,hd,vs,rel,dd⟩:=lz I.hok e
  refine wpAny_in_of (lh ry) hd dd.mapOf ?_
  rw [<-(rel.val k).isSome_eq,<-l]
  exact h _ (I.tok _)
 ·subst ey
  cases (show u=Value.ref b from ry)
  obtain ⟨z,hd,xs,rel,dd⟩:=lA I.hok e
  refine wpAny_in_heap (tupleKind_room_in1 hu) (jP I.hok eb) hd dd ?_
  have q:=(rel.val k).isSome_eq
  rw [Option.isSome_map] at q
  rw [<-q,<-l]
  exact h _ (I.tok _)
theorem xp {Q:Value->Shared->Prop} (hu:A.units+1 < cLine) (I:Inv X pins σ H s) (g:DGet H a y o) (ry:RelV y u) (h:∀ s',Inv X pins σ H s'->Q (.bool (!o.isSome)) s') :
  wpAny (model X.prog X.w) A (compareOp .NotIn u (.ref a)) Q E s:=by
 rcases g with ⟨kvs,k,e,ey,l⟩|⟨kvs,k,b,e,ey,eb,l⟩
 ·subst ey
  obtain ⟨z,hd,vs,rel,dd⟩:=lz I.hok e
  refine wpAny_notIn_of (lh ry) hd dd.mapOf ?_
  rw [<-(rel.val k).isSome_eq,<-l]
  exact h _ (I.tok _)
 ·subst ey
  cases (show u=Value.ref b from ry)
  obtain ⟨z,hd,xs,rel,dd⟩:=lA I.hok e
  refine wpAny_notIn_heap (tupleKind_room_in1 hu) (jP I.hok eb) hd dd ?_
  have q:=(rel.val k).isSome_eq
  rw [Option.isSome_map] at q
  rw [<-q,<-l]
  exact h _ (I.tok _)
theorem jp {h':Heap} {t':Nat} {ob:HO} (I:Inv X pins σ H s) (mu:AU (H a)) (hs:Heap.SameBut a s.heap h') (he:∃ q,h'.get? a=some q) (new:ObjOk X.prog X.w (ax H a ob) h' a ob) :
  Inv X pins σ (ax H a ob) { s with heap:=h',toks:=t' }:=
 I.write (x:=a) (e:=a) mu (.inl rfl) (fun b q hb z=>(hs.2 b hb).trans z) he new
theorem mm {P:Program} {w:World} {H':Hp} {h':Heap} {kvs:List (cq×V)} {vs:List (cq×Value)} (z:kvs.length<=sizeLine) (hd:(a == sysModules)=false) (rel:KV kvs vs) (dd:h'.DictOf (cg P w) a vs) :
  ObjOk P w H' h' a (.dK kvs):=⟨z,hd,vs,rel,dd⟩
theorem su {H':Hp} {Q:Unit->Shared->Prop} (hu:A.units+1 < cLine) (I:Inv X pins σ H s) (g:DPut H a y v H') (ry:RelV y u) (rv:RelV v r) (h:∀ s',Inv X pins σ H' s'->Q () s') :
  wpAny (model X.prog X.w) A (setItem (.ref a) u r) Q E s:=by
 rcases g with ⟨kvs,k,e,ey,l,eH⟩|⟨kvs,k,b,e,ey,eb,l,eH⟩
 ·subst ey eH
  obtain ⟨z,hd,vs,rel,dd⟩:=nV I.hok e
  have hz:vs.length<=sizeLine:=by rw [<-rel.length];exact z
  have hl:(bh kvs k v).length<=sizeLine:=by have:=gm kvs k v;omega
  refine wpAny_setItem_pairs (hsz:=hz) (lh ry) dd fun h' dd' hs=>h _ ?_
  have he:∃ q,h'.get? a=some q:=let ⟨q,_,_,hq,_⟩:=dd';⟨q,hq⟩
  exact jp I (by rw [e];exact True.intro) hs he (mm hl hd (rel.put k rv) dd')
 ·subst ey eH
  cases (show u=Value.ref b from ry)
  obtain ⟨z,hd,xs,rel,dd⟩:=Bo I.hok e
  have hz:xs.length<=sizeLine:=by rw [<-Paired.length rel];exact z
  have hl:(bh kvs k v).length<=sizeLine:=by have:=gm kvs k v;omega
  refine wpAny_setItem_heap (hsz:=hz) (tupleKind_room_in1 hu) (jP I.hok eb) dd fun h' dd' hs=>h _ ?_
  obtain ⟨q,es,ep,hq,h2,h3,h4,_,h5⟩:=dd'
  refine jp I (by rw [e];exact True.intro) hs ⟨q,hq⟩ ⟨hl,hd,_,(rel.put k eb rv).keeps fun c ys ec=>?_,q,es,ep,hq,h2,h3,h4,h5⟩
  rw [ao (AT ec e (fun z=>nomatch z))]
  exact ec
end
def Bp (i:Expr):Prop:=∀ ov iv,subscripted i false ov iv=operate [ov,iv] (getItem ov iv)
theorem xq {prog:Program} {w:World} {A:Around} {E:Value->Shared->Prop} {s:Shared} {env:Env} {value slice:Expr} {pos:Pos} {T id:String} {Q:Value->Shared->Prop}
  (hl:typeLookup (.type T) "__getitem__"=pure (some (.builtin id))) (hs:Bp slice)
  (h:wpAny (model prog w) A (eval value env) (fun o s₁=>wpAny (model prog w) A (eval slice env) (fun i s₂=>s₂.TypeIs o T/\wpAny (model prog w) A (getItem o i) Q E s₂) E s₁) E s) :
  wpAny (model prog w) A (eval (.Subscript value slice pos) env) Q E s:=by
 refine Subscript_ (wpAny_mono h (fun o s₁ h₁=>wpAny_mono h₁ (fun i s₂ h₂=>?_) fun _ _ x=>x) fun _ _ x=>x)
 obtain ⟨hT,h₂⟩:=h₂
 unfold subscriptTail
 refine wpAny_bind ?_
 rw [getitemInPython_of_ne hT.not_modules]
 refine wpAny_bind (wpAny_specialOf hT hl ?_)
 have fin:wpAny (model prog w) A (subscripted slice false o i) (fun r s₃=>wpAny (model prog w) A (letTemporaryGo value o r >>= fun _=>pure r) Q E s₃) E s₂:=by
  rw [hs o i]
  exact wpAny_operating (wpAny_mono h₂ (fun r s₃ h₃=>wpAny_bind (wpAny_letTemporaryGo (wpAny_pure h₃))) fun _ _ x=>x)
 first
  | exact wpAny_pure (wpAny_bind fin)
  | exact wpAny_bind (wpAny_pure (wpAny_bind fin))
  | exact wpAny_bind fin
theorem nW {X:Cx} {pins:List (Addr×Obj)} {σ:St} {H:Hp} {s:Shared} {a:Addr} {y:V} {o:Option V} (I:Inv X pins σ H s) (g:DGet H a y o):s.TypeIs (.ref a) "dict":=by
 rcases g with ⟨kvs,k,e,_,_⟩|⟨kvs,k,b,e,_,_,_⟩
 ·obtain ⟨_,_,vs,_,dd⟩:=lz I.hok e
  exact dd.typeIs
 ·obtain ⟨_,_,xs,_,dd⟩:=lA I.hok e
  exact dd.typeIs
inductive uF (Q:VK) (x:V) (y:V) (H2:Hp):Prop
 | mk (a v:_):x=.ref a->DGet H2 a y (some v)->Q v H2->uF Q x y H2
def Bq (td ty:TE):TE:=fun σ H Q=>td σ H fun x H1=>ty σ H1 fun y H2=>uF Q x y H2
inductive yQ (Q:VK) (y:V) (x:V) (H2:Hp):Prop
 | mk (a o:_):x=.ref a->DGet H2 a y o->Q (.bl o.isSome) H2->yQ Q y x H2
def C3 (ty td:TE):TE:=fun σ H Q=>ty σ H fun y H1=>td σ H1 fun x H2=>yQ Q y x H2
inductive nX (Q:VK) (y:V) (x:V) (H2:Hp):Prop
 | mk (a o:_):x=.ref a->DGet H2 a y o->Q (.bl (!o.isSome)) H2->nX Q y x H2
def xr (ty td:TE):TE:=fun σ H Q=>ty σ H fun y H1=>td σ H1 fun x H2=>nX Q y x H2
inductive uG (D:Ends) (σ:St) (v:V) (x:V) (y:V) (H3:Hp):Prop
 | mk (a H4:_):x=.ref a->DPut H3 a y v H4->D.nx σ H4->uG D σ v x y H3
def Br (td ty tv:TE):TS:=fun D σ H=>tv σ H fun v H1=>td σ H1 fun x H2=>ty σ H2 fun y H3=>uG D σ v x y H3
section
variable {X:Cx} {o i e value:Expr} {pos pos' tpos:Pos} {td ty tv:TE}
theorem br (hu:X.A.units+1 < cLine) (ho:PE X o td) (hi:PE X i ty) (hs:Bp i):PE X (.Subscript o i pos) (Bq td ty):=by
 refine ⟨?_⟩
 intro pins s σ H Q I h
 refine xq PySem.F.slot_dict_getitem.lookup hs (bK (ho pins s σ H _ I h) fun u s1 ⟨x,H1,I1,rx,q1⟩=>bK (hi pins s1 σ H1 _ I1 q1) fun iv s2 ⟨y,H2,I2,ry,a,v,ex,g,q2⟩=>?_)
 subst ex
 obtain rfl:u=Value.ref a:=rx
 exact ⟨nW I2 g,ss hu I2 g ry fun w' s3 I3 rw'=>⟨v,H2,I3,rw',q2⟩⟩
theorem uH (hu:X.A.units+1 < cLine) (hi:PE X i ty) (ho:PE X o td):PC X .In i o (C3 ty td):=by
 intro pins s σ H Q I h
 refine bK (hi pins s σ H _ I h) fun iv s1 ⟨y,H1,I1,ry,q1⟩=>bK (ho pins s1 σ H1 _ I1 q1) fun u s2 ⟨x,H2,I2,rx,a,ov,ex,g,q2⟩=>?_
 subst ex
 obtain rfl:u=Value.ref a:=rx
 exact C1 hu I2 g ry fun s3 I3=>⟨.bl ov.isSome,H2,I3,rfl,q2⟩
theorem sw (hu:X.A.units+1 < cLine) (hi:PE X i ty) (ho:PE X o td):PC X .NotIn i o (xr ty td):=by
 intro pins s σ H Q I h
 refine bK (hi pins s σ H _ I h) fun iv s1 ⟨y,H1,I1,ry,q1⟩=>bK (ho pins s1 σ H1 _ I1 q1) fun u s2 ⟨x,H2,I2,rx,a,ov,ex,g,q2⟩=>?_
 subst ex
 obtain rfl:u=Value.ref a:=rx
 exact xp hu I2 g ry fun s3 I3=>⟨.bl (!ov.isSome),H2,I3,rfl,q2⟩
theorem mo (hu:X.A.units+1 < cLine) (ho:PE X o td) (hi:PE X i ty) (hv:PE X value tv) (hs:swapsWith value (some (.Subscript o i pos')) pos.line X.env=pure false) :
  PS X (.Assign [.Subscript o i pos'] value pos) (Br td ty tv):=by
 refine ⟨?_⟩
 intro pins s σ H D I h
 refine wpAny_Assign_Subscript (bK (hv pins s σ H _ I h) fun r s1 ⟨v,H1,I1,rv,q1⟩=>bK (ho pins s1 σ H1 _ I1 q1) fun u s2 ⟨x,H2,I2,rx,q2⟩=>bK (hi pins s2 σ H2 _ I2 q2) fun iv s3 ⟨y,H3,I3,ry,a,H4,ex,g,q3⟩=>?_) hs
 subst ex
 obtain rfl:u=Value.ref a:=rx
 exact su hu I3 g ry rv fun s4 I4=>⟨σ,H4,I4,q3⟩
end
theorem nY {P:Program} {w:World} {H:Hp} (h:Heap) (hb:sysModules < h.objs.size):ObjOk P w H (h.push { cls:=.type "dict",data:=.dict #[] }) h.objs.size (.dK []):=
 ⟨EM _,beq_eq_false_iff_ne.mpr (Ne.symm (Ey hb)),[],.nil,Heap.DictOf.new h⟩
def zA:TE:=fun _ H Q=>∀ p,H p=none->Q (.ref p) (ax H p (.dK []))
section
variable {X:Cx} {pos:Pos}
theorem jQ:PE X (.Dict [] [] pos) zA:=⟨fun pins s σ H Q I h=>
 wpAny_Dict_empty ⟨.ref s.heap.objs.size,_,I.laid (a:=s.heap.objs.size) (o:=.dK []) (t':=s.toks) (fun _ _ q=>D6 _ q) (Ec _) (nY s.heap I.big),rfl,h _ (I.hok.fresh (Ec _))⟩⟩
end
def pi:List (TE×TE)->St->Hp->(List (V×V)->Hp->Prop)->Prop
 | [],_,H,Q=>Q [] H
 | (tk,tv)::r,σ,H,Q=>tk σ H fun x H1=>tv σ H1 fun y H2=>pi r σ H2 fun ps H3=>Q ((x,y)::ps) H3
abbrev VV:List (V×V)->List (Value×Value)->Prop:=Paired fun p q=>RelV p.1 q.1/\RelV p.2 q.2
def Cr (X:Cx) (pos:Pos) (keys:List (Option Expr)) (values:List Expr) (trs:List (TE×TE)):Prop:=
 ∀ (pins:List (Addr×Obj)) (s:Shared) (σ:St) (H:Hp) (Q:List (V×V)->Hp->Prop),Inv X pins σ H s->pi trs σ H Q->
  wpAny (model X.prog X.w) X.A (evalPairs (pairTrees keys values X.env pos)) (fun vs s'=>∃ ps H',Inv X pins σ H' s'/\VV ps vs/\Q ps H') X.xe s
theorem mq {X:Cx} {pos:Pos}:Cr X pos [] [] []:=fun pins s σ H Q I h=>pairTrees_nil_walk ⟨[],H,I,.nil,h⟩
theorem cF {X:Cx} {pos:Pos} {k v:Expr} {ks:List (Option Expr)} {vs:List Expr} {tk tv:TE} {trs:List (TE×TE)} (hk:PE X k tk) (hv:PE X v tv) (hr:Cr X pos ks vs trs) :
  Cr X pos (some k::ks) (v::vs) ((tk,tv)::trs):=fun pins s σ H Q I h=>
 pairTrees_cons_walk (bK (hk pins s σ H _ I h) fun u s1 ⟨x,H1,I1,rx,q1⟩=>bK (hv pins s1 σ H1 _ I1 q1) fun w2 s2 ⟨y,H2,I2,ry,q2⟩=>
  bK (hr pins s2 σ H2 _ I2 q2) fun ws s3 ⟨ps,H3,I3,rel,q3⟩=>⟨(x,y)::ps,H3,I3,.cons ⟨rx,ry⟩ rel,q3⟩)
def da (kvs more:List (cq×V)):List (cq×V):=more.foldl (fun acc kv=>bh acc kv.1 kv.2) kvs
theorem KV.merge:∀ {more:List (cq×V)} {rs:List (cq×Value)} {kvs:List (cq×V)} {vs:List (cq×Value)},KV more rs->KV kvs vs->KV (da kvs more) (merged vs rs):=by
 intro more rs kvs vs r
 unfold KV at r
 induction r generalizing kvs vs with
 | nil=>intro q;exact q
 | @cons p q ps qs h t ih=>
  intro r0
  have e:KV (bh kvs p.1 p.2) (stored vs q.1 q.2):=by
   have:=r0.put p.1 h.2
   rw [<-h.1];exact this
  exact ih e
theorem cw:∀ (more kvs:List (cq×V)),(da kvs more).length<=kvs.length+more.length
 | [],kvs=>by show kvs.length<=kvs.length+0;omega
 | p::r,kvs=>by
  have h1:=cw r (bh kvs p.1 p.2)
  have h2:=gm kvs p.1 p.2
  show (da (bh kvs p.1 p.2) r).length<=_
  rw [D8];omega
theorem jR {P:Program} {w:World}:∀ {kvs:List (cq×V)} {ws:List (Value×Value)},VV (kvs.map fun kv=>(kV kv.1,kv.2)) ws->∃ rs,Carries (cg P w) ws rs/\KV kvs rs
 | [],_,r=>by rw [List.map_nil] at r;cases r;exact ⟨[],True.intro,.nil⟩
 | p::kvs,_,r=>by
  rw [Ek] at r
  cases r with
  | @cons a b as bs h t=>
   obtain ⟨rs,c,q⟩:=jR (P:=P) (w:=w) t
   obtain ⟨b1,b2⟩:=b
   exact ⟨(p.1,b2)::rs,⟨lh h.1,rfl,c⟩,.cons ⟨rfl,h.2⟩ q⟩
def Bs (trs:List (TE×TE)):TE:=fun σ H Q=>∀ p,H p=none->pi trs σ (ax H p (.dK [])) fun ps H2=>H2 p=some (.dK [])/\∃ kvs:List (cq×V),ps=kvs.map (fun kv=>(kV kv.1,kv.2))/\kvs.length<=15/\Q (.ref p) (ax H2 p (.dK (da [] kvs)))
theorem mt {X:Cx} {pos:Pos} {keys:List (Option Expr)} {values:List Expr} {trs:List (TE×TE)} (h:Cr X pos keys values trs) (hall:keys.all (·.isSome)=true) (hl:keys.length=values.length) (h0:keys≠[])
  (h15:keys.length<=15):PE X (.Dict keys values pos) (Bs trs):=by
 refine ⟨?_⟩
 intro pins s σ H Q I q
 have hn:=I.hok.fresh (Ec s.heap.objs.size)
 have I1:=I.laid (a:=s.heap.objs.size) (o:=.dK []) (h':=s.heap.push { cls:=.type "dict",data:=.dict #[] }) (t':=s.toks) (fun _ _ q=>D6 _ q) (Ec _) (nY s.heap I.big)
 refine wpAny_Dict_walk (knd:=cg X.prog X.w) hall hl h0 h15 (bK (h pins _ σ _ _ I1 (q _ hn)) fun ws s2 ⟨ps,H2,I2,rel,e,kvs,ep,lk,q2⟩=>?_)
 subst ep
 obtain ⟨rs,c,rk⟩:=jR (P:=X.prog) (w:=X.w) rel
 obtain ⟨z,hd,vs0,r0,dd⟩:=nV I2.hok e
 cases r0
 refine ⟨rs,c,dd,fun h' dd' hs=>⟨.ref s.heap.objs.size,_,?_,rfl,q2⟩⟩
 have hz:(da [] kvs).length<=sizeLine:=by
  have h1:=cw kvs []
  rw [Ev] at h1
  rw [sizeLine_eq];omega
 have he:∃ q,h'.get? s.heap.objs.size=some q:=let ⟨q,_,_,hq,_⟩:=dd';⟨q,hq⟩
 exact jp I2 (by rw [e];exact True.intro) hs he (mm hz hd (rk.merge .nil) dd')
structure M1 (X:Cx) (o:Expr) (m:Str) (apos:Pos) (e:Expr) (cpos:Pos):Prop where
 base:attributeBase o m X.env (eval o X.env)=eval o X.env
 few:((backTo cpos (starEach [e] X.env)).all (fun x=>!x.1) && (backToKw cpos (keywordEach [] X.env)).all (fun x=>x.1.isSome)
  && decide (([e]:List Expr).length+([]:List Keyword).length+(if ([]:List Keyword).isEmpty then 0 else 1) < 30))=true
 line:(apos.endLine == cpos.line)=true
 trees:backTo cpos (starEach [e] X.env)=[(false,eval e X.env)]
def DC (H:Hp) (a:Addr):Prop:=(∃ kvs,Rd H a (.dK kvs))\/∃ kvs,Rd H a (.dT kvs)
theorem zC {X:Cx} {pins:List (Addr×Obj)} {σ:St} {H:Hp} {s:Shared} {a:Addr} (I:Inv X pins σ H s) (d:DC H a) :
  s.TypeIs (.ref a) "dict"/\(∀ b,Value.ref a=.ref b->∃ ob,s.heap.get? b=some ob/\ob.dict=none)/\(a == sysModules)=false:=by
 rcases d with ⟨kvs,e⟩|⟨kvs,e⟩
 ·obtain ⟨_,hd,vs,_,dd⟩:=lz I.hok e
  refine ⟨dd.typeIs,fun b q=>?_,hd⟩
  cases q
  obtain ⟨ob,_,_,h1,h2,_⟩:=dd
  exact ⟨ob,h1,h2.2.1⟩
 ·obtain ⟨_,hd,xs,_,dd⟩:=lA I.hok e
  refine ⟨dd.typeIs,fun b q=>?_,hd⟩
  cases q
  obtain ⟨ob,_,_,h1,h2,_⟩:=dd
  exact ⟨ob,h1,h2.2.1⟩
end L2
namespace L2
open PySem PySem.Spec PyProof.Rows
def C4 (P:St->Hp->Prop) (t u:TS):TS:=fun D σ H=>(∀ σ' H',P σ' H'->u D σ' H')/\t { D with nx:=P } σ H
theorem bR {X:Cx} {st:Stmt} {rest:List Stmt} {t u:TS} (P:St->Hp->Prop) (h1:PS X st t) (h2:PSs X rest u):PSs X (st::rest) (C4 P t u):=by
 refine ⟨?_⟩
 intro pins s σ H D I h
 refine wpAny_execs_cons (bK (h1 pins s σ H { D with nx:=P } I h.2) fun f s1 q=>?_)
 cases f with
 | next=>
  obtain ⟨σ',H',I',q⟩:=q
  exact h2 pins s1 σ' H' D I' (h.1 _ _ q)
 | ret v=>exact q
 | brk=>exact q
 | cont=>exact q
end L2
namespace L2
open PySem PySem.Spec PyProof.Rows
theorem mv {K:PySem.W.Frag} {a:Addr} {xs:List V} {g:TG} {tf:TT} {te:TE} {ix:List (Option Nat)} {σ:St} {H:Hp} {Q:VK} (Pv:Nat->List V->Hp->Prop) (h0:Pv 0 [] H)
  (hl:∀ i ys H,i<=xs.length->Pv i ys H->SqT K H a xs/\ys.length<=sizeLine)
  (hs:∀ i x ys H,xs[i]?=some x->Pv i ys H->g x (kY ix σ) H fun σ2 H2=>ExtL (kY ix σ) σ2/\tf σ2 H2 fun b H3=>if b=true then te σ2 H3 fun y H4=>Nx Pv xs.length i (ys++[y]) H4 else Nx Pv xs.length i ys H3)
  (hd:∀ ys H,Pv xs.length ys H->∀ D,H D=none->Q (.ref D) (ax H D (.lst ys))) :
  pc (AL K a) g tf te ix σ H Q:=by
 refine ⟨fun i m ys H=>m=xs.length - i/\i<=xs.length/\Pv i ys H,⟨xs.length,by simp,EM _,h0⟩,?_⟩
 rintro i m ys H ⟨rfl,hi,p⟩
 obtain ⟨q,hz⟩:=hl i ys H hi p
 by_cases hlt:i < xs.length
 ·refine .inr ⟨⟨xs,xs[i],q,by simp [hlt]⟩,hz,fun x H' y=>?_⟩
  obtain ⟨e,y⟩:=y
  subst e
  exact hs i x ys _ (y xs q) p
 ·have e:i=xs.length:=by omega
  subst e
  exact .inl ⟨⟨xs,q,Ec _⟩,hz,hd ys H p⟩
def TupK (H H':Hp):Prop:=∀ a xs,H a=some (.tup xs)->H' a=some (.tup xs)
theorem TupK.trans {H H1 H2:Hp} (a:TupK H H1) (b:TupK H1 H2):TupK H H2:=fun c x e=>b c x (a c x e)
theorem aZ {H H':Hp} (s:Same H H'):TupK H H':=fun a xs e=>s _ _ e
def DD (x:Str):Bool:=(PyData.str x).canLay0
end L2
namespace L2
open PySem PySem.Spec PyProof.Rows
section
variable {X:Cx}
inductive qF (X:Cx) (m:Str) (t:TA) (σ:St) (Q:VK) (x:V) (H1:Hp):Prop
 | mk (a dx C f:Addr) (fs:List (Str×V)) (fd:FuncData) (k:Nat) (ps:List Str) (sp:Sp):x=.ref a->H1 a=some (.ins C dx fs)->fs.lookup m=none->Cls X.K C->xf X.K C m f->aN X.prog X.w X.K X.mg X.base cj k f fd ps sp->Room k X.A->Binds X.K fd ps []->(t σ H1 fun vs H2=>sp (.ref a::vs) H2 Q E0)->qF X m t σ Q x H1
def zD (X:Cx) (m:Str) (ta:TE) (t:TA):TE:=fun σ H Q=>ta σ H fun x H1=>qF X m t σ Q x H1
theorem bQ {pl:Sem Bool} {o e:Expr} {es:List Expr} {m:Str} {ta:TE} {t:TA} {pos apos:Pos} (he:PE X o ta) (ha:PA X (e::es) t)
  (hst:starEach (e::es) X.env=(false,eval e X.env)::starEach es X.env:=by rfl) (hpl:(backTo pos (starEach es X.env)).any (·.1)=false:=by rfl)
  (ht:eval (.Call (.Attribute o m apos) (e::es) [] pos) X.env=(do
   let ov <-eval o X.env
   standAt apos.atName
   let (f,first) <-holding [ov] (getMethod ov m pl)
   callWith pos f first (backTo pos (starEach (e::es) X.env)) (backToKw pos (keywordEach [] X.env))):=by rfl) :
  PE X (.Call (.Attribute o m apos) (e::es) [] pos) (zD X m ta t):=by
 refine ⟨?_⟩
 intro pins s σ H Q I h
 refine PySem.W.methodCall_KW (pl:=pl) (bK (he pins s σ H _ I h) fun u s1 ⟨x,H1,I1,rx,a,dx,C,f,fs,fd,k,ps,sp,ex,ea,l,c,hm,F,hr,hb,q⟩=>?_) ht
 subst ex
 obtain rfl:u=Value.ref a:=rx
 refine jJ I1 ea c hm l ?_
 refine Fi (first:=[.ref a]) (h₀:=X.base) I.ok.mod.kin hm.kp (bK (ha pos pins s1 σ H1 _ I1 q) fun us s2 ⟨vs,H2,I2,r,q2⟩=>⟨I2.kIn,?_⟩) hst hpl
 exact lS (us:=.ref a::us) (vs:=.ref a::vs) (dvs:=[]) (ds:=[]) F hr hb .nil hI I2 (.cons rfl r) (by rw [ET];exact q2)
inductive nZ (X:Cx) (m:Str) (Q:VK) (x:V) (H1:Hp):Prop
 | mk (a dx C f:Addr) (fs:List (Str×V)) (fd:FuncData) (k:Nat) (ps:List Str) (sp:Sp):x=.ref a->H1 a=some (.ins C dx fs)->fs.lookup m=none->Cls X.K C->xf X.K C m f->aN X.prog X.w X.K X.mg X.base cj k f fd ps sp->Room k X.A->Binds X.K fd ps []->sp [.ref a] H1 Q E0->nZ X m Q x H1
def xt (X:Cx) (m:Str) (ta:TE):TE:=fun σ H Q=>ta σ H fun x H1=>nZ X m Q x H1
theorem bz {pl:Sem Bool} {o:Expr} {m:Str} {ta:TE} {pos apos:Pos} (he:PE X o ta)
  (ht:eval (.Call (.Attribute o m apos) [] [] pos) X.env=(do
   let ov <-eval o X.env
   standAt apos.atName
   let (f,first) <-holding [ov] (getMethod ov m pl)
   callWith pos f first (backTo pos (starEach [] X.env)) (backToKw pos (keywordEach [] X.env))):=by rfl) :
  PE X (.Call (.Attribute o m apos) [] [] pos) (xt X m ta):=by
 refine ⟨?_⟩
 intro pins s σ H Q I h
 refine PySem.W.methodCall_KW (pl:=pl) (bK (he pins s σ H _ I h) fun u s1 ⟨x,H1,I1,rx,a,dx,C,f,fs,fd,k,ps,sp,ex,ea,l,c,hm,F,hr,hb,q⟩=>?_) ht
 subst ex
 obtain rfl:u=Value.ref a:=rx
 refine jJ I1 ea c hm l ?_
 exact PySem.W.callWith_K0 (first:=[.ref a]) I1.kIn hm.kp (lS (us:=[.ref a]) (vs:=[.ref a]) (dvs:=[]) (ds:=[]) F hr hb .nil hI I1 (.cons rfl .nil) q)
end
end L2
namespace L2
open PySem PySem.Spec PyProof.Rows
def AQ (K:PySem.W.Frag) (l:Addr):It:=
 ⟨fun i H=>∃ xs x,SqL K H l xs/\xs[i]?=some x,
  fun i H v H'=>∃ T x,v=.ref T/\H T=none/\H'=ax H T (.tup [.int i,x])/\∀ xs,SqL K H l xs->xs[i]?=some x,
  fun i H=>∃ xs,SqL K H l xs/\xs.length<=i⟩
theorem sy {P:Program} {w:World} {K:PySem.W.Frag} {elts:List Expr} {kt:Nat} {tp:Pos} {e it l:Addr} (hne:e≠it) :
  kD P w K (.Tuple elts kt tp) (AQ K l) [e,it] e (fun i h=>(∃ old,IsEnum h e it i old)/\h.IsListIter it l i) where
 mem:=by simp
 obj:=fun i h st b hb=>by
  obtain ⟨⟨old,he⟩,⟨o1,h1,_,d1⟩⟩:=st
  simp at hb
  rcases hb with rfl|rfl
  ·exact ⟨_,he,fun v q=>by cases q⟩
  ·exact ⟨_,h1,fun v q=>by rw [d1] at q;cases q⟩
 keep:=fun i h h' st k=>by
  obtain ⟨⟨old,he⟩,h1⟩:=st
  exact ⟨⟨old,k e (by simp) _ he⟩,h1.at fun o q=>k it (by simp) o q⟩
 item:=by
  intro X hP hw hK hc i pins s σ H E I hf st hg
  subst hP hw hK
  obtain ⟨xs,x,hx,ex⟩:=hg
  obtain ⟨⟨old,he⟩,h1⟩:=st
  obtain ⟨its1,rv1,p1,z1⟩:=I.list hx
  obtain ⟨u1,eu1,ru1⟩:=rv1.get ex
  refine wpAny_pyNext_enum_item he h1 p1.isList (x:=u1) (by simpa using eu1) hne fun h' a1 a2 a3 a4 a5=>⟨_,rfl,?_⟩
  refine wpAny_letOwnedTupleGo_enum a1 fun h'' b1 b2=>?_
  have hT:H s.heap.objs.size=none:=I.hok.fresh (Ec _)
  have low:∀ b o,s.heap.get? b=some o->b≠s.heap.objs.size:=fun b o q=>Ey (Ef q)
  refine ⟨.ref s.heap.objs.size,ax H s.heap.objs.size (.tup [.int i,x]),?_,rfl,⟨s.heap.objs.size,x,rfl,hT,rfl,fun xs' h=>by rw [I.list_inj h hx];exact ex⟩,?_,fun b hb=>?_⟩
  ·show Inv X pins σ (ax H s.heap.objs.size (.tup [.int i,x])) { s with heap:=h'',toks:=s.toks+1 }
   refine Inv.turnedS (s:=s) (h':=h'') (t':=s.toks+1) (ch:=[e,it]) I (fun b hb=>hf b hb) (fun b o hc q=>?_) (fun b o q=>by rw [ao (aG q hT)];exact q) (fun b hb n=>by rw [ao (Ey hb)];exact n) fun b o n q=>?_
   ·simp at hc
    exact b2.extBut b o hc.1 (a5 b o hc.1 hc.2 q)
   ·by_cases eb:b=s.heap.objs.size
    ·subst eb
     rw [ad] at q
     cases q
     refine ⟨by show 2<=sizeLine;decide,[.int i s.toks,u1],.cons ⟨_,rfl⟩ (.cons ru1 .nil),_,b2.extBut _ _ ?_ a3,rfl,_,rfl⟩
     exact fun z=>low e _ he z.symm
    ·rw [ao eb,n] at q
     cases q
  ·refine ⟨⟨_,b1⟩,a2.at fun o q=>b2.extBut _ o hne.symm q⟩
  ·have n:=(hf b hb).1
   have:b≠s.heap.objs.size:=by
    simp at hb
    obtain ⟨_,q1,_⟩:=id h1
    rcases hb with rfl|rfl
    ·exact low _ _ he
    ·exact low _ _ q1
   rw [ao this]
   exact n
 done:=by
  intro X hP hw hK hc i pins s σ H E I hf st hg
  subst hP hw hK
  obtain ⟨xs,hx,hl⟩:=hg
  obtain ⟨⟨old,he⟩,h1⟩:=st
  obtain ⟨its1,rv1,p1,z1⟩:=I.list hx
  have e1:=rv1.length
  refine wpAny_pyNext_enum_end (I.ok.hd hc) he h1 p1.isList (by simp;omega) fun h' k=>⟨rfl,?_⟩
  obtain ⟨f0,f1,f2,f3,f4,f5⟩:=hf it (by simp)
  exact I.turned (t':=s.toks) (fun b o hb q=>k b o hb q) f0 f1 f3 f4 f5
 self:=fun _ _ _ _ _ st h=>wpAny_pyIter_enum st.1.choose_spec h
section
variable {X:Cx}
inductive uI (K:PySem.W.Frag) (R:It->Hp->Prop) (vs:List V) (H1:Hp):Prop
 | mk (l:_):vs=[.ref l]->(∃ xs,SqL K H1 l xs)->R (AQ K l) H1->uI K R vs H1
def Bt (K:PySem.W.Frag) (ta:TA):TI:=fun σ H R=>ta σ H fun vs H1=>uI K R vs H1
theorem lB:bootBuiltins "enumerate"=some (.type "enumerate"):=by decide +kernel
theorem qG {elts:List Expr} {kt:Nat} {tp:Pos} {a:Expr} {ta:TA} {p pos:Pos} (hg:Gl X "enumerate") (hm:X.mg "enumerate"=none) (ha:PA X [a] ta) (hs:starEach [a] X.env=[(false,eval a X.env)]:=by rfl) :
  PI X (.Tuple elts kt tp) (.Call (.Name "enumerate" p) [a] [] pos) (Bt X.K ta):=by
 refine ⟨?_⟩
 intro pins s σ H R I h
 refine Call_ (ff I hg hm lB (EV (bK (ha pos pins s σ H _ I h) fun us s1 ⟨vs,H1,I1,r1,q1⟩=>?_) hs rfl))
 obtain ⟨l,e,⟨xs,hx⟩,q⟩:=q1
 subst e
 cases r1 with
 | cons r rr=>
  cases rr
  cases r
  obtain ⟨its1,rv1,p1,z1⟩:=I1.list hx
  refine call_enumerate_list p1.isList fun h' a1 a2 a3 a4=>?_
  refine wpAny_pyIter_enum a1 ?_
  refine ⟨_,[s1.heap.objs.size+1,s1.heap.objs.size],_,_,H1,rfl,I1.kept (t':=s1.toks) a4,sy (Fz (Fs _)),⟨⟨_,a1⟩,a2⟩,fun b hb=>?_,q⟩
  have hb':s1.heap.objs.size<=b:=by
   simp only [Ej,Es,or_false] at hb
   rcases hb with e|e<;>rw [e]
   ·exact Nat.le_add_right _ _
   ·exact Ec _
  exact I1.fpOk hb' (I1.hok.fresh hb')
end
theorem uJ {K:PySem.W.Frag} {l:Addr} {xs:List V} {g:TG} {tb:TS} {D:Ends} {σ:St} {H:Hp} (Pv:Nat->St->Hp->Prop) (h0:Pv 0 σ H) (hl:∀ i σ H,i<=xs.length->Pv i σ H->SqL K H l xs)
  (hs:∀ i x σ H T,xs[i]?=some x->H T=none->Pv i σ H->g (.ref T) σ (ax H T (.tup [.int i,x])) fun σ2 H2=>tb { D with nx:=Pv (i+1),ct:=Pv (i+1),bk:=D.nx } σ2 H2) (hd:∀ σ H,Pv xs.length σ H->D.nx σ H) :
  ∃ W:Nat->Nat->St->Hp->Prop,(∃ m,W 0 m σ H)/\∀ i m σ H,W i m σ H->
   ((AQ K l).stop i H/\D.nx σ H)\/((AQ K l).go i H/\∃ N:St->Hp->Prop,(∀ σ' H',N σ' H'->∃ m',m' < m/\W (i+1) m' σ' H')/\∀ x H',(AQ K l).yld i H x H'->g x σ H' fun σ2 H2=>tb { D with nx:=N,ct:=N,bk:=D.nx } σ2 H2):=by
 refine ⟨fun i m σ H=>m=xs.length - i/\i<=xs.length/\Pv i σ H,⟨xs.length,by simp,EM _,h0⟩,?_⟩
 rintro i m σ H ⟨rfl,hi,p⟩
 have q:=hl i σ H hi p
 by_cases hlt:i < xs.length
 ·refine .inr ⟨⟨xs,xs[i],q,by simp [hlt]⟩,Pv (i+1),fun σ' H' p'=>⟨xs.length - (i+1),by omega,rfl,hlt,p'⟩,fun v H' y=>?_⟩
  obtain ⟨T,x,e1,hT,e2,hy⟩:=y
  subst e1 e2
  exact hs i x σ H T (hy xs q) hT p
 ·have e:i=xs.length:=by omega
  subst e
  exact .inl ⟨⟨xs,q,Ec _⟩,hd σ H p⟩
end L2
namespace L2
open PySem PySem.Spec PyProof.Rows
section
variable {X:Cx}
theorem pq:dW X (.type "dict") (fun xs H Q=>∃ (d:Addr) (kvs:List (cq×V)),xs=[.ref d]/\H d=some (.dK kvs)/\∀ a,H a=none->Q (.ref a) (ax H a (.dK kvs))):=by
 intro pins s σ H xs us Q I r h
 obtain ⟨d,kvs,rfl,hd,q⟩:=h
 obtain ⟨u,rfl,rx⟩:=gZ r
 cases rx
 obtain ⟨hz,hs,vs,rel,dd⟩:=nV I.hok hd
 refine PySem.kt_call_dict hs dd (by rw [<-rel.length];exact hz) fun h' hd' hsb=>?_
 have hk:∀ b o,s.heap.get? b=some o->h'.get? b=some o:=fun b o e=>hsb.extBut b o (Ey (Ef e)) (D6 _ e)
 have hbig:=I.big
 have e:s={ s with toks:=s.toks }:=by cases s;rfl
 refine ⟨.ref s.heap.objs.size,_,I.laid (t':=s.toks) (a:=s.heap.objs.size) (o:=.dK kvs) hk (Ec _) ?_,rfl,q _ (I.hok.fresh (Ec _))⟩
 exact mm hz (by
  have:¬ s.heap.objs.size=sysModules:=Fz hbig
  simpa using this) rel hd'
end
end L2
namespace PySem
open Sem (wp)
def tupIt (l:Addr):Obj:={ cls:=.type "tuple_iterator",data:=.fields #[.ref l,.int 0 0] }
def enumOver (it:Addr):Obj:={ cls:=.type "enumerate",data:=.fields #[.none,.bool false,.ref it,rawInt 0,.none,.none] }
theorem made_enum (l:Addr) (items:Array Value) (n:Nat) (od:Option Addr) (os:Array (Option Value)):Meets (Builtin.«enumerate.__new__» ⟨[.type "enumerate",.ref l],[]⟩) (fun _ R s=>
  s.heap.get? l=some { cls:=.type "tuple",dict:=od,data:=.seq items n,slots:=os }/\R (.ok (.ret (.ref (s.heap.push (tupIt l)).objs.size))) { s with heap:=(s.heap.push (tupIt l)).push (enumOver s.heap.objs.size) }):=
 .of_wp fun prog w A R s both=>by
  rcases s with ⟨hp,gs,dr,tk,sys⟩
  have there:=both.1
  have good:=both.2
  have under:=sub_enumerate
  have isT:hp.IsTuple l items:=⟨_,there,rfl,n,rfl⟩
  wp_walk using wpAny_loadPart' there
  refine wpAny_stack_any fun _=>wpAny_pure ?_
  split
  ·rename_i c _ _ _ _ _
   rcases hb:(c == Value.type "enumerate") with _|_<;>(wp_walk using wpAny_loadPart' there,wpAny_pyIter_tuple isT;exact ⟨_,rfl,good⟩)
  ·(wp_walk using wpAny_loadPart' there,wpAny_pyIter_tuple isT;exact ⟨_,rfl,good⟩)
section
variable {prog:Program} {w:World} {A:Around} {E:Value->Shared->Prop} {s:Shared}
theorem enum_of_tuple {l:Addr} {items:Array Value} {Q:Value->Shared->Prop} (isT:s.heap.IsTuple l items)
  (h:Q (.ref (s.heap.objs.size+1)) { s with heap:=(s.heap.push (tupIt l)).push (enumOver s.heap.objs.size) }):wpAny (model prog w) A (call (.type "enumerate") [.ref l]) Q E s:=by
 obtain ⟨o,there,isC,n,isD⟩:=isT
 cases o with
 | mk oc od odt osl=>
  dsimp only at isC isD
  subst isC isD
  have sz:(s.heap.push (tupIt l)).objs.size=s.heap.objs.size+1:=E2 ..
  have lies:((s.heap.push (tupIt l)).push (enumOver s.heap.objs.size)).get? (s.heap.objs.size+1)=some (enumOver s.heap.objs.size):=sz ▸ Em (s.heap.push (tupIt l)) rfl
  refine callType_new F.called_enumerate (by decide) (F.typeCall_enumerate_1 _) (F.newCall_enumerate_1 _) (fun x=>F.args_object_init_2 x _) F.entry_enumerate_new (made_enum l items n od osl) ⟨there,?_⟩
  show _/\_
  rw [sz]
  exact ⟨⟨_,lies,rfl⟩,h⟩
end
section
variable {prog:Program} {w:World} {A:Around} {E:Value->Shared->Prop} {s:Shared}
theorem nextOf_tuple_item {it t:Addr} {i:Nat} {items:Array Value} {x:Value} {Q:Value->Shared->Prop} (hit:s.heap.IsTupleIter it t i) (ht:s.heap.IsTuple t items) (hx:items[i]?=some x)
  (hQ:∀ h',h'.IsTupleIter it t (i+1)->Heap.SameBut it s.heap h'->Q x { s with heap:=h' }):wpAny (model prog w) A (Builtin.SmallTypes.nextOf (.ref it)) Q E s:=by
 obtain ⟨o,ho,hc,hd⟩:=id hit
 obtain ⟨ol,hol,_,nl,hdl⟩:=ht
 unfold Builtin.SmallTypes.nextOf
 refine wpAny_bind (wpAny_callSpecial?_slot (name:=Str.ofString "__next__") hit.typeIs F.slot_tuple_iterator_next
  (wpAny_call_entry F.slot_tuple_iterator_next hit.typeIs F.entry_tuple_iterator_next ?_ (F.args_tuple_iterator_next_1 _)))
 show wpAny _ _ (field (.ref it) 0 >>= _) _ _ s
 refine wpAny_bind (wpAny_field ho hd (x:=.ref t) rfl ?_)
 show wpAny _ _ (if (Value.ref t == Value.none)=true then _ else _) _ _ s
 rw [if_neg (show ¬ ((Value.ref t == Value.none)=true) from Eo)]
 show wpAny _ _ (field (.ref it) 1 >>= _) _ _ s
 refine wpAny_bind (wpAny_field ho hd (x:=.int i 0) rfl ?_)
 show wpAny _ _ (seqItems? (.ref t) >>= _) _ _ s
 refine wpAny_bind (wpAny_seqItems hol hdl ?_)
 simp only [E6,hx]
 refine wpAny_bind (wpAny_setField ho hd (by simp) (wpAny_pure ⟨x,rfl,wpAny_pure (hQ _ ?_ (Heap.SameBut.update ..))⟩))
 exact ⟨_,Heap.get?_update_self _ ho (Obj.isFreed_of_fields (Obj.data_mapFields hd _)),(Obj.cls_mapFields ..).trans hc,by
  rw [Obj.data_mapFields hd];simp [rawInt]⟩
theorem nextOf_tuple_end {it t:Addr} {i:Nat} {items:Array Value} {Q:Value->Shared->Prop} (hh:A.handled=none) (hit:s.heap.IsTupleIter it t i) (ht:s.heap.IsTuple t items) (hx:items[i]?=none)
  (hE:∀ h' e,Heap.ExtBut it s.heap h'->(∃ o,h'.get? e=some o/\o.cls=.type "StopIteration")->E (.ref e) { s with heap:=h' }):wpAny (model prog w) A (Builtin.SmallTypes.nextOf (.ref it)) Q E s:=by
 obtain ⟨o,ho,hc,hd⟩:=id hit
 obtain ⟨ol,hol,_,nl,hdl⟩:=ht
 unfold Builtin.SmallTypes.nextOf
 refine wpAny_bind (wpAny_callSpecial?_slot (name:=Str.ofString "__next__") hit.typeIs F.slot_tuple_iterator_next
  (wpAny_call_entry F.slot_tuple_iterator_next hit.typeIs F.entry_tuple_iterator_next ?_ (F.args_tuple_iterator_next_1 _)))
 show wpAny _ _ (field (.ref it) 0 >>= _) _ _ s
 refine wpAny_bind (wpAny_field ho hd (x:=.ref t) rfl ?_)
 show wpAny _ _ (if (Value.ref t == Value.none)=true then _ else _) _ _ s
 rw [if_neg (show ¬ ((Value.ref t == Value.none)=true) from Eo)]
 show wpAny _ _ (field (.ref it) 1 >>= _) _ _ s
 refine wpAny_bind (wpAny_field ho hd (x:=.int i 0) rfl ?_)
 show wpAny _ _ (seqItems? (.ref t) >>= _) _ _ s
 refine wpAny_bind (wpAny_seqItems hol hdl ?_)
 simp only [E6,hx]
 refine wpAny_bind (wpAny_rule (wpAny_bind (wpAny_setField ho hd (by simp) ?_)))
 show wpAny _ _ (newExc (.type "StopIteration") [] >>= _) _ _ _
 refine wpAny_bind ?_
 simp only [newExc,newTuple]
 refine wpAny_bind (wpAny_newObj_type ?_ (by size_fits))
 refine wpAny_bind (m:=firstArgMember _ _) (wpAny_of_eq (a:=Value.none) (by first|rfl|(simp only [firstArgMember];rfl)) ?_)
 refine wpAny_newObj_type ?_ (by size_fits)
 simp only [raiseNew]
 refine wpAny_bind (wpAny_handled ?_)
 first|rw [show A.in1.handled=none from hh]|rw [hh]
 refine wpAny_bind (wpAny_pure (wpAny_throw ?_))
 exact hE _ _ (((Heap.SameBut.update ..).extBut.push _).push _) ⟨_,Em _ rfl,rfl⟩
end
theorem drawsTuple {prog:Program} {w:World} {A:Around} (hh:A.handled=none) (it l:Addr) (hne:l≠it) (items:Array Value) :
  Draws prog w A it [it,l] items.size (fun i v=>items[i]?=some v) (fun i h=>h.IsTupleIter it l i/\h.IsTuple l items) where
 live:=fun _ _ st=>let ⟨o,ho,_⟩:=st.1;⟨o,ho⟩
 frame:=fun _ _ _ st hk=>⟨let ⟨o,ho,r⟩:=st.1;⟨o,hk it (by simp) o ho,r⟩,let ⟨o,ho,r⟩:=st.2;⟨o,hk l (by simp) o ho,r⟩⟩
 item:=fun i s Q E hi st hQ=>by
  refine nextOf_tuple_item st.1 st.2 (x:=items[i]) (by simp [hi]) fun h' hit' hs'=>?_
  exact hQ _ h' s.toks (by simp [hi]) ⟨hit',st.2.extBut hs'.extBut hne⟩ hs'
 done:=fun s Q E st hE=>nextOf_tuple_end hh st.1 st.2 (by simp) hE
end PySem
namespace L2
open PySem PySem.Spec PyProof.Rows
theorem Bu {h h':Heap} {it l:Addr} {i:Nat} (a:h.IsTupleIter it l i) (k:∀ o,h.get? it=some o->h'.get? it=some o):h'.IsTupleIter it l i:=let ⟨o,b,c⟩:=a;⟨o,k o b,c⟩
theorem yR {h:Heap} {it l:Addr} {i:Nat} {items:Array Value} (t:h.IsTuple l items) (a:h.IsTupleIter it l i):l≠it:=by
 rintro rfl
 obtain ⟨o,x,c,_⟩:=t
 obtain ⟨o',x',c',_⟩:=a
 rw [x] at x'
 cases x'
 rw [c] at c'
 injection c' with z
 exact absurd z (by decide)
theorem sE {prog:Program} {w:World} {A:Around} {E:Value->Shared->Prop} {s:Shared} {e it l:Addr} {i:Nat} {items:Array Value} {old:Value} {Q:Option Value->Shared->Prop} (hh:A.handled=none) (he:IsEnum s.heap e it i old) (h1:s.heap.IsTupleIter it l i) (isT:s.heap.IsTuple l items) (hi:items.size<=i)
  (hQ:∀ h',Heap.ExtBut it s.heap h'->Q none { s with heap:=h' }):wpAny (model prog w) A (pyNext (.ref e)) Q E s:=by
 have hT:s.TypeIs (.ref e) "enumerate":=⟨_,he,rfl⟩
 unfold pyNext
 refine wpAny_bind (wpAny_attempt (wpAny_callSpecial?_slot (name:=Str.ofString "__next__") hT PySem.F.slot_enumerate_next (wpAny_call_entry PySem.F.slot_enumerate_next hT PySem.F.entry_enumerate_next ?_ (PySem.F.args_enumerate_next_1 _))))
 show wpAny _ _ (field (.ref e) 2 >>= _) _ _ _
 refine wpAny_bind (wpAny_field he rfl (x:=.ref it) rfl ?_)
 refine wpAny_bind (PySem.nextOf_tuple_end hh h1 isT (Array.getElem?_eq_none hi) fun h' x he' hx'=>?_)
 obtain ⟨o,ho,hc⟩:=hx'
 refine wpAny_bind (wpAny_isInstance (T:="StopIteration") (b:=true) ⟨o,ho,hc⟩ isSubtype_stop ?_)
 exact wpAny_pure (hQ _ he')
def uK (K:PySem.W.Frag) (l:Addr):It:=
 ⟨fun i H=>∃ xs x,SqT K H l xs/\xs[i]?=some x,
  fun i H v H'=>∃ T x,v=.ref T/\H T=none/\H'=ax H T (.tup [.int i,x])/\∀ xs,SqT K H l xs->xs[i]?=some x,
  fun i H=>∃ xs,SqT K H l xs/\xs.length<=i⟩
theorem pr {P:Program} {w:World} {K:PySem.W.Frag} {elts:List Expr} {kt:Nat} {tp:Pos} {e it l:Addr} (hne:e≠it) :
  kD P w K (.Tuple elts kt tp) (uK K l) [e,it] e (fun i h=>(∃ old,IsEnum h e it i old)/\h.IsTupleIter it l i) where
 mem:=by simp
 obj:=fun i h st b hb=>by
  obtain ⟨⟨old,he⟩,⟨o1,h1,_,d1⟩⟩:=st
  simp at hb
  rcases hb with rfl|rfl
  ·exact ⟨_,he,fun v q=>by cases q⟩
  ·exact ⟨_,h1,fun v q=>by rw [d1] at q;cases q⟩
 keep:=fun i h h' st k=>by
  obtain ⟨⟨old,he⟩,h1⟩:=st
  exact ⟨⟨old,k e (by simp) _ he⟩,Bu h1 fun o q=>k it (by simp) o q⟩
 item:=by
  intro X hP hw hK hc i pins s σ H E I hf st hg
  subst hP hw hK
  obtain ⟨xs,x,hx,ex⟩:=hg
  obtain ⟨⟨old,he⟩,h1⟩:=st
  obtain ⟨its1,rv1,p1,z1⟩:=I.tuple hx
  obtain ⟨u1,eu1,ru1⟩:=rv1.get ex
  have isT:s.heap.IsTuple l its1.toArray:=let ⟨o,a,b,n,c⟩:=p1;⟨o,a,b,n,c⟩
  have nl:l≠it:=yR isT h1
  have ne2:e∉[it,l]:=by
   intro m
   simp only [Ej,Es,or_false] at m
   rcases m with m|m
   ·exact hne m
   ·subst m
    obtain ⟨o,a,b,_⟩:=isT
    rw [show s.heap.get? e=_ from he] at a
    cases a
    injection b with z
    exact absurd z (by decide)
  have hlt:i < its1.toArray.size:=by
   have:=(D7.mp eu1).1
   simpa using this
  refine wpAny_pyNext_enum_itemD (PySem.drawsTuple (A:=X.A.in1) (show X.A.in1.handled=none from I.ok.hd hc) it l nl its1.toArray) he ⟨h1,isT⟩ hlt hne ne2 fun v h' tk px a1 a2' a3 a4 a5=>⟨_,rfl,?_⟩
  have evu:v=u1:=by
   have e2:its1.toArray[i]?=some u1:=by simpa using eu1
   rw [e2] at px
   exact (Eg px).symm
  subst evu
  have a2:=a2'.1
  refine wpAny_letOwnedTupleGo_enum a1 fun h'' b1 b2=>?_
  have hT:H s.heap.objs.size=none:=I.hok.fresh (Ec _)
  have low:∀ b o,s.heap.get? b=some o->b≠s.heap.objs.size:=fun b o q=>Ey (Ef q)
  refine ⟨.ref s.heap.objs.size,ax H s.heap.objs.size (.tup [.int i,x]),?_,rfl,⟨s.heap.objs.size,x,rfl,hT,rfl,fun xs' h=>by rw [I.tuple_inj h hx];exact ex⟩,?_,fun b hb=>?_⟩
  ·show Inv X pins σ (ax H s.heap.objs.size (.tup [.int i,x])) { s with heap:=h'',toks:=tk+1 }
   refine Inv.turnedS (s:=s) (h':=h'') (t':=tk+1) (ch:=[e,it]) I (fun b hb=>hf b hb) (fun b o hc q=>?_) (fun b o q=>by rw [ao (aG q hT)];exact q) (fun b hb n=>by rw [ao (Ey hb)];exact n) fun b o n q=>?_
   ·simp at hc
    exact b2.extBut b o hc.1 (a5 b o hc.1 hc.2 q)
   ·by_cases eb:b=s.heap.objs.size
    ·subst eb
     rw [ad] at q
     cases q
     refine ⟨by show 2<=sizeLine;decide,[.int i tk,v],.cons ⟨_,rfl⟩ (.cons ru1 .nil),_,b2.extBut _ _ ?_ a3,rfl,_,rfl⟩
     exact fun z=>low e _ he z.symm
    ·rw [ao eb,n] at q
     cases q
  ·refine ⟨⟨_,b1⟩,Bu a2 fun o q=>b2.extBut _ o hne.symm q⟩
  ·have n:=(hf b hb).1
   have:b≠s.heap.objs.size:=by
    simp at hb
    obtain ⟨_,q1,_⟩:=id h1
    rcases hb with rfl|rfl
    ·exact low _ _ he
    ·exact low _ _ q1
   rw [ao this]
   exact n
 done:=by
  intro X hP hw hK hc i pins s σ H E I hf st hg
  subst hP hw hK
  obtain ⟨xs,hx,hl⟩:=hg
  obtain ⟨⟨old,he⟩,h1⟩:=st
  obtain ⟨its1,rv1,p1,z1⟩:=I.tuple hx
  have e1:=rv1.length
  have isT:s.heap.IsTuple l its1.toArray:=let ⟨o,a,b,n,c⟩:=p1;⟨o,a,b,n,c⟩
  have nl:l≠it:=yR isT h1
  refine sE (I.ok.hd hc) he h1 isT (by simp;omega) fun h' k=>⟨rfl,?_⟩
  obtain ⟨f0,f1,f2,f3,f4,f5⟩:=hf it (by simp)
  exact I.turned (t':=s.toks) (fun b o hb q=>k b o hb q) f0 f1 f3 f4 f5
 self:=fun _ _ _ _ _ st h=>wpAny_pyIter_enum st.1.choose_spec h
section
variable {X:Cx}
inductive qH (K:PySem.W.Frag) (R:It->Hp->Prop) (vs:List V) (H1:Hp):Prop
 | mk (l:_):vs=[.ref l]->(∃ xs,SqT K H1 l xs)->R (uK K l) H1->qH K R vs H1
def zE (K:PySem.W.Frag) (ta:TA):TI:=fun σ H R=>ta σ H fun vs H1=>qH K R vs H1
theorem jS {elts:List Expr} {kt:Nat} {tp:Pos} {a:Expr} {ta:TA} {p pos:Pos} (hg:Gl X "enumerate") (hm:X.mg "enumerate"=none) (ha:PA X [a] ta) (hs:starEach [a] X.env=[(false,eval a X.env)]:=by rfl) :
  PI X (.Tuple elts kt tp) (.Call (.Name "enumerate" p) [a] [] pos) (zE X.K ta):=by
 refine ⟨?_⟩
 intro pins s σ H R I h
 refine Call_ (ff I hg hm lB (EV (bK (ha pos pins s σ H _ I h) fun us s1 ⟨vs,H1,I1,r1,q1⟩=>?_) hs rfl))
 obtain ⟨l,e,⟨xs,hx⟩,q⟩:=q1
 subst e
 cases r1 with
 | cons r rr=>
  cases rr
  cases r
  obtain ⟨its1,rv1,p1,z1⟩:=I1.tuple hx
  have isT:s1.heap.IsTuple l its1.toArray:=let ⟨o,a,b,n,c⟩:=p1;⟨o,a,b,n,c⟩
  refine PySem.enum_of_tuple isT ?_
  have sz:(s1.heap.push (PySem.tupIt l)).objs.size=s1.heap.objs.size+1:=E2 ..
  have a1:IsEnum ((s1.heap.push (PySem.tupIt l)).push (PySem.enumOver s1.heap.objs.size)) (s1.heap.objs.size+1) s1.heap.objs.size 0 .none:=sz ▸ Em (s1.heap.push (PySem.tupIt l)) rfl
  have a2:((s1.heap.push (PySem.tupIt l)).push (PySem.enumOver s1.heap.objs.size)).IsTupleIter s1.heap.objs.size l 0:=⟨_,D6 _ (Em _ rfl),rfl,rfl⟩
  have a4:∀ b o,s1.heap.get? b=some o->((s1.heap.push (PySem.tupIt l)).push (PySem.enumOver s1.heap.objs.size)).get? b=some o:=fun b o x=>D6 _ (D6 _ x)
  refine wpAny_pyIter_enum a1 ?_
  refine ⟨_,[s1.heap.objs.size+1,s1.heap.objs.size],_,_,H1,rfl,I1.kept (t':=s1.toks) a4,pr (Fz (Fs _)),⟨⟨_,a1⟩,a2⟩,fun b hb=>?_,q⟩
  have hb':s1.heap.objs.size<=b:=by
   simp only [Ej,Es,or_false] at hb
   rcases hb with e|e<;>rw [e]
   ·exact Nat.le_add_right _ _
   ·exact Ec _
  exact I1.fpOk hb' (I1.hok.fresh hb')
end
theorem iO {K:PySem.W.Frag} {l:Addr} {xs:List V} {g:TG} {tb:TS} {D:Ends} {σ:St} {H:Hp} (Pv:Nat->St->Hp->Prop) (h0:Pv 0 σ H) (hl:∀ i σ H,i<=xs.length->Pv i σ H->SqT K H l xs)
  (hs:∀ i x σ H T,xs[i]?=some x->H T=none->Pv i σ H->g (.ref T) σ (ax H T (.tup [.int i,x])) fun σ2 H2=>tb { D with nx:=Pv (i+1),ct:=Pv (i+1),bk:=D.nx } σ2 H2) (hd:∀ σ H,Pv xs.length σ H->D.nx σ H) :
  ∃ W:Nat->Nat->St->Hp->Prop,(∃ m,W 0 m σ H)/\∀ i m σ H,W i m σ H->
   ((uK K l).stop i H/\D.nx σ H)\/((uK K l).go i H/\∃ N:St->Hp->Prop,(∀ σ' H',N σ' H'->∃ m',m' < m/\W (i+1) m' σ' H')/\∀ x H',(uK K l).yld i H x H'->g x σ H' fun σ2 H2=>tb { D with nx:=N,ct:=N,bk:=D.nx } σ2 H2):=by
 refine ⟨fun i m σ H=>m=xs.length - i/\i<=xs.length/\Pv i σ H,⟨xs.length,by simp,EM _,h0⟩,?_⟩
 rintro i m σ H ⟨rfl,hi,p⟩
 have q:=hl i σ H hi p
 by_cases hlt:i < xs.length
 ·refine .inr ⟨⟨xs,xs[i],q,by simp [hlt]⟩,Pv (i+1),fun σ' H' p'=>⟨xs.length - (i+1),by omega,rfl,hlt,p'⟩,fun v H' y=>?_⟩
  obtain ⟨T,x,e1,hT,e2,hy⟩:=y
  subst e1 e2
  exact hs i x σ H T (hy xs q) hT p
 ·have e:i=xs.length:=by omega
  subst e
  exact .inl ⟨⟨xs,q,Ec _⟩,hd σ H p⟩
end L2
namespace PySem
open Sem (wp)
section
open PySem.SeqAt
open PySem.AutoSeq1 (wpAny_loadPart')
open PySem.MeetsSeq PySem.MeetsSeq2 PySem.MeetsSeq3
theorem wpAny_forIn_rng {M:Model} {A:Around} {E:Value->Shared->Prop} {s:Shared} {β:Type} (f:Nat->β->Sem (ForInStep β)) (I:List Nat->β->Shared->Prop) (Q:β->Shared->Prop)
  (turn:∀ (x:Nat) (rest:List Nat) (b:β) (s:Shared),I (x::rest) b s->wpAny M A (f x b) (fun r s'=>match r with|.yield b'=>I rest b' s'|.done b'=>Q b' s') E s)
  (fin:∀ (b:β) (s:Shared),I [] b s->Q b s) (r:Std.Legacy.Range) (b:β) (h:I (List.range' r.start r.size r.step) b s):wpAny M A (forIn r b f) Q E s:=by
 rw [Std.Legacy.Range.forIn_eq_forIn_range']
 exact wpAny_forIn_list f I Q turn fin _ b h
theorem tuple_indexAt (l:Addr) (items:Array Value) (n:Nat) (dd:Option Addr) (sl:Array (Option Value)) (x:Value) (e:Value->Bool) (j:Nat) (hj:j < items.size) (he:e items[j]=true) (hn:∀ (m:Nat) (hm:m < items.size),m < j->e items[m]=false) :
  Meets (Builtin.«tuple.index» ⟨[.ref l,x],[]⟩) (fun A R s=>s.heap.get? l=some { cls:=.type "tuple",dict:=dd,data:=.seq items n,slots:=sl }/\(∀ y∈items,EqAt A.in1 s y x (e y))/\∀ t k,R (.ok (.ret (.int j t))) { s with toks:=k }):=
 .of_wp fun prog w A R s h=>by
  obtain ⟨hp,g,d,tk,os⟩:=s;obtain ⟨hl,hb,h⟩:=h
  wp_walk using wpAny_loadPart' hl,wpAny_forIn_rng _ (fun rest b s'=>b.1=none/\s'=⟨hp,g,d,tk,os⟩/\∃ k,rest=List.range' k (items.size - k)/\k<=j) _
  case turn=>
   rintro i rest b s' ⟨hb',rfl,k,hr,hk⟩
   have hz:items.size - k=(items.size - (k+1))+1:=by omega
   rw [hz,List.range'_succ] at hr
   injection hr with h1 h2
   subst h1
   have hki:i < items.size:=by omega
   have hg:items[i]?=some items[i]:=by simp [hki]
   rw [hg]
   have hq:=hb items[i] (by simp)
   refine wpAny_bind (hq prog w _ _ ?_)
   by_cases hij:i=j
   ·subst hij
    rw [he]
    wp_walk
    exact ⟨_,rfl,h _ _⟩
   ·rw [hn i hki (by omega)]
    wp_walk
    exact ⟨rfl,rfl,i+1,h2,by omega⟩
  case fin=>
   rintro b s' ⟨hb',rfl,k,hr,hk⟩
   have hz:items.size - k=(items.size - (k+1))+1:=by omega
   rw [hz,List.range'_succ] at hr
   cases hr
  case h=>
   refine ⟨rfl,rfl,0,?_,EM _⟩
   simp [Std.Legacy.Range.size]
end
end PySem
namespace L2
open PySem PySem.Spec PyProof.Rows
section
variable {X:Cx}
theorem jc:Bi X "tuple.index" (fun x xs H Q=>∃ (p:Addr) (zs:List Str) (z:Str) (j:Nat),x=.ref p/\xs=[.str z]/\SqT X.K H p (zs.map V.str)/\zs[j]?=some z/\(∀ m,m < j->zs[m]?≠some z)/\Q (.int (j:Nat)) H):=by
 intro pins s σ H x xs v us Q I rx rv h
 obtain ⟨p,zs,z,j,rfl,rfl,hS,hj,hn,q⟩:=h
 cases rx
 obtain ⟨u,rfl,ru⟩:=rv.one
 obtain ⟨its,r,pl,hz⟩:=I.tuple hS
 have hfl:(zs.map V.str).all hG=true:=by
  rw [List.all_map]
  exact ER.mpr fun _ _=>rfl
 have hlen:=r.length
 rw [D5] at hlen
 have hjl:j < zs.length:=(D7.mp hj).1
 have ev:∀ m (hm:m < its.toArray.size),nI (.str z) its.toArray[m]=decide (zs[m]?=some z):=fun m hm=>by
  have hm':m < zs.length:=by rw [hlen];simpa using hm
  obtain ⟨w,ew,rw'⟩:=r.get (i:=m) (x:=.str zs[m]) (by simp [hm'])
  have e2:its.toArray[m]=w:=by
   have:=(D7.mp ew).2
   simpa using this
  rw [e2,o9 rw' rfl,El hm']
  show sd (.str zs[m]) (.str z)=_
  by_cases hh:zs[m]=z
  ·simp [hh,sd]
  ·simp [hh,sd]
 obtain ⟨o,there,isC,n,isD⟩:=pl
 cases o with
 | mk oc od odt osl=>
  dsimp only at isC isD
  subst isC isD
  refine call_meets F.slot_tuple_index ⟨_,there,rfl⟩ F.entry_tuple_index (F.args_tuple_index_2 _ _) (tuple_indexAt p its.toArray n od osl u (nI (.str z)) j (by simpa [<-hlen] using hjl) ?_ ?_) ⟨there,fun w hw=>eY ru rfl r hfl w (by simpa using hw),fun t k=>⟨.int j,H,I.tok _,⟨t,rfl⟩,q⟩⟩
  ·rw [ev,hj]
   simp
  ·intro m hm hmj
   rw [ev]
   simpa using hn m hmj
end
end L2
namespace PySem
open Sem (wp)
def IsItB:Bool->Heap->Addr->Addr->Nat->Prop
 | true,h,it,l,i=>h.IsTupleIter it l i
 | false,h,it,l,i=>h.IsListIter it l i
def IsSqB:Bool->Heap->Addr->Array Value->Prop
 | true,h,l,xs=>h.IsTuple l xs
 | false,h,l,xs=>h.IsList l xs
theorem IsItB.at {b:Bool} {h h':Heap} {it l:Addr} {i:Nat} (a:IsItB b h it l i) (k:∀ o,h.get? it=some o->h'.get? it=some o):IsItB b h' it l i:=by
 cases b with
 | true=>exact (let ⟨o,x,y⟩:=a;⟨o,k o x,y⟩:h'.IsTupleIter it l i)
 | false=>exact (let ⟨o,x,y⟩:=a;⟨o,k o x,y⟩:h'.IsListIter it l i)
theorem IsSqB.at {b:Bool} {h h':Heap} {l:Addr} {xs:Array Value} (a:IsSqB b h l xs) (k:∀ o,h.get? l=some o->h'.get? l=some o):IsSqB b h' l xs:=by
 cases b with
 | true=>exact (let ⟨o,x,y⟩:=a;⟨o,k o x,y⟩:h'.IsTuple l xs)
 | false=>exact (let ⟨o,x,y⟩:=a;⟨o,k o x,y⟩:h'.IsList l xs)
theorem IsItB.some {b:Bool} {h:Heap} {it l:Addr} {i:Nat} (a:IsItB b h it l i):∃ o,h.get? it=some o/\∀ v,o.data≠.cell v:=by
 cases b with
 | true=>exact (let ⟨o,x,_,z⟩:=a;⟨o,x,fun v q=>by rw [z] at q;cases q⟩)
 | false=>exact (let ⟨o,x,_,z⟩:=a;⟨o,x,fun v q=>by rw [z] at q;cases q⟩)
section
variable {prog:Program} {w:World} {A:Around} {E:Value->Shared->Prop} {s:Shared}
theorem nextB_item {b:Bool} {it l:Addr} {i:Nat} {items:Array Value} {x:Value} {Q:Value->Shared->Prop} (hit:IsItB b s.heap it l i) (hl:IsSqB b s.heap l items) (hx:items[i]?=some x)
  (hQ:∀ h',IsItB b h' it l (i+1)->Heap.SameBut it s.heap h'->Q x { s with heap:=h' }):wpAny (model prog w) A (Builtin.SmallTypes.nextOf (.ref it)) Q E s:=by
 cases b with
 | true=>exact nextOf_tuple_item hit hl hx hQ
 | false=>exact wpAny_nextOf_list_item hit hl hx hQ
theorem nextB_end {b:Bool} {it l:Addr} {i:Nat} {items:Array Value} {Q:Value->Shared->Prop} (hh:A.handled=none) (hit:IsItB b s.heap it l i) (hl:IsSqB b s.heap l items) (hx:items[i]?=none)
  (hE:∀ h' e,Heap.ExtBut it s.heap h'->(∃ o,h'.get? e=some o/\o.cls=.type "StopIteration")->E (.ref e) { s with heap:=h' }):wpAny (model prog w) A (Builtin.SmallTypes.nextOf (.ref it)) Q E s:=by
 cases b with
 | true=>exact nextOf_tuple_end hh hit hl hx hE
 | false=>exact wpAny_nextOf_list_end hh hit hl hx hE
theorem zip_itemB {b1 b2:Bool} {z TI TO i1 i2 l1 l2:Addr} {k1 k2:Nat} {xs ys:Array Value} {x y a b:Value} {Q:Value->Shared->Prop} (D:ZipApart z TI TO i1 i2 l1 l2) (hz:IsZip s.heap z TI TO .none) (hTI:IsPair s.heap TI (.ref i1) (.ref i2)) (hTO:IsPair s.heap TO a b)
  (h1:IsItB b1 s.heap i1 l1 k1) (h2:IsItB b2 s.heap i2 l2 k2) (q1:IsSqB b1 s.heap l1 xs) (q2:IsSqB b2 s.heap l2 ys) (hx:xs[k1]?=some x) (hy:ys[k2]?=some y)
  (hQ:∀ h',IsZip h' z TI TO (rawInt s.heap.objs.size)->IsPair h' TO x y->IsItB b1 h' i1 l1 (k1+1)->IsItB b2 h' i2 l2 (k2+1)->IsPair h' s.heap.objs.size x y->h'.objs.size=s.heap.objs.size+1->
   (∀ c o,c≠z->c≠TO->c≠i1->c≠i2->s.heap.get? c=some o->h'.get? c=some o)->Q (.ref s.heap.objs.size) { s with heap:=h' }) :
  wpAny (model prog w) A (Builtin.«zip.__next__» ⟨[.ref z],[]⟩) (fun fin s'=>∃ v,fin=.done (.ret v)/\Q v s') E s:=by
 show wpAny _ _ (field (.ref z) 2 >>= _) _ _ s
 refine wpAny_bind (wpAny_field hz rfl (x:=.bool false) rfl ?_)
 show wpAny _ _ (field (.ref z) 3 >>= _) _ _ s
 refine wpAny_bind (wpAny_field hz rfl (x:=.ref TI) rfl ?_)
 refine wpAny_bind (wpAny_seqItems hTI rfl ?_)
 show wpAny _ _ (Builtin.SmallTypes.ownedTupleIsFree (.ref z) >>= _) _ _ s
 refine wpAny_bind ?_
 unfold Builtin.SmallTypes.ownedTupleIsFree
 refine wpAny_bind (wpAny_field hz rfl (x:=.none) rfl (wpAny_pure ?_))
 show wpAny _ _ (rule "zip.__next__.owned-tuple-again" >>= _) _ _ s
 refine wpAny_bind (wpAny_rule (wpAny_bind (wpAny_field hz rfl (x:=.ref TO) rfl ?_)))
 show wpAny _ _ (setField (.ref z) 0 .ellipsis >>= _) _ _ s
 refine wpAny_bind (wpAny_setField hz rfl (by simp) ?_)
 have u1:=Heap.SameBut.update s.heap z (Obj.mapFields fun x_1=>x_1.setIfInBounds 0 Value.ellipsis)
 have z1:=Heap.get?_update_self (Obj.mapFields fun x_1=>x_1.setIfInBounds 0 Value.ellipsis) hz rfl
 generalize s.heap.update z (Obj.mapFields fun x_1=>x_1.setIfInBounds 0 Value.ellipsis)=hp1 at *
 show wpAny _ _ (forIn [(Value.ref i1,0),(Value.ref i2,1)] _ _ >>= _) _ _ _
 refine wpAny_bind ?_
 rw [List.forIn_cons]
 refine wpAny_bind ?_
 show wpAny _ _ (Sem.onRaise _ _ >>= _) _ _ _
 refine wpAny_bind (wpAny_onRaise ?_)
 show wpAny _ _ (Builtin.SmallTypes.nextOf (.ref i1) >>= _) _ _ _
 have e1:∀ c o,c≠z->s.heap.get? c=some o->hp1.get? c=some o:=fun c o n q=>(u1.2 c n).trans q
 refine wpAny_bind (nextB_item (h1.at fun o q=>e1 _ o D.i1z q) (q1.at fun o q=>e1 _ o D.l1z q) hx fun hp2 it2 u2=>wpAny_pure ?_)
 dsimp only at u2
 have e2:∀ c o,c≠z->c≠i1->s.heap.get? c=some o->hp2.get? c=some o:=fun c o n n' q=>(u2.2 c n').trans (e1 c o n q)
 have o2:hp2.get? TO=some { cls:=.type "tuple",data:=.seq #[a,b] }:=e2 _ _ D.TOz D.TOi1 hTO
 show wpAny _ _ (seqItems? (.ref TO) >>= _) _ _ _
 refine wpAny_bind (wpAny_seqItems o2 rfl ?_)
 show wpAny _ _ (updateSeq TO _ >>= _) _ _ _
 refine wpAny_bind (wpAny_updateSeq o2 rfl ?_ (by show 2<=sizeLine;decide) (by show 2<=sizeLine+1;decide))
 refine wpAny_bind (wpAny_letGo (wpAny_pure ?_))
 have u3:=Heap.SameBut.update hp2 TO (Obj.mapSeq fun x_1=>x_1.setIfInBounds 0 x)
 have o3:=Heap.get?_update_self (Obj.mapSeq fun x_1=>x_1.setIfInBounds 0 x) o2 rfl
 generalize hp2.update TO (Obj.mapSeq fun x_1=>x_1.setIfInBounds 0 x)=hp3 at *
 have e3:∀ c o,c≠z->c≠TO->c≠i1->s.heap.get? c=some o->hp3.get? c=some o:=fun c o n n' n2 q=>(u3.2 c n').trans (e2 c o n n2 q)
 show wpAny _ _ (forIn [(Value.ref i2,1)] _ _) _ _ _
 rw [List.forIn_cons]
 refine wpAny_bind ?_
 show wpAny _ _ (Sem.onRaise _ _ >>= _) _ _ _
 refine wpAny_bind (wpAny_onRaise ?_)
 show wpAny _ _ (Builtin.SmallTypes.nextOf (.ref i2) >>= _) _ _ _
 refine wpAny_bind (nextB_item (h2.at fun o q=>e3 _ o D.i2z D.TOi2.symm D.i12.symm q) (q2.at fun o q=>e3 _ o D.l2z D.l2TO D.l2i1 q) hy fun hp4 it4 u4=>wpAny_pure ?_)
 dsimp only at u4
 have o4:=(u4.2 TO D.TOi2).trans o3
 show wpAny _ _ (seqItems? (.ref TO) >>= _) _ _ _
 refine wpAny_bind (wpAny_seqItems o4 rfl ?_)
 show wpAny _ _ (updateSeq TO _ >>= _) _ _ _
 refine wpAny_bind (wpAny_updateSeq o4 rfl ?_ (by show 2<=sizeLine;decide) (by show 2<=sizeLine+1;decide))
 refine wpAny_bind (wpAny_letGo (wpAny_pure ?_))
 have u5:=Heap.SameBut.update hp4 TO (Obj.mapSeq fun x_1=>x_1.setIfInBounds 1 y)
 have o5:=Heap.get?_update_self (Obj.mapSeq fun x_1=>x_1.setIfInBounds 1 y) o4 rfl
 generalize hp4.update TO (Obj.mapSeq fun x_1=>x_1.setIfInBounds 1 y)=hp5 at *
 have e5:∀ c o,c≠z->c≠TO->c≠i1->c≠i2->s.heap.get? c=some o->hp5.get? c=some o:=fun c o n n' n2 n3 q=>(u5.2 c n').trans ((u4.2 c n3).trans (e3 c o n n' n2 q))
 show wpAny _ _ (forIn [] _ _) _ _ _
 rw [List.forIn_nil]
 refine wpAny_pure ?_
 show wpAny _ _ (seqItems? (.ref TO) >>= _) _ _ _
 refine wpAny_bind (wpAny_seqItems o5 rfl ?_)
 show wpAny _ _ (newTuple [x,y] >>= _) _ _ _
 refine wpAny_bind (wpAny_newTuple ?_ (by show 2<=sizeLine;decide))
 have sz:hp5.objs.size=s.heap.objs.size:=by rw [u5.1,u4.1,u3.1,u2.1,u1.1]
 have z5:hp5.get? z=some { cls:=.type "zip",data:=.fields #[.ellipsis,.bool false,.bool false,.ref TI,.ref TO] }:=(u5.2 z D.TOz.symm).trans ((u4.2 z D.i2z.symm).trans ((u3.2 z D.TOz.symm).trans ((u2.2 z D.i1z.symm).trans z1)))
 have z6:=D6 { cls:=Value.type "tuple",data:=Data.seq [x,y].toArray } z5
 have p6:=Em hp5 (o:={ cls:=Value.type "tuple",data:=Data.seq [x,y].toArray }) rfl
 have k6:∀ c o,hp5.get? c=some o->(hp5.push { cls:=Value.type "tuple",data:=Data.seq [x,y].toArray }).get? c=some o:=fun c o q=>D6 _ q
 have s6:(hp5.push { cls:=Value.type "tuple",data:=Data.seq [x,y].toArray }).objs.size=hp5.objs.size+1:=E2 ..
 generalize hp5.push { cls:=Value.type "tuple",data:=Data.seq [x,y].toArray }=hp6 at *
 have zs:z≠hp5.objs.size:=Ey (Ef z5)
 have t5:hp5.get? TO=some { cls:=.type "tuple",data:=.seq #[x,y] }:=o5
 show wpAny _ _ (Builtin.SmallTypes.ownedTupleHandOut (.ref z) (.ref hp5.objs.size) >>= _) _ _ _
 refine wpAny_bind ?_
 show wpAny _ _ (setField (.ref z) 0 (rawInt hp5.objs.size) >>= _) _ _ _
 refine wpAny_bind (wpAny_setField z6 rfl (by simp) ?_)
 have u7:=Heap.SameBut.update hp6 z (Obj.mapFields fun x_1=>x_1.setIfInBounds 0 (rawInt hp5.objs.size))
 have z7:=Heap.get?_update_self (Obj.mapFields fun x_1=>x_1.setIfInBounds 0 (rawInt hp5.objs.size)) z6 rfl
 generalize hp6.update z (Obj.mapFields fun x_1=>x_1.setIfInBounds 0 (rawInt hp5.objs.size))=hp7 at *
 refine wpAny_setField z7 rfl (by simp [Obj.mapFields]) ?_
 have u8:=Heap.SameBut.update hp7 z (Obj.mapFields fun x_1=>x_1.setIfInBounds 1 (.bool false))
 have z8:=Heap.get?_update_self (Obj.mapFields fun x_1=>x_1.setIfInBounds 1 (.bool false)) z7 rfl
 generalize hp7.update z (Obj.mapFields fun x_1=>x_1.setIfInBounds 1 (.bool false))=hp8 at *
 have k8:∀ c o,c≠z->hp5.get? c=some o->hp8.get? c=some o:=fun c o n q=>(u8.2 c n).trans ((u7.2 c n).trans (k6 c o q))
 refine wpAny_pure ⟨_,rfl,?_⟩
 show Q (.ref hp5.objs.size) _
 rw [sz] at p6 z8 zs s6 ⊢
 refine hQ hp8 z8 (k8 _ _ D.TOz t5) ?_ ?_ ((u8.2 _ zs.symm).trans ((u7.2 _ zs.symm).trans p6)) (by rw [u8.1,u7.1,s6]) fun c o n1 n2 n3 n4 q=>k8 c o n1 (e5 c o n1 n2 n3 n4 q)
 ·refine it2.at fun o q=>k8 _ o D.i1z ?_
  exact (u5.2 _ D.TOi1.symm).trans ((u4.2 _ D.i12).trans ((u3.2 _ D.TOi1.symm).trans q))
 ·refine it4.at fun o q=>k8 _ o D.i2z ?_
  exact (u5.2 _ D.TOi2.symm).trans q
theorem zip_endB {b1 b2:Bool} {z TI TO i1 i2 l1 l2:Addr} {k1 k2:Nat} {xs ys:Array Value} {a b:Value} {Q:Fin->Shared->Prop} (hh:A.handled=none) (D:ZipApart z TI TO i1 i2 l1 l2) (hz:IsZip s.heap z TI TO .none) (hTI:IsPair s.heap TI (.ref i1) (.ref i2)) (hTO:IsPair s.heap TO a b)
  (h1:IsItB b1 s.heap i1 l1 k1) (h2:IsItB b2 s.heap i2 l2 k2) (q1:IsSqB b1 s.heap l1 xs) (q2:IsSqB b2 s.heap l2 ys) (hx:xs[k1]?=none)
  (hE:∀ h' e,(∀ c o,c≠z->c≠TO->c≠i1->c≠i2->s.heap.get? c=some o->h'.get? c=some o)->(∃ o,h'.get? e=some o/\o.cls=.type "StopIteration")->E (.ref e) { s with heap:=h' }) :
  wpAny (model prog w) A (Builtin.«zip.__next__» ⟨[.ref z],[]⟩) Q E s:=by
 show wpAny _ _ (field (.ref z) 2 >>= _) _ _ s
 refine wpAny_bind (wpAny_field hz rfl (x:=.bool false) rfl ?_)
 show wpAny _ _ (field (.ref z) 3 >>= _) _ _ s
 refine wpAny_bind (wpAny_field hz rfl (x:=.ref TI) rfl ?_)
 refine wpAny_bind (wpAny_seqItems hTI rfl ?_)
 show wpAny _ _ (Builtin.SmallTypes.ownedTupleIsFree (.ref z) >>= _) _ _ s
 refine wpAny_bind ?_
 unfold Builtin.SmallTypes.ownedTupleIsFree
 refine wpAny_bind (wpAny_field hz rfl (x:=.none) rfl (wpAny_pure ?_))
 show wpAny _ _ (rule "zip.__next__.owned-tuple-again" >>= _) _ _ s
 refine wpAny_bind (wpAny_rule (wpAny_bind (wpAny_field hz rfl (x:=.ref TO) rfl ?_)))
 show wpAny _ _ (setField (.ref z) 0 .ellipsis >>= _) _ _ s
 refine wpAny_bind (wpAny_setField hz rfl (by simp) ?_)
 have u1:=Heap.SameBut.update s.heap z (Obj.mapFields fun x_1=>x_1.setIfInBounds 0 Value.ellipsis)
 have z1:=Heap.get?_update_self (Obj.mapFields fun x_1=>x_1.setIfInBounds 0 Value.ellipsis) hz rfl
 generalize s.heap.update z (Obj.mapFields fun x_1=>x_1.setIfInBounds 0 Value.ellipsis)=hp1 at *
 show wpAny _ _ (forIn [(Value.ref i1,0),(Value.ref i2,1)] _ _ >>= _) _ _ _
 refine wpAny_bind ?_
 rw [List.forIn_cons]
 refine wpAny_bind ?_
 show wpAny _ _ (Sem.onRaise _ _ >>= _) _ _ _
 refine wpAny_bind (wpAny_onRaise ?_)
 show wpAny _ _ (Builtin.SmallTypes.nextOf (.ref i1) >>= _) _ _ _
 have e1:∀ c o,c≠z->s.heap.get? c=some o->hp1.get? c=some o:=fun c o n q=>(u1.2 c n).trans q
 refine wpAny_bind (nextB_end hh (h1.at fun o q=>e1 _ o D.i1z q) (q1.at fun o q=>e1 _ o D.l1z q) hx fun hp2 e u2 ex=>?_)
 dsimp only at u2
 obtain ⟨ox,hox,cx⟩:=ex
 have z2:=u2 _ _ D.i1z.symm z1
 refine wpAny_setField z2 rfl (by simp [Obj.mapFields]) ?_
 have u3:=Heap.SameBut.update hp2 z (Obj.mapFields fun x_1=>x_1.setIfInBounds 0 .none)
 have ez:e≠z:=by
  rintro rfl
  rw [hox] at z2
  cases z2
  have cx':Value.type "zip"=Value.type "StopIteration":=cx
  injection cx' with q
  exact absurd q (by decide)
 generalize hp2.update z (Obj.mapFields fun x_1=>x_1.setIfInBounds 0 .none)=hp3 at *
 exact hE hp3 e (fun c o n1 n2 n3 n4 q=>(u3.2 c n1).trans (u2 c o n3 (e1 c o n1 q))) ⟨ox,(u3.2 e ez).trans hox,cx⟩
end
end PySem
namespace PySem
open Sem (wp)
open PySem.Spec PyProof.Rows
def itB (b:Bool) (l:Addr):Obj:={ cls:=.type (if b then "tuple_iterator" else "list_iterator"),data:=.fields #[.ref l,.int 0 0] }
def zB (h:Heap) (b1 b2:Bool) (l1 l2:Addr):Heap:=((((h.push (itB b1 l1)).push (itB b2 l2)).push { cls:=.type "tuple",data:=.seq #[.ref h.objs.size,.ref (h.objs.size+1)] }).push { cls:=.type "tuple",data:=.seq #[.none,.none] }).push
 { cls:=.type "zip",data:=.fields #[.none,.bool false,.bool false,.ref (h.objs.size+2),.ref (h.objs.size+3)] }
theorem pyIterB {prog:Program} {w:World} {A:Around} {E:Value->Shared->Prop} {s:Shared} {b:Bool} {l:Addr} {items:Array Value} {Q:Value->Shared->Prop} (h:IsSqB b s.heap l items) (hQ:Q (.ref s.heap.objs.size) { s with heap:=s.heap.push (itB b l) }):wpAny (model prog w) A (pyIter (.ref l)) Q E s:=by
 cases b with
 | true=>exact wpAny_pyIter_tuple h hQ
 | false=>exact wpAny_pyIter_list h hQ
theorem made_zip (b1 b2:Bool) (l1 l2:Addr) (xs ys:Array Value):Meets (Builtin.«zip.__new__» ⟨[.type "zip",.ref l1,.ref l2],[]⟩) (fun _ R s=>
  IsSqB b1 s.heap l1 xs/\IsSqB b2 s.heap l2 ys/\R (.ok (.ret (.ref (s.heap.objs.size+4)))) { s with heap:=zB s.heap b1 b2 l1 l2 }):=
 .of_wp fun prog w A R s both=>by
  rcases s with ⟨hp,gs,dr,tk,sys⟩
  obtain ⟨q1,q2,good⟩:=both
  have under:=sub_zip
  have i1:=fun {A:Around} {E Q}=>@pyIterB prog w A E ⟨hp,gs,dr,tk,sys⟩ b1 l1 xs Q q1
  have i2:=fun {A:Around} {E Q}=>@pyIterB prog w A E ⟨hp.push (itB b1 l1),gs,dr,tk,sys⟩ b2 l2 ys Q (q2.at fun o q=>D6 _ q)
  wp_walk using i1,i2
  refine ⟨_,rfl,?_⟩
  have sz:∀ (h:Heap) o,(h.push o).objs.size=h.objs.size+1:=fun _ _=>E2 ..
  simp only [zB] at good
  simp only [sz]
  exact good
theorem zip_of {prog:Program} {w:World} {A:Around} {E:Value->Shared->Prop} {s:Shared} {b1 b2:Bool} {l1 l2:Addr} {xs ys:Array Value} {Q:Value->Shared->Prop} (q1:IsSqB b1 s.heap l1 xs) (q2:IsSqB b2 s.heap l2 ys)
  (h:∀ h',IsZip h' (s.heap.objs.size+4) (s.heap.objs.size+2) (s.heap.objs.size+3) .none->IsPair h' (s.heap.objs.size+2) (.ref s.heap.objs.size) (.ref (s.heap.objs.size+1))->IsPair h' (s.heap.objs.size+3) .none .none->IsItB b1 h' s.heap.objs.size l1 0->IsItB b2 h' (s.heap.objs.size+1) l2 0->
   (∀ c o,s.heap.get? c=some o->h'.get? c=some o)->Q (.ref (s.heap.objs.size+4)) { s with heap:=h' }):wpAny (model prog w) A (call (.type "zip") [.ref l1,.ref l2]) Q E s:=by
 have sz:∀ (h:Heap) o,(h.push o).objs.size=h.objs.size+1:=fun _ _=>E2 ..
 have g0:∀ (h:Heap) (o:Obj) (n:Nat),h.objs.size=n->o.isFreed=false->(h.push o).get? n=some o:=fun h o n e f=>e ▸ Em h f
 have a1:IsZip (zB s.heap b1 b2 l1 l2) (s.heap.objs.size+4) (s.heap.objs.size+2) (s.heap.objs.size+3) .none:=g0 _ _ _ (by simp only [sz]) rfl
 have a2:IsPair (zB s.heap b1 b2 l1 l2) (s.heap.objs.size+2) (.ref s.heap.objs.size) (.ref (s.heap.objs.size+1)):=D6 _ (D6 _ (g0 _ _ _ (by simp only [sz]) rfl))
 have a3:IsPair (zB s.heap b1 b2 l1 l2) (s.heap.objs.size+3) .none .none:=D6 _ (g0 _ _ _ (by simp only [sz]) rfl)
 have f0:∀ b l,(itB b l).isFreed=false:=fun _ _=>rfl
 have a4:(zB s.heap b1 b2 l1 l2).get? s.heap.objs.size=some (itB b1 l1):=D6 _ (D6 _ (D6 _ (D6 _ (g0 _ _ _ rfl (f0 _ _)))))
 have a5:(zB s.heap b1 b2 l1 l2).get? (s.heap.objs.size+1)=some (itB b2 l2):=D6 _ (D6 _ (D6 _ (g0 _ _ _ (by simp only [sz]) (f0 _ _))))
 have a6:∀ c o,s.heap.get? c=some o->(zB s.heap b1 b2 l1 l2).get? c=some o:=fun c o q=>D6 _ (D6 _ (D6 _ (D6 _ (D6 _ q))))
 have ib:∀ (b:Bool) (h:Heap) (a l:Addr),h.get? a=some (itB b l)->IsItB b h a l 0:=fun b h a l q=>by
  cases b with
  | true=>exact ⟨_,q,rfl,rfl⟩
  | false=>exact ⟨_,q,rfl,rfl⟩
 refine callType_new F.called_zip (by decide) (F.typeCall_zip_2 _ _) (F.newCall_zip_2 _ _) (fun x=>F.args_object_init_3 x _ _) F.entry_zip_new (made_zip b1 b2 l1 l2 xs ys) ⟨q1,q2,?_⟩
 exact ⟨⟨_,a1,rfl⟩,h _ a1 a2 a3 (ib _ _ _ _ a4) (ib _ _ _ _ a5) a6⟩
theorem pyNext_zip_itemB {prog:Program} {w:World} {A:Around} {E:Value->Shared->Prop} {s:Shared} {b1 b2:Bool} {z TI TO i1 i2 l1 l2:Addr} {k1 k2:Nat} {xs ys:Array Value} {x y a b:Value} {Q:Option Value->Shared->Prop} (D:ZipApart z TI TO i1 i2 l1 l2) (hz:IsZip s.heap z TI TO .none) (hTI:IsPair s.heap TI (.ref i1) (.ref i2)) (hTO:IsPair s.heap TO a b)
  (h1:IsItB b1 s.heap i1 l1 k1) (h2:IsItB b2 s.heap i2 l2 k2) (q1:IsSqB b1 s.heap l1 xs) (q2:IsSqB b2 s.heap l2 ys) (hx:xs[k1]?=some x) (hy:ys[k2]?=some y)
  (hQ:∀ h',IsZip h' z TI TO (rawInt s.heap.objs.size)->IsPair h' TO x y->IsItB b1 h' i1 l1 (k1+1)->IsItB b2 h' i2 l2 (k2+1)->IsPair h' s.heap.objs.size x y->h'.objs.size=s.heap.objs.size+1->
   (∀ c o,c≠z->c≠TO->c≠i1->c≠i2->s.heap.get? c=some o->h'.get? c=some o)->Q (some (.ref s.heap.objs.size)) { s with heap:=h' }):wpAny (model prog w) A (pyNext (.ref z)) Q E s:=by
 have hT:s.TypeIs (.ref z) "zip":=⟨_,hz,rfl⟩
 unfold pyNext
 refine wpAny_bind (wpAny_attempt (wpAny_callSpecial?_slot (name:=Str.ofString "__next__") hT PySem.F.slot_zip_next (wpAny_call_entry PySem.F.slot_zip_next hT PySem.F.entry_zip_next ?_ (PySem.F.args_zip_next_1 _))))
 refine zip_itemB (A:=A.in1) D hz hTI hTO h1 h2 q1 q2 hx hy fun h' c1 c2 c3 c4 c5 c6 c7=>?_
 exact wpAny_pure (hQ h' c1 c2 c3 c4 c5 c6 c7)
theorem pyNext_zip_endB {prog:Program} {w:World} {A:Around} {E:Value->Shared->Prop} {s:Shared} {b1 b2:Bool} {z TI TO i1 i2 l1 l2:Addr} {k1 k2:Nat} {xs ys:Array Value} {a b:Value} {Q:Option Value->Shared->Prop} (hh:A.handled=none) (D:ZipApart z TI TO i1 i2 l1 l2) (hz:IsZip s.heap z TI TO .none) (hTI:IsPair s.heap TI (.ref i1) (.ref i2)) (hTO:IsPair s.heap TO a b)
  (h1:IsItB b1 s.heap i1 l1 k1) (h2:IsItB b2 s.heap i2 l2 k2) (q1:IsSqB b1 s.heap l1 xs) (q2:IsSqB b2 s.heap l2 ys) (hx:xs[k1]?=none)
  (hQ:∀ h',(∀ c o,c≠z->c≠TO->c≠i1->c≠i2->s.heap.get? c=some o->h'.get? c=some o)->Q none { s with heap:=h' }):wpAny (model prog w) A (pyNext (.ref z)) Q E s:=by
 have hT:s.TypeIs (.ref z) "zip":=⟨_,hz,rfl⟩
 unfold pyNext
 refine wpAny_bind (wpAny_attempt (wpAny_callSpecial?_slot (name:=Str.ofString "__next__") hT PySem.F.slot_zip_next (wpAny_call_entry PySem.F.slot_zip_next hT PySem.F.entry_zip_next ?_ (PySem.F.args_zip_next_1 _))))
 refine zip_endB (A:=A.in1) (show A.in1.handled=none from hh) D hz hTI hTO h1 h2 q1 q2 hx fun h' e k ex=>?_
 obtain ⟨o,ho,hc⟩:=ex
 refine wpAny_bind (wpAny_isInstance (T:="StopIteration") (b:=true) ⟨o,ho,hc⟩ isSubtype_stop ?_)
 exact wpAny_pure (hQ _ k)
end PySem
namespace L2
open PySem PySem.Spec PyProof.Rows
def pw (K:PySem.W.Frag):Bool->Hp->Addr->List V->Prop
 | true=>SqT K
 | false=>SqL K
theorem Inv.seqB {X:Cx} {pins:List (Addr×Obj)} {σ:St} {H:Hp} {s:Shared} {b:Bool} {l:Addr} {xs:List V} (I:Inv X pins σ H s) (h:pw X.K b H l xs):∃ its,Vals xs its/\IsSqB b s.heap l its.toArray:=by
 cases b with
 | true=>exact (let ⟨its,r,p,_⟩:=I.tuple h;let ⟨o,a,b,n,c⟩:=p;⟨its,r,o,a,b,n,c⟩)
 | false=>exact (let ⟨its,r,p,_⟩:=I.list h;⟨its,r,p.isList⟩)
theorem Inv.seqB_inj {X:Cx} {pins:List (Addr×Obj)} {σ:St} {H:Hp} {s:Shared} {b:Bool} {l:Addr} {xs ys:List V} (I:Inv X pins σ H s) (h:pw X.K b H l xs) (h':pw X.K b H l ys):xs=ys:=by
 cases b with
 | true=>exact I.tuple_inj h h'
 | false=>exact I.list_inj h h'
theorem gq {b:Bool} {h:Heap} {l:Addr} {xs:Array Value} (a:IsSqB b h l xs):l < h.objs.size:=by
 cases b with
 | true=>exact (let ⟨_,e,_⟩:=a;Ef e)
 | false=>exact (let ⟨_,e,_⟩:=a;Ef e)
def sF (K:PySem.W.Frag) (b1 b2:Bool) (l1 l2:Addr):It:=
 ⟨fun i H=>∃ xs ys x y,pw K b1 H l1 xs/\pw K b2 H l2 ys/\xs[i]?=some x/\ys[i]?=some y,
  fun i H v H'=>∃ T x y,v=.ref T/\H T=none/\H'=ax H T (.tup [x,y])/\(∀ xs,pw K b1 H l1 xs->xs[i]?=some x)/\∀ ys,pw K b2 H l2 ys->ys[i]?=some y,
  fun i H=>∃ xs ys,pw K b1 H l1 xs/\pw K b2 H l2 ys/\xs.length<=i⟩
theorem sG {b1 b2:Bool} {P:Program} {w:World} {K:PySem.W.Frag} {elts:List Expr} {kt:Nat} {tp:Pos} {z TI TO i1 i2 l1 l2:Addr} (D:ZipApart z TI TO i1 i2 l1 l2) :
  kD P w K (.Tuple elts kt tp) (sF K b1 b2 l1 l2) [z,TI,TO,i1,i2] z (fun i h=>IsZip h z TI TO .none/\IsPair h TI (.ref i1) (.ref i2)/\(∃ a b,IsPair h TO a b)/\IsItB b1 h i1 l1 i/\IsItB b2 h i2 l2 i) where
 mem:=by simp
 obj:=fun i h st b hb=>by
  obtain ⟨hz,hTI,⟨a,c,hTO⟩,i1',i2'⟩:=st
  obtain ⟨o1,h1,d1⟩:=i1'.some
  obtain ⟨o2,h2,d2⟩:=i2'.some
  simp at hb
  rcases hb with rfl|rfl|rfl|rfl|rfl
  ·exact ⟨_,hz,fun v q=>by cases q⟩
  ·exact ⟨_,hTI,fun v q=>by cases q⟩
  ·exact ⟨_,hTO,fun v q=>by cases q⟩
  ·exact ⟨_,h1,fun v q=>d1 v q⟩
  ·exact ⟨_,h2,fun v q=>d2 v q⟩
 keep:=fun i h h' st k=>by
  obtain ⟨hz,hTI,⟨a,c,hTO⟩,h1,h2⟩:=st
  exact ⟨k z (by simp) _ hz,k TI (by simp) _ hTI,⟨a,c,k TO (by simp) _ hTO⟩,h1.at fun o e=>k i1 (by simp) o e,h2.at fun o e=>k i2 (by simp) o e⟩
 item:=by
  intro X hP hw hK hc i pins s σ H E I hf st hg
  subst hP hw hK
  obtain ⟨xs,ys,x,y,hx,hy,ex,ey⟩:=hg
  obtain ⟨hz,hTI,⟨a,c,hTO⟩,h1,h2⟩:=st
  obtain ⟨its1,rv1,p1⟩:=I.seqB hx
  obtain ⟨its2,rv2,p2⟩:=I.seqB hy
  obtain ⟨u1,eu1,ru1⟩:=rv1.get ex
  obtain ⟨u2,eu2,ru2⟩:=rv2.get ey
  refine pyNext_zip_itemB D hz hTI hTO h1 h2 p1 p2 (x:=u1) (y:=u2) (by simpa using eu1) (by simpa using eu2) fun h' a1 a2 a3 a4 a5 a6 a7=>⟨_,rfl,?_⟩
  refine wpAny_letOwnedTupleGo_zip a1 fun h'' b1 b2=>?_
  have hT:H s.heap.objs.size=none:=I.hok.fresh (Ec _)
  have low:∀ b o,s.heap.get? b=some o->b≠s.heap.objs.size:=fun b o e=>Ey (Ef e)
  refine ⟨.ref s.heap.objs.size,ax H s.heap.objs.size (.tup [x,y]),?_,rfl,⟨s.heap.objs.size,x,y,rfl,hT,rfl,fun xs' h=>by rw [I.seqB_inj h hx];exact ex,fun ys' h=>by rw [I.seqB_inj h hy];exact ey⟩,?_,fun b hb=>?_⟩
  ·show Inv X pins σ (ax H s.heap.objs.size (.tup [x,y])) { s with heap:=h'',toks:=s.toks }
   refine Inv.turnedS (s:=s) (h':=h'') (t':=s.toks) (ch:=[z,TO,i1,i2]) I (fun b hb=>hf b ?_) (fun b o hc e=>?_) (fun b o e=>by rw [ao (aG e hT)];exact e) (fun b hb n=>by rw [ao (Ey hb)];exact n) fun b o n e=>?_
   ·simp at hb ⊢
    rcases hb with rfl|rfl|rfl|rfl<;>simp
   ·simp at hc
    exact b2.extBut b o hc.1 (a7 b o hc.1 hc.2.1 hc.2.2.1 hc.2.2.2 e)
   ·by_cases eb:b=s.heap.objs.size
    ·subst eb
     rw [ad] at e
     cases e
     refine ⟨by show 2<=sizeLine;decide,[u1,u2],.cons ru1 (.cons ru2 .nil),_,b2.extBut _ _ ?_ a5,rfl,_,rfl⟩
     exact fun q=>low z _ hz q.symm
    ·rw [ao eb,n] at e
     cases e
  ·refine ⟨b1,b2.extBut _ _ D.TIz (a7 _ _ D.TIz D.TITO D.TIi1 D.TIi2 hTI),⟨_,_,b2.extBut _ _ D.TOz a2⟩,a3.at fun o e=>b2.extBut _ o D.i1z e,a4.at fun o e=>b2.extBut _ o D.i2z e⟩
  ·have n:=(hf b hb).1
   have:b≠s.heap.objs.size:=by
    simp at hb
    obtain ⟨_,q1,_⟩:=h1.some
    obtain ⟨_,q2,_⟩:=h2.some
    rcases hb with rfl|rfl|rfl|rfl|rfl
    ·exact low _ _ hz
    ·exact low _ _ hTI
    ·exact low _ _ hTO
    ·exact low _ _ q1
    ·exact low _ _ q2
   rw [ao this]
   exact n
 done:=by
  intro X hP hw hK hc i pins s σ H E I hf st hg
  subst hP hw hK
  obtain ⟨xs,ys,hx,hy,hl⟩:=hg
  obtain ⟨hz,hTI,⟨a,c,hTO⟩,h1,h2⟩:=st
  obtain ⟨its1,rv1,p1⟩:=I.seqB hx
  obtain ⟨its2,rv2,p2⟩:=I.seqB hy
  have e1:=rv1.length
  have e2:=rv2.length
  have hend:its1.toArray[i]?=none:=by simp;omega
  refine pyNext_zip_endB (I.ok.hd hc) D hz hTI hTO h1 h2 p1 p2 hend fun h' k=>⟨rfl,?_⟩
  refine I.turnedS (t':=s.toks) (ch:=[z,TO,i1,i2]) (fun b hb=>hf b ?_) (fun b o hc e=>?_) (fun b o e=>e) (fun b hb n=>n) fun b o n e=>?_
  ·simp at hb ⊢
   rcases hb with rfl|rfl|rfl|rfl<;>simp
  ·simp at hc
   exact k b o hc.1 hc.2.1 hc.2.2.1 hc.2.2.2 e
  ·rw [n] at e;cases e
 self:=fun _ _ _ _ _ st h=>wpAny_pyIter_zip st.1 h
section
variable {X:Cx}
inductive uL (b1:Bool) (b2:Bool) (K:PySem.W.Frag) (R:It->Hp->Prop) (vs:List V) (H1:Hp):Prop
 | mk (l1 l2:_):vs=[.ref l1,.ref l2]->(∃ xs,pw K b1 H1 l1 xs)->(∃ ys,pw K b2 H1 l2 ys)->R (sF K b1 b2 l1 l2) H1->uL b1 b2 K R vs H1
def Bv (b1 b2:Bool) (K:PySem.W.Frag) (ta:TA):TI:=fun σ H R=>ta σ H fun vs H1=>uL b1 b2 K R vs H1
theorem jq (b1 b2:Bool) {elts:List Expr} {kt:Nat} {tp:Pos} {a b:Expr} {ta:TA} {p pos:Pos} (hg:Gl X "zip") (hm:X.mg "zip"=none) (ha:PA X [a,b] ta) (hs:starEach [a,b] X.env=[(false,eval a X.env),(false,eval b X.env)]:=by rfl) (hs2:starEach [b] X.env=[(false,eval b X.env)]:=by rfl) :
  PI X (.Tuple elts kt tp) (.Call (.Name "zip" p) [a,b] [] pos) (Bv b1 b2 X.K ta):=by
 refine ⟨?_⟩
 intro pins s σ H R I h
 refine Call_ (ff I hg hm nK (EV (bK (ha pos pins s σ H _ I h) fun us s1 ⟨vs,H1,I1,r1,q1⟩=>?_) (by rw [hs,hs2]) (by rw [hs2];rfl)))
 obtain ⟨l1,l2,e,⟨xs,hx⟩,⟨ys,hy⟩,q⟩:=q1
 subst e
 cases r1 with
 | cons r rr=>
  cases rr with
  | cons r' rr=>
   cases rr
   cases r
   cases r'
   obtain ⟨its1,rv1,p1⟩:=I1.seqB hx
   obtain ⟨its2,rv2,p2⟩:=I1.seqB hy
   refine zip_of p1 p2 fun h' a1 a2 a3 a4 a5 a7=>?_
   refine wpAny_pyIter_zip a1 ?_
   have lt1:=gq p1
   have lt2:=gq p2
   refine ⟨_,[s1.heap.objs.size+4,s1.heap.objs.size+2,s1.heap.objs.size+3,s1.heap.objs.size,s1.heap.objs.size+1],_,_,H1,rfl,I1.kept (t':=s1.toks) a7,sG (PyProof.Rows.zipApart_new lt1 lt2),⟨a1,a2,⟨_,_,a3⟩,a4,a5⟩,fun b hb=>?_,q⟩
   have hb':s1.heap.objs.size<=b:=by
    simp only [Ej,Es,or_false] at hb
    rcases hb with e|e|e|e|e<;>rw [e]
    ·exact Nat.le_add_right _ _
    ·exact Nat.le_add_right _ _
    ·exact Nat.le_add_right _ _
    ·exact Ec _
    ·exact Nat.le_add_right _ _
   exact I1.fpOk hb' (I1.hok.fresh hb')
end
theorem uM {b1 b2:Bool} {K:PySem.W.Frag} {l1 l2:Addr} {xs ys:List V} {g:TG} {tb:TS} {D:Ends} {σ:St} {H:Hp} (hxy:xs.length=ys.length) (Pv:Nat->St->Hp->Prop) (h0:Pv 0 σ H) (hl:∀ i σ H,i<=xs.length->Pv i σ H->pw K b1 H l1 xs/\pw K b2 H l2 ys)
  (hs:∀ i x y σ H T,xs[i]?=some x->ys[i]?=some y->H T=none->Pv i σ H->g (.ref T) σ (ax H T (.tup [x,y])) fun σ2 H2=>tb { D with nx:=Pv (i+1),ct:=Pv (i+1),bk:=D.nx } σ2 H2) (hd:∀ σ H,Pv xs.length σ H->D.nx σ H) :
  ∃ W:Nat->Nat->St->Hp->Prop,(∃ m,W 0 m σ H)/\∀ i m σ H,W i m σ H->
   ((sF K b1 b2 l1 l2).stop i H/\D.nx σ H)\/((sF K b1 b2 l1 l2).go i H/\∃ N:St->Hp->Prop,(∀ σ' H',N σ' H'->∃ m',m' < m/\W (i+1) m' σ' H')/\∀ x H',(sF K b1 b2 l1 l2).yld i H x H'->g x σ H' fun σ2 H2=>tb { D with nx:=N,ct:=N,bk:=D.nx } σ2 H2):=by
 refine ⟨fun i m σ H=>m=xs.length - i/\i<=xs.length/\Pv i σ H,⟨xs.length,by simp,EM _,h0⟩,?_⟩
 rintro i m σ H ⟨rfl,hi,p⟩
 obtain ⟨q1,q2⟩:=hl i σ H hi p
 by_cases hlt:i < xs.length
 ·have hlt2:i < ys.length:=by omega
  refine .inr ⟨⟨xs,ys,xs[i],ys[i],q1,q2,by simp [hlt],by simp [hlt2]⟩,Pv (i+1),fun σ' H' p'=>⟨xs.length - (i+1),by omega,rfl,hlt,p'⟩,fun x H' y=>?_⟩
  obtain ⟨T,x1,y1,rfl,hT,rfl,ex,ey⟩:=y
  exact hs i x1 y1 σ H T (ex xs q1) (ey ys q2) hT p
 ·have e:i=xs.length:=by omega
  subst e
  exact .inl ⟨⟨xs,ys,q1,q2,Ec _⟩,hd σ H p⟩
theorem mw {b1 b2:Bool} {K:PySem.W.Frag} {l1 l2:Addr} {xs ys:List V} {g:TG} {tf:TT} {te:TE} {ix:List (Option Nat)} {σ:St} {H:Hp} {Q:VK} (hxy:xs.length=ys.length) (Pv:Nat->List V->Hp->Prop) (h0:Pv 0 [] H)
  (hl:∀ i ys' H,i<=xs.length->Pv i ys' H->pw K b1 H l1 xs/\pw K b2 H l2 ys/\ys'.length<=sizeLine)
  (hs:∀ i x y ys' H T,xs[i]?=some x->ys[i]?=some y->H T=none->Pv i ys' H->g (.ref T) (kY ix σ) (ax H T (.tup [x,y])) fun σ2 H2=>ExtL (kY ix σ) σ2/\tf σ2 H2 fun b H3=>if b=true then te σ2 H3 fun y H4=>Nx Pv xs.length i (ys'++[y]) H4 else Nx Pv xs.length i ys' H3)
  (hd:∀ ys' H,Pv xs.length ys' H->∀ D,H D=none->Q (.ref D) (ax H D (.lst ys'))):pc (sF K b1 b2 l1 l2) g tf te ix σ H Q:=by
 refine ⟨fun i m ys' H=>m=xs.length - i/\i<=xs.length/\Pv i ys' H,⟨xs.length,by simp,EM _,h0⟩,?_⟩
 rintro i m ys' H ⟨rfl,hi,p⟩
 obtain ⟨q1,q2,hz⟩:=hl i ys' H hi p
 by_cases hlt:i < xs.length
 ·have hlt2:i < ys.length:=by omega
  refine .inr ⟨⟨xs,ys,xs[i],ys[i],q1,q2,by simp [hlt],by simp [hlt2]⟩,hz,fun x H' y=>?_⟩
  obtain ⟨T,x1,y1,rfl,hT,rfl,ex,ey⟩:=y
  exact hs i x1 y1 ys' H T (ex xs q1) (ey ys q2) hT p
 ·have e:i=xs.length:=by omega
  subst e
  exact .inl ⟨⟨xs,ys,q1,q2,Ec _⟩,hz,hd ys' H p⟩
end L2
namespace L2
open PySem PySem.Spec PyProof.Rows
inductive uN (ty:TE) (σ:St) (Q:VK) (x:V) (H1:Hp):Prop
 | mk (a:_):x=.ref a->DC H1 a->(ty σ H1 fun y H2=>∃ (b:Addr) (kvs more:List (cq×V)),y=.ref b/\a≠b/\H2 a=some (.dK kvs)/\H2 b=some (.dK more)/\kvs.length+more.length<=1000/\Q .non (ax H2 a (.dK (da kvs more))))->uN ty σ Q x H1
def Bw (td ty:TE):TE:=fun σ H Q=>td σ H fun x H1=>uN ty σ Q x H1
theorem xu {X:Cx} {o e:Expr} {apos cpos:Pos} {td ty:TE} (ho:PE X o td) (he:PE X e ty) (m:M1 X o "update" apos e cpos):PE X (.Call (.Attribute o "update" apos) [e] [] cpos) (Bw td ty):=by
 refine ⟨?_⟩
 intro pins s σ H Q I h
 refine wpAny_Call_method m.base m.few m.line PySem.F.plainAttrs_dict PySem.F.slot_dict_update PySem.F.type_dict_update (bK (ho pins s σ H _ I h) fun u s1 ⟨x,H1,I1,rx,a,ex,d,q1⟩=>?_)
 subst ex
 obtain rfl:u=Value.ref a:=rx
 obtain ⟨t1,t2,_⟩:=zC I1 d
 refine ⟨t1,t2,?_⟩
 rw [m.trees]
 refine Fw rfl (Calls.evalArgs_plain (Calls.spliced_cons (bK (he pins s1 σ H1 _ I1 q1) fun iv s2 ⟨y,H2,I2,ry,b,kvs,more,ey,hab,ea,eb,hl,q2⟩=>Calls.spliced_nil ?_)))
 subst ey
 cases ry
 obtain ⟨z1,hd1,vs,rel1,dd1⟩:=nV I2.hok ea
 obtain ⟨z2,hd2,ws,rel2,dd2⟩:=nV I2.hok eb
 have sz:(1000:Nat)<=sizeLine:=by decide
 refine call_meetsIn PySem.F.slot_dict_update dd1.typeIs PySem.F.entry_dict_update (PySem.F.args_dict_update_2 _ _) (meets_dict_update (cg X.prog X.w) a b hab hd2) ⟨vs,ws,dd1,dd2,by rw [<-rel1.length,<-rel2.length];omega,fun h' d1 d2 hs=>?_⟩
 have he:∃ q,h'.get? a=some q:=let ⟨q,_,_,hq,_⟩:=d1;⟨q,hq⟩
 have hz:(da kvs more).length<=sizeLine:=by
  have h1:=cw more kvs
  omega
 exact ⟨.non,_,jp I2 (by rw [ea];exact True.intro) hs he (mm hz hd1 (rel2.merge rel1) d1),rfl,q2⟩
section
variable {X:Cx}
theorem n9 (c:Nat):∀ (n:Nat) (acc:Array Nat),(List.foldl (fun (x1 x2:Array Nat)=>x1++x2) acc (List.replicate n #[c]))=acc++(List.replicate n c).toArray
 | 0,acc=>by simp
 | n+1,acc=>by
  rw [List.replicate_succ,List.foldl_cons,n9 c n]
  apply Array.ext'
  simp [List.replicate_succ]
theorem qI:fN X (binaryOp .Mult) (fun x y H Q=>∃ (c n:Nat),x=.str (S [c])/\y=.int n/\n<=1000/\Q (.str (S (List.replicate n c))) H):=by
 intro pins s σ H x y v u Q I rx ry h
 obtain ⟨c,n,rfl,rfl,hn,q⟩:=h
 obtain ⟨t,rfl⟩:=rx
 obtain ⟨t2,rfl⟩:=ry
 refine PySem.P.mul_str ?_ ?_ ?_ ?_
 ·simp;omega
 ·intro _ _
  have:(S [c]).length=1:=rfl
  rw [this]
  intro hgt
  have:(1:Int)<=(2 ^ 63 - 1) / (n:Int):=by
   rw [Int.le_ediv_iff_mul_le (by omega)]
   omega
  omega
 ·intro _ _
  have:(S [c]).length=1:=rfl
  rw [this]
  unfold Builtin.Str.tooLong
  have sz:(1000:Nat)<=sizeLine:=by decide
  simp
  omega
 ·have fin:∀ (z:Str) (t:Tok) (k:Nat),z=S (List.replicate n c)->EP X pins σ Q (.str z t) { s with toks:=k }:=fun z t k e=>by
   subst e
   exact ⟨.str (S (List.replicate n c)),H,I.tok k,⟨t,rfl⟩,q⟩
  have fin2:∀ (z:Str),z=S (List.replicate n c)->(Made.str z).post (EP X pins σ Q) s:=fun z e=>by
   refine ⟨?_,fin z _ _ e⟩
   subst e
   have sz:(1000:Nat)<=sizeLine:=by decide
   rw [aR,Fc]
   omega
  by_cases h0:(n:Int) < 1
  ·rw [if_pos h0]
   refine fin2 _ ?_
   rw [show n=0 by omega]
   rfl
  ·rw [if_neg h0]
   by_cases h1:((n:Int) == 1 || (S [c]).length == 0)=true
   ·rw [if_pos h1]
    have:n=1:=by
     have e:(S [c]).length=1:=rfl
     rw [e] at h1
     simp at h1
     omega
    subst this
    exact fin (S [c]) t s.toks rfl
   ·rw [if_neg h1]
    refine fin2 _ ?_
    have:(S [c]).cps=#[c]:=rfl
    rw [this,n9]
    simp [S]
end
end L2
namespace L2
open PySem PySem.Spec PyProof.Rows
section
variable {X:Cx}
inductive yS (r:V->List V->Hp->VK->Prop) (t:TA) (σ:St) (Q:VK) (x:V) (H1:Hp):Prop
 | mk (p xs:_):x=.ref p->H1 p=some (.tup xs)->(t σ H1 fun xs H2=>r x xs H2 Q)->yS r t σ Q x H1
def C5 (r:V->List V->Hp->VK->Prop) (to:TE) (t:TA):TE:=fun σ H Q=>to σ H fun x H1=>yS r t σ Q x H1
variable {o e:Expr} {es:List Expr} {to:TE} {t:TA} {name:Str} {apos cpos:Pos} {id:String} {r:V->List V->Hp->VK->Prop}
theorem uO (pa:PlainAttrs "tuple") (slot:Slot "tuple" name id) (hty:typeOf (.builtin id)=pure (.type "method_descriptor")) (hm:Bi X id r) (ho:PE X o to) (ha:PA X (e::es) t)
  (hbase:attributeBase o name X.env (eval o X.env)=eval o X.env:=by rfl)
  (hfew:((backTo cpos (starEach (e::es) X.env)).all (fun x=>!x.1) && (backToKw cpos (keywordEach [] X.env)).all (fun x=>x.1.isSome)
   && decide ((e::es).length+([]:List Keyword).length+(if ([]:List Keyword).isEmpty then 0 else 1) < 30))=true:=by rfl)
  (hline:(apos.endLine == cpos.line)=true:=by rfl) (hs:starEach (e::es) X.env=(false,eval e X.env)::starEach es X.env:=by rfl) (hplain:(backTo cpos (starEach es X.env)).any (·.1)=false:=by rfl) :
  PE X (.Call (.Attribute o name apos) (e::es) [] cpos) (C5 r to t):=by
 refine ⟨?_⟩
 intro pins s σ H Q I h
 refine wpAny_Call_method_late hbase hfew hline rfl (bK (ho pins s σ H _ I h) fun v s1 ⟨x,H1,I1,r1,p,xs,ex,hp,q1⟩=>?_)
 subst ex
 cases r1
 obtain ⟨_,its,rv,ob,g1,g2,n,g3⟩:=(show ObjOk X.prog X.w H1 s1.heap p (.tup xs) from I1.hok p _ hp)
 have gc:=(Prod.mk.inj g2).1
 have gd:=(Prod.mk.inj g2).2
 refine ⟨"tuple",id,pa,slot,hty,⟨ob,g1,gc⟩,fun a e=>?_,?_⟩
 ·cases e
  exact ⟨ob,g1,gd⟩
 have hA:=ha cpos pins s1 σ H1 _ I1 q1
 rw [hs] at hA ⊢
 refine Fw (by show (false || (backTo cpos (starEach es X.env)).any (·.1))=false;rw [hplain]<;>rfl) (Calls.evalArgs_plain ?_)
 exact bK hA fun us s2 ⟨vs,H2,I2,r2,q2⟩=>hm pins s2 σ H2 (.ref p) vs _ us Q I2 rfl r2 q2
end
end L2
namespace L2
open PySem PySem.Spec PyProof.Rows
section
variable {X:Cx}
abbrev TJ:=Str->St->Hp->(Str->Hp->Prop)->Prop
def PJ (X:Cx) (es:List Expr) (t:TJ):Prop:=∀ (pins:List (Addr×Obj)) (s:Shared) (σ:St) (H:Hp) (acc:Str) (Q:VK),Inv X pins σ H s->t acc σ H (fun z H1=>z.length<=sizeLine/\Q (.str z) H1)->
 wpAny (model X.prog X.w) X.A (joinParts acc (evalEach es X.env)) (EP X pins σ Q) X.xe s
theorem zF:PJ X [] (fun acc _ H Q=>Q acc H):=by
 intro pins s σ H acc Q I h
 obtain ⟨hz,q⟩:=h
 exact joinParts_nilE (joinParts_nil ⟨.str _,H,I.tok _,⟨_,rfl⟩,q⟩ hz)
theorem zG {a:Str} {j:Nat} {p:Pos} {es:List Expr} {t:TJ} (h:PJ X es t) (ha:a.length<=sizeLine:=by decide +kernel):PJ X (.Constant (.str a) j p::es) (fun acc σ H Q=>(acc++a).length<=sizeLine/\t (acc++a) σ H Q):=by
 intro pins s σ H acc Q I hh
 obtain ⟨hz,q⟩:=hh
 refine joinParts_consE (joinParts_cons (Calls.Constant_str ?_))
 dsimp only
 exact ⟨hz,h pins _ σ H _ Q (I.tok _) q⟩
theorem uP {e:Expr} {te:TE} {p:Pos} {es:List Expr} {t:TJ} (he:PE X e te) (h:PJ X es t):PJ X (.FormattedValue e (-1) none p::es)
  (fun acc σ H Q=>te σ H fun x H1=>(∃ i:Int,x=.int i/\i.natAbs.log2 < 1920/\(acc++(toString i:Str)).length<=sizeLine/\t (acc++(toString i:Str)) σ H1 Q)\/(∃ z:Str,x=.str z/\z.length<=sizeLine/\(acc++z).length<=sizeLine/\t (acc++z) σ H1 Q)):=by
 intro pins s σ H acc Q I hh
 refine joinParts_consE (joinParts_cons (FormattedValue_plain (bK (he pins _ σ H _ I hh) fun u s1 ⟨x,H1,I1,r1,hx⟩=>?_)))
 rcases hx with ⟨i,rfl,hi,hz,q⟩|⟨z,rfl,hi,hz,q⟩
 ·obtain ⟨t',rfl⟩:=r1
  refine formatField_int_small hi ?_
  exact ⟨hz,h pins _ σ H1 _ Q (I1.tok _) q⟩
 ·obtain ⟨t',rfl⟩:=r1
  refine formatField_str (fun t2 tk=>?_) hi
  exact ⟨hz,h pins _ σ H1 _ Q (I1.tok _) q⟩
theorem xw {v1 v2:Expr} {es:List Expr} {t:TJ} {p:Pos} (h:PJ X (v1::v2::es) t):PE X (.JoinedStr (v1::v2::es) p) (fun σ H Q=>t Str.empty σ H fun z H1=>z.length<=sizeLine/\Q (.str z) H1):=by
 refine ⟨?_⟩
 intro pins s σ H Q I hh
 exact JoinedStr_many (h pins s σ H Str.empty Q I hh)
end
end L2
namespace L3
open PySem L2
def cY (i:Nat):Stmt:=PySem.Challenge.pw_rowsbeneath_k13_lines_refused.main.body.getD i (.Pass ⟨0,0,0,0⟩)
abbrev dw:Stmt:=cY 11
abbrev mx:Stmt:=cY 16
abbrev jr:Stmt:=cY 17
abbrev uQ:Stmt:=cY 18
abbrev qJ:Stmt:=cY 19
abbrev my:Stmt:=cY 35
abbrev ig:Stmt:=cY 36
abbrev dh:Stmt:=cY 38
abbrev eM:Stmt:=cY 39
abbrev fv:Stmt:=cY 40
abbrev iQ:Stmt:=cY 41
abbrev gr:Stmt:=cY 42
abbrev fw:Stmt:=cY 43
abbrev iS:Stmt:=cY 55
abbrev fz:Stmt:=cY 56
abbrev ii:Stmt:=cY 57
abbrev iU:Stmt:=cY 58
abbrev gv:Stmt:=cY 59
abbrev ij:Stmt:=cY 60
abbrev iV:Stmt:=cY 61
abbrev iW:Stmt:=cY 64
abbrev jT:Stmt:=cY 66
abbrev fA:Stmt:=cY 73
abbrev jU:Stmt:=cY 74
abbrev ik:Stmt:=cY 75
abbrev gw:Stmt:=cY 76
abbrev il:Stmt:=cY 77
abbrev js:Stmt:=cY 78
abbrev pz:Stmt:=cY 81
abbrev mz:Stmt:=cY 88
abbrev uR:Stmt:=cY 89
abbrev zH:Stmt:=cY 90
abbrev im:Stmt:=cY 91
abbrev uS:Stmt:=cY 93
abbrev mB:Stmt:=cY 94
abbrev uT:Stmt:=cY 95
abbrev pA:Stmt:=cY 96
abbrev mC:Stmt:=cY 97
abbrev dY:Stmt:=cY 98
abbrev jt:Stmt:=cY 99
abbrev gO:Stmt:=cY 100
abbrev qK:Stmt:=cY 101
abbrev sI:Stmt:=cY 109
def Fn (P:Program) (w:World) (K:PySem.W.Frag) (mg:Str->Option Value) (base:Heap) (x:Str) (k:Nat) (ps:List Str) (sp:Sp):Prop:=
 ∃ (f:Addr) (fd:FuncData),mg x=some (.ref f)/\PySem.W.keepIn K (.ref f)=true/\Binds K fd ps []/\aN P w K mg base cj k f fd ps sp
def DR (sp:Sp) (t:TA):TE:=fun σ H Q=>t σ H fun vs H1=>sp vs H1 Q E0
theorem aC {X:Cx} {x:Str} {k:Nat} {ps:List Str} {sp:Sp} {p pos:Pos} {e:Expr} {es:List Expr} {t:TA} (h:Fn X.prog X.w X.K X.mg X.base x k ps sp) (hr:Room k X.A) (hg:Gl X x) (ha:PA X (e::es) t) (hdb:(x == ("__debug__":Str))=false:=by decide)
  (he:starEach (e::es) X.env=(false,eval e X.env)::starEach es X.env:=by rfl) (hpl:(backTo pos (starEach es X.env)).any (·.1)=false:=by rfl):PE X (.Call (.Name x p) (e::es) [] pos) (DR sp t):=by
 obtain ⟨f,fd,hm,hk,hb,F⟩:=h
 refine ⟨?_⟩
 intro pins s σ H Q I q
 have ha':PA X (e::es) t:=ha
 refine xh (dvs:=[]) (E:=E0) F hr hg hm hk hb .nil hI ha' hdb he hpl pins s σ H Q I ?_
 show t σ H fun vs H1=>sp (vs++[]) H1 Q E0
 have e2:(fun vs H1=>sp (vs++[]) H1 Q E0)=fun vs H1=>sp vs H1 Q E0:=by
  funext vs H1
  rw [ET]
 rw [e2]
 exact q
theorem ag {H:Hp} {p:Addr} {o:HO} (h:H p=none):Same H (ax H p o):=fun b u e=>by rw [ao (aG e h)];exact e
theorem bY {H H2:Hp} {p:Addr} {o:HO} (hp:H p=none) (s:Same H H2):Same H (ax H2 p o):=fun b u e=>by rw [ao (aG e hp)];exact s b u e
theorem bi {A B:Prop} {b:Bool} (e:b=false) (h:B):if b=true then A else B:=by rw [e];exact cA h
theorem bB {A B:Prop} {b:Bool} (e:b=true) (h:A):if b=true then A else B:=by rw [e];exact gh h
theorem fB {l:List Nat} {i:Nat} (h:i < l.length):uv (S l).cps.toList (i:Int)=some l[i]:=bE (by show l.toArray.toList[i]?=_;simp [h])
theorem Bx:("":Str)=S []:=by decide +kernel
theorem zI (z:Str):z=S z.cps.toList:=by
 show z=⟨z.cps.toList.toArray⟩
 simp
theorem gx (a b:List Nat):S a++S b=S (a++b):=by
 show (⟨(S a).cps++(S b).cps⟩:Str)=⟨(a++b).toArray⟩
 congr 1
 simp [S]
theorem cV:bootBuiltins "isinstance"=some (.builtin "isinstance"):=by decide +kernel
theorem bW:bootBuiltins "str"=some (.type "str"):=by decide +kernel
theorem io:bootBuiltins "bool"=some (.type "bool"):=by decide +kernel
theorem bH:bootBuiltins "tuple"=some (.type "tuple"):=by decide +kernel
theorem gP:bootBuiltins "all"=some (.builtin "all"):=by decide +kernel
structure Bl (mg:Str->Option Value):Prop where
 len:mg "len"=none
 int:mg "int"=none
 max:mg "max"=none
 min:mg "min"=none
 range:mg "range"=none
 isinstance:mg "isinstance"=none
 list:mg "list"=none
 str:mg "str"=none
 bool:mg "bool"=none
 tuple:mg "tuple"=none
 all:mg "all"=none
def zJ (x y z:Int):HO:=.lst [.int x,.int y,.int z]
def Strm (H:Hp) (p:Addr):Prop:=∃ x y z:Int,H p=some (zJ x y z)
def But (p:Addr) (H H':Hp):Prop:=∀ b o,H b=some o->b≠p->H' b=some o
theorem But.refl (p:Addr) (H:Hp):But p H H:=fun _ _ e _=>e
theorem But.trans {p:Addr} {H H1 H2:Hp} (a:But p H H1) (b:But p H1 H2):But p H H2:=fun c o e n=>b c o (a c o e n) n
theorem But.same {p:Addr} {H H1 H2:Hp} (a:But p H H1) (b:Same H1 H2):But p H H2:=fun c o e n=>b c o (a c o e n)
theorem iX {p:Addr} {H H1:Hp} (b:Same H H1):But p H H1:=fun c o e _=>b c o e
theorem Strm.same {p:Addr} {H H1:Hp} (a:Strm H p) (b:Same H H1):Strm H1 p:=let ⟨x,y,z,e⟩:=a;⟨x,y,z,b _ _ e⟩
theorem Strm.ne {p q:Addr} {H:Hp} (a:Strm H p) (h:H q=none):p≠q:=let ⟨_,_,_,e⟩:=a;aG e h
inductive pB (K:PySem.W.Frag) (vs:List V) (H:Hp) (Q:VK) (Z3:XK):Prop
 | mk (a:Addr) (ns:List Int) (k:Int):vs=[.ref a,.int k]->SqL K H a (ns.map V.int)->0<=k->(∀ c:Int,Q (.int c) H)->pB K vs H Q Z3
inductive jV (vs:List V) (H:Hp) (Q:VK) (Z3:XK):Prop
 | mk (c:Int):vs=[.int c]->(∀ (p:Addr) H',H p=none->Same H H'->Strm H' p->Q (.ref p) H')->jV vs H Q Z3
inductive gy (vs:List V) (H:Hp) (Q:VK) (Z3:XK):Prop
 | mk (p:Addr) (m:Nat):vs=[.ref p,.int m]->Strm H p->0 < m->m < 18446744073709551616->(∀ (r:Nat) H',r < m->Strm H' p->But p H H'->Q (.int r) H')->gy vs H Q Z3
section
variable {P:Program} {w:World} {K:PySem.W.Frag} {mg:Str->Option Value} {base:Heap}
theorem zK:ay ["_law_script","_law_k"] ["_law_script","_law_k"] (am uS):=⟨rfl,rfl,rfl,by decide +kernel,rfl,by decide +kernel,by decide +kernel⟩
theorem xy {f:Addr} {fd:FuncData} (F:Fun K "_law_cell" "_law_cell" uS f fd) (T:Bl mg):aN P w K mg base cj 1 f fd ["_law_script","_law_k"] (pB K):=by
 refine F.ok zK (fun vs H Q E h=>?_) (fun cdv A outer s H vs Q E hr h=>?_)
 ·obtain ⟨a,ns,k,rfl,_⟩:=h
  rfl
 ·obtain ⟨a,ns,k,rfl,hS,h0,q⟩:=h
  refine ⟨_,af (aT (aq fU (pv 1) (au aA (by rfl) T.len Ei (aa (pv 0) ac)) (aB _)) (ai (av (aP aK (pv 0) (pv 1) (fun _ _=>rfl)))) aI)
   (ai (av (aH bS (aH fP aj (pv 1)) aj))),?_⟩
  refine ⟨_,rfl,_,rfl,a,_,rfl,.inl hS,_,_,rfl,rfl,_,rfl,?_⟩
  refine eD (fun h=>?_) (fun h=>?_)
  ·have hl:k < ((ns.map V.int).length:Int):=of_decide_eq_true h
   rw [D5] at hl
   obtain ⟨n,rfl⟩:∃ n:Nat,k=n:=⟨k.toNat,by omega⟩
   have hn:n < ns.length:=by omega
   refine ⟨_,rfl,_,rfl,a,_,_,_,rfl,rfl,hS,bE (v:=.int ns[n]) (by simp [hn]),q _⟩
  ·exact ⟨_,rfl,_,_,rfl,rfl,.inl ⟨by decide,by decide⟩,_,_,rfl,rfl,q _⟩
theorem uU:ay ["_law_cell_here"] ["_law_cell_here"] (am mB):=⟨rfl,rfl,rfl,by decide +kernel,rfl,by decide +kernel,by decide +kernel⟩
theorem sJ {f:Addr} {fd:FuncData} (F:Fun K "_law_stream" "_law_stream" mB f fd) (T:Bl mg):aN P w K mg base cj 1 f fd ["_law_cell_here"] jV:=by
 refine F.ok uU (fun vs H Q E h=>?_) (fun cdv A outer s H vs Q E hr h=>?_)
 ·obtain ⟨c,rfl,_⟩:=h
  rfl
 ·obtain ⟨c,rfl,q⟩:=h
  refine ⟨_,ai (av (aV (aa (aH fP (pv 0) (aM gL (by rfl) T.int EW (aa (cX Bc (pv 0) (aH zo aj aj) (aB _)) ac)))
   (aa (aH fQ (pv 0) aj) (aa aj ac))))),?_⟩
  refine ⟨_,rfl,_,rfl,_,_,rfl,rfl,⟨by decide,by decide,by decide⟩,_,_,rfl,rfl,.inr ⟨_,rfl,?_⟩⟩
  refine ⟨_,_,rfl,rfl,.inr (by split<;>decide),_,rfl,_,_,rfl,rfl,(by show (0:Int) < 2147483629;decide),(by show 3<=sizeLine;decide),fun l hl=>?_⟩
  exact q l _ hl (ag hl) ⟨_,_,_,ad⟩
theorem scTake:ay ["_law_stream_here","_law_many","_law_digit","_law_number_here"] ["_law_stream_here","_law_many"] (am uT):=⟨rfl,rfl,rfl,by decide +kernel,rfl,by decide +kernel,by decide +kernel⟩
theorem oa {n m:Int} (hm:0 < m) (h:m < 2 ^ 64):-(2 ^ 64) < n % m/\n % m < 2 ^ 64:=by
 have:=Int.emod_nonneg n (show m≠0 by omega)
 have:=Int.emod_lt_of_pos n hm
 omega
theorem xz {f:Addr} {fd:FuncData} (F:Fun K "_law_take" "_law_take" uT f fd):aN P w K mg base cj 1 f fd ["_law_stream_here","_law_many"] gy:=by
 refine F.ok scTake (fun vs H Q E h=>?_) (fun cdv A outer s H vs Q E hr h=>?_)
 ·obtain ⟨p,m,rfl,_⟩:=h
  rfl
 ·obtain ⟨p,m,rfl,⟨x,y,z,hp⟩,m0,m1,q⟩:=h
  have fin:∀ (e x' y' z':Int) H1,0<=e->e < m->But p H H1->Q (.int e) (ax H1 p (zJ x' y' z')):=fun e x' y' z' H1 h0 h1 b=>by
   have:=q e.toNat (ax H1 p (zJ x' y' z')) (by omega) ⟨_,_,_,ad⟩ (fun c o e n=>by rw [ao n];exact b c o e n)
   rw [Int.toNat_of_nonneg h0] at this
   exact this
  have b1:∀ o,But p H (ax H p o):=fun o c u e n=>by rw [ao n];exact e
  refine ⟨_,af (aT (aq nC (aP aK (pv 0) aj (fun _ _=>rfl)) aj (aB _))
    (af (aw (i:=2) scTake.nd rfl (Or.inl rfl) (aH fQ (aP aK (pv 0) aj (fun _ _=>rfl)) (pv 1)))
    (af (fg (aH uE (aP aK (pv 0) aj (fun _ _=>rfl)) (pv 1)) (jC (pv 0) aj fZ))
    (ai (av (pv 2))))) aI)
   (af (fg (aH bS (aP aK (pv 0) aj (fun _ _=>rfl)) aj) (jC (pv 0) aj fZ))
   (af (aw (i:=3) scTake.nd rfl (Or.inl rfl) (aH fQ (aH bS (aH fP (aH bS (aP aK (pv 0) aj (fun _ _=>rfl)) (aH fP aj (aP aK (pv 0) aj (fun _ _=>rfl)))) aj) aj) aj))
   (af (aw (i:=3) scTake.nd rfl (Or.inl rfl) (aH fQ (aH fP (pv 3) (pv 3)) aj))
   (ai (av (aH fQ (aH qu (aH fQ (aH bS (aH fP (pv 3) (pv 3)) (aH fP aj (aP aK (pv 0) aj (fun _ _=>rfl)))) aj) aj) (pv 1))))))),?_⟩
  refine ⟨_,rfl,p,_,_,_,rfl,rfl,SqL.of hp,rfl,_,_,rfl,rfl,_,rfl,?_⟩
  refine eD (fun h=>?_) (fun h=>?_)
  ·refine ⟨_,rfl,p,_,_,_,rfl,rfl,SqL.of hp,rfl,_,rfl,_,_,rfl,rfl,(by show (0:Int) < (m:Int);omega),?_⟩
   refine ⟨_,rfl,p,_,_,_,rfl,rfl,SqL.of hp,rfl,_,rfl,_,_,rfl,rfl,⟨by show (0:Int) < (m:Int);omega,by show (m:Int) < 18446744073709551616;omega⟩,?_⟩
   refine ⟨_,rfl,p,_,_,_,rfl,rfl,hp,rfl,?_⟩
   refine ⟨_,rfl,?_⟩
   exact fin _ _ _ _ _ (Int.emod_nonneg _ (by omega)) (Int.emod_lt_of_pos _ (by omega)) (But.refl _ _)
  ·refine ⟨_,rfl,p,_,_,_,rfl,rfl,SqL.of hp,rfl,_,_,rfl,rfl,?_⟩
   refine ⟨_,rfl,p,_,_,_,rfl,rfl,hp,rfl,?_⟩
   refine ⟨_,rfl,p,_,_,_,rfl,rfl,SqL.of ad,rfl,_,rfl,p,_,_,_,rfl,rfl,SqL.of ad,rfl,_,_,rfl,rfl,.inl ⟨by decide,by decide⟩,_,_,rfl,rfl,_,_,rfl,rfl,.inr ⟨by decide,by decide⟩,_,_,rfl,rfl,_,_,rfl,rfl,(by show (0:Int) < 2147483647;decide),?_⟩
   refine ⟨_,rfl,_,rfl,_,_,rfl,rfl,.inl (oa (by decide) (by decide)),_,_,rfl,rfl,(by show (0:Int) < 2147483629;decide),?_⟩
   refine ⟨_,rfl,_,rfl,_,_,rfl,rfl,.inl (oa (by decide) (by decide)),_,rfl,p,_,_,_,rfl,rfl,SqL.of ad,rfl,_,_,rfl,rfl,.inl ⟨by decide,by decide⟩,_,_,rfl,rfl,_,_,rfl,rfl,(by show (0:Int) < 2147483587;decide),_,_,rfl,rfl,⟨by decide,by decide⟩,_,rfl,_,_,rfl,rfl,(by show (0:Int) < (m:Int);omega),?_⟩
   exact fin _ _ _ _ _ (Int.emod_nonneg _ (by omega)) (Int.emod_lt_of_pos _ (by omega)) (But.refl _ _)
end
end L3
namespace L3
open PySem L2
def ae (l:List Str):List V:=l.map V.str
def fb (P:Program) (w:World) (K:PySem.W.Frag) (mg:Str->Option Value) (base:Heap) (C:Addr) (nm:Str) (n:Nat) (ps:List Str) (sp:Sp):Prop:=∃ f fd,xf K C nm f/\aN P w K mg base cj n f fd ps sp/\Binds K fd ps []
def wR (l:Addr) (k:Nat) (me:Bool):List (Str×V):=[("tokens",.ref l),("spot",.int k),("may_end",.bl me)]
structure RdO (C:Addr) (H:Hp) (a l:Addr) (ts:List Str) (k:Nat) (me:Bool):Prop where
 ob:∃ dx,H a=some (.ins C dx (wR l k me))
 tk:H l=some (.lst (ae (ts++[("":Str)])))
 le:ts.length<=1500
def ButO (a:Addr) (H H':Hp):Prop:=∀ b o,H b=some o->b≠a->H' b=some o
theorem ButO.refl (p:Addr) (H:Hp):ButO p H H:=fun _ _ e _=>e
theorem ButO.trans {p:Addr} {H H1 H2:Hp} (a:ButO p H H1) (b:ButO p H1 H2):ButO p H H2:=fun c o e n=>b c o (a c o e n) n
theorem ButO.same {p:Addr} {H H1 H2:Hp} (a:ButO p H H1) (b:Same H1 H2):ButO p H H2:=fun c o e n=>b c o (a c o e n)
theorem dS {p:Addr} {H H1:Hp} (b:Same H H1):ButO p H H1:=fun c o e _=>b c o e
theorem RdO.same {C:Addr} {H H':Hp} {a l:Addr} {ts:List Str} {k:Nat} {me:Bool} (h:RdO C H a l ts k me) (s:Same H H'):RdO C H' a l ts k me:=⟨let ⟨dx,e⟩:=h.ob;⟨dx,s _ _ e⟩,s _ _ h.tk,h.le⟩
theorem RdO.ne {C:Addr} {H:Hp} {a l:Addr} {ts:List Str} {k:Nat} {me:Bool} (h:RdO C H a l ts k me):l≠a:=by
 rintro rfl
 obtain ⟨dx,e⟩:=h.ob
 rw [h.tk] at e
 cases e
structure Rc (K:PySem.W.Frag) (C:Addr):Prop where
 cl:Cls K C
 n1:NoAttr K C "tokens"
 n2:NoAttr K C "spot"
 n3:NoAttr K C "may_end"
inductive pC (C:Addr) (vs:List V) (H:Hp) (Q:VK) (Z3:XK):Prop
 | mk (a l ts k me z:_):vs=[.ref a]->RdO C H a l ts k me->(ts++[("":Str)])[k]?=some z->Q (.str z) H->pC C vs H Q Z3
inductive zL (C:Addr) (vs:List V) (H:Hp) (Q:VK) (Z3:XK):Prop
 | mk (a l ts k me z:_):vs=[.ref a]->RdO C H a l ts k me->(ts++[("":Str)])[k]?=some z->(∀ H',RdO C H' a l ts (k+1) me->ButO a H H'->Q (.str z) H')->zL C vs H Q Z3
inductive pE (K:PySem.W.Frag) (C:Addr) (vs:List V) (H:Hp) (Q:VK) (Z3:XK):Prop
 | mk (a l ts k me z p xs:_):vs=[.ref a,.ref p]->RdO C H a l ts k me->(ts++[("":Str)])[k]?=some z->(SqL K H p (ae xs)\/SqT K H p (ae xs))->z∈xs->(∀ H',RdO C H' a l ts (k+1) me->ButO a H H'->Q (.str z) H')->pE K C vs H Q Z3
abbrev uV:Stmt:=cK (cY 54) 1
abbrev C6:Stmt:=cK (cY 54) 2
abbrev uW:Stmt:=cK (cY 54) 3
theorem uX {ts:List Str} {k:Nat} {z:Str} (h:(ts++[("":Str)])[k]?=some z):(ae (ts++[("":Str)]))[k]?=some (.str z):=by unfold ae;rw [Eb,h];rfl
theorem cW (x:Str) (l:List Str):iM (.str x) (ae l)=l.contains x:=by
 unfold iM ae
 rw [List.any_map,EX,List.any_eq_true,EK]
 constructor
 ·rintro ⟨y,hy,e⟩
  have:y=x:=by simpa [sd] using e
  rw [<-this]
  exact hy
 ·intro hx
  exact ⟨x,hx,by simp [sd]⟩
theorem cc (l:List Str):(ae l).all hG=true:=by
 unfold ae
 rw [List.all_map,ER]
 intro x _
 rfl
section
variable {P:Program} {w:World} {K:PySem.W.Frag} {mg:Str->Option Value} {base:Heap} {C:Addr}
theorem zM:ay ["self"] ["self"] (am uV):=⟨rfl,rfl,rfl,by decide +kernel,rfl,by decide +kernel,by decide +kernel⟩
theorem xA {f:Addr} {fd:FuncData} (F:Fun K "look" "Reader.look" uV f fd) (T:Rc K C):aN P w K mg base cj 1 f fd ["self"] (pC C):=by
 refine F.ok zM (fun vs H Q E h=>?_) (fun cdv A outer s H vs Q E hr h=>?_)
 ·obtain ⟨a,l,ts,k,me,z,rfl,_⟩:=h
  rfl
 ·obtain ⟨a,l,ts,k,me,z,rfl,hR,hz,q⟩:=h
  refine ⟨_,ai (av (aP aK (cb (pv 0) rfl) (cb (pv 0) rfl) (fun _ _=>rfl))),?_⟩
  obtain ⟨dx,ho⟩:=hR.ob
  exact ⟨_,rfl,a,C,dx,_,_,rfl,ho,T.cl,T.n1,rfl,_,rfl,a,C,dx,_,_,rfl,ho,T.cl,T.n2,rfl,l,_,_,_,rfl,rfl,SqL.of hR.tk,bE (uX hz),q⟩
theorem C7:ay ["self"] ["self"] (am C6):=⟨rfl,rfl,rfl,by decide +kernel,rfl,by decide +kernel,by decide +kernel⟩
theorem By {f:Addr} {fd:FuncData} (F:Fun K "take" "Reader.take" C6 f fd) (T:Rc K C):aN P w K mg base cj 1 f fd ["self"] (zL C):=by
 refine F.ok C7 (fun vs H Q E h=>?_) (fun cdv A outer s H vs Q E hr h=>?_)
 ·obtain ⟨a,l,ts,k,me,z,rfl,_⟩:=h
  rfl
 ·obtain ⟨a,l,ts,k,me,z,rfl,hR,hz,q⟩:=h
  refine ⟨_,af (kN (pv 0) aj uo) (ai (av (aP aK (cb (pv 0) rfl) (aH dX (cb (pv 0) rfl) aj) (fun _ _=>rfl)))),?_⟩
  obtain ⟨dx,ho⟩:=hR.ob
  refine ⟨_,rfl,a,C,dx,_,_,rfl,ho,T.cl,T.n2,rfl,_,_,rfl,rfl,dx,_,ho,(by show 3 < 1000;decide),?_⟩
  have e1:(ax H a (.ins C dx (aJ "spot" (.int ((k:Int)+1)) (wR l k me)))) a=some (.ins C dx (wR l (k+1) me)):=by rw [ad];rfl
  have e2:(ax H a (.ins C dx (aJ "spot" (.int ((k:Int)+1)) (wR l k me)))) l=some (.lst (ae (ts++[("":Str)]))):=by rw [ao hR.ne];exact hR.tk
  have b2:ButO a H (ax H a (.ins C dx (aJ "spot" (.int ((k:Int)+1)) (wR l k me)))):=fun b o e n=>by rw [ao n];exact e
  generalize ax H a (.ins C dx (aJ "spot" (.int ((k:Int)+1)) (wR l k me)))=H1 at *
  refine ⟨_,rfl,a,C,dx,_,_,rfl,e1,T.cl,T.n1,rfl,_,rfl,a,C,dx,_,_,rfl,e1,T.cl,T.n2,rfl,_,_,rfl,rfl,l,_,_,_,rfl,rfl,SqL.of e2,?_,q _ ⟨⟨dx,e1⟩,e2,hR.le⟩ b2⟩
  have:(((k+1:Nat):Int) - 1)=(k:Int):=by omega
  rw [this]
  exact bE (uX hz)
structure Rm (P:Program) (w:World) (K:PySem.W.Frag) (mg:Str->Option Value) (base:Heap) (C:Addr):Prop extends Rc K C where
 look:fb P w K mg base C "look" 1 ["self"] (pC C)
 take:fb P w K mg base C "take" 1 ["self"] (zL C)
theorem zN:ay ["self","words"] ["self","words"] (am uW):=⟨rfl,rfl,rfl,by decide +kernel,rfl,by decide +kernel,by decide +kernel⟩
theorem xB {f:Addr} {fd:FuncData} (F:Fun K "need" "Reader.need" uW f fd) (T:Rm P w K mg base C):aN P w K mg base cj 2 f fd ["self","words"] (pE K C):=by
 refine F.ok zN (fun vs H Q E h=>?_) (fun cdv A outer s H vs Q E hr h=>?_)
 ·obtain ⟨a,l,ts,k,me,z,p,xs,rfl,_⟩:=h
  rfl
 ·obtain ⟨a,l,ts,k,me,z,p,xs,rfl,hR,hz,hp,hm,q⟩:=h
  have hr1:Room 1 _:=hr
  refine ⟨_,af (aT (aq cJ (bz (pv 0)) (pv 1) rfl) (ai bG) aI) (ai (av (bz (pv 0)))),?_⟩
  obtain ⟨dx,ho⟩:=hR.ob
  obtain ⟨f1,fd1,M1,F1,B1⟩:=T.look
  obtain ⟨f2,fd2,M2,F2,B2⟩:=T.take
  refine ⟨_,rfl,a,dx,C,f1,_,fd1,1,["self"],_,rfl,ho,rfl,T.cl,M1,F1,hr1,B1,a,l,ts,k,me,z,rfl,hR,hz,_,rfl,p,ae xs,rfl,?_,rfl,cc _,_,rfl,bi ?_ ?_⟩
  ·exact hp
  ·show (!iM (.str z) (ae xs))=false
   rw [cW,EK.mpr hm]
   rfl
  ·exact ⟨_,rfl,a,dx,C,f2,_,fd2,1,["self"],_,rfl,ho,rfl,T.cl,M2,F2,hr1,B2,a,l,ts,k,me,z,rfl,hR,hz,q⟩
end
end L3
namespace L3
open PySem L2
abbrev tz (ts:List Str):List Str:=ts++[("":Str)]
def ownL:List Str:=["word","cells","depth","places","marks","gate","kind","place","mark","number","row","set","if","else","top","next","go","call","back","stop","fault","bell"]
def NameS (z:Str):Prop:=z∉ownL/\1<=z.length/\z.length<=8/\∀ c∈z.cps.toList,97<=c/\c<=122
inductive zO (vs:List V) (H:Hp) (Q:VK) (Z3:XK):Prop
 | mk (z:_):vs=[.str z]->NameS z->(∀ H',Same H H'->Q (.bl true) H')->zO vs H Q Z3
inductive mD (vs:List V) (H:Hp) (Q:VK) (Z3:XK):Prop
 | mk (n:Nat):vs=[.str (toString (n:Int):Str)]->n < 1000000000->(∀ H',Same H H'->Q (.int n) H')->mD vs H Q Z3
inductive mE (vs:List V) (H:Hp) (Q:VK) (Z3:XK):Prop
 | mk (i:Int):vs=[.int i]->Q (.bl true) H->mE vs H Q Z3
inductive jW (vs:List V) (H:Hp) (Q:VK) (Z3:XK):Prop
 | mk (i lo hi:Int):vs=[.int i,.int lo,.int hi]->lo<=i->i<=hi->Q (.bl true) H->jW vs H Q Z3
inductive ip (C:Addr) (vs:List V) (H:Hp) (Q:VK) (Z3:XK):Prop
 | mk (a l ts k me z:_):vs=[.ref a]->RdO C H a l ts k me->(tz ts)[k]?=some z->NameS z->(∀ H',RdO C H' a l ts (k+1) me->ButO a H H'->Q (.str z) H')->ip C vs H Q Z3
inductive fC (C:Addr) (vs:List V) (H:Hp) (Q:VK) (Z3:XK):Prop
 | mk (a l ts k me:_) (n lo hi:Nat):vs=[.ref a,.int lo,.int hi]->RdO C H a l ts k me->(tz ts)[k]?=some (toString (n:Int):Str)->n < 1000000000->lo<=n->n<=hi->(∀ H',RdO C H' a l ts (k+1) me->ButO a H H'->Q (.int n) H')->fC C vs H Q Z3
inductive iY (C:Addr) (vs:List V) (H:Hp) (Q:VK) (Z3:XK):Prop
 | mk (a l ts k:_):vs=[.ref a]->RdO C H a l ts k true->k=ts.length->Q .non H->iY C vs H Q Z3
abbrev iZ:Stmt:=cK (cY 54) 4
abbrev gA:Stmt:=cK (cY 54) 5
abbrev jX:Stmt:=cK (cY 54) 6
section
variable {P:Program} {w:World} {K:PySem.W.Frag} {mg:Str->Option Value} {base:Heap} {C:Addr}
theorem qL:ay ["thing"] ["thing"] (am mx):=⟨rfl,rfl,rfl,by decide +kernel,rfl,by decide +kernel,by decide +kernel⟩
theorem uY {f:Addr} {fd:FuncData} (F:Fun K "is_whole" "is_whole" mx f fd) (T:Bl mg):aN P w K mg base cj 1 f fd ["thing"] mE:=by
 refine F.ok qL (fun vs H Q E h=>?_) (fun cdv A outer s H vs Q E hr h=>?_)
 ·obtain ⟨i,rfl,_⟩:=h
  rfl
 ·obtain ⟨i,rfl,q⟩:=h
  refine ⟨_,ai (av (hV (au (eK (T:="int")) (by rfl) T.isinstance cV (aa (pv 0) (aa (gi (by rfl) T.int EW) ac))) (fO (ua (au (eK (T:="bool")) (by rfl) T.isinstance cV (aa (pv 0) (aa (gi (by rfl) T.bool io) ac))))))),?_⟩
  exact ⟨_,rfl,_,_,_,rfl,.int _,rfl,_,rfl,gh ⟨_,rfl,_,_,_,rfl,.int _,rfl,_,rfl,q⟩⟩
theorem og:ay ["thing","low","high"] ["thing","low","high"] (am jr):=⟨rfl,rfl,rfl,by decide +kernel,rfl,by decide +kernel,by decide +kernel⟩
theorem sK {f:Addr} {fd:FuncData} (F:Fun K "is_within" "is_within" jr f fd) (WH:Fn P w K mg base "is_whole" 1 ["thing"] mE):aN P w K mg base cj 2 f fd ["thing","low","high"] jW:=by
 refine F.ok og (fun vs H Q E h=>?_) (fun cdv A outer s H vs Q E hr h=>?_)
 ·obtain ⟨i,lo,hi,rfl,_⟩:=h
  rfl
 ·obtain ⟨i,lo,hi,rfl,h1,h2,q⟩:=h
  refine ⟨_,ai (av (hV (aC WH hr rfl (aa (pv 0) ac)) (fO (jE eR eR (pv 1) (pv 0) (pv 2))))),?_⟩
  refine ⟨_,rfl,i,rfl,_,rfl,gh ⟨_,rfl,_,rfl,_,_,rfl,rfl,_,rfl,bB (decide_eq_true h1) ⟨_,rfl,_,_,rfl,rfl,?_⟩⟩⟩
  show Q (V.bl (decide (i<=hi))) H
  rw [decide_eq_true h2]
  exact q
theorem pF:ay ["self"] ["self"] (am iZ):=⟨rfl,rfl,rfl,by decide +kernel,rfl,by decide +kernel,by decide +kernel⟩
theorem oh {f:Addr} {fd:FuncData} (F:Fun K "need_name" "Reader.need_name" iZ f fd) (T:Rm P w K mg base C) (NM:Fn P w K mg base "is_name" 1 ["thing"] zO):aN P w K mg base cj 2 f fd ["self"] (ip C):=by
 refine F.ok pF (fun vs H Q E h=>?_) (fun cdv A outer s H vs Q E hr h=>?_)
 ·obtain ⟨a,l,ts,k,me,z,rfl,_⟩:=h
  rfl
 ·obtain ⟨a,l,ts,k,me,z,rfl,hR,hz,hn,q⟩:=h
  have hr1:Room 1 _:=hr
  refine ⟨_,af (aT (cQ (cO (aC NM hr1 rfl (aa (bz (pv 0)) ac)))) (ai bG) aI) (ai (av (bz (pv 0)))),?_⟩
  obtain ⟨dx,ho⟩:=hR.ob
  obtain ⟨f1,fd1,M1,F1,B1⟩:=T.look
  obtain ⟨f2,fd2,M2,F2,B2⟩:=T.take
  refine ⟨_,rfl,a,dx,C,f1,_,fd1,1,["self"],_,rfl,ho,rfl,T.cl,M1,F1,hr1,B1,a,l,ts,k,me,z,rfl,hR,hz,z,rfl,hn,fun H1 s1=>⟨_,rfl,cA ?_⟩⟩
  exact ⟨_,rfl,a,dx,C,f2,_,fd2,1,["self"],_,rfl,s1 _ _ ho,rfl,T.cl,M2,F2,hr1,B2,a,l,ts,k,me,z,rfl,hR.same s1,hz,fun H2 r2 b2=>q H2 r2 ((dS s1).trans b2)⟩
theorem scNeedNumber:ay ["self","low","high","number"] ["self","low","high"] (am gA):=⟨rfl,rfl,rfl,by decide +kernel,rfl,by decide +kernel,by decide +kernel⟩
theorem kG {f:Addr} {fd:FuncData} (F:Fun K "need_number" "Reader.need_number" gA f fd) (T:Rm P w K mg base C) (NU:Fn P w K mg base "number_of" 1 ["token"] mD) (WI:Fn P w K mg base "is_within" 2 ["thing","low","high"] jW):aN P w K mg base cj 3 f fd ["self","low","high"] (fC C):=by
 refine F.ok scNeedNumber (fun vs H Q E h=>?_) (fun cdv A outer s H vs Q E hr h=>?_)
 ·obtain ⟨a,l,ts,k,me,n,lo,hi,rfl,_⟩:=h
  rfl
 ·obtain ⟨a,l,ts,k,me,n,lo,hi,rfl,hR,hz,hn,h1,h2,q⟩:=h
  have hr1:Room 1 _:=hr.mono (by decide)
  refine ⟨_,af (aw (i:=3) scNeedNumber.nd rfl (Or.inl rfl) (aC NU hr1 rfl (aa (bz (pv 0)) ac)))
   (af (aT (cQ (cO (aC WI hr rfl (aa (pv 3) (aa (pv 1) (aa (pv 2) ac)))))) (ai bG) aI)
   (af (kN (pv 0) aj uo) (ai (av (pv 3))))),?_⟩
  obtain ⟨dx,ho⟩:=hR.ob
  obtain ⟨f1,fd1,M1,F1,B1⟩:=T.look
  refine ⟨_,rfl,a,dx,C,f1,_,fd1,1,["self"],_,rfl,ho,rfl,T.cl,M1,F1,hr1,B1,a,l,ts,k,me,_,rfl,hR,hz,n,rfl,hn,fun H1 s1=>?_⟩
  refine ⟨_,rfl,_,rfl,_,rfl,(n:Int),(lo:Int),(hi:Int),rfl,by omega,by omega,_,rfl,cA ?_⟩
  have hR1:=hR.same s1
  have ho1:=s1 _ _ ho
  refine ⟨_,rfl,a,C,dx,_,_,rfl,ho1,T.cl,T.n2,rfl,_,_,rfl,rfl,dx,_,ho1,(by show 3 < 1000;decide),?_⟩
  have e1:(ax H1 a (.ins C dx (aJ "spot" (.int ((k:Int)+1)) (wR l k me)))) a=some (.ins C dx (wR l (k+1) me)):=by rw [ad];rfl
  have e2:(ax H1 a (.ins C dx (aJ "spot" (.int ((k:Int)+1)) (wR l k me)))) l=some (.lst (ae (ts++[("":Str)]))):=by rw [ao hR.ne];exact hR1.tk
  exact ⟨_,rfl,q _ ⟨⟨dx,e1⟩,e2,hR.le⟩ (fun b o e n=>by rw [ao n];exact s1 _ _ e)⟩
theorem sL:ay ["self"] ["self"] (am jX):=⟨rfl,rfl,rfl,by decide +kernel,rfl,by decide +kernel,by decide +kernel⟩
theorem pG {f:Addr} {fd:FuncData} (F:Fun K "need_end" "Reader.need_end" jX f fd) (T:Rm P w K mg base C) (B:Bl mg):aN P w K mg base cj 1 f fd ["self"] (iY C):=by
 refine F.ok sL (fun vs H Q E h=>?_) (fun cdv A outer s H vs Q E hr h=>?_)
 ·obtain ⟨a,l,ts,k,rfl,_⟩:=h
  rfl
 ·obtain ⟨a,l,ts,k,rfl,hR,hk,q⟩:=h
  refine ⟨_,ai (aT (PW.pt (dF (cQ (cO (cb (pv 0) rfl))) (cZ (aq fU (aH bS (cb (pv 0) rfl) aj) (au aA (by rfl) B.len Ei (aa (cb (pv 0) rfl) ac)) (aB _))))) (ai bG) aI),?_⟩
  obtain ⟨dx,ho⟩:=hR.ob
  refine ⟨_,rfl,a,C,dx,_,_,rfl,ho,T.cl,T.n3,rfl,_,rfl,cA ?_⟩
  refine ⟨_,rfl,a,C,dx,_,_,rfl,ho,T.cl,T.n2,rfl,_,_,rfl,rfl,_,rfl,a,C,dx,_,_,rfl,ho,T.cl,T.n1,rfl,l,_,rfl,.inl (SqL.of hR.tk),_,_,rfl,rfl,_,rfl,bi (decide_eq_false ?_) q⟩
  unfold ae
  rw [D5,D9]
  simp
  omega
end
end L3
namespace L3
open PySem L2
structure wS (P:Program) (w:World) (K:PySem.W.Frag) (mg:Str->Option Value) (base:Heap) (C:Addr):Prop extends Rm P w K mg base C where
 need:fb P w K mg base C "need" 2 ["self","words"] (pE K C)
 nname:fb P w K mg base C "need_name" 2 ["self"] (ip C)
 nnum:fb P w K mg base C "need_number" 3 ["self","low","high"] (fC C)
 nend:fb P w K mg base C "need_end" 1 ["self"] (iY C)
inductive i0 (C:Addr) (vs:List V) (H:Hp) (Q:VK) (Z3:XK):Prop
 | mk (a l ts k me wd:_) (n lo hi:Nat):vs=[.ref a,.str wd,.int lo,.int hi]->RdO C H a l ts k me->(tz ts)[k]?=some wd->(tz ts)[k+1]?=some (toString (n:Int):Str)->(tz ts)[k+2]?=some ";"->n < 1000000000->lo<=n->n<=hi->(∀ H',RdO C H' a l ts (k+3) me->ButO a H H'->Q (.int n) H')->i0 C vs H Q Z3
def oi (ts:List Str) (k:Nat) (zs:List Str):Prop:=∀ i (h:i < zs.length),(tz ts)[k+i]?=some zs[i]/\NameS zs[i]
inductive mF (C:Addr) (vs:List V) (H:Hp) (Q:VK) (Z3:XK):Prop
 | mk (a l ts k me wd zs:_) (lo hi:Nat):vs=[.ref a,.str wd,.int lo,.int hi]->RdO C H a l ts k me->(tz ts)[k]?=some wd->oi ts (k+1) zs->(tz ts)[k+1+zs.length]?=some ";"->lo<=zs.length->zs.length<=hi->hi<=10->(∀ p H',RdO C H' a l ts (k+2+zs.length) me->ButO a H H'->H p=none->H' p=some (.tup (ae zs))->Q (.ref p) H')->mF C vs H Q Z3
section
variable {P:Program} {w:World} {K:PySem.W.Frag} {mg:Str->Option Value} {base:Heap} {C:Addr}
theorem scBounded:ay ["reader","word","low","high","number"] ["reader","word","low","high"] (am fz):=⟨rfl,rfl,rfl,by decide +kernel,rfl,by decide +kernel,by decide +kernel⟩
set_option maxHeartbeats 1000000 in
theorem pH {f:Addr} {fd:FuncData} (F:Fun K "read_bounded" "read_bounded" fz f fd) (T:wS P w K mg base C):aN P w K mg base cj 4 f fd ["reader","word","low","high"] (i0 C):=by
 refine F.ok scBounded (fun vs H Q E h=>?_) (fun cdv A outer s H vs Q E hr h=>?_)
 ·obtain ⟨a,l,ts,k,me,wd,n,lo,hi,rfl,_⟩:=h
  rfl
 ·obtain ⟨a,l,ts,k,me,wd,n,lo,hi,rfl,hR,t0,t1,t2,hn,h1,h2,q⟩:=h
  have hr2:Room 2 _:=hr.mono (by decide)
  refine ⟨_,af (aQ (bQ (pv 0) (aa (aW (aa (pv 1) ac)) ac)))
   (af (aw (i:=4) scBounded.nd rfl (Or.inl rfl) (bQ (pv 0) (aa (pv 2) (aa (pv 3) ac))))
   (af (aQ (bQ (pv 0) (aa (aW (aa ak ac)) ac)))
   (ai (av (pv 4))))),?_⟩
  obtain ⟨f1,fd1,M1,F1,B1⟩:=T.need
  obtain ⟨f2,fd2,M2,F2,B2⟩:=T.nnum
  obtain ⟨dx,ho⟩:=hR.ob
  refine ⟨_,rfl,a,dx,C,f1,_,fd1,2,["self","words"],_,rfl,ho,rfl,T.cl,M1,F1,hr2,B1,_,rfl,(by show 1<=sizeLine;decide),fun p1 n1=>?_⟩
  have s1:=ag (o:=.tup [.str wd]) n1
  refine ⟨a,l,ts,k,me,wd,p1,[wd],rfl,hR.same s1,t0,(.inr (SqT.of ad)),by simp,fun H1 r1 b1=>?_⟩
  obtain ⟨dx1,ho1⟩:=r1.ob
  refine ⟨_,rfl,a,dx1,C,f2,_,fd2,3,["self","low","high"],_,rfl,ho1,rfl,T.cl,M2,F2,hr,B2,_,rfl,_,rfl,a,l,ts,k+1,me,n,lo,hi,rfl,r1,t1,hn,h1,h2,fun H2 r2 b2=>?_⟩
  obtain ⟨dx2,ho2⟩:=r2.ob
  refine ⟨_,rfl,a,dx2,C,f1,_,fd1,2,["self","words"],_,rfl,ho2,rfl,T.cl,M1,F1,hr2,B1,(by show 1<=sizeLine;decide),fun p2 n2=>?_⟩
  have s2:=ag (o:=.tup [.str ";"]) n2
  refine ⟨a,l,ts,k+2,me,";",p2,[";"],rfl,r2.same s2,t2,(.inr (SqT.of ad)),by simp,fun H3 r3 b3=>?_⟩
  exact ⟨_,rfl,q H3 r3 (((dS s1).trans (b1.trans b2)).trans ((dS s2).trans b3))⟩
theorem scNames:ay ["reader","word","least","most","names"] ["reader","word","least","most"] (am ii):=⟨rfl,rfl,rfl,by decide +kernel,rfl,by decide +kernel,by decide +kernel⟩
set_option maxHeartbeats 2000000 in
theorem uZ {f:Addr} {fd:FuncData} (F:Fun K "read_names" "read_names" ii f fd) (T:wS P w K mg base C) (B:Bl mg):aN P w K mg base cj 3 f fd ["reader","word","least","most"] (mF C):=by
 refine F.ok scNames (fun vs H Q E h=>?_) (fun cdv A outer s H vs Q E hr h=>?_)
 ·obtain ⟨a,l,ts,k,me,wd,zs,lo,hi,rfl,_⟩:=h
  rfl
 ·obtain ⟨a,l,ts,k,me,wd,zs,lo,hi,rfl,hR,t0,tn,te,h1,h2,h10,q⟩:=h
  have hr1:Room 1 _:=hr.mono (by decide)
  refine ⟨_,af (aQ (bQ (pv 0) (aa (aW (aa (pv 1) ac)) ac)))
   (af (aw (i:=4) scNames.nd rfl (Or.inl rfl) (aV ac))
   (af (eP PassesOwn.never (PW.pt (dF (aq fU (au aA (by rfl) B.len Ei (aa (pv 4) ac)) (pv 2) (aB _)) (cZ (PW.pt (cE (aq fU (au aA (by rfl) B.len Ei (aa (pv 4) ac)) (pv 3) (aB _)) (ck (aq iw (bz (pv 0)) ak (aB _))))))))
    (ai (aQ (bX Ep Eu Et bM (pv 4) (aa (bz (pv 0)) ac)))))
   (af (aQ (bQ (pv 0) (aa (aW (aa ak ac)) ac)))
   (ai (av (aM bF (by rfl) B.tuple bH (aa (pv 4) ac))))))),?_⟩
  obtain ⟨f1,fd1,M1,F1,B1⟩:=T.need
  obtain ⟨f2,fd2,M2,F2,B2⟩:=T.nname
  obtain ⟨f3,fd3,M3,F3,B3⟩:=T.look
  obtain ⟨dx,ho⟩:=hR.ob
  have sz:(1000:Nat)<=sizeLine:=by decide
  refine ⟨_,rfl,a,dx,C,f1,_,fd1,2,["self","words"],_,rfl,ho,rfl,T.cl,M1,F1,hr,B1,_,rfl,(by show 1<=sizeLine;decide),fun p1 n1=>?_⟩
  have s1:=ag (o:=.tup [.str wd]) n1
  refine ⟨a,l,ts,k,me,wd,p1,[wd],rfl,hR.same s1,t0,(.inr (SqT.of ad)),by simp,fun H1 r1 b1=>?_⟩
  have c1:ButO a H H1:=(dS s1).trans b1
  refine ⟨(by show 0<=sizeLine;decide),fun ln nn=>?_⟩
  have s2:=ag (o:=.lst []) nn
  have e2:(ax H1 ln (.lst [])) ln=some (.lst (ae [])):=ad
  have r2:=r1.same s2
  have c2:=c1.same s2
  have nH:H ln=none:=by
   by_cases hh:ln=a
   ·subst hh
    obtain ⟨dx1,ho1⟩:=r1.ob
    rw [ho1] at nn
    cases nn
   ·cases hx:H ln with
    | none=>rfl
    | some o=>
     have:=c1 _ _ hx hh
     rw [nn] at this
     cases this
  have lna:ln≠a:=by
   rintro rfl
   rw [nH] at ho
   cases ho
  have lnl:ln≠l:=fun z=>by
   have:=hR.tk
   rw [<-z,nH] at this
   cases this
  generalize ax H1 ln (.lst ([]:List V))=H2 at *
  refine ⟨fun m σ H'=>∃ i,i<=zs.length/\m=zs.length - i/\σ=[some (.ref a),some (.str wd),some (.int lo),some (.int hi),some (.ref ln)]/\RdO C H' a l ts (k+1+i) me/\ButO a H H'/\H' ln=some (.lst (ae (zs.take i))),⟨_,0,EM _,rfl,rfl,r2,c2,e2⟩,?_⟩
  rintro m σ H3 ⟨i,hi3,rfl,rfl,r3,c3,e3⟩
  have lt:(ae (zs.take i)).length=i:=by
   unfold ae
   rw [D5,Eh]
   omega
  obtain ⟨dx3,ho3⟩:=r3.ob
  by_cases hlt:i < zs.length
  ·obtain ⟨tz1,nm1⟩:=tn i hlt
   have tk1:zs.take (i+1)=zs.take i++[zs[i]]:=by rw [EJ,El hlt];rfl
   have nsc:zs[i]≠(";":Str):=by
    intro z
    obtain ⟨_,_,_,hc⟩:=nm1
    rw [z] at hc
    exact absurd (hc 59 (by decide +kernel)) (by omega)
   by_cases hlo:i < lo
   ·refine ⟨_,rfl,ln,_,rfl,.inl (SqL.of e3),_,rfl,_,_,rfl,rfl,_,rfl,bB (decide_eq_true (by rw [lt];omega)) ?_⟩
    refine ⟨fun σ' H'=>∃ i',i'=i+1/\σ'=[some (.ref a),some (.str wd),some (.int lo),some (.int hi),some (.ref ln)]/\RdO C H' a l ts (k+1+i') me/\ButO a H H'/\H' ln=some (.lst (ae (zs.take i'))),fun σ' H' ⟨i',e',a1,a2,a3,a4⟩=>⟨zs.length - i',by omega,i',by omega,rfl,a1,a2,a3,a4⟩,?_⟩
    refine ⟨_,rfl,.inl ⟨rfl,_,SqL.of e3⟩,_,rfl,a,dx3,C,f2,_,fd2,2,["self"],_,rfl,ho3,rfl,T.cl,M2,F2,hr,B2,a,l,ts,k+1+i,me,zs[i],rfl,r3,tz1,nm1,fun H4 r4 b4=>?_⟩
    have e4:=b4 _ _ e3 lna
    refine ⟨ln,_,_,rfl,rfl,e4,by rw [lt];omega,i+1,rfl,rfl,?_,?_,?_⟩
    ·refine ⟨?_,?_,r4.le⟩
     ·obtain ⟨dx4,ho4⟩:=r4.ob
      exact ⟨dx4,by rw [ao lna.symm];exact ho4⟩
     ·rw [ao lnl.symm]
      exact r4.tk
    ·intro b o e nb
     by_cases hbl:b=ln
     ·rw [hbl,nH] at e
      cases e
     ·rw [ao hbl]
      exact b4 _ _ (c3 _ _ e nb) nb
    ·rw [ad,tk1]
     unfold ae
     rw [Ed]
     rfl
   ·refine ⟨_,rfl,ln,_,rfl,.inl (SqL.of e3),_,rfl,_,_,rfl,rfl,_,rfl,bi (decide_eq_false (by rw [lt];omega)) ?_⟩
    refine ⟨_,rfl,ln,_,rfl,.inl (SqL.of e3),_,rfl,_,_,rfl,rfl,_,rfl,bB (decide_eq_true (by rw [lt];omega)) ?_⟩
    refine ⟨_,rfl,a,dx3,C,f3,_,fd3,1,["self"],_,rfl,ho3,rfl,T.cl,M3,F3,hr1,B3,a,l,ts,k+1+i,me,zs[i],rfl,r3,tz1,rfl,_,rfl,bB (by simpa using nsc) ?_⟩
    refine ⟨fun σ' H'=>∃ i',i'=i+1/\σ'=[some (.ref a),some (.str wd),some (.int lo),some (.int hi),some (.ref ln)]/\RdO C H' a l ts (k+1+i') me/\ButO a H H'/\H' ln=some (.lst (ae (zs.take i'))),fun σ' H' ⟨i',e',a1,a2,a3,a4⟩=>⟨zs.length - i',by omega,i',by omega,rfl,a1,a2,a3,a4⟩,?_⟩
    refine ⟨_,rfl,.inl ⟨rfl,_,SqL.of e3⟩,_,rfl,a,dx3,C,f2,_,fd2,2,["self"],_,rfl,ho3,rfl,T.cl,M2,F2,hr,B2,a,l,ts,k+1+i,me,zs[i],rfl,r3,tz1,nm1,fun H4 r4 b4=>?_⟩
    have e4:=b4 _ _ e3 lna
    refine ⟨ln,_,_,rfl,rfl,e4,by rw [lt];omega,i+1,rfl,rfl,?_,?_,?_⟩
    ·refine ⟨?_,?_,r4.le⟩
     ·obtain ⟨dx4,ho4⟩:=r4.ob
      exact ⟨dx4,by rw [ao lna.symm];exact ho4⟩
     ·rw [ao lnl.symm]
      exact r4.tk
    ·intro b o e nb
     by_cases hbl:b=ln
     ·rw [hbl,nH] at e
      cases e
     ·rw [ao hbl]
      exact b4 _ _ (c3 _ _ e nb) nb
    ·rw [ad,tk1]
     unfold ae
     rw [Ed]
     rfl
  ·have hie:i=zs.length:=by omega
   have te':(tz ts)[k+1+i]?=some ";":=by rw [hie];exact te
   have ztk:ae (zs.take i)=ae zs:=by rw [hie,EI]
   by_cases hhi:i < hi
   ·refine ⟨_,rfl,ln,_,rfl,.inl (SqL.of e3),_,rfl,_,_,rfl,rfl,_,rfl,bi (decide_eq_false (by rw [lt];omega)) ?_⟩
    refine ⟨_,rfl,ln,_,rfl,.inl (SqL.of e3),_,rfl,_,_,rfl,rfl,_,rfl,bB (decide_eq_true (by rw [lt];omega)) ?_⟩
    refine ⟨_,rfl,a,dx3,C,f3,_,fd3,1,["self"],_,rfl,ho3,rfl,T.cl,M3,F3,hr1,B3,a,l,ts,k+1+i,me,";",rfl,r3,te',rfl,_,rfl,bi (by simp) ?_⟩
    refine ⟨_,rfl,a,dx3,C,f1,_,fd1,2,["self","words"],_,rfl,ho3,rfl,T.cl,M1,F1,hr,B1,(by show 1<=sizeLine;decide),fun p2 n2=>?_⟩
    have s4:=ag (o:=.tup [.str ";"]) n2
    refine ⟨a,l,ts,k+1+i,me,";",p2,[";"],rfl,r3.same s4,te',(.inr (SqT.of ad)),by simp,fun H4 r4 b4=>?_⟩
    have e4:=b4 _ _ (s4 _ _ e3) lna
    rw [ztk] at e4
    refine ⟨_,rfl,ln,ae zs,rfl,.inl ⟨SqL.of e4,fun p3 n3=>?_⟩⟩
    have s5:=ag (o:=.tup (ae zs)) n3
    have c4:ButO a H H4:=(c3.same s4).trans b4
    refine q p3 _ ?_ (c4.same s5) ?_ ad
    ·have:=r4.same s5
     rw [hie] at this
     have e9:k+1+zs.length+1=k+2+zs.length:=by omega
     rw [e9] at this
     exact this
    ·by_cases h3a:p3=a
     ·subst h3a
      obtain ⟨dx4,ho4⟩:=r4.ob
      rw [ho4] at n3
      cases n3
     ·cases hx:H p3 with
      | none=>rfl
      | some o=>
       have:=c4 _ _ hx h3a
       rw [n3] at this
       cases this
   ·refine ⟨_,rfl,ln,_,rfl,.inl (SqL.of e3),_,rfl,_,_,rfl,rfl,_,rfl,bi (decide_eq_false (by rw [lt];omega)) ?_⟩
    refine ⟨_,rfl,ln,_,rfl,.inl (SqL.of e3),_,rfl,_,_,rfl,rfl,_,rfl,bi (decide_eq_false (by rw [lt];omega)) ?_⟩
    refine ⟨_,rfl,a,dx3,C,f1,_,fd1,2,["self","words"],_,rfl,ho3,rfl,T.cl,M1,F1,hr,B1,(by show 1<=sizeLine;decide),fun p2 n2=>?_⟩
    have s4:=ag (o:=.tup [.str ";"]) n2
    refine ⟨a,l,ts,k+1+i,me,";",p2,[";"],rfl,r3.same s4,te',(.inr (SqT.of ad)),by simp,fun H4 r4 b4=>?_⟩
    have e4:=b4 _ _ (s4 _ _ e3) lna
    rw [ztk] at e4
    refine ⟨_,rfl,ln,ae zs,rfl,.inl ⟨SqL.of e4,fun p3 n3=>?_⟩⟩
    have s5:=ag (o:=.tup (ae zs)) n3
    have c4:ButO a H H4:=(c3.same s4).trans b4
    refine q p3 _ ?_ (c4.same s5) ?_ ad
    ·have:=r4.same s5
     rw [hie] at this
     have e9:k+1+zs.length+1=k+2+zs.length:=by omega
     rw [e9] at this
     exact this
    ·by_cases h3a:p3=a
     ·subst h3a
      obtain ⟨dx4,ho4⟩:=r4.ob
      rw [ho4] at n3
      cases n3
     ·cases hx:H p3 with
      | none=>rfl
      | some o=>
       have:=c4 _ _ hx h3a
       rw [n3] at this
       cases this
end
end L3
namespace L3
open PySem L2
def di:List Str:=["place","mark","number","row"]
structure pI (K:PySem.W.Frag) (mg:Str->Option Value) (aS aE aF:Addr) (t1 t2 t3 t4:Tok):Prop where
 sorts:mg "SORTS"=some (.ref aS)
 sortsq:∀ H,SqT K H aS (ae di)
 ends:mg "ENDS"=some (.ref aE)
 endsq:∀ H,SqT K H aE (ae ["next","go","call","back","stop","fault"])
 owf:mg "OWN_FAULTS"=some (.ref aF)
 owfq:∀ H,SqT K H aF (ae ["deep","bare"])
 mf:mg "MOST_FIELDS"=some (.int 3 t1)
 ms:mg "MOST_SETS"=some (.int 4 t2)
 mc:mg "MOST_CHOICES"=some (.int 3 t3)
 mkn:mg "MOST_KINDS"=some (.int 8 t4)
inductive FldV (H:Hp) (u:V) (x:Str×Str):Prop
 | mk (p:_):u=.ref p->H p=some (.tup [.str x.1,.str x.2])->FldV H u x
inductive mG (C:Addr) (vs:List V) (H:Hp) (Q:VK) (Z3:XK):Prop
 | mk (a l ts k me:_) (x:Str×Str):vs=[.ref a]->RdO C H a l ts k me->(tz ts)[k]?=some x.1->NameS x.1->(tz ts)[k+1]?=some x.2->x.2∈di->(∀ p H',RdO C H' a l ts (k+2) me->ButO a H H'->H p=none->H' p=some (.tup [.str x.1,.str x.2])->Q (.ref p) H')->mG C vs H Q Z3
section
variable {P:Program} {w:World} {K:PySem.W.Frag} {mg:Str->Option Value} {base:Heap} {C:Addr} {aS aE aF:Addr} {t1 t2 t3 t4:Tok}
theorem gQ {a:Addr} {H H':Hp} {p dx:Addr} {fs:List (Str×V)} (b:ButO a H H') (ho:H' a=some (.ins C dx fs)) (n:H' p=none):H p=none:=by
 by_cases h:p=a
 ·subst h
  rw [ho] at n
  cases n
 ·cases hx:H p with
  | none=>rfl
  | some o=>
   have:=b _ _ hx h
   rw [n] at this
   cases this
theorem scField:ay ["reader","name"] ["reader"] (am ij):=⟨rfl,rfl,rfl,by decide +kernel,rfl,by decide +kernel,by decide +kernel⟩
theorem ve {f:Addr} {fd:FuncData} (F:Fun K "read_field" "read_field" ij f fd) (T:wS P w K mg base C) (Z:pI K mg aS aE aF t1 t2 t3 t4):aN P w K mg base cj 3 f fd ["reader"] (mG C):=by
 refine F.ok scField (fun vs H Q E h=>?_) (fun cdv A outer s H vs Q E hr h=>?_)
 ·obtain ⟨a,l,ts,k,me,x,rfl,_⟩:=h
  rfl
 ·obtain ⟨a,l,ts,k,me,x,rfl,hR,h0,hn,h1,hs,q⟩:=h
  refine ⟨_,af (aw (i:=1) scField.nd rfl (Or.inl rfl) (bz (pv 0))) (ai (av (aW (aa (pv 1) (aa (bQ (pv 0) (aa (bo (v:=.ref aS) rfl Z.sorts rfl) ac)) ac))))),?_⟩
  obtain ⟨f1,fd1,M1,F1,B1⟩:=T.need
  obtain ⟨f2,fd2,M2,F2,B2⟩:=T.nname
  obtain ⟨dx,ho⟩:=hR.ob
  refine ⟨_,rfl,a,dx,C,f2,_,fd2,2,["self"],_,rfl,ho,rfl,T.cl,M2,F2,hr,B2,a,l,ts,k,me,x.1,rfl,hR,h0,hn,fun H1 r1 b1=>?_⟩
  obtain ⟨dx1,ho1⟩:=r1.ob
  refine ⟨_,rfl,_,rfl,a,dx1,C,f1,_,fd1,2,["self","words"],_,rfl,ho1,rfl,T.cl,M1,F1,hr,B1,a,l,ts,k+1,me,x.2,aS,di,rfl,r1,h1,.inr (Z.sortsq _),hs,fun H2 r2 b2=>?_⟩
  obtain ⟨dx2,ho2⟩:=r2.ob
  refine ⟨(by show 2<=sizeLine;decide),fun p np=>?_⟩
  have s3:=ag (o:=.tup [.str x.1,.str x.2]) np
  exact q p _ (r2.same s3) ((b1.trans b2).same s3) (gQ (b1.trans b2) ho2 np) ad
inductive NextV (H:Hp) (u:V):Prop
 | mk (p:_):u=.ref p->H p=some (.tup [.str "next"])->NextV H u
inductive LeafV (H:Hp) (u:V):Prop
 | mk (p t e:_):u=.ref p->H p=some (.tup [.str "leaf",.ref t,e])->H t=some (.tup [])->NextV H e->LeafV H u
inductive vf (C:Addr) (vs:List V) (H:Hp) (Q:VK) (Z3:XK):Prop
 | mk (a l ts k me:_):vs=[.ref a]->RdO C H a l ts k me->(tz ts)[k]?=some "next"->(∀ p H',RdO C H' a l ts (k+1) me->ButO a H H'->H p=none->H' p=some (.tup [.str "next"])->Q (.ref p) H')->vf C vs H Q Z3
theorem scEnd:ay ["reader","end"] ["reader"] (am jT):=⟨rfl,rfl,rfl,by decide +kernel,rfl,by decide +kernel,by decide +kernel⟩
set_option maxHeartbeats 1000000 in
theorem zP {f:Addr} {fd:FuncData} (F:Fun K "read_end" "read_end" jT f fd) (T:wS P w K mg base C) (Z:pI K mg aS aE aF t1 t2 t3 t4):aN P w K mg base cj 3 f fd ["reader"] (vf C):=by
 refine F.ok scEnd (fun vs H Q E h=>?_) (fun cdv A outer s H vs Q E hr h=>?_)
 ·obtain ⟨a,l,ts,k,me,rfl,_⟩:=h
  rfl
 ·obtain ⟨a,l,ts,k,me,rfl,hR,h0,q⟩:=h
  have hr1:Room 1 _:=hr.mono (by decide)
  refine ⟨_,af (aw (i:=1) scEnd.nd rfl (Or.inl rfl) (bQ (pv 0) (aa (bo (v:=.ref aE) rfl Z.ends rfl) ac)))
   (af (aT (PW.pt (cE (aq bO (pv 1) ak (aB _)) (ck (aq cI (bz (pv 0)) (bo (v:=.ref aF) rfl Z.owf rfl) rfl)))) (ai bG) aI)
   (af (aT (aq cI (pv 1) (aW (aa ak (aa ak (aa ak ac)))) rfl) (ai (av (aW (aa (pv 1) (aa (bz (pv 0)) ac))))) aI)
   (ai (av (aW (aa (pv 1) ac)))))),?_⟩
  obtain ⟨f1,fd1,M1,F1,B1⟩:=T.need
  obtain ⟨dx,ho⟩:=hR.ob
  refine ⟨_,rfl,a,dx,C,f1,_,fd1,2,["self","words"],_,rfl,ho,rfl,T.cl,M1,F1,hr,B1,a,l,ts,k,me,"next",aE,["next","go","call","back","stop","fault"],rfl,hR,h0,.inr (Z.endsq _),by decide +kernel,fun H1 r1 b1=>?_⟩
  obtain ⟨dx1,ho1⟩:=r1.ob
  refine ⟨_,rfl,rfl,_,rfl,bi (by decide +kernel) ?_⟩
  refine cA ?_
  refine ⟨_,rfl,(by show 3<=sizeLine;decide),fun p1 n1=>?_⟩
  have s1:=ag (o:=.tup [.str "go",.str "call",.str "fault"]) n1
  refine ⟨p1,_,rfl,.inr (SqT.of ad),rfl,by decide +kernel,_,rfl,bi (by decide +kernel) ?_⟩
  refine ⟨_,rfl,(by show 1<=sizeLine;decide),fun p np=>?_⟩
  have s3:=ag (o:=.tup [.str "next"]) np
  exact q p _ ((r1.same s1).same s3) ((b1.same s1).same s3) (gQ (b1.same s1) (s1 _ _ ho1) np) ad
end
end L3
namespace L3
open PySem L2
inductive pJ (C:Addr) (vs:List V) (H:Hp) (Q:VK) (Z3:XK):Prop
 | mk (a l ts k me wv:_):vs=[.ref a,wv]->RdO C H a l ts k me->(tz ts)[k]?=some "next"->(∀ u H',RdO C H' a l ts (k+1) me->ButO a H H'->LeafV H' u->Q u H')->pJ C vs H Q Z3
inductive pK (C:Addr) (vs:List V) (H:Hp) (Q:VK) (Z3:XK):Prop
 | mk (a l ts k me wv:_) (n:Nat):vs=[.ref a,wv,.int n]->n < 3->RdO C H a l ts k me->(tz ts)[k]?=some "{"->(tz ts)[k+1]?=some "next"->(tz ts)[k+2]?=some "}"->(∀ u H',RdO C H' a l ts (k+3) me->ButO a H H'->LeafV H' u->Q u H')->pK C vs H Q Z3
theorem ButO.kt {C:Addr} {a dx:Addr} {H H':Hp} {fs:List (Str×V)} (b:ButO a H H') (ho:H a=some (.ins C dx fs)):TupK H H':=fun c xs e=>b c _ e (by
 rintro rfl
 rw [ho] at e
 cases e)
theorem NextV.kt {H H':Hp} (k:TupK H H') {u:V} (h:NextV H u):NextV H' u:=let ⟨p,a,b⟩:=h;⟨p,a,k _ _ b⟩
theorem LeafV.kt {H H':Hp} (k:TupK H H') {u:V} (h:LeafV H u):LeafV H' u:=let ⟨p,t,e,a,b,c,d⟩:=h;⟨p,t,e,a,k _ _ b,k _ _ c,d.kt k⟩
section
variable {P:Program} {w:World} {K:PySem.W.Frag} {mg:Str->Option Value} {base:Heap} {C:Addr} {aS aE aF:Addr} {t1 t2 t3 t4:Tok}
theorem scLeaf:ay ["reader","width","sets","cell_free"] ["reader","width"] (am iW):=⟨rfl,rfl,rfl,by decide +kernel,rfl,by decide +kernel,by decide +kernel⟩
set_option maxHeartbeats 1000000 in
theorem xC {f:Addr} {fd:FuncData} (F:Fun K "read_leaf" "read_leaf" iW f fd) (T:wS P w K mg base C) (Z:pI K mg aS aE aF t1 t2 t3 t4) (B:Bl mg) (EN:Fn P w K mg base "read_end" 3 ["reader"] (vf C)):aN P w K mg base cj 4 f fd ["reader","width"] (pJ C):=by
 refine F.ok scLeaf (fun vs H Q E h=>?_) (fun cdv A outer s H vs Q E hr h=>?_)
 ·obtain ⟨a,l,ts,k,me,wv,rfl,_⟩:=h
  rfl
 ·obtain ⟨a,l,ts,k,me,wv,rfl,hR,h0,q⟩:=h
  have hr1:Room 1 _:=hr.mono (by decide)
  refine ⟨_,af (aw (i:=2) scLeaf.nd rfl (Or.inl rfl) (aV ac))
   (af (eP PassesOwn.never (PW.pt (cE (aq fU (au aA (by rfl) B.len Ei (aa (pv 2) ac)) (bo (v:=.int 4) rfl Z.ms ⟨_,rfl⟩) (aB _)) (ck (aq bO (bz (pv 0)) ak (aB _))))) (af bG (af bG (ai bG))))
   (ai (av (aW (aa ak (aa (aM bF (by rfl) B.tuple bH (aa (pv 2) ac)) (aa (aC EN hr rfl (aa (pv 0) ac)) ac))))))),?_⟩
  obtain ⟨f3,fd3,M3,F3,B3⟩:=T.look
  obtain ⟨dx,ho⟩:=hR.ob
  refine ⟨(by show 0<=sizeLine;decide),fun ln nn=>?_⟩
  have s1:=ag (o:=.lst []) nn
  have e1:(ax H ln (.lst [])) ln=some (.lst []):=ad
  generalize ax H ln (.lst ([]:List V))=H1 at *
  refine ⟨fun m σ H'=>m=0/\H'=H1/\σ=[some (.ref a),some wv,some (.ref ln),none],⟨_,rfl,rfl,rfl⟩,?_⟩
  rintro m σ H2 ⟨rfl,rfl,rfl⟩
  refine ⟨_,rfl,ln,_,rfl,.inl (SqL.of e1),_,_,rfl,rfl,_,rfl,bB (by decide +kernel) ?_⟩
  refine ⟨_,rfl,a,dx,C,f3,_,fd3,1,["self"],_,rfl,s1 _ _ ho,rfl,T.cl,M3,F3,hr1,B3,a,l,ts,k,me,"next",rfl,hR.same s1,h0,rfl,_,rfl,bi (by decide +kernel) ?_⟩
  refine ⟨_,rfl,ln,_,rfl,.inl ⟨SqL.of e1,fun t nt=>?_⟩⟩
  have s2:=ag (o:=.tup []) nt
  have e2:(ax H2 t (.tup [])) t=some (.tup []):=ad
  generalize ax H2 t (.tup ([]:List V))=H3 at *
  have s12:=s1.trans s2
  have ho3:=s12 _ _ ho
  refine ⟨_,rfl,a,l,ts,k,me,rfl,hR.same s12,h0,fun p H4 r4 b4 np e4=>⟨(by show 3<=sizeLine;decide),fun pt npt=>?_⟩⟩
  have s5:=ag (o:=.tup [.str "leaf",.ref t,.ref p]) npt
  have k4:=b4.kt ho3
  refine q _ _ (r4.same s5) (((dS s12).trans b4).same s5) ⟨pt,t,.ref p,rfl,ad,s5 _ _ (k4 _ _ e2),⟨p,rfl,s5 _ _ e4⟩⟩
theorem scBody:ay ["reader","width","choices","body"] ["reader","width","choices"] (am iV):=⟨rfl,rfl,rfl,by decide +kernel,rfl,by decide +kernel,by decide +kernel⟩
set_option maxHeartbeats 1000000 in
theorem xD {f:Addr} {fd:FuncData} (F:Fun K "read_body" "read_body" iV f fd) (T:wS P w K mg base C) (Z:pI K mg aS aE aF t1 t2 t3 t4) (LF:Fn P w K mg base "read_leaf" 4 ["reader","width"] (pJ C)):aN P w K mg base cj 5 f fd ["reader","width","choices"] (pK C):=by
 refine F.ok scBody (fun vs H Q E h=>?_) (fun cdv A outer s H vs Q E hr h=>?_)
 ·obtain ⟨a,l,ts,k,me,wv,n,rfl,_⟩:=h
  rfl
 ·obtain ⟨a,l,ts,k,me,wv,n,rfl,hn,hR,h0,h1,h2,q⟩:=h
  have hr1:Room 1 _:=hr.mono (by decide)
  have hr2:Room 2 _:=hr.mono (by decide)
  refine ⟨_,af (aQ (bQ (pv 0) (aa (aW (aa ak ac)) ac)))
   (af (aT (PW.pt (cE (aq fU (pv 2) (bo (v:=.int 3) rfl Z.mc ⟨_,rfl⟩) (aB _)) (ck (aq bO (bz (pv 0)) ak (aB _))))) (ai bG) (ai (aw (i:=3) scBody.nd rfl (Or.inl rfl) (aC LF hr rfl (aa (pv 0) (aa (pv 1) ac))))))
   (af (aQ (bQ (pv 0) (aa (aW (aa ak ac)) ac)))
   (ai (av (pv 3))))),?_⟩
  obtain ⟨f1,fd1,M1,F1,B1⟩:=T.need
  obtain ⟨f3,fd3,M3,F3,B3⟩:=T.look
  obtain ⟨dx,ho⟩:=hR.ob
  refine ⟨_,rfl,a,dx,C,f1,_,fd1,2,["self","words"],_,rfl,ho,rfl,T.cl,M1,F1,hr2,B1,(by show 1<=sizeLine;decide),fun p1 n1=>?_⟩
  have s1:=ag (o:=.tup [.str "{"]) n1
  refine ⟨a,l,ts,k,me,"{",p1,["{"],rfl,hR.same s1,h0,(.inr (SqT.of ad)),by simp,fun H1 r1 b1=>?_⟩
  obtain ⟨dx1,ho1⟩:=r1.ob
  refine ⟨_,rfl,_,_,rfl,rfl,_,rfl,bB (decide_eq_true (by omega)) ?_⟩
  refine ⟨_,rfl,a,dx1,C,f3,_,fd3,1,["self"],_,rfl,ho1,rfl,T.cl,M3,F3,hr1,B3,a,l,ts,k+1,me,"next",rfl,r1,h1,rfl,_,rfl,bi (by decide +kernel) ?_⟩
  refine ⟨_,rfl,_,rfl,a,l,ts,k+1,me,wv,rfl,r1,h1,fun u H2 r2 b2 hu=>?_⟩
  obtain ⟨dx2,ho2⟩:=r2.ob
  refine ⟨_,rfl,a,dx2,C,f1,_,fd1,2,["self","words"],_,rfl,ho2,rfl,T.cl,M1,F1,hr2,B1,(by show 1<=sizeLine;decide),fun p2 n2=>?_⟩
  have s2:=ag (o:=.tup [.str "}"]) n2
  refine ⟨a,l,ts,k+2,me,"}",p2,["}"],rfl,r2.same s2,h2,(.inr (SqT.of ad)),by simp,fun H3 r3 b3=>?_⟩
  refine ⟨_,rfl,q u H3 r3 ((((dS s1).trans b1).trans b2).trans ((dS s2).trans b3)) ((hu.kt (aZ s2)).kt (b3.kt (s2 _ _ ho2)))⟩
end
end L3
namespace L3
open PySem L2
theorem jd {α β:Type} {R:α->β->Prop} {x:α} {y:β} (h:R x y):∀ {xs:List α} {ys:List β},Paired R xs ys->Paired R (xs++[x]) (ys++[y])
 | _,_,.nil=>.cons h .nil
 | _,_,.cons a b=>.cons a (jd h b)
theorem dm {α β:Type} {R R':α->β->Prop} (f:∀ x y,R x y->R' x y):∀ {xs:List α} {ys:List β},Paired R xs ys->Paired R' xs ys
 | _,_,.nil=>.nil
 | _,_,.cons a b=>.cons (f _ _ a) (dm f b)
theorem qM {H:Hp} {l:Addr} {xs ys:List V} (e:H l=some (.lst xs)):TupK H (ax H l (.lst ys)):=fun b us h=>by
 rw [ao]
 ·exact h
 ·rintro rfl
  rw [e] at h
  cases h
theorem FldV.kt {H H':Hp} (k:TupK H H') {u:V} {x:Str×Str} (h:FldV H u x):FldV H' u x:=let ⟨p,a,b⟩:=h;⟨p,a,k _ _ b⟩
def pM (ts:List Str) (k:Nat) (fs:List (Str×Str)):Prop:=∀ i (h:i < fs.length),(tz ts)[k+3*i]?=some fs[i].1/\NameS fs[i].1/\(tz ts)[k+3*i+1]?=some fs[i].2/\fs[i].2∈di/\(i+1 < fs.length->(tz ts)[k+3*i+2]?=some ",")
inductive jY (C:Addr) (vs:List V) (H:Hp) (Q:VK) (Z3:XK):Prop
 | mk (a l ts k me fs:_):vs=[.ref a]->RdO C H a l ts k me->(tz ts)[k]?=some "("->pM ts (k+1) fs->(tz ts)[k+1+(3*fs.length - 1)]?=some ")"->fs.length<=3->(∀ p us H',RdO C H' a l ts (k+2+(3*fs.length - 1)) me->ButO a H H'->H p=none->H' p=some (.tup us)->Paired (FldV H') us fs->Q (.ref p) H')->jY C vs H Q Z3
structure FI (C:Addr) (H:Hp) (a l:Addr) (ts:List Str) (k:Nat) (me:Bool) (fs:List (Str×Str)) (j:Nat) (lf:Addr) (H':Hp):Prop where
 rd:RdO C H' a l ts (k+(3*j - 1)) me
 bt:ButO a H H'
 nf:H lf=none
 la:lf≠a
 ll:lf≠l
 ls:∃ us,H' lf=some (.lst us)/\us.length=j/\Paired (FldV H') us (fs.take j)
section
variable {P:Program} {w:World} {K:PySem.W.Frag} {mg:Str->Option Value} {base:Heap} {C:Addr} {aS aE aF:Addr} {t1 t2 t3 t4:Tok}
theorem FI.more {H:Hp} {a l:Addr} {ts:List Str} {k:Nat} {me:Bool} {fs:List (Str×Str)} {j:Nat} {lf:Addr} {H3 H4:Hp} {p:Addr} {us:List V} (I:FI C H a l ts k me fs j lf H3) (hj:j < fs.length) (hk:TupK H3 H4) (e4:H4 lf=some (.lst us)) (hu:us.length=j) (hp:Paired (FldV H3) us (fs.take j))
  (r4:RdO C H4 a l ts (k+(3*(j+1) - 1)) me) (b4:ButO a H3 H4) (ep:H4 p=some (.tup [.str fs[j].1,.str fs[j].2])):FI C H a l ts k me fs (j+1) lf (ax H4 lf (.lst (us++[.ref p]))):=by
 have k2:=qM (ys:=us++[V.ref p]) e4
 refine ⟨⟨?_,?_,r4.le⟩,?_,I.nf,I.la,I.ll,us++[.ref p],ad,by simp [hu],?_⟩
 ·obtain ⟨dx,ho⟩:=r4.ob
  exact ⟨dx,by rw [ao I.la.symm];exact ho⟩
 ·rw [ao I.ll.symm]
  exact r4.tk
 ·intro b o e nb
  by_cases h:b=lf
  ·rw [h,I.nf] at e
   cases e
  ·rw [ao h]
   exact b4 _ _ (I.bt _ _ e nb) nb
 ·rw [EJ,El hj]
  exact jd ⟨p,rfl,k2 _ _ ep⟩ (dm (fun _ _ h=>(h.kt hk).kt k2) hp)
theorem scFields:ay ["reader","fields"] ["reader"] (am gv):=⟨rfl,rfl,rfl,by decide +kernel,rfl,by decide +kernel,by decide +kernel⟩
set_option maxHeartbeats 4000000 in
theorem sM {f:Addr} {fd:FuncData} (F:Fun K "read_fields" "read_fields" gv f fd) (T:wS P w K mg base C) (Z:pI K mg aS aE aF t1 t2 t3 t4) (B:Bl mg) (FL:Fn P w K mg base "read_field" 3 ["reader"] (mG C)):aN P w K mg base cj 4 f fd ["reader"] (jY C):=by
 refine F.ok scFields (fun vs H Q E h=>?_) (fun cdv A outer s H vs Q E hr h=>?_)
 ·obtain ⟨a,l,ts,k,me,fs,rfl,_⟩:=h
  rfl
 ·obtain ⟨a,l,ts,k,me,fs,rfl,hR,h0,hf,he,h3,q⟩:=h
  have hr1:Room 1 _:=hr.mono (by decide)
  have hr2:Room 2 _:=hr.mono (by decide)
  have sz:(1000:Nat)<=sizeLine:=by decide
  refine ⟨_,af (aQ (bQ (pv 0) (aa (aW (aa ak ac)) ac)))
   (af (aw (i:=1) scFields.nd rfl (Or.inl rfl) (aV ac))
   (bR (fun σ H'=>∃ j lf,j=min 1 fs.length/\σ=[some (.ref a),some (.ref lf)]/\FI C H a l ts (k+1) me fs j lf H') (aT (aq iw (bz (pv 0)) ak (aB _)) (ai (aQ (bX Ep Eu Et bM (pv 1) (aa (aC FL hr rfl (aa (pv 0) ac)) ac)))) aI)
   (bR (fun σ H'=>∃ lf,σ=[some (.ref a),some (.ref lf)]/\FI C H a l ts (k+1) me fs fs.length lf H') (eP PassesOwn.never (PW.pt (cE (jF fU fU aj (au aA (by rfl) B.len Ei (aa (pv 1) ac)) (bo (v:=.int 3) rfl Z.mf ⟨_,rfl⟩)) (ck (aq bO (bz (pv 0)) ak (aB _)))))
    (af (aQ (bz (pv 0))) (ai (aQ (bX Ep Eu Et bM (pv 1) (aa (aC FL hr rfl (aa (pv 0) ac)) ac))))))
   (af (aQ (bQ (pv 0) (aa (aW (aa ak ac)) ac)))
   (ai (av (aM bF (by rfl) B.tuple bH (aa (pv 1) ac)))))))),?_⟩
  obtain ⟨f1,fd1,M1,F1,B1⟩:=T.need
  obtain ⟨f2,fd2,M2,F2,B2⟩:=T.take
  obtain ⟨f3,fd3,M3,F3,B3⟩:=T.look
  obtain ⟨dx,ho⟩:=hR.ob
  refine ⟨_,rfl,a,dx,C,f1,_,fd1,2,["self","words"],_,rfl,ho,rfl,T.cl,M1,F1,hr2,B1,(by show 1<=sizeLine;decide),fun p1 n1=>?_⟩
  have s1:=ag (o:=.tup [.str "("]) n1
  refine ⟨a,l,ts,k,me,"(",p1,["("],rfl,hR.same s1,h0,(.inr (SqT.of ad)),by simp,fun H1 r1 b1=>?_⟩
  have c1:ButO a H H1:=(dS s1).trans b1
  obtain ⟨dx1,ho1⟩:=r1.ob
  refine ⟨(by show 0<=sizeLine;decide),fun lf nf=>?_⟩
  have s2:=ag (o:=.lst []) nf
  have e2:(ax H1 lf (.lst [])) lf=some (.lst []):=ad
  have nH:H lf=none:=gQ c1 ho1 nf
  have laN:lf≠a:=by
   rintro rfl
   rw [nH] at ho
   cases ho
  have llN:lf≠l:=fun z=>by
   have:=hR.tk
   rw [<-z,nH] at this
   cases this
  have I0:FI C H a l ts (k+1) me fs 0 lf (ax H1 lf (.lst [])):=⟨r1.same s2,c1.same s2,nH,laN,llN,[],e2,rfl,.nil⟩
  generalize ax H1 lf (.lst ([]:List V))=H2 at *
  refine ⟨?_,?_⟩
  ·rintro σ H3 ⟨j0,lf,hj0,rfl,I3⟩
   refine ⟨?_,?_⟩
   ·rintro σ H4 ⟨lf,rfl,I4⟩
    obtain ⟨us,e4,l4,p4⟩:=I4.ls
    rw [EI] at p4
    obtain ⟨dx4,ho4⟩:=I4.rd.ob
    refine ⟨_,rfl,a,dx4,C,f1,_,fd1,2,["self","words"],_,rfl,ho4,rfl,T.cl,M1,F1,hr2,B1,(by show 1<=sizeLine;decide),fun p2 n2=>?_⟩
    have s4:=ag (o:=.tup [.str ")"]) n2
    refine ⟨a,l,ts,_,me,")",p2,[")"],rfl,I4.rd.same s4,he,(.inr (SqT.of ad)),by simp,fun H5 r5 b5=>?_⟩
    have e5:=b5 _ _ (s4 _ _ e4) I4.la
    have k5:=(aZ s4).trans (b5.kt (s4 _ _ ho4))
    obtain ⟨dx5,ho5⟩:=r5.ob
    have c5:ButO a H H5:=(I4.bt.same s4).trans b5
    refine ⟨_,rfl,lf,us,rfl,.inl ⟨SqL.of e5,fun p3 n3=>?_⟩⟩
    have s6:=ag (o:=.tup us) n3
    refine q p3 us _ ?_ (c5.same s6) (gQ c5 ho5 n3) ad (dm (fun _ _ h=>(h.kt k5).kt (aZ s6)) p4)
    have:=r5.same s6
    have ee:k+1+(3*fs.length - 1)+1=k+2+(3*fs.length - 1):=by omega
    rw [ee] at this
    exact this
   ·refine ⟨fun m σ H'=>∃ j lf,m=fs.length - j/\j<=fs.length/\(0 < j\/fs.length=0)/\σ=[some (.ref a),some (.ref lf)]/\FI C H a l ts (k+1) me fs j lf H',⟨_,j0,lf,rfl,by omega,by omega,rfl,I3⟩,?_⟩
    rintro m σ H5 ⟨j,lf,rfl,hj,hj1,rfl,I5⟩
    obtain ⟨us,e5,l5,p5⟩:=I5.ls
    obtain ⟨dx5,ho5⟩:=I5.rd.ob
    have done:j=fs.length->∃ lf',[some (V.ref a),some (V.ref lf)]=[some (V.ref a),some (.ref lf')]/\FI C H a l ts (k+1) me fs fs.length lf' H5:=fun e=>⟨lf,rfl,e ▸ I5⟩
    by_cases hj0':0 < j
    ·by_cases hlt:j < fs.length
     ·refine ⟨_,rfl,lf,_,rfl,.inl (SqL.of e5),_,_,rfl,rfl,_,rfl,bB (decide_eq_true (by rw [l5];omega)) ⟨_,_,rfl,rfl,_,rfl,bB (decide_eq_true (by rw [l5];omega)) ?_⟩⟩
      obtain ⟨_,_,_,_,hcm⟩:=hf (j - 1) (by omega)
      have hcm':(tz ts)[k+1+(3*j - 1)]?=some ",":=by
       have:=hcm (by omega)
       rw [show k+1+3*(j - 1)+2=k+1+(3*j - 1) by omega] at this
       exact this
      refine ⟨_,rfl,a,dx5,C,f3,_,fd3,1,["self"],_,rfl,ho5,rfl,T.cl,M3,F3,hr1,B3,a,l,ts,_,me,",",rfl,I5.rd,hcm',rfl,_,rfl,bB (by decide +kernel) ?_⟩
      refine ⟨fun σ' H'=>σ'=[some (.ref a),some (.ref lf)]/\FI C H a l ts (k+1) me fs (j+1) lf H',fun σ' H' ⟨e1,e2⟩=>⟨_,by omega,j+1,lf,rfl,by omega,by omega,e1,e2⟩,?_⟩
      refine ⟨_,rfl,a,dx5,C,f2,_,fd2,1,["self"],_,rfl,ho5,rfl,T.cl,M2,F2,hr1,B2,a,l,ts,_,me,",",rfl,I5.rd,hcm',fun H6 r6 b6=>?_⟩
      obtain ⟨dx6,ho6⟩:=r6.ob
      have e6:=b6 _ _ e5 I5.la
      obtain ⟨g1,g2,g3,g4,_⟩:=hf j hlt
      have ek:k+1+(3*j - 1)+1=k+1+3*j:=by omega
      rw [ek] at r6
      refine ⟨_,rfl,.inl ⟨rfl,_,SqL.of e6⟩,_,rfl,a,l,ts,_,me,fs[j],rfl,r6,g1,g2,g3,g4,fun p H7 r7 b7 np ep=>?_⟩
      have e7:=b7 _ _ e6 I5.la
      have ek2:k+1+3*j+2=k+1+(3*(j+1) - 1):=by omega
      rw [ek2] at r7
      exact ⟨lf,us,_,rfl,rfl,e7,by rw [l5];omega,rfl,I5.more hlt ((b6.kt ho5).trans (b7.kt ho6)) e7 l5 p5 r7 (b6.trans b7) ep⟩
     ·have hje:j=fs.length:=by omega
      have he':(tz ts)[k+1+(3*j - 1)]?=some ")":=by rw [hje];exact he
      by_cases h3':j < 3
      ·refine ⟨_,rfl,lf,_,rfl,.inl (SqL.of e5),_,_,rfl,rfl,_,rfl,bB (decide_eq_true (by rw [l5];omega)) ⟨_,_,rfl,rfl,_,rfl,bB (decide_eq_true (by rw [l5];omega)) ?_⟩⟩
       refine ⟨_,rfl,a,dx5,C,f3,_,fd3,1,["self"],_,rfl,ho5,rfl,T.cl,M3,F3,hr1,B3,a,l,ts,_,me,")",rfl,I5.rd,he',rfl,_,rfl,bi (by decide +kernel) (done hje)⟩
      ·refine ⟨_,rfl,lf,_,rfl,.inl (SqL.of e5),_,_,rfl,rfl,_,rfl,bB (decide_eq_true (by rw [l5];omega)) ⟨_,_,rfl,rfl,_,rfl,bi (decide_eq_false (by rw [l5];omega)) (cA (done hje))⟩⟩
    ·have hje:j=fs.length:=by omega
     refine ⟨_,rfl,lf,_,rfl,.inl (SqL.of e5),_,_,rfl,rfl,_,rfl,bi (decide_eq_false (by rw [l5];omega)) ⟨_,rfl,cA (cA (done hje))⟩⟩
  ·obtain ⟨dx2,ho2⟩:=I0.rd.ob
   by_cases hz:0 < fs.length
   ·obtain ⟨g1,g2,g3,g4,_⟩:=hf 0 hz
    have nsc:fs[0].1≠(")":Str):=by
     intro z
     obtain ⟨_,_,_,hc⟩:=g2
     rw [z] at hc
     exact absurd (hc 41 (by decide +kernel)) (by omega)
    refine ⟨_,rfl,a,dx2,C,f3,_,fd3,1,["self"],_,rfl,ho2,rfl,T.cl,M3,F3,hr1,B3,a,l,ts,_,me,fs[0].1,rfl,I0.rd,g1,rfl,_,rfl,bB (by simpa using nsc) ?_⟩
    refine ⟨_,rfl,.inl ⟨rfl,_,SqL.of e2⟩,_,rfl,a,l,ts,_,me,fs[0],rfl,I0.rd,g1,g2,g3,g4,fun p H7 r7 b7 np ep=>?_⟩
    have e7:=b7 _ _ e2 I0.la
    exact ⟨lf,[],_,rfl,rfl,e7,by show 0 < sizeLine;decide,1,lf,by omega,rfl,I0.more hz (b7.kt ho2) e7 rfl .nil r7 b7 ep⟩
   ·have hz0:fs.length=0:=by omega
    have he':(tz ts)[k+1+(3*0 - 1)]?=some ")":=by rw [hz0] at he;exact he
    refine ⟨_,rfl,a,dx2,C,f3,_,fd3,1,["self"],_,rfl,ho2,rfl,T.cl,M3,F3,hr1,B3,a,l,ts,_,me,")",rfl,I0.rd,he',rfl,_,rfl,bi (by simp) ?_⟩
    exact ⟨0,lf,by omega,rfl,I0⟩
end
end L3
namespace L3
open PySem L2
structure Kn where
 name:Str
 fs:List (Str×Str)
inductive KindV (H:Hp) (u:V) (x:Kn):Prop
 | mk (p tf b us:_):u=.ref p->H p=some (.tup [.str x.name,.ref tf,b])->H tf=some (.tup us)->Paired (FldV H) us x.fs->LeafV H b->KindV H u x
theorem KindV.kt {H H':Hp} (k:TupK H H') {u:V} {x:Kn} (h:KindV H u x):KindV H' u x:=let ⟨p,tf,b,us,a,c,d,e,f⟩:=h;⟨p,tf,b,us,a,k _ _ c,k _ _ d,dm (fun _ _ h=>h.kt k) e,f.kt k⟩
def sN (x:Kn):Nat:=7+(3*x.fs.length - 1)
structure pN (ts:List Str) (k:Nat) (x:Kn):Prop where
 t0:(tz ts)[k]?=some "kind"
 t1:(tz ts)[k+1]?=some x.name
 nm:NameS x.name
 t2:(tz ts)[k+2]?=some "("
 fl:pM ts (k+3) x.fs
 t3:(tz ts)[k+3+(3*x.fs.length - 1)]?=some ")"
 le:x.fs.length<=3
 t4:(tz ts)[k+4+(3*x.fs.length - 1)]?=some "{"
 t5:(tz ts)[k+5+(3*x.fs.length - 1)]?=some "next"
 t6:(tz ts)[k+6+(3*x.fs.length - 1)]?=some "}"
inductive pO (C:Addr) (vs:List V) (H:Hp) (Q:VK) (Z3:XK):Prop
 | mk (a l ts k me wv x:_):vs=[.ref a,wv]->RdO C H a l ts k me->pN ts k x->(∀ u H',RdO C H' a l ts (k+sN x) me->ButO a H H'->KindV H' u x->Q u H')->pO C vs H Q Z3
section
variable {P:Program} {w:World} {K:PySem.W.Frag} {mg:Str->Option Value} {base:Heap} {C:Addr} {aS aE aF:Addr} {t1 t2 t3 t4:Tok}
theorem scKind:ay ["reader","width","name","fields"] ["reader","width"] (am iU):=⟨rfl,rfl,rfl,by decide +kernel,rfl,by decide +kernel,by decide +kernel⟩
set_option maxHeartbeats 1000000 in
theorem xE {f:Addr} {fd:FuncData} (F:Fun K "read_kind" "read_kind" iU f fd) (T:wS P w K mg base C) (FS:Fn P w K mg base "read_fields" 4 ["reader"] (jY C)) (BD:Fn P w K mg base "read_body" 5 ["reader","width","choices"] (pK C)):aN P w K mg base cj 6 f fd ["reader","width"] (pO C):=by
 refine F.ok scKind (fun vs H Q E h=>?_) (fun cdv A outer s H vs Q E hr h=>?_)
 ·obtain ⟨a,l,ts,k,me,wv,x,rfl,_⟩:=h
  rfl
 ·obtain ⟨a,l,ts,k,me,wv,x,rfl,hR,hK,q⟩:=h
  have hr2:Room 2 _:=hr.mono (by decide)
  have hr4:Room 4 _:=hr.mono (by decide)
  refine ⟨_,af (aQ (bQ (pv 0) (aa (aW (aa ak ac)) ac)))
   (af (aw (i:=2) scKind.nd rfl (Or.inl rfl) (bz (pv 0)))
   (af (aw (i:=3) scKind.nd rfl (Or.inl rfl) (aC FS hr4 rfl (aa (pv 0) ac)))
   (ai (av (aW (aa (pv 2) (aa (pv 3) (aa (aC BD hr rfl (aa (pv 0) (aa (pv 1) (aa aj ac)))) ac)))))))),?_⟩
  obtain ⟨f1,fd1,M1,F1,B1⟩:=T.need
  obtain ⟨f2,fd2,M2,F2,B2⟩:=T.nname
  obtain ⟨dx,ho⟩:=hR.ob
  refine ⟨_,rfl,a,dx,C,f1,_,fd1,2,["self","words"],_,rfl,ho,rfl,T.cl,M1,F1,hr2,B1,(by show 1<=sizeLine;decide),fun p1 n1=>?_⟩
  have s1:=ag (o:=.tup [.str "kind"]) n1
  refine ⟨a,l,ts,k,me,"kind",p1,["kind"],rfl,hR.same s1,hK.t0,(.inr (SqT.of ad)),by simp,fun H1 r1 b1=>?_⟩
  obtain ⟨dx1,ho1⟩:=r1.ob
  refine ⟨_,rfl,a,dx1,C,f2,_,fd2,2,["self"],_,rfl,ho1,rfl,T.cl,M2,F2,hr2,B2,a,l,ts,k+1,me,x.name,rfl,r1,hK.t1,hK.nm,fun H2 r2 b2=>?_⟩
  refine ⟨_,rfl,a,l,ts,k+2,me,x.fs,rfl,r2,hK.t2,hK.fl,hK.t3,hK.le,fun tf us H3 r3 b3 nf e3 p3=>?_⟩
  obtain ⟨dx3,ho3⟩:=r3.ob
  have ek:k+2+2+(3*x.fs.length - 1)=k+4+(3*x.fs.length - 1):=by omega
  rw [ek] at r3
  have u5:(tz ts)[k+4+(3*x.fs.length - 1)+1]?=some "next":=by rw [show k+4+(3*x.fs.length - 1)+1=k+5+(3*x.fs.length - 1) by omega];exact hK.t5
  have u6:(tz ts)[k+4+(3*x.fs.length - 1)+2]?=some "}":=by rw [show k+4+(3*x.fs.length - 1)+2=k+6+(3*x.fs.length - 1) by omega];exact hK.t6
  refine ⟨_,rfl,_,rfl,_,rfl,_,rfl,a,l,ts,k+4+(3*x.fs.length - 1),me,wv,0,rfl,by decide,r3,hK.t4,u5,u6,fun u H4 r4 b4 hu=>⟨(by show 3<=sizeLine;decide),fun pt npt=>?_⟩⟩
  have s5:=ag (o:=.tup [.str x.name,.ref tf,u]) npt
  have k4:=b4.kt ho3
  have r5:=r4.same s5
  rw [show k+4+(3*x.fs.length - 1)+3=k+sN x by unfold sN;omega] at r5
  exact q _ _ r5 ((((((dS s1).trans b1).trans b2).trans b3).trans b4).same s5) ⟨pt,tf,u,us,rfl,ad,s5 _ _ (k4 _ _ e3),dm (fun _ _ h=>(h.kt k4).kt (aZ s5)) p3,hu.kt (aZ s5)⟩
abbrev pP:Stmt:=cK (cY 54) 0
inductive mH (C:Addr) (vs:List V) (H:Hp) (Q:VK) (Z3:XK):Prop
 | mk (x dx lt ts:_):vs=[.ref x,.ref lt]->H x=some (.ins C dx [])->H lt=some (.lst (ae ts))->ts.length<=1500->(∀ l H',RdO C H' x l ts 0 true->ButO x H H'->Q .non H')->mH C vs H Q Z3
theorem xF:ay ["self","tokens"] ["self","tokens"] (am pP):=⟨rfl,rfl,rfl,by decide +kernel,rfl,by decide +kernel,by decide +kernel⟩
end
end L3
namespace L3
open PySem L2
theorem xG {xs:List V} (h:xs.length<=1500):eX xs none (some 1500)=xs:=by
 have e1:HT.sIx xs.length 0 none=0:=rfl
 have e2:HT.sIx xs.length xs.length (some 1500)=xs.length:=by
  simp only [HT.sIx]
  rw [if_neg (by decide)]
  show min 1500 xs.length=xs.length
  omega
 unfold eX
 rw [e1,e2]
 simp
section
variable {P:Program} {w:World} {K:PySem.W.Frag} {mg:Str->Option Value} {base:Heap} {C:Addr} {aS aE aF:Addr} {t1 t2 t3 t4 t5:Tok}
set_option maxHeartbeats 1000000 in
theorem vh {f:Addr} {fd:FuncData} (F:Fun K "__init__" "Reader.__init__" pP f fd) (T:Rc K C) (B:Bl mg) (hm:mg "MOST_TOKENS"=some (.int 1500 t5)):aN P w K mg base cj 1 f fd ["self","tokens"] (mH C):=by
 refine F.ok xF (fun vs H Q E h=>?_) (fun cdv A outer s H vs Q E hr h=>?_)
 ·obtain ⟨x,dx,lt,ts,rfl,_⟩:=h
  rfl
 ·obtain ⟨x,dx,lt,ts,rfl,hx,hl,h15,q⟩:=h
  refine ⟨_,af (dn (pv 0) (aH c8 (ci dQ (pv 1) dD (bZ (bo (v:=.int 1500) rfl hm ⟨_,rfl⟩))) (aV (aa ak ac))) rfl)
   (af (dn (pv 0) aj rfl) (ai (dn (pv 0) (cX eR (au aA (by rfl) B.len Ei (aa (pv 1) ac)) (bo (v:=.int 1500) rfl hm ⟨_,rfl⟩) (aB _)) rfl))),?_⟩
  have lv:(ae ts).length<=1500:=by unfold ae;rw [D5];exact h15
  have sz:(10000:Nat)<=sizeLine:=by decide
  refine ⟨_,rfl,_,rfl,lt,_,rfl,SqL.of hl,fun p1 n1=>?_⟩
  rw [xG lv]
  have s1:=ag (o:=.lst (ae ts)) n1
  have e1:(ax H p1 (.lst (ae ts))) p1=some (.lst (ae ts)):=ad
  generalize ax H p1 (.lst (ae ts))=H1 at *
  refine ⟨(by show 1<=sizeLine;decide),fun p2 n2=>?_⟩
  have s2:=ag (o:=.lst [.str ""]) n2
  have s12:=s1.trans s2
  refine ⟨p1,p2,_,_,rfl,rfl,s2 _ _ e1,ad,by show _+1<=_;omega,fun l nl=>?_⟩
  have s3:=ag (o:=.lst (ae ts++[.str ""])) nl
  have s13:=s12.trans s3
  have el:(ax (ax H1 p2 (.lst [.str ""])) l (.lst (ae ts++[.str ""]))) l=some (.lst (ae (ts++[("":Str)]))):=by
   rw [ad]
   unfold ae
   rw [Ed]
   rfl
  have nlH:H l=none:=s12.free nl
  generalize ax (ax H1 p2 (.lst [V.str ""])) l (.lst (ae ts++[V.str ""]))=H3 at *
  have lx:l≠x:=by
   rintro rfl
   rw [nlH] at hx
   cases hx
  have ltx:lt≠x:=by
   rintro rfl
   rw [hl] at hx
   cases hx
  refine ⟨_,rfl,x,C,dx,_,rfl,s13 _ _ hx,T.cl,T.n1,(by show 0 < 1000;decide),?_⟩
  refine ⟨_,rfl,x,C,dx,_,rfl,ad,T.cl,T.n2,(by show 1 < 1000;decide),?_⟩
  have hl3:(ax (ax H3 x (.ins C dx (aJ "tokens" (.ref l) []))) x (.ins C dx (aJ "spot" (.int 0) (aJ "tokens" (.ref l) [])))) lt=some (.lst (ae ts)):=by rw [ao ltx,ao ltx];exact s13 _ _ hl
  refine ⟨_,rfl,lt,_,rfl,.inl (SqL.of hl3),_,_,rfl,rfl,?_⟩
  refine ⟨_,rfl,x,C,dx,_,rfl,ad,T.cl,T.n3,(by show 2 < 1000;decide),?_⟩
  have hd:decide (((ae ts).length:Int)<=1500)=true:=decide_eq_true (by omega)
  have eF:(aJ "may_end" (.bl (decide (((ae ts).length:Int)<=1500))) (aJ "spot" (.int 0) (aJ "tokens" (.ref l) [])))=wR l 0 true:=by rw [hd];rfl
  refine q l _ ⟨⟨dx,?_⟩,?_,h15⟩ ?_
  ·rw [ad]
   exact congrArg some (congrArg (HO.ins C dx) eF)
  ·rw [ao lx,ao lx,ao lx]
   exact el
  ·intro b o e nb
   rw [ao nb,ao nb,ao nb]
   exact s13 _ _ e
end
end L3
namespace L3
open PySem L2
structure Fm where
 width:Nat
 cells:Nat
 depth:Nat
 places:List Str
 marks:List Str
 gates:List Str
 kinds:List Kn
def ju (ts:List Str):Nat->List Kn->Prop
 | k,[]=>k=ts.length
 | k,x::r=>pN ts k x/\ju ts (k+sN x) r
structure pQ (ts:List Str) (D:Fm):Prop where
 a0:(tz ts)[0]?=some ("word":Str)
 a1:(tz ts)[1]?=some (toString (D.width:Int):Str)
 a2:(tz ts)[2]?=some (";":Str)
 a3:(tz ts)[3]?=some ("cells":Str)
 a4:(tz ts)[4]?=some (toString (D.cells:Int):Str)
 a5:(tz ts)[5]?=some (";":Str)
 a6:(tz ts)[6]?=some ("depth":Str)
 a7:(tz ts)[7]?=some (toString (D.depth:Int):Str)
 a8:(tz ts)[8]?=some (";":Str)
 a9:(tz ts)[9]?=some ("places":Str)
 pn:oi ts 10 D.places
 pe:(tz ts)[10+D.places.length]?=some (";":Str)
 m9:(tz ts)[11+D.places.length]?=some ("marks":Str)
 mn:oi ts (12+D.places.length) D.marks
 me:(tz ts)[12+D.places.length+D.marks.length]?=some (";":Str)
 g9:(tz ts)[13+D.places.length+D.marks.length]?=some ("gate":Str)
 gn:oi ts (14+D.places.length+D.marks.length) D.gates
 ge:(tz ts)[14+D.places.length+D.marks.length+D.gates.length]?=some (";":Str)
 ks:ju ts (15+D.places.length+D.marks.length+D.gates.length) D.kinds
 bw:4<=D.width/\D.width<=24
 bc:4<=D.cells/\D.cells<=64
 bd:D.depth<=8
 bp:1<=D.places.length/\D.places.length<=4
 bm:D.marks.length<=3
 bg:D.gates.length<=1
 bk:1<=D.kinds.length/\D.kinds.length<=8
inductive vi (H:Hp) (u:V) (D:Fm):Prop
 | mk (p pp pm pg pk us:_):u=.ref p->H p=some (.tup [.int D.width,.int D.cells,.int D.depth,.ref pp,.ref pm,.ref pg,.ref pk])->H pp=some (.tup (ae D.places))->H pm=some (.tup (ae D.marks))->H pg=some (.tup (ae D.gates))->H pk=some (.tup us)->Paired (KindV H) us D.kinds->vi H u D
inductive pR (vs:List V) (H:Hp) (Q:VK) (Z3:XK):Prop
 | mk (lt ts D:_):vs=[.ref lt]->H lt=some (.lst (ae ts))->ts.length<=1500->pQ ts D->(∀ u H',Same H H'->vi H' u D->Q u H')->pR vs H Q Z3
theorem dj {H Hc H':Hp} {a:Addr} (na:H a=none) (sc:Same H Hc) (b:ButO a Hc H'):Same H H':=fun c o e=>b c o (sc c o e) (aG e na)
structure KI (C:Addr) (Hc:Hp) (a l:Addr) (ts:List Str) (all done rest:List Kn) (lk pp pm pg:Addr) (D:Fm) (H':Hp):Prop where
 sp:all=done++rest
 rd:∃ k,RdO C H' a l ts k true/\ju ts k rest
 bt:ButO a Hc H'
 nk:Hc lk=none
 la:lk≠a
 ll:lk≠l
 ep:H' pp=some (.tup (ae D.places))
 em:H' pm=some (.tup (ae D.marks))
 eg:H' pg=some (.tup (ae D.gates))
 ls:∃ us,H' lk=some (.lst us)/\us.length=done.length/\Paired (KindV H') us done
section
variable {P:Program} {w:World} {K:PySem.W.Frag} {mg:Str->Option Value} {base:Heap} {C fi:Addr} {aS aE aF:Addr} {t1 t2 t3 t4 t5:Tok}
theorem scForm:ay ["tokens","reader","width","cells","depth","places","marks","gates","kinds"] ["tokens"] (am iS):=⟨rfl,rfl,rfl,by decide +kernel,rfl,by decide +kernel,by decide +kernel⟩
set_option maxHeartbeats 8000000 in
theorem xH {f:Addr} {fd:FuncData} {fdi:FuncData} (F:Fun K "read_form" "read_form" iS f fd) (T:wS P w K mg base C) (Z:pI K mg aS aE aF t1 t2 t3 t4) (B:Bl mg) (MK:Mk K C fi) (mgR:mg "Reader"=some (.ref C)) (IN:aN P w K mg base cj 1 fi fdi ["self","tokens"] (mH C)) (bI:Binds K fdi ["self","tokens"] [])
  (BO:Fn P w K mg base "read_bounded" 4 ["reader","word","low","high"] (i0 C)) (NA:Fn P w K mg base "read_names" 3 ["reader","word","least","most"] (mF C)) (KD:Fn P w K mg base "read_kind" 6 ["reader","width"] (pO C)):aN P w K mg base cj 7 f fd ["tokens"] pR:=by
 refine F.ok scForm (fun vs H Q E h=>?_) (fun cdv A outer s H vs Q E hr h=>?_)
 ·obtain ⟨lt,ts,D,rfl,_⟩:=h
  rfl
 ·obtain ⟨lt,ts,D,rfl,hl,h15,hF,q⟩:=h
  have hr1:Room 1 _:=hr.mono (by decide)
  have hr2:Room 2 _:=hr.mono (by decide)
  have hr3:Room 3 _:=hr.mono (by decide)
  have hr4:Room 4 _:=hr.mono (by decide)
  have sz:(10000:Nat)<=sizeLine:=by decide
  refine ⟨_,af (aw (i:=1) scForm.nd rfl (Or.inl rfl) (lT MK IN hr2 rfl mgR bI .nil hI (aa (pv 0) ac)))
   (af (aw (i:=2) scForm.nd rfl (Or.inl rfl) (aC BO hr4 rfl (aa (pv 1) (aa ak (aa aj (aa aj ac))))))
   (af (aw (i:=3) scForm.nd rfl (Or.inl rfl) (aC BO hr4 rfl (aa (pv 1) (aa ak (aa aj (aa aj ac))))))
   (af (aw (i:=4) scForm.nd rfl (Or.inl rfl) (aC BO hr4 rfl (aa (pv 1) (aa ak (aa aj (aa aj ac))))))
   (af (aw (i:=5) scForm.nd rfl (Or.inl rfl) (aC NA hr3 rfl (aa (pv 1) (aa ak (aa aj (aa aj ac))))))
   (af (aw (i:=6) scForm.nd rfl (Or.inl rfl) (aC NA hr3 rfl (aa (pv 1) (aa ak (aa aj (aa aj ac))))))
   (af (aw (i:=7) scForm.nd rfl (Or.inl rfl) (aC NA hr3 rfl (aa (pv 1) (aa ak (aa aj (aa aj ac))))))
   (af (aw (i:=8) scForm.nd rfl (Or.inl rfl) (aV (aa (aC KD hr rfl (aa (pv 1) (aa (pv 2) ac))) ac)))
   (af (eP PassesOwn.never (PW.pt (cE (aq fU (au aA (by rfl) B.len Ei (aa (pv 8) ac)) (bo (v:=.int 8) rfl Z.mkn ⟨_,rfl⟩) (aB _)) (ck (aq bO (bz (pv 1)) ak (aB _)))))
    (ai (aQ (bX Ep Eu Et bM (pv 8) (aa (aC KD hr rfl (aa (pv 1) (aa (pv 2) ac))) ac)))))
   (af (aQ (bz (pv 1)))
   (ai (av (aW (aa (pv 2) (aa (pv 3) (aa (pv 4) (aa (pv 5) (aa (pv 6) (aa (pv 7) (aa (aM bF (by rfl) B.tuple bH (aa (pv 8) ac)) ac))))))))))))))))))),?_⟩
  obtain ⟨f3,fd3,M3,F3,B3⟩:=T.look
  obtain ⟨f4,fd4,M4,F4,B4⟩:=T.nend
  refine ⟨_,rfl,fun a dx na nd ne=>⟨a,dx,lt,ts,rfl,ad,?_,h15,fun l H1 r1 b1=>⟨rfl,?_⟩⟩⟩
  ·exact (bY na (ag nd)) _ _ hl
  have s1:Same H H1:=dj na (bY na (ag nd)) b1
  have naH:=na
  clear b1
  refine ⟨_,rfl,a,l,ts,0,true,"word",D.width,4,24,rfl,r1,hF.a0,hF.a1,hF.a2,by have:=hF.bw;omega,hF.bw.1,hF.bw.2,fun H2 r2 b2=>?_⟩
  refine ⟨_,rfl,a,l,ts,3,true,"cells",D.cells,4,64,rfl,r2,hF.a3,hF.a4,hF.a5,by have:=hF.bc;omega,hF.bc.1,hF.bc.2,fun H3 r3 b3=>?_⟩
  refine ⟨_,rfl,a,l,ts,6,true,"depth",D.depth,0,8,rfl,r3,hF.a6,hF.a7,hF.a8,by have:=hF.bd;omega,EM _,hF.bd,fun H4 r4 b4=>?_⟩
  have b14:=(b2.trans b3).trans b4
  refine ⟨_,rfl,a,l,ts,9,true,"places",D.places,1,4,rfl,r4,hF.a9,hF.pn,hF.pe,hF.bp.1,hF.bp.2,by decide,fun pp H5 r5 b5 np5 e5=>?_⟩
  refine ⟨_,rfl,a,l,ts,9+2+D.places.length,true,"marks",D.marks,0,3,rfl,r5,?_,?_,?_,EM _,hF.bm,by decide,fun pm H6 r6 b6 np6 e6=>?_⟩
  ·exact hF.m9
  ·rw [show 9+2+D.places.length+1=12+D.places.length by omega];exact hF.mn
  ·rw [show 9+2+D.places.length+1+D.marks.length=12+D.places.length+D.marks.length by omega];exact hF.me
  obtain ⟨dx5,ho5⟩:=r5.ob
  have e5':=(b6.kt ho5) _ _ e5
  refine ⟨_,rfl,a,l,ts,9+2+D.places.length+2+D.marks.length,true,"gate",D.gates,0,1,rfl,r6,?_,?_,?_,EM _,hF.bg,by decide,fun pg H7 r7 b7 np7 e7=>?_⟩
  ·rw [show 9+2+D.places.length+2+D.marks.length=13+D.places.length+D.marks.length by omega];exact hF.g9
  ·rw [show 9+2+D.places.length+2+D.marks.length+1=14+D.places.length+D.marks.length by omega];exact hF.gn
  ·rw [show 9+2+D.places.length+2+D.marks.length+1+D.gates.length=14+D.places.length+D.marks.length+D.gates.length by omega];exact hF.ge
  obtain ⟨dx6,ho6⟩:=r6.ob
  have e5'':=(b7.kt ho6) _ _ e5'
  have e6':=(b7.kt ho6) _ _ e6
  rw [show 9+2+D.places.length+2+D.marks.length+2+D.gates.length=15+D.places.length+D.marks.length+D.gates.length by omega] at r7
  have b17:ButO a H1 H7:=((b14.trans b5).trans b6).trans b7
  have hks:=hF.ks
  have hbk:=hF.bk
  generalize 15+D.places.length+D.marks.length+D.gates.length=k0 at *
  obtain ⟨x0,rest0,hk0⟩:∃ x r,D.kinds=x::r:=by
   cases hh:D.kinds with
   | nil=>rw [hh] at hbk;simp at hbk
   | cons x r=>exact ⟨x,r,rfl⟩
  rw [hk0] at hks hbk
  obtain ⟨hK0,hks'⟩:=hks
  refine ⟨_,rfl,_,rfl,a,l,ts,k0,true,.int D.width,x0,rfl,r7,hK0,fun u0 H8 r8 b8 hu0=>?_⟩
  obtain ⟨dx7,ho7⟩:=r7.ob
  have kk8:=b8.kt ho7
  refine ⟨(by show 1<=sizeLine;decide),fun lk nk=>?_⟩
  have s9:=ag (o:=.lst [u0]) nk
  have b19:ButO a H1 (ax H8 lk (.lst [u0])):=(b17.trans b8).same s9
  obtain ⟨dx8,ho8⟩:=r8.ob
  obtain ⟨dx1,ho1⟩:=r1.ob
  have nkH1:H1 lk=none:=gQ (b17.trans b8) ho8 nk
  have lka:lk≠a:=by
   rintro rfl
   rw [ho8] at nk
   cases nk
  have lkl:lk≠l:=fun z=>by
   have:=r8.tk
   rw [<-z,nk] at this
   cases this
  have I0:KI C H1 a l ts D.kinds [x0] rest0 lk pp pm pg D (ax H8 lk (.lst [u0])):=⟨hk0,⟨_,r8.same s9,hks'⟩,b19,nkH1,lka,lkl,s9 _ _ (kk8 _ _ e5''),s9 _ _ (kk8 _ _ e6'),s9 _ _ (kk8 _ _ e7),[u0],ad,rfl,.cons (hu0.kt (aZ s9)) .nil⟩
  generalize ax H8 lk (.lst [u0])=H9 at *
  refine ⟨fun m σ H'=>∃ done rest,m=rest.length/\σ=[some (.ref lt),some (.ref a),some (.int D.width),some (.int D.cells),some (.int D.depth),some (.ref pp),some (.ref pm),some (.ref pg),some (.ref lk)]/\KI C H1 a l ts D.kinds done rest lk pp pm pg D H',⟨_,[x0],rest0,rfl,rfl,I0⟩,?_⟩
  rintro m σ Ha ⟨done,rest,rfl,rfl,I⟩
  obtain ⟨us,ek,lu,pu⟩:=I.ls
  obtain ⟨k,rk,hkr⟩:=I.rd
  obtain ⟨dxa,hoa⟩:=rk.ob
  have hall:done.length+rest.length<=8:=by
   have:=congrArg List.length I.sp
   rw [D9,hk0] at this
   simp only [D8] at this hbk
   omega
  cases rest with
  | cons x r=>
   obtain ⟨hKx,hkr'⟩:=hkr
   have hlt:done.length < 8:=by simp only [D8] at hall;omega
   refine ⟨_,rfl,lk,_,rfl,.inl (SqL.of ek),_,_,rfl,rfl,_,rfl,bB (decide_eq_true (by rw [lu];omega)) ?_⟩
   refine ⟨_,rfl,a,dxa,C,f3,_,fd3,1,["self"],_,rfl,hoa,rfl,T.cl,M3,F3,hr1,B3,a,l,ts,k,true,"kind",rfl,rk,hKx.t0,rfl,_,rfl,bB (by decide +kernel) ?_⟩
   refine ⟨fun σ' H'=>σ'=[some (.ref lt),some (.ref a),some (.int D.width),some (.int D.cells),some (.int D.depth),some (.ref pp),some (.ref pm),some (.ref pg),some (.ref lk)]/\KI C H1 a l ts D.kinds (done++[x]) r lk pp pm pg D H',fun σ' H' ⟨e1,e2⟩=>⟨r.length,by simp,done++[x],r,rfl,e1,e2⟩,?_⟩
   refine ⟨_,rfl,.inl ⟨rfl,_,SqL.of ek⟩,_,rfl,_,rfl,a,l,ts,k,true,.int D.width,x,rfl,rk,hKx,fun u Hb rb bb hu=>?_⟩
   have kb:=bb.kt hoa
   have eb:=bb _ _ ek I.la
   have k2:=qM (ys:=us++[u]) eb
   refine ⟨lk,us,_,rfl,rfl,eb,by rw [lu];omega,rfl,?_⟩
   refine ⟨by rw [I.sp,EU];rfl,⟨_,⟨?_,?_,rb.le⟩,hkr'⟩,?_,I.nk,I.la,I.ll,k2 _ _ (kb _ _ I.ep),k2 _ _ (kb _ _ I.em),k2 _ _ (kb _ _ I.eg),us++[u],ad,by simp [lu],jd (hu.kt k2) (dm (fun _ _ h=>(h.kt kb).kt k2) pu)⟩
   ·obtain ⟨dxb,hob⟩:=rb.ob
    exact ⟨dxb,by rw [ao I.la.symm];exact hob⟩
   ·rw [ao I.ll.symm]
    exact rb.tk
   ·intro b o e nb
    by_cases h:b=lk
    ·rw [h,I.nk] at e
     cases e
    ·rw [ao h]
     exact bb _ _ (I.bt _ _ e nb) nb
  | nil=>
   have hkE:k=ts.length:=hkr
   have hdone:D.kinds=done:=by rw [I.sp,ET]
   have lend:(tz ts)[k]?=some "":=by rw [hkE];simp [tz]
   have nke:("":Str)≠("kind":Str):=by decide +kernel
   have sH:Same H Ha:=dj naH s1 I.bt
   by_cases h8:done.length < 8
   ·refine ⟨_,rfl,lk,_,rfl,.inl (SqL.of ek),_,_,rfl,rfl,_,rfl,bB (decide_eq_true (by rw [lu];omega)) ?_⟩
    refine ⟨_,rfl,a,dxa,C,f3,_,fd3,1,["self"],_,rfl,hoa,rfl,T.cl,M3,F3,hr1,B3,a,l,ts,k,true,"",rfl,rk,lend,rfl,_,rfl,bi (by decide +kernel) ?_⟩
    refine ⟨_,rfl,a,dxa,C,f4,_,fd4,1,["self"],_,rfl,hoa,rfl,T.cl,M4,F4,hr1,B4,a,l,ts,k,rfl,rk,hkE,?_⟩
    refine ⟨_,rfl,_,rfl,_,rfl,_,rfl,_,rfl,_,rfl,_,rfl,lk,us,rfl,.inl ⟨SqL.of ek,fun pk npk=>⟨(by show 7<=sizeLine;decide),fun pt npt=>?_⟩⟩⟩
    have s10:=ag (o:=.tup us) npk
    have s11:=ag (o:=.tup [.int D.width,.int D.cells,.int D.depth,.ref pp,.ref pm,.ref pg,.ref pk]) npt
    have s12:=s10.trans s11
    exact q _ _ (sH.trans s12) ⟨pt,pp,pm,pg,pk,us,rfl,ad,s12 _ _ I.ep,s12 _ _ I.em,s12 _ _ I.eg,s11 _ _ ad,by rw [hdone];exact dm (fun _ _ h=>h.kt (aZ s12)) pu⟩
   ·refine ⟨_,rfl,lk,_,rfl,.inl (SqL.of ek),_,_,rfl,rfl,_,rfl,bi (decide_eq_false (by rw [lu];omega)) (cA ?_)⟩
    refine ⟨_,rfl,a,dxa,C,f4,_,fd4,1,["self"],_,rfl,hoa,rfl,T.cl,M4,F4,hr1,B4,a,l,ts,k,rfl,rk,hkE,?_⟩
    refine ⟨_,rfl,_,rfl,_,rfl,_,rfl,_,rfl,_,rfl,_,rfl,lk,us,rfl,.inl ⟨SqL.of ek,fun pk npk=>⟨(by show 7<=sizeLine;decide),fun pt npt=>?_⟩⟩⟩
    have s10:=ag (o:=.tup us) npk
    have s11:=ag (o:=.tup [.int D.width,.int D.cells,.int D.depth,.ref pp,.ref pm,.ref pg,.ref pk]) npt
    have s12:=s10.trans s11
    exact q _ _ (sH.trans s12) ⟨pt,pp,pm,pg,pk,us,rfl,ad,s12 _ _ I.ep,s12 _ _ I.em,s12 _ _ I.eg,s11 _ _ ad,by rw [hdone];exact dm (fun _ _ h=>h.kt (aZ s12)) pu⟩
end
end L3
namespace L3
open PySem L2
def KvR (H:Hp) (kv:cq×V) (x:Str×Str):Prop:=kv.1=Sum.inr x.1/\∃ p sl,kv.2=.ref p/\H p=some (.tup [.str x.2,sl])
inductive NmI (H:Hp) (d:Addr) (ks:List (Str×Str)):Prop
 | mk (kvs:_):H d=some (.dK kvs)->Paired (KvR H) kvs ks->NmI H d ks
theorem KvR.kt {H H':Hp} (k:TupK H H') {kv:cq×V} {x:Str×Str} (h:KvR H kv x):KvR H' kv x:=let ⟨a,p,sl,b,c⟩:=h;⟨a,p,sl,b,k _ _ c⟩
theorem yT {H:Hp} {l:Addr} {xs ys:List (cq×V)} (e:H l=some (.dK xs)):TupK H (ax H l (.dK ys)):=fun b us h=>by
 rw [ao]
 ·exact h
 ·rintro rfl
  rw [e] at h
  cases h
theorem vj {H:Hp}:∀ {kvs:List (cq×V)} {ks:List (Str×Str)},Paired (KvR H) kvs ks->∀ {z:Str},z∉ks.map (·.1)->aY kvs (Sum.inr z)=none
 | _,_,.nil,_,_=>nR
 | _,_,.cons (a:=kv) (b:=x) h t,z,hz=>by
  rw [bP]
  ·exact vj t (fun m=>hz (Ee _ m))
  ·intro e
   rw [h.1] at e
   have:=Sum.inr.inj e
   exact hz (by rw [Ek,this];exact Ea)
theorem qN {H:Hp}:∀ {kvs:List (cq×V)} {ks:List (Str×Str)},Paired (KvR H) kvs ks->∀ {z s:Str},(z,s)∈ks->(ks.map (·.1)).Nodup->∃ p sl,aY kvs (Sum.inr z)=some (.ref p)/\H p=some (.tup [.str s,sl])
 | _,_,.nil,_,_,m,_=>by cases m
 | _,_,.cons (a:=kv) (b:=x) h t,z,s,m,nd=>by
  rw [Ek,Fk] at nd
  rcases Ej.mp m with e|m'
  ·obtain ⟨e1,p,sl,e2,e3⟩:=h
   subst e
   refine ⟨p,sl,?_,e3⟩
   rw [cv e1,e2]
  ·have hne:¬ kv.1=Sum.inr z:=by
    intro e
    rw [h.1] at e
    have:=Sum.inr.inj e
    exact nd.1 (by rw [this];exact ED.mpr ⟨(z,s),m',rfl⟩)
   rw [bP hne]
   exact qN t m' nd.2
inductive gR (vs:List V) (H:Hp) (Q:VK) (Z3:XK):Prop
 | mk (d ks nm st sl:_):vs=[.ref d,.str nm,.str st,sl]->NmI H d ks->nm∉ks.map (·.1)->ks.length<=20->(∀ H',NmI H' d (ks++[(nm,st)])->ButO d H H'->Q .non H')->gR vs H Q Z3
inductive gB (K:PySem.W.Frag) (vs:List V) (H:Hp) (Q:VK) (Z3:XK):Prop
 | mk (d ks nm st p xs:_):vs=[.ref d,.str nm,.ref p]->NmI H d ks->(nm,st)∈ks->(ks.map (·.1)).Nodup->(SqL K H p (ae xs)\/SqT K H p (ae xs))->st∈xs->(∀ q sl H',Same H H'->H' q=some (.tup [.str st,sl])->Q (.ref q) H')->gB K vs H Q Z3
section
variable {P:Program} {w:World} {K:PySem.W.Frag} {mg:Str->Option Value} {base:Heap}
theorem sO:ay ["names","name","sort","sel"] ["names","name","sort","sel"] (am jU):=⟨rfl,rfl,rfl,by decide +kernel,rfl,by decide +kernel,by decide +kernel⟩
set_option maxHeartbeats 1000000 in
theorem pS {f:Addr} {fd:FuncData} (F:Fun K "add_name" "add_name" jU f fd):aN P w K mg base cj 1 f fd ["names","name","sort","sel"] gR:=by
 refine F.ok sO (fun vs H Q E h=>?_) (fun cdv A outer s H vs Q E hr h=>?_)
 ·obtain ⟨d,ks,nm,st,sl,rfl,_⟩:=h
  rfl
 ·obtain ⟨d,ks,nm,st,sl,rfl,hN,hm,hk,q⟩:=h
  have hu:=hJ hr
  refine ⟨_,af (aT (oP (uH hu (pv 1) (pv 0))) (ai bG) aI) (ai (mo hu (pv 0) (pv 1) (aW (aa (pv 2) (aa (pv 3) ac))) rfl)),?_⟩
  obtain ⟨kvs,hd,hp⟩:=hN
  have hno:=vj hp hm
  have lk:=hp.length
  have szz:(1000:Nat)<=sizeLine:=by decide
  have g:DGet H d (.str nm) none:=by
   have:=DGet.k (k:=Sum.inr nm) hd
   rw [hno] at this
   exact this
  refine ⟨_,rfl,_,rfl,d,_,rfl,g,_,rfl,cA ?_⟩
  refine ⟨_,rfl,_,rfl,(by show 2<=sizeLine;decide),fun p np=>?_⟩
  have s1:=ag (o:=.tup [.str st,sl]) np
  have hd1:=s1 _ _ hd
  have ep:(ax H p (.tup [.str st,sl])) p=some (.tup [.str st,sl]):=ad
  generalize ax H p (.tup [V.str st,sl])=H1 at *
  refine ⟨_,rfl,_,rfl,d,_,rfl,DPut.k (k:=Sum.inr nm) hd1 (by omega),?_⟩
  rw [gp _ hno]
  have k1:=yT (ys:=kvs++[(Sum.inr nm,V.ref p)]) hd1
  refine q _ ⟨_,ad,jd ⟨rfl,p,sl,rfl,k1 _ _ ep⟩ (dm (fun _ _ h=>(h.kt (aZ s1)).kt k1) hp)⟩ (fun b o e nb=>?_)
  rw [ao nb]
  exact s1 _ _ e
end
end L3
namespace L3
open PySem L2
def zQ:Sp:=fun _ _ _ _=>False
theorem xI {P:Program} {w:World} {K:PySem.W.Frag} {mg:Str->Option Value} {base:Heap} {k:Nat} {f:Addr} {fd:FuncData} {ps:List Str}:aN P w K mg base cj k f fd ps zQ:=⟨fun _ _ _ _ h=>h.elim,fun _ _ _ _ _ _ _ _ _ _ _ _ _ h=>h.elim⟩
inductive mI (vs:List V) (H:Hp) (Q:VK) (Z3:XK):Prop
 | mk (d e:_):vs=[d,e]->NextV H e->(∀ H',Same H H'->Q e H')->mI vs H Q Z3
inductive jZ (vs:List V) (H:Hp) (Q:VK) (Z3:XK):Prop
 | mk (d u:_):vs=[d,u]->LeafV H u->(∀ u' H',Same H H'->LeafV H' u'->Q u' H')->jZ vs H Q Z3
section
variable {P:Program} {w:World} {K:PySem.W.Frag} {mg:Str->Option Value} {base:Heap}
theorem scNeedKnown:ay ["names","name","sorts","sort","sel"] ["names","name","sorts"] (am ik):=⟨rfl,rfl,rfl,by decide +kernel,rfl,by decide +kernel,by decide +kernel⟩
set_option maxHeartbeats 1000000 in
theorem mJ {f:Addr} {fd:FuncData} (F:Fun K "need_known" "need_known" ik f fd):aN P w K mg base cj 1 f fd ["names","name","sorts"] (gB K):=by
 refine F.ok scNeedKnown (fun vs H Q E h=>?_) (fun cdv A outer s H vs Q E hr h=>?_)
 ·obtain ⟨d,ks,nm,st,p,xs,rfl,_⟩:=h
  rfl
 ·obtain ⟨d,ks,nm,st,p,xs,rfl,hN,hm,hnd,hq,hs,q⟩:=h
  have hu:=hJ hr
  refine ⟨_,af (aT (oP (sw hu (pv 1) (pv 0))) (ai bG) aI)
   (af (fg (br hu (pv 0) (pv 1) (fun _ _=>rfl)) (c0 rfl (az (ar (i:=3) scNeedKnown.nd rfl (Or.inl rfl)) (az (ar (i:=4) scNeedKnown.nd rfl (Or.inl rfl)) bD))))
   (af (aT (aq cJ (pv 3) (pv 2) rfl) (ai bG) aI)
   (ai (av (aW (aa (pv 3) (aa (pv 4) ac))))))),?_⟩
  obtain ⟨kvs,hd,hp⟩:=hN
  obtain ⟨p0,sl,hv,e0⟩:=qN hp hm hnd
  have g:DGet H d (.str nm) (some (.ref p0)):=by
   have:=DGet.k (k:=Sum.inr nm) hd
   rw [hv] at this
   exact this
  refine ⟨_,rfl,_,rfl,d,_,rfl,g,_,rfl,cA ?_⟩
  refine ⟨_,rfl,_,rfl,d,_,rfl,g,p0,_,rfl,SqT.of e0,rfl,_,_,rfl,_,_,rfl,rfl,?_⟩
  refine ⟨_,rfl,_,rfl,p,ae xs,rfl,hq,rfl,cc _,_,rfl,bi ?_ ?_⟩
  ·show (!iM (.str st) (ae xs))=false
   rw [cW,EK.mpr hs]
   rfl
  ·refine ⟨_,rfl,_,rfl,(by show 2<=sizeLine;decide),fun t nt=>?_⟩
   exact q t sl _ (ag nt) ad
theorem xJ:ay ["names","end"] ["names","end"] (am pz):=⟨rfl,rfl,rfl,by decide +kernel,rfl,by decide +kernel,by decide +kernel⟩
set_option maxHeartbeats 1000000 in
theorem vk {f:Addr} {fd:FuncData} (F:Fun K "end_of" "end_of" pz f fd):aN P w K mg base cj 1 f fd ["names","end"] mI:=by
 refine F.ok xJ (fun vs H Q E h=>?_) (fun cdv A outer s H vs Q E hr h=>?_)
 ·obtain ⟨d,e,rfl,_⟩:=h
  rfl
 ·obtain ⟨d,e,rfl,⟨p,rfl,hp⟩,q⟩:=h
  refine ⟨_,af (aT (aq cI (aP dq (pv 1) aj (fun _ _=>rfl)) (aW (aa ak (aa ak ac))) rfl) (ai bG) aI) (ai (av (pv 1))),?_⟩
  refine ⟨_,rfl,p,_,_,_,rfl,rfl,SqT.of hp,rfl,(by show 2<=sizeLine;decide),fun t nt=>?_⟩
  have s1:=ag (o:=.tup [.str "go",.str "call"]) nt
  refine ⟨t,_,rfl,.inr (SqT.of ad),rfl,by decide +kernel,_,rfl,bi (by decide +kernel) ?_⟩
  exact ⟨_,rfl,q _ s1⟩
theorem scDeedOf:ay ["names","body","test","yes","sets"] ["names","body"] (am js):=⟨rfl,rfl,rfl,by decide +kernel,rfl,by decide +kernel,by decide +kernel⟩
theorem DS:(["given","names"]:List Str).Nodup:=by decide +kernel
set_option maxHeartbeats 1000000 in
theorem sP {f:Addr} {fd:FuncData} (F:Fun K "deed_of" "deed_of" js f fd) (B:Bl mg) (EO:Fn P w K mg base "end_of" 1 ["names","end"] mI) (SO:Fn P w K mg base "set_of" 1 ["names","given"] zQ):aN P w K mg base cj 2 f fd ["names","body"] jZ:=by
 refine F.ok scDeedOf (fun vs H Q E h=>?_) (fun cdv A outer s H vs Q E hr h=>?_)
 ·obtain ⟨d,u,rfl,_⟩:=h
  rfl
 ·obtain ⟨d,u,rfl,⟨p,t,e,rfl,hp,ht,he⟩,q⟩:=h
  refine ⟨_,af (aT (aq bO (aP dq (pv 1) aj (fun _ _=>rfl)) ak (aB _)) (af bG (af bG (ai bG))) aI)
   (af (aw (i:=4) scDeedOf.nd rfl (Or.inl rfl) (aM bF (by rfl) B.tuple bH (aa (eG (N':=["given","names"]) (ix:=[none,some 0]) (sc0:=am js) (N:=["names","body","test","yes","sets"]) rfl (by decide +kernel) (hX (aP dq (pv 1) aj (fun _ _=>rfl)))
     (fun C' cl s H fp=>ar (i:=0) DS rfl (Or.inl rfl) (.inr rfl)) (fun _ _ _ _ _=>cU) (fun C' cl s H fp=>aC SO hr rfl (aa (pv 1) (aa (pv 0) ac)))) ac)))
   (ai (av (aW (aa ak (aa (pv 4) (aa (aC EO hr rfl (aa (pv 0) (aa (aP dq (pv 1) aj (fun _ _=>rfl)) ac))) ac))))))),?_⟩
  refine ⟨_,rfl,p,_,_,_,rfl,rfl,SqT.of hp,rfl,rfl,_,rfl,bi (by decide +kernel) ?_⟩
  refine ⟨_,rfl,p,_,_,_,rfl,rfl,SqT.of hp,rfl,t,rfl,⟨_,SqT.of ht⟩,?_⟩
  refine mv (K:=K) (a:=t) (xs:=[]) (fun i ys H'=>H'=H/\ys=[]) ⟨rfl,rfl⟩ (fun i ys H' hi ⟨a1,a2⟩=>by
    subst a1 a2
    exact ⟨SqT.of ht,EM _⟩) ?_ ?_
  ·rintro i x ys H' hx _
   simp at hx
  ·rintro ys H' ⟨rfl,rfl⟩ D hD
   have s1:=ag (o:=.lst []) hD
   have e1:(ax H' D (.lst [])) D=some (.lst []):=ad
   generalize ax H' D (.lst ([]:List V))=H1 at *
   refine ⟨D,_,rfl,.inl ⟨SqL.of e1,fun t2 n2=>?_⟩⟩
   have s2:=ag (o:=.tup []) n2
   have e2:(ax H1 t2 (.tup [])) t2=some (.tup []):=ad
   generalize ax H1 t2 (.tup ([]:List V))=H2 at *
   have s12:=s1.trans s2
   refine ⟨_,rfl,_,rfl,_,rfl,p,_,_,_,rfl,rfl,SqT.of (s12 _ _ hp),rfl,d,e,rfl,he.kt (aZ s12),fun H3 s3=>⟨(by show 3<=sizeLine;decide),fun pt npt=>?_⟩⟩
   have s4:=ag (o:=.tup [.str "leaf",.ref t2,e]) npt
   exact q _ _ ((s12.trans s3).trans s4) ⟨pt,t2,e,rfl,ad,s4 _ _ (s3 _ _ e2),he.kt (aZ ((s12.trans s3).trans s4))⟩
end
end L3
namespace L3
open PySem L2
def zR:List Nat:=(List.range 26).map (97+·)
def zS:Str:="abcdefghijklmnopqrstuvwxyz"
theorem Bz:zS=S zR:=by decide +kernel
theorem xK (c:Nat) (h:97<=c/\c<=122):c∈zR:=by
 unfold zR
 refine ED.mpr ⟨c - 97,Fb.mpr (by omega),by omega⟩
structure BA (K:PySem.W.Frag) (mg:Str->Option Value) (aO:Addr) (tL tN:Tok):Prop where
 own:mg "OWN_WORDS"=some (.ref aO)
 sq:∀ H,SqT K H aO (ae ownL)
 lets:mg "LETTERS"=some (.str zS tL)
 lng:mg "LONGEST_NAME"=some (.int 8 tN)
section
variable {P:Program} {w:World} {K:PySem.W.Frag} {mg:Str->Option Value} {base:Heap}
theorem zT:ay ["thing"] ["thing"] (am qJ):=⟨rfl,rfl,rfl,by decide +kernel,rfl,by decide +kernel,by decide +kernel⟩
theorem BB:(["sign"]:List Str).Nodup:=by decide +kernel
set_option maxHeartbeats 1000000 in
theorem xM {f aO:Addr} {fd:FuncData} {tL tN:Tok} (F:Fun K "is_name" "is_name" qJ f fd) (T:Bl mg) (C:BA K mg aO tL tN):aN P w K mg base cj 1 f fd ["thing"] zO:=by
 refine F.ok zT (fun vs H Q E h=>?_) (fun cdv A outer s H vs Q E hr h=>?_)
 ·obtain ⟨z,rfl,_⟩:=h
  rfl
 ·obtain ⟨z,rfl,⟨hno,h1,h8,hc⟩,q⟩:=h
  refine ⟨_,af (aT (PW.pt (dF (cQ (cO (au (eK (T:="str")) (by rfl) T.isinstance cV (aa (pv 0) (aa (gi (by rfl) T.str bW) ac)))))
    (cZ (aq cI (pv 0) (bo (v:=.ref aO) rfl C.own rfl) rfl)))) (ai (av eO)) aI)
   (ai (av (hV (jE eR eR aj (au bA (by rfl) T.len Ei (aa (pv 0) ac)) (bo (v:=.int 8) rfl C.lng ⟨_,rfl⟩))
    (fO (au (iB rfl) (by rfl) T.all gP (aa (eG (N':=["sign"]) (ix:=[none]) (sc0:=am qJ) (N:=["thing"]) rfl (by decide +kernel) (mj (pv 0))
     (fun C' cl s H fp=>ar (i:=0) BB rfl (Or.inl rfl) (.inr rfl)) (fun _ _ _ _ _=>cU) (fun C' cl s H fp=>cX eT (pv 0) (bo (v:=.str zS) rfl C.lets ⟨_,rfl⟩) rfl)) ac)))))),?_⟩
  have ez:z=S z.cps.toList:=zI z
  have zl:z.length=z.cps.toList.length:=by show z.cps.size=_;simp
  generalize hl:z.cps.toList=l at *
  subst ez
  rw [aR] at h1 h8
  have sz:(100000:Nat)<=sizeLine:=by decide
  refine ⟨_,rfl,_,_,_,rfl,.str _,rfl,_,rfl,cA ?_⟩
  refine ⟨_,rfl,aO,ae ownL,rfl,.inr (C.sq H),rfl,cc _,_,rfl,bi ?_ ?_⟩
  ·show iM (.str (S l)) (ae ownL)=false
   rw [cW]
   exact EY.mpr fun e=>hno (EK.mp e)
  ·refine ⟨_,rfl,S l,rfl,(by rw [aR];omega),_,_,rfl,rfl,_,rfl,?_⟩
   rw [aR]
   refine bB (decide_eq_true (by omega)) ⟨_,_,rfl,rfl,_,rfl,bB (decide_eq_true (by omega)) ⟨_,rfl,l,rfl,?_⟩⟩
   refine ml (fun i ys H'=>ys=(List.replicate i true).map V.bl/\Same H H') ⟨rfl,Same.refl _⟩ (fun i ys H' hi ⟨e,_⟩=>by rw [e,D5,Fc];omega) ?_ ?_
   ·rintro i ys H' hi ⟨rfl,s'⟩
    refine ⟨trivial,c9 ?_⟩
    refine ⟨_,rfl,S [l[i]],_,rfl,rfl,?_⟩
    rw [Bz,fq,decide_eq_true (xK _ (hc _ (E9 hi)))]
    refine Nx.mk hi ⟨?_,s'⟩
    rw [List.replicate_succ',Ed]
    rfl
   ·rintro ys H' ⟨rfl,s'⟩ D hD
    refine ⟨D,List.replicate l.length true,rfl,SqL.of ad,?_⟩
    have:=q _ (s'.trans (ag (o:=.lst ((List.replicate l.length true).map V.bl)) hD))
    have ea:(List.replicate l.length true).all id=true:=by simp
    rw [ea]
    exact this
end
end L3
namespace L3
open PySem L2
def dg (n:Nat):List Nat:=(Nat.toDigits 10 n).map Char.toNat
theorem j1 {n:Nat} (h:n < 10):dg n=[48+n]:=by
 unfold dg
 rw [Nat.toDigits_of_lt_base h]
 have:∀ d:Nat,d < 10->[Nat.digitChar d].map Char.toNat=[48+d]:=by decide
 exact this n h
theorem qO {n:Nat} (h:10<=n):dg n=dg (n / 10)++[48+n % 10]:=by
 have hm:n % 10 < 10:=Nat.mod_lt n (by decide)
 have t:Nat.toDigits 10 (n / 10)++Nat.toDigits 10 (n % 10)=Nat.toDigits 10 (10*(n / 10)+n % 10):=Nat.toDigits_append_toDigits (by decide) (by omega) hm
 rw [Nat.div_add_mod] at t
 rw [<-j1 hm]
 unfold dg
 rw [<-t,Ed]
theorem j2 (n:Nat):∀ c∈dg n,48<=c/\c<=57:=by
 induction n using Nat.strongRecOn with
 | _ n ih=>
  by_cases h:n < 10
  ·rw [j1 h]
   intro c hc
   rw [EG.mp hc]
   omega
  ·rw [qO (by omega)]
   intro c hc
   rcases Ez.mp hc with hc|hc
   ·exact ih (n / 10) (by omega) c hc
   ·rw [EG.mp hc]
    omega
theorem dZ (n:Nat):1<=(dg n).length/\∀ k,1<=k->n < 10 ^ k->(dg n).length<=k:=by
 induction n using Nat.strongRecOn with
 | _ n ih=>
  by_cases h:n < 10
  ·rw [j1 h]
   exact ⟨by simp,fun k hk _=>by simpa using hk⟩
  ·rw [qO (by omega)]
   obtain ⟨a,b⟩:=ih (n / 10) (by omega)
   refine ⟨by rw [D9];simp,fun k hk hn=>?_⟩
   rw [D9]
   have hk2:2<=k:=by
    rcases (by omega:k=1\/2<=k) with rfl|z
    ·simp at hn
     omega
    ·exact z
   have:=b (k - 1) (by omega) (by
    have e:10 ^ k=10 ^ (k - 1)*10:=by rw [<-Nat.pow_succ];congr 1;omega
    rw [e] at hn
    exact Nat.div_lt_of_lt_mul (by rw [Nat.mul_comm];exact hn))
   simp
   omega
theorem qP (n:Nat) (h1:1<=n):(dg n)[0]?≠some 48:=by
 induction n using Nat.strongRecOn with
 | _ n ih=>
  by_cases h:n < 10
  ·rw [j1 h]
   simp
   omega
  ·rw [qO (by omega)]
   have hl:=(dZ (n / 10)).1
   rw [Fr (by omega)]
   exact ih (n / 10) (by omega) (by omega)
theorem dk (n:Nat):(toString (n:Int):Str)=S (dg n):=by
 have:=PySem.W.KIN.signs_num n
 have e:=zI (toString (n:Int):Str)
 rw [e]
 congr 1
def zU:List Nat:=(List.range 10).map (48+·)
def sQ:Str:="0123456789"
theorem vn:sQ=S zU:=by decide +kernel
theorem qQ (c:Nat) (h:48<=c/\c<=57):c∈zU:=ED.mpr ⟨c - 48,Fb.mpr (by omega),by omega⟩
section
variable {X:Cx}
theorem je:dW X (.type "int") (fun xs H Q=>∃ n:Nat,xs=[.str (toString (n:Int):Str)]/\n < 1000000000/\Q (.int n) H):=by
 intro pins s σ H xs us Q I r h
 obtain ⟨n,rfl,hn,q⟩:=h
 obtain ⟨u,rfl,rx⟩:=gZ r
 obtain ⟨t,rfl⟩:=rx
 exact PySem.W.KIN.call_num (by omega) (by omega) ⟨.int n,H,I.tok _,⟨_,rfl⟩,q⟩
end
section
variable {P:Program} {w:World} {K:PySem.W.Frag} {mg:Str->Option Value} {base:Heap}
theorem pU:ay ["token"] ["token"] (am dw):=⟨rfl,rfl,rfl,by decide +kernel,rfl,by decide +kernel,by decide +kernel⟩
set_option maxHeartbeats 1000000 in
theorem oj {f:Addr} {fd:FuncData} {tF tM:Tok} (F:Fun K "number_of" "number_of" dw f fd) (T:Bl mg) (hF:mg "FIGURES"=some (.str sQ tF)) (hM:mg "MOST_FIGURES"=some (.int 9 tM)):aN P w K mg base cj 1 f fd ["token"] mD:=by
 refine F.ok pU (fun vs H Q E h=>?_) (fun cdv A outer s H vs Q E hr h=>?_)
 ·obtain ⟨n,rfl,_⟩:=h
  rfl
 ·obtain ⟨n,rfl,hn,q⟩:=h
  refine ⟨_,af (aT (PW.pt (dF (cQ (jF eR eR aj (au bA (by rfl) T.len Ei (aa (pv 0) ac)) (bo (v:=.int 9) rfl hM ⟨_,rfl⟩)))
    (cZ (cQ (cO (au (iB rfl) (by rfl) T.all gP (aa (eG (N':=["sign"]) (ix:=[none]) (sc0:=am dw) (N:=["token"]) rfl (by decide +kernel) (mj (pv 0))
     (fun C' cl s H fp=>ar (i:=0) BB rfl (Or.inl rfl) (.inr rfl)) (fun _ _ _ _ _=>cU) (fun C' cl s H fp=>cX eT (pv 0) (bo (v:=.str sQ) rfl hF ⟨_,rfl⟩) rfl)) ac))))))) (ai (av cz)) aI)
   (af (aT (PW.pt (cE (aq bO (aP fY (pv 0) aj (fun _ _=>rfl)) ak (aB _)) (ck (aq nC (au bA (by rfl) T.len Ei (aa (pv 0) ac)) aj (aB _))))) (ai (av cz)) aI)
   (ai (av (aM je (by rfl) T.int EW (aa (pv 0) ac))))),?_⟩
  have es:=dk n
  obtain ⟨l1,l9'⟩:=dZ n
  have l9:=l9' 9 (by decide) (by omega)
  have sz:(100000:Nat)<=sizeLine:=by decide
  rw [es]
  refine ⟨_,rfl,S (dg n),rfl,(by rw [aR];omega),_,_,rfl,rfl,_,rfl,?_⟩
  rw [aR]
  refine bB (decide_eq_true (by omega)) ⟨_,_,rfl,rfl,_,rfl,?_⟩
  rw [decide_eq_true (show ((dg n).length:Int)<=9 by omega)]
  refine cA ⟨_,rfl,dg n,rfl,?_⟩
  refine ml (fun i ys H'=>ys=(List.replicate i true).map V.bl/\Same H H') ⟨rfl,Same.refl _⟩ (fun i ys H' hi ⟨e,_⟩=>by rw [e,D5,Fc];omega) ?_ ?_
  ·rintro i ys H' hi ⟨rfl,s'⟩
   refine ⟨trivial,c9 ?_⟩
   refine ⟨_,rfl,S [(dg n)[i]],_,rfl,rfl,?_⟩
   rw [vn,fq,decide_eq_true (qQ _ (j2 n _ (E9 hi)))]
   refine Nx.mk hi ⟨?_,s'⟩
   rw [List.replicate_succ',Ed]
   rfl
  ·rintro ys H' ⟨rfl,s'⟩ D hD
   have s2:=ag (o:=.lst ((List.replicate (dg n).length true).map V.bl)) hD
   refine ⟨D,List.replicate (dg n).length true,rfl,SqL.of ad,?_⟩
   have ea:(List.replicate (dg n).length true).all id=true:=by simp
   rw [ea]
   refine ⟨_,rfl,cA ?_⟩
   refine ⟨_,rfl,S (dg n),0,(dg n)[0],rfl,rfl,(by rw [aR];omega),?_,rfl,_,rfl,?_⟩
   ·exact fB (i:=0) (by omega)
   ·by_cases hz:n=0
    ·subst hz
     have e00:(dg 0)[0]=48:=by simp [j1 (n:=0) (by decide)]
     refine bB (decide_eq_true (by rw [e00];decide +kernel)) ?_
     refine ⟨_,rfl,S (dg 0),rfl,(by rw [aR];omega),_,_,rfl,rfl,_,rfl,bi (by decide +kernel) ?_⟩
     exact ⟨_,rfl,0,by rw [dk],hn,q _ (s'.trans s2)⟩
    ·have hd:=qP n (by omega)
     refine bi ?_ (cA ?_)
     ·refine decide_eq_false fun e=>hd ?_
      have e2:=V.str.inj e
      have e3:S [(dg n)[0]]=S [48]:=e2.trans (by decide +kernel)
      have e4:[(dg n)[0]]=[48]:=by
       have:=congrArg (fun z:Str=>z.cps.toList) e3
       simpa [S] using this
      rw [El (by omega)]
      exact congrArg some (Fv e4).1
     ·exact ⟨_,rfl,n,by rw [dk],hn,q _ (s'.trans s2)⟩
end
end L3
namespace L3
open PySem L2 TK
structure xN (K:PySem.W.Frag) (mg:Str->Option Value) (aD:Addr) (tG tS:Tok):Prop where
 gaps:mg "GAPS"=some (.str " \n" tG)
 sing:mg "SINGLE_SIGNS"=some (.str "(){}[],;+-&|^<=" tS)
 doub:mg "DOUBLE_SIGNS"=some (.ref aD)
 sq:∀ H,SqT K H aD [.str "<<",.str ">>"]
 len:mg "len"=none
def vs (ts:List (List Nat)):List V:=ts.map fun t=>V.str (S t)
inductive mK (xs:List V) (H:Hp) (Q:VK) (Z3:XK):Prop
 | mk (l:List Nat) (i:Nat):xs=[.str (S l),.int i]->i < l.length->l.length<=100000->Q (.str (S ((l.drop i).take (iN (l.drop i))))) H->mK xs H Q Z3
inductive vo (xs:List V) (H:Hp) (Q:VK) (Z3:XK):Prop
 | mk (l:List Nat) (i:Nat):xs=[.str (S l),.int i]->i < l.length->l.length<=100000->Q (.str (S ((l.drop i).take (run (l.drop i))))) H->vo xs H Q Z3
inductive pV (xs:List V) (H:Hp) (Q:VK) (Z3:XK):Prop
 | mk (l:List Nat):xs=[.str (S l)]->l.length<=100000->(∀ (p:Addr) (H':Hp),H p=none->H' p=some (.lst (vs (toks l)))->Same H H'->Q (.ref p) H')->pV xs H Q Z3
theorem qR {l:List Nat} {i:Nat} (h:i < l.length):fk l (some (i:Int)) (some ((i:Int)+2))=(l.drop i).take 2:=by
 unfold fk
 have e:((i:Int)+2)=((i+2:Nat):Int):=by omega
 rw [e,HT.sIx_nat,HT.sIx_nat,show min i l.length=i by omega]
 by_cases c:i+2<=l.length
 ·rw [show min (i+2) l.length - i=2 by omega]
 ·rw [EC (by rw [EF];omega),EC (by rw [EF];omega)]
theorem zV {l:List Nat} {i j:Nat} (h:j<=l.length):fk l (some (i:Int)) (some (j:Int))=(l.drop i).take (j - i):=by
 unfold fk
 rw [HT.sIx_nat,HT.sIx_nat,show min j l.length=j by omega]
 by_cases c:i<=l.length
 ·rw [show min i l.length=i by omega]
 ·rw [show min i l.length=l.length by omega,List.drop_length,List.drop_eq_nil_of_le (by omega)]
  simp
theorem gS {l:List Nat} {i:Nat} (h:i < l.length):l.drop i=l[i]::l.drop (i+1):=EQ h
theorem vq:(" \n":Str)=S [32,10]:=by decide +kernel
theorem zW:("(){}[],;+-&|^<=":Str)=S [40,41,123,125,91,93,44,59,43,45,38,124,94,60,61]:=by decide +kernel
theorem C8:("<<":Str)=S [60,60]:=by decide +kernel
theorem C9:(">>":Str)=S [62,62]:=by decide +kernel
theorem qS (c:Nat):decide (c∈[32,10])=fJ c:=by
 rw [EX,decide_eq_true_iff]
 unfold fJ
 simp
theorem xO (c:Nat):decide (c∈[40,41,123,125,91,93,44,59,43,45,38,124,94,60,61])=du c:=by
 rw [EX,decide_eq_true_iff]
 unfold du
 rw [EK]
theorem xP (t:List Nat):iM (.str (S t)) [.str "<<",.str ">>"]=(decide (t=[60,60]) || decide (t=[62,62])):=by
 unfold iM
 rw [C8,C9]
 show ((S [60,60] == S t) || ((S [62,62] == S t) || false))=_
 have e:∀ u:List Nat,(S u == S t)=decide (t=u):=fun u=>by
  rw [EX,decide_eq_true_iff,beq_iff_eq,S_inj]
  exact ⟨fun h=>h.symm,fun h=>h.symm⟩
 rw [e,e,Bool.or_false]
section
variable {P:Program} {w:World} {K:PySem.W.Frag} {mg:Str->Option Value} {base:Heap}
theorem zX:ay ["text","at"] ["text","at"] (am uR):=⟨rfl,rfl,rfl,by decide +kernel,rfl,by decide +kernel,by decide +kernel⟩
theorem xQ {f aD:Addr} {fd:FuncData} {tG tS:Tok} (F:Fun K "sign_at" "sign_at" uR f fd) (T:xN K mg aD tG tS):aN P w K mg base cj 1 f fd ["text","at"] mK:=by
 refine F.ok zX (fun vs H Q E h=>?_) (fun cdv A outer s H vs Q E hr h=>?_)
 ·obtain ⟨l,i,rfl,_⟩:=h
  rfl
 ·obtain ⟨l,i,rfl,hi,hz,q⟩:=h
  have sz:(100000:Nat)<=sizeLine:=by decide
  refine ⟨_,af (aT (aq cI (ci jO (pv 0) (bZ (pv 1)) (bZ (aH bS (pv 1) aj))) (bo (v:=.ref aD) rfl T.doub rfl) rfl) (ai (av (ci jO (pv 0) (bZ (pv 1)) (bZ (aH bS (pv 1) aj))))) aI)
   (af (aT (aq eT (aP fY (pv 0) (pv 1) (fun _ _=>rfl)) (bo (v:=.str "(){}[],;+-&|^<=") rfl T.sing ⟨_,rfl⟩) rfl) (ai (av (aP fY (pv 0) (pv 1) (fun _ _=>rfl)))) aI)
   (ai (av ak))),?_⟩
  refine ⟨_,rfl,_,rfl,_,rfl,_,rfl,_,_,rfl,rfl,_,rfl,l,rfl,hz,?_⟩
  rw [qR hi]
  refine ⟨aD,_,rfl,.inr (T.sq H),rfl,rfl,_,rfl,?_⟩
  show if iM (.str (S ((l.drop i).take 2))) [.str "<<",.str ">>"]=true then _ else _
  have two:iN (l.drop i)=if iM (.str (S ((l.drop i).take 2))) [.str "<<",.str ">>"]=true then 2 else if du l[i]=true then 1 else 0:=by
   rw [xP,gS hi]
   cases hd:l.drop (i+1) with
   | nil=>rw [fh];simp
   | cons d r=>
    rw [dR]
    simp
  by_cases c:iM (.str (S ((l.drop i).take 2))) [.str "<<",.str ">>"]=true
  ·rw [if_pos c] at two
   refine bB c ?_
   refine ⟨_,rfl,_,rfl,_,rfl,_,rfl,_,_,rfl,rfl,_,rfl,l,rfl,hz,?_⟩
   rw [qR hi]
   rw [two] at q
   exact q
  ·rw [if_neg c] at two
   refine bi (by simpa using c) ?_
   refine ⟨_,rfl,_,rfl,_,_,l[i],rfl,rfl,(by rw [aR];omega),fB hi,_,_,rfl,rfl,_,rfl,?_⟩
   rw [zW]
   have e:=fq l[i] [40,41,123,125,91,93,44,59,43,45,38,124,94,60,61]
   rw [xO] at e
   by_cases c2:du l[i]=true
   ·rw [if_pos c2] at two
    refine bB (e.trans c2) ?_
    refine ⟨_,rfl,_,rfl,_,_,l[i],rfl,rfl,(by rw [aR];omega),fB hi,?_⟩
    rw [two,gS hi] at q
    exact q
   ·rw [if_neg c2] at two
    refine bi (e.trans (by simpa using c2)) ?_
    rw [two] at q
    exact q
end
section
variable {P:Program} {w:World} {K:PySem.W.Frag} {mg:Str->Option Value} {base:Heap}
theorem scRun:ay ["text","at","behind"] ["text","at"] (am zH):=⟨rfl,rfl,rfl,by decide +kernel,rfl,by decide +kernel,by decide +kernel⟩
theorem take_nil {l:List Nat} {n:Nat} (h:n<=l.length):l.take n=[]↔n=0:=by
 constructor
 ·intro e
  have:=congrArg List.length e
  rw [Eh,Ev] at this
  omega
 ·intro e;rw [e,List.take_zero]
theorem zY {f aD:Addr} {fd:FuncData} {tG tS:Tok} (F:Fun K "run_at" "run_at" zH f fd) (T:xN K mg aD tG tS) (SG:Fn P w K mg base "sign_at" 1 ["text","at"] mK):aN P w K mg base cj 2 f fd ["text","at"] vo:=by
 refine F.ok scRun (fun vs H Q E h=>?_) (fun cdv A outer s H vs Q E hr h=>?_)
 ·obtain ⟨l,i,rfl,_⟩:=h
  rfl
 ·obtain ⟨l,i,rfl,hi,hz,q⟩:=h
  have sz:(100000:Nat)<=sizeLine:=by decide
  have sl:(S l).length<=sizeLine:=by rw [aR];omega
  refine ⟨_,af (aw (i:=2) scRun.nd rfl (Or.inl rfl) (pv 1))
   (af (eP PassesOwn.never (PW.pt (cE (aq fU (pv 2) (au bA (by rfl) T.len Ei (aa (pv 0) ac)) (aB _))
     (cE (aq lR (aP fY (pv 0) (pv 2) (fun _ _=>rfl)) (bo (v:=.str " \n") rfl T.gaps ⟨_,rfl⟩) rfl) (ck (aq bO (aC SG hr rfl (aa (pv 0) (aa (pv 2) ac))) ak (aB _))))))
    (ai (oQ (i:=2) scRun.nd rfl (Or.inl rfl) aj oR)))
   (ai (av (ci jO (pv 0) (bZ (pv 1)) (bZ (pv 2)))))),?_⟩
  refine ⟨_,rfl,?_⟩
  refine ⟨fun m σ H'=>∃ k:Nat,σ=[some (.str (S l)),some (.int i),some (.int (i+k:Nat))]/\m=l.length - (i+k)/\i+k<=l.length/\run (l.drop i)=k+run (l.drop (i+k))/\H'=H,
   ⟨_,0,rfl,rfl,by omega,by rw [Nat.add_zero,Nat.zero_add],rfl⟩,?_⟩
  rintro m σ H' ⟨k,rfl,rfl,hk,hrun,rfl⟩
  have out:run (l.drop (i+k))=0->A2 (DA (fun x lo hi H Q=>∃ l,x=.str (S l)/\l.length<=100000/\Q (.str (S (fk l lo hi))) H) (rS 0) (uu (rS 1)) (uu (rS 2))) { nx:=fun _ H'=>Q .non H',rt:=Q } [some (.str (S l)),some (.int i),some (.int (i+k:Nat))] H':=fun e=>by
   refine ⟨_,rfl,_,rfl,_,rfl,_,rfl,_,rfl,l,rfl,hz,?_⟩
   rw [zV hk,show i+k - i=k by omega]
   rw [hrun,e,Nat.add_zero] at q
   exact q
  refine ⟨_,rfl,_,rfl,S l,rfl,sl,_,_,rfl,rfl,_,rfl,?_⟩
  by_cases c:i+k < l.length
  ·refine bB (decide_eq_true (by rw [aR];omega)) ?_
   refine ⟨_,rfl,_,rfl,_,_,l[i+k],rfl,rfl,sl,fB c,_,_,rfl,rfl,_,rfl,?_⟩
   rw [vq]
   have e:=fq l[i+k] [32,10]
   rw [qS] at e
   have e':(!(!(Builtin.Str.occurrences (S [32,10]) (S [l[i+k]]) 0 (S [32,10]).length 1).isEmpty))=!fJ l[i+k]:=by rw [e]
   have rc:run (l.drop (i+k))=if (fJ l[i+k] || iN (l.drop (i+k)) != 0)=true then 0 else 1+run (l.drop (i+k+1)):=by
    rw [gS c,cu]
   cases g:fJ l[i+k] with
   | true=>
    refine bi (e'.trans (by rw [g];rfl)) (cA ?_)
    exact out (by rw [rc,g];rfl)
   | false=>
    refine bB (e'.trans (by rw [g];rfl)) ?_
    refine ⟨_,rfl,_,rfl,l,i+k,rfl,c,hz,rfl,_,rfl,?_⟩
    rw [Bx]
    by_cases s0:iN (l.drop (i+k))=0
    ·refine bB (decide_eq_true (by rw [s0];rfl)) ?_
     refine ⟨fun σ' H2=>σ'=[some (.str (S l)),some (.int i),some (.int (i+(k+1):Nat))]/\H2=H',fun σ' H2 ⟨e1,e2⟩=>⟨l.length - (i+(k+1)),by omega,k+1,e1,rfl,by omega,?_,e2⟩,?_⟩
     ·rw [hrun,rc,g,s0]
      show k+(1+run (l.drop (i+k+1)))=_
      rw [Nat.add_assoc i k 1]
      omega
     ·refine ⟨_,rfl,_,_,rfl,rfl,?_,rfl⟩
      show [some (V.str (S l)),some (V.int i),some (V.int (((i+k:Nat):Int)+1))]=_
      rw [show (((i+k:Nat):Int)+1)=((i+(k+1):Nat):Int) by omega]
    ·refine bi (decide_eq_false ?_) ?_
     ·intro z
      injection z with z'
      have:=(take_nil (mh (l.drop (i+k)))).mp (S_inj.mp z')
      exact s0 this
     ·exact out (by rw [rc,g];simp [s0])
  ·refine bi (decide_eq_false (by rw [aR];omega)) (cA ?_)
   have:l.drop (i+k)=[]:=List.drop_eq_nil_of_le (by omega)
   exact out (by rw [this];rfl)
theorem scToks:ay ["text","tokens","at","token"] ["text"] (am mz):=⟨rfl,rfl,rfl,by decide +kernel,rfl,by decide +kernel,by decide +kernel⟩
theorem vt (a b:List (List Nat)):vs (a++b)=vs a++vs b:=Ed
theorem vx (a:List (List Nat)):(vs a).length=a.length:=D5 _
theorem xS {f aD:Addr} {fd:FuncData} {tG tS:Tok} (F:Fun K "tokens_of" "tokens_of" mz f fd) (T:xN K mg aD tG tS) (SG:Fn P w K mg base "sign_at" 1 ["text","at"] mK) (RN:Fn P w K mg base "run_at" 2 ["text","at"] vo) :
  aN P w K mg base cj 3 f fd ["text"] pV:=by
 refine F.ok scToks (fun vs H Q E h=>?_) (fun cdv A outer s H vs Q E hr h=>?_)
 ·obtain ⟨l,rfl,_⟩:=h
  rfl
 ·obtain ⟨l,rfl,hz,q⟩:=h
  have hr1:Room 1 _:=hr.mono (by decide)
  have sz:(100000:Nat) < sizeLine:=by decide
  have sl:(S l).length<=sizeLine:=by rw [aR];omega
  refine ⟨_,af (aw (i:=1) scToks.nd rfl (Or.inl rfl) (aV ac))
   (af (aw (i:=2) scToks.nd rfl (Or.inl rfl) aj)
   (af (eP PassesOwn.never (aq fU (pv 2) (au bA (by rfl) T.len Ei (aa (pv 0) ac)) (aB _))
    (ai (aT (aq eT (aP fY (pv 0) (pv 2) (fun _ _=>rfl)) (bo (v:=.str " \n") rfl T.gaps ⟨_,rfl⟩) rfl) (ai (oQ (i:=2) scToks.nd rfl (Or.inl rfl) aj oR))
     (af (aw (i:=3) scToks.nd rfl (Or.inl rfl) (zz (aC SG hr1 rfl (aa (pv 0) (aa (pv 2) ac))) (fO (aC RN hr rfl (aa (pv 0) (aa (pv 2) ac))))))
     (af (aQ (bX Ep Eu Et bM (pv 1) (aa (pv 3) ac)))
     (ai (oQ (i:=2) scToks.nd rfl (Or.inl rfl) (au bA (by rfl) T.len Ei (aa (pv 3) ac)) oR)))))))
   (ai (av (pv 1))))),?_⟩
  refine ⟨(by show 0<=sizeLine;decide),fun p hp=>?_⟩
  refine ⟨fun m σ H'=>∃ (k:Nat) (ts:List (List Nat)) (v:Option V),σ=[some (.str (S l)),some (.ref p),some (.int k),v]/\m=l.length - k/\k<=l.length/\H' p=some (.lst (L3.vs ts))/\Same H H'/\ts++toks (l.drop k)=toks l/\ts.length<=k,
   ⟨_,0,[],none,rfl,rfl,by omega,ad,ag hp,rfl,Ec _⟩,?_⟩
  rintro m σ H' ⟨k,ts,v,rfl,rfl,hk,g,s1,e,hl⟩
  refine ⟨_,rfl,_,rfl,S l,rfl,sl,_,_,rfl,rfl,_,rfl,?_⟩
  by_cases c:k < l.length
  ·refine bB (decide_eq_true (by rw [aR];omega)) ?_
   refine ⟨fun σ' H2=>∃ (k':Nat) (ts':List (List Nat)) (v':Option V),σ'=[some (.str (S l)),some (.ref p),some (.int k'),v']/\k < k'/\k'<=l.length/\H2 p=some (.lst (L3.vs ts'))/\Same H H2/\ts'++toks (l.drop k')=toks l/\ts'.length<=k',
    fun σ' H2 ⟨k',ts',v',e1,e2,e3,e4,e5,e6,e7⟩=>⟨l.length - k',by omega,k',ts',v',e1,rfl,e3,e4,e5,e6,e7⟩,?_⟩
   refine ⟨_,rfl,_,rfl,_,_,l[k],rfl,rfl,sl,fB c,_,_,rfl,rfl,_,rfl,?_⟩
   rw [vq]
   have ec:=fq l[k] [32,10]
   rw [qS] at ec
   cases gg:fJ l[k] with
   | true=>
    refine bB (ec.trans gg) ?_
    refine ⟨_,rfl,_,_,rfl,rfl,?_⟩
    refine ⟨k+1,ts,v,?_,by omega,c,g,s1,?_,by omega⟩
    ·show [some (V.str (S l)),some (V.ref p),some (V.int ((k:Int)+1)),v]=_
     rw [show ((k:Int)+1)=((k+1:Nat):Int) by omega]
    ·rw [<-e,gS c,nM gg]
   | false=>
    refine bi (ec.trans gg) ?_
    refine ⟨_,rfl,_,rfl,l,k,rfl,c,hz,?_⟩
    have dl:(l.drop k).length=l.length - k:=EF
    have ol:=zy (l.drop k)
    have op:0 < one (l.drop k):=by rw [gS c];exact jo gg
    have tk:ts++[(l.drop k).take (one (l.drop k))]++toks (l.drop (k+one (l.drop k)))=toks l:=by
     rw [<-e,EU,show l.drop (k+one (l.drop k))=(l.drop k).drop (one (l.drop k)) by rw [List.drop_drop]]
     congr 1
     rw [gS c,nN gg]
     rfl
    have tl:((l.drop k).take (one (l.drop k))).length=one (l.drop k):=by rw [Eh];omega
    have tz:((l.drop k).take (iN (l.drop k))).length<=100000:=by rw [Eh];omega
    refine ⟨_,rfl,tz,?_⟩
    by_cases s0:iN (l.drop k)=0
    ·rw [if_pos ((take_nil (mh _)).mpr s0)]
     refine ⟨_,rfl,_,rfl,l,k,rfl,c,hz,?_⟩
     rw [show run (l.drop k)=one (l.drop k) from (if_pos s0).symm]
     refine ⟨_,rfl,.inl ⟨rfl,_,SqL.of g⟩,_,rfl,p,_,_,rfl,rfl,g,(by rw [vx];omega),?_⟩
     refine ⟨_,rfl,_,rfl,S ((l.drop k).take (one (l.drop k))),rfl,(by rw [aR];omega),_,_,rfl,rfl,?_⟩
     refine ⟨k+one (l.drop k),ts++[(l.drop k).take (one (l.drop k))],some (.str (S ((l.drop k).take (one (l.drop k))))),?_,by omega,by omega,?_,bY hp s1,tk,by rw [D9];simp;omega⟩
     ·show [some (V.str (S l)),some (V.ref p),some (V.int ((k:Int)+((S ((l.drop k).take (one (l.drop k)))).length:Int))),some (V.str (S ((l.drop k).take (one (l.drop k)))))]=_
      rw [aR,tl,show ((k:Int)+(one (l.drop k):Int))=((k+one (l.drop k):Nat):Int) by omega]
     ·rw [ad,vt];rfl
    ·rw [if_neg (fun z=>s0 ((take_nil (mh _)).mp z))]
     rw [show iN (l.drop k)=one (l.drop k) from (if_neg s0).symm]
     refine ⟨_,rfl,.inl ⟨rfl,_,SqL.of g⟩,_,rfl,p,_,_,rfl,rfl,g,(by rw [vx];omega),?_⟩
     refine ⟨_,rfl,_,rfl,S ((l.drop k).take (one (l.drop k))),rfl,(by rw [aR];omega),_,_,rfl,rfl,?_⟩
     refine ⟨k+one (l.drop k),ts++[(l.drop k).take (one (l.drop k))],some (.str (S ((l.drop k).take (one (l.drop k))))),?_,by omega,by omega,?_,bY hp s1,tk,by rw [D9];simp;omega⟩
     ·show [some (V.str (S l)),some (V.ref p),some (V.int ((k:Int)+((S ((l.drop k).take (one (l.drop k)))).length:Int))),some (V.str (S ((l.drop k).take (one (l.drop k)))))]=_
      rw [aR,tl,show ((k:Int)+(one (l.drop k):Int))=((k+one (l.drop k):Nat):Int) by omega]
     ·rw [ad,vt];rfl
  ·refine bi (decide_eq_false (by rw [aR];omega)) ?_
   have:k=l.length:=by omega
   subst this
   rw [List.drop_length,uB,ET] at e
   subst e
   exact ⟨_,rfl,q p H' hp g s1⟩
end
end L3
namespace L3
open PySem L2
theorem pW:bootBuiltins "dict"=some (.type "dict"):=by decide +kernel
structure BC (mg:Str->Option Value):Prop where
 dict:mg "dict"=none
 enumerate:mg "enumerate"=none
theorem gV {α β:Type} {R:α->β->Prop}:∀ {xs:List α} {ys:List β},Paired R xs ys->∀ {i:Nat} {x:α},xs[i]?=some x->∃ y,ys[i]?=some y/\R x y
 | _,_,.cons h t,0,x,e=>by
  simp at e
  exact ⟨_,rfl,e ▸ h⟩
 | _,_,.cons h t,i+1,x,e=>by
  obtain ⟨y,a,b⟩:=gV t (i:=i) (x:=x) (by simpa using e)
  exact ⟨y,by simpa using a,b⟩
inductive vy (vs:List V) (H:Hp) (Q:VK) (Z3:XK):Prop
 | mk (d tf us ks fs:_):vs=[.ref d,.ref tf]->NmI H d ks->H tf=some (.tup us)->Paired (FldV H) us fs->((ks++fs).map (·.1)).Nodup->ks.length+fs.length<=20->(∀ d' H',Same H H'->H d'=none->NmI H' d' (ks++fs)->Q (.ref d') H')->vy vs H Q Z3
section
variable {P:Program} {w:World} {K:PySem.W.Frag} {mg:Str->Option Value} {base:Heap}
theorem scNwf:ay ["names","fields","within","j","name","sort"] ["names","fields"] (am il):=⟨rfl,rfl,rfl,by decide +kernel,rfl,by decide +kernel,by decide +kernel⟩
set_option maxHeartbeats 2000000 in
theorem zZ {f:Addr} {fd:FuncData} (F:Fun K "names_with_fields" "names_with_fields" il f fd) (B:BC mg) (AN:Fn P w K mg base "add_name" 1 ["names","name","sort","sel"] gR):aN P w K mg base cj 2 f fd ["names","fields"] vy:=by
 refine F.ok scNwf (fun vs H Q E h=>?_) (fun cdv A outer s H vs Q E hr h=>?_)
 ·obtain ⟨d,tf,us,ks,fs,rfl,_⟩:=h
  rfl
 ·obtain ⟨d,tf,us,ks,fs,rfl,⟨kvs,hd,hp⟩,ht,hf,hnd,h20,q⟩:=h
  refine ⟨_,af (aw (i:=2) scNwf.nd rfl (Or.inl rfl) (aM pq (by rfl) B.dict pW (aa (pv 0) ac)))
   (af (cS PassesOwn.never rfl (jS rfl B.enumerate (aa (pv 1) ac)) (c0 rfl (az (ar (i:=3) scNwf.nd rfl (Or.inl rfl)) (az (c0 rfl (az (ar (i:=4) scNwf.nd rfl (Or.inl rfl)) (az (ar (i:=5) scNwf.nd rfl (Or.inl rfl)) bD))) bD)))
    (ai (aQ (aC AN hr rfl (aa (pv 2) (aa (pv 4) (aa (pv 5) (aa (aW (aa ak (aa (pv 3) ac))) ac))))))))
   (ai (av (pv 2)))),?_⟩
  refine ⟨_,rfl,d,kvs,rfl,hd,fun d' nd'=>?_⟩
  have s1:=ag (o:=.dK kvs) nd'
  have e1:(ax H d' (.dK kvs)) d'=some (.dK kvs):=ad
  generalize ax H d' (.dK kvs)=H1 at *
  refine ⟨_,rfl,tf,rfl,⟨_,SqT.of (s1 _ _ ht)⟩,?_⟩
  have lf:=hf.length
  refine iO (K:=K) (l:=tf) (xs:=us) (fun i σ H'=>∃ v3 v4 v5:Option V,σ=[some (.ref d),some (.ref tf),some (.ref d'),v3,v4,v5]/\Same H H'/\NmI H' d' (ks++fs.take i)) ⟨_,_,_,rfl,s1,kvs,e1,by simpa using dm (fun _ _ h=>h.kt (aZ s1)) hp⟩ (fun i σ H' _ ⟨_,_,_,_,s',_⟩=>SqT.of (s' _ _ ht)) ?_ ?_
  ·rintro i x σ H2 T1 hx nT ⟨v3,v4,v5,rfl,s2,n2⟩
   obtain ⟨y,hy,pf,rfl,hpf⟩:=gV hf hx
   have hlt:i < fs.length:=(D7.mp hy).1
   have s3:=ag (o:=.tup [.int (i:Int),.ref pf]) nT
   have s23:=s2.trans s3
   refine ⟨T1,_,rfl,SqT.of ad,rfl,_,_,rfl,_,_,rfl,⟨pf,_,rfl,SqT.of (s23 _ _ hpf),rfl,_,_,rfl,_,_,rfl,rfl,rfl,?_⟩⟩
   refine ⟨_,rfl,_,rfl,_,rfl,_,rfl,(by show 2<=sizeLine;decide),fun t nt=>?_⟩
   have s4:=ag (o:=.tup [.str "by",.int (i:Int)]) nt
   have s24:=s23.trans s4
   have n4:NmI (ax (ax H2 T1 (.tup [.int (i:Int),.ref pf])) t (.tup [.str "by",.int (i:Int)])) d' (ks++fs.take i):=let ⟨kv2,a,b⟩:=n2;⟨kv2,(s3.trans s4) _ _ a,dm (fun _ _ h=>h.kt (aZ (s3.trans s4))) b⟩
   have etk:fs.take (i+1)=fs.take i++[y]:=by rw [EJ,hy];rfl
   refine ⟨d',_,y.1,y.2,.ref t,rfl,n4,?_,?_,fun H5 n5 b5=>⟨_,_,_,rfl,dj nd' s24 b5,?_⟩⟩
   ·intro hm
    have e5:ks++fs=(ks++fs.take i)++(y::fs.drop (i+1)):=by
     rw [EU]
     congr 1
     have:=(Fd i fs).symm
     rw [EQ hlt] at this
     rw [(D7.mp hy).2] at this
     exact this
    rw [e5,Ed,Ek] at hnd
    exact (List.nodup_append.mp hnd).2.2 _ hm _ Ea rfl
   ·rw [D9,Eh]
    omega
   ·rw [etk,<-EU]
    exact n5
  ·rintro σ H2 ⟨v3,v4,v5,rfl,s2,n2⟩
   rw [lf,EI] at n2
   exact ⟨_,rfl,q d' H2 s2 nd' n2⟩
end
end L3
namespace L3
open PySem L2
def qT (zs:List Str):List (cq×V):=zs.map fun z=>(Sum.inr z,.bl true)
theorem yU:∀ {zs:List Str} {z:Str},z∉zs->aY (qT zs) (Sum.inr z)=none
 | [],_,_=>nR
 | x::zs,z,h=>by
  unfold qT
  rw [Ek,bP]
  ·exact yU (fun m=>h (Ee _ m))
  ·intro e
   exact h (by rw [<-Sum.inr.inj e];exact Ea)
inductive Aa (vs:List V) (H:Hp) (Q:VK) (Z3:XK):Prop
 | mk (d tk us ks kds:_):vs=[.ref d,.ref tk]->NmI H d ks->H tk=some (.tup us)->Paired (KindV H) us kds->(kds.map Kn.name).Nodup->(∀ x∈kds,((ks++x.fs).map (·.1)).Nodup/\x.fs.length<=3)->ks.length<=10->kds.length<=8->(∀ p us' H',Same H H'->H p=none->H' p=some (.tup us')->Paired (KindV H') us' kds->Q (.ref p) H')->Aa vs H Q Z3
structure NI (H:Hp) (kds:List Kn) (ln lt:Addr) (i:Nat) (H':Hp):Prop where
 sm:Same H H'
 n1:H ln=none
 n2:H lt=none
 ne:ln≠lt
 ls:∃ us,H' ln=some (.lst us)/\us.length=i/\Paired (KindV H') us (kds.take i)
 tk:H' lt=some (.dK (qT ((kds.take i).map Kn.name)))
section
variable {P:Program} {w:World} {K:PySem.W.Frag} {mg:Str->Option Value} {base:Heap}
theorem scKN:ay ["names","kinds","named","taken","name","fields","body","deed"] ["names","kinds"] (am gw):=⟨rfl,rfl,rfl,by decide +kernel,rfl,by decide +kernel,by decide +kernel⟩
set_option maxHeartbeats 4000000 in
theorem BE {f:Addr} {fd:FuncData} (F:Fun K "kinds_named" "kinds_named" gw f fd) (B:Bl mg) (NW:Fn P w K mg base "names_with_fields" 2 ["names","fields"] vy) (DO:Fn P w K mg base "deed_of" 2 ["names","body"] jZ):aN P w K mg base cj 3 f fd ["names","kinds"] Aa:=by
 refine F.ok scKN (fun vs H Q E h=>?_) (fun cdv A outer s H vs Q E hr h=>?_)
 ·obtain ⟨d,tk,us,ks,kds,rfl,_⟩:=h
  rfl
 ·obtain ⟨d,tk,us,ks,kds,rfl,hN,ht,hk,hnd,hfs,h10,h8,q⟩:=h
  have hu:=hJ hr
  have sz:(1000:Nat)<=sizeLine:=by decide
  refine ⟨_,af (aw (i:=2) scKN.nd rfl (Or.inl rfl) (aV ac))
   (af (aw (i:=3) scKN.nd rfl (Or.inl rfl) jQ)
   (af (cS PassesOwn.never rfl (hX (pv 1)) (c0 rfl (az (ar (i:=4) scKN.nd rfl (Or.inl rfl)) (az (ar (i:=5) scKN.nd rfl (Or.inl rfl)) (az (ar (i:=6) scKN.nd rfl (Or.inl rfl)) bD))))
    (af (aT (oP (uH hu (pv 4) (pv 3))) (ai bG) aI)
    (af (mo hu (pv 3) (pv 4) eO rfl)
    (af (aw (i:=7) scKN.nd rfl (Or.inl rfl) (aC DO hr rfl (aa (aC NW hr rfl (aa (pv 0) (aa (pv 5) ac))) (aa (pv 6) ac))))
    (ai (aQ (bX Ep Eu Et bM (pv 2) (aa (aW (aa (pv 4) (aa (pv 5) (aa (pv 7) ac)))) ac))))))))
   (ai (av (aM bF (by rfl) B.tuple bH (aa (pv 2) ac)))))),?_⟩
  have lk:=hk.length
  refine ⟨(by show 0<=sizeLine;decide),fun ln n1=>?_⟩
  have s1:=ag (o:=.lst []) n1
  have e1:(ax H ln (.lst [])) ln=some (.lst []):=ad
  generalize ax H ln (.lst ([]:List V))=H1 at *
  refine fun lt n2=>?_
  have s2:=ag (o:=.dK []) n2
  have e2:(ax H1 lt (.dK [])) lt=some (.dK []):=ad
  have I0:NI H kds ln lt 0 (ax H1 lt (.dK [])):=⟨s1.trans s2,n1,s1.free n2,aG e1 n2,⟨[],s2 _ _ e1,rfl,.nil⟩,e2⟩
  generalize ax H1 lt (.dK ([]:List (cq×V)))=H2 at *
  refine ⟨_,rfl,tk,rfl,⟨_,SqT.of (I0.sm _ _ ht)⟩,?_⟩
  refine lQ (K:=K) (a:=tk) (xs:=us) (fun i σ H'=>∃ v4 v5 v6 v7:Option V,σ=[some (.ref d),some (.ref tk),some (.ref ln),some (.ref lt),v4,v5,v6,v7]/\NI H kds ln lt i H') ⟨_,_,_,_,rfl,I0⟩ (fun i σ H' _ ⟨_,_,_,_,_,I⟩=>SqT.of (I.sm _ _ ht)) ?_ ?_
  ·rintro i x σ H3 hx ⟨v4,v5,v6,v7,rfl,I⟩
   obtain ⟨y,hy,hK⟩:=gV hk hx
   have hlt:i < kds.length:=(D7.mp hy).1
   have hyi:kds[i]=y:=(D7.mp hy).2
   obtain ⟨p,tf,b,fu,rfl,hp,htf,hfu,hb⟩:=hK
   have etk:kds.take (i+1)=kds.take i++[y]:=by rw [EJ,hy];rfl
   have hym:y∈kds:=hyi ▸ E9 hlt
   have hno:y.name∉(kds.take i).map Kn.name:=by
    intro hm
    have e5:kds=kds.take i++(y::kds.drop (i+1)):=by
     have:=(Fd i kds).symm
     rw [EQ hlt,hyi] at this
     exact this
    rw [e5,Ed,Ek] at hnd
    exact (List.nodup_append.mp hnd).2.2 _ hm _ Ea rfl
   have hval:=yU hno
   have g:DGet H3 lt (.str y.name) none:=by
    have:=DGet.k (k:=Sum.inr y.name) I.tk
    rw [hval] at this
    exact this
   refine ⟨p,_,rfl,SqT.of (I.sm _ _ hp),rfl,_,_,rfl,_,_,rfl,_,_,rfl,rfl,?_⟩
   refine ⟨_,rfl,_,rfl,lt,_,rfl,g,_,rfl,cA ?_⟩
   have ltk:(qT ((kds.take i).map Kn.name)).length<=8:=by
    unfold qT
    rw [D5,D5,Eh]
    omega
   refine ⟨_,rfl,_,rfl,lt,_,rfl,DPut.k (k:=Sum.inr y.name) I.tk (by omega),?_⟩
   rw [gp _ hval]
   have et:qT ((kds.take i).map Kn.name)++[(Sum.inr y.name,V.bl true)]=qT ((kds.take (i+1)).map Kn.name):=by
    unfold qT
    rw [etk,Ed,Ed]
    rfl
   rw [et]
   obtain ⟨us3,e3,l3,p3⟩:=I.ls
   have k4:TupK H3 (ax H3 lt (.dK (qT ((kds.take (i+1)).map Kn.name)))):=yT I.tk
   have s4:Same H (ax H3 lt (.dK (qT ((kds.take (i+1)).map Kn.name)))):=bY I.n2 I.sm
   have e4:(ax H3 lt (.dK (qT ((kds.take (i+1)).map Kn.name)))) ln=some (.lst us3):=by rw [ao I.ne];exact e3
   have t4:(ax H3 lt (.dK (qT ((kds.take (i+1)).map Kn.name)))) lt=some (.dK (qT ((kds.take (i+1)).map Kn.name))):=ad
   have p4:=dm (fun _ _ h=>KindV.kt k4 h) p3
   generalize ax H3 lt (.dK (qT ((kds.take (i+1)).map Kn.name)))=H4 at *
   have hN4:NmI H4 d ks:=let ⟨kv2,a,b2⟩:=hN;⟨kv2,s4 _ _ a,dm (fun _ _ h=>h.kt (aZ s4)) b2⟩
   refine ⟨_,rfl,_,rfl,d,tf,fu,ks,y.fs,rfl,hN4,s4 _ _ htf,dm (fun _ _ h=>h.kt (aZ s4)) hfu,(hfs y hym).1,by have:=(hfs y hym).2;omega,fun d' H5 s5 nd' nm'=>?_⟩
   have s45:=s4.trans s5
   refine ⟨_,rfl,.ref d',b,rfl,hb.kt (aZ s45),fun b' H6 s6 hb'=>?_⟩
   have s46:=s5.trans s6
   have s06:=s4.trans s46
   refine ⟨_,rfl,.inl ⟨rfl,_,SqL.of (s46 _ _ e4)⟩,_,rfl,_,rfl,_,rfl,(by show 3<=sizeLine;decide),fun pt npt=>?_⟩
   have s7:=ag (o:=.tup [.str y.name,.ref tf,b']) npt
   have e7:=s7 _ _ (s46 _ _ e4)
   have ept:(ax H6 pt (.tup [.str y.name,.ref tf,b'])) pt=some (.tup [.str y.name,.ref tf,b']):=ad
   have s07:=s06.trans s7
   generalize ax H6 pt (.tup [V.str y.name,.ref tf,b'])=H7 at *
   refine ⟨ln,_,_,rfl,rfl,e7,by rw [l3];omega,?_⟩
   have k8:=qM (ys:=us3++[V.ref pt]) e7
   have k47:TupK H4 H7:=aZ (s46.trans s7)
   refine ⟨_,_,_,_,rfl,bY I.n1 s07,I.n1,I.n2,I.ne,⟨us3++[.ref pt],ad,by simp [l3],?_⟩,?_⟩
   ·rw [etk]
    refine jd ⟨pt,tf,b',fu,rfl,k8 _ _ ept,k8 _ _ (s07 _ _ htf),dm (fun _ _ h=>(h.kt (aZ s07)).kt k8) hfu,(hb'.kt (aZ s7)).kt k8⟩ (dm (fun _ _ h=>(KindV.kt k47 h).kt k8) p4)
   ·rw [ao I.ne.symm]
    exact s7 _ _ (s46 _ _ t4)
  ·rintro σ H3 ⟨v4,v5,v6,v7,rfl,I⟩
   obtain ⟨us3,e3,l3,p3⟩:=I.ls
   rw [lk,EI] at p3
   refine ⟨_,rfl,ln,us3,rfl,.inl ⟨SqL.of e3,fun p np=>?_⟩⟩
   have s4:=ag (o:=.tup us3) np
   exact q p us3 _ (I.sm.trans s4) (I.sm.free np) ad (dm (fun _ _ h=>KindV.kt (aZ s4) h) p3)
end
end L3
namespace L3
open PySem L2
theorem dE {X:Cx} {K:PySem.W.Frag} {es:List Expr} {k:Nat} {pos:Pos} {t:zi} {n:Nat} (h:X.K=K) (hc:X.calm=true) (hg:A3 X es t) (hn:(assignEach es X.env).length=n:=by rfl) (hst:(assignEach es X.env).findIdx? (·.1)=none:=by rfl):PG X (.Tuple es k pos) (zk K n t):=by
 subst h
 exact c0 hc hg hn hst
def BF (vw vc vd vp vm vg:V) (pn pk:Addr):List (Str×V):=[("width",vw),("cells",vc),("depth",vd),("places",vp),("marks",vm),("gate",vg),("kinds",.ref pn),("kinds_known",.ref pk)]
def Da:List Str:=["width","cells","depth","places","marks","gate","kinds","kinds_known"]
structure Tc (K:PySem.W.Frag) (C:Addr):Prop where
 cl:Cls K C
 na:∀ f∈Da,NoAttr K C f
abbrev mM:Stmt:=cK (cY 71) 0
inductive mN (C:Addr) (vs:List V) (H:Hp) (Q:VK) (Z3:XK):Prop
 | mk (x dx vw vc vd vp vm vg pk us kds:_):vs=[.ref x,vw,vc,vd,vp,vm,vg,.ref pk]->H x=some (.ins C dx [])->H pk=some (.tup us)->Paired (KindV H) us kds->kds.length<=8->(∀ pn H',H' x=some (.ins C dx (BF vw vc vd vp vm vg pn pk))->H pn=none->H' pn=some (.tup (ae (kds.map Kn.name)))->ButO x H H'->Q .non H')->mN C vs H Q Z3
section
variable {P:Program} {w:World} {K:PySem.W.Frag} {mg:Str->Option Value} {base:Heap} {C:Addr}
theorem xT:ay ["self","width","cells","depth","places","marks","gate","kinds_known"] ["self","width","cells","depth","places","marks","gate","kinds_known"] (am mM):=⟨rfl,rfl,rfl,by decide +kernel,rfl,by decide +kernel,by decide +kernel⟩
theorem Ab:(["name","fields","deed"]:List Str).Nodup:=by decide +kernel
set_option maxHeartbeats 4000000 in
theorem vz {f:Addr} {fd:FuncData} (F:Fun K "__init__" "Table.__init__" mM f fd) (T:Tc K C) (B:Bl mg):aN P w K mg base cj 1 f fd ["self","width","cells","depth","places","marks","gate","kinds_known"] (mN C):=by
 refine F.ok xT (fun vs H Q E h=>?_) (fun cdv A outer s H vs Q E hr h=>?_)
 ·obtain ⟨x,dx,vw,vc,vd,vp,vm,vg,pk,us,kds,rfl,_⟩:=h
  rfl
 ·obtain ⟨x,dx,vw,vc,vd,vp,vm,vg,pk,us,kds,rfl,hx,hk,hp,h8,q⟩:=h
  have sz:(1000:Nat)<=sizeLine:=by decide
  refine ⟨_,(af (dn (pv 0) (pv 1) rfl)
   (af (dn (pv 0) (pv 2) rfl)
   (af (dn (pv 0) (pv 3) rfl)
   (af (dn (pv 0) (pv 4) rfl)
   (af (dn (pv 0) (pv 5) rfl)
   (af (dn (pv 0) (pv 6) rfl)
   (af (dn (pv 0) (aM bF (by rfl) B.tuple bH (aa (eG (N':=["name","fields","deed"]) (ix:=[none,none,none]) (sc0:=am mM) (N:=["self","width","cells","depth","places","marks","gate","kinds_known"]) rfl (by decide +kernel) (hX (pv 7)) (fun C' cl s H fp=>dE (K:=K) (n:=3) rfl rfl (az (ar (i:=0) Ab rfl (Or.inl rfl) (.inr rfl)) (az (ar (i:=1) Ab rfl (Or.inl rfl) (.inr rfl)) (az (ar (i:=2) Ab rfl (Or.inl rfl) (.inr rfl)) bD)))) (fun _ _ _ _ _=>cU) (fun C' cl s H fp=>pv 0)) ac)) rfl)
   (ai (dn (pv 0) (pv 7) rfl))))))))),?_⟩
  have b0:ButO x H H:=ButO.refl _ _
  refine ⟨_,rfl,_,rfl,x,C,dx,_,rfl,hx,T.cl,T.na "width" (by decide +kernel),(by show 0 < 1000;decide),?_⟩
  have e1:(ax H x (.ins C dx (aJ "width" vw []))) x=some (.ins C dx (aJ "width" vw [])):=ad
  have b1:ButO x H (ax H x (.ins C dx (aJ "width" vw []))):=fun b o e nb=>by rw [ao nb];exact b0 _ _ e nb
  generalize ax H x (.ins C dx (aJ "width" vw []))=H1 at *
  refine ⟨_,rfl,_,rfl,x,C,dx,_,rfl,e1,T.cl,T.na "cells" (by decide +kernel),(by show 1 < 1000;decide),?_⟩
  have e2:(ax H1 x (.ins C dx (aJ "cells" vc (aJ "width" vw [])))) x=some (.ins C dx (aJ "cells" vc (aJ "width" vw []))):=ad
  have b2:ButO x H (ax H1 x (.ins C dx (aJ "cells" vc (aJ "width" vw [])))):=fun b o e nb=>by rw [ao nb];exact b1 _ _ e nb
  generalize ax H1 x (.ins C dx (aJ "cells" vc (aJ "width" vw [])))=H2 at *
  refine ⟨_,rfl,_,rfl,x,C,dx,_,rfl,e2,T.cl,T.na "depth" (by decide +kernel),(by show 2 < 1000;decide),?_⟩
  have e3:(ax H2 x (.ins C dx (aJ "depth" vd (aJ "cells" vc (aJ "width" vw []))))) x=some (.ins C dx (aJ "depth" vd (aJ "cells" vc (aJ "width" vw [])))):=ad
  have b3:ButO x H (ax H2 x (.ins C dx (aJ "depth" vd (aJ "cells" vc (aJ "width" vw []))))):=fun b o e nb=>by rw [ao nb];exact b2 _ _ e nb
  generalize ax H2 x (.ins C dx (aJ "depth" vd (aJ "cells" vc (aJ "width" vw []))))=H3 at *
  refine ⟨_,rfl,_,rfl,x,C,dx,_,rfl,e3,T.cl,T.na "places" (by decide +kernel),(by show 3 < 1000;decide),?_⟩
  have e4:(ax H3 x (.ins C dx (aJ "places" vp (aJ "depth" vd (aJ "cells" vc (aJ "width" vw [])))))) x=some (.ins C dx (aJ "places" vp (aJ "depth" vd (aJ "cells" vc (aJ "width" vw []))))):=ad
  have b4:ButO x H (ax H3 x (.ins C dx (aJ "places" vp (aJ "depth" vd (aJ "cells" vc (aJ "width" vw [])))))):=fun b o e nb=>by rw [ao nb];exact b3 _ _ e nb
  generalize ax H3 x (.ins C dx (aJ "places" vp (aJ "depth" vd (aJ "cells" vc (aJ "width" vw [])))))=H4 at *
  refine ⟨_,rfl,_,rfl,x,C,dx,_,rfl,e4,T.cl,T.na "marks" (by decide +kernel),(by show 4 < 1000;decide),?_⟩
  have e5:(ax H4 x (.ins C dx (aJ "marks" vm (aJ "places" vp (aJ "depth" vd (aJ "cells" vc (aJ "width" vw []))))))) x=some (.ins C dx (aJ "marks" vm (aJ "places" vp (aJ "depth" vd (aJ "cells" vc (aJ "width" vw [])))))):=ad
  have b5:ButO x H (ax H4 x (.ins C dx (aJ "marks" vm (aJ "places" vp (aJ "depth" vd (aJ "cells" vc (aJ "width" vw []))))))):=fun b o e nb=>by rw [ao nb];exact b4 _ _ e nb
  generalize ax H4 x (.ins C dx (aJ "marks" vm (aJ "places" vp (aJ "depth" vd (aJ "cells" vc (aJ "width" vw []))))))=H5 at *
  refine ⟨_,rfl,_,rfl,x,C,dx,_,rfl,e5,T.cl,T.na "gate" (by decide +kernel),(by show 5 < 1000;decide),?_⟩
  have e6:(ax H5 x (.ins C dx (aJ "gate" vg (aJ "marks" vm (aJ "places" vp (aJ "depth" vd (aJ "cells" vc (aJ "width" vw [])))))))) x=some (.ins C dx (aJ "gate" vg (aJ "marks" vm (aJ "places" vp (aJ "depth" vd (aJ "cells" vc (aJ "width" vw []))))))):=ad
  have b6:ButO x H (ax H5 x (.ins C dx (aJ "gate" vg (aJ "marks" vm (aJ "places" vp (aJ "depth" vd (aJ "cells" vc (aJ "width" vw [])))))))):=fun b o e nb=>by rw [ao nb];exact b5 _ _ e nb
  generalize ax H5 x (.ins C dx (aJ "gate" vg (aJ "marks" vm (aJ "places" vp (aJ "depth" vd (aJ "cells" vc (aJ "width" vw [])))))))=H6 at *
  have pkx:pk≠x:=by
   rintro rfl
   rw [hk] at hx
   cases hx
  have hk6:=b6 _ _ hk pkx
  have k6:TupK H H6:=b6.kt hx
  have hp6:=dm (fun _ _ h=>KindV.kt k6 h) hp
  have lk:=hp.length
  refine ⟨_,rfl,pk,rfl,⟨_,SqT.of hk6⟩,?_⟩
  refine mv (K:=K) (a:=pk) (xs:=us) (fun i ys H'=>H'=H6/\ys=ae ((kds.take i).map Kn.name)) ⟨rfl,rfl⟩ (fun i ys H' hi ⟨a1,a2⟩=>by
    subst a1 a2
    refine ⟨SqT.of hk6,?_⟩
    unfold ae
    rw [D5,D5,Eh]
    omega) ?_ ?_
  ·rintro i z ys H' hz ⟨rfl,rfl⟩
   obtain ⟨y,hy,p,tf,bb,fu,rfl,hpp,_⟩:=gV hp6 hz
   have hlt:i < us.length:=(D7.mp hz).1
   refine ⟨p,_,rfl,SqT.of hpp,rfl,_,_,rfl,_,_,rfl,_,_,rfl,rfl,trivial,c9 ?_⟩
   refine ⟨_,rfl,Nx.mk hlt ⟨rfl,?_⟩⟩
   rw [EJ,hy]
   unfold ae
   simp
  ·rintro ys H' ⟨rfl,rfl⟩ D hD
   rw [lk,EI]
   have s7:=ag (o:=.lst (ae (kds.map Kn.name))) hD
   have e7:(ax H' D (.lst (ae (kds.map Kn.name)))) D=some (.lst (ae (kds.map Kn.name))):=ad
   have x7:=s7 _ _ e6
   generalize ax H' D (.lst (ae (kds.map Kn.name)))=H7 at *
   refine ⟨D,_,rfl,.inl ⟨SqL.of e7,fun pn npn=>?_⟩⟩
   have s8:=ag (o:=.tup (ae (kds.map Kn.name))) npn
   have e8:(ax H7 pn (.tup (ae (kds.map Kn.name)))) pn=some (.tup (ae (kds.map Kn.name))):=ad
   have x8:=s8 _ _ x7
   have b8:=(b6.same s7).same s8
   have nH:H pn=none:=gQ (b6.same s7) x7 npn
   generalize ax H7 pn (.tup (ae (kds.map Kn.name)))=H8 at *
   have pnx:pn≠x:=by
    rintro rfl
    rw [nH] at hx
    cases hx
   refine ⟨_,rfl,x,C,dx,_,rfl,x8,T.cl,T.na "kinds" (by decide +kernel),(by show 6 < 1000;decide),?_⟩
   refine ⟨_,rfl,_,rfl,x,C,dx,_,rfl,ad,T.cl,T.na "kinds_known" (by decide +kernel),(by show 7 < 1000;decide),?_⟩
   refine q pn _ ?_ nH ?_ ?_
   ·rw [ad]
    rfl
   ·rw [ao pnx,ao pnx]
    exact e8
   ·intro b o e nb
    rw [ao nb,ao nb]
    exact b8 _ _ e nb
end
end L3
namespace L3
open PySem L2
def iC (D:Fm):List (Str×Str):=D.places.map (fun z=>(z,("place":Str)))++D.marks.map (fun z=>(z,("mark":Str)))
def om (D:Fm):V:=match D.gates with
 | []=>.non
 | z::_=>.str z
structure iD (D:Fm):Prop where
 nd:((iC D).map (·.1)).Nodup
 gt:∀ z∈D.gates,z∈D.marks
 g1:D.gates.length<=1
 kn:(D.kinds.map Kn.name).Nodup
 kf:∀ x∈D.kinds,((iC D++x.fs).map (·.1)).Nodup/\x.fs.length<=3
 p4:D.places.length<=4
 m3:D.marks.length<=3
 k8:D.kinds.length<=8
inductive TabV (C:Addr) (H:Hp) (v:V) (D:Fm):Prop
 | mk (a dx pp pm pn pk us:_):v=.ref a->H a=some (.ins C dx (BF (.int D.width) (.int D.cells) (.int D.depth) (.ref pp) (.ref pm) (om D) pn pk))->H pp=some (.tup (ae D.places))->H pm=some (.tup (ae D.marks))->H pn=some (.tup (ae (D.kinds.map Kn.name)))->H pk=some (.tup us)->Paired (KindV H) us D.kinds->TabV C H v D
inductive Ac (C:Addr) (vs:List V) (H:Hp) (Q:VK) (Z3:XK):Prop
 | mk (u D:_):vs=[u]->vi H u D->iD D->(∀ v H',Same H H'->TabV C H' v D->Q v H')->Ac C vs H Q Z3
theorem NmI.same {H H':Hp} {d:Addr} {ks:List (Str×Str)} (h:NmI H d ks) (s:Same H H'):NmI H' d ks:=let ⟨kv,a,b⟩:=h;⟨kv,s _ _ a,dm (fun _ _ h=>h.kt (aZ s)) b⟩
theorem vA {A B:List (Str×Str)} {x:Str×Str} (h:((A++x::B).map (·.1)).Nodup):x.1∉A.map (·.1):=by
 rw [Ed,Ek] at h
 intro hm
 exact (List.nodup_append.mp h).2.2 _ hm _ Ea rfl
section
variable {P:Program} {w:World} {K:PySem.W.Frag} {mg:Str->Option Value} {base:Heap} {C fi:Addr}
theorem scTF:ay ["form","width","cells","depth","places","marks","gates","kinds","names","i","name","gate","kinds_known"] ["form"] (am fA):=⟨rfl,rfl,rfl,by decide +kernel,rfl,by decide +kernel,by decide +kernel⟩
set_option maxHeartbeats 8000000 in
theorem BG {f:Addr} {fd fdi:FuncData} (F:Fun K "table_of_form" "table_of_form" fA f fd) (B:Bl mg) (B3:BC mg) (MK:Mk K C fi) (mgT:mg "Table"=some (.ref C)) (IN:aN P w K mg base cj 1 fi fdi ["self","width","cells","depth","places","marks","gate","kinds_known"] (mN C)) (bI:Binds K fdi ["self","width","cells","depth","places","marks","gate","kinds_known"] [])
  (AN:Fn P w K mg base "add_name" 1 ["names","name","sort","sel"] gR) (NK:Fn P w K mg base "need_known" 1 ["names","name","sorts"] (gB K)) (KN:Fn P w K mg base "kinds_named" 3 ["names","kinds"] Aa):aN P w K mg base cj 4 f fd ["form"] (Ac C):=by
 refine F.ok scTF (fun vs H Q E h=>?_) (fun cdv A outer s H vs Q E hr h=>?_)
 ·obtain ⟨u,D,rfl,_⟩:=h
  rfl
 ·obtain ⟨u,D,rfl,⟨p,pp,pm,pg,pk,us,rfl,hp,hpp,hpm,hpg,hpk,hus⟩,hD,q⟩:=h
  have hr1:Room 1 _:=hr.mono (by decide)
  have hr2:Room 2 _:=hr.mono (by decide)
  have sz:(1000:Nat)<=sizeLine:=by decide
  refine ⟨_,af (fg (pv 0) (c0 rfl (az (ar (i:=1) scTF.nd rfl (Or.inl rfl)) (az (ar (i:=2) scTF.nd rfl (Or.inl rfl)) (az (ar (i:=3) scTF.nd rfl (Or.inl rfl)) (az (ar (i:=4) scTF.nd rfl (Or.inl rfl)) (az (ar (i:=5) scTF.nd rfl (Or.inl rfl)) (az (ar (i:=6) scTF.nd rfl (Or.inl rfl)) (az (ar (i:=7) scTF.nd rfl (Or.inl rfl)) bD)))))))))
   (af (aw (i:=8) scTF.nd rfl (Or.inl rfl) jQ)
   (bR (fun σ H'=>∃ (d:Addr) (v9 v10 v11 v12:Option V),σ=[some (.ref p),some (.int D.width),some (.int D.cells),some (.int D.depth),some (.ref pp),some (.ref pm),some (.ref pg),some (.ref pk),some (.ref d),v9,v10,v11,v12]/\H d=none/\Same H H'/\NmI H' d (D.places.map (fun z=>(z,("place":Str))))) (cS PassesOwn.never rfl (jS rfl B3.enumerate (aa (pv 4) ac)) (c0 rfl (az (ar (i:=9) scTF.nd rfl (Or.inl rfl)) (az (ar (i:=10) scTF.nd rfl (Or.inl rfl)) bD))) (ai (aQ (aC AN hr1 rfl (aa (pv 8) (aa (pv 10) (aa ak (aa (aW (aa ak (aa (pv 9) ac))) ac))))))))
   (bR (fun σ H'=>∃ (d:Addr) (v9 v10 v11 v12:Option V),σ=[some (.ref p),some (.int D.width),some (.int D.cells),some (.int D.depth),some (.ref pp),some (.ref pm),some (.ref pg),some (.ref pk),some (.ref d),v9,v10,v11,v12]/\H d=none/\Same H H'/\NmI H' d (iC D)) (cS PassesOwn.never rfl (jS rfl B3.enumerate (aa (pv 5) ac)) (c0 rfl (az (ar (i:=9) scTF.nd rfl (Or.inl rfl)) (az (ar (i:=10) scTF.nd rfl (Or.inl rfl)) bD))) (ai (aQ (aC AN hr1 rfl (aa (pv 8) (aa (pv 10) (aa ak (aa (aW (aa ak (aa (pv 9) ac))) ac))))))))
   (af (aw (i:=11) scTF.nd rfl (Or.inl rfl) cz)
   (bR (fun σ H'=>∃ (d:Addr) (v9 v10 v11 v12:Option V),σ=[some (.ref p),some (.int D.width),some (.int D.cells),some (.int D.depth),some (.ref pp),some (.ref pm),some (.ref pg),some (.ref pk),some (.ref d),v9,v10,v11,v12]/\v11=some (om D)/\H d=none/\Same H H'/\NmI H' d (iC D)) (cS PassesOwn.never rfl (hX (pv 6)) (ar (i:=10) scTF.nd rfl (Or.inl rfl)) (af (aQ (aC NK hr1 rfl (aa (pv 8) (aa (pv 10) (aa (aW (aa ak ac)) ac))))) (ai (aw (i:=11) scTF.nd rfl (Or.inl rfl) (pv 10)))))
   (af (aw (i:=12) scTF.nd rfl (Or.inl rfl) (aC KN hr rfl (aa (pv 8) (aa (pv 7) ac))))
   (ai (av (lT MK IN hr2 rfl mgT bI .nil hI (aa (pv 1) (aa (pv 2) (aa (pv 3) (aa (pv 4) (aa (pv 5) (aa (pv 11) (aa (pv 12) ac)))))))))))))))),?_⟩
  refine ⟨_,rfl,p,_,rfl,SqT.of hp,rfl,_,_,rfl,_,_,rfl,_,_,rfl,_,_,rfl,_,_,rfl,_,_,rfl,_,_,rfl,rfl,?_⟩
  refine fun d nd=>?_
  have s1:=ag (o:=.dK []) nd
  have I1:NmI (ax H d (.dK [])) d []:=⟨[],ad,.nil⟩
  generalize ax H d (.dK ([]:List (cq×V)))=H1 at *
  refine ⟨?_,?_⟩
  ·rintro σ H2 ⟨d,v9,v10,v11,v12,rfl,nd,s2,I2⟩
   refine ⟨?_,?_⟩
   ·rintro σ H3 ⟨d,v9,v10,v11,v12,rfl,nd,s3,I3⟩
    refine ⟨?_,?_⟩
    ·rintro σ H4 ⟨d,v9,v10,v11,v12,rfl,rfl,nd,s4,I4⟩
     refine ⟨_,rfl,_,rfl,d,pk,us,iC D,D.kinds,rfl,I4,s4 _ _ hpk,dm (fun _ _ h=>KindV.kt (aZ s4) h) hus,hD.kn,hD.kf,?_,hD.k8,fun p5 us5 H5 s5 n5 e5 k5=>?_⟩
     ·unfold iC
      rw [D9,D5,D5]
      have:=hD.p4
      have:=hD.m3
      omega
     have s05:=s4.trans s5
     refine ⟨_,rfl,_,rfl,_,rfl,_,rfl,_,rfl,_,rfl,_,rfl,fun x dx nx ndx ne=>?_⟩
     refine ⟨x,dx,_,_,_,_,_,_,p5,us5,D.kinds,rfl,ad,(bY nx (ag ndx)) _ _ e5,dm (fun _ _ h=>KindV.kt (aZ (bY nx (ag ndx))) h) k5,hD.k8,fun pn H7 e7 npn epn b7=>⟨rfl,?_⟩⟩
     have s57:Same H5 H7:=dj nx (bY nx (ag ndx)) b7
     have s07:=s05.trans s57
     exact q _ _ s07 ⟨x,dx,pp,pm,pn,p5,us5,rfl,e7,s07 _ _ hpp,s07 _ _ hpm,epn,s57 _ _ e5,dm (fun _ _ h=>KindV.kt (aZ s57) h) k5⟩
    ·refine ⟨_,rfl,pg,rfl,⟨_,SqT.of (s3 _ _ hpg)⟩,?_⟩
     refine lQ (K:=K) (a:=pg) (xs:=ae D.gates) (fun i σ H'=>∃ (v9 v10 v11 v12:Option V),σ=[some (.ref p),some (.int D.width),some (.int D.cells),some (.int D.depth),some (.ref pp),some (.ref pm),some (.ref pg),some (.ref pk),some (.ref d),v9,v10,v11,v12]/\v11=some (if i=0 then .non else om D)/\Same H H'/\NmI H' d (iC D)) ⟨_,_,_,_,rfl,rfl,s3,I3⟩ (fun i σ H' _ ⟨_,_,_,_,_,_,s',_⟩=>SqT.of (s' _ _ hpg)) ?_ ?_
     ·rintro i x σ Ha hx ⟨w9,w10,jz,w12,rfl,rfl,sa,Ia⟩
      have hg1:=hD.g1
      have hgt:=hD.gt
      have hlt0:i < (ae D.gates).length:=(D7.mp hx).1
      unfold ae at hx hlt0
      rw [D5] at hlt0
      cases hgs:D.gates with
      | nil=>rw [hgs] at hlt0;simp at hlt0
      | cons z r=>
       rw [hgs] at hx hlt0 hg1 hgt
       have hi0:i=0:=by simp only [D8] at hg1 hlt0;omega
       subst hi0
       have exz:x=.str z:=by simpa using hx.symm
       subst exz
       have hzm:=hgt z Ea
       refine ⟨_,rfl,_,rfl,(by show 1<=sizeLine;decide),fun t nt=>?_⟩
       have sb:=ag (o:=.tup [.str "mark"]) nt
       refine ⟨d,iC D,z,"mark",t,["mark"],rfl,Ia.same sb,?_,hD.nd,.inr (SqT.of ad),by simp,fun qq sl Hb sc eb=>?_⟩
       ·exact EH _ (ED.mpr ⟨z,hzm,rfl⟩)
       refine ⟨_,rfl,_,_,_,_,rfl,?_,(sa.trans sb).trans sc,(Ia.same sb).same sc⟩
       rw [if_neg (by omega)]
       unfold om
       rw [hgs]
     ·rintro σ Ha ⟨w9,w10,jz,w12,rfl,rfl,sa,Ia⟩
      refine ⟨d,_,_,_,_,rfl,?_,nd,sa,Ia⟩
      have ell:(ae D.gates).length=D.gates.length:=by unfold ae;rw [D5]
      rw [ell]
      cases hgs:D.gates with
      | nil=>
       unfold om
       rw [hgs]
       rfl
      | cons z r=>rw [if_neg (by simp)]
   ·refine ⟨_,rfl,pm,rfl,⟨_,SqT.of (s2 _ _ hpm)⟩,?_⟩
    refine iO (K:=K) (l:=pm) (xs:=ae D.marks) (fun i σ H'=>∃ (v9 v10 v11 v12:Option V),σ=[some (.ref p),some (.int D.width),some (.int D.cells),some (.int D.depth),some (.ref pp),some (.ref pm),some (.ref pg),some (.ref pk),some (.ref d),v9,v10,v11,v12]/\Same H H'/\NmI H' d (D.places.map (fun z=>(z,("place":Str)))++(D.marks.take i).map (fun z=>(z,("mark":Str))))) ⟨_,_,_,_,rfl,s2,by simpa using I2⟩ (fun i σ H' _ ⟨_,_,_,_,_,s',_⟩=>SqT.of (s' _ _ hpm)) ?_ ?_
    ·rintro i x σ Ha T1 hx nT ⟨w9,w10,jz,w12,rfl,sa,Ia⟩
     obtain ⟨z,hz,rfl⟩:∃ z,D.marks[i]?=some z/\x=.str z:=by
      unfold ae at hx
      rw [Eb] at hx
      cases hh:D.marks[i]? with
      | none=>rw [hh] at hx;cases hx
      | some z=>rw [hh] at hx;exact ⟨z,rfl,(Eg hx).symm⟩
     have hlt:i < D.marks.length:=(D7.mp hz).1
     have hzi:D.marks[i]=z:=(D7.mp hz).2
     have sb:=ag (o:=.tup [.int (i:Int),.str z]) nT
     refine ⟨T1,_,rfl,SqT.of ad,rfl,_,_,rfl,_,_,rfl,rfl,?_⟩
     refine ⟨_,rfl,_,rfl,_,rfl,(by show 2<=sizeLine;decide),fun t nt=>?_⟩
     have sc:=ag (o:=.tup [.str "is",.int (i:Int)]) nt
     have sac:=sa.trans (sb.trans sc)
     have etk:(D.marks.take (i+1)).map (fun z=>(z,("mark":Str)))=(D.marks.take i).map (fun z=>(z,("mark":Str)))++[(z,("mark":Str))]:=by rw [EJ,hz,Ed];rfl
     refine ⟨d,_,z,"mark",.ref t,rfl,Ia.same (sb.trans sc),?_,?_,fun Hb Ib bb=>⟨_,_,_,_,rfl,dj nd sac bb,?_⟩⟩
     ·have hh:=hD.nd
      have e5:iC D=(D.places.map (fun z=>(z,("place":Str)))++(D.marks.take i).map (fun z=>(z,("mark":Str))))++((z,("mark":Str))::(D.marks.drop (i+1)).map (fun z=>(z,("mark":Str)))):=by
       have:=(Fd i D.marks).symm
       rw [EQ hlt,hzi] at this
       unfold iC
       (conv=>lhs;rw [this]);simp
      rw [e5] at hh
      exact vA hh
     ·simp only [D9,D5,Eh,Ev]
      have:=hD.p4
      have:=hD.m3
      omega
     ·rw [etk,<-EU]
      exact Ib
    ·rintro σ Ha ⟨w9,w10,jz,w12,rfl,sa,Ia⟩
     have ell:(ae D.marks).length=D.marks.length:=by unfold ae;rw [D5]
     rw [ell,EI] at Ia
     exact ⟨d,_,_,_,_,rfl,nd,sa,Ia⟩
  ·refine ⟨_,rfl,pp,rfl,⟨_,SqT.of (s1 _ _ hpp)⟩,?_⟩
   refine iO (K:=K) (l:=pp) (xs:=ae D.places) (fun i σ H'=>∃ (v9 v10 v11 v12:Option V),σ=[some (.ref p),some (.int D.width),some (.int D.cells),some (.int D.depth),some (.ref pp),some (.ref pm),some (.ref pg),some (.ref pk),some (.ref d),v9,v10,v11,v12]/\Same H H'/\NmI H' d ([]++(D.places.take i).map (fun z=>(z,("place":Str))))) ⟨_,_,_,_,rfl,s1,by simpa using I1⟩ (fun i σ H' _ ⟨_,_,_,_,_,s',_⟩=>SqT.of (s' _ _ hpp)) ?_ ?_
   ·rintro i x σ Ha T1 hx nT ⟨w9,w10,jz,w12,rfl,sa,Ia⟩
    obtain ⟨z,hz,rfl⟩:∃ z,D.places[i]?=some z/\x=.str z:=by
     unfold ae at hx
     rw [Eb] at hx
     cases hh:D.places[i]? with
     | none=>rw [hh] at hx;cases hx
     | some z=>rw [hh] at hx;exact ⟨z,rfl,(Eg hx).symm⟩
    have hlt:i < D.places.length:=(D7.mp hz).1
    have hzi:D.places[i]=z:=(D7.mp hz).2
    have sb:=ag (o:=.tup [.int (i:Int),.str z]) nT
    refine ⟨T1,_,rfl,SqT.of ad,rfl,_,_,rfl,_,_,rfl,rfl,?_⟩
    refine ⟨_,rfl,_,rfl,_,rfl,(by show 2<=sizeLine;decide),fun t nt=>?_⟩
    have sc:=ag (o:=.tup [.str "is",.int (i:Int)]) nt
    have sac:=sa.trans (sb.trans sc)
    have etk:(D.places.take (i+1)).map (fun z=>(z,("place":Str)))=(D.places.take i).map (fun z=>(z,("place":Str)))++[(z,("place":Str))]:=by rw [EJ,hz,Ed];rfl
    refine ⟨d,_,z,"place",.ref t,rfl,Ia.same (sb.trans sc),?_,?_,fun Hb Ib bb=>⟨_,_,_,_,rfl,dj nd sac bb,?_⟩⟩
    ·have hh:=hD.nd
     have e5:iC D=([]++(D.places.take i).map (fun z=>(z,("place":Str))))++((z,("place":Str))::(D.places.drop (i+1)).map (fun z=>(z,("place":Str)))++D.marks.map (fun z=>(z,("mark":Str)))):=by
      have:=(Fd i D.places).symm
      rw [EQ hlt,hzi] at this
      unfold iC
      (conv=>lhs;rw [this]);simp
     rw [e5] at hh
     exact vA hh
    ·simp only [D9,D5,Eh,Ev]
     have:=hD.p4
     have:=hD.m3
     omega
    ·rw [etk,<-EU]
     exact Ib
   ·rintro σ Ha ⟨w9,w10,jz,w12,rfl,sa,Ia⟩
    have ell:(ae D.places).length=D.places.length:=by unfold ae;rw [D5]
    rw [ell,EI] at Ia
    exact ⟨d,_,_,_,_,rfl,nd,sa,by simpa using Ia⟩
end
end L3
namespace L3
open PySem L2
inductive Ad (C:Addr) (xs:List V) (H:Hp) (Q:VK) (Z3:XK):Prop
 | mk (l:List Nat) (D:Fm):xs=[.str (S l)]->l.length<=20000->(TK.toks l).length<=1500->pQ ((TK.toks l).map S) D->iD D->(∀ v H',Same H H'->TabV C H' v D->Q v H')->Ad C xs H Q Z3
theorem xU (ts:List (List Nat)):vs ts=ae (ts.map S):=by
 unfold vs ae
 rw [E1]
 rfl
section
variable {P:Program} {w:World} {K:PySem.W.Frag} {mg:Str->Option Value} {base:Heap} {C:Addr} {tM:Tok}
theorem Db:ay ["text"] ["text"] (am im):=⟨rfl,rfl,rfl,by decide +kernel,rfl,by decide +kernel,by decide +kernel⟩
set_option maxHeartbeats 1000000 in
theorem BH {f:Addr} {fd:FuncData} (F:Fun K "read_table" "read_table" im f fd) (B:Bl mg) (hM:mg "MOST_SIGNS"=some (.int 20000 tM)) (TO:Fn P w K mg base "tokens_of" 3 ["text"] pV) (RF:Fn P w K mg base "read_form" 7 ["tokens"] pR) (TF:Fn P w K mg base "table_of_form" 4 ["form"] (Ac C)):aN P w K mg base cj 8 f fd ["text"] (Ad C):=by
 refine F.ok Db (fun vs H Q E h=>?_) (fun cdv A outer s H vs Q E hr h=>?_)
 ·obtain ⟨l,D,rfl,_⟩:=h
  rfl
 ·obtain ⟨l,D,rfl,hl,ht,hF,hO,q⟩:=h
  have hr3:Room 3 _:=hr.mono (by decide)
  have hr4:Room 4 _:=hr.mono (by decide)
  have sz:(100000:Nat)<=sizeLine:=by decide
  refine ⟨_,af (aT (PW.pt (dF (cQ (cO (au (eK (T:="str")) (by rfl) B.isinstance cV (aa (pv 0) (aa (gi (by rfl) B.str bW) ac))))) (cZ (aq nC (au bA (by rfl) B.len Ei (aa (pv 0) ac)) (bo (v:=.int 20000) rfl hM ⟨_,rfl⟩) (aB _))))) (ai bG) aI)
   (ai (av (aC TF hr4 rfl (aa (aC RF hr rfl (aa (aC TO hr3 rfl (aa (pv 0) ac)) ac)) ac)))),?_⟩
  refine ⟨_,rfl,_,_,_,rfl,.str _,rfl,_,rfl,cA ?_⟩
  refine ⟨_,rfl,S l,rfl,(by rw [aR];omega),_,_,rfl,rfl,_,rfl,bi (decide_eq_false (by rw [aR];omega)) ?_⟩
  refine ⟨_,rfl,l,rfl,by omega,fun p H1 np e1 s1=>?_⟩
  rw [xU] at e1
  refine ⟨p,_,D,rfl,e1,by rw [D5];exact ht,hF,fun u H2 s2 hu=>?_⟩
  exact ⟨u,D,rfl,hu,hO,fun v H3 s3 hv=>q v H3 (s1.trans (s2.trans s3)) hv⟩
end
end L3
namespace L3
open PySem L2
abbrev mO:Stmt:=cK (cY 71) 1
abbrev i4:Stmt:=cK (cY 71) 2
inductive iE (C:Addr) (vs:List V) (H:Hp) (Q:VK) (Z3:XK):Prop
 | mk (v D z:_) (j:Nat):vs=[v,.str z]->TabV C H v D->(D.kinds.map Kn.name)[j]?=some z->(∀ m,m < j->(D.kinds.map Kn.name)[m]?≠some z)->Q (.int j) H->iE C vs H Q Z3
inductive sR (C:Addr) (vs:List V) (H:Hp) (Q:VK) (Z3:XK):Prop
 | mk (v D:_) (x:Kn):vs=[v,.str x.name]->TabV C H v D->iD D->x∈D.kinds->(∀ tf us,H tf=some (.tup us)->Paired (FldV H) us x.fs->Q (.ref tf) H)->sR C vs H Q Z3
theorem j3 {l:List Str} (nd:l.Nodup) {j:Nat} {z:Str} (h:l[j]?=some z):∀ m,m < j->l[m]?≠some z:=by
 intro m hm e
 have h1:=(D7.mp h).1
 have h2:=(D7.mp h).2
 have h3:=(D7.mp e).1
 have h4:=(D7.mp e).2
 exact List.pairwise_iff_getElem.mp nd m j h3 h1 hm (by rw [h2,h4])
theorem vB {α β:Type} {R:α->β->Prop}:∀ {xs:List α} {ys:List β},Paired R xs ys->∀ {i:Nat} {y:β},ys[i]?=some y->∃ x,xs[i]?=some x/\R x y
 | _,_,.cons h t,0,y,e=>by
  simp at e
  exact ⟨_,rfl,e ▸ h⟩
 | _,_,.cons h t,i+1,y,e=>by
  obtain ⟨x,a,b⟩:=vB t (i:=i) (y:=y) (by simpa using e)
  exact ⟨x,by simpa using a,b⟩
theorem j4 {α:Type} {x:α}:∀ {l:List α},x∈l->∃ j:Nat,l[j]?=some x:=fun h=>let ⟨j,hj,e⟩:=List.getElem_of_mem h;⟨j,by rw [El hj,e]⟩
theorem TabV.same {C:Addr} {H H':Hp} {v:V} {D:Fm} (h:TabV C H v D) (s:Same H H'):TabV C H' v D:=
 let ⟨a,dx,pp,pm,pn,pk,us,e,b,c,d,f,g,i⟩:=h
 ⟨a,dx,pp,pm,pn,pk,us,e,s _ _ b,s _ _ c,s _ _ d,s _ _ f,s _ _ g,dm (fun _ _ h=>KindV.kt (aZ s) h) i⟩
section
variable {P:Program} {w:World} {K:PySem.W.Frag} {mg:Str->Option Value} {base:Heap} {C:Addr}
theorem vC:ay ["self","kind"] ["self","kind"] (am mO):=⟨rfl,rfl,rfl,by decide +kernel,rfl,by decide +kernel,by decide +kernel⟩
theorem sS {f:Addr} {fd:FuncData} (F:Fun K "kind_at" "Table.kind_at" mO f fd) (T:Tc K C):aN P w K mg base cj 1 f fd ["self","kind"] (iE C):=by
 refine F.ok vC (fun vs H Q E h=>?_) (fun cdv A outer s H vs Q E hr h=>?_)
 ·obtain ⟨v,D,z,j,rfl,_⟩:=h
  rfl
 ·obtain ⟨v,D,z,j,rfl,⟨a,dx,pp,pm,pn,pk,us,rfl,ho,hpp,hpm,hpn,hpk,hus⟩,hj,hf,q⟩:=h
  refine ⟨_,af (aT (aq cJ (pv 1) (cb (pv 0) rfl) rfl) (ai bG) aI)
   (ai (av (uO PySem.F.plainAttrs_tuple PySem.F.slot_tuple_index PySem.F.type_tuple_index jc (cb (pv 0) rfl) (aa (pv 1) ac)))),?_⟩
  have hz:z∈D.kinds.map Kn.name:=Ex hj
  refine ⟨_,rfl,_,rfl,a,C,dx,_,_,rfl,ho,T.cl,T.na "kinds" (by decide +kernel),rfl,pn,_,rfl,.inr (SqT.of hpn),rfl,cc _,_,rfl,bi ?_ ?_⟩
  ·show (!iM (.str z) (ae (D.kinds.map Kn.name)))=false
   rw [cW,EK.mpr hz]
   rfl
  ·exact ⟨_,rfl,a,C,dx,_,_,rfl,ho,T.cl,T.na "kinds" (by decide +kernel),rfl,pn,_,rfl,hpn,_,rfl,pn,_,z,j,rfl,rfl,SqT.of hpn,hj,hf,q⟩
theorem Dc:ay ["self","kind"] ["self","kind"] (am i4):=⟨rfl,rfl,rfl,by decide +kernel,rfl,by decide +kernel,by decide +kernel⟩
theorem BI {f:Addr} {fd:FuncData} (F:Fun K "fields_of" "Table.fields_of" i4 f fd) (T:Tc K C) (KA:fb P w K mg base C "kind_at" 1 ["self","kind"] (iE C)):aN P w K mg base cj 2 f fd ["self","kind"] (sR C):=by
 refine F.ok Dc (fun vs H Q E h=>?_) (fun cdv A outer s H vs Q E hr h=>?_)
 ·obtain ⟨v,D,x,rfl,_⟩:=h
  rfl
 ·obtain ⟨v,D,x,rfl,hT,hD,hx,q⟩:=h
  obtain ⟨a,dx,pp,pm,pn,pk,us,rfl,ho,hpp,hpm,hpn,hpk,hus⟩:=id hT
  have hr1:Room 1 _:=hr
  obtain ⟨f1,fd1,M1,F1,B1⟩:=KA
  refine ⟨_,ai (av (aP dq (aP dq (cb (pv 0) rfl) (bQ (pv 0) (aa (pv 1) ac)) (fun _ _=>rfl)) aj (fun _ _=>rfl))),?_⟩
  obtain ⟨j,hj⟩:=j4 hx
  obtain ⟨u,hu,p,tf,b,fu,rfl,hp,htf,hfu,hb⟩:=vB hus hj
  have hjn:(D.kinds.map Kn.name)[j]?=some x.name:=by rw [Eb,hj];rfl
  refine ⟨_,rfl,a,C,dx,_,_,rfl,ho,T.cl,T.na "kinds_known" (by decide +kernel),rfl,_,rfl,a,dx,C,f1,_,fd1,1,["self","kind"],_,rfl,ho,rfl,T.cl,M1,F1,hr1,B1,_,rfl,_,D,x.name,j,rfl,hT,hjn,j3 hD.kn hjn,?_⟩
  exact ⟨pk,us,_,_,rfl,rfl,SqT.of hpk,bE hu,p,_,_,_,rfl,rfl,SqT.of hp,rfl,q tf fu htf hfu⟩
end
end L3
namespace L3
open PySem L2
def dM (D:Fm) (n:Nat) (st:Str):Nat:=if st="place" then D.places.length else if st="mark" then D.marks.length else if st="number" then 2 ^ D.width else n+1
section
variable {P:Program} {w:World} {K:PySem.W.Frag} {mg:Str->Option Value} {base:Heap} {C:Addr}
theorem Ae:ay ["thing","width"] ["thing","width"] (am uQ):=⟨rfl,rfl,rfl,by decide +kernel,rfl,by decide +kernel,by decide +kernel⟩
theorem sT:ay ["table","sort","thing","rows"] ["table","sort","thing","rows"] (am ig):=⟨rfl,rfl,rfl,by decide +kernel,rfl,by decide +kernel,by decide +kernel⟩
end
end L3
namespace L3
open PySem L2
structure Rw where
 k:Kn
 ops:List Nat
def db (l:List Nat):List V:=l.map fun (n:Nat)=>V.int (n:Int)
def iq (D:Fm) (n:Nat) (r:Rw):Prop:=r.k∈D.kinds/\Paired (fun o (f:Str×Str)=>o < dM D n f.2) r.ops r.k.fs
inductive RowV (H:Hp) (u:V) (r:Rw):Prop
 | mk (p t:_):u=.ref p->H p=some (.tup [.str r.k.name,.ref t])->H t=some (.tup (db r.ops))->RowV H u r
theorem RowV.kt {H H':Hp} {u:V} {r:Rw} (k:TupK H H') (h:RowV H u r):RowV H' u r:=let ⟨p,t,a,b,c⟩:=h;⟨p,t,a,k _ _ b,k _ _ c⟩
theorem pX {l:List Nat} {i:Nat} {x:V} (h:(db l)[i]?=some x):∃ o,l[i]?=some o/\x=.int (o:Int):=by
 unfold db at h
 rw [Eb] at h
 cases e:l[i]? with
 | none=>rw [e] at h;cases h
 | some o=>rw [e] at h;exact ⟨o,rfl,(Eg h).symm⟩
structure AR (mg:Str->Option Value):Prop where
 zip:mg "zip"=none
section
variable {P:Program} {w:World} {K:PySem.W.Frag} {mg:Str->Option Value} {base:Heap} {C:Addr}
theorem scIsRow:ay ["table","thing","rows","fields","operands"] ["table","thing","rows"] (am my):=⟨rfl,rfl,rfl,by decide +kernel,rfl,by decide +kernel,by decide +kernel⟩
theorem Af:(["name","sort","number","rows","table"]:List Str).Nodup:=by decide +kernel
end
end L3
namespace L3
open PySem L2
def kH (D:Fm) (st:Str) (i:Nat):Str:=if st="place" then D.places.getD i "" else if st="mark" then D.marks.getD i "" else (toString (i:Int):Str)
def cN (D:Fm) (r:Rw):List Str:=(r.ops.zip r.k.fs).map fun x=>kH D x.2.2 x.1
inductive Ag (C:Addr) (vs:List V) (H:Hp) (Q:VK) (Z3:XK):Prop
 | mk (v D st:_) (i n:Nat):vs=[v,.str st,.int i]->TabV C H v D->D.width<=24->n<=1000->i < dM D n st->Q (.str (kH D st i)) H->Ag C vs H Q Z3
def jf:List Nat:=[98,101,108,108,32]
theorem pY {D:Fm} {n i:Nat} {st:Str} (hw:D.width<=24) (hn:n<=1000) (h:i < dM D n st) (n1:st≠"place") (n2:st≠"mark"):i < 2 ^ 25:=by
 unfold dM at h
 rw [if_neg n1,if_neg n2] at h
 have:2 ^ D.width<=2 ^ 24:=Fe (by decide) hw
 split at h<;>omega
theorem cm {i:Nat} (h:i < 2 ^ 25):((i:Nat):Int).natAbs.log2 < 1920:=by
 rw [Int.natAbs_natCast]
 by_cases h0:i=0
 ·rw [h0];decide
 ·rw [Nat.log2_lt h0]
  exact Er h (Fe (by decide) (by decide))
theorem jv {l:List Str} {i:Nat} (h:i < l.length):(ae l)[i]?=some (.str (l.getD i "")):=by
 unfold ae
 rw [Eb,El h]
 simp [h]
theorem j5 {l:List Str} {i:Nat} (h:i < l.length):l[i]?=some (l.getD i ""):=by
 rw [El h]
 simp [h]
structure Zb (mg:Str->Option Value) (tb:Tok):Prop where
 bell:mg "BELL"=some (.str "bell" tb)
section
variable {P:Program} {w:World} {K:PySem.W.Frag} {mg:Str->Option Value} {base:Heap} {C:Addr} {tb:Tok}
theorem Dd:ay ["table","sort","number"] ["table","sort","number"] (am eM):=⟨rfl,rfl,rfl,by decide +kernel,rfl,by decide +kernel,by decide +kernel⟩
theorem BJ {f:Addr} {fd:FuncData} (F:Fun K "operand_shown" "operand_shown" eM f fd) (T:Tc K C) (B:Bl mg):aN P w K mg base cj 1 f fd ["table","sort","number"] (Ag C):=by
 refine F.ok Dd (fun vs H Q E h=>?_) (fun cdv A outer s H vs Q E hr h=>?_)
 ·obtain ⟨v,D,st,i,n,rfl,_⟩:=h
  rfl
 ·obtain ⟨v,D,st,i,n,rfl,⟨a,dx,pp,pm,pn,pk,us,rfl,ho,hpp,hpm,hpn,hpk,hus⟩,hw,hn,hb,q⟩:=h
  refine ⟨_,af (aT (aq bO (pv 1) ak (aB _)) (ai (av (aP dq (cb (pv 0) rfl) (pv 2) (fun _ _=>rfl)))) aI)
   (af (aT (aq bO (pv 1) ak (aB _)) (ai (av (aP dq (cb (pv 0) rfl) (pv 2) (fun _ _=>rfl)))) aI)
   (ai (av (aM bN (by rfl) B.str bW (aa (pv 2) ac))))),?_⟩
  have hb0:=hb
  refine ⟨_,rfl,rfl,_,rfl,eD (fun h=>?_) (fun h=>?_)⟩
  ·have h':st="place":=V.str.inj (of_decide_eq_true h)
   subst h'
   unfold dM at hb
   unfold kH at q
   rw [if_pos rfl] at hb q
   exact ⟨_,rfl,a,C,dx,_,_,rfl,ho,T.cl,T.na "places" (by decide +kernel),rfl,_,rfl,pp,_,_,_,rfl,rfl,SqT.of hpp,bE (jv hb),q⟩
  have n1:st≠"place":=fun e=>h (decide_eq_true (congrArg V.str e))
  refine ⟨_,rfl,rfl,_,rfl,eD (fun h=>?_) (fun h=>?_)⟩
  ·have h':st="mark":=V.str.inj (of_decide_eq_true h)
   subst h'
   unfold dM at hb
   unfold kH at q
   rw [if_neg n1,if_pos rfl] at hb q
   exact ⟨_,rfl,a,C,dx,_,_,rfl,ho,T.cl,T.na "marks" (by decide +kernel),rfl,_,rfl,pm,_,_,_,rfl,rfl,SqT.of hpm,bE (jv hb),q⟩
  have n2:st≠"mark":=fun e=>h (decide_eq_true (congrArg V.str e))
  unfold kH at q
  rw [if_neg n1,if_neg n2] at q
  exact ⟨_,rfl,_,rfl,cm (pY hw hn hb0 n1 n2),q⟩
theorem scORd:ay ["table","sort","word","names"] ["table","sort","word"] (am fw):=⟨rfl,rfl,rfl,by decide +kernel,rfl,by decide +kernel,by decide +kernel⟩
theorem scRB:ay ["line","rows","number"] ["line","rows"] (am iQ):=⟨rfl,rfl,rfl,by decide +kernel,rfl,by decide +kernel,by decide +kernel⟩
end
end L3
namespace L3
open PySem L2
theorem j6 {D:Fm} {r:Rw} {i o:Nat} {f:Str×Str} (h1:r.ops[i]?=some o) (h2:r.k.fs[i]?=some f):(cN D r)[i]?=some (kH D f.2 o):=by
 unfold cN
 rw [Eb,List.getElem?_zip_eq_some (z:=(o,f)) |>.mpr ⟨h1,h2⟩]
 rfl
theorem gT {D:Fm} {n:Nat} {r:Rw} (h:iq D n r):(cN D r).length=r.k.fs.length:=by
 have:=h.2.length
 unfold cN
 rw [D5,List.length_zip]
 omega
theorem gC {α:Type} {x:α} {r:List α}:uv (x::r) 0=some x:=bE (j:=0) (xs:=x::r) rfl
section
variable {P:Program} {w:World} {K:PySem.W.Frag} {mg:Str->Option Value} {base:Heap} {C:Addr} {tb:Tok}
theorem scRR:ay ["table","line","rows","words","kind","sorts","operands"] ["table","line","rows"] (am gr):=⟨rfl,rfl,rfl,by decide +kernel,rfl,by decide +kernel,by decide +kernel⟩
theorem xV:(["name","sort"]:List Str).Nodup:=by decide +kernel
theorem BK:(["sort","word","table"]:List Str).Nodup:=by decide +kernel
end
end L3
namespace L3
open PySem L2
def cp (z:Str):List Nat:=z.cps.toList
theorem dc (z:Str):S (cp z)=z:=(zI z).symm
theorem ej (l:List Nat):cp (S l)=l:=rfl
theorem gD (l:List Str):(l.map cp).map S=l:=by
 rw [E1]
 refine Eq.trans ?_ (List.map_id l)
 exact List.map_congr_left fun z _=>dc z
theorem dI (sep:List Nat):∀ ts:List (List Nat),(S sep).join (ts.map S)=S (TK.jn sep ts)
 | []=>rfl
 | [t]=>rfl
 | t::u::r=>by
  have ih:=dI sep (u::r)
  show S t++S sep++(S sep).join ((u::r).map S)=S (t++(sep++TK.jn sep (u::r)))
  rw [ih,gx,gx,EU]
theorem yV (c:Nat) (t u:List Nat) (r:List (List Nat)):c∈TK.jn [c] (t::u::r):=by
 show c∈t++([c]++TK.jn [c] (u::r))
 simp
theorem vD {c:Nat}:∀ {a b x y:List Nat},c∉a->c∉b->a++(c::x)=b++(c::y)->a=b/\x=y
 | [],[],x,y,_,_,h=>by simpa using h
 | [],b::bs,x,y,_,hb,h=>by
  simp at h
  exact absurd (h.1 ▸ Ea) hb
 | a::as,[],x,y,ha,_,h=>by
  simp at h
  exact absurd (h.1 ▸ Ea) ha
 | a::as,b::bs,x,y,ha,hb,h=>by
  simp at h
  obtain ⟨h1,h2⟩:=h
  obtain ⟨h3,h4⟩:=vD (a:=as) (b:=bs) (fun z=>ha (Ee _ z)) (fun z=>hb (Ee _ z)) h2
  exact ⟨by rw [h1,h3],h4⟩
theorem vE {c:Nat}:∀ {a b:List (List Nat)},a≠[]->b≠[]->(∀ t∈a,c∉t)->(∀ t∈b,c∉t)->TK.jn [c] a=TK.jn [c] b->a=b
 | [],_,h,_,_,_,_=>absurd rfl h
 | _,[],_,h,_,_,_=>absurd rfl h
 | [t],[u],_,_,_,_,h=>by
  have:t=u:=h
  rw [this]
 | [t],u::v::r,_,_,ha,_,h=>by
  have h1:t=TK.jn [c] (u::v::r):=h
  exact absurd (h1 ▸ yV c u v r) (ha t Ea)
 | t::s::q,[u],_,_,_,hb,h=>by
  have h1:TK.jn [c] (t::s::q)=u:=h
  exact absurd (h1 ▸ yV c t s q) (hb u Ea)
 | t::s::q,u::v::r,_,_,ha,hb,h=>by
  have h1:t++(c::TK.jn [c] (s::q))=u++(c::TK.jn [c] (v::r)):=h
  obtain ⟨h2,h3⟩:=vD (ha t Ea) (hb u Ea) h1
  have:=vE (a:=s::q) (b:=v::r) (by simp) (by simp) (fun z hz=>ha z (Ee _ hz)) (fun z hz=>hb z (Ee _ hz)) h3
  rw [h2,this]
theorem vF (c:Nat) (ts:List (List Nat)) (h0:TK.jn [c] ts≠[]) (hf:∀ t∈ts,c∉t):Txt.split (S (TK.jn [c] ts)) (S [c])=ts.map S:=by
 have h1:=StrLaws.join_split (S (TK.jn [c] ts)) (S [c])
 have h2:=StrLaws.split_free (S (TK.jn [c] ts)) c
 have hS:(⟨#[c]⟩:Str)=S [c]:=rfl
 rw [hS] at h2
 generalize Txt.split (S (TK.jn [c] ts)) (S [c])=ps at h1 h2
 have h3:=gD ps
 rw [<-h3,dI] at h1
 have h4:TK.jn [c] (ps.map cp)=TK.jn [c] ts:=by
  have:=congrArg cp h1
  rw [ej,ej] at this
  exact this
 have n1:ps.map cp≠[]:=by
  intro e
  rw [e] at h4
  exact h0 h4.symm
 have n2:ts≠[]:=by
  intro e
  rw [e] at h0
  exact h0 rfl
 have h5:=vE n1 n2 (fun t ht=>by
  obtain ⟨p,hp,rfl⟩:=ED.mp ht
  exact h2 p hp) hf h4
 rw [<-h5,h3]
theorem i5 (sep:List Nat):∀ ts:List (List Nat),(TK.jn sep ts).length<=(ts.map List.length).sum+ts.length*sep.length
 | []=>by simp [TK.jn]
 | [t]=>by simp [TK.jn]
 | t::u::r=>by
  have ih:=i5 sep (u::r)
  show (t++(sep++TK.jn sep (u::r))).length<=_
  rw [D9,D9]
  simp only [Ek,List.sum_cons,D8] at ih ⊢
  have:(r.length+1+1)*sep.length=(r.length+1)*sep.length+sep.length:=by rw [Nat.add_mul (r.length+1) 1,Nat.one_mul]
  omega
theorem fE (k:Nat):∀ ts:List (List Nat),(∀ t∈ts,t.length<=k)->(ts.map List.length).sum<=ts.length*k
 | [],_=>by simp
 | t::r,h=>by
  have ih:=fE k r (fun t ht=>h t (Ee _ ht))
  have:=h t Ea
  simp only [Ek,List.sum_cons,D8]
  have:(r.length+1)*k=r.length*k+k:=by rw [Nat.add_mul,Nat.one_mul]
  omega
theorem i6:(" ":Str)=S [32]:=by decide +kernel
theorem vG:("\n":Str)=S [10]:=by decide +kernel
end L3
namespace L3
open PySem L2
abbrev pZ:Stmt:=cK (cY 37) 0
def BM (t:Addr) (vb:V):List (Str×V):=[("rows",.ref t),("bell",vb)]
structure Pc (K:PySem.W.Frag) (C:Addr):Prop where
 cl:Cls K C
 n1:NoAttr K C "rows"
 n2:NoAttr K C "bell"
def De:Option Nat->V
 | none=>.non
 | some n=>.int (n:Int)
inductive vH (Cp:Addr) (H:Hp) (v:V) (rs:List Rw) (bl:Option Nat):Prop
 | mk (a dx t us:_):v=.ref a->H a=some (.ins Cp dx (BM t (De bl)))->H t=some (.tup us)->Paired (RowV H) us rs->vH Cp H v rs bl
inductive mP (Cp:Addr) (vs:List V) (H:Hp) (Q:VK) (Z3:XK):Prop
 | mk (x dx l us vb:_):vs=[.ref x,.ref l,vb]->H x=some (.ins Cp dx [])->H l=some (.lst us)->(∀ t H',H' x=some (.ins Cp dx (BM t vb))->H t=none->H' t=some (.tup us)->ButO x H H'->Q .non H')->mP Cp vs H Q Z3
structure Zr (mg:Str->Option Value) (tm:Tok):Prop where
 mr:mg "MOST_ROWS"=some (.int 40 tm)
section
variable {P:Program} {w:World} {K:PySem.W.Frag} {mg:Str->Option Value} {base:Heap} {C Cp:Addr} {tb tm:Tok}
theorem xW:ay ["self","rows","bell"] ["self","rows","bell"] (am pZ):=⟨rfl,rfl,rfl,by decide +kernel,rfl,by decide +kernel,by decide +kernel⟩
theorem vI {f:Addr} {fd:FuncData} (F:Fun K "__init__" "Program.__init__" pZ f fd) (T:Pc K Cp) (B:Bl mg):aN P w K mg base cj 1 f fd ["self","rows","bell"] (mP Cp):=by
 refine F.ok xW (fun vs H Q E h=>?_) (fun cdv A outer s H vs Q E hr h=>?_)
 ·obtain ⟨x,dx,l,us,vb,rfl,_⟩:=h
  rfl
 ·obtain ⟨x,dx,l,us,vb,rfl,hx,hl,q⟩:=h
  refine ⟨_,af (dn (pv 0) (aM bF (by rfl) B.tuple bH (aa (pv 1) ac)) rfl) (ai (dn (pv 0) (pv 2) rfl)),?_⟩
  refine ⟨_,rfl,l,us,rfl,.inl ⟨SqL.of hl,fun t nt=>?_⟩⟩
  have s1:=ag (o:=.tup us) nt
  have e1:(ax H t (.tup us)) t=some (.tup us):=ad
  have x1:=s1 _ _ hx
  have tx:t≠x:=by
   rintro rfl
   rw [nt] at hx
   cases hx
  generalize ax H t (.tup us)=H1 at *
  refine ⟨_,rfl,x,Cp,dx,_,rfl,x1,T.cl,T.n1,(by show 0 < 1000;decide),?_⟩
  refine ⟨_,rfl,_,rfl,x,Cp,dx,_,rfl,ad,T.cl,T.n2,(by show 1 < 1000;decide),?_⟩
  refine q t _ ?_ nt ?_ ?_
  ·rw [ad]
   rfl
  ·rw [ao tx,ao tx]
   exact e1
  ·intro b o e nb
   rw [ao nb,ao nb]
   exact s1 _ _ e
end
end L3
namespace L3
open PySem L2
structure xX (D:Fm):Prop where
 pl:∀ z∈D.places,NameS z
 mrk:∀ z∈D.marks,NameS z
 kn:∀ x∈D.kinds,NameS x.name
def cr (D:Fm) (r:Rw):List (List Nat):=(r.k.name::cN D r).map cp
def j7 (D:Fm) (r:Rw):List Nat:=TK.jn [32] (cr D r)
def jg:Option Nat->List (List Nat)
 | none=>[]
 | some b=>[jf++dg b]
def dz (D:Fm) (rs:List Rw) (bl:Option Nat):List (List Nat):=jg bl++rs.map (j7 D)
def vJ (D:Fm) (rs:List Rw) (bl:Option Nat):List Nat:=TK.jn [10] (dz D rs bl)
def cD (ts:List (List Nat)):List V:=ts.map fun t=>V.str (S t)
theorem NameS.len {z:Str} (h:NameS z):(cp z).length<=8:=by
 have:=h.2.2.1
 have e:z.length=(cp z).length:=by unfold cp;simp [Str.length]
 omega
theorem NameS.pos {z:Str} (h:NameS z):1<=(cp z).length:=by
 have:=h.2.1
 have e:z.length=(cp z).length:=by unfold cp;simp [Str.length]
 omega
theorem mQ (b:Nat):(Str.empty++("bell":Str)++(" ":Str)++(toString (b:Int):Str))=S (jf++dg b):=by
 have e:(Str.empty++("bell":Str)++(" ":Str))=S jf:=by decide +kernel
 rw [e,dk,gx]
theorem on {l:List Str} {i:Nat} (h:i < l.length):l.getD i ""∈l:=Ex (j5 h)
theorem sU {D:Fm} (hN:xX D) {n i:Nat} {st:Str} (hw:D.width<=24) (hn:n<=1000) (h:i < dM D n st):(cp (kH D st i)).length<=8/\∀ c∈cp (kH D st i),(97<=c/\c<=122)\/(48<=c/\c<=57):=by
 have h0:=h
 unfold kH
 by_cases h1:st="place"
 ·subst h1
  rw [if_pos rfl]
  unfold dM at h
  rw [if_pos rfl] at h
  have:=hN.pl _ (on h)
  exact ⟨this.len,fun c hc=>.inl (this.2.2.2 c hc)⟩
 rw [if_neg h1]
 by_cases h2:st="mark"
 ·subst h2
  rw [if_pos rfl]
  unfold dM at h
  rw [if_neg h1,if_pos rfl] at h
  have:=hN.mrk _ (on h)
  exact ⟨this.len,fun c hc=>.inl (this.2.2.2 c hc)⟩
 rw [if_neg h2,dk,ej]
 have:=pY hw hn h0 h1 h2
 exact ⟨(dZ i).2 8 (by decide) (by omega),fun c hc=>.inr (j2 i c hc)⟩
theorem sV {D:Fm} {n:Nat} {r:Rw} (h:iq D n r) {z:Str} (hz:z∈cN D r):∃ st i,z=kH D st i/\i < dM D n st:=by
 obtain ⟨i,hi⟩:=j4 hz
 have hl:=(D7.mp hi).1
 have e1:=gT h
 have e2:=h.2.length
 have ho:i < r.ops.length:=by omega
 have hf:i < r.k.fs.length:=by omega
 have h1:=El ho
 have h2:=El hf
 have h3:=j6 (D:=D) h1 h2
 rw [hi] at h3
 obtain ⟨f,hf2,hb⟩:=gV h.2 h1
 rw [h2] at hf2
 cases hf2
 exact ⟨_,_,Eg h3,hb⟩
theorem jw {D:Fm} (hN:xX D) {n:Nat} {r:Rw} (hw:D.width<=24) (hn:n<=1000) (h:iq D n r):∀ t∈cr D r,t.length<=8/\∀ c∈t,(97<=c/\c<=122)\/(48<=c/\c<=57):=by
 intro t ht
 obtain ⟨z,hz,rfl⟩:=ED.mp ht
 rcases Ej.mp hz with rfl|hz
 ·have:=hN.kn _ h.1
  exact ⟨this.len,fun c hc=>.inl (this.2.2.2 c hc)⟩
 ·obtain ⟨st,i,rfl,hb⟩:=sV h hz
  exact sU hN hw hn hb
theorem iF {D:Fm} (hD:iD D) {n:Nat} {r:Rw} (h:iq D n r):(cr D r).length<=4:=by
 unfold cr
 rw [D5,D8,gT h]
 have:=(hD.kf _ h.1).2
 omega
theorem vK {D:Fm} (hD:iD D) (hN:xX D) {n:Nat} {r:Rw} (hw:D.width<=24) (hn:n<=1000) (h:iq D n r):(j7 D r).length<=36:=by
 have h1:=i5 [32] (cr D r)
 have h2:=fE 8 (cr D r) fun t ht=>(jw hN hw hn h t ht).1
 have h3:=iF hD h
 unfold j7
 simp only [D8,Ev] at h1
 omega
theorem sW {D:Fm} (hD:iD D) (hN:xX D) {rs:List Rw} {bl:Option Nat} (hw:D.width<=24) (h:∀ r∈rs,iq D rs.length r) (h40:rs.length<=40) (hb:∀ b,bl=some b->b<=40):(∀ t∈dz D rs bl,t.length<=36)/\(dz D rs bl).length<=41:=by
 unfold dz
 have e:(jg bl).length<=1:=by cases bl<;>simp [jg]
 refine ⟨fun t ht=>?_,by rw [D9,D5];omega⟩
 rcases Ez.mp ht with ht|ht
 ·cases bl with
  | none=>simp [jg] at ht
  | some b=>
   have:t=jf++dg b:=by simpa [jg] using ht
   rw [this,D9]
   have:=(dZ b).2 2 (by decide) (by have:=hb b rfl;omega)
   show 5+_<=36
   omega
 ·obtain ⟨r,hr,rfl⟩:=ED.mp ht
  exact vK hD hN hw (by omega) (h r hr)
theorem vL {D:Fm} (hD:iD D) (hN:xX D) {rs:List Rw} {bl:Option Nat} (hw:D.width<=24) (h:∀ r∈rs,iq D rs.length r) (h40:rs.length<=40) (hb:∀ b,bl=some b->b<=40):((dz D rs bl).map List.length).sum+(dz D rs bl).length*1<=2000:=by
 obtain ⟨h1,h2⟩:=sW hD hN hw h h40 hb
 have:=fE 36 _ h1
 omega
inductive p7 (C:Addr) (Cp:Addr) (vs:List V) (H:Hp) (Q:VK) (Z3:XK):Prop
 | mk (v pv D:_) (rs:List Rw) (bl:Option Nat):vs=[v,pv]->TabV C H v D->iD D->xX D->D.width<=24->vH Cp H pv rs bl->(∀ r∈rs,iq D rs.length r)->rs.length<=40->(∀ b,bl=some b->b<=rs.length)->(∀ H',Same H H'->Q (.str (S (vJ D rs bl))) H')->p7 C Cp vs H Q Z3
section
variable {P:Program} {w:World} {K:PySem.W.Frag} {mg:Str->Option Value} {base:Heap} {C Cp:Addr} {tb tm:Tok}
theorem scShow:ay ["table","program","lines","kind","operands","sorts","shown"] ["table","program"] (am dh):=⟨rfl,rfl,rfl,by decide +kernel,rfl,by decide +kernel,by decide +kernel⟩
theorem BP:(["sort","number","table"]:List Str).Nodup:=by decide +kernel
set_option maxHeartbeats 8000000 in
theorem xY {f:Addr} {fd:FuncData} (F:Fun K "show_program" "show_program" dh f fd) (T:Tc K C) (Tp:Pc K Cp) (B:Bl mg) (B4:AR mg) (Z:Zb mg tb) (FO:fb P w K mg base C "fields_of" 2 ["self","kind"] (sR C)) (OS:Fn P w K mg base "operand_shown" 1 ["table","sort","number"] (Ag C)):aN P w K mg base cj 3 f fd ["table","program"] (p7 C Cp):=by
 refine F.ok scShow (fun vs H Q E h=>?_) (fun cdv A outer s H vs Q E hr h=>?_)
 ·obtain ⟨v,pv,D,rs,bl,rfl,_⟩:=h
  rfl
 ·obtain ⟨v,pv1,D,rs,bl,rfl,hT,hD,hN,hw,hP,hrs,h40,hbl,q⟩:=h
  have hr1:Room 1 _:=hr.mono (by decide)
  have sz:(100000:Nat)<=sizeLine:=by decide
  obtain ⟨f1,fd1,M1,F1,B1⟩:=FO
  obtain ⟨ap,dp,tr,us,rfl,hap,htr,hus⟩:=id hP
  have lr:=hus.length
  have hb40:∀ b,bl=some b->b<=40:=fun b e=>Ew (hbl b e) h40
  refine ⟨_,bR (fun σ H'=>∃ ll,σ=[some v,some (.ref ap),some (.ref ll),none,none,none,none]/\H ll=none/\Same H H'/\H' ll=some (.lst (cD (jg bl)))) (aw (i:=2) scShow.nd rfl (Or.inl rfl) (dG (aq oX (cb (pv 1) rfl) cz (aB _)) (aV ac) (aV (aa (xw (uP (bo (v:=.str "bell") rfl Z.bell ⟨_,rfl⟩) (zG (uP (cb (pv 1) rfl) zF)))) ac))))
   (af (cS PassesOwn.never rfl (hX (cb (pv 1) rfl)) (c0 rfl (az (ar (i:=3) scShow.nd rfl (Or.inl rfl)) (az (ar (i:=4) scShow.nd rfl (Or.inl rfl)) bD)))
    (af (eZ (i:=5) scShow.nd rfl rfl (N':=["name","sort"]) (ix:=[none,none]) (sc0:=am dh) (N:=["table","program","lines","kind","operands","sorts","shown"]) rfl (by decide +kernel) (hX (bQ (pv 0) (aa (pv 3) ac)))
     (fun C' cl s H fp=>dE (K:=K) (n:=2) rfl rfl (az (ar (i:=0) xV rfl (Or.inl rfl) (.inr rfl)) (az (ar (i:=1) xV rfl (Or.inl rfl) (.inr rfl)) bD))) (fun _ _ _ _ _=>cU) (fun C' cl s H fp=>pv 1))
    (af (eZ (i:=6) scShow.nd rfl rfl (N':=["sort","number","table"]) (ix:=[none,none,some 0]) (sc0:=am dh) (N:=["table","program","lines","kind","operands","sorts","shown"]) rfl (by decide +kernel) (jq false true rfl B4.zip (aa (pv 5) (aa (pv 4) ac)))
     (fun C' cl s H fp=>dE (K:=K) (n:=2) rfl rfl (az (ar (i:=0) BP rfl (Or.inl rfl) (.inr rfl)) (az (ar (i:=1) BP rfl (Or.inl rfl) (.inr rfl)) bD))) (fun _ _ _ _ _=>cU) (fun C' cl s H fp=>aC OS hr1 rfl (aa (pv 2) (aa (pv 0) (aa (pv 1) ac)))))
    (ai (aQ (bX Ep Eu Et bM (pv 2) (aa (bX EE E5 E4 ft ak (aa (aH c8 (aV (aa (pv 3) ac)) (pv 6)) ac)) ac)))))))
   (ai (av (bX EE E5 E4 ft ak (aa (pv 2) ac))))),?_⟩
  refine ⟨?_,?_⟩
  ·rintro σ H1 ⟨ll,rfl,nll,s1,ell⟩
   have hT1:=hT.same s1
   refine ⟨_,rfl,ap,Cp,dp,_,_,rfl,s1 _ _ hap,Tp.cl,Tp.n1,rfl,tr,rfl,⟨_,SqT.of (s1 _ _ htr)⟩,?_⟩
   refine lQ (K:=K) (a:=tr) (xs:=us) (fun i σ H'=>∃ v3 v4 v5 v6:Option V,σ=[some v,some (.ref ap),some (.ref ll),v3,v4,v5,v6]/\Same H H'/\H' ll=some (.lst (cD (dz D (rs.take i) bl)))) ⟨_,_,_,_,rfl,s1,by rw [ell];unfold dz;simp⟩ (fun i σ H' _ ⟨_,_,_,_,_,s',_⟩=>SqT.of (s' _ _ htr)) ?_ ?_
   ·rintro i x σ H2 hx ⟨v3,v4,v5,v6,rfl,s2,el2⟩
    obtain ⟨r,hri,hR⟩:=gV hus hx
    have hRk:=hrs r (Ex hri)
    obtain ⟨hk,hops⟩:=id hRk
    obtain ⟨p,t,rfl,hp,ht⟩:=RowV.kt (aZ s2) hR
    have hT2:=hT.same s2
    obtain ⟨a,dx,pp,pm,pn,pk,ku,rfl,ho,hpp,hpm,hpn,hpk,hku⟩:=id hT2
    have f3:=(hD.kf _ hk).2
    have sl:=gT hRk
    have ol:=hops.length
    refine ⟨p,_,rfl,SqT.of hp,rfl,_,_,rfl,_,_,rfl,rfl,?_⟩
    refine ⟨_,rfl,a,dx,C,f1,_,fd1,2,["self","kind"],_,rfl,ho,rfl,T.cl,M1,F1,hr,B1,_,rfl,_,D,r.k,rfl,hT2,hD,hk,fun tf fu htf hfu=>?_⟩
    have fl:=hfu.length
    refine ⟨tf,rfl,⟨_,SqT.of htf⟩,?_⟩
    refine mv (K:=K) (a:=tf) (xs:=fu) (fun i ys H'=>H'=H2/\ys=ae ((r.k.fs.take i).map (·.2))) ⟨rfl,rfl⟩ (fun i ys H' hi ⟨a1,a2⟩=>by
      subst a1 a2
      refine ⟨SqT.of htf,?_⟩
      unfold ae
      rw [D5,D5,Eh]
      omega) ?_ ?_
    ·rintro i z ys H' hz' ⟨rfl,rfl⟩
     obtain ⟨y,hy,p',rfl,hpp'⟩:=gV hfu hz'
     refine ⟨p',_,rfl,SqT.of hpp',rfl,_,_,rfl,_,_,rfl,rfl,trivial,c9 ?_⟩
     refine ⟨_,rfl,Nx.mk (D7.mp hz').1 ⟨rfl,?_⟩⟩
     rw [EJ,hy]
     unfold ae
     simp
    rintro ys H' ⟨rfl,rfl⟩ ls nls
    rw [fl,EI]
    have s3:=ag (o:=.lst (ae (r.k.fs.map (·.2)))) nls
    have es:(ax H' ls (.lst (ae (r.k.fs.map (·.2))))) ls=some (.lst (ae (r.k.fs.map (·.2)))):=ad
    generalize ax H' ls (.lst (ae (r.k.fs.map (·.2))))=H3 at *
    have hT3:=hT2.same s3
    refine ⟨_,rfl,_,rfl,ls,t,rfl,⟨_,SqL.of es⟩,⟨_,SqT.of (s3 _ _ ht)⟩,?_⟩
    refine mw (b1:=false) (b2:=true) (K:=K) (l1:=ls) (l2:=t) (xs:=ae (r.k.fs.map (·.2))) (ys:=db r.ops) (by unfold ae db;rw [D5,D5,D5,ol]) (fun i ys' H'=>Same H3 H'/\ys'=ae ((cN D r).take i)) ⟨Same.refl _,rfl⟩ (fun i ys' H' hi ⟨s1,e1⟩=>⟨SqL.of (s1 _ _ es),SqT.of (s1 _ _ (s3 _ _ ht)),by rw [e1];unfold ae;rw [D5,Eh];omega⟩) ?_ ?_
    ·rintro i x y ys' H4 T1 hx hy nT ⟨s4,rfl⟩
     obtain ⟨fl2,hfl,rfl⟩:∃ g,r.k.fs[i]?=some g/\x=.str g.2:=by
      unfold ae at hx
      rw [Eb,Eb] at hx
      cases e:r.k.fs[i]? with
      | none=>rw [e] at hx;cases hx
      | some g=>rw [e] at hx;exact ⟨g,rfl,(Eg hx).symm⟩
     obtain ⟨o,hoo,rfl⟩:=pX hy
     obtain ⟨fl3,hfl3,hb⟩:=gV hops hoo
     have e2:fl3=fl2:=by
      rw [hfl] at hfl3
      exact (Eg hfl3).symm
     subst e2
     have hsh:=j6 (D:=D) hoo hfl
     have s5:=ag (o:=.tup [.str fl3.2,.int (o:Int)]) nT
     have s45:=s4.trans s5
     refine ⟨T1,_,rfl,SqT.of ad,rfl,_,_,rfl,_,_,rfl,rfl,⟨rfl,trivial⟩,c9 ?_⟩
     refine ⟨_,rfl,_,rfl,_,rfl,_,D,fl3.2,o,rs.length,rfl,hT3.same s45,hw,by omega,hb,?_⟩
     refine Nx.mk (D7.mp hx).1 ⟨s45,?_⟩
     rw [EJ,hsh]
     unfold ae
     simp
    rintro ys' H4 ⟨s4,rfl⟩ lo nlo
    have eo:ae ((cN D r).take (ae (r.k.fs.map (·.2))).length)=ae (cN D r):=by
     have:(ae (r.k.fs.map (·.2))).length=(cN D r).length:=by unfold ae;rw [D5,D5,sl]
     rw [this,EI]
    rw [eo]
    have s5:=ag (o:=.lst (ae (cN D r))) nlo
    have e5:(ax H4 lo (.lst (ae (cN D r)))) lo=some (.lst (ae (cN D r))):=ad
    generalize ax H4 lo (.lst (ae (cN D r)))=H5 at *
    have s25:=(s3.trans s4).trans s5
    refine ⟨_,rfl,.inl ⟨rfl,_,SqL.of (s25 _ _ el2)⟩,?_⟩
    refine ⟨rfl,_,rfl,(by show 1<=sizeLine;decide),fun lk nlk=>?_⟩
    have s6:=ag (o:=.lst [.str r.k.name]) nlk
    have e6:(ax H5 lk (.lst [.str r.k.name])) lk=some (.lst [.str r.k.name]):=ad
    generalize ax H5 lk (.lst [V.str r.k.name])=H6 at *
    refine ⟨_,rfl,lk,lo,_,_,rfl,rfl,e6,s6 _ _ e5,?_,fun lc nlc=>?_⟩
    ·unfold ae
     simp only [D8,Ev,D5]
     omega
    have ec:[V.str r.k.name]++ae (cN D r)=(cr D r).map fun t=>V.str (S t):=by
     unfold cr ae
     rw [E1]
     show (r.k.name::cN D r).map V.str=_
     refine List.map_congr_left fun z _=>?_
     show V.str z=V.str (S (cp z))
     rw [dc]
    rw [ec]
    have s7:=ag (o:=.lst ((cr D r).map fun t=>V.str (S t))) nlc
    have e7:(ax H6 lc (.lst ((cr D r).map fun t=>V.str (S t)))) lc=some (.lst ((cr D r).map fun t=>V.str (S t))):=ad
    generalize ax H6 lc (.lst ((cr D r).map fun t=>V.str (S t)))=H7 at *
    have s27:=(s25.trans s6).trans s7
    have hrl:=jw hN hw (by omega:rs.length<=1000) hRk
    refine ⟨[32],lc,cr D r,congrArg V.str i6,rfl,SqL.of e7,?_,?_⟩
    ·have h1:=fE 8 (cr D r) fun t ht=>(hrl t ht).1
     have h2:=iF hD hRk
     simp only [D8,Ev]
     omega
    have el7:=s27 _ _ el2
    refine ⟨ll,_,_,rfl,rfl,el7,?_,?_⟩
    ·unfold cD
     rw [D5]
     unfold dz
     rw [D9,D5,Eh]
     have:(jg bl).length<=1:=by cases bl<;>simp [jg]
     omega
    refine ⟨_,_,_,_,rfl,bY nll (s2.trans s27),?_⟩
    rw [ad]
    congr 2
    unfold dz cD
    rw [EJ,hri]
    simp
    rfl
   ·rintro σ H2 ⟨v3,v4,v5,v6,rfl,s2,el2⟩
    rw [lr,EI] at el2
    refine ⟨rfl,_,rfl,[10],ll,dz D rs bl,congrArg V.str vG,rfl,SqL.of el2,?_,q _ s2⟩
    have:=vL hD hN hw hrs h40 hb40
    simp only [D8,Ev]
    omega
  ·refine ⟨_,rfl,ap,Cp,dp,_,_,rfl,hap,Tp.cl,Tp.n2,rfl,rfl,_,rfl,?_⟩
   cases bl with
   | none=>
    refine gh ⟨(by show 0<=sizeLine;decide),fun ll nll=>?_⟩
    exact ⟨ll,rfl,nll,ag nll,ad⟩
   | some b=>
    have hb:=hb40 b rfl
    refine cA ?_
    refine .inr ⟨_,rfl,by decide +kernel,by decide +kernel,by decide +kernel,_,rfl,ap,Cp,dp,_,_,rfl,hap,Tp.cl,Tp.n2,rfl,.inl ⟨_,rfl,cm (by omega),?_,?_,(by show 1<=sizeLine;decide),fun ll nll=>?_⟩⟩
    ·rw [mQ,aR,D9]
     have:=(dZ b).2 2 (by decide) (by omega)
     show 5+_<=_
     omega
    ·rw [mQ,aR,D9]
     have:=(dZ b).2 2 (by decide) (by omega)
     show 5+_<=_
     omega
    ·rw [mQ]
     exact ⟨ll,rfl,nll,ag nll,ad⟩
end
end L3
namespace L3
open PySem L2
theorem Ah {sep t:List Nat} {r:List (List Nat)} (h:t≠[]):TK.jn sep (t::r)≠[]:=by
 cases r with
 | nil=>exact h
 | cons u r=>
  intro e
  have e':t++(sep++TK.jn sep (u::r))=[]:=e
  exact h (List.append_eq_nil_iff.mp e').1
section
variable {P:Program} {w:World} {K:PySem.W.Frag} {mg:Str->Option Value} {base:Heap} {C Cp:Addr} {tb tm:Tok}
theorem scRP:ay ["table","text","lines","ahead","many","bell","rows","at","line","row"] ["table","text"] (am fv):=⟨rfl,rfl,rfl,by decide +kernel,rfl,by decide +kernel,by decide +kernel⟩
end
end L3
namespace L3
open PySem L2
def stems:List (List Nat):=[[],[115,101,116],[105,102],[116,111,112],[110,101,120,116],[98],[103,111],[99,97,108,108]]
def j8 (fi k:Nat):List Nat:=[([113,118,106,121,122]:List Nat).getD ((fi+2*k) % 5) 0]++List.replicate (k / 5) 97
def BQ (stem:List Nat) (way fi k:Nat):List Nat:=if way=0 then stem++j8 fi k else if way=1 then j8 fi k++stem else stem.take (k % (stem.length+1))++j8 fi k
def bx (si way fi m:Nat):List (List Nat):=(List.range m).map (BQ (stems.getD si []) way fi)
def ownC:List (List Nat):=ownL.map cp
def DE (t:List Nat):Bool:=decide (1<=t.length) && decide (t.length<=8) && !ownC.contains t && t.all fun c=>decide (97<=c) && decide (c<=122)
def Cs:List (List Nat)->Bool
 | []=>true
 | t::r=>!r.contains t && Cs r
theorem vM:∀ {l:List (List Nat)},Cs l=true->l.Nodup
 | [],_=>List.nodup_nil
 | t::r,h=>by
  unfold Cs at h
  simp at h
  exact Fk.mpr ⟨h.1,vM h.2⟩
theorem xZ:((List.range 8).all fun si=>(List.range 3).all fun way=>(List.range 5).all fun fi=>Cs (bx si way fi 10) && (bx si way fi 10).all DE)=true:=by decide +kernel
theorem oo {si way fi:Nat} (h1:si < 8) (h2:way < 3) (h3:fi < 5):(bx si way fi 10).Nodup/\∀ t∈bx si way fi 10,1<=t.length/\t.length<=8/\t∉ownC/\∀ c∈t,97<=c/\c<=122:=by
 have h:=ER.mp (ER.mp (ER.mp xZ si (Fb.mpr h1)) way (Fb.mpr h2)) fi (Fb.mpr h3)
 obtain ⟨ha,hb⟩:=Bool.and_eq_true_iff.mp h
 refine ⟨vM ha,fun t ht=>?_⟩
 have ho:=ER.mp hb t ht
 unfold DE at ho
 simp only [EB,decide_eq_true_eq,ER,Bool.not_eq_true'] at ho
 obtain ⟨⟨⟨h4,h5⟩,h6⟩,h7⟩:=ho
 refine ⟨h4,h5,fun hm=>?_,h7⟩
 rw [EK.mpr hm] at h6
 cases h6
theorem oq {si way fi m:Nat} (h:m<=10):bx si way fi m=(bx si way fi 10).take m:=by
 unfold bx
 rw [<-List.map_take,List.take_range,Fh h]
inductive j9 (vs:List V) (H:Hp) (Q:VK) (Z3:XK):Prop
 | mk (p:Addr) (m:Nat):vs=[.ref p,.int m]->Strm H p->m<=10->(∀ (l:Addr) H' (si way fi:Nat),si < 8->way < 3->fi < 5->Strm H' p->But p H H'->H l=none->H' l=some (.lst (cD (bx si way fi m)))->Q (.ref l) H')->j9 vs H Q Z3
theorem x6 {si:Nat} (h:si < 8):([("":Str),"set","if","top","next","b","go","call"].map V.str)[si]?=some (.str (S (stems.getD si []))):=by
 have e:([("":Str),"set","if","top","next","b","go","call"]:List Str)=stems.map S:=by decide +kernel
 rw [e,E1,Eb]
 have hl:si < stems.length:=h
 rw [El hl]
 simp [hl]
theorem vN (si:Nat):(stems.getD si []).length<=4:=by
 by_cases h:si < 8
 ·revert si;decide +kernel
 ·have:stems.getD si []=[]:=by
   rw [List.getD_eq_getElem?_getD,List.getElem?_eq_none (by show 8<=si;omega)]
   rfl
  rw [this];simp
section
variable {P:Program} {w:World} {K:PySem.W.Frag} {mg:Str->Option Value} {base:Heap} {C Cp:Addr} {tb tm:Tok}
theorem scLNames:ay ["_law_stream_here","_law_many","_law_stem","_law_way","_law_first","_law_names_here","_law_k","_law_tail"] ["_law_stream_here","_law_many"] (am pA):=⟨rfl,rfl,rfl,by decide +kernel,rfl,by decide +kernel,by decide +kernel⟩
set_option maxHeartbeats 4000000 in
theorem sX {f:Addr} {fd:FuncData} (F:Fun K "_law_names" "_law_names" pA f fd) (B:Bl mg) (TK':Fn P w K mg base "_law_take" 1 ["_law_stream_here","_law_many"] gy):aN P w K mg base cj 2 f fd ["_law_stream_here","_law_many"] j9:=by
 refine F.ok scLNames (fun vs H Q E h=>?_) (fun cdv A outer s H vs Q E hr h=>?_)
 ·obtain ⟨p,m,rfl,_⟩:=h
  rfl
 ·obtain ⟨p,m,rfl,hp,hm,q⟩:=h
  have sz:(100000:Nat)<=sizeLine:=by decide
  refine ⟨_,af (aw (i:=2) scLNames.nd rfl (Or.inl rfl) (aP aK (aV (aa ak (aa ak (aa ak (aa ak (aa ak (aa ak (aa ak (aa ak ac))))))))) (aC TK' hr rfl (aa (pv 0) (aa aj ac))) (fun _ _=>rfl)))
   (af (aw (i:=3) scLNames.nd rfl (Or.inl rfl) (aC TK' hr rfl (aa (pv 0) (aa aj ac))))
   (af (aw (i:=4) scLNames.nd rfl (Or.inl rfl) (aC TK' hr rfl (aa (pv 0) (aa aj ac))))
   (af (aw (i:=5) scLNames.nd rfl (Or.inl rfl) (aV ac))
   (af (cS PassesOwn.never rfl (eQ rfl B.range (aa (pv 1) ac)) (ar (i:=6) scLNames.nd rfl (Or.inl rfl))
    (af (aw (i:=7) scLNames.nd rfl (Or.inl rfl) (aH bT (aP fY ak (aH fQ (aH bS (pv 4) (aH fP aj (pv 6))) aj) (fun _ _=>rfl)) (aH qI ak (aH qu (pv 6) aj))))
    (ai (aT (aq bO (pv 3) aj (aB _)) (ai (aQ (bX Ep Eu Et bM (pv 5) (aa (aH bT (pv 2) (pv 7)) ac))))
     (ai (aT (aq bO (pv 3) aj (aB _)) (ai (aQ (bX Ep Eu Et bM (pv 5) (aa (aH bT (pv 7) (pv 2)) ac))))
      (ai (aQ (bX Ep Eu Et bM (pv 5) (aa (aH bT (ci jO (pv 2) dD (bZ (aH fQ (pv 6) (aH bS (au bA (by rfl) B.len Ei (aa (pv 2) ac)) aj)))) (pv 7)) ac))))))))))
   (ai (av (pv 5))))))),?_⟩
  refine ⟨(by show 8<=sizeLine;decide),fun l8 n8=>?_⟩
  have s1:=ag (o:=.lst ([("":Str),"set","if","top","next","b","go","call"].map V.str)) n8
  have hp1:=hp.same s1
  have e8:(ax H l8 (.lst ([("":Str),"set","if","top","next","b","go","call"].map V.str))) l8=some (.lst ([("":Str),"set","if","top","next","b","go","call"].map V.str)):=ad
  refine ⟨_,rfl,p,8,rfl,hp1,by decide,by decide,fun si H2 hsi g2 b2=>?_⟩
  have n8p:=hp.ne n8
  refine ⟨l8,_,_,_,rfl,rfl,SqL.of (b2 _ _ e8 n8p.symm),bE (x6 hsi),?_⟩
  have b02:But p H H2:=(iX s1).trans b2
  refine ⟨_,rfl,p,3,rfl,g2,by decide,by decide,fun way H3 hway g3 b3=>?_⟩
  refine ⟨_,rfl,p,5,rfl,g3,by decide,by decide,fun fi H4 hfi g4 b4=>?_⟩
  have b04:But p H H4:=b02.trans (b3.trans b4)
  clear b02 b2 b3 b4 g2 g3
  refine ⟨(by show 0<=sizeLine;decide),fun ln nln=>?_⟩
  have s5:=ag (o:=.lst []) nln
  have e5:(ax H4 ln (.lst [])) ln=some (.lst []):=ad
  have g5:=g4.same s5
  have pln:p≠ln:=g4.ne nln
  have nH:H ln=none:=by
   cases h:H ln with
   | none=>rfl
   | some o=>
    have:=b04 _ _ h pln.symm
    rw [nln] at this
    cases this
  have b05:But p H (ax H4 ln (.lst [])):=b04.same s5
  generalize ax H4 ln (.lst ([]:List V))=H5 at *
  refine ⟨_,rfl,_,rfl,by omega,by omega,?_⟩
  rw [show ((m:Int)).toNat=m from E6 m]
  have sl:=vN si
  refine gK (lo:=0) (n:=m) (fun i σ H'=>∃ v6 v7:Option V,σ=[some (.ref p),some (.int m),some (.str (S (stems.getD si []))),some (.int way),some (.int fi),some (.ref ln),v6,v7]/\Strm H' p/\But p H H'/\H' ln=some (.lst (cD (bx si way fi i)))) ⟨_,_,rfl,g5,b05,e5⟩ ?_ ?_
  ·rintro k σ H6 hk ⟨v6,v7,rfl,g6,b6,e6⟩
   have hk':k < m:=hk
   have e0:((0:Int)+(k:Int))=(k:Int):=by omega
   rw [e0]
   have hmod:((fi:Int)+2*(k:Int)) % 5=(((fi+2*k) % 5:Nat):Int):=by omega
   have hdiv:(k:Int) / 5=((k / 5:Nat):Int):=by omega
   have hq5:(fi+2*k) % 5 < 5:=Nat.mod_lt _ (by decide)
   have qat:∀ j < 5,("qvjyz":Str).cps.toList[j]?=some (([113,118,106,121,122]:List Nat).getD j 0):=by decide +kernel
   have tlen:(j8 fi k).length<=3:=by
    unfold j8
    rw [D9,Fc]
    simp
    omega
   refine ⟨_,rfl,_,rfl,_,_,rfl,rfl,.inl ⟨by decide,by decide⟩,_,_,rfl,rfl,_,_,rfl,rfl,(by show (0:Int) < 5;decide),?_⟩
   refine ⟨"qvjyz",_,_,rfl,rfl,by decide +kernel,by show uv _ (((fi:Int)+2*(k:Int)) % 5)=_;rw [hmod];exact bE (qat _ hq5),?_⟩
   refine ⟨_,rfl,_,_,rfl,rfl,⟨by show (0:Int) < 5;decide,by show (5:Int) < 1073741824;decide⟩,?_⟩
   refine ⟨97,k / 5,congrArg V.str (by decide +kernel),congrArg V.int hdiv,by omega,?_⟩
   refine ⟨_,_,rfl,rfl,?_,?_⟩
   ·show 1+(S _).length<=_
    rw [aR,Fc]
    omega
   have et:((⟨#[([113,118,106,121,122]:List Nat).getD ((fi+2*k) % 5) 0]⟩:Str)++S (List.replicate (k / 5) 97))=S (j8 fi k):=gx [_] _
   rw [et]
   have fin:∀ nm,nm=BQ (stems.getD si []) way fi k->∃ v6 v7:Option V,[some (V.ref p),some (.int m),some (.str (S (stems.getD si []))),some (.int way),some (.int fi),some (.ref ln),some (.int k),some (.str (S (j8 fi k)))]=[some (.ref p),some (.int m),some (.str (S (stems.getD si []))),some (.int way),some (.int fi),some (.ref ln),v6,v7]/\Strm (ax H6 ln (.lst (cD (bx si way fi k)++[.str (S nm)]))) p/\But p H (ax H6 ln (.lst (cD (bx si way fi k)++[.str (S nm)])))/\(ax H6 ln (.lst (cD (bx si way fi k)++[.str (S nm)]))) ln=some (.lst (cD (bx si way fi (k+1)))):=by
    rintro nm rfl
    refine ⟨_,_,rfl,?_,?_,?_⟩
    ·obtain ⟨x,y,z,e⟩:=g6
     exact ⟨x,y,z,by rw [ao pln];exact e⟩
    ·intro b o e nb
     rw [ao (aG e nH)]
     exact b6 _ _ e nb
    ·rw [ad]
     unfold bx cD
     rw [List.range_succ,Ed,Ed]
     rfl
   have lnm:(cD (bx si way fi k)).length < sizeLine:=by
    unfold cD bx
    rw [D5,D5,List.length_range]
    omega
   refine ⟨_,rfl,rfl,_,rfl,eD (fun h=>?_) (fun h=>?_)⟩
   ·have h':(way:Int)=0:=V.int.inj (of_decide_eq_true h)
    have hw0:way=0:=by omega
    refine ⟨_,rfl,.inl ⟨rfl,_,SqL.of e6⟩,_,rfl,_,rfl,_,_,rfl,rfl,by rw [aR,aR];omega,ln,_,_,rfl,rfl,e6,lnm,?_⟩
    rw [gx]
    exact fin _ (by unfold BQ;rw [if_pos hw0])
   have nw0:way≠0:=fun e=>h (decide_eq_true (by rw [e];rfl))
   refine ⟨_,rfl,rfl,_,rfl,eD (fun h=>?_) (fun h=>?_)⟩
   ·have h':(way:Int)=1:=V.int.inj (of_decide_eq_true h)
    have hw1:way=1:=by omega
    refine ⟨_,rfl,.inl ⟨rfl,_,SqL.of e6⟩,_,rfl,_,rfl,_,_,rfl,rfl,by rw [aR,aR];omega,ln,_,_,rfl,rfl,e6,lnm,?_⟩
    rw [gx]
    exact fin _ (by unfold BQ;rw [if_neg nw0,if_pos hw1])
   have nw1:way≠1:=fun e=>h (decide_eq_true (by rw [e];rfl))
   refine ⟨_,rfl,.inl ⟨rfl,_,SqL.of e6⟩,_,rfl,_,rfl,_,rfl,_,rfl,by rw [aR];omega,_,_,rfl,rfl,_,_,rfl,rfl,?_,_,rfl,_,rfl,by omega,?_⟩
   ·rw [aR]
    show (0:Int) < ((stems.getD si []).length:Int)+1
    omega
   have hcut:fk (stems.getD si []) none (some ((k:Int) % (((S (stems.getD si [])).length:Int)+1)))=(stems.getD si []).take (k % ((stems.getD si []).length+1)):=by
    rw [aR]
    have e1:(k:Int) % (((stems.getD si []).length:Int)+1)=((k % ((stems.getD si []).length+1):Nat):Int):=by
     rw [Int.natCast_emod]
     rfl
    have hlt:k % ((stems.getD si []).length+1) < (stems.getD si []).length+1:=Nat.mod_lt _ (by omega)
    unfold fk
    rw [e1,HT.sIx_none,HT.sIx_nat,Fh (by omega),Fq,Nat.sub_zero]
   refine ⟨_,rfl,_,_,rfl,rfl,?_,ln,_,_,rfl,rfl,e6,lnm,?_⟩
   ·have:(fk (stems.getD si []) none (some ((k:Int) % (((S (stems.getD si [])).length:Int)+1)))).length<=4:=by
     rw [hcut,Eh]
     omega
    rw [aR,aR]
    exact Ew (Nat.add_le_add this tlen) (by omega)
   ·rw [gx]
    exact fin _ (by unfold BQ;rw [if_neg nw0,if_neg nw1];exact congrArg (·++_) hcut)
  ·rintro σ H6 ⟨v6,v7,rfl,g6,b6,e6⟩
   exact ⟨_,rfl,q ln H6 si way fi hsi hway hfi g6 b6 nH e6⟩
end
end L3
namespace L3
open PySem L2
theorem ka {X:Cx} {K:PySem.W.Frag} (h:X.K=K):AO X (zq K):=by subst h;exact aK
theorem qU {X:Cx} {K:PySem.W.Frag} (h:X.K=K):AO X (zr K):=by subst h;exact dq
theorem vO {X:Cx} {K:PySem.W.Frag} (h:X.K=K):dW X (.builtin "len") (fun xs H Q=>∃ p ys,xs=[.ref p]/\(SqL K H p ys\/SqT K H p ys)/\Q (.int ys.length) H):=by subst h;exact aA
theorem dN {kvs:List (cq×V)} {k:cq} {y:V}:aY (bh kvs k y) k=some y:=by rw [nU,if_pos rfl]
theorem bn {kvs:List (cq×V)} {k j:cq} {y:V} (h:j≠k):aY (bh kvs k y) j=aY kvs j:=by rw [nU,if_neg h]
theorem bv {H:Hp} {a:Addr} {kvs:List (cq×V)} {z:Str} {v:V} (e:H a=some (.dK kvs)) (h:aY kvs (Sum.inr z)=some v):DGet H a (.str z) (some v):=by
 have:=DGet.k (k:=Sum.inr z) e
 rw [h] at this
 exact this
theorem p9 {α:Type} {x y:α} {r:List α}:uv (x::y::r) 1=some y:=bE (j:=1) (xs:=x::y::r) rfl
theorem qa {p l:Addr} {H H1:Hp} (b:But p H H1) (g:Strm H1 p) (n:H1 l=none):H l=none:=by
 have hl:=g.ne n
 cases e:H l with
 | none=>rfl
 | some o=>
  have:=b _ _ e hl.symm
  rw [n] at this
  cases this
theorem Ai (xs:List V) (n:Nat):eX xs (some (n:Int)) none=xs.drop n:=by
 unfold eX
 rw [HT.sIx_nat,HT.sIx_none]
 by_cases h:n<=xs.length
 ·rw [Fh h]
  exact EC (by rw [EF];omega)
 ·rw [Nat.min_eq_right (by omega),List.drop_of_length_le (Ec _),List.drop_of_length_le (by omega)]
  simp
theorem qb (xs:List V) (n:Nat):eX xs none (some (n:Int))=xs.take n:=by
 unfold eX
 rw [HT.sIx_nat,HT.sIx_none,Fq,Nat.sub_zero]
 by_cases h:n<=xs.length
 ·rw [Fh h]
 ·rw [Nat.min_eq_right (by omega),EC (Ec _),EC (by omega)]
theorem Aj (xs:List V) (n m:Nat) (h:n+m<=xs.length):eX xs (some (n:Int)) (some ((n+m:Nat):Int))=(xs.drop n).take m:=by
 unfold eX
 rw [HT.sIx_nat,HT.sIx_nat,Fh h,Fh (by omega:n<=xs.length),Nat.add_sub_cancel_left]
theorem ot (l:List (List Nat)) (n:Nat):(cD l).drop n=cD (l.drop n):=by unfold cD;rw [List.map_drop]
theorem kc (l:List (List Nat)) (n:Nat):(cD l).take n=cD (l.take n):=by unfold cD;rw [List.map_take]
theorem iG (l:List (List Nat)):cD l=ae (l.map S):=by unfold cD ae;rw [E1];rfl
structure KpV (H:Hp) (d:Addr) (D:Fm) (fn:List Str) (kvs:List (cq×V)) (lf lp lm lk lg:Addr) (ks:List V):Prop where
 dd:H d=some (.dK kvs)
 v1:aY kvs (Sum.inr "width")=some (.int D.width)
 v2:aY kvs (Sum.inr "cells")=some (.int D.cells)
 v3:aY kvs (Sum.inr "depth")=some (.int D.depth)
 v4:aY kvs (Sum.inr "names")=some (.ref lf)
 v5:aY kvs (Sum.inr "places")=some (.ref lp)
 v6:aY kvs (Sum.inr "marks")=some (.ref lm)
 v7:aY kvs (Sum.inr "kinds")=some (.ref lk)
 v8:aY kvs (Sum.inr "gate")=some (.ref lg)
 ef:H lf=some (.lst (ae fn))
 ep:H lp=some (.lst (ae D.places))
 em:H lm=some (.lst (ae D.marks))
 eg:H lg=some (.lst (ae D.gates))
 ek:H lk=some (.lst ks)
 kd:Paired (fun u (x:Kn)=>∃ p l,u=.ref p/\H p=some (.tup [.str x.name,.ref l])/\H l=some (.lst (ae (x.fs.map (·.2))))) ks D.kinds
theorem KpV.same {H H':Hp} {d:Addr} {D:Fm} {fn:List Str} {kvs:List (cq×V)} {lf lp lm lk lg:Addr} {ks:List V} (h:KpV H d D fn kvs lf lp lm lk lg ks) (s:Same H H'):KpV H' d D fn kvs lf lp lm lk lg ks:=
 ⟨s _ _ h.dd,h.v1,h.v2,h.v3,h.v4,h.v5,h.v6,h.v7,h.v8,s _ _ h.ef,s _ _ h.ep,s _ _ h.em,s _ _ h.eg,s _ _ h.ek,dm (fun _ _ ⟨p,l,a,b,c⟩=>⟨p,l,a,s _ _ b,s _ _ c⟩) h.kd⟩
structure fK (D:Fm) (fn:List Str):Prop where
 w4:4<=D.width
 w24:D.width<=24
 ce:D.cells=4
 de:D.depth=0
 fm:iD D
 nm:xX D
 f3:fn.length=3
 fS:∀ z∈fn,NameS z
 p1:1<=D.places.length
 k1:1<=D.kinds.length
 kf:∀ x∈D.kinds,∃ st,x.fs=fn.zip st/\st.length<=3/\∀ s∈st,s∈di/\(s="mark"->1<=D.marks.length)
inductive mS (vs:List V) (H:Hp) (Q:VK) (Z3:XK):Prop
 | mk (p:Addr):vs=[.ref p]->Strm H p->(∀ d H' D fn kvs lf lp lm lk lg ks,But p H H'->KpV H' d D fn kvs lf lp lm lk lg ks->fK D fn->Q (.ref d) H')->mS vs H Q Z3
theorem qV {t:List Nat} (h:1<=t.length/\t.length<=8/\t∉ownC/\∀ c∈t,97<=c/\c<=122):NameS (S t):=by
 obtain ⟨h1,h2,h3,h4⟩:=h
 refine ⟨fun hm=>h3 ?_,by rw [aR];exact h1,by rw [aR];exact h2,h4⟩
 exact ED.mpr ⟨_,hm,ej t⟩
theorem S_inj {a b:List Nat} (h:S a=S b):a=b:=by
 have:=congrArg cp h
 exact this
theorem qW {l:List (List Nat)} (h:l.Nodup):(l.map S).Nodup:=by
 induction h with
 | nil=>exact List.nodup_nil
 | cons hx _ ih=>
  refine Fk.mpr ⟨fun hm=>?_,ih⟩
  obtain ⟨y,hy,e⟩:=ED.mp hm
  exact hx y hy (S_inj e).symm
theorem gE:∀ (a b:List Str),b.length<=a.length->(a.zip b).map (·.1)=a.take b.length
 | _,[],_=>by simp
 | [],_::_,h=>by simp at h
 | x::a,y::b,h=>by
  rw [List.zip_cons_cons,Ek,gE a b (by simpa using h)]
  rfl
theorem cG:∀ (a b:List Str),b.length<=a.length->(a.zip b).map (·.2)=b
 | _,[],_=>by simp
 | [],_::_,h=>by simp at h
 | x::a,y::b,h=>by
  rw [List.zip_cons_cons,Ek,cG a b (by simpa using h)]
theorem jx (l:List Str) (z:Str):(l.map fun y=>(y,z)).map (·.1)=l:=by
 induction l with
 | nil=>rfl
 | cons a r ih=>rw [Ek,Ek,ih]
theorem BR {W A b g si way fi si2 way2 fi2 m2:Nat} {kds:List Kn} (hW:4<=W) (hW2:W<=24) (hA:1<=A) (hA4:A<=4) (hb:b<=3) (hg:g<=1) (h1:si < 8) (h2:way < 3) (h3:fi < 5) (h4:si2 < 8) (h5:way2 < 3) (h6:fi2 < 5) (hm:1<=m2) (hm8:m2<=8)
  (hk:kds.map Kn.name=(bx si2 way2 fi2 m2).map S) (hf:∀ x∈kds,∃ st,x.fs=(((bx si way fi (A+b+3)).drop (A+b)).map S).zip st/\st.length<=3/\∀ s∈st,s∈di/\(s="mark"->1<=b)) :
  fK ⟨W,4,0,((bx si way fi (A+b+3)).take A).map S,(((bx si way fi (A+b+3)).drop A).take b).map S,((((bx si way fi (A+b+3)).drop A).take b).take g).map S,kds⟩ (((bx si way fi (A+b+3)).drop (A+b)).map S):=by
 obtain ⟨nd,gd⟩:=oo h1 h2 h3
 obtain ⟨nd2,gd2⟩:=oo h4 h5 h6
 have e1:=oq (si:=si) (way:=way) (fi:=fi) (m:=A+b+3) (by omega)
 have e2:=oq (si:=si2) (way:=way2) (fi:=fi2) (m:=m2) (by omega)
 have hl:(bx si way fi (A+b+3)).length=A+b+3:=by unfold bx;rw [D5,List.length_range]
 have hl2:(bx si2 way2 fi2 m2).length=m2:=by unfold bx;rw [D5,List.length_range]
 have ndn:(bx si way fi (A+b+3)).Nodup:=by rw [e1];exact nd.sublist (List.take_sublist _ _)
 have gdn:∀ t∈bx si way fi (A+b+3),NameS (S t):=fun t ht=>qV (gd t (by rw [e1] at ht;exact EZ ht))
 have ndn2:(bx si2 way2 fi2 m2).Nodup:=by rw [e2];exact nd2.sublist (List.take_sublist _ _)
 have gdn2:∀ t∈bx si2 way2 fi2 m2,NameS (S t):=fun t ht=>qV (gd2 t (by rw [e2] at ht;exact EZ ht))
 clear e1 e2 nd gd nd2 gd2 h1 h2 h3 h4 h5 h6
 generalize bx si way fi (A+b+3)=nm at *
 generalize bx si2 way2 fi2 m2=nm2 at *
 have lk:kds.length=m2:=by
  have:=congrArg List.length hk
  rw [D5,D5,hl2] at this
  exact this
 have cat:nm.take A++(nm.drop A).take b=nm.take (A+b):=by rw [List.take_add]
 have sub:∀ n,(nm.take A++(nm.drop A).take b)++(nm.drop (A+b)).take n=nm.take (A+b+n):=fun n=>by rw [cat,<-List.take_add]
 have nds:∀ n,((nm.take (A+b+n)).map S).Nodup:=fun n=>qW (ndn.sublist (List.take_sublist _ _))
 refine ⟨hW,hW2,rfl,rfl,⟨?_,?_,?_,?_,?_,?_,?_,?_⟩,⟨?_,?_,?_⟩,?_,?_,?_,?_,?_⟩
 ·unfold iC
  rw [Ed,jx,jx,<-Ed,cat]
  exact nds 0
 ·intro z hz
  obtain ⟨t,ht,rfl⟩:=ED.mp hz
  exact ED.mpr ⟨t,EZ ht,rfl⟩
 ·show (List.map S _).length<=1
  rw [D5,Eh]
  omega
 ·show (List.map Kn.name kds).Nodup
  rw [hk]
  exact qW ndn2
 ·intro x hx
  obtain ⟨st,e,l3,_⟩:=hf x hx
  have lf:((nm.drop (A+b)).map S).length=3:=by rw [D5,EF,hl];omega
  refine ⟨?_,?_⟩
  ·unfold iC
   rw [Ed,Ed,jx,jx,e,gE _ _ (by omega),<-List.map_take,<-Ed,<-Ed,sub]
   exact nds _
  ·rw [e,List.length_zip]
   omega
 ·show (List.map S _).length<=4
  rw [D5,Eh]
  omega
 ·show (List.map S _).length<=3
  rw [D5,Eh]
  omega
 ·show kds.length<=8
  omega
 ·intro z hz
  obtain ⟨t,ht,rfl⟩:=ED.mp hz
  exact gdn t (EZ ht)
 ·intro z hz
  obtain ⟨t,ht,rfl⟩:=ED.mp hz
  exact gdn t (List.mem_of_mem_drop (EZ ht))
 ·intro x hx
  have:x.name∈kds.map Kn.name:=ED.mpr ⟨x,hx,rfl⟩
  rw [hk] at this
  obtain ⟨t,ht,e⟩:=ED.mp this
  rw [<-e]
  exact gdn2 t ht
 ·rw [D5,EF,hl]
  omega
 ·intro z hz
  obtain ⟨t,ht,rfl⟩:=ED.mp hz
  exact gdn t (List.mem_of_mem_drop ht)
 ·show 1<=(List.map S _).length
  rw [D5,Eh]
  omega
 ·show 1<=kds.length
  omega
 ·intro x hx
  obtain ⟨st,e,l3,hs⟩:=hf x hx
  refine ⟨st,e,l3,fun s h=>⟨(hs s h).1,fun em=>?_⟩⟩
  have:=(hs s h).2 em
  show 1<=(List.map S _).length
  rw [D5,Eh,EF]
  omega
end L3
namespace L3
open PySem L2
theorem vP {r:Nat} (h:r < 4):([V.int 1,.int 2,.int 3,.int 8]:List V)[r]?=some (.int (([1,2,3,8]:List Nat).getD r 0:Nat)):=by
 match r,h with
 | 0,_=>rfl
 | 1,_=>rfl
 | 2,_=>rfl
 | 3,_=>rfl
theorem x9 {r:Nat} (h:r < 4):1<=([1,2,3,8]:List Nat).getD r 0/\([1,2,3,8]:List Nat).getD r 0<=8:=by
 match r,h with
 | 0,_=>decide
 | 1,_=>decide
 | 2,_=>decide
 | 3,_=>decide
def srt4:List Str:=["place","number","row","mark"]
def en (b:Nat):Nat:=3+if 0 < b then 1 else 0
theorem ya (b:Nat):(3+(if decide ((b:Int) > 0)=true then 1 else 0):Int)=(en b:Nat):=by
 unfold en
 by_cases h:0 < b
 ·rw [if_pos h,if_pos (decide_eq_true (by omega))]
  rfl
 ·rw [if_neg h,if_neg (by simp;omega)]
  rfl
theorem yb {b:Nat} {s:Str} (h:s∈srt4.take (en b)):s∈di/\(s="mark"->1<=b):=by
 unfold en at h
 by_cases hb:0 < b
 ·refine ⟨?_,fun _=>hb⟩
  have:s∈srt4:=EZ h
  revert this
  show s∈(["place","number","row","mark"]:List Str)->s∈(["place","mark","number","row"]:List Str)
  intro hm
  simp only [Ej,Es,or_false] at hm ⊢
  rcases hm with h|h|h|h<;>simp [h]
 ·rw [if_neg hb] at h
  have h':s∈(["place","number","row"]:List Str):=h
  simp only [Ej,Es,or_false] at h'
  refine ⟨?_,fun em=>?_⟩
  ·show s∈(["place","mark","number","row"]:List Str)
   simp only [Ej,Es,or_false]
   rcases h' with h|h|h<;>simp [h]
  ·rw [em] at h'
   exact absurd h' (by decide +kernel)
theorem yc (b:Nat):(srt4.take (en b)).length=en b/\3<=en b/\en b<=4:=by
 unfold en
 by_cases h:0 < b
 ·rw [if_pos h];exact ⟨rfl,by decide,by decide⟩
 ·rw [if_neg h];exact ⟨rfl,by decide,by decide⟩
theorem qX {H:Hp} {x d:Addr} {l:List V} {k:List (cq×V)} (h:H x=some (.lst l)) (h':H d=some (.dK k)):x≠d:=by
 rintro rfl
 rw [h] at h'
 cases h'
theorem hU {H:Hp} {x y:Addr} {o:HO} (h:H x=some o) (n:H y=none):x≠y:=aG h n
abbrev kS (z:Str):cq:=Sum.inr z
theorem DT (va vb vc vd:V):∃ kv,da [] [(kS "width",va),(kS "cells",vb),(kS "depth",vc),(kS "names",vd)]=kv/\kv.length<=4/\aY kv (kS "width")=some va/\aY kv (kS "cells")=some vb/\aY kv (kS "depth")=some vc/\aY kv (kS "names")=some vd:=by
 refine ⟨_,rfl,cw _ _,?_,?_,?_,?_⟩
 ·show aY (bh (bh (bh (bh [] (kS "width") va) (kS "cells") vb) (kS "depth") vc) (kS "names") vd) _=_
  rw [bn (by decide +kernel),bn (by decide +kernel),bn (by decide +kernel),dN]
 ·show aY (bh (bh (bh (bh [] (kS "width") va) (kS "cells") vb) (kS "depth") vc) (kS "names") vd) _=_
  rw [bn (by decide +kernel),bn (by decide +kernel),dN]
 ·show aY (bh (bh (bh (bh [] (kS "width") va) (kS "cells") vb) (kS "depth") vc) (kS "names") vd) _=_
  rw [bn (by decide +kernel),dN]
 ·show aY (bh (bh (bh (bh [] (kS "width") va) (kS "cells") vb) (kS "depth") vc) (kS "names") vd) _=_
  rw [dN]
theorem DV (kv0:List (cq×V)) (va vb vc:V):∃ kv,da kv0 (da [] [(kS "places",va),(kS "marks",vb),(kS "kinds",vc)])=kv/\kv.length<=kv0.length+3/\aY kv (kS "places")=some va/\aY kv (kS "marks")=some vb/\aY kv (kS "kinds")=some vc /\
  aY kv (kS "width")=aY kv0 (kS "width")/\aY kv (kS "cells")=aY kv0 (kS "cells")/\aY kv (kS "depth")=aY kv0 (kS "depth")/\aY kv (kS "names")=aY kv0 (kS "names"):=by
 have e1:da [] [(kS "places",va),(kS "marks",vb),(kS "kinds",vc)]=([(kS "places",va),(kS "marks",vb),(kS "kinds",vc)]:List (cq×V)):=by
  show bh (bh (bh [] (kS "places") va) (kS "marks") vb) (kS "kinds") vc=_
  have h1:bh ([]:List (cq×V)) (kS "places") va=[(kS "places",va)]:=gp _ rfl
  have h2:bh [(kS "places",va)] (kS "marks") vb=[(kS "places",va),(kS "marks",vb)]:=gp _ (by rw [bP (by show ¬ kS "places"=_;decide +kernel)];rfl)
  rw [h1,h2]
  exact gp _ (by rw [bP (by show ¬ kS "places"=_;decide +kernel),bP (by show ¬ kS "marks"=_;decide +kernel)];rfl)
 rw [e1]
 have e2:da kv0 [(kS "places",va),(kS "marks",vb),(kS "kinds",vc)]=bh (bh (bh kv0 (kS "places") va) (kS "marks") vb) (kS "kinds") vc:=rfl
 refine ⟨_,rfl,cw _ _,?_,?_,?_,?_,?_,?_,?_⟩
 ·rw [e2,bn (by decide +kernel),bn (by decide +kernel),dN]
 ·rw [e2,bn (by decide +kernel),dN]
 ·rw [e2,dN]
 ·rw [e2,bn (by decide +kernel),bn (by decide +kernel),bn (by decide +kernel)]
 ·rw [e2,bn (by decide +kernel),bn (by decide +kernel),bn (by decide +kernel)]
 ·rw [e2,bn (by decide +kernel),bn (by decide +kernel),bn (by decide +kernel)]
 ·rw [e2,bn (by decide +kernel),bn (by decide +kernel),bn (by decide +kernel)]
theorem BS {l:List Str} {i:Nat} (h:i < l.length):(ae l)[i]?=some (.str l[i]):=by unfold ae;rw [Eb,El h];rfl
section
variable {P:Program} {w:World} {K:PySem.W.Frag} {mg:Str->Option Value} {base:Heap} {C Cp:Addr} {tb tm:Tok}
theorem scShape:ay ["_law_stream_here","_law_many","_law_names_here","_law_table","_law_name","_law_sorts"] ["_law_stream_here"] (am mC):=⟨rfl,rfl,rfl,by decide +kernel,rfl,by decide +kernel,by decide +kernel⟩
theorem Df:(["_law_k","_law_sorts","_law_stream_here"]:List Str).Nodup:=by decide +kernel
set_option maxHeartbeats 16000000 in
theorem vQ {f:Addr} {fd:FuncData} (F:Fun K "_law_shape" "_law_shape" mC f fd) (B:Bl mg) (TK':Fn P w K mg base "_law_take" 1 ["_law_stream_here","_law_many"] gy) (LN:Fn P w K mg base "_law_names" 2 ["_law_stream_here","_law_many"] j9):aN P w K mg base cj 3 f fd ["_law_stream_here"] mS:=by
 refine F.ok scShape (fun vs H Q E h=>?_) (fun cdv A outer s H vs Q E hr h=>?_)
 ·obtain ⟨p,rfl,_⟩:=h
  rfl
 ·obtain ⟨p,rfl,hp,q⟩:=h
  have sz:(100000:Nat)<=sizeLine:=by decide
  have hu:=hJ hr
  have hr1:Room 1 _:=hr.mono (by decide)
  refine ⟨_,bR (fun σ H'=>∃ (lmn:Addr) (A b:Nat),σ=[some (.ref p),some (.ref lmn),none,none,none,none]/\Strm H' p/\But p H H'/\H' lmn=some (.lst [.int (A:Nat),.int (b:Nat)])/\p≠lmn/\1<=A/\A<=4/\b<=3) (aw (i:=1) scShape.nd rfl (Or.inl rfl) (aV (aa (aH bS aj (aC TK' hr1 rfl (aa (pv 0) (aa aj ac)))) (aa (aC TK' hr1 rfl (aa (pv 0) (aa aj ac))) ac))))
   (af (aw (i:=2) scShape.nd rfl (Or.inl rfl) (aC LN hr rfl (aa (pv 0) (aa (aH bS (aH bS (aP aK (pv 1) aj (fun _ _=>rfl)) (aP aK (pv 1) aj (fun _ _=>rfl))) aj) ac))))
   (af (aw (i:=3) scShape.nd rfl (Or.inl rfl) (mt (cF ak (aH bS aj (aC TK' hr1 rfl (aa (pv 0) (aa aj ac)))) (cF ak aj (cF ak aj (cF ak (ci dQ (pv 2) (bZ (aH bS (aP aK (pv 1) aj (fun _ _=>rfl)) (aP aK (pv 1) aj (fun _ _=>rfl)))) dD) mq)))) rfl rfl (by intro z;cases z) (by show 4<=15;decide)))
   (af (aQ (xu (pv 3) (mt (cF ak (ci dQ (pv 2) dD (bZ (aP aK (pv 1) aj (fun _ _=>rfl)))) (cF ak (ci dQ (pv 2) (bZ (aP aK (pv 1) aj (fun _ _=>rfl))) (bZ (aH bS (aP aK (pv 1) aj (fun _ _=>rfl)) (aP aK (pv 1) aj (fun _ _=>rfl))))) (cF ak (aV ac) mq))) rfl rfl (by intro z;cases z) (by show 3<=15;decide)) ⟨rfl,rfl,rfl,rfl⟩))
   (af (mo hu (pv 3) ak (ci dQ (br hu (pv 3) ak (fun _ _=>rfl)) dD (bZ (aC TK' hr1 rfl (aa (pv 0) (aa aj ac))))) rfl)
   (af (cS PassesOwn.never rfl (dP (aC LN hr rfl (aa (pv 0) (aa (aP aK (aV (aa aj (aa aj (aa aj (aa aj ac))))) (aC TK' hr1 rfl (aa (pv 0) (aa aj ac))) (fun _ _=>rfl)) ac)))) (ar (i:=4) scShape.nd rfl (Or.inl rfl))
    (af (aw (i:=5) scShape.nd rfl (Or.inr rfl) (ci dQ (aV (aa ak (aa ak (aa ak (aa ak ac))))) dD (bZ (aH bS aj (aM gL (by rfl) B.int EW (aa (cX nC (aP aK (pv 1) aj (fun _ _=>rfl)) aj (aB _)) ac))))))
    (ai (aQ (bX Ep Eu Et bM (br hu (pv 3) ak (fun _ _=>rfl)) (aa (aW (aa (pv 4) (aa (eG (N':=["_law_k","_law_sorts","_law_stream_here"]) (ix:=[none,some 5,some 0]) (sc0:=am mC) (N:=["_law_stream_here","_law_many","_law_names_here","_law_table","_law_name","_law_sorts"]) rfl (by decide +kernel) (eQ rfl B.range (aa (aC TK' hr1 rfl (aa (pv 0) (aa aj ac))) ac))
     (fun C cl s H fp=>ar (i:=0) Df rfl (Or.inl rfl) (.inr rfl)) (fun _ _ _ _ _=>cU) (fun C cl s H fp=>aP (ka (K:=K) rfl) (pv 1) (aC TK' hr1 rfl (aa (pv 2) (aa (au (vO (K:=K) rfl) (by rfl) B.len Ei (aa (pv 1) ac)) ac))) (fun _ _=>rfl))) ac))) ac))))))
   (ai (av (pv 3)))))))),?_⟩
  refine ⟨?_,?_⟩
  ·rintro σ H1 ⟨lmn,A,b,rfl,g1,b1,mn1,pmn,hA1,hA4,hb3⟩
   refine ⟨_,rfl,_,rfl,lmn,_,_,_,rfl,rfl,SqL.of mn1,gC,_,rfl,lmn,_,_,_,rfl,rfl,SqL.of mn1,p9,_,_,rfl,rfl,_,_,rfl,rfl,p,A+b+3,rfl,g1,by omega,fun ln H2 si way fi hsi hway hfi g2 b2 nln e2=>?_⟩
   have b02:=b1.trans b2
   have mn2:=b2 _ _ mn1 pmn.symm
   have pln:p≠ln:=g1.ne nln
   clear b2 g1 b1
   refine fun d nd=>?_
   have s3:=ag (o:=.dK []) nd
   have ed3:(ax H2 d (.dK [])) d=some (.dK []):=ad
   have g3:=g2.same s3
   have pd:p≠d:=g2.ne nd
   have dH:H d=none:=qa b02 g2 nd
   have e3:=s3 _ _ e2
   have mn3:=s3 _ _ mn2
   have b03:=b02.same s3
   generalize ax H2 d (.dK ([]:List (cq×V)))=H3 at *
   refine ⟨_,rfl,p,21,rfl,g3,by decide,by decide,fun w0 H4 hw0 g4 b4=>?_⟩
   have ed4:=b4 _ _ ed3 pd.symm
   have e4:=b4 _ _ e3 pln.symm
   have mn4:=b4 _ _ mn3 pmn.symm
   have b04:=b03.trans b4
   refine ⟨_,_,rfl,rfl,_,rfl,_,rfl,lmn,_,_,_,rfl,rfl,SqL.of mn4,gC,_,rfl,lmn,_,_,_,rfl,rfl,SqL.of mn4,p9,_,_,rfl,rfl,((A+b:Nat):Int),rfl,ln,_,rfl,SqL.of e4,fun lf nlf=>?_⟩
   rw [Ai,ot]
   have s5:=ag (o:=.lst (cD ((bx si way fi (A+b+3)).drop (A+b)))) nlf
   have elf5:(ax H4 lf (.lst (cD ((bx si way fi (A+b+3)).drop (A+b))))) lf=some (.lst (cD ((bx si way fi (A+b+3)).drop (A+b)))):=ad
   have plf:p≠lf:=g4.ne nlf
   have g5:=g4.same s5
   have ed5:=s5 _ _ ed4
   have e5:=s5 _ _ e4
   have mn5:=s5 _ _ mn4
   have b05:=b04.same s5
   generalize ax H4 lf (.lst (cD ((bx si way fi (A+b+3)).drop (A+b))))=H5 at *
   obtain ⟨kv6,ek6,lk6,w1,w2,w3,w4⟩:=DT (.int ((4+w0:Nat):Int)) (.int 4) (.int 0) (.ref lf)
   refine ⟨ed5,[(Sum.inr "width",.int ((4+w0:Nat):Int)),(Sum.inr "cells",.int 4),(Sum.inr "depth",.int 0),(Sum.inr "names",.ref lf)],rfl,by show 4<=15;decide,?_⟩
   rw [ek6]
   have ed6:(ax H5 d (.dK kv6)) d=some (.dK kv6):=ad
   have k6:∀ x l,H5 x=some (.lst l)->(ax H5 d (.dK kv6)) x=some (.lst l):=fun x l h=>by rw [ao (qX h ed5)];exact h
   have g6:Strm (ax H5 d (.dK kv6)) p:=let ⟨x,y,z,e⟩:=g5;⟨x,y,z,k6 _ _ e⟩
   have b06:But p H (ax H5 d (.dK kv6)):=fun b o e nb=>by rw [ao (aG e dH)];exact b05 b o e nb
   have e6:=k6 _ _ e5
   have mn6:=k6 _ _ mn5
   have elf6:=k6 _ _ elf5
   generalize ax H5 d (.dK kv6)=H6 at *
   clear g5 g4 g3 g2 ed5 ed4 ed3 e5 e4 e3 e2 mn5 mn4 mn3 mn2 mn1 elf5 b05 b04 b03 b02 s5 s3 b4 nd nlf
   refine ⟨_,rfl,d,rfl,.inl ⟨_,.inl ed6⟩,fun d2 nd2=>?_⟩
   have dd2:d≠d2:=hU ed6 nd2
   have dH2:H d2=none:=qa b06 g6 nd2
   have s7:=ag (o:=.dK []) nd2
   have e2d7:(ax H6 d2 (.dK [])) d2=some (.dK []):=ad
   have ed7:=s7 _ _ ed6
   have e7:=s7 _ _ e6
   have mn7:=s7 _ _ mn6
   have elf7:=s7 _ _ elf6
   have g7:=g6.same s7
   have b07:=b06.same s7
   generalize ax H6 d2 (.dK ([]:List (cq×V)))=H7 at *
   refine ⟨_,rfl,_,rfl,lmn,_,_,_,rfl,rfl,SqL.of mn7,gC,(A:Int),rfl,ln,_,rfl,SqL.of e7,fun lp nlp=>?_⟩
   rw [qb,kc]
   have s8:=ag (o:=.lst (cD ((bx si way fi (A+b+3)).take A))) nlp
   have elp8:(ax H7 lp (.lst (cD ((bx si way fi (A+b+3)).take A)))) lp=some (.lst (cD ((bx si way fi (A+b+3)).take A))):=ad
   have plp:=g7.ne nlp
   have ed8:=s8 _ _ ed7
   have e2d8:=s8 _ _ e2d7
   have e8:=s8 _ _ e7
   have mn8:=s8 _ _ mn7
   have elf8:=s8 _ _ elf7
   have g8:=g7.same s8
   have b08:=b07.same s8
   generalize ax H7 lp (.lst (cD ((bx si way fi (A+b+3)).take A)))=H8 at *
   refine ⟨_,rfl,_,rfl,lmn,_,_,_,rfl,rfl,SqL.of mn8,gC,(A:Int),rfl,_,rfl,lmn,_,_,_,rfl,rfl,SqL.of mn8,gC,_,rfl,lmn,_,_,_,rfl,rfl,SqL.of mn8,p9,_,_,rfl,rfl,((A+b:Nat):Int),rfl,ln,_,rfl,SqL.of e8,fun lm nlm=>?_⟩
   have hnl:(cD (bx si way fi (A+b+3))).length=A+b+3:=by unfold cD bx;rw [D5,D5,List.length_range]
   rw [Aj _ A b (by omega),ot,kc]
   have s9:=ag (o:=.lst (cD (((bx si way fi (A+b+3)).drop A).take b))) nlm
   have elm9:(ax H8 lm (.lst (cD (((bx si way fi (A+b+3)).drop A).take b)))) lm=some (.lst (cD (((bx si way fi (A+b+3)).drop A).take b))):=ad
   have plm:=g8.ne nlm
   have ed9:=s9 _ _ ed8
   have e2d9:=s9 _ _ e2d8
   have mn9:=s9 _ _ mn8
   have elf9:=s9 _ _ elf8
   have elp9:=s9 _ _ elp8
   have g9:=g8.same s9
   have b09:=b08.same s9
   generalize ax H8 lm (.lst (cD (((bx si way fi (A+b+3)).drop A).take b)))=H9 at *
   refine ⟨by show 0<=sizeLine;decide,fun lk nlk=>?_⟩
   have s10:=ag (o:=.lst []) nlk
   have elk10:(ax H9 lk (.lst [])) lk=some (.lst []):=ad
   have plk:=g9.ne nlk
   have lkH:H lk=none:=qa b09 g9 nlk
   have nk1:lmn≠lk:=hU mn9 nlk
   have nk2:lf≠lk:=hU elf9 nlk
   have nk3:lp≠lk:=hU elp9 nlk
   have nk4:lm≠lk:=hU elm9 nlk
   have nk5:d≠lk:=hU ed9 nlk
   have ed10:=s10 _ _ ed9
   have e2d10:=s10 _ _ e2d9
   have mn10:=s10 _ _ mn9
   have elf10:=s10 _ _ elf9
   have elp10:=s10 _ _ elp9
   have elm10:=s10 _ _ elm9
   have g10:=g9.same s10
   have b010:=b09.same s10
   generalize ax H9 lk (.lst ([]:List V))=H10 at *
   clear g9 g8 g7 g6 ed9 ed8 ed7 ed6 e2d9 e2d8 e2d7 e8 e7 e6 mn9 mn8 mn7 mn6 elf9 elf8 elf7 elf6 elp9 elp8 elm9 b09 b08 b07 b06 s10 s9 s8 s7 nlk nlm nlp nd2
   obtain ⟨kv12,ek12,lk12,w5,w6,w7,w1',w2',w3',w4'⟩:=DV kv6 (.ref lp) (.ref lm) (.ref lk)
   rw [w1] at w1'
   rw [w2] at w2'
   rw [w3] at w3'
   rw [w4] at w4'
   refine ⟨e2d10,[(Sum.inr "places",.ref lp),(Sum.inr "marks",.ref lm),(Sum.inr "kinds",.ref lk)],rfl,by show 3<=15;decide,d2,kv6,da [] [(Sum.inr "places",.ref lp),(Sum.inr "marks",.ref lm),(Sum.inr "kinds",.ref lk)],rfl,dd2,by rw [ao dd2];exact ed10,ad,?_,?_⟩
   ·have:=cw [((Sum.inr "places":cq),V.ref lp),(Sum.inr "marks",.ref lm),(Sum.inr "kinds",.ref lk)] []
    simp only [D8,Ev] at this
    omega
   rw [ek12]
   generalize hmore:da [] [((Sum.inr "places":cq),V.ref lp),(Sum.inr "marks",.ref lm),(Sum.inr "kinds",.ref lk)]=more
   have ed12:(ax (ax H10 d2 (.dK more)) d (.dK kv12)) d=some (.dK kv12):=ad
   have k12:∀ x l,H10 x=some (.lst l)->(ax (ax H10 d2 (.dK more)) d (.dK kv12)) x=some (.lst l):=fun x l h=>by rw [ao (qX h ed10),ao (qX h e2d10)];exact h
   have g12:Strm (ax (ax H10 d2 (.dK more)) d (.dK kv12)) p:=let ⟨x,y,z,e⟩:=g10;⟨x,y,z,k12 _ _ e⟩
   have b012:But p H (ax (ax H10 d2 (.dK more)) d (.dK kv12)):=fun b o e nb=>by rw [ao (aG e dH),ao (aG e dH2)];exact b010 b o e nb
   have mn12:=k12 _ _ mn10
   have elf12:=k12 _ _ elf10
   have elp12:=k12 _ _ elp10
   have elm12:=k12 _ _ elm10
   have elk12:=k12 _ _ elk10
   generalize ax (ax H10 d2 (.dK more)) d (.dK kv12)=H12 at *
   clear g10 mn10 elf10 elp10 elm10 elk10 k12 b010 ed10 e2d10 k6
   refine ⟨_,rfl,d,_,rfl,bv ed12 w6,_,rfl,p,2,rfl,g12,by decide,by decide,fun gt H13 hgt g13 b13=>⟨(gt:Int),rfl,lm,_,rfl,SqL.of (b13 _ _ elm12 plm.symm),fun lg nlg=>?_⟩⟩
   rw [qb,kc]
   have ed13:=b13 _ _ ed12 pd.symm
   have mn13:=b13 _ _ mn12 pmn.symm
   have elf13:=b13 _ _ elf12 plf.symm
   have elp13:=b13 _ _ elp12 plp.symm
   have elm13:=b13 _ _ elm12 plm.symm
   have elk13:=b13 _ _ elk12 plk.symm
   have b013:=b012.trans b13
   have s14:=ag (o:=.lst (cD ((((bx si way fi (A+b+3)).drop A).take b).take gt))) nlg
   have elg14:(ax H13 lg (.lst (cD ((((bx si way fi (A+b+3)).drop A).take b).take gt)))) lg=some (.lst (cD ((((bx si way fi (A+b+3)).drop A).take b).take gt))):=ad
   have plg:=g13.ne nlg
   have nk6:lg≠lk:=(hU elk13 nlg).symm
   have ed14:=s14 _ _ ed13
   have mn14:=s14 _ _ mn13
   have elf14:=s14 _ _ elf13
   have elp14:=s14 _ _ elp13
   have elm14:=s14 _ _ elm13
   have elk14:=s14 _ _ elk13
   have g14:=g13.same s14
   have b014:=b013.same s14
   generalize ax H13 lg (.lst (cD ((((bx si way fi (A+b+3)).drop A).take b).take gt)))=H14 at *
   refine ⟨_,rfl,d,_,rfl,DPut.k (k:=Sum.inr "gate") ed14 (by omega),?_⟩
   have w8:aY (bh kv12 (Sum.inr "gate") (.ref lg)) (Sum.inr "gate")=some (.ref lg):=dN
   have u1:aY (bh kv12 (Sum.inr "gate") (.ref lg)) (Sum.inr "width")=some (.int ((4+w0:Nat):Int)):=by rw [bn (by decide +kernel)];exact w1'
   have u2:aY (bh kv12 (Sum.inr "gate") (.ref lg)) (Sum.inr "cells")=some (.int 4):=by rw [bn (by decide +kernel)];exact w2'
   have u3:aY (bh kv12 (Sum.inr "gate") (.ref lg)) (Sum.inr "depth")=some (.int 0):=by rw [bn (by decide +kernel)];exact w3'
   have u4:aY (bh kv12 (Sum.inr "gate") (.ref lg)) (Sum.inr "names")=some (.ref lf):=by rw [bn (by decide +kernel)];exact w4'
   have u5:aY (bh kv12 (Sum.inr "gate") (.ref lg)) (Sum.inr "places")=some (.ref lp):=by rw [bn (by decide +kernel)];exact w5
   have u6:aY (bh kv12 (Sum.inr "gate") (.ref lg)) (Sum.inr "marks")=some (.ref lm):=by rw [bn (by decide +kernel)];exact w6
   have u7:aY (bh kv12 (Sum.inr "gate") (.ref lg)) (Sum.inr "kinds")=some (.ref lk):=by rw [bn (by decide +kernel)];exact w7
   generalize bh kv12 (Sum.inr "gate") (.ref lg)=kv15 at *
   have ed15:(ax H14 d (.dK kv15)) d=some (.dK kv15):=ad
   have k15:∀ x l,H14 x=some (.lst l)->(ax H14 d (.dK kv15)) x=some (.lst l):=fun x l h=>by rw [ao (qX h ed14)];exact h
   have g15:Strm (ax H14 d (.dK kv15)) p:=let ⟨x,y,z,e⟩:=g14;⟨x,y,z,k15 _ _ e⟩
   have b015:But p H (ax H14 d (.dK kv15)):=fun b o e nb=>by rw [ao (aG e dH)];exact b014 b o e nb
   have mn15:=k15 _ _ mn14
   have elf15:=k15 _ _ elf14
   have elp15:=k15 _ _ elp14
   have elm15:=k15 _ _ elm14
   have elk15:=k15 _ _ elk14
   have elg15:=k15 _ _ elg14
   generalize ax H14 d (.dK kv15)=H15 at *
   clear g14 g13 g12 ed14 ed13 ed12 mn14 mn13 mn12 elf14 elf13 elf12 elp14 elp13 elp12 elm14 elm13 elm12 elk14 elk13 elk12 elg14 k15 b014 b013 b012 s14 nlg b13
   refine ⟨_,rfl,by show 4<=sizeLine;decide,fun l4 n4=>?_⟩
   have s16:=ag (o:=.lst [.int 1,.int 2,.int 3,.int 8]) n4
   have e16:(ax H15 l4 (.lst [.int 1,.int 2,.int 3,.int 8])) l4=some (.lst [.int 1,.int 2,.int 3,.int 8]):=ad
   have p4:=g15.ne n4
   have g16:=g15.same s16
   generalize ax H15 l4 (.lst [V.int 1,.int 2,.int 3,.int 8])=H16 at *
   refine ⟨_,rfl,p,4,rfl,g16,by decide,by decide,fun rk H17 hrk g17 b17=>?_⟩
   obtain ⟨km1,km8⟩:=x9 hrk
   refine ⟨l4,_,_,_,rfl,rfl,SqL.of (b17 _ _ e16 p4.symm),bE (vP hrk),p,_,rfl,g17,by omega,fun lns H18 si2 way2 fi2 hsi2 hway2 hfi2 g18 b18 nlns elns=>?_⟩
   have b1518:But p H15 H18:=(iX s16).trans (b17.trans b18)
   have b018:=b015.trans b1518
   have plns:p≠lns:=g17.ne nlns
   have ed:=b1518 _ _ ed15 pd.symm
   have mn:=b1518 _ _ mn15 pmn.symm
   have elf:=b1518 _ _ elf15 plf.symm
   have elp:=b1518 _ _ elp15 plp.symm
   have elm:=b1518 _ _ elm15 plm.symm
   have elk:=b1518 _ _ elk15 plk.symm
   have elg:=b1518 _ _ elg15 plg.symm
   have nk7:lns≠lk:=by
    rintro rfl
    have:=b17 _ _ (s16 _ _ elk15) plk.symm
    rw [nlns] at this
    cases this
   generalize hm2:([1,2,3,8]:List Nat).getD rk 0=m2 at *
   clear g15 g16 g17 ed15 mn15 elf15 elp15 elm15 elk15 elg15 b015 s16 e16 b17 b18 b1518 n4 p4 nlns
   have lnm2:(cD (bx si2 way2 fi2 m2)).length=m2:=by unfold cD bx;rw [D5,D5,List.length_range]
   refine ⟨lns,rfl,⟨_,SqL.of elns⟩,?_⟩
   refine jD (K:=K) (a:=lns) (xs:=cD (bx si2 way2 fi2 m2)) (fun i σ H'=>∃ (v4 v5:Option V) (ks:List V) (kds:List Kn),σ=[some (.ref p),some (.ref lmn),some (.ref ln),some (.ref d),v4,v5]/\Strm H' p/\(∀ x o,H18 x=some o->x≠p->x≠lk->H' x=some o)/\H' lk=some (.lst ks)/\ks.length=i /\
     Paired (fun u (x:Kn)=>∃ pt l,u=.ref pt/\H' pt=some (.tup [.str x.name,.ref l])/\H' l=some (.lst (ae (x.fs.map (·.2))))/\pt≠p/\pt≠lk/\l≠p/\l≠lk) ks kds/\kds.map Kn.name=((bx si2 way2 fi2 m2).take i).map S/\∀ x∈kds,∃ st,x.fs=(((bx si way fi (A+b+3)).drop (A+b)).map S).zip st/\st.length<=3/\∀ s∈st,s∈di/\(s="mark"->1<=b))
    ⟨_,_,[],[],rfl,g18,fun x o e _ _=>e,elk,rfl,.nil,rfl,fun _ z=>nomatch z⟩ (fun i σ H' _ ⟨_,_,_,_,_,_,kp,_⟩=>SqL.of (kp _ _ elns plns.symm nk7)) ?_ ?_
   ·rintro i x σ Ha hx ⟨v4,v5,ks,kds,rfl,ga,kpa,eka,lka,hka,hna,hsa⟩
    obtain ⟨t,ht,rfl⟩:∃ t,(bx si2 way2 fi2 m2)[i]?=some t/\x=.str (S t):=by
     unfold cD at hx
     rw [Eb] at hx
     cases e:(bx si2 way2 fi2 m2)[i]? with
     | none=>rw [e] at hx;cases hx
     | some g=>rw [e] at hx;exact ⟨g,rfl,(Eg hx).symm⟩
    have hi8:i < m2:=by
     have:=(D7.mp hx).1
     omega
    have mna:=kpa _ _ mn pmn.symm nk1
    have eda:=kpa _ _ ed pd.symm nk5
    refine ⟨by show 4<=sizeLine;decide,fun l5 n5=>?_⟩
    have sb:=ag (o:=.lst (ae srt4)) n5
    have e5:(ax Ha l5 (.lst [V.str "place",.str "number",.str "row",.str "mark"])) l5=some (.lst [V.str "place",.str "number",.str "row",.str "mark"]):=ad
    have mnb:=sb _ _ mna
    have gb:=ga.same sb
    have ekb:=sb _ _ eka
    have edb:=sb _ _ eda
    refine ⟨_,rfl,lmn,_,_,_,rfl,rfl,SqL.of mnb,p9,_,_,rfl,rfl,.inr ⟨_,rfl,_,_,rfl,rfl,((en b:Nat):Int),congrArg V.int (ya b),l5,_,rfl,SqL.of e5,fun ls nls=>?_⟩⟩
    obtain ⟨sl1,sl2,sl3⟩:=yc b
    have ecs:eX [V.str "place",.str "number",.str "row",.str "mark"] none (some ((en b:Nat):Int))=ae (srt4.take (en b)):=by
     show eX (ae srt4) none (some ((en b:Nat):Int))=_
     rw [qb]
     unfold ae
     rw [List.map_take]
    rw [ecs]
    have lss:(ae (srt4.take (en b))).length=en b:=by unfold ae;rw [D5,sl1]
    have pls:=gb.ne nls
    have nlk:ls≠lk:=(hU ekb nls).symm
    have sc:=ag (o:=.lst (ae (srt4.take (en b)))) nls
    have elsc:(ax (ax Ha l5 (.lst [V.str "place",.str "number",.str "row",.str "mark"])) ls (.lst (ae (srt4.take (en b))))) ls=some (.lst (ae (srt4.take (en b)))):=ad
    have sac:Same Ha (ax (ax Ha l5 (.lst [V.str "place",.str "number",.str "row",.str "mark"])) ls (.lst (ae (srt4.take (en b))))):=sb.trans sc
    have gc:=gb.same sc
    have ekc:=sc _ _ ekb
    have edc:=sc _ _ edb
    refine ⟨_,rfl,d,_,rfl,bv edc u7,.inl ⟨rfl,_,SqL.of ekc⟩,?_⟩
    generalize ax (ax Ha l5 (.lst [V.str "place",.str "number",.str "row",.str "mark"])) ls (.lst (ae (srt4.take (en b))))=Hc at *
    refine ⟨_,rfl,_,rfl,p,4,rfl,gc,by decide,by decide,fun cnt Hd hcnt gd bd=>⟨_,rfl,by omega,by omega,?_⟩⟩
    rw [show ((cnt:Int)).toNat=cnt from E6 cnt]
    refine nJ (lo:=0) (n:=cnt) (fun j ys H'=>∃ st:List Str,Strm H' p/\But p Hd H'/\ys=ae st/\st.length=j/\j<=cnt/\∀ s∈st,s∈srt4.take (en b)) ⟨[],gd,But.refl _ _,rfl,rfl,EM _,fun _ z=>nomatch z⟩ (fun j ys H' hj ⟨st,_,_,e1,e2,_⟩=>by rw [e1];unfold ae;rw [D5];omega) ?_ ?_
    ·rintro j ys He hj ⟨st,ge,be,rfl,lst,hjc,hst⟩
     have else':=be _ _ (bd _ _ elsc pls.symm) pls.symm
     refine ⟨⟨rfl,rfl,trivial⟩,c9 ?_⟩
     refine ⟨_,rfl,_,rfl,_,rfl,ls,_,rfl,.inl (SqL.of else'),p,_,rfl,ge,by omega,by omega,fun r Hf hr' gf bf=>?_⟩
     have hrl:r < (srt4.take (en b)).length:=by omega
     refine ⟨ls,_,_,_,rfl,rfl,SqL.of (bf _ _ else' pls.symm),bE (BS hrl),?_⟩
     refine Nx.mk hj ⟨st++[(srt4.take (en b))[r]],gf,be.trans bf,by unfold ae;rw [Ed];rfl,by rw [D9,lst];rfl,hj,fun s hs=>?_⟩
     rcases Ez.mp hs with h|h
     ·exact hst s h
     ·rw [EG.mp h]
      exact E9 hrl
    rintro ys He ⟨st,ge,be,rfl,lst,hjc,hst⟩ lq nlq
    have bce:But p Hc He:=bd.trans be
    have sf:=ag (o:=.lst (ae st)) nlq
    have eqf:(ax He lq (.lst (ae st))) lq=some (.lst (ae st)):=ad
    have plq:=ge.ne nlq
    have gf:=ge.same sf
    have ekf:=sf _ _ (bce _ _ ekc plk.symm)
    have nlqk:lq≠lk:=(hU (bce _ _ ekc plk.symm) nlq).symm
    have bcf:=bce.same sf
    generalize ax He lq (.lst (ae st))=Hf at *
    refine ⟨by show 2<=sizeLine;decide,fun pt npt=>?_⟩
    have sg:=ag (o:=.tup [.str (S t),.ref lq]) npt
    have etg:(ax Hf pt (.tup [.str (S t),.ref lq])) pt=some (.tup [.str (S t),.ref lq]):=ad
    have ppt:=gf.ne npt
    have nptk:pt≠lk:=(hU ekf npt).symm
    have gg:=gf.same sg
    have ekg:=sg _ _ ekf
    have eqg:=sg _ _ eqf
    have bcg:=bcf.same sg
    generalize ax Hf pt (.tup [V.str (S t),.ref lq])=Hg at *
    refine ⟨lk,ks,_,rfl,rfl,ekg,by omega,?_⟩
    have fnl:(((bx si way fi (A+b+3)).drop (A+b)).map S).length=3:=by
     unfold bx
     rw [D5,EF,D5,List.length_range]
     omega
    have stl:st.length<=3:=by omega
    refine ⟨_,_,ks++[.ref pt],kds++[⟨S t,(((bx si way fi (A+b+3)).drop (A+b)).map S).zip st⟩],rfl,?_,fun y o e n1 n2=>?_,ad,by simp [lka],?_,?_,fun y hy=>?_⟩
    ·obtain ⟨x1,y1,z1,e⟩:=gg
     exact ⟨x1,y1,z1,by rw [ao plk];exact e⟩
    ·rw [ao n2]
     exact bcg _ _ (sac _ _ (kpa _ _ e n1 n2)) n1
    ·refine jd ⟨pt,lq,rfl,by rw [ao nptk];exact etg,?_,ppt.symm,nptk,plq.symm,nlqk⟩ (dm (fun u y ⟨pt',l',e1,e2,e3,n1,n2,n3,n4⟩=>⟨pt',l',e1,by rw [ao n2];exact bcg _ _ (sac _ _ e2) n1,by rw [ao n4];exact bcg _ _ (sac _ _ e3) n3,n1,n2,n3,n4⟩) hka)
     rw [ao nlqk,cG _ _ (by omega)]
     exact eqg
    ·rw [Ed,hna,EJ,ht,Ed]
     rfl
    ·rcases Ez.mp hy with h|h
     ·exact hsa y h
     ·rw [EG.mp h]
      exact ⟨st,rfl,stl,fun s hs=>yb (hst s hs)⟩
   ·rintro σ Ha ⟨v4,v5,ks,kds,rfl,ga,kpa,eka,lka,hka,hna,hsa⟩
    rw [lnm2] at hna
    have lnn:(bx si2 way2 fi2 m2).length=m2:=by unfold bx;rw [D5,List.length_range]
    have hna':kds.map Kn.name=(bx si2 way2 fi2 m2).map S:=by rw [hna,EC (by omega)]
    have bfin:But p H Ha:=fun x o e n=>by
     exact kpa _ _ (b018 _ _ e n) n (aG e lkH)
    refine ⟨_,rfl,q d Ha ⟨4+w0,4,0,((bx si way fi (A+b+3)).take A).map S,(((bx si way fi (A+b+3)).drop A).take b).map S,((((bx si way fi (A+b+3)).drop A).take b).take gt).map S,kds⟩ _ kv15 lf lp lm lk lg ks bfin ⟨kpa _ _ ed pd.symm nk5,u1,u2,u3,u4,u5,u6,u7,w8,?_,?_,?_,?_,eka,dm (fun u y ⟨pt',l',e1,e2,e3,_⟩=>⟨pt',l',e1,e2,e3⟩) hka⟩ (BR (by omega) (by omega) hA1 hA4 hb3 (by omega) hsi hway hfi hsi2 hway2 hfi2 km1 km8 hna' hsa)⟩
    ·rw [<-iG];exact kpa _ _ elf plf.symm nk2
    ·rw [<-iG];exact kpa _ _ elp plp.symm nk3
    ·rw [<-iG];exact kpa _ _ elm plm.symm nk4
    ·rw [<-iG];exact kpa _ _ elg plg.symm nk6
  ·refine ⟨_,rfl,p,4,rfl,hp,by decide,by decide,fun a H1 ha g1 b1=>⟨_,_,rfl,rfl,_,rfl,p,4,rfl,g1,by decide,by decide,fun b H2 hb g2 b2=>⟨by show 2<=sizeLine;decide,fun lm nlm=>?_⟩⟩⟩
   refine ⟨lm,1+a,b,rfl,g2.same (ag nlm),(b1.trans b2).same (ag nlm),?_,g2.ne nlm,by omega,by omega,by omega⟩
   rw [ad]
   rfl
end
end L3
namespace L3
open PySem L2
def jh (c:Nat):Prop:=(97<=c/\c<=122)\/(48<=c/\c<=57)
theorem qY {c:Nat} (h:jh c):TK.fJ c=false:=by
 unfold jh at h
 unfold TK.fJ
 simp
 omega
theorem qc {c:Nat} (h:jh c):TK.du c=false:=by
 unfold jh at h
 unfold TK.du
 simp
 omega
theorem qZ {c:Nat} (h:jh c) (r:List Nat):TK.iN (c::r)=0:=by
 have hs:=qc h
 unfold jh at h
 cases r with
 | nil=>rw [TK.fh,hs];rfl
 | cons d r=>
  rw [TK.dR,hs,if_neg (by simp;omega)]
  rfl
theorem re:∀ t:List Nat,(∀ c∈t,jh c)->TK.run t=t.length
 | [],_=>rfl
 | c::r,h=>by
  have hc:=h c Ea
  rw [TK.cu,qY hc,qZ hc,if_neg (by simp),re r (fun d hd=>h d (Ee _ hd)),D8]
  omega
theorem mT {t:List Nat} (hne:t≠[]) (h:∀ c∈t,jh c):TK.Tok t:=by
 cases t with
 | nil=>exact absurd rfl hne
 | cons c r=>
  have hc:=h c Ea
  have:=TK.fj (r:=r) (qY hc)
  have e:TK.one (c::r)=(c::r).length:=by
   unfold TK.one
   rw [if_pos (qZ hc r),re _ h]
  rw [e,EI] at this
  exact this
theorem vR {c:Nat} (h:c=40\/c=41\/c=44\/c=59\/c=123\/c=125):TK.Tok [c]:=by
 rcases h with rfl|rfl|rfl|rfl|rfl|rfl
 ·exact TK.fj (c:=40) (r:=[]) rfl
 ·exact TK.fj (c:=41) (r:=[]) rfl
 ·exact TK.fj (c:=44) (r:=[]) rfl
 ·exact TK.fj (c:=59) (r:=[]) rfl
 ·exact TK.fj (c:=123) (r:=[]) rfl
 ·exact TK.fj (c:=125) (r:=[]) rfl
def i7:List (Str×Str)->List (List Nat)
 | []=>[]
 | [x]=>[cp x.1,cp x.2]
 | x::y::r=>cp x.1::cp x.2::[44]::i7 (y::r)
def dJ (D:Fm):List (List (List Nat)):=[[cp "word"],[dg D.width],[[59],cp "cells"],[dg D.cells],[[59],cp "depth"],[dg D.depth],[[59],cp "places"]]
def gX (D:Fm):List (List (List Nat)):=D.places.map (fun z=>[cp z])++[[[59],cp "marks"]]++D.marks.map (fun z=>[cp z])
def ou (D:Fm):List (List (List Nat)):=[[[59],cp "gate"]]++D.gates.map (fun z=>[cp z])++[[[59]]]
def iH (x:Kn):List (List (List Nat)):=[[cp "kind"],[cp x.name],[[40]],i7 x.fs,[[41],[123],cp "next",[125]]]
def lC (D:Fm):List (List (List Nat)):=dJ D++gX D++ou D++(D.kinds.map iH).flatten
def wT (D:Fm):List (List Nat):=(lC D).flatten
theorem eI {sep t:List Nat} {r:List (List Nat)} (h:r≠[]):TK.jn sep (t::r)=t++(sep++TK.jn sep r):=by
 cases r with
 | nil=>exact absurd rfl h
 | cons u r=>rfl
theorem vS {sep:List Nat}:∀ {a b:List (List Nat)},a≠[]->b≠[]->TK.jn sep (a++b)=TK.jn sep a++(sep++TK.jn sep b)
 | [],_,h,_=>absurd rfl h
 | [t],b,_,hb=>eI hb
 | t::u::r,b,_,hb=>by
  show TK.jn sep (t::(u::r++b))=_
  rw [eI (by simp),vS (by simp) hb,eI (t:=t) (r:=u::r) (by simp)]
  simp
theorem rf {sep:List Nat}:∀ gs:List (List (List Nat)),(∀ g∈gs,g≠[])->TK.jn sep (gs.map (TK.jn sep))=TK.jn sep gs.flatten
 | [],_=>rfl
 | [g],_=>by simp [TK.jn]
 | g::h::r,hg=>by
  have ih:=rf (sep:=sep) (h::r) (fun x hx=>hg x (Ee _ hx))
  have e:(g::h::r).flatten=g++(h::r).flatten:=Fg
  rw [Ek,eI (by simp),ih,e]
  have hne:(h::r).flatten≠[]:=by
   have:=hg h (by simp)
   simp [this]
  rw [vS (hg g Ea) hne]
theorem vT:∀ fs:List (Str×Str),TK.jn [32,44,32] (fs.map fun x=>cp x.1++(32::cp x.2))=TK.jn [32] (i7 fs)
 | []=>rfl
 | [x]=>rfl
 | x::y::r=>by
  have ih:=vT (y::r)
  have hne:i7 (y::r)≠[]:=by
   cases r<;>simp [i7]
  rw [Ek,eI (by simp),ih]
  show _=TK.jn [32] (cp x.1::cp x.2::[44]::i7 (y::r))
  rw [eI (by simp),eI (by simp),eI hne]
  simp
theorem ow (gs:List (List (List Nat))):(gs.filter fun g=>!g.isEmpty).flatten=gs.flatten:=by
 induction gs with
 | nil=>rfl
 | cons g r ih=>
  cases g with
  | nil=>simpa using ih
  | cons a b=>simp [ih]
structure TkOk (t:List Nat):Prop where
 tok:TK.Tok t
 le:t.length<=8
theorem TkOk.name {z:Str} (h:NameS z):TkOk (cp z):=by
 refine ⟨mT (fun e=>?_) (fun c hc=>.inl (h.2.2.2 c hc)),h.len⟩
 have:=h.pos
 rw [e] at this
 simp at this
theorem TkOk.num {n:Nat} (h:n < 100000000):TkOk (dg n):=by
 refine ⟨mT (fun e=>?_) (fun c hc=>.inr (j2 n c hc)),(dZ n).2 8 (by decide) h⟩
 have:=(dZ n).1
 rw [e] at this
 simp at this
theorem TkOk.sign {c:Nat} (h:c=40\/c=41\/c=44\/c=59\/c=123\/c=125):TkOk [c]:=⟨vR h,by simp⟩
def wordsL:List Str:=["word","cells","depth","places","marks","gate","kind","next","place","mark","number","row"]
theorem vU:(wordsL.all fun z=>decide (cp z≠[]) && decide ((cp z).length<=8) && (cp z).all fun c=>decide (97<=c) && decide (c<=122))=true:=by decide +kernel
theorem TkOk.word {z:Str} (h:z∈wordsL):TkOk (cp z):=by
 have:=ER.mp vU z h
 simp only [EB,decide_eq_true_eq,ER] at this
 exact ⟨mT this.1.1 (fun c hc=>.inl (this.2 c hc)),this.1.2⟩
theorem fF {s:Str} (h:s∈di):s∈wordsL:=by
 have e:s∈(["place","mark","number","row"]:List Str):=h
 show s∈(["word","cells","depth","places","marks","gate","kind","next","place","mark","number","row"]:List Str)
 simp only [Ej,Es,or_false] at e ⊢
 rcases e with h|h|h|h<;>simp [h]
theorem yd {a b:List Str} {x:Str×Str} (h:x∈a.zip b):x.1∈a/\x.2∈b:=⟨(Fu (a:=x.1) (b:=x.2) h).1,(Fu (a:=x.1) (b:=x.2) h).2⟩
theorem rg {D:Fm} {fn:List Str} (h:fK D fn) {x:Kn} (hx:x∈D.kinds):∀ f∈x.fs,NameS f.1/\f.2∈di:=by
 obtain ⟨st,e,_,hs⟩:=h.kf x hx
 rw [e]
 intro f hf
 obtain ⟨h1,h2⟩:=yd hf
 exact ⟨h.fS _ h1,(hs _ h2).1⟩
theorem rh:∀ {fs:List (Str×Str)},(∀ f∈fs,NameS f.1/\f.2∈di)->∀ t∈i7 fs,TkOk t
 | [],_,t,h=>by simp [i7] at h
 | [x],hf,t,h=>by
  have hx:=hf x Ea
  simp [i7] at h
  rcases h with rfl|rfl
  ·exact .name hx.1
  ·exact .word (fF hx.2)
 | x::y::r,hf,t,h=>by
  have hx:=hf x Ea
  have h':t∈cp x.1::cp x.2::[44]::i7 (y::r):=h
  simp only [Ej] at h'
  rcases h' with rfl|rfl|rfl|h'
  ·exact .name hx.1
  ·exact .word (fF hx.2)
  ·exact .sign (by decide)
  ·exact rh (fun f hf'=>hf f (Ee _ hf')) t h'
theorem ke:∀ fs:List (Str×Str),(i7 fs).length=3*fs.length - 1
 | []=>rfl
 | [x]=>rfl
 | x::y::r=>by
  have:=ke (y::r)
  show (cp x.1::cp x.2::[44]::i7 (y::r)).length=_
  simp only [D8] at this ⊢
  omega
theorem wd {z:Str} (h:z∈wordsL):TkOk (cp z):=.word h
theorem kg {D:Fm} {fn:List Str} (h:fK D fn):∀ g∈lC D,g.length<=8/\∀ t∈g,TkOk t:=by
 have one:∀ (t:List Nat),TkOk t->([t]:List (List Nat)).length<=8/\∀ u∈[t],TkOk u:=fun t ht=>⟨by simp,fun u hu=>by rw [EG.mp hu];exact ht⟩
 have two:∀ (a b:List Nat),TkOk a->TkOk b->([a,b]:List (List Nat)).length<=8/\∀ u∈[a,b],TkOk u:=fun a b ha hb=>⟨by simp,fun u hu=>by
  simp only [Ej,Es,or_false] at hu
  rcases hu with rfl|rfl
  ·exact ha
  ·exact hb⟩
 intro g hg
 unfold lC at hg
 have w24:=h.w24
 have ce:=h.ce
 have de:=h.de
 rcases Ez.mp hg with hg|hg
 ·rcases Ez.mp hg with hg|hg
  ·rcases Ez.mp hg with hg|hg
   ·unfold dJ at hg
    simp only [Ej,Es,or_false] at hg
    rcases hg with rfl|rfl|rfl|rfl|rfl|rfl|rfl
    ·exact one _ (wd (by decide +kernel))
    ·exact one _ (.num (by omega))
    ·exact two _ _ (.sign (by decide)) (wd (by decide +kernel))
    ·exact one _ (.num (by omega))
    ·exact two _ _ (.sign (by decide)) (wd (by decide +kernel))
    ·exact one _ (.num (by omega))
    ·exact two _ _ (.sign (by decide)) (wd (by decide +kernel))
   ·unfold gX at hg
    rcases Ez.mp hg with hg|hg
    ·rcases Ez.mp hg with hg|hg
     ·obtain ⟨z,hz,rfl⟩:=ED.mp hg
      exact one _ (.name (h.nm.pl z hz))
     ·rw [EG.mp hg]
      exact two _ _ (.sign (by decide)) (wd (by decide +kernel))
    ·obtain ⟨z,hz,rfl⟩:=ED.mp hg
     exact one _ (.name (h.nm.mrk z hz))
  ·unfold ou at hg
   rcases Ez.mp hg with hg|hg
   ·rcases Ez.mp hg with hg|hg
    ·rw [EG.mp hg]
     exact two _ _ (.sign (by decide)) (wd (by decide +kernel))
    ·obtain ⟨z,hz,rfl⟩:=ED.mp hg
     exact one _ (.name (h.nm.mrk z (h.fm.gt z hz)))
   ·rw [EG.mp hg]
    exact one _ (.sign (by decide))
 ·obtain ⟨gk,hk,hg⟩:=List.mem_flatten.mp hg
  obtain ⟨x,hx,rfl⟩:=ED.mp hk
  unfold iH at hg
  simp only [Ej,Es,or_false] at hg
  rcases hg with rfl|rfl|rfl|rfl|rfl
  ·exact one _ (wd (by decide +kernel))
  ·exact one _ (.name (h.nm.kn x hx))
  ·exact one _ (.sign (by decide))
  ·refine ⟨?_,rh (rg h hx)⟩
   rw [ke]
   have:=(h.fm.kf x hx).2
   omega
  ·refine ⟨by simp,fun u hu=>?_⟩
   simp only [Ej,Es,or_false] at hu
   rcases hu with rfl|rfl|rfl|rfl
   ·exact .sign (by decide)
   ·exact .sign (by decide)
   ·exact wd (by decide +kernel)
   ·exact .sign (by decide)
theorem oy (k:Nat):∀ gs:List (List (List Nat)),(∀ g∈gs,g.length<=k)->gs.flatten.length<=gs.length*k
 | [],_=>by simp
 | g::r,h=>by
  have ih:=oy k r (fun g hg=>h g (Ee _ hg))
  have:=h g Ea
  rw [Fg,D9,D8]
  have:(r.length+1)*k=r.length*k+k:=by rw [Nat.add_mul,Nat.one_mul]
  omega
theorem i8:∀ l:List Kn,((l.map iH).flatten).length=5*l.length
 | []=>rfl
 | x::r=>by
  rw [Ek,Fg,D9,i8 r,D8]
  show 5+_=_
  omega
theorem rj {D:Fm} {fn:List Str} (h:fK D fn):(lC D).length<=60:=by
 unfold lC dJ gX ou
 simp only [D9,D5,D8,Ev,i8]
 have:=h.fm.p4
 have:=h.fm.m3
 have:=h.fm.k8
 have:=h.fm.g1
 omega
def lD (D:Fm):List Nat:=TK.jn [32] (wT D)
theorem sY {D:Fm} {fn:List Str} (h:fK D fn):TK.toks (lD D)=wT D:=by
 have:=TK.qE [32] [] (by simp) (by decide) (by simp) (wT D) (fun t ht=>by
  obtain ⟨g,hg,ht⟩:=List.mem_flatten.mp ht
  exact ((kg h g hg).2 t ht).tok)
 rw [ET] at this
 exact this
theorem vV {D:Fm} {fn:List Str} (h:fK D fn):(lD D).length<=20000/\(wT D).length<=1500:=by
 have h1:=oy 8 (lC D) (fun g hg=>(kg h g hg).1)
 have h2:=rj h
 have h3:=i5 [32] (wT D)
 have h4:=fE 8 (wT D) (fun t ht=>by
  obtain ⟨g,hg,ht⟩:=List.mem_flatten.mp ht
  exact ((kg h g hg).2 t ht).le)
 unfold lD
 simp only [D8,Ev] at h3
 have h5:(wT D).length<=480:=by
  have:(wT D).length=(lC D).flatten.length:=rfl
  omega
 exact ⟨by omega,by omega⟩
end L3
namespace L3
open PySem L2
def fT (fs:List (Str×Str)):List Str:=(i7 fs).map S
def kT (x:Kn):List Str:=[("kind":Str),x.name,("(":Str)]++fT x.fs++[(")":Str),("{":Str),("next":Str),("}":Str)]
def tT (D:Fm):List Str:=[("word":Str),(toString (D.width:Int):Str),(";":Str),("cells":Str),(toString (D.cells:Int):Str),(";":Str),("depth":Str),(toString (D.depth:Int):Str),(";":Str),("places":Str)]++D.places++[(";":Str),("marks":Str)]++D.marks++[(";":Str),("gate":Str)]++D.gates++[(";":Str)]++(D.kinds.map kT).flatten
theorem Ak (x:Str×Str):fT [x]=[x.1,x.2]:=by
 show [S (cp x.1),S (cp x.2)]=_
 rw [dc,dc]
theorem Al (x y:Str×Str) (r:List (Str×Str)):fT (x::y::r)=x.1::x.2::(",":Str)::fT (y::r):=by
 show S (cp x.1)::S (cp x.2)::S [44]::fT (y::r)=_
 rw [dc,dc]
 have:S [44]=(",":Str):=by decide +kernel
 rw [this]
theorem vW (fs:List (Str×Str)):(fT fs).length=3*fs.length - 1:=by
 unfold fT
 rw [D5,ke]
theorem mU (l:List Str):((l.map fun z=>[cp z]).flatten).map S=l:=by
 induction l with
 | nil=>rfl
 | cons z r ih=>
  rw [Ek,Fg,Ed,ih]
  show S (cp z)::r=_
  rw [dc]
theorem BT (x:Kn):((iH x).flatten).map S=kT x:=by
 unfold iH kT
 have e1:S (cp ("kind":Str))=("kind":Str):=dc _
 have e2:S [40]=("(":Str):=by decide +kernel
 have e3:S [41]=(")":Str):=by decide +kernel
 have e4:S [123]=("{":Str):=by decide +kernel
 have e5:S (cp ("next":Str))=("next":Str):=dc _
 have e6:S [125]=("}":Str):=by decide +kernel
 simp [e1,e2,e3,e4,e5,e6,dc,fT]
theorem vX (l:List Kn):(((l.map iH).flatten).flatten).map S=(l.map kT).flatten:=by
 induction l with
 | nil=>rfl
 | cons x r ih=>
  rw [Ek,Fg,List.flatten_append,Ed,ih,BT,Ek,Fg]
theorem BU (D:Fm):(wT D).map S=tT D:=by
 unfold wT lC tT
 have e2:S [59]=(";":Str):=by decide +kernel
 rw [List.flatten_append,List.flatten_append,List.flatten_append,Ed,Ed,Ed,vX]
 unfold dJ gX ou
 rw [List.flatten_append,List.flatten_append,List.flatten_append,List.flatten_append,Ed,Ed,Ed,Ed,mU,mU,mU]
 rw [dk,dk,dk]
 simp [e2,dc]
theorem bJ {A B ts:List Str} {x:Str} {k:Nat} (e:ts=A++x::B) (h:A.length=k):(tz ts)[k]?=some x:=by
 subst e h
 unfold tz
 rw [EU,List.getElem?_append_right (Ec _)]
 simp
theorem mV {A B ts zs:List Str} {k:Nat} (e:ts=A++(zs++B)) (h:A.length=k) (hn:∀ z∈zs,NameS z):oi ts k zs:=by
 intro i hi
 refine ⟨bJ (A:=A++zs.take i) (B:=zs.drop (i+1)++B) ?_ ?_,hn _ (E9 hi)⟩
 ·rw [e,EU]
  congr 1
  rw [<-E8,<-EQ hi,<-EU,Fd]
 ·rw [D9,Eh]
  omega
theorem oz:∀ (fs:List (Str×Str)) {A B ts:List Str} {k:Nat},ts=A++(fT fs++B)->A.length=k->(∀ f∈fs,NameS f.1/\f.2∈di)->pM ts k fs
 | [],_,_,_,_,_,_,_=>fun i h=>absurd h (by simp)
 | [x],A,B,ts,k,e,h,hf=>fun i hi=>by
  have h0:i=0:=by simpa using hi
  subst h0
  rw [Ak] at e
  have hx:=hf x Ea
  refine ⟨bJ (A:=A) (B:=x.2::B) e h,hx.1,bJ (A:=A++[x.1]) (B:=B) (by rw [e];simp) (by simp [h]),hx.2,fun hh=>absurd hh (by simp)⟩
 | x::y::r,A,B,ts,k,e,h,hf=>fun i hi=>by
  rw [Al] at e
  have hx:=hf x Ea
  cases i with
  | zero=>
   refine ⟨bJ (A:=A) (B:=x.2::(",":Str)::(fT (y::r)++B)) (by rw [e];simp) h,hx.1,bJ (A:=A++[x.1]) (B:=(",":Str)::(fT (y::r)++B)) (by rw [e];simp) (by simp [h]),hx.2,fun _=>bJ (A:=A++[x.1,x.2]) (B:=fT (y::r)++B) (by rw [e];simp) (by simp [h])⟩
  | succ i=>
   have ih:=oz (y::r) (A:=A++[x.1,x.2,(",":Str)]) (B:=B) (ts:=ts) (k:=k+3) (by rw [e];simp) (by simp [h]) (fun f hf'=>hf f (Ee _ hf')) i (by simpa using hi)
   have e1:k+3+3*i=k+3*(i+1):=by omega
   rw [e1] at ih
   refine ⟨ih.1,ih.2.1,ih.2.2.1,ih.2.2.2.1,fun hh=>ih.2.2.2.2 (by simpa using hh)⟩
theorem vY {x:Kn} {A B ts:List Str} {k:Nat} (e:ts=A++(kT x++B)) (h:A.length=k) (hn:NameS x.name) (hf:∀ f∈x.fs,NameS f.1/\f.2∈di) (h3:x.fs.length<=3):pN ts k x:=by
 unfold kT at e
 have fl:=vW x.fs
 refine ⟨bJ (A:=A) (B:=[x.name,("(":Str)]++fT x.fs++[(")":Str),("{":Str),("next":Str),("}":Str)]++B) (by rw [e];simp) h,
  bJ (A:=A++[("kind":Str)]) (B:=[("(":Str)]++fT x.fs++[(")":Str),("{":Str),("next":Str),("}":Str)]++B) (by rw [e];simp) (by simp [h]),hn,
  bJ (A:=A++[("kind":Str),x.name]) (B:=fT x.fs++[(")":Str),("{":Str),("next":Str),("}":Str)]++B) (by rw [e];simp) (by simp [h]),
  oz x.fs (A:=A++[("kind":Str),x.name,("(":Str)]) (B:=[(")":Str),("{":Str),("next":Str),("}":Str)]++B) (by rw [e];simp) (by simp [h]) hf,
  bJ (A:=A++[("kind":Str),x.name,("(":Str)]++fT x.fs) (B:=[("{":Str),("next":Str),("}":Str)]++B) (by rw [e];simp) (by simp [h,fl];omega),h3,
  bJ (A:=A++[("kind":Str),x.name,("(":Str)]++fT x.fs++[(")":Str)]) (B:=[("next":Str),("}":Str)]++B) (by rw [e];simp) (by simp [h,fl];omega),
  bJ (A:=A++[("kind":Str),x.name,("(":Str)]++fT x.fs++[(")":Str),("{":Str)]) (B:=[("}":Str)]++B) (by rw [e];simp) (by simp [h,fl];omega),
  bJ (A:=A++[("kind":Str),x.name,("(":Str)]++fT x.fs++[(")":Str),("{":Str),("next":Str)]) (B:=B) (by rw [e];simp) (by simp [h,fl];omega)⟩
theorem Am (x:Kn):(kT x).length=sN x:=by
 unfold kT sN
 simp only [D9,D8,Ev,vW]
 omega
theorem lE:∀ (l:List Kn) {A ts:List Str} {k:Nat},ts=A++(l.map kT).flatten->A.length=k->(∀ x∈l,NameS x.name/\(∀ f∈x.fs,NameS f.1/\f.2∈di)/\x.fs.length<=3)->ju ts k l
 | [],A,ts,k,e,h,_=>by
  show k=ts.length
  rw [e]
  simp [h]
 | x::r,A,ts,k,e,h,hx=>by
  rw [Ek,Fg] at e
  obtain ⟨h1,h2,h3⟩:=hx x Ea
  exact ⟨vY e h h1 h2 h3,lE r (A:=A++kT x) (by rw [e];simp) (by rw [D9,Am,h]) (fun y hy=>hx y (Ee _ hy))⟩
theorem ye {D:Fm} {fn:List Str} (h:fK D fn):pQ (tT D) D:=by
 have ce:=h.ce
 have de:=h.de
 generalize hR:(D.kinds.map kT).flatten=R
 have e0:tT D=[("word":Str),(toString (D.width:Int):Str),(";":Str),("cells":Str),(toString (D.cells:Int):Str),(";":Str),("depth":Str),(toString (D.depth:Int):Str),(";":Str),("places":Str)]++(D.places++([(";":Str),("marks":Str)]++(D.marks++([(";":Str),("gate":Str)]++(D.gates++([(";":Str)]++R)))))):=by
  unfold tT
  rw [hR]
  simp
 refine ⟨bJ (A:=[]) e0 rfl,bJ (A:=[("word":Str)]) e0 rfl,bJ (A:=[("word":Str),_]) e0 rfl,bJ (A:=[("word":Str),_,(";":Str)]) e0 rfl,bJ (A:=[("word":Str),_,(";":Str),("cells":Str)]) e0 rfl,bJ (A:=[("word":Str),_,(";":Str),("cells":Str),_]) e0 rfl,bJ (A:=[("word":Str),_,(";":Str),("cells":Str),_,(";":Str)]) e0 rfl,bJ (A:=[("word":Str),_,(";":Str),("cells":Str),_,(";":Str),("depth":Str)]) e0 rfl,bJ (A:=[("word":Str),_,(";":Str),("cells":Str),_,(";":Str),("depth":Str),_]) e0 rfl,bJ (A:=[("word":Str),_,(";":Str),("cells":Str),_,(";":Str),("depth":Str),_,(";":Str)]) e0 rfl,
  mV e0 rfl h.nm.pl,?_,?_,?_,?_,?_,?_,?_,?_,⟨h.w4,h.w24⟩,⟨by omega,by omega⟩,by omega,⟨h.p1,h.fm.p4⟩,h.fm.m3,h.fm.g1,⟨h.k1,h.fm.k8⟩⟩
 all_goals (have hW:([("word":Str),(toString (D.width:Int):Str),(";":Str),("cells":Str),(toString (D.cells:Int):Str),(";":Str),("depth":Str),(toString (D.depth:Int):Str),(";":Str),("places":Str)]:List Str).length=10:=rfl)
 all_goals (generalize ([("word":Str),(toString (D.width:Int):Str),(";":Str),("cells":Str),(toString (D.cells:Int):Str),(";":Str),("depth":Str),(toString (D.depth:Int):Str),(";":Str),("places":Str)]:List Str)=W at *)
 ·exact bJ (A:=W++D.places) (B:=("marks":Str)::(D.marks++([(";":Str),("gate":Str)]++(D.gates++([(";":Str)]++R))))) (by rw [e0];simp) (by simp [hW])
 ·exact bJ (A:=W++D.places++[(";":Str)]) (B:=D.marks++([(";":Str),("gate":Str)]++(D.gates++([(";":Str)]++R)))) (by rw [e0];simp) (by simp [hW];omega)
 ·exact mV (A:=W++D.places++[(";":Str),("marks":Str)]) (B:=[(";":Str),("gate":Str)]++(D.gates++([(";":Str)]++R))) (by rw [e0];simp) (by simp [hW];omega) h.nm.mrk
 ·exact bJ (A:=W++D.places++[(";":Str),("marks":Str)]++D.marks) (B:=("gate":Str)::(D.gates++([(";":Str)]++R))) (by rw [e0];simp) (by simp [hW];omega)
 ·exact bJ (A:=W++D.places++[(";":Str),("marks":Str)]++D.marks++[(";":Str)]) (B:=D.gates++([(";":Str)]++R)) (by rw [e0];simp) (by simp [hW];omega)
 ·exact mV (A:=W++D.places++[(";":Str),("marks":Str)]++D.marks++[(";":Str),("gate":Str)]) (B:=[(";":Str)]++R) (by rw [e0];simp) (by simp [hW];omega) (fun z hz=>h.nm.mrk z (h.fm.gt z hz))
 ·exact bJ (A:=W++D.places++[(";":Str),("marks":Str)]++D.marks++[(";":Str),("gate":Str)]++D.gates) (B:=R) (by rw [e0];simp) (by simp [hW];omega)
 ·subst hR
  refine lE D.kinds (A:=W++D.places++[(";":Str),("marks":Str)]++D.marks++[(";":Str),("gate":Str)]++D.gates++[(";":Str)]) (by rw [e0];simp) (by simp [hW];omega) (fun x hx=>⟨h.nm.kn x hx,rg h hx,(h.fm.kf x hx).2⟩)
end L3
namespace L2
open PySem PySem.Spec PyProof.Rows
theorem yf {K:PySem.W.Frag} {l:Addr} {xs:List V} {g:TG} {tf:TT} {te:TE} {ix:List (Option Nat)} {σ:St} {H:Hp} {Q:VK} (Pv:Nat->List V->Hp->Prop) (h0:Pv 0 [] H)
  (hl:∀ i ys H,i<=xs.length->Pv i ys H->SqL K H l xs/\ys.length<=sizeLine)
  (hs:∀ i x ys H T,xs[i]?=some x->H T=none->Pv i ys H->g (.ref T) (kY ix σ) (ax H T (.tup [.int i,x])) fun σ2 H2=>ExtL (kY ix σ) σ2/\tf σ2 H2 fun b H3=>if b=true then te σ2 H3 fun y H4=>Nx Pv xs.length i (ys++[y]) H4 else Nx Pv xs.length i ys H3)
  (hd:∀ ys H,Pv xs.length ys H->∀ D,H D=none->Q (.ref D) (ax H D (.lst ys))):pc (AQ K l) g tf te ix σ H Q:=by
 refine ⟨fun i m ys H=>m=xs.length - i/\i<=xs.length/\Pv i ys H,⟨xs.length,by simp,EM _,h0⟩,?_⟩
 rintro i m ys H ⟨rfl,hi,p⟩
 obtain ⟨q,hz⟩:=hl i ys H hi p
 by_cases hlt:i < xs.length
 ·refine .inr ⟨⟨xs,xs[i],q,by simp [hlt]⟩,hz,fun v H' y=>?_⟩
  obtain ⟨T,x,e1,hT,e2,hy⟩:=y
  subst e1 e2
  exact hs i x ys H T (hy xs q) hT p
 ·have e:i=xs.length:=by omega
  subst e
  exact .inl ⟨⟨xs,q,Ec _⟩,hz,hd ys H p⟩
end L2
namespace L3
open PySem L2
def wV (gs:List (List (List Nat))):List V:=cD (gs.map (TK.jn [32]))
theorem gF (a b:List (List (List Nat))):wV (a++b)=wV a++wV b:=by unfold wV cD;rw [Ed,Ed]
theorem dA (a:List (List (List Nat))):(wV a).length=a.length:=by unfold wV cD;rw [D5,D5]
theorem mW (l:List Str):wV (l.map fun z=>[cp z])=ae l:=by
 unfold wV cD ae
 rw [E1,E1]
 refine List.map_congr_left fun z _=>?_
 show V.str (S (cp z))=_
 rw [dc]
theorem BV (D:Fm):([V.str "word",.str (toString (D.width:Int):Str),.str "; cells",.str (toString (D.cells:Int):Str),.str "; depth",.str (toString (D.depth:Int):Str),.str "; places"]:List V)=wV (dJ D):=by
 have e1:(("word":Str))=S (TK.jn [32] [cp "word"]):=by decide +kernel
 have e2:(("; cells":Str))=S (TK.jn [32] [[59],cp "cells"]):=by decide +kernel
 have e3:(("; depth":Str))=S (TK.jn [32] [[59],cp "depth"]):=by decide +kernel
 have e4:(("; places":Str))=S (TK.jn [32] [[59],cp "places"]):=by decide +kernel
 rw [dk,dk,dk,e1,e2,e3,e4]
 rfl
theorem BW:([V.str "; marks"]:List V)=wV [[[59],cp "marks"]]:=by
 have e2:(("; marks":Str))=S (TK.jn [32] [[59],cp "marks"]):=by decide +kernel
 rw [e2]
 rfl
theorem BX:([V.str "; gate"]:List V)=wV [[[59],cp "gate"]]:=by
 have e2:(("; gate":Str))=S (TK.jn [32] [[59],cp "gate"]):=by decide +kernel
 rw [e2]
 rfl
theorem BY:([V.str ";"]:List V)=wV [[[59]]]:=by
 have e2:((";":Str))=S (TK.jn [32] [[59]]):=by decide +kernel
 rw [e2]
 rfl
def gY (fs:List (Str×Str)):List (List Nat):=fs.map fun x=>cp x.1++(32::cp x.2)
theorem BZ (x:Kn):([V.str "kind",.str x.name,.str "(",.str (S (TK.jn [32,44,32] (gY x.fs))),.str ") { next }"]:List V)=wV (iH x):=by
 have e1:(("kind":Str))=S (TK.jn [32] [cp "kind"]):=by decide +kernel
 have e2:(("(":Str))=S (TK.jn [32] [[40]]):=by decide +kernel
 have e3:((") { next }":Str))=S (TK.jn [32] [[41],[123],cp "next",[125]]):=by decide +kernel
 have e4:x.name=S (TK.jn [32] [cp x.name]):=(dc _).symm
 have e5:=vT x.fs
 unfold gY
 rw [e1,e2,e3,e5]
 conv=>lhs;rw [e4]
 rfl
theorem qd {D:Fm} {fn:List Str} (h:fK D fn) {g:List (List Nat)} (hg:g∈lC D):(!decide (V.str (S (TK.jn [32] g))=V.str ""))=!g.isEmpty:=by
 cases g with
 | nil=>
  have:V.str (S (TK.jn [32] []))=V.str "":=congrArg V.str (by decide +kernel)
  rw [decide_eq_true this]
  rfl
 | cons t r=>
  have ht:=((kg h _ hg).2 t Ea).tok.ne
  have hn:V.str (S (TK.jn [32] (t::r)))≠V.str "":=by
   intro e
   have e1:=V.str.inj e
   have e2:=congrArg cp e1
   rw [ej] at e2
   exact Ah ht (e2.trans (by decide +kernel))
  rw [decide_eq_false hn]
  rfl
theorem yg {D:Fm} {fn:List Str} (h:fK D fn):TK.jn [32] (((lC D).filter fun g=>!g.isEmpty).map (TK.jn [32]))=lD D:=by
 rw [rf _ (fun g hg=>?_),ow]
 ·rfl
 ·have:=(Ft.mp hg).2
  intro e
  rw [e] at this
  simp at this
inductive An (vs:List V) (H:Hp) (Q:VK) (Z3:XK):Prop
 | mk (d D fn kvs lf lp lm lk lg ks:_):vs=[.ref d]->KpV H d D fn kvs lf lp lm lk lg ks->fK D fn->(∀ H',Same H H'->Q (.str (S (lD D))) H')->An vs H Q Z3
section
variable {P:Program} {w:World} {K:PySem.W.Frag} {mg:Str->Option Value} {base:Heap} {C Cp:Addr} {tb tm:Tok}
theorem scST:ay ["_law_table","_law_words","_law_name","_law_sorts","_law_fields"] ["_law_table"] (am dY):=⟨rfl,rfl,rfl,by decide +kernel,rfl,by decide +kernel,by decide +kernel⟩
theorem yW:(["_law_k","_law_sort","_law_table"]:List Str).Nodup:=by decide +kernel
theorem DW:(["_law_word_here"]:List Str).Nodup:=by decide +kernel
set_option maxHeartbeats 8000000 in
theorem B0 {f:Addr} {fd:FuncData} (F:Fun K "_law_shape_text" "_law_shape_text" dY f fd) (B:Bl mg) (B3:BC mg):aN P w K mg base cj 2 f fd ["_law_table"] An:=by
 refine F.ok scST (fun vs H Q E h=>?_) (fun cdv A outer s H vs Q E hr h=>?_)
 ·obtain ⟨d,D,fn,kvs,lf,lp,lm,lk,lg,ks,rfl,_⟩:=h
  rfl
 ·obtain ⟨d,D,fn,kvs,lf,lp,lm,lk,lg,ks,rfl,hK,hO,q⟩:=h
  have sz:(100000:Nat)<=sizeLine:=by decide
  have hu:=hJ hr
  have ce:=hO.ce
  have de:=hO.de
  have w24:=hO.w24
  have p4:=hO.fm.p4
  have m3:=hO.fm.m3
  have g1:=hO.fm.g1
  have k8:=hO.fm.k8
  refine ⟨_,bR (fun σ H'=>∃ lw,σ=[some (.ref d),some (.ref lw),none,none,none]/\Same H H'/\H' lw=some (.lst (wV (dJ D)))) (aw (i:=1) scST.nd rfl (Or.inl rfl) (aV (aa ak (aa (aM bN (by rfl) B.str bW (aa (br hu (pv 0) ak (fun _ _=>rfl)) ac)) (aa ak (aa (aM bN (by rfl) B.str bW (aa (br hu (pv 0) ak (fun _ _=>rfl)) ac)) (aa ak (aa (aM bN (by rfl) B.str bW (aa (br hu (pv 0) ak (fun _ _=>rfl)) ac)) (aa ak ac)))))))))
   (bR (fun σ H'=>∃ lw,σ=[some (.ref d),some (.ref lw),none,none,none]/\Same H H'/\H' lw=some (.lst (wV (dJ D++gX D)))) (aw (i:=1) scST.nd rfl (Or.inl rfl) (aH c8 (aH c8 (aH c8 (pv 1) (br hu (pv 0) ak (fun _ _=>rfl))) (aV (aa ak ac))) (br hu (pv 0) ak (fun _ _=>rfl))))
   (bR (fun σ H'=>∃ lw,σ=[some (.ref d),some (.ref lw),none,none,none]/\Same H H'/\H' lw=some (.lst (wV (dJ D++gX D++ou D)))) (aw (i:=1) scST.nd rfl (Or.inl rfl) (aH c8 (aH c8 (aH c8 (pv 1) (aV (aa ak ac))) (br hu (pv 0) ak (fun _ _=>rfl))) (aV (aa ak ac))))
   (af (cS PassesOwn.never rfl (dP (br hu (pv 0) ak (fun _ _=>rfl))) (c0 rfl (az (ar (i:=2) scST.nd rfl (Or.inl rfl)) (az (ar (i:=3) scST.nd rfl (Or.inl rfl)) bD)))
    (af (eZ (i:=4) scST.nd rfl rfl (N':=["_law_k","_law_sort","_law_table"]) (ix:=[none,none,some 0]) (sc0:=am dY) (N:=["_law_table","_law_words","_law_name","_law_sorts","_law_fields"]) rfl (by decide +kernel) (qG rfl B3.enumerate (aa (pv 3) ac))
     (fun C' cl s H fp=>dE (K:=K) (n:=2) rfl rfl (az (ar (i:=0) yW rfl (Or.inl rfl) (.inr rfl)) (az (ar (i:=1) yW rfl (Or.inl rfl) (.inr rfl)) bD))) (fun _ _ _ _ _=>cU) (fun C' cl s H fp=>aH bT (aH bT (aP (ka (K:=K) rfl) (br hu (pv 2) ak (fun _ _=>rfl)) (pv 0) (fun _ _=>rfl)) ak) (pv 1)))
    (ai (aw (i:=1) scST.nd rfl (Or.inl rfl) (aH c8 (pv 1) (aV (aa ak (aa (pv 2) (aa ak (aa (bX EE E5 E4 ft ak (aa (pv 4) ac)) (aa ak ac)))))))))))
   (ai (av (bX EE E5 E4 ft ak (aa (eG (N':=["_law_word_here"]) (ix:=[none]) (sc0:=am dY) (N:=["_law_table","_law_words","_law_name","_law_sorts","_law_fields"]) rfl (by decide +kernel) (dP (pv 1))
    (fun C' cl s H fp=>ar (i:=0) DW rfl (Or.inl rfl) (.inr rfl)) (fun _ _ _ _ _=>md (aq iw (pv 0) ak (aB _))) (fun C' cl s H fp=>pv 0)) ac))))))),?_⟩
  refine ⟨?_,?_⟩
  ·rintro σ H1 ⟨lw,rfl,s1,ew⟩
   refine ⟨?_,?_⟩
   ·rintro σ H1 ⟨lw,rfl,s1,ew⟩
    refine ⟨?_,?_⟩
    ·rintro σ H1 ⟨lw,rfl,s1,ew⟩
     have K1:=hK.same s1
     refine ⟨_,rfl,d,_,rfl,bv K1.dd K1.v7,lk,rfl,⟨_,SqL.of K1.ek⟩,?_⟩
     have lks:=hK.kd.length
     refine jD (K:=K) (a:=lk) (xs:=ks) (fun i σ H'=>∃ (lw:Addr) (v2 v3 v4:Option V),σ=[some (.ref d),some (.ref lw),v2,v3,v4]/\Same H H'/\H' lw=some (.lst (wV (dJ D++gX D++ou D++((D.kinds.take i).map iH).flatten)))) ⟨lw,_,_,_,rfl,s1,by simpa using ew⟩ (fun i σ H' _ ⟨_,_,_,_,_,s',_⟩=>SqL.of (s' _ _ hK.ek)) ?_ ?_
     ·rintro i u σ H2 hx ⟨lw,v2,v3,v4,rfl,s2,ew2⟩
      have K2:=hK.same s2
      obtain ⟨x,hxi,pt,l,rfl,hpt,hl⟩:=gV K2.kd hx
      have hxm:x∈D.kinds:=Ex hxi
      have hi8:i < D.kinds.length:=(D7.mp hxi).1
      obtain ⟨st,efs,st3,hst⟩:=hO.kf x hxm
      have f3:=hO.f3
      have esn:x.fs.map (·.2)=st:=by rw [efs];exact cG _ _ (by omega)
      have fsl:x.fs.length=st.length:=by rw [efs,List.length_zip];omega
      refine ⟨pt,_,rfl,SqT.of hpt,rfl,_,_,rfl,_,_,rfl,rfl,?_⟩
      refine ⟨_,rfl,l,rfl,⟨_,SqL.of hl⟩,?_⟩
      refine yf (K:=K) (l:=l) (xs:=ae (x.fs.map (·.2))) (fun j ys H'=>Same H2 H'/\ys=cD ((gY x.fs).take j)) ⟨Same.refl _,rfl⟩ (fun j ys H' hj ⟨s',e'⟩=>⟨SqL.of (s' _ _ hl),by
        rw [e']
        unfold cD gY
        rw [D5,Eh,D5]
        omega⟩) ?_ ?_
      ·rintro j y ys H3 T1 hy nT ⟨s3,rfl⟩
       obtain ⟨fl,hfl,rfl⟩:∃ g,x.fs[j]?=some g/\y=.str g.2:=by
        unfold ae at hy
        rw [Eb,Eb] at hy
        cases e:x.fs[j]? with
        | none=>rw [e] at hy;cases hy
        | some g=>rw [e] at hy;exact ⟨g,rfl,(Eg hy).symm⟩
       have hfm:fl∈x.fs:=Ex hfl
       have hfo:=rg hO hxm fl hfm
       have hfn:fn[j]?=some fl.1:=by
        have h':=hfl
        rw [efs] at h'
        exact (List.getElem?_zip_eq_some.mp h').1
       have s4:=ag (o:=.tup [.int (j:Int),.str fl.2]) nT
       have s24:=s3.trans s4
       have K4:=K2.same s24
       refine ⟨T1,_,rfl,SqT.of ad,rfl,_,_,rfl,_,_,rfl,rfl,⟨rfl,trivial⟩,c9 ?_⟩
       have hfn':(ae fn)[j]?=some (.str fl.1):=by unfold ae;rw [Eb,hfn];rfl
       have n8:=hfo.1.len
       have w8:=(wd (fF hfo.2)).le
       have ln1:fl.1.length=(cp fl.1).length:=by unfold cp;simp [Str.length]
       have ln2:fl.2.length=(cp fl.2).length:=by unfold cp;simp [Str.length]
       refine ⟨_,rfl,d,_,rfl,bv K4.dd K4.v4,_,rfl,lf,_,_,_,rfl,rfl,SqL.of K4.ef,bE hfn',_,_,rfl,rfl,?_,_,rfl,_,_,rfl,rfl,?_,?_⟩
       ·show fl.1.length+1<=_
        omega
       ·rw [<-dc fl.1,i6,gx,aR,D9]
        show _+1+_<=_
        omega
       ·have ev:fl.1++(" ":Str)++fl.2=S (cp fl.1++(32::cp fl.2)):=by
         rw [<-dc fl.1,<-dc fl.2,i6,gx,gx,ej,ej]
         simp
        rw [ev]
        refine Nx.mk (D7.mp hy).1 ⟨s24,?_⟩
        unfold gY
        rw [<-List.map_take,<-List.map_take,EJ,hfl]
        unfold cD
        simp
      rintro ys H3 ⟨s3,rfl⟩ lq nlq
      have etl:(gY x.fs).take (ae (x.fs.map (·.2))).length=gY x.fs:=by
       refine EC ?_
       unfold gY ae
       simp
      rw [etl]
      have s4:=ag (o:=.lst (cD (gY x.fs))) nlq
      have e4:(ax H3 lq (.lst (cD (gY x.fs)))) lq=some (.lst (cD (gY x.fs))):=ad
      generalize ax H3 lq (.lst (cD (gY x.fs)))=H4 at *
      have s24:=s3.trans s4
      have hfl8:∀ t∈gY x.fs,t.length<=17:=by
       intro t ht
       obtain ⟨f,hf,rfl⟩:=ED.mp ht
       have hfo:=rg hO hxm f hf
       have n8:=hfo.1.len
       have w8:=(wd (fF hfo.2)).le
       rw [D9,D8]
       omega
      refine ⟨_,rfl,_,rfl,rfl,_,rfl,[32,44,32],lq,gY x.fs,congrArg V.str (by decide +kernel),rfl,SqL.of e4,?_,by show 5<=sizeLine;decide,fun l5 n5=>?_⟩
      ·have h1:=fE 17 _ hfl8
       have h2:(gY x.fs).length=x.fs.length:=by unfold gY;rw [D5]
       simp only [D8,Ev]
       omega
      rw [BZ x] at *
      have s5:=ag (o:=.lst (wV (iH x))) n5
      have e5:(ax H4 l5 (.lst (wV (iH x)))) l5=some (.lst (wV (iH x))):=ad
      generalize ax H4 l5 (.lst (wV (iH x)))=H5 at *
      have s25:=s24.trans s5
      refine ⟨lw,l5,_,_,rfl,rfl,s25 _ _ ew2,e5,?_,fun l6 n6=>?_⟩
      ·rw [dA,dA]
       unfold dJ gX ou iH
       simp only [D9,D5,D8,Ev]
       have:=i8 (D.kinds.take i)
       unfold iH at this
       rw [this,Eh]
       omega
      refine ⟨l6,_,_,_,rfl,s2.trans (s25.trans (ag n6)),?_⟩
      rw [ad,<-gF]
      congr 3
      rw [EJ,hxi]
      simp
     ·rintro σ H2 ⟨lw,v2,v3,v4,rfl,s2,ew2⟩
      rw [lks,EI] at ew2
      have ew2':H2 lw=some (.lst (wV (lC D))):=ew2
      have gl:=rj hO
      refine ⟨rfl,_,rfl,lw,rfl,⟨_,SqL.of ew2'⟩,?_⟩
      refine gM (K:=K) (a:=lw) (xs:=wV (lC D)) (fun i ys H'=>H'=H2/\ys=wV (((lC D).take i).filter fun g=>!g.isEmpty)) ⟨rfl,rfl⟩ (fun i ys H' hi ⟨e1,e2⟩=>by
        subst e1 e2
        refine ⟨SqL.of ew2',?_⟩
        rw [dA]
        have:=List.length_filter_le (fun g:List (List Nat)=>!g.isEmpty) ((lC D).take i)
        rw [Eh] at this
        omega) ?_ ?_
      ·rintro i y ys H3 hy ⟨rfl,rfl⟩
       obtain ⟨g,hg,rfl⟩:∃ g,(lC D)[i]?=some g/\y=.str (S (TK.jn [32] g)):=by
        unfold wV cD at hy
        rw [Eb,Eb] at hy
        cases e:(lC D)[i]? with
        | none=>rw [e] at hy;cases hy
        | some g=>rw [e] at hy;exact ⟨g,rfl,(Eg hy).symm⟩
       have hgm:g∈lC D:=Ex hg
       have hwe:=qd hO hgm
       have hlt:=(D7.mp hy).1
       refine ⟨trivial,_,rfl,rfl,_,rfl,?_⟩
       rw [hwe]
       refine eD (fun hb=>⟨_,rfl,Nx.mk hlt ⟨rfl,?_⟩⟩) (fun hb=>Nx.mk hlt ⟨rfl,?_⟩)
       ·rw [EJ,hg]
        simp only [Option.toList_some,List.filter_append]
        rw [gF]
        congr 1
        rw [List.filter_cons_of_pos (by simpa using hb)]
        rfl
       ·rw [EJ,hg]
        simp only [Option.toList_some,List.filter_append]
        rw [List.filter_cons_of_neg (by simpa using hb)]
        simp
      ·rintro ys H3 ⟨rfl,rfl⟩ lq nlq
       rw [dA,EI]
       refine ⟨[32],lq,((lC D).filter fun g=>!g.isEmpty).map (TK.jn [32]),congrArg V.str i6,rfl,SqL.of ad,?_,?_⟩
       ·have h1:=fE 100 (((lC D).filter fun g=>!g.isEmpty).map (TK.jn [32])) (fun t ht=>by
         obtain ⟨g,hg,rfl⟩:=ED.mp ht
         have hgo:=kg hO g (Ft.mp hg).1
         have h2:=i5 [32] g
         have h3:=fE 8 g (fun t ht=>(hgo.2 t ht).le)
         have h4:=hgo.1
         simp only [D8,Ev] at h2
         omega)
        have h5:=List.length_filter_le (fun g:List (List Nat)=>!g.isEmpty) (lC D)
        rw [D5] at h1 ⊢
        simp only [D8,Ev]
        omega
       ·rw [yg hO]
        exact q _ (s2.trans (ag nlq))
    ·have K1:=hK.same s1
     refine ⟨_,rfl,by show 1<=sizeLine;decide,fun l2 n2=>?_⟩
     rw [BX] at *
     have s2:=ag (o:=.lst (wV [[[59],cp "gate"]])) n2
     have e2:(ax H1 l2 (.lst (wV [[[59],cp "gate"]]))) l2=some (.lst (wV [[[59],cp "gate"]])):=ad
     generalize ax H1 l2 (.lst (wV [[[59],cp "gate"]]))=H2 at *
     refine ⟨lw,l2,_,_,rfl,rfl,s2 _ _ ew,e2,?_,fun l3 n3=>?_⟩
     ·rw [dA,dA]
      unfold dJ gX
      simp only [D9,D5,D8,Ev]
      omega
     rw [<-gF]
     have s3:=ag (o:=.lst (wV (dJ D++gX D++[[[59],cp "gate"]]))) n3
     have e3:(ax H2 l3 (.lst (wV (dJ D++gX D++[[[59],cp "gate"]])))) l3=some (.lst (wV (dJ D++gX D++[[[59],cp "gate"]]))):=ad
     generalize ax H2 l3 (.lst (wV (dJ D++gX D++[[[59],cp "gate"]])))=H3 at *
     have K3:=K1.same (s2.trans s3)
     refine ⟨_,rfl,d,_,rfl,bv K3.dd K3.v8,l3,lg,_,_,rfl,rfl,e3,K3.eg,?_,fun l4 n4=>?_⟩
     ·rw [dA]
      unfold dJ gX ae
      simp only [D9,D5,D8,Ev]
      omega
     rw [<-mW,<-gF]
     generalize hgg:dJ D++gX D++[[[59],cp "gate"]]++D.gates.map (fun z=>[cp z])=gg
     have hggl:gg.length<=40:=by
      rw [<-hgg]
      unfold dJ gX
      simp only [D9,D5,D8,Ev]
      omega
     have s4:=ag (o:=.lst (wV gg)) n4
     have e4:(ax H3 l4 (.lst (wV gg))) l4=some (.lst (wV gg)):=ad
     generalize ax H3 l4 (.lst (wV gg))=H4 at *
     refine ⟨by show 1<=sizeLine;decide,fun l5 n5=>?_⟩
     rw [BY] at *
     have s5:=ag (o:=.lst (wV [[[59]]])) n5
     have e5:(ax H4 l5 (.lst (wV [[[59]]]))) l5=some (.lst (wV [[[59]]])):=ad
     generalize ax H4 l5 (.lst (wV [[[59]]]))=H5 at *
     refine ⟨l4,l5,_,_,rfl,rfl,s5 _ _ e4,e5,?_,fun l6 n6=>?_⟩
     ·rw [dA,dA]
      simp only [D8,Ev]
      omega
     rw [<-gF,<-hgg]
     refine ⟨l6,rfl,s1.trans (s2.trans (s3.trans (s4.trans (s5.trans (ag n6))))),?_⟩
     rw [ad]
     congr 3
     unfold ou
     simp
   ·have K1:=hK.same s1
    refine ⟨_,rfl,_,rfl,d,_,rfl,bv K1.dd K1.v5,lw,lp,_,_,rfl,rfl,ew,K1.ep,?_,fun l1 n1=>?_⟩
    ·rw [dA]
     unfold dJ ae
     simp only [D5,D8,Ev]
     omega
    rw [<-mW,<-gF]
    have s2:=ag (o:=.lst (wV (dJ D++D.places.map (fun z=>[cp z])))) n1
    have e2:(ax H1 l1 (.lst (wV (dJ D++D.places.map (fun z=>[cp z]))))) l1=some (.lst (wV (dJ D++D.places.map (fun z=>[cp z])))):=ad
    generalize ax H1 l1 (.lst (wV (dJ D++D.places.map (fun z=>[cp z]))))=H2 at *
    refine ⟨by show 1<=sizeLine;decide,fun l2 n2=>?_⟩
    rw [BW] at *
    have s3:=ag (o:=.lst (wV [[[59],cp "marks"]])) n2
    have e3:(ax H2 l2 (.lst (wV [[[59],cp "marks"]]))) l2=some (.lst (wV [[[59],cp "marks"]])):=ad
    generalize ax H2 l2 (.lst (wV [[[59],cp "marks"]]))=H3 at *
    refine ⟨l1,l2,_,_,rfl,rfl,s3 _ _ e2,e3,?_,fun l3 n3=>?_⟩
    ·rw [dA,dA]
     unfold dJ
     simp only [D9,D5,D8,Ev]
     omega
    rw [<-gF]
    generalize hgg:dJ D++D.places.map (fun z=>[cp z])++[[[59],cp "marks"]]=gg
    have hggl:gg.length<=40:=by
     rw [<-hgg]
     unfold dJ
     simp only [D9,D5,D8,Ev]
     omega
    have s4:=ag (o:=.lst (wV gg)) n3
    have e4:(ax H3 l3 (.lst (wV gg))) l3=some (.lst (wV gg)):=ad
    generalize ax H3 l3 (.lst (wV gg))=H4 at *
    have K4:=K1.same (s2.trans (s3.trans s4))
    refine ⟨_,rfl,d,_,rfl,bv K4.dd K4.v6,l3,lm,_,_,rfl,rfl,e4,K4.em,?_,fun l4 n4=>?_⟩
    ·rw [dA]
     unfold ae
     rw [D5]
     omega
    rw [<-mW,<-gF,<-hgg]
    refine ⟨l4,rfl,s1.trans (s2.trans (s3.trans (s4.trans (ag n4)))),?_⟩
    rw [ad]
    congr 3
  ·refine ⟨_,rfl,d,_,rfl,bv hK.dd hK.v1,_,rfl,cm (by omega),_,rfl,d,_,rfl,bv hK.dd hK.v2,_,rfl,cm (by omega),_,rfl,d,_,rfl,bv hK.dd hK.v3,_,rfl,cm (by omega),by show 7<=sizeLine;decide,fun lw nlw=>?_⟩
   exact ⟨lw,rfl,ag nlw,by rw [ad,BV]⟩
end
end L3
namespace L3
open PySem L2
theorem DY (va vb vc vd:V):∃ kv,da [] [(kS "place",va),(kS "mark",vb),(kS "number",vc),(kS "row",vd)]=kv/\aY kv (kS "place")=some va/\aY kv (kS "mark")=some vb/\aY kv (kS "number")=some vc/\aY kv (kS "row")=some vd:=by
 refine ⟨_,rfl,?_,?_,?_,?_⟩
 ·show aY (bh (bh (bh (bh [] (kS "place") va) (kS "mark") vb) (kS "number") vc) (kS "row") vd) _=_
  rw [bn (by decide +kernel),bn (by decide +kernel),bn (by decide +kernel),dN]
 ·show aY (bh (bh (bh (bh [] (kS "place") va) (kS "mark") vb) (kS "number") vc) (kS "row") vd) _=_
  rw [bn (by decide +kernel),bn (by decide +kernel),dN]
 ·show aY (bh (bh (bh (bh [] (kS "place") va) (kS "mark") vb) (kS "number") vc) (kS "row") vd) _=_
  rw [bn (by decide +kernel),dN]
 ·show aY (bh (bh (bh (bh [] (kS "place") va) (kS "mark") vb) (kS "number") vc) (kS "row") vd) _=_
  rw [dN]
theorem vZ (w:Nat):(1*2 ^ ((w:Int)).toNat:Int)=((2 ^ w:Nat):Int):=by
 rw [E6,Int.one_mul]
 norm_cast
inductive iI (vs:List V) (H:Hp) (Q:VK) (Z3:XK):Prop
 | mk (d ls D fn kvs lf lp lm lk lg ks st:_) (n:Nat):vs=[.ref d,.ref ls,.int n]->KpV H d D fn kvs lf lp lm lk lg ks->D.width<=24->H ls=some (.lst (ae st))->(∀ s∈st,s∈di)->st.length<=1000->(∀ l H',Same H H'->H l=none->H' l=some (.lst (db (st.map (dM D n))))->Q (.ref l) H')->iI vs H Q Z3
inductive Ao (vs:List V) (H:Hp) (Q:VK) (Z3:XK):Prop
 | mk (q d Hb D fn kvs lf lp lm lk lg ks:_) (n:Nat):vs=[.ref q,.ref d,.int n]->Strm H q->Same Hb H->Hb q=none->KpV Hb d D fn kvs lf lp lm lk lg ks->fK D fn->n<=1000->(∀ u r H',RowV H' u r->iq D n r->Strm H' q->But q H H'->Q u H')->Ao vs H Q Z3
inductive qe (vs:List V) (H:Hp) (Q:VK) (Z3:XK):Prop
 | mk (d u D fn kvs lf lp lm lk lg ks r:_) (n:Nat):vs=[.ref d,u]->KpV H d D fn kvs lf lp lm lk lg ks->fK D fn->RowV H u r->iq D n r->n<=1000->(∀ H',Same H H'->Q (.str (S (j7 D r))) H')->qe vs H Q Z3
theorem yX {α β γ:Type} {R:α->γ->Prop} (f:β->γ):∀ {xs:List α} {ys:List β},Paired R xs (ys.map f)->Paired (fun a b=>R a (f b)) xs ys
 | [],[],_=>.nil
 | _::_,_::_,.cons h t=>.cons h (yX f t)
theorem cy {H Hc H':Hp} {a:Addr} (na:H a=none) (sc:Same H Hc) (b:But a Hc H'):Same H H':=fun c o e=>b c o (sc c o e) (aG e na)
section
variable {P:Program} {w:World} {K:PySem.W.Frag} {mg:Str->Option Value} {base:Heap} {C Cp:Addr} {tb tm:Tok}
theorem scBounds:ay ["_law_table","_law_sorts","_law_rows","_law_some"] ["_law_table","_law_sorts","_law_rows"] (am jt):=⟨rfl,rfl,rfl,by decide +kernel,rfl,by decide +kernel,by decide +kernel⟩
theorem Dg:(["_law_sort","_law_some"]:List Str).Nodup:=by decide +kernel
set_option maxHeartbeats 4000000 in
theorem sZ {f:Addr} {fd:FuncData} (F:Fun K "_law_bounds" "_law_bounds" jt f fd) (B:Bl mg):aN P w K mg base cj 2 f fd ["_law_table","_law_sorts","_law_rows"] iI:=by
 refine F.ok scBounds (fun vs H Q E h=>?_) (fun cdv A outer s H vs Q E hr h=>?_)
 ·obtain ⟨d,ls,D,fn,kvs,lf,lp,lm,lk,lg,ks,st,n,rfl,_⟩:=h
  rfl
 ·obtain ⟨d,ls,D,fn,kvs,lf,lp,lm,lk,lg,ks,st,n,rfl,hK,hw,hls,hst,hsl,q⟩:=h
  have sz:(100000:Nat)<=sizeLine:=by decide
  have hu:=hJ hr
  refine ⟨_,af (aw (i:=3) scBounds.nd rfl (Or.inr rfl) (mt (cF ak (au aA (by rfl) B.len Ei (aa (br hu (pv 0) ak (fun _ _=>rfl)) ac)) (cF ak (au aA (by rfl) B.len Ei (aa (br hu (pv 0) ak (fun _ _=>rfl)) ac)) (cF ak (aH oW aj (br hu (pv 0) ak (fun _ _=>rfl))) (cF ak (aH bS (pv 2) aj) mq)))) rfl rfl (by intro z;cases z) (by show 4<=15;decide)))
   (ai (av (eG (N':=["_law_sort","_law_some"]) (ix:=[none,some 3]) (sc0:=am jt) (N:=["_law_table","_law_sorts","_law_rows","_law_some"]) rfl (by decide +kernel) (dP (pv 1)) (fun C' cl s H fp=>ar (i:=0) Dg rfl (Or.inl rfl) (.inr rfl)) (fun _ _ _ _ _=>cU) (fun C' cl s H fp=>br hu (pv 1) (pv 0) (fun _ _=>rfl))))),?_⟩
  refine fun ds nds=>?_
  have s1:=ag (o:=.dK []) nds
  have e1:(ax H ds (.dK [])) ds=some (.dK []):=ad
  have K1:=hK.same s1
  have hdsx:∀ o,(ax H ds o) ds=some o:=fun o=>ad
  refine ⟨_,rfl,d,_,rfl,bv K1.dd K1.v5,lp,_,rfl,.inl (SqL.of K1.ep),_,rfl,d,_,rfl,bv K1.dd K1.v6,lm,_,rfl,.inl (SqL.of K1.em),_,rfl,d,_,rfl,bv K1.dd K1.v1,_,_,rfl,rfl,⟨by omega,by omega,by decide⟩,_,rfl,_,_,rfl,rfl,e1,?_⟩
  obtain ⟨kv,ekv,h1,h2,h3,h4⟩:=DY (.int ((ae D.places).length:Nat)) (.int ((ae D.marks).length:Nat)) (.int (1*2 ^ ((D.width:Int)).toNat)) (.int ((n:Int)+1))
  refine ⟨[(kS "place",.int ((ae D.places).length:Nat)),(kS "mark",.int ((ae D.marks).length:Nat)),(kS "number",.int (1*2 ^ ((D.width:Int)).toNat)),(kS "row",.int ((n:Int)+1))],rfl,by show 4<=15;decide,?_⟩
  rw [ekv]
  have hv:∀ s∈di,aY kv (Sum.inr s)=some (.int (dM D n s:Nat)):=by
   intro s hs
   have hs':s∈(["place","mark","number","row"]:List Str):=hs
   simp only [Ej,Es,or_false] at hs'
   rcases hs' with rfl|rfl|rfl|rfl
   ·refine h1.trans ?_
    unfold dM ae
    rw [if_pos rfl,D5]
   ·refine h2.trans ?_
    unfold dM ae
    rw [if_neg (by decide +kernel),if_pos rfl,D5]
   ·refine h3.trans ?_
    unfold dM
    rw [if_neg (by decide +kernel),if_neg (by decide +kernel),if_pos rfl,vZ]
   ·refine h4.trans ?_
    unfold dM
    rw [if_neg (by decide +kernel),if_neg (by decide +kernel),if_neg (by decide +kernel)]
    rfl
  have s2:Same H (ax (ax H ds (.dK [])) ds (.dK kv)):=bY nds s1
  have e2:(ax (ax H ds (.dK [])) ds (.dK kv)) ds=some (.dK kv):=ad
  generalize ax (ax H ds (.dK [])) ds (.dK kv)=H2 at *
  refine ⟨_,rfl,ls,rfl,⟨_,SqL.of (s2 _ _ hls)⟩,?_⟩
  refine gM (K:=K) (a:=ls) (xs:=ae st) (fun i ys H'=>H'=H2/\ys=db ((st.take i).map (dM D n))) ⟨rfl,rfl⟩ (fun i ys H' hi ⟨a1,a2⟩=>by
    subst a1 a2
    refine ⟨SqL.of (s2 _ _ hls),?_⟩
    unfold db
    rw [D5,D5,Eh]
    omega) ?_ ?_
  ·rintro i x ys H3 hx ⟨rfl,rfl⟩
   obtain ⟨s,hsi,rfl⟩:∃ s,st[i]?=some s/\x=.str s:=by
    unfold ae at hx
    rw [Eb] at hx
    cases e:st[i]? with
    | none=>rw [e] at hx;cases hx
    | some g=>rw [e] at hx;exact ⟨g,rfl,(Eg hx).symm⟩
   refine ⟨⟨rfl,trivial⟩,c9 ?_⟩
   refine ⟨_,rfl,_,rfl,ds,_,rfl,bv e2 (hv s (hst s (Ex hsi))),Nx.mk (D7.mp hx).1 ⟨rfl,?_⟩⟩
   rw [EJ,hsi]
   unfold db
   simp
  ·rintro ys H3 ⟨rfl,rfl⟩ l nl
   have el:(ae st).length=st.length:=by unfold ae;rw [D5]
   rw [el,EI]
   exact q l _ (s2.trans (ag nl)) (s2.free nl) ad
theorem scSR:ay ["_law_stream_here","_law_table","_law_rows","_law_name","_law_sorts"] ["_law_stream_here","_law_table","_law_rows"] (am gO):=⟨rfl,rfl,rfl,by decide +kernel,rfl,by decide +kernel,by decide +kernel⟩
theorem Dh:(["_law_bound","_law_stream_here"]:List Str).Nodup:=by decide +kernel
set_option maxHeartbeats 4000000 in
theorem B5 {f:Addr} {fd:FuncData} (F:Fun K "_law_shape_row" "_law_shape_row" gO f fd) (B:Bl mg) (TK':Fn P w K mg base "_law_take" 1 ["_law_stream_here","_law_many"] gy) (BD:Fn P w K mg base "_law_bounds" 2 ["_law_table","_law_sorts","_law_rows"] iI):aN P w K mg base cj 3 f fd ["_law_stream_here","_law_table","_law_rows"] Ao:=by
 refine F.ok scSR (fun vs H Q E h=>?_) (fun cdv A outer s H vs Q E hr h=>?_)
 ·obtain ⟨q,d,Hb,D,fn,kvs,lf,lp,lm,lk,lg,ks,n,rfl,_⟩:=h
  rfl
 ·obtain ⟨q,d,Hb,D,fn,kvs,lf,lp,lm,lk,lg,ks,n,rfl,hq,sb,nq,hK,hO,hn,qq⟩:=h
  have sz:(100000:Nat)<=sizeLine:=by decide
  have hu:=hJ hr
  have hr1:Room 1 _:=hr.mono (by decide)
  refine ⟨_,af (fg (aP aK (br hu (pv 1) ak (fun _ _=>rfl)) (aC TK' hr1 rfl (aa (pv 0) (aa (au aA (by rfl) B.len Ei (aa (br hu (pv 1) ak (fun _ _=>rfl)) ac)) ac))) (fun _ _=>rfl)) (c0 rfl (az (ar (i:=3) scSR.nd rfl (Or.inl rfl)) (az (ar (i:=4) scSR.nd rfl (Or.inl rfl)) bD))))
   (ai (av (aW (aa (pv 3) (aa (aM bF (by rfl) B.tuple bH (aa (eG (N':=["_law_bound","_law_stream_here"]) (ix:=[none,some 0]) (sc0:=am gO) (N:=["_law_stream_here","_law_table","_law_rows","_law_name","_law_sorts"]) rfl (by decide +kernel) (dP (aC BD hr rfl (aa (pv 1) (aa (pv 4) (aa (pv 2) ac))))) (fun C' cl s H fp=>ar (i:=0) Dh rfl (Or.inl rfl) (.inr rfl)) (fun _ _ _ _ _=>cU) (fun C' cl s H fp=>aC TK' hr1 rfl (aa (pv 1) (aa (pv 0) ac)))) ac)) ac))))),?_⟩
  have K1:=hK.same sb
  have lks:=hK.kd.length
  have k1:=hO.k1
  have k8:=hO.fm.k8
  refine ⟨_,rfl,d,_,rfl,bv K1.dd K1.v7,_,rfl,_,rfl,d,_,rfl,bv K1.dd K1.v7,lk,_,rfl,.inl (SqL.of K1.ek),q,_,rfl,hq,by omega,by omega,fun j H1 hj g1 b1=>?_⟩
  have s1:=cy nq sb b1
  have K2:=hK.same s1
  have hju:ks[j]?=some ks[j]:=El hj
  obtain ⟨x,hxj,pt,l,eu,hpt,hl⟩:=gV K2.kd hju
  refine ⟨lk,_,_,_,rfl,rfl,SqL.of K2.ek,bE hju,pt,_,eu,SqT.of hpt,rfl,_,_,rfl,_,_,rfl,rfl,?_⟩
  have hxm:x∈D.kinds:=Ex hxj
  obtain ⟨st,efs,st3,hst⟩:=hO.kf x hxm
  have f3:=hO.f3
  have esn:x.fs.map (·.2)=st:=by rw [efs];exact cG _ _ (by omega)
  rw [esn] at hl
  refine ⟨_,rfl,_,rfl,_,rfl,_,rfl,d,l,D,fn,kvs,lf,lp,lm,lk,lg,ks,st,n,rfl,K2,hO.w24,hl,fun s hs=>(hst s hs).1,by omega,fun lb H2 s2 nlb elb=>?_⟩
  have g2:=g1.same s2
  have qlb:q≠lb:=g1.ne nlb
  refine ⟨lb,rfl,⟨_,SqL.of elb⟩,?_⟩
  have elen:(db (st.map (dM D n))).length=st.length:=by unfold db;rw [D5,D5]
  refine gM (K:=K) (a:=lb) (xs:=db (st.map (dM D n))) (fun i ys H'=>∃ ops:List Nat,Strm H' q/\But q H2 H'/\ys=db ops/\ops.length=i/\i<=st.length/\Paired (fun o s=>o < dM D n s) ops (st.take i)) ⟨[],g2,But.refl _ _,rfl,rfl,EM _,.nil⟩ (fun i ys H' hi ⟨ops,_,b',e1,e2,e3,_⟩=>⟨SqL.of (b' _ _ elb qlb.symm),by rw [e1];unfold db;rw [D5];omega⟩) ?_ ?_
  ·rintro i y ys H3 hy ⟨ops,g3,b3,rfl,lo,hi,hp⟩
   obtain ⟨bb,hbb,rfl⟩:=pX hy
   obtain ⟨s,hsi,rfl⟩:∃ s,st[i]?=some s/\bb=dM D n s:=by
    rw [Eb] at hbb
    cases e:st[i]? with
    | none=>rw [e] at hbb;cases hbb
    | some g=>rw [e] at hbb;exact ⟨g,rfl,(Eg hbb).symm⟩
   have hilt:i < st.length:=(D7.mp hsi).1
   have hs:=hst s (Ex hsi)
   have hpos:0 < dM D n s/\dM D n s < 18446744073709551616:=by
    have p1:=hO.p1
    have p4:=hO.fm.p4
    have m3:=hO.fm.m3
    have h2:2 ^ D.width<=2 ^ 24:=Fe (by decide) hO.w24
    have h3:0 < 2 ^ D.width:=Nat.pow_pos (by decide)
    unfold dM
    by_cases e1:s="place"
    ·rw [if_pos e1];omega
    rw [if_neg e1]
    by_cases e2:s="mark"
    ·rw [if_pos e2]
     have:=hs.2 e2
     omega
    rw [if_neg e2]
    split<;>omega
   refine ⟨⟨rfl,trivial⟩,c9 ?_⟩
   refine ⟨_,rfl,_,rfl,q,dM D n s,rfl,g3,hpos.1,hpos.2,fun o H4 ho g4 b4=>?_⟩
   refine Nx.mk (D7.mp hy).1 ⟨ops++[o],g4,b3.trans b4,by unfold db;rw [Ed];rfl,by rw [D9,lo];rfl,hilt,?_⟩
   rw [EJ,hsi]
   exact jd (R:=fun o s=>o < dM D n s) ho hp
  ·rintro ys H3 ⟨ops,g3,b3,rfl,lo,hi,hp⟩ lq nlq
   rw [elen,EI] at hp
   have s4:=ag (o:=.lst (db ops)) nlq
   have e4:(ax H3 lq (.lst (db ops))) lq=some (.lst (db ops)):=ad
   have g4:=g3.same s4
   generalize ax H3 lq (.lst (db ops))=H4 at *
   refine ⟨lq,_,rfl,.inl ⟨SqL.of e4,fun t nt=>?_⟩⟩
   have s5:=ag (o:=.tup (db ops)) nt
   have e5:(ax H4 t (.tup (db ops))) t=some (.tup (db ops)):=ad
   have g5:=g4.same s5
   generalize ax H4 t (.tup (db ops))=H5 at *
   refine ⟨by show 2<=sizeLine;decide,fun p np=>?_⟩
   have s6:=ag (o:=.tup [.str x.name,.ref t]) np
   rw [<-esn] at hp
   exact qq _ ⟨x,ops⟩ _ ⟨p,t,rfl,ad,s6 _ _ e5⟩ ⟨hxm,yX (R:=fun o s=>o < dM D n s) (fun f:Str×Str=>f.2) hp⟩ (g5.same s6) ((b1.trans ((iX s2).trans b3)).same (s4.trans (s5.trans s6)))
end
end L3
namespace XB
open PySem PySem.W PySem.Calls PyProof.Rows Builtin Builtin.ObjectAttr
abbrev bmV:List Value:=[.type "ValueError",.type "Exception",.type "BaseException",.type "object"]
section
variable {prog:Program} {w:World} {A:Around} {E:Value->Shared->Prop} {s:Shared} {K:Frag} {x C:Addr} {ox:Obj} {od:Option Obj} {name:Str} {expr:Bool}
theorem xga_run {tk:Tok} {v:Value} {R:Result->Shared->Prop} (X:K.In s.heap) (I:InstAt s.heap x ox C od) (hb:mroIn K C (.type "BaseException")=some true) (hf:findObj K C od name=some (.value v)) (hq:R (.ok (.ret v)) s) :
  codeAny (model prog w) A (.call (.builtin "BaseException.__getattribute__") ⟨[.ref x,.str name tk],[]⟩) R s:=by
 refine codeAny_call_builtin F.attr_ValueError.ga.plain F.entry_bexc_ga ?_
 refine @check_slot (model prog w) _ _ s "BaseException.__getattribute__" "BaseException" "__getattribute__" (.ref x) [.str name tk] [] _ (by decide +kernel) (by decide +kernel) (I.type.andThen (looks_mroIn X hb)) (F.args_bexc_ga (.ref x) (.str name tk)) ?_
 obtain ⟨hh,g,d,t,os⟩:=s
 have L0:=I.type (M:=model prog w)
 have L1:=looks_find (M:=model prog w) X I hf
 refine wpAny_bind (wpAny_pure (wpAny_bind (wpAny_pure (wpAny_bind (L0.at (wpAny_bind (L1.at ?_)))))))
 exact wpAny_pure hq
theorem xget_open {Q:Value->Shared->Prop} (X:K.In s.heap) (I:InstAt s.heap x ox C od) (hga:findIn K (.ref C) "__getattribute__"=some (some (.builtin "BaseException.__getattribute__"))) (hgt:findIn K (.ref C) "__getattr__"=some none)
  (h:codeAny (model prog w) A (.call (.builtin "BaseException.__getattribute__") ⟨[.ref x,.str name s.toks],[]⟩) (fun r s'=>match r with|.ok (.ret v)=>wpAny (model prog w) A (handedOut v) Q E s'|_=>False) { s with toks:=s.toks+1 }) :
  wpAny (model prog w) A (getAttr (.ref x) name expr) Q E s:=by
 obtain ⟨hh,g,d,t,os⟩:=s
 have L0:=I.type (M:=model prog w)
 have L1:=looks_findIn (M:=model prog w) X hga
 have L2:=looks_findIn (M:=model prog w) X hgt
 have hx2:(Value.builtin "BaseException.__getattribute__" == Value.builtin "object.__getattribute__")=false:=by decide +kernel
 unfold getAttr getAttrBy
 refine wpAny_bind (wpAny_mkText (wpAny_holding (wpAny_bind (L0.at (wpAny_bind (L1.at ?_))))))
 dsimp only
 rw [show (onTheHeap (Value.ref C) && Value.builtin "BaseException.__getattribute__" == Value.builtin "object.__getattribute__")=false by rw [hx2];rfl,if_neg (by decide)]
 unfold getAttrByItsOwn hookBefore
 rw [if_pos (show onTheHeap (Value.ref C)=true from rfl)]
 refine wpAny_bind (L2.at (wpAny_bind (wpAny_attempt (wpAny_holding ?_))))
 unfold callGetattribute
 rw [show (expr && onTheHeap (Value.builtin "BaseException.__getattribute__"))=false by cases expr<;>rfl,if_neg (by decide)]
 unfold boundAndCalled
 rw [F.attr_ValueError.ga.bind]
 refine wpAny_bind (wpAny_pure ?_)
 show wpAny _ _ (call (.builtin "BaseException.__getattribute__") [.ref x,.str name t]) _ _ _
 refine wpAny_call (codeAny_mono h fun r s' z=>?_)
 rcases r with e|(v|_|_|_)<;>first|exact z|exact z.elim
theorem xget_value {v:Value} {Q:Value->Shared->Prop} (X:K.In s.heap) (I:InstAt s.heap x ox C od) (hga:findIn K (.ref C) "__getattribute__"=some (some (.builtin "BaseException.__getattribute__"))) (hgt:findIn K (.ref C) "__getattr__"=some none)
  (hb:mroIn K C (.type "BaseException")=some true) (hf:findObj K C od name=some (.value v)) (hh:handedIn v=true) (h:Q v { s with toks:=s.toks+1 }):wpAny (model prog w) A (getAttr (.ref x) name expr) Q E s:=
 xget_open X I hga hgt (xga_run (s:={ s with toks:=s.toks+1 }) X I hb hf (handed_on hh h))
end
end XB
namespace XB
open PySem PySem.W PySem.Calls PyProof.Rows Builtin Builtin.ObjectAttr
section
variable {prog:Program} {w:World} {A:Around} {E:Value->Shared->Prop} {h:Heap} {g:Array GenState} {d:Drawn} {t:Nat} {os:OsState}
variable {nm q:Str} {C N x:Addr} {bs bm:List Value} {sn:List Str} {sub:List Value} {ab:Bool} {col:Option Bool} {dd:Option Addr} {k0 k1 k2 k3 k5:Option Value} {newId:String}
 {mA:Str->Option Value} {name:Str} {v:Value} {o:Obj}
def Tail (bm:List Value):Prop:=bm=bmV\/∃ R,bm=.ref R::bmV
theorem Tail.pass {bm:List Value} (T:Tail bm) (self:Value):refuseLoop self "__setattr__" bm=pure ():=by
 rcases T with rfl|⟨R,rfl⟩
 ·exact F.store_ValueError.passes self
 ·rw [refuseLoop_ref];exact F.store_ValueError.passes self
theorem Tail.has {bm:List Value} (T:Tail bm) (C:Addr) (n:String) (b:Bool) (e:bmV.contains (.type n)=b):(Value.ref C::bm).contains (.type n)=b:=by
 rcases T with rfl|⟨R,rfl⟩
 ·rw [List.contains_cons,e];rfl
 ·rw [List.contains_cons,List.contains_cons,e];rfl
theorem xstore_new {tk:Tok} {Q:Fin->Shared->Prop} (T:Tail bm) (hC:h.get? C=some (excClassObj nm q C N bs bm true sn sub ab col dd k0 k1 k2 k3 k5 newId)) (LN:Looks (model prog w) h (typeLookup (.ref C) name) none)
  (hx:h.get? x=some o) (hc:o.cls=.ref C) (hnc:∀ c,o.data≠.cls c) (hdn:o.dict=none)
  (hq:∀ h' tk',h'.get? x=some { cls:=o.cls,dict:=some h.objs.size,data:=o.data,slots:=o.slots }->h'.Ns1 h.objs.size (fun y=>if y=name then some v else none)->(∀ b ob,b≠x->h.get? b=some ob->h'.get? b=some ob)->Q (.done (.ret .none)) ⟨h',g,d,tk',os⟩) :
  wpAny (model prog w) A (Builtin.«object.__setattr__» ⟨[.ref x,.str name tk,v],[]⟩) Q E ⟨h,g,d,t,os⟩:=by
 have hpass:=T.pass (.ref x)
 unfold Builtin.«object.__setattr__»
 repeat (first|rw [refuse_eq]|(rw [refuseLoop_ref,hpass])|(with_reducible refine wpAny_loadPart_at hx ?_;rw [hc])|with_reducible refine wpAny_mroOf_exc hC ?_|with_reducible refine LN.at ?_|wp_step)
 rw [hdn,if_neg (by simp [typeHasDict])]
 split
 ·rename_i hcd
  cases hcd
 split
 ·rename_i c hcd
  exact absurd hcd (hnc c)
 ·have hx₁:(h.push { cls:=.type "dict",data:=.dict #[] }).get? x=some o:=D6 _ hx
  have hxs:x≠h.objs.size:=Ey (Ef hx)
  refine wpAny_bind (wpAny_alloc' ?_)
  refine wpAny_bind (wpAny_update' hx₁ ?_)
  refine wpAny_pure ?_
  have hgd:((h.push { cls:=.type "dict",data:=.dict #[] }).update x fun o=>{ cls:=o.cls,dict:=some h.objs.size,data:=o.data,slots:=o.slots }).get? h.objs.size
    = some { cls:=.type "dict",data:=.dict #[] }:=
   (Heap.get?_update_ne _ _ _ _ hxs.symm).trans (Heap.get?_push_at rfl rfl)
  have hnd:((h.push { cls:=.type "dict",data:=.dict #[] }).update x fun o=>{ cls:=o.cls,dict:=some h.objs.size,data:=o.data,slots:=o.slots }).Ns h.objs.size (fun _=>none):=
   ⟨_,#[],_,hgd,rfl,fun e he=>absurd he (by simp),fun _=>rfl⟩
  show wpAny _ _ (storeInDict h.objs.size (.str name tk) name v) _ _ _
  unfold storeInDict newKeyGuard
  refine wpAny_bind (wpAny_pure (wpAny_bind (wpAny_nsSet1 (Heap.Ns1.of_empty hnd) fun h' hn' hs=>?_)))
  obtain ⟨oD,esD,epD,hoD,hdD,hcD⟩:=hn'.count (Within.cons name v Within.nil)
  refine wpAny_bind (wpAny_lookBehind hoD (by rw [hdD];exact pastItsLine_dict (Ew hcD (by rw [D8,Ev,sizeLine_eq];omega))) ?_)
  wp_walk
  refine hq h' _ ?_ hn' (fun b ob hbx hb=>?_)
  ·refine (hs.2 x hxs).trans (Heap.get?_update_self _ hx₁ ?_)
   have hfr:=(Heap.get?_some_iff.mp hx).2
   obtain ⟨oc,od,odt,osl⟩:=o
   cases odt<;>first|rfl|exact hfr
  ·exact (hs.2 b (Ey (Ef hb))).trans ((Heap.get?_update_ne _ _ _ _ hbx).trans (D6 _ hb))
theorem xstore_old {tk:Tok} {Q:Fin->Shared->Prop} {dx:Addr} {ns:List Str} (T:Tail bm) (hC:h.get? C=some (excClassObj nm q C N bs bm true sn sub ab col dd k0 k1 k2 k3 k5 newId)) (LN:Looks (model prog w) h (typeLookup (.ref C) name) none)
  (hx:h.get? x=some o) (hc:o.cls=.ref C) (hdx:o.dict=some dx) (hns:h.Ns1 dx mA) (hw:Within mA ns) (hsz:ns.length < sizeLine)
  (hq:∀ h' tk',h'.Ns1 dx (fun y=>if y=name then some v else mA y)->Heap.SameBut dx h h'->Q (.done (.ret .none)) ⟨h',g,d,tk',os⟩) :
  wpAny (model prog w) A (Builtin.«object.__setattr__» ⟨[.ref x,.str name tk,v],[]⟩) Q E ⟨h,g,d,t,os⟩:=by
 have hpass:=T.pass (.ref x)
 unfold Builtin.«object.__setattr__»
 repeat (first|rw [refuse_eq]|(rw [refuseLoop_ref,hpass])|(with_reducible refine wpAny_loadPart_at hx ?_;rw [hc])|with_reducible refine wpAny_mroOf_exc hC ?_|with_reducible refine LN.at ?_|wp_step)
 rw [hdx]
 refine wpAny_pure ?_
 show wpAny _ _ (storeInDict dx (.str name tk) name v) _ _ _
 unfold storeInDict newKeyGuard
 refine wpAny_bind (wpAny_pure (wpAny_bind (wpAny_nsSet1 hns fun h' hn' hs=>?_)))
 obtain ⟨oD,esD,epD,hoD,hdD,hcD⟩:=hn'.count (Within.cons name v hw)
 refine wpAny_bind (wpAny_lookBehind hoD (by rw [hdD];exact pastItsLine_dict (Ew hcD (by rw [D8];omega))) ?_)
 wp_walk
 exact hq h' _ hn' hs
theorem xset_open {Q:Unit->Shared->Prop} {K:Frag} {od:Option Obj} (X:K.In h) (I:InstAt h x o C od) (hs:findIn K (.ref C) "__setattr__"=some (some (.builtin "object.__setattr__"))) (ho:mroIn K C (.type "object")=some true)
  (hq:∀ A',wpAny (model prog w) A' (Builtin.«object.__setattr__» ⟨[.ref x,.str name t,v],[]⟩) (fun f s'=>f=.done (.ret .none)/\Q () s') (fun _ _=>False) ⟨h,g,d,t+1,os⟩) :
  wpAny (model prog w) A (setAttr (.ref x) name v) Q E ⟨h,g,d,t,os⟩:=by
 refine set_plain X I hs ?_
 refine codeAny_call_builtin F.store_ValueError.slot.plain F.store_ValueError.entry ?_
 refine @check_slot (model prog w) _ _ ⟨h,g,d,t+1,os⟩ "object.__setattr__" "object" "__setattr__" (.ref x) [.str name t,v] [] _ F.store_ValueError.kind F.store_ValueError.split (I.type.andThen (looks_mroIn X ho)) (F.store_ValueError.args (.ref x) (.str name t) v) ?_
 refine wpAny_mono (hq _) (fun f s' z=>?_) fun _ _ z=>z.elim
 obtain ⟨rfl,z⟩:=z
 exact z
theorem xcheck_new {M:Model} {rest:List Value} {Q:Unit->Shared->Prop} (T:Tail bm) (hC:h.get? C=some (excClassObj nm q C N bs bm true sn sub ab col dd k0 k1 k2 k3 k5 "ValueError.__new__"))
  (hq:Q () ⟨h,g,d,t,os⟩):wpAny M A (checkBuiltinCall "ValueError.__new__" ⟨.ref C::rest,[]⟩) Q E ⟨h,g,d,t,os⟩:=by
 have F:=F.excBase_ValueError
 have hcont:=T.has C "ValueError" true (by decide +kernel)
 have hstar:=F.noStar
 simp only [checkBuiltinCall,F.newKind,F.newSplit,F.newRow]
 repeat (first|refine wpAny_loadPart_at hC ?_|(refine wpAny_isSubtype_exc hC ?_;rw [hcont])|refine wpAny_staticBase_exc hC ?_|refine wpAny_madeBy_exc hC ?_|simp only [bne_self_eq_false,Bool.false_eq_true,if_false]|wp_step)
 exact hq
theorem xnew {R:Result->Shared->Prop} {rest:List Value} (T:Tail bm) (hC:h.get? C=some (excClassObj nm q C N bs bm true sn sub ab col dd k0 k1 k2 k3 k5 "ValueError.__new__"))
  (hq:R (.ok (.ret (.ref (h.objs.size+1)))) ⟨(h.push { cls:=.type "tuple",data:=.seq rest.toArray }).push
   { cls:=.ref C,data:=.fields #[.ref h.objs.size,.none,.none,.none,.bool false,.none] },g,d,t,os⟩) (hrest:rest.length<=sizeLine) :
  codeAny (model prog w) A (.builtin "ValueError.__new__" ⟨.ref C::rest,[]⟩) R ⟨h,g,d,t,os⟩:=by
 have F:=F.excBase_ValueError
 have hends:=F.ends
 have hcB:=T.has C "ValueError" true (by decide +kernel)
 have hcA:=T.has C "AttributeError" false (by decide +kernel)
 have hcN:=T.has C "NameError" false (by decide +kernel)
 refine codeAny_builtinAt F.entry ?_
 unfold Builtin.«BaseException.__new__»
 refine PySem.wpAt_bind ?_
 show PySem.wpAt _ _ _ (stack >>= _) _ _ _
 refine PySem.wpAt_bind (PySem.wpAt_stack fun p below=>PySem.wpAt_of_wpAny ?_)
 wp_walk
 refine PySem.wpAt_of_wpAny ?_
 rw [F.owner]
 repeat (first|with_reducible refine wpAny_madeHere_exc F.canon hC ?_|with_reducible refine wpAny_loadPart_at hC ?_|(with_reducible refine wpAny_isSubtype_exc hC ?_;first|rw [hcB]|rw [hcA]|rw [hcN])|wp_step)
 show R _ _
 rw [E2]
 exact hq
abbrev tupO (rest:List Value):Obj:={ cls:=.type "tuple",data:=.seq rest.toArray }
abbrev excO (C:Addr) (a:Addr):Obj:={ cls:=.ref C,data:=.fields #[.ref a,.none,.none,.none,.bool false,.none] }
theorem xmake_type {rest:List Value} {fI:Addr} {oI:Obj} {Q:Fin->Shared->Prop} (T:Tail bm) (hC:h.get? C=some (excClassObj nm q C N bs bm true sn sub ab col dd k0 k1 k2 k3 k5 "ValueError.__new__"))
  (LI:Looks (model prog w) h (typeLookup (.ref C) "__init__") (some (.ref fI))) (hfI:h.get? fI=some oI) (hfc:oI.cls=.type "function")
  (hq:wpAny (model prog w) A (call (.ref fI) (.ref (h.objs.size+1)::rest)) (fun r s'=>r=.none/\Q (.done (.ret (.ref (h.objs.size+1)))) s') E ⟨(h.push (tupO rest)).push (excO C h.objs.size),g,d,t,os⟩) (hrest:rest.length<=sizeLine) :
  wpAny (model prog w) A (Builtin.«type.__call__» ⟨.ref C::rest,[]⟩) Q E ⟨h,g,d,t,os⟩:=by
 have F:=F.excBase_ValueError
 repeat (first|with_reducible refine wpAny_loadPart_at hC ?_|with_reducible refine wpAny_madeBy_exc hC ?_|wp_step)
 refine codeAny_call_builtin_code (Code.quiet_builtin _ F.quiet) (xcheck_new T hC ?_)
 refine xnew T hC ?_ hrest
 show wpAny _ _ _ _ _ _
 have kp:∀ b o,h.get? b=some o->((h.push (tupO rest)).push (excO C h.objs.size)).get? b=some o:=fun b o hb=>D6 _ (D6 _ hb)
 have hC₁:=kp _ _ hC
 have hfI₁:=kp _ _ hfI
 have hget:((h.push (tupO rest)).push (excO C h.objs.size)).get? (h.objs.size+1)=some (excO C h.objs.size):=by heap_get
 have hcC:(Value.ref C::bm).contains (.ref C)=true:=by simp
 unfold isInstance
 repeat (first|with_reducible refine wpAny_loadPart_at hget ?_|(with_reducible refine wpAny_isSubtype_exc hC₁ ?_;rw [hcC])|wp_step)
 show wpAny _ _ (typeLookup (.ref C) _) _ _ _
 refine LI _ _ _ _ kp ?_
 refine wpAny_holding (wpAny_bind ?_)
 unfold bindSpecial
 refine wpAny_bind (wpAny_typeOf (T:="function") ⟨_,hfI₁,hfc⟩ ?_)
 rw [if_pos (by decide)]
 refine wpAny_pure (wpAny_bind (wpAny_mono hq (fun r s' hr=>?_) fun _ _ x=>x))
 obtain ⟨rfl,hQ⟩:=hr
 wp_walk
 exact hQ
theorem xmake {rest:List Value} {fI:Addr} {oI:Obj} {Q:Value->Shared->Prop} (T:Tail bm) (hC:h.get? C=some (excClassObj nm q C N bs bm true sn sub ab col dd k0 k1 k2 k3 k5 "ValueError.__new__"))
  (LI:Looks (model prog w) h (typeLookup (.ref C) "__init__") (some (.ref fI))) (hfI:h.get? fI=some oI) (hfc:oI.cls=.type "function")
  (hq:wpAny (model prog w) (A.under (.builtin "type.__call__" ⟨.ref C::rest,[]⟩)) (call (.ref fI) (.ref (h.objs.size+1)::rest)) (fun r s'=>r=.none/\Q (.ref (h.objs.size+1)) s') E ⟨(h.push (tupO rest)).push (excO C h.objs.size),g,d,t,os⟩)
  (hrest:rest.length<=sizeLine) :
  wpAny (model prog w) A (call (.ref C) rest) Q E ⟨h,g,d,t,os⟩:=by
 have f1:=tc_lookup
 have f2:=tc_bind (.ref C)
 have hT:(⟨h,g,d,t,os⟩:Shared).TypeIs (.ref C) "type":=⟨_,hC,rfl⟩
 refine wpAny_call (codeAny_of_tree ?_)
 show wpAny _ _ (callAny (.ref C) _) _ _ _
 repeat (any_goals (first|assumption|with_reducible refine wpAny_loadPart_at hC ?_|wp_step))
 refine ⟨rfl,?_⟩
 refine codeAny_call_builtin_at (Code.quiet_builtin _ (by decide +kernel)) entry_typeCall (wpAny_check_type_call_sub hC (xmake_type T hC LI hfI hfc ?_ hrest))
 exact hq
end
end XB
namespace XB
open PySem PySem.W PySem.Calls PyProof.Rows Builtin Builtin.ObjectAttr
section
variable {prog:Program} {w:World} {A:Around} {E:Value->Shared->Prop} {h:Heap} {g:Array GenState} {d:Drawn} {t:Nat} {os:OsState}
variable {nm q:Str} {C N x:Addr} {bs bm:List Value} {sn:List Str} {sub:List Value} {ab:Bool} {col:Option Bool} {dd:Option Addr} {k0 k1 k2 k3 k5:Option Value} {newId:String}
 {mA:Str->Option Value} {name:Str} {v:Value} {o:Obj}
theorem xinit {R:Result->Shared->Prop} {rest:List Value} {vs:Array Value} {a0:Addr} (T:Tail bm) (hC:h.get? C=some (excClassObj nm q C N bs bm true sn sub ab col dd k0 k1 k2 k3 k5 newId)) (hx:h.get? x=some o) (hc:o.cls=.ref C)
  (hd:o.data=.fields vs) (h0:vs[0]?=some (.ref a0)) (hrest:rest.length<=sizeLine)
  (hq:∀ h' vs',(∀ b ob,b≠x->h.get? b=some ob->h'.get? b=some ob)->h'.get? x=some { cls:=o.cls,dict:=o.dict,data:=.fields vs',slots:=o.slots }->(∃ a,vs'[0]?=some (.ref a)/\vs'[1]?=vs[1]?)->R (.ok (.ret .none)) ⟨h',g,d,t,os⟩) :
  codeAny (model prog w) A (.call (.builtin "ValueError.__init__") ⟨.ref x::rest,[]⟩) R ⟨h,g,d,t,os⟩:=by
 have F:=F.excBase_ValueError
 have hcB:=T.has C "ValueError" true (by decide +kernel)
 have hshort:=F.noStar
 refine codeAny_call_builtin F.init.plain F.initEntry ?_
 simp only [checkBuiltinCall,F.initKind,F.initSplit,F.initRow]
 repeat (first|(with_reducible refine wpAny_loadPart_at hx ?_;rw [hc])|(with_reducible refine wpAny_isSubtype_exc hC ?_;rw [hcB])|wp_step)
 refine wpAny_onRaise ?_
 rw [show ∀ (a b:String) (n:Nat),Bind.check ⟨.positional,"*","ValueError",.self,[⟨"args",.varPos,false⟩]⟩ a b n (List.map (fun x=>x.fst) ({ pos:=Value.ref x::rest }:Args).kw)=pure () from
  fun a b n=>check_star_args _ _ _ _ _ _]
 refine wpAny_pure ?_
 wp_walk
 rw [hd]
 repeat (any_goals (first|assumption|rw [h0]|wp_step))
 rw [hd]
 have hsz:0 < vs.size:=by
  have:=(Array.getElem?_eq_some_iff.mp h0).1
  exact this
 dsimp only
 rw [if_pos hsz]
 have hx₁:(h.push (tupO rest)).get? x=some o:=D6 _ hx
 refine wpAny_update' hx₁ ?_
 repeat (any_goals (first|assumption|wp_step))
 have hfr:=(Heap.get?_some_iff.mp hx).2
 refine hq _ (vs.setIfInBounds 0 (.ref h.objs.size)) (fun b ob hb e=>?_) ?_ ⟨h.objs.size,?_,?_⟩
 ·rw [Heap.get?_update_ne _ _ _ _ hb]
  exact D6 _ e
 ·rw [Heap.get?_update_self _ hx₁ (by obtain ⟨oc,od,odt,osl⟩:=o;cases hd;rfl)]
  obtain ⟨oc,od,odt,osl⟩:=o
  cases hd
  rfl
 ·simp [hsz]
 ·exact Array.getElem?_setIfInBounds_ne (by decide)
theorem val_cls {K:Frag}:findCls K (.type "ValueError") (.type "type") "__init__"=some (.val (.builtin "ValueError.__init__")):=by rfl
theorem val_opaque {M:Model} {h:Heap}:Looks M h (opaqueClassAbove (.type "ValueError")) none:=Looks.of_pure (by kernel_rfl)
theorem val_type {M:Model} {h:Heap}:Looks M h (typeOf (.type "ValueError")) (.type "type"):=Looks.of_pure (by kernel_rfl)
theorem val_method {K:Frag} {s:Shared} {pl:Sem Bool} {Q:Value×List Value->Shared->Prop} (X:K.In s.heap) (hq:Q (.builtin "ValueError.__init__",[]) { s with toks:=s.toks+1 }) :
  wpAny (model prog w) A (getMethod (.type "ValueError") "__init__" pl) Q E s:=by
 unfold getMethod specialOf
 refine wpAny_bind (wpAny_bind (val_type.here ?_))
 have L:Looks (model prog w) s.heap (typeLookup (.type "type") "__getattribute__") (some (.builtin "type.__getattribute__")):=Looks.of_pure KF.slot_tga.lookup
 refine L.here ?_
 dsimp only
 rw [if_pos canon_tga]
 refine wpAny_bind (cls_open (K:=K) (mc:=.type "type") (hook:=none) X val_opaque val_type (by rfl) (looks_hook X (by rfl)) (by rfl) val_cls ?_)
 exact wpAny_pure (handed_on rfl (wpAny_pure hq))
theorem own_method {K:Frag} {s:Shared} {pl:Sem Bool} {f C:Addr} {name:Str} {Q:Value×List Value->Shared->Prop} (X:K.In s.heap) (hr:readsIn K C (.type "type")=true) (hf:findCls K (.ref C) (.type "type") name=some (.val (.ref f)))
  (hq:Q (.ref f,[]) { s with toks:=s.toks+1 }):wpAny (model prog w) A (getMethod (.ref C) name pl) Q E s:=by
 have hs:specialIn K (.ref C) "__getattribute__"=some (some (.builtin "type.__getattribute__")):=by
  have hr':=hr
  simp only [readsIn,EB,beq_iff_eq] at hr'
  obtain ⟨⟨⟨⟨a,b⟩,c'⟩,d⟩,f⟩:=hr'
  unfold specialIn
  rw [b,Option.bind_some]
  exact c'
 exact method_cls X hs (cls_value X hr hf rfl hq)
end
end XB
namespace L2
open PySem PySem.Spec PyProof.Rows
def XO (e C:Addr) (d:Option Addr) (r:Bool) (h:Heap):Prop:=∃ (vs:Array Value) (a0:Addr),h.get? e=some { cls:=.ref C,dict:=d,data:=.fields vs }/\vs[0]?=some (.ref a0)/\(r=false->vs[1]?=some .none)
def DX (dx:Addr) (fs:List (Str×V)) (h:Heap):Prop:=∃ mA,h.Ns1 dx mA/\(∀ f,RelO (fs.lookup f) (mA f))/\PySem.Within mA (fs.map (·.1))
def XAt (H:Hp) (e C:Addr) (d:Option Addr) (r:Bool) (fs:List (Str×V)):Prop:=H e=some (.ext (XO e C d r))/\fs.length<=1000/\match d with|none=>fs=[]|some dx=>dx≠e/\H dx=some (.ext (DX dx fs))
structure XC (K:PySem.W.Frag) (C:Addr) (nm:Str) (bm:List Value):Prop where
 tl:XB.Tail bm
 obj:∃ q N bs sn sub ab col dd k0 k1 k2 k3 k5,K.lookup C=some (excClassObj nm q C N bs bm true sn sub ab col dd k0 k1 k2 k3 k5 "ValueError.__new__")
 ga:PySem.W.findIn K (.ref C) "__getattribute__"=some (some (.builtin "BaseException.__getattribute__"))
 gt:PySem.W.findIn K (.ref C) "__getattr__"=some none
 sa:PySem.W.findIn K (.ref C) "__setattr__"=some (some (.builtin "object.__setattr__"))
 cl:PySem.W.findIn K (.ref C) "__class__"=some (some (.builtin "object.__class__"))
section
variable {K:PySem.W.Frag} {C:Addr} {nm:Str} {bm:List Value}
theorem XC.clsIn (c:XC K C nm bm):∃ cd,PySem.W.clsIn K C=some cd/\cd.mro=.ref C::bm/\cd.hasDict=true:=by
 obtain ⟨q,N,bs,sn,sub,ab,col,dd,k0,k1,k2,k3,k5,l⟩:=c.obj
 refine ⟨_,by unfold PySem.W.clsIn;rw [l],rfl,rfl⟩
theorem XC.mro (c:XC K C nm bm) (n:String) (b:Bool) (e:XB.bmV.contains (.type n)=b):PySem.W.mroIn K C (.type n)=some b:=by
 obtain ⟨cd,h,m,_⟩:=c.clsIn
 unfold PySem.W.mroIn
 rw [h,Option.bind_some,m]
 show (if false=true then _ else _)=_
 rw [if_neg (by decide),c.tl.has C n b e]
end
section
variable {X:Cx} {pins:List (Addr×Obj)} {σ:St} {H:Hp} {s:Shared} {e C dx:Addr} {d:Option Addr} {rr:Bool} {nm:Str} {bm:List Value} {fs:List (Str×V)} {f:Str} {v:V} {A:Around} {E:Value->Shared->Prop}
theorem XAt.obj (x:XAt H e C d rr fs) (I:Inv X pins σ H s):∃ (vs:Array Value) (a0:Addr),s.heap.get? e=some { cls:=.ref C,dict:=d,data:=.fields vs }/\vs[0]?=some (.ref a0)/\(rr=false->vs[1]?=some .none):=by
 obtain ⟨p,_,_⟩:=(show ObjOk X.prog X.w H s.heap e (.ext (XO e C d rr)) from I.hok e _ x.1)
 exact p
theorem XAt.dict (x:XAt H e C (some dx) rr fs) (I:Inv X pins σ H s):∃ mA,s.heap.Ns1 dx mA/\(∀ f,RelO (fs.lookup f) (mA f))/\PySem.Within mA (fs.map (·.1)):=by
 obtain ⟨_,_,_,h⟩:=x
 obtain ⟨p,_,_⟩:=(show ObjOk X.prog X.w H s.heap dx (.ext (DX dx fs)) from I.hok dx _ h)
 exact p
theorem tj {b:Bool} {Q:Value->Shared->Prop} (I:Inv X pins σ H s) (x:XAt H e C (some dx) rr fs) (c:XC X.K C nm bm) (n:NoAttr X.K C f) (l:fs.lookup f=some v)
  (h:∀ u s',Inv X pins σ H s'->RelV v u->Q u s'):wpAny (model X.prog X.w) A (getAttr (.ref e) f b) Q E s:=by
 obtain ⟨mA,ns,r,_⟩:=x.dict I
 obtain ⟨vs,a0,ho,_⟩:=x.obj I
 obtain ⟨u,hu,ru⟩:=RelO.some_of (v:=v) (o:=mA f) (by rw [<-l];exact r f)
 obtain ⟨od,hd,lk⟩:=iK ns
 obtain ⟨cd,hc,m,hh⟩:=c.clsIn
 have hf:PySem.W.findObj X.K C (some od) f=some (.value u):=by
  unfold PySem.W.findObj
  rw [hc,Option.bind_some,show PySem.W.findIn X.K (.ref C) f=some none from n,Option.bind_some]
  show ((PySem.W.ownOf cd (some od) f).bind _)=_
  have ho:PySem.W.ownOf cd (some od) f=some (some u):=by
   unfold PySem.W.ownOf
   rw [hh,if_pos rfl]
   show PySem.W.lookIn f od=_
   rw [lk f,hu]
  rw [ho]
  rfl
 exact XB.xget_value I.kIn (ox:={ cls:=.ref C,dict:=some dx,data:=.fields vs }) (od:=some od) ⟨ho,rfl,rfl,hd⟩ c.ga c.gt (c.mro "BaseException" true (by decide +kernel)) hf (kM ru) (h u _ (I.tok _) ru)
theorem Inv.two {h':Heap} {t':Nat} {D:Addr} {o1 o2:HO} {φ:Heap->Prop} (I:Inv X pins σ H s) (he:H e=some (.ext φ)) (hD:s.heap.objs.size<=D) (k:∀ b u,b≠e->s.heap.get? b=some u->h'.get? b=some u) (heo:∃ u,h'.get? e=some u)
  (n1:ObjOk X.prog X.w (ax (ax H e o1) D o2) h' e o1) (n2:ObjOk X.prog X.w (ax (ax H e o1) D o2) h' D o2):Inv X pins σ (ax (ax H e o1) D o2) { s with heap:=h',toks:=t' }:=by
 have hn:=I.hok.fresh hD
 have neD:e≠D:=aG he hn
 have old:∀ b o,H b=some o->b≠e->ax (ax H e o1) D o2 b=some o:=fun b o hb ne=>by rw [ao (aG hb hn),ao ne];exact hb
 have nt:∀ b o,H b=some o->(∀ ψ,o≠.ext ψ)->b≠e:=fun b o hb ne z=>by
  rw [z,he] at hb
  exact ne _ (Eg hb).symm
 refine I.un ⟨?_,?_,?_,?_,?_,?_,?_⟩ ?_
 ·intro b o q hb _ _
  exact k b o (fun z=>by rw [z,he] at hb;cases hb) q
 ·intro b o q hb _ _
  exact ⟨o.slots,k b o (fun z=>by rw [z,he] at hb;cases hb) q⟩
 ·intro b o q hb _
  have h1:b≠e:=fun z=>by rw [z,he] at hb;cases hb
  have h2:b≠D:=fun z=>by
   rw [z] at q
   exact absurd (Ef q) (Nat.not_lt_of_le hD)
  rw [ao h2,ao h1]
  exact hb
 ·intro b o q _
  by_cases z:b=e
  ·rw [z];exact heo
  ·exact ⟨o,k b o z q⟩
 ·intro b xs hb
  exact old b _ hb (nt b _ hb (fun ψ z=>nomatch z))
 ·intro b o u hb
  exact old b _ hb (nt b _ hb (fun ψ z=>nomatch z))
 ·intro b ps hb
  refine ⟨#[],?_⟩
  rw [Array.append_empty]
  exact old b _ hb (nt b _ hb (fun ψ z=>nomatch z))
 ·intro a o ha
  by_cases hd:a=D
  ·subst hd
   rw [ad] at ha
   cases ha
   exact n2
  ·rw [ao hd] at ha
   by_cases hx:a=e
   ·subst hx
    rw [ad] at ha
    cases ha
    exact n1
   ·rw [ao hx] at ha
    refine (I.hok a o ha).stay (fun b u hb q=>k b u ?_ q) (fun b hb=>old b _ hb (nt b _ hb (fun ψ z=>nomatch z))) (fun b xs hb=>old b _ hb (nt b _ hb (fun ψ z=>nomatch z)))
    rcases hb with rfl|hb
    ·exact hx
    ·exact nt b _ hb (fun ψ z=>nomatch z)
structure B6 (H H':Hp) (e C:Addr) (d:Option Addr) (r:Bool) (d':Addr) (fs:List (Str×V)):Prop where
 at_:XAt H' e C (some d') r fs
 keep:∀ b o,H b=some o->b≠e->some b≠d->H' b=some o
 new:d=none->H d'=none
 old:∀ dx,d=some dx->d'=dx
theorem ir {P:Program} {w:World} {H:Hp} {h:Heap} {a:Addr} {φ:Heap->Prop} (p:φ h) (o:∃ o,h.get? a=some o) (st:∀ h1 h2:Heap,φ h1->(∀ o,h1.get? a=some o->h2.get? a=some o)->φ h2):ObjOk P w H h a (.ext φ):=⟨p,o,st⟩
theorem XO.stay {e C:Addr} {d:Option Addr} {r:Bool}:∀ h1 h2:Heap,XO e C d r h1->(∀ o,h1.get? e=some o->h2.get? e=some o)->XO e C d r h2:=fun h1 h2 ⟨vs,a0,h,z⟩ k=>⟨vs,a0,k _ h,z⟩
theorem DX.stay {dx:Addr} {fs:List (Str×V)}:∀ h1 h2:Heap,DX dx fs h1->(∀ o,h1.get? dx=some o->h2.get? dx=some o)->DX dx fs h2:=fun h1 h2 ⟨mA,n,r⟩ k=>⟨mA,n.at k,r⟩
theorem rm {mA:Str->Option Value} {u:Value} {y:V} (r:∀ f,RelO (fs.lookup f) (mA f)) (ry:RelV y u) (g:Str):RelO ((aJ f y fs).lookup g) (if g=f then some u else mA g):=by
 rw [fV]
 by_cases q:g=f
 ·rw [if_pos q,if_pos q];exact ry
 ·rw [if_neg q,if_neg q];exact r g
theorem kh {mA:Str->Option Value} {u:Value} {y:V} (wi:PySem.Within mA (fs.map (·.1))):PySem.Within (fun g=>if g=f then some u else mA g) ((aJ f y fs).map (·.1)):=fun g hg=>by
 by_cases q:g=f
 ·rw [q];exact (eV f y fs).1
 ·refine (eV f y fs).2 g (wi g fun z=>hg ?_)
  show (if g=f then some u else mA g)=none
  rw [if_neg q];exact z
theorem tq {y:V} {u:Value} {Q:Unit->Shared->Prop} (I:Inv X pins σ H s) (x:XAt H e C d rr fs) (c:XC X.K C nm bm) (n:NoAttr X.K C f) (hl:fs.length < 1000) (ry:RelV y u)
  (h:∀ s' H' d',Inv X pins σ H' s'->B6 H H' e C d rr d' (aJ f y fs)->Q () s'):wpAny (model X.prog X.w) A (setAttr (.ref e) f u) Q E s:=by
 obtain ⟨q0,N,bs,sn,sub,ab,col,dd,k0,k1,k2,k3,k5,lk⟩:=c.obj
 have hC:=I.kIn _ _ lk
 have LN:=PySem.W.looks_findIn (M:=model X.prog X.w) I.kIn (show PySem.W.findIn X.K (.ref C) f=some none from n)
 obtain ⟨vs,a0,ho,hv0⟩:=x.obj I
 have hl2:(aJ f y fs).length<=1000:=by have:=fW f y fs;omega
 obtain ⟨hh,g,dr,t,os⟩:=s
 cases d with
 | none=>
  have hfs:fs=[]:=x.2.2
  subst hfs
  refine XB.xset_open (o:={ cls:=.ref C,dict:=none,data:=.fields vs }) (od:=none) I.kIn ⟨ho,rfl,rfl,True.intro⟩ c.sa (c.mro "object" true (by decide +kernel)) fun A'=>?_
  refine XB.xstore_new c.tl hC LN ho rfl (fun c z=>nomatch z) rfl fun h' tk' hx' hn' hk=>⟨rfl,?_⟩
  have neD:e≠hh.objs.size:=Ey (Ef ho)
  have nD:H hh.objs.size=none:=I.hok.fresh (Ec _)
  refine h _ _ hh.objs.size (Inv.two (o1:=.ext (XO e C (some hh.objs.size) rr)) (o2:=.ext (DX hh.objs.size (aJ f y []))) I x.1 (Ec _) hk ⟨_,hx'⟩ ?_ ?_) ⟨⟨?_,hl2,neD.symm,ad⟩,?_,fun _=>nD,(fun dx z=>nomatch z)⟩
  ·exact ir ⟨vs,a0,hx',hv0⟩ ⟨_,hx'⟩ XO.stay
  ·refine ir ⟨_,hn',rm (mA:=fun _=>none) (fs:=[]) (fun _=>True.intro) ry,kh (mA:=fun _=>none) (fs:=[]) (fun g hg=>absurd rfl hg)⟩ ?_ DX.stay
   obtain ⟨o',_,_,e1,_⟩:=hn'
   exact ⟨o',e1⟩
  ·rw [ao neD,ad]
  ·intro b o hb ne _
   rw [ao (aG hb nD),ao ne]
   exact hb
 | some dx=>
  obtain ⟨mA,ns,r,wi⟩:=x.dict I
  obtain ⟨od,hd,_⟩:=iK ns
  obtain ⟨x1,x2,x3,x4⟩:=x
  refine XB.xset_open (o:={ cls:=.ref C,dict:=some dx,data:=.fields vs }) (od:=some od) I.kIn ⟨ho,rfl,rfl,hd⟩ c.sa (c.mro "object" true (by decide +kernel)) fun A'=>?_
  refine XB.xstore_old c.tl hC LN ho rfl rfl ns wi (by rw [D5,sizeLine_eq];omega) fun h' tk' hn' sb=>⟨rfl,?_⟩
  have hd':∃ o,h'.get? dx=some o:=let ⟨o,_,_,e',_⟩:=hn';⟨o,e'⟩
  refine h _ _ dx (I.write (o:=.ext (DX dx (aJ f y fs))) (x:=dx) (e:=dx) (by rw [x4];exact True.intro) (.inl rfl) (fun b q hb z=>(sb.2 b hb).trans z) hd' ?_) ⟨⟨by rw [ao x3.symm];exact x1,hl2,x3,ad⟩,?_,(fun z=>nomatch z),fun _ z=>Eg z⟩
  ·exact ir ⟨_,hn',rm r ry,kh wi⟩ hd' DX.stay
  ·intro b o hb _ ne
   rw [ao (fun z=>ne (by rw [z]))]
   exact hb
end
end L2
namespace L2
open PySem PySem.Spec PyProof.Rows
section
variable {X:Cx} {o e value:Expr} {f:Str} {pos pos' tpos:Pos} {ta tv:TE}
def yY (K:PySem.W.Frag) (ta:TE) (f:Str):TE:=fun σ H Q=>ta σ H fun x H1=>∃ a C dx r fs nm bm v,x=.ref a/\XAt H1 a C (some dx) r fs/\XC K C nm bm/\NoAttr K C f/\fs.lookup f=some v/\Q v H1
theorem yh (he:PE X e ta) (hb:attributeBase e f X.env (eval e X.env)=eval e X.env):PE X (.Attribute e f pos) (yY X.K ta f):=by
 refine ⟨?_⟩
 intro pins s σ H Q I h
 refine qA hb (bK (he pins s σ H _ I h) fun u s1 ⟨x,H1,I1,rx,a,C,dx,r0,fs,nm,bm,v,ex,ea,c,n,l,q⟩=>?_)
 subst ex
 obtain rfl:u=Value.ref a:=rx
 exact tj I1 ea c n l fun u' s2 I2 ru=>⟨v,H1,I2,ru,q⟩
def B7 (K:PySem.W.Frag) (ta tv:TE) (f:Str):TS:=fun D σ H=>tv σ H fun y H1=>ta σ H1 fun x H2=>∃ a C d r fs nm bm,x=.ref a/\XAt H2 a C d r fs/\XC K C nm bm/\NoAttr K C f/\fs.length < 1000 /\
 ∀ H3 d',B6 H2 H3 a C d r d' (aJ f y fs)->D.nx σ H3
theorem yi (ha:PE X o ta) (hv:PE X value tv) (hs:swapsWith value (some (.Attribute o f pos')) pos.line X.env=pure false:=by rfl):PS X (.Assign [.Attribute o f pos'] value pos) (B7 X.K ta tv f):=by
 refine ⟨?_⟩
 intro pins s σ H D I h
 refine plainObj_wpAny_Assign_Attribute (bK (hv pins s σ H _ I h) fun u s1 ⟨y,H1,I1,ry,q⟩=>bK (ha pins s1 σ H1 _ I1 q) fun ov s2 ⟨x,H2,I2,rx,a,C,d,r0,fs,nm,bm,ex,ea,c,n,l,q2⟩=>?_) hs
 subst ex
 obtain rfl:ov=Value.ref a:=rx
 exact tq I2 ea c n l ry fun s3 H3 d' I3 xs=>⟨σ,_,I3,q2 H3 d' xs⟩
end
section
variable {X:Cx} {CX:rZ} {k:Nat} {f C:Addr} {fd:FuncData} {ps:List Str} {sp:Sp} {E:XK} {x m:Str} {p pos apos:Pos} {e o:Expr} {es:List Expr} {ta:TE} {t:TA} {nm:Str} {bm:List Value}
def wa (C:Addr) (sp:Sp) (E:XK) (t:TA):TE:=fun σ H Q=>t σ H fun vs H1=>∀ a,H1 a=none->sp (.ref a::vs) (ax H1 a (.ext (XO a C none false))) (fun v H2=>v=.non/\Q (.ref a) H2) E
structure Di (K:PySem.W.Frag) (C f:Addr):Prop where
 init:PySem.W.findIn K (.ref C) "__init__"=some (some (.ref f))
 fn:PySem.W.isFn K (.ref f)=true
 kp:PySem.W.keepIn K (.ref C)=true
theorem tt {pins:List (Addr×Obj)} {σ:St} {H:Hp} {s:Shared} {Q:VK} {us:List Value} {vs:List V} (c:XC X.K C nm bm) (M:Di X.K C f) (F:aN X.prog X.w X.K X.mg X.base CX k f fd ps sp) (hr:Room (k+1) X.A) (hb:Binds X.K fd ps [])
  (hx:fX CX X E) (hps:ps.length<=1000) (I:Inv X pins σ H s) (r:Vals vs us)
  (h:∀ a,H a=none->sp (.ref a::vs) (ax H a (.ext (XO a C none false))) (fun v H2=>v=.non/\Q (.ref a) H2) E) :
  wpAny (model X.prog X.w) X.A (call (.ref C) us) (EP X pins σ Q) X.xe s:=by
 obtain ⟨q0,N,bs,sn,sub,ab,col,dd,k0,k1,k2,k3,k5,lk⟩:=c.obj
 have hC:=I.kIn _ _ lk
 have LI:=PySem.W.looks_findIn (M:=model X.prog X.w) I.kIn M.init
 obtain ⟨oI,hfI,hfc⟩:∃ oI,s.heap.get? f=some oI/\oI.cls=.type "function":=by
  have ht:PySem.W.typeIn X.K (.ref f)=some (.type "function"):=beq_iff_eq.mp M.fn
  obtain ⟨o,ho,hc⟩:=Option.map_eq_some_iff.mp ht
  exact ⟨o,I.kIn _ _ ho,hc⟩
 have hq:=h (s.heap.objs.size+1) (I.hok.fresh (Nat.le_succ _))
 have r2:Vals (V.ref (s.heap.objs.size+1)::vs) (Value.ref (s.heap.objs.size+1)::us):=.cons rfl r
 have hl:(Value.ref (s.heap.objs.size+1)::us).length=ps.length:=by
  have e:=r2.length
  rw [F.len _ _ _ _ hq] at e
  exact e.symm
 have kp:∀ b o,s.heap.get? b=some o->((s.heap.push (XB.tupO us)).push (XB.excO C s.heap.objs.size)).get? b=some o:=fun b o hb=>D6 _ (D6 _ hb)
 have hget:((s.heap.push (XB.tupO us)).push (XB.excO C s.heap.objs.size)).get? (s.heap.objs.size+1)=some (XB.excO C s.heap.objs.size):=by
  have:=Em (s.heap.push (XB.tupO us)) (o:=XB.excO C s.heap.objs.size) rfl
  rwa [E2] at this
 have I2:=I.laid (a:=s.heap.objs.size+1) (o:=.ext (XO (s.heap.objs.size+1) C none false)) (t':=s.toks) kp (Nat.le_succ _) (ir ⟨_,s.heap.objs.size,hget,rfl,fun _=>rfl⟩ ⟨_,hget⟩ XO.stay)
 have hus:us.length<=sizeLine:=by
  rw [D8] at hl
  rw [sizeLine_eq]
  omega
 obtain ⟨hh,g,d,t,os⟩:=s
 refine XB.xmake c.tl hC LI hfI hfc (wpAny_call (codeAny_mono (F.run _ X.stack _ _ ⟨Value.ref (hh.objs.size+1)::us,[]⟩ (Value.ref (hh.objs.size+1)::us) _ _ E (hr.make C us []) (I2.env0.make C us []) (by
  have:=hb ⟨(hh.push (XB.tupO us)).push (XB.excO C hh.objs.size),g,d,t,os⟩ (Value.ref (hh.objs.size+1)::us) I2.kIn (by rw [ET];exact hl)
  rw [ET] at this
  exact this) r2 hq) fun r s' hq'=>?_)) hus
 cases r with
 | error e=>exact hx pins σ _ _ e s' I2 hq'
 | ok fl=>
  cases fl with
  | ret u=>
   obtain ⟨v,H',I3,rv,ev,q3⟩:=I2.after hq'
   subst ev
   exact ⟨rv,⟨V.ref (hh.objs.size+1),H',I3,rfl,q3⟩⟩
  | next=>exact False.elim hq'
  | brk=>exact False.elim hq'
  | cont=>exact False.elim hq'
theorem ki (c:XC X.K C nm bm) (M:Di X.K C f) (F:aN X.prog X.w X.K X.mg X.base CX k f fd ps sp) (hr:Room (k+1) X.A) (hg:Gl X x) (hm:X.mg x=some (.ref C)) (hb:Binds X.K fd ps []) (hx:fX CX X E) (hps:ps.length<=1000)
  (ha:PA X (e::es) t) (hdb:(x == ("__debug__":Str))=false:=by decide) (he:starEach (e::es) X.env=(false,eval e X.env)::starEach es X.env:=by rfl) (hpl:(backTo pos (starEach es X.env)).any (·.1)=false:=by rfl) :
  PE X (.Call (.Name x p) (e::es) [] pos) (wa C sp E t):=by
 refine ⟨?_⟩
 intro pins s σ H Q I h
 refine wpAny_Call_Name_kw (gJ I hg hm ?_ hdb)
 refine Fi (h₀:=X.base) I.ok.mod.kin M.kp (bK (ha pos pins s σ H _ I h) fun us s1 ⟨vs,H1,I1,r,q⟩=>⟨I1.kIn,?_⟩) he hpl
 exact tt c M F hr hb hx hps I1 r q
structure yZ (K:PySem.W.Frag) (C:Addr) (m:Str) (f:Addr):Prop where
 rd:PySem.W.readsIn K C (.type "type")=true
 at_:PySem.W.findCls K (.ref C) (.type "type") m=some (.val (.ref f))
 kp:PySem.W.keepIn K (.ref f)=true
theorem wb {pl:Sem Bool} (M:yZ X.K C m f) (F:aN X.prog X.w X.K X.mg X.base CX k f fd ps sp) (hr:Room k X.A) (hg:Gl X x) (hm:X.mg x=some (.ref C)) (hb:Binds X.K fd ps []) (hx:fX CX X E) (ha:PA X (e::es) t)
  (hdb:(x == ("__debug__":Str))=false:=by decide) (hst:starEach (e::es) X.env=(false,eval e X.env)::starEach es X.env:=by rfl) (hpl:(backTo pos (starEach es X.env)).any (·.1)=false:=by rfl)
  (ht:eval (.Call (.Attribute (.Name x p) m apos) (e::es) [] pos) X.env=(do
   let ov <-eval (.Name x p) X.env
   standAt apos.atName
   let (f,first) <-holding [ov] (getMethod ov m pl)
   callWith pos f first (backTo pos (starEach (e::es) X.env)) (backToKw pos (keywordEach [] X.env))):=by rfl) :
  PE X (.Call (.Attribute (.Name x p) m apos) (e::es) [] pos) (uq sp [] E t):=by
 refine ⟨?_⟩
 intro pins s σ H Q I h
 refine PySem.W.methodCall_KW (pl:=pl) (bK (bo (v:=.ref C) hg hm rfl hdb pins s σ H (fun v H1=>v=.ref C/\H1=H) I ⟨rfl,rfl⟩) fun u s1 ⟨xx,H1,I1,rx,ex,eh⟩=>?_) ht
 subst ex eh
 obtain rfl:u=Value.ref C:=rx
 refine XB.own_method I1.kIn M.rd M.at_ ?_
 refine Fi (first:=[]) (h₀:=X.base) I.ok.mod.kin M.kp (bK (ha pos pins _ σ H1 _ (I1.tok _) h) fun us s2 ⟨vs,H2,I2,r,q2⟩=>⟨I2.kIn,?_⟩) hst hpl
 exact lS (us:=us) (vs:=vs) (ds:=[]) (dvs:=[]) F hr hb .nil hx I2 r q2
theorem wc {H:Hp} {a:Addr} {o:HO} (h:H a=some o):ax H a o=H:=by
 funext b
 unfold ax
 by_cases z:b=a
 ·rw [if_pos z,z,h]
 ·rw [if_neg z]
def B8 (K:PySem.W.Frag) (t:TA):TE:=fun σ H Q=>t σ H fun vs H1=>∃ a rest C d r fs nm bm,vs=.ref a::rest/\rest.length<=1000/\XAt H1 a C d r fs/\XC K C nm bm/\Q .non H1
theorem yj {pl:Sem Bool} (hg:Gl X "ValueError") (hm:X.mg "ValueError"=none) (ha:PA X (e::es) t)
  (hst:starEach (e::es) X.env=(false,eval e X.env)::starEach es X.env:=by rfl) (hpl:(backTo pos (starEach es X.env)).any (·.1)=false:=by rfl)
  (ht:eval (.Call (.Attribute (.Name "ValueError" p) "__init__" apos) (e::es) [] pos) X.env=(do
   let ov <-eval (.Name "ValueError" p) X.env
   standAt apos.atName
   let (f,first) <-holding [ov] (getMethod ov "__init__" pl)
   callWith pos f first (backTo pos (starEach (e::es) X.env)) (backToKw pos (keywordEach [] X.env))):=by rfl) :
  PE X (.Call (.Attribute (.Name "ValueError" p) "__init__" apos) (e::es) [] pos) (B8 X.K t):=by
 refine ⟨?_⟩
 intro pins s σ H Q I h
 have hv:bootBuiltins "ValueError"=some (.type "ValueError"):=by decide +kernel
 refine PySem.W.methodCall_KW (pl:=pl) (bK (gi (n:="ValueError") hg hm hv (by decide) (by decide) pins s σ H (fun v H1=>v=.ty "ValueError"/\H1=H) I ⟨rfl,rfl⟩) fun u s1 ⟨xx,H1,I1,rx,ex,eh⟩=>?_) ht
 subst ex eh
 obtain rfl:u=Value.type "ValueError":=rx
 refine XB.val_method I1.kIn ?_
 refine PyProof.Rows.callWith_builtin1 (bK (ha pos pins _ σ H1 _ (I1.tok _) h) fun us s2 ⟨vs,H2,I2,r,a,rest,C,d,r0,fs,nm,bm,ev,hz,x,c,q2⟩=>?_) hst hpl
 subst ev
 cases r with
 | @cons _ u _ us' r0 rr=>
  obtain rfl:u=Value.ref a:=r0
  obtain ⟨q0,N,bs,sn,sub,ab,col,dd,k0,k1,k2,k3,k5,lk⟩:=c.obj
  have hC:=I2.kIn _ _ lk
  obtain ⟨vv,a0,ho,hv0,hv1⟩:=x.obj I2
  have hl:=rr.length
  obtain ⟨hh,g,d',t',os⟩:=s2
  refine wpAny_call (XB.xinit c.tl hC ho rfl rfl hv0 (by rw [sizeLine_eq];omega) fun h' vs' hk hx' ⟨a1,h1,h2⟩=>?_)
  have I3:=I2.write (o:=.ext (XO a C d r0)) (x:=a) (e:=a) (t':=t') (by rw [x.1];exact True.intro) (.inl rfl) (fun b q hb z=>hk b q hb z) ⟨_,hx'⟩ (ir ⟨vs',a1,hx',h1,fun z=>h2.trans (hv1 z)⟩ ⟨_,hx'⟩ XO.stay)
  rw [wc x.1] at I3
  exact ⟨.non,H2,I3,rfl,q2⟩
end
end L2
namespace L2
open PySem PySem.Spec PyProof.Rows
def ExT (e C:Addr) (d:Option Addr) (T:Addr) (fl:Value) (h:Heap):Prop:=
 ∃ (vs:Array Value) (a0:Addr) (oT:Obj) (ts:Array Value),h.get? e=some { cls:=.ref C,dict:=d,data:=.fields vs }/\vs[0]?=some (.ref a0)/\vs[1]?=some (.ref T)/\T≠e/\h.get? T=some oT/\oT.data=.fields ts/\ts[3]?=some fl
structure Wr (fs:List Addr) (e T:Addr) (h h':Heap):Prop where
 keep:∀ b o,h.get? b=some o->b∉fs->b≠e->b≠T->h'.get? b=some o
 slot:∀ b o,h.get? b=some o->b∈fs->∃ sl,h'.get? b=some { o with slots:=sl }
 old:∀ o,h.get? T=some o->∃ ts,o.data=.fields ts
 nf:T∉fs
def DF (n:Nat) (H:Hp) (L:Addr) (pn:List Addr) (e C:Addr) (d:Option Addr) (h:Heap):Prop:=
 ∃ (vs:Array Value) (a0:Addr),h.get? e=some { cls:=.ref C,dict:=d,data:=.fields vs }/\vs[0]?=some (.ref a0)/\(vs[1]?=some .none\/∃ T fl,ExT e C d T fl h/\n<=T/\H T=none/\T∉pn/\(fl=.none\/fl=rawInt L))
theorem ExT.xo {e C:Addr} {d:Option Addr} {T:Addr} {fl:Value} {h:Heap} (x:ExT e C d T fl h):XO e C d true h:=by
 obtain ⟨vs,a0,_,_,h1,h2,_⟩:=x
 exact ⟨vs,a0,h1,h2,fun z=>nomatch z⟩
theorem lF {o:Obj} {ts:Array Value} {f:Array Value->Array Value} (hd:o.data=.fields ts) (hf:f ts=ts):o.mapFields f=o:=by
 obtain ⟨c,d,dt,sl⟩:=o
 cases hd
 show Obj.mk c d (.fields (f ts)) sl=_
 rw [hf]
section
variable {M:Model} {A:Around} {E:Value->Shared->Prop} {s:Shared} {base:Heap} {env:Env} {outer:List Env} {L e C T:Addr} {d:Option Addr} {fl:Value} {Q:Unit->Shared->Prop}
theorem fG {fr:Option Addr} (x:ExT e C d T fl s.heap) (h:∀ h',(∀ b o,s.heap.get? b=some o->b≠T->h'.get? b=some o)->ExT e C d T (fr.elim .none fun f=>rawInt f) h'->Q () { s with heap:=h' }):wpAny M A (setFlight (.ref e) fr) Q E s:=by
 obtain ⟨vs,a0,oT,ts,he,h0,h1,ne,hT,hd,h3⟩:=x
 have hsz:3 < ts.size:=(Array.getElem?_eq_some_iff.mp h3).1
 unfold setFlight
 refine wpAny_bind (wpAny_field he rfl h1 ?_)
 rw [if_pos (show (Value.ref T != Value.none)=true from by simp)]
 have k:∀ b o,s.heap.get? b=some o->b≠T->(s.heap.update T (Obj.mapFields (·.setIfInBounds 3 (fr.elim Value.none fun f=>rawInt f)))).get? b=some o:=fun b o e' hb=>by
  rw [Heap.get?_update_other _ _ (Ne.symm hb)]
  exact e'
 refine wpAny_setField hT hd hsz (h _ k ?_)
 have hd':=Obj.data_mapFields hd (·.setIfInBounds 3 (fr.elim Value.none fun f=>rawInt f))
 exact ⟨vs,a0,_,_,k _ _ he (Ne.symm ne),h0,h1,ne,Heap.get?_update_self _ hT (Obj.isFreed_of_fields hd'),hd',by simp [hsz]⟩
theorem lG {vs:Array Value} {a0:Addr} {head:Value} {hadNext:Bool} (hfr:A.frames=some (env::outer)) (hl:s.heap.FunFrames base (env::outer)) (hf:env.frame=some L)
  (he:s.heap.get? e=some { cls:=.ref C,dict:=d,data:=.fields vs }) (h0:vs[0]?=some (.ref a0)) (hsz:1 < vs.size)
  (h:∀ h',Wr (lP (env::outer)) e s.heap.objs.size s.heap h'->ExT e C d s.heap.objs.size (rawInt L) h'->Q () { s with heap:=h' }) :
  wpAny M A (do let a <-frameOf env;let pl <-entryPlaceOf L hadNext;let b <-EntryCells.newEntry head a .none (rawInt L) .none pl;setField (.ref e) 1 b) Q E s:=by
 have hene:e∉lP (env::outer):=fun hm=>by
  obtain ⟨_,o,ho,hnf⟩:=hl.mem hm
  rw [he] at ho;injection ho with ho;subst ho;exact hnf vs rfl
 refine wpAny_bind (wpAny_frameOf_fun hfr hl hf fun h₁ hs₁=>?_)
 refine wpAny_bind (wpAny_entryPlaceOf fun pl hpl=>?_)
 unfold EntryCells.newEntry newFields
 refine wpAny_bind (wpAny_newObj_type ?_ (hpl.sizeOk5 _ _ _ _ _))
 generalize hts:([head,.ref L,.none,rawInt L,.none]++(if pl.isEmpty then List.replicate 6 Value.none else pl)).toArray=ts
 have h3:ts[3]?=some (rawInt L):=by rw [<-hts];simp
 have he₁:h₁.get? e=some { cls:=.ref C,dict:=d,data:=.fields vs }:=(hs₁.2.1 e hene).trans he
 have he₂:=D6 (h:=h₁) { cls:=.type "traceback",dict:=none,data:=.fields ts } he₁
 refine wpAny_setField he₂ rfl hsz ?_
 have hsize:h₁.objs.size=s.heap.objs.size:=hs₁.1
 have hTe:h₁.objs.size≠e:=Fz (Ef he₁)
 have he₃:=Heap.get?_update_self (Obj.mapFields (·.setIfInBounds 1 (Value.ref h₁.objs.size))) he₂ rfl
 have hT₃:=(Heap.get?_update_other (h₁.push { cls:=.type "traceback",dict:=none,data:=.fields ts }) (Obj.mapFields (·.setIfInBounds 1 (Value.ref h₁.objs.size))) (Ne.symm hTe)).trans (Em h₁ rfl)
 have keep:∀ b o,b≠e->h₁.get? b=some o->((h₁.push { cls:=.type "traceback",dict:=none,data:=.fields ts }).update e (Obj.mapFields (·.setIfInBounds 1 (Value.ref h₁.objs.size)))).get? b=some o:=fun b o hbe hb=>by
  rw [Heap.get?_update_other _ _ (Ne.symm hbe)]
  exact D6 _ hb
 rw [hsize] at he₃ hT₃ keep hTe ⊢
 refine h _ ⟨fun b o hb hbf hbe _=>keep b o hbe ((hs₁.2.1 b hbf).trans hb),fun b o hb hbf=>?_,fun o ho=>absurd (Ef ho) (E7 _),fun hm=>?_⟩ ?_
 ·obtain ⟨sl,hs⟩:=hs₁.2.2 b o hb
  exact ⟨sl,keep b _ (fun z=>hene (z ▸ hbf)) hs⟩
 ·obtain ⟨_,o,ho,_⟩:=hl.mem hm
  exact absurd (Ef ho) (E7 _)
 ·exact ⟨_,a0,_,ts,he₃,by rw [Array.getElem?_setIfInBounds_ne (by decide)];exact h0,by simp [hsz],hTe,hT₃,rfl,h3⟩
theorem kj {n:Nat} {H:Hp} {pn:List Addr} (hfr:A.frames=some (env::outer)) (hl:s.heap.FunFrames base (env::outer)) (hf:env.frame=some L) (x:DF n H L pn e C d s.heap) (hn:n<=s.heap.objs.size)
  (hH:∀ a,s.heap.objs.size<=a->H a=none) (hp:∀ a∈pn,a < s.heap.objs.size)
  (h:∀ h' T,Wr (lP (env::outer)) e T s.heap h'->ExT e C d T (rawInt L) h'->n<=T->H T=none->T∉pn->Q () { s with heap:=h' }):wpAny M A (noteFrame (.ref e) env) Q E s:=by
 obtain ⟨vs,a0,he,h0,hm⟩:=x
 have new:∀ h',Wr (lP (env::outer)) e s.heap.objs.size s.heap h'->ExT e C d s.heap.objs.size (rawInt L) h'->Q () { s with heap:=h' }:=fun h' w q=>h h' _ w q hn (hH _ (Ec _)) fun z=>absurd (hp _ z) (E7 _)
 unfold noteFrame
 simp only [hf]
 rcases hm with h1|⟨T,fl,x,nT,fT,pT,fl0|fl1⟩
 ·refine wpAny_bind (wpAny_field he rfl h1 ?_)
  rw [if_neg (by decide)]
  exact lG hfr hl hf he h0 (Array.getElem?_eq_some_iff.mp h1).1 new
 ·subst fl0
  obtain ⟨vs',a0',oT,ts,he',h0',h1,ne,hT,hd,h3⟩:=x
  rw [he] at he'
  have ev:vs=vs':=by injection he' with e1;injection e1 with _ _ e2 _;injection e2
  subst ev
  refine wpAny_bind (wpAny_field he rfl h1 ?_)
  rw [if_pos (show (Value.ref T != Value.none)=true from by simp)]
  refine wpAny_bind (wpAny_field hT hd h3 ?_)
  rw [if_neg (show ¬ ((Value.none == rawInt L)=true) from by simp [rawInt])]
  have hsz:3 < ts.size:=(Array.getElem?_eq_some_iff.mp h3).1
  refine wpAny_bind (wpAny_setField hT hd hsz ?_)
  have same:ts.setIfInBounds 3 Value.none=ts:=by
   apply Array.ext_getElem?
   intro i
   by_cases hi:3=i
   ·subst hi;rw [h3];simp [hsz]
   ·rw [Array.getElem?_setIfInBounds_ne hi]
  have all:∀ b,(s.heap.update T (Obj.mapFields (·.setIfInBounds 3 Value.none))).get? b=s.heap.get? b:=fun b=>by
   by_cases hb:b=T
   ·rw [hb]
    have:=Heap.get?_update_self (Obj.mapFields (·.setIfInBounds 3 Value.none)) hT (by rw [lF hd same];exact Obj.isFreed_of_fields hd)
    rw [this,lF hd same,hT]
   ·exact Heap.get?_update_other _ _ (Ne.symm hb)
  refine lG (hadNext:=true) hfr (hl.of_keeps fun b o hb _=>⟨o,(all b).trans hb,rfl⟩) hf ((all e).trans he) h0 (Array.getElem?_eq_some_iff.mp h1).1 fun h' w q=>?_
  have hs:(s.heap.update T (Obj.mapFields (·.setIfInBounds 3 Value.none))).objs.size=s.heap.objs.size:=Heap.size_after_update _ _ _
  dsimp only at w q
  rw [hs] at w q
  refine new h' ⟨fun b o hb=>w.keep b o ((all b).trans hb),fun b o hb=>w.slot b o ((all b).trans hb),fun o ho=>w.old o ((all _).trans ho),w.nf⟩ q
 ·subst fl1
  obtain ⟨vs',a0',oT,ts,he',h0',h1,ne,hT,hd,h3⟩:=id x
  refine wpAny_bind (wpAny_field he' rfl h1 ?_)
  rw [if_pos (show (Value.ref T != Value.none)=true from by simp)]
  refine wpAny_bind (wpAny_field hT hd h3 ?_)
  rw [if_pos (show (rawInt L == rawInt L)=true from by simp)]
  refine wpAny_pure ?_
  have:=h s.heap T ⟨fun b o hb _ _ _=>hb,fun b o hb _=>⟨o.slots,hb⟩,fun o ho=>?_,fun hm=>?_⟩ x nT fT pT
  ·exact this
  ·rw [hT] at ho;cases ho;exact ⟨ts,hd⟩
  ·obtain ⟨_,o,ho,hnf⟩:=hl.mem hm
   rw [hT] at ho;cases ho
   exact hnf ts hd
end
theorem Wr.then {fs:List Addr} {e T:Addr} {h h1 h2:Heap} (w:Wr fs e T h h1) (k:∀ b o,h1.get? b=some o->b≠T->h2.get? b=some o):Wr fs e T h h2:=
 ⟨fun b o hb hf he hT=>k b o (w.keep b o hb hf he hT) hT,fun b o hb hf=>let ⟨sl,q⟩:=w.slot b o hb hf;⟨sl,k b _ q fun z=>w.nf (z ▸ hf)⟩,w.old,w.nf⟩
theorem Wr.un {fs:List Addr} {e T C:Addr} {d:Option Addr} {fl:Value} {h h':Heap} {H:Hp} {φ:Heap->Prop} (w:Wr fs e T h h') (x:ExT e C d T fl h') (He:H e=some (.ext φ)):Un fs [T] H H h h':=by
 obtain ⟨vs,a0,oT,ts,he,_,_,_,hT,_⟩:=x
 refine ⟨fun b o hb n hf hT'=>w.keep b o hb hf (fun z=>by rw [z,He] at n;cases n) (by simpa using hT'),fun b o hb _ hf _=>w.slot b o hb hf,fun _ _ _ n _=>n,fun b o hb hT'=>?_,fun _ _ q=>q,fun _ _ _ q=>q,fun b ps q=>⟨#[],by rw [q];simp⟩⟩
 by_cases hbe:b=e
 ·exact ⟨_,hbe ▸ he⟩
 ·by_cases hf:b∈fs
  ·obtain ⟨sl,q⟩:=w.slot b o hb hf;exact ⟨_,q⟩
  ·exact ⟨o,w.keep b o hb hf hbe (by simpa using hT')⟩
theorem Wr.hok {P:Program} {wd:World} {fs:List Addr} {e T C:Addr} {d:Option Addr} {fl:Value} {h h':Heap} {H:Hp} (w:Wr fs e T h h') (x:ExT e C d T fl h') (He:H e=some (.ext (XO e C d true))) (hT:H T=none) (hf:∀ b∈fs,H b=none) (ok:HOk P wd H h):HOk P wd H h':=by
 intro a o ha
 have k:∀ b o',H b=some o'->b≠e->∀ u,h.get? b=some u->h'.get? b=some u:=fun b o' hb ne u q=>w.keep b u q (fun z=>by rw [hf b z] at hb;cases hb) ne (aG hb hT)
 by_cases hae:a=e
 ·subst hae
  rw [He] at ha;cases ha
  obtain ⟨vs,a0,oT,ts,he,_⟩:=id x
  exact ir x.xo ⟨_,he⟩ XO.stay
 ·refine (ok a o ha).stay (fun b u hb q=>?_) (fun _ q=>q) fun _ _ q=>q
  rcases hb with rfl|hb
  ·exact k _ _ ha hae u q
  ·exact k _ _ hb (fun z=>by rw [z,He] at hb;cases hb) u q
end L2
namespace L2
open PySem PySem.Spec PyProof.Rows
def we (P:Program) (w:World):rZ:=fun outer H s E e s'=>∃ a H' C d T,e=.ref a/\s'.os=s.os/\AllBare s'.gens/\Un (lP outer) [] H H' s.heap s'.heap/\HOk P w H' s'.heap/\H' a=some (.ext (XO a C d true))/\ExT a C d T .none s'.heap /\
 s.heap.objs.size<=T/\H' T=none/\E e none H'
def B9 (X:Cx) (H:Hp) (h:Heap) (a:Addr):Prop:=∃ C d,H a=some (.ext (XO a C d true))/\DF X.s₀.heap.objs.size H X.env.locals (X.pn.map (·.1)) a C d h
def kl (X:Cx) (ES:St->XK) (e:Value) (s:Shared):Prop:=∃ a σ H,e=.ref a/\Inv X [] σ H s/\B9 X H s.heap a/\ES σ e none H
def Ct (X:Cx) (ES:St->XK):Prop:=∀ e s',kl X ES e s'->X.xe e s'
abbrev Cx.esc (X:Cx) (ES:St->XK):Cx:=X.wish (kl X ES)
section
variable {X:Cx} {pins:List (Addr×Obj)} {σ:St} {H:Hp} {s:Shared} {ES:St->XK} {E:XK}
theorem gG:Ct (X.esc ES) ES:=fun e s' ⟨a,σ,H,h1,I,⟨C,d,h2,h3⟩,h4⟩=>⟨a,σ,H,h1,I.unwish,⟨C,d,h2,h3⟩,h4⟩
theorem Inv.pn_lt (I:Inv X pins σ H s):∀ a∈X.pn.map (·.1),a < s.heap.objs.size:=fun a ha=>by
 obtain ⟨p,hp,rfl⟩:=ED.mp ha
 exact Ef (I.pin p (Fj _ hp)).1
theorem Inv.frame1 (I:Inv X pins σ H s) (hst:X.stack=X.env::X.outer):X.env.frame=some X.env.locals:=by
 rcases I.ok.stk with e|⟨_,e⟩
 ·rw [hst] at e
  exact absurd e (by intro z;have:=congrArg List.length z;simp at this)
 ·exact e
theorem Inv.wr {e T C:Addr} {d:Option Addr} {fl:Value} {h':Heap} (I:Inv X pins σ H s) (W:Wr (lP X.stack) e T s.heap h') (x:ExT e C d T fl h') (He:H e=some (.ext (XO e C d true))) (hT:H T=none) (hn:X.s₀.heap.objs.size<=T)
  (hp:∀ p∈X.pn++pins,p.1≠T):Inv X pins σ H { s with heap:=h' }:=by
 have:=I.call (g':=s.gens) (t':=s.toks) (d':=s.drawn) (ch:=[T]) (W.un x He) (W.hok x He hT I.stkFree I.hok) I.bare (fun b hb=>?_)
 ·exact this
 ·have hb':b=T:=by simpa using hb
  subst hb'
  refine ⟨.inr hn,fun z=>?_,fun y c hc z=>?_,hp⟩
  ·obtain ⟨m,⟨o,es,ep,ho,hd,_⟩,_⟩:=I.loc
   obtain ⟨ts,hd'⟩:=W.old o (by rw [z];exact ho)
   rw [hd] at hd';cases hd'
  ·obtain ⟨v,o,ho,hd⟩:=I.cell y c hc
   obtain ⟨ts,hd'⟩:=W.old o (by rw [<-z];exact ho)
   rw [hd] at hd';cases hd'
theorem Inv.nopins (I:Inv X pins σ H s):Inv X [] σ H s:=Inv.unpinned (pins:=[]) (pl:=pins) I
theorem Ca {e:Value} {s':Shared} (I:Inv X pins σ H s) (h:we X.prog X.w X.stack H s (ES σ) e s'):kl X ES e s':=by
 obtain ⟨a,H',C,d,T,rfl,os,bare,un,hok,He,x,nT,fT,q⟩:=h
 have J:Inv X pins σ H' s':=I.call' (ch:=[]) os un hok bare (fun b z=>absurd z (by simp))
 obtain ⟨vs,a0,oT,ts,he,h0,h1,_⟩:=id x
 exact ⟨a,σ,H',rfl,J.nopins,⟨C,d,He,vs,a0,he,h0,.inr ⟨T,.none,x,Ew I.sz nT,fT,fun z=>absurd (Er (I.pn_lt T z) nT) (E7 _),.inl rfl⟩⟩,q⟩
theorem Dj (hst:X.stack=X.env::X.outer):PassesOwn (model X.prog X.w) X.A X.env (kl X ES):=by
 intro e s' ⟨a,σ,H,he,I,⟨C,d,He,fl⟩,q⟩
 subst he
 have hf:=I.frame1 hst
 have hfr:X.A.frames=some (X.env::X.outer):=by rw [I.ok.frames,hst]
 have hl:s'.heap.FunFrames X.base (X.env::X.outer):=by rw [<-hst];exact I.stack
 refine kj hfr hl hf fl I.sz (fun b hb=>I.hok.fresh hb) I.pn_lt fun h' T w x nT fT pT=>?_
 show wpAny _ _ _ _ _ _
 obtain ⟨vs,a0,oT,ts,he,h0,h1,_⟩:=id x
 refine wpAny_bind (wpAny_field (s:={ s' with heap:=h' }) he rfl h1 ?_)
 rw [if_neg (show ¬ ((Value.ref T == Value.none)=true) from by simp)]
 rw [hf]
 refine fG (s:={ s' with heap:=h' }) x fun h'' k x'=>?_
 have W:=w.then k
 rw [<-hst] at W
 obtain ⟨vs',a0',oT',ts',he',h0',h1',_⟩:=id x'
 refine ⟨a,σ,H,rfl,I.wr (h':=h'') W x' He fT nT (fun p hp z=>?_),⟨C,d,He,vs',a0',he',h0',.inr ⟨T,_,x',nT,fT,pT,.inr rfl⟩⟩,q⟩
 rw [ET] at hp
 exact pT (z ▸ List.mem_map_of_mem hp)
end
theorem PSs.wishTo {X:Cx} {E:Value->Shared->Prop} {st:List Stmt} {t:TS} (h:PSs (X.wish E) st t) (k:∀ e s',E e s'->X.xe e s'):PSs X st t:=⟨fun pins s σ H D I hw=>
 wpAny_mono (h pins s σ H D (I.wish _) hw) (fun _ _ q=>q.unwish) fun e s' z=>k e s' z⟩
section
variable {P:Program} {w:World} {K:PySem.W.Frag} {mg:Str->Option Value} {base:Heap}
theorem Ap {N:List Str} {qual:Str} {sc:Scope} {f:Addr} {cd:Value} {A:Around} {outer:List Env} {s:Shared} {H:Hp} {E:XK} (e:Value) (s':Shared)
  (h:kl (lU (we P w) P w K mg base N qual sc f cd A outer s H E) (fun _=>E) e s'):(lU (we P w) P w K mg base N qual sc f cd A outer s H E).xe e s':=by
 obtain ⟨a,σ,H',he,I,⟨C,d,He,fl⟩,q⟩:=h
 subst he
 show wpAny (model P w) _ (leaving _ (.ref a)) _ _ s'
 unfold leaving
 refine wpAny_bind (kj (base:=base) I.ok.frames I.stack rfl fl I.sz (fun b hb=>I.hok.fresh hb) I.pn_lt fun h' T w x nT fT pT=>fG (s:={ s' with heap:=h' }) x fun h'' k x'=>?_)
 have W:=w.then k
 have J:=I.wr (h':=h'') W x' He fT nT (fun p hp=>absurd hp (by show p∉([]:List (Addr×Obj))++[];simp))
 exact ⟨a,H',C,d,T,rfl,J.os,J.bare,J.base,J.hok,He,x',nT,fT,q⟩
theorem Fun.okX {x qual:Str} {st:Stmt} {f:Addr} {fd:FuncData} {N ps:List Str} {k:Nat} {sp:Sp} (F:Fun K x qual st f fd) (S:ay N ps (am st)) (len:∀ vs H Q E,sp vs H Q E->vs.length=ps.length)
  (hbody:∀ (cdv:Value) (A:Around) (outer:List Env) (s:Shared) (H:Hp) (vs:List V) (Q:VK) (E:XK),Room k (A.deeper (envOfC qual (am st) s.heap.objs.size f cdv))->sp vs H Q E->
   ∃ t,PSs ((lU (we P w) P w K mg base N qual (am st) f cdv A outer s H E).esc fun _=>E) (cM st) t/\t { nx:=fun _ H'=>Q .non H',rt:=Q } (start N vs) H):aN P w K mg base (we P w) (k+1) f fd ps sp:=by
 obtain ⟨oc,od,kV,doc,pm,an,cdv,ct,osl,rfl,lk,hcd⟩:=F.ex
 refine yL lk hcd S len fun A outer s H vs Q E hr hsp=>?_
 obtain ⟨t,h,q⟩:=hbody cdv A outer s H vs Q E hr hsp
 exact ⟨t,h.wishTo Ap,q⟩
end
section
variable {X:Cx} {k:Nat} {f C:Addr} {fd:FuncData} {ps:List Str} {sp:Sp} {dvs:List V} {ds:List Value} {ES:St->XK} {x m:Str} {p pos apos:Pos} {e o:Expr} {es:List Expr} {ta:TE} {t:TA}
theorem yk {pins:List (Addr×Obj)} {σ:St} {H:Hp} {s:Shared} {Q:VK} {us:List Value} {vs:List V} (F:aN X.prog X.w X.K X.mg X.base (we X.prog X.w) k f fd ps sp) (hr:Room k X.A) (hb:Binds X.K fd ps ds) (hd:Vals dvs ds) (hx:Ct X ES)
  (I:Inv X pins σ H s) (r:Vals vs us) (h:sp (vs++dvs) H Q (ES σ)):wpAny (model X.prog X.w) X.A (call (.ref f) us) (EP X pins σ Q) X.xe s:=by
 have r2:Vals (vs++dvs) (us++ds):=r.append hd
 have hl:(us++ds).length=ps.length:=by rw [<-r2.length];exact F.len _ _ _ _ h
 refine wpAny_call (codeAny_mono (F.run X.A X.stack s H ⟨us,[]⟩ (us++ds) (vs++dvs) Q (ES σ) hr I.env0 (hb s us I.kIn hl) r2 h) fun r s' hq=>?_)
 cases r with
 | error e=>exact hx e s' (Ca I hq)
 | ok fl=>
  cases fl with
  | ret u=>exact I.after hq
  | next=>exact False.elim hq
  | brk=>exact False.elim hq
  | cont=>exact False.elim hq
def Aq (sp:Sp) (dvs:List V) (ES:St->XK) (t:TA):TE:=fun σ H Q=>t σ H fun vs H1=>sp (vs++dvs) H1 Q (ES σ)
theorem oA (F:aN X.prog X.w X.K X.mg X.base (we X.prog X.w) k f fd ps sp) (hr:Room k X.A) (hg:Gl X x) (hm:X.mg x=some (.ref f)) (hk:PySem.W.keepIn X.K (.ref f)=true) (hb:Binds X.K fd ps ds) (hd:Vals dvs ds) (hx:Ct X ES)
  (ha:PA X (e::es) t) (hdb:(x == ("__debug__":Str))=false:=by decide) (he:starEach (e::es) X.env=(false,eval e X.env)::starEach es X.env:=by rfl) (hpl:(backTo pos (starEach es X.env)).any (·.1)=false:=by rfl) :
  PE X (.Call (.Name x p) (e::es) [] pos) (Aq sp dvs ES t):=by
 refine ⟨?_⟩
 intro pins s σ H Q I h
 refine wpAny_Call_Name_kw (gJ I hg hm ?_ hdb)
 refine Fi (h₀:=X.base) I.ok.mod.kin hk (bK (ha pos pins s σ H _ I h) fun us s1 ⟨vs,H1,I1,r,q⟩=>⟨I1.kIn,?_⟩) he hpl
 exact yk F hr hb hd hx I1 r q
end
end L2
namespace L2
open PySem PySem.Spec PyProof.Rows
section
variable {prog:Program} {w:World} {A:Around} {E:Value->Shared->Prop} {h:Heap} {g:Array GenState} {dr:Drawn} {t:Nat} {os:OsState}
theorem lH {a:Addr} {o:Obj} {vs:Array Value} {Q:Bool->Shared->Prop} (ha:h.get? a=some o) (hd:o.data=.fields vs) (hq:Q false ⟨h,g,dr,t,os⟩):wpAny (model prog w) A (isType (.ref a)) Q E ⟨h,g,dr,t,os⟩:=by
 simp only [isType,loadHead]
 refine wpAny_bind (wpAny_loadPart ha ?_)
 rw [hd];exact wpAny_pure hq
theorem eA {a:Addr} {o:Obj} {Q:Value->Shared->Prop} (ha:h.get? a=some o) (hq:Q o.cls ⟨h,g,dr,t,os⟩):wpAny (model prog w) A (typeOf (.ref a)) Q E ⟨h,g,dr,t,os⟩:=by
 simp only [typeOf]
 exact wpAny_bind (wpAny_loadPart ha (wpAny_pure hq))
end
section
variable {X:Cx} {pins:List (Addr×Obj)} {σ:St} {H:Hp} {s:Shared} {ES:St->XK} {e:Expr} {te:TE} {pos:Pos}
def wf (K:PySem.W.Frag) (te:TE) (ES:St->XK):TS:=fun _ σ H=>te σ H fun x H1=>∃ a C d fs nm bm,x=.ref a/\XAt H1 a C d false fs/\XC K C nm bm/\ES σ (.ref a) none (ax H1 a (.ext (XO a C d true)))
theorem km (he:PE X e te) (hx:Ct X ES) (hc:X.calm=true):PS X (.Raise (some e) none pos) (wf X.K te ES):=by
 refine ⟨fun pins s σ H D I h=>?_⟩
 show wpAny _ _ (do standAt pos;raiseStmt X.env (some (do let v <-eval e X.env;standAt pos;pure v)) none) _ _ s
 refine wpAny_bind (wpAny_standAt ?_)
 unfold raiseStmt
 dsimp only
 refine wpAny_bind (wpAny_bind (wpAny_mono (he pins s σ H _ I h) (fun v s₁ h₁=>wpAny_bind (wpAny_standAt (wpAny_pure ?_))) fun _ _ x=>x))
 obtain ⟨x,H1,I1,rx,a,C,d,fs,nm,bm,ex,xa,c,q⟩:=h₁
 subst ex
 obtain rfl:v=Value.ref a:=rx
 obtain ⟨vs,a0,ha,h0,h1⟩:=xa.obj I1
 have hb:(Value.ref C::bm).contains (.type "BaseException")=true:=c.tl.has C "BaseException" true (by decide +kernel)
 obtain ⟨q0,N,bs,sn,sub,ab,col,dd,k0,k1,k2,k3,k5,lk⟩:=c.obj
 have hC:=I1.kIn _ _ lk
 have hh:X.A.handled=none:=I1.ok.hd hc
 have I2:=I1.write (o:=.ext (XO a C d true)) (x:=a) (e:=a) (t':=s₁.toks) (h':=s₁.heap) (by rw [xa.1];exact True.intro) (.inl rfl) (fun b u _ z=>z) ⟨_,ha⟩ (ir ⟨vs,a0,ha,h0,fun z=>nomatch z⟩ ⟨_,ha⟩ XO.stay)
 have fin:X.xe (.ref a) s₁:=hx _ _ ⟨a,σ,_,rfl,I2.nopins,⟨C,d,ad,vs,a0,ha,h0,.inl (h1 rfl)⟩,q⟩
 obtain ⟨hp,g,dr,t,os⟩:=s₁
 refine wpAny_bind (wpAny_pure ?_)
 dsimp only
 refine wpAny_bind (wpAny_holding ?_)
 unfold excFromValue isExcClass
 refine wpAny_bind (wpAny_bind (lH ha rfl ?_))
 simp only [Bool.false_eq_true,if_false]
 refine wpAny_pure ?_
 simp only [Bool.false_eq_true,if_false]
 unfold isInstance
 refine wpAny_bind (wpAny_bind (eA ha (wpAny_isSubtype_exc hC ?_)))
 rw [hb]
 simp only [if_true]
 refine wpAny_pure ?_
 refine wpAny_bind (lH ha rfl ?_)
 simp only [Bool.false_eq_true,if_false]
 unfold raisedInstance
 refine wpAny_bind (wpAny_bind (eA ha (wpAny_bind (eA hC ?_))))
 rw [if_pos (by rfl)]
 refine wpAny_pure ?_
 unfold setFlight raiseNew
 refine wpAny_bind (wpAny_bind (wpAny_field ha rfl (h1 rfl) ?_))
 rw [if_neg (by decide)]
 refine wpAny_pure (wpAny_bind (wpAny_handled ?_))
 rw [hh]
 first
  | exact wpAny_throw fin
  | exact wpAny_bind (wpAny_pure (wpAny_throw fin))
end
end L2
namespace L2
open PySem PySem.Spec PyProof.Rows
section
variable {prog:Program} {w:World} {A:Around} {E:Value->Shared->Prop} {h:Heap} {g:Array GenState} {dr:Drawn} {t:Nat} {os:OsState}
theorem qh {a:Addr} {o:Obj} {cd:ClassData} {Q:Bool->Shared->Prop} (ha:h.get? a=some o) (hd:o.data=.cls cd) (hq:Q true ⟨h,g,dr,t,os⟩):wpAny (model prog w) A (isType (.ref a)) Q E ⟨h,g,dr,t,os⟩:=by
 simp only [isType,loadHead]
 refine wpAny_bind (wpAny_loadPart ha ?_)
 rw [hd];exact wpAny_pure hq
theorem wg {e C C':Addr} {oe:Obj} {nm q nm' q':Str} {N N':Addr} {bs bm bs' bm':List Value} {hdct hdct':Bool} {sn sn' sub sub' ab ab' col col' dd dd' k0 k0' k1 k1' k2 k2' k3 k3' k5 k5' newId newId'} {Q:Bool->Shared->Prop} (he:h.get? e=some oe) (hcls:oe.cls=.ref C) (hC:h.get? C=some (excClassObj nm q C N bs bm hdct sn sub ab col dd k0 k1 k2 k3 k5 newId))
  (hC':h.get? C'=some (excClassObj nm' q' C' N' bs' bm' hdct' sn' sub' ab' col' dd' k0' k1' k2' k3' k5' newId')) (hb':(Value.ref C'::bm').contains (.type "BaseException")=true) (hq:Q ((Value.ref C::bm).contains (.ref C')) ⟨h,g,dr,t,os⟩) :
  wpAny (model prog w) A (excMatches (.ref e) (.ref C')) Q E ⟨h,g,dr,t,os⟩:=by
 unfold excMatches isInstance
 refine wpAny_bind (wpAny_bind (eA hC' (wpAny_of_eq (a:=false) (by rfl) ?_)))
 simp only [Bool.false_eq_true,if_false]
 refine wpAny_bind (wpAny_pure ?_)
 simp only [forIn,ForIn.forIn,List.forIn'_cons,List.forIn'_nil,List.forIn_cons,List.forIn_nil]
 unfold isExcClass
 refine wpAny_bind ?_
 refine wpAny_bind ?_
 refine wpAny_bind (wpAny_bind (qh hC' rfl ?_))
 simp only [if_true]
 refine wpAny_isSubtype_exc hC' ?_
 rw [hb']
 simp only [Bool.not_true,Bool.false_eq_true,if_false]
 refine wpAny_pure (wpAny_pure ?_)
 refine wpAny_bind (eA he ?_)
 rw [hcls]
 refine wpAny_bind (wpAny_bind (wpAny_bind (wpAny_isSubtype_exc hC ?_)))
 generalize (Value.ref C::bm).contains (.ref C')=b at hq ⊢
 cases b with
 | true=>
  simp only [if_true]
  exact wpAny_pure (wpAny_pure (wpAny_pure hq))
 | false=>
  simp only [Bool.false_eq_true,if_false]
  exact wpAny_pure (wpAny_pure (wpAny_pure hq))
end
abbrev Cx.alt (X:Cx) (A:Around) (calm:Bool) (pn:List (Addr×Obj)) (xe:Value->Shared->Prop):Cx:={ X with A:=A,calm:=calm,pn:=pn,xe:=xe }
abbrev Cx.bear (X:Cx) (pn:List (Addr×Obj)):Cx:=X.alt X.A X.calm pn X.xe
abbrev Cx.suite (X:Cx) (A:Around) (pn:List (Addr×Obj)):Cx:=X.alt A false pn fun _ _=>False
section
variable {X:Cx} {pins pins' pn:List (Addr×Obj)} {σ:St} {H:Hp} {s:Shared} {A:Around} {calm:Bool} {xe:Value->Shared->Prop}
theorem Inv.alt (I:Inv X pins σ H s) (hA:A.frames=some X.stack) (hc:calm=true->A.handled=none) (hp:∀ p∈pn++pins',p∈X.pn++pins):Inv (X.alt A calm pn xe) pins' σ H s:=
 ⟨⟨I.ok.mod,I.ok.kind,I.ok.glob,I.ok.blt,I.ok.above,I.ok.inj,I.ok.has,I.ok.cab,hc,hA,I.ok.stk,I.ok.exf,I.ok.bs,I.ok.bsz,I.ok.noex,I.ok.exfs,I.ok.funs,I.ok.frf⟩,I.os,I.bare,I.base,I.loc,I.cell,I.free,I.freeC,fun p h=>I.pin p (hp p h),I.hok,I.len⟩
theorem Inv.unalt (I:Inv (X.alt A calm pn xe) pins' σ H s) (ok:X.Ok) (hp:∀ p∈X.pn++pins,p∈pn++pins'):Inv X pins σ H s:=
 ⟨ok,I.os,I.bare,I.base,I.loc,I.cell,I.free,I.freeC,fun p h=>I.pin p (hp p h),I.hok,I.len⟩
theorem Inv.unset {i:Nat} {n:Str} {m:Str->Option Value} {v:Option Value} {h':Heap} {t':Nat} (I:Inv X pins σ H s) (hN:X.N.Nodup) (hi:X.N[i]?=some n) (hn:s.heap.Ns X.env.locals m) (hl:∀ (i:Nat) (x:Str) (v:V),X.N[i]?=some x->σ[i]?=some (some v)->AV X.env.scope x->∃ u,RelV v u/\AX X.env s.heap m x u)
  (hn':h'.Ns X.env.locals fun x=>if x=n then v else m x) (hs:Heap.SameBut X.env.locals s.heap h'):Inv X pins (σ.set i none) H { s with heap:=h',toks:=t' }:=by
 have hiσ:i < σ.length:=by rw [I.len];exact (D7.mp hi).1
 have cne:=I.cne
 obtain ⟨oL,_,_,hoL,_⟩:=id hn
 refine ⟨I.ok,I.os,I.bare,⟨fun b o e n hb hx=>?_,fun b o e n hb hx=>?_,I.base.free,fun b o e hx=>?_,I.base.tups,I.base.frzs,I.base.tbls⟩,⟨_,hn',fun j y v' e1 e2 e3=>?_⟩,fun y c e=>?_,I.free,I.freeC,fun p hp=>?_,fun b ob e=>?_,by simpa using I.len⟩
 ·exact (hs.2 b (Ey (Er (Ef e) I.ok.above))).trans (I.base.keep b o e n hb hx)
 ·obtain ⟨sl,e1⟩:=I.base.slot b o e n hb hx
  exact ⟨sl,(hs.2 b (Ey (Er (Ef e) I.ok.above))).trans e1⟩
 ·obtain ⟨o',e1⟩:=I.base.there b o e hx
  exact ⟨o',(hs.2 b (Ey (Er (Ef e) I.ok.above))).trans e1⟩
 ·by_cases hj:j=i
  ·subst hj
   rw [List.getElem?_set_self hiσ] at e2
   cases e2
  ·rw [List.getElem?_set_ne (Ne.symm hj)] at e2
   obtain ⟨u',r',q⟩:=hl j y v' e1 e2 e3
   refine ⟨u',r',?_⟩
   rcases q with ⟨k,e⟩|⟨k,c,e,z⟩
   ·refine .inl ⟨k,?_⟩
    have:y≠n:=fun e=>hj (jB hN e1 (e ▸ hi))
    simp [this,e]
   ·exact .inr ⟨k,c,e,z.sameBut hs (cne y c e)⟩
 ·obtain ⟨w',z⟩:=I.cell y c e
  exact ⟨w',z.sameBut hs (cne y c e)⟩
 ·obtain ⟨e,n,ne,nf,d⟩:=I.pin p hp
  exact ⟨(hs.2 p.1 ne).trans e,n,ne,nf,d⟩
 ·refine (I.hok b ob e).stay (fun c w' hc q=>(hs.2 c ?_).trans q) (fun _ q=>q) fun _ _ q=>q
  rintro rfl
  rcases hc with rfl|hc
  ·rw [I.free] at e;cases e
  ·rw [I.free] at hc;cases hc
end
section
variable {X:Cx} {body suite:List Stmt} {b₀:Stmt} {tb:(St->XK)->TS} {th:TS} {n cn:Str} {cp hpos pos:Pos} {i:Nat} {C':Addr} {nm':Str} {bm':List Value}
def Ends.drop (D:Ends) (i:Nat):Ends:={ nx:=fun σ H=>D.nx (σ.set i none) H,rt:=D.rt,bk:=fun σ H=>D.bk (σ.set i none) H,ct:=fun σ H=>D.ct (σ.set i none) H }
def wj (K:PySem.W.Frag) (C':Addr) (i:Nat) (th:TS) (D:Ends):St->XK:=fun σ e _ H=>∃ a C d fs nm bm,e=.ref a/\XAt H a C d true fs/\XC K C nm bm/\(Value.ref C::bm).contains (.ref C')=true/\th (D.drop i) (σ.set i (some (.ref a))) H
def Dk (K:PySem.W.Frag) (tb:(St->XK)->TS) (C':Addr) (i:Nat) (th:TS):TS:=fun D σ H=>tb (wj K C' i th D) D σ H
theorem yl {H:Hp} {a C C2:Addr} {d d2:Option Addr} {fs:List (Str×V)} {h:Heap} {P:Program} {w:World} (x:XAt H a C d true fs) (ok:HOk P w H h) (y:∃ vs:Array Value,h.get? a=some { cls:=.ref C2,dict:=d2,data:=.fields vs }):C=C2/\d=d2:=by
 obtain ⟨⟨vs,a0,h1,_⟩,_⟩:=(show ObjOk P w H h a (.ext (XO a C d true)) from ok a _ x.1)
 obtain ⟨vs2,h2⟩:=y
 rw [h1] at h2
 injection h2 with h3
 injection h3 with h4 h5
 injection h4 with h6
 exact ⟨h6,h5⟩
set_option maxHeartbeats 1000000 in
theorem Ar {more:List _} (hst:X.stack=X.env::X.outer) (hb:∀ (pn:List (Addr×Obj)) (ES:St->XK),PSs ((X.bear pn).esc ES) body (tb ES)) (hs:∀ (A:Around) (pn:List (Addr×Obj)),PSs (X.suite A pn) (b₀::suite) th)
  (hg:Gl X cn) (hm:X.mg cn=some (.ref C')) (c':XC X.K C' nm' bm') (hN:X.N.Nodup) (hi:X.N[i]?=some n) (hl:X.env.kindOf n=some .local) (hdb:(cn == ("__debug__":Str))=false:=by decide) :
  PS X (.Try body (.ExceptHandler (some (.Name cn cp)) (some n) (b₀::suite) hpos::more) [] [] pos) (Dk X.K tb C' i th):=by
 refine ⟨fun pins s σ H D I h=>?_⟩
 have ok:=I.ok
 have I0:Inv (X.bear (X.pn++pins)) [] σ H s:=I.alt ok.frames ok.hd (fun p hp=>by rwa [ET] at hp)
 have back:∀ {A calm xe σ H s},Inv (X.alt A calm (X.pn++pins) xe) [] σ H s->Inv X pins σ H s:=fun J=>J.unalt ok (fun p hp=>by rwa [ET])
 refine wpAny_Try_except (wpAny_mono ((hb (X.pn++pins) (wj X.K C' i th D)) [] s σ H D (I0.wish _) h) (fun f s1 h1=>?_) fun e s1 h1=>?_)
 ·cases f with
  | next=>
   obtain ⟨σ',H',J,q⟩:=h1
   exact wpAny_pure ⟨σ',H',back J,q⟩
  | brk=>obtain ⟨σ',H',J,q⟩:=h1;exact ⟨σ',H',back J,q⟩
  | cont=>obtain ⟨σ',H',J,q⟩:=h1;exact ⟨σ',H',back J,q⟩
  | ret u=>obtain ⟨v,σ',H',J,r,q⟩:=h1;exact ⟨v,σ',H',back J,r,q⟩
 ·obtain ⟨a,σ1,H1,ea,J,⟨C,d,He,fl⟩,a',Cx',d',fs,nm,bm,e1,xa,c,hc,q⟩:=h1
  subst ea
  cases e1
  have hf:X.env.frame=some X.env.locals:=I.frame1 hst
  have hfr:X.A.frames=some (X.env::X.outer):=by rw [ok.frames,hst]
  have hl':s1.heap.FunFrames X.base (X.env::X.outer):=by rw [<-hst];exact J.stack
  refine kj hfr hl' hf fl J.sz (fun b hb=>J.hok.fresh hb) J.pn_lt fun h2 T w x nT fT pT=>fG (s:={ s1 with heap:=h2 }) x fun h3 k x3=>?_
  have W:=w.then k
  rw [<-hst] at W
  have ec:=yl xa J.hok (by obtain ⟨vs,a0,z,_⟩:=fl;exact ⟨vs,z⟩)
  obtain ⟨rfl,rfl⟩:=ec
  have J3:Inv (X.bear (X.pn++pins)) [] σ1 H1 { s1 with heap:=h3 }:=J.wr (h':=h3) W x3 He fT nT (fun p hp z=>pT (by rw [ET] at hp;exact z ▸ List.mem_map_of_mem hp))
  obtain ⟨q0,N,bs,sn,sub,ab,col,dd,k0,k1,k2,k3,k5,lk⟩:=c.obj
  obtain ⟨q0',N',bs',sn',sub',ab',col',dd',k0',k1',k2',k3',k5',lk'⟩:=c'.obj
  have hC:=J3.kIn _ _ lk
  have hC':=J3.kIn _ _ lk'
  have J4:Inv (X.suite (X.A.mark (some (.ref a))) (X.pn++pins)) [] σ1 H1 { s1 with heap:=h3 }:=J3.alt (X:=X.bear (X.pn++pins)) ok.frames (fun z=>nomatch z) (fun p hp=>hp)
  refine wpAny_handleBy_cons (codeAny_handlers_test (gJ (X:=X.suite (X.A.mark (some (.ref a))) (X.pn++pins)) J4 hg hm ?_ hdb)) (by intro z;cases z)
  obtain ⟨vs3,a03,_,_,he3,_⟩:=id x3
  refine wg he3 rfl hC hC' (c'.tl.has C' "BaseException" true (by decide +kernel)) ?_
  rw [hc]
  simp only [if_true]
  refine codeAny_handlers_suite_as (fG (s:={ s1 with heap:=h3 }) x3 fun h5 k5' x5=>?_)
  have J5:Inv (X.suite (X.A.mark (some (.ref a))) (X.pn++pins)) [] σ1 H1 { s1 with heap:=h5 }:=by
   refine J4.wr (h':=h5) (e:=a) (T:=T) ⟨fun b o hb _ _ hT=>k5' b o hb hT,fun b o hb hbf=>⟨o.slots,k5' b o hb fun z=>W.nf (z ▸ hbf)⟩,fun o ho=>?_,W.nf⟩ x5 He fT nT (fun p hp z=>pT (by rw [ET] at hp;exact z ▸ List.mem_map_of_mem hp))
   obtain ⟨_,_,oT,ts,_,_,_,_,hT,hd,_⟩:=x3
   rw [hT] at ho;cases ho;exact ⟨ts,hd⟩
  refine iu (X:=X.suite (X.A.mark (some (.ref a))) (X.pn++pins)) (v:=.ref a) J5 hN hi (.inl hl) rfl (fun s6 J6=>?_) (.inr hl)
  refine wpAny_mono ((hs (X.A.mark (some (.ref a))) (X.pn++pins)) [] s6 _ H1 (D.drop i) J6 q) (fun f s7 h7=>?_) fun _ _ z=>False.elim z
  have fin:∀ {σ':St} {H':Hp} {R:Unit->Shared->Prop},Inv (X.suite (X.A.mark (some (.ref a))) (X.pn++pins)) [] σ' H' s7->(∀ s8,Inv X pins (σ'.set i none) H' s8->R () s8)->wpAny (model X.prog X.w) X.A (do bindName X.env n .none;unbindBehindTheSuite X.env n hpos) R X.xe s7:=fun {σ' H' R} J7 hR=>by
   obtain ⟨m,hn,hlk⟩:=J7.loc
   refine wpAny_nameGoes_keeps hl hn (by rw [ok.kind];rfl) fun h8 v hn8 hs8=>hR _ (back (J7.unset (t':=s7.toks+1) hN hi hn hlk hn8 hs8))
  cases f with
  | next=>obtain ⟨σ',H',J7,q7⟩:=h7;exact fin J7 fun s8 J8=>⟨_,H',J8,q7⟩
  | brk=>obtain ⟨σ',H',J7,q7⟩:=h7;exact fin J7 fun s8 J8=>⟨_,H',J8,q7⟩
  | cont=>obtain ⟨σ',H',J7,q7⟩:=h7;exact fin J7 fun s8 J8=>⟨_,H',J8,q7⟩
  | ret u=>obtain ⟨v,σ',H',J7,r,q7⟩:=h7;exact fin J7 fun s8 J8=>⟨v,_,H',J8,r,q7⟩
end
end L2
namespace L3
open PySem L2
def dL (l:List Nat):Nat:=l.foldl (fun n c=>n*10+(c - 48)) 0
def ca (c:Nat):Bool:=decide (48<=c) && decide (c<=57)
def fM (l:List Nat):Bool:=decide (1<=l.length) && (decide (l.length<=9) && (l.all ca && !(decide (l[0]?=some 48) && decide (1 < l.length))))
theorem tw (l:List Nat) (c:Nat):dL (l++[c])=dL l*10+(c - 48):=by
 unfold dL;rw [List.foldl_append];rfl
theorem rn:∀ (k:Nat) (l:List Nat),l.length=k+1->l.all ca=true->(l[0]?≠some 48\/k=0)->dg (dL l)=l/\dL l < 10 ^ (k+1)/\(l[0]?≠some 48->1<=dL l):=by
 intro k
 induction k with
 | zero=>
  intro l hl ha _
  match l,hl with
  | [c],_=>
   have hc:48<=c/\c<=57:=by simpa [ca] using ha
   have e:dL [c]=c - 48:=by show 0*10+(c - 48)=_;omega
   rw [e,j1 (by omega)]
   refine ⟨by congr 1;omega,by omega,fun h=>?_⟩
   have:c≠48:=fun z=>h (by rw [z];rfl)
   omega
 | succ k ih=>
  intro l hl ha h0
  have hne:l≠[]:=by rintro rfl;cases hl
  obtain ⟨r,c,rfl⟩:∃ r c,l=r++[c]:=⟨l.dropLast,l.getLast hne,(List.dropLast_concat_getLast hne).symm⟩
  rw [D9] at hl
  have hl':r.length=k+1:=by simpa using hl
  rw [List.all_append,EB] at ha
  have hc:48<=c/\c<=57:=by simpa [ca] using ha.2
  have e0:(r++[c])[0]?=r[0]?:=Fr (by omega)
  rw [e0] at h0 ⊢
  have h0':r[0]?≠some 48:=by rcases h0 with h|h;exact h;omega
  obtain ⟨a,b,d⟩:=ih r hl' ha.1 (.inl h0')
  have d1:=d h0'
  rw [tw]
  have p:10 ^ (k+1+1)=10 ^ (k+1)*10:=rfl
  refine ⟨?_,by omega,fun _=>by omega⟩
  rw [qO (by omega),show (dL r*10+(c - 48)) / 10=dL r from by omega,a,show (dL r*10+(c - 48)) % 10=c - 48 from by omega]
  congr 2
  omega
theorem rq {l:List Nat} (h:fM l=true):l=dg (dL l)/\dL l < 1000000000:=by
 unfold fM at h
 rw [EB,EB,EB,decide_eq_true_iff,decide_eq_true_iff,Bool.not_eq_true',Bool.and_eq_false_iff,decide_eq_false_iff_not,decide_eq_false_iff_not] at h
 obtain ⟨h1,h2,h3,h4⟩:=h
 obtain ⟨a,b,_⟩:=rn (l.length - 1) l (by omega) h3 (by rcases h4 with h|h;exact .inl h;exact .inr (by omega))
 refine ⟨a.symm,Er b ?_⟩
 rw [show (1000000000:Nat)=10 ^ 9 from rfl]
 exact Fe (by decide) (by omega)
theorem ym {n:Nat} (h:n < 1000000000):fM (dg n)=true:=by
 obtain ⟨l1,l9⟩:=dZ n
 have l9:=l9 9 (by decide) (by omega)
 unfold fM
 rw [decide_eq_true l1,decide_eq_true l9,ER.mpr (fun c hc=>by have:=j2 n c hc;show (decide (48<=c) && decide (c<=57))=true;rw [decide_eq_true this.1,decide_eq_true this.2];rfl)]
 by_cases hz:n=0
 ·subst hz;rw [j1 (by decide)];rfl
 ·rw [decide_eq_false (qP n (by omega))];rfl
def oV:Option Nat->V
 | none=>.non
 | some i=>.int (i:Nat)
def gH (l:List Nat):Option Nat:=if fM l then some (dL l) else none
def wk (l:List Str) (x:Str):Option Nat:=if l.contains x then some (l.idxOf x) else none
def kB (D:Fm) (st x:Str):Option Nat:=if st="place" then wk D.places x else if st="mark" then wk D.marks x else gH (cp x)
def yn (b:Nat):Option Nat->Bool
 | none=>false
 | some i=>decide (i < b)
def fH {α β:Type} (f:α->β->Bool):List α->List β->Bool
 | [],[]=>true
 | a::r,b::s=>f a b && fH f r s
 | _,_=>false
def cC (D:Fm) (n:Nat) (x:Str) (f:Str×Str):Bool:=yn (dM D n f.2) (kB D f.2 x)
def dO (D:Fm) (n:Nat) (line:Str):Option Rw:=match Txt.split line " " with
 | []=>none
 | k::ws=>match D.kinds.find? (fun x=>decide (x.name=k)) with
  | none=>none
  | some x=>if fH (cC D n) ws x.fs then some ⟨x,(ws.zip x.fs).map fun p=>(kB D p.2.2 p.1).getD 0⟩ else none
theorem mX {l:List Str} {x:Str} {i:Nat} (h:wk l x=some i):l[i]?=some x/\i < l.length/\∀ m,m < i->l[m]?≠some x:=by
 unfold wk at h
 by_cases c:l.contains x=true
 ·rw [if_pos c] at h
  cases h
  have hm:x∈l:=EK.mp c
  have hl:=List.idxOf_lt_length_iff.mpr hm
  refine ⟨?_,hl,fun m hm' e=>?_⟩
  ·rw [El hl,List.getElem_idxOf hl]
  ·obtain ⟨hlt,e⟩:=D7.mp e
   have:=List.not_of_lt_findIdx (p:=(· == x)) hm'
   simp [e] at this
 ·rw [if_neg c] at h;cases h
theorem wm (l:List Str) (x:Str):yn l.length (wk l x)=l.contains x:=by
 cases e:wk l x with
 | none=>
  unfold wk at e
  by_cases c:l.contains x=true
  ·rw [if_pos c] at e;cases e
  ·rw [EY.mpr c];rfl
 | some i=>
  obtain ⟨a,b,_⟩:=mX e
  rw [EK.mpr (Ex a)]
  exact decide_eq_true b
def ko (l:List Nat) (m:Nat):Bool:=decide (l≠[]) && (l.all ca && (!(decide (l[0]?=some 48) && decide (l≠[48])) && (decide (l.length<=30) && decide (dL l<=m))))
theorem oB {l:List Nat} (h:l[0]?=some 48):l≠[48]↔1 < l.length:=by
 match l,h with
 | [c],h=>cases h;simp
 | c::d::r,h=>simp
theorem oC {l:List Nat} {b:Nat} (hb:1<=b) (hb9:b<=1000000000):yn b (gH l)=ko l (b - 1):=by
 by_cases h:fM l=true
 ·unfold gH
  rw [if_pos h]
  unfold fM at h
  rw [EB,EB,EB,decide_eq_true_iff,decide_eq_true_iff] at h
  obtain ⟨h1,h2,h3,h4⟩:=h
  unfold ko
  rw [decide_eq_true (show l≠[] by rintro rfl;simp at h1),h3,decide_eq_true (show l.length<=30 by omega)]
  have e4:(!(decide (l[0]?=some 48) && decide (l≠[48])))=true:=by
   by_cases z:l[0]?=some 48
   ·rw [decide_eq_true z] at h4 ⊢
    rw [Bool.true_and,Bool.not_eq_true',decide_eq_false_iff_not] at h4 ⊢
    rwa [oB z]
   ·rw [decide_eq_false z];rfl
  rw [e4]
  show decide (dL l < b)=decide (dL l<=b - 1)
  exact decide_eq_decide.mpr ⟨fun _=>by omega,fun _=>by omega⟩
 ·have e:gH l=none:=by unfold gH;rw [if_neg h]
  rw [e]
  refine (EY.mpr fun z=>h ?_).symm
  unfold ko at z
  rw [EB,EB,EB,EB,decide_eq_true_iff,decide_eq_true_iff,decide_eq_true_iff] at z
  obtain ⟨z1,z2,z3,z4,z5⟩:=z
  have hl:1<=l.length:=List.length_pos_iff.mpr z1
  have z0:l[0]?≠some 48\/l.length - 1=0:=by
   by_cases c:l[0]?=some 48
   ·right
    rw [decide_eq_true c,Bool.true_and,Bool.not_eq_true',decide_eq_false_iff_not,oB c] at z3
    omega
   ·exact .inl c
  obtain ⟨a,_,_⟩:=rn (l.length - 1) l (by omega) z2 z0
  have:=ym (n:=dL l) (by omega)
  rwa [a] at this
theorem wn {l:List Nat} {i:Nat} (h:gH l=some i):l=dg i/\i < 1000000000:=by
 unfold gH at h
 by_cases c:fM l=true
 ·rw [if_pos c] at h;cases h;exact rq c
 ·rw [if_neg c] at h;cases h
theorem Cb {D:Fm} {st x:Str} {i:Nat} (h:kB D st x=some i):kH D st i=x:=by
 unfold kB at h
 unfold kH
 by_cases h1:st="place"
 ·rw [if_pos h1] at h ⊢
  obtain ⟨a,b,_⟩:=mX h
  rw [j5 b] at a
  exact Eg a
 ·rw [if_neg h1] at h ⊢
  by_cases h2:st="mark"
  ·rw [if_pos h2] at h ⊢
   obtain ⟨a,b,_⟩:=mX h
   rw [j5 b] at a
   exact Eg a
  ·rw [if_neg h2] at h ⊢
   have:=(wn h).1
   rw [dk,<-this,dc]
theorem oE {D:Fm} {n:Nat} {line:Str} {r:Rw} (h:dO D n line=some r):iq D n r/\Txt.split line " "=r.k.name::cN D r:=by
 unfold dO at h
 cases es:Txt.split line " " with
 | nil=>rw [es] at h;cases h
 | cons k ws=>
  rw [es] at h
  dsimp only at h
  cases ef:D.kinds.find? (fun x=>decide (x.name=k)) with
  | none=>rw [ef] at h;cases h
  | some x=>
   rw [ef] at h
   dsimp only at h
   by_cases c:fH (cC D n) ws x.fs=true
   ·rw [if_pos c] at h
    cases h
    have hk:x.name=k:=by simpa using List.find?_some ef
    have key:∀ {ws:List Str} {fs:List (Str×Str)},fH (cC D n) ws fs=true->Paired (fun o (f:Str×Str)=>o < dM D n f.2) ((ws.zip fs).map fun p=>(kB D p.2.2 p.1).getD 0) fs/\((((ws.zip fs).map fun p=>(kB D p.2.2 p.1).getD 0).zip fs).map fun x=>kH D x.2.2 x.1)=ws:=by
     intro ws
     induction ws with
     | nil=>
      intro fs hc
      cases fs with
      | nil=>exact ⟨.nil,rfl⟩
      | cons _ _=>cases hc
     | cons w ws ih=>
      intro fs hc
      cases fs with
      | nil=>cases hc
      | cons f fs=>
       have hc':(cC D n w f && fH (cC D n) ws fs)=true:=hc
       rw [EB] at hc'
       obtain ⟨i1,i2⟩:=ih hc'.2
       have hg:yn (dM D n f.2) (kB D f.2 w)=true:=hc'.1
       cases er:kB D f.2 w with
       | none=>rw [er] at hg;cases hg
       | some i=>
        rw [er] at hg
        have hi:i < dM D n f.2:=of_decide_eq_true hg
        simp only [List.zip_cons_cons,Ek,er,Option.getD_some]
        exact ⟨.cons hi i1,by rw [Cb er,i2]⟩
    obtain ⟨a,b⟩:=key c
    refine ⟨⟨List.mem_of_find?_eq_some ef,a⟩,?_⟩
    show k::ws=x.name::cN D _
    rw [hk]
    unfold cN
    rw [b]
   ·rw [if_neg c] at h;cases h
end L3
namespace L3
open PySem L2
def DG (lo hi:Int):Option Nat->Bool
 | none=>false
 | some i=>decide (lo<=(i:Int)) && decide ((i:Int)<=hi)
def oF:Sp:=fun vs H Q _=>∃ o,vs=[oV o]/\Q (.bl o.isSome) H
def gU:Sp:=fun vs H Q _=>∃ o lo hi,vs=[oV o,.int lo,.int hi]/\Q (.bl (DG lo hi o)) H
def rB:Sp:=fun vs H Q _=>∃ o,∃ w:Nat,vs=[oV o,.int w]/\w<=24/\Q (.bl (yn (2 ^ w) o)) H
def kq (C:Addr):Sp:=fun vs H Q _=>∃ v D st o,∃ n:Nat,vs=[v,.str st,oV o,.int n]/\TabV C H v D/\D.width<=24/\Q (.bl (yn (dM D n st) o)) H
theorem mY {b:Nat} {hi:Int} (h:hi=(b:Int) - 1) (o:Option Nat):DG 0 hi o=yn b o:=by
 cases o with
 | none=>rfl
 | some i=>
  show (decide ((0:Int)<=(i:Int)) && decide ((i:Int)<=hi))=decide (i < b)
  rw [decide_eq_true (show (0:Int)<=(i:Int) by omega),Bool.true_and]
  exact decide_eq_decide.mpr ⟨fun _=>by omega,fun _=>by omega⟩
section
variable {P:Program} {w:World} {K:PySem.W.Frag} {mg:Str->Option Value} {base:Heap} {C:Addr}
theorem tE {f:Addr} {fd:FuncData} (F:Fun K "is_whole" "is_whole" mx f fd) (T:Bl mg):aN P w K mg base cj 1 f fd ["thing"] oF:=by
 refine F.ok qL (fun vs H Q E h=>?_) (fun cdv A outer s H vs Q E hr h=>?_)
 ·obtain ⟨o,rfl,_⟩:=h
  rfl
 ·obtain ⟨o,rfl,q⟩:=h
  refine ⟨_,ai (av (hV (au (eK (T:="int")) (by rfl) T.isinstance cV (aa (pv 0) (aa (gi (by rfl) T.int EW) ac))) (fO (ua (au (eK (T:="bool")) (by rfl) T.isinstance cV (aa (pv 0) (aa (gi (by rfl) T.bool io) ac))))))),?_⟩
  cases o with
  | none=>exact ⟨_,rfl,_,_,_,rfl,.non,rfl,_,rfl,cA q⟩
  | some i=>exact ⟨_,rfl,_,_,_,rfl,.int _,rfl,_,rfl,gh ⟨_,rfl,_,_,_,rfl,.int _,rfl,_,rfl,q⟩⟩
theorem qi {f:Addr} {fd:FuncData} (F:Fun K "is_within" "is_within" jr f fd) (WH:Fn P w K mg base "is_whole" 1 ["thing"] oF):aN P w K mg base cj 2 f fd ["thing","low","high"] gU:=by
 refine F.ok og (fun vs H Q E h=>?_) (fun cdv A outer s H vs Q E hr h=>?_)
 ·obtain ⟨o,lo,hi,rfl,_⟩:=h
  rfl
 ·obtain ⟨o,lo,hi,rfl,q⟩:=h
  refine ⟨_,ai (av (hV (aC WH hr rfl (aa (pv 0) ac)) (fO (jE eR eR (pv 1) (pv 0) (pv 2))))),?_⟩
  cases o with
  | none=>exact ⟨_,rfl,none,rfl,_,rfl,cA q⟩
  | some i=>
   have q':Q (.bl (decide (lo<=(i:Int)) && decide ((i:Int)<=hi))) H:=q
   refine ⟨_,rfl,some i,rfl,_,rfl,gh ⟨_,rfl,_,rfl,_,_,rfl,rfl,_,rfl,?_⟩⟩
   by_cases h1:lo<=(i:Int)
   ·rw [decide_eq_true h1,Bool.true_and] at q'
    exact bB (decide_eq_true h1) ⟨_,rfl,_,_,rfl,rfl,q'⟩
   ·rw [decide_eq_false h1,Bool.false_and] at q'
    exact bi (decide_eq_false h1) q'
theorem wo {f:Addr} {fd:FuncData} (F:Fun K "is_word" "is_word" uQ f fd) (WI:Fn P w K mg base "is_within" 2 ["thing","low","high"] gU):aN P w K mg base cj 3 f fd ["thing","width"] rB:=by
 refine F.ok Ae (fun vs H Q E h=>?_) (fun cdv A outer s H vs Q E hr h=>?_)
 ·obtain ⟨o,w,rfl,_⟩:=h
  rfl
 ·obtain ⟨o,w,rfl,hw,q⟩:=h
  refine ⟨_,ai (av (aC WI hr rfl (aa (pv 0) (aa aj (aa (aH dX (aH oW aj (pv 1)) aj) ac))))),?_⟩
  refine ⟨_,rfl,_,rfl,_,_,rfl,rfl,?_,_,_,rfl,rfl,o,_,_,rfl,?_⟩
  ·unfold zn
   refine ⟨by omega,by omega,by decide⟩
  ·rw [mY (b:=2 ^ w)]
   ·exact q
   ·have e:((w:Int)).toNat=w:=by omega
    show 1*2 ^ ((w:Int)).toNat - 1=((2 ^ w:Nat):Int) - 1
    rw [e]
    have:((2 ^ w:Nat):Int)=(2:Int) ^ w:=by norm_cast
    omega
theorem oG {f:Addr} {fd:FuncData} (F:Fun K "is_operand" "is_operand" ig f fd) (T:Tc K C) (B:Bl mg) (WI:Fn P w K mg base "is_within" 2 ["thing","low","high"] gU) (WO:Fn P w K mg base "is_word" 3 ["thing","width"] rB):aN P w K mg base cj 4 f fd ["table","sort","thing","rows"] (kq C):=by
 refine F.ok sT (fun vs H Q E h=>?_) (fun cdv A outer s H vs Q E hr h=>?_)
 ·obtain ⟨v,D,st,o,n,rfl,_⟩:=h
  rfl
 ·obtain ⟨v,D,st,o,n,rfl,⟨a,dx,pp,pm,pn,pk,us,rfl,ho,hpp,hpm,hpn,hpk,hus⟩,hw,q⟩:=h
  have hr2:Room 2 _:=hr.mono (by decide)
  refine ⟨_,af (aT (aq bO (pv 1) ak (aB _)) (ai (av (aC WI hr2 rfl (aa (pv 2) (aa aj (aa (aH dX (au aA (by rfl) B.len Ei (aa (cb (pv 0) rfl) ac)) aj) ac)))))) aI)
   (af (aT (aq bO (pv 1) ak (aB _)) (ai (av (aC WI hr2 rfl (aa (pv 2) (aa aj (aa (aH dX (au aA (by rfl) B.len Ei (aa (cb (pv 0) rfl) ac)) aj) ac)))))) aI)
   (af (aT (aq bO (pv 1) ak (aB _)) (ai (av (aC WO hr rfl (aa (pv 2) (aa (cb (pv 0) rfl) ac))))) aI)
   (ai (av (aC WI hr2 rfl (aa (pv 2) (aa aj (aa (pv 3) ac)))))))),?_⟩
  have lx:∀ l:List Str,(((ae l).length:Nat):Int) - 1=((l.length:Nat):Int) - 1:=fun l=>by unfold ae;rw [D5]
  unfold dM at q
  refine ⟨_,rfl,rfl,_,rfl,eD (fun h=>?_) (fun h=>?_)⟩
  ·have h':st="place":=V.str.inj (of_decide_eq_true h)
   rw [if_pos h'] at q
   refine ⟨_,rfl,_,rfl,a,C,dx,_,_,rfl,ho,T.cl,T.na "places" (by decide +kernel),rfl,pp,_,rfl,.inr (SqT.of hpp),_,_,rfl,rfl,o,_,_,rfl,?_⟩
   rw [mY (lx _)]
   exact q
  have n1:st≠"place":=fun e=>h (decide_eq_true (congrArg V.str e))
  rw [if_neg n1] at q
  refine ⟨_,rfl,rfl,_,rfl,eD (fun h=>?_) (fun h=>?_)⟩
  ·have h':st="mark":=V.str.inj (of_decide_eq_true h)
   rw [if_pos h'] at q
   refine ⟨_,rfl,_,rfl,a,C,dx,_,_,rfl,ho,T.cl,T.na "marks" (by decide +kernel),rfl,pm,_,rfl,.inr (SqT.of hpm),_,_,rfl,rfl,o,_,_,rfl,?_⟩
   rw [mY (lx _)]
   exact q
  have n2:st≠"mark":=fun e=>h (decide_eq_true (congrArg V.str e))
  rw [if_neg n2] at q
  refine ⟨_,rfl,rfl,_,rfl,eD (fun h=>?_) (fun h=>?_)⟩
  ·have h':st="number":=V.str.inj (of_decide_eq_true h)
   rw [if_pos h'] at q
   exact ⟨_,rfl,_,rfl,a,C,dx,_,_,rfl,ho,T.cl,T.na "width" (by decide +kernel),rfl,o,D.width,rfl,hw,q⟩
  have n3:st≠"number":=fun e=>h (decide_eq_true (congrArg V.str e))
  rw [if_neg n3] at q
  refine ⟨_,rfl,_,rfl,o,_,_,rfl,?_⟩
  rw [mY (b:=n+1) (by omega)]
  exact q
end
end L3
namespace L3
open PySem L2
theorem wq (l:List Nat) (k:Nat):fk l (some (k:Int)) none=l.drop k:=by
 unfold fk
 have e1:HT.sIx l.length 0 (some (k:Int))=min k l.length:=by
  show (if (k:Int) < 0 then ((k:Int)+(l.length:Int)).toNat else min (k:Int).toNat l.length)=_
  rw [if_neg (by omega)];rfl
 have e2:HT.sIx l.length l.length none=l.length:=rfl
 rw [e1,e2]
 by_cases h:k<=l.length
 ·rw [Fh h,EC (by rw [EF];omega)]
 ·rw [Nat.min_eq_right (by omega),List.drop_eq_nil_of_le (Ec _),List.drop_eq_nil_of_le (by omega),List.take_nil]
theorem rC (c:Nat):decide (c∈zU)=ca c:=by
 rw [EX,decide_eq_true_iff]
 unfold ca
 rw [EB,decide_eq_true_iff,decide_eq_true_iff]
 constructor
 ·intro h
  obtain ⟨k,hk,rfl⟩:=ED.mp h
  have:=Fb.mp hk
  omega
 ·exact qQ c
def qj:Sp:=fun vs H Q _=>∃ x,vs=[.str x]/\(cp x).length<=1000/\∀ H',Same H H'->Q (oV (gH (cp x))) H'
section
variable {P:Program} {w:World} {K:PySem.W.Frag} {mg:Str->Option Value} {base:Heap} {C:Addr}
theorem As:ay ["token"] ["token"] (am dw):=⟨rfl,rfl,rfl,by decide +kernel,rfl,by decide +kernel,by decide +kernel⟩
theorem Cd:(["sign"]:List Str).Nodup:=by decide +kernel
set_option maxHeartbeats 1000000 in
theorem yo {f:Addr} {fd:FuncData} {tF tM:Tok} (F:Fun K "number_of" "number_of" dw f fd) (T:Bl mg) (hF:mg "FIGURES"=some (.str sQ tF)) (hM:mg "MOST_FIGURES"=some (.int 9 tM)):aN P w K mg base cj 1 f fd ["token"] qj:=by
 refine F.ok As (fun vs H Q E h=>?_) (fun cdv A outer s H vs Q E hr h=>?_)
 ·obtain ⟨x,rfl,_⟩:=h
  rfl
 ·obtain ⟨x,rfl,hx,q⟩:=h
  refine ⟨_,af (aT (PW.pt (dF (cQ (jF eR eR aj (au bA (by rfl) T.len Ei (aa (pv 0) ac)) (bo (v:=.int 9) rfl hM ⟨_,rfl⟩)))
    (cZ (cQ (cO (au (iB rfl) (by rfl) T.all gP (aa (eG (N':=["sign"]) (ix:=[none]) (sc0:=am dw) (N:=["token"]) rfl (by decide +kernel) (mj (pv 0))
     (fun C' cl s H fp=>ar (i:=0) Cd rfl (Or.inl rfl) (.inr rfl)) (fun _ _ _ _ _=>cU) (fun C' cl s H fp=>cX eT (pv 0) (bo (v:=.str sQ) rfl hF ⟨_,rfl⟩) rfl)) ac))))))) (ai (av cz)) aI)
   (af (aT (PW.pt (cE (aq bO (aP fY (pv 0) aj (fun _ _=>rfl)) ak (aB _)) (ck (aq nC (au bA (by rfl) T.len Ei (aa (pv 0) ac)) aj (aB _))))) (ai (av cz)) aI)
   (ai (av (aM je (by rfl) T.int EW (aa (pv 0) ac))))),?_⟩
  have ex:=dc x
  generalize cp x=l at *
  subst ex
  have sz:(100000:Nat)<=sizeLine:=by decide
  have non:∀ H',Same H H'->fM l=false->Q .non H':=fun H' s' e=>by
   have:=q H' s'
   unfold gH at this
   rw [e] at this
   exact this
  refine ⟨_,rfl,S l,rfl,(by rw [aR];omega),_,_,rfl,rfl,_,rfl,?_⟩
  rw [aR]
  by_cases c1:1<=l.length
  ·refine bB (decide_eq_true (by omega)) ⟨_,_,rfl,rfl,_,rfl,?_⟩
   by_cases c2:l.length<=9
   ·rw [decide_eq_true (show ((l.length:Nat):Int)<=9 by omega)]
    refine cA ⟨_,rfl,l,rfl,?_⟩
    refine ml (fun i ys H'=>ys=(l.take i).map (fun c=>V.bl (ca c))/\Same H H') ⟨rfl,Same.refl _⟩ (fun i ys H' hi ⟨e,_⟩=>by rw [e,D5,Eh];omega) ?_ ?_
    ·rintro i ys H' hi ⟨rfl,s'⟩
     refine ⟨trivial,c9 ?_⟩
     refine ⟨_,rfl,S [l[i]],_,rfl,rfl,?_⟩
     rw [vn,fq,rC]
     refine Nx.mk hi ⟨?_,s'⟩
     rw [<-List.take_append_getElem hi,Ed]
     rfl
    ·rintro ys H' ⟨rfl,s'⟩ D hD
     have s2:=s'.trans (ag (o:=.lst ((l.take l.length).map (fun c=>V.bl (ca c)))) hD)
     refine ⟨D,l.map ca,rfl,SqL.of ?_,?_⟩
     ·rw [ad,EI,E1]
      rfl
     generalize ax H' D (.lst ((l.take l.length).map (fun c=>V.bl (ca c))))=H2 at *
     rw [List.all_map]
     cases ha:l.all ca with
     | false=>
      refine ⟨_,rfl,?_⟩
      have ha':l.all (id ∘ ca)=false:=ha
      rw [ha']
      exact gh (non _ s2 (by unfold fM;rw [ha,Bool.false_and,Bool.and_false,Bool.and_false]))
     | true=>
      have ha':l.all (id ∘ ca)=true:=ha
      rw [ha']
      refine ⟨_,rfl,cA ?_⟩
      refine ⟨_,rfl,S l,0,l[0],rfl,rfl,(by rw [aR];omega),fB (i:=0) (by omega),rfl,_,rfl,?_⟩
      have fin:fM l=true->Q (.int (dL l)) H2:=fun e=>by
       have:=q _ s2
       unfold gH at this
       rw [e] at this
       exact this
      have e0:l[0]?=some l[0]:=El (by omega)
      have last:fM l=true->∃ n:Nat,[V.str (S l)]=[.str (toString (n:Int):Str)]/\n < 1000000000/\Q (.int n) H2:=fun e=>by
       obtain ⟨a,b⟩:=rq e
       exact ⟨dL l,by rw [dk,<-a],b,fin e⟩
      by_cases hz:l[0]=48
      ·refine bB (decide_eq_true (by rw [hz];decide +kernel)) ?_
       refine ⟨_,rfl,S l,rfl,(by rw [aR];omega),_,_,rfl,rfl,_,rfl,?_⟩
       rw [aR]
       by_cases hl:1 < l.length
       ·exact bB (decide_eq_true (by omega)) (non _ s2 (by unfold fM;rw [e0,hz,decide_eq_true rfl,decide_eq_true hl];simp))
       ·exact bi (decide_eq_false (by omega)) ⟨_,rfl,last (by unfold fM;rw [ha,decide_eq_true c1,decide_eq_true c2,decide_eq_false hl];simp)⟩
      ·refine bi (decide_eq_false fun e=>hz ?_) (cA ⟨_,rfl,last (by unfold fM;rw [ha,decide_eq_true c1,decide_eq_true c2,e0,decide_eq_false (by simpa using hz)];rfl)⟩)
       have e2:=V.str.inj e
       have e3:S [l[0]]=S [48]:=e2.trans (by decide +kernel)
       exact (Fv (L2.S_inj.mp e3)).1
   ·rw [decide_eq_false (show ¬ ((l.length:Nat):Int)<=9 by omega)]
    exact gh (non _ (Same.refl _) (by unfold fM;rw [decide_eq_false c2,Bool.false_and,Bool.and_false]))
  ·exact bi (decide_eq_false (by omega)) ⟨_,rfl,gh (non _ (Same.refl _) (by unfold fM;rw [decide_eq_false c1,Bool.false_and]))⟩
end
end L3
namespace L3
open PySem L2
def y0 (C:Addr):Sp:=fun vs H Q _=>∃ v D st x,vs=[v,.str st,.str x]/\TabV C H v D/\(cp x).length<=1000/\∀ H',Same H H'->Q (oV (kB D st x)) H'
def fc (l:List (Option Nat)):List V:=l.map oV
def ji (D:Fm) (n:Nat) (o:Option Nat) (f:Str×Str):Bool:=yn (dM D n f.2) o
def oH (C:Addr):Sp:=fun vs H Q _=>∃ v D,∃ (n:Nat) (k:Kn) (os:List (Option Nat)) (p t:Addr),vs=[v,.ref p,.int n]/\TabV C H v D/\iD D/\D.width<=24/\k∈D.kinds/\os.length=k.fs.length/\H p=some (.tup [.str k.name,.ref t])/\H t=some (.tup (fc os))/\∀ H',Same H H'->Q (.bl (fH (ji D n) os k.fs)) H'
theorem oJ {α β:Type} (f:α->β->Bool):∀ {a:List α} {b:List β},a.length=b.length->((a.zip b).map fun p=>f p.1 p.2).all id=fH f a b
 | [],[],_=>rfl
 | x::a,y::b,h=>by
  have ih:=oJ f (a:=a) (b:=b) (Nat.succ.inj h)
  show (f x y && ((a.zip b).map fun p=>f p.1 p.2).all id)=_
  rw [ih];rfl
section
variable {P:Program} {w:World} {K:PySem.W.Frag} {mg:Str->Option Value} {base:Heap} {C:Addr}
set_option maxHeartbeats 1000000 in
theorem At {f:Addr} {fd:FuncData} (F:Fun K "operand_read" "operand_read" fw f fd) (T:Tc K C) (NU:Fn P w K mg base "number_of" 1 ["token"] qj):aN P w K mg base cj 2 f fd ["table","sort","word"] (y0 C):=by
 refine F.ok scORd (fun vs H Q E h=>?_) (fun cdv A outer s H vs Q E hr h=>?_)
 ·obtain ⟨v,D,st,x,rfl,_⟩:=h
  rfl
 ·obtain ⟨v,D,st,x,rfl,⟨a,dx,pp,pm,pn,pk,us,rfl,ho,hpp,hpm,hpn,hpk,hus⟩,hx,q⟩:=h
  refine ⟨_,af (aT (aq cI (pv 1) (aW (aa ak (aa ak ac))) rfl)
    (af (aw (i:=3) scORd.nd rfl (Or.inl rfl) (dG (aq bO (pv 1) ak (aB _)) (cb (pv 0) rfl) (cb (pv 0) rfl)))
    (ai (av (dG (aq cI (pv 2) (pv 3) rfl) (uO PySem.F.plainAttrs_tuple PySem.F.slot_tuple_index PySem.F.type_tuple_index jc (pv 3) (aa (pv 2) ac)) cz)))) aI)
   (ai (av (aC NU hr rfl (aa (pv 2) ac)))),?_⟩
  refine ⟨_,rfl,(by show 2<=sizeLine;decide),fun t nt=>?_⟩
  have s1:=ag (o:=.tup [.str "place",.str "mark"]) nt
  have e2:(ax H t (.tup [.str "place",.str "mark"])) t=some (.tup [.str "place",.str "mark"]):=ad
  generalize ax H t (.tup [.str "place",.str "mark"])=H1 at *
  have e3:iM (.str st) [.str "place",.str "mark"]=(["place","mark"]:List Str).contains st:=cW st ["place","mark"]
  have q1:=q H1 s1
  have sub:∀ (l:List Str) (b:Addr),H1 b=some (.tup (ae l))->Q (oV (wk l x)) H1->∀ r:Bool,iM (.str x) (ae l)=r->(r=true->∃ j,l[j]?=some x/\(∀ m,m < j->l[m]?≠some x)/\Q (.int (j:Nat)) H1)/\(r=false->Q .non H1):=fun l b eb q' r er=>by
   rw [cW] at er
   subst er
   refine ⟨fun h=>?_,fun h=>?_⟩
   ·cases ei:wk l x with
    | none=>unfold wk at ei;rw [if_pos h] at ei;cases ei
    | some j=>
     rw [ei] at q'
     obtain ⟨a1,_,a3⟩:=mX ei
     exact ⟨j,a1,a3,q'⟩
   ·unfold wk at q'
    rw [if_neg (by rw [h];decide)] at q'
    exact q'
  unfold kB at q1
  refine ⟨t,_,rfl,.inr (SqT.of e2),rfl,rfl,_,rfl,eD (fun h=>?_) (fun h=>?_)⟩
  ·have h5:(["place","mark"]:List Str).contains st=true:=by rw [<-e3];exact h
   by_cases h':st="place"
   ·subst h'
    rw [if_pos rfl] at q1
    obtain ⟨k1,k2⟩:=sub D.places pp (s1 _ _ hpp) q1 _ rfl
    refine ⟨_,rfl,rfl,_,rfl,bB (by simp) ⟨_,rfl,a,C,dx,_,_,rfl,s1 _ _ ho,T.cl,T.na "places" (by decide +kernel),rfl,?_⟩⟩
    refine ⟨_,rfl,_,rfl,pp,_,rfl,.inr (SqT.of (s1 _ _ hpp)),rfl,cc _,_,rfl,eD (fun h=>?_) (fun h=>k2 (EY.mpr h))⟩
    obtain ⟨j,a1,a2,a3⟩:=k1 h
    exact ⟨_,rfl,pp,_,rfl,s1 _ _ hpp,_,rfl,pp,_,_,j,rfl,rfl,SqT.of (s1 _ _ hpp),a1,a2,a3⟩
   ·have h2:st="mark":=by
     have:=EK.mp h5
     simp [h'] at this
     exact this
    subst h2
    rw [if_neg h',if_pos rfl] at q1
    obtain ⟨k1,k2⟩:=sub D.marks pm (s1 _ _ hpm) q1 _ rfl
    refine ⟨_,rfl,rfl,_,rfl,bi (decide_eq_false fun e=>h' (V.str.inj e)) ⟨_,rfl,a,C,dx,_,_,rfl,s1 _ _ ho,T.cl,T.na "marks" (by decide +kernel),rfl,?_⟩⟩
    refine ⟨_,rfl,_,rfl,pm,_,rfl,.inr (SqT.of (s1 _ _ hpm)),rfl,cc _,_,rfl,eD (fun h=>?_) (fun h=>k2 (EY.mpr h))⟩
    obtain ⟨j,a1,a2,a3⟩:=k1 h
    exact ⟨_,rfl,pm,_,rfl,s1 _ _ hpm,_,rfl,pm,_,_,j,rfl,rfl,SqT.of (s1 _ _ hpm),a1,a2,a3⟩
  ·have h5:(["place","mark"]:List Str).contains st=false:=by rw [<-e3];exact EY.mpr h
   have n1:st≠"place":=by rintro rfl;revert h5;decide +kernel
   have n2:st≠"mark":=by rintro rfl;revert h5;decide +kernel
   refine ⟨_,rfl,x,rfl,hx,fun H2 s2=>?_⟩
   have:=q H2 (s1.trans s2)
   unfold kB at this
   rw [if_neg n1,if_neg n2] at this
   exact this
set_option maxHeartbeats 4000000 in
theorem tH {f:Addr} {fd:FuncData} (F:Fun K "is_row" "is_row" my f fd) (T:Tc K C) (B:Bl mg) (B4:AR mg) (FO:fb P w K mg base C "fields_of" 2 ["self","kind"] (sR C)) (IO:Fn P w K mg base "is_operand" 4 ["table","sort","thing","rows"] (kq C)):aN P w K mg base cj 5 f fd ["table","thing","rows"] (oH C):=by
 refine F.ok scIsRow (fun vs H Q E h=>?_) (fun cdv A outer s H vs Q E hr h=>?_)
 ·obtain ⟨v,D,n,k,os,p,t,rfl,_⟩:=h
  rfl
 ·obtain ⟨v,D,n,k,os,p,t,rfl,hT,hD,hw,hk,hol,hp,ht,q⟩:=h
  obtain ⟨a,dx,pp,pm,pn,pk,us,rfl,ho,hpp,hpm,hpn,hpk,hus⟩:=id hT
  have hr2:Room 2 _:=hr.mono (by decide)
  obtain ⟨f1,fd1,M1,F1,B1⟩:=FO
  refine ⟨_,af (aT (PW.pt (dF (cQ (cO (au (eK (T:="tuple")) (by rfl) B.isinstance cV (aa (pv 1) (aa (gi (by rfl) B.tuple bH) ac)))))
     (dF (aq iw (au aA (by rfl) B.len Ei (aa (pv 1) ac)) aj (aB _))
     (cZ (aq cJ (aP dq (pv 1) aj (fun _ _=>rfl)) (cb (pv 0) rfl) rfl))))) (ai (av eO)) aI)
   (af (aw (i:=3) scIsRow.nd rfl (Or.inl rfl) (bQ (pv 0) (aa (aP dq (pv 1) aj (fun _ _=>rfl)) ac)))
   (af (aw (i:=4) scIsRow.nd rfl (Or.inl rfl) (aP dq (pv 1) aj (fun _ _=>rfl)))
   (af (aT (PW.pt (dF (cQ (cO (au (eK (T:="tuple")) (by rfl) B.isinstance cV (aa (pv 4) (aa (gi (by rfl) B.tuple bH) ac)))))
     (cZ (aq iw (au aA (by rfl) B.len Ei (aa (pv 4) ac)) (au aA (by rfl) B.len Ei (aa (pv 3) ac)) (aB _))))) (ai (av eO)) aI)
   (ai (av (au (iB rfl) (by rfl) B.all gP (aa (eG (N':=["name","sort","number","rows","table"]) (ix:=[none,none,none,some 2,some 0]) (sc0:=am my) (N:=["table","thing","rows","fields","operands"]) rfl (by decide +kernel) (jq true true rfl B4.zip (aa (pv 3) (aa (pv 4) ac)))
    (fun C' cl s H fp=>dE (K:=K) (n:=2) rfl rfl (az (dE (K:=K) (n:=2) rfl rfl (az (ar (i:=0) Af rfl (Or.inl rfl) (.inr rfl)) (az (ar (i:=1) Af rfl (Or.inl rfl) (.inr rfl)) bD))) (az (ar (i:=2) Af rfl (Or.inl rfl) (.inr rfl)) bD)))
    (fun _ _ _ _ _=>cU) (fun C' cl s H fp=>aC IO hr rfl (aa (pv 4) (aa (pv 1) (aa (pv 2) (aa (pv 3) ac)))))) ac))))))),?_⟩
  have hz:k.name∈D.kinds.map Kn.name:=ED.mpr ⟨_,hk,rfl⟩
  refine ⟨_,rfl,_,_,_,rfl,.tup hp,rfl,_,rfl,cA ?_⟩
  refine ⟨_,rfl,p,_,rfl,.inr (SqT.of hp),rfl,_,rfl,bi (by simp) ?_⟩
  refine ⟨_,rfl,p,_,_,_,rfl,rfl,SqT.of hp,rfl,_,rfl,a,C,dx,_,_,rfl,ho,T.cl,T.na "kinds" (by decide +kernel),rfl,pn,_,rfl,.inr (SqT.of hpn),rfl,cc _,_,rfl,bi ?_ ?_⟩
  ·show (!iM (.str k.name) (ae (D.kinds.map Kn.name)))=false
   rw [cW,EK.mpr hz]
   rfl
  refine ⟨_,rfl,a,dx,C,f1,_,fd1,2,["self","kind"],_,rfl,ho,rfl,T.cl,M1,F1,hr2,B1,_,rfl,p,_,_,_,rfl,rfl,SqT.of hp,rfl,_,D,k,rfl,hT,hD,hk,fun tf fu htf hfu=>?_⟩
  refine ⟨_,rfl,p,_,_,_,rfl,rfl,SqT.of hp,rfl,?_⟩
  refine ⟨_,rfl,_,_,_,rfl,.tup ht,rfl,_,rfl,cA ?_⟩
  have l2:=hfu.length
  have l3:fu.length=(fc os).length:=by unfold fc;rw [D5];omega
  refine ⟨_,rfl,t,_,rfl,.inr (SqT.of ht),_,rfl,tf,_,rfl,.inr (SqT.of htf),rfl,_,rfl,bi (by rw [l3];simp) ?_⟩
  refine ⟨_,rfl,_,rfl,tf,t,rfl,⟨_,SqT.of htf⟩,⟨_,SqT.of ht⟩,?_⟩
  have f3:=(hD.kf _ hk).2
  have sz:(1000:Nat)<=sizeLine:=by decide
  refine mw (b1:=true) (b2:=true) (K:=K) (l1:=tf) (l2:=t) (xs:=fu) (ys:=fc os) l3 (fun i ys' H'=>Same H H'/\ys'=(((os.zip k.fs).take i).map fun p=>ji D n p.1 p.2).map V.bl) ⟨Same.refl _,rfl⟩ (fun i ys' H' hi ⟨s1,e1⟩=>⟨SqT.of (s1 _ _ htf),SqT.of (s1 _ _ ht),by rw [e1,D5,D5,Eh,List.length_zip];omega⟩) ?_ ?_
  ·rintro i x y ys' H' T1 hx hy nT ⟨s1,rfl⟩
   obtain ⟨fl,hfl,fp,rfl,hfp⟩:=gV hfu hx
   obtain ⟨o,hoo,rfl⟩:∃ o,os[i]?=some o/\y=oV o:=by
    unfold fc at hy
    rw [Eb] at hy
    cases e:os[i]? with
    | none=>rw [e] at hy;cases hy
    | some o=>rw [e] at hy;exact ⟨o,rfl,(Eg hy).symm⟩
   have s2:=ag (o:=.tup [.ref fp,oV o]) nT
   have s12:=s1.trans s2
   refine ⟨T1,_,rfl,SqT.of ad,rfl,_,_,rfl,⟨fp,_,rfl,SqT.of (s12 _ _ hfp),rfl,_,_,rfl,_,_,rfl,rfl,_,_,rfl,rfl,⟨rfl,rfl,trivial⟩,c9 ?_⟩⟩
   refine ⟨_,rfl,_,rfl,_,rfl,_,rfl,_,D,fl.2,o,n,rfl,hT.same s12,hw,?_⟩
   refine Nx.mk (D7.mp hx).1 ⟨s12,?_⟩
   rw [EJ,(List.getElem?_zip_eq_some (z:=(o,fl))).mpr ⟨hoo,hfl⟩,Ed,Ed]
   rfl
  ·rintro ys' H' ⟨s1,rfl⟩ D' hD'
   have eq:(((os.zip k.fs).take fu.length).map fun p=>ji D n p.1 p.2)=(os.zip k.fs).map fun p=>ji D n p.1 p.2:=by rw [EC (by rw [List.length_zip];omega)]
   refine ⟨D',_,rfl,SqL.of ad,?_⟩
   rw [eq,oJ (ji D n) hol]
   exact q _ (s1.trans (ag hD'))
end
end L3
namespace L3
open PySem L2
theorem eB (x y:Str):Txt.split x y≠[]:=by
 unfold Txt.split
 split
 ·simp
 ·split
  ·simp
  ·rw [StrLaws.partsBetween_eq]
   obtain ⟨p,r,e⟩:=StrLaws.partsFrom_ne x y.length 0 (Builtin.Str.occurrences x y 0 x.length (x.length+1))
   rw [e];simp
theorem lI {sep t:List Nat}:∀ {ts:List (List Nat)},t∈ts->t.length<=(TK.jn sep ts).length
 | [],h=>by cases h
 | [u],h=>by rw [EG.mp h];exact Ec _
 | u::v::r,h=>by
  show _<=(u++(sep++TK.jn sep (v::r))).length
  rw [D9,D9]
  rcases Ej.mp h with rfl|h
  ·omega
  ·have:=lI (sep:=sep) h
   omega
theorem kr {x z:Str} (h:z∈Txt.split x (S [32])):(cp z).length<=(cp x).length:=by
 have e:=StrLaws.join_split x (S [32])
 rw [<-gD (Txt.split x (S [32])),dI] at e
 have:=lI (sep:=[32]) (List.mem_map_of_mem (f:=cp) h)
 rw [<-e,ej]
 exact this
theorem ky {α β:Type} {f:α->β->Bool}:∀ {a:List α} {b:List β},fH f a b=true->a.length=b.length
 | [],[],_=>rfl
 | [],_::_,h=>by cases h
 | _::_,[],h=>by cases h
 | x::a,y::b,h=>by
  have h':(f x y && fH f a b)=true:=h
  rw [EB] at h'
  rw [D8,D8,ky h'.2]
def fe (D:Fm) (ws:List Str) (fs:List (Str×Str)):List (Option Nat):=(ws.zip fs).map fun p=>kB D p.2.2 p.1
theorem wt {D:Fm} {n:Nat}:∀ {ws:List Str} {fs:List (Str×Str)},ws.length=fs.length->fH (ji D n) (fe D ws fs) fs=fH (cC D n) ws fs
 | [],[],_=>rfl
 | x::ws,f::fs,h=>by
  have ih:=wt (D:=D) (n:=n) (ws:=ws) (fs:=fs) (Nat.succ.inj h)
  show (ji D n (kB D f.2 x) f && fH (ji D n) (fe D ws fs) fs)=(cC D n x f && fH (cC D n) ws fs)
  rw [ih];rfl
theorem wu {D:Fm} {n:Nat}:∀ {ws:List Str} {fs:List (Str×Str)},fH (cC D n) ws fs=true->fc (fe D ws fs)=db ((ws.zip fs).map fun p=>(kB D p.2.2 p.1).getD 0)
 | [],[],_=>rfl
 | [],_::_,h=>by cases h
 | _::_,[],h=>by cases h
 | x::ws,f::fs,h=>by
  have h':(cC D n x f && fH (cC D n) ws fs)=true:=h
  rw [EB] at h'
  have ih:=wu h'.2
  show oV (kB D f.2 x)::fc (fe D ws fs)=V.int (((kB D f.2 x).getD 0:Nat):Int)::db _
  rw [ih]
  have hg:yn (dM D n f.2) (kB D f.2 x)=true:=h'.1
  cases er:kB D f.2 x with
  | none=>rw [er] at hg;cases hg
  | some i=>rfl
def DZ (H:Hp) (u:V):Option Rw->Prop
 | none=>u=.non
 | some r=>RowV H u r
def y2 (C:Addr):Sp:=fun vs H Q _=>∃ v D line,∃ n:Nat,vs=[v,.str line,.int n]/\TabV C H v D/\iD D/\D.width<=24/\(cp line).length<=1000/\∀ u H',Same H H'->DZ H' u (dO D n line)->Q u H'
section
variable {P:Program} {w:World} {K:PySem.W.Frag} {mg:Str->Option Value} {base:Heap} {C:Addr} {tb:Tok}
set_option maxHeartbeats 8000000 in
theorem Au {f:Addr} {fd:FuncData} (F:Fun K "row_read" "row_read" gr f fd) (T:Tc K C) (B:Bl mg) (B4:AR mg) (FO:fb P w K mg base C "fields_of" 2 ["self","kind"] (sR C)) (OR:Fn P w K mg base "operand_read" 2 ["table","sort","word"] (y0 C)) (IR:Fn P w K mg base "is_row" 5 ["table","thing","rows"] (oH C)):aN P w K mg base cj 6 f fd ["table","line","rows"] (y2 C):=by
 refine F.ok scRR (fun vs H Q E h=>?_) (fun cdv A outer s H vs Q E hr h=>?_)
 ·obtain ⟨v,D,line,n,rfl,_⟩:=h
  rfl
 ·obtain ⟨v,D,line,n,rfl,hT,hD,hw,hln,q⟩:=h
  have hr2:Room 2 _:=hr.mono (by decide)
  obtain ⟨f1,fd1,M1,F1,B1⟩:=FO
  refine ⟨_,af (aw (i:=3) scRR.nd rfl (Or.inl rfl) (bX EE PySem.F.slot_str_split PySem.F.type_str_split dv (pv 1) (aa ak ac)))
   (af (aw (i:=4) scRR.nd rfl (Or.inl rfl) (aP aK (pv 3) aj (fun _ _=>rfl)))
   (af (aT (PW.pt (dF (aq cJ (pv 4) (cb (pv 0) rfl) rfl) (cZ (aq iw (au aA (by rfl) B.len Ei (aa (pv 3) ac)) (aH bS (au aA (by rfl) B.len Ei (aa (bQ (pv 0) (aa (pv 4) ac)) ac)) aj) (aB _))))) (ai (av cz)) aI)
   (af (eZ (i:=5) scRR.nd rfl rfl (N':=["name","sort"]) (ix:=[none,none]) (sc0:=am gr) (N:=["table","line","rows","words","kind","sorts","operands"]) rfl (by decide +kernel) (hX (bQ (pv 0) (aa (pv 4) ac)))
    (fun C' cl s H fp=>dE (K:=K) (n:=2) rfl rfl (az (ar (i:=0) xV rfl (Or.inl rfl) (.inr rfl)) (az (ar (i:=1) xV rfl (Or.inl rfl) (.inr rfl)) bD))) (fun _ _ _ _ _=>cU) (fun C' cl s H fp=>pv 1))
   (af (aw (i:=6) scRR.nd rfl (Or.inl rfl) (aM bF (by rfl) B.tuple bH (aa (eG (N':=["sort","word","table"]) (ix:=[none,none,some 0]) (sc0:=am gr) (N:=["table","line","rows","words","kind","sorts","operands"]) rfl (by decide +kernel) (jq false false rfl B4.zip (aa (pv 5) (aa (ci dQ (pv 3) (bZ aj) dD) ac)))
    (fun C' cl s H fp=>dE (K:=K) (n:=2) rfl rfl (az (ar (i:=0) BK rfl (Or.inl rfl) (.inr rfl)) (az (ar (i:=1) BK rfl (Or.inl rfl) (.inr rfl)) bD))) (fun _ _ _ _ _=>cU) (fun C' cl s H fp=>aC OR hr2 rfl (aa (pv 2) (aa (pv 0) (aa (pv 1) ac))))) ac)))
   (ai (av (dG (cO (aC IR hr rfl (aa (pv 0) (aa (aW (aa (pv 4) (aa (pv 6) ac))) (aa (pv 2) ac))))) (aW (aa (pv 4) (aa (pv 6) ac))) cz))))))),?_⟩
  have sz:(1000:Nat)<=sizeLine:=by decide
  have lc:(cp line).length=line.length:=by show line.cps.toList.length=line.cps.size;simp
  refine ⟨_,rfl,rfl,line,_,rfl,rfl,by decide +kernel,by omega,fun lw nw=>?_⟩
  have wle:∀ z∈Txt.split line " ",(cp z).length<=1000:=fun z hz=>by
   rw [i6] at hz
   exact Ew (kr hz) hln
  unfold dO at q
  cases hsp:Txt.split line " " with
  | nil=>exact absurd hsp (eB _ _)
  | cons k ws=>
  rw [hsp] at q wle
  dsimp only at q
  have s1:=ag (o:=.lst ((k::ws).map V.str)) nw
  have ew:(ax H lw (.lst ((k::ws).map V.str))) lw=some (.lst ((k::ws).map V.str)):=ad
  generalize ax H lw (.lst ((k::ws).map V.str))=H1 at *
  have hT1:=hT.same s1
  obtain ⟨a,dx,pp,pm,pn,pk,us,rfl,ho,hpp,hpm,hpn,hpk,hus⟩:=id hT1
  refine ⟨_,rfl,lw,_,_,_,rfl,rfl,SqL.of ew,gC,?_⟩
  refine ⟨_,rfl,_,rfl,a,C,dx,_,_,rfl,ho,T.cl,T.na "kinds" (by decide +kernel),rfl,pn,_,rfl,.inr (SqT.of hpn),rfl,cc _,_,rfl,?_⟩
  have ei:iM (.str k) (ae (D.kinds.map Kn.name))=(D.kinds.map Kn.name).contains k:=cW _ _
  cases ef:D.kinds.find? (fun x=>decide (x.name=k)) with
  | none=>
   rw [ef] at q
   refine bB ?_ (q _ _ s1 rfl)
   show (!iM (.str k) (ae (D.kinds.map Kn.name)))=true
   rw [ei,Bool.not_eq_true',EY]
   intro z
   obtain ⟨x,hx,e⟩:=ED.mp (EK.mp z)
   have:=List.find?_eq_none.mp ef x hx
   simp [e] at this
  | some x=>
  rw [ef] at q
  dsimp only at q
  have hk:=List.mem_of_find?_eq_some ef
  have hkn:x.name=k:=by simpa using List.find?_some ef
  subst hkn
  refine bi ?_ ?_
  ·show (!iM (.str x.name) (ae (D.kinds.map Kn.name)))=false
   rw [ei,EK.mpr (ED.mpr ⟨x,hk,rfl⟩)]
   rfl
  have f3:=(hD.kf _ hk).2
  refine ⟨_,rfl,lw,_,rfl,.inl (SqL.of ew),_,rfl,a,dx,C,f1,_,fd1,2,["self","kind"],_,rfl,ho,rfl,T.cl,M1,F1,hr2,B1,_,rfl,_,D,x,rfl,hT1,hD,hk,fun tf fu htf hfu=>?_⟩
  have fl:=hfu.length
  refine ⟨tf,_,rfl,.inr (SqT.of htf),_,_,rfl,rfl,rfl,_,rfl,?_⟩
  have elen:((((x.name::ws).map V.str).length:Nat):Int)=(ws.length:Int)+1:=by
   rw [D5,D8]
   rfl
  by_cases hl:ws.length=x.fs.length
  case neg=>
   rw [if_neg (fun z=>hl (ky z))] at q
   refine bB ?_ (q _ _ s1 rfl)
   rw [elen]
   simp
   omega
  refine bi ?_ ?_
  ·have:((((x.name::ws).map V.str).length:Nat):Int)=(fu.length:Int)+1:=by rw [elen,hl,fl]
   rw [this]
   simp
  clear htf hfu fl tf fu
  refine ⟨_,rfl,a,dx,C,f1,_,fd1,2,["self","kind"],_,rfl,ho,rfl,T.cl,M1,F1,hr2,B1,_,rfl,_,D,x,rfl,hT1,hD,hk,fun tf fu htf hfu=>?_⟩
  have fl:=hfu.length
  refine ⟨tf,rfl,⟨_,SqT.of htf⟩,?_⟩
  refine mv (K:=K) (a:=tf) (xs:=fu) (fun i ys H'=>H'=H1/\ys=ae ((x.fs.take i).map (·.2))) ⟨rfl,rfl⟩ (fun i ys H' hi ⟨a1,a2⟩=>by
    subst a1 a2
    refine ⟨SqT.of htf,?_⟩
    unfold ae
    rw [D5,D5,Eh]
    omega) ?_ ?_
  ·rintro i z ys H' hz' ⟨rfl,rfl⟩
   obtain ⟨y,hy,p,rfl,hpp'⟩:=gV hfu hz'
   refine ⟨p,_,rfl,SqT.of hpp',rfl,_,_,rfl,_,_,rfl,rfl,trivial,c9 ?_⟩
   refine ⟨_,rfl,Nx.mk (D7.mp hz').1 ⟨rfl,?_⟩⟩
   rw [EJ,hy]
   unfold ae
   simp
  rintro ys H' ⟨rfl,rfl⟩ ls nls
  rw [fl,EI]
  have s2:=ag (o:=.lst (ae (x.fs.map (·.2)))) nls
  have es:(ax H' ls (.lst (ae (x.fs.map (·.2))))) ls=some (.lst (ae (x.fs.map (·.2)))):=ad
  generalize ax H' ls (.lst (ae (x.fs.map (·.2))))=H2 at *
  have ew2:=s2 _ _ ew
  refine ⟨_,rfl,_,rfl,_,rfl,lw,_,rfl,SqL.of ew2,fun lc nlc=>?_⟩
  have ecut:eX ((x.name::ws).map V.str) (some 1) none=ae ws:=by
   unfold eX
   rw [show ((1:Int))=((1:Nat):Int) from rfl,HT.sIx_nat,HT.sIx_none]
   have:min 1 ((x.name::ws).map V.str).length=1:=by simp
   rw [this,Ek,List.drop_succ_cons,Fq]
   exact EC (by simp)
  rw [show ((1:Int))=1 from rfl] at *
  rw [ecut]
  have s3:=ag (o:=.lst (ae ws)) nlc
  have ec:(ax H2 lc (.lst (ae ws))) lc=some (.lst (ae ws)):=ad
  have es3:=s3 _ _ es
  generalize ax H2 lc (.lst (ae ws))=H3 at *
  have s13:=s2.trans s3
  have hT3:=hT1.same s13
  have ol:(fe D ws x.fs).length=x.fs.length:=by unfold fe;rw [D5,List.length_zip];omega
  refine ⟨ls,lc,rfl,⟨_,SqL.of es3⟩,⟨_,SqL.of ec⟩,?_⟩
  refine mw (b1:=false) (b2:=false) (K:=K) (l1:=ls) (l2:=lc) (xs:=ae (x.fs.map (·.2))) (ys:=ae ws) (by unfold ae;rw [D5,D5,D5,hl]) (fun i ys' H'=>Same H3 H'/\ys'=fc ((fe D ws x.fs).take i)) ⟨Same.refl _,rfl⟩ (fun i ys' H' hi ⟨s1,e1⟩=>⟨SqL.of (s1 _ _ es3),SqL.of (s1 _ _ ec),by rw [e1];unfold fc;rw [D5,Eh];omega⟩) ?_ ?_
  ·rintro i xv y ys' H4 T1 hx hy nT ⟨s4,rfl⟩
   obtain ⟨fl2,hfl,rfl⟩:∃ g,x.fs[i]?=some g/\xv=.str g.2:=by
    unfold ae at hx
    rw [Eb,Eb] at hx
    cases e:x.fs[i]? with
    | none=>rw [e] at hx;cases hx
    | some g=>rw [e] at hx;exact ⟨g,rfl,(Eg hx).symm⟩
   obtain ⟨wd,hwd,rfl⟩:∃ g,ws[i]?=some g/\y=.str g:=by
    unfold ae at hy
    rw [Eb] at hy
    cases e:ws[i]? with
    | none=>rw [e] at hy;cases hy
    | some g=>rw [e] at hy;exact ⟨g,rfl,(Eg hy).symm⟩
   have s5:=ag (o:=.tup [.str fl2.2,.str wd]) nT
   have s45:=s4.trans s5
   refine ⟨T1,_,rfl,SqT.of ad,rfl,_,_,rfl,_,_,rfl,rfl,⟨rfl,trivial⟩,c9 ?_⟩
   refine ⟨_,rfl,_,rfl,_,rfl,_,D,fl2.2,wd,rfl,hT3.same s45,wle wd (Ee _ (Ex hwd)),fun H6 s6=>?_⟩
   refine Nx.mk (D7.mp hx).1 ⟨s45.trans s6,?_⟩
   have eo:(fe D ws x.fs)[i]?=some (kB D fl2.2 wd):=by
    unfold fe
    rw [Eb,(List.getElem?_zip_eq_some (z:=(wd,fl2))).mpr ⟨hwd,hfl⟩]
    rfl
   rw [EJ,eo]
   unfold fc
   simp
  rintro ys' H4 ⟨s4,rfl⟩ lo nlo
  have eo:fc ((fe D ws x.fs).take (ae (x.fs.map (·.2))).length)=fc (fe D ws x.fs):=by
   unfold ae
   rw [D5,D5,<-ol,EI]
  rw [eo]
  have s5:=ag (o:=.lst (fc (fe D ws x.fs))) nlo
  have e5:(ax H4 lo (.lst (fc (fe D ws x.fs)))) lo=some (.lst (fc (fe D ws x.fs))):=ad
  generalize ax H4 lo (.lst (fc (fe D ws x.fs)))=H5 at *
  refine ⟨lo,_,rfl,.inl ⟨SqL.of e5,fun t nt=>?_⟩⟩
  have s6:=ag (o:=.tup (fc (fe D ws x.fs))) nt
  have e6:(ax H5 t (.tup (fc (fe D ws x.fs)))) t=some (.tup (fc (fe D ws x.fs))):=ad
  generalize ax H5 t (.tup (fc (fe D ws x.fs)))=H6 at *
  have s36:=s4.trans (s5.trans s6)
  refine ⟨_,rfl,_,rfl,_,rfl,(by show 2<=sizeLine;decide),fun p np=>?_⟩
  have s7:=ag (o:=.tup [.str x.name,.ref t]) np
  have e7:(ax H6 p (.tup [.str x.name,.ref t])) p=some (.tup [.str x.name,.ref t]):=ad
  generalize ax H6 p (.tup [.str x.name,.ref t])=H7 at *
  have s37:=s36.trans s7
  refine ⟨_,rfl,_,D,n,x,fe D ws x.fs,p,t,rfl,hT3.same s37,hD,hw,hk,ol,e7,s7 _ _ e6,fun H8 s8=>⟨_,rfl,?_⟩⟩
  have s18:=s1.trans (s13.trans (s37.trans s8))
  rw [wt hl]
  by_cases hc:fH (cC D n) ws x.fs=true
  ·rw [if_pos hc] at q
   refine bB hc ⟨_,rfl,_,rfl,(by show 2<=sizeLine;decide),fun p2 np2=>?_⟩
   have s9:=ag (o:=.tup [.str x.name,.ref t]) np2
   refine q _ _ (s18.trans s9) ⟨p2,t,rfl,ad,?_⟩
   rw [<-wu hc]
   exact s9 _ _ (s8 _ _ (s7 _ _ e6))
  ·rw [if_neg hc] at q
   exact bi (EY.mpr hc) (q _ _ s18 rfl)
end
end L3
namespace L3
open PySem L2
abbrev mZ:Stmt:=cK (cY 1) 0
abbrev m5:Stmt:=cK (cY 6) 0
abbrev yp (R:Addr):List Value:=.ref R::XB.bmV
structure Xs (K:PySem.W.Frag) (mg:Str->Option Value) (R fR cL fL:Addr):Prop where
 r:XC K R "RowsError" XB.bmV
 l:XC K cL "BadLine" (yp R)
 na:NoAttr K cL "line"
 mkx:Di K cL fL
 ri:yZ K R "__init__" fR
 mR:mg "RowsError"=some (.ref R)
 mL:mg "BadLine"=some (.ref cL)
 val:mg "ValueError"=none
def Dl (K:PySem.W.Frag):Sp:=fun vs H Q _=>∃ e x C d r fs nm bm,vs=[.ref e,x]/\XAt H e C d r fs/\XC K C nm bm/\Q .non H
def ww (C:Addr):Sp:=fun vs H Q _=>∃ e x,vs=[.ref e,x]/\XAt H e C none false []/\∀ H' d,XAt H' e C (some d) false [("line",x)]->(∀ b o,H b=some o->b≠e->H' b=some o)->Q .non H'
section
variable {P:Program} {w:World} {K:PySem.W.Frag} {mg:Str->Option Value} {base:Heap} {R fR cL fL:Addr}
theorem Dm:ay ["self","text"] ["self","text"] (am mZ):=⟨rfl,rfl,rfl,by decide +kernel,rfl,by decide +kernel,by decide +kernel⟩
theorem Ce {f:Addr} {fd:FuncData} (F:Fun K "__init__" "RowsError.__init__" mZ f fd) (T:Xs K mg R fR cL fL):aN P w K mg base cj 1 f fd ["self","text"] (Dl K):=by
 refine F.ok Dm (fun vs H Q E h=>?_) (fun cdv A outer s H vs Q E hr h=>?_)
 ·obtain ⟨e,x,C,d,r,fs,nm,bm,rfl,_⟩:=h
  rfl
 ·obtain ⟨e,x,C,d,r,fs,nm,bm,rfl,xa,c,q⟩:=h
  refine ⟨_,ai (aQ (yj rfl T.val (aa (pv 0) (aa (pv 1) ac)))),?_⟩
  exact ⟨_,rfl,_,rfl,e,[x],C,d,r,fs,nm,bm,rfl,(by show 1<=1000;decide),xa,c,q⟩
def Do (P:Program) (w:World) (K:PySem.W.Frag) (mg:Str->Option Value) (base:Heap) (fR:Addr):Prop:=∃ fd,Binds K fd ["self","text"] []/\aN P w K mg base cj 1 fR fd ["self","text"] (Dl K)
theorem Av {X:Cx} {p apos pos:Pos} {e:Expr} {es:List Expr} {t:TA} (h:Do X.prog X.w X.K X.mg X.base fR) (T:Xs X.K X.mg R fR cL fL) (hr:Room 1 X.A) (hg:Gl X "RowsError") (ha:PA X (e::es) t)
  (hst:starEach (e::es) X.env=(false,eval e X.env)::starEach es X.env:=by rfl) (hpl:(backTo pos (starEach es X.env)).any (·.1)=false:=by rfl) (pl:Sem Bool)
  (ht:eval (.Call (.Attribute (.Name "RowsError" p) "__init__" apos) (e::es) [] pos) X.env=(do
   let ov <-eval (.Name "RowsError" p) X.env
   standAt apos.atName
   let (f,first) <-holding [ov] (getMethod ov "__init__" pl)
   callWith pos f first (backTo pos (starEach (e::es) X.env)) (backToKw pos (keywordEach [] X.env)))) :
  PE X (.Call (.Attribute (.Name "RowsError" p) "__init__" apos) (e::es) [] pos) (uq (Dl X.K) [] E0 t):=by
 obtain ⟨fd,hb,F⟩:=h
 exact wb (pl:=pl) T.ri F hr hg T.mR hb hI ha (by decide) hst hpl ht
theorem Dp:ay ["self","line"] ["self","line"] (am m5):=⟨rfl,rfl,rfl,by decide +kernel,rfl,by decide +kernel,by decide +kernel⟩
theorem Cf {f:Addr} {fd:FuncData} (F:Fun K "__init__" "BadLine.__init__" m5 f fd) (T:Xs K mg R fR cL fL) (RI':Do P w K mg base fR):aN P w K mg base cj 2 f fd ["self","line"] (ww cL):=by
 refine F.ok Dp (fun vs H Q E h=>?_) (fun cdv A outer s H vs Q E hr h=>?_)
 ·obtain ⟨e,x,rfl,_⟩:=h
  rfl
 ·obtain ⟨e,x,rfl,xa,q⟩:=h
  refine ⟨_,af (aQ (Av RI' T hr rfl (aa (pv 0) (aa ak ac)) rfl rfl _ rfl)) (ai (yi (pv 0) (pv 1))),?_⟩
  refine ⟨_,rfl,e,_,cL,none,false,[],"BadLine",yp R,rfl,xa,T.l,?_⟩
  refine ⟨_,rfl,_,rfl,e,cL,none,false,[],"BadLine",yp R,rfl,xa,T.l,T.na,(by show 0 < 1000;decide),fun H3 d' xs=>?_⟩
  exact q H3 d' xs.at_ fun b o hb ne=>xs.keep b o hb ne (fun z=>nomatch z)
end
def m6 (cL:Addr) (n:Int) (H:Hp) (E:XK):Prop:=∀ e d H',Same H H'->H e=none->XAt H' e cL (some d) true [("line",.int n)]->E (.ref e) none H'
theorem eC {K:PySem.W.Frag} {mg:Str->Option Value} {R fR cL fL:Addr} {n:Int} {H H1:Hp} {E:XK} {te:TE} {D:Ends} {σ:St} (TX:Xs K mg R fR cL fL) (s1:Same H H1) (qf:m6 cL n H E) (ht:∀ Q:VK,Q (.int n) H1->te σ H1 Q):wf K (wa cL (ww cL) E0 (yK te Bg)) (fun _=>E) D σ H1:=by
 refine ht _ fun e he=>⟨e,.int n,rfl,⟨ad,by show 0<=1000;decide,rfl⟩,fun H2 d xa k=>⟨rfl,e,cL,some d,_,"BadLine",yp R,rfl,xa,TX.l,?_⟩⟩
 obtain ⟨x1,x2,x3,x4⟩:=xa
 refine qf e d _ (fun b o hb=>?_) (s1.free he) ⟨ad,x2,x3,by rw [ao x3];exact x4⟩
 have hb1:=s1 _ _ hb
 have ne:b≠e:=aG hb1 he
 rw [ao ne]
 exact k b o (by rw [ao ne];exact hb1) ne
def Dq (P:Program) (w:World) (K:PySem.W.Frag) (mg:Str->Option Value) (base:Heap) (x:Str) (k:Nat) (ps:List Str) (sp:Sp):Prop:=
 ∃ (f:Addr) (fd:FuncData),mg x=some (.ref f)/\PySem.W.keepIn K (.ref f)=true/\Binds K fd ps []/\aN P w K mg base (we P w) k f fd ps sp
end L3
namespace L3
open PySem L2
def cB (n:Nat) (line:Str):Option Nat:=match gH ((cp line).drop 5) with
 | none=>none
 | some i=>if i<=n then some i else none
def y3 (cL:Addr):Sp:=fun vs H Q E=>∃ line,∃ n:Nat,vs=[.str line,.int n]/\(cp line).length<=1000/\(cB n line=none->m6 cL 0 H E)/\∀ i,cB n line=some i->∀ H',Same H H'->Q (.int (i:Nat)) H'
section
variable {P:Program} {w:World} {K:PySem.W.Frag} {mg:Str->Option Value} {base:Heap} {C:Addr} {tb:Tok} {R fR cL fL:Addr}
set_option maxHeartbeats 1000000 in
theorem Aw {f:Addr} {fd fdL:FuncData} (F:Fun K "read_bell" "read_bell" iQ f fd) (B:Bl mg) (Z:Zb mg tb) (TX:Xs K mg R fR cL fL) (FL:aN P w K mg base cj 2 fL fdL ["self","line"] (ww cL)) (BL:Binds K fdL ["self","line"] []) (NU:Fn P w K mg base "number_of" 1 ["token"] qj) (WI:Fn P w K mg base "is_within" 2 ["thing","low","high"] gU):aN P w K mg base (we P w) 4 f fd ["line","rows"] (y3 cL):=by
 refine F.okX scRB (fun vs H Q E h=>?_) (fun cdv A outer s H vs Q E hr h=>?_)
 ·obtain ⟨x,n,rfl,_⟩:=h
  rfl
 ·obtain ⟨x,n,rfl,hx,qf,q⟩:=h
  have hr1:Room 1 _:=hr.mono (by decide)
  have hr2:Room 2 _:=hr.mono (by decide)
  have hr3:Room 3 _:=hr.mono (by decide)
  refine ⟨_,af (aw (i:=2) scRB.nd rfl (Or.inl rfl) (aC NU hr1 rfl (aa (ci jO (pv 0) (bZ (aH bS (au bA (by rfl) B.len Ei (aa (bo (v:=.str "bell") rfl Z.bell ⟨_,rfl⟩) ac)) aj)) dD) ac)))
   (af (aT (cQ (cO (aC WI hr2 rfl (aa (pv 2) (aa aj (aa (pv 1) ac)))))) (ai (km (ki TX.l TX.mkx FL hr3 rfl TX.mL BL hI (by decide) (aa aj ac)) gG rfl)) aI)
   (ai (av (pv 2)))),?_⟩
  refine ⟨_,rfl,_,rfl,(by decide +kernel),_,_,rfl,rfl,_,rfl,cp x,congrArg V.str (dc x).symm,by omega,?_⟩
  have ec:fk (cp x) (some ((4:Int)+1)) none=(cp x).drop 5:=wq (cp x) 5
  refine ⟨S ((cp x).drop 5),congrArg (fun z=>[V.str (S z)]) ec,by rw [ej,EF];omega,fun H1 s1=>?_⟩
  rw [ej]
  unfold cB at qf q
  refine ⟨_,rfl,_,rfl,gH ((cp x).drop 5),0,(n:Int),rfl,_,rfl,?_⟩
  cases eo:gH ((cp x).drop 5) with
  | none=>
   rw [eo] at qf
   exact gh (eC (D:={ nx:=fun _ _=>True,rt:=fun _ _=>True }) (n:=0) TX s1 (qf rfl) fun Q' h=>h)
  | some i=>
   rw [eo] at qf q
   dsimp only at qf q
   by_cases hi:i<=n
   ·rw [if_pos hi] at q
    refine bi ?_ ⟨_,rfl,q i rfl _ s1⟩
    show (!(decide ((0:Int)<=(i:Int)) && decide ((i:Int)<=(n:Int))))=false
    rw [decide_eq_true (by omega),decide_eq_true (by omega)];rfl
   ·rw [if_neg hi] at qf
    refine bB ?_ (eC (D:={ nx:=fun _ _=>True,rt:=fun _ _=>True }) (n:=0) TX s1 (qf rfl) fun Q' h=>h)
    show (!(decide ((0:Int)<=(i:Int)) && decide ((i:Int)<=(n:Int))))=true
    rw [decide_eq_false (show ¬ (i:Int)<=(n:Int) by omega),Bool.and_false];rfl
end
end L3
namespace L3
open PySem L2
theorem lJ (xs:List V) (k:Nat):eX xs (some (k:Int)) none=xs.drop k:=by
 unfold eX
 have e1:HT.sIx xs.length 0 (some (k:Int))=min k xs.length:=by
  show (if (k:Int) < 0 then ((k:Int)+(xs.length:Int)).toNat else min (k:Int).toNat xs.length)=_
  rw [if_neg (by omega)];rfl
 have e2:HT.sIx xs.length xs.length none=xs.length:=rfl
 rw [e1,e2]
 by_cases h:k<=xs.length
 ·rw [Fh h,EC (by rw [EF];omega)]
 ·rw [Nat.min_eq_right (by omega),List.drop_eq_nil_of_le (Ec _),List.drop_eq_nil_of_le (by omega),List.take_nil]
theorem y4 (a b:Str):decide (V.str a=V.str b)=decide (a=b):=by
 by_cases h:a=b
 ·subst h;simp
 ·have:¬ V.str a=V.str b:=fun z=>h (by injection z)
  simp [h,this]
def ba (x:Str):List Str:=if x="" then [] else Txt.split x "\n"
def bU (l:Str):Bool:=decide ((Txt.split l " ").head?=some "bell")
def bC:List Str->Nat
 | []=>0
 | l::_=>if bU l=true then 1 else 0
def bV (D:Fm) (n:Nat):Nat->List Str->Nat ⊕ List Rw
 | _,[]=>.inr []
 | k,l::r=>if k=40 then .inl k else match dO D n l with
  | none=>.inl k
  | some x=>match bV D n (k+1) r with
   | .inl m=>.inl m
   | .inr rs=>.inr (x::rs)
def wx (pre:List Rw):Nat ⊕ List Rw->Nat ⊕ List Rw
 | .inl m=>.inl m
 | .inr rs=>.inr (pre++rs)
theorem lK {D:Fm} {n k:Nat} {l:Str} {r:List Str} {pre:List Rw} {x:Rw} (hk:k≠40) (h:dO D n l=some x):wx pre (bV D n k (l::r))=wx (pre++[x]) (bV D n (k+1) r):=by
 show wx pre (if k=40 then .inl k else match dO D n l with|none=>.inl k|some x=>match bV D n (k+1) r with|.inl m=>.inl m|.inr rs=>.inr (x::rs))=_
 rw [if_neg hk,h]
 dsimp only
 cases bV D n (k+1) r with
 | inl m=>rfl
 | inr rs=>show Sum.inr (pre++(x::rs))=Sum.inr (pre++[x]++rs);rw [EU];rfl
def dB (ls:List Str) (n:Nat):Option (Option Nat):=if bC ls=1 then (cB n (ls.headD "")).map some else some none
def cH (D:Fm) (ls:List Str):Nat ⊕ (Option Nat×List Rw):=match dB ls (ls.length - bC ls) with
 | none=>.inl 0
 | some bl=>match bV D (ls.length - bC ls) 0 (ls.drop (bC ls)) with
  | .inl m=>.inl (bC ls+m)
  | .inr rs=>.inr (bl,rs)
inductive InP (H:Hp) (D:Fm):V->Nat ⊕ (Option Nat×List Rw)->Prop
 | txt (x:Str):(cp x).length<=90000->(∀ l∈ba x,(cp l).length<=1000)->InP H D (.str x) (cH D (ba x))
 | no {v:V} {c:Value}:(∀ K H',Same H H'->iy K H' v c)->(∀ K,PySem.W.kitOne K c (.type "str")=some false)->InP H D v (.inl 0)
def y6 (C Cp cL:Addr):Sp:=fun vs H Q E=>∃ v u D o,vs=[v,u]/\TabV C H v D/\iD D/\D.width<=24/\InP H D u o/\(∀ m:Nat,o=.inl m->m6 cL m H E)/\∀ bl rs,o=.inr (bl,rs)->∀ v' H',Same H H'->vH Cp H' v' rs bl->Q v' H'
section
variable {P:Program} {w:World} {K:PySem.W.Frag} {mg:Str->Option Value} {base:Heap} {C Cp:Addr} {tb tm:Tok} {R fR cL fL:Addr}
set_option maxHeartbeats 8000000 in
theorem Ax {f fi:Addr} {fd fdi fdL:FuncData} (F:Fun K "read_program" "read_program" fv f fd) (B:Bl mg) (B3:BC mg) (Z:Zb mg tb) (Zr':Zr mg tm) (TX:Xs K mg R fR cL fL) (FL:aN P w K mg base cj 2 fL fdL ["self","line"] (ww cL)) (BL:Binds K fdL ["self","line"] []) (MK:Mk K Cp fi) (mgP:mg "Program"=some (.ref Cp)) (IN:aN P w K mg base cj 1 fi fdi ["self","rows","bell"] (mP Cp)) (bI:Binds K fdi ["self","rows","bell"] [])
  (RB:Dq P w K mg base "read_bell" 4 ["line","rows"] (y3 cL)) (RR:Fn P w K mg base "row_read" 6 ["table","line","rows"] (y2 C)):aN P w K mg base (we P w) 7 f fd ["table","text"] (y6 C Cp cL):=by
 refine F.okX scRP (fun vs H Q E h=>?_) (fun cdv A outer s H vs Q E hr h=>?_)
 ·obtain ⟨v,u,D,o,rfl,_⟩:=h
  rfl
 ·obtain ⟨v,u,D,o,rfl,hT,hD,hw,inp,qf,q⟩:=h
  have hr2:Room 2 _:=hr.mono (by decide)
  have hr3:Room 3 _:=hr.mono (by decide)
  have hr4:Room 4 _:=hr.mono (by decide)
  have sz:(100000:Nat)<=sizeLine:=by decide
  obtain ⟨f1,fd1,m1,k1,b1,F1⟩:=RB
  refine ⟨_,af (aT (cQ (cO (au (eK (T:="str")) (by rfl) B.isinstance cV (aa (pv 1) (aa (gi (by rfl) B.str bW) ac))))) (ai (km (ki TX.l TX.mkx FL hr3 rfl TX.mL BL hI (by decide) (aa aj ac)) gG rfl)) aI)
   (bR (fun σ H'=>∃ ll x,u=.str x/\σ=[some v,some u,some (.ref ll),none,none,none,none,none,none,none]/\Same H H'/\H' ll=some (.lst (ae (ba x)))) (aw (i:=2) scRP.nd rfl (Or.inl rfl) (dG (jH (pv 1) (fun _=>rfl)) (bX EE PySem.F.slot_str_split PySem.F.type_str_split dv (pv 1) (aa ak ac)) (aV ac)))
   (bR (fun σ H'=>∃ ll x,u=.str x/\σ=[some v,some u,some (.ref ll),some (.int (bC (ba x):Nat)),none,none,none,none,none,none]/\Same H H'/\H' ll=some (.lst (ae (ba x)))) (aw (i:=3) scRP.nd rfl (Or.inl rfl) (dG (PW.pt (cE (jH (pv 2) (fun _=>rfl)) (ck (aq bO (aP aK (bX EE PySem.F.slot_str_split PySem.F.type_str_split dv (aP aK (pv 2) aj (fun _ _=>rfl)) (aa ak ac)) aj (fun _ _=>rfl)) (bo (v:=.str "bell") rfl Z.bell ⟨_,rfl⟩) (aB _))))) aj aj))
   (bR (fun σ H'=>∃ ll x,u=.str x/\σ=[some v,some u,some (.ref ll),some (.int (bC (ba x):Nat)),some (.int ((ba x).length - bC (ba x):Nat)),none,none,none,none,none]/\Same H H'/\H' ll=some (.lst (ae (ba x)))) (aw (i:=4) scRP.nd rfl (Or.inl rfl) (aH dX (au aA (by rfl) B.len Ei (aa (pv 2) ac)) (pv 3)))
   (bR (fun σ H'=>∃ ll x bl,u=.str x/\dB (ba x) ((ba x).length - bC (ba x))=some bl/\σ=[some v,some u,some (.ref ll),some (.int (bC (ba x):Nat)),some (.int ((ba x).length - bC (ba x):Nat)),some (De bl),none,none,none,none]/\Same H H'/\H' ll=some (.lst (ae (ba x)))) (aw (i:=5) scRP.nd rfl (Or.inl rfl) (dG (jH (pv 3) (fun _=>rfl)) (oA F1 hr4 rfl m1 k1 b1 .nil gG (aa (aP aK (pv 2) aj (fun _ _=>rfl)) (aa (pv 4) ac))) cz))
   (af (aw (i:=6) scRP.nd rfl (Or.inl rfl) (aV ac))
   (af (cS (Dj (ES:=fun _=>E) rfl) rfl (qG rfl B3.enumerate (aa (ci dQ (pv 2) (bZ (pv 3)) dD) ac)) (c0 rfl (az (ar (i:=7) scRP.nd rfl (Or.inl rfl)) (az (ar (i:=8) scRP.nd rfl (Or.inl rfl)) bD)))
    (af (aw (i:=9) scRP.nd rfl (Or.inl rfl) (dG (aq bO (pv 7) (bo (v:=.int 40) rfl Zr'.mr ⟨_,rfl⟩) (aB _)) cz (aC RR hr rfl (aa (pv 0) (aa (pv 8) (aa (pv 4) ac))))))
    (af (aT (aq oX (pv 9) cz (aB _)) (ai (km (ki TX.l TX.mkx FL hr3 rfl TX.mL BL hI (by decide) (aa (aH bS (pv 3) (pv 7)) ac)) gG rfl)) aI)
    (ai (aQ (bX Ep Eu Et bM (pv 6) (aa (pv 9) ac)))))))
   (ai (av (lT MK IN hr2 rfl mgP bI .nil hI (aa (pv 6) (aa (pv 5) ac))))))))))),?_⟩
  cases inp with
  | no ht hk=>
   refine ⟨_,rfl,u,_,_,rfl,ht K H (Same.refl _),hk K,_,rfl,gh (eC (D:={ nx:=fun _ _=>True,rt:=fun _ _=>True }) (n:=0) TX (Same.refl _) (qf 0 rfl) fun Q' h=>h)⟩
  | txt x hx hl=>
  have lx:(cp x).length=x.length:=by show x.cps.toList.length=x.cps.size;simp
  refine ⟨_,rfl,_,_,_,rfl,.str x,rfl,_,rfl,cA ?_⟩
  refine ⟨?_,?_⟩
  ·rintro σ H1 ⟨ll,x',ex,rfl,s1,ell⟩
   cases ex
   generalize els:ba x=L at *
   refine ⟨?_,?_⟩
   ·rintro σ H2 ⟨ll,x',ex,rfl,s2,ell⟩
    cases ex
    rw [els] at ell ⊢
    have al:bC L<=L.length:=by
     cases L with
     | nil=>exact Ec _
     | cons l r=>
      show (if bU l=true then 1 else 0)<=r.length+1
      split<;>omega
    have em:(((ae L).length:Nat):Int) - (bC L:Nat)=((L.length - bC L:Nat):Int):=by
     unfold ae
     rw [D5]
     omega
    refine ⟨?_,⟨_,rfl,ll,_,rfl,.inl (SqL.of ell),_,rfl,_,_,rfl,rfl,⟨ll,x,rfl,by rw [els,<-em];rfl,s2,by rw [els];exact ell⟩⟩⟩
    rintro σ H2 ⟨ll,x',ex,rfl,s2,ell⟩
    cases ex
    rw [els] at ell ⊢
    refine ⟨?_,?_⟩
    ·rintro σ H3 ⟨ll,x',bl,ex,eb,rfl,s3,ell⟩
     cases ex
     rw [els] at ell eb ⊢
     have ro:cH D L=match bV D (L.length - bC L) 0 (L.drop (bC L)) with|.inl m=>.inl (bC L+m)|.inr rs=>.inr (bl,rs):=by unfold cH;rw [eb]
     rw [ro] at qf q
     generalize L.length - bC L=n at *
     generalize bC L=ah at *
     refine ⟨(by show 0<=sizeLine;decide),fun lr nlr=>?_⟩
     have s4:=ag (o:=.lst []) nlr
     have e4:(ax H3 lr (.lst [])) lr=some (.lst []):=ad
     have el4:=s4 _ _ ell
     generalize ax H3 lr (.lst ([]:List V))=H4 at *
     refine ⟨_,rfl,_,rfl,_,rfl,ll,_,rfl,SqL.of el4,fun lc nlc=>?_⟩
     have ecut:eX (ae L) (some (ah:Nat)) none=ae (L.drop ah):=by rw [lJ];unfold ae;rw [List.map_drop]
     rw [ecut]
     have hM:∀ l∈L.drop ah,(cp l).length<=1000:=fun l h=>hl l (List.mem_of_mem_drop h)
     generalize L.drop ah=M at *
     have s5:=ag (o:=.lst (ae M)) nlc
     have e5:(ax H4 lc (.lst (ae M))) lc=some (.lst (ae M)):=ad
     have er5:=s5 _ _ e4
     generalize ax H4 lc (.lst (ae M))=H5 at *
     have nlc':lc≠lr:=fun e=>by rw [e,e4] at nlc;cases nlc
     have s35:=s4.trans s5
     have s05:=s3.trans s35
     have nH:H lr=none:=s3.free nlr
     have ltx:(ae M).length=M.length:=by unfold ae;rw [D5]
     refine ⟨lc,rfl,⟨_,SqL.of e5⟩,?_⟩
     refine uJ (K:=K) (l:=lc) (xs:=ae M) (fun i σ H'=>∃ (v7 v8 v9:Option V) (us:List V) (rs:List Rw),σ=[some v,some (.str x),some (.ref ll),some (.int (ah:Nat)),some (.int (n:Nat)),some (De bl),some (.ref lr),v7,v8,v9]/\ButO lr H5 H'/\H' lr=some (.lst us)/\us.length=i/\Paired (RowV H') us rs/\i<=40/\bV D n 0 M=wx rs (bV D n i (M.drop i)))
      ⟨_,_,_,[],[],rfl,ButO.refl _ _,er5,rfl,.nil,by omega,by rw [Fq];generalize bV D n 0 M=z;cases z<;>rfl⟩ (fun i σ H' _ ⟨_,_,_,_,_,_,b',_⟩=>SqL.of (b' _ _ e5 nlc')) ?_ ?_
     ·rintro i xv σ H6 T1 hxv nT ⟨v7,v8,v9,us,rs,rfl,b6,er6,lu,hus,h40,hg⟩
      obtain ⟨line,hri,rfl⟩:∃ r,M[i]?=some r/\xv=.str r:=by
       unfold ae at hxv
       rw [Eb] at hxv
       cases e:M[i]? with
       | none=>rw [e] at hxv;cases hxv
       | some g=>rw [e] at hxv;exact ⟨g,rfl,(Eg hxv).symm⟩
      have hlt:i < M.length:=(D7.mp hri).1
      have ed:M.drop i=line::M.drop (i+1):=by rw [EQ hlt,(D7.mp hri).2]
      rw [ed] at hg
      have s06:Same H H6:=dj nH s05 b6
      have s7:=ag (o:=.tup [.int (i:Int),.str line]) nT
      have bad:bV D n i (line::M.drop (i+1))=.inl i->m6 cL ((ah:Int)+(i:Int)) H E:=fun e=>by
       rw [hg,e] at qf
       exact qf (ah+i) rfl
      refine ⟨T1,_,rfl,SqT.of ad,rfl,_,_,rfl,_,_,rfl,rfl,?_⟩
      refine ⟨_,rfl,rfl,_,rfl,?_⟩
      by_cases hi:i=40
      ·refine bB (decide_eq_true (by rw [hi];rfl)) ⟨_,rfl,rfl,_,rfl,bB (decide_eq_true rfl) (eC (D:={ nx:=fun _ _=>True,rt:=fun _ _=>True }) (n:=(ah:Int)+(i:Int)) TX (s06.trans s7) (bad ?_) fun Q' h=>⟨_,rfl,_,rfl,_,_,rfl,rfl,h⟩)⟩
       show (if i=40 then Sum.inl i else _)=_
       rw [if_pos hi]
      refine bi (decide_eq_false fun e=>by have:=V.int.inj e;omega) ?_
      refine ⟨_,rfl,_,rfl,_,rfl,v,D,line,n,rfl,hT.same (s06.trans s7),hD,hw,hM line (Ex hri),fun u H8 s8 hu=>?_⟩
      have s68:=s7.trans s8
      cases er:dO D n line with
      | none=>
       rw [er] at hu
       have hu':u=.non:=hu
       subst hu'
       refine ⟨_,rfl,rfl,_,rfl,bB (decide_eq_true rfl) (eC (D:={ nx:=fun _ _=>True,rt:=fun _ _=>True }) (n:=(ah:Int)+(i:Int)) TX (s06.trans s68) (bad ?_) fun Q' h=>⟨_,rfl,_,rfl,_,_,rfl,rfl,h⟩)⟩
       show (if i=40 then Sum.inl i else match dO D n line with|none=>Sum.inl i|some x=>match bV D n (i+1) (M.drop (i+1)) with|.inl m=>.inl m|.inr rs=>.inr (x::rs))=_
       rw [if_neg hi,er]
      | some rw'=>
       rw [er] at hu
       have hu':RowV H8 u rw':=hu
       obtain ⟨pu,tu,eu,hpu,htu⟩:=id hu'
       refine ⟨_,rfl,rfl,_,rfl,bi (by rw [eu];simp) ?_⟩
       have er8:=s68 _ _ er6
       refine ⟨_,rfl,.inl ⟨rfl,_,SqL.of er8⟩,_,rfl,lr,us,_,rfl,rfl,er8,by omega,?_⟩
       have k9:=qM (ys:=us++[u]) er8
       refine ⟨_,_,_,us++[u],rs++[rw'],rfl,fun b o e nb=>?_,ad,by simp [lu],jd (RowV.kt k9 hu') (dm (fun _ _ h=>RowV.kt k9 (RowV.kt (aZ s68) h)) hus),by omega,by rw [hg,lK hi er]⟩
       rw [ao nb]
       exact s68 _ _ (b6 _ _ e nb)
     ·rintro σ H6 ⟨v7,v8,v9,us,rs,rfl,b6,er6,lu,hus,h40,hg⟩
      rw [ltx,List.drop_length] at hg
      have hg':bV D n 0 M=.inr rs:=by rw [hg];show Sum.inr (rs++[])=_;rw [ET]
      rw [hg'] at q
      have s06:Same H H6:=dj nH s05 b6
      refine ⟨_,rfl,_,rfl,fun x dx nx ndx ne=>?_⟩
      have sx:=bY (o:=.ins Cp dx []) nx (ag (o:=.own x) ndx)
      refine ⟨x,dx,lr,us,_,rfl,ad,sx _ _ er6,fun t H8 e8 nt et b8=>⟨rfl,?_⟩⟩
      have s68:Same H6 H8:=dj nx sx b8
      exact q bl rs rfl _ _ (s06.trans s68) ⟨x,dx,t,us,rfl,e8,et,dm (fun _ _ h=>RowV.kt (aZ s68) h) hus⟩
    ·by_cases ha:bC L=1
     ·cases L with
      | nil=>cases ha
      | cons l r=>
       refine ⟨_,rfl,_,rfl,bB (by rw [ha];rfl) ?_⟩
       have eb:dB (l::r) ((l::r).length - bC (l::r))=(cB ((l::r).length - bC (l::r)) l).map some:=by unfold dB;rw [if_pos ha];rfl
       refine ⟨_,rfl,ll,_,_,_,rfl,rfl,SqL.of ell,gC,_,rfl,l,(l::r).length - bC (l::r),rfl,hl l Ea,fun hb=>?_,fun b hb H4 s4=>?_⟩
       ·have hz:cH D (l::r)=.inl 0:=by unfold cH;rw [eb,hb];rfl
        rw [hz] at qf
        exact fun e d H' s' ne xa=>qf 0 rfl e d H' (s2.trans s') (s2.free ne) xa
       ·exact ⟨ll,x,some b,rfl,by rw [els,eb,hb];rfl,by rw [els];rfl,s2.trans s4,by rw [els];exact s4 _ _ ell⟩
     ·have h0:bC L=0:=by
       cases L with
       | nil=>rfl
       | cons l r=>
        have:(if bU l=true then 1 else 0)≠1:=ha
        show (if bU l=true then 1 else 0)=0
        split at this
        ·exact absurd rfl this
        ·rename_i hz;rw [if_neg hz]
      refine ⟨_,rfl,_,rfl,bi (by rw [h0];rfl) ⟨ll,x,none,rfl,?_,by rw [els];rfl,s2,by rw [els];exact ell⟩⟩
      rw [els]
      unfold dB
      rw [if_neg ha]
   ·cases L with
    | nil=>
     refine ⟨_,rfl,_,.inl ⟨_,SqL.of ell,rfl⟩,cA (cA ?_)⟩
     exact ⟨ll,x,rfl,by rw [els];rfl,s1,by rw [els];exact ell⟩
    | cons l r=>
     refine ⟨_,rfl,_,.inl ⟨_,SqL.of ell,rfl⟩,gh ?_⟩
     have hll:=hl l Ea
     have ln:(cp l).length=l.length:=by show l.cps.toList.length=l.cps.size;simp
     refine ⟨_,rfl,ll,_,_,_,rfl,rfl,SqL.of ell,gC,rfl,_,_,rfl,rfl,by decide +kernel,by omega,fun lw nlw=>?_⟩
     have s2:=ag (o:=.lst ((Txt.split l " ").map V.str)) nlw
     have e2:(ax H1 lw (.lst ((Txt.split l " ").map V.str))) lw=some (.lst ((Txt.split l " ").map V.str)):=ad
     generalize ax H1 lw (.lst ((Txt.split l " ").map V.str))=H2 at *
     cases es:Txt.split l " " with
     | nil=>exact absurd es (eB _ _)
     | cons k ws=>
      rw [es] at e2
      refine ⟨lw,_,_,_,rfl,rfl,SqL.of e2,gC,rfl,_,rfl,?_⟩
      rw [y4]
      by_cases hb:k="bell"
      ·refine bB (decide_eq_true hb) ⟨ll,x,rfl,?_,s1.trans s2,by rw [els];exact s2 _ _ ell⟩
       rw [els]
       show _=[some v,some (.str x),some (.ref ll),some (.int ((if bU l=true then 1 else 0:Nat):Int)),none,none,none,none,none,none]
       rw [if_pos (by unfold bU;rw [es,hb];exact decide_eq_true rfl)]
       rfl
      ·refine bi (decide_eq_false hb) ⟨ll,x,rfl,?_,s1.trans s2,by rw [els];exact s2 _ _ ell⟩
       rw [els]
       show _=[some v,some (.str x),some (.ref ll),some (.int ((if bU l=true then 1 else 0:Nat):Int)),none,none,none,none,none,none]
       rw [if_neg (by unfold bU;rw [es,decide_eq_true_iff];intro z;exact hb (Eg z))]
       rfl
  ·refine ⟨_,rfl,_,⟨by omega,rfl⟩,?_⟩
   by_cases h0:x=""
   ·refine bi (by rw [h0];rfl) ⟨(by show 0<=sizeLine;decide),fun ll nll=>⟨ll,x,rfl,rfl,ag nll,?_⟩⟩
    unfold ba
    rw [if_pos h0]
    exact ad
   ·refine bB ?_ ?_
    ·have:x.length≠0:=fun e=>h0 (by
      have h:=dc x
      rw [Ff.mp (lx.trans e)] at h
      rw [<-h]
      decide +kernel)
     simpa using this
    refine ⟨_,rfl,rfl,_,_,rfl,rfl,by decide +kernel,by omega,fun ll nll=>⟨ll,x,rfl,rfl,ag nll,?_⟩⟩
    unfold ba
    rw [if_neg h0]
    exact ad
end
end L3
namespace L3
open PySem L2
theorem dC (c:Nat) (x:Str):S (TK.jn [c] ((Txt.split x (S [c])).map cp))=x:=by
 have e:=StrLaws.join_split x (S [c])
 rw [<-gD (Txt.split x (S [c])),dI] at e
 exact e
theorem wy {D:Fm} {n:Nat} {line:Str} {r:Rw} (h:dO D n line=some r):line=S (j7 D r):=by
 have e:=(oE h).2
 rw [i6] at e
 have b:=dC 32 line
 rw [e] at b
 exact b.symm
theorem kz {D:Fm} {n:Nat}:∀ {M:List Str} {k:Nat} {rs:List Rw},bV D n k M=.inr rs->M=rs.map (fun r=>S (j7 D r))/\(∀ r∈rs,iq D n r)/\(k<=40->k+M.length<=40)
 | [],k,rs,h=>by
  cases h
  exact ⟨rfl,fun r hr=>(nomatch hr),fun hk=>by simpa using hk⟩
 | l::M,k,rs,h=>by
  have h':(if k=40 then Sum.inl k else match dO D n l with|none=>Sum.inl k|some x=>match bV D n (k+1) M with|.inl m=>Sum.inl m|.inr rs=>Sum.inr (x::rs))=Sum.inr rs:=h
  by_cases hk:k=40
  ·rw [if_pos hk] at h';cases h'
  rw [if_neg hk] at h'
  cases er:dO D n l with
  | none=>rw [er] at h';cases h'
  | some x=>
   rw [er] at h'
   dsimp only at h'
   cases e2:bV D n (k+1) M with
   | inl m=>rw [e2] at h';cases h'
   | inr rs'=>
    rw [e2] at h'
    cases h'
    obtain ⟨a,b,c⟩:=kz e2
    refine ⟨by rw [Ek,<-a,<-wy er],fun r hr=>?_,fun h4=>?_⟩
    ·rcases Ej.mp hr with rfl|hr
     ·exact (oE er).1
     ·exact b r hr
    ·have:=c (by omega)
     rw [D8];omega
theorem tI {n:Nat} {l:Str} {b:Nat} (h:bU l=true) (hb:cB n l=some b):l=S (jf++dg b)/\b<=n:=by
 unfold bU at h
 have h:=of_decide_eq_true h
 rw [i6] at h
 have bk:=dC 32 l
 unfold cB at hb
 cases eo:gH ((cp l).drop 5) with
 | none=>rw [eo] at hb;cases hb
 | some i=>
  rw [eo] at hb
  dsimp only at hb
  by_cases hi:i<=n
  ·rw [if_pos hi] at hb
   cases hb
   refine ⟨?_,hi⟩
   have ed:=(wn eo).1
   cases es:Txt.split l (S [32]) with
   | nil=>rw [es] at h;cases h
   | cons k ws=>
    rw [es] at h bk
    have hk:k="bell":=Eg h
    subst hk
    have e4:cp ("bell":Str)=[98,101,108,108]:=by decide +kernel
    rw [Ek,e4] at bk
    have bk':cp l=TK.jn [32] ([98,101,108,108]::ws.map cp):=by rw [<-bk,ej]
    cases ws with
    | nil=>
     have z:cp l=[98,101,108,108]:=bk'
     rw [z] at ed
     have:=(dZ b).1
     rw [<-ed] at this
     exact absurd this (by decide)
    | cons w r=>
     have z:cp l=jf++TK.jn [32] (cp w::r.map cp):=bk'
     rw [z,show (jf++TK.jn [32] (cp w::r.map cp)).drop 5=TK.jn [32] (cp w::r.map cp) from List.drop_left' rfl] at ed
     rw [<-ed,<-z,dc]
  ·rw [if_neg hi] at hb;cases hb
theorem tJ {D:Fm} {x:Str} {bl:Option Nat} {rs:List Rw} (h:cH D (ba x)=.inr (bl,rs)):cp x=vJ D rs bl/\(∀ r∈rs,iq D rs.length r)/\rs.length<=40/\∀ b,bl=some b->b<=rs.length:=by
 have key:∀ L:List Str,cH D L=.inr (bl,rs)->L=(dz D rs bl).map S/\(∀ r∈rs,iq D rs.length r)/\rs.length<=40/\∀ b,bl=some b->b<=rs.length:=fun L h=>by
  unfold cH at h
  cases eb:dB L (L.length - bC L) with
  | none=>rw [eb] at h;cases h
  | some bl'=>
   rw [eb] at h
   dsimp only at h
   cases er:bV D (L.length - bC L) 0 (L.drop (bC L)) with
   | inl m=>rw [er] at h;cases h
   | inr rs'=>
    rw [er] at h
    cases h
    obtain ⟨a,b,c⟩:=kz er
    have hn:L.length - bC L=rs.length:=by
     have:=congrArg List.length a
     rw [EF,D5] at this
     exact this
    rw [hn] at b eb
    have c':=c (by omega)
    rw [EF,hn] at c'
    unfold dB at eb
    by_cases ha:bC L=1
    ·rw [if_pos ha] at eb
     cases L with
     | nil=>cases ha
     | cons l r=>
      have hb1:bU l=true:=by
       have z:(if bU l=true then 1 else 0)=1:=ha
       split at z
       ·assumption
       ·cases z
      have eb':(cB rs.length l).map some=some bl:=eb
      cases e3:cB rs.length l with
      | none=>rw [e3] at eb';cases eb'
      | some i=>
       rw [e3] at eb'
       cases eb'
       obtain ⟨z1,z2⟩:=tI hb1 e3
       rw [ha] at a
       have a':r=rs.map fun r=>S (j7 D r):=a
       refine ⟨?_,b,by omega,fun b' e=>by cases e;exact z2⟩
       show l::r=S (jf++dg i)::(rs.map (j7 D)).map S
       rw [E1,<-z1,a']
       rfl
    ·rw [if_neg ha] at eb
     cases eb
     have h0:bC L=0:=by
      cases L with
      | nil=>rfl
      | cons l r=>
       have:(if bU l=true then 1 else 0)≠1:=ha
       show (if bU l=true then 1 else 0)=0
       split at this
       ·exact absurd rfl this
       ·rename_i hz;rw [if_neg hz]
     rw [h0,Fq] at a
     refine ⟨?_,b,by omega,fun b' e=>(nomatch e)⟩
     show L=(rs.map (j7 D)).map S
     rw [E1]
     exact a
 obtain ⟨a,b⟩:=key _ h
 refine ⟨?_,b⟩
 unfold ba at a
 by_cases h0:x=""
 ·rw [if_pos h0] at a
  have:dz D rs bl=[]:=List.map_eq_nil_iff.mp a.symm
  unfold vJ
  rw [this,h0]
  decide +kernel
 ·rw [if_neg h0,vG] at a
  have e:=dC 10 x
  rw [a,E1,show (cp ∘ S)=id from by funext z;exact ej z,List.map_id] at e
  rw [<-e,ej]
  rfl
end L3
namespace L2
open PySem PySem.Spec PyProof.Rows
section
variable {X:Cx}
theorem wz {K:PySem.W.Frag} {e:Expr} {f:Str} {ta:TE} {pos:Pos} (h:X.K=K) (he:PE X e ta) (hb:attributeBase e f X.env (eval e X.env)=eval e X.env):PE X (.Attribute e f pos) (yY K ta f):=by
 subst h;exact yh he hb
end
end L2
namespace L3
open PySem L2
abbrev qk:Stmt:=cY 108
def wB (C:Addr):Sp:=fun vs H Q _=>∃ v u D o,vs=[v,u]/\TabV C H v D/\iD D/\xX D/\D.width<=24/\InP H D u o/\(∀ m:Nat,o=.inl m->∀ r H',Same H H'->H' r=some (.tup [.str "line",.int (m:Nat)])->Q (.ref r) H')/\∀ bl rs,o=.inr (bl,rs)->∀ r H',Same H H'->H' r=some (.tup [.str "good",u])->Q (.ref r) H'
section
variable {P:Program} {w:World} {K:PySem.W.Frag} {mg:Str->Option Value} {base:Heap} {C Cp:Addr} {R fR cL fL:Addr}
theorem scTold:ay ["_law_table","_law_text","_law_told_here","_law_found","e"] ["_law_table","_law_text"] (am qk):=⟨rfl,rfl,rfl,by decide +kernel,rfl,by decide +kernel,by decide +kernel⟩
set_option maxHeartbeats 4000000 in
theorem wC {f:Addr} {fd:FuncData} (F:Fun K "_law_told" "_law_told" qk f fd) (TX:Xs K mg R fR cL fL) (RD:Dq P w K mg base "read_program" 7 ["table","text"] (y6 C Cp cL)) (SH:Fn P w K mg base "show_program" 3 ["table","program"] (p7 C Cp)):aN P w K mg base cj 8 f fd ["_law_table","_law_text"] (wB C):=by
 refine F.ok scTold (fun vs H Q E h=>?_) (fun cdv A outer s H vs Q E hr h=>?_)
 ·obtain ⟨v,u,D,o,rfl,_⟩:=h
  rfl
 ·obtain ⟨v,u,D,o,rfl,hT,hD,hN,hw,inp,qf,qt⟩:=h
  have hr3:Room 3 _:=hr.mono (by decide)
  obtain ⟨f1,fd1,m1,k1,b1,F1⟩:=RD
  refine ⟨_,af (aw (i:=2) scTold.nd rfl (Or.inl rfl) (aW (aa ak (aa cz ac))))
   (af (Ar (i:=4) rfl (fun pn ES=>af (aw (i:=3) scTold.nd rfl (Or.inl rfl) (oA F1 hr rfl m1 k1 b1 .nil gG (aa (pv 0) (aa (pv 1) ac))))
     (ai (aw (i:=2) scTold.nd rfl (Or.inl rfl) (aW (aa ak (aa (aC SH hr3 rfl (aa (pv 0) (aa (pv 3) ac))) ac))))))
    (fun A pn=>ai (aw (i:=2) scTold.nd rfl (Or.inl rfl) (aW (aa ak (aa (wz (K:=K) rfl (pv 4) rfl) ac))))) rfl TX.mL TX.l scTold.nd rfl rfl)
   (ai (av (pv 2)))),?_⟩
  have hc:(Value.ref cL::yp R).contains (.ref cL)=true:=by simp [List.contains_cons]
  refine ⟨(by show 2<=sizeLine;decide),fun r0 n0=>?_⟩
  have s0:=ag (o:=.tup [.str "good",.non]) n0
  generalize ax H r0 (.tup [V.str "good",.non])=H0 at *
  have inp0:InP H0 D u o:=by
   cases inp with
   | txt x a b=>exact .txt x a b
   | no a b=>exact .no (fun K H' s'=>a K H' (s0.trans s')) b
  refine ⟨_,rfl,_,rfl,v,u,D,o,rfl,hT.same s0,hD,hw,inp0,fun m eo e d H1 s1 _ xa=>?_,fun bl rs eo v' H1 s1 pv=>?_⟩
  ·refine ⟨e,cL,some d,_,"BadLine",yp R,rfl,xa,TX.l,hc,?_⟩
   refine ⟨_,rfl,e,cL,d,true,_,"BadLine",yp R,.int m,rfl,xa,TX.l,TX.na,rfl,(by show 2<=sizeLine;decide),fun r nr=>?_⟩
   exact ⟨_,rfl,qf m eo r _ ((s0.trans s1).trans (ag nr)) ad⟩
  ·cases inp with
   | no _ _=>cases eo
   | txt x hx hl=>
    obtain ⟨p1,p2,p3,p4⟩:=tJ eo
    refine ⟨_,rfl,_,rfl,v,v',D,rs,bl,rfl,hT.same (s0.trans s1),hD,hN,hw,pv,p2,p3,p4,fun H2 s2=>?_⟩
    rw [<-p1,dc]
    refine ⟨(by show 2<=sizeLine;decide),fun r nr=>⟨_,rfl,qt bl rs eo r _ (((s0.trans s1).trans s2).trans (ag nr)) ad⟩⟩
end
end L3
namespace L3
open PySem L2
section
variable {X:Cx}
theorem oK:dW X (.type "int") (fun xs H Q=>∃ l:List Nat,xs=[.str (S l)]/\l≠[]/\l.all ca=true/\l.length<=30/\Q (.int (dL l:Nat)) H):=by
 intro pins s σ H xs us Q I r h
 obtain ⟨l,rfl,h0,ha,hl,q⟩:=h
 obtain ⟨u,rfl,rx⟩:=gZ r
 obtain ⟨t,rfl⟩:=rx
 have hd:PySem.NumText.AllDigits (S l).cps.toList:=fun c hc=>by
  have:=ER.mp ha c hc
  simpa [ca] using this
 have e:PySem.intText? (S l)=some ((dL l:Nat):Int):=PySem.intText_digits hd h0 (by rw [aR];omega)
 exact PySem.W.KIN.call_text e (by rw [aR];omega) ⟨.int (dL l:Nat),H,I.tok _,⟨_,rfl⟩,q⟩
end
abbrev rD:Stmt:=cY 102
def qm:Sp:=fun vs H Q _=>∃ l,∃ m:Nat,vs=[.str (S l),.int m]/\l.length<=1000/\(∀ c∈l,c < 128)/\∀ H',Same H H'->Q (.bl (ko l m)) H'
section
variable {P:Program} {w:World} {K:PySem.W.Frag} {mg:Str->Option Value} {base:Heap}
theorem Ay:ay ["_law_word_here","_law_most"] ["_law_word_here","_law_most"] (am rD):=⟨rfl,rfl,rfl,by decide +kernel,rfl,by decide +kernel,by decide +kernel⟩
theorem Dr:∀ c:Fin 128,DD (S [c.val])=true:=by decide +kernel
theorem lM:∀ {b:List Nat},(∀ c∈b,c < 128)->PyData.canLayAll0 (b.map fun c=>PyData.str (S [c]))=true
 | [],_=>by simp [PyData.canLayAll0]
 | c::b,h=>by
  have a:(PyData.str (S [c])).canLay0=true:=Dr ⟨c,h c Ea⟩
  simp only [Ek,PyData.canLayAll0,a,lM (fun z hz=>h z (Ee _ hz)),Bool.and_self]
theorem oM {K:PySem.W.Frag} {H:Hp}:∀ b:List Nat,DtAll K H (b.map fun c=>V.str (S [c])) (b.map fun c=>PyData.str (S [c]))
 | []=>.nil
 | c::b=>.cons (.str _) (oM b)
theorem Ds:(["_law_sign"]:List Str).Nodup:=by decide +kernel
set_option maxHeartbeats 2000000 in
theorem yq {f:Addr} {fd:FuncData} (F:Fun K "_law_number" "_law_number" rD f fd) (B:Bl mg):aN P w K mg base cj 1 f fd ["_law_word_here","_law_most"] qm:=by
 refine F.ok Ay (fun vs H Q E h=>?_) (fun cdv A outer s H vs Q E hr h=>?_)
 ·obtain ⟨l,m,rfl,_⟩:=h
  rfl
 ·obtain ⟨l,m,rfl,hl,ha,q⟩:=h
  have sz:(100000:Nat)<=sizeLine:=by decide
  refine ⟨_,af (aT (PW.pt (dF (aq bO (pv 0) ak (aB _)) (dF (aq (op_neD hr) (eG (N':=["_law_sign"]) (ix:=[none]) (sc0:=am rD) (N:=["_law_word_here","_law_most"]) rfl (by decide +kernel) (mj (pv 0))
     (fun C' cl s H fp=>ar (i:=0) Ds rfl (Or.inl rfl) (.inr rfl)) (fun _ _ _ _ _=>md (aq lZ (pv 0) ak rfl)) (fun C' cl s H fp=>pv 0)) (aV ac) (aB _)) (cZ (PW.pt (cE (aq bO (aP fY (pv 0) aj (fun _ _=>rfl)) ak (aB _)) (ck (aq iw (pv 0) ak (aB _))))))))) (ai (av eO)) aI)
   (ai (av (hV (cX eR (au bA (by rfl) B.len Ei (aa (pv 0) ac)) aj (aB _)) (fO (cX eR (aM oK (by rfl) B.int EW (aa (pv 0) ac)) (pv 1) (aB _)))))),?_⟩
  have no:ko l m=false->∀ H',Same H H'->Q (.bl false) H':=fun e H' s'=>by have:=q H' s';rwa [e] at this
  have e0:("":Str)=S []:=by decide +kernel
  refine ⟨_,rfl,rfl,_,rfl,?_⟩
  by_cases h0:l=[]
  ·exact bB (decide_eq_true (by rw [h0,e0])) (no (by rw [h0];rfl) _ (Same.refl _))
  refine bi (decide_eq_false fun e=>h0 (by rw [e0] at e;exact L2.S_inj.mp (V.str.inj e))) ?_
  refine ⟨_,rfl,l,rfl,?_⟩
  refine ml (fun i ys H'=>ys=((l.take i).filter (fun c=>!ca c)).map (fun c=>V.str (S [c]))/\Same H H') ⟨rfl,Same.refl _⟩ (fun i ys H' hi ⟨e,_⟩=>by
    rw [e,D5]
    have:=List.length_filter_le (fun c=>!ca c) (l.take i)
    rw [Eh] at this
    omega) ?_ ?_
  ·rintro i ys H' hi ⟨rfl,s'⟩
   refine ⟨trivial,?_⟩
   refine ⟨_,rfl,S [l[i]],sQ,rfl,rfl,?_⟩
   rw [vn,fq,rC]
   have tk:(l.take (i+1)).filter (fun c=>!ca c)=(l.take i).filter (fun c=>!ca c)++[l[i]].filter (fun c=>!ca c):=by rw [<-List.take_append_getElem hi,List.filter_append]
   cases hf:ca l[i] with
   | true=>
    refine ⟨_,rfl,cA (Nx.mk hi ⟨?_,s'⟩)⟩
    rw [tk]
    simp [hf]
   | false=>
    refine ⟨_,rfl,gh ⟨_,rfl,Nx.mk hi ⟨?_,s'⟩⟩⟩
    rw [tk]
    simp [hf]
  rintro ys H1 ⟨rfl,s1⟩ D nD
  rw [EI]
  have hb:∀ c∈l.filter (fun c=>!ca c),c < 128:=fun c hc=>ha c (Ft.mp hc).1
  have hall:l.filter (fun c=>!ca c)=[]↔l.all ca=true:=by
   rw [List.filter_eq_nil_iff,ER]
   exact ⟨fun h c hc=>by have:=h c hc;simpa using this,fun h c hc=>by rw [h c hc];decide⟩
  generalize l.filter (fun c=>!ca c)=b at *
  have s2:=ag (o:=.lst (b.map fun c=>V.str (S [c]))) nD
  have e2:(ax H1 D (.lst (b.map fun c=>V.str (S [c])))) D=some (.lst (b.map fun c=>V.str (S [c]))):=ad
  generalize ax H1 D (.lst (b.map fun c=>V.str (S [c])))=H2 at *
  refine ⟨(by show 0<=sizeLine;decide),fun l3 n3=>?_⟩
  have s3:=ag (o:=.lst []) n3
  have e3:(ax H2 l3 (.lst [])) l3=some (.lst []):=ad
  generalize ax H2 l3 (.lst ([]:List V))=H3 at *
  have s13:=(s1.trans s2).trans s3
  refine ⟨.list (b.map fun c=>PyData.str (S [c])),.list [],.lst (SqL.of (s3 _ _ e2)) (oM b),.lst (SqL.of e3) .nil,by simp only [PyData.canLay0];exact lM hb,by decide +kernel,Ew (Nat.min_le_right _ _) (by decide +kernel),_,rfl,?_⟩
  cases b with
  | cons c r=>
   refine bB ?_ (no ?_ _ s13)
   ·simp [PyData.eqv,PyData.eqvAll]
   ·have:l.all ca=false:=EY.mpr fun z=>by have:=hall.mpr z;cases this
    unfold ko
    rw [this,Bool.false_and,Bool.and_false]
  | nil=>
  have hf:l.all ca=true:=hall.mp rfl
  refine bi (by simp [PyData.eqv,PyData.eqvAll]) ?_
  have hlen:0 < l.length:=List.length_pos_iff.mpr h0
  have e48:("0":Str)=S [48]:=by decide +kernel
  have g0:l[0]?=some l[0]:=El hlen
  have ret:(!(decide (l[0]?=some 48) && decide (l≠[48])))=true->ko l m=(decide (l.length<=30) && decide (dL l<=m)):=fun h=>by
   unfold ko
   rw [decide_eq_true h0,hf,h];rfl
  have cont:((!(decide (l[0]?=some 48) && decide (l≠[48])))=true)->(l.length<=30->Q (.bl (decide ((dL l:Int)<=(m:Int)))) H3)/\(¬ l.length<=30->Q (.bl false) H3):=fun h=>by
   have q':=q H3 s13
   rw [ret h] at q'
   refine ⟨fun h3=>?_,fun h3=>?_⟩
   ·rw [decide_eq_true h3,Bool.true_and] at q'
    rw [show decide ((dL l:Int)<=(m:Int))=decide (dL l<=m) from decide_eq_decide.mpr ⟨fun _=>by omega,fun _=>by omega⟩]
    exact q'
   ·rw [decide_eq_false h3,Bool.false_and] at q'
    exact q'
  refine ⟨_,rfl,S l,0,l[0],rfl,rfl,(by rw [aR];omega),fB (i:=0) hlen,rfl,_,rfl,?_⟩
  by_cases hz:l[0]=48
  ·refine bB (decide_eq_true (by rw [hz,e48];rfl)) ⟨_,rfl,rfl,_,rfl,?_⟩
   by_cases h1:l=[48]
   ·refine bi (by rw [h1,e48,decide_eq_true rfl];rfl) ?_
    obtain ⟨c1,c2⟩:=cont (by rw [h1];decide)
    refine ⟨_,rfl,S l,rfl,(by rw [aR];omega),_,_,rfl,rfl,_,rfl,?_⟩
    rw [aR]
    by_cases h3:l.length<=30
    ·exact bB (decide_eq_true (by omega)) ⟨_,rfl,l,rfl,h0,hf,h3,_,rfl,_,_,rfl,rfl,c1 h3⟩
    ·exact bi (decide_eq_false (by omega)) (c2 h3)
   ·refine bB ?_ (no ?_ _ s13)
    ·rw [e48,decide_eq_false fun e=>h1 (L2.S_inj.mp (V.str.inj e))];rfl
    ·unfold ko
     rw [g0,hz,decide_eq_true rfl,decide_eq_true h1]
     simp
  ·refine bi (decide_eq_false fun e=>hz ?_) (cA ?_)
   ·rw [e48] at e
    exact (Fv (L2.S_inj.mp (V.str.inj e))).1
   ·obtain ⟨c1,c2⟩:=cont (by rw [g0,decide_eq_false (by simpa using hz)];rfl)
    refine ⟨_,rfl,S l,rfl,(by rw [aR];omega),_,_,rfl,rfl,_,rfl,?_⟩
    rw [aR]
    by_cases h3:l.length<=30
    ·exact bB (decide_eq_true (by omega)) ⟨_,rfl,l,rfl,h0,hf,h3,_,rfl,_,_,rfl,rfl,c1 h3⟩
    ·exact bi (decide_eq_false (by omega)) (c2 h3)
end
end L3
namespace L3
open PySem L2
theorem wD {l:List Str} (nd:l.Nodup) {i j:Nat} {z:Str} (h:l[i]?=some z) (h':l[j]?=some z):i=j:=by
 rcases Nat.lt_trichotomy i j with hl|hl|hl
 ·exact absurd h (j3 nd h' i hl)
 ·exact hl
 ·exact absurd h' (j3 nd h j hl)
section
variable {P:Program} {w:World} {K:PySem.W.Frag} {mg:Str->Option Value} {base:Heap} {C Cp:Addr} {tb tm:Tok}
theorem scLine:ay ["_law_table","_law_row","_law_name","_law_operands","_law_words","_law_sort","_law_operand"] ["_law_table","_law_row"] (am qK):=⟨rfl,rfl,rfl,by decide +kernel,rfl,by decide +kernel,by decide +kernel⟩
theorem Du:(["_law_one","_law_name"]:List Str).Nodup:=by decide +kernel
set_option maxHeartbeats 8000000 in
theorem tK {f:Addr} {fd:FuncData} (F:Fun K "_law_line" "_law_line" qK f fd) (B:Bl mg) (B4:AR mg):aN P w K mg base cj 2 f fd ["_law_table","_law_row"] qe:=by
 refine F.ok scLine (fun vs H Q E h=>?_) (fun cdv A outer s H vs Q E hr h=>?_)
 ·obtain ⟨d,u,D,fn,kvs,lf,lp,lm,lk,lg,ks,r,n,rfl,_⟩:=h
  rfl
 ·obtain ⟨d,u,D,fn,kvs,lf,lp,lm,lk,lg,ks,r,n,rfl,hK,hO,⟨p,t,rfl,hp,ht⟩,hRk,hn,q⟩:=h
  have sz:(100000:Nat)<=sizeLine:=by decide
  have hu:=hJ hr
  obtain ⟨hk,hops⟩:=id hRk
  have sl:=gT hRk
  have ol:=hops.length
  have f3:=(hO.fm.kf _ hk).2
  refine ⟨_,af (fg (pv 1) (c0 rfl (az (ar (i:=2) scLine.nd rfl (Or.inr rfl)) (az (ar (i:=3) scLine.nd rfl (Or.inl rfl)) bD))))
   (af (aw (i:=4) scLine.nd rfl (Or.inl rfl) (aV (aa (pv 2) ac)))
   (af (cS PassesOwn.never rfl (jq false true rfl B4.zip (aa (aP aK (eG (N':=["_law_one","_law_name"]) (ix:=[none,some 2]) (sc0:=am qK) (N:=["_law_table","_law_row","_law_name","_law_operands","_law_words","_law_sort","_law_operand"]) rfl (by decide +kernel) (dP (br hu (pv 0) ak (fun _ _=>rfl))) (fun C' cl s H fp=>ar (i:=0) Du rfl (Or.inl rfl) (.inr rfl)) (fun C' cl s H fp=>md (aq bO (aP (qU (K:=K) rfl) (pv 0) aj (fun _ _=>rfl)) (pv 1) (aB _))) (fun C' cl s H fp=>aP (qU (K:=K) rfl) (pv 0) aj (fun _ _=>rfl))) aj (fun _ _=>rfl)) (aa (pv 3) ac))) (c0 rfl (az (ar (i:=5) scLine.nd rfl (Or.inl rfl)) (az (ar (i:=6) scLine.nd rfl (Or.inl rfl)) bD)))
    (af (aQ (bX Ep Eu Et bM (pv 4) (aa (aM bN (by rfl) B.str bW (aa (pv 6) ac)) ac)))
    (ai (aT (PW.pt (dF (aq bO (pv 5) ak (aB _)) (cZ (aq bO (pv 5) ak (aB _)))))
     (ai (fg (aP aK (br hu (pv 0) (aH bT (pv 5) ak) (fun _ _=>rfl)) (pv 6) (fun _ _=>rfl)) (jC (pv 4) (yG uf aj) fZ))) aI))))
   (ai (av (bX EE E5 E4 ft ak (aa (pv 4) ac)))))),?_⟩
  refine ⟨_,rfl,p,_,rfl,SqT.of hp,rfl,_,_,rfl,_,_,rfl,rfl,?_⟩
  refine ⟨_,rfl,by show 1<=sizeLine;decide,fun lw nlw=>?_⟩
  have s1:=ag (o:=.lst [.str r.k.name]) nlw
  have e1:(ax H lw (.lst [.str r.k.name])) lw=some (.lst [.str r.k.name]):=ad
  generalize ax H lw (.lst [V.str r.k.name])=H1 at *
  have K1:=hK.same s1
  obtain ⟨j,hj⟩:=j4 hk
  obtain ⟨uj,huj,pj,lj,rfl,hpj0,hlj0⟩:=vB hK.kd hj
  have hpj:=s1 _ _ hpj0
  have hlj:=s1 _ _ hlj0
  have nljw:lj≠lw:=aG hlj0 nlw
  have hjn:(D.kinds.map Kn.name)[j]?=some r.k.name:=by rw [Eb,hj];rfl
  have lks:=hK.kd.length
  have hjl:j < ks.length:=(D7.mp huj).1
  refine ⟨_,rfl,d,_,rfl,bv K1.dd K1.v7,lk,rfl,⟨_,SqL.of K1.ek⟩,?_⟩
  have k8:=hO.fm.k8
  refine gM (K:=K) (a:=lk) (xs:=ks) (fun i ys H'=>H'=H1/\ys=if j < i then [.ref lj] else []) ⟨rfl,by rw [if_neg (by omega)]⟩ (fun i ys H' hi ⟨a1,a2⟩=>by
    subst a1 a2
    refine ⟨SqL.of K1.ek,?_⟩
    split
    ·show 1<=sizeLine
     omega
    ·show 0<=sizeLine
     omega) ?_ ?_
  ·rintro i x ys H' hx ⟨rfl,rfl⟩
   obtain ⟨y,hy,py,ly,rfl,hpy,hly⟩:=gV K1.kd hx
   have hlt:=(D7.mp hx).1
   refine ⟨⟨rfl,trivial⟩,?_⟩
   refine ⟨_,rfl,py,_,_,_,rfl,rfl,SqT.of hpy,gC,_,rfl,rfl,_,rfl,eD (fun hb=>?_) (fun hb=>?_)⟩
   ·have hyn:y.name=r.k.name:=V.str.inj (of_decide_eq_true hb)
    have hin:(D.kinds.map Kn.name)[i]?=some r.k.name:=by rw [Eb,hy];exact congrArg some hyn
    have eij:=wD hO.fm.kn hin hjn
    subst eij
    have e2:ly=lj:=by
     have e3:py=pj:=V.ref.inj (Eg (hx.symm.trans huj))
     subst e3
     have h5:=HO.tup.inj (Eg (hpy.symm.trans hpj))
     exact V.ref.inj (Fv (Fv h5).2).1
    subst e2
    refine ⟨_,rfl,py,_,_,_,rfl,rfl,SqT.of hpy,p9,Nx.mk hlt ⟨rfl,?_⟩⟩
    rw [if_neg (by omega),if_pos (by omega)]
    rfl
   ·have nij:i≠j:=by
     rintro rfl
     rw [hj] at hy
     cases hy
     exact hb (decide_eq_true rfl)
    refine Nx.mk hlt ⟨rfl,?_⟩
    by_cases hji:j < i
    ·rw [if_pos hji,if_pos (by omega)]
    ·rw [if_neg hji,if_neg (by omega)]
  rintro ys H' ⟨rfl,rfl⟩ lo nlo
  rw [if_pos hjl]
  have s2:=ag (o:=.lst [.ref lj]) nlo
  have e2:(ax H' lo (.lst [.ref lj])) lo=some (.lst [.ref lj]):=ad
  have ew2:=s2 _ _ e1
  have hlj2:=s2 _ _ hlj
  generalize ax H' lo (.lst [V.ref lj])=H2 at *
  have s02:=s1.trans s2
  refine ⟨lo,_,_,_,rfl,rfl,SqL.of e2,gC,_,rfl,lj,t,rfl,⟨_,SqL.of hlj2⟩,⟨_,SqT.of (s02 _ _ ht)⟩,?_⟩
  refine uM (b1:=false) (b2:=true) (K:=K) (l1:=lj) (l2:=t) (xs:=ae (r.k.fs.map (·.2))) (ys:=db r.ops) (by unfold ae db;rw [D5,D5,D5,ol]) (fun i σ H'=>∃ v5 v6:Option V,σ=[some (.ref d),some (.ref p),some (.str r.k.name),some (.ref t),some (.ref lw),v5,v6]/\Same H H'/\(∀ b o,H2 b=some o->b≠lw->H' b=some o)/\H' lw=some (.lst (cD ((cr D r).take (i+1))))) ⟨_,_,rfl,s02,fun b o e _=>e,?_⟩ (fun i σ H' hi ⟨_,_,_,s',k',_⟩=>⟨SqL.of (k' _ _ hlj2 nljw),SqT.of (s' _ _ ht)⟩) ?_ ?_
  ·rw [ew2]
   unfold cr cD
   simp [dc]
  ·rintro i x y σ H3 T1 hx hy nT ⟨v5,v6,rfl,s3,k3,ew3⟩
   obtain ⟨fl,hfl,rfl⟩:∃ g,r.k.fs[i]?=some g/\x=.str g.2:=by
    unfold ae at hx
    rw [Eb,Eb] at hx
    cases e:r.k.fs[i]? with
    | none=>rw [e] at hx;cases hx
    | some g=>rw [e] at hx;exact ⟨g,rfl,(Eg hx).symm⟩
   obtain ⟨o,hoo,rfl⟩:=pX hy
   obtain ⟨fl3,hfl3,hb⟩:=gV hops hoo
   have e2:fl3=fl:=by
    rw [hfl] at hfl3
    exact (Eg hfl3).symm
   subst e2
   have hsh:=j6 (D:=D) hoo hfl
   have hi3:i < r.k.fs.length:=(D7.mp hfl).1
   have s4:=ag (o:=.tup [.str fl3.2,.int (o:Int)]) nT
   have s04:=s3.trans s4
   have K4:=hK.same s04
   have ew4:=s4 _ _ ew3
   refine ⟨T1,_,rfl,SqT.of ad,rfl,_,_,rfl,_,_,rfl,rfl,?_⟩
   generalize ax H3 T1 (.tup [V.str fl3.2,.int (o:Int)])=H4 at *
   have rl:(cr D r).length=r.k.fs.length+1:=by unfold cr;rw [D5,D8,sl]
   have hnext:cD ((cr D r).take (i+1))++[.str (kH D fl3.2 o)]=cD ((cr D r).take (i+2)):=by
    have h1:(cr D r)[i+1]?=some (cp (kH D fl3.2 o)):=by
     unfold cr
     rw [Eb,List.getElem?_cons_succ,hsh]
     rfl
    rw [EJ (i:=i+1),h1]
    unfold cD
    simp [dc]
   have llen:(cD ((cr D r).take (i+1))).length < sizeLine:=by
    unfold cD
    rw [D5,Eh]
    omega
   have o25:o < 2 ^ 25:=by
    by_cases n1:fl3.2="place"
    ·unfold dM at hb;rw [if_pos n1] at hb
     have:=hO.fm.p4;omega
    ·by_cases n2:fl3.2="mark"
     ·unfold dM at hb;rw [if_neg n1,if_pos n2] at hb
      have:=hO.fm.m3;omega
     ·exact pY hO.w24 hn hb n1 n2
   refine ⟨_,rfl,.inl ⟨rfl,_,SqL.of ew4⟩,_,rfl,_,rfl,cm o25,lw,_,_,rfl,rfl,ew4,llen,?_⟩
   have s05:Same H (ax H4 lw (.lst (cD ((cr D r).take (i+1))++[.str (toString (o:Int):Str)]))):=bY nlw s04
   have e5:(ax H4 lw (.lst (cD ((cr D r).take (i+1))++[.str (toString (o:Int):Str)]))) lw=some (.lst (cD ((cr D r).take (i+1))++[.str (toString (o:Int):Str)])):=ad
   have k5:∀ b o',H2 b=some o'->b≠lw->(ax H4 lw (.lst (cD ((cr D r).take (i+1))++[.str (toString (o:Int):Str)]))) b=some o':=fun b o' e nb=>by
    rw [ao nb]
    exact s4 _ _ (k3 _ _ e nb)
   generalize ax H4 lw (.lst (cD ((cr D r).take (i+1))++[.str (toString (o:Int):Str)]))=H5 at *
   have K5:=hK.same s05
   have lt1:(cD ((cr D r).take (i+1))).length=i+1:=by
    unfold cD
    rw [D5,Eh]
    omega
   have hix:tW (cD ((cr D r).take (i+1))++[V.str (toString (o:Int):Str)]).length (-1)=some (i+1):=by
    rw [D9,lt1]
    unfold tW
    rw [if_neg (by omega),if_pos (by simp;omega)]
    congr 1
    simp
    omega
   have hset:∀ z:V,(cD ((cr D r).take (i+1))++[V.str (toString (o:Int):Str)]).set (i+1) z=cD ((cr D r).take (i+1))++[z]:=fun z=>by
    rw [List.set_append_right _ _ (by omega),lt1,Nat.sub_self]
    rfl
   refine ⟨_,rfl,rfl,_,rfl,eD (fun h=>?_) (fun h=>?_)⟩
   ·have h':fl3.2="place":=V.str.inj (of_decide_eq_true h)
    refine gh ?_
    have ho:o < D.places.length:=by unfold dM at hb;rw [if_pos h'] at hb;exact hb
    have esh:kH D fl3.2 o=D.places.getD o "":=by unfold kH;rw [if_pos h']
    refine ⟨_,rfl,_,rfl,_,_,rfl,rfl,?_,d,_,rfl,bv K5.dd ?_,_,rfl,lp,_,_,_,rfl,rfl,SqL.of K5.ep,bE (jv ho),_,rfl,1,rfl,lw,_,-1,i+1,rfl,rfl,e5,hix,?_⟩
    ·rw [h']
     decide +kernel
    ·rw [h']
     exact K5.v5
    ·rw [hset,<-esh,hnext]
     exact ⟨_,_,rfl,bY nlw s05,fun b o' e nb=>by rw [ao nb];exact k5 _ _ e nb,ad⟩
   have n1:fl3.2≠"place":=fun e=>h (decide_eq_true (congrArg V.str e))
   refine ⟨_,rfl,rfl,_,rfl,eD (fun h=>?_) (fun h=>?_)⟩
   ·have h':fl3.2="mark":=V.str.inj (of_decide_eq_true h)
    have ho:o < D.marks.length:=by unfold dM at hb;rw [if_neg n1,if_pos h'] at hb;exact hb
    have esh:kH D fl3.2 o=D.marks.getD o "":=by unfold kH;rw [if_neg n1,if_pos h']
    refine ⟨_,rfl,_,rfl,_,_,rfl,rfl,?_,d,_,rfl,bv K5.dd ?_,_,rfl,lm,_,_,_,rfl,rfl,SqL.of K5.em,bE (jv ho),_,rfl,1,rfl,lw,_,-1,i+1,rfl,rfl,e5,hix,?_⟩
    ·rw [h']
     decide +kernel
    ·rw [h']
     exact K5.v6
    ·rw [hset,<-esh,hnext]
     exact ⟨_,_,rfl,bY nlw s05,fun b o' e nb=>by rw [ao nb];exact k5 _ _ e nb,ad⟩
   have n2:fl3.2≠"mark":=fun e=>h (decide_eq_true (congrArg V.str e))
   have esh:kH D fl3.2 o=(toString (o:Int):Str):=by unfold kH;rw [if_neg n1,if_neg n2]
   rw [<-esh,hnext] at e5
   exact ⟨_,_,rfl,s05,k5,e5⟩
  ·rintro σ H3 ⟨v5,v6,rfl,s3,k3,ew3⟩
   have rl:(cr D r).length=r.k.fs.length+1:=by unfold cr;rw [D5,D8,sl]
   have etk:(cr D r).take ((ae (r.k.fs.map (·.2))).length+1)=cr D r:=by
    refine EC ?_
    unfold ae
    rw [D5,D5]
    omega
   rw [etk] at ew3
   refine ⟨rfl,_,rfl,[32],lw,cr D r,congrArg V.str i6,rfl,SqL.of ew3,?_,q _ s3⟩
   have h1:=fE 8 (cr D r) fun t ht=>(jw hO.nm hO.w24 hn hRk t ht).1
   have h2:=iF hO.fm hRk
   simp only [D8,Ev]
   omega
end
end L3
namespace PySem
open Sem (wp)
open PySem.Spec PyProof.Rows
namespace F
theorem typeCall_zip_3 (a b c:Value):checkTypeCall "zip" ⟨[a,b,c],[]⟩=pure ():=by kernel_rfl
theorem newCall_zip_3 (a b c:Value):checkBuiltinCall "zip.__new__" ⟨[.type "zip",a,b,c],[]⟩=pure ():=by kernel_rfl
theorem args_object_init_4 (a b c d:Value):argsOk "object.__init__" ⟨[a,b,c,d],[]⟩:=by
 unfold argsOk;rw [signature?_of (id:="object.__init__") (n:=['_','_','t','i','n','i','_','_']) (o:=['t','c','e','j','b','o']) (by kernel_rfl) owner_object];kernel_rfl
end F
abbrev IsTrip (h:Heap) (T:Addr) (a b c:Value):Prop:=h.get? T=some { cls:=.type "tuple",data:=.seq #[a,b,c] }
theorem ane {a b:Nat} (h:a < b\/b < a):(a:Addr)≠(b:Addr):=by rintro rfl;omega
section
variable {prog:Program} {w:World} {A:Around} {E:Value->Shared->Prop} {s:Shared}
theorem zip3_item {n l1 l2 l3:Nat} (hl1:l1 < n) (hl2:l2 < n) (hl3:l3 < n) {k:Nat} {xs ys zs:Array Value} {x y v a b c:Value} {Q:Value->Shared->Prop} (hz:IsZip s.heap (n+5) (n+3) (n+4) .none) (hTI:IsTrip s.heap (n+3) (.ref n) (.ref (n+1)) (.ref (n+2))) (hTO:IsTrip s.heap (n+4) a b c)
  (h1:IsItB false s.heap n l1 k) (h2:IsItB false s.heap (n+1) l2 k) (h3:IsItB false s.heap (n+2) l3 k) (q1:IsSqB false s.heap l1 xs) (q2:IsSqB false s.heap l2 ys) (q3:IsSqB false s.heap l3 zs) (hx:xs[k]?=some x) (hy:ys[k]?=some y) (hv:zs[k]?=some v)
  (hQ:∀ h',IsZip h' (n+5) (n+3) (n+4) (rawInt s.heap.objs.size)->IsTrip h' (n+4) x y v->IsItB false h' n l1 (k+1)->IsItB false h' (n+1) l2 (k+1)->IsItB false h' (n+2) l3 (k+1)->IsTrip h' s.heap.objs.size x y v->
   (∀ c o,c≠n+5->c≠n+4->c≠n->c≠n+1->c≠n+2->s.heap.get? c=some o->h'.get? c=some o)->Q (.ref s.heap.objs.size) { s with heap:=h' }) :
  wpAny (model prog w) A (Builtin.«zip.__next__» ⟨[.ref (n+5)],[]⟩) (fun fin s'=>∃ v,fin=.done (.ret v)/\Q v s') E s:=by
 show wpAny _ _ (field (.ref (n+5)) 2 >>= _) _ _ s
 refine wpAny_bind (wpAny_field hz rfl (x:=.bool false) rfl ?_)
 show wpAny _ _ (field (.ref (n+5)) 3 >>= _) _ _ s
 refine wpAny_bind (wpAny_field hz rfl (x:=.ref (n+3)) rfl ?_)
 refine wpAny_bind (wpAny_seqItems hTI rfl ?_)
 show wpAny _ _ (Builtin.SmallTypes.ownedTupleIsFree (.ref (n+5)) >>= _) _ _ s
 refine wpAny_bind ?_
 unfold Builtin.SmallTypes.ownedTupleIsFree
 refine wpAny_bind (wpAny_field hz rfl (x:=.none) rfl (wpAny_pure ?_))
 show wpAny _ _ (rule "zip.__next__.owned-tuple-again" >>= _) _ _ s
 refine wpAny_bind (wpAny_rule (wpAny_bind (wpAny_field hz rfl (x:=.ref (n+4)) rfl ?_)))
 show wpAny _ _ (setField (.ref (n+5)) 0 .ellipsis >>= _) _ _ s
 refine wpAny_bind (wpAny_setField hz rfl (by simp) ?_)
 have u1:=Heap.SameBut.update s.heap (n+5) (Obj.mapFields fun x_1=>x_1.setIfInBounds 0 Value.ellipsis)
 have z1:=Heap.get?_update_self (Obj.mapFields fun x_1=>x_1.setIfInBounds 0 Value.ellipsis) hz rfl
 generalize s.heap.update (n+5) (Obj.mapFields fun x_1=>x_1.setIfInBounds 0 Value.ellipsis)=hp1 at *
 have e1:∀ c o,c≠n+5->s.heap.get? c=some o->hp1.get? c=some o:=fun c o m q=>(u1.2 c m).trans q
 show wpAny _ _ (forIn [(Value.ref n,0),(Value.ref (n+1),1),(Value.ref (n+2),2)] _ _ >>= _) _ _ _
 refine wpAny_bind ?_
 rw [List.forIn_cons]
 refine wpAny_bind ?_
 show wpAny _ _ (Sem.onRaise _ _ >>= _) _ _ _
 refine wpAny_bind (wpAny_onRaise ?_)
 show wpAny _ _ (Builtin.SmallTypes.nextOf (.ref n) >>= _) _ _ _
 refine wpAny_bind (nextB_item (h1.at fun o q=>e1 _ o (ane (by omega)) q) (q1.at fun o q=>e1 _ o (ane (by omega)) q) hx fun hp2 it2 u2=>wpAny_pure ?_)
 dsimp only at u2
 have e2:∀ c o,c≠n+5->c≠n->s.heap.get? c=some o->hp2.get? c=some o:=fun c o m m' q=>(u2.2 c m').trans (e1 c o m q)
 have o2:hp2.get? (n+4)=some { cls:=.type "tuple",data:=.seq #[a,b,c] }:=e2 _ _ (ane (by omega)) (ane (by omega)) hTO
 show wpAny _ _ (seqItems? (.ref (n+4)) >>= _) _ _ _
 refine wpAny_bind (wpAny_seqItems o2 rfl ?_)
 show wpAny _ _ (updateSeq (n+4) _ >>= _) _ _ _
 refine wpAny_bind (wpAny_updateSeq o2 rfl ?_ (by show 3<=sizeLine;decide) (by show 3<=sizeLine+1;decide))
 refine wpAny_bind (wpAny_letGo (wpAny_pure ?_))
 have u3:=Heap.SameBut.update hp2 (n+4) (Obj.mapSeq fun x_1=>x_1.setIfInBounds 0 x)
 have o3:=Heap.get?_update_self (Obj.mapSeq fun x_1=>x_1.setIfInBounds 0 x) o2 rfl
 generalize hp2.update (n+4) (Obj.mapSeq fun x_1=>x_1.setIfInBounds 0 x)=hp3 at *
 have e3:∀ c o,c≠n+5->c≠n+4->c≠n->s.heap.get? c=some o->hp3.get? c=some o:=fun c o m m' m2 q=>(u3.2 c m').trans (e2 c o m m2 q)
 show wpAny _ _ (forIn [(Value.ref (n+1),1),(Value.ref (n+2),2)] _ _) _ _ _
 rw [List.forIn_cons]
 refine wpAny_bind ?_
 show wpAny _ _ (Sem.onRaise _ _ >>= _) _ _ _
 refine wpAny_bind (wpAny_onRaise ?_)
 show wpAny _ _ (Builtin.SmallTypes.nextOf (.ref (n+1)) >>= _) _ _ _
 refine wpAny_bind (nextB_item (h2.at fun o q=>e3 _ o (ane (by omega)) (ane (by omega)) (ane (by omega)) q) (q2.at fun o q=>e3 _ o (ane (by omega)) (ane (by omega)) (ane (by omega)) q) hy fun hp4 it4 u4=>wpAny_pure ?_)
 dsimp only at u4
 have o4:=(u4.2 (n+4) (ane (by omega))).trans o3
 show wpAny _ _ (seqItems? (.ref (n+4)) >>= _) _ _ _
 refine wpAny_bind (wpAny_seqItems o4 rfl ?_)
 show wpAny _ _ (updateSeq (n+4) _ >>= _) _ _ _
 refine wpAny_bind (wpAny_updateSeq o4 rfl ?_ (by show 3<=sizeLine;decide) (by show 3<=sizeLine+1;decide))
 refine wpAny_bind (wpAny_letGo (wpAny_pure ?_))
 have u5:=Heap.SameBut.update hp4 (n+4) (Obj.mapSeq fun x_1=>x_1.setIfInBounds 1 y)
 have o5:=Heap.get?_update_self (Obj.mapSeq fun x_1=>x_1.setIfInBounds 1 y) o4 rfl
 generalize hp4.update (n+4) (Obj.mapSeq fun x_1=>x_1.setIfInBounds 1 y)=hp5 at *
 have e5:∀ c o,c≠n+5->c≠n+4->c≠n->c≠n+1->s.heap.get? c=some o->hp5.get? c=some o:=fun c o m m' m2 m3 q=>(u5.2 c m').trans ((u4.2 c m3).trans (e3 c o m m' m2 q))
 show wpAny _ _ (forIn [(Value.ref (n+2),2)] _ _) _ _ _
 rw [List.forIn_cons]
 refine wpAny_bind ?_
 show wpAny _ _ (Sem.onRaise _ _ >>= _) _ _ _
 refine wpAny_bind (wpAny_onRaise ?_)
 show wpAny _ _ (Builtin.SmallTypes.nextOf (.ref (n+2)) >>= _) _ _ _
 refine wpAny_bind (nextB_item (h3.at fun o q=>e5 _ o (ane (by omega)) (ane (by omega)) (ane (by omega)) (ane (by omega)) q) (q3.at fun o q=>e5 _ o (ane (by omega)) (ane (by omega)) (ane (by omega)) (ane (by omega)) q) hv fun hp6 it6 u6=>wpAny_pure ?_)
 dsimp only at u6
 have o6:=(u6.2 (n+4) (ane (by omega))).trans o5
 show wpAny _ _ (seqItems? (.ref (n+4)) >>= _) _ _ _
 refine wpAny_bind (wpAny_seqItems o6 rfl ?_)
 show wpAny _ _ (updateSeq (n+4) _ >>= _) _ _ _
 refine wpAny_bind (wpAny_updateSeq o6 rfl ?_ (by show 3<=sizeLine;decide) (by show 3<=sizeLine+1;decide))
 refine wpAny_bind (wpAny_letGo (wpAny_pure ?_))
 have u7:=Heap.SameBut.update hp6 (n+4) (Obj.mapSeq fun x_1=>x_1.setIfInBounds 2 v)
 have o7:=Heap.get?_update_self (Obj.mapSeq fun x_1=>x_1.setIfInBounds 2 v) o6 rfl
 generalize hp6.update (n+4) (Obj.mapSeq fun x_1=>x_1.setIfInBounds 2 v)=hp7 at *
 have e7:∀ c o,c≠n+5->c≠n+4->c≠n->c≠n+1->c≠n+2->s.heap.get? c=some o->hp7.get? c=some o:=fun c o m m' m2 m3 m4 q=>(u7.2 c m').trans ((u6.2 c m4).trans (e5 c o m m' m2 m3 q))
 show wpAny _ _ (forIn [] _ _) _ _ _
 rw [List.forIn_nil]
 refine wpAny_pure ?_
 show wpAny _ _ (seqItems? (.ref (n+4)) >>= _) _ _ _
 refine wpAny_bind (wpAny_seqItems o7 rfl ?_)
 show wpAny _ _ (newTuple [x,y,v] >>= _) _ _ _
 refine wpAny_bind (wpAny_newTuple ?_ (by show 3<=sizeLine;decide))
 have sz:hp7.objs.size=s.heap.objs.size:=by rw [u7.1,u6.1,u5.1,u4.1,u3.1,u2.1,u1.1]
 have z7:hp7.get? (n+5)=some { cls:=.type "zip",data:=.fields #[.ellipsis,.bool false,.bool false,.ref (n+3),.ref (n+4)] }:=(u7.2 _ (ane (by omega))).trans ((u6.2 _ (ane (by omega))).trans ((u5.2 _ (ane (by omega))).trans ((u4.2 _ (ane (by omega))).trans ((u3.2 _ (ane (by omega))).trans ((u2.2 _ (ane (by omega))).trans z1)))))
 have z8:=D6 { cls:=Value.type "tuple",data:=Data.seq [x,y,v].toArray } z7
 have p8:=Em hp7 (o:={ cls:=Value.type "tuple",data:=Data.seq [x,y,v].toArray }) rfl
 have k8:∀ c o,hp7.get? c=some o->(hp7.push { cls:=Value.type "tuple",data:=Data.seq [x,y,v].toArray }).get? c=some o:=fun c o q=>D6 _ q
 generalize hp7.push { cls:=Value.type "tuple",data:=Data.seq [x,y,v].toArray }=hp8 at *
 have zs:((n+5:Nat):Addr)≠hp7.objs.size:=Ey (Ef z7)
 have t7:hp7.get? (n+4)=some { cls:=.type "tuple",data:=.seq #[x,y,v] }:=o7
 show wpAny _ _ (Builtin.SmallTypes.ownedTupleHandOut (.ref (n+5)) (.ref hp7.objs.size) >>= _) _ _ _
 refine wpAny_bind ?_
 show wpAny _ _ (setField (.ref (n+5)) 0 (rawInt hp7.objs.size) >>= _) _ _ _
 refine wpAny_bind (wpAny_setField z8 rfl (by simp) ?_)
 have u9:=Heap.SameBut.update hp8 (n+5) (Obj.mapFields fun x_1=>x_1.setIfInBounds 0 (rawInt hp7.objs.size))
 have z9:=Heap.get?_update_self (Obj.mapFields fun x_1=>x_1.setIfInBounds 0 (rawInt hp7.objs.size)) z8 rfl
 generalize hp8.update (n+5) (Obj.mapFields fun x_1=>x_1.setIfInBounds 0 (rawInt hp7.objs.size))=hp9 at *
 refine wpAny_setField z9 rfl (by simp [Obj.mapFields]) ?_
 have u10:=Heap.SameBut.update hp9 (n+5) (Obj.mapFields fun x_1=>x_1.setIfInBounds 1 (.bool false))
 have z10:=Heap.get?_update_self (Obj.mapFields fun x_1=>x_1.setIfInBounds 1 (.bool false)) z9 rfl
 generalize hp9.update (n+5) (Obj.mapFields fun x_1=>x_1.setIfInBounds 1 (.bool false))=hp10 at *
 have k10:∀ c o,c≠n+5->hp7.get? c=some o->hp10.get? c=some o:=fun c o m q=>(u10.2 c m).trans ((u9.2 c m).trans (k8 c o q))
 refine wpAny_pure ⟨_,rfl,?_⟩
 show Q (.ref hp7.objs.size) _
 have p10:=(u10.2 _ zs.symm).trans ((u9.2 _ zs.symm).trans p8)
 rw [sz] at p10 z10 zs ⊢
 refine hQ hp10 z10 (k10 _ _ (ane (by omega)) t7) ?_ ?_ ?_ p10 fun c o n1 n2 n3 n4 n5 q=>k10 c o n1 (e7 c o n1 n2 n3 n4 n5 q)
 ·refine it2.at fun o q=>k10 _ o (ane (by omega)) ?_
  exact (u7.2 _ (ane (by omega))).trans ((u6.2 _ (ane (by omega))).trans ((u5.2 _ (ane (by omega))).trans ((u4.2 _ (ane (by omega))).trans ((u3.2 _ (ane (by omega))).trans q))))
 ·refine it4.at fun o q=>k10 _ o (ane (by omega)) ?_
  exact (u7.2 _ (ane (by omega))).trans ((u6.2 _ (ane (by omega))).trans ((u5.2 _ (ane (by omega))).trans q))
 ·refine it6.at fun o q=>k10 _ o (ane (by omega)) ?_
  exact (u7.2 _ (ane (by omega))).trans q
theorem zip3_end {n l1:Nat} (hl1:l1 < n) {k:Nat} {xs:Array Value} {a b c:Value} {Q:Fin->Shared->Prop} (hh:A.handled=none) (hz:IsZip s.heap (n+5) (n+3) (n+4) .none) (hTI:IsTrip s.heap (n+3) (.ref n) (.ref (n+1)) (.ref (n+2))) (hTO:IsTrip s.heap (n+4) a b c)
  (h1:IsItB false s.heap n l1 k) (q1:IsSqB false s.heap l1 xs) (hx:xs[k]?=none)
  (hE:∀ h' e,(∀ c o,c≠n+5->c≠n+4->c≠n->c≠n+1->c≠n+2->s.heap.get? c=some o->h'.get? c=some o)->(∃ o,h'.get? e=some o/\o.cls=.type "StopIteration")->E (.ref e) { s with heap:=h' }) :
  wpAny (model prog w) A (Builtin.«zip.__next__» ⟨[.ref (n+5)],[]⟩) Q E s:=by
 show wpAny _ _ (field (.ref (n+5)) 2 >>= _) _ _ s
 refine wpAny_bind (wpAny_field hz rfl (x:=.bool false) rfl ?_)
 show wpAny _ _ (field (.ref (n+5)) 3 >>= _) _ _ s
 refine wpAny_bind (wpAny_field hz rfl (x:=.ref (n+3)) rfl ?_)
 refine wpAny_bind (wpAny_seqItems hTI rfl ?_)
 show wpAny _ _ (Builtin.SmallTypes.ownedTupleIsFree (.ref (n+5)) >>= _) _ _ s
 refine wpAny_bind ?_
 unfold Builtin.SmallTypes.ownedTupleIsFree
 refine wpAny_bind (wpAny_field hz rfl (x:=.none) rfl (wpAny_pure ?_))
 show wpAny _ _ (rule "zip.__next__.owned-tuple-again" >>= _) _ _ s
 refine wpAny_bind (wpAny_rule (wpAny_bind (wpAny_field hz rfl (x:=.ref (n+4)) rfl ?_)))
 show wpAny _ _ (setField (.ref (n+5)) 0 .ellipsis >>= _) _ _ s
 refine wpAny_bind (wpAny_setField hz rfl (by simp) ?_)
 have u1:=Heap.SameBut.update s.heap (n+5) (Obj.mapFields fun x_1=>x_1.setIfInBounds 0 Value.ellipsis)
 have z1:=Heap.get?_update_self (Obj.mapFields fun x_1=>x_1.setIfInBounds 0 Value.ellipsis) hz rfl
 generalize s.heap.update (n+5) (Obj.mapFields fun x_1=>x_1.setIfInBounds 0 Value.ellipsis)=hp1 at *
 show wpAny _ _ (forIn [(Value.ref n,0),(Value.ref (n+1),1),(Value.ref (n+2),2)] _ _ >>= _) _ _ _
 refine wpAny_bind ?_
 rw [List.forIn_cons]
 refine wpAny_bind ?_
 show wpAny _ _ (Sem.onRaise _ _ >>= _) _ _ _
 refine wpAny_bind (wpAny_onRaise ?_)
 show wpAny _ _ (Builtin.SmallTypes.nextOf (.ref n) >>= _) _ _ _
 have e1:∀ c o,c≠n+5->s.heap.get? c=some o->hp1.get? c=some o:=fun c o m q=>(u1.2 c m).trans q
 refine wpAny_bind (nextB_end hh (h1.at fun o q=>e1 _ o (ane (by omega)) q) (q1.at fun o q=>e1 _ o (ane (by omega)) q) hx fun hp2 e u2 ex=>?_)
 dsimp only at u2
 obtain ⟨ox,hox,cx⟩:=ex
 have z2:=u2 _ _ (ane (by omega)) z1
 refine wpAny_setField z2 rfl (by simp [Obj.mapFields]) ?_
 have u3:=Heap.SameBut.update hp2 (n+5) (Obj.mapFields fun x_1=>x_1.setIfInBounds 0 .none)
 have ez:e≠n+5:=by
  rintro rfl
  rw [hox] at z2
  cases z2
  have cx':Value.type "zip"=Value.type "StopIteration":=cx
  injection cx' with q
  exact absurd q (by decide)
 generalize hp2.update (n+5) (Obj.mapFields fun x_1=>x_1.setIfInBounds 0 .none)=hp3 at *
 exact hE hp3 e (fun c o n1 n2 n3 n4 n5 q=>(u3.2 c n1).trans (u2 c o n3 (e1 c o n1 q))) ⟨ox,(u3.2 e ez).trans hox,cx⟩
end
def zH3 (h:Heap) (l1 l2 l3:Addr):Heap:=(((((h.push (itB false l1)).push (itB false l2)).push (itB false l3)).push { cls:=.type "tuple",data:=.seq #[.ref h.objs.size,.ref (h.objs.size+1),.ref (h.objs.size+2)] }).push { cls:=.type "tuple",data:=.seq #[.none,.none,.none] }).push
 { cls:=.type "zip",data:=.fields #[.none,.bool false,.bool false,.ref (h.objs.size+3),.ref (h.objs.size+4)] }
theorem made_zip3 (l1 l2 l3:Addr) (xs ys zs:Array Value):Meets (Builtin.«zip.__new__» ⟨[.type "zip",.ref l1,.ref l2,.ref l3],[]⟩) (fun _ R s=>
  IsSqB false s.heap l1 xs/\IsSqB false s.heap l2 ys/\IsSqB false s.heap l3 zs/\R (.ok (.ret (.ref (s.heap.objs.size+5)))) { s with heap:=zH3 s.heap l1 l2 l3 }):=
 .of_wp fun prog w A R s both=>by
  rcases s with ⟨hp,gs,dr,tk,sys⟩
  obtain ⟨q1,q2,q3,good⟩:=both
  have under:=sub_zip
  have i1:=fun {A:Around} {E Q}=>@pyIterB prog w A E ⟨hp,gs,dr,tk,sys⟩ false l1 xs Q q1
  have i2:=fun {A:Around} {E Q}=>@pyIterB prog w A E ⟨hp.push (itB false l1),gs,dr,tk,sys⟩ false l2 ys Q (q2.at fun o q=>D6 _ q)
  have i3:=fun {A:Around} {E Q}=>@pyIterB prog w A E ⟨(hp.push (itB false l1)).push (itB false l2),gs,dr,tk,sys⟩ false l3 zs Q (q3.at fun o q=>D6 _ (D6 _ q))
  wp_walk using i1,i2,i3
  refine ⟨_,rfl,?_⟩
  have sz:∀ (h:Heap) o,(h.push o).objs.size=h.objs.size+1:=fun _ _=>E2 ..
  simp only [zH3] at good
  simp only [sz]
  exact good
theorem zip3_of {prog:Program} {w:World} {A:Around} {E:Value->Shared->Prop} {s:Shared} {l1 l2 l3:Addr} {xs ys zs:Array Value} {Q:Value->Shared->Prop} (q1:IsSqB false s.heap l1 xs) (q2:IsSqB false s.heap l2 ys) (q3:IsSqB false s.heap l3 zs)
  (h:∀ h',IsZip h' (s.heap.objs.size+5) (s.heap.objs.size+3) (s.heap.objs.size+4) .none->IsTrip h' (s.heap.objs.size+3) (.ref s.heap.objs.size) (.ref (s.heap.objs.size+1)) (.ref (s.heap.objs.size+2))->IsTrip h' (s.heap.objs.size+4) .none .none .none->IsItB false h' s.heap.objs.size l1 0->IsItB false h' (s.heap.objs.size+1) l2 0->IsItB false h' (s.heap.objs.size+2) l3 0->
   (∀ c o,s.heap.get? c=some o->h'.get? c=some o)->Q (.ref (s.heap.objs.size+5)) { s with heap:=h' }):wpAny (model prog w) A (call (.type "zip") [.ref l1,.ref l2,.ref l3]) Q E s:=by
 have sz:∀ (h:Heap) o,(h.push o).objs.size=h.objs.size+1:=fun _ _=>E2 ..
 have g0:∀ (h:Heap) (o:Obj) (n:Nat),h.objs.size=n->o.isFreed=false->(h.push o).get? n=some o:=fun h o n e f=>e ▸ Em h f
 have up:∀ {h:Heap} {o o':Obj} {c:Addr},h.get? c=some o->(h.push o').get? c=some o:=fun q=>D6 _ q
 have a1:IsZip (zH3 s.heap l1 l2 l3) (s.heap.objs.size+5) (s.heap.objs.size+3) (s.heap.objs.size+4) .none:=g0 _ _ _ (by simp only [sz]) rfl
 have a2:IsTrip (zH3 s.heap l1 l2 l3) (s.heap.objs.size+3) (.ref s.heap.objs.size) (.ref (s.heap.objs.size+1)) (.ref (s.heap.objs.size+2)):=up (up (g0 _ _ _ (by simp only [sz]) rfl))
 have a3:IsTrip (zH3 s.heap l1 l2 l3) (s.heap.objs.size+4) .none .none .none:=up (g0 _ _ _ (by simp only [sz]) rfl)
 have f0:∀ b l,(itB b l).isFreed=false:=fun _ _=>rfl
 have a4:(zH3 s.heap l1 l2 l3).get? s.heap.objs.size=some (itB false l1):=up (up (up (up (up (g0 _ _ _ rfl (f0 _ _))))))
 have a5:(zH3 s.heap l1 l2 l3).get? (s.heap.objs.size+1)=some (itB false l2):=up (up (up (up (g0 _ _ _ (by simp only [sz]) (f0 _ _)))))
 have a6:(zH3 s.heap l1 l2 l3).get? (s.heap.objs.size+2)=some (itB false l3):=up (up (up (g0 _ _ _ (by simp only [sz]) (f0 _ _))))
 have a7:∀ c o,s.heap.get? c=some o->(zH3 s.heap l1 l2 l3).get? c=some o:=fun c o q=>up (up (up (up (up (up q)))))
 refine callType_new F.called_zip (by decide) (F.typeCall_zip_3 _ _ _) (F.newCall_zip_3 _ _ _) (fun x=>F.args_object_init_4 x _ _ _) F.entry_zip_new (made_zip3 l1 l2 l3 xs ys zs) ⟨q1,q2,q3,?_⟩
 exact ⟨⟨_,a1,rfl⟩,h _ a1 a2 a3 ⟨_,a4,rfl,rfl⟩ ⟨_,a5,rfl,rfl⟩ ⟨_,a6,rfl,rfl⟩ a7⟩
end PySem
namespace PySem
section
variable {prog:Program} {w:World} {A:Around} {E:Value->Shared->Prop} {s:Shared}
theorem pyNext_zip3_item {n l1 l2 l3:Nat} (hl1:l1 < n) (hl2:l2 < n) (hl3:l3 < n) {k:Nat} {xs ys zs:Array Value} {x y v a b c:Value} {Q:Option Value->Shared->Prop} (hz:IsZip s.heap (n+5) (n+3) (n+4) .none) (hTI:IsTrip s.heap (n+3) (.ref n) (.ref (n+1)) (.ref (n+2))) (hTO:IsTrip s.heap (n+4) a b c)
  (h1:IsItB false s.heap n l1 k) (h2:IsItB false s.heap (n+1) l2 k) (h3:IsItB false s.heap (n+2) l3 k) (q1:IsSqB false s.heap l1 xs) (q2:IsSqB false s.heap l2 ys) (q3:IsSqB false s.heap l3 zs) (hx:xs[k]?=some x) (hy:ys[k]?=some y) (hv:zs[k]?=some v)
  (hQ:∀ h',IsZip h' (n+5) (n+3) (n+4) (rawInt s.heap.objs.size)->IsTrip h' (n+4) x y v->IsItB false h' n l1 (k+1)->IsItB false h' (n+1) l2 (k+1)->IsItB false h' (n+2) l3 (k+1)->IsTrip h' s.heap.objs.size x y v->
   (∀ c o,c≠n+5->c≠n+4->c≠n->c≠n+1->c≠n+2->s.heap.get? c=some o->h'.get? c=some o)->Q (some (.ref s.heap.objs.size)) { s with heap:=h' }):wpAny (model prog w) A (pyNext (.ref (n+5))) Q E s:=by
 have hT:s.TypeIs (.ref (n+5)) "zip":=⟨_,hz,rfl⟩
 unfold pyNext
 refine wpAny_bind (wpAny_attempt (wpAny_callSpecial?_slot (name:=Str.ofString "__next__") hT PySem.F.slot_zip_next (wpAny_call_entry PySem.F.slot_zip_next hT PySem.F.entry_zip_next ?_ (PySem.F.args_zip_next_1 _))))
 refine zip3_item (A:=A.in1) hl1 hl2 hl3 hz hTI hTO h1 h2 h3 q1 q2 q3 hx hy hv fun h' c1 c2 c3 c4 c5 c6 c7=>?_
 exact wpAny_pure (hQ h' c1 c2 c3 c4 c5 c6 c7)
theorem pyNext_zip3_end {n l1:Nat} (hl1:l1 < n) {k:Nat} {xs:Array Value} {a b c:Value} {Q:Option Value->Shared->Prop} (hh:A.handled=none) (hz:IsZip s.heap (n+5) (n+3) (n+4) .none) (hTI:IsTrip s.heap (n+3) (.ref n) (.ref (n+1)) (.ref (n+2))) (hTO:IsTrip s.heap (n+4) a b c)
  (h1:IsItB false s.heap n l1 k) (q1:IsSqB false s.heap l1 xs) (hx:xs[k]?=none)
  (hQ:∀ h',(∀ c o,c≠n+5->c≠n+4->c≠n->c≠n+1->c≠n+2->s.heap.get? c=some o->h'.get? c=some o)->Q none { s with heap:=h' }):wpAny (model prog w) A (pyNext (.ref (n+5))) Q E s:=by
 have hT:s.TypeIs (.ref (n+5)) "zip":=⟨_,hz,rfl⟩
 unfold pyNext
 refine wpAny_bind (wpAny_attempt (wpAny_callSpecial?_slot (name:=Str.ofString "__next__") hT PySem.F.slot_zip_next (wpAny_call_entry PySem.F.slot_zip_next hT PySem.F.entry_zip_next ?_ (PySem.F.args_zip_next_1 _))))
 refine zip3_end (A:=A.in1) hl1 (show A.in1.handled=none from hh) hz hTI hTO h1 q1 hx fun h' e k ex=>?_
 obtain ⟨o,ho,hc⟩:=ex
 refine wpAny_bind (wpAny_isInstance (T:="StopIteration") (b:=true) ⟨o,ho,hc⟩ isSubtype_stop ?_)
 exact wpAny_pure (hQ _ k)
end
end PySem
namespace L2
open PySem PySem.Spec PyProof.Rows
def wE (K:PySem.W.Frag) (l1 l2 l3:Addr):It:=
 ⟨fun i H=>∃ xs ys zs x y z,SqL K H l1 xs/\SqL K H l2 ys/\SqL K H l3 zs/\xs[i]?=some x/\ys[i]?=some y/\zs[i]?=some z,
  fun i H v H'=>∃ T x y z,v=.ref T/\H T=none/\H'=ax H T (.tup [x,y,z])/\(∀ xs,SqL K H l1 xs->xs[i]?=some x)/\(∀ ys,SqL K H l2 ys->ys[i]?=some y)/\∀ zs,SqL K H l3 zs->zs[i]?=some z,
  fun i H=>∃ xs,SqL K H l1 xs/\xs.length<=i⟩
theorem tO {P:Program} {w:World} {K:PySem.W.Frag} {elts:List Expr} {kt:Nat} {tp:Pos} {n l1 l2 l3:Nat} (hl1:l1 < n) (hl2:l2 < n) (hl3:l3 < n) :
  kD P w K (.Tuple elts kt tp) (wE K l1 l2 l3) [n+5,n+3,n+4,n,n+1,n+2] (n+5) (fun i h=>IsZip h (n+5) (n+3) (n+4) .none/\IsTrip h (n+3) (.ref n) (.ref (n+1)) (.ref (n+2))/\(∃ a b c,IsTrip h (n+4) a b c)/\IsItB false h n l1 i/\IsItB false h (n+1) l2 i/\IsItB false h (n+2) l3 i) where
 mem:=by simp
 obj:=fun i h st b hb=>by
  obtain ⟨hz,hTI,⟨a,c,d,hTO⟩,i1',i2',i3'⟩:=st
  obtain ⟨o1,h1,d1⟩:=i1'.some
  obtain ⟨o2,h2,d2⟩:=i2'.some
  obtain ⟨o3,h3,d3⟩:=i3'.some
  simp only [Ej,Es,or_false] at hb
  rcases hb with rfl|rfl|rfl|rfl|rfl|rfl
  ·exact ⟨_,hz,fun v q=>by cases q⟩
  ·exact ⟨_,hTI,fun v q=>by cases q⟩
  ·exact ⟨_,hTO,fun v q=>by cases q⟩
  ·exact ⟨_,h1,fun v q=>d1 v q⟩
  ·exact ⟨_,h2,fun v q=>d2 v q⟩
  ·exact ⟨_,h3,fun v q=>d3 v q⟩
 keep:=fun i h h' st k=>by
  obtain ⟨hz,hTI,⟨a,c,d,hTO⟩,h1,h2,h3⟩:=st
  exact ⟨k _ (by simp) _ hz,k _ (by simp) _ hTI,⟨a,c,d,k _ (by simp) _ hTO⟩,h1.at fun o e=>k _ (by simp) o e,h2.at fun o e=>k _ (by simp) o e,h3.at fun o e=>k _ (by simp) o e⟩
 item:=by
  intro X hP hw hK hc i pins s σ H E I hf st hg
  subst hP hw hK
  obtain ⟨xs,ys,zs,x,y,z,hx,hy,hz',ex,ey,ez⟩:=hg
  obtain ⟨hz,hTI,⟨a,c,d,hTO⟩,h1,h2,h3⟩:=st
  obtain ⟨its1,rv1,p1⟩:=I.seqB (b:=false) hx
  obtain ⟨its2,rv2,p2⟩:=I.seqB (b:=false) hy
  obtain ⟨its3,rv3,p3⟩:=I.seqB (b:=false) hz'
  obtain ⟨u1,eu1,ru1⟩:=rv1.get ex
  obtain ⟨u2,eu2,ru2⟩:=rv2.get ey
  obtain ⟨u3,eu3,ru3⟩:=rv3.get ez
  refine pyNext_zip3_item hl1 hl2 hl3 hz hTI hTO h1 h2 h3 p1 p2 p3 (x:=u1) (y:=u2) (v:=u3) (by simpa using eu1) (by simpa using eu2) (by simpa using eu3) fun h' a1 a2 a3 a4 a5 a6 a7=>⟨_,rfl,?_⟩
  refine wpAny_letOwnedTupleGo_zip a1 fun h'' b1 b2=>?_
  have hT:H s.heap.objs.size=none:=I.hok.fresh (Ec _)
  have low:∀ b o,s.heap.get? b=some o->b≠s.heap.objs.size:=fun b o e=>Ey (Ef e)
  refine ⟨.ref s.heap.objs.size,ax H s.heap.objs.size (.tup [x,y,z]),?_,rfl,⟨s.heap.objs.size,x,y,z,rfl,hT,rfl,fun xs' h=>by rw [I.list_inj h hx];exact ex,fun ys' h=>by rw [I.list_inj h hy];exact ey,fun zs' h=>by rw [I.list_inj h hz'];exact ez⟩,?_,fun b hb=>?_⟩
  ·show Inv X pins σ (ax H s.heap.objs.size (.tup [x,y,z])) { s with heap:=h'',toks:=s.toks }
   refine Inv.turnedS (s:=s) (h':=h'') (t':=s.toks) (ch:=[n+5,n+4,n,n+1,n+2]) I (fun b hb=>hf b ?_) (fun b o hc e=>?_) (fun b o e=>by rw [ao (aG e hT)];exact e) (fun b hb m=>by rw [ao (Ey hb)];exact m) fun b o m e=>?_
   ·simp only [Ej,Es,or_false] at hb ⊢
    rcases hb with rfl|rfl|rfl|rfl|rfl<;>simp
   ·simp only [Ej,Es,or_false,not_or] at hc
    exact b2.extBut b o hc.1 (a7 b o hc.1 hc.2.1 hc.2.2.1 hc.2.2.2.1 hc.2.2.2.2 e)
   ·by_cases eb:b=s.heap.objs.size
    ·subst eb
     rw [ad] at e
     cases e
     refine ⟨by show 3<=sizeLine;decide,[u1,u2,u3],.cons ru1 (.cons ru2 (.cons ru3 .nil)),_,b2.extBut _ _ ?_ a6,rfl,_,rfl⟩
     exact fun q=>low _ _ hz q.symm
    ·rw [ao eb,m] at e
     cases e
  ·refine ⟨b1,b2.extBut _ _ (ane (by omega)) (a7 _ _ (ane (by omega)) (ane (by omega)) (ane (by omega)) (ane (by omega)) (ane (by omega)) hTI),⟨_,_,_,b2.extBut _ _ (ane (by omega)) a2⟩,a3.at fun o e=>b2.extBut _ o (ane (by omega)) e,a4.at fun o e=>b2.extBut _ o (ane (by omega)) e,a5.at fun o e=>b2.extBut _ o (ane (by omega)) e⟩
  ·have m:=(hf b hb).1
   have:b≠s.heap.objs.size:=by
    simp only [Ej,Es,or_false] at hb
    obtain ⟨_,q1,_⟩:=h1.some
    obtain ⟨_,q2,_⟩:=h2.some
    obtain ⟨_,q3,_⟩:=h3.some
    rcases hb with rfl|rfl|rfl|rfl|rfl|rfl
    ·exact low _ _ hz
    ·exact low _ _ hTI
    ·exact low _ _ hTO
    ·exact low _ _ q1
    ·exact low _ _ q2
    ·exact low _ _ q3
   rw [ao this]
   exact m
 done:=by
  intro X hP hw hK hc i pins s σ H E I hf st hg
  subst hP hw hK
  obtain ⟨xs,hx,hl⟩:=hg
  obtain ⟨hz,hTI,⟨a,c,d,hTO⟩,h1,h2,h3⟩:=st
  obtain ⟨its1,rv1,p1⟩:=I.seqB (b:=false) hx
  have e1:=rv1.length
  have hend:its1.toArray[i]?=none:=by simp;omega
  refine pyNext_zip3_end hl1 (I.ok.hd hc) hz hTI hTO h1 p1 hend fun h' k=>⟨rfl,?_⟩
  refine I.turnedS (t':=s.toks) (ch:=[n+5,n+4,n,n+1,n+2]) (fun b hb=>hf b ?_) (fun b o hc e=>?_) (fun b o e=>e) (fun b hb m=>m) fun b o m e=>?_
  ·simp only [Ej,Es,or_false] at hb ⊢
   rcases hb with rfl|rfl|rfl|rfl|rfl<;>simp
  ·simp only [Ej,Es,or_false,not_or] at hc
   exact k b o hc.1 hc.2.1 hc.2.2.1 hc.2.2.2.1 hc.2.2.2.2 e
  ·rw [m] at e;cases e
 self:=fun _ _ _ _ _ st h=>wpAny_pyIter_zip st.1 h
section
variable {X:Cx}
inductive wF (K:PySem.W.Frag) (R:It->Hp->Prop) (vs:List V) (H1:Hp):Prop
 | mk (l1 l2 l3:_):vs=[.ref l1,.ref l2,.ref l3]->(∃ xs,SqL K H1 l1 xs)->(∃ ys,SqL K H1 l2 ys)->(∃ zs,SqL K H1 l3 zs)->R (wE K l1 l2 l3) H1->wF K R vs H1
def Cg (K:PySem.W.Frag) (ta:TA):TI:=fun σ H R=>ta σ H fun vs H1=>wF K R vs H1
theorem yr {elts:List Expr} {kt:Nat} {tp:Pos} {a b c:Expr} {ta:TA} {p pos:Pos} (hg:Gl X "zip") (hm:X.mg "zip"=none) (ha:PA X [a,b,c] ta) (hs:starEach [a,b,c] X.env=[(false,eval a X.env),(false,eval b X.env),(false,eval c X.env)]:=by rfl) (hs2:starEach [b,c] X.env=[(false,eval b X.env),(false,eval c X.env)]:=by rfl) :
  PI X (.Tuple elts kt tp) (.Call (.Name "zip" p) [a,b,c] [] pos) (Cg X.K ta):=by
 refine ⟨?_⟩
 intro pins s σ H R I h
 refine Call_ (ff I hg hm nK (EV (bK (ha pos pins s σ H _ I h) fun us s1 ⟨vs,H1,I1,r1,q1⟩=>?_) (by rw [hs,hs2]) (by rw [hs2];rfl)))
 obtain ⟨l1,l2,l3,e,⟨xs,hx⟩,⟨ys,hy⟩,⟨zs,hz⟩,q⟩:=q1
 subst e
 cases r1 with
 | cons r rr=>
  cases rr with
  | cons r' rr=>
   cases rr with
   | cons r'' rr=>
   cases rr
   cases r
   cases r'
   cases r''
   obtain ⟨its1,rv1,p1⟩:=I1.seqB (b:=false) hx
   obtain ⟨its2,rv2,p2⟩:=I1.seqB (b:=false) hy
   obtain ⟨its3,rv3,p3⟩:=I1.seqB (b:=false) hz
   refine zip3_of p1 p2 p3 fun h' a1 a2 a3 a4 a5 a6 a7=>?_
   refine wpAny_pyIter_zip a1 ?_
   have lt1:=gq p1
   have lt2:=gq p2
   have lt3:=gq p3
   refine ⟨_,[s1.heap.objs.size+5,s1.heap.objs.size+3,s1.heap.objs.size+4,s1.heap.objs.size,s1.heap.objs.size+1,s1.heap.objs.size+2],_,_,H1,rfl,I1.kept (t':=s1.toks) a7,tO lt1 lt2 lt3,⟨a1,a2,⟨_,_,_,a3⟩,a4,a5,a6⟩,fun b hb=>?_,q⟩
   have hb':s1.heap.objs.size<=b:=by
    simp only [Ej,Es,or_false] at hb
    rcases hb with e|e|e|e|e|e<;>rw [e]
    ·exact Nat.le_add_right _ _
    ·exact Nat.le_add_right _ _
    ·exact Nat.le_add_right _ _
    ·exact Ec _
    ·exact Nat.le_add_right _ _
    ·exact Nat.le_add_right _ _
   exact I1.fpOk hb' (I1.hok.fresh hb')
end
theorem wG {K:PySem.W.Frag} {l1 l2 l3:Addr} {xs ys zs:List V} {g:TG} {tb:TS} {D:Ends} {σ:St} {H:Hp} (hxy:xs.length=ys.length) (hxz:xs.length=zs.length) (Pv:Nat->St->Hp->Prop) (h0:Pv 0 σ H) (hl:∀ i σ H,i<=xs.length->Pv i σ H->SqL K H l1 xs/\SqL K H l2 ys/\SqL K H l3 zs)
  (hs:∀ i x y z σ H T,xs[i]?=some x->ys[i]?=some y->zs[i]?=some z->H T=none->Pv i σ H->g (.ref T) σ (ax H T (.tup [x,y,z])) fun σ2 H2=>tb { D with nx:=Pv (i+1),ct:=Pv (i+1),bk:=D.nx } σ2 H2) (hd:∀ σ H,Pv xs.length σ H->D.nx σ H) :
  ∃ W:Nat->Nat->St->Hp->Prop,(∃ m,W 0 m σ H)/\∀ i m σ H,W i m σ H->
   ((wE K l1 l2 l3).stop i H/\D.nx σ H)\/((wE K l1 l2 l3).go i H/\∃ N:St->Hp->Prop,(∀ σ' H',N σ' H'->∃ m',m' < m/\W (i+1) m' σ' H')/\∀ x H',(wE K l1 l2 l3).yld i H x H'->g x σ H' fun σ2 H2=>tb { D with nx:=N,ct:=N,bk:=D.nx } σ2 H2):=by
 refine ⟨fun i m σ H=>m=xs.length - i/\i<=xs.length/\Pv i σ H,⟨xs.length,by simp,EM _,h0⟩,?_⟩
 rintro i m σ H ⟨rfl,hi,p⟩
 obtain ⟨q1,q2,q3⟩:=hl i σ H hi p
 by_cases hlt:i < xs.length
 ·have hlt2:i < ys.length:=by omega
  have hlt3:i < zs.length:=by omega
  refine .inr ⟨⟨xs,ys,zs,xs[i],ys[i],zs[i],q1,q2,q3,by simp [hlt],by simp [hlt2],by simp [hlt3]⟩,Pv (i+1),fun σ' H' p'=>⟨xs.length - (i+1),by omega,rfl,hlt,p'⟩,fun x H' y=>?_⟩
  obtain ⟨T,x1,y1,z1,rfl,hT,rfl,ex,ey,ez⟩:=y
  exact hs i x1 y1 z1 σ H T (ex xs q1) (ey ys q2) (ez zs q3) hT p
 ·have e:i=xs.length:=by omega
  subst e
  exact .inl ⟨⟨xs,q1,Ec _⟩,hd σ H p⟩
end L2
namespace L3
open PySem L2
abbrev m7:Stmt:=cY 103
def rE:Sp:=fun vs H Q _=>∃ d line D fn kvs lf lp lm lk lg ks,∃ n:Nat,vs=[.ref d,.str line,.int n]/\KpV H d D fn kvs lf lp lm lk lg ks/\fK D fn/\(cp line).length<=1000/\(∀ c∈cp line,c < 128)/\n<=1000/\∀ H',Same H H'->Q (.bl (dO D n line).isSome) H'
theorem m8 {α β:Type} {f:α->β->Bool}:∀ {a:List α} {b:List β},a.length=b.length->(fH f a b=true↔∀ (m:Nat) x y,a[m]?=some x->b[m]?=some y->f x y=true)
 | [],[],_=>⟨fun _ m x y h=>by simp at h,fun _=>rfl⟩
 | [],_::_,h=>by cases h
 | _::_,[],h=>by cases h
 | x::a,y::b,h=>by
  have ih:=m8 (f:=f) (a:=a) (b:=b) (Nat.succ.inj h)
  show (f x y && fH f a b)=true↔_
  rw [EB,ih]
  constructor
  ·rintro ⟨h1,h2⟩ m u v e1 e2
   cases m with
   | zero=>cases e1;cases e2;exact h1
   | succ m=>exact h2 m u v e1 e2
  ·exact fun h=>⟨h 0 x y rfl rfl,fun m u v e1 e2=>h (m+1) u v e1 e2⟩
theorem i9 {x z:Str} {c:Nat} (h:z∈Txt.split x (S [32])) (hc:c∈cp z):c∈cp x:=by
 have e:=StrLaws.join_split x (S [32])
 rw [<-gD (Txt.split x (S [32])),dI] at e
 have key:∀ (ts:List (List Nat)) {t:List Nat},t∈ts->c∈t->c∈TK.jn [32] ts:=by
  intro ts
  induction ts with
  | nil=>intro t ht;cases ht
  | cons u r ih=>
   intro t ht hc
   cases r with
   | nil=>rw [EG.mp ht] at hc;exact hc
   | cons v r=>
    show c∈u++([32]++TK.jn [32] (v::r))
    rcases Ej.mp ht with rfl|ht
    ·exact Fj _ hc
    ·exact EH _ (EH _ (ih ht hc))
 rw [<-e,ej]
 exact key _ (List.mem_map_of_mem (f:=cp) h) hc
theorem rF {x:Str} (h:∀ c∈cp x,c < 128):DD x=true:=by
 show x.cps.all (fun c=>decide (c < 0x110000))=true
 rw [Array.all_eq_true_iff_forall_mem]
 intro c hc
 have:=h c (by simpa [cp] using hc)
 exact decide_eq_true (by omega)
theorem kA:∀ {l:List Str},(∀ z∈l,∀ c∈cp z,c < 128)->PyData.canLayAll0 (l.map PyData.str)=true
 | [],_=>by simp [PyData.canLayAll0]
 | z::l,h=>by
  have a:(PyData.str z).canLay0=true:=rF (h z Ea)
  simp only [Ek,PyData.canLayAll0,a,kA (fun z hz=>h z (Ee _ hz)),Bool.and_self]
theorem nc {K:PySem.W.Frag} {H:Hp}:∀ l:List Str,DtAll K H (ae l) (l.map PyData.str)
 | []=>.nil
 | z::l=>.cons (.str _) (nc l)
theorem yt:∀ z∈di,∀ c∈cp z,c < 128:=by decide +kernel
section
variable {P:Program} {w:World} {K:PySem.W.Frag} {mg:Str->Option Value} {base:Heap}
theorem scLG:ay ["_law_table","_law_line_here","_law_rows","_law_words","_law_some","_law_sort","_law_word_here","_law_bound"] ["_law_table","_law_line_here","_law_rows"] (am m7):=⟨rfl,rfl,rfl,by decide +kernel,rfl,by decide +kernel,by decide +kernel⟩
theorem Ch:(["_law_name","_law_sorts","_law_words"]:List Str).Nodup:=by decide +kernel
set_option maxHeartbeats 8000000 in
theorem wH {f:Addr} {fd:FuncData} (F:Fun K "_law_line_good" "_law_line_good" m7 f fd) (B:Bl mg) (B4:AR mg) (BD:Fn P w K mg base "_law_bounds" 2 ["_law_table","_law_sorts","_law_rows"] iI) (LN:Fn P w K mg base "_law_number" 1 ["_law_word_here","_law_most"] qm):aN P w K mg base cj 3 f fd ["_law_table","_law_line_here","_law_rows"] rE:=by
 refine F.ok scLG (fun vs H Q E h=>?_) (fun cdv A outer s H vs Q E hr h=>?_)
 ·obtain ⟨d,line,D,fn,kvs,lf,lp,lm,lk,lg,ks,n,rfl,_⟩:=h
  rfl
 ·obtain ⟨d,line,D,fn,kvs,lf,lp,lm,lk,lg,ks,n,rfl,hK,hO,hln,hsg,hn,q⟩:=h
  have hr1:Room 1 _:=hr.mono (by decide)
  have hu:=hJ hr
  have sz:(100000:Nat)<=sizeLine:=by decide
  refine ⟨_,af (aw (i:=3) scLG.nd rfl (Or.inr rfl) (bX EE PySem.F.slot_str_split PySem.F.type_str_split dv (pv 1) (aa ak ac)))
   (af (eZ (i:=4) scLG.nd rfl rfl (N':=["_law_name","_law_sorts","_law_words"]) (ix:=[none,none,some 3]) (sc0:=am m7) (N:=["_law_table","_law_line_here","_law_rows","_law_words","_law_some","_law_sort","_law_word_here","_law_bound"]) rfl (by decide +kernel) (dP (br hu (pv 0) ak (fun _ _=>rfl)))
    (fun C' cl s H fp=>dE (K:=K) (n:=2) rfl rfl (az (ar (i:=0) Ch rfl (Or.inl rfl) (.inr rfl)) (az (ar (i:=1) Ch rfl (Or.inl rfl) (.inr rfl)) bD)))
    (fun C' cl s H fp=>md (aq bO (pv 0) (aP (ka (K:=K) rfl) (pv 2) aj (fun _ _=>rfl)) (aB _)))
    (fun C' cl s H fp=>pv 1))
   (af (aT (PW.pt (dF (aq (op_eqD hr) (pv 4) (aV ac) (aB _)) (cZ (aq iw (au aA (by rfl) B.len Ei (aa (aP aK (pv 4) aj (fun _ _=>rfl)) ac)) (aH dX (au aA (by rfl) B.len Ei (aa (pv 3) ac)) aj) (aB _))))) (ai (av eO)) aI)
   (af (cS PassesOwn.never rfl (yr rfl B4.zip (aa (aP aK (pv 4) aj (fun _ _=>rfl)) (aa (ci dQ (pv 3) (bZ aj) dD) (aa (aC BD hr rfl (aa (pv 0) (aa (aP aK (pv 4) aj (fun _ _=>rfl)) (aa (pv 2) ac)))) ac)))) (c0 rfl (az (ar (i:=5) scLG.nd rfl (Or.inl rfl)) (az (ar (i:=6) scLG.nd rfl (Or.inl rfl)) (az (ar (i:=7) scLG.nd rfl (Or.inl rfl)) bD))))
    (af (aT (PW.pt (cE (aq cI (pv 5) (aV (aa ak (aa ak ac))) rfl) (ck (aq cJ (pv 6) (br hu (pv 0) (aH bT (pv 5) ak) (fun _ _=>rfl)) rfl)))) (ai (av eO)) aI)
    (ai (aT (PW.pt (cE (aq cI (pv 5) (aV (aa ak (aa ak ac))) rfl) (ck (cQ (cO (aC LN hr1 rfl (aa (pv 6) (aa (aH dX (pv 7) aj) ac)))))))) (ai (av eO)) aI))))
   (ai (av eO))))),?_⟩
  have lcl:(cp line).length=line.length:=by show line.cps.toList.length=line.cps.size;simp
  refine ⟨_,rfl,rfl,line,_,rfl,rfl,by decide +kernel,by omega,fun lw nw=>?_⟩
  have wle:∀ z∈Txt.split line " ",(cp z).length<=1000/\∀ c∈cp z,c < 128:=fun z hz=>by
   rw [i6] at hz
   exact ⟨Ew (kr hz) hln,fun c hc=>hsg c (i9 hz hc)⟩
  unfold dO at q
  cases hsp:Txt.split line " " with
  | nil=>exact absurd hsp (eB _ _)
  | cons k ws=>
  rw [hsp] at q wle
  dsimp only at q
  have s1:=ag (o:=.lst ((k::ws).map V.str)) nw
  have ew:(ax H lw (.lst ((k::ws).map V.str))) lw=some (.lst ((k::ws).map V.str)):=ad
  generalize ax H lw (.lst ((k::ws).map V.str))=H1 at *
  have K1:=hK.same s1
  refine ⟨_,rfl,d,_,rfl,bv K1.dd K1.v7,lk,rfl,⟨_,SqL.of K1.ek⟩,?_⟩
  have k8:=hO.fm.k8
  have lks:=K1.kd.length
  refine gM (K:=K) (a:=lk) (xs:=ks) (fun i ys H'=>H'=H1/\((ys=[]/\∀ m,m < i->(D.kinds.map Kn.name)[m]?≠some k)\/∃ j x lj,j < i/\ys=[.ref lj]/\D.kinds[j]?=some x/\x.name=k/\H1 lj=some (.lst (ae (x.fs.map (·.2)))))) ⟨rfl,.inl ⟨rfl,fun m hm=>by omega⟩⟩ (fun i ys H' hi ⟨a1,a2⟩=>by
    subst a1
    refine ⟨SqL.of K1.ek,?_⟩
    rcases a2 with ⟨rfl,_⟩|⟨_,_,_,_,rfl,_⟩
    ·exact EM _
    ·show 1<=sizeLine
     omega) ?_ ?_
  ·rintro i z ys H' hz ⟨rfl,hy⟩
   obtain ⟨y,hyk,py,ly,rfl,hpy,hly⟩:=gV K1.kd hz
   have hlt:=(D7.mp hz).1
   have hin:(D.kinds.map Kn.name)[i]?=some y.name:=by rw [Eb,hyk];rfl
   refine ⟨py,_,rfl,SqT.of hpy,rfl,_,_,rfl,_,_,rfl,rfl,⟨rfl,trivial⟩,?_⟩
   refine ⟨_,rfl,_,rfl,lw,_,_,_,rfl,rfl,SqL.of ew,gC,rfl,_,rfl,eD (fun hb=>?_) (fun hb=>?_)⟩
   ·have hyn:y.name=k:=V.str.inj (of_decide_eq_true hb)
    refine ⟨_,rfl,Nx.mk hlt ⟨rfl,.inr ?_⟩⟩
    rcases hy with ⟨rfl,_⟩|⟨j,x,lj,hj,rfl,hjx,hxn,_⟩
    ·exact ⟨i,y,ly,by omega,rfl,hyk,hyn,hly⟩
    ·exfalso
     have h2:(D.kinds.map Kn.name)[j]?=some k:=by rw [Eb,hjx];exact congrArg some hxn
     have:=wD hO.fm.kn h2 (hyn ▸ hin)
     omega
   ·have hyn:y.name≠k:=fun e=>hb (decide_eq_true (congrArg V.str e))
    refine Nx.mk hlt ⟨rfl,?_⟩
    rcases hy with ⟨rfl,hall⟩|⟨j,x,lj,hj,rfl,hjx,hxn,hl⟩
    ·refine .inl ⟨rfl,fun m hm e=>?_⟩
     by_cases em:m=i
     ·subst em
      rw [hin] at e
      exact hyn (Eg e)
     ·exact hall m (by omega) e
    ·exact .inr ⟨j,x,lj,by omega,rfl,hjx,hxn,hl⟩
  rintro ys H' ⟨rfl,hy⟩ ls nls
  have s2:=ag (o:=.lst ys) nls
  have es:(ax H' ls (.lst ys)) ls=some (.lst ys):=ad
  generalize ax H' ls (.lst ys)=H2 at *
  have ew2:=s2 _ _ ew
  refine ⟨_,rfl,(by show 0<=sizeLine;decide),fun l0 n0=>?_⟩
  have s3:=ag (o:=.lst []) n0
  have e0:(ax H2 l0 (.lst [])) l0=some (.lst []):=ad
  generalize ax H2 l0 (.lst ([]:List V))=H3 at *
  have es3:=s3 _ _ es
  have ew3:=s3 _ _ ew2
  have s03:=(s1.trans s2).trans s3
  rcases hy with ⟨rfl,hall⟩|⟨j,x,lj,hj,rfl,hjx,hxn,hlj⟩
  ·have ef:D.kinds.find? (fun x=>decide (x.name=k))=none:=by
    refine List.find?_eq_none.mpr fun x hx=>?_
    obtain ⟨j,hj⟩:=j4 hx
    have:=(D7.mp hj).1
    intro hd
    exact hall j (by omega) (by rw [Eb,hj];exact congrArg some (of_decide_eq_true hd))
   rw [ef] at q
   refine ⟨.list [],.list [],.lst (SqL.of es3) .nil,.lst (SqL.of e0) .nil,by decide +kernel,by decide +kernel,by decide +kernel,_,rfl,?_⟩
   exact bB (by decide +kernel) (q _ s03)
  have hx:=Ex hjx
  have ef:D.kinds.find? (fun x=>decide (x.name=k))=some x:=by
   cases e:D.kinds.find? (fun x=>decide (x.name=k)) with
   | none=>exact absurd (decide_eq_true hxn) (List.find?_eq_none.mp e x hx)
   | some y=>
    have h1:y.name=k:=by simpa using List.find?_some e
    obtain ⟨m,hm⟩:=j4 (List.mem_of_find?_eq_some e)
    have h2:(D.kinds.map Kn.name)[m]?=some k:=by rw [Eb,hm];exact congrArg some h1
    have h3:(D.kinds.map Kn.name)[j]?=some k:=by rw [Eb,hjx];exact congrArg some hxn
    have:=wD hO.fm.kn h2 h3
    subst this
    rw [hm] at hjx
    exact hjx
  rw [ef] at q
  dsimp only at q
  clear hj
  have hlj3:=(s2.trans s3) _ _ hlj
  obtain ⟨st,efs,l3,hst⟩:=hO.kf x hx
  have est:x.fs.map (·.2)=st:=by rw [efs];exact cG fn st (by have:=hO.f3;omega)
  rw [est] at hlj3 hlj
  have fsl:x.fs.length=st.length:=by rw [<-est,D5]
  refine ⟨.list [.list (st.map PyData.str)],.list [],.lst (SqL.of es3) (.cons (.lst (SqL.of hlj3) (nc _)) .nil),.lst (SqL.of e0) .nil,?_,by decide +kernel,Ew (Nat.min_le_right _ _) (by decide +kernel),_,rfl,?_⟩
  ·have:=kA (l:=st) fun z hz=>yt z (hst z hz).1
   simp only [PyData.canLay0,PyData.canLayAll0,this,Bool.and_self]
  refine bi (by simp [PyData.eqv,PyData.eqvAll]) ?_
  refine ⟨_,rfl,ls,_,_,_,rfl,rfl,SqL.of es3,gC,lj,_,rfl,.inl (SqL.of hlj3),_,rfl,lw,_,rfl,.inl (SqL.of ew3),_,_,rfl,rfl,rfl,_,rfl,?_⟩
  have elen:((((k::ws).map V.str).length:Nat):Int) - 1=(ws.length:Int):=by rw [D5,D8];omega
  have elst:(((ae st).length:Nat):Int)=(st.length:Int):=by unfold ae;rw [D5]
  by_cases hl:ws.length=x.fs.length
  case neg=>
   rw [if_neg (fun z=>hl (ky z))] at q
   refine bB ?_ (q _ s03)
   rw [elen,elst]
   simp
   omega
  refine bi ?_ ?_
  ·rw [elen,elst]
   simp
   omega
  have q':∀ b,fH (cC D n) ws x.fs=b->∀ H',Same H H'->Q (.bl b) H':=fun b e H' s'=>by
   have:=q H' s'
   rw [e] at this
   cases b<;>exact this
  clear q
  refine ⟨_,rfl,ls,_,_,_,rfl,rfl,SqL.of es3,gC,_,rfl,_,rfl,lw,_,rfl,SqL.of ew3,fun lc nlc=>?_⟩
  have ecut:eX ((k::ws).map V.str) (some 1) none=ae ws:=by
   rw [show ((1:Int))=((1:Nat):Int) from rfl,lJ]
   rfl
  rw [ecut]
  have s4:=ag (o:=.lst (ae ws)) nlc
  have ec:(ax H3 lc (.lst (ae ws))) lc=some (.lst (ae ws)):=ad
  generalize ax H3 lc (.lst (ae ws))=H4 at *
  have s04:=s03.trans s4
  refine ⟨_,rfl,_,rfl,ls,_,_,_,rfl,rfl,SqL.of (s4 _ _ es3),gC,_,rfl,d,lj,D,fn,kvs,lf,lp,lm,lk,lg,ks,st,n,rfl,hK.same s04,hO.w24,s4 _ _ hlj3,fun z hz=>(hst z hz).1,by omega,fun lb H5 s5 nlb elb=>?_⟩
  have s05:=s04.trans s5
  have hlj5:=s5 _ _ (s4 _ _ hlj3)
  have ec5:=s5 _ _ ec
  refine ⟨lj,lc,lb,rfl,⟨_,SqL.of hlj5⟩,⟨_,SqL.of ec5⟩,⟨_,SqL.of elb⟩,?_⟩
  refine wG (K:=K) (l1:=lj) (l2:=lc) (l3:=lb) (xs:=ae st) (ys:=ae ws) (zs:=db (st.map (dM D n))) (by unfold ae;rw [D5,D5];omega) (by unfold ae db;rw [D5,D5,D5]) (fun i σ H'=>∃ v5 v6 v7:Option V,σ=[some (.ref d),some (.str line),some (.int (n:Nat)),some (.ref lw),some (.ref ls),v5,v6,v7]/\Same H5 H'/\∀ m,m < i->∀ z g,ws[m]?=some z->x.fs[m]?=some g->cC D n z g=true) ⟨_,_,_,rfl,Same.refl _,fun m hm=>by omega⟩ (fun i σ H' hi ⟨_,_,_,_,s',_⟩=>⟨SqL.of (s' _ _ hlj5),SqL.of (s' _ _ ec5),SqL.of (s' _ _ elb)⟩) ?_ ?_
  ·rintro i xv yv zv σ H6 T1 hxv hyv hzv nT ⟨v5,v6,v7,rfl,s6,hgd⟩
   obtain ⟨so,hso,rfl⟩:∃ g,st[i]?=some g/\xv=.str g:=by
    unfold ae at hxv
    rw [Eb] at hxv
    cases e:st[i]? with
    | none=>rw [e] at hxv;cases hxv
    | some g=>rw [e] at hxv;exact ⟨g,rfl,(Eg hxv).symm⟩
   obtain ⟨wd,hwd,rfl⟩:∃ g,ws[i]?=some g/\yv=.str g:=by
    unfold ae at hyv
    rw [Eb] at hyv
    cases e:ws[i]? with
    | none=>rw [e] at hyv;cases hyv
    | some g=>rw [e] at hyv;exact ⟨g,rfl,(Eg hyv).symm⟩
   have ez:zv=.int (dM D n so:Nat):=by
    unfold db at hzv
    rw [Eb,Eb,hso] at hzv
    exact (Eg hzv).symm
   subst ez
   obtain ⟨g,hg,eg⟩:∃ g,x.fs[i]?=some g/\g.2=so:=by
    rw [<-est,Eb] at hso
    cases e:x.fs[i]? with
    | none=>rw [e] at hso;cases hso
    | some g=>rw [e] at hso;exact ⟨g,rfl,Eg hso⟩
   subst eg
   obtain ⟨hsl,hmk⟩:=hst g.2 (Ex hso)
   obtain ⟨wl,wsg⟩:=wle wd (Ee _ (Ex hwd))
   have no:cC D n wd g=false->∀ H',Same H H'->Q (.bl false) H':=fun hb=>q' false (EY.mpr fun z=>by
    have:=(m8 hl).mp z i wd g hwd hg
    rw [hb] at this;cases this)
   have yes:cC D n wd g=true->∀ m,m < i+1->∀ z g,ws[m]?=some z->x.fs[m]?=some g->cC D n z g=true:=fun hb m hm z g' h1 h2=>by
    by_cases em:m=i
    ·subst em
     rw [hwd] at h1;rw [hg] at h2
     cases h1;cases h2
     exact hb
    ·exact hgd m (by omega) z g' h1 h2
   have s7:=ag (o:=.tup [.str g.2,.str wd,.int (dM D n g.2:Nat)]) nT
   refine ⟨T1,_,rfl,SqT.of ad,rfl,_,_,rfl,_,_,rfl,_,_,rfl,rfl,?_⟩
   generalize ax H6 T1 (.tup [V.str g.2,.str wd,.int (dM D n g.2:Nat)])=H7 at *
   have s57:=s6.trans s7
   refine ⟨_,rfl,(by show 2<=sizeLine;decide),fun a1 n1=>⟨a1,_,rfl,.inl (SqL.of ad),rfl,cc ["place","mark"],_,rfl,?_⟩⟩
   have s8:=ag (o:=.lst [.str "place",.str "mark"]) n1
   generalize ax H7 a1 (.lst [V.str "place",.str "mark"])=H8 at *
   have s58:=s57.trans s8
   have s08:=s05.trans s58
   have K8:=hK.same s08
   have ei:∀ l:List Str,iM (.str g.2) (ae l)=l.contains g.2:=fun l=>cW _ _
   by_cases hpm:g.2="place"\/g.2="mark"
   ·refine bB (by show iM (.str g.2) (ae ["place","mark"])=true;rw [ei];rcases hpm with e|e<;>rw [e]<;>decide +kernel) ?_
    obtain ⟨ll,L,hv,hll,hgw⟩:∃ (ll:Addr) (L:List Str),aY kvs (Sum.inr (g.2++"s"))=some (.ref ll)/\H8 ll=some (.lst (ae L))/\cC D n wd g=L.contains wd:=by
     rcases hpm with e|e
     ·refine ⟨lp,D.places,by rw [e];exact hK.v5,K8.ep,?_⟩
      unfold cC kB dM
      rw [if_pos e,if_pos e]
      exact wm _ _
     ·have ne:g.2≠"place":=by rw [e];decide +kernel
      refine ⟨lm,D.marks,by rw [e];exact hK.v6,K8.em,?_⟩
      unfold cC kB dM
      rw [if_neg ne,if_neg ne,if_pos e,if_pos e]
      exact wm _ _
    refine ⟨_,rfl,_,rfl,_,rfl,_,_,rfl,rfl,(by rcases hpm with e|e<;>rw [e]<;>decide +kernel),d,_,rfl,bv K8.dd hv,ll,_,rfl,.inl (SqL.of hll),rfl,cc _,_,rfl,?_⟩
    have ew':iM (.str wd) (ae L)=L.contains wd:=cW _ _
    cases hb:cC D n wd g with
    | false=>
     refine bB ?_ (no hb _ s08)
     show (!iM (.str wd) (ae L))=true
     rw [ew',<-hgw,hb];rfl
    | true=>
     refine bi ?_ ?_
     ·show (!iM (.str wd) (ae L))=false
      rw [ew',<-hgw,hb];rfl
     refine ⟨_,rfl,(by show 2<=sizeLine;decide),fun a2 n2=>⟨a2,_,rfl,.inl (SqL.of ad),rfl,cc ["number","row"],_,rfl,?_⟩⟩
     refine bi (by show iM (.str g.2) (ae ["number","row"])=false;rw [ei];rcases hpm with e|e<;>rw [e]<;>decide +kernel) ?_
     exact ⟨_,_,_,rfl,s58.trans (ag n2),yes hb⟩
   ·have n1:g.2≠"place":=fun e=>hpm (.inl e)
    have n2:g.2≠"mark":=fun e=>hpm (.inr e)
    have hnr:g.2="number"\/g.2="row":=by
     have h':g.2∈(["place","mark","number","row"]:List Str):=hsl
     simp only [Ej,Es,or_false] at h'
     rcases h' with e|e|e|e
     ·exact absurd e n1
     ·exact absurd e n2
     ·exact .inl e
     ·exact .inr e
    refine bi (by show iM (.str g.2) (ae ["place","mark"])=false;rw [ei];rcases hnr with e|e<;>rw [e]<;>decide +kernel) ?_
    refine ⟨_,rfl,(by show 2<=sizeLine;decide),fun a2 m2=>⟨a2,_,rfl,.inl (SqL.of ad),rfl,cc ["number","row"],_,rfl,?_⟩⟩
    refine bB (by show iM (.str g.2) (ae ["number","row"])=true;rw [ei];rcases hnr with e|e<;>rw [e]<;>decide +kernel) ?_
    have s9:=ag (o:=.lst [.str "number",.str "row"]) m2
    generalize ax H8 a2 (.lst [V.str "number",.str "row"])=H9 at *
    have w24:=hO.w24
    have hb1:1<=dM D n g.2/\dM D n g.2<=1000000000:=by
     unfold dM
     rw [if_neg n1,if_neg n2]
     rcases hnr with e|e
     ·rw [if_pos e]
      exact ⟨Nat.one_le_two_pow,Ew (Fe (by decide) w24) (by decide)⟩
     ·rw [if_neg (by rw [e];decide +kernel)]
      omega
    have hgw:cC D n wd g=ko (cp wd) (dM D n g.2 - 1):=by
     unfold cC kB
     rw [if_neg n1,if_neg n2]
     exact oC hb1.1 hb1.2
    refine ⟨_,rfl,_,rfl,_,_,rfl,rfl,cp wd,dM D n g.2 - 1,?_,wl,wsg,fun H10 s10=>?_⟩
    ·rw [dc]
     have:((dM D n g.2:Nat):Int) - 1=((dM D n g.2 - 1:Nat):Int):=by omega
     rw [<-this]
    have s510:=(s58.trans s9).trans s10
    rw [<-hgw]
    cases hb:cC D n wd g with
    | false=>exact ⟨_,rfl,gh (no hb _ (s05.trans s510))⟩
    | true=>exact ⟨_,rfl,cA ⟨_,_,_,rfl,s510,yes hb⟩⟩
  ·rintro σ H6 ⟨v5,v6,v7,rfl,s6,hgd⟩
   refine q' true ?_ _ (s05.trans s6)
   refine (m8 hl).mpr fun m z g h1 h2=>hgd m ?_ z g h1 h2
   have:=(D7.mp h2).1
   unfold ae
   rw [D5]
   omega
end
end L3
namespace L3
open PySem L2
abbrev Az:Stmt:=cY 104
def tP (D:Fm) (L:List Str):Nat ⊕ (Option Nat×List Rw):=cH D (if L=([""]:List Str) then [] else L)
def DH {α β:Type}:α ⊕ β->Option α
 | .inl m=>some m
 | .inr _=>none
def y8:Sp:=fun vs H Q _=>∃ d l L D fn kvs lf lp lm lk lg ks,vs=[.ref d,.ref l]/\KpV H d D fn kvs lf lp lm lk lg ks/\fK D fn/\H l=some (.lst (ae L))/\L≠[]/\L.length<=1000/\(∀ x∈L,(cp x).length<=1000/\∀ c∈cp x,c < 128)/\∀ H',Same H H'->Q (oV (DH (tP D L))) H'
theorem wI {n:Nat} {l:Str} (hn:n < 1000000000) (h:bU l=true):∃ ws,Txt.split l " "=("bell":Str)::ws/\(ws.length≠1->cB n l=none)/\∀ z,ws=[z]->(cB n l).isSome=ko (cp z) n:=by
 unfold bU at h
 have h:=of_decide_eq_true h
 rw [i6] at h ⊢
 have bk:=dC 32 l
 cases es:Txt.split l (S [32]) with
 | nil=>rw [es] at h;cases h
 | cons k ws=>
  rw [es] at h bk
  have hk:k="bell":=Eg h
  subst hk
  have e4:cp ("bell":Str)=[98,101,108,108]:=by decide +kernel
  rw [Ek,e4] at bk
  have bk':cp l=TK.jn [32] ([98,101,108,108]::ws.map cp):=by rw [<-bk,ej]
  refine ⟨ws,rfl,fun hw=>?_,fun z hz=>?_⟩
  ·unfold cB
   match ws,hw with
   | [],_=>
    have z:cp l=[98,101,108,108]:=bk'
    rw [z]
    rfl
   | u::v::r,_=>
    have z:cp l=[98,101,108,108]++([32]++(cp u++([32]++TK.jn [32] (cp v::r.map cp)))):=bk'
    have z2:(cp l).drop 5=cp u++([32]++TK.jn [32] (cp v::r.map cp)):=by rw [z];rfl
    have:gH ((cp l).drop 5)=none:=by
     unfold gH
     rw [if_neg]
     unfold fM
     rw [z2]
     have:(cp u++([32]++TK.jn [32] (cp v::r.map cp))).all ca=false:=by
      rw [List.all_append,List.all_append,show ([32]:List Nat).all ca=false from by decide,Bool.false_and,Bool.and_false]
     rw [this]
     simp
    rw [this]
  ·subst hz
   have z1:cp l=[98,101,108,108]++([32]++cp z):=bk'
   have z2:(cp l).drop 5=cp z:=by rw [z1];rfl
   unfold cB
   rw [z2]
   have e:=oC (l:=cp z) (b:=n+1) (by omega) (by omega)
   rw [Nat.add_sub_cancel] at e
   rw [<-e]
   cases gH (cp z) with
   | none=>rfl
   | some i=>
    show (if i<=n then some i else none).isSome=decide (i < n+1)
    by_cases hi:i<=n
    ·rw [if_pos hi,decide_eq_true (by omega)];rfl
    ·rw [if_neg hi,decide_eq_false (by omega)];rfl
section
variable {P:Program} {w:World} {K:PySem.W.Frag} {mg:Str->Option Value} {base:Heap}
theorem scDue:ay ["_law_table","_law_lines_here","_law_words","_law_first","_law_k"] ["_law_table","_law_lines_here"] (am Az):=⟨rfl,rfl,rfl,by decide +kernel,rfl,by decide +kernel,by decide +kernel⟩
set_option maxHeartbeats 8000000 in
theorem yu {f:Addr} {fd:FuncData} (F:Fun K "_law_due" "_law_due" Az f fd) (B:Bl mg) (LG:Fn P w K mg base "_law_line_good" 3 ["_law_table","_law_line_here","_law_rows"] rE) (LN:Fn P w K mg base "_law_number" 1 ["_law_word_here","_law_most"] qm):aN P w K mg base cj 4 f fd ["_law_table","_law_lines_here"] y8:=by
 refine F.ok scDue (fun vs H Q E h=>?_) (fun cdv A outer s H vs Q E hr h=>?_)
 ·obtain ⟨d,l,L,D,fn,kvs,lf,lp,lm,lk,lg,ks,rfl,_⟩:=h
  rfl
 ·obtain ⟨d,l,L,D,fn,kvs,lf,lp,lm,lk,lg,ks,rfl,hK,hO,hl,hne,hL,hsg,q⟩:=h
  have hr1:Room 1 _:=hr.mono (by decide)
  have sz:(100000:Nat)<=sizeLine:=by decide
  refine ⟨_,af (aT (aq (op_eqD hr) (pv 1) (aV (aa ak ac)) (aB _)) (ai (av cz)) aI)
   (af (aw (i:=2) scDue.nd rfl (Or.inl rfl) (bX EE PySem.F.slot_str_split PySem.F.type_str_split dv (aP aK (pv 1) aj (fun _ _=>rfl)) (aa ak ac)))
   (af (aw (i:=3) scDue.nd rfl (Or.inl rfl) (aM gL (by rfl) B.int EW (aa (cX bO (aP aK (pv 2) aj (fun _ _=>rfl)) ak (aB _)) ac)))
   (bR (fun σ H'=>∃ lw,σ=[some (.ref d),some (.ref l),some (.ref lw),some (.int (bC L:Nat)),none]/\Same H H'/\∃ bl,dB L (L.length - bC L)=some bl) (aT (PW.pt (cE (aq bO (pv 3) aj (aB _)) (ck (PW.pt (dF (aq iw (au aA (by rfl) B.len Ei (aa (pv 2) ac)) aj (aB _)) (cZ (cQ (cO (aC LN hr1 rfl (aa (aP aK (pv 2) aj (fun _ _=>rfl)) (aa (aH dX (au aA (by rfl) B.len Ei (aa (pv 1) ac)) aj) ac))))))))))) (ai (av aj)) aI)
   (af (cS PassesOwn.never rfl (rV rfl B.range (aa (pv 3) (aa (au aA (by rfl) B.len Ei (aa (pv 1) ac)) ac))) (ar (i:=4) scDue.nd rfl (Or.inl rfl))
    (ai (aT (PW.pt (dF (aq bO (aH dX (pv 4) (pv 3)) aj (aB _)) (cZ (cQ (cO (aC LG hr rfl (aa (pv 0) (aa (aP aK (pv 1) (pv 4) (fun _ _=>rfl)) (aa (aH dX (au aA (by rfl) B.len Ei (aa (pv 1) ac)) (pv 3)) ac))))))))) (ai (av (pv 4))) aI)))
   (ai (av cz)))))),?_⟩
  have lenL:((ae L).length:Int)=(L.length:Int):=by unfold ae;rw [D5]
  refine ⟨_,rfl,(by show 1<=sizeLine;decide),fun l0 n0=>?_⟩
  have s1:=ag (o:=.lst [.str ""]) n0
  have e0:(ax H l0 (.lst [.str ""])) l0=some (.lst [.str ""]):=ad
  generalize ax H l0 (.lst [V.str ""])=H1 at *
  have hl1:=s1 _ _ hl
  refine ⟨.list (L.map PyData.str),.list [.str ""],.lst (SqL.of hl1) (nc _),.lst (SqL.of e0) (.cons (.str _) .nil),?_,by decide +kernel,Ew (Nat.min_le_right _ _) (by decide +kernel),_,rfl,?_⟩
  ·have:=kA (l:=L) fun z hz=>(hsg z hz).2
   simp only [PyData.canLay0,this]
  cases L with
  | nil=>exact absurd rfl hne
  | cons l0' r=>
  have eqq:PyData.eqv (.list ((l0'::r).map PyData.str)) (.list [.str ""])=decide (l0'::r=([""]:List Str)):=by
   cases r with
   | nil=>
    simp [PyData.eqv,PyData.eqvAll]
    exact EX.mpr (by simp)
   | cons a b=>simp [PyData.eqv,PyData.eqvAll]
  rw [eqq]
  by_cases hE:l0'::r=([""]:List Str)
  ·refine bB (decide_eq_true hE) ?_
   have:=q H1 s1
   unfold tP at this
   rw [if_pos hE] at this
   exact this
  refine bi (decide_eq_false hE) ?_
  have ed:tP D (l0'::r)=cH D (l0'::r):=by unfold tP;rw [if_neg hE]
  rw [ed] at q
  obtain ⟨hl0,hs0⟩:=hsg l0' Ea
  have lc0:(cp l0').length=l0'.length:=by show l0'.cps.toList.length=l0'.cps.size;simp
  refine ⟨_,rfl,l,_,_,_,rfl,rfl,SqL.of hl1,gC,rfl,l0',_,rfl,rfl,by decide +kernel,by omega,fun lw nw=>?_⟩
  cases hsp:Txt.split l0' " " with
  | nil=>exact absurd hsp (eB _ _)
  | cons k ws=>
  have hbl:bU l0'=decide (k="bell"):=by
   unfold bU
   rw [hsp]
   simp
  have wle:∀ z∈k::ws,(cp z).length<=1000/\∀ c∈cp z,c < 128:=fun z hz=>by
   rw [<-hsp,i6] at hz
   exact ⟨Ew (kr hz) hl0,fun c hc=>hs0 c (i9 hz hc)⟩
  have s2:=ag (o:=.lst ((k::ws).map V.str)) nw
  have ew:(ax H1 lw (.lst ((k::ws).map V.str))) lw=some (.lst ((k::ws).map V.str)):=ad
  generalize ax H1 lw (.lst ((k::ws).map V.str))=H2 at *
  have s02:=s1.trans s2
  refine ⟨_,rfl,lw,_,_,_,rfl,rfl,SqL.of ew,gC,rfl,.inr ⟨_,rfl,?_⟩⟩
  have ea:(if decide (V.str k=V.str "bell") then (1:Int) else 0)=((bC (l0'::r):Nat):Int):=by
   show _=(((if bU l0'=true then 1 else 0:Nat)):Int)
   rw [hbl,y4]
   by_cases hk:k="bell"
   ·rw [decide_eq_true hk];rfl
   ·rw [decide_eq_false hk];rfl
  rw [ea]
  refine ⟨?_,?_⟩
  ·rintro σ H3 ⟨lw,rfl,s3,bl,hbl'⟩
   clear hbl ea ew hsp wle hE ed hl0 hs0 lc0 eqq
   generalize eL:l0'::r=L at *
   have al:bC L<=1:=by
    rw [<-eL]
    show (if bU l0'=true then 1 else 0)<=1
    split<;>omega
   have hLp:1<=L.length:=by rw [<-eL];simp
   have hprog:cH D L=match bV D (L.length - bC L) 0 (L.drop (bC L)) with|.inl m=>.inl (bC L+m)|.inr rs=>.inr (bl,rs):=by unfold cH;rw [hbl']<;>rfl
   rw [hprog] at q
   have hl3:=s3 _ _ hl
   generalize hah:bC L=ah at *
   generalize hnn:L.length - ah=n at *
   refine ⟨_,rfl,_,rfl,l,_,rfl,.inl (SqL.of hl3),_,_,rfl,⟨?_,?_,?_,?_⟩,?_⟩
   all_goals first|omega|skip
   have er:((((ae L).length:Nat):Int) - (ah:Nat)).toNat=n:=by rw [lenL];omega
   rw [er]
   refine gK (lo:=(ah:Nat)) (n:=n) (fun i σ H'=>∃ v4:Option V,∃ pre:List Rw,σ=[some (.ref d),some (.ref l),some (.ref lw),some (.int (ah:Nat)),v4]/\Same H H'/\i<=40/\bV D n 0 (L.drop ah)=wx pre (bV D n i (L.drop (ah+i)))) ⟨_,[],rfl,s3,by omega,by rw [Nat.add_zero];generalize bV D n 0 (L.drop ah)=z;cases z<;>rfl⟩ ?_ ?_
   ·rintro i σ H4 hi ⟨v4,pre,rfl,s4,h40,hg⟩
    have hlt:ah+i < L.length:=by omega
    obtain ⟨line,hri⟩:∃ g,L[ah+i]?=some g:=⟨_,El hlt⟩
    have edr:L.drop (ah+i)=line::L.drop (ah+(i+1)):=by rw [EQ hlt,(D7.mp hri).2];rfl
    rw [edr] at hg
    have bad:bV D n i (line::L.drop (ah+(i+1)))=.inl i->∀ H',Same H H'->Q (.int ((ah:Nat)+(i:Nat))) H':=fun e H' s'=>by
     have:=q H' s'
     rw [hg,e] at this
     exact this
    have hgt:(ae L)[ah+i]?=some (.str line):=by unfold ae;rw [Eb,hri];rfl
    obtain ⟨ll1,ls1⟩:=hsg line (Ex hri)
    refine ⟨_,rfl,_,rfl,_,_,rfl,rfl,rfl,_,rfl,?_⟩
    have e40:((ah:Nat):Int)+(i:Nat) - (ah:Nat)=(i:Nat):=by omega
    rw [e40]
    by_cases h4:i=40
    ·refine bB (decide_eq_true (by rw [h4];rfl)) ⟨_,rfl,bad ?_ _ s4⟩
     show (if i=40 then Sum.inl i else _)=_
     rw [if_pos h4]
    refine bi (decide_eq_false fun e=>by have:=V.int.inj e;omega) ?_
    refine ⟨_,rfl,_,rfl,_,rfl,l,_,_,_,rfl,rfl,SqL.of (s4 _ _ hl),bE hgt,_,rfl,l,_,rfl,.inl (SqL.of (s4 _ _ hl)),_,rfl,_,_,rfl,rfl,d,line,D,fn,kvs,lf,lp,lm,lk,lg,ks,n,?_,hK.same s4,hO,ll1,ls1,by omega,fun H5 s5=>?_⟩
    ·have:(((ae L).length:Nat):Int) - (ah:Nat)=(n:Nat):=by rw [lenL];omega
     rw [this]
    have s05:=s4.trans s5
    cases er:dO D n line with
    | none=>
     refine ⟨_,rfl,gh ⟨_,rfl,bad ?_ _ s05⟩⟩
     show (if i=40 then Sum.inl i else match dO D n line with|none=>Sum.inl i|some x=>match bV D n (i+1) (L.drop (ah+(i+1))) with|.inl m=>.inl m|.inr rs=>.inr (x::rs))=_
     rw [if_neg h4,er]
    | some x=>
     refine ⟨_,rfl,cA ⟨_,pre++[x],rfl,s05,by omega,by rw [hg,lK h4 er]⟩⟩
   ·rintro σ H4 ⟨v4,pre,rfl,s4,h40,hg⟩
    have:L.drop (ah+n)=[]:=List.drop_eq_nil_of_le (by omega)
    rw [this] at hg
    have hg':bV D n 0 (L.drop ah)=.inr (pre++[]):=hg
    have:=q H4 s4
    rw [hg'] at this
    exact this
  ·have hl2:=s02 _ _ hl
   refine ⟨_,rfl,rfl,_,rfl,?_⟩
   by_cases hk:k="bell"
   ·have hb1:bU l0'=true:=by rw [hbl,decide_eq_true hk]
    have ha1:bC (l0'::r)=1:=by show (if bU l0'=true then 1 else 0)=1;rw [if_pos hb1]
    rw [ha1]
    refine bB (decide_eq_true rfl) ?_
    obtain ⟨ws',e1,e2,e3⟩:=wI (n:=r.length) (by rw [D8] at hL;omega) hb1
    rw [hsp] at e1
    obtain ⟨_,rfl⟩:=Fv e1
    have hbo:dB (l0'::r) ((l0'::r).length - 1)=(cB r.length l0').map some:=by
     unfold dB
     rw [if_pos ha1]
     rfl
    have no:cB r.length l0'=none->∀ H',Same H H'->Q (.int 0) H':=fun e H' s'=>by
     have:=q H' s'
     unfold cH at this
     rw [ha1,hbo,e] at this
     exact this
    refine ⟨_,rfl,lw,_,rfl,.inl (SqL.of ew),rfl,_,rfl,?_⟩
    have elw:((((k::ws).map V.str).length:Nat):Int)=(ws.length:Int)+1:=by rw [D5,D8];rfl
    by_cases hw1:ws.length=1
    ·refine bi (by rw [elw,hw1];rfl) ?_
     obtain ⟨z,rfl⟩:∃ z,ws=[z]:=by
      match ws,hw1 with
      | [z],_=>exact ⟨z,rfl⟩
     obtain ⟨z1,z2⟩:=wle z (Ee _ Ea)
     refine ⟨_,rfl,lw,_,_,_,rfl,rfl,SqL.of ew,p9,_,rfl,l,_,rfl,.inl (SqL.of hl2),_,_,rfl,rfl,cp z,r.length,?_,z1,z2,fun H5 s5=>?_⟩
     ·rw [dc]
      have:(((ae (l0'::r)).length:Nat):Int) - 1=(r.length:Nat):=by rw [lenL,D8];omega
      rw [this]
     have s05:=s02.trans s5
     rw [<-e3 z rfl]
     cases eb:cB r.length l0' with
     | none=>exact ⟨_,rfl,gh (no eb _ s05)⟩
     | some i=>
      refine ⟨_,rfl,cA ⟨lw,rfl,s05,some i,?_⟩⟩
      rw [hbo,eb]
      rfl
    ·refine bB ?_ (no (e2 hw1) _ s02)
     rw [elw]
     simp
     omega
   ·have hb1:bU l0'=false:=by rw [hbl,decide_eq_false hk]
    have ha0:bC (l0'::r)=0:=by show (if bU l0'=true then 1 else 0)=0;rw [hb1];rfl
    rw [ha0]
    refine bi (by decide) (cA ⟨lw,rfl,s02,none,?_⟩)
    unfold dB
    rw [ha0]
    rfl
end
end L3
namespace L2
open PySem PySem.Spec PyProof.Rows
section
variable {X:Cx}
inductive Ci (x:V) (vs:List V) (H:Hp) (Q:VK):Prop
 | mk (l xs y:_) (i:Int):x=.ref l->vs=[.int i,y]->H l=some (.lst xs)->0<=i->i<=xs.length->xs.length<=100000->Q .non (ax H l (.lst (xs.take i.toNat++y::xs.drop i.toNat)))->Ci x vs H Q
theorem tQ:CW X "list.insert" Ci:=by
 intro pins s σ H x vs v us Q I rx rv h
 obtain ⟨l,xs,y,i,rfl,rfl,hH,h0,hi,h2,q⟩:=h
 cases rx
 have sz:(100001:Nat)<=sizeLine:=by decide
 obtain ⟨u1,u2,rfl,r1,r2⟩:=uk rv
 obtain ⟨t,rfl⟩:=r1
 obtain ⟨z,its,n,rr,hl,e⟩:=I.lstM hH
 have fit:Builtin.List.listFitsIndex i=true:=fitsIndex_both (by omega) (by omega)
 refine call_meets PySem.F.slot_list_insert ⟨_,e,rfl⟩ PySem.F.entry_list_insert (PySem.F.args_list_insert_3 _ _ _) (PySem.AutoSeq1.list_insert_list_int_val_1 l its.toArray n i t u2 (by simp [fit]) (by rw [En];omega)) ⟨e,?_⟩
 have e1:(if i < 0 then (i+(its.toArray.size:Int)).toNat else min i.toNat its.toArray.size)=i.toNat:=by
  rw [if_neg (by omega),En]
  omega
 refine ⟨.non,_,I.lset (its':=its.take i.toNat++u2::its.drop i.toNat) hH e ?_ ((rr.take i.toNat).append (.cons r2 (rr.drop i.toNat))) ?_,rfl,q⟩
 ·show (its.toArray.extract 0 (if i < 0 then (i+(its.toArray.size:Int)).toNat else min i.toNat its.toArray.size)).push u2++its.toArray.extract (if i < 0 then (i+(its.toArray.size:Int)).toNat else min i.toNat its.toArray.size)=_
  rw [e1]
  apply Array.ext'
  simp
  exact EC (by rw [EF];omega)
 ·rw [D9,D8,Eh,EF]
  omega
end
end L2
namespace L3
open PySem L2
def GS (n:Nat) (x:Str):Prop:=(cp x).length<=n/\∀ c∈cp x,c < 128/\c≠10
instance (n:Nat) (x:Str):Decidable (GS n x):=by unfold GS;infer_instance
theorem GS.le {n m:Nat} {x:Str} (h:GS n x) (hm:n<=m):GS m x:=⟨Ew h.1 hm,h.2⟩
theorem ja {n:Nat} (h:n < 1000000000):GS 40 (toString (n:Int):Str):=by
 rw [dk]
 refine ⟨?_,fun c hc=>?_⟩
 ·have:=(dZ n).2 9 (by decide) (by omega)
  rw [ej];omega
 ·rw [ej] at hc
  have:=j2 n c hc
  omega
theorem jy {z:Str} (h:NameS z):GS 40 z:=by
 obtain ⟨_,h1,h2,h3⟩:=h
 refine ⟨?_,fun c hc=>?_⟩
 ·have:(cp z).length=z.length:=by show z.cps.toList.length=z.cps.size;simp
  omega
 ·have:=h3 c hc
  omega
def jz (b:Nat):List Str:=["","0","00","01","-1","+1","x","bell","next",(toString (b:Int):Str),(toString ((b:Int) - 1):Str)]
def w7 (m:Nat):List Str:=[(toString (m:Int):Str),(toString ((m:Int)+1):Str),S (List.replicate 29 57),"1e1","1.0","0x1","Q"]
theorem AA {b:Nat} (h1:1<=b) (h:b < 1000000000):∀ z∈jz b,GS 40 z:=by
 intro z hz
 have hz':z∈(["","0","00","01","-1","+1","x","bell","next"]:List Str)++[(toString (b:Int):Str),(toString ((b:Int) - 1):Str)]:=hz
 rcases Ez.mp hz' with h'|h'
 ·exact (by decide +kernel:∀ z∈(["","0","00","01","-1","+1","x","bell","next"]:List Str),GS 40 z) z h'
 ·simp only [Ej,Es,or_false] at h'
  rcases h' with rfl|rfl
  ·exact ja h
  ·rw [show (b:Int) - 1=((b - 1:Nat):Int) from by omega]
   exact ja (by omega)
theorem Cj {m:Nat} (h:m < 100000000):∀ z∈w7 m,GS 40 z:=by
 intro z hz
 have hz':z∈[(toString (m:Int):Str),(toString ((m:Int)+1):Str)]++([S (List.replicate 29 57),"1e1","1.0","0x1","Q"]:List Str):=hz
 rcases Ez.mp hz' with h'|h'
 ·simp only [Ej,Es,or_false] at h'
  rcases h' with rfl|rfl
  ·exact ja (by omega)
  ·exact ja (n:=m+1) (by omega)
 ·exact (by decide +kernel:∀ z∈([S (List.replicate 29 57),"1e1","1.0","0x1","Q"]:List Str),GS 40 z) z h'
abbrev nh:Stmt:=cY 105
def rG:Sp:=fun vs H Q _=>∃ q d Hb D fn kvs lf lp lm lk lg ks,∃ n:Nat,vs=[.ref q,.ref d,.int n]/\Strm H q/\Same Hb H/\Hb q=none/\KpV Hb d D fn kvs lf lp lm lk lg ks/\fK D fn/\n<=1000/\∀ z H',GS 40 z->Strm H' q->But q H H'->Q (.str z) H'
section
variable {P:Program} {w:World} {K:PySem.W.Frag} {mg:Str->Option Value} {base:Heap}
theorem scLW:ay ["_law_stream_here","_law_table","_law_many","_law_bound","_law_some"] ["_law_stream_here","_law_table","_law_many"] (am nh):=⟨rfl,rfl,rfl,by decide +kernel,rfl,by decide +kernel,by decide +kernel⟩
theorem y9:(["_law_name","_law_sorts"]:List Str).Nodup:=by decide +kernel
theorem AB:("9":Str)=S [57]:=by decide +kernel
set_option maxHeartbeats 8000000 in
theorem wJ {f:Addr} {fd:FuncData} (F:Fun K "_law_word" "_law_word" nh f fd) (B:Bl mg) (TK':Fn P w K mg base "_law_take" 1 ["_law_stream_here","_law_many"] gy):aN P w K mg base cj 2 f fd ["_law_stream_here","_law_table","_law_many"] rG:=by
 refine F.ok scLW (fun vs H Q E h=>?_) (fun cdv A outer s H vs Q E hr h=>?_)
 ·obtain ⟨q,d,Hb,D,fn,kvs,lf,lp,lm,lk,lg,ks,n,rfl,_⟩:=h
  rfl
 ·obtain ⟨q,d,Hb,D,fn,kvs,lf,lp,lm,lk,lg,ks,n,rfl,hq,sb,nq,hK0,hO,hn,qq⟩:=h
  have hK:=hK0.same sb
  have sz:(100000:Nat)<=sizeLine:=by decide
  have hu:=hJ hr
  have w24:=hO.w24
  have hp:1<=2 ^ D.width/\2 ^ D.width<=16777216:=⟨Nat.one_le_two_pow,Ew (Fe (by decide) w24) (by decide)⟩
  refine ⟨_,af (aw (i:=3) scLW.nd rfl (Or.inl rfl) (aH oW aj (br hu (pv 1) ak (fun _ _=>rfl))))
   (bR (fun σ H'=>∃ l,σ=[some (.ref q),some (.ref d),some (.int (n:Nat)),some (.int (2 ^ D.width:Nat)),some (.ref l)]/\Same H H'/\H' l=some (.lst (ae (jz (2 ^ D.width))))) (aw (i:=4) scLW.nd rfl (Or.inl rfl) (aV (aa ak (aa ak (aa ak (aa ak (aa ak (aa ak (aa ak (aa ak (aa ak (aa (aM bN (by rfl) B.str bW (aa (pv 3) ac)) (aa (aM bN (by rfl) B.str bW (aa (aH dX (pv 3) aj) ac)) ac)))))))))))))
   (bR (fun σ H'=>∃ l,σ=[some (.ref q),some (.ref d),some (.int (n:Nat)),some (.int (2 ^ D.width:Nat)),some (.ref l)]/\Same H H'/\H' l=some (.lst (ae (jz (2 ^ D.width)++w7 n)))) (aw (i:=4) scLW.nd rfl (Or.inl rfl) (aH c8 (pv 4) (aV (aa (aM bN (by rfl) B.str bW (aa (pv 2) ac)) (aa (aM bN (by rfl) B.str bW (aa (aH bS (pv 2) aj) ac)) (aa (aH qI ak aj) (aa ak (aa ak (aa ak (aa ak ac))))))))))
   (bR (fun σ H'=>∃ l,σ=[some (.ref q),some (.ref d),some (.int (n:Nat)),some (.int (2 ^ D.width:Nat)),some (.ref l)]/\Same H H'/\H l=none/\H' l=some (.lst (ae (jz (2 ^ D.width)++w7 n++D.places++D.marks++D.kinds.map Kn.name++fn)))) (aw (i:=4) scLW.nd rfl (Or.inl rfl) (aH c8 (aH c8 (aH c8 (aH c8 (pv 4) (br hu (pv 1) ak (fun _ _=>rfl))) (br hu (pv 1) ak (fun _ _=>rfl)))
    (eG (N':=["_law_name","_law_sorts"]) (ix:=[none,none]) (sc0:=am nh) (N:=["_law_stream_here","_law_table","_law_many","_law_bound","_law_some"]) rfl (by decide +kernel) (dP (br hu (pv 1) ak (fun _ _=>rfl)))
    (fun C' cl s H fp=>dE (K:=K) (n:=2) rfl rfl (az (ar (i:=0) y9 rfl (Or.inl rfl) (.inr rfl)) (az (ar (i:=1) y9 rfl (Or.inl rfl) (.inr rfl)) bD))) (fun _ _ _ _ _=>cU) (fun C' cl s H fp=>pv 0))) (br hu (pv 1) ak (fun _ _=>rfl))))
   (ai (av (aP aK (pv 4) (aC TK' hr rfl (aa (pv 0) (aa (au aA (by rfl) B.len Ei (aa (pv 4) ac)) ac))) (fun _ _=>rfl))))))),?_⟩
  have p4:=hO.fm.p4
  have m3:=hO.fm.m3
  have k8:=hO.fm.k8
  have f3:=hO.f3
  have sl:∀ l:List Str,(ae l).length=l.length:=fun l=>by unfold ae;rw [D5]
  have l11:(jz (2 ^ D.width)).length=11:=rfl
  have l7:(w7 n).length=7:=rfl
  have sap:∀ a b:List Str,ae a++ae b=ae (a++b):=fun a b=>by unfold ae;rw [Ed]
  refine ⟨_,rfl,d,_,rfl,bv hK.dd hK.v1,_,_,rfl,rfl,⟨by omega,by omega,by decide⟩,?_⟩
  rw [show V.int (1*2 ^ ((D.width:Int)).toNat)=V.int ((2 ^ D.width:Nat):Int) from by rw [vZ]]
  refine ⟨?_,?_⟩
  ·rintro σ H1 ⟨l1,rfl,s1,e1⟩
   refine ⟨?_,?_⟩
   ·rintro σ H2 ⟨l2,rfl,s2,e2⟩
    refine ⟨?_,?_⟩
    ·rintro σ H3 ⟨l3,rfl,s3,n3,e3⟩
     have g3:=hq.same s3
     have ql:=hq.ne n3
     generalize eW:jz (2 ^ D.width)++w7 n++D.places++D.marks++D.kinds.map Kn.name++fn=W at *
     have lW:1<=W.length/\W.length<=100:=by
      rw [<-eW]
      simp only [D9,D5]
      omega
     have gW:∀ z∈W,GS 40 z:=by
      rw [<-eW]
      intro z hz
      simp only [Ez] at hz
      rcases hz with ((((h|h)|h)|h)|h)|h
      ·exact AA hp.1 (by omega) z h
      ·exact Cj (by omega) z h
      ·exact jy (hO.nm.pl z h)
      ·exact jy (hO.nm.mrk z h)
      ·obtain ⟨x,hx,rfl⟩:=ED.mp h
       exact jy (hO.nm.kn x hx)
      ·exact jy (hO.fS z h)
     refine ⟨_,rfl,_,rfl,_,rfl,l3,_,rfl,.inl (SqL.of e3),q,W.length,by rw [sl],g3,by omega,by omega,fun r H4 hr4 g4 b4=>?_⟩
     have hz:W[r]?=some W[r]:=El hr4
     have hz':(ae W)[r]?=some (.str W[r]):=by unfold ae;rw [Eb,hz];rfl
     exact ⟨l3,_,_,_,rfl,rfl,SqL.of (b4 _ _ e3 ql.symm),bE hz',qq _ _ (gW _ (E9 hr4)) g4 ((iX s3).trans b4)⟩
    ·have K2:=hK.same s2
     refine ⟨_,rfl,_,rfl,d,_,rfl,bv K2.dd K2.v5,l2,lp,_,_,rfl,rfl,e2,K2.ep,by rw [sl,sl,D9];omega,fun l3 n3=>?_⟩
     rw [sap]
     have s3:=ag (o:=.lst (ae (jz (2 ^ D.width)++w7 n++D.places))) n3
     have e3:(ax H2 l3 (.lst (ae (jz (2 ^ D.width)++w7 n++D.places)))) l3=some (.lst (ae (jz (2 ^ D.width)++w7 n++D.places))):=ad
     generalize ax H2 l3 (.lst (ae (jz (2 ^ D.width)++w7 n++D.places)))=H3 at *
     have s03:=s2.trans s3
     have K3:=hK.same s03
     refine ⟨_,rfl,d,_,rfl,bv K3.dd K3.v6,l3,lm,_,_,rfl,rfl,e3,K3.em,by rw [sl,sl];simp only [D9];omega,fun l4 n4=>?_⟩
     rw [sap]
     have s4:=ag (o:=.lst (ae (jz (2 ^ D.width)++w7 n++D.places++D.marks))) n4
     have e4:(ax H3 l4 (.lst (ae (jz (2 ^ D.width)++w7 n++D.places++D.marks)))) l4=some (.lst (ae (jz (2 ^ D.width)++w7 n++D.places++D.marks))):=ad
     generalize ax H3 l4 (.lst (ae (jz (2 ^ D.width)++w7 n++D.places++D.marks)))=H4 at *
     have s04:=s03.trans s4
     have K4:=hK.same s04
     have lks:=K4.kd.length
     refine ⟨_,rfl,d,_,rfl,bv K4.dd K4.v7,lk,rfl,⟨_,SqL.of K4.ek⟩,?_⟩
     refine gM (K:=K) (a:=lk) (xs:=ks) (fun i ys H'=>H'=H4/\ys=ae ((D.kinds.map Kn.name).take i)) ⟨rfl,rfl⟩ (fun i ys H' hi ⟨a1,a2⟩=>by
       subst a1 a2
       refine ⟨SqL.of K4.ek,?_⟩
       rw [sl,Eh,D5]
       omega) ?_ ?_
     ·rintro i z ys H' hz ⟨rfl,rfl⟩
      obtain ⟨y,hyk,py,ly,rfl,hpy,hly⟩:=gV K4.kd hz
      refine ⟨py,_,rfl,SqT.of hpy,rfl,_,_,rfl,_,_,rfl,rfl,trivial,c9 ⟨_,rfl,Nx.mk (D7.mp hz).1 ⟨rfl,?_⟩⟩⟩
      have:(D.kinds.map Kn.name)[i]?=some y.name:=by rw [Eb,hyk];rfl
      rw [EJ,this]
      unfold ae
      simp
     rintro ys H' ⟨rfl,rfl⟩ ln nln
     have etk:(D.kinds.map Kn.name).take ks.length=D.kinds.map Kn.name:=EC (by rw [D5];omega)
     rw [etk]
     have s5:=ag (o:=.lst (ae (D.kinds.map Kn.name))) nln
     have e5:(ax H' ln (.lst (ae (D.kinds.map Kn.name)))) ln=some (.lst (ae (D.kinds.map Kn.name))):=ad
     generalize ax H' ln (.lst (ae (D.kinds.map Kn.name)))=H5 at *
     have s05:=s04.trans s5
     refine ⟨l4,ln,_,_,rfl,rfl,s5 _ _ e4,e5,by rw [sl,sl];simp only [D9,D5];omega,fun l6 n6=>?_⟩
     rw [sap]
     have s6:=ag (o:=.lst (ae (jz (2 ^ D.width)++w7 n++D.places++D.marks++D.kinds.map Kn.name))) n6
     have e6:(ax H5 l6 (.lst (ae (jz (2 ^ D.width)++w7 n++D.places++D.marks++D.kinds.map Kn.name)))) l6=some (.lst (ae (jz (2 ^ D.width)++w7 n++D.places++D.marks++D.kinds.map Kn.name))):=ad
     generalize ax H5 l6 (.lst (ae (jz (2 ^ D.width)++w7 n++D.places++D.marks++D.kinds.map Kn.name)))=H6 at *
     have s06:=s05.trans s6
     have K6:=hK.same s06
     refine ⟨_,rfl,d,_,rfl,bv K6.dd K6.v4,l6,lf,_,_,rfl,rfl,e6,K6.ef,by rw [sl,sl];simp only [D9,D5];omega,fun l7 n7=>?_⟩
     rw [sap]
     exact ⟨l7,rfl,s06.trans (ag n7),s06.free n7,ad⟩
   ·refine ⟨_,rfl,_,rfl,_,rfl,cm (by omega),_,rfl,_,_,rfl,rfl,_,rfl,?_,57,29,congrArg V.str AB,rfl,by decide,(by show 7<=sizeLine;decide),fun l7' n7=>?_⟩
    ·have:=cm (i:=n+1) (by omega)
     exact this
    have s2:=ag (o:=.lst (ae (w7 n))) n7
    have e2:(ax H1 l7' (.lst (ae (w7 n)))) l7'=some (.lst (ae (w7 n))):=ad
    refine ⟨l1,l7',_,_,rfl,rfl,s2 _ _ e1,e2,by rw [sl,sl];omega,fun l3 n3=>?_⟩
    rw [sap]
    exact ⟨l3,rfl,(s1.trans s2).trans (ag n3),ad⟩
  ·refine ⟨_,rfl,_,rfl,cm (by omega),_,rfl,_,_,rfl,rfl,_,rfl,?_,(by show 11<=sizeLine;decide),fun l1 n1=>?_⟩
   ·have:=cm (i:=2 ^ D.width - 1) (by omega)
    rw [show ((2 ^ D.width:Nat):Int) - 1=((2 ^ D.width - 1:Nat):Int) from by omega]
    exact this
   exact ⟨l1,rfl,ag n1,ad⟩
end
end L3
namespace L3
open PySem L2
def jj (T:List Str):Nat:=(T.map fun z=>(cp z).length+1).sum
def Ck (T:List Str):Prop:=∀ z∈T,∀ c∈cp z,c < 128/\c≠10
theorem bL (z:Str) (T:List Str):jj (z::T)=(cp z).length+1+jj T:=by unfold jj;rw [Ek,List.sum_cons]
theorem jA:∀ (a b:List Str),jj (a++b)=jj a+jj b
 | [],b=>by show jj b=0+jj b;omega
 | x::a,b=>by rw [E8,bL,bL,jA a b];omega
theorem rH:∀ {T:List Str} {z:Str},z∈T->(cp z).length+1<=jj T
 | [],_,h=>by cases h
 | x::T,z,h=>by
  rw [bL]
  rcases Ej.mp h with rfl|h
  ·omega
  ·have:=rH h;omega
theorem rJ:∀ (T:List Str),T.length<=jj T
 | []=>EM _
 | x::T=>by have:=rJ T;rw [bL,D8];omega
theorem lN:∀ (T:List Str) (i:Nat),jj (T.eraseIdx i)<=jj T
 | [],i=>by simp
 | x::T,0=>by rw [List.eraseIdx_cons_zero,bL];omega
 | x::T,i+1=>by have:=lN T i;rw [List.eraseIdx_cons_succ,bL,bL];omega
theorem rK (w:Str):∀ (T:List Str) (i:Nat),jj (T.set i w)<=jj T+((cp w).length+1)
 | [],i=>by simp
 | x::T,0=>by rw [List.set_cons_zero,bL,bL];omega
 | x::T,i+1=>by have:=rK w T i;rw [List.set_cons_succ,bL,bL];omega
theorem iJ:∀ (T:List Str),((T.map cp).map List.length).sum+(T.map cp).length*1=jj T
 | []=>rfl
 | x::T=>by
  have:=iJ T
  rw [bL,<-this]
  simp only [Ek,List.sum_cons,D8]
  omega
theorem AC (T:List Str):(TK.jn [32] (T.map cp)).length<=jj T:=by
 have:=i5 [32] (T.map cp)
 rw [<-iJ]
 exact this
theorem wK:∀ (T:List Str),T≠[]->jj T<=(TK.jn [32] (T.map cp)).length+1
 | [],h=>absurd rfl h
 | [x],_=>by rw [bL];exact Ec _
 | x::y::T,_=>by
  have:=wK (y::T) (by simp)
  rw [bL]
  show _<=(cp x++([32]++TK.jn [32] ((y::T).map cp))).length+1
  rw [D9,D9,List.length_singleton]
  omega
theorem tR (x:Str):jj (Txt.split x (S [32]))<=(cp x).length+1:=by
 have h:=wK (Txt.split x (S [32])) (eB _ _)
 have e:=congrArg cp (dC 32 x)
 rw [ej] at e
 rwa [e] at h
theorem za {c:Nat}:∀ {ts:List (List Nat)},c∈TK.jn [32] ts->c=32\/∃ t∈ts,c∈t
 | [],h=>by cases h
 | [t],h=>.inr ⟨t,Ea,h⟩
 | t::u::r,h=>by
  have h':c∈t++([32]++TK.jn [32] (u::r)):=h
  rcases Ez.mp h' with h|h
  ·exact .inr ⟨t,Ea,h⟩
  ·rcases Ez.mp h with h|h
   ·exact .inl (EG.mp h)
   ·rcases za h with h|⟨t',a,b⟩
    ·exact .inl h
    ·exact .inr ⟨t',Ee _ a,b⟩
theorem zb {T:List Str} {n:Nat} (h:Ck T) (hn:jj T<=n):GS n (S (TK.jn [32] (T.map cp))):=by
 refine ⟨by rw [ej];exact Ew (AC T) hn,fun c hc=>?_⟩
 rw [ej] at hc
 rcases za hc with rfl|⟨t,ht,hc⟩
 ·decide
 ·obtain ⟨z,hz,rfl⟩:=ED.mp ht
  exact h z hz c hc
theorem ni {a b:Nat} {x y:Str} (hx:GS a x) (hy:GS b y):GS (a+b) (x++y):=by
 have e:x++y=S (cp x++cp y):=by rw [<-gx,dc,dc]
 rw [e]
 refine ⟨by rw [ej,D9];have:=hx.1;have:=hy.1;omega,fun c hc=>?_⟩
 rw [ej] at hc
 rcases Ez.mp hc with h|h
 ·exact hx.2 c h
 ·exact hy.2 c h
theorem wL {T U:List Str} (h:Ck T) (s:∀ z∈U,z∈T):Ck U:=fun z hz=>h z (s z hz)
abbrev nj:Stmt:=cY 106
def oN:Sp:=fun vs H Q _=>∃ q d x Hb D fn kvs lf lp lm lk lg ks,∃ m n:Nat,vs=[.ref q,.ref d,.str x,.int m]/\Strm H q/\Same Hb H/\Hb q=none/\KpV Hb d D fn kvs lf lp lm lk lg ks/\fK D fn/\m<=1000/\n<=400/\GS n x/\∀ z H',GS (2*n+100) z->Strm H' q->But q H H'->Q (.str z) H'
section
variable {P:Program} {w:World} {K:PySem.W.Frag} {mg:Str->Option Value} {base:Heap}
theorem scSpo:ay ["_law_stream_here","_law_table","_law_line_here","_law_many","_law_words","_law_at","_law_way"] ["_law_stream_here","_law_table","_law_line_here","_law_many"] (am nj):=⟨rfl,rfl,rfl,by decide +kernel,rfl,by decide +kernel,by decide +kernel⟩
theorem rL:∀ (T:List Str) (k:Nat),(ae T).eraseIdx k=ae (T.eraseIdx k)
 | [],k=>by simp [ae]
 | x::T,0=>rfl
 | x::T,k+1=>by have:=rL T k;show V.str x::(ae T).eraseIdx k=V.str x::ae (T.eraseIdx k);rw [this]
theorem rM {n i:Nat} (h:i < n):tW n (i:Int)=some i:=by
 unfold tW
 rw [if_pos (by omega),if_pos (by omega)]
 rfl
theorem yw {a b c d:Str} {r:Nat} (h:r < 4):∃ z,z∈[a,b,c,d]/\(ae [a,b,c,d])[r]?=some (.str z):=by
 match r,h with
 | 0,_=>exact ⟨a,by simp,rfl⟩
 | 1,_=>exact ⟨b,by simp,rfl⟩
 | 2,_=>exact ⟨c,by simp,rfl⟩
 | 3,_=>exact ⟨d,by simp,rfl⟩
set_option maxHeartbeats 8000000 in
theorem qo {f:Addr} {fd:FuncData} (F:Fun K "_law_spoilt" "_law_spoilt" nj f fd) (B:Bl mg) (TK':Fn P w K mg base "_law_take" 1 ["_law_stream_here","_law_many"] gy) (WD:Fn P w K mg base "_law_word" 2 ["_law_stream_here","_law_table","_law_many"] rG):aN P w K mg base cj 3 f fd ["_law_stream_here","_law_table","_law_line_here","_law_many"] oN:=by
 refine F.ok scSpo (fun vs H Q E h=>?_) (fun cdv A outer s H vs Q E hr h=>?_)
 ·obtain ⟨q,d,x,Hb,D,fn,kvs,lf,lp,lm,lk,lg,ks,m,n,rfl,_⟩:=h
  rfl
 ·obtain ⟨q,d,x,Hb,D,fn,kvs,lf,lp,lm,lk,lg,ks,m,n,rfl,hq,sb,nq,hK,hO,hm,hn,hx,qq⟩:=h
  have sz:(100000:Nat)<=sizeLine:=by decide
  have hr1:Room 1 _:=hr.mono (by decide)
  refine ⟨_,af (aw (i:=4) scSpo.nd rfl (Or.inl rfl) (bX EE PySem.F.slot_str_split PySem.F.type_str_split dv (pv 2) (aa ak ac))) (af (aw (i:=5) scSpo.nd rfl (Or.inl rfl) (aC TK' hr1 rfl (aa (pv 0) (aa (au aA (by rfl) B.len Ei (aa (pv 4) ac)) ac)))) (af (aw (i:=6) scSpo.nd rfl (Or.inl rfl) (aC TK' hr1 rfl (aa (pv 0) (aa aj ac)))) (bR (fun σ H'=>∃ lw T v5 v6,σ=[some (.ref q),some (.ref d),some (.str x),some (.int (m:Nat)),some (.ref lw),v5,v6]/\Strm H' q/\But q H H'/\H' lw=some (.lst (ae T))/\Ck T/\jj T<=2*n+100) (aT (aq bO (pv 6) aj (aB _)) (ai (aQ (bX Ep PySem.F.slot_list_pop PySem.F.type_list_pop ux (pv 4) (aa (pv 5) ac)))) (ai (aT (aq bO (pv 6) aj (aB _)) (ai (aQ (bX Ep PySem.F.slot_list_insert PySem.F.type_list_insert tQ (pv 4) (aa (pv 5) (aa (aC WD hr rfl (aa (pv 0) (aa (pv 1) (aa (pv 3) ac)))) ac))))) (ai (aT (aq bO (pv 6) aj (aB _)) (ai (aQ (bX Ep Eu Et bM (pv 4) (aa (aP aK (pv 4) (pv 5) (fun _ _=>rfl)) ac)))) (ai (aT (aq bO (pv 6) aj (aB _)) (ai (aw (i:=4) scSpo.nd rfl (Or.inl rfl) (aV (aa (aP aK (aV (aa ak (aa (aH bT ak (pv 2)) (aa (aH bT (pv 2) ak) (aa (aH bT (pv 2) ak) ac))))) (aC TK' hr1 rfl (aa (pv 0) (aa aj ac))) (fun _ _=>rfl)) ac)))) (ai (fg (aC WD hr rfl (aa (pv 0) (aa (pv 1) (aa (pv 3) ac)))) (jC (pv 4) (pv 5) fZ)))))))))) (ai (av (bX EE E5 E4 ft ak (aa (pv 4) ac))))))),?_⟩
  have lcx:(cp x).length=x.length:=by show x.cps.toList.length=x.cps.size;simp
  have hx1:=hx.1
  refine ⟨_,rfl,rfl,x,_,rfl,rfl,by decide +kernel,by omega,fun lw nw=>?_⟩
  have hT0:=tR x
  have hS0:Ck (Txt.split x (S [32])):=fun z hz c hc=>hx.2 c (i9 hz hc)
  have hN0:=eB x (S [32])
  rw [i6]
  generalize Txt.split x (S [32])=T at *
  have hTl:=rJ T
  have sl:∀ l:List Str,(ae l).length=l.length:=fun l=>by unfold ae;rw [D5]
  have hpos:0 < T.length:=List.length_pos_iff.mpr hN0
  have s1:=ag (o:=.lst (T.map V.str)) nw
  have e1:(ax H lw (.lst (T.map V.str))) lw=some (.lst (ae T)):=ad
  have g1:=hq.same s1
  have qw:=hq.ne nw
  generalize ax H lw (.lst (T.map V.str))=H1 at *
  refine ⟨_,rfl,_,rfl,lw,_,rfl,.inl (SqL.of e1),q,T.length,by rw [sl],g1,hpos,by omega,fun k H2 hk g2 b2=>?_⟩
  have e2:=b2 _ _ e1 qw.symm
  refine ⟨_,rfl,q,7,rfl,g2,by decide,by decide,fun way H3 hway g3 b3=>?_⟩
  have e3:=b3 _ _ e2 qw.symm
  have b03:But q H H3:=(iX s1).trans (b2.trans b3)
  have gu:∀ {H':Hp} {o:HO},Strm H' q->Strm (ax H' lw o) q:=fun g=>let ⟨x,y,z,e⟩:=g;⟨x,y,z,by rw [ao qw];exact e⟩
  have bu:∀ {H':Hp} {o:HO},But q H H'->But q H (ax H' lw o):=fun b c o e n=>by rw [ao (aG e nw)];exact b c o e n
  have hTk:T[k]?=some T[k]:=El hk
  have hTk':(ae T)[k]?=some (.str T[k]):=by unfold ae;rw [Eb,hTk];rfl
  have hmk:T[k]∈T:=E9 hk
  have hix:tW (ae T).length (k:Int)=some k:=rM (by rw [sl];exact hk)
  refine ⟨?_,?_⟩
  ·rintro σ H4 ⟨lw,U,v5,v6,rfl,g4,b4,e4,hS,hz⟩
   have eU:ae U=(U.map cp).map fun t=>V.str (S t):=by
    unfold ae
    rw [E1]
    exact List.map_congr_left fun z _=>by show _=V.str (S (cp z));rw [dc]
   rw [eU] at e4
   refine ⟨rfl,_,rfl,[32],lw,U.map cp,rfl,rfl,SqL.of e4,?_,qq _ _ (zb hS hz) g4 b4⟩
   show ((U.map cp).map List.length).sum+(U.map cp).length*1<=100000
   rw [iJ]
   omega
  ·refine ⟨_,rfl,rfl,_,rfl,eD (fun _=>?_) (fun _=>?_)⟩
   ·refine ⟨_,rfl,.inl ⟨rfl,_,SqL.of e3⟩,_,rfl,lw,_,_,k,_,rfl,rfl,e3,by omega,by omega,(lV hix).1,hTk',?_⟩
    have ee:(ae T).eraseIdx k=ae (T.eraseIdx k):=rL T k
    rw [ee]
    exact ⟨lw,_,_,_,rfl,gu g3,bu b03,ad,wL hS0 fun z hz=>(List.eraseIdx_sublist T k).subset hz,Ew (lN T k) (by omega)⟩
   refine ⟨_,rfl,rfl,_,rfl,eD (fun _=>?_) (fun _=>?_)⟩
   ·refine ⟨_,rfl,.inl ⟨rfl,_,SqL.of e3⟩,_,rfl,_,rfl,_,rfl,_,rfl,q,d,Hb,D,fn,kvs,lf,lp,lm,lk,lg,ks,m,rfl,g3,cy nq sb b03,nq,hK,hO,hm,fun z H4 hz g4 b4=>?_⟩
    have e4:=b4 _ _ e3 qw.symm
    refine ⟨lw,_,_,k,rfl,rfl,e4,by omega,by rw [sl];omega,by rw [sl];omega,?_⟩
    have ee:(ae T).take ((k:Int)).toNat++V.str z::(ae T).drop ((k:Int)).toNat=ae (T.take k++z::T.drop k):=by
     rw [E6]
     unfold ae
     rw [Ed,Ek,List.map_take,List.map_drop]
    rw [ee]
    refine ⟨lw,_,_,_,rfl,gu g4,bu (b03.trans b4),ad,fun y hy=>?_,?_⟩
    ·rcases Ez.mp hy with h|h
     ·exact hS0 y (EZ h)
     ·rcases Ej.mp h with rfl|h
      ·exact hz.2
      ·exact hS0 y (List.mem_of_mem_drop h)
    ·have h1:jj T=jj (T.take k)+jj (T.drop k):=by rw [<-jA,Fd]
     have h2:=hz.1
     rw [jA,bL]
     omega
   refine ⟨_,rfl,rfl,_,rfl,eD (fun _=>?_) (fun _=>?_)⟩
   ·refine ⟨_,rfl,.inl ⟨rfl,_,SqL.of e3⟩,_,rfl,_,rfl,lw,_,_,_,rfl,rfl,SqL.of e3,bE hTk',lw,_,_,rfl,rfl,e3,by rw [sl];omega,?_⟩
    have ee:ae T++[V.str T[k]]=ae (T++[T[k]]):=by unfold ae;rw [Ed];rfl
    rw [ee]
    refine ⟨lw,_,_,_,rfl,gu g3,bu b03,ad,wL hS0 fun z hz=>?_,?_⟩
    ·rcases Ez.mp hz with h|h
     ·exact h
     ·rw [EG.mp h];exact hmk
    ·have:=rH hmk
     have e0:jj ([]:List Str)=0:=rfl
     rw [jA,bL,e0]
     omega
   refine ⟨_,rfl,rfl,_,rfl,eD (fun _=>?_) (fun _=>?_)⟩
   ·have lsp:(" ":Str).length=1:=by decide +kernel
    have lco:(",":Str).length=1:=by decide +kernel
    have g1':GS 1 (" ":Str):=by decide +kernel
    have g2':GS 1 (",":Str):=by decide +kernel
    have g0':GS 0 ("":Str):=by decide +kernel
    rw [i6] at lsp g1'
    refine ⟨_,rfl,_,_,rfl,rfl,by rw [lsp];omega,_,rfl,_,_,rfl,rfl,by rw [lsp];omega,_,rfl,_,_,rfl,rfl,by rw [lco];omega,(by show 4<=sizeLine;decide),fun l4 n4=>?_⟩
    have s4:=ag (o:=.lst (ae ["",S [32]++x,x++S [32],x++","])) n4
    have e4:(ax H3 l4 (.lst (ae ["",S [32]++x,x++S [32],x++","]))) l4=some (.lst (ae ["",S [32]++x,x++S [32],x++","])):=ad
    have q4:=g3.ne n4
    refine ⟨_,rfl,q,4,rfl,g3.same s4,by decide,by decide,fun r H5 hr5 g5 b5=>?_⟩
    obtain ⟨z,hz,hzr⟩:=yw (a:="") (b:=S [32]++x) (c:=x++S [32]) (d:=x++",") hr5
    refine ⟨l4,_,_,_,rfl,rfl,SqL.of (b5 _ _ e4 q4.symm),bE hzr,(by show 1<=sizeLine;decide),fun l5 n5=>?_⟩
    have gz:GS (n+1) z:=by
     simp only [Ej,Es,or_false] at hz
     rcases hz with rfl|rfl|rfl|rfl
     ·exact g0'.le (by omega)
     ·exact (ni g1' hx).le (by omega)
     ·exact ni hx g1'
     ·exact ni hx g2'
    refine ⟨l5,[z],_,_,rfl,g5.same (ag n5),((b03.same s4).trans b5).same (ag n5),ad,fun y hy=>?_,?_⟩
    ·rw [EG.mp hy];exact gz.2
    ·have:=gz.1
     have e0:jj ([]:List Str)=0:=rfl
     rw [bL,e0]
     omega
   ·refine ⟨_,rfl,_,rfl,_,rfl,q,d,Hb,D,fn,kvs,lf,lp,lm,lk,lg,ks,m,rfl,g3,cy nq sb b03,nq,hK,hO,hm,fun z H4 hz g4 b4=>?_⟩
    have e4:=b4 _ _ e3 qw.symm
    refine ⟨_,rfl,_,rfl,lw,_,_,k,rfl,rfl,e4,hix,?_⟩
    have ee:(ae T).set k (V.str z)=ae (T.set k z):=by unfold ae;rw [List.map_set]
    rw [ee]
    refine ⟨lw,_,_,_,rfl,gu g4,bu (b03.trans b4),ad,fun y hy=>?_,?_⟩
    ·rcases List.mem_or_eq_of_mem_set hy with h|rfl
     ·exact hS0 y h
     ·exact hz.2
    ·have:=rK z T k
     have h2:=hz.1
     omega
end
end L3
namespace L3
open PySem L2
abbrev nu:Stmt:=cY 107
theorem qp {k:Nat}:∀ {T:List Str},(∀ z∈T,(cp z).length<=k)->jj T<=T.length*(k+1)
 | [],_=>EM _
 | x::T,h=>by
  have h1:=h x Ea
  have h2:=qp (T:=T) fun z hz=>h z (Ee _ hz)
  rw [bL,D8,Nat.add_mul]
  omega
theorem AD {D:Fm} {n:Nat} {r:Rw} (hN:xX D) (hD:iD D) (hw:D.width<=24) (hn:n<=1000) (h:iq D n r):GS 50 (S (j7 D r)):=by
 have h1:=jw hN hw hn h
 have h2:=iF hD h
 have h3:∀ z∈r.k.name::cN D r,cp z∈cr D r:=fun z hz=>List.mem_map_of_mem (f:=cp) hz
 refine zb (T:=r.k.name::cN D r) (fun z hz c hc=>?_) ?_
 ·have:=(h1 _ (h3 z hz)).2 c hc
  omega
 ·have h4:=qp (k:=8) (T:=r.k.name::cN D r) fun z hz=>(h1 _ (h3 z hz)).1
  unfold cr at h2
  rw [D5] at h2
  omega
structure DI (H:Hp) (q:Addr) (H':Hp) (ll:Addr) (n:Nat) (L:List Str) (m:Nat):Prop where
 g:Strm H' q
 b:But q H H'
 nl:H ll=none
 el:H' ll=some (.lst (ae L))
 gs:∀ z∈L,GS n z
 len:L.length<=m
def AS (i:Nat):Nat:=if i=0 then 50 else if i=1 then 200 else 500
def rN:Sp:=fun vs H Q _=>∃ q d Hb D fn kvs lf lp lm lk lg ks,vs=[.ref q,.ref d]/\Strm H q/\Same Hb H/\Hb q=none/\KpV Hb d D fn kvs lf lp lm lk lg ks/\fK D fn/\∀ l L H',Same Hb H'->H' l=some (.lst (ae L))->(∀ z∈L,GS 500 z)->L.length<=60->Q (.ref l) H'
section
variable {P:Program} {w:World} {K:PySem.W.Frag} {mg:Str->Option Value} {base:Heap}
theorem scLns:ay ["_law_stream_here","_law_table","_law_many","_law_lines_here","_law_k","_law_at"] ["_law_stream_here","_law_table"] (am nu):=⟨rfl,rfl,rfl,by decide +kernel,rfl,by decide +kernel,by decide +kernel⟩
theorem Cl:(["_law_k","_law_table","_law_stream_here","_law_many"]:List Str).Nodup:=by decide +kernel
theorem yx {r m0:Nat} (h:r < 4) (h0:m0 < 44):∃ m:Nat,m<=43/\([V.int 0,.int 1,.int 40,.int (m0:Nat)]:List V)[r]?=some (.int (m:Nat)):=by
 match r,h with
 | 0,_=>exact ⟨0,by omega,rfl⟩
 | 1,_=>exact ⟨1,by omega,rfl⟩
 | 2,_=>exact ⟨40,by omega,rfl⟩
 | 3,_=>exact ⟨m0,by omega,rfl⟩
theorem wM {a b c:Str} {r:Nat} (h:r < 3):∃ z,z∈[a,b,c]/\(ae [a,b,c])[r]?=some (.str z):=by
 match r,h with
 | 0,_=>exact ⟨a,by simp,rfl⟩
 | 1,_=>exact ⟨b,by simp,rfl⟩
 | 2,_=>exact ⟨c,by simp,rfl⟩
set_option maxHeartbeats 8000000 in
theorem tU {f:Addr} {fd:FuncData} (F:Fun K "_law_lines" "_law_lines" nu f fd) (B:Bl mg) (TK':Fn P w K mg base "_law_take" 1 ["_law_stream_here","_law_many"] gy) (SR:Fn P w K mg base "_law_shape_row" 3 ["_law_stream_here","_law_table","_law_rows"] Ao) (LL:Fn P w K mg base "_law_line" 2 ["_law_table","_law_row"] qe) (SP:Fn P w K mg base "_law_spoilt" 3 ["_law_stream_here","_law_table","_law_line_here","_law_many"] oN):aN P w K mg base cj 4 f fd ["_law_stream_here","_law_table"] rN:=by
 refine F.ok scLns (fun vs H Q E h=>?_) (fun cdv A outer s H vs Q E hr h=>?_)
 ·obtain ⟨q,d,Hb,D,fn,kvs,lf,lp,lm,lk,lg,ks,rfl,_⟩:=h
  rfl
 ·obtain ⟨q,d,Hb,D,fn,kvs,lf,lp,lm,lk,lg,ks,rfl,hq,sb,nq,hK,hO,qq⟩:=h
  have sz:(100000:Nat)<=sizeLine:=by decide
  have hr1:Room 1 _:=hr.mono (by decide)
  have hr2:Room 2 _:=hr.mono (by decide)
  have w24:=hO.w24
  refine ⟨_,af (aw (i:=2) scLns.nd rfl (Or.inr rfl) (aP aK (aV (aa aj (aa aj (aa aj (aa (aC TK' hr1 rfl (aa (pv 0) (aa aj ac))) ac))))) (aC TK' hr1 rfl (aa (pv 0) (aa aj ac))) (fun _ _=>rfl))) (af (eZ (i:=3) scLns.nd rfl rfl (N':=["_law_k","_law_table","_law_stream_here","_law_many"]) (ix:=[none,some 1,some 0,some 2]) (sc0:=am nu) (N:=["_law_stream_here","_law_table","_law_many","_law_lines_here","_law_k","_law_at"]) rfl (by decide +kernel) (eQ rfl B.range (aa (pv 2) ac)) (fun _ _ _ _ _=>(ar (i:=0) Cl rfl (Or.inl rfl) (.inr rfl))) (fun _ _ _ _ _=>cU) (fun _ _ _ _ _=>(aC LL hr2 rfl (aa (pv 1) (aa (aC SR hr rfl (aa (pv 2) (aa (pv 1) (aa (pv 3) ac)))) ac))))) (bR (fun σ H'=>∃ m:Nat,∃ ll L v4 v5,m<=43/\σ=[some (.ref q),some (.ref d),some (.int (m:Nat)),some (.ref ll),v4,v5]/\DI H q H' ll 50 L 44) (aT (aq bO (aC TK' hr1 rfl (aa (pv 0) (aa aj ac))) aj (aB _)) (ai (aw (i:=3) scLns.nd rfl (Or.inl rfl) (aH c8 (aV (aa (aH bT ak (aM bN (by rfl) B.str bW (aa (aC TK' hr1 rfl (aa (pv 0) (aa (aH bS (aH bS (pv 2) aj) (aM gL (by rfl) B.int EW (aa (cX bO (aC TK' hr1 rfl (aa (pv 0) (aa aj ac))) aj (aB _)) ac))) ac))) ac))) ac)) (pv 3)))) aI) (af (cS PassesOwn.never rfl (eQ rfl B.range (aa (aC TK' hr1 rfl (aa (pv 0) (aa aj ac))) ac)) (ar (i:=4) scLns.nd rfl (Or.inl rfl)) (af (aw (i:=5) scLns.nd rfl (Or.inl rfl) (aC TK' hr1 rfl (aa (pv 0) (aa (aH bS (au aA (by rfl) B.len Ei (aa (pv 3) ac)) aj) ac)))) (ai (aT (aq bO (pv 5) (au aA (by rfl) B.len Ei (aa (pv 3) ac)) (aB _)) (ai (aQ (bX Ep Eu Et bM (pv 3) (aa (aP aK (aV (aa ak (aa ak (aa ak ac)))) (aC TK' hr1 rfl (aa (pv 0) (aa aj ac))) (fun _ _=>rfl)) ac)))) (ai (fg (aC SP hr rfl (aa (pv 0) (aa (pv 1) (aa (aP aK (pv 3) (pv 5) (fun _ _=>rfl)) (aa (pv 2) ac))))) (jC (pv 3) (pv 5) fZ))))))) (ai (av (pv 3)))))),?_⟩
  have sl:∀ l:List Str,(ae l).length=l.length:=fun l=>by unfold ae;rw [D5]
  refine ⟨_,rfl,q,44,rfl,hq,by decide,by decide,fun m0 H1 hm0 g1 b1=>⟨by show 4<=sizeLine;decide,fun l4 n4=>?_⟩⟩
  have s1:=ag (o:=.lst [.int 0,.int 1,.int 40,.int (m0:Nat)]) n4
  have e1:(ax H1 l4 (.lst [.int 0,.int 1,.int 40,.int (m0:Nat)])) l4=some (.lst [.int 0,.int 1,.int 40,.int (m0:Nat)]):=ad
  refine ⟨_,rfl,q,4,rfl,g1.same s1,by decide,by decide,fun r4 H2 hr4 g2 b2=>?_⟩
  have ql4:=g1.ne n4
  obtain ⟨m,hm,hmr⟩:=yx hr4 hm0
  refine ⟨l4,_,_,_,rfl,rfl,SqL.of (b2 _ _ e1 ql4.symm),bE hmr,?_⟩
  have b02:But q H H2:=b1.trans ((iX s1).trans b2)
  have sb2:Same Hb H2:=cy nq sb b02
  clear b1 b2 s1 e1 n4 ql4 g1 hmr
  refine ⟨_,rfl,_,rfl,by omega,by omega,?_⟩
  rw [show ((m:Int)).toNat=m from E6 m]
  refine nJ (lo:=0) (n:=m) (fun i ys H'=>∃ L:List Str,Strm H' q/\But q H2 H'/\ys=ae L/\L.length=i/\i<=m/\∀ z∈L,GS 50 z) ⟨[],g2,But.refl _ _,rfl,rfl,EM _,fun _ z=>nomatch z⟩ (fun i ys H' hi ⟨L,_,_,e',l',h',_⟩=>by rw [e',sl];omega) ?_ ?_
  ·rintro i ys H3 hi ⟨L,g3,b3,rfl,lL,hi',hL⟩
   refine ⟨⟨rfl,rfl,rfl,trivial⟩,c9 ?_⟩
   refine ⟨_,rfl,_,rfl,_,rfl,_,rfl,q,d,Hb,D,fn,kvs,lf,lp,lm,lk,lg,ks,m,rfl,g3,cy nq sb2 b3,nq,hK,hO,by omega,fun u r H4 hu hru g4 b4=>?_⟩
   have s04:=cy nq (cy nq sb2 b3) b4
   refine ⟨d,u,D,fn,kvs,lf,lp,lm,lk,lg,ks,r,m,rfl,hK.same s04,hO,hu,hru,by omega,fun H5 s5=>?_⟩
   refine Nx.mk hi ⟨L++[S (j7 D r)],g4.same s5,(b3.trans b4).same s5,by unfold ae;rw [Ed];rfl,by rw [D9,lL];rfl,hi,fun z hz=>?_⟩
   rcases Ez.mp hz with h|h
   ·exact hL z h
   ·rw [EG.mp h]
    exact AD hO.nm hO.fm hO.w24 (by omega) hru
  rintro ys H3 ⟨L,g3,b3,rfl,lL,_,hL⟩ ll nll
  have s4:=ag (o:=.lst (ae L)) nll
  have e4:(ax H3 ll (.lst (ae L))) ll=some (.lst (ae L)):=ad
  have qll:=g3.ne nll
  have b03:=b02.trans b3
  have nlH:H ll=none:=by
   cases e:H ll with
   | none=>rfl
   | some o=>
    have:=b03 _ _ e qll.symm
    rw [nll] at this
    cases this
  have g4:=g3.same s4
  have b04:=b03.same s4
  generalize ax H3 ll (.lst (ae L))=H4 at *
  refine ⟨?_,?_⟩
  ·rintro σ H5 ⟨m,ll,L,v4,v5,hm,rfl,h5⟩
   refine ⟨_,rfl,q,3,rfl,h5.g,by decide,by decide,fun t H6 ht g6 b6=>?_⟩
   have qll:q≠ll:=hq.ne h5.nl
   refine ⟨_,rfl,by omega,by omega,?_⟩
   rw [show ((t:Int)).toNat=t from E6 t]
   refine gK (lo:=0) (n:=t) (fun i σ H'=>∃ L v4 v5,i<=2/\σ=[some (.ref q),some (.ref d),some (.int (m:Nat)),some (.ref ll),v4,v5]/\DI H q H' ll (AS i) L (44+i)) ⟨L,_,_,by omega,rfl,⟨g6,h5.b.trans b6,h5.nl,b6 _ _ h5.el qll.symm,h5.gs,h5.len⟩⟩ ?_ ?_
   ·rintro i σ H7 hi ⟨L,v4,v5,hi2,rfl,h7⟩
    have l7:=h7.len
    have i1:i<=1:=by omega
    have bd1:AS i<=400/\2*AS i+100<=AS (i+1):=by
     rcases (by omega:i=0\/i=1) with rfl|rfl<;>decide
    have gu:∀ {H':Hp} {o:HO},Strm H' q->Strm (ax H' ll o) q:=fun g=>let ⟨x,y,z,e⟩:=g;⟨x,y,z,by rw [ao qll];exact e⟩
    have bu:∀ {H':Hp} {o:HO},But q H H'->But q H (ax H' ll o):=fun b c o e n=>by rw [ao (aG e h7.nl)];exact b c o e n
    refine ⟨_,rfl,_,rfl,ll,_,rfl,.inl (SqL.of h7.el),_,_,rfl,rfl,q,L.length+1,by rw [sl];rfl,h7.g,by omega,by omega,fun k H8 hk g8 b8=>?_⟩
    have e8:=b8 _ _ h7.el qll.symm
    have b08:=h7.b.trans b8
    refine ⟨_,rfl,_,rfl,ll,_,rfl,.inl (SqL.of e8),rfl,_,rfl,?_⟩
    by_cases hke:k=L.length
    ·refine bB (decide_eq_true (by rw [sl,hke])) ?_
     refine ⟨_,rfl,.inl ⟨rfl,_,SqL.of e8⟩,(by show 3<=sizeLine;decide),fun l3 n3=>?_⟩
     have s9:=ag (o:=.lst (ae ["","bell 0","bell"])) n3
     have e9:(ax H8 l3 (.lst (ae ["","bell 0","bell"]))) l3=some (.lst (ae ["","bell 0","bell"])):=ad
     have q3:=g8.ne n3
     refine ⟨_,rfl,q,3,rfl,g8.same s9,by decide,by decide,fun r H10 hr10 g10 b10=>?_⟩
     obtain ⟨z,hz,hzr⟩:=wM (a:="") (b:="bell 0") (c:="bell") hr10
     have gz:GS 10 z:=(by decide +kernel:∀ z∈(["","bell 0","bell"]:List Str),GS 10 z) z hz
     have e10:=b10 _ _ (s9 _ _ e8) qll.symm
     refine ⟨l3,_,_,_,rfl,rfl,SqL.of (b10 _ _ e9 q3.symm),bE hzr,ll,_,_,rfl,rfl,e10,by rw [sl];omega,?_⟩
     have ee:ae L++[V.str z]=ae (L++[z]):=by unfold ae;rw [Ed];rfl
     rw [ee]
     refine ⟨_,_,_,by omega,rfl,⟨gu g10,bu ((b08.same s9).trans b10),h7.nl,ad,fun y hy=>?_,by rw [D9];simp only [List.length_singleton];omega⟩⟩
     rcases Ez.mp hy with h|h
     ·exact (h7.gs y h).le (by omega)
     ·rw [EG.mp h]
      refine gz.le ?_
      rcases (by omega:i=0\/i=1) with rfl|rfl<;>decide
    ·refine bi (decide_eq_false fun e=>hke (by have:=V.int.inj e;rw [sl] at this;omega)) ?_
     have hk':k < L.length:=by omega
     have hLk:L[k]?=some L[k]:=El hk'
     have hLk':(ae L)[k]?=some (.str L[k]):=by unfold ae;rw [Eb,hLk];rfl
     refine ⟨_,rfl,_,rfl,_,rfl,_,rfl,ll,_,_,_,rfl,rfl,SqL.of e8,bE hLk',_,rfl,q,d,L[k],Hb,D,fn,kvs,lf,lp,lm,lk,lg,ks,m,AS i,rfl,g8,cy nq sb b08,nq,hK,hO,by omega,bd1.1,h7.gs _ (E9 hk'),fun z H9 hz g9 b9=>?_⟩
     have e9:=b9 _ _ e8 qll.symm
     refine ⟨_,rfl,_,rfl,ll,_,_,k,rfl,rfl,e9,rM (by rw [sl];exact hk'),?_⟩
     have ee:(ae L).set k (V.str z)=ae (L.set k z):=by unfold ae;rw [List.map_set]
     rw [ee]
     refine ⟨_,_,_,by omega,rfl,⟨gu g9,bu (b08.trans b9),h7.nl,ad,fun y hy=>?_,by rw [List.length_set];omega⟩⟩
     rcases List.mem_or_eq_of_mem_set hy with h|rfl
     ·exact (h7.gs y h).le (by omega)
     ·exact hz.le bd1.2
   ·rintro σ H7 ⟨L,v4,v5,hi2,rfl,h7⟩
    have l7:=h7.len
    refine ⟨_,rfl,qq _ _ _ (cy nq sb h7.b) h7.el (fun z hz=>(h7.gs z hz).le ?_) (by omega)⟩
    unfold AS
    split
    ·omega
    ·split<;>omega
  ·refine ⟨_,rfl,q,2,rfl,g4,by decide,by decide,fun t H5 ht g5 b5=>⟨rfl,_,rfl,?_⟩⟩
   have e5:=b5 _ _ e4 qll.symm
   have b05:=b04.trans b5
   refine eD (fun _=>?_) (fun _=>?_)
   ·refine ⟨_,rfl,_,rfl,_,_,rfl,rfl,_,rfl,q,8,rfl,g5,by decide,by decide,fun t8 H6 h8 g6 b6=>⟨rfl,.inr ⟨_,rfl,_,_,rfl,rfl,q,m+1+(if decide (V.int (t8:Nat)=.int 0) then 1 else 0),?_,g6,by omega,?_,fun bq H7 hbq g7 b7=>?_⟩⟩⟩
    ·cases decide (V.int (t8:Nat)=.int 0)<;>rfl
    ·split<;>omega
    have hb46:bq < 46:=by
     revert hbq
     split<;>omega
    refine ⟨_,rfl,cm (by omega),_,_,rfl,rfl,?_,(by show 1<=sizeLine;decide),fun lb nlb=>?_⟩
    ·have:=(ja (n:=bq) (by omega)).1
     have e1:(cp (toString (bq:Int):Str)).length=(toString (bq:Int):Str).length:=by show (toString (bq:Int):Str).cps.toList.length=(toString (bq:Int):Str).cps.size;simp
     have e2:("bell ":Str).length=5:=by decide +kernel
     rw [e2]
     omega
    have s8:=ag (o:=.lst (ae [("bell ":Str)++(toString (bq:Int):Str)])) nlb
    have e8:(ax H7 lb (.lst (ae [("bell ":Str)++(toString (bq:Int):Str)]))) lb=some (.lst (ae [("bell ":Str)++(toString (bq:Int):Str)])):=ad
    have e7:=b7 _ _ (b6 _ _ e5 qll.symm) qll.symm
    refine ⟨_,rfl,lb,ll,_,_,rfl,rfl,e8,s8 _ _ e7,by rw [sl,sl];simp only [List.length_singleton];omega,fun lc nlc=>?_⟩
    have ee:ae [("bell ":Str)++(toString (bq:Int):Str)]++ae L=ae ((("bell ":Str)++(toString (bq:Int):Str))::L):=rfl
    rw [ee]
    have b08:But q H _:=((b05.trans b6).trans b7).same s8
    have qlc:=(g7.same s8).ne nlc
    refine ⟨m,lc,_,_,_,hm,rfl,⟨(g7.same s8).same (ag nlc),b08.same (ag nlc),?_,ad,fun z hz=>?_,by rw [D8];omega⟩⟩
    ·cases e:H lc with
     | none=>rfl
     | some o=>
      exact nomatch (show (none:Option HO)=some o from nlc.symm.trans (b08 _ _ e qlc.symm))
    ·rcases Ej.mp hz with rfl|h
     ·exact (ni (by decide +kernel:GS 5 ("bell ":Str)) (ja (n:=bq) (by omega))).le (by omega)
     ·exact hL z h
   ·exact ⟨m,ll,L,_,_,hm,rfl,⟨g5,b05,nlH,e5,hL,by omega⟩⟩
end
end L3
namespace L3
open PySem L2
def wN (K:PySem.W.Frag):Sp:=fun vs H Q _=>∃ (a:Addr) (ns:List Int),vs=[.ref a]/\SqL K H a (ns.map V.int)/\ns.length<=63/\∀ H',Q (.bl true) H'
theorem tV (D:Fm) (x:Str):tP D (Txt.split x "\n")=cH D (ba x):=by
 unfold tP ba
 by_cases h:x=""
 ·rw [if_pos h,h]
  have:Txt.split ("":Str) ("\n":Str)=([""]:List Str):=by decide +kernel
  rw [this,if_pos rfl]
 ·rw [if_neg h,if_neg]
  intro e
  have b:=dC 10 x
  rw [vG] at e
  rw [e] at b
  exact h (b.symm.trans (by decide +kernel))
theorem yy {L:List Str} (h:∀ z∈L,GS 500 z) (x:Str) (ex:x=S (TK.jn [10] (L.map cp))):(∀ z∈Txt.split x "\n",GS 500 z)/\(Txt.split x "\n").length<=L.length+1:=by
 subst ex
 by_cases h0:TK.jn [10] (L.map cp)=[]
 ·rw [h0]
  have:Txt.split (S []) ("\n":Str)=([""]:List Str):=by decide +kernel
  rw [this]
  exact ⟨by decide +kernel,by simp⟩
 ·have e:=vF 10 (L.map cp) h0 fun t ht hc=>by
   obtain ⟨y,hy,rfl⟩:=ED.mp ht
   exact ((h y hy).2 10 hc).2 rfl
  rw [gD,<-vG] at e
  rw [e]
  exact ⟨h,by omega⟩
theorem rO {c:Nat}:∀ {ts:List (List Nat)},c∈TK.jn [10] ts->c=10\/∃ t∈ts,c∈t
 | [],h=>by cases h
 | [t],h=>.inr ⟨t,Ea,h⟩
 | t::u::r,h=>by
  have h':c∈t++([10]++TK.jn [10] (u::r)):=h
  rcases Ez.mp h' with h|h
  ·exact .inr ⟨t,Ea,h⟩
  ·rcases Ez.mp h with h|h
   ·exact .inl (EG.mp h)
   ·rcases rO h with h|⟨t',a,b⟩
    ·exact .inl h
    ·exact .inr ⟨t',Ee _ a,b⟩
theorem InP.same {H H':Hp} {D:Fm} {u:V} {o:Nat ⊕ (Option Nat×List Rw)} (h:InP H D u o) (s:Same H H'):InP H' D u o:=by
 cases h with
 | txt x a b=>exact .txt x a b
 | no a b=>exact .no (fun K H' s'=>a K H' (s.trans s')) b
theorem yz {a b:PyData} (ha:a.depth<=1:=by simp [PyData.depth]) (hb:b.depth<=1:=by simp [PyData.depth]):(PyData.tuple [a,b]).depth<=60:=by
 simp only [PyData.depth,PyData.depthAll]
 omega
theorem yA (L:List Str):ae L=(L.map cp).map fun t=>V.str (S t):=by
 unfold ae
 rw [E1]
 exact List.map_congr_left fun z _=>by show _=V.str (S (cp z));rw [dc]
section
variable {P:Program} {w:World} {K:PySem.W.Frag} {mg:Str->Option Value} {base:Heap} {C:Addr}
theorem scLaw:ay ["_law_script","_law_kept","_law_table","_law_k","_law_lines_here","_law_text","_law_due_here","_law_found","_law_thing"] ["_law_script"] (am sI):=⟨rfl,rfl,rfl,by decide +kernel,rfl,by decide +kernel,by decide +kernel⟩
set_option maxHeartbeats 8000000 in
theorem AE {f:Addr} {fd:FuncData} (F:Fun K "law" "law" sI f fd) (B:Bl mg) (CL:Fn P w K mg base "_law_cell" 1 ["_law_script","_law_k"] (pB K)) (ST:Fn P w K mg base "_law_stream" 1 ["_law_cell_here"] jV) (SHP:Fn P w K mg base "_law_shape" 3 ["_law_stream_here"] mS) (TX:Fn P w K mg base "_law_shape_text" 2 ["_law_table"] An) (RT:Fn P w K mg base "read_table" 8 ["text"] (Ad C))
  (LS:Fn P w K mg base "_law_lines" 4 ["_law_stream_here","_law_table"] rN) (DU:Fn P w K mg base "_law_due" 4 ["_law_table","_law_lines_here"] y8) (TD:Fn P w K mg base "_law_told" 8 ["_law_table","_law_text"] (wB C)):aN P w K mg base cj 9 f fd ["_law_script"] (wN K):=by
 refine F.ok scLaw (fun vs H Q E h=>?_) (fun cdv A outer s H vs Q E hr h=>?_)
 ·obtain ⟨l,ns,rfl,_⟩:=h
  rfl
 ·obtain ⟨l,ns,rfl,hS,hl,q⟩:=h
  have sz:(100000:Nat)<=sizeLine:=by decide
  have hr1:Room 1 _:=hr.mono (by decide)
  have hr2:Room 2 _:=hr.mono (by decide)
  have hr3:Room 3 _:=hr.mono (by decide)
  have hr4:Room 4 _:=hr.mono (by decide)
  refine ⟨_,af (aw (i:=1) scLaw.nd rfl (Or.inl rfl) (aC SHP hr3 rfl (aa (aC ST hr1 rfl (aa (aC CL hr1 rfl (aa (pv 0) (aa aj ac))) ac)) ac))) (af (aw (i:=2) scLaw.nd rfl (Or.inl rfl) (aC RT hr rfl (aa (aC TX hr2 rfl (aa (pv 1) ac)) ac))) (af (cS PassesOwn.never rfl (eQ rfl B.range (aa (au (rW rfl) (by rfl) B.max PyProof.Rows.boot_max (aa aj (aa (au (rX rfl) (by rfl) B.min PyProof.Rows.boot_min (aa aj (aa (au aA (by rfl) B.len Ei (aa (pv 0) ac)) ac))) ac))) ac)) (ar (i:=3) scLaw.nd rfl (Or.inl rfl)) (af (aw (i:=4) scLaw.nd rfl (Or.inl rfl) (aC LS hr4 rfl (aa (aC ST hr1 rfl (aa (aC CL hr1 rfl (aa (pv 0) (aa (pv 3) ac))) ac)) (aa (pv 1) ac)))) (af (aw (i:=5) scLaw.nd rfl (Or.inl rfl) (bX EE E5 E4 ft ak (aa (pv 4) ac))) (af (aw (i:=6) scLaw.nd rfl (Or.inl rfl) (aC DU hr4 rfl (aa (pv 1) (aa (bX EE PySem.F.slot_str_split PySem.F.type_str_split dv (pv 5) (aa ak ac)) ac)))) (af (aw (i:=7) scLaw.nd rfl (Or.inl rfl) (aC TD hr rfl (aa (pv 2) (aa (pv 5) ac)))) (af (aT (PW.pt (cE (aq oX (pv 6) cz (aB _)) (ck (aq (op_neD hr) (pv 7) (aW (aa ak (aa (pv 5) ac))) (aB _))))) (ai (av eO)) aI) (ai (aT (PW.pt (cE (aq wZ (pv 6) cz (aB _)) (ck (PW.pt (dF (aq (op_neD hr) (pv 7) (aW (aa ak (aa (pv 6) ac))) (aB _)) (cZ (cO (au (eK (T:="bool")) (by rfl) B.isinstance cV (aa (aP dq (pv 7) aj (fun _ _=>rfl)) (aa (gi (by rfl) B.bool io) ac)))))))))) (ai (av eO)) aI)))))))) (af (cS PassesOwn.never rfl (dP (aV (aa cz (aa aj (aa eO (aa (aV ac) (aa (aV (aa ak ac)) (aa (aW (aa ak ac)) (aa jQ (aa (yG uf aj) ac)))))))))) (ar (i:=8) scLaw.nd rfl (Or.inl rfl)) (ai (aT (aq (op_neD hr) (aC TD hr rfl (aa (pv 2) (aa (pv 8) ac))) (aW (aa ak (aa aj ac))) (aB _)) (ai (av eO)) aI))) (ai (av (hV (cX (op_eqD hr) (aC TD hr rfl (aa (pv 2) (aa ak ac))) (aW (aa ak (aa ak ac))) (aB _)) (fO (cX (op_eqD hr) (aC TD hr rfl (aa (pv 2) (aa ak ac))) (aW (aa ak (aa aj ac))) (aB _))))))))),?_⟩
  refine ⟨_,rfl,l,ns,0,rfl,hS,by omega,fun c=>⟨c,rfl,fun p H1 np s1 g1=>⟨p,rfl,g1,fun d H2 D fn kvs lf lp lm lk lg ks b2 hK hO=>?_⟩⟩⟩
  have s2:Same H H2:=cy np s1 b2
  refine ⟨_,rfl,d,D,fn,kvs,lf,lp,lm,lk,lg,ks,rfl,hK,hO,fun H3 s3=>?_⟩
  obtain ⟨tl1,tl2⟩:=vV hO
  have ett:=sY hO
  refine ⟨lD D,D,rfl,tl1,by rw [ett];exact tl2,by rw [ett,BU];exact ye hO,hO.fm,fun v H4 s4 hT=>?_⟩
  have K4:=hK.same (s3.trans s4)
  have s04:=s2.trans (s3.trans s4)
  have hS4:=s04.seq hS
  have lay2:∀ {a b:PyData},a.canLay0=true->b.canLay0=true->(PyData.tuple [a,b]).canLay0=true:=fun h1 h2=>by simp only [PyData.canLay0,PyData.canLayAll0,h1,h2,Bool.and_self]
  have lyL:(PyData.str "line").canLay0=true:=by decide +kernel
  have lyG:(PyData.str "good").canLay0=true:=by decide +kernel
  have lyI:∀ i:Int,(PyData.int i).canLay0=true:=fun i=>by simp only [PyData.canLay0]
  refine ⟨_,rfl,l,_,rfl,.inl hS4,_,_,rfl,_,_,rfl,_,rfl,?_,?_,?_⟩
  ·split<;>(try split)<;>omega
  ·rw [D5];split<;>(try split)<;>omega
  refine gK (lo:=0) (fun i σ H'=>∃ v3 v4 v5 v6 v7:Option V,σ=[some (.ref l),some (.ref d),some v,v3,v4,v5,v6,v7,none]/\Same H4 H') ⟨_,_,_,_,_,rfl,Same.refl _⟩ ?_ ?_
  ·rintro i σ H5 hi ⟨v3,v4,v5,v6,v7,rfl,s5⟩
   refine ⟨_,rfl,_,rfl,l,ns,0+(i:Int),rfl,s5.seq hS4,by omega,fun c=>⟨c,rfl,fun p' H6 np' s6 g6=>?_⟩⟩
   refine ⟨_,rfl,p',d,H5,D,fn,kvs,lf,lp,lm,lk,lg,ks,rfl,g6,s6,np',K4.same s5,hO,fun ll L H7 s7 ell hgs hlen=>?_⟩
   have hsz:=qp (k:=500) (T:=L) fun z hz=>(hgs z hz).1
   have hsz2:L.length*(500+1)<=60*501:=Nat.mul_le_mul_right _ hlen
   rw [yA] at ell
   have jl:(TK.jn [10] (L.map cp)).length<=31000:=Ew (i5 [10] (L.map cp)) (by
    show ((L.map cp).map List.length).sum+(L.map cp).length*1<=_
    rw [iJ];omega)
   refine ⟨rfl,_,rfl,[10],ll,L.map cp,congrArg V.str vG,rfl,SqL.of ell,by
    show ((L.map cp).map List.length).sum+(L.map cp).length*1<=_
    rw [iJ];omega,?_⟩
   obtain ⟨hfr,hfl⟩:=yy hgs _ rfl
   have hsg:∀ c∈cp (S (TK.jn [10] (L.map cp))),c < 128:=fun c hc=>by
    rw [ej] at hc
    rcases rO hc with rfl|⟨t,ht,hc⟩
    ·decide
    ·obtain ⟨z,hz,rfl⟩:=ED.mp ht
     exact ((hgs z hz).2 c hc).1
   have hcl:(cp (S (TK.jn [10] (L.map cp)))).length<=31000:=jl
   generalize S (TK.jn [10] (L.map cp))=x at *
   have lx:(cp x).length=x.length:=by show x.cps.toList.length=x.cps.size;simp
   have s57:=s5.trans s7
   refine ⟨_,rfl,_,rfl,rfl,x,_,rfl,rfl,by decide +kernel,by omega,fun lt nt=>?_⟩
   have s8:=ag (o:=.lst ((Txt.split x "\n").map V.str)) nt
   have e8:(ax H7 lt (.lst ((Txt.split x "\n").map V.str))) lt=some (.lst (ae (Txt.split x "\n"))):=ad
   generalize ax H7 lt (.lst ((Txt.split x "\n").map V.str))=H8 at *
   have s48:=s57.trans s8
   have hlen2:(Txt.split x "\n").length<=1000:=by omega
   refine ⟨d,lt,_,D,fn,kvs,lf,lp,lm,lk,lg,ks,rfl,K4.same s48,hO,e8,eB _ _,hlen2,fun z hz=>⟨Ew (hfr z hz).1 (by omega),fun c hc=>((hfr z hz).2 c hc).1⟩,fun H9 s9=>?_⟩
   rw [tV]
   have s49:=s48.trans s9
   have lyx:(PyData.str x).canLay0=true:=rF hsg
   refine ⟨_,rfl,_,rfl,v,.str x,D,_,rfl,hT.same s49,hO.fm,hO.nm,hO.w24,.txt x (by omega) (fun z hz=>?_),fun m eo r H10 s10 hr10=>?_,fun bl rs eo r H10 s10 hr10=>?_⟩
   ·unfold ba at hz
    by_cases hx:x=""
    ·rw [if_pos hx] at hz;cases hz
    ·rw [if_neg hx] at hz
     exact Ew (hfr z hz).1 (by omega)
   ·rw [eo]
    refine ⟨_,rfl,rfl,_,rfl,bi (decide_eq_false fun e=>nomatch e) ?_⟩
    refine ⟨_,rfl,rfl,_,rfl,bB (by rw [decide_eq_false (fun e=>nomatch e)];rfl) ?_⟩
    refine ⟨_,rfl,_,rfl,(by show 2<=sizeLine;decide),fun r2 n2=>?_⟩
    have s11:=ag (o:=.tup [.str "line",oV (DH (Sum.inl m:Nat ⊕ (Option Nat×List Rw)))]) n2
    refine ⟨.tuple [.str "line",.int m],.tuple [.str "line",.int m],.tup (SqT.of (s11 _ _ hr10)) (.cons (.str _) (.cons (.int _) .nil)),.tup (SqT.of ad) (.cons (.str _) (.cons (.int _) .nil)),lay2 lyL (lyI _),lay2 lyL (lyI _),Ew (Nat.min_le_left _ _) yz,_,rfl,?_⟩
    refine bi (by simp [PyData.eqv,PyData.eqvAll]) ?_
    refine ⟨_,rfl,r,_,_,_,rfl,rfl,SqT.of (s11 _ _ hr10),p9,.int m,_,false,rfl,.int _,rfl,_,rfl,cA ?_⟩
    exact ⟨_,_,_,_,_,rfl,s49.trans (s10.trans s11)⟩
   ·rw [eo]
    refine ⟨_,rfl,rfl,_,rfl,bB (decide_eq_true rfl) ?_⟩
    refine ⟨_,rfl,_,rfl,(by show 2<=sizeLine;decide),fun r2 n2=>?_⟩
    have s11:=ag (o:=.tup [.str "good",.str x]) n2
    refine ⟨.tuple [.str "good",.str x],.tuple [.str "good",.str x],.tup (SqT.of (s11 _ _ hr10)) (.cons (.str _) (.cons (.str _) .nil)),.tup (SqT.of ad) (.cons (.str _) (.cons (.str _) .nil)),lay2 lyG lyx,lay2 lyG lyx,Ew (Nat.min_le_left _ _) yz,_,rfl,?_⟩
    refine bi (by simp [PyData.eqv,PyData.eqvAll]) ?_
    refine ⟨_,rfl,rfl,_,rfl,bi (by show (!decide (V.non=V.non))=false;rw [decide_eq_true rfl];rfl) ?_⟩
    exact ⟨_,_,_,_,_,rfl,s49.trans (s10.trans s11)⟩
  ·rintro σ H5 ⟨v3,v4,v5,v6,v7,rfl,s5⟩
   refine ⟨(by show 0<=sizeLine;decide),fun l1 n1=>?_⟩
   have t1:=ag (o:=.lst []) n1
   have e1:(ax H5 l1 (.lst [])) l1=some (.lst []):=ad
   generalize ax H5 l1 (.lst ([]:List V))=H6 at *
   refine ⟨(by show 1<=sizeLine;decide),fun l2 n2=>?_⟩
   have t2:=ag (o:=.lst [.str "bell 0"]) n2
   have e2:(ax H6 l2 (.lst [.str "bell 0"])) l2=some (.lst [.str "bell 0"]):=ad
   generalize ax H6 l2 (.lst [V.str "bell 0"])=H7 at *
   refine ⟨(by show 1<=sizeLine;decide),fun l3 n3=>?_⟩
   have t3:=ag (o:=.tup [.str "bell 0"]) n3
   have e3:(ax H7 l3 (.tup [.str "bell 0"])) l3=some (.tup [.str "bell 0"]):=ad
   generalize ax H7 l3 (.tup [V.str "bell 0"])=H8 at *
   refine fun l4 n4=>?_
   have t4:=ag (o:=.dK []) n4
   have e4:(ax H8 l4 (.dK [])) l4=some (.dK []):=ad
   generalize ax H8 l4 (.dK [])=H9 at *
   refine ⟨1,rfl,(by show 8<=sizeLine;decide),fun l5 n5=>?_⟩
   have t5:=ag (o:=.lst [.non,.int 5,.bl true,.ref l1,.ref l2,.ref l3,.ref l4,.int (-1)]) n5
   have e5:(ax H9 l5 (.lst [.non,.int 5,.bl true,.ref l1,.ref l2,.ref l3,.ref l4,.int (-1)])) l5=some (.lst [.non,.int 5,.bl true,.ref l1,.ref l2,.ref l3,.ref l4,.int (-1)]):=ad
   have ths:∀ x∈([.non,.int 5,.bl true,.ref l1,.ref l2,.ref l3,.ref l4,.int (-1)]:List V),InP (ax H9 l5 (.lst [.non,.int 5,.bl true,.ref l1,.ref l2,.ref l3,.ref l4,.int (-1)])) D x (.inl 0):=by
    intro x hx
    simp only [Ej,Es,or_false] at hx
    rcases hx with rfl|rfl|rfl|rfl|rfl|rfl|rfl|rfl
    ·exact .no (c:=.type "NoneType") (fun K H' s'=>.non) fun K=>rfl
    ·exact .no (c:=.type "int") (fun K H' s'=>.int _) fun K=>rfl
    ·exact .no (c:=.type "bool") (fun K H' s'=>.bl _) fun K=>rfl
    ·exact .no (c:=.type "list") (fun K H' s'=>.lst (s' _ _ (t5 _ _ (t4 _ _ (t3 _ _ (t2 _ _ e1)))))) fun K=>rfl
    ·exact .no (c:=.type "list") (fun K H' s'=>.lst (s' _ _ (t5 _ _ (t4 _ _ (t3 _ _ e2))))) fun K=>rfl
    ·exact .no (c:=.type "tuple") (fun K H' s'=>.tup (s' _ _ (t5 _ _ (t4 _ _ e3)))) fun K=>rfl
    ·exact .no (c:=.type "dict") (fun K H' s'=>.dK (s' _ _ (t5 _ _ e4))) fun K=>rfl
    ·exact .no (c:=.type "int") (fun K H' s'=>.int _) fun K=>rfl
   have s4a:Same H4 (ax H9 l5 (.lst [.non,.int 5,.bl true,.ref l1,.ref l2,.ref l3,.ref l4,.int (-1)])):=s5.trans (t1.trans (t2.trans (t3.trans (t4.trans t5))))
   refine ⟨l5,rfl,⟨_,SqL.of e5⟩,?_⟩
   generalize ax H9 l5 (.lst [V.non,.int 5,.bl true,.ref l1,.ref l2,.ref l3,.ref l4,.int (-1)])=HA at *
   generalize ([.non,.int 5,.bl true,.ref l1,.ref l2,.ref l3,.ref l4,.int (-1)]:List V)=xs at *
   have cmpL:∀ {H':Hp} {r r2:Addr},H' r=some (.tup [.str "line",.int (0:Nat)])->H' r2=some (.tup [.str "line",.int 0])->∃ dx dy,Dt K H' (.ref r) dx/\Dt K H' (.ref r2) dy/\dx.canLay0=true/\dy.canLay0=true/\min dx.depth dy.depth<=60/\PyData.eqv dx dy=true:=fun h1 h2=>
    ⟨.tuple [.str "line",.int 0],.tuple [.str "line",.int 0],.tup (SqT.of h1) (.cons (.str _) (.cons (.int _) .nil)),.tup (SqT.of h2) (.cons (.str _) (.cons (.int _) .nil)),lay2 lyL (lyI _),lay2 lyL (lyI _),Ew (Nat.min_le_left _ _) yz,by simp [PyData.eqv,PyData.eqvAll]⟩
   refine jD (K:=K) (a:=l5) (xs:=xs) (fun i σ H'=>∃ v8:Option V,σ=[some (.ref l),some (.ref d),some v,v3,v4,v5,v6,v7,v8]/\Same HA H') ⟨_,rfl,Same.refl _⟩ (fun i σ H' _ ⟨_,_,s'⟩=>SqL.of (s' _ _ e5)) ?_ ?_
   ·rintro i u σ HB hu ⟨v8,rfl,sB⟩
    have s4B:=s4a.trans sB
    refine ⟨_,rfl,_,rfl,v,u,D,.inl 0,rfl,hT.same s4B,hO.fm,hO.nm,hO.w24,(ths u (Ex hu)).same sB,fun m eo r HC sC hrC=>?_,fun bl rs eo=>(nomatch eo)⟩
    cases eo
    refine ⟨(by show 2<=sizeLine;decide),fun r2 m2=>?_⟩
    have tC:=ag (o:=.tup [.str "line",.int 0]) m2
    obtain ⟨dx,dy,c1,c2,c3,c4,c5,c6⟩:=cmpL (tC _ _ hrC) ad
    exact ⟨dx,dy,c1,c2,c3,c4,c5,_,rfl,bi (by rw [c6];rfl) ⟨_,rfl,sB.trans (sC.trans tC)⟩⟩
   ·rintro σ HB ⟨v8,rfl,sB⟩
    have s4B:=s4a.trans sB
    have lo0:ba ""=[]:=rfl
    have p0:cH D (ba "")=.inr (none,[]):=rfl
    refine ⟨_,rfl,v,.str "",D,_,rfl,hT.same s4B,hO.fm,hO.nm,hO.w24,.txt "" (by decide +kernel) (by rw [lo0];intro l hl;cases hl),fun m eo=>(by rw [p0] at eo;cases eo),fun bl rs eo r HC sC hrC=>?_⟩
    refine ⟨(by show 2<=sizeLine;decide),fun r2 m2=>?_⟩
    have tC:=ag (o:=.tup [.str "good",.str ""]) m2
    refine ⟨.tuple [.str "good",.str ""],.tuple [.str "good",.str ""],.tup (SqT.of (tC _ _ hrC)) (.cons (.str _) (.cons (.str _) .nil)),.tup (SqT.of ad) (.cons (.str _) (.cons (.str _) .nil)),by decide +kernel,by decide +kernel,Ew (Nat.min_le_left _ _) yz,?_⟩
    refine ⟨_,rfl,bB (by decide +kernel) ?_⟩
    have s4C:=s4B.trans (sC.trans tC)
    have lb:ba "bell"=(["bell"]:List Str):=by decide +kernel
    have hbn:cB 0 "bell"=none:=by decide +kernel
    have p1:cH D (ba "bell")=.inl 0:=by
     rw [lb]
     have ha:bC (["bell"]:List Str)=1:=by decide +kernel
     have ho:dB (["bell"]:List Str) ((["bell"]:List Str).length - 1)=none:=by
      unfold dB
      rw [ha,if_pos rfl]
      show (cB 0 "bell").map some=none
      rw [hbn]
      rfl
     unfold cH
     rw [ha,ho]
    refine ⟨_,rfl,v,.str "bell",D,_,rfl,hT.same s4C,hO.fm,hO.nm,hO.w24,.txt "bell" (by decide +kernel) (by rw [lb];decide +kernel),fun m eo r HD sD hrD=>?_,fun bl rs eo=>by rw [p1] at eo;cases eo⟩
    rw [p1] at eo
    cases eo
    refine ⟨(by show 2<=sizeLine;decide),fun r2 m2=>?_⟩
    have tD:=ag (o:=.tup [.str "line",.int 0]) m2
    obtain ⟨dx,dy,c1,c2,c3,c4,c5,c6⟩:=cmpL (tD _ _ hrD) ad
    refine ⟨dx,dy,c1,c2,c3,c4,c5,?_⟩
    rw [c6]
    exact q _
end
end L3
namespace L3
open PySem L2
abbrev AF:Stmt:=cY 80
def aU (K:PySem.W.Frag) (x:Str) (st:Stmt) (f:Addr):Prop:=
 PySem.W.nsIn K mainGlobals x=some (some (.ref f))/\∃ fd:FuncData,Fun K x x st f fd
theorem AG {K:PySem.W.Frag} {x:Str} {st:Stmt} {f:Addr} {oc:Value} {od an:Option Addr} {osl:Array (Option Value)} {kV doc pm cdv ct:Value} (a:PySem.W.nsIn K mainGlobals x=some (some (.ref f)))
  (l:K.lookup f=some ⟨oc,od,.func (PySem.W.fnOf x x (df st) (cM st) (am st) .none kV doc pm an cdv ct),osl⟩) (c:PySem.W.codeIn K cdv x=true) (k:PySem.W.keepIn K (.ref f)=true):aU K x st f:=⟨a,_,uA l c k⟩
theorem aX {P:Program} {w:World} {K:PySem.W.Frag} {mg:Str->Option Value} {base h:Heap} {x:Str} {st:Stmt} {f:Addr} {k:Nat} {ps:List Str} {sp:Sp} (X:K.In h) (G:h.Ns mainGlobals mg) (D:aU K x st f)
  (hb:∀ (kV doc pm:Value) (an:Option Addr) (cdv ct:Value) (us:List Value),us.length=ps.length->bindArgs (PySem.W.fnOf x x (df st) (cM st) (am st) .none kV doc pm an cdv ct) ⟨us,[]⟩=pure (ps.zip us))
  (ok:∀ fd,Fun K x x st f fd->aN P w K mg base cj k f fd ps sp):Fn P w K mg base x k ps sp:=by
 obtain ⟨a,fd,F⟩:=D
 exact ⟨f,fd,EA X G a,F.kp,F.binds hb,ok fd F⟩
structure oO (K:PySem.W.Frag) (x qual:Str) (st:Stmt) (f:Addr):Prop where
 fu:∃ fd:FuncData,Fun K x qual st f fd
 fn:PySem.W.isFn K (.ref f)=true
theorem AH {K:PySem.W.Frag} {x qual:Str} {st:Stmt} {f:Addr} {oc:Value} {od an:Option Addr} {osl:Array (Option Value)} {kV doc pm cdv ct:Value}
  (l:K.lookup f=some ⟨oc,od,.func (PySem.W.fnOf x qual (df st) (cM st) (am st) .none kV doc pm an cdv ct),osl⟩) (c:PySem.W.codeIn K cdv qual=true) (k:PySem.W.keepIn K (.ref f)=true) (n:PySem.W.isFn K (.ref f)=true):oO K x qual st f:=⟨⟨_,uA l c k⟩,n⟩
theorem gI {P:Program} {w:World} {K:PySem.W.Frag} {mg:Str->Option Value} {base:Heap} {Cc f:Addr} {x qual:Str} {st:Stmt} {k:Nat} {ps:List Str} {sp:Sp} (a:PySem.W.findIn K (.ref Cc) x=some (some (.ref f))) (D:oO K x qual st f)
  (hb:∀ (kV doc pm:Value) (an:Option Addr) (cdv ct:Value) (us:List Value),us.length=ps.length->bindArgs (PySem.W.fnOf x qual (df st) (cM st) (am st) .none kV doc pm an cdv ct) ⟨us,[]⟩=pure (ps.zip us))
  (ok:∀ fd,Fun K x qual st f fd->aN P w K mg base cj k f fd ps sp):fb P w K mg base Cc x k ps sp:=by
 obtain ⟨⟨fd,F⟩,n⟩:=D
 exact ⟨f,fd,⟨a,n,F.kp⟩,ok fd F,F.binds hb⟩
theorem qr {P:Program} {w:World} {K:PySem.W.Frag} {mg:Str->Option Value} {base:Heap} {f:Addr} {x qual:Str} {st:Stmt} {ps:List Str} {sp:Sp} (D:oO K x qual st f)
  (hb:∀ (kV doc pm:Value) (an:Option Addr) (cdv ct:Value) (us:List Value),us.length=ps.length->bindArgs (PySem.W.fnOf x qual (df st) (cM st) (am st) .none kV doc pm an cdv ct) ⟨us,[]⟩=pure (ps.zip us))
  (ok:∀ fd,Fun K x qual st f fd->aN P w K mg base cj 1 f fd ps sp):∃ fd,aN P w K mg base cj 1 f fd ps sp/\Binds K fd ps []:=by
 obtain ⟨⟨fd,F⟩,n⟩:=D
 exact ⟨fd,ok fd F,F.binds hb⟩
def NaAll (K:PySem.W.Frag) (c:Addr):List Str->Prop
 | []=>True
 | f::r=>NoAttr K c f/\NaAll K c r
theorem NaAll.get {K:PySem.W.Frag} {c:Addr}:∀ {l:List Str},NaAll K c l->∀ f∈l,NoAttr K c f
 | [],_,f,hf=>absurd hf (by simp)
 | g::r,h,f,hf=>by
  rcases Ej.mp hf with rfl|hf
  ·exact h.1
  ·exact NaAll.get h.2 f hf
structure CK (K:PySem.W.Frag) (n:Str) (c i:Addr) (fl:List Str):Prop where
 ns:PySem.W.nsIn K mainGlobals n=some (some (.ref c))
 cls:Cls K c
 na:NaAll K c fl
 mk_:Mk K c i
theorem wO {K:PySem.W.Frag} {n:Str} {c i:Addr} {fl:List Str} (ns:PySem.W.nsIn K mainGlobals n=some (some (.ref c))) (g1:PySem.W.plainGet K c Str.empty=true) (g2:PySem.W.hasDictIn K c=true) (g3:PySem.W.plainOver K c=true)
  (g4:PySem.W.findIn K (.ref c) "__setattr__"=some (some (.builtin "object.__setattr__"))) (m1:PySem.W.makesIn K c=true) (m2:PySem.W.findIn K (.ref c) "__init__"=some (some (.ref i))) (m3:PySem.W.isFn K (.ref i)=true) (m4:PySem.W.keepIn K (.ref c)=true) (na:NaAll K c fl):CK K n c i fl:=
 ⟨ns,⟨g1,g2,g3,g4⟩,na,⟨m1,m2,m3,m4⟩⟩
theorem D0 {K:PySem.W.Frag} {c:Addr} {a b:Str} (x:PySem.W.findIn K (.ref c) a=some none) (y:PySem.W.findIn K (.ref c) b=some none):NaAll K c [a,b]:=⟨x,y,trivial⟩
theorem D1 {K:PySem.W.Frag} {c:Addr} {a b d:Str} (x:PySem.W.findIn K (.ref c) a=some none) (y:PySem.W.findIn K (.ref c) b=some none) (z:PySem.W.findIn K (.ref c) d=some none):NaAll K c [a,b,d]:=⟨x,y,z,trivial⟩
theorem D2 {K:PySem.W.Frag} {c:Addr} {a b d e f g h i:Str} (x:PySem.W.findIn K (.ref c) a=some none) (y:PySem.W.findIn K (.ref c) b=some none) (z:PySem.W.findIn K (.ref c) d=some none) (u:PySem.W.findIn K (.ref c) e=some none) (x1:PySem.W.findIn K (.ref c) f=some none) (y1:PySem.W.findIn K (.ref c) g=some none) (z1:PySem.W.findIn K (.ref c) h=some none) (u1:PySem.W.findIn K (.ref c) i=some none):NaAll K c [a,b,d,e,f,g,h,i]:=⟨x,y,z,u,x1,y1,z1,u1,trivial⟩
theorem dU:∀ (zs:List Str) (ts:List Tok),ts.length=zs.length->Vals (zs.map V.str) ((zs.zip ts).map fun p=>Value.str p.1 p.2)
 | [],_,_=>.nil
 | z::r,[],h=>by cases h
 | z::r,t::u,h=>.cons ⟨t,rfl⟩ (dU r u (by simpa using h))
structure Dv (K:PySem.W.Frag) (nm:Str) (bm:List Value) (C:Addr):Prop where
 ns:PySem.W.nsIn K mainGlobals nm=some (some (.ref C))
 c:XC K C nm bm
theorem AI {K:PySem.W.Frag} {nm:Str} {bm:List Value} {C:Addr} {q:Str} {N:Addr} {bs:List Value} {sn:List Str} {sub:List Value} {ab:Bool} {col:Option Bool} {dd:Option Addr} {k0 k1 k2 k3 k5:Option Value} (tl:XB.Tail bm) (a:PySem.W.nsIn K mainGlobals nm=some (some (.ref C))) (l:K.lookup C=some (excClassObj nm q C N bs bm true sn sub ab col dd k0 k1 k2 k3 k5 "ValueError.__new__"))
  (g1:PySem.W.findIn K (.ref C) "__getattribute__"=some (some (.builtin "BaseException.__getattribute__"))) (g2:PySem.W.findIn K (.ref C) "__getattr__"=some none) (g3:PySem.W.findIn K (.ref C) "__setattr__"=some (some (.builtin "object.__setattr__"))) (g4:PySem.W.findIn K (.ref C) "__class__"=some (some (.builtin "object.__class__"))):Dv K nm bm C:=
 ⟨a,⟨tl,⟨q,N,bs,sn,sub,ab,col,dd,k0,k1,k2,k3,k5,l⟩,g1,g2,g3,g4⟩⟩
theorem D3:XB.Tail XB.bmV:=.inl rfl
theorem D4 {R:Addr}:XB.Tail (yp R):=.inr ⟨R,rfl⟩
theorem wP {P:Program} {w:World} {K:PySem.W.Frag} {mg:Str->Option Value} {base h:Heap} {x:Str} {st:Stmt} {f:Addr} {k:Nat} {ps:List Str} {sp:Sp} (X:K.In h) (G:h.Ns mainGlobals mg) (D:aU K x st f)
  (hb:∀ (kV doc pm:Value) (an:Option Addr) (cdv ct:Value) (us:List Value),us.length=ps.length->bindArgs (PySem.W.fnOf x x (df st) (cM st) (am st) .none kV doc pm an cdv ct) ⟨us,[]⟩=pure (ps.zip us))
  (ok:∀ fd,Fun K x x st f fd->aN P w K mg base (we P w) k f fd ps sp):Dq P w K mg base x k ps sp:=by
 obtain ⟨a,fd,F⟩:=D
 exact ⟨f,fd,EA X G a,F.kp,F.binds hb,ok fd F⟩
theorem nv {K:PySem.W.Frag} {a:Addr} {t1 t2 t3 t4 t5 t6 t7 t8 t9 t10 t11 t12 t13 t14 t15 t16 t17 t18 t19 t20 t21 t22:Tok} {n:Nat} (h:K.lookup a=some { cls:=.type "tuple",data:=.seq #[.str "word" t1,.str "cells" t2,.str "depth" t3,.str "places" t4,.str "marks" t5,.str "gate" t6,.str "kind" t7,.str "place" t8,.str "mark" t9,.str "number" t10,.str "row" t11,.str "set" t12,.str "if" t13,.str "else" t14,.str "top" t15,.str "next" t16,.str "go" t17,.str "call" t18,.str "back" t19,.str "stop" t20,.str "fault" t21,.str "bell" t22] n }):∀ H,SqT K H a (ae ownL):=fun H=>
 .inr ⟨_,_,n,h,rfl,rfl,(by show 22<=sizeLine;decide),dU ["word","cells","depth","places","marks","gate","kind","place","mark","number","row","set","if","else","top","next","go","call","back","stop","fault","bell"] [t1,t2,t3,t4,t5,t6,t7,t8,t9,t10,t11,t12,t13,t14,t15,t16,t17,t18,t19,t20,t21,t22] rfl⟩
theorem wQ {K:PySem.W.Frag} {a:Addr} {t1 t2 t3 t4:Tok} {n:Nat} (h:K.lookup a=some { cls:=.type "tuple",data:=.seq #[.str "place" t1,.str "mark" t2,.str "number" t3,.str "row" t4] n }):∀ H,SqT K H a (ae di):=fun H=>
 .inr ⟨_,_,n,h,rfl,rfl,(by show 4<=sizeLine;decide),dU ["place","mark","number","row"] [t1,t2,t3,t4] rfl⟩
theorem yB {K:PySem.W.Frag} {a:Addr} {t1 t2 t3 t4 t5 t6:Tok} {n:Nat} (h:K.lookup a=some { cls:=.type "tuple",data:=.seq #[.str "next" t1,.str "go" t2,.str "call" t3,.str "back" t4,.str "stop" t5,.str "fault" t6] n }):∀ H,SqT K H a (ae ["next","go","call","back","stop","fault"]):=fun H=>
 .inr ⟨_,_,n,h,rfl,rfl,(by show 6<=sizeLine;decide),dU ["next","go","call","back","stop","fault"] [t1,t2,t3,t4,t5,t6] rfl⟩
theorem kI {K:PySem.W.Frag} {a:Addr} {t1 t2:Tok} {n:Nat} (h:K.lookup a=some { cls:=.type "tuple",data:=.seq #[.str "deep" t1,.str "bare" t2] n }):∀ H,SqT K H a (ae ["deep","bare"]):=fun H=>
 .inr ⟨_,_,n,h,rfl,rfl,(by show 2<=sizeLine;decide),dU ["deep","bare"] [t1,t2] rfl⟩
theorem jk {K:PySem.W.Frag} {a:Addr} {t1 t2:Tok} {n:Nat} (h:K.lookup a=some { cls:=.type "tuple",data:=.seq #[.str "<<" t1,.str ">>" t2] n }):∀ H,SqT K H a ([.str "<<",.str ">>"]):=fun H=>
 .inr ⟨_,_,n,h,rfl,rfl,(by show 2<=sizeLine;decide),dU ["<<",">>"] [t1,t2] rfl⟩
set_option maxHeartbeats 8000000 in
theorem AJ {l:PySem.W.OpenLaw} {w:World} {K:PySem.W.Frag} {h:Heap} {mg:Str->Option Value} {fa f0 f1 f2 f3 f4 f5 f6 f7 f8 f9 f10 f11 f12 f13 f14 f15 f16 f17 f18 f19 f20 f21 f22 f23 f24 f25 f26 f27 f28 f29 f30 f31 f32 f33 f34 f35 f36 f37 f38 f39 f40 f41 f42 f43 f44 f45 f46 f47 f48 f49 f50 cR iR cT iT cP iP m_look m_take m_need m_need_name m_need_number m_need_end m_kind_at m_fields_of a_OWN_WORDS a_SORTS a_ENDS a_OWN_FAULTS a_DOUBLE_SIGNS R fR cL fL:Addr} {k_MOST_FIGURES k_LONGEST_NAME k_MOST_ROWS k_MOST_TOKENS k_MOST_KINDS k_MOST_FIELDS k_MOST_SETS k_MOST_CHOICES k_MOST_SIGNS k_FIGURES k_LETTERS k_BELL k_GAPS k_SINGLE_SIGNS:Tok} (X:K.In h) (G:h.Ns mainGlobals mg) (hfa:mg "law"=some (.ref fa))
  (d0:aU K "number_of" dw f0)
  (d1:aU K "is_whole" mx f1)
  (d2:aU K "is_within" jr f2)
  (d3:aU K "is_word" uQ f3)
  (d4:aU K "is_name" qJ f4)
  (d5:aU K "is_row" my f5)
  (d6:aU K "is_operand" ig f6)
  (d7:aU K "show_program" dh f7)
  (d8:aU K "operand_shown" eM f8)
  (d9:aU K "read_program" fv f9)
  (d10:aU K "read_bell" iQ f10)
  (d11:aU K "row_read" gr f11)
  (d12:aU K "operand_read" fw f12)
  (d13:aU K "read_form" iS f13)
  (d14:aU K "read_bounded" fz f14)
  (d15:aU K "read_names" ii f15)
  (d16:aU K "read_kind" iU f16)
  (d17:aU K "read_fields" gv f17)
  (d18:aU K "read_field" ij f18)
  (d19:aU K "read_body" iV f19)
  (d20:aU K "read_leaf" iW f20)
  (d21:aU K "read_end" jT f21)
  (d22:aU K "table_of_form" fA f22)
  (d23:aU K "add_name" jU f23)
  (d24:aU K "need_known" ik f24)
  (d25:aU K "kinds_named" gw f25)
  (d26:aU K "names_with_fields" il f26)
  (d27:aU K "deed_of" js f27)
  (d28:aU K "end_of" pz f28)
  (d29:aU K "set_of" AF f29)
  (d30:aU K "tokens_of" mz f30)
  (d31:aU K "sign_at" uR f31)
  (d32:aU K "run_at" zH f32)
  (d33:aU K "read_table" im f33)
  (d34:aU K "_law_cell" uS f34)
  (d35:aU K "_law_stream" mB f35)
  (d36:aU K "_law_take" uT f36)
  (d37:aU K "_law_names" pA f37)
  (d38:aU K "_law_shape" mC f38)
  (d39:aU K "_law_shape_text" dY f39)
  (d40:aU K "_law_bounds" jt f40)
  (d41:aU K "_law_shape_row" gO f41)
  (d42:aU K "_law_line" qK f42)
  (d43:aU K "_law_number" rD f43)
  (d44:aU K "_law_line_good" m7 f44)
  (d45:aU K "_law_due" Az f45)
  (d46:aU K "_law_word" nh f46)
  (d47:aU K "_law_spoilt" nj f47)
  (d48:aU K "_law_lines" nu f48)
  (d49:aU K "_law_told" qk f49)
  (d50:aU K "law" sI f50)
  (CR:CK K "Reader" cR iR ["tokens","spot","may_end"]) (IR:oO K "__init__" "Reader.__init__" pP iR)
  (CT:CK K "Table" cT iT ["width","cells","depth","places","marks","gate","kinds","kinds_known"]) (IT:oO K "__init__" "Table.__init__" mM iT)
  (CP:CK K "Program" cP iP ["rows","bell"]) (IP:oO K "__init__" "Program.__init__" pZ iP)
  (h_look:PySem.W.findIn K (.ref cR) "look"=some (some (.ref m_look))) (M_look:oO K "look" "Reader.look" uV m_look)
  (h_take:PySem.W.findIn K (.ref cR) "take"=some (some (.ref m_take))) (M_take:oO K "take" "Reader.take" C6 m_take)
  (h_need:PySem.W.findIn K (.ref cR) "need"=some (some (.ref m_need))) (M_need:oO K "need" "Reader.need" uW m_need)
  (h_need_name:PySem.W.findIn K (.ref cR) "need_name"=some (some (.ref m_need_name))) (M_need_name:oO K "need_name" "Reader.need_name" iZ m_need_name)
  (h_need_number:PySem.W.findIn K (.ref cR) "need_number"=some (some (.ref m_need_number))) (M_need_number:oO K "need_number" "Reader.need_number" gA m_need_number)
  (h_need_end:PySem.W.findIn K (.ref cR) "need_end"=some (some (.ref m_need_end))) (M_need_end:oO K "need_end" "Reader.need_end" jX m_need_end)
  (h_kind_at:PySem.W.findIn K (.ref cT) "kind_at"=some (some (.ref m_kind_at))) (M_kind_at:oO K "kind_at" "Table.kind_at" mO m_kind_at)
  (h_fields_of:PySem.W.findIn K (.ref cT) "fields_of"=some (some (.ref m_fields_of))) (M_fields_of:oO K "fields_of" "Table.fields_of" i4 m_fields_of)
  (n_MOST_FIGURES:PySem.W.nsIn K mainGlobals "MOST_FIGURES"=some (some (.int 9 k_MOST_FIGURES)))
  (n_LONGEST_NAME:PySem.W.nsIn K mainGlobals "LONGEST_NAME"=some (some (.int 8 k_LONGEST_NAME)))
  (n_MOST_ROWS:PySem.W.nsIn K mainGlobals "MOST_ROWS"=some (some (.int 40 k_MOST_ROWS)))
  (n_MOST_TOKENS:PySem.W.nsIn K mainGlobals "MOST_TOKENS"=some (some (.int 1500 k_MOST_TOKENS)))
  (n_MOST_KINDS:PySem.W.nsIn K mainGlobals "MOST_KINDS"=some (some (.int 8 k_MOST_KINDS)))
  (n_MOST_FIELDS:PySem.W.nsIn K mainGlobals "MOST_FIELDS"=some (some (.int 3 k_MOST_FIELDS)))
  (n_MOST_SETS:PySem.W.nsIn K mainGlobals "MOST_SETS"=some (some (.int 4 k_MOST_SETS)))
  (n_MOST_CHOICES:PySem.W.nsIn K mainGlobals "MOST_CHOICES"=some (some (.int 3 k_MOST_CHOICES)))
  (n_MOST_SIGNS:PySem.W.nsIn K mainGlobals "MOST_SIGNS"=some (some (.int 20000 k_MOST_SIGNS)))
  (n_FIGURES:PySem.W.nsIn K mainGlobals "FIGURES"=some (some (.str "0123456789" k_FIGURES)))
  (n_LETTERS:PySem.W.nsIn K mainGlobals "LETTERS"=some (some (.str "abcdefghijklmnopqrstuvwxyz" k_LETTERS)))
  (n_BELL:PySem.W.nsIn K mainGlobals "BELL"=some (some (.str "bell" k_BELL)))
  (n_GAPS:PySem.W.nsIn K mainGlobals "GAPS"=some (some (.str " \n" k_GAPS)))
  (n_SINGLE_SIGNS:PySem.W.nsIn K mainGlobals "SINGLE_SIGNS"=some (some (.str "(){}[],;+-&|^<=" k_SINGLE_SIGNS)))
  (n_OWN_WORDS:PySem.W.nsIn K mainGlobals "OWN_WORDS"=some (some (.ref a_OWN_WORDS))) (q_OWN_WORDS:∀ H,SqT K H a_OWN_WORDS (ae ownL))
  (n_SORTS:PySem.W.nsIn K mainGlobals "SORTS"=some (some (.ref a_SORTS))) (q_SORTS:∀ H,SqT K H a_SORTS (ae di))
  (n_ENDS:PySem.W.nsIn K mainGlobals "ENDS"=some (some (.ref a_ENDS))) (q_ENDS:∀ H,SqT K H a_ENDS (ae ["next","go","call","back","stop","fault"]))
  (n_OWN_FAULTS:PySem.W.nsIn K mainGlobals "OWN_FAULTS"=some (some (.ref a_OWN_FAULTS))) (q_OWN_FAULTS:∀ H,SqT K H a_OWN_FAULTS (ae ["deep","bare"]))
  (n_DOUBLE_SIGNS:PySem.W.nsIn K mainGlobals "DOUBLE_SIGNS"=some (some (.ref a_DOUBLE_SIGNS))) (q_DOUBLE_SIGNS:∀ H,SqT K H a_DOUBLE_SIGNS ([.str "<<",.str ">>"]))
  (z_len:PySem.W.nsIn K mainGlobals "len"=some none)
  (z_int:PySem.W.nsIn K mainGlobals "int"=some none)
  (z_max:PySem.W.nsIn K mainGlobals "max"=some none)
  (z_min:PySem.W.nsIn K mainGlobals "min"=some none)
  (z_range:PySem.W.nsIn K mainGlobals "range"=some none)
  (z_isinstance:PySem.W.nsIn K mainGlobals "isinstance"=some none)
  (z_list:PySem.W.nsIn K mainGlobals "list"=some none)
  (z_str:PySem.W.nsIn K mainGlobals "str"=some none)
  (z_bool:PySem.W.nsIn K mainGlobals "bool"=some none)
  (z_tuple:PySem.W.nsIn K mainGlobals "tuple"=some none)
  (z_all:PySem.W.nsIn K mainGlobals "all"=some none)
  (z_dict:PySem.W.nsIn K mainGlobals "dict"=some none)
  (z_enumerate:PySem.W.nsIn K mainGlobals "enumerate"=some none)
  (z_zip:PySem.W.nsIn K mainGlobals "zip"=some none)
  (z_ValueError:PySem.W.nsIn K mainGlobals "ValueError"=some none)
  (xR:Dv K "RowsError" XB.bmV R) (rd:PySem.W.readsIn K R (.type "type")=true) (ri:PySem.W.findCls K (.ref R) (.type "type") "__init__"=some (.val (.ref fR))) (mR:oO K "__init__" "RowsError.__init__" mZ fR)
  (xL:Dv K "BadLine" (yp R) cL) (aL:PySem.W.findIn K (.ref cL) "line"=some none) (iL:PySem.W.findIn K (.ref cL) "__init__"=some (some (.ref fL))) (nL:PySem.W.isFn K (.ref fL)=true) (pL:PySem.W.keepIn K (.ref cL)=true) (mL:oO K "__init__" "BadLine.__init__" m5 fL) :
  ∃ fd:FuncData,(∀ (s:Shared) (v:Value),BindsTo s fd ⟨[v],[]⟩ [("_law_script",v)])/\∀ base:Heap,K.In base->base.Ns mainGlobals mg->aN l.prog w K mg base cj 9 fa fd ["_law_script"] (wN K):=by
 have B:Bl mg:=⟨EL X G z_len,EL X G z_int,EL X G z_max,EL X G z_min,EL X G z_range,EL X G z_isinstance,EL X G z_list,EL X G z_str,EL X G z_bool,EL X G z_tuple,EL X G z_all⟩
 have B3:BC mg:=⟨EL X G z_dict,EL X G z_enumerate⟩
 have B4:AR mg:=⟨EL X G z_zip⟩
 have Z:pI K mg a_SORTS a_ENDS a_OWN_FAULTS k_MOST_FIELDS k_MOST_SETS k_MOST_CHOICES k_MOST_KINDS:=⟨(EA X G n_SORTS),q_SORTS,(EA X G n_ENDS),q_ENDS,(EA X G n_OWN_FAULTS),q_OWN_FAULTS,(EA X G n_MOST_FIELDS),(EA X G n_MOST_SETS),(EA X G n_MOST_CHOICES),(EA X G n_MOST_KINDS)⟩
 have CN:BA K mg a_OWN_WORDS k_LETTERS k_LONGEST_NAME:=⟨(EA X G n_OWN_WORDS),q_OWN_WORDS,(EA X G n_LETTERS),(EA X G n_LONGEST_NAME)⟩
 have CT2:xN K mg a_DOUBLE_SIGNS k_GAPS k_SINGLE_SIGNS:=⟨(EA X G n_GAPS),(EA X G n_SINGLE_SIGNS),(EA X G n_DOUBLE_SIGNS),q_DOUBLE_SIGNS,B.len⟩
 have ZB:Zb mg k_BELL:=⟨(EA X G n_BELL)⟩
 have ZR:Zr mg k_MOST_ROWS:=⟨(EA X G n_MOST_ROWS)⟩
 have RC:Rc K cR:=⟨CR.cls,CR.na.1,CR.na.2.1,CR.na.2.2.1⟩
 have TC:Tc K cT:=⟨CT.cls,CT.na.get⟩
 have PC:Pc K cP:=⟨CP.cls,CP.na.1,CP.na.2.1⟩
 have TX:Xs K mg R fR cL fL:=⟨xR.c,xL.c,aL,⟨iL,nL,pL⟩,⟨rd,ri,mR.fu.elim fun _ F=>F.kp⟩,EA X G xR.ns,EA X G xL.ns,EL X G z_ValueError⟩
 obtain ⟨a14,fd,F⟩:=d50
 have e:=hfa.symm.trans (EA X G a14)
 cases e
 obtain ⟨oc,od,kV,doc,pm,an,cdv,ct,osl,rfl,lk,hcd⟩:=id F.ex
 refine ⟨PySem.W.fnOf "law" "law" (df sI) (cM sI) (am sI) .none kV doc pm an cdv ct,fun s v=>.of_eq rfl,fun base _ _=>?_⟩
 have RI:Do l.prog w K mg base fR:=by
  obtain ⟨⟨fd,F⟩,_⟩:=mR
  exact ⟨fd,F.binds (fun _ _ _ _ _ _ us hl=>match us,hl with|[_,_],_=>rfl),Ce F TX⟩
 obtain ⟨⟨fdL,FL0⟩,_⟩:=id mL
 have FL9:aN l.prog w K mg base cj 2 fL fdL ["self","line"] (ww cL):=Cf FL0 TX RI
 have BL9:Binds K fdL ["self","line"] []:=FL0.binds (fun _ _ _ _ _ _ us hl=>match us,hl with|[_,_],_=>rfl)
 have WH:=aX (P:=l.prog) (w:=w) (base:=base) X G d1 (fun _ _ _ _ _ _ us hl=>match us,hl with|[_],_=>rfl) (fun fd F=>uY F B)
 have WI:=aX (P:=l.prog) (w:=w) (base:=base) X G d2 (fun _ _ _ _ _ _ us hl=>match us,hl with|[_,_,_],_=>rfl) (fun fd F=>sK F WH)
 have NM:=aX (P:=l.prog) (w:=w) (base:=base) X G d4 (fun _ _ _ _ _ _ us hl=>match us,hl with|[_],_=>rfl) (fun fd F=>xM F B CN)
 have NU:=aX (P:=l.prog) (w:=w) (base:=base) X G d0 (fun _ _ _ _ _ _ us hl=>match us,hl with|[_],_=>rfl) (fun fd F=>oj F B (EA X G n_FIGURES) (EA X G n_MOST_FIGURES))
 have RM:Rm l.prog w K mg base cR:=⟨RC,(gI (P:=l.prog) (w:=w) (mg:=mg) (base:=base) h_look M_look (fun _ _ _ _ _ _ us hl=>match us,hl with|[_],_=>rfl) (fun fd F=>xA F RC)),(gI (P:=l.prog) (w:=w) (mg:=mg) (base:=base) h_take M_take (fun _ _ _ _ _ _ us hl=>match us,hl with|[_],_=>rfl) (fun fd F=>By F RC))⟩
 have RM2:wS l.prog w K mg base cR:=⟨RM,(gI (P:=l.prog) (w:=w) (mg:=mg) (base:=base) h_need M_need (fun _ _ _ _ _ _ us hl=>match us,hl with|[_,_],_=>rfl) (fun fd F=>xB F RM)),(gI (P:=l.prog) (w:=w) (mg:=mg) (base:=base) h_need_name M_need_name (fun _ _ _ _ _ _ us hl=>match us,hl with|[_],_=>rfl) (fun fd F=>oh F RM NM)),(gI (P:=l.prog) (w:=w) (mg:=mg) (base:=base) h_need_number M_need_number (fun _ _ _ _ _ _ us hl=>match us,hl with|[_,_,_],_=>rfl) (fun fd F=>kG F RM NU WI)),(gI (P:=l.prog) (w:=w) (mg:=mg) (base:=base) h_need_end M_need_end (fun _ _ _ _ _ _ us hl=>match us,hl with|[_],_=>rfl) (fun fd F=>pG F RM B))⟩
 obtain ⟨fdR,INR,bIR⟩:=qr (P:=l.prog) (w:=w) (mg:=mg) (base:=base) IR (fun _ _ _ _ _ _ us hl=>match us,hl with|[_,_],_=>rfl) (fun fd F=>vh F RC B (EA X G n_MOST_TOKENS))
 obtain ⟨fdT,INT,bIT⟩:=qr (P:=l.prog) (w:=w) (mg:=mg) (base:=base) IT (fun _ _ _ _ _ _ us hl=>match us,hl with|[_,_,_,_,_,_,_,_],_=>rfl) (fun fd F=>vz F TC B)
 obtain ⟨fdP,INP,bIP⟩:=qr (P:=l.prog) (w:=w) (mg:=mg) (base:=base) IP (fun _ _ _ _ _ _ us hl=>match us,hl with|[_,_,_],_=>rfl) (fun fd F=>vI F PC B)
 have BO:=aX (P:=l.prog) (w:=w) (base:=base) X G d14 (fun _ _ _ _ _ _ us hl=>match us,hl with|[_,_,_,_],_=>rfl) (fun fd F=>pH F RM2)
 have NA:=aX (P:=l.prog) (w:=w) (base:=base) X G d15 (fun _ _ _ _ _ _ us hl=>match us,hl with|[_,_,_,_],_=>rfl) (fun fd F=>uZ F RM2 B)
 have FL:=aX (P:=l.prog) (w:=w) (base:=base) X G d18 (fun _ _ _ _ _ _ us hl=>match us,hl with|[_],_=>rfl) (fun fd F=>ve F RM2 Z)
 have EN:=aX (P:=l.prog) (w:=w) (base:=base) X G d21 (fun _ _ _ _ _ _ us hl=>match us,hl with|[_],_=>rfl) (fun fd F=>zP F RM2 Z)
 have LF:=aX (P:=l.prog) (w:=w) (base:=base) X G d20 (fun _ _ _ _ _ _ us hl=>match us,hl with|[_,_],_=>rfl) (fun fd F=>xC F RM2 Z B EN)
 have BD:=aX (P:=l.prog) (w:=w) (base:=base) X G d19 (fun _ _ _ _ _ _ us hl=>match us,hl with|[_,_,_],_=>rfl) (fun fd F=>xD F RM2 Z LF)
 have FS:=aX (P:=l.prog) (w:=w) (base:=base) X G d17 (fun _ _ _ _ _ _ us hl=>match us,hl with|[_],_=>rfl) (fun fd F=>sM F RM2 Z B FL)
 have KD:=aX (P:=l.prog) (w:=w) (base:=base) X G d16 (fun _ _ _ _ _ _ us hl=>match us,hl with|[_,_],_=>rfl) (fun fd F=>xE F RM2 FS BD)
 have RF:=aX (P:=l.prog) (w:=w) (base:=base) X G d13 (fun _ _ _ _ _ _ us hl=>match us,hl with|[_],_=>rfl) (fun fd F=>xH F RM2 Z B CR.mk_ (EA X G CR.ns) INR bIR BO NA KD)
 have AN:=aX (P:=l.prog) (w:=w) (base:=base) X G d23 (fun _ _ _ _ _ _ us hl=>match us,hl with|[_,_,_,_],_=>rfl) (fun fd F=>pS F)
 have NK:=aX (P:=l.prog) (w:=w) (base:=base) X G d24 (fun _ _ _ _ _ _ us hl=>match us,hl with|[_,_,_],_=>rfl) (fun fd F=>mJ F)
 have EO:=aX (P:=l.prog) (w:=w) (base:=base) X G d28 (fun _ _ _ _ _ _ us hl=>match us,hl with|[_,_],_=>rfl) (fun fd F=>vk F)
 have SO:Fn l.prog w K mg base "set_of" 1 ["names","given"] zQ:=aX (P:=l.prog) (w:=w) (base:=base) X G d29 (fun _ _ _ _ _ _ us hl=>match us,hl with|[_,_],_=>rfl) (fun fd F=>xI)
 have DO:=aX (P:=l.prog) (w:=w) (base:=base) X G d27 (fun _ _ _ _ _ _ us hl=>match us,hl with|[_,_],_=>rfl) (fun fd F=>sP F B EO SO)
 have NW:=aX (P:=l.prog) (w:=w) (base:=base) X G d26 (fun _ _ _ _ _ _ us hl=>match us,hl with|[_,_],_=>rfl) (fun fd F=>zZ F B3 AN)
 have KN:=aX (P:=l.prog) (w:=w) (base:=base) X G d25 (fun _ _ _ _ _ _ us hl=>match us,hl with|[_,_],_=>rfl) (fun fd F=>BE F B NW DO)
 have TF:=aX (P:=l.prog) (w:=w) (base:=base) X G d22 (fun _ _ _ _ _ _ us hl=>match us,hl with|[_],_=>rfl) (fun fd F=>BG F B B3 CT.mk_ (EA X G CT.ns) INT bIT AN NK KN)
 have SG:=aX (P:=l.prog) (w:=w) (base:=base) X G d31 (fun _ _ _ _ _ _ us hl=>match us,hl with|[_,_],_=>rfl) (fun fd F=>xQ F CT2)
 have RN:=aX (P:=l.prog) (w:=w) (base:=base) X G d32 (fun _ _ _ _ _ _ us hl=>match us,hl with|[_,_],_=>rfl) (fun fd F=>zY F CT2 SG)
 have TO:=aX (P:=l.prog) (w:=w) (base:=base) X G d30 (fun _ _ _ _ _ _ us hl=>match us,hl with|[_],_=>rfl) (fun fd F=>xS F CT2 SG RN)
 have RT:=aX (P:=l.prog) (w:=w) (base:=base) X G d33 (fun _ _ _ _ _ _ us hl=>match us,hl with|[_],_=>rfl) (fun fd F=>BH F B (EA X G n_MOST_SIGNS) TO RF TF)
 have KA:fb l.prog w K mg base cT "kind_at" 1 ["self","kind"] (iE cT):=(gI (P:=l.prog) (w:=w) (mg:=mg) (base:=base) h_kind_at M_kind_at (fun _ _ _ _ _ _ us hl=>match us,hl with|[_,_],_=>rfl) (fun fd F=>sS F TC))
 have FO:fb l.prog w K mg base cT "fields_of" 2 ["self","kind"] (sR cT):=(gI (P:=l.prog) (w:=w) (mg:=mg) (base:=base) h_fields_of M_fields_of (fun _ _ _ _ _ _ us hl=>match us,hl with|[_,_],_=>rfl) (fun fd F=>BI F TC KA))
 have WHO:=aX (P:=l.prog) (w:=w) (base:=base) X G d1 (fun _ _ _ _ _ _ us hl=>match us,hl with|[_],_=>rfl) (fun fd F=>tE F B)
 have WIO:=aX (P:=l.prog) (w:=w) (base:=base) X G d2 (fun _ _ _ _ _ _ us hl=>match us,hl with|[_,_,_],_=>rfl) (fun fd F=>qi F WHO)
 have WOO:=aX (P:=l.prog) (w:=w) (base:=base) X G d3 (fun _ _ _ _ _ _ us hl=>match us,hl with|[_,_],_=>rfl) (fun fd F=>wo F WIO)
 have NUO:=aX (P:=l.prog) (w:=w) (base:=base) X G d0 (fun _ _ _ _ _ _ us hl=>match us,hl with|[_],_=>rfl) (fun fd F=>yo F B (EA X G n_FIGURES) (EA X G n_MOST_FIGURES))
 have IO:=aX (P:=l.prog) (w:=w) (base:=base) X G d6 (fun _ _ _ _ _ _ us hl=>match us,hl with|[_,_,_,_],_=>rfl) (fun fd F=>oG F TC B WIO WOO)
 have IR2:=aX (P:=l.prog) (w:=w) (base:=base) X G d5 (fun _ _ _ _ _ _ us hl=>match us,hl with|[_,_,_],_=>rfl) (fun fd F=>tH F TC B B4 FO IO)
 have OS:=aX (P:=l.prog) (w:=w) (base:=base) X G d8 (fun _ _ _ _ _ _ us hl=>match us,hl with|[_,_,_],_=>rfl) (fun fd F=>BJ F TC B)
 have OR:=aX (P:=l.prog) (w:=w) (base:=base) X G d12 (fun _ _ _ _ _ _ us hl=>match us,hl with|[_,_,_],_=>rfl) (fun fd F=>At F TC NUO)
 have RB:=wP (P:=l.prog) (w:=w) (base:=base) X G d10 (fun _ _ _ _ _ _ us hl=>match us,hl with|[_,_],_=>rfl) (fun fd F=>Aw F B ZB TX FL9 BL9 NUO WIO)
 have RR:=aX (P:=l.prog) (w:=w) (base:=base) X G d11 (fun _ _ _ _ _ _ us hl=>match us,hl with|[_,_,_],_=>rfl) (fun fd F=>Au F TC B B4 FO OR IR2)
 have SH:=aX (P:=l.prog) (w:=w) (base:=base) X G d7 (fun _ _ _ _ _ _ us hl=>match us,hl with|[_,_],_=>rfl) (fun fd F=>xY F TC PC B B4 ZB FO OS)
 have RP:=wP (P:=l.prog) (w:=w) (base:=base) X G d9 (fun _ _ _ _ _ _ us hl=>match us,hl with|[_,_],_=>rfl) (fun fd F=>Ax F B B3 ZB ZR TX FL9 BL9 CP.mk_ (EA X G CP.ns) INP bIP RB RR)
 have CL:=aX (P:=l.prog) (w:=w) (base:=base) X G d34 (fun _ _ _ _ _ _ us hl=>match us,hl with|[_,_],_=>rfl) (fun fd F=>xy F B)
 have ST:=aX (P:=l.prog) (w:=w) (base:=base) X G d35 (fun _ _ _ _ _ _ us hl=>match us,hl with|[_],_=>rfl) (fun fd F=>sJ F B)
 have TK1:=aX (P:=l.prog) (w:=w) (base:=base) X G d36 (fun _ _ _ _ _ _ us hl=>match us,hl with|[_,_],_=>rfl) (fun fd F=>xz F)
 have LN:=aX (P:=l.prog) (w:=w) (base:=base) X G d37 (fun _ _ _ _ _ _ us hl=>match us,hl with|[_,_],_=>rfl) (fun fd F=>sX F B TK1)
 have SHP:=aX (P:=l.prog) (w:=w) (base:=base) X G d38 (fun _ _ _ _ _ _ us hl=>match us,hl with|[_],_=>rfl) (fun fd F=>vQ F B TK1 LN)
 have TX1:=aX (P:=l.prog) (w:=w) (base:=base) X G d39 (fun _ _ _ _ _ _ us hl=>match us,hl with|[_],_=>rfl) (fun fd F=>B0 F B B3)
 have BN:=aX (P:=l.prog) (w:=w) (base:=base) X G d40 (fun _ _ _ _ _ _ us hl=>match us,hl with|[_,_,_],_=>rfl) (fun fd F=>sZ F B)
 have SR:=aX (P:=l.prog) (w:=w) (base:=base) X G d41 (fun _ _ _ _ _ _ us hl=>match us,hl with|[_,_,_],_=>rfl) (fun fd F=>B5 F B TK1 BN)
 have LL:=aX (P:=l.prog) (w:=w) (base:=base) X G d42 (fun _ _ _ _ _ _ us hl=>match us,hl with|[_,_],_=>rfl) (fun fd F=>tK F B B4)
 have LNU:=aX (P:=l.prog) (w:=w) (base:=base) X G d43 (fun _ _ _ _ _ _ us hl=>match us,hl with|[_,_],_=>rfl) (fun fd F=>yq F B)
 have LG:=aX (P:=l.prog) (w:=w) (base:=base) X G d44 (fun _ _ _ _ _ _ us hl=>match us,hl with|[_,_,_],_=>rfl) (fun fd F=>wH F B B4 BN LNU)
 have DU:=aX (P:=l.prog) (w:=w) (base:=base) X G d45 (fun _ _ _ _ _ _ us hl=>match us,hl with|[_,_],_=>rfl) (fun fd F=>yu F B LG LNU)
 have WD:=aX (P:=l.prog) (w:=w) (base:=base) X G d46 (fun _ _ _ _ _ _ us hl=>match us,hl with|[_,_,_],_=>rfl) (fun fd F=>wJ F B TK1)
 have SP:=aX (P:=l.prog) (w:=w) (base:=base) X G d47 (fun _ _ _ _ _ _ us hl=>match us,hl with|[_,_,_,_],_=>rfl) (fun fd F=>qo F B TK1 WD)
 have LS:=aX (P:=l.prog) (w:=w) (base:=base) X G d48 (fun _ _ _ _ _ _ us hl=>match us,hl with|[_,_],_=>rfl) (fun fd F=>tU F B TK1 SR LL SP)
 have TD:=aX (P:=l.prog) (w:=w) (base:=base) X G d49 (fun _ _ _ _ _ _ us hl=>match us,hl with|[_,_],_=>rfl) (fun fd F=>wC F TX RP SH)
 exact AE F B CL ST SHP TX1 RT LS DU TD
end L3
namespace PySem.W.Fast
def tw15515332438603648506:=0
def tw8597836708064323363:=0
def tw5070235761782078473:=0
def tw16826114688801252180:=0
def tw15834980841487358509:=0
def tw13825853254729573342:=0
def tw16140636140380936226:=0
def tw8731256799609416570:=0
def tw8021722138724990926:=0
def tw16093216444660787015:=0
def tw11203246223269937295:=0
def tw11328741917600259554:=0
def tw5281256152696031694:=0
def tw1190894943972180204:=0
def tw12371673241865926046:=0
def tw13465688723678974845:=0
def tw4282665739410381534:=0
def tw18359063642412528521:=0
def tw5735617060774198440:=0
def tw12544431101817691296:=0
def tw8365014425797805697:=0
def tw11787666670791922086:=0
def tw10407514519752693353:=0
def tw10623309307209281362:=0
def tw7695760426480432860:=0
def tw7321827206703202811:=0
def tw4209628576830097967:=0
def tw7953017354832047629:=0
def tw17894486015435766208:=0
def tw8813305854666793182:=0
def tw8021571166730435799:=0
def tw13963200159686412247:=0
def tw3673351530432409338:=0
def tw11498476022587907379:=0
def tw15814570589132640834:=0
def tw9991154944477918640:=0
def tw15394965202898680391:=0
def tw13058611072073773213:=0
def tw14112698117889071191:=0
def tw18136972920933114691:=0
def tw389260588727683665:=0
def tw12003838289785401036:=0
def tw3815325980386227460:=0
def tw17223675203257043251:=0
def tw15015436589477073236:=0
def tw5590610427603779129:=0
def tw12799392442295589859:=0
def tw6610469031973936039:=0
def tw8227790414231128424:=0
def tw6072067241704338939:=0
def tw8654004318175106844:=0
def tw3958194711533494889:=0
def tw9512998671969923399:=0
def tw17065239117665476605:=0
def tw17495872973402524552:=0
def tw6620079080675785082:=0
def tw9779298577836722131:=0
def tw18310990371030686683:=0
def tw2383802191173519502:=0
def tw3086920039295615785:=0
def tw2910850057273858212:=0
def tw14550625273928060846:=0
def tw2305027306937822688:=0
def tw903033338104938024:=0
def tw6729143033771023114:=0
def tw7801290859444757636:=0
def tw11520465730747012574:=0
def tw15150812626124397324:=0
def tw913415509197372785:=0
def tw6603731493172469327:=0
def tw3081329340393971983:=0
def tw9683715976640439751:=0
def tw18151854434042717969:=0
def tw6562935824483713506:=0
def tw4897426079845204129:=0
def tw13308701574048250097:=0
def tw18204488058135100977:=0
def tw14418372853664245773:=0
def tw12533254915943238991:=0
def tw5053027382160524978:=0
def tw9584474287941224227:=0
def tw6423448023024441936:=0
def tw3323376947632626765:=0
def tw1351687450965198206:=0
def tw10046927305157851846:=0
def tw2869650628147894315:=0
def tw18086584410440993130:=0
def tw13791633184618462125:=0
def tw17096861630612103731:=0
def tw6793014511047734514:=0
def tw13291740474336126721:=0
def tw12609600819300557809:=0
def tw1239824443035252102:=0
def tw17106447282355676229:=0
def tw3074885797315572068:=0
def tw4991232888692761698:=0
def tw16982624931669632232:=0
def tw5688323980491534601:=0
def tw7787128683281118327:=0
def tw14540968417771440607:=0
def tw18410662964796549533:=0
def tw9877012997626211933:=0
def tw13410273950079287745:=0
def tw2307025932695725074:=0
def tw6045009131927084649:=0
def tw12585506734607900841:=0
def tw1268639446110205436:=0
def tw14009409888826093670:=0
def tw9266711981229092380:=0
def tw228556411258338213:=0
def tw14203681398747884221:=0
def tw4183623815127615389:=0
def tw12905817926940426437:=0
def tw6708749157958001259:=0
def tw16591090103665332538:=0
def tw18428017216061555202:=0
def tw9155280331972990237:=0
def tw17674760050497492141:=0
def tw7216632857081894040:=0
def tw12078789079336392709:=0
def tw4600172785138045992:=0
def tw7907711616055649774:=0
def tw6570419362524325257:=0
def tw565381139172574874:=0
def tw18095610768361837951:=0
def tw12037458939810781862:=0
def tw9430639033414576996:=0
def tw9193134390444789478:=0
def tw2905871050674328262:=0
def tw7976037971358933251:=0
def tw10083205272542008210:=0
def tw17339012184025261467:=0
def tw8552714385805224745:=0
def tw6224860099910610193:=0
def tw14184472574292585383:=0
def tw16513707579118369893:=0
def tw2027822782861733553:=0
def tw10406317971066908524:=0
def tw4374097898055548142:=0
def tw14608844925600638556:=0
def tw1247903615713766414:=0
def tw39228662110470643:=0
def tw9171291603217977565:=0
def tw6390399832573740668:=0
def tw17577986607908774324:=0
def tw9457589816941348790:=0
def tw14595643375554373162:=0
def tw2211704043840359888:=0
def tw12611585686259848379:=0
def tw185026323285308316:=0
end PySem.W.Fast
local macro_rules|`(tactic| walk_at "def of the top")=>`(tactic| (refine' L3.AG ?a ?l ?c ?k;(case a=>k_is);(case l=>k_is);(case c=>k_is);(case k=>k_is)))
local macro_rules|`(tactic| walk_at "class of refusals")=>`(tactic| (refine' L3.AI ?tl ?a ?l ?g1 ?g2 ?g3 ?g4;(case a=>k_is);(case l=>k_is);(case tl=>(first|exact L3.D4|exact L3.D3));(case g1=>k_is);(case g2=>k_is);(case g3=>k_is);(case g4=>k_is)))
local macro_rules|`(tactic| walk_at "def of a class")=>`(tactic| (refine' L3.AH ?l ?c ?k ?n;(case l=>k_is);(case c=>k_is);(case k=>k_is);(case n=>k_is)))
local macro_rules|`(tactic| walk_at "class of 2")=>`(tactic| (refine' L3.wO ?ns ?g1 ?g2 ?g3 ?g4 ?m1 ?m2 ?m3 ?m4 ?na;(case ns=>k_is);(case g1=>k_is);(case g2=>k_is);(case g3=>k_is);(case g4=>k_is);(case m1=>k_is);(case m2=>k_is);(case m3=>k_is);(case m4=>k_is);(case na=>(refine' L3.D0 ?x ?y;(case x=>k_is);(case y=>k_is)))))
local macro_rules|`(tactic| walk_at "class of 3")=>`(tactic| (refine' L3.wO ?ns ?g1 ?g2 ?g3 ?g4 ?m1 ?m2 ?m3 ?m4 ?na;(case ns=>k_is);(case g1=>k_is);(case g2=>k_is);(case g3=>k_is);(case g4=>k_is);(case m1=>k_is);(case m2=>k_is);(case m3=>k_is);(case m4=>k_is);(case na=>(refine' L3.D1 ?x ?y ?z;(case x=>k_is);(case y=>k_is);(case z=>k_is)))))
local macro_rules|`(tactic| walk_at "class of 8")=>`(tactic| (refine' L3.wO ?ns ?g1 ?g2 ?g3 ?g4 ?m1 ?m2 ?m3 ?m4 ?na;(case ns=>k_is);(case g1=>k_is);(case g2=>k_is);(case g3=>k_is);(case g4=>k_is);(case m1=>k_is);(case m2=>k_is);(case m3=>k_is);(case m4=>k_is);(case na=>(refine' L3.D2 ?x ?y ?z ?u ?x1 ?y1 ?z1 ?u1;(case x=>k_is);(case y=>k_is);(case z=>k_is);(case u=>k_is);(case x1=>k_is);(case y1=>k_is);(case z1=>k_is);(case u1=>k_is)))))
open PySem PySem.W PyProof.Rows
set_option maxRecDepth 100000 in
set_option maxHeartbeats 0 in
theorem PySem.Challenge.cw_rowsbeneath_k13_lines_refused_holds : PySem.Challenge.rw_rowsbeneath_k13_lines_refused.Holds := by
 w_on;o_law;k_head;(case hw=>w_witness2)
 k_fill
 refine L2.uz (l:=PySem.Challenge.rw_rowsbeneath_k13_lines_refused) (n:=63) (k:=9) (x:="_law_script") (CX:=L2.cj) (sp:=L3.wN) rfl (by decide) rfl ⟨rfl,by decide,by decide⟩ (fun w h Y=>PySem.W.kIn_of Y) ?F (fun _ _ a ns hl _ hS=>⟨a,ns,rfl,hS,hl,fun _=>rfl⟩) (fun _ _ _ _ z=>z)
 case F=>
  intro w mg fa h KX G hmg
  refine' L3.AJ KX G hmg ?d0 ?d1 ?d2 ?d3 ?d4 ?d5 ?d6 ?d7 ?d8 ?d9 ?d10 ?d11 ?d12 ?d13 ?d14 ?d15 ?d16 ?d17 ?d18 ?d19 ?d20 ?d21 ?d22 ?d23 ?d24 ?d25 ?d26 ?d27 ?d28 ?d29 ?d30 ?d31 ?d32 ?d33 ?d34 ?d35 ?d36 ?d37 ?d38 ?d39 ?d40 ?d41 ?d42 ?d43 ?d44 ?d45 ?d46 ?d47 ?d48 ?d49 ?d50 ?CR ?IR ?CT ?IT ?CP ?IP ?h_look ?M_look ?h_take ?M_take ?h_need ?M_need ?h_need_name ?M_need_name ?h_need_number ?M_need_number ?h_need_end ?M_need_end ?h_kind_at ?M_kind_at ?h_fields_of ?M_fields_of ?n_MOST_FIGURES ?n_LONGEST_NAME ?n_MOST_ROWS ?n_MOST_TOKENS ?n_MOST_KINDS ?n_MOST_FIELDS ?n_MOST_SETS ?n_MOST_CHOICES ?n_MOST_SIGNS ?n_FIGURES ?n_LETTERS ?n_BELL ?n_GAPS ?n_SINGLE_SIGNS ?n_OWN_WORDS ?q_OWN_WORDS ?n_SORTS ?q_SORTS ?n_ENDS ?q_ENDS ?n_OWN_FAULTS ?q_OWN_FAULTS ?n_DOUBLE_SIGNS ?q_DOUBLE_SIGNS ?z_len ?z_int ?z_max ?z_min ?z_range ?z_isinstance ?z_list ?z_str ?z_bool ?z_tuple ?z_all ?z_dict ?z_enumerate ?z_zip ?z_ValueError ?xR ?rd ?ri ?mR ?xL ?aL ?iL ?nL ?pL ?mL
  (case d0=>walk_at "def of the top")
  (case d1=>walk_at "def of the top")
  (case d2=>walk_at "def of the top")
  (case d3=>walk_at "def of the top")
  (case d4=>walk_at "def of the top")
  (case d5=>walk_at "def of the top")
  (case d6=>walk_at "def of the top")
  (case d7=>walk_at "def of the top")
  (case d8=>walk_at "def of the top")
  (case d9=>walk_at "def of the top")
  (case d10=>walk_at "def of the top")
  (case d11=>walk_at "def of the top")
  (case d12=>walk_at "def of the top")
  (case d13=>walk_at "def of the top")
  (case d14=>walk_at "def of the top")
  (case d15=>walk_at "def of the top")
  (case d16=>walk_at "def of the top")
  (case d17=>walk_at "def of the top")
  (case d18=>walk_at "def of the top")
  (case d19=>walk_at "def of the top")
  (case d20=>walk_at "def of the top")
  (case d21=>walk_at "def of the top")
  (case d22=>walk_at "def of the top")
  (case d23=>walk_at "def of the top")
  (case d24=>walk_at "def of the top")
  (case d25=>walk_at "def of the top")
  (case d26=>walk_at "def of the top")
  (case d27=>walk_at "def of the top")
  (case d28=>walk_at "def of the top")
  (case d29=>walk_at "def of the top")
  (case d30=>walk_at "def of the top")
  (case d31=>walk_at "def of the top")
  (case d32=>walk_at "def of the top")
  (case d33=>walk_at "def of the top")
  (case d34=>walk_at "def of the top")
  (case d35=>walk_at "def of the top")
  (case d36=>walk_at "def of the top")
  (case d37=>walk_at "def of the top")
  (case d38=>walk_at "def of the top")
  (case d39=>walk_at "def of the top")
  (case d40=>walk_at "def of the top")
  (case d41=>walk_at "def of the top")
  (case d42=>walk_at "def of the top")
  (case d43=>walk_at "def of the top")
  (case d44=>walk_at "def of the top")
  (case d45=>walk_at "def of the top")
  (case d46=>walk_at "def of the top")
  (case d47=>walk_at "def of the top")
  (case d48=>walk_at "def of the top")
  (case d49=>walk_at "def of the top")
  (case d50=>walk_at "def of the top")
  (case CR=>walk_at "class of 3")
  (case IR=>walk_at "def of a class")
  (case CT=>walk_at "class of 8")
  (case IT=>walk_at "def of a class")
  (case CP=>walk_at "class of 2")
  (case IP=>walk_at "def of a class")
  (case h_look=>k_is)
  (case M_look=>walk_at "def of a class")
  (case h_take=>k_is)
  (case M_take=>walk_at "def of a class")
  (case h_need=>k_is)
  (case M_need=>walk_at "def of a class")
  (case h_need_name=>k_is)
  (case M_need_name=>walk_at "def of a class")
  (case h_need_number=>k_is)
  (case M_need_number=>walk_at "def of a class")
  (case h_need_end=>k_is)
  (case M_need_end=>walk_at "def of a class")
  (case h_kind_at=>k_is)
  (case M_kind_at=>walk_at "def of a class")
  (case h_fields_of=>k_is)
  (case M_fields_of=>walk_at "def of a class")
  (case n_MOST_FIGURES=>k_is)
  (case n_LONGEST_NAME=>k_is)
  (case n_MOST_ROWS=>k_is)
  (case n_MOST_TOKENS=>k_is)
  (case n_MOST_KINDS=>k_is)
  (case n_MOST_FIELDS=>k_is)
  (case n_MOST_SETS=>k_is)
  (case n_MOST_CHOICES=>k_is)
  (case n_MOST_SIGNS=>k_is)
  (case n_FIGURES=>k_is)
  (case n_LETTERS=>k_is)
  (case n_BELL=>k_is)
  (case n_GAPS=>k_is)
  (case n_SINGLE_SIGNS=>k_is)
  (case n_OWN_WORDS=>k_is)
  (case q_OWN_WORDS=>refine' L3.nv ?h;(case h=>k_is))
  (case n_SORTS=>k_is)
  (case q_SORTS=>refine' L3.wQ ?h;(case h=>k_is))
  (case n_ENDS=>k_is)
  (case q_ENDS=>refine' L3.yB ?h;(case h=>k_is))
  (case n_OWN_FAULTS=>k_is)
  (case q_OWN_FAULTS=>refine' L3.kI ?h;(case h=>k_is))
  (case n_DOUBLE_SIGNS=>k_is)
  (case q_DOUBLE_SIGNS=>refine' L3.jk ?h;(case h=>k_is))
  (case z_len=>k_is)
  (case z_int=>k_is)
  (case z_max=>k_is)
  (case z_min=>k_is)
  (case z_range=>k_is)
  (case z_isinstance=>k_is)
  (case z_list=>k_is)
  (case z_str=>k_is)
  (case z_bool=>k_is)
  (case z_tuple=>k_is)
  (case z_all=>k_is)
  (case z_dict=>k_is)
  (case z_enumerate=>k_is)
  (case z_zip=>k_is)
  (case z_ValueError=>k_is)
  (case xR=>walk_at "class of refusals")
  (case rd=>k_is)
  (case ri=>k_is)
  (case mR=>walk_at "def of a class")
  (case xL=>walk_at "class of refusals")
  (case aL=>k_is)
  (case iL=>k_is)
  (case nL=>k_is)
  (case pL=>k_is)
  (case mL=>walk_at "def of a class")
