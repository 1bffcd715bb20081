import PyProof.Rows.All
import Wide.All
import OpenK.AllK
import Wide.FinOn
import Lean
import PyProof.EqAt
import PyProof.EqKinds
import PyProof.TupleCall
import PySem.Challenge.RW_rowsbeneath_k14_states_made
set_option Elab.async false
set_option linter.all false
set_option maxRecDepth 100000
set_option maxHeartbeats 0
abbrev ZF:=PySem.W.Frag
section
open PySem PySem.Spec PyProof.Rows
def D6:=@Heap.get?_push_of_some
def D7:=@List.getElem?_eq_some_iff
def D8:=@List.length_map
def D9:=@List.length_append
def Ea:=@List.size_toArray
def Eb:=@List.mem_cons_self
def Ec:=@Nat.le_refl
def Ed:=@Heap.lt_size
def Ee:=@Bool.false_ne_true
def Ef:=@List.mem_cons_of_mem
def Eg:=@List.mem_singleton
def Eh:=@List.length_cons
def Ei:=@PySem.boot_len
def Ej:=@PySem.W.mg_of
def Ek:=@List.map_append
def El:=@Heap.get?_push_size
def Em:=@List.length_take
def En:=@Nat.lt_of_lt_of_le
def Eo:=@List.mem_cons
def Ep:=@Nat.zero_le
def Er:=@List.map_cons
def Es:=@Nat.ne_of_lt
def Et:=@PySem.F.plainAttrs_list
def Eu:=@PySem.F.type_list_append
def Ev:=@PySem.F.slot_list_append
def Ew:=@Nat.le_trans
def Ex:=@List.length_replicate
def Ey:=@Option.some.inj
def Ez:=@Bool.eq_false_iff
def EA:=@Bool.and_eq_true
def EB:=@List.mem_append_right
def EC:=@List.append_nil
def ED:=@PySem.W.mg_none_of
def EE:=@List.not_mem_nil
def EF:=@List.getElem?_eq_getElem
def EH:=@List.append_assoc
def EI:=@List.flatten_cons
def EJ:=@PyProof.Rows.boot_int
def EK:=@List.drop_eq_getElem_cons
def EL:=@PyProof.Rows.callWith_type1
def EM:=@List.mem_append
def EQ:=@List.all_eq_true
def ER:=@List.take_length
def ET:=@List.length_drop
def EU:=@List.getElem?_map
def EV:=@List.mem_of_getElem?
def EX:=@PySem.W.callWith_K
def EY:=@PySem.W.kia_one
def EZ:=@List.contains_iff_mem
def E1:=@Bool.eq_iff_iff
def E2:=@Nat.lt_irrefl
def E3:=@List.mem_of_mem_take
def E4:=@List.lookup_cons
def E5:=@List.take_of_length_le
def E6:=@Int.toNat_natCast
def E7:=@Heap.size_push
def E8:=@List.length_nil
def E9:=@List.getElem_mem
def Fa:=@List.mem_map
def Fb:=@List.cons_append
def Fc:=@List.take_append_drop
def Fd:=@List.take_succ
def Fe:=@List.mem_append_left
def Ff:=@List.length_eq_zero_iff
def Fg:=@List.filterMap_cons
def Fh:=@PySem.mem_of_lookup
def Fi:=@Nat.lt_succ_self
def Fj:=@List.find?_cons
def Fk:=@List.getElem?_append_right
def Fl:=@List.mem_range
def Fo:=@List.getElem?_append_left
def Fp:=@List.nodup_cons
def Fq:=@List.of_mem_zip
def Fr:=@Calls.callWith_builtin
def Fs:=@List.map_map
def Ft:=@List.any_cons
def Fu:=@List.nil_append
def Fv:=@Nat.ne_of_gt
end
set_option hygiene false in
local macro_rules|`(tactic| walk_at "l")=>`(tactic| first|(cases h;subst_vars;rfl)|((repeat rcases h with ⟨_,h⟩)<;>(subst_vars;rfl)))
set_option hygiene false in
local macro_rules|`(tactic| walk_at "o")=>`(tactic| refine F.ok ZZ (fun vs H Q E h=>by walk_at "l") (fun cdv A outer s H vs Q E hr h=>?_))
set_option hygiene false in
local macro_rules|`(tactic| walk_at "ob")=>`(tactic| refine F.okb ZZ (fun vs H Q E h=>by walk_at "l") (fun cdv A outer s H vs Q E hr h=>?_))
local macro_rules|`(tactic| walk_at "0")=>`(tactic| exact fun _ _ _ _ _ _ us hl=>match us,hl with|[],_=>rfl)
local macro_rules|`(tactic| walk_at "1")=>`(tactic| exact fun _ _ _ _ _ _ us hl=>match us,hl with|[_],_=>rfl)
local macro_rules|`(tactic| walk_at "2")=>`(tactic| exact fun _ _ _ _ _ _ us hl=>match us,hl with|[_,_],_=>rfl)
local macro_rules|`(tactic| walk_at "3")=>`(tactic| exact fun _ _ _ _ _ _ us hl=>match us,hl with|[_,_,_],_=>rfl)
local macro_rules|`(tactic| walk_at "4")=>`(tactic| exact fun _ _ _ _ _ _ us hl=>match us,hl with|[_,_,_,_],_=>rfl)
local macro_rules|`(tactic| walk_at "5")=>`(tactic| exact fun _ _ _ _ _ _ us hl=>match us,hl with|[_,_,_,_,_],_=>rfl)
local macro_rules|`(tactic| walk_at "6")=>`(tactic| exact fun _ _ _ _ _ _ us hl=>match us,hl with|[_,_,_,_,_,_],_=>rfl)
local macro_rules|`(tactic| walk_at "7")=>`(tactic| exact fun _ _ _ _ _ _ us hl=>match us,hl with|[_,_,_,_,_,_,_],_=>rfl)
local macro_rules|`(tactic| walk_at "8")=>`(tactic| exact fun _ _ _ _ _ _ us hl=>match us,hl with|[_,_,_,_,_,_,_,_],_=>rfl)
local macro_rules|`(tactic| walk_at "9")=>`(tactic| exact fun _ _ _ _ _ _ us hl=>match us,hl with|[_,_,_,_,_,_,_,_,_],_=>rfl)
theorem zk {p:Prop} (h:p:=by decide +kernel):p:=h
theorem zo {p:Prop} (h:p:=by lia):p:=h
theorem zd {p:Prop} (h:p:=by decide):p:=h
theorem zlx (h:Nat.ble n 1000=true:=by rfl):n<=PySem.sizeLine:=Nat.le_trans (Nat.le_of_ble_eq_true h) zd
namespace L2
open PySem PySem.Spec PyProof.Rows
abbrev dA:=Sum Int Str
def jU:dA->Value->Bool
 | .inl k,v=>Value.isInt k v
 | .inr x,v=>Value.isStrOf x v
def B8 (w:World):dA->Int
 | .inl k=>hashInt k
 | .inr x=>hashStr w x
theorem bX:∀ {k:dA} {v:Value},jU k v=true->(∃ i t,k=Sum.inl i/\v=Value.int i t)\/(∃ x t,k=Sum.inr x/\v=Value.str x t)
 | .inl i,v,h=>by
  obtain ⟨t,e⟩:=Value.isInt_shape (k:=i) (v:=v) h;exact .inl ⟨i,t,rfl,e⟩
 | .inr x,v,h=>by
  obtain ⟨t,e⟩:=Value.isStrOf_shape (x:=x) (v:=v) h;exact .inr ⟨x,t,rfl,e⟩
theorem qV (i:Int) (t:Tok):jU (.inl i) (.int i t)=true:=by simp [jU,Value.isInt]
theorem qW (x:Str) (t:Tok):jU (.inr x) (.str x t)=true:=by simp [jU,Value.isStrOf]
theorem yw (a b:Int):decide ((Sum.inl a:dA)=Sum.inl b)=(a == b):=by
 by_cases e:a=b
 ·subst e;simp
 ·have h:¬ (Sum.inl a:dA)=Sum.inl b:=fun q=>e (Sum.inl.inj q);rw [decide_eq_false h];exact (beq_eq_false_iff_ne.mpr e).symm
theorem yx (a b:Str):decide ((Sum.inr a:dA)=Sum.inr b)=decide (a=b):=by
 by_cases e:a=b
 ·subst e;simp
 ·have h:¬ (Sum.inr a:dA)=Sum.inr b:=fun q=>e (Sum.inr.inj q);rw [decide_eq_false h,decide_eq_false e]
theorem yy (a:Int) (b:Str):decide ((Sum.inl a:dA)=Sum.inr b)=false:=decide_eq_false (fun q=>nomatch q)
theorem yz (a:Str) (b:Int):decide ((Sum.inr a:dA)=Sum.inl b)=false:=decide_eq_false (fun q=>nomatch q)
def cD (prog:Program) (w:World):PySem.KeyKind prog w dA where
 is:=jU
 hash:=B8 w
 inj:=fun v a b ha hb=>by
  rcases bX ha with ⟨i,t,rfl,rfl⟩|⟨x,t,rfl,rfl⟩
  ·rcases bX hb with ⟨j,u,rfl,e⟩|⟨y,u,rfl,e⟩
   ·injection e with e1 _;rw [e1]
   ·exact nomatch e
  ·rcases bX hb with ⟨j,u,rfl,e⟩|⟨y,u,rfl,e⟩
   ·exact nomatch e
   ·injection e with e1 _;rw [e1]
 byValue:=fun k v h=>by
  rcases bX h with ⟨i,t,rfl,rfl⟩|⟨x,t,rfl,rfl⟩<;>rfl
 pyHash:=fun hv h=>by
  rcases bX hv with ⟨i,t,rfl,rfl⟩|⟨x,t,rfl,rfl⟩
  ·exact wpAny_pyHash_int h
  ·exact wpAny_pyHash_str h
 eqBool:=fun hu hv h=>by
  rcases bX hu with ⟨i,t,rfl,rfl⟩|⟨x,t,rfl,rfl⟩
  ·rcases bX hv with ⟨j,u,rfl,rfl⟩|⟨y,u,rfl,rfl⟩
   ·rw [yw] at h;exact wpAny_eqBool_int h
   ·rw [yy] at h;exact SeqAt.EqAt.int_str i t y u _ _ _ _ h
  ·rcases bX hv with ⟨j,u,rfl,rfl⟩|⟨y,u,rfl,rfl⟩
   ·rw [yz] at h;exact SeqAt.EqAt.str_int x t j u _ _ _ _ h
   ·rw [yx] at h;exact wpAny_eqBool_str h
 «strs»:=fun k x t v h=>by
  rcases bX h with ⟨i,u,rfl,e⟩|⟨y,u,rfl,e⟩
  ·exact nomatch e
  ·injection e with e1 _;subst e1;cases v<;>rfl
theorem mv (prog:Program) (w:World) (i:Int) (t:Tok):(cD prog w).is (.inl i) (.int i t)=true:=qV i t
theorem mw (prog:Program) (w:World) (x:Str) (t:Tok):(cD prog w).is (.inr x) (.str x t)=true:=qW x t
inductive V where
 | non|bl (b:Bool)|int (i:Int)|str (x:Str)|byt (b:Array UInt8)|flt (b:UInt64)|ref (a:Addr)|ty (n:String)
 deriving DecidableEq
def RelV:V->Value->Prop
 | .non,u=>u=Value.none
 | .bl b,u=>u=Value.bool b
 | .int i,u=>∃ t,u=Value.int i t
 | .str x,u=>∃ t,u=Value.str x t
 | .byt b,u=>∃ t,u=Value.bytes b t
 | .flt b,u=>∃ t,u=Value.float b t
 | .ref a,u=>u=Value.ref a
 | .ty n,u=>u=Value.type n
abbrev Vals:List V->List Value->Prop:=Paired RelV
variable {us:List Value} {xs:List V}
theorem Vals.length (r:Vals xs us):xs.length=us.length:=Paired.length r
theorem Vals.get:∀ {xs:List V} {us:List Value} {i:Nat} {x:V},Vals xs us->xs[i]?=some x->∃ u,us[i]?=some u/\RelV x u
 | _,_,_,_,.nil,e=>by simp at e
 | _,_,0,_,.cons r _,e=>by simp at e;subst e;exact ⟨_,rfl,r⟩
 | _,_,i+1,x,.cons _ t,e=>by
  obtain ⟨u,h1,h2⟩:=Vals.get (i:=i) (x:=x) t (by simpa using e);exact ⟨u,by simpa using h1,h2⟩
variable {u:Value} {x:V}
theorem Vals.set (r:RelV x u):∀ {xs:List V} {us:List Value} (i:Nat),Vals xs us->Vals (xs.set i x) (us.set i u)
 | _,_,_,.nil=>.nil
 | _,_,0,.cons _ t=>.cons r t
 | _,_,i+1,.cons q t=>.cons q (Vals.set r i t)
theorem Vals.append:∀ {xs ys:List V} {us ws:List Value},Vals xs us->Vals ys ws->Vals (xs++ys) (us++ws)
 | _,_,_,_,.nil,s=>s
 | _,_,_,_,.cons r t,s=>.cons r (Vals.append t s)
theorem Vals.take:∀ {xs:List V} {us:List Value} (n:Nat),Vals xs us->Vals (xs.take n) (us.take n)
 | _,_,0,_=>.nil
 | _,_,_+1,.nil=>.nil
 | _,_,n+1,.cons r t=>.cons r (Vals.take n t)
theorem Vals.drop:∀ {xs:List V} {us:List Value} (n:Nat),Vals xs us->Vals (xs.drop n) (us.drop n)
 | _,_,0,r=>r
 | _,_,_+1,.nil=>.nil
 | _,_,n+1,.cons _ t=>Vals.drop n t
def RelO:Option V->Option Value->Prop
 | some v,some u=>RelV v u
 | none,none=>True
 | _,_=>False
def KV {κ:Type}:List (κ×V)->List (κ×Value)->Prop:=Paired fun (p:κ×V) (q:κ×Value)=>p.1=q.1/\RelV p.2 q.2
def kV:dA->V
 | .inl i=>.int i
 | .inr x=>.str x
inductive HO where
 | lst (xs:List V)
 | tup (xs:List V)
 | dK (kvs:List (dA×V))|dT (kvs:List (List dA×V))
 | set (S:Int->Bool) (n:Nat)
 | ins (C dx:Addr) (fs:List (Str×V))
 | own (x:Addr)
 | xd (fs:List (Str×V))
 | met (f x:Addr)
 | rng (lo hi:Int)
 | frz (o:Obj) (u:HO)
 | tbl (ps:Array Value)
 | ext (φ:Heap->Prop)
abbrev Hp:=Addr->Option HO
def upd (H:Hp) (a:Addr) (o:HO):Hp:=fun b=>if b=a then some o else H b
variable {o:HO} {a:Addr} {H:Hp}
theorem ae:upd H a o a=some o:=by unfold upd;rw [if_pos rfl]
variable {b:Addr}
theorem aj (h:b≠a):upd H a o b=H b:=by unfold upd;rw [if_neg h]
theorem Al {o u:HO} (h:H a=some o) (h':H b=some u) (d:o≠u):a≠b:=by
 intro e;subst e;rw [h] at h';exact d (Ey h')
theorem aq (h:H a=some o) (h':H b=none):a≠b:=by
 intro e;subst e;rw [h] at h';cases h'
def TupP (h:Heap) (a:Addr) (items:Array Value):Prop:=∃ o,h.get? a=some o/\(o.cls,o.dict)=(Value.type "tuple",none)/\∃ n,o.data=Data.seq items n
variable {items:Array Value} {h:Heap}
theorem TupP.up (p:TupP h a items):IsTup h a items:=let ⟨o,e,c,d⟩:=p;⟨o,e,(Prod.mk.inj c).1,d⟩
theorem TupP.lt (p:TupP h a items):a < h.objs.size:=let ⟨_,e,_⟩:=p;Ed e
theorem TupP.new (h:Heap) (items:Array Value):TupP (h.push { cls:=.type "tuple",data:=.seq items }) h.objs.size items:=⟨_,El _ rfl,rfl,_,rfl⟩
section
variable (P:Program) (w:World)
def ObjOk (H:Hp) (h:Heap) (a:Addr):HO->Prop
 | .lst xs=>xs.length<=sizeLine/\∃ (its:List Value) (n:Nat),Vals xs its/\h.get? a=some { cls:=.type "list",data:=.seq its.toArray n }
 | .tup xs=>xs.length<=sizeLine/\∃ its:List Value,Vals xs its/\TupP h a its.toArray
 | .dK kvs=>kvs.length<=sizeLine/\(a == sysModules)=false/\∃ vs,KV kvs vs/\h.DictOf (cD P w) a vs
 | .dT kvs=>kvs.length<=sizeLine/\(a == sysModules)=false/\∃ xs:List (List dA×Addr×Value),
   Paired (fun (p:List dA×V) (q:List dA×Addr×Value)=>p.1=q.1/\H q.2.1=some (.tup (p.1.map kV))/\RelV p.2 q.2.2) kvs xs /\
   ∃ o es ep,h.get? a=some o/\o.ExactDict/\o.data=.dict es ep/\es.toList=xs.map (entryOfKey (tupleKind (cD P w)))/\(xs.map (·.1)).Nodup
 | .set S n=>h.SetOf (intKind P w) a S n
 | .ins C dx fs=>H dx=some (.own a)/\fs.length<=1000/\dx≠a/\h.get? a=some (PySem.W.instObj C dx) /\
   ∃ mA,h.Ns1 dx mA/\(∀ f,RelO (fs.lookup f) (mA f))/\PySem.Within mA (fs.map (·.1))
 | .own _=>∃ o,h.get? a=some o
 | .xd fs=>∃ mA,h.Ns1 a mA/\∀ f,RelO (fs.lookup f) (mA f)
 | .rng lo hi=>∃ t u v,h.get? a=some { cls:=.type "range",data:=.fields #[.int lo t,.int hi u,.int 1 v] }
 | .frz o u=>h.get? a=some o/\ObjOk H h a u
 | .tbl ps=>h.get? a=some { cls:=.none,data:=.fields ps }
 | .met f x=>h.get? a=some (PySem.W.methodObj (.ref f) (.ref x))
 | .ext φ=>φ h/\(∃ o,h.get? a=some o)/\∀ h1 h2:Heap,φ h1->(∀ o,h1.get? a=some o->h2.get? a=some o)->φ h2
def HOk (H:Hp) (h:Heap):Prop:=∀ a o,H a=some o->ObjOk P w H h a o
end
section
variable {P:Program} {w:World} {H H':Hp} {h h':Heap} {a:Addr} {o:HO}
theorem ObjOk.lt (x:ObjOk P w H h a o):a < h.objs.size:=by
 cases o with
 | lst xs=>obtain ⟨_,_,_,_,e⟩:=x;exact Ed e
 | tup xs=>obtain ⟨_,_,_,p⟩:=x;exact p.lt
 | dK kvs=>obtain ⟨_,_,_,_,o,_,_,e,_⟩:=x;exact Ed e
 | dT kvs=>obtain ⟨_,_,_,_,o,_,_,e,_⟩:=x;exact Ed e
 | set S n=>obtain ⟨o,_,_,_,e,_⟩:=x;exact Ed e
 | ins C dx fs=>obtain ⟨_,_,_,e,_⟩:=x;exact Ed e
 | own y=>obtain ⟨_,e⟩:=x;exact Ed e
 | xd fs=>obtain ⟨_,⟨_,_,_,e,_⟩,_⟩:=x;exact Ed e
 | rng lo hi=>obtain ⟨_,_,_,e⟩:=x;exact Ed e
 | frz ob u=>obtain ⟨e,_⟩:=x;exact Ed e
 | tbl ps=>exact Ed (show h.get? a=some _ from x)
 | met f y=>exact Ed (show h.get? a=some _ from x)
 | ext φ=>obtain ⟨_,⟨_,e⟩,_⟩:=x;exact Ed e
theorem Paired.mapP {α β:Type} {F G:α->β->Prop}:∀ {l₁:List α} {l₂:List β},Paired F l₁ l₂->(∀ a b,F a b->G a b)->Paired G l₁ l₂
 | _,_,.nil,_=>.nil
 | _,_,.cons r t,f=>.cons (f _ _ r) (Paired.mapP t f)
theorem ObjOk.stay (x:ObjOk P w H h a o) (k:∀ b u,(b=a\/H b=some (.own a))->h.get? b=some u->h'.get? b=some u)
  (ho:∀ b,H b=some (.own a)->H' b=some (.own a)) (ht:∀ b xs,H b=some (.tup xs)->H' b=some (.tup xs)):ObjOk P w H' h' a o:=by
 induction o with
 | lst xs=>obtain ⟨z,its,n,r,e⟩:=x;exact ⟨z,its,n,r,k _ _ (.inl rfl) e⟩
 | tup xs=>obtain ⟨z,its,r,ob,e,c⟩:=x;exact ⟨z,its,r,ob,k _ _ (.inl rfl) e,c⟩
 | dK kvs=>obtain ⟨z,y,vs,r,ob,es,ep,e,c⟩:=x;exact ⟨z,y,vs,r,ob,es,ep,k _ _ (.inl rfl) e,c⟩
 | dT kvs=>
  obtain ⟨z,y,xs,r,ob,es,ep,e,c⟩:=x;exact ⟨z,y,xs,Paired.mapP r fun p q z=>⟨z.1,ht _ _ z.2.1,z.2.2⟩,ob,es,ep,k _ _ (.inl rfl) e,c⟩
 | set S n=>obtain ⟨ob,es,ep,t,e,c⟩:=x;exact ⟨ob,es,ep,t,k _ _ (.inl rfl) e,c⟩
 | ins C dx fs=>
  obtain ⟨d,z,ne,e,mA,⟨od,es,ep,e2,c⟩,r⟩:=x;exact ⟨ho _ d,z,ne,k _ _ (.inl rfl) e,mA,⟨od,es,ep,k _ _ (.inr d) e2,c⟩,r⟩
 | own y=>obtain ⟨ob,e⟩:=x;exact ⟨ob,k _ _ (.inl rfl) e⟩
 | xd fs=>obtain ⟨mA,⟨od,es,ep,e,c⟩,r⟩:=x;exact ⟨mA,⟨od,es,ep,k _ _ (.inl rfl) e,c⟩,r⟩
 | rng lo hi=>obtain ⟨t,u,v,e⟩:=x;exact ⟨t,u,v,k _ _ (.inl rfl) e⟩
 | frz ob u ih=>obtain ⟨e,q⟩:=x;exact ⟨k _ _ (.inl rfl) e,ih q⟩
 | tbl ps=>
  have e:h.get? a=some { cls:=.none,data:=.fields ps }:=x;show h'.get? a=some { cls:=.none,data:=.fields ps };exact k a _ (.inl rfl) e
 | met f y=>
  have e:h.get? a=some (PySem.W.methodObj (.ref f) (.ref y)):=x;show h'.get? a=some (PySem.W.methodObj (.ref f) (.ref y));exact k a _ (.inl rfl) e
 | ext φ=>obtain ⟨p,⟨o,e⟩,st⟩:=x;exact ⟨st _ _ p fun o q=>k _ _ (.inl rfl) q,⟨o,k _ _ (.inl rfl) e⟩,st⟩
theorem HOk.lt (x:HOk P w H h) (e:H a=some o):a < h.objs.size:=(x a o e).lt
theorem HOk.fresh (x:HOk P w H h) (e:h.objs.size<=a):H a=none:=by
 cases q:H a with
 | none=>rfl
 | some u=>exact absurd (En (x.lt q) e) (E2 _)
theorem HOk.kept (x:HOk P w H h) (k:∀ b u,h.get? b=some u->h'.get? b=some u):HOk P w H h':=fun a o e=>
 (x a o e).stay (fun b u _ q=>k b u q) (fun _ q=>q) fun _ _ q=>q
theorem HOk.laid (x:HOk P w H h) (k:∀ b u,h.get? b=some u->h'.get? b=some u) (hp:h.objs.size<=a) (new:ObjOk P w (upd H a o) h' a o):HOk P w (upd H a o) h':=fun b u e=>by
 have hn:=x.fresh hp;by_cases hb:b=a
 ·subst hb;rw [ae] at e;cases e;exact new
 ·rw [aj hb] at e;exact (x b u e).stay (fun c v _ q=>k c v q) (fun c q=>by rw [aj (aq q hn)];exact q) fun c xs q=>by rw [aj (aq q hn)];exact q
end
def Rd (H:Hp) (a:Addr) (u:HO):Prop:=H a=some u\/∃ o,H a=some (.frz o u)
variable {w:World} {P:Program}
theorem Rd.ok {u:HO} (r:Rd H a u) (x:HOk P w H h):ObjOk P w H h a u:=by
 rcases r with r|⟨o,r⟩
 ·exact x a u r
 ·obtain ⟨_,q⟩:=x a _ r;exact q
def Am:Option HO->Prop
 | some (.lst _)=>True
 | some (.dK _)=>True
 | some (.dT _)=>True
 | some (.set _ _)=>True
 | some (.ins _ _ _)=>True
 | some (.ext _)=>True
 | _=>False
section
variable {P:Program} {w:World} {H:Hp} {h h':Heap} {x e:Addr} {o':HO}
theorem HOk.write (ok:HOk P w H h) (mu:Am (H x)) (he:e=x\/H e=some (.own x)) (k:∀ b u,b≠e->h.get? b=some u->h'.get? b=some u) (heo:∃ u,h'.get? e=some u)
  (new:ObjOk P w (upd H x o') h' x o'):HOk P w (upd H x o') h':=fun b u q=>by
 have nown:∀ c y,H c=some (.own y)->c≠x:=fun c y r z=>by subst z;rw [r] at mu;exact mu
 have ntup:∀ c xs,H c=some (.tup xs)->c≠x:=fun c xs r z=>by subst z;rw [r] at mu;exact mu
 by_cases hb:b=x
 ·subst hb;rw [ae] at q;cases q;exact new
 ·rw [aj hb] at q;by_cases hbe:b=e
  ·have q':H b=some (.own x):=by
    rcases he with z|z
    ·exact absurd (hbe.trans z) hb
    ·rw [hbe];exact z
   rw [q] at q';cases q';obtain ⟨v,hv⟩:=heo;exact ⟨v,by rw [hbe];exact hv⟩
  ·refine (ok b u q).stay (fun c v hc r=>k c v ?_ r) (fun c r=>by rw [aj (nown c b r)];exact r) fun c xs r=>by rw [aj (ntup c xs r)];exact r
   rcases hc with rfl|hc
   ·exact hbe
   ·rintro rfl;rcases he with z|z
    ·exact nown c b hc z
    ·rw [hc] at z;cases z;exact hb rfl
end
structure Un (fs ex:List Addr) (H H':Hp) (h h':Heap):Prop where
 keep:∀ b o,h.get? b=some o->H b=none->b∉fs->b∉ex->h'.get? b=some o
 slot:∀ b o,h.get? b=some o->H b=none->b∈fs->b∉ex->∃ sl,h'.get? b=some { o with slots:=sl }
 free:∀ b o,h.get? b=some o->H b=none->b∉ex->H' b=none
 there:∀ b o,h.get? b=some o->b∉ex->∃ o',h'.get? b=some o'
 tups:∀ b xs,H b=some (.tup xs)->H' b=some (.tup xs)
 frzs:∀ b o u,H b=some (.frz o u)->H' b=some (.frz o u)
 tbls:∀ b ps,H b=some (.tbl ps)->∃ more,H' b=some (.tbl (ps++more))
section
variable {fs fs' ex ex':List Addr} {H H1 H2:Hp} {h h1 h2 h':Heap} {a x e:Addr} {o:HO}
theorem Un.any (u:Un fs ex H H1 h h1) {ob:Obj} (q:h.get? b=some ob) (n:H b=none) (hx:b∉ex):∃ sl,h1.get? b=some { ob with slots:=sl }:=by
 by_cases hb:b∈fs
 ·exact u.slot b ob q n hb hx
 ·exact ⟨ob.slots,u.keep b ob q n hb hx⟩
theorem Un.kept (k:∀ b u,h.get? b=some u->h'.get? b=some u):Un fs ex H H h h':=
 ⟨fun b ob q _ _ _=>k b ob q,fun b ob q _ _ _=>⟨ob.slots,k b ob q⟩,fun _ _ _ n _=>n,fun b ob q _=>⟨ob,k b ob q⟩,fun _ _ q=>q,fun _ _ _ q=>q,fun _ ps q=>⟨#[],by rw [q];simp⟩⟩
theorem Un.refl:Un fs ex H H h h:=Un.kept fun _ _ q=>q
theorem Un.laid (k:∀ b u,h.get? b=some u->h'.get? b=some u) (hp:h.objs.size<=a) (hn:H a=none):Un fs ex H (upd H a o) h h' where
 keep:=fun b u q _ _ _=>k b u q
 slot:=fun b u q _ _ _=>⟨u.slots,k b u q⟩
 free:=fun b u q n _=>by rw [aj (Es (En (Ed q) hp))];exact n
 there:=fun b u q _=>⟨u,k b u q⟩
 tups:=fun b xs q=>by rw [aj (aq q hn)];exact q
 frzs:=fun b u xs q=>by rw [aj (aq q hn)];exact q
 tbls:=fun b ps q=>⟨#[],by rw [aj (aq q hn),q];simp⟩
theorem Un.write (mu:Am (H x)) (he:e=x\/H e=some (.own x)) (k:∀ b u,b≠e->h.get? b=some u->h'.get? b=some u) (heo:∃ u,h'.get? e=some u):Un fs ex H (upd H x o) h h':=by
 have hx:∀ b,H b=none->b≠x:=fun b n z=>by subst z;rw [n] at mu;exact mu
 have hb:∀ b,H b=none->b≠e:=fun b n z=>by
  subst z;rcases he with r|r
  ·exact hx b n r
  ·rw [n] at r;cases r
 have hm:∀ b u,H b=some u->¬ Am (some u)->b≠x:=fun b u q nm z=>by subst z;rw [q] at mu;exact nm mu
 refine ⟨fun b u q n _ _=>k b u (hb b n) q,fun b u q n _ _=>⟨u.slots,k b u (hb b n) q⟩,fun b u q n _=>by rw [aj (hx b n)];exact n,fun b u q _=>?_,
  fun b xs q=>by rw [aj (hm b _ q fun z=>z)];exact q,fun b u xs q=>by rw [aj (hm b _ q fun z=>z)];exact q,fun b ps q=>⟨#[],by rw [aj (hm b _ q fun z=>z),q];simp⟩⟩
 by_cases hbe:b=e
 ·subst hbe;exact heo
 ·exact ⟨u,k b u hbe q⟩
end
def BR (h:Heap) (H:Hp):List Addr:=(List.range h.objs.size).filter fun a=>(H a).isSome
def ky (h:Heap) (H:Hp):Heap:=PySem.W.hideAll h (BR h H)
theorem qX (h:Heap) (H:Hp):(ky h H).objs.size=h.objs.size:=PySem.W.hideAll_size _ _
theorem ss {o:Obj} (e:h.get? b=some o) (n:H b=none):(ky h H).get? b=some o:=
 PySem.W.hideAll_get _ e fun hm=>by
  have q:(H b).isSome=true:=(List.mem_filter.mp hm).2;rw [n] at q;simp at q
theorem vQ {o:Obj} (e:(ky h H).get? b=some o):h.get? b=some o/\H b=none:=by
 have e':h.get? b=some o:=PySem.W.of_hideAll (BR h H) e;refine ⟨e',?_⟩;cases q:H b with
 | none=>rfl
 | some x=>
  have hm:b∈BR h H:=List.mem_filter.mpr ⟨Fl.mpr (Ed e'),by simp [q]⟩;have z:(ky h H).get? b=none:=PySem.W.hideAll_none (BR h H) hm;rw [z] at e;cases e
structure Mod (K:ZF) (mg:Str->Option Value) (base:Heap):Prop where
 kin:K.In base
 glob:base.Ns mainGlobals mg
 blt:∃ mb,base.Ns builtinsNs mb/\∀ x:Str,x≠"__name__"->mb x=bootBuiltins x
 nolimit:base.NoLimit
structure Cx where
 prog:Program
 w:World
 K:ZF
 mg:Str->Option Value
 base:Heap
 A:Around
 N:List Str
 s₀:Shared
 H₀:Hp
 env:Env
 outer:List Env
 stack:List Env
 ex:List Addr
 fn:Str->Bool
 calm:Bool
 pn:List (Addr×Obj)
 xe:Value->Shared->Prop
def kz (l:List Env):List Addr:=l.filterMap (·.frame)
abbrev Cx.fs (X:Cx):List Addr:=kz X.outer
def An (sc:Scope) (x:Str):Prop:=sc.names.lookup x=some .local\/sc.names.lookup x=some .cell\/sc.names.lookup x=some .free
def Ao (sc:Scope) (x:Str):Prop:=sc.names.lookup x=some .local\/sc.names.lookup x=some .cell
def Ap (env:Env) (h:Heap) (m:Str->Option Value) (x:Str) (u:Value):Prop:=
 (env.kindOf x=some .local/\m x=some u)\/((env.kindOf x=some .cell\/env.kindOf x=some .free)/\∃ c,env.cells.lookup x=some c/\h.IsCell c (some u))
structure Cx.Ok (X:Cx):Prop where
 mod:Mod X.K X.mg X.base
 kind:X.env.scope.kind=.function
 glob:X.env.globals=mainGlobals
 blt:X.env.builtins=builtinsNs
 above:X.s₀.heap.objs.size<=X.env.locals
 inj:∀ x y c,X.env.cells.lookup x=some c->X.env.cells.lookup y=some c->x=y
 has:∀ x,(X.env.kindOf x=some .cell\/X.env.kindOf x=some .free)->∃ c,X.env.cells.lookup x=some c
 cab:∀ x c,X.fn x=true->X.env.cells.lookup x=some c->X.s₀.heap.objs.size<=c
 hd:X.calm=true->X.A.handled=none
 frames:X.A.frames=some X.stack
 stk:X.stack=X.outer\/(X.stack=X.env::X.outer/\X.env.frame=some X.env.locals)
 exf:∀ b∈X.ex,b≠X.env.locals/\∀ x c,X.env.cells.lookup x=some c->c≠b
 bs:∀ b o,X.base.get? b=some o->X.s₀.heap.get? b=some o/\X.H₀ b=none
 bsz:X.base.objs.size<=X.s₀.heap.objs.size
 noex:∀ b o,X.base.get? b=some o->b∉X.ex
 exfs:∀ b∈X.ex,b∉X.fs
 funs:X.s₀.heap.FunFrames X.base X.outer
 frf:∀ b∈X.fs,X.H₀ b=none
structure Inv (X:Cx) (pins:List (Addr×Obj)) (σ:List (Option V)) (H:Hp) (s:Shared):Prop where
 ok:X.Ok
 os:s.os=X.s₀.os
 bare:AllBare s.gens
 base:Un X.fs X.ex X.H₀ H X.s₀.heap s.heap
 loc:∃ m,s.heap.Ns X.env.locals m/\∀ (i:Nat) (x:Str) (v:V),X.N[i]?=some x->σ[i]?=some (some v)->An X.env.scope x->∃ u,RelV v u/\Ap X.env s.heap m x u
 cell:∀ x c,X.env.cells.lookup x=some c->∃ v,s.heap.IsCell c v
 free:H X.env.locals=none
 freeC:∀ x c,X.env.cells.lookup x=some c->H c=none
 pin:∀ p∈X.pn++pins,s.heap.get? p.1=some p.2/\H p.1=none/\p.1≠X.env.locals/\p.1∉X.fs/\∀ v,p.2.data≠.cell v
 hok:HOk X.prog X.w H s.heap
 len:σ.length=X.N.length
section
variable {X:Cx} {pins:List (Addr×Obj)} {σ:List (Option V)} {H H':Hp} {s:Shared} {h':Heap}
theorem Cx.Ok.nofr (ok:X.Ok) {o:Obj} (e:X.base.get? b=some o):b∉X.fs:=fun hb=>by
 have:=(ok.funs.mem hb).1;rw [e] at this;cases this
theorem Inv.bs (I:Inv X pins σ H s):∀ b o,X.base.get? b=some o->s.heap.get? b=some o/\H b=none:=fun b o e=>
 ⟨I.base.keep b o (I.ok.bs b o e).1 (I.ok.bs b o e).2 (I.ok.nofr e) (I.ok.noex b o e),I.base.free b o (I.ok.bs b o e).1 (I.ok.bs b o e).2 (I.ok.noex b o e)⟩
theorem Inv.bk (I:Inv X pins σ H s):∀ b o,X.base.get? b=some o->s.heap.get? b=some o:=fun b o e=>(I.bs b o e).1
theorem Inv.mod (I:Inv X pins σ H s):Mod X.K X.mg X.base:=I.ok.mod
theorem Inv.kIn (I:Inv X pins σ H s):X.K.In s.heap:=I.ok.mod.kin.keeps I.bk
theorem Inv.lt (I:Inv X pins σ H s):X.env.locals < s.heap.objs.size:=let ⟨_,hn,_⟩:=I.loc;hn.lt
theorem Inv.sz (I:Inv X pins σ H s):X.s₀.heap.objs.size<=s.heap.objs.size:=Ew I.ok.above (Nat.le_of_lt I.lt)
theorem Inv.nofs (I:Inv X pins σ H s) (h:s.heap.objs.size<=a):a∉X.fs:=fun hb=>by
 obtain ⟨_,o,ho,_⟩:=I.ok.funs.mem hb;exact absurd (En (Ed ho) (Ew I.sz h)) (E2 _)
theorem Inv.cne (I:Inv X pins σ H s):∀ x c,X.env.cells.lookup x=some c->c≠X.env.locals:=fun x c e z=>by
 obtain ⟨v,o,ho,hd⟩:=I.cell x c e;obtain ⟨m,⟨o',es,ep,ho',hd',_⟩,_⟩:=I.loc;rw [z,ho'] at ho;cases ho;rw [hd'] at hd;cases hd
theorem Inv.funs (I:Inv X pins σ H s):s.heap.FunFrames X.base X.outer:=by
 have all:∀ (l:List Env),(∀ b∈kz l,b∈X.fs)->X.s₀.heap.FunFrames X.base l->s.heap.FunFrames X.base l:=by
  intro l;induction l with
  | nil=>intro _ _;trivial
  | cons env r ih=>
   intro hs hl;obtain ⟨hk,⟨L,o,hf,hn,ho,hd⟩,hr⟩:=hl;have hL:L∈X.fs:=hs L (by unfold kz;rw [Fg,hf];exact Eb);obtain ⟨sl,e⟩:=I.base.slot L o ho (I.ok.frf L hL) hL fun z=>I.ok.exfs L z hL;exact ⟨hk,⟨L,_,hf,hn,e,hd⟩,ih (fun b hb=>hs b (by unfold kz;rw [Fg,hf];exact Ef _ hb)) hr⟩
 exact all X.outer (fun _ hb=>hb) I.ok.funs
theorem Inv.stack (I:Inv X pins σ H s):s.heap.FunFrames X.base X.stack:=by
 rcases I.ok.stk with e|⟨e,hf⟩
 ·rw [e];exact I.funs
 ·rw [e];obtain ⟨m,hn,_⟩:=I.loc;refine .cons (by rw [I.ok.kind];decide) hf hn ?_ I.funs;exact Heap.get?_none_of_le (Ew I.ok.bsz I.ok.above)
theorem Inv.stkSub (I:Inv X pins σ H s):∀ b∈kz X.stack,b∈X.env.locals::X.fs:=fun b hb=>by
 rcases I.ok.stk with e|⟨e,hf⟩
 ·rw [e] at hb;exact Ef _ hb
 ·rw [e] at hb;unfold kz at hb;rw [Fg,hf] at hb;exact hb
theorem Inv.stkFree (I:Inv X pins σ H s):∀ b∈kz X.stack,H b=none:=fun b hb=>by
 rcases Eo.mp (I.stkSub b hb) with e|hb
 ·rw [e];exact I.free
 ·obtain ⟨_,o,ho,_⟩:=I.ok.funs.mem hb;exact I.base.free b o ho (I.ok.frf b hb) fun z=>I.ok.exfs b z hb
theorem Inv.step {g':Array GenState} {t':Nat} {d':Drawn} {ch:List Addr} (I:Inv X pins σ H s)
  (hch:∀ b∈ch,(b∈X.ex\/X.s₀.heap.objs.size<=b)/\b≠X.env.locals/\(∀ x c,X.env.cells.lookup x=some c->c≠b)/\∀ p∈X.pn++pins,p.1≠b)
  (keep:∀ b o,b≠X.env.locals->b∉X.fs->b∉ch->s.heap.get? b=some o->H b=none->h'.get? b=some o)
  (slot:∀ b o,b≠X.env.locals->b∈X.fs->b∉ch->s.heap.get? b=some o->H b=none->∃ sl,h'.get? b=some { o with slots:=sl }) (free:∀ b o,b∉ch->s.heap.get? b=some o->H b=none->H' b=none)
  (there:∀ b o,b∉ch->s.heap.get? b=some o->∃ o',h'.get? b=some o')
  (tups:∀ b xs,H b=some (.tup xs)->H' b=some (.tup xs)) (frzs:∀ b o u,H b=some (.frz o u)->H' b=some (.frz o u)) (tbls:∀ b ps,H b=some (.tbl ps)->∃ more,H' b=some (.tbl (ps++more)))
  (ns:∀ m,s.heap.Ns X.env.locals m->h'.Ns X.env.locals m) (hok:HOk X.prog X.w H' h') (hg:AllBare g') :
  Inv X pins σ H' { s with heap:=h',gens:=g',drawn:=d',toks:=t' }:=by
 have neL:∀ b o,X.s₀.heap.get? b=some o->b≠X.env.locals:=fun b o e=>Es (En (Ed e) I.ok.above);have neC:∀ b o,X.s₀.heap.get? b=some o->b∉X.ex->b∉ch:=fun b o e hx hb=>by
  rcases (hch b hb).1 with z|z
  ·exact hx z
  ·exact absurd (En (Ed e) z) (E2 _)
 have cellK:∀ x c,X.env.cells.lookup x=some c->∀ v,s.heap.IsCell c v->h'.IsCell c v:=fun x c e v ⟨o,ho,hd⟩=>by
  have nch:c∉ch:=fun z=>(hch c z).2.2.1 x c e rfl;by_cases hc:c∈X.fs
  ·obtain ⟨sl,q⟩:=slot c o (I.cne x c e) hc nch ho (I.freeC x c e);exact ⟨_,q,hd⟩
  ·exact ⟨o,keep c o (I.cne x c e) hc nch ho (I.freeC x c e),hd⟩
 refine ⟨I.ok,I.os,hg,⟨fun b o e n hb hx=>?_,fun b o e n hb hx=>?_,fun b o e n hx=>?_,fun b o e hx=>?_,fun b xs e=>tups b xs (I.base.tups b xs e),fun b o xs e=>frzs b o xs (I.base.frzs b o xs e),fun b ps e=>?_⟩,?_,fun x c e=>?_,?_,fun x c e=>?_,fun p hp=>?_,hok,I.len⟩
 ·exact keep b o (neL b o e) hb (neC b o e hx) (I.base.keep b o e n hb hx) (I.base.free b o e n hx)
 ·obtain ⟨sl,e1⟩:=I.base.slot b o e n hb hx;obtain ⟨sl',e2⟩:=slot b _ (neL b o e) hb (neC b o e hx) e1 (I.base.free b o e n hx);exact ⟨sl',e2⟩
 ·obtain ⟨o',e1⟩:=I.base.there b o e hx;exact free b o' (neC b o e hx) e1 (I.base.free b o e n hx)
 ·obtain ⟨o',e1⟩:=I.base.there b o e hx;exact there b o' (neC b o e hx) e1
 ·obtain ⟨m1,e1⟩:=I.base.tbls b ps e;obtain ⟨m2,e2⟩:=tbls b _ e1;exact ⟨m1++m2,by rw [e2,Array.append_assoc]⟩
 ·obtain ⟨m,hn,hl⟩:=I.loc;refine ⟨m,ns m hn,fun i x v e1 e2 e3=>?_⟩;obtain ⟨u,r,l⟩:=hl i x v e1 e2 e3;refine ⟨u,r,?_⟩;rcases l with l|⟨k,c,e,z⟩
  ·exact .inl l
  ·exact .inr ⟨k,c,e,cellK x c e _ z⟩
 ·obtain ⟨v,z⟩:=I.cell x c e;exact ⟨v,cellK x c e v z⟩
 ·obtain ⟨m,⟨o,_,_,ho,_⟩,_⟩:=I.loc;exact free _ o (fun z=>(hch _ z).2.1 rfl) ho I.free
 ·obtain ⟨v,o,ho,hd⟩:=I.cell x c e;exact free c o (fun z=>(hch c z).2.2.1 x c e rfl) ho (I.freeC x c e)
 ·obtain ⟨e,n,ne,nf,d⟩:=I.pin p hp;have nch:p.1∉ch:=fun z=>(hch p.1 z).2.2.2 p hp rfl;exact ⟨keep p.1 p.2 ne nf nch e n,free p.1 p.2 nch e n,ne,nf,d⟩
theorem Inv.un {t':Nat} (I:Inv X pins σ H s) (u:Un X.fs [] H H' s.heap h') (hok:HOk X.prog X.w H' h'):Inv X pins σ H' { s with heap:=h',toks:=t' }:=by
 obtain ⟨m,⟨o,es,ep,ho,r⟩,_⟩:=id I.loc;obtain ⟨sl,hL⟩:=u.any ho I.free (by simp);exact I.step (g':=s.gens) (d':=s.drawn) (ch:=[]) (fun _ z=>nomatch z) (fun b o _ hb _ e n=>u.keep b o e n hb (by simp)) (fun b o _ hb _ e n=>u.slot b o e n hb (by simp)) (fun b o _ e n=>u.free b o e n (by simp)) (fun b o _ e=>u.there b o e (by simp)) u.tups u.frzs u.tbls (fun m' hm=>by
  obtain ⟨o',es',ep',ho',r'⟩:=hm;rw [ho] at ho';cases ho';exact ⟨_,es',ep',hL,r'⟩) hok I.bare
variable {ch:List Addr}
theorem Inv.call {g':Array GenState} {t':Nat} {d':Drawn} (I:Inv X pins σ H s) (u:Un (kz X.stack) ch H H' s.heap h') (hok:HOk X.prog X.w H' h') (hg:AllBare g')
  (hch:∀ b∈ch,(b∈X.ex\/X.s₀.heap.objs.size<=b)/\b≠X.env.locals/\(∀ x c,X.env.cells.lookup x=some c->c≠b)/\∀ p∈X.pn++pins,p.1≠b) :
  Inv X pins σ H' { s with heap:=h',gens:=g',drawn:=d',toks:=t' }:=by
 obtain ⟨m,⟨o,es,ep,ho,r⟩,_⟩:=id I.loc;obtain ⟨sl,hL⟩:=u.any ho I.free fun z=>(hch _ z).2.1 rfl;exact I.step (ch:=ch) hch (fun b o hL hb hc e n=>u.keep b o e n (fun z=>(Eo.mp (I.stkSub b z)).elim hL hb) hc) (fun b o _ _ hc e n=>u.any e n hc) (fun b o hc e n=>u.free b o e n hc) (fun b o hc e=>u.there b o e hc) u.tups u.frzs u.tbls (fun m' hm=>by
  obtain ⟨o',es',ep',ho',r'⟩:=hm;rw [ho] at ho';cases ho';exact ⟨_,es',ep',hL,r'⟩) hok hg
theorem Inv.turned {t':Nat} {it:Addr} (I:Inv X pins σ H s) (k:∀ b o,b≠it->s.heap.get? b=some o->h'.get? b=some o) (hn:H it=none) (hL:it≠X.env.locals)
  (h1:it∈X.ex\/X.s₀.heap.objs.size<=it) (h2:∀ x c,X.env.cells.lookup x=some c->c≠it) (h3:∀ p∈X.pn++pins,p.1≠it):Inv X pins σ H { s with heap:=h',toks:=t' }:=by
 have nit:∀ b u,H b=some u->b≠it:=fun b u e z=>by rw [z,hn] at e;cases e
 refine I.step (g':=s.gens) (d':=s.drawn) (ch:=[it]) (fun b hb=>?_) (fun b o _ _ hc e _=>k b o (fun z=>hc (by simp [z])) e) (fun b o _ _ hc e _=>⟨o.slots,k b o (fun z=>hc (by simp [z])) e⟩) (fun _ _ _ _ n=>n)
  (fun b o hc e=>⟨o,k b o (fun z=>hc (by simp [z])) e⟩) (fun _ _ e=>e) (fun _ _ _ e=>e) (fun b ps e=>⟨#[],by rw [e];simp⟩) (fun m hm=>?_) (fun b u e=>?_) I.bare
 ·have e:b=it:=by simpa using hb
  subst e;exact ⟨h1,hL,h2,h3⟩
 ·obtain ⟨o,es,ep,ho,r⟩:=hm;exact ⟨o,es,ep,k _ o (Ne.symm hL) ho,r⟩
 ·refine (I.hok b u e).stay (fun c v hc q=>k c v ?_ q) (fun _ q=>q) fun _ _ q=>q;rcases hc with z|z
  ·rw [z];exact nit b u e
  ·exact nit c _ z
theorem Inv.tok (I:Inv X pins σ H s) (t:Nat):Inv X pins σ H { s with toks:=t }:=I.un (h':=s.heap) (t':=t) Un.refl I.hok
theorem Inv.kept {t':Nat} (I:Inv X pins σ H s) (k:∀ b u,s.heap.get? b=some u->h'.get? b=some u):Inv X pins σ H { s with heap:=h',toks:=t' }:=I.un (Un.kept k) (I.hok.kept k)
theorem Inv.laid {t':Nat} (I:Inv X pins σ H s) (k:∀ b u,s.heap.get? b=some u->h'.get? b=some u) (hp:s.heap.objs.size<=a) (new:ObjOk X.prog X.w (upd H a o) h' a o) :
  Inv X pins σ (upd H a o) { s with heap:=h',toks:=t' }:=I.un (Un.laid k hp (I.hok.fresh hp)) (I.hok.laid k hp new)
theorem Inv.write {x e:Addr} {o:HO} {t':Nat} (I:Inv X pins σ H s) (mu:Am (H x)) (he:e=x\/H e=some (.own x)) (k:∀ b u,b≠e->s.heap.get? b=some u->h'.get? b=some u) (heo:∃ u,h'.get? e=some u)
  (new:ObjOk X.prog X.w (upd H x o) h' x o):Inv X pins σ (upd H x o) { s with heap:=h',toks:=t' }:=I.un (Un.write mu he k heo) (I.hok.write mu he k heo new)
theorem Inv.weak {σ':List (Option V)} (I:Inv X pins σ H s) (hl:σ'.length=σ.length) (w:∀ (i:Nat) v,σ'[i]?=some (some v)->σ[i]?=some (some v)):Inv X pins σ' H s:=
 ⟨I.ok,I.os,I.bare,I.base,let ⟨m,hn,hl'⟩:=I.loc;⟨m,hn,fun i x v e1 e2 e3=>hl' i x v e1 (w i v e2) e3⟩,I.cell,I.free,I.freeC,I.pin,I.hok,hl.trans I.len⟩
theorem Inv.pins_of {pins':List (Addr×Obj)} (I:Inv X pins σ H s) (h:∀ p∈pins',s.heap.get? p.1=some p.2/\H p.1=none/\p.1≠X.env.locals/\p.1∉X.fs/\∀ v,p.2.data≠.cell v):Inv X pins' σ H s:=
 ⟨I.ok,I.os,I.bare,I.base,I.loc,I.cell,I.free,I.freeC,fun p hp=>(EM.mp hp).elim (fun z=>I.pin p (Fe _ z)) (h p),I.hok,I.len⟩
variable {i j:Nat}
theorem i4 {N:List Str} (hN:N.Nodup) {x:Str} (a:N[i]?=some x) (b:N[j]?=some x):i=j:=by
 obtain ⟨h1,e1⟩:=D7.mp a;obtain ⟨h2,e2⟩:=D7.mp b;exact (List.getElem_inj hN).mp (e1.trans e2.symm)
variable {v:V}
theorem jV {M:Model} {A:Around} {E:Value->Shared->Prop} {x:Str} {Q:Unit->Shared->Prop} (I:Inv X pins σ H s) (hN:X.N.Nodup) (hi:X.N[i]?=some x) (hx:Ao X.env.scope x) (r:RelV v u)
  (h:∀ s',Inv X pins (σ.set i (some v)) H s'->(∃ a,Heap.SameBut a s.heap s'.heap/\(a=X.env.locals\/X.env.cells.lookup x=some a))->Q () s') (hf:X.fn x=true\/X.env.scope.names.lookup x=some .local:=by first|exact .inl rfl|exact .inr rfl|assumption):wpAny M A (storeName X.env x u) Q E s:=by
 obtain ⟨m,hn,hl⟩:=id I.loc;have hcls:(X.env.scope.kind == .class || (X.env.scope.kind == .module && X.env.locals != X.env.globals))=false:=by rw [I.ok.kind];rfl
 have hiσ:i < σ.length:=by rw [I.len];exact (D7.mp hi).1
 have cne:=I.cne;have tracked:∀ {a:Addr} {h':Heap},(∃ o,s.heap.get? a=some o/\H a=none)->Heap.SameBut a s.heap h'->HOk X.prog X.w H h':=fun {a h'} ha hs b ob e=>by
  obtain ⟨_,_,hfree⟩:=ha;refine (I.hok b ob e).stay (fun c w' hc q=>(hs.2 c ?_).trans q) (fun _ q=>q) fun _ _ q=>q;rintro rfl;rcases hc with rfl|hc
  ·rw [hfree] at e;cases e
  ·rw [hfree] at hc;cases hc
 rcases hx with hk|hk
 ·refine wpAny_storeName_local hk hn (fun h' hn' hs=>?_) hcls;obtain ⟨oL,_,_,hoL,_⟩:=id hn;refine h _ ⟨I.ok,I.os,I.bare,⟨fun b o e n hb hx=>?_,fun b o e n hb hx=>?_,I.base.free,fun b o e hx=>?_,I.base.tups,I.base.frzs,I.base.tbls⟩,⟨_,hn',fun j y v' e1 e2 e3=>?_⟩,fun y c e=>?_,I.free,I.freeC,fun p hp=>?_,tracked ⟨oL,hoL,I.free⟩ hs,by simpa using I.len⟩ ⟨_,hs,.inl rfl⟩
  ·exact (hs.2 b (Es (En (Ed e) I.ok.above))).trans (I.base.keep b o e n hb hx)
  ·obtain ⟨sl,e1⟩:=I.base.slot b o e n hb hx;exact ⟨sl,(hs.2 b (Es (En (Ed e) I.ok.above))).trans e1⟩
  ·obtain ⟨o',e1⟩:=I.base.there b o e hx;exact ⟨o',(hs.2 b (Es (En (Ed e) I.ok.above))).trans e1⟩
  ·by_cases hj:j=i
   ·subst hj;rw [hi] at e1;cases e1;rw [List.getElem?_set_self hiσ] at e2;cases e2;exact ⟨u,r,.inl ⟨hk,by simp⟩⟩
   ·rw [List.getElem?_set_ne (Ne.symm hj)] at e2;obtain ⟨u',r',q⟩:=hl j y v' e1 e2 e3;refine ⟨u',r',?_⟩;rcases q with ⟨k,e⟩|⟨k,c,e,z⟩
    ·refine .inl ⟨k,?_⟩;have:y≠x:=fun e=>hj (i4 hN e1 (e ▸ hi));simp [this,e]
    ·exact .inr ⟨k,c,e,z.sameBut hs (cne y c e)⟩
  ·obtain ⟨w',z⟩:=I.cell y c e;exact ⟨w',z.sameBut hs (cne y c e)⟩
  ·obtain ⟨e,n,ne,nf,d⟩:=I.pin p hp;exact ⟨(hs.2 p.1 ne).trans e,n,ne,nf,d⟩
 ·have hfn:X.fn x=true:=by
   rcases hf with z|z
   ·exact z
   ·rw [z] at hk;cases hk
  obtain ⟨c,hc⟩:=I.ok.has x (.inl hk);obtain ⟨w',z⟩:=I.cell x c hc;refine wpAny_storeName_cell I.ok.kind hk hc z (fun h' hc' hs=>?_);obtain ⟨oc,hoc,hocd⟩:=id z;refine h { s with heap:=h' } ⟨I.ok,I.os,I.bare,⟨fun b o e n hb hx=>?_,fun b o e n hb hx=>?_,I.base.free,fun b o e hx=>?_,I.base.tups,I.base.frzs,I.base.tbls⟩,⟨m,hn.sameBut hs (Ne.symm (cne x c hc)),fun j y v' e1 e2 e3=>?_⟩,fun y c' e=>?_,I.free,I.freeC,fun p hp=>?_,tracked ⟨oc,hoc,I.freeC x c hc⟩ hs,by simpa using I.len⟩ ⟨c,hs,.inr hc⟩
  ·exact (hs.2 b (Es (En (Ed e) (I.ok.cab x c hfn hc)))).trans (I.base.keep b o e n hb hx)
  ·obtain ⟨sl,e1⟩:=I.base.slot b o e n hb hx;exact ⟨sl,(hs.2 b (Es (En (Ed e) (I.ok.cab x c hfn hc)))).trans e1⟩
  ·obtain ⟨o',e1⟩:=I.base.there b o e hx;exact ⟨o',(hs.2 b (Es (En (Ed e) (I.ok.cab x c hfn hc)))).trans e1⟩
  ·by_cases hj:j=i
   ·subst hj;rw [hi] at e1;cases e1;rw [List.getElem?_set_self hiσ] at e2;cases e2;exact ⟨u,r,.inr ⟨.inl hk,c,hc,hc'⟩⟩
   ·rw [List.getElem?_set_ne (Ne.symm hj)] at e2;obtain ⟨u',r',q⟩:=hl j y v' e1 e2 e3;refine ⟨u',r',?_⟩;rcases q with q|⟨k,c',e,z'⟩
    ·exact .inl q
    ·refine .inr ⟨k,c',e,z'.sameBut hs ?_⟩;rintro rfl;exact hj (i4 hN e1 (I.ok.inj _ _ _ e hc ▸ hi))
  ·by_cases hcc:c'=c
   ·subst hcc;exact ⟨_,hc'⟩
   ·obtain ⟨w2,z2⟩:=I.cell y c' e;exact ⟨w2,z2.sameBut hs hcc⟩
  ·obtain ⟨e,n,ne,nf,d⟩:=I.pin p hp;refine ⟨(hs.2 p.1 ?_).trans e,n,ne,nf,d⟩;intro q;rw [q,hoc] at e;have q':oc=p.2:=Ey e;exact d w' (by rw [<-q'];exact hocd)
theorem gF {M:Model} {A:Around} {E:Value->Shared->Prop} {x:Str} {Q:Unit->Shared->Prop} (I:Inv X pins σ H s) (hN:X.N.Nodup) (hi:X.N[i]?=some x) (hx:Ao X.env.scope x) (r:RelV v u)
  (h:∀ s',Inv X pins (σ.set i (some v)) H s'->Q () s') (hf:X.fn x=true\/X.env.scope.names.lookup x=some .local:=by first|exact .inl rfl|exact .inr rfl|assumption):wpAny M A (storeName X.env x u) Q E s:=
 jV I hN hi hx r (fun s' I' _=>h s' I') hf
theorem Inv.call' {s':Shared} (I:Inv X pins σ H s) (ho:s'.os=s.os) (u:Un (kz X.stack) ch H H' s.heap s'.heap) (hok:HOk X.prog X.w H' s'.heap) (hg:AllBare s'.gens)
  (hch:∀ b∈ch,(b∈X.ex\/X.s₀.heap.objs.size<=b)/\b≠X.env.locals/\(∀ x c,X.env.cells.lookup x=some c->c≠b)/\∀ p∈X.pn++pins,p.1≠b):Inv X pins σ H' s':=by
 obtain ⟨h',g',d',t',o'⟩:=s';have e:o'=s.os:=ho;subst e;exact I.call (g':=g') (t':=t') (d':=d') u hok hg hch
end
abbrev XK:=Value->Option Addr->Hp->Prop
abbrev St:=List (Option V)
abbrev VK:=V->Hp->Prop
abbrev TE:=St->Hp->VK->Prop
abbrev TT:=St->Hp->(Bool->Hp->Prop)->Prop
abbrev TA:=St->Hp->(List V->Hp->Prop)->Prop
structure Ends where
 nx:St->Hp->Prop
 rt:VK
 bk:St->Hp->Prop:=fun _ _=>False
 ct:St->Hp->Prop:=fun _ _=>False
abbrev TS:=Ends->St->Hp->Prop
inductive EP (X:Cx) (pins:List (Addr×Obj)) (σ:St) (Q:VK) (u:Value) (s':Shared):Prop
 | mk (v H':_):Inv X pins σ H' s'->RelV v u->Q v H'->EP X pins σ Q u s'
def TP (X:Cx) (pins:List (Addr×Obj)) (σ:St) (Q:Bool->Hp->Prop) (b:Bool) (s':Shared):Prop:=∃ H',Inv X pins σ H' s'/\Q b H'
inductive AP (X:Cx) (pins:List (Addr×Obj)) (σ:St) (Q:List V->Hp->Prop) (us:List Value) (s':Shared):Prop
 | mk (vs H':_):Inv X pins σ H' s'->Vals vs us->Q vs H'->AP X pins σ Q us s'
def SP (X:Cx) (pins:List (Addr×Obj)) (D:Ends) (f:Flow) (s':Shared):Prop:=
 match f with
 | .next=>∃ σ' H',Inv X pins σ' H' s'/\D.nx σ' H'
 | .brk=>∃ σ' H',Inv X pins σ' H' s'/\D.bk σ' H'
 | .cont=>∃ σ' H',Inv X pins σ' H' s'/\D.ct σ' H'
 | .ret u=>∃ v σ' H',Inv X pins σ' H' s'/\RelV v u/\D.rt v H'
structure PE (X:Cx) (e:Expr) (t:TE):Prop where
 run:∀ (pins:List (Addr×Obj)) (s:Shared) (σ:St) (H:Hp) (Q:VK),Inv X pins σ H s->t σ H Q->wpAny (model X.prog X.w) X.A (eval e X.env) (EP X pins σ Q) X.xe s
instance {X:Cx} {e:Expr} {t:TE}:CoeFun (PE X e t) fun _=>∀ (pins:List (Addr×Obj)) (s:Shared) (σ:St) (H:Hp) (Q:VK),Inv X pins σ H s->t σ H Q->wpAny (model X.prog X.w) X.A (eval e X.env) (EP X pins σ Q) X.xe s:=⟨PE.run⟩
structure PT (X:Cx) (e:Expr) (t:TT):Prop where
 run:∀ (pins:List (Addr×Obj)) (s:Shared) (σ:St) (H:Hp) (Q:Bool->Hp->Prop),Inv X pins σ H s->t σ H Q->wpAny (model X.prog X.w) X.A (isTrue e X.env (eval e X.env)) (TP X pins σ Q) X.xe s
instance {X:Cx} {e:Expr} {t:TT}:CoeFun (PT X e t) fun _=>∀ (pins:List (Addr×Obj)) (s:Shared) (σ:St) (H:Hp) (Q:Bool->Hp->Prop),Inv X pins σ H s->t σ H Q->wpAny (model X.prog X.w) X.A (isTrue e X.env (eval e X.env)) (TP X pins σ Q) X.xe s:=⟨PT.run⟩
structure PW (X:Cx) (e:Expr) (t:TT):Prop where
 run:∀ (whole:Sem Value) (pins:List (Addr×Obj)) (s:Shared) (σ:St) (H:Hp) (Q:Bool->Hp->Prop),Inv X pins σ H s->t σ H Q->wpAny (model X.prog X.w) X.A (isTrue e X.env whole) (TP X pins σ Q) X.xe s
instance {X:Cx} {e:Expr} {t:TT}:CoeFun (PW X e t) fun _=>∀ (whole:Sem Value) (pins:List (Addr×Obj)) (s:Shared) (σ:St) (H:Hp) (Q:Bool->Hp->Prop),Inv X pins σ H s->t σ H Q->wpAny (model X.prog X.w) X.A (isTrue e X.env whole) (TP X pins σ Q) X.xe s:=⟨PW.run⟩
variable {e:Expr} {X:Cx}
theorem PW.pt {t:TT} (h:PW X e t):PT X e t:=⟨fun pins s σ H Q I q=>h _ pins s σ H Q I q⟩
structure PA (X:Cx) (es:List Expr) (t:TA):Prop where
 run:∀ (pos:Pos) (pins:List (Addr×Obj)) (s:Shared) (σ:St) (H:Hp) (Q:List V->Hp->Prop),Inv X pins σ H s->t σ H Q->wpAny (model X.prog X.w) X.A (spliced (backTo pos (starEach es X.env))) (AP X pins σ Q) X.xe s
instance {X:Cx} {es:List Expr} {t:TA}:CoeFun (PA X es t) fun _=>∀ (pos:Pos) (pins:List (Addr×Obj)) (s:Shared) (σ:St) (H:Hp) (Q:List V->Hp->Prop),Inv X pins σ H s->t σ H Q->wpAny (model X.prog X.w) X.A (spliced (backTo pos (starEach es X.env))) (AP X pins σ Q) X.xe s:=⟨PA.run⟩
structure PS (X:Cx) (st:Stmt) (t:TS):Prop where
 run:∀ (pins:List (Addr×Obj)) (s:Shared) (σ:St) (H:Hp) (D:Ends),Inv X pins σ H s->t D σ H->wpAny (model X.prog X.w) X.A (exec st X.env) (SP X pins D) X.xe s
instance {X:Cx} {st:Stmt} {t:TS}:CoeFun (PS X st t) fun _=>∀ (pins:List (Addr×Obj)) (s:Shared) (σ:St) (H:Hp) (D:Ends),Inv X pins σ H s->t D σ H->wpAny (model X.prog X.w) X.A (exec st X.env) (SP X pins D) X.xe s:=⟨PS.run⟩
structure PSs (X:Cx) (st:List Stmt) (t:TS):Prop where
 run:∀ (pins:List (Addr×Obj)) (s:Shared) (σ:St) (H:Hp) (D:Ends),Inv X pins σ H s->t D σ H->wpAny (model X.prog X.w) X.A (execs st X.env) (SP X pins D) X.xe s
instance {X:Cx} {st:List Stmt} {t:TS}:CoeFun (PSs X st t) fun _=>∀ (pins:List (Addr×Obj)) (s:Shared) (σ:St) (H:Hp) (D:Ends),Inv X pins σ H s->t D σ H->wpAny (model X.prog X.w) X.A (execs st X.env) (SP X pins D) X.xe s:=⟨PSs.run⟩
variable {s:Shared} {E:Value->Shared->Prop} {A:Around} {M:Model}
theorem bG {α:Type} {t:Sem α} {Q Q':α->Shared->Prop} (h:wpAny M A t Q E s) (hQ:∀ a s,Q a s->Q' a s):wpAny M A t Q' E s:=wpAny_mono h hQ fun _ _ x=>x
section
variable {X:Cx}
inductive og (i:Nat) (σ:St) (H:Hp) (Q:VK):Prop
 | mk (v:_):σ[i]?=some (some v)->Q v H->og i σ H Q
def tC (v:V):TE:=fun _ H Q=>Q v H
theorem yA {i:Nat} {x:Str} {pos:Pos} (hN:X.N[i]?=some x) (hv:An X.env.scope x) (hd:(x == ("__debug__":Str))=false:=by decide) (hcd:(x == ("__classdict__":Str))=false:=by decide):PE X (.Name x pos) (og i):=by
 refine ⟨?_⟩;intro pins s σ H Q I h;obtain ⟨v,e,h⟩:=h;obtain ⟨m,hn,hl⟩:=I.loc;obtain ⟨u,r,l⟩:=hl i x v hN e hv;have fin:EP X pins σ Q u s:=⟨v,H,I,r,h⟩;rcases l with ⟨hk,hm⟩|⟨hk,c,hc,hcell⟩
 ·exact wpAny_Name (wpAny_loadName_local I.ok.kind hk hn hm fin) hd
 ·rcases hk with hk|hk
  ·exact wpAny_Name (wpAny_loadName_cell I.ok.kind hk hc hcell fin) hd
  ·exact wpAny_Name (wpAny_loadName_free I.ok.kind hk hc hcell fin hcd) hd
theorem ag {i j pos}:PE X (.Constant (.int i) j pos) (tC (.int i)):=⟨fun _ _ _ H _ I h=>wpAny_Constant_int ⟨.int i,H,I.tok _,⟨_,rfl⟩,h⟩⟩
theorem cj {b j pos}:PE X (.Constant (.bool b) j pos) (tC (.bl b)):=⟨fun _ _ _ H _ I h=>Constant_bool ⟨.bl b,H,I,rfl,h⟩⟩
theorem bN {j pos}:PE X (.Constant .none j pos) (tC .non):=⟨fun _ _ _ H _ I h=>Constant_none ⟨.non,H,I,rfl,h⟩⟩
theorem aC {x j pos}:PE X (.Constant (.str x) j pos) (tC (.str x)):=⟨fun _ _ _ H _ I h=>Calls.Constant_str ⟨.str x,H,I.tok _,⟨_,rfl⟩,h⟩⟩
def Gl (X:Cx) (x:Str):Prop:=X.env.kindOf x=some .globalImplicit
variable {Q:Value->Shared->Prop} {σ:St} {pins:List (Addr×Obj)}
theorem dF {E:Value->Shared->Prop} {x:Str} {pos:Pos} (I:Inv X pins σ H s) (hg:Gl X x) (hm:X.mg x=some u) (h:Q u s)
  (hd:(x == ("__debug__":Str))=false:=by decide):wpAny (model X.prog X.w) X.A (eval (.Name x pos) X.env) Q E s:=
 Calls.Name_function_global I.ok.kind hg (Calls.loadGlobal_global (by rw [I.ok.glob];exact I.mod.glob.keeps I.bk) hm h) hd
theorem eP {E:Value->Shared->Prop} {x:Str} {pos:Pos} (I:Inv X pins σ H s) (hg:Gl X x) (hm:X.mg x=none) (hv:bootBuiltins x=some u) (h:Q u s)
  (hn:x≠"__name__":=by decide) (hd:(x == ("__debug__":Str))=false:=by decide):wpAny (model X.prog X.w) X.A (eval (.Name x pos) X.env) Q E s:=by
 obtain ⟨mb,h1,h2⟩:=I.mod.blt;exact Calls.Name_function_global I.ok.kind hg (Calls.loadGlobal_builtin (by rw [I.ok.glob];exact I.mod.glob.keeps I.bk) hm (by rw [I.ok.blt];exact h1.keeps I.bk) ((h2 x hn).trans hv) h) hd
variable {v:V}
theorem bD {x:Str} {pos:Pos} (hg:Gl X x) (hm:X.mg x=some u) (r:RelV v u) (hd:(x == ("__debug__":Str))=false:=by decide):PE X (.Name x pos) (tC v):=
 ⟨fun _ _ _ H _ I h=>dF I hg hm ⟨v,H,I,r,h⟩ hd⟩
theorem vR {x:Str} {pos:Pos} (hg:Gl X x) (hm:X.mg x=none) (hv:bootBuiltins x=some u) (r:RelV v u) (hn:x≠"__name__":=by decide) (hd:(x == ("__debug__":Str))=false:=by decide):PE X (.Name x pos) (tC v):=
 ⟨fun _ _ _ H _ I h=>eP I hg hm hv ⟨v,H,I,r,h⟩ hn hd⟩
variable {a b:Expr} {ta tb:TE} {pos:Pos}
def PC (X:Cx) (op:CmpOp) (a b:Expr) (t:TE):Prop:=
 ∀ (pins:List (Addr×Obj)) (s:Shared) (σ:St) (H:Hp) (Q:VK),Inv X pins σ H s->t σ H Q->
  wpAny (model X.prog X.w) X.A (eval a X.env) (fun v s₁=>wpAny (model X.prog X.w) X.A (eval b X.env) (fun u s₂=>wpAny (model X.prog X.w) X.A (compareOp op v u) (EP X pins σ Q) X.xe s₂) X.xe s₁) X.xe s
inductive Dm (Q:Bool->Hp->Prop) (x:V) (H1:Hp):Prop
 | mk (c:_):x=.bl c->Q c H1->Dm Q x H1
def tB (t:TE):TT:=fun σ H Q=>t σ H fun x H1=>Dm Q x H1
variable {t:TE}
theorem oh {op:CmpOp} (h:PC X op a b t) (h1:behindInMarks op b=false:=by first|exact nobehind _ zd zd|rfl):PT X (.Compare a [op] [b] pos) (tB t):=by
 refine ⟨?_⟩;intro pins s σ H Q I hw;refine wpAny_isTrue_Compare1 (bG (h pins s σ H _ I hw) fun v s1 h1=>bG h1 fun u s2 h2=>bG h2 fun c s3 ⟨x,H1,I1,r1,q1⟩=>?_) h1;obtain ⟨d,rfl,q⟩:=q1;cases r1;exact wpAny_truthy_bool ⟨H1,I1,q⟩
theorem bj (h:PE X e t) (he:∀ whole,isTrue e X.env whole=(do let v <-whole;standAt e.pos;holding [v] (truthy v)):=by intro _;rfl):PT X e (tB t):=by
 refine ⟨?_⟩;intro pins s σ H Q I hw;refine isTrue_plain (bG (h pins s σ H _ I hw) fun v s1 ⟨x,H1,I1,r1,q1⟩=>?_) (he _);obtain ⟨d,rfl,q⟩:=q1;cases r1;exact wpAny_truthy_bool ⟨H1,I1,q⟩
variable {tA tB':TT} {rest:List Expr}
def B9 (t u:TT):TT:=fun σ H Q=>t σ H fun c H1=>if c=true then u σ H1 Q else Q false H1
def DI (t u:TT):TT:=fun σ H Q=>t σ H fun c H1=>if c=true then Q true H1 else u σ H1 Q
def Cd (t:TT):TT:=fun σ H Q=>t σ H fun c H1=>Q (!c) H1
theorem cc (ha:PT X a tA):PW X (.BoolOp .And [a] pos) tA:=by
 refine ⟨?_⟩;intro wh pins s σ H Q I h;refine isTrue_and (bG (ha pins s σ H Q I h) fun c s1 e=>?_);cases c with
 | true=>exact isTrue_and_nil e
 | false=>exact e
theorem cG (ha:PT X a tA):PW X (.BoolOp .Or [a] pos) tA:=by
 refine ⟨?_⟩;intro wh pins s σ H Q I h;refine isTrue_or (bG (ha pins s σ H Q I h) fun c s1 e=>?_);cases c with
 | false=>exact isTrue_or_nil e
 | true=>exact e
theorem cq (ha:PT X a tA) (hb:PW X (.BoolOp .And (b::rest) pos) tB'):PW X (.BoolOp .And (a::b::rest) pos) (B9 tA tB'):=by
 refine ⟨?_⟩;intro wh pins s σ H Q I h;refine isTrue_and (bG (ha pins s σ H _ I h) fun c s1 ⟨H1,I1,q1⟩=>?_);cases c with
 | true=>exact hb wh pins s1 σ H1 Q I1 q1
 | false=>exact ⟨H1,I1,q1⟩
theorem cH (ha:PT X a tA) (hb:PW X (.BoolOp .Or (b::rest) pos) tB'):PW X (.BoolOp .Or (a::b::rest) pos) (DI tA tB'):=by
 refine ⟨?_⟩;intro wh pins s σ H Q I h;refine isTrue_or (bG (ha pins s σ H _ I h) fun c s1 ⟨H1,I1,q1⟩=>?_);cases c with
 | true=>exact ⟨H1,I1,q1⟩
 | false=>exact hb wh pins s1 σ H1 Q I1 q1
theorem bx (ha:PT X a tA):PT X (.UnaryOp .Not a pos) (Cd tA):=by
 refine ⟨?_⟩;intro pins s σ H Q I h;exact isTrue_not (ha pins s σ H (fun c H1=>Q (!c) H1) I h)
inductive su (tb:TE) (σ:St) (Q:VK) (x:V) (H1:Hp):Prop
 | mk (c:_):x=.bl c->(if c=true then tb σ H1 Q else Q (.bl false) H1)->su tb σ Q x H1
def Aq (ta tb:TE):TE:=fun σ H Q=>ta σ H fun x H1=>su tb σ Q x H1
inductive sw (Q:VK) (x:V) (H1:Hp):Prop
 | mk (c:_):x=.bl c->Q (.bl (!c)) H1->sw Q x H1
def Ar (ta:TE):TE:=fun σ H Q=>ta σ H fun x H1=>sw Q x H1
theorem di {op} (h:PE X a t):PE X (.BoolOp op [a] pos) t:=⟨fun pins s σ H Q I hw=>BoolOp_one (h pins s σ H Q I hw)⟩
theorem dZ (ha:PE X a ta) (hb:PE X (.BoolOp .And (b::rest) pos) tb):PE X (.BoolOp .And (a::b::rest) pos) (Aq ta tb):=by
 refine ⟨?_⟩;intro pins s σ H Q I h;refine BoolOp_and (bG (ha pins s σ H _ I h) fun v s1 ⟨x,H1,I1,r1,q1⟩=>?_);obtain ⟨c,rfl,q1⟩:=q1;cases r1;refine wpAny_truthy_bool ?_;cases c with
 | true=>exact hb pins s1 σ H1 Q I1 q1
 | false=>exact ⟨.bl false,H1,I1,rfl,q1⟩
theorem sC (ha:PE X a ta):PE X (.UnaryOp .Not a pos) (Ar ta):=by
 refine ⟨?_⟩;intro pins s σ H Q I h;refine UnaryOp_ (bG (ha pins s σ H _ I h) fun v s1 ⟨x,H1,I1,r1,q1⟩=>?_);obtain ⟨c,rfl,q1⟩:=q1;cases r1;exact not_of (wpAny_truthy_bool ⟨.bl (!c),H1,I1,rfl,q1⟩)
def DJ (t:TT) (ta tb:TE):TE:=fun σ H Q=>t σ H fun c H1=>if c=true then ta σ H1 Q else tb σ H1 Q
theorem cZ {c:Expr} (hc:PT X c tA) (ha:PE X a ta) (hb:PE X b tb):PE X (.IfExp c a b pos) (DJ tA ta tb):=by
 refine ⟨?_⟩;intro pins s σ H Q I h;refine wpAny_IfExp (bG (hc pins s σ H _ I h) fun d s1 ⟨H1,I1,q1⟩=>?_);cases d with
 | true=>exact ha pins s1 σ H1 Q I1 q1
 | false=>exact hb pins s1 σ H1 Q I1 q1
end
def SqL (K:ZF) (H:Hp) (a:Addr) (xs:List V):Prop:=
 Rd H a (.lst xs) ∨
  ∃ (o:Obj) (its:Array Value) (n:Nat),K.lookup a=some o/\o.cls=.type "list"/\o.dict=none/\o.data=.seq its n/\its.size<=sizeLine/\Vals xs its.toList
def SqT (K:ZF) (H:Hp) (a:Addr) (xs:List V):Prop:=
 Rd H a (.tup xs) ∨
  ∃ (o:Obj) (its:Array Value) (n:Nat),K.lookup a=some o/\o.cls=.type "tuple"/\o.data=.seq its n/\its.size<=sizeLine/\Vals xs its.toList
def Ce:Value->Option V
 | .none=>some .non
 | .bool b=>some (.bl b)
 | .int i _=>some (.int i)
 | .str x _=>some (.str x)
 | .bytes b _=>some (.byt b)
 | .float b _=>some (.flt b)
 | .ref a=>some (.ref a)
 | .type n=>some (.ty n)
 | _=>none
theorem RelV.abs (r:RelV x u):Ce u=some x:=by
 cases x with
 | non=>cases r;rfl
 | bl _=>cases r;rfl
 | int _=>obtain ⟨t,rfl⟩:=r;rfl
 | str _=>obtain ⟨t,rfl⟩:=r;rfl
 | byt _=>obtain ⟨t,rfl⟩:=r;rfl
 | flt _=>obtain ⟨t,rfl⟩:=r;rfl
 | ref _=>cases r;rfl
 | ty _=>cases r;rfl
variable {y:V}
theorem RelV.inj (r:RelV x u) (q:RelV y u):x=y:=Ey (r.abs.symm.trans q.abs)
theorem Vals.inj:∀ {xs ys:List V} {us:List Value},Vals xs us->Vals ys us->xs=ys
 | _,_,_,.nil,.nil=>rfl
 | _,_,_,.cons r t,.cons r' t'=>by rw [r.inj r',Vals.inj t t']
section
variable {X:Cx} {pins:List (Addr×Obj)} {σ:St} {H:Hp} {s:Shared} {a:Addr} {xs ys:List V}
variable {K:ZF}
theorem SqL.of (h:H a=some (.lst xs)):SqL K H a xs:=.inl (.inl h)
theorem SqT.of (h:H a=some (.tup xs)):SqT K H a xs:=.inl (.inl h)
theorem Inv.list (I:Inv X pins σ H s) (h:SqL X.K H a xs):∃ its:List Value,Vals xs its/\PlainL s.heap a its.toArray/\xs.length<=sizeLine:=by
 rcases h with h|⟨o,its,n,hk,hc,hd,hs,hz,r⟩
 ·obtain ⟨z,its,n,r,e⟩:=h.ok I.hok;exact ⟨its,r,⟨_,n,e,rfl,rfl,rfl⟩,z⟩
 ·refine ⟨its.toList,r,⟨o,n,I.kIn a o hk,hc,hd,by simpa using hs⟩,?_⟩;have e:=r.length;simp only [Array.length_toList] at e;lia
theorem Inv.tuple (I:Inv X pins σ H s) (h:SqT X.K H a xs):∃ its:List Value,Vals xs its/\IsTup s.heap a its.toArray/\xs.length<=sizeLine:=by
 rcases h with h|⟨o,its,n,hk,hc,hs,hz,r⟩
 ·obtain ⟨z,its,r,p⟩:=h.ok I.hok;exact ⟨its,r,p.up,z⟩
 ·refine ⟨its.toList,r,⟨o,I.kIn a o hk,hc,n,by simpa using hs⟩,?_⟩;have e:=r.length;simp only [Array.length_toList] at e;lia
theorem Inv.list_inj (I:Inv X pins σ H s) (h:SqL X.K H a xs) (h':SqL X.K H a ys):xs=ys:=by
 obtain ⟨its,r,⟨o,n,e,_,_,d⟩,_⟩:=I.list h;obtain ⟨its',r',⟨o',n',e',_,_,d'⟩,_⟩:=I.list h';rw [e] at e';cases e';rw [d] at d';injection d' with d1 _;have:its=its':=by simpa using congrArg Array.toList d1
 subst this;exact r.inj r'
theorem Inv.tuple_inj (I:Inv X pins σ H s) (h:SqT X.K H a xs) (h':SqT X.K H a ys):xs=ys:=by
 obtain ⟨its,r,⟨o,e,_,n,d⟩,_⟩:=I.tuple h;obtain ⟨its',r',⟨o',e',_,n',d'⟩,_⟩:=I.tuple h';rw [e] at e';cases e';rw [d] at d';injection d' with d1 _;have:its=its':=by simpa using congrArg Array.toList d1
 subst this;exact r.inj r'
end
abbrev Cx.wish (X:Cx) (E:Value->Shared->Prop):Cx:={ X with xe:=E }
abbrev Cx.nox (X:Cx):Cx:=X.wish fun _ _=>False
theorem Cx.Ok.wish (ok:X.Ok) (E:Value->Shared->Prop):(X.wish E).Ok:=
 ⟨ok.mod,ok.kind,ok.glob,ok.blt,ok.above,ok.inj,ok.has,ok.cab,ok.hd,ok.frames,ok.stk,ok.exf,ok.bs,ok.bsz,ok.noex,ok.exfs,ok.funs,ok.frf⟩
theorem Cx.Ok.unwish (ok:(X.wish E).Ok):X.Ok:=
 ⟨ok.mod,ok.kind,ok.glob,ok.blt,ok.above,ok.inj,ok.has,ok.cab,ok.hd,ok.frames,ok.stk,ok.exf,ok.bs,ok.bsz,ok.noex,ok.exfs,ok.funs,ok.frf⟩
section
variable {X:Cx} {pins:List (Addr×Obj)} {σ:St} {H:Hp} {s:Shared} {E:Value->Shared->Prop}
theorem Inv.wish (I:Inv X pins σ H s) (E:Value->Shared->Prop):Inv (X.wish E) pins σ H s:=⟨I.ok.wish E,I.os,I.bare,I.base,I.loc,I.cell,I.free,I.freeC,I.pin,I.hok,I.len⟩
theorem Inv.unwish (I:Inv (X.wish E) pins σ H s):Inv X pins σ H s:=⟨I.ok.unwish,I.os,I.bare,I.base,I.loc,I.cell,I.free,I.freeC,I.pin,I.hok,I.len⟩
theorem SP.unwish {D:Ends} {f:Flow} {s':Shared} (h:SP (X.wish E) pins D f s'):SP X pins D f s':=by
 cases f with
 | next=>obtain ⟨σ',H',I,q⟩:=h;exact ⟨σ',H',I.unwish,q⟩
 | brk=>obtain ⟨σ',H',I,q⟩:=h;exact ⟨σ',H',I.unwish,q⟩
 | cont=>obtain ⟨σ',H',I,q⟩:=h;exact ⟨σ',H',I.unwish,q⟩
 | ret u=>obtain ⟨v,σ',H',I,r,q⟩:=h;exact ⟨v,σ',H',I.unwish,r,q⟩
theorem PSs.nox {st:List Stmt} {t:TS} (h:PSs X.nox st t):PSs X st t:=⟨fun pins s σ H D I hw=>
 wpAny_mono (h pins s σ H D (I.wish _) hw) (fun _ _ q=>q.unwish) fun _ _ z=>False.elim z⟩
end
section
variable {X:Cx} {st:Stmt} {rest:List Stmt} {t u:TS} {e:Expr} {te:TE} {pos:Pos}
def As:TS:=fun D σ H=>D.nx σ H
def Cf (t u:TS):TS:=fun D σ H=>t { D with nx:=u D } σ H
theorem ay:PSs X [] As:=⟨fun _ _ σ H _ I h=>wpAny_execs_nil ⟨σ,H,I,h⟩⟩
theorem ad (h1:PS X st t) (h2:PSs X rest u):PSs X (st::rest) (Cf t u):=by
 refine ⟨?_⟩;intro pins s σ H D I h;refine wpAny_execs_cons (bG (h1 pins s σ H { D with nx:=u D } I h) fun f s1 q=>?_);cases f with
 | next=>
  obtain ⟨σ',H',I',q⟩:=q;exact h2 pins s1 σ' H' D I' q
 | ret v=>exact q
 | brk=>exact q
 | cont=>exact q
theorem af (h1:PS X st t):PSs X [st] t:=by
 refine ⟨?_⟩;intro pins s σ H D I h;refine wpAny_execs_cons (bG (h1 pins s σ H D I h) fun f s1 q=>?_);cases f with
 | next=>exact wpAny_execs_nil q
 | ret v=>exact q
 | brk=>exact q
 | cont=>exact q
theorem Inv.quiet {pins:List (Addr×Obj)} {σ:St} (I:Inv X pins σ H s):interactive X.env=false:=by simp [interactive,I.ok.kind]
def At (te:TE):TS:=fun D σ H=>te σ H fun _ H1=>D.nx σ H1
theorem aQ (he:PE X e te) (hs:swapsWith e none pos.line X.env=pure false:=by rfl):PS X (.Expr e pos) (At te):=by
 refine ⟨?_⟩;intro pins s σ H D I h;exact wpAny_Expr_any (bG (he pins s σ H _ I h) fun v s1 ⟨x,H1,I1,r1,q1⟩=>⟨σ,H1,I1,q1⟩) I.quiet hs
def Au (te:TE):TS:=fun D σ H=>te σ H D.rt
theorem ao (he:PE X e te):PS X (.Return (some e) pos) (Au te):=by
 refine ⟨?_⟩;intro pins s σ H D I h;exact wpAny_Return_some (bG (he pins s σ H _ I h) fun v s1 ⟨x,H1,I1,r1,q1⟩=>⟨x,σ,H1,I1,r1,q1⟩)
def Cg (c:TT) (t u:TS):TS:=fun D σ H=>c σ H fun b H1=>if b=true then t D σ H1 else u D σ H1
theorem aR {c:Expr} {a b:List Stmt} {tc:TT} (hc:PT X c tc) (ha:PSs X a t) (hb:PSs X b u):PS X (.If c a b pos) (Cg tc t u):=by
 refine ⟨?_⟩;intro pins s σ H D I h;refine wpAny_If (bG (hc pins s σ H _ I h) fun d s1 ⟨H1,I1,q1⟩=>?_);cases d with
 | true=>exact ha pins s1 σ H1 D I1 q1
 | false=>exact hb pins s1 σ H1 D I1 q1
def yB:TS:=fun _ _ _=>False
theorem be:PS X st yB:=⟨fun _ _ _ _ _ _ h=>h.elim⟩
end
abbrev TG:=V->St->Hp->(St->Hp->Prop)->Prop
abbrev yC:=List V->St->Hp->(St->Hp->Prop)->Prop
def PG (X:Cx) (target:Expr) (t:TG):Prop:=
 ∀ (pins:List (Addr×Obj)) (s:Shared) (σ:St) (H:Hp) (v:V) (u:Value) (Q:St->Hp->Prop),Inv X pins σ H s->RelV v u->t v σ H Q->
  wpAny (model X.prog X.w) X.A (assign target X.env u) (fun _ s'=>∃ σ' H',Inv X pins σ' H' s'/\Q σ' H') X.xe s
def Av (X:Cx) (ts:List Expr) (t:yC):Prop:=
 ∀ (pins:List (Addr×Obj)) (s:Shared) (σ:St) (H:Hp) (vs:List V) (us:List Value) (Q:St->Hp->Prop),Inv X pins σ H s->Vals vs us->t vs σ H Q->
  wpAny (model X.prog X.w) X.A (assignInOrder ((assignEach ts X.env).map (·.2)) us) (fun _ s'=>∃ σ' H',Inv X pins σ' H' s'/\Q σ' H') X.xe s
abbrev yD:=V->V->V->Hp->(Hp->Prop)->Prop
def Aw (X:Cx) (t:yD):Prop:=
 ∀ (pins:List (Addr×Obj)) (s:Shared) (σ:St) (H:Hp) (o i v:V) (ov iv u:Value) (Q:Hp->Prop),Inv X pins σ H s->RelV o ov->RelV i iv->RelV v u->t o i v H Q->
  wpAny (model X.prog X.w) X.A (setItem ov iv u) (fun _ s'=>∃ H',Inv X pins σ H' s'/\Q H') X.xe s
abbrev Ch:=V->V->Hp->VK->Prop
def Do (X:Cx) (op:Operator) (t:Ch):Prop:=
 ∀ (pins:List (Addr×Obj)) (s:Shared) (σ:St) (H:Hp) (x y:V) (v u:Value) (Q:VK),Inv X pins σ H s->RelV x v->RelV y u->t x y H Q->
  wpAny (model X.prog X.w) X.A (inplaceOp op v u) (EP X pins σ Q) X.xe s
section
variable {X:Cx} {pos:Pos}
def xL (i:Nat):TG:=fun v σ H Q=>Q (σ.set i (some v)) H
variable {i:Nat}
theorem aw {x:Str} (hN:X.N.Nodup) (hi:X.N[i]?=some x) (hx:Ao X.env.scope x) (hf:X.fn x=true\/X.env.scope.names.lookup x=some .local:=by first|exact .inl rfl|exact .inr rfl|assumption):PG X (.Name x pos) (xL i):=by
 intro pins s σ H v u Q I r h;exact wpAny_assign_Name (gF I hN hi hx r (fun s' I'=>⟨_,H,I',h⟩) hf)
def Ci:yC:=fun vs σ H Q=>vs=[]/\Q σ H
inductive xM (t:TG) (u:yC) (vs:List V) (σ:St) (H:Hp) (Q:St->Hp->Prop):Prop
 | mk (v r:_):vs=v::r->(t v σ H fun σ' H'=>u r σ' H' Q)->xM t u vs σ H Q
theorem bV:Av X [] Ci:=by
 intro pins s σ H vs us Q I r h;obtain ⟨e,h⟩:=h;subst e;cases r;exact assignInOrder_nil ⟨σ,H,I,h⟩
variable {es:List Expr}
theorem aH {t:TG} {u:yC} (h1:PG X e t) (h2:Av X es u)
  (hs:(assignEach (e::es) X.env).map (·.2)=assign e X.env::(assignEach es X.env).map (·.2):=by rfl):Av X (e::es) (xM t u):=by
 intro pins s σ H vs us Q I r h;obtain ⟨v,vr,e1,h⟩:=h;subst e1;cases r with
 | cons r rr=>
  rw [hs];refine assignInOrder_cons (bG (h1 pins s σ H _ _ _ I r h) fun _ s1 ⟨σ1,H1,I1,q1⟩=>?_);exact h2 pins s1 σ1 H1 _ _ Q I1 rr q1
inductive yE (K:ZF) (n:Nat) (t:yC) (v:V) (σ:St) (H:Hp) (Q:St->Hp->Prop):Prop
 | mk (a xs:_):v=.ref a->SqT K H a xs->xs.length=n->t xs σ H Q->yE K n t v σ H Q
theorem cM {k:Nat} {t:yC} {n:Nat} (hc:X.calm=true) (h:Av X es t)
  (hn:(assignEach es X.env).length=n:=by rfl) (hst:(assignEach es X.env).findIdx? (·.1)=none:=by rfl):PG X (.Tuple es k pos) (yE X.K n t):=by
 intro pins s σ H v u Q I r hw;obtain ⟨a,xs,e1,hq,hl,hw⟩:=hw;subst e1;cases r;obtain ⟨its,rv,ht,hz⟩:=I.tuple hq;refine assign_Tuple_tuple (I.ok.hd hc) ht (by simp [hn,<-hl,rv.length]) hst fun h' hx=>?_;have I1:Inv X pins σ H { s with heap:=h' }:=I.kept (t':=s.toks) fun b o e=>hx b o (Es (Ed e)) e;exact h pins _ σ H xs _ Q I1 (by simpa using rv) hw
def Cj (to ti:TE) (t:yD):TG:=fun v σ H Q=>to σ H fun o H1=>ti σ H1 fun i H2=>t o i v H2 fun H3=>Q σ H3
theorem i5 {o i:Expr} {to ti:TE} {t:yD} (ho:PE X o to) (hi:PE X i ti) (hs:Aw X t)
  (ha:∀ v,assign (.Subscript o i pos) X.env v=(do
   let ov <-holding [v] (eval o X.env)
   let iv <-holding [v,ov] (eval i X.env)
   standAt pos
   holding [v,ov,iv] (setItem ov iv v)
   release [v,ov,iv] []):=by intro _;rfl):PG X (.Subscript o i pos) (Cj to ti t):=by
 intro pins s σ H v u Q I r h;rw [ha];refine wpAny_bind (wpAny_holding (bG (ho pins s σ H _ I h) fun ov s1 ⟨x,H1,I1,r1,q1⟩=>?_));refine wpAny_bind (wpAny_holding (bG (hi pins s1 σ H1 _ I1 q1) fun iv s2 ⟨y,H2,I2,r2,q2⟩=>?_));refine wpAny_bind (wpAny_standAt (wpAny_bind (wpAny_holding (bG (hs pins s2 σ H2 x y v ov iv u _ I2 r1 r2 r q2) fun _ s3 ⟨H3,I3,q3⟩=>?_))));exact wpAny_release ⟨σ,H3,I3,q3⟩
def Ax (te:TE) (g:TG):TS:=fun D σ H=>te σ H fun x H1=>g x σ H1 D.nx
variable {te:TE}
theorem dj {tg e:Expr} {g:TG} (he:PE X e te) (hg:PG X tg g) (hs:swapsWithSole [tg] e pos.line X.env=pure false:=by rfl) (hw:swappedStores [tg] e X.env=pure none:=by rfl)
  (h1:(assignEach [tg] X.env).map (·.2)=[assign tg X.env]:=by rfl):PS X (.Assign [tg] e pos) (Ax te g):=by
 refine ⟨?_⟩;intro pins s σ H D I h;refine wpAny_Assign_stores (bG (he pins s σ H _ I h) fun v s1 ⟨x,H1,I1,r1,q1⟩=>?_) hs hw;rw [h1];exact bG (hg pins s1 σ H1 x v _ I1 r1 q1) fun _ s2 q=>q
theorem aA {x:Str} {pos':Pos} (hN:X.N.Nodup) (hi:X.N[i]?=some x) (hx:Ao X.env.scope x) (he:PE X e te) (hs:swapsWith e (some (.Name x pos')) pos.line X.env=pure false:=by rfl) (hf:X.fn x=true\/X.env.scope.names.lookup x=some .local:=by first|exact .inl rfl|exact .inr rfl|assumption) :
  PS X (.Assign [.Name x pos'] e pos) (Ax te (xL i)):=by
 refine ⟨?_⟩;intro pins s σ H D I h;refine wpAny_Assign_Name (bG (he pins s σ H _ I h) fun v s1 ⟨y,H1,I1,r1,q1⟩=>?_) hs;exact gF I1 hN hi hx r1 (fun s2 I2=>⟨_,H1,I2,q1⟩) hf
inductive Ay (i:Nat) (te:TE) (ti:Ch) (D:Ends) (σ:St) (H:Hp):Prop
 | mk (x:_):σ[i]?=some (some x)->(te σ H fun y H1=>ti x y H1 fun z H2=>D.nx (σ.set i (some z)) H2)->Ay i te ti D σ H
theorem kA {x:Str} {op:Operator} {ti:Ch} {pos':Pos} (hN:X.N.Nodup) (hi:X.N[i]?=some x) (hx:Ao X.env.scope x) (he:PE X e te) (ho:Do X op ti) (hf:X.fn x=true\/X.env.scope.names.lookup x=some .local:=by first|exact .inl rfl|exact .inr rfl|assumption) :
  PS X (.AugAssign (.Name x pos') op e pos) (Ay i te ti):=by
 refine ⟨?_⟩;intro pins s σ H D I h;obtain ⟨v,e1,h⟩:=h;obtain ⟨m,hn,hl⟩:=I.loc;have vis:An X.env.scope x:=by rcases hx with k|k;exact .inl k;exact .inr (.inl k)
 obtain ⟨u,r,l⟩:=hl i x v hi e1 vis;refine wpAny_AugAssign_Name ?_;have go:wpAny (model X.prog X.w) X.A (eval e X.env) (fun w s₂=>wpAny (model X.prog X.w) X.A (inplaceOp op u w) (fun r s₃=>wpAny (model X.prog X.w) X.A (storeName X.env x r) (fun _=>SP X pins D .next) X.xe s₃) X.xe s₂) X.xe s:=by
  refine bG (he pins s σ H _ I h) fun w s1 ⟨y,H1,I1,r1,q1⟩=>?_;refine bG (ho pins s1 σ H1 v y u w _ I1 r r1 q1) fun z s2 ⟨zv,H2,I2,r2,q2⟩=>?_;exact gF I2 hN hi hx r2 (fun s3 I3=>⟨_,H2,I3,q2⟩) hf
 rcases l with ⟨hk,hm⟩|⟨hk,c,hc,hcell⟩
 ·exact wpAny_loadName_local I.ok.kind hk hn hm go
 ·rcases hk with hk|hk
  ·exact wpAny_loadName_cell I.ok.kind hk hc hcell go
  ·rcases hx with k|k
   ·have:X.env.scope.names.lookup x=some .free:=hk;rw [k] at this;cases this
   ·have:X.env.scope.names.lookup x=some .free:=hk;rw [k] at this;cases this
inductive Dp (f:Int->Int->Int) (x:V) (y:V) (H:Hp) (Q:VK):Prop
 | mk (i j:_):x=.int i->y=.int j->Q (.int (f i j)) H->Dp f x y H Q
theorem kB:Do X .Add (Dp fun i j=>i+j):=by
 intro pins s σ H x y v u Q I r1 r2 h;obtain ⟨i,j,e1,e2,q⟩:=h;subst e1;subst e2;obtain ⟨t,rfl⟩:=r1;obtain ⟨t',rfl⟩:=r2;exact iadd_int ⟨.int _,H,I.tok _,⟨_,rfl⟩,q⟩
end
section
variable {X:Cx} {pos:Pos}
inductive sD (c:TT) (tb:TS) (D:Ends) (σ:St) (H:Hp):Prop
 | mk (W:Nat->St->Hp->Prop):(∃ m,W m σ H)->(∀ m σ H,W m σ H->
 c σ H fun b H1=>if b=true then ∃ N:St->Hp->Prop,(∀ σ' H',N σ' H'->∃ m',m' < m/\W m' σ' H')/\tb { D with nx:=N,ct:=N,bk:=D.nx } σ H1 else D.nx σ H1)->sD c tb D σ H
theorem c8 {c:Expr} {body:List Stmt} {tc:TT} {tb:TS} (hp:PassesOwn (model X.prog X.w) X.A X.env X.xe) (hc:PT X c tc) (hb:PSs X body tb):PS X (.While c body [] pos) (sD tc tb):=by
 refine ⟨?_⟩;intro pins s σ H D I h;obtain ⟨W,⟨m0,w0⟩,turn⟩:=h;refine wpAny_While (codeAny_whileLoop (fun n s'=>∃ σ' H',Inv X pins σ' H' s'/\W n σ' H') ?_ m0 ⟨σ,H,I,w0⟩);rintro n s1 ⟨σ1,H1,I1,w1⟩;refine wpAny_passesOwn hp (bG (hc pins s1 σ1 H1 _ I1 (turn n σ1 H1 w1)) fun b s2 ⟨H2,I2,q2⟩=>?_);cases b with
 | true=>
  obtain ⟨N,hN,q2⟩:=q2;rw [if_pos rfl];refine wpAny_passesOwn hp (bG (hb pins s2 σ1 H2 _ I2 q2) fun f s3 q3=>?_);cases f with
  | next=>
   obtain ⟨σ3,H3,I3,n3⟩:=q3;obtain ⟨m',hm,w3⟩:=hN σ3 H3 n3;exact ⟨m',hm,σ3,H3,I3,w3⟩
  | cont=>
   obtain ⟨σ3,H3,I3,n3⟩:=q3;obtain ⟨m',hm,w3⟩:=hN σ3 H3 n3;exact ⟨m',hm,σ3,H3,I3,w3⟩
  | brk=>exact q3
  | ret v=>exact q3
 | false=>
  rw [if_neg Ee];exact wpAny_execs_nil ⟨σ1,H2,I2,q2⟩
end
structure It where
 go:Nat->Hp->Prop
 yld:Nat->Hp->V->Hp->Prop
 stop:Nat->Hp->Prop
def jN (X:Cx) (pins:List (Addr×Obj)) (H:Hp) (b:Addr):Prop:=
 H b=none/\b≠X.env.locals/\b∉X.fs/\(b∈X.ex\/X.s₀.heap.objs.size<=b)/\(∀ x c,X.env.cells.lookup x=some c->c≠b)/\∀ p∈X.pn++pins,p.1≠b
variable {σ:St} {pins:List (Addr×Obj)}
theorem Inv.fpOk {H H':Hp} (I:Inv X pins σ H s) (hb:s.heap.objs.size<=b) (hn:H' b=none):jN X pins H' b:=by
 refine ⟨hn,Fv (En I.lt hb),I.nofs hb,.inr (Ew I.sz hb),fun x c e z=>?_,fun p hp z=>?_⟩
 ·obtain ⟨v,q⟩:=I.cell x c e;exact absurd (En q.lt (by rw [z];exact hb)) (E2 _)
 ·exact absurd (En (Ed (I.pin p hp).1) (by rw [z];exact hb)) (E2 _)
structure kC (P:Program) (w:World) (K:ZF) (tg:Expr) (J:It) (fp:List Addr) (it:Addr) (tn:Nat->Heap->Prop):Prop where
 mem:it∈fp
 obj:∀ i h,tn i h->∀ b∈fp,∃ o,h.get? b=some o/\∀ v,o.data≠.cell v
 keep:∀ i h h',tn i h->(∀ b∈fp,∀ o,h.get? b=some o->h'.get? b=some o)->tn i h'
 item:∀ (X:Cx),X.prog=P->X.w=w->X.K=K->X.calm=true->∀ (i:Nat) (pins:List (Addr×Obj)) (s:Shared) (σ:St) (H:Hp) (E:Value->Shared->Prop),Inv X pins σ H s->(∀ b∈fp,jN X pins H b)->tn i s.heap->J.go i H->
  wpAny (model P w) X.A (pyNext (.ref it)) (fun r s1=>∃ u,r=some u /\
   wpAny (model P w) X.A (letOwnedTupleGo tg (.ref it) u) (fun _ s2=>∃ x H',Inv X pins σ H' s2/\RelV x u/\J.yld i H x H'/\tn (i+1) s2.heap/\∀ b∈fp,H' b=none) E s1) E s
 done:∀ (X:Cx),X.prog=P->X.w=w->X.K=K->X.calm=true->∀ (i:Nat) (pins:List (Addr×Obj)) (s:Shared) (σ:St) (H:Hp) (E:Value->Shared->Prop),Inv X pins σ H s->(∀ b∈fp,jN X pins H b)->tn i s.heap->J.stop i H->
  wpAny (model P w) X.A (pyNext (.ref it)) (fun r s1=>r=none/\Inv X pins σ H s1) E s
 self:∀ (A:Around) (i:Nat) (s:Shared) (Q:Value->Shared->Prop) (E:Value->Shared->Prop),tn i s.heap->Q (.ref it) s->wpAny (model P w) A (pyIter (.ref it)) Q E s
abbrev TI:=St->Hp->(It->Hp->Prop)->Prop
inductive BS (X:Cx) (pins:List (Addr×Obj)) (σ:St) (tg:Expr) (R:It->Hp->Prop) (itv:Value) (s2:Shared):Prop
 | mk (it:Addr) (fp:List Addr) (tn:Nat->Heap->Prop) (J:It) (H':Hp):itv=.ref it->Inv X pins σ H' s2->kC X.prog X.w X.K tg J fp it tn->tn 0 s2.heap->(∀ b∈fp,jN X pins H' b)->R J H'->BS X pins σ tg R itv s2
structure PI (X:Cx) (tg iter:Expr) (wi:TI):Prop where
 run:∀ (pins:List (Addr×Obj)) (s:Shared) (σ:St) (H:Hp) (R:It->Hp->Prop),Inv X pins σ H s->wi σ H R->
  wpAny (model X.prog X.w) X.A (eval iter X.env) (fun v s1=>wpAny (model X.prog X.w) X.A (pyIter v) (BS X pins σ tg R) X.xe s1) X.xe s
instance {X:Cx} {tg iter:Expr} {wi:TI}:CoeFun (PI X tg iter wi) fun _=>∀ (pins:List (Addr×Obj)) (s:Shared) (σ:St) (H:Hp) (R:It->Hp->Prop),Inv X pins σ H s->wi σ H R->
  wpAny (model X.prog X.w) X.A (eval iter X.env) (fun v s1=>wpAny (model X.prog X.w) X.A (pyIter v) (BS X pins σ tg R) X.xe s1) X.xe s:=⟨PI.run⟩
theorem my {M:Model} {A:Around} {E:Value->Shared->Prop} {tg:Expr} {it:Addr} {u:Value} {o:Obj} {n:String} {vs:Array Value} {Q:Unit->Shared->Prop} (ho:s.heap.get? it=some o) (hc:o.cls=.type n) (hd:o.data=.fields vs)
  (hn:["enumerate","zip","dict_itemiterator","dict_reverseitemiterator","odict_iterator","itertools.zip_longest","itertools.pairwise"].contains n=false) (hQ:Q () s):wpAny M A (letOwnedTupleGo tg (.ref it) u) Q E s:=by
 unfold letOwnedTupleGo;cases tg<;>first
  | exact wpAny_pure hQ
  | (cases u<;>first
    | exact wpAny_pure hQ
    | (refine wpAny_bind (wpAny_load ho ?_)
       rw [hc,hd];show wpAny M A (if (["enumerate","zip","dict_itemiterator","dict_reverseitemiterator","odict_iterator","itertools.zip_longest","itertools.pairwise"].contains n && vs[0]? == some (rawInt _))=true then _ else _) Q E s;rw [if_neg (by intro h;rw [hn,Bool.false_and] at h;cases h)];exact wpAny_pure hQ))
def Af (K:ZF) (a:Addr):It:=
 ⟨fun i H=>∃ xs x,SqL K H a xs/\xs[i]?=some x,fun i H x H'=>H'=H/\∀ xs,SqL K H a xs->xs[i]?=some x,fun i H=>∃ xs,SqL K H a xs/\xs.length<=i⟩
def Ag (K:ZF) (a:Addr):It:=
 ⟨fun i H=>∃ xs x,SqT K H a xs/\xs[i]?=some x,fun i H x H'=>H'=H/\∀ xs,SqT K H a xs->xs[i]?=some x,fun i H=>∃ xs,SqT K H a xs/\xs.length<=i⟩
def xN (lo:Int) (n:Nat):It:=⟨fun i _=>i < n,fun i H x H'=>H'=H/\x=.int (lo+i),fun i _=>n<=i⟩
variable {tg:Expr} {K:ZF}
theorem qY (a it:Addr):kC P w K tg (Af K a) [it] it (fun i h=>h.IsListIter it a i) where
 mem:=by simp
 obj:=fun i h st b hb=>by
  have e:b=it:=by simpa using hb
  subst e;obtain ⟨o,e,c,d⟩:=st;exact ⟨o,e,fun v z=>by rw [d] at z;cases z⟩
 keep:=fun i h h' st k=>st.at fun o e=>k it (by simp) o e
 item:=by
  intro X hP hw hK hc i pins s σ H E I hf st hg;subst hP hw hK;obtain ⟨xs,x,hq,hx⟩:=hg;obtain ⟨its,rv,p,hz⟩:=I.list hq;obtain ⟨u,hu,ru⟩:=rv.get hx;obtain ⟨f0,f1,f2,f3,f4,f5⟩:=hf it (by simp);refine wpAny_pyNext_list_item st p.isList (x:=u) (by simpa using hu) fun h' st' sb=>?_;have I1:Inv X pins σ H { s with heap:=h' }:=I.turned (t':=s.toks) (fun b o hb e=>(sb.2 b hb).trans e) f0 f1 f3 f4 f5;obtain ⟨o,e,c,d⟩:=id st';exact ⟨u,rfl,my (s:={ s with heap:=h' }) e c d zd ⟨x,H,I1,ru,⟨rfl,fun ys hy=>by rw [I.list_inj hy hq];exact hx⟩,st',fun b hb=>(hf b hb).1⟩⟩
 done:=by
  intro X hP hw hK hc i pins s σ H E I hf st hg;subst hP hw hK;obtain ⟨xs,hq,hx⟩:=hg;obtain ⟨its,rv,p,hz⟩:=I.list hq;obtain ⟨f0,f1,f2,f3,f4,f5⟩:=hf it (by simp);have hl:=rv.length;exact wpAny_pyNext_list_end (I.ok.hd hc) st p.isList (by simp;lia) fun h' eb=>⟨rfl,I.turned (t':=s.toks) (fun b o hb e=>eb b o hb e) f0 f1 f3 f4 f5⟩
 self:=fun _ _ _ _ _ st h=>wpAny_pyIter_listiter st h
theorem oi (a it:Addr):kC P w K tg (Ag K a) [it] it (fun i h=>h.IsTupleIter it a i) where
 mem:=by simp
 obj:=fun i h st b hb=>by
  have e:b=it:=by simpa using hb
  subst e;obtain ⟨o,e,c,d⟩:=st;exact ⟨o,e,fun v z=>by rw [d] at z;cases z⟩
 keep:=fun i h h' st k=>st.at fun o e=>k it (by simp) o e
 item:=by
  intro X hP hw hK hc i pins s σ H E I hf st hg;subst hP hw hK;obtain ⟨xs,x,hq,hx⟩:=hg;obtain ⟨its,rv,p,hz⟩:=I.tuple hq;obtain ⟨u,hu,ru⟩:=rv.get hx;obtain ⟨f0,f1,f2,f3,f4,f5⟩:=hf it (by simp);refine wpAny_pyNext_tuple_item st (show s.heap.IsTuple a its.toArray from p) (x:=u) (by simpa using hu) fun h' st' sb=>?_;have I1:Inv X pins σ H { s with heap:=h' }:=I.turned (t':=s.toks) (fun b o hb e=>(sb.2 b hb).trans e) f0 f1 f3 f4 f5;obtain ⟨o,e,c,d⟩:=id st';exact ⟨u,rfl,my (s:={ s with heap:=h' }) e c d zd ⟨x,H,I1,ru,⟨rfl,fun ys hy=>by rw [I.tuple_inj hy hq];exact hx⟩,st',fun b hb=>(hf b hb).1⟩⟩
 done:=by
  intro X hP hw hK hc i pins s σ H E I hf st hg;subst hP hw hK;obtain ⟨xs,hq,hx⟩:=hg;obtain ⟨its,rv,p,hz⟩:=I.tuple hq;obtain ⟨f0,f1,f2,f3,f4,f5⟩:=hf it (by simp);have hl:=rv.length;exact wpAny_pyNext_tuple_end (I.ok.hd hc) st (show s.heap.IsTuple a its.toArray from p) (by simp;lia) fun h' eb=>⟨rfl,I.turned (t':=s.toks) (fun b o hb e=>eb b o hb e) f0 f1 f3 f4 f5⟩
 self:=fun _ _ _ _ _ st h=>wpAny_pyIter_tupleiter st h
theorem oj (it:Addr) (lo:Int) (n:Nat):kC P w K tg (xN lo n) [it] it (fun i h=>IsRangeIter h it (lo+(i:Nat)*1) ((n:Int) - (i:Nat)) 1) where
 mem:=by simp
 obj:=fun i h st b hb=>by
  have e:b=it:=by simpa using hb
  subst e;exact ⟨_,st,fun v z=>by
   have z':Data.fields _=Data.cell v:=z;cases z'⟩
 keep:=fun i h h' st k=>k it (by simp) _ st
 item:=by
  intro X hP hw hK hc i pins s σ H E I hf st hg;subst hP hw hK;obtain ⟨f0,f1,f2,f3,f4,f5⟩:=hf it (by simp);have W:=Walks.range (prog:=X.prog) (w:=X.w) (I.ok.hd hc) it lo 1 n;refine W.item i s _ _ hg st fun v h' tk hv st' kk=>?_;obtain ⟨t,rfl⟩:=hv;have I1:Inv X pins σ H { s with heap:=h',toks:=tk }:=I.turned (fun b o hb e=>kk b o (by simpa using hb) e) f0 f1 f3 f4 f5;refine ⟨_,rfl,my (s:={ s with heap:=h',toks:=tk }) (n:="range_iterator") st' rfl rfl zd ⟨.int (lo+i),H,I1,⟨t,?_⟩,⟨rfl,rfl⟩,st',fun b hb=>(hf b hb).1⟩⟩;rw [Int.mul_one]
 done:=by
  intro X hP hw hK hc i pins s σ H E I hf st hg;subst hP hw hK;obtain ⟨f0,f1,f2,f3,f4,f5⟩:=hf it (by simp);exact wpAny_pyNext_range_end (I.ok.hd hc) st (by have:n<=i:=hg;lia) fun h' eb=>⟨rfl,I.turned (t':=s.toks) (fun b o hb e=>eb b o hb e) f0 f1 f3 f4 f5⟩
 self:=fun _ _ _ _ _ st h=>wpAny_pyIter_rangeiter st h
section
variable {X:Cx} {tg:Expr}
inductive sE (K:ZF) (R:It->Hp->Prop) (x:V) (H1:Hp):Prop
 | mk (a:_):x=.ref a->(∃ xs,SqL K H1 a xs)->R (Af K a) H1->sE K R x H1
def Az (K:ZF) (tl:TE):TI:=fun σ H R=>tl σ H fun x H1=>sE K R x H1
inductive xO (K:ZF) (R:It->Hp->Prop) (x:V) (H1:Hp):Prop
 | mk (a:_):x=.ref a->(∃ xs,SqT K H1 a xs)->R (Ag K a) H1->xO K R x H1
def Ck (K:ZF) (tl:TE):TI:=fun σ H R=>tl σ H fun x H1=>xO K R x H1
variable {tl:TE}
theorem ed {l:Expr} (hl:PE X l tl):PI X tg l (Az X.K tl):=by
 refine ⟨?_⟩;intro pins s σ H R I h;refine bG (hl pins s σ H _ I h) fun v s1 ⟨x,H1,I1,r1,q1⟩=>?_;obtain ⟨a,e,⟨xs,hq⟩,q⟩:=q1;subst e;cases r1;obtain ⟨its,rv,p,hz⟩:=I1.list hq;refine wpAny_pyIter_list p.isList ?_;refine ⟨s1.heap.objs.size,[s1.heap.objs.size],_,_,H1,rfl,I1.kept (t':=s1.toks) fun b o e=>D6 _ e,qY a _,⟨_,El _ rfl,rfl,rfl⟩,fun b hb=>?_,q⟩;have e:b=s1.heap.objs.size:=by simpa using hb
 subst e;exact I1.fpOk (Ec _) (I1.hok.fresh (Ec _))
theorem gh {l:Expr} (hl:PE X l tl):PI X tg l (Ck X.K tl):=by
 refine ⟨?_⟩;intro pins s σ H R I h;refine bG (hl pins s σ H _ I h) fun v s1 ⟨x,H1,I1,r1,q1⟩=>?_;obtain ⟨a,e,⟨xs,hq⟩,q⟩:=q1;subst e;cases r1;obtain ⟨its,rv,p,hz⟩:=I1.tuple hq;refine wpAny_pyIter_tuple (show s1.heap.IsTuple a its.toArray from p) ?_;refine ⟨s1.heap.objs.size,[s1.heap.objs.size],_,_,H1,rfl,I1.kept (t':=s1.toks) fun b o e=>D6 _ e,oi a _,⟨_,El _ rfl,rfl,rfl⟩,fun b hb=>?_,q⟩;have e:b=s1.heap.objs.size:=by simpa using hb
 subst e;exact I1.fpOk (Ec _) (I1.hok.fresh (Ec _))
theorem mz {R:It->Hp->Prop} {E:Value->Shared->Prop} {lo hi:Int} {t u v:Tok} {tk:Nat} (I:Inv X pins σ H s) (h1:-(2 ^ 62)<=lo) (h2:lo < 2 ^ 62) (h3:-(2 ^ 62)<=hi) (h4:hi < 2 ^ 62)
  (q:R (xN lo (hi - lo).toNat) H):wpAny (model X.prog X.w) X.A (pyIter (.ref s.heap.objs.size)) (BS X pins σ tg R) E { s with heap:=s.heap.push { cls:=.type "range",data:=.fields #[.int lo t,.int hi u,.int 1 v] },toks:=tk }:=by
 refine wpAny_pyIter_range (IsRange.new ..) (small_one h1 h2 h3 h4) ?_;have I1:Inv X pins σ H { s with heap:=s.heap.push { cls:=.type "range",data:=.fields #[.int lo t,.int hi u,.int 1 v] },toks:=tk }:=I.kept fun b o e=>D6 _ e;refine ⟨(s.heap.push { cls:=.type "range",data:=.fields #[.int lo t,.int hi u,.int 1 v] }).objs.size,[(s.heap.push { cls:=.type "range",data:=.fields #[.int lo t,.int hi u,.int 1 v] }).objs.size],_,_,H,rfl,
  I1.kept (t':=tk) fun b o e=>D6 _ e,oj _ lo (hi - lo).toNat,?_,fun b hb=>?_,q⟩
 ·have e1:lo+((0:Nat):Int)*1=lo:=by simp
  have e2:(((hi - lo).toNat:Nat):Int) - ((0:Nat):Int)=Builtin.Range.rangeSize lo hi 1:=by rw [rangeSize_one];split<;>lia
  show IsRangeIter _ _ (lo+((0:Nat):Int)*1) ((((hi - lo).toNat:Nat):Int) - ((0:Nat):Int)) 1;rw [e1,e2];exact El _ rfl
 ·have e:b=(s.heap.push { cls:=.type "range",data:=.fields #[.int lo t,.int hi u,.int 1 v] }).objs.size:=by simpa using hb
  subst e;exact I1.fpOk (Ec _) (I1.hok.fresh (Ec _))
inductive sF (R:It->Hp->Prop) (vs:List V) (H1:Hp):Prop
 | mk (j:Int):vs=[.int j]->-(2 ^ 62)<=j->j < 2 ^ 62->R (xN 0 j.toNat) H1->sF R vs H1
def AA (ta:TA):TI:=fun σ H R=>ta σ H fun vs H1=>sF R vs H1
inductive sG (R:It->Hp->Prop) (vs:List V) (H1:Hp):Prop
 | mk (i j:Int):vs=[.int i,.int j]->(-(2 ^ 62)<=i/\i < 2 ^ 62/\-(2 ^ 62)<=j/\j < 2 ^ 62)->R (xN i (j - i).toNat) H1->sG R vs H1
def AB (ta:TA):TI:=fun σ H R=>ta σ H fun vs H1=>sG R vs H1
variable {ta:TA}
theorem du {a:Expr} {p pos:Pos} (hg:Gl X "range") (hm:X.mg "range"=none) (ha:PA X [a] ta) (hs:starEach [a] X.env=[(false,eval a X.env)]:=by rfl):PI X tg (.Call (.Name "range" p) [a] [] pos) (AA ta):=by
 refine ⟨?_⟩;intro pins s σ H R I h;refine Call_ (eP I hg hm boot_range (EL (bG (ha pos pins s σ H _ I h) fun us s1 ⟨vs,H1,I1,r1,q1⟩=>?_) hs rfl));obtain ⟨j,e,q1,q2,q⟩:=q1;subst e;cases r1 with
 | cons r rr=>
  cases rr;obtain ⟨t,rfl⟩:=r;exact call_range_1 (mz I1 zo zo q1 q2 (by simpa using q))
theorem jW {a b:Expr} {p pos:Pos} (hg:Gl X "range") (hm:X.mg "range"=none) (ha:PA X [a,b] ta) (hs:starEach [a,b] X.env=[(false,eval a X.env),(false,eval b X.env)]:=by rfl) (hs2:starEach [b] X.env=[(false,eval b X.env)]:=by rfl) :
  PI X tg (.Call (.Name "range" p) [a,b] [] pos) (AB ta):=by
 refine ⟨?_⟩;intro pins s σ H R I h;refine Call_ (eP I hg hm boot_range (EL (bG (ha pos pins s σ H _ I h) fun us s1 ⟨vs,H1,I1,r1,q1⟩=>?_) (by rw [hs,hs2]) (by rw [hs2];rfl)));obtain ⟨i,j,e,⟨q1,q2,q3,q4⟩,q⟩:=q1;subst e;cases r1 with
 | cons r rr=>
  cases rr with
  | cons r' rr=>
   cases rr;obtain ⟨t,rfl⟩:=r;obtain ⟨t',rfl⟩:=r';exact call_range_2 (mz I1 q1 q2 q3 q4 q)
def Cl (wi:TI) (g:TG) (tb:TS):TS:=fun D σ H=>wi σ H fun J H1=>∃ W:Nat->Nat->St->Hp->Prop,(∃ m,W 0 m σ H1)/\∀ i m σ H,W i m σ H->
 (J.stop i H/\D.nx σ H)\/(J.go i H/\∃ N:St->Hp->Prop,(∀ σ' H',N σ' H'->∃ m',m' < m/\W (i+1) m' σ' H')/\∀ x H',J.yld i H x H'->g x σ H' fun σ2 H2=>tb { D with nx:=N,ct:=N,bk:=D.nx } σ2 H2)
def dL (fp:List Addr) (h:Heap):List (Addr×Obj):=fp.filterMap fun b=>(h.get? b).map fun o=>(b,o)
variable {fp:List Addr}
theorem gi {o:Obj} (hb:b∈fp) (e:h.get? b=some o):(b,o)∈dL fp h:=List.mem_filterMap.mpr ⟨b,hb,by rw [e];rfl⟩
theorem jX {p:Addr×Obj} (hp:p∈dL fp h):p.1∈fp/\h.get? p.1=some p.2:=by
 obtain ⟨b,hb,e⟩:=List.mem_filterMap.mp hp;cases q:h.get? b with
 | none=>rw [q] at e;cases e
 | some o=>
  rw [q] at e;have e':(b,o)=p:=Ey e;subst e';exact ⟨hb,q⟩
theorem Inv.pinned (I:Inv X pins σ H s) (hf:∀ b∈fp,jN X pins H b) (ho:∀ b∈fp,∃ o,s.heap.get? b=some o/\∀ v,o.data≠.cell v):Inv X (pins++dL fp s.heap) σ H s:=
 I.pins_of fun p hp=>(EM.mp hp).elim (fun z=>I.pin p (EB _ z)) fun z=>by
  obtain ⟨hb,e⟩:=jX z;obtain ⟨f0,f1,f2,_⟩:=hf p.1 hb;obtain ⟨o,e',d⟩:=ho p.1 hb;rw [e] at e';cases e';exact ⟨e,f0,f1,f2,d⟩
theorem Inv.unpinned {pins pl:List (Addr×Obj)} (I:Inv X (pins++pl) σ H s):Inv X pins σ H s:=I.pins_of fun p hp=>I.pin p (EB _ (Fe _ hp))
theorem cQ {iter:Expr} {body:List Stmt} {wi:TI} {g:TG} {tb:TS} {pos:Pos} (hp:PassesOwn (model X.prog X.w) X.A X.env X.xe) (hc:X.calm=true) (hi:PI X tg iter wi) (hg:PG X tg g) (hb:PSs X body tb)
  (hs:∀ x,foldedSetIterable iter X.env x=pure x:=by intro _;rfl):PS X (.For tg iter body [] pos) (Cl wi g tb):=by
 refine ⟨?_⟩;intro pins s σ H D I h;refine wpAny_For (bG (hi pins s σ H _ I h) fun v s1 h1=>bG h1 fun itv s2 h2=>?_) hs;obtain ⟨it,fp,tn,J,H2,e,I2,T,st2,f2,W,⟨m0,w0⟩,turn⟩:=h2;subst e;have stat:∀ {H':Hp},(∀ b∈fp,H' b=none)->∀ b∈fp,jN X pins H' b:=fun hn b hb=>⟨hn b hb,(f2 b hb).2⟩;refine codeAny_forLoop_any (fun n s'=>∃ i σ' H',Inv X pins σ' H' s'/\tn i s'.heap/\(∀ b∈fp,H' b=none)/\W i n σ' H') ?_ m0 ⟨0,σ,H2,I2,st2,fun b hb=>(f2 b hb).1,w0⟩;rintro n s3 ⟨i,σ3,H3,I3,st3,fr3,w3⟩;rcases turn i n σ3 H3 w3 with ⟨stop,qn⟩|⟨go,N,hN,step⟩
 ·refine wpAny_passesOwn hp (bG (T.done X rfl rfl rfl hc i pins s3 σ3 H3 X.xe I3 (stat fr3) st3 stop) fun r s4 ⟨hr,I4⟩=>?_);subst hr;exact wpAny_execs_nil ⟨σ3,H3,I4,qn⟩
 ·refine wpAny_passesOwn hp (bG (T.item X rfl rfl rfl hc i pins s3 σ3 H3 X.xe I3 (stat fr3) st3 go) fun r s4 ⟨u,hr,h4⟩=>?_);subst hr;refine wpAny_passesOwn hp (bG h4 fun _ s5 ⟨x,H5,I5,r5,y5,st5,fr5⟩=>?_);have I5':=I5.pinned (stat fr5) (T.obj _ _ st5);refine wpAny_passesOwn hp (bG (hg _ s5 σ3 H5 x u _ I5' r5 (step x H5 y5)) fun _ s6 ⟨σ6,H6,I6,q6⟩=>?_);refine wpAny_passesOwn hp (bG (hb _ s6 σ6 H6 _ I6 q6) fun f s7 q7=>?_);have again:∀ {σ7:St} {H7:Hp},Inv X (pins++dL fp s5.heap) σ7 H7 s7->N σ7 H7->∃ m,m < n/\∃ i σ' H',Inv X pins σ' H' s7/\tn i s7.heap/\(∀ b∈fp,H' b=none)/\W i m σ' H':=fun {σ7 H7} I7 n7=>by
   obtain ⟨m',hm,w7⟩:=hN σ7 H7 n7;refine ⟨m',hm,i+1,σ7,H7,I7.unpinned,T.keep _ _ _ st5 fun b hb o e=>(I7.pin (b,o) (EB _ (EB _ (gi hb e)))).1,fun b hb=>?_,w7⟩;obtain ⟨o,e,d⟩:=T.obj _ _ st5 b hb;exact (I7.pin (b,o) (EB _ (EB _ (gi hb e)))).2.1
  cases f with
  | next=>obtain ⟨σ7,H7,I7,n7⟩:=q7;exact again I7 n7
  | cont=>obtain ⟨σ7,H7,I7,n7⟩:=q7;exact again I7 n7
  | brk=>obtain ⟨σ7,H7,I7,q7⟩:=q7;exact ⟨σ7,H7,I7.unpinned,q7⟩
  | ret v=>obtain ⟨x7,σ7,H7,I7,r7,q7⟩:=q7;exact ⟨x7,σ7,H7,I7.unpinned,r7,q7⟩
end
theorem gG {g:TG} {tb:TS} {D:Ends} (Pv:Nat->St->Hp->Prop) (h0:Pv 0 σ H) (hl:∀ i σ H,i<=xs.length->Pv i σ H->SqL K H a xs)
  (hs:∀ i x σ H,xs[i]?=some x->Pv i σ H->g x σ H fun σ2 H2=>tb { D with nx:=Pv (i+1),ct:=Pv (i+1),bk:=D.nx } σ2 H2) (hd:∀ σ H,Pv xs.length σ H->D.nx σ H) :
  ∃ W:Nat->Nat->St->Hp->Prop,(∃ m,W 0 m σ H)/\∀ i m σ H,W i m σ H->
   ((Af K a).stop i H/\D.nx σ H)\/((Af K a).go i H/\∃ N:St->Hp->Prop,(∀ σ' H',N σ' H'->∃ m',m' < m/\W (i+1) m' σ' H')/\∀ x H',(Af K a).yld i H x H'->g x σ H' fun σ2 H2=>tb { D with nx:=N,ct:=N,bk:=D.nx } σ2 H2):=by
 refine ⟨fun i m σ H=>m=xs.length - i/\i<=xs.length/\Pv i σ H,⟨xs.length,by simp,Ep _,h0⟩,?_⟩;rintro i m σ H ⟨rfl,hi,p⟩;have q:=hl i σ H hi p;by_cases hlt:i < xs.length
 ·refine .inr ⟨⟨xs,xs[i],q,by simp [hlt]⟩,Pv (i+1),fun σ' H' p'=>⟨xs.length - (i+1),zo,rfl,hlt,p'⟩,fun x H' y=>?_⟩;obtain ⟨e,y⟩:=y;subst e;exact hs i x σ _ (y xs q) p
 ·have e:i=xs.length:=by lia
  subst e;exact .inl ⟨⟨xs,q,Ec _⟩,hd σ H p⟩
theorem p8 {g:TG} {tb:TS} {D:Ends} (Pv:Nat->St->Hp->Prop) (h0:Pv 0 σ H) (hl:∀ i σ H,i<=xs.length->Pv i σ H->SqT K H a xs)
  (hs:∀ i x σ H,xs[i]?=some x->Pv i σ H->g x σ H fun σ2 H2=>tb { D with nx:=Pv (i+1),ct:=Pv (i+1),bk:=D.nx } σ2 H2) (hd:∀ σ H,Pv xs.length σ H->D.nx σ H) :
  ∃ W:Nat->Nat->St->Hp->Prop,(∃ m,W 0 m σ H)/\∀ i m σ H,W i m σ H->
   ((Ag K a).stop i H/\D.nx σ H)\/((Ag K a).go i H/\∃ N:St->Hp->Prop,(∀ σ' H',N σ' H'->∃ m',m' < m/\W (i+1) m' σ' H')/\∀ x H',(Ag K a).yld i H x H'->g x σ H' fun σ2 H2=>tb { D with nx:=N,ct:=N,bk:=D.nx } σ2 H2):=by
 refine ⟨fun i m σ H=>m=xs.length - i/\i<=xs.length/\Pv i σ H,⟨xs.length,by simp,Ep _,h0⟩,?_⟩;rintro i m σ H ⟨rfl,hi,p⟩;have q:=hl i σ H hi p;by_cases hlt:i < xs.length
 ·refine .inr ⟨⟨xs,xs[i],q,by simp [hlt]⟩,Pv (i+1),fun σ' H' p'=>⟨xs.length - (i+1),zo,rfl,hlt,p'⟩,fun x H' y=>?_⟩;obtain ⟨e,y⟩:=y;subst e;exact hs i x σ _ (y xs q) p
 ·have e:i=xs.length:=by lia
  subst e;exact .inl ⟨⟨xs,q,Ec _⟩,hd σ H p⟩
theorem dN {lo:Int} {n:Nat} {g:TG} {tb:TS} {D:Ends} (Pv:Nat->St->Hp->Prop) (h0:Pv 0 σ H)
  (hs:∀ i σ H,i < n->Pv i σ H->g (.int (lo+i)) σ H fun σ2 H2=>tb { D with nx:=Pv (i+1),ct:=Pv (i+1),bk:=D.nx } σ2 H2) (hd:∀ σ H,Pv n σ H->D.nx σ H) :
  ∃ W:Nat->Nat->St->Hp->Prop,(∃ m,W 0 m σ H)/\∀ i m σ H,W i m σ H->
   ((xN lo n).stop i H/\D.nx σ H)\/((xN lo n).go i H/\∃ N:St->Hp->Prop,(∀ σ' H',N σ' H'->∃ m',m' < m/\W (i+1) m' σ' H')/\∀ x H',(xN lo n).yld i H x H'->g x σ H' fun σ2 H2=>tb { D with nx:=N,ct:=N,bk:=D.nx } σ2 H2):=by
 refine ⟨fun i m σ H=>m=n - i/\i<=n/\Pv i σ H,⟨n,by simp,Ep _,h0⟩,?_⟩;rintro i m σ H ⟨rfl,hi,p⟩;by_cases hlt:i < n
 ·refine .inr ⟨hlt,Pv (i+1),fun σ' H' p'=>⟨n - (i+1),zo,rfl,hlt,p'⟩,fun x H' y=>?_⟩;obtain ⟨e,y⟩:=y;subst e y;exact hs i σ _ hlt p
 ·have e:i=n:=by lia
  subst e;exact .inl ⟨Ec _,hd σ H p⟩
abbrev R2:=V->V->Hp->VK->Prop
def dO (X:Cx) (f:Value->Value->Sem Value) (r:R2):Prop:=
 ∀ (pins:List (Addr×Obj)) (s:Shared) (σ:St) (H:Hp) (x y:V) (v u:Value) (Q:VK),Inv X pins σ H s->RelV x v->RelV y u->r x y H Q->
  wpAny (model X.prog X.w) X.A (f v u) (EP X pins σ Q) X.xe s
def Cm (X:Cx) (f:Value->Sem Value) (r:V->Hp->VK->Prop):Prop:=
 ∀ (pins:List (Addr×Obj)) (s:Shared) (σ:St) (H:Hp) (x:V) (v:Value) (Q:VK),Inv X pins σ H s->RelV x v->r x H Q->
  wpAny (model X.prog X.w) X.A (f v) (EP X pins σ Q) X.xe s
def cV (X:Cx) (f:Value) (r:List V->Hp->VK->Prop):Prop:=
 ∀ (pins:List (Addr×Obj)) (s:Shared) (σ:St) (H:Hp) (xs:List V) (us:List Value) (Q:VK),Inv X pins σ H s->Vals xs us->r xs H Q->
  wpAny (model X.prog X.w) X.A (call f us) (EP X pins σ Q) X.xe s
def Cn (X:Cx) (r:V->Hp->(Bool->Hp->Prop)->Prop):Prop:=
 ∀ (pins:List (Addr×Obj)) (s:Shared) (σ:St) (H:Hp) (x:V) (v:Value) (Q:Bool->Hp->Prop),Inv X pins σ H s->RelV x v->r x H Q->
  wpAny (model X.prog X.w) X.A (truthy v) (TP X pins σ Q) X.xe s
def BU (r:R2) (ta tb:TE):TE:=fun σ H Q=>ta σ H fun x H1=>tb σ H1 fun y H2=>r x y H2 Q
def DK (r:V->Hp->VK->Prop) (ta:TE):TE:=fun σ H Q=>ta σ H fun x H1=>r x H1 Q
inductive rI (C:Int->Int->Prop) (g:Int->Int->V) (x:V) (y:V) (H:Hp) (Q:VK):Prop
 | mk (i j:_):x=.int i->y=.int j->C i j->Q (g i j) H->rI C g x y H Q
inductive vS (g:Int->Int->V) (x:V) (y:V) (H:Hp) (Q:VK):Prop
 | mk (i j:_):x=.int i->y=.int j->Q (g i j) H->vS g x y H Q
inductive rU (g:Int->V) (x:V) (H:Hp) (Q:VK):Prop
 | mk (i:_):x=.int i->Q (g i) H->rU g x H Q
section
variable {X:Cx} {a b c:Expr} {ta tb tc:TE} {pos:Pos}
theorem yF (ha:PE X a ta) (hb:PE X b tb) {R:V->V->Hp->Prop} (I:Inv X pins σ H s)
  (h:ta σ H fun x H1=>tb σ H1 fun y H2=>R x y H2) {Q:Value->Shared->Prop} {f:Value->Value->Sem Value}
  (hf:∀ v u s2 x y H2,Inv X pins σ H2 s2->RelV x v->RelV y u->R x y H2->wpAny (model X.prog X.w) X.A (f v u) Q X.xe s2) :
  wpAny (model X.prog X.w) X.A (eval a X.env) (fun v s₁=>wpAny (model X.prog X.w) X.A (eval b X.env) (fun u s₂=>wpAny (model X.prog X.w) X.A (f v u) Q X.xe s₂) X.xe s₁) X.xe s:=by
 refine bG (ha pins s σ H _ I h) fun v s1 ⟨x,H1,I1,r1,q1⟩=>?_;refine bG (hb pins s1 σ H1 _ I1 q1) fun u s2 ⟨y,H2,I2,r2,q2⟩=>?_;exact hf v u s2 x y H2 I2 r1 r2 q2
theorem aL {op:Operator} {r:R2} (ho:dO X (binaryOp op) r) (ha:PE X a ta) (hb:PE X b tb):PE X (.BinOp a op b pos) (BU r ta tb):=by
 refine ⟨?_⟩;intro pins s σ H Q I h;exact wpAny_BinOp (yF ha hb I h fun v u s2 x y H2 I2 rx ry q=>ho pins s2 σ H2 x y v u Q I2 rx ry q)
theorem jY {op:UnaryOp} {r:V->Hp->VK->Prop} (ho:Cm X (unaryOp op) r) (ha:PE X a ta):PE X (.UnaryOp op a pos) (DK r ta):=by
 refine ⟨?_⟩;intro pins s σ H Q I h;exact UnaryOp_ (bG (ha pins s σ H _ I h) fun v s1 ⟨x,H1,I1,r1,q1⟩=>ho pins s1 σ H1 x v Q I1 r1 q1)
theorem Ah {f:Value->Value->Sem Value} {C:Int->Int->Prop} {g:Int->Int->Int}
  (rule:∀ (i j:Int) (t u:Tok) (s:Shared) (Q:Value->Shared->Prop) (E:Value->Shared->Prop),C i j->Q (.int (g i j) s.toks) { s with toks:=s.toks+1 }->wpAny (model X.prog X.w) X.A (f (.int i t) (.int j u)) Q E s) :
  dO X f (rI C fun i j=>.int (g i j)):=by
 intro pins s σ H x y v u Q I rx ry h;obtain ⟨i,j,rfl,rfl,hc,q⟩:=h;obtain ⟨t,rfl⟩:=rx;obtain ⟨t',rfl⟩:=ry;exact rule i j t t' s _ _ hc ⟨.int (g i j),H,I.tok _,⟨_,rfl⟩,q⟩
theorem AC {f:Value->Value->Sem Value} {g:Int->Int->Int}
  (rule:∀ (i j:Int) (t u:Tok) (s:Shared) (Q:Value->Shared->Prop) (E:Value->Shared->Prop),Q (.int (g i j) s.toks) { s with toks:=s.toks+1 }->wpAny (model X.prog X.w) X.A (f (.int i t) (.int j u)) Q E s) :
  dO X f (vS fun i j=>.int (g i j)):=by
 intro pins s σ H x y v u Q I rx ry h;obtain ⟨i,j,rfl,rfl,q⟩:=h;obtain ⟨t,rfl⟩:=rx;obtain ⟨t',rfl⟩:=ry;exact rule i j t t' s _ _ ⟨.int (g i j),H,I.tok _,⟨_,rfl⟩,q⟩
theorem vT {f:Value->Value->Sem Value} {g:Int->Int->Bool}
  (rule:∀ (i j:Int) (t u:Tok) (s:Shared) (Q:Value->Shared->Prop) (E:Value->Shared->Prop),Q (.bool (g i j)) s->wpAny (model X.prog X.w) X.A (f (.int i t) (.int j u)) Q E s) :
  dO X f (vS fun i j=>.bl (g i j)):=by
 intro pins s σ H x y v u Q I rx ry h;obtain ⟨i,j,rfl,rfl,q⟩:=h;obtain ⟨t,rfl⟩:=rx;obtain ⟨t',rfl⟩:=ry;exact rule i j t t' s _ _ ⟨.bl (g i j),H,I,rfl,q⟩
def Co (i j:Int):Prop:=0 < j/\j < 1073741824
def yG (i j:Int):Prop:=0<=j/\j<=1000000/\i.natAbs < 2 ^ 64
def CMul (i j:Int):Prop:=(-(2 ^ 64) < i/\i < 2 ^ 64)\/(-(2 ^ 64) < j/\j < 2 ^ 64)
theorem CMul.ok {i j:Int} (h:CMul i j):IntMulOk i j:=by
 rcases h with ⟨h1,h2⟩|⟨h1,h2⟩
 ·exact .of_left (intBits_le_64 h1 h2)
 ·exact .of_right (intBits_le_64 h1 h2)
theorem cN:dO X (binaryOp .Add) (vS fun i j=>.int (i+j)):=AC fun _ _ _ _ _ _ _ q=>add_int q
theorem en:dO X (binaryOp .Sub) (vS fun i j=>.int (i - j)):=AC fun _ _ _ _ _ _ _ q=>sub_int q
theorem eQ:dO X (binaryOp .Mult) (rI CMul fun i j=>.int (i*j)):=Ah fun _ _ _ _ _ _ _ hc q=>mul_int q hc.ok
theorem vU:dO X (binaryOp .FloorDiv) (rI Co fun i j=>.int (i / j)):=Ah fun i j _ _ _ _ _ hc q=>by
 have h1:(0:Int) < j:=hc.1;have h2:j < 1073741824:=hc.2;exact floordiv_int zo (by rw [Int.fdiv_eq_ediv_of_nonneg i zo];exact q) (.inl (PyProof.noPylong_small zo))
theorem eR:dO X (binaryOp .Mod) (rI (fun _ j=>0 < j) fun i j=>.int (i % j)):=Ah fun i j _ _ _ _ _ hc q=>by
 have h1:(0:Int) < j:=hc;exact mod_int' zo (by rw [Int.fmod_eq_emod_of_nonneg i zo];exact q)
theorem kD:dO X (binaryOp .Pow) (rI yG fun i j=>.int (i ^ j.toNat)):=Ah fun _ _ _ _ _ _ _ hc q=>pow_int_small hc.1 hc.2.1 hc.2.2 q
theorem kE:dO X (binaryOp .LShift) (rI yG fun i j=>.int (i*2 ^ j.toNat)):=Ah fun _ _ _ _ _ _ _ hc q=>lshift_int_small hc.1 hc.2.1 hc.2.2 q
theorem DL {f:Value->Sem Value} {g:Int->Int}
  (rule:∀ (i:Int) (t:Tok) (s:Shared) (Q:Value->Shared->Prop) (E:Value->Shared->Prop),Q (.int (g i) s.toks) { s with toks:=s.toks+1 }->wpAny (model X.prog X.w) X.A (f (.int i t)) Q E s) :
  Cm X f (rU fun i=>.int (g i)):=by
 intro pins s σ H x v Q I rx h;obtain ⟨i,rfl,q⟩:=h;obtain ⟨t,rfl⟩:=rx;exact rule i t s _ _ ⟨.int (g i),H,I.tok _,⟨_,rfl⟩,q⟩
theorem hI:Cm X (unaryOp .USub) (rU fun i=>.int (-i)):=DL fun _ _ _ _ _ q=>neg_int q
end
def AD:V->V->Bool
 | .non,.non=>true|.non,.int _=>true|.int _,.non=>true|.non,.bl _=>true|.bl _,.non=>true|.non,.str _=>true|.str _,.non=>true
 | .int _,.int _=>true|.bl _,.bl _=>true|.str _,.str _=>true|.byt _,.byt _=>true
 | .int _,.str _=>true|.str _,.int _=>true|.bl _,.str _=>true|.str _,.bl _=>true
 | _,_=>false
def DM:R2:=fun x y H Q=>AD x y=true/\Q (.bl (decide (x=y))) H
def DN:R2:=fun x y H Q=>AD x y=true/\Q (.bl (!decide (x=y))) H
theorem iM {i j:Int}:decide (V.int i=V.int j)=(i == j):=by
 rw [E1];simp
theorem sI {i j:Bool}:decide (V.bl i=V.bl j)=(i == j):=by
 rw [E1];simp
theorem qa {i j:Str}:decide (V.str i=V.str j)=(i == j):=by
 rw [E1];simp
theorem qb {i j:Array UInt8}:decide (V.byt i=V.byt j)=(i.toList == j.toList):=by
 rw [E1];cases i;cases j;simp
section
variable {X:Cx} {a b c:Expr} {ta tb tc:TE} {pos:Pos}
theorem bv {Q:VK} {k k':Bool} (I:Inv X pins σ H s) (q:Q (.bl k) H) (e:k=k'):EP X pins σ Q (.bool k') s:=by
 subst e;exact ⟨.bl k,H,I,rfl,q⟩
theorem bY:dO X (compareOp .Eq) DM:=by
 intro pins s σ H x y v u Q I rx ry h;obtain ⟨hs,q⟩:=h;cases x with
 | non=>
  cases rx;cases y with
  | non=>cases ry;exact PySem.EqNone.eq_none_none (bv I q (by simp))
  | bl j=>cases ry;exact PySem.EqNone.eq_none_bool (bv I q (by simp))
  | int j=>obtain ⟨t',rfl⟩:=ry;exact PySem.EqNone.eq_none_int (bv I q (by simp))
  | str j=>obtain ⟨t',rfl⟩:=ry;exact PySem.EqNone.eq_none_str (bv I q (by simp))
  | _=>exact absurd (show false=true from hs) Ee
 | bl i=>
  cases rx;cases y with
  | non=>cases ry;exact PySem.EqNone.eq_bool_none (bv I q (by simp))
  | bl j=>cases ry;exact eq_bool (bv I q sI)
  | str j=>obtain ⟨t',rfl⟩:=ry;exact PySem.EqMixed.eq_bool_str (bv I q (by simp))
  | _=>exact absurd (show false=true from hs) Ee
 | int i=>
  obtain ⟨t,rfl⟩:=rx;cases y with
  | non=>cases ry;exact PySem.EqNone.eq_int_none (bv I q (by simp))
  | int j=>obtain ⟨t',rfl⟩:=ry;exact eq_int (bv I q iM)
  | str j=>obtain ⟨t',rfl⟩:=ry;exact PySem.EqMixed.eq_int_str (bv I q (by simp))
  | _=>exact absurd (show false=true from hs) Ee
 | str i=>
  obtain ⟨t,rfl⟩:=rx;cases y with
  | non=>cases ry;exact PySem.EqNone.eq_str_none (bv I q (by simp))
  | bl j=>cases ry;exact PySem.EqMixed.eq_str_bool (bv I q (by simp))
  | int j=>obtain ⟨t',rfl⟩:=ry;exact PySem.EqMixed.eq_str_int (bv I q (by simp))
  | str j=>obtain ⟨t',rfl⟩:=ry;exact eq_str (bv I q qa)
  | _=>exact absurd (show false=true from hs) Ee
 | byt i=>
  obtain ⟨t,rfl⟩:=rx;cases y with
  | byt j=>obtain ⟨t',rfl⟩:=ry;exact PySem.W.eq_bytes (bv I q qb)
  | _=>exact absurd (show false=true from hs) Ee
 | _=>cases y<;>exact absurd (show false=true from hs) Ee
theorem mC:dO X (compareOp .NotEq) DN:=by
 intro pins s σ H x y v u Q I rx ry h;obtain ⟨hs,q⟩:=h;cases x with
 | non=>
  cases rx;cases y with
  | non=>cases ry;exact PySem.EqNone.ne_none_none (bv I q (by simp))
  | bl j=>cases ry;exact PySem.EqNone.ne_none_bool (bv I q (by simp))
  | int j=>obtain ⟨t',rfl⟩:=ry;exact PySem.EqNone.ne_none_int (bv I q (by simp))
  | str j=>obtain ⟨t',rfl⟩:=ry;exact PySem.EqNone.ne_none_str (bv I q (by simp))
  | _=>exact absurd (show false=true from hs) Ee
 | bl i=>
  cases rx;cases y with
  | non=>cases ry;exact PySem.EqNone.ne_bool_none (bv I q (by simp))
  | bl j=>cases ry;exact ne_bool (bv I q (congrArg not sI))
  | str j=>obtain ⟨t',rfl⟩:=ry;exact PySem.EqMixed.ne_bool_str (bv I q (by simp))
  | _=>exact absurd (show false=true from hs) Ee
 | int i=>
  obtain ⟨t,rfl⟩:=rx;cases y with
  | non=>cases ry;exact PySem.EqNone.ne_int_none (bv I q (by simp))
  | int j=>obtain ⟨t',rfl⟩:=ry;exact ne_int (bv I q (congrArg not iM))
  | str j=>obtain ⟨t',rfl⟩:=ry;exact PySem.EqMixed.ne_int_str (bv I q (by simp))
  | _=>exact absurd (show false=true from hs) Ee
 | str i=>
  obtain ⟨t,rfl⟩:=rx;cases y with
  | non=>cases ry;exact PySem.EqNone.ne_str_none (bv I q (by simp))
  | bl j=>cases ry;exact PySem.EqMixed.ne_str_bool (bv I q (by simp))
  | int j=>obtain ⟨t',rfl⟩:=ry;exact PySem.EqMixed.ne_str_int (bv I q (by simp))
  | str j=>obtain ⟨t',rfl⟩:=ry;exact ne_str (bv I q (congrArg not qa))
  | _=>exact absurd (show false=true from hs) Ee
 | byt i=>
  obtain ⟨t,rfl⟩:=rx;cases y with
  | byt j=>obtain ⟨t',rfl⟩:=ry;exact PySem.W.ne_bytes (bv I q (congrArg not qb))
  | _=>exact absurd (show false=true from hs) Ee
 | _=>cases y<;>exact absurd (show false=true from hs) Ee
theorem dB:dO X (compareOp .Lt) (vS fun i j=>.bl (decide (i < j))):=vT fun _ _ _ _ _ _ _ q=>lt_int q
theorem eT:dO X (compareOp .LtE) (vS fun i j=>.bl (decide (i<=j))):=vT fun _ _ _ _ _ _ _ q=>le_int q
theorem i6:dO X (compareOp .Gt) (vS fun i j=>.bl (decide (j < i))):=vT fun _ _ _ _ _ _ _ q=>gt_int q
theorem AE:dO X (compareOp .GtE) (vS fun i j=>.bl (decide (j<=i))):=vT fun _ _ _ _ _ _ _ q=>ge_int q
theorem fC:dO X (compareOp .In) (fun x y H Q=>∃ i j,x=.str i/\y=.str j/\Q (.bl (!(Builtin.Str.occurrences j i 0 j.length 1).isEmpty)) H):=by
 intro pins s σ H x y v u Q I rx ry h;obtain ⟨i,j,rfl,rfl,q⟩:=h;obtain ⟨t,rfl⟩:=rx;obtain ⟨t',rfl⟩:=ry;exact in_str (bv I q rfl)
theorem eU:dO X (compareOp .Is) (fun x y H Q=>y=.non/\Q (.bl (decide (x=.non))) H):=by
 intro pins s σ H x y v u Q I rx ry h;obtain ⟨rfl,q⟩:=h;cases ry;refine is_none_gen (bv I q ?_);cases x<;>first
  | (cases rx;rfl)
  | (obtain ⟨t,rfl⟩:=rx;rfl)
theorem gH:dO X (compareOp .IsNot) (fun x y H Q=>y=.non/\Q (.bl (!decide (x=.non))) H):=by
 intro pins s σ H x y v u Q I rx ry h;obtain ⟨rfl,q⟩:=h;cases ry;refine isnot_none_gen (bv I q ?_);cases x<;>first
  | (cases rx;rfl)
  | (obtain ⟨t,rfl⟩:=rx;rfl)
theorem kF:dO X (compareOp .NotIn) (fun x y H Q=>∃ i j,x=.str i/\y=.str j/\Q (.bl (!(!(Builtin.Str.occurrences j i 0 j.length 1).isEmpty))) H):=by
 intro pins s σ H x y v u Q I rx ry h;obtain ⟨i,j,rfl,rfl,q⟩:=h;obtain ⟨t,rfl⟩:=rx;obtain ⟨t',rfl⟩:=ry;exact notIn_str (bv I q rfl)
variable {op:CmpOp}
theorem sJ (b:Expr) (h:op≠.In:=by decide) (h2:op≠.NotIn:=by decide):behindInMarks op b=false:=by
 have e1:(op == CmpOp.In)=false:=by cases op<;>first|rfl|exact absurd rfl h
 have e2:(op == CmpOp.NotIn)=false:=by cases op<;>first|rfl|exact absurd rfl h2
 cases b<;>simp [behindInMarks,e1,e2]
variable {r:R2}
theorem cf (ho:dO X (compareOp op) r) (ha:PE X a ta) (hb:PE X b tb) (hm:behindInMarks op b=false:=by first|exact sJ _|rfl):PE X (.Compare a [op] [b] pos) (BU r ta tb):=by
 refine ⟨?_⟩;intro pins s σ H Q I h;exact wpAny_Compare1 (yF ha hb I h fun v u s2 x y H2 I2 rx ry q=>ho pins s2 σ H2 x y v u Q I2 rx ry q) hm
inductive sK (Q:Bool->Hp->Prop) (x:V) (H':Hp):Prop
 | mk (k:_):x=.bl k->Q k H'->sK Q x H'
def xP (t:TE):TT:=fun σ H Q=>t σ H fun x H'=>sK Q x H'
theorem am (ho:dO X (compareOp op) r) (ha:PE X a ta) (hb:PE X b tb) (hm:behindInMarks op b=false:=by first|exact sJ _|rfl):PT X (.Compare a [op] [b] pos) (xP (BU r ta tb)):=by
 refine ⟨?_⟩;intro pins s σ H Q I h;refine wpAny_isTrue_Compare1 (bG (ha pins s σ H _ I h) fun v s1 ⟨x,H1,I1,r1,q1⟩=>bG (hb pins s1 σ H1 _ I1 q1) fun u s2 ⟨y,H2,I2,r2,q2⟩=>
  bG (ho pins s2 σ H2 x y v u _ I2 r1 r2 q2) fun c s3 ⟨z,H3,I3,r3,k,e,q3⟩=>?_) hm
 subst e;cases r3;exact wpAny_truthy_bool ⟨H3,I3,q3⟩
inductive qc (r':R2) (tc:TE) (σ:St) (Q:VK) (y:V) (z:V) (H3:Hp):Prop
 | mk (k:_):z=.bl k->(if k=true then tc σ H3 fun w' H4=>r' y w' H4 Q else Q (.bl false) H3)->qc r' tc σ Q y z H3
def sL (r r':R2) (ta tb tc:TE):TE:=fun σ H Q=>ta σ H fun x H1=>tb σ H1 fun y H2=>r x y H2 fun z H3=>qc r' tc σ Q y z H3
theorem i7 {op op':CmpOp} {r r':R2} (ho:dO X (compareOp op) r) (ho':dO X (compareOp op') r') (ha:PE X a ta) (hb:PE X b tb) (hc:PE X c tc)
  (hm:lastMarks [op,op'] [b,c]=false:=by with_unfolding_all rfl):PE X (.Compare a [op,op'] [b,c] pos) (sL r r' ta tb tc):=by
 refine ⟨?_⟩;intro pins s σ H Q I h;refine Compare_chain (bG (ha pins s σ H _ I h) fun v s1 ⟨x,H1,I1,r1,q1⟩=>chain_link (bG (hb pins s1 σ H1 _ I1 q1) fun u s2 ⟨y,H2,I2,r2,q2⟩=>
  bG (ho pins s2 σ H2 x y v u _ I2 r1 r2 q2) fun d s3 ⟨z,H3,I3,r3,k,e,q3⟩=>?_)) hm
 subst e;cases r3;refine wpAny_truthy_bool ?_;cases k with
 | false=>exact ite_ff ⟨.bl false,H3,I3,rfl,q3⟩
 | true=>exact ite_tt (chain_last (bG (hc pins s3 σ H3 _ I3 q3) fun w' s4 ⟨z',H4,I4,r4,q4⟩=>ho' pins s4 σ H4 y z' u w' Q I4 r2 r4 q4))
theorem gI {op op':CmpOp} {r r':R2} (ho:dO X (compareOp op) r) (ho':dO X (compareOp op') r') (ha:PE X a ta) (hb:PE X b tb) (hc:PE X c tc)
  (hm:lastMarks [op,op'] [b,c]=false:=by with_unfolding_all rfl):PT X (.Compare a [op,op'] [b,c] pos) (xP (sL r r' ta tb tc)):=by
 refine ⟨?_⟩;intro pins s σ H Q I h;refine isTrue_chain (bG (ha pins s σ H _ I h) fun v s1 ⟨x,H1,I1,r1,q1⟩=>test_link (bG (hb pins s1 σ H1 _ I1 q1) fun u s2 ⟨y,H2,I2,r2,q2⟩=>
  bG (ho pins s2 σ H2 x y v u _ I2 r1 r2 q2) fun d s3 ⟨z,H3,I3,r3,k,e,q3⟩=>?_)) hm
 subst e;cases r3;refine wpAny_truthy_bool ?_;cases k with
 | false=>
  obtain ⟨k',e',q'⟩:=q3;cases e';exact ite_ff ⟨H3,I3,q'⟩
 | true=>
  refine ite_tt (test_last (bG (hc pins s3 σ H3 _ I3 q3) fun w' s4 ⟨z',H4,I4,r4,q4⟩=>bG (ho' pins s4 σ H4 y z' u w' _ I4 r2 r4 q4) fun d' s5 ⟨z2,H5,I5,r5,k2,e2,q5⟩=>?_));subst e2;cases r5;exact wpAny_truthy_bool ⟨H5,I5,q5⟩
def AF (K:ZF) (x:V) (H:Hp) (k:Bool):Prop:=
 match x with
 | .non=>k=false
 | .bl b=>k=b
 | .int i=>k=(i != 0)
 | .str y=>y.length<=sizeLine/\k=((y.length:Int) != 0)
 | .byt y=>y.size<=sizeLine/\k=((y.size:Int) != 0)
 | .ref p=>(∃ xs,SqL K H p xs/\k=!xs.isEmpty)\/(∃ xs,SqT K H p xs/\k=!xs.isEmpty)\/∃ kvs,H p=some (.dK kvs)/\k=!kvs.isEmpty
 | _=>False
theorem om {κ:Type} {kvs:List (κ×V)} {vs:List (κ×Value)} (r:KV kvs vs):(!vs.isEmpty)=!kvs.isEmpty:=by
 cases r<;>rfl
theorem i8 {its:List Value} (r:Vals xs its):(!its.toArray.isEmpty)=!xs.isEmpty:=by
 cases r<;>simp
theorem gj:(sizeLine:Nat) < 2 ^ 63:=by rw [sizeLine_eq];decide
theorem yH:Cn X (fun x H Q=>∃ k,AF X.K x H k/\Q k H):=by
 intro pins s σ H x v Q I rx h;obtain ⟨k,e,q⟩:=h;have hl:=gj;have hs:sizeLine=16777216:=sizeLine_eq;cases x with
 | non=>
  cases rx;have e':k=false:=e;subst e';exact truthy_none ⟨H,I,q⟩
 | bl b=>
  cases rx;have e':k=b:=e;subst e';exact wpAny_truthy_bool ⟨H,I,q⟩
 | int i=>
  obtain ⟨t,rfl⟩:=rx;have e':k=(i != 0):=e;subst e';exact PySem.P.truthy_int ⟨H,I,q⟩
 | str y=>
  obtain ⟨t,rfl⟩:=rx;obtain ⟨hy,e'⟩:y.length<=sizeLine/\k=((y.length:Int) != 0):=e;subst e';exact PySem.P.truthy_str zo ⟨H,I.tok _,q⟩
 | byt y=>
  obtain ⟨t,rfl⟩:=rx;obtain ⟨hy,e'⟩:y.size<=sizeLine/\k=((y.size:Int) != 0):=e;subst e';exact PySem.W.truthy_bytes zo ⟨H,I.tok _,q⟩
 | ref p=>
  cases rx;have e':(∃ xs,SqL X.K H p xs/\k=!xs.isEmpty)\/(∃ xs,SqT X.K H p xs/\k=!xs.isEmpty)\/∃ kvs,H p=some (.dK kvs)/\k=!kvs.isEmpty:=e;rcases e' with ⟨xs,hx,e'⟩|⟨xs,hx,e'⟩|⟨kvs,hx,e'⟩
  ·subst e';obtain ⟨its,r,pl,hz⟩:=I.list hx;have hlen:=r.length;exact wpAny_truthy_list pl.isList (by simp only [Ea];lia) ⟨H,I.tok _,by rw [i8 r];exact q⟩
  ·subst e';obtain ⟨its,r,pl,hz⟩:=I.tuple hx;have hlen:=r.length;exact truthy_tuple pl (by simp only [Ea];lia) ⟨H,I.tok _,by rw [i8 r];exact q⟩
  ·subst e';obtain ⟨hz,hS,vs,r,m⟩:kvs.length<=sizeLine/\(p == sysModules)=false/\∃ vs,KV kvs vs/\s.heap.DictOf (cD X.prog X.w) p vs:=I.hok p _ hx;have hlen:kvs.length=vs.length:=Paired.length r;exact wpAny_truthy_dict hS m zo ⟨H,I.tok _,by rw [om r];exact q⟩
 | _=>exact (show False from e).elim
theorem bO:dO X (binaryOp .Add) (fun x y H Q=>∃ i j,x=.str i/\y=.str j/\i.length+j.length<=sizeLine/\Q (.str (i++j)) H):=by
 intro pins s σ H x y v u Q I rx ry h;obtain ⟨i,j,rfl,rfl,hz,q⟩:=h;obtain ⟨t,rfl⟩:=rx;obtain ⟨t',rfl⟩:=ry;exact add_str (fun t' tk=>⟨.str (i++j),H,I.tok _,⟨_,rfl⟩,q⟩) hz
theorem gb (r:Vals [x] us):∃ u,us=[u]/\RelV x u:=by
 cases r with
 | cons r1 r2=>cases r2;exact ⟨_,rfl,r1⟩
theorem sM (r:Vals [x,y] us):∃ u w',us=[u,w']/\RelV x u/\RelV y w':=by
 cases r with
 | cons r1 r2=>
  cases r2 with
  | cons r3 r4=>cases r4;exact ⟨_,_,rfl,r1,r3⟩
theorem qZ (hc:X.calm=true):cV X (.builtin "max") (fun xs H Q=>∃ i j,xs=[.int i,.int j]/\Q (.int (if j > i then j else i)) H):=by
 intro pins s σ H xs us Q I r h;obtain ⟨i,j,rfl,q⟩:=h;obtain ⟨u,w',rfl,⟨t,rfl⟩,⟨t',rfl⟩⟩:=sM r;refine max_two_ints (I.ok.hd hc) fun h' tk k=>⟨_,H,I.kept k,?_,q⟩;by_cases hj:j > i
 ·rw [if_pos hj,if_pos hj];exact ⟨_,rfl⟩
 ·rw [if_neg hj,if_neg hj];exact ⟨_,rfl⟩
theorem re (hc:X.calm=true):cV X (.builtin "min") (fun xs H Q=>∃ i j,xs=[.int i,.int j]/\Q (.int (if j < i then j else i)) H):=by
 intro pins s σ H xs us Q I r h;obtain ⟨i,j,rfl,q⟩:=h;obtain ⟨u,w',rfl,⟨t,rfl⟩,⟨t',rfl⟩⟩:=sM r;refine min_two_ints (I.ok.hd hc) fun h' tk k=>⟨_,H,I.kept k,?_,q⟩;by_cases hj:j < i
 ·rw [if_pos hj,if_pos hj];exact ⟨_,rfl⟩
 ·rw [if_neg hj,if_neg hj];exact ⟨_,rfl⟩
theorem fE:cV X (.type "int") (fun xs H Q=>(∃ i,xs=[.int i]/\Q (.int i) H)\/∃ k,xs=[.bl k]/\Q (.int (if k then 1 else 0)) H):=by
 intro pins s σ H xs us Q I r h;rcases h with ⟨i,rfl,q⟩|⟨k,rfl,q⟩
 ·obtain ⟨u,rfl,t,rfl⟩:=gb r;exact call_int_int ⟨.int i,H,I,⟨_,rfl⟩,q⟩
 ·obtain ⟨u,rfl,r1⟩:=gb r;cases r1;exact call_int_bool ⟨.int (if k then 1 else 0),H,I.tok _,⟨_,rfl⟩,q⟩
theorem eo:cV X (.type "str") (fun xs H Q=>∃ i,xs=[.int i]/\i.natAbs.log2 < 1920/\Q (.str (toString i)) H):=by
 intro pins s σ H xs us Q I r h;obtain ⟨i,rfl,hz,q⟩:=h;obtain ⟨u,rfl,t,rfl⟩:=gb r;exact PySem.P.str_of_int hz ⟨.str _,H,I.tok _,⟨_,rfl⟩,q⟩
end
structure ObjM (h:Heap) (x dx C:Addr) (mA:Str->Option Value):Prop where
 obj:h.get? x=some (PySem.W.instObj C dx)
 ns:h.Ns1 dx mA
 ne:dx≠x
variable {mA:Str->Option Value} {dx:Addr}
theorem hJ (n:h.Ns1 dx mA):∃ od,h.get? dx=some od/\∀ name,PySem.W.lookIn name od=some (mA name):=by
 obtain ⟨o,es,ep,ho,hd,hk,_,hm⟩:=n;refine ⟨o,ho,fun name=>?_⟩;have e:=hm name;unfold nsFind findBy at e;rw [<-Array.find?_toList] at e;unfold PySem.W.lookIn;rw [hd];dsimp only;split
 ·rename_i y q;rw [q] at e;exact congrArg some e
 ·rename_i q;rw [q] at e;have a:es.toList.any (·.refKey)=false:=by
   rw [List.any_eq_false];intro y hy;obtain ⟨z,t,hkey⟩:=hk y (Array.mem_toList_iff.mp hy);simp [DictEntry.refKey,hkey]
  have a':¬ es.toList.any (·.refKey)=true:=by rw [a];exact Ee
  rw [if_neg a'];exact congrArg some e
theorem ObjM.look {x dx C:Addr} (I:ObjM h x dx C mA):∃ od,PySem.W.InstAt h x (PySem.W.instObj C dx) C (some od)/\∀ name,PySem.W.lookIn name od=some (mA name):=
 let ⟨od,ho,hl⟩:=hJ I.ns
 ⟨od,⟨I.obj,rfl,rfl,ho⟩,hl⟩
section
variable {prog:Program} {w:World} {A:Around} {E:Value->Shared->Prop} {s:Shared} {K:ZF} {x dx C f:Addr} {mA:Str->Option Value} {name:Str} {v:Value}
theorem vV {expr:Bool} {Q:Value->Shared->Prop} (X:K.In s.heap) (I:ObjM s.heap x dx C mA) (hg:PySem.W.plainGet K C name=true) (hh:PySem.W.hasDictIn K C=true)
  (ha:PySem.W.findIn K (.ref C) name=some none) (hv:mA name=some v) (hv':PySem.W.handedIn v=true) (h:Q v { s with toks:=s.toks+1 }) :
  wpAny (model prog w) A (getAttr (.ref x) name expr) Q E s:=by
 obtain ⟨od,J,hl⟩:=I.look;exact PySem.W.get_value X J (PySem.W.plainGet_of hg).1 (PySem.W.findObj_own hh ha rfl (by rw [hl,hv])) hv' h
theorem sN {pl:Sem Bool} {Q:Value×List Value->Shared->Prop} (X:K.In s.heap) (I:ObjM s.heap x dx C mA) (hg:PySem.W.plainGet K C name=true)
  (hf:PySem.W.findIn K (.ref C) name=some (some (.ref f))) (ht:PySem.W.isFn K (.ref f)=true) (hv:mA name=none) (h:Q (.ref f,[.ref x]) s) :
  wpAny (model prog w) A (getMethod (.ref x) name pl) Q E s:=by
 obtain ⟨od,J,hl⟩:=I.look;exact PySem.W.method_fn X J (PySem.W.plainGet_of hg).1 (PySem.W.plainGet_of hg).2 hf (beq_iff_eq.mp ht) (by show (PySem.W.lookIn name od).map (·.isSome)=some false;rw [hl,hv];rfl) h
theorem vW {ns:List Str} {Q:Unit->Shared->Prop} (X:K.In s.heap) (I:ObjM s.heap x dx C mA)
  (hs:PySem.W.findIn K (.ref C) "__setattr__"=some (some (.builtin "object.__setattr__"))) (hp:PySem.W.plainOver K C=true) (ht:PySem.W.takerIn K C name=some none) (hh:PySem.W.hasDictIn K C=true)
  (hw:PySem.Within mA ns) (hsz:ns.length<=sizeLine)
  (h:∀ h',ObjM h' x dx C (fun y=>if y=name then some v else mA y)->Heap.SameBut dx s.heap h'->Q () { s with heap:=h',toks:=s.toks+2 }) :
  wpAny (model prog w) A (setAttr (.ref x) name v) Q E s:=by
 obtain ⟨od,J,hl⟩:=I.look;refine PySem.W.set_plain X J hs (PySem.W.osa_open (s:={ s with toks:=s.toks+1 }) (r:=none) X J hp ht fun b=>?_);obtain ⟨cd,hc,hd'⟩:=PySem.W.any_some hh;have hx:s.heap.get? x=some ⟨.ref C,some dx,.plain,#[]⟩:=I.obj;refine wpAny_bind (wpAny_pure (wpAny_bind (wpAny_bind (wpAny_loadPart hx (wpAny_bind (PySem.W.Looks.here (s:={ s with toks:=s.toks+1 }) (PySem.W.looks_clsIn X hc) ?_))))));rw [hd'];refine wpAny_pure (a:=some dx) (wpAny_bind (wpAny_pure (wpAny_bind ?_)));refine wpAny_nsSet1 (s:={ s with toks:=s.toks+1 }) I.ns fun h' hn2 hs2=>?_;obtain ⟨oD,esD,epD,hoD,hdD,hcD⟩:=hn2.count (PySem.Within.cons name v hw);refine wpAny_bind (wpAny_lookBehind hoD (by rw [hdD];exact pastItsLine_dict (Ew hcD (by rw [Eh];lia))) ?_);exact wpAny_pure (h _ ⟨(hs2.2 _ (Ne.symm I.ne)).trans I.obj,hn2,I.ne⟩ hs2)
theorem mD {R:Result->Shared->Prop} {vs:List Value} {kw:List (Str×Value)} (X:K.In s.heap) (hm:PySem.W.makesIn K C=true)
  (hi:PySem.W.findIn K (.ref C) "__init__"=some (some (.ref f))) (hf:PySem.W.typeIn K (.ref f)=some (.type "function"))
  (h:codeAny (model prog w) (A.under (.builtin "type.__call__" ⟨.ref C::vs,kw⟩)) (.call (.ref f) ⟨.ref (s.heap.objs.size+1)::vs,kw⟩) (PySem.W.InitBack (s.heap.objs.size+1) R)
   { s with heap:=(s.heap.push PySem.W.emptyDict).push (PySem.W.instObj C s.heap.objs.size) }) :
  codeAny (model prog w) A (.call (.ref C) ⟨vs,kw⟩) R s:=by
 obtain ⟨hh,g,d,t,os⟩:=s;exact PySem.W.make_core (PySem.W.makes_of X hm) (PySem.W.looks_findIn X hi) (fun self=>PySem.W.bind_fn X self hf) (.inl rfl) h
end
def aJ (f:Str) (v:V):List (Str×V)->List (Str×V)
 | []=>[(f,v)]
 | (g,x)::r=>if g=f then (g,v)::r else (g,x)::aJ f v r
theorem eV (f g:Str) (v:V):∀ fs:List (Str×V),(aJ f v fs).lookup g=if g=f then some v else fs.lookup g
 | []=>by
  show List.lookup g [(f,v)]=_;by_cases h:g=f
  ·have hb:(g == f)=true:=beq_iff_eq.mpr h;simp only [List.lookup,hb,if_pos h]
  ·have hb:(g == f)=false:=beq_eq_false_iff_ne.mpr h;simp only [List.lookup,hb,if_neg h]
 | (k,x)::r=>by
  have ih:=eV f g v r;rw [show aJ f v ((k,x)::r)=(if k=f then (k,v)::r else (k,x)::aJ f v r) from rfl];by_cases hk:k=f
  ·rw [if_pos hk];by_cases h:g=k
   ·have hb:(g == k)=true:=beq_iff_eq.mpr h;simp only [List.lookup,hb,if_pos (h.trans hk)]
   ·have hb:(g == k)=false:=beq_eq_false_iff_ne.mpr h;simp only [List.lookup,hb,if_neg (fun e:g=f=>h (e.trans hk.symm))]
  ·rw [if_neg hk];by_cases h:g=k
   ·have hb:(g == k)=true:=beq_iff_eq.mpr h;simp only [List.lookup,hb,if_neg (fun e:g=f=>hk (h.symm.trans e))]
   ·have hb:(g == k)=false:=beq_eq_false_iff_ne.mpr h;simp only [List.lookup,hb];exact ih
theorem dP (f:Str) (v:V):∀ fs:List (Str×V),f∈(aJ f v fs).map (·.1)/\∀ g,g∈fs.map (·.1)->g∈(aJ f v fs).map (·.1)
 | []=>⟨by simp [aJ],fun g h=>by simp at h⟩
 | (k,x)::r=>by
  obtain ⟨i1,i2⟩:=dP f v r;rw [show aJ f v ((k,x)::r)=(if k=f then (k,v)::r else (k,x)::aJ f v r) from rfl];by_cases hk:k=f
  ·rw [if_pos hk];subst hk;exact ⟨by simp,fun g h=>by simpa using h⟩
  ·rw [if_neg hk];refine ⟨?_,fun g h=>?_⟩
   ·rw [Er];exact Ef _ i1
   ·rw [Er] at h ⊢;rcases Eo.mp h with e|e
    ·exact Eo.mpr (.inl e)
    ·exact Ef _ (i2 g e)
theorem eX (f:Str) (v:V):∀ fs:List (Str×V),(aJ f v fs).length<=fs.length+1
 | []=>by simp [aJ]
 | (k,x)::r=>by
  have ih:=eX f v r;rw [show aJ f v ((k,x)::r)=(if k=f then (k,v)::r else (k,x)::aJ f v r) from rfl];by_cases hk:k=f
  ·rw [if_pos hk,Eh,Eh];lia
  ·rw [if_neg hk,Eh,Eh];lia
variable {v:V}
theorem RelO.some_of {o:Option Value} (r:RelO (some v) o):∃ u,o=some u/\RelV v u:=by
 cases o with
 | none=>exact (show False from r).elim
 | some u=>exact ⟨u,rfl,r⟩
theorem RelO.none_of {o:Option Value} (r:RelO none o):o=none:=by
 cases o with
 | none=>rfl
 | some u=>exact (show False from r).elim
theorem jZ (r:RelV v u):PySem.W.handedIn u=true:=by
 cases v with
 | non=>cases (show u=Value.none from r);rfl
 | bl b=>cases (show u=Value.bool b from r);rfl
 | int i=>obtain ⟨t,e⟩:=(show ∃ t,u=Value.int i t from r);cases e;rfl
 | str x=>obtain ⟨t,e⟩:=(show ∃ t,u=Value.str x t from r);cases e;rfl
 | byt b=>obtain ⟨t,e⟩:=(show ∃ t,u=Value.bytes b t from r);cases e;rfl
 | flt b=>obtain ⟨t,e⟩:=(show ∃ t,u=Value.float b t from r);cases e;rfl
 | ref a=>cases (show u=Value.ref a from r);rfl
 | ty n=>cases (show u=Value.type n from r);rfl
section
variable {P:Program} {w:World} {H H':Hp} {h h':Heap} {a C dx:Addr} {fs fs':List (Str×V)}
theorem iN (hok:HOk P w H h) (e:H a=some (.ins C dx fs)):∃ mA,ObjM h a dx C mA/\(∀ f,RelO (fs.lookup f) (mA f))/\PySem.Within mA (fs.map (·.1))/\fs.length<=1000/\H dx=some (.own a):=by
 obtain ⟨d,z,ne,ob,mA,n,r,q⟩:=(show ObjOk P w H h a (.ins C dx fs) from hok a _ e);exact ⟨mA,⟨ob,n,ne⟩,r,q,z,d⟩
end
structure Cls (K:ZF) (C:Addr):Prop where
 pg:PySem.W.plainGet K C Str.empty=true
 hd:PySem.W.hasDictIn K C=true
 po:PySem.W.plainOver K C=true
 sa:PySem.W.findIn K (.ref C) "__setattr__"=some (some (.builtin "object.__setattr__"))
variable {C:Addr}
theorem Cls.get (c:Cls K C) (f:Str):PySem.W.plainGet K C f=true:=c.pg
def NoAttr (K:ZF) (C:Addr) (f:Str):Prop:=PySem.W.findIn K (.ref C) f=some none
variable {f:Str}
theorem NoAttr.taker (n:NoAttr K C f):PySem.W.takerIn K C f=some none:=by
 unfold PySem.W.takerIn;rw [show PySem.W.findIn K (.ref C) f=some none from n];rfl
structure kG (K:ZF) (C:Addr) (m:Str) (f:Addr):Prop where
 at_:PySem.W.findIn K (.ref C) m=some (some (.ref f))
 fn:PySem.W.isFn K (.ref f)=true
 kp:PySem.W.keepIn K (.ref f)=true
section
variable {X:Cx} {pins:List (Addr×Obj)} {σ:St} {H:Hp} {s:Shared} {a C dx:Addr} {fs:List (Str×V)} {f:Str} {v:V} {A:Around} {E:Value->Shared->Prop}
theorem i9 {b:Bool} {Q:Value->Shared->Prop} (I:Inv X pins σ H s) (e:H a=some (.ins C dx fs)) (c:Cls X.K C) (n:NoAttr X.K C f) (l:fs.lookup f=some v)
  (h:∀ u s',Inv X pins σ H s'->RelV v u->Q u s'):wpAny (model X.prog X.w) A (getAttr (.ref a) f b) Q E s:=by
 obtain ⟨mA,O,r,_,_,_⟩:=iN I.hok e;obtain ⟨u,hu,ru⟩:=RelO.some_of (v:=v) (o:=mA f) (by rw [<-l];exact r f);exact vV I.kIn O (c.get f) c.hd n hu (jZ ru) (h u _ (I.tok _) ru)
theorem eA {m:Str} {g:Addr} {pl:Sem Bool} {Q:Value×List Value->Shared->Prop} (I:Inv X pins σ H s) (e:H a=some (.ins C dx fs)) (c:Cls X.K C) (k:kG X.K C m g) (l:fs.lookup m=none)
  (h:Q (.ref g,[.ref a]) s):wpAny (model X.prog X.w) A (getMethod (.ref a) m pl) Q E s:=by
 obtain ⟨mA,O,r,_,_,_⟩:=iN I.hok e;have hn:mA m=none:=RelO.none_of (by rw [<-l];exact r m);exact sN I.kIn O (c.get m) k.at_ k.fn hn h
theorem ja {Q:Unit->Shared->Prop} (I:Inv X pins σ H s) (e:H a=some (.ins C dx fs)) (c:Cls X.K C) (n:NoAttr X.K C f) (hl:fs.length < 1000) (ry:RelV y u)
  (h:∀ s',Inv X pins σ (upd H a (.ins C dx (aJ f y fs))) s'->Q () s'):wpAny (model X.prog X.w) A (setAttr (.ref a) f u) Q E s:=by
 obtain ⟨mA,O,r,wi,_,ho⟩:=iN I.hok e;have hz:(fs.map (·.1)).length<=sizeLine:=by rw [D8,sizeLine_eq];lia
 refine vW I.kIn O c.sa c.po n.taker c.hd wi hz fun h' O' sb=>h _ ?_;have hd:∃ o,h'.get? dx=some o:=let ⟨o,_,_,e',_⟩:=O'.ns;⟨o,e'⟩;refine I.write (x:=a) (e:=dx) (by rw [e];exact True.intro) (.inr ho) (fun b q hb z=>(sb.2 b hb).trans z) hd ?_;refine ⟨by rw [aj O.ne];exact ho,?_,O.ne,O'.obj,_,O'.ns,fun g=>?_,fun g hg=>?_⟩
 ·have:=eX f y fs;lia
 ·show RelO ((aJ f y fs).lookup g) (if g=f then some u else mA g);rw [eV];by_cases q:g=f
  ·rw [if_pos q,if_pos q];exact ry
  ·rw [if_neg q,if_neg q];exact r g
 ·by_cases q:g=f
  ·rw [q];exact (dP f y fs).1
  ·refine (dP f y fs).2 g (wi g fun z=>hg ?_);show (if g=f then some u else mA g)=none;rw [if_neg q];exact z
theorem Inv.made (I:Inv X pins σ H s):Inv X pins σ (upd (upd H s.heap.objs.size (.own (s.heap.objs.size+1))) (s.heap.objs.size+1) (.ins C s.heap.objs.size []))
  { s with heap:=(s.heap.push PySem.W.emptyDict).push (PySem.W.instObj C s.heap.objs.size) }:=by
 have e1:(s.heap.push PySem.W.emptyDict).get? s.heap.objs.size=some PySem.W.emptyDict:=El s.heap rfl;have e2:((s.heap.push PySem.W.emptyDict).push (PySem.W.instObj C s.heap.objs.size)).get? (s.heap.objs.size+1)=some (PySem.W.instObj C s.heap.objs.size):=by
  have:=El (s.heap.push PySem.W.emptyDict) (o:=PySem.W.instObj C s.heap.objs.size) rfl
  rwa [E7] at this
 have e3:(s.heap.push PySem.W.emptyDict).Ns s.heap.objs.size (fun _=>none):=⟨PySem.W.emptyDict,#[],_,e1,rfl,(fun e he=>absurd he (by simp)),fun _=>rfl⟩;have I1:=I.laid (a:=s.heap.objs.size) (o:=.own (s.heap.objs.size+1)) (h':=s.heap.push PySem.W.emptyDict) (t':=s.toks) (fun b u q=>D6 _ q) (Ec _) ⟨_,e1⟩;refine I1.laid (a:=s.heap.objs.size+1) (o:=.ins C s.heap.objs.size []) (t':=s.toks) (fun b u q=>D6 _ q) (Nat.le_of_eq (E7 _ _)) ?_;have ne:s.heap.objs.size≠s.heap.objs.size+1:=Es (Fi _);refine ⟨by rw [aj ne,ae],Ep _,ne,e2,fun _=>none,(Heap.Ns1.of_empty e3).at fun o q=>D6 _ q,fun _=>True.intro,fun y hy=>absurd rfl hy⟩
theorem qd {prog:Program} {w:World} {env:Env} {pos:Pos} {s:Shared} {Q:Value->Shared->Prop} (hb:attributeBase e f env (eval e env)=eval e env)
  (h:wpAny (model prog w) A (eval e env) (fun o s₁=>wpAny (model prog w) A (getAttr o f true) Q E s₁) E s):wpAny (model prog w) A (eval (.Attribute e f pos) env) Q E s:=
 Attribute_any_ h (by rw [arm_eval_Attribute,hb])
end
inductive xQ (K:ZF) (f:Str) (Q:VK) (x:V) (H1:Hp):Prop
 | mk (a C dx fs v:_):x=.ref a->H1 a=some (.ins C dx fs)->Cls K C->NoAttr K C f->fs.lookup f=some v->Q v H1->xQ K f Q x H1
def Cq (K:ZF) (ta:TE) (f:Str):TE:=fun σ H Q=>ta σ H fun x H1=>xQ K f Q x H1
inductive xT (K:ZF) (f:Str) (D:Ends) (σ:St) (y:V) (x:V) (H2:Hp):Prop
 | mk (a C dx fs:_):x=.ref a->H2 a=some (.ins C dx fs)->Cls K C->NoAttr K C f->fs.length < 1000->D.nx σ (upd H2 a (.ins C dx (aJ f y fs)))->xT K f D σ y x H2
def Cr (K:ZF) (ta tv:TE) (f:Str):TS:=fun D σ H=>tv σ H fun y H1=>ta σ H1 fun x H2=>xT K f D σ y x H2
def AG (X:Cx) (op:Operator) (rd:V->V->Hp->VK->Prop):Prop:=
 ∀ (pins:List (Addr×Obj)) (s:Shared) (σ:St) (H:Hp) (x y:V) (u v:Value) (Q:VK),Inv X pins σ H s->RelV x u->RelV y v->rd x y H Q->wpAny (model X.prog X.w) X.A (inplaceOp op u v) (EP X pins σ Q) X.xe s
inductive mE (K:ZF) (tv:TE) (rd:V->V->Hp->VK->Prop) (f:Str) (D:Ends) (σ:St) (x:V) (H1:Hp):Prop
 | mk (a C dx fs v:_):x=.ref a->H1 a=some (.ins C dx fs)->Cls K C->NoAttr K C f->fs.lookup f=some v->(tv σ H1 fun y H2=>rd v y H2 fun z H3=>∃ dx' fs',H3 a=some (.ins C dx' fs')/\fs'.length < 1000/\D.nx σ (upd H3 a (.ins C dx' (aJ f z fs'))))->mE K tv rd f D σ x H1
def vX (K:ZF) (ta tv:TE) (rd:V->V->Hp->VK->Prop) (f:Str):TS:=fun D σ H=>ta σ H fun x H1=>mE K tv rd f D σ x H1
section
variable {X:Cx} {o e value:Expr} {f:Str} {pos pos' tpos:Pos} {ta tv:TE}
theorem ax (he:PE X e ta) (hb:attributeBase e f X.env (eval e X.env)=eval e X.env):PE X (.Attribute e f pos) (Cq X.K ta f):=by
 refine ⟨?_⟩;intro pins s σ H Q I h;refine qd hb (bG (he pins s σ H _ I h) fun u s1 ⟨x,H1,I1,rx,a,C,dx,fs,v,ex,ea,c,n,l,q⟩=>?_);subst ex;obtain rfl:u=Value.ref a:=rx;exact i9 I1 ea c n l fun u' s2 I2 ru=>⟨v,H1,I2,ru,q⟩
theorem bz (ha:PE X o ta) (hv:PE X value tv) (hs:swapsWith value (some (.Attribute o f pos')) pos.line X.env=pure false):PS X (.Assign [.Attribute o f pos'] value pos) (Cr X.K ta tv f):=by
 refine ⟨?_⟩;intro pins s σ H D I h;refine plainObj_wpAny_Assign_Attribute (bG (hv pins s σ H _ I h) fun u s1 ⟨y,H1,I1,ry,q⟩=>bG (ha pins s1 σ H1 _ I1 q) fun ov s2 ⟨x,H2,I2,rx,a,C,dx,fs,ex,ea,c,n,l,q2⟩=>?_) hs;subst ex;obtain rfl:ov=Value.ref a:=rx;exact ja I2 ea c n l ry fun s3 I3=>⟨σ,_,I3,q2⟩
theorem fF {op:Operator} {rd:V->V->Hp->VK->Prop} (ha:PE X o ta) (hv:PE X value tv) (hop:AG X op rd):PS X (.AugAssign (.Attribute o f tpos) op value pos) (vX X.K ta tv rd f):=by
 refine ⟨?_⟩;intro pins s σ H D I h;refine wpAny_AugAssign_AttributeAny (bG (ha pins s σ H _ I h) fun ov s1 ⟨x,H1,I1,rx,a,C,dx,fs,v,ex,ea,c,n,l,q⟩=>?_);subst ex;obtain rfl:ov=Value.ref a:=rx;refine i9 I1 ea c n l fun u s2 I2 ru=>bG (hv pins s2 σ H1 _ I2 q) fun w3 s3 ⟨y,H2,I3,ry,q3⟩=>bG (hop pins s3 σ H2 v y u w3 _ I3 ru ry q3) fun w4 s4 ⟨z,H3,I4,rz,dx',fs',ea',l',q4⟩=>?_;exact ja I4 ea' c n l' rz fun s5 I5=>⟨σ,_,I5,q4⟩
inductive AH (x:V) (y:V) (H:Hp) (Q:VK):Prop
 | mk (i j:_):x=.int i->y=.int j->Q (.int (i+j)) H->AH x y H Q
theorem kH:AG X .Add AH:=by
 rintro pins s σ H x y u v Q I rx ry ⟨i,j,rfl,rfl,q⟩;obtain ⟨t,rfl⟩:=(show ∃ t,u=Value.int i t from rx);obtain ⟨t',rfl⟩:=(show ∃ t',v=Value.int j t' from ry);exact PyProof.Rows.iadd_int ⟨.int (i+j),H,I.tok _,⟨_,rfl⟩,q⟩
end
section
variable {X:Cx} {pins:List (Addr×Obj)} {σ:St} {H:Hp} {s:Shared} {A:Around} {E:Value->Shared->Prop} {Q:Value->Shared->Prop} {c:Value} {b:Bool}
inductive fX (K:ZF) (H:Hp):V->Value->Prop where
 | non:fX K H .non (.type "NoneType")
 | bl (x:Bool):fX K H (.bl x) (.type "bool")
 | int (i:Int):fX K H (.int i) (.type "int")
 | str (x:Str):fX K H (.str x) (.type "str")
 | flt (x:UInt64):fX K H (.flt x) (.type "float")
 | lst {a:Addr} {xs:List V} (e:H a=some (.lst xs)):fX K H (.ref a) (.type "list")
 | frz {a:Addr} {o:Obj} {xs:List V} (e:H a=some (.frz o (.lst xs))):fX K H (.ref a) (.type "list")
 | tup {a:Addr} {xs:List V} (e:H a=some (.tup xs)):fX K H (.ref a) (.type "tuple")
 | dK {a:Addr} {kvs:List (dA×V)} (e:H a=some (.dK kvs)):fX K H (.ref a) (.type "dict")
 | dT {a:Addr} {kvs:List (List dA×V)} (e:H a=some (.dT kvs)):fX K H (.ref a) (.type "dict")
 | ins {a C dx:Addr} {fs:List (Str×V)} (e:H a=some (.ins C dx fs)) (cl:Cls K C) (ha:PySem.W.findIn K (.ref C) "__class__"=some (some (.builtin "object.__class__")))
   (hn:PySem.W.specialIn K (.builtin "object.__class__") "__get__"=some (some (.builtin "getset_descriptor.__get__"))) (htk:PySem.W.takesIn K (.builtin "object.__class__")=some true)
   (hm:PySem.W.mroIn K C (.type "object")=some true):fX K H (.ref a) (.ref C)
theorem j3 {u t:Value} (I:Inv X pins σ H s) (rx:RelV x u) (ty:fX X.K H x t) (e:PySem.W.kitOne X.K t c=some b) (h:∀ tk,Q (.bool b) { s with toks:=tk }) :
  wpAny (model X.prog X.w) A (call (.builtin "isinstance") [u,c]) Q E s:=by
 cases ty with
 | non=>cases (show u=Value.none from rx);exact EY PySem.W.kitx_none I.kIn True.intro e (fun z=>nomatch z) h
 | bl y=>cases (show u=Value.bool y from rx);exact EY PySem.W.kitx_bool I.kIn True.intro e (fun z=>nomatch z) h
 | int i=>obtain ⟨t,q⟩:=(show ∃ t,u=Value.int i t from rx);cases q;exact EY PySem.W.kitx_int I.kIn True.intro e (fun z=>nomatch z) h
 | str y=>obtain ⟨t,q⟩:=(show ∃ t,u=Value.str y t from rx);cases q;exact EY PySem.W.kitx_str I.kIn True.intro e (fun z=>nomatch z) h
 | flt y=>obtain ⟨t,q⟩:=(show ∃ t,u=Value.float y t from rx);cases q;exact EY PySem.W.kitx_float I.kIn True.intro e (fun z=>nomatch z) h
 | @lst a xs ea=>
  cases (show u=Value.ref a from rx);obtain ⟨_,_,n,_,h1⟩:=(show ObjOk X.prog X.w H s.heap a (.lst xs) from I.hok a _ ea);exact EY PySem.W.kitx_list I.kIn ⟨_,h1,rfl⟩ e (fun z=>nomatch z) h
 | @frz a ob xs ea=>
  cases (show u=Value.ref a from rx);obtain ⟨_,_,_,n,_,h1⟩:=(show ObjOk X.prog X.w H s.heap a (.frz ob (.lst xs)) from I.hok a _ ea);exact EY PySem.W.kitx_list I.kIn ⟨_,h1,rfl⟩ e (fun z=>nomatch z) h
 | @tup a xs ea=>
  cases (show u=Value.ref a from rx);obtain ⟨_,_,_,p⟩:=(show ObjOk X.prog X.w H s.heap a (.tup xs) from I.hok a _ ea);obtain ⟨o,h1,h2,_⟩:=p;exact EY PySem.W.kitx_tuple I.kIn ⟨o,h1,(Prod.mk.inj h2).1⟩ e (fun z=>nomatch z) h
 | @dK a kvs ea=>
  cases (show u=Value.ref a from rx);obtain ⟨_,_,vs,_,p⟩:=(show ObjOk X.prog X.w H s.heap a (.dK kvs) from I.hok a _ ea);obtain ⟨o,es,ep,h1,h2,_⟩:=p;exact EY PySem.W.kitx_dict I.kIn ⟨o,h1,h2.1⟩ e (fun z=>nomatch z) h
 | @dT a kvs ea=>
  cases (show u=Value.ref a from rx);obtain ⟨_,_,xs,_,o,es,ep,h1,h2,_⟩:=(show ObjOk X.prog X.w H s.heap a (.dT kvs) from I.hok a _ ea);exact EY PySem.W.kitx_dict I.kIn ⟨o,h1,h2.1⟩ e (fun z=>nomatch z) h
 | @ins a C dx fs ea cl ha hn htk hm=>
  cases (show u=Value.ref a from rx);obtain ⟨mA,O,_⟩:=iN I.hok ea;obtain ⟨od,J,_⟩:=O.look;exact EY (PySem.W.kitx_own (cl.get _) cl.hd ha hn htk hm) I.kIn J e (fun z=>nomatch z) h
end
structure Room (k:Nat) (A:Around):Prop where
 hd:A.handled=none
 dp:A.depth+3*k+5 < recursionLimit
 un:A.units+16*k+200 < cLine
theorem Room.mono {j k:Nat} (r:Room k A) (h:j<=k):Room j A:=⟨r.hd,by have:=r.dp;lia,by have:=r.un;lia⟩
theorem Room.m {j k:Nat} (r:Room k A) (h:j<=k:=by decide):Room j A:=r.mono h
theorem Room.deeper {k:Nat} (r:Room (k+1) A) (env:Env):Room k (A.deeper env):=
 ⟨r.hd,by have:=r.dp;show A.depth+1+3*k+5 < _;lia,by have:=r.un;show A.units+3+16*k+200 < _;lia⟩
variable {kw:List (Str×Value)}
theorem on:(A.under (.builtin "type.__call__" ⟨.ref C::us,kw⟩)).depth=A.depth+1:=by
 first|rfl|simp [Around.under,Code.weight,Code.isCreation,Code.isGuard,Code.isCaller,Code.frames,Code.isFrame,guardIds]
theorem oo:(A.under (.builtin "type.__call__" ⟨.ref C::us,kw⟩)).units=A.units+1:=by
 first|rfl|simp [Around.under,Code.cUnits,Code.frames,Code.isFrame]
theorem Room.make {k:Nat} (r:Room (k+1) A) (C:Addr) (us:List Value) (kw:List (Str×Value)):Room k (A.under (.builtin "type.__call__" ⟨.ref C::us,kw⟩)):=
 ⟨r.hd,by have:=r.dp;rw [on];lia,by have:=r.un;rw [oo];lia⟩
theorem Room.depth {k:Nat} (r:Room k A):A.depth < recursionLimit:=by have:=r.dp;lia
theorem Room.units {k:Nat} (r:Room k A):A.units+64 < cLine:=by have:=r.un;lia
def yI:TA:=fun _ H Q=>Q [] H
def sO (ta:TE) (tr:TA):TA:=fun σ H Q=>ta σ H fun x H1=>tr σ H1 fun xs H2=>Q (x::xs) H2
section
variable {X:Cx} {e:Expr} {es:List Expr} {te:TE} {t:TA} {pos:Pos}
theorem ac:PA X [] yI:=⟨fun _ _ _ _ H Q I h=>Calls.spliced_nil ⟨[],H,I,.nil,h⟩⟩
theorem aa (ha:PE X e te) (hr:PA X es t) (hs:starEach (e::es) X.env=(false,eval e X.env)::starEach es X.env:=by rfl):PA X (e::es) (sO te t):=by
 refine ⟨?_⟩;intro pos pins s σ H Q I h;rw [hs];show wpAny _ _ (spliced ((false,eval e X.env)::backTo pos (starEach es X.env))) _ _ s;refine Calls.spliced_cons (bG (ha pins s σ H _ I h) fun u s1 ⟨x,H1,I1,r1,q1⟩=>?_);exact bG (hr pos pins s1 σ H1 _ I1 q1) fun us s2 ⟨xs,H2,I2,r2,q2⟩=>⟨x::xs,H2,I2,.cons r1 r2,q2⟩
def Ct (t:TA):TE:=fun σ H Q=>t σ H fun xs H1=>xs.length<=sizeLine/\∀ p,H1 p=none->Q (.ref p) (upd H1 p (.tup xs))
def Cu (t:TA):TE:=fun σ H Q=>t σ H fun xs H1=>xs.length<=sizeLine/\∀ p,H1 p=none->Q (.ref p) (upd H1 p (.lst xs))
theorem aW {x1} (h:PA X es t):PE X (.Tuple es x1 pos) (Ct t):=by
 refine ⟨?_⟩;intro pins s σ H Q I hq;refine wpAny_Tuple_spliced (bG (h pos pins s σ H _ I hq) fun us s1 ⟨xs,H1,I1,r,z,q⟩=>⟨by rw [<-r.length];exact z,?_⟩);have hf:H1 s1.heap.objs.size=none:=I1.hok.fresh (Ec _);refine ⟨.ref s1.heap.objs.size,upd H1 s1.heap.objs.size (.tup xs),I1.laid (t':=s1.toks) (fun b u e=>D6 _ e) (Ec _) ?_,rfl,q _ hf⟩;exact ⟨z,us,r,⟨_,El _ rfl,rfl,_,rfl⟩⟩
theorem aT (h:PA X es t):PE X (.List es pos) (Cu t):=by
 refine ⟨?_⟩;intro pins s σ H Q I hq;refine wpAny_List_spliced (bG (h pos pins s σ H _ I hq) fun us s1 ⟨xs,H1,I1,r,z,q⟩=>⟨by rw [<-r.length];exact z,?_⟩);have hf:H1 s1.heap.objs.size=none:=I1.hok.fresh (Ec _);refine ⟨.ref s1.heap.objs.size,upd H1 s1.heap.objs.size (.lst xs),I1.laid (t':=s1.toks) (fun b u e=>D6 _ e) (Ec _) ?_,rfl,q _ hf⟩;exact ⟨z,us,0,r,El _ rfl⟩
end
abbrev Sp:=List V->Hp->VK->XK->Prop
abbrev qe:=List Env->Hp->Shared->XK->Value->Shared->Prop
structure Env0 (P:Program) (w:World) (K:ZF) (mg:Str->Option Value) (base:Heap) (A:Around) (outer:List Env) (s:Shared) (H:Hp):Prop where
 frames:A.frames=some outer
 mod:Mod K mg base
 bs:∀ b o,base.get? b=some o->s.heap.get? b=some o/\H b=none
 bsz:base.objs.size<=s.heap.objs.size
 funs:s.heap.FunFrames base outer
 frf:∀ b∈kz outer,H b=none
 hok:HOk P w H s.heap
 bare:AllBare s.gens
inductive CE (outer:List Env) (P:Program) (w:World) (H:Hp) (s:Shared) (Q:VK) (u:Value) (s':Shared):Prop
 | mk (v H':_):s'.os=s.os->AllBare s'.gens->Un (kz outer) [] H H' s.heap s'.heap->HOk P w H' s'.heap->RelV v u->Q v H'->CE outer P w H s Q u s'
def CR (CX:qe) (outer:List Env) (P:Program) (w:World) (H:Hp) (s:Shared) (Q:VK) (E:XK) (r:Result) (s':Shared):Prop:=
 match r with
 | .ok (.ret u)=>CE outer P w H s Q u s'
 | .ok _=>False
 | .error e=>CX outer H s E e s'
structure FnOk (P:Program) (w:World) (K:ZF) (mg:Str->Option Value) (base:Heap) (CX:qe) (k:Nat) (f:Addr) (fd:FuncData) (ps:List Str) (sp:Sp):Prop where
 len:∀ vs H Q E,sp vs H Q E->vs.length=ps.length
 run:∀ (A:Around) (outer:List Env) (s:Shared) (H:Hp) (args:Args) (us:List Value) (vs:List V) (Q:VK) (E:XK),Room k A->Env0 P w K mg base A outer s H->BindsTo s fd args (ps.zip us)->Vals vs us->sp vs H Q E->
  codeAny (model P w) A (.call (.ref f) args) (CR CX outer P w H s Q E) s
variable {outer:List Env} {base:Heap} {mg:Str->Option Value}
theorem Env0.make (e:Env0 P w K mg base A outer s H) (C:Addr) (us:List Value) (kw:List (Str×Value)) :
  Env0 P w K mg base (A.under (.builtin "type.__call__" ⟨.ref C::us,kw⟩)) outer s H:=⟨by first|exact e.frames|(simpa [Around.under,Code.envs,Code.isFrame,pushEnvs] using e.frames),e.mod,e.bs,e.bsz,e.funs,e.frf,e.hok,e.bare⟩
section
variable {X:Cx} {pins:List (Addr×Obj)} {σ:St} {H:Hp} {s s':Shared}
theorem Inv.env0 (I:Inv X pins σ H s):Env0 X.prog X.w X.K X.mg X.base X.A X.stack s H:=
 ⟨I.ok.frames,I.ok.mod,I.bs,Ew I.ok.bsz I.sz,I.stack,I.stkFree,I.hok,I.bare⟩
theorem Inv.after {Q:VK} (I:Inv X pins σ H s) (h:CE X.stack X.prog X.w H s Q u s'):EP X pins σ Q u s':=by
 obtain ⟨v,H',os,bare,un,hok,r,q⟩:=h;obtain ⟨hh,g,d,t,os'⟩:=s';obtain rfl:os'=s.os:=os;exact ⟨v,H',I.call (h':=hh) (g':=g) (d':=d) (t':=t) (ch:=[]) un hok bare (fun b z=>absurd z (by simp)),r,q⟩
end
def sP (sp:Sp) (dvs:List V) (E:XK) (t:TA):TE:=fun σ H Q=>t σ H fun vs H1=>sp (vs++dvs) H1 Q E
inductive sQ (C:Addr) (m:Str) (sp:Sp) (dvs:List V) (E:XK) (t:TA) (σ:St) (Q:VK) (x:V) (H1:Hp):Prop
 | mk (a dx fs:_):x=.ref a->H1 a=some (.ins C dx fs)->fs.lookup m=none->(t σ H1 fun vs H2=>sp (x::(vs++dvs)) H2 Q E)->sQ C m sp dvs E t σ Q x H1
def AI (C:Addr) (m:Str) (sp:Sp) (dvs:List V) (E:XK) (ta:TE) (t:TA):TE:=fun σ H Q=>ta σ H fun x H1=>sQ C m sp dvs E t σ Q x H1
def AJ (C:Addr) (sp:Sp) (dvs:List V) (E:XK) (t:TA):TE:=fun σ H Q=>t σ H fun vs H1=>∀ x dx,H1 x=none->H1 dx=none->dx≠x->
 sp (.ref x::(vs++dvs)) (upd (upd H1 dx (.own x)) x (.ins C dx [])) (fun v H2=>v=.non/\Q (.ref x) H2) E
def Binds (K:ZF) (fd:FuncData) (ps:List Str) (ds:List Value):Prop:=
 ∀ (s:Shared) (us:List Value),K.In s.heap->(us++ds).length=ps.length->BindsTo s fd ⟨us,[]⟩ (ps.zip (us++ds))
variable {ps:List Str}
theorem Binds.all {fd:FuncData} (h:∀ us:List Value,us.length=ps.length->bindArgs fd ⟨us,[]⟩=pure (ps.zip us)):Binds K fd ps []:=fun s us _ hl=>by
 rw [EC] at hl ⊢;exact .of_eq (h us hl)
def dC (CX:qe) (X:Cx) (E:XK):Prop:=∀ (pins:List (Addr×Obj)) (σ:St) (H:Hp) (s:Shared) (e:Value) (s':Shared),Inv X pins σ H s->CX X.stack H s E e s'->X.xe e s'
section
variable {X:Cx} {CX:qe} {k:Nat} {f C:Addr} {fd:FuncData} {ps:List Str} {sp:Sp} {dvs:List V} {ds:List Value} {E:XK} {x m:Str} {p pos apos:Pos} {e o:Expr} {es:List Expr} {ta:TE} {t:TA}
theorem jb {pins:List (Addr×Obj)} {σ:St} {H:Hp} {s:Shared} {Q:VK} {us:List Value} {vs:List V} (F:FnOk X.prog X.w X.K X.mg X.base CX k f fd ps sp) (hr:Room k X.A) (hb:Binds X.K fd ps ds) (hd:Vals dvs ds) (hx:dC CX X E)
  (I:Inv X pins σ H s) (r:Vals vs us) (h:sp (vs++dvs) H Q E):wpAny (model X.prog X.w) X.A (call (.ref f) us) (EP X pins σ Q) X.xe s:=by
 have r2:Vals (vs++dvs) (us++ds):=r.append hd;have hl:(us++ds).length=ps.length:=by rw [<-r2.length];exact F.len _ _ _ _ h
 refine wpAny_call (codeAny_mono (F.run X.A X.stack s H ⟨us,[]⟩ (us++ds) (vs++dvs) Q E hr I.env0 (hb s us I.kIn hl) r2 h) fun r s' hq=>?_);cases r with
 | error e=>exact hx pins σ H s e s' I hq
 | ok fl=>
  cases fl with
  | ret u=>exact I.after hq
  | next=>exact False.elim hq
  | brk=>exact False.elim hq
  | cont=>exact False.elim hq
theorem kI (F:FnOk X.prog X.w X.K X.mg X.base CX k f fd ps sp) (hr:Room k X.A) (hg:Gl X x) (hm:X.mg x=some (.ref f)) (hk:PySem.W.keepIn X.K (.ref f)=true) (hb:Binds X.K fd ps ds) (hd:Vals dvs ds) (hx:dC CX X E)
  (ha:PA X (e::es) t) (hdb:(x == ("__debug__":Str))=false:=by decide) (he:starEach (e::es) X.env=(false,eval e X.env)::starEach es X.env:=by rfl) (hpl:(backTo pos (starEach es X.env)).any (·.1)=false:=by rfl) :
  PE X (.Call (.Name x p) (e::es) [] pos) (sP sp dvs E t):=by
 refine ⟨?_⟩;intro pins s σ H Q I h;refine wpAny_Call_Name_kw (dF I hg hm ?_ hdb);refine EX (h₀:=X.base) I.ok.mod.kin hk (bG (ha pos pins s σ H _ I h) fun us s1 ⟨vs,H1,I1,r,q⟩=>⟨I1.kIn,?_⟩) he hpl;exact jb F hr hb hd hx I1 r q
theorem kJ {pl:Sem Bool} (he:PE X o ta) (c:Cls X.K C) (hm:kG X.K C m f) (F:FnOk X.prog X.w X.K X.mg X.base CX k f fd ps sp) (hr:Room k X.A) (hb:Binds X.K fd ps ds) (hd:Vals dvs ds) (hx:dC CX X E) (ha:PA X (e::es) t)
  (hst:starEach (e::es) X.env=(false,eval e X.env)::starEach es X.env:=by rfl) (hpl:(backTo pos (starEach es X.env)).any (·.1)=false:=by rfl)
  (ht:eval (.Call (.Attribute o m apos) (e::es) [] pos) X.env=(do
   let ov <-eval o X.env
   standAt apos.atName
   let (f,first) <-holding [ov] (getMethod ov m pl)
   callWith pos f first (backTo pos (starEach (e::es) X.env)) (backToKw pos (keywordEach [] X.env))):=by rfl) :
  PE X (.Call (.Attribute o m apos) (e::es) [] pos) (AI C m sp dvs E ta t):=by
 refine ⟨?_⟩;intro pins s σ H Q I h;refine PySem.W.methodCall_KW (pl:=pl) (bG (he pins s σ H _ I h) fun u s1 ⟨x,H1,I1,rx,a,dx,fs,ex,ea,l,q⟩=>?_) ht;subst ex;obtain rfl:u=Value.ref a:=rx;refine eA I1 ea c hm l ?_;refine EX (first:=[.ref a]) (h₀:=X.base) I.ok.mod.kin hm.kp (bG (ha pos pins s1 σ H1 _ I1 q) fun us s2 ⟨vs,H2,I2,r,q2⟩=>⟨I2.kIn,?_⟩) hst hpl;exact jb (us:=.ref a::us) (vs:=.ref a::vs) F hr hb hd hx I2 (.cons rfl r) q2
structure Mk (K:ZF) (C f:Addr):Prop where
 makes:PySem.W.makesIn K C=true
 init:PySem.W.findIn K (.ref C) "__init__"=some (some (.ref f))
 fn:PySem.W.isFn K (.ref f)=true
 kp:PySem.W.keepIn K (.ref C)=true
theorem sR {pins:List (Addr×Obj)} {σ:St} {H:Hp} {s:Shared} {Q:VK} {us:List Value} {vs:List V} (M:Mk X.K C f) (F:FnOk X.prog X.w X.K X.mg X.base CX k f fd ps sp) (hr:Room (k+1) X.A) (hb:Binds X.K fd ps ds) (hd:Vals dvs ds)
  (hx:dC CX X E) (I:Inv X pins σ H s) (r:Vals vs us)
  (h:∀ x dx,H x=none->H dx=none->dx≠x->sp (.ref x::(vs++dvs)) (upd (upd H dx (.own x)) x (.ins C dx [])) (fun v H2=>v=.non/\Q (.ref x) H2) E) :
  wpAny (model X.prog X.w) X.A (call (.ref C) us) (EP X pins σ Q) X.xe s:=by
 have hq:=h (s.heap.objs.size+1) s.heap.objs.size (I.hok.fresh (Nat.le_succ _)) (I.hok.fresh (Ec _)) (Es (Fi _));have I2:=Inv.made (C:=C) I;have r2:Vals (V.ref (s.heap.objs.size+1)::(vs++dvs)) (Value.ref (s.heap.objs.size+1)::(us++ds)):=.cons rfl (r.append hd);have hl:(Value.ref (s.heap.objs.size+1)::us++ds).length=ps.length:=by
  have e:=r2.length;rw [F.len _ _ _ _ hq] at e;exact e.symm
 refine wpAny_call (mD (f:=f) I.kIn M.makes M.init (beq_iff_eq.mp M.fn) (codeAny_mono (F.run _ X.stack _ _ ⟨Value.ref (s.heap.objs.size+1)::us,[]⟩ (Value.ref (s.heap.objs.size+1)::(us++ds)) _ _ E (hr.make C us [])
  (I2.env0.make C us []) (hb _ (Value.ref (s.heap.objs.size+1)::us) I2.kIn hl) r2 hq) fun r s' hq'=>?_))
 cases r with
 | error e=>exact hx pins σ _ _ e s' I2 hq'
 | ok fl=>
  cases fl with
  | ret u=>
   obtain ⟨v,H',I3,rv,ev,q3⟩:=I2.after hq';subst ev;exact ⟨rv,⟨V.ref (s.heap.objs.size+1),H',I3,rfl,q3⟩⟩
  | next=>exact False.elim hq'
  | brk=>exact False.elim hq'
  | cont=>exact False.elim hq'
theorem dG (M:Mk X.K C f) (F:FnOk X.prog X.w X.K X.mg X.base CX k f fd ps sp) (hr:Room (k+1) X.A) (hg:Gl X x) (hm:X.mg x=some (.ref C)) (hb:Binds X.K fd ps ds) (hd:Vals dvs ds) (hx:dC CX X E)
  (ha:PA X (e::es) t) (hdb:(x == ("__debug__":Str))=false:=by decide) (he:starEach (e::es) X.env=(false,eval e X.env)::starEach es X.env:=by rfl) (hpl:(backTo pos (starEach es X.env)).any (·.1)=false:=by rfl) :
  PE X (.Call (.Name x p) (e::es) [] pos) (AJ C sp dvs E t):=by
 refine ⟨?_⟩;intro pins s σ H Q I h;refine wpAny_Call_Name_kw (dF I hg hm ?_ hdb);refine EX (h₀:=X.base) I.ok.mod.kin M.kp (bG (ha pos pins s σ H _ I h) fun us s1 ⟨vs,H1,I1,r,q⟩=>⟨I1.kIn,?_⟩) he hpl;exact sR M F hr hb hd hx I1 r q
end
structure PK (X:Cx) (kws:List Keyword) (t:TA):Prop where
 run:∀ (pos:Pos) (pins:List (Addr×Obj)) (s:Shared) (σ:St) (H:Hp) (Q:List V->Hp->Prop),Inv X pins σ H s->t σ H Q->wpAny (model X.prog X.w) X.A (evalAll ((backToKw pos (keywordEach kws X.env)).map (·.2))) (AP X pins σ Q) X.xe s
instance {X:Cx} {kws:List Keyword} {t:TA}:CoeFun (PK X kws t) fun _=>∀ (pos:Pos) (pins:List (Addr×Obj)) (s:Shared) (σ:St) (H:Hp) (Q:List V->Hp->Prop),Inv X pins σ H s->t σ H Q->wpAny (model X.prog X.w) X.A (evalAll ((backToKw pos (keywordEach kws X.env)).map (·.2))) (AP X pins σ Q) X.xe s:=⟨PK.run⟩
section
variable {X:Cx} {CX:qe} {k:Nat} {f C:Addr} {fd:FuncData} {ps ks:List Str} {sp:Sp} {E:XK} {x m:Str} {p pos apos kpos:Pos} {e o:Expr} {es:List Expr} {kws:List Keyword} {te ta:TE} {t tk:TA} {nm:Option Str}
theorem yJ:PK X [] yI:=⟨fun _ _ _ _ H Q I h=>wpAny_evalAll_nil ⟨[],H,I,.nil,h⟩⟩
theorem vY (ha:PE X e te) (hr:PK X kws t):PK X (⟨nm,e,kpos⟩::kws) (sO te t):=by
 refine ⟨?_⟩;intro pos pins s σ H Q I h;show wpAny _ _ (evalAll ((do let v <-eval e X.env;standAt pos;pure v)::(backToKw pos (keywordEach kws X.env)).map (·.2))) _ _ s;refine wpAny_evalAll_cons (wpAny_bind (bG (ha pins s σ H _ I h) fun u s1 ⟨x,H1,I1,r1,q1⟩=>wpAny_bind (wpAny_standAt (wpAny_pure ?_))));exact bG (hr pos pins s1 σ H1 _ I1 q1) fun us s2 ⟨xs,H2,I2,r2,q2⟩=>⟨x::xs,H2,I2,.cons r1 r2,q2⟩
structure ou (K:ZF) (fd:FuncData) (ps ks:List Str) (g:List Value->List Value->List Value) (gV:List V->List V->List V):Prop where
 to:∀ (s:Shared) (us ws:List Value),K.In s.heap->(g us ws).length=ps.length->BindsTo s fd ⟨us,ks.zip ws⟩ (ps.zip (g us ws))
 rel:∀ {vs:List V} {us:List Value} {zs:List V} {ws:List Value},Vals vs us->Vals zs ws->Vals (gV vs zs) (g us ws)
def yK (sp:Sp) (gV:List V->List V->List V) (E:XK) (t tk:TA):TE:=fun σ H Q=>t σ H fun vs H1=>tk σ H1 fun zs H2=>sp (gV vs zs) H2 Q E
variable {g:List Value->List Value->List Value} {gV:List V->List V->List V}
theorem vZ {pins:List (Addr×Obj)} {σ:St} {H:Hp} {s:Shared} {Q:VK} {us ws:List Value} {vs zs:List V} (F:FnOk X.prog X.w X.K X.mg X.base CX k f fd ps sp) (hr:Room k X.A) (hb:ou X.K fd ps ks g gV) (hx:dC CX X E)
  (I:Inv X pins σ H s) (r:Vals vs us) (rz:Vals zs ws) (h:sp (gV vs zs) H Q E):wpAny (model X.prog X.w) X.A (call (.ref f) us (ks.zip ws)) (EP X pins σ Q) X.xe s:=by
 have r2:=hb.rel r rz;have hl:(g us ws).length=ps.length:=by rw [<-r2.length];exact F.len _ _ _ _ h
 refine wpAny_call (codeAny_mono (F.run X.A X.stack s H ⟨us,ks.zip ws⟩ (g us ws) (gV vs zs) Q E hr I.env0 (hb.to s us ws I.kIn hl) r2 h) fun r s' hq=>?_);cases r with
 | error e=>exact hx pins σ H s e s' I hq
 | ok fl=>
  cases fl with
  | ret u=>exact I.after hq
  | next=>exact False.elim hq
  | brk=>exact False.elim hq
  | cont=>exact False.elim hq
theorem sS (F:FnOk X.prog X.w X.K X.mg X.base CX k f fd ps sp) (hr:Room k X.A) (hg:Gl X x) (hm:X.mg x=some (.ref f)) (hk:PySem.W.keepIn X.K (.ref f)=true) (hb:ou X.K fd ps ks g gV) (hx:dC CX X E)
  (ha:PA X (e::es) t) (hkw:PK X kws tk) (hall:(backToKw pos (keywordEach kws X.env)).all (·.1.isSome)=true:=by rfl) (hks:(backToKw pos (keywordEach kws X.env)).filterMap (·.1)=ks:=by rfl)
  (hdb:(x == ("__debug__":Str))=false:=by decide) (he:starEach (e::es) X.env=(false,eval e X.env)::starEach es X.env:=by rfl)
  (hpl:((backTo pos (starEach (e::es) X.env)).any (·.1) || (backToKw pos (keywordEach kws X.env)).any (·.1.isNone))=false:=by rfl) :
  PE X (.Call (.Name x p) (e::es) kws pos) (yK sp gV E t tk):=by
 refine ⟨?_⟩;intro pins s σ H Q I h;refine wpAny_Call_Name_kw (dF I hg hm ?_ hdb);refine PySem.W.callWith_KW (h₀:=X.base) I.ok.mod.kin hk hall (bG (ha pos pins s σ H _ I h) fun us s1 ⟨vs,H1,I1,r,q⟩=>?_) hpl he;refine bG (hkw pos pins s1 σ H1 _ I1 q) fun ws s2 ⟨zs,H2,I2,rz,q2⟩=>⟨I2.kIn,?_⟩;rw [hks];exact vZ F hr hb hx I2 r rz q2
end
structure ak (N P:List Str) (sc:Scope):Prop where
 kind:sc.kind=.function
 co:sc.isCoroutine=false
 gen:sc.isGenerator=false
 nd:N.Nodup
 pre:N.take P.length=P
 par:∀ x∈P,sc.names.lookup x=some .local\/sc.names.lookup x=some .cell
 nofree:∀ y∈sc.names,y.2≠.free
theorem ck {N P:List Str} {sc:Scope} (h:N.Nodup/\(∀ x∈P,sc.names.lookup x=some .local\/sc.names.lookup x=some .cell)/\∀ y∈sc.names,y.2≠.free) (a:sc.kind=.function:=by rfl) (b:sc.isCoroutine=false:=by rfl) (c:sc.isGenerator=false:=by rfl) (d:N.take P.length=P:=by rfl):ak N P sc:=⟨a,b,c,h.1,d,h.2.1,h.2.2⟩
variable {n:Nat}
variable {kindOf:Str->Option NameKind}
theorem j4 {x:Str}:∀ {binds:List (Str×Value)} {m:Str->Option Value},(∀ v,(x,v)∉binds)->bindL kindOf binds m x=m x
 | [],_,_=>rfl
 | (n,v)::r,m,h=>by
  unfold bindL;rw [j4 fun w hw=>h w (Ef _ hw)];split
  ·have:x≠n:=by rintro rfl;exact h v Eb
   simp [this]
  ·rfl
theorem j5 {x:Str}:∀ {binds:List (Str×Value)} {m:Str->Option Value},(∀ v,(x,v)∉binds)->bindC kindOf binds m x=m x
 | [],_,_=>rfl
 | (n,v)::r,m,h=>by
  unfold bindC;rw [j5 fun w hw=>h w (Ef _ hw)];split
  ·rfl
  ·have:x≠n:=by rintro rfl;exact h v Eb
   simp [this]
theorem j6 {x:Str} {v:Value}:∀ {P:List Str} {vs:List Value} {i:Nat} {m:Str->Option Value},P.Nodup->P[i]?=some x->vs[i]?=some v->kindOf x=some .local->
  bindL kindOf (P.zip vs) m x=some v
 | [],_,_,_,_,h,_,_=>by simp at h
 | _::_,[],_,_,_,_,h,_=>by simp at h
 | p::P,w::vs,0,m,nd,h1,h2,hk=>by
  simp at h1 h2;subst h1;subst h2;show bindL kindOf ((p,w)::P.zip vs) m p=_;unfold bindL;rw [j4 fun v hv=>(Fp.mp nd).1 (Fq hv).1,if_pos hk];simp
 | p::P,w::vs,i+1,m,nd,h1,h2,hk=>by
  show bindL kindOf ((p,w)::P.zip vs) m x=_;unfold bindL;exact j6 (i:=i) (Fp.mp nd).2 (by simpa using h1) (by simpa using h2) hk
theorem j7 {x:Str} {v:Value}:∀ {P:List Str} {vs:List Value} {i:Nat} {m:Str->Option Value},P.Nodup->P[i]?=some x->vs[i]?=some v->kindOf x≠some .local->
  bindC kindOf (P.zip vs) m x=some v
 | [],_,_,_,_,h,_,_=>by simp at h
 | _::_,[],_,_,_,_,h,_=>by simp at h
 | p::P,w::vs,0,m,nd,h1,h2,hk=>by
  simp at h1 h2;subst h1;subst h2;show bindC kindOf ((p,w)::P.zip vs) m p=_;unfold bindC;rw [j5 fun v hv=>(Fp.mp nd).1 (Fq hv).1,if_neg hk];simp
 | p::P,w::vs,i+1,m,nd,h1,h2,hk=>by
  show bindC kindOf ((p,w)::P.zip vs) m x=_;unfold bindC;exact j7 (i:=i) (Fp.mp nd).2 (by simpa using h1) (by simpa using h2) hk
def start (N:List Str) (vs:List V):St:=vs.map some++List.replicate (N.length - vs.length) none
def jc (CX:qe) (P:Program) (w:World) (K:ZF) (mg:Str->Option Value) (base:Heap) (N:List Str) (qual:Str) (scope:Scope) (f:Addr) (cd:Value) (A:Around) (outer:List Env) (s:Shared) (H:Hp) (E:XK):Cx where
 prog:=P
 w:=w
 K:=K
 mg:=mg
 base:=base
 A:=A.deeper (envOfC qual scope s.heap.objs.size f cd)
 N:=N
 s₀:=s
 H₀:=H
 env:=envOfC qual scope s.heap.objs.size f cd
 outer:=outer
 stack:=envOfC qual scope s.heap.objs.size f cd::outer
 ex:=[]
 calm:=true
 fn:=fun _=>true
 pn:=[]
 xe:=fun e s'=>wpAny (model P w) (A.deeper (envOfC qual scope s.heap.objs.size f cd)) (leaving (envOfC qual scope s.heap.objs.size f cd) e) (fun _ s''=>CX outer H s E e s'') (fun e' s''=>CX outer H s E e' s'') s'
theorem mF {sc:Scope} {x:Str} (h:sc.names.lookup x=some .cell):∃ c,(cellsFrom n sc.names []).lookup x=some c:=by
 have q:=PySem.W.cellsFrom_some sc.names n [] (.inl h);exact Option.isSome_iff_exists.mp q
theorem rh {CX:qe} {P:Program} {w:World} {K:ZF} {mg:Str->Option Value} {base:Heap} {N ps:List Str} {qual:Str} {scope:Scope} {f:Addr} {cd:Value} {A:Around} {outer:List Env} {s s1:Shared} {H:Hp} {E:XK} {us:List Value} {vs:List V}
  (S:ak N ps scope) (hd:A.handled=none) (e0:Env0 P w K mg base A outer s H) (hl:vs.length=ps.length) (r:Vals vs us)
  (x:InCallC s s.heap.objs.size (bindL (envOfC qual scope s.heap.objs.size f cd).kindOf (ps.zip us) fun _=>none) (cellsFrom (s.heap.objs.size+1) scope.names []) (bindC (envOfC qual scope s.heap.objs.size f cd).kindOf (ps.zip us) fun _=>none) s1) :
  Inv (jc CX P w K mg base N qual scope f cd A outer s H E) [] (start N vs) H s1:=by
 have hpl:ps.length<=N.length:=by have:=congrArg List.length S.pre;rw [Em] at this;lia
 obtain ⟨h1,tk,rfl,hk⟩:=x.done;have noA:∀ b:Addr,b∉(jc CX P w K mg base N qual scope f cd A outer s H E).ex:=fun b z=>absurd (show b∈([]:List Addr) from z) (by simp);refine ⟨⟨e0.mod,S.kind,rfl,rfl,Ec _,fun y z c h1 h2=>?_,fun y hy=>?_,fun y c _ h=>?_,fun _=>hd,Around.frames_deeper e0.frames,.inr ⟨rfl,rfl⟩,fun b z=>absurd z (noA b),e0.bs,e0.bsz,fun b _ _=>noA b,fun b z=>absurd z (noA b),e0.funs,e0.frf⟩,
  rfl,e0.bare,Un.kept hk,⟨_,x.toInCall.ns,fun i y v h1 h2 h3=>?_⟩,fun y c h=>⟨_,x.cell y c h⟩,e0.hok.fresh (Ec _),fun y c h=>?_,fun p hp=>absurd (show p∈([]:List (Addr×Obj)) from hp) (by simp),e0.hok.kept hk,?_⟩
 ·exact name_of_addr x.apart (Fh h1) (Fh h2)
 ·have hy:scope.names.lookup y=some .cell\/scope.names.lookup y=some .free:=hy;rcases hy with hy|hy
  ·exact mF hy
  ·exact absurd rfl (S.nofree _ (Fh hy))
 ·exact Nat.le_of_lt (x.above y c (Fh h))
 ·have hi:i < vs.length:=by
   unfold start at h2;by_cases hi:i < vs.length
   ·exact hi
   ·rw [Fk (by simpa using hi)] at h2;rw [List.getElem?_replicate] at h2;split at h2<;>cases h2
  have ha:vs[i]?=some v:=by
   unfold start at h2;rw [Fo (by simpa using hi),EU] at h2;cases e:vs[i]? with
   | none=>rw [e] at h2;cases h2
   | some a=>rw [e] at h2;cases h2;rfl
  obtain ⟨u,hu,rv⟩:=r.get ha;have hp:ps[i]?=some y:=by
   rw [<-S.pre,List.getElem?_take_of_lt zo];exact h1
  have ndP:ps.Nodup:=by rw [<-S.pre];exact S.nd.sublist (List.take_sublist _ _)
  refine ⟨u,rv,?_⟩;rcases S.par y (EV hp) with k|k
  ·exact .inl ⟨k,j6 ndP hp hu k⟩
  ·obtain ⟨c,e⟩:=mF (n:=s.heap.objs.size+1) k;refine .inr ⟨.inl k,c,e,?_⟩;have q:=x.cell y c e;rw [j7 ndP hp hu (by show scope.names.lookup y≠_;rw [k];decide)] at q;exact q
 ·exact e0.hok.fresh (Nat.le_of_lt (x.above y c (Fh h)))
 ·unfold start;show _=N.length;rw [D9,D8,Ex];lia
theorem qh {CX:qe} {P:Program} {w:World} {K:ZF} {mg:Str->Option Value} {base:Heap} {k:Nat} {f:Addr} {name qual:Str} {params:Arguments} {body:List Stmt} {scope:Scope} {dV kV doc pm cdv ct oc:Value} {an od:Option Addr}
  {osl:Array (Option Value)} {N ps:List Str} {sp:Sp} (lk:K.lookup f=some ⟨oc,od,.func (PySem.W.fnOf name qual params body scope dV kV doc pm an cdv ct),osl⟩) (hcd:PySem.W.codeIn K cdv qual=true) (S:ak N ps scope)
  (len:∀ vs H Q E,sp vs H Q E->vs.length=ps.length)
  (hbody:∀ (A:Around) (outer:List Env) (s:Shared) (H:Hp) (vs:List V) (Q:VK) (E:XK),Room k (A.deeper (envOfC qual scope s.heap.objs.size f cdv))->sp vs H Q E->
   ∃ t,PSs (jc CX P w K mg base N qual scope f cdv A outer s H E) body t/\t { nx:=fun _ H'=>Q .non H',rt:=Q } (start N vs) H) :
  FnOk P w K mg base CX (k+1) f (PySem.W.fnOf name qual params body scope dV kV doc pm an cdv ct) ps sp:=by
 refine ⟨len,fun A outer s H args us vs Q E hr e0 hb r hsp=>?_⟩;have hl:=len _ _ _ _ hsp;have KX:K.In s.heap:=e0.mod.kin.keeps fun b o e=>(e0.bs b o e).1;have lim:s.heap.NoLimit:=e0.mod.nolimit.keeps fun b o e=>(e0.bs b o e).1;have hkind:∀ y∈ps.zip us,scope.names.lookup y.1=some .local\/(scope.names.lookup y.1=some .cell/\((cellsFrom (s.heap.objs.size+1) scope.names []).lookup y.1).isSome=true):=fun ⟨n,v⟩ hy=>by
  rcases S.par n (Fq hy).1 with q|q
  ·exact .inl q
  ·exact .inr ⟨q,PySem.W.cellsFrom_some _ _ _ (.inl q)⟩
 refine codeAny_call_function hr.depth (KX _ _ lk) rfl S.co S.gen rfl (PySem.W.codeRec_of KX hcd) (hb _ _ _ _ ?_);refine wpAny_newFunctionEnv_cells S.kind hkind fun env he s1 x=>?_;subst he;refine ⟨lim.keeps x.toInCall.keep,codeAny_func ?_⟩;obtain ⟨t,ht,hq⟩:=hbody A outer s H vs Q E (hr.deeper _) hsp;have I:Inv (jc CX P w K mg base N qual scope f cdv A outer s H E) [] (start N vs) H s1:=rh S hr.hd e0 hl r x;refine wpAny_mono (ht [] s1 (start N vs) H _ I hq) (fun fl s' hs=>?_) fun e s' hs=>hs;have fin:∀ {σ':St} {H':Hp} {v:V} {u:Value},Inv (jc CX P w K mg base N qual scope f cdv A outer s H E) [] σ' H' s'->RelV v u->Q v H'->CE outer P w H s Q u s':=
  fun {σ' H' v u} J rv q=>⟨v,H',J.os,J.bare,J.base,J.hok,rv,q⟩
 cases fl with
 | ret u=>
  obtain ⟨v,σ',H',J,rv,q⟩:=hs;exact fin J rv q
 | next=>
  obtain ⟨σ',H',J,q⟩:=hs;exact fin (v:=V.non) (u:=Value.none) J rfl q
 | brk=>
  obtain ⟨_,_,_,q⟩:=hs;exact False.elim q
 | cont=>
  obtain ⟨_,_,_,q⟩:=hs;exact False.elim q
section
variable {X:Cx} {x:Str} {p pos:Pos} {e:Expr} {es:List Expr} {t:TA} {id T:String} {r:List V->Hp->VK->Prop}
def Dq (r:List V->Hp->VK->Prop) (t:TA):TE:=fun σ H Q=>t σ H fun vs H1=>r vs H1 Q
theorem ar (hc:cV X (.builtin id) r) (hg:Gl X x) (hm:X.mg x=none) (hv:bootBuiltins x=some (.builtin id)) (ha:PA X (e::es) t) (hn:x≠"__name__":=by decide) (hdb:(x == ("__debug__":Str))=false:=by decide)
  (he:starEach (e::es) X.env=(false,eval e X.env)::starEach es X.env:=by rfl) (hpl:(backTo pos (starEach es X.env)).any (·.1)=false:=by rfl):PE X (.Call (.Name x p) (e::es) [] pos) (Dq r t):=by
 refine ⟨?_⟩;intro pins s σ H Q I h;refine wpAny_Call_Name_kw (eP I hg hm hv ?_ hn hdb);exact PyProof.Rows.callWith_builtin1 (bG (ha pos pins s σ H _ I h) fun us s1 ⟨vs,H1,I1,r1,q1⟩=>hc pins s1 σ H1 vs us Q I1 r1 q1) he hpl
theorem aN (hc:cV X (.type T) r) (hg:Gl X x) (hm:X.mg x=none) (hv:bootBuiltins x=some (.type T)) (ha:PA X (e::es) t) (hn:x≠"__name__":=by decide) (hdb:(x == ("__debug__":Str))=false:=by decide)
  (he:starEach (e::es) X.env=(false,eval e X.env)::starEach es X.env:=by rfl) (hpl:(backTo pos (starEach es X.env)).any (·.1)=false:=by rfl):PE X (.Call (.Name x p) (e::es) [] pos) (Dq r t):=by
 refine ⟨?_⟩;intro pins s σ H Q I h;refine wpAny_Call_Name_kw (eP I hg hm hv ?_ hn hdb);exact EL (bG (ha pos pins s σ H _ I h) fun us s1 ⟨vs,H1,I1,r1,q1⟩=>hc pins s1 σ H1 vs us Q I1 r1 q1) he hpl
end
end L2
namespace HT
open PySem PyProof.Rows
section
open PySem.SeqAt
open PySem.AutoSeq1 (wpAny_loadPart')
open PySem.MeetsSeq PySem.MeetsSeq2 PySem.MeetsSeq3
end
section
variable {prog:Program} {w:World} {A:Around} {E:Value->Shared->Prop} {s:Shared}
variable {t b:Addr}
theorem cat_tup {vs ws:List Value} {Q:Value->Shared->Prop} (ht:IsTup s.heap t vs.toArray) (hb:IsTup s.heap b ws.toArray) (hv:vs≠[])
  (h1:ws=[]->Q (.ref t) s) (h2:ws≠[]->Q (.ref s.heap.objs.size) { s with heap:=s.heap.push { cls:=.type "tuple",data:=.seq (vs++ws).toArray } })
  (hsz:vs.length+ws.length<=sizeLine):wpAny (model prog w) A (binaryOp .Add (.ref t) (.ref b)) Q E s:=by
 obtain ⟨⟨cls,dd,data,sl⟩,ho,hc,n,hd⟩:=id ht;obtain ⟨⟨cls2,dd2,data2,sl2⟩,ho2,hc2,n2,nY⟩:=id hb;simp only at hc hd hc2 nY;subst hc hd hc2 nY;have e:vs.toArray++ws.toArray=(vs++ws).toArray:=by simp
 by_cases hw:ws=[]
 ·exact concat_meets ⟨_,ho,rfl⟩ ⟨_,ho2,rfl⟩ noFill_tuple_add seq_tuple_add PySem.F.slot_tuple_add PySem.F.entry_tuple_add (PySem.F.args_tuple_add_2 _ _)
   (tuple_addW1 t b vs.toArray ws.toArray n n2 dd dd2 sl sl2 (by simpa using hv) (by simp [hw])) ⟨ho,ho2,h1 hw⟩
 ·refine concat_meets ⟨_,ho,rfl⟩ ⟨_,ho2,rfl⟩ noFill_tuple_add seq_tuple_add PySem.F.slot_tuple_add PySem.F.entry_tuple_add (PySem.F.args_tuple_add_2 _ _)
   (tuple_addW2 t b vs.toArray ws.toArray n n2 dd dd2 sl sl2 (by simpa using hv) (by simpa using hw) (by rw [Ea,Ea];exact hsz)) ⟨ho,ho2,?_⟩
  rw [e];exact h2 hw
def sIx (n d:Nat):Option Int->Nat
 | none=>d
 | some v=>if v < 0 then (v+(n:Int)).toNat else min v.toNat n
theorem sIx_none (n d:Nat):sIx n d none=d:=rfl
theorem sIx_nat (n d k:Nat):sIx n d (some (k:Int))=min k n:=by
 show (if (k:Int) < 0 then ((k:Int)+(n:Int)).toNat else min (k:Int).toNat n)=min k n;rw [if_neg zo,E6]
theorem sIx_le (n d:Nat) (hd:d<=n) (o:Option Int):sIx n d o<=n:=by
 cases o with
 | none=>exact hd
 | some v=>
  show (if v < 0 then (v+(n:Int)).toNat else min v.toNat n)<=n;by_cases hv:v < 0
  ·rw [if_pos hv];lia
  ·rw [if_neg hv];exact Nat.min_le_right _ _
theorem clip_eq (v:Int) (n d:Nat):(if v < 0 then max (v+(n:Int)) 0 else min v (n:Int))=((sIx n d (some v):Nat):Int):=by
 show (if v < 0 then max (v+(n:Int)) 0 else min v (n:Int))=(((if v < 0 then (v+(n:Int)).toNat else min v.toNat n):Nat):Int);by_cases hv:v < 0
 ·simp only [if_pos hv];lia
 ·simp only [if_neg hv];lia
theorem adjust_gen (lo hi:Option Int) (n:Nat):Builtin.Slice.sliceAdjust lo hi 1 (n:Int)=(((sIx n 0 lo:Nat):Int),((sIx n n hi:Nat):Int)):=by
 have h1:¬ ((1:Int) < 0):=by lia
 unfold Builtin.Slice.sliceAdjust;simp only [h1,if_false];refine Prod.ext ?_ ?_
 ·cases lo with
  | none=>rfl
  | some v=>exact clip_eq v n 0
 ·cases hi with
  | none=>rfl
  | some v=>exact clip_eq v n n
theorem places_gen (i j:Nat):Builtin.Slice.slicePlaces (i:Int) (j:Int) 1=j - i:=by
 unfold Builtin.Slice.slicePlaces;have h1:(1:Int) > 0:=by lia
 simp only [h1,if_true,Int.ediv_one];split<;>lia
theorem slicePart_ {v:Value} {o:Option Int} {Q:Option Int->Shared->Prop} (p:IsPart v o) (h:Q o s):wpAny (model prog w) A (Builtin.Slice.slicePartIndex v) Q E s:=by
 cases p with
 | none=>exact slicePart_none h
 | int i t=>exact slicePart_int h
variable {lo hi:Option Int} {vl vu:Value}
theorem sliceApplied_gen {sl:Addr} {n:Nat} {Q:Int×Int×Nat->Shared->Prop} (hs:s.heap.IsSliceOf sl vl vu .none) (pl:IsPart vl lo) (pu:IsPart vu hi)
  (h:Q (((sIx n 0 lo:Nat):Int),1,sIx n n hi - sIx n 0 lo) s):wpAny (model prog w) A (Builtin.Slice.sliceApplied (.ref sl) (pure (n:Int))) Q E s:=by
 obtain ⟨os,hos,hcs,hds⟩:=id hs;unfold Builtin.Slice.sliceApplied Builtin.Slice.sliceFields;refine wpAny_bind (wpAny_bind (wpAny_field hos hds (x:=vl) rfl (wpAny_bind (wpAny_field hos hds (x:=vu) rfl (wpAny_bind (wpAny_field hos hds (x:=.none) rfl (wpAny_pure ?_)))))));refine wpAny_bind (slicePart_none ?_);show wpAny _ _ (if ((1:Int) == 0)=true then _ else _) _ _ s;rw [if_neg zd];refine wpAny_bind (slicePart_ pl (wpAny_bind (slicePart_ pu (wpAny_bind (wpAny_pure ?_)))));show wpAny _ _ (match Builtin.Slice.sliceAdjust lo hi 1 (n:Int) with|(lo,hi)=>pure (lo,(1:Int),Builtin.Slice.slicePlaces lo hi 1)) _ _ s;rw [adjust_gen lo hi n];show wpAny _ _ (pure (((sIx n 0 lo:Nat):Int),(1:Int),Builtin.Slice.slicePlaces ((sIx n 0 lo:Nat):Int) ((sIx n n hi:Nat):Int) 1)) _ _ s;rw [places_gen];exact wpAny_pure h
theorem pick_gen (xs:Array Value) (i k:Nat):((List.range k).filterMap fun (m:Nat)=>xs[((i:Int)+(m:Int)*1).toNat]?).toArray=((xs.toList.drop i).take k).toArray:=by
 have e:(fun (m:Nat)=>xs[((i:Int)+(m:Int)*1).toNat]?)=fun m=>xs[i+m]?:=by
  funext m;have:((i:Int)+(m:Int)*1).toNat=i+m:=by lia
  rw [this]
 rw [e];have:=pick_run xs i k;rw [List.filterMap_map] at this;have e2:((fun x=>xs[x]?) ∘ fun x=>i+x)=fun m=>xs[i+m]?:=rfl;rw [e2] at this;rw [this]
theorem getItem_tuple_cut {t sl:Addr} {items:Array Value} {Q:Value->Shared->Prop} (ht:IsTup s.heap t items) (hs:s.heap.IsSliceOf sl vl vu .none) (pl:IsPart vl lo) (pu:IsPart vu hi)
  (hw:¬ (sIx items.size 0 lo=0/\sIx items.size items.size hi=items.size))
  (h:Q (.ref s.heap.objs.size) { s with heap:=s.heap.push { cls:=.type "tuple",data:=.seq ((items.toList.drop (sIx items.size 0 lo)).take (sIx items.size items.size hi - sIx items.size 0 lo)).toArray } })
  (hsz:items.size<=sizeLine):wpAny (model prog w) A (getItem (.ref t) (.ref sl)) Q E s:=by
 have htake:sizeOk (.seq ((items.toList.drop (sIx items.size 0 lo)).take (sIx items.size items.size hi - sIx items.size 0 lo)).toArray):=by
  show ((items.toList.drop (sIx items.size 0 lo)).take (sIx items.size items.size hi - sIx items.size 0 lo)).toArray.size<=sizeLine;rw [Ea,Em,ET,Array.length_toList];lia
 have hj:sIx items.size items.size hi<=items.size:=sIx_le _ _ (Ec _) hi;obtain ⟨os,hos,hcs,hds⟩:=id hs;have hTs:s.TypeIs (.ref sl) "slice":=⟨os,hos,hcs⟩;unfold getItem;try with_reducible refine wpAny_holding ?_
 first|refine wpAny_bind (wpAny_pure ?_)|skip
 refine wpAny_bind (wpAny_sequenceKey ht.typeIs zd ?_);refine wpAny_bind (wpAny_callSpecial?_slot (name:=Str.ofString "__getitem__") ht.typeIs PyProof.Rows.slot_tuple_getitem
  (wpAny_call_entry PyProof.Rows.slot_tuple_getitem ht.typeIs entry_tuple_getitem ?_ (args_tuple_getitem _ _)))
 show wpAny _ _ (Builtin.Tuple.tupleItemsOf (.ref t) >>= _) _ _ s;refine wpAny_bind (tupleItemsOf_ ht ?_);refine wpAny_bind (wpAny_typeOf hTs ?_);rw [if_pos zd];refine wpAny_bind (sliceApplied_gen hs pl pu ?_);have hno:¬ ((((sIx items.size 0 lo:Nat):Int) == 0 && (1:Int) == 1 && (sIx items.size items.size hi - sIx items.size 0 lo) == items.size)=true):=by
  intro q;rw [EA,EA] at q;have q1:((sIx items.size 0 lo:Nat):Int)=0:=eq_of_beq q.1.1;have q2:sIx items.size items.size hi - sIx items.size 0 lo=items.size:=eq_of_beq q.2;exact hw ⟨zo,zo⟩
 show wpAny _ _ (if (((sIx items.size 0 lo:Nat):Int) == 0 && (1:Int) == 1 && (sIx items.size items.size hi - sIx items.size 0 lo) == items.size)=true then _ else _) _ _ s;rw [if_neg hno,pick_gen];first
  | exact wpAny_bind (m:=Builtin.Tuple.tupleExact _) (wpAny_newObj_type (wpAny_pure ⟨_,rfl,wpAny_pure h⟩) htake)
  | exact wpAny_bind (m:=Builtin.Tuple.tupleExact _) (wpAny_newObj_type (wpAny_bind (wpAny_pure (wpAny_pure ⟨_,rfl,wpAny_pure h⟩))) htake)
  | exact wpAny_bind (wpAny_bind (m:=Builtin.Tuple.tupleExact _) (wpAny_newObj_type (wpAny_pure (wpAny_pure ⟨_,rfl,wpAny_pure h⟩)) htake))
  | exact wpAny_bind (wpAny_bind (m:=Builtin.Tuple.tupleExact _) (wpAny_newObj_type (wpAny_pure ⟨_,rfl,wpAny_pure h⟩) htake))
end
end HT
namespace L2
open PySem PySem.Spec PyProof.Rows
abbrev TO:=St->Hp->(Option Int->Hp->Prop)->Prop
structure PO (X:Cx) (e:Option Expr) (t:TO):Prop where
 run:∀ (pins:List (Addr×Obj)) (s:Shared) (σ:St) (H:Hp) (Q:Option Int->Hp->Prop),Inv X pins σ H s->t σ H Q->
  wpAny (model X.prog X.w) X.A (evalPart e X.env) (fun u s'=>∃ o H',Inv X pins σ H' s'/\IsPart u o/\Q o H') X.xe s
instance {X:Cx} {e:Option Expr} {t:TO}:CoeFun (PO X e t) fun _=>∀ (pins:List (Addr×Obj)) (s:Shared) (σ:St) (H:Hp) (Q:Option Int->Hp->Prop),Inv X pins σ H s->t σ H Q->
  wpAny (model X.prog X.w) X.A (evalPart e X.env) (fun u s'=>∃ o H',Inv X pins σ H' s'/\IsPart u o/\Q o H') X.xe s:=⟨PO.run⟩
def v8:TO:=fun _ H Q=>Q none H
inductive sU (Q:Option Int->Hp->Prop) (x:V) (H1:Hp):Prop
 | mk (i:_):x=.int i->Q (some i) H1->sU Q x H1
def sV (t:TE):TO:=fun σ H Q=>t σ H fun x H1=>sU Q x H1
section
variable {X:Cx} {e:Expr} {te:TE} {lo hi:Option Expr} {tl th:TO} {pos p2:Pos}
theorem dH:PO X none v8:=by
 refine ⟨?_⟩;intro pins s σ H Q I h;rw [evalPart_none];exact wpAny_pure ⟨none,H,I,.none,h⟩
theorem cE (h:PE X e te):PO X (some e) (sV te):=by
 refine ⟨?_⟩;intro pins s σ H Q I hw;rw [evalPart_some];refine bG (h pins s σ H _ I hw) fun u s1 ⟨x,H1,I1,r1,q1⟩=>?_;obtain ⟨i,rfl,q⟩:=q1;obtain ⟨t,rfl⟩:=r1;exact ⟨some i,H1,I1,.int i t,q⟩
def BV (X:Cx) (r:V->Option Int->Option Int->Hp->VK->Prop):Prop:=
 ∀ (pins:List (Addr×Obj)) (s:Shared) (σ:St) (H:Hp) (x:V) (v vl vu:Value) (lo hi:Option Int) (sl:Addr) (Q:VK),Inv X pins σ H s->RelV x v->s.heap.IsSliceOf sl vl vu .none->IsPart vl lo->IsPart vu hi->r x lo hi H Q->
  ∃ T id,typeLookup (.type T) "__getitem__"=pure (some (.builtin id))/\s.TypeIs v T/\wpAny (model X.prog X.w) X.A (getItem v (.ref sl)) (EP X pins σ Q) X.xe s
def Dr (r:V->Option Int->Option Int->Hp->VK->Prop) (te:TE) (tl th:TO):TE:=fun σ H Q=>te σ H fun x H1=>tl σ H1 fun l H2=>th σ H2 fun u H3=>r x l u H3 Q
theorem cI {r:V->Option Int->Option Int->Hp->VK->Prop} (hr:BV X r) (he:PE X e te) (hl:PO X lo tl) (hu:PO X hi th):PE X (.Subscript e (.Slice lo hi none p2) pos) (Dr r te tl th):=by
 refine ⟨?_⟩;intro pins s σ H Q I h;refine Subscript_ (bG (he pins s σ H _ I h) fun v s1 ⟨x,H1,I1,r1,q1⟩=>?_);refine wpAny_Slice (bG (hl pins s1 σ H1 _ I1 q1) fun vl s2 ⟨l,H2,I2,pl,q2⟩=>bG (hu pins s2 σ H2 _ I2 q2) fun vu s3 ⟨u,H3,I3,pu,q3⟩=>?_);rw [evalPart_none];refine wpAny_pure ?_;have I4:Inv X pins σ H3 { s3 with heap:=s3.heap.push { cls:=.type "slice",data:=.fields #[vl,vu,.none] } }:=I3.kept (t':=s3.toks) fun b ob q=>D6 _ q;obtain ⟨T,id,hT,ht,hg⟩:=hr pins { s3 with heap:=s3.heap.push { cls:=.type "slice",data:=.fields #[vl,vu,.none] } } σ H3 x v vl vu l u s3.heap.objs.size Q I4 r1 (Heap.IsSliceOf.new ..) pl pu q3;show wpAny (model X.prog X.w) X.A (subscriptTail e (.Slice lo hi none p2) v (.ref s3.heap.objs.size)) (EP X pins σ Q) X.xe { s3 with heap:=s3.heap.push { cls:=.type "slice",data:=.fields #[vl,vu,.none] } };exact tail_any (ops:=[.ref s3.heap.objs.size,v]) ht hT hg (by with_unfolding_all rfl)
def eY (xs:List V) (lo hi:Option Int):List V:=(xs.drop (HT.sIx xs.length 0 lo)).take (HT.sIx xs.length xs.length hi - HT.sIx xs.length 0 lo)
theorem iE (xs:List V) (lo hi:Option Int):(eY xs lo hi).length<=xs.length:=by
 unfold eY;rw [Em,ET];lia
inductive AK (K:ZF) (x:V) (lo:Option Int) (hi:Option Int) (H:Hp) (Q:VK):Prop
 | mk (a xs:_):x=.ref a->SqT K H a xs->¬ (HT.sIx xs.length 0 lo=0/\HT.sIx xs.length xs.length hi=xs.length)->(∀ p,H p=none->Q (.ref p) (upd H p (.tup (eY xs lo hi))))->AK K x lo hi H Q
theorem sW:BV X (AK X.K):=by
 intro pins s σ H x v vl vu lo hi sl Q I rx hs pl pu h;obtain ⟨a,xs,rfl,hx,hw,q⟩:=h;cases rx;obtain ⟨its,r,ht,hz⟩:=I.tuple hx;have hlen:its.toArray.size=xs.length:=by rw [Ea];exact r.length.symm
 refine ⟨"tuple",_,PyProof.Rows.slot_tuple_getitem.lookup,ht.typeIs,?_⟩;refine HT.getItem_tuple_cut ht hs pl pu (by rw [hlen];exact hw) ?_ (by rw [hlen];exact hz);rw [hlen];refine ⟨.ref s.heap.objs.size,_,I.laid (t':=s.toks) (o:=.tup (eY xs lo hi)) (fun b ob q=>D6 _ q) (Ec _) ?_,rfl,q _ (I.hok.fresh (Ec _))⟩;exact ⟨Ew (iE xs lo hi) hz,_,(r.drop (HT.sIx xs.length 0 lo)).take (HT.sIx xs.length xs.length hi - HT.sIx xs.length 0 lo),TupP.new _ _⟩
inductive xV (K:ZF) (x:V) (y:V) (H:Hp) (Q:VK):Prop
 | mk (a b xs ys:_):x=.ref a->y=.ref b->SqT K H a xs->SqT K H b ys->xs≠[]->xs.length+ys.length<=sizeLine->(ys=[]->Q (.ref a) H)->(ys≠[]->∀ p,H p=none->Q (.ref p) (upd H p (.tup (xs++ys))))->xV K x y H Q
theorem Vals.nil_iff {xs:List V} {us:List Value} (r:Vals xs us):us=[]↔xs=[]:=by
 cases r with
 | nil=>simp
 | cons _ _=>simp
theorem wa:dO X (binaryOp .Add) (xV X.K):=by
 intro pins s σ H x y v u Q I rx ry h;obtain ⟨a,b,xs,ys,rfl,rfl,ha,hb,hx,hz,q1,q2⟩:=h;cases rx;cases ry;obtain ⟨its,r1,p1,_⟩:=I.tuple ha;obtain ⟨its2,r2,p2,_⟩:=I.tuple hb;refine HT.cat_tup p1 p2 (fun z=>hx (r1.nil_iff.mp z)) (fun z=>⟨.ref a,H,I,rfl,q1 (r2.nil_iff.mp z)⟩) (fun z=>?_) (by rw [<-r1.length,<-r2.length];exact hz);refine ⟨.ref s.heap.objs.size,_,I.laid (t':=s.toks) (o:=.tup (xs++ys)) (fun b ob q=>D6 _ q) (Ec _) ?_,rfl,q2 (fun w=>z (r2.nil_iff.mpr w)) _ (I.hok.fresh (Ec _))⟩;exact ⟨by rw [D9];exact hz,_,r1.append r2,TupP.new _ _⟩
end
def wb (n:Nat) (i:Int):Option Nat:=if 0<=i then (if i < n then some i.toNat else none) else if -(n:Int)<=i then some (i+n).toNat else none
def j8 {α:Type} (xs:List α) (i:Int):Option α:=(wb xs.length i).bind fun j=>xs[j]?
variable {j:Nat} {i:Int} {n:Nat}
theorem qi (h:wb n i=some j):seqIndex? i n=some j/\j < n/\-(n:Int)<=i/\i < n:=by
 unfold wb at h;by_cases h0:0<=i
 ·rw [if_pos h0] at h;by_cases h1:i < n
  ·rw [if_pos h1] at h;have e:i.toNat=j:=Ey h;exact ⟨by rw [seqIndex_of h0 h1,e],zo,zo,h1⟩
  ·rw [if_neg h1] at h;cases h
 ·rw [if_neg h0] at h;by_cases h1:-(n:Int)<=i
  ·rw [if_pos h1] at h;have e:(i+n).toNat=j:=Ey h;exact ⟨by rw [seqIndex_neg zo h1,e],zo,h1,zo⟩
  ·rw [if_neg h1] at h;cases h
theorem kK {α:Type} {xs:List α} {v:α} (h:j8 xs i=some v):∃ j,seqIndex? i xs.length=some j/\xs[j]?=some v/\j < xs.length/\-(xs.length:Int)<=i/\i < xs.length:=by
 unfold j8 at h;cases e:wb xs.length i with
 | none=>rw [e] at h;cases h
 | some j=>
  rw [e] at h;obtain ⟨h1,h2,h3,h4⟩:=qi e;exact ⟨j,h1,h,h2,h3,h4⟩
theorem bq {α:Type} {xs:List α} {v:α} (h:xs[j]?=some v):j8 xs (j:Int)=some v:=by
 have hj:j < xs.length:=(D7.mp h).1;have e:wb xs.length (j:Int)=some j:=by
  unfold wb;rw [if_pos zo,if_pos zo];simp
 unfold j8;rw [e];exact h
def wc (b:Expr):Prop:=∀ o i,subscripted b false o i=operate [o,i] (getItem o i)
def AL (X:Cx) (r:R2):Prop:=
 ∀ (value slice:Expr) (pins:List (Addr×Obj)) (s:Shared) (σ:St) (H:Hp) (x y:V) (v u:Value) (Q:VK),Inv X pins σ H s->RelV x v->RelV y u->r x y H Q->
  subscripted slice false v u=operate [v,u] (getItem v u)->wpAny (model X.prog X.w) X.A (subscriptTail value slice v u) (EP X pins σ Q) X.xe s
def Ai (X:Cx) (id:String) (r:V->List V->Hp->VK->Prop):Prop:=
 ∀ (pins:List (Addr×Obj)) (s:Shared) (σ:St) (H:Hp) (x:V) (xs:List V) (v:Value) (us:List Value) (Q:VK),Inv X pins σ H s->RelV x v->Vals xs us->r x xs H Q->
  wpAny (model X.prog X.w) X.A (call (.builtin id) (v::us)) (EP X pins σ Q) X.xe s
section
variable {X:Cx} {a b:Expr} {ta tb:TE} {pos:Pos}
theorem aG {r:R2} (hr:AL X r) (ha:PE X a ta) (hb:PE X b tb) (hs:wc b:=by intro _ _;rfl):PE X (.Subscript a b pos) (BU r ta tb):=by
 refine ⟨?_⟩;intro pins s σ H Q I h;exact Subscript_ (yF ha hb I h fun v u s2 x y H2 I2 rx ry q=>hr a b pins s2 σ H2 x y v u Q I2 rx ry q (hs _ _))
inductive we (K:ZF) (x:V) (y:V) (H:Hp) (Q:VK):Prop
 | mk (p xs i v:_):x=.ref p->y=.int i->SqL K H p xs->j8 xs i=some v->Q v H->we K x y H Q
inductive AM (K:ZF) (x:V) (y:V) (H:Hp) (Q:VK):Prop
 | mk (p xs i v:_):x=.ref p->y=.int i->SqT K H p xs->j8 xs i=some v->Q v H->AM K x y H Q
inductive AO (x:V) (y:V) (H:Hp) (Q:VK):Prop
 | mk (z i c:_):x=.str z->y=.int i->z.length<=sizeLine->j8 z.cps.toList i=some c->Q (.str ⟨#[c]⟩) H->AO x y H Q
theorem aM:AL X (we X.K):=by
 intro value slice pins s σ H x y v u Q I rx ry h hs;obtain ⟨p,xs,i,z,rfl,rfl,hq,he,q⟩:=h;cases rx;obtain ⟨t,rfl⟩:=ry;obtain ⟨its,r,pl,hz⟩:=I.list hq;obtain ⟨j,h1,h2,h3,h4,h5⟩:=kK he;obtain ⟨w,ew,rw'⟩:=r.get h2;have hl:=r.length;have hn:=gj;have fin:EP X pins σ Q w s:=⟨z,H,I,rw',q⟩;by_cases h0:0<=i
 ·have hj:i.toNat=j:=by
   rw [seqIndex_of h0 h5] at h1;exact Ey h1
  exact item_listR pl.isList h0 zo (by rw [hj];simpa using ew) fin hs
 ·have hj:(i+(its.toArray.size:Int)).toNat=j:=by
   rw [seqIndex_neg zo h4] at h1;rw [Ea,<-hl];exact Ey h1
  exact subscriptTail_builtinR (x:=w) pl.isList.typeIs slot_list_getitem.lookup
   (wpAny_getItem_list_neg (Q:=fun r s'=>r=w/\EP X pins σ Q r s') pl.isList zo (by rw [Ea]<;>lia) zo (by rw [hj];simpa using ew) ⟨rfl,fin⟩) hs
theorem bh:AL X (AM X.K):=by
 intro value slice pins s σ H x y v u Q I rx ry h hs;obtain ⟨p,xs,i,z,rfl,rfl,hq,he,q⟩:=h;cases rx;obtain ⟨t,rfl⟩:=ry;obtain ⟨its,r,pl,hz⟩:=I.tuple hq;obtain ⟨j,h1,h2,h3,h4,h5⟩:=kK he;obtain ⟨w,ew,rw'⟩:=r.get h2;have hl:=r.length;have hn:=gj;have fin:EP X pins σ Q w s:=⟨z,H,I,rw',q⟩;exact subscriptTail_builtinR (x:=w) pl.typeIs slot_tuple_getitem.lookup
  (getItem_tuple (j:=j) (Q:=fun r s'=>r=w/\EP X pins σ Q r s') pl zo zo (by rw [Ea,<-hl];exact h1) (by simpa using ew) ⟨rfl,fin⟩) hs
theorem gl:AL X AO:=by
 intro value slice pins s σ H x y v u Q I rx ry h hs;obtain ⟨z,i,c,rfl,rfl,hz,he,q⟩:=h;obtain ⟨t,rfl⟩:=rx;obtain ⟨t',rfl⟩:=ry;obtain ⟨j,h1,h2,h3,h4,h5⟩:=kK he;have hl:z.cps.toList.length=z.length:=by simp [Str.length]
 rw [hl] at h1 h4 h5;have hn:=gj;exact tail_any (typeIs_str s z t) slot_str_getitem.lookup (getItem_str (c:=c) (by
  have e1:decide (i < -(2 ^ 63:Int))=false:=decide_eq_false zo;have e2:decide (i ≥ 2 ^ 63)=false:=decide_eq_false zo;rw [e1,e2,Bool.or_false]) (by rw [h1];simpa using h2) ⟨.str ⟨#[c]⟩,H,I.tok _,⟨_,rfl⟩,q⟩) hs
theorem ow (its:List Value) (n j:Nat) (u:Value):Obj.mapSeq (·.setIfInBounds j u) { cls:=.type "list",data:=.seq its.toArray n }={ cls:=.type "list",data:=.seq (its.set j u).toArray n }:=by
 simp [Obj.mapSeq]
variable {xs:List V} {p:Addr} {s:Shared} {H:Hp} {σ:St} {pins:List (Addr×Obj)}
theorem Inv.lst (I:Inv X pins σ H s) (h:H p=some (.lst xs)) :
  ∃ (its:List Value) (n:Nat),Vals xs its/\s.heap.get? p=some { cls:=.type "list",data:=.seq its.toArray n }/\xs.length<=sizeLine:=by
 obtain ⟨z,its,n,r,e⟩:=I.hok p _ h;exact ⟨its,n,r,e,z⟩
theorem Inv.lstUpd {xs ys:List V} {its its':List Value} {n n':Nat} {f:Obj->Obj} (I:Inv X pins σ H s) (h:H p=some (.lst xs))
  (ho:s.heap.get? p=some { cls:=.type "list",data:=.seq its.toArray n }) (hf:f { cls:=.type "list",data:=.seq its.toArray n }={ cls:=.type "list",data:=.seq its'.toArray n' }) (r:Vals ys its') (hz:ys.length<=sizeLine) (t:Nat) :
  Inv X pins σ (upd H p (.lst ys)) { s with heap:=s.heap.update p f,toks:=t }:=by
 have e:(s.heap.update p f).get? p=some { cls:=.type "list",data:=.seq its'.toArray n' }:=by
  rw [Heap.get?_update_self f ho (by rw [hf]<;>rfl),hf]
 refine I.write (x:=p) (e:=p) (by rw [h];trivial) (.inl rfl) (fun b u hb q=>(Heap.get?_update_other _ _ (Ne.symm hb)).trans q) ⟨_,e⟩ ?_;exact ⟨hz,its',n',r,e⟩
inductive xW (o:V) (i:V) (v:V) (H:Hp) (Q:Hp->Prop):Prop
 | mk (p xs k j:_):o=.ref p->i=.int k->H p=some (.lst xs)->wb xs.length k=some j->Q (upd H p (.lst (xs.set j v)))->xW o i v H Q
theorem eZ:Aw X xW:=by
 intro pins s σ H o i v ov iv u Q I ro ri rv h;obtain ⟨p,xs,k,j,rfl,rfl,hp,hj,q⟩:=h;cases ro;obtain ⟨t,rfl⟩:=ri;obtain ⟨its,n,r,ho,hz⟩:=I.lst hp;obtain ⟨h1,h2,h3,h4⟩:=qi hj;have hl:=r.length;have hn:=gj;have I':Inv X pins σ (upd H p (.lst (xs.set j v))) { s with heap:=s.heap.update p (Obj.mapSeq (·.setIfInBounds j u)) }:=
  I.lstUpd hp ho (ow its n j u) (r.set rv j) (by rw [List.length_set];exact hz) s.toks
 by_cases h0:0<=k
 ·have hk:k.toNat=j:=by
   rw [seqIndex_of h0 h4] at h1;exact Ey h1
  exact PySem.W.ki_setAt ho h0 zo (by rw [Ea,<-hl];exact h4) (by rw [hk];exact ⟨_,I',q⟩)
 ·have hk:(k+(its.toArray.size:Int)).toNat=j:=by
   rw [seqIndex_neg zo h3] at h1;rw [Ea,<-hl];exact Ey h1
  exact PySem.W.ki_setBack ho zo (by rw [Ea,<-hl];exact h3) zo (by rw [hk];exact ⟨_,I',q⟩)
theorem kL (lo hi:Option Int) (n:Nat):(sliceBounds lo hi none n).1=((HT.sIx n 0 lo:Nat):Int)/\(sliceBounds lo hi none n).2.1=((HT.sIx n n hi:Nat):Int)/\(sliceBounds lo hi none n).2.2=1:=by
 refine ⟨?_,?_,rfl⟩
 ·cases lo with
  | none=>simp [sliceBounds,HT.sIx]
  | some i=>
   simp only [sliceBounds,HT.sIx,Option.getD_none,show (1:Int) > 0 by decide,if_true];by_cases h:i < 0
   ·simp only [h,if_true]<;>lia
   ·simp only [h,if_false]<;>lia
 ·cases hi with
  | none=>simp [sliceBounds,HT.sIx]
  | some i=>
   simp only [sliceBounds,HT.sIx,Option.getD_none,show (1:Int) > 0 by decide,if_true];by_cases h:i < 0
   ·simp only [h,if_true]<;>lia
   ·simp only [h,if_false]<;>lia
theorem jO (its:List Value) (lo hi:Option Int):slicePick its.toArray lo hi none=((its.drop (HT.sIx its.length 0 lo)).take (HT.sIx its.length its.length hi - HT.sIx its.length 0 lo)).toArray:=by
 obtain ⟨h1,h2,h3⟩:=kL lo hi its.toArray.size;unfold slicePick;rw [h1,h2,h3];simp only [sliceRange_one,pick_run,Ea]<;>rfl
inductive AQ (K:ZF) (x:V) (lo:Option Int) (hi:Option Int) (H:Hp) (Q:VK):Prop
 | mk (a xs:_):x=.ref a->SqL K H a xs->(∀ p,H p=none->Q (.ref p) (upd H p (.lst (eY xs lo hi))))->AQ K x lo hi H Q
theorem fG:BV X (AQ X.K):=by
 intro pins s σ H x v vl vu lo hi sl Q I rx hs pl pu h;obtain ⟨a,xs,rfl,hx,q⟩:=h;cases rx;obtain ⟨its,r,ht,hz⟩:=I.list hx;have hlen:=r.length;refine ⟨"list",_,slot_list_getitem.lookup,ht.isList.typeIs,?_⟩;refine wpAny_getItem_list_slice ht.isList hs pl pu .none (by simp) ?_ (by rw [Ea]<;>lia);rw [jO,<-hlen];refine ⟨.ref s.heap.objs.size,_,I.laid (t':=s.toks) (o:=.lst (eY xs lo hi)) (fun b ob q=>D6 _ q) (Ec _) ?_,rfl,q _ (I.hok.fresh (Ec _))⟩;exact ⟨Ew (iE xs lo hi) hz,_,0,(r.drop (HT.sIx xs.length 0 lo)).take (HT.sIx xs.length xs.length hi - HT.sIx xs.length 0 lo),El _ rfl⟩
def eM:V->Bool
 | .non=>true
 | .bl _=>true
 | .int _=>true
 | .str _=>true
 | _=>false
def oy:V->V->Bool
 | .non,.non=>true
 | .bl a,.bl b=>a == b
 | .bl a,.int b=>(if a then 1 else 0) == b
 | .int a,.bl b=>a == (if b then 1 else 0)
 | .int a,.int b=>a == b
 | .str a,.str b=>a == b
 | _,_=>false
variable {u v:Value} {y x:V} {A:Around}
theorem sX (ry:RelV y u) (rx:RelV x v) (fy:eM y=true) (fx:eM x=true):SeqAt.EqAt A s u v (oy y x):=by
 cases y with
 | non=>
  cases ry;cases x with
  | non=>cases rx;exact SeqAt.EqAt.same _
  | bl b=>cases rx;exact SeqAt.EqAt.none_bool b
  | int b=>obtain ⟨t,rfl⟩:=rx;exact SeqAt.EqAt.none_int b t
  | str b=>obtain ⟨t,rfl⟩:=rx;exact SeqAt.EqAt.none_str b t
  | _=>exact absurd (show false=true from fx) Ee
 | bl a=>
  cases ry;cases x with
  | non=>cases rx;exact SeqAt.EqAt.bool_none a
  | bl b=>cases rx;exact SeqAt.EqAt.bool_bool a b
  | int b=>obtain ⟨t,rfl⟩:=rx;exact SeqAt.EqAt.bool_int a b t
  | str b=>obtain ⟨t,rfl⟩:=rx;exact SeqAt.EqAt.bool_str a b t
  | _=>exact absurd (show false=true from fx) Ee
 | int a=>
  obtain ⟨t',rfl⟩:=ry;cases x with
  | non=>cases rx;exact SeqAt.EqAt.int_none a t'
  | bl b=>cases rx;exact SeqAt.EqAt.int_bool a t' b
  | int b=>obtain ⟨t,rfl⟩:=rx;exact SeqAt.EqAt.int_int a t' b t
  | str b=>obtain ⟨t,rfl⟩:=rx;exact SeqAt.EqAt.int_str a t' b t
  | _=>exact absurd (show false=true from fx) Ee
 | str a=>
  obtain ⟨t',rfl⟩:=ry;cases x with
  | non=>cases rx;exact SeqAt.EqAt.str_none a t'
  | bl b=>cases rx;exact SeqAt.EqAt.str_bool a t' b
  | int b=>obtain ⟨t,rfl⟩:=rx;exact SeqAt.EqAt.str_int a t' b t
  | str b=>obtain ⟨t,rfl⟩:=rx;exact SeqAt.EqAt.str_str a t' b t
  | _=>exact absurd (show false=true from fx) Ee
 | _=>exact absurd (show false=true from fy) Ee
def mG (x:V) (u:Value):Bool:=match u with
 | .none=>oy .non x
 | .bool b=>oy (.bl b) x
 | .int i _=>oy (.int i) x
 | .str z _=>oy (.str z) x
 | _=>false
theorem oz (r:RelV y u) (f:eM y=true):mG x u=oy y x:=by
 cases y with
 | non=>cases r;rfl
 | bl b=>cases r;rfl
 | int i=>obtain ⟨t,rfl⟩:=r;rfl
 | str z=>obtain ⟨t,rfl⟩:=r;rfl
 | _=>exact absurd (show false=true from f) Ee
theorem gJ:∀ {xs:List V} {us:List Value},Vals xs us->xs.all eM=true->us.any (mG x)=xs.any fun y=>oy y x
 | _,_,.nil,_=>rfl
 | y::xs,u::us,.cons r t,f=>by
  rw [List.all_cons,EA] at f;rw [Ft,Ft,oz r f.1,gJ t f.2]
theorem dQ (rx:RelV x v) (fx:eM x=true):∀ {xs:List V} {us:List Value},Vals xs us->xs.all eM=true->∀ u∈us,SeqAt.EqAt A s u v (mG x u)
 | _,_,.nil,_=>fun u hu=>by cases hu
 | y::xs,u::us,.cons r t,f=>fun u' hu=>by
  rw [List.all_cons,EA] at f;rcases Eo.mp hu with rfl|hu
  ·rw [oz r f.1];exact sX r rx f.1 fx
  ·exact dQ rx fx t f.2 u' hu
def qj (x:V) (xs:List V):Bool:=xs.any fun y=>oy y x
inductive Cv (K:ZF) (neg:Bool) (x:V) (y:V) (H:Hp) (Q:VK):Prop
 | mk (p xs:_):y=.ref p->(SqL K H p xs\/SqT K H p xs)->eM x=true->xs.all eM=true->Q (.bl (if neg then !qj x xs else qj x xs)) H->Cv K neg x y H Q
theorem dv:dO X (compareOp .In) (Cv X.K false):=by
 intro pins s σ H x y v u Q I rx ry h;obtain ⟨p,xs,rfl,hq,fx,fs,q⟩:=h;cases ry;rcases hq with hq|hq
 ·obtain ⟨its,r,pl,hz⟩:=I.list hq;refine SeqAt.in_listAt (mG x) pl.isList (fun w hw=>dQ rx fx r fs w (by simpa using hw)) ⟨.bl _,H,I,rfl,?_⟩;rw [show its.toArray.any (mG x)=its.any (mG x) by simp,gJ r fs];exact q
 ·obtain ⟨its,r,pl,hz⟩:=I.tuple hq;refine SeqAt.in_tupleAt (mG x) pl (fun w hw=>dQ rx fx r fs w (by simpa using hw)) ⟨.bl _,H,I,rfl,?_⟩;rw [show its.toArray.any (mG x)=its.any (mG x) by simp,gJ r fs];exact q
theorem dk:dO X (compareOp .NotIn) (Cv X.K true):=by
 intro pins s σ H x y v u Q I rx ry h;obtain ⟨p,xs,rfl,hq,fx,fs,q⟩:=h;cases ry;rcases hq with hq|hq
 ·obtain ⟨its,r,pl,hz⟩:=I.list hq;refine SeqAt.notIn_listAt (mG x) pl.isList (fun w hw=>dQ rx fx r fs w (by simpa using hw)) ⟨.bl _,H,I,rfl,?_⟩;rw [show its.toArray.any (mG x)=its.any (mG x) by simp,gJ r fs];exact q
 ·obtain ⟨its,r,pl,hz⟩:=I.tuple hq;refine SeqAt.notIn_tupleAt (mG x) pl (fun w hw=>dQ rx fx r fs w (by simpa using hw)) ⟨.bl _,H,I,rfl,?_⟩;rw [show its.toArray.any (mG x)=its.any (mG x) by simp,gJ r fs];exact q
theorem aK:cV X (.builtin "len") (fun xs H Q=>∃ p ys,xs=[.ref p]/\(SqL X.K H p ys\/SqT X.K H p ys)/\Q (.int ys.length) H):=by
 intro pins s σ H xs us Q I r h;obtain ⟨p,ys,rfl,hq,q⟩:=h;obtain ⟨u,rfl,rx⟩:=gb r;cases rx;have hn:=gj;rcases hq with hq|hq
 ·obtain ⟨its,r',pl,hz⟩:=I.list hq;have hlen:=r'.length;exact Calls.call_len_list pl.isList (by simp only [Ea]<;>lia) ⟨.int ys.length,H,I.tok _,⟨s.toks+1,by rw [Ea,hlen]⟩,q⟩
 ·obtain ⟨its,r',pl,hz⟩:=I.tuple hq;have hlen:=r'.length;exact len_tuple pl (by simp only [Ea]<;>lia) ⟨.int ys.length,H,I.tok _,⟨s.toks+1,by rw [Ea,hlen]⟩,q⟩
theorem cr:cV X (.builtin "len") (fun xs H Q=>∃ z,xs=[.str z]/\z.length<=sizeLine/\Q (.int z.length) H):=by
 intro pins s σ H xs us Q I r h;obtain ⟨z,rfl,hz,q⟩:=h;obtain ⟨u,rfl,t,rfl⟩:=gb r;have hn:=gj;exact len_str zo ⟨.int z.length,H,I.tok _,⟨_,rfl⟩,q⟩
theorem cu:cV X (.type "list") (fun xs H Q=>∃ p ys,xs=[.ref p]/\(SqL X.K H p ys\/SqT X.K H p ys)/\∀ l,H l=none->Q (.ref l) (upd H l (.lst ys))):=by
 intro pins s σ H xs us Q I r h;obtain ⟨p,ys,rfl,hq,q⟩:=h;obtain ⟨u,rfl,rx⟩:=gb r;cases rx;have fin:∀ (its:List Value),Vals ys its->ys.length<=sizeLine->∀ (h':Heap) (c':Nat),(∀ b o',s.heap.get? b=some o'->h'.get? b=some o')->
   h'.get? s.heap.objs.size=some { cls:=.type "list",dict:=none,data:=.seq its.toArray c',slots:=#[] }->EP X pins σ Q (.ref s.heap.objs.size) { s with heap:=h' }:=fun its r' hz h' c' kp e=>
  ⟨.ref s.heap.objs.size,_,I.laid (t':=s.toks) kp (Ec _) (show ObjOk X.prog X.w _ h' _ (.lst ys) from ⟨hz,its,c',r',e⟩),rfl,q _ (I.hok.fresh (Ec _))⟩
 rcases hq with hq|hq
 ·obtain ⟨its,r',pl,hz⟩:=I.list hq;have hlen:=r'.length;obtain ⟨o,ho,hc,n,hd⟩:=pl.isList;exact call_list_seq p (.inl rfl) ho hc hd (fun h' c' kp e=>fin its r' hz h' c' kp e) (by simp only [Ea]<;>lia)
 ·obtain ⟨its,r',pl,hz⟩:=I.tuple hq;have hlen:=r'.length;obtain ⟨o,ho,hc,n,hd⟩:=pl;exact call_list_seq p (.inr rfl) ho hc hd (fun h' c' kp e=>fin its r' hz h' c' kp e) (by simp only [Ea]<;>lia)
theorem aX:cV X (.type "tuple") (fun xs H Q=>∃ p ys,xs=[.ref p]/\((SqL X.K H p ys/\∀ l,H l=none->Q (.ref l) (upd H l (.tup ys)))\/(SqT X.K H p ys/\Q (.ref p) H))):=by
 intro pins s σ H xs us Q I r h;obtain ⟨p,ys,rfl,h⟩:=h;obtain ⟨u,rfl,rx⟩:=gb r;cases rx;rcases h with ⟨hq,q⟩|⟨hq,q⟩
 ·obtain ⟨its,r',pl,hz⟩:=I.list hq;have hlen:=r'.length;refine call_tuple_list pl.isList (fun h' kp=>?_) (by simp only [Ea]<;>lia);have I1:Inv X pins σ H { s with heap:=h' }:=I.kept (t':=s.toks) kp;have I2:Inv X pins σ (upd H h'.objs.size (.tup ys)) { s with heap:=h'.push { cls:=.type "tuple",data:=.seq its.toArray } }:=
   I1.laid (t':=s.toks) (fun b o e=>D6 _ e) (Ec _) (show ObjOk X.prog X.w _ _ _ (.tup ys) from ⟨hz,its,r',TupP.new _ _⟩)
  exact ⟨.ref h'.objs.size,_,I2,rfl,q _ (I1.hok.fresh (Ec _))⟩
 ·obtain ⟨its,r',pl,hz⟩:=I.tuple hq;exact call_tuple_same pl ⟨.ref p,H,I,rfl,q⟩
def Cy (K:ZF) (T:String) (x:V) (H:Hp):Prop:=match x with
 | .str _=>T="str"
 | .int _=>T="int"
 | .ref p=>(T="list"/\∃ xs,SqL K H p xs)\/(T="tuple"/\∃ o,K.lookup p=some o/\o.cls=.type "tuple"/\o.dict=none) ∨
   (T="dict"/\((∃ kvs,H p=some (.dK kvs))\/∃ kvs,H p=some (.dT kvs)))\/(T="set"/\∃ S n,H p=some (.set S n))
 | _=>False
theorem sY {T:String} (I:Inv X pins σ H s) (r:RelV x v) (ty:Cy X.K T x H) :
  s.TypeIs v T/\∀ a,v=.ref a->∃ ob,s.heap.get? a=some ob/\ob.dict=none:=by
 cases x with
 | str z=>
  obtain ⟨t,rfl⟩:=r;cases (show T="str" from ty);exact ⟨typeIs_str s z t,fun _ e=>nomatch e⟩
 | int i=>
  obtain ⟨t,rfl⟩:=r;cases (show T="int" from ty);exact ⟨typeIs_int s i t,fun _ e=>nomatch e⟩
 | ref p=>
  cases r;rcases ty with ⟨rfl,xs,hq⟩|⟨rfl,o,hk,hc,hd⟩|⟨rfl,hk⟩|⟨rfl,S,n,hk⟩
  ·obtain ⟨its,_,pl,_⟩:=I.list hq;refine ⟨pl.isList.typeIs,fun a e=>?_⟩;cases e;obtain ⟨o,n,e,c,hd,_⟩:=pl;exact ⟨o,e,hd⟩
  ·refine ⟨⟨o,I.kIn p o hk,hc⟩,fun a e=>?_⟩;cases e;exact ⟨o,I.kIn _ o hk,hd⟩
  ·have z:∃ o,s.heap.get? p=some o/\o.ExactDict:=by
    rcases hk with ⟨kvs,hk⟩|⟨kvs,hk⟩
    ·obtain ⟨_,_,_,_,o,_,_,e,ex,_⟩:=I.hok p _ hk;exact ⟨o,e,ex⟩
    ·obtain ⟨_,_,_,_,o,_,_,e,ex,_⟩:=I.hok p _ hk;exact ⟨o,e,ex⟩
   obtain ⟨o,e,ex⟩:=z;refine ⟨⟨o,e,ex.1⟩,fun a e2=>?_⟩;cases e2;exact ⟨o,e,ex.2.1⟩
  ·obtain ⟨o,_,_,_,e,ex,_⟩:=I.hok p _ hk;refine ⟨⟨o,e,ex.1⟩,fun a e2=>?_⟩;cases e2;exact ⟨o,e,ex.2.1⟩
 | _=>exact False.elim ty
def CB (K:ZF) (T:String) (r:V->List V->Hp->VK->Prop) (to:TE):TE:=fun σ H Q=>to σ H fun x H1=>Cy K T x H1/\r x [] H1 Q
def Ds (K:ZF) (T:String) (r:V->List V->Hp->VK->Prop) (to:TE) (t:TA):TE:=fun σ H Q=>to σ H fun x H1=>Cy K T x H1/\t σ H1 fun xs H2=>r x xs H2 Q
variable {o e:Expr} {es:List Expr} {to:TE} {t:TA} {name:Str} {apos cpos:Pos} {T id:String} {r:V->List V->Hp->VK->Prop}
theorem yL (pa:PlainAttrs T) (slot:Slot T name id) (hty:typeOf (.builtin id)=pure (.type "method_descriptor")) (hm:Ai X id r) (ho:PE X o to)
  (hbase:attributeBase o name X.env (eval o X.env)=eval o X.env:=by rfl) (hline:(apos.endLine == cpos.line)=true:=by rfl):PE X (.Call (.Attribute o name apos) [] [] cpos) (CB X.K T r to):=by
 refine ⟨?_⟩;intro pins s σ H Q I h;refine wpAny_Call_method0_late hbase hline (bG (ho pins s σ H _ I h) fun v s1 ⟨x,H1,I1,r1,ty,q1⟩=>?_);obtain ⟨h1,h2⟩:=sY I1 r1 ty;exact ⟨T,id,pa,slot,hty,h1,h2,Fr rfl (PySem.evalArgs_none (hm pins s1 σ H1 x [] v [] Q I1 r1 .nil q1))⟩
theorem dR (pa:PlainAttrs T) (slot:Slot T name id) (hty:typeOf (.builtin id)=pure (.type "method_descriptor")) (hm:Ai X id r) (ho:PE X o to) (ha:PA X (e::es) t)
  (hbase:attributeBase o name X.env (eval o X.env)=eval o X.env:=by rfl)
  (hfew:((backTo cpos (starEach (e::es) X.env)).all (fun x=>!x.1) && (backToKw cpos (keywordEach [] X.env)).all (fun x=>x.1.isSome)
   && decide ((e::es).length+([]:List Keyword).length+(if ([]:List Keyword).isEmpty then 0 else 1) < 30))=true:=by rfl)
  (hline:(apos.endLine == cpos.line)=true:=by rfl) (hs:starEach (e::es) X.env=(false,eval e X.env)::starEach es X.env:=by rfl) (hplain:(backTo cpos (starEach es X.env)).any (·.1)=false:=by rfl) :
  PE X (.Call (.Attribute o name apos) (e::es) [] cpos) (Ds X.K T r to t):=by
 refine ⟨?_⟩;intro pins s σ H Q I h;refine wpAny_Call_method_late hbase hfew hline rfl (bG (ho pins s σ H _ I h) fun v s1 ⟨x,H1,I1,r1,ty,q1⟩=>?_);obtain ⟨h1,h2⟩:=sY I1 r1 ty;refine ⟨T,id,pa,slot,hty,h1,h2,?_⟩;have hA:=ha cpos pins s1 σ H1 _ I1 q1;rw [hs] at hA ⊢;refine Fr (by show (false || (backTo cpos (starEach es X.env)).any (·.1))=false;rw [hplain]<;>rfl) (Calls.evalArgs_plain ?_);exact bG hA fun us s2 ⟨vs,H2,I2,r2,q2⟩=>hm pins s2 σ H2 x vs v us Q I2 r1 r2 q2
end
def Du (X:Cx) (id:String) (r:V->List V->Hp->VK->Prop):Prop:=
 ∀ (pins:List (Addr×Obj)) (s:Shared) (σ:St) (H:Hp) (x:V) (xs:List V) (v:Value) (us:List Value) (Q:VK),Inv X pins σ H s->RelV x v->Vals xs us->r x xs H Q->
  wpAny (model X.prog X.w) X.A (call (.builtin id) (v::us)) (EP X pins σ Q) X.xe s
theorem Vals.one:∀ {x:V} {us:List Value},Vals [x] us->∃ u,us=[u]/\RelV x u
 | _,_,.cons r .nil=>⟨_,rfl,r⟩
theorem Vals.zero:∀ {us:List Value},Vals [] us->us=[]
 | _,.nil=>rfl
variable {us:List Value} {xs:List V}
theorem Vals.reverse (h:Vals xs us):Vals xs.reverse us.reverse:=by
 induction h with
 | nil=>exact .nil
 | cons r t ih=>rw [List.reverse_cons,List.reverse_cons];exact Vals.append ih (.cons r .nil)
theorem Vals.rep (h:Vals xs us):∀ k:Nat,Vals (List.replicate k xs).flatten (List.replicate k us).flatten
 | 0=>.nil
 | k+1=>by
  rw [List.replicate_succ,List.replicate_succ,EI,EI];exact Vals.append h (Vals.rep h k)
theorem hV (its:List Value):∀ (k:Nat) (acc:List Value),
  List.foldl (fun x1 x2=>x1++x2) acc.toArray (List.replicate k its.toArray)=(acc++(List.replicate k its).flatten).toArray
 | 0,acc=>by simp
 | k+1,acc=>by
  have e:acc.toArray++its.toArray=(acc++its).toArray:=by simp
  have e2:(acc++its)++(List.replicate k its).flatten=acc++(List.replicate (k+1) its).flatten:=by
   rw [List.replicate_succ,EI,EH]
  rw [<-e2,<-hV its k (acc++its),<-e,List.replicate_succ,List.foldl_cons]
section
variable {X:Cx} {pins:List (Addr×Obj)} {σ:St} {H:Hp} {s:Shared} {l b:Addr} {xs ys zs:List V}
theorem Inv.lset {its its':List Value} {n:Nat} {f:Array Value->Array Value} {t':Nat} (I:Inv X pins σ H s) (hH:H l=some (.lst xs))
  (e:s.heap.get? l=some { cls:=.type "list",data:=.seq its.toArray n }) (hf:f its.toArray=its'.toArray) (hv:Vals ys its') (hz:ys.length<=sizeLine) :
  Inv X pins σ (upd H l (.lst ys)) { s with heap:=s.heap.update l (Obj.mapSeq f),toks:=t' }:=by
 have q:=PySem.IsL.update e f;rw [hf] at q;refine I.write (x:=l) (e:=l) (by rw [hH];exact trivial) (.inl rfl) (fun b' u hb hu=>(Heap.get?_update_other s.heap (Obj.mapSeq f) (Ne.symm hb)).trans hu) ⟨_,q⟩ ?_;exact ⟨hz,its',_,hv,q⟩
theorem Inv.lnew {its:List Value} {t':Nat} (I:Inv X pins σ H s) (hv:Vals ys its) (hz:ys.length<=sizeLine) :
  Inv X pins σ (upd H s.heap.objs.size (.lst ys)) { s with heap:=s.heap.push { cls:=.type "list",data:=.seq its.toArray },toks:=t' }:=
 I.laid (fun _ _ q=>D6 _ q) (Ec _) ⟨hz,its,0,hv,El _ rfl⟩
theorem Inv.fresh (I:Inv X pins σ H s):H s.heap.objs.size=none:=I.hok.fresh (Ec _)
theorem Inv.lstM (I:Inv X pins σ H s) (hH:H l=some (.lst xs)):xs.length<=sizeLine/\∃ (its:List Value) (n:Nat),Vals xs its/\xs.length=its.length/\s.heap.get? l=some { cls:=.type "list",data:=.seq its.toArray n }:=by
 obtain ⟨z,its,n,r,e⟩:=I.hok l _ hH;exact ⟨z,its,n,r,r.length,e⟩
theorem sZ (h:n<=sizeLine):Builtin.List.listTooLong n=false:=by
 unfold Builtin.List.listTooLong;exact decide_eq_false zo
end
section
variable {X:Cx}
inductive qk (x:V) (vs:List V) (H:Hp) (Q:VK):Prop
 | mk (l xs y:_):x=.ref l->vs=[y]->H l=some (.lst xs)->xs.length < sizeLine->Q .non (upd H l (.lst (xs++[y])))->qk x vs H Q
theorem bQ:Du X "list.append" qk:=by
 intro pins s σ H x vs v us Q I rx rv h;obtain ⟨l,xs,y,rfl,rfl,hH,hz,q⟩:=h;cases rx;obtain ⟨u,rfl,ru⟩:=rv.one;obtain ⟨z,its,n,r,hl,e⟩:=I.lstM hH;refine call_meets F.slot_list_append ⟨_,e,rfl⟩ F.entry_list_append (F.args_list_append_2 _ _) (PySem.list_append l its.toArray n u (by rw [Ea];lia)) ⟨e,?_⟩;refine ⟨.non,_,I.lset (its':=its++[u]) hH e (by simp) (r.append (.cons ru .nil)) ?_,rfl,q⟩;rw [D9,List.length_singleton];lia
inductive mH (x:V) (vs:List V) (H:Hp) (Q:VK):Prop
 | mk (l xs:_):x=.ref l->vs=[]->H l=some (.lst xs)->Q .non (upd H l (.lst xs.reverse))->mH x vs H Q
theorem oA:Du X "list.reverse" mH:=by
 intro pins s σ H x vs v us Q I rx rv h;obtain ⟨l,xs,rfl,rfl,hH,q⟩:=h;cases rx;have hus:=rv.zero;subst hus;obtain ⟨z,its,n,r,hl,e⟩:=I.lstM hH;refine call_meets F.slot_list_reverse ⟨_,e,rfl⟩ F.entry_list_reverse (F.args_list_reverse_1 _) (AutoSeq1.list_reverse_list_0 l its.toArray n (by rw [Ea];lia)) ⟨e,?_⟩;refine ⟨.non,_,I.lset (its':=its.reverse) hH e (by simp) r.reverse ?_,rfl,q⟩;rw [List.length_reverse];lia
inductive AR (x:V) (y:V) (H:Hp) (Q:VK):Prop
 | mk (l b xs zs:_):x=.ref l->y=.ref b->H l=some (.lst xs)->H b=some (.lst zs)->xs.length+zs.length<=sizeLine->(∀ p,H p=none->Q (.ref p) (upd H p (.lst (xs++zs))))->AR x y H Q
theorem gm:dO X (binaryOp .Add) AR:=by
 intro pins s σ H x y v u Q I rx ry h;obtain ⟨l,b,xs,zs,rfl,rfl,hH,hB,hz,q⟩:=h;cases rx;cases ry;obtain ⟨z,its,n,r,hl,e⟩:=I.lstM hH;obtain ⟨z2,its2,n2,r2,hl2,e2⟩:=I.lstM hB;refine PySem.P.add_list e e2 ?_ (by rw [Ea,Ea];lia);have ea:its.toArray++its2.toArray=(its++its2).toArray:=by simp
 rw [ea];exact ⟨.ref _,_,I.lnew (t':=s.toks) (r.append r2) (by rw [D9];lia),rfl,q _ I.fresh⟩
inductive wf (x:V) (y:V) (H:Hp) (Q:VK):Prop
 | mk (l k xs:_):x=.ref l->y=.int k->H l=some (.lst xs)->-(2 ^ 63)<=k->k < 2 ^ 63->xs.length*k.toNat<=sizeLine->(∀ p,H p=none->Q (.ref p) (upd H p (.lst (List.replicate k.toNat xs).flatten)))->wf x y H Q
theorem wg {α:Type} (xs:List α) (k:Nat):(List.replicate k xs).flatten.length=k*xs.length:=by
 induction k with
 | zero=>simp
 | succ k ih=>rw [List.replicate_succ,EI,D9,ih,Nat.succ_mul,Nat.add_comm]
theorem eB:dO X (binaryOp .Mult) wf:=by
 intro pins s σ H x y v u Q I rx ry h;obtain ⟨l,k,xs,rfl,rfl,hH,h1,h2,hz,q⟩:=h;cases rx;obtain ⟨t,rfl⟩:=ry;obtain ⟨z,its,n,r,hl,e⟩:=I.lstM hH;have hlen:its.toArray.size*k.toNat<=sizeLine:=by rw [Ea,<-hl];exact hz
 have hcap:¬ its.toArray.size*k.toNat > (2 ^ 63 - 1) / 8:=by
  have:(sizeLine:Nat)<=(2 ^ 63 - 1) / 8:=by decide
  lia
 have hfit:¬ (!Builtin.List.listFitsIndex k)=true:=by
  rw [fitsIndex_both h1 h2];exact Ee
 have hlong:¬ Builtin.List.listTooLong (its.toArray.size*k.toNat)=true:=by
  rw [sZ hlen];exact Ee
 have hnew:List.foldl (fun x1 x2=>x1++x2) #[] (List.replicate (if its.toArray.isEmpty=true then 0 else k.toNat) its.toArray)=(List.replicate k.toNat its).flatten.toArray:=by
  have f0:∀ m:Nat,List.foldl (fun x1 x2=>x1++x2) #[] (List.replicate m its.toArray)=(List.replicate m its).flatten.toArray:=fun m=>by
   have:=hV its m [];rw [Fu] at this;exact this
  rw [f0];cases its with
  | nil=>simp
  | cons a r'=>rw [if_neg (by simp)]
 refine wpAny_binaryOp_repeat_ref (T:="list") (U:="int") zd ⟨_,e,rfl⟩ (fun s'=>typeIs_int s' k t) noFill_list_mul F.fills_int_mul F.slot_int_rmul repeat_list F.slot_int_index.lookup
  (call_meets F.slot_int_rmul (typeIs_int s k t) F.entry_int_rmul (F.args_int_rmul_2 _ _) (int___rmul___int_list k t l its.toArray n)
   ⟨e,rfl,⟨_,e,rfl⟩,call_meets F.slot_list_mul ⟨_,e,rfl⟩ F.entry_list_mul (F.args_list_mul_2 _ _) (AutoListH.list___mul___list_int_3 l its.toArray n k t hfit hcap hlong) ⟨e,?_⟩⟩)
 rw [hnew];exact ⟨.ref _,_,I.lnew (t':=s.toks) (r.rep k.toNat) (by rw [wg,Nat.mul_comm];exact hz),rfl,q _ I.fresh⟩
end
end L2
namespace Att
open PySem PySem.W PySem.Calls PyProof.Rows
variable {h:Heap} {P:Params}
theorem ints_of_wellAll:∀ (ns:List Int) (vs:List Value),WellAll P h vs (ns.map WData.int)->IntsAre vs ns:=by
 intro ns;induction ns with
 | nil=>
  intro vs w;rw [List.map_nil] at w;cases w;exact .nil
 | cons n ns ih=>
  intro vs w;rw [Er] at w;cases w with
  | cons a b=>
   cases a;exact .cons _ _ (ih _ b)
variable {n:Nat}
theorem script_of {l:OpenLaw} (hn:l.most=some n) {P:Params} {h:Heap} {args:List WData} {vals:List Value}
  (hpre:l.row.toRowW.claim.pre args=true) (hwl:WellAll P h vals args) :
  ∃ a vs ns,vals=[Value.ref a]/\args=[WData.list (ns.map WData.int)]/\h.get? a=some { cls:=.type "list",data:=.seq vs.toArray }/\IntsAre vs ns/\ns.length<=n:=by
 have hsh:WShape.hasAll [] args [.list .int]=true:=(pre_splitW hpre).1;have hc:l.pre.holds [] { args:=args }=true:=(pre_splitW hpre).2;obtain ⟨d,r,rfl,h1,h2⟩:=hasAllW_cons hsh;obtain rfl:=hasAllW_nil h2;obtain ⟨xs,rfl,h3⟩:=hasW_list h1;obtain ⟨ns,rfl⟩:=items_int h3;have hlen:ns.length<=n:=by
  unfold OpenLaw.pre at hc;have h4:(WTm.not (.lt (.lit (.int (n:Int))) (.len (.arg 0)))).holds [] { args:=[.list (ns.map .int)] }=true:=by
   have h4:=(holds_andW hc).1;rw [hn] at h4;exact h4
  have h5:=condW_of h4 (w_not (w_lt w_lit (w_len_list (w_arg rfl))));rw [D8] at h5;refine Nat.le_of_not_lt fun q=>?_;have q':(n:Int) < ((ns.length:Nat):Int):=by lia
  first
   | (rw [decide_eq_true q'] at h5;exact absurd h5 zd)
   | (simp at h5;lia)
 cases hwl with
 | cons w1 w2=>
  cases w2;cases w1 with
  | list ho hall=>exact ⟨_,_,ns,rfl,rfl,ho,ints_of_wellAll ns _ hall,hlen⟩
theorem post_true (l:OpenLaw) (args:List WData):l.row.toRowW.claim.post args (.bool true) args=true:=
 postW_of (r:=l.row.toRowW) (X:=(true == true))
  (show WShape.has [] (.bool true) .bool=true by first|rfl|decide|simp [WShape.has,WShape.arms,WShape.armsAll])
  (show (WTm.eq .res (.lit (.bool true))).value [] { args:=args,res:=some (.bool true),after:=args }=some (.bool (true == true)) from w_eq_bool (w_res rfl) w_lit) rfl
theorem attach_call {l:OpenLaw} {n:Nat} {q:Program} {loose:List Str} {XP:(Str->Option Value)->Heap->Prop} {YP:World->Heap->Prop} {d:DefRec}
  (hn:l.most=some n) (hdf:d.params.defaults=[])
  (call:∀ (w:World) (s₀ s₁:Shared) (mg mb:Str->Option Value) (fa:Addr) (o:Obj) (pm cd doc:Value) (a:Addr) (vs:List Value) (ns:List Int),
   Ground q loose [] XP w s₀ mg mb s₁.heap->YP w s₁.heap->
   s₁.heap.get? fa=some o->o.data=.func (docDef d.name d.params d.body d.scope pm cd doc)->s₁.heap.CodeRec cd d.name->mg d.name=some (.ref fa)->
   s₁.heap.get? a=some { cls:=.type "list",data:=.seq vs.toArray }->IntsAre vs ns->ns.length<=n->s₁.gens=#[]->
   codeAny (model l.prog w) callerA (.call (.ref fa) ⟨[.ref a],[]⟩) (fun r s'=>r=.ok (.ret (.bool true))/\OldK s₁.heap s'.heap/\s'.os=s₁.os/\AllBare s'.gens) s₁) :
  WalkO q loose XP YP l.row.toRowW d [] (fun f vs=>PySem.call f vs):=by
 intro w s₀ s₁ mg mb G Y fa o pm cd doc dV kV ho hd hcd hD hmg hg args vals as hpre hlay hrd hwl hlo;obtain rfl:dV=.none:=Dflts.none hD hdf;obtain rfl:kV=.none:=Dflts.noKw hD;obtain ⟨a,vs,ns,rfl,rfl,hobj,hints,hlen⟩:=script_of hn hpre hwl;refine enter_call (codeAny_mono (call w s₀ s₁ mg mb fa o pm cd doc a vs ns G Y ho (fd_plain hd) hcd hmg hobj hints hlen hg) fun r s' hq=>?_);obtain ⟨rfl,h2,h3,h4⟩:=hq;exact ⟨.inl ⟨.bool true,.bool true,[],rfl,fun _=>rfl,.bool true,post_true l _,fun _=>⟨List.Pairwise.nil,fun _ hm=>(nomatch hm)⟩⟩,h2,h3,h4⟩
section
variable {prog:Program} {w:World} {A:Around} {E:Value->Shared->Prop} {s:Shared} {K:Frag}
end
end Att
namespace L2
open PySem PySem.Spec PyProof.Rows
theorem j9:∀ {vs:List Value} {ns:List Int},IntsAre vs ns->Vals (ns.map V.int) vs
 | _,_,.nil=>.nil
 | _,_,.cons n t h=>.cons ⟨t,rfl⟩ (j9 h)
def wj (H:Hp):Prop:=∀ b,H b=none\/∃ o xs,H b=some (.frz o (.lst xs))
theorem tj {P:Program} {w:World} {K:ZF} {mg mb:Str->Option Value} {CX:qe} {k:Nat} {fa a:Addr} {fd:FuncData} {x:Str} {sp:Sp} {s₁:Shared} {vs:List Value} {ns:List Int}
  (KX:K.In s₁.heap) (hns:s₁.heap.Ns mainGlobals mg) (hb:s₁.heap.Ns builtinsNs mb) (hbb:∀ x:Str,x≠"__name__"->mb x=bootBuiltins x) (hlim:s₁.heap.NoLimit) (hg:s₁.gens=#[])
  (ha:s₁.heap.get? a=some { cls:=.type "list",data:=.seq vs.toArray }) (hi:IntsAre vs ns) (hl:ns.length<=sizeLine) (hr:Room k callerA)
  (F:∀ base:Heap,K.In base->base.Ns mainGlobals mg->FnOk P w K mg base CX k fa fd [x] sp) (hbind:∀ (s:Shared) (u:Value),BindsTo s fd ⟨[u],[]⟩ [(x,u)])
  (hsp:∀ H:Hp,wj H->SqL K H a (ns.map V.int)->sp [.ref a] H (fun v _=>v=.bl true) fun _ _ _=>False)
  (hCX:∀ H e s',CX [] H s₁ (fun _ _ _=>False) e s'->False) :
  codeAny (model P w) callerA (.call (.ref fa) ⟨[.ref a],[]⟩) (fun r s'=>r=.ok (.ret (.bool true))/\OldK s₁.heap s'.heap/\s'.os=s₁.os/\AllBare s'.gens) s₁:=by
 have rv:=j9 hi;have lenV:=hi.length;have core:∀ H:Hp,wj H->SqL K H a (ns.map V.int)->HOk P w H s₁.heap->(∀ b,H b≠none->b=a)->(H a≠none->K.lookup a=none)->
   codeAny (model P w) callerA (.call (.ref fa) ⟨[.ref a],[]⟩) (fun r s'=>r=.ok (.ret (.bool true))/\OldK s₁.heap s'.heap/\s'.os=s₁.os/\AllBare s'.gens) s₁:=by
  intro H hO hS hok hA hK;have base_of:∀ {b:Addr} {o:Obj},s₁.heap.get? b=some o->H b=none->(ky s₁.heap H).get? b=some o:=fun e n=>ss e n;have noA:∀ {b:Addr} {o:Obj} {es:Array DictEntry} {ep:Nat},s₁.heap.get? b=some o->o.data=.dict es ep->H b=none:=fun {b o es ep} e d=>by
   cases q:H b with
   | none=>rfl
   | some u=>
    have e':b=a:=hA b (by rw [q];simp);subst e';rw [ha] at e;cases e;have d':Data.seq vs.toArray _=Data.dict es ep:=d;cases d'
  have nsK:∀ {b:Addr} {m:Str->Option Value},s₁.heap.Ns b m->(ky s₁.heap H).Ns b m:=fun {b m} ⟨o,es,ep,e,d,r⟩=>⟨o,es,ep,base_of e (noA e d),d,r⟩;have hKb:K.In (ky s₁.heap H):=fun b o e=>base_of (KX b o e) (by
   cases q:H b with
   | none=>rfl
   | some u=>
    have e':b=a:=hA b (by rw [q];simp);subst e';rw [hK (by rw [q];simp)] at e;cases e)
  have hM:Mod K mg (ky s₁.heap H):=⟨hKb,nsK hns,⟨mb,nsK hb,hbb⟩,let ⟨mc,h1,h2⟩:=hlim;⟨mc,nsK h1,h2⟩⟩;have e0:Env0 P w K mg (ky s₁.heap H) callerA [] s₁ H:=⟨rfl,hM,fun b o e=>vQ e,Nat.le_of_eq (qX _ _),trivial,fun b hb=>absurd (show b∈([]:List Addr) from hb) (by simp),hok,.of_eq hg⟩;refine codeAny_mono ((F _ hKb (nsK hns)).run callerA [] s₁ H ⟨[.ref a],[]⟩ [.ref a] [.ref a] _ _ hr e0 (hbind s₁ (.ref a)) (.cons rfl .nil) (hsp H hO hS)) fun r s' h=>?_;cases r with
  | error e=>exact (hCX H e s' h).elim
  | ok fl=>
   cases fl with
   | next=>exact False.elim h
   | brk=>exact False.elim h
   | cont=>exact False.elim h
   | ret u=>
    obtain ⟨v,H',os,bare,un,hok',r',q⟩:=h;have q':v=.bl true:=q;subst q';obtain rfl:u=Value.bool true:=r';refine ⟨rfl,OldK.of_keep fun b o e=>?_,os,bare⟩;cases q:H b with
    | none=>exact un.keep b o e q (by intro z;exact absurd (show b∈([]:List Addr) from z) (by simp)) (by simp)
    | some u=>
     rcases hO b with z|⟨ob,xs,z⟩
     ·rw [q] at z;cases z
     ·have z2:=un.frzs b ob _ z;obtain ⟨e1,_⟩:=hok b _ z;obtain ⟨e2,_⟩:=hok' b _ z2;rw [e] at e1;cases e1;exact e2
 cases hk:K.lookup a with
 | some o=>
  have e:=KX a o hk;rw [ha] at e;cases e;refine core (fun _=>none) (fun _=>.inl rfl) (.inr ⟨_,vs.toArray,_,hk,rfl,rfl,rfl,by rw [Ea,lenV];exact hl,by simpa using rv⟩) (fun b u z=>by have z':(none:Option HO)=some u:=z;cases z') (fun b z=>absurd rfl z) fun z=>absurd rfl z
 | none=>
  refine core (fun b=>if b=a then some (.frz { cls:=.type "list",data:=.seq vs.toArray } (.lst (ns.map V.int))) else none) (fun b=>?_) (.inl (.inr ⟨{ cls:=.type "list",data:=.seq vs.toArray },if_pos rfl⟩)) (fun b u z=>?_) (fun b z=>?_) fun _=>hk
  ·by_cases hb:b=a
   ·exact .inr ⟨_,_,if_pos hb⟩
   ·exact .inl (if_neg hb)
  ·by_cases hb:b=a
   ·have z':=(if_pos hb).symm.trans z;cases z';subst hb;exact ⟨ha,by rw [D8];exact hl,vs,_,rv,ha⟩
   ·have z':=(if_neg hb).symm.trans z;cases z'
  ·by_cases hb:b=a
   ·exact hb
   ·exact absurd (if_neg hb) z
theorem wk {l:PySem.W.OpenLaw} {n k:Nat} {q:Program} {loose:List Str} {XP:(Str->Option Value)->Heap->Prop} {YP:World->Heap->Prop} {d:DefRec} {K:Params->ZF} {CX:World->qe} {sp:World->Sp} {x:Str}
  (hn:l.most=some n) (hn2:n<=sizeLine) (hdf:d.params.defaults=[]) (hr:Room k callerA)
  (hY:∀ (w:World) (h:Heap),YP w h->(K w.params).In h)
  (F:∀ (w:World) (mg:Str->Option Value) (fa:Addr) (h:Heap),(K w.params).In h->h.Ns mainGlobals mg->mg d.name=some (.ref fa)->
   ∃ fd:FuncData,(∀ (s:Shared) (u:Value),BindsTo s fd ⟨[u],[]⟩ [(x,u)]) /\
    ∀ base:Heap,(K w.params).In base->base.Ns mainGlobals mg->FnOk l.prog w (K w.params) mg base (CX w) k fa fd [x] (sp w))
  (hsp:∀ (w:World) (H:Hp) (a:Addr) (ns:List Int),ns.length<=n->wj H->SqL (K w.params) H a (ns.map V.int)->sp w [.ref a] H (fun v _=>v=.bl true) fun _ _ _=>False)
  (hCX:∀ (w:World) (H:Hp) (s:Shared) (e:Value) (s':Shared),CX w [] H s (fun _ _ _=>False) e s'->False) :
  PySem.W.WalkO q loose XP YP l.row.toRowW d [] (fun f vs=>PySem.call f vs):=by
 refine Att.attach_call hn hdf fun w s₀ s₁ mg mb fa o pm cd doc a vs ns G Y ho hd hcd hmg hobj hints hlen hg=>?_;have KX:=hY w _ Y;obtain ⟨fd,hb,hF⟩:=F w mg fa _ KX G.T.g hmg;exact tj KX G.T.g G.T.b G.T.builtins G.T.nolimit hg hobj hints (Ew hlen hn2) hr hF hb (fun H hO hS=>hsp w H a ns hlen hO hS) fun H e s'=>hCX w H s₁ e s'
theorem tq {l:PySem.W.OpenLaw} {n k:Nat} {q:Program} {loose:List Str} {XP:(Str->Option Value)->Heap->Prop} {YP:World->Heap->Prop} {d:DefRec} {K:Params->ZF} {CX:qe} {sp:ZF->Sp} {x:Str}
  (hn:l.most=some n) (hn2:n<=sizeLine) (hdf:d.params.defaults=[]) (hr:Room k callerA)
  (hY:∀ (w:World) (h:Heap),YP w h->(K w.params).In h)
  (F:∀ (w:World) (mg:Str->Option Value) (fa:Addr) (h:Heap),(K w.params).In h->h.Ns mainGlobals mg->mg d.name=some (.ref fa)->
   ∃ fd:FuncData,(∀ (s:Shared) (u:Value),BindsTo s fd ⟨[u],[]⟩ [(x,u)]) /\
    ∀ base:Heap,(K w.params).In base->base.Ns mainGlobals mg->FnOk l.prog w (K w.params) mg base CX k fa fd [x] (sp (K w.params)))
  (hsp:∀ (K:ZF) (H:Hp) (a:Addr) (ns:List Int),ns.length<=n->wj H->SqL K H a (ns.map V.int)->sp K [.ref a] H (fun v _=>v=.bl true) fun _ _ _=>False)
  (hCX:∀ (H:Hp) (s:Shared) (e:Value) (s':Shared),CX [] H s (fun _ _ _=>False) e s'->False) :
  PySem.W.WalkO q loose XP YP l.row.toRowW d [] (fun f vs=>PySem.call f vs):=
 wk (K:=K) (CX:=fun _=>CX) (sp:=fun w=>sp (K w.params)) hn hn2 hdf hr hY F (fun w H a ns h1 h2 h3=>hsp (K w.params) H a ns h1 h2 h3) fun _ H s e s'=>hCX H s e s'
end L2
namespace L2
open PySem PySem.Spec PyProof.Rows
def bo (s:Stmt) (j:Nat):Stmt:=match s with
 | .ClassDef _ _ _ body _ _ _ _ _ _ _=>body.getD j (.Pass ⟨0,0,0,0⟩)
 | _=>.Pass ⟨0,0,0,0⟩
def cv (s:Stmt):Arguments:=match s with
 | .FunctionDef _ a _ _ _ _ _ _ _ _=>a
 | _=>{ posonlyargs:=[],args:=[],vararg:=none,kwonlyargs:=[],kw_defaults:=[],kwarg:=none,defaults:=[] }
def bP (s:Stmt):List Stmt:=match s with
 | .FunctionDef _ _ b _ _ _ _ _ _ _=>b
 | _=>[]
def ai (s:Stmt):Scope:=match s with
 | .FunctionDef _ _ _ _ _ _ sc _ _ _=>sc
 | _=>{ kind:=.function,names:=[],isGenerator:=false,isCoroutine:=false }
abbrev bM:qe:=fun _ _ _ _ _ _=>False
abbrev E0:XK:=fun _ _ _=>False
variable {X:Cx}
theorem cm:dC bM X E0:=fun _ _ _ _ _ _ _ h=>h.elim
structure Fun (K:ZF) (x qual:Str) (st:Stmt) (f:Addr) (fd:FuncData):Prop where
 ex:∃ (oc:Value) (od:Option Addr) (kV doc pm:Value) (an:Option Addr) (cdv ct:Value) (osl:Array (Option Value)),
  fd=PySem.W.fnOf x qual (cv st) (bP st) (ai st) .none kV doc pm an cdv ct/\K.lookup f=some ⟨oc,od,.func fd,osl⟩/\PySem.W.codeIn K cdv qual=true
 kp:PySem.W.keepIn K (.ref f)=true
section
variable {P:Program} {w:World} {K:ZF} {mg:Str->Option Value} {base:Heap}
variable {fd:FuncData} {f:Addr} {st:Stmt} {x qual:Str}
theorem Fun.ok {N ps:List Str} {k:Nat} {sp:Sp} (F:Fun K x qual st f fd) (S:ak N ps (ai st)) (len:∀ vs H Q E,sp vs H Q E->vs.length=ps.length)
  (hbody:∀ (cdv:Value) (A:Around) (outer:List Env) (s:Shared) (H:Hp) (vs:List V) (Q:VK) (E:XK),Room k (A.deeper (envOfC qual (ai st) s.heap.objs.size f cdv))->sp vs H Q E->
   ∃ t,PSs (jc bM P w K mg base N qual (ai st) f cdv A outer s H E).nox (bP st) t/\t { nx:=fun _ H'=>Q .non H',rt:=Q } (start N vs) H):FnOk P w K mg base bM (k+1) f fd ps sp:=by
 obtain ⟨oc,od,kV,doc,pm,an,cdv,ct,osl,rfl,lk,hcd⟩:=F.ex;refine qh lk hcd S len fun A outer s H vs Q E hr hsp=>?_;obtain ⟨t,h,q⟩:=hbody cdv A outer s H vs Q E hr hsp;exact ⟨t,h.nox,q⟩
theorem Fun.binds {ps:List Str} (F:Fun K x qual st f fd)
  (h:∀ (kV doc pm:Value) (an:Option Addr) (cdv ct:Value) (us:List Value),us.length=ps.length->bindArgs (PySem.W.fnOf x qual (cv st) (bP st) (ai st) .none kV doc pm an cdv ct) ⟨us,[]⟩=pure (ps.zip us)):Binds K fd ps []:=by
 obtain ⟨oc,od,kV,doc,pm,an,cdv,ct,osl,rfl,lk,hcd⟩:=F.ex;exact .all (h kV doc pm an cdv ct)
theorem tt {oc:Value} {od an:Option Addr} {osl:Array (Option Value)} {kV doc pm cdv ct:Value} (l:K.lookup f=some ⟨oc,od,.func (PySem.W.fnOf x qual (cv st) (bP st) (ai st) .none kV doc pm an cdv ct),osl⟩)
  (c:PySem.W.codeIn K cdv qual=true) (k:PySem.W.keepIn K (.ref f)=true):Fun K x qual st f (PySem.W.fnOf x qual (cv st) (bP st) (ai st) .none kV doc pm an cdv ct):=⟨⟨oc,od,kV,doc,pm,an,cdv,ct,osl,rfl,l,c⟩,k⟩
end
theorem tD {A:Around} {k:Nat} (hr:Room k A):A.units+1 < cLine:=Nat.lt_of_le_of_lt (Nat.add_le_add_left (by decide:1<=64) _) hr.units
section
variable {X:Cx}
theorem pv (i:Nat) {x:Str} {pos:Pos} (hN:X.N[i]?=some x:=by rfl) (hv:An X.env.scope x:=by first|exact Or.inl rfl|exact Or.inr (Or.inl rfl)|exact Or.inr (Or.inr rfl)) (hd:(x == ("__debug__":Str))=false:=by decide)
  (hcd:(x == ("__classdict__":Str))=false:=by decide):PE X (.Name x pos) (og i):=yA hN hv hd hcd
end
variable {A B:Prop}
theorem aZ (h:B):if false=true then A else B:=by
 rw [if_neg Ee];exact h
theorem bC (h:A):if true=true then A else B:=by
 rw [if_pos rfl];exact h
theorem kM {c A B:Prop} [Decidable c] (h1:c->A) (h2:¬ c->B):if c then A else B:=by
 by_cases h:c
 ·rw [if_pos h];exact h1 h
 ·rw [if_neg h];exact h2 h
def Same (H H':Hp):Prop:=∀ b o,H b=some o->H' b=some o
theorem Same.refl (H:Hp):Same H H:=fun _ _ h=>h
variable {H H1 H2:Hp}
theorem Same.trans (a:Same H H1) (b:Same H1 H2):Same H H2:=fun c o h=>b c o (a c o h)
theorem Same.free {H H':Hp} (e:Same H H') {l:Addr} (h:H' l=Option.none):H l=Option.none:=by
 cases q:H l with
 | none=>rfl
 | some o=>
  rw [e l o q] at h;cases h
theorem Same.seq {K:ZF} {H H':Hp} {a:Addr} {xs:List V} (e:Same H H') (h:SqL K H a xs):SqL K H' a xs:=by
 rcases h with (h|⟨o,h⟩)|h
 ·exact .inl (.inl (e _ _ h))
 ·exact .inl (.inr ⟨o,e _ _ h⟩)
 ·exact .inr h
theorem gp (env:Env):∀ (names:List (Str×NameKind)) (cs:List (Str×Addr)),(∀ x∈names,x.2=.free->∃ c,env.cells.lookup x.1=some c)->(∀ x c,cs.lookup x=some c->env.cells.lookup x=some c)->
  ∃ cl,(forIn names cs fun (p:Str×NameKind) (r:List (Str×Addr))=>(if (p.2 == NameKind.free)=true then do let c <-cellOf env p.1;pure (ForInStep.yield ((p.1,c)::r)) else pure (ForInStep.yield r):Sem (ForInStep (List (Str×Addr)))))=(pure cl:Sem (List (Str×Addr))) /\
   (∀ x c,cl.lookup x=some c->env.cells.lookup x=some c)/\(∀ x,(∃ c,cs.lookup x=some c)->∃ c,cl.lookup x=some c)/\∀ x∈names,x.2=.free->∃ c,cl.lookup x.1=some c
 | [],cs,_,h=>⟨cs,rfl,h,fun _ z=>z,fun _ z=>nomatch z⟩
 | (n,k)::r,cs,hn,h=>by
  by_cases e:k=.free
  ·subst e;obtain ⟨c,hc⟩:=hn (n,.free) Eb rfl;have h':∀ x c',((n,c)::cs).lookup x=some c'->env.cells.lookup x=some c':=fun x c' q=>by
    rw [E4] at q;cases ex:x == n with
    | true=>
     rw [ex] at q;have:x=n:=by simpa using ex
     subst this;cases q;exact hc
    | false=>rw [ex] at q;exact h x c' q
   obtain ⟨cl,e1,e2,e3,e4⟩:=gp env r ((n,c)::cs) (fun x hx=>hn x (Ef _ hx)) h';refine ⟨cl,?_,e2,fun x ⟨c',q⟩=>e3 x ?_,fun x hx hf=>?_⟩
   ·rw [List.forIn_cons];rw [if_pos (show (((n,NameKind.free):Str×NameKind).2 == NameKind.free)=true from by rfl)];unfold cellOf;rw [hc];exact e1
   ·rw [E4];cases ex:x == n with
    | true=>exact ⟨c,rfl⟩
    | false=>exact ⟨c',q⟩
   ·rcases Eo.mp hx with z|z
    ·subst z;exact e3 n ⟨c,by rw [E4];simp⟩
    ·exact e4 x z hf
  ·obtain ⟨cl,e1,e2,e3,e4⟩:=gp env r cs (fun x hx=>hn x (Ef _ hx)) h;refine ⟨cl,?_,e2,e3,fun x hx hf=>?_⟩
   ·rw [List.forIn_cons];rw [if_neg (show ¬ (((n,k):Str×NameKind).2 == NameKind.free)=true by simpa using e)];exact e1
   ·rcases Eo.mp hx with z|z
    ·subst z;exact absurd hf e
    ·exact e4 x z hf
variable {env:Env}
theorem oB {sc:Scope} (hn:∀ x∈sc.names,x.2=.free->∃ c,env.cells.lookup x.1=some c) :
  ∃ cl,closureFor sc env=pure cl/\(∀ x c,cl.lookup x=some c->env.cells.lookup x=some c)/\∀ x∈sc.names,x.2=.free->∃ c,cl.lookup x.1=some c:=by
 obtain ⟨cl,e1,e2,_,e4⟩:=gp env sc.names [] hn (fun x c z=>by cases z);refine ⟨cl,?_,e2,e4⟩;unfold closureFor;exact (congrArg (fun (m:Sem (List (Str×Addr)))=>m >>= fun r=>pure r) e1)
theorem dI {κ:Type}:∀ {l:List (Str×κ)} {x:Str} {k:κ},l.lookup x=some k->(x,k)∈l
 | [],_,_,h=>by cases h
 | (n,k')::r,x,k,h=>by
  rw [E4] at h;cases e:x == n with
  | true=>
   rw [e] at h;have:x=n:=by simpa using e
   subst this;cases h;exact Eb
  | false=>
   rw [e] at h;exact Ef _ (dI h)
def kN (env:Env) (x:Str) (k:NameKind):NameKind:=if (k == NameKind.free && env.scope.kind == .function && env.kindOf x == some .cell)=true then .cell else k
theorem jd {env:Env}:∀ {names:List (Str×NameKind)} {x:Str},
  (names.map fun (p:Str×NameKind)=>match p with|(n,k)=>if (k == NameKind.free && env.scope.kind == .function && env.kindOf n == some .cell)=true then (n,NameKind.cell) else (n,k)).lookup x=(names.lookup x).map (kN env x)
 | [],x=>rfl
 | (n,k)::r,x=>by
  rw [Er];by_cases e:x=n
  ·subst e;dsimp only;by_cases c:(k == NameKind.free && env.scope.kind == .function && env.kindOf x == some .cell)=true
   ·rw [if_pos c];have z:kN env x k=.cell:=if_pos c;simp [E4,z]
   ·rw [if_neg c];have z:kN env x k=k:=if_neg c;simp [E4,z]
  ·have e':(x == n)=false:=by simpa using e
   dsimp only;rw [E4 (a:=x) (b:=k),e'];show _=(r.lookup x).map (kN env x);rw [<-jd];by_cases c:(k == NameKind.free && env.scope.kind == .function && env.kindOf n == some .cell)=true
   ·rw [if_pos c,E4,e']
   ·rw [if_neg c,E4,e']
variable {C:Addr}
theorem je {sc:Scope} {cl:List (Str×Addr)} {x:Str}:(compEnvC sc cl C env).kindOf x=(sc.names.lookup x).map (kN env x):=jd
def rj (N:List Str) (sc0 sc:Scope) (N':List Str) (ix:List (Option Nat)):Bool:=
 sc.kind == .function && ix.length == N'.length &&
 sc.names.all (fun p=>p.2 != .cell && (p.2 != .free || (sc0.names.lookup p.1 == some .cell || sc0.names.lookup p.1 == some .free)) && (p.2 != .local || sc.names.lookup p.1 == some .local)) &&
 (List.range N'.length).all fun j=>match ix[j]?,N'[j]? with
  | some (some i),some x=>N[i]? == some x && sc.names.lookup x == some .free
  | _,_=>true
theorem ka {N:List Str} {sc0 sc:Scope} {N':List Str} {ix:List (Option Nat)} (h:rj N sc0 sc N' ix=true) :
  sc.kind=.function/\ix.length=N'.length/\(∀ p∈sc.names,p.2≠.cell)/\(∀ p∈sc.names,p.2=.free->sc0.names.lookup p.1=some .cell\/sc0.names.lookup p.1=some .free) /\
   (∀ p∈sc.names,p.2=.local->sc.names.lookup p.1=some .local)/\∀ (j i:Nat) (x:Str),ix[j]?=some (some i)->N'[j]?=some x->N[i]?=some x/\sc.names.lookup x=some .free:=by
 unfold rj at h;simp only [EA,EQ,beq_iff_eq,bne_iff_ne,Bool.or_eq_true,ne_eq] at h;obtain ⟨⟨⟨h1,h2⟩,h3⟩,h4⟩:=h;refine ⟨h1,h2,fun p hp=>(h3 p hp).1.1,fun p hp hf=>?_,fun p hp hl=>?_,fun j i x e1 e2=>?_⟩
 ·rcases (h3 p hp).1.2 with z|z
  ·exact absurd hf z
  ·exact z
 ·rcases (h3 p hp).2 with z|z
  ·exact absurd hl z
  ·exact z
 ·have hj:j < N'.length:=(D7.mp e2).1;have:=h4 j (Fl.mpr hj);rw [e1,e2] at this;simpa using this
def jP (X:Cx) (sc:Scope) (N':List Str) (C:Addr) (cl:List (Str×Addr)) (s:Shared) (H:Hp) (fp:List Addr):Cx:=
 { X with N:=N',s₀:=s,H₀:=H,env:=compEnvC sc cl C X.env,outer:=X.stack,stack:=X.stack,ex:=fp,fn:=fun _=>false,pn:=[],xe:=fun _ _=>False }
def mq (ix:List (Option Nat)) (σ:St):St:=ix.map fun o=>match o with|some i=>(σ[i]?).getD none|none=>none
def ExtL:St->St->Prop
 | [],[]=>True
 | none::r,_::r'=>ExtL r r'
 | some v::r,w::r'=>w=some v/\ExtL r r'
 | _,_=>False
theorem ExtL.spec:∀ {a b:St},ExtL a b->a.length=b.length/\∀ (i:Nat) v,a[i]?=some (some v)->b[i]?=some (some v)
 | [],[],_=>⟨rfl,fun _ _ z=>by simp at z⟩
 | [],_::_,h=>h.elim
 | none::r,[],h=>h.elim
 | some v::r,[],h=>h.elim
 | none::r,w::r',h=>by
  obtain ⟨e1,e2⟩:=ExtL.spec (a:=r) (b:=r') h;refine ⟨by simp [e1],fun i v z=>?_⟩;cases i with
  | zero=>simp at z
  | succ i=>simpa using e2 i v (by simpa using z)
 | some u::r,w::r',h=>by
  obtain ⟨e0,h⟩:=h;obtain ⟨e1,e2⟩:=ExtL.spec (a:=r) (b:=r') h;refine ⟨by simp [e1],fun i v z=>?_⟩;cases i with
  | zero=>simp at z;subst z;simp [e0]
  | succ i=>simpa using e2 i v (by simpa using z)
structure PF (X:Cx) (ifs:List Expr) (t:TT):Prop where
 run:∀ (pins:List (Addr×Obj)) (s:Shared) (σ:St) (H:Hp) (Q:Bool->Hp->Prop),Inv X pins σ H s->t σ H Q->
  wpAny (model X.prog X.w) X.A (forIn ifs true fun c r=>if r=true then do let ok <-isTrue c X.env (eval c X.env);pure (ForInStep.yield ok) else pure (ForInStep.yield r)) (TP X pins σ Q) X.xe s
instance {X:Cx} {ifs:List Expr} {t:TT}:CoeFun (PF X ifs t) fun _=>∀ (pins:List (Addr×Obj)) (s:Shared) (σ:St) (H:Hp) (Q:Bool->Hp->Prop),Inv X pins σ H s->t σ H Q->
  wpAny (model X.prog X.w) X.A (forIn ifs true fun c r=>if r=true then do let ok <-isTrue c X.env (eval c X.env);pure (ForInStep.yield ok) else pure (ForInStep.yield r)) (TP X pins σ Q) X.xe s:=⟨PF.run⟩
def AS:TT:=fun _ H Q=>Q true H
theorem cX:PF X [] AS:=⟨fun pins s σ H Q I h=>wpAny_tests_nil ⟨H,I,h⟩⟩
theorem yM {c:Expr} {t:TT} (h:PT X c t):PF X [c] t:=⟨fun pins s σ H Q I q=>wpAny_tests_one (h pins s σ H Q I q)⟩
def rm (J:It) (g:TG) (tf:TT) (te:TE) (ix:List (Option Nat)) (σ:St) (H1:Hp) (Q:VK):Prop:=∃ W:Nat->Nat->List V->Hp->Prop,(∃ m,W 0 m [] H1)/\∀ i m ys H,W i m ys H->
 (J.stop i H/\ys.length<=sizeLine/\∀ D,H D=none->Q (.ref D) (upd H D (.lst ys))) ∨
 (J.go i H/\ys.length<=sizeLine/\∀ x H',J.yld i H x H'->g x (mq ix σ) H' fun σ2 H2=>ExtL (mq ix σ) σ2/\tf σ2 H2 fun b H3=>if b=true then te σ2 H3 fun y H4=>∃ m',m' < m/\W (i+1) m' (ys++[y]) H4 else ∃ m',m' < m/\W (i+1) m' ys H3)
def CD (wi:TI) (g:TG) (tf:TT) (te:TE) (ix:List (Option Nat)):TE:=fun σ H Q=>wi σ H fun J H1=>rm J g tf te ix σ H1 Q
section
variable {X:Cx} {tg elt iter:Expr} {ifs:List Expr} {sc:Scope} {N':List Str} {ix:List (Option Nat)} {pins:List (Addr×Obj)} {σ:St} {H2:Hp} {s2:Shared} {fp:List Addr} {cl:List (Str×Addr)} {C:Addr} {pos:Pos}
theorem yN (I:Inv X pins σ H2 s2) (hix:rj X.N X.env.scope sc N' ix=true) (e2:∀ x c,cl.lookup x=some c->X.env.cells.lookup x=some c) (e3:∀ x∈sc.names,x.2=.free->∃ c,cl.lookup x.1=some c)
  (f2:∀ b∈fp,jN X pins H2 b) (fo:∀ b∈fp,∃ o,s2.heap.get? b=some o) (hC:s2.heap.objs.size<=C):(jP X sc N' C cl s2 H2 fp).Ok:=by
 obtain ⟨k1,_,k3,_,_,_⟩:=ka hix;refine ⟨I.ok.mod,k1,I.ok.glob,I.ok.blt,hC,fun x y c a b=>I.ok.inj x y c (e2 x c a) (e2 y c b),fun x hx=>?_,fun x c z=>(by cases z),I.ok.hd,I.ok.frames,.inl rfl,fun b hb=>?_,I.bs,Ew I.ok.bsz I.sz,fun b o e hb=>?_,fun b hb hf=>?_,I.stack,I.stkFree⟩
 ·have hx':(compEnvC sc cl C X.env).kindOf x=some .cell\/(compEnvC sc cl C X.env).kindOf x=some .free:=hx;rw [je] at hx';cases q:sc.names.lookup x with
  | none=>rw [q] at hx';rcases hx' with z|z<;>cases z
  | some k=>
   have hm:=dI q;have hf:k=.free:=by
    rw [q] at hx';have nk:=k3 _ hm;cases k with
    | free=>rfl
    | cell=>exact absurd rfl nk
    | _=>rcases hx' with z|z<;>(simp [kN] at z)
   exact e3 (x,k) hm hf
 ·obtain ⟨o,ho⟩:=fo b hb;exact ⟨Es (En (Ed ho) hC),fun x c q=>(f2 b hb).2.2.2.2.1 x c (e2 x c q)⟩
 ·have hb':b∈fp:=hb;rcases (f2 b hb').2.2.2.1 with z|z
  ·exact I.ok.noex b o e z
  ·exact absurd (En (Ed e) (Ew I.ok.bsz z)) (E2 _)
 ·have hb':b∈fp:=hb;rcases Eo.mp (I.stkSub b hf) with z|z
  ·exact (f2 b hb').2.1 z
  ·exact (f2 b hb').2.2.1 z
end
section
variable {X:Cx} {tg elt iter:Expr} {ifs:List Expr} {sc sc0:Scope} {N N':List Str} {ix:List (Option Nat)} {pos:Pos} {wi:TI} {g:TG} {tf:TT} {te:TE}
structure LcEnd (X:Cx) (pins:List (Addr×Obj)) (σ:St) (H:Hp) (s:Shared) (C:Addr):Prop where
 inv:Inv X pins σ H s
 ns:∃ m,s.heap.Ns C m
 free:H C=none
 loc:C≠X.env.locals
 cel:∀ x c,X.env.cells.lookup x=some c->c≠C
 abv:X.s₀.heap.objs.size<=C
 pin:∀ p∈X.pn++pins,p.1≠C
variable {s:Shared} {σ:St} {pins:List (Addr×Obj)}
theorem LcEnd.gone {h':Heap} (L:LcEnd X pins σ H s C) (sb:Heap.SameBut C s.heap h'):Inv X pins σ H { s with heap:=h' }:=
 L.inv.turned (it:=C) (t':=s.toks) (fun b o hb e=>(sb.2 b hb).trans e) L.free L.loc (.inr L.abv) L.cel L.pin
theorem qm {pins:List (Addr×Obj)} {σ:St} {H:Hp} {s:Shared} {Q:VK} {use:Option (Value->Sem Unit)} {Qf:Value->Shared->Prop} {cpos:Pos} (hc:X.calm=true) (hix:rj X.N X.env.scope sc N' ix=true) (hi:PI X tg iter wi)
  (hg:∀ C cl s H fp,PG (jP X sc N' C cl s H fp) tg g) (hf:∀ C cl s H fp,PF (jP X sc N' C cl s H fp) ifs tf) (he:∀ C cl s H fp,PE (jP X sc N' C cl s H fp) elt te)
  (hs:∀ x,foldedSetIterable iter X.env x=pure x) (I:Inv X pins σ H s) (h:CD wi g tf te ix σ H Q)
  (hend:∀ (C D:Addr) (H':Hp) (s':Shared),LcEnd X pins σ H' s' C->Q (.ref D) H'->compPost (model X.prog X.w) X.A X.xe use Qf (.ref D) C (.ok .next) s') :
  wpAny (model X.prog X.w) X.A (comprehension (.ListComp elt [⟨tg,iter,ifs,0⟩] sc pos) sc X.env cpos (newList []) false (eval iter X.env) use) Qf X.xe s:=by
 obtain ⟨hk,hlen,hcell,hfreeX,hnames,hat⟩:=ka hix;obtain ⟨cl,e1,e2,e3⟩:=oB (env:=X.env) (sc:=sc) (fun x hx hf=>I.ok.has x.1 (hfreeX x hx hf));refine wpAny_comprehension_free (use:=use) (cl:=cl) rfl hs e1 hk hnames (bG (hi pins s σ H _ I h) fun v s1 h1=>bG h1 fun itv s2 h2=>?_);obtain ⟨it,fp,tn,J,H2,e,I2,T,st2,f2,W,⟨m0,w0⟩,turn⟩:=h2;subst e;refine wpAny_newObj_type (wpAny_newFunctionEnv hcell (by intro y hy;simp at hy) (fun h₁ hns₁ hsb₁=>?_) hk);dsimp only at hns₁ hsb₁ ⊢;generalize hH2:s2.heap.push { cls:=.type "list",dict:=none,data:=.seq ([]:List Value).toArray }=G2 at hns₁ hsb₁ ⊢;have hCs:G2.objs.size=s2.heap.objs.size+1:=by rw [<-hH2,E7]
 have hDC:s2.heap.objs.size≠G2.objs.size:=by rw [hCs];exact Es (Fi _)
 have hCle:s2.heap.objs.size<=G2.objs.size:=by rw [hCs];exact Nat.le_succ _
 have belowC:∀ b,b < s2.heap.objs.size->b≠G2.objs.size:=fun b hb=>by rw [hCs];exact Es (Nat.lt_succ_of_lt hb)
 have belowD:∀ b,b < s2.heap.objs.size->b≠s2.heap.objs.size:=fun b hb=>Es hb;have old:∀ b o,s2.heap.get? b=some o->h₁.get? b=some o:=fun b o e=>hsb₁.extBut b o (belowC b (Ed e)) (D6 _ (hH2 ▸ D6 _ e));have hacc:h₁.get? s2.heap.objs.size=some { cls:=.type "list",data:=.seq ([]:List Value).toArray }:=hsb₁.extBut _ _ hDC (D6 _ (hH2 ▸ El _ rfl));have fo:∀ b∈fp,∃ o,s2.heap.get? b=some o:=fun b hb=>let ⟨o,ho,_⟩:=T.obj _ _ st2 b hb;⟨o,ho⟩;have fD:∀ b∈fp,b≠s2.heap.objs.size:=fun b hb=>let ⟨o,ho⟩:=fo b hb;belowD b (Ed ho);have ok':(jP X sc N' G2.objs.size cl s2 H2 fp).Ok:=yN I2 hix e2 e3 f2 fo hCle;have HD:H2 s2.heap.objs.size=none:=I2.hok.fresh (Ec _);have HC:H2 G2.objs.size=none:=I2.hok.fresh hCle;have I4:Inv (jP X sc N' G2.objs.size cl s2 H2 fp) [] (mq ix σ) H2 { s2 with heap:=h₁,toks:=s2.toks+([]:List (Str×Value)).length }:=by
  refine ⟨ok',rfl,I2.bare,Un.kept old,⟨_,hns₁,fun j x v a b c=>?_⟩,fun x c q=>?_,HC,fun x c q=>I2.freeC x c (e2 x c q),fun p hp=>(by cases hp),I2.hok.kept old,?_⟩
  ·
   have a':N'[j]?=some x:=a;have b':(ix.map fun o=>match o with|some i=>(σ[i]?).getD none|none=>none)[j]?=some (some v):=b;rw [EU] at b';cases q:ix[j]? with
   | none=>rw [q] at b';cases b'
   | some o=>
    rw [q] at b';cases o with
    | none=>cases b'
    | some i=>
     obtain ⟨n1,n2⟩:=hat j i x q a';have b'':(σ[i]?).getD none=some v:=Ey b';have sv:σ[i]?=some (some v):=by
      cases z:σ[i]? with
      | none=>rw [z] at b'';cases b''
      | some y=>rw [z] at b'';exact congrArg some b''
     obtain ⟨m,hn,hl⟩:=I2.loc;have kx:=hfreeX (x,.free) (dI n2) rfl;obtain ⟨u,r,lk⟩:=hl i x v n1 sv (.inr kx);refine ⟨u,r,.inr ⟨?_,?_⟩⟩
     ·show (compEnvC sc cl G2.objs.size X.env).kindOf x=some .cell\/(compEnvC sc cl G2.objs.size X.env).kindOf x=some .free;rw [je,n2];show some (kN X.env x .free)=some .cell\/some (kN X.env x .free)=some .free;unfold kN;split
      ·exact .inl rfl
      ·exact .inr rfl
     ·obtain ⟨c1,hc1⟩:=e3 (x,.free) (dI n2) rfl;refine ⟨c1,hc1,?_⟩;have hc2:=e2 x c1 hc1;rcases lk with ⟨z,_⟩|⟨_,c,hcc,hcl⟩
      ·have z':X.env.scope.names.lookup x=some .local:=z;rcases kx with y|y<;>(rw [y] at z';cases z')
      ·rw [hc2] at hcc;cases hcc;obtain ⟨o,ho,hd⟩:=hcl;exact ⟨o,old c1 o ho,hd⟩
  ·obtain ⟨v,o,ho,hd⟩:=I2.cell x c (e2 x c q);exact ⟨v,o,old c o ho,hd⟩
  ·show (ix.map _).length=N'.length;rw [D8,hlen]
 have cellD:∀ x c,cl.lookup x=some c->c≠s2.heap.objs.size:=fun x c q z=>by
  obtain ⟨v,o,ho,hd⟩:=I2.cell x c (e2 x c q);exact belowD c (Ed ho) z
 have loop:∀ s₃:Shared,s₃={ s2 with heap:=h₁,toks:=s2.toks+([]:List (Str×Value)).length }->
   codeAny (model X.prog X.w) X.A (.compLoop (.ListComp elt [⟨tg,iter,ifs,0⟩] sc pos) 0 (.ref it) (.ref s2.heap.objs.size) (compEnvC sc cl G2.objs.size X.env))
    (compPost (model X.prog X.w) X.A X.xe use Qf (.ref s2.heap.objs.size) G2.objs.size) s₃:=by
  rintro s₃ rfl;refine codeAny_loop rfl (fun n s'=>∃ i ys H' its k,Inv (jP X sc N' G2.objs.size cl s2 H2 fp) [] (mq ix σ) H' s'/\tn i s'.heap/\(∀ b∈fp,H' b=none)/\H' s2.heap.objs.size=none /\
   Vals ys its/\s'.heap.get? s2.heap.objs.size=some { cls:=.type "list",data:=.seq its.toArray k }/\W i n ys H') ?_ m0
   ⟨0,[],H2,[],_,I4,T.keep _ _ _ st2 (fun b _ o e=>old b o e),fun b hb=>(f2 b hb).1,HD,.nil,hacc,w0⟩
  rintro n s5 ⟨i,ys,H5,its,k,I5,st5,fr5,hD5,vv,oD,w5⟩;show wpAny _ X.A ((compTurn (.ListComp elt [⟨tg,iter,ifs,0⟩] sc pos) 0 (.ref it) (.ref s2.heap.objs.size) (compEnvC sc cl G2.objs.size X.env)).onRaise (fun x=>do noteFrame x (compEnvC sc cl G2.objs.size X.env);theTreesLotGoes x)) _ _ s5;refine wpAny_noted ?_;rw [compTurn_list];have I5p:Inv (jP X sc N' G2.objs.size cl s2 H2 fp) [(s2.heap.objs.size,{ cls:=.type "list",data:=.seq its.toArray k })] (mq ix σ) H5 s5:=I5.pins_of fun p hp=>by
   have hp':p=(s2.heap.objs.size,{ cls:=.type "list",data:=.seq its.toArray k }):=by simpa using hp
   subst hp';refine ⟨oD,hD5,hDC,fun hb=>?_,fun v z=>(by cases z)⟩;obtain ⟨_,o,ho,_⟩:=I2.stack.mem (show s2.heap.objs.size∈kz X.stack from hb);exact E2 _ (Ed ho)
  have fpk:∀ {H':Hp},(∀ b∈fp,H' b=none)->∀ b∈fp,jN (jP X sc N' G2.objs.size cl s2 H2 fp) [(s2.heap.objs.size,({ cls:=.type "list",data:=.seq its.toArray k }:Obj))] H' b:=fun {H'} hn b hb=>by
   refine ⟨hn b hb,(ok'.exf b hb).1,ok'.exfs b hb,.inl hb,(ok'.exf b hb).2,fun p hp=>?_⟩;have hp':p=(s2.heap.objs.size,({ cls:=.type "list",data:=.seq its.toArray k }:Obj)):=by
    have z:p∈([]:List (Addr×Obj))++[(s2.heap.objs.size,({ cls:=.type "list",data:=.seq its.toArray k }:Obj))]:=hp;simpa using z
   subst hp';exact (fD b hb).symm
  rcases turn i n ys H5 w5 with ⟨stop,hz,qn⟩|⟨go,hz,step⟩
  ·refine wpAny_bind (wpAny_standAt (wpAny_bind (wpAny_mono (T.done (jP X sc N' G2.objs.size cl s2 H2 fp) rfl rfl rfl hc i _ s5 (mq ix σ) H5 (fun _ _=>False) I5p (fpk fr5) st5 stop) (fun r s6 ⟨hr,I6⟩=>?_) fun _ _ f=>f.elim)));subst hr;refine wpAny_pure ?_;obtain ⟨m,hn,_⟩:=I6.loc;have oD6:s6.heap.get? s2.heap.objs.size=some { cls:=.type "list",data:=.seq its.toArray k }:=(I6.pin (s2.heap.objs.size,{ cls:=.type "list",data:=.seq its.toArray k }) (by show _∈([]:List (Addr×Obj))++_;simp)).1;have u6:Un (kz X.stack) fp H2 H5 s2.heap s6.heap:=I6.base;have HC5:H5 G2.objs.size=none:=I6.free;refine hend _ _ (upd H5 s2.heap.objs.size (.lst ys)) s6 ⟨?_,⟨m,hn⟩,by rw [aj hDC.symm];exact HC5,(belowC _ I2.lt).symm,fun x c q=>?_,Ew I2.sz hCle,fun p hp=>?_⟩ (qn _ hD5)
   ·refine I2.call' (s':=s6) (ch:=fp) I6.os ?_ ?_ I6.bare fun b hb=>⟨(f2 b hb).2.2.2.1,(f2 b hb).2.1,(f2 b hb).2.2.2.2.1,(f2 b hb).2.2.2.2.2⟩
    ·refine ⟨fun b o e n nf nx=>u6.keep b o e n nf nx,fun b o e n nf nx=>u6.slot b o e n nf nx,fun b o e n nx=>?_,fun b o e nx=>u6.there b o e nx,fun b xs e=>?_,fun b o u e=>?_,fun b ps e=>?_⟩
     ·rw [aj (belowD b (Ed e))];exact u6.free b o e n nx
     ·rw [aj (aq e HD)];exact u6.tups b xs e
     ·rw [aj (aq e HD)];exact u6.frzs b o u e
     ·rw [aj (aq e HD)];exact u6.tbls b ps e
    ·intro b o e;by_cases hb:b=s2.heap.objs.size
     ·subst hb;rw [ae] at e;cases e;exact ⟨hz,its,k,vv,oD6⟩
     ·rw [aj hb] at e;refine (I6.hok b o e).stay (fun c v hcc q=>q) (fun c q=>?_) fun c xs q=>?_
      ·rw [aj (aq q hD5)];exact q
      ·rw [aj (aq q hD5)];exact q
   ·obtain ⟨v,o,ho,hd⟩:=I2.cell x c q;exact belowC c (Ed ho)
   ·exact belowC p.1 (Ed (I2.pin p hp).1)
  ·refine wpAny_bind (wpAny_standAt (wpAny_bind (wpAny_mono (T.item (jP X sc N' G2.objs.size cl s2 H2 fp) rfl rfl rfl hc i _ s5 (mq ix σ) H5 (fun _ _=>False) I5p (fpk fr5) st5 go) (fun r s6 ⟨u,hr,h6⟩=>?_) fun _ _ f=>f.elim)));subst hr;refine wpAny_bind (wpAny_mono h6 (fun _ s7 ⟨x,H7,I7,r7,y7,st7,fr7⟩=>?_) fun _ _ f=>f.elim);have I7':=I7.pinned (fpk fr7) (T.obj _ _ st7);refine wpAny_bind (wpAny_mono (hg _ _ _ _ _ _ s7 (mq ix σ) H7 x u _ I7' r7 (step x H7 y7)) (fun _ s8 ⟨σ8,H8,I8,x8,q8⟩=>?_) fun _ _ f=>f.elim);obtain ⟨xl,xv⟩:=x8.spec;have keepT:∀ {σ9:St} {H9:Hp} {s9:Shared} {pl:List (Addr×Obj)},(∀ p∈dL fp s7.heap,p∈pl)->Inv (jP X sc N' G2.objs.size cl s2 H2 fp) pl σ9 H9 s9->tn (i+1) s9.heap/\∀ b∈fp,H9 b=none:=fun {σ9 H9 s9 pl} hp I9=>by
    have pn:∀ b o,b∈fp->s7.heap.get? b=some o->s9.heap.get? b=some o/\H9 b=none:=fun b o hb e=>by
     have:=I9.pin (b,o) (EB _ (hp _ (gi hb e)));exact ⟨this.1,this.2.1⟩
    refine ⟨T.keep _ _ _ st7 fun b hb o e=>(pn b o hb e).1,fun b hb=>?_⟩;obtain ⟨o,e,_⟩:=T.obj _ _ st7 b hb;exact (pn b o hb e).2
   refine wpAny_bind (wpAny_mono (hf _ _ _ _ _ _ s8 σ8 H8 _ I8 q8) (fun ok s9 ⟨H9,I9,q9⟩=>?_) fun _ _ f=>f.elim);have pD:∀ {σ9:St} {H9:Hp} {s9:Shared},Inv (jP X sc N' G2.objs.size cl s2 H2 fp) ([(s2.heap.objs.size,({ cls:=.type "list",data:=.seq its.toArray k }:Obj))]++dL fp s7.heap) σ9 H9 s9->
     s9.heap.get? s2.heap.objs.size=some { cls:=.type "list",data:=.seq its.toArray k }/\H9 s2.heap.objs.size=none:=fun {σ9 H9 s9} I9=>by
    have:=I9.pin (s2.heap.objs.size,{ cls:=.type "list",data:=.seq its.toArray k }) (EB _ (Fe _ (by simp)));exact ⟨this.1,this.2.1⟩
   cases ok with
   | false=>
    obtain ⟨m',hm,w9⟩:=(show ∃ m',m' < n/\W (i+1) m' ys H9 from by simpa using q9);obtain ⟨t9,fr9⟩:=keepT (fun p hp=>EB _ hp) I9;obtain ⟨oD9,hD9⟩:=pD I9;refine wpAny_pure ⟨rfl,m',hm,i+1,ys,H9,its,k,(I9.pins_of (pins':=[]) fun p hp=>nomatch hp).weak xl xv,t9,fr9,hD9,vv,oD9,w9⟩
   | true=>
    have q9':te σ8 H9 fun y H4=>∃ m',m' < n/\W (i+1) m' (ys++[y]) H4:=by simpa using q9
    refine wpAny_bind (wpAny_bind (wpAny_mono (he _ _ _ _ _ _ s9 σ8 H9 _ I9 q9') (fun yv sA ⟨y,HA,IA,rA,m',hm,wA⟩=>?_) fun _ _ f=>f.elim));obtain ⟨oDA,hDA⟩:=pD IA;have hsz:its.toArray.size<=sizeLine:=by rw [Ea,<-vv.length];exact hz
    refine wpAny_bind (wpAny_list_append_plain (hsz:=hsz) ⟨_,oDA⟩ fun h9 pl9 sb9=>?_);have IB:Inv (jP X sc N' G2.objs.size cl s2 H2 fp) (dL fp s7.heap) σ8 HA sA:=IA.pins_of fun p hp=>IA.pin p (EB _ (EB _ hp));have IC:Inv (jP X sc N' G2.objs.size cl s2 H2 fp) (dL fp s7.heap) σ8 HA { sA with heap:=h9 }:=IB.turned (it:=s2.heap.objs.size) (t':=sA.toks) (fun b o hb e=>(sb9.2 b hb).trans e) hDA hDC (.inr (Ec _)) (fun x c q=>cellD x c q) fun p hp=>by
     have hp':p∈dL fp s7.heap:=by
      have z:p∈([]:List (Addr×Obj))++dL fp s7.heap:=hp;simpa using z
     exact fD p.1 (jX hp').1
    obtain ⟨t9,fr9⟩:=keepT (fun p hp=>hp) IC;obtain ⟨k',oD'⟩:=pl9;refine wpAny_pure (wpAny_pure ⟨rfl,m',hm,i+1,ys++[y],HA,its++[yv],k',(IC.pins_of (pins':=[]) fun p hp=>nomatch hp).weak xl xv,t9,fr9,hDA,vv.append (.cons rA .nil),?_,wA⟩);show h9.get? s2.heap.objs.size=_;rw [oD'];simp
 exact codeAny_compStart_list (loop _ rfl) (T.self X.A 0 _ _ _ (T.keep _ _ _ st2 (fun b _ o e=>old b o e)) (loop _ rfl))
theorem fe (hc:X.calm=true) (hix:rj N sc0 sc N' ix=true) (hi:PI X tg iter wi)
  (hg:∀ C cl s H fp,PG (jP X sc N' C cl s H fp) tg g) (hf:∀ C cl s H fp,PF (jP X sc N' C cl s H fp) ifs tf) (he:∀ C cl s H fp,PE (jP X sc N' C cl s H fp) elt te)
  (eN:X.N=N:=by rfl) (eS:X.env.scope=sc0:=by rfl) (hs:∀ x,foldedSetIterable iter X.env x=pure x:=by intro _;rfl) :
  PE X (.ListComp elt [⟨tg,iter,ifs,0⟩] sc pos) (CD wi g tf te ix):=by
 refine ⟨?_⟩;intro pins s σ H Q I h;subst eN eS;rw [eval_ListComp];refine qm (use:=none) hc hix hi hg hf he hs I h fun C D H' s' L q=>?_;obtain ⟨m,hn⟩:=L.ns;exact ⟨m,hn,fun h' sb=>⟨.ref D,H',L.gone sb,rfl,q⟩⟩
def yO (i:Nat) (t:TE):TS:=fun D σ H=>t σ H fun v H1=>D.nx (σ.set i (some v)) H1
theorem jf {i:Nat} {y:Str} {py spos:Pos} (hN:X.N.Nodup) (hiy:X.N[i]?=some y) (hy:X.env.scope.names.lookup y=some .local) (hc:X.calm=true) (hix:rj N sc0 sc N' ix=true) (hi:PI X tg iter wi)
  (hg:∀ C cl s H fp,PG (jP X sc N' C cl s H fp) tg g) (hf:∀ C cl s H fp,PF (jP X sc N' C cl s H fp) ifs tf) (he:∀ C cl s H fp,PE (jP X sc N' C cl s H fp) elt te)
  (eN:X.N=N:=by rfl) (eS:X.env.scope=sc0:=by rfl) (hs:∀ x,foldedSetIterable iter X.env x=pure x:=by intro _;rfl)
  (hsw:swapsWith (.ListComp elt [⟨tg,iter,ifs,0⟩] sc pos) (some (.Name y py)) spos.line X.env=pure true:=by rfl) :
  PS X (.Assign [.Name y py] (.ListComp elt [⟨tg,iter,ifs,0⟩] sc pos) spos) (yO i (CD wi g tf te ix)):=by
 refine ⟨?_⟩;intro pins s σ H Dn I h;subst eN eS;rw [exec_Assign_Name_used _ _ _ _ hsw];refine wpAny_bind (wpAny_standAt (wpAny_bind ?_));show wpAny _ X.A (do let _ <-comprehension (.ListComp elt [⟨tg,iter,ifs,0⟩] sc pos) sc X.env _ (newList []) false (eval iter X.env) (some (assign (.Name y py) X.env))) _ _ s;refine wpAny_bind (wpAny_mono (qm (use:=some (assign (.Name y py) X.env)) (Qf:=fun _ s'=>SP X pins Dn .next s') hc hix hi hg hf he hs I h fun C D H' s' L q=>?_) (fun _ s' hq=>wpAny_pure (wpAny_pure hq)) fun _ _ e=>e);show wpAny _ X.A (assign (.Name y py) X.env (.ref D)) _ _ s';refine wpAny_assign_Name (jV L.inv hN hiy (.inl hy) (v:=.ref D) rfl (fun s1 I1 hsb=>?_) (.inr hy));obtain ⟨a,sb,ha⟩:=hsb;have haC:C≠a:=by
  rcases ha with z|z
  ·rw [z];exact L.loc
  ·exact (L.cel y a z).symm
 obtain ⟨m,hn⟩:=L.ns;have L1:LcEnd X pins (σ.set i (some (.ref D))) H' s1 C:=⟨I1,⟨m,hn.sameBut sb haC⟩,L.free,L.loc,L.cel,L.abv,L.pin⟩;exact ⟨m,hn.sameBut sb haC,fun h' sb'=>⟨_,H',L1.gone sb',q⟩⟩
end
end L2
namespace L2
open PySem
def Nx (Pv:Nat->List V->Hp->Prop) (n i:Nat) (ys:List V) (H:Hp):Prop:=∃ m',m' < n - i/\(m'=n - (i+1)/\i+1<=n/\Pv (i+1) ys H)
variable {H:Hp} {n i:Nat}
theorem Nx.mk {Pv:Nat->List V->Hp->Prop} {ys:List V} (h:i < n) (p:Pv (i+1) ys H):Nx Pv n i ys H:=⟨n - (i+1),zo,rfl,h,p⟩
theorem kO {K:ZF} {a:Addr} {xs:List V} {g:TG} {tf:TT} {te:TE} {ix:List (Option Nat)} {σ:St} {Q:VK} (Pv:Nat->List V->Hp->Prop) (h0:Pv 0 [] H)
  (hl:∀ i ys H,i<=xs.length->Pv i ys H->SqL K H a xs/\ys.length<=sizeLine)
  (hs:∀ i x ys H,xs[i]?=some x->Pv i ys H->g x (mq ix σ) H fun σ2 H2=>ExtL (mq ix σ) σ2/\tf σ2 H2 fun b H3=>if b=true then te σ2 H3 fun y H4=>Nx Pv xs.length i (ys++[y]) H4 else Nx Pv xs.length i ys H3)
  (hd:∀ ys H,Pv xs.length ys H->∀ D,H D=none->Q (.ref D) (upd H D (.lst ys))) :
  rm (Af K a) g tf te ix σ H Q:=by
 refine ⟨fun i m ys H=>m=xs.length - i/\i<=xs.length/\Pv i ys H,⟨xs.length,by simp,Ep _,h0⟩,?_⟩;rintro i m ys H ⟨rfl,hi,p⟩;obtain ⟨q,hz⟩:=hl i ys H hi p;by_cases hlt:i < xs.length
 ·refine .inr ⟨⟨xs,xs[i],q,by simp [hlt]⟩,hz,fun x H' y=>?_⟩;obtain ⟨e,y⟩:=y;subst e;exact hs i x ys _ (y xs q) p
 ·have e:i=xs.length:=by lia
  subst e;exact .inl ⟨⟨xs,q,Ec _⟩,hz,hd ys H p⟩
theorem jg {lo:Int} {n:Nat} {g:TG} {tf:TT} {te:TE} {ix:List (Option Nat)} {σ:St} {Q:VK} (Pv:Nat->List V->Hp->Prop) (h0:Pv 0 [] H)
  (hl:∀ i ys H,i<=n->Pv i ys H->ys.length<=sizeLine)
  (hs:∀ i ys H,i < n->Pv i ys H->g (.int (lo+i)) (mq ix σ) H fun σ2 H2=>ExtL (mq ix σ) σ2/\tf σ2 H2 fun b H3=>if b=true then te σ2 H3 fun y H4=>Nx Pv n i (ys++[y]) H4 else Nx Pv n i ys H3)
  (hd:∀ ys H,Pv n ys H->∀ D,H D=none->Q (.ref D) (upd H D (.lst ys))) :
  rm (xN lo n) g tf te ix σ H Q:=by
 refine ⟨fun i m ys H=>m=n - i/\i<=n/\Pv i ys H,⟨n,by simp,Ep _,h0⟩,?_⟩;rintro i m ys H ⟨rfl,hi,p⟩;have hz:=hl i ys H hi p;by_cases hlt:i < n
 ·refine .inr ⟨hlt,hz,fun x H' y=>?_⟩;obtain ⟨e,y⟩:=y;subst e y;exact hs i ys _ hlt p
 ·have e:i=n:=by lia
  subst e;exact .inl ⟨Ec _,hz,hd ys H p⟩
theorem dM {σ:St} {A B:Hp->Prop} (h:A H):AS σ H fun b H3=>if b=true then A H3 else B H3:=by
 show if true=true then A H else B H;rw [if_pos rfl];exact h
end L2
namespace L2
open PySem PySem.Spec PyProof.Rows
mutual
inductive Dt (K:ZF) (H:Hp):V->PyData->Prop
 | non:Dt K H .non .none
 | bl (b:Bool):Dt K H (.bl b) (.bool b)
 | int (i:Int):Dt K H (.int i) (.int i)
 | str (x:Str):Dt K H (.str x) (.str x)
 | lst {a:Addr} {xs:List V} {ds:List PyData}:SqL K H a xs->DtAll K H xs ds->Dt K H (.ref a) (.list ds)
 | tup {a:Addr} {xs:List V} {ds:List PyData}:SqT K H a xs->DtAll K H xs ds->Dt K H (.ref a) (.tuple ds)
inductive DtAll (K:ZF) (H:Hp):List V->List PyData->Prop
 | nil:DtAll K H [] []
 | cons {v:V} {d:PyData} {vs:List V} {ds:List PyData}:Dt K H v d->DtAll K H vs ds->DtAll K H (v::vs) (d::ds)
end
section
variable {X:Cx} {pins:List (Addr×Obj)} {σ:St} {H:Hp} {s:Shared}
mutual
theorem Dt.reads (I:Inv X pins σ H s):∀ {v:V} {d:PyData} {u:Value},Dt X.K H v d->RelV v u->∃ as,Reads s.heap u d as
 | _,_,_,.non,r=>by cases r;exact ⟨_,.none⟩
 | _,_,_,.bl b,r=>by cases r;exact ⟨_,.bool b⟩
 | _,_,_,.int i,r=>by obtain ⟨t,rfl⟩:=r;exact ⟨_,.int i t⟩
 | _,_,_,.str x,r=>by obtain ⟨t,rfl⟩:=r;exact ⟨_,.str x t⟩
 | _,_,_,.lst hS hA,r=>by
  cases r;obtain ⟨its,rv,⟨o,n,e,c,dd,hd⟩,hz⟩:=I.list hS;obtain ⟨as,ha⟩:=DtAll.reads I hA rv;first
   | exact ⟨_,.list e c hd (by simpa using ha)⟩
   | exact ⟨_,.list e c dd (by simpa using ha)⟩
 | _,_,_,.tup hS hA,r=>by
  cases r;obtain ⟨its,rv,⟨o,e,c,n,hd⟩,hz⟩:=I.tuple hS;obtain ⟨as,ha⟩:=DtAll.reads I hA rv;exact ⟨_,.tuple e c hd (by simpa using ha)⟩
theorem DtAll.reads (I:Inv X pins σ H s):∀ {vs:List V} {ds:List PyData} {us:List Value},DtAll X.K H vs ds->Vals vs us->∃ as,ReadsAll s.heap us ds as
 | _,_,_,.nil,.nil=>⟨_,.nil⟩
 | _,_,_,.cons h t,.cons r rr=>by
  obtain ⟨a1,h1⟩:=Dt.reads I h r;obtain ⟨a2,h2⟩:=DtAll.reads I t rr;exact ⟨_,.cons h1 h2⟩
end
end
section
variable {X:Cx}
inductive rEqD (K:ZF) (x:V) (y:V) (H:Hp) (Q:VK):Prop
 | mk (dx dy:_):Dt K H x dx->Dt K H y dy->dx.canLay0=true->dy.canLay0=true->min dx.depth dy.depth<=60->Q (.bl (PyData.eqv dx dy)) H->rEqD K x y H Q
inductive rNeD (K:ZF) (x:V) (y:V) (H:Hp) (Q:VK):Prop
 | mk (dx dy:_):Dt K H x dx->Dt K H y dy->dx.canLay0=true->dy.canLay0=true->min dx.depth dy.depth<=60->Q (.bl (!PyData.eqv dx dy)) H->rNeD K x y H Q
theorem op_eqD {k:Nat} (hr:Room k X.A):dO X (compareOp .Eq) (rEqD X.K):=by
 intro pins s σ H x y v u Q I rx ry h;obtain ⟨dx,dy,h1,h2,c1,c2,dp,q⟩:=h;obtain ⟨as,ra⟩:=h1.reads I rx;obtain ⟨bs,rb⟩:=h2.reads I ry;exact SeqAt.compareEq_reads ra rb c1 c2 (by have:=hr.un;lia) ⟨.bl _,H,I,rfl,q⟩
theorem op_neD {k:Nat} (hr:Room k X.A):dO X (compareOp .NotEq) (rNeD X.K):=by
 intro pins s σ H x y v u Q I rx ry h;obtain ⟨dx,dy,h1,h2,c1,c2,dp,q⟩:=h;obtain ⟨as,ra⟩:=h1.reads I rx;obtain ⟨bs,rb⟩:=h2.reads I ry;exact SeqAt.compareNe_reads ra rb c1 c2 (by have:=hr.un;lia) ⟨.bl _,H,I,rfl,q⟩
end
theorem Inv.turnedS {X:Cx} {pins:List (Addr×Obj)} {σ:St} {H H':Hp} {s:Shared} {h':Heap} {t':Nat} {ch:List Addr} (I:Inv X pins σ H s) (hf:∀ b∈ch,jN X pins H b)
  (k:∀ b o,b∉ch->s.heap.get? b=some o->h'.get? b=some o) (hH:∀ b o,H b=some o->H' b=some o) (hN:∀ b,b < s.heap.objs.size->H b=none->H' b=none)
  (new:∀ b o,H b=none->H' b=some o->ObjOk X.prog X.w H' h' b o):Inv X pins σ H' { s with heap:=h',toks:=t' }:=by
 refine I.step (g':=s.gens) (d':=s.drawn) (ch:=ch) (fun b hb=>?_) (fun b o _ _ hc e _=>k b o hc e) (fun b o _ _ hc e _=>⟨o.slots,k b o hc e⟩) (fun b o _ e n=>hN b (Ed e) n)
  (fun b o hc e=>⟨o,k b o hc e⟩) (fun b xs e=>hH b _ e) (fun b o u e=>hH b _ e) (fun b ps e=>⟨#[],by rw [hH b _ e];simp⟩) (fun m hm=>?_) (fun b u e=>?_) I.bare
 ·obtain ⟨_,f1,_,f3,f4,f5⟩:=hf b hb;exact ⟨f3,f1,f4,f5⟩
 ·obtain ⟨o,es,ep,ho,r⟩:=hm;exact ⟨o,es,ep,k _ o (fun z=>(hf _ z).2.1 rfl) ho,r⟩
 ·cases q:H b with
  | none=>exact new b u q e
  | some v=>
   rw [hH b v q] at e;cases e;refine (I.hok b u q).stay (fun c v hc q'=>k c v (fun z=>?_) q') (fun c q'=>hH c _ q') fun c xs q'=>hH c _ q';have n:=(hf c z).1;rcases hc with rfl|hc
   ·rw [q] at n;cases n
   ·rw [hc] at n;cases n
section
variable {X:Cx}
theorem boot_zip:bootBuiltins "zip"=some (.type "zip"):=by decide +kernel
end
section
variable {X:Cx}
theorem pe_ty {x:Str} {n:String} {pos:Pos} (hg:Gl X x) (hm:X.mg x=none) (hv:bootBuiltins x=some (.type n)) (hn:x≠"__name__":=by decide) (hd:(x == ("__debug__":Str))=false:=by decide):PE X (.Name x pos) (tC (.ty n)):=
 vR hg hm hv rfl hn hd
end
end L2
namespace TK
def eO (c:Nat):Bool:=c == 32 || c == 10
def cY (c:Nat):Bool:=[40,41,123,125,91,93,44,59,43,45,38,124,94,60,61].contains c
def hX:List Nat->Nat
 | []=>0
 | [c]=>if cY c then 1 else 0
 | c::d::_=>if (c == 60 && d == 60) || (c == 62 && d == 62) then 2 else if cY c then 1 else 0
def run:List Nat->Nat
 | []=>0
 | c::r=>if eO c || hX (c::r) != 0 then 0 else 1+run r
theorem eD (c:Nat):hX [c]=if cY c=true then 1 else 0:=rfl
theorem dn (c d:Nat) (r:List Nat):hX (c::d::r)=if ((c == 60 && d == 60) || (c == 62 && d == 62))=true then 2 else if cY c=true then 1 else 0:=rfl
theorem cy (c:Nat) (r:List Nat):run (c::r)=if (eO c || hX (c::r) != 0)=true then 0 else 1+run r:=by rw [run]
theorem kP (l:List Nat):hX l<=l.length:=by
 match l with
 | []=>simp [hX]
 | [c]=>rw [eD];split<;>simp
 | c::d::r=>rw [dn];split<;>(try split)<;>simp
theorem kQ:∀ l:List Nat,run l<=l.length
 | []=>by simp [run]
 | c::r=>by
  have:=kQ r;rw [cy];split<;>simp<;>lia
def one (l:List Nat):Nat:=if hX l=0 then run l else hX l
variable {r:List Nat} {c:Nat}
theorem iO (h:eO c=false):0 < one (c::r):=by
 unfold one;by_cases e:hX (c::r)=0
 ·rw [if_pos e];rw [cy,h,e];simp;lia
 ·rw [if_neg e];lia
theorem yP (l:List Nat):one l<=l.length:=by
 unfold one;split
 ·exact kQ l
 ·exact kP l
def iF:Nat->List Nat->List (List Nat)
 | 0,_=>[]
 | _,[]=>[]
 | n+1,c::r=>if eO c then iF n r else (c::r).take (one (c::r))::iF n ((c::r).drop (one (c::r)))
theorem gq:∀ (n m:Nat) (l:List Nat),l.length<=n->l.length<=m->iF n l=iF m l
 | 0,0,_,_,_=>rfl
 | 0,m+1,l,h,_=>by
  have:l=[]:=Ff.mp zo;subst this;rfl
 | n+1,0,l,_,h=>by
  have:l=[]:=Ff.mp zo;subst this;rfl
 | n+1,m+1,[],_,_=>rfl
 | n+1,m+1,c::r,h1,h2=>by
  simp only [Eh] at h1 h2;unfold iF;by_cases g:eO c=true
  ·rw [if_pos g,if_pos g];exact gq n m r zo zo
  ·rw [if_neg g,if_neg g];have p:=iO (r:=r) (by simpa using g);rw [gq n m _ (by rw [ET,Eh];lia) (by rw [ET,Eh];lia)]
def toks (l:List Nat):List (List Nat):=iF l.length l
theorem tE:toks []=[]:=rfl
theorem mI (h:eO c=true):toks (c::r)=toks r:=by
 unfold toks;rw [Eh];show (if eO c then iF r.length r else _)=_;rw [if_pos h]
theorem mJ (h:eO c=false):toks (c::r)=(c::r).take (one (c::r))::toks ((c::r).drop (one (c::r))):=by
 unfold toks;rw [Eh];show (if eO c then _ else (c::r).take (one (c::r))::iF r.length ((c::r).drop (one (c::r))))=_;rw [if_neg (by rw [h];decide)];have p:=iO (r:=r) h;rw [gq r.length _ _ (by rw [ET,Eh];lia) (Ec _)]
structure Tok (t:List Nat):Prop where
 cut:∀ s:List Nat,(s=[]\/∃ c r,s=c::r/\eO c=true)->one (t++s)=t.length
 ne:t≠[]
 ng:∀ c∈t,eO c=false
theorem mL {t s:List Nat} (h:Tok t) (hs:s=[]\/∃ c r,s=c::r/\eO c=true):toks (t++s)=t::toks s:=by
 cases t with
 | nil=>exact absurd rfl h.ne
 | cons c r=>
  have g:=h.ng c Eb;have e:=h.cut s hs;rw [Fb] at e ⊢;rw [mJ g,e];have e1:(c::(r++s)).take (c::r).length=c::r:=by rw [<-Fb,List.take_left'];rfl
  have e2:(c::(r++s)).drop (c::r).length=s:=by rw [<-Fb,List.drop_left'];rfl
  rw [e1,e2]
theorem qo:∀ (l s:List Nat),(s=[]\/∃ c r,s=c::r/\eO c=true)->run (l.take (run l)++s)=run l
 | [],s,hs=>by
  rcases hs with rfl|⟨c,r,rfl,g⟩
  ·rfl
  ·show run (c::r)=0;rw [cy,g];simp
 | c::r,s,hs=>by
  by_cases q:(eO c || hX (c::r) != 0)=true
  ·have e:run (c::r)=0:=by rw [cy,if_pos q]
   rw [e];rcases hs with rfl|⟨d,r',rfl,g⟩
   ·rfl
   ·show run (d::r')=0;rw [cy,g];simp
  ·have e:run (c::r)=1+run r:=by rw [cy,if_neg q]
   rw [e,Nat.add_comm 1,List.take_succ_cons,Fb];have ih:=qo r s hs;simp at q;obtain ⟨qg,qs⟩:=q;have q2:(eO c || hX (c::(r.take (run r)++s)) != 0)=false:=by
    rw [qg];simp;have sc:cY c=false:=by
     cases r with
     | nil=>
      rw [eD] at qs;split at qs
      ·cases qs
      ·rename_i nn;simpa using nn
     | cons d r2=>
      rw [dn] at qs;split at qs
      ·cases qs
      ·split at qs
       ·cases qs
       ·rename_i nn;simpa using nn
    cases hh:r.take (run r)++s with
    | nil=>rw [eD,sc];rfl
    | cons d r2=>
     rw [dn,sc];have nd:((c == 60 && d == 60) || (c == 62 && d == 62))=false:=by
      cases r with
      | nil=>
       rw [List.take_nil,Fu] at hh;rcases hs with z|⟨c2,r3,z,g⟩
       ·rw [z] at hh;cases hh
       ·rw [z] at hh;injection hh with h1 _;subst h1;unfold eO at g;simp at g;rcases g with rfl|rfl<;>simp
      | cons d2 r3=>
       by_cases z0:run (d2::r3)=0
       ·rw [z0,List.take_zero,Fu] at hh;rcases hs with z|⟨c2,r4,z,g⟩
        ·rw [z] at hh;cases hh
        ·rw [z] at hh;injection hh with h1 _;subst h1;unfold eO at g;simp at g;rcases g with rfl|rfl<;>simp
       ·obtain ⟨k,hk⟩:∃ k,run (d2::r3)=k+1:=⟨run (d2::r3) - 1,zo⟩;rw [hk,List.take_succ_cons,Fb] at hh;injection hh with h1 _;subst h1;rw [dn] at qs;split at qs
        ·cases qs
        ·rename_i nn;simpa using nn
     rw [nd];rfl
   rw [show run (c::(r.take (run r)++s))=1+run (r.take (run r)++s) by rw [cy,if_neg (by rw [q2];decide)],ih,Nat.add_comm]
theorem tH:∀ (l:List Nat),∀ c∈l.take (run l),eO c=false
 | [],_,h=>by cases h
 | c::r,d,h=>by
  by_cases q:(eO c || hX (c::r) != 0)=true
  ·rw [cy,if_pos q] at h;cases h
  ·rw [cy,if_neg q,Nat.add_comm,List.take_succ_cons] at h;rcases Eo.mp h with z|z
   ·subst z;simp at q;exact q.1
   ·exact tH r d z
variable {d:Nat}
theorem rn (h:((c == 60 && d == 60) || (c == 62 && d == 62))=true):eO c=false/\eO d=false:=by
 simp at h;rcases h with ⟨rfl,rfl⟩|⟨rfl,rfl⟩<;>exact ⟨rfl,rfl⟩
theorem rq (h:eO d=true):((c == 60 && d == 60) || (c == 62 && d == 62))=false:=by
 unfold eO at h;simp at h;rcases h with rfl|rfl<;>simp
theorem eE (h:eO c=false):Tok ((c::r).take (one (c::r))):=by
 by_cases e:hX (c::r)=0
 ·have o:one (c::r)=run (c::r):=if_pos e;have rp:0 < run (c::r):=by rw [<-o];exact iO h
  rw [o];refine ⟨fun s hs=>?_,fun z=>?_,tH _⟩
  ·have rc:=qo (c::r) s hs;have s0:hX ((c::r).take (run (c::r))++s)=0:=by
    cases hh:(c::r).take (run (c::r))++s with
    | nil=>rfl
    | cons d r2=>
     rw [hh,cy] at rc;split at rc
     ·lia
     ·rename_i nn;simp at nn;exact nn.2
   unfold one;rw [if_pos s0,rc,Em];have:=kQ (c::r);lia
  ·have:=congrArg List.length z;rw [Em] at this;have:=kQ (c::r);simp at *;lia
 ·have o:one (c::r)=hX (c::r):=if_neg e;rw [o];have key:(cY c=true/\hX (c::r)=1)\/∃ d r2,r=d::r2/\((c == 60 && d == 60) || (c == 62 && d == 62))=true/\hX (c::r)=2:=by
   cases r with
   | nil=>
    rw [eD] at e ⊢;split at e
    ·rename_i nn;exact .inl ⟨nn,by rw [if_pos nn]⟩
    ·exact absurd rfl e
   | cons d r2=>
    rw [dn] at e ⊢;by_cases nn:((c == 60 && d == 60) || (c == 62 && d == 62))=true
    ·exact .inr ⟨d,r2,rfl,nn,by rw [if_pos nn]⟩
    ·rw [if_neg nn] at e ⊢;by_cases n2:cY c=true
     ·exact .inl ⟨n2,by rw [if_pos n2]⟩
     ·rw [if_neg n2] at e;exact absurd rfl e
  rcases key with ⟨sc,se⟩|⟨d,r2,rfl,dd,se⟩
  ·rw [se];refine ⟨fun s hs=>?_,by simp,fun x hx=>?_⟩
   ·show one (c::s)=1;have:hX (c::s)=1:=by
     rcases hs with rfl|⟨d,r2,rfl,g⟩
     ·rw [eD,if_pos sc]
     ·rw [dn,rq g,if_neg zd,if_pos sc]
    unfold one;rw [this];rfl
   ·have:x=c:=by simpa using hx
    rw [this];exact h
  ·rw [se];refine ⟨fun s hs=>?_,by simp,fun x hx=>?_⟩
   ·show one (c::d::s)=2;have:hX (c::d::s)=2:=by rw [dn,if_pos dd]
    unfold one;rw [this];rfl
   ·have hx':x=c\/x=d:=by simpa using hx
    rcases hx' with z|z
    ·rw [z];exact h
    ·rw [z];exact (rn dd).2
theorem fH:∀ (s l:List Nat),(∀ c∈s,eO c=true)->toks (s++l)=toks l
 | [],_,_=>rfl
 | c::r,l,h=>by
  rw [Fb,mI (h c Eb)];exact fH r l fun d hd=>h d (Ef _ hd)
def jn (sep:List Nat):List (List Nat)->List Nat
 | []=>[]
 | [t]=>t
 | t::u::r=>t++(sep++jn sep (u::r))
theorem qp (sep tail:List Nat) (hne:sep≠[]) (hs:∀ c∈sep,eO c=true) (ht:∀ c∈tail,eO c=true):∀ ts:List (List Nat),(∀ t∈ts,Tok t)->toks (jn sep ts++tail)=ts
 | [],_=>by
  have:=fH tail [] ht;rw [EC] at this;exact this
 | [t],h=>by
  have e:tail=[]\/∃ c r,tail=c::r/\eO c=true:=by
   cases tail with
   | nil=>exact .inl rfl
   | cons c r=>exact .inr ⟨c,r,rfl,ht c Eb⟩
  show toks (t++tail)=[t];rw [mL (h t Eb) e];have:=fH tail [] ht;rw [EC] at this;rw [this];rfl
 | t::u::r,h=>by
  show toks ((t++(sep++jn sep (u::r)))++tail)=_;rw [EH,EH];have e:sep++(jn sep (u::r)++tail)=[]\/∃ c r',sep++(jn sep (u::r)++tail)=c::r'/\eO c=true:=by
   cases hsep:sep with
   | nil=>exact absurd hsep hne
   | cons c r'=>exact .inr ⟨c,_,rfl,hs c (by rw [hsep];exact Eb)⟩
  rw [mL (h t Eb) e,fH sep _ hs,qp sep tail hne hs ht (u::r) fun x hx=>h x (Ef _ hx)]
end TK
namespace L2
open PySem PySem.Spec PyProof.Rows
def S (l:List Nat):Str:=⟨l.toArray⟩
theorem bL (l:List Nat):(S l).length=l.length:=by show l.toArray.size=_;simp
theorem S_inj {a b:List Nat}:S a=S b↔a=b:=⟨fun h=>by
 have:(S a).cps.toList=(S b).cps.toList:=by rw [h]
 simpa [S] using this,fun h=>by rw [h]⟩
def hZ (l:List Nat) (lo hi:Option Int):List Nat:=(l.drop (HT.sIx l.length 0 lo)).take (HT.sIx l.length l.length hi - HT.sIx l.length 0 lo)
theorem wl (n:Nat) (v:Option Int) (d:Nat) (hd:d<=n):HT.sIx n d v<=n:=by
 cases v with
 | none=>exact hd
 | some i=>
  show (if i < 0 then (i+(n:Int)).toNat else min i.toNat n)<=n;split<;>lia
open PySem.Builtin.Str in
theorem mM (lo hi:Option Int) (n:Nat):strSliceIndices lo hi 1 n=(List.range (HT.sIx n n hi - HT.sIx n 0 lo)).map (HT.sIx n 0 lo+·):=by
 have clip:∀ (v:Option Int) (d:Nat),d<=n->(match v with|none=>(d:Int)|some i=>max 0 (min (if i < 0 then i+(n:Int) else i) n))=((HT.sIx n d v:Nat):Int):=fun v d hd=>by
  cases v with
  | none=>rfl
  | some i=>
   show max 0 (min (if i < 0 then i+(n:Int) else i) (n:Int))=(((if i < 0 then (i+(n:Int)).toNat else min i.toNat n:Nat)):Int);by_cases h:i < 0
   ·rw [if_pos h,if_pos h];lia
   ·rw [if_neg h,if_neg h];lia
 have c1:=clip lo 0 (Ep _);have c2:=clip hi n (Ec _);rw [<-sliceRange_one];rw [<-c1,<-c2];unfold strSliceIndices;simp only [show (1:Int) > 0 by decide,if_true];cases lo<;>cases hi<;>rfl
theorem jh (l:List Nat) (a:Nat):∀ k,((List.range k).map (a+·)).filterMap (fun i=>l.toArray[i]?)=(l.drop a).take k
 | 0=>by simp
 | k+1=>by
  rw [List.range_succ,Ek,List.filterMap_append,jh l a k,List.take_add_one]
  congr 1
  rw [List.getElem?_drop];cases q:l[a+k]? with
  | none=>simp [Fg,q]
  | some v=>simp [Fg,q]
open PySem.Builtin.Str in
theorem mN (l:List Nat) (lo hi:Option Int):(if ((1:Int) == 1 && (strSliceIndices lo hi 1 (S l).length).length == (S l).length)=true then S l else ⟨((strSliceIndices lo hi 1 (S l).length).filterMap ((S l).cps[·]?)).toArray⟩)=S (hZ l lo hi):=by
 rw [bL,mM];have e:((List.range (HT.sIx l.length l.length hi - HT.sIx l.length 0 lo)).map (HT.sIx l.length 0 lo+·)).filterMap ((S l).cps[·]?)=hZ l lo hi:=jh l _ _;rw [e];by_cases c:((1:Int) == 1 && ((List.range (HT.sIx l.length l.length hi - HT.sIx l.length 0 lo)).map (HT.sIx l.length 0 lo+·)).length == l.length)=true
 ·rw [if_pos c];simp at c;have h2:=wl l.length hi l.length (Ec _);have:hZ l lo hi=l:=by
   unfold hZ;by_cases z:l.length=0
   ·have:l=[]:=Ff.mp z;subst this;simp
   ·have h0:HT.sIx l.length 0 lo=0:=by lia
    rw [h0,List.drop_zero,E5 zo]
  rw [this]
 ·rw [if_neg c];rfl
section
variable {X:Cx}
theorem oC:BV X (fun x lo hi H Q=>∃ l,x=.str (S l)/\l.length<=100000/\Q (.str (S (hZ l lo hi))) H):=by
 intro pins s σ H x v vl vu lo hi sl Q I rx hs pl pu h;obtain ⟨l,rfl,hz,q⟩:=h;obtain ⟨t,rfl⟩:=rx;obtain ⟨os,hos,hcs,hds⟩:=id hs;have sz:(100000:Nat)<=sizeLine:=by decide
 have lc:(S (hZ l lo hi)).length<=sizeLine:=by
  rw [bL];unfold hZ;rw [Em,ET];lia
 refine ⟨"str",_,F.slot_str_getitem.lookup,typeIs_str _ _ _,?_⟩;have fin:∀ (a b:Option (Int×Tok)),a.map (·.1)=lo->b.map (·.1)=hi->s.heap.IsSlice sl a b none->wpAny (model X.prog X.w) X.A (getItem (.str (S l) t) (.ref sl)) (EP X pins σ Q) X.xe s:=fun a b ea eb hS=>by
  refine wpAny_getItem_str_slice hS rfl ?_;unfold sliceMade slicePicked;rw [ea,eb];refine post_val_or_str ?_;show (if ((1:Int) == 1 && (Builtin.Str.strSliceIndices lo hi 1 (S l).length).length == (S l).length)=true then S l else ⟨((Builtin.Str.strSliceIndices lo hi 1 (S l).length).filterMap ((S l).cps[·]?)).toArray⟩).length<=sizeLine/\∀ t' k,EP X pins σ Q (.str (if ((1:Int) == 1 && (Builtin.Str.strSliceIndices lo hi 1 (S l).length).length == (S l).length)=true then S l else ⟨((Builtin.Str.strSliceIndices lo hi 1 (S l).length).filterMap ((S l).cps[·]?)).toArray⟩) t') { s with toks:=k };rw [mN];exact ⟨lc,fun t' k=>⟨.str (S (hZ l lo hi)),H,I.tok _,⟨t',rfl⟩,q⟩⟩
 cases pl with
 | none=>
  cases pu with
  | none=>exact fin none none rfl rfl ⟨os,hos,hcs,hds⟩
  | int j u=>exact fin none (some (j,u)) rfl rfl ⟨os,hos,hcs,hds⟩
 | int i u0=>
  cases pu with
  | none=>exact fin (some (i,u0)) none rfl rfl ⟨os,hos,hcs,hds⟩
  | int j u=>exact fin (some (i,u0)) (some (j,u)) rfl rfl ⟨os,hos,hcs,hds⟩
theorem gK (c:Nat) (l:List Nat):(!(Builtin.Str.occurrences (S l) (S [c]) 0 (S l).length 1).isEmpty)=decide (c∈l):=by
 rw [E1,StrLaws.found_iff,decide_eq_true_iff];constructor
 ·rintro ⟨i,hi,e⟩;rw [bL,bL] at hi;have hi':i < l.length:=by simp at hi;lia
  unfold Builtin.Str.subAt at e;have e':l.toArray.extract i (i+1)=#[c]:=eq_of_beq e;have:(l.drop i).take 1=[c]:=by
   have:=congrArg Array.toList e';simpa [List.extract_eq_drop_take] using this
  have hm:c∈(l.drop i).take 1:=by rw [this];simp
  exact List.mem_of_mem_drop (E3 hm)
 ·intro h;obtain ⟨i,hi,e⟩:=List.getElem_of_mem h;refine ⟨i,by rw [bL,bL];simp;lia,?_⟩;unfold Builtin.Str.subAt;have:l.toArray.extract i (i+1)=#[c]:=by
   apply Array.toList_inj.mp;rw [Array.toList_extract];simp [List.extract_eq_drop_take,EK hi,e]
  show (l.toArray.extract i (i+1) == #[c])=true;rw [this];exact beq_self_eq_true _
inductive xX (tb:TE) (σ:St) (Q:VK) (x:V) (H1:Hp):Prop
 | mk (l:_):x=.str (S l)->l.length<=100000->(if l=[] then tb σ H1 Q else Q (.str (S l)) H1)->xX tb σ Q x H1
def CF (ta tb:TE):TE:=fun σ H Q=>ta σ H fun x H1=>xX tb σ Q x H1
theorem yQ {a b:Expr} {rest:List Expr} {pos:Pos} {ta tb:TE} (ha:PE X a ta) (hb:PE X (.BoolOp .Or (b::rest) pos) tb):PE X (.BoolOp .Or (a::b::rest) pos) (CF ta tb):=by
 refine ⟨?_⟩;intro pins s σ H Q I h;refine BoolOp_or (bG (ha pins s σ H _ I h) fun v s1 ⟨x,H1,I1,r1,q1⟩=>?_);obtain ⟨l,rfl,hz,q1⟩:=q1;obtain ⟨t,rfl⟩:=r1;refine PySem.P.truthy_str (by rw [bL];lia) ?_;rw [bL];by_cases e:l=[]
 ·subst e;rw [if_pos rfl] at q1;exact hb pins _ σ H1 Q (I1.tok _) q1
 ·rw [if_neg e] at q1;have:((l.length:Int) != 0)=true:=by
   have:l.length≠0:=fun z=>e (Ff.mp z);simp;exact e
  rw [this];exact ⟨.str (S l),H1,I1.tok _,⟨t,rfl⟩,q1⟩
theorem gL:∀ {ys:List Str} {us:List Value},Vals (ys.map V.str) us->StrsAre us ys
 | [],_,.nil=>.nil
 | n::r,_,.cons h t=>by
  obtain ⟨tk,rfl⟩:=h;exact .cons n tk (gL t)
theorem tI (sep:List Nat) (ts:List (List Nat)):Txt.join (S sep) (ts.map S)=S (TK.jn sep ts):=by
 have go:∀ (r:List (List Nat)) (acc:List Nat),(r.map S).foldl (fun acc p=>acc++(S sep).cps++p.cps) acc.toArray=(acc++(r.map (sep++·)).flatten).toArray:=by
  intro r;induction r with
  | nil=>intro acc;simp
  | cons t r ih=>
   intro acc;rw [Er,List.foldl_cons];have:acc.toArray++(S sep).cps++(S t).cps=(acc++sep++t).toArray:=by simp [S]
   rw [this,ih];simp
 have fl:∀ (t:List Nat) (r:List (List Nat)),TK.jn sep (t::r)=t++(r.map (sep++·)).flatten:=by
  intro t r;induction r generalizing t with
  | nil=>simp [TK.jn]
  | cons u r ih=>
   show t++(sep++TK.jn sep (u::r))=_;rw [ih u];simp
 cases ts with
 | nil=>rfl
 | cons t r=>
  show (⟨((t::r).map S |>.drop 1).foldl (fun acc p=>acc++(S sep).cps++p.cps) (((t::r).map S).headD Str.empty).cps⟩:Str)=_;rw [fl];have:=go r t;show (⟨(r.map S).foldl (fun acc p=>acc++(S sep).cps++p.cps) t.toArray⟩:Str)=_;rw [this];rfl
theorem qr:Ai X "str.join" (fun x xs H Q=>∃ sep a ts,x=.str (S sep)/\xs=[.ref a]/\SqL X.K H a (ts.map fun t=>V.str (S t))/\(ts.map List.length).sum+ts.length*sep.length<=100000/\Q (.str (S (TK.jn sep ts))) H):=by
 intro pins s σ H x xs v us Q I rx rv h;obtain ⟨sep,a,ts,rfl,rfl,hS,hz,q⟩:=h;obtain ⟨t,rfl⟩:=rx;obtain ⟨u,rfl,ru⟩:=rv.one;cases ru;obtain ⟨its,r,pl,hz2⟩:=I.list hS;have e:(ts.map fun t=>V.str (S t))=(ts.map S).map V.str:=by rw [Fs];rfl
 rw [e] at r;refine join_list pl.isList (ys:=ts.map S) (by simpa using gL r) ?_ fun t' k=>?_
 ·have:((ts.map S).map (·.length)).sum=(ts.map List.length).sum:=by
   rw [Fs]
   congr 1
  rw [this,D8,bL];lia
 ·rw [tI];exact ⟨.str (S (TK.jn sep ts)),H,I.tok _,⟨t',rfl⟩,q⟩
end
end L2
namespace L2
open PySem PySem.Spec PyProof.Rows
section
variable {X:Cx}
theorem cw {T:String}:cV X (.builtin "isinstance") (fun xs H Q=>∃ x t b,xs=[x,.ty T]/\fX X.K H x t/\PySem.W.kitOne X.K t (.type T)=some b/\Q (.bl b) H):=by
 intro pins s σ H xs us Q I r h;obtain ⟨x,t,b,rfl,ty,e,q⟩:=h;cases r with
 | cons r0 rr=>
  cases rr with
  | cons r1 rr=>
   cases rr;cases r1;exact j3 I r0 ty e fun tk=>⟨.bl b,H,I.tok _,rfl,q⟩
theorem tJ:dO X (binaryOp .FloorDiv) (rI (fun _ j=>0 < j/\j < 18446744073709551616) fun i j=>.int (i / j)):=Ah fun i j _ _ _ _ _ hc q=>by
 have h1:(0:Int) < j:=hc.1;have h2:j < 18446744073709551616:=hc.2;refine floordiv_int zo (by rw [Int.fdiv_eq_ediv_of_nonneg i zo];exact q) (.inl (PyProof.noPylong_of_log2 ?_));have h3:j.natAbs≠0:=by lia
 have:j.natAbs.log2 < 64:=(Nat.log2_lt h3).mpr (by show j.natAbs < 2 ^ 64;lia);lia
def BW (l:List Nat):It:=⟨fun i _=>i < l.length,fun i H y H'=>H'=H/\∃ h:i < l.length,y=.str (S [l[i]]),fun i _=>l.length<=i⟩
variable {tg:Expr} {K:ZF} {w:World} {P:Program}
theorem oE (l:List Nat) (t:Tok) (it:Addr):kC P w K tg (BW l) [it] it (fun i h=>h.IsStrIter it "str_ascii_iterator" (S l) t i) where
 mem:=by simp
 obj:=fun i h st b hb=>by
  have e:b=it:=by simpa using hb
  subst e;obtain ⟨o,e,c,d⟩:=st;exact ⟨o,e,fun v z=>by rw [d] at z;cases z⟩
 keep:=fun i h h' st k=>let ⟨o,ho,r⟩:=st;⟨o,k it (by simp) o ho,r⟩
 item:=by
  intro X hP hw hK hc i pins s σ H E I hf st hg;subst hP hw hK;have hg':i < l.length:=hg;obtain ⟨f0,f1,f2,f3,f4,f5⟩:=hf it (by simp);refine wpAny_pyNext_ascii_item st (c:=l[i]) (by show l.toArray[i]?=_;simp [hg']) fun h' st' sb=>?_;have I1:Inv X pins σ H { s with heap:=h',toks:=s.toks+1 }:=I.turned (fun b o hb e=>(sb.2 b hb).trans e) f0 f1 f3 f4 f5;obtain ⟨o,e,c,d⟩:=id st';exact ⟨_,rfl,my (s:={ s with heap:=h',toks:=s.toks+1 }) e c d zd ⟨.str (S [l[i]]),H,I1,⟨_,rfl⟩,⟨rfl,hg',rfl⟩,st',fun b hb=>(hf b hb).1⟩⟩
 done:=by
  intro X hP hw hK hc i pins s σ H E I hf st hg;subst hP hw hK;have hg':l.length<=i:=hg;obtain ⟨f0,f1,f2,f3,f4,f5⟩:=hf it (by simp);exact wpAny_pyNext_ascii_end (I.ok.hd hc) st (by show l.toArray[i]?=_;simp [hg']) fun h' eb=>⟨rfl,I.turned (t':=s.toks) (fun b o hb e=>eb b o hb e) f0 f1 f3 f4 f5⟩
 self:=fun _ _ _ _ _ st h=>wpAny_pyIter_striter_ascii st h
theorem rB (l:List Nat) (t:Tok) (it:Addr):kC P w K tg (BW l) [it] it (fun i h=>h.IsStrIter it "str_iterator" (S l) t i) where
 mem:=by simp
 obj:=fun i h st b hb=>by
  have e:b=it:=by simpa using hb
  subst e;obtain ⟨o,e,c,d⟩:=st;exact ⟨o,e,fun v z=>by rw [d] at z;cases z⟩
 keep:=fun i h h' st k=>let ⟨o,ho,r⟩:=st;⟨o,k it (by simp) o ho,r⟩
 item:=by
  intro X hP hw hK hc i pins s σ H E I hf st hg;subst hP hw hK;have hg':i < l.length:=hg;obtain ⟨f0,f1,f2,f3,f4,f5⟩:=hf it (by simp);refine wpAny_pyNext_wide_item st (c:=l[i]) (by show l.toArray[i]?=_;simp [hg']) fun h' st' sb=>?_;have I1:Inv X pins σ H { s with heap:=h',toks:=s.toks+1 }:=I.turned (fun b o hb e=>(sb.2 b hb).trans e) f0 f1 f3 f4 f5;obtain ⟨o,e,c,d⟩:=id st';exact ⟨_,rfl,my (s:={ s with heap:=h',toks:=s.toks+1 }) e c d zd ⟨.str (S [l[i]]),H,I1,⟨_,rfl⟩,⟨rfl,hg',rfl⟩,st',fun b hb=>(hf b hb).1⟩⟩
 done:=by
  intro X hP hw hK hc i pins s σ H E I hf st hg;subst hP hw hK;have hg':l.length<=i:=hg;obtain ⟨f0,f1,f2,f3,f4,f5⟩:=hf it (by simp);exact wpAny_pyNext_wide_end (I.ok.hd hc) st (by show l.toArray[i]?=_;simp [hg']) fun h' eb=>⟨rfl,I.turned (t':=s.toks) (fun b o hb e=>eb b o hb e) f0 f1 f3 f4 f5⟩
 self:=fun _ _ _ _ _ st h=>wpAny_pyIter_striter_wide st h
inductive xY (R:It->Hp->Prop) (x:V) (H1:Hp):Prop
 | mk (l:_):x=.str (S l)->R (BW l) H1->xY R x H1
def CI (tl:TE):TI:=fun σ H R=>tl σ H fun x H1=>xY R x H1
theorem tK {tg l:Expr} {tl:TE} (hl:PE X l tl):PI X tg l (CI tl):=by
 refine ⟨?_⟩;intro pins s σ H R I h;refine bG (hl pins s σ H _ I h) fun v s1 ⟨x,H1,I1,r1,q1⟩=>?_;obtain ⟨l,e,q⟩:=q1;subst e;obtain ⟨t,rfl⟩:=r1;have fp:∀ b∈[s1.heap.objs.size],jN X pins H1 b:=fun b hb=>by
  have e:b=s1.heap.objs.size:=by simpa using hb
  subst e;exact I1.fpOk (Ec _) (I1.hok.fresh (Ec _))
 cases ha:(S l).cps.all (· < 128)
 ·exact wpAny_pyIter_wide ha ⟨s1.heap.objs.size,[s1.heap.objs.size],_,_,H1,rfl,I1.kept (t':=s1.toks) fun b o e=>D6 _ e,rB l t _,⟨_,El _ rfl,rfl,rfl⟩,fp,q⟩
 ·exact wpAny_pyIter_ascii ha ⟨s1.heap.objs.size,[s1.heap.objs.size],_,_,H1,rfl,I1.kept (t':=s1.toks) fun b o e=>D6 _ e,oE l t _,⟨_,El _ rfl,rfl,rfl⟩,fp,q⟩
theorem tO {l:List Nat} {g:TG} {tf:TT} {te:TE} {ix:List (Option Nat)} {σ:St} {H:Hp} {Q:VK} (Pv:Nat->List V->Hp->Prop) (h0:Pv 0 [] H)
  (hl:∀ i ys H,i<=l.length->Pv i ys H->ys.length<=sizeLine)
  (hs:∀ i ys H (h:i < l.length),Pv i ys H->g (.str (S [l[i]])) (mq ix σ) H fun σ2 H2=>ExtL (mq ix σ) σ2/\tf σ2 H2 fun b H3=>if b=true then te σ2 H3 fun y H4=>Nx Pv l.length i (ys++[y]) H4 else Nx Pv l.length i ys H3)
  (hd:∀ ys H,Pv l.length ys H->∀ D,H D=none->Q (.ref D) (upd H D (.lst ys))) :
  rm (BW l) g tf te ix σ H Q:=by
 refine ⟨fun i m ys H=>m=l.length - i/\i<=l.length/\Pv i ys H,⟨l.length,by simp,Ep _,h0⟩,?_⟩;rintro i m ys H ⟨rfl,hi,p⟩;have hz:=hl i ys H hi p;by_cases hlt:i < l.length
 ·refine .inr ⟨hlt,hz,fun x H' y=>?_⟩;obtain ⟨e,h,y⟩:=y;subst e y;exact hs i ys _ hlt p
 ·have e:i=l.length:=by lia
  subst e;exact .inl ⟨Ec _,hz,hd ys H p⟩
theorem gM (hc:X.calm=true):cV X (.builtin "all") (fun xs H Q=>∃ (p:Addr) (bs:List Bool),xs=[.ref p]/\SqL X.K H p (bs.map V.bl)/\Q (.bl (bs.all id)) H):=by
 intro pins s σ H xs us Q I r h;obtain ⟨p,bs,rfl,hS,q⟩:=h;obtain ⟨u,rfl,rx⟩:=gb r;cases rx;obtain ⟨its,rv,pl,hz⟩:=I.list hS;have hlen:=rv.length;rw [D8] at hlen;have hne:p≠s.heap.objs.size:=by
  obtain ⟨o,ho,_⟩:=pl.isList;exact Es (Ed ho)
 refine call_all_walk (wpAny_pyIter_list pl.isList ?_);refine ⟨s.heap.objs.size,_,_,_,_,_,fun i=>bs.getD i true,rfl,Walks.list (A:=X.A.in1) (I.ok.hd hc) s.heap.objs.size p hne its.toArray,⟨⟨_,El _ rfl,rfl,rfl⟩,pl.isList.at fun o e=>D6 _ e⟩,?_,?_⟩
 ·intro i v s' Q' E' hv hq;have hv':its[i]?=some v:=by simpa using hv
  have hlt:i < its.length:=(D7.mp hv').1;have hb:i < bs.length:=by lia
  obtain ⟨u,hu,ru⟩:=rv.get (i:=i) (x:=.bl bs[i]) (by simp [hb]);rw [hv'] at hu;cases hu;cases ru;refine wpAny_truthy_bool ?_;have e:bs.getD i true=bs[i]:=by simp [List.getD,hb]
  dsimp only at hq;rw [e] at hq;exact hq
 ·intro h' tk hk;have e:(List.range its.toArray.size).all (fun i=>bs.getD i true)=bs.all id:=by
   rw [Ea,<-hlen,E1,EQ,EQ];constructor
   ·intro z x hx;obtain ⟨i,hi,e⟩:=List.getElem_of_mem hx;have:=z i (Fl.mpr hi);rw [show bs.getD i true=bs[i] by simp [List.getD,hi],e] at this;exact this
   ·intro z i hi;have hi':=Fl.mp hi;rw [show bs.getD i true=bs[i] by simp [List.getD,hi']];exact z _ (E9 hi')
  rw [e];exact ⟨.bl _,H,I.kept fun b o e=>hk b o (fun z=>absurd (Ed e) (by rw [Eg.mp z];exact E2 _)) (D6 _ e),rfl,q⟩
end
section
variable {κ:Type} [DecidableEq κ]
def fY (kvs:List (κ×V)) (k:κ):Option V:=(kvs.find? fun kv=>decide (kv.1=k)).map (·.2)
def ia (kvs:List (κ×V)) (k:κ) (v:V):List (κ×V):=
 if (kvs.any fun kv=>decide (kv.1=k))=true then kvs.map (fun kv=>if kv.1=k then (kv.1,v) else kv) else kvs++[(k,v)]
theorem mO {k:κ}:fY ([]:List (κ×V)) k=none:=rfl
variable {r:List (κ×V)} {p:κ×V}
theorem gN {k:κ} (e:p.1=k):fY (p::r) k=some p.2:=by simp [fY,Fj,e]
theorem dS {k:κ} (e:¬ p.1=k):fY (p::r) k=fY r k:=by simp [fY,Fj,e]
theorem ji (k:κ):∀ kvs:List (κ×V),(kvs.any fun kv=>decide (kv.1=k))=(fY kvs k).isSome
 | []=>rfl
 | p::r=>by
  rw [Ft];by_cases e:p.1=k
  ·simp only [gN e,decide_eq_true e,Bool.true_or,Option.isSome_some]
  ·rw [dS e,decide_eq_false e,Bool.false_or];exact ji k r
theorem iG (kvs:List (κ×V)) (k:κ) (v:V):(ia kvs k v).length<=kvs.length+1:=by
 unfold ia;split
 ·rw [D8];lia
 ·rw [D9,Eh,E8];lia
variable {kvs:List (κ×V)}
theorem mP {k:κ} (v:V) (h:fY kvs k=none):ia kvs k v=kvs++[(k,v)]:=by
 unfold ia;rw [ji,h];exact if_neg zd
theorem RelO.isSome_eq {o:Option V} {u:Option Value} (r:RelO o u):o.isSome=u.isSome:=by
 cases o with
 | none=>cases u with
  | none=>rfl
  | some _=>exact (show False from r).elim
 | some _=>cases u with
  | none=>exact (show False from r).elim
  | some _=>rfl
theorem KV.val {vs:List (κ×Value)} (r:KV kvs vs) (k:κ):RelO (fY kvs k) (valueAt vs k):=by
 unfold KV at r;induction r with
 | nil=>exact True.intro
 | @cons p q ps qs h t ih=>
  obtain ⟨h1,h2⟩:=h;by_cases e:p.1=k
  ·have e':q.1=k:=h1.symm.trans e;have b:valueAt (q::qs) k=some q.2:=by simp [valueAt,Fj,e']
   rw [gN e,b];exact h2
  ·have e':¬ q.1=k:=fun z=>e (h1.trans z);have b:valueAt (q::qs) k=valueAt qs k:=by simp [valueAt,Fj,e']
   rw [dS e,b];exact ih
theorem KV.any {vs:List (κ×Value)} (r:KV kvs vs) (k:κ):(kvs.any fun kv=>decide (kv.1=k))=vs.any fun kv=>decide (kv.1=k):=by
 unfold KV at r;induction r with
 | nil=>rfl
 | cons h t ih=>rw [Ft,Ft,ih,h.1]
variable {u:Value} {y:V}
theorem KV.repl {vs:List (κ×Value)} (r:KV kvs vs) (k:κ) (ry:RelV y u) :
  KV (kvs.map fun kv=>if kv.1=k then (kv.1,y) else kv) (vs.map fun kv=>if kv.1=k then (kv.1,u) else kv):=by
 unfold KV at r ⊢;induction r with
 | nil=>exact .nil
 | @cons p q ps qs h t ih=>
  rw [Er,Er];refine .cons ?_ ih;obtain ⟨h1,h2⟩:=h;by_cases e:p.1=k
  ·rw [if_pos e,if_pos (h1.symm.trans e)];exact ⟨h1,ry⟩
  ·rw [if_neg e,if_neg (fun z=>e (h1.trans z))];exact ⟨h1,h2⟩
theorem KV.put {vs:List (κ×Value)} (r:KV kvs vs) (k:κ) (ry:RelV y u):KV (ia kvs k y) (stored vs k u):=by
 unfold ia stored;rw [r.any k];by_cases e:(vs.any fun kv=>decide (kv.1=k))=true
 ·rw [if_pos e,if_pos e];exact r.repl k ry
 ·rw [if_neg e,if_neg e];exact Paired.snoc r ⟨rfl,ry⟩
theorem KV.length {vs:List (κ×Value)} (r:KV kvs vs):kvs.length=vs.length:=Paired.length r
end
variable {u:Value} {w:World} {P:Program}
theorem mQ {k:dA} (r:RelV (kV k) u):(cD P w).is k u=true:=by
 cases k with
 | inl i=>obtain ⟨t,e⟩:=(show ∃ t,u=Value.int i t from r);subst e;exact mv P w i t
 | inr x=>obtain ⟨t,e⟩:=(show ∃ t,u=Value.str x t from r);subst e;exact mw P w x t
theorem kc:∀ {ks:List dA} {us:List Value},Vals (ks.map kV) us->ItemsAre (cD P w) ks us
 | [],_,r=>by rw [List.map_nil] at r;cases r;exact .nil
 | k::ks,_,r=>by
  rw [Er] at r;cases r with
  | cons h t=>exact .cons (mQ h) (kc t)
abbrev KT (H:Hp):List (List dA×V)->List (List dA×Addr×Value)->Prop:=Paired fun p q=>p.1=q.1/\H q.2.1=some (.tup (p.1.map kV))/\RelV p.2 q.2.2
variable {xs:List (List dA×Addr×Value)} {kvs:List (List dA×V)} {H:Hp}
theorem KT.val (r:KT H kvs xs) (k:List dA):RelO (fY kvs k) ((atKey xs k).map (·.2)):=by
 induction r with
 | nil=>exact True.intro
 | @cons p q ps qs h t ih=>
  obtain ⟨h1,_,h2⟩:=h;by_cases e:p.1=k
  ·have e':q.1=k:=h1.symm.trans e;have b:atKey (q::qs) k=some q.2:=by simp [atKey,Fj,e']
   rw [gN e,b];exact h2
  ·have e':¬ q.1=k:=fun z=>e (h1.trans z);have b:atKey (q::qs) k=atKey qs k:=by simp [atKey,Fj,e']
   rw [dS e,b];exact ih
variable {y:V}
theorem KT.repl (r:KT H kvs xs) (k:List dA) (ry:RelV y u) :
  KT H (kvs.map fun kv=>if kv.1=k then (kv.1,y) else kv) (xs.map (putAt k u)):=by
 induction r with
 | nil=>exact .nil
 | @cons p q ps qs h t ih=>
  rw [Er,Er];refine .cons ?_ ih;obtain ⟨h1,h2,h3⟩:=h;unfold putAt;by_cases e:p.1=k
  ·rw [if_pos e,if_pos (h1.symm.trans e)];exact ⟨h1,h2,ry⟩
  ·rw [if_neg e,if_neg (fun z=>e (h1.trans z))];exact ⟨h1,h2,h3⟩
theorem KT.put (r:KT H kvs xs) (k:List dA) {b:Addr} (hb:H b=some (.tup (k.map kV))) (ry:RelV y u) :
  KT H (ia kvs k y) (storedH xs k b u):=by
 have e:(kvs.any fun kv=>decide (kv.1=k))=(atKey xs k).isSome:=by
  rw [ji,(r.val k).isSome_eq,Option.isSome_map]
 unfold ia storedH;rw [e];by_cases q:(atKey xs k).isSome=true
 ·rw [if_pos q,if_pos q];exact r.repl k ry
 ·rw [if_neg q,if_neg q];exact Paired.snoc r ⟨rfl,hb,ry⟩
theorem KT.keeps {H H':Hp} (r:KT H kvs xs) (ht:∀ b ys,H b=some (.tup ys)->H' b=some (.tup ys)):KT H' kvs xs:=
 Paired.mapP r fun _ _ z=>⟨z.1,ht _ _ z.2.1,z.2.2⟩
section
variable {P:Program} {w:World} {H:Hp} {h:Heap} {a:Addr}
theorem xZ {u:HO} (ok:HOk P w H h) (e:Rd H a u):ObjOk P w H h a u:=e.ok ok
theorem mT {kvs:List (dA×V)} (ok:HOk P w H h) (e:Rd H a (.dK kvs)):kvs.length<=sizeLine/\(a == sysModules)=false/\∃ vs,KV kvs vs/\h.DictOf (cD P w) a vs:=
 show ObjOk P w H h a (.dK kvs) from xZ ok e
theorem x9 {kvs:List (dA×V)} (ok:HOk P w H h) (e:H a=some (.dK kvs)):kvs.length<=sizeLine/\(a == sysModules)=false/\∃ vs,KV kvs vs/\h.DictOf (cD P w) a vs:=mT ok (.inl e)
theorem jj {ks:List dA} (ok:HOk P w H h) (e:H a=some (.tup (ks.map kV))):(tupleKind (cD P w)).is h ks a:=by
 obtain ⟨_,its,r,o,h1,h2,n,h3⟩:=(show ObjOk P w H h a (.tup (ks.map kV)) from ok a _ e);exact ⟨o,its.toArray,n,h1,(Prod.mk.inj h2).1,h3,by simpa using kc r⟩
theorem mV (ok:HOk P w H h) (e:Rd H a (.dT kvs)):kvs.length<=sizeLine/\(a == sysModules)=false /\
  ∃ xs,KT H kvs xs/\h.DictOfH (tupleKind (cD P w)) a xs:=by
 obtain ⟨z,y,xs,r,o,es,ep,h1,h2,h3,h4,h5⟩:=(show ObjOk P w H h a (.dT kvs) from xZ ok e);refine ⟨z,y,xs,r,o,es,ep,h1,h2,h3,h4,fun x hx=>?_,h5⟩;have all:∀ {l:List (List dA×V)} {m:List (List dA×Addr×Value)},KT H l m->∀ x∈m,(tupleKind (cD P w)).is h x.1 x.2.1:=by
  intro l m q;induction q with
  | nil=>intro x hx;exact nomatch hx
  | @cons p q ps qs hq t ih=>
   intro x hx;rcases Eo.mp hx with e|hx
   ·subst e;exact jj ok (by rw [<-hq.1];exact hq.2.1)
   ·exact ih x hx
 exact all r x hx
theorem AT (ok:HOk P w H h) (e:H a=some (.dT kvs)):kvs.length<=sizeLine/\(a == sysModules)=false /\
  ∃ xs,KT H kvs xs/\h.DictOfH (tupleKind (cD P w)) a xs:=mV ok (.inl e)
end
def DGet (H:Hp) (a:Addr) (y:V) (r:Option V):Prop:=
 (∃ kvs k,Rd H a (.dK kvs)/\y=kV k/\r=fY kvs k)\/∃ kvs k b,Rd H a (.dT kvs)/\y=.ref b/\H b=some (.tup (k.map kV))/\r=fY kvs k
def DPut (H:Hp) (a:Addr) (y v:V) (H':Hp):Prop:=
 (∃ kvs k,H a=some (.dK kvs)/\y=kV k/\kvs.length < sizeLine/\H'=upd H a (.dK (ia kvs k v))) ∨
 ∃ kvs k b,H a=some (.dT kvs)/\y=.ref b/\H b=some (.tup (k.map kV))/\kvs.length < sizeLine/\H'=upd H a (.dT (ia kvs k v))
variable {a:Addr}
theorem DGet.k {kvs:List (dA×V)} {k:dA} (e:H a=some (.dK kvs)):DGet H a (kV k) (fY kvs k):=.inl ⟨kvs,k,.inl e,rfl,rfl⟩
theorem DPut.k {kvs:List (dA×V)} {k:dA} {v:V} (e:H a=some (.dK kvs)) (hl:kvs.length < sizeLine):DPut H a (kV k) v (upd H a (.dK (ia kvs k v))):=.inl ⟨kvs,k,e,rfl,hl,rfl⟩
section
variable {X:Cx} {pins:List (Addr×Obj)} {σ:St} {H:Hp} {s:Shared} {a:Addr} {y v:V} {u r:Value} {o:Option V} {A:Around} {E:Value->Shared->Prop}
theorem Inv.big (I:Inv X pins σ H s):sysModules < s.heap.objs.size:=by
 have h:mainGlobals < s.heap.objs.size:=(I.mod.glob.keeps I.bk).lt;exact Nat.lt_trans zd h
variable {Q:Value->Shared->Prop}
theorem rC (hu:A.units+1 < cLine) (I:Inv X pins σ H s) (g:DGet H a y (some v)) (ry:RelV y u) (h:∀ w' s',Inv X pins σ H s'->RelV v w'->Q w' s') :
  wpAny (model X.prog X.w) A (getItem (.ref a) u) Q E s:=by
 rcases g with ⟨kvs,k,e,ey,l⟩|⟨kvs,k,b,e,ey,eb,l⟩
 ·subst ey;obtain ⟨z,hd,vs,rel,dd⟩:=mT I.hok e;obtain ⟨w',hw,rw'⟩:=RelO.some_of (v:=v) (o:=valueAt vs k) (by rw [l];exact rel.val k);exact wpAny_getItem_of (mQ ry) dd.mapOf hw (h w' _ (I.tok _) rw')
 ·subst ey;cases (show u=Value.ref b from ry);obtain ⟨z,hd,xs,rel,dd⟩:=mV I.hok e;obtain ⟨w',hw,rw'⟩:=RelO.some_of (v:=v) (o:=(atKey xs k).map (·.2)) (by rw [l];exact rel.val k);obtain ⟨p,hp,hp2⟩:=Option.map_eq_some_iff.mp hw;refine wpAny_getItem_heap (tupleKind_room_in1 hu) (jj I.hok eb) dd hp ?_;rw [hp2];exact h w' _ (I.tok _) rw'
theorem CJ (hu:A.units+1 < cLine) (I:Inv X pins σ H s) (g:DGet H a y o) (ry:RelV y u) (h:∀ s',Inv X pins σ H s'->Q (.bool o.isSome) s') :
  wpAny (model X.prog X.w) A (compareOp .In u (.ref a)) Q E s:=by
 rcases g with ⟨kvs,k,e,ey,l⟩|⟨kvs,k,b,e,ey,eb,l⟩
 ·subst ey;obtain ⟨z,hd,vs,rel,dd⟩:=mT I.hok e;refine wpAny_in_of (mQ ry) hd dd.mapOf ?_;rw [<-(rel.val k).isSome_eq,<-l];exact h _ (I.tok _)
 ·subst ey;cases (show u=Value.ref b from ry);obtain ⟨z,hd,xs,rel,dd⟩:=mV I.hok e;refine wpAny_in_heap (tupleKind_room_in1 hu) (jj I.hok eb) hd dd ?_;have q:=(rel.val k).isSome_eq;rw [Option.isSome_map] at q;rw [<-q,<-l];exact h _ (I.tok _)
theorem wm (hu:A.units+1 < cLine) (I:Inv X pins σ H s) (g:DGet H a y o) (ry:RelV y u) (h:∀ s',Inv X pins σ H s'->Q (.bool (!o.isSome)) s') :
  wpAny (model X.prog X.w) A (compareOp .NotIn u (.ref a)) Q E s:=by
 rcases g with ⟨kvs,k,e,ey,l⟩|⟨kvs,k,b,e,ey,eb,l⟩
 ·subst ey;obtain ⟨z,hd,vs,rel,dd⟩:=mT I.hok e;refine wpAny_notIn_of (mQ ry) hd dd.mapOf ?_;rw [<-(rel.val k).isSome_eq,<-l];exact h _ (I.tok _)
 ·subst ey;cases (show u=Value.ref b from ry);obtain ⟨z,hd,xs,rel,dd⟩:=mV I.hok e;refine wpAny_notIn_heap (tupleKind_room_in1 hu) (jj I.hok eb) hd dd ?_;have q:=(rel.val k).isSome_eq;rw [Option.isSome_map] at q;rw [<-q,<-l];exact h _ (I.tok _)
theorem qt {h':Heap} {t':Nat} {ob:HO} (I:Inv X pins σ H s) (mu:Am (H a)) (hs:Heap.SameBut a s.heap h') (he:∃ q,h'.get? a=some q) (new:ObjOk X.prog X.w (upd H a ob) h' a ob) :
  Inv X pins σ (upd H a ob) { s with heap:=h',toks:=t' }:=
 I.write (x:=a) (e:=a) mu (.inl rfl) (fun b q hb z=>(hs.2 b hb).trans z) he new
theorem tP {H':Hp} {h':Heap} {kvs:List (dA×V)} {vs:List (dA×Value)} (z:kvs.length<=sizeLine) (hd:(a == sysModules)=false) (rel:KV kvs vs) (dd:h'.DictOf (cD P w) a vs) :
  ObjOk P w H' h' a (.dK kvs):=⟨z,hd,vs,rel,dd⟩
theorem rD {H':Hp} {Q:Unit->Shared->Prop} (hu:A.units+1 < cLine) (I:Inv X pins σ H s) (g:DPut H a y v H') (ry:RelV y u) (rv:RelV v r) (h:∀ s',Inv X pins σ H' s'->Q () s') :
  wpAny (model X.prog X.w) A (setItem (.ref a) u r) Q E s:=by
 rcases g with ⟨kvs,k,e,ey,l,eH⟩|⟨kvs,k,b,e,ey,eb,l,eH⟩
 ·subst ey eH;obtain ⟨z,hd,vs,rel,dd⟩:=x9 I.hok e;have hz:vs.length<=sizeLine:=by rw [<-rel.length];exact z
  have hl:(ia kvs k v).length<=sizeLine:=by have:=iG kvs k v;lia
  refine wpAny_setItem_pairs (hsz:=hz) (mQ ry) dd fun h' dd' hs=>h _ ?_;have he:∃ q,h'.get? a=some q:=let ⟨q,_,_,hq,_⟩:=dd';⟨q,hq⟩;exact qt I (by rw [e];exact True.intro) hs he (tP hl hd (rel.put k rv) dd')
 ·subst ey eH;cases (show u=Value.ref b from ry);obtain ⟨z,hd,xs,rel,dd⟩:=AT I.hok e;have hz:xs.length<=sizeLine:=by rw [<-Paired.length rel];exact z
  have hl:(ia kvs k v).length<=sizeLine:=by have:=iG kvs k v;lia
  refine wpAny_setItem_heap (hsz:=hz) (tupleKind_room_in1 hu) (jj I.hok eb) dd fun h' dd' hs=>h _ ?_;obtain ⟨q,es,ep,hq,h2,h3,h4,_,h5⟩:=dd';refine qt I (by rw [e];exact True.intro) hs ⟨q,hq⟩ ⟨hl,hd,_,(rel.put k eb rv).keeps fun c ys ec=>?_,q,es,ep,hq,h2,h3,h4,h5⟩;rw [aj (Al ec e (fun z=>nomatch z))];exact ec
end
def AU (i:Expr):Prop:=∀ ov iv,subscripted i false ov iv=operate [ov,iv] (getItem ov iv)
theorem wo {prog:Program} {w:World} {A:Around} {E:Value->Shared->Prop} {s:Shared} {env:Env} {value slice:Expr} {pos:Pos} {T id:String} {Q:Value->Shared->Prop}
  (hl:typeLookup (.type T) "__getitem__"=pure (some (.builtin id))) (hs:AU slice)
  (h:wpAny (model prog w) A (eval value env) (fun o s₁=>wpAny (model prog w) A (eval slice env) (fun i s₂=>s₂.TypeIs o T/\wpAny (model prog w) A (getItem o i) Q E s₂) E s₁) E s) :
  wpAny (model prog w) A (eval (.Subscript value slice pos) env) Q E s:=by
 refine Subscript_ (wpAny_mono h (fun o s₁ h₁=>wpAny_mono h₁ (fun i s₂ h₂=>?_) fun _ _ x=>x) fun _ _ x=>x);obtain ⟨hT,h₂⟩:=h₂;unfold subscriptTail;refine wpAny_bind ?_;rw [getitemInPython_of_ne hT.not_modules];refine wpAny_bind (wpAny_specialOf hT hl ?_);have fin:wpAny (model prog w) A (subscripted slice false o i) (fun r s₃=>wpAny (model prog w) A (letTemporaryGo value o r >>= fun _=>pure r) Q E s₃) E s₂:=by
  rw [hs o i];exact wpAny_operating (wpAny_mono h₂ (fun r s₃ h₃=>wpAny_bind (wpAny_letTemporaryGo (wpAny_pure h₃))) fun _ _ x=>x)
 first
  | exact wpAny_pure (wpAny_bind fin)
  | exact wpAny_bind (wpAny_pure (wpAny_bind fin))
  | exact wpAny_bind fin
variable {σ:St} {X:Cx}
theorem mW {pins:List (Addr×Obj)} {s:Shared} {o:Option V} (I:Inv X pins σ H s) (g:DGet H a y o):s.TypeIs (.ref a) "dict":=by
 rcases g with ⟨kvs,k,e,_,_⟩|⟨kvs,k,b,e,_,_,_⟩
 ·obtain ⟨_,_,vs,_,dd⟩:=mT I.hok e;exact dd.typeIs
 ·obtain ⟨_,_,xs,_,dd⟩:=mV I.hok e;exact dd.typeIs
inductive tQ (Q:VK) (x:V) (y:V) (H2:Hp):Prop
 | mk (a v:_):x=.ref a->DGet H2 a y (some v)->Q v H2->tQ Q x y H2
def AV (td ty:TE):TE:=fun σ H Q=>td σ H fun x H1=>ty σ H1 fun y H2=>tQ Q x y H2
inductive ya (Q:VK) (y:V) (x:V) (H2:Hp):Prop
 | mk (a o:_):x=.ref a->DGet H2 a y o->Q (.bl o.isSome) H2->ya Q y x H2
def CM (ty td:TE):TE:=fun σ H Q=>ty σ H fun y H1=>td σ H1 fun x H2=>ya Q y x H2
inductive mX (Q:VK) (y:V) (x:V) (H2:Hp):Prop
 | mk (a o:_):x=.ref a->DGet H2 a y o->Q (.bl (!o.isSome)) H2->mX Q y x H2
def wq (ty td:TE):TE:=fun σ H Q=>ty σ H fun y H1=>td σ H1 fun x H2=>mX Q y x H2
inductive tR (D:Ends) (σ:St) (v:V) (x:V) (y:V) (H3:Hp):Prop
 | mk (a H4:_):x=.ref a->DPut H3 a y v H4->D.nx σ H4->tR D σ v x y H3
def AW (td ty tv:TE):TS:=fun D σ H=>tv σ H fun v H1=>td σ H1 fun x H2=>ty σ H2 fun y H3=>tR D σ v x y H3
section
variable {X:Cx} {o i e value:Expr} {pos pos' tpos:Pos} {td ty tv:TE}
theorem wu (hu:X.A.units+1 < cLine) (ho:PE X o td) (hi:PE X i ty) (hs:AU i:=by intro _ _;rfl):PE X (.Subscript o i pos) (AV td ty):=by
 refine ⟨?_⟩;intro pins s σ H Q I h;refine wo PySem.F.slot_dict_getitem.lookup hs (bG (ho pins s σ H _ I h) fun u s1 ⟨x,H1,I1,rx,q1⟩=>bG (hi pins s1 σ H1 _ I1 q1) fun iv s2 ⟨y,H2,I2,ry,a,v,ex,g,q2⟩=>?_);subst ex;obtain rfl:u=Value.ref a:=rx;exact ⟨mW I2 g,rC hu I2 g ry fun w' s3 I3 rw'=>⟨v,H2,I3,rw',q2⟩⟩
theorem tU (hu:X.A.units+1 < cLine) (hi:PE X i ty) (ho:PE X o td):PC X .In i o (CM ty td):=by
 intro pins s σ H Q I h;refine bG (hi pins s σ H _ I h) fun iv s1 ⟨y,H1,I1,ry,q1⟩=>bG (ho pins s1 σ H1 _ I1 q1) fun u s2 ⟨x,H2,I2,rx,a,ov,ex,g,q2⟩=>?_;subst ex;obtain rfl:u=Value.ref a:=rx;exact CJ hu I2 g ry fun s3 I3=>⟨.bl ov.isSome,H2,I3,rfl,q2⟩
theorem rE (hu:X.A.units+1 < cLine) (hi:PE X i ty) (ho:PE X o td):PC X .NotIn i o (wq ty td):=by
 intro pins s σ H Q I h;refine bG (hi pins s σ H _ I h) fun iv s1 ⟨y,H1,I1,ry,q1⟩=>bG (ho pins s1 σ H1 _ I1 q1) fun u s2 ⟨x,H2,I2,rx,a,ov,ex,g,q2⟩=>?_;subst ex;obtain rfl:u=Value.ref a:=rx;exact wm hu I2 g ry fun s3 I3=>⟨.bl (!ov.isSome),H2,I3,rfl,q2⟩
theorem qu (hu:X.A.units+1 < cLine) (ho:PE X o td) (hi:PE X i ty) (hv:PE X value tv) (hs:swapsWith value (some (.Subscript o i pos')) pos.line X.env=pure false) :
  PS X (.Assign [.Subscript o i pos'] value pos) (AW td ty tv):=by
 refine ⟨?_⟩;intro pins s σ H D I h;refine wpAny_Assign_Subscript (bG (hv pins s σ H _ I h) fun r s1 ⟨v,H1,I1,rv,q1⟩=>bG (ho pins s1 σ H1 _ I1 q1) fun u s2 ⟨x,H2,I2,rx,q2⟩=>bG (hi pins s2 σ H2 _ I2 q2) fun iv s3 ⟨y,H3,I3,ry,a,H4,ex,g,q3⟩=>?_) hs;subst ex;obtain rfl:u=Value.ref a:=rx;exact rD hu I3 g ry rv fun s4 I4=>⟨σ,H4,I4,q3⟩
end
theorem tV (h:Heap) (hb:sysModules < h.objs.size):ObjOk P w H (h.push { cls:=.type "dict",data:=.dict #[] }) h.objs.size (.dK []):=
 ⟨Ep _,beq_eq_false_iff_ne.mpr (Ne.symm (Es hb)),[],.nil,Heap.DictOf.new h⟩
def yR:TE:=fun _ H Q=>∀ p,H p=none->Q (.ref p) (upd H p (.dK []))
section
variable {X:Cx} {pos:Pos}
theorem jk:PE X (.Dict [] [] pos) yR:=⟨fun pins s σ H Q I h=>
 wpAny_Dict_empty ⟨.ref s.heap.objs.size,_,I.laid (a:=s.heap.objs.size) (o:=.dK []) (t':=s.toks) (fun _ _ q=>D6 _ q) (Ec _) (tV s.heap I.big),rfl,h _ (I.hok.fresh (Ec _))⟩⟩
end
def CQ (P:St->Hp->Prop) (t u:TS):TS:=fun D σ H=>(∀ σ' H',P σ' H'->u D σ' H')/\t { D with nx:=P } σ H
theorem bJ {st:Stmt} {rest:List Stmt} {t u:TS} (P:St->Hp->Prop) (h1:PS X st t) (h2:PSs X rest u):PSs X (st::rest) (CQ P t u):=by
 refine ⟨?_⟩;intro pins s σ H D I h;refine wpAny_execs_cons (bG (h1 pins s σ H { D with nx:=P } I h.2) fun f s1 q=>?_);cases f with
 | next=>
  obtain ⟨σ',H',I',q⟩:=q;exact h2 pins s1 σ' H' D I' (h.1 _ _ q)
 | ret v=>exact q
 | brk=>exact q
 | cont=>exact q
def AX (Pt Pf:St->Hp->Prop) (t:TT):TT:=fun σ H Q=>(∀ H',Pt σ H'->Q true H')/\(∀ H',Pf σ H'->Q false H')/\t σ H fun b H'=>if b=true then Pt σ H' else Pf σ H'
variable {e:Expr}
theorem oF {t:TT} (Pt Pf:St->Hp->Prop) (h:PT X e t):PT X e (AX Pt Pf t):=by
 refine ⟨?_⟩;intro pins s σ H Q I hq;refine bG (h pins s σ H _ I hq.2.2) fun b s1 ⟨H1,I1,q⟩=>⟨H1,I1,?_⟩;cases b with
 | true=>exact hq.1 H1 (by simpa using q)
 | false=>exact hq.2.1 H1 (by simpa using q)
theorem jl {K:ZF} {a:Addr} {xs:List V} {g:TG} {tf:TT} {te:TE} {ix:List (Option Nat)} {σ:St} {Q:VK} (Pv:Nat->List V->Hp->Prop) (h0:Pv 0 [] H)
  (hl:∀ i ys H,i<=xs.length->Pv i ys H->SqT K H a xs/\ys.length<=sizeLine)
  (hs:∀ i x ys H,xs[i]?=some x->Pv i ys H->g x (mq ix σ) H fun σ2 H2=>ExtL (mq ix σ) σ2/\tf σ2 H2 fun b H3=>if b=true then te σ2 H3 fun y H4=>Nx Pv xs.length i (ys++[y]) H4 else Nx Pv xs.length i ys H3)
  (hd:∀ ys H,Pv xs.length ys H->∀ D,H D=none->Q (.ref D) (upd H D (.lst ys))) :
  rm (Ag K a) g tf te ix σ H Q:=by
 refine ⟨fun i m ys H=>m=xs.length - i/\i<=xs.length/\Pv i ys H,⟨xs.length,by simp,Ep _,h0⟩,?_⟩;rintro i m ys H ⟨rfl,hi,p⟩;obtain ⟨q,hz⟩:=hl i ys H hi p;by_cases hlt:i < xs.length
 ·refine .inr ⟨⟨xs,xs[i],q,by simp [hlt]⟩,hz,fun x H' y=>?_⟩;obtain ⟨e,y⟩:=y;subst e;exact hs i x ys _ (y xs q) p
 ·have e:i=xs.length:=by lia
  subst e;exact .inl ⟨⟨xs,q,Ec _⟩,hz,hd ys H p⟩
section
variable {X:Cx}
theorem mY:∀ {Ts:List String} {us:List Value},Vals (Ts.map V.ty) us->us=Ts.map Value.type
 | [],_,.nil=>rfl
 | c::r,_,.cons h t=>by
  cases h;rw [Er,mY t]
end
def TupK (H H':Hp):Prop:=∀ a xs,H a=some (.tup xs)->H' a=some (.tup xs)
theorem TupK.trans {H H1 H2:Hp} (a:TupK H H1) (b:TupK H1 H2):TupK H H2:=fun c x e=>b c x (a c x e)
theorem bn {H H':Hp} (s:Same H H'):TupK H H':=fun a xs e=>s _ _ e
def yb (x:Str):Bool:=(PyData.str x).canLay0
section
variable {X:Cx}
inductive qv (X:Cx) (m:Str) (t:TA) (σ:St) (Q:VK) (x:V) (H1:Hp):Prop
 | mk (a dx C f:Addr) (fs:List (Str×V)) (fd:FuncData) (k:Nat) (ps:List Str) (sp:Sp):x=.ref a->H1 a=some (.ins C dx fs)->fs.lookup m=none->Cls X.K C->kG X.K C m f->FnOk X.prog X.w X.K X.mg X.base bM k f fd ps sp->Room k X.A->Binds X.K fd ps []->(t σ H1 fun vs H2=>sp (.ref a::vs) H2 Q E0)->qv X m t σ Q x H1
def yS (X:Cx) (m:Str) (ta:TE) (t:TA):TE:=fun σ H Q=>ta σ H fun x H1=>qv X m t σ Q x H1
variable {ta:TE} {o:Expr}
theorem bK {pl:Sem Bool} {es:List Expr} {m:Str} {t:TA} {pos apos:Pos} (he:PE X o ta) (ha:PA X (e::es) t)
  (hst:starEach (e::es) X.env=(false,eval e X.env)::starEach es X.env:=by rfl) (hpl:(backTo pos (starEach es X.env)).any (·.1)=false:=by rfl)
  (ht:eval (.Call (.Attribute o m apos) (e::es) [] pos) X.env=(do
   let ov <-eval o X.env
   standAt apos.atName
   let (f,first) <-holding [ov] (getMethod ov m pl)
   callWith pos f first (backTo pos (starEach (e::es) X.env)) (backToKw pos (keywordEach [] X.env))):=by rfl) :
  PE X (.Call (.Attribute o m apos) (e::es) [] pos) (yS X m ta t):=by
 refine ⟨?_⟩;intro pins s σ H Q I h;refine PySem.W.methodCall_KW (pl:=pl) (bG (he pins s σ H _ I h) fun u s1 ⟨x,H1,I1,rx,a,dx,C,f,fs,fd,k,ps,sp,ex,ea,l,c,hm,F,hr,hb,q⟩=>?_) ht;subst ex;obtain rfl:u=Value.ref a:=rx;refine eA I1 ea c hm l ?_;refine EX (first:=[.ref a]) (h₀:=X.base) I.ok.mod.kin hm.kp (bG (ha pos pins s1 σ H1 _ I1 q) fun us s2 ⟨vs,H2,I2,r,q2⟩=>⟨I2.kIn,?_⟩) hst hpl;exact jb (us:=.ref a::us) (vs:=.ref a::vs) (dvs:=[]) (ds:=[]) F hr hb .nil cm I2 (.cons rfl r) (by rw [EC];exact q2)
inductive mZ (X:Cx) (m:Str) (Q:VK) (x:V) (H1:Hp):Prop
 | mk (a dx C f:Addr) (fs:List (Str×V)) (fd:FuncData) (k:Nat) (ps:List Str) (sp:Sp):x=.ref a->H1 a=some (.ins C dx fs)->fs.lookup m=none->Cls X.K C->kG X.K C m f->FnOk X.prog X.w X.K X.mg X.base bM k f fd ps sp->Room k X.A->Binds X.K fd ps []->sp [.ref a] H1 Q E0->mZ X m Q x H1
def ww (X:Cx) (m:Str) (ta:TE):TE:=fun σ H Q=>ta σ H fun x H1=>mZ X m Q x H1
theorem aP {pl:Sem Bool} {m:Str} {pos apos:Pos} (he:PE X o ta)
  (ht:eval (.Call (.Attribute o m apos) [] [] pos) X.env=(do
   let ov <-eval o X.env
   standAt apos.atName
   let (f,first) <-holding [ov] (getMethod ov m pl)
   callWith pos f first (backTo pos (starEach [] X.env)) (backToKw pos (keywordEach [] X.env))):=by rfl) :
  PE X (.Call (.Attribute o m apos) [] [] pos) (ww X m ta):=by
 refine ⟨?_⟩;intro pins s σ H Q I h;refine PySem.W.methodCall_KW (pl:=pl) (bG (he pins s σ H _ I h) fun u s1 ⟨x,H1,I1,rx,a,dx,C,f,fs,fd,k,ps,sp,ex,ea,l,c,hm,F,hr,hb,q⟩=>?_) ht;subst ex;obtain rfl:u=Value.ref a:=rx;refine eA I1 ea c hm l ?_;exact PySem.W.callWith_K0 (first:=[.ref a]) I1.kIn hm.kp (jb (us:=[.ref a]) (vs:=[.ref a]) (dvs:=[]) (ds:=[]) F hr hb .nil cm I1 (.cons rfl .nil) q)
end
def AY (K:ZF) (l:Addr):It:=
 ⟨fun i H=>∃ xs x,SqL K H l xs/\xs[i]?=some x,
  fun i H v H'=>∃ T x,v=.ref T/\H T=none/\H'=upd H T (.tup [.int i,x])/\∀ xs,SqL K H l xs->xs[i]?=some x,
  fun i H=>∃ xs,SqL K H l xs/\xs.length<=i⟩
theorem rF {P:Program} {w:World} {K:ZF} {elts:List Expr} {kt:Nat} {tp:Pos} {e it l:Addr} (hne:e≠it) :
  kC P w K (.Tuple elts kt tp) (AY K l) [e,it] e (fun i h=>(∃ old,IsEnum h e it i old)/\h.IsListIter it l i) where
 mem:=by simp
 obj:=fun i h st b hb=>by
  obtain ⟨⟨old,he⟩,⟨o1,h1,_,d1⟩⟩:=st;simp at hb;rcases hb with rfl|rfl
  ·exact ⟨_,he,fun v q=>by cases q⟩
  ·exact ⟨_,h1,fun v q=>by rw [d1] at q;cases q⟩
 keep:=fun i h h' st k=>by
  obtain ⟨⟨old,he⟩,h1⟩:=st;exact ⟨⟨old,k e (by simp) _ he⟩,h1.at fun o q=>k it (by simp) o q⟩
 item:=by
  intro X hP hw hK hc i pins s σ H E I hf st hg;subst hP hw hK;obtain ⟨xs,x,hx,ex⟩:=hg;obtain ⟨⟨old,he⟩,h1⟩:=st;obtain ⟨its1,rv1,p1,z1⟩:=I.list hx;obtain ⟨u1,eu1,ru1⟩:=rv1.get ex;refine wpAny_pyNext_enum_item he h1 p1.isList (x:=u1) (by simpa using eu1) hne fun h' a1 a2 a3 a4 a5=>⟨_,rfl,?_⟩;refine wpAny_letOwnedTupleGo_enum a1 fun h'' b1 b2=>?_;have hT:H s.heap.objs.size=none:=I.hok.fresh (Ec _);have low:∀ b o,s.heap.get? b=some o->b≠s.heap.objs.size:=fun b o q=>Es (Ed q);refine ⟨.ref s.heap.objs.size,upd H s.heap.objs.size (.tup [.int i,x]),?_,rfl,⟨s.heap.objs.size,x,rfl,hT,rfl,fun xs' h=>by rw [I.list_inj h hx];exact ex⟩,?_,fun b hb=>?_⟩
  ·show Inv X pins σ (upd H s.heap.objs.size (.tup [.int i,x])) { s with heap:=h'',toks:=s.toks+1 };refine Inv.turnedS (s:=s) (h':=h'') (t':=s.toks+1) (ch:=[e,it]) I (fun b hb=>hf b hb) (fun b o hc q=>?_) (fun b o q=>by rw [aj (aq q hT)];exact q) (fun b hb n=>by rw [aj (Es hb)];exact n) fun b o n q=>?_
   ·simp at hc;exact b2.extBut b o hc.1 (a5 b o hc.1 hc.2 q)
   ·by_cases eb:b=s.heap.objs.size
    ·subst eb;rw [ae] at q;cases q;refine ⟨zlx,[.int i s.toks,u1],.cons ⟨_,rfl⟩ (.cons ru1 .nil),_,b2.extBut _ _ ?_ a3,rfl,_,rfl⟩;exact fun z=>low e _ he z.symm
    ·rw [aj eb,n] at q;cases q
  ·refine ⟨⟨_,b1⟩,a2.at fun o q=>b2.extBut _ o hne.symm q⟩
  ·have n:=(hf b hb).1;have:b≠s.heap.objs.size:=by
    simp at hb;obtain ⟨_,q1,_⟩:=id h1;rcases hb with rfl|rfl
    ·exact low _ _ he
    ·exact low _ _ q1
   rw [aj this];exact n
 done:=by
  intro X hP hw hK hc i pins s σ H E I hf st hg;subst hP hw hK;obtain ⟨xs,hx,hl⟩:=hg;obtain ⟨⟨old,he⟩,h1⟩:=st;obtain ⟨its1,rv1,p1,z1⟩:=I.list hx;have e1:=rv1.length;refine wpAny_pyNext_enum_end (I.ok.hd hc) he h1 p1.isList (by simp;lia) fun h' k=>⟨rfl,?_⟩;obtain ⟨f0,f1,f2,f3,f4,f5⟩:=hf it (by simp);exact I.turned (t':=s.toks) (fun b o hb q=>k b o hb q) f0 f1 f3 f4 f5
 self:=fun _ _ _ _ _ st h=>wpAny_pyIter_enum st.1.choose_spec h
section
variable {X:Cx}
inductive tW (K:ZF) (R:It->Hp->Prop) (vs:List V) (H1:Hp):Prop
 | mk (l:_):vs=[.ref l]->(∃ xs,SqL K H1 l xs)->R (AY K l) H1->tW K R vs H1
def AZ (K:ZF) (ta:TA):TI:=fun σ H R=>ta σ H fun vs H1=>tW K R vs H1
theorem ke:bootBuiltins "enumerate"=some (.type "enumerate"):=by decide +kernel
theorem wx {elts:List Expr} {kt:Nat} {tp:Pos} {a:Expr} {ta:TA} {p pos:Pos} (hg:Gl X "enumerate") (hm:X.mg "enumerate"=none) (ha:PA X [a] ta) (hs:starEach [a] X.env=[(false,eval a X.env)]:=by rfl) :
  PI X (.Tuple elts kt tp) (.Call (.Name "enumerate" p) [a] [] pos) (AZ X.K ta):=by
 refine ⟨?_⟩;intro pins s σ H R I h;refine Call_ (eP I hg hm ke (EL (bG (ha pos pins s σ H _ I h) fun us s1 ⟨vs,H1,I1,r1,q1⟩=>?_) hs rfl));obtain ⟨l,e,⟨xs,hx⟩,q⟩:=q1;subst e;cases r1 with
 | cons r rr=>
  cases rr;cases r;obtain ⟨its1,rv1,p1,z1⟩:=I1.list hx;refine call_enumerate_list p1.isList fun h' a1 a2 a3 a4=>?_;refine wpAny_pyIter_enum a1 ?_;refine ⟨_,[s1.heap.objs.size+1,s1.heap.objs.size],_,_,H1,rfl,I1.kept (t':=s1.toks) a4,rF (Fv (Fi _)),⟨⟨_,a1⟩,a2⟩,fun b hb=>?_,q⟩;have hb':s1.heap.objs.size<=b:=by
   simp only [Eo,EE,or_false] at hb;rcases hb with e|e<;>rw [e]
   ·exact Nat.le_add_right _ _
   ·exact Ec _
  exact I1.fpOk hb' (I1.hok.fresh hb')
end
theorem tX {K:ZF} {l:Addr} {xs:List V} {g:TG} {tb:TS} {D:Ends} (Pv:Nat->St->Hp->Prop) (h0:Pv 0 σ H) (hl:∀ i σ H,i<=xs.length->Pv i σ H->SqL K H l xs)
  (hs:∀ i x σ H T,xs[i]?=some x->H T=none->Pv i σ H->g (.ref T) σ (upd H T (.tup [.int i,x])) fun σ2 H2=>tb { D with nx:=Pv (i+1),ct:=Pv (i+1),bk:=D.nx } σ2 H2) (hd:∀ σ H,Pv xs.length σ H->D.nx σ H) :
  ∃ W:Nat->Nat->St->Hp->Prop,(∃ m,W 0 m σ H)/\∀ i m σ H,W i m σ H->
   ((AY K l).stop i H/\D.nx σ H)\/((AY K l).go i H/\∃ N:St->Hp->Prop,(∀ σ' H',N σ' H'->∃ m',m' < m/\W (i+1) m' σ' H')/\∀ x H',(AY K l).yld i H x H'->g x σ H' fun σ2 H2=>tb { D with nx:=N,ct:=N,bk:=D.nx } σ2 H2):=by
 refine ⟨fun i m σ H=>m=xs.length - i/\i<=xs.length/\Pv i σ H,⟨xs.length,by simp,Ep _,h0⟩,?_⟩;rintro i m σ H ⟨rfl,hi,p⟩;have q:=hl i σ H hi p;by_cases hlt:i < xs.length
 ·refine .inr ⟨⟨xs,xs[i],q,by simp [hlt]⟩,Pv (i+1),fun σ' H' p'=>⟨xs.length - (i+1),zo,rfl,hlt,p'⟩,fun v H' y=>?_⟩;obtain ⟨T,x,e1,hT,e2,hy⟩:=y;subst e1 e2;exact hs i x σ H T (hy xs q) hT p
 ·have e:i=xs.length:=by lia
  subst e;exact .inl ⟨⟨xs,q,Ec _⟩,hd σ H p⟩
section
variable {X:Cx}
theorem oG:cV X (.type "dict") (fun xs H Q=>∃ (d:Addr) (kvs:List (dA×V)),xs=[.ref d]/\H d=some (.dK kvs)/\∀ a,H a=none->Q (.ref a) (upd H a (.dK kvs))):=by
 intro pins s σ H xs us Q I r h;obtain ⟨d,kvs,rfl,hd,q⟩:=h;obtain ⟨u,rfl,rx⟩:=gb r;cases rx;obtain ⟨hz,hs,vs,rel,dd⟩:=x9 I.hok hd;refine PySem.kt_call_dict hs dd (by rw [<-rel.length];exact hz) fun h' hd' hsb=>?_;have hk:∀ b o,s.heap.get? b=some o->h'.get? b=some o:=fun b o e=>hsb.extBut b o (Es (Ed e)) (D6 _ e);have hbig:=I.big;have e:s={ s with toks:=s.toks }:=by cases s;rfl
 refine ⟨.ref s.heap.objs.size,_,I.laid (t':=s.toks) (a:=s.heap.objs.size) (o:=.dK kvs) hk (Ec _) ?_,rfl,q _ (I.hok.fresh (Ec _))⟩;exact tP hz (by
  have:¬ s.heap.objs.size=sysModules:=Fv hbig;simpa using this) rel hd'
end
end L2
namespace PySem
open Sem (wp)
def tupIt (l:Addr):Obj:={ cls:=.type "tuple_iterator",data:=.fields #[.ref l,.int 0 0] }
def enumOver (it:Addr):Obj:={ cls:=.type "enumerate",data:=.fields #[.none,.bool false,.ref it,rawInt 0,.none,.none] }
theorem made_enum (l:Addr) (items:Array Value) (n:Nat) (od:Option Addr) (os:Array (Option Value)):Meets (Builtin.«enumerate.__new__» ⟨[.type "enumerate",.ref l],[]⟩) (fun _ R s=>
  s.heap.get? l=some { cls:=.type "tuple",dict:=od,data:=.seq items n,slots:=os }/\R (.ok (.ret (.ref (s.heap.push (tupIt l)).objs.size))) { s with heap:=(s.heap.push (tupIt l)).push (enumOver s.heap.objs.size) }):=
 .of_wp fun prog w A R s both=>by
  rcases s with ⟨hp,gs,dr,tk,sys⟩;have there:=both.1;have good:=both.2;have under:=sub_enumerate;have isT:hp.IsTuple l items:=⟨_,there,rfl,n,rfl⟩
  wp_walk using wpAny_loadPart' there
  refine wpAny_stack_any fun _=>wpAny_pure ?_;split
  ·rename_i c _ _ _ _ _;rcases hb:(c == Value.type "enumerate") with _|_<;>(wp_walk using wpAny_loadPart' there,wpAny_pyIter_tuple isT;exact ⟨_,rfl,good⟩)
  ·(wp_walk using wpAny_loadPart' there,wpAny_pyIter_tuple isT;exact ⟨_,rfl,good⟩)
section
variable {prog:Program} {w:World} {A:Around} {E:Value->Shared->Prop} {s:Shared}
theorem enum_of_tuple {l:Addr} {items:Array Value} {Q:Value->Shared->Prop} (isT:s.heap.IsTuple l items)
  (h:Q (.ref (s.heap.objs.size+1)) { s with heap:=(s.heap.push (tupIt l)).push (enumOver s.heap.objs.size) }):wpAny (model prog w) A (call (.type "enumerate") [.ref l]) Q E s:=by
 obtain ⟨o,there,isC,n,isD⟩:=isT;cases o with
 | mk oc od odt osl=>
  dsimp only at isC isD;subst isC isD;have sz:(s.heap.push (tupIt l)).objs.size=s.heap.objs.size+1:=E7 ..;have lies:((s.heap.push (tupIt l)).push (enumOver s.heap.objs.size)).get? (s.heap.objs.size+1)=some (enumOver s.heap.objs.size):=sz ▸ El (s.heap.push (tupIt l)) rfl;refine callType_new F.called_enumerate zd (F.typeCall_enumerate_1 _) (F.newCall_enumerate_1 _) (fun x=>F.args_object_init_2 x _) F.entry_enumerate_new (made_enum l items n od osl) ⟨there,?_⟩;show _/\_;rw [sz];exact ⟨⟨_,lies,rfl⟩,h⟩
end
section
variable {prog:Program} {w:World} {A:Around} {E:Value->Shared->Prop} {s:Shared}
variable {items:Array Value} {i:Nat} {it t:Addr}
theorem nextOf_tuple_item {x:Value} {Q:Value->Shared->Prop} (hit:s.heap.IsTupleIter it t i) (ht:s.heap.IsTuple t items) (hx:items[i]?=some x)
  (hQ:∀ h',h'.IsTupleIter it t (i+1)->Heap.SameBut it s.heap h'->Q x { s with heap:=h' }):wpAny (model prog w) A (Builtin.SmallTypes.nextOf (.ref it)) Q E s:=by
 obtain ⟨o,ho,hc,hd⟩:=id hit;obtain ⟨ol,hol,_,nl,hdl⟩:=ht;unfold Builtin.SmallTypes.nextOf;refine wpAny_bind (wpAny_callSpecial?_slot (name:=Str.ofString "__next__") hit.typeIs F.slot_tuple_iterator_next
  (wpAny_call_entry F.slot_tuple_iterator_next hit.typeIs F.entry_tuple_iterator_next ?_ (F.args_tuple_iterator_next_1 _)))
 show wpAny _ _ (field (.ref it) 0 >>= _) _ _ s;refine wpAny_bind (wpAny_field ho hd (x:=.ref t) rfl ?_);show wpAny _ _ (if (Value.ref t == Value.none)=true then _ else _) _ _ s;rw [if_neg (show ¬ ((Value.ref t == Value.none)=true) from Ee)];show wpAny _ _ (field (.ref it) 1 >>= _) _ _ s;refine wpAny_bind (wpAny_field ho hd (x:=.int i 0) rfl ?_);show wpAny _ _ (seqItems? (.ref t) >>= _) _ _ s;refine wpAny_bind (wpAny_seqItems hol hdl ?_);simp only [E6,hx];refine wpAny_bind (wpAny_setField ho hd (by simp) (wpAny_pure ⟨x,rfl,wpAny_pure (hQ _ ?_ (Heap.SameBut.update ..))⟩));exact ⟨_,Heap.get?_update_self _ ho (Obj.isFreed_of_fields (Obj.data_mapFields hd _)),(Obj.cls_mapFields ..).trans hc,by
  rw [Obj.data_mapFields hd];simp [rawInt]⟩
theorem nextOf_tuple_end {Q:Value->Shared->Prop} (hh:A.handled=none) (hit:s.heap.IsTupleIter it t i) (ht:s.heap.IsTuple t items) (hx:items[i]?=none)
  (hE:∀ h' e,Heap.ExtBut it s.heap h'->(∃ o,h'.get? e=some o/\o.cls=.type "StopIteration")->E (.ref e) { s with heap:=h' }):wpAny (model prog w) A (Builtin.SmallTypes.nextOf (.ref it)) Q E s:=by
 obtain ⟨o,ho,hc,hd⟩:=id hit;obtain ⟨ol,hol,_,nl,hdl⟩:=ht;unfold Builtin.SmallTypes.nextOf;refine wpAny_bind (wpAny_callSpecial?_slot (name:=Str.ofString "__next__") hit.typeIs F.slot_tuple_iterator_next
  (wpAny_call_entry F.slot_tuple_iterator_next hit.typeIs F.entry_tuple_iterator_next ?_ (F.args_tuple_iterator_next_1 _)))
 show wpAny _ _ (field (.ref it) 0 >>= _) _ _ s;refine wpAny_bind (wpAny_field ho hd (x:=.ref t) rfl ?_);show wpAny _ _ (if (Value.ref t == Value.none)=true then _ else _) _ _ s;rw [if_neg (show ¬ ((Value.ref t == Value.none)=true) from Ee)];show wpAny _ _ (field (.ref it) 1 >>= _) _ _ s;refine wpAny_bind (wpAny_field ho hd (x:=.int i 0) rfl ?_);show wpAny _ _ (seqItems? (.ref t) >>= _) _ _ s;refine wpAny_bind (wpAny_seqItems hol hdl ?_);simp only [E6,hx];refine wpAny_bind (wpAny_rule (wpAny_bind (wpAny_setField ho hd (by simp) ?_)));show wpAny _ _ (newExc (.type "StopIteration") [] >>= _) _ _ _;refine wpAny_bind ?_;simp only [newExc,newTuple];refine wpAny_bind (wpAny_newObj_type ?_ (by size_fits));refine wpAny_bind (m:=firstArgMember _ _) (wpAny_of_eq (a:=Value.none) (by first|rfl|(simp only [firstArgMember];rfl)) ?_);refine wpAny_newObj_type ?_ (by size_fits);simp only [raiseNew];refine wpAny_bind (wpAny_handled ?_);first|rw [show A.in1.handled=none from hh]|rw [hh]
 refine wpAny_bind (wpAny_pure (wpAny_throw ?_));exact hE _ _ (((Heap.SameBut.update ..).extBut.push _).push _) ⟨_,El _ rfl,rfl⟩
end
theorem drawsTuple {prog:Program} {w:World} {A:Around} (hh:A.handled=none) (it l:Addr) (hne:l≠it) (items:Array Value) :
  Draws prog w A it [it,l] items.size (fun i v=>items[i]?=some v) (fun i h=>h.IsTupleIter it l i/\h.IsTuple l items) where
 live:=fun _ _ st=>let ⟨o,ho,_⟩:=st.1;⟨o,ho⟩
 frame:=fun _ _ _ st hk=>⟨let ⟨o,ho,r⟩:=st.1;⟨o,hk it (by simp) o ho,r⟩,let ⟨o,ho,r⟩:=st.2;⟨o,hk l (by simp) o ho,r⟩⟩
 item:=fun i s Q E hi st hQ=>by
  refine nextOf_tuple_item st.1 st.2 (x:=items[i]) (by simp [hi]) fun h' hit' hs'=>?_;exact hQ _ h' s.toks (by simp [hi]) ⟨hit',st.2.extBut hs'.extBut hne⟩ hs'
 done:=fun s Q E st hE=>nextOf_tuple_end hh st.1 st.2 (by simp) hE
end PySem
namespace L2
open PySem PySem.Spec PyProof.Rows
variable {i:Nat} {h h':Heap}
theorem A0 {it l:Addr} (a:h.IsTupleIter it l i) (k:∀ o,h.get? it=some o->h'.get? it=some o):h'.IsTupleIter it l i:=let ⟨o,b,c⟩:=a;⟨o,k o b,c⟩
variable {items:Array Value}
theorem yc {it l:Addr} (t:h.IsTuple l items) (a:h.IsTupleIter it l i):l≠it:=by
 rintro rfl;obtain ⟨o,x,c,_⟩:=t;obtain ⟨o',x',c',_⟩:=a;rw [x] at x';cases x';rw [c] at c';injection c' with z;exact absurd z zd
theorem rG {prog:Program} {w:World} {A:Around} {E:Value->Shared->Prop} {s:Shared} {e it l:Addr} {old:Value} {Q:Option Value->Shared->Prop} (hh:A.handled=none) (he:IsEnum s.heap e it i old) (h1:s.heap.IsTupleIter it l i) (isT:s.heap.IsTuple l items) (hi:items.size<=i)
  (hQ:∀ h',Heap.ExtBut it s.heap h'->Q none { s with heap:=h' }):wpAny (model prog w) A (pyNext (.ref e)) Q E s:=by
 have hT:s.TypeIs (.ref e) "enumerate":=⟨_,he,rfl⟩;unfold pyNext;refine wpAny_bind (wpAny_attempt (wpAny_callSpecial?_slot (name:=Str.ofString "__next__") hT PySem.F.slot_enumerate_next (wpAny_call_entry PySem.F.slot_enumerate_next hT PySem.F.entry_enumerate_next ?_ (PySem.F.args_enumerate_next_1 _))));show wpAny _ _ (field (.ref e) 2 >>= _) _ _ _;refine wpAny_bind (wpAny_field he rfl (x:=.ref it) rfl ?_);refine wpAny_bind (PySem.nextOf_tuple_end hh h1 isT (Array.getElem?_eq_none hi) fun h' x he' hx'=>?_);obtain ⟨o,ho,hc⟩:=hx';refine wpAny_bind (wpAny_isInstance (T:="StopIteration") (b:=true) ⟨o,ho,hc⟩ isSubtype_stop ?_);exact wpAny_pure (hQ _ he')
def tY (K:ZF) (l:Addr):It:=
 ⟨fun i H=>∃ xs x,SqT K H l xs/\xs[i]?=some x,
  fun i H v H'=>∃ T x,v=.ref T/\H T=none/\H'=upd H T (.tup [.int i,x])/\∀ xs,SqT K H l xs->xs[i]?=some x,
  fun i H=>∃ xs,SqT K H l xs/\xs.length<=i⟩
theorem oH {P:Program} {w:World} {K:ZF} {elts:List Expr} {kt:Nat} {tp:Pos} {e it l:Addr} (hne:e≠it) :
  kC P w K (.Tuple elts kt tp) (tY K l) [e,it] e (fun i h=>(∃ old,IsEnum h e it i old)/\h.IsTupleIter it l i) where
 mem:=by simp
 obj:=fun i h st b hb=>by
  obtain ⟨⟨old,he⟩,⟨o1,h1,_,d1⟩⟩:=st;simp at hb;rcases hb with rfl|rfl
  ·exact ⟨_,he,fun v q=>by cases q⟩
  ·exact ⟨_,h1,fun v q=>by rw [d1] at q;cases q⟩
 keep:=fun i h h' st k=>by
  obtain ⟨⟨old,he⟩,h1⟩:=st;exact ⟨⟨old,k e (by simp) _ he⟩,A0 h1 fun o q=>k it (by simp) o q⟩
 item:=by
  intro X hP hw hK hc i pins s σ H E I hf st hg;subst hP hw hK;obtain ⟨xs,x,hx,ex⟩:=hg;obtain ⟨⟨old,he⟩,h1⟩:=st;obtain ⟨its1,rv1,p1,z1⟩:=I.tuple hx;obtain ⟨u1,eu1,ru1⟩:=rv1.get ex;have isT:s.heap.IsTuple l its1.toArray:=let ⟨o,a,b,n,c⟩:=p1;⟨o,a,b,n,c⟩;have nl:l≠it:=yc isT h1;have ne2:e∉[it,l]:=by
   intro m;simp only [Eo,EE,or_false] at m;rcases m with m|m
   ·exact hne m
   ·subst m;obtain ⟨o,a,b,_⟩:=isT;rw [show s.heap.get? e=_ from he] at a;cases a;injection b with z;exact absurd z zd
  have hlt:i < its1.toArray.size:=by
   have:=(D7.mp eu1).1;simpa using this
  refine wpAny_pyNext_enum_itemD (PySem.drawsTuple (A:=X.A.in1) (show X.A.in1.handled=none from I.ok.hd hc) it l nl its1.toArray) he ⟨h1,isT⟩ hlt hne ne2 fun v h' tk px a1 a2' a3 a4 a5=>⟨_,rfl,?_⟩;have evu:v=u1:=by
   have e2:its1.toArray[i]?=some u1:=by simpa using eu1
   rw [e2] at px;exact (Ey px).symm
  subst evu;have a2:=a2'.1;refine wpAny_letOwnedTupleGo_enum a1 fun h'' b1 b2=>?_;have hT:H s.heap.objs.size=none:=I.hok.fresh (Ec _);have low:∀ b o,s.heap.get? b=some o->b≠s.heap.objs.size:=fun b o q=>Es (Ed q);refine ⟨.ref s.heap.objs.size,upd H s.heap.objs.size (.tup [.int i,x]),?_,rfl,⟨s.heap.objs.size,x,rfl,hT,rfl,fun xs' h=>by rw [I.tuple_inj h hx];exact ex⟩,?_,fun b hb=>?_⟩
  ·show Inv X pins σ (upd H s.heap.objs.size (.tup [.int i,x])) { s with heap:=h'',toks:=tk+1 };refine Inv.turnedS (s:=s) (h':=h'') (t':=tk+1) (ch:=[e,it]) I (fun b hb=>hf b hb) (fun b o hc q=>?_) (fun b o q=>by rw [aj (aq q hT)];exact q) (fun b hb n=>by rw [aj (Es hb)];exact n) fun b o n q=>?_
   ·simp at hc;exact b2.extBut b o hc.1 (a5 b o hc.1 hc.2 q)
   ·by_cases eb:b=s.heap.objs.size
    ·subst eb;rw [ae] at q;cases q;refine ⟨zlx,[.int i tk,v],.cons ⟨_,rfl⟩ (.cons ru1 .nil),_,b2.extBut _ _ ?_ a3,rfl,_,rfl⟩;exact fun z=>low e _ he z.symm
    ·rw [aj eb,n] at q;cases q
  ·refine ⟨⟨_,b1⟩,A0 a2 fun o q=>b2.extBut _ o hne.symm q⟩
  ·have n:=(hf b hb).1;have:b≠s.heap.objs.size:=by
    simp at hb;obtain ⟨_,q1,_⟩:=id h1;rcases hb with rfl|rfl
    ·exact low _ _ he
    ·exact low _ _ q1
   rw [aj this];exact n
 done:=by
  intro X hP hw hK hc i pins s σ H E I hf st hg;subst hP hw hK;obtain ⟨xs,hx,hl⟩:=hg;obtain ⟨⟨old,he⟩,h1⟩:=st;obtain ⟨its1,rv1,p1,z1⟩:=I.tuple hx;have e1:=rv1.length;have isT:s.heap.IsTuple l its1.toArray:=let ⟨o,a,b,n,c⟩:=p1;⟨o,a,b,n,c⟩;have nl:l≠it:=yc isT h1;refine rG (I.ok.hd hc) he h1 isT (by simp;lia) fun h' k=>⟨rfl,?_⟩;obtain ⟨f0,f1,f2,f3,f4,f5⟩:=hf it (by simp);exact I.turned (t':=s.toks) (fun b o hb q=>k b o hb q) f0 f1 f3 f4 f5
 self:=fun _ _ _ _ _ st h=>wpAny_pyIter_enum st.1.choose_spec h
section
variable {X:Cx}
inductive qw (K:ZF) (R:It->Hp->Prop) (vs:List V) (H1:Hp):Prop
 | mk (l:_):vs=[.ref l]->(∃ xs,SqT K H1 l xs)->R (tY K l) H1->qw K R vs H1
def yT (K:ZF) (ta:TA):TI:=fun σ H R=>ta σ H fun vs H1=>qw K R vs H1
theorem jm {elts:List Expr} {kt:Nat} {tp:Pos} {a:Expr} {ta:TA} {p pos:Pos} (hg:Gl X "enumerate") (hm:X.mg "enumerate"=none) (ha:PA X [a] ta) (hs:starEach [a] X.env=[(false,eval a X.env)]:=by rfl) :
  PI X (.Tuple elts kt tp) (.Call (.Name "enumerate" p) [a] [] pos) (yT X.K ta):=by
 refine ⟨?_⟩;intro pins s σ H R I h;refine Call_ (eP I hg hm ke (EL (bG (ha pos pins s σ H _ I h) fun us s1 ⟨vs,H1,I1,r1,q1⟩=>?_) hs rfl));obtain ⟨l,e,⟨xs,hx⟩,q⟩:=q1;subst e;cases r1 with
 | cons r rr=>
  cases rr;cases r;obtain ⟨its1,rv1,p1,z1⟩:=I1.tuple hx;have isT:s1.heap.IsTuple l its1.toArray:=let ⟨o,a,b,n,c⟩:=p1;⟨o,a,b,n,c⟩;refine PySem.enum_of_tuple isT ?_;have sz:(s1.heap.push (PySem.tupIt l)).objs.size=s1.heap.objs.size+1:=E7 ..;have a1:IsEnum ((s1.heap.push (PySem.tupIt l)).push (PySem.enumOver s1.heap.objs.size)) (s1.heap.objs.size+1) s1.heap.objs.size 0 .none:=sz ▸ El (s1.heap.push (PySem.tupIt l)) rfl;have a2:((s1.heap.push (PySem.tupIt l)).push (PySem.enumOver s1.heap.objs.size)).IsTupleIter s1.heap.objs.size l 0:=⟨_,D6 _ (El _ rfl),rfl,rfl⟩;have a4:∀ b o,s1.heap.get? b=some o->((s1.heap.push (PySem.tupIt l)).push (PySem.enumOver s1.heap.objs.size)).get? b=some o:=fun b o x=>D6 _ (D6 _ x);refine wpAny_pyIter_enum a1 ?_;refine ⟨_,[s1.heap.objs.size+1,s1.heap.objs.size],_,_,H1,rfl,I1.kept (t':=s1.toks) a4,oH (Fv (Fi _)),⟨⟨_,a1⟩,a2⟩,fun b hb=>?_,q⟩;have hb':s1.heap.objs.size<=b:=by
   simp only [Eo,EE,or_false] at hb;rcases hb with e|e<;>rw [e]
   ·exact Nat.le_add_right _ _
   ·exact Ec _
  exact I1.fpOk hb' (I1.hok.fresh hb')
end
theorem ic {K:ZF} {l:Addr} {xs:List V} {g:TG} {tb:TS} {D:Ends} {σ:St} {H:Hp} (Pv:Nat->St->Hp->Prop) (h0:Pv 0 σ H) (hl:∀ i σ H,i<=xs.length->Pv i σ H->SqT K H l xs)
  (hs:∀ i x σ H T,xs[i]?=some x->H T=none->Pv i σ H->g (.ref T) σ (upd H T (.tup [.int i,x])) fun σ2 H2=>tb { D with nx:=Pv (i+1),ct:=Pv (i+1),bk:=D.nx } σ2 H2) (hd:∀ σ H,Pv xs.length σ H->D.nx σ H) :
  ∃ W:Nat->Nat->St->Hp->Prop,(∃ m,W 0 m σ H)/\∀ i m σ H,W i m σ H->
   ((tY K l).stop i H/\D.nx σ H)\/((tY K l).go i H/\∃ N:St->Hp->Prop,(∀ σ' H',N σ' H'->∃ m',m' < m/\W (i+1) m' σ' H')/\∀ x H',(tY K l).yld i H x H'->g x σ H' fun σ2 H2=>tb { D with nx:=N,ct:=N,bk:=D.nx } σ2 H2):=by
 refine ⟨fun i m σ H=>m=xs.length - i/\i<=xs.length/\Pv i σ H,⟨xs.length,by simp,Ep _,h0⟩,?_⟩;rintro i m σ H ⟨rfl,hi,p⟩;have q:=hl i σ H hi p;by_cases hlt:i < xs.length
 ·refine .inr ⟨⟨xs,xs[i],q,by simp [hlt]⟩,Pv (i+1),fun σ' H' p'=>⟨xs.length - (i+1),zo,rfl,hlt,p'⟩,fun v H' y=>?_⟩;obtain ⟨T,x,e1,hT,e2,hy⟩:=y;subst e1 e2;exact hs i x σ H T (hy xs q) hT p
 ·have e:i=xs.length:=by lia
  subst e;exact .inl ⟨⟨xs,q,Ec _⟩,hd σ H p⟩
end L2
namespace PySem
open Sem (wp)
section
open PySem.SeqAt
open PySem.AutoSeq1 (wpAny_loadPart')
open PySem.MeetsSeq PySem.MeetsSeq2 PySem.MeetsSeq3
theorem wpAny_forIn_rng {M:Model} {A:Around} {E:Value->Shared->Prop} {s:Shared} {β:Type} (f:Nat->β->Sem (ForInStep β)) (I:List Nat->β->Shared->Prop) (Q:β->Shared->Prop)
  (turn:∀ (x:Nat) (rest:List Nat) (b:β) (s:Shared),I (x::rest) b s->wpAny M A (f x b) (fun r s'=>match r with|.yield b'=>I rest b' s'|.done b'=>Q b' s') E s)
  (fin:∀ (b:β) (s:Shared),I [] b s->Q b s) (r:Std.Legacy.Range) (b:β) (h:I (List.range' r.start r.size r.step) b s):wpAny M A (forIn r b f) Q E s:=by
 rw [Std.Legacy.Range.forIn_eq_forIn_range'];exact wpAny_forIn_list f I Q turn fin _ b h
theorem tuple_indexAt (l:Addr) (items:Array Value) (n:Nat) (dd:Option Addr) (sl:Array (Option Value)) (x:Value) (e:Value->Bool) (j:Nat) (hj:j < items.size) (he:e items[j]=true) (hn:∀ (m:Nat) (hm:m < items.size),m < j->e items[m]=false) :
  Meets (Builtin.«tuple.index» ⟨[.ref l,x],[]⟩) (fun A R s=>s.heap.get? l=some { cls:=.type "tuple",dict:=dd,data:=.seq items n,slots:=sl }/\(∀ y∈items,EqAt A.in1 s y x (e y))/\∀ t k,R (.ok (.ret (.int j t))) { s with toks:=k }):=
 .of_wp fun prog w A R s h=>by
  obtain ⟨hp,g,d,tk,os⟩:=s;obtain ⟨hl,hb,h⟩:=h
  wp_walk using wpAny_loadPart' hl,wpAny_forIn_rng _ (fun rest b s'=>b.1=none/\s'=⟨hp,g,d,tk,os⟩/\∃ k,rest=List.range' k (items.size - k)/\k<=j) _
  case turn=>
   rintro i rest b s' ⟨hb',rfl,k,hr,hk⟩;have hz:items.size - k=(items.size - (k+1))+1:=by lia
   rw [hz,List.range'_succ] at hr;injection hr with h1 h2;subst h1;have hki:i < items.size:=by lia
   have hg:items[i]?=some items[i]:=by simp [hki]
   rw [hg];have hq:=hb items[i] (by simp);refine wpAny_bind (hq prog w _ _ ?_);by_cases hij:i=j
   ·subst hij;rw [he]
    wp_walk
    exact ⟨_,rfl,h _ _⟩
   ·rw [hn i hki zo]
    wp_walk
    exact ⟨rfl,rfl,i+1,h2,zo⟩
  case fin=>
   rintro b s' ⟨hb',rfl,k,hr,hk⟩;have hz:items.size - k=(items.size - (k+1))+1:=by lia
   rw [hz,List.range'_succ] at hr;cases hr
  case h=>
   refine ⟨rfl,rfl,0,?_,Ep _⟩;simp [Std.Legacy.Range.size]
end
end PySem
namespace L2
open PySem PySem.Spec PyProof.Rows
section
variable {X:Cx}
theorem m6:Ai X "tuple.index" (fun x xs H Q=>∃ (p:Addr) (zs:List Str) (z:Str) (j:Nat),x=.ref p/\xs=[.str z]/\SqT X.K H p (zs.map V.str)/\zs[j]?=some z/\(∀ m,m < j->zs[m]?≠some z)/\Q (.int (j:Nat)) H):=by
 intro pins s σ H x xs v us Q I rx rv h;obtain ⟨p,zs,z,j,rfl,rfl,hS,hj,hn,q⟩:=h;cases rx;obtain ⟨u,rfl,ru⟩:=rv.one;obtain ⟨its,r,pl,hz⟩:=I.tuple hS;have hfl:(zs.map V.str).all eM=true:=by
  rw [List.all_map];exact EQ.mpr fun _ _=>rfl
 have hlen:=r.length;rw [D8] at hlen;have hjl:j < zs.length:=(D7.mp hj).1;have ev:∀ m (hm:m < its.toArray.size),mG (.str z) its.toArray[m]=decide (zs[m]?=some z):=fun m hm=>by
  have hm':m < zs.length:=by rw [hlen];simpa using hm
  obtain ⟨w,ew,rw'⟩:=r.get (i:=m) (x:=.str zs[m]) (by simp [hm']);have e2:its.toArray[m]=w:=by
   have:=(D7.mp ew).2;simpa using this
  rw [e2,oz rw' rfl,EF hm'];show oy (.str zs[m]) (.str z)=_;by_cases hh:zs[m]=z
  ·simp [hh,oy]
  ·simp [hh,oy]
 obtain ⟨o,there,isC,n,isD⟩:=pl;cases o with
 | mk oc od odt osl=>
  dsimp only at isC isD;subst isC isD;refine call_meets F.slot_tuple_index ⟨_,there,rfl⟩ F.entry_tuple_index (F.args_tuple_index_2 _ _) (tuple_indexAt p its.toArray n od osl u (mG (.str z)) j (by simpa [<-hlen] using hjl) ?_ ?_) ⟨there,fun w hw=>dQ ru rfl r hfl w (by simpa using hw),fun t k=>⟨.int j,H,I.tok _,⟨t,rfl⟩,q⟩⟩
  ·rw [ev,hj];simp
  ·intro m hm hmj;rw [ev];simpa using hn m hmj
end
end L2
namespace PySem
open Sem (wp)
def IsItB:Bool->Heap->Addr->Addr->Nat->Prop
 | true,h,it,l,i=>h.IsTupleIter it l i
 | false,h,it,l,i=>h.IsListIter it l i
def IsSqB:Bool->Heap->Addr->Array Value->Prop
 | true,h,l,xs=>h.IsTuple l xs
 | false,h,l,xs=>h.IsList l xs
variable {i:Nat} {h h':Heap} {b:Bool}
theorem IsItB.at {it l:Addr} (a:IsItB b h it l i) (k:∀ o,h.get? it=some o->h'.get? it=some o):IsItB b h' it l i:=by
 cases b with
 | true=>exact (let ⟨o,x,y⟩:=a;⟨o,k o x,y⟩:h'.IsTupleIter it l i)
 | false=>exact (let ⟨o,x,y⟩:=a;⟨o,k o x,y⟩:h'.IsListIter it l i)
variable {xs:Array Value}
theorem IsSqB.at {l:Addr} (a:IsSqB b h l xs) (k:∀ o,h.get? l=some o->h'.get? l=some o):IsSqB b h' l xs:=by
 cases b with
 | true=>exact (let ⟨o,x,y⟩:=a;⟨o,k o x,y⟩:h'.IsTuple l xs)
 | false=>exact (let ⟨o,x,y⟩:=a;⟨o,k o x,y⟩:h'.IsList l xs)
theorem IsItB.some {it l:Addr} (a:IsItB b h it l i):∃ o,h.get? it=some o/\∀ v,o.data≠.cell v:=by
 cases b with
 | true=>exact (let ⟨o,x,_,z⟩:=a;⟨o,x,fun v q=>by rw [z] at q;cases q⟩)
 | false=>exact (let ⟨o,x,_,z⟩:=a;⟨o,x,fun v q=>by rw [z] at q;cases q⟩)
section
variable {prog:Program} {w:World} {A:Around} {E:Value->Shared->Prop} {s:Shared}
variable {x:Value} {items:Array Value}
theorem nextB_item {it l:Addr} {Q:Value->Shared->Prop} (hit:IsItB b s.heap it l i) (hl:IsSqB b s.heap l items) (hx:items[i]?=some x)
  (hQ:∀ h',IsItB b h' it l (i+1)->Heap.SameBut it s.heap h'->Q x { s with heap:=h' }):wpAny (model prog w) A (Builtin.SmallTypes.nextOf (.ref it)) Q E s:=by
 cases b with
 | true=>exact nextOf_tuple_item hit hl hx hQ
 | false=>exact wpAny_nextOf_list_item hit hl hx hQ
theorem nextB_end {it l:Addr} {Q:Value->Shared->Prop} (hh:A.handled=none) (hit:IsItB b s.heap it l i) (hl:IsSqB b s.heap l items) (hx:items[i]?=none)
  (hE:∀ h' e,Heap.ExtBut it s.heap h'->(∃ o,h'.get? e=some o/\o.cls=.type "StopIteration")->E (.ref e) { s with heap:=h' }):wpAny (model prog w) A (Builtin.SmallTypes.nextOf (.ref it)) Q E s:=by
 cases b with
 | true=>exact nextOf_tuple_end hh hit hl hx hE
 | false=>exact wpAny_nextOf_list_end hh hit hl hx hE
theorem zip_itemB {b1 b2:Bool} {z TI TO i1 i2 l1 l2:Addr} {k1 k2:Nat} {xs ys:Array Value} {x y a b:Value} {Q:Value->Shared->Prop} (D:ZipApart z TI TO i1 i2 l1 l2) (hz:IsZip s.heap z TI TO .none) (hTI:IsPair s.heap TI (.ref i1) (.ref i2)) (hTO:IsPair s.heap TO a b)
  (h1:IsItB b1 s.heap i1 l1 k1) (h2:IsItB b2 s.heap i2 l2 k2) (q1:IsSqB b1 s.heap l1 xs) (q2:IsSqB b2 s.heap l2 ys) (hx:xs[k1]?=some x) (hy:ys[k2]?=some y)
  (hQ:∀ h',IsZip h' z TI TO (rawInt s.heap.objs.size)->IsPair h' TO x y->IsItB b1 h' i1 l1 (k1+1)->IsItB b2 h' i2 l2 (k2+1)->IsPair h' s.heap.objs.size x y->h'.objs.size=s.heap.objs.size+1->
   (∀ c o,c≠z->c≠TO->c≠i1->c≠i2->s.heap.get? c=some o->h'.get? c=some o)->Q (.ref s.heap.objs.size) { s with heap:=h' }) :
  wpAny (model prog w) A (Builtin.«zip.__next__» ⟨[.ref z],[]⟩) (fun fin s'=>∃ v,fin=.done (.ret v)/\Q v s') E s:=by
 show wpAny _ _ (field (.ref z) 2 >>= _) _ _ s;refine wpAny_bind (wpAny_field hz rfl (x:=.bool false) rfl ?_);show wpAny _ _ (field (.ref z) 3 >>= _) _ _ s;refine wpAny_bind (wpAny_field hz rfl (x:=.ref TI) rfl ?_);refine wpAny_bind (wpAny_seqItems hTI rfl ?_);show wpAny _ _ (Builtin.SmallTypes.ownedTupleIsFree (.ref z) >>= _) _ _ s;refine wpAny_bind ?_;unfold Builtin.SmallTypes.ownedTupleIsFree;refine wpAny_bind (wpAny_field hz rfl (x:=.none) rfl (wpAny_pure ?_));show wpAny _ _ (rule "zip.__next__.owned-tuple-again" >>= _) _ _ s;refine wpAny_bind (wpAny_rule (wpAny_bind (wpAny_field hz rfl (x:=.ref TO) rfl ?_)));show wpAny _ _ (setField (.ref z) 0 .ellipsis >>= _) _ _ s;refine wpAny_bind (wpAny_setField hz rfl (by simp) ?_);have u1:=Heap.SameBut.update s.heap z (Obj.mapFields fun x_1=>x_1.setIfInBounds 0 Value.ellipsis);have z1:=Heap.get?_update_self (Obj.mapFields fun x_1=>x_1.setIfInBounds 0 Value.ellipsis) hz rfl;generalize s.heap.update z (Obj.mapFields fun x_1=>x_1.setIfInBounds 0 Value.ellipsis)=hp1 at *;show wpAny _ _ (forIn [(Value.ref i1,0),(Value.ref i2,1)] _ _ >>= _) _ _ _;refine wpAny_bind ?_;rw [List.forIn_cons];refine wpAny_bind ?_;show wpAny _ _ (Sem.onRaise _ _ >>= _) _ _ _;refine wpAny_bind (wpAny_onRaise ?_);show wpAny _ _ (Builtin.SmallTypes.nextOf (.ref i1) >>= _) _ _ _;have e1:∀ c o,c≠z->s.heap.get? c=some o->hp1.get? c=some o:=fun c o n q=>(u1.2 c n).trans q;refine wpAny_bind (nextB_item (h1.at fun o q=>e1 _ o D.i1z q) (q1.at fun o q=>e1 _ o D.l1z q) hx fun hp2 it2 u2=>wpAny_pure ?_);dsimp only at u2;have e2:∀ c o,c≠z->c≠i1->s.heap.get? c=some o->hp2.get? c=some o:=fun c o n n' q=>(u2.2 c n').trans (e1 c o n q);have o2:hp2.get? TO=some { cls:=.type "tuple",data:=.seq #[a,b] }:=e2 _ _ D.TOz D.TOi1 hTO;show wpAny _ _ (seqItems? (.ref TO) >>= _) _ _ _;refine wpAny_bind (wpAny_seqItems o2 rfl ?_);show wpAny _ _ (updateSeq TO _ >>= _) _ _ _;refine wpAny_bind (wpAny_updateSeq o2 rfl ?_ zlx (by show 2<=sizeLine+1;decide));refine wpAny_bind (wpAny_letGo (wpAny_pure ?_));have u3:=Heap.SameBut.update hp2 TO (Obj.mapSeq fun x_1=>x_1.setIfInBounds 0 x);have o3:=Heap.get?_update_self (Obj.mapSeq fun x_1=>x_1.setIfInBounds 0 x) o2 rfl;generalize hp2.update TO (Obj.mapSeq fun x_1=>x_1.setIfInBounds 0 x)=hp3 at *;have e3:∀ c o,c≠z->c≠TO->c≠i1->s.heap.get? c=some o->hp3.get? c=some o:=fun c o n n' n2 q=>(u3.2 c n').trans (e2 c o n n2 q);show wpAny _ _ (forIn [(Value.ref i2,1)] _ _) _ _ _;rw [List.forIn_cons];refine wpAny_bind ?_;show wpAny _ _ (Sem.onRaise _ _ >>= _) _ _ _;refine wpAny_bind (wpAny_onRaise ?_);show wpAny _ _ (Builtin.SmallTypes.nextOf (.ref i2) >>= _) _ _ _;refine wpAny_bind (nextB_item (h2.at fun o q=>e3 _ o D.i2z D.TOi2.symm D.i12.symm q) (q2.at fun o q=>e3 _ o D.l2z D.l2TO D.l2i1 q) hy fun hp4 it4 u4=>wpAny_pure ?_);dsimp only at u4;have o4:=(u4.2 TO D.TOi2).trans o3;show wpAny _ _ (seqItems? (.ref TO) >>= _) _ _ _;refine wpAny_bind (wpAny_seqItems o4 rfl ?_);show wpAny _ _ (updateSeq TO _ >>= _) _ _ _;refine wpAny_bind (wpAny_updateSeq o4 rfl ?_ zlx (by show 2<=sizeLine+1;decide));refine wpAny_bind (wpAny_letGo (wpAny_pure ?_));have u5:=Heap.SameBut.update hp4 TO (Obj.mapSeq fun x_1=>x_1.setIfInBounds 1 y);have o5:=Heap.get?_update_self (Obj.mapSeq fun x_1=>x_1.setIfInBounds 1 y) o4 rfl;generalize hp4.update TO (Obj.mapSeq fun x_1=>x_1.setIfInBounds 1 y)=hp5 at *;have e5:∀ c o,c≠z->c≠TO->c≠i1->c≠i2->s.heap.get? c=some o->hp5.get? c=some o:=fun c o n n' n2 n3 q=>(u5.2 c n').trans ((u4.2 c n3).trans (e3 c o n n' n2 q));show wpAny _ _ (forIn [] _ _) _ _ _;rw [List.forIn_nil];refine wpAny_pure ?_;show wpAny _ _ (seqItems? (.ref TO) >>= _) _ _ _;refine wpAny_bind (wpAny_seqItems o5 rfl ?_);show wpAny _ _ (newTuple [x,y] >>= _) _ _ _;refine wpAny_bind (wpAny_newTuple ?_ zlx);have sz:hp5.objs.size=s.heap.objs.size:=by rw [u5.1,u4.1,u3.1,u2.1,u1.1]
 have z5:hp5.get? z=some { cls:=.type "zip",data:=.fields #[.ellipsis,.bool false,.bool false,.ref TI,.ref TO] }:=(u5.2 z D.TOz.symm).trans ((u4.2 z D.i2z.symm).trans ((u3.2 z D.TOz.symm).trans ((u2.2 z D.i1z.symm).trans z1)));have z6:=D6 { cls:=Value.type "tuple",data:=Data.seq [x,y].toArray } z5;have p6:=El hp5 (o:={ cls:=Value.type "tuple",data:=Data.seq [x,y].toArray }) rfl;have k6:∀ c o,hp5.get? c=some o->(hp5.push { cls:=Value.type "tuple",data:=Data.seq [x,y].toArray }).get? c=some o:=fun c o q=>D6 _ q;have s6:(hp5.push { cls:=Value.type "tuple",data:=Data.seq [x,y].toArray }).objs.size=hp5.objs.size+1:=E7 ..;generalize hp5.push { cls:=Value.type "tuple",data:=Data.seq [x,y].toArray }=hp6 at *;have zs:z≠hp5.objs.size:=Es (Ed z5);have t5:hp5.get? TO=some { cls:=.type "tuple",data:=.seq #[x,y] }:=o5;show wpAny _ _ (Builtin.SmallTypes.ownedTupleHandOut (.ref z) (.ref hp5.objs.size) >>= _) _ _ _;refine wpAny_bind ?_;show wpAny _ _ (setField (.ref z) 0 (rawInt hp5.objs.size) >>= _) _ _ _;refine wpAny_bind (wpAny_setField z6 rfl (by simp) ?_);have u7:=Heap.SameBut.update hp6 z (Obj.mapFields fun x_1=>x_1.setIfInBounds 0 (rawInt hp5.objs.size));have z7:=Heap.get?_update_self (Obj.mapFields fun x_1=>x_1.setIfInBounds 0 (rawInt hp5.objs.size)) z6 rfl;generalize hp6.update z (Obj.mapFields fun x_1=>x_1.setIfInBounds 0 (rawInt hp5.objs.size))=hp7 at *;refine wpAny_setField z7 rfl (by simp [Obj.mapFields]) ?_;have u8:=Heap.SameBut.update hp7 z (Obj.mapFields fun x_1=>x_1.setIfInBounds 1 (.bool false));have z8:=Heap.get?_update_self (Obj.mapFields fun x_1=>x_1.setIfInBounds 1 (.bool false)) z7 rfl;generalize hp7.update z (Obj.mapFields fun x_1=>x_1.setIfInBounds 1 (.bool false))=hp8 at *;have k8:∀ c o,c≠z->hp5.get? c=some o->hp8.get? c=some o:=fun c o n q=>(u8.2 c n).trans ((u7.2 c n).trans (k6 c o q));refine wpAny_pure ⟨_,rfl,?_⟩;show Q (.ref hp5.objs.size) _;rw [sz] at p6 z8 zs s6 ⊢;refine hQ hp8 z8 (k8 _ _ D.TOz t5) ?_ ?_ ((u8.2 _ zs.symm).trans ((u7.2 _ zs.symm).trans p6)) (by rw [u8.1,u7.1,s6]) fun c o n1 n2 n3 n4 q=>k8 c o n1 (e5 c o n1 n2 n3 n4 q)
 ·refine it2.at fun o q=>k8 _ o D.i1z ?_;exact (u5.2 _ D.TOi1.symm).trans ((u4.2 _ D.i12).trans ((u3.2 _ D.TOi1.symm).trans q))
 ·refine it4.at fun o q=>k8 _ o D.i2z ?_;exact (u5.2 _ D.TOi2.symm).trans q
theorem zip_endB {b1 b2:Bool} {z TI TO i1 i2 l1 l2:Addr} {k1 k2:Nat} {xs ys:Array Value} {a b:Value} {Q:Fin->Shared->Prop} (hh:A.handled=none) (D:ZipApart z TI TO i1 i2 l1 l2) (hz:IsZip s.heap z TI TO .none) (hTI:IsPair s.heap TI (.ref i1) (.ref i2)) (hTO:IsPair s.heap TO a b)
  (h1:IsItB b1 s.heap i1 l1 k1) (h2:IsItB b2 s.heap i2 l2 k2) (q1:IsSqB b1 s.heap l1 xs) (q2:IsSqB b2 s.heap l2 ys) (hx:xs[k1]?=none)
  (hE:∀ h' e,(∀ c o,c≠z->c≠TO->c≠i1->c≠i2->s.heap.get? c=some o->h'.get? c=some o)->(∃ o,h'.get? e=some o/\o.cls=.type "StopIteration")->E (.ref e) { s with heap:=h' }) :
  wpAny (model prog w) A (Builtin.«zip.__next__» ⟨[.ref z],[]⟩) Q E s:=by
 show wpAny _ _ (field (.ref z) 2 >>= _) _ _ s;refine wpAny_bind (wpAny_field hz rfl (x:=.bool false) rfl ?_);show wpAny _ _ (field (.ref z) 3 >>= _) _ _ s;refine wpAny_bind (wpAny_field hz rfl (x:=.ref TI) rfl ?_);refine wpAny_bind (wpAny_seqItems hTI rfl ?_);show wpAny _ _ (Builtin.SmallTypes.ownedTupleIsFree (.ref z) >>= _) _ _ s;refine wpAny_bind ?_;unfold Builtin.SmallTypes.ownedTupleIsFree;refine wpAny_bind (wpAny_field hz rfl (x:=.none) rfl (wpAny_pure ?_));show wpAny _ _ (rule "zip.__next__.owned-tuple-again" >>= _) _ _ s;refine wpAny_bind (wpAny_rule (wpAny_bind (wpAny_field hz rfl (x:=.ref TO) rfl ?_)));show wpAny _ _ (setField (.ref z) 0 .ellipsis >>= _) _ _ s;refine wpAny_bind (wpAny_setField hz rfl (by simp) ?_);have u1:=Heap.SameBut.update s.heap z (Obj.mapFields fun x_1=>x_1.setIfInBounds 0 Value.ellipsis);have z1:=Heap.get?_update_self (Obj.mapFields fun x_1=>x_1.setIfInBounds 0 Value.ellipsis) hz rfl;generalize s.heap.update z (Obj.mapFields fun x_1=>x_1.setIfInBounds 0 Value.ellipsis)=hp1 at *;show wpAny _ _ (forIn [(Value.ref i1,0),(Value.ref i2,1)] _ _ >>= _) _ _ _;refine wpAny_bind ?_;rw [List.forIn_cons];refine wpAny_bind ?_;show wpAny _ _ (Sem.onRaise _ _ >>= _) _ _ _;refine wpAny_bind (wpAny_onRaise ?_);show wpAny _ _ (Builtin.SmallTypes.nextOf (.ref i1) >>= _) _ _ _;have e1:∀ c o,c≠z->s.heap.get? c=some o->hp1.get? c=some o:=fun c o n q=>(u1.2 c n).trans q;refine wpAny_bind (nextB_end hh (h1.at fun o q=>e1 _ o D.i1z q) (q1.at fun o q=>e1 _ o D.l1z q) hx fun hp2 e u2 ex=>?_);dsimp only at u2;obtain ⟨ox,hox,cx⟩:=ex;have z2:=u2 _ _ D.i1z.symm z1;refine wpAny_setField z2 rfl (by simp [Obj.mapFields]) ?_;have u3:=Heap.SameBut.update hp2 z (Obj.mapFields fun x_1=>x_1.setIfInBounds 0 .none);have ez:e≠z:=by
  rintro rfl;rw [hox] at z2;cases z2;have cx':Value.type "zip"=Value.type "StopIteration":=cx;injection cx' with q;exact absurd q zd
 generalize hp2.update z (Obj.mapFields fun x_1=>x_1.setIfInBounds 0 .none)=hp3 at *;exact hE hp3 e (fun c o n1 n2 n3 n4 q=>(u3.2 c n1).trans (u2 c o n3 (e1 c o n1 q))) ⟨ox,(u3.2 e ez).trans hox,cx⟩
end
end PySem
namespace PySem
open Sem (wp)
open PySem.Spec PyProof.Rows
def itB (b:Bool) (l:Addr):Obj:={ cls:=.type (if b then "tuple_iterator" else "list_iterator"),data:=.fields #[.ref l,.int 0 0] }
def zB (h:Heap) (b1 b2:Bool) (l1 l2:Addr):Heap:=((((h.push (itB b1 l1)).push (itB b2 l2)).push { cls:=.type "tuple",data:=.seq #[.ref h.objs.size,.ref (h.objs.size+1)] }).push { cls:=.type "tuple",data:=.seq #[.none,.none] }).push
 { cls:=.type "zip",data:=.fields #[.none,.bool false,.bool false,.ref (h.objs.size+2),.ref (h.objs.size+3)] }
theorem pyIterB {prog:Program} {w:World} {A:Around} {E:Value->Shared->Prop} {s:Shared} {b:Bool} {l:Addr} {items:Array Value} {Q:Value->Shared->Prop} (h:IsSqB b s.heap l items) (hQ:Q (.ref s.heap.objs.size) { s with heap:=s.heap.push (itB b l) }):wpAny (model prog w) A (pyIter (.ref l)) Q E s:=by
 cases b with
 | true=>exact wpAny_pyIter_tuple h hQ
 | false=>exact wpAny_pyIter_list h hQ
theorem made_zip (b1 b2:Bool) (l1 l2:Addr) (xs ys:Array Value):Meets (Builtin.«zip.__new__» ⟨[.type "zip",.ref l1,.ref l2],[]⟩) (fun _ R s=>
  IsSqB b1 s.heap l1 xs/\IsSqB b2 s.heap l2 ys/\R (.ok (.ret (.ref (s.heap.objs.size+4)))) { s with heap:=zB s.heap b1 b2 l1 l2 }):=
 .of_wp fun prog w A R s both=>by
  rcases s with ⟨hp,gs,dr,tk,sys⟩;obtain ⟨q1,q2,good⟩:=both;have under:=sub_zip;have i1:=fun {A:Around} {E Q}=>@pyIterB prog w A E ⟨hp,gs,dr,tk,sys⟩ b1 l1 xs Q q1;have i2:=fun {A:Around} {E Q}=>@pyIterB prog w A E ⟨hp.push (itB b1 l1),gs,dr,tk,sys⟩ b2 l2 ys Q (q2.at fun o q=>D6 _ q)
  wp_walk using i1,i2
  refine ⟨_,rfl,?_⟩;have sz:∀ (h:Heap) o,(h.push o).objs.size=h.objs.size+1:=fun _ _=>E7 ..;simp only [zB] at good;simp only [sz];exact good
variable {xs ys:Array Value} {l1 l2:Addr} {b1 b2:Bool} {s:Shared}
theorem zip_of {prog:Program} {w:World} {A:Around} {E:Value->Shared->Prop} {Q:Value->Shared->Prop} (q1:IsSqB b1 s.heap l1 xs) (q2:IsSqB b2 s.heap l2 ys)
  (h:∀ h',IsZip h' (s.heap.objs.size+4) (s.heap.objs.size+2) (s.heap.objs.size+3) .none->IsPair h' (s.heap.objs.size+2) (.ref s.heap.objs.size) (.ref (s.heap.objs.size+1))->IsPair h' (s.heap.objs.size+3) .none .none->IsItB b1 h' s.heap.objs.size l1 0->IsItB b2 h' (s.heap.objs.size+1) l2 0->
   (∀ c o,s.heap.get? c=some o->h'.get? c=some o)->Q (.ref (s.heap.objs.size+4)) { s with heap:=h' }):wpAny (model prog w) A (call (.type "zip") [.ref l1,.ref l2]) Q E s:=by
 have sz:∀ (h:Heap) o,(h.push o).objs.size=h.objs.size+1:=fun _ _=>E7 ..;have g0:∀ (h:Heap) (o:Obj) (n:Nat),h.objs.size=n->o.isFreed=false->(h.push o).get? n=some o:=fun h o n e f=>e ▸ El h f;have a1:IsZip (zB s.heap b1 b2 l1 l2) (s.heap.objs.size+4) (s.heap.objs.size+2) (s.heap.objs.size+3) .none:=g0 _ _ _ (by simp only [sz]) rfl;have a2:IsPair (zB s.heap b1 b2 l1 l2) (s.heap.objs.size+2) (.ref s.heap.objs.size) (.ref (s.heap.objs.size+1)):=D6 _ (D6 _ (g0 _ _ _ (by simp only [sz]) rfl));have a3:IsPair (zB s.heap b1 b2 l1 l2) (s.heap.objs.size+3) .none .none:=D6 _ (g0 _ _ _ (by simp only [sz]) rfl);have f0:∀ b l,(itB b l).isFreed=false:=fun _ _=>rfl;have a4:(zB s.heap b1 b2 l1 l2).get? s.heap.objs.size=some (itB b1 l1):=D6 _ (D6 _ (D6 _ (D6 _ (g0 _ _ _ rfl (f0 _ _)))));have a5:(zB s.heap b1 b2 l1 l2).get? (s.heap.objs.size+1)=some (itB b2 l2):=D6 _ (D6 _ (D6 _ (g0 _ _ _ (by simp only [sz]) (f0 _ _))));have a6:∀ c o,s.heap.get? c=some o->(zB s.heap b1 b2 l1 l2).get? c=some o:=fun c o q=>D6 _ (D6 _ (D6 _ (D6 _ (D6 _ q))));have ib:∀ (b:Bool) (h:Heap) (a l:Addr),h.get? a=some (itB b l)->IsItB b h a l 0:=fun b h a l q=>by
  cases b with
  | true=>exact ⟨_,q,rfl,rfl⟩
  | false=>exact ⟨_,q,rfl,rfl⟩
 refine callType_new F.called_zip zd (F.typeCall_zip_2 _ _) (F.newCall_zip_2 _ _) (fun x=>F.args_object_init_3 x _ _) F.entry_zip_new (made_zip b1 b2 l1 l2 xs ys) ⟨q1,q2,?_⟩;exact ⟨⟨_,a1,rfl⟩,h _ a1 a2 a3 (ib _ _ _ _ a4) (ib _ _ _ _ a5) a6⟩
theorem pyNext_zip_itemB {prog:Program} {w:World} {A:Around} {E:Value->Shared->Prop} {b1 b2:Bool} {z TI TO i1 i2 l1 l2:Addr} {k1 k2:Nat} {xs ys:Array Value} {x y a b:Value} {Q:Option Value->Shared->Prop} (D:ZipApart z TI TO i1 i2 l1 l2) (hz:IsZip s.heap z TI TO .none) (hTI:IsPair s.heap TI (.ref i1) (.ref i2)) (hTO:IsPair s.heap TO a b)
  (h1:IsItB b1 s.heap i1 l1 k1) (h2:IsItB b2 s.heap i2 l2 k2) (q1:IsSqB b1 s.heap l1 xs) (q2:IsSqB b2 s.heap l2 ys) (hx:xs[k1]?=some x) (hy:ys[k2]?=some y)
  (hQ:∀ h',IsZip h' z TI TO (rawInt s.heap.objs.size)->IsPair h' TO x y->IsItB b1 h' i1 l1 (k1+1)->IsItB b2 h' i2 l2 (k2+1)->IsPair h' s.heap.objs.size x y->h'.objs.size=s.heap.objs.size+1->
   (∀ c o,c≠z->c≠TO->c≠i1->c≠i2->s.heap.get? c=some o->h'.get? c=some o)->Q (some (.ref s.heap.objs.size)) { s with heap:=h' }):wpAny (model prog w) A (pyNext (.ref z)) Q E s:=by
 have hT:s.TypeIs (.ref z) "zip":=⟨_,hz,rfl⟩;unfold pyNext;refine wpAny_bind (wpAny_attempt (wpAny_callSpecial?_slot (name:=Str.ofString "__next__") hT PySem.F.slot_zip_next (wpAny_call_entry PySem.F.slot_zip_next hT PySem.F.entry_zip_next ?_ (PySem.F.args_zip_next_1 _))));refine zip_itemB (A:=A.in1) D hz hTI hTO h1 h2 q1 q2 hx hy fun h' c1 c2 c3 c4 c5 c6 c7=>?_;exact wpAny_pure (hQ h' c1 c2 c3 c4 c5 c6 c7)
theorem pyNext_zip_endB {prog:Program} {w:World} {A:Around} {E:Value->Shared->Prop} {b1 b2:Bool} {z TI TO i1 i2 l1 l2:Addr} {k1 k2:Nat} {xs ys:Array Value} {a b:Value} {Q:Option Value->Shared->Prop} (hh:A.handled=none) (D:ZipApart z TI TO i1 i2 l1 l2) (hz:IsZip s.heap z TI TO .none) (hTI:IsPair s.heap TI (.ref i1) (.ref i2)) (hTO:IsPair s.heap TO a b)
  (h1:IsItB b1 s.heap i1 l1 k1) (h2:IsItB b2 s.heap i2 l2 k2) (q1:IsSqB b1 s.heap l1 xs) (q2:IsSqB b2 s.heap l2 ys) (hx:xs[k1]?=none)
  (hQ:∀ h',(∀ c o,c≠z->c≠TO->c≠i1->c≠i2->s.heap.get? c=some o->h'.get? c=some o)->Q none { s with heap:=h' }):wpAny (model prog w) A (pyNext (.ref z)) Q E s:=by
 have hT:s.TypeIs (.ref z) "zip":=⟨_,hz,rfl⟩;unfold pyNext;refine wpAny_bind (wpAny_attempt (wpAny_callSpecial?_slot (name:=Str.ofString "__next__") hT PySem.F.slot_zip_next (wpAny_call_entry PySem.F.slot_zip_next hT PySem.F.entry_zip_next ?_ (PySem.F.args_zip_next_1 _))));refine zip_endB (A:=A.in1) (show A.in1.handled=none from hh) D hz hTI hTO h1 h2 q1 q2 hx fun h' e k ex=>?_;obtain ⟨o,ho,hc⟩:=ex;refine wpAny_bind (wpAny_isInstance (T:="StopIteration") (b:=true) ⟨o,ho,hc⟩ isSubtype_stop ?_);exact wpAny_pure (hQ _ k)
end PySem
namespace L2
open PySem PySem.Spec PyProof.Rows
def rH (K:ZF):Bool->Hp->Addr->List V->Prop
 | true=>SqT K
 | false=>SqL K
variable {xs:List V} {b:Bool} {s:Shared} {H:Hp} {σ:St} {pins:List (Addr×Obj)} {X:Cx}
theorem Inv.seqB {l:Addr} (I:Inv X pins σ H s) (h:rH X.K b H l xs):∃ its,Vals xs its/\IsSqB b s.heap l its.toArray:=by
 cases b with
 | true=>exact (let ⟨its,r,p,_⟩:=I.tuple h;let ⟨o,a,b,n,c⟩:=p;⟨its,r,o,a,b,n,c⟩)
 | false=>exact (let ⟨its,r,p,_⟩:=I.list h;⟨its,r,p.isList⟩)
variable {ys:List V}
theorem Inv.seqB_inj {l:Addr} (I:Inv X pins σ H s) (h:rH X.K b H l xs) (h':rH X.K b H l ys):xs=ys:=by
 cases b with
 | true=>exact I.tuple_inj h h'
 | false=>exact I.list_inj h h'
theorem m8 {h:Heap} {l:Addr} {xs:Array Value} (a:IsSqB b h l xs):l < h.objs.size:=by
 cases b with
 | true=>exact (let ⟨_,e,_⟩:=a;Ed e)
 | false=>exact (let ⟨_,e,_⟩:=a;Ed e)
def yU (K:ZF) (b1 b2:Bool) (l1 l2:Addr):It:=
 ⟨fun i H=>∃ xs ys x y,rH K b1 H l1 xs/\rH K b2 H l2 ys/\xs[i]?=some x/\ys[i]?=some y,
  fun i H v H'=>∃ T x y,v=.ref T/\H T=none/\H'=upd H T (.tup [x,y])/\(∀ xs,rH K b1 H l1 xs->xs[i]?=some x)/\∀ ys,rH K b2 H l2 ys->ys[i]?=some y,
  fun i H=>∃ xs ys,rH K b1 H l1 xs/\rH K b2 H l2 ys/\xs.length<=i⟩
theorem rJ {b1 b2:Bool} {P:Program} {w:World} {K:ZF} {elts:List Expr} {kt:Nat} {tp:Pos} {z TI TO i1 i2 l1 l2:Addr} (D:ZipApart z TI TO i1 i2 l1 l2) :
  kC P w K (.Tuple elts kt tp) (yU K b1 b2 l1 l2) [z,TI,TO,i1,i2] z (fun i h=>IsZip h z TI TO .none/\IsPair h TI (.ref i1) (.ref i2)/\(∃ a b,IsPair h TO a b)/\IsItB b1 h i1 l1 i/\IsItB b2 h i2 l2 i) where
 mem:=by simp
 obj:=fun i h st b hb=>by
  obtain ⟨hz,hTI,⟨a,c,hTO⟩,i1',i2'⟩:=st;obtain ⟨o1,h1,d1⟩:=i1'.some;obtain ⟨o2,h2,d2⟩:=i2'.some;simp at hb;rcases hb with rfl|rfl|rfl|rfl|rfl
  ·exact ⟨_,hz,fun v q=>by cases q⟩
  ·exact ⟨_,hTI,fun v q=>by cases q⟩
  ·exact ⟨_,hTO,fun v q=>by cases q⟩
  ·exact ⟨_,h1,fun v q=>d1 v q⟩
  ·exact ⟨_,h2,fun v q=>d2 v q⟩
 keep:=fun i h h' st k=>by
  obtain ⟨hz,hTI,⟨a,c,hTO⟩,h1,h2⟩:=st;exact ⟨k z (by simp) _ hz,k TI (by simp) _ hTI,⟨a,c,k TO (by simp) _ hTO⟩,h1.at fun o e=>k i1 (by simp) o e,h2.at fun o e=>k i2 (by simp) o e⟩
 item:=by
  intro X hP hw hK hc i pins s σ H E I hf st hg;subst hP hw hK;obtain ⟨xs,ys,x,y,hx,hy,ex,ey⟩:=hg;obtain ⟨hz,hTI,⟨a,c,hTO⟩,h1,h2⟩:=st;obtain ⟨its1,rv1,p1⟩:=I.seqB hx;obtain ⟨its2,rv2,p2⟩:=I.seqB hy;obtain ⟨u1,eu1,ru1⟩:=rv1.get ex;obtain ⟨u2,eu2,ru2⟩:=rv2.get ey;refine pyNext_zip_itemB D hz hTI hTO h1 h2 p1 p2 (x:=u1) (y:=u2) (by simpa using eu1) (by simpa using eu2) fun h' a1 a2 a3 a4 a5 a6 a7=>⟨_,rfl,?_⟩;refine wpAny_letOwnedTupleGo_zip a1 fun h'' b1 b2=>?_;have hT:H s.heap.objs.size=none:=I.hok.fresh (Ec _);have low:∀ b o,s.heap.get? b=some o->b≠s.heap.objs.size:=fun b o e=>Es (Ed e);refine ⟨.ref s.heap.objs.size,upd H s.heap.objs.size (.tup [x,y]),?_,rfl,⟨s.heap.objs.size,x,y,rfl,hT,rfl,fun xs' h=>by rw [I.seqB_inj h hx];exact ex,fun ys' h=>by rw [I.seqB_inj h hy];exact ey⟩,?_,fun b hb=>?_⟩
  ·show Inv X pins σ (upd H s.heap.objs.size (.tup [x,y])) { s with heap:=h'',toks:=s.toks };refine Inv.turnedS (s:=s) (h':=h'') (t':=s.toks) (ch:=[z,TO,i1,i2]) I (fun b hb=>hf b ?_) (fun b o hc e=>?_) (fun b o e=>by rw [aj (aq e hT)];exact e) (fun b hb n=>by rw [aj (Es hb)];exact n) fun b o n e=>?_
   ·simp at hb ⊢;rcases hb with rfl|rfl|rfl|rfl<;>simp
   ·simp at hc;exact b2.extBut b o hc.1 (a7 b o hc.1 hc.2.1 hc.2.2.1 hc.2.2.2 e)
   ·by_cases eb:b=s.heap.objs.size
    ·subst eb;rw [ae] at e;cases e;refine ⟨zlx,[u1,u2],.cons ru1 (.cons ru2 .nil),_,b2.extBut _ _ ?_ a5,rfl,_,rfl⟩;exact fun q=>low z _ hz q.symm
    ·rw [aj eb,n] at e;cases e
  ·refine ⟨b1,b2.extBut _ _ D.TIz (a7 _ _ D.TIz D.TITO D.TIi1 D.TIi2 hTI),⟨_,_,b2.extBut _ _ D.TOz a2⟩,a3.at fun o e=>b2.extBut _ o D.i1z e,a4.at fun o e=>b2.extBut _ o D.i2z e⟩
  ·have n:=(hf b hb).1;have:b≠s.heap.objs.size:=by
    simp at hb;obtain ⟨_,q1,_⟩:=h1.some;obtain ⟨_,q2,_⟩:=h2.some;rcases hb with rfl|rfl|rfl|rfl|rfl
    ·exact low _ _ hz
    ·exact low _ _ hTI
    ·exact low _ _ hTO
    ·exact low _ _ q1
    ·exact low _ _ q2
   rw [aj this];exact n
 done:=by
  intro X hP hw hK hc i pins s σ H E I hf st hg;subst hP hw hK;obtain ⟨xs,ys,hx,hy,hl⟩:=hg;obtain ⟨hz,hTI,⟨a,c,hTO⟩,h1,h2⟩:=st;obtain ⟨its1,rv1,p1⟩:=I.seqB hx;obtain ⟨its2,rv2,p2⟩:=I.seqB hy;have e1:=rv1.length;have e2:=rv2.length;have hend:its1.toArray[i]?=none:=by simp;lia
  refine pyNext_zip_endB (I.ok.hd hc) D hz hTI hTO h1 h2 p1 p2 hend fun h' k=>⟨rfl,?_⟩;refine I.turnedS (t':=s.toks) (ch:=[z,TO,i1,i2]) (fun b hb=>hf b ?_) (fun b o hc e=>?_) (fun b o e=>e) (fun b hb n=>n) fun b o n e=>?_
  ·simp at hb ⊢;rcases hb with rfl|rfl|rfl|rfl<;>simp
  ·simp at hc;exact k b o hc.1 hc.2.1 hc.2.2.1 hc.2.2.2 e
  ·rw [n] at e;cases e
 self:=fun _ _ _ _ _ st h=>wpAny_pyIter_zip st.1 h
section
variable {X:Cx}
inductive tZ (b1:Bool) (b2:Bool) (K:ZF) (R:It->Hp->Prop) (vs:List V) (H1:Hp):Prop
 | mk (l1 l2:_):vs=[.ref l1,.ref l2]->(∃ xs,rH K b1 H1 l1 xs)->(∃ ys,rH K b2 H1 l2 ys)->R (yU K b1 b2 l1 l2) H1->tZ b1 b2 K R vs H1
def A1 (b1 b2:Bool) (K:ZF) (ta:TA):TI:=fun σ H R=>ta σ H fun vs H1=>tZ b1 b2 K R vs H1
theorem wy (b1 b2:Bool) {elts:List Expr} {kt:Nat} {tp:Pos} {a b:Expr} {ta:TA} {p pos:Pos} (hg:Gl X "zip") (hm:X.mg "zip"=none) (ha:PA X [a,b] ta) (hs:starEach [a,b] X.env=[(false,eval a X.env),(false,eval b X.env)]:=by rfl) (hs2:starEach [b] X.env=[(false,eval b X.env)]:=by rfl) :
  PI X (.Tuple elts kt tp) (.Call (.Name "zip" p) [a,b] [] pos) (A1 b1 b2 X.K ta):=by
 refine ⟨?_⟩;intro pins s σ H R I h;refine Call_ (eP I hg hm boot_zip (EL (bG (ha pos pins s σ H _ I h) fun us s1 ⟨vs,H1,I1,r1,q1⟩=>?_) (by rw [hs,hs2]) (by rw [hs2];rfl)));obtain ⟨l1,l2,e,⟨xs,hx⟩,⟨ys,hy⟩,q⟩:=q1;subst e;cases r1 with
 | cons r rr=>
  cases rr with
  | cons r' rr=>
   cases rr;cases r;cases r';obtain ⟨its1,rv1,p1⟩:=I1.seqB hx;obtain ⟨its2,rv2,p2⟩:=I1.seqB hy;refine zip_of p1 p2 fun h' a1 a2 a3 a4 a5 a7=>?_;refine wpAny_pyIter_zip a1 ?_;have lt1:=m8 p1;have lt2:=m8 p2;refine ⟨_,[s1.heap.objs.size+4,s1.heap.objs.size+2,s1.heap.objs.size+3,s1.heap.objs.size,s1.heap.objs.size+1],_,_,H1,rfl,I1.kept (t':=s1.toks) a7,rJ (PyProof.Rows.zipApart_new lt1 lt2),⟨a1,a2,⟨_,_,a3⟩,a4,a5⟩,fun b hb=>?_,q⟩;have hb':s1.heap.objs.size<=b:=by
    simp only [Eo,EE,or_false] at hb;rcases hb with e|e|e|e|e<;>rw [e]
    ·exact Nat.le_add_right _ _
    ·exact Nat.le_add_right _ _
    ·exact Nat.le_add_right _ _
    ·exact Ec _
    ·exact Nat.le_add_right _ _
   exact I1.fpOk hb' (I1.hok.fresh hb')
end
theorem wz {b1 b2:Bool} {K:ZF} {l1 l2:Addr} {g:TG} {tf:TT} {te:TE} {ix:List (Option Nat)} {σ:St} {Q:VK} (hxy:xs.length=ys.length) (Pv:Nat->List V->Hp->Prop) (h0:Pv 0 [] H)
  (hl:∀ i ys' H,i<=xs.length->Pv i ys' H->rH K b1 H l1 xs/\rH K b2 H l2 ys/\ys'.length<=sizeLine)
  (hs:∀ i x y ys' H T,xs[i]?=some x->ys[i]?=some y->H T=none->Pv i ys' H->g (.ref T) (mq ix σ) (upd H T (.tup [x,y])) fun σ2 H2=>ExtL (mq ix σ) σ2/\tf σ2 H2 fun b H3=>if b=true then te σ2 H3 fun y H4=>Nx Pv xs.length i (ys'++[y]) H4 else Nx Pv xs.length i ys' H3)
  (hd:∀ ys' H,Pv xs.length ys' H->∀ D,H D=none->Q (.ref D) (upd H D (.lst ys'))):rm (yU K b1 b2 l1 l2) g tf te ix σ H Q:=by
 refine ⟨fun i m ys' H=>m=xs.length - i/\i<=xs.length/\Pv i ys' H,⟨xs.length,by simp,Ep _,h0⟩,?_⟩;rintro i m ys' H ⟨rfl,hi,p⟩;obtain ⟨q1,q2,hz⟩:=hl i ys' H hi p;by_cases hlt:i < xs.length
 ·have hlt2:i < ys.length:=by lia
  refine .inr ⟨⟨xs,ys,xs[i],ys[i],q1,q2,by simp [hlt],by simp [hlt2]⟩,hz,fun x H' y=>?_⟩;obtain ⟨T,x1,y1,rfl,hT,rfl,ex,ey⟩:=y;exact hs i x1 y1 ys' H T (ex xs q1) (ey ys q2) hT p
 ·have e:i=xs.length:=by lia
  subst e;exact .inl ⟨⟨xs,ys,q1,q2,Ec _⟩,hz,hd ys' H p⟩
section
variable {X:Cx}
inductive yd (r:V->List V->Hp->VK->Prop) (t:TA) (σ:St) (Q:VK) (x:V) (H1:Hp):Prop
 | mk (p xs:_):x=.ref p->H1 p=some (.tup xs)->(t σ H1 fun xs H2=>r x xs H2 Q)->yd r t σ Q x H1
def CU (r:V->List V->Hp->VK->Prop) (to:TE) (t:TA):TE:=fun σ H Q=>to σ H fun x H1=>yd r t σ Q x H1
variable {o e:Expr} {es:List Expr} {to:TE} {t:TA} {name:Str} {apos cpos:Pos} {id:String} {r:V->List V->Hp->VK->Prop}
theorem yV (pa:PlainAttrs "tuple") (slot:Slot "tuple" name id) (hty:typeOf (.builtin id)=pure (.type "method_descriptor")) (hm:Ai X id r) (ho:PE X o to) (ha:PA X (e::es) t)
  (hbase:attributeBase o name X.env (eval o X.env)=eval o X.env:=by rfl)
  (hfew:((backTo cpos (starEach (e::es) X.env)).all (fun x=>!x.1) && (backToKw cpos (keywordEach [] X.env)).all (fun x=>x.1.isSome)
   && decide ((e::es).length+([]:List Keyword).length+(if ([]:List Keyword).isEmpty then 0 else 1) < 30))=true:=by rfl)
  (hline:(apos.endLine == cpos.line)=true:=by rfl) (hs:starEach (e::es) X.env=(false,eval e X.env)::starEach es X.env:=by rfl) (hplain:(backTo cpos (starEach es X.env)).any (·.1)=false:=by rfl) :
  PE X (.Call (.Attribute o name apos) (e::es) [] cpos) (CU r to t):=by
 refine ⟨?_⟩;intro pins s σ H Q I h;refine wpAny_Call_method_late hbase hfew hline rfl (bG (ho pins s σ H _ I h) fun v s1 ⟨x,H1,I1,r1,p,xs,ex,hp,q1⟩=>?_);subst ex;cases r1;obtain ⟨_,its,rv,ob,g1,g2,n,g3⟩:=(show ObjOk X.prog X.w H1 s1.heap p (.tup xs) from I1.hok p _ hp);have gc:=(Prod.mk.inj g2).1;have gd:=(Prod.mk.inj g2).2;refine ⟨"tuple",id,pa,slot,hty,⟨ob,g1,gc⟩,fun a e=>?_,?_⟩
 ·cases e;exact ⟨ob,g1,gd⟩
 have hA:=ha cpos pins s1 σ H1 _ I1 q1;rw [hs] at hA ⊢;refine Fr (by show (false || (backTo cpos (starEach es X.env)).any (·.1))=false;rw [hplain]<;>rfl) (Calls.evalArgs_plain ?_);exact bG hA fun us s2 ⟨vs,H2,I2,r2,q2⟩=>hm pins s2 σ H2 (.ref p) vs _ us Q I2 rfl r2 q2
theorem ua:cV X (.builtin "isinstance") (fun xs H Q=>∃ (a:Addr) (ys:List V) (tp:Addr) (Ts:List String) (b:Bool),xs=[.ref a,.ref tp]/\H a=some (.lst ys)/\H tp=some (.tup (Ts.map V.ty))/\PySem.W.kitAny X.K (.type "list") (Ts.map Value.type)=some b/\Q (.bl b) H):=by
 intro pins s σ H xs us Q I r h;obtain ⟨a,ys,tp,Ts,b,rfl,ha,ht,e,q⟩:=h;obtain ⟨u,u',rfl,rx,ry⟩:=sM r;cases ry;cases rx;obtain ⟨_,its,rv,p⟩:=(show ObjOk X.prog X.w H s.heap tp (.tup (Ts.map V.ty)) from I.hok tp _ ht);have ei:=mY rv;subst ei;obtain ⟨o,h1,h2,h3⟩:=p.up;obtain ⟨oc,od,oda,osl⟩:=o;obtain ⟨n,h3⟩:=h3;dsimp only at h2 h3;subst h2 h3;obtain ⟨its2,r2,pl,_⟩:=I.list (SqL.of ha:SqL X.K H a ys);exact PySem.W.kia_tup PySem.W.kitx_list I.kIn pl.isList.typeIs h1 e (fun z=>nomatch z) fun tk=>⟨.bl _,H,I.tok _,rfl,q⟩
end
end L2
namespace L3
open PySem L2
def ci (i:Nat):Stmt:=PySem.Challenge.pw_rowsbeneath_k14_states_made.main.body.getD i (.Pass ⟨0,0,0,0⟩)
abbrev fJ:Stmt:=ci 43
abbrev kR:Stmt:=ci 4
abbrev iQ:Stmt:=ci 5
abbrev ub:Stmt:=ci 6
abbrev qy:Stmt:=ci 7
abbrev kS:Stmt:=ci 48
abbrev gr:Stmt:=ci 49
abbrev dD:Stmt:=ci 51
abbrev ie:Stmt:=ci 79
abbrev eG:Stmt:=ci 80
abbrev gu:Stmt:=ci 81
abbrev ig:Stmt:=ci 82
abbrev ff:Stmt:=ci 83
abbrev gv:Stmt:=ci 84
abbrev ii:Stmt:=ci 85
abbrev ij:Stmt:=ci 88
abbrev jo:Stmt:=ci 90
abbrev eI:Stmt:=ci 97
abbrev jp:Stmt:=ci 98
abbrev gw:Stmt:=ci 99
abbrev fg:Stmt:=ci 100
abbrev gx:Stmt:=ci 101
abbrev iU:Stmt:=ci 102
abbrev oJ:Stmt:=ci 105
abbrev kU:Stmt:=ci 112
abbrev uc:Stmt:=ci 113
abbrev yW:Stmt:=ci 114
abbrev gy:Stmt:=ci 115
abbrev ud:Stmt:=ci 117
abbrev kW:Stmt:=ci 118
abbrev ue:Stmt:=ci 119
abbrev ni:Stmt:=ci 128
def Fn (P:Program) (w:World) (K:ZF) (mg:Str->Option Value) (base:Heap) (x:Str) (k:Nat) (ps:List Str) (sp:Sp):Prop:=
 ∃ (f:Addr) (fd:FuncData),mg x=some (.ref f)/\PySem.W.keepIn K (.ref f)=true/\Binds K fd ps []/\FnOk P w K mg base bM k f fd ps sp
def DP (sp:Sp) (t:TA):TE:=fun σ H Q=>t σ H fun vs H1=>sp vs H1 Q E0
variable {ps:List Str}
theorem aI {X:Cx} {x:Str} {k:Nat} {sp:Sp} {p pos:Pos} {e:Expr} {es:List Expr} {t:TA} (h:Fn X.prog X.w X.K X.mg X.base x k ps sp) (hr:Room k X.A) (hg:Gl X x) (ha:PA X (e::es) t) (hdb:(x == ("__debug__":Str))=false:=by decide)
  (he:starEach (e::es) X.env=(false,eval e X.env)::starEach es X.env:=by rfl) (hpl:(backTo pos (starEach es X.env)).any (·.1)=false:=by rfl):PE X (.Call (.Name x p) (e::es) [] pos) (DP sp t):=by
 obtain ⟨f,fd,hm,hk,hb,F⟩:=h;refine ⟨?_⟩;intro pins s σ H Q I q;have ha':PA X (e::es) t:=ha;refine kI (dvs:=[]) (E:=E0) F hr hg hm hk hb .nil cm ha' hdb he hpl pins s σ H Q I ?_;show t σ H fun vs H1=>sp (vs++[]) H1 Q E0;have e2:(fun vs H1=>sp (vs++[]) H1 Q E0)=fun vs H1=>sp vs H1 Q E0:=by
  funext vs H1;rw [EC]
 rw [e2];exact q
variable {o:HO} {p:Addr} {H:Hp}
theorem ah (h:H p=none):Same H (upd H p o):=fun b u e=>by rw [aj (aq e h)];exact e
theorem nw {H H':Hp} {a:Addr} {o:HO} (n:H a=none) (z:upd H a o=H'):Same H H'/\H' a=some o:=z ▸ ⟨ah n,ae⟩
variable {H2:Hp}
theorem aV (hp:H p=none) (s:Same H H2):Same H (upd H2 p o):=fun b u e=>by rw [aj (aq e hp)];exact s b u e
variable {b:Bool} {A B:Prop}
theorem bE (e:b=false) (h:B):if b=true then A else B:=by rw [e];exact aZ h
theorem bR (e:b=true) (h:A):if b=true then A else B:=by rw [e];exact bC h
theorem gO {l:List Nat} {i:Nat} (h:i < l.length):j8 (S l).cps.toList (i:Int)=some l[i]:=bq (by show l.toArray.toList[i]?=_;simp [h])
theorem A2:("":Str)=S []:=by decide +kernel
theorem uf (z:Str):z=S z.cps.toList:=by
 show z=⟨z.cps.toList.toArray⟩;simp
theorem ye (a b:List Nat):S a++S b=S (a++b):=by
 show (⟨(S a).cps++(S b).cps⟩:Str)=⟨(a++b).toArray⟩
 congr 1
 simp [S]
theorem br:bootBuiltins "isinstance"=some (.builtin "isinstance"):=by decide +kernel
theorem bF:bootBuiltins "list"=some (.type "list"):=by decide +kernel
theorem dU:bootBuiltins "str"=some (.type "str"):=by decide +kernel
theorem cJ:bootBuiltins "bool"=some (.type "bool"):=by decide +kernel
theorem aY:bootBuiltins "tuple"=some (.type "tuple"):=by decide +kernel
theorem fL:bootBuiltins "all"=some (.builtin "all"):=by decide +kernel
structure Bl (mg:Str->Option Value):Prop where
 len:mg "len"=none
 int:mg "int"=none
 max:mg "max"=none
 min:mg "min"=none
 range:mg "range"=none
 isinstance:mg "isinstance"=none
 list:mg "list"=none
 str:mg "str"=none
 bool:mg "bool"=none
 tuple:mg "tuple"=none
 all:mg "all"=none
def yX (x y z:Int):HO:=.lst [.int x,.int y,.int z]
def Strm (H:Hp) (p:Addr):Prop:=∃ x y z:Int,H p=some (yX x y z)
def But (p:Addr) (H H':Hp):Prop:=∀ b o,H b=some o->b≠p->H' b=some o
theorem But.refl (p:Addr) (H:Hp):But p H H:=fun _ _ e _=>e
variable {H1:Hp}
theorem But.trans (a:But p H H1) (b:But p H1 H2):But p H H2:=fun c o e n=>b c o (a c o e n) n
theorem But.same (a:But p H H1) (b:Same H1 H2):But p H H2:=fun c o e n=>b c o (a c o e n)
theorem jq (b:Same H H1):But p H H1:=fun c o e _=>b c o e
theorem Strm.same (a:Strm H p) (b:Same H H1):Strm H1 p:=let ⟨x,y,z,e⟩:=a;⟨x,y,z,b _ _ e⟩
theorem Strm.ne {p q:Addr} (a:Strm H p) (h:H q=none):p≠q:=let ⟨_,_,_,e⟩:=a;aq e h
inductive oK (K:ZF) (vs:List V) (H:Hp) (Q:VK) (Z3:XK):Prop
 | mk (a:Addr) (ns:List Int) (k:Int):vs=[.ref a,.int k]->SqL K H a (ns.map V.int)->0<=k->(∀ c:Int,Q (.int c) H)->oK K vs H Q Z3
inductive jr (vs:List V) (H:Hp) (Q:VK) (Z3:XK):Prop
 | mk (c:Int):vs=[.int c]->(∀ (p:Addr) H',H p=none->Same H H'->Strm H' p->Q (.ref p) H')->jr vs H Q Z3
inductive ik (vs:List V) (H:Hp) (Q:VK) (Z3:XK):Prop
 | mk (p:Addr) (m:Nat):vs=[.ref p,.int m]->Strm H p->0 < m->m < 18446744073709551616->(∀ (r:Nat) H',r < m->Strm H' p->But p H H'->Q (.int r) H')->ik vs H Q Z3
variable {P:Program} {w:World} {K:ZF} {mg:Str->Option Value} {base:Heap} {C fi aS aE aF aO:Addr} {t1 t2 t3 t4 t5 tM:Tok}
theorem yY:ak ["_law_script","_law_k"] ["_law_script","_law_k"] (ai ud):=ck zk
variable {fd:FuncData} {f:Addr}
theorem wB (F:Fun K "_law_cell" "_law_cell" ud f fd) (T:Bl mg):FnOk P w K mg base bM 1 f fd ["_law_script","_law_k"] (oK K):=by
 have ZZ:=yY
 walk_at "o"
 ·obtain ⟨a,ns,k,rfl,hS,h0,q⟩:=h;refine ⟨_,ad (aR (am dB (pv 1) (ar aK (by rfl) T.len Ei (aa (pv 0) ac))) (af (ao (aG aM (pv 0) (pv 1)))) ay)
   (af (ao (aL cN (aL eQ ag (pv 1)) ag))),?_⟩
  refine ⟨_,rfl,_,rfl,a,_,rfl,.inl hS,_,_,rfl,rfl,_,rfl,?_⟩;refine kM (fun h=>?_) (fun h=>?_)
  ·have hl:k < ((ns.map V.int).length:Int):=of_decide_eq_true h;rw [D8] at hl;obtain ⟨n,rfl⟩:∃ n:Nat,k=n:=⟨k.toNat,zo⟩;have hn:n < ns.length:=by lia
   refine ⟨_,rfl,_,rfl,a,_,_,_,rfl,rfl,hS,bq (v:=.int ns[n]) (by simp [hn]),q _⟩
  ·exact ⟨_,rfl,_,_,rfl,rfl,.inl ⟨zd,zd⟩,_,_,rfl,rfl,q _⟩
theorem ug:ak ["_law_cell_here"] ["_law_cell_here"] (ai kW):=ck zk
theorem rK (F:Fun K "_law_stream" "_law_stream" kW f fd) (T:Bl mg):FnOk P w K mg base bM 1 f fd ["_law_cell_here"] jr:=by
 have ZZ:=ug
 walk_at "o"
 ·obtain ⟨c,rfl,q⟩:=h;refine ⟨_,af (ao (aT (aa (aL eQ (pv 0) (aN fE (by rfl) T.int EJ (aa (cf AE (pv 0) (aL kD ag ag)) ac)))
   (aa (aL eR (pv 0) ag) (aa ag ac))))),?_⟩
  refine ⟨_,rfl,_,rfl,_,_,rfl,rfl,⟨zd,zd,zd⟩,_,_,rfl,rfl,.inr ⟨_,rfl,?_⟩⟩;refine ⟨_,_,rfl,rfl,.inr (by split<;>decide),_,rfl,_,_,rfl,rfl,(by show (0:Int) < 2147483629;decide),zlx,fun l hl=>?_⟩;exact q l _ hl (ah hl) ⟨_,_,_,ae⟩
theorem scTake:ak ["_law_stream_here","_law_many","_law_digit","_law_number"] ["_law_stream_here","_law_many"] (ai ue):=ck zk
theorem nj {n m:Int} (hm:0 < m) (h:m < 2 ^ 64):-(2 ^ 64) < n % m/\n % m < 2 ^ 64:=by
 have:=Int.emod_nonneg n (show m≠0 by lia);have:=Int.emod_lt_of_pos n hm;lia
theorem wC (F:Fun K "_law_take" "_law_take" ue f fd):FnOk P w K mg base bM 1 f fd ["_law_stream_here","_law_many"] ik:=by
 have ZZ:=scTake
 walk_at "o"
 ·obtain ⟨p,m,rfl,⟨x,y,z,hp⟩,m0,m1,q⟩:=h;have fin:∀ (e x' y' z':Int) H1,0<=e->e < m->But p H H1->Q (.int e) (upd H1 p (yX x' y' z')):=fun e x' y' z' H1 h0 h1 b=>by
   have:=q e.toNat (upd H1 p (yX x' y' z')) zo ⟨_,_,_,ae⟩ (fun c o e n=>by rw [aj n];exact b c o e n);rw [Int.toNat_of_nonneg h0] at this;exact this
  have b1:∀ o,But p H (upd H p o):=fun o c u e n=>by rw [aj n];exact e
  refine ⟨_,ad (aR (am i6 (aG aM (pv 0) ag) ag)
    (ad (aA (i:=2) scTake.nd rfl (Or.inl rfl) (aL eR (aG aM (pv 0) ag) (pv 1)))
    (ad (dj (aL tJ (aG aM (pv 0) ag) (pv 1)) (i5 (pv 0) ag eZ))
    (af (ao (pv 2))))) ay)
   (ad (dj (aL cN (aG aM (pv 0) ag) ag) (i5 (pv 0) ag eZ))
   (ad (aA (i:=3) scTake.nd rfl (Or.inl rfl) (aL eR (aL cN (aL eQ (aL cN (aG aM (pv 0) ag) (aL eQ ag (aG aM (pv 0) ag))) ag) ag) ag))
   (ad (aA (i:=3) scTake.nd rfl (Or.inl rfl) (aL eR (aL eQ (pv 3) (pv 3)) ag))
   (af (ao (aL eR (aL vU (aL eR (aL cN (aL eQ (pv 3) (pv 3)) (aL eQ ag (aG aM (pv 0) ag))) ag) ag) (pv 1))))))),?_⟩
  refine ⟨_,rfl,p,_,_,_,rfl,rfl,SqL.of hp,rfl,_,_,rfl,rfl,_,rfl,?_⟩;refine kM (fun h=>?_) (fun h=>?_)
  ·refine ⟨_,rfl,p,_,_,_,rfl,rfl,SqL.of hp,rfl,_,rfl,_,_,rfl,rfl,(by show (0:Int) < (m:Int);lia),?_⟩;refine ⟨_,rfl,p,_,_,_,rfl,rfl,SqL.of hp,rfl,_,rfl,_,_,rfl,rfl,⟨by show (0:Int) < (m:Int);lia,by show (m:Int) < 18446744073709551616;lia⟩,?_⟩;refine ⟨_,rfl,p,_,_,_,rfl,rfl,hp,rfl,?_⟩;refine ⟨_,rfl,?_⟩;exact fin _ _ _ _ _ (Int.emod_nonneg _ zo) (Int.emod_lt_of_pos _ zo) (But.refl _ _)
  ·refine ⟨_,rfl,p,_,_,_,rfl,rfl,SqL.of hp,rfl,_,_,rfl,rfl,?_⟩;refine ⟨_,rfl,p,_,_,_,rfl,rfl,hp,rfl,?_⟩;refine ⟨_,rfl,p,_,_,_,rfl,rfl,SqL.of ae,rfl,_,rfl,p,_,_,_,rfl,rfl,SqL.of ae,rfl,_,_,rfl,rfl,.inl ⟨zd,zd⟩,_,_,rfl,rfl,_,_,rfl,rfl,.inr ⟨zd,zd⟩,_,_,rfl,rfl,_,_,rfl,rfl,(by show (0:Int) < 2147483647;decide),?_⟩;refine ⟨_,rfl,_,rfl,_,_,rfl,rfl,.inl (nj zd zd),_,_,rfl,rfl,(by show (0:Int) < 2147483629;decide),?_⟩;refine ⟨_,rfl,_,rfl,_,_,rfl,rfl,.inl (nj zd zd),_,rfl,p,_,_,_,rfl,rfl,SqL.of ae,rfl,_,_,rfl,rfl,.inl ⟨zd,zd⟩,_,_,rfl,rfl,_,_,rfl,rfl,(by show (0:Int) < 2147483587;decide),_,_,rfl,rfl,⟨zd,zd⟩,_,rfl,_,_,rfl,rfl,(by show (0:Int) < (m:Int);lia),?_⟩;exact fin _ _ _ _ _ (Int.emod_nonneg _ zo) (Int.emod_lt_of_pos _ zo) (But.refl _ _)
def au (l:List Str):List V:=l.map V.str
def bT (P:Program) (w:World) (K:ZF) (mg:Str->Option Value) (base:Heap) (C:Addr) (nm:Str) (n:Nat) (ps:List Str) (sp:Sp):Prop:=∃ f fd,kG K C nm f/\FnOk P w K mg base bM n f fd ps sp/\Binds K fd ps []
def vN (l:Addr) (k:Nat) (me:Bool):List (Str×V):=[("tokens",.ref l),("spot",.int k),("may_end",.bl me)]
structure RdO (C:Addr) (H:Hp) (a l:Addr) (ts:List Str) (k:Nat) (me:Bool):Prop where
 ob:∃ dx,H a=some (.ins C dx (vN l k me))
 tk:H l=some (.lst (au (ts++[("":Str)])))
 le:ts.length<=1500
def ButO (a:Addr) (H H':Hp):Prop:=∀ b o,H b=some o->b≠a->H' b=some o
theorem ButO.refl (p:Addr) (H:Hp):ButO p H H:=fun _ _ e _=>e
theorem ButO.trans (a:ButO p H H1) (b:ButO p H1 H2):ButO p H H2:=fun c o e n=>b c o (a c o e n) n
theorem ButO.same (a:ButO p H H1) (b:Same H1 H2):ButO p H H2:=fun c o e n=>b c o (a c o e n)
theorem dq (b:Same H H1):ButO p H H1:=fun c o e _=>b c o e
variable {me:Bool} {ts:List Str}
theorem RdO.same {H H':Hp} {a l:Addr} {k:Nat} (h:RdO C H a l ts k me) (s:Same H H'):RdO C H' a l ts k me:=⟨let ⟨dx,e⟩:=h.ob;⟨dx,s _ _ e⟩,s _ _ h.tk,h.le⟩
theorem RdO.ne {a l:Addr} {k:Nat} (h:RdO C H a l ts k me):l≠a:=by
 rintro rfl;obtain ⟨dx,e⟩:=h.ob;rw [h.tk] at e;cases e
structure Rc (K:ZF) (C:Addr):Prop where
 cl:Cls K C
 n1:NoAttr K C "tokens"
 n2:NoAttr K C "spot"
 n3:NoAttr K C "may_end"
inductive oM (C:Addr) (vs:List V) (H:Hp) (Q:VK) (Z3:XK):Prop
 | mk (a l ts k me z:_):vs=[.ref a]->RdO C H a l ts k me->(ts++[("":Str)])[k]?=some z->Q (.str z) H->oM C vs H Q Z3
inductive yZ (C:Addr) (vs:List V) (H:Hp) (Q:VK) (Z3:XK):Prop
 | mk (a l ts k me z:_):vs=[.ref a]->RdO C H a l ts k me->(ts++[("":Str)])[k]?=some z->(∀ H',RdO C H' a l ts (k+1) me->ButO a H H'->Q (.str z) H')->yZ C vs H Q Z3
inductive oN (K:ZF) (C:Addr) (vs:List V) (H:Hp) (Q:VK) (Z3:XK):Prop
 | mk (a l ts k me z p xs:_):vs=[.ref a,.ref p]->RdO C H a l ts k me->(ts++[("":Str)])[k]?=some z->(SqL K H p (au xs)\/SqT K H p (au xs))->z∈xs->(∀ H',RdO C H' a l ts (k+1) me->ButO a H H'->Q (.str z) H')->oN K C vs H Q Z3
abbrev uh:Stmt:=bo (ci 78) 1
abbrev CV:Stmt:=bo (ci 78) 2
abbrev ui:Stmt:=bo (ci 78) 3
variable {z:Str}
theorem uj {k:Nat} (h:(ts++[("":Str)])[k]?=some z):(au (ts++[("":Str)]))[k]?=some (.str z):=by unfold au;rw [EU,h];rfl
theorem fh (x:Str) (l:List Str):qj (.str x) (au l)=l.contains x:=by
 unfold qj au;rw [List.any_map,E1,List.any_eq_true,EZ];constructor
 ·rintro ⟨y,hy,e⟩;have:y=x:=by simpa [oy] using e
  rw [<-this];exact hy
 ·intro hx;exact ⟨x,hx,by simp [oy]⟩
theorem dW (l:List Str):(au l).all eM=true:=by
 unfold au;rw [List.all_map,EQ];intro x _;rfl
theorem y6:ak ["self"] ["self"] (ai uh):=ck zk
theorem wD (F:Fun K "look" "Reader.look" uh f fd) (T:Rc K C):FnOk P w K mg base bM 1 f fd ["self"] (oM C):=by
 have ZZ:=y6
 walk_at "o"
 ·obtain ⟨a,l,ts,k,me,z,rfl,hR,hz,q⟩:=h;refine ⟨_,af (ao (aG aM (ax (pv 0) rfl) (ax (pv 0) rfl))),?_⟩;obtain ⟨dx,ho⟩:=hR.ob;exact ⟨_,rfl,a,C,dx,_,_,rfl,ho,T.cl,T.n1,rfl,_,rfl,a,C,dx,_,_,rfl,ho,T.cl,T.n2,rfl,l,_,_,_,rfl,rfl,SqL.of hR.tk,bq (uj hz),q⟩
theorem CY:ak ["self"] ["self"] (ai CV):=ck zk
theorem A3 (F:Fun K "take" "Reader.take" CV f fd) (T:Rc K C):FnOk P w K mg base bM 1 f fd ["self"] (yZ C):=by
 have ZZ:=CY
 walk_at "o"
 ·obtain ⟨a,l,ts,k,me,z,rfl,hR,hz,q⟩:=h;refine ⟨_,ad (fF (pv 0) ag kH) (af (ao (aG aM (ax (pv 0) rfl) (aL en (ax (pv 0) rfl) ag)))),?_⟩;obtain ⟨dx,ho⟩:=hR.ob;refine ⟨_,rfl,a,C,dx,_,_,rfl,ho,T.cl,T.n2,rfl,_,_,rfl,rfl,dx,_,ho,(by show 3 < 1000;decide),?_⟩;have e1:(upd H a (.ins C dx (aJ "spot" (.int ((k:Int)+1)) (vN l k me)))) a=some (.ins C dx (vN l (k+1) me)):=by rw [ae];rfl
  have e2:(upd H a (.ins C dx (aJ "spot" (.int ((k:Int)+1)) (vN l k me)))) l=some (.lst (au (ts++[("":Str)]))):=by rw [aj hR.ne];exact hR.tk
  have b2:ButO a H (upd H a (.ins C dx (aJ "spot" (.int ((k:Int)+1)) (vN l k me)))):=fun b o e n=>by rw [aj n];exact e
  generalize upd H a (.ins C dx (aJ "spot" (.int ((k:Int)+1)) (vN l k me)))=H1 at *;refine ⟨_,rfl,a,C,dx,_,_,rfl,e1,T.cl,T.n1,rfl,_,rfl,a,C,dx,_,_,rfl,e1,T.cl,T.n2,rfl,_,_,rfl,rfl,l,_,_,_,rfl,rfl,SqL.of e2,?_,q _ ⟨⟨dx,e1⟩,e2,hR.le⟩ b2⟩;have:(((k+1:Nat):Int) - 1)=(k:Int):=by lia
  rw [this];exact bq (uj hz)
structure Rm (P:Program) (w:World) (K:ZF) (mg:Str->Option Value) (base:Heap) (C:Addr):Prop extends Rc K C where
 look:bT P w K mg base C "look" 1 ["self"] (oM C)
 take:bT P w K mg base C "take" 1 ["self"] (yZ C)
theorem y8:ak ["self","words"] ["self","words"] (ai ui):=ck zk
theorem wE (F:Fun K "need" "Reader.need" ui f fd) (T:Rm P w K mg base C):FnOk P w K mg base bM 2 f fd ["self","words"] (oN K C):=by
 have ZZ:=y8
 walk_at "o"
 ·obtain ⟨a,l,ts,k,me,z,p,xs,rfl,hR,hz,hp,hm,q⟩:=h;have hr1:Room 1 _:=hr;refine ⟨_,ad (aR (am dk (aP (pv 0)) (pv 1) rfl) (af be) ay) (af (ao (aP (pv 0)))),?_⟩;obtain ⟨dx,ho⟩:=hR.ob;obtain ⟨f1,fd1,M1,F1,B1⟩:=T.look;obtain ⟨f2,fd2,M2,F2,B2⟩:=T.take;refine ⟨_,rfl,a,dx,C,f1,_,fd1,1,["self"],_,rfl,ho,rfl,T.cl,M1,F1,hr1,B1,a,l,ts,k,me,z,rfl,hR,hz,_,rfl,p,au xs,rfl,?_,rfl,dW _,_,rfl,bE ?_ ?_⟩
  ·exact hp
  ·show (!qj (.str z) (au xs))=false;rw [fh,EZ.mpr hm];rfl
  ·exact ⟨_,rfl,a,dx,C,f2,_,fd2,1,["self"],_,rfl,ho,rfl,T.cl,M2,F2,hr1,B2,a,l,ts,k,me,z,rfl,hR,hz,q⟩
abbrev tz (ts:List Str):List Str:=ts++[("":Str)]
def oO:List Str:=["word","cells","depth","places","marks","gate","kind","place","mark","number","row","set","if","else","top","next","go","call","back","stop","fault","bell"]
def NameS (z:Str):Prop:=z∉oO/\1<=z.length/\z.length<=8/\∀ c∈z.cps.toList,97<=c/\c<=122
inductive y9 (vs:List V) (H:Hp) (Q:VK) (Z3:XK):Prop
 | mk (z:_):vs=[.str z]->NameS z->(∀ H',Same H H'->Q (.bl true) H')->y9 vs H Q Z3
inductive kX (vs:List V) (H:Hp) (Q:VK) (Z3:XK):Prop
 | mk (n:Nat):vs=[.str (toString (n:Int):Str)]->n < 1000000000->(∀ H',Same H H'->Q (.int n) H')->kX vs H Q Z3
inductive kY (vs:List V) (H:Hp) (Q:VK) (Z3:XK):Prop
 | mk (i:Int):vs=[.int i]->Q (.bl true) H->kY vs H Q Z3
inductive dX (vs:List V) (H:Hp) (Q:VK) (Z3:XK):Prop
 | mk (i lo hi:Int):vs=[.int i,.int lo,.int hi]->lo<=i->i<=hi->Q (.bl true) H->dX vs H Q Z3
inductive gz (C:Addr) (vs:List V) (H:Hp) (Q:VK) (Z3:XK):Prop
 | mk (a l ts k me z:_):vs=[.ref a]->RdO C H a l ts k me->(tz ts)[k]?=some z->NameS z->(∀ H',RdO C H' a l ts (k+1) me->ButO a H H'->Q (.str z) H')->gz C vs H Q Z3
inductive eJ (C:Addr) (vs:List V) (H:Hp) (Q:VK) (Z3:XK):Prop
 | mk (a l ts k me:_) (n lo hi:Nat):vs=[.ref a,.int lo,.int hi]->RdO C H a l ts k me->(tz ts)[k]?=some (toString (n:Int):Str)->n < 1000000000->lo<=n->n<=hi->(∀ H',RdO C H' a l ts (k+1) me->ButO a H H'->Q (.int n) H')->eJ C vs H Q Z3
inductive il (C:Addr) (vs:List V) (H:Hp) (Q:VK) (Z3:XK):Prop
 | mk (a l ts k:_):vs=[.ref a]->RdO C H a l ts k true->k=ts.length->Q .non H->il C vs H Q Z3
abbrev io:Stmt:=bo (ci 78) 4
abbrev fj:Stmt:=bo (ci 78) 5
abbrev js:Stmt:=bo (ci 78) 6
theorem qz:ak ["thing"] ["thing"] (ai kR):=ck zk
theorem uk (F:Fun K "is_whole" "is_whole" kR f fd) (T:Bl mg):FnOk P w K mg base bM 1 f fd ["thing"] kY:=by
 have ZZ:=qz
 walk_at "o"
 ·obtain ⟨i,rfl,q⟩:=h;refine ⟨_,af (ao (dZ (ar (cw (T:="int")) (by rfl) T.isinstance br (aa (pv 0) (aa (pe_ty (by rfl) T.int EJ) ac))) (di (sC (ar (cw (T:="bool")) (by rfl) T.isinstance br (aa (pv 0) (aa (pe_ty (by rfl) T.bool cJ) ac))))))),?_⟩;exact ⟨_,rfl,_,_,_,rfl,.int _,rfl,_,rfl,bC ⟨_,rfl,_,_,_,rfl,.int _,rfl,_,rfl,q⟩⟩
theorem no:ak ["thing","low","high"] ["thing","low","high"] (ai iQ):=ck zk
theorem rL (F:Fun K "is_within" "is_within" iQ f fd) (WH:Fn P w K mg base "is_whole" 1 ["thing"] kY):FnOk P w K mg base bM 2 f fd ["thing","low","high"] dX:=by
 have ZZ:=no
 walk_at "o"
 ·obtain ⟨i,lo,hi,rfl,h1,h2,q⟩:=h;refine ⟨_,af (ao (dZ (aI WH hr rfl (aa (pv 0) ac)) (di (i7 eT eT (pv 1) (pv 0) (pv 2))))),?_⟩;refine ⟨_,rfl,i,rfl,_,rfl,bC ⟨_,rfl,_,rfl,_,_,rfl,rfl,_,rfl,bR (decide_eq_true h1) ⟨_,rfl,_,_,rfl,rfl,?_⟩⟩⟩;show Q (V.bl (decide (i<=hi))) H;rw [decide_eq_true h2];exact q
theorem oP:ak ["self"] ["self"] (ai io):=ck zk
theorem nu (F:Fun K "need_name" "Reader.need_name" io f fd) (T:Rm P w K mg base C) (NM:Fn P w K mg base "is_name" 1 ["thing"] y9):FnOk P w K mg base bM 2 f fd ["self"] (gz C):=by
 have ZZ:=oP
 walk_at "o"
 ·obtain ⟨a,l,ts,k,me,z,rfl,hR,hz,hn,q⟩:=h;have hr1:Room 1 _:=hr;refine ⟨_,ad (aR (bx (bj (aI NM hr1 rfl (aa (aP (pv 0)) ac)))) (af be) ay) (af (ao (aP (pv 0)))),?_⟩;obtain ⟨dx,ho⟩:=hR.ob;obtain ⟨f1,fd1,M1,F1,B1⟩:=T.look;obtain ⟨f2,fd2,M2,F2,B2⟩:=T.take;refine ⟨_,rfl,a,dx,C,f1,_,fd1,1,["self"],_,rfl,ho,rfl,T.cl,M1,F1,hr1,B1,a,l,ts,k,me,z,rfl,hR,hz,z,rfl,hn,fun H1 s1=>⟨_,rfl,aZ ?_⟩⟩;exact ⟨_,rfl,a,dx,C,f2,_,fd2,1,["self"],_,rfl,s1 _ _ ho,rfl,T.cl,M2,F2,hr1,B2,a,l,ts,k,me,z,rfl,hR.same s1,hz,fun H2 r2 b2=>q H2 r2 ((dq s1).trans b2)⟩
theorem scNeedNumber:ak ["self","low","high","number"] ["self","low","high"] (ai fj):=ck zk
theorem jQ (F:Fun K "need_number" "Reader.need_number" fj f fd) (T:Rm P w K mg base C) (NU:Fn P w K mg base "number_of" 1 ["token"] kX) (WI:Fn P w K mg base "is_within" 2 ["thing","low","high"] dX):FnOk P w K mg base bM 3 f fd ["self","low","high"] (eJ C):=by
 have ZZ:=scNeedNumber
 walk_at "o"
 ·obtain ⟨a,l,ts,k,me,n,lo,hi,rfl,hR,hz,hn,h1,h2,q⟩:=h;refine ⟨_,ad (aA (i:=3) scNeedNumber.nd rfl (Or.inl rfl) (aI NU hr.m rfl (aa (aP (pv 0)) ac)))
   (ad (aR (bx (bj (aI WI hr rfl (aa (pv 3) (aa (pv 1) (aa (pv 2) ac)))))) (af be) ay)
   (ad (fF (pv 0) ag kH) (af (ao (pv 3))))),?_⟩
  obtain ⟨dx,ho⟩:=hR.ob;obtain ⟨f1,fd1,M1,F1,B1⟩:=T.look;refine ⟨_,rfl,a,dx,C,f1,_,fd1,1,["self"],_,rfl,ho,rfl,T.cl,M1,F1,hr.m,B1,a,l,ts,k,me,_,rfl,hR,hz,n,rfl,hn,fun H1 s1=>?_⟩;refine ⟨_,rfl,_,rfl,_,rfl,(n:Int),(lo:Int),(hi:Int),rfl,zo,zo,_,rfl,aZ ?_⟩;have hR1:=hR.same s1;have ho1:=s1 _ _ ho;refine ⟨_,rfl,a,C,dx,_,_,rfl,ho1,T.cl,T.n2,rfl,_,_,rfl,rfl,dx,_,ho1,(by show 3 < 1000;decide),?_⟩;have e1:(upd H1 a (.ins C dx (aJ "spot" (.int ((k:Int)+1)) (vN l k me)))) a=some (.ins C dx (vN l (k+1) me)):=by rw [ae];rfl
  have e2:(upd H1 a (.ins C dx (aJ "spot" (.int ((k:Int)+1)) (vN l k me)))) l=some (.lst (au (ts++[("":Str)]))):=by rw [aj hR.ne];exact hR1.tk
  exact ⟨_,rfl,q _ ⟨⟨dx,e1⟩,e2,hR.le⟩ (fun b o e n=>by rw [aj n];exact s1 _ _ e)⟩
theorem rM:ak ["self"] ["self"] (ai js):=ck zk
theorem oQ (F:Fun K "need_end" "Reader.need_end" js f fd) (T:Rm P w K mg base C) (B:Bl mg):FnOk P w K mg base bM 1 f fd ["self"] (il C):=by
 have ZZ:=rM
 walk_at "o"
 ·obtain ⟨a,l,ts,k,rfl,hR,hk,q⟩:=h;refine ⟨_,af (aR (PW.pt (cH (bx (bj (ax (pv 0) rfl))) (cG (am dB (aL cN (ax (pv 0) rfl) ag) (ar aK (by rfl) B.len Ei (aa (ax (pv 0) rfl) ac)))))) (af be) ay),?_⟩;obtain ⟨dx,ho⟩:=hR.ob;refine ⟨_,rfl,a,C,dx,_,_,rfl,ho,T.cl,T.n3,rfl,_,rfl,aZ ?_⟩;refine ⟨_,rfl,a,C,dx,_,_,rfl,ho,T.cl,T.n2,rfl,_,_,rfl,rfl,_,rfl,a,C,dx,_,_,rfl,ho,T.cl,T.n1,rfl,l,_,rfl,.inl (SqL.of hR.tk),_,_,rfl,rfl,_,rfl,bE (decide_eq_false ?_) q⟩;unfold au;rw [D8,D9];simp;lia
structure vO (P:Program) (w:World) (K:ZF) (mg:Str->Option Value) (base:Heap) (C:Addr):Prop extends Rm P w K mg base C where
 need:bT P w K mg base C "need" 2 ["self","words"] (oN K C)
 nname:bT P w K mg base C "need_name" 2 ["self"] (gz C)
 nnum:bT P w K mg base C "need_number" 3 ["self","low","high"] (eJ C)
 nend:bT P w K mg base C "need_end" 1 ["self"] (il C)
inductive ip (C:Addr) (vs:List V) (H:Hp) (Q:VK) (Z3:XK):Prop
 | mk (a l ts k me wd:_) (n lo hi:Nat):vs=[.ref a,.str wd,.int lo,.int hi]->RdO C H a l ts k me->(tz ts)[k]?=some wd->(tz ts)[k+1]?=some (toString (n:Int):Str)->(tz ts)[k+2]?=some ";"->n < 1000000000->lo<=n->n<=hi->(∀ H',RdO C H' a l ts (k+3) me->ButO a H H'->Q (.int n) H')->ip C vs H Q Z3
def nv (ts:List Str) (k:Nat) (zs:List Str):Prop:=∀ i (h:i < zs.length),(tz ts)[k+i]?=some zs[i]/\NameS zs[i]
inductive kZ (C:Addr) (vs:List V) (H:Hp) (Q:VK) (Z3:XK):Prop
 | mk (a l ts k me wd zs:_) (lo hi:Nat):vs=[.ref a,.str wd,.int lo,.int hi]->RdO C H a l ts k me->(tz ts)[k]?=some wd->nv ts (k+1) zs->(tz ts)[k+1+zs.length]?=some ";"->lo<=zs.length->zs.length<=hi->hi<=10->(∀ p H',RdO C H' a l ts (k+2+zs.length) me->ButO a H H'->H p=none->H' p=some (.tup (au zs))->Q (.ref p) H')->kZ C vs H Q Z3
theorem scBounded:ak ["reader","word","low","high","number"] ["reader","word","low","high"] (ai eG):=ck zk
theorem oR (F:Fun K "read_bounded" "read_bounded" eG f fd) (T:vO P w K mg base C):FnOk P w K mg base bM 4 f fd ["reader","word","low","high"] (ip C):=by
 have ZZ:=scBounded
 walk_at "o"
 ·obtain ⟨a,l,ts,k,me,wd,n,lo,hi,rfl,hR,t0,t1,t2,hn,h1,h2,q⟩:=h;refine ⟨_,ad (aQ (bK (pv 0) (aa (aW (aa (pv 1) ac)) ac)))
   (ad (aA (i:=4) scBounded.nd rfl (Or.inl rfl) (bK (pv 0) (aa (pv 2) (aa (pv 3) ac))))
   (ad (aQ (bK (pv 0) (aa (aW (aa aC ac)) ac)))
   (af (ao (pv 4))))),?_⟩
  obtain ⟨f1,fd1,M1,F1,B1⟩:=T.need;obtain ⟨f2,fd2,M2,F2,B2⟩:=T.nnum;obtain ⟨dx,ho⟩:=hR.ob;refine ⟨_,rfl,a,dx,C,f1,_,fd1,2,["self","words"],_,rfl,ho,rfl,T.cl,M1,F1,hr.m,B1,_,rfl,zlx,fun p1 n1=>?_⟩;have s1:=ah (o:=.tup [.str wd]) n1;refine ⟨a,l,ts,k,me,wd,p1,[wd],rfl,hR.same s1,t0,(.inr (SqT.of ae)),by simp,fun H1 r1 b1=>?_⟩;obtain ⟨dx1,ho1⟩:=r1.ob;refine ⟨_,rfl,a,dx1,C,f2,_,fd2,3,["self","low","high"],_,rfl,ho1,rfl,T.cl,M2,F2,hr,B2,_,rfl,_,rfl,a,l,ts,k+1,me,n,lo,hi,rfl,r1,t1,hn,h1,h2,fun H2 r2 b2=>?_⟩;obtain ⟨dx2,ho2⟩:=r2.ob;refine ⟨_,rfl,a,dx2,C,f1,_,fd1,2,["self","words"],_,rfl,ho2,rfl,T.cl,M1,F1,hr.m,B1,zlx,fun p2 n2=>?_⟩;have s2:=ah (o:=.tup [.str ";"]) n2;refine ⟨a,l,ts,k+2,me,";",p2,[";"],rfl,r2.same s2,t2,(.inr (SqT.of ae)),by simp,fun H3 r3 b3=>?_⟩;exact ⟨_,rfl,q H3 r3 (((dq s1).trans (b1.trans b2)).trans ((dq s2).trans b3))⟩
theorem scNames:ak ["reader","word","least","most","names"] ["reader","word","least","most"] (ai gu):=ck zk
theorem ul (F:Fun K "read_names" "read_names" gu f fd) (T:vO P w K mg base C) (B:Bl mg):FnOk P w K mg base bM 3 f fd ["reader","word","least","most"] (kZ C):=by
 have ZZ:=scNames
 walk_at "o"
 ·obtain ⟨a,l,ts,k,me,wd,zs,lo,hi,rfl,hR,t0,tn,te,h1,h2,h10,q⟩:=h;refine ⟨_,ad (aQ (bK (pv 0) (aa (aW (aa (pv 1) ac)) ac)))
   (ad (aA (i:=4) scNames.nd rfl (Or.inl rfl) (aT ac))
   (ad (c8 PassesOwn.never (PW.pt (cH (am dB (ar aK (by rfl) B.len Ei (aa (pv 4) ac)) (pv 2)) (cG (PW.pt (cq (am dB (ar aK (by rfl) B.len Ei (aa (pv 4) ac)) (pv 3)) (cc (am mC (aP (pv 0)) aC)))))))
    (af (aQ (dR Et Ev Eu bQ (pv 4) (aa (aP (pv 0)) ac)))))
   (ad (aQ (bK (pv 0) (aa (aW (aa aC ac)) ac)))
   (af (ao (aN aX (by rfl) B.tuple aY (aa (pv 4) ac))))))),?_⟩
  obtain ⟨f1,fd1,M1,F1,B1⟩:=T.need;obtain ⟨f2,fd2,M2,F2,B2⟩:=T.nname;obtain ⟨f3,fd3,M3,F3,B3⟩:=T.look;obtain ⟨dx,ho⟩:=hR.ob;have sz:(1000:Nat)<=sizeLine:=by decide
  refine ⟨_,rfl,a,dx,C,f1,_,fd1,2,["self","words"],_,rfl,ho,rfl,T.cl,M1,F1,hr,B1,_,rfl,zlx,fun p1 n1=>?_⟩;have s1:=ah (o:=.tup [.str wd]) n1;refine ⟨a,l,ts,k,me,wd,p1,[wd],rfl,hR.same s1,t0,(.inr (SqT.of ae)),by simp,fun H1 r1 b1=>?_⟩;have c1:ButO a H H1:=(dq s1).trans b1;refine ⟨zlx,fun ln nn=>?_⟩;have s2:=ah (o:=.lst []) nn;have e2:(upd H1 ln (.lst [])) ln=some (.lst (au [])):=ae;have r2:=r1.same s2;have c2:=c1.same s2;have nH:H ln=none:=by
   by_cases hh:ln=a
   ·subst hh;obtain ⟨dx1,ho1⟩:=r1.ob;rw [ho1] at nn;cases nn
   ·cases hx:H ln with
    | none=>rfl
    | some o=>
     have:=c1 _ _ hx hh;rw [nn] at this;cases this
  have lna:ln≠a:=by
   rintro rfl;rw [nH] at ho;cases ho
  have lnl:ln≠l:=fun z=>by
   have:=hR.tk;rw [<-z,nH] at this;cases this
  generalize upd H1 ln (.lst ([]:List V))=H2 at *;refine ⟨fun m σ H'=>∃ i,i<=zs.length/\m=zs.length - i/\σ=[some (.ref a),some (.str wd),some (.int lo),some (.int hi),some (.ref ln)]/\RdO C H' a l ts (k+1+i) me/\ButO a H H'/\H' ln=some (.lst (au (zs.take i))),⟨_,0,Ep _,rfl,rfl,r2,c2,e2⟩,?_⟩;rintro m σ H3 ⟨i,hi3,rfl,rfl,r3,c3,e3⟩;have lt:(au (zs.take i)).length=i:=by
   unfold au;rw [D8,Em];lia
  obtain ⟨dx3,ho3⟩:=r3.ob;by_cases hlt:i < zs.length
  ·obtain ⟨tz1,nm1⟩:=tn i hlt;have tk1:zs.take (i+1)=zs.take i++[zs[i]]:=by rw [Fd,EF hlt];rfl
   have nsc:zs[i]≠(";":Str):=by
    intro z;obtain ⟨_,_,_,hc⟩:=nm1;rw [z] at hc;exact absurd (hc 59 zk) zo
   by_cases hlo:i < lo
   ·refine ⟨_,rfl,ln,_,rfl,.inl (SqL.of e3),_,rfl,_,_,rfl,rfl,_,rfl,bR (decide_eq_true (by rw [lt];lia)) ?_⟩;refine ⟨fun σ' H'=>∃ i',i'=i+1/\σ'=[some (.ref a),some (.str wd),some (.int lo),some (.int hi),some (.ref ln)]/\RdO C H' a l ts (k+1+i') me/\ButO a H H'/\H' ln=some (.lst (au (zs.take i'))),fun σ' H' ⟨i',e',a1,a2,a3,a4⟩=>⟨zs.length - i',zo,i',zo,rfl,a1,a2,a3,a4⟩,?_⟩;refine ⟨_,rfl,.inl ⟨rfl,_,SqL.of e3⟩,_,rfl,a,dx3,C,f2,_,fd2,2,["self"],_,rfl,ho3,rfl,T.cl,M2,F2,hr,B2,a,l,ts,k+1+i,me,zs[i],rfl,r3,tz1,nm1,fun H4 r4 b4=>?_⟩;have e4:=b4 _ _ e3 lna;refine ⟨ln,_,_,rfl,rfl,e4,by rw [lt];lia,i+1,rfl,rfl,?_,?_,?_⟩
    ·refine ⟨?_,?_,r4.le⟩
     ·obtain ⟨dx4,ho4⟩:=r4.ob;exact ⟨dx4,by rw [aj lna.symm];exact ho4⟩
     ·rw [aj lnl.symm];exact r4.tk
    ·intro b o e nb;by_cases hbl:b=ln
     ·rw [hbl,nH] at e;cases e
     ·rw [aj hbl];exact b4 _ _ (c3 _ _ e nb) nb
    ·rw [ae,tk1];unfold au;rw [Ek];rfl
   ·refine ⟨_,rfl,ln,_,rfl,.inl (SqL.of e3),_,rfl,_,_,rfl,rfl,_,rfl,bE (decide_eq_false (by rw [lt];lia)) ?_⟩;refine ⟨_,rfl,ln,_,rfl,.inl (SqL.of e3),_,rfl,_,_,rfl,rfl,_,rfl,bR (decide_eq_true (by rw [lt];lia)) ?_⟩;refine ⟨_,rfl,a,dx3,C,f3,_,fd3,1,["self"],_,rfl,ho3,rfl,T.cl,M3,F3,hr.m,B3,a,l,ts,k+1+i,me,zs[i],rfl,r3,tz1,rfl,_,rfl,bR (by simpa using nsc) ?_⟩;refine ⟨fun σ' H'=>∃ i',i'=i+1/\σ'=[some (.ref a),some (.str wd),some (.int lo),some (.int hi),some (.ref ln)]/\RdO C H' a l ts (k+1+i') me/\ButO a H H'/\H' ln=some (.lst (au (zs.take i'))),fun σ' H' ⟨i',e',a1,a2,a3,a4⟩=>⟨zs.length - i',zo,i',zo,rfl,a1,a2,a3,a4⟩,?_⟩;refine ⟨_,rfl,.inl ⟨rfl,_,SqL.of e3⟩,_,rfl,a,dx3,C,f2,_,fd2,2,["self"],_,rfl,ho3,rfl,T.cl,M2,F2,hr,B2,a,l,ts,k+1+i,me,zs[i],rfl,r3,tz1,nm1,fun H4 r4 b4=>?_⟩;have e4:=b4 _ _ e3 lna;refine ⟨ln,_,_,rfl,rfl,e4,by rw [lt];lia,i+1,rfl,rfl,?_,?_,?_⟩
    ·refine ⟨?_,?_,r4.le⟩
     ·obtain ⟨dx4,ho4⟩:=r4.ob;exact ⟨dx4,by rw [aj lna.symm];exact ho4⟩
     ·rw [aj lnl.symm];exact r4.tk
    ·intro b o e nb;by_cases hbl:b=ln
     ·rw [hbl,nH] at e;cases e
     ·rw [aj hbl];exact b4 _ _ (c3 _ _ e nb) nb
    ·rw [ae,tk1];unfold au;rw [Ek];rfl
  ·have hie:i=zs.length:=by lia
   have te':(tz ts)[k+1+i]?=some ";":=by rw [hie];exact te
   have ztk:au (zs.take i)=au zs:=by rw [hie,ER]
   by_cases hhi:i < hi
   ·refine ⟨_,rfl,ln,_,rfl,.inl (SqL.of e3),_,rfl,_,_,rfl,rfl,_,rfl,bE (decide_eq_false (by rw [lt];lia)) ?_⟩;refine ⟨_,rfl,ln,_,rfl,.inl (SqL.of e3),_,rfl,_,_,rfl,rfl,_,rfl,bR (decide_eq_true (by rw [lt];lia)) ?_⟩;refine ⟨_,rfl,a,dx3,C,f3,_,fd3,1,["self"],_,rfl,ho3,rfl,T.cl,M3,F3,hr.m,B3,a,l,ts,k+1+i,me,";",rfl,r3,te',rfl,_,rfl,bE (by simp) ?_⟩;refine ⟨_,rfl,a,dx3,C,f1,_,fd1,2,["self","words"],_,rfl,ho3,rfl,T.cl,M1,F1,hr,B1,zlx,fun p2 n2=>?_⟩;have s4:=ah (o:=.tup [.str ";"]) n2;refine ⟨a,l,ts,k+1+i,me,";",p2,[";"],rfl,r3.same s4,te',(.inr (SqT.of ae)),by simp,fun H4 r4 b4=>?_⟩;have e4:=b4 _ _ (s4 _ _ e3) lna;rw [ztk] at e4;refine ⟨_,rfl,ln,au zs,rfl,.inl ⟨SqL.of e4,fun p3 n3=>?_⟩⟩;have s5:=ah (o:=.tup (au zs)) n3;have c4:ButO a H H4:=(c3.same s4).trans b4;refine q p3 _ ?_ (c4.same s5) ?_ ae
    ·have:=r4.same s5;rw [hie] at this;have e9:k+1+zs.length+1=k+2+zs.length:=by lia
     rw [e9] at this;exact this
    ·by_cases h3a:p3=a
     ·subst h3a;obtain ⟨dx4,ho4⟩:=r4.ob;rw [ho4] at n3;cases n3
     ·cases hx:H p3 with
      | none=>rfl
      | some o=>
       have:=c4 _ _ hx h3a;rw [n3] at this;cases this
   ·refine ⟨_,rfl,ln,_,rfl,.inl (SqL.of e3),_,rfl,_,_,rfl,rfl,_,rfl,bE (decide_eq_false (by rw [lt];lia)) ?_⟩;refine ⟨_,rfl,ln,_,rfl,.inl (SqL.of e3),_,rfl,_,_,rfl,rfl,_,rfl,bE (decide_eq_false (by rw [lt];lia)) ?_⟩;refine ⟨_,rfl,a,dx3,C,f1,_,fd1,2,["self","words"],_,rfl,ho3,rfl,T.cl,M1,F1,hr,B1,zlx,fun p2 n2=>?_⟩;have s4:=ah (o:=.tup [.str ";"]) n2;refine ⟨a,l,ts,k+1+i,me,";",p2,[";"],rfl,r3.same s4,te',(.inr (SqT.of ae)),by simp,fun H4 r4 b4=>?_⟩;have e4:=b4 _ _ (s4 _ _ e3) lna;rw [ztk] at e4;refine ⟨_,rfl,ln,au zs,rfl,.inl ⟨SqL.of e4,fun p3 n3=>?_⟩⟩;have s5:=ah (o:=.tup (au zs)) n3;have c4:ButO a H H4:=(c3.same s4).trans b4;refine q p3 _ ?_ (c4.same s5) ?_ ae
    ·have:=r4.same s5;rw [hie] at this;have e9:k+1+zs.length+1=k+2+zs.length:=by lia
     rw [e9] at this;exact this
    ·by_cases h3a:p3=a
     ·subst h3a;obtain ⟨dx4,ho4⟩:=r4.ob;rw [ho4] at n3;cases n3
     ·cases hx:H p3 with
      | none=>rfl
      | some o=>
       have:=c4 _ _ hx h3a;rw [n3] at this;cases this
def dY:List Str:=["place","mark","number","row"]
structure oS (K:ZF) (mg:Str->Option Value) (aS aE aF:Addr) (t1 t2 t3 t4:Tok):Prop where
 sorts:mg "SORTS"=some (.ref aS)
 sortsq:∀ H,SqT K H aS (au dY)
 ends:mg "ENDS"=some (.ref aE)
 endsq:∀ H,SqT K H aE (au ["next","go","call","back","stop","fault"])
 owf:mg "OWN_FAULTS"=some (.ref aF)
 owfq:∀ H,SqT K H aF (au ["deep","bare"])
 mf:mg "MOST_FIELDS"=some (.int 3 t1)
 ms:mg "MOST_SETS"=some (.int 4 t2)
 mc:mg "MOST_CHOICES"=some (.int 3 t3)
 mkn:mg "MOST_KINDS"=some (.int 8 t4)
inductive FldV (H:Hp) (u:V) (x:Str×Str):Prop
 | mk (p:_):u=.ref p->H p=some (.tup [.str x.1,.str x.2])->FldV H u x
inductive k7 (C:Addr) (vs:List V) (H:Hp) (Q:VK) (Z3:XK):Prop
 | mk (a l ts k me:_) (x:Str×Str):vs=[.ref a]->RdO C H a l ts k me->(tz ts)[k]?=some x.1->NameS x.1->(tz ts)[k+1]?=some x.2->x.2∈dY->(∀ p H',RdO C H' a l ts (k+2) me->ButO a H H'->H p=none->H' p=some (.tup [.str x.1,.str x.2])->Q (.ref p) H')->k7 C vs H Q Z3
variable {dx:Addr} {a:Addr}
theorem fM {H H':Hp} {fs:List (Str×V)} (b:ButO a H H') (ho:H' a=some (.ins C dx fs)) (n:H' p=none):H p=none:=by
 by_cases h:p=a
 ·subst h;rw [ho] at n;cases n
 ·cases hx:H p with
  | none=>rfl
  | some o=>
   have:=b _ _ hx h;rw [n] at this;cases this
theorem scField:ak ["reader","name"] ["reader"] (ai gv):=ck zk
theorem um (F:Fun K "read_field" "read_field" gv f fd) (T:vO P w K mg base C) (Z:oS K mg aS aE aF t1 t2 t3 t4):FnOk P w K mg base bM 3 f fd ["reader"] (k7 C):=by
 have ZZ:=scField
 walk_at "o"
 ·obtain ⟨a,l,ts,k,me,x,rfl,hR,h0,hn,h1,hs,q⟩:=h;refine ⟨_,ad (aA (i:=1) scField.nd rfl (Or.inl rfl) (aP (pv 0))) (af (ao (aW (aa (pv 1) (aa (bK (pv 0) (aa (bD (v:=.ref aS) rfl Z.sorts rfl) ac)) ac))))),?_⟩;obtain ⟨f1,fd1,M1,F1,B1⟩:=T.need;obtain ⟨f2,fd2,M2,F2,B2⟩:=T.nname;obtain ⟨dx,ho⟩:=hR.ob;refine ⟨_,rfl,a,dx,C,f2,_,fd2,2,["self"],_,rfl,ho,rfl,T.cl,M2,F2,hr,B2,a,l,ts,k,me,x.1,rfl,hR,h0,hn,fun H1 r1 b1=>?_⟩;obtain ⟨dx1,ho1⟩:=r1.ob;refine ⟨_,rfl,_,rfl,a,dx1,C,f1,_,fd1,2,["self","words"],_,rfl,ho1,rfl,T.cl,M1,F1,hr,B1,a,l,ts,k+1,me,x.2,aS,dY,rfl,r1,h1,.inr (Z.sortsq _),hs,fun H2 r2 b2=>?_⟩;obtain ⟨dx2,ho2⟩:=r2.ob;refine ⟨zlx,fun p np=>?_⟩;have s3:=ah (o:=.tup [.str x.1,.str x.2]) np;exact q p _ (r2.same s3) ((b1.trans b2).same s3) (fM (b1.trans b2) ho2 np) ae
inductive NextV (H:Hp) (u:V):Prop
 | mk (p:_):u=.ref p->H p=some (.tup [.str "next"])->NextV H u
inductive LeafV (H:Hp) (u:V):Prop
 | mk (p t e:_):u=.ref p->H p=some (.tup [.str "leaf",.ref t,e])->H t=some (.tup [])->NextV H e->LeafV H u
inductive uo (C:Addr) (vs:List V) (H:Hp) (Q:VK) (Z3:XK):Prop
 | mk (a l ts k me:_):vs=[.ref a]->RdO C H a l ts k me->(tz ts)[k]?=some "next"->(∀ p H',RdO C H' a l ts (k+1) me->ButO a H H'->H p=none->H' p=some (.tup [.str "next"])->Q (.ref p) H')->uo C vs H Q Z3
theorem scEnd:ak ["reader","end"] ["reader"] (ai jo):=ck zk
theorem za (F:Fun K "read_end" "read_end" jo f fd) (T:vO P w K mg base C) (Z:oS K mg aS aE aF t1 t2 t3 t4):FnOk P w K mg base bM 3 f fd ["reader"] (uo C):=by
 have ZZ:=scEnd
 walk_at "o"
 ·obtain ⟨a,l,ts,k,me,rfl,hR,h0,q⟩:=h;refine ⟨_,ad (aA (i:=1) scEnd.nd rfl (Or.inl rfl) (bK (pv 0) (aa (bD (v:=.ref aE) rfl Z.ends rfl) ac)))
   (ad (aR (PW.pt (cq (am bY (pv 1) aC) (cc (am dv (aP (pv 0)) (bD (v:=.ref aF) rfl Z.owf rfl) rfl)))) (af be) ay)
   (ad (aR (am dv (pv 1) (aW (aa aC (aa aC (aa aC ac)))) rfl) (af (ao (aW (aa (pv 1) (aa (aP (pv 0)) ac))))) ay)
   (af (ao (aW (aa (pv 1) ac)))))),?_⟩
  obtain ⟨f1,fd1,M1,F1,B1⟩:=T.need;obtain ⟨dx,ho⟩:=hR.ob;refine ⟨_,rfl,a,dx,C,f1,_,fd1,2,["self","words"],_,rfl,ho,rfl,T.cl,M1,F1,hr,B1,a,l,ts,k,me,"next",aE,["next","go","call","back","stop","fault"],rfl,hR,h0,.inr (Z.endsq _),zk,fun H1 r1 b1=>?_⟩;obtain ⟨dx1,ho1⟩:=r1.ob;refine ⟨_,rfl,rfl,_,rfl,bE zk ?_⟩;refine aZ ?_;refine ⟨_,rfl,zlx,fun p1 n1=>?_⟩;have s1:=ah (o:=.tup [.str "go",.str "call",.str "fault"]) n1;refine ⟨p1,_,rfl,.inr (SqT.of ae),rfl,zk,_,rfl,bE zk ?_⟩;refine ⟨_,rfl,zlx,fun p np=>?_⟩;have s3:=ah (o:=.tup [.str "next"]) np;exact q p _ ((r1.same s1).same s3) ((b1.same s1).same s3) (fM (b1.same s1) (s1 _ _ ho1) np) ae
inductive oU (C:Addr) (vs:List V) (H:Hp) (Q:VK) (Z3:XK):Prop
 | mk (a l ts k me wv:_):vs=[.ref a,wv]->RdO C H a l ts k me->(tz ts)[k]?=some "next"->(∀ u H',RdO C H' a l ts (k+1) me->ButO a H H'->LeafV H' u->Q u H')->oU C vs H Q Z3
inductive oV (C:Addr) (vs:List V) (H:Hp) (Q:VK) (Z3:XK):Prop
 | mk (a l ts k me wv:_) (n:Nat):vs=[.ref a,wv,.int n]->n < 3->RdO C H a l ts k me->(tz ts)[k]?=some "{"->(tz ts)[k+1]?=some "next"->(tz ts)[k+2]?=some "}"->(∀ u H',RdO C H' a l ts (k+3) me->ButO a H H'->LeafV H' u->Q u H')->oV C vs H Q Z3
theorem ButO.kt {H H':Hp} {fs:List (Str×V)} (b:ButO a H H') (ho:H a=some (.ins C dx fs)):TupK H H':=fun c xs e=>b c _ e (by
 rintro rfl;rw [ho] at e;cases e)
variable {u:V}
theorem NextV.kt {H H':Hp} (k:TupK H H') (h:NextV H u):NextV H' u:=let ⟨p,a,b⟩:=h;⟨p,a,k _ _ b⟩
theorem LeafV.kt {H H':Hp} (k:TupK H H') (h:LeafV H u):LeafV H' u:=let ⟨p,t,e,a,b,c,d⟩:=h;⟨p,t,e,a,k _ _ b,k _ _ c,d.kt k⟩
theorem scLeaf:ak ["reader","width","sets","cell_free"] ["reader","width"] (ai ij):=ck zk
theorem wF (F:Fun K "read_leaf" "read_leaf" ij f fd) (T:vO P w K mg base C) (Z:oS K mg aS aE aF t1 t2 t3 t4) (B:Bl mg) (EN:Fn P w K mg base "read_end" 3 ["reader"] (uo C)):FnOk P w K mg base bM 4 f fd ["reader","width"] (oU C):=by
 have ZZ:=scLeaf
 walk_at "o"
 ·obtain ⟨a,l,ts,k,me,wv,rfl,hR,h0,q⟩:=h;refine ⟨_,ad (aA (i:=2) scLeaf.nd rfl (Or.inl rfl) (aT ac))
   (ad (c8 PassesOwn.never (PW.pt (cq (am dB (ar aK (by rfl) B.len Ei (aa (pv 2) ac)) (bD (v:=.int 4) rfl Z.ms ⟨_,rfl⟩)) (cc (am bY (aP (pv 0)) aC)))) (ad be (ad be (af be))))
   (af (ao (aW (aa aC (aa (aN aX (by rfl) B.tuple aY (aa (pv 2) ac)) (aa (aI EN hr rfl (aa (pv 0) ac)) ac))))))),?_⟩
  obtain ⟨f3,fd3,M3,F3,B3⟩:=T.look;obtain ⟨dx,ho⟩:=hR.ob;refine ⟨zlx,fun ln nn=>?_⟩;have s1:=ah (o:=.lst []) nn;have e1:(upd H ln (.lst [])) ln=some (.lst []):=ae;generalize upd H ln (.lst ([]:List V))=H1 at *;refine ⟨fun m σ H'=>m=0/\H'=H1/\σ=[some (.ref a),some wv,some (.ref ln),none],⟨_,rfl,rfl,rfl⟩,?_⟩;rintro m σ H2 ⟨rfl,rfl,rfl⟩;refine ⟨_,rfl,ln,_,rfl,.inl (SqL.of e1),_,_,rfl,rfl,_,rfl,bR zk ?_⟩;refine ⟨_,rfl,a,dx,C,f3,_,fd3,1,["self"],_,rfl,s1 _ _ ho,rfl,T.cl,M3,F3,hr.m,B3,a,l,ts,k,me,"next",rfl,hR.same s1,h0,rfl,_,rfl,bE zk ?_⟩;refine ⟨_,rfl,ln,_,rfl,.inl ⟨SqL.of e1,fun t nt=>?_⟩⟩;have s2:=ah (o:=.tup []) nt;have e2:(upd H2 t (.tup [])) t=some (.tup []):=ae;generalize upd H2 t (.tup ([]:List V))=H3 at *;have s12:=s1.trans s2;have ho3:=s12 _ _ ho;refine ⟨_,rfl,a,l,ts,k,me,rfl,hR.same s12,h0,fun p H4 r4 b4 np e4=>⟨zlx,fun pt npt=>?_⟩⟩;have s5:=ah (o:=.tup [.str "leaf",.ref t,.ref p]) npt;have k4:=b4.kt ho3;refine q _ _ (r4.same s5) (((dq s12).trans b4).same s5) ⟨pt,t,.ref p,rfl,ae,s5 _ _ (k4 _ _ e2),⟨p,rfl,s5 _ _ e4⟩⟩
theorem scBody:ak ["reader","width","choices","body"] ["reader","width","choices"] (ai ii):=ck zk
theorem wG (F:Fun K "read_body" "read_body" ii f fd) (T:vO P w K mg base C) (Z:oS K mg aS aE aF t1 t2 t3 t4) (LF:Fn P w K mg base "read_leaf" 4 ["reader","width"] (oU C)):FnOk P w K mg base bM 5 f fd ["reader","width","choices"] (oV C):=by
 have ZZ:=scBody
 walk_at "o"
 ·obtain ⟨a,l,ts,k,me,wv,n,rfl,hn,hR,h0,h1,h2,q⟩:=h;refine ⟨_,ad (aQ (bK (pv 0) (aa (aW (aa aC ac)) ac)))
   (ad (aR (PW.pt (cq (am dB (pv 2) (bD (v:=.int 3) rfl Z.mc ⟨_,rfl⟩)) (cc (am bY (aP (pv 0)) aC)))) (af be) (af (aA (i:=3) scBody.nd rfl (Or.inl rfl) (aI LF hr rfl (aa (pv 0) (aa (pv 1) ac))))))
   (ad (aQ (bK (pv 0) (aa (aW (aa aC ac)) ac)))
   (af (ao (pv 3))))),?_⟩
  obtain ⟨f1,fd1,M1,F1,B1⟩:=T.need;obtain ⟨f3,fd3,M3,F3,B3⟩:=T.look;obtain ⟨dx,ho⟩:=hR.ob;refine ⟨_,rfl,a,dx,C,f1,_,fd1,2,["self","words"],_,rfl,ho,rfl,T.cl,M1,F1,hr.m,B1,zlx,fun p1 n1=>?_⟩;have s1:=ah (o:=.tup [.str "{"]) n1;refine ⟨a,l,ts,k,me,"{",p1,["{"],rfl,hR.same s1,h0,(.inr (SqT.of ae)),by simp,fun H1 r1 b1=>?_⟩;obtain ⟨dx1,ho1⟩:=r1.ob;refine ⟨_,rfl,_,_,rfl,rfl,_,rfl,bR (decide_eq_true zo) ?_⟩;refine ⟨_,rfl,a,dx1,C,f3,_,fd3,1,["self"],_,rfl,ho1,rfl,T.cl,M3,F3,hr.m,B3,a,l,ts,k+1,me,"next",rfl,r1,h1,rfl,_,rfl,bE zk ?_⟩;refine ⟨_,rfl,_,rfl,a,l,ts,k+1,me,wv,rfl,r1,h1,fun u H2 r2 b2 hu=>?_⟩;obtain ⟨dx2,ho2⟩:=r2.ob;refine ⟨_,rfl,a,dx2,C,f1,_,fd1,2,["self","words"],_,rfl,ho2,rfl,T.cl,M1,F1,hr.m,B1,zlx,fun p2 n2=>?_⟩;have s2:=ah (o:=.tup [.str "}"]) n2;refine ⟨a,l,ts,k+2,me,"}",p2,["}"],rfl,r2.same s2,h2,(.inr (SqT.of ae)),by simp,fun H3 r3 b3=>?_⟩;refine ⟨_,rfl,q u H3 r3 ((((dq s1).trans b1).trans b2).trans ((dq s2).trans b3)) ((hu.kt (bn s2)).kt (b3.kt (s2 _ _ ho2)))⟩
theorem kg {α β:Type} {R:α->β->Prop} {x:α} {y:β} (h:R x y):∀ {xs:List α} {ys:List β},Paired R xs ys->Paired R (xs++[x]) (ys++[y])
 | _,_,.nil=>.cons h .nil
 | _,_,.cons a b=>.cons a (kg h b)
theorem cO {α β:Type} {R R':α->β->Prop} (f:∀ x y,R x y->R' x y):∀ {xs:List α} {ys:List β},Paired R xs ys->Paired R' xs ys
 | _,_,.nil=>.nil
 | _,_,.cons a b=>.cons (f _ _ a) (cO f b)
variable {xs ys:List V}
theorem uq {l:Addr} (e:H l=some (.lst xs)):TupK H (upd H l (.lst ys)):=fun b us h=>by
 rw [aj]
 ·exact h
 ·rintro rfl;rw [e] at h;cases h
variable {x:Str×Str}
theorem FldV.kt {H H':Hp} (k:TupK H H') (h:FldV H u x):FldV H' u x:=let ⟨p,a,b⟩:=h;⟨p,a,k _ _ b⟩
def oW (ts:List Str) (k:Nat) (fs:List (Str×Str)):Prop:=∀ i (h:i < fs.length),(tz ts)[k+3*i]?=some fs[i].1/\NameS fs[i].1/\(tz ts)[k+3*i+1]?=some fs[i].2/\fs[i].2∈dY/\(i+1 < fs.length->(tz ts)[k+3*i+2]?=some ",")
inductive jt (C:Addr) (vs:List V) (H:Hp) (Q:VK) (Z3:XK):Prop
 | mk (a l ts k me fs:_):vs=[.ref a]->RdO C H a l ts k me->(tz ts)[k]?=some "("->oW ts (k+1) fs->(tz ts)[k+1+(3*fs.length - 1)]?=some ")"->fs.length<=3->(∀ p us H',RdO C H' a l ts (k+2+(3*fs.length - 1)) me->ButO a H H'->H p=none->H' p=some (.tup us)->Paired (FldV H') us fs->Q (.ref p) H')->jt C vs H Q Z3
structure FI (C:Addr) (H:Hp) (a l:Addr) (ts:List Str) (k:Nat) (me:Bool) (fs:List (Str×Str)) (j:Nat) (lf:Addr) (H':Hp):Prop where
 rd:RdO C H' a l ts (k+(3*j - 1)) me
 bt:ButO a H H'
 nf:H lf=none
 la:lf≠a
 ll:lf≠l
 ls:∃ us,H' lf=some (.lst us)/\us.length=j/\Paired (FldV H') us (fs.take j)
theorem FI.more {a l:Addr} {k:Nat} {fs:List (Str×Str)} {j:Nat} {lf:Addr} {H3 H4:Hp} {p:Addr} {us:List V} (I:FI C H a l ts k me fs j lf H3) (hj:j < fs.length) (hk:TupK H3 H4) (e4:H4 lf=some (.lst us)) (hu:us.length=j) (hp:Paired (FldV H3) us (fs.take j))
  (r4:RdO C H4 a l ts (k+(3*(j+1) - 1)) me) (b4:ButO a H3 H4) (ep:H4 p=some (.tup [.str fs[j].1,.str fs[j].2])):FI C H a l ts k me fs (j+1) lf (upd H4 lf (.lst (us++[.ref p]))):=by
 have k2:=uq (ys:=us++[V.ref p]) e4;refine ⟨⟨?_,?_,r4.le⟩,?_,I.nf,I.la,I.ll,us++[.ref p],ae,by simp [hu],?_⟩
 ·obtain ⟨dx,ho⟩:=r4.ob;exact ⟨dx,by rw [aj I.la.symm];exact ho⟩
 ·rw [aj I.ll.symm];exact r4.tk
 ·intro b o e nb;by_cases h:b=lf
  ·rw [h,I.nf] at e;cases e
  ·rw [aj h];exact b4 _ _ (I.bt _ _ e nb) nb
 ·rw [Fd,EF hj];exact kg ⟨p,rfl,k2 _ _ ep⟩ (cO (fun _ _ h=>(h.kt hk).kt k2) hp)
theorem scFields:ak ["reader","fields"] ["reader"] (ai ff):=ck zk
theorem rN (F:Fun K "read_fields" "read_fields" ff f fd) (T:vO P w K mg base C) (Z:oS K mg aS aE aF t1 t2 t3 t4) (B:Bl mg) (FL:Fn P w K mg base "read_field" 3 ["reader"] (k7 C)):FnOk P w K mg base bM 4 f fd ["reader"] (jt C):=by
 have ZZ:=scFields
 walk_at "o"
 ·obtain ⟨a,l,ts,k,me,fs,rfl,hR,h0,hf,he,h3,q⟩:=h;have sz:(1000:Nat)<=sizeLine:=by decide
  refine ⟨_,ad (aQ (bK (pv 0) (aa (aW (aa aC ac)) ac)))
   (ad (aA (i:=1) scFields.nd rfl (Or.inl rfl) (aT ac))
   (bJ (fun σ H'=>∃ j lf,j=min 1 fs.length/\σ=[some (.ref a),some (.ref lf)]/\FI C H a l ts (k+1) me fs j lf H') (aR (am mC (aP (pv 0)) aC) (af (aQ (dR Et Ev Eu bQ (pv 1) (aa (aI FL hr rfl (aa (pv 0) ac)) ac)))) ay)
   (bJ (fun σ H'=>∃ lf,σ=[some (.ref a),some (.ref lf)]/\FI C H a l ts (k+1) me fs fs.length lf H') (c8 PassesOwn.never (PW.pt (cq (gI dB dB ag (ar aK (by rfl) B.len Ei (aa (pv 1) ac)) (bD (v:=.int 3) rfl Z.mf ⟨_,rfl⟩)) (cc (am bY (aP (pv 0)) aC))))
    (ad (aQ (aP (pv 0))) (af (aQ (dR Et Ev Eu bQ (pv 1) (aa (aI FL hr rfl (aa (pv 0) ac)) ac))))))
   (ad (aQ (bK (pv 0) (aa (aW (aa aC ac)) ac)))
   (af (ao (aN aX (by rfl) B.tuple aY (aa (pv 1) ac)))))))),?_⟩
  obtain ⟨f1,fd1,M1,F1,B1⟩:=T.need;obtain ⟨f2,fd2,M2,F2,B2⟩:=T.take;obtain ⟨f3,fd3,M3,F3,B3⟩:=T.look;obtain ⟨dx,ho⟩:=hR.ob;refine ⟨_,rfl,a,dx,C,f1,_,fd1,2,["self","words"],_,rfl,ho,rfl,T.cl,M1,F1,hr.m,B1,zlx,fun p1 n1=>?_⟩;have s1:=ah (o:=.tup [.str "("]) n1;refine ⟨a,l,ts,k,me,"(",p1,["("],rfl,hR.same s1,h0,(.inr (SqT.of ae)),by simp,fun H1 r1 b1=>?_⟩;have c1:ButO a H H1:=(dq s1).trans b1;obtain ⟨dx1,ho1⟩:=r1.ob;refine ⟨zlx,fun lf nf=>?_⟩;have s2:=ah (o:=.lst []) nf;have e2:(upd H1 lf (.lst [])) lf=some (.lst []):=ae;have nH:H lf=none:=fM c1 ho1 nf;have laN:lf≠a:=by
   rintro rfl;rw [nH] at ho;cases ho
  have llN:lf≠l:=fun z=>by
   have:=hR.tk;rw [<-z,nH] at this;cases this
  have I0:FI C H a l ts (k+1) me fs 0 lf (upd H1 lf (.lst [])):=⟨r1.same s2,c1.same s2,nH,laN,llN,[],e2,rfl,.nil⟩;generalize upd H1 lf (.lst ([]:List V))=H2 at *;refine ⟨?_,?_⟩
  ·rintro σ H3 ⟨j0,lf,hj0,rfl,I3⟩;refine ⟨?_,?_⟩
   ·rintro σ H4 ⟨lf,rfl,I4⟩;obtain ⟨us,e4,l4,p4⟩:=I4.ls;rw [ER] at p4;obtain ⟨dx4,ho4⟩:=I4.rd.ob;refine ⟨_,rfl,a,dx4,C,f1,_,fd1,2,["self","words"],_,rfl,ho4,rfl,T.cl,M1,F1,hr.m,B1,zlx,fun p2 n2=>?_⟩;have s4:=ah (o:=.tup [.str ")"]) n2;refine ⟨a,l,ts,_,me,")",p2,[")"],rfl,I4.rd.same s4,he,(.inr (SqT.of ae)),by simp,fun H5 r5 b5=>?_⟩;have e5:=b5 _ _ (s4 _ _ e4) I4.la;have k5:=(bn s4).trans (b5.kt (s4 _ _ ho4));obtain ⟨dx5,ho5⟩:=r5.ob;have c5:ButO a H H5:=(I4.bt.same s4).trans b5;refine ⟨_,rfl,lf,us,rfl,.inl ⟨SqL.of e5,fun p3 n3=>?_⟩⟩;have s6:=ah (o:=.tup us) n3;refine q p3 us _ ?_ (c5.same s6) (fM c5 ho5 n3) ae (cO (fun _ _ h=>(h.kt k5).kt (bn s6)) p4);have:=r5.same s6;have ee:k+1+(3*fs.length - 1)+1=k+2+(3*fs.length - 1):=by lia
    rw [ee] at this;exact this
   ·refine ⟨fun m σ H'=>∃ j lf,m=fs.length - j/\j<=fs.length/\(0 < j\/fs.length=0)/\σ=[some (.ref a),some (.ref lf)]/\FI C H a l ts (k+1) me fs j lf H',⟨_,j0,lf,rfl,zo,zo,rfl,I3⟩,?_⟩;rintro m σ H5 ⟨j,lf,rfl,hj,hj1,rfl,I5⟩;obtain ⟨us,e5,l5,p5⟩:=I5.ls;obtain ⟨dx5,ho5⟩:=I5.rd.ob;have done:j=fs.length->∃ lf',[some (V.ref a),some (V.ref lf)]=[some (V.ref a),some (.ref lf')]/\FI C H a l ts (k+1) me fs fs.length lf' H5:=fun e=>⟨lf,rfl,e ▸ I5⟩;by_cases hj0':0 < j
    ·by_cases hlt:j < fs.length
     ·refine ⟨_,rfl,lf,_,rfl,.inl (SqL.of e5),_,_,rfl,rfl,_,rfl,bR (decide_eq_true (by rw [l5];lia)) ⟨_,_,rfl,rfl,_,rfl,bR (decide_eq_true (by rw [l5];lia)) ?_⟩⟩;obtain ⟨_,_,_,_,hcm⟩:=hf (j - 1) zo;have hcm':(tz ts)[k+1+(3*j - 1)]?=some ",":=by
       have:=hcm zo;rw [show k+1+3*(j - 1)+2=k+1+(3*j - 1) by lia] at this;exact this
      refine ⟨_,rfl,a,dx5,C,f3,_,fd3,1,["self"],_,rfl,ho5,rfl,T.cl,M3,F3,hr.m,B3,a,l,ts,_,me,",",rfl,I5.rd,hcm',rfl,_,rfl,bR zk ?_⟩;refine ⟨fun σ' H'=>σ'=[some (.ref a),some (.ref lf)]/\FI C H a l ts (k+1) me fs (j+1) lf H',fun σ' H' ⟨e1,e2⟩=>⟨_,zo,j+1,lf,rfl,zo,zo,e1,e2⟩,?_⟩;refine ⟨_,rfl,a,dx5,C,f2,_,fd2,1,["self"],_,rfl,ho5,rfl,T.cl,M2,F2,hr.m,B2,a,l,ts,_,me,",",rfl,I5.rd,hcm',fun H6 r6 b6=>?_⟩;obtain ⟨dx6,ho6⟩:=r6.ob;have e6:=b6 _ _ e5 I5.la;obtain ⟨g1,g2,g3,g4,_⟩:=hf j hlt;have ek:k+1+(3*j - 1)+1=k+1+3*j:=by lia
      rw [ek] at r6;refine ⟨_,rfl,.inl ⟨rfl,_,SqL.of e6⟩,_,rfl,a,l,ts,_,me,fs[j],rfl,r6,g1,g2,g3,g4,fun p H7 r7 b7 np ep=>?_⟩;have e7:=b7 _ _ e6 I5.la;have ek2:k+1+3*j+2=k+1+(3*(j+1) - 1):=by lia
      rw [ek2] at r7;exact ⟨lf,us,_,rfl,rfl,e7,by rw [l5];lia,rfl,I5.more hlt ((b6.kt ho5).trans (b7.kt ho6)) e7 l5 p5 r7 (b6.trans b7) ep⟩
     ·have hje:j=fs.length:=by lia
      have he':(tz ts)[k+1+(3*j - 1)]?=some ")":=by rw [hje];exact he
      by_cases h3':j < 3
      ·refine ⟨_,rfl,lf,_,rfl,.inl (SqL.of e5),_,_,rfl,rfl,_,rfl,bR (decide_eq_true (by rw [l5];lia)) ⟨_,_,rfl,rfl,_,rfl,bR (decide_eq_true (by rw [l5];lia)) ?_⟩⟩;refine ⟨_,rfl,a,dx5,C,f3,_,fd3,1,["self"],_,rfl,ho5,rfl,T.cl,M3,F3,hr.m,B3,a,l,ts,_,me,")",rfl,I5.rd,he',rfl,_,rfl,bE zk (done hje)⟩
      ·refine ⟨_,rfl,lf,_,rfl,.inl (SqL.of e5),_,_,rfl,rfl,_,rfl,bR (decide_eq_true (by rw [l5];lia)) ⟨_,_,rfl,rfl,_,rfl,bE (decide_eq_false (by rw [l5];lia)) (aZ (done hje))⟩⟩
    ·have hje:j=fs.length:=by lia
     refine ⟨_,rfl,lf,_,rfl,.inl (SqL.of e5),_,_,rfl,rfl,_,rfl,bE (decide_eq_false (by rw [l5];lia)) ⟨_,rfl,aZ (aZ (done hje))⟩⟩
  ·obtain ⟨dx2,ho2⟩:=I0.rd.ob;by_cases hz:0 < fs.length
   ·obtain ⟨g1,g2,g3,g4,_⟩:=hf 0 hz;have nsc:fs[0].1≠(")":Str):=by
     intro z;obtain ⟨_,_,_,hc⟩:=g2;rw [z] at hc;exact absurd (hc 41 zk) zo
    refine ⟨_,rfl,a,dx2,C,f3,_,fd3,1,["self"],_,rfl,ho2,rfl,T.cl,M3,F3,hr.m,B3,a,l,ts,_,me,fs[0].1,rfl,I0.rd,g1,rfl,_,rfl,bR (by simpa using nsc) ?_⟩;refine ⟨_,rfl,.inl ⟨rfl,_,SqL.of e2⟩,_,rfl,a,l,ts,_,me,fs[0],rfl,I0.rd,g1,g2,g3,g4,fun p H7 r7 b7 np ep=>?_⟩;have e7:=b7 _ _ e2 I0.la;exact ⟨lf,[],_,rfl,rfl,e7,by show 0 < sizeLine;decide,1,lf,zo,rfl,I0.more hz (b7.kt ho2) e7 rfl .nil r7 b7 ep⟩
   ·have hz0:fs.length=0:=by lia
    have he':(tz ts)[k+1+(3*0 - 1)]?=some ")":=by rw [hz0] at he;exact he
    refine ⟨_,rfl,a,dx2,C,f3,_,fd3,1,["self"],_,rfl,ho2,rfl,T.cl,M3,F3,hr.m,B3,a,l,ts,_,me,")",rfl,I0.rd,he',rfl,_,rfl,bE (by simp) ?_⟩;exact ⟨0,lf,zo,rfl,I0⟩
structure Kn where
 name:Str
 fs:List (Str×Str)
inductive KindV (H:Hp) (u:V) (x:Kn):Prop
 | mk (p tf b us:_):u=.ref p->H p=some (.tup [.str x.name,.ref tf,b])->H tf=some (.tup us)->Paired (FldV H) us x.fs->LeafV H b->KindV H u x
theorem KindV.kt {H H':Hp} (k:TupK H H') {x:Kn} (h:KindV H u x):KindV H' u x:=let ⟨p,tf,b,us,a,c,d,e,f⟩:=h;⟨p,tf,b,us,a,k _ _ c,k _ _ d,cO (fun _ _ h=>h.kt k) e,f.kt k⟩
def rO (x:Kn):Nat:=7+(3*x.fs.length - 1)
structure oX (ts:List Str) (k:Nat) (x:Kn):Prop where
 t0:(tz ts)[k]?=some "kind"
 t1:(tz ts)[k+1]?=some x.name
 nm:NameS x.name
 t2:(tz ts)[k+2]?=some "("
 fl:oW ts (k+3) x.fs
 t3:(tz ts)[k+3+(3*x.fs.length - 1)]?=some ")"
 le:x.fs.length<=3
 t4:(tz ts)[k+4+(3*x.fs.length - 1)]?=some "{"
 t5:(tz ts)[k+5+(3*x.fs.length - 1)]?=some "next"
 t6:(tz ts)[k+6+(3*x.fs.length - 1)]?=some "}"
inductive oY (C:Addr) (vs:List V) (H:Hp) (Q:VK) (Z3:XK):Prop
 | mk (a l ts k me wv x:_):vs=[.ref a,wv]->RdO C H a l ts k me->oX ts k x->(∀ u H',RdO C H' a l ts (k+rO x) me->ButO a H H'->KindV H' u x->Q u H')->oY C vs H Q Z3
theorem scKind:ak ["reader","width","name","fields"] ["reader","width"] (ai ig):=ck zk
theorem wH (F:Fun K "read_kind" "read_kind" ig f fd) (T:vO P w K mg base C) (FS:Fn P w K mg base "read_fields" 4 ["reader"] (jt C)) (BD:Fn P w K mg base "read_body" 5 ["reader","width","choices"] (oV C)):FnOk P w K mg base bM 6 f fd ["reader","width"] (oY C):=by
 have ZZ:=scKind
 walk_at "o"
 ·obtain ⟨a,l,ts,k,me,wv,x,rfl,hR,hK,q⟩:=h;refine ⟨_,ad (aQ (bK (pv 0) (aa (aW (aa aC ac)) ac)))
   (ad (aA (i:=2) scKind.nd rfl (Or.inl rfl) (aP (pv 0)))
   (ad (aA (i:=3) scKind.nd rfl (Or.inl rfl) (aI FS hr.m rfl (aa (pv 0) ac)))
   (af (ao (aW (aa (pv 2) (aa (pv 3) (aa (aI BD hr rfl (aa (pv 0) (aa (pv 1) (aa ag ac)))) ac)))))))),?_⟩
  obtain ⟨f1,fd1,M1,F1,B1⟩:=T.need;obtain ⟨f2,fd2,M2,F2,B2⟩:=T.nname;obtain ⟨dx,ho⟩:=hR.ob;refine ⟨_,rfl,a,dx,C,f1,_,fd1,2,["self","words"],_,rfl,ho,rfl,T.cl,M1,F1,hr.m,B1,zlx,fun p1 n1=>?_⟩;have s1:=ah (o:=.tup [.str "kind"]) n1;refine ⟨a,l,ts,k,me,"kind",p1,["kind"],rfl,hR.same s1,hK.t0,(.inr (SqT.of ae)),by simp,fun H1 r1 b1=>?_⟩;obtain ⟨dx1,ho1⟩:=r1.ob;refine ⟨_,rfl,a,dx1,C,f2,_,fd2,2,["self"],_,rfl,ho1,rfl,T.cl,M2,F2,hr.m,B2,a,l,ts,k+1,me,x.name,rfl,r1,hK.t1,hK.nm,fun H2 r2 b2=>?_⟩;refine ⟨_,rfl,a,l,ts,k+2,me,x.fs,rfl,r2,hK.t2,hK.fl,hK.t3,hK.le,fun tf us H3 r3 b3 nf e3 p3=>?_⟩;obtain ⟨dx3,ho3⟩:=r3.ob;have ek:k+2+2+(3*x.fs.length - 1)=k+4+(3*x.fs.length - 1):=by lia
  rw [ek] at r3;have u5:(tz ts)[k+4+(3*x.fs.length - 1)+1]?=some "next":=by rw [show k+4+(3*x.fs.length - 1)+1=k+5+(3*x.fs.length - 1) by lia];exact hK.t5
  have u6:(tz ts)[k+4+(3*x.fs.length - 1)+2]?=some "}":=by rw [show k+4+(3*x.fs.length - 1)+2=k+6+(3*x.fs.length - 1) by lia];exact hK.t6
  refine ⟨_,rfl,_,rfl,_,rfl,_,rfl,a,l,ts,k+4+(3*x.fs.length - 1),me,wv,0,rfl,zd,r3,hK.t4,u5,u6,fun u H4 r4 b4 hu=>⟨zlx,fun pt npt=>?_⟩⟩;have s5:=ah (o:=.tup [.str x.name,.ref tf,u]) npt;have k4:=b4.kt ho3;have r5:=r4.same s5;rw [show k+4+(3*x.fs.length - 1)+3=k+rO x by unfold rO;lia] at r5;exact q _ _ r5 ((((((dq s1).trans b1).trans b2).trans b3).trans b4).same s5) ⟨pt,tf,u,us,rfl,ae,s5 _ _ (k4 _ _ e3),cO (fun _ _ h=>(h.kt k4).kt (bn s5)) p3,hu.kt (bn s5)⟩
abbrev oZ:Stmt:=bo (ci 78) 0
inductive lg (C:Addr) (vs:List V) (H:Hp) (Q:VK) (Z3:XK):Prop
 | mk (x dx lt ts:_):vs=[.ref x,.ref lt]->H x=some (.ins C dx [])->H lt=some (.lst (au ts))->ts.length<=1500->(∀ l H',RdO C H' x l ts 0 true->ButO x H H'->Q .non H')->lg C vs H Q Z3
theorem wI:ak ["self","tokens"] ["self","tokens"] (ai oZ):=ck zk
theorem wJ (h:xs.length<=1500):eY xs none (some 1500)=xs:=by
 have e1:HT.sIx xs.length 0 none=0:=rfl;have e2:HT.sIx xs.length xs.length (some 1500)=xs.length:=by
  simp only [HT.sIx];rw [if_neg zd];show min 1500 xs.length=xs.length;lia
 unfold eY;rw [e1,e2];simp
theorem ur (F:Fun K "__init__" "Reader.__init__" oZ f fd) (T:Rc K C) (B:Bl mg) (hm:mg "MOST_TOKENS"=some (.int 1500 t5)):FnOk P w K mg base bM 1 f fd ["self","tokens"] (lg C):=by
 have ZZ:=wI
 walk_at "o"
 ·obtain ⟨x,dx,lt,ts,rfl,hx,hl,h15,q⟩:=h;refine ⟨_,ad (bz (pv 0) (aL gm (cI fG (pv 1) dH (cE (bD (v:=.int 1500) rfl hm ⟨_,rfl⟩))) (aT (aa aC ac))) rfl)
   (ad (bz (pv 0) ag rfl) (af (bz (pv 0) (cf eT (ar aK (by rfl) B.len Ei (aa (pv 1) ac)) (bD (v:=.int 1500) rfl hm ⟨_,rfl⟩)) rfl))),?_⟩
  have lv:(au ts).length<=1500:=by unfold au;rw [D8];exact h15
  have sz:(10000:Nat)<=sizeLine:=by decide
  refine ⟨_,rfl,_,rfl,lt,_,rfl,SqL.of hl,fun p1 n1=>?_⟩;rw [wJ lv];generalize zz:upd H p1 _=H1;have ⟨s1,e1⟩:=nw n1 zz;clear zz;refine ⟨zlx,fun p2 n2=>?_⟩;have s2:=ah (o:=.lst [.str ""]) n2;have s12:=s1.trans s2;refine ⟨p1,p2,_,_,rfl,rfl,s2 _ _ e1,ae,by show _+1<=_;lia,fun l nl=>?_⟩;have s3:=ah (o:=.lst (au ts++[.str ""])) nl;have s13:=s12.trans s3;have el:(upd (upd H1 p2 (.lst [.str ""])) l (.lst (au ts++[.str ""]))) l=some (.lst (au (ts++[("":Str)]))):=by
   rw [ae];unfold au;rw [Ek];rfl
  have nlH:H l=none:=s12.free nl;generalize upd (upd H1 p2 (.lst [V.str ""])) l (.lst (au ts++[V.str ""]))=H3 at *;have lx:l≠x:=by
   rintro rfl;rw [nlH] at hx;cases hx
  have ltx:lt≠x:=by
   rintro rfl;rw [hl] at hx;cases hx
  refine ⟨_,rfl,x,C,dx,_,rfl,s13 _ _ hx,T.cl,T.n1,(by show 0 < 1000;decide),?_⟩;refine ⟨_,rfl,x,C,dx,_,rfl,ae,T.cl,T.n2,(by show 1 < 1000;decide),?_⟩;have hl3:(upd (upd H3 x (.ins C dx (aJ "tokens" (.ref l) []))) x (.ins C dx (aJ "spot" (.int 0) (aJ "tokens" (.ref l) [])))) lt=some (.lst (au ts)):=by rw [aj ltx,aj ltx];exact s13 _ _ hl
  refine ⟨_,rfl,lt,_,rfl,.inl (SqL.of hl3),_,_,rfl,rfl,?_⟩;refine ⟨_,rfl,x,C,dx,_,rfl,ae,T.cl,T.n3,(by show 2 < 1000;decide),?_⟩;have hd:decide (((au ts).length:Int)<=1500)=true:=decide_eq_true zo;have eF:(aJ "may_end" (.bl (decide (((au ts).length:Int)<=1500))) (aJ "spot" (.int 0) (aJ "tokens" (.ref l) [])))=vN l 0 true:=by rw [hd];rfl
  refine q l _ ⟨⟨dx,?_⟩,?_,h15⟩ ?_
  ·rw [ae];exact congrArg some (congrArg (HO.ins C dx) eF)
  ·rw [aj lx,aj lx,aj lx];exact el
  ·intro b o e nb;rw [aj nb,aj nb,aj nb];exact s13 _ _ e
structure Fm where
 width:Nat
 cells:Nat
 depth:Nat
 places:List Str
 marks:List Str
 gates:List Str
 kinds:List Kn
def iV (ts:List Str):Nat->List Kn->Prop
 | k,[]=>k=ts.length
 | k,x::r=>oX ts k x/\iV ts (k+rO x) r
structure o6 (ts:List Str) (D:Fm):Prop where
 a0:(tz ts)[0]?=some ("word":Str)
 a1:(tz ts)[1]?=some (toString (D.width:Int):Str)
 a2:(tz ts)[2]?=some (";":Str)
 a3:(tz ts)[3]?=some ("cells":Str)
 a4:(tz ts)[4]?=some (toString (D.cells:Int):Str)
 a5:(tz ts)[5]?=some (";":Str)
 a6:(tz ts)[6]?=some ("depth":Str)
 a7:(tz ts)[7]?=some (toString (D.depth:Int):Str)
 a8:(tz ts)[8]?=some (";":Str)
 a9:(tz ts)[9]?=some ("places":Str)
 pn:nv ts 10 D.places
 pe:(tz ts)[10+D.places.length]?=some (";":Str)
 m9:(tz ts)[11+D.places.length]?=some ("marks":Str)
 mn:nv ts (12+D.places.length) D.marks
 me:(tz ts)[12+D.places.length+D.marks.length]?=some (";":Str)
 g9:(tz ts)[13+D.places.length+D.marks.length]?=some ("gate":Str)
 gn:nv ts (14+D.places.length+D.marks.length) D.gates
 ge:(tz ts)[14+D.places.length+D.marks.length+D.gates.length]?=some (";":Str)
 ks:iV ts (15+D.places.length+D.marks.length+D.gates.length) D.kinds
 bw:4<=D.width/\D.width<=24
 bc:4<=D.cells/\D.cells<=64
 bd:D.depth<=8
 bp:1<=D.places.length/\D.places.length<=4
 bm:D.marks.length<=3
 bg:D.gates.length<=1
 bk:1<=D.kinds.length/\D.kinds.length<=8
inductive ut (H:Hp) (u:V) (D:Fm):Prop
 | mk (p pp pm pg pk us:_):u=.ref p->H p=some (.tup [.int D.width,.int D.cells,.int D.depth,.ref pp,.ref pm,.ref pg,.ref pk])->H pp=some (.tup (au D.places))->H pm=some (.tup (au D.marks))->H pg=some (.tup (au D.gates))->H pk=some (.tup us)->Paired (KindV H) us D.kinds->ut H u D
inductive o7 (vs:List V) (H:Hp) (Q:VK) (Z3:XK):Prop
 | mk (lt ts D:_):vs=[.ref lt]->H lt=some (.lst (au ts))->ts.length<=1500->o6 ts D->(∀ u H',Same H H'->ut H' u D->Q u H')->o7 vs H Q Z3
theorem cL {H Hc H':Hp} (na:H a=none) (sc:Same H Hc) (b:ButO a Hc H'):Same H H':=fun c o e=>b c o (sc c o e) (aq e na)
structure KI (C:Addr) (Hc:Hp) (a l:Addr) (ts:List Str) (all done rest:List Kn) (lk pp pm pg:Addr) (D:Fm) (H':Hp):Prop where
 sp:all=done++rest
 rd:∃ k,RdO C H' a l ts k true/\iV ts k rest
 bt:ButO a Hc H'
 nk:Hc lk=none
 la:lk≠a
 ll:lk≠l
 ep:H' pp=some (.tup (au D.places))
 em:H' pm=some (.tup (au D.marks))
 eg:H' pg=some (.tup (au D.gates))
 ls:∃ us,H' lk=some (.lst us)/\us.length=done.length/\Paired (KindV H') us done
theorem scForm:ak ["tokens","reader","width","cells","depth","places","marks","gates","kinds"] ["tokens"] (ai ie):=ck zk
theorem wK {fdi:FuncData} (F:Fun K "read_form" "read_form" ie f fd) (T:vO P w K mg base C) (Z:oS K mg aS aE aF t1 t2 t3 t4) (B:Bl mg) (MK:Mk K C fi) (mgR:mg "Reader"=some (.ref C)) (IN:FnOk P w K mg base bM 1 fi fdi ["self","tokens"] (lg C)) (bI:Binds K fdi ["self","tokens"] [])
  (BO:Fn P w K mg base "read_bounded" 4 ["reader","word","low","high"] (ip C)) (NA:Fn P w K mg base "read_names" 3 ["reader","word","least","most"] (kZ C)) (KD:Fn P w K mg base "read_kind" 6 ["reader","width"] (oY C)):FnOk P w K mg base bM 7 f fd ["tokens"] o7:=by
 have ZZ:=scForm
 walk_at "o"
 ·obtain ⟨lt,ts,D,rfl,hl,h15,hF,q⟩:=h;have sz:(10000:Nat)<=sizeLine:=by decide
  refine ⟨_,ad (aA (i:=1) scForm.nd rfl (Or.inl rfl) (dG MK IN hr.m rfl mgR bI .nil cm (aa (pv 0) ac)))
   (ad (aA (i:=2) scForm.nd rfl (Or.inl rfl) (aI BO hr.m rfl (aa (pv 1) (aa aC (aa ag (aa ag ac))))))
   (ad (aA (i:=3) scForm.nd rfl (Or.inl rfl) (aI BO hr.m rfl (aa (pv 1) (aa aC (aa ag (aa ag ac))))))
   (ad (aA (i:=4) scForm.nd rfl (Or.inl rfl) (aI BO hr.m rfl (aa (pv 1) (aa aC (aa ag (aa ag ac))))))
   (ad (aA (i:=5) scForm.nd rfl (Or.inl rfl) (aI NA hr.m rfl (aa (pv 1) (aa aC (aa ag (aa ag ac))))))
   (ad (aA (i:=6) scForm.nd rfl (Or.inl rfl) (aI NA hr.m rfl (aa (pv 1) (aa aC (aa ag (aa ag ac))))))
   (ad (aA (i:=7) scForm.nd rfl (Or.inl rfl) (aI NA hr.m rfl (aa (pv 1) (aa aC (aa ag (aa ag ac))))))
   (ad (aA (i:=8) scForm.nd rfl (Or.inl rfl) (aT (aa (aI KD hr rfl (aa (pv 1) (aa (pv 2) ac))) ac)))
   (ad (c8 PassesOwn.never (PW.pt (cq (am dB (ar aK (by rfl) B.len Ei (aa (pv 8) ac)) (bD (v:=.int 8) rfl Z.mkn ⟨_,rfl⟩)) (cc (am bY (aP (pv 1)) aC))))
    (af (aQ (dR Et Ev Eu bQ (pv 8) (aa (aI KD hr rfl (aa (pv 1) (aa (pv 2) ac))) ac)))))
   (ad (aQ (aP (pv 1)))
   (af (ao (aW (aa (pv 2) (aa (pv 3) (aa (pv 4) (aa (pv 5) (aa (pv 6) (aa (pv 7) (aa (aN aX (by rfl) B.tuple aY (aa (pv 8) ac)) ac))))))))))))))))))),?_⟩
  obtain ⟨f3,fd3,M3,F3,B3⟩:=T.look;obtain ⟨f4,fd4,M4,F4,B4⟩:=T.nend;refine ⟨_,rfl,fun a dx na nd ne=>⟨a,dx,lt,ts,rfl,ae,?_,h15,fun l H1 r1 b1=>⟨rfl,?_⟩⟩⟩
  ·exact (aV na (ah nd)) _ _ hl
  have s1:Same H H1:=cL na (aV na (ah nd)) b1;have naH:=na;clear b1;refine ⟨_,rfl,a,l,ts,0,true,"word",D.width,4,24,rfl,r1,hF.a0,hF.a1,hF.a2,by have:=hF.bw;lia,hF.bw.1,hF.bw.2,fun H2 r2 b2=>?_⟩;refine ⟨_,rfl,a,l,ts,3,true,"cells",D.cells,4,64,rfl,r2,hF.a3,hF.a4,hF.a5,by have:=hF.bc;lia,hF.bc.1,hF.bc.2,fun H3 r3 b3=>?_⟩;refine ⟨_,rfl,a,l,ts,6,true,"depth",D.depth,0,8,rfl,r3,hF.a6,hF.a7,hF.a8,by have:=hF.bd;lia,Ep _,hF.bd,fun H4 r4 b4=>?_⟩;have b14:=(b2.trans b3).trans b4;refine ⟨_,rfl,a,l,ts,9,true,"places",D.places,1,4,rfl,r4,hF.a9,hF.pn,hF.pe,hF.bp.1,hF.bp.2,zd,fun pp H5 r5 b5 np5 e5=>?_⟩;refine ⟨_,rfl,a,l,ts,9+2+D.places.length,true,"marks",D.marks,0,3,rfl,r5,?_,?_,?_,Ep _,hF.bm,zd,fun pm H6 r6 b6 np6 e6=>?_⟩
  ·exact hF.m9
  ·rw [show 9+2+D.places.length+1=12+D.places.length by lia];exact hF.mn
  ·rw [show 9+2+D.places.length+1+D.marks.length=12+D.places.length+D.marks.length by lia];exact hF.me
  obtain ⟨dx5,ho5⟩:=r5.ob;have e5':=(b6.kt ho5) _ _ e5;refine ⟨_,rfl,a,l,ts,9+2+D.places.length+2+D.marks.length,true,"gate",D.gates,0,1,rfl,r6,?_,?_,?_,Ep _,hF.bg,zd,fun pg H7 r7 b7 np7 e7=>?_⟩
  ·rw [show 9+2+D.places.length+2+D.marks.length=13+D.places.length+D.marks.length by lia];exact hF.g9
  ·rw [show 9+2+D.places.length+2+D.marks.length+1=14+D.places.length+D.marks.length by lia];exact hF.gn
  ·rw [show 9+2+D.places.length+2+D.marks.length+1+D.gates.length=14+D.places.length+D.marks.length+D.gates.length by lia];exact hF.ge
  obtain ⟨dx6,ho6⟩:=r6.ob;have e5'':=(b7.kt ho6) _ _ e5';have e6':=(b7.kt ho6) _ _ e6;rw [show 9+2+D.places.length+2+D.marks.length+2+D.gates.length=15+D.places.length+D.marks.length+D.gates.length by lia] at r7;have b17:ButO a H1 H7:=((b14.trans b5).trans b6).trans b7;have hks:=hF.ks;have hbk:=hF.bk;generalize 15+D.places.length+D.marks.length+D.gates.length=k0 at *;obtain ⟨x0,rest0,hk0⟩:∃ x r,D.kinds=x::r:=by
   cases hh:D.kinds with
   | nil=>rw [hh] at hbk;simp at hbk
   | cons x r=>exact ⟨x,r,rfl⟩
  rw [hk0] at hks hbk;obtain ⟨hK0,hks'⟩:=hks;refine ⟨_,rfl,_,rfl,a,l,ts,k0,true,.int D.width,x0,rfl,r7,hK0,fun u0 H8 r8 b8 hu0=>?_⟩;obtain ⟨dx7,ho7⟩:=r7.ob;have kk8:=b8.kt ho7;refine ⟨zlx,fun lk nk=>?_⟩;have s9:=ah (o:=.lst [u0]) nk;have b19:ButO a H1 (upd H8 lk (.lst [u0])):=(b17.trans b8).same s9;obtain ⟨dx8,ho8⟩:=r8.ob;obtain ⟨dx1,ho1⟩:=r1.ob;have nkH1:H1 lk=none:=fM (b17.trans b8) ho8 nk;have lka:lk≠a:=by
   rintro rfl;rw [ho8] at nk;cases nk
  have lkl:lk≠l:=fun z=>by
   have:=r8.tk;rw [<-z,nk] at this;cases this
  have I0:KI C H1 a l ts D.kinds [x0] rest0 lk pp pm pg D (upd H8 lk (.lst [u0])):=⟨hk0,⟨_,r8.same s9,hks'⟩,b19,nkH1,lka,lkl,s9 _ _ (kk8 _ _ e5''),s9 _ _ (kk8 _ _ e6'),s9 _ _ (kk8 _ _ e7),[u0],ae,rfl,.cons (hu0.kt (bn s9)) .nil⟩;generalize upd H8 lk (.lst [u0])=H9 at *;refine ⟨fun m σ H'=>∃ done rest,m=rest.length/\σ=[some (.ref lt),some (.ref a),some (.int D.width),some (.int D.cells),some (.int D.depth),some (.ref pp),some (.ref pm),some (.ref pg),some (.ref lk)]/\KI C H1 a l ts D.kinds done rest lk pp pm pg D H',⟨_,[x0],rest0,rfl,rfl,I0⟩,?_⟩;rintro m σ Ha ⟨done,rest,rfl,rfl,I⟩;obtain ⟨us,ek,lu,pu⟩:=I.ls;obtain ⟨k,rk,hkr⟩:=I.rd;obtain ⟨dxa,hoa⟩:=rk.ob;have hall:done.length+rest.length<=8:=by
   have:=congrArg List.length I.sp;rw [D9,hk0] at this;simp only [Eh] at this hbk;lia
  cases rest with
  | cons x r=>
   obtain ⟨hKx,hkr'⟩:=hkr;have hlt:done.length < 8:=by simp only [Eh] at hall;lia
   refine ⟨_,rfl,lk,_,rfl,.inl (SqL.of ek),_,_,rfl,rfl,_,rfl,bR (decide_eq_true (by rw [lu];lia)) ?_⟩;refine ⟨_,rfl,a,dxa,C,f3,_,fd3,1,["self"],_,rfl,hoa,rfl,T.cl,M3,F3,hr.m,B3,a,l,ts,k,true,"kind",rfl,rk,hKx.t0,rfl,_,rfl,bR zk ?_⟩;refine ⟨fun σ' H'=>σ'=[some (.ref lt),some (.ref a),some (.int D.width),some (.int D.cells),some (.int D.depth),some (.ref pp),some (.ref pm),some (.ref pg),some (.ref lk)]/\KI C H1 a l ts D.kinds (done++[x]) r lk pp pm pg D H',fun σ' H' ⟨e1,e2⟩=>⟨r.length,by simp,done++[x],r,rfl,e1,e2⟩,?_⟩;refine ⟨_,rfl,.inl ⟨rfl,_,SqL.of ek⟩,_,rfl,_,rfl,a,l,ts,k,true,.int D.width,x,rfl,rk,hKx,fun u Hb rb bb hu=>?_⟩;have kb:=bb.kt hoa;have eb:=bb _ _ ek I.la;have k2:=uq (ys:=us++[u]) eb;refine ⟨lk,us,_,rfl,rfl,eb,by rw [lu];lia,rfl,?_⟩;refine ⟨by rw [I.sp,EH];rfl,⟨_,⟨?_,?_,rb.le⟩,hkr'⟩,?_,I.nk,I.la,I.ll,k2 _ _ (kb _ _ I.ep),k2 _ _ (kb _ _ I.em),k2 _ _ (kb _ _ I.eg),us++[u],ae,by simp [lu],kg (hu.kt k2) (cO (fun _ _ h=>(h.kt kb).kt k2) pu)⟩
   ·obtain ⟨dxb,hob⟩:=rb.ob;exact ⟨dxb,by rw [aj I.la.symm];exact hob⟩
   ·rw [aj I.ll.symm];exact rb.tk
   ·intro b o e nb;by_cases h:b=lk
    ·rw [h,I.nk] at e;cases e
    ·rw [aj h];exact bb _ _ (I.bt _ _ e nb) nb
  | nil=>
   have hkE:k=ts.length:=hkr;have hdone:D.kinds=done:=by rw [I.sp,EC]
   have lend:(tz ts)[k]?=some "":=by rw [hkE];simp [tz]
   have nke:("":Str)≠("kind":Str):=by decide +kernel
   have sH:Same H Ha:=cL naH s1 I.bt;by_cases h8:done.length < 8
   ·refine ⟨_,rfl,lk,_,rfl,.inl (SqL.of ek),_,_,rfl,rfl,_,rfl,bR (decide_eq_true (by rw [lu];lia)) ?_⟩;refine ⟨_,rfl,a,dxa,C,f3,_,fd3,1,["self"],_,rfl,hoa,rfl,T.cl,M3,F3,hr.m,B3,a,l,ts,k,true,"",rfl,rk,lend,rfl,_,rfl,bE zk ?_⟩;refine ⟨_,rfl,a,dxa,C,f4,_,fd4,1,["self"],_,rfl,hoa,rfl,T.cl,M4,F4,hr.m,B4,a,l,ts,k,rfl,rk,hkE,?_⟩;refine ⟨_,rfl,_,rfl,_,rfl,_,rfl,_,rfl,_,rfl,_,rfl,lk,us,rfl,.inl ⟨SqL.of ek,fun pk npk=>⟨zlx,fun pt npt=>?_⟩⟩⟩;have s10:=ah (o:=.tup us) npk;have s11:=ah (o:=.tup [.int D.width,.int D.cells,.int D.depth,.ref pp,.ref pm,.ref pg,.ref pk]) npt;have s12:=s10.trans s11;exact q _ _ (sH.trans s12) ⟨pt,pp,pm,pg,pk,us,rfl,ae,s12 _ _ I.ep,s12 _ _ I.em,s12 _ _ I.eg,s11 _ _ ae,by rw [hdone];exact cO (fun _ _ h=>h.kt (bn s12)) pu⟩
   ·refine ⟨_,rfl,lk,_,rfl,.inl (SqL.of ek),_,_,rfl,rfl,_,rfl,bE (decide_eq_false (by rw [lu];lia)) (aZ ?_)⟩;refine ⟨_,rfl,a,dxa,C,f4,_,fd4,1,["self"],_,rfl,hoa,rfl,T.cl,M4,F4,hr.m,B4,a,l,ts,k,rfl,rk,hkE,?_⟩;refine ⟨_,rfl,_,rfl,_,rfl,_,rfl,_,rfl,_,rfl,_,rfl,lk,us,rfl,.inl ⟨SqL.of ek,fun pk npk=>⟨zlx,fun pt npt=>?_⟩⟩⟩;have s10:=ah (o:=.tup us) npk;have s11:=ah (o:=.tup [.int D.width,.int D.cells,.int D.depth,.ref pp,.ref pm,.ref pg,.ref pk]) npt;have s12:=s10.trans s11;exact q _ _ (sH.trans s12) ⟨pt,pp,pm,pg,pk,us,rfl,ae,s12 _ _ I.ep,s12 _ _ I.em,s12 _ _ I.eg,s11 _ _ ae,by rw [hdone];exact cO (fun _ _ h=>h.kt (bn s12)) pu⟩
def KvR (H:Hp) (kv:dA×V) (x:Str×Str):Prop:=kv.1=Sum.inr x.1/\∃ p sl,kv.2=.ref p/\H p=some (.tup [.str x.2,sl])
inductive NmI (H:Hp) (d:Addr) (ks:List (Str×Str)):Prop
 | mk (kvs:_):H d=some (.dK kvs)->Paired (KvR H) kvs ks->NmI H d ks
theorem KvR.kt {H H':Hp} (k:TupK H H') {kv:dA×V} (h:KvR H kv x):KvR H' kv x:=let ⟨a,p,sl,b,c⟩:=h;⟨a,p,sl,b,k _ _ c⟩
theorem yf {l:Addr} {xs ys:List (dA×V)} (e:H l=some (.dK xs)):TupK H (upd H l (.dK ys)):=fun b us h=>by
 rw [aj]
 ·exact h
 ·rintro rfl;rw [e] at h;cases h
theorem uu:∀ {kvs:List (dA×V)} {ks:List (Str×Str)},Paired (KvR H) kvs ks->∀ {z:Str},z∉ks.map (·.1)->fY kvs (Sum.inr z)=none
 | _,_,.nil,_,_=>mO
 | _,_,.cons (a:=kv) (b:=x) h t,z,hz=>by
  rw [dS]
  ·exact uu t (fun m=>hz (Ef _ m))
  ·intro e;rw [h.1] at e;have:=Sum.inr.inj e;exact hz (by rw [Er,this];exact Eb)
theorem qA:∀ {kvs:List (dA×V)} {ks:List (Str×Str)},Paired (KvR H) kvs ks->∀ {z s:Str},(z,s)∈ks->(ks.map (·.1)).Nodup->∃ p sl,fY kvs (Sum.inr z)=some (.ref p)/\H p=some (.tup [.str s,sl])
 | _,_,.nil,_,_,m,_=>by cases m
 | _,_,.cons (a:=kv) (b:=x) h t,z,s,m,nd=>by
  rw [Er,Fp] at nd;rcases Eo.mp m with e|m'
  ·obtain ⟨e1,p,sl,e2,e3⟩:=h;subst e;refine ⟨p,sl,?_,e3⟩;rw [gN e1,e2]
  ·have hne:¬ kv.1=Sum.inr z:=by
    intro e;rw [h.1] at e;have:=Sum.inr.inj e;exact nd.1 (by rw [this];exact Fa.mpr ⟨(z,s),m',rfl⟩)
   rw [dS hne];exact qA t m' nd.2
inductive fN (vs:List V) (H:Hp) (Q:VK) (Z3:XK):Prop
 | mk (d ks nm st sl:_):vs=[.ref d,.str nm,.str st,sl]->NmI H d ks->nm∉ks.map (·.1)->ks.length<=20->(∀ H',NmI H' d (ks++[(nm,st)])->ButO d H H'->Q .non H')->fN vs H Q Z3
inductive fk (K:ZF) (vs:List V) (H:Hp) (Q:VK) (Z3:XK):Prop
 | mk (d ks nm st p xs:_):vs=[.ref d,.str nm,.ref p]->NmI H d ks->(nm,st)∈ks->(ks.map (·.1)).Nodup->(SqL K H p (au xs)\/SqT K H p (au xs))->st∈xs->(∀ q sl H',Same H H'->H' q=some (.tup [.str st,sl])->Q (.ref q) H')->fk K vs H Q Z3
theorem rP:ak ["names","name","sort","sel"] ["names","name","sort","sel"] (ai jp):=ck zk
theorem o8 (F:Fun K "add_name" "add_name" jp f fd):FnOk P w K mg base bM 1 f fd ["names","name","sort","sel"] fN:=by
 have ZZ:=rP
 walk_at "o"
 ·obtain ⟨d,ks,nm,st,sl,rfl,hN,hm,hk,q⟩:=h;have hu:=tD hr;refine ⟨_,ad (aR (oh (tU hu (pv 1) (pv 0))) (af be) ay) (af (qu hu (pv 0) (pv 1) (aW (aa (pv 2) (aa (pv 3) ac))) rfl)),?_⟩;obtain ⟨kvs,hd,hp⟩:=hN;have hno:=uu hp hm;have lk:=hp.length;have szz:(1000:Nat)<=sizeLine:=by decide
  have g:DGet H d (.str nm) none:=by
   have:=DGet.k (k:=Sum.inr nm) hd;rw [hno] at this;exact this
  refine ⟨_,rfl,_,rfl,d,_,rfl,g,_,rfl,aZ ?_⟩;refine ⟨_,rfl,_,rfl,zlx,fun p np=>?_⟩;have s1:=ah (o:=.tup [.str st,sl]) np;have xF:=s1 _ _ hd;have ep:(upd H p (.tup [.str st,sl])) p=some (.tup [.str st,sl]):=ae;generalize upd H p (.tup [V.str st,sl])=H1 at *;refine ⟨_,rfl,_,rfl,d,_,rfl,DPut.k (k:=Sum.inr nm) xF zo,?_⟩;rw [mP _ hno];have k1:=yf (ys:=kvs++[(Sum.inr nm,V.ref p)]) xF;refine q _ ⟨_,ae,kg ⟨rfl,p,sl,rfl,k1 _ _ ep⟩ (cO (fun _ _ h=>(h.kt (bn s1)).kt k1) hp)⟩ (fun b o e nb=>?_);rw [aj nb];exact s1 _ _ e
def zb:Sp:=fun _ _ _ _=>False
theorem wL {k:Nat}:FnOk P w K mg base bM k f fd ps zb:=⟨fun _ _ _ _ h=>h.elim,fun _ _ _ _ _ _ _ _ _ _ _ _ _ h=>h.elim⟩
inductive li (vs:List V) (H:Hp) (Q:VK) (Z3:XK):Prop
 | mk (d e:_):vs=[d,e]->NextV H e->(∀ H',Same H H'->Q e H')->li vs H Q Z3
inductive ju (vs:List V) (H:Hp) (Q:VK) (Z3:XK):Prop
 | mk (d u:_):vs=[d,u]->LeafV H u->(∀ u' H',Same H H'->LeafV H' u'->Q u' H')->ju vs H Q Z3
theorem scNeedKnown:ak ["names","name","sorts","sort","sel"] ["names","name","sorts"] (ai gw):=ck zk
theorem lj (F:Fun K "need_known" "need_known" gw f fd):FnOk P w K mg base bM 1 f fd ["names","name","sorts"] (fk K):=by
 have ZZ:=scNeedKnown
 walk_at "o"
 ·obtain ⟨d,ks,nm,st,p,xs,rfl,hN,hm,hnd,hq,hs,q⟩:=h;have hu:=tD hr;refine ⟨_,ad (aR (oh (rE hu (pv 1) (pv 0))) (af be) ay)
   (ad (dj (wu hu (pv 0) (pv 1)) (cM rfl (aH (aw (i:=3) scNeedKnown.nd rfl (Or.inl rfl)) (aH (aw (i:=4) scNeedKnown.nd rfl (Or.inl rfl)) bV))))
   (ad (aR (am dk (pv 3) (pv 2) rfl) (af be) ay)
   (af (ao (aW (aa (pv 3) (aa (pv 4) ac))))))),?_⟩
  obtain ⟨kvs,hd,hp⟩:=hN;obtain ⟨p0,sl,hv,e0⟩:=qA hp hm hnd;have g:DGet H d (.str nm) (some (.ref p0)):=by
   have:=DGet.k (k:=Sum.inr nm) hd;rw [hv] at this;exact this
  refine ⟨_,rfl,_,rfl,d,_,rfl,g,_,rfl,aZ ?_⟩;refine ⟨_,rfl,_,rfl,d,_,rfl,g,p0,_,rfl,SqT.of e0,rfl,_,_,rfl,_,_,rfl,rfl,?_⟩;refine ⟨_,rfl,_,rfl,p,au xs,rfl,hq,rfl,dW _,_,rfl,bE ?_ ?_⟩
  ·show (!qj (.str st) (au xs))=false;rw [fh,EZ.mpr hs];rfl
  ·refine ⟨_,rfl,_,rfl,zlx,fun t nt=>?_⟩;exact q t sl _ (ah nt) ae
theorem wM:ak ["names","end"] ["names","end"] (ai oJ):=ck zk
theorem uv (F:Fun K "end_of" "end_of" oJ f fd):FnOk P w K mg base bM 1 f fd ["names","end"] li:=by
 have ZZ:=wM
 walk_at "o"
 ·obtain ⟨d,e,rfl,⟨p,rfl,hp⟩,q⟩:=h;refine ⟨_,ad (aR (am dv (aG bh (pv 1) ag) (aW (aa aC (aa aC ac))) rfl) (af be) ay) (af (ao (pv 1))),?_⟩;refine ⟨_,rfl,p,_,_,_,rfl,rfl,SqT.of hp,rfl,zlx,fun t nt=>?_⟩;have s1:=ah (o:=.tup [.str "go",.str "call"]) nt;refine ⟨t,_,rfl,.inr (SqT.of ae),rfl,zk,_,rfl,bE zk ?_⟩;exact ⟨_,rfl,q _ s1⟩
theorem scDeedOf:ak ["names","body","test","yes","sets"] ["names","body"] (ai iU):=ck zk
theorem DQ:(["given","names"]:List Str).Nodup:=by decide +kernel
theorem rQ (F:Fun K "deed_of" "deed_of" iU f fd) (B:Bl mg) (EO:Fn P w K mg base "end_of" 1 ["names","end"] li) (SO:Fn P w K mg base "set_of" 1 ["names","given"] zb):FnOk P w K mg base bM 2 f fd ["names","body"] ju:=by
 have ZZ:=scDeedOf
 walk_at "o"
 ·obtain ⟨d,u,rfl,⟨p,t,e,rfl,hp,ht,he⟩,q⟩:=h;refine ⟨_,ad (aR (am bY (aG bh (pv 1) ag) aC) (ad be (ad be (af be))) ay)
   (ad (aA (i:=4) scDeedOf.nd rfl (Or.inl rfl) (aN aX (by rfl) B.tuple aY (aa (fe (N':=["given","names"]) (ix:=[none,some 0]) (sc0:=ai iU) (N:=["names","body","test","yes","sets"]) rfl zk (gh (aG bh (pv 1) ag))
     (fun C' cl s H fp=>aw (i:=0) DQ rfl (Or.inl rfl) (.inr rfl)) (fun _ _ _ _ _=>cX) (fun C' cl s H fp=>aI SO hr rfl (aa (pv 1) (aa (pv 0) ac)))) ac)))
   (af (ao (aW (aa aC (aa (pv 4) (aa (aI EO hr rfl (aa (pv 0) (aa (aG bh (pv 1) ag) ac))) ac))))))),?_⟩
  refine ⟨_,rfl,p,_,_,_,rfl,rfl,SqT.of hp,rfl,rfl,_,rfl,bE zk ?_⟩;refine ⟨_,rfl,p,_,_,_,rfl,rfl,SqT.of hp,rfl,t,rfl,⟨_,SqT.of ht⟩,?_⟩;refine jl (K:=K) (a:=t) (xs:=[]) (fun i ys H'=>H'=H/\ys=[]) ⟨rfl,rfl⟩ (fun i ys H' hi ⟨a1,a2⟩=>by
    subst a1 a2;exact ⟨SqT.of ht,Ep _⟩) ?_ ?_
  ·rintro i x ys H' hx _;simp at hx
  ·rintro ys H' ⟨rfl,rfl⟩ D hD;have s1:=ah (o:=.lst []) hD;have e1:(upd H' D (.lst [])) D=some (.lst []):=ae;generalize upd H' D (.lst ([]:List V))=H1 at *;refine ⟨D,_,rfl,.inl ⟨SqL.of e1,fun t2 n2=>?_⟩⟩;have s2:=ah (o:=.tup []) n2;have e2:(upd H1 t2 (.tup [])) t2=some (.tup []):=ae;generalize upd H1 t2 (.tup ([]:List V))=H2 at *;have s12:=s1.trans s2;refine ⟨_,rfl,_,rfl,_,rfl,p,_,_,_,rfl,rfl,SqT.of (s12 _ _ hp),rfl,d,e,rfl,he.kt (bn s12),fun H3 s3=>⟨zlx,fun pt npt=>?_⟩⟩;have s4:=ah (o:=.tup [.str "leaf",.ref t2,e]) npt;exact q _ _ ((s12.trans s3).trans s4) ⟨pt,t2,e,rfl,ae,s4 _ _ (s3 _ _ e2),he.kt (bn ((s12.trans s3).trans s4))⟩
def zc:List Nat:=(List.range 26).map (97+·)
def ze:Str:="abcdefghijklmnopqrstuvwxyz"
theorem A4:ze=S zc:=by decide +kernel
theorem wN (c:Nat) (h:97<=c/\c<=122):c∈zc:=by
 unfold zc;refine Fa.mpr ⟨c - 97,Fl.mpr zo,zo⟩
structure A5 (K:ZF) (mg:Str->Option Value) (aO:Addr) (tL tN:Tok):Prop where
 own:mg "OWN_WORDS"=some (.ref aO)
 sq:∀ H,SqT K H aO (au oO)
 lets:mg "LETTERS"=some (.str ze tL)
 lng:mg "LONGEST_NAME"=some (.int 8 tN)
theorem zf:ak ["thing"] ["thing"] (ai qy):=ck zk
theorem A6:(["sign"]:List Str).Nodup:=by decide +kernel
theorem wO {tL tN:Tok} (F:Fun K "is_name" "is_name" qy f fd) (T:Bl mg) (C:A5 K mg aO tL tN):FnOk P w K mg base bM 1 f fd ["thing"] y9:=by
 have ZZ:=zf
 walk_at "o"
 ·obtain ⟨z,rfl,⟨hno,h1,h8,hc⟩,q⟩:=h;refine ⟨_,ad (aR (PW.pt (cH (bx (bj (ar (cw (T:="str")) (by rfl) T.isinstance br (aa (pv 0) (aa (pe_ty (by rfl) T.str dU) ac)))))
    (cG (am dv (pv 0) (bD (v:=.ref aO) rfl C.own rfl) rfl)))) (af (ao cj)) ay)
   (af (ao (dZ (i7 eT eT ag (ar cr (by rfl) T.len Ei (aa (pv 0) ac)) (bD (v:=.int 8) rfl C.lng ⟨_,rfl⟩))
    (di (ar (gM rfl) (by rfl) T.all fL (aa (fe (N':=["sign"]) (ix:=[none]) (sc0:=ai qy) (N:=["thing"]) rfl zk (tK (pv 0))
     (fun C' cl s H fp=>aw (i:=0) A6 rfl (Or.inl rfl) (.inr rfl)) (fun _ _ _ _ _=>cX) (fun C' cl s H fp=>cf fC (pv 0) (bD (v:=.str ze) rfl C.lets ⟨_,rfl⟩) rfl)) ac)))))),?_⟩
  have ez:z=S z.cps.toList:=uf z;have zl:z.length=z.cps.toList.length:=by show z.cps.size=_;simp
  generalize hl:z.cps.toList=l at *;subst ez;rw [bL] at h1 h8;have sz:(100000:Nat)<=sizeLine:=by decide
  refine ⟨_,rfl,_,_,_,rfl,.str _,rfl,_,rfl,aZ ?_⟩;refine ⟨_,rfl,aO,au oO,rfl,.inr (C.sq H),rfl,dW _,_,rfl,bE ?_ ?_⟩
  ·show qj (.str (S l)) (au oO)=false;rw [fh];exact Ez.mpr fun e=>hno (EZ.mp e)
  ·refine ⟨_,rfl,S l,rfl,(by rw [bL];lia),_,_,rfl,rfl,_,rfl,?_⟩;rw [bL];refine bR (decide_eq_true zo) ⟨_,_,rfl,rfl,_,rfl,bR (decide_eq_true zo) ⟨_,rfl,l,rfl,?_⟩⟩;refine tO (fun i ys H'=>ys=(List.replicate i true).map V.bl/\Same H H') ⟨rfl,Same.refl _⟩ (fun i ys H' hi ⟨e,_⟩=>by rw [e,D8,Ex];lia) ?_ ?_
   ·rintro i ys H' hi ⟨rfl,s'⟩;refine ⟨trivial,dM ?_⟩;refine ⟨_,rfl,S [l[i]],_,rfl,rfl,?_⟩;rw [A4,gK,decide_eq_true (wN _ (hc _ (E9 hi)))];refine Nx.mk hi ⟨?_,s'⟩;rw [List.replicate_succ',Ek];rfl
   ·rintro ys H' ⟨rfl,s'⟩ D hD;refine ⟨D,List.replicate l.length true,rfl,SqL.of ae,?_⟩;have:=q _ (s'.trans (ah (o:=.lst ((List.replicate l.length true).map V.bl)) hD));have ea:(List.replicate l.length true).all id=true:=by simp
    rw [ea];exact this
def dg (n:Nat):List Nat:=(Nat.toDigits 10 n).map Char.toNat
variable {n:Nat}
theorem ny (h:n < 10):dg n=[48+n]:=by
 unfold dg;rw [Nat.toDigits_of_lt_base h];have:∀ d:Nat,d < 10->[Nat.digitChar d].map Char.toNat=[48+d]:=by decide
 exact this n h
theorem uw (h:10<=n):dg n=dg (n / 10)++[48+n % 10]:=by
 have hm:n % 10 < 10:=Nat.mod_lt n zd;have t:Nat.toDigits 10 (n / 10)++Nat.toDigits 10 (n % 10)=Nat.toDigits 10 (10*(n / 10)+n % 10):=Nat.toDigits_append_toDigits zd zo hm;rw [Nat.div_add_mod] at t;rw [<-ny hm];unfold dg;rw [<-t,Ek]
theorem ux (n:Nat):∀ c∈dg n,48<=c/\c<=57:=by
 induction n using Nat.strongRecOn with
 | _ n ih=>
  by_cases h:n < 10
  ·rw [ny h];intro c hc;rw [Eg.mp hc];lia
  ·rw [uw zo];intro c hc;rcases EM.mp hc with hc|hc
   ·exact ih (n / 10) zo c hc
   ·rw [Eg.mp hc];lia
theorem jv (n:Nat):1<=(dg n).length/\∀ k,1<=k->n < 10 ^ k->(dg n).length<=k:=by
 induction n using Nat.strongRecOn with
 | _ n ih=>
  by_cases h:n < 10
  ·rw [ny h];exact ⟨by simp,fun k hk _=>by simpa using hk⟩
  ·rw [uw zo];obtain ⟨a,b⟩:=ih (n / 10) zo;refine ⟨by rw [D9];simp,fun k hk hn=>?_⟩;rw [D9];have hk2:2<=k:=by
    rcases (by lia:k=1\/2<=k) with rfl|z
    ·simp at hn;lia
    ·exact z
   have:=b (k - 1) zo (by
    have e:10 ^ k=10 ^ (k - 1)*10:=by rw [<-Nat.pow_succ];congr 1;lia
    rw [e] at hn;exact Nat.div_lt_of_lt_mul (by rw [Nat.mul_comm];exact hn))
   simp;lia
theorem wP (n:Nat) (h1:1<=n):(dg n)[0]?≠some 48:=by
 induction n using Nat.strongRecOn with
 | _ n ih=>
  by_cases h:n < 10
  ·rw [ny h];simp;lia
  ·rw [uw zo];have hl:=(jv (n / 10)).1;rw [Fo zo];exact ih (n / 10) zo zo
theorem fq (n:Nat):(toString (n:Int):Str)=S (dg n):=by
 have:=PySem.W.KIN.signs_num n;have e:=uf (toString (n:Int):Str);rw [e]
 congr 1
def A7:List Nat:=(List.range 10).map (48+·)
def zg:Str:="0123456789"
theorem A8:zg=S A7:=by decide +kernel
theorem wQ (c:Nat) (h:48<=c/\c<=57):c∈A7:=Fa.mpr ⟨c - 48,Fl.mpr zo,zo⟩
section
variable {X:Cx}
theorem nC:cV X (.type "int") (fun xs H Q=>∃ n:Nat,xs=[.str (toString (n:Int):Str)]/\n < 1000000000/\Q (.int n) H):=by
 intro pins s σ H xs us Q I r h;obtain ⟨n,rfl,hn,q⟩:=h;obtain ⟨u,rfl,rx⟩:=gb r;obtain ⟨t,rfl⟩:=rx;exact PySem.W.KIN.call_num zo zo ⟨.int n,H,I.tok _,⟨_,rfl⟩,q⟩
end
theorem pb:ak ["token"] ["token"] (ai fJ):=ck zk
theorem nE {tF tM:Tok} (F:Fun K "number_of" "number_of" fJ f fd) (T:Bl mg) (hF:mg "FIGURES"=some (.str zg tF)) (hM:mg "MOST_FIGURES"=some (.int 9 tM)):FnOk P w K mg base bM 1 f fd ["token"] kX:=by
 have ZZ:=pb
 walk_at "o"
 ·obtain ⟨n,rfl,hn,q⟩:=h;refine ⟨_,ad (aR (PW.pt (cH (bx (gI eT eT ag (ar cr (by rfl) T.len Ei (aa (pv 0) ac)) (bD (v:=.int 9) rfl hM ⟨_,rfl⟩)))
    (cG (bx (bj (ar (gM rfl) (by rfl) T.all fL (aa (fe (N':=["sign"]) (ix:=[none]) (sc0:=ai fJ) (N:=["token"]) rfl zk (tK (pv 0))
     (fun C' cl s H fp=>aw (i:=0) A6 rfl (Or.inl rfl) (.inr rfl)) (fun _ _ _ _ _=>cX) (fun C' cl s H fp=>cf fC (pv 0) (bD (v:=.str zg) rfl hF ⟨_,rfl⟩) rfl)) ac))))))) (af (ao bN)) ay)
   (ad (aR (PW.pt (cq (am bY (aG gl (pv 0) ag) aC) (cc (am i6 (ar cr (by rfl) T.len Ei (aa (pv 0) ac)) ag)))) (af (ao bN)) ay)
   (af (ao (aN nC (by rfl) T.int EJ (aa (pv 0) ac))))),?_⟩
  have es:=fq n;obtain ⟨l1,l9'⟩:=jv n;have l9:=l9' 9 zd zo;have sz:(100000:Nat)<=sizeLine:=by decide
  rw [es];refine ⟨_,rfl,S (dg n),rfl,(by rw [bL];lia),_,_,rfl,rfl,_,rfl,?_⟩;rw [bL];refine bR (decide_eq_true zo) ⟨_,_,rfl,rfl,_,rfl,?_⟩;rw [decide_eq_true (show ((dg n).length:Int)<=9 by lia)];refine aZ ⟨_,rfl,dg n,rfl,?_⟩;refine tO (fun i ys H'=>ys=(List.replicate i true).map V.bl/\Same H H') ⟨rfl,Same.refl _⟩ (fun i ys H' hi ⟨e,_⟩=>by rw [e,D8,Ex];lia) ?_ ?_
  ·rintro i ys H' hi ⟨rfl,s'⟩;refine ⟨trivial,dM ?_⟩;refine ⟨_,rfl,S [(dg n)[i]],_,rfl,rfl,?_⟩;rw [A8,gK,decide_eq_true (wQ _ (ux n _ (E9 hi)))];refine Nx.mk hi ⟨?_,s'⟩;rw [List.replicate_succ',Ek];rfl
  ·rintro ys H' ⟨rfl,s'⟩ D hD;have s2:=ah (o:=.lst ((List.replicate (dg n).length true).map V.bl)) hD;refine ⟨D,List.replicate (dg n).length true,rfl,SqL.of ae,?_⟩;have ea:(List.replicate (dg n).length true).all id=true:=by simp
   rw [ea];refine ⟨_,rfl,aZ ?_⟩;refine ⟨_,rfl,S (dg n),0,(dg n)[0],rfl,rfl,(by rw [bL];lia),?_,rfl,_,rfl,?_⟩
   ·exact gO (i:=0) zo
   ·by_cases hz:n=0
    ·subst hz;have e00:(dg 0)[0]=48:=by simp [ny (n:=0) zd]
     refine bR (decide_eq_true (by rw [e00];decide +kernel)) ?_;refine ⟨_,rfl,S (dg 0),rfl,(by rw [bL];lia),_,_,rfl,rfl,_,rfl,bE zk ?_⟩;exact ⟨_,rfl,0,by rw [fq],hn,q _ (s'.trans s2)⟩
    ·have hd:=wP n zo;refine bE ?_ (aZ ?_)
     ·refine decide_eq_false fun e=>hd ?_;have e2:=V.str.inj e;have e3:S [(dg n)[0]]=S [48]:=e2.trans zk;have e4:[(dg n)[0]]=[48]:=by
       have:=congrArg (fun z:Str=>z.cps.toList) e3;simpa [S] using this
      rw [EF zo];exact congrArg some (List.cons.inj e4).1
     ·exact ⟨_,rfl,n,by rw [fq],hn,q _ (s'.trans s2)⟩
end L3
namespace L3
open PySem L2 TK
structure wR (K:ZF) (mg:Str->Option Value) (aD:Addr) (tG tS:Tok):Prop where
 gaps:mg "GAPS"=some (.str " \n" tG)
 sing:mg "SINGLE_SIGNS"=some (.str "(){}[],;+-&|^<=" tS)
 doub:mg "DOUBLE_SIGNS"=some (.ref aD)
 sq:∀ H,SqT K H aD [.str "<<",.str ">>"]
 len:mg "len"=none
def vs (ts:List (List Nat)):List V:=ts.map fun t=>V.str (S t)
inductive ly (xs:List V) (H:Hp) (Q:VK) (Z3:XK):Prop
 | mk (l:List Nat) (i:Nat):xs=[.str (S l),.int i]->i < l.length->l.length<=100000->Q (.str (S ((l.drop i).take (hX (l.drop i))))) H->ly xs H Q Z3
inductive uy (xs:List V) (H:Hp) (Q:VK) (Z3:XK):Prop
 | mk (l:List Nat) (i:Nat):xs=[.str (S l),.int i]->i < l.length->l.length<=100000->Q (.str (S ((l.drop i).take (run (l.drop i))))) H->uy xs H Q Z3
inductive pd (xs:List V) (H:Hp) (Q:VK) (Z3:XK):Prop
 | mk (l:List Nat):xs=[.str (S l)]->l.length<=100000->(∀ (p:Addr) (H':Hp),H p=none->H' p=some (.lst (vs (toks l)))->Same H H'->Q (.ref p) H')->pd xs H Q Z3
variable {i:Nat}
theorem qC {l:List Nat} (h:i < l.length):hZ l (some (i:Int)) (some ((i:Int)+2))=(l.drop i).take 2:=by
 unfold hZ;have e:((i:Int)+2)=((i+2:Nat):Int):=by lia
 rw [e,HT.sIx_nat,HT.sIx_nat,show min i l.length=i by lia];by_cases c:i+2<=l.length
 ·rw [show min (i+2) l.length - i=2 by lia]
 ·rw [E5 (by rw [ET];lia),E5 (by rw [ET];lia)]
theorem zh {l:List Nat} {i j:Nat} (h:j<=l.length):hZ l (some (i:Int)) (some (j:Int))=(l.drop i).take (j - i):=by
 unfold hZ;rw [HT.sIx_nat,HT.sIx_nat,show min j l.length=j by lia];by_cases c:i<=l.length
 ·rw [show min i l.length=i by lia]
 ·rw [show min i l.length=l.length by lia,List.drop_length,List.drop_eq_nil_of_le zo];simp
theorem fO {l:List Nat} (h:i < l.length):l.drop i=l[i]::l.drop (i+1):=EK h
theorem uz:(" \n":Str)=S [32,10]:=by decide +kernel
theorem zi:("(){}[],;+-&|^<=":Str)=S [40,41,123,125,91,93,44,59,43,45,38,124,94,60,61]:=by decide +kernel
theorem CZ:("<<":Str)=S [60,60]:=by decide +kernel
theorem C0:(">>":Str)=S [62,62]:=by decide +kernel
theorem qD (c:Nat):decide (c∈[32,10])=eO c:=by
 rw [E1,decide_eq_true_iff];unfold eO;simp
theorem wS (c:Nat):decide (c∈[40,41,123,125,91,93,44,59,43,45,38,124,94,60,61])=cY c:=by
 rw [E1,decide_eq_true_iff];unfold cY;rw [EZ]
theorem wT (t:List Nat):qj (.str (S t)) [.str "<<",.str ">>"]=(decide (t=[60,60]) || decide (t=[62,62])):=by
 unfold qj;rw [CZ,C0];show ((S [60,60] == S t) || ((S [62,62] == S t) || false))=_;have e:∀ u:List Nat,(S u == S t)=decide (t=u):=fun u=>by
  rw [E1,decide_eq_true_iff,beq_iff_eq,S_inj];exact ⟨fun h=>h.symm,fun h=>h.symm⟩
 rw [e,e,Bool.or_false]
variable {P:Program} {w:World} {K:ZF} {mg:Str->Option Value} {base:Heap} {C fi aS aE aF aO:Addr} {t1 t2 t3 t4 t5 tM:Tok}
theorem zj:ak ["text","at"] ["text","at"] (ai uc):=ck zk
variable {tG tS:Tok} {fd:FuncData} {f aD:Addr}
theorem wU (F:Fun K "sign_at" "sign_at" uc f fd) (T:wR K mg aD tG tS):FnOk P w K mg base bM 1 f fd ["text","at"] ly:=by
 have ZZ:=zj
 walk_at "o"
 ·obtain ⟨l,i,rfl,hi,hz,q⟩:=h;have sz:(100000:Nat)<=sizeLine:=by decide
  refine ⟨_,ad (aR (am dv (cI oC (pv 0) (cE (pv 1)) (cE (aL cN (pv 1) ag))) (bD (v:=.ref aD) rfl T.doub rfl) rfl) (af (ao (cI oC (pv 0) (cE (pv 1)) (cE (aL cN (pv 1) ag))))) ay)
   (ad (aR (am fC (aG gl (pv 0) (pv 1)) (bD (v:=.str "(){}[],;+-&|^<=") rfl T.sing ⟨_,rfl⟩) rfl) (af (ao (aG gl (pv 0) (pv 1)))) ay)
   (af (ao aC))),?_⟩
  refine ⟨_,rfl,_,rfl,_,rfl,_,rfl,_,_,rfl,rfl,_,rfl,l,rfl,hz,?_⟩;rw [qC hi];refine ⟨aD,_,rfl,.inr (T.sq H),rfl,rfl,_,rfl,?_⟩;show if qj (.str (S ((l.drop i).take 2))) [.str "<<",.str ">>"]=true then _ else _;have two:hX (l.drop i)=if qj (.str (S ((l.drop i).take 2))) [.str "<<",.str ">>"]=true then 2 else if cY l[i]=true then 1 else 0:=by
   rw [wT,fO hi];cases hd:l.drop (i+1) with
   | nil=>rw [eD];simp
   | cons d r=>
    rw [dn];simp
  by_cases c:qj (.str (S ((l.drop i).take 2))) [.str "<<",.str ">>"]=true
  ·rw [if_pos c] at two;refine bR c ?_;refine ⟨_,rfl,_,rfl,_,rfl,_,rfl,_,_,rfl,rfl,_,rfl,l,rfl,hz,?_⟩;rw [qC hi];rw [two] at q;exact q
  ·rw [if_neg c] at two;refine bE (by simpa using c) ?_;refine ⟨_,rfl,_,rfl,_,_,l[i],rfl,rfl,(by rw [bL];lia),gO hi,_,_,rfl,rfl,_,rfl,?_⟩;rw [zi];have e:=gK l[i] [40,41,123,125,91,93,44,59,43,45,38,124,94,60,61];rw [wS] at e;by_cases c2:cY l[i]=true
   ·rw [if_pos c2] at two;refine bR (e.trans c2) ?_;refine ⟨_,rfl,_,rfl,_,_,l[i],rfl,rfl,(by rw [bL];lia),gO hi,?_⟩;rw [two,fO hi] at q;exact q
   ·rw [if_neg c2] at two;refine bE (e.trans (by simpa using c2)) ?_;rw [two] at q;exact q
theorem scRun:ak ["text","at","behind"] ["text","at"] (ai yW):=ck zk
theorem take_nil {l:List Nat} {n:Nat} (h:n<=l.length):l.take n=[]↔n=0:=by
 constructor
 ·intro e;have:=congrArg List.length e;rw [Em,E8] at this;lia
 ·intro e;rw [e,List.take_zero]
theorem zm (F:Fun K "run_at" "run_at" yW f fd) (T:wR K mg aD tG tS) (SG:Fn P w K mg base "sign_at" 1 ["text","at"] ly):FnOk P w K mg base bM 2 f fd ["text","at"] uy:=by
 have ZZ:=scRun
 walk_at "o"
 ·obtain ⟨l,i,rfl,hi,hz,q⟩:=h;have sz:(100000:Nat)<=sizeLine:=by decide
  have sl:(S l).length<=sizeLine:=by rw [bL];lia
  refine ⟨_,ad (aA (i:=2) scRun.nd rfl (Or.inl rfl) (pv 1))
   (ad (c8 PassesOwn.never (PW.pt (cq (am dB (pv 2) (ar cr (by rfl) T.len Ei (aa (pv 0) ac)))
     (cq (am kF (aG gl (pv 0) (pv 2)) (bD (v:=.str " \n") rfl T.gaps ⟨_,rfl⟩) rfl) (cc (am bY (aI SG hr rfl (aa (pv 0) (aa (pv 2) ac))) aC)))))
    (af (kA (i:=2) scRun.nd rfl (Or.inl rfl) ag kB)))
   (af (ao (cI oC (pv 0) (cE (pv 1)) (cE (pv 2)))))),?_⟩
  refine ⟨_,rfl,?_⟩;refine ⟨fun m σ H'=>∃ k:Nat,σ=[some (.str (S l)),some (.int i),some (.int (i+k:Nat))]/\m=l.length - (i+k)/\i+k<=l.length/\run (l.drop i)=k+run (l.drop (i+k))/\H'=H,
   ⟨_,0,rfl,rfl,zo,by rw [Nat.add_zero,Nat.zero_add],rfl⟩,?_⟩
  rintro m σ H' ⟨k,rfl,rfl,hk,hrun,rfl⟩;have out:run (l.drop (i+k))=0->Au (Dr (fun x lo hi H Q=>∃ l,x=.str (S l)/\l.length<=100000/\Q (.str (S (hZ l lo hi))) H) (og 0) (sV (og 1)) (sV (og 2))) { nx:=fun _ H'=>Q .non H',rt:=Q } [some (.str (S l)),some (.int i),some (.int (i+k:Nat))] H':=fun e=>by
   refine ⟨_,rfl,_,rfl,_,rfl,_,rfl,_,rfl,l,rfl,hz,?_⟩;rw [zh hk,show i+k - i=k by lia];rw [hrun,e,Nat.add_zero] at q;exact q
  refine ⟨_,rfl,_,rfl,S l,rfl,sl,_,_,rfl,rfl,_,rfl,?_⟩;by_cases c:i+k < l.length
  ·refine bR (decide_eq_true (by rw [bL];lia)) ?_;refine ⟨_,rfl,_,rfl,_,_,l[i+k],rfl,rfl,sl,gO c,_,_,rfl,rfl,_,rfl,?_⟩;rw [uz];have e:=gK l[i+k] [32,10];rw [qD] at e;have e':(!(!(Builtin.Str.occurrences (S [32,10]) (S [l[i+k]]) 0 (S [32,10]).length 1).isEmpty))=!eO l[i+k]:=by rw [e]
   have rc:run (l.drop (i+k))=if (eO l[i+k] || hX (l.drop (i+k)) != 0)=true then 0 else 1+run (l.drop (i+k+1)):=by
    rw [fO c,cy]
   cases g:eO l[i+k] with
   | true=>
    refine bE (e'.trans (by rw [g];rfl)) (aZ ?_);exact out (by rw [rc,g];rfl)
   | false=>
    refine bR (e'.trans (by rw [g];rfl)) ?_;refine ⟨_,rfl,_,rfl,l,i+k,rfl,c,hz,rfl,_,rfl,?_⟩;rw [A2];by_cases s0:hX (l.drop (i+k))=0
    ·refine bR (decide_eq_true (by rw [s0];rfl)) ?_;refine ⟨fun σ' H2=>σ'=[some (.str (S l)),some (.int i),some (.int (i+(k+1):Nat))]/\H2=H',fun σ' H2 ⟨e1,e2⟩=>⟨l.length - (i+(k+1)),zo,k+1,e1,rfl,zo,?_,e2⟩,?_⟩
     ·rw [hrun,rc,g,s0];show k+(1+run (l.drop (i+k+1)))=_;rw [Nat.add_assoc i k 1];lia
     ·refine ⟨_,rfl,_,_,rfl,rfl,?_,rfl⟩;show [some (V.str (S l)),some (V.int i),some (V.int (((i+k:Nat):Int)+1))]=_;rw [show (((i+k:Nat):Int)+1)=((i+(k+1):Nat):Int) by lia]
    ·refine bE (decide_eq_false ?_) ?_
     ·intro z;injection z with z';have:=(take_nil (kP (l.drop (i+k)))).mp (S_inj.mp z');exact s0 this
     ·exact out (by rw [rc,g];simp [s0])
  ·refine bE (decide_eq_false (by rw [bL];lia)) (aZ ?_);have:l.drop (i+k)=[]:=List.drop_eq_nil_of_le zo;exact out (by rw [this];rfl)
theorem scToks:ak ["text","tokens","at","token"] ["text"] (ai kU):=ck zk
theorem uA (a b:List (List Nat)):vs (a++b)=vs a++vs b:=Ek
theorem uB (a:List (List Nat)):(vs a).length=a.length:=D8 _
theorem wV (F:Fun K "tokens_of" "tokens_of" kU f fd) (T:wR K mg aD tG tS) (SG:Fn P w K mg base "sign_at" 1 ["text","at"] ly) (RN:Fn P w K mg base "run_at" 2 ["text","at"] uy) :
  FnOk P w K mg base bM 3 f fd ["text"] pd:=by
 have ZZ:=scToks
 walk_at "o"
 ·obtain ⟨l,rfl,hz,q⟩:=h;have sz:(100000:Nat) < sizeLine:=by decide
  have sl:(S l).length<=sizeLine:=by rw [bL];lia
  refine ⟨_,ad (aA (i:=1) scToks.nd rfl (Or.inl rfl) (aT ac))
   (ad (aA (i:=2) scToks.nd rfl (Or.inl rfl) ag)
   (ad (c8 PassesOwn.never (am dB (pv 2) (ar cr (by rfl) T.len Ei (aa (pv 0) ac)))
    (af (aR (am fC (aG gl (pv 0) (pv 2)) (bD (v:=.str " \n") rfl T.gaps ⟨_,rfl⟩) rfl) (af (kA (i:=2) scToks.nd rfl (Or.inl rfl) ag kB))
     (ad (aA (i:=3) scToks.nd rfl (Or.inl rfl) (yQ (aI SG hr.m rfl (aa (pv 0) (aa (pv 2) ac))) (di (aI RN hr rfl (aa (pv 0) (aa (pv 2) ac))))))
     (ad (aQ (dR Et Ev Eu bQ (pv 1) (aa (pv 3) ac)))
     (af (kA (i:=2) scToks.nd rfl (Or.inl rfl) (ar cr (by rfl) T.len Ei (aa (pv 3) ac)) kB)))))))
   (af (ao (pv 1))))),?_⟩
  refine ⟨zlx,fun p hp=>?_⟩;refine ⟨fun m σ H'=>∃ (k:Nat) (ts:List (List Nat)) (v:Option V),σ=[some (.str (S l)),some (.ref p),some (.int k),v]/\m=l.length - k/\k<=l.length/\H' p=some (.lst (L3.vs ts))/\Same H H'/\ts++toks (l.drop k)=toks l/\ts.length<=k,
   ⟨_,0,[],none,rfl,rfl,zo,ae,ah hp,rfl,Ec _⟩,?_⟩
  rintro m σ H' ⟨k,ts,v,rfl,rfl,hk,g,s1,e,hl⟩;refine ⟨_,rfl,_,rfl,S l,rfl,sl,_,_,rfl,rfl,_,rfl,?_⟩;by_cases c:k < l.length
  ·refine bR (decide_eq_true (by rw [bL];lia)) ?_;refine ⟨fun σ' H2=>∃ (k':Nat) (ts':List (List Nat)) (v':Option V),σ'=[some (.str (S l)),some (.ref p),some (.int k'),v']/\k < k'/\k'<=l.length/\H2 p=some (.lst (L3.vs ts'))/\Same H H2/\ts'++toks (l.drop k')=toks l/\ts'.length<=k',
    fun σ' H2 ⟨k',ts',v',e1,e2,e3,e4,e5,e6,e7⟩=>⟨l.length - k',zo,k',ts',v',e1,rfl,e3,e4,e5,e6,e7⟩,?_⟩
   refine ⟨_,rfl,_,rfl,_,_,l[k],rfl,rfl,sl,gO c,_,_,rfl,rfl,_,rfl,?_⟩;rw [uz];have ec:=gK l[k] [32,10];rw [qD] at ec;cases gg:eO l[k] with
   | true=>
    refine bR (ec.trans gg) ?_;refine ⟨_,rfl,_,_,rfl,rfl,?_⟩;refine ⟨k+1,ts,v,?_,zo,c,g,s1,?_,zo⟩
    ·show [some (V.str (S l)),some (V.ref p),some (V.int ((k:Int)+1)),v]=_;rw [show ((k:Int)+1)=((k+1:Nat):Int) by lia]
    ·rw [<-e,fO c,mI gg]
   | false=>
    refine bE (ec.trans gg) ?_;refine ⟨_,rfl,_,rfl,l,k,rfl,c,hz,?_⟩;have dl:(l.drop k).length=l.length - k:=ET;have ol:=yP (l.drop k);have op:0 < one (l.drop k):=by rw [fO c];exact iO gg
    have tk:ts++[(l.drop k).take (one (l.drop k))]++toks (l.drop (k+one (l.drop k)))=toks l:=by
     rw [<-e,EH,show l.drop (k+one (l.drop k))=(l.drop k).drop (one (l.drop k)) by rw [List.drop_drop]]
     congr 1
     rw [fO c,mJ gg];rfl
    have tl:((l.drop k).take (one (l.drop k))).length=one (l.drop k):=by rw [Em];lia
    have tz:((l.drop k).take (hX (l.drop k))).length<=100000:=by rw [Em];lia
    refine ⟨_,rfl,tz,?_⟩;by_cases s0:hX (l.drop k)=0
    ·rw [if_pos ((take_nil (kP _)).mpr s0)];refine ⟨_,rfl,_,rfl,l,k,rfl,c,hz,?_⟩;rw [show run (l.drop k)=one (l.drop k) from (if_pos s0).symm];refine ⟨_,rfl,.inl ⟨rfl,_,SqL.of g⟩,_,rfl,p,_,_,rfl,rfl,g,(by rw [uB];lia),?_⟩;refine ⟨_,rfl,_,rfl,S ((l.drop k).take (one (l.drop k))),rfl,(by rw [bL];lia),_,_,rfl,rfl,?_⟩;refine ⟨k+one (l.drop k),ts++[(l.drop k).take (one (l.drop k))],some (.str (S ((l.drop k).take (one (l.drop k))))),?_,zo,zo,?_,aV hp s1,tk,by rw [D9];simp;lia⟩
     ·show [some (V.str (S l)),some (V.ref p),some (V.int ((k:Int)+((S ((l.drop k).take (one (l.drop k)))).length:Int))),some (V.str (S ((l.drop k).take (one (l.drop k)))))]=_;rw [bL,tl,show ((k:Int)+(one (l.drop k):Int))=((k+one (l.drop k):Nat):Int) by lia]
     ·rw [ae,uA];rfl
    ·rw [if_neg (fun z=>s0 ((take_nil (kP _)).mp z))];rw [show hX (l.drop k)=one (l.drop k) from (if_neg s0).symm];refine ⟨_,rfl,.inl ⟨rfl,_,SqL.of g⟩,_,rfl,p,_,_,rfl,rfl,g,(by rw [uB];lia),?_⟩;refine ⟨_,rfl,_,rfl,S ((l.drop k).take (one (l.drop k))),rfl,(by rw [bL];lia),_,_,rfl,rfl,?_⟩;refine ⟨k+one (l.drop k),ts++[(l.drop k).take (one (l.drop k))],some (.str (S ((l.drop k).take (one (l.drop k))))),?_,zo,zo,?_,aV hp s1,tk,by rw [D9];simp;lia⟩
     ·show [some (V.str (S l)),some (V.ref p),some (V.int ((k:Int)+((S ((l.drop k).take (one (l.drop k)))).length:Int))),some (V.str (S ((l.drop k).take (one (l.drop k)))))]=_;rw [bL,tl,show ((k:Int)+(one (l.drop k):Int))=((k+one (l.drop k):Nat):Int) by lia]
     ·rw [ae,uA];rfl
  ·refine bE (decide_eq_false (by rw [bL];lia)) ?_;have:k=l.length:=by lia
   subst this;rw [List.drop_length,tE,EC] at e;subst e;exact ⟨_,rfl,q p H' hp g s1⟩
end L3
namespace L3
open PySem L2
theorem ph:bootBuiltins "dict"=some (.type "dict"):=by decide +kernel
structure BX (mg:Str->Option Value):Prop where
 dict:mg "dict"=none
 enumerate:mg "enumerate"=none
theorem pi {α β:Type} {R:α->β->Prop}:∀ {xs:List α} {ys:List β},Paired R xs ys->∀ {i:Nat} {x:α},xs[i]?=some x->∃ y,ys[i]?=some y/\R x y
 | _,_,.cons h t,0,x,e=>by
  simp at e;exact ⟨_,rfl,e ▸ h⟩
 | _,_,.cons h t,i+1,x,e=>by
  obtain ⟨y,a,b⟩:=pi t (i:=i) (x:=x) (by simpa using e);exact ⟨y,by simpa using a,b⟩
inductive uC (vs:List V) (H:Hp) (Q:VK) (Z3:XK):Prop
 | mk (d tf us ks fs:_):vs=[.ref d,.ref tf]->NmI H d ks->H tf=some (.tup us)->Paired (FldV H) us fs->((ks++fs).map (·.1)).Nodup->ks.length+fs.length<=20->(∀ d' H',Same H H'->H d'=none->NmI H' d' (ks++fs)->Q (.ref d') H')->uC vs H Q Z3
variable {P:Program} {w:World} {K:ZF} {mg:Str->Option Value} {base:Heap} {C fi aS aE aF aO:Addr} {t1 t2 t3 t4 t5 tM:Tok}
theorem scNwf:ak ["names","fields","within","j","name","sort"] ["names","fields"] (ai gx):=ck zk
variable {fd:FuncData} {f:Addr}
theorem zn (F:Fun K "names_with_fields" "names_with_fields" gx f fd) (B:BX mg) (AN:Fn P w K mg base "add_name" 1 ["names","name","sort","sel"] fN):FnOk P w K mg base bM 2 f fd ["names","fields"] uC:=by
 have ZZ:=scNwf
 walk_at "o"
 ·obtain ⟨d,tf,us,ks,fs,rfl,⟨kvs,hd,hp⟩,ht,hf,hnd,h20,q⟩:=h;refine ⟨_,ad (aA (i:=2) scNwf.nd rfl (Or.inl rfl) (aN oG (by rfl) B.dict ph (aa (pv 0) ac)))
   (ad (cQ PassesOwn.never rfl (jm rfl B.enumerate (aa (pv 1) ac)) (cM rfl (aH (aw (i:=3) scNwf.nd rfl (Or.inl rfl)) (aH (cM rfl (aH (aw (i:=4) scNwf.nd rfl (Or.inl rfl)) (aH (aw (i:=5) scNwf.nd rfl (Or.inl rfl)) bV))) bV)))
    (af (aQ (aI AN hr rfl (aa (pv 2) (aa (pv 4) (aa (pv 5) (aa (aW (aa aC (aa (pv 3) ac))) ac))))))))
   (af (ao (pv 2)))),?_⟩
  refine ⟨_,rfl,d,kvs,rfl,hd,fun d' nd'=>?_⟩;generalize zz:upd H d' _=H1;have ⟨s1,e1⟩:=nw nd' zz;clear zz;refine ⟨_,rfl,tf,rfl,⟨_,SqT.of (s1 _ _ ht)⟩,?_⟩;have lf:=hf.length;refine ic (K:=K) (l:=tf) (xs:=us) (fun i σ H'=>∃ v3 v4 v5:Option V,σ=[some (.ref d),some (.ref tf),some (.ref d'),v3,v4,v5]/\Same H H'/\NmI H' d' (ks++fs.take i)) ⟨_,_,_,rfl,s1,kvs,e1,by simpa using cO (fun _ _ h=>h.kt (bn s1)) hp⟩ (fun i σ H' _ ⟨_,_,_,_,s',_⟩=>SqT.of (s' _ _ ht)) ?_ ?_
  ·rintro i x σ H2 T1 hx nT ⟨v3,v4,v5,rfl,s2,n2⟩;obtain ⟨y,hy,pf,rfl,hpf⟩:=pi hf hx;have hlt:i < fs.length:=(D7.mp hy).1;have s3:=ah (o:=.tup [.int (i:Int),.ref pf]) nT;have s23:=s2.trans s3;refine ⟨T1,_,rfl,SqT.of ae,rfl,_,_,rfl,_,_,rfl,⟨pf,_,rfl,SqT.of (s23 _ _ hpf),rfl,_,_,rfl,_,_,rfl,rfl,rfl,?_⟩⟩;refine ⟨_,rfl,_,rfl,_,rfl,_,rfl,zlx,fun t nt=>?_⟩;have s4:=ah (o:=.tup [.str "by",.int (i:Int)]) nt;have s24:=s23.trans s4;have n4:NmI (upd (upd H2 T1 (.tup [.int (i:Int),.ref pf])) t (.tup [.str "by",.int (i:Int)])) d' (ks++fs.take i):=let ⟨kv2,a,b⟩:=n2;⟨kv2,(s3.trans s4) _ _ a,cO (fun _ _ h=>h.kt (bn (s3.trans s4))) b⟩;have etk:fs.take (i+1)=fs.take i++[y]:=by rw [Fd,hy];rfl
   refine ⟨d',_,y.1,y.2,.ref t,rfl,n4,?_,?_,fun H5 n5 b5=>⟨_,_,_,rfl,cL nd' s24 b5,?_⟩⟩
   ·intro hm;have e5:ks++fs=(ks++fs.take i)++(y::fs.drop (i+1)):=by
     rw [EH]
     congr 1
     have:=(Fc i fs).symm;rw [EK hlt] at this;rw [(D7.mp hy).2] at this;exact this
    rw [e5,Ek,Er] at hnd;exact (List.nodup_append.mp hnd).2.2 _ hm _ Eb rfl
   ·rw [D9,Em];lia
   ·rw [etk,<-EH];exact n5
  ·rintro σ H2 ⟨v3,v4,v5,rfl,s2,n2⟩;rw [lf,ER] at n2;exact ⟨_,rfl,q d' H2 s2 nd' n2⟩
def qE (zs:List Str):List (dA×V):=zs.map fun z=>(Sum.inr z,.bl true)
theorem yg:∀ {zs:List Str} {z:Str},z∉zs->fY (qE zs) (Sum.inr z)=none
 | [],_,_=>mO
 | x::zs,z,h=>by
  unfold qE;rw [Er,dS]
  ·exact yg (fun m=>h (Ef _ m))
  ·intro e;exact h (by rw [<-Sum.inr.inj e];exact Eb)
inductive zp (vs:List V) (H:Hp) (Q:VK) (Z3:XK):Prop
 | mk (d tk us ks kds:_):vs=[.ref d,.ref tk]->NmI H d ks->H tk=some (.tup us)->Paired (KindV H) us kds->(kds.map Kn.name).Nodup->(∀ x∈kds,((ks++x.fs).map (·.1)).Nodup/\x.fs.length<=3)->ks.length<=10->kds.length<=8->(∀ p us' H',Same H H'->H p=none->H' p=some (.tup us')->Paired (KindV H') us' kds->Q (.ref p) H')->zp vs H Q Z3
structure NI (H:Hp) (kds:List Kn) (ln lt:Addr) (i:Nat) (H':Hp):Prop where
 sm:Same H H'
 n1:H ln=none
 n2:H lt=none
 ne:ln≠lt
 ls:∃ us,H' ln=some (.lst us)/\us.length=i/\Paired (KindV H') us (kds.take i)
 tk:H' lt=some (.dK (qE ((kds.take i).map Kn.name)))
theorem scKN:ak ["names","kinds","named","taken","name","fields","body","deed"] ["names","kinds"] (ai fg):=ck zk
theorem A9 (F:Fun K "kinds_named" "kinds_named" fg f fd) (B:Bl mg) (NW:Fn P w K mg base "names_with_fields" 2 ["names","fields"] uC) (DO:Fn P w K mg base "deed_of" 2 ["names","body"] ju):FnOk P w K mg base bM 3 f fd ["names","kinds"] zp:=by
 have ZZ:=scKN
 walk_at "o"
 ·obtain ⟨d,tk,us,ks,kds,rfl,hN,ht,hk,hnd,hfs,h10,h8,q⟩:=h;have hu:=tD hr;have sz:(1000:Nat)<=sizeLine:=by decide
  refine ⟨_,ad (aA (i:=2) scKN.nd rfl (Or.inl rfl) (aT ac))
   (ad (aA (i:=3) scKN.nd rfl (Or.inl rfl) jk)
   (ad (cQ PassesOwn.never rfl (gh (pv 1)) (cM rfl (aH (aw (i:=4) scKN.nd rfl (Or.inl rfl)) (aH (aw (i:=5) scKN.nd rfl (Or.inl rfl)) (aH (aw (i:=6) scKN.nd rfl (Or.inl rfl)) bV))))
    (ad (aR (oh (tU hu (pv 4) (pv 3))) (af be) ay)
    (ad (qu hu (pv 3) (pv 4) cj rfl)
    (ad (aA (i:=7) scKN.nd rfl (Or.inl rfl) (aI DO hr rfl (aa (aI NW hr rfl (aa (pv 0) (aa (pv 5) ac))) (aa (pv 6) ac))))
    (af (aQ (dR Et Ev Eu bQ (pv 2) (aa (aW (aa (pv 4) (aa (pv 5) (aa (pv 7) ac)))) ac))))))))
   (af (ao (aN aX (by rfl) B.tuple aY (aa (pv 2) ac)))))),?_⟩
  have lk:=hk.length;refine ⟨zlx,fun ln n1=>?_⟩;have s1:=ah (o:=.lst []) n1;have e1:(upd H ln (.lst [])) ln=some (.lst []):=ae;generalize upd H ln (.lst ([]:List V))=H1 at *;refine fun lt n2=>?_;have s2:=ah (o:=.dK []) n2;have e2:(upd H1 lt (.dK [])) lt=some (.dK []):=ae;have I0:NI H kds ln lt 0 (upd H1 lt (.dK [])):=⟨s1.trans s2,n1,s1.free n2,aq e1 n2,⟨[],s2 _ _ e1,rfl,.nil⟩,e2⟩;generalize upd H1 lt (.dK ([]:List (dA×V)))=H2 at *;refine ⟨_,rfl,tk,rfl,⟨_,SqT.of (I0.sm _ _ ht)⟩,?_⟩;refine p8 (K:=K) (a:=tk) (xs:=us) (fun i σ H'=>∃ v4 v5 v6 v7:Option V,σ=[some (.ref d),some (.ref tk),some (.ref ln),some (.ref lt),v4,v5,v6,v7]/\NI H kds ln lt i H') ⟨_,_,_,_,rfl,I0⟩ (fun i σ H' _ ⟨_,_,_,_,_,I⟩=>SqT.of (I.sm _ _ ht)) ?_ ?_
  ·rintro i x σ H3 hx ⟨v4,v5,v6,v7,rfl,I⟩;obtain ⟨y,hy,hK⟩:=pi hk hx;have hlt:i < kds.length:=(D7.mp hy).1;have hyi:kds[i]=y:=(D7.mp hy).2;obtain ⟨p,tf,b,fu,rfl,hp,htf,hfu,hb⟩:=hK;have etk:kds.take (i+1)=kds.take i++[y]:=by rw [Fd,hy];rfl
   have hym:y∈kds:=hyi ▸ E9 hlt;have hno:y.name∉(kds.take i).map Kn.name:=by
    intro hm;have e5:kds=kds.take i++(y::kds.drop (i+1)):=by
     have:=(Fc i kds).symm;rw [EK hlt,hyi] at this;exact this
    rw [e5,Ek,Er] at hnd;exact (List.nodup_append.mp hnd).2.2 _ hm _ Eb rfl
   have hval:=yg hno;have g:DGet H3 lt (.str y.name) none:=by
    have:=DGet.k (k:=Sum.inr y.name) I.tk;rw [hval] at this;exact this
   refine ⟨p,_,rfl,SqT.of (I.sm _ _ hp),rfl,_,_,rfl,_,_,rfl,_,_,rfl,rfl,?_⟩;refine ⟨_,rfl,_,rfl,lt,_,rfl,g,_,rfl,aZ ?_⟩;have ltk:(qE ((kds.take i).map Kn.name)).length<=8:=by
    unfold qE;rw [D8,D8,Em];lia
   refine ⟨_,rfl,_,rfl,lt,_,rfl,DPut.k (k:=Sum.inr y.name) I.tk zo,?_⟩;rw [mP _ hval];have et:qE ((kds.take i).map Kn.name)++[(Sum.inr y.name,V.bl true)]=qE ((kds.take (i+1)).map Kn.name):=by
    unfold qE;rw [etk,Ek,Ek];rfl
   rw [et];obtain ⟨us3,e3,l3,p3⟩:=I.ls;have k4:TupK H3 (upd H3 lt (.dK (qE ((kds.take (i+1)).map Kn.name)))):=yf I.tk;have s4:Same H (upd H3 lt (.dK (qE ((kds.take (i+1)).map Kn.name)))):=aV I.n2 I.sm;have e4:(upd H3 lt (.dK (qE ((kds.take (i+1)).map Kn.name)))) ln=some (.lst us3):=by rw [aj I.ne];exact e3
   have t4:(upd H3 lt (.dK (qE ((kds.take (i+1)).map Kn.name)))) lt=some (.dK (qE ((kds.take (i+1)).map Kn.name))):=ae;have p4:=cO (fun _ _ h=>KindV.kt k4 h) p3;generalize upd H3 lt (.dK (qE ((kds.take (i+1)).map Kn.name)))=H4 at *;have hN4:NmI H4 d ks:=let ⟨kv2,a,b2⟩:=hN;⟨kv2,s4 _ _ a,cO (fun _ _ h=>h.kt (bn s4)) b2⟩;refine ⟨_,rfl,_,rfl,d,tf,fu,ks,y.fs,rfl,hN4,s4 _ _ htf,cO (fun _ _ h=>h.kt (bn s4)) hfu,(hfs y hym).1,by have:=(hfs y hym).2;lia,fun d' H5 s5 nd' nm'=>?_⟩;have s45:=s4.trans s5;refine ⟨_,rfl,.ref d',b,rfl,hb.kt (bn s45),fun b' H6 s6 hb'=>?_⟩;have s46:=s5.trans s6;have s06:=s4.trans s46;refine ⟨_,rfl,.inl ⟨rfl,_,SqL.of (s46 _ _ e4)⟩,_,rfl,_,rfl,_,rfl,zlx,fun pt npt=>?_⟩;have s7:=ah (o:=.tup [.str y.name,.ref tf,b']) npt;have e7:=s7 _ _ (s46 _ _ e4);have ept:(upd H6 pt (.tup [.str y.name,.ref tf,b'])) pt=some (.tup [.str y.name,.ref tf,b']):=ae;have s07:=s06.trans s7;generalize upd H6 pt (.tup [V.str y.name,.ref tf,b'])=H7 at *;refine ⟨ln,_,_,rfl,rfl,e7,by rw [l3];lia,?_⟩;have k8:=uq (ys:=us3++[V.ref pt]) e7;have k47:TupK H4 H7:=bn (s46.trans s7);refine ⟨_,_,_,_,rfl,aV I.n1 s07,I.n1,I.n2,I.ne,⟨us3++[.ref pt],ae,by simp [l3],?_⟩,?_⟩
   ·rw [etk];refine kg ⟨pt,tf,b',fu,rfl,k8 _ _ ept,k8 _ _ (s07 _ _ htf),cO (fun _ _ h=>(h.kt (bn s07)).kt k8) hfu,(hb'.kt (bn s7)).kt k8⟩ (cO (fun _ _ h=>(KindV.kt k47 h).kt k8) p4)
   ·rw [aj I.ne.symm];exact s7 _ _ (s46 _ _ t4)
  ·rintro σ H3 ⟨v4,v5,v6,v7,rfl,I⟩;obtain ⟨us3,e3,l3,p3⟩:=I.ls;rw [lk,ER] at p3;refine ⟨_,rfl,ln,us3,rfl,.inl ⟨SqL.of e3,fun p np=>?_⟩⟩;have s4:=ah (o:=.tup us3) np;exact q p us3 _ (I.sm.trans s4) (I.sm.free np) ae (cO (fun _ _ h=>KindV.kt (bn s4) h) p3)
theorem lz {X:Cx} {es:List Expr} {k:Nat} {pos:Pos} {t:yC} {n:Nat} (h:X.K=K) (hc:X.calm=true) (hg:Av X es t) (hn:(assignEach es X.env).length=n:=by rfl) (hst:(assignEach es X.env).findIdx? (·.1)=none:=by rfl):PG X (.Tuple es k pos) (yE K n t):=by
 subst h;exact cM hc hg hn hst
def Ba (vw vc vd vp vm vg:V) (pn pk:Addr):List (Str×V):=[("width",vw),("cells",vc),("depth",vd),("places",vp),("marks",vm),("gate",vg),("kinds",.ref pn),("kinds_known",.ref pk)]
def C1:List Str:=["width","cells","depth","places","marks","gate","kinds","kinds_known"]
structure Tc (K:ZF) (C:Addr):Prop where
 cl:Cls K C
 na:∀ f∈C1,NoAttr K C f
abbrev lA:Stmt:=bo (ci 95) 0
inductive lB (C:Addr) (vs:List V) (H:Hp) (Q:VK) (Z3:XK):Prop
 | mk (x dx vw vc vd vp vm vg pk us kds:_):vs=[.ref x,vw,vc,vd,vp,vm,vg,.ref pk]->H x=some (.ins C dx [])->H pk=some (.tup us)->Paired (KindV H) us kds->kds.length<=8->(∀ pn H',H' x=some (.ins C dx (Ba vw vc vd vp vm vg pn pk))->H pn=none->H' pn=some (.tup (au (kds.map Kn.name)))->ButO x H H'->Q .non H')->lB C vs H Q Z3
theorem wW:ak ["self","width","cells","depth","places","marks","gate","kinds_known"] ["self","width","cells","depth","places","marks","gate","kinds_known"] (ai lA):=ck zk
theorem zq:(["name","fields","deed"]:List Str).Nodup:=by decide +kernel
theorem uD (F:Fun K "__init__" "Table.__init__" lA f fd) (T:Tc K C) (B:Bl mg):FnOk P w K mg base bM 1 f fd ["self","width","cells","depth","places","marks","gate","kinds_known"] (lB C):=by
 have ZZ:=wW
 walk_at "o"
 ·obtain ⟨x,dx,vw,vc,vd,vp,vm,vg,pk,us,kds,rfl,hx,hk,hp,h8,q⟩:=h;have sz:(1000:Nat)<=sizeLine:=by decide
  refine ⟨_,(ad (bz (pv 0) (pv 1) rfl)
   (ad (bz (pv 0) (pv 2) rfl)
   (ad (bz (pv 0) (pv 3) rfl)
   (ad (bz (pv 0) (pv 4) rfl)
   (ad (bz (pv 0) (pv 5) rfl)
   (ad (bz (pv 0) (pv 6) rfl)
   (ad (bz (pv 0) (aN aX (by rfl) B.tuple aY (aa (fe (N':=["name","fields","deed"]) (ix:=[none,none,none]) (sc0:=ai lA) (N:=["self","width","cells","depth","places","marks","gate","kinds_known"]) rfl zk (gh (pv 7)) (fun C' cl s H fp=>lz (K:=K) (n:=3) rfl rfl (aH (aw (i:=0) zq rfl (Or.inl rfl) (.inr rfl)) (aH (aw (i:=1) zq rfl (Or.inl rfl) (.inr rfl)) (aH (aw (i:=2) zq rfl (Or.inl rfl) (.inr rfl)) bV)))) (fun _ _ _ _ _=>cX) (fun C' cl s H fp=>pv 0)) ac)) rfl)
   (af (bz (pv 0) (pv 7) rfl))))))))),?_⟩
  have b0:ButO x H H:=ButO.refl _ _;refine ⟨_,rfl,_,rfl,x,C,dx,_,rfl,hx,T.cl,T.na "width" zk,(by show 0 < 1000;decide),?_⟩;have e1:(upd H x (.ins C dx (aJ "width" vw []))) x=some (.ins C dx (aJ "width" vw [])):=ae;have b1:ButO x H (upd H x (.ins C dx (aJ "width" vw []))):=fun b o e nb=>by rw [aj nb];exact b0 _ _ e nb
  generalize upd H x (.ins C dx (aJ "width" vw []))=H1 at *;refine ⟨_,rfl,_,rfl,x,C,dx,_,rfl,e1,T.cl,T.na "cells" zk,(by show 1 < 1000;decide),?_⟩;have e2:(upd H1 x (.ins C dx (aJ "cells" vc (aJ "width" vw [])))) x=some (.ins C dx (aJ "cells" vc (aJ "width" vw []))):=ae;have b2:ButO x H (upd H1 x (.ins C dx (aJ "cells" vc (aJ "width" vw [])))):=fun b o e nb=>by rw [aj nb];exact b1 _ _ e nb
  generalize upd H1 x (.ins C dx (aJ "cells" vc (aJ "width" vw [])))=H2 at *;refine ⟨_,rfl,_,rfl,x,C,dx,_,rfl,e2,T.cl,T.na "depth" zk,(by show 2 < 1000;decide),?_⟩;have e3:(upd H2 x (.ins C dx (aJ "depth" vd (aJ "cells" vc (aJ "width" vw []))))) x=some (.ins C dx (aJ "depth" vd (aJ "cells" vc (aJ "width" vw [])))):=ae;have b3:ButO x H (upd H2 x (.ins C dx (aJ "depth" vd (aJ "cells" vc (aJ "width" vw []))))):=fun b o e nb=>by rw [aj nb];exact b2 _ _ e nb
  generalize upd H2 x (.ins C dx (aJ "depth" vd (aJ "cells" vc (aJ "width" vw []))))=H3 at *;refine ⟨_,rfl,_,rfl,x,C,dx,_,rfl,e3,T.cl,T.na "places" zk,(by show 3 < 1000;decide),?_⟩;have e4:(upd H3 x (.ins C dx (aJ "places" vp (aJ "depth" vd (aJ "cells" vc (aJ "width" vw [])))))) x=some (.ins C dx (aJ "places" vp (aJ "depth" vd (aJ "cells" vc (aJ "width" vw []))))):=ae;have b4:ButO x H (upd H3 x (.ins C dx (aJ "places" vp (aJ "depth" vd (aJ "cells" vc (aJ "width" vw [])))))):=fun b o e nb=>by rw [aj nb];exact b3 _ _ e nb
  generalize upd H3 x (.ins C dx (aJ "places" vp (aJ "depth" vd (aJ "cells" vc (aJ "width" vw [])))))=H4 at *;refine ⟨_,rfl,_,rfl,x,C,dx,_,rfl,e4,T.cl,T.na "marks" zk,(by show 4 < 1000;decide),?_⟩;have e5:(upd H4 x (.ins C dx (aJ "marks" vm (aJ "places" vp (aJ "depth" vd (aJ "cells" vc (aJ "width" vw []))))))) x=some (.ins C dx (aJ "marks" vm (aJ "places" vp (aJ "depth" vd (aJ "cells" vc (aJ "width" vw [])))))):=ae;have b5:ButO x H (upd H4 x (.ins C dx (aJ "marks" vm (aJ "places" vp (aJ "depth" vd (aJ "cells" vc (aJ "width" vw []))))))):=fun b o e nb=>by rw [aj nb];exact b4 _ _ e nb
  generalize upd H4 x (.ins C dx (aJ "marks" vm (aJ "places" vp (aJ "depth" vd (aJ "cells" vc (aJ "width" vw []))))))=H5 at *;refine ⟨_,rfl,_,rfl,x,C,dx,_,rfl,e5,T.cl,T.na "gate" zk,(by show 5 < 1000;decide),?_⟩;have e6:(upd H5 x (.ins C dx (aJ "gate" vg (aJ "marks" vm (aJ "places" vp (aJ "depth" vd (aJ "cells" vc (aJ "width" vw [])))))))) x=some (.ins C dx (aJ "gate" vg (aJ "marks" vm (aJ "places" vp (aJ "depth" vd (aJ "cells" vc (aJ "width" vw []))))))):=ae;have b6:ButO x H (upd H5 x (.ins C dx (aJ "gate" vg (aJ "marks" vm (aJ "places" vp (aJ "depth" vd (aJ "cells" vc (aJ "width" vw [])))))))):=fun b o e nb=>by rw [aj nb];exact b5 _ _ e nb
  generalize upd H5 x (.ins C dx (aJ "gate" vg (aJ "marks" vm (aJ "places" vp (aJ "depth" vd (aJ "cells" vc (aJ "width" vw [])))))))=H6 at *;have pkx:pk≠x:=by
   rintro rfl;rw [hk] at hx;cases hx
  have hk6:=b6 _ _ hk pkx;have k6:TupK H H6:=b6.kt hx;have hp6:=cO (fun _ _ h=>KindV.kt k6 h) hp;have lk:=hp.length;refine ⟨_,rfl,pk,rfl,⟨_,SqT.of hk6⟩,?_⟩;refine jl (K:=K) (a:=pk) (xs:=us) (fun i ys H'=>H'=H6/\ys=au ((kds.take i).map Kn.name)) ⟨rfl,rfl⟩ (fun i ys H' hi ⟨a1,a2⟩=>by
    subst a1 a2;refine ⟨SqT.of hk6,?_⟩;unfold au;rw [D8,D8,Em];lia) ?_ ?_
  ·rintro i z ys H' hz ⟨rfl,rfl⟩;obtain ⟨y,hy,p,tf,bb,fu,rfl,hpp,_⟩:=pi hp6 hz;have hlt:i < us.length:=(D7.mp hz).1;refine ⟨p,_,rfl,SqT.of hpp,rfl,_,_,rfl,_,_,rfl,_,_,rfl,rfl,trivial,dM ?_⟩;refine ⟨_,rfl,Nx.mk hlt ⟨rfl,?_⟩⟩;rw [Fd,hy];unfold au;simp
  ·rintro ys H' ⟨rfl,rfl⟩ D hD;rw [lk,ER];have s7:=ah (o:=.lst (au (kds.map Kn.name))) hD;have e7:(upd H' D (.lst (au (kds.map Kn.name)))) D=some (.lst (au (kds.map Kn.name))):=ae;have x7:=s7 _ _ e6;generalize upd H' D (.lst (au (kds.map Kn.name)))=H7 at *;refine ⟨D,_,rfl,.inl ⟨SqL.of e7,fun pn npn=>?_⟩⟩;have s8:=ah (o:=.tup (au (kds.map Kn.name))) npn;have e8:(upd H7 pn (.tup (au (kds.map Kn.name)))) pn=some (.tup (au (kds.map Kn.name))):=ae;have x8:=s8 _ _ x7;have b8:=(b6.same s7).same s8;have nH:H pn=none:=fM (b6.same s7) x7 npn;generalize upd H7 pn (.tup (au (kds.map Kn.name)))=H8 at *;have pnx:pn≠x:=by
    rintro rfl;rw [nH] at hx;cases hx
   refine ⟨_,rfl,x,C,dx,_,rfl,x8,T.cl,T.na "kinds" zk,(by show 6 < 1000;decide),?_⟩;refine ⟨_,rfl,_,rfl,x,C,dx,_,rfl,ae,T.cl,T.na "kinds_known" zk,(by show 7 < 1000;decide),?_⟩;refine q pn _ ?_ nH ?_ ?_
   ·rw [ae];rfl
   ·rw [aj pnx,aj pnx];exact e8
   ·intro b o e nb;rw [aj nb,aj nb];exact b8 _ _ e nb
def iK (D:Fm):List (Str×Str):=D.places.map (fun z=>(z,("place":Str)))++D.marks.map (fun z=>(z,("mark":Str)))
def gP (D:Fm):V:=match D.gates with
 | []=>.non
 | z::_=>.str z
structure gA (D:Fm):Prop where
 nd:((iK D).map (·.1)).Nodup
 gt:∀ z∈D.gates,z∈D.marks
 g1:D.gates.length<=1
 kn:(D.kinds.map Kn.name).Nodup
 kf:∀ x∈D.kinds,((iK D++x.fs).map (·.1)).Nodup/\x.fs.length<=3
 p4:D.places.length<=4
 m3:D.marks.length<=3
 k8:D.kinds.length<=8
inductive TabV (C:Addr) (H:Hp) (v:V) (D:Fm):Prop
 | mk (a dx pp pm pn pk us:_):v=.ref a->H a=some (.ins C dx (Ba (.int D.width) (.int D.cells) (.int D.depth) (.ref pp) (.ref pm) (gP D) pn pk))->H pp=some (.tup (au D.places))->H pm=some (.tup (au D.marks))->H pn=some (.tup (au (D.kinds.map Kn.name)))->H pk=some (.tup us)->Paired (KindV H) us D.kinds->TabV C H v D
inductive zr (C:Addr) (vs:List V) (H:Hp) (Q:VK) (Z3:XK):Prop
 | mk (u D:_):vs=[u]->ut H u D->gA D->(∀ v H',Same H H'->TabV C H' v D->Q v H')->zr C vs H Q Z3
variable {H H':Hp}
theorem NmI.same {d:Addr} {ks:List (Str×Str)} (h:NmI H d ks) (s:Same H H'):NmI H' d ks:=let ⟨kv,a,b⟩:=h;⟨kv,s _ _ a,cO (fun _ _ h=>h.kt (bn s)) b⟩
theorem uE {A B:List (Str×Str)} {x:Str×Str} (h:((A++x::B).map (·.1)).Nodup):x.1∉A.map (·.1):=by
 rw [Ek,Er] at h;intro hm;exact (List.nodup_append.mp h).2.2 _ hm _ Eb rfl
theorem scTF:ak ["form","width","cells","depth","places","marks","gates","kinds","names","i","name","gate","kinds_known"] ["form"] (ai eI):=ck zk
theorem Bb {fd fdi:FuncData} (F:Fun K "table_of_form" "table_of_form" eI f fd) (B:Bl mg) (B3:BX mg) (MK:Mk K C fi) (mgT:mg "Table"=some (.ref C)) (IN:FnOk P w K mg base bM 1 fi fdi ["self","width","cells","depth","places","marks","gate","kinds_known"] (lB C)) (bI:Binds K fdi ["self","width","cells","depth","places","marks","gate","kinds_known"] [])
  (AN:Fn P w K mg base "add_name" 1 ["names","name","sort","sel"] fN) (NK:Fn P w K mg base "need_known" 1 ["names","name","sorts"] (fk K)) (KN:Fn P w K mg base "kinds_named" 3 ["names","kinds"] zp):FnOk P w K mg base bM 4 f fd ["form"] (zr C):=by
 have ZZ:=scTF
 walk_at "o"
 ·obtain ⟨u,D,rfl,⟨p,pp,pm,pg,pk,us,rfl,hp,hpp,hpm,hpg,hpk,hus⟩,hD,q⟩:=h;have sz:(1000:Nat)<=sizeLine:=by decide
  refine ⟨_,ad (dj (pv 0) (cM rfl (aH (aw (i:=1) scTF.nd rfl (Or.inl rfl)) (aH (aw (i:=2) scTF.nd rfl (Or.inl rfl)) (aH (aw (i:=3) scTF.nd rfl (Or.inl rfl)) (aH (aw (i:=4) scTF.nd rfl (Or.inl rfl)) (aH (aw (i:=5) scTF.nd rfl (Or.inl rfl)) (aH (aw (i:=6) scTF.nd rfl (Or.inl rfl)) (aH (aw (i:=7) scTF.nd rfl (Or.inl rfl)) bV)))))))))
   (ad (aA (i:=8) scTF.nd rfl (Or.inl rfl) jk)
   (bJ (fun σ H'=>∃ (d:Addr) (v9 v10 v11 v12:Option V),σ=[some (.ref p),some (.int D.width),some (.int D.cells),some (.int D.depth),some (.ref pp),some (.ref pm),some (.ref pg),some (.ref pk),some (.ref d),v9,v10,v11,v12]/\H d=none/\Same H H'/\NmI H' d (D.places.map (fun z=>(z,("place":Str))))) (cQ PassesOwn.never rfl (jm rfl B3.enumerate (aa (pv 4) ac)) (cM rfl (aH (aw (i:=9) scTF.nd rfl (Or.inl rfl)) (aH (aw (i:=10) scTF.nd rfl (Or.inl rfl)) bV))) (af (aQ (aI AN hr.m rfl (aa (pv 8) (aa (pv 10) (aa aC (aa (aW (aa aC (aa (pv 9) ac))) ac))))))))
   (bJ (fun σ H'=>∃ (d:Addr) (v9 v10 v11 v12:Option V),σ=[some (.ref p),some (.int D.width),some (.int D.cells),some (.int D.depth),some (.ref pp),some (.ref pm),some (.ref pg),some (.ref pk),some (.ref d),v9,v10,v11,v12]/\H d=none/\Same H H'/\NmI H' d (iK D)) (cQ PassesOwn.never rfl (jm rfl B3.enumerate (aa (pv 5) ac)) (cM rfl (aH (aw (i:=9) scTF.nd rfl (Or.inl rfl)) (aH (aw (i:=10) scTF.nd rfl (Or.inl rfl)) bV))) (af (aQ (aI AN hr.m rfl (aa (pv 8) (aa (pv 10) (aa aC (aa (aW (aa aC (aa (pv 9) ac))) ac))))))))
   (ad (aA (i:=11) scTF.nd rfl (Or.inl rfl) bN)
   (bJ (fun σ H'=>∃ (d:Addr) (v9 v10 v11 v12:Option V),σ=[some (.ref p),some (.int D.width),some (.int D.cells),some (.int D.depth),some (.ref pp),some (.ref pm),some (.ref pg),some (.ref pk),some (.ref d),v9,v10,v11,v12]/\v11=some (gP D)/\H d=none/\Same H H'/\NmI H' d (iK D)) (cQ PassesOwn.never rfl (gh (pv 6)) (aw (i:=10) scTF.nd rfl (Or.inl rfl)) (ad (aQ (aI NK hr.m rfl (aa (pv 8) (aa (pv 10) (aa (aW (aa aC ac)) ac))))) (af (aA (i:=11) scTF.nd rfl (Or.inl rfl) (pv 10)))))
   (ad (aA (i:=12) scTF.nd rfl (Or.inl rfl) (aI KN hr rfl (aa (pv 8) (aa (pv 7) ac))))
   (af (ao (dG MK IN hr.m rfl mgT bI .nil cm (aa (pv 1) (aa (pv 2) (aa (pv 3) (aa (pv 4) (aa (pv 5) (aa (pv 11) (aa (pv 12) ac)))))))))))))))),?_⟩
  refine ⟨_,rfl,p,_,rfl,SqT.of hp,rfl,_,_,rfl,_,_,rfl,_,_,rfl,_,_,rfl,_,_,rfl,_,_,rfl,_,_,rfl,rfl,?_⟩;refine fun d nd=>?_;have s1:=ah (o:=.dK []) nd;have I1:NmI (upd H d (.dK [])) d []:=⟨[],ae,.nil⟩;generalize upd H d (.dK ([]:List (dA×V)))=H1 at *;refine ⟨?_,?_⟩
  ·rintro σ H2 ⟨d,v9,v10,v11,v12,rfl,nd,s2,I2⟩;refine ⟨?_,?_⟩
   ·rintro σ H3 ⟨d,v9,v10,v11,v12,rfl,nd,s3,I3⟩;refine ⟨?_,?_⟩
    ·rintro σ H4 ⟨d,v9,v10,v11,v12,rfl,rfl,nd,s4,I4⟩;refine ⟨_,rfl,_,rfl,d,pk,us,iK D,D.kinds,rfl,I4,s4 _ _ hpk,cO (fun _ _ h=>KindV.kt (bn s4) h) hus,hD.kn,hD.kf,?_,hD.k8,fun p5 us5 H5 s5 n5 e5 k5=>?_⟩
     ·unfold iK;rw [D9,D8,D8];have:=hD.p4;have:=hD.m3;lia
     have s05:=s4.trans s5;refine ⟨_,rfl,_,rfl,_,rfl,_,rfl,_,rfl,_,rfl,_,rfl,fun x dx nx ndx ne=>?_⟩;refine ⟨x,dx,_,_,_,_,_,_,p5,us5,D.kinds,rfl,ae,(aV nx (ah ndx)) _ _ e5,cO (fun _ _ h=>KindV.kt (bn (aV nx (ah ndx))) h) k5,hD.k8,fun pn H7 e7 npn epn b7=>⟨rfl,?_⟩⟩;have s57:Same H5 H7:=cL nx (aV nx (ah ndx)) b7;have s07:=s05.trans s57;exact q _ _ s07 ⟨x,dx,pp,pm,pn,p5,us5,rfl,e7,s07 _ _ hpp,s07 _ _ hpm,epn,s57 _ _ e5,cO (fun _ _ h=>KindV.kt (bn s57) h) k5⟩
    ·refine ⟨_,rfl,pg,rfl,⟨_,SqT.of (s3 _ _ hpg)⟩,?_⟩;refine p8 (K:=K) (a:=pg) (xs:=au D.gates) (fun i σ H'=>∃ (v9 v10 v11 v12:Option V),σ=[some (.ref p),some (.int D.width),some (.int D.cells),some (.int D.depth),some (.ref pp),some (.ref pm),some (.ref pg),some (.ref pk),some (.ref d),v9,v10,v11,v12]/\v11=some (if i=0 then .non else gP D)/\Same H H'/\NmI H' d (iK D)) ⟨_,_,_,_,rfl,rfl,s3,I3⟩ (fun i σ H' _ ⟨_,_,_,_,_,_,s',_⟩=>SqT.of (s' _ _ hpg)) ?_ ?_
     ·rintro i x σ Ha hx ⟨w9,w10,w11,w12,rfl,rfl,sa,Ia⟩;have hg1:=hD.g1;have hgt:=hD.gt;have hlt0:i < (au D.gates).length:=(D7.mp hx).1;unfold au at hx hlt0;rw [D8] at hlt0;cases hgs:D.gates with
      | nil=>rw [hgs] at hlt0;simp at hlt0
      | cons z r=>
       rw [hgs] at hx hlt0 hg1 hgt;have hi0:i=0:=by simp only [Eh] at hg1 hlt0;lia
       subst hi0;have exz:x=.str z:=by simpa using hx.symm
       subst exz;have hzm:=hgt z Eb;refine ⟨_,rfl,_,rfl,zlx,fun t nt=>?_⟩;have sb:=ah (o:=.tup [.str "mark"]) nt;refine ⟨d,iK D,z,"mark",t,["mark"],rfl,Ia.same sb,?_,hD.nd,.inr (SqT.of ae),by simp,fun qq sl Hb sc eb=>?_⟩
       ·exact EB _ (Fa.mpr ⟨z,hzm,rfl⟩)
       refine ⟨_,rfl,_,_,_,_,rfl,?_,(sa.trans sb).trans sc,(Ia.same sb).same sc⟩;rw [if_neg zo];unfold gP;rw [hgs]
     ·rintro σ Ha ⟨w9,w10,w11,w12,rfl,rfl,sa,Ia⟩;refine ⟨d,_,_,_,_,rfl,?_,nd,sa,Ia⟩;have ell:(au D.gates).length=D.gates.length:=by unfold au;rw [D8]
      rw [ell];cases hgs:D.gates with
      | nil=>
       unfold gP;rw [hgs];rfl
      | cons z r=>rw [if_neg (by simp)]
   ·refine ⟨_,rfl,pm,rfl,⟨_,SqT.of (s2 _ _ hpm)⟩,?_⟩;refine ic (K:=K) (l:=pm) (xs:=au D.marks) (fun i σ H'=>∃ (v9 v10 v11 v12:Option V),σ=[some (.ref p),some (.int D.width),some (.int D.cells),some (.int D.depth),some (.ref pp),some (.ref pm),some (.ref pg),some (.ref pk),some (.ref d),v9,v10,v11,v12]/\Same H H'/\NmI H' d (D.places.map (fun z=>(z,("place":Str)))++(D.marks.take i).map (fun z=>(z,("mark":Str))))) ⟨_,_,_,_,rfl,s2,by simpa using I2⟩ (fun i σ H' _ ⟨_,_,_,_,_,s',_⟩=>SqT.of (s' _ _ hpm)) ?_ ?_
    ·rintro i x σ Ha T1 hx nT ⟨w9,w10,w11,w12,rfl,sa,Ia⟩;obtain ⟨z,hz,rfl⟩:∃ z,D.marks[i]?=some z/\x=.str z:=by
      unfold au at hx;rw [EU] at hx;cases hh:D.marks[i]? with
      | none=>rw [hh] at hx;cases hx
      | some z=>rw [hh] at hx;exact ⟨z,rfl,(Ey hx).symm⟩
     have hlt:i < D.marks.length:=(D7.mp hz).1;have hzi:D.marks[i]=z:=(D7.mp hz).2;have sb:=ah (o:=.tup [.int (i:Int),.str z]) nT;refine ⟨T1,_,rfl,SqT.of ae,rfl,_,_,rfl,_,_,rfl,rfl,?_⟩;refine ⟨_,rfl,_,rfl,_,rfl,zlx,fun t nt=>?_⟩;have sc:=ah (o:=.tup [.str "is",.int (i:Int)]) nt;have sac:=sa.trans (sb.trans sc);have etk:(D.marks.take (i+1)).map (fun z=>(z,("mark":Str)))=(D.marks.take i).map (fun z=>(z,("mark":Str)))++[(z,("mark":Str))]:=by rw [Fd,hz,Ek];rfl
     refine ⟨d,_,z,"mark",.ref t,rfl,Ia.same (sb.trans sc),?_,?_,fun Hb Ib bb=>⟨_,_,_,_,rfl,cL nd sac bb,?_⟩⟩
     ·have hh:=hD.nd;have e5:iK D=(D.places.map (fun z=>(z,("place":Str)))++(D.marks.take i).map (fun z=>(z,("mark":Str))))++((z,("mark":Str))::(D.marks.drop (i+1)).map (fun z=>(z,("mark":Str)))):=by
       have:=(Fc i D.marks).symm;rw [EK hlt,hzi] at this;unfold iK
       (conv=>lhs;rw [this]);simp
      rw [e5] at hh;exact uE hh
     ·simp only [D9,D8,Em,E8];have:=hD.p4;have:=hD.m3;lia
     ·rw [etk,<-EH];exact Ib
    ·rintro σ Ha ⟨w9,w10,w11,w12,rfl,sa,Ia⟩;have ell:(au D.marks).length=D.marks.length:=by unfold au;rw [D8]
     rw [ell,ER] at Ia;exact ⟨d,_,_,_,_,rfl,nd,sa,Ia⟩
  ·refine ⟨_,rfl,pp,rfl,⟨_,SqT.of (s1 _ _ hpp)⟩,?_⟩;refine ic (K:=K) (l:=pp) (xs:=au D.places) (fun i σ H'=>∃ (v9 v10 v11 v12:Option V),σ=[some (.ref p),some (.int D.width),some (.int D.cells),some (.int D.depth),some (.ref pp),some (.ref pm),some (.ref pg),some (.ref pk),some (.ref d),v9,v10,v11,v12]/\Same H H'/\NmI H' d ([]++(D.places.take i).map (fun z=>(z,("place":Str))))) ⟨_,_,_,_,rfl,s1,by simpa using I1⟩ (fun i σ H' _ ⟨_,_,_,_,_,s',_⟩=>SqT.of (s' _ _ hpp)) ?_ ?_
   ·rintro i x σ Ha T1 hx nT ⟨w9,w10,w11,w12,rfl,sa,Ia⟩;obtain ⟨z,hz,rfl⟩:∃ z,D.places[i]?=some z/\x=.str z:=by
     unfold au at hx;rw [EU] at hx;cases hh:D.places[i]? with
     | none=>rw [hh] at hx;cases hx
     | some z=>rw [hh] at hx;exact ⟨z,rfl,(Ey hx).symm⟩
    have hlt:i < D.places.length:=(D7.mp hz).1;have hzi:D.places[i]=z:=(D7.mp hz).2;have sb:=ah (o:=.tup [.int (i:Int),.str z]) nT;refine ⟨T1,_,rfl,SqT.of ae,rfl,_,_,rfl,_,_,rfl,rfl,?_⟩;refine ⟨_,rfl,_,rfl,_,rfl,zlx,fun t nt=>?_⟩;have sc:=ah (o:=.tup [.str "is",.int (i:Int)]) nt;have sac:=sa.trans (sb.trans sc);have etk:(D.places.take (i+1)).map (fun z=>(z,("place":Str)))=(D.places.take i).map (fun z=>(z,("place":Str)))++[(z,("place":Str))]:=by rw [Fd,hz,Ek];rfl
    refine ⟨d,_,z,"place",.ref t,rfl,Ia.same (sb.trans sc),?_,?_,fun Hb Ib bb=>⟨_,_,_,_,rfl,cL nd sac bb,?_⟩⟩
    ·have hh:=hD.nd;have e5:iK D=([]++(D.places.take i).map (fun z=>(z,("place":Str))))++((z,("place":Str))::(D.places.drop (i+1)).map (fun z=>(z,("place":Str)))++D.marks.map (fun z=>(z,("mark":Str)))):=by
      have:=(Fc i D.places).symm;rw [EK hlt,hzi] at this;unfold iK
      (conv=>lhs;rw [this]);simp
     rw [e5] at hh;exact uE hh
    ·simp only [D9,D8,Em,E8];have:=hD.p4;have:=hD.m3;lia
    ·rw [etk,<-EH];exact Ib
   ·rintro σ Ha ⟨w9,w10,w11,w12,rfl,sa,Ia⟩;have ell:(au D.places).length=D.places.length:=by unfold au;rw [D8]
    rw [ell,ER] at Ia;exact ⟨d,_,_,_,_,rfl,nd,sa,by simpa using Ia⟩
inductive uF (C:Addr) (xs:List V) (H:Hp) (Q:VK) (Z3:XK):Prop
 | mk (l:List Nat) (D:Fm):xs=[.str (S l)]->l.length<=20000->(TK.toks l).length<=1500->o6 ((TK.toks l).map S) D->gA D->(∀ v H',Same H H'->TabV C H' v D->Q v H')->uF C xs H Q Z3
theorem wX (ts:List (List Nat)):vs ts=au (ts.map S):=by
 unfold vs au;rw [Fs];rfl
theorem C3:ak ["text"] ["text"] (ai gy):=ck zk
theorem Bc (F:Fun K "read_table" "read_table" gy f fd) (B:Bl mg) (hM:mg "MOST_SIGNS"=some (.int 20000 tM)) (TO:Fn P w K mg base "tokens_of" 3 ["text"] pd) (RF:Fn P w K mg base "read_form" 7 ["tokens"] o7) (TF:Fn P w K mg base "table_of_form" 4 ["form"] (zr C)):FnOk P w K mg base bM 8 f fd ["text"] (uF C):=by
 have ZZ:=C3
 walk_at "o"
 ·obtain ⟨l,D,rfl,hl,ht,hF,hO,q⟩:=h;have sz:(100000:Nat)<=sizeLine:=by decide
  refine ⟨_,ad (aR (PW.pt (cH (bx (bj (ar (cw (T:="str")) (by rfl) B.isinstance br (aa (pv 0) (aa (pe_ty (by rfl) B.str dU) ac))))) (cG (am i6 (ar cr (by rfl) B.len Ei (aa (pv 0) ac)) (bD (v:=.int 20000) rfl hM ⟨_,rfl⟩))))) (af be) ay)
   (af (ao (aI TF hr.m rfl (aa (aI RF hr rfl (aa (aI TO hr.m rfl (aa (pv 0) ac)) ac)) ac)))),?_⟩
  refine ⟨_,rfl,_,_,_,rfl,.str _,rfl,_,rfl,aZ ?_⟩;refine ⟨_,rfl,S l,rfl,(by rw [bL];lia),_,_,rfl,rfl,_,rfl,bE (decide_eq_false (by rw [bL];lia)) ?_⟩;refine ⟨_,rfl,l,rfl,zo,fun p H1 np e1 s1=>?_⟩;rw [wX] at e1;refine ⟨p,_,D,rfl,e1,by rw [D8];exact ht,hF,fun u H2 s2 hu=>?_⟩;exact ⟨u,D,rfl,hu,hO,fun v H3 s3 hv=>q v H3 (s1.trans (s2.trans s3)) hv⟩
abbrev lC:Stmt:=bo (ci 95) 1
abbrev iq:Stmt:=bo (ci 95) 2
inductive fv (C:Addr) (vs:List V) (H:Hp) (Q:VK) (Z3:XK):Prop
 | mk (v D z:_) (j:Nat):vs=[v,.str z]->TabV C H v D->(D.kinds.map Kn.name)[j]?=some z->(∀ m,m < j->(D.kinds.map Kn.name)[m]?≠some z)->Q (.int j) H->fv C vs H Q Z3
inductive uG (C:Addr) (vs:List V) (H:Hp) (Q:VK) (Z3:XK):Prop
 | mk (v D:_) (x:Kn):vs=[v,.str x.name]->TabV C H v D->gA D->x∈D.kinds->(∀ tf us,H tf=some (.tup us)->Paired (FldV H) us x.fs->Q (.ref tf) H)->uG C vs H Q Z3
theorem nF {l:List Str} (nd:l.Nodup) {j:Nat} {z:Str} (h:l[j]?=some z):∀ m,m < j->l[m]?≠some z:=by
 intro m hm e;have h1:=(D7.mp h).1;have h2:=(D7.mp h).2;have h3:=(D7.mp e).1;have h4:=(D7.mp e).2;exact List.pairwise_iff_getElem.mp nd m j h3 h1 hm (by rw [h2,h4])
theorem qF {α β:Type} {R:α->β->Prop}:∀ {xs:List α} {ys:List β},Paired R xs ys->∀ {i:Nat} {y:β},ys[i]?=some y->∃ x,xs[i]?=some x/\R x y
 | _,_,.cons h t,0,y,e=>by
  simp at e;exact ⟨_,rfl,e ▸ h⟩
 | _,_,.cons h t,i+1,y,e=>by
  obtain ⟨x,a,b⟩:=qF t (i:=i) (y:=y) (by simpa using e);exact ⟨x,by simpa using a,b⟩
theorem uH {α:Type} {x:α}:∀ {l:List α},x∈l->∃ j:Nat,l[j]?=some x:=fun h=>let ⟨j,hj,e⟩:=List.getElem_of_mem h;⟨j,by rw [EF hj,e]⟩
theorem TabV.same {v:V} {D:Fm} (h:TabV C H v D) (s:Same H H'):TabV C H' v D:=
 let ⟨a,dx,pp,pm,pn,pk,us,e,b,c,d,f,g,i⟩:=h
 ⟨a,dx,pp,pm,pn,pk,us,e,s _ _ b,s _ _ c,s _ _ d,s _ _ f,s _ _ g,cO (fun _ _ h=>KindV.kt (bn s) h) i⟩
theorem uI:ak ["self","kind"] ["self","kind"] (ai lC):=ck zk
theorem rR (F:Fun K "kind_at" "Table.kind_at" lC f fd) (T:Tc K C):FnOk P w K mg base bM 1 f fd ["self","kind"] (fv C):=by
 have ZZ:=uI
 walk_at "o"
 ·obtain ⟨v,D,z,j,rfl,⟨a,dx,pp,pm,pn,pk,us,rfl,ho,hpp,hpm,hpn,hpk,hus⟩,hj,hf,q⟩:=h;refine ⟨_,ad (aR (am dk (pv 1) (ax (pv 0) rfl) rfl) (af be) ay)
   (af (ao (yV PySem.F.plainAttrs_tuple PySem.F.slot_tuple_index PySem.F.type_tuple_index m6 (ax (pv 0) rfl) (aa (pv 1) ac)))),?_⟩
  have hz:z∈D.kinds.map Kn.name:=EV hj;refine ⟨_,rfl,_,rfl,a,C,dx,_,_,rfl,ho,T.cl,T.na "kinds" zk,rfl,pn,_,rfl,.inr (SqT.of hpn),rfl,dW _,_,rfl,bE ?_ ?_⟩
  ·show (!qj (.str z) (au (D.kinds.map Kn.name)))=false;rw [fh,EZ.mpr hz];rfl
  ·exact ⟨_,rfl,a,C,dx,_,_,rfl,ho,T.cl,T.na "kinds" zk,rfl,pn,_,rfl,hpn,_,rfl,pn,_,z,j,rfl,rfl,SqT.of hpn,hj,hf,q⟩
theorem C4:ak ["self","kind"] ["self","kind"] (ai iq):=ck zk
theorem Bd (F:Fun K "fields_of" "Table.fields_of" iq f fd) (T:Tc K C) (KA:bT P w K mg base C "kind_at" 1 ["self","kind"] (fv C)):FnOk P w K mg base bM 2 f fd ["self","kind"] (uG C):=by
 have ZZ:=C4
 walk_at "o"
 ·obtain ⟨v,D,x,rfl,hT,hD,hx,q⟩:=h;obtain ⟨a,dx,pp,pm,pn,pk,us,rfl,ho,hpp,hpm,hpn,hpk,hus⟩:=id hT;have hr1:Room 1 _:=hr;obtain ⟨f1,fd1,M1,F1,B1⟩:=KA;refine ⟨_,af (ao (aG bh (aG bh (ax (pv 0) rfl) (bK (pv 0) (aa (pv 1) ac))) ag)),?_⟩;obtain ⟨j,hj⟩:=uH hx;obtain ⟨u,hu,p,tf,b,fu,rfl,hp,htf,hfu,hb⟩:=qF hus hj;have hjn:(D.kinds.map Kn.name)[j]?=some x.name:=by rw [EU,hj];rfl
  refine ⟨_,rfl,a,C,dx,_,_,rfl,ho,T.cl,T.na "kinds_known" zk,rfl,_,rfl,a,dx,C,f1,_,fd1,1,["self","kind"],_,rfl,ho,rfl,T.cl,M1,F1,hr1,B1,_,rfl,_,D,x.name,j,rfl,hT,hjn,nF hD.kn hjn,?_⟩;exact ⟨pk,us,_,_,rfl,rfl,SqT.of hpk,bq hu,p,_,_,_,rfl,rfl,SqT.of hp,rfl,q tf fu htf hfu⟩
def Aj (D:Fm) (n:Nat) (st:Str):Nat:=if st="place" then D.places.length else if st="mark" then D.marks.length else if st="number" then 2 ^ D.width else n+1
inductive pj (vs:List V) (H:Hp) (Q:VK) (Z3:XK):Prop
 | mk (i w:Nat):vs=[.int i,.int w]->w<=24->i < 2 ^ w->Q (.bl true) H->pj vs H Q Z3
inductive ir (C:Addr) (vs:List V) (H:Hp) (Q:VK) (Z3:XK):Prop
 | mk (v D st:_) (i n:Nat):vs=[v,.str st,.int i,.int n]->TabV C H v D->D.width<=24->i < Aj D n st->Q (.bl true) H->ir C vs H Q Z3
theorem zt:ak ["thing","width"] ["thing","width"] (ai ub):=ck zk
theorem wY (F:Fun K "is_word" "is_word" ub f fd) (WI:Fn P w K mg base "is_within" 2 ["thing","low","high"] dX):FnOk P w K mg base bM 3 f fd ["thing","width"] pj:=by
 have ZZ:=zt
 walk_at "o"
 ·obtain ⟨i,w,rfl,hw,hi,q⟩:=h;refine ⟨_,af (ao (aI WI hr rfl (aa (pv 0) (aa ag (aa (aL en (aL kE ag (pv 1)) ag) ac))))),?_⟩;refine ⟨_,rfl,_,rfl,_,_,rfl,rfl,?_,_,_,rfl,rfl,_,_,_,rfl,zo,?_,q⟩
  ·unfold yG;refine ⟨zo,zo,zd⟩
  ·have e:((w:Int)).toNat=w:=by lia
   show (i:Int)<=1*2 ^ ((w:Int)).toNat - 1;rw [e];have:((2 ^ w:Nat):Int)=(2:Int) ^ w:=by norm_cast
   lia
theorem rS:ak ["table","sort","thing","rows"] ["table","sort","thing","rows"] (ai gr):=ck zk
theorem pq (F:Fun K "is_operand" "is_operand" gr f fd) (T:Tc K C) (B:Bl mg) (WI:Fn P w K mg base "is_within" 2 ["thing","low","high"] dX) (WO:Fn P w K mg base "is_word" 3 ["thing","width"] pj):FnOk P w K mg base bM 4 f fd ["table","sort","thing","rows"] (ir C):=by
 have ZZ:=rS
 walk_at "o"
 ·obtain ⟨v,D,st,i,n,rfl,⟨a,dx,pp,pm,pn,pk,us,rfl,ho,hpp,hpm,hpn,hpk,hus⟩,hw,hb,q⟩:=h;refine ⟨_,ad (aR (am bY (pv 1) aC) (af (ao (aI WI hr.m rfl (aa (pv 2) (aa ag (aa (aL en (ar aK (by rfl) B.len Ei (aa (ax (pv 0) rfl) ac)) ag) ac)))))) ay)
   (ad (aR (am bY (pv 1) aC) (af (ao (aI WI hr.m rfl (aa (pv 2) (aa ag (aa (aL en (ar aK (by rfl) B.len Ei (aa (ax (pv 0) rfl) ac)) ag) ac)))))) ay)
   (ad (aR (am bY (pv 1) aC) (af (ao (aI WO hr rfl (aa (pv 2) (aa (ax (pv 0) rfl) ac))))) ay)
   (af (ao (aI WI hr.m rfl (aa (pv 2) (aa ag (aa (pv 3) ac)))))))),?_⟩
  refine ⟨_,rfl,rfl,_,rfl,kM (fun h=>?_) (fun h=>?_)⟩
  ·have h':st="place":=V.str.inj (of_decide_eq_true h);subst h';unfold Aj at hb;rw [if_pos rfl] at hb;refine ⟨_,rfl,_,rfl,a,C,dx,_,_,rfl,ho,T.cl,T.na "places" zk,rfl,pp,_,rfl,.inr (SqT.of hpp),_,_,rfl,rfl,_,_,_,rfl,zo,?_,q⟩;unfold au;rw [D8];lia
  have n1:st≠"place":=fun e=>h (decide_eq_true (congrArg V.str e));refine ⟨_,rfl,rfl,_,rfl,kM (fun h=>?_) (fun h=>?_)⟩
  ·have h':st="mark":=V.str.inj (of_decide_eq_true h);subst h';unfold Aj at hb;rw [if_neg n1,if_pos rfl] at hb;refine ⟨_,rfl,_,rfl,a,C,dx,_,_,rfl,ho,T.cl,T.na "marks" zk,rfl,pm,_,rfl,.inr (SqT.of hpm),_,_,rfl,rfl,_,_,_,rfl,zo,?_,q⟩;unfold au;rw [D8];lia
  have n2:st≠"mark":=fun e=>h (decide_eq_true (congrArg V.str e));refine ⟨_,rfl,rfl,_,rfl,kM (fun h=>?_) (fun h=>?_)⟩
  ·have h':st="number":=V.str.inj (of_decide_eq_true h);subst h';unfold Aj at hb;rw [if_neg n1,if_neg n2,if_pos rfl] at hb;exact ⟨_,rfl,_,rfl,a,C,dx,_,_,rfl,ho,T.cl,T.na "width" zk,rfl,_,_,rfl,hw,hb,q⟩
  have n3:st≠"number":=fun e=>h (decide_eq_true (congrArg V.str e));unfold Aj at hb;rw [if_neg n1,if_neg n2,if_neg n3] at hb;exact ⟨_,rfl,_,rfl,_,_,_,rfl,zo,zo,q⟩
structure Rw where
 k:Kn
 ops:List Nat
def rT (l:List Nat):List V:=l.map fun (n:Nat)=>V.int (n:Int)
def Be (D:Fm) (n:Nat) (r:Rw):Prop:=r.k∈D.kinds/\Paired (fun o (f:Str×Str)=>o < Aj D n f.2) r.ops r.k.fs
inductive RowV (H:Hp) (u:V) (r:Rw):Prop
 | mk (p t:_):u=.ref p->H p=some (.tup [.str r.k.name,.ref t])->H t=some (.tup (rT r.ops))->RowV H u r
theorem RowV.kt {u:V} {r:Rw} (k:TupK H H') (h:RowV H u r):RowV H' u r:=let ⟨p,t,a,b,c⟩:=h;⟨p,t,a,k _ _ b,k _ _ c⟩
theorem zu {l:List Nat} {i:Nat} {x:V} (h:(rT l)[i]?=some x):∃ o,l[i]?=some o/\x=.int (o:Int):=by
 unfold rT at h;rw [EU] at h;cases e:l[i]? with
 | none=>rw [e] at h;cases h
 | some o=>rw [e] at h;exact ⟨o,rfl,(Ey h).symm⟩
structure Dv (mg:Str->Option Value):Prop where
 zip:mg "zip"=none
inductive lD (C:Addr) (vs:List V) (H:Hp) (Q:VK) (Z3:XK):Prop
 | mk (v u D:_) (n:Nat) (r:Rw):vs=[v,u,.int n]->TabV C H v D->gA D->D.width<=24->RowV H u r->Be D n r->(∀ H',Same H H'->Q (.bl true) H')->lD C vs H Q Z3
theorem scIsRow:ak ["table","thing","rows","fields","operands"] ["table","thing","rows"] (ai kS):=ck zk
theorem zw:(["name","sort","number","rows","table"]:List Str).Nodup:=by decide +kernel
theorem uJ (F:Fun K "is_row" "is_row" kS f fd) (T:Tc K C) (B:Bl mg) (B4:Dv mg) (FO:bT P w K mg base C "fields_of" 2 ["self","kind"] (uG C)) (IO:Fn P w K mg base "is_operand" 4 ["table","sort","thing","rows"] (ir C)):FnOk P w K mg base bM 5 f fd ["table","thing","rows"] (lD C):=by
 have ZZ:=scIsRow
 walk_at "o"
 ·obtain ⟨v,u,D,n,r,rfl,hT,hD,hw,⟨p,t,rfl,hp,ht⟩,⟨hk,hops⟩,q⟩:=h;obtain ⟨a,dx,pp,pm,pn,pk,us,rfl,ho,hpp,hpm,hpn,hpk,hus⟩:=id hT;obtain ⟨f1,fd1,M1,F1,B1⟩:=FO;refine ⟨_,ad (aR (PW.pt (cH (bx (bj (ar (cw (T:="tuple")) (by rfl) B.isinstance br (aa (pv 1) (aa (pe_ty (by rfl) B.tuple aY) ac)))))
     (cH (am mC (ar aK (by rfl) B.len Ei (aa (pv 1) ac)) ag)
     (cG (am dk (aG bh (pv 1) ag) (ax (pv 0) rfl) rfl))))) (af (ao cj)) ay)
   (ad (aA (i:=3) scIsRow.nd rfl (Or.inl rfl) (bK (pv 0) (aa (aG bh (pv 1) ag) ac)))
   (ad (aA (i:=4) scIsRow.nd rfl (Or.inl rfl) (aG bh (pv 1) ag))
   (ad (aR (PW.pt (cH (bx (bj (ar (cw (T:="tuple")) (by rfl) B.isinstance br (aa (pv 4) (aa (pe_ty (by rfl) B.tuple aY) ac)))))
     (cG (am mC (ar aK (by rfl) B.len Ei (aa (pv 4) ac)) (ar aK (by rfl) B.len Ei (aa (pv 3) ac)))))) (af (ao cj)) ay)
   (af (ao (ar (gM rfl) (by rfl) B.all fL (aa (fe (N':=["name","sort","number","rows","table"]) (ix:=[none,none,none,some 2,some 0]) (sc0:=ai kS) (N:=["table","thing","rows","fields","operands"]) rfl zk (wy true true rfl B4.zip (aa (pv 3) (aa (pv 4) ac)))
    (fun C' cl s H fp=>lz (K:=K) (n:=2) rfl rfl (aH (lz (K:=K) (n:=2) rfl rfl (aH (aw (i:=0) zw rfl (Or.inl rfl) (.inr rfl)) (aH (aw (i:=1) zw rfl (Or.inl rfl) (.inr rfl)) bV))) (aH (aw (i:=2) zw rfl (Or.inl rfl) (.inr rfl)) bV)))
    (fun _ _ _ _ _=>cX) (fun C' cl s H fp=>aI IO hr rfl (aa (pv 4) (aa (pv 1) (aa (pv 2) (aa (pv 3) ac)))))) ac))))))),?_⟩
  have hz:r.k.name∈D.kinds.map Kn.name:=Fa.mpr ⟨_,hk,rfl⟩;refine ⟨_,rfl,_,_,_,rfl,.tup hp,rfl,_,rfl,aZ ?_⟩;refine ⟨_,rfl,p,_,rfl,.inr (SqT.of hp),rfl,_,rfl,bE (by simp) ?_⟩;refine ⟨_,rfl,p,_,_,_,rfl,rfl,SqT.of hp,rfl,_,rfl,a,C,dx,_,_,rfl,ho,T.cl,T.na "kinds" zk,rfl,pn,_,rfl,.inr (SqT.of hpn),rfl,dW _,_,rfl,bE ?_ ?_⟩
  ·show (!qj (.str r.k.name) (au (D.kinds.map Kn.name)))=false;rw [fh,EZ.mpr hz];rfl
  refine ⟨_,rfl,a,dx,C,f1,_,fd1,2,["self","kind"],_,rfl,ho,rfl,T.cl,M1,F1,hr.m,B1,_,rfl,p,_,_,_,rfl,rfl,SqT.of hp,rfl,_,D,r.k,rfl,hT,hD,hk,fun tf fu htf hfu=>?_⟩;refine ⟨_,rfl,p,_,_,_,rfl,rfl,SqT.of hp,rfl,?_⟩;refine ⟨_,rfl,_,_,_,rfl,.tup ht,rfl,_,rfl,aZ ?_⟩;have l1:=hops.length;have l2:=hfu.length;have l3:fu.length=(rT r.ops).length:=by unfold rT;rw [D8];lia
  refine ⟨_,rfl,t,_,rfl,.inr (SqT.of ht),_,rfl,tf,_,rfl,.inr (SqT.of htf),rfl,_,rfl,bE (by rw [l3];simp) ?_⟩;refine ⟨_,rfl,_,rfl,tf,t,rfl,⟨_,SqT.of htf⟩,⟨_,SqT.of ht⟩,?_⟩;have f3:=(hD.kf _ hk).2;have sz:(1000:Nat)<=sizeLine:=by decide
  refine wz (b1:=true) (b2:=true) (K:=K) (l1:=tf) (l2:=t) (xs:=fu) (ys:=rT r.ops) l3 (fun i ys' H'=>Same H H'/\ys'=(List.replicate i true).map V.bl) ⟨Same.refl _,rfl⟩ (fun i ys' H' hi ⟨s1,e1⟩=>⟨SqT.of (s1 _ _ htf),SqT.of (s1 _ _ ht),by rw [e1,D8,Ex];lia⟩) ?_ ?_
  ·rintro i x y ys' H' T1 hx hy nT ⟨s1,rfl⟩;obtain ⟨fl,hfl,fp,rfl,hfp⟩:=pi hfu hx;obtain ⟨o,hoo,rfl⟩:=zu hy;obtain ⟨fl2,hfl2,hb⟩:=pi hops hoo;have e2:fl2=fl:=by
    rw [hfl] at hfl2;exact (Ey hfl2).symm
   subst e2;have s2:=ah (o:=.tup [.ref fp,.int (o:Int)]) nT;have s12:=s1.trans s2;refine ⟨T1,_,rfl,SqT.of ae,rfl,_,_,rfl,⟨fp,_,rfl,SqT.of (s12 _ _ hfp),rfl,_,_,rfl,_,_,rfl,rfl,_,_,rfl,rfl,⟨rfl,rfl,trivial⟩,dM ?_⟩⟩;refine ⟨_,rfl,_,rfl,_,rfl,_,rfl,_,D,fl2.2,o,n,rfl,hT.same s12,hw,hb,?_⟩;refine Nx.mk (D7.mp hx).1 ⟨s12,?_⟩;rw [List.replicate_succ',Ek];rfl
  ·rintro ys' H' ⟨s1,rfl⟩ D' hD';refine ⟨D',List.replicate fu.length true,rfl,SqL.of ae,?_⟩;have:(List.replicate fu.length true).all id=true:=by simp
   rw [this];exact q _ (s1.trans (ah hD'))
def cp (z:Str):List Nat:=z.cps.toList
theorem jw (z:Str):S (cp z)=z:=(uf z).symm
theorem uK (sep:List Nat):∀ ts:List (List Nat),(TK.jn sep ts).length<=(ts.map List.length).sum+ts.length*sep.length
 | []=>by simp [TK.jn]
 | [t]=>by simp [TK.jn]
 | t::u::r=>by
  have ih:=uK sep (u::r);show (t++(sep++TK.jn sep (u::r))).length<=_;rw [D9,D9];simp only [Er,List.sum_cons,Eh] at ih ⊢;have:(r.length+1+1)*sep.length=(r.length+1)*sep.length+sep.length:=by rw [Nat.add_mul (r.length+1) 1,Nat.one_mul]
  lia
theorem uL (k:Nat):∀ ts:List (List Nat),(∀ t∈ts,t.length<=k)->(ts.map List.length).sum<=ts.length*k
 | [],_=>by simp
 | t::r,h=>by
  have ih:=uL k r (fun t ht=>h t (Ef _ ht));have:=h t Eb;simp only [Er,List.sum_cons,Eh];have:(r.length+1)*k=r.length*k+k:=by rw [Nat.add_mul,Nat.one_mul]
  lia
end L3
namespace L2
open PySem PySem.Spec PyProof.Rows
structure FunD (K:ZF) (x qual:Str) (st:Stmt) (f:Addr) (fd:FuncData):Prop where
 ex:∃ (oc:Value) (od:Option Addr) (kV doc pm:Value) (an:Option Addr) (cdv ct:Value) (osl:Array (Option Value)) (d:Addr) (o:Obj) (n:Nat),
  fd=PySem.W.fnOf x qual (cv st) (bP st) (ai st) (.ref d) kV doc pm an cdv ct/\K.lookup f=some ⟨oc,od,.func fd,osl⟩/\PySem.W.codeIn K cdv qual=true/\K.lookup d=some o/\o.data=.seq #[.none] n
 kp:PySem.W.keepIn K (.ref f)=true
theorem FunD.ok {P:Program} {w:World} {K:ZF} {mg:Str->Option Value} {base:Heap} {x qual:Str} {st:Stmt} {f:Addr} {fd:FuncData} {N ps:List Str} {k:Nat} {sp:Sp} (F:FunD K x qual st f fd) (S:ak N ps (ai st)) (len:∀ vs H Q E,sp vs H Q E->vs.length=ps.length)
  (hbody:∀ (cdv:Value) (A:Around) (outer:List Env) (s:Shared) (H:Hp) (vs:List V) (Q:VK) (E:XK),Room k (A.deeper (envOfC qual (ai st) s.heap.objs.size f cdv))->sp vs H Q E->
   ∃ t,PSs (jc bM P w K mg base N qual (ai st) f cdv A outer s H E).nox (bP st) t/\t { nx:=fun _ H'=>Q .non H',rt:=Q } (start N vs) H):FnOk P w K mg base bM (k+1) f fd ps sp:=by
 obtain ⟨oc,od,kV,doc,pm,an,cdv,ct,osl,d,o,n,rfl,lk,hcd,_⟩:=F.ex;refine qh lk hcd S len fun A outer s H vs Q E hr hsp=>?_;obtain ⟨t,h,q⟩:=hbody cdv A outer s H vs Q E hr hsp;exact ⟨t,h.nox,q⟩
end L2
namespace L3
open PySem L2
abbrev pw:Stmt:=bo (ci 50) 0
def Bf (t:Addr) (vb:V):List (Str×V):=[("rows",.ref t),("bell",vb)]
structure Pc (K:ZF) (C:Addr):Prop where
 cl:Cls K C
 n1:NoAttr K C "rows"
 n2:NoAttr K C "bell"
def Bg:Option Nat->V
 | none=>.non
 | some n=>.int (n:Int)
inductive ProgV (Cp:Addr) (H:Hp) (v:V) (rs:List Rw) (bl:Option Nat):Prop
 | mk (a dx t us:_):v=.ref a->H a=some (.ins Cp dx (Bf t (Bg bl)))->H t=some (.tup us)->Paired (RowV H) us rs->ProgV Cp H v rs bl
theorem ProgV.same {Cp:Addr} {H H':Hp} {v:V} {rs:List Rw} {bl:Option Nat} (h:ProgV Cp H v rs bl) (s:Same H H'):ProgV Cp H' v rs bl:=let ⟨a,dx,t,us,b,c,d,e⟩:=h;⟨a,dx,t,us,b,s _ _ c,s _ _ d,cO (fun _ _ h=>RowV.kt (bn s) h) e⟩
inductive iX (Cp:Addr) (vs:List V) (H:Hp) (Q:VK) (Z3:XK):Prop
 | mk (x dx l us vb:_):vs=[.ref x,.ref l,vb]->H x=some (.ins Cp dx [])->H l=some (.lst us)->(∀ t H',H' x=some (.ins Cp dx (Bf t vb))->H t=none->H' t=some (.tup us)->ButO x H H'->Q .non H')->iX Cp vs H Q Z3
inductive zx (C:Addr) (Cp:Addr) (vs:List V) (H:Hp) (Q:VK) (Z3:XK):Prop
 | mk (v l us D:_) (rs:List Rw) (bl:Option Nat):vs=[v,.ref l,Bg bl]->TabV C H v D->gA D->D.width<=24->H l=some (.lst us)->Paired (RowV H) us rs->(∀ r∈rs,Be D rs.length r)->rs.length<=40->(∀ b,bl=some b->b<=rs.length)->(∀ v' H',Same H H'->ProgV Cp H' v' rs bl->Q v' H')->zx C Cp vs H Q Z3
structure Zr (mg:Str->Option Value) (tm:Tok):Prop where
 mr:mg "MOST_ROWS"=some (.int 40 tm)
section
variable {P:Program} {w:World} {K:ZF} {mg:Str->Option Value} {base:Heap} {C Cp:Addr} {tb tm:Tok}
theorem wZ:ak ["self","rows","bell"] ["self","rows","bell"] (ai pw):=ck zk
variable {fd:FuncData} {f:Addr}
theorem uM (F:Fun K "__init__" "Program.__init__" pw f fd) (T:Pc K Cp) (B:Bl mg):FnOk P w K mg base bM 1 f fd ["self","rows","bell"] (iX Cp):=by
 have ZZ:=wZ
 walk_at "o"
 ·obtain ⟨x,dx,l,us,vb,rfl,hx,hl,q⟩:=h;refine ⟨_,ad (bz (pv 0) (aN aX (by rfl) B.tuple aY (aa (pv 1) ac)) rfl) (af (bz (pv 0) (pv 2) rfl)),?_⟩;refine ⟨_,rfl,l,us,rfl,.inl ⟨SqL.of hl,fun t nt=>?_⟩⟩;have s1:=ah (o:=.tup us) nt;have e1:(upd H t (.tup us)) t=some (.tup us):=ae;have x1:=s1 _ _ hx;have tx:t≠x:=by
   rintro rfl;rw [nt] at hx;cases hx
  generalize upd H t (.tup us)=H1 at *;refine ⟨_,rfl,x,Cp,dx,_,rfl,x1,T.cl,T.n1,(by show 0 < 1000;decide),?_⟩;refine ⟨_,rfl,_,rfl,x,Cp,dx,_,rfl,ae,T.cl,T.n2,(by show 1 < 1000;decide),?_⟩;refine q t _ ?_ nt ?_ ?_
  ·rw [ae];rfl
  ·rw [aj tx,aj tx];exact e1
  ·intro b o e nb;rw [aj nb,aj nb];exact s1 _ _ e
theorem scPO:ak ["table","rows","bell","at","row"] ["table","rows","bell"] (ai dD):=ck zk
theorem Bh {f fi:Addr} {fd fdi:FuncData} (F:FunD K "program_of" "program_of" dD f fd) (B:Bl mg) (B3:BX mg) (Z:Zr mg tm) (MK:Mk K Cp fi) (mgP:mg "Program"=some (.ref Cp)) (IN:FnOk P w K mg base bM 1 fi fdi ["self","rows","bell"] (iX Cp)) (bI:Binds K fdi ["self","rows","bell"] [])
  (IR:Fn P w K mg base "is_row" 5 ["table","thing","rows"] (lD C)) (WI:Fn P w K mg base "is_within" 2 ["thing","low","high"] dX):FnOk P w K mg base bM 6 f fd ["table","rows","bell"] (zx C Cp):=by
 have ZZ:=scPO
 walk_at "o"
 ·obtain ⟨v,l,us,D,rs,bl,rfl,hT,hD,hw,hl,hus,hrs,h40,hbl,q⟩:=h;refine ⟨_,ad (aR (bx (bj (ar ua (by rfl) B.isinstance br (aa (pv 1) (aa (aW (aa (pe_ty (by rfl) B.list bF) (aa (pe_ty (by rfl) B.tuple aY) ac))) ac))))) (af be) ay)
   (bJ (fun σ H'=>∃ v3 v4:Option V,σ=[some v,some (.ref l),some (Bg bl),v3,v4]/\Same H H') (cQ PassesOwn.never rfl (wx rfl B3.enumerate (aa (pv 1) ac)) (cM rfl (aH (aw (i:=3) scPO.nd rfl (Or.inl rfl)) (aH (aw (i:=4) scPO.nd rfl (Or.inl rfl)) bV)))
    (af (aR (PW.pt (cH (am bY (pv 3) (bD (v:=.int 40) rfl Z.mr ⟨_,rfl⟩)) (cG (bx (bj (aI IR hr rfl (aa (pv 0) (aa (pv 4) (aa (ar aK (by rfl) B.len Ei (aa (pv 1) ac)) ac))))))))) (af be) ay)))
   (ad (aR (PW.pt (cq (am gH (pv 2) bN) (cc (bx (bj (aI WI hr.m rfl (aa (pv 2) (aa ag (aa (ar aK (by rfl) B.len Ei (aa (pv 1) ac)) ac))))))))) (af be) ay)
   (af (ao (dG MK IN hr.m rfl mgP bI .nil cm (aa (pv 1) (aa (pv 2) ac))))))),?_⟩
  have lr:=hus.length;refine ⟨_,rfl,zlx,fun tp ntp=>?_⟩;have s1:=ah (o:=.tup [.ty "list",.ty "tuple"]) ntp;refine ⟨l,us,tp,["list","tuple"],true,rfl,s1 _ _ hl,ae,rfl,_,rfl,aZ ?_⟩;generalize upd H tp (.tup [V.ty "list",.ty "tuple"])=H1 at *;refine ⟨?_,?_⟩
  ·rintro σ H2 ⟨v3,v4,rfl,s2⟩;have fin:∀ H3,Same H H3->(H3 l=some (.lst us))->∀ x dx,H3 x=none->H3 dx=none->dx≠x->iX Cp [.ref x,.ref l,Bg bl] (upd (upd H3 dx (.own x)) x (.ins Cp dx [])) (fun v H2=>v=.non/\Q (.ref x) H2) E0:=by
    intro H3 s3 hl3 x dx nx ndx ne;have sx:=aV (o:=.ins Cp dx []) nx (ah (o:=.own x) ndx);refine ⟨x,dx,l,us,_,rfl,ae,sx _ _ hl3,fun t H4 e4 nt et b4=>⟨rfl,?_⟩⟩;have s34:Same H3 H4:=cL nx sx b4;have s04:=s3.trans s34;exact q _ _ s04 ⟨x,dx,t,us,rfl,e4,et,cO (fun _ _ h=>RowV.kt (bn s04) h) hus⟩
   cases bl with
   | none=>
    refine ⟨_,rfl,rfl,_,rfl,aZ ?_⟩;exact ⟨_,rfl,_,rfl,fin H2 s2 (s2 _ _ hl)⟩
   | some b=>
    have hb:=hbl b rfl;refine ⟨_,rfl,rfl,_,rfl,bC ?_⟩;refine ⟨_,rfl,_,rfl,l,us,rfl,.inl (SqL.of (s2 _ _ hl)),(b:Int),0,_,rfl,zo,by rw [lr];lia,_,rfl,aZ ?_⟩;exact ⟨_,rfl,_,rfl,fin H2 s2 (s2 _ _ hl)⟩
  ·refine ⟨_,rfl,l,rfl,⟨_,SqL.of (s1 _ _ hl)⟩,?_⟩;refine tX (K:=K) (l:=l) (xs:=us) (fun i σ H'=>∃ v3 v4:Option V,σ=[some v,some (.ref l),some (Bg bl),v3,v4]/\Same H H') ⟨_,_,rfl,s1⟩ (fun i σ H' _ ⟨_,_,_,s'⟩=>SqL.of (s' _ _ hl)) ?_ ?_
   ·rintro i x σ H2 T1 hx nT ⟨v3,v4,rfl,s2⟩;obtain ⟨r,hri,hR⟩:=pi hus hx;have hlt:i < rs.length:=(D7.mp hri).1;have s3:=ah (o:=.tup [.int (i:Int),x]) nT;have s23:=s2.trans s3;refine ⟨T1,_,rfl,SqT.of ae,rfl,_,_,rfl,_,_,rfl,rfl,?_⟩;refine ⟨_,rfl,rfl,_,rfl,bE (decide_eq_false fun e=>?_) ?_⟩
    ·have:=V.int.inj e;lia
    refine ⟨_,rfl,_,rfl,_,rfl,l,us,rfl,.inl (SqL.of (s23 _ _ hl)),v,x,D,us.length,r,rfl,hT.same s23,hD,hw,RowV.kt (bn s23) hR,?_,fun H4 s4=>⟨_,rfl,aZ ?_⟩⟩
    ·rw [lr];exact hrs r (EV hri)
    ·exact ⟨_,_,rfl,s23.trans s4⟩
   ·rintro σ H2 ⟨v3,v4,rfl,s2⟩;exact ⟨_,_,rfl,s2⟩
end
structure DR (D:Fm):Prop where
 pl:∀ z∈D.places,NameS z
 mrk:∀ z∈D.marks,NameS z
 kn:∀ x∈D.kinds,NameS x.name
variable {z:Str}
theorem NameS.len (h:NameS z):(cp z).length<=8:=by
 have:=h.2.2.1;have e:z.length=(cp z).length:=by unfold cp;simp [Str.length]
 lia
theorem NameS.pos (h:NameS z):1<=(cp z).length:=by
 have:=h.2.1;have e:z.length=(cp z).length:=by unfold cp;simp [Str.length]
 lia
theorem jx {α:Type} {x:α} {r:List α}:j8 (x::r) 0=some x:=bq (j:=0) (xs:=x::r) rfl
theorem iu {i:Nat} (h:i < 2 ^ 25):((i:Nat):Int).natAbs.log2 < 1920:=by
 rw [Int.natAbs_natCast];by_cases h0:i=0
 ·rw [h0];decide
 ·rw [Nat.log2_lt h0];exact En h (Nat.pow_le_pow_right zd zd)
end L3
namespace XB
open PySem PySem.W PySem.Calls PyProof.Rows Builtin Builtin.ObjectAttr
abbrev bmV:List Value:=[.type "ValueError",.type "Exception",.type "BaseException",.type "object"]
section
variable {prog:Program} {w:World} {A:Around} {E:Value->Shared->Prop} {s:Shared} {K:Frag} {x C:Addr} {ox:Obj} {od:Option Obj} {name:Str} {expr:Bool}
variable {v:Value}
theorem xga_run {tk:Tok} {R:Result->Shared->Prop} (X:K.In s.heap) (I:InstAt s.heap x ox C od) (hb:mroIn K C (.type "BaseException")=some true) (hf:findObj K C od name=some (.value v)) (hq:R (.ok (.ret v)) s) :
  codeAny (model prog w) A (.call (.builtin "BaseException.__getattribute__") ⟨[.ref x,.str name tk],[]⟩) R s:=by
 refine codeAny_call_builtin F.attr_ValueError.ga.plain F.entry_bexc_ga ?_;refine @check_slot (model prog w) _ _ s "BaseException.__getattribute__" "BaseException" "__getattribute__" (.ref x) [.str name tk] [] _ zk zk (I.type.andThen (looks_mroIn X hb)) (F.args_bexc_ga (.ref x) (.str name tk)) ?_;obtain ⟨hh,g,d,t,os⟩:=s;have L0:=I.type (M:=model prog w);have L1:=looks_find (M:=model prog w) X I hf;refine wpAny_bind (wpAny_pure (wpAny_bind (wpAny_pure (wpAny_bind (L0.at (wpAny_bind (L1.at ?_)))))));exact wpAny_pure hq
theorem xget_open {Q:Value->Shared->Prop} (X:K.In s.heap) (I:InstAt s.heap x ox C od) (hga:findIn K (.ref C) "__getattribute__"=some (some (.builtin "BaseException.__getattribute__"))) (hgt:findIn K (.ref C) "__getattr__"=some none)
  (h:codeAny (model prog w) A (.call (.builtin "BaseException.__getattribute__") ⟨[.ref x,.str name s.toks],[]⟩) (fun r s'=>match r with|.ok (.ret v)=>wpAny (model prog w) A (handedOut v) Q E s'|_=>False) { s with toks:=s.toks+1 }) :
  wpAny (model prog w) A (getAttr (.ref x) name expr) Q E s:=by
 obtain ⟨hh,g,d,t,os⟩:=s;have L0:=I.type (M:=model prog w);have L1:=looks_findIn (M:=model prog w) X hga;have L2:=looks_findIn (M:=model prog w) X hgt;have hx2:(Value.builtin "BaseException.__getattribute__" == Value.builtin "object.__getattribute__")=false:=by decide +kernel
 unfold getAttr getAttrBy;refine wpAny_bind (wpAny_mkText (wpAny_holding (wpAny_bind (L0.at (wpAny_bind (L1.at ?_))))));dsimp only;rw [show (onTheHeap (Value.ref C) && Value.builtin "BaseException.__getattribute__" == Value.builtin "object.__getattribute__")=false by rw [hx2];rfl,if_neg zd];unfold getAttrByItsOwn hookBefore;rw [if_pos (show onTheHeap (Value.ref C)=true from rfl)];refine wpAny_bind (L2.at (wpAny_bind (wpAny_attempt (wpAny_holding ?_))));unfold callGetattribute;rw [show (expr && onTheHeap (Value.builtin "BaseException.__getattribute__"))=false by cases expr<;>rfl,if_neg zd];unfold boundAndCalled;rw [F.attr_ValueError.ga.bind];refine wpAny_bind (wpAny_pure ?_);show wpAny _ _ (call (.builtin "BaseException.__getattribute__") [.ref x,.str name t]) _ _ _;refine wpAny_call (codeAny_mono h fun r s' z=>?_);rcases r with e|(v|_|_|_)<;>first|exact z|exact z.elim
theorem xget_value {v:Value} {Q:Value->Shared->Prop} (X:K.In s.heap) (I:InstAt s.heap x ox C od) (hga:findIn K (.ref C) "__getattribute__"=some (some (.builtin "BaseException.__getattribute__"))) (hgt:findIn K (.ref C) "__getattr__"=some none)
  (hb:mroIn K C (.type "BaseException")=some true) (hf:findObj K C od name=some (.value v)) (hh:handedIn v=true) (h:Q v { s with toks:=s.toks+1 }):wpAny (model prog w) A (getAttr (.ref x) name expr) Q E s:=
 xget_open X I hga hgt (xga_run (s:={ s with toks:=s.toks+1 }) X I hb hf (handed_on hh h))
end
end XB
namespace XB
open PySem PySem.W PySem.Calls PyProof.Rows Builtin Builtin.ObjectAttr
section
variable {prog:Program} {w:World} {A:Around} {E:Value->Shared->Prop} {h:Heap} {g:Array GenState} {d:Drawn} {t:Nat} {os:OsState}
variable {nm q:Str} {C N x:Addr} {bs bm:List Value} {sn:List Str} {sub:List Value} {ab:Bool} {col:Option Bool} {dd:Option Addr} {k0 k1 k2 k3 k5:Option Value} {newId:String}
 {mA:Str->Option Value} {name:Str} {v:Value} {o:Obj}
def Tail (bm:List Value):Prop:=bm=bmV\/∃ R,bm=.ref R::bmV
theorem Tail.pass (T:Tail bm) (self:Value):refuseLoop self "__setattr__" bm=pure ():=by
 rcases T with rfl|⟨R,rfl⟩
 ·exact F.store_ValueError.passes self
 ·rw [refuseLoop_ref];exact F.store_ValueError.passes self
theorem Tail.has (T:Tail bm) (C:Addr) (n:String) (b:Bool) (e:bmV.contains (.type n)=b):(Value.ref C::bm).contains (.type n)=b:=by
 rcases T with rfl|⟨R,rfl⟩
 ·rw [List.contains_cons,e];rfl
 ·rw [List.contains_cons,List.contains_cons,e];rfl
theorem xstore_new {tk:Tok} {Q:Fin->Shared->Prop} (T:Tail bm) (hC:h.get? C=some (excClassObj nm q C N bs bm true sn sub ab col dd k0 k1 k2 k3 k5 newId)) (LN:Looks (model prog w) h (typeLookup (.ref C) name) none)
  (hx:h.get? x=some o) (hc:o.cls=.ref C) (hnc:∀ c,o.data≠.cls c) (hdn:o.dict=none)
  (hq:∀ h' tk',h'.get? x=some { cls:=o.cls,dict:=some h.objs.size,data:=o.data,slots:=o.slots }->h'.Ns1 h.objs.size (fun y=>if y=name then some v else none)->(∀ b ob,b≠x->h.get? b=some ob->h'.get? b=some ob)->Q (.done (.ret .none)) ⟨h',g,d,tk',os⟩) :
  wpAny (model prog w) A (Builtin.«object.__setattr__» ⟨[.ref x,.str name tk,v],[]⟩) Q E ⟨h,g,d,t,os⟩:=by
 have hpass:=T.pass (.ref x);unfold Builtin.«object.__setattr__»;repeat (first|rw [refuse_eq]|(rw [refuseLoop_ref,hpass])|(with_reducible refine wpAny_loadPart_at hx ?_;rw [hc])|with_reducible refine wpAny_mroOf_exc hC ?_|with_reducible refine LN.at ?_|wp_step)
 rw [hdn,if_neg (by simp [typeHasDict])];split
 ·rename_i hcd;cases hcd
 split
 ·rename_i c hcd;exact absurd hcd (hnc c)
 ·have hx₁:(h.push { cls:=.type "dict",data:=.dict #[] }).get? x=some o:=D6 _ hx;have hxs:x≠h.objs.size:=Es (Ed hx);refine wpAny_bind (wpAny_alloc' ?_);refine wpAny_bind (wpAny_update' hx₁ ?_);refine wpAny_pure ?_;have hgd:((h.push { cls:=.type "dict",data:=.dict #[] }).update x fun o=>{ cls:=o.cls,dict:=some h.objs.size,data:=o.data,slots:=o.slots }).get? h.objs.size
    = some { cls:=.type "dict",data:=.dict #[] }:=
   (Heap.get?_update_ne _ _ _ _ hxs.symm).trans (Heap.get?_push_at rfl rfl)
  have hnd:((h.push { cls:=.type "dict",data:=.dict #[] }).update x fun o=>{ cls:=o.cls,dict:=some h.objs.size,data:=o.data,slots:=o.slots }).Ns h.objs.size (fun _=>none):=
   ⟨_,#[],_,hgd,rfl,fun e he=>absurd he (by simp),fun _=>rfl⟩
  show wpAny _ _ (storeInDict h.objs.size (.str name tk) name v) _ _ _;unfold storeInDict newKeyGuard;refine wpAny_bind (wpAny_pure (wpAny_bind (wpAny_nsSet1 (Heap.Ns1.of_empty hnd) fun h' hn' hs=>?_)));obtain ⟨oD,esD,epD,hoD,hdD,hcD⟩:=hn'.count (Within.cons name v Within.nil);refine wpAny_bind (wpAny_lookBehind hoD (by rw [hdD];exact pastItsLine_dict (Ew hcD (by rw [Eh,E8,sizeLine_eq];lia))) ?_)
  wp_walk
  refine hq h' _ ?_ hn' (fun b ob hbx hb=>?_)
  ·refine (hs.2 x hxs).trans (Heap.get?_update_self _ hx₁ ?_);have hfr:=(Heap.get?_some_iff.mp hx).2;obtain ⟨oc,od,odt,osl⟩:=o;cases odt<;>first|rfl|exact hfr
  ·exact (hs.2 b (Es (Ed hb))).trans ((Heap.get?_update_ne _ _ _ _ hbx).trans (D6 _ hb))
theorem xstore_old {tk:Tok} {Q:Fin->Shared->Prop} {dx:Addr} {ns:List Str} (T:Tail bm) (hC:h.get? C=some (excClassObj nm q C N bs bm true sn sub ab col dd k0 k1 k2 k3 k5 newId)) (LN:Looks (model prog w) h (typeLookup (.ref C) name) none)
  (hx:h.get? x=some o) (hc:o.cls=.ref C) (hdx:o.dict=some dx) (hns:h.Ns1 dx mA) (hw:Within mA ns) (hsz:ns.length < sizeLine)
  (hq:∀ h' tk',h'.Ns1 dx (fun y=>if y=name then some v else mA y)->Heap.SameBut dx h h'->Q (.done (.ret .none)) ⟨h',g,d,tk',os⟩) :
  wpAny (model prog w) A (Builtin.«object.__setattr__» ⟨[.ref x,.str name tk,v],[]⟩) Q E ⟨h,g,d,t,os⟩:=by
 have hpass:=T.pass (.ref x);unfold Builtin.«object.__setattr__»;repeat (first|rw [refuse_eq]|(rw [refuseLoop_ref,hpass])|(with_reducible refine wpAny_loadPart_at hx ?_;rw [hc])|with_reducible refine wpAny_mroOf_exc hC ?_|with_reducible refine LN.at ?_|wp_step)
 rw [hdx];refine wpAny_pure ?_;show wpAny _ _ (storeInDict dx (.str name tk) name v) _ _ _;unfold storeInDict newKeyGuard;refine wpAny_bind (wpAny_pure (wpAny_bind (wpAny_nsSet1 hns fun h' hn' hs=>?_)));obtain ⟨oD,esD,epD,hoD,hdD,hcD⟩:=hn'.count (Within.cons name v hw);refine wpAny_bind (wpAny_lookBehind hoD (by rw [hdD];exact pastItsLine_dict (Ew hcD (by rw [Eh];lia))) ?_)
 wp_walk
 exact hq h' _ hn' hs
theorem xset_open {Q:Unit->Shared->Prop} {K:Frag} {od:Option Obj} (X:K.In h) (I:InstAt h x o C od) (hs:findIn K (.ref C) "__setattr__"=some (some (.builtin "object.__setattr__"))) (ho:mroIn K C (.type "object")=some true)
  (hq:∀ A',wpAny (model prog w) A' (Builtin.«object.__setattr__» ⟨[.ref x,.str name t,v],[]⟩) (fun f s'=>f=.done (.ret .none)/\Q () s') (fun _ _=>False) ⟨h,g,d,t+1,os⟩) :
  wpAny (model prog w) A (setAttr (.ref x) name v) Q E ⟨h,g,d,t,os⟩:=by
 refine set_plain X I hs ?_;refine codeAny_call_builtin F.store_ValueError.slot.plain F.store_ValueError.entry ?_;refine @check_slot (model prog w) _ _ ⟨h,g,d,t+1,os⟩ "object.__setattr__" "object" "__setattr__" (.ref x) [.str name t,v] [] _ F.store_ValueError.kind F.store_ValueError.split (I.type.andThen (looks_mroIn X ho)) (F.store_ValueError.args (.ref x) (.str name t) v) ?_;refine wpAny_mono (hq _) (fun f s' z=>?_) fun _ _ z=>z.elim;obtain ⟨rfl,z⟩:=z;exact z
theorem xcheck_new {M:Model} {rest:List Value} {Q:Unit->Shared->Prop} (T:Tail bm) (hC:h.get? C=some (excClassObj nm q C N bs bm true sn sub ab col dd k0 k1 k2 k3 k5 "ValueError.__new__"))
  (hq:Q () ⟨h,g,d,t,os⟩):wpAny M A (checkBuiltinCall "ValueError.__new__" ⟨.ref C::rest,[]⟩) Q E ⟨h,g,d,t,os⟩:=by
 have F:=F.excBase_ValueError;have hcont:=T.has C "ValueError" true zk;have hstar:=F.noStar;simp only [checkBuiltinCall,F.newKind,F.newSplit,F.newRow];repeat (first|refine wpAny_loadPart_at hC ?_|(refine wpAny_isSubtype_exc hC ?_;rw [hcont])|refine wpAny_staticBase_exc hC ?_|refine wpAny_madeBy_exc hC ?_|simp only [bne_self_eq_false,Bool.false_eq_true,if_false]|wp_step)
 exact hq
theorem xnew {R:Result->Shared->Prop} {rest:List Value} (T:Tail bm) (hC:h.get? C=some (excClassObj nm q C N bs bm true sn sub ab col dd k0 k1 k2 k3 k5 "ValueError.__new__"))
  (hq:R (.ok (.ret (.ref (h.objs.size+1)))) ⟨(h.push { cls:=.type "tuple",data:=.seq rest.toArray }).push
   { cls:=.ref C,data:=.fields #[.ref h.objs.size,.none,.none,.none,.bool false,.none] },g,d,t,os⟩) (hrest:rest.length<=sizeLine) :
  codeAny (model prog w) A (.builtin "ValueError.__new__" ⟨.ref C::rest,[]⟩) R ⟨h,g,d,t,os⟩:=by
 have F:=F.excBase_ValueError;have hends:=F.ends;have hcB:=T.has C "ValueError" true zk;have hcA:=T.has C "AttributeError" false zk;have hcN:=T.has C "NameError" false zk;refine codeAny_builtinAt F.entry ?_;unfold Builtin.«BaseException.__new__»;refine PySem.wpAt_bind ?_;show PySem.wpAt _ _ _ (stack >>= _) _ _ _;refine PySem.wpAt_bind (PySem.wpAt_stack fun p below=>PySem.wpAt_of_wpAny ?_)
 wp_walk
 refine PySem.wpAt_of_wpAny ?_;rw [F.owner];repeat (first|with_reducible refine wpAny_madeHere_exc F.canon hC ?_|with_reducible refine wpAny_loadPart_at hC ?_|(with_reducible refine wpAny_isSubtype_exc hC ?_;first|rw [hcB]|rw [hcA]|rw [hcN])|wp_step)
 show R _ _;rw [E7];exact hq
abbrev tupO (rest:List Value):Obj:={ cls:=.type "tuple",data:=.seq rest.toArray }
abbrev excO (C:Addr) (a:Addr):Obj:={ cls:=.ref C,data:=.fields #[.ref a,.none,.none,.none,.bool false,.none] }
theorem xmake_type {rest:List Value} {fI:Addr} {oI:Obj} {Q:Fin->Shared->Prop} (T:Tail bm) (hC:h.get? C=some (excClassObj nm q C N bs bm true sn sub ab col dd k0 k1 k2 k3 k5 "ValueError.__new__"))
  (LI:Looks (model prog w) h (typeLookup (.ref C) "__init__") (some (.ref fI))) (hfI:h.get? fI=some oI) (hfc:oI.cls=.type "function")
  (hq:wpAny (model prog w) A (call (.ref fI) (.ref (h.objs.size+1)::rest)) (fun r s'=>r=.none/\Q (.done (.ret (.ref (h.objs.size+1)))) s') E ⟨(h.push (tupO rest)).push (excO C h.objs.size),g,d,t,os⟩) (hrest:rest.length<=sizeLine) :
  wpAny (model prog w) A (Builtin.«type.__call__» ⟨.ref C::rest,[]⟩) Q E ⟨h,g,d,t,os⟩:=by
 have F:=F.excBase_ValueError;repeat (first|with_reducible refine wpAny_loadPart_at hC ?_|with_reducible refine wpAny_madeBy_exc hC ?_|wp_step)
 refine codeAny_call_builtin_code (Code.quiet_builtin _ F.quiet) (xcheck_new T hC ?_);refine xnew T hC ?_ hrest;show wpAny _ _ _ _ _ _;have kp:∀ b o,h.get? b=some o->((h.push (tupO rest)).push (excO C h.objs.size)).get? b=some o:=fun b o hb=>D6 _ (D6 _ hb);have hC₁:=kp _ _ hC;have hfI₁:=kp _ _ hfI;have hget:((h.push (tupO rest)).push (excO C h.objs.size)).get? (h.objs.size+1)=some (excO C h.objs.size):=by heap_get
 have hcC:(Value.ref C::bm).contains (.ref C)=true:=by simp
 unfold isInstance;repeat (first|with_reducible refine wpAny_loadPart_at hget ?_|(with_reducible refine wpAny_isSubtype_exc hC₁ ?_;rw [hcC])|wp_step)
 show wpAny _ _ (typeLookup (.ref C) _) _ _ _;refine LI _ _ _ _ kp ?_;refine wpAny_holding (wpAny_bind ?_);unfold bindSpecial;refine wpAny_bind (wpAny_typeOf (T:="function") ⟨_,hfI₁,hfc⟩ ?_);rw [if_pos zd];refine wpAny_pure (wpAny_bind (wpAny_mono hq (fun r s' hr=>?_) fun _ _ x=>x));obtain ⟨rfl,hQ⟩:=hr
 wp_walk
 exact hQ
theorem xmake {rest:List Value} {fI:Addr} {oI:Obj} {Q:Value->Shared->Prop} (T:Tail bm) (hC:h.get? C=some (excClassObj nm q C N bs bm true sn sub ab col dd k0 k1 k2 k3 k5 "ValueError.__new__"))
  (LI:Looks (model prog w) h (typeLookup (.ref C) "__init__") (some (.ref fI))) (hfI:h.get? fI=some oI) (hfc:oI.cls=.type "function")
  (hq:wpAny (model prog w) (A.under (.builtin "type.__call__" ⟨.ref C::rest,[]⟩)) (call (.ref fI) (.ref (h.objs.size+1)::rest)) (fun r s'=>r=.none/\Q (.ref (h.objs.size+1)) s') E ⟨(h.push (tupO rest)).push (excO C h.objs.size),g,d,t,os⟩)
  (hrest:rest.length<=sizeLine) :
  wpAny (model prog w) A (call (.ref C) rest) Q E ⟨h,g,d,t,os⟩:=by
 have f1:=tc_lookup;have f2:=tc_bind (.ref C);have hT:(⟨h,g,d,t,os⟩:Shared).TypeIs (.ref C) "type":=⟨_,hC,rfl⟩;refine wpAny_call (codeAny_of_tree ?_);show wpAny _ _ (callAny (.ref C) _) _ _ _;repeat (any_goals (first|assumption|with_reducible refine wpAny_loadPart_at hC ?_|wp_step))
 refine ⟨rfl,?_⟩;refine codeAny_call_builtin_at (Code.quiet_builtin _ zk) entry_typeCall (wpAny_check_type_call_sub hC (xmake_type T hC LI hfI hfc ?_ hrest));exact hq
end
end XB
namespace XB
open PySem PySem.W PySem.Calls PyProof.Rows Builtin Builtin.ObjectAttr
section
variable {prog:Program} {w:World} {A:Around} {E:Value->Shared->Prop} {h:Heap} {g:Array GenState} {d:Drawn} {t:Nat} {os:OsState}
variable {nm q:Str} {C N x:Addr} {bs bm:List Value} {sn:List Str} {sub:List Value} {ab:Bool} {col:Option Bool} {dd:Option Addr} {k0 k1 k2 k3 k5:Option Value} {newId:String}
 {mA:Str->Option Value} {name:Str} {v:Value} {o:Obj}
theorem xinit {R:Result->Shared->Prop} {rest:List Value} {vs:Array Value} {a0:Addr} (T:Tail bm) (hC:h.get? C=some (excClassObj nm q C N bs bm true sn sub ab col dd k0 k1 k2 k3 k5 newId)) (hx:h.get? x=some o) (hc:o.cls=.ref C)
  (hd:o.data=.fields vs) (h0:vs[0]?=some (.ref a0)) (hrest:rest.length<=sizeLine)
  (hq:∀ h' vs',(∀ b ob,b≠x->h.get? b=some ob->h'.get? b=some ob)->h'.get? x=some { cls:=o.cls,dict:=o.dict,data:=.fields vs',slots:=o.slots }->(∃ a,vs'[0]?=some (.ref a)/\vs'[1]?=vs[1]?)->R (.ok (.ret .none)) ⟨h',g,d,t,os⟩) :
  codeAny (model prog w) A (.call (.builtin "ValueError.__init__") ⟨.ref x::rest,[]⟩) R ⟨h,g,d,t,os⟩:=by
 have F:=F.excBase_ValueError;have hcB:=T.has C "ValueError" true zk;have hshort:=F.noStar;refine codeAny_call_builtin F.init.plain F.initEntry ?_;simp only [checkBuiltinCall,F.initKind,F.initSplit,F.initRow];repeat (first|(with_reducible refine wpAny_loadPart_at hx ?_;rw [hc])|(with_reducible refine wpAny_isSubtype_exc hC ?_;rw [hcB])|wp_step)
 refine wpAny_onRaise ?_;rw [show ∀ (a b:String) (n:Nat),Bind.check ⟨.positional,"*","ValueError",.self,[⟨"args",.varPos,false⟩]⟩ a b n (List.map (fun x=>x.fst) ({ pos:=Value.ref x::rest }:Args).kw)=pure () from
  fun a b n=>check_star_args _ _ _ _ _ _]
 refine wpAny_pure ?_
 wp_walk
 rw [hd];repeat (any_goals (first|assumption|rw [h0]|wp_step))
 rw [hd];have hsz:0 < vs.size:=by
  have:=(Array.getElem?_eq_some_iff.mp h0).1;exact this
 dsimp only;rw [if_pos hsz];have hx₁:(h.push (tupO rest)).get? x=some o:=D6 _ hx;refine wpAny_update' hx₁ ?_;repeat (any_goals (first|assumption|wp_step))
 have hfr:=(Heap.get?_some_iff.mp hx).2;refine hq _ (vs.setIfInBounds 0 (.ref h.objs.size)) (fun b ob hb e=>?_) ?_ ⟨h.objs.size,?_,?_⟩
 ·rw [Heap.get?_update_ne _ _ _ _ hb];exact D6 _ e
 ·rw [Heap.get?_update_self _ hx₁ (by obtain ⟨oc,od,odt,osl⟩:=o;cases hd;rfl)];obtain ⟨oc,od,odt,osl⟩:=o;cases hd;rfl
 ·simp [hsz]
 ·exact Array.getElem?_setIfInBounds_ne zd
variable {K:Frag}
theorem val_cls:findCls K (.type "ValueError") (.type "type") "__init__"=some (.val (.builtin "ValueError.__init__")):=by rfl
variable {M:Model}
theorem val_opaque:Looks M h (opaqueClassAbove (.type "ValueError")) none:=Looks.of_pure (by kernel_rfl)
theorem val_type:Looks M h (typeOf (.type "ValueError")) (.type "type"):=Looks.of_pure (by kernel_rfl)
variable {Q:Value×List Value->Shared->Prop} {s:Shared}
theorem val_method {pl:Sem Bool} (X:K.In s.heap) (hq:Q (.builtin "ValueError.__init__",[]) { s with toks:=s.toks+1 }) :
  wpAny (model prog w) A (getMethod (.type "ValueError") "__init__" pl) Q E s:=by
 unfold getMethod specialOf;refine wpAny_bind (wpAny_bind (val_type.here ?_));have L:Looks (model prog w) s.heap (typeLookup (.type "type") "__getattribute__") (some (.builtin "type.__getattribute__")):=Looks.of_pure KF.slot_tga.lookup;refine L.here ?_;dsimp only;rw [if_pos canon_tga];refine wpAny_bind (cls_open (K:=K) (mc:=.type "type") (hook:=none) X val_opaque val_type (by rfl) (looks_hook X (by rfl)) (by rfl) val_cls ?_);exact wpAny_pure (handed_on rfl (wpAny_pure hq))
theorem own_method {pl:Sem Bool} {f C:Addr} {name:Str} {Q:Value×List Value->Shared->Prop} (X:K.In s.heap) (hr:readsIn K C (.type "type")=true) (hf:findCls K (.ref C) (.type "type") name=some (.val (.ref f)))
  (hq:Q (.ref f,[]) { s with toks:=s.toks+1 }):wpAny (model prog w) A (getMethod (.ref C) name pl) Q E s:=by
 have hs:specialIn K (.ref C) "__getattribute__"=some (some (.builtin "type.__getattribute__")):=by
  have hr':=hr;simp only [readsIn,EA,beq_iff_eq] at hr';obtain ⟨⟨⟨⟨a,b⟩,c'⟩,d⟩,f⟩:=hr';unfold specialIn;rw [b,Option.bind_some];exact c'
 exact method_cls X hs (cls_value X hr hf rfl hq)
end
end XB
namespace L2
open PySem PySem.Spec PyProof.Rows
def XO (e C:Addr) (d:Option Addr) (r:Bool) (h:Heap):Prop:=∃ (vs:Array Value) (a0:Addr),h.get? e=some { cls:=.ref C,dict:=d,data:=.fields vs }/\vs[0]?=some (.ref a0)/\(r=false->vs[1]?=some .none)
def DX (dx:Addr) (fs:List (Str×V)) (h:Heap):Prop:=∃ mA,h.Ns1 dx mA/\(∀ f,RelO (fs.lookup f) (mA f))/\PySem.Within mA (fs.map (·.1))
def XAt (H:Hp) (e C:Addr) (d:Option Addr) (r:Bool) (fs:List (Str×V)):Prop:=H e=some (.ext (XO e C d r))/\fs.length<=1000/\match d with|none=>fs=[]|some dx=>dx≠e/\H dx=some (.ext (DX dx fs))
structure XC (K:ZF) (C:Addr) (nm:Str) (bm:List Value):Prop where
 tl:XB.Tail bm
 obj:∃ q N bs sn sub ab col dd k0 k1 k2 k3 k5,K.lookup C=some (excClassObj nm q C N bs bm true sn sub ab col dd k0 k1 k2 k3 k5 "ValueError.__new__")
 ga:PySem.W.findIn K (.ref C) "__getattribute__"=some (some (.builtin "BaseException.__getattribute__"))
 gt:PySem.W.findIn K (.ref C) "__getattr__"=some none
 sa:PySem.W.findIn K (.ref C) "__setattr__"=some (some (.builtin "object.__setattr__"))
 cl:PySem.W.findIn K (.ref C) "__class__"=some (some (.builtin "object.__class__"))
section
variable {K:ZF} {C:Addr} {nm:Str} {bm:List Value}
theorem XC.clsIn (c:XC K C nm bm):∃ cd,PySem.W.clsIn K C=some cd/\cd.mro=.ref C::bm/\cd.hasDict=true:=by
 obtain ⟨q,N,bs,sn,sub,ab,col,dd,k0,k1,k2,k3,k5,l⟩:=c.obj;refine ⟨_,by unfold PySem.W.clsIn;rw [l],rfl,rfl⟩
theorem XC.mro (c:XC K C nm bm) (n:String) (b:Bool) (e:XB.bmV.contains (.type n)=b):PySem.W.mroIn K C (.type n)=some b:=by
 obtain ⟨cd,h,m,_⟩:=c.clsIn;unfold PySem.W.mroIn;rw [h,Option.bind_some,m];show (if false=true then _ else _)=_;rw [if_neg zd,c.tl.has C n b e]
end
section
variable {X:Cx} {pins:List (Addr×Obj)} {σ:St} {H:Hp} {s:Shared} {e C dx:Addr} {d:Option Addr} {rr:Bool} {nm:Str} {bm:List Value} {fs:List (Str×V)} {f:Str} {v:V} {A:Around} {E:Value->Shared->Prop}
theorem XAt.obj (x:XAt H e C d rr fs) (I:Inv X pins σ H s):∃ (vs:Array Value) (a0:Addr),s.heap.get? e=some { cls:=.ref C,dict:=d,data:=.fields vs }/\vs[0]?=some (.ref a0)/\(rr=false->vs[1]?=some .none):=by
 obtain ⟨p,_,_⟩:=(show ObjOk X.prog X.w H s.heap e (.ext (XO e C d rr)) from I.hok e _ x.1);exact p
theorem XAt.dict (x:XAt H e C (some dx) rr fs) (I:Inv X pins σ H s):∃ mA,s.heap.Ns1 dx mA/\(∀ f,RelO (fs.lookup f) (mA f))/\PySem.Within mA (fs.map (·.1)):=by
 obtain ⟨_,_,_,h⟩:=x;obtain ⟨p,_,_⟩:=(show ObjOk X.prog X.w H s.heap dx (.ext (DX dx fs)) from I.hok dx _ h);exact p
theorem rV {b:Bool} {Q:Value->Shared->Prop} (I:Inv X pins σ H s) (x:XAt H e C (some dx) rr fs) (c:XC X.K C nm bm) (n:NoAttr X.K C f) (l:fs.lookup f=some v)
  (h:∀ u s',Inv X pins σ H s'->RelV v u->Q u s'):wpAny (model X.prog X.w) A (getAttr (.ref e) f b) Q E s:=by
 obtain ⟨mA,ns,r,_⟩:=x.dict I;obtain ⟨vs,a0,ho,_⟩:=x.obj I;obtain ⟨u,hu,ru⟩:=RelO.some_of (v:=v) (o:=mA f) (by rw [<-l];exact r f);obtain ⟨od,hd,lk⟩:=hJ ns;obtain ⟨cd,hc,m,hh⟩:=c.clsIn;have hf:PySem.W.findObj X.K C (some od) f=some (.value u):=by
  unfold PySem.W.findObj;rw [hc,Option.bind_some,show PySem.W.findIn X.K (.ref C) f=some none from n,Option.bind_some];show ((PySem.W.ownOf cd (some od) f).bind _)=_;have ho:PySem.W.ownOf cd (some od) f=some (some u):=by
   unfold PySem.W.ownOf;rw [hh,if_pos rfl];show PySem.W.lookIn f od=_;rw [lk f,hu]
  rw [ho];rfl
 exact XB.xget_value I.kIn (ox:={ cls:=.ref C,dict:=some dx,data:=.fields vs }) (od:=some od) ⟨ho,rfl,rfl,hd⟩ c.ga c.gt (c.mro "BaseException" true zk) hf (jZ ru) (h u _ (I.tok _) ru)
variable {φ:Heap->Prop}
theorem Inv.two {h':Heap} {t':Nat} {D:Addr} {o1 o2:HO} (I:Inv X pins σ H s) (he:H e=some (.ext φ)) (hD:s.heap.objs.size<=D) (k:∀ b u,b≠e->s.heap.get? b=some u->h'.get? b=some u) (heo:∃ u,h'.get? e=some u)
  (n1:ObjOk X.prog X.w (upd (upd H e o1) D o2) h' e o1) (n2:ObjOk X.prog X.w (upd (upd H e o1) D o2) h' D o2):Inv X pins σ (upd (upd H e o1) D o2) { s with heap:=h',toks:=t' }:=by
 have hn:=I.hok.fresh hD;have neD:e≠D:=aq he hn;have old:∀ b o,H b=some o->b≠e->upd (upd H e o1) D o2 b=some o:=fun b o hb ne=>by rw [aj (aq hb hn),aj ne];exact hb
 have nt:∀ b o,H b=some o->(∀ ψ,o≠.ext ψ)->b≠e:=fun b o hb ne z=>by
  rw [z,he] at hb;exact ne _ (Ey hb).symm
 refine I.un ⟨?_,?_,?_,?_,?_,?_,?_⟩ ?_
 ·intro b o q hb _ _;exact k b o (fun z=>by rw [z,he] at hb;cases hb) q
 ·intro b o q hb _ _;exact ⟨o.slots,k b o (fun z=>by rw [z,he] at hb;cases hb) q⟩
 ·intro b o q hb _;have h1:b≠e:=fun z=>by rw [z,he] at hb;cases hb
  have h2:b≠D:=fun z=>by
   rw [z] at q;exact absurd (Ed q) (Nat.not_lt_of_le hD)
  rw [aj h2,aj h1];exact hb
 ·intro b o q _;by_cases z:b=e
  ·rw [z];exact heo
  ·exact ⟨o,k b o z q⟩
 ·intro b xs hb;exact old b _ hb (nt b _ hb (fun ψ z=>nomatch z))
 ·intro b o u hb;exact old b _ hb (nt b _ hb (fun ψ z=>nomatch z))
 ·intro b ps hb;refine ⟨#[],?_⟩;rw [Array.append_empty];exact old b _ hb (nt b _ hb (fun ψ z=>nomatch z))
 ·intro a o ha;by_cases hd:a=D
  ·subst hd;rw [ae] at ha;cases ha;exact n2
  ·rw [aj hd] at ha;by_cases hx:a=e
   ·subst hx;rw [ae] at ha;cases ha;exact n1
   ·rw [aj hx] at ha;refine (I.hok a o ha).stay (fun b u hb q=>k b u ?_ q) (fun b hb=>old b _ hb (nt b _ hb (fun ψ z=>nomatch z))) (fun b xs hb=>old b _ hb (nt b _ hb (fun ψ z=>nomatch z)));rcases hb with rfl|hb
    ·exact hx
    ·exact nt b _ hb (fun ψ z=>nomatch z)
structure Bi (H H':Hp) (e C:Addr) (d:Option Addr) (r:Bool) (d':Addr) (fs:List (Str×V)):Prop where
 at_:XAt H' e C (some d') r fs
 keep:∀ b o,H b=some o->b≠e->some b≠d->H' b=some o
 new:d=none->H d'=none
 old:∀ dx,d=some dx->d'=dx
theorem gC {P:Program} {w:World} {h:Heap} {a:Addr} (p:φ h) (o:∃ o,h.get? a=some o) (st:∀ h1 h2:Heap,φ h1->(∀ o,h1.get? a=some o->h2.get? a=some o)->φ h2):ObjOk P w H h a (.ext φ):=⟨p,o,st⟩
theorem XO.stay {r:Bool}:∀ h1 h2:Heap,XO e C d r h1->(∀ o,h1.get? e=some o->h2.get? e=some o)->XO e C d r h2:=fun h1 h2 ⟨vs,a0,h,z⟩ k=>⟨vs,a0,k _ h,z⟩
theorem DX.stay {fs:List (Str×V)}:∀ h1 h2:Heap,DX dx fs h1->(∀ o,h1.get? dx=some o->h2.get? dx=some o)->DX dx fs h2:=fun h1 h2 ⟨mA,n,r⟩ k=>⟨mA,n.at k,r⟩
variable {y:V} {u:Value} {mA:Str->Option Value}
theorem qG (r:∀ f,RelO (fs.lookup f) (mA f)) (ry:RelV y u) (g:Str):RelO ((aJ f y fs).lookup g) (if g=f then some u else mA g):=by
 rw [eV];by_cases q:g=f
 ·rw [if_pos q,if_pos q];exact ry
 ·rw [if_neg q,if_neg q];exact r g
theorem jy (wi:PySem.Within mA (fs.map (·.1))):PySem.Within (fun g=>if g=f then some u else mA g) ((aJ f y fs).map (·.1)):=fun g hg=>by
 by_cases q:g=f
 ·rw [q];exact (dP f y fs).1
 ·refine (dP f y fs).2 g (wi g fun z=>hg ?_);show (if g=f then some u else mA g)=none;rw [if_neg q];exact z
theorem rW {Q:Unit->Shared->Prop} (I:Inv X pins σ H s) (x:XAt H e C d rr fs) (c:XC X.K C nm bm) (n:NoAttr X.K C f) (hl:fs.length < 1000) (ry:RelV y u)
  (h:∀ s' H' d',Inv X pins σ H' s'->Bi H H' e C d rr d' (aJ f y fs)->Q () s'):wpAny (model X.prog X.w) A (setAttr (.ref e) f u) Q E s:=by
 obtain ⟨q0,N,bs,sn,sub,ab,col,dd,k0,k1,k2,k3,k5,lk⟩:=c.obj;have hC:=I.kIn _ _ lk;have LN:=PySem.W.looks_findIn (M:=model X.prog X.w) I.kIn (show PySem.W.findIn X.K (.ref C) f=some none from n);obtain ⟨vs,a0,ho,hv0⟩:=x.obj I;have hl2:(aJ f y fs).length<=1000:=by have:=eX f y fs;lia
 obtain ⟨hh,g,dr,t,os⟩:=s;cases d with
 | none=>
  have hfs:fs=[]:=x.2.2;subst hfs;refine XB.xset_open (o:={ cls:=.ref C,dict:=none,data:=.fields vs }) (od:=none) I.kIn ⟨ho,rfl,rfl,True.intro⟩ c.sa (c.mro "object" true zk) fun A'=>?_;refine XB.xstore_new c.tl hC LN ho rfl (fun c z=>nomatch z) rfl fun h' tk' hx' hn' hk=>⟨rfl,?_⟩;have neD:e≠hh.objs.size:=Es (Ed ho);have nD:H hh.objs.size=none:=I.hok.fresh (Ec _);refine h _ _ hh.objs.size (Inv.two (o1:=.ext (XO e C (some hh.objs.size) rr)) (o2:=.ext (DX hh.objs.size (aJ f y []))) I x.1 (Ec _) hk ⟨_,hx'⟩ ?_ ?_) ⟨⟨?_,hl2,neD.symm,ae⟩,?_,fun _=>nD,(fun dx z=>nomatch z)⟩
  ·exact gC ⟨vs,a0,hx',hv0⟩ ⟨_,hx'⟩ XO.stay
  ·refine gC ⟨_,hn',qG (mA:=fun _=>none) (fs:=[]) (fun _=>True.intro) ry,jy (mA:=fun _=>none) (fs:=[]) (fun g hg=>absurd rfl hg)⟩ ?_ DX.stay;obtain ⟨o',_,_,e1,_⟩:=hn';exact ⟨o',e1⟩
  ·rw [aj neD,ae]
  ·intro b o hb ne _;rw [aj (aq hb nD),aj ne];exact hb
 | some dx=>
  obtain ⟨mA,ns,r,wi⟩:=x.dict I;obtain ⟨od,hd,_⟩:=hJ ns;obtain ⟨x1,x2,x3,x4⟩:=x;refine XB.xset_open (o:={ cls:=.ref C,dict:=some dx,data:=.fields vs }) (od:=some od) I.kIn ⟨ho,rfl,rfl,hd⟩ c.sa (c.mro "object" true zk) fun A'=>?_;refine XB.xstore_old c.tl hC LN ho rfl rfl ns wi (by rw [D8,sizeLine_eq];lia) fun h' tk' hn' sb=>⟨rfl,?_⟩;have hd':∃ o,h'.get? dx=some o:=let ⟨o,_,_,e',_⟩:=hn';⟨o,e'⟩;refine h _ _ dx (I.write (o:=.ext (DX dx (aJ f y fs))) (x:=dx) (e:=dx) (by rw [x4];exact True.intro) (.inl rfl) (fun b q hb z=>(sb.2 b hb).trans z) hd' ?_) ⟨⟨by rw [aj x3.symm];exact x1,hl2,x3,ae⟩,?_,(fun z=>nomatch z),fun _ z=>Ey z⟩
  ·exact gC ⟨_,hn',qG r ry,jy wi⟩ hd' DX.stay
  ·intro b o hb _ ne;rw [aj (fun z=>ne (by rw [z]))];exact hb
end
section
variable {X:Cx} {o e value:Expr} {f:Str} {pos pos' tpos:Pos} {ta tv:TE}
def yh (K:ZF) (ta:TE) (f:Str):TE:=fun σ H Q=>ta σ H fun x H1=>∃ a C dx r fs nm bm v,x=.ref a/\XAt H1 a C (some dx) r fs/\XC K C nm bm/\NoAttr K C f/\fs.lookup f=some v/\Q v H1
theorem w6 (he:PE X e ta) (hb:attributeBase e f X.env (eval e X.env)=eval e X.env):PE X (.Attribute e f pos) (yh X.K ta f):=by
 refine ⟨?_⟩;intro pins s σ H Q I h;refine qd hb (bG (he pins s σ H _ I h) fun u s1 ⟨x,H1,I1,rx,a,C,dx,r0,fs,nm,bm,v,ex,ea,c,n,l,q⟩=>?_);subst ex;obtain rfl:u=Value.ref a:=rx;exact rV I1 ea c n l fun u' s2 I2 ru=>⟨v,H1,I2,ru,q⟩
def Bj (K:ZF) (ta tv:TE) (f:Str):TS:=fun D σ H=>tv σ H fun y H1=>ta σ H1 fun x H2=>∃ a C d r fs nm bm,x=.ref a/\XAt H2 a C d r fs/\XC K C nm bm/\NoAttr K C f/\fs.length < 1000 /\
 ∀ H3 d',Bi H2 H3 a C d r d' (aJ f y fs)->D.nx σ H3
theorem lE (ha:PE X o ta) (hv:PE X value tv) (hs:swapsWith value (some (.Attribute o f pos')) pos.line X.env=pure false:=by rfl):PS X (.Assign [.Attribute o f pos'] value pos) (Bj X.K ta tv f):=by
 refine ⟨?_⟩;intro pins s σ H D I h;refine plainObj_wpAny_Assign_Attribute (bG (hv pins s σ H _ I h) fun u s1 ⟨y,H1,I1,ry,q⟩=>bG (ha pins s1 σ H1 _ I1 q) fun ov s2 ⟨x,H2,I2,rx,a,C,d,r0,fs,nm,bm,ex,ea,c,n,l,q2⟩=>?_) hs;subst ex;obtain rfl:ov=Value.ref a:=rx;exact rW I2 ea c n l ry fun s3 H3 d' I3 xs=>⟨σ,_,I3,q2 H3 d' xs⟩
end
section
variable {X:Cx} {CX:qe} {k:Nat} {f C:Addr} {fd:FuncData} {ps:List Str} {sp:Sp} {E:XK} {x m:Str} {p pos apos:Pos} {e o:Expr} {es:List Expr} {ta:TE} {t:TA} {nm:Str} {bm:List Value}
def uN (C:Addr) (sp:Sp) (E:XK) (t:TA):TE:=fun σ H Q=>t σ H fun vs H1=>∀ a,H1 a=none->sp (.ref a::vs) (upd H1 a (.ext (XO a C none false))) (fun v H2=>v=.non/\Q (.ref a) H2) E
structure C5 (K:ZF) (C f:Addr):Prop where
 init:PySem.W.findIn K (.ref C) "__init__"=some (some (.ref f))
 fn:PySem.W.isFn K (.ref f)=true
 kp:PySem.W.keepIn K (.ref C)=true
theorem rX {pins:List (Addr×Obj)} {σ:St} {H:Hp} {s:Shared} {Q:VK} {us:List Value} {vs:List V} (c:XC X.K C nm bm) (M:C5 X.K C f) (F:FnOk X.prog X.w X.K X.mg X.base CX k f fd ps sp) (hr:Room (k+1) X.A) (hb:Binds X.K fd ps [])
  (hx:dC CX X E) (hps:ps.length<=1000) (I:Inv X pins σ H s) (r:Vals vs us)
  (h:∀ a,H a=none->sp (.ref a::vs) (upd H a (.ext (XO a C none false))) (fun v H2=>v=.non/\Q (.ref a) H2) E) :
  wpAny (model X.prog X.w) X.A (call (.ref C) us) (EP X pins σ Q) X.xe s:=by
 obtain ⟨q0,N,bs,sn,sub,ab,col,dd,k0,k1,k2,k3,k5,lk⟩:=c.obj;have hC:=I.kIn _ _ lk;have LI:=PySem.W.looks_findIn (M:=model X.prog X.w) I.kIn M.init;obtain ⟨oI,hfI,hfc⟩:∃ oI,s.heap.get? f=some oI/\oI.cls=.type "function":=by
  have ht:PySem.W.typeIn X.K (.ref f)=some (.type "function"):=beq_iff_eq.mp M.fn;obtain ⟨o,ho,hc⟩:=Option.map_eq_some_iff.mp ht;exact ⟨o,I.kIn _ _ ho,hc⟩
 have hq:=h (s.heap.objs.size+1) (I.hok.fresh (Nat.le_succ _));have r2:Vals (V.ref (s.heap.objs.size+1)::vs) (Value.ref (s.heap.objs.size+1)::us):=.cons rfl r;have hl:(Value.ref (s.heap.objs.size+1)::us).length=ps.length:=by
  have e:=r2.length;rw [F.len _ _ _ _ hq] at e;exact e.symm
 have kp:∀ b o,s.heap.get? b=some o->((s.heap.push (XB.tupO us)).push (XB.excO C s.heap.objs.size)).get? b=some o:=fun b o hb=>D6 _ (D6 _ hb);have hget:((s.heap.push (XB.tupO us)).push (XB.excO C s.heap.objs.size)).get? (s.heap.objs.size+1)=some (XB.excO C s.heap.objs.size):=by
  have:=El (s.heap.push (XB.tupO us)) (o:=XB.excO C s.heap.objs.size) rfl
  rwa [E7] at this
 have I2:=I.laid (a:=s.heap.objs.size+1) (o:=.ext (XO (s.heap.objs.size+1) C none false)) (t':=s.toks) kp (Nat.le_succ _) (gC ⟨_,s.heap.objs.size,hget,rfl,fun _=>rfl⟩ ⟨_,hget⟩ XO.stay);have hus:us.length<=sizeLine:=by
  rw [Eh] at hl;rw [sizeLine_eq];lia
 obtain ⟨hh,g,d,t,os⟩:=s;refine XB.xmake c.tl hC LI hfI hfc (wpAny_call (codeAny_mono (F.run _ X.stack _ _ ⟨Value.ref (hh.objs.size+1)::us,[]⟩ (Value.ref (hh.objs.size+1)::us) _ _ E (hr.make C us []) (I2.env0.make C us []) (by
  have:=hb ⟨(hh.push (XB.tupO us)).push (XB.excO C hh.objs.size),g,d,t,os⟩ (Value.ref (hh.objs.size+1)::us) I2.kIn (by rw [EC];exact hl);rw [EC] at this;exact this) r2 hq) fun r s' hq'=>?_)) hus
 cases r with
 | error e=>exact hx pins σ _ _ e s' I2 hq'
 | ok fl=>
  cases fl with
  | ret u=>
   obtain ⟨v,H',I3,rv,ev,q3⟩:=I2.after hq';subst ev;exact ⟨rv,⟨V.ref (hh.objs.size+1),H',I3,rfl,q3⟩⟩
  | next=>exact False.elim hq'
  | brk=>exact False.elim hq'
  | cont=>exact False.elim hq'
theorem dc (c:XC X.K C nm bm) (M:C5 X.K C f) (F:FnOk X.prog X.w X.K X.mg X.base CX k f fd ps sp) (hr:Room (k+1) X.A) (hg:Gl X x) (hm:X.mg x=some (.ref C)) (hb:Binds X.K fd ps []) (hx:dC CX X E) (hps:ps.length<=1000)
  (ha:PA X (e::es) t) (hdb:(x == ("__debug__":Str))=false:=by decide) (he:starEach (e::es) X.env=(false,eval e X.env)::starEach es X.env:=by rfl) (hpl:(backTo pos (starEach es X.env)).any (·.1)=false:=by rfl) :
  PE X (.Call (.Name x p) (e::es) [] pos) (uN C sp E t):=by
 refine ⟨?_⟩;intro pins s σ H Q I h;refine wpAny_Call_Name_kw (dF I hg hm ?_ hdb);refine EX (h₀:=X.base) I.ok.mod.kin M.kp (bG (ha pos pins s σ H _ I h) fun us s1 ⟨vs,H1,I1,r,q⟩=>⟨I1.kIn,?_⟩) he hpl;exact rX c M F hr hb hx hps I1 r q
structure yi (K:ZF) (C:Addr) (m:Str) (f:Addr):Prop where
 rd:PySem.W.readsIn K C (.type "type")=true
 at_:PySem.W.findCls K (.ref C) (.type "type") m=some (.val (.ref f))
 kp:PySem.W.keepIn K (.ref f)=true
theorem uO {pl:Sem Bool} (M:yi X.K C m f) (F:FnOk X.prog X.w X.K X.mg X.base CX k f fd ps sp) (hr:Room k X.A) (hg:Gl X x) (hm:X.mg x=some (.ref C)) (hb:Binds X.K fd ps []) (hx:dC CX X E) (ha:PA X (e::es) t)
  (hdb:(x == ("__debug__":Str))=false:=by decide) (hst:starEach (e::es) X.env=(false,eval e X.env)::starEach es X.env:=by rfl) (hpl:(backTo pos (starEach es X.env)).any (·.1)=false:=by rfl)
  (ht:eval (.Call (.Attribute (.Name x p) m apos) (e::es) [] pos) X.env=(do
   let ov <-eval (.Name x p) X.env
   standAt apos.atName
   let (f,first) <-holding [ov] (getMethod ov m pl)
   callWith pos f first (backTo pos (starEach (e::es) X.env)) (backToKw pos (keywordEach [] X.env))):=by rfl) :
  PE X (.Call (.Attribute (.Name x p) m apos) (e::es) [] pos) (sP sp [] E t):=by
 refine ⟨?_⟩;intro pins s σ H Q I h;refine PySem.W.methodCall_KW (pl:=pl) (bG (bD (v:=.ref C) hg hm rfl hdb pins s σ H (fun v H1=>v=.ref C/\H1=H) I ⟨rfl,rfl⟩) fun u s1 ⟨xx,H1,I1,rx,ex,eh⟩=>?_) ht;subst ex eh;obtain rfl:u=Value.ref C:=rx;refine XB.own_method I1.kIn M.rd M.at_ ?_;refine EX (first:=[]) (h₀:=X.base) I.ok.mod.kin M.kp (bG (ha pos pins _ σ H1 _ (I1.tok _) h) fun us s2 ⟨vs,H2,I2,r,q2⟩=>⟨I2.kIn,?_⟩) hst hpl;exact jb (us:=us) (vs:=vs) (ds:=[]) (dvs:=[]) F hr hb .nil hx I2 r q2
theorem uP {H:Hp} {a:Addr} {o:HO} (h:H a=some o):upd H a o=H:=by
 funext b;unfold upd;by_cases z:b=a
 ·rw [if_pos z,z,h]
 ·rw [if_neg z]
def Bk (K:ZF) (t:TA):TE:=fun σ H Q=>t σ H fun vs H1=>∃ a rest C d r fs nm bm,vs=.ref a::rest/\rest.length<=1000/\XAt H1 a C d r fs/\XC K C nm bm/\Q .non H1
theorem w8 {pl:Sem Bool} (hg:Gl X "ValueError") (hm:X.mg "ValueError"=none) (ha:PA X (e::es) t)
  (hst:starEach (e::es) X.env=(false,eval e X.env)::starEach es X.env:=by rfl) (hpl:(backTo pos (starEach es X.env)).any (·.1)=false:=by rfl)
  (ht:eval (.Call (.Attribute (.Name "ValueError" p) "__init__" apos) (e::es) [] pos) X.env=(do
   let ov <-eval (.Name "ValueError" p) X.env
   standAt apos.atName
   let (f,first) <-holding [ov] (getMethod ov "__init__" pl)
   callWith pos f first (backTo pos (starEach (e::es) X.env)) (backToKw pos (keywordEach [] X.env))):=by rfl) :
  PE X (.Call (.Attribute (.Name "ValueError" p) "__init__" apos) (e::es) [] pos) (Bk X.K t):=by
 refine ⟨?_⟩;intro pins s σ H Q I h;have hv:bootBuiltins "ValueError"=some (.type "ValueError"):=by decide +kernel
 refine PySem.W.methodCall_KW (pl:=pl) (bG (pe_ty (n:="ValueError") hg hm hv zd zd pins s σ H (fun v H1=>v=.ty "ValueError"/\H1=H) I ⟨rfl,rfl⟩) fun u s1 ⟨xx,H1,I1,rx,ex,eh⟩=>?_) ht;subst ex eh;obtain rfl:u=Value.type "ValueError":=rx;refine XB.val_method I1.kIn ?_;refine PyProof.Rows.callWith_builtin1 (bG (ha pos pins _ σ H1 _ (I1.tok _) h) fun us s2 ⟨vs,H2,I2,r,a,rest,C,d,r0,fs,nm,bm,ev,hz,x,c,q2⟩=>?_) hst hpl;subst ev;cases r with
 | @cons _ u _ us' r0 rr=>
  obtain rfl:u=Value.ref a:=r0;obtain ⟨q0,N,bs,sn,sub,ab,col,dd,k0,k1,k2,k3,k5,lk⟩:=c.obj;have hC:=I2.kIn _ _ lk;obtain ⟨vv,a0,ho,hv0,hv1⟩:=x.obj I2;have hl:=rr.length;obtain ⟨hh,g,d',t',os⟩:=s2;refine wpAny_call (XB.xinit c.tl hC ho rfl rfl hv0 (by rw [sizeLine_eq];lia) fun h' vs' hk hx' ⟨a1,h1,h2⟩=>?_);have I3:=I2.write (o:=.ext (XO a C d r0)) (x:=a) (e:=a) (t':=t') (by rw [x.1];exact True.intro) (.inl rfl) (fun b q hb z=>hk b q hb z) ⟨_,hx'⟩ (gC ⟨vs',a1,hx',h1,fun z=>h2.trans (hv1 z)⟩ ⟨_,hx'⟩ XO.stay);rw [uP x.1] at I3;exact ⟨.non,H2,I3,rfl,q2⟩
end
def ExT (e C:Addr) (d:Option Addr) (T:Addr) (fl:Value) (h:Heap):Prop:=
 ∃ (vs:Array Value) (a0:Addr) (oT:Obj) (ts:Array Value),h.get? e=some { cls:=.ref C,dict:=d,data:=.fields vs }/\vs[0]?=some (.ref a0)/\vs[1]?=some (.ref T)/\T≠e/\h.get? T=some oT/\oT.data=.fields ts/\ts[3]?=some fl
structure Wr (fs:List Addr) (e T:Addr) (h h':Heap):Prop where
 keep:∀ b o,h.get? b=some o->b∉fs->b≠e->b≠T->h'.get? b=some o
 slot:∀ b o,h.get? b=some o->b∈fs->∃ sl,h'.get? b=some { o with slots:=sl }
 old:∀ o,h.get? T=some o->∃ ts,o.data=.fields ts
 nf:T∉fs
def Dw (n:Nat) (H:Hp) (L:Addr) (pn:List Addr) (e C:Addr) (d:Option Addr) (h:Heap):Prop:=
 ∃ (vs:Array Value) (a0:Addr),h.get? e=some { cls:=.ref C,dict:=d,data:=.fields vs }/\vs[0]?=some (.ref a0)/\(vs[1]?=some .none\/∃ T fl,ExT e C d T fl h/\n<=T/\H T=none/\T∉pn/\(fl=.none\/fl=rawInt L))
variable {h:Heap} {fl:Value} {T:Addr} {d:Option Addr} {e C:Addr}
theorem ExT.xo (x:ExT e C d T fl h):XO e C d true h:=by
 obtain ⟨vs,a0,_,_,h1,h2,_⟩:=x;exact ⟨vs,a0,h1,h2,fun z=>nomatch z⟩
variable {o:Obj}
theorem kh {ts:Array Value} {f:Array Value->Array Value} (hd:o.data=.fields ts) (hf:f ts=ts):o.mapFields f=o:=by
 obtain ⟨c,d,dt,sl⟩:=o;cases hd;show Obj.mk c d (.fields (f ts)) sl=_;rw [hf]
section
variable {M:Model} {A:Around} {E:Value->Shared->Prop} {s:Shared} {base:Heap} {env:Env} {outer:List Env} {L e C T:Addr} {d:Option Addr} {fl:Value} {Q:Unit->Shared->Prop}
theorem eK {fr:Option Addr} (x:ExT e C d T fl s.heap) (h:∀ h',(∀ b o,s.heap.get? b=some o->b≠T->h'.get? b=some o)->ExT e C d T (fr.elim .none fun f=>rawInt f) h'->Q () { s with heap:=h' }):wpAny M A (setFlight (.ref e) fr) Q E s:=by
 obtain ⟨vs,a0,oT,ts,he,h0,h1,ne,hT,hd,h3⟩:=x;have hsz:3 < ts.size:=(Array.getElem?_eq_some_iff.mp h3).1;unfold setFlight;refine wpAny_bind (wpAny_field he rfl h1 ?_);rw [if_pos (show (Value.ref T != Value.none)=true from by simp)];have k:∀ b o,s.heap.get? b=some o->b≠T->(s.heap.update T (Obj.mapFields (·.setIfInBounds 3 (fr.elim Value.none fun f=>rawInt f)))).get? b=some o:=fun b o e' hb=>by
  rw [Heap.get?_update_other _ _ (Ne.symm hb)];exact e'
 refine wpAny_setField hT hd hsz (h _ k ?_);have hd':=Obj.data_mapFields hd (·.setIfInBounds 3 (fr.elim Value.none fun f=>rawInt f));exact ⟨vs,a0,_,_,k _ _ he (Ne.symm ne),h0,h1,ne,Heap.get?_update_self _ hT (Obj.isFreed_of_fields hd'),hd',by simp [hsz]⟩
theorem ki {vs:Array Value} {a0:Addr} {head:Value} {hadNext:Bool} (hfr:A.frames=some (env::outer)) (hl:s.heap.FunFrames base (env::outer)) (hf:env.frame=some L)
  (he:s.heap.get? e=some { cls:=.ref C,dict:=d,data:=.fields vs }) (h0:vs[0]?=some (.ref a0)) (hsz:1 < vs.size)
  (h:∀ h',Wr (kz (env::outer)) e s.heap.objs.size s.heap h'->ExT e C d s.heap.objs.size (rawInt L) h'->Q () { s with heap:=h' }) :
  wpAny M A (do let a <-frameOf env;let pl <-entryPlaceOf L hadNext;let b <-EntryCells.newEntry head a .none (rawInt L) .none pl;setField (.ref e) 1 b) Q E s:=by
 have hene:e∉kz (env::outer):=fun hm=>by
  obtain ⟨_,o,ho,hnf⟩:=hl.mem hm;rw [he] at ho;injection ho with ho;subst ho;exact hnf vs rfl
 refine wpAny_bind (wpAny_frameOf_fun hfr hl hf fun h₁ hs₁=>?_);refine wpAny_bind (wpAny_entryPlaceOf fun pl hpl=>?_);unfold EntryCells.newEntry newFields;refine wpAny_bind (wpAny_newObj_type ?_ (hpl.sizeOk5 _ _ _ _ _));generalize hts:([head,.ref L,.none,rawInt L,.none]++(if pl.isEmpty then List.replicate 6 Value.none else pl)).toArray=ts;have h3:ts[3]?=some (rawInt L):=by rw [<-hts];simp
 have he₁:h₁.get? e=some { cls:=.ref C,dict:=d,data:=.fields vs }:=(hs₁.2.1 e hene).trans he;have he₂:=D6 (h:=h₁) { cls:=.type "traceback",dict:=none,data:=.fields ts } he₁;refine wpAny_setField he₂ rfl hsz ?_;have hsize:h₁.objs.size=s.heap.objs.size:=hs₁.1;have hTe:h₁.objs.size≠e:=Fv (Ed he₁);have he₃:=Heap.get?_update_self (Obj.mapFields (·.setIfInBounds 1 (Value.ref h₁.objs.size))) he₂ rfl;have hT₃:=(Heap.get?_update_other (h₁.push { cls:=.type "traceback",dict:=none,data:=.fields ts }) (Obj.mapFields (·.setIfInBounds 1 (Value.ref h₁.objs.size))) (Ne.symm hTe)).trans (El h₁ rfl);have keep:∀ b o,b≠e->h₁.get? b=some o->((h₁.push { cls:=.type "traceback",dict:=none,data:=.fields ts }).update e (Obj.mapFields (·.setIfInBounds 1 (Value.ref h₁.objs.size)))).get? b=some o:=fun b o hbe hb=>by
  rw [Heap.get?_update_other _ _ (Ne.symm hbe)];exact D6 _ hb
 rw [hsize] at he₃ hT₃ keep hTe ⊢;refine h _ ⟨fun b o hb hbf hbe _=>keep b o hbe ((hs₁.2.1 b hbf).trans hb),fun b o hb hbf=>?_,fun o ho=>absurd (Ed ho) (E2 _),fun hm=>?_⟩ ?_
 ·obtain ⟨sl,hs⟩:=hs₁.2.2 b o hb;exact ⟨sl,keep b _ (fun z=>hene (z ▸ hbf)) hs⟩
 ·obtain ⟨_,o,ho,_⟩:=hl.mem hm;exact absurd (Ed ho) (E2 _)
 ·exact ⟨_,a0,_,ts,he₃,by rw [Array.getElem?_setIfInBounds_ne zd];exact h0,by simp [hsz],hTe,hT₃,rfl,h3⟩
theorem jz {n:Nat} {H:Hp} {pn:List Addr} (hfr:A.frames=some (env::outer)) (hl:s.heap.FunFrames base (env::outer)) (hf:env.frame=some L) (x:Dw n H L pn e C d s.heap) (hn:n<=s.heap.objs.size)
  (hH:∀ a,s.heap.objs.size<=a->H a=none) (hp:∀ a∈pn,a < s.heap.objs.size)
  (h:∀ h' T,Wr (kz (env::outer)) e T s.heap h'->ExT e C d T (rawInt L) h'->n<=T->H T=none->T∉pn->Q () { s with heap:=h' }):wpAny M A (noteFrame (.ref e) env) Q E s:=by
 obtain ⟨vs,a0,he,h0,hm⟩:=x;have new:∀ h',Wr (kz (env::outer)) e s.heap.objs.size s.heap h'->ExT e C d s.heap.objs.size (rawInt L) h'->Q () { s with heap:=h' }:=fun h' w q=>h h' _ w q hn (hH _ (Ec _)) fun z=>absurd (hp _ z) (E2 _);unfold noteFrame;simp only [hf];rcases hm with h1|⟨T,fl,x,nT,fT,pT,fl0|fl1⟩
 ·refine wpAny_bind (wpAny_field he rfl h1 ?_);rw [if_neg zd];exact ki hfr hl hf he h0 (Array.getElem?_eq_some_iff.mp h1).1 new
 ·subst fl0;obtain ⟨vs',a0',oT,ts,he',h0',h1,ne,hT,hd,h3⟩:=x;rw [he] at he';have ev:vs=vs':=by injection he' with e1;injection e1 with _ _ e2 _;injection e2
  subst ev;refine wpAny_bind (wpAny_field he rfl h1 ?_);rw [if_pos (show (Value.ref T != Value.none)=true from by simp)];refine wpAny_bind (wpAny_field hT hd h3 ?_);rw [if_neg (show ¬ ((Value.none == rawInt L)=true) from by simp [rawInt])];have hsz:3 < ts.size:=(Array.getElem?_eq_some_iff.mp h3).1;refine wpAny_bind (wpAny_setField hT hd hsz ?_);have same:ts.setIfInBounds 3 Value.none=ts:=by
   apply Array.ext_getElem?;intro i;by_cases hi:3=i
   ·subst hi;rw [h3];simp [hsz]
   ·rw [Array.getElem?_setIfInBounds_ne hi]
  have all:∀ b,(s.heap.update T (Obj.mapFields (·.setIfInBounds 3 Value.none))).get? b=s.heap.get? b:=fun b=>by
   by_cases hb:b=T
   ·rw [hb];have:=Heap.get?_update_self (Obj.mapFields (·.setIfInBounds 3 Value.none)) hT (by rw [kh hd same];exact Obj.isFreed_of_fields hd);rw [this,kh hd same,hT]
   ·exact Heap.get?_update_other _ _ (Ne.symm hb)
  refine ki (hadNext:=true) hfr (hl.of_keeps fun b o hb _=>⟨o,(all b).trans hb,rfl⟩) hf ((all e).trans he) h0 (Array.getElem?_eq_some_iff.mp h1).1 fun h' w q=>?_;have hs:(s.heap.update T (Obj.mapFields (·.setIfInBounds 3 Value.none))).objs.size=s.heap.objs.size:=Heap.size_after_update _ _ _;dsimp only at w q;rw [hs] at w q;refine new h' ⟨fun b o hb=>w.keep b o ((all b).trans hb),fun b o hb=>w.slot b o ((all b).trans hb),fun o ho=>w.old o ((all _).trans ho),w.nf⟩ q
 ·subst fl1;obtain ⟨vs',a0',oT,ts,he',h0',h1,ne,hT,hd,h3⟩:=id x;refine wpAny_bind (wpAny_field he' rfl h1 ?_);rw [if_pos (show (Value.ref T != Value.none)=true from by simp)];refine wpAny_bind (wpAny_field hT hd h3 ?_);rw [if_pos (show (rawInt L == rawInt L)=true from by simp)];refine wpAny_pure ?_;have:=h s.heap T ⟨fun b o hb _ _ _=>hb,fun b o hb _=>⟨o.slots,hb⟩,fun o ho=>?_,fun hm=>?_⟩ x nT fT pT
  ·exact this
  ·rw [hT] at ho;cases ho;exact ⟨ts,hd⟩
  ·obtain ⟨_,o,ho,hnf⟩:=hl.mem hm;rw [hT] at ho;cases ho;exact hnf ts hd
end
theorem Wr.then {fs:List Addr} {h h1 h2:Heap} (w:Wr fs e T h h1) (k:∀ b o,h1.get? b=some o->b≠T->h2.get? b=some o):Wr fs e T h h2:=
 ⟨fun b o hb hf he hT=>k b o (w.keep b o hb hf he hT) hT,fun b o hb hf=>let ⟨sl,q⟩:=w.slot b o hb hf;⟨sl,k b _ q fun z=>w.nf (z ▸ hf)⟩,w.old,w.nf⟩
variable {H:Hp}
theorem Wr.un {fs:List Addr} {h h':Heap} {φ:Heap->Prop} (w:Wr fs e T h h') (x:ExT e C d T fl h') (He:H e=some (.ext φ)):Un fs [T] H H h h':=by
 obtain ⟨vs,a0,oT,ts,he,_,_,_,hT,_⟩:=x;refine ⟨fun b o hb n hf hT'=>w.keep b o hb hf (fun z=>by rw [z,He] at n;cases n) (by simpa using hT'),fun b o hb _ hf _=>w.slot b o hb hf,fun _ _ _ n _=>n,fun b o hb hT'=>?_,fun _ _ q=>q,fun _ _ _ q=>q,fun b ps q=>⟨#[],by rw [q];simp⟩⟩;by_cases hbe:b=e
 ·exact ⟨_,hbe ▸ he⟩
 ·by_cases hf:b∈fs
  ·obtain ⟨sl,q⟩:=w.slot b o hb hf;exact ⟨_,q⟩
  ·exact ⟨o,w.keep b o hb hf hbe (by simpa using hT')⟩
variable {P:Program}
theorem Wr.hok {wd:World} {fs:List Addr} {h h':Heap} (w:Wr fs e T h h') (x:ExT e C d T fl h') (He:H e=some (.ext (XO e C d true))) (hT:H T=none) (hf:∀ b∈fs,H b=none) (ok:HOk P wd H h):HOk P wd H h':=by
 intro a o ha;have k:∀ b o',H b=some o'->b≠e->∀ u,h.get? b=some u->h'.get? b=some u:=fun b o' hb ne u q=>w.keep b u q (fun z=>by rw [hf b z] at hb;cases hb) ne (aq hb hT);by_cases hae:a=e
 ·subst hae;rw [He] at ha;cases ha;obtain ⟨vs,a0,oT,ts,he,_⟩:=id x;exact gC x.xo ⟨_,he⟩ XO.stay
 ·refine (ok a o ha).stay (fun b u hb q=>?_) (fun _ q=>q) fun _ _ q=>q;rcases hb with rfl|hb
  ·exact k _ _ ha hae u q
  ·exact k _ _ hb (fun z=>by rw [z,He] at hb;cases hb) u q
def iw (P:Program) (w:World):qe:=fun outer H s E e s'=>∃ a H' C d T,e=.ref a/\s'.os=s.os/\AllBare s'.gens/\Un (kz outer) [] H H' s.heap s'.heap/\HOk P w H' s'.heap/\H' a=some (.ext (XO a C d true))/\ExT a C d T .none s'.heap /\
 s.heap.objs.size<=T/\H' T=none/\E e none H'
def Bm (X:Cx) (H:Hp) (h:Heap) (a:Addr):Prop:=∃ C d,H a=some (.ext (XO a C d true))/\Dw X.s₀.heap.objs.size H X.env.locals (X.pn.map (·.1)) a C d h
def jA (X:Cx) (ES:St->XK) (e:Value) (s:Shared):Prop:=∃ a σ H,e=.ref a/\Inv X [] σ H s/\Bm X H s.heap a/\ES σ e none H
def zy (X:Cx) (ES:St->XK):Prop:=∀ e s',jA X ES e s'->X.xe e s'
abbrev Cx.esc (X:Cx) (ES:St->XK):Cx:=X.wish (jA X ES)
section
variable {X:Cx} {pins:List (Addr×Obj)} {σ:St} {H:Hp} {s:Shared} {ES:St->XK} {E:XK}
theorem bZ:zy (X.esc ES) ES:=fun e s' ⟨a,σ,H,h1,I,⟨C,d,h2,h3⟩,h4⟩=>⟨a,σ,H,h1,I.unwish,⟨C,d,h2,h3⟩,h4⟩
theorem Inv.pn_lt (I:Inv X pins σ H s):∀ a∈X.pn.map (·.1),a < s.heap.objs.size:=fun a ha=>by
 obtain ⟨p,hp,rfl⟩:=Fa.mp ha;exact Ed (I.pin p (Fe _ hp)).1
theorem Inv.frame1 (I:Inv X pins σ H s) (hst:X.stack=X.env::X.outer):X.env.frame=some X.env.locals:=by
 rcases I.ok.stk with e|⟨_,e⟩
 ·rw [hst] at e;exact absurd e (by intro z;have:=congrArg List.length z;simp at this)
 ·exact e
theorem Inv.wr {h':Heap} (I:Inv X pins σ H s) (W:Wr (kz X.stack) e T s.heap h') (x:ExT e C d T fl h') (He:H e=some (.ext (XO e C d true))) (hT:H T=none) (hn:X.s₀.heap.objs.size<=T)
  (hp:∀ p∈X.pn++pins,p.1≠T):Inv X pins σ H { s with heap:=h' }:=by
 have:=I.call (g':=s.gens) (t':=s.toks) (d':=s.drawn) (ch:=[T]) (W.un x He) (W.hok x He hT I.stkFree I.hok) I.bare (fun b hb=>?_)
 ·exact this
 ·have hb':b=T:=by simpa using hb
  subst hb';refine ⟨.inr hn,fun z=>?_,fun y c hc z=>?_,hp⟩
  ·obtain ⟨m,⟨o,es,ep,ho,hd,_⟩,_⟩:=I.loc;obtain ⟨ts,hd'⟩:=W.old o (by rw [z];exact ho);rw [hd] at hd';cases hd'
  ·obtain ⟨v,o,ho,hd⟩:=I.cell y c hc;obtain ⟨ts,hd'⟩:=W.old o (by rw [<-z];exact ho);rw [hd] at hd';cases hd'
theorem Inv.nopins (I:Inv X pins σ H s):Inv X [] σ H s:=Inv.unpinned (pins:=[]) (pl:=pins) I
theorem yj {e:Value} {s':Shared} (I:Inv X pins σ H s) (h:iw X.prog X.w X.stack H s (ES σ) e s'):jA X ES e s':=by
 obtain ⟨a,H',C,d,T,rfl,os,bare,un,hok,He,x,nT,fT,q⟩:=h;have J:Inv X pins σ H' s':=I.call' (ch:=[]) os un hok bare (fun b z=>absurd z (by simp));obtain ⟨vs,a0,oT,ts,he,h0,h1,_⟩:=id x;exact ⟨a,σ,H',rfl,J.nopins,⟨C,d,He,vs,a0,he,h0,.inr ⟨T,.none,x,Ew I.sz nT,fT,fun z=>absurd (En (I.pn_lt T z) nT) (E2 _),.inl rfl⟩⟩,q⟩
theorem C6 (hst:X.stack=X.env::X.outer):PassesOwn (model X.prog X.w) X.A X.env (jA X ES):=by
 intro e s' ⟨a,σ,H,he,I,⟨C,d,He,fl⟩,q⟩;subst he;have hf:=I.frame1 hst;have hfr:X.A.frames=some (X.env::X.outer):=by rw [I.ok.frames,hst]
 have hl:s'.heap.FunFrames X.base (X.env::X.outer):=by rw [<-hst];exact I.stack
 refine jz hfr hl hf fl I.sz (fun b hb=>I.hok.fresh hb) I.pn_lt fun h' T w x nT fT pT=>?_;show wpAny _ _ _ _ _ _;obtain ⟨vs,a0,oT,ts,he,h0,h1,_⟩:=id x;refine wpAny_bind (wpAny_field (s:={ s' with heap:=h' }) he rfl h1 ?_);rw [if_neg (show ¬ ((Value.ref T == Value.none)=true) from by simp)];rw [hf];refine eK (s:={ s' with heap:=h' }) x fun h'' k x'=>?_;have W:=w.then k;rw [<-hst] at W;obtain ⟨vs',a0',oT',ts',he',h0',h1',_⟩:=id x';refine ⟨a,σ,H,rfl,I.wr (h':=h'') W x' He fT nT (fun p hp z=>?_),⟨C,d,He,vs',a0',he',h0',.inr ⟨T,_,x',nT,fT,pT,.inr rfl⟩⟩,q⟩;rw [EC] at hp;exact pT (z ▸ List.mem_map_of_mem hp)
end
theorem PSs.wishTo {X:Cx} {E:Value->Shared->Prop} {st:List Stmt} {t:TS} (h:PSs (X.wish E) st t) (k:∀ e s',E e s'->X.xe e s'):PSs X st t:=⟨fun pins s σ H D I hw=>
 wpAny_mono (h pins s σ H D (I.wish _) hw) (fun _ _ q=>q.unwish) fun e s' z=>k e s' z⟩
section
variable {P:Program} {w:World} {K:ZF} {mg:Str->Option Value} {base:Heap}
theorem uQ {N:List Str} {qual:Str} {sc:Scope} {f:Addr} {cd:Value} {A:Around} {outer:List Env} {s:Shared} {H:Hp} {E:XK} (e:Value) (s':Shared)
  (h:jA (jc (iw P w) P w K mg base N qual sc f cd A outer s H E) (fun _=>E) e s'):(jc (iw P w) P w K mg base N qual sc f cd A outer s H E).xe e s':=by
 obtain ⟨a,σ,H',he,I,⟨C,d,He,fl⟩,q⟩:=h;subst he;show wpAny (model P w) _ (leaving _ (.ref a)) _ _ s';unfold leaving;refine wpAny_bind (jz (base:=base) I.ok.frames I.stack rfl fl I.sz (fun b hb=>I.hok.fresh hb) I.pn_lt fun h' T w x nT fT pT=>eK (s:={ s' with heap:=h' }) x fun h'' k x'=>?_);have W:=w.then k;have J:=I.wr (h':=h'') W x' He fT nT (fun p hp=>absurd hp (by show p∉([]:List (Addr×Obj))++[];simp));exact ⟨a,H',C,d,T,rfl,J.os,J.bare,J.base,J.hok,He,x',nT,fT,q⟩
variable {fd:FuncData} {f:Addr}
theorem Fun.okX {x qual:Str} {st:Stmt} {N ps:List Str} {k:Nat} {sp:Sp} (F:Fun K x qual st f fd) (S:ak N ps (ai st)) (len:∀ vs H Q E,sp vs H Q E->vs.length=ps.length)
  (hbody:∀ (cdv:Value) (A:Around) (outer:List Env) (s:Shared) (H:Hp) (vs:List V) (Q:VK) (E:XK),Room k (A.deeper (envOfC qual (ai st) s.heap.objs.size f cdv))->sp vs H Q E->
   ∃ t,PSs ((jc (iw P w) P w K mg base N qual (ai st) f cdv A outer s H E).esc fun _=>E) (bP st) t/\t { nx:=fun _ H'=>Q .non H',rt:=Q } (start N vs) H):FnOk P w K mg base (iw P w) (k+1) f fd ps sp:=by
 obtain ⟨oc,od,kV,doc,pm,an,cdv,ct,osl,rfl,lk,hcd⟩:=F.ex;refine qh lk hcd S len fun A outer s H vs Q E hr hsp=>?_;obtain ⟨t,h,q⟩:=hbody cdv A outer s H vs Q E hr hsp;exact ⟨t,h.wishTo uQ,q⟩
theorem FnOk.calm {k:Nat} {ps:List Str} {sp:Sp} (F:FnOk P w K mg base (iw P w) k f fd ps sp):FnOk P w K mg base bM k f fd ps (fun vs H Q _=>sp vs H Q E0):=
 ⟨fun vs H Q E q=>F.len vs H Q E0 q,fun A outer s H args us vs Q E hr he hb hv hs=>codeAny_mono (F.run A outer s H args us vs Q E0 hr he hb hv hs) fun r s' hq=>by
  cases r with
  | error e=>
   obtain ⟨_,_,_,_,_,_,_,_,_,_,_,_,_,_,z⟩:=hq;exact z.elim
  | ok fl=>cases fl<;>exact hq⟩
end
section
variable {X:Cx} {k:Nat} {f C:Addr} {fd:FuncData} {ps:List Str} {sp:Sp} {dvs:List V} {ds:List Value} {ES:St->XK} {x m:Str} {p pos apos:Pos} {e o:Expr} {es:List Expr} {ta:TE} {t:TA}
theorem qH {pins:List (Addr×Obj)} {σ:St} {H:Hp} {s:Shared} {Q:VK} {us:List Value} {vs:List V} (F:FnOk X.prog X.w X.K X.mg X.base (iw X.prog X.w) k f fd ps sp) (hr:Room k X.A) (hb:Binds X.K fd ps ds) (hd:Vals dvs ds) (hx:zy X ES)
  (I:Inv X pins σ H s) (r:Vals vs us) (h:sp (vs++dvs) H Q (ES σ)):wpAny (model X.prog X.w) X.A (call (.ref f) us) (EP X pins σ Q) X.xe s:=by
 have r2:Vals (vs++dvs) (us++ds):=r.append hd;have hl:(us++ds).length=ps.length:=by rw [<-r2.length];exact F.len _ _ _ _ h
 refine wpAny_call (codeAny_mono (F.run X.A X.stack s H ⟨us,[]⟩ (us++ds) (vs++dvs) Q (ES σ) hr I.env0 (hb s us I.kIn hl) r2 h) fun r s' hq=>?_);cases r with
 | error e=>exact hx e s' (yj I hq)
 | ok fl=>
  cases fl with
  | ret u=>exact I.after hq
  | next=>exact False.elim hq
  | brk=>exact False.elim hq
  | cont=>exact False.elim hq
def zA (sp:Sp) (dvs:List V) (ES:St->XK) (t:TA):TE:=fun σ H Q=>t σ H fun vs H1=>sp (vs++dvs) H1 Q (ES σ)
theorem nG (F:FnOk X.prog X.w X.K X.mg X.base (iw X.prog X.w) k f fd ps sp) (hr:Room k X.A) (hg:Gl X x) (hm:X.mg x=some (.ref f)) (hk:PySem.W.keepIn X.K (.ref f)=true) (hb:Binds X.K fd ps ds) (hd:Vals dvs ds) (hx:zy X ES)
  (ha:PA X (e::es) t) (hdb:(x == ("__debug__":Str))=false:=by decide) (he:starEach (e::es) X.env=(false,eval e X.env)::starEach es X.env:=by rfl) (hpl:(backTo pos (starEach es X.env)).any (·.1)=false:=by rfl) :
  PE X (.Call (.Name x p) (e::es) [] pos) (zA sp dvs ES t):=by
 refine ⟨?_⟩;intro pins s σ H Q I h;refine wpAny_Call_Name_kw (dF I hg hm ?_ hdb);refine EX (h₀:=X.base) I.ok.mod.kin hk (bG (ha pos pins s σ H _ I h) fun us s1 ⟨vs,H1,I1,r,q⟩=>⟨I1.kIn,?_⟩) he hpl;exact qH F hr hb hd hx I1 r q
def zC (C:Addr) (m:Str) (sp:Sp) (dvs:List V) (ES:St->XK) (ta:TE) (t:TA):TE:=fun σ H Q=>ta σ H fun x H1=>∃ a dx fs,x=.ref a/\H1 a=some (.ins C dx fs)/\fs.lookup m=none /\
 t σ H1 fun vs H2=>sp (x::(vs++dvs)) H2 Q (ES σ)
theorem jB {pl:Sem Bool} (he:PE X o ta) (c:Cls X.K C) (hm:kG X.K C m f) (F:FnOk X.prog X.w X.K X.mg X.base (iw X.prog X.w) k f fd ps sp) (hr:Room k X.A) (hb:Binds X.K fd ps ds) (hd:Vals dvs ds) (hx:zy X ES) (ha:PA X (e::es) t)
  (hst:starEach (e::es) X.env=(false,eval e X.env)::starEach es X.env:=by rfl) (hpl:(backTo pos (starEach es X.env)).any (·.1)=false:=by rfl)
  (ht:eval (.Call (.Attribute o m apos) (e::es) [] pos) X.env=(do
   let ov <-eval o X.env
   standAt apos.atName
   let (f,first) <-holding [ov] (getMethod ov m pl)
   callWith pos f first (backTo pos (starEach (e::es) X.env)) (backToKw pos (keywordEach [] X.env))):=by rfl) :
  PE X (.Call (.Attribute o m apos) (e::es) [] pos) (zC C m sp dvs ES ta t):=by
 refine ⟨?_⟩;intro pins s σ H Q I h;refine PySem.W.methodCall_KW (pl:=pl) (bG (he pins s σ H _ I h) fun u s1 ⟨x,H1,I1,rx,a,dx,fs,ex,ea,l,q⟩=>?_) ht;subst ex;obtain rfl:u=Value.ref a:=rx;refine eA I1 ea c hm l ?_;refine EX (first:=[.ref a]) (h₀:=X.base) I.ok.mod.kin hm.kp (bG (ha pos pins s1 σ H1 _ I1 q) fun us s2 ⟨vs,H2,I2,r,q2⟩=>⟨I2.kIn,?_⟩) hst hpl;exact qH (us:=.ref a::us) (vs:=.ref a::vs) F hr hb hd hx I2 (.cons rfl r) q2
end
section
variable {prog:Program} {w:World} {A:Around} {E:Value->Shared->Prop} {h:Heap} {g:Array GenState} {dr:Drawn} {t:Nat} {os:OsState}
variable {a:Addr}
theorem kj {vs:Array Value} {Q:Bool->Shared->Prop} (ha:h.get? a=some o) (hd:o.data=.fields vs) (hq:Q false ⟨h,g,dr,t,os⟩):wpAny (model prog w) A (isType (.ref a)) Q E ⟨h,g,dr,t,os⟩:=by
 simp only [isType,loadHead];refine wpAny_bind (wpAny_loadPart ha ?_);rw [hd];exact wpAny_pure hq
theorem dE {Q:Value->Shared->Prop} (ha:h.get? a=some o) (hq:Q o.cls ⟨h,g,dr,t,os⟩):wpAny (model prog w) A (typeOf (.ref a)) Q E ⟨h,g,dr,t,os⟩:=by
 simp only [typeOf];exact wpAny_bind (wpAny_loadPart ha (wpAny_pure hq))
end
section
variable {X:Cx} {pins:List (Addr×Obj)} {σ:St} {H:Hp} {s:Shared} {ES:St->XK} {e:Expr} {te:TE} {pos:Pos}
def uR (K:ZF) (te:TE) (ES:St->XK):TS:=fun _ σ H=>te σ H fun x H1=>∃ a C d fs nm bm,x=.ref a/\XAt H1 a C d false fs/\XC K C nm bm/\ES σ (.ref a) none (upd H1 a (.ext (XO a C d true)))
theorem df (he:PE X e te) (hx:zy X ES) (hc:X.calm=true):PS X (.Raise (some e) none pos) (uR X.K te ES):=by
 refine ⟨fun pins s σ H D I h=>?_⟩;show wpAny _ _ (do standAt pos;raiseStmt X.env (some (do let v <-eval e X.env;standAt pos;pure v)) none) _ _ s;refine wpAny_bind (wpAny_standAt ?_);unfold raiseStmt;dsimp only;refine wpAny_bind (wpAny_bind (wpAny_mono (he pins s σ H _ I h) (fun v s₁ h₁=>wpAny_bind (wpAny_standAt (wpAny_pure ?_))) fun _ _ x=>x));obtain ⟨x,H1,I1,rx,a,C,d,fs,nm,bm,ex,xa,c,q⟩:=h₁;subst ex;obtain rfl:v=Value.ref a:=rx;obtain ⟨vs,a0,ha,h0,h1⟩:=xa.obj I1;have hb:(Value.ref C::bm).contains (.type "BaseException")=true:=c.tl.has C "BaseException" true zk;obtain ⟨q0,N,bs,sn,sub,ab,col,dd,k0,k1,k2,k3,k5,lk⟩:=c.obj;have hC:=I1.kIn _ _ lk;have hh:X.A.handled=none:=I1.ok.hd hc;have I2:=I1.write (o:=.ext (XO a C d true)) (x:=a) (e:=a) (t':=s₁.toks) (h':=s₁.heap) (by rw [xa.1];exact True.intro) (.inl rfl) (fun b u _ z=>z) ⟨_,ha⟩ (gC ⟨vs,a0,ha,h0,fun z=>nomatch z⟩ ⟨_,ha⟩ XO.stay);have fin:X.xe (.ref a) s₁:=hx _ _ ⟨a,σ,_,rfl,I2.nopins,⟨C,d,ae,vs,a0,ha,h0,.inl (h1 rfl)⟩,q⟩;obtain ⟨hp,g,dr,t,os⟩:=s₁;refine wpAny_bind (wpAny_pure ?_);dsimp only;refine wpAny_bind (wpAny_holding ?_);unfold excFromValue isExcClass;refine wpAny_bind (wpAny_bind (kj ha rfl ?_));simp only [Bool.false_eq_true,if_false];refine wpAny_pure ?_;simp only [Bool.false_eq_true,if_false];unfold isInstance;refine wpAny_bind (wpAny_bind (dE ha (wpAny_isSubtype_exc hC ?_)));rw [hb];simp only [if_true];refine wpAny_pure ?_;refine wpAny_bind (kj ha rfl ?_);simp only [Bool.false_eq_true,if_false];unfold raisedInstance;refine wpAny_bind (wpAny_bind (dE ha (wpAny_bind (dE hC ?_))));rw [if_pos (by rfl)];refine wpAny_pure ?_;unfold setFlight raiseNew;refine wpAny_bind (wpAny_bind (wpAny_field ha rfl (h1 rfl) ?_));rw [if_neg zd];refine wpAny_pure (wpAny_bind (wpAny_handled ?_));rw [hh];first
  | exact wpAny_throw fin
  | exact wpAny_bind (wpAny_pure (wpAny_throw fin))
end
section
variable {prog:Program} {w:World} {A:Around} {E:Value->Shared->Prop} {h:Heap} {g:Array GenState} {dr:Drawn} {t:Nat} {os:OsState}
variable {Q:Bool->Shared->Prop}
theorem pz {a:Addr} {cd:ClassData} (ha:h.get? a=some o) (hd:o.data=.cls cd) (hq:Q true ⟨h,g,dr,t,os⟩):wpAny (model prog w) A (isType (.ref a)) Q E ⟨h,g,dr,t,os⟩:=by
 simp only [isType,loadHead];refine wpAny_bind (wpAny_loadPart ha ?_);rw [hd];exact wpAny_pure hq
theorem uS {e C C':Addr} {oe:Obj} {nm q nm' q':Str} {N N':Addr} {bs bm bs' bm':List Value} {hdct hdct':Bool} {sn sn' sub sub' ab ab' col col' dd dd' k0 k0' k1 k1' k2 k2' k3 k3' k5 k5' newId newId'} {Q:Bool->Shared->Prop} (he:h.get? e=some oe) (hcls:oe.cls=.ref C) (hC:h.get? C=some (excClassObj nm q C N bs bm hdct sn sub ab col dd k0 k1 k2 k3 k5 newId))
  (hC':h.get? C'=some (excClassObj nm' q' C' N' bs' bm' hdct' sn' sub' ab' col' dd' k0' k1' k2' k3' k5' newId')) (hb':(Value.ref C'::bm').contains (.type "BaseException")=true) (hq:Q ((Value.ref C::bm).contains (.ref C')) ⟨h,g,dr,t,os⟩) :
  wpAny (model prog w) A (excMatches (.ref e) (.ref C')) Q E ⟨h,g,dr,t,os⟩:=by
 unfold excMatches isInstance;refine wpAny_bind (wpAny_bind (dE hC' (wpAny_of_eq (a:=false) (by rfl) ?_)));simp only [Bool.false_eq_true,if_false];refine wpAny_bind (wpAny_pure ?_);simp only [forIn,ForIn.forIn,List.forIn'_cons,List.forIn'_nil,List.forIn_cons,List.forIn_nil];unfold isExcClass;refine wpAny_bind ?_;refine wpAny_bind ?_;refine wpAny_bind (wpAny_bind (pz hC' rfl ?_));simp only [if_true];refine wpAny_isSubtype_exc hC' ?_;rw [hb'];simp only [Bool.not_true,Bool.false_eq_true,if_false];refine wpAny_pure (wpAny_pure ?_);refine wpAny_bind (dE he ?_);rw [hcls];refine wpAny_bind (wpAny_bind (wpAny_bind (wpAny_isSubtype_exc hC ?_)));generalize (Value.ref C::bm).contains (.ref C')=b at hq ⊢;cases b with
 | true=>
  simp only [if_true];exact wpAny_pure (wpAny_pure (wpAny_pure hq))
 | false=>
  simp only [Bool.false_eq_true,if_false];exact wpAny_pure (wpAny_pure (wpAny_pure hq))
end
abbrev Cx.alt (X:Cx) (A:Around) (calm:Bool) (pn:List (Addr×Obj)) (xe:Value->Shared->Prop):Cx:={ X with A:=A,calm:=calm,pn:=pn,xe:=xe }
abbrev Cx.bear (X:Cx) (pn:List (Addr×Obj)):Cx:=X.alt X.A X.calm pn X.xe
abbrev Cx.suite (X:Cx) (A:Around) (pn:List (Addr×Obj)):Cx:=X.alt A false pn fun _ _=>False
section
variable {X:Cx} {pins pins' pn:List (Addr×Obj)} {σ:St} {H:Hp} {s:Shared} {A:Around} {calm:Bool} {xe:Value->Shared->Prop}
theorem Inv.alt (I:Inv X pins σ H s) (hA:A.frames=some X.stack) (hc:calm=true->A.handled=none) (hp:∀ p∈pn++pins',p∈X.pn++pins):Inv (X.alt A calm pn xe) pins' σ H s:=
 ⟨⟨I.ok.mod,I.ok.kind,I.ok.glob,I.ok.blt,I.ok.above,I.ok.inj,I.ok.has,I.ok.cab,hc,hA,I.ok.stk,I.ok.exf,I.ok.bs,I.ok.bsz,I.ok.noex,I.ok.exfs,I.ok.funs,I.ok.frf⟩,I.os,I.bare,I.base,I.loc,I.cell,I.free,I.freeC,fun p h=>I.pin p (hp p h),I.hok,I.len⟩
theorem Inv.unalt (I:Inv (X.alt A calm pn xe) pins' σ H s) (ok:X.Ok) (hp:∀ p∈X.pn++pins,p∈pn++pins'):Inv X pins σ H s:=
 ⟨ok,I.os,I.bare,I.base,I.loc,I.cell,I.free,I.freeC,fun p h=>I.pin p (hp p h),I.hok,I.len⟩
theorem Inv.unset {i:Nat} {n:Str} {m:Str->Option Value} {v:Option Value} {h':Heap} {t':Nat} (I:Inv X pins σ H s) (hN:X.N.Nodup) (hi:X.N[i]?=some n) (hn:s.heap.Ns X.env.locals m) (hl:∀ (i:Nat) (x:Str) (v:V),X.N[i]?=some x->σ[i]?=some (some v)->An X.env.scope x->∃ u,RelV v u/\Ap X.env s.heap m x u)
  (hn':h'.Ns X.env.locals fun x=>if x=n then v else m x) (hs:Heap.SameBut X.env.locals s.heap h'):Inv X pins (σ.set i none) H { s with heap:=h',toks:=t' }:=by
 have hiσ:i < σ.length:=by rw [I.len];exact (D7.mp hi).1
 have cne:=I.cne;obtain ⟨oL,_,_,hoL,_⟩:=id hn;refine ⟨I.ok,I.os,I.bare,⟨fun b o e n hb hx=>?_,fun b o e n hb hx=>?_,I.base.free,fun b o e hx=>?_,I.base.tups,I.base.frzs,I.base.tbls⟩,⟨_,hn',fun j y v' e1 e2 e3=>?_⟩,fun y c e=>?_,I.free,I.freeC,fun p hp=>?_,fun b ob e=>?_,by simpa using I.len⟩
 ·exact (hs.2 b (Es (En (Ed e) I.ok.above))).trans (I.base.keep b o e n hb hx)
 ·obtain ⟨sl,e1⟩:=I.base.slot b o e n hb hx;exact ⟨sl,(hs.2 b (Es (En (Ed e) I.ok.above))).trans e1⟩
 ·obtain ⟨o',e1⟩:=I.base.there b o e hx;exact ⟨o',(hs.2 b (Es (En (Ed e) I.ok.above))).trans e1⟩
 ·by_cases hj:j=i
  ·subst hj;rw [List.getElem?_set_self hiσ] at e2;cases e2
  ·rw [List.getElem?_set_ne (Ne.symm hj)] at e2;obtain ⟨u',r',q⟩:=hl j y v' e1 e2 e3;refine ⟨u',r',?_⟩;rcases q with ⟨k,e⟩|⟨k,c,e,z⟩
   ·refine .inl ⟨k,?_⟩;have:y≠n:=fun e=>hj (i4 hN e1 (e ▸ hi));simp [this,e]
   ·exact .inr ⟨k,c,e,z.sameBut hs (cne y c e)⟩
 ·obtain ⟨w',z⟩:=I.cell y c e;exact ⟨w',z.sameBut hs (cne y c e)⟩
 ·obtain ⟨e,n,ne,nf,d⟩:=I.pin p hp;exact ⟨(hs.2 p.1 ne).trans e,n,ne,nf,d⟩
 ·refine (I.hok b ob e).stay (fun c w' hc q=>(hs.2 c ?_).trans q) (fun _ q=>q) fun _ _ q=>q;rintro rfl;rcases hc with rfl|hc
  ·rw [I.free] at e;cases e
  ·rw [I.free] at hc;cases hc
end
section
variable {X:Cx} {body suite:List Stmt} {b₀:Stmt} {tb:(St->XK)->TS} {th:TS} {n cn:Str} {cp hpos pos:Pos} {i:Nat} {C':Addr} {nm':Str} {bm':List Value}
def Ends.drop (D:Ends) (i:Nat):Ends:={ nx:=fun σ H=>D.nx (σ.set i none) H,rt:=D.rt,bk:=fun σ H=>D.bk (σ.set i none) H,ct:=fun σ H=>D.ct (σ.set i none) H }
def uT (K:ZF) (C':Addr) (i:Nat) (th:TS) (D:Ends):St->XK:=fun σ e _ H=>∃ a C d fs nm bm,e=.ref a/\XAt H a C d true fs/\XC K C nm bm/\(Value.ref C::bm).contains (.ref C')=true/\th (D.drop i) (σ.set i (some (.ref a))) H
def C7 (K:ZF) (tb:(St->XK)->TS) (C':Addr) (i:Nat) (th:TS):TS:=fun D σ H=>tb (uT K C' i th D) D σ H
theorem xb {a C C2:Addr} {d d2:Option Addr} {fs:List (Str×V)} {w:World} (x:XAt H a C d true fs) (ok:HOk P w H h) (y:∃ vs:Array Value,h.get? a=some { cls:=.ref C2,dict:=d2,data:=.fields vs }):C=C2/\d=d2:=by
 obtain ⟨⟨vs,a0,h1,_⟩,_⟩:=(show ObjOk P w H h a (.ext (XO a C d true)) from ok a _ x.1);obtain ⟨vs2,h2⟩:=y;rw [h1] at h2;injection h2 with h3;injection h3 with h4 h5;injection h4 with h6;exact ⟨h6,h5⟩
theorem lF {more:List _} (hst:X.stack=X.env::X.outer) (hb:∀ (pn:List (Addr×Obj)) (ES:St->XK),PSs ((X.bear pn).esc ES) body (tb ES)) (hs:∀ (A:Around) (pn:List (Addr×Obj)),PSs (X.suite A pn) (b₀::suite) th)
  (hg:Gl X cn) (hm:X.mg cn=some (.ref C')) (c':XC X.K C' nm' bm') (hN:X.N.Nodup) (hi:X.N[i]?=some n) (hl:X.env.kindOf n=some .local) (hdb:(cn == ("__debug__":Str))=false:=by decide) :
  PS X (.Try body (.ExceptHandler (some (.Name cn cp)) (some n) (b₀::suite) hpos::more) [] [] pos) (C7 X.K tb C' i th):=by
 refine ⟨fun pins s σ H D I h=>?_⟩;have ok:=I.ok;have I0:Inv (X.bear (X.pn++pins)) [] σ H s:=I.alt ok.frames ok.hd (fun p hp=>by rwa [EC] at hp);have back:∀ {A calm xe σ H s},Inv (X.alt A calm (X.pn++pins) xe) [] σ H s->Inv X pins σ H s:=fun J=>J.unalt ok (fun p hp=>by rwa [EC]);refine wpAny_Try_except (wpAny_mono ((hb (X.pn++pins) (uT X.K C' i th D)) [] s σ H D (I0.wish _) h) (fun f s1 h1=>?_) fun e s1 h1=>?_)
 ·cases f with
  | next=>
   obtain ⟨σ',H',J,q⟩:=h1;exact wpAny_pure ⟨σ',H',back J,q⟩
  | brk=>obtain ⟨σ',H',J,q⟩:=h1;exact ⟨σ',H',back J,q⟩
  | cont=>obtain ⟨σ',H',J,q⟩:=h1;exact ⟨σ',H',back J,q⟩
  | ret u=>obtain ⟨v,σ',H',J,r,q⟩:=h1;exact ⟨v,σ',H',back J,r,q⟩
 ·obtain ⟨a,σ1,H1,ea,J,⟨C,d,He,fl⟩,a',Cx',d',fs,nm,bm,e1,xa,c,hc,q⟩:=h1;subst ea;cases e1;have hf:X.env.frame=some X.env.locals:=I.frame1 hst;have hfr:X.A.frames=some (X.env::X.outer):=by rw [ok.frames,hst]
  have hl':s1.heap.FunFrames X.base (X.env::X.outer):=by rw [<-hst];exact J.stack
  refine jz hfr hl' hf fl J.sz (fun b hb=>J.hok.fresh hb) J.pn_lt fun h2 T w x nT fT pT=>eK (s:={ s1 with heap:=h2 }) x fun h3 k x3=>?_;have W:=w.then k;rw [<-hst] at W;have ec:=xb xa J.hok (by obtain ⟨vs,a0,z,_⟩:=fl;exact ⟨vs,z⟩);obtain ⟨rfl,rfl⟩:=ec;have J3:Inv (X.bear (X.pn++pins)) [] σ1 H1 { s1 with heap:=h3 }:=J.wr (h':=h3) W x3 He fT nT (fun p hp z=>pT (by rw [EC] at hp;exact z ▸ List.mem_map_of_mem hp));obtain ⟨q0,N,bs,sn,sub,ab,col,dd,k0,k1,k2,k3,k5,lk⟩:=c.obj;obtain ⟨q0',N',bs',sn',sub',ab',col',dd',k0',k1',k2',k3',k5',lk'⟩:=c'.obj;have hC:=J3.kIn _ _ lk;have hC':=J3.kIn _ _ lk';have J4:Inv (X.suite (X.A.mark (some (.ref a))) (X.pn++pins)) [] σ1 H1 { s1 with heap:=h3 }:=J3.alt (X:=X.bear (X.pn++pins)) ok.frames (fun z=>nomatch z) (fun p hp=>hp);refine wpAny_handleBy_cons (codeAny_handlers_test (dF (X:=X.suite (X.A.mark (some (.ref a))) (X.pn++pins)) J4 hg hm ?_ hdb)) (by intro z;cases z);obtain ⟨vs3,a03,_,_,he3,_⟩:=id x3;refine uS he3 rfl hC hC' (c'.tl.has C' "BaseException" true zk) ?_;rw [hc];simp only [if_true];refine codeAny_handlers_suite_as (eK (s:={ s1 with heap:=h3 }) x3 fun h5 k5' x5=>?_);have J5:Inv (X.suite (X.A.mark (some (.ref a))) (X.pn++pins)) [] σ1 H1 { s1 with heap:=h5 }:=by
   refine J4.wr (h':=h5) (e:=a) (T:=T) ⟨fun b o hb _ _ hT=>k5' b o hb hT,fun b o hb hbf=>⟨o.slots,k5' b o hb fun z=>W.nf (z ▸ hbf)⟩,fun o ho=>?_,W.nf⟩ x5 He fT nT (fun p hp z=>pT (by rw [EC] at hp;exact z ▸ List.mem_map_of_mem hp));obtain ⟨_,_,oT,ts,_,_,_,_,hT,hd,_⟩:=x3;rw [hT] at ho;cases ho;exact ⟨ts,hd⟩
  refine gF (X:=X.suite (X.A.mark (some (.ref a))) (X.pn++pins)) (v:=.ref a) J5 hN hi (.inl hl) rfl (fun s6 J6=>?_) (.inr hl);refine wpAny_mono ((hs (X.A.mark (some (.ref a))) (X.pn++pins)) [] s6 _ H1 (D.drop i) J6 q) (fun f s7 h7=>?_) fun _ _ z=>False.elim z;have fin:∀ {σ':St} {H':Hp} {R:Unit->Shared->Prop},Inv (X.suite (X.A.mark (some (.ref a))) (X.pn++pins)) [] σ' H' s7->(∀ s8,Inv X pins (σ'.set i none) H' s8->R () s8)->wpAny (model X.prog X.w) X.A (do bindName X.env n .none;unbindBehindTheSuite X.env n hpos) R X.xe s7:=fun {σ' H' R} J7 hR=>by
   obtain ⟨m,hn,hlk⟩:=J7.loc;refine wpAny_nameGoes_keeps hl hn (by rw [ok.kind];rfl) fun h8 v hn8 hs8=>hR _ (back (J7.unset (t':=s7.toks+1) hN hi hn hlk hn8 hs8))
  cases f with
  | next=>obtain ⟨σ',H',J7,q7⟩:=h7;exact fin J7 fun s8 J8=>⟨_,H',J8,q7⟩
  | brk=>obtain ⟨σ',H',J7,q7⟩:=h7;exact fin J7 fun s8 J8=>⟨_,H',J8,q7⟩
  | cont=>obtain ⟨σ',H',J7,q7⟩:=h7;exact fin J7 fun s8 J8=>⟨_,H',J8,q7⟩
  | ret u=>obtain ⟨v,σ',H',J7,r,q7⟩:=h7;exact fin J7 fun s8 J8=>⟨v,_,H',J8,r,q7⟩
end
section
variable {X:Cx}
theorem lG:dO X (binaryOp .Add) (fun x y H Q=>∃ a b xs ys,x=.ref a/\y=.ref b/\H a=some (.tup xs)/\H b=some (.tup ys)/\xs.length+ys.length<=sizeLine/\∀ p H',Same H H'->H' p=some (.tup (xs++ys))->Q (.ref p) H'):=by
 intro pins s σ H x y v u Q I rx ry h;obtain ⟨a,b,xs,ys,rfl,rfl,ha,hb,hz,q⟩:=h;by_cases hx:xs=[]
 ·subst hx;cases rx;cases ry;obtain ⟨its,r1,p1,_⟩:=I.tuple (SqT.of ha);obtain ⟨its2,r2,p2,_⟩:=I.tuple (SqT.of hb);have hv:its=[]:=r1.nil_iff.mpr rfl;obtain ⟨⟨cls,dd,data,sl⟩,ho,hc,n,hd⟩:=id p1;obtain ⟨⟨cls2,dd2,data2,sl2⟩,ho2,hc2,n2,nY⟩:=id p2;simp only at hc hd hc2 nY;subst hc hd hc2 nY;exact concat_meets ⟨_,ho,rfl⟩ ⟨_,ho2,rfl⟩ noFill_tuple_add seq_tuple_add PySem.F.slot_tuple_add PySem.F.entry_tuple_add (PySem.F.args_tuple_add_2 _ _)
   (tuple_addW0 a b its.toArray its2.toArray n n2 dd dd2 sl sl2 (by simp [hv])) ⟨ho,ho2,⟨.ref b,H,I,rfl,q b H (Same.refl _) hb⟩⟩
 ·refine wa pins s σ H _ _ v u Q I rx ry ⟨a,b,xs,ys,rfl,rfl,SqT.of ha,SqT.of hb,hx,hz,fun e=>?_,fun e p np=>?_⟩
  ·subst e;exact q a H (Same.refl _) (by rw [EC];exact ha)
  ·exact q p _ (L3.ah np) ae
end
end L2
namespace L3
open PySem L2
inductive Th
 | non
 | bl (b:Bool)
 | int (i:Int)
 | str (x:Str)
 | tup (l:List Th)
 | lst (l:List Th)
 | dct
mutual
inductive TgV (p:Addr) (H:Hp):V->Th->Prop
 | non:TgV p H .non .non
 | bl (b:Bool):TgV p H (.bl b) (.bl b)
 | int (i:Int):TgV p H (.int i) (.int i)
 | str (x:Str):TgV p H (.str x) (.str x)
 | tup {a:Addr} {xs:List V} {ts:List Th}:H a=some (.tup xs)->TgA p H xs ts->TgV p H (.ref a) (.tup ts)
 | lst {a:Addr} {xs:List V} {ts:List Th}:a≠p->H a=some (.lst xs)->TgA p H xs ts->TgV p H (.ref a) (.lst ts)
 | dct {a:Addr}:a≠p->H a=some (.dK [])->TgV p H (.ref a) .dct
inductive TgA (p:Addr) (H:Hp):List V->List Th->Prop
 | nil:TgA p H [] []
 | cons {v:V} {t:Th} {vs:List V} {ts:List Th}:TgV p H v t->TgA p H vs ts->TgA p H (v::vs) (t::ts)
end
mutual
variable {H H':Hp} {p:Addr}
theorem TgV.same (s:Same H H'):∀ {v:V} {t:Th},TgV p H v t->TgV p H' v t
 | _,_,.non=>.non
 | _,_,.bl b=>.bl b
 | _,_,.int i=>.int i
 | _,_,.str x=>.str x
 | _,_,.tup e t=>.tup (s _ _ e) (TgA.same s t)
 | _,_,.lst n e t=>.lst n (s _ _ e) (TgA.same s t)
 | _,_,.dct n e=>.dct n (s _ _ e)
theorem TgA.same (s:Same H H'):∀ {vs:List V} {ts:List Th},TgA p H vs ts->TgA p H' vs ts
 | _,_,.nil=>.nil
 | _,_,.cons h t=>.cons (TgV.same s h) (TgA.same s t)
end
variable {H:Hp} {p:Addr}
theorem TgA.length:∀ {vs:List V} {ts:List Th},TgA p H vs ts->vs.length=ts.length
 | _,_,.nil=>rfl
 | _,_,.cons _ t=>by simp [TgA.length t]
theorem TgA.get:∀ {vs:List V} {ts:List Th},TgA p H vs ts->∀ {i:Nat} {v:V},vs[i]?=some v->∃ t,ts[i]?=some t/\TgV p H v t
 | _,_,.cons h _,0,_,e=>by
  have e':=Ey e;subst e';exact ⟨_,rfl,h⟩
 | _,_,.cons _ t,i+1,_,e=>TgA.get t (by simpa using e)
theorem TgA.app:∀ {vs us:List V} {ts rs:List Th},TgA p H vs ts->TgA p H us rs->TgA p H (vs++us) (ts++rs)
 | _,_,_,_,.nil,h=>h
 | _,_,_,_,.cons a t,h=>.cons a (TgA.app t h)
theorem TgA.take:∀ {vs:List V} {ts:List Th},TgA p H vs ts->∀ n,TgA p H (vs.take n) (ts.take n)
 | _,_,.nil,n=>by simp;exact .nil
 | _,_,.cons a t,0=>.nil
 | _,_,.cons a t,n+1=>.cons a (TgA.take t n)
theorem TgA.drop:∀ {vs:List V} {ts:List Th},TgA p H vs ts->∀ n,TgA p H (vs.drop n) (ts.drop n)
 | _,_,.nil,n=>by simp;exact .nil
 | _,_,.cons a t,0=>.cons a t
 | _,_,.cons a t,n+1=>TgA.drop t n
variable {t:Th}
theorem TgA.un {xs:List V} {ts:List Th} (h:TgA p H xs (t::ts)):∃ v vs,xs=v::vs/\TgV p H v t/\TgA p H vs ts:=by
 cases h with
 | cons a b=>exact ⟨_,_,rfl,a,b⟩
def Th.isInt:Th->Bool
 | .int _=>true
 | _=>false
def Th.isNum:Th->Bool
 | .int _=>true
 | .bl _=>true
 | _=>false
def Th.isBl:Th->Bool
 | .bl _=>true
 | _=>false
def wn (lo hi:Int):Th->Bool
 | .int i=>decide (lo<=i) && decide (i<=hi)
 | _=>false
def tyN:Th->String
 | .non=>"NoneType"
 | .bl _=>"bool"
 | .int _=>"int"
 | .str _=>"str"
 | .tup _=>"tuple"
 | .lst _=>"list"
 | .dct=>"dict"
variable {v:V} {K:ZF}
theorem TgV.ty (h:TgV p H v t):fX K H v (.type (tyN t)):=by
 cases h with
 | non=>exact .non
 | bl b=>exact .bl b
 | int i=>exact .int i
 | str x=>exact .str x
 | tup e _=>exact .tup e
 | lst _ e _=>exact .lst e
 | dct _ e=>exact .dK e
theorem kit_int (t:Th):PySem.W.kitOne K (.type (tyN t)) (.type "int")=some t.isNum:=by cases t<;>rfl
theorem kit_bool (t:Th):PySem.W.kitOne K (.type (tyN t)) (.type "bool")=some t.isBl:=by cases t<;>rfl
inductive spWholeT (vs:List V) (H:Hp) (Q:VK) (Z3:XK):Prop
 | mk (p:Addr) (v:V) (t:Th):vs=[v]->TgV p H v t->Q (.bl t.isInt) H->spWholeT vs H Q Z3
inductive spWithinT (vs:List V) (H:Hp) (Q:VK) (Z3:XK):Prop
 | mk (p:Addr) (v:V) (t:Th) (lo hi:Int):vs=[v,.int lo,.int hi]->TgV p H v t->Q (.bl (wn lo hi t)) H->spWithinT vs H Q Z3
variable {P:Program} {w:World} {K:ZF} {mg:Str->Option Value} {base:Heap} {C fi aS aE aF aO:Addr} {t1 t2 t3 t4 t5 tM:Tok}
variable {fd:FuncData} {f:Addr}
theorem ok_wholeT (F:Fun K "is_whole" "is_whole" kR f fd) (T:Bl mg):FnOk P w K mg base bM 1 f fd ["thing"] spWholeT:=by
 have ZZ:=qz
 walk_at "o"
 ·obtain ⟨p,v,t,rfl,tv,q⟩:=h;refine ⟨_,af (ao (dZ (ar (cw (T:="int")) (by rfl) T.isinstance br (aa (pv 0) (aa (pe_ty (by rfl) T.int EJ) ac))) (di (sC (ar (cw (T:="bool")) (by rfl) T.isinstance br (aa (pv 0) (aa (pe_ty (by rfl) T.bool cJ) ac))))))),?_⟩;refine ⟨_,rfl,v,_,_,rfl,tv.ty,kit_int t,_,rfl,?_⟩;cases hn:t.isNum with
  | true=>
   refine bC ⟨_,rfl,v,_,_,rfl,tv.ty,kit_bool t,_,rfl,?_⟩;have e:(!t.isBl)=t.isInt:=by cases t<;>first|rfl|cases hn
   rw [e];exact q
  | false=>
   have e:t.isInt=false:=by cases t<;>first|rfl|cases hn
   rw [e] at q;exact aZ q
theorem ok_withinT (F:Fun K "is_within" "is_within" iQ f fd) (WH:Fn P w K mg base "is_whole" 1 ["thing"] spWholeT):FnOk P w K mg base bM 2 f fd ["thing","low","high"] spWithinT:=by
 have ZZ:=no
 walk_at "o"
 ·obtain ⟨p,v,t,lo,hi,rfl,tv,q⟩:=h;refine ⟨_,af (ao (dZ (aI WH hr rfl (aa (pv 0) ac)) (di (i7 eT eT (pv 1) (pv 0) (pv 2))))),?_⟩;refine ⟨_,rfl,p,v,t,rfl,tv,_,rfl,?_⟩;cases tv with
  | int i=>
   refine bC ⟨_,rfl,_,rfl,_,_,rfl,rfl,_,rfl,kM (fun h=>?_) (fun h=>?_)⟩
   ·refine ⟨_,rfl,_,_,rfl,rfl,?_⟩;have h':decide (lo<=i)=true:=h;have q':Q (.bl (decide (lo<=i) && decide (i<=hi))) H:=q;rw [h',Bool.true_and] at q';exact q'
   ·have h':decide (lo<=i)=false:=Ez.mpr h;have q':Q (.bl (decide (lo<=i) && decide (i<=hi))) H:=q;rw [h',Bool.false_and] at q';exact q'
  | non=>exact aZ q
  | bl b=>exact aZ q
  | str x=>exact aZ q
  | tup a b=>exact aZ q
  | lst a b c=>exact aZ q
  | dct a b=>exact aZ q
def stF (at_:V) (p m c l:Addr) (wd ft:V):List (Str×V):=[("at",at_),("places",.ref p),("marks",.ref m),("cells",.ref c),("pile",.ref l),("word",wd),("fault",ft)]
structure Sc (K:ZF) (C:Addr):Prop where
 cl:Cls K C
 n1:NoAttr K C "at"
 n2:NoAttr K C "places"
 n3:NoAttr K C "marks"
 n4:NoAttr K C "cells"
 n5:NoAttr K C "pile"
 n6:NoAttr K C "word"
 n7:NoAttr K C "fault"
structure StO (C:Addr) (H:Hp) (x dx p m c l:Addr) (at_:V) (ps ms cs ls:List V) (wd ft:V):Prop where
 ex:H x=some (.ins C dx (stF at_ p m c l wd ft))
 ep:H p=some (.lst ps)
 em:H m=some (.lst ms)
 ec:H c=some (.lst cs)
 el:H l=some (.lst ls)
 pm:p≠m
 pc:p≠c
 pl:p≠l
 mc:m≠c
 ml:m≠l
 cl:c≠l
variable {ps ms cs ls:List V} {at_:V}
theorem StO.same {H H':Hp} {x dx p m c l:Addr} {wd ft:V} (h:StO C H x dx p m c l at_ ps ms cs ls wd ft) (s:Same H H'):StO C H' x dx p m c l at_ ps ms cs ls wd ft:=⟨s _ _ h.ex,s _ _ h.ep,s _ _ h.em,s _ _ h.ec,s _ _ h.el,h.pm,h.pc,h.pl,h.mc,h.ml,h.cl⟩
inductive TldV (H:Hp) (v at_:V) (ps ms cs ls:List V) (wd ft:V):Prop
 | mk (t tp tm tc tl:Addr):v=.ref t->H t=some (.tup [wd,ft,at_,.ref tp,.ref tm,.ref tc,.ref tl])->H tp=some (.tup ps)->H tm=some (.tup ms)->H tc=some (.tup cs)->H tl=some (.tup ls)->TldV H v at_ ps ms cs ls wd ft
variable {x dx q:Addr}
theorem st_step {fs:List (Str×V)} {ys:List V} {f:Str} (hx:H x=some (.ins C dx fs)) (nq:H q=none):∃ H',upd (upd H q (.lst ys)) x (.ins C dx (aJ f (.ref q) fs))=H'/\H' x=some (.ins C dx (aJ f (.ref q) fs))/\H' q=some (.lst ys)/\ButO x H H':=by
 have qx:q≠x:=by
  rintro rfl;rw [nq] at hx;cases hx
 refine ⟨_,rfl,ae,?_,fun b o hb hn=>?_⟩
 ·rw [aj qx];exact ae
 ·rw [aj hn];exact ah nq _ _ hb
abbrev sSInit:Stmt:=bo (ci 57) 0
abbrev sStTold:Stmt:=bo (ci 57) 1
abbrev sCopied:Stmt:=bo (ci 57) 2
abbrev sEndWith:Stmt:=bo (ci 57) 3
inductive spSI (C:Addr) (vs:List V) (H:Hp) (Q:VK) (Z3:XK):Prop
 | mk (x dx p m c l:Addr) (at_:V) (ps ms cs ls:List V):vs=[.ref x,at_,.ref p,.ref m,.ref c,.ref l]->H x=some (.ins C dx [])->H p=some (.lst ps)->H m=some (.lst ms)->H c=some (.lst cs)->H l=some (.lst ls)->(∀ H' p' m' c' l',StO C H' x dx p' m' c' l' at_ ps ms cs ls (.str "on") .non->H p'=none->H m'=none->H c'=none->H l'=none->ButO x H H'->Q .non H')->spSI C vs H Q Z3
inductive spTold (C:Addr) (vs:List V) (H:Hp) (Q:VK) (Z3:XK):Prop
 | mk (x dx p m c l:Addr) (at_:V) (ps ms cs ls:List V) (wd ft:V):vs=[.ref x]->StO C H x dx p m c l at_ ps ms cs ls wd ft->(∀ v H',Same H H'->TldV H' v at_ ps ms cs ls wd ft->Q v H')->spTold C vs H Q Z3
inductive spCopied (C:Addr) (vs:List V) (H:Hp) (Q:VK) (Z3:XK):Prop
 | mk (x dx p m c l:Addr) (at_:V) (ps ms cs ls:List V) (wd ft:V):vs=[.ref x]->StO C H x dx p m c l at_ ps ms cs ls wd ft->(∀ H' x' dx' p' m' c' l',Same H H'->StO C H' x' dx' p' m' c' l' at_ ps ms cs ls wd ft->H x'=none->H p'=none->H m'=none->H c'=none->H l'=none->Q (.ref x') H')->spCopied C vs H Q Z3
inductive spEndWith (C:Addr) (vs:List V) (H:Hp) (Q:VK) (Z3:XK):Prop
 | mk (x dx p m c l:Addr) (at_:V) (ps ms cs ls:List V) (wd ft wd' ft':V):vs=[.ref x,wd',ft']->StO C H x dx p m c l at_ ps ms cs ls wd ft->(∀ H',StO C H' x dx p m c l at_ ps ms cs ls wd' ft'->ButO x H H'->Q .non H')->spEndWith C vs H Q Z3
theorem scSI:ak ["self","at","places","marks","cells","pile"] ["self","at","places","marks","cells","pile"] (ai sSInit):=ck zk
theorem ok_sI (F:Fun K "__init__" "State.__init__" sSInit f fd) (T:Sc K C) (B:Bl mg):FnOk P w K mg base bM 1 f fd ["self","at","places","marks","cells","pile"] (spSI C):=by
 have ZZ:=scSI
 walk_at "o"
 ·obtain ⟨x,dx,p,m,c,l,at_,ps,ms,cs,ls,rfl,hx,hp,hm,hc,hl,q⟩:=h;refine ⟨_,ad (bz (pv 0) (pv 1) rfl) (ad (bz (pv 0) (aN cu (by rfl) B.list bF (aa (pv 2) ac)) rfl) (ad (bz (pv 0) (aN cu (by rfl) B.list bF (aa (pv 3) ac)) rfl) (ad (bz (pv 0) (aN cu (by rfl) B.list bF (aa (pv 4) ac)) rfl) (ad (bz (pv 0) (aN cu (by rfl) B.list bF (aa (pv 5) ac)) rfl) (ad (bz (pv 0) aC rfl) (af (bz (pv 0) bN rfl))))))),?_⟩;have nx:∀ {a:Addr} {us:List V},H a=some (.lst us)->a≠x:=fun h e=>by rw [e,hx] at h;cases h
  refine ⟨_,rfl,_,rfl,x,C,dx,_,rfl,hx,T.cl,T.n1,(by show 0 < 1000;decide),?_⟩;have x1:(upd H x (.ins C dx (aJ "at" at_ []))) x=some (.ins C dx (aJ "at" at_ [])):=ae;have b1:ButO x H (upd H x (.ins C dx (aJ "at" at_ []))):=fun b o e n=>by rw [aj n];exact e
  generalize upd H x (.ins C dx (aJ "at" at_ []))=H1 at *;refine ⟨_,rfl,p,ps,rfl,.inl (SqL.of (b1 _ _ hp (nx hp))),fun p' np=>⟨_,rfl,x,C,dx,_,rfl,ah np _ _ x1,T.cl,T.n2,(by show 1 < 1000;decide),?_⟩⟩;obtain ⟨H2,e,x2,p2,b2⟩:=st_step (f:="places") (ys:=ps) x1 np;rw [e];clear e;have px:p'≠x:=(aq x1 np).symm;have b2:=b1.trans b2;refine ⟨_,rfl,m,ms,rfl,.inl (SqL.of (b2 _ _ hm (nx hm))),fun m' nm=>⟨_,rfl,x,C,dx,_,rfl,ah nm _ _ x2,T.cl,T.n3,(by show 2 < 1000;decide),?_⟩⟩;obtain ⟨H3,e,x3,m3,b3⟩:=st_step (f:="marks") (ys:=ms) x2 nm;rw [e];clear e;have mx:m'≠x:=(aq x2 nm).symm;have pm:=aq p2 nm;have p3:=b3 _ _ p2 px;have b3:=b2.trans b3;refine ⟨_,rfl,c,cs,rfl,.inl (SqL.of (b3 _ _ hc (nx hc))),fun c' nc=>⟨_,rfl,x,C,dx,_,rfl,ah nc _ _ x3,T.cl,T.n4,(by show 3 < 1000;decide),?_⟩⟩;obtain ⟨H4,e,x4,c4,b4⟩:=st_step (f:="cells") (ys:=cs) x3 nc;rw [e];clear e;have cx:c'≠x:=(aq x3 nc).symm;have pc:=aq p3 nc;have mc:=aq m3 nc;have p4:=b4 _ _ p3 px;have m4:=b4 _ _ m3 mx;have b4:=b3.trans b4;refine ⟨_,rfl,l,ls,rfl,.inl (SqL.of (b4 _ _ hl (nx hl))),fun l' nl=>⟨_,rfl,x,C,dx,_,rfl,ah nl _ _ x4,T.cl,T.n5,(by show 4 < 1000;decide),?_⟩⟩;obtain ⟨H5,e,x5,l5,b5⟩:=st_step (f:="pile") (ys:=ls) x4 nl;rw [e];clear e;have lx:l'≠x:=(aq x4 nl).symm;have pl:=aq p4 nl;have ml:=aq m4 nl;have cl:=aq c4 nl;have p5:=b5 _ _ p4 px;have m5:=b5 _ _ m4 mx;have c5:=b5 _ _ c4 cx;have b5:=b4.trans b5;refine ⟨_,rfl,x,C,dx,_,rfl,x5,T.cl,T.n6,(by show 5 < 1000;decide),?_⟩;refine ⟨_,rfl,x,C,dx,_,rfl,ae,T.cl,T.n7,(by show 6 < 1000;decide),?_⟩;have un':∀ {H':Hp} {a:Addr},ButO x H H'->a≠x->H' a=none->H a=none:=fun {H' a} b ne h=>by
   cases e:H a with
   | none=>rfl
   | some o=>rw [b _ _ e ne] at h;cases h
  refine q _ p' m' c' l' ⟨by rw [ae];rfl,?_,?_,?_,?_,pm,pc,pl,mc,ml,cl⟩ (un' b1 px np) (un' b2 mx nm) (un' b3 cx nc) (un' b4 lx nl) fun b o hb hn=>by rw [aj hn,aj hn];exact b5 _ _ hb hn
  ·rw [aj px,aj px];exact p5
  ·rw [aj mx,aj mx];exact m5
  ·rw [aj cx,aj cx];exact c5
  ·rw [aj lx,aj lx];exact l5
theorem none_of {H H':Hp} {a:Addr} (s:Same H H') (h:H' a=none):H a=none:=by
 cases e:H a with
 | none=>rfl
 | some o=>rw [s _ _ e] at h;cases h
theorem StO.putX {x dx p m c l:Addr} {wd ft:V} (h:StO C H x dx p m c l at_ ps ms cs ls wd ft) (at' wd' ft':V):StO C (upd H x (.ins C dx (stF at' p m c l wd' ft'))) x dx p m c l at' ps ms cs ls wd' ft':=by
 have nx:∀ {a:Addr} {us:List V},H a=some (.lst us)->a≠x:=fun g e=>by rw [e,h.ex] at g;cases g
 exact ⟨ae,by rw [aj (nx h.ep)];exact h.ep,by rw [aj (nx h.em)];exact h.em,by rw [aj (nx h.ec)];exact h.ec,by rw [aj (nx h.el)];exact h.el,h.pm,h.pc,h.pl,h.mc,h.ml,h.cl⟩
theorem put_at {at_ wd ft v:V} {p m c l:Addr}:aJ "at" v (stF at_ p m c l wd ft)=stF v p m c l wd ft:=rfl
theorem put_wd {at_ wd ft v:V} {p m c l:Addr}:aJ "word" v (stF at_ p m c l wd ft)=stF at_ p m c l v ft:=rfl
theorem put_ft {at_ wd ft v:V} {p m c l:Addr}:aJ "fault" v (stF at_ p m c l wd ft)=stF at_ p m c l wd v:=rfl
theorem buto_upd {o:HO}:ButO x H (upd H x o):=fun b u e n=>by rw [aj n];exact e
theorem scTold:ak ["self","lists"] ["self"] (ai sStTold):=ck zk
theorem ok_told (F:Fun K "told" "State.told" sStTold f fd) (T:Sc K C) (B:Bl mg):FnOk P w K mg base bM 1 f fd ["self"] (spTold C):=by
 have ZZ:=scTold
 walk_at "o"
 ·obtain ⟨x,dx,p,m,c,l,at_,ps,ms,cs,ls,wd,ft,rfl,hO,q⟩:=h;refine ⟨_,ad (aA (i:=1) scTold.nd rfl (Or.inl rfl) (aW (aa (aN aX (by rfl) B.tuple aY (aa (ax (pv 0) rfl) ac)) (aa (aN aX (by rfl) B.tuple aY (aa (ax (pv 0) rfl) ac)) (aa (aN aX (by rfl) B.tuple aY (aa (ax (pv 0) rfl) ac)) (aa (aN aX (by rfl) B.tuple aY (aa (ax (pv 0) rfl) ac)) ac)))))) (af (ao (aL lG (aW (aa (ax (pv 0) rfl) (aa (ax (pv 0) rfl) (aa (ax (pv 0) rfl) ac)))) (pv 1)))),?_⟩;refine ⟨_,rfl,x,C,dx,_,_,rfl,hO.ex,T.cl,T.n2,rfl,p,ps,rfl,.inl ⟨SqL.of hO.ep,fun tp n1=>?_⟩⟩;generalize zz:upd H tp _=H1;have ⟨s1,e1⟩:=nw n1 zz;clear zz;have h1:=hO.same s1;refine ⟨_,rfl,x,C,dx,_,_,rfl,h1.ex,T.cl,T.n3,rfl,m,ms,rfl,.inl ⟨SqL.of h1.em,fun tm n2=>?_⟩⟩;generalize zz:upd H1 tm _=H2;have ⟨s2,e2⟩:=nw n2 zz;clear zz;have h2:=h1.same s2;refine ⟨_,rfl,x,C,dx,_,_,rfl,h2.ex,T.cl,T.n4,rfl,c,cs,rfl,.inl ⟨SqL.of h2.ec,fun tc n3=>?_⟩⟩;generalize zz:upd H2 tc _=H3;have ⟨s3,e3⟩:=nw n3 zz;clear zz;have h3:=h2.same s3;refine ⟨_,rfl,x,C,dx,_,_,rfl,h3.ex,T.cl,T.n5,rfl,l,ls,rfl,.inl ⟨SqL.of h3.el,fun tl n4=>?_⟩⟩;generalize zz:upd H3 tl _=H4;have ⟨s4,e4⟩:=nw n4 zz;clear zz;refine ⟨zlx,fun t4 n5=>?_⟩;have s5:=ah (o:=.tup [.ref tp,.ref tm,.ref tc,.ref tl]) n5;have e5:(upd H4 t4 (.tup [.ref tp,.ref tm,.ref tc,.ref tl])) t4=some (.tup [.ref tp,.ref tm,.ref tc,.ref tl]):=ae;generalize upd H4 t4 (.tup [V.ref tp,.ref tm,.ref tc,.ref tl])=H5 at *;have h5:=(h3.same s4).same s5;refine ⟨_,rfl,x,C,dx,_,_,rfl,h5.ex,T.cl,T.n6,rfl,_,rfl,x,C,dx,_,_,rfl,h5.ex,T.cl,T.n7,rfl,_,rfl,x,C,dx,_,_,rfl,h5.ex,T.cl,T.n1,rfl,zlx,fun t5 n6=>?_⟩;generalize zz:upd H5 t5 _=H6;have ⟨s6,e6⟩:=nw n6 zz;clear zz;refine ⟨_,rfl,t5,t4,_,_,rfl,rfl,e6,s6 _ _ e5,zlx,fun t7 H7 s7 e7=>?_⟩;have s57:=s5.trans (s6.trans s7);exact q _ _ (s1.trans (s2.trans (s3.trans (s4.trans s57)))) ⟨t7,tp,tm,tc,tl,rfl,e7,s57 _ _ (s4 _ _ (s3 _ _ (s2 _ _ e1))),s57 _ _ (s4 _ _ (s3 _ _ e2)),s57 _ _ (s4 _ _ e3),s57 _ _ e4⟩
theorem scEndWith:ak ["self","word","fault"] ["self","word","fault"] (ai sEndWith):=ck zk
theorem ok_endWith (F:Fun K "end_with" "State.end_with" sEndWith f fd) (T:Sc K C):FnOk P w K mg base bM 1 f fd ["self","word","fault"] (spEndWith C):=by
 have ZZ:=scEndWith
 walk_at "o"
 ·obtain ⟨x,dx,p,m,c,l,at_,ps,ms,cs,ls,wd,ft,wd',ft',rfl,hO,q⟩:=h;refine ⟨_,ad (bz (pv 0) (pv 1) rfl) (af (bz (pv 0) (pv 2) rfl)),?_⟩;refine ⟨_,rfl,_,rfl,x,C,dx,_,rfl,hO.ex,T.cl,T.n6,(by show 7 < 1000;decide),?_⟩;rw [put_wd];have h1:=hO.putX at_ wd' ft;refine ⟨_,rfl,_,rfl,x,C,dx,_,rfl,h1.ex,T.cl,T.n7,(by show 7 < 1000;decide),?_⟩;rw [put_ft];exact q _ (h1.putX at_ wd' ft') (buto_upd.trans buto_upd)
theorem scCopied:ak ["self","other"] ["self"] (ai sCopied):=ck zk
theorem ok_copied {fd fdi:FuncData} (F:Fun K "copied" "State.copied" sCopied f fd) (T:Sc K C) (MK:Mk K C fi) (mgS:mg "State"=some (.ref C)) (IN:FnOk P w K mg base bM 1 fi fdi ["self","at","places","marks","cells","pile"] (spSI C)) (bI:Binds K fdi ["self","at","places","marks","cells","pile"] []):FnOk P w K mg base bM 3 f fd ["self"] (spCopied C):=by
 have ZZ:=scCopied
 walk_at "o"
 ·obtain ⟨x,dx,p,m,c,l,at_,ps,ms,cs,ls,wd,ft,rfl,hO,q⟩:=h;refine ⟨_,ad (aA (i:=1) scCopied.nd rfl (Or.inl rfl) (dG MK IN hr.m rfl mgS bI .nil cm (aa (ax (pv 0) rfl) (aa (ax (pv 0) rfl) (aa (ax (pv 0) rfl) (aa (ax (pv 0) rfl) (aa (ax (pv 0) rfl) ac))))))) (ad (bz (pv 1) (ax (pv 0) rfl) rfl) (ad (bz (pv 1) (ax (pv 0) rfl) rfl) (af (ao (pv 1))))),?_⟩;refine ⟨_,rfl,x,C,dx,_,_,rfl,hO.ex,T.cl,T.n1,rfl,_,rfl,x,C,dx,_,_,rfl,hO.ex,T.cl,T.n2,rfl,_,rfl,x,C,dx,_,_,rfl,hO.ex,T.cl,T.n3,rfl,_,rfl,x,C,dx,_,_,rfl,hO.ex,T.cl,T.n4,rfl,_,rfl,x,C,dx,_,_,rfl,hO.ex,T.cl,T.n5,rfl,fun x' dx' nx nd ne=>?_⟩;have sx:=aV (o:=.ins C dx' []) nx (ah (o:=.own x') nd);refine ⟨x',dx',p,m,c,l,at_,ps,ms,cs,ls,rfl,ae,sx _ _ hO.ep,sx _ _ hO.em,sx _ _ hO.ec,sx _ _ hO.el,fun H1 p' m' c' l' h1 np nm nc nl b1=>⟨rfl,?_⟩⟩;have s1:Same H H1:=cL nx sx b1;have hx:=s1 _ _ hO.ex;have xx:x≠x':=aq hO.ex nx;refine ⟨_,rfl,x,C,dx,_,_,rfl,hx,T.cl,T.n6,rfl,_,rfl,x',C,dx',_,rfl,h1.ex,T.cl,T.n6,(by show 7 < 1000;decide),?_⟩;rw [put_wd];have h2:=h1.putX at_ wd .non;refine ⟨_,rfl,x,C,dx,_,_,rfl,(by rw [aj xx];exact hx),T.cl,T.n7,rfl,_,rfl,x',C,dx',_,rfl,h2.ex,T.cl,T.n7,(by show 7 < 1000;decide),?_⟩;rw [put_ft];exact ⟨_,rfl,q _ x' dx' p' m' c' l' (aV nx (aV nx s1)) (h2.putX at_ wd ft) nx (none_of sx np) (none_of sx nm) (none_of sx nc) (none_of sx nl)⟩
abbrev sListTo:Stmt:=ci 61
abbrev sListOf:Stmt:=ci 60
abbrev sHighest:Stmt:=ci 59
def lsT (many hi:Int):Th->Bool
 | .lst l=>decide ((l.length:Int)<=many) && l.all (wn 0 hi)
 | _=>false
def loT (many hi:Int):Th->Bool
 | .lst l=>decide ((l.length:Int)=many) && l.all (wn 0 hi)
 | _=>false
def Th.isLst:Th->Bool
 | .lst _=>true
 | _=>false
theorem kit_lst (t:Th):PySem.W.kitOne K (.type (tyN t)) (.type "list")=some t.isLst:=by cases t<;>rfl
inductive spListTo (vs:List V) (H:Hp) (Q:VK) (Z3:XK):Prop
 | mk (p:Addr) (v:V) (t:Th) (many hi:Int):vs=[v,.int many,.int hi]->many<=1000->TgV p H v t->(∀ H',Same H H'->Q (.bl (lsT many hi t)) H')->spListTo vs H Q Z3
inductive spListOf (vs:List V) (H:Hp) (Q:VK) (Z3:XK):Prop
 | mk (p:Addr) (v:V) (t:Th) (many hi:Int):vs=[v,.int many,.int hi]->many<=1000->TgV p H v t->(∀ H',Same H H'->Q (.bl (loT many hi t)) H')->spListOf vs H Q Z3
inductive spHighest (C:Addr) (vs:List V) (H:Hp) (Q:VK) (Z3:XK):Prop
 | mk (v:V) (D:Fm):vs=[v]->TabV C H v D->D.width<=24->Q (.int (2 ^ D.width - 1)) H->spHighest C vs H Q Z3
theorem scListTo:ak ["thing","many","high"] ["thing","many","high"] (ai sListTo):=ck zk
theorem ndLT:(["number","high"]:List Str).Nodup:=by decide +kernel
theorem ok_listTo (F:Fun K "is_list_to" "is_list_to" sListTo f fd) (B:Bl mg) (WI:Fn P w K mg base "is_within" 2 ["thing","low","high"] spWithinT):FnOk P w K mg base bM 3 f fd ["thing","many","high"] spListTo:=by
 have ZZ:=scListTo
 walk_at "o"
 ·obtain ⟨p,v,t,many,hi,rfl,hm,tv,q⟩:=h;have sz:(1000:Nat)<=sizeLine:=by decide
  refine ⟨_,ad (aR (PW.pt (cH (bx (bj (ar (cw (T:="list")) (by rfl) B.isinstance br (aa (pv 0) (aa (pe_ty (by rfl) B.list bF) ac)))))
     (cG (am i6 (ar aK (by rfl) B.len Ei (aa (pv 0) ac)) (pv 1))))) (af (ao cj)) ay)
   (af (ao (ar (gM rfl) (by rfl) B.all fL (aa (fe (N':=["number","high"]) (ix:=[none,some 2]) (sc0:=ai sListTo) (N:=["thing","many","high"]) rfl zk (ed (pv 0))
    (fun C' cl s H fp=>aw (i:=0) ndLT rfl (Or.inl rfl) (.inr rfl))
    (fun _ _ _ _ _=>cX) (fun C' cl s H fp=>aI WI hr rfl (aa (pv 0) (aa ag (aa (pv 1) ac))))) ac)))),?_⟩
  refine ⟨_,rfl,v,_,_,rfl,tv.ty,kit_lst t,_,rfl,?_⟩;have qf:lsT many hi t=false->∀ H',Same H H'->Q (.bl false) H':=fun e H' s'=>by have:=q H' s';rw [e] at this;exact this
  by_cases ht:t.isLst=true;case neg=>
   have ht':t.isLst=false:=Ez.mpr ht;rw [ht'];exact bC (bC (qf (by cases t<;>first|rfl|cases ht') H (Same.refl _)))
  rw [ht];refine aZ ?_;cases tv with
  | non=>cases ht
  | bl=>cases ht
  | int=>cases ht
  | str=>cases ht
  | tup=>cases ht
  | dct=>cases ht
  | @lst a xs ts na e ta=>
   have lx:=ta.length;refine ⟨_,rfl,a,_,rfl,.inl (SqL.of e),_,rfl,_,_,rfl,rfl,_,rfl,?_⟩;by_cases hl:(ts.length:Int)<=many;case neg=>exact bR (decide_eq_true zo) (qf (by show (decide _ && _)=false;rw [decide_eq_false hl];rfl) H (Same.refl _))
   refine bE (decide_eq_false zo) ⟨_,rfl,a,rfl,⟨_,SqL.of e⟩,?_⟩;refine kO (K:=K) (a:=a) (xs:=xs) (fun i ys H'=>H'=H/\ys=((ts.take i).map (wn 0 hi)).map V.bl) ⟨rfl,rfl⟩ (fun i ys H' hi' ⟨eh,ey⟩=>⟨by rw [eh];exact SqL.of e,by rw [ey];simp;lia⟩) ?_ ?_
   ·rintro i y ys H2 hy ⟨rfl,rfl⟩;obtain ⟨ty,hty,tvy⟩:=ta.get hy;have hlt:=(D7.mp hy).1;refine ⟨⟨rfl,trivial⟩,?_⟩;refine ⟨_,rfl,_,rfl,p,y,ty,0,hi,rfl,tvy,Nx.mk hlt ⟨rfl,?_⟩⟩;rw [List.take_add_one,hty];simp
   ·rintro ys H2 ⟨rfl,rfl⟩ l3 n3;have s3:=ah (o:=.lst (((ts.take xs.length).map (wn 0 hi)).map V.bl)) n3;refine ⟨l3,_,rfl,SqL.of ae,?_⟩;have:Q (.bl (decide ((ts.length:Int)<=many) && ts.all (wn 0 hi))) _:=q _ s3;rw [decide_eq_true hl,Bool.true_and] at this;rw [lx,ER,List.all_map] at *;exact this
theorem scListOf:ak ["thing","many","high"] ["thing","many","high"] (ai sListOf):=ck zk
theorem ok_listOf (F:Fun K "is_list_of" "is_list_of" sListOf f fd) (B:Bl mg) (LT:Fn P w K mg base "is_list_to" 3 ["thing","many","high"] spListTo):FnOk P w K mg base bM 4 f fd ["thing","many","high"] spListOf:=by
 have ZZ:=scListOf
 walk_at "o"
 ·obtain ⟨p,v,t,many,hi,rfl,hm,tv,q⟩:=h;refine ⟨_,af (ao (dZ (aI LT hr rfl (aa (pv 0) (aa (pv 1) (aa (pv 2) ac)))) (di (cf bY (ar aK (by rfl) B.len Ei (aa (pv 0) ac)) (pv 1))))),?_⟩;refine ⟨_,rfl,_,rfl,_,rfl,p,v,t,many,hi,rfl,hm,tv,fun H1 s1=>⟨_,rfl,?_⟩⟩;have q1:=q H1 s1;cases hb:lsT many hi t with
  | false=>
   refine aZ ?_;have e:loT many hi t=false:=by
    cases t with
    | lst l=>
     have hb:(decide ((l.length:Int)<=many) && l.all (wn 0 hi))=false:=hb;show (decide ((l.length:Int)=many) && l.all (wn 0 hi))=false;by_cases h1:(l.length:Int)=many
     ·rw [decide_eq_true zo,Bool.true_and] at hb;rw [hb,Bool.and_false]
     ·rw [decide_eq_false h1,Bool.false_and]
    | _=>rfl
   rw [e] at q1;exact q1
  | true=>
   refine bC ?_;cases tv with
   | @lst a xs ts na e ta=>
    have lx:=ta.length;refine ⟨_,rfl,a,_,rfl,.inl (SqL.of (s1 _ _ e)),_,rfl,rfl,?_⟩;have q1:Q (.bl (decide ((ts.length:Int)=many) && ts.all (wn 0 hi))) H1:=q1;have hb:(decide ((ts.length:Int)<=many) && ts.all (wn 0 hi))=true:=hb;rw [EA] at hb;rw [hb.2,Bool.and_true] at q1;rw [iM,lx];have e:((ts.length:Int) == many)=decide ((ts.length:Int)=many):=rfl;rw [e];exact q1
   | _=>cases hb
theorem scHighest:ak ["table"] ["table"] (ai sHighest):=ck zk
theorem ok_highest (F:Fun K "highest_word" "highest_word" sHighest f fd) (T:Tc K C):FnOk P w K mg base bM 1 f fd ["table"] (spHighest C):=by
 have ZZ:=scHighest
 walk_at "o"
 ·obtain ⟨v,D,rfl,⟨a,dx,pp,pm,pn,pk,us,rfl,ho,hpp,hpm,hpn,hpk,hus⟩,hw,q⟩:=h;refine ⟨_,af (ao (aL en (aL kE ag (ax (pv 0) rfl)) ag)),?_⟩;refine ⟨_,rfl,a,C,dx,_,_,rfl,ho,T.cl,T.na _ zd,rfl,_,_,rfl,rfl,⟨zo,zo,zd⟩,_,_,rfl,rfl,?_⟩;have e:(1:Int)*2 ^ ((D.width:Int)).toNat - 1=2 ^ D.width - 1:=by
   have e1:((D.width:Int)).toNat=D.width:=by lia
   rw [e1,Int.one_mul]
  rw [e];exact q
abbrev sRInitX:Stmt:=bo (ci 30) 0
abbrev sNSInit:Stmt:=bo (ci 37) 0
abbrev sNBInit:Stmt:=bo (ci 38) 0
abbrev sULInit:Stmt:=bo (ci 39) 0
abbrev bmR (R:Addr):List Value:=.ref R::XB.bmV
structure Xr (K:ZF) (mg:Str->Option Value) (R fR:Addr):Prop where
 r:XC K R "RowsError" XB.bmV
 ri:yi K R "__init__" fR
 mR:mg "RowsError"=some (.ref R)
 val:mg "ValueError"=none
structure Xk (K:ZF) (mg:Str->Option Value) (R cK fK:Addr) (nm fld:Str):Prop where
 k:XC K cK nm (bmR R)
 na:NoAttr K cK fld
 mkx:C5 K cK fK
 mK:mg nm=some (.ref cK)
inductive spR (K:ZF) (vs:List V) (H:Hp) (Q:VK) (Z3:XK):Prop
 | mk (e x C d r fs nm bm:_):vs=[.ref e,x]->XAt H e C d r fs->XC K C nm bm->Q .non H->spR K vs H Q Z3
inductive spNK (C:Addr) (fld:Str) (vs:List V) (H:Hp) (Q:VK) (Z3:XK):Prop
 | mk (e x:_):vs=[.ref e,x]->XAt H e C none false []->(∀ H' d,XAt H' e C (some d) false [(fld,x)]->(∀ b o,H b=some o->b≠e->H' b=some o)->Q .non H')->spNK C fld vs H Q Z3
section
variable {P:Program} {w:World} {K:ZF} {mg:Str->Option Value} {base:Heap} {R fR cK fK C:Addr} {nm fld:Str}
theorem scRX:ak ["self","text"] ["self","text"] (ai sRInitX):=ck zk
theorem ok_RX (F:Fun K "__init__" "RowsError.__init__" sRInitX f fd) (T:Xr K mg R fR):FnOk P w K mg base bM 1 f fd ["self","text"] (spR K):=by
 have ZZ:=scRX
 walk_at "o"
 ·obtain ⟨e,x,C,d,r,fs,nm,bm,rfl,xa,c,q⟩:=h;refine ⟨_,af (aQ (w8 rfl T.val (aa (pv 0) (aa (pv 1) ac)))),?_⟩;exact ⟨_,rfl,_,rfl,e,[x],C,d,r,fs,nm,bm,rfl,(by show 1<=1000;decide),xa,c,q⟩
inductive RIX (P:Program) (w:World) (K:ZF) (mg:Str->Option Value) (base:Heap) (fR:Addr):Prop
 | mk (fd:_):Binds K fd ["self","text"] []->FnOk P w K mg base bM 1 fR fd ["self","text"] (spR K)->RIX P w K mg base fR
theorem pe_riX {X:Cx} {p apos pos:Pos} {e:Expr} {es:List Expr} {t:TA} (h:RIX X.prog X.w X.K X.mg X.base fR) (T:Xr X.K X.mg R fR) (hr:Room 1 X.A) (hg:Gl X "RowsError") (ha:PA X (e::es) t)
  (hst:starEach (e::es) X.env=(false,eval e X.env)::starEach es X.env:=by rfl) (hpl:(backTo pos (starEach es X.env)).any (·.1)=false:=by rfl) (pl:Sem Bool)
  (ht:eval (.Call (.Attribute (.Name "RowsError" p) "__init__" apos) (e::es) [] pos) X.env=(do
   let ov <-eval (.Name "RowsError" p) X.env
   standAt apos.atName
   let (f,first) <-holding [ov] (getMethod ov "__init__" pl)
   callWith pos f first (backTo pos (starEach (e::es) X.env)) (backToKw pos (keywordEach [] X.env)))) :
  PE X (.Call (.Attribute (.Name "RowsError" p) "__init__" apos) (e::es) [] pos) (sP (spR X.K) [] E0 t):=by
 obtain ⟨fd,hb,F⟩:=h;exact uO (pl:=pl) T.ri F hr hg T.mR hb cm ha zd hst hpl ht
theorem scNS:ak ["self","thing"] ["self","thing"] (ai sNSInit):=ck zk
theorem scNB:ak ["self","thing"] ["self","thing"] (ai sNBInit):=ck zk
theorem scUL:ak ["self","word"] ["self","word"] (ai sULInit):=ck zk
theorem ok_NS (F:Fun K "__init__" "NoState.__init__" sNSInit f fd) (TR:Xr K mg R fR) (T:Xk K mg R cK fK "NoState" "thing") (RI':RIX P w K mg base fR):FnOk P w K mg base bM 2 f fd ["self","thing"] (spNK cK "thing"):=by
 have ZZ:=scNS
 walk_at "o"
 ·obtain ⟨e,x,rfl,xa,q⟩:=h;refine ⟨_,ad (aQ (pe_riX RI' TR hr rfl (aa (pv 0) (aa aC ac)) rfl rfl _ rfl)) (af (lE (pv 0) (pv 1))),?_⟩;refine ⟨_,rfl,e,_,cK,none,false,[],_,bmR R,rfl,xa,T.k,?_⟩;refine ⟨_,rfl,_,rfl,e,cK,none,false,[],_,bmR R,rfl,xa,T.k,T.na,(by show 0 < 1000;decide),fun H3 d' xs=>?_⟩;exact q H3 d' xs.at_ fun b o hb ne=>xs.keep b o hb ne (fun z=>nomatch z)
theorem ok_NB (F:Fun K "__init__" "NoBudget.__init__" sNBInit f fd) (TR:Xr K mg R fR) (T:Xk K mg R cK fK "NoBudget" "thing") (RI':RIX P w K mg base fR):FnOk P w K mg base bM 2 f fd ["self","thing"] (spNK cK "thing"):=by
 have ZZ:=scNB
 walk_at "o"
 ·obtain ⟨e,x,rfl,xa,q⟩:=h;refine ⟨_,ad (aQ (pe_riX RI' TR hr rfl (aa (pv 0) (aa aC ac)) rfl rfl _ rfl)) (af (lE (pv 0) (pv 1))),?_⟩;refine ⟨_,rfl,e,_,cK,none,false,[],_,bmR R,rfl,xa,T.k,?_⟩;refine ⟨_,rfl,_,rfl,e,cK,none,false,[],_,bmR R,rfl,xa,T.k,T.na,(by show 0 < 1000;decide),fun H3 d' xs=>?_⟩;exact q H3 d' xs.at_ fun b o hb ne=>xs.keep b o hb ne (fun z=>nomatch z)
theorem ok_UL (F:Fun K "__init__" "Unlike.__init__" sULInit f fd) (TR:Xr K mg R fR) (T:Xk K mg R cK fK "Unlike" "word") (RI':RIX P w K mg base fR):FnOk P w K mg base bM 2 f fd ["self","word"] (spNK cK "word"):=by
 have ZZ:=scUL
 walk_at "o"
 ·obtain ⟨e,x,rfl,xa,q⟩:=h;refine ⟨_,ad (aQ (pe_riX RI' TR hr rfl (aa (pv 0) (aa aC ac)) rfl rfl _ rfl)) (af (lE (pv 0) (pv 1))),?_⟩;refine ⟨_,rfl,e,_,cK,none,false,[],_,bmR R,rfl,xa,T.k,?_⟩;refine ⟨_,rfl,_,rfl,e,cK,none,false,[],_,bmR R,rfl,xa,T.k,T.na,(by show 0 < 1000;decide),fun H3 d' xs=>?_⟩;exact q H3 d' xs.at_ fun b o hb ne=>xs.keep b o hb ne (fun z=>nomatch z)
def Refuse (cK:Addr) (fld:Str) (z:V) (H:Hp) (E:XK):Prop:=∀ e d H',Same H H'->H e=none->XAt H' e cK (some d) true [(fld,z)]->E (.ref e) none H'
theorem raise_it {z:V} {H H1:Hp} {E:XK} {te:TE} {D:Ends} {σ:St} (TX:Xk K mg R cK fK nm fld) (s1:Same H H1) (qf:Refuse cK fld z H E) (ht:∀ Q:VK,Q z H1->te σ H1 Q):uR K (uN cK (spNK cK fld) E0 (sO te yI)) (fun _=>E) D σ H1:=by
 refine ht _ fun e he=>⟨e,z,rfl,⟨ae,by show 0<=1000;decide,rfl⟩,fun H2 d xa k=>⟨rfl,e,cK,some d,_,nm,bmR R,rfl,xa,TX.k,?_⟩⟩;obtain ⟨x1,x2,x3,x4⟩:=xa;have hn:=none_of s1 he;refine qf e d _ (fun b o hb=>?_) hn ⟨ae,x2,x3,by rw [aj x3];exact x4⟩;have ne:b≠e:=aq hb hn;rw [aj ne];exact k b o (by rw [aj ne];exact s1 _ _ hb) ne
end
end L3
namespace L2
open PySem PySem.Spec PyProof.Rows
structure FunDs (K:ZF) (x qual:Str) (st:Stmt) (ds:Array Value) (f:Addr) (fd:FuncData):Prop where
 ex:∃ (oc:Value) (od:Option Addr) (kV doc pm:Value) (an:Option Addr) (cdv ct:Value) (osl:Array (Option Value)) (d:Addr) (o:Obj) (n:Nat),
  fd=PySem.W.fnOf x qual (cv st) (bP st) (ai st) (.ref d) kV doc pm an cdv ct/\K.lookup f=some ⟨oc,od,.func fd,osl⟩/\PySem.W.codeIn K cdv qual=true/\K.lookup d=some o/\o.data=.seq ds n
 kp:PySem.W.keepIn K (.ref f)=true
theorem FunDs.okX {P:Program} {w:World} {K:ZF} {mg:Str->Option Value} {base:Heap} {x qual:Str} {st:Stmt} {ds:Array Value} {f:Addr} {fd:FuncData} {N ps:List Str} {k:Nat} {sp:Sp} (F:FunDs K x qual st ds f fd) (S:ak N ps (ai st)) (len:∀ vs H Q E,sp vs H Q E->vs.length=ps.length)
  (hbody:∀ (cdv:Value) (A:Around) (outer:List Env) (s:Shared) (H:Hp) (vs:List V) (Q:VK) (E:XK),Room k (A.deeper (envOfC qual (ai st) s.heap.objs.size f cdv))->sp vs H Q E->
   ∃ t,PSs ((jc (iw P w) P w K mg base N qual (ai st) f cdv A outer s H E).esc fun _=>E) (bP st) t/\t { nx:=fun _ H'=>Q .non H',rt:=Q } (start N vs) H):FnOk P w K mg base (iw P w) (k+1) f fd ps sp:=by
 obtain ⟨oc,od,kV,doc,pm,an,cdv,ct,osl,d,o,n,rfl,lk,hcd,_⟩:=F.ex;refine qh lk hcd S len fun A outer s H vs Q E hr hsp=>?_;obtain ⟨t,h,q⟩:=hbody cdv A outer s H vs Q E hr hsp;exact ⟨t,h.wishTo uQ,q⟩
end L2
namespace L3
open PySem L2
abbrev cz:Stmt:=ci 58
def jR (n:Nat):Th->Th
 | .non=>.lst (List.replicate n (.int 0))
 | t=>t
def Th.num:Th->Int
 | .int i=>i
 | _=>0
def cF:Th->List V
 | .lst l=>l.map fun t=>V.int t.num
 | _=>[]
def lH (ex:Bool) (n:Nat) (hi:Int):Th->Bool
 | .non=>true
 | t=>if ex then loT n hi t else lsT n hi t
def bW:List (Bool×V)->Option V
 | []=>none
 | (true,_)::r=>bW r
 | (false,v)::_=>some v
def uU (D:Fm) (ta tp tm tc tl:Th) (a p m c l:V):List (Bool×V):=[(wn 0 999 ta,a),(lH true D.places.length (2 ^ D.width - 1) tp,p),(lH true D.marks.length 1 tm,m),(lH true D.cells (2 ^ D.width - 1) tc,c),(lH false D.depth 999 tl,l)]
structure Sec (q:Addr) (H:Hp) (p z:V) (n:Nat) (t:Th):Prop where
 tv:TgV q H z (jR n t)
 nz:t≠.non->z=p
variable {t:Th} {n:Nat} {p z:V} {H H':Hp} {q:Addr}
theorem Sec.same (h:Sec q H p z n t) (s:Same H H'):Sec q H' p z n t:=⟨h.1.same s,h.2⟩
theorem iY (h:TgV q H p t) (hn:t≠.non):Sec q H p p n t:=⟨by cases t<;>first|exact absurd rfl hn|exact h,fun _=>rfl⟩
theorem iZ:∀ n:Nat,TgA q H (List.replicate n (.int 0)) (List.replicate n (.int 0))
 | 0=>.nil
 | n+1=>.cons (.int 0) (iZ n)
theorem i0 {l:Addr} (ne:l≠q) (e:H l=some (.lst (List.replicate n (.int 0)))):Sec q H .non (.ref l) n .non:=⟨.lst ne e (iZ n),fun z=>absurd rfl z⟩
theorem dJ {l0:Addr} {k:Int} {Q:VK} (ek:k=n) (hn:n<=1000) (e0:H l0=some (.lst [.int 0])) (q:∀ l1,H l1=none->Q (.ref l1) (upd H l1 (.lst (List.replicate n (.int 0))))):wf (.ref l0) (.int k) H Q:=by
 subst ek;have sz:(1000:Nat)<=sizeLine:=by decide
 refine ⟨l0,n,[.int 0],rfl,rfl,e0,zo,zo,by simp;lia,fun p hp=>?_⟩;have:=q p hp;rw [E6,List.flatten_replicate_singleton];exact this
theorem iH (n:Nat):(0:Int)<=2 ^ n - 1:=by
 have:(0:Int) < 2 ^ n:=Int.pow_pos zd;lia
variable {hi:Int}
theorem lI (h:0<=hi) (n:Nat):(List.replicate n (Th.int 0)).all (wn 0 hi)=true:=by
 rw [EQ];intro x hx;rw [(List.mem_replicate.mp hx).2];simp [wn,h]
theorem uV (h:0<=hi):loT n hi (jR n t)=lH true n hi t:=by
 cases t with
 | non=>
  show (decide _ && _)=true;rw [lI h,Ex,decide_eq_true rfl];rfl
 | _=>rfl
theorem Bn {many hi:Int} (hm:many=n) (h:0<=hi):lsT many hi (jR 0 t)=lH false n hi t:=by
 subst hm;cases t with
 | non=>
  show (decide ((0:Nat)<=(n:Int)) && true)=true;rw [Bool.and_true];exact decide_eq_true zo
 | _=>rfl
variable {ex:Bool}
theorem lJ (h:lH ex n hi t=false):t≠.non:=by
 rintro rfl;cases h
theorem jC:∀ {xs:List V} {ts:List Th},TgA q H xs ts->ts.all (wn 0 hi)=true->xs=ts.map fun t=>V.int t.num
 | _,_,.nil,_=>rfl
 | _,_,.cons (t:=t) h r,e=>by
  rw [List.all_cons,EA] at e;rw [jC r e.2];cases h with
  | int i=>rfl
  | _=>cases e.1
theorem i3 {n m:Nat} (h:Sec q H p z n t) (hh:0<=hi) (b:lH ex m hi t=true):∃ a,z=.ref a/\H a=some (.lst (cF (jR n t))):=by
 have h1:=h.1;have:∃ l,jR n t=.lst l/\l.all (wn 0 hi)=true:=by
  cases t with
  | non=>exact ⟨_,rfl,lI hh n⟩
  | lst l=>
   refine ⟨l,rfl,?_⟩;cases ex with
   | true=>exact (EA _ _ ▸ (show (decide _ && l.all (wn 0 hi))=true from b)).2
   | false=>exact (EA _ _ ▸ (show (decide _ && l.all (wn 0 hi))=true from b)).2
  | _=>cases ex<;>cases b
 obtain ⟨l,e,al⟩:=this;rw [e] at h1 ⊢;cases h1 with
 | lst na e0 ta=>exact ⟨_,rfl,by rw [e0,jC ta al];rfl⟩
structure Zh (mg:Str->Option Value) (tm:Tok):Prop where
 hr:mg "HIGHEST_ROW"=some (.int 999 tm)
inductive uW (C:Addr) (Cs:Addr) (cS:Addr) (vs:List V) (H:Hp) (Q:VK) (E:XK):Prop
 | mk (q:Addr) (o:HO) (v a p m c l:V) (D:Fm) (ta tp tm tc tl:Th):vs=[v,a,p,m,c,l]->H q=some o->TabV C H v D->D.width<=24->D.places.length<=4->D.marks.length<=3->D.cells<=64->D.depth<=8->TgV q H a ta->TgV q H p tp->TgV q H m tm->TgV q H c tc->TgV q H l tl->(∀ z,bW (uU D ta tp tm tc tl a p m c l)=some z->Refuse cS "thing" z H E)->(bW (uU D ta tp tm tc tl a p m c l)=none->∀ H' x dx p' m' c' l',Same H H'->StO Cs H' x dx p' m' c' l' a (cF (jR D.places.length tp)) (cF (jR D.marks.length tm)) (cF (jR D.cells tc)) (cF (jR 0 tl)) (.str "on") .non->H x=none->H p'=none->H m'=none->H c'=none->H l'=none->Q (.ref x) H')->uW C Cs cS vs H Q E
section
variable {P:Program} {w:World} {K:ZF} {mg:Str->Option Value} {base:Heap} {C Cs R cS fS:Addr} {tk:Tok} {ds:Array Value}
theorem scSO:ak ["table","at","places","marks","cells","pile"] ["table","at","places","marks","cells","pile"] (ai cz):=ck zk
theorem Bo {f fi:Addr} {fd fdi fdK:FuncData} (F:FunDs K "state_of" "state_of" cz ds f fd) (T:Tc K C) (B:Bl mg) (Z:Zh mg tk) (TX:Xk K mg R cS fS "NoState" "thing") (FK:FnOk P w K mg base bM 2 fS fdK ["self","thing"] (spNK cS "thing")) (BK:Binds K fdK ["self","thing"] []) (MK:Mk K Cs fi) (mgS:mg "State"=some (.ref Cs)) (IN:FnOk P w K mg base bM 1 fi fdi ["self","at","places","marks","cells","pile"] (spSI Cs)) (bI:Binds K fdi ["self","at","places","marks","cells","pile"] [])
  (WI:Fn P w K mg base "is_within" 2 ["thing","low","high"] spWithinT) (LT:Fn P w K mg base "is_list_to" 3 ["thing","many","high"] spListTo) (LO:Fn P w K mg base "is_list_of" 4 ["thing","many","high"] spListOf) (HW:Fn P w K mg base "highest_word" 1 ["table"] (spHighest C)):FnOk P w K mg base (iw P w) 5 f fd ["table","at","places","marks","cells","pile"] (uW C Cs cS):=by
 refine F.okX scSO (fun vs H Q E h=>?_) (fun cdv A outer s H vs Q E hr h=>?_)
 ·obtain ⟨q,o,v,a,p,m,c,l,D,ta,tp,tm,tc,tl,rfl,_⟩:=h;rfl
 ·obtain ⟨q,o,v,a,p,m,c,l,D,ta,tp,tm,tc,tl,rfl,hq,hT,hw,h4,h3,h64,h8,tva,tv0,tv1,tv2,tv3,R,G⟩:=h;obtain ⟨a0,dx,pp,pm,pn,pk,us,hv,ho,hpp,hpm,hpn,hpk,hus⟩:=id hT;subst hv;have lenP:((au D.places).length:Int)=(D.places.length:Nat):=by unfold au;rw [D8]
  have lenM:((au D.marks).length:Int)=(D.marks.length:Nat):=by unfold au;rw [D8]
  refine ⟨_,ad (aR (bx (bj (aI WI hr.m rfl (aa (pv 1) (aa ag (aa (bD (v:=.int 999) rfl Z.hr ⟨_,rfl⟩) ac)))))) (af (df (dc TX.k TX.mkx FK hr.m rfl TX.mK BK cm zd (aa (pv 1) ac)) bZ rfl)) ay)
   (bJ (fun σ H'=>∃ z2:V,σ=[some (.ref a0),some a,some z2,some m,some c,some l]/\Same H H'/\Sec q H' p z2 D.places.length tp) (aA (i:=2) scSO.nd rfl (Or.inl rfl) (cZ (am eU (pv 2) bN) (aL eB (aT (aa ag ac)) (ar aK (by rfl) B.len Ei (aa (ax (pv 0) rfl) ac))) (pv 2))) (ad (aR (bx (bj (aI LO hr.m rfl (aa (pv 2) (aa (ar aK (by rfl) B.len Ei (aa (ax (pv 0) rfl) ac)) (aa (aI HW hr.m rfl (aa (pv 0) ac)) ac)))))) (af (df (dc TX.k TX.mkx FK hr.m rfl TX.mK BK cm zd (aa (pv 2) ac)) bZ rfl)) ay)
   (bJ (fun σ H'=>∃ z2 z3:V,σ=[some (.ref a0),some a,some z2,some z3,some c,some l]/\Same H H'/\Sec q H' p z2 D.places.length tp/\Sec q H' m z3 D.marks.length tm) (aA (i:=3) scSO.nd rfl (Or.inl rfl) (cZ (am eU (pv 3) bN) (aL eB (aT (aa ag ac)) (ar aK (by rfl) B.len Ei (aa (ax (pv 0) rfl) ac))) (pv 3))) (ad (aR (bx (bj (aI LO hr.m rfl (aa (pv 3) (aa (ar aK (by rfl) B.len Ei (aa (ax (pv 0) rfl) ac)) (aa ag ac)))))) (af (df (dc TX.k TX.mkx FK hr.m rfl TX.mK BK cm zd (aa (pv 3) ac)) bZ rfl)) ay)
   (bJ (fun σ H'=>∃ z2 z3 z4:V,σ=[some (.ref a0),some a,some z2,some z3,some z4,some l]/\Same H H'/\Sec q H' p z2 D.places.length tp/\Sec q H' m z3 D.marks.length tm/\Sec q H' c z4 D.cells tc) (aA (i:=4) scSO.nd rfl (Or.inl rfl) (cZ (am eU (pv 4) bN) (aL eB (aT (aa ag ac)) (ax (pv 0) rfl)) (pv 4))) (ad (aR (bx (bj (aI LO hr.m rfl (aa (pv 4) (aa (ax (pv 0) rfl) (aa (aI HW hr.m rfl (aa (pv 0) ac)) ac)))))) (af (df (dc TX.k TX.mkx FK hr.m rfl TX.mK BK cm zd (aa (pv 4) ac)) bZ rfl)) ay)
   (bJ (fun σ H'=>∃ z2 z3 z4 z5:V,σ=[some (.ref a0),some a,some z2,some z3,some z4,some z5]/\Same H H'/\Sec q H' p z2 D.places.length tp/\Sec q H' m z3 D.marks.length tm/\Sec q H' c z4 D.cells tc/\Sec q H' l z5 0 tl) (aA (i:=5) scSO.nd rfl (Or.inl rfl) (cZ (am eU (pv 5) bN) (aT ac) (pv 5))) (ad (aR (bx (bj (aI LT hr.m rfl (aa (pv 5) (aa (ax (pv 0) rfl) (aa (bD (v:=.int 999) rfl Z.hr ⟨_,rfl⟩) ac)))))) (af (df (dc TX.k TX.mkx FK hr.m rfl TX.mK BK cm zd (aa (pv 5) ac)) bZ rfl)) ay)
   (af (ao (dG MK IN hr.m rfl mgS bI .nil cm (aa (pv 1) (aa (pv 2) (aa (pv 3) (aa (pv 4) (aa (pv 5) ac)))))))))))))))),?_⟩
  refine ⟨_,rfl,q,a,ta,0,999,rfl,tva,_,rfl,?_⟩;by_cases ba:wn 0 999 ta=true;case neg=>
   have bf:=Ez.mpr ba;rw [bf];exact bC (raise_it (D:={ nx:=fun _ _=>True,rt:=fun _ _=>True }) TX (Same.refl H) (R _ (by unfold uU;rw [bf];rfl)) fun Q' h=>⟨_,rfl,h⟩)
  rw [ba];refine aZ ?_;refine ⟨?_,?_⟩;rotate_left
  ·refine ⟨_,rfl,rfl,_,rfl,?_⟩;by_cases hn:tp=.non
   ·subst hn;cases tv0;refine bC ⟨zlx,fun l0 n0=>?_⟩;have so:=ah (o:=.lst [.int 0]) n0;have e0:(upd H l0 (.lst [.int 0])) l0=some (.lst [.int 0]):=ae;generalize upd H l0 (.lst [V.int 0])=Hz at *;have sz:=(Same.refl H).trans so;refine ⟨_,rfl,a0,C,dx,_,_,rfl,sz _ _ ho,T.cl,T.na _ zd,rfl,pp,_,rfl,.inr (SqT.of (sz _ _ hpp)),dJ lenP zo e0 fun l1 n1=>?_⟩;have sy:=ah (o:=.lst (List.replicate D.places.length (.int 0))) n1;exact ⟨.ref l1,rfl,sz.trans sy,i0 (aq (sz _ _ hq) n1).symm ae⟩
   ·refine bE (decide_eq_false fun e=>?_) ⟨_,rfl,p,rfl,(Same.refl H),iY (tv0.same (Same.refl H)) hn⟩;subst e;cases tv0;exact hn rfl
  rintro σ H1 ⟨z2,rfl,s1,S0⟩;refine ⟨_,rfl,_,rfl,a0,C,dx,_,_,rfl,s1 _ _ ho,T.cl,T.na _ zd,rfl,pp,_,rfl,.inr (SqT.of (s1 _ _ hpp)),_,rfl,.ref a0,D,rfl,hT.same s1,hw,q,z2,_,_,_,rfl,(by rw [lenP];lia),S0.1,fun H9 s9=>⟨_,rfl,?_⟩⟩;rw [lenP];rw [uV (by exact iH D.width)];by_cases b0:lH true D.places.length (2 ^ D.width - 1) tp=true;case neg=>
   have bf:=Ez.mpr b0;have hz:=S0.2 (lJ bf);rw [bf];exact bC (raise_it (D:={ nx:=fun _ _=>True,rt:=fun _ _=>True }) TX (s1.trans s9) (R _ (by unfold uU;rw [ba,bf];rfl)) fun Q' h=>⟨_,rfl,hz ▸ h⟩)
  rw [b0];refine aZ ?_
  replace S0:=S0.same s9
  replace s1:=s1.trans s9
  clear s9;clear H1;obtain ⟨H1,eH⟩:∃ h,h=H9:=⟨_,rfl⟩;subst eH;refine ⟨?_,?_⟩;rotate_left
  ·refine ⟨_,rfl,rfl,_,rfl,?_⟩;by_cases hn:tm=.non
   ·subst hn;cases tv1;refine bC ⟨zlx,fun l0 n0=>?_⟩;have so:=ah (o:=.lst [.int 0]) n0;have e0:(upd H1 l0 (.lst [.int 0])) l0=some (.lst [.int 0]):=ae;generalize upd H1 l0 (.lst [V.int 0])=Hz at *;have sz:=s1.trans so;refine ⟨_,rfl,a0,C,dx,_,_,rfl,sz _ _ ho,T.cl,T.na _ zd,rfl,pm,_,rfl,.inr (SqT.of (sz _ _ hpm)),dJ lenM zo e0 fun l1 n1=>?_⟩;have sy:=ah (o:=.lst (List.replicate D.marks.length (.int 0))) n1;exact ⟨z2,.ref l1,rfl,sz.trans sy,S0.same (so.trans sy),i0 (aq (sz _ _ hq) n1).symm ae⟩
   ·refine bE (decide_eq_false fun e=>?_) ⟨_,rfl,z2,m,rfl,s1,S0,iY (tv1.same s1) hn⟩;subst e;cases tv1;exact hn rfl
  rintro σ H2 ⟨z2,z3,rfl,s2,S0,S1⟩;refine ⟨_,rfl,_,rfl,a0,C,dx,_,_,rfl,s2 _ _ ho,T.cl,T.na _ zd,rfl,pm,_,rfl,.inr (SqT.of (s2 _ _ hpm)),q,z3,_,_,_,rfl,(by rw [lenM];lia),S1.1,fun H9 s9=>⟨_,rfl,?_⟩⟩;rw [lenM];rw [uV zd];by_cases b1:lH true D.marks.length 1 tm=true;case neg=>
   have bf:=Ez.mpr b1;have hz:=S1.2 (lJ bf);rw [bf];exact bC (raise_it (D:={ nx:=fun _ _=>True,rt:=fun _ _=>True }) TX (s2.trans s9) (R _ (by unfold uU;rw [ba,b0,bf];rfl)) fun Q' h=>⟨_,rfl,hz ▸ h⟩)
  rw [b1];refine aZ ?_
  replace S0:=S0.same s9
  replace S1:=S1.same s9
  replace s2:=s2.trans s9
  clear s9;clear H2;obtain ⟨H2,eH⟩:∃ h,h=H9:=⟨_,rfl⟩;subst eH;refine ⟨?_,?_⟩;rotate_left
  ·refine ⟨_,rfl,rfl,_,rfl,?_⟩;by_cases hn:tc=.non
   ·subst hn;cases tv2;refine bC ⟨zlx,fun l0 n0=>?_⟩;have so:=ah (o:=.lst [.int 0]) n0;have e0:(upd H2 l0 (.lst [.int 0])) l0=some (.lst [.int 0]):=ae;generalize upd H2 l0 (.lst [V.int 0])=Hz at *;have sz:=s2.trans so;refine ⟨_,rfl,a0,C,dx,_,_,rfl,sz _ _ ho,T.cl,T.na _ zd,rfl,dJ rfl zo e0 fun l1 n1=>?_⟩;have sy:=ah (o:=.lst (List.replicate D.cells (.int 0))) n1;exact ⟨z2,z3,.ref l1,rfl,sz.trans sy,S0.same (so.trans sy),S1.same (so.trans sy),i0 (aq (sz _ _ hq) n1).symm ae⟩
   ·refine bE (decide_eq_false fun e=>?_) ⟨_,rfl,z2,z3,c,rfl,s2,S0,S1,iY (tv2.same s2) hn⟩;subst e;cases tv2;exact hn rfl
  rintro σ H3 ⟨z2,z3,z4,rfl,s3,S0,S1,S2⟩;refine ⟨_,rfl,_,rfl,a0,C,dx,_,_,rfl,s3 _ _ ho,T.cl,T.na _ zd,rfl,_,rfl,.ref a0,D,rfl,hT.same s3,hw,q,z4,_,_,_,rfl,zo,S2.1,fun H9 s9=>⟨_,rfl,?_⟩⟩;rw [uV (by exact iH D.width)];by_cases b2:lH true D.cells (2 ^ D.width - 1) tc=true;case neg=>
   have bf:=Ez.mpr b2;have hz:=S2.2 (lJ bf);rw [bf];exact bC (raise_it (D:={ nx:=fun _ _=>True,rt:=fun _ _=>True }) TX (s3.trans s9) (R _ (by unfold uU;rw [ba,b0,b1,bf];rfl)) fun Q' h=>⟨_,rfl,hz ▸ h⟩)
  rw [b2];refine aZ ?_
  replace S0:=S0.same s9
  replace S1:=S1.same s9
  replace S2:=S2.same s9
  replace s3:=s3.trans s9
  clear s9;clear H3;obtain ⟨H3,eH⟩:∃ h,h=H9:=⟨_,rfl⟩;subst eH;refine ⟨?_,?_⟩;rotate_left
  ·refine ⟨_,rfl,rfl,_,rfl,?_⟩;by_cases hn:tl=.non
   ·subst hn;cases tv3;refine bC ⟨zlx,fun l1 n1=>?_⟩;have sy:=ah (o:=.lst []) n1;exact ⟨z2,z3,z4,.ref l1,rfl,s3.trans sy,S0.same sy,S1.same sy,S2.same sy,i0 (aq (s3 _ _ hq) n1).symm ae⟩
   ·refine bE (decide_eq_false fun e=>?_) ⟨_,rfl,z2,z3,z4,l,rfl,s3,S0,S1,S2,iY (tv3.same s3) hn⟩;subst e;cases tv3;exact hn rfl
  rintro σ H4 ⟨z2,z3,z4,z5,rfl,s4,S0,S1,S2,S3⟩;refine ⟨_,rfl,_,rfl,a0,C,dx,_,_,rfl,s4 _ _ ho,T.cl,T.na _ zd,rfl,q,z5,_,_,_,rfl,zo,S3.1,fun H9 s9=>⟨_,rfl,?_⟩⟩;rw [Bn (n:=D.depth) rfl zd];by_cases b3:lH false D.depth 999 tl=true;case neg=>
   have bf:=Ez.mpr b3;have hz:=S3.2 (lJ bf);rw [bf];exact bC (raise_it (D:={ nx:=fun _ _=>True,rt:=fun _ _=>True }) TX (s4.trans s9) (R _ (by unfold uU;rw [ba,b0,b1,b2,bf];rfl)) fun Q' h=>⟨_,rfl,hz ▸ h⟩)
  rw [b3];refine aZ ?_
  replace S0:=S0.same s9
  replace S1:=S1.same s9
  replace S2:=S2.same s9
  replace S3:=S3.same s9
  replace s4:=s4.trans s9
  clear s9;clear H4;obtain ⟨H4,eH⟩:∃ h,h=H9:=⟨_,rfl⟩;subst eH;obtain ⟨pa,rfl,hp⟩:=i3 S0 (hi:=(2 ^ D.width - 1)) (iH D.width) b0;obtain ⟨ma,rfl,hm⟩:=i3 S1 (hi:=1) zd b1;obtain ⟨ca,rfl,hc⟩:=i3 S2 (hi:=(2 ^ D.width - 1)) (iH D.width) b2;obtain ⟨la,rfl,hl⟩:=i3 S3 (hi:=999) zd b3;refine ⟨_,rfl,_,rfl,_,rfl,_,rfl,_,rfl,fun x dx' nx nd ne=>?_⟩;have sx:=aV (o:=.ins Cs dx' []) nx (ah (o:=.own x) nd);refine ⟨x,dx',pa,ma,ca,la,a,_,_,_,_,rfl,ae,sx _ _ hp,sx _ _ hm,sx _ _ hc,sx _ _ hl,fun H5 p' m' c' l' hO np nm nc nl b5=>⟨rfl,?_⟩⟩;have sxx:=s4.trans sx;exact G (by unfold uU;rw [ba,b0,b1,b2,b3];rfl) H5 x dx' p' m' c' l' (s4.trans (cL nx sx b5)) hO (none_of s4 nx) (none_of sxx np) (none_of sxx nm) (none_of sxx nc) (none_of sxx nl)
end
abbrev pA:Stmt:=ci 66
abbrev rY:List Str:=["table","at","places","marks","cells","pile"]
abbrev pC (tk:Tok):Array Value:=#[.int 0 tk,.none,.none,.none,.none]
def DS (tk:Tok):List Value->List Value->List Value
 | [u],[w]=>[u,.int 0 tk,.none,.none,w,.none]
 | _,_=>[]
def C8:List V->List V->List V
 | [u],[w]=>[u,.int 0,.non,.non,w,.non]
 | _,_=>[]
variable {tk:Tok} {fd:FuncData} {f:Addr} {K:ZF}
theorem Bp (F:FunDs K "state_of" "state_of" cz (pC tk) f fd):ou K fd rY ["cells"] (DS tk) C8:=by
 obtain ⟨oc,od,kV,doc,pm,an,cdv,ct,osl,d,o,n,rfl,lk,hcd,hd,hs⟩:=F.ex;refine ⟨fun s us ws KX hl=>?_,fun h1 h2=>?_⟩
 ·match us,ws,hl with
  | [u],[w],_=>exact BindsTo.of_defaults rfl (KX d o hd) hs rfl rfl
  | [],_,hl=>cases hl
  | _::_::_,_,hl=>cases hl
  | [_],[],hl=>cases hl
  | [_],_::_::_,hl=>cases hl
 ·cases h1 with
  | nil=>exact .nil
  | cons a r=>
   cases r with
   | cons b r=>exact .nil
   | nil=>
    cases h2 with
    | nil=>exact .nil
    | cons c r2=>
     cases r2 with
     | cons b r=>exact .nil
     | nil=>exact .cons a (.cons ⟨_,rfl⟩ (.cons rfl (.cons rfl (.cons c (.cons rfl .nil)))))
theorem Bq (F:FunDs K "state_of" "state_of" cz (pC tk) f fd):Binds K fd rY [.int 0 tk,.none,.none,.none,.none]:=by
 obtain ⟨oc,od,kV,doc,pm,an,cdv,ct,osl,d,o,n,rfl,lk,hcd,hd,hs⟩:=F.ex;intro s us KX hl;have hl2:us.length=1:=by rw [D9] at hl;exact Nat.add_right_cancel hl
 clear hl
 match us,hl2 with
 | [a],_=>exact BindsTo.of_defaults rfl (KX d o hd) hs rfl rfl
theorem Br (F:FunDs K "state_of" "state_of" cz (pC tk) f fd):Binds K fd rY []:=by
 obtain ⟨oc,od,kV,doc,pm,an,cdv,ct,osl,d,o,n,rfl,lk,hcd,hd,hs⟩:=F.ex;intro s us KX hl;rw [EC] at hl ⊢
 match us,hl with
 | [a,b,c,d,e,g],_=>exact BindsTo.of_defaults rfl (KX _ o hd) hs rfl rfl
def gQ (n:Nat):Th->Th
 | .lst l=>.lst (l++List.replicate (n - l.length) (.int 0))
 | t=>t
inductive zD (C:Addr) (Cs:Addr) (cS:Addr) (vs:List V) (H:Hp) (Q:VK) (E:XK):Prop
 | mk (q:Addr) (o:HO) (v c:V) (D:Fm) (t:Th):vs=[v,c]->H q=some o->TabV C H v D->D.width<=24->D.places.length<=4->D.marks.length<=3->D.cells<=64->D.depth<=8->TgV q H c t->t≠.non->(lsT D.cells (2 ^ D.width - 1) t=false->Refuse cS "thing" c H E)->(lsT D.cells (2 ^ D.width - 1) t=true->∀ H' x dx p' m' c' l',Same H H'->StO Cs H' x dx p' m' c' l' (.int 0) (List.replicate D.places.length (.int 0)) (List.replicate D.marks.length (.int 0)) (cF (gQ D.cells t)) [] (.str "on") .non->H x=none->H p'=none->H m'=none->H c'=none->H l'=none->Q (.ref x) H')->zD C Cs cS vs H Q E
theorem jD (n:Nat):cF (jR n .non)=List.replicate n (.int 0):=by
 show (List.replicate n (Th.int 0)).map _=_;rw [List.map_replicate];rfl
section
variable {P:Program} {w:World} {K:ZF} {mg:Str->Option Value} {base:Heap} {C Cs R cS fS:Addr} {tk tk0:Tok}
theorem scFS:ak ["table","cells","told"] ["table","cells"] (ai pA):=ck zk
theorem Bs {f fo:Addr} {fd fdo fdK:FuncData} (F:Fun K "first_state" "first_state" pA f fd) (T:Tc K C) (B:Bl mg) (TX:Xk K mg R cS fS "NoState" "thing") (FK:FnOk P w K mg base bM 2 fS fdK ["self","thing"] (spNK cS "thing")) (BK:Binds K fdK ["self","thing"] []) (FO:FunDs K "state_of" "state_of" cz (pC tk0) fo fdo) (mgO:mg "state_of"=some (.ref fo)) (SO:FnOk P w K mg base (iw P w) 5 fo fdo rY (uW C Cs cS))
  (LT:Fn P w K mg base "is_list_to" 3 ["thing","many","high"] spListTo) (HW:Fn P w K mg base "highest_word" 1 ["table"] (spHighest C)):FnOk P w K mg base (iw P w) 6 f fd ["table","cells"] (zD C Cs cS):=by
 refine F.okX scFS (fun vs H Q E h=>?_) (fun cdv A outer s H vs Q E hr h=>?_)
 ·obtain ⟨q,o,v,c,D,t,rfl,_⟩:=h;rfl
 ·obtain ⟨q,o,v,c,D,t,rfl,hq,hT,hw,h4,h3,h64,h8,tv,hn,R,G⟩:=h;obtain ⟨a0,dx,pp,pm,pn,pk,us,hv,ho,hpp,hpm,hpn,hpk,hus⟩:=id hT;subst hv;have sz:(1000:Nat)<=sizeLine:=by decide
  refine ⟨_,ad (aA (i:=2) scFS.nd rfl (Or.inl rfl) (cZ (am eU (pv 1) bN) (aT ac) (pv 1)))
   (ad (aR (bx (bj (aI LT hr.m rfl (aa (pv 2) (aa (ax (pv 0) rfl) (aa (aI HW hr.m rfl (aa (pv 0) ac)) ac)))))) (af (df (dc TX.k TX.mkx FK hr.m rfl TX.mK BK cm zd (aa (pv 1) ac)) bZ rfl)) ay)
   (af (ao (sS SO.calm hr rfl mgO FO.kp (Bp FO) cm (aa (pv 0) ac) (vY (aL gm (pv 2) (aL eB (aT (aa ag ac)) (aL en (ax (pv 0) rfl) (ar aK (by rfl) B.len Ei (aa (pv 2) ac))))) yJ))))),?_⟩
  refine ⟨_,rfl,rfl,_,rfl,bE (decide_eq_false fun e=>?_) ⟨_,rfl,?_⟩⟩
  ·subst e;cases tv;exact hn rfl
  refine ⟨_,rfl,_,rfl,a0,C,dx,_,_,rfl,ho,T.cl,T.na _ zd,rfl,_,rfl,.ref a0,D,rfl,hT,hw,q,c,t,_,_,rfl,zo,tv,fun H1 s1=>⟨_,rfl,?_⟩⟩;by_cases b:lsT D.cells (2 ^ D.width - 1) t=true;case neg=>
   have bf:=Ez.mpr b;rw [bf];exact bC (raise_it (D:={ nx:=fun _ _=>True,rt:=fun _ _=>True }) TX s1 (R bf) fun Q' h=>⟨_,rfl,h⟩)
  rw [b];refine aZ ?_;cases tv with
  | @lst ca xs ts na e ta=>
   have lx:=ta.length;have b':(decide ((ts.length:Int)<=D.cells) && ts.all (wn 0 (2 ^ D.width - 1)))=true:=b;rw [EA,decide_eq_true_eq] at b';obtain ⟨bl,ba⟩:=b';refine ⟨_,rfl,_,rfl,zlx,fun l0 n0=>?_⟩;have so:=ah (o:=.lst [.int 0]) n0;have e0:(upd H1 l0 (.lst [.int 0])) l0=some (.lst [.int 0]):=ae;generalize upd H1 l0 (.lst [V.int 0])=H2 at *;have s2:=s1.trans so;refine ⟨_,rfl,a0,C,dx,_,_,rfl,s2 _ _ ho,T.cl,T.na _ zd,rfl,_,rfl,ca,_,rfl,.inl (SqL.of (s2 _ _ e)),_,_,rfl,rfl,dJ (n:=D.cells - ts.length) (by rw [lx];lia) zo e0 fun l1 n1=>?_⟩;have s3:=ah (o:=.lst (List.replicate (D.cells - ts.length) (.int 0))) n1;have e1:(upd H2 l1 (.lst (List.replicate (D.cells - ts.length) (.int 0)))) l1=some (.lst (List.replicate (D.cells - ts.length) (.int 0))):=ae;generalize upd H2 l1 (.lst (List.replicate (D.cells - ts.length) (V.int 0)))=H3 at *;have s13:=s2.trans s3;refine ⟨ca,l1,_,_,rfl,rfl,s13 _ _ e,e1,(by rw [Ex];lia),fun l2 n2=>?_⟩;have s4:=ah (o:=.lst (xs++List.replicate (D.cells - ts.length) (.int 0))) n2;have e2:(upd H3 l2 (.lst (xs++List.replicate (D.cells - ts.length) (.int 0)))) l2=some (.lst (xs++List.replicate (D.cells - ts.length) (.int 0))):=ae;generalize upd H3 l2 (.lst (xs++List.replicate (D.cells - ts.length) (V.int 0)))=H4 at *;have s14:=s13.trans s4;have hg:bW (uU D (.int 0) .non .non (gQ D.cells (.lst ts)) .non (.int 0) .non .non (.ref l2) .non)=none:=by
    have:lH true D.cells (2 ^ D.width - 1) (gQ D.cells (.lst ts))=true:=by
     show (decide _ && _)=true;rw [List.all_append,ba,lI (iH _),D9,Ex,decide_eq_true zo];rfl
    unfold uU;rw [this];rfl
   refine ⟨q,o,.ref a0,.int 0,.non,.non,.ref l2,.non,D,.int 0,.non,.non,gQ D.cells (.lst ts),.non,rfl,s14 _ _ hq,hT.same s14,hw,h4,h3,h64,h8,.int 0,.non,.non,.lst (aq (s13 _ _ hq) n2).symm e2 ((ta.same s14).app (iZ _)),.non,fun z hz=>(by rw [hg] at hz;cases hz),fun _ H5 x dx' p' m' c' l' s5 hO nx np nm nc nl=>?_⟩;rw [jD,jD] at hO;exact G b H5 x dx' p' m' c' l' (s14.trans s5) hO (none_of s14 nx) (none_of s14 np) (none_of s14 nm) (none_of s14 nc) (none_of s14 nl)
  | non=>exact absurd rfl hn
  | _=>cases b
end
end L3
namespace L2
open PySem PySem.Spec PyProof.Rows
theorem uX {X:Cx} {e:Expr}:PE X e (fun _ _ _=>False):=⟨fun _ _ _ _ _ _ h=>h.elim⟩
end L2
namespace L3
open PySem L2
abbrev uY:Stmt:=bo (ci 95) 3
abbrev jE:Stmt:=bo (ci 53) 0
abbrev lK:Stmt:=ci 24
abbrev fP:Stmt:=ci 27
abbrev iy:Stmt:=ci 63
abbrev iz:Stmt:=ci 62
structure Wc (K:ZF) (C:Addr):Prop where
 cl:Cls K C
 n1:NoAttr K C "table"
 n2:NoAttr K C "state"
 n3:NoAttr K C "operands"
inductive lL (C:Addr) (vs:List V) (H:Hp) (Q:VK) (Z3:XK):Prop
 | mk (v:V) (D:Fm) (x:Kn):vs=[v,.str x.name]->TabV C H v D->gA D->x∈D.kinds->(∀ u,LeafV H u->Q u H)->lL C vs H Q Z3
inductive pE (Cw:Addr) (vs:List V) (H:Hp) (Q:VK) (Z3:XK):Prop
 | mk (x dx:Addr) (a b c:V):vs=[.ref x,a,b,c]->H x=some (.ins Cw dx [])->(∀ H',ButO x H H'->Q .non H')->pE Cw vs H Q Z3
inductive jF (vs:List V) (H:Hp) (Q:VK) (Z3:XK):Prop
 | mk (y u:V):vs=[y,u]->LeafV H u->Q u H->jF vs H Q Z3
inductive pF (vs:List V) (H:Hp) (Q:VK) (Z3:XK):Prop
 | mk (y:V) (t:Addr):vs=[y,.ref t]->H t=some (.tup [])->(∀ H',Same H H'->Q .non H')->pF vs H Q Z3
inductive pG (Cs:Addr) (vs:List V) (H:Hp) (Q:VK) (Z3:XK):Prop
 | mk (y o:V) (e x dx p m c l:Addr) (i:Int) (ps ms cs ls:List V) (wd ft:V):vs=[y,.ref x,.ref e,o]->H e=some (.tup [.str "next"])->StO Cs H x dx p m c l (.int i) ps ms cs ls wd ft->(∀ H',StO Cs H' x dx p m c l (.int (i+1)) ps ms cs ls wd ft->ButO x H H'->Q .non H')->pG Cs vs H Q Z3
inductive pH (C:Addr) (vs:List V) (H:Hp) (Q:VK) (Z3:XK):Prop
 | mk (v s o:V) (D:Fm) (k:Kn) (r:Addr):vs=[v,s,.ref r]->TabV C H v D->gA D->k∈D.kinds->H r=some (.tup [.str k.name,o])->(∀ e H',Same H H'->NextV H' e->Q e H')->pH C vs H Q Z3
section
variable {P:Program} {w:World} {K:ZF} {mg:Str->Option Value} {base:Heap} {C Cs Cw:Addr}
theorem zE:ak ["self","kind"] ["self","kind"] (ai uY):=ck zk
variable {fd:FuncData} {f:Addr}
theorem xc (F:Fun K "deed" "Table.deed" uY f fd) (T:Tc K C) (KA:bT P w K mg base C "kind_at" 1 ["self","kind"] (fv C)):FnOk P w K mg base bM 2 f fd ["self","kind"] (lL C):=by
 have ZZ:=zE
 walk_at "o"
 ·obtain ⟨v,D,x,rfl,hT,hD,hx,q⟩:=h;obtain ⟨a,dx,pp,pm,pn,pk,us,rfl,ho,hpp,hpm,hpn,hpk,hus⟩:=id hT;have hr1:Room 1 _:=hr;obtain ⟨f1,fd1,M1,F1,B1⟩:=KA;refine ⟨_,af (ao (aG bh (aG bh (ax (pv 0) rfl) (bK (pv 0) (aa (pv 1) ac))) ag)),?_⟩;obtain ⟨j,hj⟩:=uH hx;obtain ⟨u,hu,p,tf,b,fu,rfl,hp,htf,hfu,hb⟩:=qF hus hj;have hjn:(D.kinds.map Kn.name)[j]?=some x.name:=by rw [EU,hj];rfl
  refine ⟨_,rfl,a,C,dx,_,_,rfl,ho,T.cl,T.na "kinds_known" zk,rfl,_,rfl,a,dx,C,f1,_,fd1,1,["self","kind"],_,rfl,ho,rfl,T.cl,M1,F1,hr1,B1,_,rfl,_,D,x.name,j,rfl,hT,hjn,nF hD.kn hjn,?_⟩;exact ⟨pk,us,_,_,rfl,rfl,SqT.of hpk,bq hu,p,_,_,_,rfl,rfl,SqT.of hp,rfl,q b hb⟩
theorem zF:ak ["self","table","state","operands"] ["self","table","state","operands"] (ai jE):=ck zk
theorem xf (F:Fun K "__init__" "Way.__init__" jE f fd) (T:Wc K Cw):FnOk P w K mg base bM 1 f fd ["self","table","state","operands"] (pE Cw):=by
 have ZZ:=zF
 walk_at "o"
 ·obtain ⟨x,dx,a,b,c,rfl,hx,q⟩:=h;refine ⟨_,ad (bz (pv 0) (pv 1) rfl) (ad (bz (pv 0) (pv 2) rfl) (af (bz (pv 0) (pv 3) rfl))),?_⟩;refine ⟨_,rfl,_,rfl,x,Cw,dx,_,rfl,hx,T.cl,T.n1,(by show 0 < 1000;decide),?_⟩;refine ⟨_,rfl,_,rfl,x,Cw,dx,_,rfl,ae,T.cl,T.n2,(by show 1 < 1000;decide),?_⟩;exact ⟨_,rfl,_,rfl,x,Cw,dx,_,rfl,ae,T.cl,T.n3,(by show 2 < 1000;decide),q _ (buto_upd.trans (buto_upd.trans buto_upd))⟩
theorem uZ:ak ["way","deed"] ["way","deed"] (ai lK):=ck zk
theorem rZ (F:Fun K "leaf_of" "leaf_of" lK f fd):FnOk P w K mg base bM 1 f fd ["way","deed"] jF:=by
 have ZZ:=uZ
 walk_at "o"
 ·obtain ⟨y,u,rfl,⟨p,t,e,rfl,hp,ht,hn⟩,q⟩:=h;refine ⟨_,ad (c8 PassesOwn.never (am bY (aG bh (pv 1) ag) aC) (af be)) (af (ao (pv 1))),?_⟩;refine ⟨fun m σ H'=>m=0/\H'=H/\σ=[some y,some (.ref p)],⟨_,rfl,rfl,rfl⟩,?_⟩;rintro m σ H2 ⟨rfl,rfl,rfl⟩;exact ⟨_,rfl,p,_,_,_,rfl,rfl,SqT.of hp,rfl,rfl,_,rfl,bE zk ⟨_,rfl,q⟩⟩
theorem scGive:ak ["way","sets","reckonings","sort","target","word"] ["way","sets"] (ai fP):=ck zk
theorem C9:(["given","way"]:List Str).Nodup:=by decide +kernel
theorem xg (F:Fun K "give_sets" "give_sets" fP f fd):FnOk P w K mg base bM 1 f fd ["way","sets"] pF:=by
 have ZZ:=scGive
 walk_at "o"
 ·obtain ⟨y,t,rfl,ht,q⟩:=h;refine ⟨_,ad (jf (i:=2) scGive.nd rfl rfl (N':=["given","way"]) (ix:=[none,some 0]) (sc0:=ai fP) (N:=["way","sets","reckonings","sort","target","word"]) rfl zk (gh (pv 1))
    (fun C' cl s H fp=>aw (i:=0) C9 rfl (Or.inl rfl) (.inr rfl))
    (fun _ _ _ _ _=>cX) (fun C' cl s H fp=>uX))
   (af (cQ PassesOwn.never rfl (ed (pv 2)) (cM rfl (aH (aw (i:=3) scGive.nd rfl (Or.inl rfl)) (aH (aw (i:=4) scGive.nd rfl (Or.inl rfl)) (aH (aw (i:=5) scGive.nd rfl (Or.inl rfl)) bV)))) (af be))),?_⟩
  refine ⟨_,rfl,t,rfl,⟨_,SqT.of ht⟩,?_⟩;refine jl (K:=K) (a:=t) (xs:=[]) (fun i ys H'=>H'=H/\ys=[]) ⟨rfl,rfl⟩ (fun i ys H' _ ⟨eh,ey⟩=>⟨by rw [eh];exact SqT.of ht,by rw [ey];exact Ep _⟩) (fun i x ys H' hx _=>nomatch hx) ?_;rintro ys H2 ⟨rfl,rfl⟩ l3 n3;refine ⟨_,rfl,l3,rfl,⟨_,SqL.of ae⟩,?_⟩;exact gG (K:=K) (a:=l3) (xs:=[]) (fun i σ H'=>H'=upd H2 l3 (.lst [])) rfl (fun i σ H' _ e=>by rw [e];exact SqL.of ae) (fun i x σ H' hx _=>nomatch hx) (fun σ H' e=>by rw [e];exact q _ (ah n3))
theorem scEndG:ak ["table","state","end","operands","word"] ["table","state","end","operands"] (ai iy):=ck zk
theorem xh (F:Fun K "end_given" "end_given" iy f fd) (T:Sc K Cs):FnOk P w K mg base bM 1 f fd ["table","state","end","operands"] (pG Cs):=by
 have ZZ:=scEndG
 walk_at "o"
 ·obtain ⟨y,o,e,x,dx,p,m,c,l,i,ps,ms,cs,ls,wd,ft,rfl,he,hO,q⟩:=h;refine ⟨_,ad (aA (i:=4) scEndG.nd rfl (Or.inl rfl) (aG bh (pv 2) ag)) (af (aR (am bY (pv 4) aC) (af (fF (pv 1) ag kH)) (af be))),?_⟩;refine ⟨_,rfl,e,_,_,_,rfl,rfl,SqT.of he,rfl,?_⟩;refine ⟨_,rfl,rfl,_,rfl,bR zk ?_⟩;refine ⟨_,rfl,x,Cs,dx,_,_,rfl,hO.ex,T.cl,T.n1,rfl,_,_,rfl,rfl,dx,_,hO.ex,(by show 7 < 1000;decide),?_⟩;rw [put_at];exact q _ (hO.putX _ wd ft) buto_upd
theorem scRowG:ak ["table","state","row","kind","operands","way","leaf"] ["table","state","row"] (ai iz):=ck zk
theorem xi {f fi:Addr} {fd fdi:FuncData} (F:Fun K "row_given" "row_given" iz f fd) (T:Tc K C) (MK:Mk K Cw fi) (mgW:mg "Way"=some (.ref Cw)) (IN:FnOk P w K mg base bM 1 fi fdi ["self","table","state","operands"] (pE Cw)) (bI:Binds K fdi ["self","table","state","operands"] []) (LF:Fn P w K mg base "leaf_of" 1 ["way","deed"] jF) (GS:Fn P w K mg base "give_sets" 1 ["way","sets"] pF) (DE:bT P w K mg base C "deed" 2 ["self","kind"] (lL C)):FnOk P w K mg base bM 3 f fd ["table","state","row"] (pH C):=by
 have ZZ:=scRowG
 walk_at "o"
 ·obtain ⟨v,s,o,D,k,r,rfl,hT,hD,hk,hr',q⟩:=h;obtain ⟨a,dx,pp,pm,pn,pk,us,hv,ho,hpp,hpm,hpn,hpk,hus⟩:=id hT;subst hv;have hr2:Room 2 _:=hr;obtain ⟨f1,fd1,M1,F1,B1⟩:=DE;refine ⟨_,ad (dj (pv 2) (cM rfl (aH (aw (i:=3) scRowG.nd rfl (Or.inl rfl)) (aH (aw (i:=4) scRowG.nd rfl (Or.inl rfl)) bV))))
   (ad (aA (i:=5) scRowG.nd rfl (Or.inl rfl) (dG MK IN hr2 rfl mgW bI .nil cm (aa (pv 0) (aa (pv 1) (aa (pv 4) ac)))))
   (ad (aA (i:=6) scRowG.nd rfl (Or.inl rfl) (aI LF hr.m rfl (aa (pv 5) (aa (bK (pv 0) (aa (pv 3) ac)) ac))))
   (ad (aQ (aI GS hr.m rfl (aa (pv 5) (aa (aG bh (pv 6) ag) ac))))
   (af (ao (aG bh (pv 6) ag)))))),?_⟩
  refine ⟨_,rfl,r,_,rfl,SqT.of hr',rfl,_,_,rfl,_,_,rfl,rfl,?_⟩;refine ⟨_,rfl,_,rfl,_,rfl,fun x dx' nx nd ne=>?_⟩;have sx:=aV (o:=.ins Cw dx' []) nx (ah (o:=.own x) nd);refine ⟨x,dx',_,_,_,rfl,ae,fun H1 b1=>⟨rfl,?_⟩⟩;have s1:Same H H1:=cL nx sx b1;refine ⟨_,rfl,_,rfl,a,dx,C,f1,_,fd1,2,["self","kind"],_,rfl,s1 _ _ ho,rfl,T.cl,M1,F1,hr2,B1,_,rfl,_,D,k,rfl,hT.same s1,hD,hk,fun u hu=>?_⟩;refine ⟨_,u,rfl,hu,?_⟩;obtain ⟨p,t,e,rfl,hp,ht,hn⟩:=hu;refine ⟨_,rfl,_,rfl,p,_,_,_,rfl,rfl,SqT.of hp,rfl,_,t,rfl,ht,fun H2 s2=>?_⟩;exact ⟨_,rfl,p,_,_,_,rfl,rfl,SqT.of (s2 _ _ hp),rfl,q e H2 (s1.trans s2) (hn.kt (bn s2))⟩
end
abbrev gR:Stmt:=bo (ci 65) 0
def Da (v pr:V) (x:Addr) (wt:Bool) (n:Int) (ln:Addr):List (Str×V):=[("table",v),("program",pr),("state",.ref x),("waiting",.bl wt),("rows_done",.int n),("noted",.ref ln)]
structure Uc (K:ZF) (C:Addr):Prop where
 cl:Cls K C
 n1:NoAttr K C "table"
 n2:NoAttr K C "program"
 n3:NoAttr K C "state"
 n4:NoAttr K C "waiting"
 n5:NoAttr K C "rows_done"
 n6:NoAttr K C "noted"
variable {H H':Hp}
theorem Refuse.up {cS:Addr} {fld:Str} {z:V} {E:XK} (s:Same H H') (r:Refuse cS fld z H E):Refuse cS fld z H' E:=fun e d H2 s' ne xa=>r e d H2 (s.trans s') (none_of s ne) xa
variable {ps ms cs ls:List V} {C:Addr}
theorem StO.off {x dx p m c l a:Addr} {at_:V} {wd ft:V} {o:HO} (h:StO C H x dx p m c l at_ ps ms cs ls wd ft) (n1:x≠a) (n2:p≠a) (n3:m≠a) (n4:c≠a) (n5:l≠a):StO C (upd H a o) x dx p m c l at_ ps ms cs ls wd ft:=
 ⟨by rw [aj n1];exact h.ex,by rw [aj n2];exact h.ep,by rw [aj n3];exact h.em,by rw [aj n4];exact h.ec,by rw [aj n5];exact h.el,h.pm,h.pc,h.pl,h.mc,h.ml,h.cl⟩
inductive u9 (C:Addr) (Cs:Addr) (Ca:Addr) (cS:Addr) (vs:List V) (H:Hp) (Q:VK) (E:XK):Prop
 | mk (H0:Hp) (a dx q:Addr) (o:HO) (v pr c:V) (D:Fm) (t:Th):vs=[.ref a,v,pr,c]->Same H0 H->H0 a=none->H a=some (.ins Ca dx [])->H0 q=some o->TabV C H0 v D->D.width<=24->D.places.length<=4->D.marks.length<=3->D.cells<=64->D.depth<=8->TgV q H0 c t->t≠.non->(lsT D.cells (2 ^ D.width - 1) t=false->Refuse cS "thing" c H0 E)->(lsT D.cells (2 ^ D.width - 1) t=true->∀ H' x dx' p' m' c' l' ln,Same H0 H'->H' a=some (.ins Ca dx (Da v pr x false 0 ln))->StO Cs H' x dx' p' m' c' l' (.int 0) (List.replicate D.places.length (.int 0)) (List.replicate D.marks.length (.int 0)) (cF (gQ D.cells t)) [] (.str "on") .non->H' ln=some (.lst [])->H0 x=none->x≠a->H0 p'=none->H0 m'=none->H0 c'=none->H0 l'=none->H0 ln=none->Q .non H')->u9 C Cs Ca cS vs H Q E
section
variable {P:Program} {w:World} {K:ZF} {mg:Str->Option Value} {base:Heap} {C Cs Ca cS:Addr} {ds:Array Value}
theorem Bt:ak ["self","table","program","cells"] ["self","table","program","cells"] (ai gR):=ck zk
theorem zG {f f1:Addr} {fd fd1:FuncData} (F:FunDs K "__init__" "Runner.__init__" gR ds f fd) (T:Uc K Ca) (FS:FnOk P w K mg base (iw P w) 6 f1 fd1 ["table","cells"] (zD C Cs cS)) (m1:mg "first_state"=some (.ref f1)) (k1:PySem.W.keepIn K (.ref f1)=true) (b1:Binds K fd1 ["table","cells"] []):FnOk P w K mg base (iw P w) 7 f fd ["self","table","program","cells"] (u9 C Cs Ca cS):=by
 refine F.okX Bt (fun vs H Q E h=>?_) (fun cdv A outer s H vs Q E hr h=>?_)
 ·obtain ⟨H0,a,dx,q,o,v,pr,c,D,t,rfl,_⟩:=h;rfl
 ·obtain ⟨H0,a,dx,q,o,v,pr,c,D,t,rfl,s0,n0,ha,hq,hT,hw,h4,h3,h64,h8,tv,hn,R,G⟩:=h;refine ⟨_,ad (bz (pv 0) (pv 1) rfl) (ad (bz (pv 0) (pv 2) rfl) (ad (bz (pv 0) (nG FS hr rfl m1 k1 b1 .nil bZ (aa (pv 1) (aa (pv 3) ac))) rfl) (ad (bz (pv 0) cj rfl) (ad (bz (pv 0) ag rfl) (af (bz (pv 0) (aT ac) rfl)))))),?_⟩;refine ⟨_,rfl,_,rfl,a,Ca,dx,_,rfl,ha,T.cl,T.n1,(by show 0 < 1000;decide),?_⟩;refine ⟨_,rfl,_,rfl,a,Ca,dx,_,rfl,ae,T.cl,T.n2,(by show 1 < 1000;decide),?_⟩;have s2:=aV (o:=.ins Ca dx (aJ "program" pr (aJ "table" v []))) n0 (aV (o:=.ins Ca dx (aJ "table" v [])) n0 s0);have e2:(upd (upd H a (.ins Ca dx (aJ "table" v []))) a (.ins Ca dx (aJ "program" pr (aJ "table" v [])))) a=some (.ins Ca dx (aJ "program" pr (aJ "table" v []))):=ae;generalize upd (upd H a (.ins Ca dx (aJ "table" v []))) a (.ins Ca dx (aJ "program" pr (aJ "table" v [])))=H2 at *;refine ⟨_,rfl,_,rfl,q,o,v,c,D,t,rfl,s2 _ _ hq,hT.same s2,hw,h4,h3,h64,h8,tv.same s2,hn,fun b=>(R b).up s2,fun b H3 x dx' p' m' c' l' s3 hO nx np nm nc nl=>?_⟩;have xa:=(aq e2 nx).symm;have off:∀ {Hh:Hp} {o':HO},StO Cs Hh x dx' p' m' c' l' (.int 0) (List.replicate D.places.length (.int 0)) (List.replicate D.marks.length (.int 0)) (cF (gQ D.cells t)) [] (.str "on") .non->StO Cs (upd Hh a o') x dx' p' m' c' l' (.int 0) (List.replicate D.places.length (.int 0)) (List.replicate D.marks.length (.int 0)) (cF (gQ D.cells t)) [] (.str "on") .non:=fun h=>h.off xa (aq e2 np).symm (aq e2 nm).symm (aq e2 nc).symm (aq e2 nl).symm;refine ⟨_,rfl,a,Ca,dx,_,rfl,s3 _ _ e2,T.cl,T.n3,(by show 2 < 1000;decide),?_⟩;refine ⟨_,rfl,a,Ca,dx,_,rfl,ae,T.cl,T.n4,(by show 3 < 1000;decide),?_⟩;refine ⟨_,rfl,a,Ca,dx,_,rfl,ae,T.cl,T.n5,(by show 4 < 1000;decide),?_⟩;refine ⟨zlx,fun ln nn=>⟨_,rfl,a,Ca,dx,_,rfl,ah nn _ _ ae,T.cl,T.n6,(by show 5 < 1000;decide),?_⟩⟩;have la:ln≠a:=(aq ae nn).symm;refine G b _ x dx' p' m' c' l' ln ?_ (by rw [ae];rfl) (off ((off (off (off hO))).same (ah nn))) (by rw [aj la];exact ae) (none_of s2 nx) xa (none_of s2 np) (none_of s2 nm) (none_of s2 nc) (none_of s2 nl) ?_
  ·exact aV n0 ((aV n0 (aV n0 (aV n0 (s2.trans s3)))).trans (ah nn))
  ·exact none_of (aV n0 (aV n0 (aV n0 (s2.trans s3)))) nn
end
abbrev va:Stmt:=bo (ci 65) 2
abbrev jG:Stmt:=bo (ci 65) 5
abbrev jH:Stmt:=bo (ci 65) 6
structure RuO (Cs Ca:Addr) (H:Hp) (a dx:Addr) (v pr:V) (x dx' p m c l ln:Addr) (i n:Int) (ps ms cs ls:List V) (wd ft:V):Prop where
 ea:H a=some (.ins Ca dx (Da v pr x false n ln))
 st:StO Cs H x dx' p m c l (.int i) ps ms cs ls wd ft
 el:H ln=some (.lst [])
 xa:x≠a
inductive yk (H:Hp) (u:V) (i n:Int) (ps ms cs ls:List V) (wd ft:V):Prop
 | mk (t tp tm tc tl tn:Addr):u=.ref t->H t=some (.tup [wd,ft,.int i,.ref tp,.ref tm,.ref tc,.ref tl,.int n,.ref tn])->H tp=some (.tup ps)->H tm=some (.tup ms)->H tc=some (.tup cs)->H tl=some (.tup ls)->yk H u i n ps ms cs ls wd ft
inductive lM (Cs:Addr) (Ca:Addr) (vs:List V) (H:Hp) (Q:VK) (Z3:XK):Prop
 | mk (a dx x dx' p m c l ln:Addr) (v pr:V) (i n:Int) (ps ms cs ls:List V) (wd ft:V):vs=[.ref a]->RuO Cs Ca H a dx v pr x dx' p m c l ln i n ps ms cs ls wd ft->(∀ u H',Same H H'->yk H' u i n ps ms cs ls wd ft->Q u H')->lM Cs Ca vs H Q Z3
inductive fQ (Cs:Addr) (Ca:Addr) (Cp:Addr) (vs:List V) (H:Hp) (Q:VK) (Z3:XK):Prop
 | mk (a dx x dx' p m c l ln:Addr) (v pr:V) (i n:Int) (ps ms cs ls:List V) (ft:V) (rs:List Rw):vs=[.ref a]->RuO Cs Ca H a dx v pr x dx' p m c l ln i n ps ms cs ls (.str "on") ft->ProgV Cp H pr rs none->(i≠(rs.length:Nat)->Q (.bl true) H)->(i=(rs.length:Nat)->∀ H',RuO Cs Ca H' a dx v pr x dx' p m c l ln i n ps ms cs ls (.str "end") .non->ButO x H H'->Q (.bl false) H')->fQ Cs Ca Cp vs H Q Z3
section
variable {P:Program} {w:World} {K:ZF} {mg:Str->Option Value} {base:Heap} {Cs Ca Cp:Addr}
theorem zH:ak ["self"] ["self"] (ai va):=ck zk
variable {fd:FuncData} {f:Addr}
theorem xj (F:Fun K "seen" "Runner.seen" va f fd) (T:Uc K Ca) (TS:Sc K Cs) (B:Bl mg) (TO:bT P w K mg base Cs "told" 1 ["self"] (spTold Cs)):FnOk P w K mg base bM 2 f fd ["self"] (lM Cs Ca):=by
 have ZZ:=zH
 walk_at "o"
 ·obtain ⟨a,dx,x,dx',p,m,c,l,ln,v,pr,i,n,ps,ms,cs,ls,wd,ft,rfl,hO,q⟩:=h;obtain ⟨f3,fd3,M3,F3,B3⟩:=TO;refine ⟨_,af (ao (aL lG (aP (ax (pv 0) rfl)) (aW (aa (ax (pv 0) rfl) (aa (aN aX (by rfl) B.tuple aY (aa (ax (pv 0) rfl) ac)) ac))))),?_⟩;refine ⟨_,rfl,a,Ca,dx,_,_,rfl,hO.ea,T.cl,T.n3,rfl,x,dx',Cs,f3,_,fd3,1,["self"],_,rfl,hO.st.ex,rfl,TS.cl,M3,F3,hr,B3,x,dx',p,m,c,l,_,ps,ms,cs,ls,wd,ft,rfl,hO.st,fun u H1 s1 tl=>?_⟩;obtain ⟨t,tp,tm,tc,tl,rfl,et,e1,e2,e3,e4⟩:=tl;refine ⟨_,rfl,a,Ca,dx,_,_,rfl,s1 _ _ hO.ea,T.cl,T.n5,rfl,_,rfl,a,Ca,dx,_,_,rfl,s1 _ _ hO.ea,T.cl,T.n6,rfl,ln,_,rfl,.inl ⟨SqL.of (s1 _ _ hO.el),fun tn nn=>?_⟩⟩;have s2:=ah (o:=.tup []) nn;generalize upd H1 tn (.tup ([]:List V))=H2 at *;refine ⟨zlx,fun t2 n2=>?_⟩;have s3:=ah (o:=.tup [.int n,.ref tn]) n2;have e5:(upd H2 t2 (.tup [.int n,.ref tn])) t2=some (.tup [.int n,.ref tn]):=ae;generalize upd H2 t2 (.tup [V.int n,.ref tn])=H3 at *;have s13:=s2.trans s3;refine ⟨t,t2,_,_,rfl,rfl,s13 _ _ et,e5,zlx,fun t9 H4 s4 e9=>?_⟩;have s14:=s13.trans s4;exact q _ _ (s1.trans s14) ⟨t9,tp,tm,tc,tl,tn,rfl,e9,s14 _ _ e1,s14 _ _ e2,s14 _ _ e3,s14 _ _ e4⟩
theorem r9:ak ["self"] ["self"] (ai jG):=ck zk
theorem pI (F:Fun K "between" "Runner.between" jG f fd) (T:Uc K Ca) (TS:Sc K Cs) (PC:Pc K Cp) (B:Bl mg) (EW:bT P w K mg base Cs "end_with" 1 ["self","word","fault"] (spEndWith Cs)):FnOk P w K mg base bM 2 f fd ["self"] (fQ Cs Ca Cp):=by
 have ZZ:=r9
 walk_at "o"
 ·obtain ⟨a,dx,x,dx',p,m,c,l,ln,v,pr,i,n,ps,ms,cs,ls,ft,rs,rfl,hO,⟨ap,dp,tp,us,hpr,hap,htp,hus⟩,q1,q2⟩:=h;subst hpr;obtain ⟨f3,fd3,M3,F3,B3⟩:=EW;refine ⟨_,ad (aR (PW.pt (cq (am bY (ax (ax (pv 0) rfl) rfl) aC) (cq (bj (ax (pv 0) rfl)) (cc (bj uX))))) (af be) ay)
   (bJ (fun σ H'=>σ=[some (.ref a)]/\(i≠(rs.length:Nat)/\H'=H\/i=(rs.length:Nat)/\RuO Cs Ca H' a dx v (.ref ap) x dx' p m c l ln i n ps ms cs ls (.str "end") .non/\ButO x H H')) (aR (PW.pt (cq (am bY (ax (ax (pv 0) rfl) rfl) aC) (cc (am bY (ax (ax (pv 0) rfl) rfl) (ar aK (by rfl) B.len Ei (aa (ax (ax (pv 0) rfl) rfl) ac)))))) (af (aQ (bK (ax (pv 0) rfl) (aa aC (aa bN ac))))) ay)
   (af (ao (cf bY (ax (ax (pv 0) rfl) rfl) aC)))),?_⟩
  have lr:=hus.length;refine ⟨_,rfl,a,Ca,dx,_,_,rfl,hO.ea,T.cl,T.n3,rfl,x,Cs,dx',_,_,rfl,hO.st.ex,TS.cl,TS.n6,rfl,rfl,_,rfl,bR zk ?_⟩;refine ⟨_,rfl,a,Ca,dx,_,_,rfl,hO.ea,T.cl,T.n4,rfl,_,rfl,aZ ?_⟩;refine ⟨?_,?_⟩;rotate_left
  ·refine ⟨_,rfl,a,Ca,dx,_,_,rfl,hO.ea,T.cl,T.n3,rfl,x,Cs,dx',_,_,rfl,hO.st.ex,TS.cl,TS.n6,rfl,rfl,_,rfl,bR zk ?_⟩;refine ⟨_,rfl,a,Ca,dx,_,_,rfl,hO.ea,T.cl,T.n3,rfl,x,Cs,dx',_,_,rfl,hO.st.ex,TS.cl,TS.n1,rfl,_,rfl,a,Ca,dx,_,_,rfl,hO.ea,T.cl,T.n2,rfl,ap,Cp,dp,_,_,rfl,hap,PC.cl,PC.n1,rfl,tp,_,rfl,.inr (SqT.of htp),rfl,_,rfl,?_⟩;rw [iM,lr];by_cases e:i=(rs.length:Nat)
   ·refine bR (by rw [e];exact beq_self_eq_true _) ?_;refine ⟨_,rfl,a,Ca,dx,_,_,rfl,hO.ea,T.cl,T.n3,rfl,x,dx',Cs,f3,_,fd3,1,["self","word","fault"],_,rfl,hO.st.ex,rfl,TS.cl,M3,F3,hr,B3,x,dx',p,m,c,l,_,ps,ms,cs,ls,_,ft,_,_,rfl,hO.st,fun H1 h1 b1=>?_⟩;have nx:∀ {b:Addr} {us:List V},H b=some (.lst us)->b≠x:=fun g e=>by rw [e,hO.st.ex] at g;cases g
    exact ⟨rfl,.inr ⟨e,⟨b1 _ _ hO.ea hO.xa.symm,h1,b1 _ _ hO.el (nx hO.el),hO.xa⟩,b1⟩⟩
   ·exact bE (by simpa using e) ⟨rfl,.inl ⟨e,rfl⟩⟩
  ·rintro σ H1 ⟨rfl,⟨e,rfl⟩|⟨e,h1,b1⟩⟩
   ·exact ⟨_,rfl,a,Ca,dx,_,_,rfl,hO.ea,T.cl,T.n3,rfl,x,Cs,dx',_,_,rfl,hO.st.ex,TS.cl,TS.n6,rfl,rfl,q1 e⟩
   ·exact ⟨_,rfl,a,Ca,dx,_,_,rfl,h1.ea,T.cl,T.n3,rfl,x,Cs,dx',_,_,rfl,h1.st.ex,TS.cl,TS.n6,rfl,rfl,q2 e H1 h1 b1⟩
end
def ButT (x a:Addr) (H H':Hp):Prop:=∀ b o,H b=some o->b≠x->b≠a->H' b=some o
inductive fV (Cs:Addr) (Ca:Addr) (vs:List V) (H:Hp) (Q:VK) (Z3:XK):Prop
 | mk (a dx x dx' p m c l ln e:Addr) (v pr o:V) (i n:Int) (ps ms cs ls:List V) (wd ft:V):vs=[.ref a,.ref e,o]->H e=some (.tup [.str "next"])->RuO Cs Ca H a dx v pr x dx' p m c l ln i n ps ms cs ls wd ft->(∀ H',RuO Cs Ca H' a dx v pr x dx' p m c l ln (i+1) (n+1) ps ms cs ls wd ft->ButT x a H H'->Q .non H')->fV Cs Ca vs H Q Z3
section
variable {P:Program} {w:World} {K:ZF} {mg:Str->Option Value} {base:Heap} {Cs Ca Cp:Addr}
theorem sd:ak ["self","end","operands"] ["self","end","operands"] (ai jH):=ck zk
theorem pJ {f:Addr} {fd:FuncData} (F:Fun K "row_left" "Runner.row_left" jH f fd) (T:Uc K Ca) (EG:Fn P w K mg base "end_given" 1 ["table","state","end","operands"] (pG Cs)):FnOk P w K mg base bM 2 f fd ["self","end","operands"] (fV Cs Ca):=by
 have ZZ:=sd
 walk_at "o"
 ·obtain ⟨a,dx,x,dx',p,m,c,l,ln,e,v,pr,o,i,n,ps,ms,cs,ls,wd,ft,rfl,he,hO,q⟩:=h;refine ⟨_,ad (aQ (aI EG hr rfl (aa (ax (pv 0) rfl) (aa (ax (pv 0) rfl) (aa (pv 1) (aa (pv 2) ac)))))) (af (fF (pv 0) ag kH)),?_⟩;refine ⟨_,rfl,a,Ca,dx,_,_,rfl,hO.ea,T.cl,T.n1,rfl,_,rfl,a,Ca,dx,_,_,rfl,hO.ea,T.cl,T.n3,rfl,_,rfl,_,rfl,_,o,e,x,dx',p,m,c,l,i,ps,ms,cs,ls,wd,ft,rfl,he,hO.st,fun H1 h1 b1=>?_⟩;have ea:=b1 _ _ hO.ea hO.xa.symm;have nl:∀ {b z:Addr} {us:List V} {Hh:Hp} {fs:List (Str×V)} {Cz dz:Addr},Hh b=some (.lst us)->Hh z=some (.ins Cz dz fs)->b≠z:=fun g h e=>by rw [e,h] at g;cases g
  have el:=b1 _ _ hO.el (nl hO.el hO.st.ex);refine ⟨_,rfl,a,Ca,dx,_,_,rfl,ea,T.cl,T.n5,rfl,_,_,rfl,rfl,dx,_,ea,(by show 6 < 1000;decide),?_⟩;refine q _ ⟨by rw [ae];rfl,h1.off hO.xa (nl h1.ep ea) (nl h1.em ea) (nl h1.ec ea) (nl h1.el ea),by rw [aj (nl el ea)];exact el,hO.xa⟩ fun b ob hb n1 n2=>?_;rw [aj n2];exact b1 _ _ hb n1
end
abbrev lN:Stmt:=bo (ci 67) 0
inductive gT (C:Addr) (Cs:Addr) (Ca:Addr) (Cp:Addr) (vs:List V) (H:Hp) (Q:VK) (Z3:XK):Prop
 | mk (a dx x dx' p m c l ln:Addr) (v pr:V) (i:Nat) (n:Int) (ps ms cs ls:List V) (ft:V) (rs:List Rw) (D:Fm):vs=[.ref a]->RuO Cs Ca H a dx v pr x dx' p m c l ln i n ps ms cs ls (.str "on") ft->ProgV Cp H pr rs none->TabV C H v D->gA D->(∀ r∈rs,r.k∈D.kinds)->i<=rs.length->(i=rs.length->∀ H',RuO Cs Ca H' a dx v pr x dx' p m c l ln i n ps ms cs ls (.str "end") .non->ButO x H H'->Q (.bl false) H')->(i < rs.length->∀ H',RuO Cs Ca H' a dx v pr x dx' p m c l ln ((i:Int)+1) (n+1) ps ms cs ls (.str "on") ft->ButT x a H H'->Q (.bl true) H')->gT C Cs Ca Cp vs H Q Z3
variable {i n:Int} {v pr:V} {a dx:Addr} {Cs Ca:Addr}
theorem RuO.same {x dx' p m c l ln:Addr} {wd ft:V} (h:RuO Cs Ca H a dx v pr x dx' p m c l ln i n ps ms cs ls wd ft) (s:Same H H'):RuO Cs Ca H' a dx v pr x dx' p m c l ln i n ps ms cs ls wd ft:=⟨s _ _ h.ea,h.st.same s,s _ _ h.el,h.xa⟩
section
variable {P:Program} {w:World} {K:ZF} {mg:Str->Option Value} {base:Heap} {C Cs Ca Cp:Addr}
theorem scOneRow:ak ["self","row","end"] ["self"] (ai lN):=ck zk
theorem sf {f:Addr} {fd:FuncData} (F:Fun K "one_row" "Above.one_row" lN f fd) (T:Uc K Ca) (TS:Sc K Cs) (PC:Pc K Cp) (BT:bT P w K mg base Ca "between" 2 ["self"] (fQ Cs Ca Cp)) (RL:bT P w K mg base Ca "row_left" 2 ["self","end","operands"] (fV Cs Ca)) (RG:Fn P w K mg base "row_given" 3 ["table","state","row"] (pH C)):FnOk P w K mg base bM 4 f fd ["self"] (gT C Cs Ca Cp):=by
 have ZZ:=scOneRow
 walk_at "o"
 ·obtain ⟨a,dx,x,dx',p,m,c,l,ln,v,pr,i,n,ps,ms,cs,ls,ft,rs,D,rfl,hO,hP,hT,hD,hk,hi,q1,q2⟩:=h;obtain ⟨f1,fd1,M1,F1,B1⟩:=BT;obtain ⟨f2,fd2,M2,F2,B2⟩:=RL;refine ⟨_,ad (aR (bx (bj (aP (pv 0)))) (af (ao cj)) ay)
   (ad (aA (i:=1) scOneRow.nd rfl (Or.inl rfl) (aG bh (ax (ax (pv 0) rfl) rfl) (ax (ax (pv 0) rfl) rfl)))
   (ad (aA (i:=2) scOneRow.nd rfl (Or.inl rfl) (aI RG hr rfl (aa (ax (pv 0) rfl) (aa (ax (pv 0) rfl) (aa (pv 1) ac)))))
   (ad (aQ (bK (pv 0) (aa (pv 2) (aa (aG bh (pv 1) ag) ac))))
   (af (ao cj))))),?_⟩
  refine ⟨_,rfl,a,dx,Ca,f1,_,fd1,2,["self"],_,rfl,hO.ea,rfl,T.cl,M1,F1,hr.m,B1,a,dx,x,dx',p,m,c,l,ln,v,pr,i,n,ps,ms,cs,ls,ft,rs,rfl,hO,hP,fun ne=>⟨_,rfl,aZ ?_⟩,fun e H1 h1 b1=>⟨_,rfl,bC (q1 zo H1 h1 b1)⟩⟩;obtain ⟨ap,dp,tp,us,hpr,hap,htp,hus⟩:=hP;subst hpr;have hlt:i < rs.length:=by lia
  obtain ⟨u,hu,hR⟩:=qF hus (EF hlt);have hkk:=hk _ (E9 hlt);generalize rs[i]=r at *;obtain ⟨pr,t,rfl,hpr,ht⟩:=hR;refine ⟨_,rfl,a,Ca,dx,_,_,rfl,hO.ea,T.cl,T.n2,rfl,ap,Cp,dp,_,_,rfl,hap,PC.cl,PC.n1,rfl,_,rfl,a,Ca,dx,_,_,rfl,hO.ea,T.cl,T.n3,rfl,x,Cs,dx',_,_,rfl,hO.st.ex,TS.cl,TS.n1,rfl,tp,us,_,_,rfl,rfl,SqT.of htp,bq hu,?_⟩;refine ⟨_,rfl,a,Ca,dx,_,_,rfl,hO.ea,T.cl,T.n1,rfl,_,rfl,a,Ca,dx,_,_,rfl,hO.ea,T.cl,T.n3,rfl,_,rfl,v,_,_,D,r.k,pr,rfl,hT,hD,hkk,hpr,fun e H1 s1 hn=>?_⟩;obtain ⟨pe,rfl,he⟩:=hn;have h1:=hO.same s1;refine ⟨_,rfl,a,dx,Ca,f2,_,fd2,2,["self","end","operands"],_,rfl,h1.ea,rfl,T.cl,M2,F2,hr.m,B2,_,rfl,_,rfl,pr,_,_,_,rfl,rfl,SqT.of (s1 _ _ hpr),rfl,a,dx,x,dx',p,m,c,l,ln,pe,v,_,_,_,n,ps,ms,cs,ls,_,ft,rfl,he,h1,fun H2 h2 b2=>?_⟩;exact q2 hlt H2 h2 fun b o hb n1 n2=>b2 b o (s1 _ _ hb) n1 n2
end
variable {x:Addr}
theorem ButT.trans {H H1 H2:Hp} (b:ButT x a H H1) (c:ButT x a H1 H2):ButT x a H H2:=fun d o e n1 n2=>c d o (b d o e n1 n2) n1 n2
theorem ButT.kt {x a Cx Ca dx da:Addr} {fx fa:List (Str×V)} (b:ButT x a H H') (hx:H x=some (.ins Cx dx fx)) (ha:H a=some (.ins Ca da fa)):TupK H H':=fun d us e=>b d _ e (fun z=>by rw [z,hx] at e;cases e) (fun z=>by rw [z,ha] at e;cases e)
theorem lO {a b Ca Cb da db:Addr} {fa fb:List (Str×V)} (ha:H a=some (.ins Ca da fa)) (hb:H b=some (.ins Cb db fb)) (n:fa.length≠fb.length):a≠b:=fun e=>by
 rw [e,hb] at ha;exact n (by injection ha with ha;injection ha with _ _ h;rw [h])
variable {D:Fm} {w:V}
theorem TabV.butT {a dx x dx' p m c l ln:Addr} {wd ft:V} (h:TabV C H v D) (hO:RuO Cs Ca H a dx w pr x dx' p m c l ln i n ps ms cs ls wd ft) (b:ButT x a H H'):TabV C H' v D:=by
 have k:=b.kt hO.st.ex hO.ea;obtain ⟨a0,d0,pp,pm,pn,pk,us,e,h1,h2,h3,h4,h5,h6⟩:=h;exact ⟨a0,d0,pp,pm,pn,pk,us,e,b _ _ h1 (lO h1 hO.st.ex (by show 8≠7;decide)) (lO h1 hO.ea (by show 8≠6;decide)),k _ _ h2,k _ _ h3,k _ _ h4,k _ _ h5,cO (fun _ _ h=>KindV.kt k h) h6⟩
theorem ProgV.butT {Cp Cs Ca:Addr} {rs:List Rw} {bl:Option Nat} {a dx x dx' p m c l ln:Addr} {wd ft:V} (h:ProgV Cp H v rs bl) (hO:RuO Cs Ca H a dx w pr x dx' p m c l ln i n ps ms cs ls wd ft) (b:ButT x a H H'):ProgV Cp H' v rs bl:=by
 have k:=b.kt hO.st.ex hO.ea;obtain ⟨ap,dp,t,us,e,h1,h2,h3⟩:=h;exact ⟨ap,dp,t,us,e,b _ _ h1 (lO h1 hO.st.ex (by show 2≠7;decide)) (lO h1 hO.ea (by show 2≠6;decide)),k _ _ h2,cO (fun _ _ h=>RowV.kt k h) h3⟩
abbrev nI:Stmt:=bo (ci 67) 1
structure Zm (mg:Str->Option Value) (tm:Tok):Prop where
 mo:mg "MOST_AT_ONCE"=some (.int 2000 tm)
inductive pK (C:Addr) (Cs:Addr) (Ca:Addr) (Cp:Addr) (cB:Addr) (vs:List V) (H:Hp) (Q:VK) (E:XK):Prop
 | mk (q a:Addr) (b:V) (t:Th):vs=[.ref a,b,.non]->TgV q H b t->(wn 0 2000 t=false->Refuse cB "thing" b H E)->(wn 0 2000 t=true->(t=.int 0/\∀ H',Same H H'->Q (.int 0) H') ∨
 ∃ (dx x dx' p m c l ln:Addr) (v pr:V) (n:Int) (ps ms cs ls:List V) (ft:V) (rs:List Rw) (D:Fm) (k:Int),t=.int k/\(rs.length:Nat) < k/\RuO Cs Ca H a dx v pr x dx' p m c l ln 0 n ps ms cs ls (.str "on") ft/\ProgV Cp H pr rs none/\TabV C H v D/\gA D/\(∀ r∈rs,r.k∈D.kinds)/\∀ H',RuO Cs Ca H' a dx v pr x dx' p m c l ln (rs.length:Nat) (n+(rs.length:Nat)) ps ms cs ls (.str "end") .non->ButT x a H H'->Q (.int (rs.length:Nat)) H')->pK C Cs Ca Cp cB vs H Q E
section
variable {P:Program} {w:World} {K:ZF} {mg:Str->Option Value} {base:Heap} {C Cs Ca Cp R cB fB:Addr} {tm:Tok} {ds:Array Value}
theorem scRunA:ak ["self","rows","bells","rung","many"] ["self","rows","bells"] (ai nI):=ck zk
theorem xk {f:Addr} {fd fdK:FuncData} (F:FunDs K "run" "Above.run" nI ds f fd) (T:Uc K Ca) (Z:Zm mg tm) (TX:Xk K mg R cB fB "NoBudget" "thing") (FK:FnOk P w K mg base bM 2 fB fdK ["self","thing"] (spNK cB "thing")) (BK:Binds K fdK ["self","thing"] []) (WI:Fn P w K mg base "is_within" 2 ["thing","low","high"] spWithinT) (OR:bT P w K mg base Ca "one_row" 4 ["self"] (gT C Cs Ca Cp)):FnOk P w K mg base (iw P w) 5 f fd ["self","rows","bells"] (pK C Cs Ca Cp cB):=by
 refine F.okX scRunA (fun vs H Q E h=>?_) (fun cdv A outer s H vs Q E hr h=>?_)
 ·obtain ⟨q,a,b,t,rfl,_⟩:=h;rfl
 ·obtain ⟨q,a,b,t,rfl,tv,RR,G⟩:=h;obtain ⟨f1,fd1,M1,F1,B1⟩:=OR;refine ⟨_,ad (aR (bx (bj (aI WI hr.m rfl (aa (pv 1) (aa ag (aa (bD (v:=.int 2000) rfl Z.mo ⟨_,rfl⟩) ac)))))) (af (df (dc TX.k TX.mkx FK hr.m rfl TX.mK BK cm zd (aa (pv 1) ac)) bZ rfl)) ay)
   (ad (aA (i:=3) scRunA.nd rfl (Or.inl rfl) (cZ (am eU (pv 2) bN) (aT ac) (pv 2)))
   (ad (aA (i:=4) scRunA.nd rfl (Or.inl rfl) ag)
   (ad (c8 (C6 (ES:=fun _=>E) rfl) (am dB (pv 4) (pv 1)) (ad (aR (am dv (ax (pv 0) rfl) (pv 3) rfl) (af be) ay) (ad (aR (bx (bj (aP (pv 0)))) (af (ao (pv 4))) ay) (af (kA (i:=4) scRunA.nd rfl (Or.inl rfl) ag kB)))))
   (af (ao (pv 4)))))),?_⟩
  refine ⟨_,rfl,q,b,t,0,2000,rfl,tv,_,rfl,?_⟩;by_cases bw:wn 0 2000 t=true;case neg=>
   have bf:=Ez.mpr bw;rw [bf];exact bC (raise_it (D:={ nx:=fun _ _=>True,rt:=fun _ _=>True }) TX (Same.refl H) (RR bf) fun Q' h=>⟨_,rfl,h⟩)
  rw [bw];refine aZ ⟨_,rfl,rfl,_,rfl,bC ⟨zlx,fun rl nl=>?_⟩⟩;have s1:=ah (o:=.lst []) nl;have e1:(upd H rl (.lst [])) rl=some (.lst []):=ae;generalize upd H rl (.lst ([]:List V))=H1 at *;rcases G bw with ⟨rfl,q0⟩|⟨dx,x,dx',p,m,c,l,ln,v,pr,n,ps,ms,cs,ls,ft,rs,D,k,rfl,hk,hO,hP,hT,hD,hkk,qq⟩
  ·cases tv;refine ⟨fun m σ H'=>m=0/\H'=H1/\σ=[some (.ref a),some (.int 0),some .non,some (.ref rl),some (.int 0)],⟨_,rfl,rfl,rfl⟩,?_⟩;rintro m σ H2 ⟨rfl,rfl,rfl⟩;exact ⟨_,rfl,_,rfl,_,_,rfl,rfl,_,rfl,bE zk ⟨_,rfl,q0 _ s1⟩⟩
  ·cases tv;refine ⟨fun μ σ H'=>∃ j:Nat,μ=rs.length - j/\j<=rs.length/\σ=[some (.ref a),some (.int k),some .non,some (.ref rl),some (.int (j:Int))]/\RuO Cs Ca H' a dx v pr x dx' p m c l ln (j:Int) (n+(j:Int)) ps ms cs ls (.str "on") ft/\ButT x a H H'/\ProgV Cp H' pr rs none/\TabV C H' v D/\H' rl=some (.lst []),⟨_,0,rfl,Ep _,rfl,by rw [Int.natCast_zero,Int.add_zero];exact hO.same s1,fun b o e _ _=>s1 _ _ e,hP.same s1,hT.same s1,e1⟩,?_⟩;rintro μ σ H2 ⟨j,rfl,hj,rfl,h2,b2,p2,t2,r2⟩;refine ⟨_,rfl,_,rfl,_,_,rfl,rfl,_,rfl,bR (decide_eq_true zo) ⟨_,fun _ _ h=>h,?_⟩⟩;refine ⟨_,rfl,a,Ca,dx,_,_,rfl,h2.ea,T.cl,T.n5,rfl,_,rfl,rl,_,rfl,.inl (SqL.of r2),rfl,rfl,_,rfl,aZ ?_⟩;refine ⟨_,rfl,a,dx,Ca,f1,_,fd1,4,["self"],_,rfl,h2.ea,rfl,T.cl,M1,F1,hr,B1,a,dx,x,dx',p,m,c,l,ln,v,pr,j,_,ps,ms,cs,ls,ft,rs,D,rfl,h2,p2,t2,hD,hkk,hj,fun e H3 h3 b3=>⟨_,rfl,bC ⟨_,rfl,?_⟩⟩,fun hl H3 h3 b3=>⟨_,rfl,aZ ?_⟩⟩
   ·subst e;exact qq H3 h3 (b2.trans fun d o e n1 _=>b3 d o e n1)
   ·have rx:rl≠x:=fun z=>by rw [z,h2.st.ex] at r2;cases r2
    have ra:rl≠a:=fun z=>by rw [z,h2.ea] at r2;cases r2
    refine ⟨_,rfl,_,_,rfl,rfl,_,zo,j+1,rfl,hl,rfl,?_,b2.trans b3,p2.butT h2 b3,t2.butT h2 b3,b3 _ _ r2 rx ra⟩;have e:n+((j+1:Nat):Int)=n+(j:Int)+1:=by lia
    rw [e];exact h3
end
mutual
def mt:PyData->Bool
 | .none=>true
 | .int _=>true
 | .str _=>true
 | .tuple xs=>fZ xs
 | _=>false
def fZ:List PyData->Bool
 | []=>true
 | x::r=>mt x && fZ r
end
mutual
theorem eqv_pl:∀ (a b:PyData),mt a=true->mt b=true->PyData.eqv a b=true->a=b
 | .none,.none,_,_,_=>rfl
 | .int i,.int j,_,_,h=>by
  have:i=j:=by simpa [PyData.eqv] using h
  rw [this]
 | .str x,.str y,_,_,h=>by
  have:x=y:=by simpa [PyData.eqv] using h
  rw [this]
 | .tuple xs,.tuple ys,ha,hb,h=>by
  have:=eqvs_pl xs ys (by simpa [mt] using ha) (by simpa [mt] using hb) (by simpa [PyData.eqv] using h);rw [this]
 | .none,.int _,_,_,h=>by simp [PyData.eqv] at h
 | .none,.str _,_,_,h=>by simp [PyData.eqv] at h
 | .none,.tuple _,_,_,h=>by simp [PyData.eqv] at h
 | .int _,.none,_,_,h=>by simp [PyData.eqv] at h
 | .int _,.str _,_,_,h=>by simp [PyData.eqv] at h
 | .int _,.tuple _,_,_,h=>by simp [PyData.eqv] at h
 | .str _,.none,_,_,h=>by simp [PyData.eqv] at h
 | .str _,.int _,_,_,h=>by simp [PyData.eqv] at h
 | .str _,.tuple _,_,_,h=>by simp [PyData.eqv] at h
 | .tuple _,.none,_,_,h=>by simp [PyData.eqv] at h
 | .tuple _,.int _,_,_,h=>by simp [PyData.eqv] at h
 | .tuple _,.str _,_,_,h=>by simp [PyData.eqv] at h
theorem eqvs_pl:∀ (a b:List PyData),fZ a=true->fZ b=true->PyData.eqvAll a b=true->a=b
 | [],[],_,_,_=>rfl
 | x::xs,y::ys,ha,hb,h=>by
  simp only [fZ,EA] at ha hb;simp only [PyData.eqvAll,EA] at h;rw [eqv_pl x y ha.1 hb.1 h.1,eqvs_pl xs ys ha.2 hb.2 h.2]
 | [],_::_,_,_,h=>by simp [PyData.eqvAll] at h
 | _::_,[],_,_,h=>by simp [PyData.eqvAll] at h
end
mutual
theorem eqv_refl:∀ (a:PyData),mt a=true->PyData.eqv a a=true
 | .none,_=>by simp [PyData.eqv]
 | .int i,_=>by simp [PyData.eqv]
 | .str x,_=>by simp [PyData.eqv]
 | .tuple xs,h=>by
  simp only [PyData.eqv];exact eqvs_refl xs (by simpa [mt] using h)
theorem eqvs_refl:∀ (a:List PyData),fZ a=true->PyData.eqvAll a a=true
 | [],_=>by simp [PyData.eqvAll]
 | x::xs,h=>by
  simp only [fZ,EA] at h;simp only [PyData.eqvAll,eqv_refl x h.1,eqvs_refl xs h.2,Bool.and_self]
end
abbrev sShapeOf:Stmt:=ci 47
abbrev sSameShape:Stmt:=ci 46
inductive FsV (H:Hp) (u:V) (k:Kn):Prop
 | mk (t fu:_):u=.ref t->H t=some (.tup fu)->Paired (FldV H) fu k.fs->FsV H u k
variable {u:V}
theorem FsV.same {k:Kn} (s:Same H H') (h:FsV H u k):FsV H' u k:=let ⟨t,fu,a,b,c⟩:=h;⟨t,fu,a,s _ _ b,cO (fun _ _ h=>FldV.kt (bn s) h) c⟩
inductive ShV (H:Hp) (u:V) (D:Fm):Prop
 | mk (a pp pm pn tf us:_):u=.ref a->H a=some (.tup [.int D.width,.int D.cells,.int D.depth,.ref pp,.ref pm,gP D,.ref pn,.ref tf])->H pp=some (.tup (au D.places))->H pm=some (.tup (au D.marks))->H pn=some (.tup (au (D.kinds.map Kn.name)))->H tf=some (.tup us)->Paired (FsV H) us D.kinds->ShV H u D
theorem ShV.same (s:Same H H') (h:ShV H u D):ShV H' u D:=let ⟨a,pp,pm,pn,tf,us,e,b,c,d,f,g,i⟩:=h;⟨a,pp,pm,pn,tf,us,e,s _ _ b,s _ _ c,s _ _ d,s _ _ f,s _ _ g,cO (fun _ _ h=>h.same s) i⟩
inductive spShO (C:Addr) (vs:List V) (H:Hp) (Q:VK) (Z3:XK):Prop
 | mk (v:V) (D:Fm):vs=[v]->TabV C H v D->gA D->(∀ u H',Same H H'->ShV H' u D->Q u H')->spShO C vs H Q Z3
variable {P:Program} {w:World} {K:ZF} {mg:Str->Option Value} {base:Heap} {C fi aS aE aF aO:Addr} {t1 t2 t3 t4 t5 tM:Tok}
theorem scShO:ak ["table","fields"] ["table"] (ai sShapeOf):=ck zk
theorem ndShO:(["kind","table"]:List Str).Nodup:=by decide +kernel
variable {fd:FuncData} {f:Addr}
theorem ok_shO (F:Fun K "shape_of" "shape_of" sShapeOf f fd) (T:Tc K C) (B:Bl mg) (FO:bT P w K mg base C "fields_of" 2 ["self","kind"] (uG C)):FnOk P w K mg base bM 3 f fd ["table"] (spShO C):=by
 have ZZ:=scShO
 walk_at "o"
 ·obtain ⟨v,D,rfl,hT,hD,q⟩:=h;have sz:(100000:Nat)<=sizeLine:=by decide
  obtain ⟨a,dx,pp,pm,pn,pk,us,rfl,ho,hpp,hpm,hpn,hpk,hus⟩:=id hT;obtain ⟨f1,fd1,M1,F1,B1⟩:=FO;refine ⟨_,ad (aA (i:=1) scShO.nd rfl (Or.inl rfl) (aN aX (by rfl) B.tuple aY (aa (fe (N':=["kind","table"]) (ix:=[none,some 0]) (sc0:=ai sShapeOf) (N:=["table","fields"]) rfl zk (gh (ax (pv 0) rfl)) (fun _ _ _ _ _=>aw (i:=0) ndShO rfl (Or.inl rfl) (.inr rfl)) (fun _ _ _ _ _=>cX) (fun _ _ _ _ _=>kJ (pv 1) T.cl M1 F1 hr B1 .nil cm (aa (pv 0) ac))) ac)))
   (af (ao (aW (aa (ax (pv 0) rfl) (aa (ax (pv 0) rfl) (aa (ax (pv 0) rfl) (aa (ax (pv 0) rfl) (aa (ax (pv 0) rfl) (aa (ax (pv 0) rfl) (aa (ax (pv 0) rfl) (aa (pv 1) ac))))))))))),?_⟩
  refine ⟨_,rfl,a,C,dx,_,_,rfl,ho,T.cl,T.na "kinds" zk,rfl,pn,rfl,⟨_,SqT.of hpn⟩,?_⟩;have ln:(au (D.kinds.map Kn.name)).length=D.kinds.length:=by unfold au;rw [D8,D8]
  have k8:=hD.k8;refine jl (K:=K) (a:=pn) (xs:=au (D.kinds.map Kn.name)) (fun i ys H'=>Same H H'/\Paired (FsV H') ys (D.kinds.take i)) ⟨Same.refl _,.nil⟩ (fun i ys H' hi ⟨s',e'⟩=>⟨SqT.of (s' _ _ hpn),by have:=e'.length;rw [Em] at this;lia⟩) ?_ ?_
  ·rintro i x ys H2 hx ⟨s2,pr⟩;obtain ⟨k,hk,rfl⟩:∃ k,D.kinds[i]?=some k/\x=.str k.name:=by
    unfold au at hx;rw [EU,EU] at hx;cases e:D.kinds[i]? with
    | none=>rw [e] at hx;cases hx
    | some k=>rw [e] at hx;exact ⟨k,rfl,(Ey hx).symm⟩
   refine ⟨⟨rfl,trivial⟩,dM ⟨_,rfl,a,dx,_,rfl,s2 _ _ ho,rfl,_,rfl,_,D,k,rfl,hT.same s2,hD,EV hk,fun tf fu htf hfu=>?_⟩⟩;refine Nx.mk (D7.mp hx).1 ⟨s2,?_⟩;rw [Fd,hk];exact kg (y:=k) ⟨tf,fu,rfl,htf,hfu⟩ pr
  ·rintro ys H2 ⟨s2,pr⟩ l3 n3;rw [ln,ER] at pr;generalize zz:upd H2 l3 _=H3;have ⟨s3,e3⟩:=nw n3 zz;clear zz;refine ⟨l3,ys,rfl,.inl ⟨SqL.of e3,fun t4 n4=>?_⟩⟩;generalize zz:upd H3 t4 _=H4;have ⟨s4,e4⟩:=nw n4 zz;clear zz;have s04:=s2.trans (s3.trans s4);have ho4:=s04 _ _ ho;have fl:=fun (x:Str) h=>T.na x h;refine ⟨_,rfl,a,C,dx,_,_,rfl,ho4,T.cl,fl "width" zk,rfl,_,rfl,a,C,dx,_,_,rfl,ho4,T.cl,fl "cells" zk,rfl,_,rfl,a,C,dx,_,_,rfl,ho4,T.cl,fl "depth" zk,rfl,_,rfl,a,C,dx,_,_,rfl,ho4,T.cl,fl "places" zk,rfl,_,rfl,a,C,dx,_,_,rfl,ho4,T.cl,fl "marks" zk,rfl,_,rfl,a,C,dx,_,_,rfl,ho4,T.cl,fl "gate" zk,rfl,_,rfl,a,C,dx,_,_,rfl,ho4,T.cl,fl "kinds" zk,rfl,_,rfl,zlx,fun r nr=>?_⟩;have s5:=ah (o:=.tup [.int D.width,.int D.cells,.int D.depth,.ref pp,.ref pm,gP D,.ref pn,.ref t4]) nr;have s05:=s04.trans s5;exact q _ _ s05 ⟨r,pp,pm,pn,t4,ys,rfl,ae,s05 _ _ hpp,s05 _ _ hpm,s05 _ _ hpn,s5 _ _ e4,cO (fun _ _ h=>h.same ((s3.trans s4).trans s5)) pr⟩
def gateD (D:Fm):PyData:=match D.gates with
 | []=>.none
 | z::_=>.str z
def strD (l:List Str):List PyData:=l.map PyData.str
def fldD (f:Str×Str):PyData:=.tuple [.str f.1,.str f.2]
def fsD (k:Kn):PyData:=.tuple (k.fs.map fldD)
def shD (D:Fm):PyData:=.tuple [.int D.width,.int D.cells,.int D.depth,.tuple (strD D.places),.tuple (strD D.marks),gateD D,.tuple (strD (D.kinds.map Kn.name)),.tuple (D.kinds.map fsD)]
structure OkN (D:Fm):Prop where
 pl:∀ z∈D.places,yb z=true
 mr:∀ z∈D.marks,yb z=true
 gt:∀ z∈D.gates,yb z=true
 kn:∀ k∈D.kinds,yb k.name=true
 fs:∀ k∈D.kinds,∀ f∈k.fs,yb f.1=true/\yb f.2=true
theorem dt_strD:∀ l:List Str,DtAll K H (au l) (strD l)
 | []=>.nil
 | x::r=>.cons (.str x) (dt_strD r)
theorem dt_flds:∀ {us:List V} {fs:List (Str×Str)},Paired (FldV H) us fs->DtAll K H us (fs.map fldD)
 | _,_,.nil=>.nil
 | _,_,.cons h t=>by
  obtain ⟨p,rfl,e⟩:=h;exact .cons (.tup (SqT.of e) (.cons (.str _) (.cons (.str _) .nil))) (dt_flds t)
theorem dt_kinds:∀ {us:List V} {ks:List Kn},Paired (FsV H) us ks->DtAll K H us (ks.map fsD)
 | _,_,.nil=>.nil
 | _,_,.cons h t=>by
  obtain ⟨p,fu,rfl,e,hf⟩:=h;exact .cons (.tup (SqT.of e) (dt_flds hf)) (dt_kinds t)
theorem ShV.dt (h:ShV H u D):Dt K H u (shD D):=by
 obtain ⟨a,pp,pm,pn,tf,us,rfl,ha,hpp,hpm,hpn,htf,hus⟩:=h;have hg:Dt K H (gP D) (gateD D):=by
  unfold gP gateD;cases D.gates with
  | nil=>exact .non
  | cons z _=>exact .str z
 exact .tup (SqT.of ha) (.cons (.int _) (.cons (.int _) (.cons (.int _) (.cons (.tup (SqT.of hpp) (dt_strD _)) (.cons (.tup (SqT.of hpm) (dt_strD _)) (.cons hg (.cons (.tup (SqT.of hpn) (dt_strD _)) (.cons (.tup (SqT.of htf) (dt_kinds hus)) .nil))))))))
theorem lay_strD:∀ {l:List Str},(∀ z∈l,yb z=true)->PyData.canLayAll0 (strD l)=true
 | [],_=>by simp [strD,PyData.canLayAll0]
 | x::r,h=>by
  have h1:(PyData.str x).canLay0=true:=h x Eb;have h2:=lay_strD (l:=r) fun z hz=>h z (Ef _ hz);show ((PyData.str x).canLay0 && PyData.canLayAll0 (strD r))=true;rw [h1,h2];rfl
theorem lay_map {α:Type} {g:α->PyData}:∀ {l:List α},(∀ z∈l,(g z).canLay0=true)->PyData.canLayAll0 (l.map g)=true
 | [],_=>by simp [PyData.canLayAll0]
 | x::r,h=>by
  have h2:=lay_map (l:=r) fun z hz=>h z (Ef _ hz);show ((g x).canLay0 && PyData.canLayAll0 (r.map g))=true;rw [h x Eb,h2];rfl
theorem shD_lay (h:OkN D):(shD D).canLay0=true:=by
 have a1:=lay_strD h.pl;have a2:=lay_strD h.mr;have a3:(gateD D).canLay0=true:=by
  have:=h.gt;unfold gateD;cases e:D.gates with
  | nil=>simp [PyData.canLay0]
  | cons z _=>exact this z (by rw [e];exact Eb)
 have a4:=lay_strD (l:=D.kinds.map Kn.name) fun z hz=>let ⟨k,hk,e⟩:=Fa.mp hz;e ▸ h.kn k hk;have a5:PyData.canLayAll0 (D.kinds.map fsD)=true:=lay_map fun k hk=>by
  show PyData.canLayAll0 (k.fs.map fldD)=true;refine lay_map fun f hf=>?_;have h1:(PyData.str f.1).canLay0=true:=(h.fs k hk f hf).1;have h2:(PyData.str f.2).canLay0=true:=(h.fs k hk f hf).2;show ((PyData.str f.1).canLay0 && ((PyData.str f.2).canLay0 && true))=true;rw [h1,h2];rfl
 show (true && (true && (true && (PyData.canLayAll0 (strD D.places) && (PyData.canLayAll0 (strD D.marks) && ((gateD D).canLay0 && (PyData.canLayAll0 (strD (D.kinds.map Kn.name)) && (PyData.canLayAll0 (D.kinds.map fsD) && true))))))))=true;rw [a1,a2,a3,a4,a5];rfl
theorem dep_map {α:Type} {g:α->PyData} {n:Nat}:∀ {l:List α},(∀ z∈l,(g z).depth<=n)->PyData.depthAll (l.map g)<=n+1
 | [],_=>by simp [PyData.depthAll]
 | x::r,h=>by
  have h1:=h x Eb;have h2:=dep_map (l:=r) fun z hz=>h z (Ef _ hz);simp only [Er,PyData.depthAll];lia
theorem pl_map {α:Type} {g:α->PyData}:∀ {l:List α},(∀ z∈l,mt (g z)=true)->fZ (l.map g)=true
 | [],_=>rfl
 | x::r,h=>by
  show (mt (g x) && fZ (r.map g))=true;rw [h x Eb,pl_map fun z hz=>h z (Ef _ hz)];rfl
theorem shD_pl (D:Fm):mt (shD D)=true:=by
 have a1:∀ l:List Str,fZ (strD l)=true:=fun l=>pl_map fun _ _=>rfl;have a3:mt (gateD D)=true:=by unfold gateD;cases D.gates<;>rfl
 have a5:fZ (D.kinds.map fsD)=true:=pl_map fun k _=>by
  show fZ (k.fs.map fldD)=true;exact pl_map fun f _=>rfl
 show (true && (true && (true && (fZ (strD D.places) && (fZ (strD D.marks) && (mt (gateD D) && (fZ (strD (D.kinds.map Kn.name)) && (fZ (D.kinds.map fsD) && true))))))))=true;rw [a1,a1,a3,a1,a5];rfl
theorem shD_dep (D:Fm):(shD D).depth<=40:=by
 have a1:∀ l:List Str,PyData.depthAll (strD l)<=4:=fun l=>Ew (dep_map (n:=1) fun _ _=>by simp [PyData.depth]) zd;have a3:(gateD D).depth<=4:=by unfold gateD;cases D.gates<;>simp [PyData.depth]
 have a5:PyData.depthAll (D.kinds.map fsD)<=20:=Ew (dep_map (n:=15) fun k _=>by
  have:PyData.depthAll (k.fs.map fldD)<=11:=dep_map (n:=10) fun f _=>by simp [fldD,PyData.depth,PyData.depthAll]
  simp only [fsD,PyData.depth];lia) zd
 have b1:=a1 D.places;have b2:=a1 D.marks;have b3:=a1 (D.kinds.map Kn.name);simp only [shD,PyData.depth,PyData.depthAll];lia
inductive spSS (C:Addr) (vs:List V) (H:Hp) (Q:VK) (Z3:XK):Prop
 | mk (v u:V) (D D':Fm):vs=[v,u]->TabV C H v D->TabV C H u D'->gA D->gA D'->OkN D->OkN D'->(∀ H',Same H H'->Q (.bl (PyData.eqv (shD D) (shD D'))) H')->spSS C vs H Q Z3
theorem scSS:ak ["one","other"] ["one","other"] (ai sSameShape):=ck zk
theorem ok_ss (F:Fun K "same_shape" "same_shape" sSameShape f fd) (SH:Fn P w K mg base "shape_of" 3 ["table"] (spShO C)):FnOk P w K mg base bM 4 f fd ["one","other"] (spSS C):=by
 have ZZ:=scSS
 walk_at "o"
 ·obtain ⟨v,u,D,D',rfl,hT,hU,hD,hD',ok,ok',q⟩:=h;refine ⟨_,af (ao (cf (op_eqD hr) (aI SH hr rfl (aa (pv 0) ac)) (aI SH hr rfl (aa (pv 1) ac)))),?_⟩;refine ⟨_,rfl,v,D,rfl,hT,hD,fun x H1 s1 sh1=>⟨_,rfl,u,D',rfl,hU.same s1,hD',fun y H2 s2 sh2=>?_⟩⟩;have:=shD_dep D;exact ⟨shD D,shD D',(sh1.same s2).dt,sh2.dt,shD_lay ok,shD_lay ok',zo,q _ (s1.trans s2)⟩
theorem ss_no {D D':Fm} (h:shD D≠shD D'):PyData.eqv (shD D) (shD D')=false:=Ez.mpr fun z=>h (eqv_pl _ _ (shD_pl D) (shD_pl D') z)
end L3
namespace L2
open PySem PySem.Spec PyProof.Rows
section
variable {X:Cx} {k:Nat} {f C:Addr} {fd:FuncData} {ps:List Str} {sp:Sp} {dvs:List V} {ds:List Value} {ES:St->XK} {x m:Str} {p pos apos:Pos} {e o:Expr} {es:List Expr} {ta:TE} {t:TA}
def zI (C:Addr) (sp:Sp) (dvs:List V) (ES:St->XK) (t:TA):TE:=fun σ H Q=>t σ H fun vs H1=>∀ x dx,H1 x=none->H1 dx=none->dx≠x->
 sp (.ref x::(vs++dvs)) (upd (upd H1 dx (.own x)) x (.ins C dx [])) (fun v H2=>v=.non/\Q (.ref x) H2) (ES σ)
theorem sg {pins:List (Addr×Obj)} {σ:St} {H:Hp} {s:Shared} {Q:VK} {us:List Value} {vs:List V} (M:Mk X.K C f) (F:FnOk X.prog X.w X.K X.mg X.base (iw X.prog X.w) k f fd ps sp) (hr:Room (k+1) X.A) (hb:Binds X.K fd ps ds) (hd:Vals dvs ds)
  (hx:zy X ES) (I:Inv X pins σ H s) (r:Vals vs us)
  (h:∀ x dx,H x=none->H dx=none->dx≠x->sp (.ref x::(vs++dvs)) (upd (upd H dx (.own x)) x (.ins C dx [])) (fun v H2=>v=.non/\Q (.ref x) H2) (ES σ)) :
  wpAny (model X.prog X.w) X.A (call (.ref C) us) (EP X pins σ Q) X.xe s:=by
 have hq:=h (s.heap.objs.size+1) s.heap.objs.size (I.hok.fresh (Nat.le_succ _)) (I.hok.fresh (Ec _)) (Es (Fi _));have I2:=Inv.made (C:=C) I;have r2:Vals (V.ref (s.heap.objs.size+1)::(vs++dvs)) (Value.ref (s.heap.objs.size+1)::(us++ds)):=.cons rfl (r.append hd);have hl:(Value.ref (s.heap.objs.size+1)::us++ds).length=ps.length:=by
  have e:=r2.length;rw [F.len _ _ _ _ hq] at e;exact e.symm
 refine wpAny_call (mD (f:=f) I.kIn M.makes M.init (beq_iff_eq.mp M.fn) (codeAny_mono (F.run _ X.stack _ _ ⟨Value.ref (s.heap.objs.size+1)::us,[]⟩ (Value.ref (s.heap.objs.size+1)::(us++ds)) _ _ (ES σ) (hr.make C us [])
  (I2.env0.make C us []) (hb _ (Value.ref (s.heap.objs.size+1)::us) I2.kIn hl) r2 hq) fun r s' hq'=>?_))
 cases r with
 | error e=>exact hx e s' (yj I2 hq')
 | ok fl=>
  cases fl with
  | ret u=>
   obtain ⟨v,H',I3,rv,ev,q3⟩:=I2.after hq';subst ev;exact ⟨rv,⟨V.ref (s.heap.objs.size+1),H',I3,rfl,q3⟩⟩
  | next=>exact False.elim hq'
  | brk=>exact False.elim hq'
  | cont=>exact False.elim hq'
theorem ve (M:Mk X.K C f) (F:FnOk X.prog X.w X.K X.mg X.base (iw X.prog X.w) k f fd ps sp) (hr:Room (k+1) X.A) (hg:Gl X x) (hm:X.mg x=some (.ref C)) (hb:Binds X.K fd ps ds) (hd:Vals dvs ds) (hx:zy X ES)
  (ha:PA X (e::es) t) (hdb:(x == ("__debug__":Str))=false:=by decide) (he:starEach (e::es) X.env=(false,eval e X.env)::starEach es X.env:=by rfl) (hpl:(backTo pos (starEach es X.env)).any (·.1)=false:=by rfl) :
  PE X (.Call (.Name x p) (e::es) [] pos) (zI C sp dvs ES t):=by
 refine ⟨?_⟩;intro pins s σ H Q I h;refine wpAny_Call_Name_kw (dF I hg hm ?_ hdb);refine EX (h₀:=X.base) I.ok.mod.kin M.kp (bG (ha pos pins s σ H _ I h) fun us s1 ⟨vs,H1,I1,r,q⟩=>⟨I1.kIn,?_⟩) he hpl;exact sg M F hr hb hd hx I1 r q
end
end L2
namespace L3
open PySem L2
abbrev gD:Stmt:=bo (ci 65) 7
abbrev lP:Stmt:=bo (ci 67) 2
inductive nJ (C Ca cU:Addr) (vs:List V) (H:Hp) (Q:VK) (E:XK):Prop
 | mk (a dx x ln:Addr) (v u pr:V) (wt:Bool) (n:Int) (D D':Fm):vs=[.ref a,u]->H a=some (.ins Ca dx (Da v pr x wt n ln))->TabV C H v D->TabV C H u D'->gA D->gA D'->OkN D->OkN D'->shD D≠shD D'->Refuse cU "word" (.str "shape") H E->nJ C Ca cU vs H Q E
section
variable {P:Program} {w:World} {K:ZF} {mg:Str->Option Value} {base:Heap} {C Ca R cU fU:Addr}
theorem Bu:ak ["self","table"] ["self","table"] (ai gD):=ck zk
variable {fd fdK:FuncData} {f:Addr}
theorem zJ (F:Fun K "need_shape" "Runner.need_shape" gD f fd) (T:Uc K Ca) (TX:Xk K mg R cU fU "Unlike" "word") (FK:FnOk P w K mg base bM 2 fU fdK ["self","word"] (spNK cU "word")) (BK:Binds K fdK ["self","word"] []) (SS:Fn P w K mg base "same_shape" 4 ["one","other"] (spSS C)):FnOk P w K mg base (iw P w) 5 f fd ["self","table"] (nJ C Ca cU):=by
 refine F.okX Bu (fun vs H Q E h=>?_) (fun cdv A outer s H vs Q E hr h=>?_)
 ·obtain ⟨a,dx,x,ln,v,u,pr,wt,n,D,D',rfl,_⟩:=h;rfl
 ·obtain ⟨a,dx,x,ln,v,u,pr,wt,n,D,D',rfl,ha,hT,hU,hD,hD',ok,ok',ne,RR⟩:=h;refine ⟨_,af (aR (bx (bj (aI SS hr rfl (aa (ax (pv 0) rfl) (aa (pv 1) ac))))) (af (df (dc TX.k TX.mkx FK hr.m rfl TX.mK BK cm zd (aa aC ac)) bZ rfl)) ay),?_⟩;refine ⟨_,rfl,a,Ca,dx,_,_,rfl,ha,T.cl,T.n1,rfl,_,rfl,v,u,D,D',rfl,hT,hU,hD,hD',ok,ok',fun H1 s1=>⟨_,rfl,?_⟩⟩;rw [ss_no ne];exact bC (raise_it (D:={ nx:=fun _ _=>True,rt:=fun _ _=>True }) TX s1 RR fun Q' h=>h)
theorem vf:ak ["self","table"] ["self","table"] (ai lP):=ck zk
theorem sh {f f1:Addr} {fd fd1:FuncData} (F:Fun K "change" "Above.change" lP f fd) (T:Uc K Ca) (M1:kG K Ca "need_shape" f1) (F1:FnOk P w K mg base (iw P w) 5 f1 fd1 ["self","table"] (nJ C Ca cU)) (B1:Binds K fd1 ["self","table"] []):FnOk P w K mg base (iw P w) 6 f fd ["self","table"] (nJ C Ca cU):=by
 refine F.okX vf (fun vs H Q E h=>?_) (fun cdv A outer s H vs Q E hr h=>?_)
 ·obtain ⟨a,dx,x,ln,v,u,pr,wt,n,D,D',rfl,_⟩:=h;rfl
 ·obtain ⟨a,dx,x,ln,v,u,pr,wt,n,D,D',rfl,ha,hT,hU,hD,hD',ok,ok',ne,RR⟩:=h;refine ⟨_,ad (aQ (jB (pv 0) T.cl M1 F1 hr B1 .nil bZ (aa (pv 1) ac))) (af be),?_⟩;exact ⟨_,rfl,a,dx,_,rfl,ha,rfl,_,rfl,a,dx,x,ln,v,u,pr,wt,n,D,D',rfl,ha,hT,hU,hD,hD',ok,ok',ne,RR⟩
end
end L3
namespace L2
open PySem PySem.Spec PyProof.Rows
section
variable {X:Cx}
variable {K:ZF}
theorem gW {e:Expr} {f:Str} {ta:TE} {pos:Pos} (h:X.K=K) (he:PE X e ta) (hb:attributeBase e f X.env (eval e X.env)=eval e X.env):PE X (.Attribute e f pos) (yh K ta f):=by
 subst h;exact w6 he hb
theorem lQ {T:String} (h:X.K=K):cV X (.builtin "isinstance") (fun xs H Q=>∃ x t b,xs=[x,.ty T]/\fX K H x t/\PySem.W.kitOne K t (.type T)=some b/\Q (.bl b) H):=by
 subst h;exact cw
theorem xm:cV X (.builtin "isinstance") (fun xs H Q=>∃ (v y:V) (t c:Value) (b:Bool),xs=[v,y]/\fX X.K H v t/\(∀ u,RelV y u->u=c)/\PySem.W.kitOne X.K t c=some b/\Q (.bl b) H):=by
 intro pins s σ H xs us Q I r h;obtain ⟨v,y,t,c,b,rfl,ty,hy,e,q⟩:=h;cases r with
 | cons r1 r2=>
  cases r2 with
  | cons r2 r3=>
   cases r3;rw [hy _ r2];exact j3 I r1 ty e fun tk=>⟨.bl b,H,I.tok _,rfl,q⟩
variable {x:V}
theorem vh (h:eM x=true):oy x x=true:=by
 cases x<;>first|rfl|(simp [oy];done)|cases h
theorem dh {α β:Type} {F:α->β->Prop}:∀ {xs:List α} {ys:List β},Paired F xs ys->∀ (j:Nat) (h1:j < xs.length) (h2:j < ys.length),F xs[j] ys[j]
 | _,_,.cons h t,0,_,_=>h
 | _,_,.cons h t,j+1,h1,h2=>dh t j (by simpa using h1) (by simpa using h2)
def Idn (x:V):Prop:=eM x=true\/∃ a,x=.ref a
variable {A:Around} {u v:Value} {s:Shared}
theorem Idn.at (h:Idn x) (rx:RelV x u) (ry:RelV x v):SeqAt.EqAt A s u v true:=by
 rcases h with hf|⟨a,rfl⟩
 ·have:=sX (A:=A) (s:=s) rx ry hf hf;rw [vh hf] at this;exact this
 ·cases rx;cases ry;exact SeqAt.EqAt.same _
theorem lR (n:Nat):(List.range n).all (fun _=>true)=true:=by rw [EQ];intros;rfl
inductive EqI (K:ZF) (H:Hp):V->V->Prop
 | one {x:V}:Idn x->EqI K H x x
 | lst {a b:Addr} {xs:List V}:SqL K H a xs->SqL K H b xs->(∀ z∈xs,Idn z)->EqI K H (.ref a) (.ref b)
variable {H:Hp} {σ:St} {pins:List (Addr×Obj)}
theorem vi {a b:Addr} {xs:List V} (I:Inv X pins σ H s) (h1:SqL X.K H a xs) (h2:SqL X.K H b xs) (hz:∀ z∈xs,Idn z) (hu:A.units < cLine):SeqAt.RcAt A s (.ref a) (.ref b) true:=by
 obtain ⟨its,rv,pl,_⟩:=I.list h1;obtain ⟨its2,rv2,pl2,_⟩:=I.list h2;have n1:=rv.length;have n2:=rv2.length;have:=SeqAt.RcAt.lists (A:=A) (e:=fun _=>true) pl.isList pl2.isList (by rw [Ea,Ea];lia) hu (fun j j1 j2=>by
  have a1:j < its.length:=by simpa using j1
  have a2:j < its2.length:=by simpa using j2
  have r1:=dh rv j zo a1;have r2:=dh rv2 j zo a2;have:=(hz _ (E9 zo)).at (A:=A.in1) (s:=s) r1 r2;simpa using this)
 rw [lR] at this;exact this
theorem EqI.at {x y:V} (I:Inv X pins σ H s) (h:EqI X.K H x y) (rx:RelV x u) (ry:RelV y v) (hu:A.units < cLine):SeqAt.EqAt A s u v true:=by
 cases h with
 | one h=>exact h.at rx ry
 | @lst a b xs h1 h2 hz=>
  cases rx;cases ry;by_cases e:a=b
  ·subst e;exact SeqAt.EqAt.same _
  ·exact SeqAt.EqAt.of_refs e (vi I h1 h2 hz hu)
theorem xn {k:Nat} (hr:Room k X.A):dO X (compareOp .Eq) (fun x y H Q=>∃ p q xs ys,x=.ref p/\y=.ref q/\SqT X.K H p xs/\SqT X.K H q ys/\Paired (EqI X.K H) xs ys/\Q (.bl true) H):=by
 intro pins s σ H x y v u Q I rx ry h;obtain ⟨p,q,xs,ys,rfl,rfl,h1,h2,hp,k⟩:=h;cases rx;cases ry;obtain ⟨its,rv,pl,_⟩:=I.tuple h1;obtain ⟨its2,rv2,pl2,_⟩:=I.tuple h2;have n1:=rv.length;have n2:=rv2.length;have n3:=hp.length;have hu:X.A.units+200 < cLine:=by have:=hr.un;lia
 refine SeqAt.eq_tupleAt (e:=fun _=>true) pl pl2 zo (fun j j1 j2=>?_) ?_
 ·have a1:j < its.length:=by simpa using j1
  have a2:j < its2.length:=by simpa using j2
  have r1:=dh rv j zo a1;have r2:=dh rv2 j zo a2;have:=(dh hp j zo zo).at (A:=X.A.in1) (s:=s) I r1 r2 (by show X.A.units+1 < cLine;lia);simpa using this
 ·have e2:(its.toArray.size == its2.toArray.size)=true:=by simp;lia
  rw [lR,e2];exact ⟨.bl true,H,I,rfl,k⟩
theorem nK {k:Nat} (hr:Room k X.A):dO X (compareOp .Eq) (fun x y H Q=>∃ p q xs,x=.ref p/\y=.ref q/\SqL X.K H p xs/\SqL X.K H q []/\Q (.bl xs.isEmpty) H):=by
 intro pins s σ H x y v u Q I rx ry h;obtain ⟨p,q,xs,rfl,rfl,h1,h2,k⟩:=h;cases rx;cases ry;obtain ⟨its,rv,pl,_⟩:=I.list h1;obtain ⟨its2,rv2,pl2,_⟩:=I.list h2;have n1:=rv.length;have n2:=rv2.length;have hu:X.A.units < cLine:=by have:=hr.un;lia
 cases xs with
 | nil=>
  refine SeqAt.eq_listAt (e:=fun _=>true) pl.isList pl2.isList (by rw [Ea,Ea];lia) hu (fun j j1 _=>?_) ?_
  ·rw [Ea] at j1;have:its.length=0:=n1.symm;lia
  ·rw [lR];exact ⟨.bl true,H,I,rfl,k⟩
 | cons a r=>
  refine SeqAt.eq_list_lengthsAt pl.isList pl2.isList ?_ hu ⟨.bl false,H,I,rfl,k⟩;rw [Ea,Ea];simp only [Eh,E8] at n1 n2;rw [<-n1,<-n2];rfl
theorem xp {k:Nat} (hr:Room k X.A):dO X (compareOp .NotEq) (fun x y H Q=>∃ p q xs,x=.ref p/\y=.ref q/\SqL X.K H p xs/\SqL X.K H q xs/\(∀ z∈xs,Idn z)/\Q (.bl false) H):=by
 intro pins s σ H x y v u Q I rx ry h;obtain ⟨p,q,xs,rfl,rfl,h1,h2,hz,k⟩:=h;cases rx;cases ry;obtain ⟨its,rv,pl,_⟩:=I.list h1;obtain ⟨its2,rv2,pl2,_⟩:=I.list h2;have n1:=rv.length;have n2:=rv2.length;have hu:X.A.units < cLine:=by have:=hr.un;lia
 have:=SeqAt.RcNeAt.lists (A:=X.A) (e:=fun _=>true) pl.isList pl2.isList (by rw [Ea,Ea];lia) hu (fun j j1 j2=>by
  have a1:j < its.length:=by simpa using j1
  have a2:j < its2.length:=by simpa using j2
  have r1:=dh rv j zo a1;have r2:=dh rv2 j zo a2;have:=(hz _ (E9 zo)).at (A:=X.A.in1) (s:=s) r1 r2;simpa using this)
 refine this X.prog X.w X.xe _ ?_;rw [lR];exact ⟨.bl false,H,I,rfl,k⟩
end
theorem iB:fillsNumberSlot (.type "tuple") "mul"=pure false:=
 PySem.fillsNumberSlot_seq (id:="tuple.__mul__") (r:=some (.builtin "tuple.__rmul__")) F.slot_tuple_mul.lookup zk F.slot_tuple_rmul.lookup zk
theorem lS:seqRepeat? (.type "tuple")=pure (some (.builtin "tuple.__mul__")):=by
 unfold seqRepeat?;rw [PySem.seqSlot_of (T:="tuple") (name:="__mul__") (id:="tuple.__mul__") F.slot_tuple_mul.lookup zk,PySem.seqSlot_of (T:="tuple") (name:="__rmul__") (id:="tuple.__rmul__") F.slot_tuple_rmul.lookup zk];rfl
theorem vj (a:Int) (t:Tok) (l:Addr) (items:Array Value) (n:Nat) (dd:Option Addr) (sl:Array (Option Value)) :
  Meets (Builtin.«int.__rmul__» ⟨[.int a t,.ref l],[]⟩) (fun _ R s=>s.heap.get? l=some { cls:=.type "tuple",dict:=dd,data:=.seq items n,slots:=sl }/\R (.ok (.ret Value.notImplemented)) s):=
 .of_wp fun prog w A R s h=>by obtain ⟨hp,g,d,tk,os⟩:=s;obtain ⟨hl,h⟩:=h;wp_walk;exact ⟨_,rfl,h⟩
theorem jI (x:Value) (k:Nat):List.foldl (fun x1 x2=>x1++x2) #[] (List.replicate k #[x])=(List.replicate k x).toArray:=by
 have:=hV [x] k [];rw [Fu,List.flatten_replicate_singleton] at this;exact this
theorem xq (l:Addr) (x:Value) (n:Nat) (dd:Option Addr) (sl:Array (Option Value)) (k:Nat) (u:Tok) (hk:2<=k) (hz:k<=1000) :
  Meets (Builtin.«tuple.__mul__» ⟨[.ref l,.int (k:Int) u],[]⟩) (fun _ R s=>s.heap.get? l=some { cls:=.type "tuple",dict:=dd,data:=.seq #[x] n,slots:=sl }/\R (.ok (.ret (Value.ref s.heap.objs.size))) { s with heap:=s.heap.push { cls:=Value.type "tuple",data:=Data.seq ((List.replicate k #[x]).foldl (·++·) #[]) },toks:=s.toks }):=
 .of_wp fun prog w A R s h=>by
  obtain ⟨hp,g,d,tk,os⟩:=s;obtain ⟨hl,h⟩:=h;have f1:=AutoSeq1.idx_int;have c0:¬(decide ((k:Int) < -(2 ^ 63)) || decide ((k:Int) ≥ 2 ^ 63))=true:=by rw [Bool.or_eq_true,decide_eq_true_eq,decide_eq_true_eq];lia
  have c1:¬((#[x]:Array Value).isEmpty || (k:Int) == 1)=true:=by rw [Bool.or_eq_true,beq_iff_eq];rintro (z|z);exact absurd z (by simp);lia
  have c2:¬(decide ((k:Int)<=0) || (#[x]:Array Value).isEmpty)=true:=by rw [Bool.or_eq_true,decide_eq_true_eq];rintro (z|z);lia;exact absurd z (by simp)
  have c3:¬((#[x]:Array Value).size:Int)*(k:Int) > (2 ^ 63 - 1) / 8:=by show ¬ ((1:Nat):Int)*(k:Int) > _;lia
  have c4:¬Builtin.Tuple.tupleTooMany (((#[x]:Array Value).size:Int)*(k:Int))=true:=by
   have:((1000:Nat):Int)<=(sizeLine:Int):=by decide
   unfold Builtin.Tuple.tupleTooMany;rw [decide_eq_true_eq];show ¬ ((1:Nat):Int)*(k:Int) > _;lia
  wp_walk using wpAny_loadPart' hl
  refine wpAny_ite_false (decide_eq_false c0) ?_
  wp_walk using wpAny_loadPart' hl
  refine wpAny_ite_false (decide_eq_false c1) ?_
  wp_walk using wpAny_loadPart' hl
  refine wpAny_ite_false (decide_eq_false c2) ?_
  wp_walk using wpAny_loadPart' hl
  refine wpAny_ite_false (decide_eq_false c3) ?_
  wp_walk using wpAny_loadPart' hl
  refine wpAny_ite_false (decide_eq_false c4) ?_
  wp_walk using wpAny_loadPart' hl
  rw [E6,jI];rw [jI] at h;have c5:¬(List.replicate k x).toArray.size > sizeLine:=by
   have:(1000:Nat)<=sizeLine:=by decide
   rw [Ea,Ex];lia
  refine wpAny_ite_false (decide_eq_false c5) ?_
  wp_walk using wpAny_loadPart' hl
  exact ⟨_,rfl,h⟩
theorem xr {X:Cx}:dO X (binaryOp .Mult) (fun x y H Q=>∃ (p:Addr) (k:Nat) (z:V),x=.ref p/\y=.int (k:Int)/\SqT X.K H p [z]/\2<=k/\k<=1000/\∀ t,H t=none->Q (.ref t) (upd H t (.tup (List.replicate k z)))):=by
 intro pins s σ H x y v u Q I rx ry h;obtain ⟨p,k,z,rfl,rfl,hp,h2,h1,q⟩:=h;cases rx;obtain ⟨t,rfl⟩:=ry;obtain ⟨its,r,pl,_⟩:=I.tuple hp;obtain ⟨⟨cls,dd,data,sl⟩,ho,hc,n,hd⟩:=id pl;simp only at hc hd;subst hc hd;obtain ⟨a,rfl⟩:∃ a,its=[a]:=by
  cases r with
  | cons a b=>cases b;exact ⟨_,rfl⟩
 have sz:(1000:Nat)<=sizeLine:=by decide
 refine wpAny_binaryOp_repeat_ref (T:="tuple") (U:="int") zd ⟨_,ho,rfl⟩ (fun s'=>typeIs_int s' k t) iB F.fills_int_mul F.slot_int_rmul lS F.slot_int_index.lookup
  (call_meets F.slot_int_rmul (typeIs_int s k t) F.entry_int_rmul (F.args_int_rmul_2 _ _) (vj k t p #[a] n dd sl)
   ⟨ho,rfl,⟨_,ho,rfl⟩,call_meets F.slot_tuple_mul ⟨_,ho,rfl⟩ F.entry_tuple_mul (F.args_tuple_mul_2 _ _) (xq p a n dd sl k t h2 h1) ⟨ho,?_⟩⟩)
 rw [jI];refine ⟨.ref s.heap.objs.size,_,I.laid (t':=s.toks) (o:=.tup (List.replicate k z)) (fun b ob q=>D6 _ q) (Ec _) ?_,rfl,q _ (I.hok.fresh (Ec _))⟩;have r':=r.rep k;rw [List.flatten_replicate_singleton,List.flatten_replicate_singleton] at r';exact ⟨by rw [Ex];lia,_,r',TupP.new _ _⟩
end L2
namespace L3
open PySem L2
structure xt (D:Fm) (fn:List Str):Prop where
 w4:4<=D.width
 w24:D.width<=24
 ce:4<=D.cells/\D.cells<=64
 de:D.depth<=8
 fm:gA D
 nm:DR D
 f3:fn.length=3
 fS:∀ z∈fn,NameS z
 p1:1<=D.places.length
 k1:1<=D.kinds.length
 kf:∀ x∈D.kinds,∃ st,x.fs=fn.zip st/\st.length<=3/\∀ s∈st,s∈dY/\True
def iI (c:Nat):Prop:=(97<=c/\c<=122)\/(48<=c/\c<=57)
variable {c:Nat}
theorem qI (h:iI c):TK.eO c=false:=by
 unfold iI at h;unfold TK.eO;simp;lia
theorem pL (h:iI c):TK.cY c=false:=by
 unfold iI at h;unfold TK.cY;simp;omega
theorem qJ (h:iI c) (r:List Nat):TK.hX (c::r)=0:=by
 have hs:=pL h;unfold iI at h;cases r with
 | nil=>rw [TK.eD,hs];rfl
 | cons d r=>
  rw [TK.dn,hs,if_neg (by simp;lia)];rfl
theorem qK:∀ t:List Nat,(∀ c∈t,iI c)->TK.run t=t.length
 | [],_=>rfl
 | c::r,h=>by
  have hc:=h c Eb;rw [TK.cy,qI hc,qJ hc,if_neg (by simp),qK r (fun d hd=>h d (Ef _ hd)),Eh];lia
theorem lT {t:List Nat} (hne:t≠[]) (h:∀ c∈t,iI c):TK.Tok t:=by
 cases t with
 | nil=>exact absurd rfl hne
 | cons c r=>
  have hc:=h c Eb;have:=TK.eE (r:=r) (qI hc);have e:TK.one (c::r)=(c::r).length:=by
   unfold TK.one;rw [if_pos (qJ hc r),qK _ h]
  rw [e,ER] at this;exact this
theorem vk (h:c=40\/c=41\/c=44\/c=59\/c=123\/c=125):TK.Tok [c]:=by
 rcases h with rfl|rfl|rfl|rfl|rfl|rfl
 ·exact TK.eE (c:=40) (r:=[]) rfl
 ·exact TK.eE (c:=41) (r:=[]) rfl
 ·exact TK.eE (c:=44) (r:=[]) rfl
 ·exact TK.eE (c:=59) (r:=[]) rfl
 ·exact TK.eE (c:=123) (r:=[]) rfl
 ·exact TK.eE (c:=125) (r:=[]) rfl
def jS:List (Str×Str)->List (List Nat)
 | []=>[]
 | [x]=>[cp x.1,cp x.2]
 | x::y::r=>cp x.1::cp x.2::[44]::jS (y::r)
def vn (D:Fm):List (List (List Nat)):=[[cp "word"],[dg D.width],[[59],cp "cells"],[dg D.cells],[[59],cp "depth"],[dg D.depth],[[59],cp "places"]]
def vo (D:Fm):List (List (List Nat)):=D.places.map (fun z=>[cp z])++[[[59],cp "marks"]]++D.marks.map (fun z=>[cp z])
def vq (D:Fm):List (List (List Nat)):=[[[59],cp "gate"]]++D.gates.map (fun z=>[cp z])++[[[59]]]
def pM (x:Kn):List (List (List Nat)):=[[cp "kind"],[cp x.name],[[40]],jS x.fs,[[41],[123],cp "next",[125]]]
def xu (D:Fm):List (List (List Nat)):=vn D++vo D++vq D++(D.kinds.map pM).flatten
def si (D:Fm):List (List Nat):=(xu D).flatten
structure TkOk (t:List Nat):Prop where
 tok:TK.Tok t
 le:t.length<=8
variable {z:Str}
theorem TkOk.name (h:NameS z):TkOk (cp z):=by
 refine ⟨lT (fun e=>?_) (fun c hc=>.inl (h.2.2.2 c hc)),h.len⟩;have:=h.pos;rw [e] at this;simp at this
variable {n:Nat}
theorem TkOk.num (h:n < 100000000):TkOk (dg n):=by
 refine ⟨lT (fun e=>?_) (fun c hc=>.inr (ux n c hc)),(jv n).2 8 zd h⟩;have:=(jv n).1;rw [e] at this;simp at this
theorem TkOk.sign (h:c=40\/c=41\/c=44\/c=59\/c=123\/c=125):TkOk [c]:=⟨vk h,by simp⟩
def wordsL:List Str:=["word","cells","depth","places","marks","gate","kind","next","place","mark","number","row"]
theorem vt:(wordsL.all fun z=>decide (cp z≠[]) && decide ((cp z).length<=8) && (cp z).all fun c=>decide (97<=c) && decide (c<=122))=true:=by decide +kernel
theorem TkOk.word (h:z∈wordsL):TkOk (cp z):=by
 have:=EQ.mp vt z h;simp only [EA,decide_eq_true_eq,EQ] at this;exact ⟨lT this.1.1 (fun c hc=>.inl (this.2 c hc)),this.1.2⟩
theorem jJ {s:Str} (h:s∈dY):s∈wordsL:=by
 have e:s∈(["place","mark","number","row"]:List Str):=h;show s∈(["word","cells","depth","places","marks","gate","kind","next","place","mark","number","row"]:List Str);simp only [Eo,EE,or_false] at e ⊢;rcases e with h|h|h|h<;>simp [h]
theorem xw {a b:List Str} {x:Str×Str} (h:x∈a.zip b):x.1∈a/\x.2∈b:=⟨(Fq (a:=x.1) (b:=x.2) h).1,(Fq (a:=x.1) (b:=x.2) h).2⟩
variable {x:Kn} {fn:List Str} {D:Fm}
theorem yl (h:xt D fn) (hx:x∈D.kinds):∀ f∈x.fs,NameS f.1/\f.2∈dY:=by
 obtain ⟨st,e,_,hs⟩:=h.kf x hx;rw [e];intro f hf;obtain ⟨h1,h2⟩:=xw hf;exact ⟨h.fS _ h1,(hs _ h2).1⟩
theorem qL:∀ {fs:List (Str×Str)},(∀ f∈fs,NameS f.1/\f.2∈dY)->∀ t∈jS fs,TkOk t
 | [],_,t,h=>by simp [jS] at h
 | [x],hf,t,h=>by
  have hx:=hf x Eb;simp [jS] at h;rcases h with rfl|rfl
  ·exact .name hx.1
  ·exact .word (jJ hx.2)
 | x::y::r,hf,t,h=>by
  have hx:=hf x Eb;have h':t∈cp x.1::cp x.2::[44]::jS (y::r):=h;simp only [Eo] at h';rcases h' with rfl|rfl|rfl|h'
  ·exact .name hx.1
  ·exact .word (jJ hx.2)
  ·exact .sign zd
  ·exact qL (fun f hf'=>hf f (Ef _ hf')) t h'
theorem jK:∀ fs:List (Str×Str),(jS fs).length=3*fs.length - 1
 | []=>rfl
 | [x]=>rfl
 | x::y::r=>by
  have:=jK (y::r);show (cp x.1::cp x.2::[44]::jS (y::r)).length=_;simp only [Eh] at this ⊢;lia
theorem wd (h:z∈wordsL):TkOk (cp z):=.word h
theorem pN (h:xt D fn):∀ g∈xu D,g.length<=8/\∀ t∈g,TkOk t:=by
 have one:∀ (t:List Nat),TkOk t->([t]:List (List Nat)).length<=8/\∀ u∈[t],TkOk u:=fun t ht=>⟨by simp,fun u hu=>by rw [Eg.mp hu];exact ht⟩;have two:∀ (a b:List Nat),TkOk a->TkOk b->([a,b]:List (List Nat)).length<=8/\∀ u∈[a,b],TkOk u:=fun a b ha hb=>⟨by simp,fun u hu=>by
  simp only [Eo,EE,or_false] at hu;rcases hu with rfl|rfl
  ·exact ha
  ·exact hb⟩
 intro g hg;unfold xu at hg;have w24:=h.w24;have ce:=h.ce;have de:=h.de;rcases EM.mp hg with hg|hg
 ·rcases EM.mp hg with hg|hg
  ·rcases EM.mp hg with hg|hg
   ·unfold vn at hg;simp only [Eo,EE,or_false] at hg;rcases hg with rfl|rfl|rfl|rfl|rfl|rfl|rfl
    ·exact one _ (wd zk)
    ·exact one _ (.num zo)
    ·exact two _ _ (.sign zd) (wd zk)
    ·exact one _ (.num zo)
    ·exact two _ _ (.sign zd) (wd zk)
    ·exact one _ (.num zo)
    ·exact two _ _ (.sign zd) (wd zk)
   ·unfold vo at hg;rcases EM.mp hg with hg|hg
    ·rcases EM.mp hg with hg|hg
     ·obtain ⟨z,hz,rfl⟩:=Fa.mp hg;exact one _ (.name (h.nm.pl z hz))
     ·rw [Eg.mp hg];exact two _ _ (.sign zd) (wd zk)
    ·obtain ⟨z,hz,rfl⟩:=Fa.mp hg;exact one _ (.name (h.nm.mrk z hz))
  ·unfold vq at hg;rcases EM.mp hg with hg|hg
   ·rcases EM.mp hg with hg|hg
    ·rw [Eg.mp hg];exact two _ _ (.sign zd) (wd zk)
    ·obtain ⟨z,hz,rfl⟩:=Fa.mp hg;exact one _ (.name (h.nm.mrk z (h.fm.gt z hz)))
   ·rw [Eg.mp hg];exact one _ (.sign zd)
 ·obtain ⟨gk,hk,hg⟩:=List.mem_flatten.mp hg;obtain ⟨x,hx,rfl⟩:=Fa.mp hk;unfold pM at hg;simp only [Eo,EE,or_false] at hg;rcases hg with rfl|rfl|rfl|rfl|rfl
  ·exact one _ (wd zk)
  ·exact one _ (.name (h.nm.kn x hx))
  ·exact one _ (.sign zd)
  ·refine ⟨?_,qL (yl h hx)⟩;rw [jK];have:=(h.fm.kf x hx).2;lia
  ·refine ⟨by simp,fun u hu=>?_⟩;simp only [Eo,EE,or_false] at hu;rcases hu with rfl|rfl|rfl|rfl
   ·exact .sign zd
   ·exact .sign zd
   ·exact wd zk
   ·exact .sign zd
theorem nM (k:Nat):∀ gs:List (List (List Nat)),(∀ g∈gs,g.length<=k)->gs.flatten.length<=gs.length*k
 | [],_=>by simp
 | g::r,h=>by
  have ih:=nM k r (fun g hg=>h g (Ef _ hg));have:=h g Eb;rw [EI,D9,Eh];have:(r.length+1)*k=r.length*k+k:=by rw [Nat.add_mul,Nat.one_mul]
  lia
theorem kl:∀ l:List Kn,((l.map pM).flatten).length=5*l.length
 | []=>rfl
 | x::r=>by
  rw [Er,EI,D9,kl r,Eh];show 5+_=_;lia
theorem xy (h:xt D fn):(xu D).length<=60:=by
 unfold xu vn vo vq;simp only [D9,D8,Eh,E8,kl];have:=h.fm.p4;have:=h.fm.m3;have:=h.fm.k8;have:=h.fm.g1;lia
def gX (D:Fm):List Nat:=TK.jn [32] (si D)
theorem km (h:xt D fn):TK.toks (gX D)=si D:=by
 have:=TK.qp [32] [] (by simp) zd (by simp) (si D) (fun t ht=>by
  obtain ⟨g,hg,ht⟩:=List.mem_flatten.mp ht;exact ((pN h g hg).2 t ht).tok)
 rw [EC] at this;exact this
theorem vx (h:xt D fn):(gX D).length<=20000/\(si D).length<=1500:=by
 have h1:=nM 8 (xu D) (fun g hg=>(pN h g hg).1);have h2:=xy h;have h3:=uK [32] (si D);have h4:=uL 8 (si D) (fun t ht=>by
  obtain ⟨g,hg,ht⟩:=List.mem_flatten.mp ht;exact ((pN h g hg).2 t ht).le)
 unfold gX;simp only [Eh,E8] at h3;have h5:(si D).length<=480:=by
  have:(si D).length=(xu D).flatten.length:=rfl;lia
 exact ⟨zo,zo⟩
def fT (fs:List (Str×Str)):List Str:=(jS fs).map S
def kT (x:Kn):List Str:=[("kind":Str),x.name,("(":Str)]++fT x.fs++[(")":Str),("{":Str),("next":Str),("}":Str)]
def tT (D:Fm):List Str:=[("word":Str),(toString (D.width:Int):Str),(";":Str),("cells":Str),(toString (D.cells:Int):Str),(";":Str),("depth":Str),(toString (D.depth:Int):Str),(";":Str),("places":Str)]++D.places++[(";":Str),("marks":Str)]++D.marks++[(";":Str),("gate":Str)]++D.gates++[(";":Str)]++(D.kinds.map kT).flatten
theorem zK (x:Str×Str):fT [x]=[x.1,x.2]:=by
 show [S (cp x.1),S (cp x.2)]=_;rw [jw,jw]
theorem zL (x y:Str×Str) (r:List (Str×Str)):fT (x::y::r)=x.1::x.2::(",":Str)::fT (y::r):=by
 show S (cp x.1)::S (cp x.2)::S [44]::fT (y::r)=_;rw [jw,jw];have:S [44]=(",":Str):=by decide +kernel
 rw [this]
theorem vy (fs:List (Str×Str)):(fT fs).length=3*fs.length - 1:=by
 unfold fT;rw [D8,jK]
theorem lU (l:List Str):((l.map fun z=>[cp z]).flatten).map S=l:=by
 induction l with
 | nil=>rfl
 | cons z r ih=>
  rw [Er,EI,Ek,ih];show S (cp z)::r=_;rw [jw]
theorem Bv (x:Kn):((pM x).flatten).map S=kT x:=by
 unfold pM kT;have e1:S (cp ("kind":Str))=("kind":Str):=jw _;have e2:S [40]=("(":Str):=by decide +kernel
 have e3:S [41]=(")":Str):=by decide +kernel
 have e4:S [123]=("{":Str):=by decide +kernel
 have e5:S (cp ("next":Str))=("next":Str):=jw _;have e6:S [125]=("}":Str):=by decide +kernel
 simp [e1,e2,e3,e4,e5,e6,jw,fT]
theorem vz (l:List Kn):(((l.map pM).flatten).flatten).map S=(l.map kT).flatten:=by
 induction l with
 | nil=>rfl
 | cons x r ih=>
  rw [Er,EI,List.flatten_append,Ek,ih,Bv,Er,EI]
theorem Bw (D:Fm):(si D).map S=tT D:=by
 unfold si xu tT;have e2:S [59]=(";":Str):=by decide +kernel
 rw [List.flatten_append,List.flatten_append,List.flatten_append,Ek,Ek,Ek,vz];unfold vn vo vq;rw [List.flatten_append,List.flatten_append,List.flatten_append,List.flatten_append,Ek,Ek,Ek,Ek,lU,lU,lU];rw [fq,fq,fq];simp [e2,jw]
variable {A B ts:List Str}
theorem bH {x:Str} {k:Nat} (e:ts=A++x::B) (h:A.length=k):(tz ts)[k]?=some x:=by
 subst e h;unfold tz;rw [EH,Fk (Ec _)];simp
theorem lV {A B ts zs:List Str} {k:Nat} (e:ts=A++(zs++B)) (h:A.length=k) (hn:∀ z∈zs,NameS z):nv ts k zs:=by
 intro i hi;refine ⟨bH (A:=A++zs.take i) (B:=zs.drop (i+1)++B) ?_ ?_,hn _ (E9 hi)⟩
 ·rw [e,EH]
  congr 1
  rw [<-Fb,<-EK hi,<-EH,Fc]
 ·rw [D9,Em];lia
theorem nN:∀ (fs:List (Str×Str)) {A B ts:List Str} {k:Nat},ts=A++(fT fs++B)->A.length=k->(∀ f∈fs,NameS f.1/\f.2∈dY)->oW ts k fs
 | [],_,_,_,_,_,_,_=>fun i h=>absurd h (by simp)
 | [x],A,B,ts,k,e,h,hf=>fun i hi=>by
  have h0:i=0:=by simpa using hi
  subst h0;rw [zK] at e;have hx:=hf x Eb;refine ⟨bH (A:=A) (B:=x.2::B) e h,hx.1,bH (A:=A++[x.1]) (B:=B) (by rw [e];simp) (by simp [h]),hx.2,fun hh=>absurd hh (by simp)⟩
 | x::y::r,A,B,ts,k,e,h,hf=>fun i hi=>by
  rw [zL] at e;have hx:=hf x Eb;cases i with
  | zero=>
   refine ⟨bH (A:=A) (B:=x.2::(",":Str)::(fT (y::r)++B)) (by rw [e];simp) h,hx.1,bH (A:=A++[x.1]) (B:=(",":Str)::(fT (y::r)++B)) (by rw [e];simp) (by simp [h]),hx.2,fun _=>bH (A:=A++[x.1,x.2]) (B:=fT (y::r)++B) (by rw [e];simp) (by simp [h])⟩
  | succ i=>
   have ih:=nN (y::r) (A:=A++[x.1,x.2,(",":Str)]) (B:=B) (ts:=ts) (k:=k+3) (by rw [e];simp) (by simp [h]) (fun f hf'=>hf f (Ef _ hf')) i (by simpa using hi);have e1:k+3+3*i=k+3*(i+1):=by lia
   rw [e1] at ih;refine ⟨ih.1,ih.2.1,ih.2.2.1,ih.2.2.2.1,fun hh=>ih.2.2.2.2 (by simpa using hh)⟩
theorem vA {k:Nat} (e:ts=A++(kT x++B)) (h:A.length=k) (hn:NameS x.name) (hf:∀ f∈x.fs,NameS f.1/\f.2∈dY) (h3:x.fs.length<=3):oX ts k x:=by
 unfold kT at e;have fl:=vy x.fs;refine ⟨bH (A:=A) (B:=[x.name,("(":Str)]++fT x.fs++[(")":Str),("{":Str),("next":Str),("}":Str)]++B) (by rw [e];simp) h,
  bH (A:=A++[("kind":Str)]) (B:=[("(":Str)]++fT x.fs++[(")":Str),("{":Str),("next":Str),("}":Str)]++B) (by rw [e];simp) (by simp [h]),hn,
  bH (A:=A++[("kind":Str),x.name]) (B:=fT x.fs++[(")":Str),("{":Str),("next":Str),("}":Str)]++B) (by rw [e];simp) (by simp [h]),
  nN x.fs (A:=A++[("kind":Str),x.name,("(":Str)]) (B:=[(")":Str),("{":Str),("next":Str),("}":Str)]++B) (by rw [e];simp) (by simp [h]) hf,
  bH (A:=A++[("kind":Str),x.name,("(":Str)]++fT x.fs) (B:=[("{":Str),("next":Str),("}":Str)]++B) (by rw [e];simp) (by simp [h,fl];lia),h3,
  bH (A:=A++[("kind":Str),x.name,("(":Str)]++fT x.fs++[(")":Str)]) (B:=[("next":Str),("}":Str)]++B) (by rw [e];simp) (by simp [h,fl];lia),
  bH (A:=A++[("kind":Str),x.name,("(":Str)]++fT x.fs++[(")":Str),("{":Str)]) (B:=[("}":Str)]++B) (by rw [e];simp) (by simp [h,fl];lia),
  bH (A:=A++[("kind":Str),x.name,("(":Str)]++fT x.fs++[(")":Str),("{":Str),("next":Str)]) (B:=B) (by rw [e];simp) (by simp [h,fl];lia)⟩
theorem zM (x:Kn):(kT x).length=rO x:=by
 unfold kT rO;simp only [D9,Eh,E8,vy];lia
theorem ko:∀ (l:List Kn) {A ts:List Str} {k:Nat},ts=A++(l.map kT).flatten->A.length=k->(∀ x∈l,NameS x.name/\(∀ f∈x.fs,NameS f.1/\f.2∈dY)/\x.fs.length<=3)->iV ts k l
 | [],A,ts,k,e,h,_=>by
  show k=ts.length;rw [e];simp [h]
 | x::r,A,ts,k,e,h,hx=>by
  rw [Er,EI] at e;obtain ⟨h1,h2,h3⟩:=hx x Eb;exact ⟨vA e h h1 h2 h3,ko r (A:=A++kT x) (by rw [e];simp) (by rw [D9,zM,h]) (fun y hy=>hx y (Ef _ hy))⟩
theorem xz (h:xt D fn):o6 (tT D) D:=by
 have ce:=h.ce;have de:=h.de;generalize hR:(D.kinds.map kT).flatten=R;have e0:tT D=[("word":Str),(toString (D.width:Int):Str),(";":Str),("cells":Str),(toString (D.cells:Int):Str),(";":Str),("depth":Str),(toString (D.depth:Int):Str),(";":Str),("places":Str)]++(D.places++([(";":Str),("marks":Str)]++(D.marks++([(";":Str),("gate":Str)]++(D.gates++([(";":Str)]++R)))))):=by
  unfold tT;rw [hR];simp
 refine ⟨bH (A:=[]) e0 rfl,bH (A:=[("word":Str)]) e0 rfl,bH (A:=[("word":Str),_]) e0 rfl,bH (A:=[("word":Str),_,(";":Str)]) e0 rfl,bH (A:=[("word":Str),_,(";":Str),("cells":Str)]) e0 rfl,bH (A:=[("word":Str),_,(";":Str),("cells":Str),_]) e0 rfl,bH (A:=[("word":Str),_,(";":Str),("cells":Str),_,(";":Str)]) e0 rfl,bH (A:=[("word":Str),_,(";":Str),("cells":Str),_,(";":Str),("depth":Str)]) e0 rfl,bH (A:=[("word":Str),_,(";":Str),("cells":Str),_,(";":Str),("depth":Str),_]) e0 rfl,bH (A:=[("word":Str),_,(";":Str),("cells":Str),_,(";":Str),("depth":Str),_,(";":Str)]) e0 rfl,
  lV e0 rfl h.nm.pl,?_,?_,?_,?_,?_,?_,?_,?_,⟨h.w4,h.w24⟩,⟨zo,zo⟩,zo,⟨h.p1,h.fm.p4⟩,h.fm.m3,h.fm.g1,⟨h.k1,h.fm.k8⟩⟩
 all_goals (have hW:([("word":Str),(toString (D.width:Int):Str),(";":Str),("cells":Str),(toString (D.cells:Int):Str),(";":Str),("depth":Str),(toString (D.depth:Int):Str),(";":Str),("places":Str)]:List Str).length=10:=rfl)
 all_goals (generalize ([("word":Str),(toString (D.width:Int):Str),(";":Str),("cells":Str),(toString (D.cells:Int):Str),(";":Str),("depth":Str),(toString (D.depth:Int):Str),(";":Str),("places":Str)]:List Str)=W at *)
 ·exact bH (A:=W++D.places) (B:=("marks":Str)::(D.marks++([(";":Str),("gate":Str)]++(D.gates++([(";":Str)]++R))))) (by rw [e0];simp) (by simp [hW])
 ·exact bH (A:=W++D.places++[(";":Str)]) (B:=D.marks++([(";":Str),("gate":Str)]++(D.gates++([(";":Str)]++R)))) (by rw [e0];simp) (by simp [hW];lia)
 ·exact lV (A:=W++D.places++[(";":Str),("marks":Str)]) (B:=[(";":Str),("gate":Str)]++(D.gates++([(";":Str)]++R))) (by rw [e0];simp) (by simp [hW];lia) h.nm.mrk
 ·exact bH (A:=W++D.places++[(";":Str),("marks":Str)]++D.marks) (B:=("gate":Str)::(D.gates++([(";":Str)]++R))) (by rw [e0];simp) (by simp [hW];lia)
 ·exact bH (A:=W++D.places++[(";":Str),("marks":Str)]++D.marks++[(";":Str)]) (B:=D.gates++([(";":Str)]++R)) (by rw [e0];simp) (by simp [hW];lia)
 ·exact lV (A:=W++D.places++[(";":Str),("marks":Str)]++D.marks++[(";":Str),("gate":Str)]) (B:=[(";":Str)]++R) (by rw [e0];simp) (by simp [hW];lia) (fun z hz=>h.nm.mrk z (h.fm.gt z hz))
 ·exact bH (A:=W++D.places++[(";":Str),("marks":Str)]++D.marks++[(";":Str),("gate":Str)]++D.gates) (B:=R) (by rw [e0];simp) (by simp [hW];lia)
 ·subst hR;refine ko D.kinds (A:=W++D.places++[(";":Str),("marks":Str)]++D.marks++[(";":Str),("gate":Str)]++D.gates++[(";":Str)]) (by rw [e0];simp) (by simp [hW];lia) (fun x hx=>⟨h.nm.kn x hx,yl h hx,(h.fm.kf x hx).2⟩)
def pl4:List Str:=["q","v","j","y"]
def mk4:List Str:=["z","w","x","k"]
def iJ (W n m c d:Nat):Fm:=⟨W,c,d,pl4.take n,mk4.take m,[],[⟨"q",[]⟩]⟩
def Ak:Fm:=⟨4,4,0,["b"],[],[],[⟨"q",[]⟩]⟩
structure Rg (W n m c d:Nat):Prop where
 w4:4<=W
 w24:W<=24
 n1:1<=n
 n4:n<=4
 m3:m<=3
 c4:4<=c
 c64:c<=64
 d8:d<=8
def vB (z:Str):Bool:=decide (z∉oO) && decide (1<=z.length) && decide (z.length<=8) && z.cps.toList.all fun c=>decide (97<=c) && decide (c<=122)
theorem lX (h:vB z=true):NameS z:=by
 unfold vB at h;simp only [EA,decide_eq_true_eq,EQ] at h;obtain ⟨⟨⟨h1,h2⟩,h3⟩,h4⟩:=h;exact ⟨h1,h2,h3,h4⟩
theorem fw {l:List Str} (h:l.all vB=true):∀ z∈l,NameS z:=fun z hz=>lX (EQ.mp h z hz)
variable {m:Nat}
theorem Bx (h4:n<=4) (h3:m<=3):((((pl4.take n).map (fun z=>(z,("place":Str)))++(mk4.take m).map (fun z=>(z,("mark":Str))))).map (·.1)).Nodup:=by
 rcases (by lia:n=0\/n=1\/n=2\/n=3\/n=4) with rfl|rfl|rfl|rfl|rfl<;>rcases (by lia:m=0\/m=1\/m=2\/m=3) with rfl|rfl|rfl|rfl<;>decide +kernel
theorem lY (h:n<=4):(pl4.take n).length=n:=by rw [Em];show min n 4=n;lia
theorem lZ (h:m<=3):(mk4.take m).length=m:=by rw [Em];show min m 4=m;lia
variable {W d:Nat}
theorem zN (h:Rg W n m c d):xt (iJ W n m c d) ["a","b","c"]:=by
 have lp:=lY h.n4;have lm:=lZ h.m3;refine ⟨h.w4,h.w24,⟨h.c4,h.c64⟩,h.d8,⟨Bx h.n4 h.m3,fun _ z=>(nomatch z),Ep _,(by show [("q":Str)].Nodup;decide +kernel),fun x hx=>?_,?_,?_,(by show 1<=8;decide)⟩,⟨fun z hz=>fw (l:=pl4) zk z (E3 hz),fun z hz=>fw (l:=mk4) zk z (E3 hz),fun x hx=>?_⟩,rfl,fw zk,?_,(by show 1<=1;decide),fun x hx=>?_⟩
 ·obtain rfl:=Eg.mp hx;exact ⟨by rw [EC];exact Bx h.n4 h.m3,Ep _⟩
 ·show (pl4.take n).length<=4;rw [lp];exact h.n4
 ·show (mk4.take m).length<=3;rw [lm];exact h.m3
 ·obtain rfl:=Eg.mp hx;exact lX zk
 ·show 1<=(pl4.take n).length;rw [lp];exact h.n1
 ·obtain rfl:=Eg.mp hx;exact ⟨[],rfl,Ep _,fun _ z=>(nomatch z)⟩
theorem ok40:xt Ak ["a","b","c"]:=by
 refine ⟨zd,zd,zd,zd,⟨zk,fun _ z=>(nomatch z),zd,zk,fun x hx=>?_,zd,zd,zd⟩,⟨fw zk,fun _ z=>(nomatch z),fun x hx=>?_⟩,rfl,fw zk,zd,zd,fun x hx=>?_⟩
 ·obtain rfl:=Eg.mp hx;exact ⟨zk,Ep _⟩
 ·obtain rfl:=Eg.mp hx;exact lX zk
 ·obtain rfl:=Eg.mp hx;exact ⟨[],rfl,Ep _,fun _ z=>(nomatch z)⟩
theorem By:OkN (iJ W n m c d):=by
 have a:∀ z∈pl4++mk4,yb z=true:=by decide +kernel
 refine ⟨fun z hz=>a z (Fe _ (E3 hz)),fun z hz=>a z (EB _ (E3 hz)),fun _ z=>(nomatch z),fun x hx=>?_,fun x hx=>?_⟩
 ·obtain rfl:=Eg.mp hx;decide +kernel
 ·obtain rfl:=Eg.mp hx;exact fun _ z=>(nomatch z)
theorem Bz:OkN Ak:=by
 refine ⟨zk,fun _ z=>(nomatch z),fun _ z=>(nomatch z),zk,fun x hx=>?_⟩;obtain rfl:=Eg.mp hx;exact fun _ z=>(nomatch z)
theorem BA (h1:1<=n):shD (iJ W n m c d)≠shD Ak:=by
 obtain ⟨k,rfl⟩:∃ k,n=k+1:=⟨n - 1,zo⟩;intro e;unfold shD at e;simp only [PyData.tuple.injEq,List.cons.injEq] at e;have:=e.2.2.2.1;have:PyData.str ("q":Str)=.str "b":=(List.cons.inj this).1;have:=PyData.str.inj this;revert this;decide +kernel
theorem pO {u:List Nat} {r:List (List Nat)}:∀ (l:List Str) (t:List Nat),TK.jn [32] (t::(l.map cp++u::r))=t++((l.map fun z=>32::cp z).flatten++(32::TK.jn [32] (u::r)))
 | [],t=>rfl
 | z::l,t=>by
  show t++([32]++TK.jn [32] (cp z::(l.map cp++u::r)))=_;rw [pO l (cp z)];simp
theorem sj (l:List Str):(l.map fun z=>[cp z]).flatten=l.map cp:=by
 induction l with
 | nil=>rfl
 | cons z r ih=>rw [Er,EI,ih];rfl
theorem zO (h:Rg W n m c d):gX (iJ W n m c d)=cp "word "++dg W++cp " ; cells "++dg c++cp " ; depth "++dg d++cp " ; places"++((pl4.take n).map fun z=>32::cp z).flatten++cp " ; marks"++((mk4.take m).map fun z=>32::cp z).flatten++cp " ; gate ; kind q ( ) { next }":=by
 have e0:si (iJ W n m c d)=cp "word"::dg W::[59]::cp "cells"::dg c::[59]::cp "depth"::dg d::[59]::cp "places"::((pl4.take n).map cp++[59]::cp "marks"::((mk4.take m).map cp++[59]::cp "gate"::[59]::cp "kind"::cp "q"::[40]::[41]::[123]::cp "next"::[[125]])):=by
  show si ⟨W,c,d,pl4.take n,mk4.take m,[],[⟨"q",[]⟩]⟩=_;generalize pl4.take n=a;generalize mk4.take m=b;simp [si,xu,vn,vo,vq,pM,jS,sj]
 have e1:cp "word "=cp "word"++[32]:=by decide +kernel
 have e2:cp " ; cells "=[32,59,32]++(cp "cells"++[32]):=by decide +kernel
 have e3:cp " ; depth "=[32,59,32]++(cp "depth"++[32]):=by decide +kernel
 have e4:cp " ; places"=[32,59,32]++cp "places":=by decide +kernel
 have e5:cp " ; marks"=[32,59,32]++cp "marks":=by decide +kernel
 have e6:cp " ; gate ; kind q ( ) { next }"=[32,59,32]++TK.jn [32] (cp "gate"::[59]::cp "kind"::cp "q"::[40]::[41]::[123]::cp "next"::[[125]]):=by decide +kernel
 have u:∀ (t v:List Nat) r,TK.jn [32] (t::v::r)=t++(32::TK.jn [32] (v::r)):=fun _ _ _=>rfl;unfold gX;rw [e0,e1,e2,e3,e4,e5,e6,u,u,u,u,u,u,u,u,u,pO,u,pO,u];simp
theorem zP:gX Ak=cp "word 4 ; cells 4 ; depth 0 ; places b ; marks ; gate ; kind q ( ) { next }":=by decide +kernel
end L3
namespace L2
open PySem PySem.Spec PyProof.Rows
theorem fz {X:Cx} {K:ZF} (h:X.K=K):AL X (we K):=by subst h;exact aM
end L2
namespace L3
open PySem L2
mutual
variable {zs:List V} {H H':Hp}
theorem TgV.put {q l:Addr} (hl:H l=some (.lst zs)) (b:But l H H'):∀ {v:V} {t:Th},TgV q H v t->TgV l H v t->TgV q H' v t
 | _,_,.non,_=>.non
 | _,_,.bl b,_=>.bl b
 | _,_,.int i,_=>.int i
 | _,_,.str x,_=>.str x
 | _,_,.tup e t,.tup e' t'=>.tup (b _ _ e (fun z=>by rw [z,hl] at e;cases e)) (TgA.put hl b t (by rw [e] at e';cases e';exact t'))
 | _,_,.lst n e t,.lst n' e' t'=>.lst n (b _ _ e n') (TgA.put hl b t (by rw [e] at e';cases e';exact t'))
 | _,_,.dct n e,.dct n' e'=>.dct n (b _ _ e n')
theorem TgA.put {q l:Addr} (hl:H l=some (.lst zs)) (b:But l H H'):∀ {v:List V} {t:List Th},TgA q H v t->TgA l H v t->TgA q H' v t
 | _,_,.nil,_=>.nil
 | _,_,.cons a t,.cons a' t'=>.cons (TgV.put hl b a a') (TgA.put hl b t t')
end
def TgG (G:Addr->Prop) (H:Hp) (v:V) (t:Th):Prop:=∀ q,G q->TgV q H v t
def TgB (G:Addr->Prop) (H:Hp) (vs:List V) (ts:List Th):Prop:=∀ q,G q->TgA q H vs ts
structure Gk (G:Addr->Prop) (H:Hp) (p:Addr):Prop where
 g:Strm H p
 m:G p
 t:∀ q,G q->H q≠none
variable {p q:Addr} {H H':Hp}
theorem ne_kept (b:But p H H') (g:Strm H' p) (h:H q≠none):H' q≠none:=fun z=>by
 by_cases e:q=p
 ·obtain ⟨_,_,_,e'⟩:=g;rw [e,e'] at z;cases z
 ·cases e':H q with
  | none=>exact h e'
  | some o=>rw [b _ _ e' e] at z;cases z
variable {G:Addr->Prop}
theorem Gk.same (k:Gk G H p) (s:Same H H'):Gk G H' p:=⟨k.g.same s,k.m,fun q hq z=>k.t q hq (none_of s z)⟩
theorem Gk.but (k:Gk G H p) (g:Strm H' p) (b:But p H H'):Gk G H' p:=⟨g,k.m,fun q hq=>ne_kept b g (k.t q hq)⟩
theorem Gk.ne {p q l:Addr} (k:Gk G H p) (hq:G q) (n:H l=none):l≠q:=fun e=>k.t q hq (e ▸ n)
variable {t:Th} {v:V}
theorem TgG.same (h:TgG G H v t) (s:Same H H'):TgG G H' v t:=fun q hq=>(h q hq).same s
theorem TgB.same {v:List V} {t:List Th} (h:TgB G H v t) (s:Same H H'):TgB G H' v t:=fun q hq=>(h q hq).same s
theorem TgG.but (h:TgG G H v t) (k:Gk G H p) (b:But p H H'):TgG G H' v t:=fun q hq=>let ⟨_,_,_,e⟩:=k.g;(h q hq).put e b (h p k.m)
theorem TgB.but {v:List V} {t:List Th} (h:TgB G H v t) (k:Gk G H p) (b:But p H H'):TgB G H' v t:=fun q hq=>let ⟨_,_,_,e⟩:=k.g;(h q hq).put e b (h p k.m)
variable {ts:List Th}
theorem tgg_lst {p l:Addr} {vs:List V} (k:Gk G H p) (n:H l=none) (h:TgB G H vs ts):TgG G (upd H l (.lst vs)) (.ref l) (.lst ts):=fun q hq=>.lst (k.ne hq n) ae ((h q hq).same (ah n))
theorem tgg_tup {l:Addr} {vs:List V} (n:H l=none) (h:TgB G H vs ts):TgG G (upd H l (.tup vs)) (.ref l) (.tup ts):=fun q hq=>.tup ae ((h q hq).same (ah n))
theorem tgg_dct {p l:Addr} (k:Gk G H p) (n:H l=none):TgG G (upd H l (.dK [])) (.ref l) .dct:=fun q hq=>.dct (k.ne hq n) ae
theorem TgB.nil:TgB G H [] []:=fun _ _=>.nil
theorem TgB.cons {vs:List V} (a:TgG G H v t) (h:TgB G H vs ts):TgB G H (v::vs) (t::ts):=fun q hq=>.cons (a q hq) (h q hq)
theorem TgB.app {vs us:List V} {ts rs:List Th} (a:TgB G H vs ts) (h:TgB G H us rs):TgB G H (vs++us) (ts++rs):=fun q hq=>(a q hq).app (h q hq)
theorem TgB.take {vs:List V} (a:TgB G H vs ts) (n:Nat):TgB G H (vs.take n) (ts.take n):=fun q hq=>(a q hq).take n
theorem TgB.drop {vs:List V} (a:TgB G H vs ts) (n:Nat):TgB G H (vs.drop n) (ts.drop n):=fun q hq=>(a q hq).drop n
theorem tgb_rep (h:TgG G H v t):∀ n:Nat,TgB G H (List.replicate n v) (List.replicate n t)
 | 0=>.nil
 | n+1=>.cons h (tgb_rep h n)
def natV (ns:List Nat):List V:=ns.map fun (n:Nat)=>V.int (n:Int)
def natT (ns:List Nat):List Th:=ns.map fun (n:Nat)=>Th.int (n:Int)
theorem tgb_nat:∀ ns:List Nat,TgB G H (natV ns) (natT ns)
 | []=>.nil
 | n::r=>.cons (fun _ _=>.int _) (tgb_nat r)
theorem none_but {p l:Addr} (b:But p H H') (g:Strm H p) (h:H' l=none) (g':Strm H' p):H l=none:=by
 have e:l≠p:=(g'.ne h).symm;cases e':H l with
 | none=>rfl
 | some o=>rw [b _ _ e' e] at h;cases h
abbrev sLList:Stmt:=ci 120
inductive spLList (vs:List V) (H:Hp) (Q:VK) (Z3:XK):Prop
 | mk (p:Addr) (many bound:Nat):vs=[.ref p,.int many,.int bound]->Strm H p->many<=64->2<=bound->bound<=2 ^ 24->(∀ l ns H',ns.length=many->(∀ n∈ns,n < bound)->H l=none->H' l=some (.lst (natV ns))->Strm H' p->But p H H'->Q (.ref l) H')->spLList vs H Q Z3
variable {P:Program} {w:World} {K:ZF} {mg:Str->Option Value} {base:Heap} {C fi aS aE aF aO:Addr} {t1 t2 t3 t4 t5 tM:Tok}
theorem scLL:ak ["_law_stream_here","_law_many","_law_bound"] ["_law_stream_here","_law_many","_law_bound"] (ai sLList):=ck zk
theorem ndLL:(["_law_k","_law_bound","_law_stream_here"]:List Str).Nodup:=by decide +kernel
variable {fd:FuncData} {f:Addr}
theorem ok_llist (F:Fun K "_law_list" "_law_list" sLList f fd) (B:Bl mg) (TK':Fn P w K mg base "_law_take" 1 ["_law_stream_here","_law_many"] ik):FnOk P w K mg base bM 2 f fd ["_law_stream_here","_law_many","_law_bound"] spLList:=by
 have ZZ:=scLL
 walk_at "o"
 ·obtain ⟨p,many,bound,rfl,g,hm,h2,h24,q⟩:=h;have sz:(1000:Nat)<=sizeLine:=by decide
  refine ⟨_,af (ao (fe (N':=["_law_k","_law_bound","_law_stream_here"]) (ix:=[none,some 2,some 0]) (sc0:=ai sLList) (N:=["_law_stream_here","_law_many","_law_bound"]) rfl zk (du rfl B.range (aa (pv 1) ac)) (fun _ _ _ _ _=>(aw (i:=0) ndLL rfl (Or.inl rfl) (.inr rfl))) (fun _ _ _ _ _=>cX) (fun _ _ _ _ _=>(aI TK' hr.m rfl (aa (pv 2) (aa (cZ (am i6 (pv 1) ag) (aG (fz (K:=K) rfl) (aT (aa ag (aa (pv 1) ac))) (aI TK' hr.m rfl (aa (pv 2) (aa ag ac)))) (pv 1)) ac)))))),?_⟩;refine ⟨_,rfl,many,rfl,zo,zo,?_⟩;refine jg (lo:=0) (n:=many) (fun j ys H'=>∃ ns:List Nat,ns.length=j/\ys=natV ns/\(∀ n∈ns,n < bound)/\Strm H' p/\But p H H') ⟨[],rfl,rfl,fun _ z=>(nomatch z),g,But.refl _ _⟩ (fun j ys H' hj ⟨ns,e1,e2,_⟩=>by rw [e2];unfold natV;rw [D8];lia) ?_ ?_
  ·rintro i ys H1 hi ⟨ns,l1,rfl,hb,g1,b1⟩;refine ⟨⟨rfl,rfl,trivial⟩,?_⟩;have fin:∀ (r:Nat) H',r < bound->Strm H' p->But p H1 H'->Nx (fun j ys H'=>∃ ns:List Nat,ns.length=j/\ys=natV ns/\(∀ n∈ns,n < bound)/\Strm H' p/\But p H H') many i (natV ns++[.int (r:Int)]) H':=fun r H' hr' g' b'=>Nx.mk hi ⟨ns++[r],by rw [D9,l1];rfl,by unfold natV;rw [Ek];rfl,fun n hn=>(EM.mp hn).elim (hb n) (fun h=>by rw [Eg.mp h];exact hr'),g',b1.trans b'⟩;refine dM ⟨_,rfl,_,rfl,_,_,rfl,rfl,_,rfl,?_⟩;by_cases hb2:bound=2
   ·refine bE (decide_eq_false zo) ⟨_,rfl,p,bound,rfl,g1,zo,zo,fin⟩
   ·refine bR (decide_eq_true zo) ⟨_,rfl,zlx,fun l2 n2=>?_⟩;have s2:=ah (o:=.lst [.int 2,.int (bound:Int)]) n2;have e2:(upd H1 l2 (.lst [.int 2,.int (bound:Int)])) l2=some (.lst [.int 2,.int (bound:Int)]):=ae;generalize upd H1 l2 (.lst [V.int 2,.int (bound:Int)])=H2 at *;have pl:p≠l2:=g1.ne n2;refine ⟨_,rfl,p,2,rfl,g1.same s2,zd,zd,fun j H3 hj g3 b3=>?_⟩;have hx:∃ m:Nat,([V.int 2,.int (bound:Int)]:List V)[j]?=some (.int (m:Int))/\0 < m/\m<=bound:=by
     rcases (by lia:j=0\/j=1) with rfl|rfl
     ·exact ⟨2,rfl,zd,h2⟩
     ·exact ⟨bound,rfl,zo,Ec _⟩
    obtain ⟨m,hx,hm0,hmb⟩:=hx;exact ⟨l2,_,_,_,rfl,rfl,SqL.of (b3 _ _ e2 pl.symm),bq hx,p,m,rfl,g3,hm0,zo,fun r H4 hr4 g4 b4=>fin r H4 zo g4 ((jq s2).trans (b3.trans b4))⟩
  ·rintro ys H1 ⟨ns,l1,rfl,hb,g1,b1⟩ l n;exact q l ns _ l1 hb (none_but b1 g n g1) ae (g1.same (ah n)) (b1.same (ah n))
theorem cut_lo (xs:List V) (n:Nat):eY xs (some (n:Int)) none=xs.drop n:=by
 unfold eY;rw [HT.sIx_nat,HT.sIx_none];by_cases h:n<=xs.length
 ·rw [Nat.min_eq_left h];exact E5 (by rw [ET];lia)
 ·rw [Nat.min_eq_right zo,List.drop_of_length_le (Ec _),List.drop_of_length_le zo];simp
theorem cut_hi (xs:List V) (n:Nat):eY xs none (some (n:Int))=xs.take n:=by
 unfold eY;rw [HT.sIx_nat,HT.sIx_none,List.drop_zero,Nat.sub_zero];by_cases h:n<=xs.length
 ·rw [Nat.min_eq_left h]
 ·rw [Nat.min_eq_right zo,E5 (Ec _),E5 zo]
theorem cut_m1 (xs:List V):eY xs none (some (-1))=xs.take (xs.length - 1):=by
 unfold eY;show (xs.drop 0).take ((-1+(xs.length:Int)).toNat - 0)=_;rw [List.drop_zero,show (-1+(xs.length:Int)).toNat - 0=xs.length - 1 by lia]
theorem nL {l:Addr} (o:HO) (n:H l=none):∃ H',upd H l o=H'/\Same H H'/\H' l=some o:=⟨_,rfl,ah n,ae⟩
def szT:Th->Nat
 | .lst l=>l.length
 | _=>0
variable {xs:List V}
theorem tg_pick (h:TgB G H xs ts) (hp:G p) {j n:Nat} (hj:j < n) (hn:n=ts.length):∃ x t,xs[j]?=some x/\t∈ts/\TgG G H x t:=by
 have l:=(h p hp).length;have hx:=EF (l:=xs) (i:=j) zo;obtain ⟨t,ht,_⟩:=(h p hp).get hx;refine ⟨_,t,hx,EV ht,fun q hq=>?_⟩;obtain ⟨t',ht',tv⟩:=(h q hq).get hx;rw [ht] at ht';cases ht';exact tv
variable {Q:VK}
theorem rep_any {l0:Addr} {n:Nat} {z:V} (hn:n<=1000) (e0:H l0=some (.lst [z])) (q:∀ l1,H l1=none->Q (.ref l1) (upd H l1 (.lst (List.replicate n z)))):wf (.ref l0) (.int (n:Int)) H Q:=by
 have sz:(1000:Nat)<=sizeLine:=by decide
 refine ⟨l0,n,[z],rfl,rfl,e0,zo,zo,by simp;lia,fun p hp=>?_⟩;have:=q p hp;rw [E6,List.flatten_replicate_singleton];exact this
abbrev sLSp:Stmt:=ci 121
inductive spSpo (vs:List V) (H:Hp) (Q:VK) (Z3:XK):Prop
 | mk (G:Addr->Prop) (p:Addr) (v:V) (t:Th) (many bound:Nat) (ex:Bool):vs=[.ref p,v,.int many,.int bound,.bl ex]->Gk G H p->TgG G H v t->szT t<=100->many<=64->(∀ u t' H',TgG G H' u t'->szT t'<=100->Strm H' p->But p H H'->Q u H')->spSpo vs H Q Z3
theorem pick_it {H H0:Hp} {p l:Addr} (k:Gk G H p) (b0:But p H0 H) (e:H l=some (.lst xs)) (hl:l≠p) (h:TgB G H xs ts) (hn:6=ts.length) (hs:∀ t∈ts,szT t<=100) (q:∀ u t' H',TgG G H' u t'->szT t'<=100->Strm H' p->But p H0 H'->Q u H'):ik [.ref p,.int (6:Nat)] H (fun j H'=>we K (.ref l) j H' Q) E0:=by
 refine ⟨p,6,rfl,k.g,zd,zd,fun j H3 hj g3 b3=>?_⟩;obtain ⟨x,t,hx,ht,tv⟩:=tg_pick h k.m hj hn;exact ⟨l,_,_,_,rfl,rfl,SqL.of (b3 _ _ e hl),bq hx,q x t H3 (tv.but k b3) (hs t ht) g3 (b0.trans b3)⟩
theorem scSp:ak ["_law_stream_here","_law_thing","_law_many","_law_bound","_law_exact","_law_way","_law_at"] ["_law_stream_here","_law_thing","_law_many","_law_bound","_law_exact"] (ai sLSp):=ck zk
theorem ok_spo (F:Fun K "_law_spoilt" "_law_spoilt" sLSp f fd) (B:Bl mg) (TK':Fn P w K mg base "_law_take" 1 ["_law_stream_here","_law_many"] ik):FnOk P w K mg base bM 2 f fd ["_law_stream_here","_law_thing","_law_many","_law_bound","_law_exact"] spSpo:=by
 have ZZ:=scSp
 walk_at "o"
 ·obtain ⟨G,p,v,t,many,bound,ex,rfl,k,tv,hz,hm,q⟩:=h;have sz:(1000:Nat)<=sizeLine:=by decide
  refine ⟨_,ad (aR (bx (bj (ar (cw (T:="list")) (by rfl) B.isinstance br (aa (pv 1) (aa (pe_ty (by rfl) B.list bF) ac))))) (af (ao (aG aM (aT (aa (jY hI ag) (aa (pv 3) (aa cj (aa aC (aa (aL kD ag ag) (aa (aW (aa ag ac)) ac))))))) (aI TK' hr.m rfl (aa (pv 0) (aa ag ac)))))) ay) (ad (aA (i:=5) scSp.nd rfl (Or.inl rfl) (aI TK' hr.m rfl (aa (pv 0) (aa ag ac)))) (ad (aR (am bY (pv 5) ag) (af (ao (aN aX (by rfl) B.tuple aY (aa (pv 1) ac)))) ay) (ad (aR (am bY (pv 5) ag) (af (ao (cI fG (aL gm (pv 1) (aL eB (aT (aa ag ac)) (aL cN (pv 2) ag))) dH (cE (aL cN (pv 2) ag))))) ay) (bJ (fun σ H'=>∃ way:Nat,σ=[some (.ref p),some v,some (.int many),some (.int bound),some (.bl ex),some (.int (way:Nat)),none]/\Strm H' p/\But p H H') (aR (PW.pt (cq (am bY (pv 5) ag) (cq (bj (pv 4)) (cc (am i6 (pv 2) ag))))) (af (ao (cI fG (pv 1) dH (cE (jY hI ag))))) ay) (ad (aR (oF (fun σ H'=>∃ way:Nat,σ=[some (.ref p),some v,some (.int many),some (.int bound),some (.bl ex),some (.int (way:Nat)),none]/\Strm H' p/\But p H H') (fun σ H'=>∃ way:Nat,σ=[some (.ref p),some v,some (.int many),some (.int bound),some (.bl ex),some (.int (way:Nat)),none]/\Strm H' p/\But p H H'/\0 < szT t) (PW.pt (cH (am bY (pv 5) ag) (cG (am (nK hr) (pv 1) (aT ac)))))) (af (ao (aG aM (aT (aa ag (aa aC (aa jk (aa cj (aa (aT (aa (aT ac) ac)) (aa (aL gm (aL eB (aT (aa bN ac)) (pv 2)) (aT (aa (jY hI ag) ac))) ac))))))) (aI TK' hr.m rfl (aa (pv 0) (aa ag ac)))))) ay) (ad (aA (i:=6) scSp.nd rfl (Or.inl rfl) (aI TK' hr.m rfl (aa (pv 0) (aa (ar aK (by rfl) B.len Ei (aa (pv 1) ac)) ac)))) (af (ao (aL gm (aL gm (cI fG (pv 1) dH (cE (pv 6))) (aT (aa (aG aM (aT (aa (jY hI ag) (aa (pv 3) (aa cj (aa bN (aa aC (aa (aL kD ag ag) ac))))))) (aI TK' hr.m rfl (aa (pv 0) (aa ag ac)))) ac))) (cI fG (pv 1) (cE (aL cN (pv 6) ag)) dH)))))))))),?_⟩;refine ⟨_,rfl,v,_,_,rfl,(tv p k.m).ty,kit_lst t,_,rfl,?_⟩;by_cases hl:t.isLst=true;case neg=>
   rw [Ez.mpr hl];refine bC ⟨_,rfl,_,rfl,_,_,rfl,rfl,⟨zd,zd,zd⟩,zlx,fun t1 n1=>?_⟩;have T1:=tgg_tup (G:=G) n1 (.cons (fun _ _=>.int 0) .nil);have s1:=ah (o:=.tup [.int 0]) n1;have k1:=k.same s1;generalize upd H t1 (.tup [V.int 0])=H1 at *;refine ⟨zlx,fun l2 n2=>?_⟩;obtain ⟨H2,e,s2,e2⟩:=nL (.lst [.int (-1),.int (bound:Int),.bl true,.str "0",.int (10 ^ Int.toNat 29),.ref t1]) n2;rw [e];refine ⟨_,rfl,pick_it (ts:=[.int (-1),.int (bound:Int),.bl true,.str "0",.int (10 ^ Int.toNat 29),.tup [.int 0]]) (k1.same s2) (jq (s1.trans s2)) e2 (k1.g.ne n2).symm (.cons (fun _ _=>.int _) (.cons (fun _ _=>.int _) (.cons (fun _ _=>.bl _) (.cons (fun _ _=>.str _) (.cons (fun _ _=>.int _) (.cons (T1.same s2) .nil)))))) rfl (by simp [szT]) q⟩
  rw [hl];refine aZ ?_;cases tv p k.m with
  | @lst a xs ts na e ta=>
   have hz:ts.length<=100:=hz;have lx:=ta.length;have tb0:TgB G H xs ts:=fun q hq=>by
    cases tv q hq with
    | lst _ e' t'=>rw [e] at e';cases e';exact t'
   clear ta tv hl;refine ⟨_,rfl,p,6,rfl,k.g,zd,zd,fun way H1 hw g1 b1=>?_⟩;have k1:=k.but g1 b1;have e1:=b1 _ _ e na;have tb:=tb0.but k b1;refine ⟨_,rfl,rfl,_,rfl,?_⟩;by_cases w0:way=0
   ·refine bR (decide_eq_true (by rw [w0];rfl)) ⟨_,rfl,a,xs,rfl,.inl ⟨SqL.of e1,fun t2 n2=>?_⟩⟩;have s2:=ah (o:=.tup xs) n2;exact q _ (.tup ts) _ (tgg_tup n2 tb) (Ep _) (g1.same s2) (b1.same s2)
   refine bE (decide_eq_false fun z=>w0 (by have:=V.int.inj z;lia)) ⟨_,rfl,rfl,_,rfl,?_⟩;by_cases w1:way=1
   ·refine bR (decide_eq_true (by rw [w1];rfl)) ⟨_,rfl,zlx,fun l0 n0=>?_⟩;obtain ⟨H2,e,s2,e2⟩:=nL (.lst [.int 0]) n0;rw [e];clear e;refine ⟨_,rfl,_,_,rfl,rfl,dJ (n:=many+1) zo zo e2 fun l1 n1=>?_⟩;obtain ⟨H3,e,s3,e3⟩:=nL (.lst (List.replicate (many+1) (.int 0))) n1;rw [e];clear e;have s13:=s2.trans s3;refine ⟨a,l1,_,_,rfl,rfl,s13 _ _ e1,e3,(by rw [Ex];lia),fun l4 n4=>?_⟩;obtain ⟨H4,e,s4,e4⟩:=nL (.lst (xs++List.replicate (many+1) (.int 0))) n4;rw [e];clear e;have s14:=s13.trans s4;have ek:(many:Int)+1=((many+1:Nat):Int):=by lia
    refine ⟨_,rfl,_,_,rfl,rfl,_,rfl,l4,_,rfl,SqL.of e4,fun l5 n5=>?_⟩;rw [ek,cut_hi];have s5:=ah (o:=.lst ((xs++List.replicate (many+1) (V.int 0)).take (many+1))) n5;refine q _ (.lst ((ts++List.replicate (many+1) (Th.int 0)).take (many+1))) _ (tgg_lst (k1.same s14) n5 (((tb.same s14).app (tgb_rep (fun _ _=>.int 0) _)).take _)) ?_ ((g1.same s14).same s5) ((b1.same s14).same s5);show (List.take _ _).length<=100;rw [Em];lia
   refine bE (decide_eq_false fun z=>w1 (by have:=V.int.inj z;lia)) ?_;clear w0 w1;refine ⟨?_,?_⟩;rotate_left
   ·refine ⟨_,rfl,rfl,_,rfl,?_⟩;by_cases w2:way=2;case neg=>exact bE (decide_eq_false fun z=>w2 (by have:=V.int.inj z;lia)) ⟨way,rfl,g1,b1⟩
    refine bR (decide_eq_true (by rw [w2];rfl)) ⟨_,rfl,_,rfl,?_⟩;cases ex with
    | false=>exact aZ ⟨way,rfl,g1,b1⟩
    | true=>
     refine bC ⟨_,rfl,_,_,rfl,rfl,_,rfl,kM (fun h=>?_) (fun h=>⟨way,rfl,g1,b1⟩)⟩;refine ⟨_,rfl,_,rfl,_,rfl,a,_,rfl,SqL.of e1,fun l5 n5=>?_⟩;have s5:=ah (o:=.lst (xs.take (xs.length - 1))) n5;rw [cut_m1];refine q _ (.lst (ts.take (xs.length - 1))) _ (tgg_lst k1 n5 (tb.take _)) ?_ (g1.same s5) (b1.same s5);show (List.take _ _).length<=100;rw [Em];lia
   clear e1 tb k1 b1 g1 hw;rintro σ H1 ⟨way,rfl,g1,b1⟩;have k1:=k.but g1 b1;have e1:=b1 _ _ e na;have tb:=tb0.but k b1;refine ⟨?_,?_,?_⟩
   ·rintro H2 ⟨_,_,g2,b2⟩;clear g1 b1 k1 e1 tb;have k2:=k.but g2 b2;refine bC fun d nd=>?_;have Td:=tgg_dct k2 nd;have s3:=ah (o:=.dK []) nd;have k3:=k2.same s3;have b3:=b2.same s3;generalize upd H2 d (.dK [])=H3 at *;clear s3 k2 g2 b2;refine ⟨zlx,fun l4 n4=>?_⟩;have T4:=tgg_lst k3 n4 .nil;have s4:=ah (o:=.lst []) n4;have k4:=k3.same s4;have b4:=b3.same s4
    replace Td:=Td.same s4
    generalize upd H3 l4 (.lst [])=H4 at *;clear s4 k3 b3;refine ⟨zlx,fun l5 n5=>?_⟩;have T5:=tgg_lst k4 n5 (.cons T4 .nil);have s5:=ah (o:=.lst [.ref l4]) n5;have k5:=k4.same s5;have b5:=b4.same s5
    replace Td:=Td.same s5
    generalize upd H4 l5 (.lst [V.ref l4])=H5 at *;clear s5 k4 b4;refine ⟨zlx,fun l6 n6=>?_⟩;obtain ⟨H6,ee,s6,e6⟩:=nL (.lst [.non]) n6;rw [ee];clear ee;refine ⟨_,rfl,rep_any zo e6 fun l7 n7=>?_⟩;obtain ⟨H7,ee,s7,e7⟩:=nL (.lst (List.replicate many .non)) n7;rw [ee];clear ee;refine ⟨_,rfl,zlx,fun l8 n8=>?_⟩;obtain ⟨H8,ee,s8,e8⟩:=nL (.lst [.int (-1)]) n8;rw [ee];clear ee;have s58:=s6.trans (s7.trans s8);refine ⟨l7,l8,_,_,rfl,rfl,s8 _ _ e7,e8,(by rw [Ex];show many+1<=sizeLine;lia),fun l9 n9=>?_⟩;have T9:=tgg_lst (k5.same s58) n9 ((tgb_rep (fun _ _=>.non) many).app (.cons (fun _ _=>.int (-1)) .nil));have s9:=ah (o:=.lst (List.replicate many .non++[.int (-1)])) n9;have s59:=s58.trans s9;have k9:=k5.same s59;have b9:=b5.same s59
    replace Td:=Td.same s59
    replace T5:=T5.same s59
    generalize upd H8 l9 (.lst (List.replicate many V.non++[.int (-1)]))=H9 at *;refine ⟨zlx,fun la na=>?_⟩;obtain ⟨Ha,ee,sa,ea⟩:=nL (.lst [.int 5,.str "",.ref d,.bl true,.ref l5,.ref l9]) na;rw [ee];refine ⟨_,rfl,pick_it (ts:=[.int 5,.str "",.dct,.bl true,.lst [.lst []],.lst (List.replicate many .non++[.int (-1)])]) (k9.same sa) (b9.same sa) ea (k9.g.ne na).symm (.cons (fun _ _=>.int _) (.cons (fun _ _=>.str _) (.cons (Td.same sa) (.cons (fun _ _=>.bl _) (.cons (T5.same sa) (.cons (T9.same sa) .nil)))))) rfl ?_ q⟩;simp [szT];lia
   ·rintro H2 ⟨_,_,g2,b2,hp⟩;clear g1 b1 k1 e1 tb;have hp:0 < ts.length:=hp;refine aZ ⟨_,rfl,_,rfl,a,_,rfl,.inl (SqL.of (b2 _ _ e na)),p,xs.length,rfl,g2,zo,zo,fun i H3 hi g3 b3=>?_⟩;have b3:=b2.trans b3;have k3:=k.but g3 b3;have e3:=b3 _ _ e na;have tb:=tb0.but k b3;clear b2 g2;refine ⟨_,rfl,_,rfl,_,rfl,a,_,rfl,SqL.of e3,fun l4 n4=>?_⟩;rw [cut_hi];obtain ⟨H4,ee,s4,e4⟩:=nL (.lst (xs.take i)) n4;rw [ee];clear ee;have p4:p≠l4:=g3.ne n4;refine ⟨_,rfl,_,rfl,_,_,rfl,rfl,⟨zd,zd,zd⟩,zlx,fun l5 n5=>?_⟩;obtain ⟨H5,ee,s5,e5⟩:=nL (.lst [.int (-1),.int (bound:Int),.bl true,.non,.str "1",.int (10 ^ Int.toNat 29)]) n5;rw [ee];clear ee;have k4:=k3.same s4;refine ⟨_,rfl,pick_it (H0:=H4) (ts:=[.int (-1),.int (bound:Int),.bl true,.non,.str "1",.int (10 ^ Int.toNat 29)]) (k4.same s5) (jq s5) e5 (k4.g.ne n5).symm (.cons (fun _ _=>.int _) (.cons (fun _ _=>.int _) (.cons (fun _ _=>.bl _) (.cons (fun _ _=>.non) (.cons (fun _ _=>.str _) (.cons (fun _ _=>.int _) .nil)))))) rfl (by simp [szT]) fun u tu H6 tg _ g6 b6=>?_⟩;refine ⟨zlx,fun l7 n7=>?_⟩;obtain ⟨H7,ee,s7,e7⟩:=nL (.lst [u]) n7;rw [ee];clear ee;have e4':=s7 _ _ (b6 _ _ e4 p4.symm);have lt:(xs.take i).length<=100:=by rw [Em];lia
    refine ⟨l4,l7,_,_,rfl,rfl,e4',e7,(by show _+1<=_;lia),fun l8 n8=>?_⟩;obtain ⟨H8,ee,s8,e8⟩:=nL (.lst (xs.take i++[u])) n8;rw [ee];clear ee;have s78:=s7.trans s8;have b38:But p H3 H8:=((jq s4).trans b6).same s78;refine ⟨_,rfl,_,rfl,_,_,rfl,rfl,_,rfl,a,_,rfl,SqL.of (b38 _ _ e3 na),fun l9 n9=>?_⟩;have ei:(i:Int)+1=((i+1:Nat):Int):=by lia
    rw [ei,cut_lo];obtain ⟨H9,ee,s9,e9⟩:=nL (.lst (xs.drop (i+1))) n9;rw [ee];clear ee;have b39:=b38.same s9;refine ⟨l8,l9,_,_,rfl,rfl,s9 _ _ e8,e9,(by rw [D9,ET];show _+1+_<=_;lia),fun la na=>?_⟩;have sa:=ah (o:=.lst (xs.take i++[u]++xs.drop (i+1))) na;have k9:=k3.but (g6.same (s78.trans s9)) b39;have tb9:=tb.but k3 b39;refine q _ (.lst (ts.take i++[tu]++ts.drop (i+1))) _ (tgg_lst k9 na (((tb9.take i).app (.cons (tg.same (s78.trans s9)) .nil)).app (tb9.drop _))) ?_ ((g6.same (s78.trans s9)).same sa) ((b3.trans b39).same sa);show (List.append _ _).length<=100;simp;lia
   ·refine ⟨_,rfl,rfl,_,rfl,?_⟩;by_cases w3:way=3
    ·exact bR (decide_eq_true (by rw [w3];rfl)) ⟨way,rfl,g1,b1⟩
    refine bE (decide_eq_false fun z=>w3 (by have:=V.int.inj z;lia)) ⟨_,rfl,zlx,fun l2 n2=>?_⟩;obtain ⟨H2,ee,s2,e2⟩:=nL (.lst []) n2;rw [ee];refine ⟨a,l2,xs,rfl,rfl,SqL.of (s2 _ _ e1),SqL.of e2,_,rfl,?_⟩;cases xs with
    | nil=>exact bC ⟨way,rfl,g1.same s2,b1.same s2⟩
    | cons x r=>exact aZ ⟨way,rfl,g1.same s2,b1.same s2,by show 0 < ts.length;rw [<-lx];exact Nat.succ_pos _⟩
  | _=>cases hl
abbrev sLGood:Stmt:=ci 122
def gdT (ex:Bool) (many hi:Int) (t:Th):Bool:=if ex then loT many hi t else lsT many hi t
inductive spGood (vs:List V) (H:Hp) (Q:VK) (Z3:XK):Prop
 | mk (p:Addr) (v:V) (t:Th) (many:Nat) (bound:Int) (ex:Bool):vs=[v,.int many,.int bound,.bl ex]->TgV p H v t->szT t<=100->(∀ H',Same H H'->Q (.bl (gdT ex many (bound - 1) t)) H')->spGood vs H Q Z3
variable {hi:Int} {many:Nat} {ex:Bool}
theorem gd_all {l:List Th} (h1:l.length<=many) (h2:ex=true->many<=l.length):gdT ex many hi (.lst l)=l.all (wn 0 hi):=by
 cases ex with
 | true=>
  have:=h2 rfl;show (decide _ && _)=_;rw [decide_eq_true zo,Bool.true_and]
 | false=>
  show (decide _ && _)=_;rw [decide_eq_true zo,Bool.true_and]
theorem gd_no {l:List Th} (h:many < l.length\/ex=true/\l.length < many):gdT ex many hi (.lst l)=false:=by
 cases ex with
 | true=>
  show (decide _ && _)=_;rw [decide_eq_false zo,Bool.false_and]
 | false=>
  have h:many < l.length:=h.elim id fun z=>absurd z.1 Ee;show (decide _ && _)=_;rw [decide_eq_false zo,Bool.false_and]
theorem scGd:ak ["_law_thing","_law_many","_law_bound","_law_exact"] ["_law_thing","_law_many","_law_bound","_law_exact"] (ai sLGood):=ck zk
theorem ndGd:(["_law_one","_law_bound"]:List Str).Nodup:=by decide +kernel
theorem ok_good (F:Fun K "_law_good" "_law_good" sLGood f fd) (B:Bl mg):FnOk P w K mg base bM 1 f fd ["_law_thing","_law_many","_law_bound","_law_exact"] spGood:=by
 have ZZ:=scGd
 walk_at "o"
 ·obtain ⟨p,v,t,many,bound,ex,rfl,tv,hz,q⟩:=h;have sz:(1000:Nat)<=sizeLine:=by decide
  refine ⟨_,ad (aR (oF (fun _ H'=>H'=H/\gdT ex many (bound - 1) t=false) (fun _ H'=>H'=H/\t.isLst=true/\szT t<=many/\(ex=true->many<=szT t)) (PW.pt (cH (bx (bj (ar (cw (T:="list")) (by rfl) B.isinstance br (aa (pv 0) (aa (pe_ty (by rfl) B.list bF) ac))))) (cH (am i6 (ar aK (by rfl) B.len Ei (aa (pv 0) ac)) (pv 1)) (cG (PW.pt (cq (bj (pv 3)) (cc (am dB (ar aK (by rfl) B.len Ei (aa (pv 0) ac)) (pv 1)))))))))) (af (ao cj)) ay) (af (ao (cf (nK hr) (fe (N':=["_law_one","_law_bound"]) (ix:=[none,some 2]) (sc0:=ai sLGood) (N:=["_law_thing","_law_many","_law_bound","_law_exact"]) rfl zk (ed (pv 0)) (fun _ _ _ _ _=>(aw (i:=0) ndGd rfl (Or.inl rfl) (.inr rfl))) (fun _ _ _ _ _=>(yM (PW.pt (cH (bj (ar (lQ (K:=K) (T:="bool") rfl) (by rfl) B.isinstance br (aa (pv 0) (aa (pe_ty (by rfl) B.bool cJ) ac)))) (cH (bx (bj (ar (lQ (K:=K) (T:="int") rfl) (by rfl) B.isinstance br (aa (pv 0) (aa (pe_ty (by rfl) B.int EJ) ac))))) (cG (bx (gI eT dB ag (pv 0) (pv 1))))))))) (fun _ _ _ _ _=>(pv 0))) (aT ac)))),?_⟩;refine ⟨?_,?_,?_⟩
  ·rintro H1 ⟨rfl,hf⟩;refine bC ?_;have:=q _ (Same.refl _);rw [hf] at this;exact this
  ·rintro H1 ⟨rfl,hl,h1,h2⟩;refine aZ ?_;cases tv with
   | @lst a xs ts na e ta=>
    have lx:=ta.length;have hz:ts.length<=100:=hz;rw [gd_all h1 h2] at q;refine ⟨_,rfl,a,rfl,⟨_,SqL.of e⟩,?_⟩;refine kO (K:=K) (a:=a) (xs:=xs) (fun i ys H'=>H'=H1/\ys.length<=i/\ys.isEmpty=(ts.take i).all (wn 0 (bound - 1))) ⟨rfl,Ep _,rfl⟩ (fun i ys H' hi' ⟨eh,ey,_⟩=>⟨by rw [eh];exact SqL.of e,zo⟩) ?_ ?_
    ·rintro i y ys H2 hy ⟨rfl,l2,he⟩;obtain ⟨ty,hty,tvy⟩:=ta.get hy;have hlt:=(D7.mp hy).1;have good:wn 0 (bound - 1) ty=true->Nx (fun i ys H'=>H'=H2/\ys.length<=i/\ys.isEmpty=(ts.take i).all (wn 0 (bound - 1))) xs.length i ys H2:=fun h=>Nx.mk hlt ⟨rfl,zo,by rw [List.take_add_one,hty,List.all_append,he];simp [h]⟩;have bad:wn 0 (bound - 1) ty=false->Nx (fun i ys H'=>H'=H2/\ys.length<=i/\ys.isEmpty=(ts.take i).all (wn 0 (bound - 1))) xs.length i (ys++[y]) H2:=fun h=>Nx.mk hlt ⟨rfl,by rw [D9];show _+1<=_;lia,by rw [List.take_add_one,hty,List.all_append];simp [h]⟩;refine ⟨⟨rfl,trivial⟩,_,rfl,y,_,_,rfl,tvy.ty,kit_bool ty,_,rfl,?_⟩;cases tvy with
     | bl b=>exact bC (bC ⟨_,rfl,bad rfl⟩)
     | int j=>
      refine aZ ⟨_,rfl,_,_,_,rfl,.int j,kit_int (.int j),_,rfl,aZ ⟨_,rfl,_,_,rfl,rfl,_,rfl,kM (fun h=>?_) (fun h=>?_)⟩⟩
      ·refine ⟨_,rfl,_,_,rfl,rfl,_,rfl,?_⟩;have h:0<=j:=of_decide_eq_true h;by_cases h':j < bound
       ·rw [decide_eq_true h'];exact aZ (good (by show (decide _ && decide _)=true;rw [decide_eq_true h,decide_eq_true zo];rfl))
       ·rw [decide_eq_false h'];exact bC ⟨_,rfl,bad (by show (decide _ && decide _)=false;rw [decide_eq_false (p:=j<=bound - 1) zo,Bool.and_false])⟩
      ·exact ⟨_,rfl,bC ⟨_,rfl,bad (by show (decide _ && decide _)=false;rw [Ez.mpr h,Bool.false_and])⟩⟩
     | non=>exact aZ ⟨_,rfl,_,_,_,rfl,.non,kit_int .non,_,rfl,bC (bC ⟨_,rfl,bad rfl⟩)⟩
     | str x=>exact aZ ⟨_,rfl,_,_,_,rfl,.str x,kit_int (.str x),_,rfl,bC (bC ⟨_,rfl,bad rfl⟩)⟩
     | tup a b=>exact aZ ⟨_,rfl,_,_,_,rfl,.tup a,kit_int (.tup []),_,rfl,bC (bC ⟨_,rfl,bad rfl⟩)⟩
     | lst n a b=>exact aZ ⟨_,rfl,_,_,_,rfl,.lst a,kit_int (.lst []),_,rfl,bC (bC ⟨_,rfl,bad rfl⟩)⟩
     | dct n a=>exact aZ ⟨_,rfl,_,_,_,rfl,.dK a,kit_int .dct,_,rfl,bC (bC ⟨_,rfl,bad rfl⟩)⟩
    ·rintro ys H2 ⟨rfl,l2,he⟩ l3 n3;obtain ⟨H3,ee,s3,e3⟩:=nL (.lst ys) n3;rw [ee];clear ee;refine ⟨zlx,fun l4 n4=>?_⟩;obtain ⟨H4,ee,s4,e4⟩:=nL (.lst []) n4;rw [ee];rw [lx,ER] at he;refine ⟨l3,l4,ys,rfl,rfl,SqL.of (s4 _ _ e3),SqL.of e4,?_⟩;rw [he];exact q _ (s3.trans s4)
   | _=>cases hl
  ·refine ⟨_,rfl,v,_,_,rfl,tv.ty,kit_lst t,_,rfl,?_⟩;by_cases hl:t.isLst=true;case neg=>
    have hl':=Ez.mpr hl;rw [hl'];exact bC ⟨rfl,by cases t<;>first|(cases ex<;>rfl)|cases hl'⟩
   rw [hl];refine aZ ?_;cases tv with
   | @lst a xs ts na e ta=>
    have lx:=ta.length;refine ⟨_,rfl,a,_,rfl,.inl (SqL.of e),_,rfl,_,_,rfl,rfl,_,rfl,?_⟩;by_cases h1:ts.length<=many;case neg=>exact bR (decide_eq_true zo) ⟨rfl,gd_no (.inl zo)⟩
    refine bE (decide_eq_false zo) ⟨_,rfl,_,rfl,?_⟩;cases ex with
    | false=>exact aZ ⟨rfl,rfl,h1,fun z=>absurd z Ee⟩
    | true=>
     refine bC ⟨_,rfl,a,_,rfl,.inl (SqL.of e),_,rfl,_,_,rfl,rfl,_,rfl,?_⟩;by_cases h2:many<=ts.length
     ·exact bE (decide_eq_false zo) ⟨rfl,rfl,h1,fun _=>h2⟩
     ·exact bR (decide_eq_true zo) ⟨rfl,gd_no (.inr ⟨rfl,zo⟩)⟩
   | _=>cases hl
end L3
namespace L2
open PySem PySem.Spec PyProof.Rows
inductive ym (K:ZF) (tb:TE) (σ:St) (Q:VK) (x:V) (H1:Hp):Prop
 | mk (k:Bool):AF K x H1 k->(if k=true then Q x H1 else tb σ H1 Q)->ym K tb σ Q x H1
def BB (K:ZF) (ta tb:TE):TE:=fun σ H Q=>ta σ H fun x H1=>ym K tb σ Q x H1
theorem vC {X:Cx} {a b:Expr} {rest:List Expr} {pos:Pos} {ta tb:TE} (ha:PE X a ta) (hb:PE X (.BoolOp .Or (b::rest) pos) tb):PE X (.BoolOp .Or (a::b::rest) pos) (BB X.K ta tb):=by
 refine ⟨?_⟩;intro pins s σ H Q I h;refine BoolOp_or (bG (ha pins s σ H _ I h) fun v s1 ⟨x,H1,I1,r1,k,tr,q1⟩=>?_);refine bG (yH pins s1 σ H1 x v (fun c H2=>H2=H1/\c=k) I1 r1 ⟨k,tr,rfl,rfl⟩) fun c s2 ⟨H2,I2,e2,ec⟩=>?_;subst e2;subst ec;cases c with
 | false=>exact hb pins s2 σ H2 Q I2 q1
 | true=>exact ⟨x,H2,I2,r1,q1⟩
end L2
namespace L3
open PySem L2
structure V5 where
 (v0 v1 v2 v3 v4:V)
structure T5 where
 (t0 t1 t2 t3 t4:Th)
def V5.l (x:V5):List V:=[x.v0,x.v1,x.v2,x.v3,x.v4]
structure TsV (q:Addr) (H:Hp) (lt:Addr) (x:V5) (y:T5):Prop where
 e:H lt=some (.lst x.l)
 g0:TgV q H x.v0 y.t0
 g1:TgV q H x.v1 y.t1
 g2:TgV q H x.v2 y.t2
 g3:TgV q H x.v3 y.t3
 g4:TgV q H x.v4 y.t4
structure Db (y:T5):Prop where
 z0:szT y.t0<=100
 z1:szT y.t1<=100
 z2:szT y.t2<=100
 z3:szT y.t3<=100
 z4:szT y.t4<=100
variable {y:T5} {x:V5} {H H':Hp} {q:Addr}
theorem TsV.same {lt:Addr} (h:TsV q H lt x y) (s:Same H H'):TsV q H' lt x y:=⟨s _ _ h.e,h.g0.same s,h.g1.same s,h.g2.same s,h.g3.same s,h.g4.same s⟩
inductive SzV (H:Hp) (v:V) (D:Fm):Prop
 | mk (l t1 t2 t3 t4:Addr):v=.ref l->H l=some (.lst [.non,.ref t1,.ref t2,.ref t3,.ref t4])->H t1=some (.tup [.int (D.places.length:Nat),.int (2 ^ D.width),.bl true])->H t2=some (.tup [.int (D.marks.length:Nat),.int 2,.bl true])->H t3=some (.tup [.int (D.cells:Nat),.int (2 ^ D.width),.bl true])->H t4=some (.tup [.int (D.depth:Nat),.int 1000,.bl false])->SzV H v D
variable {D:Fm} {v:V}
theorem SzV.same (h:SzV H v D) (s:Same H H'):SzV H' v D:=by
 obtain ⟨l,t1,t2,t3,t4,a,b,c,d,e,f⟩:=h;exact ⟨l,t1,t2,t3,t4,a,s _ _ b,s _ _ c,s _ _ d,s _ _ e,s _ _ f⟩
def zQ:Th->Th
 | .non=>.int 0
 | t=>t
def vD:Th->V->V
 | .non,_=>.int 0
 | _,v=>v
def gY (D:Fm) (x:V5) (y:T5):List (Bool×V):=uU D (zQ y.t0) y.t1 y.t2 y.t3 y.t4 (vD y.t0 x.v0) x.v1 x.v2 x.v3 x.v4
def xA (H:Hp) (u:V) (D:Fm) (x:V5) (y:T5):Prop:=TldV H u (vD y.t0 x.v0) (cF (jR D.places.length y.t1)) (cF (jR D.marks.length y.t2)) (cF (jR D.cells y.t3)) (cF (jR 0 y.t4)) (.str "on") .non
structure sk (D:Fm):Prop where
 w:D.width<=24
 p:D.places.length<=4
 m:D.marks.length<=3
 c:D.cells<=64
 d:D.depth<=8
inductive Dx (q:Addr) (H:Hp) (D:Fm) (x:V5) (y:T5) (sl:List V) (i:Nat):Prop
 | mk (v:V) (t:Th) (tz:Addr) (n:Nat) (b:Int) (ex:Bool):j8 x.l (1+(i:Int))=some v->j8 sl (1+(i:Int))=some (.ref tz)->H tz=some (.tup [.int (n:Nat),.int b,.bl ex])->TgV q H v t->szT t<=100->n<=64->(gY D x y).drop (1+i)=(lH ex n (b - 1) t,v)::(gY D x y).drop (1+(i+1))->(if ex then n else 0)=[D.places.length,D.marks.length,D.cells,0].getD i 0->([y.t1,y.t2,y.t3,y.t4].getD i .non=t)->0<=b - 1->Dx q H D x y sl i
theorem Dy {lt l t1 t2 t3 t4:Addr} (h:TsV q H lt x y) (z:Db y) (k:sk D) (h1:H t1=some (.tup [.int (D.places.length:Nat),.int (2 ^ D.width),.bl true])) (h2:H t2=some (.tup [.int (D.marks.length:Nat),.int 2,.bl true])) (h3:H t3=some (.tup [.int (D.cells:Nat),.int (2 ^ D.width),.bl true])) (h4:H t4=some (.tup [.int (D.depth:Nat),.int 1000,.bl false])) {i:Nat} (hi:i < 4):Dx q H D x y [.non,.ref t1,.ref t2,.ref t3,.ref t4] i:=by
 have a:=k.p;have b:=k.m;have c:=k.c;have d:=k.d;rcases (by lia:i=0\/i=1\/i=2\/i=3) with rfl|rfl|rfl|rfl
 ·exact ⟨x.v1,y.t1,t1,D.places.length,2 ^ D.width,true,rfl,rfl,h1,h.g1,z.z1,zo,rfl,rfl,rfl,iH _⟩
 ·exact ⟨x.v2,y.t2,t2,D.marks.length,2,true,rfl,rfl,h2,h.g2,z.z2,zo,rfl,rfl,rfl,zd⟩
 ·exact ⟨x.v3,y.t3,t3,D.cells,2 ^ D.width,true,rfl,rfl,h3,h.g3,z.z3,zo,rfl,rfl,rfl,iH _⟩
 ·exact ⟨x.v4,y.t4,t4,D.depth,1000,false,rfl,rfl,h4,h.g4,z.z4,zo,rfl,rfl,rfl,zd⟩
variable {t:Th}
theorem TgV.nn (h:TgV q H v t):v=.non↔t=.non:=by
 cases h<;>simp
variable {hi:Int} {n:Nat} {ex:Bool}
theorem BE (h:t≠.non):gdT ex n hi t=lH ex n hi t:=by
 cases t<;>first|rfl|exact absurd rfl h
inductive FdV (H:Hp) (D:Fm) (y:T5) (fs:List V) (j:Nat):Prop
 | mk (a:_):fs[j]?=some (.ref a)->H a=some (.tup (cF (jR ([D.places.length,D.marks.length,D.cells,0].getD j 0) ([y.t1,y.t2,y.t3,y.t4].getD j .non))))->FdV H D y fs j
variable {j:Nat}
theorem FdV.same {fs:List V} (h:FdV H D y fs j) (s:Same H H'):FdV H' D y fs j:=let ⟨a,e,t⟩:=h;⟨a,e,s _ _ t⟩
theorem FdV.put {fs:List V} {lf:Addr} {u:V} (h:FdV H D y fs j) (e:H lf=some (.lst fs)):FdV (upd H lf (.lst (fs++[u]))) D y (fs++[u]) j:=by
 obtain ⟨a,ea,t⟩:=h;refine ⟨a,?_,?_⟩
 ·rw [Fo (D7.mp ea).1];exact ea
 ·rw [aj fun z=>by rw [z,e] at t;cases t];exact t
theorem jL:∀ {L:List (Bool×V)},bW L=none->∀ e∈L,e.1=true
 | (true,_)::r,h,e,he=>by
  rcases Eo.mp he with rfl|he
  ·rfl
  ·exact jL (L:=r) h e he
 | (false,_)::r,h,_,_=>by cases h
variable {xs:List V}
theorem xC {a:Addr} {ts:List Th} (e:TgA q H xs ts) (b:lH ex n hi (.lst ts)=true):xs=cF (.lst ts):=by
 refine jC (hi:=hi) e ?_;cases ex with
 | true=>exact (EA _ _ ▸ (show (decide _ && ts.all (wn 0 hi))=true from b)).2
 | false=>exact (EA _ _ ▸ (show (decide _ && ts.all (wn 0 hi))=true from b)).2
abbrev vE:Stmt:=ci 123
inductive qM (vs:List V) (H:Hp) (Q:VK) (Z3:XK):Prop
 | mk (q lt:Addr) (sv:V) (D:Fm) (x:V5) (y:T5):vs=[.ref lt,sv]->TsV q H lt x y->Db y->SzV H sv D->sk D->(∀ z r H',bW (gY D x y)=some z->Same H H'->H' r=some (.tup [.str "state",z])->Q (.ref r) H')->(∀ u r H',bW (gY D x y)=none->Same H H'->xA H' u D x y->H' r=some (.tup [.str "good",u])->Q (.ref r) H')->qM vs H Q Z3
variable {P:Program} {w:World} {K:ZF} {mg:Str->Option Value} {base:Heap} {C fi aS aE aF aO:Addr} {t1 t2 t3 t4 t5 tM:Tok}
theorem scDue:ak ["_law_things","_law_sizes","_law_at","_law_k","_law_many","_law_bound","_law_exact","_law_found"] ["_law_things","_law_sizes"] (ai vE):=ck zk
variable {fd:FuncData} {f:Addr}
theorem zR (F:Fun K "_law_due" "_law_due" vE f fd) (B:Bl mg) (GD:Fn P w K mg base "_law_good" 1 ["_law_thing","_law_many","_law_bound","_law_exact"] spGood):FnOk P w K mg base bM 2 f fd ["_law_things","_law_sizes"] qM:=by
 have ZZ:=scDue
 walk_at "o"
 ·obtain ⟨q,lt,sv,D,x,y,rfl,ht,hz,hS,hk,q1,q2⟩:=h;have sz:(1000:Nat)<=sizeLine:=by decide
  obtain ⟨l,t1,t2,t3,t4,rfl,el,h1,h2,h3,h4⟩:=hS;refine ⟨_,ad (aA (i:=2) scDue.nd rfl (Or.inl rfl) (aG aM (pv 0) ag)) (ad (aR (oF (fun σ H'=>H'=H/\bW (gY D x y)=some x.v0) (fun σ H'=>H'=H/\wn 0 999 (zQ y.t0)=true) (PW.pt (cq (am gH (pv 2) bN) (cc (PW.pt (cH (bj (ar (cw (T:="bool")) (by rfl) B.isinstance br (aa (pv 2) (aa (pe_ty (by rfl) B.bool cJ) ac)))) (cH (bx (bj (ar (cw (T:="int")) (by rfl) B.isinstance br (aa (pv 2) (aa (pe_ty (by rfl) B.int EJ) ac))))) (cG (bx (gI eT dB ag (pv 2) ag)))))))))) (af (ao (aW (aa aC (aa (pv 2) ac))))) ay) (bJ (fun σ H'=>∃ a b c d:Option V,σ=[some (.ref lt),some (.ref l),some x.v0,a,b,c,d,none]/\Same H H'/\bW (gY D x y)=none) (cQ PassesOwn.never rfl (jW rfl B.range (aa ag (aa ag ac))) (aw (i:=3) scDue.nd rfl (Or.inl rfl)) (ad (dj (aG aM (pv 1) (pv 3)) (cM rfl (aH (aw (i:=4) scDue.nd rfl (Or.inl rfl)) (aH (aw (i:=5) scDue.nd rfl (Or.inl rfl)) (aH (aw (i:=6) scDue.nd rfl (Or.inl rfl)) bV))))) (af (aR (PW.pt (cq (am gH (aG aM (pv 0) (pv 3)) bN) (cc (bx (bj (aI GD hr.m rfl (aa (aG aM (pv 0) (pv 3)) (aa (pv 4) (aa (pv 5) (aa (pv 6) ac)))))))))) (af (ao (aW (aa aC (aa (aG aM (pv 0) (pv 3)) ac))))) ay)))) (ad (aA (i:=7) scDue.nd rfl (Or.inl rfl) (aT ac)) (bJ (fun σ H'=>∃ (a b c d:Option V) (lf:Addr) (fs:List V),σ=[some (.ref lt),some (.ref l),some x.v0,a,b,c,d,some (.ref lf)]/\Same H H'/\H' lf=some (.lst fs)/\fs.length=4/\∀ j,j < 4->FdV H' D y fs j) (cQ PassesOwn.never rfl (jW rfl B.range (aa ag (aa ag ac))) (aw (i:=3) scDue.nd rfl (Or.inl rfl)) (ad (dj (aG aM (pv 1) (pv 3)) (cM rfl (aH (aw (i:=4) scDue.nd rfl (Or.inl rfl)) (aH (aw (i:=5) scDue.nd rfl (Or.inl rfl)) (aH (aw (i:=6) scDue.nd rfl (Or.inl rfl)) bV))))) (af (aQ (dR Et Ev Eu bQ (pv 7) (aa (aN aX (by rfl) B.tuple aY (aa (vC (aG aM (pv 0) (pv 3)) (di (aL eB (aT (aa ag ac)) (aL eQ (pv 4) (aN fE (by rfl) B.int EJ (aa (dZ (cf eU (aG aM (pv 0) (pv 3)) bN) (di (pv 6))) ac)))))) ac)) ac)))))) (af (ao (aW (aa aC (aa (aW (aa aC (aa bN (aa (vC (pv 2) (di ag)) (aa (aG aM (pv 7) ag) (aa (aG aM (pv 7) ag) (aa (aG aM (pv 7) ag) (aa (aG aM (pv 7) ag) ac)))))))) ac))))))))),?_⟩;refine ⟨_,rfl,lt,_,_,_,rfl,rfl,SqL.of ht.e,jx,?_⟩;refine ⟨?_,?_,?_⟩
  ·rintro H1 ⟨rfl,hf⟩;refine bC ⟨_,rfl,zlx,fun r nr=>?_⟩;exact q1 _ r _ hf (ah nr) ae
  ·rintro H1 ⟨rfl,ha⟩;refine aZ ⟨?_,?_⟩;rotate_left
   ·refine ⟨1,5,rfl,zd,?_⟩;refine dN (lo:=1) (n:=4) (fun i σ H'=>∃ a b c d:Option V,σ=[some (.ref lt),some (.ref l),some x.v0,a,b,c,d,none]/\Same H1 H'/\bW (gY D x y)=bW ((gY D x y).drop (1+i))) ⟨_,_,_,_,rfl,Same.refl _,?_⟩ ?_ ?_
    ·show bW ((wn 0 999 (zQ y.t0),_)::_)=_;rw [ha];rfl
    ·rintro i σ H2 hi ⟨a,b,c,d,rfl,s2,hf⟩;obtain ⟨v,t,tz,n,bd,ex,av,az,et,tv,sv,hn,hd,_,_,hb0⟩:=Dy (l:=l) (ht.same s2) hz hk (s2 _ _ h1) (s2 _ _ h2) (s2 _ _ h3) (s2 _ _ h4) hi;have e2:=s2 _ _ ht.e;refine ⟨_,rfl,_,rfl,l,_,_,_,rfl,rfl,SqL.of (s2 _ _ el),az,tz,_,rfl,SqT.of et,rfl,_,_,rfl,_,_,rfl,_,_,rfl,rfl,?_⟩;refine ⟨_,rfl,_,rfl,lt,_,_,_,rfl,rfl,SqL.of e2,av,rfl,_,rfl,?_⟩;rw [hd] at hf;by_cases hn':t=.non
     ·refine bE (by rw [decide_eq_true (tv.nn.mpr hn')];rfl) ⟨_,_,_,_,rfl,s2,?_⟩;rw [hf,hn'];rfl
     refine bR (by rw [decide_eq_false fun z=>hn' (tv.nn.mp z)];rfl) ?_;refine ⟨_,rfl,_,rfl,lt,_,_,_,rfl,rfl,SqL.of e2,av,_,rfl,_,rfl,_,rfl,q,v,t,n,bd,ex,rfl,tv,sv,fun H3 s3=>⟨_,rfl,?_⟩⟩;rw [BE hn'];have s3:=s2.trans s3;cases hg:lH ex n (bd - 1) t with
     | true=>
      rw [hg] at hf;exact aZ ⟨_,_,_,_,rfl,s3,hf⟩
     | false=>
      rw [hg] at hf;refine bC ⟨_,rfl,_,rfl,lt,_,_,_,rfl,rfl,SqL.of (s3 _ _ ht.e),av,zlx,fun r nr=>?_⟩;exact q1 v r _ hf (s3.trans (ah nr)) ae
    ·rintro σ H2 ⟨a,b,c,d,rfl,s2,hf⟩;exact ⟨a,b,c,d,rfl,s2,hf⟩
   rintro σ H2 ⟨a,b,c,d,rfl,s2,hf⟩;refine ⟨zlx,fun lf nf=>?_⟩;obtain ⟨H3,ee,s3,e3⟩:=nL (.lst []) nf;rw [ee];clear ee;have s3:=s2.trans s3;refine ⟨?_,?_⟩;rotate_left
   ·refine ⟨1,5,rfl,zd,?_⟩;refine dN (lo:=1) (n:=4) (fun i σ H'=>∃ (a b c d:Option V) (fs:List V),σ=[some (.ref lt),some (.ref l),some x.v0,a,b,c,d,some (.ref lf)]/\Same H1 H'/\H1 lf=none/\H' lf=some (.lst fs)/\fs.length=i/\∀ j,j < i->FdV H' D y fs j) ⟨_,_,_,_,[],rfl,s3,none_of s2 nf,e3,rfl,fun _ h=>absurd h (Nat.not_lt_zero _)⟩ ?_ ?_
    ·rintro i σ H4 hi ⟨a,b,c,d,fs,rfl,s4,nl,e4,l4,hj⟩;obtain ⟨v,t,tz,n,bd,ex,av,az,et,tv,sv,hn,hd,hm,hy,hb0⟩:=Dy (l:=l) (ht.same s4) hz hk (s4 _ _ h1) (s4 _ _ h2) (s4 _ _ h3) (s4 _ _ h4) hi;have eL:=s4 _ _ ht.e;have ho:lH ex n (bd - 1) t=true:=jL hf (lH ex n (bd - 1) t,v) (List.mem_of_mem_drop (i:=1+i) (by rw [hd];exact Eb));have fin:∀ r H5,Same H4 H5->H5 r=some (.tup (cF (jR (if ex then n else 0) t)))->Same H1 (upd H5 lf (.lst (fs++[.ref r])))/\H1 lf=none/\(upd H5 lf (.lst (fs++[.ref r]))) lf=some (.lst (fs++[.ref r]))/\(fs++[V.ref r]).length=i+1/\∀ j,j < i+1->FdV (upd H5 lf (.lst (fs++[.ref r]))) D y (fs++[.ref r]) j:=fun r H5 s5 er=>by
      have e5:=s5 _ _ e4;refine ⟨aV nl (s4.trans s5),nl,ae,by rw [D9,l4];rfl,fun j hj'=>?_⟩;by_cases ej:j=i
      ·subst ej;refine ⟨r,by rw [Fk zo,l4,Nat.sub_self];rfl,?_⟩;rw [aj (fun z=>by rw [z,e5] at er;cases er),er,hm,hy]
      ·exact ((hj j zo).same s5).put e5
     refine ⟨_,rfl,_,rfl,l,_,_,_,rfl,rfl,SqL.of (s4 _ _ el),az,tz,_,rfl,SqT.of et,rfl,_,_,rfl,_,_,rfl,_,_,rfl,rfl,?_⟩;refine ⟨_,rfl,.inl ⟨rfl,_,SqL.of e4⟩,_,rfl,_,rfl,lt,_,_,_,rfl,rfl,SqL.of eL,av,?_⟩;cases tv with
     | non=>
      refine ⟨false,rfl,zlx,fun l5 n5=>?_⟩;obtain ⟨H5,ee,s5,e5⟩:=nL (.lst [.int 0]) n5;rw [ee];clear ee;refine ⟨_,rfl,_,rfl,_,rfl,lt,_,_,_,rfl,rfl,SqL.of (s5 _ _ eL),av,rfl,_,rfl,bC ⟨_,rfl,.inr ⟨ex,rfl,_,_,rfl,rfl,.inl ⟨zo,zo⟩,?_⟩⟩⟩;refine dJ (n:=if ex then n else 0) (by cases ex<;>simp) (by cases ex<;>simp;lia) e5 fun l6 n6=>?_;obtain ⟨H6,ee,s6,e6⟩:=nL (.lst (List.replicate (if ex then n else 0) (.int 0))) n6;rw [ee];clear ee;refine ⟨l6,_,rfl,.inl ⟨SqL.of e6,fun r nr=>?_⟩⟩;have s7:=ah (o:=.tup (List.replicate (if ex then n else 0) (.int 0))) nr;have s47:=s5.trans (s6.trans s7);exact ⟨lf,fs,_,rfl,rfl,s47 _ _ e4,zo,_,_,_,_,_,rfl,fin r _ s47 (by rw [ae,jD])⟩
     | @lst ap xs ts na e ta=>
      have ei:=xC (a:=ap) ta ho;cases ts with
      | nil=>
       cases ta;refine ⟨false,.inl ⟨[],SqL.of e,rfl⟩,zlx,fun l5 n5=>?_⟩;obtain ⟨H5,ee,s5,e5⟩:=nL (.lst [.int 0]) n5;rw [ee];clear ee;refine ⟨_,rfl,_,rfl,_,rfl,lt,_,_,_,rfl,rfl,SqL.of (s5 _ _ eL),av,rfl,_,rfl,aZ (.inr ⟨false,rfl,_,_,rfl,rfl,.inl ⟨zo,zo⟩,?_⟩)⟩;refine dJ (n:=0) (by simp) zo e5 fun l6 n6=>?_;obtain ⟨H6,ee,s6,e6⟩:=nL (.lst (List.replicate 0 (.int 0))) n6;rw [ee];clear ee;refine ⟨l6,_,rfl,.inl ⟨SqL.of e6,fun r nr=>?_⟩⟩;have s7:=ah (o:=.tup (List.replicate 0 (.int 0))) nr;have s47:=s5.trans (s6.trans s7);exact ⟨lf,fs,_,rfl,rfl,s47 _ _ e4,zo,_,_,_,_,_,rfl,fin r _ s47 ae⟩
      | cons t0 tr=>
       refine ⟨true,.inl ⟨xs,SqL.of e,by rw [ei];rfl⟩,ap,xs,rfl,.inl ⟨SqL.of e,fun r nr=>?_⟩⟩;have s7:=ah (o:=.tup xs) nr;exact ⟨lf,fs,_,rfl,rfl,s7 _ _ e4,zo,_,_,_,_,_,rfl,fin r _ s7 (by rw [ae,ei];rfl)⟩
     | _=>cases ex<;>cases ho
    ·rintro σ H4 ⟨a,b,c,d,fs,rfl,s4,nl,e4,l4,hj⟩;exact ⟨a,b,c,d,lf,fs,rfl,s4,e4,l4,hj⟩
   clear nf e3 s3;clear s3;clear H3 lf;rintro σ H3 ⟨a,b,c,d,lf,fs,rfl,s3,e3,l3,hj⟩;obtain ⟨a1,f1,p1⟩:=hj 0 zd;obtain ⟨a2,f2,p2⟩:=hj 1 zd;obtain ⟨a3,f3,p3⟩:=hj 2 zd;obtain ⟨a4,f4,p4⟩:=hj 3 zd;have fin:∀ Q':VK,Q' (vD y.t0 x.v0) H3->BB K (og 2) (tC (.int 0)) [some (.ref lt),some (.ref l),some x.v0,a,b,c,d,some (.ref lf)] H3 Q':=fun Q' hq=>by
    have g0:=ht.g0;refine ⟨_,rfl,?_⟩;clear p1 p2 p3 p4 q1 q2 hj hf;revert ha hq g0;generalize x.v0=v0;generalize y.t0=t0;intro ha hq g0;cases g0 with
    | non=>exact ⟨false,rfl,hq⟩
    | int j=>
     by_cases e:j=0
     ·subst e;exact ⟨false,rfl,hq⟩
     ·exact ⟨true,(by show true=(j != 0);simp [e]),hq⟩
    | _=>cases ha
   refine fin _ ?_;refine ⟨_,rfl,lf,_,_,_,rfl,rfl,SqL.of e3,bq f1,_,rfl,lf,_,_,_,rfl,rfl,SqL.of e3,bq f2,_,rfl,lf,_,_,_,rfl,rfl,SqL.of e3,bq f3,_,rfl,lf,_,_,_,rfl,rfl,SqL.of e3,bq f4,zlx,fun t5 n5=>?_⟩;obtain ⟨H5,ee,s5,e5⟩:=nL (.tup [.str "on",.non,vD y.t0 x.v0,.ref a1,.ref a2,.ref a3,.ref a4]) n5;rw [ee];clear ee;refine ⟨zlx,fun r nr=>?_⟩;have s6:=ah (o:=.tup [.str "good",.ref t5]) nr;have s56:=s5.trans s6;exact q2 _ r _ hf (s3.trans s56) ⟨t5,a1,a2,a3,a4,rfl,s6 _ _ e5,s56 _ _ p1,s56 _ _ p2,s56 _ _ p3,s56 _ _ p4⟩ ae
  ·refine ⟨_,rfl,rfl,_,rfl,?_⟩;obtain ⟨x0,x1,x2,x3,x4⟩:=x;obtain ⟨y0,y1,y2,y3,y4⟩:=y;have g0:TgV q H x0 y0:=ht.g0;clear q1 q2 ht hz;cases g0 with
   | non=>exact aZ ⟨rfl,rfl⟩
   | bl b=>exact bC ⟨_,rfl,_,_,_,rfl,.bl b,kit_bool (.bl b),_,rfl,bC ⟨rfl,rfl⟩⟩
   | int j=>
    refine bC ⟨_,rfl,_,_,_,rfl,.int j,kit_bool (.int j),_,rfl,aZ ⟨_,rfl,_,_,_,rfl,.int j,kit_int (.int j),_,rfl,aZ ⟨_,rfl,_,_,rfl,rfl,_,rfl,kM (fun h=>?_) (fun h=>?_)⟩⟩⟩
    ·refine ⟨_,_,rfl,rfl,_,rfl,?_⟩;have h:0<=j:=of_decide_eq_true h;by_cases h':j < 1000
     ·rw [decide_eq_true h'];exact aZ ⟨rfl,by show (decide _ && decide _)=true;rw [decide_eq_true h,decide_eq_true zo];rfl⟩
     ·rw [decide_eq_false h'];refine bC ⟨rfl,?_⟩;show bW ((decide _ && decide _,_)::_)=_;rw [decide_eq_false (p:=j<=999) zo,Bool.and_false];rfl
    ·refine ⟨_,rfl,bC ⟨rfl,?_⟩⟩;show bW ((decide _ && decide _,_)::_)=_;rw [Ez.mpr h,Bool.false_and];rfl
   | str z=>exact bC ⟨_,rfl,_,_,_,rfl,.str z,kit_bool (.str z),_,rfl,aZ ⟨_,rfl,_,_,_,rfl,.str z,kit_int (.str z),_,rfl,bC ⟨rfl,rfl⟩⟩⟩
   | tup a b=>exact bC ⟨_,rfl,_,_,_,rfl,.tup a,kit_bool (.tup []),_,rfl,aZ ⟨_,rfl,_,_,_,rfl,.tup a,kit_int (.tup []),_,rfl,bC ⟨rfl,rfl⟩⟩⟩
   | lst n a b=>exact bC ⟨_,rfl,_,_,_,rfl,.lst a,kit_bool (.lst []),_,rfl,aZ ⟨_,rfl,_,_,_,rfl,.lst a,kit_int (.lst []),_,rfl,bC ⟨rfl,rfl⟩⟩⟩
   | dct n a=>exact bC ⟨_,rfl,_,_,_,rfl,.dK a,kit_bool .dct,_,rfl,aZ ⟨_,rfl,_,_,_,rfl,.dK a,kit_int .dct,_,rfl,bC ⟨rfl,rfl⟩⟩⟩
abbrev pP:Stmt:=ci 124
inductive pQ (C Cs:Addr) (vs:List V) (H:Hp) (Q:VK) (Z3:XK):Prop
 | mk (q lt:Addr) (o:HO) (v:V) (D:Fm) (x:V5) (y:T5):vs=[v,.ref lt]->H q=some o->TabV C H v D->sk D->TsV q H lt x y->(∀ z r H',bW (gY D x y)=some z->Same H H'->H' r=some (.tup [.str "state",z])->Q (.ref r) H')->(∀ H' e dx p m c l,bW (gY D x y)=none->Same H H'->StO Cs H' e dx p m c l (vD y.t0 x.v0) (cF (jR D.places.length y.t1)) (cF (jR D.marks.length y.t2)) (cF (jR D.cells y.t3)) (cF (jR 0 y.t4)) (.str "on") .non->H e=none->H p=none->H m=none->H c=none->H l=none->Q (.ref e) H')->pQ C Cs vs H Q Z3
theorem nO (h:TgV q H v t):TgV q H (vD t v) (zQ t):=by
 cases t<;>first|exact h|exact .int 0
theorem BF (h:TgV q H v t):j8 [v,.int 0] (if decide (v=.non)=true then (1:Int) else 0)=some (vD t v):=by
 cases h<;>rfl
section
variable {P:Program} {w:World} {K:ZF} {mg:Str->Option Value} {base:Heap} {C Cs R cS fS:Addr} {tk:Tok}
theorem scMd:ak ["_law_table","_law_things","_law_at","e"] ["_law_table","_law_things"] (ai pP):=ck zk
theorem xD {f fo:Addr} {fd fdo:FuncData} (F:Fun K "_law_made" "_law_made" pP f fd) (B:Bl mg) (TX:Xk K mg R cS fS "NoState" "thing") (FO:FunDs K "state_of" "state_of" cz (pC tk) fo fdo) (mgO:mg "state_of"=some (.ref fo)) (SO:FnOk P w K mg base (iw P w) 5 fo fdo rY (uW C Cs cS)):FnOk P w K mg base bM 6 f fd ["_law_table","_law_things"] (pQ C Cs):=by
 have ZZ:=scMd
 walk_at "o"
 ·obtain ⟨q,lt,o,v,D,x,y,rfl,hq,hT,hk,ht,q1,q2⟩:=h;refine ⟨_,ad (aA (i:=2) scMd.nd rfl (Or.inl rfl) (aG aM (aT (aa (aG aM (pv 1) ag) (aa ag ac))) (aN fE (by rfl) B.int EJ (aa (cf eU (aG aM (pv 1) ag) bN) ac)))) (af (lF (i:=3) rfl (fun pn ES=>(af (ao (nG SO hr rfl mgO FO.kp (Br FO) .nil bZ (aa (pv 0) (aa (pv 2) (aa (aG (fz (K:=K) rfl) (pv 1) ag) (aa (aG (fz (K:=K) rfl) (pv 1) ag) (aa (aG (fz (K:=K) rfl) (pv 1) ag) (aa (aG (fz (K:=K) rfl) (pv 1) ag) ac)))))))))) (fun A pn=>(af (ao (aW (aa aC (aa (gW (K:=K) rfl (pv 3) rfl) ac)))))) rfl TX.mK TX.k scMd.nd rfl rfl)),?_⟩;refine ⟨_,rfl,lt,_,_,_,rfl,rfl,SqL.of ht.e,jx,zlx,fun l5 n5=>?_⟩;obtain ⟨H5,ee,s5,e5⟩:=nL (.lst [x.v0,.int 0]) n5;rw [ee];clear ee
  replace ht:=ht.same s5
  refine ⟨_,rfl,lt,_,_,_,rfl,rfl,SqL.of ht.e,jx,rfl,.inr ⟨_,rfl,l5,_,_,_,rfl,rfl,SqL.of e5,BF ht.g0,?_⟩⟩;refine ⟨_,rfl,_,rfl,_,rfl,lt,_,_,_,rfl,rfl,SqL.of ht.e,rfl,_,rfl,lt,_,_,_,rfl,rfl,SqL.of ht.e,rfl,_,rfl,lt,_,_,_,rfl,rfl,SqL.of ht.e,rfl,_,rfl,lt,_,_,_,rfl,rfl,SqL.of ht.e,rfl,q,o,v,_,_,_,_,_,D,zQ y.t0,y.t1,y.t2,y.t3,y.t4,rfl,s5 _ _ hq,hT.same s5,hk.w,hk.p,hk.m,hk.c,hk.d,nO ht.g0,ht.g1,ht.g2,ht.g3,ht.g4,fun z hz e d H' s' ne xa=>?_,fun hz H' e dx p m c l s' hO n1 n2 n3 n4 n5=>q2 H' e dx p m c l hz (s5.trans s') hO (none_of s5 n1) (none_of s5 n2) (none_of s5 n3) (none_of s5 n4) (none_of s5 n5)⟩;refine ⟨e,cS,some d,_,"NoState",bmR R,rfl,xa,TX.k,(by simp [List.contains_cons]),?_⟩;refine ⟨_,rfl,e,cS,d,true,_,"NoState",bmR R,z,rfl,xa,TX.k,TX.na,rfl,zlx,fun r nr=>?_⟩;exact q1 z r _ hz (s5.trans (s'.trans (ah nr))) ae
end
abbrev vF:Stmt:=ci 125
inductive KdV (n:Nat) (H:Hp):V->Prop
 | non:KdV n H .non
 | bl (b:Bool):KdV n H (.bl b)
 | int (i:Int):KdV n H (.int i)
 | str (x:Str):KdV n H (.str x)
 | tup {a:Addr} {xs:List V}:H a=some (.tup xs)->KdV n H (.ref a)
 | lst {a:Addr} {xs:List V}:H a=some (.lst xs)->xs.length<=n->KdV n H (.ref a)
 | dct {a:Addr}:H a=some (.dK [])->KdV n H (.ref a)
theorem KdV.put {a:Addr} {xs ys:List V} (h:KdV n H v) (e:H a=some (.lst xs)) (hy:ys.length<=n+1):KdV (n+1) (upd H a (.lst ys)) v:=by
 cases h with
 | non=>exact .non
 | bl b=>exact .bl b
 | int i=>exact .int i
 | str x=>exact .str x
 | @tup b _ h=>exact .tup (by rw [aj (fun z=>by rw [z,e] at h;cases h)];exact h)
 | @dct b h=>exact .dct (by rw [aj (fun z=>by rw [z,e] at h;cases h)];exact h)
 | @lst b zs h hl=>
  by_cases z:b=a
  ·subst z;exact .lst ae hy
  ·exact .lst (by rw [aj z];exact h) zo
theorem KdV.mono {n m:Nat} (h:KdV n H v) (hm:n<=m):KdV m H v:=by
 cases h with
 | non=>exact .non
 | bl b=>exact .bl b
 | int i=>exact .int i
 | str x=>exact .str x
 | tup e=>exact .tup e
 | lst e hl=>exact .lst e zo
 | dct e=>exact .dct e
theorem TgV.kd (h:TgV q H v t) (hz:szT t<=n):KdV n H v:=by
 cases h with
 | non=>exact .non
 | bl b=>exact .bl b
 | int i=>exact .int i
 | str x=>exact .str x
 | tup e _=>exact .tup e
 | lst _ e ta=>exact .lst e (by rw [ta.length];exact hz)
 | dct _ e=>exact .dct e
def ButL (us:List V) (H H':Hp):Prop:=∀ b o,H b=some o->(V.ref b∈us->∀ xs,o≠.lst xs)->H' b=some o
inductive vG (vs:List V) (H:Hp) (Q:VK) (Z3:XK):Prop
 | mk (lc:Addr) (us:List V):vs=[.ref lc]->H lc=some (.lst us)->us.length<=5->(∀ u∈us,KdV 100 H u)->V.ref lc∉us->(∀ H',ButL us H H'->Q .non H')->vG vs H Q Z3
theorem scCh:ak ["_law_things","_law_thing"] ["_law_things"] (ai vF):=ck zk
theorem zS (F:Fun K "_law_changed" "_law_changed" vF f fd) (B:Bl mg):FnOk P w K mg base bM 1 f fd ["_law_things"] vG:=by
 have ZZ:=scCh
 walk_at "o"
 ·obtain ⟨lc,us,rfl,e,hl,hk,hn,q⟩:=h;have sz:(1000:Nat)<=sizeLine:=by decide
  refine ⟨_,af (cQ PassesOwn.never rfl (ed (pv 0)) (aw (i:=1) scCh.nd rfl (Or.inl rfl)) (af (aR (bj (ar (cw (T:="list")) (by rfl) B.isinstance br (aa (pv 1) (aa (pe_ty (by rfl) B.list bF) ac)))) (ad (aQ (dR Et Ev Eu bQ (pv 1) (aa ag ac))) (af (aQ (yL Et PySem.F.slot_list_reverse PySem.F.type_list_reverse oA (pv 1))))) ay))),?_⟩;refine ⟨_,rfl,lc,rfl,⟨_,SqL.of e⟩,?_⟩;refine gG (K:=K) (xs:=us) (fun i σ H'=>(∃ v:Option V,σ=[some (.ref lc),v])/\ButL us H H'/\∀ u∈us,KdV (100+2*i) H' u) ⟨⟨_,rfl⟩,fun _ _ h _=>h,hk⟩ ?_ ?_ ?_
  ·rintro i σ H1 hi ⟨_,b1,_⟩;exact SqL.of (b1 _ _ e fun z=>absurd z hn)
  ·rintro i u σ H1 hu ⟨⟨v,rfl⟩,b1,k1⟩;have hm:=EV hu;have hi:=(D7.mp hu).1;have skip:(∃ v:Option V,[some (V.ref lc),some u]=[some (.ref lc),v])/\ButL us H H1/\∀ u∈us,KdV (100+2*(i+1)) H1 u:=⟨⟨_,rfl⟩,b1,fun u hu=>(k1 u hu).mono zo⟩;have k0:=k1 u hm;cases k0 with
   | non=>exact ⟨_,rfl,_,_,_,rfl,.non,kit_lst .non,_,rfl,aZ skip⟩
   | bl b=>exact ⟨_,rfl,_,_,_,rfl,.bl b,kit_lst (.bl b),_,rfl,aZ skip⟩
   | int j=>exact ⟨_,rfl,_,_,_,rfl,.int j,kit_lst (.int j),_,rfl,aZ skip⟩
   | str z=>exact ⟨_,rfl,_,_,_,rfl,.str z,kit_lst (.str z),_,rfl,aZ skip⟩
   | tup h=>exact ⟨_,rfl,_,_,_,rfl,.tup h,kit_lst (.tup []),_,rfl,aZ skip⟩
   | dct h=>exact ⟨_,rfl,_,_,_,rfl,.dK h,kit_lst .dct,_,rfl,aZ skip⟩
   | @lst a xs h hx=>
    refine ⟨_,rfl,_,_,_,rfl,.lst h,kit_lst (.lst []),_,rfl,bC ?_⟩;refine ⟨_,rfl,.inl ⟨rfl,_,SqL.of h⟩,a,xs,_,rfl,rfl,h,zo,?_⟩;have l1:(xs++[V.int 9]).length<=100+2*i+1:=by rw [D9];show _+1<=_;lia
    have e1:(upd H1 a (.lst (xs++[V.int 9]))) a=some (.lst (xs++[V.int 9])):=ae;refine ⟨_,rfl,.inl ⟨rfl,_,SqL.of e1⟩,a,_,rfl,rfl,e1,⟨_,rfl⟩,fun b o hb hnb=>?_,fun u hu=>((k1 u hu).put h l1).put e1 (by rw [List.length_reverse];lia)⟩;have:b≠a:=fun z=>hnb (z ▸ hm) xs (by have:=b1 _ _ hb hnb;rw [z,h] at this;exact (Ey this).symm);rw [aj this,aj this];exact b1 _ _ hb hnb
  ·rintro σ H1 ⟨_,b1,_⟩;exact q H1 b1
end L3
namespace L2
open PySem PySem.Spec PyProof.Rows
theorem gf {X:Cx} {K:ZF} (h:X.K=K):cV X (.type "list") (fun xs H Q=>∃ p ys,xs=[.ref p]/\(SqL K H p ys\/SqT K H p ys)/\∀ l,H l=none->Q (.ref l) (upd H l (.lst ys))):=by subst h;exact cu
end L2
namespace L3
open PySem L2
def yn:Th->List Int
 | .lst l=>l.map Th.num
 | _=>[]
theorem cC (t:Th):cF t=(yn t).map V.int:=by
 cases t<;>first|rfl|(show List.map _ _=List.map _ (List.map _ _);rw [Fs];rfl)
def iD (l:List Int):PyData:=.tuple (l.map .int)
def yo (j:Int) (A B C E:List Int):PyData:=.tuple [.str "on",.none,.int j,iD A,iD B,iD C,iD E]
abbrev nP (H:Hp) (u:V) (j:Int) (A B C E:List Int):Prop:=TldV H u (.int j) (A.map V.int) (B.map V.int) (C.map V.int) (E.map V.int) (.str "on") .non
variable {H:Hp} {K:ZF}
theorem jM:∀ l:List Int,DtAll K H (l.map V.int) (l.map .int)
 | []=>.nil
 | x::r=>.cons (.int _) (jM r)
variable {A B C E:List Int} {j:Int} {u:V}
theorem TldV.dt (h:nP H u j A B C E):Dt K H u (yo j A B C E):=by
 obtain ⟨t,tp,tm,tc,tl,rfl,e,e1,e2,e3,e4⟩:=h;exact .tup (SqT.of e) (.cons (.str _) (.cons .non (.cons (.int _) (.cons (.tup (SqT.of e1) (jM _)) (.cons (.tup (SqT.of e2) (jM _)) (.cons (.tup (SqT.of e3) (jM _)) (.cons (.tup (SqT.of e4) (jM _)) .nil)))))))
variable {ps ms cs ls:List V} {v at_:V}
theorem TldV.same {H H':Hp} {wd ft:V} (h:TldV H v at_ ps ms cs ls wd ft) (s:Same H H'):TldV H' v at_ ps ms cs ls wd ft:=by
 obtain ⟨t,tp,tm,tc,tl,a,e,e1,e2,e3,e4⟩:=h;exact ⟨t,tp,tm,tc,tl,a,s _ _ e,s _ _ e1,s _ _ e2,s _ _ e3,s _ _ e4⟩
theorem kr (l:List Int):(iD l).canLay0=true:=lay_map fun _ _=>rfl
theorem iC (j:Int) (A B C E:List Int):(yo j A B C E).canLay0=true:=by
 have h:(PyData.str "on").canLay0=true:=by decide +kernel
 show ((PyData.str "on").canLay0 && (true && (true && ((iD A).canLay0 && ((iD B).canLay0 && ((iD C).canLay0 && ((iD E).canLay0 && true)))))))=true;rw [h,kr,kr,kr,kr];rfl
theorem nQ (l:List Int):(iD l).depth<=5:=by
 have:PyData.depthAll (l.map .int)<=2:=dep_map (n:=1) fun _ _=>by simp [PyData.depth]
 simp only [iD,PyData.depth];lia
theorem pR (j:Int) (A B C E:List Int):(yo j A B C E).depth<=40:=by
 have a:=nQ A;have b:=nQ B;have c:=nQ C;have e:=nQ E;simp only [yo,PyData.depth,PyData.depthAll];lia
theorem vH (l:List Int):mt (iD l)=true:=pl_map fun _ _=>rfl
theorem qN (j:Int) (A B C E:List Int):mt (yo j A B C E)=true:=by
 show (true && (true && (true && (mt (iD A) && (mt (iD B) && (mt (iD C) && (mt (iD E) && true)))))))=true;rw [vH,vH,vH,vH];rfl
variable {Q:VK}
theorem nR (a:nP H u j A B C E) (b:nP H v j A B C E) (q:Q (.bl false) H):rNeD K u v H Q:=by
 refine ⟨_,_,a.dt,b.dt,iC ..,iC ..,Ew (Nat.min_le_left _ _) (Ew (pR ..) zd),?_⟩;rw [eqv_refl _ (qN ..)];exact q
theorem zT {A B C E A' B' C' E':List Int} (a:nP H u j A B C E) (b:nP H v j A' B' C' E') (h:A≠A') (q:Q (.bl false) H):rEqD K u v H Q:=by
 refine ⟨_,_,a.dt,b.dt,iC ..,iC ..,Ew (Nat.min_le_left _ _) (Ew (pR ..) zd),?_⟩;have:PyData.eqv (yo j A B C E) (yo j A' B' C' E')=false:=Ez.mpr fun z=>h (by
  have:=eqv_pl _ _ (qN ..) (qN ..) z;unfold yo iD at this;simp only [PyData.tuple.injEq,List.cons.injEq] at this;have:=this.2.2.2.1;exact List.map_inj_right (fun _ _ h=>PyData.int.inj h) |>.mp this)
 rw [this];exact q
inductive HdA (K:ZF) (q:Addr) (H H':Hp):List V->List V->List Th->Prop
 | nil:HdA K q H H' [] [] []
 | cons {v w:V} {t:Th} {vs ws:List V} {ts:List Th}:TgV q H' w t->EqI K H' v w->(t.isLst=false/\v=w\/∃ a,w=.ref a/\H a=none)->HdA K q H H' vs ws ts->HdA K q H H' (v::vs) (w::ws) (t::ts)
variable {x y:V}
theorem nV {H H':Hp} (h:EqI K H x y) (s:Same H H'):EqI K H' x y:=by
 cases h with
 | one h=>exact .one h
 | lst a b c=>exact .lst (s.seq a) (s.seq b) c
theorem fA (h:EqI K H x y):EqI K H y x:=by
 cases h with
 | one h=>exact .one h
 | lst a b c=>exact .lst b a c
variable {q:Addr}
theorem HdA.same {H H' H2:Hp} (s:Same H' H2):∀ {vs ws:List V} {ts:List Th},HdA K q H H' vs ws ts->HdA K q H H2 vs ws ts
 | _,_,_,.nil=>.nil
 | _,_,_,.cons a b c d=>.cons (a.same s) (nV b s) c (d.same s)
variable {t:Th} {w:V}
theorem HdA.snoc {H H':Hp} (a:TgV q H' w t) (b:EqI K H' v w) (c:t.isLst=false/\v=w\/∃ a,w=.ref a/\H a=none):∀ {vs ws:List V} {ts:List Th},HdA K q H H' vs ws ts->HdA K q H H' (vs++[v]) (ws++[w]) (ts++[t])
 | _,_,_,.nil=>.cons a b c .nil
 | _,_,_,.cons x y z r=>.cons x y z (r.snoc a b c)
theorem HdA.length {H H':Hp}:∀ {vs ws:List V} {ts:List Th},HdA K q H H' vs ws ts->ws.length=vs.length
 | _,_,_,.nil=>rfl
 | _,_,_,.cons _ _ _ d=>by simp [d.length]
variable {ts:List Th}
theorem HdA.un {H H':Hp} {vs ws:List V} (h:HdA K q H H' (v::vs) ws (t::ts)):∃ w r,ws=w::r/\TgV q H' w t/\EqI K H' v w/\(t.isLst=false/\v=w\/∃ a,w=.ref a/\H a=none)/\HdA K q H H' vs r ts:=by
 cases h with
 | cons a b c d=>exact ⟨_,_,rfl,a,b,c,d⟩
variable {ws:List V}
theorem HdA.un0 {H H':Hp} (h:HdA K q H H' [] ws ts):ws=[]:=by cases h;rfl
theorem TgV.idn (h:TgV q H v t):Idn v:=by
 cases h<;>first|exact .inl rfl|exact .inr ⟨_,rfl⟩
theorem TgA.idn:∀ {vs:List V} {ts:List Th},TgA q H vs ts->∀ z∈vs,Idn z
 | _,_,.cons a t,z,h=>(Eo.mp h).elim (fun e=>e ▸ a.idn) (t.idn z)
variable {a:Addr}
theorem TgV.got (h:TgV q H (.ref a) t):H a≠none:=fun z=>by
 cases h with
 | tup e _=>rw [z] at e;cases e
 | lst _ e _=>rw [z] at e;cases e
 | dct _ e=>rw [z] at e;cases e
theorem HdA.mem {H H':Hp}:∀ {vs ws:List V} {ts:List Th},HdA K q H H' vs ws ts->∀ z∈ws,∃ t,TgV q H' z t/\(t.isLst=false\/∃ a,z=.ref a/\H a=none)/\t∈ts
 | _,_,_,.cons a _ c d,z,h=>by
  rcases Eo.mp h with rfl|h
  ·exact ⟨_,a,c.imp And.left id,Eb⟩
  ·obtain ⟨t,x,y,w⟩:=d.mem z h;exact ⟨t,x,y,Ef _ w⟩
theorem HdA.keep {H H' H3 H4:Hp} {vs ws:List V} (h:HdA K q H H' vs ws ts) (s1:Same H H') (s:Same H' H3) (b:ButL ws H3 H4):Same H H4:=fun a o e=>b a o (s _ _ (s1 _ _ e)) fun hm xs z=>by
 subst z;obtain ⟨t,tv,ht|⟨c,ec,hc⟩,_⟩:=h.mem _ hm
 ·have e':=s1 _ _ e;cases tv with
  | tup e2 _=>rw [e'] at e2;cases e2
  | lst _ _ _=>cases ht
  | dct _ e2=>rw [e'] at e2;cases e2
 ·cases ec;rw [hc] at e;cases e
variable {o:HO}
theorem HdA.off {H H' H3 H4:Hp} {vs ws:List V} (h:HdA K q H H' vs ws ts) (b:ButL ws H3 H4) (n:H' a=none) (e:H3 a=some o):H4 a=some o:=b a o e fun hm _ _=>by
 obtain ⟨t,tv,_⟩:=h.mem _ hm;exact tv.got n
theorem qO {Rl:V->V->Prop}:∀ {L L':List (Bool×V)},Paired (fun e e':Bool×V=>e.1=e'.1/\Rl e.2 e'.2) L L'->(∀ z,bW L=some z->∃ z',bW L'=some z'/\Rl z z')/\(bW L=none->bW L'=none)
 | _,_,.nil=>⟨fun z h=>(by cases h),fun h=>h⟩
 | (true,v)::r,(true,v')::r',.cons h t=>qO (L:=r) (L':=r') t
 | (false,v)::r,(false,v')::r',.cons h t=>⟨fun z h2=>(by cases h2;exact ⟨v',rfl,h.2⟩),fun h2=>(by cases h2)⟩
 | (true,v)::r,(false,v')::r',.cons h t=>by cases h.1
 | (false,v)::r,(true,v')::r',.cons h t=>by cases h.1
abbrev gZ:Stmt:=ci 126
inductive md (C:Addr) (vs:List V) (H:Hp) (Q:VK) (Z3:XK):Prop
 | mk (q lt:Addr) (o:HO) (v sv:V) (D:Fm) (x:V5) (y:T5):vs=[v,.ref lt,sv]->H q=some o->TabV C H v D->sk D->TsV q H lt x y->Db y->SzV H sv D->(∀ H',Same H H'->Q (.bl true) H')->md C vs H Q Z3
def T5.l (y:T5):List Th:=[y.t0,y.t1,y.t2,y.t3,y.t4]
structure Cc (K:ZF) (C:Addr):Prop where
 t1:PySem.W.findIn K (.ref C) "__class__"=some (some (.builtin "object.__class__"))
 t2:PySem.W.specialIn K (.builtin "object.__class__") "__get__"=some (some (.builtin "getset_descriptor.__get__"))
 t3:PySem.W.takesIn K (.builtin "object.__class__")=some true
 t4:PySem.W.mroIn K C (.type "object")=some true
variable {c:Addr}
theorem vI:PySem.W.kitOne K (.ref c) (.ref c)=some true:=by
 unfold PySem.W.kitOne;rw [if_pos (by simp)]
theorem BY {α:Type} {x y z:α} {r:List α}:j8 (x::y::z::r) 2=some z:=bq (j:=2) (xs:=x::y::z::r) rfl
theorem BZ {α:Type} {x y z u:α} {r:List α}:j8 (x::y::z::u::r) 3=some u:=bq (j:=3) (xs:=x::y::z::u::r) rfl
theorem DT {α:Type} {x0 x1 x2 x3 x4 x5 x6:α} {r:List α}:j8 (x0::x1::x2::x3::x4::x5::x6::r) 6=some x6:=bq (j:=6) (xs:=x0::x1::x2::x3::x4::x5::x6::r) rfl
theorem nW {α:Type} {x y:α} {r:List α}:j8 (x::y::r) 1=some y:=bq (j:=1) (xs:=x::y::r) rfl
def B0 (b:Bool) (l:List Int):List V:=if b then l.map V.int++[.int 1] else l.map V.int
theorem B5 (l:List Int):l.map V.int++[V.int 1]=(l++[1]).map V.int:=by rw [Ek];rfl
def Dc (p m c l:Addr) (H H':Hp):Prop:=∀ b o,H b=some o->b≠p->b≠m->b≠c->b≠l->H' b=some o
theorem TsV.tga {lt:Addr} {x:V5} {y:T5} (h:TsV q H lt x y):TgA q H x.l y.l:=.cons h.g0 (.cons h.g1 (.cons h.g2 (.cons h.g3 (.cons h.g4 .nil))))
def DV (H:Hp) (r:Addr) (D:Fm) (x:V5) (y:T5):Prop:=(∃ z,bW (gY D x y)=some z/\H r=some (.tup [.str "state",z]))\/∃ u,bW (gY D x y)=none/\xA H u D x y/\H r=some (.tup [.str "good",u])
theorem zU (h:EqI K H w v):EqI K H (vD t w) (vD t v):=by
 cases t<;>first|exact h|exact .one (.inl rfl)
structure Gd (K:ZF) (Cs q r e dx p m c l:Addr) (u:V) (j:Int) (A B C E:List Int) (x:V5) (y:T5) (ws:List V) (H1 H2 H':Hp):Prop where
 hd:HdA K q H1 H2 x.l ws y.l
 s1:Same H1 H2
 s2:Same H2 H'
 tl:nP H1 u j A B C E
 er:H1 r=some (.tup [.str "good",u])
 st:StO Cs H' e dx p m c l (.int j) (A.map V.int) (B.map V.int) (C.map V.int) (E.map V.int) (.str "on") .non
 n1:H2 e=none
 n2:H2 p=none
 n3:H2 m=none
 n4:H2 c=none
 n5:H2 l=none
 la:A.length<=100
 lb:B.length<=100
 lc:C.length<=100
 le:E.length<=100
theorem hG {n:Nat} (h:szT t<=100) (hn:n<=100):(yn (jR n t)).length<=100:=by
 cases t<;>first|(show (List.map _ _).length<=100;rw [D8];first|exact h|(rw [Ex];exact hn))|exact Ep _
inductive Dd (K:ZF) (Cs q lt:Addr) (H:Hp) (v sv:V) (x:V5) (y:T5) (σ:St) (H':Hp):Prop
 | bad (r lh rf:Addr) (z z':V) (t:Th):σ=[some v,some (.ref lt),some sv,some (.ref r),some (.ref lh),some (.ref rf),none,none,none,none]->Same H H'->H' r=some (.tup [.str "state",z])->H' rf=some (.tup [.str "state",z'])->TgV q H' z t->TgV q H' z' t->EqI K H' z' z->Dd K Cs q lt H v sv x y σ H'
 | good (r lh e dx p m c l:Addr) (u:V) (j:Int) (A B C E:List Int) (ws:List V) (H1 H2:Hp):σ=[some v,some (.ref lt),some sv,some (.ref r),some (.ref lh),some (.ref e),none,none,none,none]->Same H H1->Gd K Cs q r e dx p m c l u j A B C E x y ws H1 H2 H'->H2 lh=some (.lst ws)->V.ref lh∉ws->Dd K Cs q lt H v sv x y σ H'
theorem nX {hi:Int} (h:TgV q H v t) (w:wn 0 hi t=true):∃ j,v=.int j/\t=.int j:=by
 cases h with
 | int j=>exact ⟨j,rfl,rfl⟩
 | _=>cases w
inductive CpV (H:Hp) (H':Hp) (v:V) (w:V):Prop
 | mk (a b:Addr) (xs:List V):v=.ref a->w=.ref b->H' a=some (.tup xs)->H' b=some (.lst xs)->H b=none->CpV H H' v w
theorem CpV.same {H H' H2:Hp} (h:CpV H H' v w) (s:Same H' H2):CpV H H2 v w:=let ⟨a,b,xs,h1,h2,h3,h4,h5⟩:=h;⟨a,b,xs,h1,h2,s _ _ h3,s _ _ h4,h5⟩
theorem qP {α β:Type} {R:α->β->Prop} {v:α} {vs:List α} {ws:List β} (h:Paired R (v::vs) ws):∃ w r,ws=w::r/\R v w/\Paired R vs r:=by
 cases h with
 | cons a b=>exact ⟨_,_,rfl,a,b⟩
theorem qQ {α β:Type} {R:α->β->Prop} {v:α} {w:β} (h:R v w):∀ {vs:List α} {ws:List β},Paired R vs ws->Paired R (vs++[v]) (ws++[w])
 | _,_,.nil=>.cons h .nil
 | _,_,.cons a b=>.cons a (qQ h b)
theorem vJ {α β:Type} {R:α->β->Prop}:∀ {vs:List α} {ws:List β},Paired R vs ws->∀ w∈ws,∃ v∈vs,R v w
 | _,_,.cons a b,w,h=>by
  rcases Eo.mp h with rfl|h
  ·exact ⟨_,Eb,a⟩
  ·obtain ⟨v,hv,r⟩:=vJ b w h;exact ⟨v,Ef _ hv,r⟩
def yp (j:Int) (A E:List Int):PyData:=.list [.int j,.list (A.map .int),.list (E.map .int)]
theorem vK (j:Int) (A E:List Int):(yp j A E).canLay0=true:=by
 have h:∀ l:List Int,PyData.canLayAll0 (l.map .int)=true:=fun l=>lay_map fun _ _=>rfl;show (true && (PyData.canLayAll0 (A.map .int) && (PyData.canLayAll0 (E.map .int) && true)))=true;rw [h,h];rfl
theorem zV (j:Int) (A E:List Int):(yp j A E).depth<=60:=by
 have h:∀ l:List Int,PyData.depthAll (l.map .int)<=2:=fun l=>dep_map (n:=1) fun _ _=>by simp [PyData.depth]
 have a:=h A;have b:=h E;simp only [yp,PyData.depth,PyData.depthAll];lia
theorem BG (j:Int) (A E:List Int):PyData.eqv (yp j A E) (yp j A E)=true:=by
 have h:∀ l:List Int,PyData.eqvAll (l.map .int) (l.map .int)=true:=fun l=>eqvs_refl _ (pl_map fun _ _=>rfl);simp only [yp,PyData.eqv,PyData.eqvAll,h];simp
theorem ButL.four {b1 b2 b3 b4 a:Addr} {H H':Hp} (h:ButL [.ref b1,.ref b2,.ref b3,.ref b4] H H') (e:H a=some o) (n1:a≠b1) (n2:a≠b2) (n3:a≠b3) (n4:a≠b4):H' a=some o:=h a o e fun hm=>by
 simp only [Eo,EE,or_false,V.ref.injEq] at hm;rcases hm with z|z|z|z
 ·exact absurd z n1
 ·exact absurd z n2
 ·exact absurd z n3
 ·exact absurd z n4
theorem cb {a b:Addr} (h:H a=none) (e:H b=some o):a≠b:=fun z=>by rw [<-z,h] at e;cases e
theorem StO.sp {C:Addr} {x dx p m c l:Addr} {wd ft:V} (h:StO C H x dx p m c l at_ ps ms cs ls wd ft) (us:List V):StO C (upd H p (.lst us)) x dx p m c l at_ us ms cs ls wd ft:=⟨by rw [aj (fun z=>by have:=h.ex;rw [z,h.ep] at this;cases this)];exact h.ex,ae,by rw [aj (h.pm.symm)];exact h.em,by rw [aj (h.pc.symm)];exact h.ec,by rw [aj (h.pl.symm)];exact h.el,h.pm,h.pc,h.pl,h.mc,h.ml,h.cl⟩
theorem StO.sm {C:Addr} {x dx p m c l:Addr} {wd ft:V} (h:StO C H x dx p m c l at_ ps ms cs ls wd ft) (us:List V):StO C (upd H m (.lst us)) x dx p m c l at_ ps us cs ls wd ft:=⟨by rw [aj (fun z=>by have:=h.ex;rw [z,h.em] at this;cases this)];exact h.ex,by rw [aj (h.pm)];exact h.ep,ae,by rw [aj (h.mc.symm)];exact h.ec,by rw [aj (h.ml.symm)];exact h.el,h.pm,h.pc,h.pl,h.mc,h.ml,h.cl⟩
theorem StO.sc {C:Addr} {x dx p m c l:Addr} {wd ft:V} (h:StO C H x dx p m c l at_ ps ms cs ls wd ft) (us:List V):StO C (upd H c (.lst us)) x dx p m c l at_ ps ms us ls wd ft:=⟨by rw [aj (fun z=>by have:=h.ex;rw [z,h.ec] at this;cases this)];exact h.ex,by rw [aj (h.pc)];exact h.ep,by rw [aj (h.mc)];exact h.em,ae,by rw [aj (h.cl.symm)];exact h.el,h.pm,h.pc,h.pl,h.mc,h.ml,h.cl⟩
theorem StO.sl {C:Addr} {x dx p m c l:Addr} {wd ft:V} (h:StO C H x dx p m c l at_ ps ms cs ls wd ft) (us:List V):StO C (upd H l (.lst us)) x dx p m c l at_ ps ms cs us wd ft:=⟨by rw [aj (fun z=>by have:=h.ex;rw [z,h.el] at this;cases this)];exact h.ex,by rw [aj (h.pl)];exact h.ep,by rw [aj (h.ml)];exact h.em,by rw [aj (h.cl)];exact h.ec,ae,h.pm,h.pc,h.pl,h.mc,h.ml,h.cl⟩
section
variable {P:Program} {w:World} {K:ZF} {mg:Str->Option Value} {base:Heap} {C Cs:Addr}
theorem scRi:ak ["_law_table","_law_things","_law_sizes","_law_due_here","_law_handed","_law_found","_law_lists","_law_own","_law_other","_law_row"] ["_law_table","_law_things","_law_sizes"] (ai gZ):=ck zk
theorem BH:(["_law_thing"]:List Str).Nodup:=by decide +kernel
theorem BI:(["_law_row"]:List Str).Nodup:=by decide +kernel
theorem vL {f fi:Addr} {fd fdi:FuncData} (F:Fun K "_law_right" "_law_right" gZ f fd) (B:Bl mg) (TC:Cc K Cs) (TS:Sc K Cs) (MK:Mk K Cs fi) (mgS:mg "State"=some (.ref Cs)) (IN:FnOk P w K mg base bM 1 fi fdi ["self","at","places","marks","cells","pile"] (spSI Cs)) (bI:Binds K fdi ["self","at","places","marks","cells","pile"] []) (TO:bT P w K mg base Cs "told" 1 ["self"] (spTold Cs)) (CO:bT P w K mg base Cs "copied" 3 ["self"] (spCopied Cs))
  (DU:Fn P w K mg base "_law_due" 2 ["_law_things","_law_sizes"] qM) (MD:Fn P w K mg base "_law_made" 6 ["_law_table","_law_things"] (pQ C Cs)) (CH:Fn P w K mg base "_law_changed" 1 ["_law_things"] vG):FnOk P w K mg base bM 7 f fd ["_law_table","_law_things","_law_sizes"] (md C):=by
 have ZZ:=scRi
 walk_at "o"
 ·obtain ⟨q,lt,o,v,sv,D,x,y,rfl,hq,hT,hk,ht,hz,hS,qq⟩:=h;have sz:(1000:Nat)<=sizeLine:=by decide
  obtain ⟨f1,fd1,M1,F1,B1⟩:=TO;obtain ⟨f2,fd2,M2,F2,B2⟩:=CO;refine ⟨_,bJ (fun σ H'=>∃ r:Addr,σ=[some v,some (.ref lt),some sv,some (.ref r),none,none,none,none,none,none]/\Same H H'/\DV H' r D x y) (aA (i:=3) scRi.nd rfl (Or.inl rfl) (aI DU hr.m rfl (aa (pv 1) (aa (pv 2) ac)))) (ad (jf (i:=4) scRi.nd rfl rfl (N':=["_law_thing"]) (ix:=[none]) (sc0:=ai gZ) (N:=["_law_table","_law_things","_law_sizes","_law_due_here","_law_handed","_law_found","_law_lists","_law_own","_law_other","_law_row"]) rfl zk (ed (pv 1)) (fun _ _ _ _ _=>(aw (i:=0) BH rfl (Or.inl rfl) (.inr rfl))) (fun _ _ _ _ _=>cX) (fun _ _ _ _ _=>(cZ (bj (ar (lQ (K:=K) (T:="list") rfl) (by rfl) B.isinstance br (aa (pv 0) (aa (pe_ty (by rfl) B.list bF) ac)))) (aN (gf (K:=K) rfl) (by rfl) B.list bF (aa (pv 0) ac)) (pv 0)))) (bJ (Dd K Cs q lt H v sv x y) (aA (i:=5) scRi.nd rfl (Or.inl rfl) (aI MD hr rfl (aa (pv 0) (aa (pv 4) ac)))) (ad (aR (PW.pt (cH (am bY (aG bh (pv 3) ag) aC) (cG (bx (bj (ar xm (by rfl) B.isinstance br (aa (pv 5) (aa (bD (v:=.ref Cs) rfl mgS rfl) ac)))))))) (af (ao (dZ (cf (xn hr) (pv 5) (pv 3)) (di (cf bY (ar (cw (T:="bool")) (by rfl) B.isinstance br (aa (aG bh (pv 5) ag) (aa (pe_ty (by rfl) B.bool cJ) ac))) (ar (cw (T:="bool")) (by rfl) B.isinstance br (aa (aG bh (pv 3) ag) (aa (pe_ty (by rfl) B.bool cJ) ac)))))))) ay) (ad (aQ (aI CH hr.m rfl (aa (pv 4) ac))) (ad (jf (i:=6) scRi.nd rfl rfl (N':=["_law_row"]) (ix:=[none]) (sc0:=ai gZ) (N:=["_law_table","_law_things","_law_sizes","_law_due_here","_law_handed","_law_found","_law_lists","_law_own","_law_other","_law_row"]) rfl zk (gh (cI sW (aG bh (pv 3) ag) (cE ag) dH)) (fun _ _ _ _ _=>(aw (i:=0) BI rfl (Or.inl rfl) (.inr rfl))) (fun _ _ _ _ _=>cX) (fun _ _ _ _ _=>(aN (gf (K:=K) rfl) (by rfl) B.list bF (aa (pv 0) ac)))) (ad (aA (i:=7) scRi.nd rfl (Or.inl rfl) (dG MK IN hr.m rfl mgS bI .nil cm (aa (aG bh (aG bh (pv 3) ag) ag) (aa (aG aM (pv 6) ag) (aa (aG aM (pv 6) ag) (aa (aG aM (pv 6) ag) (aa (aG aM (pv 6) ag) ac))))))) (ad (aQ (aI CH hr.m rfl (aa (pv 6) ac))) (ad (aA (i:=8) scRi.nd rfl (Or.inl rfl) (aP (pv 5))) (ad (aR (am (op_neD hr) (aW (aa (ax (pv 5) rfl) (aa (ax (pv 5) rfl) ac))) (aW (aa aC (aa bN ac)))) (af (ao cj)) ay) (ad (aR (PW.pt (cH (am (op_neD hr) (aP (pv 5)) (aG bh (pv 3) ag)) (cH (am (op_neD hr) (aP (pv 8)) (aG bh (pv 3) ag)) (cG (am (op_neD hr) (aP (pv 7)) (aG bh (pv 3) ag)))))) (af (ao cj)) ay) (ad (cQ PassesOwn.never rfl (ed (aT (aa (ax (pv 8) rfl) (aa (ax (pv 8) rfl) (aa (ax (pv 8) rfl) (aa (ax (pv 8) rfl) ac)))))) (aw (i:=9) scRi.nd rfl (Or.inl rfl)) (af (aQ (dR Et Ev Eu bQ (pv 9) (aa ag ac))))) (ad (aR (PW.pt (cH (am (op_neD hr) (aP (pv 5)) (aG bh (pv 3) ag)) (cH (am (op_neD hr) (aP (aP (pv 8))) (aP (pv 8))) (cG (am (op_eqD hr) (aP (pv 8)) (aG bh (pv 3) ag)))))) (af (ao cj)) ay) (af (ao (cf (op_eqD hr) (aT (aa (ax (pv 5) rfl) (aa (ax (pv 5) rfl) (aa (ax (pv 5) rfl) ac)))) (aT (aa (aG bh (aG bh (pv 3) ag) ag) (aa (aN cu (by rfl) B.list bF (aa (aG bh (aG bh (pv 3) ag) ag) ac)) (aa (aN cu (by rfl) B.list bF (aa (aG bh (aG bh (pv 3) ag) ag) ac)) ac))))))))))))))))))),?_⟩;refine ⟨?_,?_⟩;rotate_left
  ·exact ⟨_,rfl,_,rfl,q,lt,sv,D,x,y,rfl,ht,hz,hS,hk,fun z r H1 hf s1 e1=>⟨r,rfl,s1,.inl ⟨z,hf,e1⟩⟩,fun u r H1 hf s1 hu e1=>⟨r,rfl,s1,.inr ⟨u,hf,hu,e1⟩⟩⟩
  rintro σ H1 ⟨r,rfl,s1,hd⟩;have ht1:=ht.same s1;refine ⟨_,rfl,lt,rfl,⟨_,SqL.of ht1.e⟩,?_⟩;refine kO (K:=K) (a:=lt) (xs:=x.l) (fun i ys H'=>Same H1 H'/\HdA K q H1 H' (x.l.take i) ys (y.l.take i)) ⟨Same.refl _,.nil⟩ (fun i ys H' hi ⟨s',h'⟩=>⟨SqL.of (s' _ _ ht1.e),by
   have:=h'.length;rw [Em] at this;have:x.l.length=5:=rfl;lia⟩) ?_ ?_
  ·rintro i u ys H2 hu ⟨s2,h2⟩;have hlt:=(D7.mp hu).1;obtain ⟨t,hti,tv⟩:=(ht1.same s2).tga.get hu;have fin:∀ w H3,Same H2 H3->TgV q H3 w t->EqI K H3 u w->(t.isLst=false/\u=w\/∃ a,w=.ref a/\H1 a=none)->Nx (fun i ys H'=>Same H1 H'/\HdA K q H1 H' (x.l.take i) ys (y.l.take i)) x.l.length i (ys++[w]) H3:=fun w H3 s3 a b c=>Nx.mk hlt ⟨s2.trans s3,by
    rw [List.take_add_one,List.take_add_one,hu,hti];exact (h2.same s3).snoc a b c⟩
   refine ⟨trivial,dM ⟨_,rfl,u,_,_,rfl,tv.ty,kit_lst t,_,rfl,?_⟩⟩;by_cases hl:t.isLst=true
   ·rw [hl];cases tv with
    | @lst a xs ts na e ta=>
     refine bC ⟨_,rfl,a,xs,rfl,.inl (SqL.of e),fun l3 n3=>?_⟩;have s3:=ah (o:=.lst xs) n3;exact fin _ _ s3 (.lst (aq (s2 _ _ (s1 _ _ hq)) n3).symm ae (ta.same s3)) (.lst (SqL.of (s3 _ _ e)) (SqL.of ae) ta.idn) (.inr ⟨l3,rfl,none_of s2 n3⟩)
    | _=>cases hl
   ·have hl':=Ez.mpr hl;rw [hl'];exact aZ ⟨_,rfl,fin u H2 (Same.refl _) tv (.one tv.idn) (.inl ⟨hl',rfl⟩)⟩
  rintro ws H2 ⟨s2,h2⟩ lh nh;obtain ⟨H3,ee,s3,e3⟩:=nL (.lst ws) nh;rw [ee];clear ee;have hnl:V.ref lh∉ws:=fun hm=>by
   obtain ⟨t,tv,_⟩:=h2.mem _ hm;exact tv.got nh
  replace h2:HdA K q H1 H3 x.l ws y.l:=h2.same s3
  replace s2:=s2.trans s3
  clear s3 nh;obtain ⟨w0,r0,rfl,a0,b0,_,h20⟩:=h2.un;obtain ⟨w1,r1,rfl,a1,b1,_,h21⟩:=h20.un;obtain ⟨w2,r2,rfl,a2,b2,_,h22⟩:=h21.un;obtain ⟨w3,r3,rfl,a3,b3,_,h23⟩:=h22.un;obtain ⟨w4,r4,rfl,a4,b4,_,h24⟩:=h23.un;obtain rfl:=h24.un0;clear h20 h21 h22 h23 h24;have ht3:=ht1.same s2;have two:=qO (Rl:=fun z z'=>∃ t,TgV q H3 z t/\TgV q H3 z' t/\EqI K H3 z' z) (L:=gY D x y) (L':=gY D ⟨w0,w1,w2,w3,w4⟩ y) (.cons ⟨rfl,_,nO ht3.g0,nO a0,zU (fA b0)⟩ (.cons ⟨rfl,_,ht3.g1,a1,fA b1⟩ (.cons ⟨rfl,_,ht3.g2,a2,fA b2⟩ (.cons ⟨rfl,_,ht3.g3,a3,fA b3⟩ (.cons ⟨rfl,_,ht3.g4,a4,fA b4⟩ .nil)))));have s03:=s1.trans s2;refine ⟨?_,?_⟩;rotate_left
  ·refine ⟨_,rfl,_,rfl,q,lh,o,v,D,⟨w0,w1,w2,w3,w4⟩,y,rfl,s03 _ _ hq,hT.same s03,hk,⟨e3,a0,a1,a2,a3,a4⟩,fun z' rf H4 hf s4 e4=>?_,fun H4 e dx p m c l hf s4 hO n1 n2 n3 n4 n5=>?_⟩
   ·rcases hd with ⟨z,hz',er⟩|⟨u,hz',_,_⟩
    ·obtain ⟨z2,hz2,t,tz,tz',eq⟩:=two.1 z hz';rw [hf] at hz2;cases hz2;exact .bad r lh rf z z' t rfl (s03.trans s4) (s4 _ _ (s2 _ _ er)) e4 (tz.same s4) (tz'.same s4) (nV eq s4)
    ·rw [two.2 hz'] at hf;cases hf
   ·rcases hd with ⟨z,hz',er⟩|⟨u,hz',hu,er⟩
    ·obtain ⟨z2,hz2,_⟩:=two.1 z hz';rw [hf] at hz2;cases hz2
    ·have ha:wn 0 999 (zQ y.t0)=true:=jL hz' (wn 0 999 (zQ y.t0),vD y.t0 x.v0) Eb;obtain ⟨j,ej,et⟩:=nX (nO ht1.g0) ha;obtain ⟨j',ej',et'⟩:=nX (nO a0) ha;rw [et] at et';cases et';unfold xA at hu;rw [ej,cC,cC,cC,cC] at hu;have hO:StO Cs H4 e dx p m c l (vD y.t0 w0) _ _ _ _ _ _:=hO;rw [ej',cC,cC,cC,cC] at hO;exact .good r lh e dx p m c l u j _ _ _ _ _ H1 H3 rfl s1 ⟨h2,s2,s4,hu,er,hO,n1,n2,n3,n4,n5,hG hz.z1 (by have:=hk.p;lia),hG hz.z2 (by have:=hk.m;lia),hG hz.z3 (by have:=hk.c;lia),hG hz.z4 zo⟩ e3 hnl
  clear hnl;clear two h2 ht3 a0 a1 a2 a3 a4 b0 b1 b2 b3 b4 s03 s2 ht1 e3;clear hd s1;intro σ H4 hP;cases hP with
  | bad r lh rf z z' t e s4 er ef tz tz' eq=>
   subst e;refine ⟨_,rfl,r,_,_,_,rfl,rfl,SqT.of er,jx,rfl,_,rfl,bR zk (bC ?_)⟩;refine ⟨_,rfl,_,rfl,rf,r,_,_,rfl,rfl,SqT.of ef,SqT.of er,.cons (.one (.inl rfl)) (.cons eq .nil),_,rfl,bC ?_⟩;refine ⟨_,rfl,rf,_,_,_,rfl,rfl,SqT.of ef,nW,z',_,_,rfl,tz'.ty,kit_bool t,_,rfl,r,_,_,_,rfl,rfl,SqT.of er,nW,z,_,_,rfl,tz.ty,kit_bool t,rfl,?_⟩;rw [decide_eq_true rfl];exact qq _ s4
  | good r lh e dx p m c l u j A B C' E' ws H1 H2 eσ s1 g el hnl=>
   subst eσ;have s02:=s1.trans (g.s1.trans g.s2);refine ⟨_,rfl,r,_,_,_,rfl,rfl,SqT.of (g.s2 _ _ (g.s1 _ _ g.er)),jx,rfl,_,rfl,bE zk ?_⟩;refine ⟨_,rfl,.ref e,.ref Cs,_,_,_,rfl,.ins g.st.ex TS.cl TC.t1 TC.t2 TC.t3 TC.t4,(fun u h=>h),vI,_,rfl,aZ ?_⟩;have lw:=g.hd.length;refine ⟨_,rfl,lh,ws,rfl,g.s2 _ _ el,(by rw [lw];exact Ec 5),fun u hu=>?_,hnl,fun H5 b5=>?_⟩
   ·obtain ⟨t,tv,_,hm⟩:=g.hd.mem u hu;refine (tv.same g.s2).kd ?_;have:∀ t∈y.l,szT t<=100:=by
     intro t ht;unfold T5.l at ht;simp only [Eo,EE,or_false] at ht;rcases ht with rfl|rfl|rfl|rfl|rfl
     ·exact hz.z0
     ·exact hz.z1
     ·exact hz.z2
     ·exact hz.z3
     ·exact hz.z4
    exact this t hm
   have s5:Same H1 H5:=g.hd.keep g.s1 g.s2 b5;have st:StO Cs H5 e dx p m c l (.int j) (A.map V.int) (B.map V.int) (C'.map V.int) (E'.map V.int) (.str "on") .non:=⟨g.hd.off b5 g.n1 g.st.ex,g.hd.off b5 g.n2 g.st.ep,g.hd.off b5 g.n3 g.st.em,g.hd.off b5 g.n4 g.st.ec,g.hd.off b5 g.n5 g.st.el,g.st.pm,g.st.pc,g.st.pl,g.st.mc,g.st.ml,g.st.cl⟩;have tl:=g.tl.same s5;have la:=g.la;have lb:=g.lb;have lc:=g.lc;have le:=g.le;have er:=s5 _ _ g.er
   replace s5:=s1.trans s5
   clear b5 g lw s02 s1 el hnl;obtain ⟨t7,tp,tm,tc,tll,eu,et,e1,e2,e3,e4⟩:=id tl;subst eu;refine ⟨_,rfl,r,_,_,_,rfl,rfl,SqT.of er,nW,_,rfl,t7,_,rfl,SqT.of et,(fun h=>absurd h.1 (by show ¬(3:Nat)=0;decide)),fun t8 n8=>?_⟩;have ec:eY [V.str "on",.non,.int j,.ref tp,.ref tm,.ref tc,.ref tll] (some 3) none=[.ref tp,.ref tm,.ref tc,.ref tll]:=rfl;rw [ec];clear ec;obtain ⟨H6,ee,s6,e8⟩:=nL (.tup [.ref tp,.ref tm,.ref tc,.ref tll]) n8;rw [ee];clear ee;refine ⟨t8,rfl,⟨_,SqT.of e8⟩,?_⟩;have cp:∀ u∈[V.ref tp,.ref tm,.ref tc,.ref tll],∃ a xs,u=.ref a/\H6 a=some (.tup xs):=by
    intro u hu;simp only [Eo,EE,or_false] at hu;rcases hu with rfl|rfl|rfl|rfl
    ·exact ⟨_,_,rfl,s6 _ _ e1⟩
    ·exact ⟨_,_,rfl,s6 _ _ e2⟩
    ·exact ⟨_,_,rfl,s6 _ _ e3⟩
    ·exact ⟨_,_,rfl,s6 _ _ e4⟩
   refine jl (K:=K) (a:=t8) (xs:=[V.ref tp,.ref tm,.ref tc,.ref tll]) (fun i ys H'=>Same H6 H'/\Paired (CpV H6 H') ([V.ref tp,.ref tm,.ref tc,.ref tll].take i) ys) ⟨Same.refl _,.nil⟩ (fun i ys H' hi ⟨s',h'⟩=>⟨SqT.of (s' _ _ e8),by
    have:=h'.length;rw [Em] at this;have:[V.ref tp,.ref tm,.ref tc,.ref tll].length=4:=rfl;lia⟩) ?_ ?_
   ·rintro i u ys H7 hu ⟨s7,h7⟩;have hlt:=(D7.mp hu).1;obtain ⟨a,xs,rfl,ea⟩:=cp u (EV hu);have ea:=s7 _ _ ea;refine ⟨trivial,dM ⟨_,rfl,a,xs,rfl,.inr (SqT.of ea),fun l9 n9=>?_⟩⟩;have s9:=ah (o:=.lst xs) n9;refine Nx.mk hlt ⟨s7.trans s9,?_⟩;rw [List.take_add_one,hu];exact qQ ⟨a,l9,xs,rfl,rfl,s9 _ _ ea,ae,none_of s7 n9⟩ (cO (fun _ _ h=>h.same s9) h7)
   rintro ws H7 ⟨s7,h7⟩ ll nl;obtain ⟨H8,ee,s8,el⟩:=nL (.lst ws) nl;rw [ee];clear ee cp;have hnl:∀ w∈ws,w≠V.ref ll:=fun w hw z=>by
    obtain ⟨v,_,a,b,xs,_,eb,_,hb,_⟩:=vJ h7 w hw;rw [z] at eb;cases eb;rw [nl] at hb;cases hb
   replace h7:Paired (CpV H6 H8) [V.ref tp,.ref tm,.ref tc,.ref tll] ws:=cO (fun _ _ h=>h.same s8) h7
   replace s7:=s7.trans s8
   clear s8 nl;obtain ⟨_,_,rfl,⟨a',b1,x1,ea,rfl,h1,g1,n1⟩,k1⟩:=qP h7;cases ea;obtain ⟨_,_,rfl,⟨a',b2,x2,ea,rfl,h2,g2,n2⟩,k2⟩:=qP k1;cases ea;obtain ⟨_,_,rfl,⟨a',b3,x3,ea,rfl,h3,g3,n3⟩,k3⟩:=qP k2;cases ea;obtain ⟨_,_,rfl,⟨a',b4,x4,ea,rfl,h4,g4,n4⟩,k4⟩:=qP k3;cases ea;cases k4;clear k1 k2 k3 h7;have s57:=s6.trans s7;rw [s57 _ _ e1] at h1;cases h1;rw [s57 _ _ e2] at h2;cases h2;rw [s57 _ _ e3] at h3;cases h3;rw [s57 _ _ e4] at h4;cases h4;have st8:=st.same s57;have tl8:=tl.same s57;have er8:=s57 _ _ er;refine ⟨_,rfl,r,_,_,_,rfl,rfl,SqT.of er8,nW,t7,_,_,_,rfl,rfl,SqT.of (s57 _ _ et),BY,_,rfl,ll,_,_,_,rfl,rfl,SqL.of el,jx,_,rfl,ll,_,_,_,rfl,rfl,SqL.of el,nW,_,rfl,ll,_,_,_,rfl,rfl,SqL.of el,BY,_,rfl,ll,_,_,_,rfl,rfl,SqL.of el,BZ,fun o9 dx9 nx nd ne=>?_⟩;have sx:=aV (o:=.ins Cs dx9 []) nx (ah (o:=.own o9) nd);refine ⟨o9,dx9,b1,b2,b3,b4,.int j,_,_,_,_,rfl,ae,sx _ _ g1,sx _ _ g2,sx _ _ g3,sx _ _ g4,fun H9 p9 m9 c9 l9 st9 np nm nc nl b9=>⟨rfl,?_⟩⟩;have s9:Same H8 H9:=cL nx sx b9
   replace np:=none_of sx np
   replace nm:=none_of sx nm
   replace nc:=none_of sx nc
   replace nl:=none_of sx nl
   clear sx b9 nd ne;refine ⟨_,rfl,ll,_,rfl,s9 _ _ el,(by show 4<=5;decide),?_,?_,fun H10 b10=>?_⟩
   ·intro u hu;simp only [Eo,EE,or_false] at hu;rcases hu with rfl|rfl|rfl|rfl
    ·exact .lst (s9 _ _ g1) (by rw [D8];exact la)
    ·exact .lst (s9 _ _ g2) (by rw [D8];exact lb)
    ·exact .lst (s9 _ _ g3) (by rw [D8];exact lc)
    ·exact .lst (s9 _ _ g4) (by rw [D8];exact le)
   ·exact fun hm=>hnl _ hm rfl
   have s10:Same H6 H10:=fun a o e=>b10.four (s9 _ _ (s7 _ _ e)) (cb n1 e).symm (cb n2 e).symm (cb n3 e).symm (cb n4 e).symm;have off:∀ {a:Addr} {o:HO},H8 a=none->H9 a=some o->H10 a=some o:=fun n e=>b10.four e (cb n g1) (cb n g2) (cb n g3) (cb n g4);have st9:StO Cs H10 o9 dx9 p9 m9 c9 l9 (.int j) (A.map V.int) (B.map V.int) (C'.map V.int) (E'.map V.int) (.str "on") .non:=⟨off nx st9.ex,off np st9.ep,off nm st9.em,off nc st9.ec,off nl st9.el,st9.pm,st9.pc,st9.pl,st9.mc,st9.ml,st9.cl⟩
   replace s10:=s6.trans s10
   replace st:=st.same s10
   replace tl:=tl.same s10
   replace er:=s10 _ _ er
   replace et:=s10 _ _ et
   replace e1:=s10 _ _ e1
   replace e4:=s10 _ _ e4
   replace s5:=s5.trans s10
   clear st8 tl8 er8 off b10 s9 np nm nc nl nx hnl g1 g2 g3 g4 n1 n2 n3 n4 el s57 s7 e8 s6 n8 s10 e2 e3;refine ⟨_,rfl,e,dx,Cs,f2,_,fd2,3,["self"],_,rfl,st.ex,rfl,TS.cl,M2,F2,hr.m,B2,e,dx,p,m,c,l,_,_,_,_,_,_,_,rfl,st,fun H11 o2 dx2 p2 m2 c2 l2 s11 st2 nx np nm nc nl=>?_⟩;have fr:∀ {a:Addr} {o:HO},H10 a=some o->a≠p2/\a≠m2/\a≠c2/\a≠l2:=fun e=>⟨(cb np e).symm,(cb nm e).symm,(cb nc e).symm,(cb nl e).symm⟩;have sA:=s11;have s0:=s5;have stA:=st;have tlA:=tl;have erA:=er;have etA:=et;have e1A:=e1;have e4A:=e4;clear nx np nm nc nl
   replace st:=st.same s11
   replace tl:=tl.same s11
   replace er:=s11 _ _ er
   replace et:=s11 _ _ et
   replace e1:=s11 _ _ e1
   replace e4:=s11 _ _ e4
   replace st9:=st9.same s11
   replace s5:=s5.trans s11
   refine ⟨_,rfl,e,Cs,dx,_,_,rfl,st.ex,TS.cl,TS.n6,rfl,_,rfl,e,Cs,dx,_,_,rfl,st.ex,TS.cl,TS.n7,rfl,zlx,fun ta na=>?_⟩;obtain ⟨H12,ee,s12,e12⟩:=nL (.tup [.str "on",.non]) na;rw [ee];clear ee;refine ⟨zlx,fun tb nb=>?_⟩;obtain ⟨H13,ee,s13,e13⟩:=nL (.tup [.str "on",.non]) nb;rw [ee];clear ee;refine ⟨.tuple [.str "on",.none],.tuple [.str "on",.none],.tup (SqT.of (s13 _ _ e12)) (.cons (.str _) (.cons .non .nil)),.tup (SqT.of e13) (.cons (.str _) (.cons .non .nil)),zk,zk,zk,_,rfl,bE zk ?_⟩;have s113:=s12.trans s13
   replace st:=st.same s113
   replace st9:=st9.same s113
   replace st2:=st2.same s113
   replace tl:=tl.same s113
   replace er:=s113 _ _ er
   replace et:=s113 _ _ et
   replace e1:=s113 _ _ e1
   replace e4:=s113 _ _ e4
   replace s5:=s5.trans s113
   replace sA:=sA.trans s113
   clear s113 s12 s13 e12 e13 na nb;refine ⟨_,rfl,e,dx,Cs,f1,_,fd1,1,["self"],_,rfl,st.ex,rfl,TS.cl,M1,F1,hr.m,B1,e,dx,p,m,c,l,_,_,_,_,_,_,_,rfl,st,fun u1 H14 s14 v1=>?_⟩;refine ⟨_,rfl,r,_,_,_,rfl,rfl,SqT.of (s14 _ _ er),nW,nR v1 (tl.same s14) ⟨_,rfl,aZ ?_⟩⟩;have st2':=st2.same s14;refine ⟨_,rfl,o2,dx2,Cs,f1,_,fd1,1,["self"],_,rfl,st2'.ex,rfl,TS.cl,M1,F1,hr.m,B1,o2,dx2,p2,m2,c2,l2,_,_,_,_,_,_,_,rfl,st2',fun u2 H15 s15 v2=>?_⟩;have s15:=s14.trans s15;refine ⟨_,rfl,r,_,_,_,rfl,rfl,SqT.of (s15 _ _ er),nW,nR v2 (tl.same s15) ⟨_,rfl,aZ ?_⟩⟩;have st9':=st9.same s15;refine ⟨_,rfl,o9,dx9,Cs,f1,_,fd1,1,["self"],_,rfl,st9'.ex,rfl,TS.cl,M1,F1,hr.m,B1,o9,dx9,p9,m9,c9,l9,_,_,_,_,_,_,_,rfl,st9',fun u3 H16 s16 v3=>?_⟩;have s16:=s15.trans s16;refine ⟨_,rfl,r,_,_,_,rfl,rfl,SqT.of (s16 _ _ er),nW,nR v3 (tl.same s16) ⟨_,rfl,aZ ?_⟩⟩;clear v1 v2 v3 st2' st9' s14 s15 st9
   replace st:=st.same s16
   replace st2:=st2.same s16
   replace tl:=tl.same s16
   replace er:=s16 _ _ er
   replace et:=s16 _ _ et
   replace e1:=s16 _ _ e1
   replace e4:=s16 _ _ e4
   replace s5:=s5.trans s16
   replace sA:=sA.trans s16
   refine ⟨_,rfl,o2,Cs,dx2,_,_,rfl,st2.ex,TS.cl,TS.n2,rfl,_,rfl,o2,Cs,dx2,_,_,rfl,st2.ex,TS.cl,TS.n3,rfl,_,rfl,o2,Cs,dx2,_,_,rfl,st2.ex,TS.cl,TS.n4,rfl,_,rfl,o2,Cs,dx2,_,_,rfl,st2.ex,TS.cl,TS.n5,rfl,zlx,fun lr nr=>?_⟩;obtain ⟨H17,ee,s17,e17⟩:=nL (.lst [.ref p2,.ref m2,.ref c2,.ref l2]) nr;rw [ee];clear ee;refine ⟨lr,rfl,⟨_,SqL.of e17⟩,?_⟩;have st17:=st2.same s17;have sB:=sA.trans s17;have nlr:lr≠p2/\lr≠m2/\lr≠c2/\lr≠l2:=⟨cb nr st2.ep,cb nr st2.em,cb nr st2.ec,cb nr st2.el⟩;refine gG (K:=K) (xs:=[.ref p2,.ref m2,.ref c2,.ref l2]) (fun i σ H'=>(∃ v9:Option V,σ=[some v,some (.ref lt),some sv,some (.ref r),some (.ref lh),some (.ref e),some (.ref ll),some (.ref o9),some (.ref o2),v9])/\StO Cs H' o2 dx2 p2 m2 c2 l2 (.int j) (B0 (decide (0 < i)) A) (B0 (decide (1 < i)) B) (B0 (decide (2 < i)) C') (B0 (decide (3 < i)) E') (.str "on") .non/\Dc p2 m2 c2 l2 H17 H') ⟨⟨_,rfl⟩,st17,fun _ _ h _ _ _ _=>h⟩ ?_ ?_ ?_
   ·rintro i σ H18 hi ⟨_,_,b18⟩;exact SqL.of (b18 _ _ e17 nlr.1 nlr.2.1 nlr.2.2.1 nlr.2.2.2)
   ·rintro i u σ H18 hu ⟨⟨v9,rfl⟩,st18,b18⟩;have hlt:i < 4:=(D7.mp hu).1;have ln:∀ l:List Int,l.length<=100->(l.map V.int).length < sizeLine:=fun l h=>by rw [D8];lia
    rcases (by lia:i=0\/i=1\/i=2\/i=3) with rfl|rfl|rfl|rfl
    ·cases hu;exact ⟨_,rfl,.inl ⟨rfl,_,SqL.of st18.ep⟩,p2,_,_,rfl,rfl,st18.ep,ln A la,⟨_,rfl⟩,st18.sp _,fun a o h h1 h2 h3 h4=>by rw [aj h1];exact b18 a o h h1 h2 h3 h4⟩
    ·cases hu;exact ⟨_,rfl,.inl ⟨rfl,_,SqL.of st18.em⟩,m2,_,_,rfl,rfl,st18.em,ln B lb,⟨_,rfl⟩,st18.sm _,fun a o h h1 h2 h3 h4=>by rw [aj h2];exact b18 a o h h1 h2 h3 h4⟩
    ·cases hu;exact ⟨_,rfl,.inl ⟨rfl,_,SqL.of st18.ec⟩,c2,_,_,rfl,rfl,st18.ec,ln C' lc,⟨_,rfl⟩,st18.sc _,fun a o h h1 h2 h3 h4=>by rw [aj h3];exact b18 a o h h1 h2 h3 h4⟩
    ·cases hu;exact ⟨_,rfl,.inl ⟨rfl,_,SqL.of st18.el⟩,l2,_,_,rfl,rfl,st18.el,ln E' le,⟨_,rfl⟩,st18.sl _,fun a o h h1 h2 h3 h4=>by rw [aj h4];exact b18 a o h h1 h2 h3 h4⟩
   rintro σ H18 ⟨⟨v9,rfl⟩,st18,b18⟩;have s18:Same H10 H18:=fun a o h=>let ⟨n1,n2,n3,n4⟩:=fr h;b18 a o (sB _ _ h) n1 n2 n3 n4
   replace st18:StO Cs H18 o2 dx2 p2 m2 c2 l2 (.int j) ((A++[1]).map V.int) ((B++[1]).map V.int) ((C'++[1]).map V.int) ((E'++[1]).map V.int) (.str "on") .non:=by
    rw [<-B5,<-B5,<-B5,<-B5];exact st18
   clear st st2 tl er et e1 e4 s5 sA sB st17 nlr fr s17 e17 nr b18 s16
   replace stA:=stA.same s18
   replace tlA:=tlA.same s18
   replace erA:=s18 _ _ erA
   replace etA:=s18 _ _ etA
   replace e1A:=s18 _ _ e1A
   replace e4A:=s18 _ _ e4A
   replace s0:=s0.trans s18
   refine ⟨_,rfl,e,dx,Cs,f1,_,fd1,1,["self"],_,rfl,stA.ex,rfl,TS.cl,M1,F1,hr.m,B1,e,dx,p,m,c,l,_,_,_,_,_,_,_,rfl,stA,fun u1 H19 s19 v1=>?_⟩;refine ⟨_,rfl,r,_,_,_,rfl,rfl,SqT.of (s19 _ _ erA),nW,nR v1 (tlA.same s19) ⟨_,rfl,aZ ?_⟩⟩;have st19:=st18.same s19;refine ⟨_,rfl,o2,dx2,Cs,f2,_,fd2,3,["self"],_,rfl,st19.ex,rfl,TS.cl,M2,F2,hr.m,B2,o2,dx2,p2,m2,c2,l2,_,_,_,_,_,_,_,rfl,st19,fun H20 o3 dx3 p3 m3 c3 l3 s20 st3 _ _ _ _ _=>?_⟩;refine ⟨o3,dx3,Cs,f1,_,fd1,1,["self"],_,rfl,st3.ex,rfl,TS.cl,M1,F1,hr.m,B1,o3,dx3,p3,m3,c3,l3,_,_,_,_,_,_,_,rfl,st3,fun u3 H21 s21 v3=>?_⟩;have st21:=(st19.same s20).same s21;refine ⟨_,rfl,o2,dx2,Cs,f1,_,fd1,1,["self"],_,rfl,st21.ex,rfl,TS.cl,M1,F1,hr.m,B1,o2,dx2,p2,m2,c2,l2,_,_,_,_,_,_,_,rfl,st21,fun u2 H22 s22 v2=>?_⟩;refine nR (v3.same s22) v2 ⟨_,rfl,aZ ?_⟩;have st22:=st21.same s22;refine ⟨_,rfl,o2,dx2,Cs,f1,_,fd1,1,["self"],_,rfl,st22.ex,rfl,TS.cl,M1,F1,hr.m,B1,o2,dx2,p2,m2,c2,l2,_,_,_,_,_,_,_,rfl,st22,fun u4 H23 s23 v4=>?_⟩;have s23:=s19.trans (s20.trans (s21.trans (s22.trans s23)))
   replace stA:=stA.same s23
   replace tlA:=tlA.same s23
   replace erA:=s23 _ _ erA
   replace etA:=s23 _ _ etA
   replace e1A:=s23 _ _ e1A
   replace e4A:=s23 _ _ e4A
   replace s0:=s0.trans s23
   have nA:A++[1]≠A:=fun z=>by
    have:=congrArg List.length z;rw [D9] at this;have e1:([1]:List Int).length=1:=rfl;lia
   refine ⟨_,rfl,r,_,_,_,rfl,rfl,SqT.of erA,nW,zT v4 tlA nA ⟨_,rfl,aZ ?_⟩⟩;clear v1 v2 v3 v4 st3 st18 st19 st21 st22;refine ⟨_,rfl,e,Cs,dx,_,_,rfl,stA.ex,TS.cl,TS.n1,rfl,_,rfl,e,Cs,dx,_,_,rfl,stA.ex,TS.cl,TS.n2,rfl,_,rfl,e,Cs,dx,_,_,rfl,stA.ex,TS.cl,TS.n5,rfl,zlx,fun lx nx=>?_⟩;obtain ⟨H24,ee,s24,e24⟩:=nL (.lst [.int j,.ref p,.ref l]) nx;rw [ee];clear ee;refine ⟨_,rfl,r,_,_,_,rfl,rfl,SqT.of (s24 _ _ erA),nW,t7,_,_,_,rfl,rfl,SqT.of (s24 _ _ etA),BY,_,rfl,r,_,_,_,rfl,rfl,SqT.of (s24 _ _ erA),nW,t7,_,_,_,rfl,rfl,SqT.of (s24 _ _ etA),BZ,tp,_,rfl,.inr (SqT.of (s24 _ _ e1A)),fun l5 n5=>?_⟩;obtain ⟨H25,ee,s25,e25⟩:=nL (.lst (A.map V.int)) n5;rw [ee];clear ee;have s25':=s24.trans s25;refine ⟨_,rfl,r,_,_,_,rfl,rfl,SqT.of (s25' _ _ erA),nW,t7,_,_,_,rfl,rfl,SqT.of (s25' _ _ etA),DT,tll,_,rfl,.inr (SqT.of (s25' _ _ e4A)),fun l6 n6=>?_⟩;obtain ⟨H26,ee,s26,e26⟩:=nL (.lst (E'.map V.int)) n6;rw [ee];clear ee;have s26':=s25'.trans s26;refine ⟨zlx,fun l7 n7=>?_⟩;obtain ⟨H27,ee,s27,e27⟩:=nL (.lst [.int j,.ref l5,.ref l6]) n7;rw [ee];clear ee;have s27':=s26'.trans s27;have s2:=s25.trans (s26.trans s27);have s3:=s26.trans s27;refine ⟨yp j A E',yp j A E',.lst (SqL.of (s2 _ _ e24)) (.cons (.int _) (.cons (.lst (SqL.of (s27' _ _ stA.ep)) (jM _)) (.cons (.lst (SqL.of (s27' _ _ stA.el)) (jM _)) .nil))),.lst (SqL.of e27) (.cons (.int _) (.cons (.lst (SqL.of (s3 _ _ e25)) (jM _)) (.cons (.lst (SqL.of (s27 _ _ e26)) (jM _)) .nil))),vK ..,vK ..,Ew (Nat.min_le_left _ _) (zV ..),?_⟩;rw [BG];exact qq _ (s0.trans s27')
end
end L3
namespace L2
open PySem PySem.Spec PyProof.Rows
theorem pV {X:Cx} {K:ZF} {o e:Expr} {es:List Expr} {to:TE} {t:TA} {name:Str} {apos cpos:Pos} {T id:String} {r:V->List V->Hp->VK->Prop} (h:X.K=K) (pa:PlainAttrs T) (slot:Slot T name id) (hty:typeOf (.builtin id)=pure (.type "method_descriptor")) (hm:Ai X id r) (ho:PE X o to) (ha:PA X (e::es) t)
  (hbase:attributeBase o name X.env (eval o X.env)=eval o X.env:=by rfl)
  (hfew:((backTo cpos (starEach (e::es) X.env)).all (fun x=>!x.1) && (backToKw cpos (keywordEach [] X.env)).all (fun x=>x.1.isSome)
   && decide ((e::es).length+([]:List Keyword).length+(if ([]:List Keyword).isEmpty then 0 else 1) < 30))=true:=by rfl)
  (hline:(apos.endLine == cpos.line)=true:=by rfl) (hs:starEach (e::es) X.env=(false,eval e X.env)::starEach es X.env:=by rfl) (hplain:(backTo cpos (starEach es X.env)).any (·.1)=false:=by rfl) :
  PE X (.Call (.Attribute o name apos) (e::es) [] cpos) (Ds K T r to t):=by
 subst h;exact dR pa slot hty hm ho ha hbase hfew hline hs hplain
end L2
namespace L3
open PySem L2
variable {fd:FuncData} {f:Addr} {K:ZF}
theorem sr (F:FunD K "program_of" "program_of" dD f fd):Binds K fd ["table","rows","bell"] [Value.none]:=by
 obtain ⟨oc,od,kV,doc,pm,an,cdv,ct,osl,d,o,n,rfl,lk,hcd,hd,hs⟩:=F.ex;intro s us KX hl;have hl2:us.length=2:=by rw [D9] at hl;exact Nat.succ.inj hl
 clear hl
 match us,hl2 with
 | [a,b],_=>exact BindsTo.of_defaults rfl (KX d o hd) hs rfl rfl
theorem yq (F:FunDs K "__init__" "Runner.__init__" gR #[.none] f fd):Binds K fd ["self","table","program","cells"] []:=by
 obtain ⟨oc,od,kV,doc,pm,an,cdv,ct,osl,d,o,n,rfl,lk,hcd,hd,hs⟩:=F.ex;intro s us KX hl;rw [EC] at hl ⊢
 match us,hl with
 | [a,b,c,e],_=>exact BindsTo.of_defaults rfl (KX _ o hd) hs rfl rfl
theorem pW (F:FunDs K "run" "Above.run" nI #[.none] f fd):Binds K fd ["self","rows","bells"] [.none]:=by
 obtain ⟨oc,od,kV,doc,pm,an,cdv,ct,osl,d,o,n,rfl,lk,hcd,hd,hs⟩:=F.ex;intro s us KX hl;have hl2:us.length=2:=by rw [D9] at hl;exact Nat.succ.inj hl
 clear hl
 match us,hl2 with
 | [a,b],_=>exact BindsTo.of_defaults rfl (KX d o hd) hs rfl rfl
abbrev pX:Stmt:=ci 127
inductive pY (C:Addr) (vs:List V) (H:Hp) (Q:VK) (Z3:XK):Prop
 | mk (v sv:V) (W n m c d k:Nat):vs=[v,sv,.int k]->k < 6->Rg W n m c d->TabV C H v (iJ W n m c d)->SzV H sv (iJ W n m c d)->(∀ H',Same H H'->Q (.bl true) H')->pY C vs H Q Z3
variable {Q:VK} {H:Hp} {D:Fm} {C:Addr}
theorem BJ {fn:List Str} {E:XK} {z:Str} (h:xt D fn) (e:z=S (gX D)) (q:∀ v H',Same H H'->TabV C H' v D->Q v H'):uF C [.str z] H Q E:=by
 have l:=vx h;refine ⟨gX D,D,by rw [e],l.1,?_,?_,h.fm,q⟩
 ·rw [km h];exact l.2
 ·rw [km h,Bw];exact xz h
variable {v pr:V} {a dx:Addr}
theorem RuO.off {Cs Ca:Addr} {x dx' p m c l ln b:Addr} {i n:Int} {ps ms cs ls:List V} {wd ft:V} {o:HO} (h:RuO Cs Ca H a dx v pr x dx' p m c l ln i n ps ms cs ls wd ft) (n0:a≠b) (n1:x≠b) (n2:p≠b) (n3:m≠b) (n4:c≠b) (n5:l≠b) (n6:ln≠b):RuO Cs Ca (upd H b o) a dx v pr x dx' p m c l ln i n ps ms cs ls wd ft:=
 ⟨by rw [aj n0];exact h.ea,h.st.off n1 n2 n3 n4 n5,by rw [aj n6];exact h.el,h.xa⟩
variable {ts:List Th} {n:Nat}
theorem qR {hi:Int} (h:n < ts.length\/∃ t∈ts,wn 0 hi t=false):lsT n hi (.lst ts)=false:=by
 show (decide _ && _)=false;rcases h with h|⟨t,hm,hw⟩
 ·rw [decide_eq_false zo,Bool.false_and]
 ·rw [List.all_eq_false.mpr ⟨t,hm,by rw [hw];exact Ee⟩,Bool.and_false]
theorem DW {α:Type} {x0 x1 x2 x3 x4 x5:α} {r:List α}:j8 (x0::x1::x2::x3::x4::x5::r) 5=some x5:=bq (j:=5) (xs:=x0::x1::x2::x3::x4::x5::r) rfl
def kq:Kn:=⟨"q",[]⟩
structure De (C Cp:Addr) (W n m c d:Nat) (H Ht:Hp) (q0 lt:Addr) (o0:HO) (v pr wr bu ot:V) (tw tb:Th):Prop where
 s0:Same H Ht
 nt:Ht lt=none
 hq:Ht q0=some o0
 hT:TabV C Ht v (iJ W n m c d)
 hO:TabV C Ht ot Ak
 hP:ProgV Cp Ht pr [⟨kq,[]⟩] none
 tvw:TgV q0 Ht wr tw
 tvb:TgV q0 Ht bu tb
 fb:wn 0 2000 tb=false
abbrev Dz (v sv:V) (k c W:Nat) (pr wr bu ot:V) (lt:Addr) (a:Option V):St:=[some v,some sv,some (.int (k:Nat)),some (.int (c:Nat)),some (.int (2 ^ W)),some pr,some wr,some bu,some ot,some (.ref lt),none,a]
inductive DA (C Cp:Addr) (W n m c d k:Nat) (v sv:V) (H:Hp) (σ:St) (H':Hp):Prop
 | mk (Ht:Hp) (q0 lt:Addr) (o0:HO) (pr wr bu ot:V) (tw tb:Th):σ=Dz v sv k c W pr wr bu ot lt none->De C Cp W n m c d H Ht q0 lt o0 v pr wr bu ot tw tb->Same Ht H'->H' lt=some (.lst [wr])->DA C Cp W n m c d k v sv H σ H'
structure DY (Cs Ca:Addr) (Ht H':Hp) (v pr:V) (x dx xs dxs p m c l ln lt:Addr) (ps ms cs ls:List V):Prop where
 ru:RuO Cs Ca H' x dx v pr xs dxs p m c l ln 0 0 ps ms cs ls (.str "on") .non
 z0:x≠lt
 z1:xs≠lt
 z2:p≠lt
 z3:m≠lt
 z4:c≠lt
 z5:l≠lt
 z6:ln≠lt
 y0:Ht x=none
 y1:Ht xs=none
inductive B6 (C Cp Cs Ca:Addr) (W n m c d k:Nat) (v sv:V) (tl:V->V->List V) (H:Hp) (σ:St) (H':Hp):Prop
 | mk (Ht:Hp) (q0 lt:Addr) (o0:HO) (pr wr bu ot:V) (tw tb:Th) (x dx xs dxs p7 m7 c7 l7 ln:Addr) (ps ms ls:List V):σ=Dz v sv k c W pr wr bu ot lt (some (.ref x))->De C Cp W n m c d H Ht q0 lt o0 v pr wr bu ot tw tb->Same Ht H'->H' lt=some (.lst (tl wr bu))->DY Cs Ca Ht H' v pr x dx xs dxs p7 m7 c7 l7 ln lt ps ms (cF (gQ c (.lst [.int (2 ^ W - 1)]))) ls->B6 C Cp Cs Ca W n m c d k v sv tl H σ H'
theorem BL (W:Nat):¬((2:Int) ^ W<=2 ^ W - 1):=by lia
section
variable {P:Program} {w:World} {K:ZF} {mg:Str->Option Value} {base:Heap} {C Cs Ca Cp R cS fS cB fB cU fU:Addr}
theorem scMa:ak ["_law_table","_law_sizes","_law_number","_law_cells","_law_bound","_law_program","_law_wrong","_law_budget","_law_other","_law_told","e","_law_machine_here"] ["_law_table","_law_sizes","_law_number"] (ai pX):=ck zk
theorem xE {f fo fr fn fc:Addr} {fd fdo fdr fdn fdc:FuncData} (F:Fun K "_law_machine" "_law_machine" pX f fd) (B:Bl mg) (T:Uc K Ca) (PC:Pc K Cp) (TS:Xk K mg R cS fS "NoState" "thing") (TB:Xk K mg R cB fB "NoBudget" "thing") (TU:Xk K mg R cU fU "Unlike" "word")
  (FPO:FunD K "program_of" "program_of" dD fo fdo) (mPO:mg "program_of"=some (.ref fo)) (PO:FnOk P w K mg base bM 6 fo fdo ["table","rows","bell"] (zx C Cp)) (RT:Fn P w K mg base "read_table" 8 ["text"] (uF C))
  (FRU:FunDs K "__init__" "Runner.__init__" gR #[.none] fr fdr) (MA:Mk K Ca fr) (mgA:mg "Above"=some (.ref Ca)) (RU:FnOk P w K mg base (iw P w) 7 fr fdr ["self","table","program","cells"] (u9 C Cs Ca cS))
  (FRN:FunDs K "run" "Above.run" nI #[.none] fn fdn) (MR:kG K Ca "run" fn) (RN:FnOk P w K mg base (iw P w) 5 fn fdn ["self","rows","bells"] (pK C Cs Ca Cp cB))
  (MC:kG K Ca "change" fc) (CG:FnOk P w K mg base (iw P w) 6 fc fdc ["self","table"] (nJ C Ca cU)) (BC:Binds K fdc ["self","table"] [])
  (SE:bT P w K mg base Ca "seen" 2 ["self"] (lM Cs Ca)):FnOk P w K mg base bM 9 f fd ["_law_table","_law_sizes","_law_number"] (pY C):=by
 have ZZ:=scMa
 walk_at "o"
 ·obtain ⟨v,sv,W,n,m,c,d,k,rfl,hk,rg,hT,hS,qq⟩:=h;obtain ⟨f1,fd1,M1,F1,B1⟩:=SE;refine ⟨_,ad (dj (cI sW (aG aM (pv 1) ag) dH (cE ag)) (cM rfl (aH (aw (i:=3) scMa.nd rfl (Or.inl rfl)) (aH (aw (i:=4) scMa.nd rfl (Or.inl rfl)) bV)))) (ad (aA (i:=5) scMa.nd rfl (Or.inl rfl) (kI (dvs:=[.non]) PO hr.m rfl mPO FPO.kp (sr FPO) (.cons rfl .nil) cm (aa (pv 0) (aa (aT (aa (aW (aa aC (aa (aW ac) ac))) ac)) ac)))) (ad (aA (i:=6) scMa.nd rfl (Or.inl rfl) (aG aM (aT (aa (aL eB (aT (aa ag ac)) (aL cN (pv 3) ag)) (aa (aT (aa (jY hI ag) ac)) (aa (aT (aa (pv 4) ac)) (aa (aW (aa ag ac)) (aa ag (aa (aT (aa cj ac)) ac))))))) (aL eR (pv 2) ag))) (ad (aA (i:=7) scMa.nd rfl (Or.inl rfl) (aG aM (aT (aa (jY hI ag) (aa ag (aa cj (aa bN (aa aC (aa (aL kD ag ag) ac))))))) (aL eR (pv 2) ag))) (ad (aA (i:=8) scMa.nd rfl (Or.inl rfl) (aI RT hr.m rfl (aa aC ac))) (ad (aA (i:=9) scMa.nd rfl (Or.inl rfl) (aT ac)) (bJ (DA C Cp W n m c d k v sv H) (lF (i:=10) rfl (fun pn ES=>(af (aQ (ve MA RU hr rfl mgA (yq FRU) .nil bZ (aa (pv 0) (aa (pv 5) (aa (pv 6) ac))))))) (fun A pn=>(af (aQ (pV (K:=K) rfl Et Ev Eu bQ (pv 9) (aa (gW (K:=K) rfl (pv 10) rfl) ac))))) rfl TS.mK TS.k scMa.nd rfl rfl) (bJ (B6 C Cp Cs Ca W n m c d k v sv (fun w _=>[w]) H) (aA (i:=11) scMa.nd rfl (Or.inl rfl) (dG MA RU.calm hr rfl mgA (yq FRU) .nil cm (aa (pv 0) (aa (pv 5) (aa (aT (aa (aL en (pv 4) ag) ac)) ac))))) (bJ (B6 C Cp Cs Ca W n m c d k v sv (fun w b=>[w,b]) H) (lF (i:=10) rfl (fun pn ES=>(af (aQ (jB (dvs:=[.non]) (pv 11) T.cl MR RN hr.m (pW FRN) (.cons rfl .nil) bZ (aa (pv 7) ac))))) (fun A pn=>(af (aQ (pV (K:=K) rfl Et Ev Eu bQ (pv 9) (aa (gW (K:=K) rfl (pv 10) rfl) ac))))) rfl TB.mK TB.k scMa.nd rfl rfl) (bJ (B6 C Cp Cs Ca W n m c d k v sv (fun w b=>[w,b,.str "shape"]) H) (lF (i:=10) rfl (fun pn ES=>(af (aQ (jB (pv 11) T.cl MC CG hr.m BC .nil bZ (aa (pv 8) ac))))) (fun A pn=>(af (aQ (pV (K:=K) rfl Et Ev Eu bQ (pv 9) (aa (gW (K:=K) rfl (pv 10) rfl) ac))))) rfl TU.mK TU.k scMa.nd rfl rfl) (ad (aR (PW.pt (cH (am (xp hr) (pv 9) (aT (aa (pv 6) (aa (pv 7) (aa aC ac))))) (cG (am mC (ar (cw (T:="bool")) (by rfl) B.isinstance br (aa (aG aM (pv 9) ag) (aa (pe_ty (by rfl) B.bool cJ) ac))) (ar (cw (T:="bool")) (by rfl) B.isinstance br (aa (pv 7) (aa (pe_ty (by rfl) B.bool cJ) ac))))))) (af (ao cj)) ay) (ad (aR (am (op_neD hr) (aG bh (aP (pv 11)) ag) (aL lG (aW (aa (aL en (pv 4) ag) ac)) (aL xr (aW (aa ag ac)) (aL en (pv 3) ag)))) (af (ao cj)) ay) (af (ao (dZ (cf bY (kJ (dvs:=[.non]) (pv 11) T.cl MR RN.calm hr.m (pW FRN) (.cons rfl .nil) cm (aa ag ac)) ag) (di (cf bY (kJ (dvs:=[.non]) (pv 11) T.cl MR RN.calm hr.m (pW FRN) (.cons rfl .nil) cm (aa ag ac)) ag)))))))))))))))),?_⟩;have W24:=rg.w24;have c4:=rg.c4;have c64:=rg.c64;obtain ⟨l,t1,t2,t3,t4,rfl,el,_,_,h3,_⟩:=id hS;refine ⟨_,rfl,l,_,_,_,rfl,rfl,SqL.of el,BZ,_,rfl,t3,_,rfl,SqT.of h3,(fun h=>absurd h.2 (by show ¬(2:Nat)=3;decide)),fun t5 n5=>?_⟩;obtain ⟨H1,ee,s5,e5⟩:=nL (.tup (eY [V.int ((iJ W n m c d).cells:Nat),.int (2 ^ (iJ W n m c d).width),.bl true] none (some 2))) n5;rw [ee];clear ee
  replace e5:H1 t5=some (.tup [.int (c:Nat),.int (2 ^ W)]):=e5
  refine ⟨t5,_,rfl,SqT.of e5,rfl,_,_,rfl,_,_,rfl,rfl,?_⟩;have hT1:=hT.same s5;obtain ⟨q0,o0,hv,hq0⟩:∃ q0 o,v=.ref q0/\H1 q0=some o:=by
   obtain ⟨a,dx,pp,pm,pn,pk,us,rfl,ho,_⟩:=id hT1;exact ⟨a,_,rfl,ho⟩
  have k14:=zN rg;refine ⟨_,rfl,zlx,fun ta na=>?_⟩;obtain ⟨H2,ee,s2,e2⟩:=nL (.tup []) na;rw [ee];clear ee;refine ⟨zlx,fun tb nb=>?_⟩;obtain ⟨H3,ee,s3,e3⟩:=nL (.tup [.str "q",.ref ta]) nb;rw [ee];clear ee;refine ⟨zlx,fun lc nc=>?_⟩;obtain ⟨H4,ee,s4,e4⟩:=nL (.lst [.ref tb]) nc;rw [ee];clear ee;have s14:=s2.trans (s3.trans s4);refine ⟨v,lc,_,iJ W n m c d,[⟨kq,[]⟩],none,rfl,hT1.same s14,k14.fm,W24,e4,.cons ⟨tb,ta,rfl,s4 _ _ e3,(s3.trans s4) _ _ e2⟩ .nil,fun r hr=>?_,zd,(fun b z=>nomatch z),fun pr H5 s5' hP=>?_⟩
  ·rw [Eg.mp hr];exact ⟨Eg.mpr rfl,.nil⟩
  have s15:=s14.trans s5'
  replace hT1:=hT1.same s15
  replace hq0:=s15 _ _ hq0
  replace s5:=s5.trans s15
  clear s15 s14 s5' s4 s3 s2 e2 e3 e4 e5 na nb nc n5;clear H2 H3 H4 H1;refine ⟨zlx,fun l0 n0=>?_⟩;obtain ⟨H6,ee,s6,e6⟩:=nL (.lst [.int 0]) n0;rw [ee];clear ee;refine ⟨_,rfl,_,_,rfl,rfl,dJ (n:=c+1) zo zo e6 fun l1 n1=>?_⟩;obtain ⟨H7,ee,s7,e7⟩:=nL (.lst (List.replicate (c+1) (.int 0))) n1;rw [ee];clear ee;refine ⟨_,rfl,zlx,fun l2 n2=>?_⟩;obtain ⟨H8,ee,s8,e8⟩:=nL (.lst [.int (-1)]) n2;rw [ee];clear ee;refine ⟨_,rfl,zlx,fun l3 n3=>?_⟩;obtain ⟨H9,ee,s9,e9⟩:=nL (.lst [.int (2 ^ W)]) n3;rw [ee];clear ee;refine ⟨zlx,fun t6 n6=>?_⟩;obtain ⟨H10,ee,s10,e10⟩:=nL (.tup [.int 0]) n6;rw [ee];clear ee;refine ⟨zlx,fun l7 n7=>?_⟩;obtain ⟨H11,ee,s11,e11⟩:=nL (.lst [.bl true]) n7;rw [ee];clear ee;refine ⟨zlx,fun l8 n8=>?_⟩;obtain ⟨H12,ee,s12,e12⟩:=nL (.lst [.ref l1,.ref l2,.ref l3,.ref t6,.int 0,.ref l7]) n8;rw [ee];clear ee;have a11:=s11.trans s12;have a10:=s10.trans a11;have a9:=s9.trans a10;have a8:=s8.trans a9;have a7:=s7.trans a8;have a6:=s6.trans a7;have ek:(k:Int) % 6=(k:Nat):=by lia
  obtain ⟨wr,tw,hx,tvw,hnw,hfw⟩:∃ x t,[V.ref l1,.ref l2,.ref l3,.ref t6,.int 0,.ref l7][k]?=some x/\TgV q0 H12 x t/\t≠.non/\lsT c (2 ^ W - 1) t=false:=by
   have e0:=s6 _ _ hq0;have e1:=s7 _ _ e0;have e2:=s8 _ _ e1;have e3:=s10 _ _ (s9 _ _ e2);rcases (by lia:k=0\/k=1\/k=2\/k=3\/k=4\/k=5) with rfl|rfl|rfl|rfl|rfl|rfl
   ·exact ⟨_,_,rfl,.lst (cb n1 e0) (a8 _ _ e7) (iZ _),Th.noConfusion,qR (.inl (by rw [Ex];lia))⟩
   ·exact ⟨_,_,rfl,.lst (cb n2 e1) (a9 _ _ e8) (.cons (.int _) .nil),Th.noConfusion,qR (.inr ⟨_,Eg.mpr rfl,rfl⟩)⟩
   ·exact ⟨_,_,rfl,.lst (cb n3 e2) (a10 _ _ e9) (.cons (.int _) .nil),Th.noConfusion,qR (.inr ⟨_,Eg.mpr rfl,by show (decide ((0:Int)<=2 ^ W) && decide ((2:Int) ^ W<=2 ^ W - 1))=false;rw [decide_eq_false (BL W),Bool.and_false]⟩)⟩
   ·exact ⟨_,_,rfl,.tup (a11 _ _ e10) (.cons (.int _) .nil),Th.noConfusion,rfl⟩
   ·exact ⟨_,_,rfl,.int 0,Th.noConfusion,rfl⟩
   ·exact ⟨_,_,rfl,.lst (cb n7 e3) (s12 _ _ e11) (.cons (.bl _) .nil),Th.noConfusion,qR (.inr ⟨_,Eg.mpr rfl,rfl⟩)⟩
  refine ⟨_,rfl,_,_,rfl,rfl,(by show (0:Int) < 6;decide),l8,_,_,_,rfl,rfl,SqL.of e12,(by rw [ek];exact bq hx),?_⟩
  replace hT1:=hT1.same a6
  replace hq0:=a6 _ _ hq0
  replace hP:=hP.same a6
  replace s5:=s5.trans a6
  clear a6 a7 a8 a9 a10 a11 hx e12 n8 s12 e11 n7 s11 e10 n6 s10 e9 n3 s9 e8 n2 s8 e7 n1 s7 e6 n0 s6;clear H11 H10 H9 H8 H7 H6 H5;refine ⟨_,rfl,_,_,rfl,rfl,⟨zd,zd,zd⟩,zlx,fun l1 n1=>?_⟩;obtain ⟨H1,ee,s1,e1⟩:=nL (.lst [.int (-1),.int 2001,.bl true,.non,.str "1",.int (10 ^ Int.toNat 29)]) n1;rw [ee];clear ee;obtain ⟨bu,tb,hx,tvb,hfb⟩:∃ x t,[V.int (-1),.int 2001,.bl true,.non,.str "1",.int (10 ^ Int.toNat 29)][k]?=some x/\TgV q0 H1 x t/\wn 0 2000 t=false:=by
   rcases (by lia:k=0\/k=1\/k=2\/k=3\/k=4\/k=5) with rfl|rfl|rfl|rfl|rfl|rfl
   ·exact ⟨_,_,rfl,.int _,rfl⟩
   ·exact ⟨_,_,rfl,.int _,rfl⟩
   ·exact ⟨_,_,rfl,.bl _,rfl⟩
   ·exact ⟨_,_,rfl,.non,rfl⟩
   ·exact ⟨_,_,rfl,.str _,rfl⟩
   ·exact ⟨_,_,rfl,.int _,zk⟩
  refine ⟨_,rfl,_,_,rfl,rfl,(by show (0:Int) < 6;decide),l1,_,_,_,rfl,rfl,SqL.of e1,(by rw [ek];exact bq hx),?_⟩;refine BJ ok40 (by rw [zP,jw]) fun ot H2 s2 hT0=>?_;refine ⟨zlx,fun lt nt=>?_⟩;have s12:=s1.trans s2
  replace hT1:=hT1.same s12
  replace hq0:=s12 _ _ hq0
  replace hP:=hP.same s12
  replace s5:=s5.trans s12
  replace tvw:=tvw.same s12
  replace tvb:=tvb.same s2
  clear s12 s1 s2 hx e1 n1;clear H1 H12;obtain ⟨H3,ee,s3,e3⟩:=nL (.lst []) nt;rw [ee];clear ee;refine ⟨?_,?_⟩;rotate_left
  ·have sx0:De C Cp W n m c d H H2 q0 lt o0 v pr wr bu ot tw tb:=⟨s5,nt,hq0,hT1,hT0,hP,tvw,tvb,hfb⟩;refine ⟨_,rfl,_,rfl,_,rfl,fun x dx nx nd ne=>?_⟩;have sx:=aV (o:=.ins Ca dx []) nx (ah (o:=.own x) nd);refine ⟨H3,x,dx,q0,o0,v,pr,wr,iJ W n m c d,tw,rfl,sx,nx,ae,s3 _ _ hq0,hT1.same s3,W24,k14.fm.p4,k14.fm.m3,c64,rg.d8,tvw.same s3,hnw,fun _ e de H4 s4 _ xa=>?_,fun h=>absurd (hfw.symm.trans h) Ee⟩;refine ⟨e,cS,some de,_,"NoState",bmR R,rfl,xa,TS.k,(by simp [List.contains_cons]),?_⟩;refine ⟨_,rfl,.inl ⟨rfl,_,SqL.of (s4 _ _ e3)⟩,_,rfl,e,cS,de,true,_,"NoState",bmR R,wr,rfl,xa,TS.k,TS.na,rfl,lt,_,_,rfl,rfl,s4 _ _ e3,(by show 0 < sizeLine;decide),?_⟩;exact ⟨H2,q0,lt,o0,pr,wr,bu,ot,tw,tb,rfl,sx0,aV nt (s3.trans s4),ae⟩
  clear s3 e3 hnw hfw nt s5 hq0 hT1 hT0 hP tvw tvb hfb;rintro σ H4 ⟨Ht,q0,lt,o0,pr,wr,bu,ot,tw,tb,rfl,mf,sT,e5⟩;refine ⟨?_,?_⟩;rotate_left
  ·refine ⟨_,rfl,_,rfl,_,rfl,_,_,rfl,rfl,zlx,fun l1 n1=>?_⟩;obtain ⟨H6,ee,s6,e6⟩:=nL (.lst [.int (2 ^ W - 1)]) n1;rw [ee];clear ee;have nq:l1≠q0:=cb n1 (sT _ _ mf.hq)
   replace sT:=sT.trans s6
   replace e5:=s6 _ _ e5
   have okc:lsT c (2 ^ W - 1) (.lst [.int (2 ^ W - 1)])=true:=by
    show (decide ((1:Int)<=(c:Int)) && ((decide ((0:Int)<=2 ^ W - 1) && decide ((2:Int) ^ W - 1<=2 ^ W - 1)) && true))=true;rw [decide_eq_true zo,decide_eq_true (iH W),decide_eq_true (Int.le_refl _)];rfl
   refine fun x dx nx nd ne=>?_;have sx:=aV (o:=.ins Ca dx []) nx (ah (o:=.own x) nd);refine ⟨H6,x,dx,q0,o0,v,pr,.ref l1,iJ W n m c d,.lst [.int (2 ^ W - 1)],rfl,sx,nx,ae,sT _ _ mf.hq,mf.hT.same sT,W24,k14.fm.p4,k14.fm.m3,c64,rg.d8,.lst nq e6 (.cons (.int _) .nil),Th.noConfusion,fun h=>absurd (h.symm.trans okc) Ee,fun _ H7 xs dxs p7 m7 c7 l7 ln s7 ea st el' nxs xa np nm nc nl nln=>⟨rfl,?_⟩⟩;exact ⟨Ht,q0,lt,o0,pr,wr,bu,ot,tw,tb,x,dx,xs,dxs,p7,m7,c7,l7,ln,_,_,_,rfl,mf,sT.trans s7,s7 _ _ e5,⟨ea,st,el',xa⟩,cb nx e5,cb nxs e5,cb np e5,cb nm e5,cb nc e5,cb nl e5,cb nln e5,none_of sT nx,none_of sT nxs⟩
  clear mf sT e5;rintro σ H4 ⟨Ht,q0,lt,o0,pr,wr,bu,ot,tw,tb,x,dx,xs,dxs,p7,m7,c7,l7,ln,ps,ms,ls,rfl,mf,sT,e5,mr⟩;refine ⟨?_,?_⟩;rotate_left
  ·refine ⟨_,rfl,x,dx,_,rfl,mr.ru.ea,rfl,_,rfl,q0,x,bu,tb,rfl,mf.tvb.same sT,fun _ e de H8 s8 _ xa'=>?_,fun h=>absurd (mf.fb.symm.trans h) Ee⟩;refine ⟨e,cB,some de,_,"NoBudget",bmR R,rfl,xa',TB.k,(by simp [List.contains_cons]),?_⟩;refine ⟨_,rfl,.inl ⟨rfl,_,SqL.of (s8 _ _ e5)⟩,_,rfl,e,cB,de,true,_,"NoBudget",bmR R,bu,rfl,xa',TB.k,TB.na,rfl,lt,_,_,rfl,rfl,s8 _ _ e5,(by show 1 < sizeLine;decide),?_⟩;exact ⟨Ht,q0,lt,o0,pr,wr,bu,ot,tw,tb,x,dx,xs,dxs,p7,m7,c7,l7,ln,ps,ms,ls,rfl,mf,aV mf.nt (sT.trans s8),ae,(mr.ru.same s8).off mr.z0 mr.z1 mr.z2 mr.z3 mr.z4 mr.z5 mr.z6,mr.z0,mr.z1,mr.z2,mr.z3,mr.z4,mr.z5,mr.z6,mr.y0,mr.y1⟩
  clear mf sT e5 mr;rintro σ H4 ⟨Ht,q0,lt,o0,pr,wr,bu,ot,tw,tb,x,dx,xs,dxs,p7,m7,c7,l7,ln,ps,ms,ls,rfl,mf,sT,e5,mr⟩;refine ⟨?_,?_⟩;rotate_left
  ·refine ⟨_,rfl,x,dx,_,rfl,mr.ru.ea,rfl,_,rfl,x,dx,xs,ln,v,ot,pr,false,0,iJ W n m c d,Ak,rfl,mr.ru.ea,mf.hT.same sT,mf.hO.same sT,k14.fm,ok40.fm,By,Bz,BA rg.n1,fun e de H8 s8 _ xa'=>?_⟩;refine ⟨e,cU,some de,_,"Unlike",bmR R,rfl,xa',TU.k,(by simp [List.contains_cons]),?_⟩;refine ⟨_,rfl,.inl ⟨rfl,_,SqL.of (s8 _ _ e5)⟩,_,rfl,e,cU,de,true,_,"Unlike",bmR R,.str "shape",rfl,xa',TU.k,TU.na,rfl,lt,_,_,rfl,rfl,s8 _ _ e5,(by show 2 < sizeLine;decide),?_⟩;exact ⟨Ht,q0,lt,o0,pr,wr,bu,ot,tw,tb,x,dx,xs,dxs,p7,m7,c7,l7,ln,ps,ms,ls,rfl,mf,aV mf.nt (sT.trans s8),ae,(mr.ru.same s8).off mr.z0 mr.z1 mr.z2 mr.z3 mr.z4 mr.z5 mr.z6,mr.z0,mr.z1,mr.z2,mr.z3,mr.z4,mr.z5,mr.z6,mr.y0,mr.y1⟩
  clear mf sT e5 mr;rintro σ H4 ⟨Ht,q0,lt,o0,pr,wr,bu,ot,tw,tb,x,dx,xs,dxs,p7,m7,c7,l7,ln,ps,ms,ls,rfl,mf,sT,e11,mr⟩;have ru:=mr.ru;have y0:=mr.y0;have y1:=mr.y1;have s5:=mf.s0;have tvw:=mf.tvw.same sT;have tvb:=mf.tvb.same sT;have hT1:=mf.hT.same sT;have hP:=mf.hP.same sT;clear mf mr;refine ⟨_,rfl,_,rfl,_,rfl,zlx,fun l12 n12=>?_⟩;obtain ⟨H12,ee,s12,e12⟩:=nL (.lst [wr,bu,.str "shape"]) n12;rw [ee];clear ee;refine ⟨lt,l12,_,rfl,rfl,SqL.of (s12 _ _ e11),SqL.of e12,?_,_,rfl,aZ ?_⟩
  ·intro z hz;simp only [Eo,EE,or_false] at hz;rcases hz with rfl|rfl|rfl
   ·exact tvw.idn
   ·exact tvb.idn
   ·exact .inl rfl
  have tb':=tvb.same s12;refine ⟨_,rfl,lt,_,_,_,rfl,rfl,SqL.of (s12 _ _ e11),nW,bu,_,_,rfl,tb'.ty,kit_bool tb,_,rfl,bu,_,_,rfl,tb'.ty,kit_bool tb,rfl,_,rfl,bE (by rw [decide_eq_true rfl];rfl) ?_⟩
  replace ru:=ru.same s12
  replace hT1:=hT1.same s12
  replace hP:=hP.same s12
  replace sT:=sT.trans s12
  clear tb' tvw tvb e11 e12 n12 s12;obtain ⟨N,eN⟩:∃ N:List Int,N=(2 ^ W - 1)::List.replicate (c - 1) 0:=⟨_,rfl⟩;have eC:cF (gQ c (.lst [.int (2 ^ W - 1)]))=N.map V.int:=by
   rw [eN];show (([Th.int (2 ^ W - 1)]++List.replicate (c - 1) (Th.int 0)).map fun t=>V.int t.num)=_;rw [Ek,List.map_replicate,Er,Er,List.map_replicate];rfl
  rw [eC] at ru;refine ⟨_,rfl,x,dx,Ca,f1,_,fd1,2,["self"],_,rfl,ru.ea,rfl,T.cl,M1,F1,hr.m,B1,x,dx,xs,dxs,p7,m7,c7,l7,ln,v,pr,0,0,_,_,_,_,_,_,rfl,ru,fun u H13 s13 sv=>?_⟩;obtain ⟨t,tp,tm,tc,tl,tn,rfl,et,_,_,ec,_⟩:=sv;refine ⟨t,_,_,_,rfl,rfl,SqT.of et,DW,?_⟩;refine ⟨_,rfl,_,_,rfl,rfl,zlx,fun ta na=>?_⟩;obtain ⟨H14,ee,s14,e14⟩:=nL (.tup [.int (2 ^ W - 1)]) na;rw [ee];clear ee;refine ⟨zlx,fun tb nb=>?_⟩;obtain ⟨H15,ee,s15,e15⟩:=nL (.tup [.int 0]) nb;rw [ee];clear ee;refine ⟨_,rfl,_,_,rfl,rfl,tb,c - 1,.int 0,rfl,(by congr 1;lia),SqT.of e15,zo,zo,fun td nd=>?_⟩;obtain ⟨H16,ee,s16,e16⟩:=nL (.tup (List.replicate (c - 1) (.int 0))) nd;rw [ee];clear ee;refine ⟨ta,td,_,_,rfl,rfl,s16 _ _ (s15 _ _ e14),e16,(by rw [Ex];show 1+(c - 1)<=sizeLine;have:(1000:Nat)<=sizeLine:=zd;lia),fun te H17 s17 e17=>?_⟩;have s1317:=s14.trans (s15.trans (s16.trans s17))
  replace e17:H17 te=some (.tup (N.map V.int)):=by
   rw [e17,eN,Er,List.map_replicate];rfl
  refine ⟨iD N,iD N,.tup (SqT.of (s1317 _ _ ec)) (jM _),.tup (SqT.of e17) (jM _),kr _,kr _,Ew (Nat.min_le_left _ _) (Ew (nQ _) zd),_,rfl,bE (by rw [eqv_refl _ (vH N)];rfl) ?_⟩;have s17':=s13.trans s1317
  replace ru:=ru.same s17'
  replace hT1:=hT1.same s17'
  replace hP:=hP.same s17'
  replace sT:=sT.trans s17'
  clear s17' s1317 e17 s17 e16 s16 nd e15 s15 nb e14 s14 na ec et s13;refine ⟨_,rfl,x,dx,_,rfl,ru.ea,rfl,q0,x,.int 2000,.int 2000,rfl,.int 2000,fun h=>absurd h zd,fun _=>.inr ⟨dx,xs,dxs,p7,m7,c7,l7,ln,v,pr,0,_,_,_,_,_,[⟨kq,[]⟩],iJ W n m c d,2000,rfl,zd,ru,hP,hT1,k14.fm,fun r hr=>?_,fun H18 ru8 b8=>?_⟩⟩
  ·rw [Eg.mp hr];exact Eg.mpr rfl
  refine ⟨rfl,_,rfl,bC ?_⟩;refine ⟨_,rfl,x,dx,_,rfl,ru8.ea,rfl,q0,x,.int 0,.int 0,rfl,.int 0,fun h=>absurd h zd,fun _=>.inl ⟨rfl,fun H19 s19=>⟨rfl,?_⟩⟩⟩;refine qq _ fun a o h=>s19 _ _ (b8 _ _ (sT _ _ (s5 _ _ h)) ?_ ?_)
  ·exact fun z=>by rw [z] at h;have:=s5 _ _ h;rw [y1] at this;cases this
  ·exact fun z=>by rw [z] at h;have:=s5 _ _ h;rw [y0] at this;cases this
end
structure Lf (C:Addr) (K:ZF) (l:Addr) (ns:List Int) (v sv:V) (D:Fm) (H:Hp):Prop where
 sq:SqL K H l (ns.map V.int)
 tb:TabV C H v D
 sz:SzV H sv D
theorem Lf.same {l:Addr} {ns:List Int} {v sv:V} {H H':Hp} (h:Lf C K l ns v sv D H) (s:Same H H'):Lf C K l ns v sv D H':=⟨s.seq h.sq,h.tb.same s,h.sz.same s⟩
structure Tv (Hb H:Hp) (q lt:Addr) (vs:List V) (ts:List Th):Prop where
 sb:Same Hb H
 nq:Hb q=none
 nl:Hb lt=none
 g:Strm H q
 ql:q≠lt
 e:H lt=some (.lst vs)
 tg:TgB (fun a=>a=q\/a=lt) H vs ts
 sz:∀ t∈ts,szT t<=100
theorem fW {H Hc H':Hp} (na:H a=none) (sc:Same H Hc) (b:But a Hc H'):Same H H':=fun c o e=>b c o (sc c o e) (aq e na)
variable {Hb:Hp}
theorem Tv.gk {q lt:Addr} {vs:List V} (h:Tv Hb H q lt vs ts):Gk (fun a=>a=q\/a=lt) H q:=⟨h.g,.inl rfl,fun a ha=>by
 rcases ha with rfl|rfl
 ·obtain ⟨_,_,_,e⟩:=h.g;rw [e];exact Option.some_ne_none _
 ·rw [h.e];exact Option.some_ne_none _⟩
theorem Tv.same {Hb H H':Hp} {q lt:Addr} {vs:List V} (h:Tv Hb H q lt vs ts) (s:Same H H'):Tv Hb H' q lt vs ts:=⟨h.sb.trans s,h.nq,h.nl,h.g.same s,h.ql,s _ _ h.e,h.tg.same s,h.sz⟩
theorem Tv.but {Hb H H':Hp} {q lt:Addr} {vs:List V} (h:Tv Hb H q lt vs ts) (g:Strm H' q) (b:But q H H'):Tv Hb H' q lt vs ts:=⟨fW h.nq h.sb b,h.nq,h.nl,g,h.ql,b _ _ h.e h.ql.symm,h.tg.but h.gk b,h.sz⟩
theorem Tv.len {q lt:Addr} {vs:List V} (h:Tv Hb H q lt vs ts):vs.length=ts.length:=(h.tg q (.inl rfl)).length
variable {G:Addr->Prop}
theorem TgB.upd {lt:Addr} {xs ys vs:List V} (h:TgB G H vs ts) (hl:G lt) (e:H lt=some (.lst xs)):TgB G (upd H lt (.lst ys)) vs ts:=fun a ha=>(h a ha).put e (fun c x e n=>by rw [aj n];exact e) (h lt hl)
variable {td:Th} {y:V} {q:Addr}
theorem TgA.set (h:TgV q H y td):∀ {xs:List V} {ts:List Th} (i:Nat),TgA q H xs ts->TgA q H (xs.set i y) (ts.set i td)
 | _,_,_,.nil=>.nil
 | _,_,0,.cons _ t=>.cons h t
 | _,_,i+1,.cons a t=>.cons a (TgA.set h i t)
theorem TgB.set (h:TgG G H y td) {xs:List V} (i:Nat) (hs:TgB G H xs ts):TgB G H (xs.set i y) (ts.set i td):=fun a ha=>TgA.set (h a ha) i (hs a ha)
theorem Tv.upd {q lt:Addr} {vs vs':List V} {ts ts':List Th} (h:Tv Hb H q lt vs ts) (h':TgB (fun a=>a=q\/a=lt) H vs' ts') (hz:∀ t∈ts',szT t<=100):Tv Hb (upd H lt (.lst vs')) q lt vs' ts':=
 ⟨aV h.nl h.sb,h.nq,h.nl,by obtain ⟨a,b,c,e⟩:=h.g;exact ⟨a,b,c,by rw [aj h.ql];exact e⟩,h.ql,ae,h'.upd (.inr rfl) h.e,hz⟩
variable {t:Th} {u:V}
theorem Tv.app {q lt:Addr} {vs:List V} (h:Tv Hb H q lt vs ts) (hu:TgG (fun a=>a=q\/a=lt) H u t) (hz:szT t<=100):Tv Hb (L2.upd H lt (.lst (vs++[u]))) q lt (vs++[u]) (ts++[t]):=h.upd (h.tg.app (.cons hu .nil)) fun t' ht=>(EM.mp ht).elim (h.sz t') fun h'=>by rw [Eg.mp h'];exact hz
theorem Tv.set {q lt:Addr} {vs:List V} (h:Tv Hb H q lt vs ts) (i:Nat) (hu:TgG (fun a=>a=q\/a=lt) H u t) (hz:szT t<=100):Tv Hb (L2.upd H lt (.lst (vs.set i u))) q lt (vs.set i u) (ts.set i t):=h.upd (TgB.set hu i h.tg) fun t' ht=>(List.mem_or_eq_of_mem_set ht).elim (h.sz t') fun h'=>by rw [h'];exact hz
theorem Df {α:Type} {x0 x1 x2 x3 x4:α} {r:List α}:j8 (x0::x1::x2::x3::x4::r) 4=some x4:=bq (j:=4) (xs:=x0::x1::x2::x3::x4::r) rfl
theorem pZ:∀ ts:List (List Nat),TK.jn [] ts=ts.flatten
 | []=>rfl
 | [t]=>by show t=_;simp
 | t::u::r=>by
  show t++([]++TK.jn [] (u::r))=_;rw [pZ (u::r)];simp
theorem cg (a b:Str):(a++b).length=a.length+b.length:=by
 rw [uf a,uf b,ye,bL,bL,bL,D9]
theorem mh (h:n < 1000):(toString (n:Int):Str).length<=3:=by
 rw [fq,bL];exact (jv n).2 3 zd h
theorem ku (l:List Str) (h:∀ z∈l,(cp z).length<=1):(l.map fun z=>32::cp z).flatten.length<=2*l.length:=by
 induction l with
 | nil=>exact Ep _
 | cons z r ih=>
  have:=ih fun y hy=>h y (Ef _ hy);have:=h z Eb;simp only [Er,EI,D9,Eh];lia
def DB (w:Str) (l:List Str):Prop:=w.length<=4/\∀ i:Nat,i < 4->∃ c z,j8 w.cps.toList (0+(i:Int))=some c/\l[i]?=some z/\(" ":Str)++(⟨#[c]⟩:Str)=S (32::cp z)
theorem yr:DB "qvjy" pl4:=⟨zk,fun i hi=>by
 rcases (by lia:i=0\/i=1\/i=2\/i=3) with rfl|rfl|rfl|rfl
 ·exact ⟨_,_,rfl,rfl,zk⟩
 ·exact ⟨_,_,rfl,rfl,zk⟩
 ·exact ⟨_,_,rfl,rfl,zk⟩
 ·exact ⟨_,_,rfl,rfl,zk⟩⟩
theorem yt:DB "zwxk" mk4:=⟨zk,fun i hi=>by
 rcases (by lia:i=0\/i=1\/i=2\/i=3) with rfl|rfl|rfl|rfl
 ·exact ⟨_,_,rfl,rfl,zk⟩
 ·exact ⟨_,_,rfl,rfl,zk⟩
 ·exact ⟨_,_,rfl,rfl,zk⟩
 ·exact ⟨_,_,rfl,rfl,zk⟩⟩
def xF (W c:Nat):Str:="word "++(toString (W:Int):Str)++" ; cells "++(toString (c:Int):Str)
def nY (W c d:Nat):Str:=xF W c++" ; depth "++(toString (d:Int):Str)++" ; places"
def oa (l:List Str):Str:=S (l.map fun z=>32::cp z).flatten
theorem xG {W n m c d:Nat} (h:Rg W n m c d):nY W c d++oa (pl4.take n)++" ; marks"++oa (mk4.take m)++" ; gate ; kind q ( ) { next }"=S (gX (iJ W n m c d)):=by
 rw [zO h];unfold nY xF oa;simp only [<-ye,jw,fq]
inductive qT (K:ZF) (vs:List V) (H:Hp) (Q:VK) (Z3:XK):Prop
 | mk (a:Addr) (ns:List Int):vs=[.ref a]->SqL K H a (ns.map V.int)->ns.length<=63->(∀ H',Q (.bl true) H')->qT K vs H Q Z3
inductive DC (K:ZF) (l:Addr) (ns:List Int) (σ:St) (H':Hp):Prop
 | mk (v1:Option V) (sv:V) (W n m c d:Nat):σ=[some (.ref l),v1,some (.int (W:Nat)),some sv,none,none,none,none,none,none,none,none,none]->Rg W n m c d->SqL K H' l (ns.map V.int)->SzV H' sv (iJ W n m c d)->DC K l ns σ H'
inductive DD (C:Addr) (K:ZF) (l:Addr) (ns:List Int) (σ:St) (H':Hp):Prop
 | mk (v1 v2 v4:Option V) (v sv:V) (W n m c d:Nat):σ=[some (.ref l),v1,v2,some sv,v4,some v,none,none,none,none,none,none,none]->Rg W n m c d->Lf C K l ns v sv (iJ W n m c d) H'->DD C K l ns σ H'
theorem zW {j:Int} {A B C E:List Int} (a:nP H u j A B C E) (b:nP H v j A B C E) (q:Q (.bl true) H):rEqD K u v H Q:=by
 refine ⟨_,_,a.dt,b.dt,iC ..,iC ..,Ew (Nat.min_le_left _ _) (Ew (pR ..) zd),?_⟩;rw [eqv_refl _ (qN ..)];exact q
variable {i:Nat}
theorem mi (h:i < n):wb n (i:Int)=some i:=by
 unfold wb;rw [if_pos zo,if_pos zo,E6]
theorem yu {α:Type}:∀ {l:List α},l.length=5->∃ a b c d e,l=[a,b,c,d,e]
 | [a,b,c,d,e],_=>⟨a,b,c,d,e,rfl⟩
theorem DF {t1 t2 t3 t4:Addr} (k:sk D) (z1:H t1=some (.tup [.int (D.places.length:Nat),.int (2 ^ D.width),.bl true])) (z2:H t2=some (.tup [.int (D.marks.length:Nat),.int 2,.bl true])) (z3:H t3=some (.tup [.int (D.cells:Nat),.int (2 ^ D.width),.bl true])) (z4:H t4=some (.tup [.int (D.depth:Nat),.int 1000,.bl false])) (h2:4<=D.width) (hi:i < 4):∃ (tz:Addr) (n b:Nat) (ex:Bool),[V.ref t1,.ref t2,.ref t3,.ref t4][i]?=some (.ref tz)/\H tz=some (.tup [.int (n:Nat),.int (b:Nat),.bl ex])/\n<=64/\2<=b/\b<=2 ^ 24:=by
 have a:=k.p;have b:=k.m;have c:=k.c;have d:=k.d;have ew:((2 ^ D.width:Nat):Int)=2 ^ D.width:=by rw [Int.natCast_pow];rfl
 have w1:2<=2 ^ D.width:=Ew (by decide:2<=2 ^ 4) (Nat.pow_le_pow_right zd h2);have w2:2 ^ D.width<=2 ^ 24:=Nat.pow_le_pow_right zd k.w;rcases (by lia:i=0\/i=1\/i=2\/i=3) with rfl|rfl|rfl|rfl
 ·exact ⟨t1,D.places.length,2 ^ D.width,true,rfl,by rw [z1,ew],zo,w1,w2⟩
 ·exact ⟨t2,_,2,true,rfl,z2,zo,zd,zd⟩
 ·exact ⟨t3,D.cells,2 ^ D.width,true,rfl,by rw [z3,ew],zo,w1,w2⟩
 ·exact ⟨t4,_,1000,false,rfl,z4,zo,zd,zd⟩
inductive DG (C:Addr) (K:ZF) (l:Addr) (ns:List Int) (v2 v4:Option V) (v sv:V) (D:Fm) (i:Nat) (σ:St) (H':Hp):Prop
 | mk (v1 b6 b7 b8 b9 b10 b11 b12:Option V):σ=[some (.ref l),v1,v2,some sv,v4,some v,b6,b7,b8,b9,b10,b11,b12]->Lf C K l ns v sv D H'->(i=0\/∃ q Hb,v1=some (.ref q)/\Strm H' q/\Hb q=none/\Same Hb H'/\Lf C K l ns v sv D Hb)->DG C K l ns v2 v4 v sv D i σ H'
inductive B7 (l q lt ls:Addr) (v:V) (v2 v4:Option V) (i:Nat) (H1:Hp) (n:Nat->Nat) (E:Hp->Prop) (k:Nat) (σ:St) (H':Hp):Prop
 | mk (b8 b9 b10 b11 b12:Option V) (vs:List V) (ts:List Th):σ=[some (.ref l),some (.ref q),v2,some (.ref ls),v4,some v,some (.int (0+(i:Int))),some (.ref lt),b8,b9,b10,b11,b12]->Tv H1 H' q lt vs ts->vs.length=n k->E H'->B7 l q lt ls v v2 v4 i H1 n E k σ H'
section
variable {P:Program} {w:World} {K:ZF} {mg:Str->Option Value} {base:Heap} {C Cs R cS:Addr} {tk:Tok}
theorem scLaw:ak ["_law_script","_law_stream_here","_law_width","_law_sizes","_law_head","_law_table","_law_k","_law_things","_law_many","_law_bound","_law_exact","_law_j","_law_turn"] ["_law_script"] (ai ni):=ck zk
theorem DH:(["_law_k"]:List Str).Nodup:=by decide +kernel
theorem zX {f fo:Addr} {fd fdo:FuncData} (F:Fun K "law" "law" ni f fd) (B:Bl mg) (TS:Sc K Cs) (CL:Fn P w K mg base "_law_cell" 1 ["_law_script","_law_k"] (oK K)) (ST:Fn P w K mg base "_law_stream" 1 ["_law_cell_here"] jr) (TK':Fn P w K mg base "_law_take" 1 ["_law_stream_here","_law_many"] ik) (RT:Fn P w K mg base "read_table" 8 ["text"] (uF C))
  (LI:Fn P w K mg base "_law_list" 2 ["_law_stream_here","_law_many","_law_bound"] spLList) (SP:Fn P w K mg base "_law_spoilt" 2 ["_law_stream_here","_law_thing","_law_many","_law_bound","_law_exact"] spSpo) (RI:Fn P w K mg base "_law_right" 7 ["_law_table","_law_things","_law_sizes"] (md C)) (MA:Fn P w K mg base "_law_machine" 9 ["_law_table","_law_sizes","_law_number"] (pY C)) (DU:Fn P w K mg base "_law_due" 2 ["_law_things","_law_sizes"] qM)
  (FO:FunDs K "state_of" "state_of" cz (pC tk) fo fdo) (mgO:mg "state_of"=some (.ref fo)) (SO:FnOk P w K mg base (iw P w) 5 fo fdo rY (uW C Cs cS)) (TO:bT P w K mg base Cs "told" 1 ["self"] (spTold Cs)):FnOk P w K mg base bM 10 f fd ["_law_script"] (qT K):=by
 have ZZ:=scLaw
 walk_at "o"
 ·obtain ⟨l,ns,rfl,hS,hl,qq⟩:=h;have sz:(100000:Nat)<=sizeLine:=by decide
  obtain ⟨f1,fd1,M1,F1,B1⟩:=TO;refine ⟨_,ad (aA (i:=1) scLaw.nd rfl (Or.inl rfl) (aI ST hr.m rfl (aa (aI CL hr.m rfl (aa (pv 0) (aa ag ac))) ac))) (ad (aA (i:=2) scLaw.nd rfl (Or.inl rfl) (aL cN ag (aI TK' hr.m rfl (aa (pv 1) (aa ag ac))))) (ad (aA (i:=3) scLaw.nd rfl (Or.inl rfl) (aT (aa bN (aa (aW (aa (aL cN ag (aI TK' hr.m rfl (aa (pv 1) (aa ag ac)))) (aa (aL kE ag (pv 2)) (aa cj ac)))) (aa (aW (aa (aI TK' hr.m rfl (aa (pv 1) (aa ag ac))) (aa ag (aa cj ac)))) ac))))) (bJ (DC K l ns) (aA (i:=3) scLaw.nd rfl (Or.inl rfl) (aL gm (pv 3) (aT (aa (aW (aa (aL cN ag (aI TK' hr.m rfl (aa (pv 1) (aa ag ac)))) (aa (aL kE ag (pv 2)) (aa cj ac)))) (aa (aW (aa (aI TK' hr.m rfl (aa (pv 1) (aa ag ac))) (aa ag (aa cj ac)))) ac))))) (ad (aA (i:=4) scLaw.nd rfl (Or.inl rfl) (aL bO (aL bO (aL bO aC (aN eo (by rfl) B.str dU (aa (pv 2) ac))) aC) (aN eo (by rfl) B.str dU (aa (aG bh (aG aM (pv 3) ag) ag) ac)))) (ad (aA (i:=4) scLaw.nd rfl (Or.inl rfl) (aL bO (aL bO (aL bO (pv 4) aC) (aN eo (by rfl) B.str dU (aa (aG bh (aG aM (pv 3) ag) ag) ac))) aC)) (ad (aA (i:=4) scLaw.nd rfl (Or.inl rfl) (aL bO (aL bO (pv 4) (dR PySem.F.plainAttrs_str PySem.F.slot_str_join PySem.F.type_str_join qr aC (aa (fe (N':=["_law_k"]) (ix:=[none]) (sc0:=ai ni) (N:=["_law_script","_law_stream_here","_law_width","_law_sizes","_law_head","_law_table","_law_k","_law_things","_law_many","_law_bound","_law_exact","_law_j","_law_turn"]) rfl zk (du rfl B.range (aa (aG bh (aG aM (pv 3) ag) ag) ac)) (fun _ _ _ _ _=>(aw (i:=0) DH rfl (Or.inl rfl) (.inr rfl))) (fun _ _ _ _ _=>cX) (fun _ _ _ _ _=>(aL bO aC (aG gl aC (pv 0))))) ac))) aC)) (ad (aA (i:=4) scLaw.nd rfl (Or.inl rfl) (aL bO (pv 4) (dR PySem.F.plainAttrs_str PySem.F.slot_str_join PySem.F.type_str_join qr aC (aa (fe (N':=["_law_k"]) (ix:=[none]) (sc0:=ai ni) (N:=["_law_script","_law_stream_here","_law_width","_law_sizes","_law_head","_law_table","_law_k","_law_things","_law_many","_law_bound","_law_exact","_law_j","_law_turn"]) rfl zk (du rfl B.range (aa (aG bh (aG aM (pv 3) ag) ag) ac)) (fun _ _ _ _ _=>(aw (i:=0) DH rfl (Or.inl rfl) (.inr rfl))) (fun _ _ _ _ _=>cX) (fun _ _ _ _ _=>(aL bO aC (aG gl aC (pv 0))))) ac)))) (ad (aA (i:=4) scLaw.nd rfl (Or.inl rfl) (aL bO (pv 4) aC)) (bJ (DD C K l ns) (aA (i:=5) scLaw.nd rfl (Or.inl rfl) (aI RT hr.m rfl (aa (pv 4) ac))) (ad (cQ PassesOwn.never rfl (du rfl B.range (aa (ar (qZ rfl) (by rfl) B.max PyProof.Rows.boot_max (aa ag (aa (ar (re rfl) (by rfl) B.min PyProof.Rows.boot_min (aa ag (aa (ar aK (by rfl) B.len Ei (aa (pv 0) ac)) ac))) ac))) ac)) (aw (i:=6) scLaw.nd rfl (Or.inl rfl)) (ad (aA (i:=1) scLaw.nd rfl (Or.inl rfl) (aI ST hr.m rfl (aa (aI CL hr.m rfl (aa (pv 0) (aa (pv 6) ac))) ac))) (ad (aA (i:=7) scLaw.nd rfl (Or.inl rfl) (aT (aa (aG aM (aT (aa ag (aa ag (aa (aI TK' hr.m rfl (aa (pv 1) (aa ag ac))) ac)))) (aI TK' hr.m rfl (aa (pv 1) (aa ag ac)))) ac))) (ad (cQ PassesOwn.never rfl (ed (cI fG (pv 3) (cE ag) dH)) (cM rfl (aH (aw (i:=8) scLaw.nd rfl (Or.inl rfl)) (aH (aw (i:=9) scLaw.nd rfl (Or.inl rfl)) (aH (aw (i:=10) scLaw.nd rfl (Or.inl rfl)) bV)))) (af (aQ (dR Et Ev Eu bQ (pv 7) (aa (aI LI hr.m rfl (aa (pv 1) (aa (aG aM (aT (aa (aI TK' hr.m rfl (aa (pv 1) (aa (aL cN (pv 8) ag) ac))) (aa (pv 8) ac))) (aN fE (by rfl) B.int EJ (aa (pv 10) ac))) (aa (pv 9) ac)))) ac))))) (ad (cQ PassesOwn.never rfl (du rfl B.range (aa ag ac)) (aw (i:=11) scLaw.nd rfl (Or.inl rfl)) (af (aR (am bY (aI TK' hr.m rfl (aa (pv 1) (aa ag ac))) ag) (af (dj bN (i5 (pv 7) (pv 11) eZ))) ay))) (ad (cQ PassesOwn.never rfl (du rfl B.range (aa (aI TK' hr.m rfl (aa (pv 1) (aa ag ac))) ac)) (aw (i:=12) scLaw.nd rfl (Or.inl rfl)) (ad (aA (i:=11) scLaw.nd rfl (Or.inl rfl) (aI TK' hr.m rfl (aa (pv 1) (aa ag ac)))) (af (aR (PW.pt (cq (am bY (pv 11) ag) (cc (am gH (aG aM (pv 7) ag) bN)))) (af (dj (aI SP hr.m rfl (aa (pv 1) (aa ag (aa ag (aa ag (aa cj ac)))))) (i5 (pv 7) ag eZ))) (af (aR (am gH (aG aM (pv 7) (pv 11)) bN) (ad (dj (aG aM (pv 3) (pv 11)) (cM rfl (aH (aw (i:=8) scLaw.nd rfl (Or.inl rfl)) (aH (aw (i:=9) scLaw.nd rfl (Or.inl rfl)) (aH (aw (i:=10) scLaw.nd rfl (Or.inl rfl)) bV))))) (af (dj (aI SP hr.m rfl (aa (pv 1) (aa (aG aM (pv 7) (pv 11)) (aa (pv 8) (aa (pv 9) (aa (pv 10) ac)))))) (i5 (pv 7) (pv 11) eZ)))) ay)))))) (af (aR (bx (bj (aI RI hr.m rfl (aa (pv 5) (aa (pv 7) (aa (pv 3) ac)))))) (af (ao cj)) ay)))))))) (ad (aR (bx (bj (aI MA hr rfl (aa (pv 5) (aa (pv 3) (aa (aI TK' hr.m rfl (aa (pv 1) (aa ag ac))) ac)))))) (af (ao cj)) ay) (af (ao (cf (op_eqD hr) (aP (kI (dvs:=[.int 0,.non,.non,.non,.non]) SO.calm hr.m rfl mgO FO.kp (Bq FO) (.cons ⟨_,rfl⟩ (.cons rfl (.cons rfl (.cons rfl (.cons rfl .nil))))) cm (aa (pv 5) ac))) (aG bh (aI DU hr.m rfl (aa (aL eB (aT (aa bN ac)) ag) (aa (pv 3) ac))) ag))))))))))))))),?_⟩;refine ⟨_,rfl,l,ns,0,rfl,hS,zo,fun c0=>⟨c0,rfl,fun q H1 nq s1 g1=>?_⟩⟩;refine ⟨_,rfl,q,21,rfl,g1,zd,zd,fun w0 H2 hw g2 b2=>⟨_,_,rfl,rfl,?_⟩⟩;have eW:(4:Int)+(w0:Int)=((4+w0:Nat):Int):=by lia
  rw [eW];have e2:∀ W:Nat,(1:Int)*2 ^ ((W:Int)).toNat=2 ^ W:=fun W=>by rw [E6,Int.one_mul]
  refine ⟨_,rfl,q,4,rfl,g2,zd,zd,fun n0 H3 hn g3 b3=>⟨_,_,rfl,rfl,_,rfl,_,_,rfl,rfl,⟨zo,zo,zd⟩,zlx,fun t1 k1=>?_⟩⟩;rw [e2];obtain ⟨H4,ee,s4,e4⟩:=nL (.tup [.int (1+(n0:Int)),.int (2 ^ (4+w0)),.bl true]) k1;rw [ee];clear ee;have q1:=(g3.ne k1).symm;refine ⟨_,rfl,q,4,rfl,g3.same s4,zd,zd,fun m0 H5 hm g5 b5=>⟨zlx,fun t2 k2=>?_⟩⟩;obtain ⟨H6,ee,s6,e6⟩:=nL (.tup [.int (m0:Int),.int 2,.bl true]) k2;rw [ee];clear ee;have q2:=(g5.ne k2).symm;have e4':=s6 _ _ (b5 _ _ e4 q1);have b6:But q H1 H6:=(((b2.trans b3).same s4).trans b5).same s6;have g6:=g5.same s6;refine ⟨zlx,fun l1 n1=>?_⟩;obtain ⟨H7,ee,s7,e7⟩:=nL (.lst [.non,.ref t1,.ref t2]) n1;rw [ee];clear ee;have ql:=(g6.ne n1).symm;have g7:=g6.same s7;refine ⟨?_,?_⟩;rotate_left
  ·refine ⟨_,rfl,_,rfl,q,61,rfl,g7,zd,zd,fun c1 H8 hc g8 b8=>⟨_,_,rfl,rfl,_,rfl,_,_,rfl,rfl,⟨zo,zo,zd⟩,zlx,fun t3 k3=>?_⟩⟩;rw [e2];obtain ⟨H9,ee,s9,e9⟩:=nL (.tup [.int (4+(c1:Int)),.int (2 ^ (4+w0)),.bl true]) k3;rw [ee];clear ee;have q3:=(g8.ne k3).symm;refine ⟨_,rfl,q,9,rfl,g8.same s9,zd,zd,fun d1 H10 hd g10 b10=>⟨zlx,fun t4 k4=>?_⟩⟩;obtain ⟨H11,ee,s11,e11⟩:=nL (.tup [.int (d1:Int),.int 1000,.bl false]) k4;rw [ee];clear ee;refine ⟨zlx,fun l2 n2=>?_⟩;obtain ⟨H12,ee,s12,e12⟩:=nL (.lst [.ref t3,.ref t4]) n2;rw [ee];clear ee;have s1112:=s11.trans s12;have b712:But q H7 H12:=((b8.same s9).trans b10).same s1112;refine ⟨l1,l2,_,_,rfl,rfl,b712 _ _ e7 ql,e12,zlx,fun l3 n3=>?_⟩;have s13:=ah (o:=.lst ([.non,.ref t1,.ref t2]++[.ref t3,.ref t4])) n3;have b13:=b712.same s13;have bA:But q H6 _:=((jq s7).trans b712).same s13;have s0:Same H _:=fW nq s1 ((b6.same s7).trans b13);have lp:=lY (n:=1+n0) zo;have lm:=lZ (m:=m0) zo;refine ⟨_,.ref l3,4+w0,1+n0,m0,4+c1,d1,rfl,⟨zo,zo,zo,zo,zo,zo,zo,zo⟩,s0.seq hS,⟨l3,t1,t2,t3,t4,rfl,ae,?_,?_,?_,?_⟩⟩
   ·show _=some (HO.tup [V.int ((pl4.take (1+n0)).length:Nat),.int (2 ^ (4+w0)),.bl true]);rw [lp,bA _ _ e4' q1];have:(1:Int)+(n0:Int)=((1+n0:Nat):Int):=by lia
    rw [this]
   ·show _=some (HO.tup [V.int ((mk4.take m0).length:Nat),.int 2,.bl true]);rw [lm];exact bA _ _ e6 q2
   ·show _=some (HO.tup [V.int ((4+c1:Nat):Int),.int (2 ^ (4+w0)),.bl true]);have:(4:Int)+(c1:Int)=((4+c1:Nat):Int):=by lia
    rw [<-this];exact s13 _ _ (s1112 _ _ (b10 _ _ e9 q3))
   ·exact s13 _ _ (s12 _ _ e11)
  clear g7 ql e7 s7 n1 g6 b6 e4' q2 e6 s6 k2 b5 g5 q1 e4 s4 k1 b3 g3 b2 g2 g1 s1 nq;clear H7 H6 H5 H4 H3 H2 H1;rintro σ H1 ⟨v1,sv,W,n,m,c,d,rfl,rg,hS1,hz⟩;obtain ⟨ls,t1,t2,t3,t4,rfl,el,z1,z2,z3,z4⟩:=id hz;have W24:=rg.w24;have c64:=rg.c64;have d8:=rg.d8;have n4:=rg.n4;have m3:=rg.m3;have lW:=mh (n:=W) zo;have lc:=mh (n:=c) zo;have ld:=mh (n:=d) zo;have a1:("word ":Str).length=5:=by decide +kernel
  have a2:(" ; cells ":Str).length=9:=by decide +kernel
  have a3:(" ; depth ":Str).length=9:=by decide +kernel
  have a4:(" ; places":Str).length=9:=by decide +kernel
  have a5:(" ; marks":Str).length=8:=by decide +kernel
  have a6:(" ; gate ; kind q ( ) { next }":Str).length=29:=by decide +kernel
  refine ⟨_,rfl,_,rfl,iu zo,_,_,rfl,rfl,zo,_,_,rfl,rfl,(by rw [cg];lia),_,rfl,ls,_,_,_,rfl,rfl,SqL.of el,BZ,t3,_,_,_,rfl,rfl,SqT.of z3,jx,_,rfl,iu (by show c < _;lia),_,_,rfl,rfl,(by rw [cg,cg];show _+(toString (c:Int):Str).length<=_;lia),?_⟩;have l1:(xF W c).length<=30:=by unfold xF;rw [cg,cg,cg];lia
  refine ⟨.str (xF W c),rfl,xF W c,_,rfl,rfl,zo,_,rfl,ls,_,_,_,rfl,rfl,SqL.of el,Df,t4,_,_,_,rfl,rfl,SqT.of z4,jx,_,rfl,iu (by show d < _;lia),_,_,rfl,rfl,(by rw [cg];show _+(toString (d:Int):Str).length<=_;lia),_,_,rfl,rfl,(by rw [cg,cg];show _+(toString (d:Int):Str).length+_<=_;lia),?_⟩;have l2:(nY W c d).length<=60:=by unfold nY;rw [cg,cg,cg];lia
  have z1':H1 t1=some (.tup [.int (n:Nat),.int (2 ^ W),.bl true]):=by
   have:=z1;rw [show (iJ W n m c d).places.length=n from lY n4] at this;exact this
  have z2':H1 t2=some (.tup [.int (m:Nat),.int 2,.bl true]):=by
   have:=z2;rw [show (iJ W n m c d).marks.length=m from lZ m3] at this;exact this
  refine ⟨.str (nY W c d),rfl,rfl,?_⟩;refine ⟨_,rfl,ls,_,_,_,rfl,rfl,SqL.of el,nW,t1,_,_,_,rfl,rfl,SqT.of z1',jx,(n:Int),rfl,zo,zo,?_⟩;refine jg (lo:=0) (n:=n) (fun j ys H'=>H'=H1/\ys=(pl4.take j).map fun z=>V.str (S (32::cp z))) ⟨rfl,rfl⟩ (fun j ys H' hj ⟨_,e⟩=>by rw [e,D8,Em];lia) ?_ ?_
  ·rintro i ys _ hi ⟨rfl,rfl⟩;obtain ⟨ch,z,hc,hz',hs⟩:=yr.2 i zo;refine ⟨trivial,dM ⟨_,rfl,_,_,ch,rfl,rfl,Ew yr.1 zo,hc,_,_,rfl,rfl,(by show 1+1<=sizeLine;lia),?_⟩⟩;rw [hs];refine Nx.mk hi ⟨rfl,?_⟩;rw [List.take_add_one,hz',Ek];rfl
  rintro ys _ ⟨rfl,rfl⟩ lq nlq;obtain ⟨H2,ee,s2,e2⟩:=nL (.lst ((pl4.take n).map fun z=>V.str (S (32::cp z)))) nlq;rw [ee];clear ee;have ln:(oa (pl4.take n)).length<=8/\((((pl4.take n).map fun z=>32::cp z)).map List.length).sum<=8:=by
   have:=ku (pl4.take n) fun z hz=>(by decide +kernel:∀ z∈pl4,(cp z).length<=1) z (E3 hz);rw [lY n4] at this;refine ⟨by unfold oa;rw [bL];lia,?_⟩;rw [<-List.length_flatten];lia
  have lm:(oa (mk4.take m)).length<=8/\((((mk4.take m).map fun z=>32::cp z)).map List.length).sum<=8:=by
   have:=ku (mk4.take m) fun z hz=>(by decide +kernel:∀ z∈mk4,(cp z).length<=1) z (E3 hz);rw [lZ m3] at this;refine ⟨by unfold oa;rw [bL];lia,?_⟩;rw [<-List.length_flatten];lia
  refine ⟨[],lq,(pl4.take n).map (fun z=>32::cp z),congrArg V.str zk,rfl,(by rw [Fs];exact SqL.of e2),(by have:=ln.2;show _+_*0<=_;lia),?_⟩;rw [pZ];refine ⟨nY W c d,oa (pl4.take n),rfl,rfl,zo,_,_,rfl,rfl,(by rw [cg];lia),?_⟩;have l3:(nY W c d++oa (pl4.take n)++" ; marks").length<=80:=by rw [cg,cg];lia
  refine ⟨.str (nY W c d++oa (pl4.take n)++" ; marks"),rfl,rfl,?_⟩;refine ⟨_,rfl,ls,_,_,_,rfl,rfl,SqL.of (s2 _ _ el),BY,t2,_,_,_,rfl,rfl,SqT.of (s2 _ _ z2'),jx,(m:Int),rfl,zo,zo,?_⟩;refine jg (lo:=0) (n:=m) (fun j ys H'=>H'=H2/\ys=(mk4.take j).map fun z=>V.str (S (32::cp z))) ⟨rfl,rfl⟩ (fun j ys H' hj ⟨_,e⟩=>by rw [e,D8,Em];lia) ?_ ?_
  ·rintro i ys _ hi ⟨rfl,rfl⟩;obtain ⟨ch,z,hc,hz',hs⟩:=yt.2 i zo;refine ⟨trivial,dM ⟨_,rfl,_,_,ch,rfl,rfl,Ew yt.1 zo,hc,_,_,rfl,rfl,(by show 1+1<=sizeLine;lia),?_⟩⟩;rw [hs];refine Nx.mk hi ⟨rfl,?_⟩;rw [List.take_add_one,hz',Ek];rfl
  rintro ys _ ⟨rfl,rfl⟩ lq nlq;obtain ⟨H3,ee,s3,e3⟩:=nL (.lst ((mk4.take m).map fun z=>V.str (S (32::cp z)))) nlq;rw [ee];clear ee;refine ⟨[],lq,(mk4.take m).map (fun z=>32::cp z),congrArg V.str zk,rfl,(by rw [Fs];exact SqL.of e3),(by have:=lm.2;show _+_*0<=_;lia),?_⟩;rw [pZ];refine ⟨nY W c d++oa (pl4.take n)++" ; marks",oa (mk4.take m),rfl,rfl,zo,?_⟩;refine ⟨.str (nY W c d++oa (pl4.take n)++" ; marks"++oa (mk4.take m)),rfl,nY W c d++oa (pl4.take n)++" ; marks"++oa (mk4.take m),_,rfl,rfl,(by rw [cg];lia),?_⟩;have s13:=s2.trans s3;refine ⟨?_,?_⟩;rotate_left
  ·refine ⟨_,rfl,BJ (zN rg) (xG rg) fun v H4 s4 hT=>?_⟩;have s14:=s13.trans s4;exact ⟨_,_,_,v,.ref ls,W,n,m,c,d,rfl,rg,s14.seq hS1,hT,hz.same s14⟩
  clear s13 e3 s3 nlq e2 s2 hS1 hz z1 z2 z3 z4 z1' z2' el l3 l2 l1 lm ln lW lc ld;clear a1 a2 a3 a4 a5 a6 W24 c64 d8 n4 m3 rg;rintro σ H1 ⟨v1,v2,v4,v,sv,W,n,m,c,d,rfl,rg,lf⟩;have k14:=zN rg;have dm:sk (iJ W n m c d):=⟨rg.w24,k14.fm.p4,k14.fm.m3,rg.c64,rg.d8⟩;refine ⟨_,rfl,l,_,rfl,.inl lf.sq,_,_,rfl,_,_,rfl,_,rfl,?_,?_,?_⟩
  ·split<;>(try split)<;>lia
  ·rw [D8];split<;>(try split)<;>lia
  refine dN (lo:=0) (DG C K l ns v2 v4 v sv (iJ W n m c d)) ⟨_,_,_,_,_,_,_,_,rfl,lf,.inl rfl⟩ ?_ ?_
  ·rintro i σ H1 hi ⟨v1,b6,b7,b8,b9,b10,b11,b12,rfl,lf,_⟩;refine ⟨_,rfl,_,rfl,l,ns,0+(i:Int),rfl,lf.sq,zo,fun c0=>⟨c0,rfl,fun q H2 nq s2 g2=>?_⟩⟩;refine ⟨_,rfl,q,1000,rfl,g2,zd,zd,fun r0 H3 h0 g3 b3=>⟨zlx,fun l3 n3=>?_⟩⟩;obtain ⟨H4,ee,s4,e4⟩:=nL (.lst [.int 0,.int 999,.int (r0:Nat)]) n3;rw [ee];clear ee;refine ⟨_,rfl,q,3,rfl,g3.same s4,zd,zd,fun j0 H5 hj g5 b5=>?_⟩;obtain ⟨a0,ha⟩:∃ a:Nat,([V.int 0,.int 999,.int (r0:Nat)]:List V)[j0]?=some (.int (a:Nat)):=by
    rcases (by lia:j0=0\/j0=1\/j0=2) with rfl|rfl|rfl
    ·exact ⟨0,rfl⟩
    ·exact ⟨999,rfl⟩
    ·exact ⟨r0,rfl⟩
   refine ⟨l3,_,_,_,rfl,rfl,SqL.of (b5 _ _ e4 (g3.ne n3).symm),bq ha,zlx,fun lt nt=>?_⟩;have sb:Same H1 H5:=fW nq s2 ((b3.same s4).trans b5);have tv:Tv H1 (upd H5 lt (.lst [.int (a0:Nat)])) q lt [.int (a0:Nat)] [.int (a0:Nat)]:=⟨sb.trans (ah nt),nq,none_of sb nt,g5.same (ah nt),g5.ne nt,ae,.cons (fun _ _=>.int _) .nil,fun t ht=>by rw [Eg.mp ht];exact Ep _⟩;generalize upd H5 lt (.lst [V.int (a0:Nat)])=H6 at *;clear sb nt ha hj g5 b5 e4 s4 n3 h0 g3 b3 s2 g2 nq;obtain ⟨ls,t1,t2,t3,t4,rfl,el,z1,z2,z3,z4⟩:=id lf.sz;refine ⟨_,rfl,_,rfl,ls,_,rfl,SqL.of (tv.sb _ _ el),fun l4 n4=>?_⟩;have ec:eY [V.non,.ref t1,.ref t2,.ref t3,.ref t4] (some 1) none=[.ref t1,.ref t2,.ref t3,.ref t4]:=rfl;rw [ec];clear ec;obtain ⟨H7,ee,s7,e7⟩:=nL (.lst [.ref t1,.ref t2,.ref t3,.ref t4]) n4;rw [ee];clear ee;have n4q:=(tv.g.ne n4).symm;have n4l:=cb n4 tv.e
   replace tv:=tv.same s7
   refine ⟨l4,rfl,⟨_,SqL.of e7⟩,?_⟩;refine gG (K:=K) (xs:=[.ref t1,.ref t2,.ref t3,.ref t4]) (B7 l q lt ls v v2 v4 i H1 (fun k=>1+k) fun H'=>H' l4=some (.lst [.ref t1,.ref t2,.ref t3,.ref t4])) ⟨_,_,_,_,_,_,_,rfl,tv,rfl,e7⟩ (fun k σ H' hk ⟨_,_,_,_,_,_,_,_,_,_,e⟩=>SqL.of e) ?_ ?_
   ·clear tv e7;rintro k u σ H8 hu ⟨b8,b9,b10,b11,b12,vs,ts,rfl,tv,lv,e8⟩
    replace lv:vs.length=1+k:=lv
    have hk:k < 4:=(D7.mp hu).1;obtain ⟨tz,nn,bb,ex,hx,ez,hn,hb2,hb24⟩:=DF dm z1 z2 z3 z4 rg.w4 hk;rw [hu] at hx;cases hx;have ez:=tv.sb _ _ ez;refine ⟨tz,_,rfl,SqT.of ez,rfl,_,_,rfl,_,_,rfl,_,_,rfl,rfl,?_⟩;refine ⟨_,rfl,.inl ⟨rfl,_,SqL.of tv.e⟩,_,rfl,_,rfl,_,rfl,_,_,rfl,rfl,q,nn+1,rfl,tv.g,zo,zo,fun r H9 hr9 g9 b9'=>⟨_,rfl,zlx,fun l5 n5=>?_⟩⟩;have tv9:=tv.but g9 b9';have e9:=b9' _ _ e8 n4q;obtain ⟨H10,ee,s10,e10⟩:=nL (.lst [.int (r:Nat),.int (nn:Nat)]) n5;rw [ee];clear ee;have tv10:=tv9.same s10;obtain ⟨mm,hm,hat⟩:∃ mm:Nat,mm<=64/\j8 [V.int (r:Nat),.int (nn:Nat)] (if ex=true then 1 else 0)=some (.int (mm:Nat)):=by
     cases ex with
     | true=>exact ⟨nn,hn,nW⟩
     | false=>exact ⟨r,zo,jx⟩
    refine ⟨_,rfl,.inr ⟨ex,rfl,l5,_,_,_,rfl,rfl,SqL.of e10,hat,_,rfl,q,mm,bb,rfl,tv10.g,hm,hb2,hb24,fun lx nsx H11 hlx hbx nlx elx g11 b11'=>?_⟩⟩;have tv11:=tv10.but g11 b11';refine ⟨lt,vs,_,rfl,rfl,tv11.e,zo,_,_,_,_,_,_,_,rfl,tv11.app (t:=.lst (natT nsx)) (fun a ha=>.lst (tv10.gk.ne ha nlx) elx (tgb_nat (G:=fun a=>a=q\/a=lt) nsx a ha)) ?_,by rw [D9,lv];rfl,?_⟩
    ·show (natT nsx).length<=100;unfold natT;rw [D8];lia
    ·rw [aj n4l];exact b11' _ _ (s10 _ _ e9) n4q
   clear tv e7;rintro σ H8 ⟨b8,b9,b10,b11,b12,vs,ts,rfl,tv,lv,_⟩
   replace lv:vs.length=5:=lv
   refine ⟨5,rfl,zd,zd,?_⟩;refine dN (lo:=0) (n:=5) (B7 l q lt ls v v2 v4 i H1 (fun _=>5) fun _=>True) ⟨_,_,_,_,_,vs,ts,rfl,tv,lv,trivial⟩ ?_ ?_
   ·clear tv lv;rintro k σ H9 hk ⟨b8,b9,b10,b11,b12,vs,ts,rfl,tv,lv,_⟩
    replace lv:vs.length=5:=lv
    refine ⟨_,rfl,q,4,rfl,tv.g,zd,zd,fun r H10 hr10 g10 b10'=>⟨rfl,_,rfl,?_⟩⟩;have tv10:=tv.but g10 b10';by_cases h0:r=0
    ·refine bR (decide_eq_true (by rw [h0];rfl)) ⟨_,rfl,_,rfl,lt,vs,_,k,rfl,rfl,tv10.e,(by rw [Int.zero_add];exact mi zo),_,_,_,_,_,_,_,rfl,tv10.set k (fun _ _=>.non) (Ep _),by rw [List.length_set];exact lv,trivial⟩
    ·exact bE (decide_eq_false fun z=>h0 (by have:=V.int.inj z;lia)) ⟨_,_,_,_,_,_,_,rfl,tv10,lv,trivial⟩
   clear tv lv;rintro σ H9 ⟨b8,b9,b10,b11,b12,vs,ts,rfl,tv,lv,_⟩
   replace lv:vs.length=5:=lv
   refine ⟨_,rfl,q,3,rfl,tv.g,zd,zd,fun rr H10 hrr g10 b10'=>⟨(rr:Int),rfl,zo,zo,?_⟩⟩;have tv10:=tv.but g10 b10';refine dN (lo:=0) (n:=rr) (B7 l q lt ls v v2 v4 i H1 (fun _=>5) fun _=>True) ⟨_,_,_,_,_,vs,ts,rfl,tv10,lv,trivial⟩ ?_ ?_
   ·clear tv lv tv10;rintro k σ H11 hk ⟨b8,b9,b10,b11,b12,vs,ts,rfl,tv,lv,_⟩
    replace lv:vs.length=5:=lv
    refine ⟨_,rfl,q,5,rfl,tv.g,zd,zd,fun j H12 hj g12 b12'=>?_⟩;have tv12:=tv.but g12 b12';have lt5:=tv12.len;refine ⟨_,rfl,rfl,_,rfl,?_⟩;obtain ⟨u,hu⟩:∃ u,vs[j]?=some u:=⟨_,EF zo⟩;obtain ⟨t,ht,_⟩:=(tv12.tg q (.inl rfl)).get hu;have tu:TgG (fun a=>a=q\/a=lt) H12 u t:=fun a ha=>by
     obtain ⟨t',ht',tv'⟩:=(tv12.tg a ha).get hu;rw [ht] at ht';cases ht';exact tv'
    have hzt:=tv12.sz t (EV ht);by_cases j0:j=0
    ·subst j0;refine bR (decide_eq_true rfl) ⟨_,rfl,lt,_,_,_,rfl,rfl,SqL.of tv12.e,bq (j:=0) hu,rfl,_,rfl,?_⟩;by_cases hn:u=.non
     ·refine bE (by rw [decide_eq_true hn];rfl) ⟨_,rfl,_,rfl,lt,_,_,_,rfl,rfl,SqL.of tv12.e,bq (j:=0) hu,rfl,_,rfl,bE (by rw [decide_eq_true hn];rfl) ?_⟩;exact ⟨_,_,_,_,_,vs,ts,rfl,tv12,lv,trivial⟩
     ·refine bR (by rw [decide_eq_false hn];rfl) ?_;refine ⟨_,rfl,fun a=>a=q\/a=lt,q,.int 0,.int 0,0,1000,true,rfl,tv12.gk,fun _ _=>.int 0,Ep _,zd,fun u' t' H13 tg' sz' g13 b13=>?_⟩;have tv13:=tv12.but g13 b13;exact ⟨_,rfl,lt,vs,0,0,rfl,rfl,tv13.e,mi (i:=0) zo,_,_,_,_,_,_,_,rfl,tv13.set 0 tg' sz',by rw [List.length_set];exact lv,trivial⟩
    ·refine bE (decide_eq_false fun z=>j0 (by have:=V.int.inj z;lia)) ?_;refine ⟨_,rfl,_,rfl,lt,_,_,_,rfl,rfl,SqL.of tv12.e,bq hu,rfl,_,rfl,?_⟩;by_cases hn:u=.non
     ·exact bE (by rw [decide_eq_true hn];rfl) ⟨_,_,_,_,_,vs,ts,rfl,tv12,lv,trivial⟩
     ·refine bR (by rw [decide_eq_false hn];rfl) ?_;obtain ⟨tz,nn,bb,ex,hx,ez,hnn,hb2,hb24⟩:=DF dm z1 z2 z3 z4 rg.w4 (i:=j - 1) zo;have hx':[V.non,.ref t1,.ref t2,.ref t3,.ref t4][j]?=some (.ref tz):=by
       obtain ⟨j',rfl⟩:∃ j',j=j'+1:=⟨j - 1,zo⟩;exact hx
      have ez:=tv12.sb _ _ ez;refine ⟨_,rfl,_,rfl,ls,_,_,_,rfl,rfl,SqL.of (tv12.sb _ _ el),bq hx',tz,_,rfl,SqT.of ez,rfl,_,_,rfl,_,_,rfl,_,_,rfl,rfl,?_⟩;refine ⟨_,rfl,_,rfl,_,rfl,lt,_,_,_,rfl,rfl,SqL.of tv12.e,bq hu,_,rfl,_,rfl,_,rfl,fun a=>a=q\/a=lt,q,u,t,nn,bb,ex,rfl,tv12.gk,tu,hzt,hnn,fun u' t' H13 tg' sz' g13 b13=>?_⟩;have tv13:=tv12.but g13 b13;exact ⟨_,rfl,_,rfl,lt,vs,j,j,rfl,rfl,tv13.e,mi zo,_,_,_,_,_,_,_,rfl,tv13.set j tg' sz',by rw [List.length_set];exact lv,trivial⟩
   clear tv lv tv10;rintro σ H11 ⟨b8,b9,b10,b11,b12,vs,ts,rfl,tv,lv,_⟩
   replace lv:vs.length=5:=lv
   have lt5:=tv.len;obtain ⟨x0,x1,x2,x3,x4,rfl⟩:=yu lv;obtain ⟨y0,y1,y2,y3,y4,rfl⟩:=yu (l:=ts) (by rw [<-lt5];exact lv);have tga:=tv.tg q (.inl rfl);obtain ⟨_,_,e,g0,tga⟩:=tga.un;cases e;obtain ⟨_,_,e,g1,tga⟩:=tga.un;cases e;obtain ⟨_,_,e,g2,tga⟩:=tga.un;cases e;obtain ⟨_,_,e,g3,tga⟩:=tga.un;cases e;obtain ⟨_,_,e,g4,_⟩:=tga.un;cases e;obtain ⟨oq,hoq⟩:∃ o,H11 q=some o:=by
    obtain ⟨a,b,c',e⟩:=tv.g;exact ⟨_,e⟩
   have lf11:=lf.same tv.sb;have sz:=tv.sz;refine ⟨_,rfl,_,rfl,_,rfl,q,lt,oq,v,.ref ls,iJ W n m c d,⟨x0,x1,x2,x3,x4⟩,⟨y0,y1,y2,y3,y4⟩,rfl,hoq,lf11.tb,dm,⟨tv.e,g0,g1,g2,g3,g4⟩,⟨sz y0 (by simp),sz y1 (by simp),sz y2 (by simp),sz y3 (by simp),sz y4 (by simp)⟩,lf11.sz,fun H12 s12=>⟨_,rfl,aZ ?_⟩⟩;exact ⟨_,_,_,_,_,_,_,_,rfl,lf11.same s12,.inr ⟨q,H1,rfl,tv.g.same s12,tv.nq,tv.sb.trans s12,lf⟩⟩
  rintro σ H2 ⟨v1,b6,b7,b8,b9,b10,b11,b12,rfl,lf2,hq⟩;have hq':∃ q Hb,v1=some (.ref q)/\Strm H2 q/\Hb q=none/\Same Hb H2/\Lf C K l ns v sv (iJ W n m c d) Hb:=by
   rcases hq with hq|hq
   ·exfalso;revert hq;rw [D8];split<;>(try split)<;>lia
   ·exact hq
  clear hq lf2 lf;obtain ⟨q,Hb,rfl,g2,nq,sb,lf⟩:=hq';refine ⟨_,rfl,_,rfl,_,rfl,q,6,rfl,g2,zd,zd,fun k H3 hk g3 b3=>?_⟩;have s3:=fW nq sb b3;have lf3:=lf.same s3;refine ⟨v,sv,W,n,m,c,d,k,rfl,hk,rg,lf3.tb,lf3.sz,fun H4 s4=>⟨_,rfl,aZ ?_⟩⟩;have lf4:=lf3.same s4;clear g3 b3 s3 lf3 s4 sb nq g2;obtain ⟨q0,o0,hv,hq0⟩:∃ q0 o,v=.ref q0/\H4 q0=some o:=by
   obtain ⟨a,dx,pp,pm,pn,pk,us,rfl,ho,_⟩:=id lf4.tb;exact ⟨a,_,rfl,ho⟩
  refine ⟨_,rfl,q0,o0,v,.int 0,.non,.non,.non,.non,iJ W n m c d,.int 0,.non,.non,.non,.non,rfl,hq0,lf4.tb,dm.w,dm.p,dm.m,dm.c,dm.d,.int 0,.non,.non,.non,.non,(fun z hz=>by cases hz),fun _ H5 x dx p5 m5 c5 l5 s5 hO _ _ _ _ _=>?_⟩;refine ⟨x,dx,Cs,f1,_,fd1,1,["self"],_,rfl,hO.ex,rfl,TS.cl,M1,F1,hr.m,B1,x,dx,p5,m5,c5,l5,_,_,_,_,_,_,_,rfl,hO,fun u H6 s6 tl=>?_⟩;refine ⟨zlx,fun l7 n7=>?_⟩;obtain ⟨H7,ee,s7,e7⟩:=nL (.lst [.non]) n7;rw [ee];clear ee;refine rep_any (n:=5) zd e7 fun l8 n8=>?_;obtain ⟨H8,ee,s8,e8⟩:=nL (.lst (List.replicate 5 .non)) n8;rw [ee];clear ee;have s78:=s7.trans s8;have s48:=s5.trans (s6.trans s78);refine ⟨_,rfl,q0,l8,sv,iJ W n m c d,⟨.non,.non,.non,.non,.non⟩,⟨.non,.non,.non,.non,.non⟩,rfl,⟨e8,.non,.non,.non,.non,.non⟩,⟨Ep _,Ep _,Ep _,Ep _,Ep _⟩,(lf4.same s48).sz,dm,(fun z r H9 hf _ _=>by cases hf),fun u2 r H9 _ s9 hu er=>?_⟩;refine ⟨r,_,_,_,rfl,rfl,SqT.of er,nW,?_⟩;unfold xA at hu;rw [cC,cC,cC,cC] at hu tl;exact zW (tl.same (s78.trans s9)) hu (qq _)
end
abbrev zY:Stmt:=ci 104
variable {p:List Value->Prop}
theorem Dg (h:∀ a0,p [a0]):∀ us:List Value,us.length=1->p us:=fun us hl=>match us,hl with|[a0],_=>h a0
theorem vP (h:∀ a0 a1,p [a0,a1]):∀ us:List Value,us.length=2->p us:=fun us hl=>match us,hl with|[a0,a1],_=>h a0 a1
theorem Dh (h:∀ a0 a1 a2,p [a0,a1,a2]):∀ us:List Value,us.length=3->p us:=fun us hl=>match us,hl with|[a0,a1,a2],_=>h a0 a1 a2
theorem Di (h:∀ a0 a1 a2 a3,p [a0,a1,a2,a3]):∀ us:List Value,us.length=4->p us:=fun us hl=>match us,hl with|[a0,a1,a2,a3],_=>h a0 a1 a2 a3
theorem Dj (h:∀ a0 a1 a2 a3 a4,p [a0,a1,a2,a3,a4]):∀ us:List Value,us.length=5->p us:=fun us hl=>match us,hl with|[a0,a1,a2,a3,a4],_=>h a0 a1 a2 a3 a4
theorem Dk (h:∀ a0 a1 a2 a3 a4 a5,p [a0,a1,a2,a3,a4,a5]):∀ us:List Value,us.length=6->p us:=fun us hl=>match us,hl with|[a0,a1,a2,a3,a4,a5],_=>h a0 a1 a2 a3 a4 a5
theorem Dl (h:∀ a0 a1 a2 a3 a4 a5 a6 a7,p [a0,a1,a2,a3,a4,a5,a6,a7]):∀ us:List Value,us.length=8->p us:=fun us hl=>match us,hl with|[a0,a1,a2,a3,a4,a5,a6,a7],_=>h a0 a1 a2 a3 a4 a5 a6 a7
def bi (K:ZF) (x:Str) (st:Stmt) (f:Addr):Prop:=
 PySem.W.nsIn K mainGlobals x=some (some (.ref f))/\∃ fd:FuncData,Fun K x x st f fd
variable {x:Str}
theorem zZ {st:Stmt} {oc:Value} {od an:Option Addr} {osl:Array (Option Value)} {kV doc pm cdv ct:Value} (a:PySem.W.nsIn K mainGlobals x=some (some (.ref f)))
  (l:K.lookup f=some ⟨oc,od,.func (PySem.W.fnOf x x (cv st) (bP st) (ai st) .none kV doc pm an cdv ct),osl⟩) (c:PySem.W.codeIn K cdv x=true) (k:PySem.W.keepIn K (.ref f)=true):bi K x st f:=⟨a,_,tt l c k⟩
theorem BM {P:Program} {w:World} {K:ZF} {mg:Str->Option Value} {base h:Heap} {x:Str} {st:Stmt} {f:Addr} {k:Nat} {ps:List Str} {sp:Sp} (X:K.In h) (G:h.Ns mainGlobals mg) (D:bi K x st f)
  (ok:∀ fd,Fun K x x st f fd->FnOk P w K mg base bM k f fd ps sp)
  (hb:∀ (kV doc pm:Value) (an:Option Addr) (cdv ct:Value) (us:List Value),us.length=ps.length->bindArgs (PySem.W.fnOf x x (cv st) (bP st) (ai st) .none kV doc pm an cdv ct) ⟨us,[]⟩=pure (ps.zip us):=by intro _ _ _ _ _ _;first|exact Dg fun _=>rfl|exact vP fun _ _=>rfl|exact Dh fun _ _ _=>rfl|exact Di fun _ _ _ _=>rfl|exact Dj fun _ _ _ _ _=>rfl|exact Dk fun _ _ _ _ _ _=>rfl|exact Dl fun _ _ _ _ _ _ _ _=>rfl):Fn P w K mg base x k ps sp:=by
 obtain ⟨a,fd,F⟩:=D;exact ⟨f,fd,Ej X G a,F.kp,F.binds hb,ok fd F⟩
def BN (K:ZF) (x:Str) (st:Stmt) (f:Addr):Prop:=
 PySem.W.nsIn K mainGlobals x=some (some (.ref f))/\∃ fd:FuncData,FunD K x x st f fd
theorem xH {st:Stmt} {f d:Addr} {oc:Value} {od an:Option Addr} {osl:Array (Option Value)} {kV doc pm cdv ct:Value} {n:Nat} {oc2:Value} {od2:Option Addr} {osl2:Array (Option Value)} (a:PySem.W.nsIn K mainGlobals x=some (some (.ref f)))
  (l:K.lookup f=some ⟨oc,od,.func (PySem.W.fnOf x x (cv st) (bP st) (ai st) (.ref d) kV doc pm an cdv ct),osl⟩) (e:K.lookup d=some ⟨oc2,od2,.seq #[.none] n,osl2⟩) (c:PySem.W.codeIn K cdv x=true) (k:PySem.W.keepIn K (.ref f)=true):BN K x st f:=
 ⟨a,_,⟨⟨oc,od,kV,doc,pm,an,cdv,ct,osl,d,_,n,rfl,l,c,e,rfl⟩,k⟩⟩
def BP (K:ZF) (tk:Tok) (f:Addr):Prop:=
 PySem.W.nsIn K mainGlobals "state_of"=some (some (.ref f))/\∃ fd:FuncData,FunDs K "state_of" "state_of" cz (pC tk) f fd
theorem xI {f d:Addr} {tk:Tok} {oc:Value} {od an:Option Addr} {osl:Array (Option Value)} {kV doc pm cdv ct:Value} {n:Nat} {oc2:Value} {od2:Option Addr} {osl2:Array (Option Value)} (a:PySem.W.nsIn K mainGlobals "state_of"=some (some (.ref f)))
  (l:K.lookup f=some ⟨oc,od,.func (PySem.W.fnOf "state_of" "state_of" (cv cz) (bP cz) (ai cz) (.ref d) kV doc pm an cdv ct),osl⟩) (e:K.lookup d=some ⟨oc2,od2,.seq #[.int 0 tk,.none,.none,.none,.none] n,osl2⟩) (c:PySem.W.codeIn K cdv "state_of"=true) (k:PySem.W.keepIn K (.ref f)=true):BP K tk f:=
 ⟨a,_,⟨⟨oc,od,kV,doc,pm,an,cdv,ct,osl,d,_,n,rfl,l,c,e,rfl⟩,k⟩⟩
structure z9 (K:ZF) (x qual:Str) (st:Stmt) (f:Addr):Prop where
 fu:∃ fd:FuncData,FunDs K x qual st #[.none] f fd
 fn:PySem.W.isFn K (.ref f)=true
theorem xJ {K:ZF} {x qual:Str} {st:Stmt} {f d:Addr} {oc:Value} {od an:Option Addr} {osl:Array (Option Value)} {kV doc pm cdv ct:Value} {m:Nat} {oc2:Value} {od2:Option Addr} {osl2:Array (Option Value)}
  (l:K.lookup f=some ⟨oc,od,.func (PySem.W.fnOf x qual (cv st) (bP st) (ai st) (.ref d) kV doc pm an cdv ct),osl⟩) (e:K.lookup d=some ⟨oc2,od2,.seq #[.none] m,osl2⟩) (c:PySem.W.codeIn K cdv qual=true) (k:PySem.W.keepIn K (.ref f)=true) (n:PySem.W.isFn K (.ref f)=true):z9 K x qual st f:=
 ⟨⟨_,⟨⟨oc,od,kV,doc,pm,an,cdv,ct,osl,d,_,m,rfl,l,c,e,rfl⟩,k⟩⟩,n⟩
structure gE (K:ZF) (x qual:Str) (st:Stmt) (f:Addr):Prop where
 fu:∃ fd:FuncData,Fun K x qual st f fd
 fn:PySem.W.isFn K (.ref f)=true
theorem Aa {K:ZF} {x qual:Str} {st:Stmt} {f:Addr} {oc:Value} {od an:Option Addr} {osl:Array (Option Value)} {kV doc pm cdv ct:Value}
  (l:K.lookup f=some ⟨oc,od,.func (PySem.W.fnOf x qual (cv st) (bP st) (ai st) .none kV doc pm an cdv ct),osl⟩) (c:PySem.W.codeIn K cdv qual=true) (k:PySem.W.keepIn K (.ref f)=true) (n:PySem.W.isFn K (.ref f)=true):gE K x qual st f:=⟨⟨_,tt l c k⟩,n⟩
theorem Ab {P:Program} {w:World} {K:ZF} {mg:Str->Option Value} {base:Heap} {Cc f:Addr} {x qual:Str} {st:Stmt} {k:Nat} {ps:List Str} {sp:Sp} (a:PySem.W.findIn K (.ref Cc) x=some (some (.ref f))) (D:gE K x qual st f)
  (ok:∀ fd,Fun K x qual st f fd->FnOk P w K mg base bM k f fd ps sp)
  (hb:∀ (kV doc pm:Value) (an:Option Addr) (cdv ct:Value) (us:List Value),us.length=ps.length->bindArgs (PySem.W.fnOf x qual (cv st) (bP st) (ai st) .none kV doc pm an cdv ct) ⟨us,[]⟩=pure (ps.zip us):=by intro _ _ _ _ _ _;first|exact Dg fun _=>rfl|exact vP fun _ _=>rfl|exact Dh fun _ _ _=>rfl|exact Di fun _ _ _ _=>rfl|exact Dj fun _ _ _ _ _=>rfl|exact Dk fun _ _ _ _ _ _=>rfl|exact Dl fun _ _ _ _ _ _ _ _=>rfl):bT P w K mg base Cc x k ps sp:=by
 obtain ⟨⟨fd,F⟩,n⟩:=D;exact ⟨f,fd,⟨a,n,F.kp⟩,ok fd F,F.binds hb⟩
theorem Ac {P:Program} {w:World} {K:ZF} {mg:Str->Option Value} {base:Heap} {f:Addr} {x qual:Str} {st:Stmt} {ps:List Str} {sp:Sp} (D:gE K x qual st f)
  (ok:∀ fd,Fun K x qual st f fd->FnOk P w K mg base bM 1 f fd ps sp)
  (hb:∀ (kV doc pm:Value) (an:Option Addr) (cdv ct:Value) (us:List Value),us.length=ps.length->bindArgs (PySem.W.fnOf x qual (cv st) (bP st) (ai st) .none kV doc pm an cdv ct) ⟨us,[]⟩=pure (ps.zip us):=by intro _ _ _ _ _ _;first|exact Dg fun _=>rfl|exact vP fun _ _=>rfl|exact Dh fun _ _ _=>rfl|exact Di fun _ _ _ _=>rfl|exact Dj fun _ _ _ _ _=>rfl|exact Dk fun _ _ _ _ _ _=>rfl|exact Dl fun _ _ _ _ _ _ _ _=>rfl):∃ fd,FnOk P w K mg base bM 1 f fd ps sp/\Binds K fd ps []:=by
 obtain ⟨⟨fd,F⟩,n⟩:=D;exact ⟨fd,ok fd F,F.binds hb⟩
def NaAll (K:ZF) (c:Addr):List Str->Prop
 | []=>True
 | f::r=>NoAttr K c f/\NaAll K c r
variable {c:Addr}
theorem NaAll.get:∀ {l:List Str},NaAll K c l->∀ f∈l,NoAttr K c f
 | [],_,f,hf=>absurd hf (by simp)
 | g::r,h,f,hf=>by
  rcases Eo.mp hf with rfl|hf
  ·exact h.1
  ·exact NaAll.get h.2 f hf
structure CK (K:ZF) (n:Str) (c i:Addr) (fl:List Str):Prop where
 ns:PySem.W.nsIn K mainGlobals n=some (some (.ref c))
 cls:Cls K c
 na:NaAll K c fl
 mk_:Mk K c i
theorem nZ {n:Str} {c i:Addr} {fl:List Str} (ns:PySem.W.nsIn K mainGlobals n=some (some (.ref c))) (g1:PySem.W.plainGet K c Str.empty=true) (g2:PySem.W.hasDictIn K c=true) (g3:PySem.W.plainOver K c=true)
  (g4:PySem.W.findIn K (.ref c) "__setattr__"=some (some (.builtin "object.__setattr__"))) (m1:PySem.W.makesIn K c=true) (m2:PySem.W.findIn K (.ref c) "__init__"=some (some (.ref i))) (m3:PySem.W.isFn K (.ref i)=true) (m4:PySem.W.keepIn K (.ref c)=true) (na:NaAll K c fl):CK K n c i fl:=
 ⟨ns,⟨g1,g2,g3,g4⟩,na,⟨m1,m2,m3,m4⟩⟩
variable {p0 p1:Str}
theorem DZ (x0:PySem.W.findIn K (.ref c) p0=some none) (x1:PySem.W.findIn K (.ref c) p1=some none):NaAll K c [p0,p1]:=⟨x0,x1,trivial⟩
variable {p2:Str}
theorem D0 (x0:PySem.W.findIn K (.ref c) p0=some none) (x1:PySem.W.findIn K (.ref c) p1=some none) (x2:PySem.W.findIn K (.ref c) p2=some none):NaAll K c [p0,p1,p2]:=⟨x0,x1,x2,trivial⟩
variable {p3 p4 p5:Str}
theorem D1 (x0:PySem.W.findIn K (.ref c) p0=some none) (x1:PySem.W.findIn K (.ref c) p1=some none) (x2:PySem.W.findIn K (.ref c) p2=some none) (x3:PySem.W.findIn K (.ref c) p3=some none) (x4:PySem.W.findIn K (.ref c) p4=some none) (x5:PySem.W.findIn K (.ref c) p5=some none):NaAll K c [p0,p1,p2,p3,p4,p5]:=⟨x0,x1,x2,x3,x4,x5,trivial⟩
variable {p6:Str}
theorem D2 (x0:PySem.W.findIn K (.ref c) p0=some none) (x1:PySem.W.findIn K (.ref c) p1=some none) (x2:PySem.W.findIn K (.ref c) p2=some none) (x3:PySem.W.findIn K (.ref c) p3=some none) (x4:PySem.W.findIn K (.ref c) p4=some none) (x5:PySem.W.findIn K (.ref c) p5=some none) (x6:PySem.W.findIn K (.ref c) p6=some none):NaAll K c [p0,p1,p2,p3,p4,p5,p6]:=⟨x0,x1,x2,x3,x4,x5,x6,trivial⟩
theorem D3 {p0 p1 p2 p3 p4 p5 p6 p7:Str} (x0:PySem.W.findIn K (.ref c) p0=some none) (x1:PySem.W.findIn K (.ref c) p1=some none) (x2:PySem.W.findIn K (.ref c) p2=some none) (x3:PySem.W.findIn K (.ref c) p3=some none) (x4:PySem.W.findIn K (.ref c) p4=some none) (x5:PySem.W.findIn K (.ref c) p5=some none) (x6:PySem.W.findIn K (.ref c) p6=some none) (x7:PySem.W.findIn K (.ref c) p7=some none):NaAll K c [p0,p1,p2,p3,p4,p5,p6,p7]:=⟨x0,x1,x2,x3,x4,x5,x6,x7,trivial⟩
theorem dw:∀ (zs:List Str) (ts:List Tok),ts.length=zs.length->Vals (zs.map V.str) ((zs.zip ts).map fun p=>Value.str p.1 p.2)
 | [],_,_=>.nil
 | z::r,[],h=>by cases h
 | z::r,t::u,h=>.cons ⟨t,rfl⟩ (dw r u (by simpa using h))
structure BQ (K:ZF) (nm:Str) (bm:List Value) (C:Addr):Prop where
 ns:PySem.W.nsIn K mainGlobals nm=some (some (.ref C))
 c:XC K C nm bm
theorem Ad {nm:Str} {bm:List Value} {q:Str} {N:Addr} {bs:List Value} {sn:List Str} {sub:List Value} {ab:Bool} {col:Option Bool} {dd:Option Addr} {k0 k1 k2 k3 k5:Option Value} (tl:XB.Tail bm) (a:PySem.W.nsIn K mainGlobals nm=some (some (.ref C))) (l:K.lookup C=some (excClassObj nm q C N bs bm true sn sub ab col dd k0 k1 k2 k3 k5 "ValueError.__new__"))
  (g1:PySem.W.findIn K (.ref C) "__getattribute__"=some (some (.builtin "BaseException.__getattribute__"))) (g2:PySem.W.findIn K (.ref C) "__getattr__"=some none) (g3:PySem.W.findIn K (.ref C) "__setattr__"=some (some (.builtin "object.__setattr__"))) (g4:PySem.W.findIn K (.ref C) "__class__"=some (some (.builtin "object.__class__"))):BQ K nm bm C:=
 ⟨a,⟨tl,⟨q,N,bs,sn,sub,ab,col,dd,k0,k1,k2,k3,k5,l⟩,g1,g2,g3,g4⟩⟩
theorem D4:XB.Tail XB.bmV:=.inl rfl
variable {R:Addr}
theorem D5:XB.Tail (bmR R):=.inr ⟨R,rfl⟩
theorem mj {t1 t2 t3 t4 t5 t6 t7 t8 t9 t10 t11 t12 t13 t14 t15 t16 t17 t18 t19 t20 t21 t22:Tok} {n:Nat} (h:K.lookup a=some { cls:=.type "tuple",data:=.seq #[.str "word" t1,.str "cells" t2,.str "depth" t3,.str "places" t4,.str "marks" t5,.str "gate" t6,.str "kind" t7,.str "place" t8,.str "mark" t9,.str "number" t10,.str "row" t11,.str "set" t12,.str "if" t13,.str "else" t14,.str "top" t15,.str "next" t16,.str "go" t17,.str "call" t18,.str "back" t19,.str "stop" t20,.str "fault" t21,.str "bell" t22] n }):∀ H,SqT K H a (au oO):=fun H=>
 .inr ⟨_,_,n,h,rfl,rfl,zlx,dw ["word","cells","depth","places","marks","gate","kind","place","mark","number","row","set","if","else","top","next","go","call","back","stop","fault","bell"] [t1,t2,t3,t4,t5,t6,t7,t8,t9,t10,t11,t12,t13,t14,t15,t16,t17,t18,t19,t20,t21,t22] rfl⟩
theorem vM {t1 t2 t3 t4:Tok} {n:Nat} (h:K.lookup a=some { cls:=.type "tuple",data:=.seq #[.str "place" t1,.str "mark" t2,.str "number" t3,.str "row" t4] n }):∀ H,SqT K H a (au dY):=fun H=>
 .inr ⟨_,_,n,h,rfl,rfl,zlx,dw ["place","mark","number","row"] [t1,t2,t3,t4] rfl⟩
theorem xK {t1 t2 t3 t4 t5 t6:Tok} {n:Nat} (h:K.lookup a=some { cls:=.type "tuple",data:=.seq #[.str "next" t1,.str "go" t2,.str "call" t3,.str "back" t4,.str "stop" t5,.str "fault" t6] n }):∀ H,SqT K H a (au ["next","go","call","back","stop","fault"]):=fun H=>
 .inr ⟨_,_,n,h,rfl,rfl,zlx,dw ["next","go","call","back","stop","fault"] [t1,t2,t3,t4,t5,t6] rfl⟩
theorem jT {t1 t2:Tok} {n:Nat} (h:K.lookup a=some { cls:=.type "tuple",data:=.seq #[.str "deep" t1,.str "bare" t2] n }):∀ H,SqT K H a (au ["deep","bare"]):=fun H=>
 .inr ⟨_,_,n,h,rfl,rfl,zlx,dw ["deep","bare"] [t1,t2] rfl⟩
theorem iL {t1 t2:Tok} {n:Nat} (h:K.lookup a=some { cls:=.type "tuple",data:=.seq #[.str "<<" t1,.str ">>" t2] n }):∀ H,SqT K H a ([.str "<<",.str ">>"]):=fun H=>
 .inr ⟨_,_,n,h,rfl,rfl,zlx,dw ["<<",">>"] [t1,t2] rfl⟩
theorem Ae {l:PySem.W.OpenLaw} {w:World} {h:Heap} {mg:Str->Option Value} {fa f0 f1 f2 f3 f4 f5 f6 f7 f8 f9 f10 f11 f12 f13 f14 f15 f16 f17 f18 f19 f20 f21 f22 f23 f24 f25 f26 f27 f28 f29 f30 f31 f32 f33 f34 f35 f36 f37 f38 f39 f40 f41 f42 f43 f44 f45 f46 f47 f48 f49 fPO fSO cR iR cT iT cP iP cS iS cW iW cA iA m_run m_look m_take m_need m_need_name m_need_number m_need_end m_kind_at m_fields_of m_deed m_told m_copied m_end_with m_seen m_between m_row_left m_need_shape m_one_row m_change a_OWN_WORDS a_SORTS a_ENDS a_OWN_FAULTS a_DOUBLE_SIGNS R fR xS gS xB gB xU gU:Addr} {k_MOST_FIGURES k_LONGEST_NAME k_MOST_ROWS k_MOST_TOKENS k_MOST_KINDS k_MOST_FIELDS k_MOST_SETS k_MOST_CHOICES k_MOST_SIGNS k_HIGHEST_ROW k_MOST_AT_ONCE k_FIGURES k_LETTERS k_GAPS k_SINGLE_SIGNS k_SO:Tok} (X:K.In h) (G:h.Ns mainGlobals mg) (hfa:mg "law"=some (.ref fa))
  (d0:bi K "number_of" fJ f0)
  (d1:bi K "is_whole" kR f1)
  (d2:bi K "is_within" iQ f2)
  (d3:bi K "is_word" ub f3)
  (d4:bi K "is_name" qy f4)
  (d5:bi K "is_row" kS f5)
  (d6:bi K "is_operand" gr f6)
  (d7:bi K "read_form" ie f7)
  (d8:bi K "read_bounded" eG f8)
  (d9:bi K "read_names" gu f9)
  (d10:bi K "read_kind" ig f10)
  (d11:bi K "read_fields" ff f11)
  (d12:bi K "read_field" gv f12)
  (d13:bi K "read_body" ii f13)
  (d14:bi K "read_leaf" ij f14)
  (d15:bi K "read_end" jo f15)
  (d16:bi K "table_of_form" eI f16)
  (d17:bi K "add_name" jp f17)
  (d18:bi K "need_known" gw f18)
  (d19:bi K "kinds_named" fg f19)
  (d20:bi K "names_with_fields" gx f20)
  (d21:bi K "deed_of" iU f21)
  (d22:bi K "end_of" oJ f22)
  (d23:bi K "set_of" zY f23)
  (d24:bi K "tokens_of" kU f24)
  (d25:bi K "sign_at" uc f25)
  (d26:bi K "run_at" yW f26)
  (d27:bi K "read_table" gy f27)
  (d28:bi K "_law_cell" ud f28)
  (d29:bi K "_law_stream" kW f29)
  (d30:bi K "_law_take" ue f30)
  (d31:bi K "highest_word" sHighest f31)
  (d32:bi K "is_list_of" sListOf f32)
  (d33:bi K "is_list_to" sListTo f33)
  (d34:bi K "first_state" pA f34)
  (d35:bi K "row_given" iz f35)
  (d36:bi K "end_given" iy f36)
  (d37:bi K "leaf_of" lK f37)
  (d38:bi K "give_sets" fP f38)
  (d39:bi K "same_shape" sSameShape f39)
  (d40:bi K "shape_of" sShapeOf f40)
  (d41:bi K "_law_list" sLList f41)
  (d42:bi K "_law_spoilt" sLSp f42)
  (d43:bi K "_law_good" sLGood f43)
  (d44:bi K "_law_due" vE f44)
  (d45:bi K "_law_made" pP f45)
  (d46:bi K "_law_changed" vF f46)
  (d47:bi K "_law_right" gZ f47)
  (d48:bi K "_law_machine" pX f48)
  (d49:bi K "law" ni f49)
  (dPO:BN K "program_of" dD fPO) (dSO:BP K k_SO fSO)
  (CR:CK K "Reader" cR iR ["tokens","spot","may_end"]) (IR:gE K "__init__" "Reader.__init__" oZ iR)
  (CT:CK K "Table" cT iT ["width","cells","depth","places","marks","gate","kinds","kinds_known"]) (IT:gE K "__init__" "Table.__init__" lA iT)
  (CP:CK K "Program" cP iP ["rows","bell"]) (IP:gE K "__init__" "Program.__init__" pw iP)
  (CS:CK K "State" cS iS ["at","places","marks","cells","pile","word","fault"]) (IS:gE K "__init__" "State.__init__" sSInit iS)
  (CW:CK K "Way" cW iW ["table","state","operands"]) (IW:gE K "__init__" "Way.__init__" jE iW)
  (h_look:PySem.W.findIn K (.ref cR) "look"=some (some (.ref m_look))) (M_look:gE K "look" "Reader.look" uh m_look)
  (h_take:PySem.W.findIn K (.ref cR) "take"=some (some (.ref m_take))) (M_take:gE K "take" "Reader.take" CV m_take)
  (h_need:PySem.W.findIn K (.ref cR) "need"=some (some (.ref m_need))) (M_need:gE K "need" "Reader.need" ui m_need)
  (h_need_name:PySem.W.findIn K (.ref cR) "need_name"=some (some (.ref m_need_name))) (M_need_name:gE K "need_name" "Reader.need_name" io m_need_name)
  (h_need_number:PySem.W.findIn K (.ref cR) "need_number"=some (some (.ref m_need_number))) (M_need_number:gE K "need_number" "Reader.need_number" fj m_need_number)
  (h_need_end:PySem.W.findIn K (.ref cR) "need_end"=some (some (.ref m_need_end))) (M_need_end:gE K "need_end" "Reader.need_end" js m_need_end)
  (h_kind_at:PySem.W.findIn K (.ref cT) "kind_at"=some (some (.ref m_kind_at))) (M_kind_at:gE K "kind_at" "Table.kind_at" lC m_kind_at)
  (h_fields_of:PySem.W.findIn K (.ref cT) "fields_of"=some (some (.ref m_fields_of))) (M_fields_of:gE K "fields_of" "Table.fields_of" iq m_fields_of)
  (h_deed:PySem.W.findIn K (.ref cT) "deed"=some (some (.ref m_deed))) (M_deed:gE K "deed" "Table.deed" uY m_deed)
  (h_told:PySem.W.findIn K (.ref cS) "told"=some (some (.ref m_told))) (M_told:gE K "told" "State.told" sStTold m_told)
  (h_copied:PySem.W.findIn K (.ref cS) "copied"=some (some (.ref m_copied))) (M_copied:gE K "copied" "State.copied" sCopied m_copied)
  (h_end_with:PySem.W.findIn K (.ref cS) "end_with"=some (some (.ref m_end_with))) (M_end_with:gE K "end_with" "State.end_with" sEndWith m_end_with)
  (CA:CK K "Above" cA iA ["table","program","state","waiting","rows_done","noted"]) (IA:z9 K "__init__" "Runner.__init__" gR iA)
  (h_seen:PySem.W.findIn K (.ref cA) "seen"=some (some (.ref m_seen))) (M_seen:gE K "seen" "Runner.seen" va m_seen)
  (h_between:PySem.W.findIn K (.ref cA) "between"=some (some (.ref m_between))) (M_between:gE K "between" "Runner.between" jG m_between)
  (h_row_left:PySem.W.findIn K (.ref cA) "row_left"=some (some (.ref m_row_left))) (M_row_left:gE K "row_left" "Runner.row_left" jH m_row_left)
  (h_need_shape:PySem.W.findIn K (.ref cA) "need_shape"=some (some (.ref m_need_shape))) (M_need_shape:gE K "need_shape" "Runner.need_shape" gD m_need_shape)
  (h_one_row:PySem.W.findIn K (.ref cA) "one_row"=some (some (.ref m_one_row))) (M_one_row:gE K "one_row" "Above.one_row" lN m_one_row)
  (h_change:PySem.W.findIn K (.ref cA) "change"=some (some (.ref m_change))) (M_change:gE K "change" "Above.change" lP m_change)
  (h_run:PySem.W.findIn K (.ref cA) "run"=some (some (.ref m_run))) (M_run:z9 K "run" "Above.run" nI m_run)
  (y1:PySem.W.findIn K (.ref cS) "__class__"=some (some (.builtin "object.__class__"))) (y2:PySem.W.specialIn K (.builtin "object.__class__") "__get__"=some (some (.builtin "getset_descriptor.__get__"))) (y3:PySem.W.takesIn K (.builtin "object.__class__")=some true) (y4:PySem.W.mroIn K cS (.type "object")=some true)
  (n_MOST_FIGURES:PySem.W.nsIn K mainGlobals "MOST_FIGURES"=some (some (.int 9 k_MOST_FIGURES)))
  (n_LONGEST_NAME:PySem.W.nsIn K mainGlobals "LONGEST_NAME"=some (some (.int 8 k_LONGEST_NAME)))
  (n_MOST_ROWS:PySem.W.nsIn K mainGlobals "MOST_ROWS"=some (some (.int 40 k_MOST_ROWS)))
  (n_MOST_TOKENS:PySem.W.nsIn K mainGlobals "MOST_TOKENS"=some (some (.int 1500 k_MOST_TOKENS)))
  (n_MOST_KINDS:PySem.W.nsIn K mainGlobals "MOST_KINDS"=some (some (.int 8 k_MOST_KINDS)))
  (n_MOST_FIELDS:PySem.W.nsIn K mainGlobals "MOST_FIELDS"=some (some (.int 3 k_MOST_FIELDS)))
  (n_MOST_SETS:PySem.W.nsIn K mainGlobals "MOST_SETS"=some (some (.int 4 k_MOST_SETS)))
  (n_MOST_CHOICES:PySem.W.nsIn K mainGlobals "MOST_CHOICES"=some (some (.int 3 k_MOST_CHOICES)))
  (n_MOST_SIGNS:PySem.W.nsIn K mainGlobals "MOST_SIGNS"=some (some (.int 20000 k_MOST_SIGNS)))
  (n_HIGHEST_ROW:PySem.W.nsIn K mainGlobals "HIGHEST_ROW"=some (some (.int 999 k_HIGHEST_ROW)))
  (n_MOST_AT_ONCE:PySem.W.nsIn K mainGlobals "MOST_AT_ONCE"=some (some (.int 2000 k_MOST_AT_ONCE)))
  (n_FIGURES:PySem.W.nsIn K mainGlobals "FIGURES"=some (some (.str "0123456789" k_FIGURES)))
  (n_LETTERS:PySem.W.nsIn K mainGlobals "LETTERS"=some (some (.str "abcdefghijklmnopqrstuvwxyz" k_LETTERS)))
  (n_GAPS:PySem.W.nsIn K mainGlobals "GAPS"=some (some (.str " \n" k_GAPS)))
  (n_SINGLE_SIGNS:PySem.W.nsIn K mainGlobals "SINGLE_SIGNS"=some (some (.str "(){}[],;+-&|^<=" k_SINGLE_SIGNS)))
  (n_OWN_WORDS:PySem.W.nsIn K mainGlobals "OWN_WORDS"=some (some (.ref a_OWN_WORDS))) (q_OWN_WORDS:∀ H,SqT K H a_OWN_WORDS (au oO))
  (n_SORTS:PySem.W.nsIn K mainGlobals "SORTS"=some (some (.ref a_SORTS))) (q_SORTS:∀ H,SqT K H a_SORTS (au dY))
  (n_ENDS:PySem.W.nsIn K mainGlobals "ENDS"=some (some (.ref a_ENDS))) (q_ENDS:∀ H,SqT K H a_ENDS (au ["next","go","call","back","stop","fault"]))
  (n_OWN_FAULTS:PySem.W.nsIn K mainGlobals "OWN_FAULTS"=some (some (.ref a_OWN_FAULTS))) (q_OWN_FAULTS:∀ H,SqT K H a_OWN_FAULTS (au ["deep","bare"]))
  (n_DOUBLE_SIGNS:PySem.W.nsIn K mainGlobals "DOUBLE_SIGNS"=some (some (.ref a_DOUBLE_SIGNS))) (q_DOUBLE_SIGNS:∀ H,SqT K H a_DOUBLE_SIGNS ([.str "<<",.str ">>"]))
  (z_len:PySem.W.nsIn K mainGlobals "len"=some none)
  (z_int:PySem.W.nsIn K mainGlobals "int"=some none)
  (z_max:PySem.W.nsIn K mainGlobals "max"=some none)
  (z_min:PySem.W.nsIn K mainGlobals "min"=some none)
  (z_range:PySem.W.nsIn K mainGlobals "range"=some none)
  (z_isinstance:PySem.W.nsIn K mainGlobals "isinstance"=some none)
  (z_list:PySem.W.nsIn K mainGlobals "list"=some none)
  (z_str:PySem.W.nsIn K mainGlobals "str"=some none)
  (z_bool:PySem.W.nsIn K mainGlobals "bool"=some none)
  (z_tuple:PySem.W.nsIn K mainGlobals "tuple"=some none)
  (z_all:PySem.W.nsIn K mainGlobals "all"=some none)
  (z_dict:PySem.W.nsIn K mainGlobals "dict"=some none)
  (z_enumerate:PySem.W.nsIn K mainGlobals "enumerate"=some none)
  (z_zip:PySem.W.nsIn K mainGlobals "zip"=some none)
  (z_ValueError:PySem.W.nsIn K mainGlobals "ValueError"=some none)
  (xR:BQ K "RowsError" XB.bmV R) (rd:PySem.W.readsIn K R (.type "type")=true) (ri:PySem.W.findCls K (.ref R) (.type "type") "__init__"=some (.val (.ref fR))) (mR:gE K "__init__" "RowsError.__init__" sRInitX fR)
  (qS:BQ K "NoState" (bmR R) xS) (aS:PySem.W.findIn K (.ref xS) "thing"=some none) (bS:PySem.W.findIn K (.ref xS) "__init__"=some (some (.ref gS))) (nS:PySem.W.isFn K (.ref gS)=true) (pS:PySem.W.keepIn K (.ref xS)=true) (mS:gE K "__init__" "NoState.__init__" sNSInit gS)
  (qB:BQ K "NoBudget" (bmR R) xB) (aB:PySem.W.findIn K (.ref xB) "thing"=some none) (bB:PySem.W.findIn K (.ref xB) "__init__"=some (some (.ref gB))) (nB:PySem.W.isFn K (.ref gB)=true) (pB:PySem.W.keepIn K (.ref xB)=true) (mB:gE K "__init__" "NoBudget.__init__" sNBInit gB)
  (qU:BQ K "Unlike" (bmR R) xU) (aU:PySem.W.findIn K (.ref xU) "word"=some none) (bU:PySem.W.findIn K (.ref xU) "__init__"=some (some (.ref gU))) (nU:PySem.W.isFn K (.ref gU)=true) (pU:PySem.W.keepIn K (.ref xU)=true) (mU:gE K "__init__" "Unlike.__init__" sULInit gU) :
  ∃ fd:FuncData,(∀ (s:Shared) (v:Value),BindsTo s fd ⟨[v],[]⟩ [("_law_script",v)])/\∀ base:Heap,K.In base->base.Ns mainGlobals mg->FnOk l.prog w K mg base bM 10 fa fd ["_law_script"] (qT K):=by
 have B:Bl mg:=⟨ED X G z_len,ED X G z_int,ED X G z_max,ED X G z_min,ED X G z_range,ED X G z_isinstance,ED X G z_list,ED X G z_str,ED X G z_bool,ED X G z_tuple,ED X G z_all⟩;have B3:BX mg:=⟨ED X G z_dict,ED X G z_enumerate⟩;have B4:Dv mg:=⟨ED X G z_zip⟩;have Z:oS K mg a_SORTS a_ENDS a_OWN_FAULTS k_MOST_FIELDS k_MOST_SETS k_MOST_CHOICES k_MOST_KINDS:=⟨(Ej X G n_SORTS),q_SORTS,(Ej X G n_ENDS),q_ENDS,(Ej X G n_OWN_FAULTS),q_OWN_FAULTS,(Ej X G n_MOST_FIELDS),(Ej X G n_MOST_SETS),(Ej X G n_MOST_CHOICES),(Ej X G n_MOST_KINDS)⟩;have CN:A5 K mg a_OWN_WORDS k_LETTERS k_LONGEST_NAME:=⟨(Ej X G n_OWN_WORDS),q_OWN_WORDS,(Ej X G n_LETTERS),(Ej X G n_LONGEST_NAME)⟩;have CT2:wR K mg a_DOUBLE_SIGNS k_GAPS k_SINGLE_SIGNS:=⟨(Ej X G n_GAPS),(Ej X G n_SINGLE_SIGNS),(Ej X G n_DOUBLE_SIGNS),q_DOUBLE_SIGNS,B.len⟩;have ZR:Zr mg k_MOST_ROWS:=⟨(Ej X G n_MOST_ROWS)⟩;have RC:Rc K cR:=⟨CR.cls,CR.na.1,CR.na.2.1,CR.na.2.2.1⟩;have TC:Tc K cT:=⟨CT.cls,CT.na.get⟩;have PC:Pc K cP:=⟨CP.cls,CP.na.1,CP.na.2.1⟩;have TR:Xr K mg R fR:=⟨xR.c,⟨rd,ri,mR.fu.elim fun _ F=>F.kp⟩,Ej X G xR.ns,ED X G z_ValueError⟩;have TS:Xk K mg R xS gS "NoState" "thing":=⟨qS.c,aS,⟨bS,nS,pS⟩,Ej X G qS.ns⟩;have TB:Xk K mg R xB gB "NoBudget" "thing":=⟨qB.c,aB,⟨bB,nB,pB⟩,Ej X G qB.ns⟩;have TU:Xk K mg R xU gU "Unlike" "word":=⟨qU.c,aU,⟨bU,nU,pU⟩,Ej X G qU.ns⟩;have SC:Sc K cS:=⟨CS.cls,CS.na.1,CS.na.2.1,CS.na.2.2.1,CS.na.2.2.2.1,CS.na.2.2.2.2.1,CS.na.2.2.2.2.2.1,CS.na.2.2.2.2.2.2.1⟩;have WC:Wc K cW:=⟨CW.cls,CW.na.1,CW.na.2.1,CW.na.2.2.1⟩;have UC:Uc K cA:=⟨CA.cls,CA.na.1,CA.na.2.1,CA.na.2.2.1,CA.na.2.2.2.1,CA.na.2.2.2.2.1,CA.na.2.2.2.2.2.1⟩;have CC:Cc K cS:=⟨y1,y2,y3,y4⟩;have ZH:Zh mg k_HIGHEST_ROW:=⟨(Ej X G n_HIGHEST_ROW)⟩;have ZM:Zm mg k_MOST_AT_ONCE:=⟨(Ej X G n_MOST_AT_ONCE)⟩;obtain ⟨a14,fd,F⟩:=d49;have e:=hfa.symm.trans (Ej X G a14);cases e;obtain ⟨oc,od,kV,doc,pm,an,cdv,ct,osl,rfl,lk,hcd⟩:=id F.ex;refine ⟨PySem.W.fnOf "law" "law" (cv ni) (bP ni) (ai ni) .none kV doc pm an cdv ct,fun s v=>.of_eq rfl,fun base _ _=>?_⟩;have fm:=@BM l.prog w K mg base h;have mm:=@Ab l.prog w K mg base;have im:=@Ac l.prog w K mg base;have RI:RIX l.prog w K mg base fR:=by
  obtain ⟨⟨fd,F⟩,_⟩:=mR;exact ⟨fd,F.binds (fun _ _ _ _ _ _=>by exact vP fun _ _=>rfl),ok_RX F TR⟩
 obtain ⟨⟨fdS,FS0⟩,_⟩:=id mS;have FKS:FnOk l.prog w K mg base bM 2 gS fdS ["self","thing"] (spNK xS "thing"):=ok_NS FS0 TR TS RI;have BKS:Binds K fdS ["self","thing"] []:=FS0.binds (fun _ _ _ _ _ _=>by exact vP fun _ _=>rfl);obtain ⟨⟨fdB,FB0⟩,_⟩:=id mB;have FKB:FnOk l.prog w K mg base bM 2 gB fdB ["self","thing"] (spNK xB "thing"):=ok_NB FB0 TR TB RI;have BKB:Binds K fdB ["self","thing"] []:=FB0.binds (fun _ _ _ _ _ _=>by exact vP fun _ _=>rfl);obtain ⟨⟨fdU,FU0⟩,_⟩:=id mU;have FKU:FnOk l.prog w K mg base bM 2 gU fdU ["self","word"] (spNK xU "word"):=ok_UL FU0 TR TU RI;have BKU:Binds K fdU ["self","word"] []:=FU0.binds (fun _ _ _ _ _ _=>by exact vP fun _ _=>rfl);have WH:=fm X G d1 fun fd F=>uk F B;have WI:=fm X G d2 fun fd F=>rL F WH;have WO:=fm X G d3 fun fd F=>wY F WI;have NM:=fm X G d4 fun fd F=>wO F B CN;have NU:=fm X G d0 fun fd F=>nE F B (Ej X G n_FIGURES) (Ej X G n_MOST_FIGURES);have RM:Rm l.prog w K mg base cR:=⟨RC,(mm h_look M_look fun fd F=>wD F RC),(mm h_take M_take fun fd F=>A3 F RC)⟩;have RM2:vO l.prog w K mg base cR:=⟨RM,(mm h_need M_need fun fd F=>wE F RM),(mm h_need_name M_need_name fun fd F=>nu F RM NM),(mm h_need_number M_need_number fun fd F=>jQ F RM NU WI),(mm h_need_end M_need_end fun fd F=>oQ F RM B)⟩;obtain ⟨fdR,INR,bIR⟩:=im IR fun fd F=>ur F RC B (Ej X G n_MOST_TOKENS);obtain ⟨fdT,INT,bIT⟩:=im IT fun fd F=>uD F TC B;obtain ⟨fdP,INP,bIP⟩:=im IP fun fd F=>uM F PC B;have BO:=fm X G d8 fun fd F=>oR F RM2;have NA:=fm X G d9 fun fd F=>ul F RM2 B;have FL:=fm X G d12 fun fd F=>um F RM2 Z;have EN:=fm X G d15 fun fd F=>za F RM2 Z;have LF:=fm X G d14 fun fd F=>wF F RM2 Z B EN;have BD:=fm X G d13 fun fd F=>wG F RM2 Z LF;have FS:=fm X G d11 fun fd F=>rN F RM2 Z B FL;have KD:=fm X G d10 fun fd F=>wH F RM2 FS BD;have RF:=fm X G d7 fun fd F=>wK F RM2 Z B CR.mk_ (Ej X G CR.ns) INR bIR BO NA KD;have AN:=fm X G d17 fun fd F=>o8 F;have NK:=fm X G d18 fun fd F=>lj F;have EO:=fm X G d22 fun fd F=>uv F;have SO0:Fn l.prog w K mg base "set_of" 1 ["names","given"] zb:=fm X G d23 fun fd F=>wL;have DO:=fm X G d21 fun fd F=>rQ F B EO SO0;have NW:=fm X G d20 fun fd F=>zn F B3 AN;have KN:=fm X G d19 fun fd F=>A9 F B NW DO;have TF:=fm X G d16 fun fd F=>Bb F B B3 CT.mk_ (Ej X G CT.ns) INT bIT AN NK KN;have SG:=fm X G d25 fun fd F=>wU F CT2;have RN:=fm X G d26 fun fd F=>zm F CT2 SG;have TO:=fm X G d24 fun fd F=>wV F CT2 SG RN;have RT:=fm X G d27 fun fd F=>Bc F B (Ej X G n_MOST_SIGNS) TO RF TF;have KA:bT l.prog w K mg base cT "kind_at" 1 ["self","kind"] (fv cT):=(mm h_kind_at M_kind_at fun fd F=>rR F TC);have FO:bT l.prog w K mg base cT "fields_of" 2 ["self","kind"] (uG cT):=(mm h_fields_of M_fields_of fun fd F=>Bd F TC KA);have IO:=fm X G d6 fun fd F=>pq F TC B WI WO;have IR2:=fm X G d5 fun fd F=>uJ F TC B B4 FO IO;obtain ⟨aPO,fdPO,FP⟩:=dPO;have OKP:=Bh (P:=l.prog) (w:=w) (base:=base) FP B B3 ZR CP.mk_ (Ej X G CP.ns) INP bIP IR2 WI;have WHT:=fm X G d1 fun fd F=>ok_wholeT F B;have WIT:=fm X G d2 fun fd F=>ok_withinT F WHT;have LT:=fm X G d33 fun fd F=>ok_listTo F B WIT;have LO:=fm X G d32 fun fd F=>ok_listOf F B LT;have HW:=fm X G d31 fun fd F=>ok_highest F TC;obtain ⟨fdSI,INS,bIS⟩:=im IS fun fd F=>ok_sI F SC B;obtain ⟨fdW,INW,bIW⟩:=im IW fun fd F=>xf F WC;obtain ⟨aSO,fdSO,FSO⟩:=dSO;have mgO:=Ej X G aSO;have OKS:=Bo (P:=l.prog) (w:=w) (base:=base) FSO TC B ZH TS FKS BKS CS.mk_ (Ej X G CS.ns) INS bIS WIT LT LO HW;obtain ⟨aF1,fdF1,FF1⟩:=d34;have OKF:=Bs FF1 TC B TS FKS BKS FSO mgO OKS LT HW;obtain ⟨⟨fdRU,FRU⟩,_⟩:=IA;have OKU:=zG FRU UC OKF (Ej X G aF1) FF1.kp (FF1.binds (fun _ _ _ _ _ _=>by exact vP fun _ _=>rfl));have TO1:bT l.prog w K mg base cS "told" 1 ["self"] (spTold cS):=(mm h_told M_told fun fd F=>ok_told F SC B);have CO1:bT l.prog w K mg base cS "copied" 3 ["self"] (spCopied cS):=(mm h_copied M_copied fun fd F=>ok_copied F SC CS.mk_ (Ej X G CS.ns) INS bIS);have EW:bT l.prog w K mg base cS "end_with" 1 ["self","word","fault"] (spEndWith cS):=(mm h_end_with M_end_with fun fd F=>ok_endWith F SC);have DE:bT l.prog w K mg base cT "deed" 2 ["self","kind"] (lL cT):=(mm h_deed M_deed fun fd F=>xc F TC KA);have LF1:=fm X G d37 fun fd F=>rZ F;have GS:=fm X G d38 fun fd F=>xg F;have EG:=fm X G d36 fun fd F=>xh F SC;have RG:=fm X G d35 fun fd F=>xi F TC CW.mk_ (Ej X G CW.ns) INW bIW LF1 GS DE;have SE:bT l.prog w K mg base cA "seen" 2 ["self"] (lM cS cA):=(mm h_seen M_seen fun fd F=>xj F UC SC B TO1);have BT:bT l.prog w K mg base cA "between" 2 ["self"] (fQ cS cA cP):=(mm h_between M_between fun fd F=>pI F UC SC PC B EW);have RL:bT l.prog w K mg base cA "row_left" 2 ["self","end","operands"] (fV cS cA):=(mm h_row_left M_row_left fun fd F=>pJ F UC EG);have OR:bT l.prog w K mg base cA "one_row" 4 ["self"] (gT cT cS cA cP):=(mm h_one_row M_one_row fun fd F=>sf F UC SC PC BT RL RG);have SHO:=fm X G d40 fun fd F=>ok_shO F TC B FO;have SS:=fm X G d39 fun fd F=>ok_ss F SHO;obtain ⟨⟨fdRN,FRN⟩,nRN⟩:=M_run;have OKN:=xk (P:=l.prog) (w:=w) (base:=base) FRN UC ZM TB FKB BKB WIT OR;obtain ⟨⟨fdND,FND⟩,nND⟩:=M_need_shape;obtain ⟨⟨fdCH,FCH⟩,nCH⟩:=M_change;have OKC:=sh (P:=l.prog) (w:=w) (base:=base) FCH UC ⟨h_need_shape,nND,FND.kp⟩ (zJ FND UC TU FKU BKU SS) (FND.binds (fun _ _ _ _ _ _=>by exact vP fun _ _=>rfl));have CL:=fm X G d28 fun fd F=>wB F B;have ST:=fm X G d29 fun fd F=>rK F B;have TK1:=fm X G d30 fun fd F=>wC F;have LI:=fm X G d41 fun fd F=>ok_llist F B TK1;have SP:=fm X G d42 fun fd F=>ok_spo F B TK1;have GD:=fm X G d43 fun fd F=>ok_good F B;have DU:=fm X G d44 fun fd F=>zR F B GD;have MD:=fm X G d45 fun fd F=>xD F B TS FSO mgO OKS;have CH:=fm X G d46 fun fd F=>zS F B;have RGT:=fm X G d47 fun fd F=>vL F B CC SC CS.mk_ (Ej X G CS.ns) INS bIS TO1 CO1 DU MD CH;have MAC:=fm X G d48 fun fd F=>xE F B UC PC TS TB TU FP (Ej X G aPO) OKP RT FRU CA.mk_ (Ej X G CA.ns) OKU FRN ⟨h_run,nRN,FRN.kp⟩ OKN ⟨h_change,nCH,FCH.kp⟩ OKC (FCH.binds (fun _ _ _ _ _ _=>by exact vP fun _ _=>rfl)) SE;exact zX F B SC CL ST TK1 RT LI SP RGT MAC DU FSO mgO OKS TO1
end L3
namespace PySem.W.Fast
def tw563895895716082369:=0
def tw5755905011838080766:=0
def tw17392263257745472591:=0
def tw11173579093117392683:=0
def tw9555494288231437478:=0
def tw3402638368985528929:=0
def tw18206701616825193470:=0
def tw1439003027780675882:=0
def tw16064451491628099584:=0
def tw4105125695093438283:=0
def tw10418924126946222515:=0
def tw17761049491832144257:=0
def tw2552389835037737638:=0
def tw17247507803843975426:=0
def tw9181596209353245709:=0
def tw7551344097869741190:=0
def tw17807215847665507710:=0
def tw10233634323549998259:=0
def tw13453192858237347628:=0
def tw12416393204124563735:=0
def tw7095145165316032197:=0
def tw954684795084306708:=0
def tw4933715107908141761:=0
def tw17180791039276826675:=0
def tw7700695783803927646:=0
def tw6683051373494560608:=0
def tw3917621361653354681:=0
def tw15680442060889178024:=0
def tw11961415430781748861:=0
def tw4814887253720577176:=0
def tw17099104710914985006:=0
def tw9656999124141696274:=0
def tw13167207966431554150:=0
def tw2051134218391169971:=0
def tw17133211671509438765:=0
def tw15891913415054660320:=0
def tw8154326974403134832:=0
def tw11210471455201275165:=0
def tw10549902996206549034:=0
def tw16502417145152769000:=0
def tw11126752493548739309:=0
def tw9606733605277675464:=0
def tw10135901540515214005:=0
def tw77975128611572301:=0
def tw7312535801122634859:=0
def tw12862500459137149663:=0
def tw10477383112915474564:=0
def tw10698045558758606714:=0
def tw4772160002601056859:=0
def tw1882053912486561419:=0
def tw8232041024213710402:=0
def tw13473204621042380956:=0
def tw3947373545781528187:=0
def tw7235712912775921788:=0
def tw5060118137965249273:=0
def tw5455207689450676063:=0
def tw7465171502522782630:=0
def tw10518809801926880297:=0
def tw11076419201299847013:=0
def tw2481756714006806920:=0
def tw2955306652567831638:=0
def tw2417636522199460045:=0
def tw11536853590479364295:=0
def tw13179817600830398361:=0
def tw14957417102826383172:=0
def tw11759203448944761416:=0
def tw11344345777210313979:=0
def tw7162608936583932081:=0
def tw8619276900677081775:=0
def tw5332021918189588184:=0
def tw4353468792841088918:=0
def tw7450628287240790525:=0
def tw774264265670639533:=0
def tw1723488894392830277:=0
def tw15418589553731890918:=0
def tw2622795384797610069:=0
def tw444299513048696892:=0
def tw10464418023781304570:=0
def tw18157271116326053250:=0
def tw10575902995417565656:=0
def tw6871336515974391172:=0
def tw6259973781936239409:=0
def tw10846841497279253558:=0
def tw8235930403279889710:=0
def tw15132404107367454192:=0
def tw5033788764231936273:=0
def tw7913630184559131090:=0
def tw17427717649655768962:=0
def tw11139948888042577267:=0
def tw576178967571070865:=0
def tw18360137685699862663:=0
def tw14092081682449588171:=0
def tw275463731607212425:=0
def tw16228344060363575180:=0
def tw11390483164071823109:=0
def tw8880838898978001378:=0
def tw7932792913805129291:=0
def tw162491539602996937:=0
def tw10278814313067148295:=0
def tw7628817822833110308:=0
def tw7671663924366800248:=0
def tw17530445234676976652:=0
def tw4537745326390103410:=0
def tw4217343680222015028:=0
def tw4669117295462553887:=0
def tw16472134591304098960:=0
def tw5284752193812698727:=0
def tw14440729459209189514:=0
def tw6783995207418946474:=0
def tw3355533477567814558:=0
def tw18209685534728127897:=0
def tw16117544934051094604:=0
def tw2966686804195544261:=0
def tw6818700076313604134:=0
def tw14916054782091553229:=0
def tw1639799571902153329:=0
def tw13888795432040117897:=0
def tw12403565915602238430:=0
def tw14953184719772502475:=0
def tw9461926824763847484:=0
def tw9462326171234069683:=0
def tw2035736357574496445:=0
def tw9004900132992129943:=0
def tw15752038471795161946:=0
def tw6632162020077963537:=0
def tw17805257497997835762:=0
def tw7905603115721829220:=0
def tw1330925651685581830:=0
def tw6088132561122832290:=0
def tw2759346961530824327:=0
def tw3211784097661931203:=0
def tw18310397819815468105:=0
def tw15854019363364151160:=0
def tw17467353495139990432:=0
def tw4160873108686382717:=0
def tw1456018203419772153:=0
def tw16924195417670887289:=0
def tw8925951972826019077:=0
def tw5254995656607915435:=0
def tw17665480238797189204:=0
def tw18100892999004189914:=0
def tw10291041087848611402:=0
def tw15686899006546558510:=0
def tw17385507073329188007:=0
def tw8158315586373910185:=0
def tw18442446555249821737:=0
def tw10004451454835921291:=0
def tw13042437639069072008:=0
def tw11485508651994322344:=0
def tw5282923126248843016:=0
def tw7457595015659803107:=0
def tw1844052832070804484:=0
def tw6600295929022614548:=0
def tw8943160747036378006:=0
def tw8586443177091885515:=0
def tw10408455129508388728:=0
def tw14367155718503632076:=0
def tw2289652607166121840:=0
def tw9663371604435436660:=0
def tw1993782632683106742:=0
def tw3108978721486151293:=0
def tw22056637109127667:=0
def tw13127193505052064912:=0
def tw13266497430527279458:=0
def tw8544145092981075725:=0
def tw14762674818921589557:=0
def tw9762650238053996527:=0
def tw12602117737242853513:=0
def tw9105817680958848244:=0
def tw5718771036023560709:=0
def tw8123563517636597793:=0
def tw7647387054724819268:=0
def tw17316107904258748129:=0
def tw2890978870831166692:=0
def tw17553546698301501957:=0
def tw18207527825744410258:=0
def tw10932937381155766650:=0
def tw682243644470990589:=0
def tw4776207581938136912:=0
def tw17242560787395342490:=0
def tw5838514699801312033:=0
def tw10199025174751959281:=0
def tw2564014429973320071:=0
def tw17641559905547280054:=0
def tw14653541037521579146:=0
def tw3824322272396068977:=0
def tw18443464293880530146:=0
def tw15922360656400366991:=0
def tw17392786787964350705:=0
def tw11604127793592335257:=0
def tw2600277630768317476:=0
def tw17044370749174839357:=0
def tw5846386587396788269:=0
def tw10455463940561696693:=0
def tw5540778433018173042:=0
def tw11864331496346284157:=0
def tw13843160268845272881:=0
def tw935478472837507433:=0
def tw5623737462835164082:=0
def tw4341492878920402745:=0
def tw16454050627640723477:=0
def tw3950964044675031376:=0
def tw2802070809790369420:=0
def tw9732732922860894135:=0
def tw7138701359855599959:=0
def tw8396353732569653330:=0
def tw4551051588433020922:=0
def tw14762886077237774481:=0
def tw5250365884910740617:=0
def tw16749716041828148395:=0
def tw17824928939573797780:=0
def tw2363593853783794572:=0
def tw2208486326553668944:=0
def tw6096850986816614531:=0
def tw12709017440219500091:=0
def tw14573593023237044638:=0
def tw10811121320822021888:=0
def tw11259976065593005045:=0
def tw8115069089183488565:=0
def tw18017977293470251871:=0
def tw17730439386160938547:=0
def tw1993740372032829717:=0
def tw17198175283469249473:=0
def tw9670502052702026385:=0
def tw16844402386600748598:=0
def tw5405815949296069910:=0
def tw18114868823163149602:=0
def tw5404977982037852878:=0
def tw4899117220169558550:=0
def tw18422478141687775053:=0
def tw9882460085934926584:=0
def tw9255518956060507648:=0
def tw11980702711462639863:=0
def tw13103176249687614051:=0
def tw10391755798396909452:=0
def tw6242632023711973273:=0
def tw11608176139067352419:=0
def tw8366595348004804066:=0
def tw8052648278579765895:=0
def tw6057786994291355661:=0
def tw16534275629469363156:=0
def tw13560724318836009112:=0
def tw3365803730875909731:=0
def tw6461633881591302643:=0
def tw11518027509516526331:=0
def tw15497884845067137688:=0
def tw13070751718492002601:=0
def tw12226455262718637900:=0
def tw16682693103315659627:=0
def tw11428773607464288181:=0
def tw10540923379139487046:=0
def tw4543553915744378164:=0
def tw2003432935719231538:=0
def tw12442691592638579918:=0
def tw17681908053416679476:=0
def tw13589306553767958483:=0
def tw579876489215108833:=0
def tw14747282665270549504:=0
def tw7995426765387856736:=0
def tw3333964093198191502:=0
def tw5386779864963516768:=0
def tw11674366540561088718:=0
def tw4665736944254972989:=0
def tw4006404297485715777:=0
def tw8306940127340417034:=0
def tw17197673264575620760:=0
def tw9832943663420894210:=0
def tw3952200876112040875:=0
def tw5691850362211628886:=0
def tw11505591286825548033:=0
def tw17022512550734503811:=0
def tw17707459239994529723:=0
def tw7265290890836274042:=0
def tw3229433723734551489:=0
def tw1041617821498167088:=0
def tw4661006513242663443:=0
def tw2290255973150729101:=0
def tw975792177610766664:=0
def tw13948125258072508314:=0
def tw4616895551113964056:=0
def tw10039823827770492510:=0
def tw17548542499213269378:=0
def tw14812288274997357854:=0
def tw16216386962569482834:=0
def tw16816797465004206352:=0
def tw8436544257518535415:=0
def tw7583388090311878301:=0
def tw1423249013876600048:=0
def tw17169720793750774229:=0
def tw493907675642128747:=0
def tw12846174609515736350:=0
def tw16869448316847073301:=0
def tw6982191973840624705:=0
def tw2151199395547288770:=0
def tw17935077103207456608:=0
def tw7699927023975313691:=0
def tw11319885658742974599:=0
def tw11258090470746384916:=0
def tw11213359050688040502:=0
def tw8354060329490302187:=0
def tw9850550841122133825:=0
def tw18418603068182137196:=0
def tw4469220564420918244:=0
def tw9502070708850286095:=0
def tw3533792809448785377:=0
def tw15749109245746105929:=0
def tw13464302291796682200:=0
def tw7927271877296711414:=0
def tw11071109693815443386:=0
def tw11449009743326956573:=0
def tw15682810416235908350:=0
def tw15401574502425127793:=0
def tw7497225174704317344:=0
def tw1514529317496490766:=0
def tw6828415901843228403:=0
def tw4268920347889432404:=0
def tw13306115858158695643:=0
def tw4393844053691912311:=0
def tw14639878355608528443:=0
def tw15370659879529119879:=0
def tw11666500985629810975:=0
def tw14079842133381075976:=0
def tw12557172542330043726:=0
def tw4220173828967483424:=0
def tw13541526980718945114:=0
def tw9017899720525611247:=0
def tw9415607219050202773:=0
def tw1706002390555630413:=0
def tw2192050070125317200:=0
def tw7334904002402793218:=0
def tw2949409738162019174:=0
def tw15093782317680248255:=0
def tw13356258561327743630:=0
def tw5495523111253244446:=0
def tw2519187792235434037:=0
def tw17125941644116705215:=0
def tw3837513131032652680:=0
def tw9905982049450851542:=0
def tw10882626287828109160:=0
def tw1923372736123718113:=0
def tw1573301303458216156:=0
def tw5359206569492024060:=0
def tw13294412359275445400:=0
def tw4810634705604047365:=0
def tw4860243286253253751:=0
def tw12144572936601815903:=0
def tw6801449105478533533:=0
def tw8227199513460788719:=0
def tw14928695024305935125:=0
def tw10922000692532719499:=0
def tw9421116205346316959:=0
def tw4840314971029736857:=0
def tw4270967167060284599:=0
def tw422399059714496356:=0
def tw18267546591268999595:=0
def tw15750824966857684387:=0
def tw12300029046219153118:=0
def tw10843243188159525347:=0
def tw10662987950679020050:=0
def tw2242145874335036308:=0
def tw13401756379246348097:=0
def tw10141451954706094418:=0
def tw15438835616987096513:=0
def tw2181362144615039869:=0
def tw14513731509594733061:=0
def tw16617108564038938782:=0
def tw4678024124673453464:=0
def tw6199650096560852499:=0
def tw12513080682581654565:=0
def tw15173563229871523907:=0
def tw9472228519305212555:=0
def tw5707220056946358908:=0
def tw2372527480243597559:=0
def tw17256005018365474974:=0
def tw642594811157138298:=0
def tw5875401301896412416:=0
def tw4958919775521373108:=0
def tw17659279233793330248:=0
def tw17882479488354087719:=0
def tw13128302353614927845:=0
def tw14968050595705633538:=0
def tw1428326890559328086:=0
def tw463309558458080493:=0
def tw16702327468136287801:=0
def tw7564109302174660557:=0
def tw2589478088996546858:=0
def tw1626239083830089494:=0
def tw16064288351278143133:=0
def tw1215936456764159987:=0
def tw10320235281686594806:=0
def tw8312515014373385319:=0
def tw8266862375927911450:=0
def tw10636662350900262491:=0
def tw10544391780684683783:=0
def tw16951297573026637814:=0
def tw1307952816598765143:=0
def tw12101810861758423253:=0
def tw4970516608183228513:=0
def tw8079865900840190413:=0
def tw18033875607987266727:=0
def tw11223523904479300780:=0
def tw14227629870947013499:=0
def tw281021725885591399:=0
def tw8114656646586441908:=0
def tw7061694561698888742:=0
def tw1417168568497141848:=0
def tw15846824406734116528:=0
def tw15017677994579046013:=0
def tw12624144715521525691:=0
def tw18058635476813370985:=0
def tw7753253630599733695:=0
def tw677722110313060751:=0
def tw5136814615088296161:=0
def tw3114068476503039043:=0
def tw14291077727022187462:=0
def tw129463611417387824:=0
def tw14986405568902828004:=0
def tw643488693121551372:=0
def tw17410996368189049182:=0
def tw13468212990102845608:=0
def tw10114042501345277630:=0
def tw16388084232280144043:=0
def tw4759723506458022967:=0
def tw4293362954817476466:=0
def tw8811958633332124974:=0
def tw7180970221556905387:=0
def tw257993147272339289:=0
def tw16475375202786829142:=0
def tw11292832524856279788:=0
def tw7643674716417146272:=0
def tw16763913445149192214:=0
def tw1521151325717871726:=0
def tw4169615432978625003:=0
def tw288056623913004826:=0
def tw14126904296260892603:=0
def tw13469569698726229508:=0
def tw10247380137027480655:=0
def tw10030476028487410557:=0
def tw5896534059353676604:=0
def tw17040959380377070185:=0
def tw14436113757414762712:=0
def tw7080824743333089738:=0
def tw5851099225711419286:=0
def tw14540351866426188121:=0
def tw11018852301648867808:=0
def tw3198582133476775234:=0
def tw16861136099026115588:=0
def tw3487255121864630260:=0
def tw16848059165775751001:=0
def tw15757761364393825900:=0
def tw8666980233835794238:=0
def tw13050090168621770680:=0
def tw5287380976672803548:=0
def tw10460017522229141643:=0
def tw977004653411572806:=0
def tw16414795143990094208:=0
def tw12462292579195523623:=0
def tw11887330531716329216:=0
def tw3383499402327497515:=0
def tw8448268024072363733:=0
def tw15066559771178360430:=0
def tw6457197687971736730:=0
def tw5423556634848396618:=0
def tw7924929483898889711:=0
def tw3755880083114544312:=0
def tw11833259195671433582:=0
def tw6368037470420728522:=0
def tw14527990362063589148:=0
def tw10615226662340164536:=0
def tw6999952964490617442:=0
def tw1233527967842982662:=0
def tw7677264918526570105:=0
def tw1947649308239078835:=0
def tw11286997965033648824:=0
def tw12069337179723274519:=0
def tw5223373005089187740:=0
def tw6101788764245138400:=0
def tw3191787338393996982:=0
def tw18252150596234660174:=0
def tw11137398578484882577:=0
def tw10420978553688781670:=0
def tw9506785756514022595:=0
def tw7837764713835740183:=0
def tw9993029948668756667:=0
def tw5031441935884061278:=0
def tw18377840769929871423:=0
def tw15389032494283321873:=0
def tw1417991917316827999:=0
def tw9406689614806906210:=0
def tw7695721737868735299:=0
def tw419928925258309292:=0
def tw17911099852490589334:=0
def tw16183055074857600734:=0
def tw8302388088130461459:=0
def tw18184662740444030611:=0
def tw2619804806310379925:=0
def tw17891566249209788468:=0
def tw16168893188400044654:=0
def tw11291231560768387657:=0
def tw7092214576037384573:=0
def tw8325955064737754913:=0
def tw5977533638528360056:=0
def tw5554741730018980672:=0
def tw4640572879103515402:=0
def tw3958661014613027946:=0
def tw18146167613433085426:=0
def tw12367889987838514204:=0
def tw10924513981037449070:=0
def tw7791721635840334749:=0
def tw189940841583757223:=0
def tw11553961619777884651:=0
def tw6885336921503274707:=0
def tw3628918266171092817:=0
def tw16281910620750058538:=0
def tw2217034219081650829:=0
def tw1005004088309074056:=0
def tw6873601371971732295:=0
def tw4136306194182972991:=0
def tw7402422248124394333:=0
def tw17075733423859548047:=0
def tw14714507329451628769:=0
def tw6015780885648731352:=0
def tw13400625698140542139:=0
def tw6795592116296913296:=0
def tw9924858667052776342:=0
def tw8530444358691655420:=0
def tw14795773182956628917:=0
def tw14010672426861243792:=0
def tw11758052939152296845:=0
def tw15490474820616567145:=0
def tw6147045650210979845:=0
def tw17387761240838613098:=0
def tw16953909135532167087:=0
def tw15024130842606201163:=0
def tw2412275638557795016:=0
def tw6614991862965662560:=0
def tw7315819161035526518:=0
def tw16885223883447608998:=0
def tw1706849600657445404:=0
def tw2750190367037607290:=0
def tw2370604546839272056:=0
def tw15848812896611721535:=0
def tw15562156050578661106:=0
def tw13037508009185137887:=0
def tw8918829351622592045:=0
def tw9199553962320335669:=0
def tw1549830405026329037:=0
def tw6712223583465434217:=0
def tw11643486006927072104:=0
def tw5442255052008926865:=0
def tw7891356325604349850:=0
def tw2033467613309533012:=0
def tw15691377566735882197:=0
def tw1452368936259726263:=0
def tw10628434168118300868:=0
def tw7506855476200097612:=0
def tw5509717930621559633:=0
def tw3457365307148504027:=0
def tw2868325639258697263:=0
def tw14756264118021356962:=0
def tw6495081743797758571:=0
def tw1634983849978358780:=0
def tw16084176166164344643:=0
def tw5645951985339866308:=0
def tw11819414748470067333:=0
def tw1401353640024206551:=0
def tw11501875804724442733:=0
def tw7299953140491893061:=0
def tw531667856127352522:=0
def tw2821263788310150038:=0
def tw1888846798176384693:=0
def tw2511280571196071193:=0
def tw16805053324624865145:=0
def tw12632198347018306896:=0
def tw9150906401338404811:=0
def tw5328160989640852707:=0
def tw15893996625102205157:=0
def tw1233215877146117890:=0
def tw14564137592642108311:=0
def tw16733015512052112177:=0
def tw3444186537320456202:=0
def tw13253890773912756445:=0
def tw2472678540308701362:=0
def tw3599022019325949720:=0
def tw3104089212808349697:=0
def tw9909944977998640939:=0
def tw10243047231197841211:=0
def tw9554532805175446771:=0
def tw9341857753092443323:=0
def tw6587979330769001659:=0
def tw6000524833853603305:=0
def tw5864924567673961078:=0
def tw5354587074868793022:=0
def tw3205065665853414756:=0
def tw15847705246402031685:=0
def tw15626635402059779774:=0
def tw3426678545606570776:=0
def tw17303765841235725899:=0
def tw4859257439384653734:=0
def tw3461905284800452843:=0
def tw18243696483282610773:=0
def tw9624456609263464946:=0
def tw545453147811326393:=0
def tw1225398924705743987:=0
def tw10855616819345414406:=0
def tw7028355833689998815:=0
def tw3626756247867995824:=0
def tw16172068471401489339:=0
def tw9529879851557217272:=0
def tw6971031144715242823:=0
def tw4056989539062738068:=0
def tw284526339937658033:=0
def tw14476844038249620104:=0
def tw1420478524942263505:=0
def tw2636442611387712878:=0
def tw7608718409916565318:=0
def tw5467875298943874922:=0
def tw13867608006830203145:=0
def tw1314910382684141762:=0
def tw8584927224080408078:=0
def tw5715531974407263051:=0
def tw3269295424535768351:=0
def tw1839500494446511086:=0
def tw17893326931125830055:=0
def tw16316316927490873847:=0
def tw16243277423655079772:=0
def tw15115043034323076884:=0
def tw12638346695740796820:=0
def tw10184579977473848598:=0
def tw6134865317845259727:=0
def tw11562178471729209214:=0
def tw430704179609505578:=0
def tw12317120309218443321:=0
def tw12978159824120409434:=0
def tw6918247260594078219:=0
def tw68934323032192284:=0
def tw17693228533870571150:=0
def tw7914574654635186821:=0
def tw17445804529801211573:=0
def tw16012918595280563554:=0
def tw12926659448899178733:=0
def tw12353134301347908358:=0
def tw8866490684901714348:=0
def tw8401154781611939710:=0
def tw3593906375537566631:=0
def tw3091393173633617046:=0
def tw399729262760754100:=0
def tw3902971037097221435:=0
def tw3248403834773791490:=0
def tw17777706224039004016:=0
def tw17500736620276116935:=0
def tw11276874903716305628:=0
def tw10767774587918640139:=0
def tw6896356110814010377:=0
def tw6306885876949833143:=0
def tw3415397283631608736:=0
def tw1973694255447001670:=0
def tw17737485575062163005:=0
def tw15385664118355075638:=0
def tw12438373885973866468:=0
def tw9233669799573530851:=0
def tw13376795887088103030:=0
def tw9024834860777966305:=0
def tw5295488665166417223:=0
def tw5047043299248612052:=0
def tw13734883830291879064:=0
def tw6993137585339302607:=0
def tw5356713046233152063:=0
def tw5389718375826930378:=0
def tw2752945941521765347:=0
def tw17353075069033411057:=0
def tw2233087922359077432:=0
def tw8028820989403947433:=0
def tw7797048701358192163:=0
def tw4239863967481448659:=0
def tw3675020841071387947:=0
def tw16879992500438653109:=0
def tw49686764669618209:=0
def tw7181990175722358219:=0
def tw6656928917368714888:=0
def tw5128326451059640688:=0
def tw5122457652224818797:=0
def tw491924491664668030:=0
def tw1981537021098803110:=0
def tw5086542516778081984:=0
def tw10484669721796571545:=0
def tw9917776380049565103:=0
def tw984644933216656234:=0
def tw9573386846609676095:=0
def tw9461917540646278404:=0
def tw9327715877865793169:=0
def tw8434351916096151470:=0
def tw683394202076536565:=0
def tw5987352437103528598:=0
def tw4969344842900978100:=0
def tw4755629741604361199:=0
def tw2136219547213961535:=0
def tw2125820475072684426:=0
def tw18438197253925101071:=0
def tw1485144810829735977:=0
def tw13715749244920810950:=0
def tw7006117973224984525:=0
def tw14254921082089735159:=0
def tw9948105883410008738:=0
def tw7152870075714769671:=0
def tw4808350083400426634:=0
def tw4511216365011944278:=0
def tw416772408219755196:=0
def tw3666221889896318821:=0
def tw320312328136085871:=0
def tw2597242075954279969:=0
def tw18163377953520768691:=0
def tw1769362629942991095:=0
def tw16234896321630994025:=0
def tw14156578903099012799:=0
def tw13993672979221740487:=0
def tw13874205869660346736:=0
def tw13734057630983541589:=0
def tw11789504630185016062:=0
def tw11360343295116963339:=0
def tw513688472722068325:=0
def tw9458542482929100392:=0
def tw9202225844536957231:=0
def tw8170625587667478539:=0
def tw8099501725611256070:=0
def tw770817827136253804:=0
def tw4774284966695682969:=0
def tw4657363649076756307:=0
def tw4099235986664219181:=0
def tw3495958239694967572:=0
def tw1889409955692694119:=0
def tw15331897789304135228:=0
def tw14754740455177664301:=0
def tw14347842986646935970:=0
def tw1400490298819051510:=0
def tw13601818823227414460:=0
def tw13349098583267348984:=0
def tw1172112347175558591:=0
def tw7825546348372397249:=0
def tw15248441409868109013:=0
def tw8467551841924063176:=0
def tw8104499549686671478:=0
def tw7136134431115853504:=0
def tw6430543878867343025:=0
def tw5055742897340491830:=0
def tw4546656484891048657:=0
def tw3579641525498367999:=0
def tw3424243964796921961:=0
def tw17495364346054310471:=0
def tw13090236736544596509:=0
def tw9115893194737301270:=0
def tw7811445364835413992:=0
def tw7650562730123273515:=0
def tw7647949907617094265:=0
def tw4625852127352413644:=0
def tw4494772192733660952:=0
def tw3953875376290752977:=0
def tw3390713581498457544:=0
def tw3300201545244848648:=0
def tw18385762527417253681:=0
def tw18323904156700765502:=0
def tw1699808568518307864:=0
def tw16928450170086545420:=0
def tw15139102209909193693:=0
def tw14616243270629519592:=0
def tw13742574494472854097:=0
def tw10097723340786410661:=0
def tw7064203029006049644:=0
def tw16562618707101988240:=0
def tw14210564393226807903:=0
def tw9920588237359440492:=0
def tw9820353085380609772:=0
def tw9725717747481602135:=0
def tw9667110869606756335:=0
def tw9574511241723375000:=0
def tw9510534848499377538:=0
def tw9506447007199163050:=0
def tw938399744351959831:=0
def tw927099346369739294:=0
def tw926893511214831897:=0
def tw9228831930472294041:=0
def tw9052135008390228571:=0
def tw9024878901313321677:=0
def tw8994292680158938463:=0
def tw895050518622575428:=0
def tw8921342209105382191:=0
def tw8872189705357597309:=0
def tw8865978769248577646:=0
def tw8835838493128077562:=0
def tw8800588751118339467:=0
def tw8768780649121123827:=0
def tw8760363755813661384:=0
def tw8673438669636588854:=0
def tw8427297537957098670:=0
def tw8329677465332452566:=0
def tw8328802329313513448:=0
def tw8254442322043868799:=0
def tw8243380415198935339:=0
def tw8222441249537641268:=0
def tw7953844099455295879:=0
def tw7945727890744714296:=0
def tw7883413286970723458:=0
def tw7862322089110186733:=0
def tw785329369460576533:=0
def tw7796776611499007633:=0
def tw7708753615058060618:=0
def tw7703304152072079510:=0
def tw769669812218683248:=0
def tw7654220006417478084:=0
def tw7570535438518648560:=0
def tw7393448618573947930:=0
def tw7392743535089767671:=0
def tw7371259616237940913:=0
def tw7280911971113906095:=0
def tw7157890037248272143:=0
def tw7116574192537681905:=0
def tw700594040209266068:=0
def tw6879740596251365870:=0
def tw6855647920338576550:=0
def tw6725164611471027989:=0
def tw6644058650092042793:=0
def tw6612685366253228784:=0
def tw6575494268891360655:=0
def tw6543699017797097653:=0
def tw6543651459081104923:=0
def tw6515804629192105848:=0
def tw6515200500917268358:=0
def tw6224133934308784086:=0
def tw6170297280973260416:=0
def tw6152965039311533227:=0
def tw6114206166405103148:=0
def tw5905077162085866900:=0
def tw5840070375369656743:=0
def tw5664574496228740085:=0
def tw5533091355744492892:=0
def tw5518954080453683785:=0
def tw547553364815756387:=0
def tw5449076412249163944:=0
def tw5396667137528346185:=0
def tw5354166830240292049:=0
def tw5266956123576361069:=0
def tw5193664132705129802:=0
def tw5099582253939414158:=0
def tw4999881471582490601:=0
def tw4977867772656765115:=0
def tw4951102377511233642:=0
def tw4906137332890840218:=0
def tw4849206200788238935:=0
def tw4754553956295095579:=0
def tw4688909165694821440:=0
def tw4597564292049100179:=0
def tw4531024043181262908:=0
def tw4415090204515058270:=0
def tw4342156367093067746:=0
def tw42942483432985283:=0
def tw4209268754072144210:=0
def tw4086931072293104856:=0
def tw3979055232186213856:=0
def tw3972096339174398083:=0
def tw3958983025978736827:=0
def tw3921816947472156145:=0
def tw3892275425771742156:=0
def tw3875241810906841523:=0
def tw3860640465743696088:=0
def tw3810605543547272460:=0
def tw378671354260266257:=0
def tw3715964595175482542:=0
def tw3681288191064826889:=0
def tw3681047413039529908:=0
def tw3636734609242644659:=0
def tw3591256964395333026:=0
def tw3585245019970290604:=0
def tw3310793794546916338:=0
def tw329699113938834067:=0
def tw3269883418507987374:=0
def tw3237192496556757311:=0
def tw3231677134680408479:=0
def tw3215243448474028132:=0
def tw3213701171750982848:=0
def tw319196565886696791:=0
def tw3150636452050945416:=0
def tw3149504597537854875:=0
def tw3112960245162054491:=0
def tw3025838376435018142:=0
def tw296049749701062197:=0
def tw2950496236420688639:=0
def tw2931112033680077172:=0
def tw2914324530028388285:=0
def tw2891724291448863323:=0
def tw2855082802942826051:=0
def tw2850197578493405689:=0
def tw2773940821694127530:=0
def tw2622314068946963168:=0
def tw2618082824141046487:=0
def tw2616346435450336785:=0
def tw2614425301468788763:=0
def tw2597233263341172995:=0
def tw2539641660490388347:=0
def tw2526695320717948634:=0
def tw2507947012306397689:=0
def tw2464007517832978598:=0
def tw2448782046414834895:=0
def tw2295195473179322842:=0
def tw2279041576824567679:=0
def tw2264809766508521260:=0
def tw2237410435227309062:=0
def tw2235652001908386246:=0
def tw220080729733128267:=0
def tw2084248729610261848:=0
def tw1918044724624083695:=0
def tw1865762363631404361:=0
def tw18419532880218212103:=0
def tw18199072694060997490:=0
def tw18172673571649394991:=0
def tw18057751781792350709:=0
def tw18043628828003583448:=0
def tw17994901327245074135:=0
def tw17975411535546510688:=0
def tw17957049154243547385:=0
def tw17785417976539649912:=0
def tw17785140303539155885:=0
def tw17680300009010504682:=0
def tw17611678371886976560:=0
def tw17565022099629911888:=0
def tw17094188431588078091:=0
def tw17036799858300348337:=0
def tw17004556476054473536:=0
def tw16961247628568524950:=0
def tw16856433703205153501:=0
def tw16826239841421582795:=0
def tw16790886987058539305:=0
def tw16722546581745754428:=0
def tw16665776674957233292:=0
def tw16631103065525861881:=0
def tw16524311934892132913:=0
def tw1632656441559887175:=0
def tw16307404720035501207:=0
def tw16305700050477927834:=0
def tw1621589316064923248:=0
def tw1617929904449535897:=0
def tw1613243336344861403:=0
def tw15960591450063510302:=0
def tw15878454001465863705:=0
def tw15874750064284970180:=0
def tw15861902572218623901:=0
def tw1583626714353437593:=0
def tw15647827608981575568:=0
def tw15634765887489026838:=0
def tw15625839878309161729:=0
def tw15479163288542662635:=0
def tw15450431040079065955:=0
def tw15356923629978911408:=0
def tw15284089232621191848:=0
def tw15163778410620222435:=0
def tw15061830481057210978:=0
def tw15008860951658385931:=0
def tw14989883159775379576:=0
def tw14738289880252321533:=0
def tw14731882621670270744:=0
def tw14624074087002197170:=0
def tw1448190846564286525:=0
def tw14465863505931664073:=0
def tw14447788434205764989:=0
def tw1430634517770725802:=0
def tw14278872612494730229:=0
def tw1427590547767221558:=0
def tw14269489433640624849:=0
def tw14181560363105129643:=0
def tw14180210992558059493:=0
def tw1417808411016667950:=0
def tw14143230387881982918:=0
def tw14109033118822898350:=0
def tw14091326764114069230:=0
def tw14004252659279943028:=0
def tw14002996877309023267:=0
def tw13899551118534006779:=0
def tw13735102152501255415:=0
def tw13676273375852670651:=0
def tw13618921509088130516:=0
def tw13494152650371237547:=0
def tw13440613961216591771:=0
def tw13329742040862633625:=0
def tw13181940963435845075:=0
def tw13147818836759809038:=0
def tw13110158644786217460:=0
def tw13007966707919188470:=0
def tw12926404951793913232:=0
def tw12917166054655899243:=0
def tw1287629329029941538:=0
def tw1282630271105448384:=0
def tw12798428365830501066:=0
def tw12532655042814895225:=0
def tw12529383522894075332:=0
def tw12510251491283235079:=0
def tw12486387935600167341:=0
def tw12365395489584734213:=0
def tw1230193962431915078:=0
def tw12256159343486840049:=0
def tw12205694259590582371:=0
def tw12195904626867513793:=0
def tw12189921994623723688:=0
def tw12136819097839628278:=0
def tw12028770741828848463:=0
def tw11982704053497333848:=0
def tw11948501873987902692:=0
def tw11882695995864167932:=0
def tw11767173152318420300:=0
def tw11689778267103867439:=0
def tw11628916036837881192:=0
def tw11562766447125296160:=0
def tw11511105254636609968:=0
def tw11451644095689624989:=0
def tw11432683649385784886:=0
def tw11372855512559531609:=0
def tw11369396441032890201:=0
def tw11337166178215054842:=0
def tw11242078715347442570:=0
def tw1108435712502511562:=0
def tw1097362333905984119:=0
def tw10931333059927333207:=0
def tw109245806970125159:=0
def tw10857216707166421688:=0
def tw10695371089343589528:=0
def tw10617937172057764358:=0
def tw10613904540075816600:=0
def tw10578574529584963965:=0
def tw10512189758612544202:=0
def tw10405574026518586341:=0
def tw10338671434537756182:=0
def tw10338043867199896893:=0
def tw10177859668763951846:=0
def tw10117216421411033016:=0
def tw10056608814505730068:=0
end PySem.W.Fast
local macro_rules|`(tactic| walk_at "a")=>`(tactic| (refine' L3.zZ ?a ?l ?c ?k;(case a=>k_is);(case l=>k_is);(case c=>k_is);(case k=>k_is)))
local macro_rules|`(tactic| walk_at "b")=>`(tactic| (refine' L3.xH ?a ?l ?e ?c ?k;(case a=>k_is);(case l=>k_is);(case e=>k_is);(case c=>k_is);(case k=>k_is)))
local macro_rules|`(tactic| walk_at "c")=>`(tactic| (refine' L3.Ad ?tl ?a ?l ?g1 ?g2 ?g3 ?g4;(case a=>k_is);(case l=>k_is);(case tl=>(first|exact L3.D5|exact L3.D4));(case g1=>k_is);(case g2=>k_is);(case g3=>k_is);(case g4=>k_is)))
local macro_rules|`(tactic| walk_at "f")=>`(tactic| (refine' L3.xI ?a ?l ?e ?c ?k;(case a=>k_is);(case l=>k_is);(case e=>k_is);(case c=>k_is);(case k=>k_is)))
local macro_rules|`(tactic| walk_at "g")=>`(tactic| (refine' L3.xJ ?l ?e ?c ?k ?n;(case l=>k_is);(case e=>k_is);(case c=>k_is);(case k=>k_is);(case n=>k_is)))
local macro_rules|`(tactic| walk_at "d")=>`(tactic| (refine' L3.Aa ?l ?c ?k ?n;(case l=>k_is);(case c=>k_is);(case k=>k_is);(case n=>k_is)))
local macro_rules|`(tactic| walk_at "e2")=>`(tactic| (refine' L3.nZ ?ns ?g1 ?g2 ?g3 ?g4 ?m1 ?m2 ?m3 ?m4 ?na;(case ns=>k_is);(case g1=>k_is);(case g2=>k_is);(case g3=>k_is);(case g4=>k_is);(case m1=>k_is);(case m2=>k_is);(case m3=>k_is);(case m4=>k_is);(case na=>(refine' L3.DZ ?x0 ?x1;(case x0=>k_is);(case x1=>k_is)))))
local macro_rules|`(tactic| walk_at "e3")=>`(tactic| (refine' L3.nZ ?ns ?g1 ?g2 ?g3 ?g4 ?m1 ?m2 ?m3 ?m4 ?na;(case ns=>k_is);(case g1=>k_is);(case g2=>k_is);(case g3=>k_is);(case g4=>k_is);(case m1=>k_is);(case m2=>k_is);(case m3=>k_is);(case m4=>k_is);(case na=>(refine' L3.D0 ?x0 ?x1 ?x2;(case x0=>k_is);(case x1=>k_is);(case x2=>k_is)))))
local macro_rules|`(tactic| walk_at "e6")=>`(tactic| (refine' L3.nZ ?ns ?g1 ?g2 ?g3 ?g4 ?m1 ?m2 ?m3 ?m4 ?na;(case ns=>k_is);(case g1=>k_is);(case g2=>k_is);(case g3=>k_is);(case g4=>k_is);(case m1=>k_is);(case m2=>k_is);(case m3=>k_is);(case m4=>k_is);(case na=>(refine' L3.D1 ?x0 ?x1 ?x2 ?x3 ?x4 ?x5;(case x0=>k_is);(case x1=>k_is);(case x2=>k_is);(case x3=>k_is);(case x4=>k_is);(case x5=>k_is)))))
local macro_rules|`(tactic| walk_at "e7")=>`(tactic| (refine' L3.nZ ?ns ?g1 ?g2 ?g3 ?g4 ?m1 ?m2 ?m3 ?m4 ?na;(case ns=>k_is);(case g1=>k_is);(case g2=>k_is);(case g3=>k_is);(case g4=>k_is);(case m1=>k_is);(case m2=>k_is);(case m3=>k_is);(case m4=>k_is);(case na=>(refine' L3.D2 ?x0 ?x1 ?x2 ?x3 ?x4 ?x5 ?x6;(case x0=>k_is);(case x1=>k_is);(case x2=>k_is);(case x3=>k_is);(case x4=>k_is);(case x5=>k_is);(case x6=>k_is)))))
local macro_rules|`(tactic| walk_at "e8")=>`(tactic| (refine' L3.nZ ?ns ?g1 ?g2 ?g3 ?g4 ?m1 ?m2 ?m3 ?m4 ?na;(case ns=>k_is);(case g1=>k_is);(case g2=>k_is);(case g3=>k_is);(case g4=>k_is);(case m1=>k_is);(case m2=>k_is);(case m3=>k_is);(case m4=>k_is);(case na=>(refine' L3.D3 ?x0 ?x1 ?x2 ?x3 ?x4 ?x5 ?x6 ?x7;(case x0=>k_is);(case x1=>k_is);(case x2=>k_is);(case x3=>k_is);(case x4=>k_is);(case x5=>k_is);(case x6=>k_is);(case x7=>k_is)))))
namespace L2
open PySem PySem.W
def liveO (o : Obj) : Option Obj := match o with
  | ⟨_, _, .freed, _⟩ => none
  | o => some o
noncomputable def pickAt (l : List Obj) : Nat → List Nat → List (Option Obj) :=
  @List.rec Obj (fun _ => Nat → List Nat → List (Option Obj)) (fun _ as => @List.rec Nat (fun _ => List (Option Obj)) [] (fun _ _ _ => [none]) as)
    (fun o _ ih i as => @List.rec Nat (fun _ => List (Option Obj)) [] (fun a r _ => @Bool.rec (fun _ => List (Option Obj)) (ih (Nat.add i 1) (a :: r)) (liveO o :: ih (Nat.add i 1) r) (Nat.beq a i)) as) l
theorem pickAt_ok : ∀ (l : List Obj) (i : Nat) (K : Frag), pickAt l i (K.map (·.1)) = K.map (fun p => some p.2) → ∀ p ∈ K, i ≤ p.1 ∧ (l[p.1 - i]?).bind liveO = some p.2
  | _, _, [], _, p, hp => absurd hp List.not_mem_nil
  | [], i, q :: K, e, p, hp => by
    have e' : [none] = some q.2 :: K.map (fun p => some p.2) := e
    cases e'
  | o :: l, i, q :: K, e, p, hp => by
    have e' : @Bool.rec (fun _ => List (Option Obj)) (pickAt l (i + 1) (q.1 :: K.map (·.1))) (liveO o :: pickAt l (i + 1) (K.map (·.1))) (Nat.beq q.1 i) = some q.2 :: K.map (fun p => some p.2) := e
    have st : ∀ a : Nat, i + 1 ≤ a → (l[a - (i + 1)]?).bind liveO = some p.2 → i ≤ a ∧ ((o :: l)[a - i]?).bind liveO = some p.2 := fun a h1 h2 => by
      refine ⟨by lia, ?_⟩
      rw [show a - i = (a - (i + 1)) + 1 by lia]
      exact h2
    cases h : Nat.beq q.1 i with
    | true =>
      rw [h] at e'
      have e2 : liveO o :: pickAt l (i + 1) (K.map (·.1)) = some q.2 :: K.map (fun p => some p.2) := e'
      have hi := Nat.eq_of_beq_eq_true h
      have h1 := (List.cons.inj e2).1
      rcases List.mem_cons.mp hp with rfl | hp
      · refine ⟨Nat.le_of_eq hi.symm, ?_⟩
        rw [hi, Nat.sub_self, ← h1]
        rfl
      · obtain ⟨a, b⟩ := pickAt_ok l (i + 1) K (List.cons.inj e2).2 p hp
        exact st _ a b
    | false =>
      rw [h] at e'
      obtain ⟨a, b⟩ := pickAt_ok l (i + 1) (q :: K) e' p hp
      exact st _ a b
theorem lookup_mem {K : Frag} {a : Addr} {o : Obj} : K.lookup a = some o → (a, o) ∈ K := by
  induction K with
  | nil => intro h; cases h
  | cons p K ih =>
    intro h
    obtain ⟨b, x⟩ := p
    rw [List.lookup_cons] at h
    cases e : (a == b) with
    | true =>
      rw [e] at h
      have := eq_of_beq e
      subst this
      have := Option.some.inj h
      subst this
      exact List.mem_cons_self
    | false =>
      rw [e] at h
      exact List.mem_cons_of_mem _ (ih h)
theorem inP {K : Params → Frag} {as : List Addr} (e : ∀ P, as = (K P).map (·.1)) (w : World) (s : Shared) (x : pickAt s.heap.objs.toList 0 as = (K w.params).map fun p => some p.2) : InK K w s.heap := by
  intro a o h
  rw [e w.params] at x
  have := (pickAt_ok _ _ _ x _ (lookup_mem h)).2
  rw [Nat.sub_zero, Array.getElem?_toList] at this
  unfold Heap.get?
  cases e : s.heap.objs[a]? with
  | none => rw [e] at this; cases this
  | some z =>
    rw [e] at this
    obtain ⟨c, dd, da, sl⟩ := z
    cases da <;> first | exact this | cases this
noncomputable def kHookP (_ : Unit) (K : Params → Frag) (as : List Addr) (e : ∀ P, as = (K P).map (·.1)) : Hook :=
  ⟨List (Option Obj), fun s => pickAt s.heap.objs.toList 0 as, fun w => (K w.params).map fun p => some p.2, InK K, inP e, InK.keeps⟩
theorem kInP {K : Params → Frag} {as : List Addr} {e : ∀ P, as = (K P).map (·.1)} {w : World} {h : Heap} (Y : (kHookP () K as e).says w h) : (K w.params).In h := Y
end L2
local macro_rules | `(tactic| o_head ($f:ident $k:term $a:term $e:term)) => `(tactic| o_head (L2.kHookP () $k $a $e))
open PySem PySem.W PyProof.Rows
set_option maxRecDepth 100000 in
set_option maxHeartbeats 0 in
theorem PySem.Challenge.cw_rowsbeneath_k14_states_made_holds : PySem.Challenge.rw_rowsbeneath_k14_states_made.Holds := by
 w_on;o_law;k_head;(case hw=>w_witness2)
 k_fill
 refine L2.tq (l:=PySem.Challenge.rw_rowsbeneath_k14_states_made) (n:=63) (k:=10) (x:="_law_script") (CX:=L2.bM) (sp:=L3.qT) rfl (by decide) rfl ⟨rfl,by decide,by decide⟩ (fun w h Y=>L2.kInP Y) ?F (fun _ _ a ns hl _ hS=>⟨a,ns,rfl,hS,hl,fun _=>rfl⟩) (fun _ _ _ _ z=>z);case F=>
  intro w mg fa h KX G hmg;refine' L3.Ae KX G hmg ?d0 ?d1 ?d2 ?d3 ?d4 ?d5 ?d6 ?d7 ?d8 ?d9 ?d10 ?d11 ?d12 ?d13 ?d14 ?d15 ?d16 ?d17 ?d18 ?d19 ?d20 ?d21 ?d22 ?d23 ?d24 ?d25 ?d26 ?d27 ?d28 ?d29 ?d30 ?d31 ?d32 ?d33 ?d34 ?d35 ?d36 ?d37 ?d38 ?d39 ?d40 ?d41 ?d42 ?d43 ?d44 ?d45 ?d46 ?d47 ?d48 ?d49 ?dPO ?dSO ?CR ?IR ?CT ?IT ?CP ?IP ?CS ?IS ?CW ?IW ?h_look ?M_look ?h_take ?M_take ?h_need ?M_need ?h_need_name ?M_need_name ?h_need_number ?M_need_number ?h_need_end ?M_need_end ?h_kind_at ?M_kind_at ?h_fields_of ?M_fields_of ?h_deed ?M_deed ?h_told ?M_told ?h_copied ?M_copied ?h_end_with ?M_end_with ?CA ?IA ?h_seen ?M_seen ?h_between ?M_between ?h_row_left ?M_row_left ?h_need_shape ?M_need_shape ?h_one_row ?M_one_row ?h_change ?M_change ?h_run ?M_run ?y1 ?y2 ?y3 ?y4 ?n_MOST_FIGURES ?n_LONGEST_NAME ?n_MOST_ROWS ?n_MOST_TOKENS ?n_MOST_KINDS ?n_MOST_FIELDS ?n_MOST_SETS ?n_MOST_CHOICES ?n_MOST_SIGNS ?n_HIGHEST_ROW ?n_MOST_AT_ONCE ?n_FIGURES ?n_LETTERS ?n_GAPS ?n_SINGLE_SIGNS ?n_OWN_WORDS ?q_OWN_WORDS ?n_SORTS ?q_SORTS ?n_ENDS ?q_ENDS ?n_OWN_FAULTS ?q_OWN_FAULTS ?n_DOUBLE_SIGNS ?q_DOUBLE_SIGNS ?z_len ?z_int ?z_max ?z_min ?z_range ?z_isinstance ?z_list ?z_str ?z_bool ?z_tuple ?z_all ?z_dict ?z_enumerate ?z_zip ?z_ValueError ?xR ?rd ?ri ?mR ?qS ?aS ?bS ?nS ?pS ?mS ?qB ?aB ?bB ?nB ?pB ?mB ?qU ?aU ?bU ?nU ?pU ?mU
  (case d0=>walk_at "a")
  (case d1=>walk_at "a")
  (case d2=>walk_at "a")
  (case d3=>walk_at "a")
  (case d4=>walk_at "a")
  (case d5=>walk_at "a")
  (case d6=>walk_at "a")
  (case d7=>walk_at "a")
  (case d8=>walk_at "a")
  (case d9=>walk_at "a")
  (case d10=>walk_at "a")
  (case d11=>walk_at "a")
  (case d12=>walk_at "a")
  (case d13=>walk_at "a")
  (case d14=>walk_at "a")
  (case d15=>walk_at "a")
  (case d16=>walk_at "a")
  (case d17=>walk_at "a")
  (case d18=>walk_at "a")
  (case d19=>walk_at "a")
  (case d20=>walk_at "a")
  (case d21=>walk_at "a")
  (case d22=>walk_at "a")
  (case d23=>walk_at "a")
  (case d24=>walk_at "a")
  (case d25=>walk_at "a")
  (case d26=>walk_at "a")
  (case d27=>walk_at "a")
  (case d28=>walk_at "a")
  (case d29=>walk_at "a")
  (case d30=>walk_at "a")
  (case d31=>walk_at "a")
  (case d32=>walk_at "a")
  (case d33=>walk_at "a")
  (case d34=>walk_at "a")
  (case d35=>walk_at "a")
  (case d36=>walk_at "a")
  (case d37=>walk_at "a")
  (case d38=>walk_at "a")
  (case d39=>walk_at "a")
  (case d40=>walk_at "a")
  (case d41=>walk_at "a")
  (case d42=>walk_at "a")
  (case d43=>walk_at "a")
  (case d44=>walk_at "a")
  (case d45=>walk_at "a")
  (case d46=>walk_at "a")
  (case d47=>walk_at "a")
  (case d48=>walk_at "a")
  (case d49=>walk_at "a")
  (case dPO=>walk_at "b")
  (case dSO=>walk_at "f")
  (case CR=>walk_at "e3")
  (case IR=>walk_at "d")
  (case CT=>walk_at "e8")
  (case IT=>walk_at "d")
  (case CP=>walk_at "e2")
  (case IP=>walk_at "d")
  (case CS=>walk_at "e7")
  (case IS=>walk_at "d")
  (case CW=>walk_at "e3")
  (case IW=>walk_at "d")
  (case h_look=>k_is)
  (case M_look=>walk_at "d")
  (case h_take=>k_is)
  (case M_take=>walk_at "d")
  (case h_need=>k_is)
  (case M_need=>walk_at "d")
  (case h_need_name=>k_is)
  (case M_need_name=>walk_at "d")
  (case h_need_number=>k_is)
  (case M_need_number=>walk_at "d")
  (case h_need_end=>k_is)
  (case M_need_end=>walk_at "d")
  (case h_kind_at=>k_is)
  (case M_kind_at=>walk_at "d")
  (case h_fields_of=>k_is)
  (case M_fields_of=>walk_at "d")
  (case h_deed=>k_is)
  (case M_deed=>walk_at "d")
  (case h_told=>k_is)
  (case M_told=>walk_at "d")
  (case h_copied=>k_is)
  (case M_copied=>walk_at "d")
  (case h_end_with=>k_is)
  (case M_end_with=>walk_at "d")
  (case CA=>walk_at "e6")
  (case IA=>walk_at "g")
  (case h_seen=>k_is)
  (case M_seen=>walk_at "d")
  (case h_between=>k_is)
  (case M_between=>walk_at "d")
  (case h_row_left=>k_is)
  (case M_row_left=>walk_at "d")
  (case h_need_shape=>k_is)
  (case M_need_shape=>walk_at "d")
  (case h_one_row=>k_is)
  (case M_one_row=>walk_at "d")
  (case h_change=>k_is)
  (case M_change=>walk_at "d")
  (case h_run=>k_is)
  (case M_run=>walk_at "g")
  (case y1=>k_is)
  (case y2=>k_is)
  (case y3=>k_is)
  (case y4=>k_is)
  (case n_MOST_FIGURES=>k_is)
  (case n_LONGEST_NAME=>k_is)
  (case n_MOST_ROWS=>k_is)
  (case n_MOST_TOKENS=>k_is)
  (case n_MOST_KINDS=>k_is)
  (case n_MOST_FIELDS=>k_is)
  (case n_MOST_SETS=>k_is)
  (case n_MOST_CHOICES=>k_is)
  (case n_MOST_SIGNS=>k_is)
  (case n_HIGHEST_ROW=>k_is)
  (case n_MOST_AT_ONCE=>k_is)
  (case n_FIGURES=>k_is)
  (case n_LETTERS=>k_is)
  (case n_GAPS=>k_is)
  (case n_SINGLE_SIGNS=>k_is)
  (case n_OWN_WORDS=>k_is)
  (case q_OWN_WORDS=>refine' L3.mj ?h;(case h=>k_is))
  (case n_SORTS=>k_is)
  (case q_SORTS=>refine' L3.vM ?h;(case h=>k_is))
  (case n_ENDS=>k_is)
  (case q_ENDS=>refine' L3.xK ?h;(case h=>k_is))
  (case n_OWN_FAULTS=>k_is)
  (case q_OWN_FAULTS=>refine' L3.jT ?h;(case h=>k_is))
  (case n_DOUBLE_SIGNS=>k_is)
  (case q_DOUBLE_SIGNS=>refine' L3.iL ?h;(case h=>k_is))
  (case z_len=>k_is)
  (case z_int=>k_is)
  (case z_max=>k_is)
  (case z_min=>k_is)
  (case z_range=>k_is)
  (case z_isinstance=>k_is)
  (case z_list=>k_is)
  (case z_str=>k_is)
  (case z_bool=>k_is)
  (case z_tuple=>k_is)
  (case z_all=>k_is)
  (case z_dict=>k_is)
  (case z_enumerate=>k_is)
  (case z_zip=>k_is)
  (case z_ValueError=>k_is)
  (case xR=>walk_at "c")
  (case rd=>k_is)
  (case ri=>k_is)
  (case mR=>walk_at "d")
  (case qS=>walk_at "c")
  (case aS=>k_is)
  (case bS=>k_is)
  (case nS=>k_is)
  (case pS=>k_is)
  (case mS=>walk_at "d")
  (case qB=>walk_at "c")
  (case aB=>k_is)
  (case bB=>k_is)
  (case nB=>k_is)
  (case pB=>k_is)
  (case mB=>walk_at "d")
  (case qU=>walk_at "c")
  (case aU=>k_is)
  (case bU=>k_is)
  (case nU=>k_is)
  (case pU=>k_is)
  (case mU=>walk_at "d")
