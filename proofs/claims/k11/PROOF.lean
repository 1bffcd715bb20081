import PyProof.Rows.All
import Wide.All
import OpenK.AllK
import Wide.FinOn
import Lean
import PyProof.EqAt
import PyProof.EqKinds
import PyProof.TupleCall
import PySem.Challenge.RW_rowsbeneath_k11_programs_made
set_option Elab.async false
set_option linter.all false
set_option maxRecDepth 100000
set_option maxHeartbeats 0
abbrev ZF:=PySem.W.Frag
section
open PySem PySem.Spec PyProof.Rows
def DI:=@List.length_map
def DJ:=@Heap.get?_push_of_some
def DK:=@List.getElem?_eq_some_iff
def DL:=@List.length_append
def DM:=@List.mem_cons_self
def DN:=@Nat.le_refl
def DP:=@List.map_append
def DQ:=@List.length_cons
def DR:=@List.mem_cons_of_mem
def DS:=@List.length_take
def DT:=@PySem.F.type_list_append
def DU:=@PySem.F.slot_list_append
def DV:=@PySem.F.plainAttrs_list
def DW:=@Heap.lt_size
def DY:=@List.mem_cons
def DZ:=@List.mem_singleton
def D0:=@List.mem_append
def D1:=@Bool.false_ne_true
def D2:=@List.mem_map
def D3:=@PySem.boot_len
def D4:=@List.mem_of_getElem?
def D5:=@Option.some.inj
def D6:=@List.map_cons
def D7:=@List.size_toArray
def D8:=@Heap.get?_push_size
def D9:=@List.getElem?_eq_getElem
def Ea:=@List.length_drop
def Eb:=@List.not_mem_nil
def Ec:=@List.getElem?_map
def Ed:=@Nat.lt_of_lt_of_le
def Ee:=@PySem.W.mg_of
def Ef:=@Nat.le_trans
def Eg:=@Nat.ne_of_lt
def Eh:=@List.all_eq_true
def Ei:=@List.mem_of_mem_take
def Ej:=@Nat.zero_le
def Ek:=@List.mem_append_right
def El:=@List.append_nil
def Em:=@List.length_nil
def En:=@List.append_assoc
def Eo:=@PySem.W.mg_none_of
def Ep:=@List.take_of_length_le
def Er:=@Bool.and_eq_true
def Es:=@List.getElem?_append_left
def Et:=@List.flatten_cons
def Eu:=@List.take_succ
def Ev:=@List.drop_eq_getElem_cons
def Ew:=@List.take_length
def Ex:=@List.contains_iff_mem
def Ey:=@List.getElem?_append_right
def Ez:=@List.mem_range
def EA:=@List.length_replicate
def EB:=@PySem.W.callWith_K
def EC:=@PySem.W.kia_one
def ED:=@PyProof.Rows.boot_int
def EE:=@List.take_append_drop
def EF:=@Bool.eq_iff_iff
def EG:=@PyProof.Rows.callWith_type1
def EH:=@Nat.lt_irrefl
def EI:=@List.lookup_cons
def EJ:=@Int.toNat_natCast
def EK:=@Heap.size_push
def EL:=@List.nodup_cons
def EM:=@Calls.spliced_cons
def EQ:=@List.cons_append
def ER:=@List.getElem_mem
def ET:=@List.mem_append_left
def EU:=@Calls.callWith_builtin
def EV:=@List.map_map
def EX:=@Bool.eq_false_iff
def EY:=@List.length_eq_zero_iff
def EZ:=@List.filterMap_cons
def E1:=@PySem.mem_of_lookup
def E2:=@Nat.lt_succ_self
def E3:=@List.of_mem_zip
def E4:=@Nat.le_succ
def E5:=@List.find?_cons
def E6:=@Nat.min_eq_left
def E7:=@Calls.evalArgs_plain
def E8:=@List.getElem?_of_mem
def E9:=@List.drop_zero
def Fa:=@List.length_pos_iff
def Fb:=@List.nil_append
def Fc:=@Calls.Constant_str
def Fd:=@Option.map_some
def Fe:=@PySem.W.cellsFrom_some
def Ff:=@PySem.F.plainAttrs_str
def Fg:=@List.nodup_append
def Fh:=@List.any_cons
def Fi:=@List.mem_filter
def Fj:=@Prod.mk.inj
def Fk:=@Nat.ne_of_gt
end
set_option hygiene false in
local macro_rules|`(tactic| walk_at "l")=>`(tactic| first|(cases h;subst_vars;rfl)|((repeat rcases h with ⟨_,h⟩)<;>(subst_vars;rfl)))
set_option hygiene false in
local macro_rules|`(tactic| walk_at "o")=>`(tactic| refine F.ok ZZ (fun vs H Q E h=>by walk_at "l") (fun cdv A outer s H vs Q E hr h=>?_))
set_option hygiene false in
local macro_rules|`(tactic| walk_at "ob")=>`(tactic| refine F.okb ZZ (fun vs H Q E h=>by walk_at "l") (fun cdv A outer s H vs Q E hr h=>?_))
local macro_rules|`(tactic| walk_at "0")=>`(tactic| exact fun _ _ _ _ _ _ us hl=>match us,hl with|[],_=>rfl)
local macro_rules|`(tactic| walk_at "1")=>`(tactic| exact fun _ _ _ _ _ _ us hl=>match us,hl with|[_],_=>rfl)
local macro_rules|`(tactic| walk_at "2")=>`(tactic| exact fun _ _ _ _ _ _ us hl=>match us,hl with|[_,_],_=>rfl)
local macro_rules|`(tactic| walk_at "3")=>`(tactic| exact fun _ _ _ _ _ _ us hl=>match us,hl with|[_,_,_],_=>rfl)
local macro_rules|`(tactic| walk_at "4")=>`(tactic| exact fun _ _ _ _ _ _ us hl=>match us,hl with|[_,_,_,_],_=>rfl)
local macro_rules|`(tactic| walk_at "5")=>`(tactic| exact fun _ _ _ _ _ _ us hl=>match us,hl with|[_,_,_,_,_],_=>rfl)
local macro_rules|`(tactic| walk_at "6")=>`(tactic| exact fun _ _ _ _ _ _ us hl=>match us,hl with|[_,_,_,_,_,_],_=>rfl)
local macro_rules|`(tactic| walk_at "7")=>`(tactic| exact fun _ _ _ _ _ _ us hl=>match us,hl with|[_,_,_,_,_,_,_],_=>rfl)
local macro_rules|`(tactic| walk_at "8")=>`(tactic| exact fun _ _ _ _ _ _ us hl=>match us,hl with|[_,_,_,_,_,_,_,_],_=>rfl)
local macro_rules|`(tactic| walk_at "9")=>`(tactic| exact fun _ _ _ _ _ _ us hl=>match us,hl with|[_,_,_,_,_,_,_,_,_],_=>rfl)
theorem zk {p:Prop} (h:p:=by decide +kernel):p:=h
theorem zo {p:Prop} (h:p:=by omega):p:=h
theorem zd {p:Prop} (h:p:=by decide):p:=h
theorem zlx (h:Nat.ble n 1000=true:=by rfl):n<=PySem.sizeLine:=Nat.le_trans (Nat.le_of_ble_eq_true h) zd
namespace L2
open PySem PySem.Spec PyProof.Rows
abbrev bT:=Sum Int Str
def jL:bT->Value->Bool
 | .inl k,v=>Value.isInt k v
 | .inr x,v=>Value.isStrOf x v
def B5 (w:World):bT->Int
 | .inl k=>hashInt k
 | .inr x=>hashStr w x
theorem bU:∀ {k:bT} {v:Value},jL k v=true->(∃ i t,k=Sum.inl i/\v=Value.int i t)\/(∃ x t,k=Sum.inr x/\v=Value.str x t)
 | .inl i,v,h=>by
  obtain ⟨t,e⟩:=Value.isInt_shape (k:=i) (v:=v) h;exact .inl ⟨i,t,rfl,e⟩
 | .inr x,v,h=>by
  obtain ⟨t,e⟩:=Value.isStrOf_shape (x:=x) (v:=v) h;exact .inr ⟨x,t,rfl,e⟩
theorem qm (i:Int) (t:Tok):jL (.inl i) (.int i t)=true:=by simp [jL,Value.isInt]
theorem qo (x:Str) (t:Tok):jL (.inr x) (.str x t)=true:=by simp [jL,Value.isStrOf]
theorem xZ (a b:Int):decide ((Sum.inl a:bT)=Sum.inl b)=(a == b):=by
 by_cases e:a=b
 ·subst e;simp
 ·have h:¬ (Sum.inl a:bT)=Sum.inl b:=fun q=>e (Sum.inl.inj q);rw [decide_eq_false h];exact (beq_eq_false_iff_ne.mpr e).symm
theorem x6 (a b:Str):decide ((Sum.inr a:bT)=Sum.inr b)=decide (a=b):=by
 by_cases e:a=b
 ·subst e;simp
 ·have h:¬ (Sum.inr a:bT)=Sum.inr b:=fun q=>e (Sum.inr.inj q);rw [decide_eq_false h,decide_eq_false e]
theorem x9 (a:Int) (b:Str):decide ((Sum.inl a:bT)=Sum.inr b)=false:=decide_eq_false (fun q=>nomatch q)
theorem ya (a:Str) (b:Int):decide ((Sum.inr a:bT)=Sum.inl b)=false:=decide_eq_false (fun q=>nomatch q)
def ca (prog:Program) (w:World):PySem.KeyKind prog w bT where
 is:=jL
 hash:=B5 w
 inj:=fun v a b ha hb=>by
  rcases bU ha with ⟨i,t,rfl,rfl⟩|⟨x,t,rfl,rfl⟩
  ·rcases bU hb with ⟨j,u,rfl,e⟩|⟨y,u,rfl,e⟩
   ·injection e with e1 _;rw [e1]
   ·exact nomatch e
  ·rcases bU hb with ⟨j,u,rfl,e⟩|⟨y,u,rfl,e⟩
   ·exact nomatch e
   ·injection e with e1 _;rw [e1]
 byValue:=fun k v h=>by
  rcases bU h with ⟨i,t,rfl,rfl⟩|⟨x,t,rfl,rfl⟩<;>rfl
 pyHash:=fun hv h=>by
  rcases bU hv with ⟨i,t,rfl,rfl⟩|⟨x,t,rfl,rfl⟩
  ·exact wpAny_pyHash_int h
  ·exact wpAny_pyHash_str h
 eqBool:=fun hu hv h=>by
  rcases bU hu with ⟨i,t,rfl,rfl⟩|⟨x,t,rfl,rfl⟩
  ·rcases bU hv with ⟨j,u,rfl,rfl⟩|⟨y,u,rfl,rfl⟩
   ·rw [xZ] at h;exact wpAny_eqBool_int h
   ·rw [x9] at h;exact SeqAt.EqAt.int_str i t y u _ _ _ _ h
  ·rcases bU hv with ⟨j,u,rfl,rfl⟩|⟨y,u,rfl,rfl⟩
   ·rw [ya] at h;exact SeqAt.EqAt.str_int x t j u _ _ _ _ h
   ·rw [x6] at h;exact wpAny_eqBool_str h
 «strs»:=fun k x t v h=>by
  rcases bU h with ⟨i,u,rfl,e⟩|⟨y,u,rfl,e⟩
  ·exact nomatch e
  ·injection e with e1 _;subst e1;cases v<;>rfl
theorem lW (prog:Program) (w:World) (i:Int) (t:Tok):(ca prog w).is (.inl i) (.int i t)=true:=qm i t
theorem lX (prog:Program) (w:World) (x:Str) (t:Tok):(ca prog w).is (.inr x) (.str x t)=true:=qo x t
inductive V where
 | non|bl (b:Bool)|int (i:Int)|str (x:Str)|byt (b:Array UInt8)|flt (b:UInt64)|ref (a:Addr)|ty (n:String)
 deriving DecidableEq
def RelV:V->Value->Prop
 | .non,u=>u=Value.none
 | .bl b,u=>u=Value.bool b
 | .int i,u=>∃ t,u=Value.int i t
 | .str x,u=>∃ t,u=Value.str x t
 | .byt b,u=>∃ t,u=Value.bytes b t
 | .flt b,u=>∃ t,u=Value.float b t
 | .ref a,u=>u=Value.ref a
 | .ty n,u=>u=Value.type n
abbrev Vals:List V->List Value->Prop:=Paired RelV
variable {us:List Value} {xs:List V}
theorem Vals.length (r:Vals xs us):xs.length=us.length:=Paired.length r
theorem Vals.get:∀ {xs:List V} {us:List Value} {i:Nat} {x:V},Vals xs us->xs[i]?=some x->∃ u,us[i]?=some u/\RelV x u
 | _,_,_,_,.nil,e=>by simp at e
 | _,_,0,_,.cons r _,e=>by simp at e;subst e;exact ⟨_,rfl,r⟩
 | _,_,i+1,x,.cons _ t,e=>by
  obtain ⟨u,h1,h2⟩:=Vals.get (i:=i) (x:=x) t (by simpa using e);exact ⟨u,by simpa using h1,h2⟩
variable {u:Value} {x:V}
theorem Vals.set (r:RelV x u):∀ {xs:List V} {us:List Value} (i:Nat),Vals xs us->Vals (xs.set i x) (us.set i u)
 | _,_,_,.nil=>.nil
 | _,_,0,.cons _ t=>.cons r t
 | _,_,i+1,.cons q t=>.cons q (Vals.set r i t)
theorem Vals.append:∀ {xs ys:List V} {us ws:List Value},Vals xs us->Vals ys ws->Vals (xs++ys) (us++ws)
 | _,_,_,_,.nil,s=>s
 | _,_,_,_,.cons r t,s=>.cons r (Vals.append t s)
theorem Vals.take:∀ {xs:List V} {us:List Value} (n:Nat),Vals xs us->Vals (xs.take n) (us.take n)
 | _,_,0,_=>.nil
 | _,_,_+1,.nil=>.nil
 | _,_,n+1,.cons r t=>.cons r (Vals.take n t)
theorem Vals.drop:∀ {xs:List V} {us:List Value} (n:Nat),Vals xs us->Vals (xs.drop n) (us.drop n)
 | _,_,0,r=>r
 | _,_,_+1,.nil=>.nil
 | _,_,n+1,.cons _ t=>Vals.drop n t
def RelO:Option V->Option Value->Prop
 | some v,some u=>RelV v u
 | none,none=>True
 | _,_=>False
def KV {κ:Type}:List (κ×V)->List (κ×Value)->Prop:=Paired fun (p:κ×V) (q:κ×Value)=>p.1=q.1/\RelV p.2 q.2
def kV:bT->V
 | .inl i=>.int i
 | .inr x=>.str x
inductive HO where
 | lst (xs:List V)
 | tup (xs:List V)
 | dK (kvs:List (bT×V))|dT (kvs:List (List bT×V))
 | set (S:Int->Bool) (n:Nat)
 | ins (C dx:Addr) (fs:List (Str×V))
 | own (x:Addr)
 | xd (fs:List (Str×V))
 | met (f x:Addr)
 | rng (lo hi:Int)
 | frz (o:Obj) (u:HO)
 | tbl (ps:Array Value)
 | ext (φ:Heap->Prop)
abbrev Hp:=Addr->Option HO
def aq (H:Hp) (a:Addr) (o:HO):Hp:=fun b=>if b=a then some o else H b
variable {o:HO} {a:Addr} {H:Hp}
theorem ae:aq H a o a=some o:=by unfold aq;rw [if_pos rfl]
variable {b:Addr}
theorem ao (h:b≠a):aq H a o b=H b:=by unfold aq;rw [if_neg h]
theorem zX {o u:HO} (h:H a=some o) (h':H b=some u) (d:o≠u):a≠b:=by
 intro e;subst e;rw [h] at h';exact d (D5 h')
theorem ap (h:H a=some o) (h':H b=none):a≠b:=by
 intro e;subst e;rw [h] at h';cases h'
def TupP (h:Heap) (a:Addr) (items:Array Value):Prop:=∃ o,h.get? a=some o/\(o.cls,o.dict)=(Value.type "tuple",none)/\∃ n,o.data=Data.seq items n
variable {items:Array Value} {h:Heap}
theorem TupP.up (p:TupP h a items):IsTup h a items:=let ⟨o,e,c,d⟩:=p;⟨o,e,(Fj c).1,d⟩
theorem TupP.lt (p:TupP h a items):a < h.objs.size:=let ⟨_,e,_⟩:=p;DW e
theorem TupP.new (h:Heap) (items:Array Value):TupP (h.push { cls:=.type "tuple",data:=.seq items }) h.objs.size items:=⟨_,D8 _ rfl,rfl,_,rfl⟩
section
variable (P:Program) (w:World)
def ObjOk (H:Hp) (h:Heap) (a:Addr):HO->Prop
 | .lst xs=>xs.length<=sizeLine/\∃ (its:List Value) (n:Nat),Vals xs its/\h.get? a=some { cls:=.type "list",data:=.seq its.toArray n }
 | .tup xs=>xs.length<=sizeLine/\∃ its:List Value,Vals xs its/\TupP h a its.toArray
 | .dK kvs=>kvs.length<=sizeLine/\(a == sysModules)=false/\∃ vs,KV kvs vs/\h.DictOf (ca P w) a vs
 | .dT kvs=>kvs.length<=sizeLine/\(a == sysModules)=false/\∃ xs:List (List bT×Addr×Value),
   Paired (fun (p:List bT×V) (q:List bT×Addr×Value)=>p.1=q.1/\H q.2.1=some (.tup (p.1.map kV))/\RelV p.2 q.2.2) kvs xs /\
   ∃ o es ep,h.get? a=some o/\o.ExactDict/\o.data=.dict es ep/\es.toList=xs.map (entryOfKey (tupleKind (ca P w)))/\(xs.map (·.1)).Nodup
 | .set S n=>h.SetOf (intKind P w) a S n
 | .ins C dx fs=>H dx=some (.own a)/\fs.length<=1000/\dx≠a/\h.get? a=some (PySem.W.instObj C dx) /\
   ∃ mA,h.Ns1 dx mA/\(∀ f,RelO (fs.lookup f) (mA f))/\PySem.Within mA (fs.map (·.1))
 | .own _=>∃ o,h.get? a=some o
 | .xd fs=>∃ mA,h.Ns1 a mA/\∀ f,RelO (fs.lookup f) (mA f)
 | .rng lo hi=>∃ t u v,h.get? a=some { cls:=.type "range",data:=.fields #[.int lo t,.int hi u,.int 1 v] }
 | .frz o u=>h.get? a=some o/\ObjOk H h a u
 | .tbl ps=>h.get? a=some { cls:=.none,data:=.fields ps }
 | .met f x=>h.get? a=some (PySem.W.methodObj (.ref f) (.ref x))
 | .ext φ=>φ h/\(∃ o,h.get? a=some o)/\∀ h1 h2:Heap,φ h1->(∀ o,h1.get? a=some o->h2.get? a=some o)->φ h2
def HOk (H:Hp) (h:Heap):Prop:=∀ a o,H a=some o->ObjOk P w H h a o
end
section
variable {P:Program} {w:World} {H H':Hp} {h h':Heap} {a:Addr} {o:HO}
theorem ObjOk.lt (x:ObjOk P w H h a o):a < h.objs.size:=by
 cases o with
 | lst xs=>obtain ⟨_,_,_,_,e⟩:=x;exact DW e
 | tup xs=>obtain ⟨_,_,_,p⟩:=x;exact p.lt
 | dK kvs=>obtain ⟨_,_,_,_,o,_,_,e,_⟩:=x;exact DW e
 | dT kvs=>obtain ⟨_,_,_,_,o,_,_,e,_⟩:=x;exact DW e
 | set S n=>obtain ⟨o,_,_,_,e,_⟩:=x;exact DW e
 | ins C dx fs=>obtain ⟨_,_,_,e,_⟩:=x;exact DW e
 | own y=>obtain ⟨_,e⟩:=x;exact DW e
 | xd fs=>obtain ⟨_,⟨_,_,_,e,_⟩,_⟩:=x;exact DW e
 | rng lo hi=>obtain ⟨_,_,_,e⟩:=x;exact DW e
 | frz ob u=>obtain ⟨e,_⟩:=x;exact DW e
 | tbl ps=>exact DW (show h.get? a=some _ from x)
 | met f y=>exact DW (show h.get? a=some _ from x)
 | ext φ=>obtain ⟨_,⟨_,e⟩,_⟩:=x;exact DW e
theorem Paired.mapP {α β:Type} {F G:α->β->Prop}:∀ {l₁:List α} {l₂:List β},Paired F l₁ l₂->(∀ a b,F a b->G a b)->Paired G l₁ l₂
 | _,_,.nil,_=>.nil
 | _,_,.cons r t,f=>.cons (f _ _ r) (Paired.mapP t f)
theorem ObjOk.stay (x:ObjOk P w H h a o) (k:∀ b u,(b=a\/H b=some (.own a))->h.get? b=some u->h'.get? b=some u)
  (ho:∀ b,H b=some (.own a)->H' b=some (.own a)) (ht:∀ b xs,H b=some (.tup xs)->H' b=some (.tup xs)):ObjOk P w H' h' a o:=by
 induction o with
 | lst xs=>obtain ⟨z,its,n,r,e⟩:=x;exact ⟨z,its,n,r,k _ _ (.inl rfl) e⟩
 | tup xs=>obtain ⟨z,its,r,ob,e,c⟩:=x;exact ⟨z,its,r,ob,k _ _ (.inl rfl) e,c⟩
 | dK kvs=>obtain ⟨z,y,vs,r,ob,es,ep,e,c⟩:=x;exact ⟨z,y,vs,r,ob,es,ep,k _ _ (.inl rfl) e,c⟩
 | dT kvs=>
  obtain ⟨z,y,xs,r,ob,es,ep,e,c⟩:=x;exact ⟨z,y,xs,Paired.mapP r fun p q z=>⟨z.1,ht _ _ z.2.1,z.2.2⟩,ob,es,ep,k _ _ (.inl rfl) e,c⟩
 | set S n=>obtain ⟨ob,es,ep,t,e,c⟩:=x;exact ⟨ob,es,ep,t,k _ _ (.inl rfl) e,c⟩
 | ins C dx fs=>
  obtain ⟨d,z,ne,e,mA,⟨od,es,ep,e2,c⟩,r⟩:=x;exact ⟨ho _ d,z,ne,k _ _ (.inl rfl) e,mA,⟨od,es,ep,k _ _ (.inr d) e2,c⟩,r⟩
 | own y=>obtain ⟨ob,e⟩:=x;exact ⟨ob,k _ _ (.inl rfl) e⟩
 | xd fs=>obtain ⟨mA,⟨od,es,ep,e,c⟩,r⟩:=x;exact ⟨mA,⟨od,es,ep,k _ _ (.inl rfl) e,c⟩,r⟩
 | rng lo hi=>obtain ⟨t,u,v,e⟩:=x;exact ⟨t,u,v,k _ _ (.inl rfl) e⟩
 | frz ob u ih=>obtain ⟨e,q⟩:=x;exact ⟨k _ _ (.inl rfl) e,ih q⟩
 | tbl ps=>
  have e:h.get? a=some { cls:=.none,data:=.fields ps }:=x;show h'.get? a=some { cls:=.none,data:=.fields ps };exact k a _ (.inl rfl) e
 | met f y=>
  have e:h.get? a=some (PySem.W.methodObj (.ref f) (.ref y)):=x;show h'.get? a=some (PySem.W.methodObj (.ref f) (.ref y));exact k a _ (.inl rfl) e
 | ext φ=>obtain ⟨p,⟨o,e⟩,st⟩:=x;exact ⟨st _ _ p fun o q=>k _ _ (.inl rfl) q,⟨o,k _ _ (.inl rfl) e⟩,st⟩
theorem HOk.lt (x:HOk P w H h) (e:H a=some o):a < h.objs.size:=(x a o e).lt
theorem HOk.fresh (x:HOk P w H h) (e:h.objs.size<=a):H a=none:=by
 cases q:H a with
 | none=>rfl
 | some u=>exact absurd (Ed (x.lt q) e) (EH _)
theorem HOk.kept (x:HOk P w H h) (k:∀ b u,h.get? b=some u->h'.get? b=some u):HOk P w H h':=fun a o e=>
 (x a o e).stay (fun b u _ q=>k b u q) (fun _ q=>q) fun _ _ q=>q
theorem HOk.laid (x:HOk P w H h) (k:∀ b u,h.get? b=some u->h'.get? b=some u) (hp:h.objs.size<=a) (new:ObjOk P w (aq H a o) h' a o):HOk P w (aq H a o) h':=fun b u e=>by
 have hn:=x.fresh hp;by_cases hb:b=a
 ·subst hb;rw [ae] at e;cases e;exact new
 ·rw [ao hb] at e;exact (x b u e).stay (fun c v _ q=>k c v q) (fun c q=>by rw [ao (ap q hn)];exact q) fun c xs q=>by rw [ao (ap q hn)];exact q
end
def Rd (H:Hp) (a:Addr) (u:HO):Prop:=H a=some u\/∃ o,H a=some (.frz o u)
variable {P:Program}
theorem Rd.ok {w:World} {u:HO} (r:Rd H a u) (x:HOk P w H h):ObjOk P w H h a u:=by
 rcases r with r|⟨o,r⟩
 ·exact x a u r
 ·obtain ⟨_,q⟩:=x a _ r;exact q
def zY:Option HO->Prop
 | some (.lst _)=>True
 | some (.dK _)=>True
 | some (.dT _)=>True
 | some (.set _ _)=>True
 | some (.ins _ _ _)=>True
 | some (.ext _)=>True
 | _=>False
section
variable {P:Program} {w:World} {H:Hp} {h h':Heap} {x e:Addr} {o':HO}
theorem HOk.write (ok:HOk P w H h) (mu:zY (H x)) (he:e=x\/H e=some (.own x)) (k:∀ b u,b≠e->h.get? b=some u->h'.get? b=some u) (heo:∃ u,h'.get? e=some u)
  (new:ObjOk P w (aq H x o') h' x o'):HOk P w (aq H x o') h':=fun b u q=>by
 have nown:∀ c y,H c=some (.own y)->c≠x:=fun c y r z=>by subst z;rw [r] at mu;exact mu
 have ntup:∀ c xs,H c=some (.tup xs)->c≠x:=fun c xs r z=>by subst z;rw [r] at mu;exact mu
 by_cases hb:b=x
 ·subst hb;rw [ae] at q;cases q;exact new
 ·rw [ao hb] at q;by_cases hbe:b=e
  ·have q':H b=some (.own x):=by
    rcases he with z|z
    ·exact absurd (hbe.trans z) hb
    ·rw [hbe];exact z
   rw [q] at q';cases q';obtain ⟨v,hv⟩:=heo;exact ⟨v,by rw [hbe];exact hv⟩
  ·refine (ok b u q).stay (fun c v hc r=>k c v ?_ r) (fun c r=>by rw [ao (nown c b r)];exact r) fun c xs r=>by rw [ao (ntup c xs r)];exact r
   rcases hc with rfl|hc
   ·exact hbe
   ·rintro rfl;rcases he with z|z
    ·exact nown c b hc z
    ·rw [hc] at z;cases z;exact hb rfl
end
structure Un (fs ex:List Addr) (H H':Hp) (h h':Heap):Prop where
 keep:∀ b o,h.get? b=some o->H b=none->b∉fs->b∉ex->h'.get? b=some o
 slot:∀ b o,h.get? b=some o->H b=none->b∈fs->b∉ex->∃ sl,h'.get? b=some { o with slots:=sl }
 free:∀ b o,h.get? b=some o->H b=none->b∉ex->H' b=none
 there:∀ b o,h.get? b=some o->b∉ex->∃ o',h'.get? b=some o'
 tups:∀ b xs,H b=some (.tup xs)->H' b=some (.tup xs)
 frzs:∀ b o u,H b=some (.frz o u)->H' b=some (.frz o u)
 tbls:∀ b ps,H b=some (.tbl ps)->∃ more,H' b=some (.tbl (ps++more))
section
variable {fs fs' ex ex':List Addr} {H H1 H2:Hp} {h h1 h2 h':Heap} {a x e:Addr} {o:HO}
theorem Un.any (u:Un fs ex H H1 h h1) {ob:Obj} (q:h.get? b=some ob) (n:H b=none) (hx:b∉ex):∃ sl,h1.get? b=some { ob with slots:=sl }:=by
 by_cases hb:b∈fs
 ·exact u.slot b ob q n hb hx
 ·exact ⟨ob.slots,u.keep b ob q n hb hx⟩
theorem Un.kept (k:∀ b u,h.get? b=some u->h'.get? b=some u):Un fs ex H H h h':=
 ⟨fun b ob q _ _ _=>k b ob q,fun b ob q _ _ _=>⟨ob.slots,k b ob q⟩,fun _ _ _ n _=>n,fun b ob q _=>⟨ob,k b ob q⟩,fun _ _ q=>q,fun _ _ _ q=>q,fun _ ps q=>⟨#[],by rw [q];simp⟩⟩
theorem Un.refl:Un fs ex H H h h:=Un.kept fun _ _ q=>q
theorem Un.laid (k:∀ b u,h.get? b=some u->h'.get? b=some u) (hp:h.objs.size<=a) (hn:H a=none):Un fs ex H (aq H a o) h h' where
 keep:=fun b u q _ _ _=>k b u q
 slot:=fun b u q _ _ _=>⟨u.slots,k b u q⟩
 free:=fun b u q n _=>by rw [ao (Eg (Ed (DW q) hp))];exact n
 there:=fun b u q _=>⟨u,k b u q⟩
 tups:=fun b xs q=>by rw [ao (ap q hn)];exact q
 frzs:=fun b u xs q=>by rw [ao (ap q hn)];exact q
 tbls:=fun b ps q=>⟨#[],by rw [ao (ap q hn),q];simp⟩
theorem Un.write (mu:zY (H x)) (he:e=x\/H e=some (.own x)) (k:∀ b u,b≠e->h.get? b=some u->h'.get? b=some u) (heo:∃ u,h'.get? e=some u):Un fs ex H (aq H x o) h h':=by
 have hx:∀ b,H b=none->b≠x:=fun b n z=>by subst z;rw [n] at mu;exact mu
 have hb:∀ b,H b=none->b≠e:=fun b n z=>by
  subst z;rcases he with r|r
  ·exact hx b n r
  ·rw [n] at r;cases r
 have hm:∀ b u,H b=some u->¬ zY (some u)->b≠x:=fun b u q nm z=>by subst z;rw [q] at mu;exact nm mu
 refine ⟨fun b u q n _ _=>k b u (hb b n) q,fun b u q n _ _=>⟨u.slots,k b u (hb b n) q⟩,fun b u q n _=>by rw [ao (hx b n)];exact n,fun b u q _=>?_,
  fun b xs q=>by rw [ao (hm b _ q fun z=>z)];exact q,fun b u xs q=>by rw [ao (hm b _ q fun z=>z)];exact q,fun b ps q=>⟨#[],by rw [ao (hm b _ q fun z=>z),q];simp⟩⟩
 by_cases hbe:b=e
 ·subst hbe;exact heo
 ·exact ⟨u,k b u hbe q⟩
end
def BJ (h:Heap) (H:Hp):List Addr:=(List.range h.objs.size).filter fun a=>(H a).isSome
def ku (h:Heap) (H:Hp):Heap:=PySem.W.hideAll h (BJ h H)
theorem qp (h:Heap) (H:Hp):(ku h H).objs.size=h.objs.size:=PySem.W.hideAll_size _ _
theorem rm {o:Obj} (e:h.get? b=some o) (n:H b=none):(ku h H).get? b=some o:=
 PySem.W.hideAll_get _ e fun hm=>by
  have q:(H b).isSome=true:=(Fi.mp hm).2;rw [n] at q;simp at q
theorem vk {o:Obj} (e:(ku h H).get? b=some o):h.get? b=some o/\H b=none:=by
 have e':h.get? b=some o:=PySem.W.of_hideAll (BJ h H) e;refine ⟨e',?_⟩;cases q:H b with
 | none=>rfl
 | some x=>
  have hm:b∈BJ h H:=Fi.mpr ⟨Ez.mpr (DW e'),by simp [q]⟩;have z:(ku h H).get? b=none:=PySem.W.hideAll_none (BJ h H) hm;rw [z] at e;cases e
structure Mod (K:ZF) (mg:Str->Option Value) (base:Heap):Prop where
 kin:K.In base
 glob:base.Ns mainGlobals mg
 blt:∃ mb,base.Ns builtinsNs mb/\∀ x:Str,x≠"__name__"->mb x=bootBuiltins x
 nolimit:base.NoLimit
structure Cx where
 prog:Program
 w:World
 K:ZF
 mg:Str->Option Value
 base:Heap
 A:Around
 N:List Str
 s₀:Shared
 H₀:Hp
 env:Env
 outer:List Env
 stack:List Env
 ex:List Addr
 fn:Str->Bool
 calm:Bool
 pn:List (Addr×Obj)
 xe:Value->Shared->Prop
def ky (l:List Env):List Addr:=l.filterMap (·.frame)
abbrev Cx.fs (X:Cx):List Addr:=ky X.outer
def zO (sc:Scope) (x:Str):Prop:=sc.names.lookup x=some .local\/sc.names.lookup x=some .cell\/sc.names.lookup x=some .free
def zP (sc:Scope) (x:Str):Prop:=sc.names.lookup x=some .local\/sc.names.lookup x=some .cell
def zZ (env:Env) (h:Heap) (m:Str->Option Value) (x:Str) (u:Value):Prop:=
 (env.kindOf x=some .local/\m x=some u)\/((env.kindOf x=some .cell\/env.kindOf x=some .free)/\∃ c,env.cells.lookup x=some c/\h.IsCell c (some u))
structure Cx.Ok (X:Cx):Prop where
 mod:Mod X.K X.mg X.base
 kind:X.env.scope.kind=.function
 glob:X.env.globals=mainGlobals
 blt:X.env.builtins=builtinsNs
 above:X.s₀.heap.objs.size<=X.env.locals
 inj:∀ x y c,X.env.cells.lookup x=some c->X.env.cells.lookup y=some c->x=y
 has:∀ x,(X.env.kindOf x=some .cell\/X.env.kindOf x=some .free)->∃ c,X.env.cells.lookup x=some c
 cab:∀ x c,X.fn x=true->X.env.cells.lookup x=some c->X.s₀.heap.objs.size<=c
 hd:X.calm=true->X.A.handled=none
 frames:X.A.frames=some X.stack
 stk:X.stack=X.outer\/(X.stack=X.env::X.outer/\X.env.frame=some X.env.locals)
 exf:∀ b∈X.ex,b≠X.env.locals/\∀ x c,X.env.cells.lookup x=some c->c≠b
 bs:∀ b o,X.base.get? b=some o->X.s₀.heap.get? b=some o/\X.H₀ b=none
 bsz:X.base.objs.size<=X.s₀.heap.objs.size
 noex:∀ b o,X.base.get? b=some o->b∉X.ex
 exfs:∀ b∈X.ex,b∉X.fs
 funs:X.s₀.heap.FunFrames X.base X.outer
 frf:∀ b∈X.fs,X.H₀ b=none
structure Inv (X:Cx) (pins:List (Addr×Obj)) (σ:List (Option V)) (H:Hp) (s:Shared):Prop where
 ok:X.Ok
 os:s.os=X.s₀.os
 bare:AllBare s.gens
 base:Un X.fs X.ex X.H₀ H X.s₀.heap s.heap
 loc:∃ m,s.heap.Ns X.env.locals m/\∀ (i:Nat) (x:Str) (v:V),X.N[i]?=some x->σ[i]?=some (some v)->zO X.env.scope x->∃ u,RelV v u/\zZ X.env s.heap m x u
 cell:∀ x c,X.env.cells.lookup x=some c->∃ v,s.heap.IsCell c v
 free:H X.env.locals=none
 freeC:∀ x c,X.env.cells.lookup x=some c->H c=none
 pin:∀ p∈X.pn++pins,s.heap.get? p.1=some p.2/\H p.1=none/\p.1≠X.env.locals/\p.1∉X.fs/\∀ v,p.2.data≠.cell v
 hok:HOk X.prog X.w H s.heap
 len:σ.length=X.N.length
section
variable {X:Cx} {pins:List (Addr×Obj)} {σ:List (Option V)} {H H':Hp} {s:Shared} {h':Heap}
theorem Cx.Ok.nofr (ok:X.Ok) {o:Obj} (e:X.base.get? b=some o):b∉X.fs:=fun hb=>by
 have:=(ok.funs.mem hb).1;rw [e] at this;cases this
theorem Inv.bs (I:Inv X pins σ H s):∀ b o,X.base.get? b=some o->s.heap.get? b=some o/\H b=none:=fun b o e=>
 ⟨I.base.keep b o (I.ok.bs b o e).1 (I.ok.bs b o e).2 (I.ok.nofr e) (I.ok.noex b o e),I.base.free b o (I.ok.bs b o e).1 (I.ok.bs b o e).2 (I.ok.noex b o e)⟩
theorem Inv.bk (I:Inv X pins σ H s):∀ b o,X.base.get? b=some o->s.heap.get? b=some o:=fun b o e=>(I.bs b o e).1
theorem Inv.mod (I:Inv X pins σ H s):Mod X.K X.mg X.base:=I.ok.mod
theorem Inv.kIn (I:Inv X pins σ H s):X.K.In s.heap:=I.ok.mod.kin.keeps I.bk
theorem Inv.lt (I:Inv X pins σ H s):X.env.locals < s.heap.objs.size:=let ⟨_,hn,_⟩:=I.loc;hn.lt
theorem Inv.sz (I:Inv X pins σ H s):X.s₀.heap.objs.size<=s.heap.objs.size:=Ef I.ok.above (Nat.le_of_lt I.lt)
theorem Inv.nofs (I:Inv X pins σ H s) (h:s.heap.objs.size<=a):a∉X.fs:=fun hb=>by
 obtain ⟨_,o,ho,_⟩:=I.ok.funs.mem hb;exact absurd (Ed (DW ho) (Ef I.sz h)) (EH _)
theorem Inv.cne (I:Inv X pins σ H s):∀ x c,X.env.cells.lookup x=some c->c≠X.env.locals:=fun x c e z=>by
 obtain ⟨v,o,ho,hd⟩:=I.cell x c e;obtain ⟨m,⟨o',es,ep,ho',hd',_⟩,_⟩:=I.loc;rw [z,ho'] at ho;cases ho;rw [hd'] at hd;cases hd
theorem Inv.funs (I:Inv X pins σ H s):s.heap.FunFrames X.base X.outer:=by
 have all:∀ (l:List Env),(∀ b∈ky l,b∈X.fs)->X.s₀.heap.FunFrames X.base l->s.heap.FunFrames X.base l:=by
  intro l;induction l with
  | nil=>intro _ _;trivial
  | cons env r ih=>
   intro hs hl;obtain ⟨hk,⟨L,o,hf,hn,ho,hd⟩,hr⟩:=hl;have hL:L∈X.fs:=hs L (by unfold ky;rw [EZ,hf];exact DM);obtain ⟨sl,e⟩:=I.base.slot L o ho (I.ok.frf L hL) hL fun z=>I.ok.exfs L z hL;exact ⟨hk,⟨L,_,hf,hn,e,hd⟩,ih (fun b hb=>hs b (by unfold ky;rw [EZ,hf];exact DR _ hb)) hr⟩
 exact all X.outer (fun _ hb=>hb) I.ok.funs
theorem Inv.stack (I:Inv X pins σ H s):s.heap.FunFrames X.base X.stack:=by
 rcases I.ok.stk with e|⟨e,hf⟩
 ·rw [e];exact I.funs
 ·rw [e];obtain ⟨m,hn,_⟩:=I.loc;refine .cons (by rw [I.ok.kind];decide) hf hn ?_ I.funs;exact Heap.get?_none_of_le (Ef I.ok.bsz I.ok.above)
theorem Inv.stkSub (I:Inv X pins σ H s):∀ b∈ky X.stack,b∈X.env.locals::X.fs:=fun b hb=>by
 rcases I.ok.stk with e|⟨e,hf⟩
 ·rw [e] at hb;exact DR _ hb
 ·rw [e] at hb;unfold ky at hb;rw [EZ,hf] at hb;exact hb
theorem Inv.stkFree (I:Inv X pins σ H s):∀ b∈ky X.stack,H b=none:=fun b hb=>by
 rcases DY.mp (I.stkSub b hb) with e|hb
 ·rw [e];exact I.free
 ·obtain ⟨_,o,ho,_⟩:=I.ok.funs.mem hb;exact I.base.free b o ho (I.ok.frf b hb) fun z=>I.ok.exfs b z hb
theorem Inv.step {g':Array GenState} {t':Nat} {d':Drawn} {ch:List Addr} (I:Inv X pins σ H s)
  (hch:∀ b∈ch,(b∈X.ex\/X.s₀.heap.objs.size<=b)/\b≠X.env.locals/\(∀ x c,X.env.cells.lookup x=some c->c≠b)/\∀ p∈X.pn++pins,p.1≠b)
  (keep:∀ b o,b≠X.env.locals->b∉X.fs->b∉ch->s.heap.get? b=some o->H b=none->h'.get? b=some o)
  (slot:∀ b o,b≠X.env.locals->b∈X.fs->b∉ch->s.heap.get? b=some o->H b=none->∃ sl,h'.get? b=some { o with slots:=sl }) (free:∀ b o,b∉ch->s.heap.get? b=some o->H b=none->H' b=none)
  (there:∀ b o,b∉ch->s.heap.get? b=some o->∃ o',h'.get? b=some o')
  (tups:∀ b xs,H b=some (.tup xs)->H' b=some (.tup xs)) (frzs:∀ b o u,H b=some (.frz o u)->H' b=some (.frz o u)) (tbls:∀ b ps,H b=some (.tbl ps)->∃ more,H' b=some (.tbl (ps++more)))
  (ns:∀ m,s.heap.Ns X.env.locals m->h'.Ns X.env.locals m) (hok:HOk X.prog X.w H' h') (hg:AllBare g') :
  Inv X pins σ H' { s with heap:=h',gens:=g',drawn:=d',toks:=t' }:=by
 have neL:∀ b o,X.s₀.heap.get? b=some o->b≠X.env.locals:=fun b o e=>Eg (Ed (DW e) I.ok.above);have neC:∀ b o,X.s₀.heap.get? b=some o->b∉X.ex->b∉ch:=fun b o e hx hb=>by
  rcases (hch b hb).1 with z|z
  ·exact hx z
  ·exact absurd (Ed (DW e) z) (EH _)
 have cellK:∀ x c,X.env.cells.lookup x=some c->∀ v,s.heap.IsCell c v->h'.IsCell c v:=fun x c e v ⟨o,ho,hd⟩=>by
  have nch:c∉ch:=fun z=>(hch c z).2.2.1 x c e rfl;by_cases hc:c∈X.fs
  ·obtain ⟨sl,q⟩:=slot c o (I.cne x c e) hc nch ho (I.freeC x c e);exact ⟨_,q,hd⟩
  ·exact ⟨o,keep c o (I.cne x c e) hc nch ho (I.freeC x c e),hd⟩
 refine ⟨I.ok,I.os,hg,⟨fun b o e n hb hx=>?_,fun b o e n hb hx=>?_,fun b o e n hx=>?_,fun b o e hx=>?_,fun b xs e=>tups b xs (I.base.tups b xs e),fun b o xs e=>frzs b o xs (I.base.frzs b o xs e),fun b ps e=>?_⟩,?_,fun x c e=>?_,?_,fun x c e=>?_,fun p hp=>?_,hok,I.len⟩
 ·exact keep b o (neL b o e) hb (neC b o e hx) (I.base.keep b o e n hb hx) (I.base.free b o e n hx)
 ·obtain ⟨sl,e1⟩:=I.base.slot b o e n hb hx;obtain ⟨sl',e2⟩:=slot b _ (neL b o e) hb (neC b o e hx) e1 (I.base.free b o e n hx);exact ⟨sl',e2⟩
 ·obtain ⟨o',e1⟩:=I.base.there b o e hx;exact free b o' (neC b o e hx) e1 (I.base.free b o e n hx)
 ·obtain ⟨o',e1⟩:=I.base.there b o e hx;exact there b o' (neC b o e hx) e1
 ·obtain ⟨m1,e1⟩:=I.base.tbls b ps e;obtain ⟨m2,e2⟩:=tbls b _ e1;exact ⟨m1++m2,by rw [e2,Array.append_assoc]⟩
 ·obtain ⟨m,hn,hl⟩:=I.loc;refine ⟨m,ns m hn,fun i x v e1 e2 e3=>?_⟩;obtain ⟨u,r,l⟩:=hl i x v e1 e2 e3;refine ⟨u,r,?_⟩;rcases l with l|⟨k,c,e,z⟩
  ·exact .inl l
  ·exact .inr ⟨k,c,e,cellK x c e _ z⟩
 ·obtain ⟨v,z⟩:=I.cell x c e;exact ⟨v,cellK x c e v z⟩
 ·obtain ⟨m,⟨o,_,_,ho,_⟩,_⟩:=I.loc;exact free _ o (fun z=>(hch _ z).2.1 rfl) ho I.free
 ·obtain ⟨v,o,ho,hd⟩:=I.cell x c e;exact free c o (fun z=>(hch c z).2.2.1 x c e rfl) ho (I.freeC x c e)
 ·obtain ⟨e,n,ne,nf,d⟩:=I.pin p hp;have nch:p.1∉ch:=fun z=>(hch p.1 z).2.2.2 p hp rfl;exact ⟨keep p.1 p.2 ne nf nch e n,free p.1 p.2 nch e n,ne,nf,d⟩
theorem Inv.un {t':Nat} (I:Inv X pins σ H s) (u:Un X.fs [] H H' s.heap h') (hok:HOk X.prog X.w H' h'):Inv X pins σ H' { s with heap:=h',toks:=t' }:=by
 obtain ⟨m,⟨o,es,ep,ho,r⟩,_⟩:=id I.loc;obtain ⟨sl,hL⟩:=u.any ho I.free (by simp);exact I.step (g':=s.gens) (d':=s.drawn) (ch:=[]) (fun _ z=>nomatch z) (fun b o _ hb _ e n=>u.keep b o e n hb (by simp)) (fun b o _ hb _ e n=>u.slot b o e n hb (by simp)) (fun b o _ e n=>u.free b o e n (by simp)) (fun b o _ e=>u.there b o e (by simp)) u.tups u.frzs u.tbls (fun m' hm=>by
  obtain ⟨o',es',ep',ho',r'⟩:=hm;rw [ho] at ho';cases ho';exact ⟨_,es',ep',hL,r'⟩) hok I.bare
variable {ch:List Addr}
theorem Inv.call {g':Array GenState} {t':Nat} {d':Drawn} (I:Inv X pins σ H s) (u:Un (ky X.stack) ch H H' s.heap h') (hok:HOk X.prog X.w H' h') (hg:AllBare g')
  (hch:∀ b∈ch,(b∈X.ex\/X.s₀.heap.objs.size<=b)/\b≠X.env.locals/\(∀ x c,X.env.cells.lookup x=some c->c≠b)/\∀ p∈X.pn++pins,p.1≠b) :
  Inv X pins σ H' { s with heap:=h',gens:=g',drawn:=d',toks:=t' }:=by
 obtain ⟨m,⟨o,es,ep,ho,r⟩,_⟩:=id I.loc;obtain ⟨sl,hL⟩:=u.any ho I.free fun z=>(hch _ z).2.1 rfl;exact I.step (ch:=ch) hch (fun b o hL hb hc e n=>u.keep b o e n (fun z=>(DY.mp (I.stkSub b z)).elim hL hb) hc) (fun b o _ _ hc e n=>u.any e n hc) (fun b o hc e n=>u.free b o e n hc) (fun b o hc e=>u.there b o e hc) u.tups u.frzs u.tbls (fun m' hm=>by
  obtain ⟨o',es',ep',ho',r'⟩:=hm;rw [ho] at ho';cases ho';exact ⟨_,es',ep',hL,r'⟩) hok hg
theorem Inv.turned {t':Nat} {it:Addr} (I:Inv X pins σ H s) (k:∀ b o,b≠it->s.heap.get? b=some o->h'.get? b=some o) (hn:H it=none) (hL:it≠X.env.locals)
  (h1:it∈X.ex\/X.s₀.heap.objs.size<=it) (h2:∀ x c,X.env.cells.lookup x=some c->c≠it) (h3:∀ p∈X.pn++pins,p.1≠it):Inv X pins σ H { s with heap:=h',toks:=t' }:=by
 have nit:∀ b u,H b=some u->b≠it:=fun b u e z=>by rw [z,hn] at e;cases e
 refine I.step (g':=s.gens) (d':=s.drawn) (ch:=[it]) (fun b hb=>?_) (fun b o _ _ hc e _=>k b o (fun z=>hc (by simp [z])) e) (fun b o _ _ hc e _=>⟨o.slots,k b o (fun z=>hc (by simp [z])) e⟩) (fun _ _ _ _ n=>n)
  (fun b o hc e=>⟨o,k b o (fun z=>hc (by simp [z])) e⟩) (fun _ _ e=>e) (fun _ _ _ e=>e) (fun b ps e=>⟨#[],by rw [e];simp⟩) (fun m hm=>?_) (fun b u e=>?_) I.bare
 ·have e:b=it:=by simpa using hb
  subst e;exact ⟨h1,hL,h2,h3⟩
 ·obtain ⟨o,es,ep,ho,r⟩:=hm;exact ⟨o,es,ep,k _ o (Ne.symm hL) ho,r⟩
 ·refine (I.hok b u e).stay (fun c v hc q=>k c v ?_ q) (fun _ q=>q) fun _ _ q=>q;rcases hc with z|z
  ·rw [z];exact nit b u e
  ·exact nit c _ z
theorem Inv.tok (I:Inv X pins σ H s) (t:Nat):Inv X pins σ H { s with toks:=t }:=I.un (h':=s.heap) (t':=t) Un.refl I.hok
theorem Inv.kept {t':Nat} (I:Inv X pins σ H s) (k:∀ b u,s.heap.get? b=some u->h'.get? b=some u):Inv X pins σ H { s with heap:=h',toks:=t' }:=I.un (Un.kept k) (I.hok.kept k)
theorem Inv.laid {t':Nat} (I:Inv X pins σ H s) (k:∀ b u,s.heap.get? b=some u->h'.get? b=some u) (hp:s.heap.objs.size<=a) (new:ObjOk X.prog X.w (aq H a o) h' a o) :
  Inv X pins σ (aq H a o) { s with heap:=h',toks:=t' }:=I.un (Un.laid k hp (I.hok.fresh hp)) (I.hok.laid k hp new)
theorem Inv.write {x e:Addr} {o:HO} {t':Nat} (I:Inv X pins σ H s) (mu:zY (H x)) (he:e=x\/H e=some (.own x)) (k:∀ b u,b≠e->s.heap.get? b=some u->h'.get? b=some u) (heo:∃ u,h'.get? e=some u)
  (new:ObjOk X.prog X.w (aq H x o) h' x o):Inv X pins σ (aq H x o) { s with heap:=h',toks:=t' }:=I.un (Un.write mu he k heo) (I.hok.write mu he k heo new)
theorem Inv.weak {σ':List (Option V)} (I:Inv X pins σ H s) (hl:σ'.length=σ.length) (w:∀ (i:Nat) v,σ'[i]?=some (some v)->σ[i]?=some (some v)):Inv X pins σ' H s:=
 ⟨I.ok,I.os,I.bare,I.base,let ⟨m,hn,hl'⟩:=I.loc;⟨m,hn,fun i x v e1 e2 e3=>hl' i x v e1 (w i v e2) e3⟩,I.cell,I.free,I.freeC,I.pin,I.hok,hl.trans I.len⟩
theorem Inv.pins_of {pins':List (Addr×Obj)} (I:Inv X pins σ H s) (h:∀ p∈pins',s.heap.get? p.1=some p.2/\H p.1=none/\p.1≠X.env.locals/\p.1∉X.fs/\∀ v,p.2.data≠.cell v):Inv X pins' σ H s:=
 ⟨I.ok,I.os,I.bare,I.base,I.loc,I.cell,I.free,I.freeC,fun p hp=>(D0.mp hp).elim (fun z=>I.pin p (ET _ z)) (h p),I.hok,I.len⟩
variable {i j:Nat}
theorem iX {N:List Str} (hN:N.Nodup) {x:Str} (a:N[i]?=some x) (b:N[j]?=some x):i=j:=by
 obtain ⟨h1,e1⟩:=DK.mp a;obtain ⟨h2,e2⟩:=DK.mp b;exact (List.getElem_inj hN).mp (e1.trans e2.symm)
variable {v:V}
theorem jM {M:Model} {A:Around} {E:Value->Shared->Prop} {x:Str} {Q:Unit->Shared->Prop} (I:Inv X pins σ H s) (hN:X.N.Nodup) (hi:X.N[i]?=some x) (hx:zP X.env.scope x) (r:RelV v u)
  (h:∀ s',Inv X pins (σ.set i (some v)) H s'->(∃ a,Heap.SameBut a s.heap s'.heap/\(a=X.env.locals\/X.env.cells.lookup x=some a))->Q () s') (hf:X.fn x=true\/X.env.scope.names.lookup x=some .local:=by first|exact .inl rfl|exact .inr rfl|assumption):wpAny M A (storeName X.env x u) Q E s:=by
 obtain ⟨m,hn,hl⟩:=id I.loc;have hcls:(X.env.scope.kind == .class || (X.env.scope.kind == .module && X.env.locals != X.env.globals))=false:=by rw [I.ok.kind];rfl
 have hiσ:i < σ.length:=by rw [I.len];exact (DK.mp hi).1
 have cne:=I.cne;have tracked:∀ {a:Addr} {h':Heap},(∃ o,s.heap.get? a=some o/\H a=none)->Heap.SameBut a s.heap h'->HOk X.prog X.w H h':=fun {a h'} ha hs b ob e=>by
  obtain ⟨_,_,hfree⟩:=ha;refine (I.hok b ob e).stay (fun c w' hc q=>(hs.2 c ?_).trans q) (fun _ q=>q) fun _ _ q=>q;rintro rfl;rcases hc with rfl|hc
  ·rw [hfree] at e;cases e
  ·rw [hfree] at hc;cases hc
 rcases hx with hk|hk
 ·refine wpAny_storeName_local hk hn (fun h' hn' hs=>?_) hcls;obtain ⟨oL,_,_,hoL,_⟩:=id hn;refine h _ ⟨I.ok,I.os,I.bare,⟨fun b o e n hb hx=>?_,fun b o e n hb hx=>?_,I.base.free,fun b o e hx=>?_,I.base.tups,I.base.frzs,I.base.tbls⟩,⟨_,hn',fun j y v' e1 e2 e3=>?_⟩,fun y c e=>?_,I.free,I.freeC,fun p hp=>?_,tracked ⟨oL,hoL,I.free⟩ hs,by simpa using I.len⟩ ⟨_,hs,.inl rfl⟩
  ·exact (hs.2 b (Eg (Ed (DW e) I.ok.above))).trans (I.base.keep b o e n hb hx)
  ·obtain ⟨sl,e1⟩:=I.base.slot b o e n hb hx;exact ⟨sl,(hs.2 b (Eg (Ed (DW e) I.ok.above))).trans e1⟩
  ·obtain ⟨o',e1⟩:=I.base.there b o e hx;exact ⟨o',(hs.2 b (Eg (Ed (DW e) I.ok.above))).trans e1⟩
  ·by_cases hj:j=i
   ·subst hj;rw [hi] at e1;cases e1;rw [List.getElem?_set_self hiσ] at e2;cases e2;exact ⟨u,r,.inl ⟨hk,by simp⟩⟩
   ·rw [List.getElem?_set_ne (Ne.symm hj)] at e2;obtain ⟨u',r',q⟩:=hl j y v' e1 e2 e3;refine ⟨u',r',?_⟩;rcases q with ⟨k,e⟩|⟨k,c,e,z⟩
    ·refine .inl ⟨k,?_⟩;have:y≠x:=fun e=>hj (iX hN e1 (e ▸ hi));simp [this,e]
    ·exact .inr ⟨k,c,e,z.sameBut hs (cne y c e)⟩
  ·obtain ⟨w',z⟩:=I.cell y c e;exact ⟨w',z.sameBut hs (cne y c e)⟩
  ·obtain ⟨e,n,ne,nf,d⟩:=I.pin p hp;exact ⟨(hs.2 p.1 ne).trans e,n,ne,nf,d⟩
 ·have hfn:X.fn x=true:=by
   rcases hf with z|z
   ·exact z
   ·rw [z] at hk;cases hk
  obtain ⟨c,hc⟩:=I.ok.has x (.inl hk);obtain ⟨w',z⟩:=I.cell x c hc;refine wpAny_storeName_cell I.ok.kind hk hc z (fun h' hc' hs=>?_);obtain ⟨oc,hoc,hocd⟩:=id z;refine h { s with heap:=h' } ⟨I.ok,I.os,I.bare,⟨fun b o e n hb hx=>?_,fun b o e n hb hx=>?_,I.base.free,fun b o e hx=>?_,I.base.tups,I.base.frzs,I.base.tbls⟩,⟨m,hn.sameBut hs (Ne.symm (cne x c hc)),fun j y v' e1 e2 e3=>?_⟩,fun y c' e=>?_,I.free,I.freeC,fun p hp=>?_,tracked ⟨oc,hoc,I.freeC x c hc⟩ hs,by simpa using I.len⟩ ⟨c,hs,.inr hc⟩
  ·exact (hs.2 b (Eg (Ed (DW e) (I.ok.cab x c hfn hc)))).trans (I.base.keep b o e n hb hx)
  ·obtain ⟨sl,e1⟩:=I.base.slot b o e n hb hx;exact ⟨sl,(hs.2 b (Eg (Ed (DW e) (I.ok.cab x c hfn hc)))).trans e1⟩
  ·obtain ⟨o',e1⟩:=I.base.there b o e hx;exact ⟨o',(hs.2 b (Eg (Ed (DW e) (I.ok.cab x c hfn hc)))).trans e1⟩
  ·by_cases hj:j=i
   ·subst hj;rw [hi] at e1;cases e1;rw [List.getElem?_set_self hiσ] at e2;cases e2;exact ⟨u,r,.inr ⟨.inl hk,c,hc,hc'⟩⟩
   ·rw [List.getElem?_set_ne (Ne.symm hj)] at e2;obtain ⟨u',r',q⟩:=hl j y v' e1 e2 e3;refine ⟨u',r',?_⟩;rcases q with q|⟨k,c',e,z'⟩
    ·exact .inl q
    ·refine .inr ⟨k,c',e,z'.sameBut hs ?_⟩;rintro rfl;exact hj (iX hN e1 (I.ok.inj _ _ _ e hc ▸ hi))
  ·by_cases hcc:c'=c
   ·subst hcc;exact ⟨_,hc'⟩
   ·obtain ⟨w2,z2⟩:=I.cell y c' e;exact ⟨w2,z2.sameBut hs hcc⟩
  ·obtain ⟨e,n,ne,nf,d⟩:=I.pin p hp;refine ⟨(hs.2 p.1 ?_).trans e,n,ne,nf,d⟩;intro q;rw [q,hoc] at e;have q':oc=p.2:=D5 e;exact d w' (by rw [<-q'];exact hocd)
theorem fc {M:Model} {A:Around} {E:Value->Shared->Prop} {x:Str} {Q:Unit->Shared->Prop} (I:Inv X pins σ H s) (hN:X.N.Nodup) (hi:X.N[i]?=some x) (hx:zP X.env.scope x) (r:RelV v u)
  (h:∀ s',Inv X pins (σ.set i (some v)) H s'->Q () s') (hf:X.fn x=true\/X.env.scope.names.lookup x=some .local:=by first|exact .inl rfl|exact .inr rfl|assumption):wpAny M A (storeName X.env x u) Q E s:=
 jM I hN hi hx r (fun s' I' _=>h s' I') hf
theorem Inv.call' {s':Shared} (I:Inv X pins σ H s) (ho:s'.os=s.os) (u:Un (ky X.stack) ch H H' s.heap s'.heap) (hok:HOk X.prog X.w H' s'.heap) (hg:AllBare s'.gens)
  (hch:∀ b∈ch,(b∈X.ex\/X.s₀.heap.objs.size<=b)/\b≠X.env.locals/\(∀ x c,X.env.cells.lookup x=some c->c≠b)/\∀ p∈X.pn++pins,p.1≠b):Inv X pins σ H' s':=by
 obtain ⟨h',g',d',t',o'⟩:=s';have e:o'=s.os:=ho;subst e;exact I.call (g':=g') (t':=t') (d':=d') u hok hg hch
end
abbrev XK:=Value->Option Addr->Hp->Prop
abbrev St:=List (Option V)
abbrev VK:=V->Hp->Prop
abbrev TE:=St->Hp->VK->Prop
abbrev TT:=St->Hp->(Bool->Hp->Prop)->Prop
abbrev TA:=St->Hp->(List V->Hp->Prop)->Prop
structure Ends where
 nx:St->Hp->Prop
 rt:VK
 bk:St->Hp->Prop:=fun _ _=>False
 ct:St->Hp->Prop:=fun _ _=>False
abbrev TS:=Ends->St->Hp->Prop
inductive EP (X:Cx) (pins:List (Addr×Obj)) (σ:St) (Q:VK) (u:Value) (s':Shared):Prop
 | mk (v H':_):Inv X pins σ H' s'->RelV v u->Q v H'->EP X pins σ Q u s'
def TP (X:Cx) (pins:List (Addr×Obj)) (σ:St) (Q:Bool->Hp->Prop) (b:Bool) (s':Shared):Prop:=∃ H',Inv X pins σ H' s'/\Q b H'
inductive AP (X:Cx) (pins:List (Addr×Obj)) (σ:St) (Q:List V->Hp->Prop) (us:List Value) (s':Shared):Prop
 | mk (vs H':_):Inv X pins σ H' s'->Vals vs us->Q vs H'->AP X pins σ Q us s'
def SP (X:Cx) (pins:List (Addr×Obj)) (D:Ends) (f:Flow) (s':Shared):Prop:=
 match f with
 | .next=>∃ σ' H',Inv X pins σ' H' s'/\D.nx σ' H'
 | .brk=>∃ σ' H',Inv X pins σ' H' s'/\D.bk σ' H'
 | .cont=>∃ σ' H',Inv X pins σ' H' s'/\D.ct σ' H'
 | .ret u=>∃ v σ' H',Inv X pins σ' H' s'/\RelV v u/\D.rt v H'
structure PE (X:Cx) (e:Expr) (t:TE):Prop where
 run:∀ (pins:List (Addr×Obj)) (s:Shared) (σ:St) (H:Hp) (Q:VK),Inv X pins σ H s->t σ H Q->wpAny (model X.prog X.w) X.A (eval e X.env) (EP X pins σ Q) X.xe s
instance {X:Cx} {e:Expr} {t:TE}:CoeFun (PE X e t) fun _=>∀ (pins:List (Addr×Obj)) (s:Shared) (σ:St) (H:Hp) (Q:VK),Inv X pins σ H s->t σ H Q->wpAny (model X.prog X.w) X.A (eval e X.env) (EP X pins σ Q) X.xe s:=⟨PE.run⟩
structure PT (X:Cx) (e:Expr) (t:TT):Prop where
 run:∀ (pins:List (Addr×Obj)) (s:Shared) (σ:St) (H:Hp) (Q:Bool->Hp->Prop),Inv X pins σ H s->t σ H Q->wpAny (model X.prog X.w) X.A (isTrue e X.env (eval e X.env)) (TP X pins σ Q) X.xe s
instance {X:Cx} {e:Expr} {t:TT}:CoeFun (PT X e t) fun _=>∀ (pins:List (Addr×Obj)) (s:Shared) (σ:St) (H:Hp) (Q:Bool->Hp->Prop),Inv X pins σ H s->t σ H Q->wpAny (model X.prog X.w) X.A (isTrue e X.env (eval e X.env)) (TP X pins σ Q) X.xe s:=⟨PT.run⟩
structure PW (X:Cx) (e:Expr) (t:TT):Prop where
 run:∀ (whole:Sem Value) (pins:List (Addr×Obj)) (s:Shared) (σ:St) (H:Hp) (Q:Bool->Hp->Prop),Inv X pins σ H s->t σ H Q->wpAny (model X.prog X.w) X.A (isTrue e X.env whole) (TP X pins σ Q) X.xe s
instance {X:Cx} {e:Expr} {t:TT}:CoeFun (PW X e t) fun _=>∀ (whole:Sem Value) (pins:List (Addr×Obj)) (s:Shared) (σ:St) (H:Hp) (Q:Bool->Hp->Prop),Inv X pins σ H s->t σ H Q->wpAny (model X.prog X.w) X.A (isTrue e X.env whole) (TP X pins σ Q) X.xe s:=⟨PW.run⟩
variable {e:Expr} {X:Cx}
theorem PW.pt {t:TT} (h:PW X e t):PT X e t:=⟨fun pins s σ H Q I q=>h _ pins s σ H Q I q⟩
structure PA (X:Cx) (es:List Expr) (t:TA):Prop where
 run:∀ (pos:Pos) (pins:List (Addr×Obj)) (s:Shared) (σ:St) (H:Hp) (Q:List V->Hp->Prop),Inv X pins σ H s->t σ H Q->wpAny (model X.prog X.w) X.A (spliced (backTo pos (starEach es X.env))) (AP X pins σ Q) X.xe s
instance {X:Cx} {es:List Expr} {t:TA}:CoeFun (PA X es t) fun _=>∀ (pos:Pos) (pins:List (Addr×Obj)) (s:Shared) (σ:St) (H:Hp) (Q:List V->Hp->Prop),Inv X pins σ H s->t σ H Q->wpAny (model X.prog X.w) X.A (spliced (backTo pos (starEach es X.env))) (AP X pins σ Q) X.xe s:=⟨PA.run⟩
structure PS (X:Cx) (st:Stmt) (t:TS):Prop where
 run:∀ (pins:List (Addr×Obj)) (s:Shared) (σ:St) (H:Hp) (D:Ends),Inv X pins σ H s->t D σ H->wpAny (model X.prog X.w) X.A (exec st X.env) (SP X pins D) X.xe s
instance {X:Cx} {st:Stmt} {t:TS}:CoeFun (PS X st t) fun _=>∀ (pins:List (Addr×Obj)) (s:Shared) (σ:St) (H:Hp) (D:Ends),Inv X pins σ H s->t D σ H->wpAny (model X.prog X.w) X.A (exec st X.env) (SP X pins D) X.xe s:=⟨PS.run⟩
structure PSs (X:Cx) (st:List Stmt) (t:TS):Prop where
 run:∀ (pins:List (Addr×Obj)) (s:Shared) (σ:St) (H:Hp) (D:Ends),Inv X pins σ H s->t D σ H->wpAny (model X.prog X.w) X.A (execs st X.env) (SP X pins D) X.xe s
instance {X:Cx} {st:List Stmt} {t:TS}:CoeFun (PSs X st t) fun _=>∀ (pins:List (Addr×Obj)) (s:Shared) (σ:St) (H:Hp) (D:Ends),Inv X pins σ H s->t D σ H->wpAny (model X.prog X.w) X.A (execs st X.env) (SP X pins D) X.xe s:=⟨PSs.run⟩
variable {s:Shared} {E:Value->Shared->Prop} {A:Around} {M:Model}
theorem bC {α:Type} {t:Sem α} {Q Q':α->Shared->Prop} (h:wpAny M A t Q E s) (hQ:∀ a s,Q a s->Q' a s):wpAny M A t Q' E s:=wpAny_mono h hQ fun _ _ x=>x
section
variable {X:Cx}
inductive qr (i:Nat) (σ:St) (H:Hp) (Q:VK):Prop
 | mk (v:_):σ[i]?=some (some v)->Q v H->qr i σ H Q
def tC (v:V):TE:=fun _ H Q=>Q v H
theorem yb {i:Nat} {x:Str} {pos:Pos} (hN:X.N[i]?=some x) (hv:zO X.env.scope x) (hd:(x == ("__debug__":Str))=false:=by decide) (hcd:(x == ("__classdict__":Str))=false:=by decide):PE X (.Name x pos) (qr i):=by
 refine ⟨?_⟩;intro pins s σ H Q I h;obtain ⟨v,e,h⟩:=h;obtain ⟨m,hn,hl⟩:=I.loc;obtain ⟨u,r,l⟩:=hl i x v hN e hv;have fin:EP X pins σ Q u s:=⟨v,H,I,r,h⟩;rcases l with ⟨hk,hm⟩|⟨hk,c,hc,hcell⟩
 ·exact wpAny_Name (wpAny_loadName_local I.ok.kind hk hn hm fin) hd
 ·rcases hk with hk|hk
  ·exact wpAny_Name (wpAny_loadName_cell I.ok.kind hk hc hcell fin) hd
  ·exact wpAny_Name (wpAny_loadName_free I.ok.kind hk hc hcell fin hcd) hd
theorem ah {i j pos}:PE X (.Constant (.int i) j pos) (tC (.int i)):=⟨fun _ _ _ H _ I h=>wpAny_Constant_int ⟨.int i,H,I.tok _,⟨_,rfl⟩,h⟩⟩
theorem cr {b j pos}:PE X (.Constant (.bool b) j pos) (tC (.bl b)):=⟨fun _ _ _ H _ I h=>Constant_bool ⟨.bl b,H,I,rfl,h⟩⟩
theorem cu {j pos}:PE X (.Constant .none j pos) (tC .non):=⟨fun _ _ _ H _ I h=>Constant_none ⟨.non,H,I,rfl,h⟩⟩
theorem am {x j pos}:PE X (.Constant (.str x) j pos) (tC (.str x)):=⟨fun _ _ _ H _ I h=>Fc ⟨.str x,H,I.tok _,⟨_,rfl⟩,h⟩⟩
def Gl (X:Cx) (x:Str):Prop:=X.env.kindOf x=some .globalImplicit
variable {Q:Value->Shared->Prop} {σ:St} {pins:List (Addr×Obj)}
theorem dF {E:Value->Shared->Prop} {x:Str} {pos:Pos} (I:Inv X pins σ H s) (hg:Gl X x) (hm:X.mg x=some u) (h:Q u s)
  (hd:(x == ("__debug__":Str))=false:=by decide):wpAny (model X.prog X.w) X.A (eval (.Name x pos) X.env) Q E s:=
 Calls.Name_function_global I.ok.kind hg (Calls.loadGlobal_global (by rw [I.ok.glob];exact I.mod.glob.keeps I.bk) hm h) hd
theorem gp {E:Value->Shared->Prop} {x:Str} {pos:Pos} (I:Inv X pins σ H s) (hg:Gl X x) (hm:X.mg x=none) (hv:bootBuiltins x=some u) (h:Q u s)
  (hn:x≠"__name__":=by decide) (hd:(x == ("__debug__":Str))=false:=by decide):wpAny (model X.prog X.w) X.A (eval (.Name x pos) X.env) Q E s:=by
 obtain ⟨mb,h1,h2⟩:=I.mod.blt;exact Calls.Name_function_global I.ok.kind hg (Calls.loadGlobal_builtin (by rw [I.ok.glob];exact I.mod.glob.keeps I.bk) hm (by rw [I.ok.blt];exact h1.keeps I.bk) ((h2 x hn).trans hv) h) hd
variable {v:V}
theorem bJ {x:Str} {pos:Pos} (hg:Gl X x) (hm:X.mg x=some u) (r:RelV v u) (hd:(x == ("__debug__":Str))=false:=by decide):PE X (.Name x pos) (tC v):=
 ⟨fun _ _ _ H _ I h=>dF I hg hm ⟨v,H,I,r,h⟩ hd⟩
theorem vn {x:Str} {pos:Pos} (hg:Gl X x) (hm:X.mg x=none) (hv:bootBuiltins x=some u) (r:RelV v u) (hn:x≠"__name__":=by decide) (hd:(x == ("__debug__":Str))=false:=by decide):PE X (.Name x pos) (tC v):=
 ⟨fun _ _ _ H _ I h=>gp I hg hm hv ⟨v,H,I,r,h⟩ hn hd⟩
variable {a b:Expr} {ta tb:TE} {pos:Pos}
def PC (X:Cx) (op:CmpOp) (a b:Expr) (t:TE):Prop:=
 ∀ (pins:List (Addr×Obj)) (s:Shared) (σ:St) (H:Hp) (Q:VK),Inv X pins σ H s->t σ H Q->
  wpAny (model X.prog X.w) X.A (eval a X.env) (fun v s₁=>wpAny (model X.prog X.w) X.A (eval b X.env) (fun u s₂=>wpAny (model X.prog X.w) X.A (compareOp op v u) (EP X pins σ Q) X.xe s₂) X.xe s₁) X.xe s
inductive C3 (Q:Bool->Hp->Prop) (x:V) (H1:Hp):Prop
 | mk (c:_):x=.bl c->Q c H1->C3 Q x H1
def tB (t:TE):TT:=fun σ H Q=>t σ H fun x H1=>C3 Q x H1
variable {t:TE}
theorem nE {op:CmpOp} (h:PC X op a b t) (h1:behindInMarks op b=false:=by first|exact nobehind _ zd zd|rfl):PT X (.Compare a [op] [b] pos) (tB t):=by
 refine ⟨?_⟩;intro pins s σ H Q I hw;refine wpAny_isTrue_Compare1 (bC (h pins s σ H _ I hw) fun v s1 h1=>bC h1 fun u s2 h2=>bC h2 fun c s3 ⟨x,H1,I1,r1,q1⟩=>?_) h1;obtain ⟨d,rfl,q⟩:=q1;cases r1;exact wpAny_truthy_bool ⟨H1,I1,q⟩
theorem cX (h:PE X e t) (he:∀ whole,isTrue e X.env whole=(do let v <-whole;standAt e.pos;holding [v] (truthy v)):=by intro _;rfl):PT X e (tB t):=by
 refine ⟨?_⟩;intro pins s σ H Q I hw;refine isTrue_plain (bC (h pins s σ H _ I hw) fun v s1 ⟨x,H1,I1,r1,q1⟩=>?_) (he _);obtain ⟨d,rfl,q⟩:=q1;cases r1;exact wpAny_truthy_bool ⟨H1,I1,q⟩
variable {tA tB':TT} {rest:List Expr}
def B6 (t u:TT):TT:=fun σ H Q=>t σ H fun c H1=>if c=true then u σ H1 Q else Q false H1
def Dp (t u:TT):TT:=fun σ H Q=>t σ H fun c H1=>if c=true then Q true H1 else u σ H1 Q
def B7 (t:TT):TT:=fun σ H Q=>t σ H fun c H1=>Q (!c) H1
theorem cV (ha:PT X a tA):PW X (.BoolOp .And [a] pos) tA:=by
 refine ⟨?_⟩;intro wh pins s σ H Q I h;refine isTrue_and (bC (ha pins s σ H Q I h) fun c s1 e=>?_);cases c with
 | true=>exact isTrue_and_nil e
 | false=>exact e
theorem di (ha:PT X a tA):PW X (.BoolOp .Or [a] pos) tA:=by
 refine ⟨?_⟩;intro wh pins s σ H Q I h;refine isTrue_or (bC (ha pins s σ H Q I h) fun c s1 e=>?_);cases c with
 | false=>exact isTrue_or_nil e
 | true=>exact e
theorem dj (ha:PT X a tA) (hb:PW X (.BoolOp .And (b::rest) pos) tB'):PW X (.BoolOp .And (a::b::rest) pos) (B6 tA tB'):=by
 refine ⟨?_⟩;intro wh pins s σ H Q I h;refine isTrue_and (bC (ha pins s σ H _ I h) fun c s1 ⟨H1,I1,q1⟩=>?_);cases c with
 | true=>exact hb wh pins s1 σ H1 Q I1 q1
 | false=>exact ⟨H1,I1,q1⟩
theorem dX (ha:PT X a tA) (hb:PW X (.BoolOp .Or (b::rest) pos) tB'):PW X (.BoolOp .Or (a::b::rest) pos) (Dp tA tB'):=by
 refine ⟨?_⟩;intro wh pins s σ H Q I h;refine isTrue_or (bC (ha pins s σ H _ I h) fun c s1 ⟨H1,I1,q1⟩=>?_);cases c with
 | true=>exact ⟨H1,I1,q1⟩
 | false=>exact hb wh pins s1 σ H1 Q I1 q1
theorem cL (ha:PT X a tA):PT X (.UnaryOp .Not a pos) (B7 tA):=by
 refine ⟨?_⟩;intro pins s σ H Q I h;exact isTrue_not (ha pins s σ H (fun c H1=>Q (!c) H1) I h)
inductive rn (tb:TE) (σ:St) (Q:VK) (x:V) (H1:Hp):Prop
 | mk (c:_):x=.bl c->(if c=true then tb σ H1 Q else Q (.bl false) H1)->rn tb σ Q x H1
def z3 (ta tb:TE):TE:=fun σ H Q=>ta σ H fun x H1=>rn tb σ Q x H1
inductive rq (Q:VK) (x:V) (H1:Hp):Prop
 | mk (c:_):x=.bl c->Q (.bl (!c)) H1->rq Q x H1
def z4 (ta:TE):TE:=fun σ H Q=>ta σ H fun x H1=>rq Q x H1
theorem fe {op} (h:PE X a t):PE X (.BoolOp op [a] pos) t:=⟨fun pins s σ H Q I hw=>BoolOp_one (h pins s σ H Q I hw)⟩
theorem gq (ha:PE X a ta) (hb:PE X (.BoolOp .And (b::rest) pos) tb):PE X (.BoolOp .And (a::b::rest) pos) (z3 ta tb):=by
 refine ⟨?_⟩;intro pins s σ H Q I h;refine BoolOp_and (bC (ha pins s σ H _ I h) fun v s1 ⟨x,H1,I1,r1,q1⟩=>?_);obtain ⟨c,rfl,q1⟩:=q1;cases r1;refine wpAny_truthy_bool ?_;cases c with
 | true=>exact hb pins s1 σ H1 Q I1 q1
 | false=>exact ⟨.bl false,H1,I1,rfl,q1⟩
theorem rB (ha:PE X a ta):PE X (.UnaryOp .Not a pos) (z4 ta):=by
 refine ⟨?_⟩;intro pins s σ H Q I h;refine UnaryOp_ (bC (ha pins s σ H _ I h) fun v s1 ⟨x,H1,I1,r1,q1⟩=>?_);obtain ⟨c,rfl,q1⟩:=q1;cases r1;exact not_of (wpAny_truthy_bool ⟨.bl (!c),H1,I1,rfl,q1⟩)
def Dq (t:TT) (ta tb:TE):TE:=fun σ H Q=>t σ H fun c H1=>if c=true then ta σ H1 Q else tb σ H1 Q
theorem rC {c:Expr} (hc:PT X c tA) (ha:PE X a ta) (hb:PE X b tb):PE X (.IfExp c a b pos) (Dq tA ta tb):=by
 refine ⟨?_⟩;intro pins s σ H Q I h;refine wpAny_IfExp (bC (hc pins s σ H _ I h) fun d s1 ⟨H1,I1,q1⟩=>?_);cases d with
 | true=>exact ha pins s1 σ H1 Q I1 q1
 | false=>exact hb pins s1 σ H1 Q I1 q1
end
def SqL (K:ZF) (H:Hp) (a:Addr) (xs:List V):Prop:=
 Rd H a (.lst xs) ∨
  ∃ (o:Obj) (its:Array Value) (n:Nat),K.lookup a=some o/\o.cls=.type "list"/\o.dict=none/\o.data=.seq its n/\its.size<=sizeLine/\Vals xs its.toList
def SqT (K:ZF) (H:Hp) (a:Addr) (xs:List V):Prop:=
 Rd H a (.tup xs) ∨
  ∃ (o:Obj) (its:Array Value) (n:Nat),K.lookup a=some o/\o.cls=.type "tuple"/\o.data=.seq its n/\its.size<=sizeLine/\Vals xs its.toList
def B8:Value->Option V
 | .none=>some .non
 | .bool b=>some (.bl b)
 | .int i _=>some (.int i)
 | .str x _=>some (.str x)
 | .bytes b _=>some (.byt b)
 | .float b _=>some (.flt b)
 | .ref a=>some (.ref a)
 | .type n=>some (.ty n)
 | _=>none
theorem RelV.abs (r:RelV x u):B8 u=some x:=by
 cases x with
 | non=>cases r;rfl
 | bl _=>cases r;rfl
 | int _=>obtain ⟨t,rfl⟩:=r;rfl
 | str _=>obtain ⟨t,rfl⟩:=r;rfl
 | byt _=>obtain ⟨t,rfl⟩:=r;rfl
 | flt _=>obtain ⟨t,rfl⟩:=r;rfl
 | ref _=>cases r;rfl
 | ty _=>cases r;rfl
variable {y:V}
theorem RelV.inj (r:RelV x u) (q:RelV y u):x=y:=D5 (r.abs.symm.trans q.abs)
theorem Vals.inj:∀ {xs ys:List V} {us:List Value},Vals xs us->Vals ys us->xs=ys
 | _,_,_,.nil,.nil=>rfl
 | _,_,_,.cons r t,.cons r' t'=>by rw [r.inj r',Vals.inj t t']
section
variable {X:Cx} {pins:List (Addr×Obj)} {σ:St} {H:Hp} {s:Shared} {a:Addr} {xs ys:List V}
variable {K:ZF}
theorem SqL.of (h:H a=some (.lst xs)):SqL K H a xs:=.inl (.inl h)
theorem SqT.of (h:H a=some (.tup xs)):SqT K H a xs:=.inl (.inl h)
theorem Inv.list (I:Inv X pins σ H s) (h:SqL X.K H a xs):∃ its:List Value,Vals xs its/\PlainL s.heap a its.toArray/\xs.length<=sizeLine:=by
 rcases h with h|⟨o,its,n,hk,hc,hd,hs,hz,r⟩
 ·obtain ⟨z,its,n,r,e⟩:=h.ok I.hok;exact ⟨its,r,⟨_,n,e,rfl,rfl,rfl⟩,z⟩
 ·refine ⟨its.toList,r,⟨o,n,I.kIn a o hk,hc,hd,by simpa using hs⟩,?_⟩;have e:=r.length;simp only [Array.length_toList] at e;omega
theorem Inv.tuple (I:Inv X pins σ H s) (h:SqT X.K H a xs):∃ its:List Value,Vals xs its/\IsTup s.heap a its.toArray/\xs.length<=sizeLine:=by
 rcases h with h|⟨o,its,n,hk,hc,hs,hz,r⟩
 ·obtain ⟨z,its,r,p⟩:=h.ok I.hok;exact ⟨its,r,p.up,z⟩
 ·refine ⟨its.toList,r,⟨o,I.kIn a o hk,hc,n,by simpa using hs⟩,?_⟩;have e:=r.length;simp only [Array.length_toList] at e;omega
theorem Inv.list_inj (I:Inv X pins σ H s) (h:SqL X.K H a xs) (h':SqL X.K H a ys):xs=ys:=by
 obtain ⟨its,r,⟨o,n,e,_,_,d⟩,_⟩:=I.list h;obtain ⟨its',r',⟨o',n',e',_,_,d'⟩,_⟩:=I.list h';rw [e] at e';cases e';rw [d] at d';injection d' with d1 _;have:its=its':=by simpa using congrArg Array.toList d1
 subst this;exact r.inj r'
theorem Inv.tuple_inj (I:Inv X pins σ H s) (h:SqT X.K H a xs) (h':SqT X.K H a ys):xs=ys:=by
 obtain ⟨its,r,⟨o,e,_,n,d⟩,_⟩:=I.tuple h;obtain ⟨its',r',⟨o',e',_,n',d'⟩,_⟩:=I.tuple h';rw [e] at e';cases e';rw [d] at d';injection d' with d1 _;have:its=its':=by simpa using congrArg Array.toList d1
 subst this;exact r.inj r'
end
abbrev Cx.wish (X:Cx) (E:Value->Shared->Prop):Cx:={ X with xe:=E }
abbrev Cx.nox (X:Cx):Cx:=X.wish fun _ _=>False
theorem Cx.Ok.wish (ok:X.Ok) (E:Value->Shared->Prop):(X.wish E).Ok:=
 ⟨ok.mod,ok.kind,ok.glob,ok.blt,ok.above,ok.inj,ok.has,ok.cab,ok.hd,ok.frames,ok.stk,ok.exf,ok.bs,ok.bsz,ok.noex,ok.exfs,ok.funs,ok.frf⟩
theorem Cx.Ok.unwish (ok:(X.wish E).Ok):X.Ok:=
 ⟨ok.mod,ok.kind,ok.glob,ok.blt,ok.above,ok.inj,ok.has,ok.cab,ok.hd,ok.frames,ok.stk,ok.exf,ok.bs,ok.bsz,ok.noex,ok.exfs,ok.funs,ok.frf⟩
section
variable {X:Cx} {pins:List (Addr×Obj)} {σ:St} {H:Hp} {s:Shared} {E:Value->Shared->Prop}
theorem Inv.wish (I:Inv X pins σ H s) (E:Value->Shared->Prop):Inv (X.wish E) pins σ H s:=⟨I.ok.wish E,I.os,I.bare,I.base,I.loc,I.cell,I.free,I.freeC,I.pin,I.hok,I.len⟩
theorem Inv.unwish (I:Inv (X.wish E) pins σ H s):Inv X pins σ H s:=⟨I.ok.unwish,I.os,I.bare,I.base,I.loc,I.cell,I.free,I.freeC,I.pin,I.hok,I.len⟩
theorem SP.unwish {D:Ends} {f:Flow} {s':Shared} (h:SP (X.wish E) pins D f s'):SP X pins D f s':=by
 cases f with
 | next=>obtain ⟨σ',H',I,q⟩:=h;exact ⟨σ',H',I.unwish,q⟩
 | brk=>obtain ⟨σ',H',I,q⟩:=h;exact ⟨σ',H',I.unwish,q⟩
 | cont=>obtain ⟨σ',H',I,q⟩:=h;exact ⟨σ',H',I.unwish,q⟩
 | ret u=>obtain ⟨v,σ',H',I,r,q⟩:=h;exact ⟨v,σ',H',I.unwish,r,q⟩
theorem PSs.nox {st:List Stmt} {t:TS} (h:PSs X.nox st t):PSs X st t:=⟨fun pins s σ H D I hw=>
 wpAny_mono (h pins s σ H D (I.wish _) hw) (fun _ _ q=>q.unwish) fun _ _ z=>False.elim z⟩
end
section
variable {X:Cx} {st:Stmt} {rest:List Stmt} {t u:TS} {e:Expr} {te:TE} {pos:Pos}
def z9:TS:=fun D σ H=>D.nx σ H
def Aa (t u:TS):TS:=fun D σ H=>t { D with nx:=u D } σ H
theorem aL:PSs X [] z9:=⟨fun _ _ σ H _ I h=>wpAny_execs_nil ⟨σ,H,I,h⟩⟩
theorem ag (h1:PS X st t) (h2:PSs X rest u):PSs X (st::rest) (Aa t u):=by
 refine ⟨?_⟩;intro pins s σ H D I h;refine wpAny_execs_cons (bC (h1 pins s σ H { D with nx:=u D } I h) fun f s1 q=>?_);cases f with
 | next=>
  obtain ⟨σ',H',I',q⟩:=q;exact h2 pins s1 σ' H' D I' q
 | ret v=>exact q
 | brk=>exact q
 | cont=>exact q
theorem ai (h1:PS X st t):PSs X [st] t:=by
 refine ⟨?_⟩;intro pins s σ H D I h;refine wpAny_execs_cons (bC (h1 pins s σ H D I h) fun f s1 q=>?_);cases f with
 | next=>exact wpAny_execs_nil q
 | ret v=>exact q
 | brk=>exact q
 | cont=>exact q
theorem Inv.quiet {pins:List (Addr×Obj)} {σ:St} (I:Inv X pins σ H s):interactive X.env=false:=by simp [interactive,I.ok.kind]
def Ad (te:TE):TS:=fun D σ H=>te σ H fun _ H1=>D.nx σ H1
theorem aI (he:PE X e te) (hs:swapsWith e none pos.line X.env=pure false:=by rfl):PS X (.Expr e pos) (Ad te):=by
 refine ⟨?_⟩;intro pins s σ H D I h;exact wpAny_Expr_any (bC (he pins s σ H _ I h) fun v s1 ⟨x,H1,I1,r1,q1⟩=>⟨σ,H1,I1,q1⟩) I.quiet hs
def Ae (te:TE):TS:=fun D σ H=>te σ H D.rt
theorem aA (he:PE X e te):PS X (.Return (some e) pos) (Ae te):=by
 refine ⟨?_⟩;intro pins s σ H D I h;exact wpAny_Return_some (bC (he pins s σ H _ I h) fun v s1 ⟨x,H1,I1,r1,q1⟩=>⟨x,σ,H1,I1,r1,q1⟩)
def Af (c:TT) (t u:TS):TS:=fun D σ H=>c σ H fun b H1=>if b=true then t D σ H1 else u D σ H1
theorem bi {c:Expr} {a b:List Stmt} {tc:TT} (hc:PT X c tc) (ha:PSs X a t) (hb:PSs X b u):PS X (.If c a b pos) (Af tc t u):=by
 refine ⟨?_⟩;intro pins s σ H D I h;refine wpAny_If (bC (hc pins s σ H _ I h) fun d s1 ⟨H1,I1,q1⟩=>?_);cases d with
 | true=>exact ha pins s1 σ H1 D I1 q1
 | false=>exact hb pins s1 σ H1 D I1 q1
def yc:TS:=fun _ _ _=>False
theorem bD:PS X st yc:=⟨fun _ _ _ _ _ _ h=>h.elim⟩
end
abbrev TG:=V->St->Hp->(St->Hp->Prop)->Prop
abbrev yd:=List V->St->Hp->(St->Hp->Prop)->Prop
def PG (X:Cx) (target:Expr) (t:TG):Prop:=
 ∀ (pins:List (Addr×Obj)) (s:Shared) (σ:St) (H:Hp) (v:V) (u:Value) (Q:St->Hp->Prop),Inv X pins σ H s->RelV v u->t v σ H Q->
  wpAny (model X.prog X.w) X.A (assign target X.env u) (fun _ s'=>∃ σ' H',Inv X pins σ' H' s'/\Q σ' H') X.xe s
def Ag (X:Cx) (ts:List Expr) (t:yd):Prop:=
 ∀ (pins:List (Addr×Obj)) (s:Shared) (σ:St) (H:Hp) (vs:List V) (us:List Value) (Q:St->Hp->Prop),Inv X pins σ H s->Vals vs us->t vs σ H Q->
  wpAny (model X.prog X.w) X.A (assignInOrder ((assignEach ts X.env).map (·.2)) us) (fun _ s'=>∃ σ' H',Inv X pins σ' H' s'/\Q σ' H') X.xe s
abbrev ye:=V->V->V->Hp->(Hp->Prop)->Prop
def Ah (X:Cx) (t:ye):Prop:=
 ∀ (pins:List (Addr×Obj)) (s:Shared) (σ:St) (H:Hp) (o i v:V) (ov iv u:Value) (Q:Hp->Prop),Inv X pins σ H s->RelV o ov->RelV i iv->RelV v u->t o i v H Q->
  wpAny (model X.prog X.w) X.A (setItem ov iv u) (fun _ s'=>∃ H',Inv X pins σ H' s'/\Q H') X.xe s
abbrev B9:=V->V->Hp->VK->Prop
def C4 (X:Cx) (op:Operator) (t:B9):Prop:=
 ∀ (pins:List (Addr×Obj)) (s:Shared) (σ:St) (H:Hp) (x y:V) (v u:Value) (Q:VK),Inv X pins σ H s->RelV x v->RelV y u->t x y H Q->
  wpAny (model X.prog X.w) X.A (inplaceOp op v u) (EP X pins σ Q) X.xe s
section
variable {X:Cx} {pos:Pos}
def rD (i:Nat):TG:=fun v σ H Q=>Q (σ.set i (some v)) H
variable {i:Nat}
theorem aC {x:Str} (hN:X.N.Nodup) (hi:X.N[i]?=some x) (hx:zP X.env.scope x) (hf:X.fn x=true\/X.env.scope.names.lookup x=some .local:=by first|exact .inl rfl|exact .inr rfl|assumption):PG X (.Name x pos) (rD i):=by
 intro pins s σ H v u Q I r h;exact wpAny_assign_Name (fc I hN hi hx r (fun s' I'=>⟨_,H,I',h⟩) hf)
def Ca:yd:=fun vs σ H Q=>vs=[]/\Q σ H
inductive xi (t:TG) (u:yd) (vs:List V) (σ:St) (H:Hp) (Q:St->Hp->Prop):Prop
 | mk (v r:_):vs=v::r->(t v σ H fun σ' H'=>u r σ' H' Q)->xi t u vs σ H Q
theorem cb:Ag X [] Ca:=by
 intro pins s σ H vs us Q I r h;obtain ⟨e,h⟩:=h;subst e;cases r;exact assignInOrder_nil ⟨σ,H,I,h⟩
variable {es:List Expr}
theorem aJ {t:TG} {u:yd} (h1:PG X e t) (h2:Ag X es u)
  (hs:(assignEach (e::es) X.env).map (·.2)=assign e X.env::(assignEach es X.env).map (·.2):=by rfl):Ag X (e::es) (xi t u):=by
 intro pins s σ H vs us Q I r h;obtain ⟨v,vr,e1,h⟩:=h;subst e1;cases r with
 | cons r rr=>
  rw [hs];refine assignInOrder_cons (bC (h1 pins s σ H _ _ _ I r h) fun _ s1 ⟨σ1,H1,I1,q1⟩=>?_);exact h2 pins s1 σ1 H1 _ _ Q I1 rr q1
inductive yf (K:ZF) (n:Nat) (t:yd) (v:V) (σ:St) (H:Hp) (Q:St->Hp->Prop):Prop
 | mk (a xs:_):v=.ref a->SqT K H a xs->xs.length=n->t xs σ H Q->yf K n t v σ H Q
theorem cM {k:Nat} {t:yd} {n:Nat} (hc:X.calm=true) (h:Ag X es t)
  (hn:(assignEach es X.env).length=n:=by rfl) (hst:(assignEach es X.env).findIdx? (·.1)=none:=by rfl):PG X (.Tuple es k pos) (yf X.K n t):=by
 intro pins s σ H v u Q I r hw;obtain ⟨a,xs,e1,hq,hl,hw⟩:=hw;subst e1;cases r;obtain ⟨its,rv,ht,hz⟩:=I.tuple hq;refine assign_Tuple_tuple (I.ok.hd hc) ht (by simp [hn,<-hl,rv.length]) hst fun h' hx=>?_;have I1:Inv X pins σ H { s with heap:=h' }:=I.kept (t':=s.toks) fun b o e=>hx b o (Eg (DW e)) e;exact h pins _ σ H xs _ Q I1 (by simpa using rv) hw
def Cb (to ti:TE) (t:ye):TG:=fun v σ H Q=>to σ H fun o H1=>ti σ H1 fun i H2=>t o i v H2 fun H3=>Q σ H3
theorem nG {o i:Expr} {to ti:TE} {t:ye} (ho:PE X o to) (hi:PE X i ti) (hs:Ah X t)
  (ha:∀ v,assign (.Subscript o i pos) X.env v=(do
   let ov <-holding [v] (eval o X.env)
   let iv <-holding [v,ov] (eval i X.env)
   standAt pos
   holding [v,ov,iv] (setItem ov iv v)
   release [v,ov,iv] []):=by intro _;rfl):PG X (.Subscript o i pos) (Cb to ti t):=by
 intro pins s σ H v u Q I r h;rw [ha];refine wpAny_bind (wpAny_holding (bC (ho pins s σ H _ I h) fun ov s1 ⟨x,H1,I1,r1,q1⟩=>?_));refine wpAny_bind (wpAny_holding (bC (hi pins s1 σ H1 _ I1 q1) fun iv s2 ⟨y,H2,I2,r2,q2⟩=>?_));refine wpAny_bind (wpAny_standAt (wpAny_bind (wpAny_holding (bC (hs pins s2 σ H2 x y v ov iv u _ I2 r1 r2 r q2) fun _ s3 ⟨H3,I3,q3⟩=>?_))));exact wpAny_release ⟨σ,H3,I3,q3⟩
def yg (te:TE) (g:TG):TS:=fun D σ H=>te σ H fun x H1=>g x σ H1 D.nx
variable {te:TE}
theorem ff {tg e:Expr} {g:TG} (he:PE X e te) (hg:PG X tg g) (hs:swapsWithSole [tg] e pos.line X.env=pure false:=by rfl) (hw:swappedStores [tg] e X.env=pure none:=by rfl)
  (h1:(assignEach [tg] X.env).map (·.2)=[assign tg X.env]:=by rfl):PS X (.Assign [tg] e pos) (yg te g):=by
 refine ⟨?_⟩;intro pins s σ H D I h;refine wpAny_Assign_stores (bC (he pins s σ H _ I h) fun v s1 ⟨x,H1,I1,r1,q1⟩=>?_) hs hw;rw [h1];exact bC (hg pins s1 σ H1 x v _ I1 r1 q1) fun _ s2 q=>q
theorem au {x:Str} {pos':Pos} (hN:X.N.Nodup) (hi:X.N[i]?=some x) (hx:zP X.env.scope x) (he:PE X e te) (hs:swapsWith e (some (.Name x pos')) pos.line X.env=pure false:=by rfl) (hf:X.fn x=true\/X.env.scope.names.lookup x=some .local:=by first|exact .inl rfl|exact .inr rfl|assumption) :
  PS X (.Assign [.Name x pos'] e pos) (yg te (rD i)):=by
 refine ⟨?_⟩;intro pins s σ H D I h;refine wpAny_Assign_Name (bC (he pins s σ H _ I h) fun v s1 ⟨y,H1,I1,r1,q1⟩=>?_) hs;exact fc I1 hN hi hx r1 (fun s2 I2=>⟨_,H1,I2,q1⟩) hf
inductive Ai (i:Nat) (te:TE) (ti:B9) (D:Ends) (σ:St) (H:Hp):Prop
 | mk (x:_):σ[i]?=some (some x)->(te σ H fun y H1=>ti x y H1 fun z H2=>D.nx (σ.set i (some z)) H2)->Ai i te ti D σ H
theorem nI {x:Str} {op:Operator} {ti:B9} {pos':Pos} (hN:X.N.Nodup) (hi:X.N[i]?=some x) (hx:zP X.env.scope x) (he:PE X e te) (ho:C4 X op ti) (hf:X.fn x=true\/X.env.scope.names.lookup x=some .local:=by first|exact .inl rfl|exact .inr rfl|assumption) :
  PS X (.AugAssign (.Name x pos') op e pos) (Ai i te ti):=by
 refine ⟨?_⟩;intro pins s σ H D I h;obtain ⟨v,e1,h⟩:=h;obtain ⟨m,hn,hl⟩:=I.loc;have vis:zO X.env.scope x:=by rcases hx with k|k;exact .inl k;exact .inr (.inl k)
 obtain ⟨u,r,l⟩:=hl i x v hi e1 vis;refine wpAny_AugAssign_Name ?_;have go:wpAny (model X.prog X.w) X.A (eval e X.env) (fun w s₂=>wpAny (model X.prog X.w) X.A (inplaceOp op u w) (fun r s₃=>wpAny (model X.prog X.w) X.A (storeName X.env x r) (fun _=>SP X pins D .next) X.xe s₃) X.xe s₂) X.xe s:=by
  refine bC (he pins s σ H _ I h) fun w s1 ⟨y,H1,I1,r1,q1⟩=>?_;refine bC (ho pins s1 σ H1 v y u w _ I1 r r1 q1) fun z s2 ⟨zv,H2,I2,r2,q2⟩=>?_;exact fc I2 hN hi hx r2 (fun s3 I3=>⟨_,H2,I3,q2⟩) hf
 rcases l with ⟨hk,hm⟩|⟨hk,c,hc,hcell⟩
 ·exact wpAny_loadName_local I.ok.kind hk hn hm go
 ·rcases hk with hk|hk
  ·exact wpAny_loadName_cell I.ok.kind hk hc hcell go
  ·rcases hx with k|k
   ·have:X.env.scope.names.lookup x=some .free:=hk;rw [k] at this;cases this
   ·have:X.env.scope.names.lookup x=some .free:=hk;rw [k] at this;cases this
inductive C5 (f:Int->Int->Int) (x:V) (y:V) (H:Hp) (Q:VK):Prop
 | mk (i j:_):x=.int i->y=.int j->Q (.int (f i j)) H->C5 f x y H Q
theorem nJ:C4 X .Add (C5 fun i j=>i+j):=by
 intro pins s σ H x y v u Q I r1 r2 h;obtain ⟨i,j,e1,e2,q⟩:=h;subst e1;subst e2;obtain ⟨t,rfl⟩:=r1;obtain ⟨t',rfl⟩:=r2;exact iadd_int ⟨.int _,H,I.tok _,⟨_,rfl⟩,q⟩
end
section
variable {X:Cx} {pos:Pos}
inductive rE (c:TT) (tb:TS) (D:Ends) (σ:St) (H:Hp):Prop
 | mk (W:Nat->St->Hp->Prop):(∃ m,W m σ H)->(∀ m σ H,W m σ H->
 c σ H fun b H1=>if b=true then ∃ N:St->Hp->Prop,(∀ σ' H',N σ' H'->∃ m',m' < m/\W m' σ' H')/\tb { D with nx:=N,ct:=N,bk:=D.nx } σ H1 else D.nx σ H1)->rE c tb D σ H
theorem dY {c:Expr} {body:List Stmt} {tc:TT} {tb:TS} (hp:PassesOwn (model X.prog X.w) X.A X.env X.xe) (hc:PT X c tc) (hb:PSs X body tb):PS X (.While c body [] pos) (rE tc tb):=by
 refine ⟨?_⟩;intro pins s σ H D I h;obtain ⟨W,⟨m0,w0⟩,turn⟩:=h;refine wpAny_While (codeAny_whileLoop (fun n s'=>∃ σ' H',Inv X pins σ' H' s'/\W n σ' H') ?_ m0 ⟨σ,H,I,w0⟩);rintro n s1 ⟨σ1,H1,I1,w1⟩;refine wpAny_passesOwn hp (bC (hc pins s1 σ1 H1 _ I1 (turn n σ1 H1 w1)) fun b s2 ⟨H2,I2,q2⟩=>?_);cases b with
 | true=>
  obtain ⟨N,hN,q2⟩:=q2;rw [if_pos rfl];refine wpAny_passesOwn hp (bC (hb pins s2 σ1 H2 _ I2 q2) fun f s3 q3=>?_);cases f with
  | next=>
   obtain ⟨σ3,H3,I3,n3⟩:=q3;obtain ⟨m',hm,w3⟩:=hN σ3 H3 n3;exact ⟨m',hm,σ3,H3,I3,w3⟩
  | cont=>
   obtain ⟨σ3,H3,I3,n3⟩:=q3;obtain ⟨m',hm,w3⟩:=hN σ3 H3 n3;exact ⟨m',hm,σ3,H3,I3,w3⟩
  | brk=>exact q3
  | ret v=>exact q3
 | false=>
  rw [if_neg D1];exact wpAny_execs_nil ⟨σ1,H2,I2,q2⟩
end
structure It where
 go:Nat->Hp->Prop
 yld:Nat->Hp->V->Hp->Prop
 stop:Nat->Hp->Prop
def jF (X:Cx) (pins:List (Addr×Obj)) (H:Hp) (b:Addr):Prop:=
 H b=none/\b≠X.env.locals/\b∉X.fs/\(b∈X.ex\/X.s₀.heap.objs.size<=b)/\(∀ x c,X.env.cells.lookup x=some c->c≠b)/\∀ p∈X.pn++pins,p.1≠b
variable {σ:St} {pins:List (Addr×Obj)}
theorem Inv.fpOk {H H':Hp} (I:Inv X pins σ H s) (hb:s.heap.objs.size<=b) (hn:H' b=none):jF X pins H' b:=by
 refine ⟨hn,Fk (Ed I.lt hb),I.nofs hb,.inr (Ef I.sz hb),fun x c e z=>?_,fun p hp z=>?_⟩
 ·obtain ⟨v,q⟩:=I.cell x c e;exact absurd (Ed q.lt (by rw [z];exact hb)) (EH _)
 ·exact absurd (Ed (DW (I.pin p hp).1) (by rw [z];exact hb)) (EH _)
structure kz (P:Program) (w:World) (K:ZF) (tg:Expr) (J:It) (fp:List Addr) (it:Addr) (tn:Nat->Heap->Prop):Prop where
 mem:it∈fp
 obj:∀ i h,tn i h->∀ b∈fp,∃ o,h.get? b=some o/\∀ v,o.data≠.cell v
 keep:∀ i h h',tn i h->(∀ b∈fp,∀ o,h.get? b=some o->h'.get? b=some o)->tn i h'
 item:∀ (X:Cx),X.prog=P->X.w=w->X.K=K->X.calm=true->∀ (i:Nat) (pins:List (Addr×Obj)) (s:Shared) (σ:St) (H:Hp) (E:Value->Shared->Prop),Inv X pins σ H s->(∀ b∈fp,jF X pins H b)->tn i s.heap->J.go i H->
  wpAny (model P w) X.A (pyNext (.ref it)) (fun r s1=>∃ u,r=some u /\
   wpAny (model P w) X.A (letOwnedTupleGo tg (.ref it) u) (fun _ s2=>∃ x H',Inv X pins σ H' s2/\RelV x u/\J.yld i H x H'/\tn (i+1) s2.heap/\∀ b∈fp,H' b=none) E s1) E s
 done:∀ (X:Cx),X.prog=P->X.w=w->X.K=K->X.calm=true->∀ (i:Nat) (pins:List (Addr×Obj)) (s:Shared) (σ:St) (H:Hp) (E:Value->Shared->Prop),Inv X pins σ H s->(∀ b∈fp,jF X pins H b)->tn i s.heap->J.stop i H->
  wpAny (model P w) X.A (pyNext (.ref it)) (fun r s1=>r=none/\Inv X pins σ H s1) E s
 self:∀ (A:Around) (i:Nat) (s:Shared) (Q:Value->Shared->Prop) (E:Value->Shared->Prop),tn i s.heap->Q (.ref it) s->wpAny (model P w) A (pyIter (.ref it)) Q E s
abbrev TI:=St->Hp->(It->Hp->Prop)->Prop
inductive BL (X:Cx) (pins:List (Addr×Obj)) (σ:St) (tg:Expr) (R:It->Hp->Prop) (itv:Value) (s2:Shared):Prop
 | mk (it:Addr) (fp:List Addr) (tn:Nat->Heap->Prop) (J:It) (H':Hp):itv=.ref it->Inv X pins σ H' s2->kz X.prog X.w X.K tg J fp it tn->tn 0 s2.heap->(∀ b∈fp,jF X pins H' b)->R J H'->BL X pins σ tg R itv s2
structure PI (X:Cx) (tg iter:Expr) (wi:TI):Prop where
 run:∀ (pins:List (Addr×Obj)) (s:Shared) (σ:St) (H:Hp) (R:It->Hp->Prop),Inv X pins σ H s->wi σ H R->
  wpAny (model X.prog X.w) X.A (eval iter X.env) (fun v s1=>wpAny (model X.prog X.w) X.A (pyIter v) (BL X pins σ tg R) X.xe s1) X.xe s
instance {X:Cx} {tg iter:Expr} {wi:TI}:CoeFun (PI X tg iter wi) fun _=>∀ (pins:List (Addr×Obj)) (s:Shared) (σ:St) (H:Hp) (R:It->Hp->Prop),Inv X pins σ H s->wi σ H R->
  wpAny (model X.prog X.w) X.A (eval iter X.env) (fun v s1=>wpAny (model X.prog X.w) X.A (pyIter v) (BL X pins σ tg R) X.xe s1) X.xe s:=⟨PI.run⟩
theorem lY {M:Model} {A:Around} {E:Value->Shared->Prop} {tg:Expr} {it:Addr} {u:Value} {o:Obj} {n:String} {vs:Array Value} {Q:Unit->Shared->Prop} (ho:s.heap.get? it=some o) (hc:o.cls=.type n) (hd:o.data=.fields vs)
  (hn:["enumerate","zip","dict_itemiterator","dict_reverseitemiterator","odict_iterator","itertools.zip_longest","itertools.pairwise"].contains n=false) (hQ:Q () s):wpAny M A (letOwnedTupleGo tg (.ref it) u) Q E s:=by
 unfold letOwnedTupleGo;cases tg<;>first
  | exact wpAny_pure hQ
  | (cases u<;>first
    | exact wpAny_pure hQ
    | (refine wpAny_bind (wpAny_load ho ?_)
       rw [hc,hd];show wpAny M A (if (["enumerate","zip","dict_itemiterator","dict_reverseitemiterator","odict_iterator","itertools.zip_longest","itertools.pairwise"].contains n && vs[0]? == some (rawInt _))=true then _ else _) Q E s;rw [if_neg (by intro h;rw [hn,Bool.false_and] at h;cases h)];exact wpAny_pure hQ))
def zQ (K:ZF) (a:Addr):It:=
 ⟨fun i H=>∃ xs x,SqL K H a xs/\xs[i]?=some x,fun i H x H'=>H'=H/\∀ xs,SqL K H a xs->xs[i]?=some x,fun i H=>∃ xs,SqL K H a xs/\xs.length<=i⟩
def zR (K:ZF) (a:Addr):It:=
 ⟨fun i H=>∃ xs x,SqT K H a xs/\xs[i]?=some x,fun i H x H'=>H'=H/\∀ xs,SqT K H a xs->xs[i]?=some x,fun i H=>∃ xs,SqT K H a xs/\xs.length<=i⟩
def yh (lo:Int) (n:Nat):It:=⟨fun i _=>i < n,fun i H x H'=>H'=H/\x=.int (lo+i),fun i _=>n<=i⟩
variable {K:ZF}
theorem qt {w:World} {tg:Expr} (a it:Addr):kz P w K tg (zQ K a) [it] it (fun i h=>h.IsListIter it a i) where
 mem:=by simp
 obj:=fun i h st b hb=>by
  have e:b=it:=by simpa using hb
  subst e;obtain ⟨o,e,c,d⟩:=st;exact ⟨o,e,fun v z=>by rw [d] at z;cases z⟩
 keep:=fun i h h' st k=>st.at fun o e=>k it (by simp) o e
 item:=by
  intro X hP hw hK hc i pins s σ H E I hf st hg;subst hP hw hK;obtain ⟨xs,x,hq,hx⟩:=hg;obtain ⟨its,rv,p,hz⟩:=I.list hq;obtain ⟨u,hu,ru⟩:=rv.get hx;obtain ⟨f0,f1,f2,f3,f4,f5⟩:=hf it (by simp);refine wpAny_pyNext_list_item st p.isList (x:=u) (by simpa using hu) fun h' st' sb=>?_;have I1:Inv X pins σ H { s with heap:=h' }:=I.turned (t':=s.toks) (fun b o hb e=>(sb.2 b hb).trans e) f0 f1 f3 f4 f5;obtain ⟨o,e,c,d⟩:=id st';exact ⟨u,rfl,lY (s:={ s with heap:=h' }) e c d zd ⟨x,H,I1,ru,⟨rfl,fun ys hy=>by rw [I.list_inj hy hq];exact hx⟩,st',fun b hb=>(hf b hb).1⟩⟩
 done:=by
  intro X hP hw hK hc i pins s σ H E I hf st hg;subst hP hw hK;obtain ⟨xs,hq,hx⟩:=hg;obtain ⟨its,rv,p,hz⟩:=I.list hq;obtain ⟨f0,f1,f2,f3,f4,f5⟩:=hf it (by simp);have hl:=rv.length;exact wpAny_pyNext_list_end (I.ok.hd hc) st p.isList (by simp;omega) fun h' eb=>⟨rfl,I.turned (t':=s.toks) (fun b o hb e=>eb b o hb e) f0 f1 f3 f4 f5⟩
 self:=fun _ _ _ _ _ st h=>wpAny_pyIter_listiter st h
theorem nL {w:World} {tg:Expr} (a it:Addr):kz P w K tg (zR K a) [it] it (fun i h=>h.IsTupleIter it a i) where
 mem:=by simp
 obj:=fun i h st b hb=>by
  have e:b=it:=by simpa using hb
  subst e;obtain ⟨o,e,c,d⟩:=st;exact ⟨o,e,fun v z=>by rw [d] at z;cases z⟩
 keep:=fun i h h' st k=>st.at fun o e=>k it (by simp) o e
 item:=by
  intro X hP hw hK hc i pins s σ H E I hf st hg;subst hP hw hK;obtain ⟨xs,x,hq,hx⟩:=hg;obtain ⟨its,rv,p,hz⟩:=I.tuple hq;obtain ⟨u,hu,ru⟩:=rv.get hx;obtain ⟨f0,f1,f2,f3,f4,f5⟩:=hf it (by simp);refine wpAny_pyNext_tuple_item st (show s.heap.IsTuple a its.toArray from p) (x:=u) (by simpa using hu) fun h' st' sb=>?_;have I1:Inv X pins σ H { s with heap:=h' }:=I.turned (t':=s.toks) (fun b o hb e=>(sb.2 b hb).trans e) f0 f1 f3 f4 f5;obtain ⟨o,e,c,d⟩:=id st';exact ⟨u,rfl,lY (s:={ s with heap:=h' }) e c d zd ⟨x,H,I1,ru,⟨rfl,fun ys hy=>by rw [I.tuple_inj hy hq];exact hx⟩,st',fun b hb=>(hf b hb).1⟩⟩
 done:=by
  intro X hP hw hK hc i pins s σ H E I hf st hg;subst hP hw hK;obtain ⟨xs,hq,hx⟩:=hg;obtain ⟨its,rv,p,hz⟩:=I.tuple hq;obtain ⟨f0,f1,f2,f3,f4,f5⟩:=hf it (by simp);have hl:=rv.length;exact wpAny_pyNext_tuple_end (I.ok.hd hc) st (show s.heap.IsTuple a its.toArray from p) (by simp;omega) fun h' eb=>⟨rfl,I.turned (t':=s.toks) (fun b o hb e=>eb b o hb e) f0 f1 f3 f4 f5⟩
 self:=fun _ _ _ _ _ st h=>wpAny_pyIter_tupleiter st h
theorem nN {w:World} {tg:Expr} (it:Addr) (lo:Int) (n:Nat):kz P w K tg (yh lo n) [it] it (fun i h=>IsRangeIter h it (lo+(i:Nat)*1) ((n:Int) - (i:Nat)) 1) where
 mem:=by simp
 obj:=fun i h st b hb=>by
  have e:b=it:=by simpa using hb
  subst e;exact ⟨_,st,fun v z=>by
   have z':Data.fields _=Data.cell v:=z;cases z'⟩
 keep:=fun i h h' st k=>k it (by simp) _ st
 item:=by
  intro X hP hw hK hc i pins s σ H E I hf st hg;subst hP hw hK;obtain ⟨f0,f1,f2,f3,f4,f5⟩:=hf it (by simp);have W:=Walks.range (prog:=X.prog) (w:=X.w) (I.ok.hd hc) it lo 1 n;refine W.item i s _ _ hg st fun v h' tk hv st' kk=>?_;obtain ⟨t,rfl⟩:=hv;have I1:Inv X pins σ H { s with heap:=h',toks:=tk }:=I.turned (fun b o hb e=>kk b o (by simpa using hb) e) f0 f1 f3 f4 f5;refine ⟨_,rfl,lY (s:={ s with heap:=h',toks:=tk }) (n:="range_iterator") st' rfl rfl zd ⟨.int (lo+i),H,I1,⟨t,?_⟩,⟨rfl,rfl⟩,st',fun b hb=>(hf b hb).1⟩⟩;rw [Int.mul_one]
 done:=by
  intro X hP hw hK hc i pins s σ H E I hf st hg;subst hP hw hK;obtain ⟨f0,f1,f2,f3,f4,f5⟩:=hf it (by simp);exact wpAny_pyNext_range_end (I.ok.hd hc) st (by have:n<=i:=hg;omega) fun h' eb=>⟨rfl,I.turned (t':=s.toks) (fun b o hb e=>eb b o hb e) f0 f1 f3 f4 f5⟩
 self:=fun _ _ _ _ _ st h=>wpAny_pyIter_rangeiter st h
section
variable {X:Cx} {tg:Expr}
inductive rF (K:ZF) (R:It->Hp->Prop) (x:V) (H1:Hp):Prop
 | mk (a:_):x=.ref a->(∃ xs,SqL K H1 a xs)->R (zQ K a) H1->rF K R x H1
def Aj (K:ZF) (tl:TE):TI:=fun σ H R=>tl σ H fun x H1=>rF K R x H1
inductive xj (K:ZF) (R:It->Hp->Prop) (x:V) (H1:Hp):Prop
 | mk (a:_):x=.ref a->(∃ xs,SqT K H1 a xs)->R (zR K a) H1->xj K R x H1
def Cd (K:ZF) (tl:TE):TI:=fun σ H R=>tl σ H fun x H1=>xj K R x H1
variable {tl:TE} {l:Expr}
theorem cW (hl:PE X l tl):PI X tg l (Aj X.K tl):=by
 refine ⟨?_⟩;intro pins s σ H R I h;refine bC (hl pins s σ H _ I h) fun v s1 ⟨x,H1,I1,r1,q1⟩=>?_;obtain ⟨a,e,⟨xs,hq⟩,q⟩:=q1;subst e;cases r1;obtain ⟨its,rv,p,hz⟩:=I1.list hq;refine wpAny_pyIter_list p.isList ?_;refine ⟨s1.heap.objs.size,[s1.heap.objs.size],_,_,H1,rfl,I1.kept (t':=s1.toks) fun b o e=>DJ _ e,qt a _,⟨_,D8 _ rfl,rfl,rfl⟩,fun b hb=>?_,q⟩;have e:b=s1.heap.objs.size:=by simpa using hb
 subst e;exact I1.fpOk (DN _) (I1.hok.fresh (DN _))
theorem iY (hl:PE X l tl):PI X tg l (Cd X.K tl):=by
 refine ⟨?_⟩;intro pins s σ H R I h;refine bC (hl pins s σ H _ I h) fun v s1 ⟨x,H1,I1,r1,q1⟩=>?_;obtain ⟨a,e,⟨xs,hq⟩,q⟩:=q1;subst e;cases r1;obtain ⟨its,rv,p,hz⟩:=I1.tuple hq;refine wpAny_pyIter_tuple (show s1.heap.IsTuple a its.toArray from p) ?_;refine ⟨s1.heap.objs.size,[s1.heap.objs.size],_,_,H1,rfl,I1.kept (t':=s1.toks) fun b o e=>DJ _ e,nL a _,⟨_,D8 _ rfl,rfl,rfl⟩,fun b hb=>?_,q⟩;have e:b=s1.heap.objs.size:=by simpa using hb
 subst e;exact I1.fpOk (DN _) (I1.hok.fresh (DN _))
theorem rG {R:It->Hp->Prop} {E:Value->Shared->Prop} {lo hi:Int} {t u v:Tok} {tk:Nat} (I:Inv X pins σ H s) (h1:-(2 ^ 62)<=lo) (h2:lo < 2 ^ 62) (h3:-(2 ^ 62)<=hi) (h4:hi < 2 ^ 62)
  (q:R (yh lo (hi - lo).toNat) H):wpAny (model X.prog X.w) X.A (pyIter (.ref s.heap.objs.size)) (BL X pins σ tg R) E { s with heap:=s.heap.push { cls:=.type "range",data:=.fields #[.int lo t,.int hi u,.int 1 v] },toks:=tk }:=by
 refine wpAny_pyIter_range (IsRange.new ..) (small_one h1 h2 h3 h4) ?_;have I1:Inv X pins σ H { s with heap:=s.heap.push { cls:=.type "range",data:=.fields #[.int lo t,.int hi u,.int 1 v] },toks:=tk }:=I.kept fun b o e=>DJ _ e;refine ⟨(s.heap.push { cls:=.type "range",data:=.fields #[.int lo t,.int hi u,.int 1 v] }).objs.size,[(s.heap.push { cls:=.type "range",data:=.fields #[.int lo t,.int hi u,.int 1 v] }).objs.size],_,_,H,rfl,
  I1.kept (t':=tk) fun b o e=>DJ _ e,nN _ lo (hi - lo).toNat,?_,fun b hb=>?_,q⟩
 ·have e1:lo+((0:Nat):Int)*1=lo:=by simp
  have e2:(((hi - lo).toNat:Nat):Int) - ((0:Nat):Int)=Builtin.Range.rangeSize lo hi 1:=by rw [rangeSize_one];split<;>omega
  show IsRangeIter _ _ (lo+((0:Nat):Int)*1) ((((hi - lo).toNat:Nat):Int) - ((0:Nat):Int)) 1;rw [e1,e2];exact D8 _ rfl
 ·have e:b=(s.heap.push { cls:=.type "range",data:=.fields #[.int lo t,.int hi u,.int 1 v] }).objs.size:=by simpa using hb
  subst e;exact I1.fpOk (DN _) (I1.hok.fresh (DN _))
inductive rH (R:It->Hp->Prop) (vs:List V) (H1:Hp):Prop
 | mk (j:Int):vs=[.int j]->-(2 ^ 62)<=j->j < 2 ^ 62->R (yh 0 j.toNat) H1->rH R vs H1
def Ak (ta:TA):TI:=fun σ H R=>ta σ H fun vs H1=>rH R vs H1
theorem dZ {a:Expr} {ta:TA} {p pos:Pos} (hg:Gl X "range") (hm:X.mg "range"=none) (ha:PA X [a] ta) (hs:starEach [a] X.env=[(false,eval a X.env)]:=by rfl):PI X tg (.Call (.Name "range" p) [a] [] pos) (Ak ta):=by
 refine ⟨?_⟩;intro pins s σ H R I h;refine Call_ (gp I hg hm boot_range (EG (bC (ha pos pins s σ H _ I h) fun us s1 ⟨vs,H1,I1,r1,q1⟩=>?_) hs rfl));obtain ⟨j,e,q1,q2,q⟩:=q1;subst e;cases r1 with
 | cons r rr=>
  cases rr;obtain ⟨t,rfl⟩:=r;exact call_range_1 (rG I1 zo zo q1 q2 (by simpa using q))
def Ce (wi:TI) (g:TG) (tb:TS):TS:=fun D σ H=>wi σ H fun J H1=>∃ W:Nat->Nat->St->Hp->Prop,(∃ m,W 0 m σ H1)/\∀ i m σ H,W i m σ H->
 (J.stop i H/\D.nx σ H)\/(J.go i H/\∃ N:St->Hp->Prop,(∀ σ' H',N σ' H'->∃ m',m' < m/\W (i+1) m' σ' H')/\∀ x H',J.yld i H x H'->g x σ H' fun σ2 H2=>tb { D with nx:=N,ct:=N,bk:=D.nx } σ2 H2)
def dR (fp:List Addr) (h:Heap):List (Addr×Obj):=fp.filterMap fun b=>(h.get? b).map fun o=>(b,o)
variable {fp:List Addr}
theorem gr {o:Obj} (hb:b∈fp) (e:h.get? b=some o):(b,o)∈dR fp h:=List.mem_filterMap.mpr ⟨b,hb,by rw [e];rfl⟩
theorem jN {p:Addr×Obj} (hp:p∈dR fp h):p.1∈fp/\h.get? p.1=some p.2:=by
 obtain ⟨b,hb,e⟩:=List.mem_filterMap.mp hp;cases q:h.get? b with
 | none=>rw [q] at e;cases e
 | some o=>
  rw [q] at e;have e':(b,o)=p:=D5 e;subst e';exact ⟨hb,q⟩
theorem Inv.pinned (I:Inv X pins σ H s) (hf:∀ b∈fp,jF X pins H b) (ho:∀ b∈fp,∃ o,s.heap.get? b=some o/\∀ v,o.data≠.cell v):Inv X (pins++dR fp s.heap) σ H s:=
 I.pins_of fun p hp=>(D0.mp hp).elim (fun z=>I.pin p (Ek _ z)) fun z=>by
  obtain ⟨hb,e⟩:=jN z;obtain ⟨f0,f1,f2,_⟩:=hf p.1 hb;obtain ⟨o,e',d⟩:=ho p.1 hb;rw [e] at e';cases e';exact ⟨e,f0,f1,f2,d⟩
theorem Inv.unpinned {pins pl:List (Addr×Obj)} (I:Inv X (pins++pl) σ H s):Inv X pins σ H s:=I.pins_of fun p hp=>I.pin p (Ek _ (ET _ hp))
theorem cY {iter:Expr} {body:List Stmt} {wi:TI} {g:TG} {tb:TS} {pos:Pos} (hp:PassesOwn (model X.prog X.w) X.A X.env X.xe) (hc:X.calm=true) (hi:PI X tg iter wi) (hg:PG X tg g) (hb:PSs X body tb)
  (hs:∀ x,foldedSetIterable iter X.env x=pure x:=by intro _;rfl):PS X (.For tg iter body [] pos) (Ce wi g tb):=by
 refine ⟨?_⟩;intro pins s σ H D I h;refine wpAny_For (bC (hi pins s σ H _ I h) fun v s1 h1=>bC h1 fun itv s2 h2=>?_) hs;obtain ⟨it,fp,tn,J,H2,e,I2,T,st2,f2,W,⟨m0,w0⟩,turn⟩:=h2;subst e;have stat:∀ {H':Hp},(∀ b∈fp,H' b=none)->∀ b∈fp,jF X pins H' b:=fun hn b hb=>⟨hn b hb,(f2 b hb).2⟩;refine codeAny_forLoop_any (fun n s'=>∃ i σ' H',Inv X pins σ' H' s'/\tn i s'.heap/\(∀ b∈fp,H' b=none)/\W i n σ' H') ?_ m0 ⟨0,σ,H2,I2,st2,fun b hb=>(f2 b hb).1,w0⟩;rintro n s3 ⟨i,σ3,H3,I3,st3,fr3,w3⟩;rcases turn i n σ3 H3 w3 with ⟨stop,qn⟩|⟨go,N,hN,step⟩
 ·refine wpAny_passesOwn hp (bC (T.done X rfl rfl rfl hc i pins s3 σ3 H3 X.xe I3 (stat fr3) st3 stop) fun r s4 ⟨hr,I4⟩=>?_);subst hr;exact wpAny_execs_nil ⟨σ3,H3,I4,qn⟩
 ·refine wpAny_passesOwn hp (bC (T.item X rfl rfl rfl hc i pins s3 σ3 H3 X.xe I3 (stat fr3) st3 go) fun r s4 ⟨u,hr,h4⟩=>?_);subst hr;refine wpAny_passesOwn hp (bC h4 fun _ s5 ⟨x,H5,I5,r5,y5,st5,fr5⟩=>?_);have I5':=I5.pinned (stat fr5) (T.obj _ _ st5);refine wpAny_passesOwn hp (bC (hg _ s5 σ3 H5 x u _ I5' r5 (step x H5 y5)) fun _ s6 ⟨σ6,H6,I6,q6⟩=>?_);refine wpAny_passesOwn hp (bC (hb _ s6 σ6 H6 _ I6 q6) fun f s7 q7=>?_);have again:∀ {σ7:St} {H7:Hp},Inv X (pins++dR fp s5.heap) σ7 H7 s7->N σ7 H7->∃ m,m < n/\∃ i σ' H',Inv X pins σ' H' s7/\tn i s7.heap/\(∀ b∈fp,H' b=none)/\W i m σ' H':=fun {σ7 H7} I7 n7=>by
   obtain ⟨m',hm,w7⟩:=hN σ7 H7 n7;refine ⟨m',hm,i+1,σ7,H7,I7.unpinned,T.keep _ _ _ st5 fun b hb o e=>(I7.pin (b,o) (Ek _ (Ek _ (gr hb e)))).1,fun b hb=>?_,w7⟩;obtain ⟨o,e,d⟩:=T.obj _ _ st5 b hb;exact (I7.pin (b,o) (Ek _ (Ek _ (gr hb e)))).2.1
  cases f with
  | next=>obtain ⟨σ7,H7,I7,n7⟩:=q7;exact again I7 n7
  | cont=>obtain ⟨σ7,H7,I7,n7⟩:=q7;exact again I7 n7
  | brk=>obtain ⟨σ7,H7,I7,q7⟩:=q7;exact ⟨σ7,H7,I7.unpinned,q7⟩
  | ret v=>obtain ⟨x7,σ7,H7,I7,r7,q7⟩:=q7;exact ⟨x7,σ7,H7,I7.unpinned,r7,q7⟩
end
theorem gI {g:TG} {tb:TS} {D:Ends} (Pv:Nat->St->Hp->Prop) (h0:Pv 0 σ H) (hl:∀ i σ H,i<=xs.length->Pv i σ H->SqL K H a xs)
  (hs:∀ i x σ H,xs[i]?=some x->Pv i σ H->g x σ H fun σ2 H2=>tb { D with nx:=Pv (i+1),ct:=Pv (i+1),bk:=D.nx } σ2 H2) (hd:∀ σ H,Pv xs.length σ H->D.nx σ H) :
  ∃ W:Nat->Nat->St->Hp->Prop,(∃ m,W 0 m σ H)/\∀ i m σ H,W i m σ H->
   ((zQ K a).stop i H/\D.nx σ H)\/((zQ K a).go i H/\∃ N:St->Hp->Prop,(∀ σ' H',N σ' H'->∃ m',m' < m/\W (i+1) m' σ' H')/\∀ x H',(zQ K a).yld i H x H'->g x σ H' fun σ2 H2=>tb { D with nx:=N,ct:=N,bk:=D.nx } σ2 H2):=by
 refine ⟨fun i m σ H=>m=xs.length - i/\i<=xs.length/\Pv i σ H,⟨xs.length,by simp,Ej _,h0⟩,?_⟩;rintro i m σ H ⟨rfl,hi,p⟩;have q:=hl i σ H hi p;by_cases hlt:i < xs.length
 ·refine .inr ⟨⟨xs,xs[i],q,by simp [hlt]⟩,Pv (i+1),fun σ' H' p'=>⟨xs.length - (i+1),zo,rfl,hlt,p'⟩,fun x H' y=>?_⟩;obtain ⟨e,y⟩:=y;subst e;exact hs i x σ _ (y xs q) p
 ·have e:i=xs.length:=by omega
  subst e;exact .inl ⟨⟨xs,q,DN _⟩,hd σ H p⟩
theorem o7 {g:TG} {tb:TS} {D:Ends} (Pv:Nat->St->Hp->Prop) (h0:Pv 0 σ H) (hl:∀ i σ H,i<=xs.length->Pv i σ H->SqT K H a xs)
  (hs:∀ i x σ H,xs[i]?=some x->Pv i σ H->g x σ H fun σ2 H2=>tb { D with nx:=Pv (i+1),ct:=Pv (i+1),bk:=D.nx } σ2 H2) (hd:∀ σ H,Pv xs.length σ H->D.nx σ H) :
  ∃ W:Nat->Nat->St->Hp->Prop,(∃ m,W 0 m σ H)/\∀ i m σ H,W i m σ H->
   ((zR K a).stop i H/\D.nx σ H)\/((zR K a).go i H/\∃ N:St->Hp->Prop,(∀ σ' H',N σ' H'->∃ m',m' < m/\W (i+1) m' σ' H')/\∀ x H',(zR K a).yld i H x H'->g x σ H' fun σ2 H2=>tb { D with nx:=N,ct:=N,bk:=D.nx } σ2 H2):=by
 refine ⟨fun i m σ H=>m=xs.length - i/\i<=xs.length/\Pv i σ H,⟨xs.length,by simp,Ej _,h0⟩,?_⟩;rintro i m σ H ⟨rfl,hi,p⟩;have q:=hl i σ H hi p;by_cases hlt:i < xs.length
 ·refine .inr ⟨⟨xs,xs[i],q,by simp [hlt]⟩,Pv (i+1),fun σ' H' p'=>⟨xs.length - (i+1),zo,rfl,hlt,p'⟩,fun x H' y=>?_⟩;obtain ⟨e,y⟩:=y;subst e;exact hs i x σ _ (y xs q) p
 ·have e:i=xs.length:=by omega
  subst e;exact .inl ⟨⟨xs,q,DN _⟩,hd σ H p⟩
theorem jO {lo:Int} {n:Nat} {g:TG} {tb:TS} {D:Ends} (Pv:Nat->St->Hp->Prop) (h0:Pv 0 σ H)
  (hs:∀ i σ H,i < n->Pv i σ H->g (.int (lo+i)) σ H fun σ2 H2=>tb { D with nx:=Pv (i+1),ct:=Pv (i+1),bk:=D.nx } σ2 H2) (hd:∀ σ H,Pv n σ H->D.nx σ H) :
  ∃ W:Nat->Nat->St->Hp->Prop,(∃ m,W 0 m σ H)/\∀ i m σ H,W i m σ H->
   ((yh lo n).stop i H/\D.nx σ H)\/((yh lo n).go i H/\∃ N:St->Hp->Prop,(∀ σ' H',N σ' H'->∃ m',m' < m/\W (i+1) m' σ' H')/\∀ x H',(yh lo n).yld i H x H'->g x σ H' fun σ2 H2=>tb { D with nx:=N,ct:=N,bk:=D.nx } σ2 H2):=by
 refine ⟨fun i m σ H=>m=n - i/\i<=n/\Pv i σ H,⟨n,by simp,Ej _,h0⟩,?_⟩;rintro i m σ H ⟨rfl,hi,p⟩;by_cases hlt:i < n
 ·refine .inr ⟨hlt,Pv (i+1),fun σ' H' p'=>⟨n - (i+1),zo,rfl,hlt,p'⟩,fun x H' y=>?_⟩;obtain ⟨e,y⟩:=y;subst e y;exact hs i σ _ hlt p
 ·have e:i=n:=by omega
  subst e;exact .inl ⟨DN _,hd σ H p⟩
abbrev R2:=V->V->Hp->VK->Prop
def dE (X:Cx) (f:Value->Value->Sem Value) (r:R2):Prop:=
 ∀ (pins:List (Addr×Obj)) (s:Shared) (σ:St) (H:Hp) (x y:V) (v u:Value) (Q:VK),Inv X pins σ H s->RelV x v->RelV y u->r x y H Q->
  wpAny (model X.prog X.w) X.A (f v u) (EP X pins σ Q) X.xe s
def Cf (X:Cx) (f:Value->Sem Value) (r:V->Hp->VK->Prop):Prop:=
 ∀ (pins:List (Addr×Obj)) (s:Shared) (σ:St) (H:Hp) (x:V) (v:Value) (Q:VK),Inv X pins σ H s->RelV x v->r x H Q->
  wpAny (model X.prog X.w) X.A (f v) (EP X pins σ Q) X.xe s
def c8 (X:Cx) (f:Value) (r:List V->Hp->VK->Prop):Prop:=
 ∀ (pins:List (Addr×Obj)) (s:Shared) (σ:St) (H:Hp) (xs:List V) (us:List Value) (Q:VK),Inv X pins σ H s->Vals xs us->r xs H Q->
  wpAny (model X.prog X.w) X.A (call f us) (EP X pins σ Q) X.xe s
def Al (r:R2) (ta tb:TE):TE:=fun σ H Q=>ta σ H fun x H1=>tb σ H1 fun y H2=>r x y H2 Q
def Dr (r:V->Hp->VK->Prop) (ta:TE):TE:=fun σ H Q=>ta σ H fun x H1=>r x H1 Q
inductive rI (C:Int->Int->Prop) (g:Int->Int->V) (x:V) (y:V) (H:Hp) (Q:VK):Prop
 | mk (i j:_):x=.int i->y=.int j->C i j->Q (g i j) H->rI C g x y H Q
inductive vo (g:Int->Int->V) (x:V) (y:V) (H:Hp) (Q:VK):Prop
 | mk (i j:_):x=.int i->y=.int j->Q (g i j) H->vo g x y H Q
inductive rU (g:Int->V) (x:V) (H:Hp) (Q:VK):Prop
 | mk (i:_):x=.int i->Q (g i) H->rU g x H Q
section
variable {X:Cx} {a b c:Expr} {ta tb tc:TE} {pos:Pos}
theorem yi (ha:PE X a ta) (hb:PE X b tb) {R:V->V->Hp->Prop} (I:Inv X pins σ H s)
  (h:ta σ H fun x H1=>tb σ H1 fun y H2=>R x y H2) {Q:Value->Shared->Prop} {f:Value->Value->Sem Value}
  (hf:∀ v u s2 x y H2,Inv X pins σ H2 s2->RelV x v->RelV y u->R x y H2->wpAny (model X.prog X.w) X.A (f v u) Q X.xe s2) :
  wpAny (model X.prog X.w) X.A (eval a X.env) (fun v s₁=>wpAny (model X.prog X.w) X.A (eval b X.env) (fun u s₂=>wpAny (model X.prog X.w) X.A (f v u) Q X.xe s₂) X.xe s₁) X.xe s:=by
 refine bC (ha pins s σ H _ I h) fun v s1 ⟨x,H1,I1,r1,q1⟩=>?_;refine bC (hb pins s1 σ H1 _ I1 q1) fun u s2 ⟨y,H2,I2,r2,q2⟩=>?_;exact hf v u s2 x y H2 I2 r1 r2 q2
theorem aG {op:Operator} {r:R2} (ho:dE X (binaryOp op) r) (ha:PE X a ta) (hb:PE X b tb):PE X (.BinOp a op b pos) (Al r ta tb):=by
 refine ⟨?_⟩;intro pins s σ H Q I h;exact wpAny_BinOp (yi ha hb I h fun v u s2 x y H2 I2 rx ry q=>ho pins s2 σ H2 x y v u Q I2 rx ry q)
theorem eo {op:UnaryOp} {r:V->Hp->VK->Prop} (ho:Cf X (unaryOp op) r) (ha:PE X a ta):PE X (.UnaryOp op a pos) (Dr r ta):=by
 refine ⟨?_⟩;intro pins s σ H Q I h;exact UnaryOp_ (bC (ha pins s σ H _ I h) fun v s1 ⟨x,H1,I1,r1,q1⟩=>ho pins s1 σ H1 x v Q I1 r1 q1)
theorem zS {f:Value->Value->Sem Value} {C:Int->Int->Prop} {g:Int->Int->Int}
  (rule:∀ (i j:Int) (t u:Tok) (s:Shared) (Q:Value->Shared->Prop) (E:Value->Shared->Prop),C i j->Q (.int (g i j) s.toks) { s with toks:=s.toks+1 }->wpAny (model X.prog X.w) X.A (f (.int i t) (.int j u)) Q E s) :
  dE X f (rI C fun i j=>.int (g i j)):=by
 intro pins s σ H x y v u Q I rx ry h;obtain ⟨i,j,rfl,rfl,hc,q⟩:=h;obtain ⟨t,rfl⟩:=rx;obtain ⟨t',rfl⟩:=ry;exact rule i j t t' s _ _ hc ⟨.int (g i j),H,I.tok _,⟨_,rfl⟩,q⟩
theorem Am {f:Value->Value->Sem Value} {g:Int->Int->Int}
  (rule:∀ (i j:Int) (t u:Tok) (s:Shared) (Q:Value->Shared->Prop) (E:Value->Shared->Prop),Q (.int (g i j) s.toks) { s with toks:=s.toks+1 }->wpAny (model X.prog X.w) X.A (f (.int i t) (.int j u)) Q E s) :
  dE X f (vo fun i j=>.int (g i j)):=by
 intro pins s σ H x y v u Q I rx ry h;obtain ⟨i,j,rfl,rfl,q⟩:=h;obtain ⟨t,rfl⟩:=rx;obtain ⟨t',rfl⟩:=ry;exact rule i j t t' s _ _ ⟨.int (g i j),H,I.tok _,⟨_,rfl⟩,q⟩
theorem vq {f:Value->Value->Sem Value} {g:Int->Int->Bool}
  (rule:∀ (i j:Int) (t u:Tok) (s:Shared) (Q:Value->Shared->Prop) (E:Value->Shared->Prop),Q (.bool (g i j)) s->wpAny (model X.prog X.w) X.A (f (.int i t) (.int j u)) Q E s) :
  dE X f (vo fun i j=>.bl (g i j)):=by
 intro pins s σ H x y v u Q I rx ry h;obtain ⟨i,j,rfl,rfl,q⟩:=h;obtain ⟨t,rfl⟩:=rx;obtain ⟨t',rfl⟩:=ry;exact rule i j t t' s _ _ ⟨.bl (g i j),H,I,rfl,q⟩
def Cg (i j:Int):Prop:=0 < j/\j < 1073741824
def An (i j:Int):Prop:=0<=j/\j<=1000000/\i.natAbs < 2 ^ 64
def CMul (i j:Int):Prop:=(-(2 ^ 64) < i/\i < 2 ^ 64)\/(-(2 ^ 64) < j/\j < 2 ^ 64)
theorem CMul.ok {i j:Int} (h:CMul i j):IntMulOk i j:=by
 rcases h with ⟨h1,h2⟩|⟨h1,h2⟩
 ·exact .of_left (intBits_le_64 h1 h2)
 ·exact .of_right (intBits_le_64 h1 h2)
theorem bO:dE X (binaryOp .Add) (vo fun i j=>.int (i+j)):=Am fun _ _ _ _ _ _ _ q=>add_int q
theorem iZ:dE X (binaryOp .Sub) (vo fun i j=>.int (i - j)):=Am fun _ _ _ _ _ _ _ q=>sub_int q
theorem fg:dE X (binaryOp .Mult) (rI CMul fun i j=>.int (i*j)):=zS fun _ _ _ _ _ _ _ hc q=>mul_int q hc.ok
theorem o8:dE X (binaryOp .FloorDiv) (rI Cg fun i j=>.int (i / j)):=zS fun i j _ _ _ _ _ hc q=>by
 have h1:(0:Int) < j:=hc.1;have h2:j < 1073741824:=hc.2;exact floordiv_int zo (by rw [Int.fdiv_eq_ediv_of_nonneg i zo];exact q) (.inl (PyProof.noPylong_small zo))
theorem dS:dE X (binaryOp .Mod) (rI (fun _ j=>0 < j) fun i j=>.int (i % j)):=zS fun i j _ _ _ _ _ hc q=>by
 have h1:(0:Int) < j:=hc;exact mod_int' zo (by rw [Int.fmod_eq_emod_of_nonneg i zo];exact q)
theorem nO:dE X (binaryOp .Pow) (rI An fun i j=>.int (i ^ j.toNat)):=zS fun _ _ _ _ _ _ _ hc q=>pow_int_small hc.1 hc.2.1 hc.2.2 q
theorem rJ:dE X (binaryOp .LShift) (rI An fun i j=>.int (i*2 ^ j.toNat)):=zS fun _ _ _ _ _ _ _ hc q=>lshift_int_small hc.1 hc.2.1 hc.2.2 q
theorem Ds {f:Value->Sem Value} {g:Int->Int}
  (rule:∀ (i:Int) (t:Tok) (s:Shared) (Q:Value->Shared->Prop) (E:Value->Shared->Prop),Q (.int (g i) s.toks) { s with toks:=s.toks+1 }->wpAny (model X.prog X.w) X.A (f (.int i t)) Q E s) :
  Cf X f (rU fun i=>.int (g i)):=by
 intro pins s σ H x v Q I rx h;obtain ⟨i,rfl,q⟩:=h;obtain ⟨t,rfl⟩:=rx;exact rule i t s _ _ ⟨.int (g i),H,I.tok _,⟨_,rfl⟩,q⟩
theorem cN:Cf X (unaryOp .USub) (rU fun i=>.int (-i)):=Ds fun _ _ _ _ _ q=>neg_int q
end
def yj:V->V->Bool
 | .non,.non=>true|.non,.int _=>true|.int _,.non=>true|.non,.bl _=>true|.bl _,.non=>true|.non,.str _=>true|.str _,.non=>true
 | .int _,.int _=>true|.bl _,.bl _=>true|.str _,.str _=>true|.byt _,.byt _=>true
 | .int _,.str _=>true|.str _,.int _=>true|.bl _,.str _=>true|.str _,.bl _=>true
 | _,_=>false
def Du:R2:=fun x y H Q=>yj x y=true/\Q (.bl (decide (x=y))) H
def Dv:R2:=fun x y H Q=>yj x y=true/\Q (.bl (!decide (x=y))) H
theorem fG {i j:Int}:decide (V.int i=V.int j)=(i == j):=by
 rw [EF];simp
theorem rK {i j:Bool}:decide (V.bl i=V.bl j)=(i == j):=by
 rw [EF];simp
theorem o9 {i j:Str}:decide (V.str i=V.str j)=(i == j):=by
 rw [EF];simp
theorem pc {i j:Array UInt8}:decide (V.byt i=V.byt j)=(i.toList == j.toList):=by
 rw [EF];cases i;cases j;simp
section
variable {X:Cx} {a b c:Expr} {ta tb tc:TE} {pos:Pos}
theorem bA {Q:VK} {k k':Bool} (I:Inv X pins σ H s) (q:Q (.bl k) H) (e:k=k'):EP X pins σ Q (.bool k') s:=by
 subst e;exact ⟨.bl k,H,I,rfl,q⟩
theorem cB:dE X (compareOp .Eq) Du:=by
 intro pins s σ H x y v u Q I rx ry h;obtain ⟨hs,q⟩:=h;cases x with
 | non=>
  cases rx;cases y with
  | non=>cases ry;exact PySem.EqNone.eq_none_none (bA I q (by simp))
  | bl j=>cases ry;exact PySem.EqNone.eq_none_bool (bA I q (by simp))
  | int j=>obtain ⟨t',rfl⟩:=ry;exact PySem.EqNone.eq_none_int (bA I q (by simp))
  | str j=>obtain ⟨t',rfl⟩:=ry;exact PySem.EqNone.eq_none_str (bA I q (by simp))
  | _=>exact absurd (show false=true from hs) D1
 | bl i=>
  cases rx;cases y with
  | non=>cases ry;exact PySem.EqNone.eq_bool_none (bA I q (by simp))
  | bl j=>cases ry;exact eq_bool (bA I q rK)
  | str j=>obtain ⟨t',rfl⟩:=ry;exact PySem.EqMixed.eq_bool_str (bA I q (by simp))
  | _=>exact absurd (show false=true from hs) D1
 | int i=>
  obtain ⟨t,rfl⟩:=rx;cases y with
  | non=>cases ry;exact PySem.EqNone.eq_int_none (bA I q (by simp))
  | int j=>obtain ⟨t',rfl⟩:=ry;exact eq_int (bA I q fG)
  | str j=>obtain ⟨t',rfl⟩:=ry;exact PySem.EqMixed.eq_int_str (bA I q (by simp))
  | _=>exact absurd (show false=true from hs) D1
 | str i=>
  obtain ⟨t,rfl⟩:=rx;cases y with
  | non=>cases ry;exact PySem.EqNone.eq_str_none (bA I q (by simp))
  | bl j=>cases ry;exact PySem.EqMixed.eq_str_bool (bA I q (by simp))
  | int j=>obtain ⟨t',rfl⟩:=ry;exact PySem.EqMixed.eq_str_int (bA I q (by simp))
  | str j=>obtain ⟨t',rfl⟩:=ry;exact eq_str (bA I q o9)
  | _=>exact absurd (show false=true from hs) D1
 | byt i=>
  obtain ⟨t,rfl⟩:=rx;cases y with
  | byt j=>obtain ⟨t',rfl⟩:=ry;exact PySem.W.eq_bytes (bA I q pc)
  | _=>exact absurd (show false=true from hs) D1
 | _=>cases y<;>exact absurd (show false=true from hs) D1
theorem jP:dE X (compareOp .NotEq) Dv:=by
 intro pins s σ H x y v u Q I rx ry h;obtain ⟨hs,q⟩:=h;cases x with
 | non=>
  cases rx;cases y with
  | non=>cases ry;exact PySem.EqNone.ne_none_none (bA I q (by simp))
  | bl j=>cases ry;exact PySem.EqNone.ne_none_bool (bA I q (by simp))
  | int j=>obtain ⟨t',rfl⟩:=ry;exact PySem.EqNone.ne_none_int (bA I q (by simp))
  | str j=>obtain ⟨t',rfl⟩:=ry;exact PySem.EqNone.ne_none_str (bA I q (by simp))
  | _=>exact absurd (show false=true from hs) D1
 | bl i=>
  cases rx;cases y with
  | non=>cases ry;exact PySem.EqNone.ne_bool_none (bA I q (by simp))
  | bl j=>cases ry;exact ne_bool (bA I q (congrArg not rK))
  | str j=>obtain ⟨t',rfl⟩:=ry;exact PySem.EqMixed.ne_bool_str (bA I q (by simp))
  | _=>exact absurd (show false=true from hs) D1
 | int i=>
  obtain ⟨t,rfl⟩:=rx;cases y with
  | non=>cases ry;exact PySem.EqNone.ne_int_none (bA I q (by simp))
  | int j=>obtain ⟨t',rfl⟩:=ry;exact ne_int (bA I q (congrArg not fG))
  | str j=>obtain ⟨t',rfl⟩:=ry;exact PySem.EqMixed.ne_int_str (bA I q (by simp))
  | _=>exact absurd (show false=true from hs) D1
 | str i=>
  obtain ⟨t,rfl⟩:=rx;cases y with
  | non=>cases ry;exact PySem.EqNone.ne_str_none (bA I q (by simp))
  | bl j=>cases ry;exact PySem.EqMixed.ne_str_bool (bA I q (by simp))
  | int j=>obtain ⟨t',rfl⟩:=ry;exact PySem.EqMixed.ne_str_int (bA I q (by simp))
  | str j=>obtain ⟨t',rfl⟩:=ry;exact ne_str (bA I q (congrArg not o9))
  | _=>exact absurd (show false=true from hs) D1
 | byt i=>
  obtain ⟨t,rfl⟩:=rx;cases y with
  | byt j=>obtain ⟨t',rfl⟩:=ry;exact PySem.W.ne_bytes (bA I q (congrArg not pc))
  | _=>exact absurd (show false=true from hs) D1
 | _=>cases y<;>exact absurd (show false=true from hs) D1
theorem dG:dE X (compareOp .Lt) (vo fun i j=>.bl (decide (i < j))):=vq fun _ _ _ _ _ _ _ q=>lt_int q
theorem gJ:dE X (compareOp .LtE) (vo fun i j=>.bl (decide (i<=j))):=vq fun _ _ _ _ _ _ _ q=>le_int q
theorem jQ:dE X (compareOp .Gt) (vo fun i j=>.bl (decide (j < i))):=vq fun _ _ _ _ _ _ _ q=>gt_int q
theorem Ao:dE X (compareOp .GtE) (vo fun i j=>.bl (decide (j<=i))):=vq fun _ _ _ _ _ _ _ q=>ge_int q
theorem fH:dE X (compareOp .In) (fun x y H Q=>∃ i j,x=.str i/\y=.str j/\Q (.bl (!(Builtin.Str.occurrences j i 0 j.length 1).isEmpty)) H):=by
 intro pins s σ H x y v u Q I rx ry h;obtain ⟨i,j,rfl,rfl,q⟩:=h;obtain ⟨t,rfl⟩:=rx;obtain ⟨t',rfl⟩:=ry;exact in_str (bA I q rfl)
theorem ph:dE X (compareOp .IsNot) (fun x y H Q=>y=.non/\Q (.bl (!decide (x=.non))) H):=by
 intro pins s σ H x y v u Q I rx ry h;obtain ⟨rfl,q⟩:=h;cases ry;refine isnot_none_gen (bA I q ?_);cases x<;>first
  | (cases rx;rfl)
  | (obtain ⟨t,rfl⟩:=rx;rfl)
theorem kA:dE X (compareOp .NotIn) (fun x y H Q=>∃ i j,x=.str i/\y=.str j/\Q (.bl (!(!(Builtin.Str.occurrences j i 0 j.length 1).isEmpty))) H):=by
 intro pins s σ H x y v u Q I rx ry h;obtain ⟨i,j,rfl,rfl,q⟩:=h;obtain ⟨t,rfl⟩:=rx;obtain ⟨t',rfl⟩:=ry;exact notIn_str (bA I q rfl)
variable {op:CmpOp}
theorem nQ (b:Expr) (h:op≠.In:=by decide) (h2:op≠.NotIn:=by decide):behindInMarks op b=false:=by
 have e1:(op == CmpOp.In)=false:=by cases op<;>first|rfl|exact absurd rfl h
 have e2:(op == CmpOp.NotIn)=false:=by cases op<;>first|rfl|exact absurd rfl h2
 cases b<;>simp [behindInMarks,e1,e2]
variable {r:R2}
theorem cH (ho:dE X (compareOp op) r) (ha:PE X a ta) (hb:PE X b tb) (hm:behindInMarks op b=false:=by first|exact nQ _|rfl):PE X (.Compare a [op] [b] pos) (Al r ta tb):=by
 refine ⟨?_⟩;intro pins s σ H Q I h;exact wpAny_Compare1 (yi ha hb I h fun v u s2 x y H2 I2 rx ry q=>ho pins s2 σ H2 x y v u Q I2 rx ry q) hm
inductive rL (Q:Bool->Hp->Prop) (x:V) (H':Hp):Prop
 | mk (k:_):x=.bl k->Q k H'->rL Q x H'
def rM (t:TE):TT:=fun σ H Q=>t σ H fun x H'=>rL Q x H'
theorem ar (ho:dE X (compareOp op) r) (ha:PE X a ta) (hb:PE X b tb) (hm:behindInMarks op b=false:=by first|exact nQ _|rfl):PT X (.Compare a [op] [b] pos) (rM (Al r ta tb)):=by
 refine ⟨?_⟩;intro pins s σ H Q I h;refine wpAny_isTrue_Compare1 (bC (ha pins s σ H _ I h) fun v s1 ⟨x,H1,I1,r1,q1⟩=>bC (hb pins s1 σ H1 _ I1 q1) fun u s2 ⟨y,H2,I2,r2,q2⟩=>
  bC (ho pins s2 σ H2 x y v u _ I2 r1 r2 q2) fun c s3 ⟨z,H3,I3,r3,k,e,q3⟩=>?_) hm
 subst e;cases r3;exact wpAny_truthy_bool ⟨H3,I3,q3⟩
inductive pi (r':R2) (tc:TE) (σ:St) (Q:VK) (y:V) (z:V) (H3:Hp):Prop
 | mk (k:_):z=.bl k->(if k=true then tc σ H3 fun w' H4=>r' y w' H4 Q else Q (.bl false) H3)->pi r' tc σ Q y z H3
def rN (r r':R2) (ta tb tc:TE):TE:=fun σ H Q=>ta σ H fun x H1=>tb σ H1 fun y H2=>r x y H2 fun z H3=>pi r' tc σ Q y z H3
theorem i0 {op op':CmpOp} {r r':R2} (ho:dE X (compareOp op) r) (ho':dE X (compareOp op') r') (ha:PE X a ta) (hb:PE X b tb) (hc:PE X c tc)
  (hm:lastMarks [op,op'] [b,c]=false:=by with_unfolding_all rfl):PE X (.Compare a [op,op'] [b,c] pos) (rN r r' ta tb tc):=by
 refine ⟨?_⟩;intro pins s σ H Q I h;refine Compare_chain (bC (ha pins s σ H _ I h) fun v s1 ⟨x,H1,I1,r1,q1⟩=>chain_link (bC (hb pins s1 σ H1 _ I1 q1) fun u s2 ⟨y,H2,I2,r2,q2⟩=>
  bC (ho pins s2 σ H2 x y v u _ I2 r1 r2 q2) fun d s3 ⟨z,H3,I3,r3,k,e,q3⟩=>?_)) hm
 subst e;cases r3;refine wpAny_truthy_bool ?_;cases k with
 | false=>exact ite_ff ⟨.bl false,H3,I3,rfl,q3⟩
 | true=>exact ite_tt (chain_last (bC (hc pins s3 σ H3 _ I3 q3) fun w' s4 ⟨z',H4,I4,r4,q4⟩=>ho' pins s4 σ H4 y z' u w' Q I4 r2 r4 q4))
theorem lZ {op op':CmpOp} {r r':R2} (ho:dE X (compareOp op) r) (ho':dE X (compareOp op') r') (ha:PE X a ta) (hb:PE X b tb) (hc:PE X c tc)
  (hm:lastMarks [op,op'] [b,c]=false:=by with_unfolding_all rfl):PT X (.Compare a [op,op'] [b,c] pos) (rM (rN r r' ta tb tc)):=by
 refine ⟨?_⟩;intro pins s σ H Q I h;refine isTrue_chain (bC (ha pins s σ H _ I h) fun v s1 ⟨x,H1,I1,r1,q1⟩=>test_link (bC (hb pins s1 σ H1 _ I1 q1) fun u s2 ⟨y,H2,I2,r2,q2⟩=>
  bC (ho pins s2 σ H2 x y v u _ I2 r1 r2 q2) fun d s3 ⟨z,H3,I3,r3,k,e,q3⟩=>?_)) hm
 subst e;cases r3;refine wpAny_truthy_bool ?_;cases k with
 | false=>
  obtain ⟨k',e',q'⟩:=q3;cases e';exact ite_ff ⟨H3,I3,q'⟩
 | true=>
  refine ite_tt (test_last (bC (hc pins s3 σ H3 _ I3 q3) fun w' s4 ⟨z',H4,I4,r4,q4⟩=>bC (ho' pins s4 σ H4 y z' u w' _ I4 r2 r4 q4) fun d' s5 ⟨z2,H5,I5,r5,k2,e2,q5⟩=>?_));subst e2;cases r5;exact wpAny_truthy_bool ⟨H5,I5,q5⟩
theorem hI:(sizeLine:Nat) < 2 ^ 63:=by rw [sizeLine_eq];decide
theorem cD:dE X (binaryOp .Add) (fun x y H Q=>∃ i j,x=.str i/\y=.str j/\i.length+j.length<=sizeLine/\Q (.str (i++j)) H):=by
 intro pins s σ H x y v u Q I rx ry h;obtain ⟨i,j,rfl,rfl,hz,q⟩:=h;obtain ⟨t,rfl⟩:=rx;obtain ⟨t',rfl⟩:=ry;exact add_str (fun t' tk=>⟨.str (i++j),H,I.tok _,⟨_,rfl⟩,q⟩) hz
theorem gh (r:Vals [x] us):∃ u,us=[u]/\RelV x u:=by
 cases r with
 | cons r1 r2=>cases r2;exact ⟨_,rfl,r1⟩
theorem rO (r:Vals [x,y] us):∃ u w',us=[u,w']/\RelV x u/\RelV y w':=by
 cases r with
 | cons r1 r2=>
  cases r2 with
  | cons r3 r4=>cases r4;exact ⟨_,_,rfl,r1,r3⟩
theorem jR (hc:X.calm=true):c8 X (.builtin "max") (fun xs H Q=>∃ i j,xs=[.int i,.int j]/\Q (.int (if j > i then j else i)) H):=by
 intro pins s σ H xs us Q I r h;obtain ⟨i,j,rfl,q⟩:=h;obtain ⟨u,w',rfl,⟨t,rfl⟩,⟨t',rfl⟩⟩:=rO r;refine max_two_ints (I.ok.hd hc) fun h' tk k=>⟨_,H,I.kept k,?_,q⟩;by_cases hj:j > i
 ·rw [if_pos hj,if_pos hj];exact ⟨_,rfl⟩
 ·rw [if_neg hj,if_neg hj];exact ⟨_,rfl⟩
theorem qu (hc:X.calm=true):c8 X (.builtin "min") (fun xs H Q=>∃ i j,xs=[.int i,.int j]/\Q (.int (if j < i then j else i)) H):=by
 intro pins s σ H xs us Q I r h;obtain ⟨i,j,rfl,q⟩:=h;obtain ⟨u,w',rfl,⟨t,rfl⟩,⟨t',rfl⟩⟩:=rO r;refine min_two_ints (I.ok.hd hc) fun h' tk k=>⟨_,H,I.kept k,?_,q⟩;by_cases hj:j < i
 ·rw [if_pos hj,if_pos hj];exact ⟨_,rfl⟩
 ·rw [if_neg hj,if_neg hj];exact ⟨_,rfl⟩
theorem fJ:c8 X (.type "int") (fun xs H Q=>(∃ i,xs=[.int i]/\Q (.int i) H)\/∃ k,xs=[.bl k]/\Q (.int (if k then 1 else 0)) H):=by
 intro pins s σ H xs us Q I r h;rcases h with ⟨i,rfl,q⟩|⟨k,rfl,q⟩
 ·obtain ⟨u,rfl,t,rfl⟩:=gh r;exact call_int_int ⟨.int i,H,I,⟨_,rfl⟩,q⟩
 ·obtain ⟨u,rfl,r1⟩:=gh r;cases r1;exact call_int_bool ⟨.int (if k then 1 else 0),H,I.tok _,⟨_,rfl⟩,q⟩
theorem eI:c8 X (.type "str") (fun xs H Q=>∃ i,xs=[.int i]/\i.natAbs.log2 < 1920/\Q (.str (toString i)) H):=by
 intro pins s σ H xs us Q I r h;obtain ⟨i,rfl,hz,q⟩:=h;obtain ⟨u,rfl,t,rfl⟩:=gh r;exact PySem.P.str_of_int hz ⟨.str _,H,I.tok _,⟨_,rfl⟩,q⟩
end
structure ObjM (h:Heap) (x dx C:Addr) (mA:Str->Option Value):Prop where
 obj:h.get? x=some (PySem.W.instObj C dx)
 ns:h.Ns1 dx mA
 ne:dx≠x
variable {mA:Str->Option Value} {dx:Addr}
theorem hJ (n:h.Ns1 dx mA):∃ od,h.get? dx=some od/\∀ name,PySem.W.lookIn name od=some (mA name):=by
 obtain ⟨o,es,ep,ho,hd,hk,_,hm⟩:=n;refine ⟨o,ho,fun name=>?_⟩;have e:=hm name;unfold nsFind findBy at e;rw [<-Array.find?_toList] at e;unfold PySem.W.lookIn;rw [hd];dsimp only;split
 ·rename_i y q;rw [q] at e;exact congrArg some e
 ·rename_i q;rw [q] at e;have a:es.toList.any (·.refKey)=false:=by
   rw [List.any_eq_false];intro y hy;obtain ⟨z,t,hkey⟩:=hk y (Array.mem_toList_iff.mp hy);simp [DictEntry.refKey,hkey]
  have a':¬ es.toList.any (·.refKey)=true:=by rw [a];exact D1
  rw [if_neg a'];exact congrArg some e
theorem ObjM.look {x dx C:Addr} (I:ObjM h x dx C mA):∃ od,PySem.W.InstAt h x (PySem.W.instObj C dx) C (some od)/\∀ name,PySem.W.lookIn name od=some (mA name):=
 let ⟨od,ho,hl⟩:=hJ I.ns
 ⟨od,⟨I.obj,rfl,rfl,ho⟩,hl⟩
section
variable {prog:Program} {w:World} {A:Around} {E:Value->Shared->Prop} {s:Shared} {K:ZF} {x dx C f:Addr} {mA:Str->Option Value} {name:Str} {v:Value}
theorem vt {expr:Bool} {Q:Value->Shared->Prop} (X:K.In s.heap) (I:ObjM s.heap x dx C mA) (hg:PySem.W.plainGet K C name=true) (hh:PySem.W.hasDictIn K C=true)
  (ha:PySem.W.findIn K (.ref C) name=some none) (hv:mA name=some v) (hv':PySem.W.handedIn v=true) (h:Q v { s with toks:=s.toks+1 }) :
  wpAny (model prog w) A (getAttr (.ref x) name expr) Q E s:=by
 obtain ⟨od,J,hl⟩:=I.look;exact PySem.W.get_value X J (PySem.W.plainGet_of hg).1 (PySem.W.findObj_own hh ha rfl (by rw [hl,hv])) hv' h
theorem rP {pl:Sem Bool} {Q:Value×List Value->Shared->Prop} (X:K.In s.heap) (I:ObjM s.heap x dx C mA) (hg:PySem.W.plainGet K C name=true)
  (hf:PySem.W.findIn K (.ref C) name=some (some (.ref f))) (ht:PySem.W.isFn K (.ref f)=true) (hv:mA name=none) (h:Q (.ref f,[.ref x]) s) :
  wpAny (model prog w) A (getMethod (.ref x) name pl) Q E s:=by
 obtain ⟨od,J,hl⟩:=I.look;exact PySem.W.method_fn X J (PySem.W.plainGet_of hg).1 (PySem.W.plainGet_of hg).2 hf (beq_iff_eq.mp ht) (by show (PySem.W.lookIn name od).map (·.isSome)=some false;rw [hl,hv];rfl) h
theorem vx {ns:List Str} {Q:Unit->Shared->Prop} (X:K.In s.heap) (I:ObjM s.heap x dx C mA)
  (hs:PySem.W.findIn K (.ref C) "__setattr__"=some (some (.builtin "object.__setattr__"))) (hp:PySem.W.plainOver K C=true) (ht:PySem.W.takerIn K C name=some none) (hh:PySem.W.hasDictIn K C=true)
  (hw:PySem.Within mA ns) (hsz:ns.length<=sizeLine)
  (h:∀ h',ObjM h' x dx C (fun y=>if y=name then some v else mA y)->Heap.SameBut dx s.heap h'->Q () { s with heap:=h',toks:=s.toks+2 }) :
  wpAny (model prog w) A (setAttr (.ref x) name v) Q E s:=by
 obtain ⟨od,J,hl⟩:=I.look;refine PySem.W.set_plain X J hs (PySem.W.osa_open (s:={ s with toks:=s.toks+1 }) (r:=none) X J hp ht fun b=>?_);obtain ⟨cd,hc,hd'⟩:=PySem.W.any_some hh;have hx:s.heap.get? x=some ⟨.ref C,some dx,.plain,#[]⟩:=I.obj;refine wpAny_bind (wpAny_pure (wpAny_bind (wpAny_bind (wpAny_loadPart hx (wpAny_bind (PySem.W.Looks.here (s:={ s with toks:=s.toks+1 }) (PySem.W.looks_clsIn X hc) ?_))))));rw [hd'];refine wpAny_pure (a:=some dx) (wpAny_bind (wpAny_pure (wpAny_bind ?_)));refine wpAny_nsSet1 (s:={ s with toks:=s.toks+1 }) I.ns fun h' hn2 hs2=>?_;obtain ⟨oD,esD,epD,hoD,hdD,hcD⟩:=hn2.count (PySem.Within.cons name v hw);refine wpAny_bind (wpAny_lookBehind hoD (by rw [hdD];exact pastItsLine_dict (Ef hcD (by rw [DQ];omega))) ?_);exact wpAny_pure (h _ ⟨(hs2.2 _ (Ne.symm I.ne)).trans I.obj,hn2,I.ne⟩ hs2)
theorem rQ {R:Result->Shared->Prop} {vs:List Value} {kw:List (Str×Value)} (X:K.In s.heap) (hm:PySem.W.makesIn K C=true)
  (hi:PySem.W.findIn K (.ref C) "__init__"=some (some (.ref f))) (hf:PySem.W.typeIn K (.ref f)=some (.type "function"))
  (h:codeAny (model prog w) (A.under (.builtin "type.__call__" ⟨.ref C::vs,kw⟩)) (.call (.ref f) ⟨.ref (s.heap.objs.size+1)::vs,kw⟩) (PySem.W.InitBack (s.heap.objs.size+1) R)
   { s with heap:=(s.heap.push PySem.W.emptyDict).push (PySem.W.instObj C s.heap.objs.size) }) :
  codeAny (model prog w) A (.call (.ref C) ⟨vs,kw⟩) R s:=by
 obtain ⟨hh,g,d,t,os⟩:=s;exact PySem.W.make_core (PySem.W.makes_of X hm) (PySem.W.looks_findIn X hi) (fun self=>PySem.W.bind_fn X self hf) (.inl rfl) h
end
def aH (f:Str) (v:V):List (Str×V)->List (Str×V)
 | []=>[(f,v)]
 | (g,x)::r=>if g=f then (g,v)::r else (g,x)::aH f v r
theorem fh (f g:Str) (v:V):∀ fs:List (Str×V),(aH f v fs).lookup g=if g=f then some v else fs.lookup g
 | []=>by
  show List.lookup g [(f,v)]=_;by_cases h:g=f
  ·have hb:(g == f)=true:=beq_iff_eq.mpr h;simp only [List.lookup,hb,if_pos h]
  ·have hb:(g == f)=false:=beq_eq_false_iff_ne.mpr h;simp only [List.lookup,hb,if_neg h]
 | (k,x)::r=>by
  have ih:=fh f g v r;rw [show aH f v ((k,x)::r)=(if k=f then (k,v)::r else (k,x)::aH f v r) from rfl];by_cases hk:k=f
  ·rw [if_pos hk];by_cases h:g=k
   ·have hb:(g == k)=true:=beq_iff_eq.mpr h;simp only [List.lookup,hb,if_pos (h.trans hk)]
   ·have hb:(g == k)=false:=beq_eq_false_iff_ne.mpr h;simp only [List.lookup,hb,if_neg (fun e:g=f=>h (e.trans hk.symm))]
  ·rw [if_neg hk];by_cases h:g=k
   ·have hb:(g == k)=true:=beq_iff_eq.mpr h;simp only [List.lookup,hb,if_neg (fun e:g=f=>hk (h.symm.trans e))]
   ·have hb:(g == k)=false:=beq_eq_false_iff_ne.mpr h;simp only [List.lookup,hb];exact ih
theorem eA (f:Str) (v:V):∀ fs:List (Str×V),f∈(aH f v fs).map (·.1)/\∀ g,g∈fs.map (·.1)->g∈(aH f v fs).map (·.1)
 | []=>⟨by simp [aH],fun g h=>by simp at h⟩
 | (k,x)::r=>by
  obtain ⟨i1,i2⟩:=eA f v r;rw [show aH f v ((k,x)::r)=(if k=f then (k,v)::r else (k,x)::aH f v r) from rfl];by_cases hk:k=f
  ·rw [if_pos hk];subst hk;exact ⟨by simp,fun g h=>by simpa using h⟩
  ·rw [if_neg hk];refine ⟨?_,fun g h=>?_⟩
   ·rw [D6];exact DR _ i1
   ·rw [D6] at h ⊢;rcases DY.mp h with e|e
    ·exact DY.mpr (.inl e)
    ·exact DR _ (i2 g e)
theorem fj (f:Str) (v:V):∀ fs:List (Str×V),(aH f v fs).length<=fs.length+1
 | []=>by simp [aH]
 | (k,x)::r=>by
  have ih:=fj f v r;rw [show aH f v ((k,x)::r)=(if k=f then (k,v)::r else (k,x)::aH f v r) from rfl];by_cases hk:k=f
  ·rw [if_pos hk,DQ,DQ];omega
  ·rw [if_neg hk,DQ,DQ];omega
variable {v:V}
theorem RelO.some_of {o:Option Value} (r:RelO (some v) o):∃ u,o=some u/\RelV v u:=by
 cases o with
 | none=>exact (show False from r).elim
 | some u=>exact ⟨u,rfl,r⟩
theorem RelO.none_of {o:Option Value} (r:RelO none o):o=none:=by
 cases o with
 | none=>rfl
 | some u=>exact (show False from r).elim
theorem jS (r:RelV v u):PySem.W.handedIn u=true:=by
 cases v with
 | non=>cases (show u=Value.none from r);rfl
 | bl b=>cases (show u=Value.bool b from r);rfl
 | int i=>obtain ⟨t,e⟩:=(show ∃ t,u=Value.int i t from r);cases e;rfl
 | str x=>obtain ⟨t,e⟩:=(show ∃ t,u=Value.str x t from r);cases e;rfl
 | byt b=>obtain ⟨t,e⟩:=(show ∃ t,u=Value.bytes b t from r);cases e;rfl
 | flt b=>obtain ⟨t,e⟩:=(show ∃ t,u=Value.float b t from r);cases e;rfl
 | ref a=>cases (show u=Value.ref a from r);rfl
 | ty n=>cases (show u=Value.type n from r);rfl
section
variable {P:Program} {w:World} {H H':Hp} {h h':Heap} {a C dx:Addr} {fs fs':List (Str×V)}
theorem iH (hok:HOk P w H h) (e:H a=some (.ins C dx fs)):∃ mA,ObjM h a dx C mA/\(∀ f,RelO (fs.lookup f) (mA f))/\PySem.Within mA (fs.map (·.1))/\fs.length<=1000/\H dx=some (.own a):=by
 obtain ⟨d,z,ne,ob,mA,n,r,q⟩:=(show ObjOk P w H h a (.ins C dx fs) from hok a _ e);exact ⟨mA,⟨ob,n,ne⟩,r,q,z,d⟩
end
structure Cls (K:ZF) (C:Addr):Prop where
 pg:PySem.W.plainGet K C Str.empty=true
 hd:PySem.W.hasDictIn K C=true
 po:PySem.W.plainOver K C=true
 sa:PySem.W.findIn K (.ref C) "__setattr__"=some (some (.builtin "object.__setattr__"))
variable {C:Addr}
theorem Cls.get (c:Cls K C) (f:Str):PySem.W.plainGet K C f=true:=c.pg
def NoAttr (K:ZF) (C:Addr) (f:Str):Prop:=PySem.W.findIn K (.ref C) f=some none
variable {f:Str}
theorem NoAttr.taker (n:NoAttr K C f):PySem.W.takerIn K C f=some none:=by
 unfold PySem.W.takerIn;rw [show PySem.W.findIn K (.ref C) f=some none from n];rfl
structure rR (K:ZF) (C:Addr) (m:Str) (f:Addr):Prop where
 at_:PySem.W.findIn K (.ref C) m=some (some (.ref f))
 fn:PySem.W.isFn K (.ref f)=true
 kp:PySem.W.keepIn K (.ref f)=true
section
variable {X:Cx} {pins:List (Addr×Obj)} {σ:St} {H:Hp} {s:Shared} {a C dx:Addr} {fs:List (Str×V)} {f:Str} {v:V} {A:Around} {E:Value->Shared->Prop}
theorem i3 {b:Bool} {Q:Value->Shared->Prop} (I:Inv X pins σ H s) (e:H a=some (.ins C dx fs)) (c:Cls X.K C) (n:NoAttr X.K C f) (l:fs.lookup f=some v)
  (h:∀ u s',Inv X pins σ H s'->RelV v u->Q u s'):wpAny (model X.prog X.w) A (getAttr (.ref a) f b) Q E s:=by
 obtain ⟨mA,O,r,_,_,_⟩:=iH I.hok e;obtain ⟨u,hu,ru⟩:=RelO.some_of (v:=v) (o:=mA f) (by rw [<-l];exact r f);exact vt I.kIn O (c.get f) c.hd n hu (jS ru) (h u _ (I.tok _) ru)
theorem gu {m:Str} {g:Addr} {pl:Sem Bool} {Q:Value×List Value->Shared->Prop} (I:Inv X pins σ H s) (e:H a=some (.ins C dx fs)) (c:Cls X.K C) (k:rR X.K C m g) (l:fs.lookup m=none)
  (h:Q (.ref g,[.ref a]) s):wpAny (model X.prog X.w) A (getMethod (.ref a) m pl) Q E s:=by
 obtain ⟨mA,O,r,_,_,_⟩:=iH I.hok e;have hn:mA m=none:=RelO.none_of (by rw [<-l];exact r m);exact rP I.kIn O (c.get m) k.at_ k.fn hn h
theorem i4 {Q:Unit->Shared->Prop} (I:Inv X pins σ H s) (e:H a=some (.ins C dx fs)) (c:Cls X.K C) (n:NoAttr X.K C f) (hl:fs.length < 1000) (ry:RelV y u)
  (h:∀ s',Inv X pins σ (aq H a (.ins C dx (aH f y fs))) s'->Q () s'):wpAny (model X.prog X.w) A (setAttr (.ref a) f u) Q E s:=by
 obtain ⟨mA,O,r,wi,_,ho⟩:=iH I.hok e;have hz:(fs.map (·.1)).length<=sizeLine:=by rw [DI,sizeLine_eq];omega
 refine vx I.kIn O c.sa c.po n.taker c.hd wi hz fun h' O' sb=>h _ ?_;have hd:∃ o,h'.get? dx=some o:=let ⟨o,_,_,e',_⟩:=O'.ns;⟨o,e'⟩;refine I.write (x:=a) (e:=dx) (by rw [e];exact True.intro) (.inr ho) (fun b q hb z=>(sb.2 b hb).trans z) hd ?_;refine ⟨by rw [ao O.ne];exact ho,?_,O.ne,O'.obj,_,O'.ns,fun g=>?_,fun g hg=>?_⟩
 ·have:=fj f y fs;omega
 ·show RelO ((aH f y fs).lookup g) (if g=f then some u else mA g);rw [fh];by_cases q:g=f
  ·rw [if_pos q,if_pos q];exact ry
  ·rw [if_neg q,if_neg q];exact r g
 ·by_cases q:g=f
  ·rw [q];exact (eA f y fs).1
  ·refine (eA f y fs).2 g (wi g fun z=>hg ?_);show (if g=f then some u else mA g)=none;rw [if_neg q];exact z
theorem Inv.made (I:Inv X pins σ H s):Inv X pins σ (aq (aq H s.heap.objs.size (.own (s.heap.objs.size+1))) (s.heap.objs.size+1) (.ins C s.heap.objs.size []))
  { s with heap:=(s.heap.push PySem.W.emptyDict).push (PySem.W.instObj C s.heap.objs.size) }:=by
 have e1:(s.heap.push PySem.W.emptyDict).get? s.heap.objs.size=some PySem.W.emptyDict:=D8 s.heap rfl;have e2:((s.heap.push PySem.W.emptyDict).push (PySem.W.instObj C s.heap.objs.size)).get? (s.heap.objs.size+1)=some (PySem.W.instObj C s.heap.objs.size):=by
  have:=D8 (s.heap.push PySem.W.emptyDict) (o:=PySem.W.instObj C s.heap.objs.size) rfl
  rwa [EK] at this
 have e3:(s.heap.push PySem.W.emptyDict).Ns s.heap.objs.size (fun _=>none):=⟨PySem.W.emptyDict,#[],_,e1,rfl,(fun e he=>absurd he (by simp)),fun _=>rfl⟩;have I1:=I.laid (a:=s.heap.objs.size) (o:=.own (s.heap.objs.size+1)) (h':=s.heap.push PySem.W.emptyDict) (t':=s.toks) (fun b u q=>DJ _ q) (DN _) ⟨_,e1⟩;refine I1.laid (a:=s.heap.objs.size+1) (o:=.ins C s.heap.objs.size []) (t':=s.toks) (fun b u q=>DJ _ q) (Nat.le_of_eq (EK _ _)) ?_;have ne:s.heap.objs.size≠s.heap.objs.size+1:=Eg (E2 _);refine ⟨by rw [ao ne,ae],Ej _,ne,e2,fun _=>none,(Heap.Ns1.of_empty e3).at fun o q=>DJ _ q,fun _=>True.intro,fun y hy=>absurd rfl hy⟩
theorem pj {prog:Program} {w:World} {env:Env} {pos:Pos} {s:Shared} {Q:Value->Shared->Prop} (hb:attributeBase e f env (eval e env)=eval e env)
  (h:wpAny (model prog w) A (eval e env) (fun o s₁=>wpAny (model prog w) A (getAttr o f true) Q E s₁) E s):wpAny (model prog w) A (eval (.Attribute e f pos) env) Q E s:=
 Attribute_any_ h (by rw [arm_eval_Attribute,hb])
end
inductive xk (K:ZF) (f:Str) (Q:VK) (x:V) (H1:Hp):Prop
 | mk (a C dx fs v:_):x=.ref a->H1 a=some (.ins C dx fs)->Cls K C->NoAttr K C f->fs.lookup f=some v->Q v H1->xk K f Q x H1
def Ch (K:ZF) (ta:TE) (f:Str):TE:=fun σ H Q=>ta σ H fun x H1=>xk K f Q x H1
inductive xn (K:ZF) (f:Str) (D:Ends) (σ:St) (y:V) (x:V) (H2:Hp):Prop
 | mk (a C dx fs:_):x=.ref a->H2 a=some (.ins C dx fs)->Cls K C->NoAttr K C f->fs.length < 1000->D.nx σ (aq H2 a (.ins C dx (aH f y fs)))->xn K f D σ y x H2
def Ci (K:ZF) (ta tv:TE) (f:Str):TS:=fun D σ H=>tv σ H fun y H1=>ta σ H1 fun x H2=>xn K f D σ y x H2
def Ap (X:Cx) (op:Operator) (rd:V->V->Hp->VK->Prop):Prop:=
 ∀ (pins:List (Addr×Obj)) (s:Shared) (σ:St) (H:Hp) (x y:V) (u v:Value) (Q:VK),Inv X pins σ H s->RelV x u->RelV y v->rd x y H Q->wpAny (model X.prog X.w) X.A (inplaceOp op u v) (EP X pins σ Q) X.xe s
inductive ma (K:ZF) (tv:TE) (rd:V->V->Hp->VK->Prop) (f:Str) (D:Ends) (σ:St) (x:V) (H1:Hp):Prop
 | mk (a C dx fs v:_):x=.ref a->H1 a=some (.ins C dx fs)->Cls K C->NoAttr K C f->fs.lookup f=some v->(tv σ H1 fun y H2=>rd v y H2 fun z H3=>∃ dx' fs',H3 a=some (.ins C dx' fs')/\fs'.length < 1000/\D.nx σ (aq H3 a (.ins C dx' (aH f z fs'))))->ma K tv rd f D σ x H1
def vy (K:ZF) (ta tv:TE) (rd:V->V->Hp->VK->Prop) (f:Str):TS:=fun D σ H=>ta σ H fun x H1=>ma K tv rd f D σ x H1
section
variable {X:Cx} {o e value:Expr} {f:Str} {pos pos' tpos:Pos} {ta tv:TE}
theorem bL (he:PE X e ta) (hb:attributeBase e f X.env (eval e X.env)=eval e X.env):PE X (.Attribute e f pos) (Ch X.K ta f):=by
 refine ⟨?_⟩;intro pins s σ H Q I h;refine pj hb (bC (he pins s σ H _ I h) fun u s1 ⟨x,H1,I1,rx,a,C,dx,fs,v,ex,ea,c,n,l,q⟩=>?_);subst ex;obtain rfl:u=Value.ref a:=rx;exact i3 I1 ea c n l fun u' s2 I2 ru=>⟨v,H1,I2,ru,q⟩
theorem cO (ha:PE X o ta) (hv:PE X value tv) (hs:swapsWith value (some (.Attribute o f pos')) pos.line X.env=pure false):PS X (.Assign [.Attribute o f pos'] value pos) (Ci X.K ta tv f):=by
 refine ⟨?_⟩;intro pins s σ H D I h;refine plainObj_wpAny_Assign_Attribute (bC (hv pins s σ H _ I h) fun u s1 ⟨y,H1,I1,ry,q⟩=>bC (ha pins s1 σ H1 _ I1 q) fun ov s2 ⟨x,H2,I2,rx,a,C,dx,fs,ex,ea,c,n,l,q2⟩=>?_) hs;subst ex;obtain rfl:ov=Value.ref a:=rx;exact i4 I2 ea c n l ry fun s3 I3=>⟨σ,_,I3,q2⟩
theorem jT {op:Operator} {rd:V->V->Hp->VK->Prop} (ha:PE X o ta) (hv:PE X value tv) (hop:Ap X op rd):PS X (.AugAssign (.Attribute o f tpos) op value pos) (vy X.K ta tv rd f):=by
 refine ⟨?_⟩;intro pins s σ H D I h;refine wpAny_AugAssign_AttributeAny (bC (ha pins s σ H _ I h) fun ov s1 ⟨x,H1,I1,rx,a,C,dx,fs,v,ex,ea,c,n,l,q⟩=>?_);subst ex;obtain rfl:ov=Value.ref a:=rx;refine i3 I1 ea c n l fun u s2 I2 ru=>bC (hv pins s2 σ H1 _ I2 q) fun w3 s3 ⟨y,H2,I3,ry,q3⟩=>bC (hop pins s3 σ H2 v y u w3 _ I3 ru ry q3) fun w4 s4 ⟨z,H3,I4,rz,dx',fs',ea',l',q4⟩=>?_;exact i4 I4 ea' c n l' rz fun s5 I5=>⟨σ,_,I5,q4⟩
inductive Aq (x:V) (y:V) (H:Hp) (Q:VK):Prop
 | mk (i j:_):x=.int i->y=.int j->Q (.int (i+j)) H->Aq x y H Q
theorem rS:Ap X .Add Aq:=by
 rintro pins s σ H x y u v Q I rx ry ⟨i,j,rfl,rfl,q⟩;obtain ⟨t,rfl⟩:=(show ∃ t,u=Value.int i t from rx);obtain ⟨t',rfl⟩:=(show ∃ t',v=Value.int j t' from ry);exact PyProof.Rows.iadd_int ⟨.int (i+j),H,I.tok _,⟨_,rfl⟩,q⟩
end
section
variable {X:Cx} {pins:List (Addr×Obj)} {σ:St} {H:Hp} {s:Shared} {A:Around} {E:Value->Shared->Prop} {Q:Value->Shared->Prop} {c:Value} {b:Bool}
inductive gK (K:ZF) (H:Hp):V->Value->Prop where
 | non:gK K H .non (.type "NoneType")
 | bl (x:Bool):gK K H (.bl x) (.type "bool")
 | int (i:Int):gK K H (.int i) (.type "int")
 | str (x:Str):gK K H (.str x) (.type "str")
 | flt (x:UInt64):gK K H (.flt x) (.type "float")
 | lst {a:Addr} {xs:List V} (e:H a=some (.lst xs)):gK K H (.ref a) (.type "list")
 | frz {a:Addr} {o:Obj} {xs:List V} (e:H a=some (.frz o (.lst xs))):gK K H (.ref a) (.type "list")
 | tup {a:Addr} {xs:List V} (e:H a=some (.tup xs)):gK K H (.ref a) (.type "tuple")
 | dK {a:Addr} {kvs:List (bT×V)} (e:H a=some (.dK kvs)):gK K H (.ref a) (.type "dict")
 | dT {a:Addr} {kvs:List (List bT×V)} (e:H a=some (.dT kvs)):gK K H (.ref a) (.type "dict")
 | ins {a C dx:Addr} {fs:List (Str×V)} (e:H a=some (.ins C dx fs)) (cl:Cls K C) (ha:PySem.W.findIn K (.ref C) "__class__"=some (some (.builtin "object.__class__")))
   (hn:PySem.W.specialIn K (.builtin "object.__class__") "__get__"=some (some (.builtin "getset_descriptor.__get__"))) (htk:PySem.W.takesIn K (.builtin "object.__class__")=some true)
   (hm:PySem.W.mroIn K C (.type "object")=some true):gK K H (.ref a) (.ref C)
theorem qv {u t:Value} (I:Inv X pins σ H s) (rx:RelV x u) (ty:gK X.K H x t) (e:PySem.W.kitOne X.K t c=some b) (h:∀ tk,Q (.bool b) { s with toks:=tk }) :
  wpAny (model X.prog X.w) A (call (.builtin "isinstance") [u,c]) Q E s:=by
 cases ty with
 | non=>cases (show u=Value.none from rx);exact EC PySem.W.kitx_none I.kIn True.intro e (fun z=>nomatch z) h
 | bl y=>cases (show u=Value.bool y from rx);exact EC PySem.W.kitx_bool I.kIn True.intro e (fun z=>nomatch z) h
 | int i=>obtain ⟨t,q⟩:=(show ∃ t,u=Value.int i t from rx);cases q;exact EC PySem.W.kitx_int I.kIn True.intro e (fun z=>nomatch z) h
 | str y=>obtain ⟨t,q⟩:=(show ∃ t,u=Value.str y t from rx);cases q;exact EC PySem.W.kitx_str I.kIn True.intro e (fun z=>nomatch z) h
 | flt y=>obtain ⟨t,q⟩:=(show ∃ t,u=Value.float y t from rx);cases q;exact EC PySem.W.kitx_float I.kIn True.intro e (fun z=>nomatch z) h
 | @lst a xs ea=>
  cases (show u=Value.ref a from rx);obtain ⟨_,_,n,_,h1⟩:=(show ObjOk X.prog X.w H s.heap a (.lst xs) from I.hok a _ ea);exact EC PySem.W.kitx_list I.kIn ⟨_,h1,rfl⟩ e (fun z=>nomatch z) h
 | @frz a ob xs ea=>
  cases (show u=Value.ref a from rx);obtain ⟨_,_,_,n,_,h1⟩:=(show ObjOk X.prog X.w H s.heap a (.frz ob (.lst xs)) from I.hok a _ ea);exact EC PySem.W.kitx_list I.kIn ⟨_,h1,rfl⟩ e (fun z=>nomatch z) h
 | @tup a xs ea=>
  cases (show u=Value.ref a from rx);obtain ⟨_,_,_,p⟩:=(show ObjOk X.prog X.w H s.heap a (.tup xs) from I.hok a _ ea);obtain ⟨o,h1,h2,_⟩:=p;exact EC PySem.W.kitx_tuple I.kIn ⟨o,h1,(Fj h2).1⟩ e (fun z=>nomatch z) h
 | @dK a kvs ea=>
  cases (show u=Value.ref a from rx);obtain ⟨_,_,vs,_,p⟩:=(show ObjOk X.prog X.w H s.heap a (.dK kvs) from I.hok a _ ea);obtain ⟨o,es,ep,h1,h2,_⟩:=p;exact EC PySem.W.kitx_dict I.kIn ⟨o,h1,h2.1⟩ e (fun z=>nomatch z) h
 | @dT a kvs ea=>
  cases (show u=Value.ref a from rx);obtain ⟨_,_,xs,_,o,es,ep,h1,h2,_⟩:=(show ObjOk X.prog X.w H s.heap a (.dT kvs) from I.hok a _ ea);exact EC PySem.W.kitx_dict I.kIn ⟨o,h1,h2.1⟩ e (fun z=>nomatch z) h
 | @ins a C dx fs ea cl ha hn htk hm=>
  cases (show u=Value.ref a from rx);obtain ⟨mA,O,_⟩:=iH I.hok ea;obtain ⟨od,J,_⟩:=O.look;exact EC (PySem.W.kitx_own (cl.get _) cl.hd ha hn htk hm) I.kIn J e (fun z=>nomatch z) h
end
structure Room (k:Nat) (A:Around):Prop where
 hd:A.handled=none
 dp:A.depth+3*k+5 < recursionLimit
 un:A.units+16*k+200 < cLine
theorem Room.mono {j k:Nat} (r:Room k A) (h:j<=k):Room j A:=⟨r.hd,by have:=r.dp;omega,by have:=r.un;omega⟩
theorem Room.m {j k:Nat} (r:Room k A) (h:j<=k:=by decide):Room j A:=r.mono h
theorem Room.deeper {k:Nat} (r:Room (k+1) A) (env:Env):Room k (A.deeper env):=
 ⟨r.hd,by have:=r.dp;show A.depth+1+3*k+5 < _;omega,by have:=r.un;show A.units+3+16*k+200 < _;omega⟩
variable {kw:List (Str×Value)}
theorem nR:(A.under (.builtin "type.__call__" ⟨.ref C::us,kw⟩)).depth=A.depth+1:=by
 first|rfl|simp [Around.under,Code.weight,Code.isCreation,Code.isGuard,Code.isCaller,Code.frames,Code.isFrame,guardIds]
theorem nS:(A.under (.builtin "type.__call__" ⟨.ref C::us,kw⟩)).units=A.units+1:=by
 first|rfl|simp [Around.under,Code.cUnits,Code.frames,Code.isFrame]
theorem Room.make {k:Nat} (r:Room (k+1) A) (C:Addr) (us:List Value) (kw:List (Str×Value)):Room k (A.under (.builtin "type.__call__" ⟨.ref C::us,kw⟩)):=
 ⟨r.hd,by have:=r.dp;rw [nR];omega,by have:=r.un;rw [nS];omega⟩
theorem Room.depth {k:Nat} (r:Room k A):A.depth < recursionLimit:=by have:=r.dp;omega
theorem Room.units {k:Nat} (r:Room k A):A.units+64 < cLine:=by have:=r.un;omega
def yk:TA:=fun _ H Q=>Q [] H
def md (ta:TE) (tr:TA):TA:=fun σ H Q=>ta σ H fun x H1=>tr σ H1 fun xs H2=>Q (x::xs) H2
section
variable {X:Cx} {e:Expr} {es:List Expr} {te:TE} {t:TA} {pos:Pos}
theorem ad:PA X [] yk:=⟨fun _ _ _ _ H Q I h=>Calls.spliced_nil ⟨[],H,I,.nil,h⟩⟩
theorem ac (ha:PE X e te) (hr:PA X es t) (hs:starEach (e::es) X.env=(false,eval e X.env)::starEach es X.env:=by rfl):PA X (e::es) (md te t):=by
 refine ⟨?_⟩;intro pos pins s σ H Q I h;rw [hs];show wpAny _ _ (spliced ((false,eval e X.env)::backTo pos (starEach es X.env))) _ _ s;refine EM (bC (ha pins s σ H _ I h) fun u s1 ⟨x,H1,I1,r1,q1⟩=>?_);exact bC (hr pos pins s1 σ H1 _ I1 q1) fun us s2 ⟨xs,H2,I2,r2,q2⟩=>⟨x::xs,H2,I2,.cons r1 r2,q2⟩
def Cj (t:TA):TE:=fun σ H Q=>t σ H fun xs H1=>xs.length<=sizeLine/\∀ p,H1 p=none->Q (.ref p) (aq H1 p (.tup xs))
def Ar (t:TA):TE:=fun σ H Q=>t σ H fun xs H1=>xs.length<=sizeLine/\∀ p,H1 p=none->Q (.ref p) (aq H1 p (.lst xs))
theorem aN {x1} (h:PA X es t):PE X (.Tuple es x1 pos) (Cj t):=by
 refine ⟨?_⟩;intro pins s σ H Q I hq;refine wpAny_Tuple_spliced (bC (h pos pins s σ H _ I hq) fun us s1 ⟨xs,H1,I1,r,z,q⟩=>⟨by rw [<-r.length];exact z,?_⟩);have hf:H1 s1.heap.objs.size=none:=I1.hok.fresh (DN _);refine ⟨.ref s1.heap.objs.size,aq H1 s1.heap.objs.size (.tup xs),I1.laid (t':=s1.toks) (fun b u e=>DJ _ e) (DN _) ?_,rfl,q _ hf⟩;exact ⟨z,us,r,⟨_,D8 _ rfl,rfl,_,rfl⟩⟩
theorem aP (h:PA X es t):PE X (.List es pos) (Ar t):=by
 refine ⟨?_⟩;intro pins s σ H Q I hq;refine wpAny_List_spliced (bC (h pos pins s σ H _ I hq) fun us s1 ⟨xs,H1,I1,r,z,q⟩=>⟨by rw [<-r.length];exact z,?_⟩);have hf:H1 s1.heap.objs.size=none:=I1.hok.fresh (DN _);refine ⟨.ref s1.heap.objs.size,aq H1 s1.heap.objs.size (.lst xs),I1.laid (t':=s1.toks) (fun b u e=>DJ _ e) (DN _) ?_,rfl,q _ hf⟩;exact ⟨z,us,0,r,D8 _ rfl⟩
end
abbrev Sp:=List V->Hp->VK->XK->Prop
abbrev nA:=List Env->Hp->Shared->XK->Value->Shared->Prop
structure Env0 (P:Program) (w:World) (K:ZF) (mg:Str->Option Value) (base:Heap) (A:Around) (outer:List Env) (s:Shared) (H:Hp):Prop where
 frames:A.frames=some outer
 mod:Mod K mg base
 bs:∀ b o,base.get? b=some o->s.heap.get? b=some o/\H b=none
 bsz:base.objs.size<=s.heap.objs.size
 funs:s.heap.FunFrames base outer
 frf:∀ b∈ky outer,H b=none
 hok:HOk P w H s.heap
 bare:AllBare s.gens
inductive CE (outer:List Env) (P:Program) (w:World) (H:Hp) (s:Shared) (Q:VK) (u:Value) (s':Shared):Prop
 | mk (v H':_):s'.os=s.os->AllBare s'.gens->Un (ky outer) [] H H' s.heap s'.heap->HOk P w H' s'.heap->RelV v u->Q v H'->CE outer P w H s Q u s'
def CR (CX:nA) (outer:List Env) (P:Program) (w:World) (H:Hp) (s:Shared) (Q:VK) (E:XK) (r:Result) (s':Shared):Prop:=
 match r with
 | .ok (.ret u)=>CE outer P w H s Q u s'
 | .ok _=>False
 | .error e=>CX outer H s E e s'
structure FnOk (P:Program) (w:World) (K:ZF) (mg:Str->Option Value) (base:Heap) (CX:nA) (k:Nat) (f:Addr) (fd:FuncData) (ps:List Str) (sp:Sp):Prop where
 len:∀ vs H Q E,sp vs H Q E->vs.length=ps.length
 run:∀ (A:Around) (outer:List Env) (s:Shared) (H:Hp) (args:Args) (us:List Value) (vs:List V) (Q:VK) (E:XK),Room k A->Env0 P w K mg base A outer s H->BindsTo s fd args (ps.zip us)->Vals vs us->sp vs H Q E->
  codeAny (model P w) A (.call (.ref f) args) (CR CX outer P w H s Q E) s
variable {outer:List Env} {base:Heap} {mg:Str->Option Value}
theorem Env0.make {w:World} (e:Env0 P w K mg base A outer s H) (C:Addr) (us:List Value) (kw:List (Str×Value)) :
  Env0 P w K mg base (A.under (.builtin "type.__call__" ⟨.ref C::us,kw⟩)) outer s H:=⟨by first|exact e.frames|(simpa [Around.under,Code.envs,Code.isFrame,pushEnvs] using e.frames),e.mod,e.bs,e.bsz,e.funs,e.frf,e.hok,e.bare⟩
section
variable {X:Cx} {pins:List (Addr×Obj)} {σ:St} {H:Hp} {s s':Shared}
theorem Inv.env0 (I:Inv X pins σ H s):Env0 X.prog X.w X.K X.mg X.base X.A X.stack s H:=
 ⟨I.ok.frames,I.ok.mod,I.bs,Ef I.ok.bsz I.sz,I.stack,I.stkFree,I.hok,I.bare⟩
theorem Inv.after {Q:VK} (I:Inv X pins σ H s) (h:CE X.stack X.prog X.w H s Q u s'):EP X pins σ Q u s':=by
 obtain ⟨v,H',os,bare,un,hok,r,q⟩:=h;obtain ⟨hh,g,d,t,os'⟩:=s';obtain rfl:os'=s.os:=os;exact ⟨v,H',I.call (h':=hh) (g':=g) (d':=d) (t':=t) (ch:=[]) un hok bare (fun b z=>absurd z (by simp)),r,q⟩
end
def rT (sp:Sp) (dvs:List V) (E:XK) (t:TA):TE:=fun σ H Q=>t σ H fun vs H1=>sp (vs++dvs) H1 Q E
inductive rV (C:Addr) (m:Str) (sp:Sp) (dvs:List V) (E:XK) (t:TA) (σ:St) (Q:VK) (x:V) (H1:Hp):Prop
 | mk (a dx fs:_):x=.ref a->H1 a=some (.ins C dx fs)->fs.lookup m=none->(t σ H1 fun vs H2=>sp (x::(vs++dvs)) H2 Q E)->rV C m sp dvs E t σ Q x H1
def Au (C:Addr) (m:Str) (sp:Sp) (dvs:List V) (E:XK) (ta:TE) (t:TA):TE:=fun σ H Q=>ta σ H fun x H1=>rV C m sp dvs E t σ Q x H1
def Av (C:Addr) (sp:Sp) (dvs:List V) (E:XK) (t:TA):TE:=fun σ H Q=>t σ H fun vs H1=>∀ x dx,H1 x=none->H1 dx=none->dx≠x->
 sp (.ref x::(vs++dvs)) (aq (aq H1 dx (.own x)) x (.ins C dx [])) (fun v H2=>v=.non/\Q (.ref x) H2) E
def Binds (K:ZF) (fd:FuncData) (ps:List Str) (ds:List Value):Prop:=
 ∀ (s:Shared) (us:List Value),K.In s.heap->(us++ds).length=ps.length->BindsTo s fd ⟨us,[]⟩ (ps.zip (us++ds))
variable {ps:List Str}
theorem Binds.all {fd:FuncData} (h:∀ us:List Value,us.length=ps.length->bindArgs fd ⟨us,[]⟩=pure (ps.zip us)):Binds K fd ps []:=fun s us _ hl=>by
 rw [El] at hl ⊢;exact .of_eq (h us hl)
def dU (CX:nA) (X:Cx) (E:XK):Prop:=∀ (pins:List (Addr×Obj)) (σ:St) (H:Hp) (s:Shared) (e:Value) (s':Shared),Inv X pins σ H s->CX X.stack H s E e s'->X.xe e s'
section
variable {X:Cx} {CX:nA} {k:Nat} {f C:Addr} {fd:FuncData} {ps:List Str} {sp:Sp} {dvs:List V} {ds:List Value} {E:XK} {x m:Str} {p pos apos:Pos} {e o:Expr} {es:List Expr} {ta:TE} {t:TA}
theorem hV {pins:List (Addr×Obj)} {σ:St} {H:Hp} {s:Shared} {Q:VK} {us:List Value} {vs:List V} (F:FnOk X.prog X.w X.K X.mg X.base CX k f fd ps sp) (hr:Room k X.A) (hb:Binds X.K fd ps ds) (hd:Vals dvs ds) (hx:dU CX X E)
  (I:Inv X pins σ H s) (r:Vals vs us) (h:sp (vs++dvs) H Q E):wpAny (model X.prog X.w) X.A (call (.ref f) us) (EP X pins σ Q) X.xe s:=by
 have r2:Vals (vs++dvs) (us++ds):=r.append hd;have hl:(us++ds).length=ps.length:=by rw [<-r2.length];exact F.len _ _ _ _ h
 refine wpAny_call (codeAny_mono (F.run X.A X.stack s H ⟨us,[]⟩ (us++ds) (vs++dvs) Q E hr I.env0 (hb s us I.kIn hl) r2 h) fun r s' hq=>?_);cases r with
 | error e=>exact hx pins σ H s e s' I hq
 | ok fl=>
  cases fl with
  | ret u=>exact I.after hq
  | next=>exact False.elim hq
  | brk=>exact False.elim hq
  | cont=>exact False.elim hq
theorem pz (F:FnOk X.prog X.w X.K X.mg X.base CX k f fd ps sp) (hr:Room k X.A) (hg:Gl X x) (hm:X.mg x=some (.ref f)) (hk:PySem.W.keepIn X.K (.ref f)=true) (hb:Binds X.K fd ps ds) (hd:Vals dvs ds) (hx:dU CX X E)
  (ha:PA X (e::es) t) (hdb:(x == ("__debug__":Str))=false:=by decide) (he:starEach (e::es) X.env=(false,eval e X.env)::starEach es X.env:=by rfl) (hpl:(backTo pos (starEach es X.env)).any (·.1)=false:=by rfl) :
  PE X (.Call (.Name x p) (e::es) [] pos) (rT sp dvs E t):=by
 refine ⟨?_⟩;intro pins s σ H Q I h;refine wpAny_Call_Name_kw (dF I hg hm ?_ hdb);refine EB (h₀:=X.base) I.ok.mod.kin hk (bC (ha pos pins s σ H _ I h) fun us s1 ⟨vs,H1,I1,r,q⟩=>⟨I1.kIn,?_⟩) he hpl;exact hV F hr hb hd hx I1 r q
theorem vz {pl:Sem Bool} (he:PE X o ta) (c:Cls X.K C) (hm:rR X.K C m f) (F:FnOk X.prog X.w X.K X.mg X.base CX k f fd ps sp) (hr:Room k X.A) (hb:Binds X.K fd ps ds) (hd:Vals dvs ds) (hx:dU CX X E) (ha:PA X (e::es) t)
  (hst:starEach (e::es) X.env=(false,eval e X.env)::starEach es X.env:=by rfl) (hpl:(backTo pos (starEach es X.env)).any (·.1)=false:=by rfl)
  (ht:eval (.Call (.Attribute o m apos) (e::es) [] pos) X.env=(do
   let ov <-eval o X.env
   standAt apos.atName
   let (f,first) <-holding [ov] (getMethod ov m pl)
   callWith pos f first (backTo pos (starEach (e::es) X.env)) (backToKw pos (keywordEach [] X.env))):=by rfl) :
  PE X (.Call (.Attribute o m apos) (e::es) [] pos) (Au C m sp dvs E ta t):=by
 refine ⟨?_⟩;intro pins s σ H Q I h;refine PySem.W.methodCall_KW (pl:=pl) (bC (he pins s σ H _ I h) fun u s1 ⟨x,H1,I1,rx,a,dx,fs,ex,ea,l,q⟩=>?_) ht;subst ex;obtain rfl:u=Value.ref a:=rx;refine gu I1 ea c hm l ?_;refine EB (first:=[.ref a]) (h₀:=X.base) I.ok.mod.kin hm.kp (bC (ha pos pins s1 σ H1 _ I1 q) fun us s2 ⟨vs,H2,I2,r,q2⟩=>⟨I2.kIn,?_⟩) hst hpl;exact hV (us:=.ref a::us) (vs:=.ref a::vs) F hr hb hd hx I2 (.cons rfl r) q2
structure Mk (K:ZF) (C f:Addr):Prop where
 makes:PySem.W.makesIn K C=true
 init:PySem.W.findIn K (.ref C) "__init__"=some (some (.ref f))
 fn:PySem.W.isFn K (.ref f)=true
 kp:PySem.W.keepIn K (.ref C)=true
theorem rW {pins:List (Addr×Obj)} {σ:St} {H:Hp} {s:Shared} {Q:VK} {us:List Value} {vs:List V} (M:Mk X.K C f) (F:FnOk X.prog X.w X.K X.mg X.base CX k f fd ps sp) (hr:Room (k+1) X.A) (hb:Binds X.K fd ps ds) (hd:Vals dvs ds)
  (hx:dU CX X E) (I:Inv X pins σ H s) (r:Vals vs us)
  (h:∀ x dx,H x=none->H dx=none->dx≠x->sp (.ref x::(vs++dvs)) (aq (aq H dx (.own x)) x (.ins C dx [])) (fun v H2=>v=.non/\Q (.ref x) H2) E) :
  wpAny (model X.prog X.w) X.A (call (.ref C) us) (EP X pins σ Q) X.xe s:=by
 have hq:=h (s.heap.objs.size+1) s.heap.objs.size (I.hok.fresh (E4 _)) (I.hok.fresh (DN _)) (Eg (E2 _));have I2:=Inv.made (C:=C) I;have r2:Vals (V.ref (s.heap.objs.size+1)::(vs++dvs)) (Value.ref (s.heap.objs.size+1)::(us++ds)):=.cons rfl (r.append hd);have hl:(Value.ref (s.heap.objs.size+1)::us++ds).length=ps.length:=by
  have e:=r2.length;rw [F.len _ _ _ _ hq] at e;exact e.symm
 refine wpAny_call (rQ (f:=f) I.kIn M.makes M.init (beq_iff_eq.mp M.fn) (codeAny_mono (F.run _ X.stack _ _ ⟨Value.ref (s.heap.objs.size+1)::us,[]⟩ (Value.ref (s.heap.objs.size+1)::(us++ds)) _ _ E (hr.make C us [])
  (I2.env0.make C us []) (hb _ (Value.ref (s.heap.objs.size+1)::us) I2.kIn hl) r2 hq) fun r s' hq'=>?_))
 cases r with
 | error e=>exact hx pins σ _ _ e s' I2 hq'
 | ok fl=>
  cases fl with
  | ret u=>
   obtain ⟨v,H',I3,rv,ev,q3⟩:=I2.after hq';subst ev;exact ⟨rv,⟨V.ref (s.heap.objs.size+1),H',I3,rfl,q3⟩⟩
  | next=>exact False.elim hq'
  | brk=>exact False.elim hq'
  | cont=>exact False.elim hq'
theorem kB (M:Mk X.K C f) (F:FnOk X.prog X.w X.K X.mg X.base CX k f fd ps sp) (hr:Room (k+1) X.A) (hg:Gl X x) (hm:X.mg x=some (.ref C)) (hb:Binds X.K fd ps ds) (hd:Vals dvs ds) (hx:dU CX X E)
  (ha:PA X (e::es) t) (hdb:(x == ("__debug__":Str))=false:=by decide) (he:starEach (e::es) X.env=(false,eval e X.env)::starEach es X.env:=by rfl) (hpl:(backTo pos (starEach es X.env)).any (·.1)=false:=by rfl) :
  PE X (.Call (.Name x p) (e::es) [] pos) (Av C sp dvs E t):=by
 refine ⟨?_⟩;intro pins s σ H Q I h;refine wpAny_Call_Name_kw (dF I hg hm ?_ hdb);refine EB (h₀:=X.base) I.ok.mod.kin M.kp (bC (ha pos pins s σ H _ I h) fun us s1 ⟨vs,H1,I1,r,q⟩=>⟨I1.kIn,?_⟩) he hpl;exact rW M F hr hb hd hx I1 r q
end
structure aw (N P:List Str) (sc:Scope):Prop where
 kind:sc.kind=.function
 co:sc.isCoroutine=false
 gen:sc.isGenerator=false
 nd:N.Nodup
 pre:N.take P.length=P
 par:∀ x∈P,sc.names.lookup x=some .local\/sc.names.lookup x=some .cell
 nofree:∀ y∈sc.names,y.2≠.free
variable {sc:Scope}
theorem cI {N P:List Str} (h:N.Nodup/\(∀ x∈P,sc.names.lookup x=some .local\/sc.names.lookup x=some .cell)/\∀ y∈sc.names,y.2≠.free) (a:sc.kind=.function:=by rfl) (b:sc.isCoroutine=false:=by rfl) (c:sc.isGenerator=false:=by rfl) (d:N.take P.length=P:=by rfl):aw N P sc:=⟨a,b,c,h.1,d,h.2.1,h.2.2⟩
variable {n:Nat}
variable {kindOf:Str->Option NameKind}
theorem jU {x:Str}:∀ {binds:List (Str×Value)} {m:Str->Option Value},(∀ v,(x,v)∉binds)->bindL kindOf binds m x=m x
 | [],_,_=>rfl
 | (n,v)::r,m,h=>by
  unfold bindL;rw [jU fun w hw=>h w (DR _ hw)];split
  ·have:x≠n:=by rintro rfl;exact h v DM
   simp [this]
  ·rfl
theorem jV {x:Str}:∀ {binds:List (Str×Value)} {m:Str->Option Value},(∀ v,(x,v)∉binds)->bindC kindOf binds m x=m x
 | [],_,_=>rfl
 | (n,v)::r,m,h=>by
  unfold bindC;rw [jV fun w hw=>h w (DR _ hw)];split
  ·rfl
  ·have:x≠n:=by rintro rfl;exact h v DM
   simp [this]
theorem jW {x:Str} {v:Value}:∀ {P:List Str} {vs:List Value} {i:Nat} {m:Str->Option Value},P.Nodup->P[i]?=some x->vs[i]?=some v->kindOf x=some .local->
  bindL kindOf (P.zip vs) m x=some v
 | [],_,_,_,_,h,_,_=>by simp at h
 | _::_,[],_,_,_,_,h,_=>by simp at h
 | p::P,w::vs,0,m,nd,h1,h2,hk=>by
  simp at h1 h2;subst h1;subst h2;show bindL kindOf ((p,w)::P.zip vs) m p=_;unfold bindL;rw [jU fun v hv=>(EL.mp nd).1 (E3 hv).1,if_pos hk];simp
 | p::P,w::vs,i+1,m,nd,h1,h2,hk=>by
  show bindL kindOf ((p,w)::P.zip vs) m x=_;unfold bindL;exact jW (i:=i) (EL.mp nd).2 (by simpa using h1) (by simpa using h2) hk
theorem jX {x:Str} {v:Value}:∀ {P:List Str} {vs:List Value} {i:Nat} {m:Str->Option Value},P.Nodup->P[i]?=some x->vs[i]?=some v->kindOf x≠some .local->
  bindC kindOf (P.zip vs) m x=some v
 | [],_,_,_,_,h,_,_=>by simp at h
 | _::_,[],_,_,_,_,h,_=>by simp at h
 | p::P,w::vs,0,m,nd,h1,h2,hk=>by
  simp at h1 h2;subst h1;subst h2;show bindC kindOf ((p,w)::P.zip vs) m p=_;unfold bindC;rw [jV fun v hv=>(EL.mp nd).1 (E3 hv).1,if_neg hk];simp
 | p::P,w::vs,i+1,m,nd,h1,h2,hk=>by
  show bindC kindOf ((p,w)::P.zip vs) m x=_;unfold bindC;exact jX (i:=i) (EL.mp nd).2 (by simpa using h1) (by simpa using h2) hk
def start (N:List Str) (vs:List V):St:=vs.map some++List.replicate (N.length - vs.length) none
def iC (CX:nA) (P:Program) (w:World) (K:ZF) (mg:Str->Option Value) (base:Heap) (N:List Str) (qual:Str) (scope:Scope) (f:Addr) (cd:Value) (A:Around) (outer:List Env) (s:Shared) (H:Hp) (E:XK):Cx where
 prog:=P
 w:=w
 K:=K
 mg:=mg
 base:=base
 A:=A.deeper (envOfC qual scope s.heap.objs.size f cd)
 N:=N
 s₀:=s
 H₀:=H
 env:=envOfC qual scope s.heap.objs.size f cd
 outer:=outer
 stack:=envOfC qual scope s.heap.objs.size f cd::outer
 ex:=[]
 calm:=true
 fn:=fun _=>true
 pn:=[]
 xe:=fun e s'=>wpAny (model P w) (A.deeper (envOfC qual scope s.heap.objs.size f cd)) (leaving (envOfC qual scope s.heap.objs.size f cd) e) (fun _ s''=>CX outer H s E e s'') (fun e' s''=>CX outer H s E e' s'') s'
theorem mh {x:Str} (h:sc.names.lookup x=some .cell):∃ c,(cellsFrom n sc.names []).lookup x=some c:=by
 have q:=Fe sc.names n [] (.inl h);exact Option.isSome_iff_exists.mp q
theorem jY {CX:nA} {P:Program} {w:World} {K:ZF} {mg:Str->Option Value} {base:Heap} {N ps:List Str} {qual:Str} {scope:Scope} {f:Addr} {cd:Value} {A:Around} {outer:List Env} {s s1:Shared} {H:Hp} {E:XK} {us:List Value} {vs:List V}
  (S:aw N ps scope) (hd:A.handled=none) (e0:Env0 P w K mg base A outer s H) (hl:vs.length=ps.length) (r:Vals vs us)
  (x:InCallC s s.heap.objs.size (bindL (envOfC qual scope s.heap.objs.size f cd).kindOf (ps.zip us) fun _=>none) (cellsFrom (s.heap.objs.size+1) scope.names []) (bindC (envOfC qual scope s.heap.objs.size f cd).kindOf (ps.zip us) fun _=>none) s1) :
  Inv (iC CX P w K mg base N qual scope f cd A outer s H E) [] (start N vs) H s1:=by
 have hpl:ps.length<=N.length:=by have:=congrArg List.length S.pre;rw [DS] at this;omega
 obtain ⟨h1,tk,rfl,hk⟩:=x.done;have noA:∀ b:Addr,b∉(iC CX P w K mg base N qual scope f cd A outer s H E).ex:=fun b z=>absurd (show b∈([]:List Addr) from z) (by simp);refine ⟨⟨e0.mod,S.kind,rfl,rfl,DN _,fun y z c h1 h2=>?_,fun y hy=>?_,fun y c _ h=>?_,fun _=>hd,Around.frames_deeper e0.frames,.inr ⟨rfl,rfl⟩,fun b z=>absurd z (noA b),e0.bs,e0.bsz,fun b _ _=>noA b,fun b z=>absurd z (noA b),e0.funs,e0.frf⟩,
  rfl,e0.bare,Un.kept hk,⟨_,x.toInCall.ns,fun i y v h1 h2 h3=>?_⟩,fun y c h=>⟨_,x.cell y c h⟩,e0.hok.fresh (DN _),fun y c h=>?_,fun p hp=>absurd (show p∈([]:List (Addr×Obj)) from hp) (by simp),e0.hok.kept hk,?_⟩
 ·exact name_of_addr x.apart (E1 h1) (E1 h2)
 ·have hy:scope.names.lookup y=some .cell\/scope.names.lookup y=some .free:=hy;rcases hy with hy|hy
  ·exact mh hy
  ·exact absurd rfl (S.nofree _ (E1 hy))
 ·exact Nat.le_of_lt (x.above y c (E1 h))
 ·have hi:i < vs.length:=by
   unfold start at h2;by_cases hi:i < vs.length
   ·exact hi
   ·rw [Ey (by simpa using hi)] at h2;rw [List.getElem?_replicate] at h2;split at h2<;>cases h2
  have ha:vs[i]?=some v:=by
   unfold start at h2;rw [Es (by simpa using hi),Ec] at h2;cases e:vs[i]? with
   | none=>rw [e] at h2;cases h2
   | some a=>rw [e] at h2;cases h2;rfl
  obtain ⟨u,hu,rv⟩:=r.get ha;have hp:ps[i]?=some y:=by
   rw [<-S.pre,List.getElem?_take_of_lt zo];exact h1
  have ndP:ps.Nodup:=by rw [<-S.pre];exact S.nd.sublist (List.take_sublist _ _)
  refine ⟨u,rv,?_⟩;rcases S.par y (D4 hp) with k|k
  ·exact .inl ⟨k,jW ndP hp hu k⟩
  ·obtain ⟨c,e⟩:=mh (n:=s.heap.objs.size+1) k;refine .inr ⟨.inl k,c,e,?_⟩;have q:=x.cell y c e;rw [jX ndP hp hu (by show scope.names.lookup y≠_;rw [k];decide)] at q;exact q
 ·exact e0.hok.fresh (Nat.le_of_lt (x.above y c (E1 h)))
 ·unfold start;show _=N.length;rw [DL,DI,EA];omega
theorem xq {CX:nA} {P:Program} {w:World} {K:ZF} {mg:Str->Option Value} {base:Heap} {k:Nat} {f:Addr} {name qual:Str} {params:Arguments} {body:List Stmt} {scope:Scope} {dV kV doc pm cdv ct oc:Value} {an od:Option Addr}
  {osl:Array (Option Value)} {N ps:List Str} {sp:Sp} (lk:K.lookup f=some ⟨oc,od,.func (PySem.W.fnOf name qual params body scope dV kV doc pm an cdv ct),osl⟩) (hcd:PySem.W.codeIn K cdv qual=true) (S:aw N ps scope)
  (len:∀ vs H Q E,sp vs H Q E->vs.length=ps.length)
  (hbody:∀ (A:Around) (outer:List Env) (s:Shared) (H:Hp) (vs:List V) (Q:VK) (E:XK),Room k (A.deeper (envOfC qual scope s.heap.objs.size f cdv))->sp vs H Q E->
   ∃ t,PSs (iC CX P w K mg base N qual scope f cdv A outer s H E) body t/\t { nx:=fun _ H'=>Q .non H',rt:=Q } (start N vs) H) :
  FnOk P w K mg base CX (k+1) f (PySem.W.fnOf name qual params body scope dV kV doc pm an cdv ct) ps sp:=by
 refine ⟨len,fun A outer s H args us vs Q E hr e0 hb r hsp=>?_⟩;have hl:=len _ _ _ _ hsp;have KX:K.In s.heap:=e0.mod.kin.keeps fun b o e=>(e0.bs b o e).1;have lim:s.heap.NoLimit:=e0.mod.nolimit.keeps fun b o e=>(e0.bs b o e).1;have hkind:∀ y∈ps.zip us,scope.names.lookup y.1=some .local\/(scope.names.lookup y.1=some .cell/\((cellsFrom (s.heap.objs.size+1) scope.names []).lookup y.1).isSome=true):=fun ⟨n,v⟩ hy=>by
  rcases S.par n (E3 hy).1 with q|q
  ·exact .inl q
  ·exact .inr ⟨q,Fe _ _ _ (.inl q)⟩
 refine codeAny_call_function hr.depth (KX _ _ lk) rfl S.co S.gen rfl (PySem.W.codeRec_of KX hcd) (hb _ _ _ _ ?_);refine wpAny_newFunctionEnv_cells S.kind hkind fun env he s1 x=>?_;subst he;refine ⟨lim.keeps x.toInCall.keep,codeAny_func ?_⟩;obtain ⟨t,ht,hq⟩:=hbody A outer s H vs Q E (hr.deeper _) hsp;have I:Inv (iC CX P w K mg base N qual scope f cdv A outer s H E) [] (start N vs) H s1:=jY S hr.hd e0 hl r x;refine wpAny_mono (ht [] s1 (start N vs) H _ I hq) (fun fl s' hs=>?_) fun e s' hs=>hs;have fin:∀ {σ':St} {H':Hp} {v:V} {u:Value},Inv (iC CX P w K mg base N qual scope f cdv A outer s H E) [] σ' H' s'->RelV v u->Q v H'->CE outer P w H s Q u s':=
  fun {σ' H' v u} J rv q=>⟨v,H',J.os,J.bare,J.base,J.hok,rv,q⟩
 cases fl with
 | ret u=>
  obtain ⟨v,σ',H',J,rv,q⟩:=hs;exact fin J rv q
 | next=>
  obtain ⟨σ',H',J,q⟩:=hs;exact fin (v:=V.non) (u:=Value.none) J rfl q
 | brk=>
  obtain ⟨_,_,_,q⟩:=hs;exact False.elim q
 | cont=>
  obtain ⟨_,_,_,q⟩:=hs;exact False.elim q
section
variable {X:Cx} {x:Str} {p pos:Pos} {e:Expr} {es:List Expr} {t:TA} {id T:String} {r:List V->Hp->VK->Prop}
def C6 (r:List V->Hp->VK->Prop) (t:TA):TE:=fun σ H Q=>t σ H fun vs H1=>r vs H1 Q
theorem av (hc:c8 X (.builtin id) r) (hg:Gl X x) (hm:X.mg x=none) (hv:bootBuiltins x=some (.builtin id)) (ha:PA X (e::es) t) (hn:x≠"__name__":=by decide) (hdb:(x == ("__debug__":Str))=false:=by decide)
  (he:starEach (e::es) X.env=(false,eval e X.env)::starEach es X.env:=by rfl) (hpl:(backTo pos (starEach es X.env)).any (·.1)=false:=by rfl):PE X (.Call (.Name x p) (e::es) [] pos) (C6 r t):=by
 refine ⟨?_⟩;intro pins s σ H Q I h;refine wpAny_Call_Name_kw (gp I hg hm hv ?_ hn hdb);exact PyProof.Rows.callWith_builtin1 (bC (ha pos pins s σ H _ I h) fun us s1 ⟨vs,H1,I1,r1,q1⟩=>hc pins s1 σ H1 vs us Q I1 r1 q1) he hpl
theorem aR (hc:c8 X (.type T) r) (hg:Gl X x) (hm:X.mg x=none) (hv:bootBuiltins x=some (.type T)) (ha:PA X (e::es) t) (hn:x≠"__name__":=by decide) (hdb:(x == ("__debug__":Str))=false:=by decide)
  (he:starEach (e::es) X.env=(false,eval e X.env)::starEach es X.env:=by rfl) (hpl:(backTo pos (starEach es X.env)).any (·.1)=false:=by rfl):PE X (.Call (.Name x p) (e::es) [] pos) (C6 r t):=by
 refine ⟨?_⟩;intro pins s σ H Q I h;refine wpAny_Call_Name_kw (gp I hg hm hv ?_ hn hdb);exact EG (bC (ha pos pins s σ H _ I h) fun us s1 ⟨vs,H1,I1,r1,q1⟩=>hc pins s1 σ H1 vs us Q I1 r1 q1) he hpl
end
end L2
namespace HT
open PySem PyProof.Rows
section
open PySem.SeqAt
open PySem.AutoSeq1 (wpAny_loadPart')
open PySem.MeetsSeq PySem.MeetsSeq2 PySem.MeetsSeq3
end
section
variable {prog:Program} {w:World} {A:Around} {E:Value->Shared->Prop} {s:Shared}
variable {t b:Addr}
theorem cat_tup {vs ws:List Value} {Q:Value->Shared->Prop} (ht:IsTup s.heap t vs.toArray) (hb:IsTup s.heap b ws.toArray) (hv:vs≠[])
  (h1:ws=[]->Q (.ref t) s) (h2:ws≠[]->Q (.ref s.heap.objs.size) { s with heap:=s.heap.push { cls:=.type "tuple",data:=.seq (vs++ws).toArray } })
  (hsz:vs.length+ws.length<=sizeLine):wpAny (model prog w) A (binaryOp .Add (.ref t) (.ref b)) Q E s:=by
 obtain ⟨⟨cls,dd,data,sl⟩,ho,hc,n,hd⟩:=id ht;obtain ⟨⟨cls2,dd2,data2,sl2⟩,ho2,hc2,n2,hd2⟩:=id hb;simp only at hc hd hc2 hd2;subst hc hd hc2 hd2;have e:vs.toArray++ws.toArray=(vs++ws).toArray:=by simp
 by_cases hw:ws=[]
 ·exact concat_meets ⟨_,ho,rfl⟩ ⟨_,ho2,rfl⟩ noFill_tuple_add seq_tuple_add PySem.F.slot_tuple_add PySem.F.entry_tuple_add (PySem.F.args_tuple_add_2 _ _)
   (tuple_addW1 t b vs.toArray ws.toArray n n2 dd dd2 sl sl2 (by simpa using hv) (by simp [hw])) ⟨ho,ho2,h1 hw⟩
 ·refine concat_meets ⟨_,ho,rfl⟩ ⟨_,ho2,rfl⟩ noFill_tuple_add seq_tuple_add PySem.F.slot_tuple_add PySem.F.entry_tuple_add (PySem.F.args_tuple_add_2 _ _)
   (tuple_addW2 t b vs.toArray ws.toArray n n2 dd dd2 sl sl2 (by simpa using hv) (by simpa using hw) (by rw [D7,D7];exact hsz)) ⟨ho,ho2,?_⟩
  rw [e];exact h2 hw
def sIx (n d:Nat):Option Int->Nat
 | none=>d
 | some v=>if v < 0 then (v+(n:Int)).toNat else min v.toNat n
theorem sIx_none (n d:Nat):sIx n d none=d:=rfl
theorem sIx_nat (n d k:Nat):sIx n d (some (k:Int))=min k n:=by
 show (if (k:Int) < 0 then ((k:Int)+(n:Int)).toNat else min (k:Int).toNat n)=min k n;rw [if_neg zo,EJ]
theorem sIx_le (n d:Nat) (hd:d<=n) (o:Option Int):sIx n d o<=n:=by
 cases o with
 | none=>exact hd
 | some v=>
  show (if v < 0 then (v+(n:Int)).toNat else min v.toNat n)<=n;by_cases hv:v < 0
  ·rw [if_pos hv];omega
  ·rw [if_neg hv];exact Nat.min_le_right _ _
theorem clip_eq (v:Int) (n d:Nat):(if v < 0 then max (v+(n:Int)) 0 else min v (n:Int))=((sIx n d (some v):Nat):Int):=by
 show (if v < 0 then max (v+(n:Int)) 0 else min v (n:Int))=(((if v < 0 then (v+(n:Int)).toNat else min v.toNat n):Nat):Int);by_cases hv:v < 0
 ·simp only [if_pos hv];omega
 ·simp only [if_neg hv];omega
theorem adjust_gen (lo hi:Option Int) (n:Nat):Builtin.Slice.sliceAdjust lo hi 1 (n:Int)=(((sIx n 0 lo:Nat):Int),((sIx n n hi:Nat):Int)):=by
 have h1:¬ ((1:Int) < 0):=by omega
 unfold Builtin.Slice.sliceAdjust;simp only [h1,if_false];refine Prod.ext ?_ ?_
 ·cases lo with
  | none=>rfl
  | some v=>exact clip_eq v n 0
 ·cases hi with
  | none=>rfl
  | some v=>exact clip_eq v n n
theorem places_gen (i j:Nat):Builtin.Slice.slicePlaces (i:Int) (j:Int) 1=j - i:=by
 unfold Builtin.Slice.slicePlaces;have h1:(1:Int) > 0:=by omega
 simp only [h1,if_true,Int.ediv_one];split<;>omega
theorem slicePart_ {v:Value} {o:Option Int} {Q:Option Int->Shared->Prop} (p:IsPart v o) (h:Q o s):wpAny (model prog w) A (Builtin.Slice.slicePartIndex v) Q E s:=by
 cases p with
 | none=>exact slicePart_none h
 | int i t=>exact slicePart_int h
variable {lo hi:Option Int} {vl vu:Value} {sl:Addr}
theorem sliceApplied_gen {n:Nat} {Q:Int×Int×Nat->Shared->Prop} (hs:s.heap.IsSliceOf sl vl vu .none) (pl:IsPart vl lo) (pu:IsPart vu hi)
  (h:Q (((sIx n 0 lo:Nat):Int),1,sIx n n hi - sIx n 0 lo) s):wpAny (model prog w) A (Builtin.Slice.sliceApplied (.ref sl) (pure (n:Int))) Q E s:=by
 obtain ⟨os,hos,hcs,hds⟩:=id hs;unfold Builtin.Slice.sliceApplied Builtin.Slice.sliceFields;refine wpAny_bind (wpAny_bind (wpAny_field hos hds (x:=vl) rfl (wpAny_bind (wpAny_field hos hds (x:=vu) rfl (wpAny_bind (wpAny_field hos hds (x:=.none) rfl (wpAny_pure ?_)))))));refine wpAny_bind (slicePart_none ?_);show wpAny _ _ (if ((1:Int) == 0)=true then _ else _) _ _ s;rw [if_neg zd];refine wpAny_bind (slicePart_ pl (wpAny_bind (slicePart_ pu (wpAny_bind (wpAny_pure ?_)))));show wpAny _ _ (match Builtin.Slice.sliceAdjust lo hi 1 (n:Int) with|(lo,hi)=>pure (lo,(1:Int),Builtin.Slice.slicePlaces lo hi 1)) _ _ s;rw [adjust_gen lo hi n];show wpAny _ _ (pure (((sIx n 0 lo:Nat):Int),(1:Int),Builtin.Slice.slicePlaces ((sIx n 0 lo:Nat):Int) ((sIx n n hi:Nat):Int) 1)) _ _ s;rw [places_gen];exact wpAny_pure h
theorem pick_gen (xs:Array Value) (i k:Nat):((List.range k).filterMap fun (m:Nat)=>xs[((i:Int)+(m:Int)*1).toNat]?).toArray=((xs.toList.drop i).take k).toArray:=by
 have e:(fun (m:Nat)=>xs[((i:Int)+(m:Int)*1).toNat]?)=fun m=>xs[i+m]?:=by
  funext m;have:((i:Int)+(m:Int)*1).toNat=i+m:=by omega
  rw [this]
 rw [e];have:=pick_run xs i k;rw [List.filterMap_map] at this;have e2:((fun x=>xs[x]?) ∘ fun x=>i+x)=fun m=>xs[i+m]?:=rfl;rw [e2] at this;rw [this]
theorem getItem_tuple_cut {items:Array Value} {Q:Value->Shared->Prop} (ht:IsTup s.heap t items) (hs:s.heap.IsSliceOf sl vl vu .none) (pl:IsPart vl lo) (pu:IsPart vu hi)
  (hw:¬ (sIx items.size 0 lo=0/\sIx items.size items.size hi=items.size))
  (h:Q (.ref s.heap.objs.size) { s with heap:=s.heap.push { cls:=.type "tuple",data:=.seq ((items.toList.drop (sIx items.size 0 lo)).take (sIx items.size items.size hi - sIx items.size 0 lo)).toArray } })
  (hsz:items.size<=sizeLine):wpAny (model prog w) A (getItem (.ref t) (.ref sl)) Q E s:=by
 have htake:sizeOk (.seq ((items.toList.drop (sIx items.size 0 lo)).take (sIx items.size items.size hi - sIx items.size 0 lo)).toArray):=by
  show ((items.toList.drop (sIx items.size 0 lo)).take (sIx items.size items.size hi - sIx items.size 0 lo)).toArray.size<=sizeLine;rw [D7,DS,Ea,Array.length_toList];omega
 have hj:sIx items.size items.size hi<=items.size:=sIx_le _ _ (DN _) hi;obtain ⟨os,hos,hcs,hds⟩:=id hs;have hTs:s.TypeIs (.ref sl) "slice":=⟨os,hos,hcs⟩;unfold getItem;try with_reducible refine wpAny_holding ?_
 first|refine wpAny_bind (wpAny_pure ?_)|skip
 refine wpAny_bind (wpAny_sequenceKey ht.typeIs zd ?_);refine wpAny_bind (wpAny_callSpecial?_slot (name:=Str.ofString "__getitem__") ht.typeIs PyProof.Rows.slot_tuple_getitem
  (wpAny_call_entry PyProof.Rows.slot_tuple_getitem ht.typeIs entry_tuple_getitem ?_ (args_tuple_getitem _ _)))
 show wpAny _ _ (Builtin.Tuple.tupleItemsOf (.ref t) >>= _) _ _ s;refine wpAny_bind (tupleItemsOf_ ht ?_);refine wpAny_bind (wpAny_typeOf hTs ?_);rw [if_pos zd];refine wpAny_bind (sliceApplied_gen hs pl pu ?_);have hno:¬ ((((sIx items.size 0 lo:Nat):Int) == 0 && (1:Int) == 1 && (sIx items.size items.size hi - sIx items.size 0 lo) == items.size)=true):=by
  intro q;rw [Er,Er] at q;have q1:((sIx items.size 0 lo:Nat):Int)=0:=eq_of_beq q.1.1;have q2:sIx items.size items.size hi - sIx items.size 0 lo=items.size:=eq_of_beq q.2;exact hw ⟨zo,zo⟩
 show wpAny _ _ (if (((sIx items.size 0 lo:Nat):Int) == 0 && (1:Int) == 1 && (sIx items.size items.size hi - sIx items.size 0 lo) == items.size)=true then _ else _) _ _ s;rw [if_neg hno,pick_gen];first
  | exact wpAny_bind (m:=Builtin.Tuple.tupleExact _) (wpAny_newObj_type (wpAny_pure ⟨_,rfl,wpAny_pure h⟩) htake)
  | exact wpAny_bind (m:=Builtin.Tuple.tupleExact _) (wpAny_newObj_type (wpAny_bind (wpAny_pure (wpAny_pure ⟨_,rfl,wpAny_pure h⟩))) htake)
  | exact wpAny_bind (wpAny_bind (m:=Builtin.Tuple.tupleExact _) (wpAny_newObj_type (wpAny_pure (wpAny_pure ⟨_,rfl,wpAny_pure h⟩)) htake))
  | exact wpAny_bind (wpAny_bind (m:=Builtin.Tuple.tupleExact _) (wpAny_newObj_type (wpAny_pure ⟨_,rfl,wpAny_pure h⟩) htake))
end
end HT
namespace L2
open PySem PySem.Spec PyProof.Rows
abbrev TO:=St->Hp->(Option Int->Hp->Prop)->Prop
structure PO (X:Cx) (e:Option Expr) (t:TO):Prop where
 run:∀ (pins:List (Addr×Obj)) (s:Shared) (σ:St) (H:Hp) (Q:Option Int->Hp->Prop),Inv X pins σ H s->t σ H Q->
  wpAny (model X.prog X.w) X.A (evalPart e X.env) (fun u s'=>∃ o H',Inv X pins σ H' s'/\IsPart u o/\Q o H') X.xe s
instance {X:Cx} {e:Option Expr} {t:TO}:CoeFun (PO X e t) fun _=>∀ (pins:List (Addr×Obj)) (s:Shared) (σ:St) (H:Hp) (Q:Option Int->Hp->Prop),Inv X pins σ H s->t σ H Q->
  wpAny (model X.prog X.w) X.A (evalPart e X.env) (fun u s'=>∃ o H',Inv X pins σ H' s'/\IsPart u o/\Q o H') X.xe s:=⟨PO.run⟩
def vA:TO:=fun _ H Q=>Q none H
inductive rX (Q:Option Int->Hp->Prop) (x:V) (H1:Hp):Prop
 | mk (i:_):x=.int i->Q (some i) H1->rX Q x H1
def rY (t:TE):TO:=fun σ H Q=>t σ H fun x H1=>rX Q x H1
section
variable {X:Cx} {e:Expr} {te:TE} {lo hi:Option Expr} {tl th:TO} {pos p2:Pos}
theorem bM:PO X none vA:=by
 refine ⟨?_⟩;intro pins s σ H Q I h;rw [evalPart_none];exact wpAny_pure ⟨none,H,I,.none,h⟩
theorem bv (h:PE X e te):PO X (some e) (rY te):=by
 refine ⟨?_⟩;intro pins s σ H Q I hw;rw [evalPart_some];refine bC (h pins s σ H _ I hw) fun u s1 ⟨x,H1,I1,r1,q1⟩=>?_;obtain ⟨i,rfl,q⟩:=q1;obtain ⟨t,rfl⟩:=r1;exact ⟨some i,H1,I1,.int i t,q⟩
def BM (X:Cx) (r:V->Option Int->Option Int->Hp->VK->Prop):Prop:=
 ∀ (pins:List (Addr×Obj)) (s:Shared) (σ:St) (H:Hp) (x:V) (v vl vu:Value) (lo hi:Option Int) (sl:Addr) (Q:VK),Inv X pins σ H s->RelV x v->s.heap.IsSliceOf sl vl vu .none->IsPart vl lo->IsPart vu hi->r x lo hi H Q->
  ∃ T id,typeLookup (.type T) "__getitem__"=pure (some (.builtin id))/\s.TypeIs v T/\wpAny (model X.prog X.w) X.A (getItem v (.ref sl)) (EP X pins σ Q) X.xe s
def C7 (r:V->Option Int->Option Int->Hp->VK->Prop) (te:TE) (tl th:TO):TE:=fun σ H Q=>te σ H fun x H1=>tl σ H1 fun l H2=>th σ H2 fun u H3=>r x l u H3 Q
theorem br {r:V->Option Int->Option Int->Hp->VK->Prop} (hr:BM X r) (he:PE X e te) (hl:PO X lo tl) (hu:PO X hi th):PE X (.Subscript e (.Slice lo hi none p2) pos) (C7 r te tl th):=by
 refine ⟨?_⟩;intro pins s σ H Q I h;refine Subscript_ (bC (he pins s σ H _ I h) fun v s1 ⟨x,H1,I1,r1,q1⟩=>?_);refine wpAny_Slice (bC (hl pins s1 σ H1 _ I1 q1) fun vl s2 ⟨l,H2,I2,pl,q2⟩=>bC (hu pins s2 σ H2 _ I2 q2) fun vu s3 ⟨u,H3,I3,pu,q3⟩=>?_);rw [evalPart_none];refine wpAny_pure ?_;have I4:Inv X pins σ H3 { s3 with heap:=s3.heap.push { cls:=.type "slice",data:=.fields #[vl,vu,.none] } }:=I3.kept (t':=s3.toks) fun b ob q=>DJ _ q;obtain ⟨T,id,hT,ht,hg⟩:=hr pins { s3 with heap:=s3.heap.push { cls:=.type "slice",data:=.fields #[vl,vu,.none] } } σ H3 x v vl vu l u s3.heap.objs.size Q I4 r1 (Heap.IsSliceOf.new ..) pl pu q3;show wpAny (model X.prog X.w) X.A (subscriptTail e (.Slice lo hi none p2) v (.ref s3.heap.objs.size)) (EP X pins σ Q) X.xe { s3 with heap:=s3.heap.push { cls:=.type "slice",data:=.fields #[vl,vu,.none] } };exact tail_any (ops:=[.ref s3.heap.objs.size,v]) ht hT hg (by with_unfolding_all rfl)
def cC (xs:List V) (lo hi:Option Int):List V:=(xs.drop (HT.sIx xs.length 0 lo)).take (HT.sIx xs.length xs.length hi - HT.sIx xs.length 0 lo)
theorem dI (xs:List V) (lo hi:Option Int):(cC xs lo hi).length<=xs.length:=by
 unfold cC;rw [DS,Ea];omega
inductive Aw (K:ZF) (x:V) (lo:Option Int) (hi:Option Int) (H:Hp) (Q:VK):Prop
 | mk (a xs:_):x=.ref a->SqT K H a xs->¬ (HT.sIx xs.length 0 lo=0/\HT.sIx xs.length xs.length hi=xs.length)->(∀ p,H p=none->Q (.ref p) (aq H p (.tup (cC xs lo hi))))->Aw K x lo hi H Q
theorem nU:BM X (Aw X.K):=by
 intro pins s σ H x v vl vu lo hi sl Q I rx hs pl pu h;obtain ⟨a,xs,rfl,hx,hw,q⟩:=h;cases rx;obtain ⟨its,r,ht,hz⟩:=I.tuple hx;have hlen:its.toArray.size=xs.length:=by rw [D7];exact r.length.symm
 refine ⟨"tuple",_,PyProof.Rows.slot_tuple_getitem.lookup,ht.typeIs,?_⟩;refine HT.getItem_tuple_cut ht hs pl pu (by rw [hlen];exact hw) ?_ (by rw [hlen];exact hz);rw [hlen];refine ⟨.ref s.heap.objs.size,_,I.laid (t':=s.toks) (o:=.tup (cC xs lo hi)) (fun b ob q=>DJ _ q) (DN _) ?_,rfl,q _ (I.hok.fresh (DN _))⟩;exact ⟨Ef (dI xs lo hi) hz,_,(r.drop (HT.sIx xs.length 0 lo)).take (HT.sIx xs.length xs.length hi - HT.sIx xs.length 0 lo),TupP.new _ _⟩
inductive xr (K:ZF) (x:V) (y:V) (H:Hp) (Q:VK):Prop
 | mk (a b xs ys:_):x=.ref a->y=.ref b->SqT K H a xs->SqT K H b ys->xs≠[]->xs.length+ys.length<=sizeLine->(ys=[]->Q (.ref a) H)->(ys≠[]->∀ p,H p=none->Q (.ref p) (aq H p (.tup (xs++ys))))->xr K x y H Q
theorem Vals.nil_iff {xs:List V} {us:List Value} (r:Vals xs us):us=[]↔xs=[]:=by
 cases r with
 | nil=>simp
 | cons _ _=>simp
theorem vB:dE X (binaryOp .Add) (xr X.K):=by
 intro pins s σ H x y v u Q I rx ry h;obtain ⟨a,b,xs,ys,rfl,rfl,ha,hb,hx,hz,q1,q2⟩:=h;cases rx;cases ry;obtain ⟨its,r1,p1,_⟩:=I.tuple ha;obtain ⟨its2,r2,p2,_⟩:=I.tuple hb;refine HT.cat_tup p1 p2 (fun z=>hx (r1.nil_iff.mp z)) (fun z=>⟨.ref a,H,I,rfl,q1 (r2.nil_iff.mp z)⟩) (fun z=>?_) (by rw [<-r1.length,<-r2.length];exact hz);refine ⟨.ref s.heap.objs.size,_,I.laid (t':=s.toks) (o:=.tup (xs++ys)) (fun b ob q=>DJ _ q) (DN _) ?_,rfl,q2 (fun w=>z (r2.nil_iff.mpr w)) _ (I.hok.fresh (DN _))⟩;exact ⟨by rw [DL];exact hz,_,r1.append r2,TupP.new _ _⟩
end
def vh (n:Nat) (i:Int):Option Nat:=if 0<=i then (if i < n then some i.toNat else none) else if -(n:Int)<=i then some (i+n).toNat else none
def nV {α:Type} (xs:List α) (i:Int):Option α:=(vh xs.length i).bind fun j=>xs[j]?
variable {j:Nat} {i:Int} {n:Nat}
theorem pA (h:vh n i=some j):seqIndex? i n=some j/\j < n/\-(n:Int)<=i/\i < n:=by
 unfold vh at h;by_cases h0:0<=i
 ·rw [if_pos h0] at h;by_cases h1:i < n
  ·rw [if_pos h1] at h;have e:i.toNat=j:=D5 h;exact ⟨by rw [seqIndex_of h0 h1,e],zo,zo,h1⟩
  ·rw [if_neg h1] at h;cases h
 ·rw [if_neg h0] at h;by_cases h1:-(n:Int)<=i
  ·rw [if_pos h1] at h;have e:(i+n).toNat=j:=D5 h;exact ⟨by rw [seqIndex_neg zo h1,e],zo,h1,zo⟩
  ·rw [if_neg h1] at h;cases h
theorem kC {α:Type} {xs:List α} {v:α} (h:nV xs i=some v):∃ j,seqIndex? i xs.length=some j/\xs[j]?=some v/\j < xs.length/\-(xs.length:Int)<=i/\i < xs.length:=by
 unfold nV at h;cases e:vh xs.length i with
 | none=>rw [e] at h;cases h
 | some j=>
  rw [e] at h;obtain ⟨h1,h2,h3,h4⟩:=pA e;exact ⟨j,h1,h,h2,h3,h4⟩
theorem bN {α:Type} {xs:List α} {v:α} (h:xs[j]?=some v):nV xs (j:Int)=some v:=by
 have hj:j < xs.length:=(DK.mp h).1;have e:vh xs.length (j:Int)=some j:=by
  unfold vh;rw [if_pos zo,if_pos zo];simp
 unfold nV;rw [e];exact h
def vC (b:Expr):Prop:=∀ o i,subscripted b false o i=operate [o,i] (getItem o i)
def zT (X:Cx) (r:R2):Prop:=
 ∀ (value slice:Expr) (pins:List (Addr×Obj)) (s:Shared) (σ:St) (H:Hp) (x y:V) (v u:Value) (Q:VK),Inv X pins σ H s->RelV x v->RelV y u->r x y H Q->
  subscripted slice false v u=operate [v,u] (getItem v u)->wpAny (model X.prog X.w) X.A (subscriptTail value slice v u) (EP X pins σ Q) X.xe s
def Ax (X:Cx) (id:String) (r:V->List V->Hp->VK->Prop):Prop:=
 ∀ (pins:List (Addr×Obj)) (s:Shared) (σ:St) (H:Hp) (x:V) (xs:List V) (v:Value) (us:List Value) (Q:VK),Inv X pins σ H s->RelV x v->Vals xs us->r x xs H Q->
  wpAny (model X.prog X.w) X.A (call (.builtin id) (v::us)) (EP X pins σ Q) X.xe s
section
variable {X:Cx} {a b:Expr} {ta tb:TE} {pos:Pos}
theorem aZ {r:R2} (hr:zT X r) (ha:PE X a ta) (hb:PE X b tb) (hs:vC b:=by intro _ _;rfl):PE X (.Subscript a b pos) (Al r ta tb):=by
 refine ⟨?_⟩;intro pins s σ H Q I h;exact Subscript_ (yi ha hb I h fun v u s2 x y H2 I2 rx ry q=>hr a b pins s2 σ H2 x y v u Q I2 rx ry q (hs _ _))
inductive yl (K:ZF) (x:V) (y:V) (H:Hp) (Q:VK):Prop
 | mk (p xs i v:_):x=.ref p->y=.int i->SqL K H p xs->nV xs i=some v->Q v H->yl K x y H Q
inductive ym (K:ZF) (x:V) (y:V) (H:Hp) (Q:VK):Prop
 | mk (p xs i v:_):x=.ref p->y=.int i->SqT K H p xs->nV xs i=some v->Q v H->ym K x y H Q
inductive Ay (x:V) (y:V) (H:Hp) (Q:VK):Prop
 | mk (z i c:_):x=.str z->y=.int i->z.length<=sizeLine->nV z.cps.toList i=some c->Q (.str ⟨#[c]⟩) H->Ay x y H Q
theorem aY:zT X (yl X.K):=by
 intro value slice pins s σ H x y v u Q I rx ry h hs;obtain ⟨p,xs,i,z,rfl,rfl,hq,he,q⟩:=h;cases rx;obtain ⟨t,rfl⟩:=ry;obtain ⟨its,r,pl,hz⟩:=I.list hq;obtain ⟨j,h1,h2,h3,h4,h5⟩:=kC he;obtain ⟨w,ew,rw'⟩:=r.get h2;have hl:=r.length;have hn:=hI;have fin:EP X pins σ Q w s:=⟨z,H,I,rw',q⟩;by_cases h0:0<=i
 ·have hj:i.toNat=j:=by
   rw [seqIndex_of h0 h5] at h1;exact D5 h1
  exact item_listR pl.isList h0 zo (by rw [hj];simpa using ew) fin hs
 ·have hj:(i+(its.toArray.size:Int)).toNat=j:=by
   rw [seqIndex_neg zo h4] at h1;rw [D7,<-hl];exact D5 h1
  exact subscriptTail_builtinR (x:=w) pl.isList.typeIs slot_list_getitem.lookup
   (wpAny_getItem_list_neg (Q:=fun r s'=>r=w/\EP X pins σ Q r s') pl.isList zo (by rw [D7]<;>omega) zo (by rw [hj];simpa using ew) ⟨rfl,fin⟩) hs
theorem cZ:zT X (ym X.K):=by
 intro value slice pins s σ H x y v u Q I rx ry h hs;obtain ⟨p,xs,i,z,rfl,rfl,hq,he,q⟩:=h;cases rx;obtain ⟨t,rfl⟩:=ry;obtain ⟨its,r,pl,hz⟩:=I.tuple hq;obtain ⟨j,h1,h2,h3,h4,h5⟩:=kC he;obtain ⟨w,ew,rw'⟩:=r.get h2;have hl:=r.length;have hn:=hI;have fin:EP X pins σ Q w s:=⟨z,H,I,rw',q⟩;exact subscriptTail_builtinR (x:=w) pl.typeIs slot_tuple_getitem.lookup
  (getItem_tuple (j:=j) (Q:=fun r s'=>r=w/\EP X pins σ Q r s') pl zo zo (by rw [D7,<-hl];exact h1) (by simpa using ew) ⟨rfl,fin⟩) hs
theorem hX:zT X Ay:=by
 intro value slice pins s σ H x y v u Q I rx ry h hs;obtain ⟨z,i,c,rfl,rfl,hz,he,q⟩:=h;obtain ⟨t,rfl⟩:=rx;obtain ⟨t',rfl⟩:=ry;obtain ⟨j,h1,h2,h3,h4,h5⟩:=kC he;have hl:z.cps.toList.length=z.length:=by simp [Str.length]
 rw [hl] at h1 h4 h5;have hn:=hI;exact tail_any (typeIs_str s z t) slot_str_getitem.lookup (getItem_str (c:=c) (by
  have e1:decide (i < -(2 ^ 63:Int))=false:=decide_eq_false zo;have e2:decide (i ≥ 2 ^ 63)=false:=decide_eq_false zo;rw [e1,e2,Bool.or_false]) (by rw [h1];simpa using h2) ⟨.str ⟨#[c]⟩,H,I.tok _,⟨_,rfl⟩,q⟩) hs
theorem nW (its:List Value) (n j:Nat) (u:Value):Obj.mapSeq (·.setIfInBounds j u) { cls:=.type "list",data:=.seq its.toArray n }={ cls:=.type "list",data:=.seq (its.set j u).toArray n }:=by
 simp [Obj.mapSeq]
variable {xs:List V} {p:Addr} {s:Shared} {H:Hp} {σ:St} {pins:List (Addr×Obj)}
theorem Inv.lst (I:Inv X pins σ H s) (h:H p=some (.lst xs)) :
  ∃ (its:List Value) (n:Nat),Vals xs its/\s.heap.get? p=some { cls:=.type "list",data:=.seq its.toArray n }/\xs.length<=sizeLine:=by
 obtain ⟨z,its,n,r,e⟩:=I.hok p _ h;exact ⟨its,n,r,e,z⟩
theorem Inv.lstUpd {xs ys:List V} {its its':List Value} {n n':Nat} {f:Obj->Obj} (I:Inv X pins σ H s) (h:H p=some (.lst xs))
  (ho:s.heap.get? p=some { cls:=.type "list",data:=.seq its.toArray n }) (hf:f { cls:=.type "list",data:=.seq its.toArray n }={ cls:=.type "list",data:=.seq its'.toArray n' }) (r:Vals ys its') (hz:ys.length<=sizeLine) (t:Nat) :
  Inv X pins σ (aq H p (.lst ys)) { s with heap:=s.heap.update p f,toks:=t }:=by
 have e:(s.heap.update p f).get? p=some { cls:=.type "list",data:=.seq its'.toArray n' }:=by
  rw [Heap.get?_update_self f ho (by rw [hf]<;>rfl),hf]
 refine I.write (x:=p) (e:=p) (by rw [h];trivial) (.inl rfl) (fun b u hb q=>(Heap.get?_update_other _ _ (Ne.symm hb)).trans q) ⟨_,e⟩ ?_;exact ⟨hz,its',n',r,e⟩
inductive xt (o:V) (i:V) (v:V) (H:Hp) (Q:Hp->Prop):Prop
 | mk (p xs k j:_):o=.ref p->i=.int k->H p=some (.lst xs)->vh xs.length k=some j->Q (aq H p (.lst (xs.set j v)))->xt o i v H Q
theorem i5:Ah X xt:=by
 intro pins s σ H o i v ov iv u Q I ro ri rv h;obtain ⟨p,xs,k,j,rfl,rfl,hp,hj,q⟩:=h;cases ro;obtain ⟨t,rfl⟩:=ri;obtain ⟨its,n,r,ho,hz⟩:=I.lst hp;obtain ⟨h1,h2,h3,h4⟩:=pA hj;have hl:=r.length;have hn:=hI;have I':Inv X pins σ (aq H p (.lst (xs.set j v))) { s with heap:=s.heap.update p (Obj.mapSeq (·.setIfInBounds j u)) }:=
  I.lstUpd hp ho (nW its n j u) (r.set rv j) (by rw [List.length_set];exact hz) s.toks
 by_cases h0:0<=k
 ·have hk:k.toNat=j:=by
   rw [seqIndex_of h0 h4] at h1;exact D5 h1
  exact PySem.W.ki_setAt ho h0 zo (by rw [D7,<-hl];exact h4) (by rw [hk];exact ⟨_,I',q⟩)
 ·have hk:(k+(its.toArray.size:Int)).toNat=j:=by
   rw [seqIndex_neg zo h3] at h1;rw [D7,<-hl];exact D5 h1
  exact PySem.W.ki_setBack ho zo (by rw [D7,<-hl];exact h3) zo (by rw [hk];exact ⟨_,I',q⟩)
theorem kD (lo hi:Option Int) (n:Nat):(sliceBounds lo hi none n).1=((HT.sIx n 0 lo:Nat):Int)/\(sliceBounds lo hi none n).2.1=((HT.sIx n n hi:Nat):Int)/\(sliceBounds lo hi none n).2.2=1:=by
 refine ⟨?_,?_,rfl⟩
 ·cases lo with
  | none=>simp [sliceBounds,HT.sIx]
  | some i=>
   simp only [sliceBounds,HT.sIx,Option.getD_none,show (1:Int) > 0 by decide,if_true];by_cases h:i < 0
   ·simp only [h,if_true]<;>omega
   ·simp only [h,if_false]<;>omega
 ·cases hi with
  | none=>simp [sliceBounds,HT.sIx]
  | some i=>
   simp only [sliceBounds,HT.sIx,Option.getD_none,show (1:Int) > 0 by decide,if_true];by_cases h:i < 0
   ·simp only [h,if_true]<;>omega
   ·simp only [h,if_false]<;>omega
theorem jG (its:List Value) (lo hi:Option Int):slicePick its.toArray lo hi none=((its.drop (HT.sIx its.length 0 lo)).take (HT.sIx its.length its.length hi - HT.sIx its.length 0 lo)).toArray:=by
 obtain ⟨h1,h2,h3⟩:=kD lo hi its.toArray.size;unfold slicePick;rw [h1,h2,h3];simp only [sliceRange_one,pick_run,D7]<;>rfl
inductive Az (K:ZF) (x:V) (lo:Option Int) (hi:Option Int) (H:Hp) (Q:VK):Prop
 | mk (a xs:_):x=.ref a->SqL K H a xs->(∀ p,H p=none->Q (.ref p) (aq H p (.lst (cC xs lo hi))))->Az K x lo hi H Q
theorem bV:BM X (Az X.K):=by
 intro pins s σ H x v vl vu lo hi sl Q I rx hs pl pu h;obtain ⟨a,xs,rfl,hx,q⟩:=h;cases rx;obtain ⟨its,r,ht,hz⟩:=I.list hx;have hlen:=r.length;refine ⟨"list",_,slot_list_getitem.lookup,ht.isList.typeIs,?_⟩;refine wpAny_getItem_list_slice ht.isList hs pl pu .none (by simp) ?_ (by rw [D7]<;>omega);rw [jG,<-hlen];refine ⟨.ref s.heap.objs.size,_,I.laid (t':=s.toks) (o:=.lst (cC xs lo hi)) (fun b ob q=>DJ _ q) (DN _) ?_,rfl,q _ (I.hok.fresh (DN _))⟩;exact ⟨Ef (dI xs lo hi) hz,_,0,(r.drop (HT.sIx xs.length 0 lo)).take (HT.sIx xs.length xs.length hi - HT.sIx xs.length 0 lo),D8 _ rfl⟩
def dJ:V->Bool
 | .non=>true
 | .bl _=>true
 | .int _=>true
 | .str _=>true
 | _=>false
def nB:V->V->Bool
 | .non,.non=>true
 | .bl a,.bl b=>a == b
 | .bl a,.int b=>(if a then 1 else 0) == b
 | .int a,.bl b=>a == (if b then 1 else 0)
 | .int a,.int b=>a == b
 | .str a,.str b=>a == b
 | _,_=>false
variable {u v:Value} {y x:V} {A:Around}
theorem rZ (ry:RelV y u) (rx:RelV x v) (fy:dJ y=true) (fx:dJ x=true):SeqAt.EqAt A s u v (nB y x):=by
 cases y with
 | non=>
  cases ry;cases x with
  | non=>cases rx;exact SeqAt.EqAt.same _
  | bl b=>cases rx;exact SeqAt.EqAt.none_bool b
  | int b=>obtain ⟨t,rfl⟩:=rx;exact SeqAt.EqAt.none_int b t
  | str b=>obtain ⟨t,rfl⟩:=rx;exact SeqAt.EqAt.none_str b t
  | _=>exact absurd (show false=true from fx) D1
 | bl a=>
  cases ry;cases x with
  | non=>cases rx;exact SeqAt.EqAt.bool_none a
  | bl b=>cases rx;exact SeqAt.EqAt.bool_bool a b
  | int b=>obtain ⟨t,rfl⟩:=rx;exact SeqAt.EqAt.bool_int a b t
  | str b=>obtain ⟨t,rfl⟩:=rx;exact SeqAt.EqAt.bool_str a b t
  | _=>exact absurd (show false=true from fx) D1
 | int a=>
  obtain ⟨t',rfl⟩:=ry;cases x with
  | non=>cases rx;exact SeqAt.EqAt.int_none a t'
  | bl b=>cases rx;exact SeqAt.EqAt.int_bool a t' b
  | int b=>obtain ⟨t,rfl⟩:=rx;exact SeqAt.EqAt.int_int a t' b t
  | str b=>obtain ⟨t,rfl⟩:=rx;exact SeqAt.EqAt.int_str a t' b t
  | _=>exact absurd (show false=true from fx) D1
 | str a=>
  obtain ⟨t',rfl⟩:=ry;cases x with
  | non=>cases rx;exact SeqAt.EqAt.str_none a t'
  | bl b=>cases rx;exact SeqAt.EqAt.str_bool a t' b
  | int b=>obtain ⟨t,rfl⟩:=rx;exact SeqAt.EqAt.str_int a t' b t
  | str b=>obtain ⟨t,rfl⟩:=rx;exact SeqAt.EqAt.str_str a t' b t
  | _=>exact absurd (show false=true from fx) D1
 | _=>exact absurd (show false=true from fy) D1
def mi (x:V) (u:Value):Bool:=match u with
 | .none=>nB .non x
 | .bool b=>nB (.bl b) x
 | .int i _=>nB (.int i) x
 | .str z _=>nB (.str z) x
 | _=>false
theorem nX (r:RelV y u) (f:dJ y=true):mi x u=nB y x:=by
 cases y with
 | non=>cases r;rfl
 | bl b=>cases r;rfl
 | int i=>obtain ⟨t,rfl⟩:=r;rfl
 | str z=>obtain ⟨t,rfl⟩:=r;rfl
 | _=>exact absurd (show false=true from f) D1
theorem gL:∀ {xs:List V} {us:List Value},Vals xs us->xs.all dJ=true->us.any (mi x)=xs.any fun y=>nB y x
 | _,_,.nil,_=>rfl
 | y::xs,u::us,.cons r t,f=>by
  rw [List.all_cons,Er] at f;rw [Fh,Fh,nX r f.1,gL t f.2]
theorem eB (rx:RelV x v) (fx:dJ x=true):∀ {xs:List V} {us:List Value},Vals xs us->xs.all dJ=true->∀ u∈us,SeqAt.EqAt A s u v (mi x u)
 | _,_,.nil,_=>fun u hu=>by cases hu
 | y::xs,u::us,.cons r t,f=>fun u' hu=>by
  rw [List.all_cons,Er] at f;rcases DY.mp hu with rfl|hu
  ·rw [nX r f.1];exact rZ r rx f.1 fx
  ·exact eB rx fx t f.2 u' hu
def jZ (x:V) (xs:List V):Bool:=xs.any fun y=>nB y x
inductive Ck (K:ZF) (neg:Bool) (x:V) (y:V) (H:Hp) (Q:VK):Prop
 | mk (p xs:_):y=.ref p->(SqL K H p xs\/SqT K H p xs)->dJ x=true->xs.all dJ=true->Q (.bl (if neg then !jZ x xs else jZ x xs)) H->Ck K neg x y H Q
theorem eC:dE X (compareOp .In) (Ck X.K false):=by
 intro pins s σ H x y v u Q I rx ry h;obtain ⟨p,xs,rfl,hq,fx,fs,q⟩:=h;cases ry;rcases hq with hq|hq
 ·obtain ⟨its,r,pl,hz⟩:=I.list hq;refine SeqAt.in_listAt (mi x) pl.isList (fun w hw=>eB rx fx r fs w (by simpa using hw)) ⟨.bl _,H,I,rfl,?_⟩;rw [show its.toArray.any (mi x)=its.any (mi x) by simp,gL r fs];exact q
 ·obtain ⟨its,r,pl,hz⟩:=I.tuple hq;refine SeqAt.in_tupleAt (mi x) pl (fun w hw=>eB rx fx r fs w (by simpa using hw)) ⟨.bl _,H,I,rfl,?_⟩;rw [show its.toArray.any (mi x)=its.any (mi x) by simp,gL r fs];exact q
theorem c9:dE X (compareOp .NotIn) (Ck X.K true):=by
 intro pins s σ H x y v u Q I rx ry h;obtain ⟨p,xs,rfl,hq,fx,fs,q⟩:=h;cases ry;rcases hq with hq|hq
 ·obtain ⟨its,r,pl,hz⟩:=I.list hq;refine SeqAt.notIn_listAt (mi x) pl.isList (fun w hw=>eB rx fx r fs w (by simpa using hw)) ⟨.bl _,H,I,rfl,?_⟩;rw [show its.toArray.any (mi x)=its.any (mi x) by simp,gL r fs];exact q
 ·obtain ⟨its,r,pl,hz⟩:=I.tuple hq;refine SeqAt.notIn_tupleAt (mi x) pl (fun w hw=>eB rx fx r fs w (by simpa using hw)) ⟨.bl _,H,I,rfl,?_⟩;rw [show its.toArray.any (mi x)=its.any (mi x) by simp,gL r fs];exact q
theorem ay:c8 X (.builtin "len") (fun xs H Q=>∃ p ys,xs=[.ref p]/\(SqL X.K H p ys\/SqT X.K H p ys)/\Q (.int ys.length) H):=by
 intro pins s σ H xs us Q I r h;obtain ⟨p,ys,rfl,hq,q⟩:=h;obtain ⟨u,rfl,rx⟩:=gh r;cases rx;have hn:=hI;rcases hq with hq|hq
 ·obtain ⟨its,r',pl,hz⟩:=I.list hq;have hlen:=r'.length;exact Calls.call_len_list pl.isList (by simp only [D7]<;>omega) ⟨.int ys.length,H,I.tok _,⟨s.toks+1,by rw [D7,hlen]⟩,q⟩
 ·obtain ⟨its,r',pl,hz⟩:=I.tuple hq;have hlen:=r'.length;exact len_tuple pl (by simp only [D7]<;>omega) ⟨.int ys.length,H,I.tok _,⟨s.toks+1,by rw [D7,hlen]⟩,q⟩
theorem bW:c8 X (.builtin "len") (fun xs H Q=>∃ z,xs=[.str z]/\z.length<=sizeLine/\Q (.int z.length) H):=by
 intro pins s σ H xs us Q I r h;obtain ⟨z,rfl,hz,q⟩:=h;obtain ⟨u,rfl,t,rfl⟩:=gh r;have hn:=hI;exact len_str zo ⟨.int z.length,H,I.tok _,⟨_,rfl⟩,q⟩
theorem eJ:c8 X (.type "list") (fun xs H Q=>∃ p ys,xs=[.ref p]/\(SqL X.K H p ys\/SqT X.K H p ys)/\∀ l,H l=none->Q (.ref l) (aq H l (.lst ys))):=by
 intro pins s σ H xs us Q I r h;obtain ⟨p,ys,rfl,hq,q⟩:=h;obtain ⟨u,rfl,rx⟩:=gh r;cases rx;have fin:∀ (its:List Value),Vals ys its->ys.length<=sizeLine->∀ (h':Heap) (c':Nat),(∀ b o',s.heap.get? b=some o'->h'.get? b=some o')->
   h'.get? s.heap.objs.size=some { cls:=.type "list",dict:=none,data:=.seq its.toArray c',slots:=#[] }->EP X pins σ Q (.ref s.heap.objs.size) { s with heap:=h' }:=fun its r' hz h' c' kp e=>
  ⟨.ref s.heap.objs.size,_,I.laid (t':=s.toks) kp (DN _) (show ObjOk X.prog X.w _ h' _ (.lst ys) from ⟨hz,its,c',r',e⟩),rfl,q _ (I.hok.fresh (DN _))⟩
 rcases hq with hq|hq
 ·obtain ⟨its,r',pl,hz⟩:=I.list hq;have hlen:=r'.length;obtain ⟨o,ho,hc,n,hd⟩:=pl.isList;exact call_list_seq p (.inl rfl) ho hc hd (fun h' c' kp e=>fin its r' hz h' c' kp e) (by simp only [D7]<;>omega)
 ·obtain ⟨its,r',pl,hz⟩:=I.tuple hq;have hlen:=r'.length;obtain ⟨o,ho,hc,n,hd⟩:=pl;exact call_list_seq p (.inr rfl) ho hc hd (fun h' c' kp e=>fin its r' hz h' c' kp e) (by simp only [D7]<;>omega)
theorem bn:c8 X (.type "tuple") (fun xs H Q=>∃ p ys,xs=[.ref p]/\((SqL X.K H p ys/\∀ l,H l=none->Q (.ref l) (aq H l (.tup ys)))\/(SqT X.K H p ys/\Q (.ref p) H))):=by
 intro pins s σ H xs us Q I r h;obtain ⟨p,ys,rfl,h⟩:=h;obtain ⟨u,rfl,rx⟩:=gh r;cases rx;rcases h with ⟨hq,q⟩|⟨hq,q⟩
 ·obtain ⟨its,r',pl,hz⟩:=I.list hq;have hlen:=r'.length;refine call_tuple_list pl.isList (fun h' kp=>?_) (by simp only [D7]<;>omega);have I1:Inv X pins σ H { s with heap:=h' }:=I.kept (t':=s.toks) kp;have I2:Inv X pins σ (aq H h'.objs.size (.tup ys)) { s with heap:=h'.push { cls:=.type "tuple",data:=.seq its.toArray } }:=
   I1.laid (t':=s.toks) (fun b o e=>DJ _ e) (DN _) (show ObjOk X.prog X.w _ _ _ (.tup ys) from ⟨hz,its,r',TupP.new _ _⟩)
  exact ⟨.ref h'.objs.size,_,I2,rfl,q _ (I1.hok.fresh (DN _))⟩
 ·obtain ⟨its,r',pl,hz⟩:=I.tuple hq;exact call_tuple_same pl ⟨.ref p,H,I,rfl,q⟩
def Cl (K:ZF) (T:String) (x:V) (H:Hp):Prop:=match x with
 | .str _=>T="str"
 | .int _=>T="int"
 | .ref p=>(T="list"/\∃ xs,SqL K H p xs)\/(T="tuple"/\∃ o,K.lookup p=some o/\o.cls=.type "tuple"/\o.dict=none) ∨
   (T="dict"/\((∃ kvs,H p=some (.dK kvs))\/∃ kvs,H p=some (.dT kvs)))\/(T="set"/\∃ S n,H p=some (.set S n))
 | _=>False
theorem nY {T:String} (I:Inv X pins σ H s) (r:RelV x v) (ty:Cl X.K T x H) :
  s.TypeIs v T/\∀ a,v=.ref a->∃ ob,s.heap.get? a=some ob/\ob.dict=none:=by
 cases x with
 | str z=>
  obtain ⟨t,rfl⟩:=r;cases (show T="str" from ty);exact ⟨typeIs_str s z t,fun _ e=>nomatch e⟩
 | int i=>
  obtain ⟨t,rfl⟩:=r;cases (show T="int" from ty);exact ⟨typeIs_int s i t,fun _ e=>nomatch e⟩
 | ref p=>
  cases r;rcases ty with ⟨rfl,xs,hq⟩|⟨rfl,o,hk,hc,hd⟩|⟨rfl,hk⟩|⟨rfl,S,n,hk⟩
  ·obtain ⟨its,_,pl,_⟩:=I.list hq;refine ⟨pl.isList.typeIs,fun a e=>?_⟩;cases e;obtain ⟨o,n,e,c,hd,_⟩:=pl;exact ⟨o,e,hd⟩
  ·refine ⟨⟨o,I.kIn p o hk,hc⟩,fun a e=>?_⟩;cases e;exact ⟨o,I.kIn _ o hk,hd⟩
  ·have z:∃ o,s.heap.get? p=some o/\o.ExactDict:=by
    rcases hk with ⟨kvs,hk⟩|⟨kvs,hk⟩
    ·obtain ⟨_,_,_,_,o,_,_,e,ex,_⟩:=I.hok p _ hk;exact ⟨o,e,ex⟩
    ·obtain ⟨_,_,_,_,o,_,_,e,ex,_⟩:=I.hok p _ hk;exact ⟨o,e,ex⟩
   obtain ⟨o,e,ex⟩:=z;refine ⟨⟨o,e,ex.1⟩,fun a e2=>?_⟩;cases e2;exact ⟨o,e,ex.2.1⟩
  ·obtain ⟨o,_,_,_,e,ex,_⟩:=I.hok p _ hk;refine ⟨⟨o,e,ex.1⟩,fun a e2=>?_⟩;cases e2;exact ⟨o,e,ex.2.1⟩
 | _=>exact False.elim ty
def Cm (K:ZF) (T:String) (r:V->List V->Hp->VK->Prop) (to:TE):TE:=fun σ H Q=>to σ H fun x H1=>Cl K T x H1/\r x [] H1 Q
def Dw (K:ZF) (T:String) (r:V->List V->Hp->VK->Prop) (to:TE) (t:TA):TE:=fun σ H Q=>to σ H fun x H1=>Cl K T x H1/\t σ H1 fun xs H2=>r x xs H2 Q
variable {o e:Expr} {es:List Expr} {to:TE} {t:TA} {name:Str} {apos cpos:Pos} {T id:String} {r:V->List V->Hp->VK->Prop}
theorem yn (pa:PlainAttrs T) (slot:Slot T name id) (hty:typeOf (.builtin id)=pure (.type "method_descriptor")) (hm:Ax X id r) (ho:PE X o to)
  (hbase:attributeBase o name X.env (eval o X.env)=eval o X.env:=by rfl) (hline:(apos.endLine == cpos.line)=true:=by rfl):PE X (.Call (.Attribute o name apos) [] [] cpos) (Cm X.K T r to):=by
 refine ⟨?_⟩;intro pins s σ H Q I h;refine wpAny_Call_method0_late hbase hline (bC (ho pins s σ H _ I h) fun v s1 ⟨x,H1,I1,r1,ty,q1⟩=>?_);obtain ⟨h1,h2⟩:=nY I1 r1 ty;exact ⟨T,id,pa,slot,hty,h1,h2,EU rfl (PySem.evalArgs_none (hm pins s1 σ H1 x [] v [] Q I1 r1 .nil q1))⟩
theorem bZ (pa:PlainAttrs T) (slot:Slot T name id) (hty:typeOf (.builtin id)=pure (.type "method_descriptor")) (hm:Ax X id r) (ho:PE X o to) (ha:PA X (e::es) t)
  (hbase:attributeBase o name X.env (eval o X.env)=eval o X.env:=by rfl)
  (hfew:((backTo cpos (starEach (e::es) X.env)).all (fun x=>!x.1) && (backToKw cpos (keywordEach [] X.env)).all (fun x=>x.1.isSome)
   && decide ((e::es).length+([]:List Keyword).length+(if ([]:List Keyword).isEmpty then 0 else 1) < 30))=true:=by rfl)
  (hline:(apos.endLine == cpos.line)=true:=by rfl) (hs:starEach (e::es) X.env=(false,eval e X.env)::starEach es X.env:=by rfl) (hplain:(backTo cpos (starEach es X.env)).any (·.1)=false:=by rfl) :
  PE X (.Call (.Attribute o name apos) (e::es) [] cpos) (Dw X.K T r to t):=by
 refine ⟨?_⟩;intro pins s σ H Q I h;refine wpAny_Call_method_late hbase hfew hline rfl (bC (ho pins s σ H _ I h) fun v s1 ⟨x,H1,I1,r1,ty,q1⟩=>?_);obtain ⟨h1,h2⟩:=nY I1 r1 ty;refine ⟨T,id,pa,slot,hty,h1,h2,?_⟩;have hA:=ha cpos pins s1 σ H1 _ I1 q1;rw [hs] at hA ⊢;refine EU (by show (false || (backTo cpos (starEach es X.env)).any (·.1))=false;rw [hplain]<;>rfl) (E7 ?_);exact bC hA fun us s2 ⟨vs,H2,I2,r2,q2⟩=>hm pins s2 σ H2 x vs v us Q I2 r1 r2 q2
end
def C8 (X:Cx) (id:String) (r:V->List V->Hp->VK->Prop):Prop:=
 ∀ (pins:List (Addr×Obj)) (s:Shared) (σ:St) (H:Hp) (x:V) (xs:List V) (v:Value) (us:List Value) (Q:VK),Inv X pins σ H s->RelV x v->Vals xs us->r x xs H Q->
  wpAny (model X.prog X.w) X.A (call (.builtin id) (v::us)) (EP X pins σ Q) X.xe s
theorem Vals.one:∀ {x:V} {us:List Value},Vals [x] us->∃ u,us=[u]/\RelV x u
 | _,_,.cons r .nil=>⟨_,rfl,r⟩
theorem Vals.zero:∀ {us:List Value},Vals [] us->us=[]
 | _,.nil=>rfl
variable {us:List Value} {xs:List V}
theorem Vals.reverse (h:Vals xs us):Vals xs.reverse us.reverse:=by
 induction h with
 | nil=>exact .nil
 | cons r t ih=>rw [List.reverse_cons,List.reverse_cons];exact Vals.append ih (.cons r .nil)
theorem Vals.rep (h:Vals xs us):∀ k:Nat,Vals (List.replicate k xs).flatten (List.replicate k us).flatten
 | 0=>.nil
 | k+1=>by
  rw [List.replicate_succ,List.replicate_succ,Et,Et];exact Vals.append h (Vals.rep h k)
theorem j3 (its:List Value):∀ (k:Nat) (acc:List Value),
  List.foldl (fun x1 x2=>x1++x2) acc.toArray (List.replicate k its.toArray)=(acc++(List.replicate k its).flatten).toArray
 | 0,acc=>by simp
 | k+1,acc=>by
  have e:acc.toArray++its.toArray=(acc++its).toArray:=by simp
  have e2:(acc++its)++(List.replicate k its).flatten=acc++(List.replicate (k+1) its).flatten:=by
   rw [List.replicate_succ,Et,En]
  rw [<-e2,<-j3 its k (acc++its),<-e,List.replicate_succ,List.foldl_cons]
section
variable {X:Cx} {pins:List (Addr×Obj)} {σ:St} {H:Hp} {s:Shared} {l b:Addr} {xs ys zs:List V}
theorem Inv.lset {its its':List Value} {n:Nat} {f:Array Value->Array Value} {t':Nat} (I:Inv X pins σ H s) (hH:H l=some (.lst xs))
  (e:s.heap.get? l=some { cls:=.type "list",data:=.seq its.toArray n }) (hf:f its.toArray=its'.toArray) (hv:Vals ys its') (hz:ys.length<=sizeLine) :
  Inv X pins σ (aq H l (.lst ys)) { s with heap:=s.heap.update l (Obj.mapSeq f),toks:=t' }:=by
 have q:=PySem.IsL.update e f;rw [hf] at q;refine I.write (x:=l) (e:=l) (by rw [hH];exact trivial) (.inl rfl) (fun b' u hb hu=>(Heap.get?_update_other s.heap (Obj.mapSeq f) (Ne.symm hb)).trans hu) ⟨_,q⟩ ?_;exact ⟨hz,its',_,hv,q⟩
theorem Inv.lnew {its:List Value} {t':Nat} (I:Inv X pins σ H s) (hv:Vals ys its) (hz:ys.length<=sizeLine) :
  Inv X pins σ (aq H s.heap.objs.size (.lst ys)) { s with heap:=s.heap.push { cls:=.type "list",data:=.seq its.toArray },toks:=t' }:=
 I.laid (fun _ _ q=>DJ _ q) (DN _) ⟨hz,its,0,hv,D8 _ rfl⟩
theorem Inv.fresh (I:Inv X pins σ H s):H s.heap.objs.size=none:=I.hok.fresh (DN _)
theorem Inv.lstM (I:Inv X pins σ H s) (hH:H l=some (.lst xs)):xs.length<=sizeLine/\∃ (its:List Value) (n:Nat),Vals xs its/\xs.length=its.length/\s.heap.get? l=some { cls:=.type "list",data:=.seq its.toArray n }:=by
 obtain ⟨z,its,n,r,e⟩:=I.hok l _ hH;exact ⟨z,its,n,r,r.length,e⟩
theorem r9 (h:n<=sizeLine):Builtin.List.listTooLong n=false:=by
 unfold Builtin.List.listTooLong;exact decide_eq_false zo
end
section
variable {X:Cx}
inductive pB (x:V) (vs:List V) (H:Hp) (Q:VK):Prop
 | mk (l xs y:_):x=.ref l->vs=[y]->H l=some (.lst xs)->xs.length < sizeLine->Q .non (aq H l (.lst (xs++[y])))->pB x vs H Q
theorem aT:C8 X "list.append" pB:=by
 intro pins s σ H x vs v us Q I rx rv h;obtain ⟨l,xs,y,rfl,rfl,hH,hz,q⟩:=h;cases rx;obtain ⟨u,rfl,ru⟩:=rv.one;obtain ⟨z,its,n,r,hl,e⟩:=I.lstM hH;refine call_meets F.slot_list_append ⟨_,e,rfl⟩ F.entry_list_append (F.args_list_append_2 _ _) (PySem.list_append l its.toArray n u (by rw [D7];omega)) ⟨e,?_⟩;refine ⟨.non,_,I.lset (its':=its++[u]) hH e (by simp) (r.append (.cons ru .nil)) ?_,rfl,q⟩;rw [DL,List.length_singleton];omega
inductive mj (x:V) (vs:List V) (H:Hp) (Q:VK):Prop
 | mk (l xs:_):x=.ref l->vs=[]->H l=some (.lst xs)->Q .non (aq H l (.lst xs.reverse))->mj x vs H Q
theorem nZ:C8 X "list.reverse" mj:=by
 intro pins s σ H x vs v us Q I rx rv h;obtain ⟨l,xs,rfl,rfl,hH,q⟩:=h;cases rx;have hus:=rv.zero;subst hus;obtain ⟨z,its,n,r,hl,e⟩:=I.lstM hH;refine call_meets F.slot_list_reverse ⟨_,e,rfl⟩ F.entry_list_reverse (F.args_list_reverse_1 _) (AutoSeq1.list_reverse_list_0 l its.toArray n (by rw [D7];omega)) ⟨e,?_⟩;refine ⟨.non,_,I.lset (its':=its.reverse) hH e (by simp) r.reverse ?_,rfl,q⟩;rw [List.length_reverse];omega
inductive AB (x:V) (y:V) (H:Hp) (Q:VK):Prop
 | mk (l b xs zs:_):x=.ref l->y=.ref b->H l=some (.lst xs)->H b=some (.lst zs)->xs.length+zs.length<=sizeLine->(∀ p,H p=none->Q (.ref p) (aq H p (.lst (xs++zs))))->AB x y H Q
theorem cj:dE X (binaryOp .Add) AB:=by
 intro pins s σ H x y v u Q I rx ry h;obtain ⟨l,b,xs,zs,rfl,rfl,hH,hB,hz,q⟩:=h;cases rx;cases ry;obtain ⟨z,its,n,r,hl,e⟩:=I.lstM hH;obtain ⟨z2,its2,n2,r2,hl2,e2⟩:=I.lstM hB;refine PySem.P.add_list e e2 ?_ (by rw [D7,D7];omega);have ea:its.toArray++its2.toArray=(its++its2).toArray:=by simp
 rw [ea];exact ⟨.ref _,_,I.lnew (t':=s.toks) (r.append r2) (by rw [DL];omega),rfl,q _ I.fresh⟩
inductive AC (x:V) (y:V) (H:Hp) (Q:VK):Prop
 | mk (l k xs:_):x=.ref l->y=.int k->H l=some (.lst xs)->-(2 ^ 63)<=k->k < 2 ^ 63->xs.length*k.toNat<=sizeLine->(∀ p,H p=none->Q (.ref p) (aq H p (.lst (List.replicate k.toNat xs).flatten)))->AC x y H Q
theorem kE {α:Type} (xs:List α) (k:Nat):(List.replicate k xs).flatten.length=k*xs.length:=by
 induction k with
 | zero=>simp
 | succ k ih=>rw [List.replicate_succ,Et,DL,ih,Nat.succ_mul,Nat.add_comm]
theorem sd:dE X (binaryOp .Mult) AC:=by
 intro pins s σ H x y v u Q I rx ry h;obtain ⟨l,k,xs,rfl,rfl,hH,h1,h2,hz,q⟩:=h;cases rx;obtain ⟨t,rfl⟩:=ry;obtain ⟨z,its,n,r,hl,e⟩:=I.lstM hH;have hlen:its.toArray.size*k.toNat<=sizeLine:=by rw [D7,<-hl];exact hz
 have hcap:¬ its.toArray.size*k.toNat > (2 ^ 63 - 1) / 8:=by
  have:(sizeLine:Nat)<=(2 ^ 63 - 1) / 8:=by decide
  omega
 have hfit:¬ (!Builtin.List.listFitsIndex k)=true:=by
  rw [fitsIndex_both h1 h2];exact D1
 have hlong:¬ Builtin.List.listTooLong (its.toArray.size*k.toNat)=true:=by
  rw [r9 hlen];exact D1
 have hnew:List.foldl (fun x1 x2=>x1++x2) #[] (List.replicate (if its.toArray.isEmpty=true then 0 else k.toNat) its.toArray)=(List.replicate k.toNat its).flatten.toArray:=by
  have f0:∀ m:Nat,List.foldl (fun x1 x2=>x1++x2) #[] (List.replicate m its.toArray)=(List.replicate m its).flatten.toArray:=fun m=>by
   have:=j3 its m [];rw [Fb] at this;exact this
  rw [f0];cases its with
  | nil=>simp
  | cons a r'=>rw [if_neg (by simp)]
 refine wpAny_binaryOp_repeat_ref (T:="list") (U:="int") zd ⟨_,e,rfl⟩ (fun s'=>typeIs_int s' k t) noFill_list_mul F.fills_int_mul F.slot_int_rmul repeat_list F.slot_int_index.lookup
  (call_meets F.slot_int_rmul (typeIs_int s k t) F.entry_int_rmul (F.args_int_rmul_2 _ _) (int___rmul___int_list k t l its.toArray n)
   ⟨e,rfl,⟨_,e,rfl⟩,call_meets F.slot_list_mul ⟨_,e,rfl⟩ F.entry_list_mul (F.args_list_mul_2 _ _) (AutoListH.list___mul___list_int_3 l its.toArray n k t hfit hcap hlong) ⟨e,?_⟩⟩)
 rw [hnew];exact ⟨.ref _,_,I.lnew (t':=s.toks) (r.rep k.toNat) (by rw [kE,Nat.mul_comm];exact hz),rfl,q _ I.fresh⟩
end
end L2
namespace Att
open PySem PySem.W PySem.Calls PyProof.Rows
variable {h:Heap} {P:Params}
theorem ints_of_wellAll:∀ (ns:List Int) (vs:List Value),WellAll P h vs (ns.map WData.int)->IntsAre vs ns:=by
 intro ns;induction ns with
 | nil=>
  intro vs w;rw [List.map_nil] at w;cases w;exact .nil
 | cons n ns ih=>
  intro vs w;rw [D6] at w;cases w with
  | cons a b=>
   cases a;exact .cons _ _ (ih _ b)
variable {n:Nat} {l:OpenLaw}
theorem script_of (hn:l.most=some n) {P:Params} {h:Heap} {args:List WData} {vals:List Value}
  (hpre:l.row.toRowW.claim.pre args=true) (hwl:WellAll P h vals args) :
  ∃ a vs ns,vals=[Value.ref a]/\args=[WData.list (ns.map WData.int)]/\h.get? a=some { cls:=.type "list",data:=.seq vs.toArray }/\IntsAre vs ns/\ns.length<=n:=by
 have hsh:WShape.hasAll [] args [.list .int]=true:=(pre_splitW hpre).1;have hc:l.pre.holds [] { args:=args }=true:=(pre_splitW hpre).2;obtain ⟨d,r,rfl,h1,h2⟩:=hasAllW_cons hsh;obtain rfl:=hasAllW_nil h2;obtain ⟨xs,rfl,h3⟩:=hasW_list h1;obtain ⟨ns,rfl⟩:=items_int h3;have hlen:ns.length<=n:=by
  unfold OpenLaw.pre at hc;have h4:(WTm.not (.lt (.lit (.int (n:Int))) (.len (.arg 0)))).holds [] { args:=[.list (ns.map .int)] }=true:=by
   have h4:=(holds_andW hc).1;rw [hn] at h4;exact h4
  have h5:=condW_of h4 (w_not (w_lt w_lit (w_len_list (w_arg rfl))));rw [DI] at h5;refine Nat.le_of_not_lt fun q=>?_;have q':(n:Int) < ((ns.length:Nat):Int):=by omega
  first
   | (rw [decide_eq_true q'] at h5;exact absurd h5 zd)
   | (simp at h5;omega)
 cases hwl with
 | cons w1 w2=>
  cases w2;cases w1 with
  | list ho hall=>exact ⟨_,_,ns,rfl,rfl,ho,ints_of_wellAll ns _ hall,hlen⟩
theorem post_true (l:OpenLaw) (args:List WData):l.row.toRowW.claim.post args (.bool true) args=true:=
 postW_of (r:=l.row.toRowW) (X:=(true == true))
  (show WShape.has [] (.bool true) .bool=true by first|rfl|decide|simp [WShape.has,WShape.arms,WShape.armsAll])
  (show (WTm.eq .res (.lit (.bool true))).value [] { args:=args,res:=some (.bool true),after:=args }=some (.bool (true == true)) from w_eq_bool (w_res rfl) w_lit) rfl
theorem attach_call {l:OpenLaw} {n:Nat} {q:Program} {loose:List Str} {XP:(Str->Option Value)->Heap->Prop} {YP:World->Heap->Prop} {d:DefRec}
  (hn:l.most=some n) (hdf:d.params.defaults=[])
  (call:∀ (w:World) (s₀ s₁:Shared) (mg mb:Str->Option Value) (fa:Addr) (o:Obj) (pm cd doc:Value) (a:Addr) (vs:List Value) (ns:List Int),
   Ground q loose [] XP w s₀ mg mb s₁.heap->YP w s₁.heap->
   s₁.heap.get? fa=some o->o.data=.func (docDef d.name d.params d.body d.scope pm cd doc)->s₁.heap.CodeRec cd d.name->mg d.name=some (.ref fa)->
   s₁.heap.get? a=some { cls:=.type "list",data:=.seq vs.toArray }->IntsAre vs ns->ns.length<=n->s₁.gens=#[]->
   codeAny (model l.prog w) callerA (.call (.ref fa) ⟨[.ref a],[]⟩) (fun r s'=>r=.ok (.ret (.bool true))/\OldK s₁.heap s'.heap/\s'.os=s₁.os/\AllBare s'.gens) s₁) :
  WalkO q loose XP YP l.row.toRowW d [] (fun f vs=>PySem.call f vs):=by
 intro w s₀ s₁ mg mb G Y fa o pm cd doc dV kV ho hd hcd hD hmg hg args vals as hpre hlay hrd hwl hlo;obtain rfl:dV=.none:=Dflts.none hD hdf;obtain rfl:kV=.none:=Dflts.noKw hD;obtain ⟨a,vs,ns,rfl,rfl,hobj,hints,hlen⟩:=script_of hn hpre hwl;refine enter_call (codeAny_mono (call w s₀ s₁ mg mb fa o pm cd doc a vs ns G Y ho (fd_plain hd) hcd hmg hobj hints hlen hg) fun r s' hq=>?_);obtain ⟨rfl,h2,h3,h4⟩:=hq;exact ⟨.inl ⟨.bool true,.bool true,[],rfl,fun _=>rfl,.bool true,post_true l _,fun _=>⟨List.Pairwise.nil,fun _ hm=>(nomatch hm)⟩⟩,h2,h3,h4⟩
section
variable {prog:Program} {w:World} {A:Around} {E:Value->Shared->Prop} {s:Shared} {K:Frag}
end
end Att
namespace L2
open PySem PySem.Spec PyProof.Rows
theorem j4:∀ {vs:List Value} {ns:List Int},IntsAre vs ns->Vals (ns.map V.int) vs
 | _,_,.nil=>.nil
 | _,_,.cons n t h=>.cons ⟨t,rfl⟩ (j4 h)
def vD (H:Hp):Prop:=∀ b,H b=none\/∃ o xs,H b=some (.frz o (.lst xs))
theorem sj {P:Program} {w:World} {K:ZF} {mg mb:Str->Option Value} {CX:nA} {k:Nat} {fa a:Addr} {fd:FuncData} {x:Str} {sp:Sp} {s₁:Shared} {vs:List Value} {ns:List Int}
  (KX:K.In s₁.heap) (hns:s₁.heap.Ns mainGlobals mg) (hb:s₁.heap.Ns builtinsNs mb) (hbb:∀ x:Str,x≠"__name__"->mb x=bootBuiltins x) (hlim:s₁.heap.NoLimit) (hg:s₁.gens=#[])
  (ha:s₁.heap.get? a=some { cls:=.type "list",data:=.seq vs.toArray }) (hi:IntsAre vs ns) (hl:ns.length<=sizeLine) (hr:Room k callerA)
  (F:∀ base:Heap,K.In base->base.Ns mainGlobals mg->FnOk P w K mg base CX k fa fd [x] sp) (hbind:∀ (s:Shared) (u:Value),BindsTo s fd ⟨[u],[]⟩ [(x,u)])
  (hsp:∀ H:Hp,vD H->SqL K H a (ns.map V.int)->sp [.ref a] H (fun v _=>v=.bl true) fun _ _ _=>False)
  (hCX:∀ H e s',CX [] H s₁ (fun _ _ _=>False) e s'->False) :
  codeAny (model P w) callerA (.call (.ref fa) ⟨[.ref a],[]⟩) (fun r s'=>r=.ok (.ret (.bool true))/\OldK s₁.heap s'.heap/\s'.os=s₁.os/\AllBare s'.gens) s₁:=by
 have rv:=j4 hi;have lenV:=hi.length;have core:∀ H:Hp,vD H->SqL K H a (ns.map V.int)->HOk P w H s₁.heap->(∀ b,H b≠none->b=a)->(H a≠none->K.lookup a=none)->
   codeAny (model P w) callerA (.call (.ref fa) ⟨[.ref a],[]⟩) (fun r s'=>r=.ok (.ret (.bool true))/\OldK s₁.heap s'.heap/\s'.os=s₁.os/\AllBare s'.gens) s₁:=by
  intro H hO hS hok hA hK;have base_of:∀ {b:Addr} {o:Obj},s₁.heap.get? b=some o->H b=none->(ku s₁.heap H).get? b=some o:=fun e n=>rm e n;have noA:∀ {b:Addr} {o:Obj} {es:Array DictEntry} {ep:Nat},s₁.heap.get? b=some o->o.data=.dict es ep->H b=none:=fun {b o es ep} e d=>by
   cases q:H b with
   | none=>rfl
   | some u=>
    have e':b=a:=hA b (by rw [q];simp);subst e';rw [ha] at e;cases e;have d':Data.seq vs.toArray _=Data.dict es ep:=d;cases d'
  have nsK:∀ {b:Addr} {m:Str->Option Value},s₁.heap.Ns b m->(ku s₁.heap H).Ns b m:=fun {b m} ⟨o,es,ep,e,d,r⟩=>⟨o,es,ep,base_of e (noA e d),d,r⟩;have hKb:K.In (ku s₁.heap H):=fun b o e=>base_of (KX b o e) (by
   cases q:H b with
   | none=>rfl
   | some u=>
    have e':b=a:=hA b (by rw [q];simp);subst e';rw [hK (by rw [q];simp)] at e;cases e)
  have hM:Mod K mg (ku s₁.heap H):=⟨hKb,nsK hns,⟨mb,nsK hb,hbb⟩,let ⟨mc,h1,h2⟩:=hlim;⟨mc,nsK h1,h2⟩⟩;have e0:Env0 P w K mg (ku s₁.heap H) callerA [] s₁ H:=⟨rfl,hM,fun b o e=>vk e,Nat.le_of_eq (qp _ _),trivial,fun b hb=>absurd (show b∈([]:List Addr) from hb) (by simp),hok,.of_eq hg⟩;refine codeAny_mono ((F _ hKb (nsK hns)).run callerA [] s₁ H ⟨[.ref a],[]⟩ [.ref a] [.ref a] _ _ hr e0 (hbind s₁ (.ref a)) (.cons rfl .nil) (hsp H hO hS)) fun r s' h=>?_;cases r with
  | error e=>exact (hCX H e s' h).elim
  | ok fl=>
   cases fl with
   | next=>exact False.elim h
   | brk=>exact False.elim h
   | cont=>exact False.elim h
   | ret u=>
    obtain ⟨v,H',os,bare,un,hok',r',q⟩:=h;have q':v=.bl true:=q;subst q';obtain rfl:u=Value.bool true:=r';refine ⟨rfl,OldK.of_keep fun b o e=>?_,os,bare⟩;cases q:H b with
    | none=>exact un.keep b o e q (by intro z;exact absurd (show b∈([]:List Addr) from z) (by simp)) (by simp)
    | some u=>
     rcases hO b with z|⟨ob,xs,z⟩
     ·rw [q] at z;cases z
     ·have z2:=un.frzs b ob _ z;obtain ⟨e1,_⟩:=hok b _ z;obtain ⟨e2,_⟩:=hok' b _ z2;rw [e] at e1;cases e1;exact e2
 cases hk:K.lookup a with
 | some o=>
  have e:=KX a o hk;rw [ha] at e;cases e;refine core (fun _=>none) (fun _=>.inl rfl) (.inr ⟨_,vs.toArray,_,hk,rfl,rfl,rfl,by rw [D7,lenV];exact hl,by simpa using rv⟩) (fun b u z=>by have z':(none:Option HO)=some u:=z;cases z') (fun b z=>absurd rfl z) fun z=>absurd rfl z
 | none=>
  refine core (fun b=>if b=a then some (.frz { cls:=.type "list",data:=.seq vs.toArray } (.lst (ns.map V.int))) else none) (fun b=>?_) (.inl (.inr ⟨{ cls:=.type "list",data:=.seq vs.toArray },if_pos rfl⟩)) (fun b u z=>?_) (fun b z=>?_) fun _=>hk
  ·by_cases hb:b=a
   ·exact .inr ⟨_,_,if_pos hb⟩
   ·exact .inl (if_neg hb)
  ·by_cases hb:b=a
   ·have z':=(if_pos hb).symm.trans z;cases z';subst hb;exact ⟨ha,by rw [DI];exact hl,vs,_,rv,ha⟩
   ·have z':=(if_neg hb).symm.trans z;cases z'
  ·by_cases hb:b=a
   ·exact hb
   ·exact absurd (if_neg hb) z
theorem vE {l:PySem.W.OpenLaw} {n k:Nat} {q:Program} {loose:List Str} {XP:(Str->Option Value)->Heap->Prop} {YP:World->Heap->Prop} {d:DefRec} {K:Params->ZF} {CX:World->nA} {sp:World->Sp} {x:Str}
  (hn:l.most=some n) (hn2:n<=sizeLine) (hdf:d.params.defaults=[]) (hr:Room k callerA)
  (hY:∀ (w:World) (h:Heap),YP w h->(K w.params).In h)
  (F:∀ (w:World) (mg:Str->Option Value) (fa:Addr) (h:Heap),(K w.params).In h->h.Ns mainGlobals mg->mg d.name=some (.ref fa)->
   ∃ fd:FuncData,(∀ (s:Shared) (u:Value),BindsTo s fd ⟨[u],[]⟩ [(x,u)]) /\
    ∀ base:Heap,(K w.params).In base->base.Ns mainGlobals mg->FnOk l.prog w (K w.params) mg base (CX w) k fa fd [x] (sp w))
  (hsp:∀ (w:World) (H:Hp) (a:Addr) (ns:List Int),ns.length<=n->vD H->SqL (K w.params) H a (ns.map V.int)->sp w [.ref a] H (fun v _=>v=.bl true) fun _ _ _=>False)
  (hCX:∀ (w:World) (H:Hp) (s:Shared) (e:Value) (s':Shared),CX w [] H s (fun _ _ _=>False) e s'->False) :
  PySem.W.WalkO q loose XP YP l.row.toRowW d [] (fun f vs=>PySem.call f vs):=by
 refine Att.attach_call hn hdf fun w s₀ s₁ mg mb fa o pm cd doc a vs ns G Y ho hd hcd hmg hobj hints hlen hg=>?_;have KX:=hY w _ Y;obtain ⟨fd,hb,hF⟩:=F w mg fa _ KX G.T.g hmg;exact sj KX G.T.g G.T.b G.T.builtins G.T.nolimit hg hobj hints (Ef hlen hn2) hr hF hb (fun H hO hS=>hsp w H a ns hlen hO hS) fun H e s'=>hCX w H s₁ e s'
theorem sk {l:PySem.W.OpenLaw} {n k:Nat} {q:Program} {loose:List Str} {XP:(Str->Option Value)->Heap->Prop} {YP:World->Heap->Prop} {d:DefRec} {K:Params->ZF} {CX:nA} {sp:ZF->Sp} {x:Str}
  (hn:l.most=some n) (hn2:n<=sizeLine) (hdf:d.params.defaults=[]) (hr:Room k callerA)
  (hY:∀ (w:World) (h:Heap),YP w h->(K w.params).In h)
  (F:∀ (w:World) (mg:Str->Option Value) (fa:Addr) (h:Heap),(K w.params).In h->h.Ns mainGlobals mg->mg d.name=some (.ref fa)->
   ∃ fd:FuncData,(∀ (s:Shared) (u:Value),BindsTo s fd ⟨[u],[]⟩ [(x,u)]) /\
    ∀ base:Heap,(K w.params).In base->base.Ns mainGlobals mg->FnOk l.prog w (K w.params) mg base CX k fa fd [x] (sp (K w.params)))
  (hsp:∀ (K:ZF) (H:Hp) (a:Addr) (ns:List Int),ns.length<=n->vD H->SqL K H a (ns.map V.int)->sp K [.ref a] H (fun v _=>v=.bl true) fun _ _ _=>False)
  (hCX:∀ (H:Hp) (s:Shared) (e:Value) (s':Shared),CX [] H s (fun _ _ _=>False) e s'->False) :
  PySem.W.WalkO q loose XP YP l.row.toRowW d [] (fun f vs=>PySem.call f vs):=
 vE (K:=K) (CX:=fun _=>CX) (sp:=fun w=>sp (K w.params)) hn hn2 hdf hr hY F (fun w H a ns h1 h2 h3=>hsp (K w.params) H a ns h1 h2 h3) fun _ H s e s'=>hCX H s e s'
end L2
namespace L2
open PySem PySem.Spec PyProof.Rows
def cy (s:Stmt) (j:Nat):Stmt:=match s with
 | .ClassDef _ _ _ body _ _ _ _ _ _ _=>body.getD j (.Pass ⟨0,0,0,0⟩)
 | _=>.Pass ⟨0,0,0,0⟩
def cz (s:Stmt):Arguments:=match s with
 | .FunctionDef _ a _ _ _ _ _ _ _ _=>a
 | _=>{ posonlyargs:=[],args:=[],vararg:=none,kwonlyargs:=[],kw_defaults:=[],kwarg:=none,defaults:=[] }
def cc (s:Stmt):List Stmt:=match s with
 | .FunctionDef _ _ b _ _ _ _ _ _ _=>b
 | _=>[]
def aj (s:Stmt):Scope:=match s with
 | .FunctionDef _ _ _ _ _ _ sc _ _ _=>sc
 | _=>{ kind:=.function,names:=[],isGenerator:=false,isCoroutine:=false }
abbrev bY:nA:=fun _ _ _ _ _ _=>False
abbrev E0:XK:=fun _ _ _=>False
variable {X:Cx}
theorem dL:dU bY X E0:=fun _ _ _ _ _ _ _ h=>h.elim
structure Fun (K:ZF) (x qual:Str) (st:Stmt) (f:Addr) (fd:FuncData):Prop where
 ex:∃ (oc:Value) (od:Option Addr) (kV doc pm:Value) (an:Option Addr) (cdv ct:Value) (osl:Array (Option Value)),
  fd=PySem.W.fnOf x qual (cz st) (cc st) (aj st) .none kV doc pm an cdv ct/\K.lookup f=some ⟨oc,od,.func fd,osl⟩/\PySem.W.codeIn K cdv qual=true
 kp:PySem.W.keepIn K (.ref f)=true
section
variable {P:Program} {w:World} {K:ZF} {mg:Str->Option Value} {base:Heap}
variable {fd:FuncData} {f:Addr} {st:Stmt} {x qual:Str}
theorem Fun.ok {N ps:List Str} {k:Nat} {sp:Sp} (F:Fun K x qual st f fd) (S:aw N ps (aj st)) (len:∀ vs H Q E,sp vs H Q E->vs.length=ps.length)
  (hbody:∀ (cdv:Value) (A:Around) (outer:List Env) (s:Shared) (H:Hp) (vs:List V) (Q:VK) (E:XK),Room k (A.deeper (envOfC qual (aj st) s.heap.objs.size f cdv))->sp vs H Q E->
   ∃ t,PSs (iC bY P w K mg base N qual (aj st) f cdv A outer s H E).nox (cc st) t/\t { nx:=fun _ H'=>Q .non H',rt:=Q } (start N vs) H):FnOk P w K mg base bY (k+1) f fd ps sp:=by
 obtain ⟨oc,od,kV,doc,pm,an,cdv,ct,osl,rfl,lk,hcd⟩:=F.ex;refine xq lk hcd S len fun A outer s H vs Q E hr hsp=>?_;obtain ⟨t,h,q⟩:=hbody cdv A outer s H vs Q E hr hsp;exact ⟨t,h.nox,q⟩
theorem Fun.binds {ps:List Str} (F:Fun K x qual st f fd)
  (h:∀ (kV doc pm:Value) (an:Option Addr) (cdv ct:Value) (us:List Value),us.length=ps.length->bindArgs (PySem.W.fnOf x qual (cz st) (cc st) (aj st) .none kV doc pm an cdv ct) ⟨us,[]⟩=pure (ps.zip us)):Binds K fd ps []:=by
 obtain ⟨oc,od,kV,doc,pm,an,cdv,ct,osl,rfl,lk,hcd⟩:=F.ex;exact .all (h kV doc pm an cdv ct)
theorem so {oc:Value} {od an:Option Addr} {osl:Array (Option Value)} {kV doc pm cdv ct:Value} (l:K.lookup f=some ⟨oc,od,.func (PySem.W.fnOf x qual (cz st) (cc st) (aj st) .none kV doc pm an cdv ct),osl⟩)
  (c:PySem.W.codeIn K cdv qual=true) (k:PySem.W.keepIn K (.ref f)=true):Fun K x qual st f (PySem.W.fnOf x qual (cz st) (cc st) (aj st) .none kV doc pm an cdv ct):=⟨⟨oc,od,kV,doc,pm,an,cdv,ct,osl,rfl,l,c⟩,k⟩
end
theorem gi {A:Around} {k:Nat} (hr:Room k A):A.units+1 < cLine:=Nat.lt_of_le_of_lt (Nat.add_le_add_left (by decide:1<=64) _) hr.units
section
variable {X:Cx}
theorem pv (i:Nat) {x:Str} {pos:Pos} (hN:X.N[i]?=some x:=by rfl) (hv:zO X.env.scope x:=by first|exact Or.inl rfl|exact Or.inr (Or.inl rfl)|exact Or.inr (Or.inr rfl)) (hd:(x == ("__debug__":Str))=false:=by decide)
  (hcd:(x == ("__classdict__":Str))=false:=by decide):PE X (.Name x pos) (qr i):=yb hN hv hd hcd
end
variable {A B:Prop}
theorem bP (h:B):if false=true then A else B:=by
 rw [if_neg D1];exact h
theorem gM (h:A):if true=true then A else B:=by
 rw [if_pos rfl];exact h
theorem kF {c A B:Prop} [Decidable c] (h1:c->A) (h2:¬ c->B):if c then A else B:=by
 by_cases h:c
 ·rw [if_pos h];exact h1 h
 ·rw [if_neg h];exact h2 h
def Same (H H':Hp):Prop:=∀ b o,H b=some o->H' b=some o
theorem Same.refl (H:Hp):Same H H:=fun _ _ h=>h
variable {H H1 H2:Hp}
theorem Same.trans (a:Same H H1) (b:Same H1 H2):Same H H2:=fun c o h=>b c o (a c o h)
theorem Same.free {H H':Hp} (e:Same H H') {l:Addr} (h:H' l=Option.none):H l=Option.none:=by
 cases q:H l with
 | none=>rfl
 | some o=>
  rw [e l o q] at h;cases h
theorem Same.seq {K:ZF} {H H':Hp} {a:Addr} {xs:List V} (e:Same H H') (h:SqL K H a xs):SqL K H' a xs:=by
 rcases h with (h|⟨o,h⟩)|h
 ·exact .inl (.inl (e _ _ h))
 ·exact .inl (.inr ⟨o,e _ _ h⟩)
 ·exact .inr h
theorem gv (env:Env):∀ (names:List (Str×NameKind)) (cs:List (Str×Addr)),(∀ x∈names,x.2=.free->∃ c,env.cells.lookup x.1=some c)->(∀ x c,cs.lookup x=some c->env.cells.lookup x=some c)->
  ∃ cl,(forIn names cs fun (p:Str×NameKind) (r:List (Str×Addr))=>(if (p.2 == NameKind.free)=true then do let c <-cellOf env p.1;pure (ForInStep.yield ((p.1,c)::r)) else pure (ForInStep.yield r):Sem (ForInStep (List (Str×Addr)))))=(pure cl:Sem (List (Str×Addr))) /\
   (∀ x c,cl.lookup x=some c->env.cells.lookup x=some c)/\(∀ x,(∃ c,cs.lookup x=some c)->∃ c,cl.lookup x=some c)/\∀ x∈names,x.2=.free->∃ c,cl.lookup x.1=some c
 | [],cs,_,h=>⟨cs,rfl,h,fun _ z=>z,fun _ z=>nomatch z⟩
 | (n,k)::r,cs,hn,h=>by
  by_cases e:k=.free
  ·subst e;obtain ⟨c,hc⟩:=hn (n,.free) DM rfl;have h':∀ x c',((n,c)::cs).lookup x=some c'->env.cells.lookup x=some c':=fun x c' q=>by
    rw [EI] at q;cases ex:x == n with
    | true=>
     rw [ex] at q;have:x=n:=by simpa using ex
     subst this;cases q;exact hc
    | false=>rw [ex] at q;exact h x c' q
   obtain ⟨cl,e1,e2,e3,e4⟩:=gv env r ((n,c)::cs) (fun x hx=>hn x (DR _ hx)) h';refine ⟨cl,?_,e2,fun x ⟨c',q⟩=>e3 x ?_,fun x hx hf=>?_⟩
   ·rw [List.forIn_cons];rw [if_pos (show (((n,NameKind.free):Str×NameKind).2 == NameKind.free)=true from by rfl)];unfold cellOf;rw [hc];exact e1
   ·rw [EI];cases ex:x == n with
    | true=>exact ⟨c,rfl⟩
    | false=>exact ⟨c',q⟩
   ·rcases DY.mp hx with z|z
    ·subst z;exact e3 n ⟨c,by rw [EI];simp⟩
    ·exact e4 x z hf
  ·obtain ⟨cl,e1,e2,e3,e4⟩:=gv env r cs (fun x hx=>hn x (DR _ hx)) h;refine ⟨cl,?_,e2,e3,fun x hx hf=>?_⟩
   ·rw [List.forIn_cons];rw [if_neg (show ¬ (((n,k):Str×NameKind).2 == NameKind.free)=true by simpa using e)];exact e1
   ·rcases DY.mp hx with z|z
    ·subst z;exact absurd hf e
    ·exact e4 x z hf
variable {sc:Scope} {env:Env}
theorem oa (hn:∀ x∈sc.names,x.2=.free->∃ c,env.cells.lookup x.1=some c) :
  ∃ cl,closureFor sc env=pure cl/\(∀ x c,cl.lookup x=some c->env.cells.lookup x=some c)/\∀ x∈sc.names,x.2=.free->∃ c,cl.lookup x.1=some c:=by
 obtain ⟨cl,e1,e2,_,e4⟩:=gv env sc.names [] hn (fun x c z=>by cases z);refine ⟨cl,?_,e2,e4⟩;unfold closureFor;exact (congrArg (fun (m:Sem (List (Str×Addr)))=>m >>= fun r=>pure r) e1)
theorem dM {κ:Type}:∀ {l:List (Str×κ)} {x:Str} {k:κ},l.lookup x=some k->(x,k)∈l
 | [],_,_,h=>by cases h
 | (n,k')::r,x,k,h=>by
  rw [EI] at h;cases e:x == n with
  | true=>
   rw [e] at h;have:x=n:=by simpa using e
   subst this;cases h;exact DM
  | false=>
   rw [e] at h;exact DR _ (dM h)
def kG (env:Env) (x:Str) (k:NameKind):NameKind:=if (k == NameKind.free && env.scope.kind == .function && env.kindOf x == some .cell)=true then .cell else k
theorem i6 {env:Env}:∀ {names:List (Str×NameKind)} {x:Str},
  (names.map fun (p:Str×NameKind)=>match p with|(n,k)=>if (k == NameKind.free && env.scope.kind == .function && env.kindOf n == some .cell)=true then (n,NameKind.cell) else (n,k)).lookup x=(names.lookup x).map (kG env x)
 | [],x=>rfl
 | (n,k)::r,x=>by
  rw [D6];by_cases e:x=n
  ·subst e;dsimp only;by_cases c:(k == NameKind.free && env.scope.kind == .function && env.kindOf x == some .cell)=true
   ·rw [if_pos c];have z:kG env x k=.cell:=if_pos c;simp [EI,z]
   ·rw [if_neg c];have z:kG env x k=k:=if_neg c;simp [EI,z]
  ·have e':(x == n)=false:=by simpa using e
   dsimp only;rw [EI (a:=x) (b:=k),e'];show _=(r.lookup x).map (kG env x);rw [<-i6];by_cases c:(k == NameKind.free && env.scope.kind == .function && env.kindOf n == some .cell)=true
   ·rw [if_pos c,EI,e']
   ·rw [if_neg c,EI,e']
variable {C:Addr}
theorem i7 {cl:List (Str×Addr)} {x:Str}:(compEnvC sc cl C env).kindOf x=(sc.names.lookup x).map (kG env x):=i6
def qw (N:List Str) (sc0 sc:Scope) (N':List Str) (ix:List (Option Nat)):Bool:=
 sc.kind == .function && ix.length == N'.length &&
 sc.names.all (fun p=>p.2 != .cell && (p.2 != .free || (sc0.names.lookup p.1 == some .cell || sc0.names.lookup p.1 == some .free)) && (p.2 != .local || sc.names.lookup p.1 == some .local)) &&
 (List.range N'.length).all fun j=>match ix[j]?,N'[j]? with
  | some (some i),some x=>N[i]? == some x && sc.names.lookup x == some .free
  | _,_=>true
theorem j5 {N:List Str} {sc0 sc:Scope} {N':List Str} {ix:List (Option Nat)} (h:qw N sc0 sc N' ix=true) :
  sc.kind=.function/\ix.length=N'.length/\(∀ p∈sc.names,p.2≠.cell)/\(∀ p∈sc.names,p.2=.free->sc0.names.lookup p.1=some .cell\/sc0.names.lookup p.1=some .free) /\
   (∀ p∈sc.names,p.2=.local->sc.names.lookup p.1=some .local)/\∀ (j i:Nat) (x:Str),ix[j]?=some (some i)->N'[j]?=some x->N[i]?=some x/\sc.names.lookup x=some .free:=by
 unfold qw at h;simp only [Er,Eh,beq_iff_eq,bne_iff_ne,Bool.or_eq_true,ne_eq] at h;obtain ⟨⟨⟨h1,h2⟩,h3⟩,h4⟩:=h;refine ⟨h1,h2,fun p hp=>(h3 p hp).1.1,fun p hp hf=>?_,fun p hp hl=>?_,fun j i x e1 e2=>?_⟩
 ·rcases (h3 p hp).1.2 with z|z
  ·exact absurd hf z
  ·exact z
 ·rcases (h3 p hp).2 with z|z
  ·exact absurd hl z
  ·exact z
 ·have hj:j < N'.length:=(DK.mp e2).1;have:=h4 j (Ez.mpr hj);rw [e1,e2] at this;simpa using this
def jH (X:Cx) (sc:Scope) (N':List Str) (C:Addr) (cl:List (Str×Addr)) (s:Shared) (H:Hp) (fp:List Addr):Cx:=
 { X with N:=N',s₀:=s,H₀:=H,env:=compEnvC sc cl C X.env,outer:=X.stack,stack:=X.stack,ex:=fp,fn:=fun _=>false,pn:=[],xe:=fun _ _=>False }
def j6 (ix:List (Option Nat)) (σ:St):St:=ix.map fun o=>match o with|some i=>(σ[i]?).getD none|none=>none
def ExtL:St->St->Prop
 | [],[]=>True
 | none::r,_::r'=>ExtL r r'
 | some v::r,w::r'=>w=some v/\ExtL r r'
 | _,_=>False
theorem ExtL.spec:∀ {a b:St},ExtL a b->a.length=b.length/\∀ (i:Nat) v,a[i]?=some (some v)->b[i]?=some (some v)
 | [],[],_=>⟨rfl,fun _ _ z=>by simp at z⟩
 | [],_::_,h=>h.elim
 | none::r,[],h=>h.elim
 | some v::r,[],h=>h.elim
 | none::r,w::r',h=>by
  obtain ⟨e1,e2⟩:=ExtL.spec (a:=r) (b:=r') h;refine ⟨by simp [e1],fun i v z=>?_⟩;cases i with
  | zero=>simp at z
  | succ i=>simpa using e2 i v (by simpa using z)
 | some u::r,w::r',h=>by
  obtain ⟨e0,h⟩:=h;obtain ⟨e1,e2⟩:=ExtL.spec (a:=r) (b:=r') h;refine ⟨by simp [e1],fun i v z=>?_⟩;cases i with
  | zero=>simp at z;subst z;simp [e0]
  | succ i=>simpa using e2 i v (by simpa using z)
structure PF (X:Cx) (ifs:List Expr) (t:TT):Prop where
 run:∀ (pins:List (Addr×Obj)) (s:Shared) (σ:St) (H:Hp) (Q:Bool->Hp->Prop),Inv X pins σ H s->t σ H Q->
  wpAny (model X.prog X.w) X.A (forIn ifs true fun c r=>if r=true then do let ok <-isTrue c X.env (eval c X.env);pure (ForInStep.yield ok) else pure (ForInStep.yield r)) (TP X pins σ Q) X.xe s
instance {X:Cx} {ifs:List Expr} {t:TT}:CoeFun (PF X ifs t) fun _=>∀ (pins:List (Addr×Obj)) (s:Shared) (σ:St) (H:Hp) (Q:Bool->Hp->Prop),Inv X pins σ H s->t σ H Q->
  wpAny (model X.prog X.w) X.A (forIn ifs true fun c r=>if r=true then do let ok <-isTrue c X.env (eval c X.env);pure (ForInStep.yield ok) else pure (ForInStep.yield r)) (TP X pins σ Q) X.xe s:=⟨PF.run⟩
def AD:TT:=fun _ H Q=>Q true H
theorem c0:PF X [] AD:=⟨fun pins s σ H Q I h=>wpAny_tests_nil ⟨H,I,h⟩⟩
theorem kH {c:Expr} {t:TT} (h:PT X c t):PF X [c] t:=⟨fun pins s σ H Q I q=>wpAny_tests_one (h pins s σ H Q I q)⟩
def og (J:It) (g:TG) (tf:TT) (te:TE) (ix:List (Option Nat)) (σ:St) (H1:Hp) (Q:VK):Prop:=∃ W:Nat->Nat->List V->Hp->Prop,(∃ m,W 0 m [] H1)/\∀ i m ys H,W i m ys H->
 (J.stop i H/\ys.length<=sizeLine/\∀ D,H D=none->Q (.ref D) (aq H D (.lst ys))) ∨
 (J.go i H/\ys.length<=sizeLine/\∀ x H',J.yld i H x H'->g x (j6 ix σ) H' fun σ2 H2=>ExtL (j6 ix σ) σ2/\tf σ2 H2 fun b H3=>if b=true then te σ2 H3 fun y H4=>∃ m',m' < m/\W (i+1) m' (ys++[y]) H4 else ∃ m',m' < m/\W (i+1) m' ys H3)
def Cn (wi:TI) (g:TG) (tf:TT) (te:TE) (ix:List (Option Nat)):TE:=fun σ H Q=>wi σ H fun J H1=>og J g tf te ix σ H1 Q
section
variable {X:Cx} {tg elt iter:Expr} {ifs:List Expr} {sc:Scope} {N':List Str} {ix:List (Option Nat)} {pins:List (Addr×Obj)} {σ:St} {H2:Hp} {s2:Shared} {fp:List Addr} {cl:List (Str×Addr)} {C:Addr} {pos:Pos}
theorem yo (I:Inv X pins σ H2 s2) (hix:qw X.N X.env.scope sc N' ix=true) (e2:∀ x c,cl.lookup x=some c->X.env.cells.lookup x=some c) (e3:∀ x∈sc.names,x.2=.free->∃ c,cl.lookup x.1=some c)
  (f2:∀ b∈fp,jF X pins H2 b) (fo:∀ b∈fp,∃ o,s2.heap.get? b=some o) (hC:s2.heap.objs.size<=C):(jH X sc N' C cl s2 H2 fp).Ok:=by
 obtain ⟨k1,_,k3,_,_,_⟩:=j5 hix;refine ⟨I.ok.mod,k1,I.ok.glob,I.ok.blt,hC,fun x y c a b=>I.ok.inj x y c (e2 x c a) (e2 y c b),fun x hx=>?_,fun x c z=>(by cases z),I.ok.hd,I.ok.frames,.inl rfl,fun b hb=>?_,I.bs,Ef I.ok.bsz I.sz,fun b o e hb=>?_,fun b hb hf=>?_,I.stack,I.stkFree⟩
 ·have hx':(compEnvC sc cl C X.env).kindOf x=some .cell\/(compEnvC sc cl C X.env).kindOf x=some .free:=hx;rw [i7] at hx';cases q:sc.names.lookup x with
  | none=>rw [q] at hx';rcases hx' with z|z<;>cases z
  | some k=>
   have hm:=dM q;have hf:k=.free:=by
    rw [q] at hx';have nk:=k3 _ hm;cases k with
    | free=>rfl
    | cell=>exact absurd rfl nk
    | _=>rcases hx' with z|z<;>(simp [kG] at z)
   exact e3 (x,k) hm hf
 ·obtain ⟨o,ho⟩:=fo b hb;exact ⟨Eg (Ed (DW ho) hC),fun x c q=>(f2 b hb).2.2.2.2.1 x c (e2 x c q)⟩
 ·have hb':b∈fp:=hb;rcases (f2 b hb').2.2.2.1 with z|z
  ·exact I.ok.noex b o e z
  ·exact absurd (Ed (DW e) (Ef I.ok.bsz z)) (EH _)
 ·have hb':b∈fp:=hb;rcases DY.mp (I.stkSub b hf) with z|z
  ·exact (f2 b hb').2.1 z
  ·exact (f2 b hb').2.2.1 z
end
section
variable {X:Cx} {tg elt iter:Expr} {ifs:List Expr} {sc sc0:Scope} {N N':List Str} {ix:List (Option Nat)} {pos:Pos} {wi:TI} {g:TG} {tf:TT} {te:TE}
structure LcEnd (X:Cx) (pins:List (Addr×Obj)) (σ:St) (H:Hp) (s:Shared) (C:Addr):Prop where
 inv:Inv X pins σ H s
 ns:∃ m,s.heap.Ns C m
 free:H C=none
 loc:C≠X.env.locals
 cel:∀ x c,X.env.cells.lookup x=some c->c≠C
 abv:X.s₀.heap.objs.size<=C
 pin:∀ p∈X.pn++pins,p.1≠C
variable {s:Shared} {σ:St} {pins:List (Addr×Obj)}
theorem LcEnd.gone {h':Heap} (L:LcEnd X pins σ H s C) (sb:Heap.SameBut C s.heap h'):Inv X pins σ H { s with heap:=h' }:=
 L.inv.turned (it:=C) (t':=s.toks) (fun b o hb e=>(sb.2 b hb).trans e) L.free L.loc (.inr L.abv) L.cel L.pin
theorem pC {pins:List (Addr×Obj)} {σ:St} {H:Hp} {s:Shared} {Q:VK} {use:Option (Value->Sem Unit)} {Qf:Value->Shared->Prop} {cpos:Pos} (hc:X.calm=true) (hix:qw X.N X.env.scope sc N' ix=true) (hi:PI X tg iter wi)
  (hg:∀ C cl s H fp,PG (jH X sc N' C cl s H fp) tg g) (hf:∀ C cl s H fp,PF (jH X sc N' C cl s H fp) ifs tf) (he:∀ C cl s H fp,PE (jH X sc N' C cl s H fp) elt te)
  (hs:∀ x,foldedSetIterable iter X.env x=pure x) (I:Inv X pins σ H s) (h:Cn wi g tf te ix σ H Q)
  (hend:∀ (C D:Addr) (H':Hp) (s':Shared),LcEnd X pins σ H' s' C->Q (.ref D) H'->compPost (model X.prog X.w) X.A X.xe use Qf (.ref D) C (.ok .next) s') :
  wpAny (model X.prog X.w) X.A (comprehension (.ListComp elt [⟨tg,iter,ifs,0⟩] sc pos) sc X.env cpos (newList []) false (eval iter X.env) use) Qf X.xe s:=by
 obtain ⟨hk,hlen,hcell,hfreeX,hnames,hat⟩:=j5 hix;obtain ⟨cl,e1,e2,e3⟩:=oa (env:=X.env) (sc:=sc) (fun x hx hf=>I.ok.has x.1 (hfreeX x hx hf));refine wpAny_comprehension_free (use:=use) (cl:=cl) rfl hs e1 hk hnames (bC (hi pins s σ H _ I h) fun v s1 h1=>bC h1 fun itv s2 h2=>?_);obtain ⟨it,fp,tn,J,H2,e,I2,T,st2,f2,W,⟨m0,w0⟩,turn⟩:=h2;subst e;refine wpAny_newObj_type (wpAny_newFunctionEnv hcell (by intro y hy;simp at hy) (fun h₁ hns₁ hsb₁=>?_) hk);dsimp only at hns₁ hsb₁ ⊢;generalize hH2:s2.heap.push { cls:=.type "list",dict:=none,data:=.seq ([]:List Value).toArray }=G2 at hns₁ hsb₁ ⊢;have hCs:G2.objs.size=s2.heap.objs.size+1:=by rw [<-hH2,EK]
 have hDC:s2.heap.objs.size≠G2.objs.size:=by rw [hCs];exact Eg (E2 _)
 have hCle:s2.heap.objs.size<=G2.objs.size:=by rw [hCs];exact E4 _
 have belowC:∀ b,b < s2.heap.objs.size->b≠G2.objs.size:=fun b hb=>by rw [hCs];exact Eg (Nat.lt_succ_of_lt hb)
 have belowD:∀ b,b < s2.heap.objs.size->b≠s2.heap.objs.size:=fun b hb=>Eg hb;have old:∀ b o,s2.heap.get? b=some o->h₁.get? b=some o:=fun b o e=>hsb₁.extBut b o (belowC b (DW e)) (DJ _ (hH2 ▸ DJ _ e));have hacc:h₁.get? s2.heap.objs.size=some { cls:=.type "list",data:=.seq ([]:List Value).toArray }:=hsb₁.extBut _ _ hDC (DJ _ (hH2 ▸ D8 _ rfl));have fo:∀ b∈fp,∃ o,s2.heap.get? b=some o:=fun b hb=>let ⟨o,ho,_⟩:=T.obj _ _ st2 b hb;⟨o,ho⟩;have fD:∀ b∈fp,b≠s2.heap.objs.size:=fun b hb=>let ⟨o,ho⟩:=fo b hb;belowD b (DW ho);have ok':(jH X sc N' G2.objs.size cl s2 H2 fp).Ok:=yo I2 hix e2 e3 f2 fo hCle;have HD:H2 s2.heap.objs.size=none:=I2.hok.fresh (DN _);have HC:H2 G2.objs.size=none:=I2.hok.fresh hCle;have I4:Inv (jH X sc N' G2.objs.size cl s2 H2 fp) [] (j6 ix σ) H2 { s2 with heap:=h₁,toks:=s2.toks+([]:List (Str×Value)).length }:=by
  refine ⟨ok',rfl,I2.bare,Un.kept old,⟨_,hns₁,fun j x v a b c=>?_⟩,fun x c q=>?_,HC,fun x c q=>I2.freeC x c (e2 x c q),fun p hp=>(by cases hp),I2.hok.kept old,?_⟩
  ·
   have a':N'[j]?=some x:=a;have b':(ix.map fun o=>match o with|some i=>(σ[i]?).getD none|none=>none)[j]?=some (some v):=b;rw [Ec] at b';cases q:ix[j]? with
   | none=>rw [q] at b';cases b'
   | some o=>
    rw [q] at b';cases o with
    | none=>cases b'
    | some i=>
     obtain ⟨n1,n2⟩:=hat j i x q a';have b'':(σ[i]?).getD none=some v:=D5 b';have sv:σ[i]?=some (some v):=by
      cases z:σ[i]? with
      | none=>rw [z] at b'';cases b''
      | some y=>rw [z] at b'';exact congrArg some b''
     obtain ⟨m,hn,hl⟩:=I2.loc;have kx:=hfreeX (x,.free) (dM n2) rfl;obtain ⟨u,r,lk⟩:=hl i x v n1 sv (.inr kx);refine ⟨u,r,.inr ⟨?_,?_⟩⟩
     ·show (compEnvC sc cl G2.objs.size X.env).kindOf x=some .cell\/(compEnvC sc cl G2.objs.size X.env).kindOf x=some .free;rw [i7,n2];show some (kG X.env x .free)=some .cell\/some (kG X.env x .free)=some .free;unfold kG;split
      ·exact .inl rfl
      ·exact .inr rfl
     ·obtain ⟨c1,hc1⟩:=e3 (x,.free) (dM n2) rfl;refine ⟨c1,hc1,?_⟩;have hc2:=e2 x c1 hc1;rcases lk with ⟨z,_⟩|⟨_,c,hcc,hcl⟩
      ·have z':X.env.scope.names.lookup x=some .local:=z;rcases kx with y|y<;>(rw [y] at z';cases z')
      ·rw [hc2] at hcc;cases hcc;obtain ⟨o,ho,hd⟩:=hcl;exact ⟨o,old c1 o ho,hd⟩
  ·obtain ⟨v,o,ho,hd⟩:=I2.cell x c (e2 x c q);exact ⟨v,o,old c o ho,hd⟩
  ·show (ix.map _).length=N'.length;rw [DI,hlen]
 have cellD:∀ x c,cl.lookup x=some c->c≠s2.heap.objs.size:=fun x c q z=>by
  obtain ⟨v,o,ho,hd⟩:=I2.cell x c (e2 x c q);exact belowD c (DW ho) z
 have loop:∀ s₃:Shared,s₃={ s2 with heap:=h₁,toks:=s2.toks+([]:List (Str×Value)).length }->
   codeAny (model X.prog X.w) X.A (.compLoop (.ListComp elt [⟨tg,iter,ifs,0⟩] sc pos) 0 (.ref it) (.ref s2.heap.objs.size) (compEnvC sc cl G2.objs.size X.env))
    (compPost (model X.prog X.w) X.A X.xe use Qf (.ref s2.heap.objs.size) G2.objs.size) s₃:=by
  rintro s₃ rfl;refine codeAny_loop rfl (fun n s'=>∃ i ys H' its k,Inv (jH X sc N' G2.objs.size cl s2 H2 fp) [] (j6 ix σ) H' s'/\tn i s'.heap/\(∀ b∈fp,H' b=none)/\H' s2.heap.objs.size=none /\
   Vals ys its/\s'.heap.get? s2.heap.objs.size=some { cls:=.type "list",data:=.seq its.toArray k }/\W i n ys H') ?_ m0
   ⟨0,[],H2,[],_,I4,T.keep _ _ _ st2 (fun b _ o e=>old b o e),fun b hb=>(f2 b hb).1,HD,.nil,hacc,w0⟩
  rintro n s5 ⟨i,ys,H5,its,k,I5,st5,fr5,hD5,vv,oD,w5⟩;show wpAny _ X.A ((compTurn (.ListComp elt [⟨tg,iter,ifs,0⟩] sc pos) 0 (.ref it) (.ref s2.heap.objs.size) (compEnvC sc cl G2.objs.size X.env)).onRaise (fun x=>do noteFrame x (compEnvC sc cl G2.objs.size X.env);theTreesLotGoes x)) _ _ s5;refine wpAny_noted ?_;rw [compTurn_list];have I5p:Inv (jH X sc N' G2.objs.size cl s2 H2 fp) [(s2.heap.objs.size,{ cls:=.type "list",data:=.seq its.toArray k })] (j6 ix σ) H5 s5:=I5.pins_of fun p hp=>by
   have hp':p=(s2.heap.objs.size,{ cls:=.type "list",data:=.seq its.toArray k }):=by simpa using hp
   subst hp';refine ⟨oD,hD5,hDC,fun hb=>?_,fun v z=>(by cases z)⟩;obtain ⟨_,o,ho,_⟩:=I2.stack.mem (show s2.heap.objs.size∈ky X.stack from hb);exact EH _ (DW ho)
  have fpk:∀ {H':Hp},(∀ b∈fp,H' b=none)->∀ b∈fp,jF (jH X sc N' G2.objs.size cl s2 H2 fp) [(s2.heap.objs.size,({ cls:=.type "list",data:=.seq its.toArray k }:Obj))] H' b:=fun {H'} hn b hb=>by
   refine ⟨hn b hb,(ok'.exf b hb).1,ok'.exfs b hb,.inl hb,(ok'.exf b hb).2,fun p hp=>?_⟩;have hp':p=(s2.heap.objs.size,({ cls:=.type "list",data:=.seq its.toArray k }:Obj)):=by
    have z:p∈([]:List (Addr×Obj))++[(s2.heap.objs.size,({ cls:=.type "list",data:=.seq its.toArray k }:Obj))]:=hp;simpa using z
   subst hp';exact (fD b hb).symm
  rcases turn i n ys H5 w5 with ⟨stop,hz,qn⟩|⟨go,hz,step⟩
  ·refine wpAny_bind (wpAny_standAt (wpAny_bind (wpAny_mono (T.done (jH X sc N' G2.objs.size cl s2 H2 fp) rfl rfl rfl hc i _ s5 (j6 ix σ) H5 (fun _ _=>False) I5p (fpk fr5) st5 stop) (fun r s6 ⟨hr,I6⟩=>?_) fun _ _ f=>f.elim)));subst hr;refine wpAny_pure ?_;obtain ⟨m,hn,_⟩:=I6.loc;have oD6:s6.heap.get? s2.heap.objs.size=some { cls:=.type "list",data:=.seq its.toArray k }:=(I6.pin (s2.heap.objs.size,{ cls:=.type "list",data:=.seq its.toArray k }) (by show _∈([]:List (Addr×Obj))++_;simp)).1;have u6:Un (ky X.stack) fp H2 H5 s2.heap s6.heap:=I6.base;have HC5:H5 G2.objs.size=none:=I6.free;refine hend _ _ (aq H5 s2.heap.objs.size (.lst ys)) s6 ⟨?_,⟨m,hn⟩,by rw [ao hDC.symm];exact HC5,(belowC _ I2.lt).symm,fun x c q=>?_,Ef I2.sz hCle,fun p hp=>?_⟩ (qn _ hD5)
   ·refine I2.call' (s':=s6) (ch:=fp) I6.os ?_ ?_ I6.bare fun b hb=>⟨(f2 b hb).2.2.2.1,(f2 b hb).2.1,(f2 b hb).2.2.2.2.1,(f2 b hb).2.2.2.2.2⟩
    ·refine ⟨fun b o e n nf nx=>u6.keep b o e n nf nx,fun b o e n nf nx=>u6.slot b o e n nf nx,fun b o e n nx=>?_,fun b o e nx=>u6.there b o e nx,fun b xs e=>?_,fun b o u e=>?_,fun b ps e=>?_⟩
     ·rw [ao (belowD b (DW e))];exact u6.free b o e n nx
     ·rw [ao (ap e HD)];exact u6.tups b xs e
     ·rw [ao (ap e HD)];exact u6.frzs b o u e
     ·rw [ao (ap e HD)];exact u6.tbls b ps e
    ·intro b o e;by_cases hb:b=s2.heap.objs.size
     ·subst hb;rw [ae] at e;cases e;exact ⟨hz,its,k,vv,oD6⟩
     ·rw [ao hb] at e;refine (I6.hok b o e).stay (fun c v hcc q=>q) (fun c q=>?_) fun c xs q=>?_
      ·rw [ao (ap q hD5)];exact q
      ·rw [ao (ap q hD5)];exact q
   ·obtain ⟨v,o,ho,hd⟩:=I2.cell x c q;exact belowC c (DW ho)
   ·exact belowC p.1 (DW (I2.pin p hp).1)
  ·refine wpAny_bind (wpAny_standAt (wpAny_bind (wpAny_mono (T.item (jH X sc N' G2.objs.size cl s2 H2 fp) rfl rfl rfl hc i _ s5 (j6 ix σ) H5 (fun _ _=>False) I5p (fpk fr5) st5 go) (fun r s6 ⟨u,hr,h6⟩=>?_) fun _ _ f=>f.elim)));subst hr;refine wpAny_bind (wpAny_mono h6 (fun _ s7 ⟨x,H7,I7,r7,y7,st7,fr7⟩=>?_) fun _ _ f=>f.elim);have I7':=I7.pinned (fpk fr7) (T.obj _ _ st7);refine wpAny_bind (wpAny_mono (hg _ _ _ _ _ _ s7 (j6 ix σ) H7 x u _ I7' r7 (step x H7 y7)) (fun _ s8 ⟨σ8,H8,I8,x8,q8⟩=>?_) fun _ _ f=>f.elim);obtain ⟨xl,xv⟩:=x8.spec;have keepT:∀ {σ9:St} {H9:Hp} {s9:Shared} {pl:List (Addr×Obj)},(∀ p∈dR fp s7.heap,p∈pl)->Inv (jH X sc N' G2.objs.size cl s2 H2 fp) pl σ9 H9 s9->tn (i+1) s9.heap/\∀ b∈fp,H9 b=none:=fun {σ9 H9 s9 pl} hp I9=>by
    have pn:∀ b o,b∈fp->s7.heap.get? b=some o->s9.heap.get? b=some o/\H9 b=none:=fun b o hb e=>by
     have:=I9.pin (b,o) (Ek _ (hp _ (gr hb e)));exact ⟨this.1,this.2.1⟩
    refine ⟨T.keep _ _ _ st7 fun b hb o e=>(pn b o hb e).1,fun b hb=>?_⟩;obtain ⟨o,e,_⟩:=T.obj _ _ st7 b hb;exact (pn b o hb e).2
   refine wpAny_bind (wpAny_mono (hf _ _ _ _ _ _ s8 σ8 H8 _ I8 q8) (fun ok s9 ⟨H9,I9,q9⟩=>?_) fun _ _ f=>f.elim);have pD:∀ {σ9:St} {H9:Hp} {s9:Shared},Inv (jH X sc N' G2.objs.size cl s2 H2 fp) ([(s2.heap.objs.size,({ cls:=.type "list",data:=.seq its.toArray k }:Obj))]++dR fp s7.heap) σ9 H9 s9->
     s9.heap.get? s2.heap.objs.size=some { cls:=.type "list",data:=.seq its.toArray k }/\H9 s2.heap.objs.size=none:=fun {σ9 H9 s9} I9=>by
    have:=I9.pin (s2.heap.objs.size,{ cls:=.type "list",data:=.seq its.toArray k }) (Ek _ (ET _ (by simp)));exact ⟨this.1,this.2.1⟩
   cases ok with
   | false=>
    obtain ⟨m',hm,w9⟩:=(show ∃ m',m' < n/\W (i+1) m' ys H9 from by simpa using q9);obtain ⟨t9,fr9⟩:=keepT (fun p hp=>Ek _ hp) I9;obtain ⟨oD9,hD9⟩:=pD I9;refine wpAny_pure ⟨rfl,m',hm,i+1,ys,H9,its,k,(I9.pins_of (pins':=[]) fun p hp=>nomatch hp).weak xl xv,t9,fr9,hD9,vv,oD9,w9⟩
   | true=>
    have q9':te σ8 H9 fun y H4=>∃ m',m' < n/\W (i+1) m' (ys++[y]) H4:=by simpa using q9
    refine wpAny_bind (wpAny_bind (wpAny_mono (he _ _ _ _ _ _ s9 σ8 H9 _ I9 q9') (fun yv sA ⟨y,HA,IA,rA,m',hm,wA⟩=>?_) fun _ _ f=>f.elim));obtain ⟨oDA,hDA⟩:=pD IA;have hsz:its.toArray.size<=sizeLine:=by rw [D7,<-vv.length];exact hz
    refine wpAny_bind (wpAny_list_append_plain (hsz:=hsz) ⟨_,oDA⟩ fun h9 pl9 sb9=>?_);have IB:Inv (jH X sc N' G2.objs.size cl s2 H2 fp) (dR fp s7.heap) σ8 HA sA:=IA.pins_of fun p hp=>IA.pin p (Ek _ (Ek _ hp));have IC:Inv (jH X sc N' G2.objs.size cl s2 H2 fp) (dR fp s7.heap) σ8 HA { sA with heap:=h9 }:=IB.turned (it:=s2.heap.objs.size) (t':=sA.toks) (fun b o hb e=>(sb9.2 b hb).trans e) hDA hDC (.inr (DN _)) (fun x c q=>cellD x c q) fun p hp=>by
     have hp':p∈dR fp s7.heap:=by
      have z:p∈([]:List (Addr×Obj))++dR fp s7.heap:=hp;simpa using z
     exact fD p.1 (jN hp').1
    obtain ⟨t9,fr9⟩:=keepT (fun p hp=>hp) IC;obtain ⟨k',oD'⟩:=pl9;refine wpAny_pure (wpAny_pure ⟨rfl,m',hm,i+1,ys++[y],HA,its++[yv],k',(IC.pins_of (pins':=[]) fun p hp=>nomatch hp).weak xl xv,t9,fr9,hDA,vv.append (.cons rA .nil),?_,wA⟩);show h9.get? s2.heap.objs.size=_;rw [oD'];simp
 exact codeAny_compStart_list (loop _ rfl) (T.self X.A 0 _ _ _ (T.keep _ _ _ st2 (fun b _ o e=>old b o e)) (loop _ rfl))
theorem dN (hc:X.calm=true) (hix:qw N sc0 sc N' ix=true) (hi:PI X tg iter wi)
  (hg:∀ C cl s H fp,PG (jH X sc N' C cl s H fp) tg g) (hf:∀ C cl s H fp,PF (jH X sc N' C cl s H fp) ifs tf) (he:∀ C cl s H fp,PE (jH X sc N' C cl s H fp) elt te)
  (eN:X.N=N:=by rfl) (eS:X.env.scope=sc0:=by rfl) (hs:∀ x,foldedSetIterable iter X.env x=pure x:=by intro _;rfl) :
  PE X (.ListComp elt [⟨tg,iter,ifs,0⟩] sc pos) (Cn wi g tf te ix):=by
 refine ⟨?_⟩;intro pins s σ H Q I h;subst eN eS;rw [eval_ListComp];refine pC (use:=none) hc hix hi hg hf he hs I h fun C D H' s' L q=>?_;obtain ⟨m,hn⟩:=L.ns;exact ⟨m,hn,fun h' sb=>⟨.ref D,H',L.gone sb,rfl,q⟩⟩
def yp (i:Nat) (t:TE):TS:=fun D σ H=>t σ H fun v H1=>D.nx (σ.set i (some v)) H1
theorem ml {i:Nat} {y:Str} {py spos:Pos} (hN:X.N.Nodup) (hiy:X.N[i]?=some y) (hy:X.env.scope.names.lookup y=some .local) (hc:X.calm=true) (hix:qw N sc0 sc N' ix=true) (hi:PI X tg iter wi)
  (hg:∀ C cl s H fp,PG (jH X sc N' C cl s H fp) tg g) (hf:∀ C cl s H fp,PF (jH X sc N' C cl s H fp) ifs tf) (he:∀ C cl s H fp,PE (jH X sc N' C cl s H fp) elt te)
  (eN:X.N=N:=by rfl) (eS:X.env.scope=sc0:=by rfl) (hs:∀ x,foldedSetIterable iter X.env x=pure x:=by intro _;rfl)
  (hsw:swapsWith (.ListComp elt [⟨tg,iter,ifs,0⟩] sc pos) (some (.Name y py)) spos.line X.env=pure true:=by rfl) :
  PS X (.Assign [.Name y py] (.ListComp elt [⟨tg,iter,ifs,0⟩] sc pos) spos) (yp i (Cn wi g tf te ix)):=by
 refine ⟨?_⟩;intro pins s σ H Dn I h;subst eN eS;rw [exec_Assign_Name_used _ _ _ _ hsw];refine wpAny_bind (wpAny_standAt (wpAny_bind ?_));show wpAny _ X.A (do let _ <-comprehension (.ListComp elt [⟨tg,iter,ifs,0⟩] sc pos) sc X.env _ (newList []) false (eval iter X.env) (some (assign (.Name y py) X.env))) _ _ s;refine wpAny_bind (wpAny_mono (pC (use:=some (assign (.Name y py) X.env)) (Qf:=fun _ s'=>SP X pins Dn .next s') hc hix hi hg hf he hs I h fun C D H' s' L q=>?_) (fun _ s' hq=>wpAny_pure (wpAny_pure hq)) fun _ _ e=>e);show wpAny _ X.A (assign (.Name y py) X.env (.ref D)) _ _ s';refine wpAny_assign_Name (jM L.inv hN hiy (.inl hy) (v:=.ref D) rfl (fun s1 I1 hsb=>?_) (.inr hy));obtain ⟨a,sb,ha⟩:=hsb;have haC:C≠a:=by
  rcases ha with z|z
  ·rw [z];exact L.loc
  ·exact (L.cel y a z).symm
 obtain ⟨m,hn⟩:=L.ns;have L1:LcEnd X pins (σ.set i (some (.ref D))) H' s1 C:=⟨I1,⟨m,hn.sameBut sb haC⟩,L.free,L.loc,L.cel,L.abv,L.pin⟩;exact ⟨m,hn.sameBut sb haC,fun h' sb'=>⟨_,H',L1.gone sb',q⟩⟩
end
end L2
namespace L2
open PySem
def Nx (Pv:Nat->List V->Hp->Prop) (n i:Nat) (ys:List V) (H:Hp):Prop:=∃ m',m' < n - i/\(m'=n - (i+1)/\i+1<=n/\Pv (i+1) ys H)
variable {H:Hp} {n i:Nat}
theorem Nx.mk {Pv:Nat->List V->Hp->Prop} {ys:List V} (h:i < n) (p:Pv (i+1) ys H):Nx Pv n i ys H:=⟨n - (i+1),zo,rfl,h,p⟩
theorem fL {K:ZF} {a:Addr} {xs:List V} {g:TG} {tf:TT} {te:TE} {ix:List (Option Nat)} {σ:St} {Q:VK} (Pv:Nat->List V->Hp->Prop) (h0:Pv 0 [] H)
  (hl:∀ i ys H,i<=xs.length->Pv i ys H->SqL K H a xs/\ys.length<=sizeLine)
  (hs:∀ i x ys H,xs[i]?=some x->Pv i ys H->g x (j6 ix σ) H fun σ2 H2=>ExtL (j6 ix σ) σ2/\tf σ2 H2 fun b H3=>if b=true then te σ2 H3 fun y H4=>Nx Pv xs.length i (ys++[y]) H4 else Nx Pv xs.length i ys H3)
  (hd:∀ ys H,Pv xs.length ys H->∀ D,H D=none->Q (.ref D) (aq H D (.lst ys))) :
  og (zQ K a) g tf te ix σ H Q:=by
 refine ⟨fun i m ys H=>m=xs.length - i/\i<=xs.length/\Pv i ys H,⟨xs.length,by simp,Ej _,h0⟩,?_⟩;rintro i m ys H ⟨rfl,hi,p⟩;obtain ⟨q,hz⟩:=hl i ys H hi p;by_cases hlt:i < xs.length
 ·refine .inr ⟨⟨xs,xs[i],q,by simp [hlt]⟩,hz,fun x H' y=>?_⟩;obtain ⟨e,y⟩:=y;subst e;exact hs i x ys _ (y xs q) p
 ·have e:i=xs.length:=by omega
  subst e;exact .inl ⟨⟨xs,q,DN _⟩,hz,hd ys H p⟩
theorem i8 {lo:Int} {n:Nat} {g:TG} {tf:TT} {te:TE} {ix:List (Option Nat)} {σ:St} {Q:VK} (Pv:Nat->List V->Hp->Prop) (h0:Pv 0 [] H)
  (hl:∀ i ys H,i<=n->Pv i ys H->ys.length<=sizeLine)
  (hs:∀ i ys H,i < n->Pv i ys H->g (.int (lo+i)) (j6 ix σ) H fun σ2 H2=>ExtL (j6 ix σ) σ2/\tf σ2 H2 fun b H3=>if b=true then te σ2 H3 fun y H4=>Nx Pv n i (ys++[y]) H4 else Nx Pv n i ys H3)
  (hd:∀ ys H,Pv n ys H->∀ D,H D=none->Q (.ref D) (aq H D (.lst ys))) :
  og (yh lo n) g tf te ix σ H Q:=by
 refine ⟨fun i m ys H=>m=n - i/\i<=n/\Pv i ys H,⟨n,by simp,Ej _,h0⟩,?_⟩;rintro i m ys H ⟨rfl,hi,p⟩;have hz:=hl i ys H hi p;by_cases hlt:i < n
 ·refine .inr ⟨hlt,hz,fun x H' y=>?_⟩;obtain ⟨e,y⟩:=y;subst e y;exact hs i ys _ hlt p
 ·have e:i=n:=by omega
  subst e;exact .inl ⟨DN _,hz,hd ys H p⟩
theorem dk {σ:St} {A B:Hp->Prop} (h:A H):AD σ H fun b H3=>if b=true then A H3 else B H3:=by
 show if true=true then A H else B H;rw [if_pos rfl];exact h
end L2
namespace L2
open PySem PySem.Spec PyProof.Rows
mutual
inductive Dt (K:ZF) (H:Hp):V->PyData->Prop
 | non:Dt K H .non .none
 | bl (b:Bool):Dt K H (.bl b) (.bool b)
 | int (i:Int):Dt K H (.int i) (.int i)
 | str (x:Str):Dt K H (.str x) (.str x)
 | lst {a:Addr} {xs:List V} {ds:List PyData}:SqL K H a xs->DtAll K H xs ds->Dt K H (.ref a) (.list ds)
 | tup {a:Addr} {xs:List V} {ds:List PyData}:SqT K H a xs->DtAll K H xs ds->Dt K H (.ref a) (.tuple ds)
inductive DtAll (K:ZF) (H:Hp):List V->List PyData->Prop
 | nil:DtAll K H [] []
 | cons {v:V} {d:PyData} {vs:List V} {ds:List PyData}:Dt K H v d->DtAll K H vs ds->DtAll K H (v::vs) (d::ds)
end
section
variable {X:Cx} {pins:List (Addr×Obj)} {σ:St} {H:Hp} {s:Shared}
mutual
theorem Dt.reads (I:Inv X pins σ H s):∀ {v:V} {d:PyData} {u:Value},Dt X.K H v d->RelV v u->∃ as,Reads s.heap u d as
 | _,_,_,.non,r=>by cases r;exact ⟨_,.none⟩
 | _,_,_,.bl b,r=>by cases r;exact ⟨_,.bool b⟩
 | _,_,_,.int i,r=>by obtain ⟨t,rfl⟩:=r;exact ⟨_,.int i t⟩
 | _,_,_,.str x,r=>by obtain ⟨t,rfl⟩:=r;exact ⟨_,.str x t⟩
 | _,_,_,.lst hS hA,r=>by
  cases r;obtain ⟨its,rv,⟨o,n,e,c,dd,hd⟩,hz⟩:=I.list hS;obtain ⟨as,ha⟩:=DtAll.reads I hA rv;first
   | exact ⟨_,.list e c hd (by simpa using ha)⟩
   | exact ⟨_,.list e c dd (by simpa using ha)⟩
 | _,_,_,.tup hS hA,r=>by
  cases r;obtain ⟨its,rv,⟨o,e,c,n,hd⟩,hz⟩:=I.tuple hS;obtain ⟨as,ha⟩:=DtAll.reads I hA rv;exact ⟨_,.tuple e c hd (by simpa using ha)⟩
theorem DtAll.reads (I:Inv X pins σ H s):∀ {vs:List V} {ds:List PyData} {us:List Value},DtAll X.K H vs ds->Vals vs us->∃ as,ReadsAll s.heap us ds as
 | _,_,_,.nil,.nil=>⟨_,.nil⟩
 | _,_,_,.cons h t,.cons r rr=>by
  obtain ⟨a1,h1⟩:=Dt.reads I h r;obtain ⟨a2,h2⟩:=DtAll.reads I t rr;exact ⟨_,.cons h1 h2⟩
end
end
section
variable {X:Cx}
inductive rEqD (K:ZF) (x:V) (y:V) (H:Hp) (Q:VK):Prop
 | mk (dx dy:_):Dt K H x dx->Dt K H y dy->dx.canLay0=true->dy.canLay0=true->min dx.depth dy.depth<=60->Q (.bl (PyData.eqv dx dy)) H->rEqD K x y H Q
inductive rNeD (K:ZF) (x:V) (y:V) (H:Hp) (Q:VK):Prop
 | mk (dx dy:_):Dt K H x dx->Dt K H y dy->dx.canLay0=true->dy.canLay0=true->min dx.depth dy.depth<=60->Q (.bl (!PyData.eqv dx dy)) H->rNeD K x y H Q
theorem op_eqD {k:Nat} (hr:Room k X.A):dE X (compareOp .Eq) (rEqD X.K):=by
 intro pins s σ H x y v u Q I rx ry h;obtain ⟨dx,dy,h1,h2,c1,c2,dp,q⟩:=h;obtain ⟨as,ra⟩:=h1.reads I rx;obtain ⟨bs,rb⟩:=h2.reads I ry;exact SeqAt.compareEq_reads ra rb c1 c2 (by have:=hr.un;omega) ⟨.bl _,H,I,rfl,q⟩
theorem op_neD {k:Nat} (hr:Room k X.A):dE X (compareOp .NotEq) (rNeD X.K):=by
 intro pins s σ H x y v u Q I rx ry h;obtain ⟨dx,dy,h1,h2,c1,c2,dp,q⟩:=h;obtain ⟨as,ra⟩:=h1.reads I rx;obtain ⟨bs,rb⟩:=h2.reads I ry;exact SeqAt.compareNe_reads ra rb c1 c2 (by have:=hr.un;omega) ⟨.bl _,H,I,rfl,q⟩
end
theorem Inv.turnedS {X:Cx} {pins:List (Addr×Obj)} {σ:St} {H H':Hp} {s:Shared} {h':Heap} {t':Nat} {ch:List Addr} (I:Inv X pins σ H s) (hf:∀ b∈ch,jF X pins H b)
  (k:∀ b o,b∉ch->s.heap.get? b=some o->h'.get? b=some o) (hH:∀ b o,H b=some o->H' b=some o) (hN:∀ b,b < s.heap.objs.size->H b=none->H' b=none)
  (new:∀ b o,H b=none->H' b=some o->ObjOk X.prog X.w H' h' b o):Inv X pins σ H' { s with heap:=h',toks:=t' }:=by
 refine I.step (g':=s.gens) (d':=s.drawn) (ch:=ch) (fun b hb=>?_) (fun b o _ _ hc e _=>k b o hc e) (fun b o _ _ hc e _=>⟨o.slots,k b o hc e⟩) (fun b o _ e n=>hN b (DW e) n)
  (fun b o hc e=>⟨o,k b o hc e⟩) (fun b xs e=>hH b _ e) (fun b o u e=>hH b _ e) (fun b ps e=>⟨#[],by rw [hH b _ e];simp⟩) (fun m hm=>?_) (fun b u e=>?_) I.bare
 ·obtain ⟨_,f1,_,f3,f4,f5⟩:=hf b hb;exact ⟨f3,f1,f4,f5⟩
 ·obtain ⟨o,es,ep,ho,r⟩:=hm;exact ⟨o,es,ep,k _ o (fun z=>(hf _ z).2.1 rfl) ho,r⟩
 ·cases q:H b with
  | none=>exact new b u q e
  | some v=>
   rw [hH b v q] at e;cases e;refine (I.hok b u q).stay (fun c v hc q'=>k c v (fun z=>?_) q') (fun c q'=>hH c _ q') fun c xs q'=>hH c _ q';have n:=(hf c z).1;rcases hc with rfl|hc
   ·rw [q] at n;cases n
   ·rw [hc] at n;cases n
section
variable {X:Cx}
theorem boot_zip:bootBuiltins "zip"=some (.type "zip"):=by decide +kernel
end
section
variable {X:Cx}
theorem pe_ty {x:Str} {n:String} {pos:Pos} (hg:Gl X x) (hm:X.mg x=none) (hv:bootBuiltins x=some (.type n)) (hn:x≠"__name__":=by decide) (hd:(x == ("__debug__":Str))=false:=by decide):PE X (.Name x pos) (tC (.ty n)):=
 vn hg hm hv rfl hn hd
end
theorem slicePick_rev (items:Array Value):slicePick items none none (some (-1))=items.toList.reverse.toArray:=by
 unfold slicePick sliceBounds;have e:sliceRange ((items.size:Int) - 1) (-1) (-1)=(List.range items.size).map fun k=>items.size - 1 - k:=by
  unfold sliceRange;rw [if_neg zd];by_cases h:(items.size:Int) - 1 > -1
  ·rw [if_pos h];have e2:(((items.size:Int) - 1 - -1 - -1 - 1) / (- -1)).toNat=items.size:=by
    rw [show (- -1:Int)=1 by decide,Int.ediv_one];omega
   dsimp only;rw [e2];refine List.map_congr_left fun k hk=>?_;have:=Ez.mp hk;omega
  ·rw [if_neg h];have:items.size=0:=by omega
   rw [this];rfl
 show ((sliceRange ((items.size:Int) - 1) (-1) (-1)).filterMap (items[·]?)).toArray=_;rw [e]
 congr 1
 apply List.ext_getElem?;intro i;have hall:∀ n,n<=items.size->((List.range n).map fun k=>items.size - 1 - k).filterMap (items[·]?)=(items.toList.reverse).take n:=by
  intro n;induction n with
  | zero=>intro _;simp
  | succ n ih=>
   intro hn;rw [List.range_succ,DP,List.filterMap_append,ih zo];have hlt:items.size - 1 - n < items.size:=by omega
   have hg:items[items.size - 1 - n]?=some items[items.size - 1 - n]:=Array.getElem?_eq_getElem hlt;have hr:n < items.toList.reverse.length:=by simp;omega
   rw [List.take_succ_eq_append_getElem hr];simp [hg]
 rw [hall items.size (DN _),Ep (by simp)]
section
variable {X:Cx} {e:Expr} {te:TE} {pos p2 cp:Pos} {j:Nat}
theorem pe_revL {s1:Expr} (he:PE X e te) (hs:PE X s1 (tC (.int (-1)))):PE X (.Subscript e (.Slice none none (some s1) p2) pos) (fun σ H Q=>te σ H fun x H1=>∃ a xs,x=.ref a/\SqL X.K H1 a xs/\∀ p,H1 p=none->Q (.ref p) (aq H1 p (.lst xs.reverse))):=by
 refine ⟨?_⟩;intro pins s σ H Q I h;refine Subscript_ (bC (he pins s σ H _ I h) fun v s1 ⟨x,H1,I1,r1,q1⟩=>?_);obtain ⟨a,xs,rfl,hx,q⟩:=q1;cases r1;refine wpAny_Slice ?_;rw [evalPart_none];refine wpAny_pure (wpAny_pure ?_);rw [evalPart_some];refine bC (hs pins s1 σ H1 (fun v H2=>v=.int (-1)/\H2=H1) I1 ⟨rfl,rfl⟩) fun vs s3 ⟨y,H3,I3,r3,e3,e4⟩=>?_;subst e3 e4;obtain ⟨t,rfl⟩:=r3;have I4:Inv X pins σ H3 { s3 with heap:=s3.heap.push { cls:=.type "slice",data:=.fields #[.none,.none,.int (-1) t] } }:=I3.kept (t':=s3.toks) fun b ob q=>DJ _ q;obtain ⟨its,r,ht,hz⟩:=I4.list hx;refine PyProof.Rows.tail_any (ops:=[.ref a,.ref s3.heap.objs.size]) (T:="list") ht.isList.typeIs slot_list_getitem.lookup (wpAny_getItem_list_slice (st:=some (-1)) ht.isList (Heap.IsSliceOf.new ..) .none .none (.int _ _) (by simp) ?_ (by rw [D7,<-r.length];exact hz)) (by with_unfolding_all rfl);have ee:slicePick its.toArray none none (some (-1))=its.reverse.toArray:=by rw [slicePick_rev]
 rw [ee];refine ⟨.ref _,_,I4.laid (t':=s3.toks) (o:=.lst xs.reverse) (fun b ob q=>DJ _ q) (DN _) ?_,rfl,q _ (I4.hok.fresh (DN _))⟩;refine ⟨by rw [List.length_reverse];exact hz,its.reverse,0,?_,D8 _ rfl⟩;have rev:∀ {xs:List V} {us:List Value},Vals xs us->Vals xs.reverse us.reverse:=fun {xs us} h=>by
  induction h with
  | nil=>exact .nil
  | cons h t ih=>
   rw [List.reverse_cons,List.reverse_cons];exact ih.append (.cons h .nil)
 exact rev r
end
end L2
namespace TK
def eY (c:Nat):Bool:=c == 32 || c == 10
def cQ (c:Nat):Bool:=[40,41,123,125,91,93,44,59,43,45,38,124,94,60,61].contains c
def hZ:List Nat->Nat
 | []=>0
 | [c]=>if cQ c then 1 else 0
 | c::d::_=>if (c == 60 && d == 60) || (c == 62 && d == 62) then 2 else if cQ c then 1 else 0
def run:List Nat->Nat
 | []=>0
 | c::r=>if eY c || hZ (c::r) != 0 then 0 else 1+run r
theorem eK (c:Nat):hZ [c]=if cQ c=true then 1 else 0:=rfl
theorem da (c d:Nat) (r:List Nat):hZ (c::d::r)=if ((c == 60 && d == 60) || (c == 62 && d == 62))=true then 2 else if cQ c=true then 1 else 0:=rfl
theorem ck (c:Nat) (r:List Nat):run (c::r)=if (eY c || hZ (c::r) != 0)=true then 0 else 1+run r:=by rw [run]
theorem kI (l:List Nat):hZ l<=l.length:=by
 match l with
 | []=>simp [hZ]
 | [c]=>rw [eK];split<;>simp
 | c::d::r=>rw [da];split<;>(try split)<;>simp
theorem kJ:∀ l:List Nat,run l<=l.length
 | []=>by simp [run]
 | c::r=>by
  have:=kJ r;rw [ck];split<;>simp<;>omega
def one (l:List Nat):Nat:=if hZ l=0 then run l else hZ l
variable {r:List Nat} {c:Nat}
theorem iI (h:eY c=false):0 < one (c::r):=by
 unfold one;by_cases e:hZ (c::r)=0
 ·rw [if_pos e];rw [ck,h,e];simp;omega
 ·rw [if_neg e];omega
theorem yq (l:List Nat):one l<=l.length:=by
 unfold one;split
 ·exact kJ l
 ·exact kI l
def iA:Nat->List Nat->List (List Nat)
 | 0,_=>[]
 | _,[]=>[]
 | n+1,c::r=>if eY c then iA n r else (c::r).take (one (c::r))::iA n ((c::r).drop (one (c::r)))
theorem gw:∀ (n m:Nat) (l:List Nat),l.length<=n->l.length<=m->iA n l=iA m l
 | 0,0,_,_,_=>rfl
 | 0,m+1,l,h,_=>by
  have:l=[]:=EY.mp zo;subst this;rfl
 | n+1,0,l,_,h=>by
  have:l=[]:=EY.mp zo;subst this;rfl
 | n+1,m+1,[],_,_=>rfl
 | n+1,m+1,c::r,h1,h2=>by
  simp only [DQ] at h1 h2;unfold iA;by_cases g:eY c=true
  ·rw [if_pos g,if_pos g];exact gw n m r zo zo
  ·rw [if_neg g,if_neg g];have p:=iI (r:=r) (by simpa using g);rw [gw n m _ (by rw [Ea,DQ];omega) (by rw [Ea,DQ];omega)]
def toks (l:List Nat):List (List Nat):=iA l.length l
theorem sr:toks []=[]:=rfl
theorem mo (h:eY c=true):toks (c::r)=toks r:=by
 unfold toks;rw [DQ];show (if eY c then iA r.length r else _)=_;rw [if_pos h]
theorem mt (h:eY c=false):toks (c::r)=(c::r).take (one (c::r))::toks ((c::r).drop (one (c::r))):=by
 unfold toks;rw [DQ];show (if eY c then _ else (c::r).take (one (c::r))::iA r.length ((c::r).drop (one (c::r))))=_;rw [if_neg (by rw [h];decide)];have p:=iI (r:=r) h;rw [gw r.length _ _ (by rw [Ea,DQ];omega) (DN _)]
structure Tok (t:List Nat):Prop where
 cut:∀ s:List Nat,(s=[]\/∃ c r,s=c::r/\eY c=true)->one (t++s)=t.length
 ne:t≠[]
 ng:∀ c∈t,eY c=false
theorem mw {t s:List Nat} (h:Tok t) (hs:s=[]\/∃ c r,s=c::r/\eY c=true):toks (t++s)=t::toks s:=by
 cases t with
 | nil=>exact absurd rfl h.ne
 | cons c r=>
  have g:=h.ng c DM;have e:=h.cut s hs;rw [EQ] at e ⊢;rw [mt g,e];have e1:(c::(r++s)).take (c::r).length=c::r:=by rw [<-EQ,List.take_left'];rfl
  have e2:(c::(r++s)).drop (c::r).length=s:=by rw [<-EQ,List.drop_left'];rfl
  rw [e1,e2]
theorem pE:∀ (l s:List Nat),(s=[]\/∃ c r,s=c::r/\eY c=true)->run (l.take (run l)++s)=run l
 | [],s,hs=>by
  rcases hs with rfl|⟨c,r,rfl,g⟩
  ·rfl
  ·show run (c::r)=0;rw [ck,g];simp
 | c::r,s,hs=>by
  by_cases q:(eY c || hZ (c::r) != 0)=true
  ·have e:run (c::r)=0:=by rw [ck,if_pos q]
   rw [e];rcases hs with rfl|⟨d,r',rfl,g⟩
   ·rfl
   ·show run (d::r')=0;rw [ck,g];simp
  ·have e:run (c::r)=1+run r:=by rw [ck,if_neg q]
   rw [e,Nat.add_comm 1,List.take_succ_cons,EQ];have ih:=pE r s hs;simp at q;obtain ⟨qg,qs⟩:=q;have q2:(eY c || hZ (c::(r.take (run r)++s)) != 0)=false:=by
    rw [qg];simp;have sc:cQ c=false:=by
     cases r with
     | nil=>
      rw [eK] at qs;split at qs
      ·cases qs
      ·rename_i nn;simpa using nn
     | cons d r2=>
      rw [da] at qs;split at qs
      ·cases qs
      ·split at qs
       ·cases qs
       ·rename_i nn;simpa using nn
    cases hh:r.take (run r)++s with
    | nil=>rw [eK,sc];rfl
    | cons d r2=>
     rw [da,sc];have nd:((c == 60 && d == 60) || (c == 62 && d == 62))=false:=by
      cases r with
      | nil=>
       rw [List.take_nil,Fb] at hh;rcases hs with z|⟨c2,r3,z,g⟩
       ·rw [z] at hh;cases hh
       ·rw [z] at hh;injection hh with h1 _;subst h1;unfold eY at g;simp at g;rcases g with rfl|rfl<;>simp
      | cons d2 r3=>
       by_cases z0:run (d2::r3)=0
       ·rw [z0,List.take_zero,Fb] at hh;rcases hs with z|⟨c2,r4,z,g⟩
        ·rw [z] at hh;cases hh
        ·rw [z] at hh;injection hh with h1 _;subst h1;unfold eY at g;simp at g;rcases g with rfl|rfl<;>simp
       ·obtain ⟨k,hk⟩:∃ k,run (d2::r3)=k+1:=⟨run (d2::r3) - 1,zo⟩;rw [hk,List.take_succ_cons,EQ] at hh;injection hh with h1 _;subst h1;rw [da] at qs;split at qs
        ·cases qs
        ·rename_i nn;simpa using nn
     rw [nd];rfl
   rw [show run (c::(r.take (run r)++s))=1+run (r.take (run r)++s) by rw [ck,if_neg (by rw [q2];decide)],ih,Nat.add_comm]
theorem ss:∀ (l:List Nat),∀ c∈l.take (run l),eY c=false
 | [],_,h=>by cases h
 | c::r,d,h=>by
  by_cases q:(eY c || hZ (c::r) != 0)=true
  ·rw [ck,if_pos q] at h;cases h
  ·rw [ck,if_neg q,Nat.add_comm,List.take_succ_cons] at h;rcases DY.mp h with z|z
   ·subst z;simp at q;exact q.1
   ·exact ss r d z
variable {d:Nat}
theorem qx (h:((c == 60 && d == 60) || (c == 62 && d == 62))=true):eY c=false/\eY d=false:=by
 simp at h;rcases h with ⟨rfl,rfl⟩|⟨rfl,rfl⟩<;>exact ⟨rfl,rfl⟩
theorem qy (h:eY d=true):((c == 60 && d == 60) || (c == 62 && d == 62))=false:=by
 unfold eY at h;simp at h;rcases h with rfl|rfl<;>simp
theorem eL (h:eY c=false):Tok ((c::r).take (one (c::r))):=by
 by_cases e:hZ (c::r)=0
 ·have o:one (c::r)=run (c::r):=if_pos e;have rp:0 < run (c::r):=by rw [<-o];exact iI h
  rw [o];refine ⟨fun s hs=>?_,fun z=>?_,ss _⟩
  ·have rc:=pE (c::r) s hs;have s0:hZ ((c::r).take (run (c::r))++s)=0:=by
    cases hh:(c::r).take (run (c::r))++s with
    | nil=>rfl
    | cons d r2=>
     rw [hh,ck] at rc;split at rc
     ·omega
     ·rename_i nn;simp at nn;exact nn.2
   unfold one;rw [if_pos s0,rc,DS];have:=kJ (c::r);omega
  ·have:=congrArg List.length z;rw [DS] at this;have:=kJ (c::r);simp at *;omega
 ·have o:one (c::r)=hZ (c::r):=if_neg e;rw [o];have key:(cQ c=true/\hZ (c::r)=1)\/∃ d r2,r=d::r2/\((c == 60 && d == 60) || (c == 62 && d == 62))=true/\hZ (c::r)=2:=by
   cases r with
   | nil=>
    rw [eK] at e ⊢;split at e
    ·rename_i nn;exact .inl ⟨nn,by rw [if_pos nn]⟩
    ·exact absurd rfl e
   | cons d r2=>
    rw [da] at e ⊢;by_cases nn:((c == 60 && d == 60) || (c == 62 && d == 62))=true
    ·exact .inr ⟨d,r2,rfl,nn,by rw [if_pos nn]⟩
    ·rw [if_neg nn] at e ⊢;by_cases n2:cQ c=true
     ·exact .inl ⟨n2,by rw [if_pos n2]⟩
     ·rw [if_neg n2] at e;exact absurd rfl e
  rcases key with ⟨sc,se⟩|⟨d,r2,rfl,dd,se⟩
  ·rw [se];refine ⟨fun s hs=>?_,by simp,fun x hx=>?_⟩
   ·show one (c::s)=1;have:hZ (c::s)=1:=by
     rcases hs with rfl|⟨d,r2,rfl,g⟩
     ·rw [eK,if_pos sc]
     ·rw [da,qy g,if_neg zd,if_pos sc]
    unfold one;rw [this];rfl
   ·have:x=c:=by simpa using hx
    rw [this];exact h
  ·rw [se];refine ⟨fun s hs=>?_,by simp,fun x hx=>?_⟩
   ·show one (c::d::s)=2;have:hZ (c::d::s)=2:=by rw [da,if_pos dd]
    unfold one;rw [this];rfl
   ·have hx':x=c\/x=d:=by simpa using hx
    rcases hx' with z|z
    ·rw [z];exact h
    ·rw [z];exact (qx dd).2
theorem fM:∀ (s l:List Nat),(∀ c∈s,eY c=true)->toks (s++l)=toks l
 | [],_,_=>rfl
 | c::r,l,h=>by
  rw [EQ,mo (h c DM)];exact fM r l fun d hd=>h d (DR _ hd)
def jn (sep:List Nat):List (List Nat)->List Nat
 | []=>[]
 | [t]=>t
 | t::u::r=>t++(sep++jn sep (u::r))
theorem pF (sep tail:List Nat) (hne:sep≠[]) (hs:∀ c∈sep,eY c=true) (ht:∀ c∈tail,eY c=true):∀ ts:List (List Nat),(∀ t∈ts,Tok t)->toks (jn sep ts++tail)=ts
 | [],_=>by
  have:=fM tail [] ht;rw [El] at this;exact this
 | [t],h=>by
  have e:tail=[]\/∃ c r,tail=c::r/\eY c=true:=by
   cases tail with
   | nil=>exact .inl rfl
   | cons c r=>exact .inr ⟨c,r,rfl,ht c DM⟩
  show toks (t++tail)=[t];rw [mw (h t DM) e];have:=fM tail [] ht;rw [El] at this;rw [this];rfl
 | t::u::r,h=>by
  show toks ((t++(sep++jn sep (u::r)))++tail)=_;rw [En,En];have e:sep++(jn sep (u::r)++tail)=[]\/∃ c r',sep++(jn sep (u::r)++tail)=c::r'/\eY c=true:=by
   cases hsep:sep with
   | nil=>exact absurd hsep hne
   | cons c r'=>exact .inr ⟨c,_,rfl,hs c (by rw [hsep];exact DM)⟩
  rw [mw (h t DM) e,fM sep _ hs,pF sep tail hne hs ht (u::r) fun x hx=>h x (DR _ hx)]
end TK
namespace L2
open PySem PySem.Spec PyProof.Rows
def S (l:List Nat):Str:=⟨l.toArray⟩
theorem bx (l:List Nat):(S l).length=l.length:=by show l.toArray.size=_;simp
theorem S_inj {a b:List Nat}:S a=S b↔a=b:=⟨fun h=>by
 have:(S a).cps.toList=(S b).cps.toList:=by rw [h]
 simpa [S] using this,fun h=>by rw [h]⟩
def fX (l:List Nat) (lo hi:Option Int):List Nat:=(l.drop (HT.sIx l.length 0 lo)).take (HT.sIx l.length l.length hi - HT.sIx l.length 0 lo)
theorem vF (n:Nat) (v:Option Int) (d:Nat) (hd:d<=n):HT.sIx n d v<=n:=by
 cases v with
 | none=>exact hd
 | some i=>
  show (if i < 0 then (i+(n:Int)).toNat else min i.toNat n)<=n;split<;>omega
open PySem.Builtin.Str in
theorem mx (lo hi:Option Int) (n:Nat):strSliceIndices lo hi 1 n=(List.range (HT.sIx n n hi - HT.sIx n 0 lo)).map (HT.sIx n 0 lo+·):=by
 have clip:∀ (v:Option Int) (d:Nat),d<=n->(match v with|none=>(d:Int)|some i=>max 0 (min (if i < 0 then i+(n:Int) else i) n))=((HT.sIx n d v:Nat):Int):=fun v d hd=>by
  cases v with
  | none=>rfl
  | some i=>
   show max 0 (min (if i < 0 then i+(n:Int) else i) (n:Int))=(((if i < 0 then (i+(n:Int)).toNat else min i.toNat n:Nat)):Int);by_cases h:i < 0
   ·rw [if_pos h,if_pos h];omega
   ·rw [if_neg h,if_neg h];omega
 have c1:=clip lo 0 (Ej _);have c2:=clip hi n (DN _);rw [<-sliceRange_one];rw [<-c1,<-c2];unfold strSliceIndices;simp only [show (1:Int) > 0 by decide,if_true];cases lo<;>cases hi<;>rfl
theorem i9 (l:List Nat) (a:Nat):∀ k,((List.range k).map (a+·)).filterMap (fun i=>l.toArray[i]?)=(l.drop a).take k
 | 0=>by simp
 | k+1=>by
  rw [List.range_succ,DP,List.filterMap_append,i9 l a k,List.take_add_one]
  congr 1
  rw [List.getElem?_drop];cases q:l[a+k]? with
  | none=>simp [EZ,q]
  | some v=>simp [EZ,q]
open PySem.Builtin.Str in
theorem my (l:List Nat) (lo hi:Option Int):(if ((1:Int) == 1 && (strSliceIndices lo hi 1 (S l).length).length == (S l).length)=true then S l else ⟨((strSliceIndices lo hi 1 (S l).length).filterMap ((S l).cps[·]?)).toArray⟩)=S (fX l lo hi):=by
 rw [bx,mx];have e:((List.range (HT.sIx l.length l.length hi - HT.sIx l.length 0 lo)).map (HT.sIx l.length 0 lo+·)).filterMap ((S l).cps[·]?)=fX l lo hi:=i9 l _ _;rw [e];by_cases c:((1:Int) == 1 && ((List.range (HT.sIx l.length l.length hi - HT.sIx l.length 0 lo)).map (HT.sIx l.length 0 lo+·)).length == l.length)=true
 ·rw [if_pos c];simp at c;have h2:=vF l.length hi l.length (DN _);have:fX l lo hi=l:=by
   unfold fX;by_cases z:l.length=0
   ·have:l=[]:=EY.mp z;subst this;simp
   ·have h0:HT.sIx l.length 0 lo=0:=by omega
    rw [h0,E9,Ep zo]
  rw [this]
 ·rw [if_neg c];rfl
section
variable {X:Cx}
theorem kK:BM X (fun x lo hi H Q=>∃ l,x=.str (S l)/\l.length<=100000/\Q (.str (S (fX l lo hi))) H):=by
 intro pins s σ H x v vl vu lo hi sl Q I rx hs pl pu h;obtain ⟨l,rfl,hz,q⟩:=h;obtain ⟨t,rfl⟩:=rx;obtain ⟨os,hos,hcs,hds⟩:=id hs;have sz:(100000:Nat)<=sizeLine:=by decide
 have lc:(S (fX l lo hi)).length<=sizeLine:=by
  rw [bx];unfold fX;rw [DS,Ea];omega
 refine ⟨"str",_,F.slot_str_getitem.lookup,typeIs_str _ _ _,?_⟩;have fin:∀ (a b:Option (Int×Tok)),a.map (·.1)=lo->b.map (·.1)=hi->s.heap.IsSlice sl a b none->wpAny (model X.prog X.w) X.A (getItem (.str (S l) t) (.ref sl)) (EP X pins σ Q) X.xe s:=fun a b ea eb hS=>by
  refine wpAny_getItem_str_slice hS rfl ?_;unfold sliceMade slicePicked;rw [ea,eb];refine post_val_or_str ?_;show (if ((1:Int) == 1 && (Builtin.Str.strSliceIndices lo hi 1 (S l).length).length == (S l).length)=true then S l else ⟨((Builtin.Str.strSliceIndices lo hi 1 (S l).length).filterMap ((S l).cps[·]?)).toArray⟩).length<=sizeLine/\∀ t' k,EP X pins σ Q (.str (if ((1:Int) == 1 && (Builtin.Str.strSliceIndices lo hi 1 (S l).length).length == (S l).length)=true then S l else ⟨((Builtin.Str.strSliceIndices lo hi 1 (S l).length).filterMap ((S l).cps[·]?)).toArray⟩) t') { s with toks:=k };rw [my];exact ⟨lc,fun t' k=>⟨.str (S (fX l lo hi)),H,I.tok _,⟨t',rfl⟩,q⟩⟩
 cases pl with
 | none=>
  cases pu with
  | none=>exact fin none none rfl rfl ⟨os,hos,hcs,hds⟩
  | int j u=>exact fin none (some (j,u)) rfl rfl ⟨os,hos,hcs,hds⟩
 | int i u0=>
  cases pu with
  | none=>exact fin (some (i,u0)) none rfl rfl ⟨os,hos,hcs,hds⟩
  | int j u=>exact fin (some (i,u0)) (some (j,u)) rfl rfl ⟨os,hos,hcs,hds⟩
theorem gN (c:Nat) (l:List Nat):(!(Builtin.Str.occurrences (S l) (S [c]) 0 (S l).length 1).isEmpty)=decide (c∈l):=by
 rw [EF,StrLaws.found_iff,decide_eq_true_iff];constructor
 ·rintro ⟨i,hi,e⟩;rw [bx,bx] at hi;have hi':i < l.length:=by simp at hi;omega
  unfold Builtin.Str.subAt at e;have e':l.toArray.extract i (i+1)=#[c]:=eq_of_beq e;have:(l.drop i).take 1=[c]:=by
   have:=congrArg Array.toList e';simpa [List.extract_eq_drop_take] using this
  have hm:c∈(l.drop i).take 1:=by rw [this];simp
  exact List.mem_of_mem_drop (Ei hm)
 ·intro h;obtain ⟨i,hi,e⟩:=List.getElem_of_mem h;refine ⟨i,by rw [bx,bx];simp;omega,?_⟩;unfold Builtin.Str.subAt;have:l.toArray.extract i (i+1)=#[c]:=by
   apply Array.toList_inj.mp;rw [Array.toList_extract];simp [List.extract_eq_drop_take,Ev hi,e]
  show (l.toArray.extract i (i+1) == #[c])=true;rw [this];exact beq_self_eq_true _
inductive xu (tb:TE) (σ:St) (Q:VK) (x:V) (H1:Hp):Prop
 | mk (l:_):x=.str (S l)->l.length<=100000->(if l=[] then tb σ H1 Q else Q (.str (S l)) H1)->xu tb σ Q x H1
def Co (ta tb:TE):TE:=fun σ H Q=>ta σ H fun x H1=>xu tb σ Q x H1
theorem yt {a b:Expr} {rest:List Expr} {pos:Pos} {ta tb:TE} (ha:PE X a ta) (hb:PE X (.BoolOp .Or (b::rest) pos) tb):PE X (.BoolOp .Or (a::b::rest) pos) (Co ta tb):=by
 refine ⟨?_⟩;intro pins s σ H Q I h;refine BoolOp_or (bC (ha pins s σ H _ I h) fun v s1 ⟨x,H1,I1,r1,q1⟩=>?_);obtain ⟨l,rfl,hz,q1⟩:=q1;obtain ⟨t,rfl⟩:=r1;refine PySem.P.truthy_str (by rw [bx];omega) ?_;rw [bx];by_cases e:l=[]
 ·subst e;rw [if_pos rfl] at q1;exact hb pins _ σ H1 Q (I1.tok _) q1
 ·rw [if_neg e] at q1;have:((l.length:Int) != 0)=true:=by
   have:l.length≠0:=fun z=>e (EY.mp z);simp;exact e
  rw [this];exact ⟨.str (S l),H1,I1.tok _,⟨t,rfl⟩,q1⟩
theorem gO:∀ {ys:List Str} {us:List Value},Vals (ys.map V.str) us->StrsAre us ys
 | [],_,.nil=>.nil
 | n::r,_,.cons h t=>by
  obtain ⟨tk,rfl⟩:=h;exact .cons n tk (gO t)
theorem su (sep:List Nat) (ts:List (List Nat)):Txt.join (S sep) (ts.map S)=S (TK.jn sep ts):=by
 have go:∀ (r:List (List Nat)) (acc:List Nat),(r.map S).foldl (fun acc p=>acc++(S sep).cps++p.cps) acc.toArray=(acc++(r.map (sep++·)).flatten).toArray:=by
  intro r;induction r with
  | nil=>intro acc;simp
  | cons t r ih=>
   intro acc;rw [D6,List.foldl_cons];have:acc.toArray++(S sep).cps++(S t).cps=(acc++sep++t).toArray:=by simp [S]
   rw [this,ih];simp
 have fl:∀ (t:List Nat) (r:List (List Nat)),TK.jn sep (t::r)=t++(r.map (sep++·)).flatten:=by
  intro t r;induction r generalizing t with
  | nil=>simp [TK.jn]
  | cons u r ih=>
   show t++(sep++TK.jn sep (u::r))=_;rw [ih u];simp
 cases ts with
 | nil=>rfl
 | cons t r=>
  show (⟨((t::r).map S |>.drop 1).foldl (fun acc p=>acc++(S sep).cps++p.cps) (((t::r).map S).headD Str.empty).cps⟩:Str)=_;rw [fl];have:=go r t;show (⟨(r.map S).foldl (fun acc p=>acc++(S sep).cps++p.cps) t.toArray⟩:Str)=_;rw [this];rfl
theorem pG:Ax X "str.join" (fun x xs H Q=>∃ sep a ts,x=.str (S sep)/\xs=[.ref a]/\SqL X.K H a (ts.map fun t=>V.str (S t))/\(ts.map List.length).sum+ts.length*sep.length<=100000/\Q (.str (S (TK.jn sep ts))) H):=by
 intro pins s σ H x xs v us Q I rx rv h;obtain ⟨sep,a,ts,rfl,rfl,hS,hz,q⟩:=h;obtain ⟨t,rfl⟩:=rx;obtain ⟨u,rfl,ru⟩:=rv.one;cases ru;obtain ⟨its,r,pl,hz2⟩:=I.list hS;have e:(ts.map fun t=>V.str (S t))=(ts.map S).map V.str:=by rw [EV];rfl
 rw [e] at r;refine join_list pl.isList (ys:=ts.map S) (by simpa using gO r) ?_ fun t' k=>?_
 ·have:((ts.map S).map (·.length)).sum=(ts.map List.length).sum:=by
   rw [EV]
   congr 1
  rw [this,DI,bx];omega
 ·rw [su];exact ⟨.str (S (TK.jn sep ts)),H,I.tok _,⟨t',rfl⟩,q⟩
end
end L2
namespace L2
open PySem PySem.Spec PyProof.Rows
section
variable {X:Cx}
structure PEp (X:Cx) (e:Expr) (t:TE):Prop where
 run:∀ (pins:List (Addr×Obj)) (s:Shared) (σ:St) (H:Hp) (Q:VK),1<=s.toks->Inv X pins σ H s->t σ H Q->wpAny (model X.prog X.w) X.A (eval e X.env) (EP X pins σ Q) X.xe s
instance {X:Cx} {e:Expr} {t:TE}:CoeFun (PEp X e t) fun _=>∀ (pins:List (Addr×Obj)) (s:Shared) (σ:St) (H:Hp) (Q:VK),1<=s.toks->Inv X pins σ H s->t σ H Q->wpAny (model X.prog X.w) X.A (eval e X.env) (EP X pins σ Q) X.xe s:=⟨PEp.run⟩
inductive xw (i:Nat) (b:Str) (c:Str) (σ:St) (H:Hp) (Q:VK):Prop
 | mk (a:_):σ[i]?=some (some (.str a))->(b == c)=false->a.length+(a.length+1)*c.length<=16777216->Q (.str (Txt.replace a b c)) H->xw i b c σ H Q
theorem mz (i:Nat) {x b c:Str} {xp p1 p2 apos cpos:Pos} {j1 j2:Nat} (hN:X.N[i]?=some x) (hv:zO X.env.scope x) (hd:(x == ("__debug__":Str))=false:=by decide) (hcd:(x == ("__classdict__":Str))=false:=by decide)
  (hbase:attributeBase (.Name x xp) "replace" X.env (eval (.Name x xp) X.env)=eval (.Name x xp) X.env:=by rfl)
  (hline:(apos.endLine == cpos.line)=true:=by rfl) :
  PEp X (.Call (.Attribute (.Name x xp) "replace" apos) [.Constant (.str b) j1 p1,.Constant (.str c) j2 p2] [] cpos) (xw i b c):=by
 refine ⟨?_⟩;intro pins s σ H Q ht I h;obtain ⟨a,e,hyz,hb,q⟩:=h;obtain ⟨m,hn,hl⟩:=I.loc;obtain ⟨u,r,l⟩:=hl i x _ hN e hv;obtain ⟨t,rfl⟩:=r;refine wpAny_Call_method_late hbase (by rfl) hline rfl ?_;have r1:RelV (.str a) (.str a t):=⟨t,rfl⟩;obtain ⟨h1,h2⟩:=nY (T:="str") I r1 rfl;have ht0:s.toks≠0:=by omega
 have fin:MethodOn X.prog X.w X.A "replace" cpos (.str a t) (backTo cpos (starEach [.Constant (.str b) j1 p1,.Constant (.str c) j2 p2] X.env)) (EP X pins σ Q) X.xe s:=by
  refine ⟨"str","str.replace",Ff,PySem.F.slot_str_replace,PySem.F.type_str_replace,h1,h2,?_⟩;refine EU rfl (E7 ?_);refine EM (Fc (k:=j1) (pos:=p1) (EM (Fc (k:=j2) (pos:=p2) (Calls.spliced_nil ?_))));exact SC.replace ht0 (Nat.succ_ne_zero _) (fun z=>absurd z (by show s.toks≠s.toks+1;omega)) hyz hb fun t' k=>⟨.str (Txt.replace a b c),H,I.tok _,⟨t',rfl⟩,q⟩
 rcases l with ⟨hk,hm⟩|⟨hk,c,hc,hcell⟩
 ·exact wpAny_Name (wpAny_loadName_local I.ok.kind hk hn hm fin) hd
 ·rcases hk with hk|hk
  ·exact wpAny_Name (wpAny_loadName_cell I.ok.kind hk hc hcell fin) hd
  ·exact wpAny_Name (wpAny_loadName_free I.ok.kind hk hc hcell fin hcd) hd
variable {o e:Expr} {es:List Expr} {to te:TE} {t:TA} {name:Str} {apos cpos:Pos} {T id:String} {r:V->List V->Hp->VK->Prop}
end
section
variable {X:Cx}
theorem dW {T:String}:c8 X (.builtin "isinstance") (fun xs H Q=>∃ x t b,xs=[x,.ty T]/\gK X.K H x t/\PySem.W.kitOne X.K t (.type T)=some b/\Q (.bl b) H):=by
 intro pins s σ H xs us Q I r h;obtain ⟨x,t,b,rfl,ty,e,q⟩:=h;cases r with
 | cons r0 rr=>
  cases rr with
  | cons r1 rr=>
   cases rr;cases r1;exact qv I r0 ty e fun tk=>⟨.bl b,H,I.tok _,rfl,q⟩
theorem cv:dE X (compareOp .IsNot) (fun x y H Q=>∃ i j,x=.bl i/\y=.bl j/\Q (.bl (i != j)) H):=by
 intro pins s σ H x y v u Q I rx ry h;obtain ⟨i,j,rfl,rfl,q⟩:=h;cases rx;cases ry;exact PyProof.Rows.isnot_bool ⟨.bl _,H,I,rfl,q⟩
theorem sw:dE X (binaryOp .FloorDiv) (rI (fun _ j=>0 < j/\j < 18446744073709551616) fun i j=>.int (i / j)):=zS fun i j _ _ _ _ _ hc q=>by
 have h1:(0:Int) < j:=hc.1;have h2:j < 18446744073709551616:=hc.2;refine floordiv_int zo (by rw [Int.fdiv_eq_ediv_of_nonneg i zo];exact q) (.inl (PyProof.noPylong_of_log2 ?_));have h3:j.natAbs≠0:=by omega
 have:j.natAbs.log2 < 64:=(Nat.log2_lt h3).mpr (by show j.natAbs < 2 ^ 64;omega);omega
def BP (l:List Nat):It:=⟨fun i _=>i < l.length,fun i H y H'=>H'=H/\∃ h:i < l.length,y=.str (S [l[i]]),fun i _=>l.length<=i⟩
variable {K:ZF} {P:Program}
theorem oh {w:World} {tg:Expr} (l:List Nat) (t:Tok) (it:Addr):kz P w K tg (BP l) [it] it (fun i h=>h.IsStrIter it "str_ascii_iterator" (S l) t i) where
 mem:=by simp
 obj:=fun i h st b hb=>by
  have e:b=it:=by simpa using hb
  subst e;obtain ⟨o,e,c,d⟩:=st;exact ⟨o,e,fun v z=>by rw [d] at z;cases z⟩
 keep:=fun i h h' st k=>let ⟨o,ho,r⟩:=st;⟨o,k it (by simp) o ho,r⟩
 item:=by
  intro X hP hw hK hc i pins s σ H E I hf st hg;subst hP hw hK;have hg':i < l.length:=hg;obtain ⟨f0,f1,f2,f3,f4,f5⟩:=hf it (by simp);refine wpAny_pyNext_ascii_item st (c:=l[i]) (by show l.toArray[i]?=_;simp [hg']) fun h' st' sb=>?_;have I1:Inv X pins σ H { s with heap:=h',toks:=s.toks+1 }:=I.turned (fun b o hb e=>(sb.2 b hb).trans e) f0 f1 f3 f4 f5;obtain ⟨o,e,c,d⟩:=id st';exact ⟨_,rfl,lY (s:={ s with heap:=h',toks:=s.toks+1 }) e c d zd ⟨.str (S [l[i]]),H,I1,⟨_,rfl⟩,⟨rfl,hg',rfl⟩,st',fun b hb=>(hf b hb).1⟩⟩
 done:=by
  intro X hP hw hK hc i pins s σ H E I hf st hg;subst hP hw hK;have hg':l.length<=i:=hg;obtain ⟨f0,f1,f2,f3,f4,f5⟩:=hf it (by simp);exact wpAny_pyNext_ascii_end (I.ok.hd hc) st (by show l.toArray[i]?=_;simp [hg']) fun h' eb=>⟨rfl,I.turned (t':=s.toks) (fun b o hb e=>eb b o hb e) f0 f1 f3 f4 f5⟩
 self:=fun _ _ _ _ _ st h=>wpAny_pyIter_striter_ascii st h
theorem qz {w:World} {tg:Expr} (l:List Nat) (t:Tok) (it:Addr):kz P w K tg (BP l) [it] it (fun i h=>h.IsStrIter it "str_iterator" (S l) t i) where
 mem:=by simp
 obj:=fun i h st b hb=>by
  have e:b=it:=by simpa using hb
  subst e;obtain ⟨o,e,c,d⟩:=st;exact ⟨o,e,fun v z=>by rw [d] at z;cases z⟩
 keep:=fun i h h' st k=>let ⟨o,ho,r⟩:=st;⟨o,k it (by simp) o ho,r⟩
 item:=by
  intro X hP hw hK hc i pins s σ H E I hf st hg;subst hP hw hK;have hg':i < l.length:=hg;obtain ⟨f0,f1,f2,f3,f4,f5⟩:=hf it (by simp);refine wpAny_pyNext_wide_item st (c:=l[i]) (by show l.toArray[i]?=_;simp [hg']) fun h' st' sb=>?_;have I1:Inv X pins σ H { s with heap:=h',toks:=s.toks+1 }:=I.turned (fun b o hb e=>(sb.2 b hb).trans e) f0 f1 f3 f4 f5;obtain ⟨o,e,c,d⟩:=id st';exact ⟨_,rfl,lY (s:={ s with heap:=h',toks:=s.toks+1 }) e c d zd ⟨.str (S [l[i]]),H,I1,⟨_,rfl⟩,⟨rfl,hg',rfl⟩,st',fun b hb=>(hf b hb).1⟩⟩
 done:=by
  intro X hP hw hK hc i pins s σ H E I hf st hg;subst hP hw hK;have hg':l.length<=i:=hg;obtain ⟨f0,f1,f2,f3,f4,f5⟩:=hf it (by simp);exact wpAny_pyNext_wide_end (I.ok.hd hc) st (by show l.toArray[i]?=_;simp [hg']) fun h' eb=>⟨rfl,I.turned (t':=s.toks) (fun b o hb e=>eb b o hb e) f0 f1 f3 f4 f5⟩
 self:=fun _ _ _ _ _ st h=>wpAny_pyIter_striter_wide st h
inductive xy (R:It->Hp->Prop) (x:V) (H1:Hp):Prop
 | mk (l:_):x=.str (S l)->R (BP l) H1->xy R x H1
def Cq (tl:TE):TI:=fun σ H R=>tl σ H fun x H1=>xy R x H1
theorem sy {tg l:Expr} {tl:TE} (hl:PE X l tl):PI X tg l (Cq tl):=by
 refine ⟨?_⟩;intro pins s σ H R I h;refine bC (hl pins s σ H _ I h) fun v s1 ⟨x,H1,I1,r1,q1⟩=>?_;obtain ⟨l,e,q⟩:=q1;subst e;obtain ⟨t,rfl⟩:=r1;have fp:∀ b∈[s1.heap.objs.size],jF X pins H1 b:=fun b hb=>by
  have e:b=s1.heap.objs.size:=by simpa using hb
  subst e;exact I1.fpOk (DN _) (I1.hok.fresh (DN _))
 cases ha:(S l).cps.all (· < 128)
 ·exact wpAny_pyIter_wide ha ⟨s1.heap.objs.size,[s1.heap.objs.size],_,_,H1,rfl,I1.kept (t':=s1.toks) fun b o e=>DJ _ e,qz l t _,⟨_,D8 _ rfl,rfl,rfl⟩,fp,q⟩
 ·exact wpAny_pyIter_ascii ha ⟨s1.heap.objs.size,[s1.heap.objs.size],_,_,H1,rfl,I1.kept (t':=s1.toks) fun b o e=>DJ _ e,oh l t _,⟨_,D8 _ rfl,rfl,rfl⟩,fp,q⟩
theorem sB {l:List Nat} {g:TG} {tf:TT} {te:TE} {ix:List (Option Nat)} {σ:St} {H:Hp} {Q:VK} (Pv:Nat->List V->Hp->Prop) (h0:Pv 0 [] H)
  (hl:∀ i ys H,i<=l.length->Pv i ys H->ys.length<=sizeLine)
  (hs:∀ i ys H (h:i < l.length),Pv i ys H->g (.str (S [l[i]])) (j6 ix σ) H fun σ2 H2=>ExtL (j6 ix σ) σ2/\tf σ2 H2 fun b H3=>if b=true then te σ2 H3 fun y H4=>Nx Pv l.length i (ys++[y]) H4 else Nx Pv l.length i ys H3)
  (hd:∀ ys H,Pv l.length ys H->∀ D,H D=none->Q (.ref D) (aq H D (.lst ys))) :
  og (BP l) g tf te ix σ H Q:=by
 refine ⟨fun i m ys H=>m=l.length - i/\i<=l.length/\Pv i ys H,⟨l.length,by simp,Ej _,h0⟩,?_⟩;rintro i m ys H ⟨rfl,hi,p⟩;have hz:=hl i ys H hi p;by_cases hlt:i < l.length
 ·refine .inr ⟨hlt,hz,fun x H' y=>?_⟩;obtain ⟨e,h,y⟩:=y;subst e y;exact hs i ys _ hlt p
 ·have e:i=l.length:=by omega
  subst e;exact .inl ⟨DN _,hz,hd ys H p⟩
theorem ja (hc:X.calm=true):c8 X (.builtin "all") (fun xs H Q=>∃ (p:Addr) (bs:List Bool),xs=[.ref p]/\SqL X.K H p (bs.map V.bl)/\Q (.bl (bs.all id)) H):=by
 intro pins s σ H xs us Q I r h;obtain ⟨p,bs,rfl,hS,q⟩:=h;obtain ⟨u,rfl,rx⟩:=gh r;cases rx;obtain ⟨its,rv,pl,hz⟩:=I.list hS;have hlen:=rv.length;rw [DI] at hlen;have hne:p≠s.heap.objs.size:=by
  obtain ⟨o,ho,_⟩:=pl.isList;exact Eg (DW ho)
 refine call_all_walk (wpAny_pyIter_list pl.isList ?_);refine ⟨s.heap.objs.size,_,_,_,_,_,fun i=>bs.getD i true,rfl,Walks.list (A:=X.A.in1) (I.ok.hd hc) s.heap.objs.size p hne its.toArray,⟨⟨_,D8 _ rfl,rfl,rfl⟩,pl.isList.at fun o e=>DJ _ e⟩,?_,?_⟩
 ·intro i v s' Q' E' hv hq;have hv':its[i]?=some v:=by simpa using hv
  have hlt:i < its.length:=(DK.mp hv').1;have hb:i < bs.length:=by omega
  obtain ⟨u,hu,ru⟩:=rv.get (i:=i) (x:=.bl bs[i]) (by simp [hb]);rw [hv'] at hu;cases hu;cases ru;refine wpAny_truthy_bool ?_;have e:bs.getD i true=bs[i]:=by simp [List.getD,hb]
  dsimp only at hq;rw [e] at hq;exact hq
 ·intro h' tk hk;have e:(List.range its.toArray.size).all (fun i=>bs.getD i true)=bs.all id:=by
   rw [D7,<-hlen,EF,Eh,Eh];constructor
   ·intro z x hx;obtain ⟨i,hi,e⟩:=List.getElem_of_mem hx;have:=z i (Ez.mpr hi);rw [show bs.getD i true=bs[i] by simp [List.getD,hi],e] at this;exact this
   ·intro z i hi;have hi':=Ez.mp hi;rw [show bs.getD i true=bs[i] by simp [List.getD,hi']];exact z _ (ER hi')
  rw [e];exact ⟨.bl _,H,I.kept fun b o e=>hk b o (fun z=>absurd (DW e) (by rw [DZ.mp z];exact EH _)) (DJ _ e),rfl,q⟩
end
section
variable {κ:Type} [DecidableEq κ]
def bq (kvs:List (κ×V)) (k:κ):Option V:=(kvs.find? fun kv=>decide (kv.1=k)).map (·.2)
def aQ (kvs:List (κ×V)) (k:κ) (v:V):List (κ×V):=
 if (kvs.any fun kv=>decide (kv.1=k))=true then kvs.map (fun kv=>if kv.1=k then (kv.1,v) else kv) else kvs++[(k,v)]
theorem mB {k:κ}:bq ([]:List (κ×V)) k=none:=rfl
variable {r:List (κ×V)} {p:κ×V}
theorem cm {k:κ} (e:p.1=k):bq (p::r) k=some p.2:=by simp [bq,E5,e]
theorem bG {k:κ} (e:¬ p.1=k):bq (p::r) k=bq r k:=by simp [bq,E5,e]
theorem fk (k:κ):∀ kvs:List (κ×V),(kvs.any fun kv=>decide (kv.1=k))=(bq kvs k).isSome
 | []=>rfl
 | p::r=>by
  rw [Fh];by_cases e:p.1=k
  ·simp only [cm e,decide_eq_true e,Bool.true_or,Option.isSome_some]
  ·rw [bG e,decide_eq_false e,Bool.false_or];exact fk k r
theorem mC (k j:κ) (y:V):∀ kvs:List (κ×V),bq (kvs.map fun kv=>if kv.1=k then (kv.1,y) else kv) j=(bq kvs j).map fun x=>if j=k then y else x
 | []=>rfl
 | p::r=>by
  have ih:=mC k j y r;rw [D6];by_cases h:p.1=k
  ·rw [if_pos h];by_cases e:p.1=j
   ·rw [cm (p:=(p.1,y)) e,cm e,Fd,if_pos (e.symm.trans h)]
   ·rw [bG (p:=(p.1,y)) e,bG e,ih]
  ·rw [if_neg h];by_cases e:p.1=j
   ·rw [cm (p:=p) e,cm e,Fd,if_neg (fun z=>h (e.trans z))]
   ·rw [bG (p:=p) e,bG e,ih]
theorem j7 (k j:κ) (y:V):∀ kvs:List (κ×V),bq kvs k=none->bq (kvs++[(k,y)]) j=if j=k then some y else bq kvs j
 | [],_=>by
  by_cases e:k=j
  ·rw [if_pos e.symm];exact cm (p:=(k,y)) e
  ·rw [if_neg (fun z=>e z.symm)];exact bG (p:=(k,y)) e
 | p::r,hn=>by
  rw [EQ];have hk:¬ p.1=k:=fun z=>by rw [cm z] at hn;cases hn
  rw [bG hk] at hn;have ih:=j7 k j y r hn;by_cases e:p.1=j
  ·rw [cm e,cm e,if_neg (fun z=>hk (e.trans z))]
  ·rw [bG e,bG e,ih]
theorem mD (kvs:List (κ×V)) (k j:κ) (y:V):bq (aQ kvs k y) j=if j=k then some y else bq kvs j:=by
 unfold aQ;by_cases a:(kvs.any fun kv=>decide (kv.1=k))=true
 ·rw [if_pos a,mC];rw [fk] at a;by_cases e:j=k
  ·obtain ⟨x,hx⟩:=Option.isSome_iff_exists.mp a;rw [if_pos e,e,hx,Fd,if_pos rfl]
  ·rw [if_neg e];cases bq kvs j with
   | none=>rfl
   | some x=>rw [Fd,if_neg e]
 ·rw [if_neg a];refine j7 k j y kvs ?_;rw [fk] at a;cases q:bq kvs k with
  | none=>rfl
  | some x=>rw [q] at a;exact (a rfl).elim
theorem dO (kvs:List (κ×V)) (k:κ) (v:V):(aQ kvs k v).length<=kvs.length+1:=by
 unfold aQ;split
 ·rw [DI];omega
 ·rw [DL,DQ,Em];omega
variable {kvs:List (κ×V)}
theorem dm {k:κ} (v:V) (h:bq kvs k=none):aQ kvs k v=kvs++[(k,v)]:=by
 unfold aQ;rw [fk,h];exact if_neg zd
theorem RelO.isSome_eq {o:Option V} {u:Option Value} (r:RelO o u):o.isSome=u.isSome:=by
 cases o with
 | none=>cases u with
  | none=>rfl
  | some _=>exact (show False from r).elim
 | some _=>cases u with
  | none=>exact (show False from r).elim
  | some _=>rfl
theorem KV.val {vs:List (κ×Value)} (r:KV kvs vs) (k:κ):RelO (bq kvs k) (valueAt vs k):=by
 unfold KV at r;induction r with
 | nil=>exact True.intro
 | @cons p q ps qs h t ih=>
  obtain ⟨h1,h2⟩:=h;by_cases e:p.1=k
  ·have e':q.1=k:=h1.symm.trans e;have b:valueAt (q::qs) k=some q.2:=by simp [valueAt,E5,e']
   rw [cm e,b];exact h2
  ·have e':¬ q.1=k:=fun z=>e (h1.trans z);have b:valueAt (q::qs) k=valueAt qs k:=by simp [valueAt,E5,e']
   rw [bG e,b];exact ih
theorem KV.any {vs:List (κ×Value)} (r:KV kvs vs) (k:κ):(kvs.any fun kv=>decide (kv.1=k))=vs.any fun kv=>decide (kv.1=k):=by
 unfold KV at r;induction r with
 | nil=>rfl
 | cons h t ih=>rw [Fh,Fh,ih,h.1]
variable {u:Value} {y:V}
theorem KV.repl {vs:List (κ×Value)} (r:KV kvs vs) (k:κ) (ry:RelV y u) :
  KV (kvs.map fun kv=>if kv.1=k then (kv.1,y) else kv) (vs.map fun kv=>if kv.1=k then (kv.1,u) else kv):=by
 unfold KV at r ⊢;induction r with
 | nil=>exact .nil
 | @cons p q ps qs h t ih=>
  rw [D6,D6];refine .cons ?_ ih;obtain ⟨h1,h2⟩:=h;by_cases e:p.1=k
  ·rw [if_pos e,if_pos (h1.symm.trans e)];exact ⟨h1,ry⟩
  ·rw [if_neg e,if_neg (fun z=>e (h1.trans z))];exact ⟨h1,h2⟩
theorem KV.put {vs:List (κ×Value)} (r:KV kvs vs) (k:κ) (ry:RelV y u):KV (aQ kvs k y) (stored vs k u):=by
 unfold aQ stored;rw [r.any k];by_cases e:(vs.any fun kv=>decide (kv.1=k))=true
 ·rw [if_pos e,if_pos e];exact r.repl k ry
 ·rw [if_neg e,if_neg e];exact Paired.snoc r ⟨rfl,ry⟩
theorem KV.length {vs:List (κ×Value)} (r:KV kvs vs):kvs.length=vs.length:=Paired.length r
end
variable {u:Value} {P:Program}
theorem j8 {w:World} {k:bT} (r:RelV (kV k) u):(ca P w).is k u=true:=by
 cases k with
 | inl i=>obtain ⟨t,e⟩:=(show ∃ t,u=Value.int i t from r);subst e;exact lW P w i t
 | inr x=>obtain ⟨t,e⟩:=(show ∃ t,u=Value.str x t from r);subst e;exact lX P w x t
theorem j9 {w:World}:∀ {ks:List bT} {us:List Value},Vals (ks.map kV) us->ItemsAre (ca P w) ks us
 | [],_,r=>by rw [List.map_nil] at r;cases r;exact .nil
 | k::ks,_,r=>by
  rw [D6] at r;cases r with
  | cons h t=>exact .cons (j8 h) (j9 t)
abbrev KT (H:Hp):List (List bT×V)->List (List bT×Addr×Value)->Prop:=Paired fun p q=>p.1=q.1/\H q.2.1=some (.tup (p.1.map kV))/\RelV p.2 q.2.2
variable {xs:List (List bT×Addr×Value)} {kvs:List (List bT×V)} {H:Hp}
theorem KT.val (r:KT H kvs xs) (k:List bT):RelO (bq kvs k) ((atKey xs k).map (·.2)):=by
 induction r with
 | nil=>exact True.intro
 | @cons p q ps qs h t ih=>
  obtain ⟨h1,_,h2⟩:=h;by_cases e:p.1=k
  ·have e':q.1=k:=h1.symm.trans e;have b:atKey (q::qs) k=some q.2:=by simp [atKey,E5,e']
   rw [cm e,b];exact h2
  ·have e':¬ q.1=k:=fun z=>e (h1.trans z);have b:atKey (q::qs) k=atKey qs k:=by simp [atKey,E5,e']
   rw [bG e,b];exact ih
variable {y:V}
theorem KT.repl (r:KT H kvs xs) (k:List bT) (ry:RelV y u) :
  KT H (kvs.map fun kv=>if kv.1=k then (kv.1,y) else kv) (xs.map (putAt k u)):=by
 induction r with
 | nil=>exact .nil
 | @cons p q ps qs h t ih=>
  rw [D6,D6];refine .cons ?_ ih;obtain ⟨h1,h2,h3⟩:=h;unfold putAt;by_cases e:p.1=k
  ·rw [if_pos e,if_pos (h1.symm.trans e)];exact ⟨h1,h2,ry⟩
  ·rw [if_neg e,if_neg (fun z=>e (h1.trans z))];exact ⟨h1,h2,h3⟩
theorem KT.put (r:KT H kvs xs) (k:List bT) {b:Addr} (hb:H b=some (.tup (k.map kV))) (ry:RelV y u) :
  KT H (aQ kvs k y) (storedH xs k b u):=by
 have e:(kvs.any fun kv=>decide (kv.1=k))=(atKey xs k).isSome:=by
  rw [fk,(r.val k).isSome_eq,Option.isSome_map]
 unfold aQ storedH;rw [e];by_cases q:(atKey xs k).isSome=true
 ·rw [if_pos q,if_pos q];exact r.repl k ry
 ·rw [if_neg q,if_neg q];exact Paired.snoc r ⟨rfl,hb,ry⟩
theorem KT.keeps {H H':Hp} (r:KT H kvs xs) (ht:∀ b ys,H b=some (.tup ys)->H' b=some (.tup ys)):KT H' kvs xs:=
 Paired.mapP r fun _ _ z=>⟨z.1,ht _ _ z.2.1,z.2.2⟩
section
variable {P:Program} {w:World} {H:Hp} {h:Heap} {a:Addr}
theorem xz {u:HO} (ok:HOk P w H h) (e:Rd H a u):ObjOk P w H h a u:=e.ok ok
theorem ka {kvs:List (bT×V)} (ok:HOk P w H h) (e:Rd H a (.dK kvs)):kvs.length<=sizeLine/\(a == sysModules)=false/\∃ vs,KV kvs vs/\h.DictOf (ca P w) a vs:=
 show ObjOk P w H h a (.dK kvs) from xz ok e
theorem mE {kvs:List (bT×V)} (ok:HOk P w H h) (e:H a=some (.dK kvs)):kvs.length<=sizeLine/\(a == sysModules)=false/\∃ vs,KV kvs vs/\h.DictOf (ca P w) a vs:=ka ok (.inl e)
theorem jb {ks:List bT} (ok:HOk P w H h) (e:H a=some (.tup (ks.map kV))):(tupleKind (ca P w)).is h ks a:=by
 obtain ⟨_,its,r,o,h1,h2,n,h3⟩:=(show ObjOk P w H h a (.tup (ks.map kV)) from ok a _ e);exact ⟨o,its.toArray,n,h1,(Fj h2).1,h3,by simpa using j9 r⟩
theorem kc (ok:HOk P w H h) (e:Rd H a (.dT kvs)):kvs.length<=sizeLine/\(a == sysModules)=false /\
  ∃ xs,KT H kvs xs/\h.DictOfH (tupleKind (ca P w)) a xs:=by
 obtain ⟨z,y,xs,r,o,es,ep,h1,h2,h3,h4,h5⟩:=(show ObjOk P w H h a (.dT kvs) from xz ok e);refine ⟨z,y,xs,r,o,es,ep,h1,h2,h3,h4,fun x hx=>?_,h5⟩;have all:∀ {l:List (List bT×V)} {m:List (List bT×Addr×Value)},KT H l m->∀ x∈m,(tupleKind (ca P w)).is h x.1 x.2.1:=by
  intro l m q;induction q with
  | nil=>intro x hx;exact nomatch hx
  | @cons p q ps qs hq t ih=>
   intro x hx;rcases DY.mp hx with e|hx
   ·subst e;exact jb ok (by rw [<-hq.1];exact hq.2.1)
   ·exact ih x hx
 exact all r x hx
theorem AE (ok:HOk P w H h) (e:H a=some (.dT kvs)):kvs.length<=sizeLine/\(a == sysModules)=false /\
  ∃ xs,KT H kvs xs/\h.DictOfH (tupleKind (ca P w)) a xs:=kc ok (.inl e)
end
def DGet (H:Hp) (a:Addr) (y:V) (r:Option V):Prop:=
 (∃ kvs k,Rd H a (.dK kvs)/\y=kV k/\r=bq kvs k)\/∃ kvs k b,Rd H a (.dT kvs)/\y=.ref b/\H b=some (.tup (k.map kV))/\r=bq kvs k
def DPut (H:Hp) (a:Addr) (y v:V) (H':Hp):Prop:=
 (∃ kvs k,H a=some (.dK kvs)/\y=kV k/\kvs.length < sizeLine/\H'=aq H a (.dK (aQ kvs k v))) ∨
 ∃ kvs k b,H a=some (.dT kvs)/\y=.ref b/\H b=some (.tup (k.map kV))/\kvs.length < sizeLine/\H'=aq H a (.dT (aQ kvs k v))
variable {a:Addr}
theorem DGet.k {kvs:List (bT×V)} {k:bT} (e:H a=some (.dK kvs)):DGet H a (kV k) (bq kvs k):=.inl ⟨kvs,k,.inl e,rfl,rfl⟩
theorem DPut.k {kvs:List (bT×V)} {k:bT} {v:V} (e:H a=some (.dK kvs)) (hl:kvs.length < sizeLine):DPut H a (kV k) v (aq H a (.dK (aQ kvs k v))):=.inl ⟨kvs,k,e,rfl,hl,rfl⟩
section
variable {X:Cx} {pins:List (Addr×Obj)} {σ:St} {H:Hp} {s:Shared} {a:Addr} {y v:V} {u r:Value} {o:Option V} {A:Around} {E:Value->Shared->Prop}
theorem Inv.big (I:Inv X pins σ H s):sysModules < s.heap.objs.size:=by
 have h:mainGlobals < s.heap.objs.size:=(I.mod.glob.keeps I.bk).lt;exact Nat.lt_trans zd h
variable {Q:Value->Shared->Prop}
theorem qA (hu:A.units+1 < cLine) (I:Inv X pins σ H s) (g:DGet H a y (some v)) (ry:RelV y u) (h:∀ w' s',Inv X pins σ H s'->RelV v w'->Q w' s') :
  wpAny (model X.prog X.w) A (getItem (.ref a) u) Q E s:=by
 rcases g with ⟨kvs,k,e,ey,l⟩|⟨kvs,k,b,e,ey,eb,l⟩
 ·subst ey;obtain ⟨z,hd,vs,rel,dd⟩:=ka I.hok e;obtain ⟨w',hw,rw'⟩:=RelO.some_of (v:=v) (o:=valueAt vs k) (by rw [l];exact rel.val k);exact wpAny_getItem_of (j8 ry) dd.mapOf hw (h w' _ (I.tok _) rw')
 ·subst ey;cases (show u=Value.ref b from ry);obtain ⟨z,hd,xs,rel,dd⟩:=kc I.hok e;obtain ⟨w',hw,rw'⟩:=RelO.some_of (v:=v) (o:=(atKey xs k).map (·.2)) (by rw [l];exact rel.val k);obtain ⟨p,hp,hp2⟩:=Option.map_eq_some_iff.mp hw;refine wpAny_getItem_heap (tupleKind_room_in1 hu) (jb I.hok eb) dd hp ?_;rw [hp2];exact h w' _ (I.tok _) rw'
theorem Cr (hu:A.units+1 < cLine) (I:Inv X pins σ H s) (g:DGet H a y o) (ry:RelV y u) (h:∀ s',Inv X pins σ H s'->Q (.bool o.isSome) s') :
  wpAny (model X.prog X.w) A (compareOp .In u (.ref a)) Q E s:=by
 rcases g with ⟨kvs,k,e,ey,l⟩|⟨kvs,k,b,e,ey,eb,l⟩
 ·subst ey;obtain ⟨z,hd,vs,rel,dd⟩:=ka I.hok e;refine wpAny_in_of (j8 ry) hd dd.mapOf ?_;rw [<-(rel.val k).isSome_eq,<-l];exact h _ (I.tok _)
 ·subst ey;cases (show u=Value.ref b from ry);obtain ⟨z,hd,xs,rel,dd⟩:=kc I.hok e;refine wpAny_in_heap (tupleKind_room_in1 hu) (jb I.hok eb) hd dd ?_;have q:=(rel.val k).isSome_eq;rw [Option.isSome_map] at q;rw [<-q,<-l];exact h _ (I.tok _)
theorem vG (hu:A.units+1 < cLine) (I:Inv X pins σ H s) (g:DGet H a y o) (ry:RelV y u) (h:∀ s',Inv X pins σ H s'->Q (.bool (!o.isSome)) s') :
  wpAny (model X.prog X.w) A (compareOp .NotIn u (.ref a)) Q E s:=by
 rcases g with ⟨kvs,k,e,ey,l⟩|⟨kvs,k,b,e,ey,eb,l⟩
 ·subst ey;obtain ⟨z,hd,vs,rel,dd⟩:=ka I.hok e;refine wpAny_notIn_of (j8 ry) hd dd.mapOf ?_;rw [<-(rel.val k).isSome_eq,<-l];exact h _ (I.tok _)
 ·subst ey;cases (show u=Value.ref b from ry);obtain ⟨z,hd,xs,rel,dd⟩:=kc I.hok e;refine wpAny_notIn_heap (tupleKind_room_in1 hu) (jb I.hok eb) hd dd ?_;have q:=(rel.val k).isSome_eq;rw [Option.isSome_map] at q;rw [<-q,<-l];exact h _ (I.tok _)
theorem iJ {h':Heap} {t':Nat} {ob:HO} (I:Inv X pins σ H s) (mu:zY (H a)) (hs:Heap.SameBut a s.heap h') (he:∃ q,h'.get? a=some q) (new:ObjOk X.prog X.w (aq H a ob) h' a ob) :
  Inv X pins σ (aq H a ob) { s with heap:=h',toks:=t' }:=
 I.write (x:=a) (e:=a) mu (.inl rfl) (fun b q hb z=>(hs.2 b hb).trans z) he new
theorem kL {w:World} {H':Hp} {h':Heap} {kvs:List (bT×V)} {vs:List (bT×Value)} (z:kvs.length<=sizeLine) (hd:(a == sysModules)=false) (rel:KV kvs vs) (dd:h'.DictOf (ca P w) a vs) :
  ObjOk P w H' h' a (.dK kvs):=⟨z,hd,vs,rel,dd⟩
theorem qB {H':Hp} {Q:Unit->Shared->Prop} (hu:A.units+1 < cLine) (I:Inv X pins σ H s) (g:DPut H a y v H') (ry:RelV y u) (rv:RelV v r) (h:∀ s',Inv X pins σ H' s'->Q () s') :
  wpAny (model X.prog X.w) A (setItem (.ref a) u r) Q E s:=by
 rcases g with ⟨kvs,k,e,ey,l,eH⟩|⟨kvs,k,b,e,ey,eb,l,eH⟩
 ·subst ey eH;obtain ⟨z,hd,vs,rel,dd⟩:=mE I.hok e;have hz:vs.length<=sizeLine:=by rw [<-rel.length];exact z
  have hl:(aQ kvs k v).length<=sizeLine:=by have:=dO kvs k v;omega
  refine wpAny_setItem_pairs (hsz:=hz) (j8 ry) dd fun h' dd' hs=>h _ ?_;have he:∃ q,h'.get? a=some q:=let ⟨q,_,_,hq,_⟩:=dd';⟨q,hq⟩;exact iJ I (by rw [e];exact True.intro) hs he (kL hl hd (rel.put k rv) dd')
 ·subst ey eH;cases (show u=Value.ref b from ry);obtain ⟨z,hd,xs,rel,dd⟩:=AE I.hok e;have hz:xs.length<=sizeLine:=by rw [<-Paired.length rel];exact z
  have hl:(aQ kvs k v).length<=sizeLine:=by have:=dO kvs k v;omega
  refine wpAny_setItem_heap (hsz:=hz) (tupleKind_room_in1 hu) (jb I.hok eb) dd fun h' dd' hs=>h _ ?_;obtain ⟨q,es,ep,hq,h2,h3,h4,_,h5⟩:=dd';refine iJ I (by rw [e];exact True.intro) hs ⟨q,hq⟩ ⟨hl,hd,_,(rel.put k eb rv).keeps fun c ys ec=>?_,q,es,ep,hq,h2,h3,h4,h5⟩;rw [ao (zX ec e (fun z=>nomatch z))];exact ec
end
def AF (i:Expr):Prop:=∀ ov iv,subscripted i false ov iv=operate [ov,iv] (getItem ov iv)
theorem vH {prog:Program} {w:World} {A:Around} {E:Value->Shared->Prop} {s:Shared} {env:Env} {value slice:Expr} {pos:Pos} {T id:String} {Q:Value->Shared->Prop}
  (hl:typeLookup (.type T) "__getitem__"=pure (some (.builtin id))) (hs:AF slice)
  (h:wpAny (model prog w) A (eval value env) (fun o s₁=>wpAny (model prog w) A (eval slice env) (fun i s₂=>s₂.TypeIs o T/\wpAny (model prog w) A (getItem o i) Q E s₂) E s₁) E s) :
  wpAny (model prog w) A (eval (.Subscript value slice pos) env) Q E s:=by
 refine Subscript_ (wpAny_mono h (fun o s₁ h₁=>wpAny_mono h₁ (fun i s₂ h₂=>?_) fun _ _ x=>x) fun _ _ x=>x);obtain ⟨hT,h₂⟩:=h₂;unfold subscriptTail;refine wpAny_bind ?_;rw [getitemInPython_of_ne hT.not_modules];refine wpAny_bind (wpAny_specialOf hT hl ?_);have fin:wpAny (model prog w) A (subscripted slice false o i) (fun r s₃=>wpAny (model prog w) A (letTemporaryGo value o r >>= fun _=>pure r) Q E s₃) E s₂:=by
  rw [hs o i];exact wpAny_operating (wpAny_mono h₂ (fun r s₃ h₃=>wpAny_bind (wpAny_letTemporaryGo (wpAny_pure h₃))) fun _ _ x=>x)
 first
  | exact wpAny_pure (wpAny_bind fin)
  | exact wpAny_bind (wpAny_pure (wpAny_bind fin))
  | exact wpAny_bind fin
variable {s:Shared} {σ:St} {pins:List (Addr×Obj)} {X:Cx}
theorem mF {o:Option V} (I:Inv X pins σ H s) (g:DGet H a y o):s.TypeIs (.ref a) "dict":=by
 rcases g with ⟨kvs,k,e,_,_⟩|⟨kvs,k,b,e,_,_,_⟩
 ·obtain ⟨_,_,vs,_,dd⟩:=ka I.hok e;exact dd.typeIs
 ·obtain ⟨_,_,xs,_,dd⟩:=kc I.hok e;exact dd.typeIs
inductive sC (Q:VK) (x:V) (y:V) (H2:Hp):Prop
 | mk (a v:_):x=.ref a->DGet H2 a y (some v)->Q v H2->sC Q x y H2
def AG (td ty:TE):TE:=fun σ H Q=>td σ H fun x H1=>ty σ H1 fun y H2=>sC Q x y H2
inductive xA (Q:VK) (y:V) (x:V) (H2:Hp):Prop
 | mk (a o:_):x=.ref a->DGet H2 a y o->Q (.bl o.isSome) H2->xA Q y x H2
def Cs (ty td:TE):TE:=fun σ H Q=>ty σ H fun y H1=>td σ H1 fun x H2=>xA Q y x H2
inductive mG (Q:VK) (y:V) (x:V) (H2:Hp):Prop
 | mk (a o:_):x=.ref a->DGet H2 a y o->Q (.bl (!o.isSome)) H2->mG Q y x H2
def vI (ty td:TE):TE:=fun σ H Q=>ty σ H fun y H1=>td σ H1 fun x H2=>mG Q y x H2
inductive sD (D:Ends) (σ:St) (v:V) (x:V) (y:V) (H3:Hp):Prop
 | mk (a H4:_):x=.ref a->DPut H3 a y v H4->D.nx σ H4->sD D σ v x y H3
def AH (td ty tv:TE):TS:=fun D σ H=>tv σ H fun v H1=>td σ H1 fun x H2=>ty σ H2 fun y H3=>sD D σ v x y H3
section
variable {X:Cx} {o i e value:Expr} {pos pos' tpos:Pos} {td ty tv:TE}
theorem aV (hu:X.A.units+1 < cLine) (ho:PE X o td) (hi:PE X i ty) (hs:AF i:=by intro _ _;rfl):PE X (.Subscript o i pos) (AG td ty):=by
 refine ⟨?_⟩;intro pins s σ H Q I h;refine vH PySem.F.slot_dict_getitem.lookup hs (bC (ho pins s σ H _ I h) fun u s1 ⟨x,H1,I1,rx,q1⟩=>bC (hi pins s1 σ H1 _ I1 q1) fun iv s2 ⟨y,H2,I2,ry,a,v,ex,g,q2⟩=>?_);subst ex;obtain rfl:u=Value.ref a:=rx;exact ⟨mF I2 g,qA hu I2 g ry fun w' s3 I3 rw'=>⟨v,H2,I3,rw',q2⟩⟩
theorem sE (hu:X.A.units+1 < cLine) (hi:PE X i ty) (ho:PE X o td):PC X .In i o (Cs ty td):=by
 intro pins s σ H Q I h;refine bC (hi pins s σ H _ I h) fun iv s1 ⟨y,H1,I1,ry,q1⟩=>bC (ho pins s1 σ H1 _ I1 q1) fun u s2 ⟨x,H2,I2,rx,a,ov,ex,g,q2⟩=>?_;subst ex;obtain rfl:u=Value.ref a:=rx;exact Cr hu I2 g ry fun s3 I3=>⟨.bl ov.isSome,H2,I3,rfl,q2⟩
theorem qC (hu:X.A.units+1 < cLine) (hi:PE X i ty) (ho:PE X o td):PC X .NotIn i o (vI ty td):=by
 intro pins s σ H Q I h;refine bC (hi pins s σ H _ I h) fun iv s1 ⟨y,H1,I1,ry,q1⟩=>bC (ho pins s1 σ H1 _ I1 q1) fun u s2 ⟨x,H2,I2,rx,a,ov,ex,g,q2⟩=>?_;subst ex;obtain rfl:u=Value.ref a:=rx;exact vG hu I2 g ry fun s3 I3=>⟨.bl (!ov.isSome),H2,I3,rfl,q2⟩
theorem kM (hu:X.A.units+1 < cLine) (ho:PE X o td) (hi:PE X i ty) (hv:PE X value tv) (hs:swapsWith value (some (.Subscript o i pos')) pos.line X.env=pure false) :
  PS X (.Assign [.Subscript o i pos'] value pos) (AH td ty tv):=by
 refine ⟨?_⟩;intro pins s σ H D I h;refine wpAny_Assign_Subscript (bC (hv pins s σ H _ I h) fun r s1 ⟨v,H1,I1,rv,q1⟩=>bC (ho pins s1 σ H1 _ I1 q1) fun u s2 ⟨x,H2,I2,rx,q2⟩=>bC (hi pins s2 σ H2 _ I2 q2) fun iv s3 ⟨y,H3,I3,ry,a,H4,ex,g,q3⟩=>?_) hs;subst ex;obtain rfl:u=Value.ref a:=rx;exact qB hu I3 g ry rv fun s4 I4=>⟨σ,H4,I4,q3⟩
end
theorem mH {w:World} (h:Heap) (hb:sysModules < h.objs.size):ObjOk P w H (h.push { cls:=.type "dict",data:=.dict #[] }) h.objs.size (.dK []):=
 ⟨Ej _,beq_eq_false_iff_ne.mpr (Ne.symm (Eg hb)),[],.nil,Heap.DictOf.new h⟩
def yu:TE:=fun _ H Q=>∀ p,H p=none->Q (.ref p) (aq H p (.dK []))
section
variable {X:Cx} {pos:Pos}
theorem eD:PE X (.Dict [] [] pos) yu:=⟨fun pins s σ H Q I h=>
 wpAny_Dict_empty ⟨.ref s.heap.objs.size,_,I.laid (a:=s.heap.objs.size) (o:=.dK []) (t':=s.toks) (fun _ _ q=>DJ _ q) (DN _) (mH s.heap I.big),rfl,h _ (I.hok.fresh (DN _))⟩⟩
end
def oi:List (TE×TE)->St->Hp->(List (V×V)->Hp->Prop)->Prop
 | [],_,H,Q=>Q [] H
 | (tk,tv)::r,σ,H,Q=>tk σ H fun x H1=>tv σ H1 fun y H2=>oi r σ H2 fun ps H3=>Q ((x,y)::ps) H3
abbrev VV:List (V×V)->List (Value×Value)->Prop:=Paired fun p q=>RelV p.1 q.1/\RelV p.2 q.2
def BQ (X:Cx) (pos:Pos) (keys:List (Option Expr)) (values:List Expr) (trs:List (TE×TE)):Prop:=
 ∀ (pins:List (Addr×Obj)) (s:Shared) (σ:St) (H:Hp) (Q:List (V×V)->Hp->Prop),Inv X pins σ H s->oi trs σ H Q->
  wpAny (model X.prog X.w) X.A (evalPairs (pairTrees keys values X.env pos)) (fun vs s'=>∃ ps H',Inv X pins σ H' s'/\VV ps vs/\Q ps H') X.xe s
theorem cf {pos:Pos}:BQ X pos [] [] []:=fun pins s σ H Q I h=>pairTrees_nil_walk ⟨[],H,I,.nil,h⟩
variable {trs:List (TE×TE)}
theorem bh {pos:Pos} {k v:Expr} {ks:List (Option Expr)} {vs:List Expr} {tk tv:TE} (hk:PE X k tk) (hv:PE X v tv) (hr:BQ X pos ks vs trs) :
  BQ X pos (some k::ks) (v::vs) ((tk,tv)::trs):=fun pins s σ H Q I h=>
 pairTrees_cons_walk (bC (hk pins s σ H _ I h) fun u s1 ⟨x,H1,I1,rx,q1⟩=>bC (hv pins s1 σ H1 _ I1 q1) fun w2 s2 ⟨y,H2,I2,ry,q2⟩=>
  bC (hr pins s2 σ H2 _ I2 q2) fun ws s3 ⟨ps,H3,I3,rel,q3⟩=>⟨(x,y)::ps,H3,I3,.cons ⟨rx,ry⟩ rel,q3⟩)
def ba (kvs more:List (bT×V)):List (bT×V):=more.foldl (fun acc kv=>aQ acc kv.1 kv.2) kvs
theorem KV.merge:∀ {more:List (bT×V)} {rs:List (bT×Value)} {kvs:List (bT×V)} {vs:List (bT×Value)},KV more rs->KV kvs vs->KV (ba kvs more) (merged vs rs):=by
 intro more rs kvs vs r;unfold KV at r;induction r generalizing kvs vs with
 | nil=>intro q;exact q
 | @cons p q ps qs h t ih=>
  intro r0;have e:KV (aQ kvs p.1 p.2) (stored vs q.1 q.2):=by
   have:=r0.put p.1 h.2;rw [<-h.1];exact this
  exact ih e
theorem cq:∀ (more kvs:List (bT×V)),(ba kvs more).length<=kvs.length+more.length
 | [],kvs=>by show kvs.length<=kvs.length+0;omega
 | p::r,kvs=>by
  have h1:=cq r (aQ kvs p.1 p.2);have h2:=dO kvs p.1 p.2;show (ba (aQ kvs p.1 p.2) r).length<=_;rw [DQ];omega
theorem jc {P:Program} {w:World}:∀ {kvs:List (bT×V)} {ws:List (Value×Value)},VV (kvs.map fun kv=>(kV kv.1,kv.2)) ws->∃ rs,Carries (ca P w) ws rs/\KV kvs rs
 | [],_,r=>by rw [List.map_nil] at r;cases r;exact ⟨[],True.intro,.nil⟩
 | p::kvs,_,r=>by
  rw [D6] at r;cases r with
  | @cons a b as bs h t=>
   obtain ⟨rs,c,q⟩:=jc (P:=P) (w:=w) t;obtain ⟨b1,b2⟩:=b;exact ⟨(p.1,b2)::rs,⟨j8 h.1,rfl,c⟩,.cons ⟨rfl,h.2⟩ q⟩
def AI (trs:List (TE×TE)):TE:=fun σ H Q=>∀ p,H p=none->oi trs σ (aq H p (.dK [])) fun ps H2=>H2 p=some (.dK [])/\∃ kvs:List (bT×V),ps=kvs.map (fun kv=>(kV kv.1,kv.2))/\kvs.length<=15/\Q (.ref p) (aq H2 p (.dK (ba [] kvs)))
theorem cg {pos:Pos} {keys:List (Option Expr)} {values:List Expr} (h:BQ X pos keys values trs) (hall:keys.all (·.isSome)=true) (hl:keys.length=values.length) (h0:keys≠[])
  (h15:keys.length<=15):PE X (.Dict keys values pos) (AI trs):=by
 refine ⟨?_⟩;intro pins s σ H Q I q;have hn:=I.hok.fresh (DN s.heap.objs.size);have I1:=I.laid (a:=s.heap.objs.size) (o:=.dK []) (h':=s.heap.push { cls:=.type "dict",data:=.dict #[] }) (t':=s.toks) (fun _ _ q=>DJ _ q) (DN _) (mH s.heap I.big);refine wpAny_Dict_walk (knd:=ca X.prog X.w) hall hl h0 h15 (bC (h pins _ σ _ _ I1 (q _ hn)) fun ws s2 ⟨ps,H2,I2,rel,e,kvs,ep,lk,q2⟩=>?_);subst ep;obtain ⟨rs,c,rk⟩:=jc (P:=X.prog) (w:=X.w) rel;obtain ⟨z,hd,vs0,r0,dd⟩:=mE I2.hok e;cases r0;refine ⟨rs,c,dd,fun h' dd' hs=>⟨.ref s.heap.objs.size,_,?_,rfl,q2⟩⟩;have hz:(ba [] kvs).length<=sizeLine:=by
  have h1:=cq kvs [];rw [Em] at h1;rw [sizeLine_eq];omega
 have he:∃ q,h'.get? s.heap.objs.size=some q:=let ⟨q,_,_,hq,_⟩:=dd';⟨q,hq⟩;exact iJ I2 (by rw [e];exact True.intro) hs he (kL hz hd (rk.merge .nil) dd')
structure M1 (X:Cx) (o:Expr) (m:Str) (apos:Pos) (e:Expr) (cpos:Pos):Prop where
 base:attributeBase o m X.env (eval o X.env)=eval o X.env
 few:((backTo cpos (starEach [e] X.env)).all (fun x=>!x.1) && (backToKw cpos (keywordEach [] X.env)).all (fun x=>x.1.isSome)
  && decide (([e]:List Expr).length+([]:List Keyword).length+(if ([]:List Keyword).isEmpty then 0 else 1) < 30))=true
 line:(apos.endLine == cpos.line)=true
 trees:backTo cpos (starEach [e] X.env)=[(false,eval e X.env)]
def C9 (H:Hp) (a:Addr):Prop:=(∃ kvs,Rd H a (.dK kvs))\/∃ kvs,Rd H a (.dT kvs)
theorem yw (I:Inv X pins σ H s) (d:C9 H a) :
  s.TypeIs (.ref a) "dict"/\(∀ b,Value.ref a=.ref b->∃ ob,s.heap.get? b=some ob/\ob.dict=none)/\(a == sysModules)=false:=by
 rcases d with ⟨kvs,e⟩|⟨kvs,e⟩
 ·obtain ⟨_,hd,vs,_,dd⟩:=ka I.hok e;refine ⟨dd.typeIs,fun b q=>?_,hd⟩;cases q;obtain ⟨ob,_,_,h1,h2,_⟩:=dd;exact ⟨ob,h1,h2.2.1⟩
 ·obtain ⟨_,hd,xs,_,dd⟩:=kc I.hok e;refine ⟨dd.typeIs,fun b q=>?_,hd⟩;cases q;obtain ⟨ob,_,_,h1,h2,_⟩:=dd;exact ⟨ob,h1,h2.2.1⟩
def vJ (P:St->Hp->Prop) (t u:TS):TS:=fun D σ H=>(∀ σ' H',P σ' H'->u D σ' H')/\t { D with nx:=P } σ H
theorem aM {st:Stmt} {rest:List Stmt} {t u:TS} (P:St->Hp->Prop) (h1:PS X st t) (h2:PSs X rest u):PSs X (st::rest) (vJ P t u):=by
 refine ⟨?_⟩;intro pins s σ H D I h;refine wpAny_execs_cons (bC (h1 pins s σ H { D with nx:=P } I h.2) fun f s1 q=>?_);cases f with
 | next=>
  obtain ⟨σ',H',I',q⟩:=q;exact h2 pins s1 σ' H' D I' (h.1 _ _ q)
 | ret v=>exact q
 | brk=>exact q
 | cont=>exact q
theorem oj {K:ZF} {a:Addr} {xs:List V} {g:TG} {tf:TT} {te:TE} {ix:List (Option Nat)} {σ:St} {Q:VK} (Pv:Nat->List V->Hp->Prop) (h0:Pv 0 [] H)
  (hl:∀ i ys H,i<=xs.length->Pv i ys H->SqT K H a xs/\ys.length<=sizeLine)
  (hs:∀ i x ys H,xs[i]?=some x->Pv i ys H->g x (j6 ix σ) H fun σ2 H2=>ExtL (j6 ix σ) σ2/\tf σ2 H2 fun b H3=>if b=true then te σ2 H3 fun y H4=>Nx Pv xs.length i (ys++[y]) H4 else Nx Pv xs.length i ys H3)
  (hd:∀ ys H,Pv xs.length ys H->∀ D,H D=none->Q (.ref D) (aq H D (.lst ys))) :
  og (zR K a) g tf te ix σ H Q:=by
 refine ⟨fun i m ys H=>m=xs.length - i/\i<=xs.length/\Pv i ys H,⟨xs.length,by simp,Ej _,h0⟩,?_⟩;rintro i m ys H ⟨rfl,hi,p⟩;obtain ⟨q,hz⟩:=hl i ys H hi p;by_cases hlt:i < xs.length
 ·refine .inr ⟨⟨xs,xs[i],q,by simp [hlt]⟩,hz,fun x H' y=>?_⟩;obtain ⟨e,y⟩:=y;subst e;exact hs i x ys _ (y xs q) p
 ·have e:i=xs.length:=by omega
  subst e;exact .inl ⟨⟨xs,q,DN _⟩,hz,hd ys H p⟩
section
variable {X:Cx}
theorem mI:∀ {Ts:List String} {us:List Value},Vals (Ts.map V.ty) us->us=Ts.map Value.type
 | [],_,.nil=>rfl
 | c::r,_,.cons h t=>by
  cases h;rw [D6,mI t]
end
def TupK (H H':Hp):Prop:=∀ a xs,H a=some (.tup xs)->H' a=some (.tup xs)
theorem TupK.trans {H H1 H2:Hp} (a:TupK H H1) (b:TupK H1 H2):TupK H H2:=fun c x e=>b c x (a c x e)
theorem aW {H H':Hp} (s:Same H H'):TupK H H':=fun a xs e=>s _ _ e
def pH (x:Str):Bool:=(PyData.str x).canLay0
section
variable {X:Cx}
inductive pI (X:Cx) (m:Str) (t:TA) (σ:St) (Q:VK) (x:V) (H1:Hp):Prop
 | mk (a dx C f:Addr) (fs:List (Str×V)) (fd:FuncData) (k:Nat) (ps:List Str) (sp:Sp):x=.ref a->H1 a=some (.ins C dx fs)->fs.lookup m=none->Cls X.K C->rR X.K C m f->FnOk X.prog X.w X.K X.mg X.base bY k f fd ps sp->Room k X.A->Binds X.K fd ps []->(t σ H1 fun vs H2=>sp (.ref a::vs) H2 Q E0)->pI X m t σ Q x H1
def yx (X:Cx) (m:Str) (ta:TE) (t:TA):TE:=fun σ H Q=>ta σ H fun x H1=>pI X m t σ Q x H1
variable {ta:TE} {o e:Expr}
theorem bX {pl:Sem Bool} {es:List Expr} {m:Str} {t:TA} {pos apos:Pos} (he:PE X o ta) (ha:PA X (e::es) t)
  (hst:starEach (e::es) X.env=(false,eval e X.env)::starEach es X.env:=by rfl) (hpl:(backTo pos (starEach es X.env)).any (·.1)=false:=by rfl)
  (ht:eval (.Call (.Attribute o m apos) (e::es) [] pos) X.env=(do
   let ov <-eval o X.env
   standAt apos.atName
   let (f,first) <-holding [ov] (getMethod ov m pl)
   callWith pos f first (backTo pos (starEach (e::es) X.env)) (backToKw pos (keywordEach [] X.env))):=by rfl) :
  PE X (.Call (.Attribute o m apos) (e::es) [] pos) (yx X m ta t):=by
 refine ⟨?_⟩;intro pins s σ H Q I h;refine PySem.W.methodCall_KW (pl:=pl) (bC (he pins s σ H _ I h) fun u s1 ⟨x,H1,I1,rx,a,dx,C,f,fs,fd,k,ps,sp,ex,ea,l,c,hm,F,hr,hb,q⟩=>?_) ht;subst ex;obtain rfl:u=Value.ref a:=rx;refine gu I1 ea c hm l ?_;refine EB (first:=[.ref a]) (h₀:=X.base) I.ok.mod.kin hm.kp (bC (ha pos pins s1 σ H1 _ I1 q) fun us s2 ⟨vs,H2,I2,r,q2⟩=>⟨I2.kIn,?_⟩) hst hpl;exact hV (us:=.ref a::us) (vs:=.ref a::vs) (dvs:=[]) (ds:=[]) F hr hb .nil dL I2 (.cons rfl r) (by rw [El];exact q2)
inductive mJ (X:Cx) (m:Str) (Q:VK) (x:V) (H1:Hp):Prop
 | mk (a dx C f:Addr) (fs:List (Str×V)) (fd:FuncData) (k:Nat) (ps:List Str) (sp:Sp):x=.ref a->H1 a=some (.ins C dx fs)->fs.lookup m=none->Cls X.K C->rR X.K C m f->FnOk X.prog X.w X.K X.mg X.base bY k f fd ps sp->Room k X.A->Binds X.K fd ps []->sp [.ref a] H1 Q E0->mJ X m Q x H1
def vK (X:Cx) (m:Str) (ta:TE):TE:=fun σ H Q=>ta σ H fun x H1=>mJ X m Q x H1
theorem bB {pl:Sem Bool} {m:Str} {pos apos:Pos} (he:PE X o ta)
  (ht:eval (.Call (.Attribute o m apos) [] [] pos) X.env=(do
   let ov <-eval o X.env
   standAt apos.atName
   let (f,first) <-holding [ov] (getMethod ov m pl)
   callWith pos f first (backTo pos (starEach [] X.env)) (backToKw pos (keywordEach [] X.env))):=by rfl) :
  PE X (.Call (.Attribute o m apos) [] [] pos) (vK X m ta):=by
 refine ⟨?_⟩;intro pins s σ H Q I h;refine PySem.W.methodCall_KW (pl:=pl) (bC (he pins s σ H _ I h) fun u s1 ⟨x,H1,I1,rx,a,dx,C,f,fs,fd,k,ps,sp,ex,ea,l,c,hm,F,hr,hb,q⟩=>?_) ht;subst ex;obtain rfl:u=Value.ref a:=rx;refine gu I1 ea c hm l ?_;exact PySem.W.callWith_K0 (first:=[.ref a]) I1.kIn hm.kp (hV (us:=[.ref a]) (vs:=[.ref a]) (dvs:=[]) (ds:=[]) F hr hb .nil dL I1 (.cons rfl .nil) q)
end
def zU (K:ZF) (l:Addr):It:=
 ⟨fun i H=>∃ xs x,SqL K H l xs/\xs[i]?=some x,
  fun i H v H'=>∃ T x,v=.ref T/\H T=none/\H'=aq H T (.tup [.int i,x])/\∀ xs,SqL K H l xs->xs[i]?=some x,
  fun i H=>∃ xs,SqL K H l xs/\xs.length<=i⟩
theorem qD {P:Program} {w:World} {K:ZF} {elts:List Expr} {kt:Nat} {tp:Pos} {e it l:Addr} (hne:e≠it) :
  kz P w K (.Tuple elts kt tp) (zU K l) [e,it] e (fun i h=>(∃ old,IsEnum h e it i old)/\h.IsListIter it l i) where
 mem:=by simp
 obj:=fun i h st b hb=>by
  obtain ⟨⟨old,he⟩,⟨o1,h1,_,d1⟩⟩:=st;simp at hb;rcases hb with rfl|rfl
  ·exact ⟨_,he,fun v q=>by cases q⟩
  ·exact ⟨_,h1,fun v q=>by rw [d1] at q;cases q⟩
 keep:=fun i h h' st k=>by
  obtain ⟨⟨old,he⟩,h1⟩:=st;exact ⟨⟨old,k e (by simp) _ he⟩,h1.at fun o q=>k it (by simp) o q⟩
 item:=by
  intro X hP hw hK hc i pins s σ H E I hf st hg;subst hP hw hK;obtain ⟨xs,x,hx,ex⟩:=hg;obtain ⟨⟨old,he⟩,h1⟩:=st;obtain ⟨its1,rv1,p1,z1⟩:=I.list hx;obtain ⟨u1,eu1,ru1⟩:=rv1.get ex;refine wpAny_pyNext_enum_item he h1 p1.isList (x:=u1) (by simpa using eu1) hne fun h' a1 a2 a3 a4 a5=>⟨_,rfl,?_⟩;refine wpAny_letOwnedTupleGo_enum a1 fun h'' b1 b2=>?_;have hT:H s.heap.objs.size=none:=I.hok.fresh (DN _);have low:∀ b o,s.heap.get? b=some o->b≠s.heap.objs.size:=fun b o q=>Eg (DW q);refine ⟨.ref s.heap.objs.size,aq H s.heap.objs.size (.tup [.int i,x]),?_,rfl,⟨s.heap.objs.size,x,rfl,hT,rfl,fun xs' h=>by rw [I.list_inj h hx];exact ex⟩,?_,fun b hb=>?_⟩
  ·show Inv X pins σ (aq H s.heap.objs.size (.tup [.int i,x])) { s with heap:=h'',toks:=s.toks+1 };refine Inv.turnedS (s:=s) (h':=h'') (t':=s.toks+1) (ch:=[e,it]) I (fun b hb=>hf b hb) (fun b o hc q=>?_) (fun b o q=>by rw [ao (ap q hT)];exact q) (fun b hb n=>by rw [ao (Eg hb)];exact n) fun b o n q=>?_
   ·simp at hc;exact b2.extBut b o hc.1 (a5 b o hc.1 hc.2 q)
   ·by_cases eb:b=s.heap.objs.size
    ·subst eb;rw [ae] at q;cases q;refine ⟨zlx,[.int i s.toks,u1],.cons ⟨_,rfl⟩ (.cons ru1 .nil),_,b2.extBut _ _ ?_ a3,rfl,_,rfl⟩;exact fun z=>low e _ he z.symm
    ·rw [ao eb,n] at q;cases q
  ·refine ⟨⟨_,b1⟩,a2.at fun o q=>b2.extBut _ o hne.symm q⟩
  ·have n:=(hf b hb).1;have:b≠s.heap.objs.size:=by
    simp at hb;obtain ⟨_,q1,_⟩:=id h1;rcases hb with rfl|rfl
    ·exact low _ _ he
    ·exact low _ _ q1
   rw [ao this];exact n
 done:=by
  intro X hP hw hK hc i pins s σ H E I hf st hg;subst hP hw hK;obtain ⟨xs,hx,hl⟩:=hg;obtain ⟨⟨old,he⟩,h1⟩:=st;obtain ⟨its1,rv1,p1,z1⟩:=I.list hx;have e1:=rv1.length;refine wpAny_pyNext_enum_end (I.ok.hd hc) he h1 p1.isList (by simp;omega) fun h' k=>⟨rfl,?_⟩;obtain ⟨f0,f1,f2,f3,f4,f5⟩:=hf it (by simp);exact I.turned (t':=s.toks) (fun b o hb q=>k b o hb q) f0 f1 f3 f4 f5
 self:=fun _ _ _ _ _ st h=>wpAny_pyIter_enum st.1.choose_spec h
section
variable {X:Cx}
inductive sF (K:ZF) (R:It->Hp->Prop) (vs:List V) (H1:Hp):Prop
 | mk (l:_):vs=[.ref l]->(∃ xs,SqL K H1 l xs)->R (zU K l) H1->sF K R vs H1
def xB (K:ZF) (ta:TA):TI:=fun σ H R=>ta σ H fun vs H1=>sF K R vs H1
theorem ke:bootBuiltins "enumerate"=some (.type "enumerate"):=by decide +kernel
theorem pJ {elts:List Expr} {kt:Nat} {tp:Pos} {a:Expr} {ta:TA} {p pos:Pos} (hg:Gl X "enumerate") (hm:X.mg "enumerate"=none) (ha:PA X [a] ta) (hs:starEach [a] X.env=[(false,eval a X.env)]:=by rfl) :
  PI X (.Tuple elts kt tp) (.Call (.Name "enumerate" p) [a] [] pos) (xB X.K ta):=by
 refine ⟨?_⟩;intro pins s σ H R I h;refine Call_ (gp I hg hm ke (EG (bC (ha pos pins s σ H _ I h) fun us s1 ⟨vs,H1,I1,r1,q1⟩=>?_) hs rfl));obtain ⟨l,e,⟨xs,hx⟩,q⟩:=q1;subst e;cases r1 with
 | cons r rr=>
  cases rr;cases r;obtain ⟨its1,rv1,p1,z1⟩:=I1.list hx;refine call_enumerate_list p1.isList fun h' a1 a2 a3 a4=>?_;refine wpAny_pyIter_enum a1 ?_;refine ⟨_,[s1.heap.objs.size+1,s1.heap.objs.size],_,_,H1,rfl,I1.kept (t':=s1.toks) a4,qD (Fk (E2 _)),⟨⟨_,a1⟩,a2⟩,fun b hb=>?_,q⟩;have hb':s1.heap.objs.size<=b:=by
   simp only [DY,Eb,or_false] at hb;rcases hb with e|e<;>rw [e]
   ·exact Nat.le_add_right _ _
   ·exact DN _
  exact I1.fpOk hb' (I1.hok.fresh hb')
end
theorem sG {K:ZF} {l:Addr} {xs:List V} {g:TG} {tb:TS} {D:Ends} (Pv:Nat->St->Hp->Prop) (h0:Pv 0 σ H) (hl:∀ i σ H,i<=xs.length->Pv i σ H->SqL K H l xs)
  (hs:∀ i x σ H T,xs[i]?=some x->H T=none->Pv i σ H->g (.ref T) σ (aq H T (.tup [.int i,x])) fun σ2 H2=>tb { D with nx:=Pv (i+1),ct:=Pv (i+1),bk:=D.nx } σ2 H2) (hd:∀ σ H,Pv xs.length σ H->D.nx σ H) :
  ∃ W:Nat->Nat->St->Hp->Prop,(∃ m,W 0 m σ H)/\∀ i m σ H,W i m σ H->
   ((zU K l).stop i H/\D.nx σ H)\/((zU K l).go i H/\∃ N:St->Hp->Prop,(∀ σ' H',N σ' H'->∃ m',m' < m/\W (i+1) m' σ' H')/\∀ x H',(zU K l).yld i H x H'->g x σ H' fun σ2 H2=>tb { D with nx:=N,ct:=N,bk:=D.nx } σ2 H2):=by
 refine ⟨fun i m σ H=>m=xs.length - i/\i<=xs.length/\Pv i σ H,⟨xs.length,by simp,Ej _,h0⟩,?_⟩;rintro i m σ H ⟨rfl,hi,p⟩;have q:=hl i σ H hi p;by_cases hlt:i < xs.length
 ·refine .inr ⟨⟨xs,xs[i],q,by simp [hlt]⟩,Pv (i+1),fun σ' H' p'=>⟨xs.length - (i+1),zo,rfl,hlt,p'⟩,fun v H' y=>?_⟩;obtain ⟨T,x,e1,hT,e2,hy⟩:=y;subst e1 e2;exact hs i x σ H T (hy xs q) hT p
 ·have e:i=xs.length:=by omega
  subst e;exact .inl ⟨⟨xs,q,DN _⟩,hd σ H p⟩
section
variable {X:Cx}
theorem jd:c8 X (.type "dict") (fun xs H Q=>∃ (d:Addr) (kvs:List (bT×V)),xs=[.ref d]/\H d=some (.dK kvs)/\∀ a,H a=none->Q (.ref a) (aq H a (.dK kvs))):=by
 intro pins s σ H xs us Q I r h;obtain ⟨d,kvs,rfl,hd,q⟩:=h;obtain ⟨u,rfl,rx⟩:=gh r;cases rx;obtain ⟨hz,hs,vs,rel,dd⟩:=mE I.hok hd;refine PySem.kt_call_dict hs dd (by rw [<-rel.length];exact hz) fun h' hd' hsb=>?_;have hk:∀ b o,s.heap.get? b=some o->h'.get? b=some o:=fun b o e=>hsb.extBut b o (Eg (DW e)) (DJ _ e);have hbig:=I.big;have e:s={ s with toks:=s.toks }:=by cases s;rfl
 refine ⟨.ref s.heap.objs.size,_,I.laid (t':=s.toks) (a:=s.heap.objs.size) (o:=.dK kvs) hk (DN _) ?_,rfl,q _ (I.hok.fresh (DN _))⟩;exact kL hz (by
  have:¬ s.heap.objs.size=sysModules:=Fk hbig;simpa using this) rel hd'
end
end L2
namespace PySem
open Sem (wp)
def tupIt (l:Addr):Obj:={ cls:=.type "tuple_iterator",data:=.fields #[.ref l,.int 0 0] }
def enumOver (it:Addr):Obj:={ cls:=.type "enumerate",data:=.fields #[.none,.bool false,.ref it,rawInt 0,.none,.none] }
theorem made_enum (l:Addr) (items:Array Value) (n:Nat) (od:Option Addr) (os:Array (Option Value)):Meets (Builtin.«enumerate.__new__» ⟨[.type "enumerate",.ref l],[]⟩) (fun _ R s=>
  s.heap.get? l=some { cls:=.type "tuple",dict:=od,data:=.seq items n,slots:=os }/\R (.ok (.ret (.ref (s.heap.push (tupIt l)).objs.size))) { s with heap:=(s.heap.push (tupIt l)).push (enumOver s.heap.objs.size) }):=
 .of_wp fun prog w A R s both=>by
  rcases s with ⟨hp,gs,dr,tk,sys⟩;have there:=both.1;have good:=both.2;have under:=sub_enumerate;have isT:hp.IsTuple l items:=⟨_,there,rfl,n,rfl⟩
  wp_walk using wpAny_loadPart' there
  refine wpAny_stack_any fun _=>wpAny_pure ?_;split
  ·rename_i c _ _ _ _ _;rcases hb:(c == Value.type "enumerate") with _|_<;>(wp_walk using wpAny_loadPart' there,wpAny_pyIter_tuple isT;exact ⟨_,rfl,good⟩)
  ·(wp_walk using wpAny_loadPart' there,wpAny_pyIter_tuple isT;exact ⟨_,rfl,good⟩)
section
variable {prog:Program} {w:World} {A:Around} {E:Value->Shared->Prop} {s:Shared}
theorem enum_of_tuple {l:Addr} {items:Array Value} {Q:Value->Shared->Prop} (isT:s.heap.IsTuple l items)
  (h:Q (.ref (s.heap.objs.size+1)) { s with heap:=(s.heap.push (tupIt l)).push (enumOver s.heap.objs.size) }):wpAny (model prog w) A (call (.type "enumerate") [.ref l]) Q E s:=by
 obtain ⟨o,there,isC,n,isD⟩:=isT;cases o with
 | mk oc od odt osl=>
  dsimp only at isC isD;subst isC isD;have sz:(s.heap.push (tupIt l)).objs.size=s.heap.objs.size+1:=EK ..;have lies:((s.heap.push (tupIt l)).push (enumOver s.heap.objs.size)).get? (s.heap.objs.size+1)=some (enumOver s.heap.objs.size):=sz ▸ D8 (s.heap.push (tupIt l)) rfl;refine callType_new F.called_enumerate zd (F.typeCall_enumerate_1 _) (F.newCall_enumerate_1 _) (fun x=>F.args_object_init_2 x _) F.entry_enumerate_new (made_enum l items n od osl) ⟨there,?_⟩;show _/\_;rw [sz];exact ⟨⟨_,lies,rfl⟩,h⟩
end
section
variable {prog:Program} {w:World} {A:Around} {E:Value->Shared->Prop} {s:Shared}
variable {items:Array Value} {i:Nat} {it t:Addr}
theorem nextOf_tuple_item {x:Value} {Q:Value->Shared->Prop} (hit:s.heap.IsTupleIter it t i) (ht:s.heap.IsTuple t items) (hx:items[i]?=some x)
  (hQ:∀ h',h'.IsTupleIter it t (i+1)->Heap.SameBut it s.heap h'->Q x { s with heap:=h' }):wpAny (model prog w) A (Builtin.SmallTypes.nextOf (.ref it)) Q E s:=by
 obtain ⟨o,ho,hc,hd⟩:=id hit;obtain ⟨ol,hol,_,nl,hdl⟩:=ht;unfold Builtin.SmallTypes.nextOf;refine wpAny_bind (wpAny_callSpecial?_slot (name:=Str.ofString "__next__") hit.typeIs F.slot_tuple_iterator_next
  (wpAny_call_entry F.slot_tuple_iterator_next hit.typeIs F.entry_tuple_iterator_next ?_ (F.args_tuple_iterator_next_1 _)))
 show wpAny _ _ (field (.ref it) 0 >>= _) _ _ s;refine wpAny_bind (wpAny_field ho hd (x:=.ref t) rfl ?_);show wpAny _ _ (if (Value.ref t == Value.none)=true then _ else _) _ _ s;rw [if_neg (show ¬ ((Value.ref t == Value.none)=true) from D1)];show wpAny _ _ (field (.ref it) 1 >>= _) _ _ s;refine wpAny_bind (wpAny_field ho hd (x:=.int i 0) rfl ?_);show wpAny _ _ (seqItems? (.ref t) >>= _) _ _ s;refine wpAny_bind (wpAny_seqItems hol hdl ?_);simp only [EJ,hx];refine wpAny_bind (wpAny_setField ho hd (by simp) (wpAny_pure ⟨x,rfl,wpAny_pure (hQ _ ?_ (Heap.SameBut.update ..))⟩));exact ⟨_,Heap.get?_update_self _ ho (Obj.isFreed_of_fields (Obj.data_mapFields hd _)),(Obj.cls_mapFields ..).trans hc,by
  rw [Obj.data_mapFields hd];simp [rawInt]⟩
theorem nextOf_tuple_end {Q:Value->Shared->Prop} (hh:A.handled=none) (hit:s.heap.IsTupleIter it t i) (ht:s.heap.IsTuple t items) (hx:items[i]?=none)
  (hE:∀ h' e,Heap.ExtBut it s.heap h'->(∃ o,h'.get? e=some o/\o.cls=.type "StopIteration")->E (.ref e) { s with heap:=h' }):wpAny (model prog w) A (Builtin.SmallTypes.nextOf (.ref it)) Q E s:=by
 obtain ⟨o,ho,hc,hd⟩:=id hit;obtain ⟨ol,hol,_,nl,hdl⟩:=ht;unfold Builtin.SmallTypes.nextOf;refine wpAny_bind (wpAny_callSpecial?_slot (name:=Str.ofString "__next__") hit.typeIs F.slot_tuple_iterator_next
  (wpAny_call_entry F.slot_tuple_iterator_next hit.typeIs F.entry_tuple_iterator_next ?_ (F.args_tuple_iterator_next_1 _)))
 show wpAny _ _ (field (.ref it) 0 >>= _) _ _ s;refine wpAny_bind (wpAny_field ho hd (x:=.ref t) rfl ?_);show wpAny _ _ (if (Value.ref t == Value.none)=true then _ else _) _ _ s;rw [if_neg (show ¬ ((Value.ref t == Value.none)=true) from D1)];show wpAny _ _ (field (.ref it) 1 >>= _) _ _ s;refine wpAny_bind (wpAny_field ho hd (x:=.int i 0) rfl ?_);show wpAny _ _ (seqItems? (.ref t) >>= _) _ _ s;refine wpAny_bind (wpAny_seqItems hol hdl ?_);simp only [EJ,hx];refine wpAny_bind (wpAny_rule (wpAny_bind (wpAny_setField ho hd (by simp) ?_)));show wpAny _ _ (newExc (.type "StopIteration") [] >>= _) _ _ _;refine wpAny_bind ?_;simp only [newExc,newTuple];refine wpAny_bind (wpAny_newObj_type ?_ (by size_fits));refine wpAny_bind (m:=firstArgMember _ _) (wpAny_of_eq (a:=Value.none) (by first|rfl|(simp only [firstArgMember];rfl)) ?_);refine wpAny_newObj_type ?_ (by size_fits);simp only [raiseNew];refine wpAny_bind (wpAny_handled ?_);first|rw [show A.in1.handled=none from hh]|rw [hh]
 refine wpAny_bind (wpAny_pure (wpAny_throw ?_));exact hE _ _ (((Heap.SameBut.update ..).extBut.push _).push _) ⟨_,D8 _ rfl,rfl⟩
end
theorem drawsTuple {prog:Program} {w:World} {A:Around} (hh:A.handled=none) (it l:Addr) (hne:l≠it) (items:Array Value) :
  Draws prog w A it [it,l] items.size (fun i v=>items[i]?=some v) (fun i h=>h.IsTupleIter it l i/\h.IsTuple l items) where
 live:=fun _ _ st=>let ⟨o,ho,_⟩:=st.1;⟨o,ho⟩
 frame:=fun _ _ _ st hk=>⟨let ⟨o,ho,r⟩:=st.1;⟨o,hk it (by simp) o ho,r⟩,let ⟨o,ho,r⟩:=st.2;⟨o,hk l (by simp) o ho,r⟩⟩
 item:=fun i s Q E hi st hQ=>by
  refine nextOf_tuple_item st.1 st.2 (x:=items[i]) (by simp [hi]) fun h' hit' hs'=>?_;exact hQ _ h' s.toks (by simp [hi]) ⟨hit',st.2.extBut hs'.extBut hne⟩ hs'
 done:=fun s Q E st hE=>nextOf_tuple_end hh st.1 st.2 (by simp) hE
end PySem
namespace L2
open PySem PySem.Spec PyProof.Rows
variable {i:Nat} {it l:Addr} {h h':Heap}
theorem AJ (a:h.IsTupleIter it l i) (k:∀ o,h.get? it=some o->h'.get? it=some o):h'.IsTupleIter it l i:=let ⟨o,b,c⟩:=a;⟨o,k o b,c⟩
variable {items:Array Value}
theorem xC (t:h.IsTuple l items) (a:h.IsTupleIter it l i):l≠it:=by
 rintro rfl;obtain ⟨o,x,c,_⟩:=t;obtain ⟨o',x',c',_⟩:=a;rw [x] at x';cases x';rw [c] at c';injection c' with z;exact absurd z zd
variable {e:Addr}
theorem qE {prog:Program} {w:World} {A:Around} {E:Value->Shared->Prop} {s:Shared} {old:Value} {Q:Option Value->Shared->Prop} (hh:A.handled=none) (he:IsEnum s.heap e it i old) (h1:s.heap.IsTupleIter it l i) (isT:s.heap.IsTuple l items) (hi:items.size<=i)
  (hQ:∀ h',Heap.ExtBut it s.heap h'->Q none { s with heap:=h' }):wpAny (model prog w) A (pyNext (.ref e)) Q E s:=by
 have hT:s.TypeIs (.ref e) "enumerate":=⟨_,he,rfl⟩;unfold pyNext;refine wpAny_bind (wpAny_attempt (wpAny_callSpecial?_slot (name:=Str.ofString "__next__") hT PySem.F.slot_enumerate_next (wpAny_call_entry PySem.F.slot_enumerate_next hT PySem.F.entry_enumerate_next ?_ (PySem.F.args_enumerate_next_1 _))));show wpAny _ _ (field (.ref e) 2 >>= _) _ _ _;refine wpAny_bind (wpAny_field he rfl (x:=.ref it) rfl ?_);refine wpAny_bind (PySem.nextOf_tuple_end hh h1 isT (Array.getElem?_eq_none hi) fun h' x he' hx'=>?_);obtain ⟨o,ho,hc⟩:=hx';refine wpAny_bind (wpAny_isInstance (T:="StopIteration") (b:=true) ⟨o,ho,hc⟩ isSubtype_stop ?_);exact wpAny_pure (hQ _ he')
def sI (K:ZF) (l:Addr):It:=
 ⟨fun i H=>∃ xs x,SqT K H l xs/\xs[i]?=some x,
  fun i H v H'=>∃ T x,v=.ref T/\H T=none/\H'=aq H T (.tup [.int i,x])/\∀ xs,SqT K H l xs->xs[i]?=some x,
  fun i H=>∃ xs,SqT K H l xs/\xs.length<=i⟩
theorem om {P:Program} {w:World} {K:ZF} {elts:List Expr} {kt:Nat} {tp:Pos} {e it l:Addr} (hne:e≠it) :
  kz P w K (.Tuple elts kt tp) (sI K l) [e,it] e (fun i h=>(∃ old,IsEnum h e it i old)/\h.IsTupleIter it l i) where
 mem:=by simp
 obj:=fun i h st b hb=>by
  obtain ⟨⟨old,he⟩,⟨o1,h1,_,d1⟩⟩:=st;simp at hb;rcases hb with rfl|rfl
  ·exact ⟨_,he,fun v q=>by cases q⟩
  ·exact ⟨_,h1,fun v q=>by rw [d1] at q;cases q⟩
 keep:=fun i h h' st k=>by
  obtain ⟨⟨old,he⟩,h1⟩:=st;exact ⟨⟨old,k e (by simp) _ he⟩,AJ h1 fun o q=>k it (by simp) o q⟩
 item:=by
  intro X hP hw hK hc i pins s σ H E I hf st hg;subst hP hw hK;obtain ⟨xs,x,hx,ex⟩:=hg;obtain ⟨⟨old,he⟩,h1⟩:=st;obtain ⟨its1,rv1,p1,z1⟩:=I.tuple hx;obtain ⟨u1,eu1,ru1⟩:=rv1.get ex;have isT:s.heap.IsTuple l its1.toArray:=let ⟨o,a,b,n,c⟩:=p1;⟨o,a,b,n,c⟩;have nl:l≠it:=xC isT h1;have ne2:e∉[it,l]:=by
   intro m;simp only [DY,Eb,or_false] at m;rcases m with m|m
   ·exact hne m
   ·subst m;obtain ⟨o,a,b,_⟩:=isT;rw [show s.heap.get? e=_ from he] at a;cases a;injection b with z;exact absurd z zd
  have hlt:i < its1.toArray.size:=by
   have:=(DK.mp eu1).1;simpa using this
  refine wpAny_pyNext_enum_itemD (PySem.drawsTuple (A:=X.A.in1) (show X.A.in1.handled=none from I.ok.hd hc) it l nl its1.toArray) he ⟨h1,isT⟩ hlt hne ne2 fun v h' tk px a1 a2' a3 a4 a5=>⟨_,rfl,?_⟩;have evu:v=u1:=by
   have e2:its1.toArray[i]?=some u1:=by simpa using eu1
   rw [e2] at px;exact (D5 px).symm
  subst evu;have a2:=a2'.1;refine wpAny_letOwnedTupleGo_enum a1 fun h'' b1 b2=>?_;have hT:H s.heap.objs.size=none:=I.hok.fresh (DN _);have low:∀ b o,s.heap.get? b=some o->b≠s.heap.objs.size:=fun b o q=>Eg (DW q);refine ⟨.ref s.heap.objs.size,aq H s.heap.objs.size (.tup [.int i,x]),?_,rfl,⟨s.heap.objs.size,x,rfl,hT,rfl,fun xs' h=>by rw [I.tuple_inj h hx];exact ex⟩,?_,fun b hb=>?_⟩
  ·show Inv X pins σ (aq H s.heap.objs.size (.tup [.int i,x])) { s with heap:=h'',toks:=tk+1 };refine Inv.turnedS (s:=s) (h':=h'') (t':=tk+1) (ch:=[e,it]) I (fun b hb=>hf b hb) (fun b o hc q=>?_) (fun b o q=>by rw [ao (ap q hT)];exact q) (fun b hb n=>by rw [ao (Eg hb)];exact n) fun b o n q=>?_
   ·simp at hc;exact b2.extBut b o hc.1 (a5 b o hc.1 hc.2 q)
   ·by_cases eb:b=s.heap.objs.size
    ·subst eb;rw [ae] at q;cases q;refine ⟨zlx,[.int i tk,v],.cons ⟨_,rfl⟩ (.cons ru1 .nil),_,b2.extBut _ _ ?_ a3,rfl,_,rfl⟩;exact fun z=>low e _ he z.symm
    ·rw [ao eb,n] at q;cases q
  ·refine ⟨⟨_,b1⟩,AJ a2 fun o q=>b2.extBut _ o hne.symm q⟩
  ·have n:=(hf b hb).1;have:b≠s.heap.objs.size:=by
    simp at hb;obtain ⟨_,q1,_⟩:=id h1;rcases hb with rfl|rfl
    ·exact low _ _ he
    ·exact low _ _ q1
   rw [ao this];exact n
 done:=by
  intro X hP hw hK hc i pins s σ H E I hf st hg;subst hP hw hK;obtain ⟨xs,hx,hl⟩:=hg;obtain ⟨⟨old,he⟩,h1⟩:=st;obtain ⟨its1,rv1,p1,z1⟩:=I.tuple hx;have e1:=rv1.length;have isT:s.heap.IsTuple l its1.toArray:=let ⟨o,a,b,n,c⟩:=p1;⟨o,a,b,n,c⟩;have nl:l≠it:=xC isT h1;refine qE (I.ok.hd hc) he h1 isT (by simp;omega) fun h' k=>⟨rfl,?_⟩;obtain ⟨f0,f1,f2,f3,f4,f5⟩:=hf it (by simp);exact I.turned (t':=s.toks) (fun b o hb q=>k b o hb q) f0 f1 f3 f4 f5
 self:=fun _ _ _ _ _ st h=>wpAny_pyIter_enum st.1.choose_spec h
section
variable {X:Cx}
inductive pL (K:ZF) (R:It->Hp->Prop) (vs:List V) (H1:Hp):Prop
 | mk (l:_):vs=[.ref l]->(∃ xs,SqT K H1 l xs)->R (sI K l) H1->pL K R vs H1
def sJ (K:ZF) (ta:TA):TI:=fun σ H R=>ta σ H fun vs H1=>pL K R vs H1
theorem gP {elts:List Expr} {kt:Nat} {tp:Pos} {a:Expr} {ta:TA} {p pos:Pos} (hg:Gl X "enumerate") (hm:X.mg "enumerate"=none) (ha:PA X [a] ta) (hs:starEach [a] X.env=[(false,eval a X.env)]:=by rfl) :
  PI X (.Tuple elts kt tp) (.Call (.Name "enumerate" p) [a] [] pos) (sJ X.K ta):=by
 refine ⟨?_⟩;intro pins s σ H R I h;refine Call_ (gp I hg hm ke (EG (bC (ha pos pins s σ H _ I h) fun us s1 ⟨vs,H1,I1,r1,q1⟩=>?_) hs rfl));obtain ⟨l,e,⟨xs,hx⟩,q⟩:=q1;subst e;cases r1 with
 | cons r rr=>
  cases rr;cases r;obtain ⟨its1,rv1,p1,z1⟩:=I1.tuple hx;have isT:s1.heap.IsTuple l its1.toArray:=let ⟨o,a,b,n,c⟩:=p1;⟨o,a,b,n,c⟩;refine PySem.enum_of_tuple isT ?_;have sz:(s1.heap.push (PySem.tupIt l)).objs.size=s1.heap.objs.size+1:=EK ..;have a1:IsEnum ((s1.heap.push (PySem.tupIt l)).push (PySem.enumOver s1.heap.objs.size)) (s1.heap.objs.size+1) s1.heap.objs.size 0 .none:=sz ▸ D8 (s1.heap.push (PySem.tupIt l)) rfl;have a2:((s1.heap.push (PySem.tupIt l)).push (PySem.enumOver s1.heap.objs.size)).IsTupleIter s1.heap.objs.size l 0:=⟨_,DJ _ (D8 _ rfl),rfl,rfl⟩;have a4:∀ b o,s1.heap.get? b=some o->((s1.heap.push (PySem.tupIt l)).push (PySem.enumOver s1.heap.objs.size)).get? b=some o:=fun b o x=>DJ _ (DJ _ x);refine wpAny_pyIter_enum a1 ?_;refine ⟨_,[s1.heap.objs.size+1,s1.heap.objs.size],_,_,H1,rfl,I1.kept (t':=s1.toks) a4,om (Fk (E2 _)),⟨⟨_,a1⟩,a2⟩,fun b hb=>?_,q⟩;have hb':s1.heap.objs.size<=b:=by
   simp only [DY,Eb,or_false] at hb;rcases hb with e|e<;>rw [e]
   ·exact Nat.le_add_right _ _
   ·exact DN _
  exact I1.fpOk hb' (I1.hok.fresh hb')
end
theorem fN {K:ZF} {xs:List V} {g:TG} {tb:TS} {D:Ends} {σ:St} {H:Hp} (Pv:Nat->St->Hp->Prop) (h0:Pv 0 σ H) (hl:∀ i σ H,i<=xs.length->Pv i σ H->SqT K H l xs)
  (hs:∀ i x σ H T,xs[i]?=some x->H T=none->Pv i σ H->g (.ref T) σ (aq H T (.tup [.int i,x])) fun σ2 H2=>tb { D with nx:=Pv (i+1),ct:=Pv (i+1),bk:=D.nx } σ2 H2) (hd:∀ σ H,Pv xs.length σ H->D.nx σ H) :
  ∃ W:Nat->Nat->St->Hp->Prop,(∃ m,W 0 m σ H)/\∀ i m σ H,W i m σ H->
   ((sI K l).stop i H/\D.nx σ H)\/((sI K l).go i H/\∃ N:St->Hp->Prop,(∀ σ' H',N σ' H'->∃ m',m' < m/\W (i+1) m' σ' H')/\∀ x H',(sI K l).yld i H x H'->g x σ H' fun σ2 H2=>tb { D with nx:=N,ct:=N,bk:=D.nx } σ2 H2):=by
 refine ⟨fun i m σ H=>m=xs.length - i/\i<=xs.length/\Pv i σ H,⟨xs.length,by simp,Ej _,h0⟩,?_⟩;rintro i m σ H ⟨rfl,hi,p⟩;have q:=hl i σ H hi p;by_cases hlt:i < xs.length
 ·refine .inr ⟨⟨xs,xs[i],q,by simp [hlt]⟩,Pv (i+1),fun σ' H' p'=>⟨xs.length - (i+1),zo,rfl,hlt,p'⟩,fun v H' y=>?_⟩;obtain ⟨T,x,e1,hT,e2,hy⟩:=y;subst e1 e2;exact hs i x σ H T (hy xs q) hT p
 ·have e:i=xs.length:=by omega
  subst e;exact .inl ⟨⟨xs,q,DN _⟩,hd σ H p⟩
end L2
namespace PySem
open Sem (wp)
section
open PySem.SeqAt
open PySem.AutoSeq1 (wpAny_loadPart')
open PySem.MeetsSeq PySem.MeetsSeq2 PySem.MeetsSeq3
theorem wpAny_forIn_rng {M:Model} {A:Around} {E:Value->Shared->Prop} {s:Shared} {β:Type} (f:Nat->β->Sem (ForInStep β)) (I:List Nat->β->Shared->Prop) (Q:β->Shared->Prop)
  (turn:∀ (x:Nat) (rest:List Nat) (b:β) (s:Shared),I (x::rest) b s->wpAny M A (f x b) (fun r s'=>match r with|.yield b'=>I rest b' s'|.done b'=>Q b' s') E s)
  (fin:∀ (b:β) (s:Shared),I [] b s->Q b s) (r:Std.Legacy.Range) (b:β) (h:I (List.range' r.start r.size r.step) b s):wpAny M A (forIn r b f) Q E s:=by
 rw [Std.Legacy.Range.forIn_eq_forIn_range'];exact wpAny_forIn_list f I Q turn fin _ b h
theorem tuple_indexAt (l:Addr) (items:Array Value) (n:Nat) (dd:Option Addr) (sl:Array (Option Value)) (x:Value) (e:Value->Bool) (j:Nat) (hj:j < items.size) (he:e items[j]=true) (hn:∀ (m:Nat) (hm:m < items.size),m < j->e items[m]=false) :
  Meets (Builtin.«tuple.index» ⟨[.ref l,x],[]⟩) (fun A R s=>s.heap.get? l=some { cls:=.type "tuple",dict:=dd,data:=.seq items n,slots:=sl }/\(∀ y∈items,EqAt A.in1 s y x (e y))/\∀ t k,R (.ok (.ret (.int j t))) { s with toks:=k }):=
 .of_wp fun prog w A R s h=>by
  obtain ⟨hp,g,d,tk,os⟩:=s;obtain ⟨hl,hb,h⟩:=h
  wp_walk using wpAny_loadPart' hl,wpAny_forIn_rng _ (fun rest b s'=>b.1=none/\s'=⟨hp,g,d,tk,os⟩/\∃ k,rest=List.range' k (items.size - k)/\k<=j) _
  case turn=>
   rintro i rest b s' ⟨hb',rfl,k,hr,hk⟩;have hz:items.size - k=(items.size - (k+1))+1:=by omega
   rw [hz,List.range'_succ] at hr;injection hr with h1 h2;subst h1;have hki:i < items.size:=by omega
   have hg:items[i]?=some items[i]:=by simp [hki]
   rw [hg];have hq:=hb items[i] (by simp);refine wpAny_bind (hq prog w _ _ ?_);by_cases hij:i=j
   ·subst hij;rw [he]
    wp_walk
    exact ⟨_,rfl,h _ _⟩
   ·rw [hn i hki zo]
    wp_walk
    exact ⟨rfl,rfl,i+1,h2,zo⟩
  case fin=>
   rintro b s' ⟨hb',rfl,k,hr,hk⟩;have hz:items.size - k=(items.size - (k+1))+1:=by omega
   rw [hz,List.range'_succ] at hr;cases hr
  case h=>
   refine ⟨rfl,rfl,0,?_,Ej _⟩;simp [Std.Legacy.Range.size]
end
end PySem
namespace L2
open PySem PySem.Spec PyProof.Rows
section
variable {X:Cx}
theorem mL:Ax X "tuple.index" (fun x xs H Q=>∃ (p:Addr) (zs:List Str) (z:Str) (j:Nat),x=.ref p/\xs=[.str z]/\SqT X.K H p (zs.map V.str)/\zs[j]?=some z/\(∀ m,m < j->zs[m]?≠some z)/\Q (.int (j:Nat)) H):=by
 intro pins s σ H x xs v us Q I rx rv h;obtain ⟨p,zs,z,j,rfl,rfl,hS,hj,hn,q⟩:=h;cases rx;obtain ⟨u,rfl,ru⟩:=rv.one;obtain ⟨its,r,pl,hz⟩:=I.tuple hS;have hfl:(zs.map V.str).all dJ=true:=by
  rw [List.all_map];exact Eh.mpr fun _ _=>rfl
 have hlen:=r.length;rw [DI] at hlen;have hjl:j < zs.length:=(DK.mp hj).1;have ev:∀ m (hm:m < its.toArray.size),mi (.str z) its.toArray[m]=decide (zs[m]?=some z):=fun m hm=>by
  have hm':m < zs.length:=by rw [hlen];simpa using hm
  obtain ⟨w,ew,rw'⟩:=r.get (i:=m) (x:=.str zs[m]) (by simp [hm']);have e2:its.toArray[m]=w:=by
   have:=(DK.mp ew).2;simpa using this
  rw [e2,nX rw' rfl,D9 hm'];show nB (.str zs[m]) (.str z)=_;by_cases hh:zs[m]=z
  ·simp [hh,nB]
  ·simp [hh,nB]
 obtain ⟨o,there,isC,n,isD⟩:=pl;cases o with
 | mk oc od odt osl=>
  dsimp only at isC isD;subst isC isD;refine call_meets F.slot_tuple_index ⟨_,there,rfl⟩ F.entry_tuple_index (F.args_tuple_index_2 _ _) (tuple_indexAt p its.toArray n od osl u (mi (.str z)) j (by simpa [<-hlen] using hjl) ?_ ?_) ⟨there,fun w hw=>eB ru rfl r hfl w (by simpa using hw),fun t k=>⟨.int j,H,I.tok _,⟨t,rfl⟩,q⟩⟩
  ·rw [ev,hj];simp
  ·intro m hm hmj;rw [ev];simpa using hn m hmj
end
end L2
namespace PySem
open Sem (wp)
def IsItB:Bool->Heap->Addr->Addr->Nat->Prop
 | true,h,it,l,i=>h.IsTupleIter it l i
 | false,h,it,l,i=>h.IsListIter it l i
def IsSqB:Bool->Heap->Addr->Array Value->Prop
 | true,h,l,xs=>h.IsTuple l xs
 | false,h,l,xs=>h.IsList l xs
variable {i:Nat} {it l:Addr} {h h':Heap} {b:Bool}
theorem IsItB.at (a:IsItB b h it l i) (k:∀ o,h.get? it=some o->h'.get? it=some o):IsItB b h' it l i:=by
 cases b with
 | true=>exact (let ⟨o,x,y⟩:=a;⟨o,k o x,y⟩:h'.IsTupleIter it l i)
 | false=>exact (let ⟨o,x,y⟩:=a;⟨o,k o x,y⟩:h'.IsListIter it l i)
variable {xs:Array Value}
theorem IsSqB.at (a:IsSqB b h l xs) (k:∀ o,h.get? l=some o->h'.get? l=some o):IsSqB b h' l xs:=by
 cases b with
 | true=>exact (let ⟨o,x,y⟩:=a;⟨o,k o x,y⟩:h'.IsTuple l xs)
 | false=>exact (let ⟨o,x,y⟩:=a;⟨o,k o x,y⟩:h'.IsList l xs)
theorem IsItB.some (a:IsItB b h it l i):∃ o,h.get? it=some o/\∀ v,o.data≠.cell v:=by
 cases b with
 | true=>exact (let ⟨o,x,_,z⟩:=a;⟨o,x,fun v q=>by rw [z] at q;cases q⟩)
 | false=>exact (let ⟨o,x,_,z⟩:=a;⟨o,x,fun v q=>by rw [z] at q;cases q⟩)
section
variable {prog:Program} {w:World} {A:Around} {E:Value->Shared->Prop} {s:Shared}
variable {x:Value} {items:Array Value}
theorem nextB_item {Q:Value->Shared->Prop} (hit:IsItB b s.heap it l i) (hl:IsSqB b s.heap l items) (hx:items[i]?=some x)
  (hQ:∀ h',IsItB b h' it l (i+1)->Heap.SameBut it s.heap h'->Q x { s with heap:=h' }):wpAny (model prog w) A (Builtin.SmallTypes.nextOf (.ref it)) Q E s:=by
 cases b with
 | true=>exact nextOf_tuple_item hit hl hx hQ
 | false=>exact wpAny_nextOf_list_item hit hl hx hQ
theorem nextB_end {Q:Value->Shared->Prop} (hh:A.handled=none) (hit:IsItB b s.heap it l i) (hl:IsSqB b s.heap l items) (hx:items[i]?=none)
  (hE:∀ h' e,Heap.ExtBut it s.heap h'->(∃ o,h'.get? e=some o/\o.cls=.type "StopIteration")->E (.ref e) { s with heap:=h' }):wpAny (model prog w) A (Builtin.SmallTypes.nextOf (.ref it)) Q E s:=by
 cases b with
 | true=>exact nextOf_tuple_end hh hit hl hx hE
 | false=>exact wpAny_nextOf_list_end hh hit hl hx hE
theorem zip_itemB {b1 b2:Bool} {z TI TO i1 i2 l1 l2:Addr} {k1 k2:Nat} {xs ys:Array Value} {x y a b:Value} {Q:Value->Shared->Prop} (D:ZipApart z TI TO i1 i2 l1 l2) (hz:IsZip s.heap z TI TO .none) (hTI:IsPair s.heap TI (.ref i1) (.ref i2)) (hTO:IsPair s.heap TO a b)
  (h1:IsItB b1 s.heap i1 l1 k1) (h2:IsItB b2 s.heap i2 l2 k2) (q1:IsSqB b1 s.heap l1 xs) (q2:IsSqB b2 s.heap l2 ys) (hx:xs[k1]?=some x) (hy:ys[k2]?=some y)
  (hQ:∀ h',IsZip h' z TI TO (rawInt s.heap.objs.size)->IsPair h' TO x y->IsItB b1 h' i1 l1 (k1+1)->IsItB b2 h' i2 l2 (k2+1)->IsPair h' s.heap.objs.size x y->h'.objs.size=s.heap.objs.size+1->
   (∀ c o,c≠z->c≠TO->c≠i1->c≠i2->s.heap.get? c=some o->h'.get? c=some o)->Q (.ref s.heap.objs.size) { s with heap:=h' }) :
  wpAny (model prog w) A (Builtin.«zip.__next__» ⟨[.ref z],[]⟩) (fun fin s'=>∃ v,fin=.done (.ret v)/\Q v s') E s:=by
 show wpAny _ _ (field (.ref z) 2 >>= _) _ _ s;refine wpAny_bind (wpAny_field hz rfl (x:=.bool false) rfl ?_);show wpAny _ _ (field (.ref z) 3 >>= _) _ _ s;refine wpAny_bind (wpAny_field hz rfl (x:=.ref TI) rfl ?_);refine wpAny_bind (wpAny_seqItems hTI rfl ?_);show wpAny _ _ (Builtin.SmallTypes.ownedTupleIsFree (.ref z) >>= _) _ _ s;refine wpAny_bind ?_;unfold Builtin.SmallTypes.ownedTupleIsFree;refine wpAny_bind (wpAny_field hz rfl (x:=.none) rfl (wpAny_pure ?_));show wpAny _ _ (rule "zip.__next__.owned-tuple-again" >>= _) _ _ s;refine wpAny_bind (wpAny_rule (wpAny_bind (wpAny_field hz rfl (x:=.ref TO) rfl ?_)));show wpAny _ _ (setField (.ref z) 0 .ellipsis >>= _) _ _ s;refine wpAny_bind (wpAny_setField hz rfl (by simp) ?_);have u1:=Heap.SameBut.update s.heap z (Obj.mapFields fun x_1=>x_1.setIfInBounds 0 Value.ellipsis);have z1:=Heap.get?_update_self (Obj.mapFields fun x_1=>x_1.setIfInBounds 0 Value.ellipsis) hz rfl;generalize s.heap.update z (Obj.mapFields fun x_1=>x_1.setIfInBounds 0 Value.ellipsis)=hp1 at *;show wpAny _ _ (forIn [(Value.ref i1,0),(Value.ref i2,1)] _ _ >>= _) _ _ _;refine wpAny_bind ?_;rw [List.forIn_cons];refine wpAny_bind ?_;show wpAny _ _ (Sem.onRaise _ _ >>= _) _ _ _;refine wpAny_bind (wpAny_onRaise ?_);show wpAny _ _ (Builtin.SmallTypes.nextOf (.ref i1) >>= _) _ _ _;have e1:∀ c o,c≠z->s.heap.get? c=some o->hp1.get? c=some o:=fun c o n q=>(u1.2 c n).trans q;refine wpAny_bind (nextB_item (h1.at fun o q=>e1 _ o D.i1z q) (q1.at fun o q=>e1 _ o D.l1z q) hx fun hp2 it2 u2=>wpAny_pure ?_);dsimp only at u2;have e2:∀ c o,c≠z->c≠i1->s.heap.get? c=some o->hp2.get? c=some o:=fun c o n n' q=>(u2.2 c n').trans (e1 c o n q);have o2:hp2.get? TO=some { cls:=.type "tuple",data:=.seq #[a,b] }:=e2 _ _ D.TOz D.TOi1 hTO;show wpAny _ _ (seqItems? (.ref TO) >>= _) _ _ _;refine wpAny_bind (wpAny_seqItems o2 rfl ?_);show wpAny _ _ (updateSeq TO _ >>= _) _ _ _;refine wpAny_bind (wpAny_updateSeq o2 rfl ?_ zlx (by show 2<=sizeLine+1;decide));refine wpAny_bind (wpAny_letGo (wpAny_pure ?_));have u3:=Heap.SameBut.update hp2 TO (Obj.mapSeq fun x_1=>x_1.setIfInBounds 0 x);have o3:=Heap.get?_update_self (Obj.mapSeq fun x_1=>x_1.setIfInBounds 0 x) o2 rfl;generalize hp2.update TO (Obj.mapSeq fun x_1=>x_1.setIfInBounds 0 x)=hp3 at *;have e3:∀ c o,c≠z->c≠TO->c≠i1->s.heap.get? c=some o->hp3.get? c=some o:=fun c o n n' n2 q=>(u3.2 c n').trans (e2 c o n n2 q);show wpAny _ _ (forIn [(Value.ref i2,1)] _ _) _ _ _;rw [List.forIn_cons];refine wpAny_bind ?_;show wpAny _ _ (Sem.onRaise _ _ >>= _) _ _ _;refine wpAny_bind (wpAny_onRaise ?_);show wpAny _ _ (Builtin.SmallTypes.nextOf (.ref i2) >>= _) _ _ _;refine wpAny_bind (nextB_item (h2.at fun o q=>e3 _ o D.i2z D.TOi2.symm D.i12.symm q) (q2.at fun o q=>e3 _ o D.l2z D.l2TO D.l2i1 q) hy fun hp4 it4 u4=>wpAny_pure ?_);dsimp only at u4;have o4:=(u4.2 TO D.TOi2).trans o3;show wpAny _ _ (seqItems? (.ref TO) >>= _) _ _ _;refine wpAny_bind (wpAny_seqItems o4 rfl ?_);show wpAny _ _ (updateSeq TO _ >>= _) _ _ _;refine wpAny_bind (wpAny_updateSeq o4 rfl ?_ zlx (by show 2<=sizeLine+1;decide));refine wpAny_bind (wpAny_letGo (wpAny_pure ?_));have u5:=Heap.SameBut.update hp4 TO (Obj.mapSeq fun x_1=>x_1.setIfInBounds 1 y);have o5:=Heap.get?_update_self (Obj.mapSeq fun x_1=>x_1.setIfInBounds 1 y) o4 rfl;generalize hp4.update TO (Obj.mapSeq fun x_1=>x_1.setIfInBounds 1 y)=hp5 at *;have e5:∀ c o,c≠z->c≠TO->c≠i1->c≠i2->s.heap.get? c=some o->hp5.get? c=some o:=fun c o n n' n2 n3 q=>(u5.2 c n').trans ((u4.2 c n3).trans (e3 c o n n' n2 q));show wpAny _ _ (forIn [] _ _) _ _ _;rw [List.forIn_nil];refine wpAny_pure ?_;show wpAny _ _ (seqItems? (.ref TO) >>= _) _ _ _;refine wpAny_bind (wpAny_seqItems o5 rfl ?_);show wpAny _ _ (newTuple [x,y] >>= _) _ _ _;refine wpAny_bind (wpAny_newTuple ?_ zlx);have sz:hp5.objs.size=s.heap.objs.size:=by rw [u5.1,u4.1,u3.1,u2.1,u1.1]
 have z5:hp5.get? z=some { cls:=.type "zip",data:=.fields #[.ellipsis,.bool false,.bool false,.ref TI,.ref TO] }:=(u5.2 z D.TOz.symm).trans ((u4.2 z D.i2z.symm).trans ((u3.2 z D.TOz.symm).trans ((u2.2 z D.i1z.symm).trans z1)));have z6:=DJ { cls:=Value.type "tuple",data:=Data.seq [x,y].toArray } z5;have p6:=D8 hp5 (o:={ cls:=Value.type "tuple",data:=Data.seq [x,y].toArray }) rfl;have k6:∀ c o,hp5.get? c=some o->(hp5.push { cls:=Value.type "tuple",data:=Data.seq [x,y].toArray }).get? c=some o:=fun c o q=>DJ _ q;have s6:(hp5.push { cls:=Value.type "tuple",data:=Data.seq [x,y].toArray }).objs.size=hp5.objs.size+1:=EK ..;generalize hp5.push { cls:=Value.type "tuple",data:=Data.seq [x,y].toArray }=hp6 at *;have zs:z≠hp5.objs.size:=Eg (DW z5);have t5:hp5.get? TO=some { cls:=.type "tuple",data:=.seq #[x,y] }:=o5;show wpAny _ _ (Builtin.SmallTypes.ownedTupleHandOut (.ref z) (.ref hp5.objs.size) >>= _) _ _ _;refine wpAny_bind ?_;show wpAny _ _ (setField (.ref z) 0 (rawInt hp5.objs.size) >>= _) _ _ _;refine wpAny_bind (wpAny_setField z6 rfl (by simp) ?_);have u7:=Heap.SameBut.update hp6 z (Obj.mapFields fun x_1=>x_1.setIfInBounds 0 (rawInt hp5.objs.size));have z7:=Heap.get?_update_self (Obj.mapFields fun x_1=>x_1.setIfInBounds 0 (rawInt hp5.objs.size)) z6 rfl;generalize hp6.update z (Obj.mapFields fun x_1=>x_1.setIfInBounds 0 (rawInt hp5.objs.size))=hp7 at *;refine wpAny_setField z7 rfl (by simp [Obj.mapFields]) ?_;have u8:=Heap.SameBut.update hp7 z (Obj.mapFields fun x_1=>x_1.setIfInBounds 1 (.bool false));have z8:=Heap.get?_update_self (Obj.mapFields fun x_1=>x_1.setIfInBounds 1 (.bool false)) z7 rfl;generalize hp7.update z (Obj.mapFields fun x_1=>x_1.setIfInBounds 1 (.bool false))=hp8 at *;have k8:∀ c o,c≠z->hp5.get? c=some o->hp8.get? c=some o:=fun c o n q=>(u8.2 c n).trans ((u7.2 c n).trans (k6 c o q));refine wpAny_pure ⟨_,rfl,?_⟩;show Q (.ref hp5.objs.size) _;rw [sz] at p6 z8 zs s6 ⊢;refine hQ hp8 z8 (k8 _ _ D.TOz t5) ?_ ?_ ((u8.2 _ zs.symm).trans ((u7.2 _ zs.symm).trans p6)) (by rw [u8.1,u7.1,s6]) fun c o n1 n2 n3 n4 q=>k8 c o n1 (e5 c o n1 n2 n3 n4 q)
 ·refine it2.at fun o q=>k8 _ o D.i1z ?_;exact (u5.2 _ D.TOi1.symm).trans ((u4.2 _ D.i12).trans ((u3.2 _ D.TOi1.symm).trans q))
 ·refine it4.at fun o q=>k8 _ o D.i2z ?_;exact (u5.2 _ D.TOi2.symm).trans q
theorem zip_endB {b1 b2:Bool} {z TI TO i1 i2 l1 l2:Addr} {k1 k2:Nat} {xs ys:Array Value} {a b:Value} {Q:Fin->Shared->Prop} (hh:A.handled=none) (D:ZipApart z TI TO i1 i2 l1 l2) (hz:IsZip s.heap z TI TO .none) (hTI:IsPair s.heap TI (.ref i1) (.ref i2)) (hTO:IsPair s.heap TO a b)
  (h1:IsItB b1 s.heap i1 l1 k1) (h2:IsItB b2 s.heap i2 l2 k2) (q1:IsSqB b1 s.heap l1 xs) (q2:IsSqB b2 s.heap l2 ys) (hx:xs[k1]?=none)
  (hE:∀ h' e,(∀ c o,c≠z->c≠TO->c≠i1->c≠i2->s.heap.get? c=some o->h'.get? c=some o)->(∃ o,h'.get? e=some o/\o.cls=.type "StopIteration")->E (.ref e) { s with heap:=h' }) :
  wpAny (model prog w) A (Builtin.«zip.__next__» ⟨[.ref z],[]⟩) Q E s:=by
 show wpAny _ _ (field (.ref z) 2 >>= _) _ _ s;refine wpAny_bind (wpAny_field hz rfl (x:=.bool false) rfl ?_);show wpAny _ _ (field (.ref z) 3 >>= _) _ _ s;refine wpAny_bind (wpAny_field hz rfl (x:=.ref TI) rfl ?_);refine wpAny_bind (wpAny_seqItems hTI rfl ?_);show wpAny _ _ (Builtin.SmallTypes.ownedTupleIsFree (.ref z) >>= _) _ _ s;refine wpAny_bind ?_;unfold Builtin.SmallTypes.ownedTupleIsFree;refine wpAny_bind (wpAny_field hz rfl (x:=.none) rfl (wpAny_pure ?_));show wpAny _ _ (rule "zip.__next__.owned-tuple-again" >>= _) _ _ s;refine wpAny_bind (wpAny_rule (wpAny_bind (wpAny_field hz rfl (x:=.ref TO) rfl ?_)));show wpAny _ _ (setField (.ref z) 0 .ellipsis >>= _) _ _ s;refine wpAny_bind (wpAny_setField hz rfl (by simp) ?_);have u1:=Heap.SameBut.update s.heap z (Obj.mapFields fun x_1=>x_1.setIfInBounds 0 Value.ellipsis);have z1:=Heap.get?_update_self (Obj.mapFields fun x_1=>x_1.setIfInBounds 0 Value.ellipsis) hz rfl;generalize s.heap.update z (Obj.mapFields fun x_1=>x_1.setIfInBounds 0 Value.ellipsis)=hp1 at *;show wpAny _ _ (forIn [(Value.ref i1,0),(Value.ref i2,1)] _ _ >>= _) _ _ _;refine wpAny_bind ?_;rw [List.forIn_cons];refine wpAny_bind ?_;show wpAny _ _ (Sem.onRaise _ _ >>= _) _ _ _;refine wpAny_bind (wpAny_onRaise ?_);show wpAny _ _ (Builtin.SmallTypes.nextOf (.ref i1) >>= _) _ _ _;have e1:∀ c o,c≠z->s.heap.get? c=some o->hp1.get? c=some o:=fun c o n q=>(u1.2 c n).trans q;refine wpAny_bind (nextB_end hh (h1.at fun o q=>e1 _ o D.i1z q) (q1.at fun o q=>e1 _ o D.l1z q) hx fun hp2 e u2 ex=>?_);dsimp only at u2;obtain ⟨ox,hox,cx⟩:=ex;have z2:=u2 _ _ D.i1z.symm z1;refine wpAny_setField z2 rfl (by simp [Obj.mapFields]) ?_;have u3:=Heap.SameBut.update hp2 z (Obj.mapFields fun x_1=>x_1.setIfInBounds 0 .none);have ez:e≠z:=by
  rintro rfl;rw [hox] at z2;cases z2;have cx':Value.type "zip"=Value.type "StopIteration":=cx;injection cx' with q;exact absurd q zd
 generalize hp2.update z (Obj.mapFields fun x_1=>x_1.setIfInBounds 0 .none)=hp3 at *;exact hE hp3 e (fun c o n1 n2 n3 n4 q=>(u3.2 c n1).trans (u2 c o n3 (e1 c o n1 q))) ⟨ox,(u3.2 e ez).trans hox,cx⟩
end
end PySem
namespace PySem
open Sem (wp)
open PySem.Spec PyProof.Rows
def itB (b:Bool) (l:Addr):Obj:={ cls:=.type (if b then "tuple_iterator" else "list_iterator"),data:=.fields #[.ref l,.int 0 0] }
def zB (h:Heap) (b1 b2:Bool) (l1 l2:Addr):Heap:=((((h.push (itB b1 l1)).push (itB b2 l2)).push { cls:=.type "tuple",data:=.seq #[.ref h.objs.size,.ref (h.objs.size+1)] }).push { cls:=.type "tuple",data:=.seq #[.none,.none] }).push
 { cls:=.type "zip",data:=.fields #[.none,.bool false,.bool false,.ref (h.objs.size+2),.ref (h.objs.size+3)] }
theorem pyIterB {prog:Program} {w:World} {A:Around} {E:Value->Shared->Prop} {s:Shared} {b:Bool} {l:Addr} {items:Array Value} {Q:Value->Shared->Prop} (h:IsSqB b s.heap l items) (hQ:Q (.ref s.heap.objs.size) { s with heap:=s.heap.push (itB b l) }):wpAny (model prog w) A (pyIter (.ref l)) Q E s:=by
 cases b with
 | true=>exact wpAny_pyIter_tuple h hQ
 | false=>exact wpAny_pyIter_list h hQ
theorem made_zip (b1 b2:Bool) (l1 l2:Addr) (xs ys:Array Value):Meets (Builtin.«zip.__new__» ⟨[.type "zip",.ref l1,.ref l2],[]⟩) (fun _ R s=>
  IsSqB b1 s.heap l1 xs/\IsSqB b2 s.heap l2 ys/\R (.ok (.ret (.ref (s.heap.objs.size+4)))) { s with heap:=zB s.heap b1 b2 l1 l2 }):=
 .of_wp fun prog w A R s both=>by
  rcases s with ⟨hp,gs,dr,tk,sys⟩;obtain ⟨q1,q2,good⟩:=both;have under:=sub_zip;have i1:=fun {A:Around} {E Q}=>@pyIterB prog w A E ⟨hp,gs,dr,tk,sys⟩ b1 l1 xs Q q1;have i2:=fun {A:Around} {E Q}=>@pyIterB prog w A E ⟨hp.push (itB b1 l1),gs,dr,tk,sys⟩ b2 l2 ys Q (q2.at fun o q=>DJ _ q)
  wp_walk using i1,i2
  refine ⟨_,rfl,?_⟩;have sz:∀ (h:Heap) o,(h.push o).objs.size=h.objs.size+1:=fun _ _=>EK ..;simp only [zB] at good;simp only [sz];exact good
variable {xs ys:Array Value} {l1 l2:Addr} {b1 b2:Bool} {s:Shared}
theorem zip_of {prog:Program} {w:World} {A:Around} {E:Value->Shared->Prop} {Q:Value->Shared->Prop} (q1:IsSqB b1 s.heap l1 xs) (q2:IsSqB b2 s.heap l2 ys)
  (h:∀ h',IsZip h' (s.heap.objs.size+4) (s.heap.objs.size+2) (s.heap.objs.size+3) .none->IsPair h' (s.heap.objs.size+2) (.ref s.heap.objs.size) (.ref (s.heap.objs.size+1))->IsPair h' (s.heap.objs.size+3) .none .none->IsItB b1 h' s.heap.objs.size l1 0->IsItB b2 h' (s.heap.objs.size+1) l2 0->
   (∀ c o,s.heap.get? c=some o->h'.get? c=some o)->Q (.ref (s.heap.objs.size+4)) { s with heap:=h' }):wpAny (model prog w) A (call (.type "zip") [.ref l1,.ref l2]) Q E s:=by
 have sz:∀ (h:Heap) o,(h.push o).objs.size=h.objs.size+1:=fun _ _=>EK ..;have g0:∀ (h:Heap) (o:Obj) (n:Nat),h.objs.size=n->o.isFreed=false->(h.push o).get? n=some o:=fun h o n e f=>e ▸ D8 h f;have a1:IsZip (zB s.heap b1 b2 l1 l2) (s.heap.objs.size+4) (s.heap.objs.size+2) (s.heap.objs.size+3) .none:=g0 _ _ _ (by simp only [sz]) rfl;have a2:IsPair (zB s.heap b1 b2 l1 l2) (s.heap.objs.size+2) (.ref s.heap.objs.size) (.ref (s.heap.objs.size+1)):=DJ _ (DJ _ (g0 _ _ _ (by simp only [sz]) rfl));have a3:IsPair (zB s.heap b1 b2 l1 l2) (s.heap.objs.size+3) .none .none:=DJ _ (g0 _ _ _ (by simp only [sz]) rfl);have f0:∀ b l,(itB b l).isFreed=false:=fun _ _=>rfl;have a4:(zB s.heap b1 b2 l1 l2).get? s.heap.objs.size=some (itB b1 l1):=DJ _ (DJ _ (DJ _ (DJ _ (g0 _ _ _ rfl (f0 _ _)))));have a5:(zB s.heap b1 b2 l1 l2).get? (s.heap.objs.size+1)=some (itB b2 l2):=DJ _ (DJ _ (DJ _ (g0 _ _ _ (by simp only [sz]) (f0 _ _))));have a6:∀ c o,s.heap.get? c=some o->(zB s.heap b1 b2 l1 l2).get? c=some o:=fun c o q=>DJ _ (DJ _ (DJ _ (DJ _ (DJ _ q))));have ib:∀ (b:Bool) (h:Heap) (a l:Addr),h.get? a=some (itB b l)->IsItB b h a l 0:=fun b h a l q=>by
  cases b with
  | true=>exact ⟨_,q,rfl,rfl⟩
  | false=>exact ⟨_,q,rfl,rfl⟩
 refine callType_new F.called_zip zd (F.typeCall_zip_2 _ _) (F.newCall_zip_2 _ _) (fun x=>F.args_object_init_3 x _ _) F.entry_zip_new (made_zip b1 b2 l1 l2 xs ys) ⟨q1,q2,?_⟩;exact ⟨⟨_,a1,rfl⟩,h _ a1 a2 a3 (ib _ _ _ _ a4) (ib _ _ _ _ a5) a6⟩
theorem pyNext_zip_itemB {prog:Program} {w:World} {A:Around} {E:Value->Shared->Prop} {b1 b2:Bool} {z TI TO i1 i2 l1 l2:Addr} {k1 k2:Nat} {xs ys:Array Value} {x y a b:Value} {Q:Option Value->Shared->Prop} (D:ZipApart z TI TO i1 i2 l1 l2) (hz:IsZip s.heap z TI TO .none) (hTI:IsPair s.heap TI (.ref i1) (.ref i2)) (hTO:IsPair s.heap TO a b)
  (h1:IsItB b1 s.heap i1 l1 k1) (h2:IsItB b2 s.heap i2 l2 k2) (q1:IsSqB b1 s.heap l1 xs) (q2:IsSqB b2 s.heap l2 ys) (hx:xs[k1]?=some x) (hy:ys[k2]?=some y)
  (hQ:∀ h',IsZip h' z TI TO (rawInt s.heap.objs.size)->IsPair h' TO x y->IsItB b1 h' i1 l1 (k1+1)->IsItB b2 h' i2 l2 (k2+1)->IsPair h' s.heap.objs.size x y->h'.objs.size=s.heap.objs.size+1->
   (∀ c o,c≠z->c≠TO->c≠i1->c≠i2->s.heap.get? c=some o->h'.get? c=some o)->Q (some (.ref s.heap.objs.size)) { s with heap:=h' }):wpAny (model prog w) A (pyNext (.ref z)) Q E s:=by
 have hT:s.TypeIs (.ref z) "zip":=⟨_,hz,rfl⟩;unfold pyNext;refine wpAny_bind (wpAny_attempt (wpAny_callSpecial?_slot (name:=Str.ofString "__next__") hT PySem.F.slot_zip_next (wpAny_call_entry PySem.F.slot_zip_next hT PySem.F.entry_zip_next ?_ (PySem.F.args_zip_next_1 _))));refine zip_itemB (A:=A.in1) D hz hTI hTO h1 h2 q1 q2 hx hy fun h' c1 c2 c3 c4 c5 c6 c7=>?_;exact wpAny_pure (hQ h' c1 c2 c3 c4 c5 c6 c7)
theorem pyNext_zip_endB {prog:Program} {w:World} {A:Around} {E:Value->Shared->Prop} {b1 b2:Bool} {z TI TO i1 i2 l1 l2:Addr} {k1 k2:Nat} {xs ys:Array Value} {a b:Value} {Q:Option Value->Shared->Prop} (hh:A.handled=none) (D:ZipApart z TI TO i1 i2 l1 l2) (hz:IsZip s.heap z TI TO .none) (hTI:IsPair s.heap TI (.ref i1) (.ref i2)) (hTO:IsPair s.heap TO a b)
  (h1:IsItB b1 s.heap i1 l1 k1) (h2:IsItB b2 s.heap i2 l2 k2) (q1:IsSqB b1 s.heap l1 xs) (q2:IsSqB b2 s.heap l2 ys) (hx:xs[k1]?=none)
  (hQ:∀ h',(∀ c o,c≠z->c≠TO->c≠i1->c≠i2->s.heap.get? c=some o->h'.get? c=some o)->Q none { s with heap:=h' }):wpAny (model prog w) A (pyNext (.ref z)) Q E s:=by
 have hT:s.TypeIs (.ref z) "zip":=⟨_,hz,rfl⟩;unfold pyNext;refine wpAny_bind (wpAny_attempt (wpAny_callSpecial?_slot (name:=Str.ofString "__next__") hT PySem.F.slot_zip_next (wpAny_call_entry PySem.F.slot_zip_next hT PySem.F.entry_zip_next ?_ (PySem.F.args_zip_next_1 _))));refine zip_endB (A:=A.in1) (show A.in1.handled=none from hh) D hz hTI hTO h1 h2 q1 q2 hx fun h' e k ex=>?_;obtain ⟨o,ho,hc⟩:=ex;refine wpAny_bind (wpAny_isInstance (T:="StopIteration") (b:=true) ⟨o,ho,hc⟩ isSubtype_stop ?_);exact wpAny_pure (hQ _ k)
end PySem
namespace L2
open PySem PySem.Spec PyProof.Rows
def qF (K:ZF):Bool->Hp->Addr->List V->Prop
 | true=>SqT K
 | false=>SqL K
variable {xs:List V} {l:Addr} {b:Bool} {s:Shared} {H:Hp} {σ:St} {pins:List (Addr×Obj)} {X:Cx}
theorem Inv.seqB (I:Inv X pins σ H s) (h:qF X.K b H l xs):∃ its,Vals xs its/\IsSqB b s.heap l its.toArray:=by
 cases b with
 | true=>exact (let ⟨its,r,p,_⟩:=I.tuple h;let ⟨o,a,b,n,c⟩:=p;⟨its,r,o,a,b,n,c⟩)
 | false=>exact (let ⟨its,r,p,_⟩:=I.list h;⟨its,r,p.isList⟩)
variable {ys:List V}
theorem Inv.seqB_inj (I:Inv X pins σ H s) (h:qF X.K b H l xs) (h':qF X.K b H l ys):xs=ys:=by
 cases b with
 | true=>exact I.tuple_inj h h'
 | false=>exact I.list_inj h h'
theorem mM {h:Heap} {xs:Array Value} (a:IsSqB b h l xs):l < h.objs.size:=by
 cases b with
 | true=>exact (let ⟨_,e,_⟩:=a;DW e)
 | false=>exact (let ⟨_,e,_⟩:=a;DW e)
def yy (K:ZF) (b1 b2:Bool) (l1 l2:Addr):It:=
 ⟨fun i H=>∃ xs ys x y,qF K b1 H l1 xs/\qF K b2 H l2 ys/\xs[i]?=some x/\ys[i]?=some y,
  fun i H v H'=>∃ T x y,v=.ref T/\H T=none/\H'=aq H T (.tup [x,y])/\(∀ xs,qF K b1 H l1 xs->xs[i]?=some x)/\∀ ys,qF K b2 H l2 ys->ys[i]?=some y,
  fun i H=>∃ xs ys,qF K b1 H l1 xs/\qF K b2 H l2 ys/\xs.length<=i⟩
theorem qG {b1 b2:Bool} {P:Program} {w:World} {K:ZF} {elts:List Expr} {kt:Nat} {tp:Pos} {z TI TO i1 i2 l1 l2:Addr} (D:ZipApart z TI TO i1 i2 l1 l2) :
  kz P w K (.Tuple elts kt tp) (yy K b1 b2 l1 l2) [z,TI,TO,i1,i2] z (fun i h=>IsZip h z TI TO .none/\IsPair h TI (.ref i1) (.ref i2)/\(∃ a b,IsPair h TO a b)/\IsItB b1 h i1 l1 i/\IsItB b2 h i2 l2 i) where
 mem:=by simp
 obj:=fun i h st b hb=>by
  obtain ⟨hz,hTI,⟨a,c,hTO⟩,i1',i2'⟩:=st;obtain ⟨o1,h1,d1⟩:=i1'.some;obtain ⟨o2,h2,d2⟩:=i2'.some;simp at hb;rcases hb with rfl|rfl|rfl|rfl|rfl
  ·exact ⟨_,hz,fun v q=>by cases q⟩
  ·exact ⟨_,hTI,fun v q=>by cases q⟩
  ·exact ⟨_,hTO,fun v q=>by cases q⟩
  ·exact ⟨_,h1,fun v q=>d1 v q⟩
  ·exact ⟨_,h2,fun v q=>d2 v q⟩
 keep:=fun i h h' st k=>by
  obtain ⟨hz,hTI,⟨a,c,hTO⟩,h1,h2⟩:=st;exact ⟨k z (by simp) _ hz,k TI (by simp) _ hTI,⟨a,c,k TO (by simp) _ hTO⟩,h1.at fun o e=>k i1 (by simp) o e,h2.at fun o e=>k i2 (by simp) o e⟩
 item:=by
  intro X hP hw hK hc i pins s σ H E I hf st hg;subst hP hw hK;obtain ⟨xs,ys,x,y,hx,hy,ex,ey⟩:=hg;obtain ⟨hz,hTI,⟨a,c,hTO⟩,h1,h2⟩:=st;obtain ⟨its1,rv1,p1⟩:=I.seqB hx;obtain ⟨its2,rv2,p2⟩:=I.seqB hy;obtain ⟨u1,eu1,ru1⟩:=rv1.get ex;obtain ⟨u2,eu2,ru2⟩:=rv2.get ey;refine pyNext_zip_itemB D hz hTI hTO h1 h2 p1 p2 (x:=u1) (y:=u2) (by simpa using eu1) (by simpa using eu2) fun h' a1 a2 a3 a4 a5 a6 a7=>⟨_,rfl,?_⟩;refine wpAny_letOwnedTupleGo_zip a1 fun h'' b1 b2=>?_;have hT:H s.heap.objs.size=none:=I.hok.fresh (DN _);have low:∀ b o,s.heap.get? b=some o->b≠s.heap.objs.size:=fun b o e=>Eg (DW e);refine ⟨.ref s.heap.objs.size,aq H s.heap.objs.size (.tup [x,y]),?_,rfl,⟨s.heap.objs.size,x,y,rfl,hT,rfl,fun xs' h=>by rw [I.seqB_inj h hx];exact ex,fun ys' h=>by rw [I.seqB_inj h hy];exact ey⟩,?_,fun b hb=>?_⟩
  ·show Inv X pins σ (aq H s.heap.objs.size (.tup [x,y])) { s with heap:=h'',toks:=s.toks };refine Inv.turnedS (s:=s) (h':=h'') (t':=s.toks) (ch:=[z,TO,i1,i2]) I (fun b hb=>hf b ?_) (fun b o hc e=>?_) (fun b o e=>by rw [ao (ap e hT)];exact e) (fun b hb n=>by rw [ao (Eg hb)];exact n) fun b o n e=>?_
   ·simp at hb ⊢;rcases hb with rfl|rfl|rfl|rfl<;>simp
   ·simp at hc;exact b2.extBut b o hc.1 (a7 b o hc.1 hc.2.1 hc.2.2.1 hc.2.2.2 e)
   ·by_cases eb:b=s.heap.objs.size
    ·subst eb;rw [ae] at e;cases e;refine ⟨zlx,[u1,u2],.cons ru1 (.cons ru2 .nil),_,b2.extBut _ _ ?_ a5,rfl,_,rfl⟩;exact fun q=>low z _ hz q.symm
    ·rw [ao eb,n] at e;cases e
  ·refine ⟨b1,b2.extBut _ _ D.TIz (a7 _ _ D.TIz D.TITO D.TIi1 D.TIi2 hTI),⟨_,_,b2.extBut _ _ D.TOz a2⟩,a3.at fun o e=>b2.extBut _ o D.i1z e,a4.at fun o e=>b2.extBut _ o D.i2z e⟩
  ·have n:=(hf b hb).1;have:b≠s.heap.objs.size:=by
    simp at hb;obtain ⟨_,q1,_⟩:=h1.some;obtain ⟨_,q2,_⟩:=h2.some;rcases hb with rfl|rfl|rfl|rfl|rfl
    ·exact low _ _ hz
    ·exact low _ _ hTI
    ·exact low _ _ hTO
    ·exact low _ _ q1
    ·exact low _ _ q2
   rw [ao this];exact n
 done:=by
  intro X hP hw hK hc i pins s σ H E I hf st hg;subst hP hw hK;obtain ⟨xs,ys,hx,hy,hl⟩:=hg;obtain ⟨hz,hTI,⟨a,c,hTO⟩,h1,h2⟩:=st;obtain ⟨its1,rv1,p1⟩:=I.seqB hx;obtain ⟨its2,rv2,p2⟩:=I.seqB hy;have e1:=rv1.length;have e2:=rv2.length;have hend:its1.toArray[i]?=none:=by simp;omega
  refine pyNext_zip_endB (I.ok.hd hc) D hz hTI hTO h1 h2 p1 p2 hend fun h' k=>⟨rfl,?_⟩;refine I.turnedS (t':=s.toks) (ch:=[z,TO,i1,i2]) (fun b hb=>hf b ?_) (fun b o hc e=>?_) (fun b o e=>e) (fun b hb n=>n) fun b o n e=>?_
  ·simp at hb ⊢;rcases hb with rfl|rfl|rfl|rfl<;>simp
  ·simp at hc;exact k b o hc.1 hc.2.1 hc.2.2.1 hc.2.2.2 e
  ·rw [n] at e;cases e
 self:=fun _ _ _ _ _ st h=>wpAny_pyIter_zip st.1 h
section
variable {X:Cx}
inductive sK (b1:Bool) (b2:Bool) (K:ZF) (R:It->Hp->Prop) (vs:List V) (H1:Hp):Prop
 | mk (l1 l2:_):vs=[.ref l1,.ref l2]->(∃ xs,qF K b1 H1 l1 xs)->(∃ ys,qF K b2 H1 l2 ys)->R (yy K b1 b2 l1 l2) H1->sK b1 b2 K R vs H1
def AK (b1 b2:Bool) (K:ZF) (ta:TA):TI:=fun σ H R=>ta σ H fun vs H1=>sK b1 b2 K R vs H1
theorem vL (b1 b2:Bool) {elts:List Expr} {kt:Nat} {tp:Pos} {a b:Expr} {ta:TA} {p pos:Pos} (hg:Gl X "zip") (hm:X.mg "zip"=none) (ha:PA X [a,b] ta) (hs:starEach [a,b] X.env=[(false,eval a X.env),(false,eval b X.env)]:=by rfl) (hs2:starEach [b] X.env=[(false,eval b X.env)]:=by rfl) :
  PI X (.Tuple elts kt tp) (.Call (.Name "zip" p) [a,b] [] pos) (AK b1 b2 X.K ta):=by
 refine ⟨?_⟩;intro pins s σ H R I h;refine Call_ (gp I hg hm boot_zip (EG (bC (ha pos pins s σ H _ I h) fun us s1 ⟨vs,H1,I1,r1,q1⟩=>?_) (by rw [hs,hs2]) (by rw [hs2];rfl)));obtain ⟨l1,l2,e,⟨xs,hx⟩,⟨ys,hy⟩,q⟩:=q1;subst e;cases r1 with
 | cons r rr=>
  cases rr with
  | cons r' rr=>
   cases rr;cases r;cases r';obtain ⟨its1,rv1,p1⟩:=I1.seqB hx;obtain ⟨its2,rv2,p2⟩:=I1.seqB hy;refine zip_of p1 p2 fun h' a1 a2 a3 a4 a5 a7=>?_;refine wpAny_pyIter_zip a1 ?_;have lt1:=mM p1;have lt2:=mM p2;refine ⟨_,[s1.heap.objs.size+4,s1.heap.objs.size+2,s1.heap.objs.size+3,s1.heap.objs.size,s1.heap.objs.size+1],_,_,H1,rfl,I1.kept (t':=s1.toks) a7,qG (PyProof.Rows.zipApart_new lt1 lt2),⟨a1,a2,⟨_,_,a3⟩,a4,a5⟩,fun b hb=>?_,q⟩;have hb':s1.heap.objs.size<=b:=by
    simp only [DY,Eb,or_false] at hb;rcases hb with e|e|e|e|e<;>rw [e]
    ·exact Nat.le_add_right _ _
    ·exact Nat.le_add_right _ _
    ·exact Nat.le_add_right _ _
    ·exact DN _
    ·exact Nat.le_add_right _ _
   exact I1.fpOk hb' (I1.hok.fresh hb')
end
theorem vM {b1 b2:Bool} {K:ZF} {l1 l2:Addr} {g:TG} {tf:TT} {te:TE} {ix:List (Option Nat)} {σ:St} {Q:VK} (hxy:xs.length=ys.length) (Pv:Nat->List V->Hp->Prop) (h0:Pv 0 [] H)
  (hl:∀ i ys' H,i<=xs.length->Pv i ys' H->qF K b1 H l1 xs/\qF K b2 H l2 ys/\ys'.length<=sizeLine)
  (hs:∀ i x y ys' H T,xs[i]?=some x->ys[i]?=some y->H T=none->Pv i ys' H->g (.ref T) (j6 ix σ) (aq H T (.tup [x,y])) fun σ2 H2=>ExtL (j6 ix σ) σ2/\tf σ2 H2 fun b H3=>if b=true then te σ2 H3 fun y H4=>Nx Pv xs.length i (ys'++[y]) H4 else Nx Pv xs.length i ys' H3)
  (hd:∀ ys' H,Pv xs.length ys' H->∀ D,H D=none->Q (.ref D) (aq H D (.lst ys'))):og (yy K b1 b2 l1 l2) g tf te ix σ H Q:=by
 refine ⟨fun i m ys' H=>m=xs.length - i/\i<=xs.length/\Pv i ys' H,⟨xs.length,by simp,Ej _,h0⟩,?_⟩;rintro i m ys' H ⟨rfl,hi,p⟩;obtain ⟨q1,q2,hz⟩:=hl i ys' H hi p;by_cases hlt:i < xs.length
 ·have hlt2:i < ys.length:=by omega
  refine .inr ⟨⟨xs,ys,xs[i],ys[i],q1,q2,by simp [hlt],by simp [hlt2]⟩,hz,fun x H' y=>?_⟩;obtain ⟨T,x1,y1,rfl,hT,rfl,ex,ey⟩:=y;exact hs i x1 y1 ys' H T (ex xs q1) (ey ys q2) hT p
 ·have e:i=xs.length:=by omega
  subst e;exact .inl ⟨⟨xs,ys,q1,q2,DN _⟩,hz,hd ys' H p⟩
inductive sL (ty:TE) (σ:St) (Q:VK) (x:V) (H1:Hp):Prop
 | mk (a:_):x=.ref a->C9 H1 a->(ty σ H1 fun y H2=>∃ (b:Addr) (kvs more:List (bT×V)),y=.ref b/\a≠b/\H2 a=some (.dK kvs)/\H2 b=some (.dK more)/\kvs.length+more.length<=1000/\Q .non (aq H2 a (.dK (ba kvs more))))->sL ty σ Q x H1
def AM (td ty:TE):TE:=fun σ H Q=>td σ H fun x H1=>sL ty σ Q x H1
theorem pM {o e:Expr} {apos cpos:Pos} {td ty:TE} (ho:PE X o td) (he:PE X e ty) (m:M1 X o "update" apos e cpos):PE X (.Call (.Attribute o "update" apos) [e] [] cpos) (AM td ty):=by
 refine ⟨?_⟩;intro pins s σ H Q I h;refine wpAny_Call_method m.base m.few m.line PySem.F.plainAttrs_dict PySem.F.slot_dict_update PySem.F.type_dict_update (bC (ho pins s σ H _ I h) fun u s1 ⟨x,H1,I1,rx,a,ex,d,q1⟩=>?_);subst ex;obtain rfl:u=Value.ref a:=rx;obtain ⟨t1,t2,_⟩:=yw I1 d;refine ⟨t1,t2,?_⟩;rw [m.trees];refine EU rfl (E7 (EM (bC (he pins s1 σ H1 _ I1 q1) fun iv s2 ⟨y,H2,I2,ry,b,kvs,more,ey,hab,ea,eb,hl,q2⟩=>Calls.spliced_nil ?_)));subst ey;cases ry;obtain ⟨z1,hd1,vs,rel1,dd1⟩:=mE I2.hok ea;obtain ⟨z2,hd2,ws,rel2,dd2⟩:=mE I2.hok eb;have sz:(1000:Nat)<=sizeLine:=by decide
 refine call_meetsIn PySem.F.slot_dict_update dd1.typeIs PySem.F.entry_dict_update (PySem.F.args_dict_update_2 _ _) (meets_dict_update (ca X.prog X.w) a b hab hd2) ⟨vs,ws,dd1,dd2,by rw [<-rel1.length,<-rel2.length];omega,fun h' d1 d2 hs=>?_⟩;have he:∃ q,h'.get? a=some q:=let ⟨q,_,_,hq,_⟩:=d1;⟨q,hq⟩;have hz:(ba kvs more).length<=sizeLine:=by
  have h1:=cq more kvs;omega
 exact ⟨.non,_,iJ I2 (by rw [ea];exact True.intro) hs he (kL hz hd1 (rel2.merge rel1) d1),rfl,q2⟩
section
variable {X:Cx}
theorem mN (c:Nat):∀ (n:Nat) (acc:Array Nat),(List.foldl (fun (x1 x2:Array Nat)=>x1++x2) acc (List.replicate n #[c]))=acc++(List.replicate n c).toArray
 | 0,acc=>by simp
 | n+1,acc=>by
  rw [List.replicate_succ,List.foldl_cons,mN c n];apply Array.ext';simp [List.replicate_succ]
theorem fO:dE X (binaryOp .Mult) (fun x y H Q=>∃ (c n:Nat),x=.str (S [c])/\y=.int n/\n<=1000/\Q (.str (S (List.replicate n c))) H):=by
 intro pins s σ H x y v u Q I rx ry h;obtain ⟨c,n,rfl,rfl,hn,q⟩:=h;obtain ⟨t,rfl⟩:=rx;obtain ⟨t2,rfl⟩:=ry;refine PySem.P.mul_str ?_ ?_ ?_ ?_
 ·simp;omega
 ·intro _ _;have:(S [c]).length=1:=rfl;rw [this];intro hgt;have:(1:Int)<=(2 ^ 63 - 1) / (n:Int):=by
   rw [Int.le_ediv_iff_mul_le zo];omega
  omega
 ·intro _ _;have:(S [c]).length=1:=rfl;rw [this];unfold Builtin.Str.tooLong;have sz:(1000:Nat)<=sizeLine:=by decide
  simp;omega
 ·have fin:∀ (z:Str) (t:Tok) (k:Nat),z=S (List.replicate n c)->EP X pins σ Q (.str z t) { s with toks:=k }:=fun z t k e=>by
   subst e;exact ⟨.str (S (List.replicate n c)),H,I.tok k,⟨t,rfl⟩,q⟩
  have fin2:∀ (z:Str),z=S (List.replicate n c)->(Made.str z).post (EP X pins σ Q) s:=fun z e=>by
   refine ⟨?_,fin z _ _ e⟩;subst e;have sz:(1000:Nat)<=sizeLine:=by decide
   rw [bx,EA];omega
  by_cases h0:(n:Int) < 1
  ·rw [if_pos h0];refine fin2 _ ?_;rw [show n=0 by omega];rfl
  ·rw [if_neg h0];by_cases h1:((n:Int) == 1 || (S [c]).length == 0)=true
   ·rw [if_pos h1];have:n=1:=by
     have e:(S [c]).length=1:=rfl;rw [e] at h1;simp at h1;omega
    subst this;exact fin (S [c]) t s.toks rfl
   ·rw [if_neg h1];refine fin2 _ ?_;have:(S [c]).cps=#[c]:=rfl;rw [this,mN];simp [S]
end
section
variable {X:Cx}
inductive xD (r:V->List V->Hp->VK->Prop) (t:TA) (σ:St) (Q:VK) (x:V) (H1:Hp):Prop
 | mk (p xs:_):x=.ref p->H1 p=some (.tup xs)->(t σ H1 fun xs H2=>r x xs H2 Q)->xD r t σ Q x H1
def Ct (r:V->List V->Hp->VK->Prop) (to:TE) (t:TA):TE:=fun σ H Q=>to σ H fun x H1=>xD r t σ Q x H1
variable {o e:Expr} {es:List Expr} {to:TE} {t:TA} {name:Str} {apos cpos:Pos} {id:String} {r:V->List V->Hp->VK->Prop}
theorem yz (pa:PlainAttrs "tuple") (slot:Slot "tuple" name id) (hty:typeOf (.builtin id)=pure (.type "method_descriptor")) (hm:Ax X id r) (ho:PE X o to) (ha:PA X (e::es) t)
  (hbase:attributeBase o name X.env (eval o X.env)=eval o X.env:=by rfl)
  (hfew:((backTo cpos (starEach (e::es) X.env)).all (fun x=>!x.1) && (backToKw cpos (keywordEach [] X.env)).all (fun x=>x.1.isSome)
   && decide ((e::es).length+([]:List Keyword).length+(if ([]:List Keyword).isEmpty then 0 else 1) < 30))=true:=by rfl)
  (hline:(apos.endLine == cpos.line)=true:=by rfl) (hs:starEach (e::es) X.env=(false,eval e X.env)::starEach es X.env:=by rfl) (hplain:(backTo cpos (starEach es X.env)).any (·.1)=false:=by rfl) :
  PE X (.Call (.Attribute o name apos) (e::es) [] cpos) (Ct r to t):=by
 refine ⟨?_⟩;intro pins s σ H Q I h;refine wpAny_Call_method_late hbase hfew hline rfl (bC (ho pins s σ H _ I h) fun v s1 ⟨x,H1,I1,r1,p,xs,ex,hp,q1⟩=>?_);subst ex;cases r1;obtain ⟨_,its,rv,ob,g1,g2,n,g3⟩:=(show ObjOk X.prog X.w H1 s1.heap p (.tup xs) from I1.hok p _ hp);have gc:=(Fj g2).1;have gd:=(Fj g2).2;refine ⟨"tuple",id,pa,slot,hty,⟨ob,g1,gc⟩,fun a e=>?_,?_⟩
 ·cases e;exact ⟨ob,g1,gd⟩
 have hA:=ha cpos pins s1 σ H1 _ I1 q1;rw [hs] at hA ⊢;refine EU (by show (false || (backTo cpos (starEach es X.env)).any (·.1))=false;rw [hplain]<;>rfl) (E7 ?_);exact bC hA fun us s2 ⟨vs,H2,I2,r2,q2⟩=>hm pins s2 σ H2 (.ref p) vs _ us Q I2 rfl r2 q2
end
variable {M:Model}
theorem ia {Γ:PySem.Ctx} {p:Pos} {t:Sem Fin} {fs:List Frame} {e:End} {s':Shared} (h:Runs M Γ p t fs s e s'):s.toks<=s'.toks:=by
 induction h
 all_goals (first
  | exact DN _
  | assumption
  | omega
  | (simp only [Shared.setGen] at *;omega)
  | (dsimp only [Shared.setGen] at *;omega))
variable {α:Type}
theorem vN (M:Model) (Γ:PySem.Ctx) (t:Sem α):∀ (Q:α->Pos->Shared->Prop) (E:Value->Pos->Shared->Prop) (p:Pos) (s:Shared),Sem.wp M Γ t Q E p s->
  Sem.wp M Γ t (fun a p' s'=>Q a p' s'/\s.toks<=s'.toks) (fun a p' s'=>E a p' s'/\s.toks<=s'.toks) p s:=by
 have up:∀ {t:Sem α} {Q:α->Pos->Shared->Prop} {E:Value->Pos->Shared->Prop} {p:Pos} {s s1:Shared},s.toks<=s1.toks->Sem.wp M Γ t (fun a p' s'=>Q a p' s'/\s1.toks<=s'.toks) (fun a p' s'=>E a p' s'/\s1.toks<=s'.toks) p s1->
   Sem.wp M Γ t (fun a p' s'=>Q a p' s'/\s.toks<=s'.toks) (fun a p' s'=>E a p' s'/\s.toks<=s'.toks) p s1:=fun {t Q E p s s1} hs h=>
  Sem.wp_mono M Γ t (fun a _ s' h'=>⟨h'.1,Ef hs h'.2⟩) (fun a _ s' h'=>⟨h'.1,Ef hs h'.2⟩) p s1 h
 induction t with
 | pure a=>intro Q E p s h;rw [Sem.wp] at h ⊢;exact ⟨h,DN _⟩
 | raise e=>intro Q E p s h;rw [Sem.wp] at h ⊢;exact ⟨h,DN _⟩
 | unsupported w=>intro Q E p s h;rw [Sem.wp] at h;exact h.elim
 | finish e=>intro Q E p s h;rw [Sem.wp] at h;exact h.elim
 | rule tag k ih=>intro Q E p s h;rw [Sem.wp] at h ⊢;exact ih _ _ _ _ _ h
 | «at» pos k ih=>intro Q E p s h;rw [Sem.wp] at h ⊢;exact ih _ _ _ _ _ h
 | load a part k ih=>intro Q E p s h;rw [Sem.wp] at h ⊢;obtain ⟨o,e,h⟩:=h;exact ⟨o,e,ih _ _ _ _ _ h⟩
 | update a part f k ih=>intro Q E p s h;rw [Sem.wp] at h ⊢;obtain ⟨e,h⟩:=h;exact ⟨e,up (s1:={ s with heap:=s.heap.update a f }) (DN _) (ih _ _ _ _ _ h)⟩
 | alloc o k ih=>intro Q E p s h;rw [Sem.wp] at h ⊢;exact up (s1:={ s with heap:=s.heap.push o }) (DN _) (ih _ _ _ _ _ h)
 | loadIfAlive a k ih=>intro Q E p s h;rw [Sem.wp] at h ⊢;exact ih _ _ _ _ _ h
 | point live k ih=>intro Q E p s h;rw [Sem.wp] at h ⊢;exact ih _ _ _ _ _ h
 | register a k ih=>intro Q E p s h;rw [Sem.wp] at h;exact h.elim
 | fresh k ih=>intro Q E p s h;rw [Sem.wp] at h ⊢;exact up (s1:={ s with toks:=s.toks+1 }) (E4 _) (ih _ _ _ _ _ h)
 | ask k ih=>intro Q E p s h;rw [Sem.wp] at h ⊢;exact ih _ _ _ _ _ h
 | choose src n k ih=>intro Q E p s h;rw [Sem.wp] at h ⊢;obtain ⟨e,h⟩:=h;exact ⟨e,up (s1:={ s with drawn:=s.drawn.bump src }) (DN _) (ih _ _ _ _ _ h)⟩
 | os req live k ih=>intro Q E p s h;rw [Sem.wp] at h ⊢;exact up (s1:={ s with os:=(Os.step s.os req).1 }) (DN _) (ih _ _ _ _ _ h)
 | call c hd g live k ih=>
  intro Q E p s h;rw [Sem.wp] at h ⊢;obtain ⟨r,s1,hr,h⟩:=h;exact ⟨r,s1,hr,up (ia hr) (ih _ _ _ _ _ h)⟩
 | handled own k ih=>intro Q E p s h;rw [Sem.wp] at h ⊢;exact ih _ _ _ _ _ h
 | newGen c k ih=>intro Q E p s h;rw [Sem.wp] at h ⊢;exact up (s1:={ s with gens:=s.gens.push (.fresh c) }) (DN _) (ih _ _ _ _ _ h)
 | genState g k ih=>intro Q E p s h;rw [Sem.wp] at h ⊢;obtain ⟨o,e,h⟩:=h;exact ⟨o,e,ih _ _ _ _ _ h⟩
 | resume g r live k ih=>
  intro Q E p s h;rw [Sem.wp] at h ⊢;obtain ⟨res,s1,hw,h⟩:=h;refine ⟨res,s1,hw,up ?_ (ih _ _ _ _ _ h)⟩;unfold Wakes at hw;split at hw
  ·exact hw.elim
  ·split at hw
   ·obtain ⟨e1,s2,h1,_,_,rfl⟩:=hw;have:=ia h1;simp only [Shared.setGen] at *;exact this
   ·rw [hw.2];exact DN _
   ·rw [hw.2];exact DN _
  ·obtain ⟨e1,s2,h1,_,_,rfl⟩:=hw;have:=ia h1;simp only [Shared.setGen] at *;exact this
  all_goals (first|exact hw.elim|(obtain ⟨_,rfl⟩:=hw;exact DN _)|(rw [hw.2];exact DN _))
 | yield v g live k ih=>intro Q E p s h;rw [Sem.wp] at h;exact h.elim
 | stack k ih=>intro Q E p s h;rw [Sem.wp] at h ⊢;exact ih _ _ _ _ _ h
 | fork c k ih=>intro Q E p s h;rw [Sem.wp] at h;exact h.elim
 | thread k ih=>intro Q E p s h;rw [Sem.wp] at h ⊢;exact ih _ _ _ _ _ h
 | await a take timed live k ih=>intro Q E p s h;rw [Sem.wp] at h;exact h.elim
theorem sM {α:Type} {t:Sem α} {Q Q':α->Shared->Prop} {A:Around} {E:Value->Shared->Prop} (h:wpAny M A t Q E s) (hQ:∀ a s',s.toks<=s'.toks->Q a s'->Q' a s'):wpAny M A t Q' E s:=fun Γ p hΓ=>
 Sem.wp_mono M Γ t (fun a _ s' h'=>hQ a s' h'.2 h'.1) (fun _ _ _ h'=>h'.1) p s (vN M Γ t _ _ p s (h Γ p hΓ))
structure PEb (X:Cx) (e:Expr) (t:TE):Prop where
 run:∀ (pins:List (Addr×Obj)) (s:Shared) (σ:St) (H:Hp) (Q:VK),Inv X pins σ H s->t σ H Q->wpAny (model X.prog X.w) X.A (eval e X.env) (fun v s'=>1<=s'.toks/\EP X pins σ Q v s') X.xe s
instance {X:Cx} {e:Expr} {t:TE}:CoeFun (PEb X e t) fun _=>∀ (pins:List (Addr×Obj)) (s:Shared) (σ:St) (H:Hp) (Q:VK),Inv X pins σ H s->t σ H Q->wpAny (model X.prog X.w) X.A (eval e X.env) (fun v s'=>1<=s'.toks/\EP X pins σ Q v s') X.xe s:=⟨PEb.run⟩
structure PAb (X:Cx) (es:List Expr) (t:TA):Prop where
 run:∀ (pos:Pos) (pins:List (Addr×Obj)) (s:Shared) (σ:St) (H:Hp) (Q:List V->Hp->Prop),Inv X pins σ H s->t σ H Q->wpAny (model X.prog X.w) X.A (spliced (backTo pos (starEach es X.env))) (fun v s'=>1<=s'.toks/\AP X pins σ Q v s') X.xe s
instance {X:Cx} {es:List Expr} {t:TA}:CoeFun (PAb X es t) fun _=>∀ (pos:Pos) (pins:List (Addr×Obj)) (s:Shared) (σ:St) (H:Hp) (Q:List V->Hp->Prop),Inv X pins σ H s->t σ H Q->wpAny (model X.prog X.w) X.A (spliced (backTo pos (starEach es X.env))) (fun v s'=>1<=s'.toks/\AP X pins σ Q v s') X.xe s:=⟨PAb.run⟩
structure PSb (X:Cx) (st:Stmt) (t:TS):Prop where
 run:∀ (pins:List (Addr×Obj)) (s:Shared) (σ:St) (H:Hp) (D:Ends),Inv X pins σ H s->t D σ H->wpAny (model X.prog X.w) X.A (exec st X.env) (fun v s'=>1<=s'.toks/\SP X pins D v s') X.xe s
instance {X:Cx} {st:Stmt} {t:TS}:CoeFun (PSb X st t) fun _=>∀ (pins:List (Addr×Obj)) (s:Shared) (σ:St) (H:Hp) (D:Ends),Inv X pins σ H s->t D σ H->wpAny (model X.prog X.w) X.A (exec st X.env) (fun v s'=>1<=s'.toks/\SP X pins D v s') X.xe s:=⟨PSb.run⟩
structure PSsb (X:Cx) (st:List Stmt) (t:TS):Prop where
 run:∀ (pins:List (Addr×Obj)) (s:Shared) (σ:St) (H:Hp) (D:Ends),Inv X pins σ H s->t D σ H->wpAny (model X.prog X.w) X.A (execs st X.env) (fun v s'=>1<=s'.toks/\SP X pins D v s') X.xe s
instance {X:Cx} {st:List Stmt} {t:TS}:CoeFun (PSsb X st t) fun _=>∀ (pins:List (Addr×Obj)) (s:Shared) (σ:St) (H:Hp) (D:Ends),Inv X pins σ H s->t D σ H->wpAny (model X.prog X.w) X.A (execs st X.env) (fun v s'=>1<=s'.toks/\SP X pins D v s') X.xe s:=⟨PSsb.run⟩
structure PSp (X:Cx) (st:Stmt) (t:TS):Prop where
 run:∀ (pins:List (Addr×Obj)) (s:Shared) (σ:St) (H:Hp) (D:Ends),1<=s.toks->Inv X pins σ H s->t D σ H->wpAny (model X.prog X.w) X.A (exec st X.env) (SP X pins D) X.xe s
instance {X:Cx} {st:Stmt} {t:TS}:CoeFun (PSp X st t) fun _=>∀ (pins:List (Addr×Obj)) (s:Shared) (σ:St) (H:Hp) (D:Ends),1<=s.toks->Inv X pins σ H s->t D σ H->wpAny (model X.prog X.w) X.A (exec st X.env) (SP X pins D) X.xe s:=⟨PSp.run⟩
structure PSsp (X:Cx) (st:List Stmt) (t:TS):Prop where
 run:∀ (pins:List (Addr×Obj)) (s:Shared) (σ:St) (H:Hp) (D:Ends),1<=s.toks->Inv X pins σ H s->t D σ H->wpAny (model X.prog X.w) X.A (execs st X.env) (SP X pins D) X.xe s
instance {X:Cx} {st:List Stmt} {t:TS}:CoeFun (PSsp X st t) fun _=>∀ (pins:List (Addr×Obj)) (s:Shared) (σ:St) (H:Hp) (D:Ends),1<=s.toks->Inv X pins σ H s->t D σ H->wpAny (model X.prog X.w) X.A (execs st X.env) (SP X pins D) X.xe s:=⟨PSsp.run⟩
section
variable {X:Cx} {a b e:Expr} {es:List Expr} {ta tb te:TE} {t:TA} {pos:Pos} {st:Stmt} {rest:List Stmt} {ts us:TS}
theorem vO {x j pos}:PEb X (.Constant (.str x) j pos) (tC (.str x)):=⟨fun _ _ _ H _ I h=>Fc ⟨Nat.succ_le_succ (Ej _),.str x,H,I.tok _,⟨_,rfl⟩,h⟩⟩
theorem sN (ha:PEb X e te) (hr:PA X es t) (hs:starEach (e::es) X.env=(false,eval e X.env)::starEach es X.env:=by rfl):PAb X (e::es) (md te t):=by
 refine ⟨?_⟩;intro pos pins s σ H Q I h;rw [hs];show wpAny _ _ (spliced ((false,eval e X.env)::backTo pos (starEach es X.env))) _ _ s;refine EM (bC (ha pins s σ H _ I h) fun u s1 ⟨k1,x,H1,I1,r1,q1⟩=>?_);exact sM (hr pos pins s1 σ H1 _ I1 q1) fun us s2 k2 ⟨xs,H2,I2,r2,q2⟩=>⟨zo,x::xs,H2,I2,.cons r1 r2,q2⟩
theorem vP (h:PAb X es t):PEb X (.List es pos) (Ar t):=by
 refine ⟨?_⟩;intro pins s σ H Q I hq;refine wpAny_List_spliced (bC (h pos pins s σ H _ I hq) fun us s1 ⟨k1,xs,H1,I1,r,z,q⟩=>⟨by rw [<-r.length];exact z,?_⟩);have hf:H1 s1.heap.objs.size=none:=I1.hok.fresh (DN _);refine ⟨k1,.ref s1.heap.objs.size,aq H1 s1.heap.objs.size (.lst xs),I1.laid (t':=s1.toks) (fun b u e=>DJ _ e) (DN _) ?_,rfl,q _ hf⟩;exact ⟨z,us,0,r,D8 _ rfl⟩
theorem pN {i:Nat} {x:Str} {pos':Pos} (hN:X.N.Nodup) (hi:X.N[i]?=some x) (hx:zP X.env.scope x) (he:PEb X e te) (hs:swapsWith e (some (.Name x pos')) pos.line X.env=pure false:=by rfl) (hf:X.fn x=true\/X.env.scope.names.lookup x=some .local:=by first|exact .inl rfl|exact .inr rfl|assumption) :
  PSb X (.Assign [.Name x pos'] e pos) (yg te (rD i)):=by
 refine ⟨?_⟩;intro pins s σ H D I h;refine wpAny_Assign_Name (bC (he pins s σ H _ I h) fun v s1 ⟨k1,y,H1,I1,r1,q1⟩=>?_) hs;exact sM (Q:=fun _ s'=>SP X pins D .next s') (fc I1 hN hi hx r1 (fun s2 I2=>⟨_,H1,I2,q1⟩) hf) fun _ s2 k2 q=>⟨zo,q⟩
theorem sO (P:St->Hp->Prop) (h1:PSb X st ts) (h2:PSs X rest us):PSsb X (st::rest) (vJ P ts us):=by
 refine ⟨?_⟩;intro pins s σ H D I h;refine wpAny_execs_cons (bC (h1 pins s σ H { D with nx:=P } I h.2) fun f s1 ⟨k1,q⟩=>?_);cases f with
 | next=>
  obtain ⟨σ',H',I',q⟩:=q;exact sM (h2 pins s1 σ' H' D I' (h.1 _ _ q)) fun _ s2 k2 q=>⟨zo,q⟩
 | ret v=>exact ⟨k1,q⟩
 | brk=>exact ⟨k1,q⟩
 | cont=>exact ⟨k1,q⟩
theorem sP (P:St->Hp->Prop) (h1:PSb X st ts) (h2:PSsp X rest us):PSs X (st::rest) (vJ P ts us):=by
 refine ⟨?_⟩;intro pins s σ H D I h;refine wpAny_execs_cons (bC (h1 pins s σ H { D with nx:=P } I h.2) fun f s1 ⟨k1,q⟩=>?_);cases f with
 | next=>
  obtain ⟨σ',H',I',q⟩:=q;exact h2 pins s1 σ' H' D k1 I' (h.1 _ _ q)
 | ret v=>exact q
 | brk=>exact q
 | cont=>exact q
theorem sQ (P:St->Hp->Prop) (h1:PSp X st ts) (h2:PSs X rest us):PSsp X (st::rest) (vJ P ts us):=by
 refine ⟨?_⟩;intro pins s σ H D hk I h;refine wpAny_execs_cons (bC (h1 pins s σ H { D with nx:=P } hk I h.2) fun f s1 q=>?_);cases f with
 | next=>
  obtain ⟨σ',H',I',q⟩:=q;exact h2 pins s1 σ' H' D I' (h.1 _ _ q)
 | ret v=>exact q
 | brk=>exact q
 | cont=>exact q
end
structure FnOkb (P:Program) (w:World) (K:ZF) (mg:Str->Option Value) (base:Heap) (CX:nA) (k:Nat) (f:Addr) (fd:FuncData) (ps:List Str) (sp:Sp):Prop where
 len:∀ vs H Q E,sp vs H Q E->vs.length=ps.length
 run:∀ (A:Around) (outer:List Env) (s:Shared) (H:Hp) (args:Args) (us:List Value) (vs:List V) (Q:VK) (E:XK),Room k A->Env0 P w K mg base A outer s H->BindsTo s fd args (ps.zip us)->Vals vs us->sp vs H Q E->
  codeAny (model P w) A (.call (.ref f) args) (fun r s'=>1<=s'.toks/\CR CX outer P w H s Q E r s') s
variable {sp:Sp} {ps:List Str} {fd:FuncData} {f:Addr}
theorem FnOkb.ok {P:Program} {w:World} {K:ZF} {mg:Str->Option Value} {base:Heap} {CX:nA} {k:Nat} (h:FnOkb P w K mg base CX k f fd ps sp):FnOk P w K mg base CX k f fd ps sp:=
 ⟨h.len,fun A outer s H args us vs Q E hr e0 hb r hs=>codeAny_mono (h.run A outer s H args us vs Q E hr e0 hb r hs) fun _ _ q=>q.2⟩
section
variable {P:Program} {w:World} {K:ZF} {mg:Str->Option Value} {base:Heap}
theorem Fun.okb {x qual:Str} {st:Stmt} {N ps:List Str} {k:Nat} (F:Fun K x qual st f fd) (S:aw N ps (aj st)) (len:∀ vs H Q E,sp vs H Q E->vs.length=ps.length)
  (hbody:∀ (cdv:Value) (A:Around) (outer:List Env) (s:Shared) (H:Hp) (vs:List V) (Q:VK) (E:XK),Room k (A.deeper (envOfC qual (aj st) s.heap.objs.size f cdv))->sp vs H Q E->
   ∃ t,PSsb (iC bY P w K mg base N qual (aj st) f cdv A outer s H E).nox (cc st) t/\t { nx:=fun _ H'=>Q .non H',rt:=Q } (start N vs) H):FnOkb P w K mg base bY (k+1) f fd ps sp:=by
 obtain ⟨oc,od,kV,doc,pm,an,cdv,ct,osl,rfl,lk,hcd⟩:=F.ex;refine ⟨len,fun A outer s H args us vs Q E hr e0 hb r hsp=>?_⟩;have hl:=len _ _ _ _ hsp;have KX:K.In s.heap:=e0.mod.kin.keeps fun b o e=>(e0.bs b o e).1;have lim:s.heap.NoLimit:=e0.mod.nolimit.keeps fun b o e=>(e0.bs b o e).1;have hkind:∀ y∈ps.zip us,(aj st).names.lookup y.1=some .local\/((aj st).names.lookup y.1=some .cell/\((cellsFrom (s.heap.objs.size+1) (aj st).names []).lookup y.1).isSome=true):=fun ⟨n,v⟩ hy=>by
  rcases S.par n (E3 hy).1 with q|q
  ·exact .inl q
  ·exact .inr ⟨q,Fe _ _ _ (.inl q)⟩
 refine codeAny_call_function hr.depth (KX _ _ lk) rfl S.co S.gen rfl (PySem.W.codeRec_of KX hcd) (hb _ _ _ _ ?_);refine wpAny_newFunctionEnv_cells S.kind hkind fun env he s1 x=>?_;subst he;refine ⟨lim.keeps x.toInCall.keep,codeAny_func ?_⟩;obtain ⟨t,ht,hq⟩:=hbody cdv A outer s H vs Q E (hr.deeper _) hsp;have I:Inv (iC bY P w K mg base N qual (aj st) f cdv A outer s H E) [] (start N vs) H s1:=jY S hr.hd e0 hl r x;refine wpAny_mono (ht [] s1 (start N vs) H _ (I.wish _) hq) (fun fl s' hs=>?_) fun _ _ z=>False.elim z;obtain ⟨hk,hs⟩:=hs;have hs:=hs.unwish;have fin:∀ {σ':St} {H':Hp} {v:V} {u:Value},Inv (iC bY P w K mg base N qual (aj st) f cdv A outer s H E) [] σ' H' s'->RelV v u->Q v H'->CE outer P w H s Q u s':=
  fun {σ' H' v u} J rv q=>⟨v,H',J.os,J.bare,J.base,J.hok,rv,q⟩
 cases fl with
 | ret u=>
  obtain ⟨v,σ',H',J,rv,q⟩:=hs;exact ⟨hk,fin J rv q⟩
 | next=>
  obtain ⟨σ',H',J,q⟩:=hs;exact ⟨hk,fin (v:=V.non) (u:=Value.none) J rfl q⟩
 | brk=>
  obtain ⟨_,_,_,q⟩:=hs;exact False.elim q
 | cont=>
  obtain ⟨_,_,_,q⟩:=hs;exact False.elim q
end
section
variable {X:Cx} {CX:nA} {k:Nat} {f C:Addr} {fd:FuncData} {ps:List Str} {sp:Sp} {dvs:List V} {ds:List Value} {E:XK} {x m:Str} {p pos apos:Pos} {e o:Expr} {es:List Expr} {ta:TE} {t:TA}
theorem sR (F:FnOkb X.prog X.w X.K X.mg X.base CX k f fd ps sp) (hr:Room k X.A) (hg:Gl X x) (hm:X.mg x=some (.ref f)) (hk:PySem.W.keepIn X.K (.ref f)=true) (hb:Binds X.K fd ps []) (hx:dU CX X E)
  (ha:PA X (e::es) t) (hdb:(x == ("__debug__":Str))=false:=by decide) (he:starEach (e::es) X.env=(false,eval e X.env)::starEach es X.env:=by rfl) (hpl:(backTo pos (starEach es X.env)).any (·.1)=false:=by rfl) :
  PEb X (.Call (.Name x p) (e::es) [] pos) (fun σ H Q=>t σ H fun vs H1=>sp vs H1 Q E):=by
 refine ⟨?_⟩;intro pins s σ H Q I h;refine wpAny_Call_Name_kw (dF I hg hm ?_ hdb);refine EB (h₀:=X.base) I.ok.mod.kin hk (bC (ha pos pins s σ H _ I h) fun us s1 ⟨vs,H1,I1,r,q⟩=>⟨I1.kIn,?_⟩) he hpl;have hl:us.length=ps.length:=by rw [<-r.length];exact F.len _ _ _ _ q
 have hb':=hb s1 us I1.kIn (by rw [El];exact hl);rw [El] at hb';refine wpAny_call (codeAny_mono (F.run X.A X.stack s1 H1 ⟨us,[]⟩ us vs Q E hr I1.env0 hb' r q) fun r s' ⟨hk',hq⟩=>?_);cases r with
 | error e=>exact hx pins σ H1 s1 e s' I1 hq
 | ok fl=>
  cases fl with
  | ret u=>exact ⟨hk',I1.after hq⟩
  | next=>exact False.elim hq
  | brk=>exact False.elim hq
  | cont=>exact False.elim hq
end
end L2
namespace L3
open PySem L2
def cG (i:Nat):Stmt:=PySem.Challenge.pw_rowsbeneath_k11_programs_made.main.body.getD i (.Pass ⟨0,0,0,0⟩)
abbrev fP:Stmt:=cG 12
abbrev kN:Stmt:=cG 17
abbrev iL:Stmt:=cG 18
abbrev sS:Stmt:=cG 19
abbrev pO:Stmt:=cG 20
abbrev kO:Stmt:=cG 37
abbrev gx:Stmt:=cG 38
abbrev dn:Stmt:=cG 40
abbrev ic:Stmt:=cG 52
abbrev eM:Stmt:=cG 53
abbrev gy:Stmt:=cG 54
abbrev ie:Stmt:=cG 55
abbrev ft:Stmt:=cG 56
abbrev gz:Stmt:=cG 57
abbrev ig:Stmt:=cG 58
abbrev ii:Stmt:=cG 61
abbrev je:Stmt:=cG 63
abbrev eO:Stmt:=cG 70
abbrev jf:Stmt:=cG 71
abbrev gA:Stmt:=cG 72
abbrev fv:Stmt:=cG 73
abbrev gB:Stmt:=cG 74
abbrev iM:Stmt:=cG 75
abbrev on:Stmt:=cG 78
abbrev kP:Stmt:=cG 85
abbrev sT:Stmt:=cG 86
abbrev yA:Stmt:=cG 87
abbrev gC:Stmt:=cG 88
abbrev sU:Stmt:=cG 90
abbrev kQ:Stmt:=cG 91
abbrev sV:Stmt:=cG 92
abbrev oo:Stmt:=cG 93
abbrev kR:Stmt:=cG 94
abbrev dq:Stmt:=cG 95
abbrev iN:Stmt:=cG 96
abbrev fQ:Stmt:=cG 97
abbrev mO:Stmt:=cG 105
def Fn (P:Program) (w:World) (K:ZF) (mg:Str->Option Value) (base:Heap) (x:Str) (k:Nat) (ps:List Str) (sp:Sp):Prop:=
 ∃ (f:Addr) (fd:FuncData),mg x=some (.ref f)/\PySem.W.keepIn K (.ref f)=true/\Binds K fd ps []/\FnOk P w K mg base bY k f fd ps sp
def Cu (sp:Sp) (t:TA):TE:=fun σ H Q=>t σ H fun vs H1=>sp vs H1 Q E0
variable {ps:List Str}
theorem aB {X:Cx} {x:Str} {k:Nat} {sp:Sp} {p pos:Pos} {e:Expr} {es:List Expr} {t:TA} (h:Fn X.prog X.w X.K X.mg X.base x k ps sp) (hr:Room k X.A) (hg:Gl X x) (ha:PA X (e::es) t) (hdb:(x == ("__debug__":Str))=false:=by decide)
  (he:starEach (e::es) X.env=(false,eval e X.env)::starEach es X.env:=by rfl) (hpl:(backTo pos (starEach es X.env)).any (·.1)=false:=by rfl):PE X (.Call (.Name x p) (e::es) [] pos) (Cu sp t):=by
 obtain ⟨f,fd,hm,hk,hb,F⟩:=h;refine ⟨?_⟩;intro pins s σ H Q I q;have ha':PA X (e::es) t:=ha;refine pz (dvs:=[]) (E:=E0) F hr hg hm hk hb .nil dL ha' hdb he hpl pins s σ H Q I ?_;show t σ H fun vs H1=>sp (vs++[]) H1 Q E0;have e2:(fun vs H1=>sp (vs++[]) H1 Q E0)=fun vs H1=>sp vs H1 Q E0:=by
  funext vs H1;rw [El]
 rw [e2];exact q
variable {o:HO} {p:Addr} {H:Hp}
theorem af (h:H p=none):Same H (aq H p o):=fun b u e=>by rw [ao (ap e h)];exact e
theorem nw {H H':Hp} {a:Addr} {o:HO} (n:H a=none) (z:aq H a o=H'):Same H H'/\H' a=some o:=z ▸ ⟨af n,ae⟩
variable {H2:Hp}
theorem aU (hp:H p=none) (s:Same H H2):Same H (aq H2 p o):=fun b u e=>by rw [ao (ap e hp)];exact s b u e
variable {b:Bool} {A B:Prop}
theorem bQ (e:b=false) (h:B):if b=true then A else B:=by rw [e];exact bP h
theorem bK (e:b=true) (h:A):if b=true then A else B:=by rw [e];exact gM h
theorem gQ {l:List Nat} {i:Nat} (h:i < l.length):nV (S l).cps.toList (i:Int)=some l[i]:=bN (by show l.toArray.toList[i]?=_;simp [h])
theorem AO:("":Str)=S []:=by decide +kernel
theorem yB (z:Str):z=S z.cps.toList:=by
 show z=⟨z.cps.toList.toArray⟩;simp
theorem gj (a b:List Nat):S a++S b=S (a++b):=by
 show (⟨(S a).cps++(S b).cps⟩:Str)=⟨(a++b).toArray⟩
 congr 1
 simp [S]
theorem cw:bootBuiltins "isinstance"=some (.builtin "isinstance"):=by decide +kernel
theorem eP:bootBuiltins "list"=some (.type "list"):=by decide +kernel
theorem eE:bootBuiltins "str"=some (.type "str"):=by decide +kernel
theorem eQ:bootBuiltins "bool"=some (.type "bool"):=by decide +kernel
theorem bo:bootBuiltins "tuple"=some (.type "tuple"):=by decide +kernel
theorem ij:bootBuiltins "all"=some (.builtin "all"):=by decide +kernel
structure Bl (mg:Str->Option Value):Prop where
 len:mg "len"=none
 int:mg "int"=none
 max:mg "max"=none
 min:mg "min"=none
 range:mg "range"=none
 isinstance:mg "isinstance"=none
 list:mg "list"=none
 str:mg "str"=none
 bool:mg "bool"=none
 tuple:mg "tuple"=none
 all:mg "all"=none
def yC (x y z:Int):HO:=.lst [.int x,.int y,.int z]
def Strm (H:Hp) (p:Addr):Prop:=∃ x y z:Int,H p=some (yC x y z)
def But (p:Addr) (H H':Hp):Prop:=∀ b o,H b=some o->b≠p->H' b=some o
theorem But.refl (p:Addr) (H:Hp):But p H H:=fun _ _ e _=>e
variable {H1:Hp}
theorem But.trans (a:But p H H1) (b:But p H1 H2):But p H H2:=fun c o e n=>b c o (a c o e n) n
theorem But.same (a:But p H H1) (b:Same H1 H2):But p H H2:=fun c o e n=>b c o (a c o e n)
theorem fw (b:Same H H1):But p H H1:=fun c o e _=>b c o e
theorem Strm.same (a:Strm H p) (b:Same H H1):Strm H1 p:=let ⟨x,y,z,e⟩:=a;⟨x,y,z,b _ _ e⟩
theorem Strm.ne {p q:Addr} (a:Strm H p) (h:H q=none):p≠q:=let ⟨_,_,_,e⟩:=a;ap e h
inductive oq (K:ZF) (vs:List V) (H:Hp) (Q:VK) (Z3:XK):Prop
 | mk (a:Addr) (ns:List Int) (k:Int):vs=[.ref a,.int k]->SqL K H a (ns.map V.int)->0<=k->(∀ c:Int,Q (.int c) H)->oq K vs H Q Z3
inductive jg (vs:List V) (H:Hp) (Q:VK) (Z3:XK):Prop
 | mk (c:Int):vs=[.int c]->(∀ (p:Addr) H',H p=none->Same H H'->Strm H' p->Q (.ref p) H')->jg vs H Q Z3
inductive fz (vs:List V) (H:Hp) (Q:VK) (Z3:XK):Prop
 | mk (p:Addr) (m:Nat):vs=[.ref p,.int m]->Strm H p->0 < m->m < 18446744073709551616->(∀ (r:Nat) H',r < m->Strm H' p->But p H H'->Q (.int r) H')->fz vs H Q Z3
variable {P:Program} {w:World} {K:ZF} {mg:Str->Option Value} {base:Heap} {C fi aS aE aF aO:Addr} {t1 t2 t3 t4 t5 tM:Tok}
theorem yD:aw ["_law_script","_law_k"] ["_law_script","_law_k"] (aj sU):=cI zk
variable {fd:FuncData} {f:Addr}
theorem vQ (F:Fun K "_law_cell" "_law_cell" sU f fd) (T:Bl mg):FnOk P w K mg base bY 1 f fd ["_law_script","_law_k"] (oq K):=by
 have ZZ:=yD
 walk_at "o"
 ·obtain ⟨a,ns,k,rfl,hS,h0,q⟩:=h;refine ⟨_,ag (bi (ar dG (pv 1) (av ay (by rfl) T.len D3 (ac (pv 0) ad))) (ai (aA (aZ aY (pv 0) (pv 1)))) aL)
   (ai (aA (aG bO (aG fg ah (pv 1)) ah))),?_⟩
  refine ⟨_,rfl,_,rfl,a,_,rfl,.inl hS,_,_,rfl,rfl,_,rfl,?_⟩;refine kF (fun h=>?_) (fun h=>?_)
  ·have hl:k < ((ns.map V.int).length:Int):=of_decide_eq_true h;rw [DI] at hl;obtain ⟨n,rfl⟩:∃ n:Nat,k=n:=⟨k.toNat,zo⟩;have hn:n < ns.length:=by omega
   refine ⟨_,rfl,_,rfl,a,_,_,_,rfl,rfl,hS,bN (v:=.int ns[n]) (by simp [hn]),q _⟩
  ·exact ⟨_,rfl,_,_,rfl,rfl,.inl ⟨zd,zd⟩,_,_,rfl,rfl,q _⟩
theorem sW:aw ["_law_cell_here"] ["_law_cell_here"] (aj kQ):=cI zk
theorem qH (F:Fun K "_law_stream" "_law_stream" kQ f fd) (T:Bl mg):FnOk P w K mg base bY 1 f fd ["_law_cell_here"] jg:=by
 have ZZ:=sW
 walk_at "o"
 ·obtain ⟨c,rfl,q⟩:=h;refine ⟨_,ai (aA (aP (ac (aG fg (pv 0) (aR fJ (by rfl) T.int ED (ac (cH Ao (pv 0) (aG nO ah ah)) ad)))
   (ac (aG dS (pv 0) ah) (ac ah ad))))),?_⟩
  refine ⟨_,rfl,_,rfl,_,_,rfl,rfl,⟨zd,zd,zd⟩,_,_,rfl,rfl,.inr ⟨_,rfl,?_⟩⟩;refine ⟨_,_,rfl,rfl,.inr (by split<;>decide),_,rfl,_,_,rfl,rfl,(by show (0:Int) < 2147483629;decide),zlx,fun l hl=>?_⟩;exact q l _ hl (af hl) ⟨_,_,_,ae⟩
theorem scTake:aw ["_law_stream_here","_law_many","_law_digit","_law_number"] ["_law_stream_here","_law_many"] (aj sV):=cI zk
theorem mP {n m:Int} (hm:0 < m) (h:m < 2 ^ 64):-(2 ^ 64) < n % m/\n % m < 2 ^ 64:=by
 have:=Int.emod_nonneg n (show m≠0 by omega);have:=Int.emod_lt_of_pos n hm;omega
theorem vR (F:Fun K "_law_take" "_law_take" sV f fd):FnOk P w K mg base bY 1 f fd ["_law_stream_here","_law_many"] fz:=by
 have ZZ:=scTake
 walk_at "o"
 ·obtain ⟨p,m,rfl,⟨x,y,z,hp⟩,m0,m1,q⟩:=h;have fin:∀ (e x' y' z':Int) H1,0<=e->e < m->But p H H1->Q (.int e) (aq H1 p (yC x' y' z')):=fun e x' y' z' H1 h0 h1 b=>by
   have:=q e.toNat (aq H1 p (yC x' y' z')) zo ⟨_,_,_,ae⟩ (fun c o e n=>by rw [ao n];exact b c o e n);rw [Int.toNat_of_nonneg h0] at this;exact this
  have b1:∀ o,But p H (aq H p o):=fun o c u e n=>by rw [ao n];exact e
  refine ⟨_,ag (bi (ar jQ (aZ aY (pv 0) ah) ah)
    (ag (au (i:=2) scTake.nd rfl (Or.inl rfl) (aG dS (aZ aY (pv 0) ah) (pv 1)))
    (ag (ff (aG sw (aZ aY (pv 0) ah) (pv 1)) (nG (pv 0) ah i5))
    (ai (aA (pv 2))))) aL)
   (ag (ff (aG bO (aZ aY (pv 0) ah) ah) (nG (pv 0) ah i5))
   (ag (au (i:=3) scTake.nd rfl (Or.inl rfl) (aG dS (aG bO (aG fg (aG bO (aZ aY (pv 0) ah) (aG fg ah (aZ aY (pv 0) ah))) ah) ah) ah))
   (ag (au (i:=3) scTake.nd rfl (Or.inl rfl) (aG dS (aG fg (pv 3) (pv 3)) ah))
   (ai (aA (aG dS (aG o8 (aG dS (aG bO (aG fg (pv 3) (pv 3)) (aG fg ah (aZ aY (pv 0) ah))) ah) ah) (pv 1))))))),?_⟩
  refine ⟨_,rfl,p,_,_,_,rfl,rfl,SqL.of hp,rfl,_,_,rfl,rfl,_,rfl,?_⟩;refine kF (fun h=>?_) (fun h=>?_)
  ·refine ⟨_,rfl,p,_,_,_,rfl,rfl,SqL.of hp,rfl,_,rfl,_,_,rfl,rfl,(by show (0:Int) < (m:Int);omega),?_⟩;refine ⟨_,rfl,p,_,_,_,rfl,rfl,SqL.of hp,rfl,_,rfl,_,_,rfl,rfl,⟨by show (0:Int) < (m:Int);omega,by show (m:Int) < 18446744073709551616;omega⟩,?_⟩;refine ⟨_,rfl,p,_,_,_,rfl,rfl,hp,rfl,?_⟩;refine ⟨_,rfl,?_⟩;exact fin _ _ _ _ _ (Int.emod_nonneg _ zo) (Int.emod_lt_of_pos _ zo) (But.refl _ _)
  ·refine ⟨_,rfl,p,_,_,_,rfl,rfl,SqL.of hp,rfl,_,_,rfl,rfl,?_⟩;refine ⟨_,rfl,p,_,_,_,rfl,rfl,hp,rfl,?_⟩;refine ⟨_,rfl,p,_,_,_,rfl,rfl,SqL.of ae,rfl,_,rfl,p,_,_,_,rfl,rfl,SqL.of ae,rfl,_,_,rfl,rfl,.inl ⟨zd,zd⟩,_,_,rfl,rfl,_,_,rfl,rfl,.inr ⟨zd,zd⟩,_,_,rfl,rfl,_,_,rfl,rfl,(by show (0:Int) < 2147483647;decide),?_⟩;refine ⟨_,rfl,_,rfl,_,_,rfl,rfl,.inl (mP zd zd),_,_,rfl,rfl,(by show (0:Int) < 2147483629;decide),?_⟩;refine ⟨_,rfl,_,rfl,_,_,rfl,rfl,.inl (mP zd zd),_,rfl,p,_,_,_,rfl,rfl,SqL.of ae,rfl,_,_,rfl,rfl,.inl ⟨zd,zd⟩,_,_,rfl,rfl,_,_,rfl,rfl,(by show (0:Int) < 2147483587;decide),_,_,rfl,rfl,⟨zd,zd⟩,_,rfl,_,_,rfl,rfl,(by show (0:Int) < (m:Int);omega),?_⟩;exact fin _ _ _ _ _ (Int.emod_nonneg _ zo) (Int.emod_lt_of_pos _ zo) (But.refl _ _)
def ak (l:List Str):List V:=l.map V.str
def eX (P:Program) (w:World) (K:ZF) (mg:Str->Option Value) (base:Heap) (C:Addr) (nm:Str) (n:Nat) (ps:List Str) (sp:Sp):Prop:=∃ f fd,rR K C nm f/\FnOk P w K mg base bY n f fd ps sp/\Binds K fd ps []
def vi (l:Addr) (k:Nat) (me:Bool):List (Str×V):=[("tokens",.ref l),("spot",.int k),("may_end",.bl me)]
structure RdO (C:Addr) (H:Hp) (a l:Addr) (ts:List Str) (k:Nat) (me:Bool):Prop where
 ob:∃ dx,H a=some (.ins C dx (vi l k me))
 tk:H l=some (.lst (ak (ts++[("":Str)])))
 le:ts.length<=1500
def ButO (a:Addr) (H H':Hp):Prop:=∀ b o,H b=some o->b≠a->H' b=some o
theorem ButO.refl (p:Addr) (H:Hp):ButO p H H:=fun _ _ e _=>e
theorem ButO.trans (a:ButO p H H1) (b:ButO p H1 H2):ButO p H H2:=fun c o e n=>b c o (a c o e n) n
theorem ButO.same (a:ButO p H H1) (b:Same H1 H2):ButO p H H2:=fun c o e n=>b c o (a c o e n)
theorem db (b:Same H H1):ButO p H H1:=fun c o e _=>b c o e
variable {me:Bool} {ts:List Str} {a l:Addr}
theorem RdO.same {H H':Hp} {k:Nat} (h:RdO C H a l ts k me) (s:Same H H'):RdO C H' a l ts k me:=⟨let ⟨dx,e⟩:=h.ob;⟨dx,s _ _ e⟩,s _ _ h.tk,h.le⟩
theorem RdO.ne {k:Nat} (h:RdO C H a l ts k me):l≠a:=by
 rintro rfl;obtain ⟨dx,e⟩:=h.ob;rw [h.tk] at e;cases e
structure Rc (K:ZF) (C:Addr):Prop where
 cl:Cls K C
 n1:NoAttr K C "tokens"
 n2:NoAttr K C "spot"
 n3:NoAttr K C "may_end"
inductive ou (C:Addr) (vs:List V) (H:Hp) (Q:VK) (Z3:XK):Prop
 | mk (a l ts k me z:_):vs=[.ref a]->RdO C H a l ts k me->(ts++[("":Str)])[k]?=some z->Q (.str z) H->ou C vs H Q Z3
inductive yE (C:Addr) (vs:List V) (H:Hp) (Q:VK) (Z3:XK):Prop
 | mk (a l ts k me z:_):vs=[.ref a]->RdO C H a l ts k me->(ts++[("":Str)])[k]?=some z->(∀ H',RdO C H' a l ts (k+1) me->ButO a H H'->Q (.str z) H')->yE C vs H Q Z3
inductive ow (K:ZF) (C:Addr) (vs:List V) (H:Hp) (Q:VK) (Z3:XK):Prop
 | mk (a l ts k me z p xs:_):vs=[.ref a,.ref p]->RdO C H a l ts k me->(ts++[("":Str)])[k]?=some z->(SqL K H p (ak xs)\/SqT K H p (ak xs))->z∈xs->(∀ H',RdO C H' a l ts (k+1) me->ButO a H H'->Q (.str z) H')->ow K C vs H Q Z3
abbrev sX:Stmt:=cy (cG 51) 1
abbrev Cv:Stmt:=cy (cG 51) 2
abbrev sY:Stmt:=cy (cG 51) 3
variable {z:Str}
theorem sZ {k:Nat} (h:(ts++[("":Str)])[k]?=some z):(ak (ts++[("":Str)]))[k]?=some (.str z):=by unfold ak;rw [Ec,h];rfl
theorem eG (x:Str) (l:List Str):jZ (.str x) (ak l)=l.contains x:=by
 unfold jZ ak;rw [List.any_map,EF,List.any_eq_true,Ex];constructor
 ·rintro ⟨y,hy,e⟩;have:y=x:=by simpa [nB] using e
  rw [<-this];exact hy
 ·intro hx;exact ⟨x,hx,by simp [nB]⟩
theorem cA (l:List Str):(ak l).all dJ=true:=by
 unfold ak;rw [List.all_map,Eh];intro x _;rfl
theorem yF:aw ["self"] ["self"] (aj sX):=cI zk
theorem vS (F:Fun K "look" "Reader.look" sX f fd) (T:Rc K C):FnOk P w K mg base bY 1 f fd ["self"] (ou C):=by
 have ZZ:=yF
 walk_at "o"
 ·obtain ⟨a,l,ts,k,me,z,rfl,hR,hz,q⟩:=h;refine ⟨_,ai (aA (aZ aY (bL (pv 0) rfl) (bL (pv 0) rfl))),?_⟩;obtain ⟨dx,ho⟩:=hR.ob;exact ⟨_,rfl,a,C,dx,_,_,rfl,ho,T.cl,T.n1,rfl,_,rfl,a,C,dx,_,_,rfl,ho,T.cl,T.n2,rfl,l,_,_,_,rfl,rfl,SqL.of hR.tk,bN (sZ hz),q⟩
theorem Cw:aw ["self"] ["self"] (aj Cv):=cI zk
theorem AQ (F:Fun K "take" "Reader.take" Cv f fd) (T:Rc K C):FnOk P w K mg base bY 1 f fd ["self"] (yE C):=by
 have ZZ:=Cw
 walk_at "o"
 ·obtain ⟨a,l,ts,k,me,z,rfl,hR,hz,q⟩:=h;refine ⟨_,ag (jT (pv 0) ah rS) (ai (aA (aZ aY (bL (pv 0) rfl) (aG iZ (bL (pv 0) rfl) ah)))),?_⟩;obtain ⟨dx,ho⟩:=hR.ob;refine ⟨_,rfl,a,C,dx,_,_,rfl,ho,T.cl,T.n2,rfl,_,_,rfl,rfl,dx,_,ho,(by show 3 < 1000;decide),?_⟩;have e1:(aq H a (.ins C dx (aH "spot" (.int ((k:Int)+1)) (vi l k me)))) a=some (.ins C dx (vi l (k+1) me)):=by rw [ae];rfl
  have e2:(aq H a (.ins C dx (aH "spot" (.int ((k:Int)+1)) (vi l k me)))) l=some (.lst (ak (ts++[("":Str)]))):=by rw [ao hR.ne];exact hR.tk
  have b2:ButO a H (aq H a (.ins C dx (aH "spot" (.int ((k:Int)+1)) (vi l k me)))):=fun b o e n=>by rw [ao n];exact e
  generalize aq H a (.ins C dx (aH "spot" (.int ((k:Int)+1)) (vi l k me)))=H1 at *;refine ⟨_,rfl,a,C,dx,_,_,rfl,e1,T.cl,T.n1,rfl,_,rfl,a,C,dx,_,_,rfl,e1,T.cl,T.n2,rfl,_,_,rfl,rfl,l,_,_,_,rfl,rfl,SqL.of e2,?_,q _ ⟨⟨dx,e1⟩,e2,hR.le⟩ b2⟩;have:(((k+1:Nat):Int) - 1)=(k:Int):=by omega
  rw [this];exact bN (sZ hz)
structure Rm (P:Program) (w:World) (K:ZF) (mg:Str->Option Value) (base:Heap) (C:Addr):Prop extends Rc K C where
 look:eX P w K mg base C "look" 1 ["self"] (ou C)
 take:eX P w K mg base C "take" 1 ["self"] (yE C)
theorem yG:aw ["self","words"] ["self","words"] (aj sY):=cI zk
theorem vT (F:Fun K "need" "Reader.need" sY f fd) (T:Rm P w K mg base C):FnOk P w K mg base bY 2 f fd ["self","words"] (ow K C):=by
 have ZZ:=yG
 walk_at "o"
 ·obtain ⟨a,l,ts,k,me,z,p,xs,rfl,hR,hz,hp,hm,q⟩:=h;have hr1:Room 1 _:=hr;refine ⟨_,ag (bi (ar c9 (bB (pv 0)) (pv 1) rfl) (ai bD) aL) (ai (aA (bB (pv 0)))),?_⟩;obtain ⟨dx,ho⟩:=hR.ob;obtain ⟨f1,fd1,M1,F1,B1⟩:=T.look;obtain ⟨f2,fd2,M2,F2,B2⟩:=T.take;refine ⟨_,rfl,a,dx,C,f1,_,fd1,1,["self"],_,rfl,ho,rfl,T.cl,M1,F1,hr1,B1,a,l,ts,k,me,z,rfl,hR,hz,_,rfl,p,ak xs,rfl,?_,rfl,cA _,_,rfl,bQ ?_ ?_⟩
  ·exact hp
  ·show (!jZ (.str z) (ak xs))=false;rw [eG,Ex.mpr hm];rfl
  ·exact ⟨_,rfl,a,dx,C,f2,_,fd2,1,["self"],_,rfl,ho,rfl,T.cl,M2,F2,hr1,B2,a,l,ts,k,me,z,rfl,hR,hz,q⟩
abbrev tz (ts:List Str):List Str:=ts++[("":Str)]
def ownL:List Str:=["word","cells","depth","places","marks","gate","kind","place","mark","number","row","set","if","else","top","next","go","call","back","stop","fault","bell"]
def NameS (z:Str):Prop:=z∉ownL/\1<=z.length/\z.length<=8/\∀ c∈z.cps.toList,97<=c/\c<=122
inductive yH (vs:List V) (H:Hp) (Q:VK) (Z3:XK):Prop
 | mk (z:_):vs=[.str z]->NameS z->(∀ H',Same H H'->Q (.bl true) H')->yH vs H Q Z3
inductive kU (vs:List V) (H:Hp) (Q:VK) (Z3:XK):Prop
 | mk (n:Nat):vs=[.str (toString (n:Int):Str)]->n < 1000000000->(∀ H',Same H H'->Q (.int n) H')->kU vs H Q Z3
inductive kW (vs:List V) (H:Hp) (Q:VK) (Z3:XK):Prop
 | mk (i:Int):vs=[.int i]->Q (.bl true) H->kW vs H Q Z3
inductive jh (vs:List V) (H:Hp) (Q:VK) (Z3:XK):Prop
 | mk (i lo hi:Int):vs=[.int i,.int lo,.int hi]->lo<=i->i<=hi->Q (.bl true) H->jh vs H Q Z3
inductive gD (C:Addr) (vs:List V) (H:Hp) (Q:VK) (Z3:XK):Prop
 | mk (a l ts k me z:_):vs=[.ref a]->RdO C H a l ts k me->(tz ts)[k]?=some z->NameS z->(∀ H',RdO C H' a l ts (k+1) me->ButO a H H'->Q (.str z) H')->gD C vs H Q Z3
inductive eR (C:Addr) (vs:List V) (H:Hp) (Q:VK) (Z3:XK):Prop
 | mk (a l ts k me:_) (n lo hi:Nat):vs=[.ref a,.int lo,.int hi]->RdO C H a l ts k me->(tz ts)[k]?=some (toString (n:Int):Str)->n < 1000000000->lo<=n->n<=hi->(∀ H',RdO C H' a l ts (k+1) me->ButO a H H'->Q (.int n) H')->eR C vs H Q Z3
inductive ik (C:Addr) (vs:List V) (H:Hp) (Q:VK) (Z3:XK):Prop
 | mk (a l ts k:_):vs=[.ref a]->RdO C H a l ts k true->k=ts.length->Q .non H->ik C vs H Q Z3
abbrev il:Stmt:=cy (cG 51) 4
abbrev fA:Stmt:=cy (cG 51) 5
abbrev ji:Stmt:=cy (cG 51) 6
theorem pP:aw ["thing"] ["thing"] (aj kN):=cI zk
theorem tt (F:Fun K "is_whole" "is_whole" kN f fd) (T:Bl mg):FnOk P w K mg base bY 1 f fd ["thing"] kW:=by
 have ZZ:=pP
 walk_at "o"
 ·obtain ⟨i,rfl,q⟩:=h;refine ⟨_,ai (aA (gq (av (dW (T:="int")) (by rfl) T.isinstance cw (ac (pv 0) (ac (pe_ty (by rfl) T.int ED) ad))) (fe (rB (av (dW (T:="bool")) (by rfl) T.isinstance cw (ac (pv 0) (ac (pe_ty (by rfl) T.bool eQ) ad))))))),?_⟩;exact ⟨_,rfl,_,_,_,rfl,.int _,rfl,_,rfl,gM ⟨_,rfl,_,_,_,rfl,.int _,rfl,_,rfl,q⟩⟩
theorem mQ:aw ["thing","low","high"] ["thing","low","high"] (aj iL):=cI zk
theorem qI (F:Fun K "is_within" "is_within" iL f fd) (WH:Fn P w K mg base "is_whole" 1 ["thing"] kW):FnOk P w K mg base bY 2 f fd ["thing","low","high"] jh:=by
 have ZZ:=mQ
 walk_at "o"
 ·obtain ⟨i,lo,hi,rfl,h1,h2,q⟩:=h;refine ⟨_,ai (aA (gq (aB WH hr rfl (ac (pv 0) ad)) (fe (i0 gJ gJ (pv 1) (pv 0) (pv 2))))),?_⟩;refine ⟨_,rfl,i,rfl,_,rfl,gM ⟨_,rfl,_,rfl,_,_,rfl,rfl,_,rfl,bK (decide_eq_true h1) ⟨_,rfl,_,_,rfl,rfl,?_⟩⟩⟩;show Q (V.bl (decide (i<=hi))) H;rw [decide_eq_true h2];exact q
theorem oy:aw ["self"] ["self"] (aj il):=cI zk
theorem mS (F:Fun K "need_name" "Reader.need_name" il f fd) (T:Rm P w K mg base C) (NM:Fn P w K mg base "is_name" 1 ["thing"] yH):FnOk P w K mg base bY 2 f fd ["self"] (gD C):=by
 have ZZ:=oy
 walk_at "o"
 ·obtain ⟨a,l,ts,k,me,z,rfl,hR,hz,hn,q⟩:=h;have hr1:Room 1 _:=hr;refine ⟨_,ag (bi (cL (cX (aB NM hr1 rfl (ac (bB (pv 0)) ad)))) (ai bD) aL) (ai (aA (bB (pv 0)))),?_⟩;obtain ⟨dx,ho⟩:=hR.ob;obtain ⟨f1,fd1,M1,F1,B1⟩:=T.look;obtain ⟨f2,fd2,M2,F2,B2⟩:=T.take;refine ⟨_,rfl,a,dx,C,f1,_,fd1,1,["self"],_,rfl,ho,rfl,T.cl,M1,F1,hr1,B1,a,l,ts,k,me,z,rfl,hR,hz,z,rfl,hn,fun H1 s1=>⟨_,rfl,bP ?_⟩⟩;exact ⟨_,rfl,a,dx,C,f2,_,fd2,1,["self"],_,rfl,s1 _ _ ho,rfl,T.cl,M2,F2,hr1,B2,a,l,ts,k,me,z,rfl,hR.same s1,hz,fun H2 r2 b2=>q H2 r2 ((db s1).trans b2)⟩
theorem scNeedNumber:aw ["self","low","high","number"] ["self","low","high"] (aj fA):=cI zk
theorem jI (F:Fun K "need_number" "Reader.need_number" fA f fd) (T:Rm P w K mg base C) (NU:Fn P w K mg base "number_of" 1 ["token"] kU) (WI:Fn P w K mg base "is_within" 2 ["thing","low","high"] jh):FnOk P w K mg base bY 3 f fd ["self","low","high"] (eR C):=by
 have ZZ:=scNeedNumber
 walk_at "o"
 ·obtain ⟨a,l,ts,k,me,n,lo,hi,rfl,hR,hz,hn,h1,h2,q⟩:=h;refine ⟨_,ag (au (i:=3) scNeedNumber.nd rfl (Or.inl rfl) (aB NU hr.m rfl (ac (bB (pv 0)) ad)))
   (ag (bi (cL (cX (aB WI hr rfl (ac (pv 3) (ac (pv 1) (ac (pv 2) ad)))))) (ai bD) aL)
   (ag (jT (pv 0) ah rS) (ai (aA (pv 3))))),?_⟩
  obtain ⟨dx,ho⟩:=hR.ob;obtain ⟨f1,fd1,M1,F1,B1⟩:=T.look;refine ⟨_,rfl,a,dx,C,f1,_,fd1,1,["self"],_,rfl,ho,rfl,T.cl,M1,F1,hr.m,B1,a,l,ts,k,me,_,rfl,hR,hz,n,rfl,hn,fun H1 s1=>?_⟩;refine ⟨_,rfl,_,rfl,_,rfl,(n:Int),(lo:Int),(hi:Int),rfl,zo,zo,_,rfl,bP ?_⟩;have hR1:=hR.same s1;have ho1:=s1 _ _ ho;refine ⟨_,rfl,a,C,dx,_,_,rfl,ho1,T.cl,T.n2,rfl,_,_,rfl,rfl,dx,_,ho1,(by show 3 < 1000;decide),?_⟩;have e1:(aq H1 a (.ins C dx (aH "spot" (.int ((k:Int)+1)) (vi l k me)))) a=some (.ins C dx (vi l (k+1) me)):=by rw [ae];rfl
  have e2:(aq H1 a (.ins C dx (aH "spot" (.int ((k:Int)+1)) (vi l k me)))) l=some (.lst (ak (ts++[("":Str)]))):=by rw [ao hR.ne];exact hR1.tk
  exact ⟨_,rfl,q _ ⟨⟨dx,e1⟩,e2,hR.le⟩ (fun b o e n=>by rw [ao n];exact s1 _ _ e)⟩
theorem qJ:aw ["self"] ["self"] (aj ji):=cI zk
theorem oz (F:Fun K "need_end" "Reader.need_end" ji f fd) (T:Rm P w K mg base C) (B:Bl mg):FnOk P w K mg base bY 1 f fd ["self"] (ik C):=by
 have ZZ:=qJ
 walk_at "o"
 ·obtain ⟨a,l,ts,k,rfl,hR,hk,q⟩:=h;refine ⟨_,ai (bi (PW.pt (dX (cL (cX (bL (pv 0) rfl))) (di (ar dG (aG bO (bL (pv 0) rfl) ah) (av ay (by rfl) B.len D3 (ac (bL (pv 0) rfl) ad)))))) (ai bD) aL),?_⟩;obtain ⟨dx,ho⟩:=hR.ob;refine ⟨_,rfl,a,C,dx,_,_,rfl,ho,T.cl,T.n3,rfl,_,rfl,bP ?_⟩;refine ⟨_,rfl,a,C,dx,_,_,rfl,ho,T.cl,T.n2,rfl,_,_,rfl,rfl,_,rfl,a,C,dx,_,_,rfl,ho,T.cl,T.n1,rfl,l,_,rfl,.inl (SqL.of hR.tk),_,_,rfl,rfl,_,rfl,bQ (decide_eq_false ?_) q⟩;unfold ak;rw [DI,DL];simp;omega
structure vj (P:Program) (w:World) (K:ZF) (mg:Str->Option Value) (base:Heap) (C:Addr):Prop extends Rm P w K mg base C where
 need:eX P w K mg base C "need" 2 ["self","words"] (ow K C)
 nname:eX P w K mg base C "need_name" 2 ["self"] (gD C)
 nnum:eX P w K mg base C "need_number" 3 ["self","low","high"] (eR C)
 nend:eX P w K mg base C "need_end" 1 ["self"] (ik C)
inductive io (C:Addr) (vs:List V) (H:Hp) (Q:VK) (Z3:XK):Prop
 | mk (a l ts k me wd:_) (n lo hi:Nat):vs=[.ref a,.str wd,.int lo,.int hi]->RdO C H a l ts k me->(tz ts)[k]?=some wd->(tz ts)[k+1]?=some (toString (n:Int):Str)->(tz ts)[k+2]?=some ";"->n < 1000000000->lo<=n->n<=hi->(∀ H',RdO C H' a l ts (k+3) me->ButO a H H'->Q (.int n) H')->io C vs H Q Z3
def mT (ts:List Str) (k:Nat) (zs:List Str):Prop:=∀ i (h:i < zs.length),(tz ts)[k+i]?=some zs[i]/\NameS zs[i]
inductive kX (C:Addr) (vs:List V) (H:Hp) (Q:VK) (Z3:XK):Prop
 | mk (a l ts k me wd zs:_) (lo hi:Nat):vs=[.ref a,.str wd,.int lo,.int hi]->RdO C H a l ts k me->(tz ts)[k]?=some wd->mT ts (k+1) zs->(tz ts)[k+1+zs.length]?=some ";"->lo<=zs.length->zs.length<=hi->hi<=10->(∀ p H',RdO C H' a l ts (k+2+zs.length) me->ButO a H H'->H p=none->H' p=some (.tup (ak zs))->Q (.ref p) H')->kX C vs H Q Z3
theorem scBounded:aw ["reader","word","low","high","number"] ["reader","word","low","high"] (aj eM):=cI zk
theorem oA (F:Fun K "read_bounded" "read_bounded" eM f fd) (T:vj P w K mg base C):FnOk P w K mg base bY 4 f fd ["reader","word","low","high"] (io C):=by
 have ZZ:=scBounded
 walk_at "o"
 ·obtain ⟨a,l,ts,k,me,wd,n,lo,hi,rfl,hR,t0,t1,t2,hn,h1,h2,q⟩:=h;refine ⟨_,ag (aI (bX (pv 0) (ac (aN (ac (pv 1) ad)) ad)))
   (ag (au (i:=4) scBounded.nd rfl (Or.inl rfl) (bX (pv 0) (ac (pv 2) (ac (pv 3) ad))))
   (ag (aI (bX (pv 0) (ac (aN (ac am ad)) ad)))
   (ai (aA (pv 4))))),?_⟩
  obtain ⟨f1,fd1,M1,F1,B1⟩:=T.need;obtain ⟨f2,fd2,M2,F2,B2⟩:=T.nnum;obtain ⟨dx,ho⟩:=hR.ob;refine ⟨_,rfl,a,dx,C,f1,_,fd1,2,["self","words"],_,rfl,ho,rfl,T.cl,M1,F1,hr.m,B1,_,rfl,zlx,fun p1 n1=>?_⟩;have s1:=af (o:=.tup [.str wd]) n1;refine ⟨a,l,ts,k,me,wd,p1,[wd],rfl,hR.same s1,t0,(.inr (SqT.of ae)),by simp,fun H1 r1 b1=>?_⟩;obtain ⟨dx1,ho1⟩:=r1.ob;refine ⟨_,rfl,a,dx1,C,f2,_,fd2,3,["self","low","high"],_,rfl,ho1,rfl,T.cl,M2,F2,hr,B2,_,rfl,_,rfl,a,l,ts,k+1,me,n,lo,hi,rfl,r1,t1,hn,h1,h2,fun H2 r2 b2=>?_⟩;obtain ⟨dx2,ho2⟩:=r2.ob;refine ⟨_,rfl,a,dx2,C,f1,_,fd1,2,["self","words"],_,rfl,ho2,rfl,T.cl,M1,F1,hr.m,B1,zlx,fun p2 n2=>?_⟩;have s2:=af (o:=.tup [.str ";"]) n2;refine ⟨a,l,ts,k+2,me,";",p2,[";"],rfl,r2.same s2,t2,(.inr (SqT.of ae)),by simp,fun H3 r3 b3=>?_⟩;exact ⟨_,rfl,q H3 r3 (((db s1).trans (b1.trans b2)).trans ((db s2).trans b3))⟩
theorem scNames:aw ["reader","word","least","most","names"] ["reader","word","least","most"] (aj gy):=cI zk
theorem tw (F:Fun K "read_names" "read_names" gy f fd) (T:vj P w K mg base C) (B:Bl mg):FnOk P w K mg base bY 3 f fd ["reader","word","least","most"] (kX C):=by
 have ZZ:=scNames
 walk_at "o"
 ·obtain ⟨a,l,ts,k,me,wd,zs,lo,hi,rfl,hR,t0,tn,te,h1,h2,h10,q⟩:=h;refine ⟨_,ag (aI (bX (pv 0) (ac (aN (ac (pv 1) ad)) ad)))
   (ag (au (i:=4) scNames.nd rfl (Or.inl rfl) (aP ad))
   (ag (dY PassesOwn.never (PW.pt (dX (ar dG (av ay (by rfl) B.len D3 (ac (pv 4) ad)) (pv 2)) (di (PW.pt (dj (ar dG (av ay (by rfl) B.len D3 (ac (pv 4) ad)) (pv 3)) (cV (ar jP (bB (pv 0)) am)))))))
    (ai (aI (bZ DV DU DT aT (pv 4) (ac (bB (pv 0)) ad)))))
   (ag (aI (bX (pv 0) (ac (aN (ac am ad)) ad)))
   (ai (aA (aR bn (by rfl) B.tuple bo (ac (pv 4) ad))))))),?_⟩
  obtain ⟨f1,fd1,M1,F1,B1⟩:=T.need;obtain ⟨f2,fd2,M2,F2,B2⟩:=T.nname;obtain ⟨f3,fd3,M3,F3,B3⟩:=T.look;obtain ⟨dx,ho⟩:=hR.ob;have sz:(1000:Nat)<=sizeLine:=by decide
  refine ⟨_,rfl,a,dx,C,f1,_,fd1,2,["self","words"],_,rfl,ho,rfl,T.cl,M1,F1,hr,B1,_,rfl,zlx,fun p1 n1=>?_⟩;have s1:=af (o:=.tup [.str wd]) n1;refine ⟨a,l,ts,k,me,wd,p1,[wd],rfl,hR.same s1,t0,(.inr (SqT.of ae)),by simp,fun H1 r1 b1=>?_⟩;have c1:ButO a H H1:=(db s1).trans b1;refine ⟨zlx,fun ln nn=>?_⟩;have s2:=af (o:=.lst []) nn;have e2:(aq H1 ln (.lst [])) ln=some (.lst (ak [])):=ae;have r2:=r1.same s2;have c2:=c1.same s2;have nH:H ln=none:=by
   by_cases hh:ln=a
   ·subst hh;obtain ⟨dx1,ho1⟩:=r1.ob;rw [ho1] at nn;cases nn
   ·cases hx:H ln with
    | none=>rfl
    | some o=>
     have:=c1 _ _ hx hh;rw [nn] at this;cases this
  have lna:ln≠a:=by
   rintro rfl;rw [nH] at ho;cases ho
  have lnl:ln≠l:=fun z=>by
   have:=hR.tk;rw [<-z,nH] at this;cases this
  generalize aq H1 ln (.lst ([]:List V))=H2 at *;refine ⟨fun m σ H'=>∃ i,i<=zs.length/\m=zs.length - i/\σ=[some (.ref a),some (.str wd),some (.int lo),some (.int hi),some (.ref ln)]/\RdO C H' a l ts (k+1+i) me/\ButO a H H'/\H' ln=some (.lst (ak (zs.take i))),⟨_,0,Ej _,rfl,rfl,r2,c2,e2⟩,?_⟩;rintro m σ H3 ⟨i,hi3,rfl,rfl,r3,c3,e3⟩;have lt:(ak (zs.take i)).length=i:=by
   unfold ak;rw [DI,DS];omega
  obtain ⟨dx3,ho3⟩:=r3.ob;by_cases hlt:i < zs.length
  ·obtain ⟨tz1,nm1⟩:=tn i hlt;have tk1:zs.take (i+1)=zs.take i++[zs[i]]:=by rw [Eu,D9 hlt];rfl
   have nsc:zs[i]≠(";":Str):=by
    intro z;obtain ⟨_,_,_,hc⟩:=nm1;rw [z] at hc;exact absurd (hc 59 zk) zo
   by_cases hlo:i < lo
   ·refine ⟨_,rfl,ln,_,rfl,.inl (SqL.of e3),_,rfl,_,_,rfl,rfl,_,rfl,bK (decide_eq_true (by rw [lt];omega)) ?_⟩;refine ⟨fun σ' H'=>∃ i',i'=i+1/\σ'=[some (.ref a),some (.str wd),some (.int lo),some (.int hi),some (.ref ln)]/\RdO C H' a l ts (k+1+i') me/\ButO a H H'/\H' ln=some (.lst (ak (zs.take i'))),fun σ' H' ⟨i',e',a1,a2,a3,a4⟩=>⟨zs.length - i',zo,i',zo,rfl,a1,a2,a3,a4⟩,?_⟩;refine ⟨_,rfl,.inl ⟨rfl,_,SqL.of e3⟩,_,rfl,a,dx3,C,f2,_,fd2,2,["self"],_,rfl,ho3,rfl,T.cl,M2,F2,hr,B2,a,l,ts,k+1+i,me,zs[i],rfl,r3,tz1,nm1,fun H4 r4 b4=>?_⟩;have e4:=b4 _ _ e3 lna;refine ⟨ln,_,_,rfl,rfl,e4,by rw [lt];omega,i+1,rfl,rfl,?_,?_,?_⟩
    ·refine ⟨?_,?_,r4.le⟩
     ·obtain ⟨dx4,ho4⟩:=r4.ob;exact ⟨dx4,by rw [ao lna.symm];exact ho4⟩
     ·rw [ao lnl.symm];exact r4.tk
    ·intro b o e nb;by_cases hbl:b=ln
     ·rw [hbl,nH] at e;cases e
     ·rw [ao hbl];exact b4 _ _ (c3 _ _ e nb) nb
    ·rw [ae,tk1];unfold ak;rw [DP];rfl
   ·refine ⟨_,rfl,ln,_,rfl,.inl (SqL.of e3),_,rfl,_,_,rfl,rfl,_,rfl,bQ (decide_eq_false (by rw [lt];omega)) ?_⟩;refine ⟨_,rfl,ln,_,rfl,.inl (SqL.of e3),_,rfl,_,_,rfl,rfl,_,rfl,bK (decide_eq_true (by rw [lt];omega)) ?_⟩;refine ⟨_,rfl,a,dx3,C,f3,_,fd3,1,["self"],_,rfl,ho3,rfl,T.cl,M3,F3,hr.m,B3,a,l,ts,k+1+i,me,zs[i],rfl,r3,tz1,rfl,_,rfl,bK (by simpa using nsc) ?_⟩;refine ⟨fun σ' H'=>∃ i',i'=i+1/\σ'=[some (.ref a),some (.str wd),some (.int lo),some (.int hi),some (.ref ln)]/\RdO C H' a l ts (k+1+i') me/\ButO a H H'/\H' ln=some (.lst (ak (zs.take i'))),fun σ' H' ⟨i',e',a1,a2,a3,a4⟩=>⟨zs.length - i',zo,i',zo,rfl,a1,a2,a3,a4⟩,?_⟩;refine ⟨_,rfl,.inl ⟨rfl,_,SqL.of e3⟩,_,rfl,a,dx3,C,f2,_,fd2,2,["self"],_,rfl,ho3,rfl,T.cl,M2,F2,hr,B2,a,l,ts,k+1+i,me,zs[i],rfl,r3,tz1,nm1,fun H4 r4 b4=>?_⟩;have e4:=b4 _ _ e3 lna;refine ⟨ln,_,_,rfl,rfl,e4,by rw [lt];omega,i+1,rfl,rfl,?_,?_,?_⟩
    ·refine ⟨?_,?_,r4.le⟩
     ·obtain ⟨dx4,ho4⟩:=r4.ob;exact ⟨dx4,by rw [ao lna.symm];exact ho4⟩
     ·rw [ao lnl.symm];exact r4.tk
    ·intro b o e nb;by_cases hbl:b=ln
     ·rw [hbl,nH] at e;cases e
     ·rw [ao hbl];exact b4 _ _ (c3 _ _ e nb) nb
    ·rw [ae,tk1];unfold ak;rw [DP];rfl
  ·have hie:i=zs.length:=by omega
   have te':(tz ts)[k+1+i]?=some ";":=by rw [hie];exact te
   have ztk:ak (zs.take i)=ak zs:=by rw [hie,Ew]
   by_cases hhi:i < hi
   ·refine ⟨_,rfl,ln,_,rfl,.inl (SqL.of e3),_,rfl,_,_,rfl,rfl,_,rfl,bQ (decide_eq_false (by rw [lt];omega)) ?_⟩;refine ⟨_,rfl,ln,_,rfl,.inl (SqL.of e3),_,rfl,_,_,rfl,rfl,_,rfl,bK (decide_eq_true (by rw [lt];omega)) ?_⟩;refine ⟨_,rfl,a,dx3,C,f3,_,fd3,1,["self"],_,rfl,ho3,rfl,T.cl,M3,F3,hr.m,B3,a,l,ts,k+1+i,me,";",rfl,r3,te',rfl,_,rfl,bQ (by simp) ?_⟩;refine ⟨_,rfl,a,dx3,C,f1,_,fd1,2,["self","words"],_,rfl,ho3,rfl,T.cl,M1,F1,hr,B1,zlx,fun p2 n2=>?_⟩;have s4:=af (o:=.tup [.str ";"]) n2;refine ⟨a,l,ts,k+1+i,me,";",p2,[";"],rfl,r3.same s4,te',(.inr (SqT.of ae)),by simp,fun H4 r4 b4=>?_⟩;have e4:=b4 _ _ (s4 _ _ e3) lna;rw [ztk] at e4;refine ⟨_,rfl,ln,ak zs,rfl,.inl ⟨SqL.of e4,fun p3 n3=>?_⟩⟩;have s5:=af (o:=.tup (ak zs)) n3;have c4:ButO a H H4:=(c3.same s4).trans b4;refine q p3 _ ?_ (c4.same s5) ?_ ae
    ·have:=r4.same s5;rw [hie] at this;have e9:k+1+zs.length+1=k+2+zs.length:=by omega
     rw [e9] at this;exact this
    ·by_cases h3a:p3=a
     ·subst h3a;obtain ⟨dx4,ho4⟩:=r4.ob;rw [ho4] at n3;cases n3
     ·cases hx:H p3 with
      | none=>rfl
      | some o=>
       have:=c4 _ _ hx h3a;rw [n3] at this;cases this
   ·refine ⟨_,rfl,ln,_,rfl,.inl (SqL.of e3),_,rfl,_,_,rfl,rfl,_,rfl,bQ (decide_eq_false (by rw [lt];omega)) ?_⟩;refine ⟨_,rfl,ln,_,rfl,.inl (SqL.of e3),_,rfl,_,_,rfl,rfl,_,rfl,bQ (decide_eq_false (by rw [lt];omega)) ?_⟩;refine ⟨_,rfl,a,dx3,C,f1,_,fd1,2,["self","words"],_,rfl,ho3,rfl,T.cl,M1,F1,hr,B1,zlx,fun p2 n2=>?_⟩;have s4:=af (o:=.tup [.str ";"]) n2;refine ⟨a,l,ts,k+1+i,me,";",p2,[";"],rfl,r3.same s4,te',(.inr (SqT.of ae)),by simp,fun H4 r4 b4=>?_⟩;have e4:=b4 _ _ (s4 _ _ e3) lna;rw [ztk] at e4;refine ⟨_,rfl,ln,ak zs,rfl,.inl ⟨SqL.of e4,fun p3 n3=>?_⟩⟩;have s5:=af (o:=.tup (ak zs)) n3;have c4:ButO a H H4:=(c3.same s4).trans b4;refine q p3 _ ?_ (c4.same s5) ?_ ae
    ·have:=r4.same s5;rw [hie] at this;have e9:k+1+zs.length+1=k+2+zs.length:=by omega
     rw [e9] at this;exact this
    ·by_cases h3a:p3=a
     ·subst h3a;obtain ⟨dx4,ho4⟩:=r4.ob;rw [ho4] at n3;cases n3
     ·cases hx:H p3 with
      | none=>rfl
      | some o=>
       have:=c4 _ _ hx h3a;rw [n3] at this;cases this
def sortL:List Str:=["place","mark","number","row"]
structure oB (K:ZF) (mg:Str->Option Value) (aS aE aF:Addr) (t1 t2 t3 t4:Tok):Prop where
 sorts:mg "SORTS"=some (.ref aS)
 sortsq:∀ H,SqT K H aS (ak sortL)
 ends:mg "ENDS"=some (.ref aE)
 endsq:∀ H,SqT K H aE (ak ["next","go","call","back","stop","fault"])
 owf:mg "OWN_FAULTS"=some (.ref aF)
 owfq:∀ H,SqT K H aF (ak ["deep","bare"])
 mf:mg "MOST_FIELDS"=some (.int 3 t1)
 ms:mg "MOST_SETS"=some (.int 4 t2)
 mc:mg "MOST_CHOICES"=some (.int 3 t3)
 mkn:mg "MOST_KINDS"=some (.int 8 t4)
inductive FldV (H:Hp) (u:V) (x:Str×Str):Prop
 | mk (p:_):u=.ref p->H p=some (.tup [.str x.1,.str x.2])->FldV H u x
inductive kY (C:Addr) (vs:List V) (H:Hp) (Q:VK) (Z3:XK):Prop
 | mk (a l ts k me:_) (x:Str×Str):vs=[.ref a]->RdO C H a l ts k me->(tz ts)[k]?=some x.1->NameS x.1->(tz ts)[k+1]?=some x.2->x.2∈sortL->(∀ p H',RdO C H' a l ts (k+2) me->ButO a H H'->H p=none->H' p=some (.tup [.str x.1,.str x.2])->Q (.ref p) H')->kY C vs H Q Z3
variable {dx:Addr}
theorem fU {H H':Hp} {fs:List (Str×V)} (b:ButO a H H') (ho:H' a=some (.ins C dx fs)) (n:H' p=none):H p=none:=by
 by_cases h:p=a
 ·subst h;rw [ho] at n;cases n
 ·cases hx:H p with
  | none=>rfl
  | some o=>
   have:=b _ _ hx h;rw [n] at this;cases this
theorem scField:aw ["reader","name"] ["reader"] (aj gz):=cI zk
theorem tD (F:Fun K "read_field" "read_field" gz f fd) (T:vj P w K mg base C) (Z:oB K mg aS aE aF t1 t2 t3 t4):FnOk P w K mg base bY 3 f fd ["reader"] (kY C):=by
 have ZZ:=scField
 walk_at "o"
 ·obtain ⟨a,l,ts,k,me,x,rfl,hR,h0,hn,h1,hs,q⟩:=h;refine ⟨_,ag (au (i:=1) scField.nd rfl (Or.inl rfl) (bB (pv 0))) (ai (aA (aN (ac (pv 1) (ac (bX (pv 0) (ac (bJ (v:=.ref aS) rfl Z.sorts rfl) ad)) ad))))),?_⟩;obtain ⟨f1,fd1,M1,F1,B1⟩:=T.need;obtain ⟨f2,fd2,M2,F2,B2⟩:=T.nname;obtain ⟨dx,ho⟩:=hR.ob;refine ⟨_,rfl,a,dx,C,f2,_,fd2,2,["self"],_,rfl,ho,rfl,T.cl,M2,F2,hr,B2,a,l,ts,k,me,x.1,rfl,hR,h0,hn,fun H1 r1 b1=>?_⟩;obtain ⟨dx1,ho1⟩:=r1.ob;refine ⟨_,rfl,_,rfl,a,dx1,C,f1,_,fd1,2,["self","words"],_,rfl,ho1,rfl,T.cl,M1,F1,hr,B1,a,l,ts,k+1,me,x.2,aS,sortL,rfl,r1,h1,.inr (Z.sortsq _),hs,fun H2 r2 b2=>?_⟩;obtain ⟨dx2,ho2⟩:=r2.ob;refine ⟨zlx,fun p np=>?_⟩;have s3:=af (o:=.tup [.str x.1,.str x.2]) np;exact q p _ (r2.same s3) ((b1.trans b2).same s3) (fU (b1.trans b2) ho2 np) ae
def EW (z:Str):Prop:=z="next"\/z="stop"
inductive NextV (H:Hp) (u:V):Prop
 | mk (p zw:_):u=.ref p->EW zw->H p=some (.tup [.str zw])->NextV H u
inductive LeafV (H:Hp) (u:V):Prop
 | mk (p t e:_):u=.ref p->H p=some (.tup [.str "leaf",.ref t,e])->H t=some (.tup [])->NextV H e->LeafV H u
inductive tE (C:Addr) (vs:List V) (H:Hp) (Q:VK) (Z3:XK):Prop
 | mk (a l ts k me zw:_):vs=[.ref a]->RdO C H a l ts k me->EW zw->(tz ts)[k]?=some zw->(∀ p H',RdO C H' a l ts (k+1) me->ButO a H H'->H p=none->H' p=some (.tup [.str zw])->Q (.ref p) H')->tE C vs H Q Z3
theorem scEnd:aw ["reader","end"] ["reader"] (aj je):=cI zk
theorem yI (F:Fun K "read_end" "read_end" je f fd) (T:vj P w K mg base C) (Z:oB K mg aS aE aF t1 t2 t3 t4):FnOk P w K mg base bY 3 f fd ["reader"] (tE C):=by
 have ZZ:=scEnd
 walk_at "o"
 ·obtain ⟨a,l,ts,k,me,zw,rfl,hR,ew,h0,q⟩:=h;refine ⟨_,ag (au (i:=1) scEnd.nd rfl (Or.inl rfl) (bX (pv 0) (ac (bJ (v:=.ref aE) rfl Z.ends rfl) ad)))
   (ag (bi (PW.pt (dj (ar cB (pv 1) am) (cV (ar eC (bB (pv 0)) (bJ (v:=.ref aF) rfl Z.owf rfl) rfl)))) (ai bD) aL)
   (ag (bi (ar eC (pv 1) (aN (ac am (ac am (ac am ad)))) rfl) (ai (aA (aN (ac (pv 1) (ac (bB (pv 0)) ad))))) aL)
   (ai (aA (aN (ac (pv 1) ad)))))),?_⟩
  obtain ⟨f1,fd1,M1,F1,B1⟩:=T.need;obtain ⟨dx,ho⟩:=hR.ob;refine ⟨_,rfl,a,dx,C,f1,_,fd1,2,["self","words"],_,rfl,ho,rfl,T.cl,M1,F1,hr,B1,a,l,ts,k,me,zw,aE,["next","go","call","back","stop","fault"],rfl,hR,h0,.inr (Z.endsq _),by rcases ew with rfl|rfl<;>decide +kernel,fun H1 r1 b1=>?_⟩;obtain ⟨dx1,ho1⟩:=r1.ob;refine ⟨_,rfl,rfl,_,rfl,bQ (by rcases ew with rfl|rfl<;>decide +kernel) ?_⟩;refine bP ?_;refine ⟨_,rfl,zlx,fun p1 n1=>?_⟩;have s1:=af (o:=.tup [.str "go",.str "call",.str "fault"]) n1;refine ⟨p1,_,rfl,.inr (SqT.of ae),rfl,zk,_,rfl,bQ (by rcases ew with rfl|rfl<;>decide +kernel) ?_⟩;refine ⟨_,rfl,zlx,fun p np=>?_⟩;have s3:=af (o:=.tup [.str zw]) np;exact q p _ ((r1.same s1).same s3) ((b1.same s1).same s3) (fU (b1.same s1) (s1 _ _ ho1) np) ae
inductive oC (C:Addr) (vs:List V) (H:Hp) (Q:VK) (Z3:XK):Prop
 | mk (a l ts k me wv zw:_):vs=[.ref a,wv]->RdO C H a l ts k me->EW zw->(tz ts)[k]?=some zw->(∀ u H',RdO C H' a l ts (k+1) me->ButO a H H'->LeafV H' u->Q u H')->oC C vs H Q Z3
inductive oE (C:Addr) (vs:List V) (H:Hp) (Q:VK) (Z3:XK):Prop
 | mk (a l ts k me wv zw:_) (n:Nat):vs=[.ref a,wv,.int n]->n < 3->RdO C H a l ts k me->(tz ts)[k]?=some "{"->EW zw->(tz ts)[k+1]?=some zw->(tz ts)[k+2]?=some "}"->(∀ u H',RdO C H' a l ts (k+3) me->ButO a H H'->LeafV H' u->Q u H')->oE C vs H Q Z3
theorem ButO.kt {H H':Hp} {fs:List (Str×V)} (b:ButO a H H') (ho:H a=some (.ins C dx fs)):TupK H H':=fun c xs e=>b c _ e (by
 rintro rfl;rw [ho] at e;cases e)
variable {u:V}
theorem NextV.kt {H H':Hp} (k:TupK H H') (h:NextV H u):NextV H' u:=let ⟨p,zw,a,ew,b⟩:=h;⟨p,zw,a,ew,k _ _ b⟩
theorem LeafV.kt {H H':Hp} (k:TupK H H') (h:LeafV H u):LeafV H' u:=let ⟨p,t,e,a,b,c,d⟩:=h;⟨p,t,e,a,k _ _ b,k _ _ c,d.kt k⟩
theorem scLeaf:aw ["reader","width","sets","cell_free"] ["reader","width"] (aj ii):=cI zk
theorem vU (F:Fun K "read_leaf" "read_leaf" ii f fd) (T:vj P w K mg base C) (Z:oB K mg aS aE aF t1 t2 t3 t4) (B:Bl mg) (EN:Fn P w K mg base "read_end" 3 ["reader"] (tE C)):FnOk P w K mg base bY 4 f fd ["reader","width"] (oC C):=by
 have ZZ:=scLeaf
 walk_at "o"
 ·obtain ⟨a,l,ts,k,me,wv,zw,rfl,hR,ew,h0,q⟩:=h;refine ⟨_,ag (au (i:=2) scLeaf.nd rfl (Or.inl rfl) (aP ad))
   (ag (dY PassesOwn.never (PW.pt (dj (ar dG (av ay (by rfl) B.len D3 (ac (pv 2) ad)) (bJ (v:=.int 4) rfl Z.ms ⟨_,rfl⟩)) (cV (ar cB (bB (pv 0)) am)))) (ag bD (ag bD (ai bD))))
   (ai (aA (aN (ac am (ac (aR bn (by rfl) B.tuple bo (ac (pv 2) ad)) (ac (aB EN hr rfl (ac (pv 0) ad)) ad))))))),?_⟩
  obtain ⟨f3,fd3,M3,F3,B3⟩:=T.look;obtain ⟨dx,ho⟩:=hR.ob;refine ⟨zlx,fun ln nn=>?_⟩;have s1:=af (o:=.lst []) nn;have e1:(aq H ln (.lst [])) ln=some (.lst []):=ae;generalize aq H ln (.lst ([]:List V))=H1 at *;refine ⟨fun m σ H'=>m=0/\H'=H1/\σ=[some (.ref a),some wv,some (.ref ln),none],⟨_,rfl,rfl,rfl⟩,?_⟩;rintro m σ H2 ⟨rfl,rfl,rfl⟩;refine ⟨_,rfl,ln,_,rfl,.inl (SqL.of e1),_,_,rfl,rfl,_,rfl,bK zk ?_⟩;refine ⟨_,rfl,a,dx,C,f3,_,fd3,1,["self"],_,rfl,s1 _ _ ho,rfl,T.cl,M3,F3,hr.m,B3,a,l,ts,k,me,zw,rfl,hR.same s1,h0,rfl,_,rfl,bQ (by rcases ew with rfl|rfl<;>decide +kernel) ?_⟩;refine ⟨_,rfl,ln,_,rfl,.inl ⟨SqL.of e1,fun t nt=>?_⟩⟩;have s2:=af (o:=.tup []) nt;have e2:(aq H2 t (.tup [])) t=some (.tup []):=ae;generalize aq H2 t (.tup ([]:List V))=H3 at *;have s12:=s1.trans s2;have ho3:=s12 _ _ ho;refine ⟨_,rfl,a,l,ts,k,me,zw,rfl,hR.same s12,ew,h0,fun p H4 r4 b4 np e4=>⟨zlx,fun pt npt=>?_⟩⟩;have s5:=af (o:=.tup [.str "leaf",.ref t,.ref p]) npt;have k4:=b4.kt ho3;refine q _ _ (r4.same s5) (((db s12).trans b4).same s5) ⟨pt,t,.ref p,rfl,ae,s5 _ _ (k4 _ _ e2),⟨p,zw,rfl,ew,s5 _ _ e4⟩⟩
theorem scBody:aw ["reader","width","choices","body"] ["reader","width","choices"] (aj ig):=cI zk
theorem vV (F:Fun K "read_body" "read_body" ig f fd) (T:vj P w K mg base C) (Z:oB K mg aS aE aF t1 t2 t3 t4) (LF:Fn P w K mg base "read_leaf" 4 ["reader","width"] (oC C)):FnOk P w K mg base bY 5 f fd ["reader","width","choices"] (oE C):=by
 have ZZ:=scBody
 walk_at "o"
 ·obtain ⟨a,l,ts,k,me,wv,zw,n,rfl,hn,hR,h0,ew,h1,h2,q⟩:=h;refine ⟨_,ag (aI (bX (pv 0) (ac (aN (ac am ad)) ad)))
   (ag (bi (PW.pt (dj (ar dG (pv 2) (bJ (v:=.int 3) rfl Z.mc ⟨_,rfl⟩)) (cV (ar cB (bB (pv 0)) am)))) (ai bD) (ai (au (i:=3) scBody.nd rfl (Or.inl rfl) (aB LF hr rfl (ac (pv 0) (ac (pv 1) ad))))))
   (ag (aI (bX (pv 0) (ac (aN (ac am ad)) ad)))
   (ai (aA (pv 3))))),?_⟩
  obtain ⟨f1,fd1,M1,F1,B1⟩:=T.need;obtain ⟨f3,fd3,M3,F3,B3⟩:=T.look;obtain ⟨dx,ho⟩:=hR.ob;refine ⟨_,rfl,a,dx,C,f1,_,fd1,2,["self","words"],_,rfl,ho,rfl,T.cl,M1,F1,hr.m,B1,zlx,fun p1 n1=>?_⟩;have s1:=af (o:=.tup [.str "{"]) n1;refine ⟨a,l,ts,k,me,"{",p1,["{"],rfl,hR.same s1,h0,(.inr (SqT.of ae)),by simp,fun H1 r1 b1=>?_⟩;obtain ⟨dx1,ho1⟩:=r1.ob;refine ⟨_,rfl,_,_,rfl,rfl,_,rfl,bK (decide_eq_true zo) ?_⟩;refine ⟨_,rfl,a,dx1,C,f3,_,fd3,1,["self"],_,rfl,ho1,rfl,T.cl,M3,F3,hr.m,B3,a,l,ts,k+1,me,zw,rfl,r1,h1,rfl,_,rfl,bQ (by rcases ew with rfl|rfl<;>decide +kernel) ?_⟩;refine ⟨_,rfl,_,rfl,a,l,ts,k+1,me,wv,zw,rfl,r1,ew,h1,fun u H2 r2 b2 hu=>?_⟩;obtain ⟨dx2,ho2⟩:=r2.ob;refine ⟨_,rfl,a,dx2,C,f1,_,fd1,2,["self","words"],_,rfl,ho2,rfl,T.cl,M1,F1,hr.m,B1,zlx,fun p2 n2=>?_⟩;have s2:=af (o:=.tup [.str "}"]) n2;refine ⟨a,l,ts,k+2,me,"}",p2,["}"],rfl,r2.same s2,h2,(.inr (SqT.of ae)),by simp,fun H3 r3 b3=>?_⟩;refine ⟨_,rfl,q u H3 r3 ((((db s1).trans b1).trans b2).trans ((db s2).trans b3)) ((hu.kt (aW s2)).kt (b3.kt (s2 _ _ ho2)))⟩
theorem dP {α β:Type} {R:α->β->Prop} {x:α} {y:β} (h:R x y):∀ {xs:List α} {ys:List β},Paired R xs ys->Paired R (xs++[x]) (ys++[y])
 | _,_,.nil=>.cons h .nil
 | _,_,.cons a b=>.cons a (dP h b)
theorem bR {α β:Type} {R R':α->β->Prop} (f:∀ x y,R x y->R' x y):∀ {xs:List α} {ys:List β},Paired R xs ys->Paired R' xs ys
 | _,_,.nil=>.nil
 | _,_,.cons a b=>.cons (f _ _ a) (bR f b)
variable {xs ys:List V}
theorem tH (e:H l=some (.lst xs)):TupK H (aq H l (.lst ys)):=fun b us h=>by
 rw [ao]
 ·exact h
 ·rintro rfl;rw [e] at h;cases h
variable {x:Str×Str}
theorem FldV.kt {H H':Hp} (k:TupK H H') (h:FldV H u x):FldV H' u x:=let ⟨p,a,b⟩:=h;⟨p,a,k _ _ b⟩
def oF (ts:List Str) (k:Nat) (fs:List (Str×Str)):Prop:=∀ i (h:i < fs.length),(tz ts)[k+3*i]?=some fs[i].1/\NameS fs[i].1/\(tz ts)[k+3*i+1]?=some fs[i].2/\fs[i].2∈sortL/\(i+1 < fs.length->(tz ts)[k+3*i+2]?=some ",")
inductive jj (C:Addr) (vs:List V) (H:Hp) (Q:VK) (Z3:XK):Prop
 | mk (a l ts k me fs:_):vs=[.ref a]->RdO C H a l ts k me->(tz ts)[k]?=some "("->oF ts (k+1) fs->(tz ts)[k+1+(3*fs.length - 1)]?=some ")"->fs.length<=3->(∀ p us H',RdO C H' a l ts (k+2+(3*fs.length - 1)) me->ButO a H H'->H p=none->H' p=some (.tup us)->Paired (FldV H') us fs->Q (.ref p) H')->jj C vs H Q Z3
structure FI (C:Addr) (H:Hp) (a l:Addr) (ts:List Str) (k:Nat) (me:Bool) (fs:List (Str×Str)) (j:Nat) (lf:Addr) (H':Hp):Prop where
 rd:RdO C H' a l ts (k+(3*j - 1)) me
 bt:ButO a H H'
 nf:H lf=none
 la:lf≠a
 ll:lf≠l
 ls:∃ us,H' lf=some (.lst us)/\us.length=j/\Paired (FldV H') us (fs.take j)
theorem FI.more {k:Nat} {fs:List (Str×Str)} {j:Nat} {lf:Addr} {H3 H4:Hp} {p:Addr} {us:List V} (I:FI C H a l ts k me fs j lf H3) (hj:j < fs.length) (hk:TupK H3 H4) (e4:H4 lf=some (.lst us)) (hu:us.length=j) (hp:Paired (FldV H3) us (fs.take j))
  (r4:RdO C H4 a l ts (k+(3*(j+1) - 1)) me) (b4:ButO a H3 H4) (ep:H4 p=some (.tup [.str fs[j].1,.str fs[j].2])):FI C H a l ts k me fs (j+1) lf (aq H4 lf (.lst (us++[.ref p]))):=by
 have k2:=tH (ys:=us++[V.ref p]) e4;refine ⟨⟨?_,?_,r4.le⟩,?_,I.nf,I.la,I.ll,us++[.ref p],ae,by simp [hu],?_⟩
 ·obtain ⟨dx,ho⟩:=r4.ob;exact ⟨dx,by rw [ao I.la.symm];exact ho⟩
 ·rw [ao I.ll.symm];exact r4.tk
 ·intro b o e nb;by_cases h:b=lf
  ·rw [h,I.nf] at e;cases e
  ·rw [ao h];exact b4 _ _ (I.bt _ _ e nb) nb
 ·rw [Eu,D9 hj];exact dP ⟨p,rfl,k2 _ _ ep⟩ (bR (fun _ _ h=>(h.kt hk).kt k2) hp)
theorem scFields:aw ["reader","fields"] ["reader"] (aj ft):=cI zk
theorem qK (F:Fun K "read_fields" "read_fields" ft f fd) (T:vj P w K mg base C) (Z:oB K mg aS aE aF t1 t2 t3 t4) (B:Bl mg) (FL:Fn P w K mg base "read_field" 3 ["reader"] (kY C)):FnOk P w K mg base bY 4 f fd ["reader"] (jj C):=by
 have ZZ:=scFields
 walk_at "o"
 ·obtain ⟨a,l,ts,k,me,fs,rfl,hR,h0,hf,he,h3,q⟩:=h;have sz:(1000:Nat)<=sizeLine:=by decide
  refine ⟨_,ag (aI (bX (pv 0) (ac (aN (ac am ad)) ad)))
   (ag (au (i:=1) scFields.nd rfl (Or.inl rfl) (aP ad))
   (aM (fun σ H'=>∃ j lf,j=min 1 fs.length/\σ=[some (.ref a),some (.ref lf)]/\FI C H a l ts (k+1) me fs j lf H') (bi (ar jP (bB (pv 0)) am) (ai (aI (bZ DV DU DT aT (pv 1) (ac (aB FL hr rfl (ac (pv 0) ad)) ad)))) aL)
   (aM (fun σ H'=>∃ lf,σ=[some (.ref a),some (.ref lf)]/\FI C H a l ts (k+1) me fs fs.length lf H') (dY PassesOwn.never (PW.pt (dj (lZ dG dG ah (av ay (by rfl) B.len D3 (ac (pv 1) ad)) (bJ (v:=.int 3) rfl Z.mf ⟨_,rfl⟩)) (cV (ar cB (bB (pv 0)) am))))
    (ag (aI (bB (pv 0))) (ai (aI (bZ DV DU DT aT (pv 1) (ac (aB FL hr rfl (ac (pv 0) ad)) ad))))))
   (ag (aI (bX (pv 0) (ac (aN (ac am ad)) ad)))
   (ai (aA (aR bn (by rfl) B.tuple bo (ac (pv 1) ad)))))))),?_⟩
  obtain ⟨f1,fd1,M1,F1,B1⟩:=T.need;obtain ⟨f2,fd2,M2,F2,B2⟩:=T.take;obtain ⟨f3,fd3,M3,F3,B3⟩:=T.look;obtain ⟨dx,ho⟩:=hR.ob;refine ⟨_,rfl,a,dx,C,f1,_,fd1,2,["self","words"],_,rfl,ho,rfl,T.cl,M1,F1,hr.m,B1,zlx,fun p1 n1=>?_⟩;have s1:=af (o:=.tup [.str "("]) n1;refine ⟨a,l,ts,k,me,"(",p1,["("],rfl,hR.same s1,h0,(.inr (SqT.of ae)),by simp,fun H1 r1 b1=>?_⟩;have c1:ButO a H H1:=(db s1).trans b1;obtain ⟨dx1,ho1⟩:=r1.ob;refine ⟨zlx,fun lf nf=>?_⟩;have s2:=af (o:=.lst []) nf;have e2:(aq H1 lf (.lst [])) lf=some (.lst []):=ae;have nH:H lf=none:=fU c1 ho1 nf;have laN:lf≠a:=by
   rintro rfl;rw [nH] at ho;cases ho
  have llN:lf≠l:=fun z=>by
   have:=hR.tk;rw [<-z,nH] at this;cases this
  have I0:FI C H a l ts (k+1) me fs 0 lf (aq H1 lf (.lst [])):=⟨r1.same s2,c1.same s2,nH,laN,llN,[],e2,rfl,.nil⟩;generalize aq H1 lf (.lst ([]:List V))=H2 at *;refine ⟨?_,?_⟩
  ·rintro σ H3 ⟨j0,lf,hj0,rfl,I3⟩;refine ⟨?_,?_⟩
   ·rintro σ H4 ⟨lf,rfl,I4⟩;obtain ⟨us,e4,l4,p4⟩:=I4.ls;rw [Ew] at p4;obtain ⟨dx4,ho4⟩:=I4.rd.ob;refine ⟨_,rfl,a,dx4,C,f1,_,fd1,2,["self","words"],_,rfl,ho4,rfl,T.cl,M1,F1,hr.m,B1,zlx,fun p2 n2=>?_⟩;have s4:=af (o:=.tup [.str ")"]) n2;refine ⟨a,l,ts,_,me,")",p2,[")"],rfl,I4.rd.same s4,he,(.inr (SqT.of ae)),by simp,fun H5 r5 b5=>?_⟩;have e5:=b5 _ _ (s4 _ _ e4) I4.la;have k5:=(aW s4).trans (b5.kt (s4 _ _ ho4));obtain ⟨dx5,ho5⟩:=r5.ob;have c5:ButO a H H5:=(I4.bt.same s4).trans b5;refine ⟨_,rfl,lf,us,rfl,.inl ⟨SqL.of e5,fun p3 n3=>?_⟩⟩;have s6:=af (o:=.tup us) n3;refine q p3 us _ ?_ (c5.same s6) (fU c5 ho5 n3) ae (bR (fun _ _ h=>(h.kt k5).kt (aW s6)) p4);have:=r5.same s6;have ee:k+1+(3*fs.length - 1)+1=k+2+(3*fs.length - 1):=by omega
    rw [ee] at this;exact this
   ·refine ⟨fun m σ H'=>∃ j lf,m=fs.length - j/\j<=fs.length/\(0 < j\/fs.length=0)/\σ=[some (.ref a),some (.ref lf)]/\FI C H a l ts (k+1) me fs j lf H',⟨_,j0,lf,rfl,zo,zo,rfl,I3⟩,?_⟩;rintro m σ H5 ⟨j,lf,rfl,hj,hj1,rfl,I5⟩;obtain ⟨us,e5,l5,p5⟩:=I5.ls;obtain ⟨dx5,ho5⟩:=I5.rd.ob;have done:j=fs.length->∃ lf',[some (V.ref a),some (V.ref lf)]=[some (V.ref a),some (.ref lf')]/\FI C H a l ts (k+1) me fs fs.length lf' H5:=fun e=>⟨lf,rfl,e ▸ I5⟩;by_cases hj0':0 < j
    ·by_cases hlt:j < fs.length
     ·refine ⟨_,rfl,lf,_,rfl,.inl (SqL.of e5),_,_,rfl,rfl,_,rfl,bK (decide_eq_true (by rw [l5];omega)) ⟨_,_,rfl,rfl,_,rfl,bK (decide_eq_true (by rw [l5];omega)) ?_⟩⟩;obtain ⟨_,_,_,_,hcm⟩:=hf (j - 1) zo;have hcm':(tz ts)[k+1+(3*j - 1)]?=some ",":=by
       have:=hcm zo;rw [show k+1+3*(j - 1)+2=k+1+(3*j - 1) by omega] at this;exact this
      refine ⟨_,rfl,a,dx5,C,f3,_,fd3,1,["self"],_,rfl,ho5,rfl,T.cl,M3,F3,hr.m,B3,a,l,ts,_,me,",",rfl,I5.rd,hcm',rfl,_,rfl,bK zk ?_⟩;refine ⟨fun σ' H'=>σ'=[some (.ref a),some (.ref lf)]/\FI C H a l ts (k+1) me fs (j+1) lf H',fun σ' H' ⟨e1,e2⟩=>⟨_,zo,j+1,lf,rfl,zo,zo,e1,e2⟩,?_⟩;refine ⟨_,rfl,a,dx5,C,f2,_,fd2,1,["self"],_,rfl,ho5,rfl,T.cl,M2,F2,hr.m,B2,a,l,ts,_,me,",",rfl,I5.rd,hcm',fun H6 r6 b6=>?_⟩;obtain ⟨dx6,ho6⟩:=r6.ob;have e6:=b6 _ _ e5 I5.la;obtain ⟨g1,g2,g3,g4,_⟩:=hf j hlt;have ek:k+1+(3*j - 1)+1=k+1+3*j:=by omega
      rw [ek] at r6;refine ⟨_,rfl,.inl ⟨rfl,_,SqL.of e6⟩,_,rfl,a,l,ts,_,me,fs[j],rfl,r6,g1,g2,g3,g4,fun p H7 r7 b7 np ep=>?_⟩;have e7:=b7 _ _ e6 I5.la;have ek2:k+1+3*j+2=k+1+(3*(j+1) - 1):=by omega
      rw [ek2] at r7;exact ⟨lf,us,_,rfl,rfl,e7,by rw [l5];omega,rfl,I5.more hlt ((b6.kt ho5).trans (b7.kt ho6)) e7 l5 p5 r7 (b6.trans b7) ep⟩
     ·have hje:j=fs.length:=by omega
      have he':(tz ts)[k+1+(3*j - 1)]?=some ")":=by rw [hje];exact he
      by_cases h3':j < 3
      ·refine ⟨_,rfl,lf,_,rfl,.inl (SqL.of e5),_,_,rfl,rfl,_,rfl,bK (decide_eq_true (by rw [l5];omega)) ⟨_,_,rfl,rfl,_,rfl,bK (decide_eq_true (by rw [l5];omega)) ?_⟩⟩;refine ⟨_,rfl,a,dx5,C,f3,_,fd3,1,["self"],_,rfl,ho5,rfl,T.cl,M3,F3,hr.m,B3,a,l,ts,_,me,")",rfl,I5.rd,he',rfl,_,rfl,bQ zk (done hje)⟩
      ·refine ⟨_,rfl,lf,_,rfl,.inl (SqL.of e5),_,_,rfl,rfl,_,rfl,bK (decide_eq_true (by rw [l5];omega)) ⟨_,_,rfl,rfl,_,rfl,bQ (decide_eq_false (by rw [l5];omega)) (bP (done hje))⟩⟩
    ·have hje:j=fs.length:=by omega
     refine ⟨_,rfl,lf,_,rfl,.inl (SqL.of e5),_,_,rfl,rfl,_,rfl,bQ (decide_eq_false (by rw [l5];omega)) ⟨_,rfl,bP (bP (done hje))⟩⟩
  ·obtain ⟨dx2,ho2⟩:=I0.rd.ob;by_cases hz:0 < fs.length
   ·obtain ⟨g1,g2,g3,g4,_⟩:=hf 0 hz;have nsc:fs[0].1≠(")":Str):=by
     intro z;obtain ⟨_,_,_,hc⟩:=g2;rw [z] at hc;exact absurd (hc 41 zk) zo
    refine ⟨_,rfl,a,dx2,C,f3,_,fd3,1,["self"],_,rfl,ho2,rfl,T.cl,M3,F3,hr.m,B3,a,l,ts,_,me,fs[0].1,rfl,I0.rd,g1,rfl,_,rfl,bK (by simpa using nsc) ?_⟩;refine ⟨_,rfl,.inl ⟨rfl,_,SqL.of e2⟩,_,rfl,a,l,ts,_,me,fs[0],rfl,I0.rd,g1,g2,g3,g4,fun p H7 r7 b7 np ep=>?_⟩;have e7:=b7 _ _ e2 I0.la;exact ⟨lf,[],_,rfl,rfl,e7,by show 0 < sizeLine;decide,1,lf,zo,rfl,I0.more hz (b7.kt ho2) e7 rfl .nil r7 b7 ep⟩
   ·have hz0:fs.length=0:=by omega
    have he':(tz ts)[k+1+(3*0 - 1)]?=some ")":=by rw [hz0] at he;exact he
    refine ⟨_,rfl,a,dx2,C,f3,_,fd3,1,["self"],_,rfl,ho2,rfl,T.cl,M3,F3,hr.m,B3,a,l,ts,_,me,")",rfl,I0.rd,he',rfl,_,rfl,bQ (by simp) ?_⟩;exact ⟨0,lf,zo,rfl,I0⟩
structure Kn where
 name:Str
 fs:List (Str×Str)
inductive KindV (H:Hp) (u:V) (x:Kn):Prop
 | mk (p tf b us:_):u=.ref p->H p=some (.tup [.str x.name,.ref tf,b])->H tf=some (.tup us)->Paired (FldV H) us x.fs->LeafV H b->KindV H u x
theorem KindV.kt {H H':Hp} (k:TupK H H') {x:Kn} (h:KindV H u x):KindV H' u x:=let ⟨p,tf,b,us,a,c,d,e,f⟩:=h;⟨p,tf,b,us,a,k _ _ c,k _ _ d,bR (fun _ _ h=>h.kt k) e,f.kt k⟩
def qL (x:Kn):Nat:=7+(3*x.fs.length - 1)
structure oG (ts:List Str) (k:Nat) (x:Kn):Prop where
 t0:(tz ts)[k]?=some "kind"
 t1:(tz ts)[k+1]?=some x.name
 nm:NameS x.name
 t2:(tz ts)[k+2]?=some "("
 fl:oF ts (k+3) x.fs
 t3:(tz ts)[k+3+(3*x.fs.length - 1)]?=some ")"
 le:x.fs.length<=3
 t4:(tz ts)[k+4+(3*x.fs.length - 1)]?=some "{"
 t5:∃ zw,EW zw/\(tz ts)[k+5+(3*x.fs.length - 1)]?=some zw
 t6:(tz ts)[k+6+(3*x.fs.length - 1)]?=some "}"
inductive oH (C:Addr) (vs:List V) (H:Hp) (Q:VK) (Z3:XK):Prop
 | mk (a l ts k me wv x:_):vs=[.ref a,wv]->RdO C H a l ts k me->oG ts k x->(∀ u H',RdO C H' a l ts (k+qL x) me->ButO a H H'->KindV H' u x->Q u H')->oH C vs H Q Z3
theorem scKind:aw ["reader","width","name","fields"] ["reader","width"] (aj ie):=cI zk
theorem vW (F:Fun K "read_kind" "read_kind" ie f fd) (T:vj P w K mg base C) (FS:Fn P w K mg base "read_fields" 4 ["reader"] (jj C)) (BD:Fn P w K mg base "read_body" 5 ["reader","width","choices"] (oE C)):FnOk P w K mg base bY 6 f fd ["reader","width"] (oH C):=by
 have ZZ:=scKind
 walk_at "o"
 ·obtain ⟨a,l,ts,k,me,wv,x,rfl,hR,hK,q⟩:=h;refine ⟨_,ag (aI (bX (pv 0) (ac (aN (ac am ad)) ad)))
   (ag (au (i:=2) scKind.nd rfl (Or.inl rfl) (bB (pv 0)))
   (ag (au (i:=3) scKind.nd rfl (Or.inl rfl) (aB FS hr.m rfl (ac (pv 0) ad)))
   (ai (aA (aN (ac (pv 2) (ac (pv 3) (ac (aB BD hr rfl (ac (pv 0) (ac (pv 1) (ac ah ad)))) ad)))))))),?_⟩
  obtain ⟨f1,fd1,M1,F1,B1⟩:=T.need;obtain ⟨f2,fd2,M2,F2,B2⟩:=T.nname;obtain ⟨dx,ho⟩:=hR.ob;refine ⟨_,rfl,a,dx,C,f1,_,fd1,2,["self","words"],_,rfl,ho,rfl,T.cl,M1,F1,hr.m,B1,zlx,fun p1 n1=>?_⟩;have s1:=af (o:=.tup [.str "kind"]) n1;refine ⟨a,l,ts,k,me,"kind",p1,["kind"],rfl,hR.same s1,hK.t0,(.inr (SqT.of ae)),by simp,fun H1 r1 b1=>?_⟩;obtain ⟨dx1,ho1⟩:=r1.ob;refine ⟨_,rfl,a,dx1,C,f2,_,fd2,2,["self"],_,rfl,ho1,rfl,T.cl,M2,F2,hr.m,B2,a,l,ts,k+1,me,x.name,rfl,r1,hK.t1,hK.nm,fun H2 r2 b2=>?_⟩;refine ⟨_,rfl,a,l,ts,k+2,me,x.fs,rfl,r2,hK.t2,hK.fl,hK.t3,hK.le,fun tf us H3 r3 b3 nf e3 p3=>?_⟩;obtain ⟨dx3,ho3⟩:=r3.ob;have ek:k+2+2+(3*x.fs.length - 1)=k+4+(3*x.fs.length - 1):=by omega
  rw [ek] at r3;obtain ⟨zw,ew,hz5⟩:=hK.t5;have u5:(tz ts)[k+4+(3*x.fs.length - 1)+1]?=some zw:=by rw [show k+4+(3*x.fs.length - 1)+1=k+5+(3*x.fs.length - 1) by omega];exact hz5
  have u6:(tz ts)[k+4+(3*x.fs.length - 1)+2]?=some "}":=by rw [show k+4+(3*x.fs.length - 1)+2=k+6+(3*x.fs.length - 1) by omega];exact hK.t6
  refine ⟨_,rfl,_,rfl,_,rfl,_,rfl,a,l,ts,k+4+(3*x.fs.length - 1),me,wv,zw,0,rfl,zd,r3,hK.t4,ew,u5,u6,fun u H4 r4 b4 hu=>⟨zlx,fun pt npt=>?_⟩⟩;have s5:=af (o:=.tup [.str x.name,.ref tf,u]) npt;have k4:=b4.kt ho3;have r5:=r4.same s5;rw [show k+4+(3*x.fs.length - 1)+3=k+qL x by unfold qL;omega] at r5;exact q _ _ r5 ((((((db s1).trans b1).trans b2).trans b3).trans b4).same s5) ⟨pt,tf,u,us,rfl,ae,s5 _ _ (k4 _ _ e3),bR (fun _ _ h=>(h.kt k4).kt (aW s5)) p3,hu.kt (aW s5)⟩
abbrev oJ:Stmt:=cy (cG 51) 0
inductive kZ (C:Addr) (vs:List V) (H:Hp) (Q:VK) (Z3:XK):Prop
 | mk (x dx lt ts:_):vs=[.ref x,.ref lt]->H x=some (.ins C dx [])->H lt=some (.lst (ak ts))->ts.length<=1500->(∀ l H',RdO C H' x l ts 0 true->ButO x H H'->Q .non H')->kZ C vs H Q Z3
theorem vX:aw ["self","tokens"] ["self","tokens"] (aj oJ):=cI zk
theorem vY (h:xs.length<=1500):cC xs none (some 1500)=xs:=by
 have e1:HT.sIx xs.length 0 none=0:=rfl;have e2:HT.sIx xs.length xs.length (some 1500)=xs.length:=by
  simp only [HT.sIx];rw [if_neg zd];show min 1500 xs.length=xs.length;omega
 unfold cC;rw [e1,e2];simp
theorem tI (F:Fun K "__init__" "Reader.__init__" oJ f fd) (T:Rc K C) (B:Bl mg) (hm:mg "MOST_TOKENS"=some (.int 1500 t5)):FnOk P w K mg base bY 1 f fd ["self","tokens"] (kZ C):=by
 have ZZ:=vX
 walk_at "o"
 ·obtain ⟨x,dx,lt,ts,rfl,hx,hl,h15,q⟩:=h;refine ⟨_,ag (cO (pv 0) (aG cj (br bV (pv 1) bM (bv (bJ (v:=.int 1500) rfl hm ⟨_,rfl⟩))) (aP (ac am ad))) rfl)
   (ag (cO (pv 0) ah rfl) (ai (cO (pv 0) (cH gJ (av ay (by rfl) B.len D3 (ac (pv 1) ad)) (bJ (v:=.int 1500) rfl hm ⟨_,rfl⟩)) rfl))),?_⟩
  have lv:(ak ts).length<=1500:=by unfold ak;rw [DI];exact h15
  have sz:(10000:Nat)<=sizeLine:=by decide
  refine ⟨_,rfl,_,rfl,lt,_,rfl,SqL.of hl,fun p1 n1=>?_⟩;rw [vY lv];generalize zz:aq H p1 _=H1;have ⟨s1,e1⟩:=nw n1 zz;clear zz;refine ⟨zlx,fun p2 n2=>?_⟩;have s2:=af (o:=.lst [.str ""]) n2;have s12:=s1.trans s2;refine ⟨p1,p2,_,_,rfl,rfl,s2 _ _ e1,ae,by show _+1<=_;omega,fun l nl=>?_⟩;have s3:=af (o:=.lst (ak ts++[.str ""])) nl;have s13:=s12.trans s3;have el:(aq (aq H1 p2 (.lst [.str ""])) l (.lst (ak ts++[.str ""]))) l=some (.lst (ak (ts++[("":Str)]))):=by
   rw [ae];unfold ak;rw [DP];rfl
  have nlH:H l=none:=s12.free nl;generalize aq (aq H1 p2 (.lst [V.str ""])) l (.lst (ak ts++[V.str ""]))=H3 at *;have lx:l≠x:=by
   rintro rfl;rw [nlH] at hx;cases hx
  have ltx:lt≠x:=by
   rintro rfl;rw [hl] at hx;cases hx
  refine ⟨_,rfl,x,C,dx,_,rfl,s13 _ _ hx,T.cl,T.n1,(by show 0 < 1000;decide),?_⟩;refine ⟨_,rfl,x,C,dx,_,rfl,ae,T.cl,T.n2,(by show 1 < 1000;decide),?_⟩;have hl3:(aq (aq H3 x (.ins C dx (aH "tokens" (.ref l) []))) x (.ins C dx (aH "spot" (.int 0) (aH "tokens" (.ref l) [])))) lt=some (.lst (ak ts)):=by rw [ao ltx,ao ltx];exact s13 _ _ hl
  refine ⟨_,rfl,lt,_,rfl,.inl (SqL.of hl3),_,_,rfl,rfl,?_⟩;refine ⟨_,rfl,x,C,dx,_,rfl,ae,T.cl,T.n3,(by show 2 < 1000;decide),?_⟩;have hd:decide (((ak ts).length:Int)<=1500)=true:=decide_eq_true zo;have eF:(aH "may_end" (.bl (decide (((ak ts).length:Int)<=1500))) (aH "spot" (.int 0) (aH "tokens" (.ref l) [])))=vi l 0 true:=by rw [hd];rfl
  refine q l _ ⟨⟨dx,?_⟩,?_,h15⟩ ?_
  ·rw [ae];exact congrArg some (congrArg (HO.ins C dx) eF)
  ·rw [ao lx,ao lx,ao lx];exact el
  ·intro b o e nb;rw [ao nb,ao nb,ao nb];exact s13 _ _ e
structure Fm where
 width:Nat
 cells:Nat
 depth:Nat
 places:List Str
 marks:List Str
 gates:List Str
 kinds:List Kn
def iO (ts:List Str):Nat->List Kn->Prop
 | k,[]=>k=ts.length
 | k,x::r=>oG ts k x/\iO ts (k+qL x) r
structure k7 (ts:List Str) (D:Fm):Prop where
 a0:(tz ts)[0]?=some ("word":Str)
 a1:(tz ts)[1]?=some (toString (D.width:Int):Str)
 a2:(tz ts)[2]?=some (";":Str)
 a3:(tz ts)[3]?=some ("cells":Str)
 a4:(tz ts)[4]?=some (toString (D.cells:Int):Str)
 a5:(tz ts)[5]?=some (";":Str)
 a6:(tz ts)[6]?=some ("depth":Str)
 a7:(tz ts)[7]?=some (toString (D.depth:Int):Str)
 a8:(tz ts)[8]?=some (";":Str)
 a9:(tz ts)[9]?=some ("places":Str)
 pn:mT ts 10 D.places
 pe:(tz ts)[10+D.places.length]?=some (";":Str)
 m9:(tz ts)[11+D.places.length]?=some ("marks":Str)
 mn:mT ts (12+D.places.length) D.marks
 me:(tz ts)[12+D.places.length+D.marks.length]?=some (";":Str)
 g9:(tz ts)[13+D.places.length+D.marks.length]?=some ("gate":Str)
 gn:mT ts (14+D.places.length+D.marks.length) D.gates
 ge:(tz ts)[14+D.places.length+D.marks.length+D.gates.length]?=some (";":Str)
 ks:iO ts (15+D.places.length+D.marks.length+D.gates.length) D.kinds
 bw:4<=D.width/\D.width<=24
 bc:4<=D.cells/\D.cells<=64
 bd:D.depth<=8
 bp:1<=D.places.length/\D.places.length<=4
 bm:D.marks.length<=3
 bg:D.gates.length<=1
 bk:1<=D.kinds.length/\D.kinds.length<=8
inductive tJ (H:Hp) (u:V) (D:Fm):Prop
 | mk (p pp pm pg pk us:_):u=.ref p->H p=some (.tup [.int D.width,.int D.cells,.int D.depth,.ref pp,.ref pm,.ref pg,.ref pk])->H pp=some (.tup (ak D.places))->H pm=some (.tup (ak D.marks))->H pg=some (.tup (ak D.gates))->H pk=some (.tup us)->Paired (KindV H) us D.kinds->tJ H u D
inductive oK (vs:List V) (H:Hp) (Q:VK) (Z3:XK):Prop
 | mk (lt ts D:_):vs=[.ref lt]->H lt=some (.lst (ak ts))->ts.length<=1500->k7 ts D->(∀ u H',Same H H'->tJ H' u D->Q u H')->oK vs H Q Z3
theorem du {H Hc H':Hp} (na:H a=none) (sc:Same H Hc) (b:ButO a Hc H'):Same H H':=fun c o e=>b c o (sc c o e) (ap e na)
structure KI (C:Addr) (Hc:Hp) (a l:Addr) (ts:List Str) (all done rest:List Kn) (lk pp pm pg:Addr) (D:Fm) (H':Hp):Prop where
 sp:all=done++rest
 rd:∃ k,RdO C H' a l ts k true/\iO ts k rest
 bt:ButO a Hc H'
 nk:Hc lk=none
 la:lk≠a
 ll:lk≠l
 ep:H' pp=some (.tup (ak D.places))
 em:H' pm=some (.tup (ak D.marks))
 eg:H' pg=some (.tup (ak D.gates))
 ls:∃ us,H' lk=some (.lst us)/\us.length=done.length/\Paired (KindV H') us done
theorem scForm:aw ["tokens","reader","width","cells","depth","places","marks","gates","kinds"] ["tokens"] (aj ic):=cI zk
theorem vZ {fdi:FuncData} (F:Fun K "read_form" "read_form" ic f fd) (T:vj P w K mg base C) (Z:oB K mg aS aE aF t1 t2 t3 t4) (B:Bl mg) (MK:Mk K C fi) (mgR:mg "Reader"=some (.ref C)) (IN:FnOk P w K mg base bY 1 fi fdi ["self","tokens"] (kZ C)) (bI:Binds K fdi ["self","tokens"] [])
  (BO:Fn P w K mg base "read_bounded" 4 ["reader","word","low","high"] (io C)) (NA:Fn P w K mg base "read_names" 3 ["reader","word","least","most"] (kX C)) (KD:Fn P w K mg base "read_kind" 6 ["reader","width"] (oH C)):FnOk P w K mg base bY 7 f fd ["tokens"] oK:=by
 have ZZ:=scForm
 walk_at "o"
 ·obtain ⟨lt,ts,D,rfl,hl,h15,hF,q⟩:=h;have sz:(10000:Nat)<=sizeLine:=by decide
  refine ⟨_,ag (au (i:=1) scForm.nd rfl (Or.inl rfl) (kB MK IN hr.m rfl mgR bI .nil dL (ac (pv 0) ad)))
   (ag (au (i:=2) scForm.nd rfl (Or.inl rfl) (aB BO hr.m rfl (ac (pv 1) (ac am (ac ah (ac ah ad))))))
   (ag (au (i:=3) scForm.nd rfl (Or.inl rfl) (aB BO hr.m rfl (ac (pv 1) (ac am (ac ah (ac ah ad))))))
   (ag (au (i:=4) scForm.nd rfl (Or.inl rfl) (aB BO hr.m rfl (ac (pv 1) (ac am (ac ah (ac ah ad))))))
   (ag (au (i:=5) scForm.nd rfl (Or.inl rfl) (aB NA hr.m rfl (ac (pv 1) (ac am (ac ah (ac ah ad))))))
   (ag (au (i:=6) scForm.nd rfl (Or.inl rfl) (aB NA hr.m rfl (ac (pv 1) (ac am (ac ah (ac ah ad))))))
   (ag (au (i:=7) scForm.nd rfl (Or.inl rfl) (aB NA hr.m rfl (ac (pv 1) (ac am (ac ah (ac ah ad))))))
   (ag (au (i:=8) scForm.nd rfl (Or.inl rfl) (aP (ac (aB KD hr rfl (ac (pv 1) (ac (pv 2) ad))) ad)))
   (ag (dY PassesOwn.never (PW.pt (dj (ar dG (av ay (by rfl) B.len D3 (ac (pv 8) ad)) (bJ (v:=.int 8) rfl Z.mkn ⟨_,rfl⟩)) (cV (ar cB (bB (pv 1)) am))))
    (ai (aI (bZ DV DU DT aT (pv 8) (ac (aB KD hr rfl (ac (pv 1) (ac (pv 2) ad))) ad)))))
   (ag (aI (bB (pv 1)))
   (ai (aA (aN (ac (pv 2) (ac (pv 3) (ac (pv 4) (ac (pv 5) (ac (pv 6) (ac (pv 7) (ac (aR bn (by rfl) B.tuple bo (ac (pv 8) ad)) ad))))))))))))))))))),?_⟩
  obtain ⟨f3,fd3,M3,F3,B3⟩:=T.look;obtain ⟨f4,fd4,M4,F4,B4⟩:=T.nend;refine ⟨_,rfl,fun a dx na nd ne=>⟨a,dx,lt,ts,rfl,ae,?_,h15,fun l H1 r1 b1=>⟨rfl,?_⟩⟩⟩
  ·exact (aU na (af nd)) _ _ hl
  have s1:Same H H1:=du na (aU na (af nd)) b1;have naH:=na;clear b1;refine ⟨_,rfl,a,l,ts,0,true,"word",D.width,4,24,rfl,r1,hF.a0,hF.a1,hF.a2,by have:=hF.bw;omega,hF.bw.1,hF.bw.2,fun H2 r2 b2=>?_⟩;refine ⟨_,rfl,a,l,ts,3,true,"cells",D.cells,4,64,rfl,r2,hF.a3,hF.a4,hF.a5,by have:=hF.bc;omega,hF.bc.1,hF.bc.2,fun H3 r3 b3=>?_⟩;refine ⟨_,rfl,a,l,ts,6,true,"depth",D.depth,0,8,rfl,r3,hF.a6,hF.a7,hF.a8,by have:=hF.bd;omega,Ej _,hF.bd,fun H4 r4 b4=>?_⟩;have b14:=(b2.trans b3).trans b4;refine ⟨_,rfl,a,l,ts,9,true,"places",D.places,1,4,rfl,r4,hF.a9,hF.pn,hF.pe,hF.bp.1,hF.bp.2,zd,fun pp H5 r5 b5 np5 e5=>?_⟩;refine ⟨_,rfl,a,l,ts,9+2+D.places.length,true,"marks",D.marks,0,3,rfl,r5,?_,?_,?_,Ej _,hF.bm,zd,fun pm H6 r6 b6 np6 e6=>?_⟩
  ·exact hF.m9
  ·rw [show 9+2+D.places.length+1=12+D.places.length by omega];exact hF.mn
  ·rw [show 9+2+D.places.length+1+D.marks.length=12+D.places.length+D.marks.length by omega];exact hF.me
  obtain ⟨dx5,ho5⟩:=r5.ob;have e5':=(b6.kt ho5) _ _ e5;refine ⟨_,rfl,a,l,ts,9+2+D.places.length+2+D.marks.length,true,"gate",D.gates,0,1,rfl,r6,?_,?_,?_,Ej _,hF.bg,zd,fun pg H7 r7 b7 np7 e7=>?_⟩
  ·rw [show 9+2+D.places.length+2+D.marks.length=13+D.places.length+D.marks.length by omega];exact hF.g9
  ·rw [show 9+2+D.places.length+2+D.marks.length+1=14+D.places.length+D.marks.length by omega];exact hF.gn
  ·rw [show 9+2+D.places.length+2+D.marks.length+1+D.gates.length=14+D.places.length+D.marks.length+D.gates.length by omega];exact hF.ge
  obtain ⟨dx6,ho6⟩:=r6.ob;have e5'':=(b7.kt ho6) _ _ e5';have e6':=(b7.kt ho6) _ _ e6;rw [show 9+2+D.places.length+2+D.marks.length+2+D.gates.length=15+D.places.length+D.marks.length+D.gates.length by omega] at r7;have b17:ButO a H1 H7:=((b14.trans b5).trans b6).trans b7;have hks:=hF.ks;have hbk:=hF.bk;generalize 15+D.places.length+D.marks.length+D.gates.length=k0 at *;obtain ⟨x0,rest0,hk0⟩:∃ x r,D.kinds=x::r:=by
   cases hh:D.kinds with
   | nil=>rw [hh] at hbk;simp at hbk
   | cons x r=>exact ⟨x,r,rfl⟩
  rw [hk0] at hks hbk;obtain ⟨hK0,hks'⟩:=hks;refine ⟨_,rfl,_,rfl,a,l,ts,k0,true,.int D.width,x0,rfl,r7,hK0,fun u0 H8 r8 b8 hu0=>?_⟩;obtain ⟨dx7,ho7⟩:=r7.ob;have kk8:=b8.kt ho7;refine ⟨zlx,fun lk nk=>?_⟩;have s9:=af (o:=.lst [u0]) nk;have b19:ButO a H1 (aq H8 lk (.lst [u0])):=(b17.trans b8).same s9;obtain ⟨dx8,ho8⟩:=r8.ob;obtain ⟨dx1,ho1⟩:=r1.ob;have nkH1:H1 lk=none:=fU (b17.trans b8) ho8 nk;have lka:lk≠a:=by
   rintro rfl;rw [ho8] at nk;cases nk
  have lkl:lk≠l:=fun z=>by
   have:=r8.tk;rw [<-z,nk] at this;cases this
  have I0:KI C H1 a l ts D.kinds [x0] rest0 lk pp pm pg D (aq H8 lk (.lst [u0])):=⟨hk0,⟨_,r8.same s9,hks'⟩,b19,nkH1,lka,lkl,s9 _ _ (kk8 _ _ e5''),s9 _ _ (kk8 _ _ e6'),s9 _ _ (kk8 _ _ e7),[u0],ae,rfl,.cons (hu0.kt (aW s9)) .nil⟩;generalize aq H8 lk (.lst [u0])=H9 at *;refine ⟨fun m σ H'=>∃ done rest,m=rest.length/\σ=[some (.ref lt),some (.ref a),some (.int D.width),some (.int D.cells),some (.int D.depth),some (.ref pp),some (.ref pm),some (.ref pg),some (.ref lk)]/\KI C H1 a l ts D.kinds done rest lk pp pm pg D H',⟨_,[x0],rest0,rfl,rfl,I0⟩,?_⟩;rintro m σ Ha ⟨done,rest,rfl,rfl,I⟩;obtain ⟨us,ek,lu,pu⟩:=I.ls;obtain ⟨k,rk,hkr⟩:=I.rd;obtain ⟨dxa,hoa⟩:=rk.ob;have hall:done.length+rest.length<=8:=by
   have:=congrArg List.length I.sp;rw [DL,hk0] at this;simp only [DQ] at this hbk;omega
  cases rest with
  | cons x r=>
   obtain ⟨hKx,hkr'⟩:=hkr;have hlt:done.length < 8:=by simp only [DQ] at hall;omega
   refine ⟨_,rfl,lk,_,rfl,.inl (SqL.of ek),_,_,rfl,rfl,_,rfl,bK (decide_eq_true (by rw [lu];omega)) ?_⟩;refine ⟨_,rfl,a,dxa,C,f3,_,fd3,1,["self"],_,rfl,hoa,rfl,T.cl,M3,F3,hr.m,B3,a,l,ts,k,true,"kind",rfl,rk,hKx.t0,rfl,_,rfl,bK zk ?_⟩;refine ⟨fun σ' H'=>σ'=[some (.ref lt),some (.ref a),some (.int D.width),some (.int D.cells),some (.int D.depth),some (.ref pp),some (.ref pm),some (.ref pg),some (.ref lk)]/\KI C H1 a l ts D.kinds (done++[x]) r lk pp pm pg D H',fun σ' H' ⟨e1,e2⟩=>⟨r.length,by simp,done++[x],r,rfl,e1,e2⟩,?_⟩;refine ⟨_,rfl,.inl ⟨rfl,_,SqL.of ek⟩,_,rfl,_,rfl,a,l,ts,k,true,.int D.width,x,rfl,rk,hKx,fun u Hb rb bb hu=>?_⟩;have kb:=bb.kt hoa;have eb:=bb _ _ ek I.la;have k2:=tH (ys:=us++[u]) eb;refine ⟨lk,us,_,rfl,rfl,eb,by rw [lu];omega,rfl,?_⟩;refine ⟨by rw [I.sp,En];rfl,⟨_,⟨?_,?_,rb.le⟩,hkr'⟩,?_,I.nk,I.la,I.ll,k2 _ _ (kb _ _ I.ep),k2 _ _ (kb _ _ I.em),k2 _ _ (kb _ _ I.eg),us++[u],ae,by simp [lu],dP (hu.kt k2) (bR (fun _ _ h=>(h.kt kb).kt k2) pu)⟩
   ·obtain ⟨dxb,hob⟩:=rb.ob;exact ⟨dxb,by rw [ao I.la.symm];exact hob⟩
   ·rw [ao I.ll.symm];exact rb.tk
   ·intro b o e nb;by_cases h:b=lk
    ·rw [h,I.nk] at e;cases e
    ·rw [ao h];exact bb _ _ (I.bt _ _ e nb) nb
  | nil=>
   have hkE:k=ts.length:=hkr;have hdone:D.kinds=done:=by rw [I.sp,El]
   have lend:(tz ts)[k]?=some "":=by rw [hkE];simp [tz]
   have nke:("":Str)≠("kind":Str):=by decide +kernel
   have sH:Same H Ha:=du naH s1 I.bt;by_cases h8:done.length < 8
   ·refine ⟨_,rfl,lk,_,rfl,.inl (SqL.of ek),_,_,rfl,rfl,_,rfl,bK (decide_eq_true (by rw [lu];omega)) ?_⟩;refine ⟨_,rfl,a,dxa,C,f3,_,fd3,1,["self"],_,rfl,hoa,rfl,T.cl,M3,F3,hr.m,B3,a,l,ts,k,true,"",rfl,rk,lend,rfl,_,rfl,bQ zk ?_⟩;refine ⟨_,rfl,a,dxa,C,f4,_,fd4,1,["self"],_,rfl,hoa,rfl,T.cl,M4,F4,hr.m,B4,a,l,ts,k,rfl,rk,hkE,?_⟩;refine ⟨_,rfl,_,rfl,_,rfl,_,rfl,_,rfl,_,rfl,_,rfl,lk,us,rfl,.inl ⟨SqL.of ek,fun pk npk=>⟨zlx,fun pt npt=>?_⟩⟩⟩;have s10:=af (o:=.tup us) npk;have s11:=af (o:=.tup [.int D.width,.int D.cells,.int D.depth,.ref pp,.ref pm,.ref pg,.ref pk]) npt;have s12:=s10.trans s11;exact q _ _ (sH.trans s12) ⟨pt,pp,pm,pg,pk,us,rfl,ae,s12 _ _ I.ep,s12 _ _ I.em,s12 _ _ I.eg,s11 _ _ ae,by rw [hdone];exact bR (fun _ _ h=>h.kt (aW s12)) pu⟩
   ·refine ⟨_,rfl,lk,_,rfl,.inl (SqL.of ek),_,_,rfl,rfl,_,rfl,bQ (decide_eq_false (by rw [lu];omega)) (bP ?_)⟩;refine ⟨_,rfl,a,dxa,C,f4,_,fd4,1,["self"],_,rfl,hoa,rfl,T.cl,M4,F4,hr.m,B4,a,l,ts,k,rfl,rk,hkE,?_⟩;refine ⟨_,rfl,_,rfl,_,rfl,_,rfl,_,rfl,_,rfl,_,rfl,lk,us,rfl,.inl ⟨SqL.of ek,fun pk npk=>⟨zlx,fun pt npt=>?_⟩⟩⟩;have s10:=af (o:=.tup us) npk;have s11:=af (o:=.tup [.int D.width,.int D.cells,.int D.depth,.ref pp,.ref pm,.ref pg,.ref pk]) npt;have s12:=s10.trans s11;exact q _ _ (sH.trans s12) ⟨pt,pp,pm,pg,pk,us,rfl,ae,s12 _ _ I.ep,s12 _ _ I.em,s12 _ _ I.eg,s11 _ _ ae,by rw [hdone];exact bR (fun _ _ h=>h.kt (aW s12)) pu⟩
def KvR (H:Hp) (kv:bT×V) (x:Str×Str):Prop:=kv.1=Sum.inr x.1/\∃ p sl,kv.2=.ref p/\H p=some (.tup [.str x.2,sl])
inductive NmI (H:Hp) (d:Addr) (ks:List (Str×Str)):Prop
 | mk (kvs:_):H d=some (.dK kvs)->Paired (KvR H) kvs ks->NmI H d ks
theorem KvR.kt {H H':Hp} (k:TupK H H') {kv:bT×V} (h:KvR H kv x):KvR H' kv x:=let ⟨a,p,sl,b,c⟩:=h;⟨a,p,sl,b,k _ _ c⟩
theorem xE {xs ys:List (bT×V)} (e:H l=some (.dK xs)):TupK H (aq H l (.dK ys)):=fun b us h=>by
 rw [ao]
 ·exact h
 ·rintro rfl;rw [e] at h;cases h
theorem tK:∀ {kvs:List (bT×V)} {ks:List (Str×Str)},Paired (KvR H) kvs ks->∀ {z:Str},z∉ks.map (·.1)->bq kvs (Sum.inr z)=none
 | _,_,.nil,_,_=>mB
 | _,_,.cons (a:=kv) (b:=x) h t,z,hz=>by
  rw [bG]
  ·exact tK t (fun m=>hz (DR _ m))
  ·intro e;rw [h.1] at e;have:=Sum.inr.inj e;exact hz (by rw [D6,this];exact DM)
theorem pQ:∀ {kvs:List (bT×V)} {ks:List (Str×Str)},Paired (KvR H) kvs ks->∀ {z s:Str},(z,s)∈ks->(ks.map (·.1)).Nodup->∃ p sl,bq kvs (Sum.inr z)=some (.ref p)/\H p=some (.tup [.str s,sl])
 | _,_,.nil,_,_,m,_=>by cases m
 | _,_,.cons (a:=kv) (b:=x) h t,z,s,m,nd=>by
  rw [D6,EL] at nd;rcases DY.mp m with e|m'
  ·obtain ⟨e1,p,sl,e2,e3⟩:=h;subst e;refine ⟨p,sl,?_,e3⟩;rw [cm e1,e2]
  ·have hne:¬ kv.1=Sum.inr z:=by
    intro e;rw [h.1] at e;have:=Sum.inr.inj e;exact nd.1 (by rw [this];exact D2.mpr ⟨(z,s),m',rfl⟩)
   rw [bG hne];exact pQ t m' nd.2
inductive fV (vs:List V) (H:Hp) (Q:VK) (Z3:XK):Prop
 | mk (d ks nm st sl:_):vs=[.ref d,.str nm,.str st,sl]->NmI H d ks->nm∉ks.map (·.1)->ks.length<=20->(∀ H',NmI H' d (ks++[(nm,st)])->ButO d H H'->Q .non H')->fV vs H Q Z3
inductive fB (K:ZF) (vs:List V) (H:Hp) (Q:VK) (Z3:XK):Prop
 | mk (d ks nm st p xs:_):vs=[.ref d,.str nm,.ref p]->NmI H d ks->(nm,st)∈ks->(ks.map (·.1)).Nodup->(SqL K H p (ak xs)\/SqT K H p (ak xs))->st∈xs->(∀ q sl H',Same H H'->H' q=some (.tup [.str st,sl])->Q (.ref q) H')->fB K vs H Q Z3
theorem qM:aw ["names","name","sort","sel"] ["names","name","sort","sel"] (aj jf):=cI zk
theorem oM (F:Fun K "add_name" "add_name" jf f fd):FnOk P w K mg base bY 1 f fd ["names","name","sort","sel"] fV:=by
 have ZZ:=qM
 walk_at "o"
 ·obtain ⟨d,ks,nm,st,sl,rfl,hN,hm,hk,q⟩:=h;have hu:=gi hr;refine ⟨_,ag (bi (nE (sE hu (pv 1) (pv 0))) (ai bD) aL) (ai (kM hu (pv 0) (pv 1) (aN (ac (pv 2) (ac (pv 3) ad))) rfl)),?_⟩;obtain ⟨kvs,hd,hp⟩:=hN;have hno:=tK hp hm;have lk:=hp.length;have szz:(1000:Nat)<=sizeLine:=by decide
  have g:DGet H d (.str nm) none:=by
   have:=DGet.k (k:=Sum.inr nm) hd;rw [hno] at this;exact this
  refine ⟨_,rfl,_,rfl,d,_,rfl,g,_,rfl,bP ?_⟩;refine ⟨_,rfl,_,rfl,zlx,fun p np=>?_⟩;have s1:=af (o:=.tup [.str st,sl]) np;have hd1:=s1 _ _ hd;have ep:(aq H p (.tup [.str st,sl])) p=some (.tup [.str st,sl]):=ae;generalize aq H p (.tup [V.str st,sl])=H1 at *;refine ⟨_,rfl,_,rfl,d,_,rfl,DPut.k (k:=Sum.inr nm) hd1 zo,?_⟩;rw [dm _ hno];have k1:=xE (ys:=kvs++[(Sum.inr nm,V.ref p)]) hd1;refine q _ ⟨_,ae,dP ⟨rfl,p,sl,rfl,k1 _ _ ep⟩ (bR (fun _ _ h=>(h.kt (aW s1)).kt k1) hp)⟩ (fun b o e nb=>?_);rw [ao nb];exact s1 _ _ e
def yJ:Sp:=fun _ _ _ _=>False
theorem v0 {w:World} {k:Nat}:FnOk P w K mg base bY k f fd ps yJ:=⟨fun _ _ _ _ h=>h.elim,fun _ _ _ _ _ _ _ _ _ _ _ _ _ h=>h.elim⟩
inductive k9 (vs:List V) (H:Hp) (Q:VK) (Z3:XK):Prop
 | mk (d e:_):vs=[d,e]->NextV H e->(∀ H',Same H H'->Q e H')->k9 vs H Q Z3
inductive jk (vs:List V) (H:Hp) (Q:VK) (Z3:XK):Prop
 | mk (d u:_):vs=[d,u]->LeafV H u->(∀ u' H',Same H H'->LeafV H' u'->Q u' H')->jk vs H Q Z3
theorem scNeedKnown:aw ["names","name","sorts","sort","sel"] ["names","name","sorts"] (aj gA):=cI zk
theorem ld (F:Fun K "need_known" "need_known" gA f fd):FnOk P w K mg base bY 1 f fd ["names","name","sorts"] (fB K):=by
 have ZZ:=scNeedKnown
 walk_at "o"
 ·obtain ⟨d,ks,nm,st,p,xs,rfl,hN,hm,hnd,hq,hs,q⟩:=h;have hu:=gi hr;refine ⟨_,ag (bi (nE (qC hu (pv 1) (pv 0))) (ai bD) aL)
   (ag (ff (aV hu (pv 0) (pv 1)) (cM rfl (aJ (aC (i:=3) scNeedKnown.nd rfl (Or.inl rfl)) (aJ (aC (i:=4) scNeedKnown.nd rfl (Or.inl rfl)) cb))))
   (ag (bi (ar c9 (pv 3) (pv 2) rfl) (ai bD) aL)
   (ai (aA (aN (ac (pv 3) (ac (pv 4) ad))))))),?_⟩
  obtain ⟨kvs,hd,hp⟩:=hN;obtain ⟨p0,sl,hv,e0⟩:=pQ hp hm hnd;have g:DGet H d (.str nm) (some (.ref p0)):=by
   have:=DGet.k (k:=Sum.inr nm) hd;rw [hv] at this;exact this
  refine ⟨_,rfl,_,rfl,d,_,rfl,g,_,rfl,bP ?_⟩;refine ⟨_,rfl,_,rfl,d,_,rfl,g,p0,_,rfl,SqT.of e0,rfl,_,_,rfl,_,_,rfl,rfl,?_⟩;refine ⟨_,rfl,_,rfl,p,ak xs,rfl,hq,rfl,cA _,_,rfl,bQ ?_ ?_⟩
  ·show (!jZ (.str st) (ak xs))=false;rw [eG,Ex.mpr hs];rfl
  ·refine ⟨_,rfl,_,rfl,zlx,fun t nt=>?_⟩;exact q t sl _ (af nt) ae
theorem wa:aw ["names","end"] ["names","end"] (aj on):=cI zk
theorem tO (F:Fun K "end_of" "end_of" on f fd):FnOk P w K mg base bY 1 f fd ["names","end"] k9:=by
 have ZZ:=wa
 walk_at "o"
 ·obtain ⟨d,e,rfl,⟨p,zw,rfl,ew,hp⟩,q⟩:=h;refine ⟨_,ag (bi (ar eC (aZ cZ (pv 1) ah) (aN (ac am (ac am ad))) rfl) (ai bD) aL) (ai (aA (pv 1))),?_⟩;refine ⟨_,rfl,p,_,_,_,rfl,rfl,SqT.of hp,rfl,zlx,fun t nt=>?_⟩;have s1:=af (o:=.tup [.str "go",.str "call"]) nt;refine ⟨t,_,rfl,.inr (SqT.of ae),rfl,zk,_,rfl,bQ (by rcases ew with rfl|rfl<;>decide +kernel) ?_⟩;exact ⟨_,rfl,q _ s1⟩
theorem scDeedOf:aw ["names","body","test","yes","sets"] ["names","body"] (aj iM):=cI zk
theorem Dx:(["given","names"]:List Str).Nodup:=by decide +kernel
theorem qN (F:Fun K "deed_of" "deed_of" iM f fd) (B:Bl mg) (EO:Fn P w K mg base "end_of" 1 ["names","end"] k9) (SO:Fn P w K mg base "set_of" 1 ["names","given"] yJ):FnOk P w K mg base bY 2 f fd ["names","body"] jk:=by
 have ZZ:=scDeedOf
 walk_at "o"
 ·obtain ⟨d,u,rfl,⟨p,t,e,rfl,hp,ht,he⟩,q⟩:=h;refine ⟨_,ag (bi (ar cB (aZ cZ (pv 1) ah) am) (ag bD (ag bD (ai bD))) aL)
   (ag (au (i:=4) scDeedOf.nd rfl (Or.inl rfl) (aR bn (by rfl) B.tuple bo (ac (dN (N':=["given","names"]) (ix:=[none,some 0]) (sc0:=aj iM) (N:=["names","body","test","yes","sets"]) rfl zk (iY (aZ cZ (pv 1) ah))
     (fun C' cl s H fp=>aC (i:=0) Dx rfl (Or.inl rfl) (.inr rfl)) (fun _ _ _ _ _=>c0) (fun C' cl s H fp=>aB SO hr rfl (ac (pv 1) (ac (pv 0) ad)))) ad)))
   (ai (aA (aN (ac am (ac (pv 4) (ac (aB EO hr rfl (ac (pv 0) (ac (aZ cZ (pv 1) ah) ad))) ad))))))),?_⟩
  refine ⟨_,rfl,p,_,_,_,rfl,rfl,SqT.of hp,rfl,rfl,_,rfl,bQ zk ?_⟩;refine ⟨_,rfl,p,_,_,_,rfl,rfl,SqT.of hp,rfl,t,rfl,⟨_,SqT.of ht⟩,?_⟩;refine oj (K:=K) (a:=t) (xs:=[]) (fun i ys H'=>H'=H/\ys=[]) ⟨rfl,rfl⟩ (fun i ys H' hi ⟨a1,a2⟩=>by
    subst a1 a2;exact ⟨SqT.of ht,Ej _⟩) ?_ ?_
  ·rintro i x ys H' hx _;simp at hx
  ·rintro ys H' ⟨rfl,rfl⟩ D hD;have s1:=af (o:=.lst []) hD;have e1:(aq H' D (.lst [])) D=some (.lst []):=ae;generalize aq H' D (.lst ([]:List V))=H1 at *;refine ⟨D,_,rfl,.inl ⟨SqL.of e1,fun t2 n2=>?_⟩⟩;have s2:=af (o:=.tup []) n2;have e2:(aq H1 t2 (.tup [])) t2=some (.tup []):=ae;generalize aq H1 t2 (.tup ([]:List V))=H2 at *;have s12:=s1.trans s2;refine ⟨_,rfl,_,rfl,_,rfl,p,_,_,_,rfl,rfl,SqT.of (s12 _ _ hp),rfl,d,e,rfl,he.kt (aW s12),fun H3 s3=>⟨zlx,fun pt npt=>?_⟩⟩;have s4:=af (o:=.tup [.str "leaf",.ref t2,e]) npt;exact q _ _ ((s12.trans s3).trans s4) ⟨pt,t2,e,rfl,ae,s4 _ _ (s3 _ _ e2),he.kt (aW ((s12.trans s3).trans s4))⟩
def yK:List Nat:=(List.range 26).map (97+·)
def yL:Str:="abcdefghijklmnopqrstuvwxyz"
theorem AR:yL=S yK:=by decide +kernel
theorem wb (c:Nat) (h:97<=c/\c<=122):c∈yK:=by
 unfold yK;refine D2.mpr ⟨c - 97,Ez.mpr zo,zo⟩
structure AS (K:ZF) (mg:Str->Option Value) (aO:Addr) (tL tN:Tok):Prop where
 own:mg "OWN_WORDS"=some (.ref aO)
 sq:∀ H,SqT K H aO (ak ownL)
 lets:mg "LETTERS"=some (.str yL tL)
 lng:mg "LONGEST_NAME"=some (.int 8 tN)
theorem yM:aw ["thing"] ["thing"] (aj pO):=cI zk
theorem AT:(["sign"]:List Str).Nodup:=by decide +kernel
theorem wc {tL tN:Tok} (F:Fun K "is_name" "is_name" pO f fd) (T:Bl mg) (C:AS K mg aO tL tN):FnOk P w K mg base bY 1 f fd ["thing"] yH:=by
 have ZZ:=yM
 walk_at "o"
 ·obtain ⟨z,rfl,⟨hno,h1,h8,hc⟩,q⟩:=h;refine ⟨_,ag (bi (PW.pt (dX (cL (cX (av (dW (T:="str")) (by rfl) T.isinstance cw (ac (pv 0) (ac (pe_ty (by rfl) T.str eE) ad)))))
    (di (ar eC (pv 0) (bJ (v:=.ref aO) rfl C.own rfl) rfl)))) (ai (aA cr)) aL)
   (ai (aA (gq (i0 gJ gJ ah (av bW (by rfl) T.len D3 (ac (pv 0) ad)) (bJ (v:=.int 8) rfl C.lng ⟨_,rfl⟩))
    (fe (av (ja rfl) (by rfl) T.all ij (ac (dN (N':=["sign"]) (ix:=[none]) (sc0:=aj pO) (N:=["thing"]) rfl zk (sy (pv 0))
     (fun C' cl s H fp=>aC (i:=0) AT rfl (Or.inl rfl) (.inr rfl)) (fun _ _ _ _ _=>c0) (fun C' cl s H fp=>cH fH (pv 0) (bJ (v:=.str yL) rfl C.lets ⟨_,rfl⟩) rfl)) ad)))))),?_⟩
  have ez:z=S z.cps.toList:=yB z;have zl:z.length=z.cps.toList.length:=by show z.cps.size=_;simp
  generalize hl:z.cps.toList=l at *;subst ez;rw [bx] at h1 h8;have sz:(100000:Nat)<=sizeLine:=by decide
  refine ⟨_,rfl,_,_,_,rfl,.str _,rfl,_,rfl,bP ?_⟩;refine ⟨_,rfl,aO,ak ownL,rfl,.inr (C.sq H),rfl,cA _,_,rfl,bQ ?_ ?_⟩
  ·show jZ (.str (S l)) (ak ownL)=false;rw [eG];exact EX.mpr fun e=>hno (Ex.mp e)
  ·refine ⟨_,rfl,S l,rfl,(by rw [bx];omega),_,_,rfl,rfl,_,rfl,?_⟩;rw [bx];refine bK (decide_eq_true zo) ⟨_,_,rfl,rfl,_,rfl,bK (decide_eq_true zo) ⟨_,rfl,l,rfl,?_⟩⟩;refine sB (fun i ys H'=>ys=(List.replicate i true).map V.bl/\Same H H') ⟨rfl,Same.refl _⟩ (fun i ys H' hi ⟨e,_⟩=>by rw [e,DI,EA];omega) ?_ ?_
   ·rintro i ys H' hi ⟨rfl,s'⟩;refine ⟨trivial,dk ?_⟩;refine ⟨_,rfl,S [l[i]],_,rfl,rfl,?_⟩;rw [AR,gN,decide_eq_true (wb _ (hc _ (ER hi)))];refine Nx.mk hi ⟨?_,s'⟩;rw [List.replicate_succ',DP];rfl
   ·rintro ys H' ⟨rfl,s'⟩ D hD;refine ⟨D,List.replicate l.length true,rfl,SqL.of ae,?_⟩;have:=q _ (s'.trans (af (o:=.lst ((List.replicate l.length true).map V.bl)) hD));have ea:(List.replicate l.length true).all id=true:=by simp
    rw [ea];exact this
def dg (n:Nat):List Nat:=(Nat.toDigits 10 n).map Char.toNat
variable {n:Nat}
theorem mU (h:n < 10):dg n=[48+n]:=by
 unfold dg;rw [Nat.toDigits_of_lt_base h];have:∀ d:Nat,d < 10->[Nat.digitChar d].map Char.toNat=[48+d]:=by decide
 exact this n h
theorem tP (h:10<=n):dg n=dg (n / 10)++[48+n % 10]:=by
 have hm:n % 10 < 10:=Nat.mod_lt n zd;have t:Nat.toDigits 10 (n / 10)++Nat.toDigits 10 (n % 10)=Nat.toDigits 10 (10*(n / 10)+n % 10):=Nat.toDigits_append_toDigits zd zo hm;rw [Nat.div_add_mod] at t;rw [<-mU hm];unfold dg;rw [<-t,DP]
theorem oN (n:Nat):∀ c∈dg n,48<=c/\c<=57:=by
 induction n using Nat.strongRecOn with
 | _ n ih=>
  by_cases h:n < 10
  ·rw [mU h];intro c hc;rw [DZ.mp hc];omega
  ·rw [tP zo];intro c hc;rcases D0.mp hc with hc|hc
   ·exact ih (n / 10) zo c hc
   ·rw [DZ.mp hc];omega
theorem li (n:Nat):1<=(dg n).length/\∀ k,1<=k->n < 10 ^ k->(dg n).length<=k:=by
 induction n using Nat.strongRecOn with
 | _ n ih=>
  by_cases h:n < 10
  ·rw [mU h];exact ⟨by simp,fun k hk _=>by simpa using hk⟩
  ·rw [tP zo];obtain ⟨a,b⟩:=ih (n / 10) zo;refine ⟨by rw [DL];simp,fun k hk hn=>?_⟩;rw [DL];have hk2:2<=k:=by
    rcases (by omega:k=1\/2<=k) with rfl|z
    ·simp at hn;omega
    ·exact z
   have:=b (k - 1) zo (by
    have e:10 ^ k=10 ^ (k - 1)*10:=by rw [<-Nat.pow_succ];congr 1;omega
    rw [e] at hn;exact Nat.div_lt_of_lt_mul (by rw [Nat.mul_comm];exact hn))
   simp;omega
theorem we (n:Nat) (h1:1<=n):(dg n)[0]?≠some 48:=by
 induction n using Nat.strongRecOn with
 | _ n ih=>
  by_cases h:n < 10
  ·rw [mU h];simp;omega
  ·rw [tP zo];have hl:=(li (n / 10)).1;rw [Es zo];exact ih (n / 10) zo zo
theorem eT (n:Nat):(toString (n:Int):Str)=S (dg n):=by
 have:=PySem.W.KIN.signs_num n;have e:=yB (toString (n:Int):Str);rw [e]
 congr 1
def AU:List Nat:=(List.range 10).map (48+·)
def yN:Str:="0123456789"
theorem AV:yN=S AU:=by decide +kernel
theorem wf (c:Nat) (h:48<=c/\c<=57):c∈AU:=D2.mpr ⟨c - 48,Ez.mpr zo,zo⟩
section
variable {X:Cx}
theorem mV:c8 X (.type "int") (fun xs H Q=>∃ n:Nat,xs=[.str (toString (n:Int):Str)]/\n < 1000000000/\Q (.int n) H):=by
 intro pins s σ H xs us Q I r h;obtain ⟨n,rfl,hn,q⟩:=h;obtain ⟨u,rfl,rx⟩:=gh r;obtain ⟨t,rfl⟩:=rx;exact PySem.W.KIN.call_num zo zo ⟨.int n,H,I.tok _,⟨_,rfl⟩,q⟩
end
theorem oO:aw ["token"] ["token"] (aj fP):=cI zk
theorem mW {tF tM:Tok} (F:Fun K "number_of" "number_of" fP f fd) (T:Bl mg) (hF:mg "FIGURES"=some (.str yN tF)) (hM:mg "MOST_FIGURES"=some (.int 9 tM)):FnOk P w K mg base bY 1 f fd ["token"] kU:=by
 have ZZ:=oO
 walk_at "o"
 ·obtain ⟨n,rfl,hn,q⟩:=h;refine ⟨_,ag (bi (PW.pt (dX (cL (lZ gJ gJ ah (av bW (by rfl) T.len D3 (ac (pv 0) ad)) (bJ (v:=.int 9) rfl hM ⟨_,rfl⟩)))
    (di (cL (cX (av (ja rfl) (by rfl) T.all ij (ac (dN (N':=["sign"]) (ix:=[none]) (sc0:=aj fP) (N:=["token"]) rfl zk (sy (pv 0))
     (fun C' cl s H fp=>aC (i:=0) AT rfl (Or.inl rfl) (.inr rfl)) (fun _ _ _ _ _=>c0) (fun C' cl s H fp=>cH fH (pv 0) (bJ (v:=.str yN) rfl hF ⟨_,rfl⟩) rfl)) ad))))))) (ai (aA cu)) aL)
   (ag (bi (PW.pt (dj (ar cB (aZ hX (pv 0) ah) am) (cV (ar jQ (av bW (by rfl) T.len D3 (ac (pv 0) ad)) ah)))) (ai (aA cu)) aL)
   (ai (aA (aR mV (by rfl) T.int ED (ac (pv 0) ad))))),?_⟩
  have es:=eT n;obtain ⟨l1,l9'⟩:=li n;have l9:=l9' 9 zd zo;have sz:(100000:Nat)<=sizeLine:=by decide
  rw [es];refine ⟨_,rfl,S (dg n),rfl,(by rw [bx];omega),_,_,rfl,rfl,_,rfl,?_⟩;rw [bx];refine bK (decide_eq_true zo) ⟨_,_,rfl,rfl,_,rfl,?_⟩;rw [decide_eq_true (show ((dg n).length:Int)<=9 by omega)];refine bP ⟨_,rfl,dg n,rfl,?_⟩;refine sB (fun i ys H'=>ys=(List.replicate i true).map V.bl/\Same H H') ⟨rfl,Same.refl _⟩ (fun i ys H' hi ⟨e,_⟩=>by rw [e,DI,EA];omega) ?_ ?_
  ·rintro i ys H' hi ⟨rfl,s'⟩;refine ⟨trivial,dk ?_⟩;refine ⟨_,rfl,S [(dg n)[i]],_,rfl,rfl,?_⟩;rw [AV,gN,decide_eq_true (wf _ (oN n _ (ER hi)))];refine Nx.mk hi ⟨?_,s'⟩;rw [List.replicate_succ',DP];rfl
  ·rintro ys H' ⟨rfl,s'⟩ D hD;have s2:=af (o:=.lst ((List.replicate (dg n).length true).map V.bl)) hD;refine ⟨D,List.replicate (dg n).length true,rfl,SqL.of ae,?_⟩;have ea:(List.replicate (dg n).length true).all id=true:=by simp
   rw [ea];refine ⟨_,rfl,bP ?_⟩;refine ⟨_,rfl,S (dg n),0,(dg n)[0],rfl,rfl,(by rw [bx];omega),?_,rfl,_,rfl,?_⟩
   ·exact gQ (i:=0) zo
   ·by_cases hz:n=0
    ·subst hz;have e00:(dg 0)[0]=48:=by simp [mU (n:=0) zd]
     refine bK (decide_eq_true (by rw [e00];decide +kernel)) ?_;refine ⟨_,rfl,S (dg 0),rfl,(by rw [bx];omega),_,_,rfl,rfl,_,rfl,bQ zk ?_⟩;exact ⟨_,rfl,0,by rw [eT],hn,q _ (s'.trans s2)⟩
    ·have hd:=we n zo;refine bQ ?_ (bP ?_)
     ·refine decide_eq_false fun e=>hd ?_;have e2:=V.str.inj e;have e3:S [(dg n)[0]]=S [48]:=e2.trans zk;have e4:[(dg n)[0]]=[48]:=by
       have:=congrArg (fun z:Str=>z.cps.toList) e3;simpa [S] using this
      rw [D9 zo];exact congrArg some (List.cons.inj e4).1
     ·exact ⟨_,rfl,n,by rw [eT],hn,q _ (s'.trans s2)⟩
end L3
namespace L3
open PySem L2 TK
structure wg (K:ZF) (mg:Str->Option Value) (aD:Addr) (tG tS:Tok):Prop where
 gaps:mg "GAPS"=some (.str " \n" tG)
 sing:mg "SINGLE_SIGNS"=some (.str "(){}[],;+-&|^<=" tS)
 doub:mg "DOUBLE_SIGNS"=some (.ref aD)
 sq:∀ H,SqT K H aD [.str "<<",.str ">>"]
 len:mg "len"=none
def vs (ts:List (List Nat)):List V:=ts.map fun t=>V.str (S t)
inductive lj (xs:List V) (H:Hp) (Q:VK) (Z3:XK):Prop
 | mk (l:List Nat) (i:Nat):xs=[.str (S l),.int i]->i < l.length->l.length<=100000->Q (.str (S ((l.drop i).take (hZ (l.drop i))))) H->lj xs H Q Z3
inductive tQ (xs:List V) (H:Hp) (Q:VK) (Z3:XK):Prop
 | mk (l:List Nat) (i:Nat):xs=[.str (S l),.int i]->i < l.length->l.length<=100000->Q (.str (S ((l.drop i).take (run (l.drop i))))) H->tQ xs H Q Z3
inductive oP (xs:List V) (H:Hp) (Q:VK) (Z3:XK):Prop
 | mk (l:List Nat):xs=[.str (S l)]->l.length<=100000->(∀ (p:Addr) (H':Hp),H p=none->H' p=some (.lst (vs (toks l)))->Same H H'->Q (.ref p) H')->oP xs H Q Z3
variable {i:Nat} {l:List Nat}
theorem pR (h:i < l.length):fX l (some (i:Int)) (some ((i:Int)+2))=(l.drop i).take 2:=by
 unfold fX;have e:((i:Int)+2)=((i+2:Nat):Int):=by omega
 rw [e,HT.sIx_nat,HT.sIx_nat,show min i l.length=i by omega];by_cases c:i+2<=l.length
 ·rw [show min (i+2) l.length - i=2 by omega]
 ·rw [Ep (by rw [Ea];omega),Ep (by rw [Ea];omega)]
theorem yO {i j:Nat} (h:j<=l.length):fX l (some (i:Int)) (some (j:Int))=(l.drop i).take (j - i):=by
 unfold fX;rw [HT.sIx_nat,HT.sIx_nat,show min j l.length=j by omega];by_cases c:i<=l.length
 ·rw [show min i l.length=i by omega]
 ·rw [show min i l.length=l.length by omega,List.drop_length,List.drop_eq_nil_of_le zo];simp
theorem fW (h:i < l.length):l.drop i=l[i]::l.drop (i+1):=Ev h
theorem tR:(" \n":Str)=S [32,10]:=by decide +kernel
theorem yP:("(){}[],;+-&|^<=":Str)=S [40,41,123,125,91,93,44,59,43,45,38,124,94,60,61]:=by decide +kernel
theorem Cy:("<<":Str)=S [60,60]:=by decide +kernel
theorem Cz:(">>":Str)=S [62,62]:=by decide +kernel
theorem pS (c:Nat):decide (c∈[32,10])=eY c:=by
 rw [EF,decide_eq_true_iff];unfold eY;simp
theorem wj (c:Nat):decide (c∈[40,41,123,125,91,93,44,59,43,45,38,124,94,60,61])=cQ c:=by
 rw [EF,decide_eq_true_iff];unfold cQ;rw [Ex]
theorem wk (t:List Nat):jZ (.str (S t)) [.str "<<",.str ">>"]=(decide (t=[60,60]) || decide (t=[62,62])):=by
 unfold jZ;rw [Cy,Cz];show ((S [60,60] == S t) || ((S [62,62] == S t) || false))=_;have e:∀ u:List Nat,(S u == S t)=decide (t=u):=fun u=>by
  rw [EF,decide_eq_true_iff,beq_iff_eq,S_inj];exact ⟨fun h=>h.symm,fun h=>h.symm⟩
 rw [e,e,Bool.or_false]
variable {P:Program} {w:World} {K:ZF} {mg:Str->Option Value} {base:Heap} {C fi aS aE aF aO:Addr} {t1 t2 t3 t4 t5 tM:Tok}
theorem yQ:aw ["text","at"] ["text","at"] (aj sT):=cI zk
variable {tG tS:Tok} {fd:FuncData} {f aD:Addr}
theorem wm (F:Fun K "sign_at" "sign_at" sT f fd) (T:wg K mg aD tG tS):FnOk P w K mg base bY 1 f fd ["text","at"] lj:=by
 have ZZ:=yQ
 walk_at "o"
 ·obtain ⟨l,i,rfl,hi,hz,q⟩:=h;have sz:(100000:Nat)<=sizeLine:=by decide
  refine ⟨_,ag (bi (ar eC (br kK (pv 0) (bv (pv 1)) (bv (aG bO (pv 1) ah))) (bJ (v:=.ref aD) rfl T.doub rfl) rfl) (ai (aA (br kK (pv 0) (bv (pv 1)) (bv (aG bO (pv 1) ah))))) aL)
   (ag (bi (ar fH (aZ hX (pv 0) (pv 1)) (bJ (v:=.str "(){}[],;+-&|^<=") rfl T.sing ⟨_,rfl⟩) rfl) (ai (aA (aZ hX (pv 0) (pv 1)))) aL)
   (ai (aA am))),?_⟩
  refine ⟨_,rfl,_,rfl,_,rfl,_,rfl,_,_,rfl,rfl,_,rfl,l,rfl,hz,?_⟩;rw [pR hi];refine ⟨aD,_,rfl,.inr (T.sq H),rfl,rfl,_,rfl,?_⟩;show if jZ (.str (S ((l.drop i).take 2))) [.str "<<",.str ">>"]=true then _ else _;have two:hZ (l.drop i)=if jZ (.str (S ((l.drop i).take 2))) [.str "<<",.str ">>"]=true then 2 else if cQ l[i]=true then 1 else 0:=by
   rw [wk,fW hi];cases hd:l.drop (i+1) with
   | nil=>rw [eK];simp
   | cons d r=>
    rw [da];simp
  by_cases c:jZ (.str (S ((l.drop i).take 2))) [.str "<<",.str ">>"]=true
  ·rw [if_pos c] at two;refine bK c ?_;refine ⟨_,rfl,_,rfl,_,rfl,_,rfl,_,_,rfl,rfl,_,rfl,l,rfl,hz,?_⟩;rw [pR hi];rw [two] at q;exact q
  ·rw [if_neg c] at two;refine bQ (by simpa using c) ?_;refine ⟨_,rfl,_,rfl,_,_,l[i],rfl,rfl,(by rw [bx];omega),gQ hi,_,_,rfl,rfl,_,rfl,?_⟩;rw [yP];have e:=gN l[i] [40,41,123,125,91,93,44,59,43,45,38,124,94,60,61];rw [wj] at e;by_cases c2:cQ l[i]=true
   ·rw [if_pos c2] at two;refine bK (e.trans c2) ?_;refine ⟨_,rfl,_,rfl,_,_,l[i],rfl,rfl,(by rw [bx];omega),gQ hi,?_⟩;rw [two,fW hi] at q;exact q
   ·rw [if_neg c2] at two;refine bQ (e.trans (by simpa using c2)) ?_;rw [two] at q;exact q
theorem scRun:aw ["text","at","behind"] ["text","at"] (aj yA):=cI zk
theorem take_nil {n:Nat} (h:n<=l.length):l.take n=[]↔n=0:=by
 constructor
 ·intro e;have:=congrArg List.length e;rw [DS,Em] at this;omega
 ·intro e;rw [e,List.take_zero]
theorem yR (F:Fun K "run_at" "run_at" yA f fd) (T:wg K mg aD tG tS) (SG:Fn P w K mg base "sign_at" 1 ["text","at"] lj):FnOk P w K mg base bY 2 f fd ["text","at"] tQ:=by
 have ZZ:=scRun
 walk_at "o"
 ·obtain ⟨l,i,rfl,hi,hz,q⟩:=h;have sz:(100000:Nat)<=sizeLine:=by decide
  have sl:(S l).length<=sizeLine:=by rw [bx];omega
  refine ⟨_,ag (au (i:=2) scRun.nd rfl (Or.inl rfl) (pv 1))
   (ag (dY PassesOwn.never (PW.pt (dj (ar dG (pv 2) (av bW (by rfl) T.len D3 (ac (pv 0) ad)))
     (dj (ar kA (aZ hX (pv 0) (pv 2)) (bJ (v:=.str " \n") rfl T.gaps ⟨_,rfl⟩) rfl) (cV (ar cB (aB SG hr rfl (ac (pv 0) (ac (pv 2) ad))) am)))))
    (ai (nI (i:=2) scRun.nd rfl (Or.inl rfl) ah nJ)))
   (ai (aA (br kK (pv 0) (bv (pv 1)) (bv (pv 2)))))),?_⟩
  refine ⟨_,rfl,?_⟩;refine ⟨fun m σ H'=>∃ k:Nat,σ=[some (.str (S l)),some (.int i),some (.int (i+k:Nat))]/\m=l.length - (i+k)/\i+k<=l.length/\run (l.drop i)=k+run (l.drop (i+k))/\H'=H,
   ⟨_,0,rfl,rfl,zo,by rw [Nat.add_zero,Nat.zero_add],rfl⟩,?_⟩
  rintro m σ H' ⟨k,rfl,rfl,hk,hrun,rfl⟩;have out:run (l.drop (i+k))=0->Ae (C7 (fun x lo hi H Q=>∃ l,x=.str (S l)/\l.length<=100000/\Q (.str (S (fX l lo hi))) H) (qr 0) (rY (qr 1)) (rY (qr 2))) { nx:=fun _ H'=>Q .non H',rt:=Q } [some (.str (S l)),some (.int i),some (.int (i+k:Nat))] H':=fun e=>by
   refine ⟨_,rfl,_,rfl,_,rfl,_,rfl,_,rfl,l,rfl,hz,?_⟩;rw [yO hk,show i+k - i=k by omega];rw [hrun,e,Nat.add_zero] at q;exact q
  refine ⟨_,rfl,_,rfl,S l,rfl,sl,_,_,rfl,rfl,_,rfl,?_⟩;by_cases c:i+k < l.length
  ·refine bK (decide_eq_true (by rw [bx];omega)) ?_;refine ⟨_,rfl,_,rfl,_,_,l[i+k],rfl,rfl,sl,gQ c,_,_,rfl,rfl,_,rfl,?_⟩;rw [tR];have e:=gN l[i+k] [32,10];rw [pS] at e;have e':(!(!(Builtin.Str.occurrences (S [32,10]) (S [l[i+k]]) 0 (S [32,10]).length 1).isEmpty))=!eY l[i+k]:=by rw [e]
   have rc:run (l.drop (i+k))=if (eY l[i+k] || hZ (l.drop (i+k)) != 0)=true then 0 else 1+run (l.drop (i+k+1)):=by
    rw [fW c,ck]
   cases g:eY l[i+k] with
   | true=>
    refine bQ (e'.trans (by rw [g];rfl)) (bP ?_);exact out (by rw [rc,g];rfl)
   | false=>
    refine bK (e'.trans (by rw [g];rfl)) ?_;refine ⟨_,rfl,_,rfl,l,i+k,rfl,c,hz,rfl,_,rfl,?_⟩;rw [AO];by_cases s0:hZ (l.drop (i+k))=0
    ·refine bK (decide_eq_true (by rw [s0];rfl)) ?_;refine ⟨fun σ' H2=>σ'=[some (.str (S l)),some (.int i),some (.int (i+(k+1):Nat))]/\H2=H',fun σ' H2 ⟨e1,e2⟩=>⟨l.length - (i+(k+1)),zo,k+1,e1,rfl,zo,?_,e2⟩,?_⟩
     ·rw [hrun,rc,g,s0];show k+(1+run (l.drop (i+k+1)))=_;rw [Nat.add_assoc i k 1];omega
     ·refine ⟨_,rfl,_,_,rfl,rfl,?_,rfl⟩;show [some (V.str (S l)),some (V.int i),some (V.int (((i+k:Nat):Int)+1))]=_;rw [show (((i+k:Nat):Int)+1)=((i+(k+1):Nat):Int) by omega]
    ·refine bQ (decide_eq_false ?_) ?_
     ·intro z;injection z with z';have:=(take_nil (kI (l.drop (i+k)))).mp (S_inj.mp z');exact s0 this
     ·exact out (by rw [rc,g];simp [s0])
  ·refine bQ (decide_eq_false (by rw [bx];omega)) (bP ?_);have:l.drop (i+k)=[]:=List.drop_eq_nil_of_le zo;exact out (by rw [this];rfl)
theorem scToks:aw ["text","tokens","at","token"] ["text"] (aj kP):=cI zk
theorem tU (a b:List (List Nat)):vs (a++b)=vs a++vs b:=DP
theorem tV (a:List (List Nat)):(vs a).length=a.length:=DI _
theorem wo (F:Fun K "tokens_of" "tokens_of" kP f fd) (T:wg K mg aD tG tS) (SG:Fn P w K mg base "sign_at" 1 ["text","at"] lj) (RN:Fn P w K mg base "run_at" 2 ["text","at"] tQ) :
  FnOk P w K mg base bY 3 f fd ["text"] oP:=by
 have ZZ:=scToks
 walk_at "o"
 ·obtain ⟨l,rfl,hz,q⟩:=h;have sz:(100000:Nat) < sizeLine:=by decide
  have sl:(S l).length<=sizeLine:=by rw [bx];omega
  refine ⟨_,ag (au (i:=1) scToks.nd rfl (Or.inl rfl) (aP ad))
   (ag (au (i:=2) scToks.nd rfl (Or.inl rfl) ah)
   (ag (dY PassesOwn.never (ar dG (pv 2) (av bW (by rfl) T.len D3 (ac (pv 0) ad)))
    (ai (bi (ar fH (aZ hX (pv 0) (pv 2)) (bJ (v:=.str " \n") rfl T.gaps ⟨_,rfl⟩) rfl) (ai (nI (i:=2) scToks.nd rfl (Or.inl rfl) ah nJ))
     (ag (au (i:=3) scToks.nd rfl (Or.inl rfl) (yt (aB SG hr.m rfl (ac (pv 0) (ac (pv 2) ad))) (fe (aB RN hr rfl (ac (pv 0) (ac (pv 2) ad))))))
     (ag (aI (bZ DV DU DT aT (pv 1) (ac (pv 3) ad)))
     (ai (nI (i:=2) scToks.nd rfl (Or.inl rfl) (av bW (by rfl) T.len D3 (ac (pv 3) ad)) nJ)))))))
   (ai (aA (pv 1))))),?_⟩
  refine ⟨zlx,fun p hp=>?_⟩;refine ⟨fun m σ H'=>∃ (k:Nat) (ts:List (List Nat)) (v:Option V),σ=[some (.str (S l)),some (.ref p),some (.int k),v]/\m=l.length - k/\k<=l.length/\H' p=some (.lst (L3.vs ts))/\Same H H'/\ts++toks (l.drop k)=toks l/\ts.length<=k,
   ⟨_,0,[],none,rfl,rfl,zo,ae,af hp,rfl,DN _⟩,?_⟩
  rintro m σ H' ⟨k,ts,v,rfl,rfl,hk,g,s1,e,hl⟩;refine ⟨_,rfl,_,rfl,S l,rfl,sl,_,_,rfl,rfl,_,rfl,?_⟩;by_cases c:k < l.length
  ·refine bK (decide_eq_true (by rw [bx];omega)) ?_;refine ⟨fun σ' H2=>∃ (k':Nat) (ts':List (List Nat)) (v':Option V),σ'=[some (.str (S l)),some (.ref p),some (.int k'),v']/\k < k'/\k'<=l.length/\H2 p=some (.lst (L3.vs ts'))/\Same H H2/\ts'++toks (l.drop k')=toks l/\ts'.length<=k',
    fun σ' H2 ⟨k',ts',v',e1,e2,e3,e4,e5,e6,e7⟩=>⟨l.length - k',zo,k',ts',v',e1,rfl,e3,e4,e5,e6,e7⟩,?_⟩
   refine ⟨_,rfl,_,rfl,_,_,l[k],rfl,rfl,sl,gQ c,_,_,rfl,rfl,_,rfl,?_⟩;rw [tR];have ec:=gN l[k] [32,10];rw [pS] at ec;cases gg:eY l[k] with
   | true=>
    refine bK (ec.trans gg) ?_;refine ⟨_,rfl,_,_,rfl,rfl,?_⟩;refine ⟨k+1,ts,v,?_,zo,c,g,s1,?_,zo⟩
    ·show [some (V.str (S l)),some (V.ref p),some (V.int ((k:Int)+1)),v]=_;rw [show ((k:Int)+1)=((k+1:Nat):Int) by omega]
    ·rw [<-e,fW c,mo gg]
   | false=>
    refine bQ (ec.trans gg) ?_;refine ⟨_,rfl,_,rfl,l,k,rfl,c,hz,?_⟩;have dl:(l.drop k).length=l.length - k:=Ea;have ol:=yq (l.drop k);have op:0 < one (l.drop k):=by rw [fW c];exact iI gg
    have tk:ts++[(l.drop k).take (one (l.drop k))]++toks (l.drop (k+one (l.drop k)))=toks l:=by
     rw [<-e,En,show l.drop (k+one (l.drop k))=(l.drop k).drop (one (l.drop k)) by rw [List.drop_drop]]
     congr 1
     rw [fW c,mt gg];rfl
    have tl:((l.drop k).take (one (l.drop k))).length=one (l.drop k):=by rw [DS];omega
    have tz:((l.drop k).take (hZ (l.drop k))).length<=100000:=by rw [DS];omega
    refine ⟨_,rfl,tz,?_⟩;by_cases s0:hZ (l.drop k)=0
    ·rw [if_pos ((take_nil (kI _)).mpr s0)];refine ⟨_,rfl,_,rfl,l,k,rfl,c,hz,?_⟩;rw [show run (l.drop k)=one (l.drop k) from (if_pos s0).symm];refine ⟨_,rfl,.inl ⟨rfl,_,SqL.of g⟩,_,rfl,p,_,_,rfl,rfl,g,(by rw [tV];omega),?_⟩;refine ⟨_,rfl,_,rfl,S ((l.drop k).take (one (l.drop k))),rfl,(by rw [bx];omega),_,_,rfl,rfl,?_⟩;refine ⟨k+one (l.drop k),ts++[(l.drop k).take (one (l.drop k))],some (.str (S ((l.drop k).take (one (l.drop k))))),?_,zo,zo,?_,aU hp s1,tk,by rw [DL];simp;omega⟩
     ·show [some (V.str (S l)),some (V.ref p),some (V.int ((k:Int)+((S ((l.drop k).take (one (l.drop k)))).length:Int))),some (V.str (S ((l.drop k).take (one (l.drop k)))))]=_;rw [bx,tl,show ((k:Int)+(one (l.drop k):Int))=((k+one (l.drop k):Nat):Int) by omega]
     ·rw [ae,tU];rfl
    ·rw [if_neg (fun z=>s0 ((take_nil (kI _)).mp z))];rw [show hZ (l.drop k)=one (l.drop k) from (if_neg s0).symm];refine ⟨_,rfl,.inl ⟨rfl,_,SqL.of g⟩,_,rfl,p,_,_,rfl,rfl,g,(by rw [tV];omega),?_⟩;refine ⟨_,rfl,_,rfl,S ((l.drop k).take (one (l.drop k))),rfl,(by rw [bx];omega),_,_,rfl,rfl,?_⟩;refine ⟨k+one (l.drop k),ts++[(l.drop k).take (one (l.drop k))],some (.str (S ((l.drop k).take (one (l.drop k))))),?_,zo,zo,?_,aU hp s1,tk,by rw [DL];simp;omega⟩
     ·show [some (V.str (S l)),some (V.ref p),some (V.int ((k:Int)+((S ((l.drop k).take (one (l.drop k)))).length:Int))),some (V.str (S ((l.drop k).take (one (l.drop k)))))]=_;rw [bx,tl,show ((k:Int)+(one (l.drop k):Int))=((k+one (l.drop k):Nat):Int) by omega]
     ·rw [ae,tU];rfl
  ·refine bQ (decide_eq_false (by rw [bx];omega)) ?_;have:k=l.length:=by omega
   subst this;rw [List.drop_length,sr,El] at e;subst e;exact ⟨_,rfl,q p H' hp g s1⟩
end L3
namespace L3
open PySem L2
theorem jl:bootBuiltins "dict"=some (.type "dict"):=by decide +kernel
structure zV (mg:Str->Option Value):Prop where
 dict:mg "dict"=none
 enumerate:mg "enumerate"=none
theorem iD {α β:Type} {R:α->β->Prop}:∀ {xs:List α} {ys:List β},Paired R xs ys->∀ {i:Nat} {x:α},xs[i]?=some x->∃ y,ys[i]?=some y/\R x y
 | _,_,.cons h t,0,x,e=>by
  simp at e;exact ⟨_,rfl,e ▸ h⟩
 | _,_,.cons h t,i+1,x,e=>by
  obtain ⟨y,a,b⟩:=iD t (i:=i) (x:=x) (by simpa using e);exact ⟨y,by simpa using a,b⟩
inductive tW (vs:List V) (H:Hp) (Q:VK) (Z3:XK):Prop
 | mk (d tf us ks fs:_):vs=[.ref d,.ref tf]->NmI H d ks->H tf=some (.tup us)->Paired (FldV H) us fs->((ks++fs).map (·.1)).Nodup->ks.length+fs.length<=20->(∀ d' H',Same H H'->H d'=none->NmI H' d' (ks++fs)->Q (.ref d') H')->tW vs H Q Z3
variable {P:Program} {w:World} {K:ZF} {mg:Str->Option Value} {base:Heap} {C fi aS aE aF aO:Addr} {t1 t2 t3 t4 t5 tM:Tok}
theorem scNwf:aw ["names","fields","within","j","name","sort"] ["names","fields"] (aj gB):=cI zk
variable {fd:FuncData} {f:Addr}
theorem yS (F:Fun K "names_with_fields" "names_with_fields" gB f fd) (B:zV mg) (AN:Fn P w K mg base "add_name" 1 ["names","name","sort","sel"] fV):FnOk P w K mg base bY 2 f fd ["names","fields"] tW:=by
 have ZZ:=scNwf
 walk_at "o"
 ·obtain ⟨d,tf,us,ks,fs,rfl,⟨kvs,hd,hp⟩,ht,hf,hnd,h20,q⟩:=h;refine ⟨_,ag (au (i:=2) scNwf.nd rfl (Or.inl rfl) (aR jd (by rfl) B.dict jl (ac (pv 0) ad)))
   (ag (cY PassesOwn.never rfl (gP rfl B.enumerate (ac (pv 1) ad)) (cM rfl (aJ (aC (i:=3) scNwf.nd rfl (Or.inl rfl)) (aJ (cM rfl (aJ (aC (i:=4) scNwf.nd rfl (Or.inl rfl)) (aJ (aC (i:=5) scNwf.nd rfl (Or.inl rfl)) cb))) cb)))
    (ai (aI (aB AN hr rfl (ac (pv 2) (ac (pv 4) (ac (pv 5) (ac (aN (ac am (ac (pv 3) ad))) ad))))))))
   (ai (aA (pv 2)))),?_⟩
  refine ⟨_,rfl,d,kvs,rfl,hd,fun d' nd'=>?_⟩;generalize zz:aq H d' _=H1;have ⟨s1,e1⟩:=nw nd' zz;clear zz;refine ⟨_,rfl,tf,rfl,⟨_,SqT.of (s1 _ _ ht)⟩,?_⟩;have lf:=hf.length;refine fN (K:=K) (l:=tf) (xs:=us) (fun i σ H'=>∃ v3 v4 v5:Option V,σ=[some (.ref d),some (.ref tf),some (.ref d'),v3,v4,v5]/\Same H H'/\NmI H' d' (ks++fs.take i)) ⟨_,_,_,rfl,s1,kvs,e1,by simpa using bR (fun _ _ h=>h.kt (aW s1)) hp⟩ (fun i σ H' _ ⟨_,_,_,_,s',_⟩=>SqT.of (s' _ _ ht)) ?_ ?_
  ·rintro i x σ H2 T1 hx nT ⟨v3,v4,v5,rfl,s2,n2⟩;obtain ⟨y,hy,pf,rfl,hpf⟩:=iD hf hx;have hlt:i < fs.length:=(DK.mp hy).1;have s3:=af (o:=.tup [.int (i:Int),.ref pf]) nT;have s23:=s2.trans s3;refine ⟨T1,_,rfl,SqT.of ae,rfl,_,_,rfl,_,_,rfl,⟨pf,_,rfl,SqT.of (s23 _ _ hpf),rfl,_,_,rfl,_,_,rfl,rfl,rfl,?_⟩⟩;refine ⟨_,rfl,_,rfl,_,rfl,_,rfl,zlx,fun t nt=>?_⟩;have s4:=af (o:=.tup [.str "by",.int (i:Int)]) nt;have s24:=s23.trans s4;have n4:NmI (aq (aq H2 T1 (.tup [.int (i:Int),.ref pf])) t (.tup [.str "by",.int (i:Int)])) d' (ks++fs.take i):=let ⟨kv2,a,b⟩:=n2;⟨kv2,(s3.trans s4) _ _ a,bR (fun _ _ h=>h.kt (aW (s3.trans s4))) b⟩;have etk:fs.take (i+1)=fs.take i++[y]:=by rw [Eu,hy];rfl
   refine ⟨d',_,y.1,y.2,.ref t,rfl,n4,?_,?_,fun H5 n5 b5=>⟨_,_,_,rfl,du nd' s24 b5,?_⟩⟩
   ·intro hm;have e5:ks++fs=(ks++fs.take i)++(y::fs.drop (i+1)):=by
     rw [En]
     congr 1
     have:=(EE i fs).symm;rw [Ev hlt] at this;rw [(DK.mp hy).2] at this;exact this
    rw [e5,DP,D6] at hnd;exact (Fg.mp hnd).2.2 _ hm _ DM rfl
   ·rw [DL,DS];omega
   ·rw [etk,<-En];exact n5
  ·rintro σ H2 ⟨v3,v4,v5,rfl,s2,n2⟩;rw [lf,Ew] at n2;exact ⟨_,rfl,q d' H2 s2 nd' n2⟩
def pU (zs:List Str):List (bT×V):=zs.map fun z=>(Sum.inr z,.bl true)
theorem xF:∀ {zs:List Str} {z:Str},z∉zs->bq (pU zs) (Sum.inr z)=none
 | [],_,_=>mB
 | x::zs,z,h=>by
  unfold pU;rw [D6,bG]
  ·exact xF (fun m=>h (DR _ m))
  ·intro e;exact h (by rw [<-Sum.inr.inj e];exact DM)
inductive yT (vs:List V) (H:Hp) (Q:VK) (Z3:XK):Prop
 | mk (d tk us ks kds:_):vs=[.ref d,.ref tk]->NmI H d ks->H tk=some (.tup us)->Paired (KindV H) us kds->(kds.map Kn.name).Nodup->(∀ x∈kds,((ks++x.fs).map (·.1)).Nodup/\x.fs.length<=3)->ks.length<=10->kds.length<=8->(∀ p us' H',Same H H'->H p=none->H' p=some (.tup us')->Paired (KindV H') us' kds->Q (.ref p) H')->yT vs H Q Z3
structure NI (H:Hp) (kds:List Kn) (ln lt:Addr) (i:Nat) (H':Hp):Prop where
 sm:Same H H'
 n1:H ln=none
 n2:H lt=none
 ne:ln≠lt
 ls:∃ us,H' ln=some (.lst us)/\us.length=i/\Paired (KindV H') us (kds.take i)
 tk:H' lt=some (.dK (pU ((kds.take i).map Kn.name)))
theorem scKN:aw ["names","kinds","named","taken","name","fields","body","deed"] ["names","kinds"] (aj fv):=cI zk
theorem AW (F:Fun K "kinds_named" "kinds_named" fv f fd) (B:Bl mg) (NW:Fn P w K mg base "names_with_fields" 2 ["names","fields"] tW) (DO:Fn P w K mg base "deed_of" 2 ["names","body"] jk):FnOk P w K mg base bY 3 f fd ["names","kinds"] yT:=by
 have ZZ:=scKN
 walk_at "o"
 ·obtain ⟨d,tk,us,ks,kds,rfl,hN,ht,hk,hnd,hfs,h10,h8,q⟩:=h;have hu:=gi hr;have sz:(1000:Nat)<=sizeLine:=by decide
  refine ⟨_,ag (au (i:=2) scKN.nd rfl (Or.inl rfl) (aP ad))
   (ag (au (i:=3) scKN.nd rfl (Or.inl rfl) eD)
   (ag (cY PassesOwn.never rfl (iY (pv 1)) (cM rfl (aJ (aC (i:=4) scKN.nd rfl (Or.inl rfl)) (aJ (aC (i:=5) scKN.nd rfl (Or.inl rfl)) (aJ (aC (i:=6) scKN.nd rfl (Or.inl rfl)) cb))))
    (ag (bi (nE (sE hu (pv 4) (pv 3))) (ai bD) aL)
    (ag (kM hu (pv 3) (pv 4) cr rfl)
    (ag (au (i:=7) scKN.nd rfl (Or.inl rfl) (aB DO hr rfl (ac (aB NW hr rfl (ac (pv 0) (ac (pv 5) ad))) (ac (pv 6) ad))))
    (ai (aI (bZ DV DU DT aT (pv 2) (ac (aN (ac (pv 4) (ac (pv 5) (ac (pv 7) ad)))) ad))))))))
   (ai (aA (aR bn (by rfl) B.tuple bo (ac (pv 2) ad)))))),?_⟩
  have lk:=hk.length;refine ⟨zlx,fun ln n1=>?_⟩;have s1:=af (o:=.lst []) n1;have e1:(aq H ln (.lst [])) ln=some (.lst []):=ae;generalize aq H ln (.lst ([]:List V))=H1 at *;refine fun lt n2=>?_;have s2:=af (o:=.dK []) n2;have e2:(aq H1 lt (.dK [])) lt=some (.dK []):=ae;have I0:NI H kds ln lt 0 (aq H1 lt (.dK [])):=⟨s1.trans s2,n1,s1.free n2,ap e1 n2,⟨[],s2 _ _ e1,rfl,.nil⟩,e2⟩;generalize aq H1 lt (.dK ([]:List (bT×V)))=H2 at *;refine ⟨_,rfl,tk,rfl,⟨_,SqT.of (I0.sm _ _ ht)⟩,?_⟩;refine o7 (K:=K) (a:=tk) (xs:=us) (fun i σ H'=>∃ v4 v5 v6 v7:Option V,σ=[some (.ref d),some (.ref tk),some (.ref ln),some (.ref lt),v4,v5,v6,v7]/\NI H kds ln lt i H') ⟨_,_,_,_,rfl,I0⟩ (fun i σ H' _ ⟨_,_,_,_,_,I⟩=>SqT.of (I.sm _ _ ht)) ?_ ?_
  ·rintro i x σ H3 hx ⟨v4,v5,v6,v7,rfl,I⟩;obtain ⟨y,hy,hK⟩:=iD hk hx;have hlt:i < kds.length:=(DK.mp hy).1;have hyi:kds[i]=y:=(DK.mp hy).2;obtain ⟨p,tf,b,fu,rfl,hp,htf,hfu,hb⟩:=hK;have etk:kds.take (i+1)=kds.take i++[y]:=by rw [Eu,hy];rfl
   have hym:y∈kds:=hyi ▸ ER hlt;have hno:y.name∉(kds.take i).map Kn.name:=by
    intro hm;have e5:kds=kds.take i++(y::kds.drop (i+1)):=by
     have:=(EE i kds).symm;rw [Ev hlt,hyi] at this;exact this
    rw [e5,DP,D6] at hnd;exact (Fg.mp hnd).2.2 _ hm _ DM rfl
   have hval:=xF hno;have g:DGet H3 lt (.str y.name) none:=by
    have:=DGet.k (k:=Sum.inr y.name) I.tk;rw [hval] at this;exact this
   refine ⟨p,_,rfl,SqT.of (I.sm _ _ hp),rfl,_,_,rfl,_,_,rfl,_,_,rfl,rfl,?_⟩;refine ⟨_,rfl,_,rfl,lt,_,rfl,g,_,rfl,bP ?_⟩;have ltk:(pU ((kds.take i).map Kn.name)).length<=8:=by
    unfold pU;rw [DI,DI,DS];omega
   refine ⟨_,rfl,_,rfl,lt,_,rfl,DPut.k (k:=Sum.inr y.name) I.tk zo,?_⟩;rw [dm _ hval];have et:pU ((kds.take i).map Kn.name)++[(Sum.inr y.name,V.bl true)]=pU ((kds.take (i+1)).map Kn.name):=by
    unfold pU;rw [etk,DP,DP];rfl
   rw [et];obtain ⟨us3,e3,l3,p3⟩:=I.ls;have k4:TupK H3 (aq H3 lt (.dK (pU ((kds.take (i+1)).map Kn.name)))):=xE I.tk;have s4:Same H (aq H3 lt (.dK (pU ((kds.take (i+1)).map Kn.name)))):=aU I.n2 I.sm;have e4:(aq H3 lt (.dK (pU ((kds.take (i+1)).map Kn.name)))) ln=some (.lst us3):=by rw [ao I.ne];exact e3
   have t4:(aq H3 lt (.dK (pU ((kds.take (i+1)).map Kn.name)))) lt=some (.dK (pU ((kds.take (i+1)).map Kn.name))):=ae;have p4:=bR (fun _ _ h=>KindV.kt k4 h) p3;generalize aq H3 lt (.dK (pU ((kds.take (i+1)).map Kn.name)))=H4 at *;have hN4:NmI H4 d ks:=let ⟨kv2,a,b2⟩:=hN;⟨kv2,s4 _ _ a,bR (fun _ _ h=>h.kt (aW s4)) b2⟩;refine ⟨_,rfl,_,rfl,d,tf,fu,ks,y.fs,rfl,hN4,s4 _ _ htf,bR (fun _ _ h=>h.kt (aW s4)) hfu,(hfs y hym).1,by have:=(hfs y hym).2;omega,fun d' H5 s5 nd' nm'=>?_⟩;have s45:=s4.trans s5;refine ⟨_,rfl,.ref d',b,rfl,hb.kt (aW s45),fun b' H6 s6 hb'=>?_⟩;have s46:=s5.trans s6;have s06:=s4.trans s46;refine ⟨_,rfl,.inl ⟨rfl,_,SqL.of (s46 _ _ e4)⟩,_,rfl,_,rfl,_,rfl,zlx,fun pt npt=>?_⟩;have s7:=af (o:=.tup [.str y.name,.ref tf,b']) npt;have e7:=s7 _ _ (s46 _ _ e4);have ept:(aq H6 pt (.tup [.str y.name,.ref tf,b'])) pt=some (.tup [.str y.name,.ref tf,b']):=ae;have s07:=s06.trans s7;generalize aq H6 pt (.tup [V.str y.name,.ref tf,b'])=H7 at *;refine ⟨ln,_,_,rfl,rfl,e7,by rw [l3];omega,?_⟩;have k8:=tH (ys:=us3++[V.ref pt]) e7;have k47:TupK H4 H7:=aW (s46.trans s7);refine ⟨_,_,_,_,rfl,aU I.n1 s07,I.n1,I.n2,I.ne,⟨us3++[.ref pt],ae,by simp [l3],?_⟩,?_⟩
   ·rw [etk];refine dP ⟨pt,tf,b',fu,rfl,k8 _ _ ept,k8 _ _ (s07 _ _ htf),bR (fun _ _ h=>(h.kt (aW s07)).kt k8) hfu,(hb'.kt (aW s7)).kt k8⟩ (bR (fun _ _ h=>(KindV.kt k47 h).kt k8) p4)
   ·rw [ao I.ne.symm];exact s7 _ _ (s46 _ _ t4)
  ·rintro σ H3 ⟨v4,v5,v6,v7,rfl,I⟩;obtain ⟨us3,e3,l3,p3⟩:=I.ls;rw [lk,Ew] at p3;refine ⟨_,rfl,ln,us3,rfl,.inl ⟨SqL.of e3,fun p np=>?_⟩⟩;have s4:=af (o:=.tup us3) np;exact q p us3 _ (I.sm.trans s4) (I.sm.free np) ae (bR (fun _ _ h=>KindV.kt (aW s4) h) p3)
theorem iQ {X:Cx} {es:List Expr} {k:Nat} {pos:Pos} {t:yd} {n:Nat} (h:X.K=K) (hc:X.calm=true) (hg:Ag X es t) (hn:(assignEach es X.env).length=n:=by rfl) (hst:(assignEach es X.env).findIdx? (·.1)=none:=by rfl):PG X (.Tuple es k pos) (yf K n t):=by
 subst h;exact cM hc hg hn hst
def AX (vw vc vd vp vm vg:V) (pn pk:Addr):List (Str×V):=[("width",vw),("cells",vc),("depth",vd),("places",vp),("marks",vm),("gate",vg),("kinds",.ref pn),("kinds_known",.ref pk)]
def CA:List Str:=["width","cells","depth","places","marks","gate","kinds","kinds_known"]
structure Tc (K:ZF) (C:Addr):Prop where
 cl:Cls K C
 na:∀ f∈CA,NoAttr K C f
abbrev lA:Stmt:=cy (cG 68) 0
inductive lB (C:Addr) (vs:List V) (H:Hp) (Q:VK) (Z3:XK):Prop
 | mk (x dx vw vc vd vp vm vg pk us kds:_):vs=[.ref x,vw,vc,vd,vp,vm,vg,.ref pk]->H x=some (.ins C dx [])->H pk=some (.tup us)->Paired (KindV H) us kds->kds.length<=8->(∀ pn H',H' x=some (.ins C dx (AX vw vc vd vp vm vg pn pk))->H pn=none->H' pn=some (.tup (ak (kds.map Kn.name)))->ButO x H H'->Q .non H')->lB C vs H Q Z3
theorem wq:aw ["self","width","cells","depth","places","marks","gate","kinds_known"] ["self","width","cells","depth","places","marks","gate","kinds_known"] (aj lA):=cI zk
theorem yU:(["name","fields","deed"]:List Str).Nodup:=by decide +kernel
theorem tX (F:Fun K "__init__" "Table.__init__" lA f fd) (T:Tc K C) (B:Bl mg):FnOk P w K mg base bY 1 f fd ["self","width","cells","depth","places","marks","gate","kinds_known"] (lB C):=by
 have ZZ:=wq
 walk_at "o"
 ·obtain ⟨x,dx,vw,vc,vd,vp,vm,vg,pk,us,kds,rfl,hx,hk,hp,h8,q⟩:=h;have sz:(1000:Nat)<=sizeLine:=by decide
  refine ⟨_,(ag (cO (pv 0) (pv 1) rfl)
   (ag (cO (pv 0) (pv 2) rfl)
   (ag (cO (pv 0) (pv 3) rfl)
   (ag (cO (pv 0) (pv 4) rfl)
   (ag (cO (pv 0) (pv 5) rfl)
   (ag (cO (pv 0) (pv 6) rfl)
   (ag (cO (pv 0) (aR bn (by rfl) B.tuple bo (ac (dN (N':=["name","fields","deed"]) (ix:=[none,none,none]) (sc0:=aj lA) (N:=["self","width","cells","depth","places","marks","gate","kinds_known"]) rfl zk (iY (pv 7)) (fun C' cl s H fp=>iQ (K:=K) (n:=3) rfl rfl (aJ (aC (i:=0) yU rfl (Or.inl rfl) (.inr rfl)) (aJ (aC (i:=1) yU rfl (Or.inl rfl) (.inr rfl)) (aJ (aC (i:=2) yU rfl (Or.inl rfl) (.inr rfl)) cb)))) (fun _ _ _ _ _=>c0) (fun C' cl s H fp=>pv 0)) ad)) rfl)
   (ai (cO (pv 0) (pv 7) rfl))))))))),?_⟩
  have b0:ButO x H H:=ButO.refl _ _;refine ⟨_,rfl,_,rfl,x,C,dx,_,rfl,hx,T.cl,T.na "width" zk,(by show 0 < 1000;decide),?_⟩;have e1:(aq H x (.ins C dx (aH "width" vw []))) x=some (.ins C dx (aH "width" vw [])):=ae;have b1:ButO x H (aq H x (.ins C dx (aH "width" vw []))):=fun b o e nb=>by rw [ao nb];exact b0 _ _ e nb
  generalize aq H x (.ins C dx (aH "width" vw []))=H1 at *;refine ⟨_,rfl,_,rfl,x,C,dx,_,rfl,e1,T.cl,T.na "cells" zk,(by show 1 < 1000;decide),?_⟩;have e2:(aq H1 x (.ins C dx (aH "cells" vc (aH "width" vw [])))) x=some (.ins C dx (aH "cells" vc (aH "width" vw []))):=ae;have b2:ButO x H (aq H1 x (.ins C dx (aH "cells" vc (aH "width" vw [])))):=fun b o e nb=>by rw [ao nb];exact b1 _ _ e nb
  generalize aq H1 x (.ins C dx (aH "cells" vc (aH "width" vw [])))=H2 at *;refine ⟨_,rfl,_,rfl,x,C,dx,_,rfl,e2,T.cl,T.na "depth" zk,(by show 2 < 1000;decide),?_⟩;have e3:(aq H2 x (.ins C dx (aH "depth" vd (aH "cells" vc (aH "width" vw []))))) x=some (.ins C dx (aH "depth" vd (aH "cells" vc (aH "width" vw [])))):=ae;have b3:ButO x H (aq H2 x (.ins C dx (aH "depth" vd (aH "cells" vc (aH "width" vw []))))):=fun b o e nb=>by rw [ao nb];exact b2 _ _ e nb
  generalize aq H2 x (.ins C dx (aH "depth" vd (aH "cells" vc (aH "width" vw []))))=H3 at *;refine ⟨_,rfl,_,rfl,x,C,dx,_,rfl,e3,T.cl,T.na "places" zk,(by show 3 < 1000;decide),?_⟩;have e4:(aq H3 x (.ins C dx (aH "places" vp (aH "depth" vd (aH "cells" vc (aH "width" vw [])))))) x=some (.ins C dx (aH "places" vp (aH "depth" vd (aH "cells" vc (aH "width" vw []))))):=ae;have b4:ButO x H (aq H3 x (.ins C dx (aH "places" vp (aH "depth" vd (aH "cells" vc (aH "width" vw [])))))):=fun b o e nb=>by rw [ao nb];exact b3 _ _ e nb
  generalize aq H3 x (.ins C dx (aH "places" vp (aH "depth" vd (aH "cells" vc (aH "width" vw [])))))=H4 at *;refine ⟨_,rfl,_,rfl,x,C,dx,_,rfl,e4,T.cl,T.na "marks" zk,(by show 4 < 1000;decide),?_⟩;have e5:(aq H4 x (.ins C dx (aH "marks" vm (aH "places" vp (aH "depth" vd (aH "cells" vc (aH "width" vw []))))))) x=some (.ins C dx (aH "marks" vm (aH "places" vp (aH "depth" vd (aH "cells" vc (aH "width" vw [])))))):=ae;have b5:ButO x H (aq H4 x (.ins C dx (aH "marks" vm (aH "places" vp (aH "depth" vd (aH "cells" vc (aH "width" vw []))))))):=fun b o e nb=>by rw [ao nb];exact b4 _ _ e nb
  generalize aq H4 x (.ins C dx (aH "marks" vm (aH "places" vp (aH "depth" vd (aH "cells" vc (aH "width" vw []))))))=H5 at *;refine ⟨_,rfl,_,rfl,x,C,dx,_,rfl,e5,T.cl,T.na "gate" zk,(by show 5 < 1000;decide),?_⟩;have e6:(aq H5 x (.ins C dx (aH "gate" vg (aH "marks" vm (aH "places" vp (aH "depth" vd (aH "cells" vc (aH "width" vw [])))))))) x=some (.ins C dx (aH "gate" vg (aH "marks" vm (aH "places" vp (aH "depth" vd (aH "cells" vc (aH "width" vw []))))))):=ae;have b6:ButO x H (aq H5 x (.ins C dx (aH "gate" vg (aH "marks" vm (aH "places" vp (aH "depth" vd (aH "cells" vc (aH "width" vw [])))))))):=fun b o e nb=>by rw [ao nb];exact b5 _ _ e nb
  generalize aq H5 x (.ins C dx (aH "gate" vg (aH "marks" vm (aH "places" vp (aH "depth" vd (aH "cells" vc (aH "width" vw [])))))))=H6 at *;have pkx:pk≠x:=by
   rintro rfl;rw [hk] at hx;cases hx
  have hk6:=b6 _ _ hk pkx;have k6:TupK H H6:=b6.kt hx;have hp6:=bR (fun _ _ h=>KindV.kt k6 h) hp;have lk:=hp.length;refine ⟨_,rfl,pk,rfl,⟨_,SqT.of hk6⟩,?_⟩;refine oj (K:=K) (a:=pk) (xs:=us) (fun i ys H'=>H'=H6/\ys=ak ((kds.take i).map Kn.name)) ⟨rfl,rfl⟩ (fun i ys H' hi ⟨a1,a2⟩=>by
    subst a1 a2;refine ⟨SqT.of hk6,?_⟩;unfold ak;rw [DI,DI,DS];omega) ?_ ?_
  ·rintro i z ys H' hz ⟨rfl,rfl⟩;obtain ⟨y,hy,p,tf,bb,fu,rfl,hpp,_⟩:=iD hp6 hz;have hlt:i < us.length:=(DK.mp hz).1;refine ⟨p,_,rfl,SqT.of hpp,rfl,_,_,rfl,_,_,rfl,_,_,rfl,rfl,trivial,dk ?_⟩;refine ⟨_,rfl,Nx.mk hlt ⟨rfl,?_⟩⟩;rw [Eu,hy];unfold ak;simp
  ·rintro ys H' ⟨rfl,rfl⟩ D hD;rw [lk,Ew];have s7:=af (o:=.lst (ak (kds.map Kn.name))) hD;have e7:(aq H' D (.lst (ak (kds.map Kn.name)))) D=some (.lst (ak (kds.map Kn.name))):=ae;have x7:=s7 _ _ e6;generalize aq H' D (.lst (ak (kds.map Kn.name)))=H7 at *;refine ⟨D,_,rfl,.inl ⟨SqL.of e7,fun pn npn=>?_⟩⟩;have s8:=af (o:=.tup (ak (kds.map Kn.name))) npn;have e8:(aq H7 pn (.tup (ak (kds.map Kn.name)))) pn=some (.tup (ak (kds.map Kn.name))):=ae;have x8:=s8 _ _ x7;have b8:=(b6.same s7).same s8;have nH:H pn=none:=fU (b6.same s7) x7 npn;generalize aq H7 pn (.tup (ak (kds.map Kn.name)))=H8 at *;have pnx:pn≠x:=by
    rintro rfl;rw [nH] at hx;cases hx
   refine ⟨_,rfl,x,C,dx,_,rfl,x8,T.cl,T.na "kinds" zk,(by show 6 < 1000;decide),?_⟩;refine ⟨_,rfl,_,rfl,x,C,dx,_,rfl,ae,T.cl,T.na "kinds_known" zk,(by show 7 < 1000;decide),?_⟩;refine q pn _ ?_ nH ?_ ?_
   ·rw [ae];rfl
   ·rw [ao pnx,ao pnx];exact e8
   ·intro b o e nb;rw [ao nb,ao nb];exact b8 _ _ e nb
def fY (D:Fm):List (Str×Str):=D.places.map (fun z=>(z,("place":Str)))++D.marks.map (fun z=>(z,("mark":Str)))
def gR (D:Fm):V:=match D.gates with
 | []=>.non
 | z::_=>.str z
structure ip (D:Fm):Prop where
 nd:((fY D).map (·.1)).Nodup
 gt:∀ z∈D.gates,z∈D.marks
 g1:D.gates.length<=1
 kn:(D.kinds.map Kn.name).Nodup
 kf:∀ x∈D.kinds,((fY D++x.fs).map (·.1)).Nodup/\x.fs.length<=3
 p4:D.places.length<=4
 m3:D.marks.length<=3
 k8:D.kinds.length<=8
inductive TabV (C:Addr) (H:Hp) (v:V) (D:Fm):Prop
 | mk (a dx pp pm pn pk us:_):v=.ref a->H a=some (.ins C dx (AX (.int D.width) (.int D.cells) (.int D.depth) (.ref pp) (.ref pm) (gR D) pn pk))->H pp=some (.tup (ak D.places))->H pm=some (.tup (ak D.marks))->H pn=some (.tup (ak (D.kinds.map Kn.name)))->H pk=some (.tup us)->Paired (KindV H) us D.kinds->TabV C H v D
inductive yV (C:Addr) (vs:List V) (H:Hp) (Q:VK) (Z3:XK):Prop
 | mk (u D:_):vs=[u]->tJ H u D->ip D->(∀ v H',Same H H'->TabV C H' v D->Q v H')->yV C vs H Q Z3
variable {H H':Hp}
theorem NmI.same {d:Addr} {ks:List (Str×Str)} (h:NmI H d ks) (s:Same H H'):NmI H' d ks:=let ⟨kv,a,b⟩:=h;⟨kv,s _ _ a,bR (fun _ _ h=>h.kt (aW s)) b⟩
theorem tY {A B:List (Str×Str)} {x:Str×Str} (h:((A++x::B).map (·.1)).Nodup):x.1∉A.map (·.1):=by
 rw [DP,D6] at h;intro hm;exact (Fg.mp h).2.2 _ hm _ DM rfl
theorem scTF:aw ["form","width","cells","depth","places","marks","gates","kinds","names","i","name","gate","kinds_known"] ["form"] (aj eO):=cI zk
theorem AY {fd fdi:FuncData} (F:Fun K "table_of_form" "table_of_form" eO f fd) (B:Bl mg) (B3:zV mg) (MK:Mk K C fi) (mgT:mg "Table"=some (.ref C)) (IN:FnOk P w K mg base bY 1 fi fdi ["self","width","cells","depth","places","marks","gate","kinds_known"] (lB C)) (bI:Binds K fdi ["self","width","cells","depth","places","marks","gate","kinds_known"] [])
  (AN:Fn P w K mg base "add_name" 1 ["names","name","sort","sel"] fV) (NK:Fn P w K mg base "need_known" 1 ["names","name","sorts"] (fB K)) (KN:Fn P w K mg base "kinds_named" 3 ["names","kinds"] yT):FnOk P w K mg base bY 4 f fd ["form"] (yV C):=by
 have ZZ:=scTF
 walk_at "o"
 ·obtain ⟨u,D,rfl,⟨p,pp,pm,pg,pk,us,rfl,hp,hpp,hpm,hpg,hpk,hus⟩,hD,q⟩:=h;have sz:(1000:Nat)<=sizeLine:=by decide
  refine ⟨_,ag (ff (pv 0) (cM rfl (aJ (aC (i:=1) scTF.nd rfl (Or.inl rfl)) (aJ (aC (i:=2) scTF.nd rfl (Or.inl rfl)) (aJ (aC (i:=3) scTF.nd rfl (Or.inl rfl)) (aJ (aC (i:=4) scTF.nd rfl (Or.inl rfl)) (aJ (aC (i:=5) scTF.nd rfl (Or.inl rfl)) (aJ (aC (i:=6) scTF.nd rfl (Or.inl rfl)) (aJ (aC (i:=7) scTF.nd rfl (Or.inl rfl)) cb)))))))))
   (ag (au (i:=8) scTF.nd rfl (Or.inl rfl) eD)
   (aM (fun σ H'=>∃ (d:Addr) (v9 v10 v11 v12:Option V),σ=[some (.ref p),some (.int D.width),some (.int D.cells),some (.int D.depth),some (.ref pp),some (.ref pm),some (.ref pg),some (.ref pk),some (.ref d),v9,v10,v11,v12]/\H d=none/\Same H H'/\NmI H' d (D.places.map (fun z=>(z,("place":Str))))) (cY PassesOwn.never rfl (gP rfl B3.enumerate (ac (pv 4) ad)) (cM rfl (aJ (aC (i:=9) scTF.nd rfl (Or.inl rfl)) (aJ (aC (i:=10) scTF.nd rfl (Or.inl rfl)) cb))) (ai (aI (aB AN hr.m rfl (ac (pv 8) (ac (pv 10) (ac am (ac (aN (ac am (ac (pv 9) ad))) ad))))))))
   (aM (fun σ H'=>∃ (d:Addr) (v9 v10 v11 v12:Option V),σ=[some (.ref p),some (.int D.width),some (.int D.cells),some (.int D.depth),some (.ref pp),some (.ref pm),some (.ref pg),some (.ref pk),some (.ref d),v9,v10,v11,v12]/\H d=none/\Same H H'/\NmI H' d (fY D)) (cY PassesOwn.never rfl (gP rfl B3.enumerate (ac (pv 5) ad)) (cM rfl (aJ (aC (i:=9) scTF.nd rfl (Or.inl rfl)) (aJ (aC (i:=10) scTF.nd rfl (Or.inl rfl)) cb))) (ai (aI (aB AN hr.m rfl (ac (pv 8) (ac (pv 10) (ac am (ac (aN (ac am (ac (pv 9) ad))) ad))))))))
   (ag (au (i:=11) scTF.nd rfl (Or.inl rfl) cu)
   (aM (fun σ H'=>∃ (d:Addr) (v9 v10 v11 v12:Option V),σ=[some (.ref p),some (.int D.width),some (.int D.cells),some (.int D.depth),some (.ref pp),some (.ref pm),some (.ref pg),some (.ref pk),some (.ref d),v9,v10,v11,v12]/\v11=some (gR D)/\H d=none/\Same H H'/\NmI H' d (fY D)) (cY PassesOwn.never rfl (iY (pv 6)) (aC (i:=10) scTF.nd rfl (Or.inl rfl)) (ag (aI (aB NK hr.m rfl (ac (pv 8) (ac (pv 10) (ac (aN (ac am ad)) ad))))) (ai (au (i:=11) scTF.nd rfl (Or.inl rfl) (pv 10)))))
   (ag (au (i:=12) scTF.nd rfl (Or.inl rfl) (aB KN hr rfl (ac (pv 8) (ac (pv 7) ad))))
   (ai (aA (kB MK IN hr.m rfl mgT bI .nil dL (ac (pv 1) (ac (pv 2) (ac (pv 3) (ac (pv 4) (ac (pv 5) (ac (pv 11) (ac (pv 12) ad)))))))))))))))),?_⟩
  refine ⟨_,rfl,p,_,rfl,SqT.of hp,rfl,_,_,rfl,_,_,rfl,_,_,rfl,_,_,rfl,_,_,rfl,_,_,rfl,_,_,rfl,rfl,?_⟩;refine fun d nd=>?_;have s1:=af (o:=.dK []) nd;have I1:NmI (aq H d (.dK [])) d []:=⟨[],ae,.nil⟩;generalize aq H d (.dK ([]:List (bT×V)))=H1 at *;refine ⟨?_,?_⟩
  ·rintro σ H2 ⟨d,v9,v10,v11,v12,rfl,nd,s2,I2⟩;refine ⟨?_,?_⟩
   ·rintro σ H3 ⟨d,v9,v10,v11,v12,rfl,nd,s3,I3⟩;refine ⟨?_,?_⟩
    ·rintro σ H4 ⟨d,v9,v10,v11,v12,rfl,rfl,nd,s4,I4⟩;refine ⟨_,rfl,_,rfl,d,pk,us,fY D,D.kinds,rfl,I4,s4 _ _ hpk,bR (fun _ _ h=>KindV.kt (aW s4) h) hus,hD.kn,hD.kf,?_,hD.k8,fun p5 us5 H5 s5 n5 e5 k5=>?_⟩
     ·unfold fY;rw [DL,DI,DI];have:=hD.p4;have:=hD.m3;omega
     have s05:=s4.trans s5;refine ⟨_,rfl,_,rfl,_,rfl,_,rfl,_,rfl,_,rfl,_,rfl,fun x dx nx ndx ne=>?_⟩;refine ⟨x,dx,_,_,_,_,_,_,p5,us5,D.kinds,rfl,ae,(aU nx (af ndx)) _ _ e5,bR (fun _ _ h=>KindV.kt (aW (aU nx (af ndx))) h) k5,hD.k8,fun pn H7 e7 npn epn b7=>⟨rfl,?_⟩⟩;have s57:Same H5 H7:=du nx (aU nx (af ndx)) b7;have s07:=s05.trans s57;exact q _ _ s07 ⟨x,dx,pp,pm,pn,p5,us5,rfl,e7,s07 _ _ hpp,s07 _ _ hpm,epn,s57 _ _ e5,bR (fun _ _ h=>KindV.kt (aW s57) h) k5⟩
    ·refine ⟨_,rfl,pg,rfl,⟨_,SqT.of (s3 _ _ hpg)⟩,?_⟩;refine o7 (K:=K) (a:=pg) (xs:=ak D.gates) (fun i σ H'=>∃ (v9 v10 v11 v12:Option V),σ=[some (.ref p),some (.int D.width),some (.int D.cells),some (.int D.depth),some (.ref pp),some (.ref pm),some (.ref pg),some (.ref pk),some (.ref d),v9,v10,v11,v12]/\v11=some (if i=0 then .non else gR D)/\Same H H'/\NmI H' d (fY D)) ⟨_,_,_,_,rfl,rfl,s3,I3⟩ (fun i σ H' _ ⟨_,_,_,_,_,_,s',_⟩=>SqT.of (s' _ _ hpg)) ?_ ?_
     ·rintro i x σ Ha hx ⟨w9,w10,w11,w12,rfl,rfl,sa,Ia⟩;have hg1:=hD.g1;have hgt:=hD.gt;have hlt0:i < (ak D.gates).length:=(DK.mp hx).1;unfold ak at hx hlt0;rw [DI] at hlt0;cases hgs:D.gates with
      | nil=>rw [hgs] at hlt0;simp at hlt0
      | cons z r=>
       rw [hgs] at hx hlt0 hg1 hgt;have hi0:i=0:=by simp only [DQ] at hg1 hlt0;omega
       subst hi0;have exz:x=.str z:=by simpa using hx.symm
       subst exz;have hzm:=hgt z DM;refine ⟨_,rfl,_,rfl,zlx,fun t nt=>?_⟩;have sb:=af (o:=.tup [.str "mark"]) nt;refine ⟨d,fY D,z,"mark",t,["mark"],rfl,Ia.same sb,?_,hD.nd,.inr (SqT.of ae),by simp,fun qq sl Hb sc eb=>?_⟩
       ·exact Ek _ (D2.mpr ⟨z,hzm,rfl⟩)
       refine ⟨_,rfl,_,_,_,_,rfl,?_,(sa.trans sb).trans sc,(Ia.same sb).same sc⟩;rw [if_neg zo];unfold gR;rw [hgs]
     ·rintro σ Ha ⟨w9,w10,w11,w12,rfl,rfl,sa,Ia⟩;refine ⟨d,_,_,_,_,rfl,?_,nd,sa,Ia⟩;have ell:(ak D.gates).length=D.gates.length:=by unfold ak;rw [DI]
      rw [ell];cases hgs:D.gates with
      | nil=>
       unfold gR;rw [hgs];rfl
      | cons z r=>rw [if_neg (by simp)]
   ·refine ⟨_,rfl,pm,rfl,⟨_,SqT.of (s2 _ _ hpm)⟩,?_⟩;refine fN (K:=K) (l:=pm) (xs:=ak D.marks) (fun i σ H'=>∃ (v9 v10 v11 v12:Option V),σ=[some (.ref p),some (.int D.width),some (.int D.cells),some (.int D.depth),some (.ref pp),some (.ref pm),some (.ref pg),some (.ref pk),some (.ref d),v9,v10,v11,v12]/\Same H H'/\NmI H' d (D.places.map (fun z=>(z,("place":Str)))++(D.marks.take i).map (fun z=>(z,("mark":Str))))) ⟨_,_,_,_,rfl,s2,by simpa using I2⟩ (fun i σ H' _ ⟨_,_,_,_,_,s',_⟩=>SqT.of (s' _ _ hpm)) ?_ ?_
    ·rintro i x σ Ha T1 hx nT ⟨w9,w10,w11,w12,rfl,sa,Ia⟩;obtain ⟨z,hz,rfl⟩:∃ z,D.marks[i]?=some z/\x=.str z:=by
      unfold ak at hx;rw [Ec] at hx;cases hh:D.marks[i]? with
      | none=>rw [hh] at hx;cases hx
      | some z=>rw [hh] at hx;exact ⟨z,rfl,(D5 hx).symm⟩
     have hlt:i < D.marks.length:=(DK.mp hz).1;have hzi:D.marks[i]=z:=(DK.mp hz).2;have sb:=af (o:=.tup [.int (i:Int),.str z]) nT;refine ⟨T1,_,rfl,SqT.of ae,rfl,_,_,rfl,_,_,rfl,rfl,?_⟩;refine ⟨_,rfl,_,rfl,_,rfl,zlx,fun t nt=>?_⟩;have sc:=af (o:=.tup [.str "is",.int (i:Int)]) nt;have sac:=sa.trans (sb.trans sc);have etk:(D.marks.take (i+1)).map (fun z=>(z,("mark":Str)))=(D.marks.take i).map (fun z=>(z,("mark":Str)))++[(z,("mark":Str))]:=by rw [Eu,hz,DP];rfl
     refine ⟨d,_,z,"mark",.ref t,rfl,Ia.same (sb.trans sc),?_,?_,fun Hb Ib bb=>⟨_,_,_,_,rfl,du nd sac bb,?_⟩⟩
     ·have hh:=hD.nd;have e5:fY D=(D.places.map (fun z=>(z,("place":Str)))++(D.marks.take i).map (fun z=>(z,("mark":Str))))++((z,("mark":Str))::(D.marks.drop (i+1)).map (fun z=>(z,("mark":Str)))):=by
       have:=(EE i D.marks).symm;rw [Ev hlt,hzi] at this;unfold fY
       (conv=>lhs;rw [this]);simp
      rw [e5] at hh;exact tY hh
     ·simp only [DL,DI,DS,Em];have:=hD.p4;have:=hD.m3;omega
     ·rw [etk,<-En];exact Ib
    ·rintro σ Ha ⟨w9,w10,w11,w12,rfl,sa,Ia⟩;have ell:(ak D.marks).length=D.marks.length:=by unfold ak;rw [DI]
     rw [ell,Ew] at Ia;exact ⟨d,_,_,_,_,rfl,nd,sa,Ia⟩
  ·refine ⟨_,rfl,pp,rfl,⟨_,SqT.of (s1 _ _ hpp)⟩,?_⟩;refine fN (K:=K) (l:=pp) (xs:=ak D.places) (fun i σ H'=>∃ (v9 v10 v11 v12:Option V),σ=[some (.ref p),some (.int D.width),some (.int D.cells),some (.int D.depth),some (.ref pp),some (.ref pm),some (.ref pg),some (.ref pk),some (.ref d),v9,v10,v11,v12]/\Same H H'/\NmI H' d ([]++(D.places.take i).map (fun z=>(z,("place":Str))))) ⟨_,_,_,_,rfl,s1,by simpa using I1⟩ (fun i σ H' _ ⟨_,_,_,_,_,s',_⟩=>SqT.of (s' _ _ hpp)) ?_ ?_
   ·rintro i x σ Ha T1 hx nT ⟨w9,w10,w11,w12,rfl,sa,Ia⟩;obtain ⟨z,hz,rfl⟩:∃ z,D.places[i]?=some z/\x=.str z:=by
     unfold ak at hx;rw [Ec] at hx;cases hh:D.places[i]? with
     | none=>rw [hh] at hx;cases hx
     | some z=>rw [hh] at hx;exact ⟨z,rfl,(D5 hx).symm⟩
    have hlt:i < D.places.length:=(DK.mp hz).1;have hzi:D.places[i]=z:=(DK.mp hz).2;have sb:=af (o:=.tup [.int (i:Int),.str z]) nT;refine ⟨T1,_,rfl,SqT.of ae,rfl,_,_,rfl,_,_,rfl,rfl,?_⟩;refine ⟨_,rfl,_,rfl,_,rfl,zlx,fun t nt=>?_⟩;have sc:=af (o:=.tup [.str "is",.int (i:Int)]) nt;have sac:=sa.trans (sb.trans sc);have etk:(D.places.take (i+1)).map (fun z=>(z,("place":Str)))=(D.places.take i).map (fun z=>(z,("place":Str)))++[(z,("place":Str))]:=by rw [Eu,hz,DP];rfl
    refine ⟨d,_,z,"place",.ref t,rfl,Ia.same (sb.trans sc),?_,?_,fun Hb Ib bb=>⟨_,_,_,_,rfl,du nd sac bb,?_⟩⟩
    ·have hh:=hD.nd;have e5:fY D=([]++(D.places.take i).map (fun z=>(z,("place":Str))))++((z,("place":Str))::(D.places.drop (i+1)).map (fun z=>(z,("place":Str)))++D.marks.map (fun z=>(z,("mark":Str)))):=by
      have:=(EE i D.places).symm;rw [Ev hlt,hzi] at this;unfold fY
      (conv=>lhs;rw [this]);simp
     rw [e5] at hh;exact tY hh
    ·simp only [DL,DI,DS,Em];have:=hD.p4;have:=hD.m3;omega
    ·rw [etk,<-En];exact Ib
   ·rintro σ Ha ⟨w9,w10,w11,w12,rfl,sa,Ia⟩;have ell:(ak D.places).length=D.places.length:=by unfold ak;rw [DI]
    rw [ell,Ew] at Ia;exact ⟨d,_,_,_,_,rfl,nd,sa,by simpa using Ia⟩
inductive wt (C:Addr) (xs:List V) (H:Hp) (Q:VK) (Z3:XK):Prop
 | mk (l:List Nat) (D:Fm):xs=[.str (S l)]->l.length<=20000->(TK.toks l).length<=1500->k7 ((TK.toks l).map S) D->ip D->(∀ v H',Same H H'->TabV C H' v D->Q v H')->wt C xs H Q Z3
theorem wu (ts:List (List Nat)):vs ts=ak (ts.map S):=by
 unfold vs ak;rw [EV];rfl
theorem CB:aw ["text"] ["text"] (aj gC):=cI zk
theorem AZ (F:Fun K "read_table" "read_table" gC f fd) (B:Bl mg) (hM:mg "MOST_SIGNS"=some (.int 20000 tM)) (TO:Fn P w K mg base "tokens_of" 3 ["text"] oP) (RF:Fn P w K mg base "read_form" 7 ["tokens"] oK) (TF:Fn P w K mg base "table_of_form" 4 ["form"] (yV C)):FnOk P w K mg base bY 8 f fd ["text"] (wt C):=by
 have ZZ:=CB
 walk_at "o"
 ·obtain ⟨l,D,rfl,hl,ht,hF,hO,q⟩:=h;have sz:(100000:Nat)<=sizeLine:=by decide
  refine ⟨_,ag (bi (PW.pt (dX (cL (cX (av (dW (T:="str")) (by rfl) B.isinstance cw (ac (pv 0) (ac (pe_ty (by rfl) B.str eE) ad))))) (di (ar jQ (av bW (by rfl) B.len D3 (ac (pv 0) ad)) (bJ (v:=.int 20000) rfl hM ⟨_,rfl⟩))))) (ai bD) aL)
   (ai (aA (aB TF hr.m rfl (ac (aB RF hr rfl (ac (aB TO hr.m rfl (ac (pv 0) ad)) ad)) ad)))),?_⟩
  refine ⟨_,rfl,_,_,_,rfl,.str _,rfl,_,rfl,bP ?_⟩;refine ⟨_,rfl,S l,rfl,(by rw [bx];omega),_,_,rfl,rfl,_,rfl,bQ (decide_eq_false (by rw [bx];omega)) ?_⟩;refine ⟨_,rfl,l,rfl,zo,fun p H1 np e1 s1=>?_⟩;rw [wu] at e1;refine ⟨p,_,D,rfl,e1,by rw [DI];exact ht,hF,fun u H2 s2 hu=>?_⟩;exact ⟨u,D,rfl,hu,hO,fun v H3 s3 hv=>q v H3 (s1.trans (s2.trans s3)) hv⟩
abbrev lC:Stmt:=cy (cG 68) 1
abbrev iq:Stmt:=cy (cG 68) 2
inductive gS (C:Addr) (vs:List V) (H:Hp) (Q:VK) (Z3:XK):Prop
 | mk (v D z:_) (j:Nat):vs=[v,.str z]->TabV C H v D->(D.kinds.map Kn.name)[j]?=some z->(∀ m,m < j->(D.kinds.map Kn.name)[m]?≠some z)->Q (.int j) H->gS C vs H Q Z3
inductive tZ (C:Addr) (vs:List V) (H:Hp) (Q:VK) (Z3:XK):Prop
 | mk (v D:_) (x:Kn):vs=[v,.str x.name]->TabV C H v D->ip D->x∈D.kinds->(∀ tf us,H tf=some (.tup us)->Paired (FldV H) us x.fs->Q (.ref tf) H)->tZ C vs H Q Z3
theorem ua {l:List Str} (nd:l.Nodup) {j:Nat} {z:Str} (h:l[j]?=some z):∀ m,m < j->l[m]?≠some z:=by
 intro m hm e;have h1:=(DK.mp h).1;have h2:=(DK.mp h).2;have h3:=(DK.mp e).1;have h4:=(DK.mp e).2;exact List.pairwise_iff_getElem.mp nd m j h3 h1 hm (by rw [h2,h4])
theorem xG {α β:Type} {R:α->β->Prop}:∀ {xs:List α} {ys:List β},Paired R xs ys->∀ {i:Nat} {y:β},ys[i]?=some y->∃ x,xs[i]?=some x/\R x y
 | _,_,.cons h t,0,y,e=>by
  simp at e;exact ⟨_,rfl,e ▸ h⟩
 | _,_,.cons h t,i+1,y,e=>by
  obtain ⟨x,a,b⟩:=xG t (i:=i) (y:=y) (by simpa using e);exact ⟨x,by simpa using a,b⟩
theorem yW {α:Type} {x:α}:∀ {l:List α},x∈l->∃ j:Nat,l[j]?=some x:=fun h=>let ⟨j,hj,e⟩:=List.getElem_of_mem h;⟨j,by rw [D9 hj,e]⟩
theorem TabV.same {v:V} {D:Fm} (h:TabV C H v D) (s:Same H H'):TabV C H' v D:=
 let ⟨a,dx,pp,pm,pn,pk,us,e,b,c,d,f,g,i⟩:=h
 ⟨a,dx,pp,pm,pn,pk,us,e,s _ _ b,s _ _ c,s _ _ d,s _ _ f,s _ _ g,bR (fun _ _ h=>KindV.kt (aW s) h) i⟩
theorem ub:aw ["self","kind"] ["self","kind"] (aj lC):=cI zk
theorem qO (F:Fun K "kind_at" "Table.kind_at" lC f fd) (T:Tc K C):FnOk P w K mg base bY 1 f fd ["self","kind"] (gS C):=by
 have ZZ:=ub
 walk_at "o"
 ·obtain ⟨v,D,z,j,rfl,⟨a,dx,pp,pm,pn,pk,us,rfl,ho,hpp,hpm,hpn,hpk,hus⟩,hj,hf,q⟩:=h;refine ⟨_,ag (bi (ar c9 (pv 1) (bL (pv 0) rfl) rfl) (ai bD) aL)
   (ai (aA (yz PySem.F.plainAttrs_tuple PySem.F.slot_tuple_index PySem.F.type_tuple_index mL (bL (pv 0) rfl) (ac (pv 1) ad)))),?_⟩
  have hz:z∈D.kinds.map Kn.name:=D4 hj;refine ⟨_,rfl,_,rfl,a,C,dx,_,_,rfl,ho,T.cl,T.na "kinds" zk,rfl,pn,_,rfl,.inr (SqT.of hpn),rfl,cA _,_,rfl,bQ ?_ ?_⟩
  ·show (!jZ (.str z) (ak (D.kinds.map Kn.name)))=false;rw [eG,Ex.mpr hz];rfl
  ·exact ⟨_,rfl,a,C,dx,_,_,rfl,ho,T.cl,T.na "kinds" zk,rfl,pn,_,rfl,hpn,_,rfl,pn,_,z,j,rfl,rfl,SqT.of hpn,hj,hf,q⟩
theorem CC:aw ["self","kind"] ["self","kind"] (aj iq):=cI zk
theorem A0 (F:Fun K "fields_of" "Table.fields_of" iq f fd) (T:Tc K C) (KA:eX P w K mg base C "kind_at" 1 ["self","kind"] (gS C)):FnOk P w K mg base bY 2 f fd ["self","kind"] (tZ C):=by
 have ZZ:=CC
 walk_at "o"
 ·obtain ⟨v,D,x,rfl,hT,hD,hx,q⟩:=h;obtain ⟨a,dx,pp,pm,pn,pk,us,rfl,ho,hpp,hpm,hpn,hpk,hus⟩:=id hT;have hr1:Room 1 _:=hr;obtain ⟨f1,fd1,M1,F1,B1⟩:=KA;refine ⟨_,ai (aA (aZ cZ (aZ cZ (bL (pv 0) rfl) (bX (pv 0) (ac (pv 1) ad))) ah)),?_⟩;obtain ⟨j,hj⟩:=yW hx;obtain ⟨u,hu,p,tf,b,fu,rfl,hp,htf,hfu,hb⟩:=xG hus hj;have hjn:(D.kinds.map Kn.name)[j]?=some x.name:=by rw [Ec,hj];rfl
  refine ⟨_,rfl,a,C,dx,_,_,rfl,ho,T.cl,T.na "kinds_known" zk,rfl,_,rfl,a,dx,C,f1,_,fd1,1,["self","kind"],_,rfl,ho,rfl,T.cl,M1,F1,hr1,B1,_,rfl,_,D,x.name,j,rfl,hT,hjn,ua hD.kn hjn,?_⟩;exact ⟨pk,us,_,_,rfl,rfl,SqT.of hpk,bN hu,p,_,_,_,rfl,rfl,SqT.of hp,rfl,q tf fu htf hfu⟩
def eU (D:Fm) (n:Nat) (st:Str):Nat:=if st="place" then D.places.length else if st="mark" then D.marks.length else if st="number" then 2 ^ D.width else n+1
theorem yX:aw ["thing","width"] ["thing","width"] (aj sS):=cI zk
theorem qP:aw ["table","sort","thing","rows"] ["table","sort","thing","rows"] (aj gx):=cI zk
structure Rw where
 k:Kn
 ops:List Nat
def bH (l:List Nat):List V:=l.map fun (n:Nat)=>V.int (n:Int)
def gT (D:Fm) (n:Nat) (r:Rw):Prop:=r.k∈D.kinds/\Paired (fun o (f:Str×Str)=>o < eU D n f.2) r.ops r.k.fs
inductive RowV (H:Hp) (u:V) (r:Rw):Prop
 | mk (p t:_):u=.ref p->H p=some (.tup [.str r.k.name,.ref t])->H t=some (.tup (bH r.ops))->RowV H u r
theorem RowV.kt {u:V} {r:Rw} (k:TupK H H') (h:RowV H u r):RowV H' u r:=let ⟨p,t,a,b,c⟩:=h;⟨p,t,a,k _ _ b,k _ _ c⟩
theorem yY {l:List Nat} {i:Nat} {x:V} (h:(bH l)[i]?=some x):∃ o,l[i]?=some o/\x=.int (o:Int):=by
 unfold bH at h;rw [Ec] at h;cases e:l[i]? with
 | none=>rw [e] at h;cases h
 | some o=>rw [e] at h;exact ⟨o,rfl,(D5 h).symm⟩
structure Da (mg:Str->Option Value):Prop where
 zip:mg "zip"=none
theorem scIsRow:aw ["table","thing","rows","fields","operands"] ["table","thing","rows"] (aj kO):=cI zk
theorem yZ:(["name","sort","number","rows","table"]:List Str).Nodup:=by decide +kernel
def cp (z:Str):List Nat:=z.cps.toList
theorem fZ (z:Str):S (cp z)=z:=(yB z).symm
theorem oQ (l:List Nat):cp (S l)=l:=rfl
theorem uc (l:List Str):(l.map cp).map S=l:=by
 rw [EV];refine Eq.trans ?_ (List.map_id l);exact List.map_congr_left fun z _=>fZ z
theorem fC (sep:List Nat):∀ ts:List (List Nat),(S sep).join (ts.map S)=S (TK.jn sep ts)
 | []=>rfl
 | [t]=>rfl
 | t::u::r=>by
  have ih:=fC sep (u::r);show S t++S sep++(S sep).join ((u::r).map S)=S (t++(sep++TK.jn sep (u::r)));rw [ih,gj,gj,En]
theorem ud {c:Nat}:∀ {a b x y:List Nat},c∉a->c∉b->a++(c::x)=b++(c::y)->a=b/\x=y
 | [],[],x,y,_,_,h=>by simpa using h
 | [],b::bs,x,y,_,hb,h=>by
  simp at h;exact absurd (h.1 ▸ DM) hb
 | a::as,[],x,y,ha,_,h=>by
  simp at h;exact absurd (h.1 ▸ DM) ha
 | a::as,b::bs,x,y,ha,hb,h=>by
  simp at h;obtain ⟨h1,h2⟩:=h;obtain ⟨h3,h4⟩:=ud (a:=as) (b:=bs) (fun z=>ha (DR _ z)) (fun z=>hb (DR _ z)) h2;exact ⟨by rw [h1,h3],h4⟩
theorem oR (sep:List Nat):∀ ts:List (List Nat),(TK.jn sep ts).length<=(ts.map List.length).sum+ts.length*sep.length
 | []=>by simp [TK.jn]
 | [t]=>by simp [TK.jn]
 | t::u::r=>by
  have ih:=oR sep (u::r);show (t++(sep++TK.jn sep (u::r))).length<=_;rw [DL,DL];simp only [D6,List.sum_cons,DQ] at ih ⊢;have:(r.length+1+1)*sep.length=(r.length+1)*sep.length+sep.length:=by rw [Nat.add_mul (r.length+1) 1,Nat.one_mul]
  omega
theorem jm (k:Nat):∀ ts:List (List Nat),(∀ t∈ts,t.length<=k)->(ts.map List.length).sum<=ts.length*k
 | [],_=>by simp
 | t::r,h=>by
  have ih:=jm k r (fun t ht=>h t (DR _ ht));have:=h t DM;simp only [D6,List.sum_cons,DQ];have:(r.length+1)*k=r.length*k+k:=by rw [Nat.add_mul,Nat.one_mul]
  omega
theorem y2:(" ":Str)=S [32]:=by decide +kernel
end L3
namespace L2
open PySem PySem.Spec PyProof.Rows
structure FunD (K:ZF) (x qual:Str) (st:Stmt) (f:Addr) (fd:FuncData):Prop where
 ex:∃ (oc:Value) (od:Option Addr) (kV doc pm:Value) (an:Option Addr) (cdv ct:Value) (osl:Array (Option Value)) (d:Addr) (o:Obj) (n:Nat),
  fd=PySem.W.fnOf x qual (cz st) (cc st) (aj st) (.ref d) kV doc pm an cdv ct/\K.lookup f=some ⟨oc,od,.func fd,osl⟩/\PySem.W.codeIn K cdv qual=true/\K.lookup d=some o/\o.data=.seq #[.none] n
 kp:PySem.W.keepIn K (.ref f)=true
end L2
namespace L3
open PySem L2
abbrev oS:Stmt:=cy (cG 39) 0
def ww (t:Addr) (vb:V):List (Str×V):=[("rows",.ref t),("bell",vb)]
structure Pc (K:ZF) (C:Addr):Prop where
 cl:Cls K C
 n1:NoAttr K C "rows"
 n2:NoAttr K C "bell"
def iE:Option Nat->V
 | none=>.non
 | some n=>.int (n:Int)
structure Zr (mg:Str->Option Value) (tm:Tok):Prop where
 mr:mg "MOST_ROWS"=some (.int 40 tm)
section
variable {P:Program} {w:World} {K:ZF} {mg:Str->Option Value} {base:Heap} {C Cp:Addr} {tb tm:Tok}
theorem wx:aw ["self","rows","bell"] ["self","rows","bell"] (aj oS):=cI zk
end
structure Db (D:Fm):Prop where
 pl:∀ z∈D.places,NameS z
 mrk:∀ z∈D.marks,NameS z
 kn:∀ x∈D.kinds,NameS x.name
def dv (ts:List (List Nat)):List V:=ts.map fun t=>V.str (S t)
variable {z:Str}
theorem NameS.len (h:NameS z):(cp z).length<=8:=by
 have:=h.2.2.1;have e:z.length=(cp z).length:=by unfold cp;simp [Str.length]
 omega
theorem NameS.pos (h:NameS z):1<=(cp z).length:=by
 have:=h.2.1;have e:z.length=(cp z).length:=by unfold cp;simp [Str.length]
 omega
variable {c:Nat}
theorem ue (sep:List Nat):∀ {ts:List (List Nat)},c∈TK.jn sep ts->c∈sep\/∃ t∈ts,c∈t
 | [],h=>by simp [TK.jn] at h
 | [t],h=>.inr ⟨t,DM,h⟩
 | t::u::r,h=>by
  have h':c∈t++(sep++TK.jn sep (u::r)):=h;rcases D0.mp h' with h'|h'
  ·exact .inr ⟨t,DM,h'⟩
  rcases D0.mp h' with h'|h'
  ·exact .inl h'
  rcases ue sep h' with h'|⟨x,hx,hc⟩
  ·exact .inl h'
  ·exact .inr ⟨x,DR _ hx,hc⟩
variable {r:List (List Nat)} {sep t:List Nat}
theorem y3 (h:t≠[]):TK.jn sep (t::r)≠[]:=by
 cases r with
 | nil=>exact h
 | cons u r=>
  intro e;have e':t++(sep++TK.jn sep (u::r))=[]:=e;exact h (List.append_eq_nil_iff.mp e').1
theorem lD {α:Type} {x:α} {r:List α}:nV (x::r) 0=some x:=bN (j:=0) (xs:=x::r) rfl
variable {i:Nat}
theorem ir (h:i < 2 ^ 25):((i:Nat):Int).natAbs.log2 < 1920:=by
 rw [Int.natAbs_natCast];by_cases h0:i=0
 ·rw [h0];decide
 ·rw [Nat.log2_lt h0];exact Ed h (Nat.pow_le_pow_right zd zd)
def stems:List (List Nat):=[[],[115,101,116],[105,102],[116,111,112],[110,101,120,116],[98],[103,111],[99,97,108,108]]
def jo (fi k:Nat):List Nat:=[([113,118,106,121,122]:List Nat).getD ((fi+2*k) % 5) 0]++List.replicate (k / 5) 97
def y4 (stem:List Nat) (way fi k:Nat):List Nat:=if way=0 then stem++jo fi k else if way=1 then jo fi k++stem else stem.take (k % (stem.length+1))++jo fi k
def bj (si way fi m:Nat):List (List Nat):=(List.range m).map (y4 (stems.getD si []) way fi)
def ownC:List (List Nat):=ownL.map cp
def Dc (t:List Nat):Bool:=decide (1<=t.length) && decide (t.length<=8) && !ownC.contains t && t.all fun c=>decide (97<=c) && decide (c<=122)
def BR:List (List Nat)->Bool
 | []=>true
 | t::r=>!r.contains t && BR r
theorem uf:∀ {l:List (List Nat)},BR l=true->l.Nodup
 | [],_=>List.nodup_nil
 | t::r,h=>by
  unfold BR at h;simp at h;exact EL.mpr ⟨h.1,uf h.2⟩
theorem wy:((List.range 8).all fun si=>(List.range 3).all fun way=>(List.range 5).all fun fi=>BR (bj si way fi 10) && (bj si way fi 10).all Dc)=true:=by decide +kernel
variable {si way fi:Nat}
theorem jp (h1:si < 8) (h2:way < 3) (h3:fi < 5):(bj si way fi 10).Nodup/\∀ t∈bj si way fi 10,1<=t.length/\t.length<=8/\t∉ownC/\∀ c∈t,97<=c/\c<=122:=by
 have h:=Eh.mp (Eh.mp (Eh.mp wy si (Ez.mpr h1)) way (Ez.mpr h2)) fi (Ez.mpr h3);obtain ⟨ha,hb⟩:=Bool.and_eq_true_iff.mp h;refine ⟨uf ha,fun t ht=>?_⟩;have ho:=Eh.mp hb t ht;unfold Dc at ho;simp only [Er,decide_eq_true_eq,Eh,Bool.not_eq_true'] at ho;obtain ⟨⟨⟨h4,h5⟩,h6⟩,h7⟩:=ho;refine ⟨h4,h5,fun hm=>?_,h7⟩;rw [Ex.mpr hm] at h6;cases h6
variable {m:Nat}
theorem gU (h:m<=10):bj si way fi m=(bj si way fi 10).take m:=by
 unfold bj;rw [<-List.map_take,List.take_range,E6 h]
inductive jq (vs:List V) (H:Hp) (Q:VK) (Z3:XK):Prop
 | mk (p:Addr) (m:Nat):vs=[.ref p,.int m]->Strm H p->m<=10->(∀ (l:Addr) H' (si way fi:Nat),si < 8->way < 3->fi < 5->Strm H' p->But p H H'->H l=none->H' l=some (.lst (dv (bj si way fi m)))->Q (.ref l) H')->jq vs H Q Z3
theorem wz (h:si < 8):([("":Str),"set","if","top","next","b","go","call"].map V.str)[si]?=some (.str (S (stems.getD si []))):=by
 have e:([("":Str),"set","if","top","next","b","go","call"]:List Str)=stems.map S:=by decide +kernel
 rw [e,EV,Ec];have hl:si < stems.length:=h;rw [D9 hl];simp [hl]
theorem ug (si:Nat):(stems.getD si []).length<=4:=by
 by_cases h:si < 8
 ·revert si;decide +kernel
 ·have:stems.getD si []=[]:=by
   rw [List.getD_eq_getElem?_getD,List.getElem?_eq_none (by show 8<=si;omega)];rfl
  rw [this];simp
section
variable {P:Program} {w:World} {K:ZF} {mg:Str->Option Value} {base:Heap} {C Cp:Addr} {tb tm:Tok}
theorem scLNames:aw ["_law_stream_here","_law_many","_law_stem","_law_way","_law_first","_law_names_here","_law_k","_law_tail"] ["_law_stream_here","_law_many"] (aj oo):=cI zk
theorem qQ {f:Addr} {fd:FuncData} (F:Fun K "_law_names" "_law_names" oo f fd) (B:Bl mg) (TK':Fn P w K mg base "_law_take" 1 ["_law_stream_here","_law_many"] fz):FnOk P w K mg base bY 2 f fd ["_law_stream_here","_law_many"] jq:=by
 have ZZ:=scLNames
 walk_at "o"
 ·obtain ⟨p,m,rfl,hp,hm,q⟩:=h;have sz:(100000:Nat)<=sizeLine:=by decide
  refine ⟨_,ag (au (i:=2) scLNames.nd rfl (Or.inl rfl) (aZ aY (aP (ac am (ac am (ac am (ac am (ac am (ac am (ac am (ac am ad))))))))) (aB TK' hr rfl (ac (pv 0) (ac ah ad)))))
   (ag (au (i:=3) scLNames.nd rfl (Or.inl rfl) (aB TK' hr rfl (ac (pv 0) (ac ah ad))))
   (ag (au (i:=4) scLNames.nd rfl (Or.inl rfl) (aB TK' hr rfl (ac (pv 0) (ac ah ad))))
   (ag (au (i:=5) scLNames.nd rfl (Or.inl rfl) (aP ad))
   (ag (cY PassesOwn.never rfl (dZ rfl B.range (ac (pv 1) ad)) (aC (i:=6) scLNames.nd rfl (Or.inl rfl))
    (ag (au (i:=7) scLNames.nd rfl (Or.inl rfl) (aG cD (aZ hX am (aG dS (aG bO (pv 4) (aG fg ah (pv 6))) ah)) (aG fO am (aG o8 (pv 6) ah))))
    (ai (bi (ar cB (pv 3) ah) (ai (aI (bZ DV DU DT aT (pv 5) (ac (aG cD (pv 2) (pv 7)) ad))))
     (ai (bi (ar cB (pv 3) ah) (ai (aI (bZ DV DU DT aT (pv 5) (ac (aG cD (pv 7) (pv 2)) ad))))
      (ai (aI (bZ DV DU DT aT (pv 5) (ac (aG cD (br kK (pv 2) bM (bv (aG dS (pv 6) (aG bO (av bW (by rfl) B.len D3 (ac (pv 2) ad)) ah)))) (pv 7)) ad))))))))))
   (ai (aA (pv 5))))))),?_⟩
  refine ⟨zlx,fun l8 n8=>?_⟩;have s1:=af (o:=.lst ([("":Str),"set","if","top","next","b","go","call"].map V.str)) n8;have hp1:=hp.same s1;have e8:(aq H l8 (.lst ([("":Str),"set","if","top","next","b","go","call"].map V.str))) l8=some (.lst ([("":Str),"set","if","top","next","b","go","call"].map V.str)):=ae;refine ⟨_,rfl,p,8,rfl,hp1,zd,zd,fun si H2 hsi g2 b2=>?_⟩;have n8p:=hp.ne n8;refine ⟨l8,_,_,_,rfl,rfl,SqL.of (b2 _ _ e8 n8p.symm),bN (wz hsi),?_⟩;have b02:But p H H2:=(fw s1).trans b2;refine ⟨_,rfl,p,3,rfl,g2,zd,zd,fun way H3 hway g3 b3=>?_⟩;refine ⟨_,rfl,p,5,rfl,g3,zd,zd,fun fi H4 hfi g4 b4=>?_⟩;have b04:But p H H4:=b02.trans (b3.trans b4);clear b02 b2 b3 b4 g2 g3;refine ⟨zlx,fun ln nln=>?_⟩;have s5:=af (o:=.lst []) nln;have e5:(aq H4 ln (.lst [])) ln=some (.lst []):=ae;have g5:=g4.same s5;have pln:p≠ln:=g4.ne nln;have nH:H ln=none:=by
   cases h:H ln with
   | none=>rfl
   | some o=>
    have:=b04 _ _ h pln.symm;rw [nln] at this;cases this
  have b05:But p H (aq H4 ln (.lst [])):=b04.same s5;generalize aq H4 ln (.lst ([]:List V))=H5 at *;refine ⟨_,rfl,_,rfl,zo,zo,?_⟩;rw [show ((m:Int)).toNat=m from EJ m];have sl:=ug si;refine jO (lo:=0) (n:=m) (fun i σ H'=>∃ v6 v7:Option V,σ=[some (.ref p),some (.int m),some (.str (S (stems.getD si []))),some (.int way),some (.int fi),some (.ref ln),v6,v7]/\Strm H' p/\But p H H'/\H' ln=some (.lst (dv (bj si way fi i)))) ⟨_,_,rfl,g5,b05,e5⟩ ?_ ?_
  ·rintro k σ H6 hk ⟨v6,v7,rfl,g6,b6,e6⟩;have hk':k < m:=hk;have e0:((0:Int)+(k:Int))=(k:Int):=by omega
   rw [e0];have hmod:((fi:Int)+2*(k:Int)) % 5=(((fi+2*k) % 5:Nat):Int):=by omega
   have hdiv:(k:Int) / 5=((k / 5:Nat):Int):=by omega
   have hq5:(fi+2*k) % 5 < 5:=Nat.mod_lt _ zd;have qat:∀ j < 5,("qvjyz":Str).cps.toList[j]?=some (([113,118,106,121,122]:List Nat).getD j 0):=by decide +kernel
   have tlen:(jo fi k).length<=3:=by
    unfold jo;rw [DL,EA];simp;omega
   refine ⟨_,rfl,_,rfl,_,_,rfl,rfl,.inl ⟨zd,zd⟩,_,_,rfl,rfl,_,_,rfl,rfl,(by show (0:Int) < 5;decide),?_⟩;refine ⟨"qvjyz",_,_,rfl,rfl,zk,by show nV _ (((fi:Int)+2*(k:Int)) % 5)=_;rw [hmod];exact bN (qat _ hq5),?_⟩;refine ⟨_,rfl,_,_,rfl,rfl,⟨by show (0:Int) < 5;decide,by show (5:Int) < 1073741824;decide⟩,?_⟩;refine ⟨97,k / 5,congrArg V.str zk,congrArg V.int hdiv,zo,?_⟩;refine ⟨_,_,rfl,rfl,?_,?_⟩
   ·show 1+(S _).length<=_;rw [bx,EA];omega
   have et:((⟨#[([113,118,106,121,122]:List Nat).getD ((fi+2*k) % 5) 0]⟩:Str)++S (List.replicate (k / 5) 97))=S (jo fi k):=gj [_] _;rw [et];have fin:∀ nm,nm=y4 (stems.getD si []) way fi k->∃ v6 v7:Option V,[some (V.ref p),some (.int m),some (.str (S (stems.getD si []))),some (.int way),some (.int fi),some (.ref ln),some (.int k),some (.str (S (jo fi k)))]=[some (.ref p),some (.int m),some (.str (S (stems.getD si []))),some (.int way),some (.int fi),some (.ref ln),v6,v7]/\Strm (aq H6 ln (.lst (dv (bj si way fi k)++[.str (S nm)]))) p/\But p H (aq H6 ln (.lst (dv (bj si way fi k)++[.str (S nm)])))/\(aq H6 ln (.lst (dv (bj si way fi k)++[.str (S nm)]))) ln=some (.lst (dv (bj si way fi (k+1)))):=by
    rintro nm rfl;refine ⟨_,_,rfl,?_,?_,?_⟩
    ·obtain ⟨x,y,z,e⟩:=g6;exact ⟨x,y,z,by rw [ao pln];exact e⟩
    ·intro b o e nb;rw [ao (ap e nH)];exact b6 _ _ e nb
    ·rw [ae];unfold bj dv;rw [List.range_succ,DP,DP];rfl
   have lnm:(dv (bj si way fi k)).length < sizeLine:=by
    unfold dv bj;rw [DI,DI,List.length_range];omega
   refine ⟨_,rfl,rfl,_,rfl,kF (fun h=>?_) (fun h=>?_)⟩
   ·have h':(way:Int)=0:=V.int.inj (of_decide_eq_true h);have hw0:way=0:=by omega
    refine ⟨_,rfl,.inl ⟨rfl,_,SqL.of e6⟩,_,rfl,_,rfl,_,_,rfl,rfl,by rw [bx,bx];omega,ln,_,_,rfl,rfl,e6,lnm,?_⟩;rw [gj];exact fin _ (by unfold y4;rw [if_pos hw0])
   have nw0:way≠0:=fun e=>h (decide_eq_true (by rw [e];rfl));refine ⟨_,rfl,rfl,_,rfl,kF (fun h=>?_) (fun h=>?_)⟩
   ·have h':(way:Int)=1:=V.int.inj (of_decide_eq_true h);have hw1:way=1:=by omega
    refine ⟨_,rfl,.inl ⟨rfl,_,SqL.of e6⟩,_,rfl,_,rfl,_,_,rfl,rfl,by rw [bx,bx];omega,ln,_,_,rfl,rfl,e6,lnm,?_⟩;rw [gj];exact fin _ (by unfold y4;rw [if_neg nw0,if_pos hw1])
   have nw1:way≠1:=fun e=>h (decide_eq_true (by rw [e];rfl));refine ⟨_,rfl,.inl ⟨rfl,_,SqL.of e6⟩,_,rfl,_,rfl,_,rfl,_,rfl,by rw [bx];omega,_,_,rfl,rfl,_,_,rfl,rfl,?_,_,rfl,_,rfl,zo,?_⟩
   ·rw [bx];show (0:Int) < ((stems.getD si []).length:Int)+1;omega
   have hcut:fX (stems.getD si []) none (some ((k:Int) % (((S (stems.getD si [])).length:Int)+1)))=(stems.getD si []).take (k % ((stems.getD si []).length+1)):=by
    rw [bx];have e1:(k:Int) % (((stems.getD si []).length:Int)+1)=((k % ((stems.getD si []).length+1):Nat):Int):=by
     rw [Int.natCast_emod];rfl
    have hlt:k % ((stems.getD si []).length+1) < (stems.getD si []).length+1:=Nat.mod_lt _ zo;unfold fX;rw [e1,HT.sIx_none,HT.sIx_nat,E6 zo,E9,Nat.sub_zero]
   refine ⟨_,rfl,_,_,rfl,rfl,?_,ln,_,_,rfl,rfl,e6,lnm,?_⟩
   ·have:(fX (stems.getD si []) none (some ((k:Int) % (((S (stems.getD si [])).length:Int)+1)))).length<=4:=by
     rw [hcut,DS];omega
    rw [bx,bx];exact Ef (Nat.add_le_add this tlen) zo
   ·rw [gj];exact fin _ (by unfold y4;rw [if_neg nw0,if_neg nw1];exact congrArg (·++_) hcut)
  ·rintro σ H6 ⟨v6,v7,rfl,g6,b6,e6⟩;exact ⟨_,rfl,q ln H6 si way fi hsi hway hfi g6 b6 nH e6⟩
end
variable {K:ZF} {X:Cx}
theorem mX (h:X.K=K):zT X (yl K):=by subst h;exact aY
theorem lE (h:X.K=K):zT X (ym K):=by subst h;exact cZ
theorem uh (h:X.K=K):c8 X (.builtin "len") (fun xs H Q=>∃ p ys,xs=[.ref p]/\(SqL K H p ys\/SqT K H p ys)/\Q (.int ys.length) H):=by subst h;exact ay
variable {y:V} {kvs:List (bT×V)}
theorem bS {k:bT}:bq (aQ kvs k y) k=some y:=by rw [mD,if_pos rfl]
theorem bz {k j:bT} (h:j≠k):bq (aQ kvs k y) j=bq kvs j:=by rw [mD,if_neg h]
variable {H:Hp}
theorem aX {a:Addr} {v:V} (e:H a=some (.dK kvs)) (h:bq kvs (Sum.inr z)=some v):DGet H a (.str z) (some v):=by
 have:=DGet.k (k:=Sum.inr z) e;rw [h] at this;exact this
theorem mY {α:Type} {x y:α} {r:List α}:nV (x::y::r) 1=some y:=bN (j:=1) (xs:=x::y::r) rfl
theorem jr {p l:Addr} {H H1:Hp} (b:But p H H1) (g:Strm H1 p) (n:H1 l=none):H l=none:=by
 have hl:=g.ne n;cases e:H l with
 | none=>rfl
 | some o=>
  have:=b _ _ e hl.symm;rw [n] at this;cases this
theorem lF (xs:List V) (n:Nat):cC xs (some (n:Int)) none=xs.drop n:=by
 unfold cC;rw [HT.sIx_nat,HT.sIx_none];by_cases h:n<=xs.length
 ·rw [E6 h];exact Ep (by rw [Ea];omega)
 ·rw [Nat.min_eq_right zo,List.drop_of_length_le (DN _),List.drop_of_length_le zo];simp
theorem gE (xs:List V) (n:Nat):cC xs none (some (n:Int))=xs.take n:=by
 unfold cC;rw [HT.sIx_nat,HT.sIx_none,E9,Nat.sub_zero];by_cases h:n<=xs.length
 ·rw [E6 h]
 ·rw [Nat.min_eq_right zo,Ep (DN _),Ep zo]
theorem y6 (xs:List V) (n m:Nat) (h:n+m<=xs.length):cC xs (some (n:Int)) (some ((n+m:Nat):Int))=(xs.drop n).take m:=by
 unfold cC;rw [HT.sIx_nat,HT.sIx_nat,E6 h,E6 (by omega:n<=xs.length),Nat.add_sub_cancel_left]
theorem mZ (l:List (List Nat)) (n:Nat):(dv l).drop n=dv (l.drop n):=by unfold dv;rw [List.map_drop]
theorem js (l:List (List Nat)) (n:Nat):(dv l).take n=dv (l.take n):=by unfold dv;rw [List.map_take]
theorem gV (l:List (List Nat)):dv l=ak (l.map S):=by unfold dv ak;rw [EV];rfl
structure KpV (H:Hp) (d:Addr) (D:Fm) (fn:List Str) (kvs:List (bT×V)) (lf lp lm lk lg:Addr) (ks:List V):Prop where
 dd:H d=some (.dK kvs)
 v1:bq kvs (Sum.inr "width")=some (.int D.width)
 v2:bq kvs (Sum.inr "cells")=some (.int D.cells)
 v3:bq kvs (Sum.inr "depth")=some (.int D.depth)
 v4:bq kvs (Sum.inr "names")=some (.ref lf)
 v5:bq kvs (Sum.inr "places")=some (.ref lp)
 v6:bq kvs (Sum.inr "marks")=some (.ref lm)
 v7:bq kvs (Sum.inr "kinds")=some (.ref lk)
 v8:bq kvs (Sum.inr "gate")=some (.ref lg)
 ef:H lf=some (.lst (ak fn))
 ep:H lp=some (.lst (ak D.places))
 em:H lm=some (.lst (ak D.marks))
 eg:H lg=some (.lst (ak D.gates))
 ek:H lk=some (.lst ks)
 kd:Paired (fun u (x:Kn)=>∃ p l,u=.ref p/\H p=some (.tup [.str x.name,.ref l])/\H l=some (.lst (ak (x.fs.map (·.2))))) ks D.kinds
variable {D:Fm} {d:Addr}
theorem KpV.same {H H':Hp} {fn:List Str} {lf lp lm lk lg:Addr} {ks:List V} (h:KpV H d D fn kvs lf lp lm lk lg ks) (s:Same H H'):KpV H' d D fn kvs lf lp lm lk lg ks:=
 ⟨s _ _ h.dd,h.v1,h.v2,h.v3,h.v4,h.v5,h.v6,h.v7,h.v8,s _ _ h.ef,s _ _ h.ep,s _ _ h.em,s _ _ h.eg,s _ _ h.ek,bR (fun _ _ ⟨p,l,a,b,c⟩=>⟨p,l,a,s _ _ b,s _ _ c⟩) h.kd⟩
structure ShOk (D:Fm) (fn:List Str):Prop where
 w4:4<=D.width
 w24:D.width<=24
 ce:D.cells=4
 de:D.depth=0
 fm:ip D
 nm:Db D
 f3:fn.length=3
 fS:∀ z∈fn,NameS z
 p1:1<=D.places.length
 k1:1<=D.kinds.length
 kf:∀ x∈D.kinds,∃ st,x.fs=fn.zip st/\st.length<=3/\∀ s∈st,s∈sortL/\(s="mark"->1<=D.marks.length)
structure lG (D:Fm) (fn:List Str):Prop where
 w4:4<=D.width
 w24:D.width<=24
 ce:4<=D.cells/\D.cells<=64
 de:D.depth<=8
 fm:ip D
 nm:Db D
 f3:fn.length=3
 fS:∀ z∈fn,NameS z
 p1:1<=D.places.length
 k1:1<=D.kinds.length
 kf:∀ x∈D.kinds,∃ st,x.fs=fn.zip st/\st.length<=3/\∀ s∈st,s∈sortL/\True
theorem ShOk.w {fn:List Str} (h:ShOk D fn):lG D fn:=
 ⟨h.w4,h.w24,⟨by rw [h.ce];decide,by rw [h.ce];decide⟩,by rw [h.de];decide,h.fm,h.nm,h.f3,h.fS,h.p1,h.k1,fun x hx=>let ⟨st,a,b,c⟩:=h.kf x hx;⟨st,a,b,fun s hs=>⟨(c s hs).1,trivial⟩⟩⟩
def NQ (z:Str):Prop:=∀ n,5<=n->z≠S (List.replicate n 113)
structure m5 (D:Fm) (fn:List Str):Prop where
 pq:∀ z∈D.places,NQ z
 mq:∀ z∈D.marks,NQ z
 fq:∀ z∈fn,NQ z
 kq:∀ x∈D.kinds,NQ x.name
 k1:∀ x∈D.kinds,S (cp x.name++[113])∉D.kinds.map Kn.name
 nd:(D.places++D.marks++fn).Nodup
inductive lH (vs:List V) (H:Hp) (Q:VK) (Z3:XK):Prop
 | mk (p:Addr):vs=[.ref p]->Strm H p->(∀ d H' D fn kvs lf lp lm lk lg ks,Strm H' p->But p H H'->KpV H' d D fn kvs lf lp lm lk lg ks->ShOk D fn->m5 D fn->kvs.length<=100->Q (.ref d) H')->lH vs H Q Z3
theorem lI (h:1<=t.length/\t.length<=8/\t∉ownC/\∀ c∈t,97<=c/\c<=122):NameS (S t):=by
 obtain ⟨h1,h2,h3,h4⟩:=h;refine ⟨fun hm=>h3 ?_,by rw [bx];exact h1,by rw [bx];exact h2,h4⟩;exact D2.mpr ⟨_,hm,oQ t⟩
theorem S_inj {a b:List Nat} (h:S a=S b):a=b:=by
 have:=congrArg cp h;exact this
theorem lJ {l:List (List Nat)} (h:l.Nodup):(l.map S).Nodup:=by
 induction h with
 | nil=>exact List.nodup_nil
 | cons hx _ ih=>
  refine EL.mpr ⟨fun hm=>?_,ih⟩;obtain ⟨y,hy,e⟩:=D2.mp hm;exact hx y hy (S_inj e).symm
theorem dw:∀ (a b:List Str),b.length<=a.length->(a.zip b).map (·.1)=a.take b.length
 | _,[],_=>by simp
 | [],_::_,h=>by simp at h
 | x::a,y::b,h=>by
  rw [List.zip_cons_cons,D6,dw a b (by simpa using h)];rfl
theorem bE:∀ (a b:List Str),b.length<=a.length->(a.zip b).map (·.2)=b
 | _,[],_=>by simp
 | [],_::_,h=>by simp at h
 | x::a,y::b,h=>by
  rw [List.zip_cons_cons,D6,bE a b (by simpa using h)]
theorem dQ (l:List Str) (z:Str):(l.map fun y=>(y,z)).map (·.1)=l:=by
 induction l with
 | nil=>rfl
 | cons a r ih=>rw [D6,D6,ih]
variable {W A b g si2 way2 fi2 m2:Nat}
theorem Ba {kds:List Kn} (hW:4<=W) (hW2:W<=24) (hA:1<=A) (hA4:A<=4) (hb:b<=3) (hg:g<=1) (h1:si < 8) (h2:way < 3) (h3:fi < 5) (h4:si2 < 8) (h5:way2 < 3) (h6:fi2 < 5) (hm:1<=m2) (hm8:m2<=8)
  (hk:kds.map Kn.name=(bj si2 way2 fi2 m2).map S) (hf:∀ x∈kds,∃ st,x.fs=(((bj si way fi (A+b+3)).drop (A+b)).map S).zip st/\st.length<=3/\∀ s∈st,s∈sortL/\(s="mark"->1<=b)) :
  ShOk ⟨W,4,0,((bj si way fi (A+b+3)).take A).map S,(((bj si way fi (A+b+3)).drop A).take b).map S,((((bj si way fi (A+b+3)).drop A).take b).take g).map S,kds⟩ (((bj si way fi (A+b+3)).drop (A+b)).map S):=by
 obtain ⟨nd,gd⟩:=jp h1 h2 h3;obtain ⟨nd2,gd2⟩:=jp h4 h5 h6;have e1:=gU (si:=si) (way:=way) (fi:=fi) (m:=A+b+3) zo;have e2:=gU (si:=si2) (way:=way2) (fi:=fi2) (m:=m2) zo;have hl:(bj si way fi (A+b+3)).length=A+b+3:=by unfold bj;rw [DI,List.length_range]
 have hl2:(bj si2 way2 fi2 m2).length=m2:=by unfold bj;rw [DI,List.length_range]
 have ndn:(bj si way fi (A+b+3)).Nodup:=by rw [e1];exact nd.sublist (List.take_sublist _ _)
 have gdn:∀ t∈bj si way fi (A+b+3),NameS (S t):=fun t ht=>lI (gd t (by rw [e1] at ht;exact Ei ht));have ndn2:(bj si2 way2 fi2 m2).Nodup:=by rw [e2];exact nd2.sublist (List.take_sublist _ _)
 have gdn2:∀ t∈bj si2 way2 fi2 m2,NameS (S t):=fun t ht=>lI (gd2 t (by rw [e2] at ht;exact Ei ht));clear e1 e2 nd gd nd2 gd2 h1 h2 h3 h4 h5 h6;generalize bj si way fi (A+b+3)=nm at *;generalize bj si2 way2 fi2 m2=nm2 at *;have lk:kds.length=m2:=by
  have:=congrArg List.length hk;rw [DI,DI,hl2] at this;exact this
 have cat:nm.take A++(nm.drop A).take b=nm.take (A+b):=by rw [List.take_add]
 have sub:∀ n,(nm.take A++(nm.drop A).take b)++(nm.drop (A+b)).take n=nm.take (A+b+n):=fun n=>by rw [cat,<-List.take_add]
 have nds:∀ n,((nm.take (A+b+n)).map S).Nodup:=fun n=>lJ (ndn.sublist (List.take_sublist _ _));refine ⟨hW,hW2,rfl,rfl,⟨?_,?_,?_,?_,?_,?_,?_,?_⟩,⟨?_,?_,?_⟩,?_,?_,?_,?_,?_⟩
 ·unfold fY;rw [DP,dQ,dQ,<-DP,cat];exact nds 0
 ·intro z hz;obtain ⟨t,ht,rfl⟩:=D2.mp hz;exact D2.mpr ⟨t,Ei ht,rfl⟩
 ·show (List.map S _).length<=1;rw [DI,DS];omega
 ·show (List.map Kn.name kds).Nodup;rw [hk];exact lJ ndn2
 ·intro x hx;obtain ⟨st,e,l3,_⟩:=hf x hx;have lf:((nm.drop (A+b)).map S).length=3:=by rw [DI,Ea,hl];omega
  refine ⟨?_,?_⟩
  ·unfold fY;rw [DP,DP,dQ,dQ,e,dw _ _ zo,<-List.map_take,<-DP,<-DP,sub];exact nds _
  ·rw [e,List.length_zip];omega
 ·show (List.map S _).length<=4;rw [DI,DS];omega
 ·show (List.map S _).length<=3;rw [DI,DS];omega
 ·show kds.length<=8;omega
 ·intro z hz;obtain ⟨t,ht,rfl⟩:=D2.mp hz;exact gdn t (Ei ht)
 ·intro z hz;obtain ⟨t,ht,rfl⟩:=D2.mp hz;exact gdn t (List.mem_of_mem_drop (Ei ht))
 ·intro x hx;have:x.name∈kds.map Kn.name:=D2.mpr ⟨x,hx,rfl⟩;rw [hk] at this;obtain ⟨t,ht,e⟩:=D2.mp this;rw [<-e];exact gdn2 t ht
 ·rw [DI,Ea,hl];omega
 ·intro z hz;obtain ⟨t,ht,rfl⟩:=D2.mp hz;exact gdn t (List.mem_of_mem_drop ht)
 ·show 1<=(List.map S _).length;rw [DI,DS];omega
 ·show 1<=kds.length;omega
 ·intro x hx;obtain ⟨st,e,l3,hs⟩:=hf x hx;refine ⟨st,e,l3,fun s h=>⟨(hs s h).1,fun em=>?_⟩⟩;have:=(hs s h).2 em;show 1<=(List.map S _).length;rw [DI,DS,Ea];omega
theorem y8:((List.range 8).all fun si=>(List.range 3).all fun way=>(List.range 5).all fun fi=>(bj si way fi 10).all fun t=>decide (t.length < 5) || decide (t≠List.replicate t.length 113))=true:=by decide +kernel
theorem wB (h1:si < 8) (h2:way < 3) (h3:fi < 5) (hm:m<=10) (ht:t∈bj si way fi m):NQ (S t):=by
 rw [gU hm] at ht;have ht:=Ei ht;have:=y8;simp only [Eh,Ez] at this;have:=this si h1 way h2 fi h3 t ht;intro n hn e;have e:=S_inj e;rw [e] at this;simp at this;omega
theorem CD:(List.range 8).all (fun si=>(List.range 3).all fun way=>(List.range 5).all fun fi=>(List.range 8).all fun k=>(List.range 8).all fun k'=>decide (y4 (stems.getD si []) way fi k++[113]≠y4 (stems.getD si []) way fi k'))=true:=by decide +kernel
theorem Bb (h1:si < 8) (h2:way < 3) (h3:fi < 5) (h4:m<=8) {x:List Nat} (hx:x∈bj si way fi m):x++[113]∉bj si way fi m:=by
 intro hy;unfold bj at hx hy;obtain ⟨k,hk,rfl⟩:=D2.mp hx;obtain ⟨k',hk',e⟩:=D2.mp hy;have hk:=Ez.mp hk;have hk':=Ez.mp hk';have:=CD;simp only [Eh,Ez,decide_eq_true_eq] at this;exact this si h1 way h2 fi h3 k zo k' zo e.symm
theorem Bc {W A b g si way fi si2 way2 fi2 m2:Nat} {kds:List Kn} (hA4:A<=4) (hb:b<=3) (h1:si < 8) (h2:way < 3) (h3:fi < 5) (h4:si2 < 8) (h5:way2 < 3) (h6:fi2 < 5) (hm8:m2<=8) (hk:kds.map Kn.name=(bj si2 way2 fi2 m2).map S) :
  m5 ⟨W,4,0,((bj si way fi (A+b+3)).take A).map S,(((bj si way fi (A+b+3)).drop A).take b).map S,((((bj si way fi (A+b+3)).drop A).take b).take g).map S,kds⟩ (((bj si way fi (A+b+3)).drop (A+b)).map S):=by
 have h10:A+b+3<=10:=by omega
 have hx:∀ x∈kds,∃ t∈bj si2 way2 fi2 m2,x.name=S t:=fun x hx=>by
  have:x.name∈kds.map Kn.name:=D2.mpr ⟨x,hx,rfl⟩;rw [hk] at this;obtain ⟨t,ht,e⟩:=D2.mp this;exact ⟨t,ht,e.symm⟩
 refine ⟨fun z hz=>?_,fun z hz=>?_,fun z hz=>?_,fun x h=>?_,fun x h=>?_,?_⟩
 ·obtain ⟨t,ht,rfl⟩:=D2.mp hz;exact wB h1 h2 h3 h10 (Ei ht)
 ·obtain ⟨t,ht,rfl⟩:=D2.mp hz;exact wB h1 h2 h3 h10 (List.mem_of_mem_drop (Ei ht))
 ·obtain ⟨t,ht,rfl⟩:=D2.mp hz;exact wB h1 h2 h3 h10 (List.mem_of_mem_drop ht)
 ·obtain ⟨t,ht,e⟩:=hx x h;rw [e];exact wB h4 h5 h6 zo ht
 ·obtain ⟨t,ht,e⟩:=hx x h;show _∉kds.map Kn.name;rw [hk,e];intro hm;obtain ⟨u,hu,e2⟩:=D2.mp hm;have e3:=S_inj e2;rw [oQ] at e3;exact Bb h4 h5 h6 hm8 ht (e3 ▸ hu)
 ·show (List.map S _++List.map S _++List.map S _).Nodup;rw [<-DP,<-DP,<-List.take_add,EE];refine lJ ?_;rw [gU h10];exact (jp h1 h2 h3).1.sublist (List.take_sublist _ _)
theorem ui {r:Nat} (h:r < 4):([V.int 1,.int 2,.int 3,.int 8]:List V)[r]?=some (.int (([1,2,3,8]:List Nat).getD r 0:Nat)):=by
 match r,h with
 | 0,_=>rfl
 | 1,_=>rfl
 | 2,_=>rfl
 | 3,_=>rfl
theorem wC {r:Nat} (h:r < 4):1<=([1,2,3,8]:List Nat).getD r 0/\([1,2,3,8]:List Nat).getD r 0<=8:=by
 match r,h with
 | 0,_=>decide
 | 1,_=>decide
 | 2,_=>decide
 | 3,_=>decide
def srt4:List Str:=["place","number","row","mark"]
def dz (b:Nat):Nat:=3+if 0 < b then 1 else 0
theorem wD (b:Nat):(3+(if decide ((b:Int) > 0)=true then 1 else 0):Int)=(dz b:Nat):=by
 unfold dz;by_cases h:0 < b
 ·rw [if_pos h,if_pos (decide_eq_true zo)];rfl
 ·rw [if_neg h,if_neg (by simp;omega)];rfl
variable {s:Str}
theorem wE (h:s∈srt4.take (dz b)):s∈sortL/\(s="mark"->1<=b):=by
 unfold dz at h;by_cases hb:0 < b
 ·refine ⟨?_,fun _=>hb⟩;have:s∈srt4:=Ei h;revert this;show s∈(["place","number","row","mark"]:List Str)->s∈(["place","mark","number","row"]:List Str);intro hm;simp only [DY,Eb,or_false] at hm ⊢;rcases hm with h|h|h|h<;>simp [h]
 ·rw [if_neg hb] at h;have h':s∈(["place","number","row"]:List Str):=h;simp only [DY,Eb,or_false] at h';refine ⟨?_,fun em=>?_⟩
  ·show s∈(["place","mark","number","row"]:List Str);simp only [DY,Eb,or_false];rcases h' with h|h|h<;>simp [h]
  ·rw [em] at h';exact absurd h' zk
theorem wF (b:Nat):(srt4.take (dz b)).length=dz b/\3<=dz b/\dz b<=4:=by
 unfold dz;by_cases h:0 < b
 ·rw [if_pos h];exact ⟨rfl,zd,zd⟩
 ·rw [if_neg h];exact ⟨rfl,zd,zd⟩
variable {x:Addr}
theorem pV {l:List V} {k:List (bT×V)} (h:H x=some (.lst l)) (h':H d=some (.dK k)):x≠d:=by
 rintro rfl;rw [h] at h';cases h'
theorem gm {x y:Addr} {o:HO} (h:H x=some o) (n:H y=none):x≠y:=ap h n
abbrev kS (z:Str):bT:=Sum.inr z
theorem Dy (va vb vc vd:V):∃ kv,ba [] [(kS "width",va),(kS "cells",vb),(kS "depth",vc),(kS "names",vd)]=kv/\kv.length<=4/\bq kv (kS "width")=some va/\bq kv (kS "cells")=some vb/\bq kv (kS "depth")=some vc/\bq kv (kS "names")=some vd:=by
 refine ⟨_,rfl,cq _ _,?_,?_,?_,?_⟩
 ·show bq (aQ (aQ (aQ (aQ [] (kS "width") va) (kS "cells") vb) (kS "depth") vc) (kS "names") vd) _=_;rw [bz zk,bz zk,bz zk,bS]
 ·show bq (aQ (aQ (aQ (aQ [] (kS "width") va) (kS "cells") vb) (kS "depth") vc) (kS "names") vd) _=_;rw [bz zk,bz zk,bS]
 ·show bq (aQ (aQ (aQ (aQ [] (kS "width") va) (kS "cells") vb) (kS "depth") vc) (kS "names") vd) _=_;rw [bz zk,bS]
 ·show bq (aQ (aQ (aQ (aQ [] (kS "width") va) (kS "cells") vb) (kS "depth") vc) (kS "names") vd) _=_;rw [bS]
theorem Dz (kv0:List (bT×V)) (va vb vc:V):∃ kv,ba kv0 (ba [] [(kS "places",va),(kS "marks",vb),(kS "kinds",vc)])=kv/\kv.length<=kv0.length+3/\bq kv (kS "places")=some va/\bq kv (kS "marks")=some vb/\bq kv (kS "kinds")=some vc /\
  bq kv (kS "width")=bq kv0 (kS "width")/\bq kv (kS "cells")=bq kv0 (kS "cells")/\bq kv (kS "depth")=bq kv0 (kS "depth")/\bq kv (kS "names")=bq kv0 (kS "names"):=by
 have e1:ba [] [(kS "places",va),(kS "marks",vb),(kS "kinds",vc)]=([(kS "places",va),(kS "marks",vb),(kS "kinds",vc)]:List (bT×V)):=by
  show aQ (aQ (aQ [] (kS "places") va) (kS "marks") vb) (kS "kinds") vc=_;have h1:aQ ([]:List (bT×V)) (kS "places") va=[(kS "places",va)]:=dm _ rfl;have h2:aQ [(kS "places",va)] (kS "marks") vb=[(kS "places",va),(kS "marks",vb)]:=dm _ (by rw [bG (by show ¬ kS "places"=_;decide +kernel)];rfl);rw [h1,h2];exact dm _ (by rw [bG (by show ¬ kS "places"=_;decide +kernel),bG (by show ¬ kS "marks"=_;decide +kernel)];rfl)
 rw [e1];have e2:ba kv0 [(kS "places",va),(kS "marks",vb),(kS "kinds",vc)]=aQ (aQ (aQ kv0 (kS "places") va) (kS "marks") vb) (kS "kinds") vc:=rfl;refine ⟨_,rfl,cq _ _,?_,?_,?_,?_,?_,?_,?_⟩
 ·rw [e2,bz zk,bz zk,bS]
 ·rw [e2,bz zk,bS]
 ·rw [e2,bS]
 ·rw [e2,bz zk,bz zk,bz zk]
 ·rw [e2,bz zk,bz zk,bz zk]
 ·rw [e2,bz zk,bz zk,bz zk]
 ·rw [e2,bz zk,bz zk,bz zk]
theorem Be {l:List Str} (h:i < l.length):(ak l)[i]?=some (.str l[i]):=by unfold ak;rw [Ec,D9 h];rfl
section
variable {P:Program} {w:World} {K:ZF} {mg:Str->Option Value} {base:Heap} {C Cp:Addr} {tb tm:Tok}
theorem scShape:aw ["_law_stream_here","_law_many","_law_names_here","_law_table","_law_name","_law_sorts"] ["_law_stream_here"] (aj kR):=cI zk
theorem CF:(["_law_k","_law_sorts","_law_stream_here"]:List Str).Nodup:=by decide +kernel
theorem uj {f:Addr} {fd:FuncData} (F:Fun K "_law_shape" "_law_shape" kR f fd) (B:Bl mg) (TK':Fn P w K mg base "_law_take" 1 ["_law_stream_here","_law_many"] fz) (LN:Fn P w K mg base "_law_names" 2 ["_law_stream_here","_law_many"] jq):FnOk P w K mg base bY 3 f fd ["_law_stream_here"] lH:=by
 have ZZ:=scShape
 walk_at "o"
 ·obtain ⟨p,rfl,hp,q⟩:=h;have sz:(100000:Nat)<=sizeLine:=by decide
  have hu:=gi hr;refine ⟨_,aM (fun σ H'=>∃ (lmn:Addr) (A b:Nat),σ=[some (.ref p),some (.ref lmn),none,none,none,none]/\Strm H' p/\But p H H'/\H' lmn=some (.lst [.int (A:Nat),.int (b:Nat)])/\p≠lmn/\1<=A/\A<=4/\b<=3) (au (i:=1) scShape.nd rfl (Or.inl rfl) (aP (ac (aG bO ah (aB TK' hr.m rfl (ac (pv 0) (ac ah ad)))) (ac (aB TK' hr.m rfl (ac (pv 0) (ac ah ad))) ad))))
   (ag (au (i:=2) scShape.nd rfl (Or.inl rfl) (aB LN hr rfl (ac (pv 0) (ac (aG bO (aG bO (aZ aY (pv 1) ah) (aZ aY (pv 1) ah)) ah) ad))))
   (ag (au (i:=3) scShape.nd rfl (Or.inl rfl) (cg (bh am (aG bO ah (aB TK' hr.m rfl (ac (pv 0) (ac ah ad)))) (bh am ah (bh am ah (bh am (br bV (pv 2) (bv (aG bO (aZ aY (pv 1) ah) (aZ aY (pv 1) ah))) bM) cf)))) rfl rfl (by intro z;cases z) (by show 4<=15;decide)))
   (ag (aI (pM (pv 3) (cg (bh am (br bV (pv 2) bM (bv (aZ aY (pv 1) ah))) (bh am (br bV (pv 2) (bv (aZ aY (pv 1) ah)) (bv (aG bO (aZ aY (pv 1) ah) (aZ aY (pv 1) ah)))) (bh am (aP ad) cf))) rfl rfl (by intro z;cases z) (by show 3<=15;decide)) ⟨rfl,rfl,rfl,rfl⟩))
   (ag (kM hu (pv 3) am (br bV (aV hu (pv 3) am) bM (bv (aB TK' hr.m rfl (ac (pv 0) (ac ah ad))))) rfl)
   (ag (cY PassesOwn.never rfl (cW (aB LN hr rfl (ac (pv 0) (ac (aZ aY (aP (ac ah (ac ah (ac ah (ac ah ad))))) (aB TK' hr.m rfl (ac (pv 0) (ac ah ad)))) ad)))) (aC (i:=4) scShape.nd rfl (Or.inl rfl))
    (ag (au (i:=5) scShape.nd rfl (Or.inr rfl) (br bV (aP (ac am (ac am (ac am (ac am ad))))) bM (bv (aG bO ah (aR fJ (by rfl) B.int ED (ac (cH jQ (aZ aY (pv 1) ah) ah) ad))))))
    (ai (aI (bZ DV DU DT aT (aV hu (pv 3) am) (ac (aN (ac (pv 4) (ac (dN (N':=["_law_k","_law_sorts","_law_stream_here"]) (ix:=[none,some 5,some 0]) (sc0:=aj kR) (N:=["_law_stream_here","_law_many","_law_names_here","_law_table","_law_name","_law_sorts"]) rfl zk (dZ rfl B.range (ac (aB TK' hr.m rfl (ac (pv 0) (ac ah ad))) ad))
     (fun C cl s H fp=>aC (i:=0) CF rfl (Or.inl rfl) (.inr rfl)) (fun _ _ _ _ _=>c0) (fun C cl s H fp=>aZ (mX (K:=K) rfl) (pv 1) (aB TK' hr.m rfl (ac (pv 2) (ac (av (uh (K:=K) rfl) (by rfl) B.len D3 (ac (pv 1) ad)) ad))) (fun _ _=>rfl))) ad))) ad))))))
   (ai (aA (pv 3)))))))),?_⟩
  refine ⟨?_,?_⟩
  ·rintro σ H1 ⟨lmn,A,b,rfl,g1,b1,mn1,pmn,hA1,hA4,hb3⟩;refine ⟨_,rfl,_,rfl,lmn,_,_,_,rfl,rfl,SqL.of mn1,lD,_,rfl,lmn,_,_,_,rfl,rfl,SqL.of mn1,mY,_,_,rfl,rfl,_,_,rfl,rfl,p,A+b+3,rfl,g1,zo,fun ln H2 si way fi hsi hway hfi g2 b2 nln e2=>?_⟩;have b02:=b1.trans b2;have mn2:=b2 _ _ mn1 pmn.symm;have pln:p≠ln:=g1.ne nln;clear b2 g1 b1;refine fun d nd=>?_;have s3:=af (o:=.dK []) nd;have ed3:(aq H2 d (.dK [])) d=some (.dK []):=ae;have g3:=g2.same s3;have pd:p≠d:=g2.ne nd;have dH:H d=none:=jr b02 g2 nd;have e3:=s3 _ _ e2;have mn3:=s3 _ _ mn2;have b03:=b02.same s3;generalize aq H2 d (.dK ([]:List (bT×V)))=H3 at *;refine ⟨_,rfl,p,21,rfl,g3,zd,zd,fun w0 H4 hw0 g4 b4=>?_⟩;have ed4:=b4 _ _ ed3 pd.symm;have e4:=b4 _ _ e3 pln.symm;have mn4:=b4 _ _ mn3 pmn.symm;have b04:=b03.trans b4;refine ⟨_,_,rfl,rfl,_,rfl,_,rfl,lmn,_,_,_,rfl,rfl,SqL.of mn4,lD,_,rfl,lmn,_,_,_,rfl,rfl,SqL.of mn4,mY,_,_,rfl,rfl,((A+b:Nat):Int),rfl,ln,_,rfl,SqL.of e4,fun lf nlf=>?_⟩;rw [lF,mZ];have s5:=af (o:=.lst (dv ((bj si way fi (A+b+3)).drop (A+b)))) nlf;have elf5:(aq H4 lf (.lst (dv ((bj si way fi (A+b+3)).drop (A+b))))) lf=some (.lst (dv ((bj si way fi (A+b+3)).drop (A+b)))):=ae;have plf:p≠lf:=g4.ne nlf;have g5:=g4.same s5;have ed5:=s5 _ _ ed4;have e5:=s5 _ _ e4;have mn5:=s5 _ _ mn4;have b05:=b04.same s5;generalize aq H4 lf (.lst (dv ((bj si way fi (A+b+3)).drop (A+b))))=H5 at *;obtain ⟨kv6,ek6,lk6,w1,w2,w3,w4⟩:=Dy (.int ((4+w0:Nat):Int)) (.int 4) (.int 0) (.ref lf);refine ⟨ed5,[(Sum.inr "width",.int ((4+w0:Nat):Int)),(Sum.inr "cells",.int 4),(Sum.inr "depth",.int 0),(Sum.inr "names",.ref lf)],rfl,by show 4<=15;decide,?_⟩;rw [ek6];have ed6:(aq H5 d (.dK kv6)) d=some (.dK kv6):=ae;have k6:∀ x l,H5 x=some (.lst l)->(aq H5 d (.dK kv6)) x=some (.lst l):=fun x l h=>by rw [ao (pV h ed5)];exact h
   have g6:Strm (aq H5 d (.dK kv6)) p:=let ⟨x,y,z,e⟩:=g5;⟨x,y,z,k6 _ _ e⟩;have b06:But p H (aq H5 d (.dK kv6)):=fun b o e nb=>by rw [ao (ap e dH)];exact b05 b o e nb
   have e6:=k6 _ _ e5;have mn6:=k6 _ _ mn5;have elf6:=k6 _ _ elf5;generalize aq H5 d (.dK kv6)=H6 at *;clear g5 g4 g3 g2 ed5 ed4 ed3 e5 e4 e3 e2 mn5 mn4 mn3 mn2 mn1 elf5 b05 b04 b03 b02 s5 s3 b4 nd nlf;refine ⟨_,rfl,d,rfl,.inl ⟨_,.inl ed6⟩,fun d2 nd2=>?_⟩;have dd2:d≠d2:=gm ed6 nd2;have dH2:H d2=none:=jr b06 g6 nd2;have s7:=af (o:=.dK []) nd2;have e2d7:(aq H6 d2 (.dK [])) d2=some (.dK []):=ae;have ed7:=s7 _ _ ed6;have e7:=s7 _ _ e6;have mn7:=s7 _ _ mn6;have elf7:=s7 _ _ elf6;have g7:=g6.same s7;have b07:=b06.same s7;generalize aq H6 d2 (.dK ([]:List (bT×V)))=H7 at *;refine ⟨_,rfl,_,rfl,lmn,_,_,_,rfl,rfl,SqL.of mn7,lD,(A:Int),rfl,ln,_,rfl,SqL.of e7,fun lp nlp=>?_⟩;rw [gE,js];have s8:=af (o:=.lst (dv ((bj si way fi (A+b+3)).take A))) nlp;have elp8:(aq H7 lp (.lst (dv ((bj si way fi (A+b+3)).take A)))) lp=some (.lst (dv ((bj si way fi (A+b+3)).take A))):=ae;have plp:=g7.ne nlp;have ed8:=s8 _ _ ed7;have e2d8:=s8 _ _ e2d7;have e8:=s8 _ _ e7;have mn8:=s8 _ _ mn7;have elf8:=s8 _ _ elf7;have g8:=g7.same s8;have b08:=b07.same s8;generalize aq H7 lp (.lst (dv ((bj si way fi (A+b+3)).take A)))=H8 at *;refine ⟨_,rfl,_,rfl,lmn,_,_,_,rfl,rfl,SqL.of mn8,lD,(A:Int),rfl,_,rfl,lmn,_,_,_,rfl,rfl,SqL.of mn8,lD,_,rfl,lmn,_,_,_,rfl,rfl,SqL.of mn8,mY,_,_,rfl,rfl,((A+b:Nat):Int),rfl,ln,_,rfl,SqL.of e8,fun lm nlm=>?_⟩;have hnl:(dv (bj si way fi (A+b+3))).length=A+b+3:=by unfold dv bj;rw [DI,DI,List.length_range]
   rw [y6 _ A b zo,mZ,js];have s9:=af (o:=.lst (dv (((bj si way fi (A+b+3)).drop A).take b))) nlm;have elm9:(aq H8 lm (.lst (dv (((bj si way fi (A+b+3)).drop A).take b)))) lm=some (.lst (dv (((bj si way fi (A+b+3)).drop A).take b))):=ae;have plm:=g8.ne nlm;have ed9:=s9 _ _ ed8;have e2d9:=s9 _ _ e2d8;have mn9:=s9 _ _ mn8;have elf9:=s9 _ _ elf8;have elp9:=s9 _ _ elp8;have g9:=g8.same s9;have b09:=b08.same s9;generalize aq H8 lm (.lst (dv (((bj si way fi (A+b+3)).drop A).take b)))=H9 at *;refine ⟨zlx,fun lk nlk=>?_⟩;have s10:=af (o:=.lst []) nlk;have elk10:(aq H9 lk (.lst [])) lk=some (.lst []):=ae;have plk:=g9.ne nlk;have lkH:H lk=none:=jr b09 g9 nlk;have nk1:lmn≠lk:=gm mn9 nlk;have nk2:lf≠lk:=gm elf9 nlk;have nk3:lp≠lk:=gm elp9 nlk;have nk4:lm≠lk:=gm elm9 nlk;have nk5:d≠lk:=gm ed9 nlk;have ed10:=s10 _ _ ed9;have e2d10:=s10 _ _ e2d9;have mn10:=s10 _ _ mn9;have elf10:=s10 _ _ elf9;have elp10:=s10 _ _ elp9;have elm10:=s10 _ _ elm9;have g10:=g9.same s10;have b010:=b09.same s10;generalize aq H9 lk (.lst ([]:List V))=H10 at *;clear g9 g8 g7 g6 ed9 ed8 ed7 ed6 e2d9 e2d8 e2d7 e8 e7 e6 mn9 mn8 mn7 mn6 elf9 elf8 elf7 elf6 elp9 elp8 elm9 b09 b08 b07 b06 s10 s9 s8 s7 nlk nlm nlp nd2;obtain ⟨kv12,ek12,lk12,w5,w6,w7,w1',w2',w3',w4'⟩:=Dz kv6 (.ref lp) (.ref lm) (.ref lk);rw [w1] at w1';rw [w2] at w2';rw [w3] at w3';rw [w4] at w4';refine ⟨e2d10,[(Sum.inr "places",.ref lp),(Sum.inr "marks",.ref lm),(Sum.inr "kinds",.ref lk)],rfl,by show 3<=15;decide,d2,kv6,ba [] [(Sum.inr "places",.ref lp),(Sum.inr "marks",.ref lm),(Sum.inr "kinds",.ref lk)],rfl,dd2,by rw [ao dd2];exact ed10,ae,?_,?_⟩
   ·have:=cq [((Sum.inr "places":bT),V.ref lp),(Sum.inr "marks",.ref lm),(Sum.inr "kinds",.ref lk)] [];simp only [DQ,Em] at this;omega
   rw [ek12];generalize hmore:ba [] [((Sum.inr "places":bT),V.ref lp),(Sum.inr "marks",.ref lm),(Sum.inr "kinds",.ref lk)]=more;have ed12:(aq (aq H10 d2 (.dK more)) d (.dK kv12)) d=some (.dK kv12):=ae;have k12:∀ x l,H10 x=some (.lst l)->(aq (aq H10 d2 (.dK more)) d (.dK kv12)) x=some (.lst l):=fun x l h=>by rw [ao (pV h ed10),ao (pV h e2d10)];exact h
   have g12:Strm (aq (aq H10 d2 (.dK more)) d (.dK kv12)) p:=let ⟨x,y,z,e⟩:=g10;⟨x,y,z,k12 _ _ e⟩;have b012:But p H (aq (aq H10 d2 (.dK more)) d (.dK kv12)):=fun b o e nb=>by rw [ao (ap e dH),ao (ap e dH2)];exact b010 b o e nb
   have mn12:=k12 _ _ mn10;have elf12:=k12 _ _ elf10;have elp12:=k12 _ _ elp10;have elm12:=k12 _ _ elm10;have elk12:=k12 _ _ elk10;generalize aq (aq H10 d2 (.dK more)) d (.dK kv12)=H12 at *;clear g10 mn10 elf10 elp10 elm10 elk10 k12 b010 ed10 e2d10 k6;refine ⟨_,rfl,d,_,rfl,aX ed12 w6,_,rfl,p,2,rfl,g12,zd,zd,fun gt H13 hgt g13 b13=>⟨(gt:Int),rfl,lm,_,rfl,SqL.of (b13 _ _ elm12 plm.symm),fun lg nlg=>?_⟩⟩;rw [gE,js];have ed13:=b13 _ _ ed12 pd.symm;have mn13:=b13 _ _ mn12 pmn.symm;have elf13:=b13 _ _ elf12 plf.symm;have elp13:=b13 _ _ elp12 plp.symm;have elm13:=b13 _ _ elm12 plm.symm;have elk13:=b13 _ _ elk12 plk.symm;have b013:=b012.trans b13;have s14:=af (o:=.lst (dv ((((bj si way fi (A+b+3)).drop A).take b).take gt))) nlg;have elg14:(aq H13 lg (.lst (dv ((((bj si way fi (A+b+3)).drop A).take b).take gt)))) lg=some (.lst (dv ((((bj si way fi (A+b+3)).drop A).take b).take gt))):=ae;have plg:=g13.ne nlg;have nk6:lg≠lk:=(gm elk13 nlg).symm;have ed14:=s14 _ _ ed13;have mn14:=s14 _ _ mn13;have elf14:=s14 _ _ elf13;have elp14:=s14 _ _ elp13;have elm14:=s14 _ _ elm13;have elk14:=s14 _ _ elk13;have g14:=g13.same s14;have b014:=b013.same s14;generalize aq H13 lg (.lst (dv ((((bj si way fi (A+b+3)).drop A).take b).take gt)))=H14 at *;refine ⟨_,rfl,d,_,rfl,DPut.k (k:=Sum.inr "gate") ed14 zo,?_⟩;have w8:bq (aQ kv12 (Sum.inr "gate") (.ref lg)) (Sum.inr "gate")=some (.ref lg):=bS;have u1:bq (aQ kv12 (Sum.inr "gate") (.ref lg)) (Sum.inr "width")=some (.int ((4+w0:Nat):Int)):=by rw [bz zk];exact w1'
   have u2:bq (aQ kv12 (Sum.inr "gate") (.ref lg)) (Sum.inr "cells")=some (.int 4):=by rw [bz zk];exact w2'
   have u3:bq (aQ kv12 (Sum.inr "gate") (.ref lg)) (Sum.inr "depth")=some (.int 0):=by rw [bz zk];exact w3'
   have u4:bq (aQ kv12 (Sum.inr "gate") (.ref lg)) (Sum.inr "names")=some (.ref lf):=by rw [bz zk];exact w4'
   have u5:bq (aQ kv12 (Sum.inr "gate") (.ref lg)) (Sum.inr "places")=some (.ref lp):=by rw [bz zk];exact w5
   have u6:bq (aQ kv12 (Sum.inr "gate") (.ref lg)) (Sum.inr "marks")=some (.ref lm):=by rw [bz zk];exact w6
   have u7:bq (aQ kv12 (Sum.inr "gate") (.ref lg)) (Sum.inr "kinds")=some (.ref lk):=by rw [bz zk];exact w7
   have l15:(aQ kv12 (Sum.inr "gate") (.ref lg)).length<=100:=by
    have:=dO kv12 (Sum.inr "gate") (V.ref lg);omega
   generalize aQ kv12 (Sum.inr "gate") (.ref lg)=kv15 at *;have ed15:(aq H14 d (.dK kv15)) d=some (.dK kv15):=ae;have k15:∀ x l,H14 x=some (.lst l)->(aq H14 d (.dK kv15)) x=some (.lst l):=fun x l h=>by rw [ao (pV h ed14)];exact h
   have g15:Strm (aq H14 d (.dK kv15)) p:=let ⟨x,y,z,e⟩:=g14;⟨x,y,z,k15 _ _ e⟩;have b015:But p H (aq H14 d (.dK kv15)):=fun b o e nb=>by rw [ao (ap e dH)];exact b014 b o e nb
   have mn15:=k15 _ _ mn14;have elf15:=k15 _ _ elf14;have elp15:=k15 _ _ elp14;have elm15:=k15 _ _ elm14;have elk15:=k15 _ _ elk14;have elg15:=k15 _ _ elg14;generalize aq H14 d (.dK kv15)=H15 at *;clear g14 g13 g12 ed14 ed13 ed12 mn14 mn13 mn12 elf14 elf13 elf12 elp14 elp13 elp12 elm14 elm13 elm12 elk14 elk13 elk12 elg14 k15 b014 b013 b012 s14 nlg b13;refine ⟨_,rfl,zlx,fun l4 n4=>?_⟩;have s16:=af (o:=.lst [.int 1,.int 2,.int 3,.int 8]) n4;have e16:(aq H15 l4 (.lst [.int 1,.int 2,.int 3,.int 8])) l4=some (.lst [.int 1,.int 2,.int 3,.int 8]):=ae;have p4:=g15.ne n4;have g16:=g15.same s16;generalize aq H15 l4 (.lst [V.int 1,.int 2,.int 3,.int 8])=H16 at *;refine ⟨_,rfl,p,4,rfl,g16,zd,zd,fun rk H17 hrk g17 b17=>?_⟩;obtain ⟨km1,km8⟩:=wC hrk;refine ⟨l4,_,_,_,rfl,rfl,SqL.of (b17 _ _ e16 p4.symm),bN (ui hrk),p,_,rfl,g17,zo,fun lns H18 si2 way2 fi2 hsi2 hway2 hfi2 g18 b18 nlns elns=>?_⟩;have b1518:But p H15 H18:=(fw s16).trans (b17.trans b18);have b018:=b015.trans b1518;have plns:p≠lns:=g17.ne nlns;have ed:=b1518 _ _ ed15 pd.symm;have mn:=b1518 _ _ mn15 pmn.symm;have elf:=b1518 _ _ elf15 plf.symm;have elp:=b1518 _ _ elp15 plp.symm;have elm:=b1518 _ _ elm15 plm.symm;have elk:=b1518 _ _ elk15 plk.symm;have elg:=b1518 _ _ elg15 plg.symm;have nk7:lns≠lk:=by
    rintro rfl;have:=b17 _ _ (s16 _ _ elk15) plk.symm;rw [nlns] at this;cases this
   generalize hm2:([1,2,3,8]:List Nat).getD rk 0=m2 at *;clear g15 g16 g17 ed15 mn15 elf15 elp15 elm15 elk15 elg15 b015 s16 e16 b17 b18 b1518 n4 p4 nlns;have lnm2:(dv (bj si2 way2 fi2 m2)).length=m2:=by unfold dv bj;rw [DI,DI,List.length_range]
   refine ⟨lns,rfl,⟨_,SqL.of elns⟩,?_⟩;refine gI (K:=K) (a:=lns) (xs:=dv (bj si2 way2 fi2 m2)) (fun i σ H'=>∃ (v4 v5:Option V) (ks:List V) (kds:List Kn),σ=[some (.ref p),some (.ref lmn),some (.ref ln),some (.ref d),v4,v5]/\Strm H' p/\(∀ x o,H18 x=some o->x≠p->x≠lk->H' x=some o)/\H' lk=some (.lst ks)/\ks.length=i /\
     Paired (fun u (x:Kn)=>∃ pt l,u=.ref pt/\H' pt=some (.tup [.str x.name,.ref l])/\H' l=some (.lst (ak (x.fs.map (·.2))))/\pt≠p/\pt≠lk/\l≠p/\l≠lk) ks kds/\kds.map Kn.name=((bj si2 way2 fi2 m2).take i).map S/\∀ x∈kds,∃ st,x.fs=(((bj si way fi (A+b+3)).drop (A+b)).map S).zip st/\st.length<=3/\∀ s∈st,s∈sortL/\(s="mark"->1<=b))
    ⟨_,_,[],[],rfl,g18,fun x o e _ _=>e,elk,rfl,.nil,rfl,fun _ z=>nomatch z⟩ (fun i σ H' _ ⟨_,_,_,_,_,_,kp,_⟩=>SqL.of (kp _ _ elns plns.symm nk7)) ?_ ?_
   ·rintro i x σ Ha hx ⟨v4,v5,ks,kds,rfl,ga,kpa,eka,lka,hka,hna,hsa⟩;obtain ⟨t,ht,rfl⟩:∃ t,(bj si2 way2 fi2 m2)[i]?=some t/\x=.str (S t):=by
     unfold dv at hx;rw [Ec] at hx;cases e:(bj si2 way2 fi2 m2)[i]? with
     | none=>rw [e] at hx;cases hx
     | some g=>rw [e] at hx;exact ⟨g,rfl,(D5 hx).symm⟩
    have hi8:i < m2:=by
     have:=(DK.mp hx).1;omega
    have mna:=kpa _ _ mn pmn.symm nk1;have eda:=kpa _ _ ed pd.symm nk5;refine ⟨zlx,fun l5 n5=>?_⟩;have sb:=af (o:=.lst (ak srt4)) n5;have e5:(aq Ha l5 (.lst [V.str "place",.str "number",.str "row",.str "mark"])) l5=some (.lst [V.str "place",.str "number",.str "row",.str "mark"]):=ae;have mnb:=sb _ _ mna;have gb:=ga.same sb;have ekb:=sb _ _ eka;have edb:=sb _ _ eda;refine ⟨_,rfl,lmn,_,_,_,rfl,rfl,SqL.of mnb,mY,_,_,rfl,rfl,.inr ⟨_,rfl,_,_,rfl,rfl,((dz b:Nat):Int),congrArg V.int (wD b),l5,_,rfl,SqL.of e5,fun ls nls=>?_⟩⟩;obtain ⟨sl1,sl2,sl3⟩:=wF b;have ecs:cC [V.str "place",.str "number",.str "row",.str "mark"] none (some ((dz b:Nat):Int))=ak (srt4.take (dz b)):=by
     show cC (ak srt4) none (some ((dz b:Nat):Int))=_;rw [gE];unfold ak;rw [List.map_take]
    rw [ecs];have lss:(ak (srt4.take (dz b))).length=dz b:=by unfold ak;rw [DI,sl1]
    have pls:=gb.ne nls;have nlk:ls≠lk:=(gm ekb nls).symm;have sc:=af (o:=.lst (ak (srt4.take (dz b)))) nls;have elsc:(aq (aq Ha l5 (.lst [V.str "place",.str "number",.str "row",.str "mark"])) ls (.lst (ak (srt4.take (dz b))))) ls=some (.lst (ak (srt4.take (dz b)))):=ae;have sac:Same Ha (aq (aq Ha l5 (.lst [V.str "place",.str "number",.str "row",.str "mark"])) ls (.lst (ak (srt4.take (dz b))))):=sb.trans sc;have gc:=gb.same sc;have ekc:=sc _ _ ekb;have edc:=sc _ _ edb;refine ⟨_,rfl,d,_,rfl,aX edc u7,.inl ⟨rfl,_,SqL.of ekc⟩,?_⟩;generalize aq (aq Ha l5 (.lst [V.str "place",.str "number",.str "row",.str "mark"])) ls (.lst (ak (srt4.take (dz b))))=Hc at *;refine ⟨_,rfl,_,rfl,p,4,rfl,gc,zd,zd,fun cnt Hd hcnt gd bd=>⟨_,rfl,zo,zo,?_⟩⟩;rw [show ((cnt:Int)).toNat=cnt from EJ cnt];refine i8 (lo:=0) (n:=cnt) (fun j ys H'=>∃ st:List Str,Strm H' p/\But p Hd H'/\ys=ak st/\st.length=j/\j<=cnt/\∀ s∈st,s∈srt4.take (dz b)) ⟨[],gd,But.refl _ _,rfl,rfl,Ej _,fun _ z=>nomatch z⟩ (fun j ys H' hj ⟨st,_,_,e1,e2,_⟩=>by rw [e1];unfold ak;rw [DI];omega) ?_ ?_
    ·rintro j ys He hj ⟨st,ge,be,rfl,lst,hjc,hst⟩;have else':=be _ _ (bd _ _ elsc pls.symm) pls.symm;refine ⟨⟨rfl,rfl,trivial⟩,dk ?_⟩;refine ⟨_,rfl,_,rfl,_,rfl,ls,_,rfl,.inl (SqL.of else'),p,_,rfl,ge,zo,zo,fun r Hf hr' gf bf=>?_⟩;have hrl:r < (srt4.take (dz b)).length:=by omega
     refine ⟨ls,_,_,_,rfl,rfl,SqL.of (bf _ _ else' pls.symm),bN (Be hrl),?_⟩;refine Nx.mk hj ⟨st++[(srt4.take (dz b))[r]],gf,be.trans bf,by unfold ak;rw [DP];rfl,by rw [DL,lst];rfl,hj,fun s hs=>?_⟩;rcases D0.mp hs with h|h
     ·exact hst s h
     ·rw [DZ.mp h];exact ER hrl
    rintro ys He ⟨st,ge,be,rfl,lst,hjc,hst⟩ lq nlq;have bce:But p Hc He:=bd.trans be;have sf:=af (o:=.lst (ak st)) nlq;have eqf:(aq He lq (.lst (ak st))) lq=some (.lst (ak st)):=ae;have plq:=ge.ne nlq;have gf:=ge.same sf;have ekf:=sf _ _ (bce _ _ ekc plk.symm);have nlqk:lq≠lk:=(gm (bce _ _ ekc plk.symm) nlq).symm;have bcf:=bce.same sf;generalize aq He lq (.lst (ak st))=Hf at *;refine ⟨zlx,fun pt npt=>?_⟩;have sg:=af (o:=.tup [.str (S t),.ref lq]) npt;have etg:(aq Hf pt (.tup [.str (S t),.ref lq])) pt=some (.tup [.str (S t),.ref lq]):=ae;have ppt:=gf.ne npt;have nptk:pt≠lk:=(gm ekf npt).symm;have gg:=gf.same sg;have ekg:=sg _ _ ekf;have eqg:=sg _ _ eqf;have bcg:=bcf.same sg;generalize aq Hf pt (.tup [V.str (S t),.ref lq])=Hg at *;refine ⟨lk,ks,_,rfl,rfl,ekg,zo,?_⟩;have fnl:(((bj si way fi (A+b+3)).drop (A+b)).map S).length=3:=by
     unfold bj;rw [DI,Ea,DI,List.length_range];omega
    have stl:st.length<=3:=by omega
    refine ⟨_,_,ks++[.ref pt],kds++[⟨S t,(((bj si way fi (A+b+3)).drop (A+b)).map S).zip st⟩],rfl,?_,fun y o e n1 n2=>?_,ae,by simp [lka],?_,?_,fun y hy=>?_⟩
    ·obtain ⟨x1,y1,z1,e⟩:=gg;exact ⟨x1,y1,z1,by rw [ao plk];exact e⟩
    ·rw [ao n2];exact bcg _ _ (sac _ _ (kpa _ _ e n1 n2)) n1
    ·refine dP ⟨pt,lq,rfl,by rw [ao nptk];exact etg,?_,ppt.symm,nptk,plq.symm,nlqk⟩ (bR (fun u y ⟨pt',l',e1,e2,e3,n1,n2,n3,n4⟩=>⟨pt',l',e1,by rw [ao n2];exact bcg _ _ (sac _ _ e2) n1,by rw [ao n4];exact bcg _ _ (sac _ _ e3) n3,n1,n2,n3,n4⟩) hka);rw [ao nlqk,bE _ _ zo];exact eqg
    ·rw [DP,hna,Eu,ht,DP];rfl
    ·rcases D0.mp hy with h|h
     ·exact hsa y h
     ·rw [DZ.mp h];exact ⟨st,rfl,stl,fun s hs=>wE (hst s hs)⟩
   ·rintro σ Ha ⟨v4,v5,ks,kds,rfl,ga,kpa,eka,lka,hka,hna,hsa⟩;rw [lnm2] at hna;have lnn:(bj si2 way2 fi2 m2).length=m2:=by unfold bj;rw [DI,List.length_range]
    have hna':kds.map Kn.name=(bj si2 way2 fi2 m2).map S:=by rw [hna,Ep zo]
    have bfin:But p H Ha:=fun x o e n=>by
     exact kpa _ _ (b018 _ _ e n) n (ap e lkH)
    refine ⟨_,rfl,q d Ha ⟨4+w0,4,0,((bj si way fi (A+b+3)).take A).map S,(((bj si way fi (A+b+3)).drop A).take b).map S,((((bj si way fi (A+b+3)).drop A).take b).take gt).map S,kds⟩ _ kv15 lf lp lm lk lg ks ga bfin ⟨kpa _ _ ed pd.symm nk5,u1,u2,u3,u4,u5,u6,u7,w8,?_,?_,?_,?_,eka,bR (fun u y ⟨pt',l',e1,e2,e3,_⟩=>⟨pt',l',e1,e2,e3⟩) hka⟩ (Ba zo zo hA1 hA4 hb3 zo hsi hway hfi hsi2 hway2 hfi2 km1 km8 hna' hsa) (Bc hA4 hb3 hsi hway hfi hsi2 hway2 hfi2 km8 hna') l15⟩
    ·rw [<-gV];exact kpa _ _ elf plf.symm nk2
    ·rw [<-gV];exact kpa _ _ elp plp.symm nk3
    ·rw [<-gV];exact kpa _ _ elm plm.symm nk4
    ·rw [<-gV];exact kpa _ _ elg plg.symm nk6
  ·refine ⟨_,rfl,p,4,rfl,hp,zd,zd,fun a H1 ha g1 b1=>⟨_,_,rfl,rfl,_,rfl,p,4,rfl,g1,zd,zd,fun b H2 hb g2 b2=>⟨zlx,fun lm nlm=>?_⟩⟩⟩;refine ⟨lm,1+a,b,rfl,g2.same (af nlm),(b1.trans b2).same (af nlm),?_,g2.ne nlm,zo,zo,zo⟩;rw [ae];rfl
end
def iB (c:Nat):Prop:=(97<=c/\c<=122)\/(48<=c/\c<=57)
theorem pW (h:iB c):TK.eY c=false:=by
 unfold iB at h;unfold TK.eY;simp;omega
theorem oU (h:iB c):TK.cQ c=false:=by
 unfold iB at h;unfold TK.cQ;simp;omega
theorem pX (h:iB c) (r:List Nat):TK.hZ (c::r)=0:=by
 have hs:=oU h;unfold iB at h;cases r with
 | nil=>rw [TK.eK,hs];rfl
 | cons d r=>
  rw [TK.da,hs,if_neg (by simp;omega)];rfl
theorem pY:∀ t:List Nat,(∀ c∈t,iB c)->TK.run t=t.length
 | [],_=>rfl
 | c::r,h=>by
  have hc:=h c DM;rw [TK.ck,pW hc,pX hc,if_neg (by simp),pY r (fun d hd=>h d (DR _ hd)),DQ];omega
theorem lK (hne:t≠[]) (h:∀ c∈t,iB c):TK.Tok t:=by
 cases t with
 | nil=>exact absurd rfl hne
 | cons c r=>
  have hc:=h c DM;have:=TK.eL (r:=r) (pW hc);have e:TK.one (c::r)=(c::r).length:=by
   unfold TK.one;rw [if_pos (pX hc r),pY _ h]
  rw [e,Ew] at this;exact this
theorem uk (h:c=40\/c=41\/c=44\/c=59\/c=123\/c=125):TK.Tok [c]:=by
 rcases h with rfl|rfl|rfl|rfl|rfl|rfl
 ·exact TK.eL (c:=40) (r:=[]) rfl
 ·exact TK.eL (c:=41) (r:=[]) rfl
 ·exact TK.eL (c:=44) (r:=[]) rfl
 ·exact TK.eL (c:=59) (r:=[]) rfl
 ·exact TK.eL (c:=123) (r:=[]) rfl
 ·exact TK.eL (c:=125) (r:=[]) rfl
variable {zb:Bool}
def qR (zb:Bool):Str:=if zb then "stop" else "next"
theorem y9 (zb:Bool):EW (qR zb):=by cases zb;exact .inl rfl;exact .inr rfl
def eZ:List (Str×Str)->List (List Nat)
 | []=>[]
 | [x]=>[cp x.1,cp x.2]
 | x::y::r=>cp x.1::cp x.2::[44]::eZ (y::r)
def dA (D:Fm):List (List (List Nat)):=[[cp "word"],[dg D.width],[[59],cp "cells"],[dg D.cells],[[59],cp "depth"],[dg D.depth],[[59],cp "places"]]
def fE (D:Fm):List (List (List Nat)):=D.places.map (fun z=>[cp z])++[[[59],cp "marks"]]++D.marks.map (fun z=>[cp z])
def iu (D:Fm):List (List (List Nat)):=[[[59],cp "gate"]]++D.gates.map (fun z=>[cp z])++[[[59]]]
def iw (zb:Bool) (x:Kn):List (List (List Nat)):=[[cp "kind"],[cp x.name],[[40]],eZ x.fs,[[41],[123],cp (qR zb),[125]]]
def jJ (zb:Bool) (D:Fm):List (List (List Nat)):=dA D++fE D++iu D++(D.kinds.map (iw zb)).flatten
def ul (zb:Bool) (D:Fm):List (List Nat):=((jJ zb) D).flatten
theorem dc (h:r≠[]):TK.jn sep (t::r)=t++(sep++TK.jn sep r):=by
 cases r with
 | nil=>exact absurd rfl h
 | cons u r=>rfl
theorem oV:∀ {a b:List (List Nat)},a≠[]->b≠[]->TK.jn sep (a++b)=TK.jn sep a++(sep++TK.jn sep b)
 | [],_,h,_=>absurd rfl h
 | [t],b,_,hb=>dc hb
 | t::u::r,b,_,hb=>by
  show TK.jn sep (t::(u::r++b))=_;rw [dc (by simp),oV (by simp) hb,dc (t:=t) (r:=u::r) (by simp)];simp
theorem pZ {sep:List Nat}:∀ gs:List (List (List Nat)),(∀ g∈gs,g≠[])->TK.jn sep (gs.map (TK.jn sep))=TK.jn sep gs.flatten
 | [],_=>rfl
 | [g],_=>by simp [TK.jn]
 | g::h::r,hg=>by
  have ih:=pZ (sep:=sep) (h::r) (fun x hx=>hg x (DR _ hx));have e:(g::h::r).flatten=g++(h::r).flatten:=Et;rw [D6,dc (by simp),ih,e];have hne:(h::r).flatten≠[]:=by
   have:=hg h (by simp);simp [this]
  rw [oV (hg g DM) hne]
theorem um:∀ fs:List (Str×Str),TK.jn [32,44,32] (fs.map fun x=>cp x.1++(32::cp x.2))=TK.jn [32] (eZ fs)
 | []=>rfl
 | [x]=>rfl
 | x::y::r=>by
  have ih:=um (y::r);have hne:eZ (y::r)≠[]:=by
   cases r<;>simp [eZ]
  rw [D6,dc (by simp),ih];show _=TK.jn [32] (cp x.1::cp x.2::[44]::eZ (y::r));rw [dc (by simp),dc (by simp),dc hne];simp
theorem m6 (gs:List (List (List Nat))):(gs.filter fun g=>!g.isEmpty).flatten=gs.flatten:=by
 induction gs with
 | nil=>rfl
 | cons g r ih=>
  cases g with
  | nil=>simpa using ih
  | cons a b=>simp [ih]
structure TkOk (t:List Nat):Prop where
 tok:TK.Tok t
 le:t.length<=8
theorem TkOk.name (h:NameS z):TkOk (cp z):=by
 refine ⟨lK (fun e=>?_) (fun c hc=>.inl (h.2.2.2 c hc)),h.len⟩;have:=h.pos;rw [e] at this;simp at this
theorem TkOk.num {n:Nat} (h:n < 100000000):TkOk (dg n):=by
 refine ⟨lK (fun e=>?_) (fun c hc=>.inr (oN n c hc)),(li n).2 8 zd h⟩;have:=(li n).1;rw [e] at this;simp at this
theorem TkOk.sign (h:c=40\/c=41\/c=44\/c=59\/c=123\/c=125):TkOk [c]:=⟨uk h,by simp⟩
def wordsL:List Str:=["word","cells","depth","places","marks","gate","kind","next","stop","place","mark","number","row"]
theorem m7:(wordsL.all fun z=>decide (cp z≠[]) && decide ((cp z).length<=8) && (cp z).all fun c=>decide (97<=c) && decide (c<=122))=true:=by decide +kernel
theorem TkOk.word (h:z∈wordsL):TkOk (cp z):=by
 have:=Eh.mp m7 z h;simp only [Er,decide_eq_true_eq,Eh] at this;exact ⟨lK this.1.1 (fun c hc=>.inl (this.2 c hc)),this.1.2⟩
theorem cS (h:s∈sortL):s∈wordsL:=by
 have e:s∈(["place","mark","number","row"]:List Str):=h;show s∈(["word","cells","depth","places","marks","gate","kind","next","stop","place","mark","number","row"]:List Str);simp only [DY,Eb,or_false] at e ⊢;rcases e with h|h|h|h<;>simp [h]
theorem iS {a b:List Str} {x:Str×Str} (h:x∈a.zip b):x.1∈a/\x.2∈b:=⟨(E3 (a:=x.1) (b:=x.2) h).1,(E3 (a:=x.1) (b:=x.2) h).2⟩
theorem jt {fn:List Str} (h:lG D fn) {x:Kn} (hx:x∈D.kinds):∀ f∈x.fs,NameS f.1/\f.2∈sortL:=by
 obtain ⟨st,e,_,hs⟩:=h.kf x hx;rw [e];intro f hf;obtain ⟨h1,h2⟩:=iS hf;exact ⟨h.fS _ h1,(hs _ h2).1⟩
theorem p7:∀ {fs:List (Str×Str)},(∀ f∈fs,NameS f.1/\f.2∈sortL)->∀ t∈eZ fs,TkOk t
 | [],_,t,h=>by simp [eZ] at h
 | [x],hf,t,h=>by
  have hx:=hf x DM;simp [eZ] at h;rcases h with rfl|rfl
  ·exact .name hx.1
  ·exact .word (cS hx.2)
 | x::y::r,hf,t,h=>by
  have hx:=hf x DM;have h':t∈cp x.1::cp x.2::[44]::eZ (y::r):=h;simp only [DY] at h';rcases h' with rfl|rfl|rfl|h'
  ·exact .name hx.1
  ·exact .word (cS hx.2)
  ·exact .sign zd
  ·exact p7 (fun f hf'=>hf f (DR _ hf')) t h'
theorem ju:∀ fs:List (Str×Str),(eZ fs).length=3*fs.length - 1
 | []=>rfl
 | [x]=>rfl
 | x::y::r=>by
  have:=ju (y::r);show (cp x.1::cp x.2::[44]::eZ (y::r)).length=_;simp only [DQ] at this ⊢;omega
theorem wd (h:z∈wordsL):TkOk (cp z):=.word h
theorem jv {fn:List Str} (h:lG D fn):∀ g∈(jJ zb) D,g.length<=8/\∀ t∈g,TkOk t:=by
 have one:∀ (t:List Nat),TkOk t->([t]:List (List Nat)).length<=8/\∀ u∈[t],TkOk u:=fun t ht=>⟨by simp,fun u hu=>by rw [DZ.mp hu];exact ht⟩;have two:∀ (a b:List Nat),TkOk a->TkOk b->([a,b]:List (List Nat)).length<=8/\∀ u∈[a,b],TkOk u:=fun a b ha hb=>⟨by simp,fun u hu=>by
  simp only [DY,Eb,or_false] at hu;rcases hu with rfl|rfl
  ·exact ha
  ·exact hb⟩
 intro g hg;unfold jJ at hg;have w24:=h.w24;have ce:=h.ce;have de:=h.de;rcases D0.mp hg with hg|hg
 ·rcases D0.mp hg with hg|hg
  ·rcases D0.mp hg with hg|hg
   ·unfold dA at hg;simp only [DY,Eb,or_false] at hg;rcases hg with rfl|rfl|rfl|rfl|rfl|rfl|rfl
    ·exact one _ (wd zk)
    ·exact one _ (.num zo)
    ·exact two _ _ (.sign zd) (wd zk)
    ·exact one _ (.num zo)
    ·exact two _ _ (.sign zd) (wd zk)
    ·exact one _ (.num zo)
    ·exact two _ _ (.sign zd) (wd zk)
   ·unfold fE at hg;rcases D0.mp hg with hg|hg
    ·rcases D0.mp hg with hg|hg
     ·obtain ⟨z,hz,rfl⟩:=D2.mp hg;exact one _ (.name (h.nm.pl z hz))
     ·rw [DZ.mp hg];exact two _ _ (.sign zd) (wd zk)
    ·obtain ⟨z,hz,rfl⟩:=D2.mp hg;exact one _ (.name (h.nm.mrk z hz))
  ·unfold iu at hg;rcases D0.mp hg with hg|hg
   ·rcases D0.mp hg with hg|hg
    ·rw [DZ.mp hg];exact two _ _ (.sign zd) (wd zk)
    ·obtain ⟨z,hz,rfl⟩:=D2.mp hg;exact one _ (.name (h.nm.mrk z (h.fm.gt z hz)))
   ·rw [DZ.mp hg];exact one _ (.sign zd)
 ·obtain ⟨gk,hk,hg⟩:=List.mem_flatten.mp hg;obtain ⟨x,hx,rfl⟩:=D2.mp hk;unfold iw at hg;simp only [DY,Eb,or_false] at hg;rcases hg with rfl|rfl|rfl|rfl|rfl
  ·exact one _ (wd zk)
  ·exact one _ (.name (h.nm.kn x hx))
  ·exact one _ (.sign zd)
  ·refine ⟨?_,p7 (jt h hx)⟩;rw [ju];have:=(h.fm.kf x hx).2;omega
  ·refine ⟨by simp,fun u hu=>?_⟩;simp only [DY,Eb,or_false] at hu;rcases hu with rfl|rfl|rfl|rfl
   ·exact .sign zd
   ·exact .sign zd
   ·exact wd (by cases zb<;>decide +kernel)
   ·exact .sign zd
theorem m8 (k:Nat):∀ gs:List (List (List Nat)),(∀ g∈gs,g.length<=k)->gs.flatten.length<=gs.length*k
 | [],_=>by simp
 | g::r,h=>by
  have ih:=m8 k r (fun g hg=>h g (DR _ hg));have:=h g DM;rw [Et,DL,DQ];have:(r.length+1)*k=r.length*k+k:=by rw [Nat.add_mul,Nat.one_mul]
  omega
theorem iy:∀ l:List Kn,((l.map (iw zb)).flatten).length=5*l.length
 | []=>rfl
 | x::r=>by
  rw [D6,Et,DL,iy r,DQ];show 5+_=_;omega
theorem p8 {fn:List Str} (h:lG D fn):((jJ zb) D).length<=60:=by
 unfold jJ dA fE iu;simp only [DL,DI,DQ,Em,iy];have:=h.fm.p4;have:=h.fm.m3;have:=h.fm.k8;have:=h.fm.g1;omega
def cF (zb:Bool) (D:Fm):List Nat:=TK.jn [32] ((ul zb) D)
theorem kg {fn:List Str} (h:lG D fn):TK.toks ((cF zb) D)=(ul zb) D:=by
 have:=TK.pF [32] [] (by simp) zd (by simp) ((ul zb) D) (fun t ht=>by
  obtain ⟨g,hg,ht⟩:=List.mem_flatten.mp ht;exact ((jv h g hg).2 t ht).tok)
 rw [El] at this;exact this
theorem uo {fn:List Str} (h:lG D fn):((cF zb) D).length<=20000/\((ul zb) D).length<=1500:=by
 have h1:=m8 8 ((jJ zb) D) (fun g hg=>(jv h g hg).1);have h2:=p8 (zb:=zb) h;have h3:=oR [32] ((ul zb) D);have h4:=jm 8 ((ul zb) D) (fun t ht=>by
  obtain ⟨g,hg,ht⟩:=List.mem_flatten.mp ht;exact ((jv h g hg).2 t ht).le)
 unfold cF;simp only [DQ,Em] at h3;have h5:((ul zb) D).length<=480:=by
  have:((ul zb) D).length=((jJ zb) D).flatten.length:=rfl;omega
 exact ⟨zo,zo⟩
variable {zb:Bool}
def fT (fs:List (Str×Str)):List Str:=(eZ fs).map S
def kT (zb:Bool) (x:Kn):List Str:=[("kind":Str),x.name,("(":Str)]++fT x.fs++[(")":Str),("{":Str),(qR zb),("}":Str)]
def tT (zb:Bool) (D:Fm):List Str:=[("word":Str),(toString (D.width:Int):Str),(";":Str),("cells":Str),(toString (D.cells:Int):Str),(";":Str),("depth":Str),(toString (D.depth:Int):Str),(";":Str),("places":Str)]++D.places++[(";":Str),("marks":Str)]++D.marks++[(";":Str),("gate":Str)]++D.gates++[(";":Str)]++(D.kinds.map (kT zb)).flatten
theorem za (x:Str×Str):fT [x]=[x.1,x.2]:=by
 show [S (cp x.1),S (cp x.2)]=_;rw [fZ,fZ]
theorem zc (x y:Str×Str) (r:List (Str×Str)):fT (x::y::r)=x.1::x.2::(",":Str)::fT (y::r):=by
 show S (cp x.1)::S (cp x.2)::S [44]::fT (y::r)=_;rw [fZ,fZ];have:S [44]=(",":Str):=by decide +kernel
 rw [this]
theorem uq (fs:List (Str×Str)):(fT fs).length=3*fs.length - 1:=by
 unfold fT;rw [DI,ju]
theorem lL (l:List Str):((l.map fun z=>[cp z]).flatten).map S=l:=by
 induction l with
 | nil=>rfl
 | cons z r ih=>
  rw [D6,Et,DP,ih];show S (cp z)::r=_;rw [fZ]
theorem Bf (x:Kn):(((iw zb) x).flatten).map S=(kT zb) x:=by
 unfold iw kT;have e1:S (cp ("kind":Str))=("kind":Str):=fZ _;have e2:S [40]=("(":Str):=by decide +kernel
 have e3:S [41]=(")":Str):=by decide +kernel
 have e4:S [123]=("{":Str):=by decide +kernel
 have e5:S (cp (qR zb))=(qR zb):=fZ _;have e6:S [125]=("}":Str):=by decide +kernel
 simp [e1,e2,e3,e4,e5,e6,fZ,fT]
theorem ur (l:List Kn):(((l.map (iw zb)).flatten).flatten).map S=(l.map (kT zb)).flatten:=by
 induction l with
 | nil=>rfl
 | cons x r ih=>
  rw [D6,Et,List.flatten_append,DP,ih,Bf,D6,Et]
theorem Bg (D:Fm):((ul zb) D).map S=(tT zb) D:=by
 unfold ul jJ tT;have e2:S [59]=(";":Str):=by decide +kernel
 rw [List.flatten_append,List.flatten_append,List.flatten_append,DP,DP,DP,ur];unfold dA fE iu;rw [List.flatten_append,List.flatten_append,List.flatten_append,List.flatten_append,DP,DP,DP,DP,lL,lL,lL];rw [eT,eT,eT];simp [e2,fZ]
theorem bF {A B ts:List Str} {x:Str} {k:Nat} (e:ts=A++x::B) (h:A.length=k):(tz ts)[k]?=some x:=by
 subst e h;unfold tz;rw [En,Ey (DN _)];simp
theorem lM {A B ts zs:List Str} {k:Nat} (e:ts=A++(zs++B)) (h:A.length=k) (hn:∀ z∈zs,NameS z):mT ts k zs:=by
 intro i hi;refine ⟨bF (A:=A++zs.take i) (B:=zs.drop (i+1)++B) ?_ ?_,hn _ (ER hi)⟩
 ·rw [e,En]
  congr 1
  rw [<-EQ,<-Ev hi,<-En,EE]
 ·rw [DL,DS];omega
theorem nc:∀ (fs:List (Str×Str)) {A B ts:List Str} {k:Nat},ts=A++(fT fs++B)->A.length=k->(∀ f∈fs,NameS f.1/\f.2∈sortL)->oF ts k fs
 | [],_,_,_,_,_,_,_=>fun i h=>absurd h (by simp)
 | [x],A,B,ts,k,e,h,hf=>fun i hi=>by
  have h0:i=0:=by simpa using hi
  subst h0;rw [za] at e;have hx:=hf x DM;refine ⟨bF (A:=A) (B:=x.2::B) e h,hx.1,bF (A:=A++[x.1]) (B:=B) (by rw [e];simp) (by simp [h]),hx.2,fun hh=>absurd hh (by simp)⟩
 | x::y::r,A,B,ts,k,e,h,hf=>fun i hi=>by
  rw [zc] at e;have hx:=hf x DM;cases i with
  | zero=>
   refine ⟨bF (A:=A) (B:=x.2::(",":Str)::(fT (y::r)++B)) (by rw [e];simp) h,hx.1,bF (A:=A++[x.1]) (B:=(",":Str)::(fT (y::r)++B)) (by rw [e];simp) (by simp [h]),hx.2,fun _=>bF (A:=A++[x.1,x.2]) (B:=fT (y::r)++B) (by rw [e];simp) (by simp [h])⟩
  | succ i=>
   have ih:=nc (y::r) (A:=A++[x.1,x.2,(",":Str)]) (B:=B) (ts:=ts) (k:=k+3) (by rw [e];simp) (by simp [h]) (fun f hf'=>hf f (DR _ hf')) i (by simpa using hi);have e1:k+3+3*i=k+3*(i+1):=by omega
   rw [e1] at ih;refine ⟨ih.1,ih.2.1,ih.2.2.1,ih.2.2.2.1,fun hh=>ih.2.2.2.2 (by simpa using hh)⟩
theorem ut {x:Kn} {A B ts:List Str} {k:Nat} (e:ts=A++((kT zb) x++B)) (h:A.length=k) (hn:NameS x.name) (hf:∀ f∈x.fs,NameS f.1/\f.2∈sortL) (h3:x.fs.length<=3):oG ts k x:=by
 unfold kT at e;have fl:=uq x.fs;refine ⟨bF (A:=A) (B:=[x.name,("(":Str)]++fT x.fs++[(")":Str),("{":Str),(qR zb),("}":Str)]++B) (by rw [e];simp) h,
  bF (A:=A++[("kind":Str)]) (B:=[("(":Str)]++fT x.fs++[(")":Str),("{":Str),(qR zb),("}":Str)]++B) (by rw [e];simp) (by simp [h]),hn,
  bF (A:=A++[("kind":Str),x.name]) (B:=fT x.fs++[(")":Str),("{":Str),(qR zb),("}":Str)]++B) (by rw [e];simp) (by simp [h]),
  nc x.fs (A:=A++[("kind":Str),x.name,("(":Str)]) (B:=[(")":Str),("{":Str),(qR zb),("}":Str)]++B) (by rw [e];simp) (by simp [h]) hf,
  bF (A:=A++[("kind":Str),x.name,("(":Str)]++fT x.fs) (B:=[("{":Str),(qR zb),("}":Str)]++B) (by rw [e];simp) (by simp [h,fl];omega),h3,
  bF (A:=A++[("kind":Str),x.name,("(":Str)]++fT x.fs++[(")":Str)]) (B:=[(qR zb),("}":Str)]++B) (by rw [e];simp) (by simp [h,fl];omega),
  ⟨_,y9 zb,bF (A:=A++[("kind":Str),x.name,("(":Str)]++fT x.fs++[(")":Str),("{":Str)]) (B:=[("}":Str)]++B) (by rw [e];simp) (by simp [h,fl];omega)⟩,
  bF (A:=A++[("kind":Str),x.name,("(":Str)]++fT x.fs++[(")":Str),("{":Str),(qR zb)]) (B:=B) (by rw [e];simp) (by simp [h,fl];omega)⟩
theorem ze (x:Kn):((kT zb) x).length=qL x:=by
 unfold kT qL;simp only [DL,DQ,Em,uq];omega
theorem kh:∀ (l:List Kn) {A ts:List Str} {k:Nat},ts=A++(l.map (kT zb)).flatten->A.length=k->(∀ x∈l,NameS x.name/\(∀ f∈x.fs,NameS f.1/\f.2∈sortL)/\x.fs.length<=3)->iO ts k l
 | [],A,ts,k,e,h,_=>by
  show k=ts.length;rw [e];simp [h]
 | x::r,A,ts,k,e,h,hx=>by
  rw [D6,Et] at e;obtain ⟨h1,h2,h3⟩:=hx x DM;exact ⟨ut e h h1 h2 h3,kh r (A:=A++(kT zb) x) (by rw [e];simp) (by rw [DL,ze,h]) (fun y hy=>hx y (DR _ hy))⟩
theorem wG {fn:List Str} (h:lG D fn):k7 ((tT zb) D) D:=by
 have ce:=h.ce;have de:=h.de;generalize hR:(D.kinds.map (kT zb)).flatten=R;have e0:(tT zb) D=[("word":Str),(toString (D.width:Int):Str),(";":Str),("cells":Str),(toString (D.cells:Int):Str),(";":Str),("depth":Str),(toString (D.depth:Int):Str),(";":Str),("places":Str)]++(D.places++([(";":Str),("marks":Str)]++(D.marks++([(";":Str),("gate":Str)]++(D.gates++([(";":Str)]++R)))))):=by
  unfold tT;rw [hR];simp
 refine ⟨bF (A:=[]) e0 rfl,bF (A:=[("word":Str)]) e0 rfl,bF (A:=[("word":Str),_]) e0 rfl,bF (A:=[("word":Str),_,(";":Str)]) e0 rfl,bF (A:=[("word":Str),_,(";":Str),("cells":Str)]) e0 rfl,bF (A:=[("word":Str),_,(";":Str),("cells":Str),_]) e0 rfl,bF (A:=[("word":Str),_,(";":Str),("cells":Str),_,(";":Str)]) e0 rfl,bF (A:=[("word":Str),_,(";":Str),("cells":Str),_,(";":Str),("depth":Str)]) e0 rfl,bF (A:=[("word":Str),_,(";":Str),("cells":Str),_,(";":Str),("depth":Str),_]) e0 rfl,bF (A:=[("word":Str),_,(";":Str),("cells":Str),_,(";":Str),("depth":Str),_,(";":Str)]) e0 rfl,
  lM e0 rfl h.nm.pl,?_,?_,?_,?_,?_,?_,?_,?_,⟨h.w4,h.w24⟩,⟨zo,zo⟩,zo,⟨h.p1,h.fm.p4⟩,h.fm.m3,h.fm.g1,⟨h.k1,h.fm.k8⟩⟩
 all_goals (have hW:([("word":Str),(toString (D.width:Int):Str),(";":Str),("cells":Str),(toString (D.cells:Int):Str),(";":Str),("depth":Str),(toString (D.depth:Int):Str),(";":Str),("places":Str)]:List Str).length=10:=rfl)
 all_goals (generalize ([("word":Str),(toString (D.width:Int):Str),(";":Str),("cells":Str),(toString (D.cells:Int):Str),(";":Str),("depth":Str),(toString (D.depth:Int):Str),(";":Str),("places":Str)]:List Str)=W at *)
 ·exact bF (A:=W++D.places) (B:=("marks":Str)::(D.marks++([(";":Str),("gate":Str)]++(D.gates++([(";":Str)]++R))))) (by rw [e0];simp) (by simp [hW])
 ·exact bF (A:=W++D.places++[(";":Str)]) (B:=D.marks++([(";":Str),("gate":Str)]++(D.gates++([(";":Str)]++R)))) (by rw [e0];simp) (by simp [hW];omega)
 ·exact lM (A:=W++D.places++[(";":Str),("marks":Str)]) (B:=[(";":Str),("gate":Str)]++(D.gates++([(";":Str)]++R))) (by rw [e0];simp) (by simp [hW];omega) h.nm.mrk
 ·exact bF (A:=W++D.places++[(";":Str),("marks":Str)]++D.marks) (B:=("gate":Str)::(D.gates++([(";":Str)]++R))) (by rw [e0];simp) (by simp [hW];omega)
 ·exact bF (A:=W++D.places++[(";":Str),("marks":Str)]++D.marks++[(";":Str)]) (B:=D.gates++([(";":Str)]++R)) (by rw [e0];simp) (by simp [hW];omega)
 ·exact lM (A:=W++D.places++[(";":Str),("marks":Str)]++D.marks++[(";":Str),("gate":Str)]) (B:=[(";":Str)]++R) (by rw [e0];simp) (by simp [hW];omega) (fun z hz=>h.nm.mrk z (h.fm.gt z hz))
 ·exact bF (A:=W++D.places++[(";":Str),("marks":Str)]++D.marks++[(";":Str),("gate":Str)]++D.gates) (B:=R) (by rw [e0];simp) (by simp [hW];omega)
 ·subst hR;refine kh (zb:=zb) D.kinds (A:=W++D.places++[(";":Str),("marks":Str)]++D.marks++[(";":Str),("gate":Str)]++D.gates++[(";":Str)]) (by rw [e0];simp) (by simp [hW];omega) (fun x hx=>⟨h.nm.kn x hx,jt h hx,(h.fm.kf x hx).2⟩)
end L3
namespace L2
open PySem PySem.Spec PyProof.Rows
theorem wH {K:ZF} {l:Addr} {xs:List V} {g:TG} {tf:TT} {te:TE} {ix:List (Option Nat)} {σ:St} {H:Hp} {Q:VK} (Pv:Nat->List V->Hp->Prop) (h0:Pv 0 [] H)
  (hl:∀ i ys H,i<=xs.length->Pv i ys H->SqL K H l xs/\ys.length<=sizeLine)
  (hs:∀ i x ys H T,xs[i]?=some x->H T=none->Pv i ys H->g (.ref T) (j6 ix σ) (aq H T (.tup [.int i,x])) fun σ2 H2=>ExtL (j6 ix σ) σ2/\tf σ2 H2 fun b H3=>if b=true then te σ2 H3 fun y H4=>Nx Pv xs.length i (ys++[y]) H4 else Nx Pv xs.length i ys H3)
  (hd:∀ ys H,Pv xs.length ys H->∀ D,H D=none->Q (.ref D) (aq H D (.lst ys))):og (zU K l) g tf te ix σ H Q:=by
 refine ⟨fun i m ys H=>m=xs.length - i/\i<=xs.length/\Pv i ys H,⟨xs.length,by simp,Ej _,h0⟩,?_⟩;rintro i m ys H ⟨rfl,hi,p⟩;obtain ⟨q,hz⟩:=hl i ys H hi p;by_cases hlt:i < xs.length
 ·refine .inr ⟨⟨xs,xs[i],q,by simp [hlt]⟩,hz,fun v H' y=>?_⟩;obtain ⟨T,x,e1,hT,e2,hy⟩:=y;subst e1 e2;exact hs i x ys H T (hy xs q) hT p
 ·have e:i=xs.length:=by omega
  subst e;exact .inl ⟨⟨xs,q,DN _⟩,hz,hd ys H p⟩
end L2
namespace L3
open PySem L2
def wV (gs:List (List (List Nat))):List V:=dv (gs.map (TK.jn [32]))
theorem fF (a b:List (List (List Nat))):wV (a++b)=wV a++wV b:=by unfold wV dv;rw [DP,DP]
theorem cU (a:List (List (List Nat))):(wV a).length=a.length:=by unfold wV dv;rw [DI,DI]
theorem lN (l:List Str):wV (l.map fun z=>[cp z])=ak l:=by
 unfold wV dv ak;rw [EV,EV];refine List.map_congr_left fun z _=>?_;show V.str (S (cp z))=_;rw [fZ]
theorem Bh (D:Fm):([V.str "word",.str (toString (D.width:Int):Str),.str "; cells",.str (toString (D.cells:Int):Str),.str "; depth",.str (toString (D.depth:Int):Str),.str "; places"]:List V)=wV (dA D):=by
 have e1:(("word":Str))=S (TK.jn [32] [cp "word"]):=by decide +kernel
 have e2:(("; cells":Str))=S (TK.jn [32] [[59],cp "cells"]):=by decide +kernel
 have e3:(("; depth":Str))=S (TK.jn [32] [[59],cp "depth"]):=by decide +kernel
 have e4:(("; places":Str))=S (TK.jn [32] [[59],cp "places"]):=by decide +kernel
 rw [eT,eT,eT,e1,e2,e3,e4];rfl
theorem Bi:([V.str "; marks"]:List V)=wV [[[59],cp "marks"]]:=by
 have e2:(("; marks":Str))=S (TK.jn [32] [[59],cp "marks"]):=by decide +kernel
 rw [e2];rfl
theorem Bj:([V.str "; gate"]:List V)=wV [[[59],cp "gate"]]:=by
 have e2:(("; gate":Str))=S (TK.jn [32] [[59],cp "gate"]):=by decide +kernel
 rw [e2];rfl
theorem Bk:([V.str ";"]:List V)=wV [[[59]]]:=by
 have e2:((";":Str))=S (TK.jn [32] [[59]]):=by decide +kernel
 rw [e2];rfl
def iF (fs:List (Str×Str)):List (List Nat):=fs.map fun x=>cp x.1++(32::cp x.2)
theorem Bm (x:Kn):([V.str "kind",.str x.name,.str "(",.str (S (TK.jn [32,44,32] (iF x.fs))),.str ") { next }"]:List V)=wV ((iw false) x):=by
 have e1:(("kind":Str))=S (TK.jn [32] [cp "kind"]):=by decide +kernel
 have e2:(("(":Str))=S (TK.jn [32] [[40]]):=by decide +kernel
 have e3:((") { next }":Str))=S (TK.jn [32] [[41],[123],cp "next",[125]]):=by decide +kernel
 have e4:x.name=S (TK.jn [32] [cp x.name]):=(fZ _).symm;have e5:=um x.fs;unfold iF;rw [e1,e2,e3,e5];conv=>lhs;rw [e4]
 rfl
variable {D:Fm}
theorem oW {fn:List Str} (h:lG D fn) {g:List (List Nat)} (hg:g∈(jJ false) D):(!decide (V.str (S (TK.jn [32] g))=V.str ""))=!g.isEmpty:=by
 cases g with
 | nil=>
  have:V.str (S (TK.jn [32] []))=V.str "":=congrArg V.str zk;rw [decide_eq_true this];rfl
 | cons t r=>
  have ht:=((jv h _ hg).2 t DM).tok.ne;have hn:V.str (S (TK.jn [32] (t::r)))≠V.str "":=by
   intro e;have e1:=V.str.inj e;have e2:=congrArg cp e1;rw [oQ] at e2;exact y3 ht (e2.trans zk)
  rw [decide_eq_false hn];rfl
theorem wI {fn:List Str} (h:lG D fn):TK.jn [32] ((((jJ false) D).filter fun g=>!g.isEmpty).map (TK.jn [32]))=(cF false) D:=by
 rw [pZ _ (fun g hg=>?_),m6]
 ·rfl
 ·have:=(Fi.mp hg).2;intro e;rw [e] at this;simp at this
inductive wJ (vs:List V) (H:Hp) (Q:VK) (Z3:XK):Prop
 | mk (d D fn kvs lf lp lm lk lg ks:_):vs=[.ref d]->KpV H d D fn kvs lf lp lm lk lg ks->lG D fn->(∀ H',Same H H'->Q (.str (S ((cF false) D))) H')->wJ vs H Q Z3
section
variable {P:Program} {w:World} {K:ZF} {mg:Str->Option Value} {base:Heap} {C Cp:Addr} {tb tm:Tok}
theorem scST:aw ["_law_table","_law_words","_law_name","_law_sorts","_law_fields"] ["_law_table"] (aj dq):=cI zk
theorem xH:(["_law_k","_law_sort","_law_table"]:List Str).Nodup:=by decide +kernel
theorem DA:(["_law_word"]:List Str).Nodup:=by decide +kernel
theorem Bn {f:Addr} {fd:FuncData} (F:Fun K "_law_shape_text" "_law_shape_text" dq f fd) (B:Bl mg) (B3:zV mg):FnOkb P w K mg base bY 2 f fd ["_law_table"] wJ:=by
 have ZZ:=scST
 walk_at "ob"
 ·obtain ⟨d,D,fn,kvs,lf,lp,lm,lk,lg,ks,rfl,hK,hO,q⟩:=h;have sz:(100000:Nat)<=sizeLine:=by decide
  have hu:=gi hr;have ce:=hO.ce;have de:=hO.de;have w24:=hO.w24;have p4:=hO.fm.p4;have m3:=hO.fm.m3;have g1:=hO.fm.g1;have k8:=hO.fm.k8;refine ⟨_,sO (fun σ H'=>∃ lw,σ=[some (.ref d),some (.ref lw),none,none,none]/\Same H H'/\H' lw=some (.lst (wV (dA D)))) (pN (i:=1) scST.nd rfl (Or.inl rfl) (vP (sN vO (ac (aR eI (by rfl) B.str eE (ac (aV hu (pv 0) am) ad)) (ac am (ac (aR eI (by rfl) B.str eE (ac (aV hu (pv 0) am) ad)) (ac am (ac (aR eI (by rfl) B.str eE (ac (aV hu (pv 0) am) ad)) (ac am ad)))))))))
   (aM (fun σ H'=>∃ lw,σ=[some (.ref d),some (.ref lw),none,none,none]/\Same H H'/\H' lw=some (.lst (wV (dA D++fE D)))) (au (i:=1) scST.nd rfl (Or.inl rfl) (aG cj (aG cj (aG cj (pv 1) (aV hu (pv 0) am)) (aP (ac am ad))) (aV hu (pv 0) am)))
   (aM (fun σ H'=>∃ lw,σ=[some (.ref d),some (.ref lw),none,none,none]/\Same H H'/\H' lw=some (.lst (wV (dA D++fE D++iu D)))) (au (i:=1) scST.nd rfl (Or.inl rfl) (aG cj (aG cj (aG cj (pv 1) (aP (ac am ad))) (aV hu (pv 0) am)) (aP (ac am ad))))
   (ag (cY PassesOwn.never rfl (cW (aV hu (pv 0) am)) (cM rfl (aJ (aC (i:=2) scST.nd rfl (Or.inl rfl)) (aJ (aC (i:=3) scST.nd rfl (Or.inl rfl)) cb)))
    (ag (ml (i:=4) scST.nd rfl rfl (N':=["_law_k","_law_sort","_law_table"]) (ix:=[none,none,some 0]) (sc0:=aj dq) (N:=["_law_table","_law_words","_law_name","_law_sorts","_law_fields"]) rfl zk (pJ rfl B3.enumerate (ac (pv 3) ad))
     (fun C' cl s H fp=>iQ (K:=K) (n:=2) rfl rfl (aJ (aC (i:=0) xH rfl (Or.inl rfl) (.inr rfl)) (aJ (aC (i:=1) xH rfl (Or.inl rfl) (.inr rfl)) cb))) (fun _ _ _ _ _=>c0) (fun C' cl s H fp=>aG cD (aG cD (aZ (mX (K:=K) rfl) (aV hu (pv 2) am) (pv 0)) am) (pv 1)))
    (ai (au (i:=1) scST.nd rfl (Or.inl rfl) (aG cj (pv 1) (aP (ac am (ac (pv 2) (ac am (ac (bZ Ff PySem.F.slot_str_join PySem.F.type_str_join pG am (ac (pv 4) ad)) (ac am ad)))))))))))
   (ai (aA (bZ Ff PySem.F.slot_str_join PySem.F.type_str_join pG am (ac (dN (N':=["_law_word"]) (ix:=[none]) (sc0:=aj dq) (N:=["_law_table","_law_words","_law_name","_law_sorts","_law_fields"]) rfl zk (cW (pv 1))
    (fun C' cl s H fp=>aC (i:=0) DA rfl (Or.inl rfl) (.inr rfl)) (fun _ _ _ _ _=>kH (ar jP (pv 0) am)) (fun C' cl s H fp=>pv 0)) ad))))))),?_⟩
  refine ⟨?_,?_⟩
  ·rintro σ H1 ⟨lw,rfl,s1,ew⟩;refine ⟨?_,?_⟩
   ·rintro σ H1 ⟨lw,rfl,s1,ew⟩;refine ⟨?_,?_⟩
    ·rintro σ H1 ⟨lw,rfl,s1,ew⟩;have K1:=hK.same s1;refine ⟨_,rfl,d,_,rfl,aX K1.dd K1.v7,lk,rfl,⟨_,SqL.of K1.ek⟩,?_⟩;have lks:=hK.kd.length;refine gI (K:=K) (a:=lk) (xs:=ks) (fun i σ H'=>∃ (lw:Addr) (v2 v3 v4:Option V),σ=[some (.ref d),some (.ref lw),v2,v3,v4]/\Same H H'/\H' lw=some (.lst (wV (dA D++fE D++iu D++((D.kinds.take i).map (iw false)).flatten)))) ⟨lw,_,_,_,rfl,s1,by simpa using ew⟩ (fun i σ H' _ ⟨_,_,_,_,_,s',_⟩=>SqL.of (s' _ _ hK.ek)) ?_ ?_
     ·rintro i u σ H2 hx ⟨lw,v2,v3,v4,rfl,s2,ew2⟩;have K2:=hK.same s2;obtain ⟨x,hxi,pt,l,rfl,hpt,hl⟩:=iD K2.kd hx;have hxm:x∈D.kinds:=D4 hxi;have hi8:i < D.kinds.length:=(DK.mp hxi).1;obtain ⟨st,efs,st3,hst⟩:=hO.kf x hxm;have f3:=hO.f3;have esn:x.fs.map (·.2)=st:=by rw [efs];exact bE _ _ zo
      have fsl:x.fs.length=st.length:=by rw [efs,List.length_zip];omega
      refine ⟨pt,_,rfl,SqT.of hpt,rfl,_,_,rfl,_,_,rfl,rfl,?_⟩;refine ⟨_,rfl,l,rfl,⟨_,SqL.of hl⟩,?_⟩;refine wH (K:=K) (l:=l) (xs:=ak (x.fs.map (·.2))) (fun j ys H'=>Same H2 H'/\ys=dv ((iF x.fs).take j)) ⟨Same.refl _,rfl⟩ (fun j ys H' hj ⟨s',e'⟩=>⟨SqL.of (s' _ _ hl),by
        rw [e'];unfold dv iF;rw [DI,DS,DI];omega⟩) ?_ ?_
      ·rintro j y ys H3 T1 hy nT ⟨s3,rfl⟩;obtain ⟨fl,hfl,rfl⟩:∃ g,x.fs[j]?=some g/\y=.str g.2:=by
        unfold ak at hy;rw [Ec,Ec] at hy;cases e:x.fs[j]? with
        | none=>rw [e] at hy;cases hy
        | some g=>rw [e] at hy;exact ⟨g,rfl,(D5 hy).symm⟩
       have hfm:fl∈x.fs:=D4 hfl;have hfo:=jt hO hxm fl hfm;have hfn:fn[j]?=some fl.1:=by
        have h':=hfl;rw [efs] at h';exact (List.getElem?_zip_eq_some.mp h').1
       have s4:=af (o:=.tup [.int (j:Int),.str fl.2]) nT;have s24:=s3.trans s4;have K4:=K2.same s24;refine ⟨T1,_,rfl,SqT.of ae,rfl,_,_,rfl,_,_,rfl,rfl,⟨rfl,trivial⟩,dk ?_⟩;have hfn':(ak fn)[j]?=some (.str fl.1):=by unfold ak;rw [Ec,hfn];rfl
       have n8:=hfo.1.len;have w8:=(wd (cS hfo.2)).le;have ln1:fl.1.length=(cp fl.1).length:=by unfold cp;simp [Str.length]
       have ln2:fl.2.length=(cp fl.2).length:=by unfold cp;simp [Str.length]
       refine ⟨_,rfl,d,_,rfl,aX K4.dd K4.v4,_,rfl,lf,_,_,_,rfl,rfl,SqL.of K4.ef,bN hfn',_,_,rfl,rfl,?_,_,rfl,_,_,rfl,rfl,?_,?_⟩
       ·show fl.1.length+1<=_;omega
       ·rw [<-fZ fl.1,y2,gj,bx,DL];show _+1+_<=_;omega
       ·have ev:fl.1++(" ":Str)++fl.2=S (cp fl.1++(32::cp fl.2)):=by
         rw [<-fZ fl.1,<-fZ fl.2,y2,gj,gj,oQ,oQ];simp
        rw [ev];refine Nx.mk (DK.mp hy).1 ⟨s24,?_⟩;unfold iF;rw [<-List.map_take,<-List.map_take,Eu,hfl];unfold dv;simp
      rintro ys H3 ⟨s3,rfl⟩ lq nlq;have etl:(iF x.fs).take (ak (x.fs.map (·.2))).length=iF x.fs:=by
       refine Ep ?_;unfold iF ak;simp
      rw [etl];generalize zz:aq H3 lq _=H4;have ⟨s4,e4⟩:=nw nlq zz;clear zz;have s24:=s3.trans s4;have hfl8:∀ t∈iF x.fs,t.length<=17:=by
       intro t ht;obtain ⟨f,hf,rfl⟩:=D2.mp ht;have hfo:=jt hO hxm f hf;have n8:=hfo.1.len;have w8:=(wd (cS hfo.2)).le;rw [DL,DQ];omega
      refine ⟨_,rfl,_,rfl,rfl,_,rfl,[32,44,32],lq,iF x.fs,congrArg V.str zk,rfl,SqL.of e4,?_,zlx,fun l5 n5=>?_⟩
      ·have h1:=jm 17 _ hfl8;have h2:(iF x.fs).length=x.fs.length:=by unfold iF;rw [DI]
       simp only [DQ,Em];omega
      rw [Bm x] at *;generalize zz:aq H4 l5 _=H5;have ⟨s5,e5⟩:=nw n5 zz;clear zz;have s25:=s24.trans s5;refine ⟨lw,l5,_,_,rfl,rfl,s25 _ _ ew2,e5,?_,fun l6 n6=>?_⟩
      ·rw [cU,cU];unfold dA fE iu iw;simp only [DL,DI,DQ,Em];have:=iy (zb:=false) (D.kinds.take i);unfold iw at this;rw [this,DS];omega
      refine ⟨l6,_,_,_,rfl,s2.trans (s25.trans (af n6)),?_⟩;rw [ae,<-fF]
      congr 3
      rw [Eu,hxi];simp
     ·rintro σ H2 ⟨lw,v2,v3,v4,rfl,s2,ew2⟩;rw [lks,Ew] at ew2;have ew2':H2 lw=some (.lst (wV ((jJ false) D))):=ew2;have gl:=p8 (zb:=false) hO;refine ⟨rfl,_,rfl,lw,rfl,⟨_,SqL.of ew2'⟩,?_⟩;refine fL (K:=K) (a:=lw) (xs:=wV ((jJ false) D)) (fun i ys H'=>H'=H2/\ys=wV ((((jJ false) D).take i).filter fun g=>!g.isEmpty)) ⟨rfl,rfl⟩ (fun i ys H' hi ⟨e1,e2⟩=>by
        subst e1 e2;refine ⟨SqL.of ew2',?_⟩;rw [cU];have:=List.length_filter_le (fun g:List (List Nat)=>!g.isEmpty) (((jJ false) D).take i);rw [DS] at this;omega) ?_ ?_
      ·rintro i y ys H3 hy ⟨rfl,rfl⟩;obtain ⟨g,hg,rfl⟩:∃ g,((jJ false) D)[i]?=some g/\y=.str (S (TK.jn [32] g)):=by
        unfold wV dv at hy;rw [Ec,Ec] at hy;cases e:((jJ false) D)[i]? with
        | none=>rw [e] at hy;cases hy
        | some g=>rw [e] at hy;exact ⟨g,rfl,(D5 hy).symm⟩
       have hgm:g∈(jJ false) D:=D4 hg;have hwe:=oW hO hgm;have hlt:=(DK.mp hy).1;refine ⟨trivial,_,rfl,rfl,_,rfl,?_⟩;rw [hwe];refine kF (fun hb=>⟨_,rfl,Nx.mk hlt ⟨rfl,?_⟩⟩) (fun hb=>Nx.mk hlt ⟨rfl,?_⟩)
       ·rw [Eu,hg];simp only [Option.toList_some,List.filter_append];rw [fF]
        congr 1
        rw [List.filter_cons_of_pos (by simpa using hb)];rfl
       ·rw [Eu,hg];simp only [Option.toList_some,List.filter_append];rw [List.filter_cons_of_neg (by simpa using hb)];simp
      ·rintro ys H3 ⟨rfl,rfl⟩ lq nlq;rw [cU,Ew];refine ⟨[32],lq,(((jJ false) D).filter fun g=>!g.isEmpty).map (TK.jn [32]),congrArg V.str y2,rfl,SqL.of ae,?_,?_⟩
       ·have h1:=jm 100 ((((jJ false) D).filter fun g=>!g.isEmpty).map (TK.jn [32])) (fun t ht=>by
         obtain ⟨g,hg,rfl⟩:=D2.mp ht;have hgo:=jv (zb:=false) hO g (Fi.mp hg).1;have h2:=oR [32] g;have h3:=jm 8 g (fun t ht=>(hgo.2 t ht).le);have h4:=hgo.1;simp only [DQ,Em] at h2;omega)
        have h5:=List.length_filter_le (fun g:List (List Nat)=>!g.isEmpty) ((jJ false) D);rw [DI] at h1 ⊢;simp only [DQ,Em];omega
       ·rw [wI hO];exact q _ (s2.trans (af nlq))
    ·have K1:=hK.same s1;refine ⟨_,rfl,zlx,fun l2 n2=>?_⟩;rw [Bj] at *;generalize zz:aq H1 l2 _=H2;have ⟨s2,e2⟩:=nw n2 zz;clear zz;refine ⟨lw,l2,_,_,rfl,rfl,s2 _ _ ew,e2,?_,fun l3 n3=>?_⟩
     ·rw [cU,cU];unfold dA fE;simp only [DL,DI,DQ,Em];omega
     rw [<-fF];generalize zz:aq H2 l3 _=H3;have ⟨s3,e3⟩:=nw n3 zz;clear zz;have K3:=K1.same (s2.trans s3);refine ⟨_,rfl,d,_,rfl,aX K3.dd K3.v8,l3,lg,_,_,rfl,rfl,e3,K3.eg,?_,fun l4 n4=>?_⟩
     ·rw [cU];unfold dA fE ak;simp only [DL,DI,DQ,Em];omega
     rw [<-lN,<-fF];generalize hgg:dA D++fE D++[[[59],cp "gate"]]++D.gates.map (fun z=>[cp z])=gg;have hggl:gg.length<=40:=by
      rw [<-hgg];unfold dA fE;simp only [DL,DI,DQ,Em];omega
     generalize zz:aq H3 l4 _=H4;have ⟨s4,e4⟩:=nw n4 zz;clear zz;refine ⟨zlx,fun l5 n5=>?_⟩;rw [Bk] at *;generalize zz:aq H4 l5 _=H5;have ⟨s5,e5⟩:=nw n5 zz;clear zz;refine ⟨l4,l5,_,_,rfl,rfl,s5 _ _ e4,e5,?_,fun l6 n6=>?_⟩
     ·rw [cU,cU];simp only [DQ,Em];omega
     rw [<-fF,<-hgg];refine ⟨l6,rfl,s1.trans (s2.trans (s3.trans (s4.trans (s5.trans (af n6))))),?_⟩;rw [ae]
     congr 3
     unfold iu;simp
   ·have K1:=hK.same s1;refine ⟨_,rfl,_,rfl,d,_,rfl,aX K1.dd K1.v5,lw,lp,_,_,rfl,rfl,ew,K1.ep,?_,fun l1 n1=>?_⟩
    ·rw [cU];unfold dA ak;simp only [DI,DQ,Em];omega
    rw [<-lN,<-fF];generalize zz:aq H1 l1 _=H2;have ⟨s2,e2⟩:=nw n1 zz;clear zz;refine ⟨zlx,fun l2 n2=>?_⟩;rw [Bi] at *;generalize zz:aq H2 l2 _=H3;have ⟨s3,e3⟩:=nw n2 zz;clear zz;refine ⟨l1,l2,_,_,rfl,rfl,s3 _ _ e2,e3,?_,fun l3 n3=>?_⟩
    ·rw [cU,cU];unfold dA;simp only [DL,DI,DQ,Em];omega
    rw [<-fF];generalize hgg:dA D++D.places.map (fun z=>[cp z])++[[[59],cp "marks"]]=gg;have hggl:gg.length<=40:=by
     rw [<-hgg];unfold dA;simp only [DL,DI,DQ,Em];omega
    generalize zz:aq H3 l3 _=H4;have ⟨s4,e4⟩:=nw n3 zz;clear zz;have K4:=K1.same (s2.trans (s3.trans s4));refine ⟨_,rfl,d,_,rfl,aX K4.dd K4.v6,l3,lm,_,_,rfl,rfl,e4,K4.em,?_,fun l4 n4=>?_⟩
    ·rw [cU];unfold ak;rw [DI];omega
    rw [<-lN,<-fF,<-hgg];refine ⟨l4,rfl,s1.trans (s2.trans (s3.trans (s4.trans (af n4)))),?_⟩;rw [ae]
    congr 3
  ·refine ⟨_,rfl,d,_,rfl,aX hK.dd hK.v1,_,rfl,ir zo,_,rfl,d,_,rfl,aX hK.dd hK.v2,_,rfl,ir zo,_,rfl,d,_,rfl,aX hK.dd hK.v3,_,rfl,ir zo,zlx,fun lw nlw=>?_⟩;exact ⟨lw,rfl,af nlw,by rw [ae,Bh]⟩
end
theorem DB (va vb vc vd:V):∃ kv,ba [] [(kS "place",va),(kS "mark",vb),(kS "number",vc),(kS "row",vd)]=kv/\bq kv (kS "place")=some va/\bq kv (kS "mark")=some vb/\bq kv (kS "number")=some vc/\bq kv (kS "row")=some vd:=by
 refine ⟨_,rfl,?_,?_,?_,?_⟩
 ·show bq (aQ (aQ (aQ (aQ [] (kS "place") va) (kS "mark") vb) (kS "number") vc) (kS "row") vd) _=_;rw [bz zk,bz zk,bz zk,bS]
 ·show bq (aQ (aQ (aQ (aQ [] (kS "place") va) (kS "mark") vb) (kS "number") vc) (kS "row") vd) _=_;rw [bz zk,bz zk,bS]
 ·show bq (aQ (aQ (aQ (aQ [] (kS "place") va) (kS "mark") vb) (kS "number") vc) (kS "row") vd) _=_;rw [bz zk,bS]
 ·show bq (aQ (aQ (aQ (aQ [] (kS "place") va) (kS "mark") vb) (kS "number") vc) (kS "row") vd) _=_;rw [bS]
theorem zf (w:Nat):(1*2 ^ ((w:Int)).toNat:Int)=((2 ^ w:Nat):Int):=by
 rw [EJ,Int.one_mul]
 norm_cast
inductive gW (vs:List V) (H:Hp) (Q:VK) (Z3:XK):Prop
 | mk (d ls D fn kvs lf lp lm lk lg ks st:_) (n:Nat):vs=[.ref d,.ref ls,.int n]->KpV H d D fn kvs lf lp lm lk lg ks->D.width<=24->H ls=some (.lst (ak st))->(∀ s∈st,s∈sortL)->st.length<=1000->(∀ l H',Same H H'->H l=none->H' l=some (.lst (bH (st.map (eU D n))))->Q (.ref l) H')->gW vs H Q Z3
inductive uu (vs:List V) (H:Hp) (Q:VK) (Z3:XK):Prop
 | mk (q d Hb D fn kvs lf lp lm lk lg ks:_) (n:Nat):vs=[.ref q,.ref d,.int n]->Strm H q->Same Hb H->Hb q=none->KpV Hb d D fn kvs lf lp lm lk lg ks->ShOk D fn->n<=1000->(∀ u r H',RowV H' u r->gT D n r->Strm H' q->But q H H'->Q u H')->uu vs H Q Z3
theorem xI {α β γ:Type} {R:α->γ->Prop} (f:β->γ):∀ {xs:List α} {ys:List β},Paired R xs (ys.map f)->Paired (fun a b=>R a (f b)) xs ys
 | [],[],_=>.nil
 | _::_,_::_,.cons h t=>.cons h (xI f t)
theorem ci {H Hc H':Hp} {a:Addr} (na:H a=none) (sc:Same H Hc) (b:But a Hc H'):Same H H':=fun c o e=>b c o (sc c o e) (ap e na)
section
variable {P:Program} {w:World} {K:ZF} {mg:Str->Option Value} {base:Heap} {C Cp:Addr} {tb tm:Tok}
theorem scBounds:aw ["_law_table","_law_sorts","_law_rows","_law_some"] ["_law_table","_law_sorts","_law_rows"] (aj iN):=cI zk
theorem CG:(["_law_sort","_law_some"]:List Str).Nodup:=by decide +kernel
variable {fd:FuncData} {f:Addr}
theorem qS (F:Fun K "_law_bounds" "_law_bounds" iN f fd) (B:Bl mg):FnOk P w K mg base bY 2 f fd ["_law_table","_law_sorts","_law_rows"] gW:=by
 have ZZ:=scBounds
 walk_at "o"
 ·obtain ⟨d,ls,D,fn,kvs,lf,lp,lm,lk,lg,ks,st,n,rfl,hK,hw,hls,hst,hsl,q⟩:=h;have sz:(100000:Nat)<=sizeLine:=by decide
  have hu:=gi hr;refine ⟨_,ag (au (i:=3) scBounds.nd rfl (Or.inr rfl) (cg (bh am (av ay (by rfl) B.len D3 (ac (aV hu (pv 0) am) ad)) (bh am (av ay (by rfl) B.len D3 (ac (aV hu (pv 0) am) ad)) (bh am (aG rJ ah (aV hu (pv 0) am)) (bh am (aG bO (pv 2) ah) cf)))) rfl rfl (by intro z;cases z) (by show 4<=15;decide)))
   (ai (aA (dN (N':=["_law_sort","_law_some"]) (ix:=[none,some 3]) (sc0:=aj iN) (N:=["_law_table","_law_sorts","_law_rows","_law_some"]) rfl zk (cW (pv 1)) (fun C' cl s H fp=>aC (i:=0) CG rfl (Or.inl rfl) (.inr rfl)) (fun _ _ _ _ _=>c0) (fun C' cl s H fp=>aV hu (pv 1) (pv 0) (fun _ _=>rfl))))),?_⟩
  refine fun ds nds=>?_;have s1:=af (o:=.dK []) nds;have e1:(aq H ds (.dK [])) ds=some (.dK []):=ae;have K1:=hK.same s1;have hdsx:∀ o,(aq H ds o) ds=some o:=fun o=>ae;refine ⟨_,rfl,d,_,rfl,aX K1.dd K1.v5,lp,_,rfl,.inl (SqL.of K1.ep),_,rfl,d,_,rfl,aX K1.dd K1.v6,lm,_,rfl,.inl (SqL.of K1.em),_,rfl,d,_,rfl,aX K1.dd K1.v1,_,_,rfl,rfl,⟨zo,zo,zd⟩,_,rfl,_,_,rfl,rfl,e1,?_⟩;obtain ⟨kv,ekv,h1,h2,h3,h4⟩:=DB (.int ((ak D.places).length:Nat)) (.int ((ak D.marks).length:Nat)) (.int (1*2 ^ ((D.width:Int)).toNat)) (.int ((n:Int)+1));refine ⟨[(kS "place",.int ((ak D.places).length:Nat)),(kS "mark",.int ((ak D.marks).length:Nat)),(kS "number",.int (1*2 ^ ((D.width:Int)).toNat)),(kS "row",.int ((n:Int)+1))],rfl,by show 4<=15;decide,?_⟩;rw [ekv];have hv:∀ s∈sortL,bq kv (Sum.inr s)=some (.int (eU D n s:Nat)):=by
   intro s hs;have hs':s∈(["place","mark","number","row"]:List Str):=hs;simp only [DY,Eb,or_false] at hs';rcases hs' with rfl|rfl|rfl|rfl
   ·refine h1.trans ?_;unfold eU ak;rw [if_pos rfl,DI]
   ·refine h2.trans ?_;unfold eU ak;rw [if_neg zk,if_pos rfl,DI]
   ·refine h3.trans ?_;unfold eU;rw [if_neg zk,if_neg zk,if_pos rfl,zf]
   ·refine h4.trans ?_;unfold eU;rw [if_neg zk,if_neg zk,if_neg zk];rfl
  have s2:Same H (aq (aq H ds (.dK [])) ds (.dK kv)):=aU nds s1;have e2:(aq (aq H ds (.dK [])) ds (.dK kv)) ds=some (.dK kv):=ae;generalize aq (aq H ds (.dK [])) ds (.dK kv)=H2 at *;refine ⟨_,rfl,ls,rfl,⟨_,SqL.of (s2 _ _ hls)⟩,?_⟩;refine fL (K:=K) (a:=ls) (xs:=ak st) (fun i ys H'=>H'=H2/\ys=bH ((st.take i).map (eU D n))) ⟨rfl,rfl⟩ (fun i ys H' hi ⟨a1,a2⟩=>by
    subst a1 a2;refine ⟨SqL.of (s2 _ _ hls),?_⟩;unfold bH;rw [DI,DI,DS];omega) ?_ ?_
  ·rintro i x ys H3 hx ⟨rfl,rfl⟩;obtain ⟨s,hsi,rfl⟩:∃ s,st[i]?=some s/\x=.str s:=by
    unfold ak at hx;rw [Ec] at hx;cases e:st[i]? with
    | none=>rw [e] at hx;cases hx
    | some g=>rw [e] at hx;exact ⟨g,rfl,(D5 hx).symm⟩
   refine ⟨⟨rfl,trivial⟩,dk ?_⟩;refine ⟨_,rfl,_,rfl,ds,_,rfl,aX e2 (hv s (hst s (D4 hsi))),Nx.mk (DK.mp hx).1 ⟨rfl,?_⟩⟩;rw [Eu,hsi];unfold bH;simp
  ·rintro ys H3 ⟨rfl,rfl⟩ l nl;have el:(ak st).length=st.length:=by unfold ak;rw [DI]
   rw [el,Ew];exact q l _ (s2.trans (af nl)) (s2.free nl) ae
theorem scSR:aw ["_law_stream_here","_law_table","_law_rows","_law_name","_law_sorts"] ["_law_stream_here","_law_table","_law_rows"] (aj fQ):=cI zk
theorem CH:(["_law_bound","_law_stream_here"]:List Str).Nodup:=by decide +kernel
theorem Bo (F:Fun K "_law_shape_row" "_law_shape_row" fQ f fd) (B:Bl mg) (TK':Fn P w K mg base "_law_take" 1 ["_law_stream_here","_law_many"] fz) (BD:Fn P w K mg base "_law_bounds" 2 ["_law_table","_law_sorts","_law_rows"] gW):FnOk P w K mg base bY 3 f fd ["_law_stream_here","_law_table","_law_rows"] uu:=by
 have ZZ:=scSR
 walk_at "o"
 ·obtain ⟨q,d,Hb,D,fn,kvs,lf,lp,lm,lk,lg,ks,n,rfl,hq,sb,nq,hK,hO,hn,qq⟩:=h;have sz:(100000:Nat)<=sizeLine:=by decide
  have hu:=gi hr;refine ⟨_,ag (ff (aZ aY (aV hu (pv 1) am) (aB TK' hr.m rfl (ac (pv 0) (ac (av ay (by rfl) B.len D3 (ac (aV hu (pv 1) am) ad)) ad)))) (cM rfl (aJ (aC (i:=3) scSR.nd rfl (Or.inl rfl)) (aJ (aC (i:=4) scSR.nd rfl (Or.inl rfl)) cb))))
   (ai (aA (aN (ac (pv 3) (ac (aR bn (by rfl) B.tuple bo (ac (dN (N':=["_law_bound","_law_stream_here"]) (ix:=[none,some 0]) (sc0:=aj fQ) (N:=["_law_stream_here","_law_table","_law_rows","_law_name","_law_sorts"]) rfl zk (cW (aB BD hr rfl (ac (pv 1) (ac (pv 4) (ac (pv 2) ad))))) (fun C' cl s H fp=>aC (i:=0) CH rfl (Or.inl rfl) (.inr rfl)) (fun _ _ _ _ _=>c0) (fun C' cl s H fp=>aB TK' hr.m rfl (ac (pv 1) (ac (pv 0) ad)))) ad)) ad))))),?_⟩
  have K1:=hK.same sb;have lks:=hK.kd.length;have k1:=hO.k1;have k8:=hO.fm.k8;refine ⟨_,rfl,d,_,rfl,aX K1.dd K1.v7,_,rfl,_,rfl,d,_,rfl,aX K1.dd K1.v7,lk,_,rfl,.inl (SqL.of K1.ek),q,_,rfl,hq,zo,zo,fun j H1 hj g1 b1=>?_⟩;have s1:=ci nq sb b1;have K2:=hK.same s1;have hju:ks[j]?=some ks[j]:=D9 hj;obtain ⟨x,hxj,pt,l,eu,hpt,hl⟩:=iD K2.kd hju;refine ⟨lk,_,_,_,rfl,rfl,SqL.of K2.ek,bN hju,pt,_,eu,SqT.of hpt,rfl,_,_,rfl,_,_,rfl,rfl,?_⟩;have hxm:x∈D.kinds:=D4 hxj;obtain ⟨st,efs,st3,hst⟩:=hO.kf x hxm;have f3:=hO.f3;have esn:x.fs.map (·.2)=st:=by rw [efs];exact bE _ _ zo
  rw [esn] at hl;refine ⟨_,rfl,_,rfl,_,rfl,_,rfl,d,l,D,fn,kvs,lf,lp,lm,lk,lg,ks,st,n,rfl,K2,hO.w24,hl,fun s hs=>(hst s hs).1,zo,fun lb H2 s2 nlb elb=>?_⟩;have g2:=g1.same s2;have qlb:q≠lb:=g1.ne nlb;refine ⟨lb,rfl,⟨_,SqL.of elb⟩,?_⟩;have elen:(bH (st.map (eU D n))).length=st.length:=by unfold bH;rw [DI,DI]
  refine fL (K:=K) (a:=lb) (xs:=bH (st.map (eU D n))) (fun i ys H'=>∃ ops:List Nat,Strm H' q/\But q H2 H'/\ys=bH ops/\ops.length=i/\i<=st.length/\Paired (fun o s=>o < eU D n s) ops (st.take i)) ⟨[],g2,But.refl _ _,rfl,rfl,Ej _,.nil⟩ (fun i ys H' hi ⟨ops,_,b',e1,e2,e3,_⟩=>⟨SqL.of (b' _ _ elb qlb.symm),by rw [e1];unfold bH;rw [DI];omega⟩) ?_ ?_
  ·rintro i y ys H3 hy ⟨ops,g3,b3,rfl,lo,hi,hp⟩;obtain ⟨bb,hbb,rfl⟩:=yY hy;obtain ⟨s,hsi,rfl⟩:∃ s,st[i]?=some s/\bb=eU D n s:=by
    rw [Ec] at hbb;cases e:st[i]? with
    | none=>rw [e] at hbb;cases hbb
    | some g=>rw [e] at hbb;exact ⟨g,rfl,(D5 hbb).symm⟩
   have hilt:i < st.length:=(DK.mp hsi).1;have hs:=hst s (D4 hsi);have hpos:0 < eU D n s/\eU D n s < 18446744073709551616:=by
    have p1:=hO.p1;have p4:=hO.fm.p4;have m3:=hO.fm.m3;have h2:2 ^ D.width<=2 ^ 24:=Nat.pow_le_pow_right zd hO.w24;have h3:0 < 2 ^ D.width:=Nat.pow_pos zd;unfold eU;by_cases e1:s="place"
    ·rw [if_pos e1];omega
    rw [if_neg e1];by_cases e2:s="mark"
    ·rw [if_pos e2];have:=hs.2 e2;omega
    rw [if_neg e2];split<;>omega
   refine ⟨⟨rfl,trivial⟩,dk ?_⟩;refine ⟨_,rfl,_,rfl,q,eU D n s,rfl,g3,hpos.1,hpos.2,fun o H4 ho g4 b4=>?_⟩;refine Nx.mk (DK.mp hy).1 ⟨ops++[o],g4,b3.trans b4,by unfold bH;rw [DP];rfl,by rw [DL,lo];rfl,hilt,?_⟩;rw [Eu,hsi];exact dP (R:=fun o s=>o < eU D n s) ho hp
  ·rintro ys H3 ⟨ops,g3,b3,rfl,lo,hi,hp⟩ lq nlq;rw [elen,Ew] at hp;have s4:=af (o:=.lst (bH ops)) nlq;have e4:(aq H3 lq (.lst (bH ops))) lq=some (.lst (bH ops)):=ae;have g4:=g3.same s4;generalize aq H3 lq (.lst (bH ops))=H4 at *;refine ⟨lq,_,rfl,.inl ⟨SqL.of e4,fun t nt=>?_⟩⟩;have s5:=af (o:=.tup (bH ops)) nt;have e5:(aq H4 t (.tup (bH ops))) t=some (.tup (bH ops)):=ae;have g5:=g4.same s5;generalize aq H4 t (.tup (bH ops))=H5 at *;refine ⟨zlx,fun p np=>?_⟩;have s6:=af (o:=.tup [.str x.name,.ref t]) np;rw [<-esn] at hp;exact qq _ ⟨x,ops⟩ _ ⟨p,t,rfl,ae,s6 _ _ e5⟩ ⟨hxm,xI (R:=fun o s=>o < eU D n s) (fun f:Str×Str=>f.2) hp⟩ (g5.same s6) ((b1.trans ((fw s2).trans b3)).same (s4.trans (s5.trans s6)))
end
end L3
namespace XB
open PySem PySem.W PySem.Calls PyProof.Rows Builtin Builtin.ObjectAttr
abbrev bmV:List Value:=[.type "ValueError",.type "Exception",.type "BaseException",.type "object"]
section
variable {prog:Program} {w:World} {A:Around} {E:Value->Shared->Prop} {s:Shared} {K:Frag} {x C:Addr} {ox:Obj} {od:Option Obj} {name:Str} {expr:Bool}
variable {v:Value}
theorem xga_run {tk:Tok} {R:Result->Shared->Prop} (X:K.In s.heap) (I:InstAt s.heap x ox C od) (hb:mroIn K C (.type "BaseException")=some true) (hf:findObj K C od name=some (.value v)) (hq:R (.ok (.ret v)) s) :
  codeAny (model prog w) A (.call (.builtin "BaseException.__getattribute__") ⟨[.ref x,.str name tk],[]⟩) R s:=by
 refine codeAny_call_builtin F.attr_ValueError.ga.plain F.entry_bexc_ga ?_;refine @check_slot (model prog w) _ _ s "BaseException.__getattribute__" "BaseException" "__getattribute__" (.ref x) [.str name tk] [] _ zk zk (I.type.andThen (looks_mroIn X hb)) (F.args_bexc_ga (.ref x) (.str name tk)) ?_;obtain ⟨hh,g,d,t,os⟩:=s;have L0:=I.type (M:=model prog w);have L1:=looks_find (M:=model prog w) X I hf;refine wpAny_bind (wpAny_pure (wpAny_bind (wpAny_pure (wpAny_bind (L0.at (wpAny_bind (L1.at ?_)))))));exact wpAny_pure hq
theorem xget_open {Q:Value->Shared->Prop} (X:K.In s.heap) (I:InstAt s.heap x ox C od) (hga:findIn K (.ref C) "__getattribute__"=some (some (.builtin "BaseException.__getattribute__"))) (hgt:findIn K (.ref C) "__getattr__"=some none)
  (h:codeAny (model prog w) A (.call (.builtin "BaseException.__getattribute__") ⟨[.ref x,.str name s.toks],[]⟩) (fun r s'=>match r with|.ok (.ret v)=>wpAny (model prog w) A (handedOut v) Q E s'|_=>False) { s with toks:=s.toks+1 }) :
  wpAny (model prog w) A (getAttr (.ref x) name expr) Q E s:=by
 obtain ⟨hh,g,d,t,os⟩:=s;have L0:=I.type (M:=model prog w);have L1:=looks_findIn (M:=model prog w) X hga;have L2:=looks_findIn (M:=model prog w) X hgt;have hx2:(Value.builtin "BaseException.__getattribute__" == Value.builtin "object.__getattribute__")=false:=by decide +kernel
 unfold getAttr getAttrBy;refine wpAny_bind (wpAny_mkText (wpAny_holding (wpAny_bind (L0.at (wpAny_bind (L1.at ?_))))));dsimp only;rw [show (onTheHeap (Value.ref C) && Value.builtin "BaseException.__getattribute__" == Value.builtin "object.__getattribute__")=false by rw [hx2];rfl,if_neg zd];unfold getAttrByItsOwn hookBefore;rw [if_pos (show onTheHeap (Value.ref C)=true from rfl)];refine wpAny_bind (L2.at (wpAny_bind (wpAny_attempt (wpAny_holding ?_))));unfold callGetattribute;rw [show (expr && onTheHeap (Value.builtin "BaseException.__getattribute__"))=false by cases expr<;>rfl,if_neg zd];unfold boundAndCalled;rw [F.attr_ValueError.ga.bind];refine wpAny_bind (wpAny_pure ?_);show wpAny _ _ (call (.builtin "BaseException.__getattribute__") [.ref x,.str name t]) _ _ _;refine wpAny_call (codeAny_mono h fun r s' z=>?_);rcases r with e|(v|_|_|_)<;>first|exact z|exact z.elim
theorem xget_value {v:Value} {Q:Value->Shared->Prop} (X:K.In s.heap) (I:InstAt s.heap x ox C od) (hga:findIn K (.ref C) "__getattribute__"=some (some (.builtin "BaseException.__getattribute__"))) (hgt:findIn K (.ref C) "__getattr__"=some none)
  (hb:mroIn K C (.type "BaseException")=some true) (hf:findObj K C od name=some (.value v)) (hh:handedIn v=true) (h:Q v { s with toks:=s.toks+1 }):wpAny (model prog w) A (getAttr (.ref x) name expr) Q E s:=
 xget_open X I hga hgt (xga_run (s:={ s with toks:=s.toks+1 }) X I hb hf (handed_on hh h))
end
end XB
namespace XB
open PySem PySem.W PySem.Calls PyProof.Rows Builtin Builtin.ObjectAttr
section
variable {prog:Program} {w:World} {A:Around} {E:Value->Shared->Prop} {h:Heap} {g:Array GenState} {d:Drawn} {t:Nat} {os:OsState}
variable {nm q:Str} {C N x:Addr} {bs bm:List Value} {sn:List Str} {sub:List Value} {ab:Bool} {col:Option Bool} {dd:Option Addr} {k0 k1 k2 k3 k5:Option Value} {newId:String}
 {mA:Str->Option Value} {name:Str} {v:Value} {o:Obj}
def Tail (bm:List Value):Prop:=bm=bmV\/∃ R,bm=.ref R::bmV
theorem Tail.pass (T:Tail bm) (self:Value):refuseLoop self "__setattr__" bm=pure ():=by
 rcases T with rfl|⟨R,rfl⟩
 ·exact F.store_ValueError.passes self
 ·rw [refuseLoop_ref];exact F.store_ValueError.passes self
theorem Tail.has (T:Tail bm) (C:Addr) (n:String) (b:Bool) (e:bmV.contains (.type n)=b):(Value.ref C::bm).contains (.type n)=b:=by
 rcases T with rfl|⟨R,rfl⟩
 ·rw [List.contains_cons,e];rfl
 ·rw [List.contains_cons,List.contains_cons,e];rfl
theorem xstore_new {tk:Tok} {Q:Fin->Shared->Prop} (T:Tail bm) (hC:h.get? C=some (excClassObj nm q C N bs bm true sn sub ab col dd k0 k1 k2 k3 k5 newId)) (LN:Looks (model prog w) h (typeLookup (.ref C) name) none)
  (hx:h.get? x=some o) (hc:o.cls=.ref C) (hnc:∀ c,o.data≠.cls c) (hdn:o.dict=none)
  (hq:∀ h' tk',h'.get? x=some { cls:=o.cls,dict:=some h.objs.size,data:=o.data,slots:=o.slots }->h'.Ns1 h.objs.size (fun y=>if y=name then some v else none)->(∀ b ob,b≠x->h.get? b=some ob->h'.get? b=some ob)->Q (.done (.ret .none)) ⟨h',g,d,tk',os⟩) :
  wpAny (model prog w) A (Builtin.«object.__setattr__» ⟨[.ref x,.str name tk,v],[]⟩) Q E ⟨h,g,d,t,os⟩:=by
 have hpass:=T.pass (.ref x);unfold Builtin.«object.__setattr__»;repeat (first|rw [refuse_eq]|(rw [refuseLoop_ref,hpass])|(with_reducible refine wpAny_loadPart_at hx ?_;rw [hc])|with_reducible refine wpAny_mroOf_exc hC ?_|with_reducible refine LN.at ?_|wp_step)
 rw [hdn,if_neg (by simp [typeHasDict])];split
 ·rename_i hcd;cases hcd
 split
 ·rename_i c hcd;exact absurd hcd (hnc c)
 ·have hx₁:(h.push { cls:=.type "dict",data:=.dict #[] }).get? x=some o:=DJ _ hx;have hxs:x≠h.objs.size:=Eg (DW hx);refine wpAny_bind (wpAny_alloc' ?_);refine wpAny_bind (wpAny_update' hx₁ ?_);refine wpAny_pure ?_;have hgd:((h.push { cls:=.type "dict",data:=.dict #[] }).update x fun o=>{ cls:=o.cls,dict:=some h.objs.size,data:=o.data,slots:=o.slots }).get? h.objs.size
    = some { cls:=.type "dict",data:=.dict #[] }:=
   (Heap.get?_update_ne _ _ _ _ hxs.symm).trans (Heap.get?_push_at rfl rfl)
  have hnd:((h.push { cls:=.type "dict",data:=.dict #[] }).update x fun o=>{ cls:=o.cls,dict:=some h.objs.size,data:=o.data,slots:=o.slots }).Ns h.objs.size (fun _=>none):=
   ⟨_,#[],_,hgd,rfl,fun e he=>absurd he (by simp),fun _=>rfl⟩
  show wpAny _ _ (storeInDict h.objs.size (.str name tk) name v) _ _ _;unfold storeInDict newKeyGuard;refine wpAny_bind (wpAny_pure (wpAny_bind (wpAny_nsSet1 (Heap.Ns1.of_empty hnd) fun h' hn' hs=>?_)));obtain ⟨oD,esD,epD,hoD,hdD,hcD⟩:=hn'.count (Within.cons name v Within.nil);refine wpAny_bind (wpAny_lookBehind hoD (by rw [hdD];exact pastItsLine_dict (Ef hcD (by rw [DQ,Em,sizeLine_eq];omega))) ?_)
  wp_walk
  refine hq h' _ ?_ hn' (fun b ob hbx hb=>?_)
  ·refine (hs.2 x hxs).trans (Heap.get?_update_self _ hx₁ ?_);have hfr:=(Heap.get?_some_iff.mp hx).2;obtain ⟨oc,od,odt,osl⟩:=o;cases odt<;>first|rfl|exact hfr
  ·exact (hs.2 b (Eg (DW hb))).trans ((Heap.get?_update_ne _ _ _ _ hbx).trans (DJ _ hb))
theorem xstore_old {tk:Tok} {Q:Fin->Shared->Prop} {dx:Addr} {ns:List Str} (T:Tail bm) (hC:h.get? C=some (excClassObj nm q C N bs bm true sn sub ab col dd k0 k1 k2 k3 k5 newId)) (LN:Looks (model prog w) h (typeLookup (.ref C) name) none)
  (hx:h.get? x=some o) (hc:o.cls=.ref C) (hdx:o.dict=some dx) (hns:h.Ns1 dx mA) (hw:Within mA ns) (hsz:ns.length < sizeLine)
  (hq:∀ h' tk',h'.Ns1 dx (fun y=>if y=name then some v else mA y)->Heap.SameBut dx h h'->Q (.done (.ret .none)) ⟨h',g,d,tk',os⟩) :
  wpAny (model prog w) A (Builtin.«object.__setattr__» ⟨[.ref x,.str name tk,v],[]⟩) Q E ⟨h,g,d,t,os⟩:=by
 have hpass:=T.pass (.ref x);unfold Builtin.«object.__setattr__»;repeat (first|rw [refuse_eq]|(rw [refuseLoop_ref,hpass])|(with_reducible refine wpAny_loadPart_at hx ?_;rw [hc])|with_reducible refine wpAny_mroOf_exc hC ?_|with_reducible refine LN.at ?_|wp_step)
 rw [hdx];refine wpAny_pure ?_;show wpAny _ _ (storeInDict dx (.str name tk) name v) _ _ _;unfold storeInDict newKeyGuard;refine wpAny_bind (wpAny_pure (wpAny_bind (wpAny_nsSet1 hns fun h' hn' hs=>?_)));obtain ⟨oD,esD,epD,hoD,hdD,hcD⟩:=hn'.count (Within.cons name v hw);refine wpAny_bind (wpAny_lookBehind hoD (by rw [hdD];exact pastItsLine_dict (Ef hcD (by rw [DQ];omega))) ?_)
 wp_walk
 exact hq h' _ hn' hs
theorem xset_open {Q:Unit->Shared->Prop} {K:Frag} {od:Option Obj} (X:K.In h) (I:InstAt h x o C od) (hs:findIn K (.ref C) "__setattr__"=some (some (.builtin "object.__setattr__"))) (ho:mroIn K C (.type "object")=some true)
  (hq:∀ A',wpAny (model prog w) A' (Builtin.«object.__setattr__» ⟨[.ref x,.str name t,v],[]⟩) (fun f s'=>f=.done (.ret .none)/\Q () s') (fun _ _=>False) ⟨h,g,d,t+1,os⟩) :
  wpAny (model prog w) A (setAttr (.ref x) name v) Q E ⟨h,g,d,t,os⟩:=by
 refine set_plain X I hs ?_;refine codeAny_call_builtin F.store_ValueError.slot.plain F.store_ValueError.entry ?_;refine @check_slot (model prog w) _ _ ⟨h,g,d,t+1,os⟩ "object.__setattr__" "object" "__setattr__" (.ref x) [.str name t,v] [] _ F.store_ValueError.kind F.store_ValueError.split (I.type.andThen (looks_mroIn X ho)) (F.store_ValueError.args (.ref x) (.str name t) v) ?_;refine wpAny_mono (hq _) (fun f s' z=>?_) fun _ _ z=>z.elim;obtain ⟨rfl,z⟩:=z;exact z
theorem xcheck_new {M:Model} {rest:List Value} {Q:Unit->Shared->Prop} (T:Tail bm) (hC:h.get? C=some (excClassObj nm q C N bs bm true sn sub ab col dd k0 k1 k2 k3 k5 "ValueError.__new__"))
  (hq:Q () ⟨h,g,d,t,os⟩):wpAny M A (checkBuiltinCall "ValueError.__new__" ⟨.ref C::rest,[]⟩) Q E ⟨h,g,d,t,os⟩:=by
 have F:=F.excBase_ValueError;have hcont:=T.has C "ValueError" true zk;have hstar:=F.noStar;simp only [checkBuiltinCall,F.newKind,F.newSplit,F.newRow];repeat (first|refine wpAny_loadPart_at hC ?_|(refine wpAny_isSubtype_exc hC ?_;rw [hcont])|refine wpAny_staticBase_exc hC ?_|refine wpAny_madeBy_exc hC ?_|simp only [bne_self_eq_false,Bool.false_eq_true,if_false]|wp_step)
 exact hq
theorem xnew {R:Result->Shared->Prop} {rest:List Value} (T:Tail bm) (hC:h.get? C=some (excClassObj nm q C N bs bm true sn sub ab col dd k0 k1 k2 k3 k5 "ValueError.__new__"))
  (hq:R (.ok (.ret (.ref (h.objs.size+1)))) ⟨(h.push { cls:=.type "tuple",data:=.seq rest.toArray }).push
   { cls:=.ref C,data:=.fields #[.ref h.objs.size,.none,.none,.none,.bool false,.none] },g,d,t,os⟩) (hrest:rest.length<=sizeLine) :
  codeAny (model prog w) A (.builtin "ValueError.__new__" ⟨.ref C::rest,[]⟩) R ⟨h,g,d,t,os⟩:=by
 have F:=F.excBase_ValueError;have hends:=F.ends;have hcB:=T.has C "ValueError" true zk;have hcA:=T.has C "AttributeError" false zk;have hcN:=T.has C "NameError" false zk;refine codeAny_builtinAt F.entry ?_;unfold Builtin.«BaseException.__new__»;refine PySem.wpAt_bind ?_;show PySem.wpAt _ _ _ (stack >>= _) _ _ _;refine PySem.wpAt_bind (PySem.wpAt_stack fun p below=>PySem.wpAt_of_wpAny ?_)
 wp_walk
 refine PySem.wpAt_of_wpAny ?_;rw [F.owner];repeat (first|with_reducible refine wpAny_madeHere_exc F.canon hC ?_|with_reducible refine wpAny_loadPart_at hC ?_|(with_reducible refine wpAny_isSubtype_exc hC ?_;first|rw [hcB]|rw [hcA]|rw [hcN])|wp_step)
 show R _ _;rw [EK];exact hq
abbrev tupO (rest:List Value):Obj:={ cls:=.type "tuple",data:=.seq rest.toArray }
abbrev excO (C:Addr) (a:Addr):Obj:={ cls:=.ref C,data:=.fields #[.ref a,.none,.none,.none,.bool false,.none] }
theorem xmake_type {rest:List Value} {fI:Addr} {oI:Obj} {Q:Fin->Shared->Prop} (T:Tail bm) (hC:h.get? C=some (excClassObj nm q C N bs bm true sn sub ab col dd k0 k1 k2 k3 k5 "ValueError.__new__"))
  (LI:Looks (model prog w) h (typeLookup (.ref C) "__init__") (some (.ref fI))) (hfI:h.get? fI=some oI) (hfc:oI.cls=.type "function")
  (hq:wpAny (model prog w) A (call (.ref fI) (.ref (h.objs.size+1)::rest)) (fun r s'=>r=.none/\Q (.done (.ret (.ref (h.objs.size+1)))) s') E ⟨(h.push (tupO rest)).push (excO C h.objs.size),g,d,t,os⟩) (hrest:rest.length<=sizeLine) :
  wpAny (model prog w) A (Builtin.«type.__call__» ⟨.ref C::rest,[]⟩) Q E ⟨h,g,d,t,os⟩:=by
 have F:=F.excBase_ValueError;repeat (first|with_reducible refine wpAny_loadPart_at hC ?_|with_reducible refine wpAny_madeBy_exc hC ?_|wp_step)
 refine codeAny_call_builtin_code (Code.quiet_builtin _ F.quiet) (xcheck_new T hC ?_);refine xnew T hC ?_ hrest;show wpAny _ _ _ _ _ _;have kp:∀ b o,h.get? b=some o->((h.push (tupO rest)).push (excO C h.objs.size)).get? b=some o:=fun b o hb=>DJ _ (DJ _ hb);have hC₁:=kp _ _ hC;have hfI₁:=kp _ _ hfI;have hget:((h.push (tupO rest)).push (excO C h.objs.size)).get? (h.objs.size+1)=some (excO C h.objs.size):=by heap_get
 have hcC:(Value.ref C::bm).contains (.ref C)=true:=by simp
 unfold isInstance;repeat (first|with_reducible refine wpAny_loadPart_at hget ?_|(with_reducible refine wpAny_isSubtype_exc hC₁ ?_;rw [hcC])|wp_step)
 show wpAny _ _ (typeLookup (.ref C) _) _ _ _;refine LI _ _ _ _ kp ?_;refine wpAny_holding (wpAny_bind ?_);unfold bindSpecial;refine wpAny_bind (wpAny_typeOf (T:="function") ⟨_,hfI₁,hfc⟩ ?_);rw [if_pos zd];refine wpAny_pure (wpAny_bind (wpAny_mono hq (fun r s' hr=>?_) fun _ _ x=>x));obtain ⟨rfl,hQ⟩:=hr
 wp_walk
 exact hQ
theorem xmake {rest:List Value} {fI:Addr} {oI:Obj} {Q:Value->Shared->Prop} (T:Tail bm) (hC:h.get? C=some (excClassObj nm q C N bs bm true sn sub ab col dd k0 k1 k2 k3 k5 "ValueError.__new__"))
  (LI:Looks (model prog w) h (typeLookup (.ref C) "__init__") (some (.ref fI))) (hfI:h.get? fI=some oI) (hfc:oI.cls=.type "function")
  (hq:wpAny (model prog w) (A.under (.builtin "type.__call__" ⟨.ref C::rest,[]⟩)) (call (.ref fI) (.ref (h.objs.size+1)::rest)) (fun r s'=>r=.none/\Q (.ref (h.objs.size+1)) s') E ⟨(h.push (tupO rest)).push (excO C h.objs.size),g,d,t,os⟩)
  (hrest:rest.length<=sizeLine) :
  wpAny (model prog w) A (call (.ref C) rest) Q E ⟨h,g,d,t,os⟩:=by
 have f1:=tc_lookup;have f2:=tc_bind (.ref C);have hT:(⟨h,g,d,t,os⟩:Shared).TypeIs (.ref C) "type":=⟨_,hC,rfl⟩;refine wpAny_call (codeAny_of_tree ?_);show wpAny _ _ (callAny (.ref C) _) _ _ _;repeat (any_goals (first|assumption|with_reducible refine wpAny_loadPart_at hC ?_|wp_step))
 refine ⟨rfl,?_⟩;refine codeAny_call_builtin_at (Code.quiet_builtin _ zk) entry_typeCall (wpAny_check_type_call_sub hC (xmake_type T hC LI hfI hfc ?_ hrest));exact hq
end
end XB
namespace XB
open PySem PySem.W PySem.Calls PyProof.Rows Builtin Builtin.ObjectAttr
section
variable {prog:Program} {w:World} {A:Around} {E:Value->Shared->Prop} {h:Heap} {g:Array GenState} {d:Drawn} {t:Nat} {os:OsState}
variable {nm q:Str} {C N x:Addr} {bs bm:List Value} {sn:List Str} {sub:List Value} {ab:Bool} {col:Option Bool} {dd:Option Addr} {k0 k1 k2 k3 k5:Option Value} {newId:String}
 {mA:Str->Option Value} {name:Str} {v:Value} {o:Obj}
theorem xinit {R:Result->Shared->Prop} {rest:List Value} {vs:Array Value} {a0:Addr} (T:Tail bm) (hC:h.get? C=some (excClassObj nm q C N bs bm true sn sub ab col dd k0 k1 k2 k3 k5 newId)) (hx:h.get? x=some o) (hc:o.cls=.ref C)
  (hd:o.data=.fields vs) (h0:vs[0]?=some (.ref a0)) (hrest:rest.length<=sizeLine)
  (hq:∀ h' vs',(∀ b ob,b≠x->h.get? b=some ob->h'.get? b=some ob)->h'.get? x=some { cls:=o.cls,dict:=o.dict,data:=.fields vs',slots:=o.slots }->(∃ a,vs'[0]?=some (.ref a)/\vs'[1]?=vs[1]?)->R (.ok (.ret .none)) ⟨h',g,d,t,os⟩) :
  codeAny (model prog w) A (.call (.builtin "ValueError.__init__") ⟨.ref x::rest,[]⟩) R ⟨h,g,d,t,os⟩:=by
 have F:=F.excBase_ValueError;have hcB:=T.has C "ValueError" true zk;have hshort:=F.noStar;refine codeAny_call_builtin F.init.plain F.initEntry ?_;simp only [checkBuiltinCall,F.initKind,F.initSplit,F.initRow];repeat (first|(with_reducible refine wpAny_loadPart_at hx ?_;rw [hc])|(with_reducible refine wpAny_isSubtype_exc hC ?_;rw [hcB])|wp_step)
 refine wpAny_onRaise ?_;rw [show ∀ (a b:String) (n:Nat),Bind.check ⟨.positional,"*","ValueError",.self,[⟨"args",.varPos,false⟩]⟩ a b n (List.map (fun x=>x.fst) ({ pos:=Value.ref x::rest }:Args).kw)=pure () from
  fun a b n=>check_star_args _ _ _ _ _ _]
 refine wpAny_pure ?_
 wp_walk
 rw [hd];repeat (any_goals (first|assumption|rw [h0]|wp_step))
 rw [hd];have hsz:0 < vs.size:=by
  have:=(Array.getElem?_eq_some_iff.mp h0).1;exact this
 dsimp only;rw [if_pos hsz];have hx₁:(h.push (tupO rest)).get? x=some o:=DJ _ hx;refine wpAny_update' hx₁ ?_;repeat (any_goals (first|assumption|wp_step))
 have hfr:=(Heap.get?_some_iff.mp hx).2;refine hq _ (vs.setIfInBounds 0 (.ref h.objs.size)) (fun b ob hb e=>?_) ?_ ⟨h.objs.size,?_,?_⟩
 ·rw [Heap.get?_update_ne _ _ _ _ hb];exact DJ _ e
 ·rw [Heap.get?_update_self _ hx₁ (by obtain ⟨oc,od,odt,osl⟩:=o;cases hd;rfl)];obtain ⟨oc,od,odt,osl⟩:=o;cases hd;rfl
 ·simp [hsz]
 ·exact Array.getElem?_setIfInBounds_ne zd
variable {K:Frag}
theorem val_cls:findCls K (.type "ValueError") (.type "type") "__init__"=some (.val (.builtin "ValueError.__init__")):=by rfl
variable {M:Model}
theorem val_opaque:Looks M h (opaqueClassAbove (.type "ValueError")) none:=Looks.of_pure (by kernel_rfl)
theorem val_type:Looks M h (typeOf (.type "ValueError")) (.type "type"):=Looks.of_pure (by kernel_rfl)
variable {Q:Value×List Value->Shared->Prop} {s:Shared}
theorem val_method {pl:Sem Bool} (X:K.In s.heap) (hq:Q (.builtin "ValueError.__init__",[]) { s with toks:=s.toks+1 }) :
  wpAny (model prog w) A (getMethod (.type "ValueError") "__init__" pl) Q E s:=by
 unfold getMethod specialOf;refine wpAny_bind (wpAny_bind (val_type.here ?_));have L:Looks (model prog w) s.heap (typeLookup (.type "type") "__getattribute__") (some (.builtin "type.__getattribute__")):=Looks.of_pure KF.slot_tga.lookup;refine L.here ?_;dsimp only;rw [if_pos canon_tga];refine wpAny_bind (cls_open (K:=K) (mc:=.type "type") (hook:=none) X val_opaque val_type (by rfl) (looks_hook X (by rfl)) (by rfl) val_cls ?_);exact wpAny_pure (handed_on rfl (wpAny_pure hq))
theorem own_method {pl:Sem Bool} {f C:Addr} {name:Str} {Q:Value×List Value->Shared->Prop} (X:K.In s.heap) (hr:readsIn K C (.type "type")=true) (hf:findCls K (.ref C) (.type "type") name=some (.val (.ref f)))
  (hq:Q (.ref f,[]) { s with toks:=s.toks+1 }):wpAny (model prog w) A (getMethod (.ref C) name pl) Q E s:=by
 have hs:specialIn K (.ref C) "__getattribute__"=some (some (.builtin "type.__getattribute__")):=by
  have hr':=hr;simp only [readsIn,Er,beq_iff_eq] at hr';obtain ⟨⟨⟨⟨a,b⟩,c'⟩,d⟩,f⟩:=hr';unfold specialIn;rw [b,Option.bind_some];exact c'
 exact method_cls X hs (cls_value X hr hf rfl hq)
end
end XB
namespace L2
open PySem PySem.Spec PyProof.Rows
def XO (e C:Addr) (d:Option Addr) (r:Bool) (h:Heap):Prop:=∃ (vs:Array Value) (a0:Addr),h.get? e=some { cls:=.ref C,dict:=d,data:=.fields vs }/\vs[0]?=some (.ref a0)/\(r=false->vs[1]?=some .none)
def DX (dx:Addr) (fs:List (Str×V)) (h:Heap):Prop:=∃ mA,h.Ns1 dx mA/\(∀ f,RelO (fs.lookup f) (mA f))/\PySem.Within mA (fs.map (·.1))
def XAt (H:Hp) (e C:Addr) (d:Option Addr) (r:Bool) (fs:List (Str×V)):Prop:=H e=some (.ext (XO e C d r))/\fs.length<=1000/\match d with|none=>fs=[]|some dx=>dx≠e/\H dx=some (.ext (DX dx fs))
structure XC (K:ZF) (C:Addr) (nm:Str) (bm:List Value):Prop where
 tl:XB.Tail bm
 obj:∃ q N bs sn sub ab col dd k0 k1 k2 k3 k5,K.lookup C=some (excClassObj nm q C N bs bm true sn sub ab col dd k0 k1 k2 k3 k5 "ValueError.__new__")
 ga:PySem.W.findIn K (.ref C) "__getattribute__"=some (some (.builtin "BaseException.__getattribute__"))
 gt:PySem.W.findIn K (.ref C) "__getattr__"=some none
 sa:PySem.W.findIn K (.ref C) "__setattr__"=some (some (.builtin "object.__setattr__"))
 cl:PySem.W.findIn K (.ref C) "__class__"=some (some (.builtin "object.__class__"))
section
variable {K:ZF} {C:Addr} {nm:Str} {bm:List Value}
theorem XC.clsIn (c:XC K C nm bm):∃ cd,PySem.W.clsIn K C=some cd/\cd.mro=.ref C::bm/\cd.hasDict=true:=by
 obtain ⟨q,N,bs,sn,sub,ab,col,dd,k0,k1,k2,k3,k5,l⟩:=c.obj;refine ⟨_,by unfold PySem.W.clsIn;rw [l],rfl,rfl⟩
theorem XC.mro (c:XC K C nm bm) (n:String) (b:Bool) (e:XB.bmV.contains (.type n)=b):PySem.W.mroIn K C (.type n)=some b:=by
 obtain ⟨cd,h,m,_⟩:=c.clsIn;unfold PySem.W.mroIn;rw [h,Option.bind_some,m];show (if false=true then _ else _)=_;rw [if_neg zd,c.tl.has C n b e]
end
section
variable {X:Cx} {pins:List (Addr×Obj)} {σ:St} {H:Hp} {s:Shared} {e C dx:Addr} {d:Option Addr} {rr:Bool} {nm:Str} {bm:List Value} {fs:List (Str×V)} {f:Str} {v:V} {A:Around} {E:Value->Shared->Prop}
theorem XAt.obj (x:XAt H e C d rr fs) (I:Inv X pins σ H s):∃ (vs:Array Value) (a0:Addr),s.heap.get? e=some { cls:=.ref C,dict:=d,data:=.fields vs }/\vs[0]?=some (.ref a0)/\(rr=false->vs[1]?=some .none):=by
 obtain ⟨p,_,_⟩:=(show ObjOk X.prog X.w H s.heap e (.ext (XO e C d rr)) from I.hok e _ x.1);exact p
theorem XAt.dict (x:XAt H e C (some dx) rr fs) (I:Inv X pins σ H s):∃ mA,s.heap.Ns1 dx mA/\(∀ f,RelO (fs.lookup f) (mA f))/\PySem.Within mA (fs.map (·.1)):=by
 obtain ⟨_,_,_,h⟩:=x;obtain ⟨p,_,_⟩:=(show ObjOk X.prog X.w H s.heap dx (.ext (DX dx fs)) from I.hok dx _ h);exact p
theorem qT {b:Bool} {Q:Value->Shared->Prop} (I:Inv X pins σ H s) (x:XAt H e C (some dx) rr fs) (c:XC X.K C nm bm) (n:NoAttr X.K C f) (l:fs.lookup f=some v)
  (h:∀ u s',Inv X pins σ H s'->RelV v u->Q u s'):wpAny (model X.prog X.w) A (getAttr (.ref e) f b) Q E s:=by
 obtain ⟨mA,ns,r,_⟩:=x.dict I;obtain ⟨vs,a0,ho,_⟩:=x.obj I;obtain ⟨u,hu,ru⟩:=RelO.some_of (v:=v) (o:=mA f) (by rw [<-l];exact r f);obtain ⟨od,hd,lk⟩:=hJ ns;obtain ⟨cd,hc,m,hh⟩:=c.clsIn;have hf:PySem.W.findObj X.K C (some od) f=some (.value u):=by
  unfold PySem.W.findObj;rw [hc,Option.bind_some,show PySem.W.findIn X.K (.ref C) f=some none from n,Option.bind_some];show ((PySem.W.ownOf cd (some od) f).bind _)=_;have ho:PySem.W.ownOf cd (some od) f=some (some u):=by
   unfold PySem.W.ownOf;rw [hh,if_pos rfl];show PySem.W.lookIn f od=_;rw [lk f,hu]
  rw [ho];rfl
 exact XB.xget_value I.kIn (ox:={ cls:=.ref C,dict:=some dx,data:=.fields vs }) (od:=some od) ⟨ho,rfl,rfl,hd⟩ c.ga c.gt (c.mro "BaseException" true zk) hf (jS ru) (h u _ (I.tok _) ru)
variable {φ:Heap->Prop}
theorem Inv.two {h':Heap} {t':Nat} {D:Addr} {o1 o2:HO} (I:Inv X pins σ H s) (he:H e=some (.ext φ)) (hD:s.heap.objs.size<=D) (k:∀ b u,b≠e->s.heap.get? b=some u->h'.get? b=some u) (heo:∃ u,h'.get? e=some u)
  (n1:ObjOk X.prog X.w (aq (aq H e o1) D o2) h' e o1) (n2:ObjOk X.prog X.w (aq (aq H e o1) D o2) h' D o2):Inv X pins σ (aq (aq H e o1) D o2) { s with heap:=h',toks:=t' }:=by
 have hn:=I.hok.fresh hD;have neD:e≠D:=ap he hn;have old:∀ b o,H b=some o->b≠e->aq (aq H e o1) D o2 b=some o:=fun b o hb ne=>by rw [ao (ap hb hn),ao ne];exact hb
 have nt:∀ b o,H b=some o->(∀ ψ,o≠.ext ψ)->b≠e:=fun b o hb ne z=>by
  rw [z,he] at hb;exact ne _ (D5 hb).symm
 refine I.un ⟨?_,?_,?_,?_,?_,?_,?_⟩ ?_
 ·intro b o q hb _ _;exact k b o (fun z=>by rw [z,he] at hb;cases hb) q
 ·intro b o q hb _ _;exact ⟨o.slots,k b o (fun z=>by rw [z,he] at hb;cases hb) q⟩
 ·intro b o q hb _;have h1:b≠e:=fun z=>by rw [z,he] at hb;cases hb
  have h2:b≠D:=fun z=>by
   rw [z] at q;exact absurd (DW q) (Nat.not_lt_of_le hD)
  rw [ao h2,ao h1];exact hb
 ·intro b o q _;by_cases z:b=e
  ·rw [z];exact heo
  ·exact ⟨o,k b o z q⟩
 ·intro b xs hb;exact old b _ hb (nt b _ hb (fun ψ z=>nomatch z))
 ·intro b o u hb;exact old b _ hb (nt b _ hb (fun ψ z=>nomatch z))
 ·intro b ps hb;refine ⟨#[],?_⟩;rw [Array.append_empty];exact old b _ hb (nt b _ hb (fun ψ z=>nomatch z))
 ·intro a o ha;by_cases hd:a=D
  ·subst hd;rw [ae] at ha;cases ha;exact n2
  ·rw [ao hd] at ha;by_cases hx:a=e
   ·subst hx;rw [ae] at ha;cases ha;exact n1
   ·rw [ao hx] at ha;refine (I.hok a o ha).stay (fun b u hb q=>k b u ?_ q) (fun b hb=>old b _ hb (nt b _ hb (fun ψ z=>nomatch z))) (fun b xs hb=>old b _ hb (nt b _ hb (fun ψ z=>nomatch z)));rcases hb with rfl|hb
    ·exact hx
    ·exact nt b _ hb (fun ψ z=>nomatch z)
structure Bp (H H':Hp) (e C:Addr) (d:Option Addr) (r:Bool) (d':Addr) (fs:List (Str×V)):Prop where
 at_:XAt H' e C (some d') r fs
 keep:∀ b o,H b=some o->b≠e->some b≠d->H' b=some o
 new:d=none->H d'=none
 old:∀ dx,d=some dx->d'=dx
theorem gF {P:Program} {w:World} {h:Heap} {a:Addr} (p:φ h) (o:∃ o,h.get? a=some o) (st:∀ h1 h2:Heap,φ h1->(∀ o,h1.get? a=some o->h2.get? a=some o)->φ h2):ObjOk P w H h a (.ext φ):=⟨p,o,st⟩
theorem XO.stay {r:Bool}:∀ h1 h2:Heap,XO e C d r h1->(∀ o,h1.get? e=some o->h2.get? e=some o)->XO e C d r h2:=fun h1 h2 ⟨vs,a0,h,z⟩ k=>⟨vs,a0,k _ h,z⟩
theorem DX.stay {fs:List (Str×V)}:∀ h1 h2:Heap,DX dx fs h1->(∀ o,h1.get? dx=some o->h2.get? dx=some o)->DX dx fs h2:=fun h1 h2 ⟨mA,n,r⟩ k=>⟨mA,n.at k,r⟩
variable {y:V} {u:Value} {mA:Str->Option Value}
theorem p9 (r:∀ f,RelO (fs.lookup f) (mA f)) (ry:RelV y u) (g:Str):RelO ((aH f y fs).lookup g) (if g=f then some u else mA g):=by
 rw [fh];by_cases q:g=f
 ·rw [if_pos q,if_pos q];exact ry
 ·rw [if_neg q,if_neg q];exact r g
theorem jw (wi:PySem.Within mA (fs.map (·.1))):PySem.Within (fun g=>if g=f then some u else mA g) ((aH f y fs).map (·.1)):=fun g hg=>by
 by_cases q:g=f
 ·rw [q];exact (eA f y fs).1
 ·refine (eA f y fs).2 g (wi g fun z=>hg ?_);show (if g=f then some u else mA g)=none;rw [if_neg q];exact z
theorem qU {Q:Unit->Shared->Prop} (I:Inv X pins σ H s) (x:XAt H e C d rr fs) (c:XC X.K C nm bm) (n:NoAttr X.K C f) (hl:fs.length < 1000) (ry:RelV y u)
  (h:∀ s' H' d',Inv X pins σ H' s'->Bp H H' e C d rr d' (aH f y fs)->Q () s'):wpAny (model X.prog X.w) A (setAttr (.ref e) f u) Q E s:=by
 obtain ⟨q0,N,bs,sn,sub,ab,col,dd,k0,k1,k2,k3,k5,lk⟩:=c.obj;have hC:=I.kIn _ _ lk;have LN:=PySem.W.looks_findIn (M:=model X.prog X.w) I.kIn (show PySem.W.findIn X.K (.ref C) f=some none from n);obtain ⟨vs,a0,ho,hv0⟩:=x.obj I;have hl2:(aH f y fs).length<=1000:=by have:=fj f y fs;omega
 obtain ⟨hh,g,dr,t,os⟩:=s;cases d with
 | none=>
  have hfs:fs=[]:=x.2.2;subst hfs;refine XB.xset_open (o:={ cls:=.ref C,dict:=none,data:=.fields vs }) (od:=none) I.kIn ⟨ho,rfl,rfl,True.intro⟩ c.sa (c.mro "object" true zk) fun A'=>?_;refine XB.xstore_new c.tl hC LN ho rfl (fun c z=>nomatch z) rfl fun h' tk' hx' hn' hk=>⟨rfl,?_⟩;have neD:e≠hh.objs.size:=Eg (DW ho);have nD:H hh.objs.size=none:=I.hok.fresh (DN _);refine h _ _ hh.objs.size (Inv.two (o1:=.ext (XO e C (some hh.objs.size) rr)) (o2:=.ext (DX hh.objs.size (aH f y []))) I x.1 (DN _) hk ⟨_,hx'⟩ ?_ ?_) ⟨⟨?_,hl2,neD.symm,ae⟩,?_,fun _=>nD,(fun dx z=>nomatch z)⟩
  ·exact gF ⟨vs,a0,hx',hv0⟩ ⟨_,hx'⟩ XO.stay
  ·refine gF ⟨_,hn',p9 (mA:=fun _=>none) (fs:=[]) (fun _=>True.intro) ry,jw (mA:=fun _=>none) (fs:=[]) (fun g hg=>absurd rfl hg)⟩ ?_ DX.stay;obtain ⟨o',_,_,e1,_⟩:=hn';exact ⟨o',e1⟩
  ·rw [ao neD,ae]
  ·intro b o hb ne _;rw [ao (ap hb nD),ao ne];exact hb
 | some dx=>
  obtain ⟨mA,ns,r,wi⟩:=x.dict I;obtain ⟨od,hd,_⟩:=hJ ns;obtain ⟨x1,x2,x3,x4⟩:=x;refine XB.xset_open (o:={ cls:=.ref C,dict:=some dx,data:=.fields vs }) (od:=some od) I.kIn ⟨ho,rfl,rfl,hd⟩ c.sa (c.mro "object" true zk) fun A'=>?_;refine XB.xstore_old c.tl hC LN ho rfl rfl ns wi (by rw [DI,sizeLine_eq];omega) fun h' tk' hn' sb=>⟨rfl,?_⟩;have hd':∃ o,h'.get? dx=some o:=let ⟨o,_,_,e',_⟩:=hn';⟨o,e'⟩;refine h _ _ dx (I.write (o:=.ext (DX dx (aH f y fs))) (x:=dx) (e:=dx) (by rw [x4];exact True.intro) (.inl rfl) (fun b q hb z=>(sb.2 b hb).trans z) hd' ?_) ⟨⟨by rw [ao x3.symm];exact x1,hl2,x3,ae⟩,?_,(fun z=>nomatch z),fun _ z=>D5 z⟩
  ·exact gF ⟨_,hn',p9 r ry,jw wi⟩ hd' DX.stay
  ·intro b o hb _ ne;rw [ao (fun z=>ne (by rw [z]))];exact hb
end
section
variable {X:Cx} {o e value:Expr} {f:Str} {pos pos' tpos:Pos} {ta tv:TE}
def xJ (K:ZF) (ta:TE) (f:Str):TE:=fun σ H Q=>ta σ H fun x H1=>∃ a C dx r fs nm bm v,x=.ref a/\XAt H1 a C (some dx) r fs/\XC K C nm bm/\NoAttr K C f/\fs.lookup f=some v/\Q v H1
theorem wK (he:PE X e ta) (hb:attributeBase e f X.env (eval e X.env)=eval e X.env):PE X (.Attribute e f pos) (xJ X.K ta f):=by
 refine ⟨?_⟩;intro pins s σ H Q I h;refine pj hb (bC (he pins s σ H _ I h) fun u s1 ⟨x,H1,I1,rx,a,C,dx,r0,fs,nm,bm,v,ex,ea,c,n,l,q⟩=>?_);subst ex;obtain rfl:u=Value.ref a:=rx;exact qT I1 ea c n l fun u' s2 I2 ru=>⟨v,H1,I2,ru,q⟩
def Bq (K:ZF) (ta tv:TE) (f:Str):TS:=fun D σ H=>tv σ H fun y H1=>ta σ H1 fun x H2=>∃ a C d r fs nm bm,x=.ref a/\XAt H2 a C d r fs/\XC K C nm bm/\NoAttr K C f/\fs.length < 1000 /\
 ∀ H3 d',Bp H2 H3 a C d r d' (aH f y fs)->D.nx σ H3
theorem wL (ha:PE X o ta) (hv:PE X value tv) (hs:swapsWith value (some (.Attribute o f pos')) pos.line X.env=pure false:=by rfl):PS X (.Assign [.Attribute o f pos'] value pos) (Bq X.K ta tv f):=by
 refine ⟨?_⟩;intro pins s σ H D I h;refine plainObj_wpAny_Assign_Attribute (bC (hv pins s σ H _ I h) fun u s1 ⟨y,H1,I1,ry,q⟩=>bC (ha pins s1 σ H1 _ I1 q) fun ov s2 ⟨x,H2,I2,rx,a,C,d,r0,fs,nm,bm,ex,ea,c,n,l,q2⟩=>?_) hs;subst ex;obtain rfl:ov=Value.ref a:=rx;exact qU I2 ea c n l ry fun s3 H3 d' I3 xs=>⟨σ,_,I3,q2 H3 d' xs⟩
end
section
variable {X:Cx} {CX:nA} {k:Nat} {f C:Addr} {fd:FuncData} {ps:List Str} {sp:Sp} {E:XK} {x m:Str} {p pos apos:Pos} {e o:Expr} {es:List Expr} {ta:TE} {t:TA} {nm:Str} {bm:List Value}
def uv (C:Addr) (sp:Sp) (E:XK) (t:TA):TE:=fun σ H Q=>t σ H fun vs H1=>∀ a,H1 a=none->sp (.ref a::vs) (aq H1 a (.ext (XO a C none false))) (fun v H2=>v=.non/\Q (.ref a) H2) E
structure CI (K:ZF) (C f:Addr):Prop where
 init:PySem.W.findIn K (.ref C) "__init__"=some (some (.ref f))
 fn:PySem.W.isFn K (.ref f)=true
 kp:PySem.W.keepIn K (.ref C)=true
theorem qV {pins:List (Addr×Obj)} {σ:St} {H:Hp} {s:Shared} {Q:VK} {us:List Value} {vs:List V} (c:XC X.K C nm bm) (M:CI X.K C f) (F:FnOk X.prog X.w X.K X.mg X.base CX k f fd ps sp) (hr:Room (k+1) X.A) (hb:Binds X.K fd ps [])
  (hx:dU CX X E) (hps:ps.length<=1000) (I:Inv X pins σ H s) (r:Vals vs us)
  (h:∀ a,H a=none->sp (.ref a::vs) (aq H a (.ext (XO a C none false))) (fun v H2=>v=.non/\Q (.ref a) H2) E) :
  wpAny (model X.prog X.w) X.A (call (.ref C) us) (EP X pins σ Q) X.xe s:=by
 obtain ⟨q0,N,bs,sn,sub,ab,col,dd,k0,k1,k2,k3,k5,lk⟩:=c.obj;have hC:=I.kIn _ _ lk;have LI:=PySem.W.looks_findIn (M:=model X.prog X.w) I.kIn M.init;obtain ⟨oI,hfI,hfc⟩:∃ oI,s.heap.get? f=some oI/\oI.cls=.type "function":=by
  have ht:PySem.W.typeIn X.K (.ref f)=some (.type "function"):=beq_iff_eq.mp M.fn;obtain ⟨o,ho,hc⟩:=Option.map_eq_some_iff.mp ht;exact ⟨o,I.kIn _ _ ho,hc⟩
 have hq:=h (s.heap.objs.size+1) (I.hok.fresh (E4 _));have r2:Vals (V.ref (s.heap.objs.size+1)::vs) (Value.ref (s.heap.objs.size+1)::us):=.cons rfl r;have hl:(Value.ref (s.heap.objs.size+1)::us).length=ps.length:=by
  have e:=r2.length;rw [F.len _ _ _ _ hq] at e;exact e.symm
 have kp:∀ b o,s.heap.get? b=some o->((s.heap.push (XB.tupO us)).push (XB.excO C s.heap.objs.size)).get? b=some o:=fun b o hb=>DJ _ (DJ _ hb);have hget:((s.heap.push (XB.tupO us)).push (XB.excO C s.heap.objs.size)).get? (s.heap.objs.size+1)=some (XB.excO C s.heap.objs.size):=by
  have:=D8 (s.heap.push (XB.tupO us)) (o:=XB.excO C s.heap.objs.size) rfl
  rwa [EK] at this
 have I2:=I.laid (a:=s.heap.objs.size+1) (o:=.ext (XO (s.heap.objs.size+1) C none false)) (t':=s.toks) kp (E4 _) (gF ⟨_,s.heap.objs.size,hget,rfl,fun _=>rfl⟩ ⟨_,hget⟩ XO.stay);have hus:us.length<=sizeLine:=by
  rw [DQ] at hl;rw [sizeLine_eq];omega
 obtain ⟨hh,g,d,t,os⟩:=s;refine XB.xmake c.tl hC LI hfI hfc (wpAny_call (codeAny_mono (F.run _ X.stack _ _ ⟨Value.ref (hh.objs.size+1)::us,[]⟩ (Value.ref (hh.objs.size+1)::us) _ _ E (hr.make C us []) (I2.env0.make C us []) (by
  have:=hb ⟨(hh.push (XB.tupO us)).push (XB.excO C hh.objs.size),g,d,t,os⟩ (Value.ref (hh.objs.size+1)::us) I2.kIn (by rw [El];exact hl);rw [El] at this;exact this) r2 hq) fun r s' hq'=>?_)) hus
 cases r with
 | error e=>exact hx pins σ _ _ e s' I2 hq'
 | ok fl=>
  cases fl with
  | ret u=>
   obtain ⟨v,H',I3,rv,ev,q3⟩:=I2.after hq';subst ev;exact ⟨rv,⟨V.ref (hh.objs.size+1),H',I3,rfl,q3⟩⟩
  | next=>exact False.elim hq'
  | brk=>exact False.elim hq'
  | cont=>exact False.elim hq'
theorem jx (c:XC X.K C nm bm) (M:CI X.K C f) (F:FnOk X.prog X.w X.K X.mg X.base CX k f fd ps sp) (hr:Room (k+1) X.A) (hg:Gl X x) (hm:X.mg x=some (.ref C)) (hb:Binds X.K fd ps []) (hx:dU CX X E) (hps:ps.length<=1000)
  (ha:PA X (e::es) t) (hdb:(x == ("__debug__":Str))=false:=by decide) (he:starEach (e::es) X.env=(false,eval e X.env)::starEach es X.env:=by rfl) (hpl:(backTo pos (starEach es X.env)).any (·.1)=false:=by rfl) :
  PE X (.Call (.Name x p) (e::es) [] pos) (uv C sp E t):=by
 refine ⟨?_⟩;intro pins s σ H Q I h;refine wpAny_Call_Name_kw (dF I hg hm ?_ hdb);refine EB (h₀:=X.base) I.ok.mod.kin M.kp (bC (ha pos pins s σ H _ I h) fun us s1 ⟨vs,H1,I1,r,q⟩=>⟨I1.kIn,?_⟩) he hpl;exact qV c M F hr hb hx hps I1 r q
structure xL (K:ZF) (C:Addr) (m:Str) (f:Addr):Prop where
 rd:PySem.W.readsIn K C (.type "type")=true
 at_:PySem.W.findCls K (.ref C) (.type "type") m=some (.val (.ref f))
 kp:PySem.W.keepIn K (.ref f)=true
theorem uw {pl:Sem Bool} (M:xL X.K C m f) (F:FnOk X.prog X.w X.K X.mg X.base CX k f fd ps sp) (hr:Room k X.A) (hg:Gl X x) (hm:X.mg x=some (.ref C)) (hb:Binds X.K fd ps []) (hx:dU CX X E) (ha:PA X (e::es) t)
  (hdb:(x == ("__debug__":Str))=false:=by decide) (hst:starEach (e::es) X.env=(false,eval e X.env)::starEach es X.env:=by rfl) (hpl:(backTo pos (starEach es X.env)).any (·.1)=false:=by rfl)
  (ht:eval (.Call (.Attribute (.Name x p) m apos) (e::es) [] pos) X.env=(do
   let ov <-eval (.Name x p) X.env
   standAt apos.atName
   let (f,first) <-holding [ov] (getMethod ov m pl)
   callWith pos f first (backTo pos (starEach (e::es) X.env)) (backToKw pos (keywordEach [] X.env))):=by rfl) :
  PE X (.Call (.Attribute (.Name x p) m apos) (e::es) [] pos) (rT sp [] E t):=by
 refine ⟨?_⟩;intro pins s σ H Q I h;refine PySem.W.methodCall_KW (pl:=pl) (bC (bJ (v:=.ref C) hg hm rfl hdb pins s σ H (fun v H1=>v=.ref C/\H1=H) I ⟨rfl,rfl⟩) fun u s1 ⟨xx,H1,I1,rx,ex,eh⟩=>?_) ht;subst ex eh;obtain rfl:u=Value.ref C:=rx;refine XB.own_method I1.kIn M.rd M.at_ ?_;refine EB (first:=[]) (h₀:=X.base) I.ok.mod.kin M.kp (bC (ha pos pins _ σ H1 _ (I1.tok _) h) fun us s2 ⟨vs,H2,I2,r,q2⟩=>⟨I2.kIn,?_⟩) hst hpl;exact hV (us:=us) (vs:=vs) (ds:=[]) (dvs:=[]) F hr hb .nil hx I2 r q2
theorem ux {H:Hp} {a:Addr} {o:HO} (h:H a=some o):aq H a o=H:=by
 funext b;unfold aq;by_cases z:b=a
 ·rw [if_pos z,z,h]
 ·rw [if_neg z]
def Br (K:ZF) (t:TA):TE:=fun σ H Q=>t σ H fun vs H1=>∃ a rest C d r fs nm bm,vs=.ref a::rest/\rest.length<=1000/\XAt H1 a C d r fs/\XC K C nm bm/\Q .non H1
theorem wM {pl:Sem Bool} (hg:Gl X "ValueError") (hm:X.mg "ValueError"=none) (ha:PA X (e::es) t)
  (hst:starEach (e::es) X.env=(false,eval e X.env)::starEach es X.env:=by rfl) (hpl:(backTo pos (starEach es X.env)).any (·.1)=false:=by rfl)
  (ht:eval (.Call (.Attribute (.Name "ValueError" p) "__init__" apos) (e::es) [] pos) X.env=(do
   let ov <-eval (.Name "ValueError" p) X.env
   standAt apos.atName
   let (f,first) <-holding [ov] (getMethod ov "__init__" pl)
   callWith pos f first (backTo pos (starEach (e::es) X.env)) (backToKw pos (keywordEach [] X.env))):=by rfl) :
  PE X (.Call (.Attribute (.Name "ValueError" p) "__init__" apos) (e::es) [] pos) (Br X.K t):=by
 refine ⟨?_⟩;intro pins s σ H Q I h;have hv:bootBuiltins "ValueError"=some (.type "ValueError"):=by decide +kernel
 refine PySem.W.methodCall_KW (pl:=pl) (bC (pe_ty (n:="ValueError") hg hm hv zd zd pins s σ H (fun v H1=>v=.ty "ValueError"/\H1=H) I ⟨rfl,rfl⟩) fun u s1 ⟨xx,H1,I1,rx,ex,eh⟩=>?_) ht;subst ex eh;obtain rfl:u=Value.type "ValueError":=rx;refine XB.val_method I1.kIn ?_;refine PyProof.Rows.callWith_builtin1 (bC (ha pos pins _ σ H1 _ (I1.tok _) h) fun us s2 ⟨vs,H2,I2,r,a,rest,C,d,r0,fs,nm,bm,ev,hz,x,c,q2⟩=>?_) hst hpl;subst ev;cases r with
 | @cons _ u _ us' r0 rr=>
  obtain rfl:u=Value.ref a:=r0;obtain ⟨q0,N,bs,sn,sub,ab,col,dd,k0,k1,k2,k3,k5,lk⟩:=c.obj;have hC:=I2.kIn _ _ lk;obtain ⟨vv,a0,ho,hv0,hv1⟩:=x.obj I2;have hl:=rr.length;obtain ⟨hh,g,d',t',os⟩:=s2;refine wpAny_call (XB.xinit c.tl hC ho rfl rfl hv0 (by rw [sizeLine_eq];omega) fun h' vs' hk hx' ⟨a1,h1,h2⟩=>?_);have I3:=I2.write (o:=.ext (XO a C d r0)) (x:=a) (e:=a) (t':=t') (by rw [x.1];exact True.intro) (.inl rfl) (fun b q hb z=>hk b q hb z) ⟨_,hx'⟩ (gF ⟨vs',a1,hx',h1,fun z=>h2.trans (hv1 z)⟩ ⟨_,hx'⟩ XO.stay);rw [ux x.1] at I3;exact ⟨.non,H2,I3,rfl,q2⟩
end
def ExT (e C:Addr) (d:Option Addr) (T:Addr) (fl:Value) (h:Heap):Prop:=
 ∃ (vs:Array Value) (a0:Addr) (oT:Obj) (ts:Array Value),h.get? e=some { cls:=.ref C,dict:=d,data:=.fields vs }/\vs[0]?=some (.ref a0)/\vs[1]?=some (.ref T)/\T≠e/\h.get? T=some oT/\oT.data=.fields ts/\ts[3]?=some fl
structure Wr (fs:List Addr) (e T:Addr) (h h':Heap):Prop where
 keep:∀ b o,h.get? b=some o->b∉fs->b≠e->b≠T->h'.get? b=some o
 slot:∀ b o,h.get? b=some o->b∈fs->∃ sl,h'.get? b=some { o with slots:=sl }
 old:∀ o,h.get? T=some o->∃ ts,o.data=.fields ts
 nf:T∉fs
def Dd (n:Nat) (H:Hp) (L:Addr) (pn:List Addr) (e C:Addr) (d:Option Addr) (h:Heap):Prop:=
 ∃ (vs:Array Value) (a0:Addr),h.get? e=some { cls:=.ref C,dict:=d,data:=.fields vs }/\vs[0]?=some (.ref a0)/\(vs[1]?=some .none\/∃ T fl,ExT e C d T fl h/\n<=T/\H T=none/\T∉pn/\(fl=.none\/fl=rawInt L))
variable {h:Heap} {fl:Value} {T:Addr} {d:Option Addr} {e C:Addr}
theorem ExT.xo (x:ExT e C d T fl h):XO e C d true h:=by
 obtain ⟨vs,a0,_,_,h1,h2,_⟩:=x;exact ⟨vs,a0,h1,h2,fun z=>nomatch z⟩
variable {o:Obj}
theorem ki {ts:Array Value} {f:Array Value->Array Value} (hd:o.data=.fields ts) (hf:f ts=ts):o.mapFields f=o:=by
 obtain ⟨c,d,dt,sl⟩:=o;cases hd;show Obj.mk c d (.fields (f ts)) sl=_;rw [hf]
section
variable {M:Model} {A:Around} {E:Value->Shared->Prop} {s:Shared} {base:Heap} {env:Env} {outer:List Env} {L e C T:Addr} {d:Option Addr} {fl:Value} {Q:Unit->Shared->Prop}
theorem eV {fr:Option Addr} (x:ExT e C d T fl s.heap) (h:∀ h',(∀ b o,s.heap.get? b=some o->b≠T->h'.get? b=some o)->ExT e C d T (fr.elim .none fun f=>rawInt f) h'->Q () { s with heap:=h' }):wpAny M A (setFlight (.ref e) fr) Q E s:=by
 obtain ⟨vs,a0,oT,ts,he,h0,h1,ne,hT,hd,h3⟩:=x;have hsz:3 < ts.size:=(Array.getElem?_eq_some_iff.mp h3).1;unfold setFlight;refine wpAny_bind (wpAny_field he rfl h1 ?_);rw [if_pos (show (Value.ref T != Value.none)=true from by simp)];have k:∀ b o,s.heap.get? b=some o->b≠T->(s.heap.update T (Obj.mapFields (·.setIfInBounds 3 (fr.elim Value.none fun f=>rawInt f)))).get? b=some o:=fun b o e' hb=>by
  rw [Heap.get?_update_other _ _ (Ne.symm hb)];exact e'
 refine wpAny_setField hT hd hsz (h _ k ?_);have hd':=Obj.data_mapFields hd (·.setIfInBounds 3 (fr.elim Value.none fun f=>rawInt f));exact ⟨vs,a0,_,_,k _ _ he (Ne.symm ne),h0,h1,ne,Heap.get?_update_self _ hT (Obj.isFreed_of_fields hd'),hd',by simp [hsz]⟩
theorem kj {vs:Array Value} {a0:Addr} {head:Value} {hadNext:Bool} (hfr:A.frames=some (env::outer)) (hl:s.heap.FunFrames base (env::outer)) (hf:env.frame=some L)
  (he:s.heap.get? e=some { cls:=.ref C,dict:=d,data:=.fields vs }) (h0:vs[0]?=some (.ref a0)) (hsz:1 < vs.size)
  (h:∀ h',Wr (ky (env::outer)) e s.heap.objs.size s.heap h'->ExT e C d s.heap.objs.size (rawInt L) h'->Q () { s with heap:=h' }) :
  wpAny M A (do let a <-frameOf env;let pl <-entryPlaceOf L hadNext;let b <-EntryCells.newEntry head a .none (rawInt L) .none pl;setField (.ref e) 1 b) Q E s:=by
 have hene:e∉ky (env::outer):=fun hm=>by
  obtain ⟨_,o,ho,hnf⟩:=hl.mem hm;rw [he] at ho;injection ho with ho;subst ho;exact hnf vs rfl
 refine wpAny_bind (wpAny_frameOf_fun hfr hl hf fun h₁ hs₁=>?_);refine wpAny_bind (wpAny_entryPlaceOf fun pl hpl=>?_);unfold EntryCells.newEntry newFields;refine wpAny_bind (wpAny_newObj_type ?_ (hpl.sizeOk5 _ _ _ _ _));generalize hts:([head,.ref L,.none,rawInt L,.none]++(if pl.isEmpty then List.replicate 6 Value.none else pl)).toArray=ts;have h3:ts[3]?=some (rawInt L):=by rw [<-hts];simp
 have he₁:h₁.get? e=some { cls:=.ref C,dict:=d,data:=.fields vs }:=(hs₁.2.1 e hene).trans he;have he₂:=DJ (h:=h₁) { cls:=.type "traceback",dict:=none,data:=.fields ts } he₁;refine wpAny_setField he₂ rfl hsz ?_;have hsize:h₁.objs.size=s.heap.objs.size:=hs₁.1;have hTe:h₁.objs.size≠e:=Fk (DW he₁);have he₃:=Heap.get?_update_self (Obj.mapFields (·.setIfInBounds 1 (Value.ref h₁.objs.size))) he₂ rfl;have hT₃:=(Heap.get?_update_other (h₁.push { cls:=.type "traceback",dict:=none,data:=.fields ts }) (Obj.mapFields (·.setIfInBounds 1 (Value.ref h₁.objs.size))) (Ne.symm hTe)).trans (D8 h₁ rfl);have keep:∀ b o,b≠e->h₁.get? b=some o->((h₁.push { cls:=.type "traceback",dict:=none,data:=.fields ts }).update e (Obj.mapFields (·.setIfInBounds 1 (Value.ref h₁.objs.size)))).get? b=some o:=fun b o hbe hb=>by
  rw [Heap.get?_update_other _ _ (Ne.symm hbe)];exact DJ _ hb
 rw [hsize] at he₃ hT₃ keep hTe ⊢;refine h _ ⟨fun b o hb hbf hbe _=>keep b o hbe ((hs₁.2.1 b hbf).trans hb),fun b o hb hbf=>?_,fun o ho=>absurd (DW ho) (EH _),fun hm=>?_⟩ ?_
 ·obtain ⟨sl,hs⟩:=hs₁.2.2 b o hb;exact ⟨sl,keep b _ (fun z=>hene (z ▸ hbf)) hs⟩
 ·obtain ⟨_,o,ho,_⟩:=hl.mem hm;exact absurd (DW ho) (EH _)
 ·exact ⟨_,a0,_,ts,he₃,by rw [Array.getElem?_setIfInBounds_ne zd];exact h0,by simp [hsz],hTe,hT₃,rfl,h3⟩
theorem jy {n:Nat} {H:Hp} {pn:List Addr} (hfr:A.frames=some (env::outer)) (hl:s.heap.FunFrames base (env::outer)) (hf:env.frame=some L) (x:Dd n H L pn e C d s.heap) (hn:n<=s.heap.objs.size)
  (hH:∀ a,s.heap.objs.size<=a->H a=none) (hp:∀ a∈pn,a < s.heap.objs.size)
  (h:∀ h' T,Wr (ky (env::outer)) e T s.heap h'->ExT e C d T (rawInt L) h'->n<=T->H T=none->T∉pn->Q () { s with heap:=h' }):wpAny M A (noteFrame (.ref e) env) Q E s:=by
 obtain ⟨vs,a0,he,h0,hm⟩:=x;have new:∀ h',Wr (ky (env::outer)) e s.heap.objs.size s.heap h'->ExT e C d s.heap.objs.size (rawInt L) h'->Q () { s with heap:=h' }:=fun h' w q=>h h' _ w q hn (hH _ (DN _)) fun z=>absurd (hp _ z) (EH _);unfold noteFrame;simp only [hf];rcases hm with h1|⟨T,fl,x,nT,fT,pT,fl0|fl1⟩
 ·refine wpAny_bind (wpAny_field he rfl h1 ?_);rw [if_neg zd];exact kj hfr hl hf he h0 (Array.getElem?_eq_some_iff.mp h1).1 new
 ·subst fl0;obtain ⟨vs',a0',oT,ts,he',h0',h1,ne,hT,hd,h3⟩:=x;rw [he] at he';have ev:vs=vs':=by injection he' with e1;injection e1 with _ _ e2 _;injection e2
  subst ev;refine wpAny_bind (wpAny_field he rfl h1 ?_);rw [if_pos (show (Value.ref T != Value.none)=true from by simp)];refine wpAny_bind (wpAny_field hT hd h3 ?_);rw [if_neg (show ¬ ((Value.none == rawInt L)=true) from by simp [rawInt])];have hsz:3 < ts.size:=(Array.getElem?_eq_some_iff.mp h3).1;refine wpAny_bind (wpAny_setField hT hd hsz ?_);have same:ts.setIfInBounds 3 Value.none=ts:=by
   apply Array.ext_getElem?;intro i;by_cases hi:3=i
   ·subst hi;rw [h3];simp [hsz]
   ·rw [Array.getElem?_setIfInBounds_ne hi]
  have all:∀ b,(s.heap.update T (Obj.mapFields (·.setIfInBounds 3 Value.none))).get? b=s.heap.get? b:=fun b=>by
   by_cases hb:b=T
   ·rw [hb];have:=Heap.get?_update_self (Obj.mapFields (·.setIfInBounds 3 Value.none)) hT (by rw [ki hd same];exact Obj.isFreed_of_fields hd);rw [this,ki hd same,hT]
   ·exact Heap.get?_update_other _ _ (Ne.symm hb)
  refine kj (hadNext:=true) hfr (hl.of_keeps fun b o hb _=>⟨o,(all b).trans hb,rfl⟩) hf ((all e).trans he) h0 (Array.getElem?_eq_some_iff.mp h1).1 fun h' w q=>?_;have hs:(s.heap.update T (Obj.mapFields (·.setIfInBounds 3 Value.none))).objs.size=s.heap.objs.size:=Heap.size_after_update _ _ _;dsimp only at w q;rw [hs] at w q;refine new h' ⟨fun b o hb=>w.keep b o ((all b).trans hb),fun b o hb=>w.slot b o ((all b).trans hb),fun o ho=>w.old o ((all _).trans ho),w.nf⟩ q
 ·subst fl1;obtain ⟨vs',a0',oT,ts,he',h0',h1,ne,hT,hd,h3⟩:=id x;refine wpAny_bind (wpAny_field he' rfl h1 ?_);rw [if_pos (show (Value.ref T != Value.none)=true from by simp)];refine wpAny_bind (wpAny_field hT hd h3 ?_);rw [if_pos (show (rawInt L == rawInt L)=true from by simp)];refine wpAny_pure ?_;have:=h s.heap T ⟨fun b o hb _ _ _=>hb,fun b o hb _=>⟨o.slots,hb⟩,fun o ho=>?_,fun hm=>?_⟩ x nT fT pT
  ·exact this
  ·rw [hT] at ho;cases ho;exact ⟨ts,hd⟩
  ·obtain ⟨_,o,ho,hnf⟩:=hl.mem hm;rw [hT] at ho;cases ho;exact hnf ts hd
end
theorem Wr.then {fs:List Addr} {h h1 h2:Heap} (w:Wr fs e T h h1) (k:∀ b o,h1.get? b=some o->b≠T->h2.get? b=some o):Wr fs e T h h2:=
 ⟨fun b o hb hf he hT=>k b o (w.keep b o hb hf he hT) hT,fun b o hb hf=>let ⟨sl,q⟩:=w.slot b o hb hf;⟨sl,k b _ q fun z=>w.nf (z ▸ hf)⟩,w.old,w.nf⟩
variable {H:Hp}
theorem Wr.un {fs:List Addr} {h h':Heap} {φ:Heap->Prop} (w:Wr fs e T h h') (x:ExT e C d T fl h') (He:H e=some (.ext φ)):Un fs [T] H H h h':=by
 obtain ⟨vs,a0,oT,ts,he,_,_,_,hT,_⟩:=x;refine ⟨fun b o hb n hf hT'=>w.keep b o hb hf (fun z=>by rw [z,He] at n;cases n) (by simpa using hT'),fun b o hb _ hf _=>w.slot b o hb hf,fun _ _ _ n _=>n,fun b o hb hT'=>?_,fun _ _ q=>q,fun _ _ _ q=>q,fun b ps q=>⟨#[],by rw [q];simp⟩⟩;by_cases hbe:b=e
 ·exact ⟨_,hbe ▸ he⟩
 ·by_cases hf:b∈fs
  ·obtain ⟨sl,q⟩:=w.slot b o hb hf;exact ⟨_,q⟩
  ·exact ⟨o,w.keep b o hb hf hbe (by simpa using hT')⟩
variable {P:Program}
theorem Wr.hok {wd:World} {fs:List Addr} {h h':Heap} (w:Wr fs e T h h') (x:ExT e C d T fl h') (He:H e=some (.ext (XO e C d true))) (hT:H T=none) (hf:∀ b∈fs,H b=none) (ok:HOk P wd H h):HOk P wd H h':=by
 intro a o ha;have k:∀ b o',H b=some o'->b≠e->∀ u,h.get? b=some u->h'.get? b=some u:=fun b o' hb ne u q=>w.keep b u q (fun z=>by rw [hf b z] at hb;cases hb) ne (ap hb hT);by_cases hae:a=e
 ·subst hae;rw [He] at ha;cases ha;obtain ⟨vs,a0,oT,ts,he,_⟩:=id x;exact gF x.xo ⟨_,he⟩ XO.stay
 ·refine (ok a o ha).stay (fun b u hb q=>?_) (fun _ q=>q) fun _ _ q=>q;rcases hb with rfl|hb
  ·exact k _ _ ha hae u q
  ·exact k _ _ hb (fun z=>by rw [z,He] at hb;cases hb) u q
def uy (P:Program) (w:World):nA:=fun outer H s E e s'=>∃ a H' C d T,e=.ref a/\s'.os=s.os/\AllBare s'.gens/\Un (ky outer) [] H H' s.heap s'.heap/\HOk P w H' s'.heap/\H' a=some (.ext (XO a C d true))/\ExT a C d T .none s'.heap /\
 s.heap.objs.size<=T/\H' T=none/\E e none H'
def Bs (X:Cx) (H:Hp) (h:Heap) (a:Addr):Prop:=∃ C d,H a=some (.ext (XO a C d true))/\Dd X.s₀.heap.objs.size H X.env.locals (X.pn.map (·.1)) a C d h
def jz (X:Cx) (ES:St->XK) (e:Value) (s:Shared):Prop:=∃ a σ H,e=.ref a/\Inv X [] σ H s/\Bs X H s.heap a/\ES σ e none H
def BS (X:Cx) (ES:St->XK):Prop:=∀ e s',jz X ES e s'->X.xe e s'
abbrev Cx.esc (X:Cx) (ES:St->XK):Cx:=X.wish (jz X ES)
section
variable {X:Cx} {pins:List (Addr×Obj)} {σ:St} {H:Hp} {s:Shared} {ES:St->XK} {E:XK}
theorem gX:BS (X.esc ES) ES:=fun e s' ⟨a,σ,H,h1,I,⟨C,d,h2,h3⟩,h4⟩=>⟨a,σ,H,h1,I.unwish,⟨C,d,h2,h3⟩,h4⟩
theorem Inv.pn_lt (I:Inv X pins σ H s):∀ a∈X.pn.map (·.1),a < s.heap.objs.size:=fun a ha=>by
 obtain ⟨p,hp,rfl⟩:=D2.mp ha;exact DW (I.pin p (ET _ hp)).1
theorem Inv.frame1 (I:Inv X pins σ H s) (hst:X.stack=X.env::X.outer):X.env.frame=some X.env.locals:=by
 rcases I.ok.stk with e|⟨_,e⟩
 ·rw [hst] at e;exact absurd e (by intro z;have:=congrArg List.length z;simp at this)
 ·exact e
theorem Inv.wr {h':Heap} (I:Inv X pins σ H s) (W:Wr (ky X.stack) e T s.heap h') (x:ExT e C d T fl h') (He:H e=some (.ext (XO e C d true))) (hT:H T=none) (hn:X.s₀.heap.objs.size<=T)
  (hp:∀ p∈X.pn++pins,p.1≠T):Inv X pins σ H { s with heap:=h' }:=by
 have:=I.call (g':=s.gens) (t':=s.toks) (d':=s.drawn) (ch:=[T]) (W.un x He) (W.hok x He hT I.stkFree I.hok) I.bare (fun b hb=>?_)
 ·exact this
 ·have hb':b=T:=by simpa using hb
  subst hb';refine ⟨.inr hn,fun z=>?_,fun y c hc z=>?_,hp⟩
  ·obtain ⟨m,⟨o,es,ep,ho,hd,_⟩,_⟩:=I.loc;obtain ⟨ts,hd'⟩:=W.old o (by rw [z];exact ho);rw [hd] at hd';cases hd'
  ·obtain ⟨v,o,ho,hd⟩:=I.cell y c hc;obtain ⟨ts,hd'⟩:=W.old o (by rw [<-z];exact ho);rw [hd] at hd';cases hd'
theorem Inv.nopins (I:Inv X pins σ H s):Inv X [] σ H s:=Inv.unpinned (pins:=[]) (pl:=pins) I
theorem Bt {e:Value} {s':Shared} (I:Inv X pins σ H s) (h:uy X.prog X.w X.stack H s (ES σ) e s'):jz X ES e s':=by
 obtain ⟨a,H',C,d,T,rfl,os,bare,un,hok,He,x,nT,fT,q⟩:=h;have J:Inv X pins σ H' s':=I.call' (ch:=[]) os un hok bare (fun b z=>absurd z (by simp));obtain ⟨vs,a0,oT,ts,he,h0,h1,_⟩:=id x;exact ⟨a,σ,H',rfl,J.nopins,⟨C,d,He,vs,a0,he,h0,.inr ⟨T,.none,x,Ef I.sz nT,fT,fun z=>absurd (Ed (I.pn_lt T z) nT) (EH _),.inl rfl⟩⟩,q⟩
theorem CJ (hst:X.stack=X.env::X.outer):PassesOwn (model X.prog X.w) X.A X.env (jz X ES):=by
 intro e s' ⟨a,σ,H,he,I,⟨C,d,He,fl⟩,q⟩;subst he;have hf:=I.frame1 hst;have hfr:X.A.frames=some (X.env::X.outer):=by rw [I.ok.frames,hst]
 have hl:s'.heap.FunFrames X.base (X.env::X.outer):=by rw [<-hst];exact I.stack
 refine jy hfr hl hf fl I.sz (fun b hb=>I.hok.fresh hb) I.pn_lt fun h' T w x nT fT pT=>?_;show wpAny _ _ _ _ _ _;obtain ⟨vs,a0,oT,ts,he,h0,h1,_⟩:=id x;refine wpAny_bind (wpAny_field (s:={ s' with heap:=h' }) he rfl h1 ?_);rw [if_neg (show ¬ ((Value.ref T == Value.none)=true) from by simp)];rw [hf];refine eV (s:={ s' with heap:=h' }) x fun h'' k x'=>?_;have W:=w.then k;rw [<-hst] at W;obtain ⟨vs',a0',oT',ts',he',h0',h1',_⟩:=id x';refine ⟨a,σ,H,rfl,I.wr (h':=h'') W x' He fT nT (fun p hp z=>?_),⟨C,d,He,vs',a0',he',h0',.inr ⟨T,_,x',nT,fT,pT,.inr rfl⟩⟩,q⟩;rw [El] at hp;exact pT (z ▸ List.mem_map_of_mem hp)
end
theorem PSs.wishTo {X:Cx} {E:Value->Shared->Prop} {st:List Stmt} {t:TS} (h:PSs (X.wish E) st t) (k:∀ e s',E e s'->X.xe e s'):PSs X st t:=⟨fun pins s σ H D I hw=>
 wpAny_mono (h pins s σ H D (I.wish _) hw) (fun _ _ q=>q.unwish) fun e s' z=>k e s' z⟩
section
variable {P:Program} {w:World} {K:ZF} {mg:Str->Option Value} {base:Heap}
theorem zg {N:List Str} {qual:Str} {sc:Scope} {f:Addr} {cd:Value} {A:Around} {outer:List Env} {s:Shared} {H:Hp} {E:XK} (e:Value) (s':Shared)
  (h:jz (iC (uy P w) P w K mg base N qual sc f cd A outer s H E) (fun _=>E) e s'):(iC (uy P w) P w K mg base N qual sc f cd A outer s H E).xe e s':=by
 obtain ⟨a,σ,H',he,I,⟨C,d,He,fl⟩,q⟩:=h;subst he;show wpAny (model P w) _ (leaving _ (.ref a)) _ _ s';unfold leaving;refine wpAny_bind (jy (base:=base) I.ok.frames I.stack rfl fl I.sz (fun b hb=>I.hok.fresh hb) I.pn_lt fun h' T w x nT fT pT=>eV (s:={ s' with heap:=h' }) x fun h'' k x'=>?_);have W:=w.then k;have J:=I.wr (h':=h'') W x' He fT nT (fun p hp=>absurd hp (by show p∉([]:List (Addr×Obj))++[];simp));exact ⟨a,H',C,d,T,rfl,J.os,J.bare,J.base,J.hok,He,x',nT,fT,q⟩
theorem FnOk.calm {k:Nat} {f:Addr} {fd:FuncData} {ps:List Str} {sp:Sp} (F:FnOk P w K mg base (uy P w) k f fd ps sp):FnOk P w K mg base bY k f fd ps (fun vs H Q _=>sp vs H Q E0):=
 ⟨fun vs H Q E q=>F.len vs H Q E0 q,fun A outer s H args us vs Q E hr he hb hv hs=>codeAny_mono (F.run A outer s H args us vs Q E0 hr he hb hv hs) fun r s' hq=>by
  cases r with
  | error e=>
   obtain ⟨_,_,_,_,_,_,_,_,_,_,_,_,_,_,z⟩:=hq;exact z.elim
  | ok fl=>cases fl<;>exact hq⟩
end
section
variable {X:Cx} {k:Nat} {f C:Addr} {fd:FuncData} {ps:List Str} {sp:Sp} {dvs:List V} {ds:List Value} {ES:St->XK} {x m:Str} {p pos apos:Pos} {e o:Expr} {es:List Expr} {ta:TE} {t:TA}
theorem wN {pins:List (Addr×Obj)} {σ:St} {H:Hp} {s:Shared} {Q:VK} {us:List Value} {vs:List V} (F:FnOk X.prog X.w X.K X.mg X.base (uy X.prog X.w) k f fd ps sp) (hr:Room k X.A) (hb:Binds X.K fd ps ds) (hd:Vals dvs ds) (hx:BS X ES)
  (I:Inv X pins σ H s) (r:Vals vs us) (h:sp (vs++dvs) H Q (ES σ)):wpAny (model X.prog X.w) X.A (call (.ref f) us) (EP X pins σ Q) X.xe s:=by
 have r2:Vals (vs++dvs) (us++ds):=r.append hd;have hl:(us++ds).length=ps.length:=by rw [<-r2.length];exact F.len _ _ _ _ h
 refine wpAny_call (codeAny_mono (F.run X.A X.stack s H ⟨us,[]⟩ (us++ds) (vs++dvs) Q (ES σ) hr I.env0 (hb s us I.kIn hl) r2 h) fun r s' hq=>?_);cases r with
 | error e=>exact hx e s' (Bt I hq)
 | ok fl=>
  cases fl with
  | ret u=>exact I.after hq
  | next=>exact False.elim hq
  | brk=>exact False.elim hq
  | cont=>exact False.elim hq
def zh (sp:Sp) (dvs:List V) (ES:St->XK) (t:TA):TE:=fun σ H Q=>t σ H fun vs H1=>sp (vs++dvs) H1 Q (ES σ)
theorem uz (F:FnOk X.prog X.w X.K X.mg X.base (uy X.prog X.w) k f fd ps sp) (hr:Room k X.A) (hg:Gl X x) (hm:X.mg x=some (.ref f)) (hk:PySem.W.keepIn X.K (.ref f)=true) (hb:Binds X.K fd ps ds) (hd:Vals dvs ds) (hx:BS X ES)
  (ha:PA X (e::es) t) (hdb:(x == ("__debug__":Str))=false:=by decide) (he:starEach (e::es) X.env=(false,eval e X.env)::starEach es X.env:=by rfl) (hpl:(backTo pos (starEach es X.env)).any (·.1)=false:=by rfl) :
  PE X (.Call (.Name x p) (e::es) [] pos) (zh sp dvs ES t):=by
 refine ⟨?_⟩;intro pins s σ H Q I h;refine wpAny_Call_Name_kw (dF I hg hm ?_ hdb);refine EB (h₀:=X.base) I.ok.mod.kin hk (bC (ha pos pins s σ H _ I h) fun us s1 ⟨vs,H1,I1,r,q⟩=>⟨I1.kIn,?_⟩) he hpl;exact wN F hr hb hd hx I1 r q
end
section
variable {prog:Program} {w:World} {A:Around} {E:Value->Shared->Prop} {h:Heap} {g:Array GenState} {dr:Drawn} {t:Nat} {os:OsState}
variable {a:Addr}
theorem km {vs:Array Value} {Q:Bool->Shared->Prop} (ha:h.get? a=some o) (hd:o.data=.fields vs) (hq:Q false ⟨h,g,dr,t,os⟩):wpAny (model prog w) A (isType (.ref a)) Q E ⟨h,g,dr,t,os⟩:=by
 simp only [isType,loadHead];refine wpAny_bind (wpAny_loadPart ha ?_);rw [hd];exact wpAny_pure hq
theorem dB {Q:Value->Shared->Prop} (ha:h.get? a=some o) (hq:Q o.cls ⟨h,g,dr,t,os⟩):wpAny (model prog w) A (typeOf (.ref a)) Q E ⟨h,g,dr,t,os⟩:=by
 simp only [typeOf];exact wpAny_bind (wpAny_loadPart ha (wpAny_pure hq))
end
section
variable {X:Cx} {pins:List (Addr×Obj)} {σ:St} {H:Hp} {s:Shared} {ES:St->XK} {e:Expr} {te:TE} {pos:Pos}
def uA (K:ZF) (te:TE) (ES:St->XK):TS:=fun _ σ H=>te σ H fun x H1=>∃ a C d fs nm bm,x=.ref a/\XAt H1 a C d false fs/\XC K C nm bm/\ES σ (.ref a) none (aq H1 a (.ext (XO a C d true)))
theorem jA (he:PE X e te) (hx:BS X ES) (hc:X.calm=true):PS X (.Raise (some e) none pos) (uA X.K te ES):=by
 refine ⟨fun pins s σ H D I h=>?_⟩;show wpAny _ _ (do standAt pos;raiseStmt X.env (some (do let v <-eval e X.env;standAt pos;pure v)) none) _ _ s;refine wpAny_bind (wpAny_standAt ?_);unfold raiseStmt;dsimp only;refine wpAny_bind (wpAny_bind (wpAny_mono (he pins s σ H _ I h) (fun v s₁ h₁=>wpAny_bind (wpAny_standAt (wpAny_pure ?_))) fun _ _ x=>x));obtain ⟨x,H1,I1,rx,a,C,d,fs,nm,bm,ex,xa,c,q⟩:=h₁;subst ex;obtain rfl:v=Value.ref a:=rx;obtain ⟨vs,a0,ha,h0,h1⟩:=xa.obj I1;have hb:(Value.ref C::bm).contains (.type "BaseException")=true:=c.tl.has C "BaseException" true zk;obtain ⟨q0,N,bs,sn,sub,ab,col,dd,k0,k1,k2,k3,k5,lk⟩:=c.obj;have hC:=I1.kIn _ _ lk;have hh:X.A.handled=none:=I1.ok.hd hc;have I2:=I1.write (o:=.ext (XO a C d true)) (x:=a) (e:=a) (t':=s₁.toks) (h':=s₁.heap) (by rw [xa.1];exact True.intro) (.inl rfl) (fun b u _ z=>z) ⟨_,ha⟩ (gF ⟨vs,a0,ha,h0,fun z=>nomatch z⟩ ⟨_,ha⟩ XO.stay);have fin:X.xe (.ref a) s₁:=hx _ _ ⟨a,σ,_,rfl,I2.nopins,⟨C,d,ae,vs,a0,ha,h0,.inl (h1 rfl)⟩,q⟩;obtain ⟨hp,g,dr,t,os⟩:=s₁;refine wpAny_bind (wpAny_pure ?_);dsimp only;refine wpAny_bind (wpAny_holding ?_);unfold excFromValue isExcClass;refine wpAny_bind (wpAny_bind (km ha rfl ?_));simp only [Bool.false_eq_true,if_false];refine wpAny_pure ?_;simp only [Bool.false_eq_true,if_false];unfold isInstance;refine wpAny_bind (wpAny_bind (dB ha (wpAny_isSubtype_exc hC ?_)));rw [hb];simp only [if_true];refine wpAny_pure ?_;refine wpAny_bind (km ha rfl ?_);simp only [Bool.false_eq_true,if_false];unfold raisedInstance;refine wpAny_bind (wpAny_bind (dB ha (wpAny_bind (dB hC ?_))));rw [if_pos (by rfl)];refine wpAny_pure ?_;unfold setFlight raiseNew;refine wpAny_bind (wpAny_bind (wpAny_field ha rfl (h1 rfl) ?_));rw [if_neg zd];refine wpAny_pure (wpAny_bind (wpAny_handled ?_));rw [hh];first
  | exact wpAny_throw fin
  | exact wpAny_bind (wpAny_pure (wpAny_throw fin))
end
section
variable {prog:Program} {w:World} {A:Around} {E:Value->Shared->Prop} {h:Heap} {g:Array GenState} {dr:Drawn} {t:Nat} {os:OsState}
variable {Q:Bool->Shared->Prop}
theorem oX {a:Addr} {cd:ClassData} (ha:h.get? a=some o) (hd:o.data=.cls cd) (hq:Q true ⟨h,g,dr,t,os⟩):wpAny (model prog w) A (isType (.ref a)) Q E ⟨h,g,dr,t,os⟩:=by
 simp only [isType,loadHead];refine wpAny_bind (wpAny_loadPart ha ?_);rw [hd];exact wpAny_pure hq
theorem uB {e C C':Addr} {oe:Obj} {nm q nm' q':Str} {N N':Addr} {bs bm bs' bm':List Value} {hdct hdct':Bool} {sn sn' sub sub' ab ab' col col' dd dd' k0 k0' k1 k1' k2 k2' k3 k3' k5 k5' newId newId'} {Q:Bool->Shared->Prop} (he:h.get? e=some oe) (hcls:oe.cls=.ref C) (hC:h.get? C=some (excClassObj nm q C N bs bm hdct sn sub ab col dd k0 k1 k2 k3 k5 newId))
  (hC':h.get? C'=some (excClassObj nm' q' C' N' bs' bm' hdct' sn' sub' ab' col' dd' k0' k1' k2' k3' k5' newId')) (hb':(Value.ref C'::bm').contains (.type "BaseException")=true) (hq:Q ((Value.ref C::bm).contains (.ref C')) ⟨h,g,dr,t,os⟩) :
  wpAny (model prog w) A (excMatches (.ref e) (.ref C')) Q E ⟨h,g,dr,t,os⟩:=by
 unfold excMatches isInstance;refine wpAny_bind (wpAny_bind (dB hC' (wpAny_of_eq (a:=false) (by rfl) ?_)));simp only [Bool.false_eq_true,if_false];refine wpAny_bind (wpAny_pure ?_);simp only [forIn,ForIn.forIn,List.forIn'_cons,List.forIn'_nil,List.forIn_cons,List.forIn_nil];unfold isExcClass;refine wpAny_bind ?_;refine wpAny_bind ?_;refine wpAny_bind (wpAny_bind (oX hC' rfl ?_));simp only [if_true];refine wpAny_isSubtype_exc hC' ?_;rw [hb'];simp only [Bool.not_true,Bool.false_eq_true,if_false];refine wpAny_pure (wpAny_pure ?_);refine wpAny_bind (dB he ?_);rw [hcls];refine wpAny_bind (wpAny_bind (wpAny_bind (wpAny_isSubtype_exc hC ?_)));generalize (Value.ref C::bm).contains (.ref C')=b at hq ⊢;cases b with
 | true=>
  simp only [if_true];exact wpAny_pure (wpAny_pure (wpAny_pure hq))
 | false=>
  simp only [Bool.false_eq_true,if_false];exact wpAny_pure (wpAny_pure (wpAny_pure hq))
end
abbrev Cx.alt (X:Cx) (A:Around) (calm:Bool) (pn:List (Addr×Obj)) (xe:Value->Shared->Prop):Cx:={ X with A:=A,calm:=calm,pn:=pn,xe:=xe }
abbrev Cx.bear (X:Cx) (pn:List (Addr×Obj)):Cx:=X.alt X.A X.calm pn X.xe
abbrev Cx.suite (X:Cx) (A:Around) (pn:List (Addr×Obj)):Cx:=X.alt A false pn fun _ _=>False
section
variable {X:Cx} {pins pins' pn:List (Addr×Obj)} {σ:St} {H:Hp} {s:Shared} {A:Around} {calm:Bool} {xe:Value->Shared->Prop}
theorem Inv.alt (I:Inv X pins σ H s) (hA:A.frames=some X.stack) (hc:calm=true->A.handled=none) (hp:∀ p∈pn++pins',p∈X.pn++pins):Inv (X.alt A calm pn xe) pins' σ H s:=
 ⟨⟨I.ok.mod,I.ok.kind,I.ok.glob,I.ok.blt,I.ok.above,I.ok.inj,I.ok.has,I.ok.cab,hc,hA,I.ok.stk,I.ok.exf,I.ok.bs,I.ok.bsz,I.ok.noex,I.ok.exfs,I.ok.funs,I.ok.frf⟩,I.os,I.bare,I.base,I.loc,I.cell,I.free,I.freeC,fun p h=>I.pin p (hp p h),I.hok,I.len⟩
theorem Inv.unalt (I:Inv (X.alt A calm pn xe) pins' σ H s) (ok:X.Ok) (hp:∀ p∈X.pn++pins,p∈pn++pins'):Inv X pins σ H s:=
 ⟨ok,I.os,I.bare,I.base,I.loc,I.cell,I.free,I.freeC,fun p h=>I.pin p (hp p h),I.hok,I.len⟩
theorem Inv.unset {i:Nat} {n:Str} {m:Str->Option Value} {v:Option Value} {h':Heap} {t':Nat} (I:Inv X pins σ H s) (hN:X.N.Nodup) (hi:X.N[i]?=some n) (hn:s.heap.Ns X.env.locals m) (hl:∀ (i:Nat) (x:Str) (v:V),X.N[i]?=some x->σ[i]?=some (some v)->zO X.env.scope x->∃ u,RelV v u/\zZ X.env s.heap m x u)
  (hn':h'.Ns X.env.locals fun x=>if x=n then v else m x) (hs:Heap.SameBut X.env.locals s.heap h'):Inv X pins (σ.set i none) H { s with heap:=h',toks:=t' }:=by
 have hiσ:i < σ.length:=by rw [I.len];exact (DK.mp hi).1
 have cne:=I.cne;obtain ⟨oL,_,_,hoL,_⟩:=id hn;refine ⟨I.ok,I.os,I.bare,⟨fun b o e n hb hx=>?_,fun b o e n hb hx=>?_,I.base.free,fun b o e hx=>?_,I.base.tups,I.base.frzs,I.base.tbls⟩,⟨_,hn',fun j y v' e1 e2 e3=>?_⟩,fun y c e=>?_,I.free,I.freeC,fun p hp=>?_,fun b ob e=>?_,by simpa using I.len⟩
 ·exact (hs.2 b (Eg (Ed (DW e) I.ok.above))).trans (I.base.keep b o e n hb hx)
 ·obtain ⟨sl,e1⟩:=I.base.slot b o e n hb hx;exact ⟨sl,(hs.2 b (Eg (Ed (DW e) I.ok.above))).trans e1⟩
 ·obtain ⟨o',e1⟩:=I.base.there b o e hx;exact ⟨o',(hs.2 b (Eg (Ed (DW e) I.ok.above))).trans e1⟩
 ·by_cases hj:j=i
  ·subst hj;rw [List.getElem?_set_self hiσ] at e2;cases e2
  ·rw [List.getElem?_set_ne (Ne.symm hj)] at e2;obtain ⟨u',r',q⟩:=hl j y v' e1 e2 e3;refine ⟨u',r',?_⟩;rcases q with ⟨k,e⟩|⟨k,c,e,z⟩
   ·refine .inl ⟨k,?_⟩;have:y≠n:=fun e=>hj (iX hN e1 (e ▸ hi));simp [this,e]
   ·exact .inr ⟨k,c,e,z.sameBut hs (cne y c e)⟩
 ·obtain ⟨w',z⟩:=I.cell y c e;exact ⟨w',z.sameBut hs (cne y c e)⟩
 ·obtain ⟨e,n,ne,nf,d⟩:=I.pin p hp;exact ⟨(hs.2 p.1 ne).trans e,n,ne,nf,d⟩
 ·refine (I.hok b ob e).stay (fun c w' hc q=>(hs.2 c ?_).trans q) (fun _ q=>q) fun _ _ q=>q;rintro rfl;rcases hc with rfl|hc
  ·rw [I.free] at e;cases e
  ·rw [I.free] at hc;cases hc
end
section
variable {X:Cx} {body suite:List Stmt} {b₀:Stmt} {tb:(St->XK)->TS} {th:TS} {n cn:Str} {cp hpos pos:Pos} {i:Nat} {C':Addr} {nm':Str} {bm':List Value}
def Ends.drop (D:Ends) (i:Nat):Ends:={ nx:=fun σ H=>D.nx (σ.set i none) H,rt:=D.rt,bk:=fun σ H=>D.bk (σ.set i none) H,ct:=fun σ H=>D.ct (σ.set i none) H }
def uC (K:ZF) (C':Addr) (i:Nat) (th:TS) (D:Ends):St->XK:=fun σ e _ H=>∃ a C d fs nm bm,e=.ref a/\XAt H a C d true fs/\XC K C nm bm/\(Value.ref C::bm).contains (.ref C')=true/\th (D.drop i) (σ.set i (some (.ref a))) H
def CM (K:ZF) (tb:(St->XK)->TS) (C':Addr) (i:Nat) (th:TS):TS:=fun D σ H=>tb (uC K C' i th D) D σ H
theorem wO {a C C2:Addr} {d d2:Option Addr} {fs:List (Str×V)} {w:World} (x:XAt H a C d true fs) (ok:HOk P w H h) (y:∃ vs:Array Value,h.get? a=some { cls:=.ref C2,dict:=d2,data:=.fields vs }):C=C2/\d=d2:=by
 obtain ⟨⟨vs,a0,h1,_⟩,_⟩:=(show ObjOk P w H h a (.ext (XO a C d true)) from ok a _ x.1);obtain ⟨vs2,h2⟩:=y;rw [h1] at h2;injection h2 with h3;injection h3 with h4 h5;injection h4 with h6;exact ⟨h6,h5⟩
theorem zi {more:List _} (hst:X.stack=X.env::X.outer) (hb:∀ (pn:List (Addr×Obj)) (ES:St->XK),PSs ((X.bear pn).esc ES) body (tb ES)) (hs:∀ (A:Around) (pn:List (Addr×Obj)),PSs (X.suite A pn) (b₀::suite) th)
  (hg:Gl X cn) (hm:X.mg cn=some (.ref C')) (c':XC X.K C' nm' bm') (hN:X.N.Nodup) (hi:X.N[i]?=some n) (hl:X.env.kindOf n=some .local) (hdb:(cn == ("__debug__":Str))=false:=by decide) :
  PS X (.Try body (.ExceptHandler (some (.Name cn cp)) (some n) (b₀::suite) hpos::more) [] [] pos) (CM X.K tb C' i th):=by
 refine ⟨fun pins s σ H D I h=>?_⟩;have ok:=I.ok;have I0:Inv (X.bear (X.pn++pins)) [] σ H s:=I.alt ok.frames ok.hd (fun p hp=>by rwa [El] at hp);have back:∀ {A calm xe σ H s},Inv (X.alt A calm (X.pn++pins) xe) [] σ H s->Inv X pins σ H s:=fun J=>J.unalt ok (fun p hp=>by rwa [El]);refine wpAny_Try_except (wpAny_mono ((hb (X.pn++pins) (uC X.K C' i th D)) [] s σ H D (I0.wish _) h) (fun f s1 h1=>?_) fun e s1 h1=>?_)
 ·cases f with
  | next=>
   obtain ⟨σ',H',J,q⟩:=h1;exact wpAny_pure ⟨σ',H',back J,q⟩
  | brk=>obtain ⟨σ',H',J,q⟩:=h1;exact ⟨σ',H',back J,q⟩
  | cont=>obtain ⟨σ',H',J,q⟩:=h1;exact ⟨σ',H',back J,q⟩
  | ret u=>obtain ⟨v,σ',H',J,r,q⟩:=h1;exact ⟨v,σ',H',back J,r,q⟩
 ·obtain ⟨a,σ1,H1,ea,J,⟨C,d,He,fl⟩,a',Cx',d',fs,nm,bm,e1,xa,c,hc,q⟩:=h1;subst ea;cases e1;have hf:X.env.frame=some X.env.locals:=I.frame1 hst;have hfr:X.A.frames=some (X.env::X.outer):=by rw [ok.frames,hst]
  have hl':s1.heap.FunFrames X.base (X.env::X.outer):=by rw [<-hst];exact J.stack
  refine jy hfr hl' hf fl J.sz (fun b hb=>J.hok.fresh hb) J.pn_lt fun h2 T w x nT fT pT=>eV (s:={ s1 with heap:=h2 }) x fun h3 k x3=>?_;have W:=w.then k;rw [<-hst] at W;have ec:=wO xa J.hok (by obtain ⟨vs,a0,z,_⟩:=fl;exact ⟨vs,z⟩);obtain ⟨rfl,rfl⟩:=ec;have J3:Inv (X.bear (X.pn++pins)) [] σ1 H1 { s1 with heap:=h3 }:=J.wr (h':=h3) W x3 He fT nT (fun p hp z=>pT (by rw [El] at hp;exact z ▸ List.mem_map_of_mem hp));obtain ⟨q0,N,bs,sn,sub,ab,col,dd,k0,k1,k2,k3,k5,lk⟩:=c.obj;obtain ⟨q0',N',bs',sn',sub',ab',col',dd',k0',k1',k2',k3',k5',lk'⟩:=c'.obj;have hC:=J3.kIn _ _ lk;have hC':=J3.kIn _ _ lk';have J4:Inv (X.suite (X.A.mark (some (.ref a))) (X.pn++pins)) [] σ1 H1 { s1 with heap:=h3 }:=J3.alt (X:=X.bear (X.pn++pins)) ok.frames (fun z=>nomatch z) (fun p hp=>hp);refine wpAny_handleBy_cons (codeAny_handlers_test (dF (X:=X.suite (X.A.mark (some (.ref a))) (X.pn++pins)) J4 hg hm ?_ hdb)) (by intro z;cases z);obtain ⟨vs3,a03,_,_,he3,_⟩:=id x3;refine uB he3 rfl hC hC' (c'.tl.has C' "BaseException" true zk) ?_;rw [hc];simp only [if_true];refine codeAny_handlers_suite_as (eV (s:={ s1 with heap:=h3 }) x3 fun h5 k5' x5=>?_);have J5:Inv (X.suite (X.A.mark (some (.ref a))) (X.pn++pins)) [] σ1 H1 { s1 with heap:=h5 }:=by
   refine J4.wr (h':=h5) (e:=a) (T:=T) ⟨fun b o hb _ _ hT=>k5' b o hb hT,fun b o hb hbf=>⟨o.slots,k5' b o hb fun z=>W.nf (z ▸ hbf)⟩,fun o ho=>?_,W.nf⟩ x5 He fT nT (fun p hp z=>pT (by rw [El] at hp;exact z ▸ List.mem_map_of_mem hp));obtain ⟨_,_,oT,ts,_,_,_,_,hT,hd,_⟩:=x3;rw [hT] at ho;cases ho;exact ⟨ts,hd⟩
  refine fc (X:=X.suite (X.A.mark (some (.ref a))) (X.pn++pins)) (v:=.ref a) J5 hN hi (.inl hl) rfl (fun s6 J6=>?_) (.inr hl);refine wpAny_mono ((hs (X.A.mark (some (.ref a))) (X.pn++pins)) [] s6 _ H1 (D.drop i) J6 q) (fun f s7 h7=>?_) fun _ _ z=>False.elim z;have fin:∀ {σ':St} {H':Hp} {R:Unit->Shared->Prop},Inv (X.suite (X.A.mark (some (.ref a))) (X.pn++pins)) [] σ' H' s7->(∀ s8,Inv X pins (σ'.set i none) H' s8->R () s8)->wpAny (model X.prog X.w) X.A (do bindName X.env n .none;unbindBehindTheSuite X.env n hpos) R X.xe s7:=fun {σ' H' R} J7 hR=>by
   obtain ⟨m,hn,hlk⟩:=J7.loc;refine wpAny_nameGoes_keeps hl hn (by rw [ok.kind];rfl) fun h8 v hn8 hs8=>hR _ (back (J7.unset (t':=s7.toks+1) hN hi hn hlk hn8 hs8))
  cases f with
  | next=>obtain ⟨σ',H',J7,q7⟩:=h7;exact fin J7 fun s8 J8=>⟨_,H',J8,q7⟩
  | brk=>obtain ⟨σ',H',J7,q7⟩:=h7;exact fin J7 fun s8 J8=>⟨_,H',J8,q7⟩
  | cont=>obtain ⟨σ',H',J7,q7⟩:=h7;exact fin J7 fun s8 J8=>⟨_,H',J8,q7⟩
  | ret u=>obtain ⟨v,σ',H',J7,r,q7⟩:=h7;exact fin J7 fun s8 J8=>⟨v,_,H',J8,r,q7⟩
end
end L2
namespace XD
open PySem PySem.SeqAt PySem.MeetsSeq
theorem dict_declines_str (l:Addr) (es:Array DictEntry) (ep:Nat) (dd:Option Addr) (sl:Array (Option Value)) (b:Str) (u:Tok) :
  Meets (Builtin.«dict.__eq__» ⟨[.ref l,.str b u],[]⟩) (fun _ R s=>s.heap.get? l=some { cls:=.type "dict",dict:=dd,data:=.dict es ep,slots:=sl }/\R (.ok (.ret .notImplemented)) s):=
 .of_wp fun prog w A R s h=>by
  obtain ⟨hl,h⟩:=h;have ht:s.TypeIs (.ref l) "dict":=⟨_,hl,rfl⟩;show wpAny _ _ (Builtin.Dict.dictSlotArgs "__eq__" ⟨[.ref l,.str b u],[]⟩ >>= _) _ _ s;refine wpAny_bind ?_;unfold Builtin.Dict.dictSlotArgs;refine wpAny_bind (wpAny_notOrdered_dict ht ?_);refine wpAny_pure ?_;refine wpAny_bind (wpAny_isInstance (T:="str") (typeIs_str s b u) (by rfl:isSubtype (.type "str") (.type "dict")=pure false) ?_);simp only [Bool.not_false,if_true];exact wpAny_bind (wpAny_rule (wpAny_pure ⟨_,rfl,h⟩))
theorem str_declines_dict (b:Str) (u:Tok) (l:Addr) (c:Value) (es:Array DictEntry) (ep:Nat) (dd:Option Addr) (sl:Array (Option Value)) :
  Meets (Builtin.«str.__eq__» ⟨[.str b u,.ref l],[]⟩) (fun _ R s=>s.heap.get? l=some { cls:=c,dict:=dd,data:=.dict es ep,slots:=sl }/\R (.ok (.ret .notImplemented)) s):=
 .of_wp fun prog w A R s h=>by obtain ⟨hp,g,d,tk,os⟩:=s;obtain ⟨hl,h⟩:=h;wp_walk using AutoSeq1.wpAny_loadPart' hl,wpAny_load hl;exact ⟨_,rfl,h⟩
variable {l:Addr} {s:Shared} {A:Around}
theorem rc_str_dict {es:Array DictEntry} {ep:Nat} {dd:Option Addr} {sl:Array (Option Value)} (b:Str) (u:Tok) (ho:s.heap.get? l=some { cls:=.type "dict",dict:=dd,data:=.dict es ep,slots:=sl }) (hu:A.units < cLine):RcAt A s (.str b u) (.ref l) false:=fun prog w E Q h=>
 rc_eq_decline_or (k:=false) (typeIs_str s b u) ⟨_,ho,rfl⟩ zd (by rfl:isSubtype (.type "dict") (.type "str")=pure false) F.slot_str_eq F.slot_dict_eq_refl
  (fun _ hq=>call_meets F.slot_str_eq (typeIs_str s b u) F.entry_str_eq (F.args_str_eq_2 _ _) (str_declines_dict b u l (.type "dict") es ep dd sl) ⟨ho,hq⟩)
  (fun _ hq=>call_meets F.slot_dict_eq_refl ⟨_,ho,rfl⟩ F.entry_dict_eq (F.args_dict_eq_2 _ _) (dict_declines_str l es ep dd sl b u) ⟨ho,hq⟩)
  (fun _ hq=>wpAny_of_eq (rfl:isSame (.str b u) (.ref l)=pure false) hq) (.inr hu) h
theorem eq_str_dict {es:Array DictEntry} {ep:Nat} {dd:Option Addr} {sl:Array (Option Value)} (b:Str) (u:Tok) (ho:s.heap.get? l=some { cls:=.type "dict",dict:=dd,data:=.dict es ep,slots:=sl }) (hu:A.units < cLine):EqAt A s (.str b u) (.ref l) false:=fun prog w E Q h=>by
 unfold eqBool;refine wpAny_holding ?_;refine wpAny_ite_split (fun hab=>absurd (eq_of_beq hab) nofun) (fun _=>?_);exact wpAny_bind (rc_str_dict b u ho hu prog w E _ (wpAny_truthy_bool h))
end XD
namespace L2
open PySem PySem.Spec PyProof.Rows
def xM (K:ZF) (H:Hp) (a:Addr):Prop:=(∃ xs,SqL K H a xs)\/(∃ xs,SqT K H a xs)\/∃ kvs,H a=some (.dK kvs)
section
variable {X:Cx}
variable {A:Around} {a:Addr} {s:Shared}
theorem ni {pins:List (Addr×Obj)} {σ:St} {H:Hp} (I:Inv X pins σ H s) (t:xM X.K H a) (hu:A.units < cLine) (b:Str) (u:Tok):SeqAt.EqAt A s (.str b u) (.ref a) false:=by
 rcases t with ⟨xs,t⟩|⟨xs,t⟩|⟨kvs,t⟩
 ·obtain ⟨its,_,pl,_⟩:=I.list t;exact SeqAt.EqAt.str_list b u pl.isList hu
 ·obtain ⟨its,_,pl,_⟩:=I.tuple t;exact SeqAt.EqAt.str_tuple b u pl hu
 ·obtain ⟨_,_,vs,_,o,es,ep,ho,hx,hd,_⟩:=(show ObjOk X.prog X.w H s.heap a (.dK kvs) from I.hok a _ t);obtain ⟨c,dd,dt,sl⟩:=o;cases hd;have hc:c=.type "dict":=hx.1;subst hc;exact XD.eq_str_dict b u ho hu
theorem jB (h:∀ b u,SeqAt.EqAt A s (.str b u) (.ref a) false):∀ {xs:List Str} {us:List Value},Vals (xs.map V.str) us->∀ u∈us,SeqAt.EqAt A s u (.ref a) ((fun _=>false) u)
 | [],_,.nil=>fun u hu=>by cases hu
 | x::xs,u::us,.cons r t=>fun u' hu=>by
  rcases DY.mp hu with rfl|hu
  ·obtain ⟨t',rfl⟩:=r;exact h x t'
  ·exact jB h t u' hu
theorem uD {l:List Value}:l.toArray.any (fun _=>false)=false:=by
 rw [Array.any_eq_false];intro i h;exact D1
def wP (K:ZF):R2:=fun x y H Q=>∃ (a p:Addr) (xs:List Str),x=.ref a/\y=.ref p/\xM K H a/\(SqL K H p (xs.map V.str)\/SqT K H p (xs.map V.str))/\Q (.bl true) H
theorem qW {k:Nat} (hr:Room k X.A):dE X (compareOp .NotIn) (wP X.K):=by
 intro pins s σ H x y v u Q I rx ry h;obtain ⟨a,p,xs,rfl,rfl,t,hq,q⟩:=h;cases rx;cases ry;have hu:X.A.in1.units < cLine:=by
  have:=hr.un;show X.A.units+1 < _;omega
 have ne:=ni I t hu;rcases hq with hq|hq
 ·obtain ⟨its,r,pl,hz⟩:=I.list hq;refine SeqAt.notIn_listAt (fun _=>false) pl.isList (fun w hw=>jB ne r w (by simpa using hw)) ⟨.bl _,H,I,rfl,?_⟩;rw [uD];exact q
 ·obtain ⟨its,r,pl,hz⟩:=I.tuple hq;refine SeqAt.notIn_tupleAt (fun _=>false) pl (fun w hw=>jB ne r w (by simpa using hw)) ⟨.bl _,H,I,rfl,?_⟩;rw [uD];exact q
end
section
variable {X:Cx}
def DC (r1 r2:R2):R2:=fun x y H Q=>r1 x y H Q\/r2 x y H Q
theorem qX {f:Value->Value->Sem Value} {r1 r2:R2} (a:dE X f r1) (b:dE X f r2):dE X f (DC r1 r2):=by
 intro pins s σ H x y v u Q I rx ry h;rcases h with h|h
 ·exact a pins s σ H x y v u Q I rx ry h
 ·exact b pins s σ H x y v u Q I rx ry h
end
end L2
namespace L3
open PySem L2
inductive Th
 | non
 | bl (b:Bool)
 | int (i:Int)
 | str (x:Str)
 | tup (l:List Th)
 | lst (l:List Th)
 | dct
mutual
inductive TgV (p:Addr) (H:Hp):V->Th->Prop
 | non:TgV p H .non .non
 | bl (b:Bool):TgV p H (.bl b) (.bl b)
 | int (i:Int):TgV p H (.int i) (.int i)
 | str (x:Str):TgV p H (.str x) (.str x)
 | tup {a:Addr} {xs:List V} {ts:List Th}:H a=some (.tup xs)->TgA p H xs ts->TgV p H (.ref a) (.tup ts)
 | lst {a:Addr} {xs:List V} {ts:List Th}:a≠p->H a=some (.lst xs)->TgA p H xs ts->TgV p H (.ref a) (.lst ts)
 | dct {a:Addr}:a≠p->H a=some (.dK [])->TgV p H (.ref a) .dct
inductive TgA (p:Addr) (H:Hp):List V->List Th->Prop
 | nil:TgA p H [] []
 | cons {v:V} {t:Th} {vs:List V} {ts:List Th}:TgV p H v t->TgA p H vs ts->TgA p H (v::vs) (t::ts)
end
mutual
variable {H H':Hp} {p:Addr}
theorem TgV.but (g:Strm H p) (b:But p H H'):∀ {v:V} {t:Th},TgV p H v t->TgV p H' v t
 | _,_,.non=>.non
 | _,_,.bl b=>.bl b
 | _,_,.int i=>.int i
 | _,_,.str x=>.str x
 | _,_,.tup e t=>.tup (b _ _ e (fun z=>by obtain ⟨x,y,w,q⟩:=g;rw [z,q] at e;cases e)) (TgA.but g b t)
 | _,_,.lst n e t=>.lst n (b _ _ e n) (TgA.but g b t)
 | _,_,.dct n e=>.dct n (b _ _ e n)
theorem TgA.but (g:Strm H p) (b:But p H H'):∀ {vs:List V} {ts:List Th},TgA p H vs ts->TgA p H' vs ts
 | _,_,.nil=>.nil
 | _,_,.cons h t=>.cons (TgV.but g b h) (TgA.but g b t)
end
mutual
variable {H H':Hp} {p:Addr}
theorem TgV.same (s:Same H H'):∀ {v:V} {t:Th},TgV p H v t->TgV p H' v t
 | _,_,.non=>.non
 | _,_,.bl b=>.bl b
 | _,_,.int i=>.int i
 | _,_,.str x=>.str x
 | _,_,.tup e t=>.tup (s _ _ e) (TgA.same s t)
 | _,_,.lst n e t=>.lst n (s _ _ e) (TgA.same s t)
 | _,_,.dct n e=>.dct n (s _ _ e)
theorem TgA.same (s:Same H H'):∀ {vs:List V} {ts:List Th},TgA p H vs ts->TgA p H' vs ts
 | _,_,.nil=>.nil
 | _,_,.cons h t=>.cons (TgV.same s h) (TgA.same s t)
end
variable {H:Hp} {p:Addr}
theorem TgA.length:∀ {vs:List V} {ts:List Th},TgA p H vs ts->vs.length=ts.length
 | _,_,.nil=>rfl
 | _,_,.cons _ t=>by simp [TgA.length t]
theorem TgA.get:∀ {vs:List V} {ts:List Th},TgA p H vs ts->∀ {i:Nat} {v:V},vs[i]?=some v->∃ t,ts[i]?=some t/\TgV p H v t
 | _,_,.cons h _,0,_,e=>by
  have e':=D5 e;subst e';exact ⟨_,rfl,h⟩
 | _,_,.cons _ t,i+1,_,e=>TgA.get t (by simpa using e)
theorem TgA.app:∀ {vs us:List V} {ts rs:List Th},TgA p H vs ts->TgA p H us rs->TgA p H (vs++us) (ts++rs)
 | _,_,_,_,.nil,h=>h
 | _,_,_,_,.cons a t,h=>.cons a (TgA.app t h)
theorem TgA.take:∀ {vs:List V} {ts:List Th},TgA p H vs ts->∀ n,TgA p H (vs.take n) (ts.take n)
 | _,_,.nil,n=>by simp;exact .nil
 | _,_,.cons a t,0=>.nil
 | _,_,.cons a t,n+1=>.cons a (TgA.take t n)
variable {t:Th} {xs:List V}
theorem TgA.un {ts:List Th} (h:TgA p H xs (t::ts)):∃ v vs,xs=v::vs/\TgV p H v t/\TgA p H vs ts:=by
 cases h with
 | cons a b=>exact ⟨_,_,rfl,a,b⟩
theorem TgA.un0 (h:TgA p H xs []):xs=[]:=by cases h;rfl
def Th.isInt:Th->Bool
 | .int _=>true
 | _=>false
def Th.isNum:Th->Bool
 | .int _=>true
 | .bl _=>true
 | _=>false
def Th.isBl:Th->Bool
 | .bl _=>true
 | _=>false
def Th.isTup:Th->Bool
 | .tup _=>true
 | _=>false
def Th.isSeq:Th->Bool
 | .tup _=>true
 | .lst _=>true
 | _=>false
def wn (lo hi:Int):Th->Bool
 | .int i=>decide (lo<=i) && decide (i<=hi)
 | _=>false
def tyN:Th->String
 | .non=>"NoneType"
 | .bl _=>"bool"
 | .int _=>"int"
 | .str _=>"str"
 | .tup _=>"tuple"
 | .lst _=>"list"
 | .dct=>"dict"
variable {K:ZF}
theorem TgV.ty {v:V} (h:TgV p H v t):gK K H v (.type (tyN t)):=by
 cases h with
 | non=>exact .non
 | bl b=>exact .bl b
 | int i=>exact .int i
 | str x=>exact .str x
 | tup e _=>exact .tup e
 | lst _ e _=>exact .lst e
 | dct _ e=>exact .dK e
theorem kit_int (t:Th):PySem.W.kitOne K (.type (tyN t)) (.type "int")=some t.isNum:=by cases t<;>rfl
theorem kit_bool (t:Th):PySem.W.kitOne K (.type (tyN t)) (.type "bool")=some t.isBl:=by cases t<;>rfl
theorem kit_tup (t:Th):PySem.W.kitOne K (.type (tyN t)) (.type "tuple")=some t.isTup:=by cases t<;>rfl
def spWholeT:Sp:=fun vs H Q _=>∃ (p:Addr) (v:V) (t:Th),vs=[v]/\TgV p H v t/\Q (.bl t.isInt) H
def spWithinT:Sp:=fun vs H Q _=>∃ (p:Addr) (v:V) (t:Th) (lo hi:Int),vs=[v,.int lo,.int hi]/\TgV p H v t/\Q (.bl (wn lo hi t)) H
def spWordT:Sp:=fun vs H Q _=>∃ (p:Addr) (v:V) (t:Th) (w:Nat),vs=[v,.int w]/\TgV p H v t/\w<=24/\Q (.bl (wn 0 (2 ^ w - 1) t)) H
variable {P:Program} {w:World} {K:ZF} {mg:Str->Option Value} {base:Heap} {C fi aS aE aF aO:Addr} {t1 t2 t3 t4 t5 tM:Tok}
variable {fd:FuncData} {f:Addr}
theorem ok_wholeT (F:Fun K "is_whole" "is_whole" kN f fd) (T:Bl mg):FnOk P w K mg base bY 1 f fd ["thing"] spWholeT:=by
 have ZZ:=pP
 walk_at "o"
 ·obtain ⟨p,v,t,rfl,tv,q⟩:=h;refine ⟨_,ai (aA (gq (av (dW (T:="int")) (by rfl) T.isinstance cw (ac (pv 0) (ac (pe_ty (by rfl) T.int ED) ad))) (fe (rB (av (dW (T:="bool")) (by rfl) T.isinstance cw (ac (pv 0) (ac (pe_ty (by rfl) T.bool eQ) ad))))))),?_⟩;refine ⟨_,rfl,v,_,_,rfl,tv.ty,kit_int t,_,rfl,?_⟩;cases hn:t.isNum with
  | true=>
   refine gM ⟨_,rfl,v,_,_,rfl,tv.ty,kit_bool t,_,rfl,?_⟩;have e:(!t.isBl)=t.isInt:=by cases t<;>first|rfl|cases hn
   rw [e];exact q
  | false=>
   have e:t.isInt=false:=by cases t<;>first|rfl|cases hn
   rw [e] at q;exact bP q
theorem ok_withinT (F:Fun K "is_within" "is_within" iL f fd) (WH:Fn P w K mg base "is_whole" 1 ["thing"] spWholeT):FnOk P w K mg base bY 2 f fd ["thing","low","high"] spWithinT:=by
 have ZZ:=mQ
 walk_at "o"
 ·obtain ⟨p,v,t,lo,hi,rfl,tv,q⟩:=h;refine ⟨_,ai (aA (gq (aB WH hr rfl (ac (pv 0) ad)) (fe (i0 gJ gJ (pv 1) (pv 0) (pv 2))))),?_⟩;refine ⟨_,rfl,p,v,t,rfl,tv,_,rfl,?_⟩;cases tv with
  | int i=>
   refine gM ⟨_,rfl,_,rfl,_,_,rfl,rfl,_,rfl,kF (fun h=>?_) (fun h=>?_)⟩
   ·refine ⟨_,rfl,_,_,rfl,rfl,?_⟩;have h':decide (lo<=i)=true:=h;have q':Q (.bl (decide (lo<=i) && decide (i<=hi))) H:=q;rw [h',Bool.true_and] at q';exact q'
   ·have h':decide (lo<=i)=false:=EX.mpr h;have q':Q (.bl (decide (lo<=i) && decide (i<=hi))) H:=q;rw [h',Bool.false_and] at q';exact q'
  | non=>exact bP q
  | bl b=>exact bP q
  | str x=>exact bP q
  | tup a b=>exact bP q
  | lst a b c=>exact bP q
  | dct a b=>exact bP q
def opT (D:Fm) (n:Nat) (st:Str) (t:Th):Bool:=wn 0 (((eU D n st:Nat):Int) - 1) t
def rowK (D:Fm) (n:Nat) (fs:List (Str×Str)) (ops:List Th):Bool:=decide (ops.length=fs.length) && (fs.zip ops).all fun z=>opT D n z.1.2 z.2
def rowT (D:Fm) (n:Nat):Th->Bool
 | .tup [.str x,.tup ops]=>match D.kinds.find? (fun k=>decide (k.name=x)) with
  | some k=>rowK D n k.fs ops
  | none=>false
 | _=>false
theorem find_kind:∀ {l:List Kn} {k:Kn},(l.map Kn.name).Nodup->k∈l->l.find? (fun k'=>decide (k'.name=k.name))=some k
 | a::r,k,nd,h=>by
  rw [D6,EL] at nd;rcases DY.mp h with rfl|h
  ·rw [List.find?_cons_of_pos (by simp)]
  ·have:¬ a.name=k.name:=fun e=>nd.1 (e ▸ D2.mpr ⟨k,h,rfl⟩);rw [List.find?_cons_of_neg (by simp [this])];exact find_kind nd.2 h
theorem find_none {l:List Kn} {x:Str} (h:x∉l.map Kn.name):l.find? (fun k'=>decide (k'.name=x))=none:=
 List.find?_eq_none.mpr fun k hk=>by
  have:¬ k.name=x:=fun e=>h (e ▸ D2.mpr ⟨k,hk,rfl⟩);simp [this]
variable {z:V}
theorem inV_no (h:∀ x,z≠.str x) (fl:dJ z=true) (l:List Str):jZ z (ak l)=false:=by
 unfold jZ ak;rw [List.any_map,List.any_eq_false];intro x _;show ¬ nB (.str x) z=true;cases z with
 | str y=>exact absurd rfl (h y)
 | ref a=>cases fl
 | _=>exact fun e=>by cases e
def spOperandT (C:Addr):Sp:=fun vs H Q _=>∃ (v:V) (D:Fm) (st:Str) (x:V) (n:Nat) (p:Addr) (t:Th),vs=[v,.str st,x,.int n]/\TabV C H v D/\D.width<=24/\TgV p H x t/\Q (.bl (opT D n st t)) H
def spIsRowT (C:Addr):Sp:=fun vs H Q _=>∃ (v u:V) (D:Fm) (n:Nat) (p:Addr) (t:Th),vs=[v,u,.int n]/\TabV C H v D/\ip D/\D.width<=24/\TgV p H u t/\∀ H',Same H H'->Q (.bl (rowT D n t)) H'
theorem ok_wordT (F:Fun K "is_word" "is_word" sS f fd) (WI:Fn P w K mg base "is_within" 2 ["thing","low","high"] spWithinT):FnOk P w K mg base bY 3 f fd ["thing","width"] spWordT:=by
 have ZZ:=yX
 walk_at "o"
 ·obtain ⟨p,v,t,w,rfl,tv,hw,q⟩:=h;refine ⟨_,ai (aA (aB WI hr rfl (ac (pv 0) (ac ah (ac (aG iZ (aG rJ ah (pv 1)) ah) ad))))),?_⟩;refine ⟨_,rfl,_,rfl,_,_,rfl,rfl,⟨zo,zo,zd⟩,_,_,rfl,rfl,p,v,t,0,_,rfl,tv,?_⟩;have e:(1:Int)*2 ^ ((w:Int)).toNat - 1=2 ^ w - 1:=by
   have e1:((w:Int)).toNat=w:=by omega
   rw [e1,Int.one_mul]
  rw [e];exact q
theorem ok_operandT (F:Fun K "is_operand" "is_operand" gx f fd) (T:Tc K C) (B:Bl mg) (WI:Fn P w K mg base "is_within" 2 ["thing","low","high"] spWithinT) (WO:Fn P w K mg base "is_word" 3 ["thing","width"] spWordT):FnOk P w K mg base bY 4 f fd ["table","sort","thing","rows"] (spOperandT C):=by
 have ZZ:=qP
 walk_at "o"
 ·obtain ⟨v,D,st,x,n,p,t,rfl,⟨a,dx,pp,pm,pn,pk,us,rfl,ho,hpp,hpm,hpn,hpk,hus⟩,hw,tv,q⟩:=h;refine ⟨_,ag (bi (ar cB (pv 1) am) (ai (aA (aB WI hr.m rfl (ac (pv 2) (ac ah (ac (aG iZ (av ay (by rfl) B.len D3 (ac (bL (pv 0) rfl) ad)) ah) ad)))))) aL)
   (ag (bi (ar cB (pv 1) am) (ai (aA (aB WI hr.m rfl (ac (pv 2) (ac ah (ac (aG iZ (av ay (by rfl) B.len D3 (ac (bL (pv 0) rfl) ad)) ah) ad)))))) aL)
   (ag (bi (ar cB (pv 1) am) (ai (aA (aB WO hr rfl (ac (pv 2) (ac (bL (pv 0) rfl) ad))))) aL)
   (ai (aA (aB WI hr.m rfl (ac (pv 2) (ac ah (ac (pv 3) ad)))))))),?_⟩
  unfold opT eU at q;refine ⟨_,rfl,rfl,_,rfl,kF (fun h=>?_) (fun h=>?_)⟩
  ·have h':st="place":=V.str.inj (of_decide_eq_true h);subst h';rw [if_pos rfl] at q;refine ⟨_,rfl,_,rfl,a,C,dx,_,_,rfl,ho,T.cl,T.na "places" zk,rfl,pp,_,rfl,.inr (SqT.of hpp),_,_,rfl,rfl,p,x,t,_,_,rfl,tv,?_⟩;unfold ak;rw [DI];exact q
  have n1:st≠"place":=fun e=>h (decide_eq_true (congrArg V.str e));rw [if_neg n1] at q;refine ⟨_,rfl,rfl,_,rfl,kF (fun h=>?_) (fun h=>?_)⟩
  ·have h':st="mark":=V.str.inj (of_decide_eq_true h);subst h';rw [if_pos rfl] at q;refine ⟨_,rfl,_,rfl,a,C,dx,_,_,rfl,ho,T.cl,T.na "marks" zk,rfl,pm,_,rfl,.inr (SqT.of hpm),_,_,rfl,rfl,p,x,t,_,_,rfl,tv,?_⟩;unfold ak;rw [DI];exact q
  have n2:st≠"mark":=fun e=>h (decide_eq_true (congrArg V.str e));rw [if_neg n2] at q;refine ⟨_,rfl,rfl,_,rfl,kF (fun h=>?_) (fun h=>?_)⟩
  ·have h':st="number":=V.str.inj (of_decide_eq_true h);subst h';rw [if_pos rfl] at q;refine ⟨_,rfl,_,rfl,a,C,dx,_,_,rfl,ho,T.cl,T.na "width" zk,rfl,p,x,t,_,rfl,tv,hw,?_⟩;have e:((2 ^ D.width:Nat):Int)=(2:Int) ^ D.width:=by norm_cast
   rw [e] at q;exact q
  have n3:st≠"number":=fun e=>h (decide_eq_true (congrArg V.str e));rw [if_neg n3] at q;have e:(((n+1:Nat):Int) - 1)=(n:Int):=by omega
  rw [e] at q;exact ⟨_,rfl,_,rfl,p,x,t,_,_,rfl,tv,q⟩
theorem ok_isRowT (F:Fun K "is_row" "is_row" kO f fd) (T:Tc K C) (B:Bl mg) (B4:Da mg) (FO:eX P w K mg base C "fields_of" 2 ["self","kind"] (tZ C)) (IO:Fn P w K mg base "is_operand" 4 ["table","sort","thing","rows"] (spOperandT C)):FnOk P w K mg base bY 5 f fd ["table","thing","rows"] (spIsRowT C):=by
 have ZZ:=scIsRow
 walk_at "o"
 ·obtain ⟨v,u,D,n,p,t,rfl,hT,hD,hw,tv,q⟩:=h;obtain ⟨a,dx,pp,pm,pn,pk,us,rfl,ho,hpp,hpm,hpn,hpk,hus⟩:=id hT;obtain ⟨f1,fd1,M1,F1,B1⟩:=FO;refine ⟨_,ag (bi (PW.pt (dX (cL (cX (av (dW (T:="tuple")) (by rfl) B.isinstance cw (ac (pv 1) (ac (pe_ty (by rfl) B.tuple bo) ad)))))
     (dX (ar jP (av ay (by rfl) B.len D3 (ac (pv 1) ad)) ah)
     (di (ar (qX c9 (qW hr)) (aZ cZ (pv 1) ah) (bL (pv 0) rfl) rfl))))) (ai (aA cr)) aL)
   (ag (au (i:=3) scIsRow.nd rfl (Or.inl rfl) (bX (pv 0) (ac (aZ cZ (pv 1) ah) ad)))
   (ag (au (i:=4) scIsRow.nd rfl (Or.inl rfl) (aZ cZ (pv 1) ah))
   (ag (bi (PW.pt (dX (cL (cX (av (dW (T:="tuple")) (by rfl) B.isinstance cw (ac (pv 4) (ac (pe_ty (by rfl) B.tuple bo) ad)))))
     (di (ar jP (av ay (by rfl) B.len D3 (ac (pv 4) ad)) (av ay (by rfl) B.len D3 (ac (pv 3) ad)))))) (ai (aA cr)) aL)
   (ai (aA (av (ja rfl) (by rfl) B.all ij (ac (dN (N':=["name","sort","number","rows","table"]) (ix:=[none,none,none,some 2,some 0]) (sc0:=aj kO) (N:=["table","thing","rows","fields","operands"]) rfl zk (vL true true rfl B4.zip (ac (pv 3) (ac (pv 4) ad)))
    (fun C' cl s H fp=>iQ (K:=K) (n:=2) rfl rfl (aJ (iQ (K:=K) (n:=2) rfl rfl (aJ (aC (i:=0) yZ rfl (Or.inl rfl) (.inr rfl)) (aJ (aC (i:=1) yZ rfl (Or.inl rfl) (.inr rfl)) cb))) (aJ (aC (i:=2) yZ rfl (Or.inl rfl) (.inr rfl)) cb)))
    (fun _ _ _ _ _=>c0) (fun C' cl s H fp=>aB IO hr rfl (ac (pv 4) (ac (pv 1) (ac (pv 2) (ac (pv 3) ad)))))) ad))))))),?_⟩
  refine ⟨_,rfl,u,_,_,rfl,tv.ty,kit_tup t,_,rfl,?_⟩;have qf:rowT D n t=false->∀ H',Same H H'->Q (.bl false) H':=fun e H' s'=>by have:=q H' s';rw [e] at this;exact this
  by_cases ht:t.isTup=true;case neg=>
   have ht':t.isTup=false:=EX.mpr ht;rw [ht'];exact gM (gM (qf (by cases t<;>first|rfl|cases ht') H (Same.refl _)))
  rw [ht];refine bP ?_;cases tv with
  | non=>cases ht
  | bl=>cases ht
  | int=>cases ht
  | str=>cases ht
  | lst=>cases ht
  | dct=>cases ht
  | @tup b xs ts e ta=>
   have lx:=ta.length;refine ⟨_,rfl,b,_,rfl,.inr (SqT.of e),rfl,_,rfl,?_⟩;by_cases h2:xs.length=2;case neg=>
    refine bK (by rw [fG];simp;omega) (gM (qf ?_ H (Same.refl _)))
    match ts,lx with
    | [],_=>rfl
    | [a],_=>cases a<;>rfl
    | [_,_],l=>exact absurd l h2
    | a::b::_::_,_=>cases a<;>first|rfl|(cases b<;>rfl)
   refine bQ (by rw [fG];simp;omega) ?_;obtain ⟨t0,t1,rfl⟩:∃ t0 t1,ts=[t0,t1]:=by
    match ts,lx with
    | [],l=>exact absurd l (by rw [h2];simp)
    | [_],l=>exact absurd l (by rw [h2];simp)
    | [a,b],_=>exact ⟨a,b,rfl⟩
    | _::_::_::_,l=>exact absurd l (by rw [h2];simp)
   obtain ⟨x0,_,rfl,tv0,g1⟩:=ta.un;obtain ⟨x1,_,rfl,tv1,g2⟩:=g1.un;obtain rfl:=g2.un0;refine ⟨_,rfl,b,_,_,_,rfl,rfl,SqT.of e,rfl,_,rfl,a,C,dx,_,_,rfl,ho,T.cl,T.na "kinds" zk,rfl,?_⟩;by_cases hs:∃ k∈D.kinds,t0=.str k.name;case neg=>
    have rf:rowT D n (.tup [t0,t1])=false:=by
     cases t0 with
     | str x=>
      cases t1 with
      | tup ops=>
       show (match D.kinds.find? (fun k=>decide (k.name=x)) with|some k=>rowK D n k.fs ops|none=>false)=false;rw [find_none fun hm=>hs (let ⟨k,hk,e⟩:=D2.mp hm;⟨k,hk,e ▸ rfl⟩)]
      | _=>rfl
     | _=>rfl
    cases tv0 with
    | str x=>
     refine .inl ⟨pn,_,rfl,.inr (SqT.of hpn),rfl,cA _,_,rfl,bK ?_ (qf rf H (Same.refl _))⟩;show (!jZ (.str x) (ak (D.kinds.map Kn.name)))=true;rw [eG];have:(D.kinds.map Kn.name).contains x=false:=EX.mpr fun hc=>hs (let ⟨k,hk,e⟩:=D2.mp (Ex.mp hc);⟨k,hk,e ▸ rfl⟩);rw [this];rfl
    | non=>
     refine .inl ⟨pn,_,rfl,.inr (SqT.of hpn),rfl,cA _,_,rfl,bK ?_ (qf rf H (Same.refl _))⟩;show (!jZ .non (ak (D.kinds.map Kn.name)))=true;rw [inV_no (fun _ z=>by cases z) rfl];rfl
    | bl c=>
     refine .inl ⟨pn,_,rfl,.inr (SqT.of hpn),rfl,cA _,_,rfl,bK ?_ (qf rf H (Same.refl _))⟩;show (!jZ (.bl c) (ak (D.kinds.map Kn.name)))=true;rw [inV_no (fun _ z=>by cases z) rfl];rfl
    | int c=>
     refine .inl ⟨pn,_,rfl,.inr (SqT.of hpn),rfl,cA _,_,rfl,bK ?_ (qf rf H (Same.refl _))⟩;show (!jZ (.int c) (ak (D.kinds.map Kn.name)))=true;rw [inV_no (fun _ z=>by cases z) rfl];rfl
    | tup e0 _=>exact .inr ⟨_,pn,D.kinds.map Kn.name,rfl,rfl,.inr (.inl ⟨_,SqT.of e0⟩),.inr (SqT.of hpn),_,rfl,bK rfl (qf rf H (Same.refl _))⟩
    | lst _ e0 _=>exact .inr ⟨_,pn,D.kinds.map Kn.name,rfl,rfl,.inl ⟨_,SqL.of e0⟩,.inr (SqT.of hpn),_,rfl,bK rfl (qf rf H (Same.refl _))⟩
    | dct _ e0=>exact .inr ⟨_,pn,D.kinds.map Kn.name,rfl,rfl,.inr (.inr ⟨_,e0⟩),.inr (SqT.of hpn),_,rfl,bK rfl (qf rf H (Same.refl _))⟩
   obtain ⟨k,hk,rfl⟩:=hs;cases tv0;have hz:k.name∈D.kinds.map Kn.name:=D2.mpr ⟨_,hk,rfl⟩;refine .inl ⟨pn,_,rfl,.inr (SqT.of hpn),rfl,cA _,_,rfl,bQ ?_ ?_⟩
   ·show (!jZ (.str k.name) (ak (D.kinds.map Kn.name)))=false;rw [eG,Ex.mpr hz];rfl
   refine ⟨_,rfl,a,dx,C,f1,_,fd1,2,["self","kind"],_,rfl,ho,rfl,T.cl,M1,F1,hr.m,B1,_,rfl,b,_,_,_,rfl,rfl,SqT.of e,rfl,_,D,k,rfl,hT,hD,hk,fun tf fu htf hfu=>?_⟩;refine ⟨_,rfl,b,_,_,_,rfl,rfl,SqT.of e,rfl,?_⟩;refine ⟨_,rfl,x1,_,_,rfl,tv1.ty,kit_tup t1,_,rfl,?_⟩;by_cases ht1:t1.isTup=true;case neg=>
    have ht':t1.isTup=false:=EX.mpr ht1;rw [ht'];exact gM (qf (by cases t1<;>first|rfl|cases ht') H (Same.refl _))
   rw [ht1];refine bP ?_;cases tv1 with
   | non=>cases ht1
   | bl=>cases ht1
   | int=>cases ht1
   | str=>cases ht1
   | lst=>cases ht1
   | dct=>cases ht1
   | @tup c zs ops e1 ta1=>
    have l1:=ta1.length;have l2:=hfu.length;have er:rowT D n (.tup [.str k.name,.tup ops])=rowK D n k.fs ops:=by
     show (match D.kinds.find? (fun k'=>decide (k'.name=k.name)) with|some k=>rowK D n k.fs ops|none=>false)=_;rw [find_kind hD.kn hk]
    rw [er] at q;unfold rowK at q;refine ⟨_,rfl,c,_,rfl,.inr (SqT.of e1),_,rfl,tf,_,rfl,.inr (SqT.of htf),rfl,_,rfl,?_⟩;by_cases hl:zs.length=fu.length;case neg=>
     rw [decide_eq_false zo,Bool.false_and] at q;exact bK (by rw [fG];simp;omega) (q H (Same.refl _))
    rw [decide_eq_true zo,Bool.true_and] at q;refine bQ (by rw [fG,hl];simp) ?_;refine ⟨_,rfl,_,rfl,tf,c,rfl,⟨_,SqT.of htf⟩,⟨_,SqT.of e1⟩,?_⟩;have f3:=(hD.kf _ hk).2;have sz:(1000:Nat)<=sizeLine:=by decide
    refine vM (b1:=true) (b2:=true) (K:=K) (l1:=tf) (l2:=c) (xs:=fu) (ys:=zs) hl.symm (fun i ys' H'=>Same H H'/\ys'=(((k.fs.zip ops).take i).map fun z=>opT D n z.1.2 z.2).map V.bl) ⟨Same.refl _,rfl⟩ (fun i ys' H' hi ⟨s1,e9⟩=>⟨SqT.of (s1 _ _ htf),SqT.of (s1 _ _ e1),by rw [e9,DI,DI,DS];omega⟩) ?_ ?_
    ·rintro i x y ys' H' T1 hx hy nT ⟨s1,rfl⟩;obtain ⟨fl,hfl,fp,rfl,hfp⟩:=iD hfu hx;obtain ⟨to,hto,tvo⟩:=ta1.get hy;have s2:=af (o:=.tup [.ref fp,y]) nT;have s12:=s1.trans s2;refine ⟨T1,_,rfl,SqT.of ae,rfl,_,_,rfl,⟨fp,_,rfl,SqT.of (s12 _ _ hfp),rfl,_,_,rfl,_,_,rfl,rfl,_,_,rfl,rfl,⟨rfl,rfl,trivial⟩,dk ?_⟩⟩;refine ⟨_,rfl,_,rfl,_,rfl,_,rfl,_,D,fl.2,y,n,p,to,rfl,hT.same s12,hw,tvo.same s12,?_⟩;refine Nx.mk (DK.mp hx).1 ⟨s12,?_⟩;rw [Eu,List.getElem?_zip_eq_some (z:=(fl,to)) |>.mpr ⟨hfl,hto⟩,DP,DP];rfl
    ·rintro ys' H' ⟨s1,rfl⟩ D' hD';refine ⟨D',((k.fs.zip ops).take fu.length).map (fun z=>opT D n z.1.2 z.2),rfl,SqL.of ae,?_⟩;have:(((k.fs.zip ops).take fu.length).map fun z=>opT D n z.1.2 z.2).all id=(k.fs.zip ops).all fun z=>opT D n z.1.2 z.2:=by
      rw [Ep (by rw [List.length_zip];omega),List.all_map];rfl
     rw [this];exact q _ (s1.trans (af hD'))
abbrev sRInitX:Stmt:=cy (cG 2) 0
abbrev sNKInit:Stmt:=cy (cG 8) 0
abbrev bmR (R:Addr):List Value:=.ref R::XB.bmV
structure Xs (K:ZF) (mg:Str->Option Value) (R fR cK fK:Addr):Prop where
 r:XC K R "RowsError" XB.bmV
 k:XC K cK "NoRow" (bmR R)
 na:NoAttr K cK "row"
 mkx:CI K cK fK
 ri:xL K R "__init__" fR
 mR:mg "RowsError"=some (.ref R)
 mK:mg "NoRow"=some (.ref cK)
 val:mg "ValueError"=none
def spR (K:ZF):Sp:=fun vs H Q _=>∃ e x C d r fs nm bm,vs=[.ref e,x]/\XAt H e C d r fs/\XC K C nm bm/\Q .non H
def spNK (C:Addr):Sp:=fun vs H Q _=>∃ e x,vs=[.ref e,x]/\XAt H e C none false []/\∀ H' d,XAt H' e C (some d) false [("row",x)]->(∀ b o,H b=some o->b≠e->H' b=some o)->Q .non H'
section
variable {P:Program} {w:World} {K:ZF} {mg:Str->Option Value} {base:Heap} {R fR cK fK C:Addr}
theorem scRX:aw ["self","text"] ["self","text"] (aj sRInitX):=cI zk
theorem ok_RX (F:Fun K "__init__" "RowsError.__init__" sRInitX f fd) (T:Xs K mg R fR cK fK):FnOk P w K mg base bY 1 f fd ["self","text"] (spR K):=by
 have ZZ:=scRX
 walk_at "o"
 ·obtain ⟨e,x,C,d,r,fs,nm,bm,rfl,xa,c,q⟩:=h;refine ⟨_,ai (aI (wM rfl T.val (ac (pv 0) (ac (pv 1) ad)))),?_⟩;exact ⟨_,rfl,_,rfl,e,[x],C,d,r,fs,nm,bm,rfl,(by show 1<=1000;decide),xa,c,q⟩
def RIX (P:Program) (w:World) (K:ZF) (mg:Str->Option Value) (base:Heap) (fR:Addr):Prop:=∃ fd,Binds K fd ["self","text"] []/\FnOk P w K mg base bY 1 fR fd ["self","text"] (spR K)
theorem pe_riX {X:Cx} {p apos pos:Pos} {e:Expr} {es:List Expr} {t:TA} (h:RIX X.prog X.w X.K X.mg X.base fR) (T:Xs X.K X.mg R fR cK fK) (hr:Room 1 X.A) (hg:Gl X "RowsError") (ha:PA X (e::es) t)
  (hst:starEach (e::es) X.env=(false,eval e X.env)::starEach es X.env:=by rfl) (hpl:(backTo pos (starEach es X.env)).any (·.1)=false:=by rfl) (pl:Sem Bool)
  (ht:eval (.Call (.Attribute (.Name "RowsError" p) "__init__" apos) (e::es) [] pos) X.env=(do
   let ov <-eval (.Name "RowsError" p) X.env
   standAt apos.atName
   let (f,first) <-holding [ov] (getMethod ov "__init__" pl)
   callWith pos f first (backTo pos (starEach (e::es) X.env)) (backToKw pos (keywordEach [] X.env)))) :
  PE X (.Call (.Attribute (.Name "RowsError" p) "__init__" apos) (e::es) [] pos) (rT (spR X.K) [] E0 t):=by
 obtain ⟨fd,hb,F⟩:=h;exact uw (pl:=pl) T.ri F hr hg T.mR hb dL ha zd hst hpl ht
theorem scNK:aw ["self","row"] ["self","row"] (aj sNKInit):=cI zk
theorem ok_NK (F:Fun K "__init__" "NoRow.__init__" sNKInit f fd) (T:Xs K mg R fR cK fK) (RI':RIX P w K mg base fR):FnOk P w K mg base bY 2 f fd ["self","row"] (spNK cK):=by
 have ZZ:=scNK
 walk_at "o"
 ·obtain ⟨e,x,rfl,xa,q⟩:=h;refine ⟨_,ag (aI (pe_riX RI' T hr rfl (ac (pv 0) (ac am ad)) rfl rfl _ rfl)) (ai (wL (pv 0) (pv 1))),?_⟩;refine ⟨_,rfl,e,_,cK,none,false,[],"NoRow",bmR R,rfl,xa,T.k,?_⟩;refine ⟨_,rfl,_,rfl,e,cK,none,false,[],"NoRow",bmR R,rfl,xa,T.k,T.na,(by show 0 < 1000;decide),fun H3 d' xs=>?_⟩;exact q H3 d' xs.at_ fun b o hb ne=>xs.keep b o hb ne (fun z=>nomatch z)
def Refuse (cK:Addr) (z:V) (H:Hp) (E:XK):Prop:=∀ e d H',Same H H'->H e=none->XAt H' e cK (some d) true [("row",z)]->E (.ref e) none H'
theorem raise_row {H H1:Hp} {E:XK} {te:TE} {D:Ends} {σ:St} (TX:Xs K mg R fR cK fK) (s1:Same H H1) (qf:Refuse cK z H E) (ht:∀ Q:VK,Q z H1->te σ H1 Q):uA K (uv cK (spNK cK) E0 (md te yk)) (fun _=>E) D σ H1:=by
 refine ht _ fun e he=>⟨e,z,rfl,⟨ae,by show 0<=1000;decide,rfl⟩,fun H2 d xa k=>⟨rfl,e,cK,some d,_,"NoRow",bmR R,rfl,xa,TX.k,?_⟩⟩;obtain ⟨x1,x2,x3,x4⟩:=xa;have hn:H e=none:=by
  cases h:H e with
  | none=>rfl
  | some o=>rw [s1 _ _ h] at he;cases he
 refine qf e d _ (fun b o hb=>?_) hn ⟨ae,x2,x3,by rw [ao x3];exact x4⟩;have ne:b≠e:=ap hb hn;rw [ao ne];exact k b o (by rw [ao ne];exact s1 _ _ hb) ne
end
end L3
namespace L2
open PySem PySem.Spec PyProof.Rows
theorem FunD.okX {P:Program} {w:World} {K:ZF} {mg:Str->Option Value} {base:Heap} {x qual:Str} {st:Stmt} {f:Addr} {fd:FuncData} {N ps:List Str} {k:Nat} {sp:Sp} (F:FunD K x qual st f fd) (S:aw N ps (aj st)) (len:∀ vs H Q E,sp vs H Q E->vs.length=ps.length)
  (hbody:∀ (cdv:Value) (A:Around) (outer:List Env) (s:Shared) (H:Hp) (vs:List V) (Q:VK) (E:XK),Room k (A.deeper (envOfC qual (aj st) s.heap.objs.size f cdv))->sp vs H Q E->
   ∃ t,PSs ((iC (uy P w) P w K mg base N qual (aj st) f cdv A outer s H E).esc fun _=>E) (cc st) t/\t { nx:=fun _ H'=>Q .non H',rt:=Q } (start N vs) H):FnOk P w K mg base (uy P w) (k+1) f fd ps sp:=by
 obtain ⟨oc,od,kV,doc,pm,an,cdv,ct,osl,d,o,n,rfl,lk,hcd,_⟩:=F.ex;refine xq lk hcd S len fun A outer s H vs Q E hr hsp=>?_;obtain ⟨t,h,q⟩:=hbody cdv A outer s H vs Q E hr hsp;exact ⟨t,h.wishTo zg,q⟩
section
open L3
variable {X:Cx}
theorem uE:c8 X (.builtin "isinstance") (fun xs H Q=>∃ (p:Addr) (x:V) (t:Th) (tp:Addr) (Ts:List String) (b:Bool),xs=[x,.ref tp]/\TgV p H x t/\H tp=some (.tup (Ts.map V.ty))/\PySem.W.kitAny X.K (.type (tyN t)) (Ts.map Value.type)=some b/\Q (.bl b) H):=by
 intro pins s σ H xs us Q I r h;obtain ⟨p,x,t,tp,Ts,b,rfl,tv,ht,e,q⟩:=h;obtain ⟨u,u',rfl,rx,ry⟩:=rO r;cases ry;obtain ⟨_,its,rv,pp⟩:=(show ObjOk X.prog X.w H s.heap tp (.tup (Ts.map V.ty)) from I.hok tp _ ht);have ei:=mI rv;subst ei;obtain ⟨o,h1,h2,h3⟩:=pp.up;obtain ⟨oc,od,oda,osl⟩:=o;obtain ⟨n,h3⟩:=h3;dsimp only at h2 h3;subst h2 h3;cases tv with
 | non=>
  cases rx;exact PySem.W.kia_tup PySem.W.kitx_none I.kIn True.intro h1 e (fun z=>nomatch z) fun tk=>⟨.bl _,H,I.tok _,rfl,q⟩
 | bl c=>
  cases rx;exact PySem.W.kia_tup PySem.W.kitx_bool I.kIn True.intro h1 e (fun z=>nomatch z) fun tk=>⟨.bl _,H,I.tok _,rfl,q⟩
 | int i=>
  obtain ⟨tk,rfl⟩:=rx;exact PySem.W.kia_tup PySem.W.kitx_int I.kIn True.intro h1 e (fun z=>nomatch z) fun tk=>⟨.bl _,H,I.tok _,rfl,q⟩
 | str z=>
  obtain ⟨tk,rfl⟩:=rx;exact PySem.W.kia_tup PySem.W.kitx_str I.kIn True.intro h1 e (fun z=>nomatch z) fun tk=>⟨.bl _,H,I.tok _,rfl,q⟩
 | tup e0 _=>
  cases rx;obtain ⟨_,its2,rv2,⟨o2,g1,g2,n2,g3⟩⟩:=(show ObjOk X.prog X.w H s.heap _ (.tup _) from I.hok _ _ e0);exact PySem.W.kia_tup PySem.W.kitx_tuple I.kIn ⟨_,g1,(Fj g2).1⟩ h1 e (fun z=>nomatch z) fun tk=>⟨.bl _,H,I.tok _,rfl,q⟩
 | @lst a ys _ _ e0 _=>
  cases rx;obtain ⟨its2,r2,pl,_⟩:=I.list (SqL.of e0:SqL X.K H a ys);exact PySem.W.kia_tup PySem.W.kitx_list I.kIn pl.isList.typeIs h1 e (fun z=>nomatch z) fun tk=>⟨.bl _,H,I.tok _,rfl,q⟩
 | @dct a _ e0=>
  cases rx;obtain ⟨_,_,vs,_,o,es,ep,ho,hx,hd,_⟩:=(show ObjOk X.prog X.w H s.heap a (.dK []) from I.hok a _ e0);exact PySem.W.kia_tup PySem.W.kitx_dict I.kIn ⟨o,ho,hx.1⟩ h1 e (fun z=>nomatch z) fun tk=>⟨.bl _,H,I.tok _,rfl,q⟩
end
end L2
namespace L3
open PySem L2
inductive Bu (Cp:Addr) (H:Hp) (v:V) (xs:List V) (z:V):Prop
 | mk (a dx t:Addr):v=.ref a->H a=some (.ins Cp dx (ww t z))->H t=some (.tup xs)->Bu Cp H v xs z
inductive PoA (D:Fm) (H:Hp) (Cp:Addr) (u z:V) (t tb:Th) (Q:VK) (Rf:V->Prop):Prop
 | no:t.isSeq=false->Rf u->PoA D H Cp u z t tb Q Rf
 | row (p a:Addr) (xs:List V) (ts:List Th) (i:Nat) (x:V) (ti:Th):u=.ref a->(H a=some (.lst xs)/\t=.lst ts\/H a=some (.tup xs)/\t=.tup ts)->TgA p H xs ts->xs[i]?=some x->ts[i]?=some ti->i<=40->(∀ (j:Nat) (tj:Th),j < i->ts[j]?=some tj->rowT D ts.length tj=true)->(i=40\/rowT D ts.length ti=false)->Rf x->PoA D H Cp u z t tb Q Rf
 | all (p a:Addr) (xs:List V) (ts:List Th):u=.ref a->(H a=some (.lst xs)/\t=.lst ts\/H a=some (.tup xs)/\t=.tup ts)->TgA p H xs ts->ts.length<=40->(∀ tj∈ts,rowT D ts.length tj=true)->(tb≠.non->wn 0 (ts.length:Nat) tb=false->Rf z)->(tb=.non\/wn 0 (ts.length:Nat) tb=true->∀ v' H',Same H H'->Bu Cp H' v' xs z->Q v' H')->PoA D H Cp u z t tb Q Rf
theorem PoA.map {D:Fm} {H H0:Hp} {Cp:Addr} {u z:V} {t tb:Th} {Q Q':VK} {Rf Rf':V->Prop} (s:Same H H0) (hq:∀ v H',Same H0 H'->Q v H'->Q' v H') (hr:∀ x,Rf x->Rf' x) (h:PoA D H Cp u z t tb Q Rf):PoA D H0 Cp u z t tb Q' Rf':=by
 cases h with
 | no a b=>exact .no a (hr _ b)
 | row p a xs ts i x ti e hh ta hx ht h40 hok hbad rf=>exact .row p a xs ts i x ti e (hh.imp (fun h=>⟨s _ _ h.1,h.2⟩) (fun h=>⟨s _ _ h.1,h.2⟩)) (ta.same s) hx ht h40 hok hbad (hr _ rf)
 | all p a xs ts e hh ta h40 hok rf q=>exact .all p a xs ts e (hh.imp (fun h=>⟨s _ _ h.1,h.2⟩) (fun h=>⟨s _ _ h.1,h.2⟩)) (ta.same s) h40 hok (fun a b=>hr _ (rf a b)) (fun hb v' H' s' pv=>hq _ _ s' (q hb v' H' (s.trans s') pv))
def jC (C Cp cK:Addr):Sp:=fun vs H Q E=>∃ (v u z:V) (D:Fm) (p:Addr) (t tb:Th),vs=[v,u,z]/\TabV C H v D/\ip D/\D.width<=24/\TgV p H u t/\TgV p H z tb/\PoA D H Cp u z t tb Q (fun x=>Refuse cK x H E)
def uF (Cp:Addr):Sp:=fun vs H Q _=>∃ (x dx l:Addr) (us:List V) (vb:V),vs=[.ref x,.ref l,vb]/\H x=some (.ins Cp dx [])/\(H l=some (.lst us)\/H l=some (.tup us))/\∀ t H',H' x=some (.ins Cp dx (ww t vb))->H' t=some (.tup us)->ButO x H H'->Q .non H'
end L3
namespace L2
open PySem PySem.Spec PyProof.Rows
section
variable {X:Cx}
def uG (K:ZF) (ta:TA):TI:=fun σ H R=>xB K ta σ H R\/sJ K ta σ H R
theorem uH {elts:List Expr} {kt:Nat} {tp:Pos} {a:Expr} {ta:TA} {p pos:Pos} (hg:Gl X "enumerate") (hm:X.mg "enumerate"=none) (ha:PA X [a] ta) (hs:starEach [a] X.env=[(false,eval a X.env)]:=by rfl):PI X (.Tuple elts kt tp) (.Call (.Name "enumerate" p) [a] [] pos) (uG X.K ta):=
 ⟨fun pins s σ H R I h=>h.elim ((pJ hg hm ha hs).run pins s σ H R I) ((gP hg hm ha hs).run pins s σ H R I)⟩
end
theorem xN {K:ZF} {l:Addr} {xs:List V} {g:TG} {tb:TS} {D:Ends} {σ:St} {H:Hp} {ta:TA} (hta:∀ Q:List V->Hp->Prop,Q [.ref l] H->ta σ H Q) (Pv:Nat->St->Hp->Prop) (h0:Pv 0 σ H) (hl:(∀ i σ H,i<=xs.length->Pv i σ H->SqL K H l xs)\/(∀ i σ H,i<=xs.length->Pv i σ H->SqT K H l xs))
  (hs:∀ i x σ H T,xs[i]?=some x->H T=none->Pv i σ H->g (.ref T) σ (aq H T (.tup [.int i,x])) fun σ2 H2=>tb { D with nx:=Pv (i+1),ct:=Pv (i+1),bk:=D.nx } σ2 H2) (hd:∀ σ H,Pv xs.length σ H->D.nx σ H) :
  uG K ta σ H fun it H=>∃ W:Nat->Nat->St->Hp->Prop,(∃ m,W 0 m σ H)/\∀ i m σ H,W i m σ H->
   (it.stop i H/\D.nx σ H)\/(it.go i H/\∃ N:St->Hp->Prop,(∀ σ' H',N σ' H'->∃ m',m' < m/\W (i+1) m' σ' H')/\∀ x H',it.yld i H x H'->g x σ H' fun σ2 H2=>tb { D with nx:=N,ct:=N,bk:=D.nx } σ2 H2):=by
 rcases hl with hl|hl
 ·exact .inl (hta _ ⟨l,rfl,⟨xs,hl 0 σ H (Ej _) h0⟩,sG Pv h0 hl hs hd⟩)
 ·exact .inr (hta _ ⟨l,rfl,⟨xs,hl 0 σ H (Ej _) h0⟩,fN Pv h0 hl hs hd⟩)
end L2
namespace L3
open PySem L2
section
variable {P:Program} {w:World} {K:ZF} {mg:Str->Option Value} {base:Heap} {C Cp:Addr} {R fR cK fK:Addr} {tm:Tok}
variable {fd:FuncData} {f:Addr}
theorem zj (F:Fun K "__init__" "Program.__init__" oS f fd) (T:Pc K Cp) (B:Bl mg):FnOk P w K mg base bY 1 f fd ["self","rows","bell"] (uF Cp):=by
 have ZZ:=wx
 walk_at "o"
 ·obtain ⟨x,dx,l,us,vb,rfl,hx,hl,q⟩:=h;refine ⟨_,ag (cO (pv 0) (aR bn (by rfl) B.tuple bo (ac (pv 1) ad)) rfl) (ai (cO (pv 0) (pv 2) rfl)),?_⟩;have fin:∀ (t:Addr) (H1:Hp),Same H H1->H1 x=some (.ins Cp dx [])->H1 t=some (.tup us)->t≠x->Q .non (aq (aq H1 x (.ins Cp dx [("rows",.ref t)])) x (.ins Cp dx [("rows",.ref t),("bell",vb)])):=fun t H1 s1 x1 e1 tx=>
   q t _ ae (by rw [ao tx,ao tx];exact e1) fun b o hb hn=>by rw [ao hn,ao hn];exact s1 _ _ hb
  rcases hl with hl|hl
  ·refine ⟨_,rfl,l,us,rfl,.inl ⟨SqL.of hl,fun t nt=>?_⟩⟩;have s1:=af (o:=.tup us) nt;have e1:(aq H t (.tup us)) t=some (.tup us):=ae;have x1:=s1 _ _ hx;have tx:t≠x:=by
    rintro rfl;rw [nt] at hx;cases hx
   generalize aq H t (.tup us)=H1 at *;refine ⟨_,rfl,x,Cp,dx,_,rfl,x1,T.cl,T.n1,(by show 0 < 1000;decide),?_⟩;exact ⟨_,rfl,_,rfl,x,Cp,dx,_,rfl,ae,T.cl,T.n2,(by show 1 < 1000;decide),fin t H1 s1 x1 e1 tx⟩
  ·refine ⟨_,rfl,l,us,rfl,.inr ⟨SqT.of hl,?_⟩⟩;have tx:l≠x:=by
    rintro rfl;rw [hx] at hl;cases hl
   refine ⟨_,rfl,x,Cp,dx,_,rfl,hx,T.cl,T.n1,(by show 0 < 1000;decide),?_⟩;exact ⟨_,rfl,_,rfl,x,Cp,dx,_,rfl,ae,T.cl,T.n2,(by show 1 < 1000;decide),fin l H (Same.refl _) hx hl tx⟩
theorem scPOX:aw ["table","rows","bell","at","row"] ["table","rows","bell"] (aj dn):=cI zk
theorem wQ (t:Th):PySem.W.kitAny K (.type (tyN t)) ([("list":String),"tuple"].map Value.type)=some t.isSeq:=by cases t<;>rfl
theorem zm {f fi:Addr} {fd fdi fdK:FuncData} (F:FunD K "program_of" "program_of" dn f fd) (B:Bl mg) (B3:zV mg) (Z:Zr mg tm) (TX:Xs K mg R fR cK fK) (FK:FnOk P w K mg base bY 2 fK fdK ["self","row"] (spNK cK)) (BK:Binds K fdK ["self","row"] []) (MK:Mk K Cp fi) (mgP:mg "Program"=some (.ref Cp)) (IN:FnOk P w K mg base bY 1 fi fdi ["self","rows","bell"] (uF Cp)) (bI:Binds K fdi ["self","rows","bell"] [])
  (IR:Fn P w K mg base "is_row" 5 ["table","thing","rows"] (spIsRowT C)) (WI:Fn P w K mg base "is_within" 2 ["thing","low","high"] spWithinT):FnOk P w K mg base (uy P w) 6 f fd ["table","rows","bell"] (jC C Cp cK):=by
 refine F.okX scPOX (fun vs H Q E h=>?_) (fun cdv A outer s H vs Q E hr h=>?_)
 ·obtain ⟨v,u,z,D,p,t,tb,rfl,_⟩:=h;rfl
 ·obtain ⟨v,u,z,D,p,t,tb,rfl,hT,hD,hw,tu,tz,ans⟩:=h;refine ⟨_,ag (bi (cL (cX (av uE (by rfl) B.isinstance cw (ac (pv 1) (ac (aN (ac (pe_ty (by rfl) B.list eP) (ac (pe_ty (by rfl) B.tuple bo) ad))) ad))))) (ai (jA (jx TX.k TX.mkx FK hr.m rfl TX.mK BK dL zd (ac (pv 1) ad)) gX rfl)) aL)
   (ag (cY (CJ (ES:=fun _=>E) rfl) rfl (uH rfl B3.enumerate (ac (pv 1) ad)) (cM rfl (aJ (aC (i:=3) scPOX.nd rfl (Or.inl rfl)) (aJ (aC (i:=4) scPOX.nd rfl (Or.inl rfl)) cb)))
    (ai (bi (PW.pt (dX (ar cB (pv 3) (bJ (v:=.int 40) rfl Z.mr ⟨_,rfl⟩)) (di (cL (cX (aB IR hr rfl (ac (pv 0) (ac (pv 4) (ac (av ay (by rfl) B.len D3 (ac (pv 1) ad)) ad))))))))) (ai (jA (jx TX.k TX.mkx FK hr.m rfl TX.mK BK dL zd (ac (pv 4) ad)) gX rfl)) aL)))
   (ag (bi (PW.pt (dj (ar ph (pv 2) cu) (cV (cL (cX (aB WI hr.m rfl (ac (pv 2) (ac ah (ac (av ay (by rfl) B.len D3 (ac (pv 1) ad)) ad))))))))) (ai (jA (jx TX.k TX.mkx FK hr.m rfl TX.mK BK dL zd (ac (pv 2) ad)) gX rfl)) aL)
   (ai (aA (kB MK IN hr.m rfl mgP bI .nil dL (ac (pv 1) (ac (pv 2) ad))))))),?_⟩
  refine ⟨_,rfl,zlx,fun tp ntp=>?_⟩;have s1:=af (o:=.tup [.ty "list",.ty "tuple"]) ntp;have e1:(aq H tp (.tup [.ty "list",.ty "tuple"])) tp=some (.tup [.ty "list",.ty "tuple"]):=ae;generalize aq H tp (.tup [V.ty "list",.ty "tuple"])=H1 at *;refine ⟨p,u,t,tp,["list","tuple"],t.isSeq,rfl,tu.same s1,e1,wQ t,_,rfl,?_⟩;cases ans with
  | no hs rf=>
   rw [hs];exact gM (raise_row (D:={ nx:=fun _ _=>True,rt:=fun _ _=>True }) TX s1 rf fun Q' h=>⟨_,rfl,h⟩)
  | row p' a xs ts i x ti eu hh ta hx hti h40 hok hbad rf=>
   subst eu;have hq:t.isSeq=true:=by rcases hh with ⟨_,rfl⟩|⟨_,rfl⟩<;>rfl
   rw [hq];refine bP ?_;have lx:=ta.length;have sq:∀ H',Same H H'->(SqL K H' a xs\/SqT K H' a xs):=fun H' s'=>hh.elim (fun h=>.inl (SqL.of (s' _ _ h.1))) (fun h=>.inr (SqT.of (s' _ _ h.1)));refine xN (K:=K) (l:=a) (xs:=xs) (fun Q' h=>⟨_,rfl,h⟩) (fun j σ H'=>∃ v3 v4:Option V,σ=[some v,some (.ref a),some z,v3,v4]/\Same H H'/\j<=i) ⟨_,_,rfl,s1,Ej _⟩ (hh.elim (fun h=>.inl fun _ _ H' _ ⟨_,_,_,s',_⟩=>SqL.of (s' _ _ h.1)) (fun h=>.inr fun _ _ H' _ ⟨_,_,_,s',_⟩=>SqT.of (s' _ _ h.1))) ?_ ?_
   ·rintro j y σ H2 T1 hy nT ⟨v3,v4,rfl,s2,hj⟩;obtain ⟨tj,htj,tvj⟩:=ta.get hy;have s3:=af (o:=.tup [.int (j:Int),y]) nT;have e3:(aq H2 T1 (.tup [.int (j:Int),y])) T1=some (.tup [.int (j:Int),y]):=ae;generalize aq H2 T1 (.tup [V.int (j:Int),y])=H3 at *;have s23:=s2.trans s3;refine ⟨T1,_,rfl,SqT.of e3,rfl,_,_,rfl,_,_,rfl,rfl,?_⟩;refine ⟨_,rfl,rfl,_,rfl,?_⟩;by_cases e40:j=40
    ·have ej:j=i:=by omega
     subst ej;have:y=x:=by rw [hy] at hx;exact D5 hx
     subst this;exact bK (decide_eq_true (by rw [e40];rfl)) (raise_row (D:={ nx:=fun _ _=>True,rt:=fun _ _=>True }) TX s23 rf fun Q' h=>⟨_,rfl,h⟩)
    refine bQ (decide_eq_false fun e=>e40 (by have:=V.int.inj e;omega)) ?_;refine ⟨_,rfl,_,rfl,_,rfl,a,xs,rfl,sq _ s23,v,y,D,xs.length,p',tj,rfl,hT.same s23,hD,hw,tvj.same s23,fun H4 s4=>⟨_,rfl,?_⟩⟩;rw [lx];by_cases ej:j=i
    ·subst ej;have:y=x:=by rw [hy] at hx;exact D5 hx
     subst this;have e2:tj=ti:=by rw [hti] at htj;exact (D5 htj).symm
     subst e2;have hb:rowT D ts.length tj=false:=hbad.elim (fun z=>absurd z e40) id;rw [hb];exact gM (raise_row (D:={ nx:=fun _ _=>True,rt:=fun _ _=>True }) TX (s23.trans s4) rf fun Q' h=>⟨_,rfl,h⟩)
    ·rw [hok j tj zo htj];exact bP ⟨_,_,rfl,s23.trans s4,zo⟩
   ·rintro σ H2 ⟨v3,v4,rfl,s2,hj⟩;have:=(DK.mp hx).1;omega
  | all p' a xs ts eu hh ta h40 hok rf q=>
   subst eu;have hq:t.isSeq=true:=by rcases hh with ⟨_,rfl⟩|⟨_,rfl⟩<;>rfl
   rw [hq];refine bP ?_;have lx:=ta.length;have sq:∀ H',Same H H'->(SqL K H' a xs\/SqT K H' a xs):=fun H' s'=>hh.elim (fun h=>.inl (SqL.of (s' _ _ h.1))) (fun h=>.inr (SqT.of (s' _ _ h.1)));refine xN (K:=K) (l:=a) (xs:=xs) (fun Q' h=>⟨_,rfl,h⟩) (fun j σ H'=>∃ v3 v4:Option V,σ=[some v,some (.ref a),some z,v3,v4]/\Same H H') ⟨_,_,rfl,s1⟩ (hh.elim (fun h=>.inl fun _ _ H' _ ⟨_,_,_,s'⟩=>SqL.of (s' _ _ h.1)) (fun h=>.inr fun _ _ H' _ ⟨_,_,_,s'⟩=>SqT.of (s' _ _ h.1))) ?_ ?_
   ·rintro j y σ H2 T1 hy nT ⟨v3,v4,rfl,s2⟩;obtain ⟨tj,htj,tvj⟩:=ta.get hy;have hlt:=(DK.mp hy).1;have s3:=af (o:=.tup [.int (j:Int),y]) nT;have e3:(aq H2 T1 (.tup [.int (j:Int),y])) T1=some (.tup [.int (j:Int),y]):=ae;generalize aq H2 T1 (.tup [V.int (j:Int),y])=H3 at *;have s23:=s2.trans s3;refine ⟨T1,_,rfl,SqT.of e3,rfl,_,_,rfl,_,_,rfl,rfl,?_⟩;refine ⟨_,rfl,rfl,_,rfl,bQ (decide_eq_false fun e=>by have:=V.int.inj e;omega) ?_⟩;refine ⟨_,rfl,_,rfl,_,rfl,a,xs,rfl,sq _ s23,v,y,D,xs.length,p',tj,rfl,hT.same s23,hD,hw,tvj.same s23,fun H4 s4=>⟨_,rfl,?_⟩⟩;rw [lx,hok tj (D4 htj)];exact bP ⟨_,_,rfl,s23.trans s4⟩
   ·rintro σ H2 ⟨v3,v4,rfl,s2⟩;have fin:tb=.non\/wn 0 (ts.length:Nat) tb=true->∀ x dx,H2 x=none->H2 dx=none->dx≠x->uF Cp [.ref x,.ref a,z] (aq (aq H2 dx (.own x)) x (.ins Cp dx [])) (fun v H2=>v=.non/\Q (.ref x) H2) E0:=by
     intro hb x dx nx ndx ne;have sx:=aU (o:=.ins Cp dx []) nx (af (o:=.own x) ndx);refine ⟨x,dx,a,xs,_,rfl,ae,hh.elim (fun h=>.inl (sx _ _ (s2 _ _ h.1))) (fun h=>.inr (sx _ _ (s2 _ _ h.1))),fun t' H4 e4 et b4=>⟨rfl,?_⟩⟩;have s34:Same H2 H4:=du nx sx b4;exact q hb _ _ (s2.trans s34) ⟨x,dx,t',rfl,e4,et⟩
    by_cases hn:tb=.non
    ·subst hn;cases tz;exact ⟨_,rfl,rfl,_,rfl,bP ⟨_,rfl,_,rfl,fin (.inl rfl)⟩⟩
    ·have hz:z≠.non:=by
      rintro rfl;cases tz;exact hn rfl
     refine ⟨_,rfl,rfl,_,rfl,bK (by simp [hz]) ?_⟩;refine ⟨_,rfl,_,rfl,a,xs,rfl,sq _ s2,p,z,tb,0,_,rfl,tz.same s2,_,rfl,?_⟩;rw [lx];cases hw':wn 0 (ts.length:Nat) tb with
     | true=>exact bP ⟨_,rfl,_,rfl,fin (.inr hw')⟩
     | false=>exact gM (raise_row (D:={ nx:=fun _ _=>True,rt:=fun _ _=>True }) TX s2 (rf hn hw') fun Q' h=>⟨_,rfl,h⟩)
end
mutual
def qY:PyData->Bool
 | .none=>true
 | .int _=>true
 | .str _=>true
 | .tuple xs=>fb xs
 | _=>false
def fb:List PyData->Bool
 | []=>true
 | x::r=>qY x && fb r
end
mutual
theorem eqv_pl:∀ (a b:PyData),qY a=true->qY b=true->PyData.eqv a b=true->a=b
 | .none,.none,_,_,_=>rfl
 | .int i,.int j,_,_,h=>by
  have:i=j:=by simpa [PyData.eqv] using h
  rw [this]
 | .str x,.str y,_,_,h=>by
  have:x=y:=by simpa [PyData.eqv] using h
  rw [this]
 | .tuple xs,.tuple ys,ha,hb,h=>by
  have:=eqvs_pl xs ys (by simpa [qY] using ha) (by simpa [qY] using hb) (by simpa [PyData.eqv] using h);rw [this]
 | .none,.int _,_,_,h=>by simp [PyData.eqv] at h
 | .none,.str _,_,_,h=>by simp [PyData.eqv] at h
 | .none,.tuple _,_,_,h=>by simp [PyData.eqv] at h
 | .int _,.none,_,_,h=>by simp [PyData.eqv] at h
 | .int _,.str _,_,_,h=>by simp [PyData.eqv] at h
 | .int _,.tuple _,_,_,h=>by simp [PyData.eqv] at h
 | .str _,.none,_,_,h=>by simp [PyData.eqv] at h
 | .str _,.int _,_,_,h=>by simp [PyData.eqv] at h
 | .str _,.tuple _,_,_,h=>by simp [PyData.eqv] at h
 | .tuple _,.none,_,_,h=>by simp [PyData.eqv] at h
 | .tuple _,.int _,_,_,h=>by simp [PyData.eqv] at h
 | .tuple _,.str _,_,_,h=>by simp [PyData.eqv] at h
theorem eqvs_pl:∀ (a b:List PyData),fb a=true->fb b=true->PyData.eqvAll a b=true->a=b
 | [],[],_,_,_=>rfl
 | x::xs,y::ys,ha,hb,h=>by
  simp only [fb,Er] at ha hb;simp only [PyData.eqvAll,Er] at h;rw [eqv_pl x y ha.1 hb.1 h.1,eqvs_pl xs ys ha.2 hb.2 h.2]
 | [],_::_,_,_,h=>by simp [PyData.eqvAll] at h
 | _::_,[],_,_,h=>by simp [PyData.eqvAll] at h
end
mutual
theorem eqv_refl:∀ (a:PyData),qY a=true->PyData.eqv a a=true
 | .none,_=>by simp [PyData.eqv]
 | .int i,_=>by simp [PyData.eqv]
 | .str x,_=>by simp [PyData.eqv]
 | .tuple xs,h=>by
  simp only [PyData.eqv];exact eqvs_refl xs (by simpa [qY] using h)
theorem eqvs_refl:∀ (a:List PyData),fb a=true->PyData.eqvAll a a=true
 | [],_=>by simp [PyData.eqvAll]
 | x::xs,h=>by
  simp only [fb,Er] at h;simp only [PyData.eqvAll,eqv_refl x h.1,eqvs_refl xs h.2,Bool.and_self]
end
theorem okS_all {x:Str} (h:∀ c∈cp x,c < 128):pH x=true:=by
 show x.cps.all (fun c=>decide (c < 0x110000))=true;rw [Array.all_eq_true_iff_forall_mem];intro c hc;have:=h c (by simpa [cp] using hc);exact decide_eq_true zo
abbrev sShapeOf:Stmt:=cG 36
abbrev sSameShape:Stmt:=cG 35
def FsV (H:Hp) (u:V) (k:Kn):Prop:=∃ t fu,u=.ref t/\H t=some (.tup fu)/\Paired (FldV H) fu k.fs
variable {u:V} {H H':Hp}
theorem FsV.same {k:Kn} (s:Same H H') (h:FsV H u k):FsV H' u k:=let ⟨t,fu,a,b,c⟩:=h;⟨t,fu,a,s _ _ b,bR (fun _ _ h=>FldV.kt (aW s) h) c⟩
def ShV (H:Hp) (u:V) (D:Fm):Prop:=∃ a pp pm pn tf us,u=.ref a/\H a=some (.tup [.int D.width,.int D.cells,.int D.depth,.ref pp,.ref pm,gR D,.ref pn,.ref tf])/\H pp=some (.tup (ak D.places))/\H pm=some (.tup (ak D.marks))/\H pn=some (.tup (ak (D.kinds.map Kn.name)))/\H tf=some (.tup us)/\Paired (FsV H) us D.kinds
variable {D:Fm}
theorem ShV.same (s:Same H H') (h:ShV H u D):ShV H' u D:=let ⟨a,pp,pm,pn,tf,us,e,b,c,d,f,g,i⟩:=h;⟨a,pp,pm,pn,tf,us,e,s _ _ b,s _ _ c,s _ _ d,s _ _ f,s _ _ g,bR (fun _ _ h=>h.same s) i⟩
def spShO (C:Addr):Sp:=fun vs H Q _=>∃ (v:V) (D:Fm),vs=[v]/\TabV C H v D/\ip D/\∀ u H',Same H H'->ShV H' u D->Q u H'
variable {P:Program} {w:World} {K:ZF} {mg:Str->Option Value} {base:Heap} {C fi aS aE aF aO:Addr} {t1 t2 t3 t4 t5 tM:Tok}
theorem scShO:aw ["table","fields"] ["table"] (aj sShapeOf):=cI zk
theorem ndShO:(["kind","table"]:List Str).Nodup:=by decide +kernel
variable {fd:FuncData} {f:Addr}
theorem ok_shO (F:Fun K "shape_of" "shape_of" sShapeOf f fd) (T:Tc K C) (B:Bl mg) (FO:eX P w K mg base C "fields_of" 2 ["self","kind"] (tZ C)):FnOk P w K mg base bY 3 f fd ["table"] (spShO C):=by
 have ZZ:=scShO
 walk_at "o"
 ·obtain ⟨v,D,rfl,hT,hD,q⟩:=h;have sz:(100000:Nat)<=sizeLine:=by decide
  obtain ⟨a,dx,pp,pm,pn,pk,us,rfl,ho,hpp,hpm,hpn,hpk,hus⟩:=id hT;obtain ⟨f1,fd1,M1,F1,B1⟩:=FO;refine ⟨_,ag (au (i:=1) scShO.nd rfl (Or.inl rfl) (aR bn (by rfl) B.tuple bo (ac (dN (N':=["kind","table"]) (ix:=[none,some 0]) (sc0:=aj sShapeOf) (N:=["table","fields"]) rfl zk (iY (bL (pv 0) rfl)) (fun _ _ _ _ _=>aC (i:=0) ndShO rfl (Or.inl rfl) (.inr rfl)) (fun _ _ _ _ _=>c0) (fun _ _ _ _ _=>vz (pv 1) T.cl M1 F1 hr B1 .nil dL (ac (pv 0) ad))) ad)))
   (ai (aA (aN (ac (bL (pv 0) rfl) (ac (bL (pv 0) rfl) (ac (bL (pv 0) rfl) (ac (bL (pv 0) rfl) (ac (bL (pv 0) rfl) (ac (bL (pv 0) rfl) (ac (bL (pv 0) rfl) (ac (pv 1) ad))))))))))),?_⟩
  refine ⟨_,rfl,a,C,dx,_,_,rfl,ho,T.cl,T.na "kinds" zk,rfl,pn,rfl,⟨_,SqT.of hpn⟩,?_⟩;have ln:(ak (D.kinds.map Kn.name)).length=D.kinds.length:=by unfold ak;rw [DI,DI]
  have k8:=hD.k8;refine oj (K:=K) (a:=pn) (xs:=ak (D.kinds.map Kn.name)) (fun i ys H'=>Same H H'/\Paired (FsV H') ys (D.kinds.take i)) ⟨Same.refl _,.nil⟩ (fun i ys H' hi ⟨s',e'⟩=>⟨SqT.of (s' _ _ hpn),by have:=e'.length;rw [DS] at this;omega⟩) ?_ ?_
  ·rintro i x ys H2 hx ⟨s2,pr⟩;obtain ⟨k,hk,rfl⟩:∃ k,D.kinds[i]?=some k/\x=.str k.name:=by
    unfold ak at hx;rw [Ec,Ec] at hx;cases e:D.kinds[i]? with
    | none=>rw [e] at hx;cases hx
    | some k=>rw [e] at hx;exact ⟨k,rfl,(D5 hx).symm⟩
   refine ⟨⟨rfl,trivial⟩,dk ⟨_,rfl,a,dx,_,rfl,s2 _ _ ho,rfl,_,rfl,_,D,k,rfl,hT.same s2,hD,D4 hk,fun tf fu htf hfu=>?_⟩⟩;refine Nx.mk (DK.mp hx).1 ⟨s2,?_⟩;rw [Eu,hk];exact dP (y:=k) ⟨tf,fu,rfl,htf,hfu⟩ pr
  ·rintro ys H2 ⟨s2,pr⟩ l3 n3;rw [ln,Ew] at pr;generalize zz:aq H2 l3 _=H3;have ⟨s3,e3⟩:=nw n3 zz;clear zz;refine ⟨l3,ys,rfl,.inl ⟨SqL.of e3,fun t4 n4=>?_⟩⟩;generalize zz:aq H3 t4 _=H4;have ⟨s4,e4⟩:=nw n4 zz;clear zz;have s04:=s2.trans (s3.trans s4);have ho4:=s04 _ _ ho;have fl:=fun (x:Str) h=>T.na x h;refine ⟨_,rfl,a,C,dx,_,_,rfl,ho4,T.cl,fl "width" zk,rfl,_,rfl,a,C,dx,_,_,rfl,ho4,T.cl,fl "cells" zk,rfl,_,rfl,a,C,dx,_,_,rfl,ho4,T.cl,fl "depth" zk,rfl,_,rfl,a,C,dx,_,_,rfl,ho4,T.cl,fl "places" zk,rfl,_,rfl,a,C,dx,_,_,rfl,ho4,T.cl,fl "marks" zk,rfl,_,rfl,a,C,dx,_,_,rfl,ho4,T.cl,fl "gate" zk,rfl,_,rfl,a,C,dx,_,_,rfl,ho4,T.cl,fl "kinds" zk,rfl,_,rfl,zlx,fun r nr=>?_⟩;have s5:=af (o:=.tup [.int D.width,.int D.cells,.int D.depth,.ref pp,.ref pm,gR D,.ref pn,.ref t4]) nr;have s05:=s04.trans s5;exact q _ _ s05 ⟨r,pp,pm,pn,t4,ys,rfl,ae,s05 _ _ hpp,s05 _ _ hpm,s05 _ _ hpn,s5 _ _ e4,bR (fun _ _ h=>h.same ((s3.trans s4).trans s5)) pr⟩
def gateD (D:Fm):PyData:=match D.gates with
 | []=>.none
 | z::_=>.str z
def strD (l:List Str):List PyData:=l.map PyData.str
def fldD (f:Str×Str):PyData:=.tuple [.str f.1,.str f.2]
def fsD (k:Kn):PyData:=.tuple (k.fs.map fldD)
def shD (D:Fm):PyData:=.tuple [.int D.width,.int D.cells,.int D.depth,.tuple (strD D.places),.tuple (strD D.marks),gateD D,.tuple (strD (D.kinds.map Kn.name)),.tuple (D.kinds.map fsD)]
structure OkN (D:Fm):Prop where
 pl:∀ z∈D.places,pH z=true
 mr:∀ z∈D.marks,pH z=true
 gt:∀ z∈D.gates,pH z=true
 kn:∀ k∈D.kinds,pH k.name=true
 fs:∀ k∈D.kinds,∀ f∈k.fs,pH f.1=true/\pH f.2=true
theorem dt_strD:∀ l:List Str,DtAll K H (ak l) (strD l)
 | []=>.nil
 | x::r=>.cons (.str x) (dt_strD r)
theorem dt_flds:∀ {us:List V} {fs:List (Str×Str)},Paired (FldV H) us fs->DtAll K H us (fs.map fldD)
 | _,_,.nil=>.nil
 | _,_,.cons h t=>by
  obtain ⟨p,rfl,e⟩:=h;exact .cons (.tup (SqT.of e) (.cons (.str _) (.cons (.str _) .nil))) (dt_flds t)
theorem dt_kinds:∀ {us:List V} {ks:List Kn},Paired (FsV H) us ks->DtAll K H us (ks.map fsD)
 | _,_,.nil=>.nil
 | _,_,.cons h t=>by
  obtain ⟨p,fu,rfl,e,hf⟩:=h;exact .cons (.tup (SqT.of e) (dt_flds hf)) (dt_kinds t)
theorem ShV.dt (h:ShV H u D):Dt K H u (shD D):=by
 obtain ⟨a,pp,pm,pn,tf,us,rfl,ha,hpp,hpm,hpn,htf,hus⟩:=h;have hg:Dt K H (gR D) (gateD D):=by
  unfold gR gateD;cases D.gates with
  | nil=>exact .non
  | cons z _=>exact .str z
 exact .tup (SqT.of ha) (.cons (.int _) (.cons (.int _) (.cons (.int _) (.cons (.tup (SqT.of hpp) (dt_strD _)) (.cons (.tup (SqT.of hpm) (dt_strD _)) (.cons hg (.cons (.tup (SqT.of hpn) (dt_strD _)) (.cons (.tup (SqT.of htf) (dt_kinds hus)) .nil))))))))
theorem lay_strD:∀ {l:List Str},(∀ z∈l,pH z=true)->PyData.canLayAll0 (strD l)=true
 | [],_=>by simp [strD,PyData.canLayAll0]
 | x::r,h=>by
  have h1:(PyData.str x).canLay0=true:=h x DM;have h2:=lay_strD (l:=r) fun z hz=>h z (DR _ hz);show ((PyData.str x).canLay0 && PyData.canLayAll0 (strD r))=true;rw [h1,h2];rfl
theorem lay_map {α:Type} {g:α->PyData}:∀ {l:List α},(∀ z∈l,(g z).canLay0=true)->PyData.canLayAll0 (l.map g)=true
 | [],_=>by simp [PyData.canLayAll0]
 | x::r,h=>by
  have h2:=lay_map (l:=r) fun z hz=>h z (DR _ hz);show ((g x).canLay0 && PyData.canLayAll0 (r.map g))=true;rw [h x DM,h2];rfl
theorem shD_lay (h:OkN D):(shD D).canLay0=true:=by
 have a1:=lay_strD h.pl;have a2:=lay_strD h.mr;have a3:(gateD D).canLay0=true:=by
  have:=h.gt;unfold gateD;cases e:D.gates with
  | nil=>simp [PyData.canLay0]
  | cons z _=>exact this z (by rw [e];exact DM)
 have a4:=lay_strD (l:=D.kinds.map Kn.name) fun z hz=>let ⟨k,hk,e⟩:=D2.mp hz;e ▸ h.kn k hk;have a5:PyData.canLayAll0 (D.kinds.map fsD)=true:=lay_map fun k hk=>by
  show PyData.canLayAll0 (k.fs.map fldD)=true;refine lay_map fun f hf=>?_;have h1:(PyData.str f.1).canLay0=true:=(h.fs k hk f hf).1;have h2:(PyData.str f.2).canLay0=true:=(h.fs k hk f hf).2;show ((PyData.str f.1).canLay0 && ((PyData.str f.2).canLay0 && true))=true;rw [h1,h2];rfl
 show (true && (true && (true && (PyData.canLayAll0 (strD D.places) && (PyData.canLayAll0 (strD D.marks) && ((gateD D).canLay0 && (PyData.canLayAll0 (strD (D.kinds.map Kn.name)) && (PyData.canLayAll0 (D.kinds.map fsD) && true))))))))=true;rw [a1,a2,a3,a4,a5];rfl
theorem dep_map {α:Type} {g:α->PyData} {n:Nat}:∀ {l:List α},(∀ z∈l,(g z).depth<=n)->PyData.depthAll (l.map g)<=n+1
 | [],_=>by simp [PyData.depthAll]
 | x::r,h=>by
  have h1:=h x DM;have h2:=dep_map (l:=r) fun z hz=>h z (DR _ hz);simp only [D6,PyData.depthAll];omega
theorem pl_map {α:Type} {g:α->PyData}:∀ {l:List α},(∀ z∈l,qY (g z)=true)->fb (l.map g)=true
 | [],_=>rfl
 | x::r,h=>by
  show (qY (g x) && fb (r.map g))=true;rw [h x DM,pl_map fun z hz=>h z (DR _ hz)];rfl
theorem shD_pl (D:Fm):qY (shD D)=true:=by
 have a1:∀ l:List Str,fb (strD l)=true:=fun l=>pl_map fun _ _=>rfl;have a3:qY (gateD D)=true:=by unfold gateD;cases D.gates<;>rfl
 have a5:fb (D.kinds.map fsD)=true:=pl_map fun k _=>by
  show fb (k.fs.map fldD)=true;exact pl_map fun f _=>rfl
 show (true && (true && (true && (fb (strD D.places) && (fb (strD D.marks) && (qY (gateD D) && (fb (strD (D.kinds.map Kn.name)) && (fb (D.kinds.map fsD) && true))))))))=true;rw [a1,a1,a3,a1,a5];rfl
theorem shD_dep (D:Fm):(shD D).depth<=40:=by
 have a1:∀ l:List Str,PyData.depthAll (strD l)<=4:=fun l=>Ef (dep_map (n:=1) fun _ _=>by simp [PyData.depth]) zd;have a3:(gateD D).depth<=4:=by unfold gateD;cases D.gates<;>simp [PyData.depth]
 have a5:PyData.depthAll (D.kinds.map fsD)<=20:=Ef (dep_map (n:=15) fun k _=>by
  have:PyData.depthAll (k.fs.map fldD)<=11:=dep_map (n:=10) fun f _=>by simp [fldD,PyData.depth,PyData.depthAll]
  simp only [fsD,PyData.depth];omega) zd
 have b1:=a1 D.places;have b2:=a1 D.marks;have b3:=a1 (D.kinds.map Kn.name);simp only [shD,PyData.depth,PyData.depthAll];omega
def spSS (C:Addr):Sp:=fun vs H Q _=>∃ (v u:V) (D D':Fm),vs=[v,u]/\TabV C H v D/\TabV C H u D'/\ip D/\ip D'/\OkN D/\OkN D'/\∀ H',Same H H'->Q (.bl (PyData.eqv (shD D) (shD D'))) H'
theorem scSS:aw ["one","other"] ["one","other"] (aj sSameShape):=cI zk
theorem ok_ss (F:Fun K "same_shape" "same_shape" sSameShape f fd) (SH:Fn P w K mg base "shape_of" 3 ["table"] (spShO C)):FnOk P w K mg base bY 4 f fd ["one","other"] (spSS C):=by
 have ZZ:=scSS
 walk_at "o"
 ·obtain ⟨v,u,D,D',rfl,hT,hU,hD,hD',ok,ok',q⟩:=h;refine ⟨_,ai (aA (cH (op_eqD hr) (aB SH hr rfl (ac (pv 0) ad)) (aB SH hr rfl (ac (pv 1) ad)))),?_⟩;refine ⟨_,rfl,v,D,rfl,hT,hD,fun x H1 s1 sh1=>⟨_,rfl,u,D',rfl,hU.same s1,hD',fun y H2 s2 sh2=>?_⟩⟩;have:=shD_dep D;exact ⟨shD D,shD D',(sh1.same s2).dt,sh2.dt,shD_lay ok,shD_lay ok',zo,q _ (s1.trans s2)⟩
theorem ss_yes {D D':Fm} (h:shD D=shD D'):PyData.eqv (shD D) (shD D')=true:=by
 rw [h];exact eqv_refl _ (shD_pl D')
theorem ss_no {D D':Fm} (h:shD D≠shD D'):PyData.eqv (shD D) (shD D')=false:=EX.mpr fun z=>h (eqv_pl _ _ (shD_pl D) (shD_pl D') z)
end L3
namespace L2
open PySem PySem.Spec PyProof.Rows
section
variable {X:Cx}
theorem uI {K:ZF} {e:Expr} {f:Str} {ta:TE} {pos:Pos} (h:X.K=K) (he:PE X e ta) (hb:attributeBase e f X.env (eval e X.env)=eval e X.env):PE X (.Attribute e f pos) (xJ K ta f):=by
 subst h;exact wK he hb
theorem uJ {x:V} (h:dJ x=true):nB x x=true:=by
 cases x<;>first|rfl|(simp [nB];done)|cases h
theorem jD {α β:Type} {F:α->β->Prop}:∀ {xs:List α} {ys:List β},Paired F xs ys->∀ (j:Nat) (h1:j < xs.length) (h2:j < ys.length),F xs[j] ys[j]
 | _,_,.cons h t,0,_,_=>h
 | _,_,.cons h t,j+1,h1,h2=>jD t j (by simpa using h1) (by simpa using h2)
theorem wR {k:Nat} (hr:Room k X.A):dE X (compareOp .Eq) (fun x y H Q=>∃ p q xs,x=.ref p/\y=.ref q/\SqT X.K H p xs/\SqT X.K H q xs/\(∀ z∈xs,dJ z=true\/∃ a,z=.ref a)/\Q (.bl true) H):=by
 intro pins s σ H x y v u Q I rx ry h;obtain ⟨p,q,xs,rfl,rfl,h1,h2,hp,k⟩:=h;cases rx;cases ry;obtain ⟨its,rv,pl,_⟩:=I.tuple h1;obtain ⟨its2,rv2,pl2,_⟩:=I.tuple h2;have n1:=rv.length;have n2:=rv2.length;have hu:X.A.units < cLine:=by have:=hr.un;omega
 refine SeqAt.eq_tupleAt (e:=fun _=>true) pl pl2 hu (fun j j1 j2=>?_) ?_
 ·have a1:j < its.length:=by simpa using j1
  have a2:j < its2.length:=by simpa using j2
  have r1:=jD rv j zo a1;have r2:=jD rv2 j zo a2;have hm:xs[j]'zo∈xs:=ER _;generalize xs[j]'zo=z at r1 r2 hm;show SeqAt.EqAt _ _ its[j] its2[j] true;rcases hp z hm with hf|⟨a,rfl⟩
  ·have:=rZ (A:=X.A.in1) (s:=s) r1 r2 hf hf;rw [uJ hf] at this;exact this
  ·have h1:its[j]=.ref a:=by revert r1;generalize its[j]=z1;intro r1;cases r1;rfl
   have h2:its2[j]=.ref a:=by revert r2;generalize its2[j]=z2;intro r2;cases r2;rfl
   rw [h1,h2];exact SeqAt.EqAt.same _
 ·have e:∀ n:Nat,(List.range n).all (fun _=>true)=true:=fun n=>by rw [Eh];intros;rfl
  have e2:(its.toArray.size == its2.toArray.size)=true:=by simp;omega
  rw [e,e2];exact ⟨.bl true,H,I,rfl,k⟩
end
end L2
namespace L3
open PySem L2
abbrev oY:Stmt:=cG 99
def FnX (P:Program) (w:World) (K:ZF) (mg:Str->Option Value) (base:Heap) (x:Str) (k:Nat) (ps:List Str) (sp:Sp):Prop:=
 ∃ (f:Addr) (fd:FuncData),mg x=some (.ref f)/\PySem.W.keepIn K (.ref f)=true/\Binds K fd ps []/\FnOk P w K mg base (uy P w) k f fd ps sp
theorem FnX.calm {P:Program} {w:World} {K:ZF} {mg:Str->Option Value} {base:Heap} {x:Str} {k:Nat} {ps:List Str} {sp:Sp} (h:FnX P w K mg base x k ps sp):Fn P w K mg base x k ps (fun vs H Q _=>sp vs H Q E0):=
 let ⟨f,fd,a,b,c,d⟩:=h;⟨f,fd,a,b,c,d.calm⟩
def Bv (C Cp:Addr):Sp:=fun vs H Q _=>∃ (v u z:V) (D:Fm) (p:Addr) (t tb:Th),vs=[v,u,z]/\TabV C H v D/\ip D/\D.width<=24/\TgV p H u t/\TgV p H z tb/\PoA D H Cp u z t tb (fun _ H'=>∀ r H2,Same H H2->H2 r=some (.tup [.str "good",.non])->Q (.ref r) H2) (fun x=>∀ r H2,Same H H2->H2 r=some (.tup [.str "row",x])->Q (.ref r) H2)
section
variable {P:Program} {w:World} {K:ZF} {mg:Str->Option Value} {base:Heap} {C Cp:Addr} {R fR cK fK:Addr}
theorem scTd:aw ["_law_table","_law_rows","_law_bell","_law_told_here","e"] ["_law_table","_law_rows","_law_bell"] (aj oY):=cI zk
theorem zn {f:Addr} {fd:FuncData} (F:Fun K "_law_told" "_law_told" oY f fd) (TX:Xs K mg R fR cK fK) (PO:FnX P w K mg base "program_of" 6 ["table","rows","bell"] (jC C Cp cK)):FnOk P w K mg base bY 7 f fd ["_law_table","_law_rows","_law_bell"] (Bv C Cp):=by
 have ZZ:=scTd
 walk_at "o"
 ·obtain ⟨v,u,z,D,p,t,tb,rfl,hT,hD,hw,tu,tz,ans⟩:=h;obtain ⟨f1,fd1,m1,k1,b1,F1⟩:=PO;refine ⟨_,ag (au (i:=3) scTd.nd rfl (Or.inl rfl) (aN (ac am (ac cu ad))))
   (ag (zi (i:=4) rfl (fun pn ES=>ai (aI (uz F1 hr rfl m1 k1 b1 .nil gX (ac (pv 0) (ac (pv 1) (ac (pv 2) ad))))))
    (fun A pn=>ai (au (i:=3) scTd.nd rfl (Or.inl rfl) (aN (ac am (ac (uI (K:=K) rfl (pv 4) rfl) ad))))) rfl TX.mK TX.k scTd.nd rfl rfl)
   (ai (aA (pv 3)))),?_⟩
  have hc:(Value.ref cK::bmR R).contains (.ref cK)=true:=by simp [List.contains_cons]
  refine ⟨zlx,fun r0 n0=>?_⟩;have s0:=af (o:=.tup [.str "good",.non]) n0;have e0:(aq H r0 (.tup [.str "good",.non])) r0=some (.tup [.str "good",.non]):=ae;generalize aq H r0 (.tup [V.str "good",.non])=H0 at *;refine ⟨_,rfl,_,rfl,_,rfl,v,u,z,D,p,t,tb,rfl,hT.same s0,hD,hw,tu.same s0,tz.same s0,?_⟩;refine ans.map s0 (fun v' H' s' q=>⟨_,rfl,q r0 H' (s0.trans s') (s' _ _ e0)⟩) (fun x rf e d H1 s1 _ xa=>?_);refine ⟨e,cK,some d,_,"NoRow",bmR R,rfl,xa,TX.k,hc,?_⟩;refine ⟨_,rfl,e,cK,d,true,_,"NoRow",bmR R,x,rfl,xa,TX.k,TX.na,rfl,zlx,fun r nr=>?_⟩;exact ⟨_,rfl,rf r _ ((s0.trans s1).trans (af nr)) ae⟩
end
abbrev lO:Stmt:=cG 100
def Bw:Sp:=fun vs H Q _=>∃ (p q r:Addr) (w:Str) (x:V) (t:Th),vs=[.ref p,.ref q]/\H p=some (.tup [.str w,x])/\H q=some (.tup [.str w,x])/\TgV r H x t/\Q (.bl true) H
theorem TgV.fr {p:Addr} {H:Hp} {v:V} {t:Th} (h:TgV p H v t):dJ v=true\/∃ a,v=.ref a:=by
 cases h with
 | non=>exact .inl rfl
 | bl=>exact .inl rfl
 | int=>exact .inl rfl
 | str=>exact .inl rfl
 | tup=>exact .inr ⟨_,rfl⟩
 | lst=>exact .inr ⟨_,rfl⟩
 | dct=>exact .inr ⟨_,rfl⟩
variable {P:Program} {w:World} {K:ZF} {mg:Str->Option Value} {base:Heap} {C fi aS aE aF aO:Addr} {t1 t2 t3 t4 t5 tM:Tok}
theorem CO:aw ["_law_one","_law_other"] ["_law_one","_law_other"] (aj lO):=cI zk
variable {fd:FuncData} {f:Addr}
theorem zp (F:Fun K "_law_alike" "_law_alike" lO f fd) (B:Bl mg):FnOk P w K mg base bY 1 f fd ["_law_one","_law_other"] Bw:=by
 have ZZ:=CO
 walk_at "o"
 ·obtain ⟨p,q,r,w,x,t,rfl,hp,hq,tv,k⟩:=h;refine ⟨_,ai (aA (gq (cH (wR hr) (pv 0) (pv 1)) (fe (cH cB (av (dW (T:="bool")) (by rfl) B.isinstance cw (ac (aZ cZ (pv 0) ah) (ac (pe_ty (by rfl) B.bool eQ) ad))) (av (dW (T:="bool")) (by rfl) B.isinstance cw (ac (aZ cZ (pv 1) ah) (ac (pe_ty (by rfl) B.bool eQ) ad))))))),?_⟩;refine ⟨_,rfl,_,rfl,p,q,_,rfl,rfl,SqT.of hp,SqT.of hq,fun z hz=>?_,_,rfl,gM ?_⟩
  ·rcases DY.mp hz with rfl|hz
   ·exact .inl rfl
   ·rw [DZ.mp hz];exact tv.fr
  ·refine ⟨_,rfl,p,_,_,_,rfl,rfl,SqT.of hp,rfl,x,_,_,rfl,tv.ty,kit_bool t,?_⟩;refine ⟨_,rfl,q,_,_,_,rfl,rfl,SqT.of hq,rfl,x,_,_,rfl,tv.ty,kit_bool t,rfl,?_⟩;rw [decide_eq_true rfl];exact k
abbrev lP:Stmt:=cG 102
def lQ (n:Nat) (t:Addr):List V:=[.int ((n:Int)+1),.int (-1),.bl true,.bl false,.str "0",.int (10 ^ 29),.ref t]
def qa (K:ZF):Sp:=fun vs H Q _=>∃ (l:Addr) (xs:List V),vs=[.ref l]/\SqL K H l xs/\∀ r t H',Same H H'->H r=none->H t=none->H' t=some (.tup [.int 0])->H' r=some (.lst (lQ xs.length t))->Q (.ref r) H'
theorem wS:aw ["_law_rows"] ["_law_rows"] (aj lP):=cI zk
theorem qZ (F:Fun K "_law_bells" "_law_bells" lP f fd) (B:Bl mg):FnOk P w K mg base bY 1 f fd ["_law_rows"] (qa K):=by
 have ZZ:=wS
 walk_at "o"
 ·obtain ⟨l,xs,rfl,hS,q⟩:=h;refine ⟨_,ai (aA (aP (ac (aG bO (av ay (by rfl) B.len D3 (ac (pv 0) ad)) ah) (ac (eo cN ah) (ac cr (ac cr (ac am (ac (aG nO ah ah) (ac (aN (ac ah ad)) ad))))))))),?_⟩;refine ⟨_,rfl,l,xs,rfl,.inl hS,_,_,rfl,rfl,_,rfl,_,_,rfl,rfl,⟨zd,zd,zd⟩,zlx,fun t nt=>⟨zlx,fun r nr=>?_⟩⟩;have s1:=af (o:=.tup [.int 0]) nt;have s2:=af (o:=.lst (lQ xs.length t)) nr;have nr':H r=none:=by
   cases h:H r with
   | none=>rfl
   | some o=>rw [s1 _ _ h] at nr;cases nr
  exact q r t _ (s1.trans s2) nr' nt (s2 _ _ ae) ae
end L3
namespace L2
open PySem PySem.Spec PyProof.Rows
section
variable {X:Cx}
theorem lR:dE X (binaryOp .Add) (fun x y H Q=>∃ a b xs ys,x=.ref a/\y=.ref b/\H a=some (.tup xs)/\H b=some (.tup ys)/\xs.length+ys.length<=sizeLine/\∀ p H',Same H H'->H' p=some (.tup (xs++ys))->Q (.ref p) H'):=by
 intro pins s σ H x y v u Q I rx ry h;obtain ⟨a,b,xs,ys,rfl,rfl,ha,hb,hz,q⟩:=h;by_cases hx:xs=[]
 ·subst hx;cases rx;cases ry;obtain ⟨its,r1,p1,_⟩:=I.tuple (SqT.of ha);obtain ⟨its2,r2,p2,_⟩:=I.tuple (SqT.of hb);have hv:its=[]:=r1.nil_iff.mpr rfl;obtain ⟨⟨cls,dd,data,sl⟩,ho,hc,n,hd⟩:=id p1;obtain ⟨⟨cls2,dd2,data2,sl2⟩,ho2,hc2,n2,hd2⟩:=id p2;simp only at hc hd hc2 hd2;subst hc hd hc2 hd2;exact concat_meets ⟨_,ho,rfl⟩ ⟨_,ho2,rfl⟩ noFill_tuple_add seq_tuple_add PySem.F.slot_tuple_add PySem.F.entry_tuple_add (PySem.F.args_tuple_add_2 _ _)
   (tuple_addW0 a b its.toArray its2.toArray n n2 dd dd2 sl sl2 (by simp [hv])) ⟨ho,ho2,⟨.ref b,H,I,rfl,q b H (Same.refl _) hb⟩⟩
 ·refine vB pins s σ H _ _ v u Q I rx ry ⟨a,b,xs,ys,rfl,rfl,SqT.of ha,SqT.of hb,hx,hz,fun e=>?_,fun e p np=>?_⟩
  ·subst e;exact q a H (Same.refl _) (by rw [El];exact ha)
  ·exact q p _ (L3.af np) ae
end
end L2
namespace L3
open PySem L2
def dC (l:List Nat):List Th:=l.map fun (n:Nat)=>Th.int (n:Int)
variable {H:Hp} {q:Addr}
theorem gG:∀ l:List Nat,TgA q H (bH l) (dC l)
 | []=>.nil
 | x::r=>.cons (.int _) (gG r)
def cE (r:Rw):Th:=.tup [.str r.k.name,.tup (dC r.ops)]
variable {r:Rw} {u:V}
theorem RowV.tg (h:RowV H u r):TgV q H u (cE r):=by
 obtain ⟨p,t,rfl,hp,ht⟩:=h;exact .tup hp (.cons (.str _) (.cons (.tup ht (gG _)) .nil))
variable {ts:List Th} {n:Nat} {D:Fm}
theorem iU {k:Kn} (hD:ip D) (hk:k∈D.kinds):rowT D n (.tup [.str k.name,.tup ts])=rowK D n k.fs ts:=by
 show (match D.kinds.find? (fun k'=>decide (k'.name=k.name)) with|some k=>rowK D n k.fs ts|none=>false)=_;rw [find_kind hD.kn hk]
theorem qb {x:Str} (h:x∉D.kinds.map Kn.name):rowT D n (.tup [.str x,.tup ts])=false:=by
 show (match D.kinds.find? (fun k'=>decide (k'.name=x)) with|some k=>rowK D n k.fs ts|none=>false)=_;rw [find_none h]
theorem nj {fs:List (Str×Str)} (h:ts.length≠fs.length):rowK D n fs ts=false:=by
 unfold rowK;rw [decide_eq_false h];rfl
variable {t:Th} {i:Nat}
theorem wT {fs:List (Str×Str)} {f:Str×Str} (hf:fs[i]?=some f) (ht:ts[i]?=some t) (h:opT D n f.2 t=false):rowK D n fs ts=false:=by
 unfold rowK;rw [Bool.and_eq_false_iff];right;rw [List.all_eq_false];refine ⟨(f,t),D4 (i:=i) (by rw [List.getElem?_zip_eq_some];exact ⟨hf,ht⟩),?_⟩;show ¬ opT D n f.2 t=true;rw [h];exact D1
variable {m:Nat}
theorem nu (h:n<=m) (s:Str):eU D n s<=eU D m s:=by
 unfold eU;split
 ·exact DN _
 split
 ·exact DN _
 split
 ·exact DN _
 omega
theorem gH (hD:ip D) (h:gT D n r) (hm:n<=m):rowT D m (cE r)=true:=by
 obtain ⟨hk,hp⟩:=h;have hl:=hp.length;show rowT D m (.tup [.str r.k.name,.tup (dC r.ops)])=true;rw [iU hD hk];unfold rowK;rw [Er];refine ⟨decide_eq_true (by unfold dC;rw [DI];exact hl),?_⟩;revert hp;generalize r.ops=l;generalize r.k.fs=fs;intro hp;clear hl;induction hp with
 | nil=>rfl
 | cons a t ih=>
  show (opT D m _ _ && _)=true;rw [Er];refine ⟨?_,ih⟩;have:=nu (D:=D) hm;rename_i o f _ _;have:=this f.2;show (decide ((0:Int)<=(o:Int)) && decide ((o:Int)<=((eU D m f.2:Nat):Int) - 1))=true;rw [Er];exact ⟨decide_eq_true zo,decide_eq_true zo⟩
def Bd (q:Addr) (H:Hp) (D:Fm) (N:Nat) (x:V):Prop:=∃ t,TgV q H x t/\∀ n,n<=N->rowT D n t=false
variable {x:V} {N:Nat}
theorem Bd.same {H H':Hp} (s:Same H H') (h:Bd q H D N x):Bd q H' D N x:=let ⟨t,a,b⟩:=h;⟨t,a.same s,b⟩
def BdA (q:Addr) (H:Hp) (D:Fm) (N:Nat) (xs:List V):Prop:=∀ x∈xs,Bd q H D N x
theorem BdA.same {H H':Hp} {x:List V} (s:Same H H') (h:BdA q H D N x):BdA q H' D N x:=fun y hy=>(h y hy).same s
theorem BdA.nil:BdA q H D N []:=fun _ h=>absurd h Eb
variable {xs:List V}
theorem BdA.cons (a:Bd q H D N x) (h:BdA q H D N xs):BdA q H D N (x::xs):=fun y hy=>(DY.mp hy).elim (fun e=>e ▸ a) (h y)
theorem BdA.app {xs ys:List V} (a:BdA q H D N xs) (h:BdA q H D N ys):BdA q H D N (xs++ys):=fun y hy=>(D0.mp hy).elim (a y) (h y)
theorem BdA.snoc (h:BdA q H D N xs) (a:Bd q H D N x):BdA q H D N (xs++[x]):=h.app (.cons a .nil)
theorem nv {lo hi:Option Int} (h:x∈cC xs lo hi):x∈xs:=by
 unfold cC at h;exact List.mem_of_mem_drop (Ei h)
mutual
variable {zs:List V} {l:Addr}
theorem TgV.put {H H':Hp} (hl:H l=some (.lst zs)) (b:But l H H'):∀ {v:V} {t:Th},TgV q H v t->TgV l H v t->TgV q H' v t
 | _,_,.non,_=>.non
 | _,_,.bl b,_=>.bl b
 | _,_,.int i,_=>.int i
 | _,_,.str x,_=>.str x
 | _,_,.tup e t,.tup e' t'=>.tup (b _ _ e (fun z=>by rw [z,hl] at e;cases e)) (TgA.put hl b t (by rw [e] at e';cases e';exact t'))
 | _,_,.lst n e t,.lst n' e' t'=>.lst n (b _ _ e n') (TgA.put hl b t (by rw [e] at e';cases e';exact t'))
 | _,_,.dct n e,.dct n' e'=>.dct n (b _ _ e n')
theorem TgA.put {H H':Hp} (hl:H l=some (.lst zs)) (b:But l H H'):∀ {v:List V} {t:List Th},TgA q H v t->TgA l H v t->TgA q H' v t
 | _,_,.nil,_=>.nil
 | _,_,.cons a t,.cons a' t'=>.cons (TgV.put hl b a a') (TgA.put hl b t t')
end
variable {o:HO} {l:Addr}
theorem but_upd:But l H (aq H l o):=fun c x e n=>by rw [ao n];exact e
mutual
theorem TgV.fresh (hl:H l=none):∀ {v:V} {t:Th},TgV q H v t->TgV l H v t
 | _,_,.non=>.non
 | _,_,.bl b=>.bl b
 | _,_,.int i=>.int i
 | _,_,.str x=>.str x
 | _,_,.tup e t=>.tup e (TgA.fresh hl t)
 | _,_,.lst n e t=>.lst (ap e hl) e (TgA.fresh hl t)
 | _,_,.dct n e=>.dct (ap e hl) e
theorem TgA.fresh (hl:H l=none):∀ {v:List V} {t:List Th},TgA q H v t->TgA l H v t
 | _,_,.nil=>.nil
 | _,_,.cons a t=>.cons (TgV.fresh hl a) (TgA.fresh hl t)
end
variable {p:Addr}
theorem tg_tup (n:H p=none) (h:TgA q H xs ts):TgV q (aq H p (.tup xs)) (.ref p) (.tup ts):=.tup ae (h.same (af n))
theorem tg_dct (g:Strm H q) (n:H p=none):TgV q (aq H p (.dK [])) (.ref p) .dct:=.dct (g.ne n).symm ae
abbrev sLBad:Stmt:=cG 98
mutual
theorem TgV.det:∀ {v:V} {t t':Th},TgV q H v t->TgV l H v t'->t=t'
 | _,_,_,.non,.non=>rfl
 | _,_,_,.bl b,.bl _=>rfl
 | _,_,_,.int i,.int _=>rfl
 | _,_,_,.str x,.str _=>rfl
 | _,_,_,.tup e t,.tup e' t'=>by rw [e] at e';cases e';rw [TgA.det t t']
 | _,_,_,.tup e t,.lst n e' t'=>by rw [e] at e';cases e'
 | _,_,_,.tup e t,.dct n e'=>by rw [e] at e';cases e'
 | _,_,_,.lst n e t,.tup e' t'=>by rw [e] at e';cases e'
 | _,_,_,.lst n e t,.lst n' e' t'=>by rw [e] at e';cases e';rw [TgA.det t t']
 | _,_,_,.lst n e t,.dct n' e'=>by rw [e] at e';cases e'
 | _,_,_,.dct n e,.tup e' t'=>by rw [e] at e';cases e'
 | _,_,_,.dct n e,.lst n' e' t'=>by rw [e] at e';cases e'
 | _,_,_,.dct n e,.dct n' e'=>rfl
theorem TgA.det:∀ {v:List V} {t t':List Th},TgA q H v t->TgA l H v t'->t=t'
 | _,_,_,.nil,.nil=>rfl
 | _,_,_,.cons a t,.cons a' t'=>by rw [TgV.det a a',TgA.det t t']
end
theorem idx_of {l:List Kn} {k:Kn} (h:k∈l):∃ j:Nat,l[j]?=some k:=E8 h
variable {j:Nat}
theorem nm_inj {l:List Kn} (nd:(l.map Kn.name).Nodup) {a b:Kn} (ha:l[i]?=some a) (hb:l[j]?=some b) (e:a.name=b.name):i=j:=by
 obtain ⟨hi,ea⟩:=DK.mp ha;obtain ⟨hj,eb⟩:=DK.mp hb;have h1:i < (l.map Kn.name).length:=by rw [DI];exact hi
 have h2:j < (l.map Kn.name).length:=by rw [DI];exact hj
 exact (List.getElem_inj nd (h₀:=h1) (h₁:=h2)).mp (by rw [List.getElem_map,List.getElem_map,ea,eb,e])
def TgX (H0 H:Hp) (v:V) (t:Th):Prop:=∀ l,H0 l≠none->TgV l H v t
def TgXA (H0 H:Hp) (v:List V) (t:List Th):Prop:=∀ l,H0 l≠none->TgA l H v t
section
variable {H0 H H':Hp} {v:V} {t:Th} {vs us:List V} {ts rs:List Th}
theorem TgX.non:TgX H0 H .non .non:=fun _ _=>.non
theorem TgX.bl (b:Bool):TgX H0 H (.bl b) (.bl b):=fun _ _=>.bl b
theorem TgX.int (i:Int):TgX H0 H (.int i) (.int i):=fun _ _=>.int i
theorem TgX.str (x:Str):TgX H0 H (.str x) (.str x):=fun _ _=>.str x
theorem TgX.tup {a:Addr} (e:H a=some (.tup vs)) (h:TgXA H0 H vs ts):TgX H0 H (.ref a) (.tup ts):=fun l hl=>.tup e (h l hl)
theorem TgXA.nil:TgXA H0 H [] []:=fun _ _=>.nil
theorem TgXA.cons (a:TgX H0 H v t) (h:TgXA H0 H vs ts):TgXA H0 H (v::vs) (t::ts):=fun l hl=>.cons (a l hl) (h l hl)
theorem TgXA.app (a:TgXA H0 H vs ts) (h:TgXA H0 H us rs):TgXA H0 H (vs++us) (ts++rs):=fun l hl=>(a l hl).app (h l hl)
theorem TgX.same (s:Same H H') (h:TgX H0 H v t):TgX H0 H' v t:=fun l hl=>(h l hl).same s
theorem tgx_ops (l:List Nat):TgXA H0 H (bH l) (dC l):=fun _ _=>gG l
def Dm (H0 H:Hp):Prop:=∀ l,H0 l≠none->H l≠none
theorem Dm.same (s:Same H H') (h:Dm H0 H):Dm H0 H':=fun l hl z=>by
 cases e:H l with
 | none=>exact h l hl e
 | some o=>rw [s _ _ e] at z;cases z
theorem dm_of (b:But q H0 H) (g:Strm H q):Dm H0 H:=fun l hl z=>by
 by_cases e:l=q
 ·obtain ⟨_,_,_,w⟩:=g;rw [e,w] at z;cases z
 ·cases h:H0 l with
  | none=>exact hl h
  | some o=>rw [b _ _ h e] at z;cases z
theorem tgx_tup (n:H p=none) (h:TgXA H0 H vs ts):TgX H0 (aq H p (.tup vs)) (.ref p) (.tup ts):=fun l hl=>tg_tup n (h l hl)
theorem tgx_lst (d:Dm H0 H) (n:H p=none) (h:TgXA H0 H vs ts):TgX H0 (aq H p (.lst vs)) (.ref p) (.lst ts):=fun l hl=>.lst (fun z=>d l hl (z ▸ n)) ae ((h l hl).same (af n))
theorem tgx_dct (d:Dm H0 H) (n:H p=none):TgX H0 (aq H p (.dK [])) (.ref p) .dct:=fun l hl=>.dct (fun z=>d l hl (z ▸ n)) ae
inductive BdX1 (H0:Hp) (H:Hp) (D:Fm) (N:Nat) (x:V):Prop
 | mk (t:_):TgX H0 H x t->(∀ n,n<=N->rowT D n t=false)->BdX1 H0 H D N x
def BdX (H0 H:Hp) (D:Fm) (N:Nat) (xs:List V):Prop:=∀ x∈xs,BdX1 H0 H D N x
variable {D:Fm} {N:Nat} {x:V} {xs ys:List V}
theorem BdX1.same (s:Same H H') (h:BdX1 H0 H D N x):BdX1 H0 H' D N x:=let ⟨t,a,b⟩:=h;⟨t,a.same s,b⟩
theorem BdX.same (s:Same H H') (h:BdX H0 H D N xs):BdX H0 H' D N xs:=fun y hy=>(h y hy).same s
theorem BdX.nil:BdX H0 H D N []:=fun _ h=>absurd h Eb
theorem BdX.cons (a:BdX1 H0 H D N x) (h:BdX H0 H D N xs):BdX H0 H D N (x::xs):=fun y hy=>(DY.mp hy).elim (fun e=>e ▸ a) (h y)
theorem BdX.app (a:BdX H0 H D N xs) (h:BdX H0 H D N ys):BdX H0 H D N (xs++ys):=fun y hy=>(D0.mp hy).elim (a y) (h y)
theorem BdX.snoc (h:BdX H0 H D N xs) (a:BdX1 H0 H D N x):BdX H0 H D N (xs++[x]):=h.app (.cons a .nil)
theorem BdX.one (h:BdX H0 H D N xs) (hl:H0 l≠none):BdA l H D N xs:=fun y hy=>let ⟨t,a,b⟩:=h y hy;⟨t,a l hl,b⟩
theorem BdX1.fresh (n:H l=none) (hq:H0 q≠none) (h:BdX1 H0 H D N x):Bd l H D N x:=let ⟨t,a,b⟩:=h;⟨t,(a q hq).fresh n,b⟩
theorem BdX.put {zs:List V} (hl:H l=some (.lst zs)) (b:But l H H') (h:BdX H0 H D N xs) (a:BdA l H D N xs):BdX H0 H' D N xs:=fun x hx=>by
 obtain ⟨t,h,c⟩:=h x hx;obtain ⟨t',h',_⟩:=a x hx;refine ⟨t,fun q hq=>?_,c⟩;have:=(h q hq).det h';subst this;exact (h q hq).put hl b h'
theorem BdX.but (g:Strm H q) (hq:H0 q≠none) (b:But q H H') (h:BdX H0 H D N xs):BdX H0 H' D N xs:=by
 obtain ⟨_,_,_,e⟩:=id g;exact h.put e b (h.one hq)
theorem bdx_step (A:BdX H0 H D N xs) (s:Same H H') (T:TgX H0 H' x t) (h:∀ n,n<=N->rowT D n t=false):BdX H0 H' D N (xs++[x]):=(A.same s).snoc ⟨t,T,h⟩
end
theorem bd_step {H H':Hp} (A:BdA q H D N xs) (s:Same H H') (T:TgV q H' x t) (h:∀ n,n<=N->rowT D n t=false):BdA q H' D N (xs++[x]):=(A.same s).snoc ⟨t,T,h⟩
variable {zs:List V}
theorem bda_but {H H':Hp} (hl:H l=some (.lst zs)) (b:But l H H') (a:BdA q H D N xs) (a':BdA l H D N xs):BdA q H' D N xs:=fun x hx=>by
 obtain ⟨t,h,c⟩:=a x hx;obtain ⟨t',h',_⟩:=a' x hx;have:=h.det h';subst this;exact ⟨t,h.put hl b h',c⟩
theorem bda_put (hl:H l=some (.lst zs)) (a:BdA q H D N xs) (a':BdA l H D N xs):BdA q (aq H l o) D N xs:=bda_but hl but_upd a a'
inductive Wr (H0:Hp) (l:Addr) (H:Hp) (D:Fm) (N:Nat) (st:Str) (x:V):Prop
 | mk (t:_):TgX H0 H x t->TgV l H x t->(∀ n,n<=N->opT D n st t=false)->Wr H0 l H D N st x
variable {st:Str} {H0:Hp}
theorem Wr.same {H H':Hp} (s:Same H H') (h:Wr H0 l H D N st x):Wr H0 l H' D N st x:=let ⟨t,a,b,c⟩:=h;⟨t,a.same s,b.same s,c⟩
theorem Wr.put (hl:H l=some (.lst zs)) (h:Wr H0 l H D N st x):Wr H0 l (aq H l o) D N st x:=let ⟨t,a,b,c⟩:=h;⟨t,fun q hq=>(a q hq).put hl but_upd b,b.put hl but_upd b,c⟩
theorem at_mid3 {a:List Th} {b:List Th} (h:a.length=i):(a++[t]++b)[i]?=some t:=by
 rw [En,Ey zo,h,Nat.sub_self];rfl
theorem opT_no {i:Int} (hn:n<=N) (h:i < 0\/(eU D N st:Nat)<=i):opT D n st (.int i)=false:=by
 have:=nu (D:=D) hn st;show (decide ((0:Int)<=i) && decide (i<=((eU D n st:Nat):Int) - 1))=false;rw [Bool.and_eq_false_iff];rcases h with h|h
 ·exact .inl (decide_eq_false zo)
 ·exact .inr (decide_eq_false zo)
theorem strm_put (g:Strm H q) (n:q≠l):Strm (aq H l o) q:=let ⟨x,y,z,e⟩:=g;⟨x,y,z,by rw [ao n];exact e⟩
theorem but_put {H H':Hp} (b:But q H H') (n:H l=none):But q H (aq H' l o):=fun c x e h=>by rw [ao (ap e n)];exact b _ _ e h
theorem ne_tl {a b:Addr} {x y:List V} (h:H a=some (.tup x)) (h':H b=some (.lst y)):a≠b:=fun z=>by rw [z,h'] at h;cases h
inductive BP1 (q:Addr) (d:Addr) (N:Nat) (D:Fm) (H:Hp) (σ:St) (H':Hp):Prop
 | mk (r:Rw) (to:Addr):σ=[some (.ref q),some (.ref d),some (.int (N:Nat)),some (.str r.k.name),some (.ref to),none,none,none,none,none]->Strm H' q->But q H H'->H' to=some (.tup (bH r.ops))->gT D N r->BP1 q d N D H σ H'
inductive BP2 (q:Addr) (d:Addr) (N:Nat) (D:Fm) (H:Hp) (σ:St) (H':Hp):Prop
 | mk (r:Rw) (to ls:Addr):σ=[some (.ref q),some (.ref d),some (.int (N:Nat)),some (.str r.k.name),some (.ref to),some (.ref ls),none,none,none,none]->Strm H' q->But q H H'->H' to=some (.tup (bH r.ops))->H ls=some (.lst (ak (r.k.fs.map (·.2))))->ls≠q->gT D N r->BP2 q d N D H σ H'
inductive BP7 (q:Addr) (d:Addr) (N:Nat) (D:Fm) (H:Hp) (σ:St) (H':Hp):Prop
 | mk (lo:Addr) (xs:List V) (v3 v4 v5 v7 v8 v9:Option V):σ=[some (.ref q),some (.ref d),some (.int (N:Nat)),v3,v4,v5,some (.ref lo),v7,v8,v9]->Strm H' q->But q H H'->q≠lo->H' lo=some (.lst xs)->1<=xs.length->xs.length<=100->BdX H H' D N xs->BP7 q d N D H σ H'
inductive BPX (q:Addr) (d:Addr) (N:Nat) (D:Fm) (H:Hp) (n:Nat) (σ:St) (H':Hp):Prop
 | mk (r:Rw) (to ls lo:Addr) (xs:List V):σ=[some (.ref q),some (.ref d),some (.int (N:Nat)),some (.str r.k.name),some (.ref to),some (.ref ls),some (.ref lo),none,none,none]->Strm H' q->But q H H'->H' to=some (.tup (bH r.ops))->H ls=some (.lst (ak (r.k.fs.map (·.2))))->ls≠q->gT D N r->H' lo=some (.lst xs)->xs.length=n->BdX H H' D N xs->BPX q d N D H n σ H'
inductive BPY (q:Addr) (d:Addr) (N:Nat) (D:Fm) (H:Hp) (n:Nat) (σ:St) (H':Hp):Prop
 | mk (r:Rw) (to ls lo:Addr) (xs:List V):σ=[some (.ref q),some (.ref d),some (.int (N:Nat)),some (.str r.k.name),some (.ref to),some (.ref ls),some (.ref lo),none,none,none]->Strm H' q->But q H H'->H' to=some (.tup (bH r.ops))->H ls=some (.lst (ak (r.k.fs.map (·.2))))->ls≠q->gT D N r->H lo=none->q≠lo->H' lo=some (.lst xs)->xs.length=n->BdX H H' D N xs->BdA lo H' D N xs->BPY q d N D H n σ H'
inductive spBad (vs:List V) (H:Hp) (Q:VK) (Z3:XK):Prop
 | mk (q d:Addr) (Hb:Hp) (D:Fm) (fn:List Str) (kvs:List (bT×V)) (lf lp lm lk lg:Addr) (ks:List V) (N:Nat):vs=[.ref q,.ref d,.int N]->Strm H q->Same Hb H->Hb q=none->KpV Hb d D fn kvs lf lp lm lk lg ks->ShOk D fn->m5 D fn->N<=1000->(∀ u H',BdX1 H H' D N u->Strm H' q->But q H H'->Q u H')->spBad vs H Q Z3
variable {P:Program} {w:World} {K:ZF} {mg:Str->Option Value} {base:Heap} {C fi aS aE aF aO:Addr} {t1 t2 t3 t4 t5 tM:Tok}
theorem scBad:aw ["_law_stream_here","_law_table","_law_rows","_law_name","_law_operands","_law_sorts","_law_some","_law_at","_law_bound","_law_wrong"] ["_law_stream_here","_law_table","_law_rows"] (aj sLBad):=cI zk
theorem ndBad:(["_law_one","_law_name"]:List Str).Nodup:=by decide +kernel
variable {fd:FuncData} {f:Addr}
theorem ok_bad (F:Fun K "_law_bad" "_law_bad" sLBad f fd) (B:Bl mg) (TK':Fn P w K mg base "_law_take" 1 ["_law_stream_here","_law_many"] fz) (BD:Fn P w K mg base "_law_bounds" 2 ["_law_table","_law_sorts","_law_rows"] gW) (SR:Fn P w K mg base "_law_shape_row" 3 ["_law_stream_here","_law_table","_law_rows"] uu):FnOk P w K mg base bY 4 f fd ["_law_stream_here","_law_table","_law_rows"] spBad:=by
 have ZZ:=scBad
 walk_at "o"
 ·obtain ⟨q,d,Hb,D,fn,kvs,lf,lp,lm,lk,lg,ks,N,rfl,hq,sb,nq,hK,hO,hQ,hN,qq⟩:=h;have sz:(100000:Nat)<=sizeLine:=by decide
  have hu:=gi hr;refine ⟨_,aM (BP1 q d N D H) (ff (aB SR hr rfl (ac (pv 0) (ac (pv 1) (ac (pv 2) ad)))) (cM rfl (aJ (aC (i:=3) scBad.nd rfl (Or.inr rfl)) (aJ (aC (i:=4) scBad.nd rfl (Or.inl rfl)) cb)))) (aM (BP2 q d N D H) (au (i:=5) scBad.nd rfl (Or.inl rfl) (aZ aY (dN (N':=["_law_one","_law_name"]) (ix:=[none,some 3]) (sc0:=aj sLBad) (N:=["_law_stream_here","_law_table","_law_rows","_law_name","_law_operands","_law_sorts","_law_some","_law_at","_law_bound","_law_wrong"]) rfl zk (cW (aV hu (pv 1) am)) (fun _ _ _ _ _=>(aC (i:=0) ndBad rfl (Or.inl rfl) (.inr rfl))) (fun _ _ _ _ _=>(kH (ar cB (aZ (lE (K:=K) rfl) (pv 0) ah) (pv 1)))) (fun _ _ _ _ _=>(aZ (lE (K:=K) rfl) (pv 0) ah))) ah)) (aM (BPX q d N D H 10) (au (i:=6) scBad.nd rfl (Or.inl rfl) (aP (ac cu (ac ah (ac (pv 3) (ac (aP ad) (ac (aN ad) (ac (aN (ac (pv 3) ad)) (ac (aP (ac (pv 3) (ac (pv 4) ad))) (ac (aN (ac (pv 3) (ac (aR eJ (by rfl) B.list eP (ac (pv 4) ad)) ad))) (ac (aN (ac (pv 3) (ac (aG lR (pv 4) (aN (ac ah ad))) ad))) (ac cr ad)))))))))))) (aM (BPX q d N D H 16) (au (i:=6) scBad.nd rfl (Or.inl rfl) (aG cj (pv 6) (aP (ac (aN (ac am (ac (pv 4) ad))) (ac (aN (ac cu (ac (pv 4) ad))) (ac (aN (ac (pv 3) (ac (pv 4) (ac (pv 4) ad)))) (ac (aN (ac (pv 3) (ac cu ad))) (ac (aN (ac (pv 4) (ac (pv 3) ad))) (ac eD ad))))))))) (aM (BPY q d N D H 18) (au (i:=6) scBad.nd rfl (Or.inl rfl) (aG cj (pv 6) (aP (ac (aN (ac (aP ad) (ac (pv 4) ad))) (ac (aN (ac eD (ac (pv 4) ad))) ad))))) (aM (BPY q d N D H 19) (aI (bZ DV DU DT aT (pv 6) (ac (aN (ac (aG cD (pv 3) am) (ac (pv 4) ad))) ad))) (aM (BP7 q d N D H) (bi (ar (op_neD hr) (pv 5) (aP ad)) (ag (au (i:=7) scBad.nd rfl (Or.inl rfl) (aB TK' hr.m rfl (ac (pv 0) (ac (av ay (by rfl) B.len D3 (ac (pv 5) ad)) ad)))) (ag (au (i:=8) scBad.nd rfl (Or.inl rfl) (aZ aY (aB BD hr.m rfl (ac (pv 1) (ac (pv 5) (ac (pv 2) ad)))) (pv 7))) (ag (cY PassesOwn.never rfl (cW (aP (ac (eo cN ah) (ac (pv 8) (ac (aG bO (pv 8) (aG nO ah ah)) (ac cu (ac am (ac (aN (ac ah ad)) ad)))))))) (aC (i:=9) scBad.nd rfl (Or.inl rfl)) (ai (aI (bZ DV DU DT aT (pv 6) (ac (aN (ac (pv 3) (ac (aG lR (aG lR (br nU (pv 4) bM (bv (pv 7))) (aN (ac (pv 9) ad))) (br nU (pv 4) (bv (aG bO (pv 7) ah)) bM)) ad))) ad))))) (ag (aI (bZ DV DU DT aT (pv 6) (ac (aN (ac (pv 3) (ac (br nU (pv 4) bM (bv (eo cN ah))) ad))) ad))) (ai (au (i:=6) scBad.nd rfl (Or.inl rfl) (aG cj (br bV (pv 6) bM (bv ah)) (aG sd (br bV (pv 6) (bv (eo cN ah)) bM) ah)))))))) aL) (ai (aA (aZ aY (pv 6) (aB TK' hr.m rfl (ac (pv 0) (ac (av ay (by rfl) B.len D3 (ac (pv 6) ad)) ad)))))))))))),?_⟩;have kp:∀ H',But q H H'->KpV H' d D fn kvs lf lp lm lk lg ks:=fun H' b=>hK.same (ci nq sb b);have hqn:H q≠none:=by
   obtain ⟨_,_,_,e⟩:=id hq;rw [e];exact Option.some_ne_none _
  have lq:∀ a o,Hb a=some o->a≠q:=fun a o e=>ap e nq;refine ⟨?_,?_⟩;rotate_left
  ·refine ⟨_,rfl,_,rfl,_,rfl,q,d,Hb,D,fn,kvs,lf,lp,lm,lk,lg,ks,N,rfl,hq,sb,nq,hK,hO,hN,fun u r H1 hu' hR g1 b1=>?_⟩;obtain ⟨p,t,rfl,hp,ht⟩:=hu';exact ⟨p,_,rfl,SqT.of hp,rfl,_,_,rfl,_,_,rfl,rfl,r,t,rfl,g1,b1,ht,hR⟩
  rintro σ H1 ⟨r,to,rfl,g1,b1,eto,hR⟩;refine ⟨?_,?_⟩;rotate_left
  ·have K1:=kp _ b1;refine ⟨_,rfl,d,_,rfl,aX K1.dd K1.v7,lk,rfl,⟨_,SqL.of K1.ek⟩,?_⟩;obtain ⟨j0,hj0⟩:=idx_of hR.1;have lks:=hK.kd.length;have hjl:j0 < ks.length:=by have:=(DK.mp hj0).1;omega
   obtain ⟨x0,hx0,p0,l0,eu0,hp0,hl0⟩:=iD hK.kd (D9 hjl);have hu0:ks[j0]?=some (.ref p0):=by rw [D9 hjl,eu0]
   have ex0:x0=r.k:=by rw [hj0] at hx0;exact (D5 hx0).symm
   rw [ex0] at hp0 hl0;have s01:=ci nq sb b1;have k8:=hO.fm.k8;refine fL (K:=K) (a:=lk) (xs:=ks) (fun i ys H'=>H'=H1/\(i<=j0/\ys=[]\/j0 < i/\ys=[.ref l0])) ⟨rfl,.inl ⟨Ej _,rfl⟩⟩ (fun i ys H' hi ⟨e,h⟩=>by
    subst e;refine ⟨SqL.of K1.ek,?_⟩;rcases h with ⟨_,rfl⟩|⟨_,rfl⟩
    ·exact Ej _
    ·show 1<=sizeLine;omega) ?_ ?_
   ·rintro i y ys H2 hy ⟨rfl,h⟩;obtain ⟨x,hx,pt,l,rfl,hpt,hl⟩:=iD K1.kd hy;have hlt:=(DK.mp hy).1;refine ⟨⟨rfl,trivial⟩,_,rfl,pt,_,_,_,rfl,rfl,SqT.of hpt,lD,_,rfl,rfl,_,rfl,?_⟩;by_cases e:x.name=r.k.name
    ·have:i=j0:=nm_inj hO.fm.kn hx hj0 e;subst this;rw [hu0] at hy;have ep:p0=pt:=V.ref.inj (D5 hy);subst ep;have el:l=l0:=by
      have:=s01 _ _ hp0;rw [hpt] at this;simp at this;exact this.2
     subst el;refine bK (decide_eq_true (by rw [e])) ⟨_,rfl,p0,_,_,_,rfl,rfl,SqT.of hpt,mY,Nx.mk hlt ⟨rfl,.inr ⟨E2 _,?_⟩⟩⟩;rcases h with ⟨_,rfl⟩|⟨h,_⟩
     ·rfl
     ·omega
    ·refine bQ (decide_eq_false fun z=>e (V.str.inj z)) (Nx.mk hlt ⟨rfl,?_⟩);rcases h with ⟨h,rfl⟩|⟨h,rfl⟩
     ·refine .inl ⟨?_,rfl⟩;have:i≠j0:=by
       rintro rfl;rw [hj0] at hx;exact e (by rw [D5 hx])
      omega
     ·exact .inr ⟨zo,rfl⟩
   ·rintro ys H2 ⟨rfl,h⟩ l3 n3;have s3:=af (o:=.lst ys) n3;have e3:(aq H2 l3 (.lst ys)) l3=some (.lst ys):=ae;have ey:ys=[.ref l0]:=h.elim (fun h=>by omega) (·.2);subst ey;generalize aq H2 l3 (.lst [V.ref l0])=H3 at *;exact ⟨l3,_,_,_,rfl,rfl,SqL.of e3,lD,r,to,l0,rfl,g1.same s3,b1.same s3,s3 _ _ eto,sb _ _ hl0,lq _ _ hl0,hR⟩
  rintro σ H2 ⟨r,to,ls,rfl,g2,b2,eto,els,lsq,hR⟩;refine ⟨?_,?_⟩;rotate_left
  ·have hl:=hR.2.length;have d2:=dm_of b2 g2;have T2:TgX H H2 (.ref to) (.tup (dC r.ops)):=.tup eto (tgx_ops _);have A2:BdX H H2 D N [.non,.int 5,.str r.k.name]:=.cons ⟨_,.non,fun _ _=>rfl⟩ (.cons ⟨_,.int _,fun _ _=>rfl⟩ (.cons ⟨_,.str _,fun _ _=>rfl⟩ .nil));refine ⟨_,rfl,zlx,fun a3 n3=>?_⟩;have s3:=af (o:=.lst []) n3;have A3:=bdx_step A2 s3 (tgx_lst d2 n3 .nil) (fun _ _=>rfl);have T3:=T2.same s3;have d3:=d2.same s3;generalize aq H2 a3 (.lst [])=H3 at *;refine ⟨zlx,fun a4 n4=>?_⟩;have s4:=af (o:=.tup []) n4;have A4:=bdx_step A3 s4 (tgx_tup n4 .nil) (fun _ _=>rfl);have T4:=T3.same s4;have d4:=d3.same s4;generalize aq H3 a4 (.tup [])=H4 at *;refine ⟨_,rfl,zlx,fun a5 n5=>?_⟩;have s5:=af (o:=.tup [.str r.k.name]) n5;have A5:=bdx_step A4 s5 (tgx_tup n5 (.cons (.str _) .nil)) (fun _ _=>rfl);have T5:=T4.same s5;have d5:=d4.same s5;generalize aq H4 a5 (.tup [.str r.k.name])=H5 at *;refine ⟨_,rfl,_,rfl,zlx,fun a6 n6=>?_⟩;have s6:=af (o:=.lst [.str r.k.name,.ref to]) n6;have A6:=bdx_step A5 s6 (tgx_lst d5 n6 (.cons (.str _) (.cons T5 .nil))) (fun _ _=>rfl);have T6:=T5.same s6;have d6:=d5.same s6;have eto6:=s6 _ _ (s5 _ _ (s4 _ _ (s3 _ _ eto)));generalize aq H5 a6 (.lst [.str r.k.name,.ref to])=H6 at *;refine ⟨_,rfl,_,rfl,to,_,rfl,.inr (SqT.of eto6),fun a7 n7=>?_⟩;have s7:=af (o:=.lst (bH r.ops)) n7;have L7:=tgx_lst d6 n7 (tgx_ops r.ops);have T7:=T6.same s7;have d7:=d6.same s7;have eto7:=s7 _ _ eto6;generalize aq H6 a7 (.lst (bH r.ops))=H7 at *;refine ⟨zlx,fun a8 n8=>?_⟩;have s8:=af (o:=.tup [.str r.k.name,.ref a7]) n8;have A8:=bdx_step A6 (s7.trans s8) (tgx_tup n8 (.cons (.str _) (.cons L7 .nil))) (fun _ _=>rfl);have T8:=T7.same s8;have d8:=d7.same s8;have eto8:=s8 _ _ eto7;generalize aq H7 a8 (.tup [.str r.k.name,.ref a7])=H8 at *;refine ⟨_,rfl,_,rfl,zlx,fun a9 n9=>?_⟩;have s9:=af (o:=.tup [.int 0]) n9;have e9:(aq H8 a9 (.tup [.int 0])) a9=some (.tup [.int 0]):=ae;have eto9:=s9 _ _ eto8;generalize aq H8 a9 (.tup [V.int 0])=H9 at *;have l9:(bH r.ops).length<=3:=by
    have:=(hO.fm.kf r.k hR.1).2;unfold bH;rw [DI];omega
   refine ⟨to,a9,_,_,rfl,rfl,eto9,e9,(by show (bH r.ops).length+1<=sizeLine;omega),fun aa Ha sa ea=>⟨zlx,fun ab nb=>?_⟩⟩;have sb':=af (o:=.tup [.str r.k.name,.ref aa]) nb;have La:TgX H Ha (.ref aa) (.tup (dC r.ops++[.int 0])):=.tup ea ((tgx_ops _).app (.cons (.int _) .nil));have Ab:=bdx_step A8 ((s9.trans sa).trans sb') (tgx_tup nb (.cons (.str _) (.cons La .nil))) (fun n _=>by
    rw [iU hO.fm hR.1];exact nj (by unfold dC;rw [DL,DI];simp;omega))
   have s2b:Same H2 (aq Ha ab (.tup [.str r.k.name,.ref aa])):=s3.trans (s4.trans (s5.trans (s6.trans (s7.trans (s8.trans (s9.trans (sa.trans sb')))))));generalize aq Ha ab (.tup [.str r.k.name,.ref aa])=Hb1 at *;have Ac:=Ab.snoc (x:=.bl true) ⟨_,.bl _,fun _ _=>rfl⟩;refine ⟨zlx,fun lo nlo=>?_⟩;have sc:=af (o:=.lst [.non,.int 5,.str r.k.name,.ref a3,.ref a4,.ref a5,.ref a6,.ref a8,.ref ab,.bl true]) nlo;have s2c:=s2b.trans sc;exact ⟨r,to,ls,lo,_,rfl,g2.same s2c,b2.same s2c,s2c _ _ eto,els,lsq,hR,ae,rfl,Ac.same sc⟩
  clear eto els lsq hR g2 b2 to ls r;rintro σ H2 ⟨r,to,ls,lo,xs,rfl,g2,b2,eto,els,lsq,hR,elo,len,A⟩;refine ⟨?_,?_⟩;rotate_left
  ·have d2:=dm_of b2 g2;have T2:TgX H H2 (.ref to) (.tup (dC r.ops)):=.tup eto (tgx_ops _);have A2:BdX H H2 D N []:=.nil;refine ⟨_,rfl,_,rfl,zlx,fun a3 n3=>?_⟩;have s3:=af (o:=.tup [.str "kind",.ref to]) n3;have A3:=bdx_step A2 s3 (tgx_tup n3 (.cons (.str _) (.cons T2 .nil))) (fun n _=>qb fun hm=>by
    obtain ⟨x,hx,e⟩:=D2.mp hm;exact (hO.nm.kn x hx).1 (by rw [e];decide +kernel))
   have T3:=T2.same s3;have d3:=d2.same s3;generalize aq H2 a3 (.tup [.str "kind",.ref to])=H3 at *;refine ⟨_,rfl,zlx,fun a4 n4=>?_⟩;have s4:=af (o:=.tup [.non,.ref to]) n4;have A4:=bdx_step A3 s4 (tgx_tup n4 (.cons .non (.cons T3 .nil))) (fun _ _=>rfl);have T4:=T3.same s4;have d4:=d3.same s4;generalize aq H3 a4 (.tup [.non,.ref to])=H4 at *;refine ⟨_,rfl,_,rfl,_,rfl,zlx,fun a5 n5=>?_⟩;have s5:=af (o:=.tup [.str r.k.name,.ref to,.ref to]) n5;have A5:=bdx_step A4 s5 (tgx_tup n5 (.cons (.str _) (.cons T4 (.cons T4 .nil)))) (fun _ _=>rfl);have T5:=T4.same s5;have d5:=d4.same s5;generalize aq H4 a5 (.tup [.str r.k.name,.ref to,.ref to])=H5 at *;refine ⟨_,rfl,zlx,fun a6 n6=>?_⟩;have s6:=af (o:=.tup [.str r.k.name,.non]) n6;have A6:=bdx_step A5 s6 (tgx_tup n6 (.cons (.str _) (.cons .non .nil))) (fun _ _=>rfl);have T6:=T5.same s6;have d6:=d5.same s6;generalize aq H5 a6 (.tup [.str r.k.name,.non])=H6 at *;refine ⟨_,rfl,_,rfl,zlx,fun a7 n7=>?_⟩;have s7:=af (o:=.tup [.ref to,.str r.k.name]) n7;have A7:=bdx_step A6 s7 (tgx_tup n7 (.cons T6 (.cons (.str _) .nil))) (fun _ _=>rfl);have T7:=T6.same s7;have d7:=d6.same s7;generalize aq H6 a7 (.tup [.ref to,.str r.k.name])=H7 at *;refine fun a8 n8=>?_;have s8:=af (o:=.dK []) n8;have A8:=bdx_step A7 s8 (tgx_dct d7 n8) (fun _ _=>rfl);have d8:=d7.same s8;generalize aq H7 a8 (.dK [])=H8 at *;refine ⟨zlx,fun l9 n9=>?_⟩;have s9:=af (o:=.lst [.ref a3,.ref a4,.ref a5,.ref a6,.ref a7,.ref a8]) n9;have e9:(aq H8 l9 (.lst [.ref a3,.ref a4,.ref a5,.ref a6,.ref a7,.ref a8])) l9=some (.lst [.ref a3,.ref a4,.ref a5,.ref a6,.ref a7,.ref a8]):=ae;have A9:BdX H _ D N [.ref a3,.ref a4,.ref a5,.ref a6,.ref a7,.ref a8]:=A8.same s9;generalize aq H8 l9 (.lst [V.ref a3,.ref a4,.ref a5,.ref a6,.ref a7,.ref a8])=H9 at *;have s29:Same H2 H9:=s3.trans (s4.trans (s5.trans (s6.trans (s7.trans (s8.trans s9)))));refine ⟨lo,l9,_,_,rfl,rfl,s29 _ _ elo,e9,(by rw [len];show 10+6<=sizeLine;decide),fun lp np=>?_⟩;have sa:=af (o:=.lst (xs++[.ref a3,.ref a4,.ref a5,.ref a6,.ref a7,.ref a8])) np;have s2a:=s29.trans sa;exact ⟨r,to,ls,lp,_,rfl,g2.same s2a,b2.same s2a,s2a _ _ eto,els,lsq,hR,ae,by rw [DL,len];rfl,((A.same s29).app A9).same sa⟩
  clear eto els lsq hR g2 b2 to ls r len A elo xs lo;rintro σ H2 ⟨r,to,ls,lo,xs,rfl,g2,b2,eto,els,lsq,hR,elo,len,A⟩;refine ⟨?_,?_⟩;rotate_left
  ·have d2:=dm_of b2 g2;have T2:TgX H H2 (.ref to) (.tup (dC r.ops)):=.tup eto (tgx_ops _);have A2:BdX H H2 D N []:=.nil;refine ⟨_,rfl,zlx,fun a3 n3=>?_⟩;have s3:=af (o:=.lst []) n3;have L3:=tgx_lst d2 n3 (.nil);have T3:=T2.same s3;have d3:=d2.same s3;generalize aq H2 a3 (.lst [])=H3 at *;refine ⟨_,rfl,zlx,fun a4 n4=>?_⟩;have s4:=af (o:=.tup [.ref a3,.ref to]) n4;have A4:=bdx_step A2 (s3.trans s4) (tgx_tup n4 (.cons L3 (.cons T3 .nil))) (fun _ _=>rfl);have T4:=T3.same s4;have d4:=d3.same s4;generalize aq H3 a4 (.tup [.ref a3,.ref to])=H4 at *;refine fun a5 n5=>?_;have s5:=af (o:=.dK []) n5;have L5:=tgx_dct d4 n5;have T5:=T4.same s5;generalize aq H4 a5 (.dK [])=H5 at *;refine ⟨_,rfl,zlx,fun a6 n6=>?_⟩;have s6:=af (o:=.tup [.ref a5,.ref to]) n6;have A6:=bdx_step A4 (s5.trans s6) (tgx_tup n6 (.cons L5 (.cons T5 .nil))) (fun _ _=>rfl);generalize aq H5 a6 (.tup [.ref a5,.ref to])=H6 at *;refine ⟨zlx,fun l9 n9=>?_⟩;have s9:=af (o:=.lst [.ref a4,.ref a6]) n9;have e9:(aq H6 l9 (.lst [.ref a4,.ref a6])) l9=some (.lst [.ref a4,.ref a6]):=ae;have A9:BdX H _ D N [.ref a4,.ref a6]:=A6.same s9;generalize aq H6 l9 (.lst [V.ref a4,.ref a6])=H9 at *;have s29:Same H2 H9:=s3.trans (s4.trans (s5.trans (s6.trans s9)));refine ⟨lo,l9,_,_,rfl,rfl,s29 _ _ elo,e9,(by rw [len];show 16+2<=sizeLine;decide),fun lp np=>?_⟩;have sa:=af (o:=.lst (xs++[.ref a4,.ref a6])) np;have s2a:=s29.trans sa;have AA:=(A.same s29).app A9;have g9:=g2.same s29;have bd:∀ x∈xs++[.ref a4,.ref a6],Bd lp H9 D N x:=fun x hx=>(AA x hx).fresh np hqn;exact ⟨r,to,ls,lp,_,rfl,g2.same s2a,b2.same s2a,s2a _ _ eto,els,lsq,hR,jr (b2.same s29) g9 np,g9.ne np,ae,by rw [DL,len];rfl,AA.same sa,fun x hx=>(bd x hx).same sa⟩
  clear eto els lsq hR g2 b2 to ls r len A elo xs lo;rintro σ H2 ⟨r,to,ls,lo,xs,rfl,g2,b2,eto,els,lsq,hR,nlo,qlo,elo,len,A,A'⟩;refine ⟨?_,?_⟩;rotate_left
  ·have d2:=dm_of b2 g2;have T2:TgX H H2 (.ref to) (.tup (dC r.ops)):=.tup eto (tgx_ops _);have n8:=(hO.nm.kn _ hR.1).len;have es:r.k.name++("q":Str)=S (cp r.k.name++[113]):=by
    rw [<-gj,fZ];rfl
   refine ⟨_,rfl,.inl ⟨rfl,_,SqL.of elo⟩,_,rfl,_,_,rfl,rfl,?_,_,rfl,zlx,fun a3 n3=>?_⟩
   ·have e:r.k.name.length=(cp r.k.name).length:=by unfold cp;simp [Str.length]
    show r.k.name.length+1<=sizeLine;omega
   rw [es];have s3:=af (o:=.tup [.str (S (cp r.k.name++[113])),.ref to]) n3;have bt:∀ n,n<=N->rowT D n (.tup [.str (S (cp r.k.name++[113])),.tup (dC r.ops)])=false:=fun n _=>qb (hQ.k1 _ hR.1);have A3:=bdx_step A s3 (tgx_tup n3 (.cons (.str _) (.cons T2 .nil))) bt;have T2':TgV lo H2 (.ref to) (.tup (dC r.ops)):=.tup eto (gG _);have A3':=bd_step A' s3 (tg_tup n3 (.cons (.str _) (.cons T2' .nil))) bt;have elo3:=s3 _ _ elo;have eto3:=s3 _ _ eto;have g3:=g2.same s3;have b3:=b2.same s3;generalize aq H2 a3 (.tup [.str (S (cp r.k.name++[113])),.ref to])=H3 at *;refine ⟨lo,_,_,rfl,rfl,elo3,by rw [len];show 18 < sizeLine;decide,?_⟩;exact ⟨r,to,ls,lo,_,rfl,strm_put g3 qlo,but_put b3 nlo,by rw [ao (ne_tl eto3 elo3)];exact eto3,els,lsq,hR,nlo,qlo,ae,by rw [DL,len];rfl,A3.put elo3 but_upd A3',bda_put elo3 A3' A3'⟩
  clear eto els lsq hR g2 b2 to ls r len A A' elo xs nlo qlo lo;rintro σ H2 ⟨r,to,ls,lo,xs,rfl,g2,b2,eto,els,lsq,hR,nlo,qlo,elo,len,A,A'⟩;refine ⟨?_,?_⟩
  ·clear eto els lsq hR g2 b2 to ls r len A A' elo xs nlo qlo lo;rintro σ H4 ⟨lo,xs,v3,v4,v5,v7,v8,v9,rfl,g4,b4,qlo,elo,l1,l60,A⟩;refine ⟨_,rfl,_,rfl,_,rfl,lo,_,rfl,.inl (SqL.of elo),q,_,rfl,g4,zo,zo,fun j H5 hj g5 b5=>?_⟩;have hju:xs[j]?=some xs[j]:=D9 hj;have elo5:H5 lo=some (.lst xs):=b5 _ _ elo qlo.symm;exact ⟨lo,_,_,_,rfl,rfl,SqL.of elo5,bN hju,qq _ _ ((A.but g4 hqn b5) _ (ER hj)) g5 (b4.trans b5)⟩
  ·have K2:=kp _ b2;have els2:=b2 _ _ els lsq;obtain ⟨st,efs,st3,hst⟩:=hO.kf r.k hR.1;have f3:=hO.f3;have esn:r.k.fs.map (·.2)=st:=by rw [efs];exact bE _ _ zo
   have lfs:st.length=r.k.fs.length:=by rw [<-esn,DI]
   have hl:=hR.2.length;have hfs3:=(hO.fm.kf r.k hR.1).2;rw [esn] at els els2;refine ⟨_,rfl,zlx,fun l3 n3=>?_⟩;have s3:=af (o:=.lst []) n3;have e3:(aq H2 l3 (.lst [])) l3=some (.lst []):=ae;have els3:=s3 _ _ els2;generalize aq H2 l3 (.lst [])=H3 at *;have c1:(PyData.list (strD st)).canLay0=true:=lay_strD fun z hz=>by
    have:=(hst z hz).1;have h:sortL.all (fun z=>pH z)=true:=by decide +kernel
    exact Eh.mp h z this
   refine ⟨.list (strD st),.list [],.lst (SqL.of els3) (dt_strD _),.lst (SqL.of e3) .nil,c1,rfl,by simp [PyData.depth,PyData.depthAll],_,rfl,?_⟩;have g3:=g2.same s3;have b3:=b2.same s3;have eto3:=s3 _ _ eto;have elo3:=s3 _ _ elo;have A3:=A.same s3;have A3':=A'.same s3;cases est:st with
   | nil=>
    exact bP ⟨lo,xs,_,_,_,_,_,_,rfl,g3,b3,qlo,elo3,zo,zo,A3⟩
   | cons z0 zr=>
    rw [<-est];refine bK (by rw [est];rfl) ?_;have st1:1<=st.length:=by rw [est];simp
    clear est;refine ⟨_,rfl,_,rfl,ls,_,rfl,.inl (SqL.of els3),q,_,rfl,g3,?_,?_,fun at' H4 hat g4 b4=>?_⟩
    ·unfold ak;rw [DI];omega
    ·unfold ak;rw [DI];omega
    have hat:at' < st.length:=by unfold ak at hat;rw [DI] at hat;exact hat
    have b04:=b3.trans b4;have K4:=kp _ b04;have els4:=b4 _ _ els3 lsq;have toq:to≠q:=by
     rintro rfl;obtain ⟨_,_,_,e⟩:=g3;rw [e] at eto3;cases eto3
    have eto4:=b4 _ _ eto3 toq;have elo4:=b4 _ _ elo3 qlo.symm;have A4:=A3.but g3 hqn b4;have A4':BdA lo H4 D N xs:=by
     obtain ⟨_,_,_,e⟩:=id g3;exact bda_but e b4 A3' (A3.one hqn)
    have hs:st[at']?=some st[at']:=D9 hat;generalize st[at']=sa at hs;refine ⟨_,rfl,_,rfl,_,rfl,d,ls,D,fn,kvs,lf,lp,lm,lk,lg,ks,st,N,rfl,K4,hO.w24,els4,fun z hz=>(hst z hz).1,zo,fun lb H5 s5 nlb elb=>?_⟩;have hb5:(bH (st.map (eU D N)))[at']?=some (.int ((eU D N sa:Nat):Int)):=by
     unfold bH;rw [Ec,Ec,hs];rfl
    refine ⟨_,rfl,lb,_,_,_,rfl,rfl,SqL.of elb,bN hb5,?_⟩;have g5:=g4.same s5;have b05:=b04.same s5;have eto5:=s5 _ _ eto4;have elo5:=s5 _ _ elo4;have A5:=A4.same s5;have A5':=A4'.same s5;refine ⟨_,rfl,_,rfl,_,rfl,_,_,rfl,rfl,⟨zd,zd,zd⟩,_,_,rfl,rfl,zlx,fun t6 n6=>⟨zlx,fun lw n7=>?_⟩⟩;have s6:=af (o:=.tup [.int 0]) n6;have e6:(aq H5 t6 (.tup [.int 0])) t6=some (.tup [.int 0]):=ae;generalize aq H5 t6 (.tup [V.int 0])=H6 at *;have W6:∀ x∈([.int (-1),.int ((eU D N sa:Nat):Int),.int (((eU D N sa:Nat):Int)+10 ^ Int.toNat 28),.non,.str "0",.ref t6]:List V),Wr H lo H6 D N sa x:=by
     intro x hx;simp only [DY,Eb,or_false] at hx;rcases hx with rfl|rfl|rfl|rfl|rfl|rfl
     ·exact ⟨_,.int _,.int _,fun n hn=>opT_no hn (.inl zd)⟩
     ·exact ⟨_,.int _,.int _,fun n hn=>opT_no hn (.inr (Int.le_refl _))⟩
     ·exact ⟨_,.int _,.int _,fun n hn=>opT_no hn (.inr (by
       have h0:(0:Int)<=10 ^ Int.toNat 28:=by decide
       generalize (10:Int) ^ Int.toNat 28=z at *;omega))⟩
     ·exact ⟨_,.non,.non,fun _ _=>rfl⟩
     ·exact ⟨_,.str _,.str _,fun _ _=>rfl⟩
     ·exact ⟨_,.tup e6 (.cons (.int _) .nil),.tup e6 (.cons (.int _) .nil),fun _ _=>rfl⟩
    have s7:=af (o:=.lst [.int (-1),.int ((eU D N sa:Nat):Int),.int (((eU D N sa:Nat):Int)+10 ^ Int.toNat 28),.non,.str "0",.ref t6]) n7;have e7:(aq H6 lw (.lst [.int (-1),.int ((eU D N sa:Nat):Int),.int (((eU D N sa:Nat):Int)+10 ^ Int.toNat 28),.non,.str "0",.ref t6])) lw=some (.lst [.int (-1),.int ((eU D N sa:Nat):Int),.int (((eU D N sa:Nat):Int)+10 ^ Int.toNat 28),.non,.str "0",.ref t6]):=ae;have W7:=fun x hx=>(W6 x hx).same s7;have lolw:lw≠lo:=(ap (s6 _ _ elo5) n7).symm;have s57:=s6.trans s7;refine ⟨lw,rfl,⟨_,SqL.of e7⟩,?_⟩;generalize hH7:aq H6 lw _=H7 at *;generalize ews:([.int (-1),.int ((eU D N sa:Nat):Int),.int (((eU D N sa:Nat):Int)+10 ^ Int.toNat 28),.non,.str "0",.ref t6]:List V)=ws at *;have lws:ws.length=6:=by rw [<-ews];rfl
    clear ews hH7 e6 n6 n7 s6 s7 W6;refine gI (K:=K) (a:=lw) (xs:=ws) (fun i σ H'=>∃ (v9:Option V) (ys:List V),σ=[some (.ref q),some (.ref d),some (.int (N:Nat)),some (.str r.k.name),some (.ref to),some (.ref ls),some (.ref lo),some (.int (at':Nat)),some (.int ((eU D N sa:Nat):Int)),v9]/\Strm H' q/\But q H H'/\H' to=some (.tup (bH r.ops))/\H' lo=some (.lst ys)/\ys.length=19+i/\BdX H H' D N ys/\BdA lo H' D N ys/\H' lw=some (.lst ws)/\∀ x∈ws,Wr H lo H' D N sa x) ⟨_,xs,rfl,g5.same s57,b05.same s57,s57 _ _ eto5,s57 _ _ elo5,len,A5.same s57,A5'.same s57,e7,W7⟩ (fun i σ H' _ ⟨_,_,_,_,_,_,_,_,_,_,e,_⟩=>SqL.of e) ?_ ?_
    ·clear g5 b05 eto5 elo5 A5 A5' e7 W7 s57 A4 A4' elo4 eto4;rintro i x σ H8 hx ⟨v9,ys,rfl,g8,b8,eto8,elo8,ly,A8,A8',elw8,W8⟩;have hi:=(DK.mp hx).1;obtain ⟨tx,tq,tl,hopt⟩:=W8 x (D4 hx);have lo3:(bH r.ops).length=st.length:=by unfold bH;rw [DI,lfs];exact hl
     refine ⟨_,rfl,.inl ⟨rfl,_,SqL.of elo8⟩,_,rfl,_,rfl,_,rfl,(at':Int),rfl,to,_,rfl,SqT.of eto8,?_,fun a3 n3=>?_⟩
     ·rintro ⟨_,h⟩;rw [HT.sIx_nat] at h;omega
     generalize zz:aq H8 a3 _=H9;have ⟨s3,e3⟩:=nw n3 zz;clear zz;rw [gE] at e3;refine ⟨_,rfl,zlx,fun a4 n4=>?_⟩;generalize zz:aq H9 a4 _=H10;have ⟨s4,e4⟩:=nw n4 zz;clear zz;refine ⟨a3,a4,_,_,rfl,rfl,s4 _ _ e3,e4,?_,fun a5 H11 s5 e5=>?_⟩
     ·rw [DS];show min at' _+1<=sizeLine;omega
     have s811:=s3.trans (s4.trans s5);refine ⟨_,rfl,_,rfl,_,_,rfl,rfl,((at'+1:Nat):Int),rfl,to,_,rfl,SqT.of (s811 _ _ eto8),?_,fun a6 n6=>?_⟩
     ·rintro ⟨h,_⟩;rw [HT.sIx_nat] at h;omega
     generalize zz:aq H11 a6 _=H12;have ⟨s6,e6⟩:=nw n6 zz;clear zz;rw [lF] at e6;refine ⟨a5,a6,_,_,rfl,rfl,s6 _ _ e5,e6,?_,fun a7 H13 s7 e7=>⟨zlx,fun a8 n8=>?_⟩⟩
     ·rw [DL,DS,Ea];show min at' _+1+_<=sizeLine;omega
     have s813:=s811.trans (s6.trans s7);have s8:=af (o:=.tup [.str r.k.name,.ref a7]) n8;have s814:=s813.trans s8;have et:∀ n,(bH r.ops).take n=bH (r.ops.take n):=fun n=>by unfold bH;rw [List.map_take]
     have ed:∀ n,(bH r.ops).drop n=bH (r.ops.drop n):=fun n=>by unfold bH;rw [List.map_drop]
     rw [et,ed] at e7;have lt:(dC (r.ops.take at')).length=at':=by
      unfold dC;rw [DI,DS];omega
     have bt:∀ n,n<=N->rowT D n (.tup [.str r.k.name,.tup (dC (r.ops.take at')++[tx]++dC (r.ops.drop (at'+1)))])=false:=fun n hn=>by
      rw [iU hO.fm hR.1];have hf:∃ f,r.k.fs[at']?=some f/\f.2=sa:=by
       rw [<-esn,Ec] at hs;cases e:r.k.fs[at']? with
       | none=>rw [e] at hs;cases hs
       | some f=>rw [e] at hs;exact ⟨f,rfl,D5 hs⟩
      obtain ⟨f,hf,rfl⟩:=hf;exact wT hf (at_mid3 lt) (hopt n hn)
     have Lq:TgX H H13 (.ref a7) (.tup (dC (r.ops.take at')++[tx]++dC (r.ops.drop (at'+1)))):=.tup e7 (((tgx_ops _).app (.cons (tq.same s813) .nil)).app (tgx_ops _));have Ll:TgV lo H13 (.ref a7) (.tup (dC (r.ops.take at')++[tx]++dC (r.ops.drop (at'+1)))):=.tup e7 (((gG _).app (.cons (tl.same s813) .nil)).app (gG _));have A9:=bdx_step A8 s814 (tgx_tup n8 (.cons (.str _) (.cons Lq .nil))) bt;have A9':=bd_step A8' s814 (tg_tup n8 (.cons (.str _) (.cons Ll .nil))) bt;generalize aq H13 a8 (.tup [.str r.k.name,.ref a7])=H14 at *;have elo14:=s814 _ _ elo8;refine ⟨lo,_,_,rfl,rfl,elo14,by rw [ly];omega,?_⟩;exact ⟨_,_,rfl,strm_put (g8.same s814) qlo,but_put (b8.same s814) nlo,by rw [ao (ne_tl (s814 _ _ eto8) elo14)];exact s814 _ _ eto8,ae,by rw [DL,ly];rfl,A9.put elo14 but_upd A9',bda_put elo14 A9' A9',by rw [ao lolw];exact s814 _ _ elw8,fun x hx=>((W8 x hx).same s814).put elo14⟩
    ·clear g5 b05 eto5 elo5 A5 A5' e7 W7 s57 A4 A4' elo4 eto4;rintro σ H8 ⟨v9,ys,rfl,g8,b8,eto8,elo8,ly,A8,A8',elw8,W8⟩;rw [lws] at ly;have lo3:(bH r.ops).length=st.length:=by unfold bH;rw [DI,lfs];exact hl
     refine ⟨_,rfl,.inl ⟨rfl,_,SqL.of elo8⟩,_,rfl,_,rfl,_,rfl,(-1:Int),rfl,to,_,rfl,SqT.of eto8,?_,fun a3 n3=>?_⟩
     ·rintro ⟨_,h⟩;have h':((-1:Int)+((bH r.ops).length:Int)).toNat=(bH r.ops).length:=h;omega
     have ec:cC (bH r.ops) none (some (-1))=bH (r.ops.take (st.length - 1)):=by
      unfold cC;have h1:HT.sIx (bH r.ops).length 0 none=0:=rfl;have h2:HT.sIx (bH r.ops).length (bH r.ops).length (some (-1))=((-1:Int)+((bH r.ops).length:Int)).toNat:=rfl;rw [h1,h2,lo3,E9];have h3:((-1:Int)+(st.length:Int)).toNat - 0=st.length - 1:=by omega
      rw [h3];unfold bH;rw [List.map_take]
     rw [ec];generalize zz:aq H8 a3 _=H9;have ⟨s3,e3⟩:=nw n3 zz;clear zz;refine ⟨zlx,fun a4 n4=>?_⟩;have s4:=af (o:=.tup [.str r.k.name,.ref a3]) n4;have s810:=s3.trans s4;have bt:∀ n,n<=N->rowT D n (.tup [.str r.k.name,.tup (dC (r.ops.take (st.length - 1)))])=false:=fun n hn=>by
      rw [iU hO.fm hR.1];refine nj ?_;unfold dC;rw [DI,DS];omega
     have A9:=bdx_step A8 s810 (tgx_tup n4 (.cons (.str _) (.cons (.tup e3 (tgx_ops _)) .nil))) bt;have A9':=bd_step A8' s810 (tg_tup n4 (.cons (.str _) (.cons (.tup e3 (gG _)) .nil))) bt;have elo10:=s810 _ _ elo8;have g10:=g8.same s810;have b10:=b8.same s810;generalize aq H9 a4 (.tup [.str r.k.name,.ref a3])=H10 at *;refine ⟨lo,_,_,rfl,rfl,elo10,by rw [ly];omega,?_⟩;have A11:=A9.put elo10 (but_upd (o:=.lst (ys++[.ref a4]))) A9';have g11:=strm_put (o:=.lst (ys++[.ref a4])) g10 qlo;have b11:=but_put (o:=.lst (ys++[.ref a4])) b10 nlo;have elo11:(aq H10 lo (.lst (ys++[.ref a4]))) lo=some (.lst (ys++[.ref a4])):=ae;generalize aq H10 lo (.lst (ys++[V.ref a4]))=H11 at *;have lz:(ys++[V.ref a4]).length=26:=by rw [DL,ly];rfl
     generalize ys++[V.ref a4]=zs at *;refine ⟨_,rfl,(3:Int),rfl,lo,_,rfl,SqL.of elo11,fun l5 n5=>?_⟩;generalize zz:aq H11 l5 _=H12;have ⟨s5,e5⟩:=nw n5 zz;clear zz;refine ⟨_,rfl,_,rfl,(-7:Int),rfl,lo,_,rfl,SqL.of (s5 _ _ elo11),fun l6 n6=>?_⟩;generalize zz:aq H12 l6 _=H13;have ⟨s6,e6⟩:=nw n6 zz;clear zz;have lc1:=dI zs none (some 3);have lc2:=dI zs (some (-7)) none;have tn:(3:Int).toNat=3:=rfl;refine ⟨l6,3,_,rfl,rfl,e6,zd,zd,by rw [tn];omega,fun l7 n7=>?_⟩;generalize zz:aq H13 l7 _=H14;have ⟨s7,e7⟩:=nw n7 zz;clear zz;have l7':=kE (cC zs (some (-7)) none) 3;rw [tn] at e7;refine ⟨l5,l7,_,_,rfl,rfl,s7 _ _ (s6 _ _ e5),e7,by rw [l7'];omega,fun l8 n8=>?_⟩;have s8:=af (o:=.lst (cC zs none (some 3)++(List.replicate 3 (cC zs (some (-7)) none)).flatten)) n8;have s1115:=s5.trans (s6.trans (s7.trans s8));have lc3:(cC zs none (some 3)).length=3:=by
      have:=gE zs 3;have e:((3:Nat):Int)=3:=rfl;rw [e] at this;rw [this,DS];omega
     refine ⟨l8,_,_,_,_,_,_,_,rfl,g11.same s1115,b11.same s1115,(g11.same (s5.trans (s6.trans s7))).ne n8,ae,?_,?_,fun x hx=>?_⟩
     ·rw [DL];omega
     ·rw [DL,l7'];omega
     ·refine (A11 x ?_).same s1115;rcases D0.mp hx with h|h
      ·exact nv h
      ·obtain ⟨y,hy,hxy⟩:=List.mem_flatten.mp h;rw [List.eq_of_mem_replicate hy] at hxy;exact nv hxy
abbrev sLRef:Stmt:=cG 101
def Hnd (D:Fm) (rs:List Rw) (a way:Nat) (y:V) (td:Th) (xs:List V) (ts:List Th):Prop:=
 xs[a]?=some y/\ts[a]?=some td/\(∀ (j:Nat) (tj:Th),j < a->ts[j]?=some tj->∃ r∈rs,tj=cE r)/\(a < rs.length/\ts.length=rs.length/\(∀ n,n<=rs.length+(if way=1 then 1 else 0)->rowT D n td=false)\/a=rs.length/\ts.length=rs.length+1/\td=.non)
def blT:Option Nat->Th
 | none=>.non
 | some n=>.int (n:Int)
theorem bl_tg (bl:Option Nat):TgV q H (iE bl) (blT bl):=by
 cases bl with
 | none=>exact .non
 | some n=>exact .int _
theorem tg_rows:∀ {us:List V} {rs:List Rw},Paired (RowV H) us rs->TgA q H us (rs.map cE)
 | _,_,.nil=>.nil
 | _,_,.cons h t=>.cons h.tg (tg_rows t)
theorem TgA.set {y:V} {td:Th} (h:TgV q H y td):∀ {xs:List V} {ts:List Th} (i:Nat),TgA q H xs ts->TgA q H (xs.set i y) (ts.set i td)
 | _,_,_,.nil=>.nil
 | _,_,0,.cons _ t=>.cons h t
 | _,_,i+1,.cons a t=>.cons a (TgA.set h i t)
theorem ixN_nat (h:i < n):vh n (i:Int)=some i:=by
 unfold vh;rw [if_pos zo,if_pos zo,EJ]
theorem bells_at {t:Addr} (et:H t=some (.tup [.int 0])) (hn:n<=1000) (hj:j < 7):∃ x tb,(lQ n t)[j]?=some x/\TgV q H x tb/\tb≠.non/\wn 0 (n:Nat) tb=false:=by
 have h29:(10:Int) ^ 29=100000000000000000000000000000:=by decide
 unfold lQ;rcases (by omega:j=0\/j=1\/j=2\/j=3\/j=4\/j=5\/j=6) with rfl|rfl|rfl|rfl|rfl|rfl|rfl
 ·exact ⟨_,_,rfl,.int _,Th.noConfusion,by unfold wn;rw [Bool.and_eq_false_iff];exact .inr (decide_eq_false zo)⟩
 ·exact ⟨_,_,rfl,.int _,Th.noConfusion,by unfold wn;rw [Bool.and_eq_false_iff];exact .inl (decide_eq_false zo)⟩
 ·exact ⟨_,_,rfl,.bl _,Th.noConfusion,rfl⟩
 ·exact ⟨_,_,rfl,.bl _,Th.noConfusion,rfl⟩
 ·exact ⟨_,_,rfl,.str _,Th.noConfusion,rfl⟩
 ·exact ⟨_,_,rfl,.int _,Th.noConfusion,by unfold wn;rw [Bool.and_eq_false_iff];exact .inr (decide_eq_false zo)⟩
 ·exact ⟨_,_,rfl,.tup et (.cons (.int _) .nil),Th.noConfusion,rfl⟩
theorem RowV.but {H H':Hp} (g:Strm H q) (b:But q H H') (h:RowV H u r):RowV H' u r:=by
 obtain ⟨_,_,_,e⟩:=g;obtain ⟨p,t,rfl,hp,ht⟩:=h;exact ⟨p,t,rfl,b _ _ hp (ne_tl hp e),b _ _ ht (ne_tl ht e)⟩
inductive RP1 (q:Addr) (d:Addr) (lr:Addr) (v:V) (bl:Option Nat) (us:List V) (rs:List Rw) (D:Fm) (Cp:Addr) (H:Hp) (σ:St) (H':Hp):Prop
 | mk (way:Nat):σ=[some (.ref q),some (.ref d),some v,some (.ref lr),some (iE bl),some (.int (way:Nat)),none,none,none]->way < 8->Strm H' q->But q H H'->RP1 q d lr v bl us rs D Cp H σ H'
inductive RP2 (q:Addr) (d:Addr) (lr:Addr) (v:V) (bl:Option Nat) (us:List V) (rs:List Rw) (D:Fm) (Cp:Addr) (H:Hp) (σ:St) (H':Hp):Prop
 | mk (way:Nat) (lh:Addr):σ=[some (.ref q),some (.ref d),some v,some (.ref lr),some (iE bl),some (.int (way:Nat)),some (.ref lh),none,none]->way < 8->Strm H' q->But q H H'->H lh=none->q≠lh->H' lh=some (.lst us)->RP2 q d lr v bl us rs D Cp H σ H'
inductive RP3 (q:Addr) (d:Addr) (lr:Addr) (v:V) (bl:Option Nat) (us:List V) (rs:List Rw) (D:Fm) (Cp:Addr) (H:Hp) (σ:St) (H':Hp):Prop
 | mk (way:Nat) (lh:Addr):σ=[some (.ref q),some (.ref d),some v,some (.ref lr),some (iE bl),some (.int (way:Nat)),some (.ref lh),some .non,none]->way < 8->Strm H' q->But q H H'->H lh=none->q≠lh->H' lh=some (.lst us)->RP3 q d lr v bl us rs D Cp H σ H'
inductive RPE (q:Addr) (d:Addr) (lr:Addr) (v:V) (bl:Option Nat) (us:List V) (rs:List Rw) (D:Fm) (Cp:Addr) (H:Hp) (σ:St) (H':Hp):Prop
 | mk (u z y:V) (t tb td:Th) (p:Addr) (v5 v8:Option V):σ=[some (.ref q),some (.ref d),some v,some (.ref lr),some z,v5,some u,some y,v8]->But q H H'->TgV p H' u t->TgV p H' z tb->TgV p H' y td->PoA D H' Cp u z t tb (fun _ _=>False) (fun x=>x=y)->RPE q d lr v bl us rs D Cp H σ H'
inductive RPa (q:Addr) (d:Addr) (lr:Addr) (v:V) (bl:Option Nat) (us:List V) (rs:List Rw) (D:Fm) (Cp:Addr) (H:Hp) (σ:St) (H':Hp):Prop
 | mk (way:Nat) (lh:Addr) (at':Nat):σ=[some (.ref q),some (.ref d),some v,some (.ref lr),some (iE bl),some (.int (way:Nat)),some (.ref lh),some .non,some (.int (at':Nat))]->Strm H' q->But q H H'->H lh=none->q≠lh->H' lh=some (.lst us)->at'<=rs.length->RPa q d lr v bl us rs D Cp H σ H'
inductive RPb (q:Addr) (d:Addr) (lr:Addr) (v:V) (bl:Option Nat) (us:List V) (rs:List Rw) (D:Fm) (Cp:Addr) (H:Hp) (σ:St) (H':Hp):Prop
 | mk (way:Nat) (lh:Addr) (at':Nat) (y:V) (td:Th):σ=[some (.ref q),some (.ref d),some v,some (.ref lr),some (iE bl),some (.int (way:Nat)),some (.ref lh),some y,some (.int (at':Nat))]->Strm H' q->But q H H'->H lh=none->q≠lh->H' lh=some (.lst us)->at'<=rs.length->TgV q H' y td->TgV lh H' y td->(∀ n,n<=rs.length+(if way=1 then 1 else 0)->rowT D n td=false)->RPb q d lr v bl us rs D Cp H σ H'
inductive RPc (q:Addr) (d:Addr) (lr:Addr) (v:V) (bl:Option Nat) (us:List V) (rs:List Rw) (D:Fm) (Cp:Addr) (H:Hp) (σ:St) (H':Hp):Prop
 | mk (way:Nat) (lh:Addr) (at':Nat) (y:V) (td:Th) (xs:List V) (ts:List Th):σ=[some (.ref q),some (.ref d),some v,some (.ref lr),some (iE bl),some (.int (way:Nat)),some (.ref lh),some y,some (.int (at':Nat))]->Strm H' q->But q H H'->H lh=none->q≠lh->H' lh=some (.lst xs)->TgA q H' xs ts->TgA lh H' xs ts->TgV q H' y td->TgV lh H' y td->Hnd D rs at' way y td xs ts->RPc q d lr v bl us rs D Cp H σ H'
inductive RPd (q:Addr) (d:Addr) (lr:Addr) (v:V) (bl:Option Nat) (us:List V) (rs:List Rw) (D:Fm) (Cp:Addr) (H:Hp) (σ:St) (H':Hp):Prop
 | mk (way:Nat) (lh:Addr) (at':Nat) (y:V) (td:Th) (xs:List V) (ts:List Th):σ=[some (.ref q),some (.ref d),some v,some (.ref lr),some (iE bl),some (.int (way:Nat)),some (.ref lh),some y,some (.int (at':Nat))]->Strm H' q->But q H H'->q≠lh->H' lh=some (.lst xs)->TgA q H' xs ts->TgV q H' y td->xs[at']?=some y->ts[at']?=some td->at'<=40->(∀ (j:Nat) (tj:Th),j < at'->ts[j]?=some tj->rowT D ts.length tj=true)->rowT D ts.length td=false->RPd q d lr v bl us rs D Cp H σ H'
inductive spRef (C:Addr) (vs:List V) (H:Hp) (Q:VK) (Z3:XK):Prop
 | mk (q d:Addr) (Hb:Hp) (D:Fm) (fn:List Str) (kvs:List (bT×V)) (lf lp lm lk lg:Addr) (ks:List V) (v:V) (lr:Addr) (us:List V) (rs:List Rw) (bl:Option Nat):vs=[.ref q,.ref d,v,.ref lr,iE bl]->Strm H q->Same Hb H->Hb q=none->KpV Hb d D fn kvs lf lp lm lk lg ks->ShOk D fn->m5 D fn->TabV C Hb v D->Hb lr=some (.lst us)->Paired (RowV Hb) us rs->(∀ r∈rs,gT D rs.length r)->rs.length<=40->(∀ H',But q H H'->Q (.bl true) H')->spRef C vs H Q Z3
section
variable {P:Program} {w:World} {K:ZF} {mg:Str->Option Value} {base:Heap} {C Cp:Addr}
theorem scRef:aw ["_law_stream_here","_law_kept","_law_table","_law_rows","_law_bell","_law_way","_law_handed","_law_due","_law_at"] ["_law_stream_here","_law_kept","_law_table","_law_rows","_law_bell"] (aj sLRef):=cI zk
theorem ndRef:(["_law_k","_law_kept","_law_stream_here"]:List Str).Nodup:=by decide +kernel
theorem ok_ref (F:Fun K "_law_refused" "_law_refused" sLRef f fd) (B:Bl mg) (TK':Fn P w K mg base "_law_take" 1 ["_law_stream_here","_law_many"] fz) (SR:Fn P w K mg base "_law_shape_row" 3 ["_law_stream_here","_law_table","_law_rows"] uu) (BA:Fn P w K mg base "_law_bad" 4 ["_law_stream_here","_law_table","_law_rows"] spBad) (BE:Fn P w K mg base "_law_bells" 1 ["_law_rows"] (qa K)) (AL:Fn P w K mg base "_law_alike" 1 ["_law_one","_law_other"] Bw) (TD:Fn P w K mg base "_law_told" 7 ["_law_table","_law_rows","_law_bell"] (Bv C Cp)):FnOk P w K mg base bY 8 f fd ["_law_stream_here","_law_kept","_law_table","_law_rows","_law_bell"] (spRef C):=by
 have ZZ:=scRef
 walk_at "o"
 ·obtain ⟨q,d,Hb,D,fn,kvs,lf,lp,lm,lk,lg,ks,v,lr,us,rs,bl,rfl,hq,sb,nq,hK,hO,hQ,hT,elr,hrs,hok,h40,qq⟩:=h;have sz:(100000:Nat)<=sizeLine:=by decide
  refine ⟨_,aM (RP1 q d lr v bl us rs D Cp H) (au (i:=5) scRef.nd rfl (Or.inl rfl) (aB TK' hr.m rfl (ac (pv 0) (ac ah ad)))) (aM (RP2 q d lr v bl us rs D Cp H) (au (i:=6) scRef.nd rfl (Or.inl rfl) (aR eJ (by rfl) B.list eP (ac (pv 3) ad))) (aM (RP3 q d lr v bl us rs D Cp H) (au (i:=7) scRef.nd rfl (Or.inl rfl) cu) (aM (RPE q d lr v bl us rs D Cp H) (bi (ar dG (pv 5) ah) (aM (RPa q d lr v bl us rs D Cp H) (au (i:=8) scRef.nd rfl (Or.inl rfl) (aB TK' hr.m rfl (ac (pv 0) (ac (aG bO (av ay (by rfl) B.len D3 (ac (pv 3) ad)) ah) ad)))) (aM (RPb q d lr v bl us rs D Cp H) (au (i:=7) scRef.nd rfl (Or.inl rfl) (aB BA hr.m rfl (ac (pv 0) (ac (pv 1) (ac (av (jR rfl) (by rfl) B.max PyProof.Rows.boot_max (ac ah (ac (aG bO (av ay (by rfl) B.len D3 (ac (pv 3) ad)) (aR fJ (by rfl) B.int ED (ac (cH cB (pv 5) ah) ad))) ad))) ad))))) (aM (RPc q d lr v bl us rs D Cp H) (bi (ar cB (pv 8) (av ay (by rfl) B.len D3 (ac (pv 3) ad))) (ag (au (i:=7) scRef.nd rfl (Or.inl rfl) cu) (ai (aI (bZ DV DU DT aT (pv 6) (ac cu ad))))) (ai (ff (pv 7) (nG (pv 6) (pv 8) i5)))) (aM (RPd q d lr v bl us rs D Cp H) (bi (PW.pt (dj (ar cB (pv 5) ah) (cV (ar dG (pv 8) (av ay (by rfl) B.len D3 (ac (pv 3) ad)))))) (ag (aI (bZ DV DU DT aT (pv 6) (ac eD ad))) (ai (au (i:=6) scRef.nd rfl (Or.inl rfl) (br bV (pv 6) bM (bv ah))))) aL) (ai (au (i:=4) scRef.nd rfl (Or.inl rfl) (aZ aY (aP (ac (pv 4) (ac (eo cN ah) ad))) (aG dS (pv 5) ah)))))))) (ai (bi (ar cB (pv 5) ah) (ag (au (i:=7) scRef.nd rfl (Or.inl rfl) (aZ aY (aB BE hr.m rfl (ac (pv 3) ad)) (aB TK' hr.m rfl (ac (pv 0) (ac ah ad))))) (ai (au (i:=4) scRef.nd rfl (Or.inl rfl) (pv 7)))) (ai (bi (ar cB (pv 5) ah) (ag (au (i:=6) scRef.nd rfl (Or.inl rfl) (aZ aY (aP (ac cu (ac ah (ac am (ac eD (ac cr (ac am (ac (eo cN ah) ad)))))))) (aB TK' hr.m rfl (ac (pv 0) (ac ah ad))))) (ai (au (i:=7) scRef.nd rfl (Or.inl rfl) (pv 6)))) (ag (au (i:=6) scRef.nd rfl (Or.inl rfl) (aG cj (br bV (aG cj (pv 3) (dN (N':=["_law_k","_law_kept","_law_stream_here"]) (ix:=[none,some 1,some 0]) (sc0:=aj sLRef) (N:=["_law_stream_here","_law_kept","_law_table","_law_rows","_law_bell","_law_way","_law_handed","_law_due","_law_at"]) rfl zk (dZ rfl B.range (ac ah ad)) (fun _ _ _ _ _=>(aC (i:=0) ndRef rfl (Or.inl rfl) (.inr rfl))) (fun _ _ _ _ _=>c0) (fun _ _ _ _ _=>(aB SR hr.m rfl (ac (pv 2) (ac (pv 1) (ac ah ad))))))) bM (bv ah)) (aG sd (aP (ac cu ad)) (aB TK' hr.m rfl (ac (pv 0) (ac ah ad)))))) (ag (au (i:=7) scRef.nd rfl (Or.inl rfl) (aZ aY (pv 6) ah)) (ai (au (i:=4) scRef.nd rfl (Or.inl rfl) (eo cN ah)))))))))) (ai (aA (aB AL hr.m rfl (ac (aB TD hr rfl (ac (pv 2) (ac (pv 6) (ac (pv 4) ad)))) (ac (aN (ac am (ac (pv 7) ad))) ad)))))))),?_⟩;have kp:∀ H',But q H H'->Same Hb H':=fun H' b=>ci nq sb b;have lus:=hrs.length;have elr0:=sb _ _ elr;have lrq:lr≠q:=ap elr nq;refine ⟨?_,?_⟩;rotate_left
  ·exact ⟨_,rfl,q,8,rfl,hq,zd,zd,fun way H1 hw g1 b1=>⟨way,rfl,hw,g1,b1⟩⟩
  rintro σ H1 ⟨way,rfl,hw,g1,b1⟩;refine ⟨?_,?_⟩;rotate_left
  ·refine ⟨_,rfl,lr,us,rfl,.inl (SqL.of (b1 _ _ elr0 lrq)),fun lh nh=>?_⟩;have s2:=af (o:=.lst us) nh;exact ⟨way,lh,rfl,hw,g1.same s2,b1.same s2,jr b1 g1 nh,g1.ne nh,ae⟩
  clear g1 b1 hw way H1;rintro σ H1 ⟨way,lh,rfl,hw,g1,b1,nlh,qlh,elh⟩;refine ⟨?_,?_⟩;rotate_left
  ·exact ⟨way,lh,rfl,hw,g1,b1,nlh,qlh,elh⟩
  clear g1 b1 hw way H1 nlh qlh elh lh;rintro σ H1 ⟨way,lh,rfl,hw,g1,b1,nlh,qlh,elh⟩;refine ⟨?_,?_⟩
  ·clear g1 b1 hw way H1 nlh qlh elh lh;rintro σ H1 ⟨u,z,y,t,tb,td,p,v5,v8,rfl,b1,tu,tz,ty,ans⟩;have s1:=kp _ b1;refine ⟨_,rfl,_,rfl,_,rfl,v,u,z,D,p,t,tb,rfl,hT.same s1,hO.fm,hO.w24,tu,tz,?_⟩;refine ans.map (Same.refl _) (fun _ _ _ f=>f.elim) (fun x e=>?_);subst e;intro r H2 s2 e2;refine ⟨_,rfl,zlx,fun r3 n3=>?_⟩;have s3:=af (o:=.tup [.str "row",x]) n3;have s13:=s2.trans s3;exact ⟨r,r3,p,"row",x,td,rfl,s3 _ _ e2,ae,ty.same s13,qq _ (b1.same s13)⟩
  ·refine ⟨_,rfl,_,_,rfl,rfl,_,rfl,?_⟩;by_cases h5:way < 5
   ·refine bK (decide_eq_true zo) ?_;refine ⟨?_,?_⟩;rotate_left
    ·refine ⟨_,rfl,_,rfl,lr,us,rfl,.inl (SqL.of (b1 _ _ elr0 lrq)),_,_,rfl,rfl,q,us.length+1,rfl,g1,zo,zo,fun at' H2 ha g2 b2=>?_⟩;exact ⟨way,lh,at',rfl,g2,b1.trans b2,nlh,qlh,b2 _ _ elh qlh.symm,zo⟩
    clear g1 b1 hw h5 way H1 nlh qlh elh lh;rintro σ H1 ⟨way,lh,at',rfl,g1,b1,nlh,qlh,elh,hat⟩;refine ⟨?_,?_⟩;rotate_left
    ·refine ⟨_,rfl,_,rfl,_,rfl,lr,us,rfl,.inl (SqL.of (b1 _ _ elr0 lrq)),_,rfl,rfl,.inr ⟨_,rfl,_,_,rfl,rfl,_,_,rfl,?_⟩⟩;have eN:(if ((us.length:Int)+(if decide (V.int (way:Int)=V.int 1)=true then 1 else 0)) > 1 then ((us.length:Int)+(if decide (V.int (way:Int)=V.int 1)=true then 1 else 0)) else 1)=((max 1 (rs.length+(if way=1 then 1 else 0)):Nat):Int):=by
      rw [lus];by_cases h:way=1
      ·rw [if_pos h,decide_eq_true (by rw [h];rfl)];rw [if_pos rfl];split<;>omega
      ·rw [if_neg h,decide_eq_false (fun z=>h (by have:=V.int.inj z;omega))];rw [if_neg D1];split<;>omega
     refine ⟨q,d,Hb,D,fn,kvs,lf,lp,lm,lk,lg,ks,max 1 (rs.length+(if way=1 then 1 else 0)),congrArg (fun z=>[V.ref q,.ref d,.int z]) eN,g1,kp _ b1,nq,hK,hO,hQ,by split<;>omega,fun y H2 ⟨td,tx,hb⟩ g2 b2=>?_⟩;have hqn:H1 q≠none:=by
      obtain ⟨_,_,_,e⟩:=id g1;rw [e];exact Option.some_ne_none _
     have hln:H1 lh≠none:=by
      rw [elh];exact Option.some_ne_none _
     exact ⟨way,lh,at',y,td,rfl,g2,b1.trans b2,nlh,qlh,b2 _ _ elh qlh.symm,hat,tx q hqn,tx lh hln,fun n hn=>hb n (Ef hn (Nat.le_max_right _ _))⟩
    clear g1 b1 way H1 nlh qlh elh lh hat at';rintro σ H1 ⟨way,lh,at',y,td,rfl,g1,b1,nlh,qlh,elh,hat,ty,tl,hbad⟩;refine ⟨?_,?_⟩;rotate_left
    ·refine ⟨_,rfl,_,rfl,lr,us,rfl,.inl (SqL.of (b1 _ _ elr0 lrq)),rfl,_,rfl,?_⟩;have lth:(rs.map cE).length=rs.length:=DI _;have R1:Paired (RowV H1) us rs:=bR (fun _ _ h=>RowV.kt (aW (kp _ b1)) h) hrs;have hgood:∀ (j:Nat) (tj:Th),(rs.map cE)[j]?=some tj->∃ r∈rs,tj=cE r:=fun j tj h=>by
      obtain ⟨r,hr',e⟩:=D2.mp (D4 h);exact ⟨r,hr',e.symm⟩
     by_cases ha:at'=rs.length
     ·refine bK (decide_eq_true (by rw [ha,lus])) ?_;refine ⟨_,rfl,.inl ⟨rfl,_,SqL.of elh⟩,lh,_,_,rfl,rfl,elh,zo,?_⟩;have A1:TgA q H1 (us++[.non]) (rs.map cE++[.non]):=(tg_rows R1).app (.cons .non .nil);have A2:TgA lh H1 (us++[.non]) (rs.map cE++[.non]):=(tg_rows R1).app (.cons .non .nil);refine ⟨way,lh,at',.non,.non,us++[.non],rs.map cE++[.non],rfl,strm_put g1 qlh,but_put b1 nlh,nlh,qlh,ae,A1.put elh but_upd A2,A2.put elh but_upd A2,.non,.non,?_,?_,?_,.inr ⟨ha,by rw [DL,lth];rfl,rfl⟩⟩
      ·rw [ha,<-lus,Ey (DN _),Nat.sub_self];rfl
      ·rw [ha,<-lth,Ey (DN _),Nat.sub_self];rfl
      ·intro j tj hj h;rw [Es zo] at h;exact hgood j tj h
     ·refine bQ (decide_eq_false fun z=>ha (by have:=V.int.inj z;omega)) ?_;have hlt:at' < us.length:=by omega
      refine ⟨_,rfl,_,rfl,_,rfl,lh,us,_,at',rfl,rfl,elh,ixN_nat hlt,?_⟩;have A1:TgA q H1 (us.set at' y) ((rs.map cE).set at' td):=(tg_rows R1).set ty at';have A2:TgA lh H1 (us.set at' y) ((rs.map cE).set at' td):=(tg_rows R1).set tl at';refine ⟨way,lh,at',y,td,us.set at' y,(rs.map cE).set at' td,rfl,strm_put g1 qlh,but_put b1 nlh,nlh,qlh,ae,A1.put elh but_upd A2,A2.put elh but_upd A2,ty.put elh but_upd tl,tl.put elh but_upd tl,?_,?_,?_,.inl ⟨zo,by rw [List.length_set,lth],hbad⟩⟩
      ·rw [List.getElem?_set_self hlt]
      ·rw [List.getElem?_set_self zo]
      ·intro j tj hj h;rw [List.getElem?_set_ne zo] at h;exact hgood j tj h
    clear g1 b1 way H1 nlh qlh elh lh hat at' ty tl hbad y td;rintro σ H1 ⟨way,lh,at',y,td,xs,ts,rfl,g1,b1,nlh,qlh,elh,tx,txl,ty,tyl,hx,ht,hgood,hcase⟩;have lxt:=tx.length;have hok':∀ n,rs.length<=n->∀ (j:Nat) (tj:Th),j < at'->ts[j]?=some tj->rowT D n tj=true:=fun n hn j tj hj h=>by
     obtain ⟨r,hr',rfl⟩:=hgood j tj hj h;exact gH hO.fm (hok r hr') hn
    refine ⟨?_,?_⟩;rotate_left
    ·refine ⟨_,rfl,rfl,_,rfl,?_⟩;by_cases hw1:way=1
     ·refine bK (decide_eq_true (by rw [hw1];rfl)) ?_;refine ⟨_,rfl,_,rfl,lr,us,rfl,.inl (SqL.of (b1 _ _ elr0 lrq)),_,_,rfl,rfl,_,rfl,?_⟩;by_cases hlt:at' < rs.length
      ·refine bK (decide_eq_true zo) ?_;obtain ⟨_,lts,hbad⟩:at' < rs.length/\ts.length=rs.length/\_:=hcase.elim id (fun h=>by omega);refine ⟨_,rfl,.inl ⟨rfl,_,SqL.of elh⟩,fun d2 n2=>?_⟩;have s2:=af (o:=.dK []) n2;have g2:=g1.same s2;have b2:=b1.same s2;have elh2:=s2 _ _ elh;have A2:TgA q _ (xs++[.ref d2]) (ts++[.dct]):=(tx.same s2).app (.cons (tg_dct g1 n2) .nil);have A2l:TgA lh _ (xs++[.ref d2]) (ts++[.dct]):=(txl.same s2).app (.cons (.dct (ap elh n2).symm ae) .nil);have ty2:=ty.same s2;have tyl2:=tyl.same s2;generalize aq H1 d2 (.dK [])=H2 at *;refine ⟨lh,_,_,rfl,rfl,elh2,zo,?_⟩;have A3:=A2.put elh2 (but_upd (o:=.lst (xs++[.ref d2]))) A2l;have ty3:=ty2.put elh2 (but_upd (o:=.lst (xs++[.ref d2]))) tyl2;have g3:=strm_put (o:=.lst (xs++[.ref d2])) g2 qlh;have b3:=but_put (o:=.lst (xs++[.ref d2])) b2 nlh;have elh3:(aq H2 lh (.lst (xs++[.ref d2]))) lh=some (.lst (xs++[.ref d2])):=ae;generalize aq H2 lh (.lst (xs++[V.ref d2]))=H3 at *;refine ⟨_,rfl,(40:Int),rfl,lh,_,rfl,SqL.of elh3,fun l4 n4=>?_⟩;have e40:cC (xs++[V.ref d2]) none (some 40)=(xs++[V.ref d2]).take 40:=gE _ 40;rw [e40];have s4:=af (o:=.lst ((xs++[V.ref d2]).take 40)) n4;have lt4:((ts++[Th.dct]).take 40).length=min 40 (rs.length+1):=by rw [DS,DL,lts];rfl
       refine ⟨way,l4,at',y,td,(xs++[V.ref d2]).take 40,(ts++[Th.dct]).take 40,rfl,g3.same s4,b3.same s4,g3.ne n4,ae,(A3.take 40).same s4,ty3.same s4,?_,?_,zo,?_,?_⟩
       ·rw [List.getElem?_take_of_lt zo,Es zo];exact hx
       ·rw [List.getElem?_take_of_lt zo,Es zo];exact ht
       ·intro j tj hj h;rw [List.getElem?_take_of_lt zo,Es zo] at h;exact hok' _ zo j tj hj h
       ·exact hbad _ (by rw [if_pos hw1];omega)
      ·refine bQ (decide_eq_false zo) ?_;obtain ⟨e1,e2,e3⟩:at'=rs.length/\ts.length=rs.length+1/\td=.non:=hcase.elim (fun h=>by omega) id;exact ⟨way,lh,at',y,td,xs,ts,rfl,g1,b1,qlh,elh,tx,ty,hx,ht,zo,hok' _ zo,by rw [e3];rfl⟩
     ·refine bQ (decide_eq_false fun z=>hw1 (by have:=V.int.inj z;omega)) ?_;refine ⟨way,lh,at',y,td,xs,ts,rfl,g1,b1,qlh,elh,tx,ty,hx,ht,?_,?_,?_⟩
      ·rcases hcase with h|h<;>omega
      ·refine hok' _ ?_;rcases hcase with h|h<;>omega
      ·rcases hcase with ⟨h1,h2,h3⟩|⟨h1,h2,h3⟩
       ·exact h3 _ (by rw [if_neg hw1];omega)
       ·rw [h3];rfl
    clear g1 b1 way H1 nlh qlh elh lh tx txl ty tyl hx ht hgood hcase lxt hok' at' y td xs ts;rintro σ H1 ⟨way,lh,at',y,td,xs,ts,rfl,g1,b1,qlh,elh,tx,ty,hx,ht,ha,hgood,hbad⟩;refine ⟨_,rfl,_,rfl,zlx,fun l2 n2=>?_⟩;have s2:=af (o:=.lst [iE bl,.int (-1)]) n2;have e2:(aq H1 l2 (.lst [iE bl,.int (-1)])) l2=some (.lst [iE bl,.int (-1)]):=ae;generalize aq H1 l2 (.lst [iE bl,V.int (-1)])=H2 at *;have hz:∃ z tb,nV [iE bl,V.int (-1)] ((way:Int) % 2)=some z/\TgV q H2 z tb:=by
     rcases (by omega:(way:Int) % 2=0\/(way:Int) % 2=1) with h|h
     ·rw [h];exact ⟨_,_,lD,bl_tg bl⟩
     ·rw [h];exact ⟨_,_,mY,.int _⟩
    obtain ⟨z,tb,hz,tz⟩:=hz;refine ⟨_,rfl,_,_,rfl,rfl,(by show (0:Int) < 2;decide),l2,_,_,_,rfl,rfl,SqL.of e2,hz,?_⟩;exact ⟨.ref lh,z,y,.lst ts,tb,td,q,_,_,rfl,b1.same s2,.lst qlh.symm (s2 _ _ elh) (tx.same s2),tz,ty.same s2,.row q lh xs ts at' y td rfl (.inl ⟨s2 _ _ elh,rfl⟩) (tx.same s2) hx ht ha hgood (.inr hbad) rfl⟩
   ·refine bQ (decide_eq_false zo) ?_;have R1:Paired (RowV H1) us rs:=bR (fun _ _ h=>RowV.kt (aW (kp _ b1)) h) hrs;refine ⟨_,rfl,rfl,_,rfl,?_⟩;by_cases h5:way=5
    ·refine bK (decide_eq_true (by rw [h5];rfl)) ?_;refine ⟨_,rfl,lr,us,rfl,SqL.of (b1 _ _ elr0 lrq),fun r t H2 s2 nr nt et er=>?_⟩;have g2:=g1.same s2;refine ⟨_,rfl,q,7,rfl,g2,zd,zd,fun j H3 hj g3 b3=>?_⟩;have er3:=b3 _ _ er (g1.ne nr).symm;have et3:=b3 _ _ et (g1.ne nt).symm;obtain ⟨x,tb,hx,tx,hn,hw'⟩:=bells_at (q:=q) (n:=us.length) et3 zo hj;have b03:=b1.trans ((fw s2).trans b3);have s03:=kp _ b03;have elh3:=b3 _ _ (s2 _ _ elh) qlh.symm;have R3:Paired (RowV H3) us rs:=bR (fun _ _ h=>RowV.kt (aW s03) h) hrs;have lth:(rs.map cE).length=rs.length:=DI _;refine ⟨r,_,_,_,rfl,rfl,SqL.of er3,bN hx,_,rfl,?_⟩;refine ⟨.ref lh,x,x,.lst (rs.map cE),tb,tb,q,_,_,rfl,b03,.lst qlh.symm elh3 (tg_rows R3),tx,tx,.all q lh us (rs.map cE) rfl (.inl ⟨elh3,rfl⟩) (tg_rows R3) zo (fun tj hj=>?_) (fun _ _=>rfl) (fun h=>?_)⟩
     ·obtain ⟨r,hr',rfl⟩:=D2.mp hj;exact gH hO.fm (hok r hr') zo
     ·rw [lth,<-lus,hw'] at h;exact (h.elim hn D1).elim
    ·refine bQ (decide_eq_false fun z=>h5 (by have:=V.int.inj z;omega)) ?_;refine ⟨_,rfl,rfl,_,rfl,?_⟩;by_cases h6:way=6
     ·refine bK (decide_eq_true (by rw [h6];rfl)) ?_;refine fun d2 n2=>⟨_,rfl,zlx,fun l3 n3=>?_⟩;have s2:=af (o:=.dK []) n2;have L2:=tg_dct g1 n2;have g2:=g1.same s2;generalize aq H1 d2 (.dK [])=H2 at *;have s3:=af (o:=.lst [.non,.int 5,.str "",.ref d2,.bl true,.str "rows",.int (-1)]) n3;have e3:(aq H2 l3 (.lst [.non,.int 5,.str "",.ref d2,.bl true,.str "rows",.int (-1)])) l3=some (.lst [.non,.int 5,.str "",.ref d2,.bl true,.str "rows",.int (-1)]):=ae;have L3:=L2.same s3;have g3:=g2.same s3;have ql3:=g2.ne n3;generalize aq H2 l3 (.lst [V.non,.int 5,.str "",.ref d2,.bl true,.str "rows",.int (-1)])=H3 at *;refine ⟨_,rfl,q,7,rfl,g3,zd,zd,fun j H4 hj g4 b4=>?_⟩;have L4:=L3.but g3 b4;have hx:∃ x t,([V.non,.int 5,.str "",.ref d2,.bl true,.str "rows",.int (-1)]:List V)[j]?=some x/\TgV q H4 x t/\t.isSeq=false:=by
       rcases (by omega:j=0\/j=1\/j=2\/j=3\/j=4\/j=5\/j=6) with rfl|rfl|rfl|rfl|rfl|rfl|rfl
       ·exact ⟨_,_,rfl,.non,rfl⟩
       ·exact ⟨_,_,rfl,.int _,rfl⟩
       ·exact ⟨_,_,rfl,.str _,rfl⟩
       ·exact ⟨_,_,rfl,L4,rfl⟩
       ·exact ⟨_,_,rfl,.bl _,rfl⟩
       ·exact ⟨_,_,rfl,.str _,rfl⟩
       ·exact ⟨_,_,rfl,.int _,rfl⟩
      obtain ⟨x,t,hx,tx,hs⟩:=hx;refine ⟨l3,_,_,_,rfl,rfl,SqL.of (b4 _ _ e3 ql3.symm),bN hx,_,rfl,?_⟩;exact ⟨x,iE bl,x,t,_,t,q,_,_,rfl,b1.trans ((fw (s2.trans s3)).trans b4),tx,bl_tg bl,tx,.no hs rfl⟩
     ·refine bQ (decide_eq_false fun z=>h6 (by have:=V.int.inj z;omega)) ?_;refine ⟨_,rfl,41,rfl,zd,zd,?_⟩;refine i8 (lo:=0) (n:=41) (fun j ys H'=>∃ rs2:List Rw,Strm H' q/\But q H1 H'/\Paired (RowV H') ys rs2/\rs2.length=j/\∀ r∈rs2,gT D 0 r) ⟨[],g1,But.refl _ _,.nil,rfl,fun _ z=>nomatch z⟩ (fun j ys H' hj ⟨rs2,_,_,e1,e2,_⟩=>by have:=e1.length;omega) ?_ ?_
      ·rintro i ys H2 hi ⟨rs2,g2,b2,pr,l2,ho⟩;refine ⟨⟨rfl,rfl,trivial⟩,dk ⟨_,rfl,_,rfl,q,d,Hb,D,fn,kvs,lf,lp,lm,lk,lg,ks,0,rfl,g2,kp _ (b1.trans b2),nq,hK,hO,zd,fun u r H3 hu hR g3 b3=>?_⟩⟩;refine Nx.mk hi ⟨rs2++[r],g3,b2.trans b3,dP hu (bR (fun _ _ h=>RowV.but g2 b3 h) pr),by rw [DL,l2];rfl,fun r' hr'=>?_⟩;rcases D0.mp hr' with h|h
       ·exact ho r' h
       ·rw [DZ.mp h];exact hR
      ·rintro ys H2 ⟨rs2,g2,b2,pr,l2,ho⟩ l3 n3;have ly:=pr.length;have s3:=af (o:=.lst ys) n3;have e3:(aq H2 l3 (.lst ys)) l3=some (.lst ys):=ae;have g3:=g2.same s3;have b3:=(b1.trans b2).same s3;have pr3:=bR (fun _ _ h=>RowV.kt (aW s3) h) pr;generalize aq H2 l3 (.lst ys)=H3 at *;have elr3:=b3 _ _ elr0 lrq;refine ⟨lr,l3,_,_,rfl,rfl,elr3,e3,zo,fun l4 n4=>?_⟩;generalize zz:aq H3 l4 _=H4;have ⟨s4,e4⟩:=nw n4 zz;clear zz;refine ⟨(41:Int),rfl,l4,_,rfl,SqL.of e4,fun l5 n5=>?_⟩;have e41:cC (us++ys) none (some 41)=(us++ys).take 41:=gE _ 41;rw [e41];have s5:=af (o:=.lst ((us++ys).take 41)) n5;have e5:(aq H4 l5 (.lst ((us++ys).take 41))) l5=some (.lst ((us++ys).take 41)):=ae;have g4:=g3.same s4;have ql5:=g4.ne n5;generalize aq H4 l5 (.lst ((us++ys).take 41))=H5 at *;have g5:=g4.same s5;refine ⟨zlx,fun l6 n6=>?_⟩;have s6:=af (o:=.lst [.non]) n6;have e6:(aq H5 l6 (.lst [.non])) l6=some (.lst [.non]):=ae;have g6:=g5.same s6;have ql6:=g5.ne n6;generalize aq H5 l6 (.lst [V.non])=H6 at *;refine ⟨_,rfl,q,2,rfl,g6,zd,zd,fun k H7 hk g7 b7=>?_⟩;have e5':=b7 _ _ (s6 _ _ e5) ql5.symm;have e6':=b7 _ _ e6 ql6.symm;have tk:((k:Int)).toNat=k:=EJ k;refine ⟨l6,(k:Int),_,rfl,rfl,e6',zo,zo,by rw [tk];show 1*k<=sizeLine;omega,fun l8 n8=>?_⟩;rw [tk];generalize zz:aq H7 l8 _=H8;have ⟨s8,e8⟩:=nw n8 zz;clear zz;have lk8:=kE [V.non] k;have lt5:((us++ys).take 41).length=41:=by rw [DS,DL];omega
       refine ⟨l5,l8,_,_,rfl,rfl,s8 _ _ e5',e8,by rw [lt5,lk8];show 41+k*1<=sizeLine;omega,fun l9 n9=>?_⟩;have s9:=af (o:=.lst ((us++ys).take 41++(List.replicate k [V.non]).flatten)) n9;have e9:(aq H8 l9 (.lst ((us++ys).take 41++(List.replicate k [V.non]).flatten))) l9=some (.lst ((us++ys).take 41++(List.replicate k [V.non]).flatten)):=ae;have g9:=(g7.same s8).same s9;have ql9:=(g7.same s8).ne n9;have b09:But q H _:=((((b3.same s4).same s5).same s6).trans b7).same (s8.trans s9);have pr9:Paired (RowV _) ys rs2:=bR (fun _ _ h=>RowV.kt (aW (s8.trans s9)) h) (bR (fun _ _ h=>RowV.but g6 b7 h) (bR (fun _ _ h=>RowV.kt (aW (s4.trans (s5.trans s6))) h) pr3));generalize aq H8 l9 (.lst ((us++ys).take 41++(List.replicate k [V.non]).flatten))=H9 at *;have R9:Paired (RowV H9) us rs:=bR (fun _ _ h=>RowV.kt (aW (kp _ b09)) h) hrs;have T9:TgA q H9 ((us++ys).take 41++(List.replicate k [V.non]).flatten) (((rs++rs2).map cE).take 41++(List.replicate k [Th.non]).flatten):=by
        refine TgA.app (TgA.take ?_ 41) ?_
        ·rw [DP];exact (tg_rows R9).app (tg_rows pr9)
        ·have:∀ k,TgA q H9 (List.replicate k [V.non]).flatten (List.replicate k [Th.non]).flatten:=fun k=>by
          induction k with
          | zero=>exact .nil
          | succ k ih=>exact .cons .non ih
         exact this k
       have lt9:=T9.length;rw [DL,lt5,lk8] at lt9;have lrr:((rs++rs2).map cE).length=rs.length+41:=by rw [DI,DL,l2]
       have lm9:(((rs++rs2).map cE).take 41).length=41:=by rw [DS];omega
       have h40x:40 < ((us++ys).take 41++(List.replicate k [V.non]).flatten).length:=by rw [DL,lt5];omega
       have hx:=D9 h40x;obtain ⟨ti,hti,tti⟩:=T9.get hx;refine ⟨_,rfl,l9,_,_,_,rfl,rfl,SqL.of e9,bN hx,_,rfl,?_⟩;refine ⟨.ref l9,.int (-1),_,_,_,ti,q,_,_,rfl,b09,.lst ql9.symm e9 T9,.int _,tti,.row q l9 _ _ 40 _ ti rfl (.inl ⟨e9,rfl⟩) T9 hx hti (DN _) (fun j tj hj htj=>?_) (.inl rfl) rfl⟩;rw [Es zo,List.getElem?_take_of_lt zo] at htj;obtain ⟨r,hr',rfl⟩:=D2.mp (D4 htj);have hlen:41<=(((rs++rs2).map cE).take 41++(List.replicate k [Th.non]).flatten).length:=by rw [<-lt9];omega
       rcases D0.mp hr' with h|h
       ·exact gH hO.fm (hok r h) zo
       ·exact gH hO.fm (ho r h) zo
end
def qn (n:Nat):Str:=S (List.replicate n 113)
theorem qn_ok (h5:5<=n) (h8:n<=8):NameS (qn n):=by
 refine lI ⟨by rw [EA];omega,by rw [EA];omega,?_,fun c hc=>by rw [List.eq_of_mem_replicate hc];decide⟩;rcases (by omega:n=5\/n=6\/n=7\/n=8) with rfl|rfl|rfl|rfl<;>decide +kernel
structure Pt (D:Fm) (fn:List Str):Prop where
 w4:4<=D.width
 w24:D.width<=24
 ce:4<=D.cells/\D.cells<=64
 de:D.depth<=8
 nd:(D.places++D.marks++fn).Nodup
 gt:∀ z∈D.gates,z∈D.marks
 g1:D.gates.length<=1
 kn:(D.kinds.map Kn.name).Nodup
 kf:∀ x∈D.kinds,∃ st,x.fs=fn.zip st/\st.length<=3/\∀ s∈st,s∈sortL/\True
 p1:1<=D.places.length
 p4:D.places.length<=4
 m3:D.marks.length<=3
 k1:1<=D.kinds.length
 k8:D.kinds.length<=8
 f3:fn.length=3
 nP:∀ z∈D.places,NameS z
 nM:∀ z∈D.marks,NameS z
 nF:∀ z∈fn,NameS z
 nK:∀ x∈D.kinds,NameS x.name
theorem Pt.of {fn:List Str} (h:ShOk D fn) (q:m5 D fn):Pt D fn:=
 ⟨h.w4,h.w24,h.w.ce,h.w.de,q.nd,h.fm.gt,h.fm.g1,h.fm.kn,h.w.kf,h.p1,h.fm.p4,h.fm.m3,h.k1,h.fm.k8,h.f3,h.nm.pl,h.nm.mrk,h.fS,h.nm.kn⟩
theorem Pt.sh {fn:List Str} (h:Pt D fn):lG D fn:=by
 refine ⟨h.w4,h.w24,h.ce,h.de,⟨?_,h.gt,h.g1,h.kn,fun x hx=>?_,h.p4,h.m3,h.k8⟩,⟨h.nP,h.nM,h.nK⟩,h.f3,h.nF,h.p1,h.k1,h.kf⟩
 ·unfold fY;rw [DP,dQ,dQ];exact h.nd.sublist (List.sublist_append_left _ _)
 ·obtain ⟨st,e,l3,_⟩:=h.kf x hx;have f3:=h.f3;refine ⟨?_,by rw [e,List.length_zip];omega⟩;unfold fY;rw [DP,DP,dQ,dQ,e,dw _ _ zo];exact h.nd.sublist (List.Sublist.append_left (List.take_sublist _ _) _)
theorem strD_inj:∀ {a b:List Str},strD a=strD b->a=b
 | [],[],_=>rfl
 | [],_::_,h=>nomatch h
 | _::_,[],h=>nomatch h
 | x::a,y::b,h=>by
  have h':=List.cons.inj (show PyData.str x::strD a=PyData.str y::strD b from h);rw [PyData.str.inj h'.1,strD_inj h'.2]
structure ShE (D D':Fm):Prop where
 w:D.width=D'.width
 c:D.cells=D'.cells
 d:D.depth=D'.depth
 p:D.places=D'.places
 m:D.marks=D'.marks
 g:gateD D=gateD D'
 k:D.kinds.map Kn.name=D'.kinds.map Kn.name
 f:D.kinds.map fsD=D'.kinds.map fsD
theorem shD_e {D D':Fm} (h:shD D=shD D'):ShE D D':=by
 unfold shD at h;have h:=PyData.tuple.inj h;injection h with h1 h;injection h with h2 h;injection h with h3 h;injection h with h4 h;injection h with h5 h;injection h with h6 h;injection h with h7 h;injection h with h8 h;exact ⟨by have:=PyData.int.inj h1;omega,by have:=PyData.int.inj h2;omega,by have:=PyData.int.inj h3;omega,strD_inj (PyData.tuple.inj h4),strD_inj (PyData.tuple.inj h5),h6,strD_inj (PyData.tuple.inj h7),PyData.tuple.inj h8⟩
def Ot (D D':Fm) (fn':List Str):Prop:=lG D' fn'/\shD D≠shD D'
section
variable {D:Fm} {fn:List Str}
theorem ot_width (h:Pt D fn):Ot D { D with width:=4+(D.width - 3) % 21 } fn:=by
 have w4:=h.w4;have w24:=h.w24;refine ⟨Pt.sh { h with w4:=by show 4<=4+_;omega,w24:=by show 4+_<=24;omega },fun e=>?_⟩;have:D.width=4+(D.width - 3) % 21:=(shD_e e).w;omega
theorem ot_cells (h:Pt D fn) (e4:D.cells=4):Ot D { D with cells:=5 } fn:=
 ⟨Pt.sh { h with ce:=⟨by show 4<=5;decide,by show 5<=64;decide⟩ },fun e=>by
  have:D.cells=5:=(shD_e e).c;omega⟩
theorem ot_depth (h:Pt D fn) (e0:D.depth=0):Ot D { D with depth:=1 } fn:=
 ⟨Pt.sh { h with de:=by show 1<=8;decide },fun e=>by
  have:D.depth=1:=(shD_e e).d;omega⟩
variable {g:List Str}
theorem ot_gate (h:Pt D fn) (hg:∀ z∈g,z∈D.marks) (g1:g.length<=1) (hn:D.gates=[]↔g≠[]):Ot D { D with gates:=g } fn:=
 ⟨Pt.sh { h with gt:=hg,g1:=g1 },fun e=>by
  have:=(shD_e e).g;unfold gateD at this;cases h1:D.gates with
  | nil=>
   cases h2:g with
   | nil=>exact hn.mp h1 h2
   | cons b s=>
    simp only [h1,h2] at this;cases this
  | cons a r=>
   cases h2:g with
   | nil=>
    simp only [h1,h2] at this;cases this
   | cons b s=>exact absurd (hn.mpr (by rw [h2];simp)) (by rw [h1];simp)⟩
theorem ot_places (h:Pt D fn) {p:List Str} (nd:(p++D.marks++fn).Nodup) (lp:p.length=D.places.length) (hn:∀ z∈p,NameS z) (ne:D.places≠p):Ot D { D with places:=p } fn:=
 ⟨Pt.sh { h with nd:=nd,p1:=by show 1<=p.length;rw [lp];exact h.p1,p4:=by show p.length<=4;rw [lp];exact h.p4,nP:=hn },fun e=>ne (shD_e e).p⟩
theorem ot_marks (h:Pt D fn) {m g:List Str} (nd:(D.places++m++fn).Nodup) (lm:m.length<=3) (hn:∀ z∈m,NameS z) (ne:D.marks≠m) (hg:∀ z∈g,z∈m) (g1:g.length<=1):Ot D { D with marks:=m,gates:=g } fn:=
 ⟨Pt.sh { h with nd:=nd,gt:=hg,g1:=g1,m3:=lm,nM:=hn },fun e=>ne (shD_e e).m⟩
theorem ot_kinds (h:Pt D fn) {k:List Kn} (kn:(k.map Kn.name).Nodup) (kf:∀ x∈k,∃ st,x.fs=fn.zip st/\st.length<=3/\∀ s∈st,s∈sortL/\True) (lk:k.length=D.kinds.length) (hn:∀ x∈k,NameS x.name) (ne:D.kinds.map Kn.name≠k.map Kn.name\/D.kinds.map fsD≠k.map fsD):Ot D { D with kinds:=k } fn:=
 ⟨Pt.sh { h with kn:=kn,kf:=kf,k1:=by show 1<=k.length;rw [lk];exact h.k1,k8:=by show k.length<=8;rw [lk];exact h.k8,nK:=hn },fun e=>ne.elim (fun n=>n (shD_e e).k) (fun n=>n (shD_e e).f)⟩
theorem rev_ne {α:Type} {l:List α} (nd:l.Nodup) (h:1 < l.length):l≠l.reverse:=fun e=>by
 have h1:l[0]?=l.reverse[0]?:=by rw [<-e]
 rw [List.getElem?_reverse zo,D9 zo,D9 zo] at h1;have:=(List.getElem_inj nd (h₀:=by omega) (h₁:=by omega)).mp (D5 h1);omega
variable {z:Str}
theorem nd_new {p m f:List Str} (nd:(p++m++f).Nodup) (hz:∀ y∈p++m++f,y≠z) {p' m' f':List Str} (hp:(p'++m'++f').Perm (z::(p++m++f))):(p'++m'++f').Nodup:=
 hp.symm.nodup (EL.mpr ⟨fun h=>hz z h rfl,nd⟩)
theorem all_nq (q:m5 D fn) (h5:5<=n):∀ y∈D.places++D.marks++fn,y≠qn n:=fun y hy=>by
 rcases D0.mp hy with h|h
 ·rcases D0.mp h with h|h
  ·exact q.pq y h n h5
  ·exact q.mq y h n h5
 ·exact q.fq y h n h5
theorem sub_nq {a b:List Str} (h:∀ y∈b,y≠z) (s:a.Sublist b):∀ y∈a,y≠z:=fun y hy=>h y (s.subset hy)
theorem ot_p1 (h:Pt D fn) (q:m5 D fn):Ot D { D with places:=qn 7::D.places.drop 1 } fn:=by
 have p1:=h.p1;have sl:(D.places.drop 1++D.marks++fn).Sublist (D.places++D.marks++fn):=((List.drop_sublist _ _).append_right _).append_right _;refine ot_places h (nd_new (h.nd.sublist sl) (sub_nq (all_nq q zd) sl) (List.Perm.refl _)) ?_ (fun z hz=>?_) (fun e=>?_)
 ·rw [DQ,Ea];omega
 ·rcases DY.mp hz with rfl|hz
  ·exact qn_ok zd zd
  ·exact h.nP z (List.mem_of_mem_drop hz)
 ·have:qn 7∈D.places:=by rw [e];exact DM
  exact q.pq _ this 7 zd rfl
theorem ot_prev (h:Pt D fn) (l:1 < D.places.length):Ot D { D with places:=D.places.reverse } fn:=by
 refine ot_places h ?_ List.length_reverse (fun z hz=>h.nP z (List.mem_reverse.mp hz)) (rev_ne (h.nd.sublist ((List.sublist_append_left _ _).trans (List.sublist_append_left _ _))) l);exact (((List.reverse_perm _).append_right _).append_right _).symm.nodup h.nd
theorem ot_m1 (h:Pt D fn) (q:m5 D fn) (l:D.marks.length < 3):Ot D { D with marks:=D.marks++[qn 5] } fn:=by
 refine ot_marks h (nd_new (z:=qn 5) h.nd (all_nq q zd) ?_) (by rw [DL];show _+1<=3;omega) (fun z hz=>?_) (fun e=>?_) (fun z hz=>ET _ (h.gt z hz)) h.g1
 ·have:(D.places++(D.marks++[qn 5])++fn)=(D.places++D.marks)++(qn 5::fn):=by simp
  rw [this];exact List.perm_middle
 ·rcases D0.mp hz with hz|hz
  ·exact h.nM z hz
  ·rw [DZ.mp hz];exact qn_ok zd zd
 ·have:=congrArg List.length e;rw [DL] at this;simp at this
theorem ot_m2 (h:Pt D fn) (l:D.marks≠[]):Ot D { D with marks:=D.marks.take (D.marks.length - 1),gates:=[] } fn:=by
 have m3:=h.m3;have l1:=Fa.mpr l;refine ot_marks h (h.nd.sublist (((List.take_sublist _ _).append_left _).append_right _)) (by rw [DS];omega) (fun z hz=>h.nM z (Ei hz)) (fun e=>?_) (fun z hz=>nomatch hz) (Ej _);have:=congrArg List.length e;rw [DS] at this;omega
theorem ot_m3 (h:Pt D fn) (q:m5 D fn) (l:D.marks≠[]):Ot D { D with marks:=D.marks.take (D.marks.length - 1)++[qn 5],gates:=[] } fn:=by
 have m3:=h.m3;have l1:=Fa.mpr l;have sl:(D.places++D.marks.take (D.marks.length - 1)++fn).Sublist (D.places++D.marks++fn):=((List.take_sublist _ _).append_left _).append_right _;refine ot_marks h (nd_new (z:=qn 5) (h.nd.sublist sl) (sub_nq (all_nq q zd) sl) ?_) (by rw [DL,DS];show _+1<=3;omega) (fun z hz=>?_) (fun e=>?_) (fun z hz=>nomatch hz) (Ej _)
 ·generalize D.marks.take (D.marks.length - 1)=m;have:(D.places++(m++[qn 5])++fn)=(D.places++m)++(qn 5::fn):=by simp
  rw [this];exact List.perm_middle
 ·rcases D0.mp hz with hz|hz
  ·exact h.nM z (Ei hz)
  ·rw [DZ.mp hz];exact qn_ok zd zd
 ·have:qn 5∈D.marks:=by rw [e];exact Ek _ DM
  exact q.mq _ this 5 zd rfl
theorem ot_k1 (h:Pt D fn) (q:m5 D fn):Ot D { D with kinds:=D.kinds.drop 1++[⟨qn 8,[]⟩] } fn:=by
 have k1:=h.k1;have nn:∀ x∈D.kinds,x.name≠qn 8:=fun x hx=>q.kq x hx 8 zd;refine ot_kinds h ?_ (fun x hx=>?_) (by rw [DL,Ea];show _+1=_;omega) (fun x hx=>?_) (.inl fun e=>?_)
 ·rw [DP];show (_++[qn 8]).Nodup;rw [Fg];refine ⟨h.kn.sublist ((List.drop_sublist _ _).map _),by simp,fun a ha b hb e=>?_⟩;rw [DZ.mp hb] at e;obtain ⟨x,hx,rfl⟩:=D2.mp ha;exact nn x (List.mem_of_mem_drop hx) e
 ·rcases D0.mp hx with hx|hx
  ·exact h.kf x (List.mem_of_mem_drop hx)
  ·rw [DZ.mp hx];exact ⟨[],by simp,zd,fun _ z=>nomatch z⟩
 ·rcases D0.mp hx with hx|hx
  ·exact h.nK x (List.mem_of_mem_drop hx)
  ·rw [DZ.mp hx];exact qn_ok zd zd
 ·have:qn 8∈D.kinds.map Kn.name:=by
   rw [e,DP];exact Ek _ DM
  obtain ⟨x,hx,e2⟩:=D2.mp this;exact nn x hx e2
theorem ot_krev (h:Pt D fn) (l:1 < D.kinds.length):Ot D { D with kinds:=D.kinds.reverse } fn:=by
 refine ot_kinds h (by rw [List.map_reverse];exact (List.reverse_perm _).symm.nodup h.kn) (fun x hx=>h.kf x (List.mem_reverse.mp hx)) List.length_reverse (fun x hx=>h.nK x (List.mem_reverse.mp hx)) (.inl ?_);rw [List.map_reverse];exact rev_ne h.kn (by rw [DI];exact l)
theorem fsD_inj:∀ {a b:List (Str×Str)},a.map fldD=b.map fldD->a=b
 | [],[],_=>rfl
 | [],_::_,h=>nomatch h
 | _::_,[],h=>nomatch h
 | x::a,y::b,h=>by
  rw [D6,D6] at h;obtain ⟨h1,h2⟩:=List.cons.inj h;have e:=PyData.tuple.inj h1;injection e with e1 e2;injection e2 with e3 _;rw [fsD_inj h2,Prod.ext (PyData.str.inj e1) (PyData.str.inj e3)]
variable {x0:Kn}
theorem ot_k2 (h:Pt D fn) (hx0:D.kinds[D.kinds.length - 1]?=some x0) {s:Str} (hs:s∈sortL) (ne:x0.fs.map (·.2)≠[s]):Ot D { D with kinds:=D.kinds.take (D.kinds.length - 1)++[⟨x0.name,fn.zip [s]⟩] } fn:=by
 have k1:=h.k1;have f3:=h.f3;have ek:D.kinds=D.kinds.take (D.kinds.length - 1)++[x0]:=by
  have:=(EE (D.kinds.length - 1) D.kinds).symm;rw [Ev zo,List.drop_eq_nil_of_le zo] at this;rw [D9 zo] at hx0;rw [D5 hx0] at this;exact this
 have en:(D.kinds.take (D.kinds.length - 1)++[(⟨x0.name,fn.zip [s]⟩:Kn)]).map Kn.name=D.kinds.map Kn.name:=by
  conv=>rhs;rw [ek]
  rw [DP,DP];rfl
 have xm:x0∈D.kinds:=D4 hx0;refine ot_kinds h (by rw [en];exact h.kn) (fun x hx=>?_) (by rw [DL,DS];show _+1=_;omega) (fun x hx=>?_) (.inr fun e=>?_)
 ·rcases D0.mp hx with hx|hx
  ·exact h.kf x (Ei hx)
  ·rw [DZ.mp hx];exact ⟨[s],rfl,by show 1<=3;decide,fun z hz=>by rw [DZ.mp hz];exact ⟨hs,trivial⟩⟩
 ·rcases D0.mp hx with hx|hx
  ·exact h.nK x (Ei hx)
  ·rw [DZ.mp hx];exact h.nK x0 xm
 ·rw [DP] at e;have e2:(D.kinds.take (D.kinds.length - 1)++[x0]).map fsD=(D.kinds.take (D.kinds.length - 1)).map fsD++[fsD ⟨x0.name,fn.zip [s]⟩]:=by rw [<-ek];exact e
  rw [DP] at e2;have e3:=List.append_cancel_left e2;injection e3 with e4 _;have e5:=fsD_inj (PyData.tuple.inj e4);have e6:x0.fs=fn.zip [s]:=e5;exact ne (by rw [e6];exact bE _ _ (by simp;omega))
theorem ot_names (h:Pt D fn) (q:m5 D fn) (hx0:x0∈D.kinds) (ne:x0.fs.map (·.2)≠[]):Ot D { D with kinds:=D.kinds.map fun x=>⟨x.name,(qn 6::fn.drop 1).zip (x.fs.map (·.2))⟩ } (qn 6::fn.drop 1):=by
 have f3:=h.f3;have sl:(D.places++D.marks++fn.drop 1).Sublist (D.places++D.marks++fn):=(List.drop_sublist _ _).append_left _;have en:(D.kinds.map fun x=>(⟨x.name,(qn 6::fn.drop 1).zip (x.fs.map (·.2))⟩:Kn)).map Kn.name=D.kinds.map Kn.name:=by
  rw [EV];rfl
 refine ⟨Pt.sh ⟨h.w4,h.w24,h.ce,h.de,nd_new (h.nd.sublist sl) (sub_nq (all_nq q zd) sl) List.perm_middle,h.gt,h.g1,by show (List.map Kn.name _).Nodup;rw [en];exact h.kn,fun x hx=>?_,h.p1,h.p4,h.m3,by show 1<=(List.map _ _).length;rw [DI];exact h.k1,by show (List.map _ _).length<=8;rw [DI];exact h.k8,by rw [DQ,Ea];omega,h.nP,h.nM,fun z hz=>?_,fun x hx=>?_⟩,fun e=>?_⟩
 ·obtain ⟨y,hy,rfl⟩:=D2.mp hx;obtain ⟨st,e1,e2,e3⟩:=h.kf y hy;have es:y.fs.map (·.2)=st:=by rw [e1];exact bE _ _ zo
  exact ⟨st,by rw [es],e2,e3⟩
 ·rcases DY.mp hz with rfl|hz
  ·exact qn_ok zd zd
  ·exact h.nF z (List.mem_of_mem_drop hz)
 ·obtain ⟨y,hy,rfl⟩:=D2.mp hx;exact h.nK y hy
 ·have e:=(shD_e e).f;have e:D.kinds.map fsD=(D.kinds.map fun x=>(⟨x.name,(qn 6::fn.drop 1).zip (x.fs.map (·.2))⟩:Kn)).map fsD:=e;rw [EV] at e;obtain ⟨i,hi⟩:=E8 hx0;have e':=congrArg (fun l=>l[i]?) e;simp only [Ec,hi,Fd] at e';have e5:=fsD_inj (PyData.tuple.inj (D5 e'));have e5:x0.fs=(qn 6::fn.drop 1).zip (x0.fs.map (·.2)):=e5;obtain ⟨st,e1,_,_⟩:=h.kf x0 hx0;cases hst:x0.fs with
  | nil=>rw [hst] at ne;exact ne rfl
  | cons f r=>
   rw [hst] at e5 e1;have hf:f.1=qn 6:=by
    rw [D6,List.zip_cons_cons] at e5;rw [(List.cons.inj e5).1]
   have hm:f∈fn.zip st:=by rw [<-e1];exact DM
   exact q.fq f.1 (iS hm).1 6 zd hf
end
end L3
namespace L2
open PySem PySem.Spec PyProof.Rows
variable {X:Cx}
theorem wU {K:ZF} {k:Nat} (h:X.K=K) (hr:Room k X.A):dE X (compareOp .NotEq) (rNeD K):=by subst h;exact op_neD hr
theorem xO {j:Nat} {p1 p2:Pos}:PE X (.UnaryOp .USub (.Constant (.int 1) j p1) p2) (tC (.int (-1))):=⟨fun pins s σ H Q I h=>(eo cN ah) pins s σ H Q I ⟨1,rfl,h⟩⟩
end L2
namespace L3
open PySem L2
abbrev qc:Stmt:=cG 103
def KdV (H:Hp) (u:V) (x:Kn):Prop:=∃ p l,u=.ref p/\H p=some (.tup [.str x.name,.ref l])/\H l=some (.lst (ak (x.fs.map (·.2))))
variable {x:Kn} {u:V} {H H':Hp}
theorem KdV.same (s:Same H H') (h:KdV H u x):KdV H' u x:=let ⟨p,l,a,b,c⟩:=h;⟨p,l,a,s _ _ b,s _ _ c⟩
variable {kvs:List (bT×V)}
theorem pn {k j:bT} {y v:V} (h:j≠k) (e:bq kvs j=some v):bq (aQ kvs k y) j=some v:=by rw [bz h];exact e
variable {ks:List V} {lf lp lm lk lg:Addr} {D:Fm} {d d':Addr}
theorem CQ {fn:List Str} (K:KpV H d D fn kvs lf lp lm lk lg ks) {w:Nat} (h:H d'=some (.dK (aQ kvs (kS "width") (.int (w:Nat))))):KpV H d' { D with width:=w } fn (aQ kvs (kS "width") (.int (w:Nat))) lf lp lm lk lg ks:=
 ⟨h,bS,(pn zk (K.v2)),(pn zk (K.v3)),(pn zk (K.v4)),(pn zk (K.v5)),(pn zk (K.v6)),(pn zk (K.v7)),(pn zk (K.v8)),K.ef,K.ep,K.em,K.eg,K.ek,K.kd⟩
theorem CS {fn:List Str} (K:KpV H d D fn kvs lf lp lm lk lg ks)  (h:H d'=some (.dK (aQ kvs (kS "cells") (.int 5)))):KpV H d' { D with cells:=5 } fn (aQ kvs (kS "cells") (.int 5)) lf lp lm lk lg ks:=
 ⟨h,(pn zk (K.v1)),bS,(pn zk (K.v3)),(pn zk (K.v4)),(pn zk (K.v5)),(pn zk (K.v6)),(pn zk (K.v7)),(pn zk (K.v8)),K.ef,K.ep,K.em,K.eg,K.ek,K.kd⟩
theorem CU {fn:List Str} (K:KpV H d D fn kvs lf lp lm lk lg ks)  (h:H d'=some (.dK (aQ kvs (kS "depth") (.int 1)))):KpV H d' { D with depth:=1 } fn (aQ kvs (kS "depth") (.int 1)) lf lp lm lk lg ks:=
 ⟨h,(pn zk (K.v1)),(pn zk (K.v2)),bS,(pn zk (K.v4)),(pn zk (K.v5)),(pn zk (K.v6)),(pn zk (K.v7)),(pn zk (K.v8)),K.ef,K.ep,K.em,K.eg,K.ek,K.kd⟩
variable {p:List Str} {a:Addr}
theorem Bx {fn:List Str} (K:KpV H d D fn kvs lf lp lm lk lg ks) (e:H a=some (.lst (ak p))) (h:H d'=some (.dK (aQ kvs (kS "places") (.ref a)))):KpV H d' { D with places:=p } fn (aQ kvs (kS "places") (.ref a)) lf a lm lk lg ks:=
 ⟨h,(pn zk (K.v1)),(pn zk (K.v2)),(pn zk (K.v3)),(pn zk (K.v4)),bS,(pn zk (K.v6)),(pn zk (K.v7)),(pn zk (K.v8)),K.ef,e,K.em,K.eg,K.ek,K.kd⟩
theorem CV {fn:List Str} (K:KpV H d D fn kvs lf lp lm lk lg ks) (e:H a=some (.lst (ak p))) (h:H d'=some (.dK (aQ kvs (kS "marks") (.ref a)))):KpV H d' { D with marks:=p } fn (aQ kvs (kS "marks") (.ref a)) lf lp a lk lg ks:=
 ⟨h,(pn zk (K.v1)),(pn zk (K.v2)),(pn zk (K.v3)),(pn zk (K.v4)),(pn zk (K.v5)),bS,(pn zk (K.v7)),(pn zk (K.v8)),K.ef,K.ep,e,K.eg,K.ek,K.kd⟩
theorem By {fn:List Str} (K:KpV H d D fn kvs lf lp lm lk lg ks) (e:H a=some (.lst (ak p))) (h:H d'=some (.dK (aQ kvs (kS "gate") (.ref a)))):KpV H d' { D with gates:=p } fn (aQ kvs (kS "gate") (.ref a)) lf lp lm lk a ks:=
 ⟨h,(pn zk (K.v1)),(pn zk (K.v2)),(pn zk (K.v3)),(pn zk (K.v4)),(pn zk (K.v5)),(pn zk (K.v6)),(pn zk (K.v7)),bS,K.ef,K.ep,K.em,e,K.ek,K.kd⟩
theorem xP {fn:List Str} (K:KpV H d D fn kvs lf lp lm lk lg ks) {a b:Addr} (e:H a=some (.lst (ak p))) (e2:H b=some (.lst [])) (h:H d'=some (.dK (aQ (aQ kvs (kS "marks") (.ref a)) (kS "gate") (.ref b)))):KpV H d' { D with marks:=p,gates:=[] } fn (aQ (aQ kvs (kS "marks") (.ref a)) (kS "gate") (.ref b)) lf lp a lk b ks:=
 ⟨h,(pn zk (pn zk (K.v1))),(pn zk (pn zk (K.v2))),(pn zk (pn zk (K.v3))),(pn zk (pn zk (K.v4))),(pn zk (pn zk (K.v5))),(pn zk (bS)),(pn zk (pn zk (K.v7))),bS,K.ef,K.ep,e,e2,K.ek,K.kd⟩
variable {us:List V}
theorem zq {fn:List Str} (K:KpV H d D fn kvs lf lp lm lk lg ks) {k:List Kn} (e:H a=some (.lst us)) (pr:Paired (KdV H) us k) (h:H d'=some (.dK (aQ kvs (kS "kinds") (.ref a)))):KpV H d' { D with kinds:=k } fn (aQ kvs (kS "kinds") (.ref a)) lf lp lm a lg us:=
 ⟨h,(pn zk (K.v1)),(pn zk (K.v2)),(pn zk (K.v3)),(pn zk (K.v4)),(pn zk (K.v5)),(pn zk (K.v6)),bS,(pn zk (K.v8)),K.ef,K.ep,K.em,K.eg,e,pr⟩
theorem CW {fn:List Str} (K:KpV H d D fn kvs lf lp lm lk lg ks) {f:List Str} {k:List Kn} (e:H a=some (.lst (ak f))) (pr:Paired (KdV H) ks k) (h:H d'=some (.dK (aQ kvs (kS "names") (.ref a)))):KpV H d' { D with kinds:=k } f (aQ kvs (kS "names") (.ref a)) a lp lm lk lg ks:=
 ⟨h,(pn zk (K.v1)),(pn zk (K.v2)),(pn zk (K.v3)),bS,(pn zk (K.v5)),(pn zk (K.v6)),(pn zk (K.v7)),(pn zk (K.v8)),e,K.ep,K.em,K.eg,K.ek,pr⟩
inductive OthV (o:Addr) (H0 H:Hp) (kvs:List (bT×V)) (D:Fm) (u:V):Prop
 | mk (a:Addr) (mv:List (bT×V)) (D':Fm) (fn':List Str) (lf lp lm lk lg:Addr) (ks:List V):u=.ref a->a≠o->H a=some (.dK mv)->mv.length<=2->Ot D D' fn'->(∀ H' d',Same H0 H'->But o H H'->H' d'=some (.dK (ba kvs mv))->KpV H' d' D' fn' (ba kvs mv) lf lp lm lk lg ks)->OthV o H0 H kvs D u
theorem OthV.but {o:Addr} {H0 H H1:Hp} (b:But o H H1) (h:OthV o H0 H kvs D u):OthV o H0 H1 kvs D u:=by
 obtain ⟨a,mv,D',fn',lf,lp,lm,lk,lg,ks,e,n,ea,l,ot,k⟩:=h;exact ⟨a,mv,D',fn',lf,lp,lm,lk,lg,ks,e,n,b _ _ ea n,l,ot,fun H' d' s b'=>k H' d' s (b.trans b')⟩
structure FoX (H:Hp) (kvs:List (bT×V)) (D:Fm) (lo:Addr) (xs:List V) (n:Nat) (H':Hp):Prop where
 s:Same H H'
 nl:H lo=none
 el:H' lo=some (.lst xs)
 ln:xs.length<=n
 al:∀ u∈xs,OthV lo H H' kvs D u
variable {n:Nat} {xs:List V} {lo:Addr} {H1 H2:Hp}
theorem FoX.same (F:FoX H kvs D lo xs n H1) (s:Same H1 H2):FoX H kvs D lo xs n H2:=
 ⟨F.s.trans s,F.nl,s _ _ F.el,F.ln,fun u hu=>(F.al u hu).but (fw s)⟩
theorem FoX.le {n m:Nat} (F:FoX H kvs D lo xs n H1) (h:n<=m):FoX H kvs D lo xs m H1:=⟨F.s,F.nl,F.el,Ef F.ln h,F.al⟩
theorem FoX.add (F:FoX H kvs D lo xs n H1) (s:Same H1 H2) (o:OthV lo H H2 kvs D u):FoX H kvs D lo (xs++[u]) (n+1) (aq H2 lo (.lst (xs++[u]))):=by
 refine ⟨aU F.nl (F.s.trans s),F.nl,ae,by rw [DL];exact Nat.add_le_add_right F.ln 1,fun x hx=>?_⟩;rcases D0.mp hx with h|h
 ·exact (F.al x h).but ((fw s).trans but_upd)
 ·rw [DZ.mp h];exact o.but but_upd
theorem FoX.ne {p:Addr} (F:FoX H kvs D lo xs n H1) (np:H1 p=none):p≠lo:=(ap F.el np).symm
theorem zt {α:Type} {xs:List α} {x:α} (h:xs[xs.length - 1]?=some x):nV xs (-1)=some x:=by
 have hl:=(DK.mp h).1;unfold nV vh;rw [if_neg zd,if_pos zo];show xs[(-1+(xs.length:Int)).toNat]?=some x;rw [show (-1+(xs.length:Int)).toNat=xs.length - 1 by omega];exact h
theorem oZ (xs:List V):cC xs none (some (-1))=xs.take (xs.length - 1):=by
 unfold cC;show (xs.drop 0).take ((-1+(xs.length:Int)).toNat - 0)=_;rw [E9,show (-1+(xs.length:Int)).toNat - 0=xs.length - 1 by omega]
theorem zu (xs:List V):cC xs (some (-1)) none=xs.drop (xs.length - 1):=by
 unfold cC;show (xs.drop (-1+(xs.length:Int)).toNat).take (xs.length - (-1+(xs.length:Int)).toNat)=_;rw [show (-1+(xs.length:Int)).toNat=xs.length - 1 by omega];refine Ep ?_;rw [Ea];exact DN _
theorem xQ {α β γ:Type} {R:α->γ->Prop} (f:β->γ):∀ {xs:List α} {ys:List β},Paired (fun a b=>R a (f b)) xs ys->Paired R xs (ys.map f)
 | _,_,.nil=>.nil
 | _,_,.cons h t=>.cons h (xQ f t)
theorem Bz {α β:Type} {R:α->β->Prop}:∀ {xs:List α} {ys:List β},Paired R xs ys->Paired (fun a b=>R a b/\b∈ys) xs ys
 | _,_,.nil=>.nil
 | _,_,.cons h t=>.cons ⟨h,DM⟩ (bR (fun _ _ h=>⟨h.1,DR _ h.2⟩) (Bz t))
theorem xS {α β:Type} {R:α->β->Prop}:∀ {xs:List α} {ys:List β} (n:Nat),Paired R xs ys->Paired R (xs.take n) (ys.take n)
 | _,_,0,h=>by rw [List.take_zero,List.take_zero];exact .nil
 | _,_,_+1,.nil=>.nil
 | _,_,n+1,.cons h t=>.cons h (xS n t)
theorem xT {α β:Type} {R:α->β->Prop}:∀ {xs:List α} {ys:List β} (n:Nat),Paired R xs ys->Paired R (xs.drop n) (ys.drop n)
 | _,_,0,h=>h
 | _,_,_+1,.nil=>.nil
 | _,_,n+1,.cons h t=>xT n t
theorem BB {α β:Type} {R:α->β->Prop}:∀ {xs:List α} {ys:List β},Paired R xs ys->Paired R xs.reverse ys.reverse
 | _,_,.nil=>.nil
 | _,_,.cons h t=>by rw [List.reverse_cons,List.reverse_cons];exact dP h (BB t)
theorem none_of (s:Same H H') (n:H' a=none):H a=none:=by
 cases h:H a with
 | none=>rfl
 | some o=>rw [s _ _ h] at n;cases n
theorem dD {H H1 H2 H3:Hp} {kvs mv:List (bT×V)} {D D':Fm} {fn':List Str} {lo p:Addr} (lf lp lm lk lg:Addr) (ks:List V) (F:FoX H kvs D lo xs n H1) (np:H1 p=none) (sp:∀ a o,H1 a=some o->H2 a=some o) (ep:H2 p=some (.dK [])) (s3:Same H2 H3) (l:mv.length<=2) (ot:Ot D D' fn')
  (k:∀ H' d',Same H H'->(∀ a l,H3 a=some (.lst l)->a≠lo->H' a=some (.lst l))->(∀ a l,H3 a=some (.tup l)->H' a=some (.tup l))->H' d'=some (.dK (ba kvs mv))->KpV H' d' D' fn' (ba kvs mv) lf lp lm lk lg ks):FoX H kvs D lo (xs++[.ref p]) (n+1) (aq (aq H3 p (.dK mv)) lo (.lst (xs++[.ref p]))):=by
 have ep3:=s3 _ _ ep;have el3:=s3 _ _ (sp _ _ F.el);refine F.add (aU np (Same.trans sp s3)) ⟨p,mv,D',fn',lf,lp,lm,lk,lg,ks,rfl,F.ne np,ae,l,ot,fun H' d' s b h=>k H' d' s (fun a l e n=>b _ _ ?_ n) (fun a l e=>b _ _ ?_ ?_) h⟩
 ·rw [ao (fun z=>by rw [z,ep3] at e;cases e)];exact e
 ·rw [ao (fun z=>by rw [z,ep3] at e;cases e)];exact e
 ·exact fun z=>by rw [z,el3] at e;cases e
theorem uK (l:List Str):cC (ak l) (some 1) none=ak (l.drop 1):=(lF (ak l) 1).trans (by unfold ak;rw [List.map_drop])
theorem uL (l:List Str):(ak l).reverse=ak l.reverse:=by unfold ak;rw [List.map_reverse]
theorem ko (l:List Str):ak l++[V.str (S (List.replicate 5 113))]=ak (l++[qn 5]):=by unfold ak;rw [DP];rfl
theorem kr (l:List Str):(ak l).take ((ak l).length - 1)=ak (l.take (l.length - 1)):=by unfold ak;rw [DI,List.map_take]
theorem re (l:List Str):(ak l).drop ((ak l).length - 1)=ak (l.drop (l.length - 1)):=by unfold ak;rw [DI,List.map_drop]
theorem BC (a b:V):ba [] [(kS "marks",a),(kS "gate",b)]=[(kS "marks",a),(kS "gate",b)]:=by
 show aQ (aQ [] (kS "marks") a) (kS "gate") b=_;have h1:aQ ([]:List (bT×V)) (kS "marks") a=[(kS "marks",a)]:=dm _ rfl;rw [h1];exact dm _ (by rw [bG (by show ¬ kS "marks"=_;decide +kernel)];rfl)
theorem De {a b:V}:ba kvs (ba [] [(kS "marks",a),(kS "gate",b)])=aQ (aQ kvs (kS "marks") a) (kS "gate") b:=by rw [BC];rfl
theorem BF {a b:V}:(ba [] [(kS "marks",a),(kS "gate",b)]).length<=2:=by rw [BC];exact DN 2
theorem cJ {z:Str} (h:NameS z):pH z=true:=okS_all fun c hc=>by have:=h.2.2.2 c hc;omega
theorem zx {fn:List Str} (h:Pt D fn) (hx:x∈D.kinds):∀ z∈x.fs.map (·.2),pH z=true:=fun z hz=>by
 have h2:sortL.all (fun z=>pH z)=true:=by decide +kernel
 obtain ⟨st,e1,_,e3⟩:=h.kf x hx;obtain ⟨f,hf,rfl⟩:=D2.mp hz;rw [e1] at hf;exact Eh.mp h2 _ (e3 _ (iS hf).2).1
theorem qd {fn:List Str} (h:Pt D fn) (hx:x∈D.kinds):(PyData.list (strD (x.fs.map (·.2)))).canLay0=true:=lay_strD (zx h hx)
def BT (x:Kn):PyData:=.tuple [.str x.name,.list (strD (x.fs.map (·.2)))]
theorem uM {K:ZF}:∀ {us:List V} {ks:List Kn},Paired (KdV H) us ks->DtAll K H us (ks.map BT)
 | _,_,.nil=>.nil
 | _,_,.cons h t=>by
  obtain ⟨p,l,rfl,hp,hl⟩:=h;exact .cons (.tup (SqT.of hp) (.cons (.str _) (.cons (.lst (SqL.of hl) (dt_strD _)) .nil))) (uM t)
theorem wW {fn:List Str} (h:Pt D fn) (hx:x∈D.kinds):(BT x).canLay0=true:=by
 have h1:(PyData.str x.name).canLay0=true:=cJ (h.nK x hx);have h2:=qd h hx;show ((PyData.str x.name).canLay0 && ((PyData.list (strD (x.fs.map (·.2)))).canLay0 && true))=true;rw [h1,h2];rfl
inductive Df (d:Addr) (D:Fm) (H:Hp) (σ:St) (H':Hp):Prop
 | mk (x0:Kn) (l0:Addr):σ=[some (.ref d),some (.str x0.name),some (.ref l0),none]->D.kinds[D.kinds.length - 1]?=some x0->H l0=some (.lst (ak (x0.fs.map (·.2))))->Same H H'->Df d D H σ H'
inductive FO (d:Addr) (D:Fm) (H:Hp) (kvs:List (bT×V)) (n:Nat) (σ:St) (H':Hp):Prop
 | mk (x0:Kn) (l0 lo:Addr) (xs:List V):σ=[some (.ref d),some (.str x0.name),some (.ref l0),some (.ref lo)]->D.kinds[D.kinds.length - 1]?=some x0->H l0=some (.lst (ak (x0.fs.map (·.2))))->FoX H kvs D lo xs n H'->FO d D H kvs n σ H'
inductive uN (vs:List V) (H:Hp) (Q:VK) (Z3:XK):Prop
 | mk (d:Addr) (D:Fm) (fn:List Str) (kvs:List (bT×V)) (lf lp lm lk lg:Addr) (ks:List V):vs=[.ref d]->KpV H d D fn kvs lf lp lm lk lg ks->ShOk D fn->m5 D fn->(∀ lo xs H',FoX H kvs D lo xs 13 H'->Q (.ref lo) H')->uN vs H Q Z3
variable {P:Program} {w:World} {K:ZF} {mg:Str->Option Value} {base:Heap} {C fi aS aE aF aO:Addr} {t1 t2 t3 t4 t5 tM:Tok}
theorem scOth:aw ["_law_kept","_law_name","_law_sorts","_law_found"] ["_law_kept"] (aj qc):=cI zk
theorem BG:(["_law_one"]:List Str).Nodup:=by decide +kernel
theorem zy {f:Addr} {fd:FuncData} (F:Fun K "_law_others" "_law_others" qc f fd) (B:Bl mg):FnOk P w K mg base bY 2 f fd ["_law_kept"] uN:=by
 have ZZ:=scOth
 walk_at "o"
 ·obtain ⟨d,D,fn,kvs,lf,lp,lm,lk,lg,ks,rfl,hK,hO,hQ,qq⟩:=h;have sz:(100000:Nat)<=sizeLine:=by decide
  have hu:=gi hr;have hP:=Pt.of hO hQ;refine ⟨_,aM (Df d D H) (ff (aZ aY (aV hu (pv 0) am) (eo cN ah)) (cM rfl (aJ (aC (i:=1) scOth.nd rfl (Or.inl rfl)) (aJ (aC (i:=2) scOth.nd rfl (Or.inl rfl)) cb)))) (aM (FO d D H kvs 3) (au (i:=3) scOth.nd rfl (Or.inl rfl) (aP (ac (cg (bh am (aG bO ah (aG dS (aG iZ (aV hu (pv 0) am) ah) ah)) cf) rfl rfl (by intro z;cases z) (by show 1<=15;decide)) (ac (cg (bh am ah cf) rfl rfl (by intro z;cases z) (by show 1<=15;decide)) (ac (cg (bh am ah cf) rfl rfl (by intro z;cases z) (by show 1<=15;decide)) ad))))) (aM (FO d D H kvs 4) (aI (bZ DV DU DT aT (pv 3) (ac (cg (bh am (aG cj (aP (ac (aG fO am ah) ad)) (br bV (aV hu (pv 0) am) (bv ah) bM)) cf) rfl rfl (by intro z;cases z) (by show 1<=15;decide)) ad))) (aM (FO d D H kvs 5) (aI (bZ DV DU DT aT (pv 3) (ac (cg (bh am (aG cj (br bV (aV hu (pv 0) am) (bv ah) bM) (aP (ac (aN (ac (aG fO am ah) (ac (aP ad) ad))) ad))) cf) rfl rfl (by intro z;cases z) (by show 1<=15;decide)) ad))) (aM (FO d D H kvs 6) (aI (bZ DV DU DT aT (pv 3) (ac (cg (bh am (aG cj (br bV (aV hu (pv 0) am) bM (bv (eo cN ah))) (aP (ac (aN (ac (pv 1) (ac (aZ aY (aP (ac (aP (ac am ad)) (ac (aP (ac am ad)) ad))) (aR fJ (by rfl) B.int ED (ac (cH (op_eqD hr) (pv 2) (aP (ac am ad))) ad))) ad))) ad))) cf) rfl rfl (by intro z;cases z) (by show 1<=15;decide)) ad))) (aM (FO d D H kvs 7) (bi (ar jQ (av ay (by rfl) B.len D3 (ac (aV hu (pv 0) am) ad)) ah) (ai (aI (bZ DV DU DT aT (pv 3) (ac (cg (bh am (pe_revL (aV hu (pv 0) am) xO) cf) rfl rfl (by intro z;cases z) (by show 1<=15;decide)) ad)))) aL) (aM (FO d D H kvs 8) (bi (ar (op_neD hr) (dN (N':=["_law_one"]) (ix:=[none]) (sc0:=aj qc) (N:=["_law_kept","_law_name","_law_sorts","_law_found"]) rfl zk (cW (aV hu (pv 0) am)) (fun _ _ _ _ _=>(aC (i:=0) BG rfl (Or.inl rfl) (.inr rfl))) (fun _ _ _ _ _=>(kH (ar (wU (K:=K) rfl hr) (aZ (lE (K:=K) rfl) (pv 0) ah) (aP ad)))) (fun _ _ _ _ _=>(pv 0))) (aP ad)) (ai (aI (bZ DV DU DT aT (pv 3) (ac (cg (bh am (aG cj (aP (ac (aG fO am ah) ad)) (br bV (aV hu (pv 0) am) (bv ah) bM)) cf) rfl rfl (by intro z;cases z) (by show 1<=15;decide)) ad)))) aL) (aM (FO d D H kvs 9) (bi (ar jQ (av ay (by rfl) B.len D3 (ac (aV hu (pv 0) am) ad)) ah) (ai (aI (bZ DV DU DT aT (pv 3) (ac (cg (bh am (pe_revL (aV hu (pv 0) am) xO) cf) rfl rfl (by intro z;cases z) (by show 1<=15;decide)) ad)))) aL) (aM (FO d D H kvs 10) (bi (ar dG (av ay (by rfl) B.len D3 (ac (aV hu (pv 0) am) ad)) ah) (ai (aI (bZ DV DU DT aT (pv 3) (ac (cg (bh am (aG cj (aV hu (pv 0) am) (aP (ac (aG fO am ah) ad))) cf) rfl rfl (by intro z;cases z) (by show 1<=15;decide)) ad)))) aL) (aM (FO d D H kvs 13) (bi (ar (op_neD hr) (aV hu (pv 0) am) (aP ad)) (aM (FO d D H kvs 11) (aI (bZ DV DU DT aT (pv 3) (ac (cg (bh am (br bV (aV hu (pv 0) am) bM (bv (eo cN ah))) (bh am (aP ad) cf)) rfl rfl (by intro z;cases z) (by show 2<=15;decide)) ad))) (aM (FO d D H kvs 12) (aI (bZ DV DU DT aT (pv 3) (ac (cg (bh am (aG cj (br bV (aV hu (pv 0) am) bM (bv (eo cN ah))) (aP (ac (aG fO am ah) ad))) (bh am (aP ad) cf)) rfl rfl (by intro z;cases z) (by show 2<=15;decide)) ad))) (ai (aI (bZ DV DU DT aT (pv 3) (ac (cg (bh am (rC (ar (op_neD hr) (aV hu (pv 0) am) (aP ad)) (aP ad) (br bV (aV hu (pv 0) am) (bv (eo cN ah)) bM)) cf) rfl rfl (by intro z;cases z) (by show 1<=15;decide)) ad)))))) aL) (ai (aA (pv 3)))))))))))),?_⟩;have lks:=hK.kd.length;have k1:=hO.k1;have k8:=hO.fm.k8;have p1:=hO.p1;have p4:=hO.fm.p4;have m3:=hO.fm.m3;refine ⟨?_,?_⟩;rotate_left
  ·have hj:ks.length - 1 < ks.length:=by omega
   have hju:=D9 hj;obtain ⟨x0,hx0,pt,l0,eu,hpt,hl0⟩:=iD hK.kd hju;rw [lks] at hx0;exact ⟨_,rfl,d,_,rfl,aX hK.dd hK.v7,_,rfl,lk,_,_,_,rfl,rfl,SqL.of hK.ek,zt hju,pt,_,eu,SqT.of hpt,rfl,_,_,rfl,_,_,rfl,rfl,x0,l0,rfl,hx0,hl0,Same.refl _⟩
  rintro σ H1 ⟨x0,l0,rfl,hx0,hl0,s1⟩;refine ⟨?_,?_⟩;rotate_left
  ·have K1:=hK.same s1;have ew:(4+((D.width:Int) - 3) % 21)=((4+(D.width - 3) % 21:Nat):Int):=by
    have:=hO.w4;omega
   refine fun p1 n1=>?_;have sp1:=af (o:=.dK []) n1;have K2:=K1.same sp1;refine ⟨_,rfl,d,_,rfl,aX K2.dd K2.v1,_,_,rfl,rfl,_,_,rfl,rfl,(by show (0:Int) < 21;decide),_,_,rfl,rfl,ae,[(kS "width",.int (4+((D.width:Int) - 3) % 21))],rfl,by show 1<=15;decide,?_⟩;rw [ew];have s2:=aU (o:=.dK (ba [] [(kS "width",.int ((4+(D.width - 3) % 21:Nat):Int))])) n1 sp1;have e2:(aq (aq H1 p1 (.dK [])) p1 (.dK (ba [] [(kS "width",.int ((4+(D.width - 3) % 21:Nat):Int))]))) p1=some (.dK (ba [] [(kS "width",.int ((4+(D.width - 3) % 21:Nat):Int))])):=ae;generalize aq (aq H1 p1 (.dK [])) p1 (.dK (ba [] [(kS "width",.int ((4+(D.width - 3) % 21:Nat):Int))]))=H2 at *;refine fun p2 n2=>⟨ae,[(kS "cells",.int 5)],rfl,by show 1<=15;decide,?_⟩;have s3:=aU (o:=.dK (ba [] [(kS "cells",.int 5)])) n2 (af (o:=.dK []) n2);have e3:(aq (aq H2 p2 (.dK [])) p2 (.dK (ba [] [(kS "cells",.int 5)]))) p2=some (.dK (ba [] [(kS "cells",.int 5)])):=ae;generalize aq (aq H2 p2 (.dK [])) p2 (.dK (ba [] [(kS "cells",.int 5)]))=H3 at *;refine fun p3 n3=>⟨ae,[(kS "depth",.int 1)],rfl,by show 1<=15;decide,?_⟩;have s4:=aU (o:=.dK (ba [] [(kS "depth",.int 1)])) n3 (af (o:=.dK []) n3);have e4:(aq (aq H3 p3 (.dK [])) p3 (.dK (ba [] [(kS "depth",.int 1)]))) p3=some (.dK (ba [] [(kS "depth",.int 1)])):=ae;generalize aq (aq H3 p3 (.dK [])) p3 (.dK (ba [] [(kS "depth",.int 1)]))=H4 at *;refine ⟨zlx,fun lo nlo=>?_⟩;have s5:=af (o:=.lst [.ref p1,.ref p2,.ref p3]) nlo;have s14:=s2.trans (s3.trans s4);have e2':=s4 _ _ (s3 _ _ e2);have e3':=s4 _ _ e3;refine ⟨x0,l0,lo,_,rfl,hx0,hl0,s1.trans (s14.trans s5),none_of (s1.trans s14) nlo,ae,DN 3,fun u hu=>?_⟩;rcases DY.mp hu with rfl|hu
   ·exact ⟨p1,_,_,fn,lf,lp,lm,lk,lg,ks,rfl,ap e2' nlo,s5 _ _ e2',by show 1<=2;decide,ot_width hP,fun H' d' s _ h=>CQ (hK.same s) h⟩
   rcases DY.mp hu with rfl|hu
   ·exact ⟨p2,_,_,fn,lf,lp,lm,lk,lg,ks,rfl,ap e3' nlo,s5 _ _ e3',by show 1<=2;decide,ot_cells hP hO.ce,fun H' d' s _ h=>CS (hK.same s) h⟩
   rw [DZ.mp hu];exact ⟨p3,_,_,fn,lf,lp,lm,lk,lg,ks,rfl,ap e4 nlo,s5 _ _ e4,by show 1<=2;decide,ot_depth hP hO.de,fun H' d' s _ h=>CU (hK.same s) h⟩
  clear s1 hl0 hx0 l0 x0;rintro σ H1 ⟨x0,l0,lo,xs,rfl,hx0,hl0,F⟩;refine ⟨?_,?_⟩;rotate_left
  ·refine ⟨_,rfl,.inl ⟨rfl,_,SqL.of F.el⟩,fun p np=>?_⟩;generalize zz:aq H1 p _=H2;have ⟨sp,ep⟩:=nw np zz;clear zz;have K2:=hK.same (F.s.trans sp);refine ⟨113,7,rfl,rfl,zd,zlx,fun a1 n1=>?_⟩;generalize zz:aq H2 a1 _=H3;have ⟨s3,e3⟩:=nw n1 zz;clear zz;have K3:=K2.same s3;refine ⟨_,rfl,d,_,rfl,aX K3.dd K3.v5,(1:Int),rfl,lp,_,rfl,SqL.of K3.ep,fun a2 n2=>?_⟩;rw [uK];generalize zz:aq H3 a2 _=H4;have ⟨s4,e4⟩:=nw n2 zz;clear zz;refine ⟨a1,a2,_,_,rfl,rfl,s4 _ _ e3,e4,(by unfold ak;rw [DI,Ea];show 1+_<=sizeLine;omega),fun a3 n3=>?_⟩;have al:=(ap (((sp.trans s3).trans s4) _ _ F.el) n3).symm;generalize zz:aq H4 a3 _=H5;have ⟨s5,e5⟩:=nw n3 zz;clear zz;refine ⟨(s3.trans (s4.trans s5)) _ _ ep,[(kS "places",.ref a3)],rfl,by show 1<=15;decide,lo,_,_,rfl,rfl,aU np (sp.trans (s3.trans (s4.trans s5))) _ _ F.el,(by have:=F.ln;omega),x0,l0,lo,_,rfl,hx0,hl0,dD lf a3 lm lk lg ks F np sp ep (s3.trans (s4.trans s5)) (by show 1<=2;decide) (ot_p1 hP hQ) (fun H' d' s kl kt h=>?_)⟩;exact Bx (hK.same s) (kl _ _ e5 al) h
  clear F hx0 hl0 xs lo l0 x0;rintro σ H1 ⟨x0,l0,lo,xs,rfl,hx0,hl0,F⟩;refine ⟨?_,?_⟩;rotate_left
  ·refine ⟨_,rfl,.inl ⟨rfl,_,SqL.of F.el⟩,fun p np=>?_⟩;generalize zz:aq H1 p _=H2;have ⟨sp,ep⟩:=nw np zz;clear zz;have K2:=hK.same (F.s.trans sp);refine ⟨_,rfl,d,_,rfl,aX K2.dd K2.v7,(1:Int),rfl,lk,_,rfl,SqL.of K2.ek,fun a1 n1=>?_⟩;rw [show cC ks (some 1) none=ks.drop 1 from lF ks 1];generalize zz:aq H2 a1 _=H3;have ⟨s3,e3⟩:=nw n1 zz;clear zz;refine ⟨113,8,rfl,rfl,zd,zlx,fun a2 n2=>?_⟩;have al2:=(ap ((sp.trans s3) _ _ F.el) n2).symm;generalize zz:aq H3 a2 _=H4;have ⟨s4,e4⟩:=nw n2 zz;clear zz;refine ⟨zlx,fun a3 n3=>?_⟩;generalize zz:aq H4 a3 _=H5;have ⟨s5,e5⟩:=nw n3 zz;clear zz;refine ⟨zlx,fun a4 n4=>?_⟩;generalize zz:aq H5 a4 _=H6;have ⟨s6,e6⟩:=nw n4 zz;clear zz;refine ⟨a1,a4,_,_,rfl,rfl,s6 _ _ (s5 _ _ (s4 _ _ e3)),e6,(by rw [Ea];show _+1<=sizeLine;omega),fun a5 n5=>?_⟩;have al:=(ap ((sp.trans (s3.trans (s4.trans (s5.trans s6)))) _ _ F.el) n5).symm;generalize zz:aq H6 a5 _=H7;have ⟨s7,e7⟩:=nw n5 zz;clear zz;have e5':=s7 _ _ (s6 _ _ e5);have e4':=s7 _ _ (s6 _ _ (s5 _ _ e4));refine ⟨(s3.trans (s4.trans (s5.trans (s6.trans s7)))) _ _ ep,[(kS "kinds",.ref a5)],rfl,by show 1<=15;decide,lo,_,_,rfl,rfl,aU np (sp.trans (s3.trans (s4.trans (s5.trans (s6.trans s7))))) _ _ F.el,(by have:=F.ln;omega),x0,l0,lo,_,rfl,hx0,hl0,dD lf lp lm a5 lg (ks.drop 1++[V.ref a3]) F np sp ep (s3.trans (s4.trans (s5.trans (s6.trans s7)))) (by show 1<=2;decide) (ot_k1 hP hQ) (fun H' d' s kl kt h=>?_)⟩;exact zq (hK.same s) (kl _ _ e7 al) (dP (R:=KdV H') (y:=⟨qn 8,[]⟩) ⟨a3,a2,rfl,kt _ _ e5',kl _ _ e4' al2⟩ (xT 1 (hK.same s).kd)) h
  clear F hx0 hl0 xs lo l0 x0;rintro σ H1 ⟨x0,l0,lo,xs,rfl,hx0,hl0,F⟩;refine ⟨?_,?_⟩;rotate_left
  ·refine ⟨_,rfl,.inl ⟨rfl,_,SqL.of F.el⟩,fun p np=>?_⟩;generalize zz:aq H1 p _=H2;have ⟨sp,ep⟩:=nw np zz;clear zz;have K2:=hK.same (F.s.trans sp);refine ⟨_,rfl,d,_,rfl,aX K2.dd K2.v7,_,rfl,(-1:Int),rfl,lk,_,rfl,SqL.of K2.ek,fun a1 n1=>?_⟩;rw [oZ];generalize zz:aq H2 a1 _=H3;have ⟨s3,e3⟩:=nw n1 zz;clear zz;refine ⟨_,rfl,zlx,fun a2 n2=>?_⟩;have al2:=(ap ((sp.trans s3) _ _ F.el) n2).symm;generalize zz:aq H3 a2 _=H4;have ⟨s4,e4⟩:=nw n2 zz;clear zz;refine ⟨zlx,fun a3 n3=>?_⟩;have al3:=(ap ((sp.trans (s3.trans s4)) _ _ F.el) n3).symm;generalize zz:aq H4 a3 _=H5;have ⟨s5,e5⟩:=nw n3 zz;clear zz;refine ⟨zlx,fun a4 n4=>?_⟩;generalize zz:aq H5 a4 _=H6;have ⟨s6,e6⟩:=nw n4 zz;clear zz;refine ⟨_,rfl,zlx,fun a5 n5=>?_⟩;generalize zz:aq H6 a5 _=H7;have ⟨s7,e7⟩:=nw n5 zz;clear zz;have s17:=sp.trans (s3.trans (s4.trans (s5.trans (s6.trans s7))));have hl07:=s17 _ _ (F.s _ _ hl0);refine ⟨.list (strD (x0.fs.map (·.2))),.list [.str "place"],.lst (SqL.of hl07) (dt_strD _),.lst (SqL.of e7) (.cons (.str _) .nil),?_,zk,Ef (Nat.min_le_right _ _) (by simp [PyData.depth,PyData.depthAll]),.inr ⟨_,rfl,?_⟩⟩
   ·have hs:=hP.kf x0 (D4 hx0);obtain ⟨st,e1,_,e3⟩:=hs;exact lay_strD fun z hz=>by
     have h:sortL.all (fun z=>pH z)=true:=by decide +kernel
     obtain ⟨f,hf,rfl⟩:=D2.mp hz;rw [e1] at hf;exact Eh.mp h _ (e3 _ (iS hf).2).1
   have hb:∃ (a:Addr) (z:Str),nV [V.ref a2,.ref a3] (if PyData.eqv (.list (strD (x0.fs.map (·.2)))) (.list [.str "place"])=true then 1 else 0)=some (.ref a)/\H7 a=some (.lst [.str z])/\a≠lo/\z∈sortL/\x0.fs.map (·.2)≠[z]:=by
    cases hb:PyData.eqv (.list (strD (x0.fs.map (·.2)))) (.list [.str "place"]) with
    | true=>
     refine ⟨a3,"number",mY,s7 _ _ (s6 _ _ e5),al3,zk,fun e=>?_⟩;rw [e] at hb;exact absurd hb zk
    | false=>
     refine ⟨a2,"place",lD,s7 _ _ (s6 _ _ (s5 _ _ e4)),al2,zk,fun e=>?_⟩;rw [e] at hb;exact absurd hb zk
   obtain ⟨az,z,hat,ez,azl,hz,hne⟩:=hb;refine ⟨a4,_,_,_,rfl,rfl,SqL.of (s7 _ _ e6),hat,zlx,fun a6 n6=>?_⟩;generalize zz:aq H7 a6 _=H8;have ⟨s8,e8⟩:=nw n6 zz;clear zz;refine ⟨zlx,fun a7 n7=>?_⟩;generalize zz:aq H8 a7 _=H9;have ⟨s9,e9⟩:=nw n7 zz;clear zz;refine ⟨a1,a7,_,_,rfl,rfl,s9 _ _ (s8 _ _ (s7 _ _ (s6 _ _ (s5 _ _ (s4 _ _ e3))))),e9,(by rw [DS];show _+1<=sizeLine;omega),fun a8 n8=>?_⟩;have al:=(ap ((s17.trans (s8.trans s9)) _ _ F.el) n8).symm;generalize zz:aq H9 a8 _=H10;have ⟨s10,e10⟩:=nw n8 zz;clear zz;have e8':=s10 _ _ (s9 _ _ e8);have ez':=s10 _ _ (s9 _ _ (s8 _ _ ez));rw [lks] at *;have f3:=hO.f3;refine ⟨(s3.trans (s4.trans (s5.trans (s6.trans (s7.trans (s8.trans (s9.trans s10))))))) _ _ ep,[(kS "kinds",.ref a8)],rfl,by show 1<=15;decide,lo,_,_,rfl,rfl,aU np (sp.trans (s3.trans (s4.trans (s5.trans (s6.trans (s7.trans (s8.trans (s9.trans s10)))))))) _ _ F.el,(by have:=F.ln;omega),x0,l0,lo,_,rfl,hx0,hl0,dD lf lp lm a8 lg (ks.take (D.kinds.length - 1)++[V.ref a6]) F np sp ep (s3.trans (s4.trans (s5.trans (s6.trans (s7.trans (s8.trans (s9.trans s10))))))) (by show 1<=2;decide) (ot_k2 hP hx0 hz hne) (fun H' d' s kl kt h=>?_)⟩;exact zq (hK.same s) (kl _ _ e10 al) (dP (R:=KdV H') (y:=⟨x0.name,fn.zip [z]⟩) ⟨a6,az,rfl,kt _ _ e8',by rw [bE _ _ (by show 1<=fn.length;omega)];exact kl _ _ ez' azl⟩ (xS _ (hK.same s).kd)) h
  clear F hx0 hl0 xs lo l0 x0;rintro σ H1 ⟨x0,l0,lo,xs,rfl,hx0,hl0,F⟩;refine ⟨?_,?_⟩;rotate_left
  ·have K1:=hK.same F.s;refine ⟨_,rfl,d,_,rfl,aX K1.dd K1.v7,lk,_,rfl,.inl (SqL.of K1.ek),_,_,rfl,rfl,_,rfl,?_⟩;by_cases hc:1 < D.kinds.length
   ·refine bK (decide_eq_true zo) ?_;refine ⟨_,rfl,.inl ⟨rfl,_,SqL.of F.el⟩,fun p np=>?_⟩;generalize zz:aq H1 p _=H2;have ⟨sp,ep⟩:=nw np zz;clear zz;have K2:=hK.same (F.s.trans sp);refine ⟨_,rfl,d,_,rfl,aX K2.dd K2.v7,lk,ks,rfl,SqL.of K2.ek,fun a1 n1=>?_⟩;have al:=(ap (sp _ _ F.el) n1).symm;generalize zz:aq H2 a1 _=H3;have ⟨s3,e3⟩:=nw n1 zz;clear zz;refine ⟨s3 _ _ ep,[(kS "kinds",.ref a1)],rfl,by show 1<=15;decide,lo,_,_,rfl,rfl,aU np (sp.trans s3) _ _ F.el,(by have:=F.ln;omega),x0,l0,lo,_,rfl,hx0,hl0,dD lf lp lm a1 lg ks.reverse F np sp ep s3 (by show 1<=2;decide) (ot_krev hP hc) (fun H' d' s kl kt h=>?_)⟩;exact zq (hK.same s) (kl _ _ e3 al) (BB (hK.same s).kd) h
   ·refine bQ (decide_eq_false zo) ?_;exact ⟨x0,l0,lo,xs,rfl,hx0,hl0,F.le (E4 _)⟩
  clear F hx0 hl0 xs lo l0 x0;rintro σ H1 ⟨x0,l0,lo,xs,rfl,hx0,hl0,F⟩;refine ⟨?_,?_⟩;rotate_left
  ·have K1:=hK.same F.s;refine ⟨_,rfl,d,_,rfl,aX K1.dd K1.v7,lk,rfl,⟨_,SqL.of K1.ek⟩,?_⟩;refine fL (K:=K) (a:=lk) (xs:=ks) (fun i ys H'=>Same H1 H'/\∃ kk:List Kn,Paired (KdV H1) ys kk/\(∀ x∈kk,x∈D.kinds/\x.fs.map (·.2)≠[])/\kk.length<=i) ⟨Same.refl _,[],.nil,fun _ z=>(nomatch z),Ej _⟩ (fun i ys H' hi ⟨s',kk,pr,_,l⟩=>⟨SqL.of (s' _ _ K1.ek),by have:=pr.length;omega⟩) ?_ ?_
   ·rintro i y ys H2 hy ⟨s2,kk,pr,hk,lkk⟩;obtain ⟨x,hx,pt,l,rfl,hpt,hl⟩:=iD K1.kd hy;have hlt:=(DK.mp hy).1;refine ⟨trivial,_,rfl,pt,_,_,_,rfl,rfl,SqT.of (s2 _ _ hpt),mY,zlx,fun l3 n3=>?_⟩;generalize zz:aq H2 l3 _=H3;have ⟨s3,e3⟩:=nw n3 zz;clear zz;have hl3:=s3 _ _ (s2 _ _ hl);refine ⟨.list (strD (x.fs.map (·.2))),.list [],.lst (SqL.of hl3) (dt_strD _),.lst (SqL.of e3) .nil,qd hP (D4 hx),zk,Ef (Nat.min_le_right _ _) (by simp [PyData.depth,PyData.depthAll]),_,rfl,?_⟩;cases hst:x.fs.map (·.2) with
    | nil=>exact bP (Nx.mk hlt ⟨s2.trans s3,kk,pr,hk,zo⟩)
    | cons z r=>
     refine bK (by rfl) ⟨_,rfl,Nx.mk hlt ⟨s2.trans s3,kk++[x],dP ⟨pt,l,rfl,hpt,hl⟩ pr,fun x' hx'=>?_,by rw [DL];show _+1<=_;omega⟩⟩;rcases D0.mp hx' with h|h
     ·exact hk x' h
     ·rw [DZ.mp h];exact ⟨D4 hx,by rw [hst];simp⟩
   rintro ys H2 ⟨s2,kk,pr,hk,lkk⟩ l3 n3;generalize zz:aq H2 l3 _=H3;have ⟨s3,e3⟩:=nw n3 zz;clear zz;refine ⟨zlx,fun l4 n4=>?_⟩;generalize zz:aq H3 l4 _=H4;have ⟨s4,e4⟩:=nw n4 zz;clear zz;have s14:=s2.trans (s3.trans s4);have pr4:=bR (fun _ _ h=>KdV.same s14 h) pr;have F:=F.same s14;refine ⟨.list (kk.map BT),.list [],.lst (SqL.of (s4 _ _ e3)) (uM pr4),.lst (SqL.of e4) .nil,lay_map (g:=BT) (fun x hx=>wW hP (hk x hx).1),zk,Ef (Nat.min_le_right _ _) (by simp [PyData.depth,PyData.depthAll]),_,rfl,?_⟩;clear pr4 s14 e4 n4 e3 n3 s3 s4 pr s2 K1;cases kk with
   | nil=>exact bP ⟨x0,l0,lo,xs,rfl,hx0,hl0,F.le (E4 _)⟩
   | cons y0 yr=>
    refine bK (by rfl) ?_;obtain ⟨hy1,hy2⟩:=hk y0 DM;generalize H4=H1 at *;refine ⟨_,rfl,.inl ⟨rfl,_,SqL.of F.el⟩,fun p np=>?_⟩;generalize zz:aq H1 p _=H2;have ⟨sp,ep⟩:=nw np zz;clear zz;have K2:=hK.same (F.s.trans sp);refine ⟨113,6,rfl,rfl,zd,zlx,fun a1 n1=>?_⟩;generalize zz:aq H2 a1 _=H3;have ⟨s3,e3⟩:=nw n1 zz;clear zz;have K3:=K2.same s3;refine ⟨_,rfl,d,_,rfl,aX K3.dd K3.v4,(1:Int),rfl,lf,_,rfl,SqL.of K3.ef,fun a2 n2=>?_⟩;rw [uK];generalize zz:aq H3 a2 _=H4;have ⟨s4,e4⟩:=nw n2 zz;clear zz;have f3:=hO.f3;refine ⟨a1,a2,_,_,rfl,rfl,s4 _ _ e3,e4,(by unfold ak;rw [DI,Ea];show 1+_<=sizeLine;omega),fun a3 n3=>?_⟩;have al:=(ap (((sp.trans s3).trans s4) _ _ F.el) n3).symm;generalize zz:aq H4 a3 _=H5;have ⟨s5,e5⟩:=nw n3 zz;clear zz;refine ⟨(s3.trans (s4.trans s5)) _ _ ep,[(kS "names",.ref a3)],rfl,by show 1<=15;decide,lo,_,_,rfl,rfl,aU np (sp.trans (s3.trans (s4.trans s5))) _ _ F.el,(by have:=F.ln;omega),x0,l0,lo,_,rfl,hx0,hl0,dD a3 lp lm lk lg ks F np sp ep (s3.trans (s4.trans s5)) (by show 1<=2;decide) (ot_names hP hQ hy1 hy2) (fun H' d' s kl kt h=>?_)⟩;refine CW (f:=qn 6::fn.drop 1) (hK.same s) (kl _ _ e5 al) (xQ _ (bR (fun u x ⟨⟨p,l,a,b,c⟩,hx⟩=>⟨p,l,a,b,?_⟩) (Bz (hK.same s).kd))) h;rw [bE _ _ (by have:=(hO.fm.kf x hx).2;rw [DI,DQ,Ea];omega)];exact c
  clear F hx0 hl0 xs lo l0 x0;rintro σ H1 ⟨x0,l0,lo,xs,rfl,hx0,hl0,F⟩;refine ⟨?_,?_⟩;rotate_left
  ·have K1:=hK.same F.s;refine ⟨_,rfl,d,_,rfl,aX K1.dd K1.v5,lp,_,rfl,.inl (SqL.of K1.ep),_,_,rfl,rfl,_,rfl,?_⟩;by_cases hc:1 < D.places.length
   ·refine bK (decide_eq_true (by unfold ak;rw [DI];omega)) ?_;refine ⟨_,rfl,.inl ⟨rfl,_,SqL.of F.el⟩,fun p np=>?_⟩;generalize zz:aq H1 p _=H2;have ⟨sp,ep⟩:=nw np zz;clear zz;have K2:=hK.same (F.s.trans sp);refine ⟨_,rfl,d,_,rfl,aX K2.dd K2.v5,lp,_,rfl,SqL.of K2.ep,fun a1 n1=>?_⟩;rw [uL];have al:=(ap (sp _ _ F.el) n1).symm;generalize zz:aq H2 a1 _=H3;have ⟨s3,e3⟩:=nw n1 zz;clear zz;refine ⟨s3 _ _ ep,[(kS "places",.ref a1)],rfl,by show 1<=15;decide,lo,_,_,rfl,rfl,aU np (sp.trans s3) _ _ F.el,(by have:=F.ln;omega),x0,l0,lo,_,rfl,hx0,hl0,dD lf a1 lm lk lg ks F np sp ep s3 (by show 1<=2;decide) (ot_prev hP hc) (fun H' d' s kl kt h=>?_)⟩;exact Bx (hK.same s) (kl _ _ e3 al) h
   ·refine bQ (decide_eq_false (by unfold ak;rw [DI];omega)) ?_;exact ⟨x0,l0,lo,xs,rfl,hx0,hl0,F.le (E4 _)⟩
  clear F hx0 hl0 xs lo l0 x0;rintro σ H1 ⟨x0,l0,lo,xs,rfl,hx0,hl0,F⟩;refine ⟨?_,?_⟩;rotate_left
  ·have K1:=hK.same F.s;refine ⟨_,rfl,d,_,rfl,aX K1.dd K1.v6,lm,_,rfl,.inl (SqL.of K1.em),_,_,rfl,rfl,_,rfl,?_⟩;by_cases hc:D.marks.length < 3
   ·refine bK (decide_eq_true (by unfold ak;rw [DI];omega)) ?_;refine ⟨_,rfl,.inl ⟨rfl,_,SqL.of F.el⟩,fun p np=>?_⟩;generalize zz:aq H1 p _=H2;have ⟨sp,ep⟩:=nw np zz;clear zz;have K2:=hK.same (F.s.trans sp);refine ⟨_,rfl,d,_,rfl,aX K2.dd K2.v6,113,5,rfl,rfl,zd,zlx,fun a1 n1=>?_⟩;generalize zz:aq H2 a1 _=H3;have ⟨s3,e3⟩:=nw n1 zz;clear zz;have K3:=K2.same s3;refine ⟨lm,a1,_,_,rfl,rfl,K3.em,e3,(by unfold ak;rw [DI];show _+1<=sizeLine;omega),fun a2 n2=>?_⟩;rw [ko];have al:=(ap ((sp.trans s3) _ _ F.el) n2).symm;generalize zz:aq H3 a2 _=H4;have ⟨s4,e4⟩:=nw n2 zz;clear zz;refine ⟨(s3.trans s4) _ _ ep,[(kS "marks",.ref a2)],rfl,by show 1<=15;decide,lo,_,_,rfl,rfl,aU np (sp.trans (s3.trans s4)) _ _ F.el,(by have:=F.ln;omega),x0,l0,lo,_,rfl,hx0,hl0,dD lf lp a2 lk lg ks F np sp ep (s3.trans s4) (by show 1<=2;decide) (ot_m1 hP hQ hc) (fun H' d' s kl kt h=>?_)⟩;exact CV (hK.same s) (kl _ _ e4 al) h
   ·refine bQ (decide_eq_false (by unfold ak;rw [DI];omega)) ?_;exact ⟨x0,l0,lo,xs,rfl,hx0,hl0,F.le (E4 _)⟩
  clear F hx0 hl0 xs lo l0 x0;rintro σ H1 ⟨x0,l0,lo,xs,rfl,hx0,hl0,F⟩;refine ⟨?_,?_⟩;rotate_left
  ·have K1:=hK.same F.s;refine ⟨_,rfl,d,_,rfl,aX K1.dd K1.v6,zlx,fun l3 n3=>?_⟩;generalize zz:aq H1 l3 _=H3;have ⟨s3,e3⟩:=nw n3 zz;clear zz;have F:=F.same s3;refine ⟨.list (strD D.marks),.list [],.lst (SqL.of (s3 _ _ K1.em)) (dt_strD _),.lst (SqL.of e3) .nil,lay_strD (fun z hz=>cJ (hP.nM z hz)),zk,Ef (Nat.min_le_right _ _) (by simp [PyData.depth,PyData.depthAll]),_,rfl,?_⟩;have hbm:(!PyData.eqv (.list (strD D.marks)) (.list []))=!D.marks.isEmpty:=by cases D.marks<;>rfl
   rw [hbm];clear K1 e3 n3 s3 hbm;generalize H3=H1 at *;by_cases hc:D.marks=[]
   ·rw [hc];exact bP ⟨x0,l0,lo,xs,rfl,hx0,hl0,F.le zd⟩
   ·refine bK (by simpa using hc) ?_;refine ⟨?_,?_⟩;rotate_left
    ·refine ⟨_,rfl,.inl ⟨rfl,_,SqL.of F.el⟩,fun p np=>?_⟩;generalize zz:aq H1 p _=H2;have ⟨sp,ep⟩:=nw np zz;clear zz;have K2:=hK.same (F.s.trans sp);refine ⟨_,rfl,d,_,rfl,aX K2.dd K2.v6,_,rfl,(-1:Int),rfl,lm,_,rfl,SqL.of K2.em,fun a1 n1=>?_⟩;rw [oZ,kr];have al1:=(ap (sp _ _ F.el) n1).symm;generalize zz:aq H2 a1 _=H3;have ⟨s3,e3⟩:=nw n1 zz;clear zz;refine ⟨zlx,fun a2 n2=>?_⟩;have al2:=(ap ((sp.trans s3) _ _ F.el) n2).symm;generalize zz:aq H3 a2 _=H4;have ⟨s4,e4⟩:=nw n2 zz;clear zz;have e3':=s4 _ _ e3;refine ⟨(s3.trans s4) _ _ ep,[(kS "marks",.ref a1),(kS "gate",.ref a2)],rfl,by show 2<=15;decide,lo,_,_,rfl,rfl,aU np (sp.trans (s3.trans s4)) _ _ F.el,(by have:=F.ln;omega),x0,l0,lo,_,rfl,hx0,hl0,dD lf lp a1 lk a2 ks F np sp ep (s3.trans s4) (BF) (ot_m2 hP hc) (fun H' d' s kl kt h=>?_)⟩;rw [De] at h ⊢;exact xP (hK.same s) (kl _ _ e3' al1) (kl _ _ e4 al2) h
    rintro σ H1 ⟨x0,l0,lo,xs,rfl,hx0,hl0,F⟩;refine ⟨?_,?_⟩;rotate_left
    ·refine ⟨_,rfl,.inl ⟨rfl,_,SqL.of F.el⟩,fun p np=>?_⟩;generalize zz:aq H1 p _=H2;have ⟨sp,ep⟩:=nw np zz;clear zz;have K2:=hK.same (F.s.trans sp);refine ⟨_,rfl,d,_,rfl,aX K2.dd K2.v6,_,rfl,(-1:Int),rfl,lm,_,rfl,SqL.of K2.em,fun a1 n1=>?_⟩;rw [oZ,kr];generalize zz:aq H2 a1 _=H3;have ⟨s3,e3⟩:=nw n1 zz;clear zz;refine ⟨113,5,rfl,rfl,zd,zlx,fun a2 n2=>?_⟩;generalize zz:aq H3 a2 _=H4;have ⟨s4,e4⟩:=nw n2 zz;clear zz;refine ⟨a1,a2,_,_,rfl,rfl,s4 _ _ e3,e4,(by unfold ak;rw [DI,DS];show _+1<=sizeLine;omega),fun a3 n3=>?_⟩;rw [ko];have al3:=(ap ((sp.trans (s3.trans s4)) _ _ F.el) n3).symm;generalize zz:aq H4 a3 _=H5;have ⟨s5,e5⟩:=nw n3 zz;clear zz;refine ⟨zlx,fun a4 n4=>?_⟩;have al4:=(ap ((sp.trans (s3.trans (s4.trans s5))) _ _ F.el) n4).symm;generalize zz:aq H5 a4 _=H6;have ⟨s6,e6⟩:=nw n4 zz;clear zz;have e5':=s6 _ _ e5;refine ⟨(s3.trans (s4.trans (s5.trans s6))) _ _ ep,[(kS "marks",.ref a3),(kS "gate",.ref a4)],rfl,by show 2<=15;decide,lo,_,_,rfl,rfl,aU np (sp.trans (s3.trans (s4.trans (s5.trans s6)))) _ _ F.el,(by have:=F.ln;omega),x0,l0,lo,_,rfl,hx0,hl0,dD lf lp a3 lk a4 ks F np sp ep (s3.trans (s4.trans (s5.trans s6))) (BF) (ot_m3 hP hQ hc) (fun H' d' s kl kt h=>?_)⟩;rw [De] at h ⊢;exact xP (hK.same s) (kl _ _ e5' al3) (kl _ _ e6 al4) h
    rintro σ H1 ⟨x0,l0,lo,xs,rfl,hx0,hl0,F⟩;refine ⟨_,rfl,.inl ⟨rfl,_,SqL.of F.el⟩,fun p np=>?_⟩;generalize zz:aq H1 p _=H2;have ⟨sp,ep⟩:=nw np zz;clear zz;have K2:=hK.same (F.s.trans sp);refine ⟨_,rfl,d,_,rfl,aX K2.dd K2.v8,zlx,fun l3 n3=>?_⟩;generalize zz:aq H2 l3 _=H3;have ⟨s3,e3⟩:=nw n3 zz;clear zz;have K3:=K2.same s3;refine ⟨.list (strD D.gates),.list [],.lst (SqL.of K3.eg) (dt_strD _),.lst (SqL.of e3) .nil,lay_strD (fun z hz=>cJ (hP.nM z (hP.gt z hz))),zk,Ef (Nat.min_le_right _ _) (by simp [PyData.depth,PyData.depthAll]),_,rfl,?_⟩;have hbm:(!PyData.eqv (.list (strD D.gates)) (.list []))=!D.gates.isEmpty:=by cases D.gates<;>rfl
    rw [hbm];have lm1:=Fa.mpr hc;by_cases hg:D.gates=[]
    ·rw [hg];refine bP ⟨_,rfl,d,_,rfl,aX K3.dd K3.v6,_,rfl,(-1:Int),rfl,lm,_,rfl,SqL.of K3.em,fun a1 n1=>?_⟩;rw [zu,re];have al:=(ap ((sp.trans s3) _ _ F.el) n1).symm;generalize zz:aq H3 a1 _=H4;have ⟨s4,e4⟩:=nw n1 zz;clear zz;refine ⟨(s3.trans s4) _ _ ep,[(kS "gate",.ref a1)],rfl,by show 1<=15;decide,lo,_,_,rfl,rfl,aU np (sp.trans (s3.trans s4)) _ _ F.el,(by have:=F.ln;omega),x0,l0,lo,_,rfl,hx0,hl0,dD lf lp lm lk a1 ks F np sp ep (s3.trans s4) (by show 1<=2;decide) (ot_gate hP (g:=D.marks.drop (D.marks.length - 1)) (fun z hz=>List.mem_of_mem_drop hz) (by rw [Ea];omega) ⟨fun _ e=>by have:=congrArg List.length e;rw [Ea,Em] at this;omega,fun _=>hg⟩) (fun H' d' s kl kt h=>?_)⟩;exact By (hK.same s) (kl _ _ e4 al) h
    ·refine bK (by simpa using hg) ⟨zlx,fun a1 n1=>?_⟩;have al:=(ap ((sp.trans s3) _ _ F.el) n1).symm;generalize zz:aq H3 a1 _=H4;have ⟨s4,e4⟩:=nw n1 zz;clear zz;refine ⟨(s3.trans s4) _ _ ep,[(kS "gate",.ref a1)],rfl,by show 1<=15;decide,lo,_,_,rfl,rfl,aU np (sp.trans (s3.trans s4)) _ _ F.el,(by have:=F.ln;omega),x0,l0,lo,_,rfl,hx0,hl0,dD lf lp lm lk a1 ks F np sp ep (s3.trans s4) (by show 1<=2;decide) (ot_gate hP (g:=[]) (fun z hz=>nomatch hz) (Ej _) ⟨fun e=>absurd e hg,fun e=>absurd rfl e⟩) (fun H' d' s kl kt h=>?_)⟩;exact By (hK.same s) (kl _ _ e4 al) h
  clear F hx0 hl0 xs lo l0 x0;rintro σ H1 ⟨x0,l0,lo,xs,rfl,hx0,hl0,F⟩;exact ⟨_,rfl,qq _ _ _ F⟩
end L3
namespace L3
open PySem L2 PySem.Builtin.Str StrLaws
theorem iz (s sub:Str) (hi limit:Nat) {a:Nat}:∀ (l:List Nat) (st:Array Nat×Nat),a∈st.fst.toList->a∈(forIn l st (occBody s sub hi limit)).run.fst.toList
 | [],_,h=>h
 | i::l,st,h=>by
  rw [List.forIn_cons];unfold occBody;split
  ·refine iz s sub hi limit l _ ?_;show a∈(st.fst.push i).toList;rw [Array.toList_push];exact ET _ h
  ·exact iz s sub hi limit l _ h
theorem lS (s sub:Str) (hi limit:Nat) (hno:∀ i j,At s sub hi i->At s sub hi j->i < j->i+sub.length<=j):∀ (l:List Nat) (st:Array Nat×Nat),l.Pairwise (· < ·)->(∀ i∈l,At s sub hi i->st.snd<=i)->st.fst.size+l.length<=limit->
  ∀ i∈l,At s sub hi i->i∈(forIn l st (occBody s sub hi limit)).run.fst.toList
 | [],_,_,_,_,i,hi',_=>absurd hi' Eb
 | a::l,st,pw,hf,hl,i,hm,hat=>by
  have pw':=List.pairwise_cons.mp pw;rw [DQ] at hl;rw [List.forIn_cons];unfold occBody;split
  ·rename_i hc;rcases DY.mp hm with rfl|hm
   ·refine iz s sub hi limit l _ ?_;show i∈(st.fst.push i).toList;rw [Array.toList_push];exact Ek _ DM
   ·exact lS s sub hi limit hno l _ pw'.2 (fun j hj hj'=>hno a j ⟨hc.1.2,hc.2⟩ hj' (pw'.1 j hj)) (by show (st.fst.push a).size+_<=_;rw [Array.size_push];omega) i hm hat
  ·rename_i hc;rcases DY.mp hm with rfl|hm
   ·exact absurd ⟨⟨⟨zo,hf i DM hat⟩,hat.1⟩,hat.2⟩ hc
   ·exact lS s sub hi limit hno l _ pw'.2 (fun j hj hj'=>hf j (DR _ hj) hj') zo i hm hat
variable {c:Nat}
theorem jE {x y:Str} (hy:1<=y.length):∀ (cuts:List Nat) (a f:Nat),ChainTo x y x.length a cuts f->(∀ j,a<=j->x.cps.toList[j]?=some c->j∈cuts)->∀ p∈partsFrom x y.length a cuts,c∉cp p
 | [],a,f,h,hall,p,hp,hc=>by
  have e:p=strSub x a x.length:=DZ.mp hp;have hc:c∈p.cps.toList:=hc;rw [e,strSub_toList] at hc;obtain ⟨i,hi⟩:=E8 (Ei hc);rw [List.getElem?_drop] at hi;exact absurd (hall _ zo hi) Eb
 | k::r,a,f,h,hall,p,hp,hc=>by
  obtain ⟨h1,h2,h3⟩:=h;have low:∀ (r:List Nat) (b g:Nat),ChainTo x y x.length b r g->∀ j∈r,b<=j:=fun r=>by
   induction r with
   | nil=>intro _ _ _ j hj;exact absurd hj Eb
   | cons k r ih=>
    intro b g h j hj;rcases DY.mp hj with rfl|hj
    ·exact h.1
    ·have:=ih _ _ h.2.2 j hj;have:=h.1;omega
  rcases DY.mp hp with e|hp
  ·have hc:c∈p.cps.toList:=hc;rw [e,strSub_toList] at hc;obtain ⟨i,hi⟩:=E8 hc;rw [List.getElem?_take] at hi;split at hi
   ·rename_i hlt;rw [List.getElem?_drop] at hi;rcases DY.mp (hall _ zo hi) with e2|hm
    ·omega
    ·have:=low _ _ _ h3 _ hm;omega
   ·cases hi
  ·refine jE hy r (k+y.length) f h3 (fun j hj hx=>?_) p hp hc;rcases DY.mp (hall j zo hx) with e|hm
   ·omega
   ·exact hm
theorem qe {y':List Nat}:∀ {a b:List (List Nat)},a≠[]->b≠[]->(∀ t∈a,c∉t)->(∀ t∈b,c∉t)->TK.jn (c::y') a=TK.jn (c::y') b->a=b
 | [],_,h,_,_,_,_=>absurd rfl h
 | _,[],_,h,_,_,_=>absurd rfl h
 | [t],[u],_,_,_,_,h=>by
  have:t=u:=h;rw [this]
 | [t],u::v::r,_,_,ha,_,h=>by
  have h1:t=u++((c::y')++TK.jn (c::y') (v::r)):=h;exact absurd (by rw [h1];simp) (ha t DM)
 | t::s::q,[u],_,_,_,hb,h=>by
  have h1:t++((c::y')++TK.jn (c::y') (s::q))=u:=h;exact absurd (by rw [<-h1];simp) (hb u DM)
 | t::s::q,u::v::r,_,_,ha,hb,h=>by
  have h1:t++(c::(y'++TK.jn (c::y') (s::q)))=u++(c::(y'++TK.jn (c::y') (v::r))):=h;obtain ⟨h2,h3⟩:=ud (ha t DM) (hb u DM) h1;have:=qe (a:=s::q) (b:=v::r) (by simp) (by simp) (fun z hz=>ha z (DR _ hz)) (fun z hz=>hb z (DR _ hz)) (List.append_cancel_left h3);rw [h2,this]
theorem xU {y':List Nat} (hc:c∉y'):∀ (As:List (List Nat)),(∀ t∈As,c∉t)->∀ j,(TK.jn (c::y') As)[j]?=some c->((TK.jn (c::y') As).drop j).take (y'.length+1)=c::y'
 | [],_,j,h=>by simp [TK.jn] at h
 | [t],ha,j,h=>absurd (D4 h) (ha t DM)
 | t::s::q,ha,j,h=>by
  have e:TK.jn (c::y') (t::s::q)=t++((c::y')++TK.jn (c::y') (s::q)):=rfl;rw [e] at h ⊢;by_cases h1:j < t.length
  ·rw [Es h1] at h;exact absurd (D4 h) (ha t DM)
  ·rw [Ey zo] at h;rw [List.drop_append,List.drop_eq_nil_of_le zo,Fb];generalize j - t.length=i at h ⊢;have ih:=xU hc (s::q) (fun z hz=>ha z (DR _ hz));generalize TK.jn (c::y') (s::q)=J at h ih ⊢;by_cases h2:i < y'.length+1
   ·cases i with
    | zero=>
     rw [E9];exact List.take_left' (by simp)
    | succ k=>
     rw [Es (by simpa using h2)] at h;exact absurd (D4 (by simpa using h)) hc
   ·have l:(c::y').length=y'.length+1:=rfl;rw [Ey zo,l] at h;rw [List.drop_append,List.drop_eq_nil_of_le zo,Fb,l];exact ih _ h
theorem wX {y' z:List Nat} (hc:c∉y') {As:List (List Nat)} (h2:2<=As.length) (hA:∀ A∈As,c∉A):Txt.replace (S (TK.jn (c::y') As)) (S (c::y')) (S z)=S (TK.jn z As):=by
 have hat:=xU hc As hA;generalize ex:TK.jn (c::y') As=x at hat;have lx:(S x).length=x.length:=bx x;have ly:(S (c::y')).length=y'.length+1:=bx _;have ax:∀ j,x[j]?=some c->At (S x) (S (c::y')) (S x).length j:=fun j h=>by
  have:=hat j h;have hl:=congrArg List.length this;rw [DS,Ea] at hl;simp only [DQ] at hl;refine ⟨zo,?_⟩;rw [subAt_eq,ly];exact beq_iff_eq.mpr this
 have xa:∀ j,At (S x) (S (c::y')) (S x).length j->(x.drop j).take (y'.length+1)=c::y':=fun j h=>by
  have:=h.2;rw [subAt_eq,ly] at this;exact beq_iff_eq.mp this
 have xc:∀ j,At (S x) (S (c::y')) (S x).length j->x[j]?=some c:=fun j h=>by
  have:=congrArg (fun l=>l[0]?) (xa j h);simp only [List.getElem?_take,List.getElem?_drop] at this;simpa using this
 have hno:∀ i j,At (S x) (S (c::y')) (S x).length i->At (S x) (S (c::y')) (S x).length j->i < j->i+(S (c::y')).length<=j:=fun i j hi hj hij=>by
  rw [ly];by_cases h:i+(y'.length+1)<=j
  ·exact h
  ·exfalso;have h1:=xc j hj;have h3:=congrArg (fun l=>l[j - i]?) (xa i hi);simp only [List.getElem?_take,List.getElem?_drop] at h3;rw [if_pos zo,show i+(j - i)=j by omega,h1,show j - i=(j - i - 1)+1 by omega] at h3;exact hc (D4 (by simpa using h3.symm))
 obtain ⟨f,ch⟩:=occ_chain (S x) (S (c::y')) ((S x).length+1);have all:∀ j,x[j]?=some c->j∈occurrences (S x) (S (c::y')) 0 (S x).length ((S x).length+1):=fun j h=>by
  rw [occ_eq];have hj:=(DK.mp h).1;exact lS _ _ _ _ hno _ _ List.pairwise_lt_range' (fun _ _ _=>Ej _) (by simp) j (by rw [List.mem_range'_1];omega) (ax j h)
 have hsame:=glued_between_self (S x) (S (c::y')) ((S x).length+1);have hfree:=jE (c:=c) (by rw [ly];omega) _ 0 f ch (fun j _ h=>all j h);rw [<-partsBetween_eq] at hfree;have hlen:=PySem.length_partsBetween (S x) (occurrences (S x) (S (c::y')) 0 (S x).length ((S x).length+1)) (S (c::y')).length;unfold Txt.replace;generalize occurrences (S x) (S (c::y')) 0 (S x).length ((S x).length+1)=oc at *;generalize partsBetween (S x) oc (S (c::y')).length=ps at *;rw [glued_eq_join] at hsame;have h3:=uc ps;rw [<-h3,fC] at hsame;have h4:TK.jn (c::y') (ps.map cp)=TK.jn (c::y') As:=by
  rw [ex];have:=congrArg cp hsame;rw [oQ,oQ] at this;exact this
 have n1:ps.map cp≠[]:=fun e=>by
  have:=congrArg List.length e;rw [DI,hlen] at this;simp at this
 have h5:=qe n1 (fun e=>by rw [e] at h2;simp at h2) (fun t ht=>by
  obtain ⟨p,hp,rfl⟩:=D2.mp ht;exact hfree p hp) hA h4
 rw [if_neg,glued_eq_join,<-h3,fC,h5];intro hcond;have l5:=congrArg List.length h5;rw [DI,hlen] at l5;cases oc with
 | nil=>simp at l5;omega
 | cons a r=>
  rw [ly] at hcond;simp at hcond
def zA (zb:Bool):List Nat:=123::(if zb then [32,115,116,111,112,32,125] else [32,110,101,120,116,32,125])
def rg (x:Kn):List (List Nat):=[cp "kind",cp x.name,[40]]++eZ x.fs++[[41]]
def lT:List Kn->List (List Nat)
 | []=>[[]]
 | x::r=>([32]++TK.jn [32] (rg x)++[32])::lT r
def uO (D:Fm):List (List Nat):=match D.kinds with
 | []=>[]
 | x::r=>(TK.jn [32] ((dA D++fE D++iu D).flatten++rg x)++[32])::lT r
def ek (zb:Bool):List (List Nat):=[[123],cp (qR zb),[125]]
theorem xV (zb:Bool):TK.jn [32] (ek zb)=zA zb:=by cases zb<;>decide +kernel
def BU (F:List (List Nat)):List Nat:=match F with
 | []=>[]
 | _::_=>[32]++TK.jn [32] F
variable {a:List (List Nat)}
theorem xW (h:a≠[]) (F:List (List Nat)):TK.jn [32] (a++F)=TK.jn [32] a++BU F:=by
 cases F with
 | nil=>rw [El];exact (El _).symm
 | cons t r=>exact oV h (by simp)
theorem o0 (h:a≠[]) (F:List (List Nat)):BU (a++F)=[32]++(TK.jn [32] a++BU F):=by
 cases a with
 | nil=>exact absurd rfl h
 | cons t r=>
  show [32]++TK.jn [32] ((t::r)++F)=_;rw [xW h]
def xX (zb:Bool) (r:List Kn):List (List Nat):=(r.map fun x=>rg x++ek zb).flatten
theorem uP {y A:List Nat} {r:List (List Nat)} (h:r≠[]):TK.jn y (A::r)=A++(y++TK.jn y r):=dc h
theorem lU:∀ r:List Kn,lT r≠[]
 | []=>by simp [lT]
 | _::_=>by simp [lT]
theorem qh (zb:Bool):∀ r:List Kn,BU (xX zb r)=TK.jn (zA zb) (lT r)
 | []=>rfl
 | x::r=>by
  have e:xX zb (x::r)=rg x++(ek zb++xX zb r):=by
   unfold xX;rw [D6,Et,En]
  show _=TK.jn (zA zb) (([32]++TK.jn [32] (rg x)++[32])::lT r);rw [e,o0 (by simp [rg]),o0 (by simp [ek]),uP (lU r),qh zb r,xV];simp
variable {D:Fm}
theorem ny (zb:Bool) (h:D.kinds≠[]):cF zb D=TK.jn (zA zb) (uO D):=by
 unfold cF ul jJ uO;rw [List.flatten_append];cases e:D.kinds with
 | nil=>exact absurd e h
 | cons x r=>
  have ek':(((x::r).map (iw zb)).flatten).flatten=rg x++(ek zb++xX zb r):=by
   have:∀ l:List Kn,((l.map (iw zb)).flatten).flatten=xX zb l:=fun l=>by
    induction l with
    | nil=>rfl
    | cons y l ih=>
     rw [D6,Et,List.flatten_append,ih];unfold xX iw rg ek;simp
   rw [this];unfold xX;rw [D6,Et,En]
  rw [ek',<-En,xW (by simp [rg]),o0 (by simp [ek]),xV,qh zb r];show _=TK.jn (zA zb) ((TK.jn [32] ((dA D++fE D++iu D).flatten++rg x)++[32])::lT r);rw [uP (lU r)];simp
def NB (t:List Nat):Prop:=∀ c∈t,c≠123
variable {z:Str}
theorem iV (h:NameS z):NB (cp z):=fun c hc=>by have:=h.2.2.2 c hc;omega
theorem o6 (n:Nat):NB (dg n):=fun c hc=>by have:=oN n c hc;omega
theorem df (h:z∈wordsL):NB (cp z):=fun c hc=>by
 have:=Eh.mp m7 z h;simp only [Er,decide_eq_true_eq,Eh] at this;have:=this.2 c hc;omega
theorem uQ:∀ {fs:List (Str×Str)},(∀ f∈fs,NameS f.1/\f.2∈sortL)->∀ t∈eZ fs,NB t
 | [],_,t,h=>by simp [eZ] at h
 | [x],hf,t,h=>by
  have hx:=hf x DM;simp [eZ] at h;rcases h with rfl|rfl
  ·exact iV hx.1
  ·exact df (cS hx.2)
 | x::y::r,hf,t,h=>by
  have hx:=hf x DM;have h':t∈cp x.1::cp x.2::[44]::eZ (y::r):=h;simp only [DY] at h';rcases h' with rfl|rfl|rfl|h'
  ·exact iV hx.1
  ·exact df (cS hx.2)
  ·unfold NB;simp
  ·exact uQ (fun f hf'=>hf f (DR _ hf')) t h'
theorem uR {fn:List Str} (h:lG D fn) {x:Kn} (hx:x∈D.kinds):∀ t∈rg x,NB t:=fun t ht=>by
 unfold rg at ht;simp only [D0,DY,Eb,or_false] at ht;rcases ht with ((rfl|rfl|rfl)|ht)|rfl
 ·exact df zk
 ·exact iV (h.nm.kn x hx)
 ·unfold NB;simp
 ·exact uQ (jt h hx) t ht
 ·unfold NB;simp
theorem wY {fn:List Str} (h:lG D fn):∀ t∈(dA D++fE D++iu D).flatten,NB t:=fun t ht=>by
 obtain ⟨g,hg,ht⟩:=List.mem_flatten.mp ht;have nm:∀ (l:List Str),(∀ z∈l,NameS z)->g∈l.map (fun z=>[cp z])->NB t:=fun l hl hg=>by
  obtain ⟨z,hz,rfl⟩:=D2.mp hg;rw [DZ.mp ht];exact iV (hl z hz)
 have gt:∀ z∈D.gates,NameS z:=fun z hz=>h.nm.mrk z (h.fm.gt z hz);have sg:NB [59]:=by unfold NB;simp
 rcases D0.mp hg with hg|hg
 ·rcases D0.mp hg with hg|hg
  ·unfold dA at hg;simp only [DY,Eb,or_false] at hg;rcases hg with rfl|rfl|rfl|rfl|rfl|rfl|rfl<;>simp only [DY,Eb,or_false] at ht
   ·rw [ht];exact df zk
   ·rw [ht];exact o6 _
   ·rcases ht with rfl|rfl
    ·exact sg
    ·exact df zk
   ·rw [ht];exact o6 _
   ·rcases ht with rfl|rfl
    ·exact sg
    ·exact df zk
   ·rw [ht];exact o6 _
   ·rcases ht with rfl|rfl
    ·exact sg
    ·exact df zk
  ·unfold fE at hg;rcases D0.mp hg with hg|hg
   ·rcases D0.mp hg with hg|hg
    ·exact nm _ h.nm.pl hg
    ·rw [DZ.mp hg] at ht;simp only [DY,Eb,or_false] at ht;rcases ht with rfl|rfl
     ·exact sg
     ·exact df zk
   ·exact nm _ h.nm.mrk hg
 ·unfold iu at hg;rcases D0.mp hg with hg|hg
  ·rcases D0.mp hg with hg|hg
   ·rw [DZ.mp hg] at ht;simp only [DY,Eb,or_false] at ht;rcases ht with rfl|rfl
    ·exact sg
    ·exact df zk
   ·exact nm _ gt hg
  ·rw [DZ.mp hg] at ht;rw [DZ.mp ht];exact sg
theorem xY {ts:List (List Nat)} (h:∀ t∈ts,NB t):NB (TK.jn [32] ts):=fun c hc e=>by
 rcases ue [32] hc with h'|⟨t,ht,h'⟩
 ·rw [DZ.mp h'] at e;cases e
 ·exact h t ht c h' e
theorem wZ {fn:List Str} (h:lG D fn):∀ A∈uO D,123∉A:=by
 have rest:∀ r:List Kn,(∀ x∈r,x∈D.kinds)->∀ A∈lT r,123∉A:=fun r=>by
  induction r with
  | nil=>
   intro _ A hA;rw [DZ.mp hA];simp
  | cons x r ih=>
   intro hr A hA;rcases DY.mp hA with rfl|hA
   ·intro hc;have:=xY (uR h (hr x DM));simp only [D0,DZ] at hc;rcases hc with (hc|hc)|hc
    ·cases hc
    ·exact this _ hc rfl
    ·cases hc
   ·exact ih (fun y hy=>hr y (DR _ hy)) A hA
 unfold uO;cases e:D.kinds with
 | nil=>intro A hA;exact absurd hA Eb
 | cons x r=>
  intro A hA;rcases DY.mp hA with rfl|hA
  ·intro hc;have h1:=xY (ts:=(dA D++fE D++iu D).flatten++rg x) (fun t ht=>(D0.mp ht).elim (wY h t) (uR h (by rw [e];exact DM) t));rcases D0.mp hc with hc|hc
   ·exact h1 _ hc rfl
   ·cases DZ.mp hc
  ·exact rest r (fun y hy=>by rw [e];exact DR _ hy) A hA
theorem rh {fn:List Str} (h:lG D fn):Txt.replace (S (cF false D)) "{ next }" "{ stop }"=S (cF true D):=by
 have hk:D.kinds≠[]:=fun e=>by have:=h.k1;rw [e] at this;simp at this
 have e1:("{ next }":Str)=S (zA false):=by decide +kernel
 have e2:("{ stop }":Str)=S (zA true):=by decide +kernel
 rw [e1,e2,ny false hk,ny true hk];refine wX zd ?_ (wZ h);unfold uO;cases e:D.kinds with
 | nil=>exact absurd e hk
 | cons x r=>
  have:=Fa.mpr (lU r);rw [DQ];omega
end L3
namespace L2
open PySem PySem.Spec PyProof.Rows
def BV (X:Cx) (es:List Expr) (t:TA):Prop:=
 ∀ (pos:Pos) (pins:List (Addr×Obj)) (s:Shared) (σ:St) (H:Hp) (Q:List V->Hp->Prop),1<=s.toks->Inv X pins σ H s->t σ H Q->wpAny (model X.prog X.w) X.A (spliced (backTo pos (starEach es X.env))) (AP X pins σ Q) X.xe s
def Dg (X:Cx) (e:Expr) (t:TT):Prop:=
 ∀ (pins:List (Addr×Obj)) (s:Shared) (σ:St) (H:Hp) (Q:Bool->Hp->Prop),1<=s.toks->Inv X pins σ H s->t σ H Q->wpAny (model X.prog X.w) X.A (isTrue e X.env (eval e X.env)) (TP X pins σ Q) X.xe s
section
variable {X:Cx} {a b e:Expr} {es:List Expr} {ta tb te:TE} {t:TA} {pos:Pos} {st:Stmt} {rest:List Stmt} {ts us:TS}
theorem qi (he:PEp X e te) (hs:starEach [e] X.env=(false,eval e X.env)::starEach [] X.env:=by rfl):BV X [e] (md te yk):=by
 intro pos pins s σ H Q hk I h;rw [hs];show wpAny _ _ (spliced ((false,eval e X.env)::backTo pos (starEach [] X.env))) _ _ s;refine EM (bC (he pins s σ H _ hk I h) fun u s1 ⟨x,H1,I1,r1,q1⟩=>?_);exact bC (ad (X:=X) pos pins s1 σ H1 _ I1 q1) fun us s2 ⟨xs,H2,I2,r2,q2⟩=>⟨x::xs,H2,I2,.cons r1 r2,q2⟩
theorem uS (ha:PE X e te) (hr:BV X es t) (hs:starEach (e::es) X.env=(false,eval e X.env)::starEach es X.env:=by rfl):BV X (e::es) (md te t):=by
 intro pos pins s σ H Q hk I h;rw [hs];show wpAny _ _ (spliced ((false,eval e X.env)::backTo pos (starEach es X.env))) _ _ s;refine EM (sM (ha pins s σ H _ I h) fun u s1 k1 ⟨x,H1,I1,r1,q1⟩=>?_);exact bC (hr pos pins s1 σ H1 _ (Ef hk k1) I1 q1) fun us s2 ⟨xs,H2,I2,r2,q2⟩=>⟨x::xs,H2,I2,.cons r1 r2,q2⟩
theorem uT {op:CmpOp} {r:R2} (ho:dE X (compareOp op) r) (ha:PEp X a ta) (hb:PE X b tb) (hm:behindInMarks op b=false):Dg X (.Compare a [op] [b] pos) (rM (Al r ta tb)):=by
 intro pins s σ H Q hk I h;refine wpAny_isTrue_Compare1 (bC (ha pins s σ H _ hk I h) fun v s1 ⟨x,H1,I1,r1,q1⟩=>bC (hb pins s1 σ H1 _ I1 q1) fun u s2 ⟨y,H2,I2,r2,q2⟩=>
  bC (ho pins s2 σ H2 x y v u _ I2 r1 r2 q2) fun c s3 ⟨z,H3,I3,r3,k,e,q3⟩=>?_) hm
 subst e;cases r3;exact wpAny_truthy_bool ⟨H3,I3,q3⟩
theorem zC {c:Expr} {a b:List Stmt} {tc:TT} (hc:Dg X c tc) (ha:PSs X a ts) (hb:PSs X b us):PSp X (.If c a b pos) (Af tc ts us):=by
 refine ⟨?_⟩;intro pins s σ H D hk I h;refine wpAny_If (bC (hc pins s σ H _ hk I h) fun d s1 ⟨H1,I1,q1⟩=>?_);cases d with
 | true=>exact ha pins s1 σ H1 D I1 q1
 | false=>exact hb pins s1 σ H1 D I1 q1
theorem rj (h1:PS X st ts) (h2:PSsp X rest us):PSsp X (st::rest) (Aa ts us):=by
 refine ⟨?_⟩;intro pins s σ H D hk I h;refine wpAny_execs_cons (sM (h1 pins s σ H { D with nx:=us D } I h) fun f s1 k1 q=>?_);cases f with
 | next=>
  obtain ⟨σ',H',I',q⟩:=q;exact h2 pins s1 σ' H' D (Ef hk k1) I' q
 | ret v=>exact q
 | brk=>exact q
 | cont=>exact q
end
end L2
namespace L3
open PySem PySem.Spec PyProof.Rows L2
def Fnb (P:Program) (w:World) (K:ZF) (mg:Str->Option Value) (base:Heap) (x:Str) (k:Nat) (ps:List Str) (sp:Sp):Prop:=
 ∃ (f:Addr) (fd:FuncData),mg x=some (.ref f)/\PySem.W.keepIn K (.ref f)=true/\Binds K fd ps []/\FnOkb P w K mg base bY k f fd ps sp
variable {sp:Sp} {ps:List Str} {x:Str}
theorem Fnb.fn {P:Program} {w:World} {K:ZF} {mg:Str->Option Value} {base:Heap} {k:Nat} (h:Fnb P w K mg base x k ps sp):Fn P w K mg base x k ps sp:=
 let ⟨f,fd,a,b,c,d⟩:=h;⟨f,fd,a,b,c,d.ok⟩
variable {t:TA} {es:List Expr} {e:Expr} {X:Cx}
theorem zD {k:Nat} {p pos:Pos} (h:Fnb X.prog X.w X.K X.mg X.base x k ps sp) (hr:Room k X.A) (hg:Gl X x) (ha:PA X (e::es) t) (hdb:(x == ("__debug__":Str))=false:=by decide)
  (he:starEach (e::es) X.env=(false,eval e X.env)::starEach es X.env:=by rfl) (hpl:(backTo pos (starEach es X.env)).any (·.1)=false:=by rfl):PEb X (.Call (.Name x p) (e::es) [] pos) (Cu sp t):=by
 obtain ⟨f,fd,hm,hk,hb,F⟩:=h;exact sR (E:=E0) F hr hg hm hk hb dL ha hdb he hpl
theorem uU {k:Nat} {p pos:Pos} (h:Fn X.prog X.w X.K X.mg X.base x k ps sp) (hr:Room k X.A) (hg:Gl X x) (ha:BV X (e::es) t) (hdb:(x == ("__debug__":Str))=false:=by decide)
  (he:starEach (e::es) X.env=(false,eval e X.env)::starEach es X.env:=by rfl) (hpl:(backTo pos (starEach es X.env)).any (·.1)=false:=by rfl):PEp X (.Call (.Name x p) (e::es) [] pos) (Cu sp t):=by
 obtain ⟨f,fd,hm,hk,hb,F⟩:=h;refine ⟨?_⟩;intro pins s σ H Q hk1 I q;refine wpAny_Call_Name_kw (dF I hg hm ?_ hdb);refine EB (h₀:=X.base) I.ok.mod.kin hk (bC (ha pos pins s σ H _ hk1 I q) fun us s1 ⟨vs,H1,I1,r,q⟩=>⟨I1.kIn,?_⟩) he hpl;exact hV (dvs:=[]) (E:=E0) F hr hb .nil dL I1 r (by rw [El];exact q)
end L3
namespace L3
open PySem L2
abbrev uV:Stmt:=cG 104
variable {D:Fm}
theorem Dh {fn:List Str} (h:lG D fn):OkN D:=
 ⟨fun z hz=>cJ (h.nm.pl z hz),fun z hz=>cJ (h.nm.mrk z hz),fun z hz=>cJ (h.nm.mrk z (h.fm.gt z hz)),fun k hk=>cJ (h.nm.kn k hk),fun k hk f hf=>⟨cJ (jt h hk f hf).1,by
  have h2:sortL.all (fun z=>pH z)=true:=by decide +kernel
  exact Eh.mp h2 _ (jt h hk f hf).2⟩⟩
theorem iW {fn:List Str} (h:lG D fn) (zb:Bool):k7 ((TK.toks (cF zb D)).map S) D:=by
 rw [kg h,Bg];exact wG h
theorem eW {fn:List Str} (h:lG D fn) (zb:Bool):(cF zb D).length<=20000/\(TK.toks (cF zb D)).length<=1500:=by
 rw [kg h];exact uo h
inductive uW (C:Addr) (vs:List V) (H:Hp) (Q:VK) (Z3:XK):Prop
 | mk (d:Addr) (D:Fm) (fn:List Str) (kvs:List (bT×V)) (lf lp lm lk lg:Addr) (ks:List V) (v:V):vs=[.ref d,v]->KpV H d D fn kvs lf lp lm lk lg ks->ShOk D fn->m5 D fn->kvs.length<=100->TabV C H v D->(∀ H',Same H H'->Q (.bl true) H')->uW C vs H Q Z3
variable {P:Program} {w:World} {K:ZF} {mg:Str->Option Value} {base:Heap} {C fi aS aE aF aO:Addr} {t1 t2 t3 t4 t5 tM:Tok}
theorem scShs:aw ["_law_kept","_law_table","_law_text","_law_more","_law_other","_law_made"] ["_law_kept","_law_table"] (aj uV):=cI zk
variable {fd:FuncData} {f:Addr}
theorem zE (F:Fun K "_law_shapes" "_law_shapes" uV f fd) (B:Bl mg) (B3:zV mg) (ST:Fnb P w K mg base "_law_shape_text" 2 ["_law_table"] wJ) (RT:Fn P w K mg base "read_table" 8 ["text"] (wt C)) (SS:Fn P w K mg base "same_shape" 4 ["one","other"] (spSS C)) (OT:Fn P w K mg base "_law_others" 2 ["_law_kept"] uN):FnOk P w K mg base bY 9 f fd ["_law_kept","_law_table"] (uW C):=by
 have ZZ:=scShs
 walk_at "o"
 ·obtain ⟨d,D,fn,kvs,lf,lp,lm,lk,lg,ks,v,rfl,hK,hO,hQ,lkv,hT,qq⟩:=h;have sz:(100000:Nat)<=sizeLine:=by decide
  have hu:=gi hr;refine ⟨_,sP (fun σ H'=>σ=[some (.ref d),some v,some (.str (S (cF false D))),none,none,none]/\Same H H') (pN (i:=2) scShs.nd rfl (Or.inl rfl) (zD ST hr.m rfl (ac (pv 0) ad))) (rj (bi (PW.pt (dX (ar cv (aB SS hr.m rfl (ac (pv 1) (ac (aB RT hr rfl (ac (pv 2) ad)) ad))) cr) (di (ar cv (aB SS hr.m rfl (ac (pv 1) (ac (pv 1) ad))) cr)))) (ai (aA cr)) aL) (sQ (fun σ H'=>σ=[some (.ref d),some v,some (.str (S (cF false D))),none,none,none]/\Same H H') (zC (uT cv (uU SS hr.m rfl (uS (pv 1) (qi (uU RT hr rfl (qi (mz 2 rfl (Or.inl rfl))))))) cr (nQ _)) (ai (aA cr)) aL) (ag (cY PassesOwn.never rfl (cW (aB OT hr.m rfl (ac (pv 0) ad))) (aC (i:=3) scShs.nd rfl (Or.inl rfl)) (ag (au (i:=4) scShs.nd rfl (Or.inl rfl) (aR jd (by rfl) B3.dict jl (ac (pv 0) ad))) (ag (aI (pM (pv 4) (pv 3) ⟨rfl,rfl,rfl,rfl⟩)) (ag (au (i:=5) scShs.nd rfl (Or.inl rfl) (aB RT hr rfl (ac (aB ST.fn hr.m rfl (ac (pv 4) ad)) ad))) (ai (bi (PW.pt (dX (ar cv (aB SS hr.m rfl (ac (pv 1) (ac (pv 5) ad))) cr) (di (ar cv (aB SS hr.m rfl (ac (pv 5) (ac (pv 1) ad))) cr)))) (ai (aA cr)) aL)))))) (ai (aA cr))))),?_⟩;have hW:=hO.w;have oD:=Dh hW;refine ⟨?_,?_⟩;rotate_left
  ·exact ⟨_,rfl,d,D,fn,kvs,lf,lp,lm,lk,lg,ks,rfl,hK,hW,fun H' s'=>⟨rfl,s'⟩⟩
  rintro σ H1 ⟨rfl,s1⟩;refine ⟨_,rfl,_,rfl,cF false D,D,rfl,(eW hW false).1,(eW hW false).2,iW hW false,hW.fm,fun v2 H2 s2 t2=>?_⟩;refine ⟨v,v2,D,D,rfl,hT.same (s1.trans s2),t2,hW.fm,hW.fm,oD,oD,fun H3 s3=>?_⟩;rw [ss_yes rfl];refine ⟨_,_,rfl,rfl,_,rfl,bP ?_⟩;have s13:=s1.trans (s2.trans s3);refine ⟨_,rfl,_,rfl,v,v,D,D,rfl,hT.same s13,hT.same s13,hW.fm,hW.fm,oD,oD,fun H4 s4=>?_⟩;rw [ss_yes rfl];refine ⟨_,_,rfl,rfl,_,rfl,bP ?_⟩;have s14:=s13.trans s4;clear s13 s4 s3 t2 s2 s1;refine ⟨?_,?_⟩;rotate_left
  ·refine ⟨_,rfl,S (cF false D),rfl,zk,?_,?_⟩
   ·have:=(eW hW false).1;have l8:(("{ stop }":Str)).length=8:=by decide +kernel
    rw [l8,bx];omega
   rw [rh hW];refine ⟨cF true D,D,rfl,(eW hW true).1,(eW hW true).2,iW hW true,hW.fm,fun v2 H2 s2 t2=>?_⟩;refine ⟨v,v2,D,D,rfl,hT.same (s14.trans s2),t2,hW.fm,hW.fm,oD,oD,fun H3 s3=>?_⟩;rw [ss_yes rfl];exact ⟨_,_,rfl,rfl,_,rfl,bP ⟨rfl,s14.trans (s2.trans s3)⟩⟩
  clear s14;rintro σ H1 ⟨rfl,s1⟩;refine ⟨_,rfl,d,D,fn,kvs,lf,lp,lm,lk,lg,ks,rfl,hK.same s1,hO,hQ,fun lo xs H2 FX=>⟨lo,rfl,⟨_,SqL.of FX.el⟩,?_⟩⟩;refine gI (K:=K) (a:=lo) (xs:=xs) (fun i σ H'=>∃ v3 v4 v5:Option V,σ=[some (.ref d),some v,some (.str (S (cF false D))),v3,v4,v5]/\Same H2 H') ⟨_,_,_,rfl,Same.refl _⟩ (fun i σ H' _ ⟨_,_,_,_,s'⟩=>SqL.of (s' _ _ FX.el)) ?_ ?_
  ·rintro i u σ H3 hu' ⟨v3,v4,v5,rfl,s3⟩;obtain ⟨a,mv,D',fn',lf',lp',lm',lk',lg',ks',rfl,ne,ea,lmv,⟨hW',hne⟩,kk⟩:=FX.al u (D4 hu');have s03:=(s1.trans FX.s).trans s3;have K3:=hK.same s03;refine ⟨_,rfl,d,kvs,rfl,K3.dd,fun b nb=>?_⟩;have s4:=af (o:=.dK kvs) nb;have e4:(aq H3 b (.dK kvs)) b=some (.dK kvs):=ae;have ea3:=s3 _ _ ea;have ab:b≠a:=(ap ea3 nb).symm;have s45:=aU (o:=.dK (ba kvs mv)) nb s4;refine ⟨_,rfl,b,rfl,.inl ⟨_,.inl e4⟩,_,rfl,a,kvs,mv,rfl,ab,e4,s4 _ _ ea3,zo,?_⟩;have e5:(aq (aq H3 b (.dK kvs)) b (.dK (ba kvs mv))) b=some (.dK (ba kvs mv)):=ae;generalize aq (aq H3 b (.dK kvs)) b (.dK (ba kvs mv))=H5 at *;have K5:=kk H5 b (FX.s.trans (s3.trans s45)) (fw (s3.trans s45)) e5;refine ⟨_,rfl,b,D',fn',ba kvs mv,lf',lp',lm',lk',lg',ks',rfl,K5,hW',fun H6 s6=>?_⟩;refine ⟨cF false D',D',rfl,(eW hW' false).1,(eW hW' false).2,iW hW' false,hW'.fm,fun v6 H7 s7 t7=>?_⟩;have s37:=s45.trans (s6.trans s7);have oD':=Dh hW';refine ⟨_,rfl,_,rfl,v,v6,D,D',rfl,hT.same (s03.trans s37),t7,hW.fm,hW'.fm,oD,oD',fun H8 s8=>?_⟩;rw [ss_no hne];refine ⟨_,_,rfl,rfl,_,rfl,bP ?_⟩;refine ⟨_,rfl,_,rfl,v6,v,D',D,rfl,t7.same s8,hT.same (s03.trans (s37.trans s8)),hW'.fm,hW.fm,oD',oD,fun H9 s9=>?_⟩;rw [ss_no (fun z=>hne z.symm)];exact ⟨_,_,rfl,rfl,_,rfl,bP ⟨_,_,_,rfl,s3.trans (s37.trans (s8.trans s9))⟩⟩
  ·rintro σ H3 ⟨v3,v4,v5,rfl,s3⟩;exact qq _ ((s1.trans FX.s).trans s3)
inductive CY (P:Program) (w:World) (K:ZF) (mg:Str->Option Value) (base:Heap) (x:Str) (k:Nat) (ps:List Str) (sp:Sp):Prop
 | mk (f:Addr) (fd:FuncData):mg x=some (.ref f)->PySem.W.keepIn K (.ref f)=true->Binds K fd ps [Value.none]->FnOk P w K mg base bY k f fd ps sp->CY P w K mg base x k ps sp
structure Lw (C:Addr) (K:ZF) (l:Addr) (ns:List Int) (d:Addr) (v:V) (D:Fm) (fn:List Str) (kvs:List (bT×V)) (lf lp lm lk lg:Addr) (ks:List V) (lr:Addr) (us:List V) (rs:List Rw) (H:Hp):Prop where
 kp:KpV H d D fn kvs lf lp lm lk lg ks
 tb:TabV C H v D
 ok:ShOk D fn
 nq:m5 D fn
 ln:kvs.length<=100
 sq:SqL K H l (ns.map V.int)
 er:H lr=some (.lst us)
 rws:Paired (RowV H) us rs
variable {H H':Hp} {rs:List Rw} {us:List V} {ks:List V} {lf lp lm lk lg:Addr} {kvs:List (bT×V)} {v:V} {d:Addr}
theorem Lw.same {l:Addr} {ns:List Int} {fn:List Str} {lr:Addr} (h:Lw C K l ns d v D fn kvs lf lp lm lk lg ks lr us rs H) (s:Same H H'):Lw C K l ns d v D fn kvs lf lp lm lk lg ks lr us rs H':=
 ⟨h.kp.same s,h.tb.same s,h.ok,h.nq,h.ln,s.seq h.sq,s _ _ h.er,bR (fun _ _ z=>RowV.kt (aW s) z) h.rws⟩
variable {q:Addr}
theorem xb:∃ Hb:Hp,Same Hb H/\Hb q=none/\But q H Hb:=by
 refine ⟨fun a=>if a=q then none else H a,fun a o e=>?_,if_pos rfl,fun a o e n=>?_⟩
 ·have e:(if a=q then none else H a)=some o:=e;by_cases h:a=q
  ·rw [if_pos h] at e;cases e
  ·rw [if_neg h] at e;exact e
 ·show (if a=q then none else H a)=some o;rw [if_neg n];exact e
variable {a:Addr}
theorem gY {x:List Str} (g:Strm H q) (h:H a=some (.lst (ak x))):a≠q:=fun z=>by
 obtain ⟨i,j,k,e⟩:=g;rw [z,e] at h;cases x with
 | nil=>cases h
 | cons y r=>cases h
variable {Hb:Hp}
theorem KpV.mask {fn:List Str} (h:KpV H d D fn kvs lf lp lm lk lg ks) (g:Strm H q) (b:But q H Hb):KpV Hb d D fn kvs lf lp lm lk lg ks:=by
 have nt:∀ {a x},H a=some (.tup x)->a≠q:=fun e z=>by
  obtain ⟨i,j,k,e'⟩:=g;rw [z,e'] at e;cases e
 refine ⟨b _ _ h.dd fun z=>?_,h.v1,h.v2,h.v3,h.v4,h.v5,h.v6,h.v7,h.v8,b _ _ h.ef (gY g h.ef),b _ _ h.ep (gY g h.ep),b _ _ h.em (gY g h.em),b _ _ h.eg (gY g h.eg),b _ _ h.ek fun z=>?_,bR (fun _ _ ⟨p,l,a,e1,e2⟩=>⟨p,l,a,b _ _ e1 (nt e1),b _ _ e2 (gY g e2)⟩) h.kd⟩
 ·obtain ⟨i,j,k,e⟩:=g;have:=h.dd;rw [z,e] at this;cases this
 ·obtain ⟨i,j,k,e⟩:=g;have e2:=h.ek;rw [z,e] at e2;have hk:=h.kd;have e3:ks=[V.int i,.int j,.int k]:=by cases e2;rfl
  rw [e3] at hk;generalize D.kinds=kk at hk;cases hk with
  | cons a t=>
   obtain ⟨_,_,z,_⟩:=a;cases z
theorem TabV.mask (h:TabV C H v D) (g:Strm H q) (b:But q H Hb):TabV C Hb v D:=by
 obtain ⟨i,j,k,e⟩:=g;have tk:TupK H Hb:=fun a x h=>b _ _ h fun z=>by rw [z,e] at h;cases h
 obtain ⟨a,dx,pp,pm,pn,pk,us,rfl,ho,h1,h2,h3,h4,h5⟩:=h;exact ⟨a,dx,pp,pm,pn,pk,us,rfl,b _ _ ho (fun z=>by rw [z,e] at ho;cases ho),tk _ _ h1,tk _ _ h2,tk _ _ h3,tk _ _ h4,bR (fun _ _ h=>h.kt tk) h5⟩
def uX (r:Rw):PyData:=.tuple [.str r.k.name,.tuple (r.ops.map fun (n:Nat)=>PyData.int (n:Int))]
theorem uY:∀ l:List Nat,DtAll K H (bH l) (l.map fun (n:Nat)=>PyData.int (n:Int))
 | []=>.nil
 | x::r=>.cons (.int _) (uY r)
theorem gZ:∀ {us:List V} {rs:List Rw},Paired (RowV H) us rs->DtAll K H us (rs.map uX)
 | _,_,.nil=>.nil
 | _,_,.cons h t=>by
  obtain ⟨p,t',rfl,hp,ht⟩:=h;exact .cons (.tup (SqT.of hp) (.cons (.str _) (.cons (.tup (SqT.of ht) (uY _)) .nil))) (gZ t)
variable {n:Nat}
theorem hG {fn:List Str} (hO:ShOk D fn) (h:∀ r∈rs,gT D n r):(PyData.tuple (rs.map uX)).canLay0=true:=by
 refine lay_map (g:=uX) fun r hr=>?_;have h1:(PyData.str r.k.name).canLay0=true:=cJ (hO.nm.kn _ (h r hr).1);have h2:PyData.canLayAll0 (r.ops.map fun (n:Nat)=>PyData.int (n:Int))=true:=lay_map fun _ _=>rfl;show ((PyData.str r.k.name).canLay0 && (PyData.canLayAll0 (r.ops.map fun (n:Nat)=>PyData.int (n:Int)) && true))=true;rw [h1,h2];rfl
theorem qj (rs:List Rw):qY (.tuple (rs.map uX))=true:=pl_map fun r _=>by
 have:fb (r.ops.map fun (n:Nat)=>PyData.int (n:Int))=true:=pl_map fun _ _=>rfl;show (true && (fb (r.ops.map fun (n:Nat)=>PyData.int (n:Int)) && true))=true;rw [this];rfl
theorem nz (rs:List Rw):(PyData.tuple (rs.map uX)).depth<=60:=by
 have:PyData.depthAll (rs.map uX)<=21:=dep_map (n:=20) fun r _=>by
  have:PyData.depthAll (r.ops.map fun (n:Nat)=>PyData.int (n:Int))<=11:=dep_map (n:=10) fun _ _=>by simp [PyData.depth]
  simp only [uX,PyData.depth,PyData.depthAll];omega
 simp only [PyData.depth];omega
theorem xf (bl:Option Nat):yj (iE bl) (iE bl)=true:=by cases bl<;>rfl
inductive Di (C:Addr) (Cp:Addr) (K:ZF) (l:Addr) (ns:List Int) (σ:St) (H':Hp):Prop
 | mk (q d:Addr) (v:V) (D:Fm) (fn:List Str) (kvs:List (bT×V)) (lf lp lm lk lg:Addr) (ks:List V) (Hb:Hp):σ=[some (.ref l),some (.ref q),some (.ref d),some v,none,none,none,none,none,none]->Strm H' q->Same Hb H'->Hb q=none->KpV Hb d D fn kvs lf lp lm lk lg ks->TabV C Hb v D->ShOk D fn->m5 D fn->kvs.length<=100->SqL K Hb l (ns.map V.int)->Di C Cp K l ns σ H'
inductive Dj (C:Addr) (Cp:Addr) (K:ZF) (l:Addr) (ns:List Int) (σ:St) (H':Hp):Prop
 | mk (q d:Addr) (v:V) (D:Fm) (fn:List Str) (kvs:List (bT×V)) (lf lp lm lk lg:Addr) (ks:List V) (Hb:Hp) (many:Nat):σ=[some (.ref l),some (.ref q),some (.ref d),some v,some (.int (many:Nat)),none,none,none,none,none]->many<=40->Strm H' q->Same Hb H'->Hb q=none->KpV Hb d D fn kvs lf lp lm lk lg ks->TabV C Hb v D->ShOk D fn->m5 D fn->kvs.length<=100->SqL K Hb l (ns.map V.int)->Dj C Cp K l ns σ H'
inductive Dk (C:Addr) (Cp:Addr) (K:ZF) (l:Addr) (ns:List Int) (σ:St) (H':Hp):Prop
 | mk (q d:Addr) (v:V) (D:Fm) (fn:List Str) (kvs:List (bT×V)) (lf lp lm lk lg:Addr) (ks:List V) (Hb:Hp) (many:Nat) (lr:Addr) (us:List V) (rs:List Rw):σ=[some (.ref l),some (.ref q),some (.ref d),some v,some (.int (many:Nat)),some (.ref lr),none,none,none,none]->many<=40->q≠lr->H' lr=some (.lst us)->Paired (RowV H') us rs->rs.length=many->(∀ r∈rs,gT D many r)->Strm H' q->Same Hb H'->Hb q=none->KpV Hb d D fn kvs lf lp lm lk lg ks->TabV C Hb v D->ShOk D fn->m5 D fn->kvs.length<=100->SqL K Hb l (ns.map V.int)->Dk C Cp K l ns σ H'
inductive Dl (C:Addr) (Cp:Addr) (K:ZF) (l:Addr) (ns:List Int) (σ:St) (H':Hp):Prop
 | mk (d:Addr) (v:V) (D:Fm) (fn:List Str) (kvs:List (bT×V)) (lf lp lm lk lg:Addr) (ks:List V) (many:Nat) (lr:Addr) (us:List V) (rs:List Rw) (bl:Option Nat) (v1:Option V):σ=[some (.ref l),v1,some (.ref d),some v,some (.int (many:Nat)),some (.ref lr),some (iE bl),none,none,none]->many<=40->Lw C K l ns d v D fn kvs lf lp lm lk lg ks lr us rs H'->rs.length=many->(∀ r∈rs,gT D many r)->(∀ b,bl=some b->b<=many)->Dl C Cp K l ns σ H'
inductive Do (C:Addr) (Cp:Addr) (K:ZF) (l:Addr) (ns:List Int) (σ:St) (H':Hp):Prop
 | mk (d:Addr) (v:V) (D:Fm) (fn:List Str) (kvs:List (bT×V)) (lf lp lm lk lg:Addr) (ks:List V) (many:Nat) (lr:Addr) (us:List V) (rs:List Rw) (bl:Option Nat) (v1:Option V) (Hb:Hp) (lh pa dx tp:Addr):σ=[some (.ref l),v1,some (.ref d),some v,some (.int (many:Nat)),some (.ref lr),some (iE bl),some (.ref lh),some (.ref pa),none]->Same Hb H'->Hb lh=none->H' lh=some (.lst us)->H' pa=some (.ins Cp dx (ww tp (iE bl)))->H' tp=some (.tup us)->many<=40->Lw C K l ns d v D fn kvs lf lp lm lk lg ks lr us rs Hb->rs.length=many->(∀ r∈rs,gT D many r)->(∀ b,bl=some b->b<=many)->Do C Cp K l ns σ H'
inductive uZ (C:Addr) (Cp:Addr) (K:ZF) (l:Addr) (ns:List Int) (σ:St) (H':Hp):Prop
 | mk (d:Addr) (v:V) (D:Fm) (fn:List Str) (kvs:List (bT×V)) (lf lp lm lk lg:Addr) (ks:List V) (many:Nat) (lr:Addr) (us:List V) (rs:List Rw) (bl:Option Nat) (v1 v7 v9:Option V) (pa dx tp:Addr):σ=[some (.ref l),v1,some (.ref d),some v,some (.int (many:Nat)),some (.ref lr),some (iE bl),v7,some (.ref pa),v9]->H' pa=some (.ins Cp dx (ww tp (iE bl)))->H' tp=some (.tup us)->many<=40->Lw C K l ns d v D fn kvs lf lp lm lk lg ks lr us rs H'->rs.length=many->(∀ r∈rs,gT D many r)->(∀ b,bl=some b->b<=many)->uZ C Cp K l ns σ H'
inductive qk (K:ZF) (vs:List V) (H:Hp) (Q:VK) (Z3:XK):Prop
 | mk (a:Addr) (ns:List Int):vs=[.ref a]->SqL K H a (ns.map V.int)->ns.length<=63->(∀ H',Q (.bl true) H')->qk K vs H Q Z3
section
variable {P:Program} {w:World} {K:ZF} {mg:Str->Option Value} {base:Heap} {C Cp cK:Addr}
theorem scLaw:aw ["_law_script","_law_stream_here","_law_kept","_law_table","_law_many","_law_rows","_law_bell","_law_handed","_law_program","_law_k"] ["_law_script"] (aj mO):=cI zk
theorem CZ:(["_law_k","_law_kept","_law_many","_law_stream_here"]:List Str).Nodup:=by decide +kernel
theorem C0:(["_law_row","_law_many","_law_table"]:List Str).Nodup:=by decide +kernel
theorem zF (F:Fun K "law" "law" mO f fd) (B:Bl mg) (PC:Pc K Cp) (CL:Fn P w K mg base "_law_cell" 1 ["_law_script","_law_k"] (oq K)) (ST:Fn P w K mg base "_law_stream" 1 ["_law_cell_here"] jg) (TK':Fn P w K mg base "_law_take" 1 ["_law_stream_here","_law_many"] fz) (SHP:Fn P w K mg base "_law_shape" 3 ["_law_stream_here"] lH) (TX:Fnb P w K mg base "_law_shape_text" 2 ["_law_table"] wJ) (RT:Fn P w K mg base "read_table" 8 ["text"] (wt C)) (SR:Fn P w K mg base "_law_shape_row" 3 ["_law_stream_here","_law_table","_law_rows"] uu)
  (PO:Fn P w K mg base "program_of" 6 ["table","rows","bell"] (fun vs H Q _=>jC C Cp cK vs H Q E0)) (PO2:CY P w K mg base "program_of" 6 ["table","rows","bell"] (fun vs H Q _=>jC C Cp cK vs H Q E0)) (IR:Fn P w K mg base "is_row" 5 ["table","thing","rows"] (spIsRowT C)) (BA:Fn P w K mg base "_law_bad" 4 ["_law_stream_here","_law_table","_law_rows"] spBad) (RF:Fn P w K mg base "_law_refused" 8 ["_law_stream_here","_law_kept","_law_table","_law_rows","_law_bell"] (spRef C)) (SHS:Fn P w K mg base "_law_shapes" 9 ["_law_kept","_law_table"] (uW C)):FnOk P w K mg base bY 10 f fd ["_law_script"] (qk K):=by
 have ZZ:=scLaw
 walk_at "o"
 ·obtain ⟨l,ns,rfl,hS,hl,qq⟩:=h;have sz:(100000:Nat)<=sizeLine:=by decide
  obtain ⟨f2,fd2,m2,k2,b2,F2⟩:=PO2;refine ⟨_,ag (au (i:=1) scLaw.nd rfl (Or.inr rfl) (aB ST hr.m rfl (ac (aB CL hr.m rfl (ac (pv 0) (ac ah ad))) ad))) (ag (au (i:=2) scLaw.nd rfl (Or.inr rfl) (aB SHP hr.m rfl (ac (pv 1) ad))) (aM (Di C Cp K l ns) (au (i:=3) scLaw.nd rfl (Or.inr rfl) (aB RT hr.m rfl (ac (aB TX.fn hr.m rfl (ac (pv 2) ad)) ad))) (aM (Dj C Cp K l ns) (au (i:=4) scLaw.nd rfl (Or.inr rfl) (aZ aY (aP (ac ah (ac ah (ac ah (ac (aB TK' hr.m rfl (ac (pv 1) (ac ah ad))) ad))))) (aB TK' hr.m rfl (ac (pv 1) (ac ah ad))))) (aM (Dk C Cp K l ns) (ml (i:=5) scLaw.nd rfl rfl (N':=["_law_k","_law_kept","_law_many","_law_stream_here"]) (ix:=[none,some 2,some 4,some 1]) (sc0:=aj mO) (N:=["_law_script","_law_stream_here","_law_kept","_law_table","_law_many","_law_rows","_law_bell","_law_handed","_law_program","_law_k"]) rfl zk (dZ rfl B.range (ac (pv 4) ad)) (fun _ _ _ _ _=>(aC (i:=0) CZ rfl (Or.inl rfl) (.inr rfl))) (fun _ _ _ _ _=>c0) (fun _ _ _ _ _=>(aB SR hr.m rfl (ac (pv 3) (ac (pv 1) (ac (pv 2) ad)))))) (aM (Dl C Cp K l ns) (au (i:=6) scLaw.nd rfl (Or.inl rfl) (aZ aY (aP (ac cu (ac (aB TK' hr.m rfl (ac (pv 1) (ac (aG bO (pv 4) ah) ad))) ad))) (aB TK' hr.m rfl (ac (pv 1) (ac ah ad))))) (ag (au (i:=7) scLaw.nd rfl (Or.inl rfl) (aR eJ (by rfl) B.list eP (ac (pv 5) ad))) (aM (Do C Cp K l ns) (au (i:=8) scLaw.nd rfl (Or.inl rfl) (aB PO hr.m rfl (ac (pv 3) (ac (pv 7) (ac (pv 6) ad))))) (ag (aI (bZ DV DU DT aT (pv 7) (ac cu ad))) (aM (uZ C Cp K l ns) (aI (yn DV PySem.F.slot_list_reverse PySem.F.type_list_reverse nZ (pv 7))) (aM (uZ C Cp K l ns) (bi (PW.pt (dX (ar (op_neD hr) (bL (pv 8) rfl) (aR bn (by rfl) B.tuple bo (ac (pv 5) ad))) (dX (ar jP (bL (pv 8) rfl) (pv 6)) (di (ar ph (bL (pz (dvs:=[.non]) F2 hr.m rfl m2 k2 b2 (.cons rfl .nil) dL (ac (pv 3) (ac (aR bn (by rfl) B.tuple bo (ac (pv 5) ad)) ad))) rfl) cu))))) (ai (aA cr)) aL) (aM (uZ C Cp K l ns) (bi (ar (op_neD hr) (dN (N':=["_law_row","_law_many","_law_table"]) (ix:=[none,some 4,some 3]) (sc0:=aj mO) (N:=["_law_script","_law_stream_here","_law_kept","_law_table","_law_many","_law_rows","_law_bell","_law_handed","_law_program","_law_k"]) rfl zk (cW (pv 5)) (fun _ _ _ _ _=>(aC (i:=0) C0 rfl (Or.inl rfl) (.inr rfl))) (fun _ _ _ _ _=>(kH (ar cv (aB IR hr.m rfl (ac (pv 2) (ac (pv 0) (ac (pv 1) ad)))) cr))) (fun _ _ _ _ _=>(pv 0))) (aP ad)) (ai (aA cr)) aL) (aM (uZ C Cp K l ns) (cY PassesOwn.never rfl (dZ rfl B.range (ac (av (jR rfl) (by rfl) B.max PyProof.Rows.boot_max (ac ah (ac (av (qu rfl) (by rfl) B.min PyProof.Rows.boot_min (ac ah (ac (av ay (by rfl) B.len D3 (ac (pv 0) ad)) ad))) ad))) ad)) (aC (i:=9) scLaw.nd rfl (Or.inl rfl)) (ag (au (i:=1) scLaw.nd rfl (Or.inr rfl) (aB ST hr.m rfl (ac (aB CL hr.m rfl (ac (pv 0) (ac (pv 9) ad))) ad))) (ag (bi (ar cv (aB IR hr.m rfl (ac (pv 3) (ac (aB BA hr.m rfl (ac (pv 1) (ac (pv 2) (ac (pv 4) ad)))) (ac (pv 4) ad)))) cr) (ai (aA cr)) aL) (ai (bi (cL (cX (aB RF hr.m rfl (ac (pv 1) (ac (pv 2) (ac (pv 3) (ac (pv 5) (ac (pv 6) ad)))))))) (ai (aA cr)) aL))))) (ai (aA (gq (aB SHS hr rfl (ac (pv 2) (ac (pv 3) ad))) (fe (cH (op_eqD hr) (bL (pv 8) rfl) (aR bn (by rfl) B.tuple bo (ac (pv 5) ad))))))))))))))))))),?_⟩;refine ⟨_,rfl,l,ns,0,rfl,hS,zo,fun c=>⟨c,rfl,fun q H1 nq s1 g1=>⟨_,rfl,q,rfl,g1,fun d H2 D fn kvs lf lp lm lk lg ks g2 b2' hK hO hQ lkv=>?_⟩⟩⟩;refine ⟨?_,?_⟩;rotate_left
  ·refine ⟨_,rfl,d,D,fn,kvs,lf,lp,lm,lk,lg,ks,rfl,hK,hO.w,fun H3 s3=>?_⟩;refine ⟨cF false D,D,rfl,(eW hO.w false).1,(eW hO.w false).2,iW hO.w false,hO.fm,fun v H4 s4 hT=>?_⟩;have s24:=s3.trans s4;have g4:=g2.same s24;have s04:=(ci nq s1 b2').trans s24;obtain ⟨Hb,m1,m2',m3⟩:=xb (H:=H4) (q:=q);have s0b:Same H Hb:=fun a o e=>m3 _ _ (s04 _ _ e) (ap e nq);exact ⟨q,d,v,D,fn,kvs,lf,lp,lm,lk,lg,ks,Hb,rfl,g4,m1,m2',(hK.same s24).mask g4 m3,hT.mask g4 m3,hO,hQ,lkv,s0b.seq hS⟩
  clear hQ hO hK b2' g2 lkv g1 s1 nq;rintro σ H3 ⟨q,d,v,D,fn,kvs,lf,lp,lm,lk,lg,ks,Hb,rfl,g3,s3,nq,hK,hT,hO,hQ,lkv,hSb⟩;refine ⟨?_,?_⟩;rotate_left
  ·refine ⟨_,rfl,q,41,rfl,g3,zd,zd,fun r0 H4 h0 g4 b4=>⟨zlx,fun l5 n5=>?_⟩⟩;have s5:=af (o:=.lst [.int 0,.int 1,.int 40,.int (r0:Nat)]) n5;have e5:(aq H4 l5 (.lst [.int 0,.int 1,.int 40,.int (r0:Nat)])) l5=some (.lst [.int 0,.int 1,.int 40,.int (r0:Nat)]):=ae;have g5:=g4.same s5;have ql:=g4.ne n5;generalize aq H4 l5 (.lst [V.int 0,.int 1,.int 40,.int (r0:Nat)])=H5 at *;refine ⟨_,rfl,q,4,rfl,g5,zd,zd,fun j H6 hj g6 b6=>?_⟩;have hx:∃ many:Nat,([V.int 0,.int 1,.int 40,.int (r0:Nat)]:List V)[j]?=some (.int (many:Nat))/\many<=40:=by
    rcases (by omega:j=0\/j=1\/j=2\/j=3) with rfl|rfl|rfl|rfl
    ·exact ⟨0,rfl,zd⟩
    ·exact ⟨1,rfl,zd⟩
    ·exact ⟨40,rfl,zd⟩
    ·exact ⟨r0,rfl,zo⟩
   obtain ⟨many,hx,hm⟩:=hx;have sb6:Same Hb H6:=ci nq (ci nq s3 b4 |>.trans s5) b6;exact ⟨l5,_,_,_,rfl,rfl,SqL.of (b6 _ _ e5 ql.symm),bN hx,q,d,v,D,fn,kvs,lf,lp,lm,lk,lg,ks,Hb,many,rfl,hm,g6,sb6,nq,hK,hT,hO,hQ,lkv,hSb⟩
  clear hSb lkv hQ hO hT hK nq s3 g3;rintro σ H3 ⟨q,d,v,D,fn,kvs,lf,lp,lm,lk,lg,ks,Hb,many,rfl,hm,g3,s3,nq,hK,hT,hO,hQ,lkv,hSb⟩;refine ⟨?_,?_⟩;rotate_left
  ·refine ⟨_,rfl,many,rfl,zo,zo,?_⟩;refine i8 (lo:=0) (n:=many) (fun j ys H'=>∃ rs:List Rw,Strm H' q/\Same Hb H'/\Paired (RowV H') ys rs/\rs.length=j/\∀ r∈rs,gT D many r) ⟨[],g3,s3,.nil,rfl,fun _ z=>(nomatch z)⟩ (fun j ys H' hj ⟨rs,_,_,e1,e2,_⟩=>by have:=e1.length;omega) ?_ ?_
   ·rintro i ys H4 hi ⟨rs,g4,s4,pr,l4,ho⟩;refine ⟨⟨rfl,rfl,rfl,trivial⟩,dk ⟨_,rfl,_,rfl,_,rfl,q,d,Hb,D,fn,kvs,lf,lp,lm,lk,lg,ks,many,rfl,g4,s4,nq,hK,hO,zo,fun u r H5 hu hR g5 b5=>?_⟩⟩;refine Nx.mk hi ⟨rs++[r],g5,ci nq s4 b5,dP hu (bR (fun _ _ h=>RowV.but g4 b5 h) pr),by rw [DL,l4];rfl,fun r' hr'=>?_⟩;rcases D0.mp hr' with h|h
    ·exact ho r' h
    ·rw [DZ.mp h];exact hR
   ·rintro us H4 ⟨rs,g4,s4,pr,l4,ho⟩ lr nlr;have s5:=af (o:=.lst us) nlr;exact ⟨q,d,v,D,fn,kvs,lf,lp,lm,lk,lg,ks,Hb,many,lr,us,rs,rfl,hm,g4.ne nlr,ae,bR (fun _ _ h=>RowV.kt (aW s5) h) pr,l4,ho,g4.same s5,s4.trans s5,nq,hK,hT,hO,hQ,lkv,hSb⟩
  clear hSb lkv hQ hO hT hK nq s3 g3 hm;rintro σ H3 ⟨q,d,v,D,fn,kvs,lf,lp,lm,lk,lg,ks,Hb,many,lr,us,rs,rfl,hm,qlr,elr,hrs,lrs,hok,g3,s3,nq,hK,hT,hO,hQ,lkv,hSb⟩;refine ⟨?_,?_⟩;rotate_left
  ·refine ⟨_,rfl,_,rfl,_,_,rfl,rfl,q,many+1,rfl,g3,zo,zo,fun r0 H4 h0 g4 b4=>⟨zlx,fun l5 n5=>?_⟩⟩;have s5:=af (o:=.lst [.non,.int (r0:Nat)]) n5;have e5:(aq H4 l5 (.lst [.non,.int (r0:Nat)])) l5=some (.lst [.non,.int (r0:Nat)]):=ae;have g5:=g4.same s5;have ql:=g4.ne n5;generalize aq H4 l5 (.lst [V.non,.int (r0:Nat)])=H5 at *;refine ⟨_,rfl,q,2,rfl,g5,zd,zd,fun j H6 hj g6 b6=>?_⟩;have b36:But q H3 H6:=(b4.same s5).trans b6;have sb6:Same Hb H6:=ci nq s3 b36;have L6:Lw C K l ns d v D fn kvs lf lp lm lk lg ks lr us rs H6:=⟨hK.same sb6,hT.same sb6,hO,hQ,lkv,sb6.seq hSb,b36 _ _ elr qlr.symm,bR (fun _ _ h=>RowV.but g3 b36 h) hrs⟩;have hx:∃ bl:Option Nat,([V.non,.int (r0:Nat)]:List V)[j]?=some (iE bl)/\∀ b,bl=some b->b<=many:=by
    rcases (by omega:j=0\/j=1) with rfl|rfl
    ·exact ⟨none,rfl,fun _ z=>nomatch z⟩
    ·exact ⟨some r0,rfl,fun b z=>by cases z;omega⟩
   obtain ⟨bl,hx,hb⟩:=hx;exact ⟨l5,_,_,_,rfl,rfl,SqL.of (b6 _ _ e5 ql.symm),bN hx,d,v,D,fn,kvs,lf,lp,lm,lk,lg,ks,many,lr,us,rs,bl,_,rfl,hm,L6,lrs,hok,hb⟩
  clear hSb lkv hQ hO hT hK nq s3 g3 hm qlr elr hrs lrs hok;rintro σ H3 ⟨d,v,D,fn,kvs,lf,lp,lm,lk,lg,ks,many,lr,us,rs,bl,v1,rfl,hm,L,lrs,hok,hbl⟩;have wl:∀ n,(∀ b,bl=some b->b<=n)->blT bl≠.non->wn 0 (n:Nat) (blT bl)=true:=fun n h hn=>by
   cases bl with
   | none=>exact absurd rfl hn
   | some b=>
    have:=h b rfl;show (decide ((0:Int)<=(b:Int)) && decide ((b:Int)<=(n:Int)))=true;rw [Er];exact ⟨decide_eq_true zo,decide_eq_true zo⟩
  have lth:(rs.map cE).length=many:=by rw [DI,lrs]
  have rok:∀ tj∈rs.map cE,rowT D (rs.map cE).length tj=true:=fun tj hj=>by
   obtain ⟨r,hr',rfl⟩:=D2.mp hj;exact gH L.ok.fm (hok r hr') zo
  refine ⟨_,rfl,lr,us,rfl,.inl (SqL.of L.er),fun lh nlh=>?_⟩;have s4:=af (o:=.lst us) nlh;have e4:(aq H3 lh (.lst us)) lh=some (.lst us):=ae;have hlr:lh≠lr:=(ap L.er nlh).symm;generalize aq H3 lh (.lst us)=H4 at *;have L4:=L.same s4;refine ⟨?_,?_⟩;rotate_left
  ·refine ⟨_,rfl,_,rfl,_,rfl,v,.ref lh,iE bl,D,lr,.lst (rs.map cE),blT bl,rfl,L4.tb,L4.ok.fm,L4.ok.w24,.lst hlr e4 (tg_rows L4.rws),bl_tg bl,?_⟩;refine .all lr lh us (rs.map cE) rfl (.inl ⟨e4,rfl⟩) (tg_rows L4.rws) zo rok (fun hn hw=>?_) (fun _ v' H5 s5 ⟨pa,dx,tp,e,h1,h2⟩=>?_)
   ·rw [lth,wl _ hbl hn] at hw;cases hw
   ·subst e;exact ⟨d,v,D,fn,kvs,lf,lp,lm,lk,lg,ks,many,lr,us,rs,bl,v1,H3,lh,pa,dx,tp,rfl,s4.trans s5,nlh,s5 _ _ e4,h1,h2,hm,L,lrs,hok,hbl⟩
  clear L4 hlr e4 s4 nlh rok lth wl hbl hok lrs L hm;rintro σ H5 ⟨d,v,D,fn,kvs,lf,lp,lm,lk,lg,ks,many,lr,us,rs,bl,v1,Hb,lh,pa,dx,tp,rfl,sb,nlh,elh,epa,etp,hm,L,lrs,hok,hbl⟩;refine ⟨_,rfl,.inl ⟨rfl,_,SqL.of elh⟩,lh,_,_,rfl,rfl,elh,?_,?_⟩
  ·have:=L.rws.length;omega
  have elh':(aq H5 lh (.lst (us++[.non]))) lh=some (.lst (us++[.non])):=ae;refine ⟨?_,?_⟩;rotate_left
  ·refine ⟨_,rfl,.inl ⟨rfl,_,SqL.of elh'⟩,lh,_,rfl,rfl,elh',?_⟩;have pl:pa≠lh:=fun z=>by rw [z,elh] at epa;cases epa
   have tl:tp≠lh:=fun z=>by rw [z,elh] at etp;cases etp
   exact ⟨d,v,D,fn,kvs,lf,lp,lm,lk,lg,ks,many,lr,us,rs,bl,v1,_,_,pa,dx,tp,rfl,by rw [ao pl,ao pl];exact epa,by rw [ao tl,ao tl];exact etp,hm,L.same (aU nlh (aU nlh sb)),lrs,hok,hbl⟩
  clear elh' hbl hok lrs L hm etp epa elh nlh sb;rintro σ H3 ⟨d,v,D,fn,kvs,lf,lp,lm,lk,lg,ks,many,lr,us,rs,bl,v1,v7,v9,pa,dx,tp,rfl,epa,etp,hm,L,lrs,hok,hbl⟩;refine ⟨?_,?_⟩;rotate_left
  ·have lth:(rs.map cE).length=many:=by rw [DI,lrs]
   have rok:∀ tj∈rs.map cE,rowT D (rs.map cE).length tj=true:=fun tj hj=>by
    obtain ⟨r,hr',rfl⟩:=D2.mp hj;exact gH L.ok.fm (hok r hr') zo
   refine ⟨_,rfl,pa,Cp,dx,_,_,rfl,epa,PC.cl,PC.n1,rfl,_,rfl,lr,us,rfl,.inl ⟨SqL.of L.er,fun t4 n4=>?_⟩⟩;generalize zz:aq H3 t4 _=H4;have ⟨s4,e4⟩:=nw n4 zz;clear zz;have L4:=L.same s4;refine ⟨.tuple (rs.map uX),.tuple (rs.map uX),.tup (SqT.of (s4 _ _ etp)) (gZ L4.rws),.tup (SqT.of e4) (gZ L4.rws),hG L.ok hok,hG L.ok hok,Ef (Nat.min_le_left _ _) (nz rs),_,rfl,?_⟩;rw [eqv_refl _ (qj rs)];refine bP ⟨_,rfl,pa,Cp,dx,_,_,rfl,s4 _ _ epa,PC.cl,PC.n2,rfl,_,rfl,xf bl,_,rfl,?_⟩;refine bQ (by rw [decide_eq_true rfl];rfl) ?_;refine ⟨_,rfl,_,rfl,lr,us,rfl,.inl ⟨SqL.of L4.er,fun t5 n5=>?_⟩⟩;generalize zz:aq H4 t5 _=H5;have ⟨s5,e5⟩:=nw n5 zz;clear zz;have L5:=L4.same s5;refine ⟨v,.ref t5,.non,D,lr,.tup (rs.map cE),.non,rfl,L5.tb,L5.ok.fm,L5.ok.w24,.tup e5 (tg_rows L5.rws),.non,?_⟩;refine .all lr t5 us (rs.map cE) rfl (.inr ⟨e5,rfl⟩) (tg_rows L5.rws) zo rok (fun hn _=>absurd rfl hn) (fun _ v' H6 s6 ⟨pb,dy,tq,e,h1,h2⟩=>?_);subst e;have s36:=s4.trans (s5.trans s6);exact ⟨pb,Cp,dy,_,_,rfl,h1,PC.cl,PC.n2,rfl,rfl,_,rfl,bP ⟨d,v,D,fn,kvs,lf,lp,lm,lk,lg,ks,many,lr,us,rs,bl,v1,v7,v9,pa,dx,tp,rfl,s36 _ _ epa,s36 _ _ etp,hm,L.same s36,lrs,hok,hbl⟩⟩
  clear epa etp hm L lrs hok hbl;rintro σ H3 ⟨d,v,D,fn,kvs,lf,lp,lm,lk,lg,ks,many,lr,us,rs,bl,v1,v7,v9,pa,dx,tp,rfl,epa,etp,hm,L,lrs,hok,hbl⟩;refine ⟨?_,?_⟩;rotate_left
  ·refine ⟨_,rfl,lr,rfl,⟨_,SqL.of L.er⟩,?_⟩;refine fL (K:=K) (a:=lr) (xs:=us) (fun i ys H'=>Same H3 H'/\ys=[]) ⟨Same.refl _,rfl⟩ (fun i ys H' hi ⟨s',e⟩=>⟨SqL.of (s' _ _ L.er),by rw [e];exact Ej _⟩) ?_ ?_
   ·rintro i u ys H4 hu ⟨s4,rfl⟩;have hlt:=(DK.mp hu).1;have L4:=L.same s4;obtain ⟨r,hri,hRv⟩:=iD L4.rws hu;refine ⟨⟨rfl,rfl,trivial⟩,_,rfl,_,rfl,_,rfl,v,u,D,many,lr,cE r,rfl,L4.tb,L.ok.fm,L.ok.w24,hRv.tg,fun H5 s5=>?_⟩;rw [gH L.ok.fm (hok r (D4 hri)) (DN _)];exact ⟨_,_,rfl,rfl,_,rfl,bP (Nx.mk hlt ⟨s4.trans s5,rfl⟩)⟩
   ·rintro ys H4 ⟨s4,rfl⟩ l5 n5;generalize zz:aq H4 l5 _=H5;have ⟨s5,e5⟩:=nw n5 zz;clear zz;refine ⟨zlx,fun l6 n6=>?_⟩;generalize zz:aq H5 l6 _=H6;have ⟨s6,e6⟩:=nw n6 zz;clear zz;have s36:=s4.trans (s5.trans s6);exact ⟨.list [],.list [],.lst (SqL.of (s6 _ _ e5)) .nil,.lst (SqL.of e6) .nil,zk,zk,zk,_,rfl,bP ⟨d,v,D,fn,kvs,lf,lp,lm,lk,lg,ks,many,lr,us,rs,bl,v1,v7,v9,pa,dx,tp,rfl,s36 _ _ epa,s36 _ _ etp,hm,L.same s36,lrs,hok,hbl⟩⟩
  clear epa etp hm L lrs hok hbl;rintro σ H3 ⟨d,v,D,fn,kvs,lf,lp,lm,lk,lg,ks,many,lr,us,rs,bl,v1,v7,v9,pa,dx,tp,rfl,epa,etp,hm,L,lrs,hok,hbl⟩;refine ⟨?_,?_⟩;rotate_left
  ·refine ⟨_,rfl,l,_,rfl,.inl L.sq,_,_,rfl,_,_,rfl,_,rfl,?_,?_,?_⟩
   ·split<;>(try split)<;>omega
   ·rw [DI];split<;>(try split)<;>omega
   refine jO (lo:=0) (fun i σ H'=>∃ v1 v9:Option V,σ=[some (.ref l),v1,some (.ref d),some v,some (.int (many:Nat)),some (.ref lr),some (iE bl),v7,some (.ref pa),v9]/\Same H3 H') ⟨_,_,rfl,Same.refl _⟩ ?_ ?_
   ·rintro i σ H5 hi ⟨v1,v9,rfl,s5⟩;have L5:=L.same s5;refine ⟨_,rfl,_,rfl,l,ns,0+(i:Int),rfl,L5.sq,zo,fun c=>⟨c,rfl,fun q H6 nq s6 g6=>?_⟩⟩;refine ⟨_,rfl,_,rfl,_,rfl,_,rfl,q,d,H5,D,fn,kvs,lf,lp,lm,lk,lg,ks,many,rfl,g6,s6,nq,L5.kp,L5.ok,L5.nq,zo,fun u H7 ⟨t,tx,hb⟩ g7 b7=>?_⟩;have hqn:H6 q≠none:=by
     obtain ⟨_,_,_,e⟩:=id g6;rw [e];exact Option.some_ne_none _
    have s57:=ci nq s6 b7;refine ⟨_,rfl,v,u,D,many,q,t,rfl,L5.tb.same s57,L.ok.fm,L.ok.w24,tx q hqn,fun H8 s8=>?_⟩;rw [hb many (DN _)];refine ⟨_,_,rfl,rfl,_,rfl,bP ?_⟩;have s58:=s57.trans s8;refine ⟨_,rfl,_,rfl,_,rfl,_,rfl,_,rfl,q,d,H5,D,fn,kvs,lf,lp,lm,lk,lg,ks,v,lr,us,rs,bl,rfl,g7.same s8,s58,nq,L5.kp,L5.ok,L5.nq,L5.tb,L5.er,L5.rws,fun r hr'=>by rw [lrs];exact hok r hr',zo,fun H9 b9=>⟨_,rfl,bP ?_⟩⟩;exact ⟨_,_,rfl,s5.trans (ci nq s58 b9)⟩
   ·rintro σ H5 ⟨v1,v9,rfl,s5⟩;exact ⟨d,v,D,fn,kvs,lf,lp,lm,lk,lg,ks,many,lr,us,rs,bl,v1,v7,v9,pa,dx,tp,rfl,s5 _ _ epa,s5 _ _ etp,hm,L.same s5,lrs,hok,hbl⟩
  clear epa etp hm L lrs hok hbl;rintro σ H3 ⟨d,v,D,fn,kvs,lf,lp,lm,lk,lg,ks,many,lr,us,rs,bl,v1,v7,v9,pa,dx,tp,rfl,epa,etp,hm,L,lrs,hok,hbl⟩;refine ⟨_,rfl,_,rfl,d,D,fn,kvs,lf,lp,lm,lk,lg,ks,v,rfl,L.kp,L.ok,L.nq,L.ln,L.tb,fun H4 s4=>⟨_,rfl,gM ?_⟩⟩;have L4:=L.same s4;refine ⟨_,rfl,pa,Cp,dx,_,_,rfl,s4 _ _ epa,PC.cl,PC.n1,rfl,_,rfl,lr,us,rfl,.inl ⟨SqL.of L4.er,fun t5 n5=>?_⟩⟩;generalize zz:aq H4 t5 _=H5;have ⟨s5,e5⟩:=nw n5 zz;clear zz;have L5:=L4.same s5;refine ⟨.tuple (rs.map uX),.tuple (rs.map uX),.tup (SqT.of (s5 _ _ (s4 _ _ etp))) (gZ L5.rws),.tup (SqT.of e5) (gZ L5.rws),hG L.ok hok,hG L.ok hok,Ef (Nat.min_le_left _ _) (nz rs),?_⟩;rw [eqv_refl _ (qj rs)];exact qq _
end
abbrev zG:Stmt:=cG 77
variable {p:List Value->Prop}
theorem BW (h:∀ a0,p [a0]):∀ us:List Value,us.length=1->p us:=fun us hl=>match us,hl with|[a0],_=>h a0
theorem zW (h:∀ a0 a1,p [a0,a1]):∀ us:List Value,us.length=2->p us:=fun us hl=>match us,hl with|[a0,a1],_=>h a0 a1
theorem BX (h:∀ a0 a1 a2,p [a0,a1,a2]):∀ us:List Value,us.length=3->p us:=fun us hl=>match us,hl with|[a0,a1,a2],_=>h a0 a1 a2
theorem BY (h:∀ a0 a1 a2 a3,p [a0,a1,a2,a3]):∀ us:List Value,us.length=4->p us:=fun us hl=>match us,hl with|[a0,a1,a2,a3],_=>h a0 a1 a2 a3
theorem BZ (h:∀ a0 a1 a2 a3 a4,p [a0,a1,a2,a3,a4]):∀ us:List Value,us.length=5->p us:=fun us hl=>match us,hl with|[a0,a1,a2,a3,a4],_=>h a0 a1 a2 a3 a4
theorem B0 (h:∀ a0 a1 a2 a3 a4 a5 a6 a7,p [a0,a1,a2,a3,a4,a5,a6,a7]):∀ us:List Value,us.length=8->p us:=fun us hl=>match us,hl with|[a0,a1,a2,a3,a4,a5,a6,a7],_=>h a0 a1 a2 a3 a4 a5 a6 a7
def bu (K:ZF) (x:Str) (st:Stmt) (f:Addr):Prop:=
 PySem.W.nsIn K mainGlobals x=some (some (.ref f))/\∃ fd:FuncData,Fun K x x st f fd
variable {x:Str}
theorem zH {st:Stmt} {oc:Value} {od an:Option Addr} {osl:Array (Option Value)} {kV doc pm cdv ct:Value} (a:PySem.W.nsIn K mainGlobals x=some (some (.ref f)))
  (l:K.lookup f=some ⟨oc,od,.func (PySem.W.fnOf x x (cz st) (cc st) (aj st) .none kV doc pm an cdv ct),osl⟩) (c:PySem.W.codeIn K cdv x=true) (k:PySem.W.keepIn K (.ref f)=true):bu K x st f:=⟨a,_,so l c k⟩
theorem BH {P:Program} {w:World} {K:ZF} {mg:Str->Option Value} {base h:Heap} {x:Str} {st:Stmt} {f:Addr} {k:Nat} {ps:List Str} {sp:Sp} (X:K.In h) (G:h.Ns mainGlobals mg) (D:bu K x st f)
  (ok:∀ fd,Fun K x x st f fd->FnOk P w K mg base bY k f fd ps sp)
  (hb:∀ (kV doc pm:Value) (an:Option Addr) (cdv ct:Value) (us:List Value),us.length=ps.length->bindArgs (PySem.W.fnOf x x (cz st) (cc st) (aj st) .none kV doc pm an cdv ct) ⟨us,[]⟩=pure (ps.zip us):=by intro _ _ _ _ _ _;first|exact BW fun _=>rfl|exact zW fun _ _=>rfl|exact BX fun _ _ _=>rfl|exact BY fun _ _ _ _=>rfl|exact BZ fun _ _ _ _ _=>rfl|exact B0 fun _ _ _ _ _ _ _ _=>rfl):Fn P w K mg base x k ps sp:=by
 obtain ⟨a,fd,F⟩:=D;exact ⟨f,fd,Ee X G a,F.kp,F.binds hb,ok fd F⟩
def BI (K:ZF) (x:Str) (st:Stmt) (f:Addr):Prop:=
 PySem.W.nsIn K mainGlobals x=some (some (.ref f))/\∃ fd:FuncData,FunD K x x st f fd
theorem xg {st:Stmt} {f d:Addr} {oc:Value} {od an:Option Addr} {osl:Array (Option Value)} {kV doc pm cdv ct:Value} {n:Nat} {oc2:Value} {od2:Option Addr} {osl2:Array (Option Value)} (a:PySem.W.nsIn K mainGlobals x=some (some (.ref f)))
  (l:K.lookup f=some ⟨oc,od,.func (PySem.W.fnOf x x (cz st) (cc st) (aj st) (.ref d) kV doc pm an cdv ct),osl⟩) (e:K.lookup d=some ⟨oc2,od2,.seq #[.none] n,osl2⟩) (c:PySem.W.codeIn K cdv x=true) (k:PySem.W.keepIn K (.ref f)=true):BI K x st f:=
 ⟨a,_,⟨⟨oc,od,kV,doc,pm,an,cdv,ct,osl,d,_,n,rfl,l,c,e,rfl⟩,k⟩⟩
theorem u9 (F:FunD K "program_of" "program_of" dn f fd):Binds K fd ["table","rows","bell"] []:=by
 obtain ⟨oc,od,kV,doc,pm,an,cdv,ct,osl,d,o,n,rfl,lk,hcd,hd,hs⟩:=F.ex;intro s us KX hl;rw [El] at hl ⊢
 match us,hl with
 | [a,b,c],_=>exact BindsTo.of_defaults rfl (KX d o hd) hs rfl rfl
theorem rl (F:FunD K "program_of" "program_of" dn f fd):Binds K fd ["table","rows","bell"] [Value.none]:=by
 obtain ⟨oc,od,kV,doc,pm,an,cdv,ct,osl,d,o,n,rfl,lk,hcd,hd,hs⟩:=F.ex;intro s us KX hl;have hl2:us.length=2:=by rw [DL] at hl;exact Nat.succ.inj hl
 clear hl
 match us,hl2 with
 | [a,b],_=>exact BindsTo.of_defaults rfl (KX d o hd) hs rfl rfl
variable {st:Stmt}
theorem zI {P:Program} {w:World} {base h:Heap} {k:Nat} {ps:List Str} {sp:Sp} (X:K.In h) (G:h.Ns mainGlobals mg) (D:bu K x st f)
  (ok:∀ fd,Fun K x x st f fd->FnOkb P w K mg base bY k f fd ps sp)
  (hb:∀ (kV doc pm:Value) (an:Option Addr) (cdv ct:Value) (us:List Value),us.length=ps.length->bindArgs (PySem.W.fnOf x x (cz st) (cc st) (aj st) .none kV doc pm an cdv ct) ⟨us,[]⟩=pure (ps.zip us):=by intro _ _ _ _ _ _;first|exact BW fun _=>rfl|exact zW fun _ _=>rfl|exact BX fun _ _ _=>rfl|exact BY fun _ _ _ _=>rfl|exact BZ fun _ _ _ _ _=>rfl|exact B0 fun _ _ _ _ _ _ _ _=>rfl):Fnb P w K mg base x k ps sp:=by
 obtain ⟨a,fd,F⟩:=D;exact ⟨f,fd,Ee X G a,F.kp,F.binds hb,ok fd F⟩
structure nC (K:ZF) (x qual:Str) (st:Stmt) (f:Addr):Prop where
 fu:∃ fd:FuncData,Fun K x qual st f fd
 fn:PySem.W.isFn K (.ref f)=true
theorem zJ {K:ZF} {x qual:Str} {st:Stmt} {f:Addr} {oc:Value} {od an:Option Addr} {osl:Array (Option Value)} {kV doc pm cdv ct:Value}
  (l:K.lookup f=some ⟨oc,od,.func (PySem.W.fnOf x qual (cz st) (cc st) (aj st) .none kV doc pm an cdv ct),osl⟩) (c:PySem.W.codeIn K cdv qual=true) (k:PySem.W.keepIn K (.ref f)=true) (n:PySem.W.isFn K (.ref f)=true):nC K x qual st f:=⟨⟨_,so l c k⟩,n⟩
theorem zK {P:Program} {w:World} {K:ZF} {mg:Str->Option Value} {base:Heap} {Cc f:Addr} {x qual:Str} {st:Stmt} {k:Nat} {ps:List Str} {sp:Sp} (a:PySem.W.findIn K (.ref Cc) x=some (some (.ref f))) (D:nC K x qual st f)
  (ok:∀ fd,Fun K x qual st f fd->FnOk P w K mg base bY k f fd ps sp)
  (hb:∀ (kV doc pm:Value) (an:Option Addr) (cdv ct:Value) (us:List Value),us.length=ps.length->bindArgs (PySem.W.fnOf x qual (cz st) (cc st) (aj st) .none kV doc pm an cdv ct) ⟨us,[]⟩=pure (ps.zip us):=by intro _ _ _ _ _ _;first|exact BW fun _=>rfl|exact zW fun _ _=>rfl|exact BX fun _ _ _=>rfl|exact BY fun _ _ _ _=>rfl|exact BZ fun _ _ _ _ _=>rfl|exact B0 fun _ _ _ _ _ _ _ _=>rfl):eX P w K mg base Cc x k ps sp:=by
 obtain ⟨⟨fd,F⟩,n⟩:=D;exact ⟨f,fd,⟨a,n,F.kp⟩,ok fd F,F.binds hb⟩
theorem zL {P:Program} {w:World} {K:ZF} {mg:Str->Option Value} {base:Heap} {f:Addr} {x qual:Str} {st:Stmt} {ps:List Str} {sp:Sp} (D:nC K x qual st f)
  (ok:∀ fd,Fun K x qual st f fd->FnOk P w K mg base bY 1 f fd ps sp)
  (hb:∀ (kV doc pm:Value) (an:Option Addr) (cdv ct:Value) (us:List Value),us.length=ps.length->bindArgs (PySem.W.fnOf x qual (cz st) (cc st) (aj st) .none kV doc pm an cdv ct) ⟨us,[]⟩=pure (ps.zip us):=by intro _ _ _ _ _ _;first|exact BW fun _=>rfl|exact zW fun _ _=>rfl|exact BX fun _ _ _=>rfl|exact BY fun _ _ _ _=>rfl|exact BZ fun _ _ _ _ _=>rfl|exact B0 fun _ _ _ _ _ _ _ _=>rfl):∃ fd,FnOk P w K mg base bY 1 f fd ps sp/\Binds K fd ps []:=by
 obtain ⟨⟨fd,F⟩,n⟩:=D;exact ⟨fd,ok fd F,F.binds hb⟩
def NaAll (K:ZF) (c:Addr):List Str->Prop
 | []=>True
 | f::r=>NoAttr K c f/\NaAll K c r
variable {c:Addr}
theorem NaAll.get:∀ {l:List Str},NaAll K c l->∀ f∈l,NoAttr K c f
 | [],_,f,hf=>absurd hf (by simp)
 | g::r,h,f,hf=>by
  rcases DY.mp hf with rfl|hf
  ·exact h.1
  ·exact NaAll.get h.2 f hf
structure CK (K:ZF) (n:Str) (c i:Addr) (fl:List Str):Prop where
 ns:PySem.W.nsIn K mainGlobals n=some (some (.ref c))
 cls:Cls K c
 na:NaAll K c fl
 mk_:Mk K c i
theorem ve {n:Str} {c i:Addr} {fl:List Str} (ns:PySem.W.nsIn K mainGlobals n=some (some (.ref c))) (g1:PySem.W.plainGet K c Str.empty=true) (g2:PySem.W.hasDictIn K c=true) (g3:PySem.W.plainOver K c=true)
  (g4:PySem.W.findIn K (.ref c) "__setattr__"=some (some (.builtin "object.__setattr__"))) (m1:PySem.W.makesIn K c=true) (m2:PySem.W.findIn K (.ref c) "__init__"=some (some (.ref i))) (m3:PySem.W.isFn K (.ref i)=true) (m4:PySem.W.keepIn K (.ref c)=true) (na:NaAll K c fl):CK K n c i fl:=
 ⟨ns,⟨g1,g2,g3,g4⟩,na,⟨m1,m2,m3,m4⟩⟩
theorem DD {a b:Str} (x:PySem.W.findIn K (.ref c) a=some none) (y:PySem.W.findIn K (.ref c) b=some none):NaAll K c [a,b]:=⟨x,y,trivial⟩
theorem DE {a b d:Str} (x:PySem.W.findIn K (.ref c) a=some none) (y:PySem.W.findIn K (.ref c) b=some none) (z:PySem.W.findIn K (.ref c) d=some none):NaAll K c [a,b,d]:=⟨x,y,z,trivial⟩
theorem DF {a b d e f g h i:Str} (x:PySem.W.findIn K (.ref c) a=some none) (y:PySem.W.findIn K (.ref c) b=some none) (z:PySem.W.findIn K (.ref c) d=some none) (u:PySem.W.findIn K (.ref c) e=some none) (x1:PySem.W.findIn K (.ref c) f=some none) (y1:PySem.W.findIn K (.ref c) g=some none) (z1:PySem.W.findIn K (.ref c) h=some none) (u1:PySem.W.findIn K (.ref c) i=some none):NaAll K c [a,b,d,e,f,g,h,i]:=⟨x,y,z,u,x1,y1,z1,u1,trivial⟩
theorem dh:∀ (zs:List Str) (ts:List Tok),ts.length=zs.length->Vals (zs.map V.str) ((zs.zip ts).map fun p=>Value.str p.1 p.2)
 | [],_,_=>.nil
 | z::r,[],h=>by cases h
 | z::r,t::u,h=>.cons ⟨t,rfl⟩ (dh r u (by simpa using h))
structure C1 (K:ZF) (nm:Str) (bm:List Value) (C:Addr):Prop where
 ns:PySem.W.nsIn K mainGlobals nm=some (some (.ref C))
 c:XC K C nm bm
theorem zM {nm:Str} {bm:List Value} {q:Str} {N:Addr} {bs:List Value} {sn:List Str} {sub:List Value} {ab:Bool} {col:Option Bool} {dd:Option Addr} {k0 k1 k2 k3 k5:Option Value} (tl:XB.Tail bm) (a:PySem.W.nsIn K mainGlobals nm=some (some (.ref C))) (l:K.lookup C=some (excClassObj nm q C N bs bm true sn sub ab col dd k0 k1 k2 k3 k5 "ValueError.__new__"))
  (g1:PySem.W.findIn K (.ref C) "__getattribute__"=some (some (.builtin "BaseException.__getattribute__"))) (g2:PySem.W.findIn K (.ref C) "__getattr__"=some none) (g3:PySem.W.findIn K (.ref C) "__setattr__"=some (some (.builtin "object.__setattr__"))) (g4:PySem.W.findIn K (.ref C) "__class__"=some (some (.builtin "object.__class__"))):C1 K nm bm C:=
 ⟨a,⟨tl,⟨q,N,bs,sn,sub,ab,col,dd,k0,k1,k2,k3,k5,l⟩,g1,g2,g3,g4⟩⟩
theorem DG:XB.Tail XB.bmV:=.inl rfl
variable {R:Addr}
theorem DH:XB.Tail (bmR R):=.inr ⟨R,rfl⟩
theorem lV {t1 t2 t3 t4 t5 t6 t7 t8 t9 t10 t11 t12 t13 t14 t15 t16 t17 t18 t19 t20 t21 t22:Tok} {n:Nat} (h:K.lookup a=some { cls:=.type "tuple",data:=.seq #[.str "word" t1,.str "cells" t2,.str "depth" t3,.str "places" t4,.str "marks" t5,.str "gate" t6,.str "kind" t7,.str "place" t8,.str "mark" t9,.str "number" t10,.str "row" t11,.str "set" t12,.str "if" t13,.str "else" t14,.str "top" t15,.str "next" t16,.str "go" t17,.str "call" t18,.str "back" t19,.str "stop" t20,.str "fault" t21,.str "bell" t22] n }):∀ H,SqT K H a (ak ownL):=fun H=>
 .inr ⟨_,_,n,h,rfl,rfl,zlx,dh ["word","cells","depth","places","marks","gate","kind","place","mark","number","row","set","if","else","top","next","go","call","back","stop","fault","bell"] [t1,t2,t3,t4,t5,t6,t7,t8,t9,t10,t11,t12,t13,t14,t15,t16,t17,t18,t19,t20,t21,t22] rfl⟩
theorem vf {t1 t2 t3 t4:Tok} {n:Nat} (h:K.lookup a=some { cls:=.type "tuple",data:=.seq #[.str "place" t1,.str "mark" t2,.str "number" t3,.str "row" t4] n }):∀ H,SqT K H a (ak sortL):=fun H=>
 .inr ⟨_,_,n,h,rfl,rfl,zlx,dh ["place","mark","number","row"] [t1,t2,t3,t4] rfl⟩
theorem xh {t1 t2 t3 t4 t5 t6:Tok} {n:Nat} (h:K.lookup a=some { cls:=.type "tuple",data:=.seq #[.str "next" t1,.str "go" t2,.str "call" t3,.str "back" t4,.str "stop" t5,.str "fault" t6] n }):∀ H,SqT K H a (ak ["next","go","call","back","stop","fault"]):=fun H=>
 .inr ⟨_,_,n,h,rfl,rfl,zlx,dh ["next","go","call","back","stop","fault"] [t1,t2,t3,t4,t5,t6] rfl⟩
theorem jK {t1 t2:Tok} {n:Nat} (h:K.lookup a=some { cls:=.type "tuple",data:=.seq #[.str "deep" t1,.str "bare" t2] n }):∀ H,SqT K H a (ak ["deep","bare"]):=fun H=>
 .inr ⟨_,_,n,h,rfl,rfl,zlx,dh ["deep","bare"] [t1,t2] rfl⟩
theorem iG {t1 t2:Tok} {n:Nat} (h:K.lookup a=some { cls:=.type "tuple",data:=.seq #[.str "<<" t1,.str ">>" t2] n }):∀ H,SqT K H a ([.str "<<",.str ">>"]):=fun H=>
 .inr ⟨_,_,n,h,rfl,rfl,zlx,dh ["<<",">>"] [t1,t2] rfl⟩
theorem zN {l:PySem.W.OpenLaw} {w:World} {h:Heap} {fa f0 f1 f2 f3 f4 f5 f6 f7 f8 f9 f10 f11 f12 f13 f14 f15 f16 f17 f18 f19 f20 f21 f22 f23 f24 f25 f26 f27 f28 f29 f30 f31 f32 f33 f34 f35 f36 f37 f38 f39 f40 f41 f42 f43 f44 f45 fPO cR iR cT iT cP iP m_look m_take m_need m_need_name m_need_number m_need_end m_kind_at m_fields_of a_OWN_WORDS a_SORTS a_ENDS a_OWN_FAULTS a_DOUBLE_SIGNS R fR cK fK:Addr} {k_MOST_FIGURES k_LONGEST_NAME k_MOST_ROWS k_MOST_TOKENS k_MOST_KINDS k_MOST_FIELDS k_MOST_SETS k_MOST_CHOICES k_MOST_SIGNS k_FIGURES k_LETTERS k_GAPS k_SINGLE_SIGNS:Tok} (X:K.In h) (G:h.Ns mainGlobals mg) (hfa:mg "law"=some (.ref fa))
  (d0:bu K "number_of" fP f0)
  (d1:bu K "is_whole" kN f1)
  (d2:bu K "is_within" iL f2)
  (d3:bu K "is_word" sS f3)
  (d4:bu K "is_name" pO f4)
  (d5:bu K "is_row" kO f5)
  (d6:bu K "is_operand" gx f6)
  (d7:bu K "read_form" ic f7)
  (d8:bu K "read_bounded" eM f8)
  (d9:bu K "read_names" gy f9)
  (d10:bu K "read_kind" ie f10)
  (d11:bu K "read_fields" ft f11)
  (d12:bu K "read_field" gz f12)
  (d13:bu K "read_body" ig f13)
  (d14:bu K "read_leaf" ii f14)
  (d15:bu K "read_end" je f15)
  (d16:bu K "table_of_form" eO f16)
  (d17:bu K "add_name" jf f17)
  (d18:bu K "need_known" gA f18)
  (d19:bu K "kinds_named" fv f19)
  (d20:bu K "names_with_fields" gB f20)
  (d21:bu K "deed_of" iM f21)
  (d22:bu K "end_of" on f22)
  (d23:bu K "set_of" zG f23)
  (d24:bu K "tokens_of" kP f24)
  (d25:bu K "sign_at" sT f25)
  (d26:bu K "run_at" yA f26)
  (d27:bu K "read_table" gC f27)
  (d28:bu K "_law_cell" sU f28)
  (d29:bu K "_law_stream" kQ f29)
  (d30:bu K "_law_take" sV f30)
  (d31:bu K "_law_names" oo f31)
  (d32:bu K "_law_shape" kR f32)
  (d33:bu K "_law_shape_text" dq f33)
  (d34:bu K "_law_bounds" iN f34)
  (d35:bu K "_law_shape_row" fQ f35)
  (d36:bu K "same_shape" sSameShape f36)
  (d37:bu K "shape_of" sShapeOf f37)
  (d38:bu K "_law_bad" sLBad f38)
  (d39:bu K "_law_told" oY f39)
  (d40:bu K "_law_alike" lO f40)
  (d41:bu K "_law_refused" sLRef f41)
  (d42:bu K "_law_bells" lP f42)
  (d43:bu K "_law_others" qc f43)
  (d44:bu K "_law_shapes" uV f44)
  (d45:bu K "law" mO f45)
  (dPO:BI K "program_of" dn fPO)
  (CR:CK K "Reader" cR iR ["tokens","spot","may_end"]) (IR:nC K "__init__" "Reader.__init__" oJ iR)
  (CT:CK K "Table" cT iT ["width","cells","depth","places","marks","gate","kinds","kinds_known"]) (IT:nC K "__init__" "Table.__init__" lA iT)
  (CP:CK K "Program" cP iP ["rows","bell"]) (IP:nC K "__init__" "Program.__init__" oS iP)
  (h_look:PySem.W.findIn K (.ref cR) "look"=some (some (.ref m_look))) (M_look:nC K "look" "Reader.look" sX m_look)
  (h_take:PySem.W.findIn K (.ref cR) "take"=some (some (.ref m_take))) (M_take:nC K "take" "Reader.take" Cv m_take)
  (h_need:PySem.W.findIn K (.ref cR) "need"=some (some (.ref m_need))) (M_need:nC K "need" "Reader.need" sY m_need)
  (h_need_name:PySem.W.findIn K (.ref cR) "need_name"=some (some (.ref m_need_name))) (M_need_name:nC K "need_name" "Reader.need_name" il m_need_name)
  (h_need_number:PySem.W.findIn K (.ref cR) "need_number"=some (some (.ref m_need_number))) (M_need_number:nC K "need_number" "Reader.need_number" fA m_need_number)
  (h_need_end:PySem.W.findIn K (.ref cR) "need_end"=some (some (.ref m_need_end))) (M_need_end:nC K "need_end" "Reader.need_end" ji m_need_end)
  (h_kind_at:PySem.W.findIn K (.ref cT) "kind_at"=some (some (.ref m_kind_at))) (M_kind_at:nC K "kind_at" "Table.kind_at" lC m_kind_at)
  (h_fields_of:PySem.W.findIn K (.ref cT) "fields_of"=some (some (.ref m_fields_of))) (M_fields_of:nC K "fields_of" "Table.fields_of" iq m_fields_of)
  (n_MOST_FIGURES:PySem.W.nsIn K mainGlobals "MOST_FIGURES"=some (some (.int 9 k_MOST_FIGURES)))
  (n_LONGEST_NAME:PySem.W.nsIn K mainGlobals "LONGEST_NAME"=some (some (.int 8 k_LONGEST_NAME)))
  (n_MOST_ROWS:PySem.W.nsIn K mainGlobals "MOST_ROWS"=some (some (.int 40 k_MOST_ROWS)))
  (n_MOST_TOKENS:PySem.W.nsIn K mainGlobals "MOST_TOKENS"=some (some (.int 1500 k_MOST_TOKENS)))
  (n_MOST_KINDS:PySem.W.nsIn K mainGlobals "MOST_KINDS"=some (some (.int 8 k_MOST_KINDS)))
  (n_MOST_FIELDS:PySem.W.nsIn K mainGlobals "MOST_FIELDS"=some (some (.int 3 k_MOST_FIELDS)))
  (n_MOST_SETS:PySem.W.nsIn K mainGlobals "MOST_SETS"=some (some (.int 4 k_MOST_SETS)))
  (n_MOST_CHOICES:PySem.W.nsIn K mainGlobals "MOST_CHOICES"=some (some (.int 3 k_MOST_CHOICES)))
  (n_MOST_SIGNS:PySem.W.nsIn K mainGlobals "MOST_SIGNS"=some (some (.int 20000 k_MOST_SIGNS)))
  (n_FIGURES:PySem.W.nsIn K mainGlobals "FIGURES"=some (some (.str "0123456789" k_FIGURES)))
  (n_LETTERS:PySem.W.nsIn K mainGlobals "LETTERS"=some (some (.str "abcdefghijklmnopqrstuvwxyz" k_LETTERS)))
  (n_GAPS:PySem.W.nsIn K mainGlobals "GAPS"=some (some (.str " \n" k_GAPS)))
  (n_SINGLE_SIGNS:PySem.W.nsIn K mainGlobals "SINGLE_SIGNS"=some (some (.str "(){}[],;+-&|^<=" k_SINGLE_SIGNS)))
  (n_OWN_WORDS:PySem.W.nsIn K mainGlobals "OWN_WORDS"=some (some (.ref a_OWN_WORDS))) (q_OWN_WORDS:∀ H,SqT K H a_OWN_WORDS (ak ownL))
  (n_SORTS:PySem.W.nsIn K mainGlobals "SORTS"=some (some (.ref a_SORTS))) (q_SORTS:∀ H,SqT K H a_SORTS (ak sortL))
  (n_ENDS:PySem.W.nsIn K mainGlobals "ENDS"=some (some (.ref a_ENDS))) (q_ENDS:∀ H,SqT K H a_ENDS (ak ["next","go","call","back","stop","fault"]))
  (n_OWN_FAULTS:PySem.W.nsIn K mainGlobals "OWN_FAULTS"=some (some (.ref a_OWN_FAULTS))) (q_OWN_FAULTS:∀ H,SqT K H a_OWN_FAULTS (ak ["deep","bare"]))
  (n_DOUBLE_SIGNS:PySem.W.nsIn K mainGlobals "DOUBLE_SIGNS"=some (some (.ref a_DOUBLE_SIGNS))) (q_DOUBLE_SIGNS:∀ H,SqT K H a_DOUBLE_SIGNS ([.str "<<",.str ">>"]))
  (z_len:PySem.W.nsIn K mainGlobals "len"=some none)
  (z_int:PySem.W.nsIn K mainGlobals "int"=some none)
  (z_max:PySem.W.nsIn K mainGlobals "max"=some none)
  (z_min:PySem.W.nsIn K mainGlobals "min"=some none)
  (z_range:PySem.W.nsIn K mainGlobals "range"=some none)
  (z_isinstance:PySem.W.nsIn K mainGlobals "isinstance"=some none)
  (z_list:PySem.W.nsIn K mainGlobals "list"=some none)
  (z_str:PySem.W.nsIn K mainGlobals "str"=some none)
  (z_bool:PySem.W.nsIn K mainGlobals "bool"=some none)
  (z_tuple:PySem.W.nsIn K mainGlobals "tuple"=some none)
  (z_all:PySem.W.nsIn K mainGlobals "all"=some none)
  (z_dict:PySem.W.nsIn K mainGlobals "dict"=some none)
  (z_enumerate:PySem.W.nsIn K mainGlobals "enumerate"=some none)
  (z_zip:PySem.W.nsIn K mainGlobals "zip"=some none)
  (z_ValueError:PySem.W.nsIn K mainGlobals "ValueError"=some none)
  (xR:C1 K "RowsError" XB.bmV R) (rd:PySem.W.readsIn K R (.type "type")=true) (ri:PySem.W.findCls K (.ref R) (.type "type") "__init__"=some (.val (.ref fR))) (mR:nC K "__init__" "RowsError.__init__" sRInitX fR)
  (xK:C1 K "NoRow" (bmR R) cK) (aK:PySem.W.findIn K (.ref cK) "row"=some none) (iK:PySem.W.findIn K (.ref cK) "__init__"=some (some (.ref fK))) (nK:PySem.W.isFn K (.ref fK)=true) (pK:PySem.W.keepIn K (.ref cK)=true) (mK:nC K "__init__" "NoRow.__init__" sNKInit fK) :
  ∃ fd:FuncData,(∀ (s:Shared) (v:Value),BindsTo s fd ⟨[v],[]⟩ [("_law_script",v)])/\∀ base:Heap,K.In base->base.Ns mainGlobals mg->FnOk l.prog w K mg base bY 10 fa fd ["_law_script"] (qk K):=by
 have B:Bl mg:=⟨Eo X G z_len,Eo X G z_int,Eo X G z_max,Eo X G z_min,Eo X G z_range,Eo X G z_isinstance,Eo X G z_list,Eo X G z_str,Eo X G z_bool,Eo X G z_tuple,Eo X G z_all⟩;have B3:zV mg:=⟨Eo X G z_dict,Eo X G z_enumerate⟩;have B4:Da mg:=⟨Eo X G z_zip⟩;have Z:oB K mg a_SORTS a_ENDS a_OWN_FAULTS k_MOST_FIELDS k_MOST_SETS k_MOST_CHOICES k_MOST_KINDS:=⟨(Ee X G n_SORTS),q_SORTS,(Ee X G n_ENDS),q_ENDS,(Ee X G n_OWN_FAULTS),q_OWN_FAULTS,(Ee X G n_MOST_FIELDS),(Ee X G n_MOST_SETS),(Ee X G n_MOST_CHOICES),(Ee X G n_MOST_KINDS)⟩;have CN:AS K mg a_OWN_WORDS k_LETTERS k_LONGEST_NAME:=⟨(Ee X G n_OWN_WORDS),q_OWN_WORDS,(Ee X G n_LETTERS),(Ee X G n_LONGEST_NAME)⟩;have CT2:wg K mg a_DOUBLE_SIGNS k_GAPS k_SINGLE_SIGNS:=⟨(Ee X G n_GAPS),(Ee X G n_SINGLE_SIGNS),(Ee X G n_DOUBLE_SIGNS),q_DOUBLE_SIGNS,B.len⟩;have ZR:Zr mg k_MOST_ROWS:=⟨(Ee X G n_MOST_ROWS)⟩;have RC:Rc K cR:=⟨CR.cls,CR.na.1,CR.na.2.1,CR.na.2.2.1⟩;have TC:Tc K cT:=⟨CT.cls,CT.na.get⟩;have PC:Pc K cP:=⟨CP.cls,CP.na.1,CP.na.2.1⟩;have TX:Xs K mg R fR cK fK:=⟨xR.c,xK.c,aK,⟨iK,nK,pK⟩,⟨rd,ri,mR.fu.elim fun _ F=>F.kp⟩,Ee X G xR.ns,Ee X G xK.ns,Eo X G z_ValueError⟩;obtain ⟨a14,fd,F⟩:=d45;have e:=hfa.symm.trans (Ee X G a14);cases e;obtain ⟨oc,od,kV,doc,pm,an,cdv,ct,osl,rfl,lk,hcd⟩:=id F.ex;refine ⟨PySem.W.fnOf "law" "law" (cz mO) (cc mO) (aj mO) .none kV doc pm an cdv ct,fun s v=>.of_eq rfl,fun base _ _=>?_⟩;have fm:=@BH l.prog w K mg base h;have mm:=@zK l.prog w K mg base;have im:=@zL l.prog w K mg base;have RI:RIX l.prog w K mg base fR:=by
  obtain ⟨⟨fd,F⟩,_⟩:=mR;exact ⟨fd,F.binds (fun _ _ _ _ _ _=>by exact zW fun _ _=>rfl),ok_RX F TX⟩
 obtain ⟨⟨fdK,FK0⟩,_⟩:=id mK;have FK:FnOk l.prog w K mg base bY 2 fK fdK ["self","row"] (spNK cK):=ok_NK FK0 TX RI;have BK:Binds K fdK ["self","row"] []:=FK0.binds (fun _ _ _ _ _ _=>by exact zW fun _ _=>rfl);have WH:=fm X G d1 fun fd F=>tt F B;have WI:=fm X G d2 fun fd F=>qI F WH;have NM:=fm X G d4 fun fd F=>wc F B CN;have NU:=fm X G d0 fun fd F=>mW F B (Ee X G n_FIGURES) (Ee X G n_MOST_FIGURES);have RM:Rm l.prog w K mg base cR:=⟨RC,(mm h_look M_look fun fd F=>vS F RC),(mm h_take M_take fun fd F=>AQ F RC)⟩;have RM2:vj l.prog w K mg base cR:=⟨RM,(mm h_need M_need fun fd F=>vT F RM),(mm h_need_name M_need_name fun fd F=>mS F RM NM),(mm h_need_number M_need_number fun fd F=>jI F RM NU WI),(mm h_need_end M_need_end fun fd F=>oz F RM B)⟩;obtain ⟨fdR,INR,bIR⟩:=im IR fun fd F=>tI F RC B (Ee X G n_MOST_TOKENS);obtain ⟨fdT,INT,bIT⟩:=im IT fun fd F=>tX F TC B;obtain ⟨fdP,INP,bIP⟩:=im IP fun fd F=>zj F PC B;have BO:=fm X G d8 fun fd F=>oA F RM2;have NA:=fm X G d9 fun fd F=>tw F RM2 B;have FL:=fm X G d12 fun fd F=>tD F RM2 Z;have EN:=fm X G d15 fun fd F=>yI F RM2 Z;have LF:=fm X G d14 fun fd F=>vU F RM2 Z B EN;have BD:=fm X G d13 fun fd F=>vV F RM2 Z LF;have FS:=fm X G d11 fun fd F=>qK F RM2 Z B FL;have KD:=fm X G d10 fun fd F=>vW F RM2 FS BD;have RF:=fm X G d7 fun fd F=>vZ F RM2 Z B CR.mk_ (Ee X G CR.ns) INR bIR BO NA KD;have AN:=fm X G d17 fun fd F=>oM F;have NK:=fm X G d18 fun fd F=>ld F;have EO:=fm X G d22 fun fd F=>tO F;have SO:Fn l.prog w K mg base "set_of" 1 ["names","given"] yJ:=fm X G d23 fun fd F=>v0;have DO:=fm X G d21 fun fd F=>qN F B EO SO;have NW:=fm X G d20 fun fd F=>yS F B3 AN;have KN:=fm X G d19 fun fd F=>AW F B NW DO;have TF:=fm X G d16 fun fd F=>AY F B B3 CT.mk_ (Ee X G CT.ns) INT bIT AN NK KN;have SG:=fm X G d25 fun fd F=>wm F CT2;have RN:=fm X G d26 fun fd F=>yR F CT2 SG;have TO:=fm X G d24 fun fd F=>wo F CT2 SG RN;have RT:=fm X G d27 fun fd F=>AZ F B (Ee X G n_MOST_SIGNS) TO RF TF;have KA:eX l.prog w K mg base cT "kind_at" 1 ["self","kind"] (gS cT):=(mm h_kind_at M_kind_at fun fd F=>qO F TC);have FO:eX l.prog w K mg base cT "fields_of" 2 ["self","kind"] (tZ cT):=(mm h_fields_of M_fields_of fun fd F=>A0 F TC KA);have WHT:=fm X G d1 fun fd F=>ok_wholeT F B;have WIT:=fm X G d2 fun fd F=>ok_withinT F WHT;have WOT:=fm X G d3 fun fd F=>ok_wordT F WIT;have IO:=fm X G d6 fun fd F=>ok_operandT F TC B WIT WOT;have IR2:=fm X G d5 fun fd F=>ok_isRowT F TC B B4 FO IO;obtain ⟨aPO,fdP,FP⟩:=dPO;have OKP:FnOk l.prog w K mg base (uy l.prog w) 6 fPO fdP ["table","rows","bell"] (jC cT cP cK):=zm FP B B3 ZR TX FK BK CP.mk_ (Ee X G CP.ns) INP bIP IR2 WIT;have POX:FnX l.prog w K mg base "program_of" 6 ["table","rows","bell"] (jC cT cP cK):=⟨fPO,fdP,Ee X G aPO,FP.kp,u9 FP,OKP⟩;have PO2:CY l.prog w K mg base "program_of" 6 ["table","rows","bell"] (fun vs H Q _=>jC cT cP cK vs H Q E0):=⟨fPO,fdP,Ee X G aPO,FP.kp,rl FP,OKP.calm⟩;have SHO:=fm X G d37 fun fd F=>ok_shO F TC B FO;have SS:=fm X G d36 fun fd F=>ok_ss F SHO;have CL:=fm X G d28 fun fd F=>vQ F B;have ST:=fm X G d29 fun fd F=>qH F B;have TK1:=fm X G d30 fun fd F=>vR F;have LN:=fm X G d31 fun fd F=>qQ F B TK1;have SHP:=fm X G d32 fun fd F=>uj F B TK1 LN;have TXb:=zI (P:=l.prog) (w:=w) (base:=base) X G d33 fun fd F=>Bn F B B3;have BN:=fm X G d34 fun fd F=>qS F B;have SR:=fm X G d35 fun fd F=>Bo F B TK1 BN;have BA:=fm X G d38 fun fd F=>ok_bad F B TK1 BN SR;have TD:=fm X G d39 fun fd F=>zn F TX POX;have AL:=fm X G d40 fun fd F=>zp F B;have BE:=fm X G d42 fun fd F=>qZ F B;have RFD:=fm X G d41 fun fd F=>ok_ref F B TK1 SR BA BE AL TD;have OT:=fm X G d43 fun fd F=>zy F B;have SHS:=fm X G d44 fun fd F=>zE F B B3 TXb RT SS OT;exact zF F B PC CL ST TK1 SHP TXb RT SR POX.calm PO2 IR2 BA RFD SHS
end L3
namespace PySem.W.Fast
def tw16190700043672071305:=0
def tw13997968462942455108:=0
def tw12294218454983868339:=0
def tw17068790969851508:=0
def tw7205107920221345235:=0
def tw8163325811111194601:=0
def tw7136467289438478471:=0
def tw5371545270629726200:=0
def tw16652294750850284530:=0
def tw15425872589724208653:=0
def tw9497993886780327727:=0
def tw5211060847752039909:=0
def tw6326093159354425980:=0
def tw2815453366136075098:=0
def tw17990275239431197811:=0
def tw1171732013968398354:=0
def tw14269643413982057695:=0
def tw9499585450953601736:=0
def tw6924240279280308156:=0
def tw513269840008713828:=0
def tw11192693397172224458:=0
def tw3037717721411242570:=0
def tw6437308832846672984:=0
def tw10896023018475598:=0
def tw4388914986227829025:=0
def tw9664384254581859695:=0
def tw12882948296825789298:=0
def tw6447795433175488049:=0
def tw15246802711484952380:=0
def tw15811372231412630048:=0
def tw17303931445607379294:=0
def tw4170945638542795405:=0
def tw15467255795317593278:=0
def tw3921476549844110134:=0
def tw15548968784617752151:=0
def tw7700016206331389207:=0
def tw2828636720221773689:=0
def tw6635141785744963557:=0
def tw8224826137912581792:=0
def tw6686834767381112458:=0
def tw9937139688401708520:=0
def tw7950813531527675586:=0
def tw18191901972847630289:=0
def tw17604862316996683773:=0
def tw10565768021949750982:=0
def tw3849907024143765600:=0
def tw17154087858891709976:=0
def tw14219264167600163559:=0
def tw12976753005501231390:=0
def tw8280400974302852150:=0
def tw3259207793166524061:=0
def tw6102485244436244655:=0
def tw17794384512007256886:=0
def tw14712983575384416502:=0
def tw2917359258531732255:=0
def tw2839810118243248325:=0
def tw8094984010858602494:=0
def tw10855176461033520745:=0
def tw16510492568648094345:=0
def tw2322586751639049092:=0
def tw18369754814845010482:=0
def tw17559897804803696241:=0
def tw2273626194617040573:=0
def tw694816673039172344:=0
def tw6722200163463205640:=0
def tw9650760774327296919:=0
def tw14736661642255559471:=0
def tw2004450686503402269:=0
def tw2773854659706885472:=0
def tw14523188221389124606:=0
def tw9721727155487619631:=0
def tw16770739858282058851:=0
def tw4985661518664608335:=0
def tw16018581314288072851:=0
def tw347747933659687910:=0
def tw8871645783826558671:=0
def tw4679455874427060722:=0
def tw15549412013111526275:=0
def tw2690690057264558602:=0
def tw11797183272520274742:=0
def tw9576874578249280825:=0
def tw6329439200837347653:=0
def tw6030152847439874473:=0
def tw9054382327658463524:=0
def tw5207966359579719710:=0
def tw11918379149726630701:=0
def tw15937821662376949460:=0
def tw4900467312151825560:=0
def tw10123401079974020948:=0
def tw13377816877497792985:=0
def tw14772794727125394942:=0
def tw9953038492840632116:=0
def tw13512338933097924805:=0
def tw16929306339018495359:=0
def tw6450892104059728244:=0
def tw37289722414095602:=0
def tw4134843082931066881:=0
def tw18377135872552084523:=0
def tw9205953840326387928:=0
def tw10580103602529929488:=0
def tw9272659710311605567:=0
def tw12442930414883364943:=0
def tw12894621568183083844:=0
def tw5985912837265716527:=0
def tw14546504279642482:=0
def tw753979875166564904:=0
def tw10587137663403212614:=0
def tw5534957172009622727:=0
def tw3052390980606941789:=0
def tw8803910875191713046:=0
def tw505885414731365580:=0
def tw17049384578510498473:=0
def tw4374681461981111722:=0
def tw11016615793645928534:=0
def tw14121884459674785808:=0
def tw17181306142220047454:=0
def tw7678938497444050968:=0
def tw17385417161998185979:=0
def tw11447493360697303137:=0
def tw5661772499860242378:=0
def tw3508623715648466218:=0
def tw17529655950349654817:=0
def tw5869084311610252598:=0
def tw12771852811540958801:=0
def tw775235723223376477:=0
def tw9469513613358177920:=0
def tw14502485680798106916:=0
def tw4167641505281658931:=0
def tw7777172661556208442:=0
def tw4613655895604822693:=0
def tw16554458706921017803:=0
def tw5153090710511026368:=0
def tw10240892301668729091:=0
def tw16286702677659418171:=0
def tw296122481926611058:=0
def tw11976687813462212957:=0
def tw3139290264445203908:=0
def tw6012486196509457618:=0
def tw7128236763301488646:=0
def tw18348669963422126011:=0
def tw10968429096232269084:=0
def tw15769769143040248921:=0
def tw15521244512785823520:=0
def tw7789352699098538335:=0
def tw2127207330199041964:=0
def tw6770741996147850927:=0
def tw4426674422407137220:=0
def tw16287294943516735897:=0
def tw4112052765064317875:=0
def tw10521309928163153714:=0
end PySem.W.Fast
local macro_rules|`(tactic| walk_at "a")=>`(tactic| (refine' L3.zH ?a ?l ?c ?k;(case a=>k_is);(case l=>k_is);(case c=>k_is);(case k=>k_is)))
local macro_rules|`(tactic| walk_at "b")=>`(tactic| (refine' L3.xg ?a ?l ?e ?c ?k;(case a=>k_is);(case l=>k_is);(case e=>k_is);(case c=>k_is);(case k=>k_is)))
local macro_rules|`(tactic| walk_at "c")=>`(tactic| (refine' L3.zM ?tl ?a ?l ?g1 ?g2 ?g3 ?g4;(case a=>k_is);(case l=>k_is);(case tl=>(first|exact L3.DH|exact L3.DG));(case g1=>k_is);(case g2=>k_is);(case g3=>k_is);(case g4=>k_is)))
local macro_rules|`(tactic| walk_at "d")=>`(tactic| (refine' L3.zJ ?l ?c ?k ?n;(case l=>k_is);(case c=>k_is);(case k=>k_is);(case n=>k_is)))
local macro_rules|`(tactic| walk_at "e2")=>`(tactic| (refine' L3.ve ?ns ?g1 ?g2 ?g3 ?g4 ?m1 ?m2 ?m3 ?m4 ?na;(case ns=>k_is);(case g1=>k_is);(case g2=>k_is);(case g3=>k_is);(case g4=>k_is);(case m1=>k_is);(case m2=>k_is);(case m3=>k_is);(case m4=>k_is);(case na=>(refine' L3.DD ?x ?y;(case x=>k_is);(case y=>k_is)))))
local macro_rules|`(tactic| walk_at "e3")=>`(tactic| (refine' L3.ve ?ns ?g1 ?g2 ?g3 ?g4 ?m1 ?m2 ?m3 ?m4 ?na;(case ns=>k_is);(case g1=>k_is);(case g2=>k_is);(case g3=>k_is);(case g4=>k_is);(case m1=>k_is);(case m2=>k_is);(case m3=>k_is);(case m4=>k_is);(case na=>(refine' L3.DE ?x ?y ?z;(case x=>k_is);(case y=>k_is);(case z=>k_is)))))
local macro_rules|`(tactic| walk_at "e8")=>`(tactic| (refine' L3.ve ?ns ?g1 ?g2 ?g3 ?g4 ?m1 ?m2 ?m3 ?m4 ?na;(case ns=>k_is);(case g1=>k_is);(case g2=>k_is);(case g3=>k_is);(case g4=>k_is);(case m1=>k_is);(case m2=>k_is);(case m3=>k_is);(case m4=>k_is);(case na=>(refine' L3.DF ?x ?y ?z ?u ?x1 ?y1 ?z1 ?u1;(case x=>k_is);(case y=>k_is);(case z=>k_is);(case u=>k_is);(case x1=>k_is);(case y1=>k_is);(case z1=>k_is);(case u1=>k_is)))))
open PySem PySem.W PyProof.Rows
set_option maxRecDepth 100000 in
set_option maxHeartbeats 0 in
theorem PySem.Challenge.cw_rowsbeneath_k11_programs_made_holds : PySem.Challenge.rw_rowsbeneath_k11_programs_made.Holds := by
 w_on;o_law;k_head;(case hw=>w_witness2)
 k_fill
 refine L2.sk (l:=PySem.Challenge.rw_rowsbeneath_k11_programs_made) (n:=63) (k:=10) (x:="_law_script") (CX:=L2.bY) (sp:=L3.qk) rfl (by decide) rfl ⟨rfl,by decide,by decide⟩ (fun w h Y=>PySem.W.kIn_of Y) ?F (fun _ _ a ns hl _ hS=>⟨a,ns,rfl,hS,hl,fun _=>rfl⟩) (fun _ _ _ _ z=>z);case F=>
  intro w mg fa h KX G hmg;refine' L3.zN KX G hmg ?d0 ?d1 ?d2 ?d3 ?d4 ?d5 ?d6 ?d7 ?d8 ?d9 ?d10 ?d11 ?d12 ?d13 ?d14 ?d15 ?d16 ?d17 ?d18 ?d19 ?d20 ?d21 ?d22 ?d23 ?d24 ?d25 ?d26 ?d27 ?d28 ?d29 ?d30 ?d31 ?d32 ?d33 ?d34 ?d35 ?d36 ?d37 ?d38 ?d39 ?d40 ?d41 ?d42 ?d43 ?d44 ?d45 ?dPO ?CR ?IR ?CT ?IT ?CP ?IP ?h_look ?M_look ?h_take ?M_take ?h_need ?M_need ?h_need_name ?M_need_name ?h_need_number ?M_need_number ?h_need_end ?M_need_end ?h_kind_at ?M_kind_at ?h_fields_of ?M_fields_of ?n_MOST_FIGURES ?n_LONGEST_NAME ?n_MOST_ROWS ?n_MOST_TOKENS ?n_MOST_KINDS ?n_MOST_FIELDS ?n_MOST_SETS ?n_MOST_CHOICES ?n_MOST_SIGNS ?n_FIGURES ?n_LETTERS ?n_GAPS ?n_SINGLE_SIGNS ?n_OWN_WORDS ?q_OWN_WORDS ?n_SORTS ?q_SORTS ?n_ENDS ?q_ENDS ?n_OWN_FAULTS ?q_OWN_FAULTS ?n_DOUBLE_SIGNS ?q_DOUBLE_SIGNS ?z_len ?z_int ?z_max ?z_min ?z_range ?z_isinstance ?z_list ?z_str ?z_bool ?z_tuple ?z_all ?z_dict ?z_enumerate ?z_zip ?z_ValueError ?xR ?rd ?ri ?mR ?xK ?aK ?iK ?nK ?pK ?mK
  (case d0=>walk_at "a")
  (case d1=>walk_at "a")
  (case d2=>walk_at "a")
  (case d3=>walk_at "a")
  (case d4=>walk_at "a")
  (case d5=>walk_at "a")
  (case d6=>walk_at "a")
  (case d7=>walk_at "a")
  (case d8=>walk_at "a")
  (case d9=>walk_at "a")
  (case d10=>walk_at "a")
  (case d11=>walk_at "a")
  (case d12=>walk_at "a")
  (case d13=>walk_at "a")
  (case d14=>walk_at "a")
  (case d15=>walk_at "a")
  (case d16=>walk_at "a")
  (case d17=>walk_at "a")
  (case d18=>walk_at "a")
  (case d19=>walk_at "a")
  (case d20=>walk_at "a")
  (case d21=>walk_at "a")
  (case d22=>walk_at "a")
  (case d23=>walk_at "a")
  (case d24=>walk_at "a")
  (case d25=>walk_at "a")
  (case d26=>walk_at "a")
  (case d27=>walk_at "a")
  (case d28=>walk_at "a")
  (case d29=>walk_at "a")
  (case d30=>walk_at "a")
  (case d31=>walk_at "a")
  (case d32=>walk_at "a")
  (case d33=>walk_at "a")
  (case d34=>walk_at "a")
  (case d35=>walk_at "a")
  (case d36=>walk_at "a")
  (case d37=>walk_at "a")
  (case d38=>walk_at "a")
  (case d39=>walk_at "a")
  (case d40=>walk_at "a")
  (case d41=>walk_at "a")
  (case d42=>walk_at "a")
  (case d43=>walk_at "a")
  (case d44=>walk_at "a")
  (case d45=>walk_at "a")
  (case dPO=>walk_at "b")
  (case CR=>walk_at "e3")
  (case IR=>walk_at "d")
  (case CT=>walk_at "e8")
  (case IT=>walk_at "d")
  (case CP=>walk_at "e2")
  (case IP=>walk_at "d")
  (case h_look=>k_is)
  (case M_look=>walk_at "d")
  (case h_take=>k_is)
  (case M_take=>walk_at "d")
  (case h_need=>k_is)
  (case M_need=>walk_at "d")
  (case h_need_name=>k_is)
  (case M_need_name=>walk_at "d")
  (case h_need_number=>k_is)
  (case M_need_number=>walk_at "d")
  (case h_need_end=>k_is)
  (case M_need_end=>walk_at "d")
  (case h_kind_at=>k_is)
  (case M_kind_at=>walk_at "d")
  (case h_fields_of=>k_is)
  (case M_fields_of=>walk_at "d")
  (case n_MOST_FIGURES=>k_is)
  (case n_LONGEST_NAME=>k_is)
  (case n_MOST_ROWS=>k_is)
  (case n_MOST_TOKENS=>k_is)
  (case n_MOST_KINDS=>k_is)
  (case n_MOST_FIELDS=>k_is)
  (case n_MOST_SETS=>k_is)
  (case n_MOST_CHOICES=>k_is)
  (case n_MOST_SIGNS=>k_is)
  (case n_FIGURES=>k_is)
  (case n_LETTERS=>k_is)
  (case n_GAPS=>k_is)
  (case n_SINGLE_SIGNS=>k_is)
  (case n_OWN_WORDS=>k_is)
  (case q_OWN_WORDS=>refine' L3.lV ?h;(case h=>k_is))
  (case n_SORTS=>k_is)
  (case q_SORTS=>refine' L3.vf ?h;(case h=>k_is))
  (case n_ENDS=>k_is)
  (case q_ENDS=>refine' L3.xh ?h;(case h=>k_is))
  (case n_OWN_FAULTS=>k_is)
  (case q_OWN_FAULTS=>refine' L3.jK ?h;(case h=>k_is))
  (case n_DOUBLE_SIGNS=>k_is)
  (case q_DOUBLE_SIGNS=>refine' L3.iG ?h;(case h=>k_is))
  (case z_len=>k_is)
  (case z_int=>k_is)
  (case z_max=>k_is)
  (case z_min=>k_is)
  (case z_range=>k_is)
  (case z_isinstance=>k_is)
  (case z_list=>k_is)
  (case z_str=>k_is)
  (case z_bool=>k_is)
  (case z_tuple=>k_is)
  (case z_all=>k_is)
  (case z_dict=>k_is)
  (case z_enumerate=>k_is)
  (case z_zip=>k_is)
  (case z_ValueError=>k_is)
  (case xR=>walk_at "c")
  (case rd=>k_is)
  (case ri=>k_is)
  (case mR=>walk_at "d")
  (case xK=>walk_at "c")
  (case aK=>k_is)
  (case iK=>k_is)
  (case nK=>k_is)
  (case pK=>k_is)
  (case mK=>walk_at "d")
