import PyProof.Rows.All
import Wide.All
import OpenK.AllK
import Wide.FinOn
import Lean
import PyProof.EqAt
import PyProof.EqKinds
import PyProof.TupleCall
import PySem.Challenge.RW_askorder_k47_one_in_the_other
set_option Elab.async false
set_option linter.all false
set_option maxRecDepth 100000
noncomputable abbrev PySem.W.Fast.tw4758727130920278372:=PySem.Challenge.pw_askorder_k47_one_in_the_other
theorem PySem.W.Fast.te4758727130920278372 : PySem.Challenge.pw_askorder_k47_one_in_the_other=PySem.W.Fast.tw4758727130920278372:=rfl
namespace L2
open PySem PySem.Spec PyProof.Rows
noncomputable abbrev Key:=Sum Int Str
noncomputable def z9S : Key->Value->Bool
  | .inl k,v=>Value.isInt k v
  | .inr x,v=>Value.isStrOf x v
noncomputable def keyH (w : World) : Key->Int
  | .inl k=>hashInt k
  | .inr x=>hashStr w x
theorem z0S : ∀ {k : Key} {v : Value},z9S k v=true->(∃ i t,k=Sum.inl i∧v=Value.int i t)∨(∃ x t,k=Sum.inr x∧v=Value.str x t)
  | .inl i,v,h=>by
    obtain ⟨t,e⟩:=Value.isInt_shape (k:=i) (v:=v) h
    exact .inl ⟨i,t,rfl,e⟩
  | .inr x,v,h=>by
    obtain ⟨t,e⟩:=Value.isStrOf_shape (x:=x) (v:=v) h
    exact .inr ⟨x,t,rfl,e⟩
theorem y4Z (i : Int) (t : Tok) : z9S (.inl i) (.int i t)=true:=by simp [z9S,Value.isInt]
theorem y2Z (x : Str) (t : Tok) : z9S (.inr x) (.str x t)=true:=by simp [z9S,Value.isStrOf]
theorem key_ll (a b : Int) : decide ((Sum.inl a : Key)=Sum.inl b)=(a == b):=by
  by_cases e : a=b
  · subst e; simp
  · have h : ¬ (Sum.inl a : Key)=Sum.inl b:=fun q=>e (Sum.inl.inj q)
    rw [decide_eq_false h]
    exact (beq_eq_false_iff_ne.mpr e).symm
theorem key_rr (a b : Str) : decide ((Sum.inr a : Key)=Sum.inr b)=decide (a=b):=by
  by_cases e : a=b
  · subst e; simp
  · have h : ¬ (Sum.inr a : Key)=Sum.inr b:=fun q=>e (Sum.inr.inj q)
    rw [decide_eq_false h,decide_eq_false e]
theorem key_lr (a : Int) (b : Str) : decide ((Sum.inl a : Key)=Sum.inr b)=false:=decide_eq_false (fun q=>nomatch q)
theorem key_rl (a : Str) (b : Int) : decide ((Sum.inr a : Key)=Sum.inl b)=false:=decide_eq_false (fun q=>nomatch q)
noncomputable def z1g (prog : Program) (w : World) : PySem.KeyKind prog w Key where
  is:=z9S
  hash:=keyH w
  inj:=fun v a b ha hb=>by
    rcases z0S ha with ⟨i,t,rfl,rfl⟩ | ⟨x,t,rfl,rfl⟩
    · rcases z0S hb with ⟨j,u,rfl,e⟩ | ⟨y,u,rfl,e⟩
      · injection e with e1 _; rw [e1]
      · exact nomatch e
    · rcases z0S hb with ⟨j,u,rfl,e⟩ | ⟨y,u,rfl,e⟩
      · exact nomatch e
      · injection e with e1 _; rw [e1]
  byValue:=fun k v h=>by
    rcases z0S h with ⟨i,t,rfl,rfl⟩ | ⟨x,t,rfl,rfl⟩ <;> rfl
  pyHash:=fun hv h=>by
    rcases z0S hv with ⟨i,t,rfl,rfl⟩ | ⟨x,t,rfl,rfl⟩
    · exact wpAny_pyHash_int h
    · exact wpAny_pyHash_str h
  eqBool:=fun hu hv h=>by
    rcases z0S hu with ⟨i,t,rfl,rfl⟩ | ⟨x,t,rfl,rfl⟩
    · rcases z0S hv with ⟨j,u,rfl,rfl⟩ | ⟨y,u,rfl,rfl⟩
      · rw [key_ll] at h; exact wpAny_eqBool_int h
      · rw [key_lr] at h; exact SeqAt.EqAt.int_str i t y u _ _ _ _ h
    · rcases z0S hv with ⟨j,u,rfl,rfl⟩ | ⟨y,u,rfl,rfl⟩
      · rw [key_rl] at h; exact SeqAt.EqAt.str_int x t j u _ _ _ _ h
      · rw [key_rr] at h; exact wpAny_eqBool_str h
  «strs»:=fun k x t v h=>by
    rcases z0S h with ⟨i,u,rfl,e⟩ | ⟨y,u,rfl,e⟩
    · exact nomatch e
    · injection e with e1 _
      subst e1
      cases v <;> rfl
theorem z9X (prog : Program) (w : World) (i : Int) (t : Tok) : (z1g prog w).is (.inl i) (.int i t)=true:=y4Z i t
theorem y0A (prog : Program) (w : World) (x : Str) (t : Tok) : (z1g prog w).is (.inr x) (.str x t)=true:=y2Z x t
end L2
namespace L2
open PySem PySem.Spec PyProof.Rows
inductive V where
  | non | bl (b : Bool) | int (i : Int) | str (x : Str) | byt (b : Array UInt8) | flt (b : UInt64) | ref (a : Addr) | ty (n : String)
  deriving DecidableEq
noncomputable def RelV : V->Value->Prop
  | .non,u=>u=Value.none
  | .bl b,u=>u=Value.bool b
  | .int i,u=>∃ t,u=Value.int i t
  | .str x,u=>∃ t,u=Value.str x t
  | .byt b,u=>∃ t,u=Value.bytes b t
  | .flt b,u=>∃ t,u=Value.float b t
  | .ref a,u=>u=Value.ref a
  | .ty n,u=>u=Value.type n
noncomputable abbrev Vals : List V->List Value->Prop:=Paired RelV
theorem Vals.length {xs : List V} {us : List Value} (r : Vals xs us) : xs.length=us.length:=Paired.length r
theorem Vals.get : ∀ {xs : List V} {us : List Value} {i : Nat} {x : V},Vals xs us->xs[i]? = some x->∃ u,us[i]? = some u∧RelV x u
  | _,_,_,_,.nil,e=>by simp at e
  | _,_,0,_,.cons r _,e=>by simp at e; subst e; exact ⟨_,rfl,r⟩
  | _,_,i + 1,x,.cons _ t,e=>by
    obtain ⟨u,h1,h2⟩:=Vals.get (i:=i) (x:=x) t (by simpa using e)
    exact ⟨u,by simpa using h1,h2⟩
theorem Vals.set {x : V} {u : Value} (r : RelV x u) : ∀ {xs : List V} {us : List Value} (i : Nat),Vals xs us->Vals (xs.set i x) (us.set i u)
  | _,_,_,.nil=>.nil
  | _,_,0,.cons _ t=>.cons r t
  | _,_,i + 1,.cons q t=>.cons q (Vals.set r i t)
theorem Vals.append : ∀ {xs ys : List V} {us ws : List Value},Vals xs us->Vals ys ws->Vals (xs ++ ys) (us ++ ws)
  | _,_,_,_,.nil,s=>s
  | _,_,_,_,.cons r t,s=>.cons r (Vals.append t s)
theorem Vals.take : ∀ {xs : List V} {us : List Value} (n : Nat),Vals xs us->Vals (xs.take n) (us.take n)
  | _,_,0,_=>.nil
  | _,_,_ + 1,.nil=>.nil
  | _,_,n + 1,.cons r t=>.cons r (Vals.take n t)
theorem Vals.drop : ∀ {xs : List V} {us : List Value} (n : Nat),Vals xs us->Vals (xs.drop n) (us.drop n)
  | _,_,0,r=>r
  | _,_,_ + 1,.nil=>.nil
  | _,_,n + 1,.cons _ t=>Vals.drop n t
noncomputable def RelO : Option V->Option Value->Prop
  | some v,some u=>RelV v u
  | none,none=>True
  | _,_=>False
noncomputable def KV {κ : Type} : List (κ × V)->List (κ × Value)->Prop:=Paired fun (p : κ × V) (q : κ × Value)=>p.1=q.1∧RelV p.2 q.2
noncomputable def kV : Key->V
  | .inl i=>.int i
  | .inr x=>.str x
inductive HO where
  | lst (xs : List V)
  | tup (xs : List V)
  | dK (kvs : List (Key × V)) | dT (kvs : List (List Key × V))
  | set (S : Int->Bool) (n : Nat)
  | ins (C dx : Addr) (fs : List (Str × V))
  | own (x : Addr)
  | xd (fs : List (Str × V))
  | met (f x : Addr)
  | rng (lo hi : Int)
  | frz (o : Obj) (u : HO)
  | tbl (ps : Array Value)
  | ext (φ : Heap->Prop)
noncomputable abbrev Hp:=Addr->Option HO
noncomputable def upd (H : Hp) (a : Addr) (o : HO) : Hp:=fun b=>if b=a then some o else H b
theorem z0s {H : Hp} {a : Addr} {o : HO} : upd H a o a=some o:=by unfold upd; rw [if_pos rfl]
theorem z0A {H : Hp} {a b : Addr} {o : HO} (h : b≠a) : upd H a o b=H b:=by unfold upd; rw [if_neg h]
theorem ne_of {H : Hp} {a b : Addr} {o u : HO} (h : H a=some o) (h' : H b=some u) (d : o≠u) : a≠b:=by
  intro e; subst e; rw [h] at h'; exact d (Option.some.inj h')
theorem z1o {H : Hp} {a b : Addr} {o : HO} (h : H a=some o) (h' : H b=none) : a≠b:=by
  intro e; subst e; rw [h] at h'; cases h'
section
variable (P : Program) (w : World)
noncomputable def TupN (h : Heap) (a : Addr) (items : Array Value) : Prop:=∃ o,h.get? a=some o∧(o.cls = .type "tuple" ∧ o.dict=none)∧∃ n,o.data = .seq items n
theorem TupN.is {h : Heap} {a : Addr} {items : Array Value} (x : TupN h a items) : IsTup h a items:=let ⟨o,e,c,n⟩:=x; ⟨o,e,c.1,n⟩
theorem TupN.lt {h : Heap} {a : Addr} {items : Array Value} (x : TupN h a items) : a < h.objs.size:=x.is.lt
theorem TupN.new (h : Heap) (items : Array Value) : TupN (h.push { cls:=.type "tuple",data:=.seq items }) h.objs.size items:=⟨_,Heap.get?_push_size _ rfl,⟨rfl,rfl⟩,_,rfl⟩
noncomputable def ObjOk (H : Hp) (h : Heap) (a : Addr) : HO->Prop
  | .lst xs=>xs.length≤sizeLine∧∃ (its : List Value) (n : Nat),Vals xs its∧h.get? a=some { cls:=.type "list",data:=.seq its.toArray n }
  | .tup xs=>xs.length≤sizeLine∧∃ its : List Value,Vals xs its∧TupN h a its.toArray
  | .dK kvs=>kvs.length≤sizeLine∧(a == sysModules)=false∧∃ vs,KV kvs vs∧h.DictOf (z1g P w) a vs
  | .dT kvs=>kvs.length≤sizeLine∧(a == sysModules)=false∧∃ xs : List (List Key × Addr × Value),
      Paired (fun (p : List Key × V) (q : List Key × Addr × Value)=>p.1=q.1∧H q.2.1=some (.tup (p.1.map kV))∧RelV p.2 q.2.2) kvs xs ∧
      ∃ o es ep,h.get? a=some o∧o.ExactDict∧o.data = .dict es ep∧es.toList=xs.map (entryOfKey (tupleKind (z1g P w)))∧(xs.map (·.1)).Nodup
  | .set S n=>h.SetOf (intKind P w) a S n
  | .ins C dx fs=>H dx=some (.own a)∧fs.length≤1000∧dx≠a∧h.get? a=some (PySem.W.instObj C dx) ∧
      ∃ mA,h.Ns1 dx mA∧(∀ f,RelO (fs.lookup f) (mA f))∧PySem.Within mA (fs.map (·.1))
  | .own _=>∃ o,h.get? a=some o
  | .xd fs=>∃ mA,h.Ns1 a mA∧∀ f,RelO (fs.lookup f) (mA f)
  | .rng lo hi=>∃ t u v,h.get? a=some { cls:=.type "range",data:=.fields #[.int lo t,.int hi u,.int 1 v] }
  | .frz o u=>h.get? a=some o∧ObjOk H h a u
  | .tbl ps=>h.get? a=some { cls:=.none,data:=.fields ps }
  | .met f x=>h.get? a=some (PySem.W.methodObj (.ref f) (.ref x))
  | .ext φ=>φ h∧(∃ o,h.get? a=some o)∧∀ h1 h2 : Heap,φ h1->(∀ o,h1.get? a=some o->h2.get? a=some o)->φ h2
noncomputable def HOk (H : Hp) (h : Heap) : Prop:=∀ a o,H a=some o->ObjOk P w H h a o
end
section
variable {P : Program} {w : World} {H H' : Hp} {h h' : Heap} {a : Addr} {o : HO}
theorem ObjOk.lt (x : ObjOk P w H h a o) : a < h.objs.size:=by
  cases o with
  | lst xs=>obtain ⟨_,_,_,_,e⟩:=x; exact Heap.lt_size e
  | tup xs=>obtain ⟨_,_,_,p⟩:=x; exact p.lt
  | dK kvs=>obtain ⟨_,_,_,_,o,_,_,e,_⟩:=x; exact Heap.lt_size e
  | dT kvs=>obtain ⟨_,_,_,_,o,_,_,e,_⟩:=x; exact Heap.lt_size e
  | set S n=>obtain ⟨o,_,_,_,e,_⟩:=x; exact Heap.lt_size e
  | ins C dx fs=>obtain ⟨_,_,_,e,_⟩:=x; exact Heap.lt_size e
  | own y=>obtain ⟨_,e⟩:=x; exact Heap.lt_size e
  | xd fs=>obtain ⟨_,⟨_,_,_,e,_⟩,_⟩:=x; exact Heap.lt_size e
  | rng lo hi=>obtain ⟨_,_,_,e⟩:=x; exact Heap.lt_size e
  | frz ob u=>obtain ⟨e,_⟩:=x; exact Heap.lt_size e
  | tbl ps=>exact Heap.lt_size (show h.get? a=some _ from x)
  | met f y=>exact Heap.lt_size (show h.get? a=some _ from x)
  | ext φ=>obtain ⟨_,⟨_,e⟩,_⟩:=x; exact Heap.lt_size e
theorem Paired.mapP {α β : Type} {F G : α->β->Prop} : ∀ {l₁ : List α} {l₂ : List β},Paired F l₁ l₂->(∀ a b,F a b->G a b)->Paired G l₁ l₂
  | _,_,.nil,_=>.nil
  | _,_,.cons r t,f=>.cons (f _ _ r) (Paired.mapP t f)
theorem ObjOk.stay (x : ObjOk P w H h a o) (k : ∀ b u,(b=a∨H b=some (.own a))->h.get? b=some u->h'.get? b=some u)
    (ho : ∀ b,H b=some (.own a)->H' b=some (.own a)) (ht : ∀ b xs,H b=some (.tup xs)->H' b=some (.tup xs)) : ObjOk P w H' h' a o:=by
  induction o with
  | lst xs=>obtain ⟨z,its,n,r,e⟩:=x; exact ⟨z,its,n,r,k _ _ (.inl rfl) e⟩
  | tup xs=>obtain ⟨z,its,r,ob,e,c⟩:=x; exact ⟨z,its,r,ob,k _ _ (.inl rfl) e,c⟩
  | dK kvs=>obtain ⟨z,y,vs,r,ob,es,ep,e,c⟩:=x; exact ⟨z,y,vs,r,ob,es,ep,k _ _ (.inl rfl) e,c⟩
  | dT kvs=>
    obtain ⟨z,y,xs,r,ob,es,ep,e,c⟩:=x
    exact ⟨z,y,xs,Paired.mapP r fun p q z=>⟨z.1,ht _ _ z.2.1,z.2.2⟩,ob,es,ep,k _ _ (.inl rfl) e,c⟩
  | set S n=>obtain ⟨ob,es,ep,t,e,c⟩:=x; exact ⟨ob,es,ep,t,k _ _ (.inl rfl) e,c⟩
  | ins C dx fs=>
    obtain ⟨d,z,ne,e,mA,⟨od,es,ep,e2,c⟩,r⟩:=x
    exact ⟨ho _ d,z,ne,k _ _ (.inl rfl) e,mA,⟨od,es,ep,k _ _ (.inr d) e2,c⟩,r⟩
  | own y=>obtain ⟨ob,e⟩:=x; exact ⟨ob,k _ _ (.inl rfl) e⟩
  | xd fs=>obtain ⟨mA,⟨od,es,ep,e,c⟩,r⟩:=x; exact ⟨mA,⟨od,es,ep,k _ _ (.inl rfl) e,c⟩,r⟩
  | rng lo hi=>obtain ⟨t,u,v,e⟩:=x; exact ⟨t,u,v,k _ _ (.inl rfl) e⟩
  | frz ob u ih=>obtain ⟨e,q⟩:=x; exact ⟨k _ _ (.inl rfl) e,ih q⟩
  | tbl ps=>
    have e : h.get? a=some { cls:=.none,data:=.fields ps }:=x
    show h'.get? a=some { cls:=.none,data:=.fields ps }
    exact k a _ (.inl rfl) e
  | met f y=>
    have e : h.get? a=some (PySem.W.methodObj (.ref f) (.ref y)):=x
    show h'.get? a=some (PySem.W.methodObj (.ref f) (.ref y))
    exact k a _ (.inl rfl) e
  | ext φ=>obtain ⟨p,⟨o,e⟩,st⟩:=x; exact ⟨st _ _ p fun o q=>k _ _ (.inl rfl) q,⟨o,k _ _ (.inl rfl) e⟩,st⟩
theorem HOk.lt (x : HOk P w H h) (e : H a=some o) : a < h.objs.size:=(x a o e).lt
theorem HOk.fresh (x : HOk P w H h) (e : h.objs.size≤a) : H a=none:=by
  cases q : H a with
  | none=>rfl
  | some u=>exact absurd (Nat.lt_of_lt_of_le (x.lt q) e) (Nat.lt_irrefl _)
theorem HOk.kept (x : HOk P w H h) (k : ∀ b u,h.get? b=some u->h'.get? b=some u) : HOk P w H h':=fun a o e=>
  (x a o e).stay (fun b u _ q=>k b u q) (fun _ q=>q) fun _ _ q=>q
theorem HOk.laid (x : HOk P w H h) (k : ∀ b u,h.get? b=some u->h'.get? b=some u) (hp : h.objs.size≤a) (new : ObjOk P w (upd H a o) h' a o) : HOk P w (upd H a o) h':=fun b u e=>by
  have hn:=x.fresh hp
  by_cases hb : b=a
  · subst hb; rw [z0s] at e; cases e; exact new
  · rw [z0A hb] at e
    exact (x b u e).stay (fun c v _ q=>k c v q) (fun c q=>by rw [z0A (z1o q hn)]; exact q) fun c xs q=>by rw [z0A (z1o q hn)]; exact q
end
noncomputable def Rd (H : Hp) (a : Addr) (u : HO) : Prop:=H a=some u∨∃ o,H a=some (.frz o u)
theorem Rd.ok {P : Program} {w : World} {H : Hp} {h : Heap} {a : Addr} {u : HO} (r : Rd H a u) (x : HOk P w H h) : ObjOk P w H h a u:=by
  rcases r with r | ⟨o,r⟩
  · exact x a u r
  · obtain ⟨_,q⟩:=x a _ r
    exact q
noncomputable def Mut : Option HO->Prop
  | some (.lst _)=>True
  | some (.dK _)=>True
  | some (.dT _)=>True
  | some (.set _ _)=>True
  | some (.ins _ _ _)=>True
  | some (.ext _)=>True
  | _=>False
section
variable {P : Program} {w : World} {H : Hp} {h h' : Heap} {x e : Addr} {o' : HO}
theorem HOk.write (ok : HOk P w H h) (mu : Mut (H x)) (he : e=x∨H e=some (.own x)) (k : ∀ b u,b≠e->h.get? b=some u->h'.get? b=some u) (heo : ∃ u,h'.get? e=some u)
    (new : ObjOk P w (upd H x o') h' x o') : HOk P w (upd H x o') h':=fun b u q=>by
  have nown : ∀ c y,H c=some (.own y)->c≠x:=fun c y r z=>by subst z; rw [r] at mu; exact mu
  have ntup : ∀ c xs,H c=some (.tup xs)->c≠x:=fun c xs r z=>by subst z; rw [r] at mu; exact mu
  by_cases hb : b=x
  · subst hb; rw [z0s] at q; cases q; exact new
  · rw [z0A hb] at q
    by_cases hbe : b=e
    · have q' : H b=some (.own x):=by
        rcases he with z | z
        · exact absurd (hbe.trans z) hb
        · rw [hbe]; exact z
      rw [q] at q'; cases q'
      obtain ⟨v,hv⟩:=heo
      exact ⟨v,by rw [hbe]; exact hv⟩
    · refine (ok b u q).stay (fun c v hc r=>k c v ?_ r) (fun c r=>by rw [z0A (nown c b r)]; exact r) fun c xs r=>by rw [z0A (ntup c xs r)]; exact r
      rcases hc with rfl | hc
      · exact hbe
      · rintro rfl
        rcases he with z | z
        · exact nown c b hc z
        · rw [hc] at z; cases z; exact hb rfl
end
structure Un (fs ex : List Addr) (H H' : Hp) (h h' : Heap) : Prop where
  keep : ∀ b o,h.get? b=some o->H b=none->b ∉ fs->b ∉ ex->h'.get? b=some o
  slot : ∀ b o,h.get? b=some o->H b=none->b∈fs->b ∉ ex->∃ sl,h'.get? b=some { o with slots:=sl }
  free : ∀ b o,h.get? b=some o->H b=none->b ∉ ex->H' b=none
  there : ∀ b o,h.get? b=some o->b ∉ ex->∃ o',h'.get? b=some o'
  tups : ∀ b xs,H b=some (.tup xs)->H' b=some (.tup xs)
  frzs : ∀ b o u,H b=some (.frz o u)->H' b=some (.frz o u)
  tbls : ∀ b ps,H b=some (.tbl ps)->∃ more,H' b=some (.tbl (ps ++ more))
section
variable {fs fs' ex ex' : List Addr} {H H1 H2 : Hp} {h h1 h2 h' : Heap} {a x e : Addr} {o : HO}
theorem Un.any (u : Un fs ex H H1 h h1) {b : Addr} {ob : Obj} (q : h.get? b=some ob) (n : H b=none) (hx : b ∉ ex) : ∃ sl,h1.get? b=some { ob with slots:=sl }:=by
  by_cases hb : b∈fs
  · exact u.slot b ob q n hb hx
  · exact ⟨ob.slots,u.keep b ob q n hb hx⟩
theorem Un.kept (k : ∀ b u,h.get? b=some u->h'.get? b=some u) : Un fs ex H H h h':=
  ⟨fun b ob q _ _ _=>k b ob q,fun b ob q _ _ _=>⟨ob.slots,k b ob q⟩,fun _ _ _ n _=>n,fun b ob q _=>⟨ob,k b ob q⟩,fun _ _ q=>q,fun _ _ _ q=>q,fun _ ps q=>⟨#[],by rw [q]; simp⟩⟩
theorem Un.refl : Un fs ex H H h h:=Un.kept fun _ _ q=>q
theorem Un.laid (k : ∀ b u,h.get? b=some u->h'.get? b=some u) (hp : h.objs.size≤a) (hn : H a=none) : Un fs ex H (upd H a o) h h' where
  keep:=fun b u q _ _ _=>k b u q
  slot:=fun b u q _ _ _=>⟨u.slots,k b u q⟩
  free:=fun b u q n _=>by rw [z0A (Nat.ne_of_lt (Nat.lt_of_lt_of_le (Heap.lt_size q) hp))]; exact n
  there:=fun b u q _=>⟨u,k b u q⟩
  tups:=fun b xs q=>by rw [z0A (z1o q hn)]; exact q
  frzs:=fun b u xs q=>by rw [z0A (z1o q hn)]; exact q
  tbls:=fun b ps q=>⟨#[],by rw [z0A (z1o q hn),q]; simp⟩
theorem Un.write (mu : Mut (H x)) (he : e=x∨H e=some (.own x)) (k : ∀ b u,b≠e->h.get? b=some u->h'.get? b=some u) (heo : ∃ u,h'.get? e=some u) : Un fs ex H (upd H x o) h h':=by
  have hx : ∀ b,H b=none->b≠x:=fun b n z=>by subst z; rw [n] at mu; exact mu
  have hb : ∀ b,H b=none->b≠e:=fun b n z=>by
    subst z
    rcases he with r | r
    · exact hx b n r
    · rw [n] at r; cases r
  have hm : ∀ b u,H b=some u->¬ Mut (some u)->b≠x:=fun b u q nm z=>by subst z; rw [q] at mu; exact nm mu
  refine ⟨fun b u q n _ _=>k b u (hb b n) q,fun b u q n _ _=>⟨u.slots,k b u (hb b n) q⟩,fun b u q n _=>by rw [z0A (hx b n)]; exact n,fun b u q _=>?_,
    fun b xs q=>by rw [z0A (hm b _ q fun z=>z)]; exact q,fun b u xs q=>by rw [z0A (hm b _ q fun z=>z)]; exact q,fun b ps q=>⟨#[],by rw [z0A (hm b _ q fun z=>z),q]; simp⟩⟩
  by_cases hbe : b=e
  · subst hbe; exact heo
  · exact ⟨u,k b u hbe q⟩
end
noncomputable def trk (h : Heap) (H : Hp) : List Addr:=(List.range h.objs.size).filter fun a=>(H a).isSome
noncomputable def y5x (h : Heap) (H : Hp) : Heap:=PySem.W.hideAll h (trk h H)
theorem y4f (h : Heap) (H : Hp) : (y5x h H).objs.size=h.objs.size:=PySem.W.hideAll_size _ _
theorem y5H {h : Heap} {H : Hp} {b : Addr} {o : Obj} (e : h.get? b=some o) (n : H b=none) : (y5x h H).get? b=some o:=
  PySem.W.hideAll_get _ e fun hm=>by
    have q : (H b).isSome=true:=(List.mem_filter.mp hm).2
    rw [n] at q; simp at q
theorem of_hidT {h : Heap} {H : Hp} {b : Addr} {o : Obj} (e : (y5x h H).get? b=some o) : h.get? b=some o∧H b=none:=by
  have e' : h.get? b=some o:=PySem.W.of_hideAll (trk h H) e
  refine ⟨e',?_⟩
  cases q : H b with
  | none=>rfl
  | some x=>
    have hm : b∈trk h H:=List.mem_filter.mpr ⟨List.mem_range.mpr (Heap.lt_size e'),by simp [q]⟩
    have z : (y5x h H).get? b=none:=PySem.W.hideAll_none (trk h H) hm
    rw [z] at e; cases e
noncomputable def allNews (g h : Heap) (L : Addr) : List (Addr × Obj):=(List.range h.objs.size).filterMap fun a=>if a=L∨(g.get? a).isSome=true then none else (h.get? a).map fun o=>(a,o)
noncomputable def rest (g h : Heap) (L d : Addr) : List (Addr × Obj):=(allNews g h L).filter fun p=>decide (p.1≠d)
end L2
namespace L2
open PySem PySem.Spec PyProof.Rows
structure Mod (K : PySem.W.Frag) (mg : Str->Option Value) (base : Heap) : Prop where
  kin : K.In base
  glob : base.Ns mainGlobals mg
  blt : ∃ mb,base.Ns builtinsNs mb∧∀ x : Str,x ≠ "__name__" → mb x=bootBuiltins x
  nolimit : base.NoLimit
structure Cx where
  prog : Program
  w : World
  K : PySem.W.Frag
  mg : Str->Option Value
  base : Heap
  A : Around
  N : List Str
  s₀ : Shared
  H₀ : Hp
  env : Env
  outer : List Env
  stack : List Env
  ex : List Addr
  fn : Str->Bool
  calm : Bool
  pn : List (Addr × Obj)
  xe : Value->Shared->Prop
noncomputable def frs (l : List Env) : List Addr:=l.filterMap (·.frame)
noncomputable abbrev Cx.fs (X : Cx) : List Addr:=frs X.outer
noncomputable def Vis (sc : Scope) (x : Str) : Prop:=sc.names.lookup x=some .local∨sc.names.lookup x=some .cell∨sc.names.lookup x=some .free
noncomputable def Loc (sc : Scope) (x : Str) : Prop:=sc.names.lookup x=some .local∨sc.names.lookup x=some .cell
noncomputable def Look (env : Env) (h : Heap) (m : Str->Option Value) (x : Str) (u : Value) : Prop:=
  (env.kindOf x=some .local∧m x=some u)∨((env.kindOf x=some .cell∨env.kindOf x=some .free)∧∃ c,env.cells.lookup x=some c∧h.IsCell c (some u))
structure Cx.Ok (X : Cx) : Prop where
  mod : Mod X.K X.mg X.base
  kind : X.env.scope.kind = .function
  glob : X.env.globals=mainGlobals
  blt : X.env.builtins=builtinsNs
  above : X.s₀.heap.objs.size≤X.env.locals
  inj : ∀ x y c,X.env.cells.lookup x=some c->X.env.cells.lookup y=some c->x=y
  has : ∀ x,(X.env.kindOf x=some .cell∨X.env.kindOf x=some .free)->∃ c,X.env.cells.lookup x=some c
  cab : ∀ x c,X.fn x=true->X.env.cells.lookup x=some c->X.s₀.heap.objs.size≤c
  hd : X.calm=true->X.A.handled=none
  frames : X.A.frames=some X.stack
  stk : X.stack=X.outer∨(X.stack=X.env :: X.outer∧X.env.frame=some X.env.locals)
  exf : ∀ b∈X.ex,b≠X.env.locals∧∀ x c,X.env.cells.lookup x=some c->c≠b
  bs : ∀ b o,X.base.get? b=some o->X.s₀.heap.get? b=some o∧X.H₀ b=none
  bsz : X.base.objs.size≤X.s₀.heap.objs.size
  noex : ∀ b o,X.base.get? b=some o->b ∉ X.ex
  exfs : ∀ b∈X.ex,b ∉ X.fs
  funs : X.s₀.heap.FunFrames X.base X.outer
  frf : ∀ b∈X.fs,X.H₀ b=none
structure Inv (X : Cx) (pins : List (Addr × Obj)) (σ : List (Option V)) (H : Hp) (s : Shared) : Prop where
  ok : X.Ok
  os : s.os=X.s₀.os
  bare : AllBare s.gens
  base : Un X.fs X.ex X.H₀ H X.s₀.heap s.heap
  loc : ∃ m,s.heap.Ns X.env.locals m∧∀ (i : Nat) (x : Str) (v : V),X.N[i]? = some x->σ[i]? = some (some v)->Vis X.env.scope x->∃ u,RelV v u∧Look X.env s.heap m x u
  cell : ∀ x c,X.env.cells.lookup x=some c->∃ v,s.heap.IsCell c v
  free : H X.env.locals=none
  freeC : ∀ x c,X.env.cells.lookup x=some c->H c=none
  pin : ∀ p∈X.pn ++ pins,s.heap.get? p.1=some p.2∧H p.1=none∧p.1≠X.env.locals∧p.1 ∉ X.fs∧∀ v,p.2.data≠.cell v
  hok : HOk X.prog X.w H s.heap
  len : σ.length=X.N.length
section
variable {X : Cx} {pins : List (Addr × Obj)} {σ : List (Option V)} {H H' : Hp} {s : Shared} {h' : Heap}
theorem Cx.Ok.nofr (ok : X.Ok) {b : Addr} {o : Obj} (e : X.base.get? b=some o) : b ∉ X.fs:=fun hb=>by
  have:=(ok.funs.mem hb).1
  rw [e] at this; cases this
theorem Inv.bs (I : Inv X pins σ H s) : ∀ b o,X.base.get? b=some o->s.heap.get? b=some o∧H b=none:=fun b o e=>
  ⟨I.base.keep b o (I.ok.bs b o e).1 (I.ok.bs b o e).2 (I.ok.nofr e) (I.ok.noex b o e),I.base.free b o (I.ok.bs b o e).1 (I.ok.bs b o e).2 (I.ok.noex b o e)⟩
theorem Inv.bk (I : Inv X pins σ H s) : ∀ b o,X.base.get? b=some o->s.heap.get? b=some o:=fun b o e=>(I.bs b o e).1
theorem Inv.mod (I : Inv X pins σ H s) : Mod X.K X.mg X.base:=I.ok.mod
theorem Inv.kIn (I : Inv X pins σ H s) : X.K.In s.heap:=I.ok.mod.kin.keeps I.bk
theorem Inv.lt (I : Inv X pins σ H s) : X.env.locals < s.heap.objs.size:=let ⟨_,hn,_⟩:=I.loc; hn.lt
theorem Inv.sz (I : Inv X pins σ H s) : X.s₀.heap.objs.size≤s.heap.objs.size:=Nat.le_trans I.ok.above (Nat.le_of_lt I.lt)
theorem Inv.nofs (I : Inv X pins σ H s) {a : Addr} (h : s.heap.objs.size≤a) : a ∉ X.fs:=fun hb=>by
  obtain ⟨_,o,ho,_⟩:=I.ok.funs.mem hb
  exact absurd (Nat.lt_of_lt_of_le (Heap.lt_size ho) (Nat.le_trans I.sz h)) (Nat.lt_irrefl _)
theorem Inv.cne (I : Inv X pins σ H s) : ∀ x c,X.env.cells.lookup x=some c->c≠X.env.locals:=fun x c e z=>by
  obtain ⟨v,o,ho,hd⟩:=I.cell x c e
  obtain ⟨m,⟨o',es,ep,ho',hd',_⟩,_⟩:=I.loc
  rw [z,ho'] at ho; cases ho; rw [hd'] at hd; cases hd
theorem Inv.funs (I : Inv X pins σ H s) : s.heap.FunFrames X.base X.outer:=by
  have all : ∀ (l : List Env),(∀ b∈frs l,b∈X.fs)->X.s₀.heap.FunFrames X.base l->s.heap.FunFrames X.base l:=by
    intro l
    induction l with
    | nil=>intro _ _; trivial
    | cons env r ih=>
      intro hs hl
      obtain ⟨hk,⟨L,o,hf,hn,ho,hd⟩,hr⟩:=hl
      have hL : L∈X.fs:=hs L (by unfold frs; rw [List.filterMap_cons,hf]; exact List.mem_cons_self)
      obtain ⟨sl,e⟩:=I.base.slot L o ho (I.ok.frf L hL) hL fun z=>I.ok.exfs L z hL
      exact ⟨hk,⟨L,_,hf,hn,e,hd⟩,ih (fun b hb=>hs b (by unfold frs; rw [List.filterMap_cons,hf]; exact List.mem_cons_of_mem _ hb)) hr⟩
  exact all X.outer (fun _ hb=>hb) I.ok.funs
theorem Inv.stack (I : Inv X pins σ H s) : s.heap.FunFrames X.base X.stack:=by
  rcases I.ok.stk with e | ⟨e,hf⟩
  · rw [e]; exact I.funs
  · rw [e]
    obtain ⟨m,hn,_⟩:=I.loc
    refine .cons (by rw [I.ok.kind]; decide) hf hn ?_ I.funs
    exact Heap.get?_none_of_le (Nat.le_trans I.ok.bsz I.ok.above)
theorem Inv.stkSub (I : Inv X pins σ H s) : ∀ b∈frs X.stack,b∈X.env.locals :: X.fs:=fun b hb=>by
  rcases I.ok.stk with e | ⟨e,hf⟩
  · rw [e] at hb; exact List.mem_cons_of_mem _ hb
  · rw [e] at hb
    unfold frs at hb
    rw [List.filterMap_cons,hf] at hb
    exact hb
theorem Inv.stkFree (I : Inv X pins σ H s) : ∀ b∈frs X.stack,H b=none:=fun b hb=>by
  rcases List.mem_cons.mp (I.stkSub b hb) with e | hb
  · rw [e]; exact I.free
  · obtain ⟨_,o,ho,_⟩:=I.ok.funs.mem hb
    exact I.base.free b o ho (I.ok.frf b hb) fun z=>I.ok.exfs b z hb
theorem Inv.step {g' : Array GenState} {t' : Nat} {d' : Drawn} {ch : List Addr} (I : Inv X pins σ H s)
    (hch : ∀ b∈ch,(b∈X.ex∨X.s₀.heap.objs.size≤b)∧b≠X.env.locals∧(∀ x c,X.env.cells.lookup x=some c->c≠b)∧∀ p∈X.pn ++ pins,p.1≠b)
    (keep : ∀ b o,b≠X.env.locals->b ∉ X.fs->b ∉ ch->s.heap.get? b=some o->H b=none->h'.get? b=some o)
    (slot : ∀ b o,b≠X.env.locals->b∈X.fs->b ∉ ch->s.heap.get? b=some o->H b=none->∃ sl,h'.get? b=some { o with slots:=sl }) (free : ∀ b o,b ∉ ch->s.heap.get? b=some o->H b=none->H' b=none)
    (there : ∀ b o,b ∉ ch->s.heap.get? b=some o->∃ o',h'.get? b=some o')
    (tups : ∀ b xs,H b=some (.tup xs)->H' b=some (.tup xs)) (frzs : ∀ b o u,H b=some (.frz o u)->H' b=some (.frz o u)) (tbls : ∀ b ps,H b=some (.tbl ps)->∃ more,H' b=some (.tbl (ps ++ more)))
    (ns : ∀ m,s.heap.Ns X.env.locals m->h'.Ns X.env.locals m) (hok : HOk X.prog X.w H' h') (hg : AllBare g') :
    Inv X pins σ H' { s with heap:=h',gens:=g',drawn:=d',toks:=t' }:=by
  have neL : ∀ b o,X.s₀.heap.get? b=some o->b≠X.env.locals:=fun b o e=>Nat.ne_of_lt (Nat.lt_of_lt_of_le (Heap.lt_size e) I.ok.above)
  have neC : ∀ b o,X.s₀.heap.get? b=some o->b ∉ X.ex->b ∉ ch:=fun b o e hx hb=>by
    rcases (hch b hb).1 with z | z
    · exact hx z
    · exact absurd (Nat.lt_of_lt_of_le (Heap.lt_size e) z) (Nat.lt_irrefl _)
  have cellK : ∀ x c,X.env.cells.lookup x=some c->∀ v,s.heap.IsCell c v->h'.IsCell c v:=fun x c e v z_=>by
    obtain ⟨o,ho,hd⟩:=z_
    have nch : c ∉ ch:=fun z=>(hch c z).2.2.1 x c e rfl
    by_cases hc : c∈X.fs
    · obtain ⟨sl,q⟩:=slot c o (I.cne x c e) hc nch ho (I.freeC x c e)
      exact ⟨_,q,hd⟩
    · exact ⟨o,keep c o (I.cne x c e) hc nch ho (I.freeC x c e),hd⟩
  refine ⟨I.ok,I.os,hg,⟨fun b o e n hb hx=>?_,fun b o e n hb hx=>?_,fun b o e n hx=>?_,fun b o e hx=>?_,fun b xs e=>tups b xs (I.base.tups b xs e),fun b o xs e=>frzs b o xs (I.base.frzs b o xs e),fun b ps e=>?_⟩,?_,fun x c e=>?_,?_,fun x c e=>?_,fun p hp=>?_,hok,I.len⟩
  · exact keep b o (neL b o e) hb (neC b o e hx) (I.base.keep b o e n hb hx) (I.base.free b o e n hx)
  · obtain ⟨sl,e1⟩:=I.base.slot b o e n hb hx
    obtain ⟨sl',e2⟩:=slot b _ (neL b o e) hb (neC b o e hx) e1 (I.base.free b o e n hx)
    exact ⟨sl',e2⟩
  · obtain ⟨o',e1⟩:=I.base.there b o e hx
    exact free b o' (neC b o e hx) e1 (I.base.free b o e n hx)
  · obtain ⟨o',e1⟩:=I.base.there b o e hx
    exact there b o' (neC b o e hx) e1
  · obtain ⟨m1,e1⟩:=I.base.tbls b ps e
    obtain ⟨m2,e2⟩:=tbls b _ e1
    exact ⟨m1 ++ m2,by rw [e2,Array.append_assoc]⟩
  · obtain ⟨m,hn,hl⟩:=I.loc
    refine ⟨m,ns m hn,fun i x v e1 e2 e3=>?_⟩
    obtain ⟨u,r,l⟩:=hl i x v e1 e2 e3
    refine ⟨u,r,?_⟩
    rcases l with l | ⟨k,c,e,z⟩
    · exact .inl l
    · exact .inr ⟨k,c,e,cellK x c e _ z⟩
  · obtain ⟨v,z⟩:=I.cell x c e
    exact ⟨v,cellK x c e v z⟩
  · obtain ⟨m,⟨o,_,_,ho,_⟩,_⟩:=I.loc
    exact free _ o (fun z=>(hch _ z).2.1 rfl) ho I.free
  · obtain ⟨v,o,ho,hd⟩:=I.cell x c e
    exact free c o (fun z=>(hch c z).2.2.1 x c e rfl) ho (I.freeC x c e)
  · obtain ⟨e,n,ne,nf,d⟩:=I.pin p hp
    have nch : p.1 ∉ ch:=fun z=>(hch p.1 z).2.2.2 p hp rfl
    exact ⟨keep p.1 p.2 ne nf nch e n,free p.1 p.2 nch e n,ne,nf,d⟩
theorem Inv.un {t' : Nat} (I : Inv X pins σ H s) (u : Un X.fs [] H H' s.heap h') (hok : HOk X.prog X.w H' h') : Inv X pins σ H' { s with heap:=h',toks:=t' }:=by
  obtain ⟨m,⟨o,es,ep,ho,r⟩,_⟩:=id I.loc
  obtain ⟨sl,hL⟩:=u.any ho I.free (by simp)
  exact I.step (g':=s.gens) (d':=s.drawn) (ch:=[]) (fun _ z=>nomatch z) (fun b o _ hb _ e n=>u.keep b o e n hb (by simp)) (fun b o _ hb _ e n=>u.slot b o e n hb (by simp)) (fun b o _ e n=>u.free b o e n (by simp)) (fun b o _ e=>u.there b o e (by simp)) u.tups u.frzs u.tbls (fun m' hm=>by
    obtain ⟨o',es',ep',ho',r'⟩:=hm
    rw [ho] at ho'; cases ho'
    exact ⟨_,es',ep',hL,r'⟩) hok I.bare
theorem Inv.call {g' : Array GenState} {t' : Nat} {d' : Drawn} {ch : List Addr} (I : Inv X pins σ H s) (u : Un (frs X.stack) ch H H' s.heap h') (hok : HOk X.prog X.w H' h') (hg : AllBare g')
    (hch : ∀ b∈ch,(b∈X.ex∨X.s₀.heap.objs.size≤b)∧b≠X.env.locals∧(∀ x c,X.env.cells.lookup x=some c->c≠b)∧∀ p∈X.pn ++ pins,p.1≠b) :
    Inv X pins σ H' { s with heap:=h',gens:=g',drawn:=d',toks:=t' }:=by
  obtain ⟨m,⟨o,es,ep,ho,r⟩,_⟩:=id I.loc
  obtain ⟨sl,hL⟩:=u.any ho I.free fun z=>(hch _ z).2.1 rfl
  exact I.step (ch:=ch) hch (fun b o hL hb hc e n=>u.keep b o e n (fun z=>(List.mem_cons.mp (I.stkSub b z)).elim hL hb) hc) (fun b o _ _ hc e n=>u.any e n hc) (fun b o hc e n=>u.free b o e n hc) (fun b o hc e=>u.there b o e hc) u.tups u.frzs u.tbls (fun m' hm=>by
    obtain ⟨o',es',ep',ho',r'⟩:=hm
    rw [ho] at ho'; cases ho'
    exact ⟨_,es',ep',hL,r'⟩) hok hg
theorem Inv.turned {t' : Nat} {it : Addr} (I : Inv X pins σ H s) (k : ∀ b o,b≠it->s.heap.get? b=some o->h'.get? b=some o) (hn : H it=none) (hL : it≠X.env.locals)
    (h1 : it∈X.ex∨X.s₀.heap.objs.size≤it) (h2 : ∀ x c,X.env.cells.lookup x=some c->c≠it) (h3 : ∀ p∈X.pn ++ pins,p.1≠it) : Inv X pins σ H { s with heap:=h',toks:=t' }:=by
  have nit : ∀ b u,H b=some u->b≠it:=fun b u e z=>by rw [z,hn] at e; cases e
  refine I.step (g':=s.gens) (d':=s.drawn) (ch:=[it]) (fun b hb=>?_) (fun b o _ _ hc e _=>k b o (fun z=>hc (by simp [z])) e) (fun b o _ _ hc e _=>⟨o.slots,k b o (fun z=>hc (by simp [z])) e⟩) (fun _ _ _ _ n=>n)
    (fun b o hc e=>⟨o,k b o (fun z=>hc (by simp [z])) e⟩) (fun _ _ e=>e) (fun _ _ _ e=>e) (fun b ps e=>⟨#[],by rw [e]; simp⟩) (fun m hm=>?_) (fun b u e=>?_) I.bare
  · have e : b=it:=by simpa using hb
    subst e
    exact ⟨h1,hL,h2,h3⟩
  · obtain ⟨o,es,ep,ho,r⟩:=hm
    exact ⟨o,es,ep,k _ o (Ne.symm hL) ho,r⟩
  · refine (I.hok b u e).stay (fun c v hc q=>k c v ?_ q) (fun _ q=>q) fun _ _ q=>q
    rcases hc with z | z
    · rw [z]; exact nit b u e
    · exact nit c _ z
theorem Inv.tok (I : Inv X pins σ H s) (t : Nat) : Inv X pins σ H { s with toks:=t }:=I.un (h':=s.heap) (t':=t) Un.refl I.hok
theorem Inv.kept {t' : Nat} (I : Inv X pins σ H s) (k : ∀ b u,s.heap.get? b=some u->h'.get? b=some u) : Inv X pins σ H { s with heap:=h',toks:=t' }:=I.un (Un.kept k) (I.hok.kept k)
theorem Inv.laid {a : Addr} {o : HO} {t' : Nat} (I : Inv X pins σ H s) (k : ∀ b u,s.heap.get? b=some u->h'.get? b=some u) (hp : s.heap.objs.size≤a) (new : ObjOk X.prog X.w (upd H a o) h' a o) :
    Inv X pins σ (upd H a o) { s with heap:=h',toks:=t' }:=I.un (Un.laid k hp (I.hok.fresh hp)) (I.hok.laid k hp new)
theorem Inv.write {x e : Addr} {o : HO} {t' : Nat} (I : Inv X pins σ H s) (mu : Mut (H x)) (he : e=x∨H e=some (.own x)) (k : ∀ b u,b≠e->s.heap.get? b=some u->h'.get? b=some u) (heo : ∃ u,h'.get? e=some u)
    (new : ObjOk X.prog X.w (upd H x o) h' x o) : Inv X pins σ (upd H x o) { s with heap:=h',toks:=t' }:=I.un (Un.write mu he k heo) (I.hok.write mu he k heo new)
theorem Inv.pins_of {pins' : List (Addr × Obj)} (I : Inv X pins σ H s) (h : ∀ p∈pins',s.heap.get? p.1=some p.2∧H p.1=none∧p.1≠X.env.locals∧p.1 ∉ X.fs∧∀ v,p.2.data≠.cell v) : Inv X pins' σ H s:=
  ⟨I.ok,I.os,I.bare,I.base,I.loc,I.cell,I.free,I.freeC,fun p hp=>(List.mem_append.mp hp).elim (fun z=>I.pin p (List.mem_append_left _ z)) (h p),I.hok,I.len⟩
theorem y1p {N : List Str} (hN : N.Nodup) {i j : Nat} {x : Str} (a : N[i]? = some x) (b : N[j]? = some x) : i=j:=by
  obtain ⟨h1,e1⟩:=List.getElem?_eq_some_iff.mp a
  obtain ⟨h2,e2⟩:=List.getElem?_eq_some_iff.mp b
  exact (List.getElem_inj hN).mp (e1.trans e2.symm)
theorem z9E {M : Model} {A : Around} {E : Value->Shared->Prop} {i : Nat} {x : Str} {v : V} {u : Value} {Q : Unit->Shared->Prop} (I : Inv X pins σ H s) (hN : X.N.Nodup) (hi : X.N[i]? = some x) (hx : Loc X.env.scope x) (r : RelV v u)
    (h : ∀ s',Inv X pins (σ.set i (some v)) H s'->(∃ a,Heap.SameBut a s.heap s'.heap∧(a=X.env.locals∨X.env.cells.lookup x=some a))->Q () s') (hf : X.fn x=true∨X.env.scope.names.lookup x=some .local:=by first | exact .inl rfl | exact .inr rfl | assumption) : wpAny M A (storeName X.env x u) Q E s:=by
  obtain ⟨m,hn,hl⟩:=id I.loc
  have hcls : (X.env.scope.kind == .class || (X.env.scope.kind == .module && X.env.locals != X.env.globals))=false:=by rw [I.ok.kind]; rfl
  have hiσ : i < σ.length:=by rw [I.len]; exact (List.getElem?_eq_some_iff.mp hi).1
  have cne:=I.cne
  have tracked : ∀ {a : Addr} {h' : Heap},(∃ o,s.heap.get? a=some o∧H a=none)->Heap.SameBut a s.heap h'->HOk X.prog X.w H h':=fun {a h'} ha hs b ob e=>by
    obtain ⟨_,_,hfree⟩:=ha
    refine (I.hok b ob e).stay (fun c w' hc q=>(hs.2 c ?_).trans q) (fun _ q=>q) fun _ _ q=>q
    rintro rfl
    rcases hc with rfl | hc
    · rw [hfree] at e; cases e
    · rw [hfree] at hc; cases hc
  rcases hx with hk | hk
  · refine wpAny_storeName_local hk hn (fun h' hn' hs=>?_) hcls
    obtain ⟨oL,_,_,hoL,_⟩:=id hn
    refine h _ ⟨I.ok,I.os,I.bare,⟨fun b o e n hb hx=>?_,fun b o e n hb hx=>?_,I.base.free,fun b o e hx=>?_,I.base.tups,I.base.frzs,I.base.tbls⟩,⟨_,hn',fun j y v' e1 e2 e3=>?_⟩,fun y c e=>?_,I.free,I.freeC,fun p hp=>?_,tracked ⟨oL,hoL,I.free⟩ hs,by simpa using I.len⟩ ⟨_,hs,.inl rfl⟩
    · exact (hs.2 b (Nat.ne_of_lt (Nat.lt_of_lt_of_le (Heap.lt_size e) I.ok.above))).trans (I.base.keep b o e n hb hx)
    · obtain ⟨sl,e1⟩:=I.base.slot b o e n hb hx
      exact ⟨sl,(hs.2 b (Nat.ne_of_lt (Nat.lt_of_lt_of_le (Heap.lt_size e) I.ok.above))).trans e1⟩
    · obtain ⟨o',e1⟩:=I.base.there b o e hx
      exact ⟨o',(hs.2 b (Nat.ne_of_lt (Nat.lt_of_lt_of_le (Heap.lt_size e) I.ok.above))).trans e1⟩
    · by_cases hj : j=i
      · subst hj
        rw [hi] at e1; cases e1
        rw [List.getElem?_set_self hiσ] at e2
        cases e2
        exact ⟨u,r,.inl ⟨hk,by simp⟩⟩
      · rw [List.getElem?_set_ne (Ne.symm hj)] at e2
        obtain ⟨u',r',q⟩:=hl j y v' e1 e2 e3
        refine ⟨u',r',?_⟩
        rcases q with ⟨k,e⟩ | ⟨k,c,e,z⟩
        · refine .inl ⟨k,?_⟩
          have : y≠x:=fun e=>hj (y1p hN e1 (e ▸ hi))
          simp [this,e]
        · exact .inr ⟨k,c,e,z.sameBut hs (cne y c e)⟩
    · obtain ⟨w',z⟩:=I.cell y c e
      exact ⟨w',z.sameBut hs (cne y c e)⟩
    · obtain ⟨e,n,ne,nf,d⟩:=I.pin p hp
      exact ⟨(hs.2 p.1 ne).trans e,n,ne,nf,d⟩
  · have hfn : X.fn x=true:=by
      rcases hf with z | z
      · exact z
      · rw [z] at hk; cases hk
    obtain ⟨c,hc⟩:=I.ok.has x (.inl hk)
    obtain ⟨w',z⟩:=I.cell x c hc
    refine wpAny_storeName_cell I.ok.kind hk hc z (fun h' hc' hs=>?_)
    obtain ⟨oc,hoc,hocd⟩:=id z
    refine h { s with heap:=h' } ⟨I.ok,I.os,I.bare,⟨fun b o e n hb hx=>?_,fun b o e n hb hx=>?_,I.base.free,fun b o e hx=>?_,I.base.tups,I.base.frzs,I.base.tbls⟩,⟨m,hn.sameBut hs (Ne.symm (cne x c hc)),fun j y v' e1 e2 e3=>?_⟩,fun y c' e=>?_,I.free,I.freeC,fun p hp=>?_,tracked ⟨oc,hoc,I.freeC x c hc⟩ hs,by simpa using I.len⟩ ⟨c,hs,.inr hc⟩
    · exact (hs.2 b (Nat.ne_of_lt (Nat.lt_of_lt_of_le (Heap.lt_size e) (I.ok.cab x c hfn hc)))).trans (I.base.keep b o e n hb hx)
    · obtain ⟨sl,e1⟩:=I.base.slot b o e n hb hx
      exact ⟨sl,(hs.2 b (Nat.ne_of_lt (Nat.lt_of_lt_of_le (Heap.lt_size e) (I.ok.cab x c hfn hc)))).trans e1⟩
    · obtain ⟨o',e1⟩:=I.base.there b o e hx
      exact ⟨o',(hs.2 b (Nat.ne_of_lt (Nat.lt_of_lt_of_le (Heap.lt_size e) (I.ok.cab x c hfn hc)))).trans e1⟩
    · by_cases hj : j=i
      · subst hj
        rw [hi] at e1; cases e1
        rw [List.getElem?_set_self hiσ] at e2
        cases e2
        exact ⟨u,r,.inr ⟨.inl hk,c,hc,hc'⟩⟩
      · rw [List.getElem?_set_ne (Ne.symm hj)] at e2
        obtain ⟨u',r',q⟩:=hl j y v' e1 e2 e3
        refine ⟨u',r',?_⟩
        rcases q with q | ⟨k,c',e,z'⟩
        · exact .inl q
        · refine .inr ⟨k,c',e,z'.sameBut hs ?_⟩
          rintro rfl
          exact hj (y1p hN e1 (I.ok.inj _ _ _ e hc ▸ hi))
    · by_cases hcc : c'=c
      · subst hcc; exact ⟨_,hc'⟩
      · obtain ⟨w2,z2⟩:=I.cell y c' e
        exact ⟨w2,z2.sameBut hs hcc⟩
    · obtain ⟨e,n,ne,nf,d⟩:=I.pin p hp
      refine ⟨(hs.2 p.1 ?_).trans e,n,ne,nf,d⟩
      intro q
      rw [q,hoc] at e
      have q' : oc=p.2:=Option.some.inj e
      exact d w' (by rw [← q']; exact hocd)
theorem y0O {M : Model} {A : Around} {E : Value->Shared->Prop} {i : Nat} {x : Str} {v : V} {u : Value} {Q : Unit->Shared->Prop} (I : Inv X pins σ H s) (hN : X.N.Nodup) (hi : X.N[i]? = some x) (hx : Loc X.env.scope x) (r : RelV v u)
    (h : ∀ s',Inv X pins (σ.set i (some v)) H s'->Q () s') (hf : X.fn x=true∨X.env.scope.names.lookup x=some .local:=by first | exact .inl rfl | exact .inr rfl | assumption) : wpAny M A (storeName X.env x u) Q E s:=
  z9E I hN hi hx r (fun s' I' _=>h s' I') hf
theorem Inv.call' {s' : Shared} {ch : List Addr} (I : Inv X pins σ H s) (ho : s'.os=s.os) (u : Un (frs X.stack) ch H H' s.heap s'.heap) (hok : HOk X.prog X.w H' s'.heap) (hg : AllBare s'.gens)
    (hch : ∀ b∈ch,(b∈X.ex∨X.s₀.heap.objs.size≤b)∧b≠X.env.locals∧(∀ x c,X.env.cells.lookup x=some c->c≠b)∧∀ p∈X.pn ++ pins,p.1≠b) : Inv X pins σ H' s':=by
  obtain ⟨h',g',d',t',o'⟩:=s'
  have e : o'=s.os:=ho
  subst e
  exact I.call (g':=g') (t':=t') (d':=d') u hok hg hch
end
noncomputable abbrev XK:=Value->Option Addr->Hp->Prop
noncomputable abbrev St:=List (Option V)
noncomputable abbrev VK:=V->Hp->Prop
noncomputable abbrev TE:=St->Hp->VK->Prop
noncomputable abbrev TT:=St->Hp->(Bool->Hp->Prop)->Prop
noncomputable abbrev TA:=St->Hp->(List V->Hp->Prop)->Prop
structure Ends where
  nx : St->Hp->Prop
  rt : VK
  bk : St->Hp->Prop:=fun _ _=>False
  ct : St->Hp->Prop:=fun _ _=>False
noncomputable abbrev TS:=Ends->St->Hp->Prop
noncomputable def EP (X : Cx) (pins : List (Addr × Obj)) (σ : St) (Q : VK) (u : Value) (s' : Shared) : Prop:=∃ v H',Inv X pins σ H' s'∧RelV v u∧Q v H'
noncomputable def TP (X : Cx) (pins : List (Addr × Obj)) (σ : St) (Q : Bool->Hp->Prop) (b : Bool) (s' : Shared) : Prop:=∃ H',Inv X pins σ H' s'∧Q b H'
noncomputable def AP (X : Cx) (pins : List (Addr × Obj)) (σ : St) (Q : List V->Hp->Prop) (us : List Value) (s' : Shared) : Prop:=∃ vs H',Inv X pins σ H' s'∧Vals vs us∧Q vs H'
noncomputable def SP (X : Cx) (pins : List (Addr × Obj)) (D : Ends) (f : Flow) (s' : Shared) : Prop:=
  match f with
  | .next=>∃ σ' H',Inv X pins σ' H' s'∧D.nx σ' H'
  | .brk=>∃ σ' H',Inv X pins σ' H' s'∧D.bk σ' H'
  | .cont=>∃ σ' H',Inv X pins σ' H' s'∧D.ct σ' H'
  | .ret u=>∃ v σ' H',Inv X pins σ' H' s'∧RelV v u∧D.rt v H'
noncomputable def PE (X : Cx) (e : Expr) (t : TE) : Prop:=
  ∀ (pins : List (Addr × Obj)) (s : Shared) (σ : St) (H : Hp) (Q : VK),Inv X pins σ H s->t σ H Q->wpAny (model X.prog X.w) X.A (eval e X.env) (EP X pins σ Q) X.xe s
noncomputable def PT (X : Cx) (e : Expr) (t : TT) : Prop:=
  ∀ (pins : List (Addr × Obj)) (s : Shared) (σ : St) (H : Hp) (Q : Bool->Hp->Prop),Inv X pins σ H s->t σ H Q->wpAny (model X.prog X.w) X.A (isTrue e X.env (eval e X.env)) (TP X pins σ Q) X.xe s
noncomputable def PW (X : Cx) (e : Expr) (t : TT) : Prop:=
  ∀ (whole : Sem Value) (pins : List (Addr × Obj)) (s : Shared) (σ : St) (H : Hp) (Q : Bool->Hp->Prop),Inv X pins σ H s->t σ H Q->wpAny (model X.prog X.w) X.A (isTrue e X.env whole) (TP X pins σ Q) X.xe s
theorem PW.pt {X : Cx} {e : Expr} {t : TT} (h : PW X e t) : PT X e t:=h _
noncomputable def PA (X : Cx) (es : List Expr) (t : TA) : Prop:=
  ∀ (pos : Pos) (pins : List (Addr × Obj)) (s : Shared) (σ : St) (H : Hp) (Q : List V->Hp->Prop),Inv X pins σ H s->t σ H Q->wpAny (model X.prog X.w) X.A (spliced (backTo pos (starEach es X.env))) (AP X pins σ Q) X.xe s
noncomputable def PS (X : Cx) (st : Stmt) (t : TS) : Prop:=
  ∀ (pins : List (Addr × Obj)) (s : Shared) (σ : St) (H : Hp) (D : Ends),Inv X pins σ H s->t D σ H->wpAny (model X.prog X.w) X.A (exec st X.env) (SP X pins D) X.xe s
noncomputable def PSs (X : Cx) (st : List Stmt) (t : TS) : Prop:=
  ∀ (pins : List (Addr × Obj)) (s : Shared) (σ : St) (H : Hp) (D : Ends),Inv X pins σ H s->t D σ H->wpAny (model X.prog X.w) X.A (execs st X.env) (SP X pins D) X.xe s
theorem thn {α : Type} {t : Sem α} {Q Q' : α->Shared->Prop} {M : Model} {A : Around} {E : Value->Shared->Prop} {s : Shared} (h : wpAny M A t Q E s) (hQ : ∀ a s,Q a s->Q' a s) : wpAny M A t Q' E s:=wpAny_mono h hQ fun _ _ x=>x
end L2
namespace L2
open PySem PySem.Spec PyProof.Rows
section
variable {X : Cx}
noncomputable def z9O (i : Nat) : TE:=fun σ H Q=>∃ v,σ[i]? = some (some v)∧Q v H
noncomputable def tC (v : V) : TE:=fun _ H Q=>Q v H
theorem pe_var {i : Nat} {x : Str} {pos : Pos} (hN : X.N[i]? = some x) (hv : Vis X.env.scope x) (hd : (x == ("__debug__" : Str))=false:=by decide) (hcd : (x == ("__classdict__" : Str))=false:=by decide) : PE X (.Name x pos) (z9O i):=by
  intro pins s σ H Q I h
  obtain ⟨v,e,h⟩:=h
  obtain ⟨m,hn,hl⟩:=I.loc
  obtain ⟨u,r,l⟩:=hl i x v hN e hv
  have fin : EP X pins σ Q u s:=⟨v,H,I,r,h⟩
  rcases l with ⟨hk,hm⟩ | ⟨hk,c,hc,hcell⟩
  · exact wpAny_Name (wpAny_loadName_local I.ok.kind hk hn hm fin) hd
  · rcases hk with hk | hk
    · exact wpAny_Name (wpAny_loadName_cell I.ok.kind hk hc hcell fin) hd
    · exact wpAny_Name (wpAny_loadName_free I.ok.kind hk hc hcell fin hcd) hd
theorem pe_int {i j pos} : PE X (.Constant (.int i) j pos) (tC (.int i)):=fun _ _ _ H _ I h=>wpAny_Constant_int ⟨.int i,H,I.tok _,⟨_,rfl⟩,h⟩
theorem pe_bl {b j pos} : PE X (.Constant (.bool b) j pos) (tC (.bl b)):=fun _ _ _ H _ I h=>Constant_bool ⟨.bl b,H,I,rfl,h⟩
theorem pe_non {j pos} : PE X (.Constant .none j pos) (tC .non):=fun _ _ _ H _ I h=>Constant_none ⟨.non,H,I,rfl,h⟩
theorem pe_str {x j pos} : PE X (.Constant (.str x) j pos) (tC (.str x)):=fun _ _ _ H _ I h=>Calls.Constant_str ⟨.str x,H,I.tok _,⟨_,rfl⟩,h⟩
noncomputable def Gl (X : Cx) (x : Str) : Prop:=X.env.kindOf x=some .globalImplicit
theorem ld_glob {E : Value->Shared->Prop} {pins : List (Addr × Obj)} {s : Shared} {σ : St} {H : Hp} {x : Str} {u : Value} {pos : Pos} {Q : Value->Shared->Prop} (I : Inv X pins σ H s) (hg : Gl X x) (hm : X.mg x=some u) (h : Q u s)
    (hd : (x == ("__debug__" : Str))=false:=by decide) : wpAny (model X.prog X.w) X.A (eval (.Name x pos) X.env) Q E s:=
  Calls.Name_function_global I.ok.kind hg (Calls.loadGlobal_global (by rw [I.ok.glob]; exact I.mod.glob.keeps I.bk) hm h) hd
theorem z5e {E : Value->Shared->Prop} {pins : List (Addr × Obj)} {s : Shared} {σ : St} {H : Hp} {x : Str} {u : Value} {pos : Pos} {Q : Value->Shared->Prop} (I : Inv X pins σ H s) (hg : Gl X x) (hm : X.mg x=none) (hv : bootBuiltins x=some u) (h : Q u s)
    (hn : x ≠ "__name__" := by decide) (hd : (x == ("__debug__" : Str))=false:=by decide) : wpAny (model X.prog X.w) X.A (eval (.Name x pos) X.env) Q E s:=by
  obtain ⟨mb,h1,h2⟩:=I.mod.blt
  exact Calls.Name_function_global I.ok.kind hg (Calls.loadGlobal_builtin (by rw [I.ok.glob]; exact I.mod.glob.keeps I.bk) hm (by rw [I.ok.blt]; exact h1.keeps I.bk) ((h2 x hn).trans hv) h) hd
theorem pe_bltn {x : Str} {v : V} {u : Value} {pos : Pos} (hg : Gl X x) (hm : X.mg x=none) (hv : bootBuiltins x=some u) (r : RelV v u) (hn : x ≠ "__name__" := by decide) (hd : (x == ("__debug__" : Str))=false:=by decide) : PE X (.Name x pos) (tC v):=
  fun _ _ _ H _ I h=>z5e I hg hm hv ⟨v,H,I,r,h⟩ hn hd
variable {a b : Expr} {ta tb : TE} {pos : Pos}
noncomputable def PC (X : Cx) (op : CmpOp) (a b : Expr) (t : TE) : Prop:=
  ∀ (pins : List (Addr × Obj)) (s : Shared) (σ : St) (H : Hp) (Q : VK),Inv X pins σ H s->t σ H Q →
    wpAny (model X.prog X.w) X.A (eval a X.env) (fun v s₁=>wpAny (model X.prog X.w) X.A (eval b X.env) (fun u s₂=>wpAny (model X.prog X.w) X.A (compareOp op v u) (EP X pins σ Q) X.xe s₂) X.xe s₁) X.xe s
theorem y6C (b : Expr) {op : CmpOp} (h : op≠.In) (h2 : op≠.NotIn) : behindInMarks op b=false:=by
  have e1 : (op == CmpOp.In)=false:=by cases op <;> first | rfl | exact absurd rfl h
  have e2 : (op == CmpOp.NotIn)=false:=by cases op <;> first | rfl | exact absurd rfl h2
  cases b <;> simp [behindInMarks,e1,e2]
noncomputable def tNotN (ta : TE) : TE:=fun σ H Q=>ta σ H fun x H1=>Q (.bl (!decide (x = .non))) H1
theorem RelV.none_iff {x : V} {v : Value} (r : RelV x v) : (v == Value.none)=decide (x = .non):=by
  cases x with
  | non=>cases r; rfl
  | bl _=>cases r; rfl
  | int _=>obtain ⟨t,rfl⟩:=r; rfl
  | str _=>obtain ⟨t,rfl⟩:=r; rfl
  | byt _=>obtain ⟨t,rfl⟩:=r; rfl
  | flt _=>obtain ⟨t,rfl⟩:=r; rfl
  | ref _=>cases r; rfl
  | ty _=>cases r; rfl
theorem pc_notN {j pos'} (ha : PE X a ta) : PC X .IsNot a (.Constant .none j pos') (tNotN ta):=by
  intro pins s σ H Q I h
  refine thn (ha pins s σ H _ I h) fun v s1 ⟨x,H1,I1,r1,q1⟩=>?_
  exact Constant_none (isnot_none_gen ⟨.bl _,H1,I1,by rw [r1.none_iff]; rfl,q1⟩)
noncomputable def tB (t : TE) : TT:=fun σ H Q=>t σ H fun x H1=>∃ c,x = .bl c∧Q c H1
theorem y7y {op : CmpOp} {t : TE} (h : PC X op a b t) (h1 : behindInMarks op b=false:=by first | exact y6C _ (by decide) (by decide) | rfl) : PT X (.Compare a [op] [b] pos) (tB t):=by
  intro pins s σ H Q I hw
  refine wpAny_isTrue_Compare1 (thn (h pins s σ H _ I hw) fun v s1 h1=>thn h1 fun u s2 h2=>thn h2 fun c s3 ⟨x,H1,I1,r1,q1⟩=>?_) h1
  obtain ⟨d,rfl,q⟩:=q1
  cases r1
  exact wpAny_truthy_bool ⟨H1,I1,q⟩
variable {tA tB' : TT} {rest : List Expr}
noncomputable def tAnd (t u : TT) : TT:=fun σ H Q=>t σ H fun c H1=>if c=true then u σ H1 Q else Q false H1
noncomputable def tOr (t u : TT) : TT:=fun σ H Q=>t σ H fun c H1=>if c=true then Q true H1 else u σ H1 Q
noncomputable def tNot (t : TT) : TT:=fun σ H Q=>t σ H fun c H1=>Q (!c) H1
theorem pw_and1 (ha : PT X a tA) : PW X (.BoolOp .And [a] pos) tA:=by
  intro wh pins s σ H Q I h
  refine isTrue_and (thn (ha pins s σ H Q I h) fun c s1 e=>?_)
  cases c with
  | true=>exact isTrue_and_nil e
  | false=>exact e
theorem pw_or1 (ha : PT X a tA) : PW X (.BoolOp .Or [a] pos) tA:=by
  intro wh pins s σ H Q I h
  refine isTrue_or (thn (ha pins s σ H Q I h) fun c s1 e=>?_)
  cases c with
  | false=>exact isTrue_or_nil e
  | true=>exact e
theorem pw_and (ha : PT X a tA) (hb : PW X (.BoolOp .And (b :: rest) pos) tB') : PW X (.BoolOp .And (a :: b :: rest) pos) (tAnd tA tB'):=by
  intro wh pins s σ H Q I h
  refine isTrue_and (thn (ha pins s σ H _ I h) fun c s1 ⟨H1,I1,q1⟩=>?_)
  cases c with
  | true=>exact hb wh pins s1 σ H1 Q I1 q1
  | false=>exact ⟨H1,I1,q1⟩
theorem pw_or (ha : PT X a tA) (hb : PW X (.BoolOp .Or (b :: rest) pos) tB') : PW X (.BoolOp .Or (a :: b :: rest) pos) (tOr tA tB'):=by
  intro wh pins s σ H Q I h
  refine isTrue_or (thn (ha pins s σ H _ I h) fun c s1 ⟨H1,I1,q1⟩=>?_)
  cases c with
  | true=>exact ⟨H1,I1,q1⟩
  | false=>exact hb wh pins s1 σ H1 Q I1 q1
theorem pt_not (ha : PT X a tA) : PT X (.UnaryOp .Not a pos) (tNot tA):=by
  intro pins s σ H Q I h
  exact isTrue_not (ha pins s σ H (fun c H1=>Q (!c) H1) I h)
noncomputable def tAndV (ta tb : TE) : TE:=fun σ H Q=>ta σ H fun x H1=>∃ c,x = .bl c∧if c=true then tb σ H1 Q else Q (.bl false) H1
noncomputable def tNotV (ta : TE) : TE:=fun σ H Q=>ta σ H fun x H1=>∃ c,x = .bl c∧Q (.bl (!c)) H1
theorem pe_one {op} {t : TE} (h : PE X a t) : PE X (.BoolOp op [a] pos) t:=fun pins s σ H Q I hw=>BoolOp_one (h pins s σ H Q I hw)
theorem pe_and (ha : PE X a ta) (hb : PE X (.BoolOp .And (b :: rest) pos) tb) : PE X (.BoolOp .And (a :: b :: rest) pos) (tAndV ta tb):=by
  intro pins s σ H Q I h
  refine BoolOp_and (thn (ha pins s σ H _ I h) fun v s1 ⟨x,H1,I1,r1,q1⟩=>?_)
  obtain ⟨c,rfl,q1⟩:=q1
  cases r1
  refine wpAny_truthy_bool ?_
  cases c with
  | true=>exact hb pins s1 σ H1 Q I1 q1
  | false=>exact ⟨.bl false,H1,I1,rfl,q1⟩
theorem pe_not (ha : PE X a ta) : PE X (.UnaryOp .Not a pos) (tNotV ta):=by
  intro pins s σ H Q I h
  refine UnaryOp_ (thn (ha pins s σ H _ I h) fun v s1 ⟨x,H1,I1,r1,q1⟩=>?_)
  obtain ⟨c,rfl,q1⟩:=q1
  cases r1
  exact not_of (wpAny_truthy_bool ⟨.bl (!c),H1,I1,rfl,q1⟩)
noncomputable def tIf (t : TT) (ta tb : TE) : TE:=fun σ H Q=>t σ H fun c H1=>if c=true then ta σ H1 Q else tb σ H1 Q
theorem y7i {c : Expr} (hc : PT X c tA) (ha : PE X a ta) (hb : PE X b tb) : PE X (.IfExp c a b pos) (tIf tA ta tb):=by
  intro pins s σ H Q I h
  refine wpAny_IfExp (thn (hc pins s σ H _ I h) fun d s1 ⟨H1,I1,q1⟩=>?_)
  cases d with
  | true=>exact ha pins s1 σ H1 Q I1 q1
  | false=>exact hb pins s1 σ H1 Q I1 q1
end
end L2
namespace L2
open PySem PySem.Spec PyProof.Rows
noncomputable def SqL (K : PySem.W.Frag) (H : Hp) (a : Addr) (xs : List V) : Prop:=
  Rd H a (.lst xs) ∨
    ∃ (o : Obj) (its : Array Value) (n : Nat),K.lookup a=some o∧o.cls = .type "list" ∧ o.dict=none∧o.data = .seq its n∧its.size≤sizeLine∧Vals xs its.toList
noncomputable def SqT (K : PySem.W.Frag) (H : Hp) (a : Addr) (xs : List V) : Prop:=
  Rd H a (.tup xs) ∨
    ∃ (o : Obj) (its : Array Value) (n : Nat),K.lookup a=some o∧(o.cls = .type "tuple" ∧ o.dict=none)∧o.data = .seq its n∧its.size≤sizeLine∧Vals xs its.toList
noncomputable def absV : Value->Option V
  | .none=>some .non
  | .bool b=>some (.bl b)
  | .int i _=>some (.int i)
  | .str x _=>some (.str x)
  | .bytes b _=>some (.byt b)
  | .float b _=>some (.flt b)
  | .ref a=>some (.ref a)
  | .type n=>some (.ty n)
  | _=>none
theorem RelV.abs {x : V} {u : Value} (r : RelV x u) : absV u=some x:=by
  cases x with
  | non=>cases r; rfl
  | bl _=>cases r; rfl
  | int _=>obtain ⟨t,rfl⟩:=r; rfl
  | str _=>obtain ⟨t,rfl⟩:=r; rfl
  | byt _=>obtain ⟨t,rfl⟩:=r; rfl
  | flt _=>obtain ⟨t,rfl⟩:=r; rfl
  | ref _=>cases r; rfl
  | ty _=>cases r; rfl
theorem RelV.inj {x y : V} {u : Value} (r : RelV x u) (q : RelV y u) : x=y:=Option.some.inj (r.abs.symm.trans q.abs)
theorem Vals.inj : ∀ {xs ys : List V} {us : List Value},Vals xs us->Vals ys us->xs=ys
  | _,_,_,.nil,.nil=>rfl
  | _,_,_,.cons r t,.cons r' t'=>by rw [r.inj r',Vals.inj t t']
section
variable {X : Cx} {pins : List (Addr × Obj)} {σ : St} {H : Hp} {s : Shared} {a : Addr} {xs ys : List V}
theorem SqL.of {K : PySem.W.Frag} (h : H a=some (.lst xs)) : SqL K H a xs:=.inl (.inl h)
theorem SqT.of {K : PySem.W.Frag} (h : H a=some (.tup xs)) : SqT K H a xs:=.inl (.inl h)
theorem Inv.list (I : Inv X pins σ H s) (h : SqL X.K H a xs) : ∃ its : List Value,Vals xs its∧PlainL s.heap a its.toArray∧xs.length≤sizeLine:=by
  rcases h with h | ⟨o,its,n,hk,hc,hd,hs,hz,r⟩
  · obtain ⟨z,its,n,r,e⟩:=h.ok I.hok
    exact ⟨its,r,⟨_,n,e,rfl,rfl,rfl⟩,z⟩
  · refine ⟨its.toList,r,⟨o,n,I.kIn a o hk,hc,hd,by simpa using hs⟩,?_⟩
    have e:=r.length
    simp only [Array.length_toList] at e
    omega
theorem Inv.tuple (I : Inv X pins σ H s) (h : SqT X.K H a xs) : ∃ its : List Value,Vals xs its∧IsTup s.heap a its.toArray∧xs.length≤sizeLine:=by
  rcases h with h | ⟨o,its,n,hk,hc,hs,hz,r⟩
  · obtain ⟨z,its,r,p⟩:=h.ok I.hok
    exact ⟨its,r,p.is,z⟩
  · refine ⟨its.toList,r,⟨o,I.kIn a o hk,hc.1,n,by simpa using hs⟩,?_⟩
    have e:=r.length
    simp only [Array.length_toList] at e
    omega
theorem Inv.list_inj (I : Inv X pins σ H s) (h : SqL X.K H a xs) (h' : SqL X.K H a ys) : xs=ys:=by
  obtain ⟨its,r,⟨o,n,e,_,_,d⟩,_⟩:=I.list h
  obtain ⟨its',r',⟨o',n',e',_,_,d'⟩,_⟩:=I.list h'
  rw [e] at e'; cases e'
  rw [d] at d'
  injection d' with d1 _
  have : its=its':=by simpa using congrArg Array.toList d1
  subst this
  exact r.inj r'
theorem Inv.tuple_inj (I : Inv X pins σ H s) (h : SqT X.K H a xs) (h' : SqT X.K H a ys) : xs=ys:=by
  obtain ⟨its,r,⟨o,e,_,n,d⟩,_⟩:=I.tuple h
  obtain ⟨its',r',⟨o',e',_,n',d'⟩,_⟩:=I.tuple h'
  rw [e] at e'; cases e'
  rw [d] at d'
  injection d' with d1 _
  have : its=its':=by simpa using congrArg Array.toList d1
  subst this
  exact r.inj r'
end
noncomputable abbrev Cx.wish (X : Cx) (E : Value->Shared->Prop) : Cx:={ X with xe:=E }
noncomputable abbrev Cx.nox (X : Cx) : Cx:=X.wish fun _ _=>False
theorem Cx.Ok.wish {X : Cx} (ok : X.Ok) (E : Value->Shared->Prop) : (X.wish E).Ok:=
  ⟨ok.mod,ok.kind,ok.glob,ok.blt,ok.above,ok.inj,ok.has,ok.cab,ok.hd,ok.frames,ok.stk,ok.exf,ok.bs,ok.bsz,ok.noex,ok.exfs,ok.funs,ok.frf⟩
theorem Cx.Ok.unwish {X : Cx} {E : Value->Shared->Prop} (ok : (X.wish E).Ok) : X.Ok:=
  ⟨ok.mod,ok.kind,ok.glob,ok.blt,ok.above,ok.inj,ok.has,ok.cab,ok.hd,ok.frames,ok.stk,ok.exf,ok.bs,ok.bsz,ok.noex,ok.exfs,ok.funs,ok.frf⟩
section
variable {X : Cx} {pins : List (Addr × Obj)} {σ : St} {H : Hp} {s : Shared} {E : Value->Shared->Prop}
theorem Inv.wish (I : Inv X pins σ H s) (E : Value->Shared->Prop) : Inv (X.wish E) pins σ H s:=⟨I.ok.wish E,I.os,I.bare,I.base,I.loc,I.cell,I.free,I.freeC,I.pin,I.hok,I.len⟩
theorem Inv.unwish (I : Inv (X.wish E) pins σ H s) : Inv X pins σ H s:=⟨I.ok.unwish,I.os,I.bare,I.base,I.loc,I.cell,I.free,I.freeC,I.pin,I.hok,I.len⟩
theorem SP.unwish {D : Ends} {f : Flow} {s' : Shared} (h : SP (X.wish E) pins D f s') : SP X pins D f s':=by
  cases f with
  | next=>obtain ⟨σ',H',I,q⟩:=h; exact ⟨σ',H',I.unwish,q⟩
  | brk=>obtain ⟨σ',H',I,q⟩:=h; exact ⟨σ',H',I.unwish,q⟩
  | cont=>obtain ⟨σ',H',I,q⟩:=h; exact ⟨σ',H',I.unwish,q⟩
  | ret u=>obtain ⟨v,σ',H',I,r,q⟩:=h; exact ⟨v,σ',H',I.unwish,r,q⟩
theorem PSs.nox {st : List Stmt} {t : TS} (h : PSs X.nox st t) : PSs X st t:=fun pins s σ H D I hw=>
  wpAny_mono (h pins s σ H D (I.wish _) hw) (fun _ _ q=>q.unwish) fun _ _ z=>False.elim z
end
section
variable {X : Cx} {st : Stmt} {rest : List Stmt} {t u : TS} {e : Expr} {te : TE} {pos : Pos}
noncomputable def tNext : TS:=fun D σ H=>D.nx σ H
noncomputable def tSeq (t u : TS) : TS:=fun D σ H=>t { D with nx:=u D } σ H
theorem pss_nil : PSs X [] tNext:=fun _ _ σ H _ I h=>wpAny_execs_nil ⟨σ,H,I,h⟩
theorem y6p (h1 : PS X st t) (h2 : PSs X rest u) : PSs X (st :: rest) (tSeq t u):=by
  intro pins s σ H D I h
  refine wpAny_execs_cons (thn (h1 pins s σ H { D with nx:=u D } I h) fun f s1 q=>?_)
  cases f with
  | next=>
    obtain ⟨σ',H',I',q⟩:=q
    exact h2 pins s1 σ' H' D I' q
  | ret v=>exact q
  | brk=>exact q
  | cont=>exact q
theorem y0I (h1 : PS X st t) : PSs X [st] t:=by
  intro pins s σ H D I h
  refine wpAny_execs_cons (thn (h1 pins s σ H D I h) fun f s1 q=>?_)
  cases f with
  | next=>exact wpAny_execs_nil q
  | ret v=>exact q
  | brk=>exact q
  | cont=>exact q
theorem Inv.quiet {pins : List (Addr × Obj)} {σ : St} {H : Hp} {s : Shared} (I : Inv X pins σ H s) : interactive X.env=false:=by simp [interactive,I.ok.kind]
noncomputable def tDrop (te : TE) : TS:=fun D σ H=>te σ H fun _ H1=>D.nx σ H1
theorem z7Y (he : PE X e te) (hs : swapsWith e none pos.line X.env=pure false:=by rfl) : PS X (.Expr e pos) (tDrop te):=by
  intro pins s σ H D I h
  exact wpAny_Expr_any (thn (he pins s σ H _ I h) fun v s1 ⟨x,H1,I1,r1,q1⟩=>⟨σ,H1,I1,q1⟩) I.quiet hs
noncomputable def tRet (te : TE) : TS:=fun D σ H=>te σ H D.rt
theorem z7q (he : PE X e te) : PS X (.Return (some e) pos) (tRet te):=by
  intro pins s σ H D I h
  exact wpAny_Return_some (thn (he pins s σ H _ I h) fun v s1 ⟨x,H1,I1,r1,q1⟩=>⟨x,σ,H1,I1,r1,q1⟩)
noncomputable def tIfS (c : TT) (t u : TS) : TS:=fun D σ H=>c σ H fun b H1=>if b=true then t D σ H1 else u D σ H1
theorem ps_if {c : Expr} {a b : List Stmt} {tc : TT} (hc : PT X c tc) (ha : PSs X a t) (hb : PSs X b u) : PS X (.If c a b pos) (tIfS tc t u):=by
  intro pins s σ H D I h
  refine wpAny_If (thn (hc pins s σ H _ I h) fun d s1 ⟨H1,I1,q1⟩=>?_)
  cases d with
  | true=>exact ha pins s1 σ H1 D I1 q1
  | false=>exact hb pins s1 σ H1 D I1 q1
end
noncomputable abbrev TG:=V->St->Hp->(St->Hp->Prop)->Prop
noncomputable abbrev TGs:=List V->St->Hp->(St->Hp->Prop)->Prop
noncomputable def PG (X : Cx) (target : Expr) (t : TG) : Prop:=
  ∀ (pins : List (Addr × Obj)) (s : Shared) (σ : St) (H : Hp) (v : V) (u : Value) (Q : St->Hp->Prop),Inv X pins σ H s->RelV v u->t v σ H Q →
    wpAny (model X.prog X.w) X.A (assign target X.env u) (fun _ s'=>∃ σ' H',Inv X pins σ' H' s'∧Q σ' H') X.xe s
noncomputable def PGs (X : Cx) (ts : List Expr) (t : TGs) : Prop:=
  ∀ (pins : List (Addr × Obj)) (s : Shared) (σ : St) (H : Hp) (vs : List V) (us : List Value) (Q : St->Hp->Prop),Inv X pins σ H s->Vals vs us->t vs σ H Q →
    wpAny (model X.prog X.w) X.A (assignInOrder ((assignEach ts X.env).map (·.2)) us) (fun _ s'=>∃ σ' H',Inv X pins σ' H' s'∧Q σ' H') X.xe s
noncomputable abbrev TSet:=V->V->V->Hp->(Hp->Prop)->Prop
noncomputable def PSet (X : Cx) (t : TSet) : Prop:=
  ∀ (pins : List (Addr × Obj)) (s : Shared) (σ : St) (H : Hp) (o i v : V) (ov iv u : Value) (Q : Hp->Prop),Inv X pins σ H s->RelV o ov->RelV i iv->RelV v u->t o i v H Q →
    wpAny (model X.prog X.w) X.A (setItem ov iv u) (fun _ s'=>∃ H',Inv X pins σ H' s'∧Q H') X.xe s
section
variable {X : Cx} {pos : Pos}
noncomputable def z2N (i : Nat) : TG:=fun v σ H Q=>Q (σ.set i (some v)) H
theorem z0j {i : Nat} {x : Str} (hN : X.N.Nodup) (hi : X.N[i]? = some x) (hx : Loc X.env.scope x) (hf : X.fn x=true∨X.env.scope.names.lookup x=some .local:=by first | exact .inl rfl | exact .inr rfl | assumption) : PG X (.Name x pos) (z2N i):=by
  intro pins s σ H v u Q I r h
  exact wpAny_assign_Name (y0O I hN hi hx r (fun s' I'=>⟨_,H,I',h⟩) hf)
noncomputable def gNil : TGs:=fun vs σ H Q=>vs=[]∧Q σ H
noncomputable def y3q (t : TG) (u : TGs) : TGs:=fun vs σ H Q=>∃ v r,vs=v :: r∧t v σ H fun σ' H'=>u r σ' H' Q
theorem y3g : PGs X [] gNil:=by
  intro pins s σ H vs us Q I r h
  obtain ⟨e,h⟩:=h
  subst e
  cases r
  exact assignInOrder_nil ⟨σ,H,I,h⟩
theorem z6n {e : Expr} {es : List Expr} {t : TG} {u : TGs} (h1 : PG X e t) (h2 : PGs X es u)
    (hs : (assignEach (e :: es) X.env).map (·.2)=assign e X.env :: (assignEach es X.env).map (·.2):=by rfl) : PGs X (e :: es) (y3q t u):=by
  intro pins s σ H vs us Q I r h
  obtain ⟨v,vr,e1,h⟩:=h
  subst e1
  cases r with
  | cons r rr=>
    rw [hs]
    refine assignInOrder_cons (thn (h1 pins s σ H _ _ _ I r h) fun _ s1 ⟨σ1,H1,I1,q1⟩=>?_)
    exact h2 pins s1 σ1 H1 _ _ Q I1 rr q1
noncomputable def gTup (K : PySem.W.Frag) (n : Nat) (t : TGs) : TG:=fun v σ H Q=>∃ a xs,v = .ref a∧SqT K H a xs∧xs.length=n∧t xs σ H Q
theorem y7q {es : List Expr} {k : Nat} {t : TGs} {n : Nat} (hc : X.calm=true) (h : PGs X es t)
    (hn : (assignEach es X.env).length=n:=by rfl) (hst : (assignEach es X.env).findIdx? (·.1)=none:=by rfl) : PG X (.Tuple es k pos) (gTup X.K n t):=by
  intro pins s σ H v u Q I r hw
  obtain ⟨a,xs,e1,hq,hl,hw⟩:=hw
  subst e1
  cases r
  obtain ⟨its,rv,ht,hz⟩:=I.tuple hq
  refine assign_Tuple_tuple (I.ok.hd hc) ht (by simp [hn,← hl,rv.length]) hst fun h' hx=>?_
  have I1 : Inv X pins σ H { s with heap:=h' }:=I.kept (t':=s.toks) fun b o e=>hx b o (Nat.ne_of_lt (Heap.lt_size e)) e
  exact h pins _ σ H xs _ Q I1 (by simpa using rv) hw
noncomputable def gSub (to ti : TE) (t : TSet) : TG:=fun v σ H Q=>to σ H fun o H1=>ti σ H1 fun i H2=>t o i v H2 fun H3=>Q σ H3
theorem y2R {o i : Expr} {to ti : TE} {t : TSet} (ho : PE X o to) (hi : PE X i ti) (hs : PSet X t)
    (ha : ∀ v,assign (.Subscript o i pos) X.env v=(do
      let ov ← holding [v] (eval o X.env)
      let iv ← holding [v,ov] (eval i X.env)
      standAt pos
      holding [v,ov,iv] (setItem ov iv v)
      release [v,ov,iv] []):=by intro _; rfl) : PG X (.Subscript o i pos) (gSub to ti t):=by
  intro pins s σ H v u Q I r h
  rw [ha]
  refine wpAny_bind (wpAny_holding (thn (ho pins s σ H _ I h) fun ov s1 ⟨x,H1,I1,r1,q1⟩=>?_))
  refine wpAny_bind (wpAny_holding (thn (hi pins s1 σ H1 _ I1 q1) fun iv s2 ⟨y,H2,I2,r2,q2⟩=>?_))
  refine wpAny_bind (wpAny_standAt (wpAny_bind (wpAny_holding (thn (hs pins s2 σ H2 x y v ov iv u _ I2 r1 r2 r q2) fun _ s3 ⟨H3,I3,q3⟩=>?_))))
  exact wpAny_release ⟨σ,H3,I3,q3⟩
noncomputable def tAsg (te : TE) (g : TG) : TS:=fun D σ H=>te σ H fun x H1=>g x σ H1 D.nx
theorem y4d {tg e : Expr} {te : TE} {g : TG} (he : PE X e te) (hg : PG X tg g) (hs : swapsWithSole [tg] e pos.line X.env=pure false:=by rfl) (hw : swappedStores [tg] e X.env=pure none:=by rfl)
    (h1 : (assignEach [tg] X.env).map (·.2)=[assign tg X.env]:=by rfl) : PS X (.Assign [tg] e pos) (tAsg te g):=by
  intro pins s σ H D I h
  refine wpAny_Assign_stores (thn (he pins s σ H _ I h) fun v s1 ⟨x,H1,I1,r1,q1⟩=>?_) hs hw
  rw [h1]
  exact thn (hg pins s1 σ H1 x v _ I1 r1 q1) fun _ s2 q=>q
theorem ps_set {i : Nat} {x : Str} {e : Expr} {te : TE} {pos' : Pos} (hN : X.N.Nodup) (hi : X.N[i]? = some x) (hx : Loc X.env.scope x) (he : PE X e te) (hs : swapsWith e (some (.Name x pos')) pos.line X.env=pure false:=by rfl) (hf : X.fn x=true∨X.env.scope.names.lookup x=some .local:=by first | exact .inl rfl | exact .inr rfl | assumption) :
    PS X (.Assign [.Name x pos'] e pos) (tAsg te (z2N i)):=by
  intro pins s σ H D I h
  refine wpAny_Assign_Name (thn (he pins s σ H _ I h) fun v s1 ⟨y,H1,I1,r1,q1⟩=>?_) hs
  exact y0O I1 hN hi hx r1 (fun s2 I2=>⟨_,H1,I2,q1⟩) hf
end
section
variable {X : Cx} {pos : Pos}
noncomputable def tWhile (c : TT) (tb : TS) : TS:=fun D σ H=>∃ W : Nat->St->Hp->Prop,(∃ m,W m σ H)∧∀ m σ H,W m σ H →
  c σ H fun b H1=>if b=true then ∃ N : St->Hp->Prop,(∀ σ' H',N σ' H'->∃ m',m' < m∧W m' σ' H')∧tb { D with nx:=N,ct:=N,bk:=D.nx } σ H1 else D.nx σ H1
theorem y6g {c : Expr} {body : List Stmt} {tc : TT} {tb : TS} (hp : PassesOwn (model X.prog X.w) X.A X.env X.xe) (hc : PT X c tc) (hb : PSs X body tb) : PS X (.While c body [] pos) (tWhile tc tb):=by
  intro pins s σ H D I h
  obtain ⟨W,⟨m0,w0⟩,turn⟩:=h
  refine wpAny_While (codeAny_whileLoop (fun n s'=>∃ σ' H',Inv X pins σ' H' s'∧W n σ' H') ?_ m0 ⟨σ,H,I,w0⟩)
  rintro n s1 ⟨σ1,H1,I1,w1⟩
  refine wpAny_passesOwn hp (thn (hc pins s1 σ1 H1 _ I1 (turn n σ1 H1 w1)) fun b s2 ⟨H2,I2,q2⟩=>?_)
  cases b with
  | true=>
    obtain ⟨N,hN,q2⟩:=q2
    rw [if_pos rfl]
    refine wpAny_passesOwn hp (thn (hb pins s2 σ1 H2 _ I2 q2) fun f s3 q3=>?_)
    cases f with
    | next=>
      obtain ⟨σ3,H3,I3,n3⟩:=q3
      obtain ⟨m',hm,w3⟩:=hN σ3 H3 n3
      exact ⟨m',hm,σ3,H3,I3,w3⟩
    | cont=>
      obtain ⟨σ3,H3,I3,n3⟩:=q3
      obtain ⟨m',hm,w3⟩:=hN σ3 H3 n3
      exact ⟨m',hm,σ3,H3,I3,w3⟩
    | brk=>exact q3
    | ret v=>exact q3
  | false=>
    rw [if_neg Bool.false_ne_true]
    exact wpAny_execs_nil ⟨σ1,H2,I2,q2⟩
end
structure It where
  go : Nat->Hp->Prop
  yld : Nat->Hp->V->Hp->Prop
  stop : Nat->Hp->Prop
noncomputable def y0d (X : Cx) (pins : List (Addr × Obj)) (H : Hp) (b : Addr) : Prop:=
  H b=none∧b≠X.env.locals∧b ∉ X.fs∧(b∈X.ex∨X.s₀.heap.objs.size≤b)∧(∀ x c,X.env.cells.lookup x=some c->c≠b)∧∀ p∈X.pn ++ pins,p.1≠b
theorem Inv.fpOk {X : Cx} {pins : List (Addr × Obj)} {σ : St} {H H' : Hp} {s : Shared} {b : Addr} (I : Inv X pins σ H s) (hb : s.heap.objs.size≤b) (hn : H' b=none) : y0d X pins H' b:=by
  refine ⟨hn,Nat.ne_of_gt (Nat.lt_of_lt_of_le I.lt hb),I.nofs hb,.inr (Nat.le_trans I.sz hb),fun x c e z=>?_,fun p hp z=>?_⟩
  · obtain ⟨v,q⟩:=I.cell x c e
    exact absurd (Nat.lt_of_lt_of_le q.lt (by rw [z]; exact hb)) (Nat.lt_irrefl _)
  · exact absurd (Nat.lt_of_lt_of_le (Heap.lt_size (I.pin p hp).1) (by rw [z]; exact hb)) (Nat.lt_irrefl _)
structure Turn (P : Program) (w : World) (K : PySem.W.Frag) (tg : Expr) (J : It) (fp : List Addr) (it : Addr) (tn : Nat->Heap->Prop) : Prop where
  mem : it∈fp
  obj : ∀ i h,tn i h->∀ b∈fp,∃ o,h.get? b=some o∧∀ v,o.data≠.cell v
  keep : ∀ i h h',tn i h->(∀ b∈fp,∀ o,h.get? b=some o->h'.get? b=some o)->tn i h'
  item : ∀ (X : Cx),X.prog=P->X.w=w->X.K=K->X.calm=true->∀ (i : Nat) (pins : List (Addr × Obj)) (s : Shared) (σ : St) (H : Hp) (E : Value->Shared->Prop),Inv X pins σ H s->(∀ b∈fp,y0d X pins H b)->tn i s.heap->J.go i H →
    wpAny (model P w) X.A (pyNext (.ref it)) (fun r s1=>∃ u,r=some u ∧
      wpAny (model P w) X.A (letOwnedTupleGo tg (.ref it) u) (fun _ s2=>∃ x H',Inv X pins σ H' s2∧RelV x u∧J.yld i H x H'∧tn (i + 1) s2.heap∧∀ b∈fp,H' b=none) E s1) E s
  done : ∀ (X : Cx),X.prog=P->X.w=w->X.K=K->X.calm=true->∀ (i : Nat) (pins : List (Addr × Obj)) (s : Shared) (σ : St) (H : Hp) (E : Value->Shared->Prop),Inv X pins σ H s->(∀ b∈fp,y0d X pins H b)->tn i s.heap->J.stop i H →
    wpAny (model P w) X.A (pyNext (.ref it)) (fun r s1=>r=none∧Inv X pins σ H s1) E s
  self : ∀ (A : Around) (i : Nat) (s : Shared) (Q : Value->Shared->Prop) (E : Value->Shared->Prop),tn i s.heap->Q (.ref it) s->wpAny (model P w) A (pyIter (.ref it)) Q E s
noncomputable abbrev TI:=St->Hp->(It->Hp->Prop)->Prop
noncomputable def PIE (X : Cx) (pins : List (Addr × Obj)) (σ : St) (tg : Expr) (R : It->Hp->Prop) (itv : Value) (s2 : Shared) : Prop:=
  ∃ (it : Addr) (fp : List Addr) (tn : Nat->Heap->Prop) (J : It) (H' : Hp),itv = .ref it∧Inv X pins σ H' s2∧Turn X.prog X.w X.K tg J fp it tn∧tn 0 s2.heap∧(∀ b∈fp,y0d X pins H' b)∧R J H'
noncomputable def PI (X : Cx) (tg iter : Expr) (wi : TI) : Prop:=
  ∀ (pins : List (Addr × Obj)) (s : Shared) (σ : St) (H : Hp) (R : It->Hp->Prop),Inv X pins σ H s->wi σ H R →
    wpAny (model X.prog X.w) X.A (eval iter X.env) (fun v s1=>wpAny (model X.prog X.w) X.A (pyIter v) (PIE X pins σ tg R) X.xe s1) X.xe s
theorem y6T {M : Model} {A : Around} {E : Value->Shared->Prop} {s : Shared} {tg : Expr} {it : Addr} {u : Value} {o : Obj} {n : String} {vs : Array Value} {Q : Unit->Shared->Prop} (ho : s.heap.get? it=some o) (hc : o.cls = .type n) (hd : o.data = .fields vs)
    (hn : ["enumerate", "zip", "dict_itemiterator", "dict_reverseitemiterator", "odict_iterator", "itertools.zip_longest", "itertools.pairwise"].contains n=false) (hQ : Q () s) : wpAny M A (letOwnedTupleGo tg (.ref it) u) Q E s:=by
  unfold letOwnedTupleGo
  cases tg <;> first
    | exact wpAny_pure hQ
    | (cases u <;> first
        | exact wpAny_pure hQ
        | (refine wpAny_bind (wpAny_load ho ?_)
           rw [hc,hd]
           show wpAny M A (if (["enumerate", "zip", "dict_itemiterator", "dict_reverseitemiterator", "odict_iterator", "itertools.zip_longest", "itertools.pairwise"].contains n && vs[0]? == some (rawInt _))=true then _ else _) Q E s
           rw [if_neg (by intro h; rw [hn,Bool.false_and] at h; cases h)]
           exact wpAny_pure hQ))
noncomputable def Itl (K : PySem.W.Frag) (a : Addr) : It:=
  ⟨fun i H=>∃ xs x,SqL K H a xs∧xs[i]? = some x,fun i H x H'=>H'=H∧∀ xs,SqL K H a xs->xs[i]? = some x,fun i H=>∃ xs,SqL K H a xs∧xs.length≤i⟩
noncomputable def Itt (K : PySem.W.Frag) (a : Addr) : It:=
  ⟨fun i H=>∃ xs x,SqT K H a xs∧xs[i]? = some x,fun i H x H'=>H'=H∧∀ xs,SqT K H a xs->xs[i]? = some x,fun i H=>∃ xs,SqT K H a xs∧xs.length≤i⟩
noncomputable def Itr (lo : Int) (n : Nat) : It:=⟨fun i _=>i < n,fun i H x H'=>H'=H∧x = .int (lo + i),fun i _=>n≤i⟩
theorem y3D {P : Program} {w : World} {K : PySem.W.Frag} {tg : Expr} (a it : Addr) : Turn P w K tg (Itl K a) [it] it (fun i h=>h.IsListIter it a i) where
  mem:=by simp
  obj:=fun i h st b hb=>by
    have e : b=it:=by simpa using hb
    subst e
    obtain ⟨o,e,c,d⟩:=st
    exact ⟨o,e,fun v z=>by rw [d] at z; cases z⟩
  keep:=fun i h h' st k=>st.at fun o e=>k it (by simp) o e
  item:=by
    intro X hP hw hK hc i pins s σ H E I hf st hg
    subst hP hw hK
    obtain ⟨xs,x,hq,hx⟩:=hg
    obtain ⟨its,rv,p,hz⟩:=I.list hq
    obtain ⟨u,hu,ru⟩:=rv.get hx
    obtain ⟨f0,f1,f2,f3,f4,f5⟩:=hf it (by simp)
    refine wpAny_pyNext_list_item st p.isList (x:=u) (by simpa using hu) fun h' st' sb=>?_
    have I1 : Inv X pins σ H { s with heap:=h' }:=I.turned (t':=s.toks) (fun b o hb e=>(sb.2 b hb).trans e) f0 f1 f3 f4 f5
    obtain ⟨o,e,c,d⟩:=id st'
    exact ⟨u,rfl,y6T (s:={ s with heap:=h' }) e c d (by decide) ⟨x,H,I1,ru,⟨rfl,fun ys hy=>by rw [I.list_inj hy hq]; exact hx⟩,st',fun b hb=>(hf b hb).1⟩⟩
  done:=by
    intro X hP hw hK hc i pins s σ H E I hf st hg
    subst hP hw hK
    obtain ⟨xs,hq,hx⟩:=hg
    obtain ⟨its,rv,p,hz⟩:=I.list hq
    obtain ⟨f0,f1,f2,f3,f4,f5⟩:=hf it (by simp)
    have hl:=rv.length
    exact wpAny_pyNext_list_end (I.ok.hd hc) st p.isList (by simp; omega) fun h' eb=>⟨rfl,I.turned (t':=s.toks) (fun b o hb e=>eb b o hb e) f0 f1 f3 f4 f5⟩
  self:=fun _ _ _ _ _ st h=>wpAny_pyIter_listiter st h
theorem y2n {P : Program} {w : World} {K : PySem.W.Frag} {tg : Expr} (a it : Addr) : Turn P w K tg (Itt K a) [it] it (fun i h=>h.IsTupleIter it a i) where
  mem:=by simp
  obj:=fun i h st b hb=>by
    have e : b=it:=by simpa using hb
    subst e
    obtain ⟨o,e,c,d⟩:=st
    exact ⟨o,e,fun v z=>by rw [d] at z; cases z⟩
  keep:=fun i h h' st k=>st.at fun o e=>k it (by simp) o e
  item:=by
    intro X hP hw hK hc i pins s σ H E I hf st hg
    subst hP hw hK
    obtain ⟨xs,x,hq,hx⟩:=hg
    obtain ⟨its,rv,p,hz⟩:=I.tuple hq
    obtain ⟨u,hu,ru⟩:=rv.get hx
    obtain ⟨f0,f1,f2,f3,f4,f5⟩:=hf it (by simp)
    refine wpAny_pyNext_tuple_item st (show s.heap.IsTuple a its.toArray from p) (x:=u) (by simpa using hu) fun h' st' sb=>?_
    have I1 : Inv X pins σ H { s with heap:=h' }:=I.turned (t':=s.toks) (fun b o hb e=>(sb.2 b hb).trans e) f0 f1 f3 f4 f5
    obtain ⟨o,e,c,d⟩:=id st'
    exact ⟨u,rfl,y6T (s:={ s with heap:=h' }) e c d (by decide) ⟨x,H,I1,ru,⟨rfl,fun ys hy=>by rw [I.tuple_inj hy hq]; exact hx⟩,st',fun b hb=>(hf b hb).1⟩⟩
  done:=by
    intro X hP hw hK hc i pins s σ H E I hf st hg
    subst hP hw hK
    obtain ⟨xs,hq,hx⟩:=hg
    obtain ⟨its,rv,p,hz⟩:=I.tuple hq
    obtain ⟨f0,f1,f2,f3,f4,f5⟩:=hf it (by simp)
    have hl:=rv.length
    exact wpAny_pyNext_tuple_end (I.ok.hd hc) st (show s.heap.IsTuple a its.toArray from p) (by simp; omega) fun h' eb=>⟨rfl,I.turned (t':=s.toks) (fun b o hb e=>eb b o hb e) f0 f1 f3 f4 f5⟩
  self:=fun _ _ _ _ _ st h=>wpAny_pyIter_tupleiter st h
theorem y2r {P : Program} {w : World} {K : PySem.W.Frag} {tg : Expr} (it : Addr) (lo : Int) (n : Nat) : Turn P w K tg (Itr lo n) [it] it (fun i h=>IsRangeIter h it (lo + (i : Nat) * 1) ((n : Int) - (i : Nat)) 1) where
  mem:=by simp
  obj:=fun i h st b hb=>by
    have e : b=it:=by simpa using hb
    subst e
    exact ⟨_,st,fun v z=>by
      have z' : Data.fields _=Data.cell v:=z
      cases z'⟩
  keep:=fun i h h' st k=>k it (by simp) _ st
  item:=by
    intro X hP hw hK hc i pins s σ H E I hf st hg
    subst hP hw hK
    obtain ⟨f0,f1,f2,f3,f4,f5⟩:=hf it (by simp)
    have W:=Walks.range (prog:=X.prog) (w:=X.w) (I.ok.hd hc) it lo 1 n
    refine W.item i s _ _ hg st fun v h' tk hv st' kk=>?_
    obtain ⟨t,rfl⟩:=hv
    have I1 : Inv X pins σ H { s with heap:=h',toks:=tk }:=I.turned (fun b o hb e=>kk b o (by simpa using hb) e) f0 f1 f3 f4 f5
    refine ⟨_,rfl,y6T (s:={ s with heap:=h',toks:=tk }) (n := "range_iterator") st' rfl rfl (by decide) ⟨.int (lo + i),H,I1,⟨t,?_⟩,⟨rfl,rfl⟩,st',fun b hb=>(hf b hb).1⟩⟩
    rw [Int.mul_one]
  done:=by
    intro X hP hw hK hc i pins s σ H E I hf st hg
    subst hP hw hK
    obtain ⟨f0,f1,f2,f3,f4,f5⟩:=hf it (by simp)
    exact wpAny_pyNext_range_end (I.ok.hd hc) st (by have : n≤i:=hg; omega) fun h' eb=>⟨rfl,I.turned (t':=s.toks) (fun b o hb e=>eb b o hb e) f0 f1 f3 f4 f5⟩
  self:=fun _ _ _ _ _ st h=>wpAny_pyIter_rangeiter st h
end L2
namespace L2
open PySem PySem.Spec PyProof.Rows
section
variable {X : Cx} {tg : Expr}
theorem y1h {pins : List (Addr × Obj)} {σ : St} {H : Hp} {s : Shared} {R : It->Hp->Prop} {E : Value->Shared->Prop} {lo hi : Int} {t u v : Tok} {tk : Nat} (I : Inv X pins σ H s) (h1 : -(2 ^ 62)≤lo) (h2 : lo < 2 ^ 62) (h3 : -(2 ^ 62)≤hi) (h4 : hi < 2 ^ 62)
    (q : R (Itr lo (hi - lo).toNat) H) : wpAny (model X.prog X.w) X.A (pyIter (.ref s.heap.objs.size)) (PIE X pins σ tg R) E { s with heap:=s.heap.push { cls:=.type "range",data:=.fields #[.int lo t,.int hi u,.int 1 v] },toks:=tk }:=by
  refine wpAny_pyIter_range (IsRange.new ..) (small_one h1 h2 h3 h4) ?_
  have I1 : Inv X pins σ H { s with heap:=s.heap.push { cls:=.type "range",data:=.fields #[.int lo t,.int hi u,.int 1 v] },toks:=tk }:=I.kept fun b o e=>Heap.get?_push_of_some _ e
  refine ⟨(s.heap.push { cls:=.type "range",data:=.fields #[.int lo t,.int hi u,.int 1 v] }).objs.size,[(s.heap.push { cls:=.type "range",data:=.fields #[.int lo t,.int hi u,.int 1 v] }).objs.size],_,_,H,rfl,
    I1.kept (t':=tk) fun b o e=>Heap.get?_push_of_some _ e,y2r _ lo (hi - lo).toNat,?_,fun b hb=>?_,q⟩
  · have e1 : lo + ((0 : Nat) : Int) * 1=lo:=by simp
    have e2 : (((hi - lo).toNat : Nat) : Int) - ((0 : Nat) : Int)=Builtin.Range.rangeSize lo hi 1:=by rw [rangeSize_one]; split <;> omega
    show IsRangeIter _ _ (lo + ((0 : Nat) : Int) * 1) ((((hi - lo).toNat : Nat) : Int) - ((0 : Nat) : Int)) 1
    rw [e1,e2]
    exact Heap.get?_push_size _ rfl
  · have e : b=(s.heap.push { cls:=.type "range",data:=.fields #[.int lo t,.int hi u,.int 1 v] }).objs.size:=by simpa using hb
    subst e
    exact I1.fpOk (Nat.le_refl _) (I1.hok.fresh (Nat.le_refl _))
noncomputable def iRng1 (ta : TA) : TI:=fun σ H R=>ta σ H fun vs H1=>∃ j : Int,vs=[.int j]∧-(2 ^ 62)≤j∧j < 2 ^ 62∧R (Itr 0 j.toNat) H1
noncomputable def iRng2 (ta : TA) : TI:=fun σ H R=>ta σ H fun vs H1=>∃ i j : Int,vs=[.int i,.int j]∧(-(2 ^ 62)≤i∧i < 2 ^ 62∧-(2 ^ 62)≤j∧j < 2 ^ 62)∧R (Itr i (j - i).toNat) H1
theorem y3h {a : Expr} {ta : TA} {p pos : Pos} (hg : Gl X "range") (hm : X.mg "range" = none) (ha : PA X [a] ta) (hs : starEach [a] X.env=[(false,eval a X.env)]:=by rfl) : PI X tg (.Call (.Name "range" p) [a] [] pos) (iRng1 ta):=by
  intro pins s σ H R I h
  refine Call_ (z5e I hg hm boot_range (PyProof.Rows.callWith_type1 (thn (ha pos pins s σ H _ I h) fun us s1 ⟨vs,H1,I1,r1,q1⟩=>?_) hs rfl))
  obtain ⟨j,e,q1,q2,q⟩:=q1
  subst e
  cases r1 with
  | cons r rr=>
    cases rr
    obtain ⟨t,rfl⟩:=r
    exact call_range_1 (y1h I1 (by omega) (by omega) q1 q2 (by simpa using q))
theorem y4O {a b : Expr} {ta : TA} {p pos : Pos} (hg : Gl X "range") (hm : X.mg "range" = none) (ha : PA X [a,b] ta) (hs : starEach [a,b] X.env=[(false,eval a X.env),(false,eval b X.env)]:=by rfl) (hs2 : starEach [b] X.env=[(false,eval b X.env)]:=by rfl) :
    PI X tg (.Call (.Name "range" p) [a,b] [] pos) (iRng2 ta):=by
  intro pins s σ H R I h
  refine Call_ (z5e I hg hm boot_range (PyProof.Rows.callWith_type1 (thn (ha pos pins s σ H _ I h) fun us s1 ⟨vs,H1,I1,r1,q1⟩=>?_) (by rw [hs,hs2]) (by rw [hs2]; rfl)))
  obtain ⟨i,j,e,⟨q1,q2,q3,q4⟩,q⟩:=q1
  subst e
  cases r1 with
  | cons r rr=>
    cases rr with
    | cons r' rr=>
      cases rr
      obtain ⟨t,rfl⟩:=r
      obtain ⟨t',rfl⟩:=r'
      exact call_range_2 (y1h I1 q1 q2 q3 q4 q)
noncomputable def tFor (wi : TI) (g : TG) (tb : TS) : TS:=fun D σ H=>wi σ H fun J H1=>∃ W : Nat->Nat->St->Hp->Prop,(∃ m,W 0 m σ H1)∧∀ i m σ H,W i m σ H →
  (J.stop i H∧D.nx σ H)∨(J.go i H∧∃ N : St->Hp->Prop,(∀ σ' H',N σ' H'->∃ m',m' < m∧W (i + 1) m' σ' H')∧∀ x H',J.yld i H x H'->g x σ H' fun σ2 H2=>tb { D with nx:=N,ct:=N,bk:=D.nx } σ2 H2)
noncomputable def z9i (fp : List Addr) (h : Heap) : List (Addr × Obj):=fp.filterMap fun b=>(h.get? b).map fun o=>(b,o)
theorem z4w {fp : List Addr} {h : Heap} {b : Addr} {o : Obj} (hb : b∈fp) (e : h.get? b=some o) : (b,o)∈z9i fp h:=List.mem_filterMap.mpr ⟨b,hb,by rw [e]; rfl⟩
theorem y2J {fp : List Addr} {h : Heap} {p : Addr × Obj} (hp : p∈z9i fp h) : p.1∈fp∧h.get? p.1=some p.2:=by
  obtain ⟨b,hb,e⟩:=List.mem_filterMap.mp hp
  cases q : h.get? b with
  | none=>rw [q] at e; cases e
  | some o=>
    rw [q] at e
    have e' : (b,o)=p:=Option.some.inj e
    subst e'
    exact ⟨hb,q⟩
theorem Inv.pinned {pins : List (Addr × Obj)} {σ : St} {H : Hp} {s : Shared} {fp : List Addr} (I : Inv X pins σ H s) (hf : ∀ b∈fp,y0d X pins H b) (ho : ∀ b∈fp,∃ o,s.heap.get? b=some o∧∀ v,o.data≠.cell v) : Inv X (pins ++ z9i fp s.heap) σ H s:=
  I.pins_of fun p hp=>(List.mem_append.mp hp).elim (fun z=>I.pin p (List.mem_append_right _ z)) fun z=>by
    obtain ⟨hb,e⟩:=y2J z
    obtain ⟨f0,f1,f2,_⟩:=hf p.1 hb
    obtain ⟨o,e',d⟩:=ho p.1 hb
    rw [e] at e'; cases e'
    exact ⟨e,f0,f1,f2,d⟩
theorem Inv.unpinned {pins pl : List (Addr × Obj)} {σ : St} {H : Hp} {s : Shared} (I : Inv X (pins ++ pl) σ H s) : Inv X pins σ H s:=I.pins_of fun p hp=>I.pin p (List.mem_append_right _ (List.mem_append_left _ hp))
theorem y1b {iter : Expr} {body : List Stmt} {wi : TI} {g : TG} {tb : TS} {pos : Pos} (hp : PassesOwn (model X.prog X.w) X.A X.env X.xe) (hc : X.calm=true) (hi : PI X tg iter wi) (hg : PG X tg g) (hb : PSs X body tb)
    (hs : ∀ x,foldedSetIterable iter X.env x=pure x:=by intro _; rfl) : PS X (.For tg iter body [] pos) (tFor wi g tb):=by
  intro pins s σ H D I h
  refine wpAny_For (thn (hi pins s σ H _ I h) fun v s1 h1=>thn h1 fun itv s2 h2=>?_) hs
  obtain ⟨it,fp,tn,J,H2,e,I2,T,st2,f2,W,⟨m0,w0⟩,turn⟩:=h2
  subst e
  have stat : ∀ {H' : Hp},(∀ b∈fp,H' b=none)->∀ b∈fp,y0d X pins H' b:=fun hn b hb=>⟨hn b hb,(f2 b hb).2⟩
  refine codeAny_forLoop_any (fun n s'=>∃ i σ' H',Inv X pins σ' H' s'∧tn i s'.heap∧(∀ b∈fp,H' b=none)∧W i n σ' H') ?_ m0 ⟨0,σ,H2,I2,st2,fun b hb=>(f2 b hb).1,w0⟩
  rintro n s3 ⟨i,σ3,H3,I3,st3,fr3,w3⟩
  rcases turn i n σ3 H3 w3 with ⟨stop,qn⟩ | ⟨go,N,hN,step⟩
  · refine wpAny_passesOwn hp (thn (T.done X rfl rfl rfl hc i pins s3 σ3 H3 X.xe I3 (stat fr3) st3 stop) fun r s4 ⟨hr,I4⟩=>?_)
    subst hr
    exact wpAny_execs_nil ⟨σ3,H3,I4,qn⟩
  · refine wpAny_passesOwn hp (thn (T.item X rfl rfl rfl hc i pins s3 σ3 H3 X.xe I3 (stat fr3) st3 go) fun r s4 ⟨u,hr,h4⟩=>?_)
    subst hr
    refine wpAny_passesOwn hp (thn h4 fun _ s5 ⟨x,H5,I5,r5,y5,st5,fr5⟩=>?_)
    have I5':=I5.pinned (stat fr5) (T.obj _ _ st5)
    refine wpAny_passesOwn hp (thn (hg _ s5 σ3 H5 x u _ I5' r5 (step x H5 y5)) fun _ s6 ⟨σ6,H6,I6,q6⟩=>?_)
    refine wpAny_passesOwn hp (thn (hb _ s6 σ6 H6 _ I6 q6) fun f s7 q7=>?_)
    have again : ∀ {σ7 : St} {H7 : Hp},Inv X (pins ++ z9i fp s5.heap) σ7 H7 s7->N σ7 H7->∃ m,m < n∧∃ i σ' H',Inv X pins σ' H' s7∧tn i s7.heap∧(∀ b∈fp,H' b=none)∧W i m σ' H':=fun {σ7 H7} I7 n7=>by
      obtain ⟨m',hm,w7⟩:=hN σ7 H7 n7
      refine ⟨m',hm,i + 1,σ7,H7,I7.unpinned,T.keep _ _ _ st5 fun b hb o e=>(I7.pin (b,o) (List.mem_append_right _ (List.mem_append_right _ (z4w hb e)))).1,fun b hb=>?_,w7⟩
      obtain ⟨o,e,d⟩:=T.obj _ _ st5 b hb
      exact (I7.pin (b,o) (List.mem_append_right _ (List.mem_append_right _ (z4w hb e)))).2.1
    cases f with
    | next=>obtain ⟨σ7,H7,I7,n7⟩:=q7; exact again I7 n7
    | cont=>obtain ⟨σ7,H7,I7,n7⟩:=q7; exact again I7 n7
    | brk=>obtain ⟨σ7,H7,I7,q7⟩:=q7; exact ⟨σ7,H7,I7.unpinned,q7⟩
    | ret v=>obtain ⟨x7,σ7,H7,I7,r7,q7⟩:=q7; exact ⟨x7,σ7,H7,I7.unpinned,r7,q7⟩
end
end L2
namespace L2
open PySem PySem.Spec PyProof.Rows
noncomputable abbrev R2:=V->V->Hp->VK->Prop
noncomputable def OpR (X : Cx) (f : Value->Value->Sem Value) (r : R2) : Prop:=
  ∀ (pins : List (Addr × Obj)) (s : Shared) (σ : St) (H : Hp) (x y : V) (v u : Value) (Q : VK),Inv X pins σ H s->RelV x v->RelV y u->r x y H Q →
    wpAny (model X.prog X.w) X.A (f v u) (EP X pins σ Q) X.xe s
noncomputable def UnR (X : Cx) (f : Value->Sem Value) (r : V->Hp->VK->Prop) : Prop:=
  ∀ (pins : List (Addr × Obj)) (s : Shared) (σ : St) (H : Hp) (x : V) (v : Value) (Q : VK),Inv X pins σ H s->RelV x v->r x H Q →
    wpAny (model X.prog X.w) X.A (f v) (EP X pins σ Q) X.xe s
noncomputable def z5H (X : Cx) (f : Value) (r : List V->Hp->VK->Prop) : Prop:=
  ∀ (pins : List (Addr × Obj)) (s : Shared) (σ : St) (H : Hp) (xs : List V) (us : List Value) (Q : VK),Inv X pins σ H s->Vals xs us->r xs H Q →
    wpAny (model X.prog X.w) X.A (call f us) (EP X pins σ Q) X.xe s
noncomputable def TruR (X : Cx) (r : V->Hp->(Bool->Hp->Prop)->Prop) : Prop:=
  ∀ (pins : List (Addr × Obj)) (s : Shared) (σ : St) (H : Hp) (x : V) (v : Value) (Q : Bool->Hp->Prop),Inv X pins σ H s->RelV x v->r x H Q →
    wpAny (model X.prog X.w) X.A (truthy v) (TP X pins σ Q) X.xe s
noncomputable def tOp (r : R2) (ta tb : TE) : TE:=fun σ H Q=>ta σ H fun x H1=>tb σ H1 fun y H2=>r x y H2 Q
noncomputable def tUn (r : V->Hp->VK->Prop) (ta : TE) : TE:=fun σ H Q=>ta σ H fun x H1=>r x H1 Q
noncomputable def rI (C : Int->Int->Prop) (g : Int->Int->V) : R2:=fun x y H Q=>∃ i j,x = .int i∧y = .int j∧C i j∧Q (g i j) H
noncomputable def rI0 (g : Int->Int->V) : R2:=fun x y H Q=>∃ i j,x = .int i∧y = .int j∧Q (g i j) H
noncomputable def rU (g : Int->V) : V->Hp->VK->Prop:=fun x H Q=>∃ i,x = .int i∧Q (g i) H
section
variable {X : Cx} {a b c : Expr} {ta tb tc : TE} {pos : Pos}
theorem binT (ha : PE X a ta) (hb : PE X b tb) {pins : List (Addr × Obj)} {s : Shared} {σ : St} {H : Hp} {R : V->V->Hp->Prop} (I : Inv X pins σ H s)
    (h : ta σ H fun x H1=>tb σ H1 fun y H2=>R x y H2) {Q : Value->Shared->Prop} {f : Value->Value->Sem Value}
    (hf : ∀ v u s2 x y H2,Inv X pins σ H2 s2->RelV x v->RelV y u->R x y H2->wpAny (model X.prog X.w) X.A (f v u) Q X.xe s2) :
    wpAny (model X.prog X.w) X.A (eval a X.env) (fun v s₁=>wpAny (model X.prog X.w) X.A (eval b X.env) (fun u s₂=>wpAny (model X.prog X.w) X.A (f v u) Q X.xe s₂) X.xe s₁) X.xe s:=by
  refine thn (ha pins s σ H _ I h) fun v s1 ⟨x,H1,I1,r1,q1⟩=>?_
  refine thn (hb pins s1 σ H1 _ I1 q1) fun u s2 ⟨y,H2,I2,r2,q2⟩=>?_
  exact hf v u s2 x y H2 I2 r1 r2 q2
theorem pe_op {op : Operator} {r : R2} (ho : OpR X (binaryOp op) r) (ha : PE X a ta) (hb : PE X b tb) : PE X (.BinOp a op b pos) (tOp r ta tb):=by
  intro pins s σ H Q I h
  exact wpAny_BinOp (binT ha hb I h fun v u s2 x y H2 I2 rx ry q=>ho pins s2 σ H2 x y v u Q I2 rx ry q)
theorem pe_un {op : UnaryOp} {r : V->Hp->VK->Prop} (ho : UnR X (unaryOp op) r) (ha : PE X a ta) : PE X (.UnaryOp op a pos) (tUn r ta):=by
  intro pins s σ H Q I h
  exact UnaryOp_ (thn (ha pins s σ H _ I h) fun v s1 ⟨x,H1,I1,r1,q1⟩=>ho pins s1 σ H1 x v Q I1 r1 q1)
theorem opI {f : Value->Value->Sem Value} {C : Int->Int->Prop} {g : Int->Int->Int}
    (rule : ∀ (i j : Int) (t u : Tok) (s : Shared) (Q : Value->Shared->Prop) (E : Value->Shared->Prop),C i j->Q (.int (g i j) s.toks) { s with toks:=s.toks + 1 }->wpAny (model X.prog X.w) X.A (f (.int i t) (.int j u)) Q E s) :
    OpR X f (rI C fun i j=>.int (g i j)):=by
  intro pins s σ H x y v u Q I rx ry h
  obtain ⟨i,j,rfl,rfl,hc,q⟩:=h
  obtain ⟨t,rfl⟩:=rx
  obtain ⟨t',rfl⟩:=ry
  exact rule i j t t' s _ _ hc ⟨.int (g i j),H,I.tok _,⟨_,rfl⟩,q⟩
theorem opI0 {f : Value->Value->Sem Value} {g : Int->Int->Int}
    (rule : ∀ (i j : Int) (t u : Tok) (s : Shared) (Q : Value->Shared->Prop) (E : Value->Shared->Prop),Q (.int (g i j) s.toks) { s with toks:=s.toks + 1 }->wpAny (model X.prog X.w) X.A (f (.int i t) (.int j u)) Q E s) :
    OpR X f (rI0 fun i j=>.int (g i j)):=by
  intro pins s σ H x y v u Q I rx ry h
  obtain ⟨i,j,rfl,rfl,q⟩:=h
  obtain ⟨t,rfl⟩:=rx
  obtain ⟨t',rfl⟩:=ry
  exact rule i j t t' s _ _ ⟨.int (g i j),H,I.tok _,⟨_,rfl⟩,q⟩
theorem opB0 {f : Value->Value->Sem Value} {g : Int->Int->Bool}
    (rule : ∀ (i j : Int) (t u : Tok) (s : Shared) (Q : Value->Shared->Prop) (E : Value->Shared->Prop),Q (.bool (g i j)) s->wpAny (model X.prog X.w) X.A (f (.int i t) (.int j u)) Q E s) :
    OpR X f (rI0 fun i j=>.bl (g i j)):=by
  intro pins s σ H x y v u Q I rx ry h
  obtain ⟨i,j,rfl,rfl,q⟩:=h
  obtain ⟨t,rfl⟩:=rx
  obtain ⟨t',rfl⟩:=ry
  exact rule i j t t' s _ _ ⟨.bl (g i j),H,I,rfl,q⟩
noncomputable def CDiv (i j : Int) : Prop:=0 < j∧j < 1073741824
noncomputable def CPow (i j : Int) : Prop:=0≤j∧j≤1000000∧i.natAbs < 2 ^ 64
noncomputable def CMul (i j : Int) : Prop:=(-(2 ^ 64) < i∧i < 2 ^ 64)∨(-(2 ^ 64) < j∧j < 2 ^ 64)
theorem CMul.ok {i j : Int} (h : CMul i j) : IntMulOk i j:=by
  rcases h with ⟨h1,h2⟩ | ⟨h1,h2⟩
  · exact .of_left (intBits_le_64 h1 h2)
  · exact .of_right (intBits_le_64 h1 h2)
theorem op_add : OpR X (binaryOp .Add) (rI0 fun i j=>.int (i + j)):=opI0 fun _ _ _ _ _ _ _ q=>add_int q
theorem op_sub : OpR X (binaryOp .Sub) (rI0 fun i j=>.int (i - j)):=opI0 fun _ _ _ _ _ _ _ q=>sub_int q
theorem op_mul : OpR X (binaryOp .Mult) (rI CMul fun i j=>.int (i * j)):=opI fun _ _ _ _ _ _ _ hc q=>mul_int q hc.ok
theorem op_fdiv : OpR X (binaryOp .FloorDiv) (rI CDiv fun i j=>.int (i / j)):=opI fun i j _ _ _ _ _ hc q=>by
  have h1 : (0 : Int) < j:=hc.1
  have h2 : j < 1073741824:=hc.2
  exact floordiv_int (by omega) (by rw [Int.fdiv_eq_ediv_of_nonneg i (by omega)]; exact q) (.inl (PyProof.noPylong_small (by omega)))
theorem op_mod : OpR X (binaryOp .Mod) (rI (fun _ j=>0 < j) fun i j=>.int (i % j)):=opI fun i j _ _ _ _ _ hc q=>by
  have h1 : (0 : Int) < j:=hc
  exact mod_int' (by omega) (by rw [Int.fmod_eq_emod_of_nonneg i (by omega)]; exact q)
theorem unI {f : Value->Sem Value} {g : Int->Int}
    (rule : ∀ (i : Int) (t : Tok) (s : Shared) (Q : Value->Shared->Prop) (E : Value->Shared->Prop),Q (.int (g i) s.toks) { s with toks:=s.toks + 1 }->wpAny (model X.prog X.w) X.A (f (.int i t)) Q E s) :
    UnR X f (rU fun i=>.int (g i)):=by
  intro pins s σ H x v Q I rx h
  obtain ⟨i,rfl,q⟩:=h
  obtain ⟨t,rfl⟩:=rx
  exact rule i t s _ _ ⟨.int (g i),H,I.tok _,⟨_,rfl⟩,q⟩
theorem un_neg : UnR X (unaryOp .USub) (rU fun i=>.int (-i)):=unI fun _ _ _ _ _ q=>neg_int q
end
section
variable {X : Cx} {a b c : Expr} {ta tb tc : TE} {pos : Pos}
theorem op_lt : OpR X (compareOp .Lt) (rI0 fun i j=>.bl (decide (i < j))):=opB0 fun _ _ _ _ _ _ _ q=>lt_int q
theorem op_gt : OpR X (compareOp .Gt) (rI0 fun i j=>.bl (decide (j < i))):=opB0 fun _ _ _ _ _ _ _ q=>gt_int q
theorem op_ge : OpR X (compareOp .GtE) (rI0 fun i j=>.bl (decide (j≤i))):=opB0 fun _ _ _ _ _ _ _ q=>ge_int q
theorem z7u (b : Expr) {op : CmpOp} (h : op≠.In:=by decide) (h2 : op≠.NotIn:=by decide) : behindInMarks op b=false:=by
  have e1 : (op == CmpOp.In)=false:=by cases op <;> first | rfl | exact absurd rfl h
  have e2 : (op == CmpOp.NotIn)=false:=by cases op <;> first | rfl | exact absurd rfl h2
  cases b <;> simp [behindInMarks,e1,e2]
theorem pe_cmpR {op : CmpOp} {r : R2} (ho : OpR X (compareOp op) r) (ha : PE X a ta) (hb : PE X b tb) (hm : behindInMarks op b=false) : PE X (.Compare a [op] [b] pos) (tOp r ta tb):=by
  intro pins s σ H Q I h
  exact wpAny_Compare1 (binT ha hb I h fun v u s2 x y H2 I2 rx ry q=>ho pins s2 σ H2 x y v u Q I2 rx ry q) hm
noncomputable def tTest (t : TE) : TT:=fun σ H Q=>t σ H fun x H'=>∃ k,x = .bl k∧Q k H'
theorem pt_cmpR {op : CmpOp} {r : R2} (ho : OpR X (compareOp op) r) (ha : PE X a ta) (hb : PE X b tb) (hm : behindInMarks op b=false) : PT X (.Compare a [op] [b] pos) (tTest (tOp r ta tb)):=by
  intro pins s σ H Q I h
  refine wpAny_isTrue_Compare1 (thn (ha pins s σ H _ I h) fun v s1 ⟨x,H1,I1,r1,q1⟩=>thn (hb pins s1 σ H1 _ I1 q1) fun u s2 ⟨y,H2,I2,r2,q2⟩=>
    thn (ho pins s2 σ H2 x y v u _ I2 r1 r2 q2) fun c s3 ⟨z,H3,I3,r3,k,e,q3⟩=>?_) hm
  subst e
  cases r3
  exact wpAny_truthy_bool ⟨H3,I3,q3⟩
noncomputable def tChain (r r' : R2) (ta tb tc : TE) : TE:=fun σ H Q=>ta σ H fun x H1=>tb σ H1 fun y H2=>r x y H2 fun z H3=>∃ k,z = .bl k ∧
  (if k=true then tc σ H3 fun w' H4=>r' y w' H4 Q else Q (.bl false) H3)
noncomputable def TruV (K : PySem.W.Frag) (x : V) (H : Hp) (k : Bool) : Prop:=
  match x with
  | .non=>k=false
  | .bl b=>k=b
  | .int i=>k=(i != 0)
  | .str y=>y.length≤sizeLine∧k=((y.length : Int) != 0)
  | .byt y=>y.size≤sizeLine∧k=((y.size : Int) != 0)
  | .ref p=>(∃ xs,SqL K H p xs∧k = !xs.isEmpty)∨(∃ xs,SqT K H p xs∧k = !xs.isEmpty)∨∃ kvs,H p=some (.dK kvs)∧k = !kvs.isEmpty
  | _=>False
theorem y1H {κ : Type} {kvs : List (κ × V)} {vs : List (κ × Value)} (r : KV kvs vs) : (!vs.isEmpty) = !kvs.isEmpty:=by
  cases r <;> rfl
theorem z7D {xs : List V} {its : List Value} (r : Vals xs its) : (!its.toArray.isEmpty) = !xs.isEmpty:=by
  cases r <;> simp
theorem z7n : (sizeLine : Nat) < 2 ^ 63:=by rw [sizeLine_eq]; decide
theorem tru_ok : TruR X (fun x H Q=>∃ k,TruV X.K x H k∧Q k H):=by
  intro pins s σ H x v Q I rx h
  obtain ⟨k,e,q⟩:=h
  have hl:=z7n
  have hs : sizeLine=16777216:=sizeLine_eq
  cases x with
  | non=>
    cases rx
    have e' : k=false:=e
    subst e'
    exact truthy_none ⟨H,I,q⟩
  | bl b=>
    cases rx
    have e' : k=b:=e
    subst e'
    exact wpAny_truthy_bool ⟨H,I,q⟩
  | int i=>
    obtain ⟨t,rfl⟩:=rx
    have e' : k=(i != 0):=e
    subst e'
    exact PySem.P.truthy_int ⟨H,I,q⟩
  | str y=>
    obtain ⟨t,rfl⟩:=rx
    obtain ⟨hy,e'⟩ : y.length≤sizeLine∧k=((y.length : Int) != 0):=e
    subst e'
    exact PySem.P.truthy_str (by omega) ⟨H,I.tok _,q⟩
  | byt y=>
    obtain ⟨t,rfl⟩:=rx
    obtain ⟨hy,e'⟩ : y.size≤sizeLine∧k=((y.size : Int) != 0):=e
    subst e'
    exact PySem.W.truthy_bytes (by omega) ⟨H,I.tok _,q⟩
  | ref p=>
    cases rx
    have e' : (∃ xs,SqL X.K H p xs∧k = !xs.isEmpty)∨(∃ xs,SqT X.K H p xs∧k = !xs.isEmpty)∨∃ kvs,H p=some (.dK kvs)∧k = !kvs.isEmpty:=e
    rcases e' with ⟨xs,hx,e'⟩ | ⟨xs,hx,e'⟩ | ⟨kvs,hx,e'⟩
    · subst e'
      obtain ⟨its,r,pl,hz⟩:=I.list hx
      have hlen:=r.length
      exact wpAny_truthy_list pl.isList (by simp only [List.size_toArray]; omega) ⟨H,I.tok _,by rw [z7D r]; exact q⟩
    · subst e'
      obtain ⟨its,r,pl,hz⟩:=I.tuple hx
      have hlen:=r.length
      exact truthy_tuple pl (by simp only [List.size_toArray]; omega) ⟨H,I.tok _,by rw [z7D r]; exact q⟩
    · subst e'
      obtain ⟨hz,hS,vs,r,m⟩ : kvs.length≤sizeLine∧(p == sysModules)=false∧∃ vs,KV kvs vs∧s.heap.DictOf (z1g X.prog X.w) p vs:=I.hok p _ hx
      have hlen : kvs.length=vs.length:=Paired.length r
      exact wpAny_truthy_dict hS m (by omega) ⟨H,I.tok _,by rw [y1H r]; exact q⟩
  | _=>exact (show False from e).elim
theorem y6N (ha : PE X a ta) (he : ∀ whole,isTrue a X.env whole=(do let v ← whole; standAt a.pos; holding [v] (truthy v))) :
    PT X a (fun σ H Q=>ta σ H fun x H'=>∃ k,TruV X.K x H' k∧Q k H'):=by
  intro pins s σ H Q I h
  exact isTrue_plain (thn (ha pins s σ H _ I h) fun v s1 ⟨x,H1,I1,r1,q1⟩=>tru_ok pins s1 σ H1 x v Q I1 r1 q1) (he _)
theorem z9g {x : V} {us : List Value} (r : Vals [x] us) : ∃ u,us=[u]∧RelV x u:=by
  cases r with
  | cons r1 r2=>cases r2; exact ⟨_,rfl,r1⟩
theorem vals2 {x y : V} {us : List Value} (r : Vals [x,y] us) : ∃ u w',us=[u,w']∧RelV x u∧RelV y w':=by
  cases r with
  | cons r1 r2=>
    cases r2 with
    | cons r3 r4=>cases r4; exact ⟨_,_,rfl,r1,r3⟩
theorem y4W : z5H X (.type "int") (fun xs H Q=>(∃ i,xs=[.int i]∧Q (.int i) H)∨∃ k,xs=[.bl k]∧Q (.int (if k then 1 else 0)) H):=by
  intro pins s σ H xs us Q I r h
  rcases h with ⟨i,rfl,q⟩ | ⟨k,rfl,q⟩
  · obtain ⟨u,rfl,t,rfl⟩:=z9g r
    exact call_int_int ⟨.int i,H,I,⟨_,rfl⟩,q⟩
  · obtain ⟨u,rfl,r1⟩:=z9g r
    cases r1
    exact call_int_bool ⟨.int (if k then 1 else 0),H,I.tok _,⟨_,rfl⟩,q⟩
noncomputable def LenV (K : PySem.W.Frag) (x : V) (H : Hp) (n : Nat) : Prop:=
  match x with
  | .str y=>y.length≤sizeLine∧n=y.length
  | .byt y=>y.size≤sizeLine∧n=y.size
  | .ref p=>(∃ xs,SqL K H p xs∧n=xs.length)∨∃ xs,SqT K H p xs∧n=xs.length
  | _=>False
theorem y6F : z5H X (.builtin "len") (fun xs H Q=>∃ x n,xs=[x]∧LenV X.K x H n∧Q (.int n) H):=by
  intro pins s σ H xs us Q I r h
  obtain ⟨x,n,rfl,e,q⟩:=h
  obtain ⟨u,rfl,rx⟩:=z9g r
  have hl:=z7n
  have hs : sizeLine=16777216:=sizeLine_eq
  cases x with
  | str y=>
    obtain ⟨t,rfl⟩:=rx
    obtain ⟨hy,e'⟩ : y.length≤sizeLine∧n=y.length:=e
    subst e'
    exact len_str (by omega) ⟨.int _,H,I.tok _,⟨_,rfl⟩,q⟩
  | byt y=>
    obtain ⟨t,rfl⟩:=rx
    obtain ⟨hy,e'⟩ : y.size≤sizeLine∧n=y.size:=e
    subst e'
    exact PySem.W.len_bytes (by omega) ⟨.int _,H,I.tok _,⟨_,rfl⟩,q⟩
  | ref p=>
    cases rx
    have e' : (∃ xs,SqL X.K H p xs∧n=xs.length)∨∃ xs,SqT X.K H p xs∧n=xs.length:=e
    rcases e' with ⟨xs,hx,e'⟩ | ⟨xs,hx,e'⟩
    · subst e'
      obtain ⟨its,r',pl,hz⟩:=I.list hx
      have hlen:=r'.length
      exact Calls.call_len_list pl.isList (by simp only [List.size_toArray]; omega) ⟨.int xs.length,H,I.tok _,⟨_,by simp only [List.size_toArray]; rw [hlen]⟩,q⟩
    · subst e'
      obtain ⟨its,r',pl,hz⟩:=I.tuple hx
      have hlen:=r'.length
      exact len_tuple pl (by simp only [List.size_toArray]; omega) ⟨.int xs.length,H,I.tok _,⟨_,by simp only [List.size_toArray]; rw [hlen]⟩,q⟩
  | _=>exact (show False from e).elim
end
end L2
namespace L2
open PySem PySem.Spec PyProof.Rows
structure ObjM (h : Heap) (x dx C : Addr) (mA : Str->Option Value) : Prop where
  obj : h.get? x=some (PySem.W.instObj C dx)
  ns : h.Ns1 dx mA
  ne : dx≠x
section
variable {prog : Program} {w : World} {A : Around} {E : Value->Shared->Prop} {s : Shared} {K : PySem.W.Frag} {x dx C f : Addr} {mA : Str->Option Value} {name : Str} {v : Value}
end
section
variable {P : Program} {w : World} {H H' : Hp} {h h' : Heap} {a C dx : Addr} {fs fs' : List (Str × V)}
end
structure Cls (K : PySem.W.Frag) (C : Addr) : Prop where
  pg : PySem.W.plainGet K C Str.empty=true
  hd : PySem.W.hasDictIn K C=true
  po : PySem.W.plainOver K C=true
  sa : PySem.W.findIn K (.ref C) "__setattr__" = some (some (.builtin "object.__setattr__"))
structure Con (K : PySem.W.Frag) (C : Addr) (f : Str) (v : V) (u : Value) : Prop where
  at_ : PySem.W.findIn K (.ref C) f=some (some u)
  rel : RelV v u
  get : PySem.W.specialIn K u "__get__" = some none
  cp : PySem.W.copiedNames.contains f=false
structure Meth (K : PySem.W.Frag) (C : Addr) (m : Str) (f : Addr) : Prop where
  at_ : PySem.W.findIn K (.ref C) m=some (some (.ref f))
  fn : PySem.W.isFn K (.ref f)=true
  kp : PySem.W.keepIn K (.ref f)=true
section
variable {X : Cx} {pins : List (Addr × Obj)} {σ : St} {H : Hp} {s : Shared} {a C dx : Addr} {fs : List (Str × V)} {f : Str} {v : V} {A : Around} {E : Value->Shared->Prop}
end
section
variable {X : Cx} {o e value : Expr} {f : Str} {pos pos' tpos : Pos} {ta tv : TE}
end
section
variable {X : Cx} {pins : List (Addr × Obj)} {σ : St} {H : Hp} {s : Shared} {A : Around} {E : Value->Shared->Prop} {Q : Value->Shared->Prop} {c : Value} {b : Bool}
inductive TyOf (K : PySem.W.Frag) (H : Hp) : V->Value->Prop where
  | non : TyOf K H .non (.type "NoneType")
  | bl (x : Bool) : TyOf K H (.bl x) (.type "bool")
  | int (i : Int) : TyOf K H (.int i) (.type "int")
  | str (x : Str) : TyOf K H (.str x) (.type "str")
  | flt (x : UInt64) : TyOf K H (.flt x) (.type "float")
  | lst {a : Addr} {xs : List V} (e : H a=some (.lst xs)) : TyOf K H (.ref a) (.type "list")
  | frz {a : Addr} {o : Obj} {xs : List V} (e : H a=some (.frz o (.lst xs))) : TyOf K H (.ref a) (.type "list")
  | tup {a : Addr} {xs : List V} (e : H a=some (.tup xs)) : TyOf K H (.ref a) (.type "tuple")
  | dK {a : Addr} {kvs : List (Key × V)} (e : H a=some (.dK kvs)) : TyOf K H (.ref a) (.type "dict")
  | dT {a : Addr} {kvs : List (List Key × V)} (e : H a=some (.dT kvs)) : TyOf K H (.ref a) (.type "dict")
  | ins {a C dx : Addr} {fs : List (Str × V)} (e : H a=some (.ins C dx fs)) (cl : Cls K C) (ha : PySem.W.findIn K (.ref C) "__class__" = some (some (.builtin "object.__class__")))
      (hn : PySem.W.specialIn K (.builtin "object.__class__") "__get__" = some (some (.builtin "getset_descriptor.__get__"))) (htk : PySem.W.takesIn K (.builtin "object.__class__")=some true)
      (hm : PySem.W.mroIn K C (.type "object")=some true) : TyOf K H (.ref a) (.ref C)
end
end L2
namespace L2
open PySem PySem.Spec PyProof.Rows
structure Room (k : Nat) (A : Around) : Prop where
  hd : A.handled=none
  dp : A.depth + 3 * k + 5 < recursionLimit
  un : A.units + 16 * k + 200 < cLine
theorem Room.mono {j k : Nat} {A : Around} (r : Room k A) (h : j≤k) : Room j A:=⟨r.hd,by have:=r.dp; omega,by have:=r.un; omega⟩
theorem Room.deeper {k : Nat} {A : Around} (r : Room (k + 1) A) (env : Env) : Room k (A.deeper env):=
  ⟨r.hd,by have:=r.dp; show A.depth + 1 + 3 * k + 5 < _; omega,by have:=r.un; show A.units + 3 + 16 * k + 200 < _; omega⟩
theorem Room.depth {k : Nat} {A : Around} (r : Room k A) : A.depth < recursionLimit:=by have:=r.dp; omega
theorem Room.units {k : Nat} {A : Around} (r : Room k A) : A.units + 64 < cLine:=by have:=r.un; omega
noncomputable def tNil : TA:=fun _ H Q=>Q [] H
noncomputable def tCons (ta : TE) (tr : TA) : TA:=fun σ H Q=>ta σ H fun x H1=>tr σ H1 fun xs H2=>Q (x :: xs) H2
section
variable {X : Cx} {e : Expr} {es : List Expr} {te : TE} {t : TA} {pos : Pos}
theorem pa_nil : PA X [] tNil:=fun _ _ _ _ H Q I h=>Calls.spliced_nil ⟨[],H,I,.nil,h⟩
theorem z1Y (ha : PE X e te) (hr : PA X es t) (hs : starEach (e :: es) X.env=(false,eval e X.env) :: starEach es X.env:=by rfl) : PA X (e :: es) (tCons te t):=by
  intro pos pins s σ H Q I h
  rw [hs]
  show wpAny _ _ (spliced ((false,eval e X.env) :: backTo pos (starEach es X.env))) _ _ s
  refine Calls.spliced_cons (thn (ha pins s σ H _ I h) fun u s1 ⟨x,H1,I1,r1,q1⟩=>?_)
  exact thn (hr pos pins s1 σ H1 _ I1 q1) fun us s2 ⟨xs,H2,I2,r2,q2⟩=>⟨x :: xs,H2,I2,.cons r1 r2,q2⟩
noncomputable def tTup (t : TA) : TE:=fun σ H Q=>t σ H fun xs H1=>xs.length≤sizeLine∧∀ p,H1 p=none->Q (.ref p) (upd H1 p (.tup xs))
noncomputable def tLst (t : TA) : TE:=fun σ H Q=>t σ H fun xs H1=>xs.length≤sizeLine∧∀ p,H1 p=none->Q (.ref p) (upd H1 p (.lst xs))
theorem pe_tup {x1} (h : PA X es t) : PE X (.Tuple es x1 pos) (tTup t):=by
  intro pins s σ H Q I hq
  refine wpAny_Tuple_spliced (thn (h pos pins s σ H _ I hq) fun us s1 ⟨xs,H1,I1,r,z,q⟩=>⟨by rw [← r.length]; exact z,?_⟩)
  have hf : H1 s1.heap.objs.size=none:=I1.hok.fresh (Nat.le_refl _)
  refine ⟨.ref s1.heap.objs.size,upd H1 s1.heap.objs.size (.tup xs),I1.laid (t':=s1.toks) (fun b u e=>Heap.get?_push_of_some _ e) (Nat.le_refl _) ?_,rfl,q _ hf⟩
  exact ⟨z,us,r,TupN.new _ _⟩
theorem y3L (h : PA X es t) : PE X (.List es pos) (tLst t):=by
  intro pins s σ H Q I hq
  refine wpAny_List_spliced (thn (h pos pins s σ H _ I hq) fun us s1 ⟨xs,H1,I1,r,z,q⟩=>⟨by rw [← r.length]; exact z,?_⟩)
  have hf : H1 s1.heap.objs.size=none:=I1.hok.fresh (Nat.le_refl _)
  refine ⟨.ref s1.heap.objs.size,upd H1 s1.heap.objs.size (.lst xs),I1.laid (t':=s1.toks) (fun b u e=>Heap.get?_push_of_some _ e) (Nat.le_refl _) ?_,rfl,q _ hf⟩
  exact ⟨z,us,0,r,Heap.get?_push_size _ rfl⟩
end
noncomputable abbrev Sp:=List V->Hp->VK->XK->Prop
noncomputable abbrev CXT:=List Env->Hp->Shared->XK->Value->Shared->Prop
structure Env0 (P : Program) (w : World) (K : PySem.W.Frag) (mg : Str->Option Value) (base : Heap) (A : Around) (outer : List Env) (s : Shared) (H : Hp) : Prop where
  frames : A.frames=some outer
  mod : Mod K mg base
  bs : ∀ b o,base.get? b=some o->s.heap.get? b=some o∧H b=none
  bsz : base.objs.size≤s.heap.objs.size
  funs : s.heap.FunFrames base outer
  frf : ∀ b∈frs outer,H b=none
  hok : HOk P w H s.heap
  bare : AllBare s.gens
noncomputable def CE (outer : List Env) (P : Program) (w : World) (H : Hp) (s : Shared) (Q : VK) (u : Value) (s' : Shared) : Prop:=
  ∃ v H',s'.os=s.os∧AllBare s'.gens∧Un (frs outer) [] H H' s.heap s'.heap∧HOk P w H' s'.heap∧RelV v u∧Q v H'
noncomputable def CR (CX : CXT) (outer : List Env) (P : Program) (w : World) (H : Hp) (s : Shared) (Q : VK) (E : XK) (r : Result) (s' : Shared) : Prop:=
  match r with
  | .ok (.ret u)=>CE outer P w H s Q u s'
  | .ok _=>False
  | .error e=>CX outer H s E e s'
structure FnOk (P : Program) (w : World) (K : PySem.W.Frag) (mg : Str->Option Value) (base : Heap) (CX : CXT) (k : Nat) (f : Addr) (fd : FuncData) (ps : List Str) (sp : Sp) : Prop where
  len : ∀ vs H Q E,sp vs H Q E->vs.length=ps.length
  run : ∀ (A : Around) (outer : List Env) (s : Shared) (H : Hp) (args : Args) (us : List Value) (vs : List V) (Q : VK) (E : XK),Room k A->Env0 P w K mg base A outer s H->BindsTo s fd args (ps.zip us)->Vals vs us->sp vs H Q E →
    codeAny (model P w) A (.call (.ref f) args) (CR CX outer P w H s Q E) s
theorem FnOk.imp {P : Program} {w : World} {K : PySem.W.Frag} {mg : Str->Option Value} {base : Heap} {CX : CXT} {k : Nat} {f : Addr} {fd : FuncData} {ps : List Str} {sp sp' : Sp} (F : FnOk P w K mg base CX k f fd ps sp)
    (h : ∀ vs H Q E,sp' vs H Q E->sp vs H Q E) : FnOk P w K mg base CX k f fd ps sp':=
  ⟨fun vs H Q E q=>F.len vs H Q E (h _ _ _ _ q),fun A outer s H args us vs Q E hr he hb hv hs=>F.run A outer s H args us vs Q E hr he hb hv (h _ _ _ _ hs)⟩
section
variable {X : Cx} {pins : List (Addr × Obj)} {σ : St} {H : Hp} {s s' : Shared}
theorem Inv.env0 (I : Inv X pins σ H s) : Env0 X.prog X.w X.K X.mg X.base X.A X.stack s H:=
  ⟨I.ok.frames,I.ok.mod,I.bs,Nat.le_trans I.ok.bsz I.sz,I.stack,I.stkFree,I.hok,I.bare⟩
theorem Inv.after {Q : VK} {u : Value} (I : Inv X pins σ H s) (h : CE X.stack X.prog X.w H s Q u s') : EP X pins σ Q u s':=by
  obtain ⟨v,H',os,bare,un,hok,r,q⟩:=h
  obtain ⟨hh,g,d,t,os'⟩:=s'
  obtain rfl : os'=s.os:=os
  exact ⟨v,H',I.call (h':=hh) (g':=g) (d':=d) (t':=t) (ch:=[]) un hok bare (fun b z=>absurd z (by simp)),r,q⟩
end
noncomputable def tCall (sp : Sp) (dvs : List V) (E : XK) (t : TA) : TE:=fun σ H Q=>t σ H fun vs H1=>sp (vs ++ dvs) H1 Q E
noncomputable def Binds (K : PySem.W.Frag) (fd : FuncData) (ps : List Str) (ds : List Value) : Prop:=
  ∀ (s : Shared) (us : List Value),K.In s.heap->(us ++ ds).length=ps.length->BindsTo s fd ⟨us,[]⟩ (ps.zip (us ++ ds))
theorem Binds.all {K : PySem.W.Frag} {fd : FuncData} {ps : List Str} (h : ∀ us : List Value,us.length=ps.length->bindArgs fd ⟨us,[]⟩=pure (ps.zip us)) : Binds K fd ps []:=fun s us _ hl=>by
  rw [List.append_nil] at hl ⊢
  exact .of_eq (h us hl)
noncomputable def y4j (CX : CXT) (X : Cx) (E : XK) : Prop:=∀ (pins : List (Addr × Obj)) (σ : St) (H : Hp) (s : Shared) (e : Value) (s' : Shared),Inv X pins σ H s->CX X.stack H s E e s'->X.xe e s'
section
variable {X : Cx} {CX : CXT} {k : Nat} {f C : Addr} {fd : FuncData} {ps : List Str} {sp : Sp} {dvs : List V} {ds : List Value} {E : XK} {x m : Str} {p pos apos : Pos} {e o : Expr} {es : List Expr} {ta : TE} {t : TA}
theorem run_fn {pins : List (Addr × Obj)} {σ : St} {H : Hp} {s : Shared} {Q : VK} {us : List Value} {vs : List V} (F : FnOk X.prog X.w X.K X.mg X.base CX k f fd ps sp) (hr : Room k X.A) (hb : Binds X.K fd ps ds) (hd : Vals dvs ds) (hx : y4j CX X E)
    (I : Inv X pins σ H s) (r : Vals vs us) (h : sp (vs ++ dvs) H Q E) : wpAny (model X.prog X.w) X.A (call (.ref f) us) (EP X pins σ Q) X.xe s:=by
  have r2 : Vals (vs ++ dvs) (us ++ ds):=r.append hd
  have hl : (us ++ ds).length=ps.length:=by rw [← r2.length]; exact F.len _ _ _ _ h
  refine wpAny_call (codeAny_mono (F.run X.A X.stack s H ⟨us,[]⟩ (us ++ ds) (vs ++ dvs) Q E hr I.env0 (hb s us I.kIn hl) r2 h) fun r s' hq=>?_)
  cases r with
  | error e=>exact hx pins σ H s e s' I hq
  | ok fl=>
    cases fl with
    | ret u=>exact I.after hq
    | next=>exact False.elim hq
    | brk=>exact False.elim hq
    | cont=>exact False.elim hq
theorem pe_call (F : FnOk X.prog X.w X.K X.mg X.base CX k f fd ps sp) (hr : Room k X.A) (hg : Gl X x) (hm : X.mg x=some (.ref f)) (hk : PySem.W.keepIn X.K (.ref f)=true) (hb : Binds X.K fd ps ds) (hd : Vals dvs ds) (hx : y4j CX X E)
    (ha : PA X (e :: es) t) (hdb : (x == ("__debug__" : Str))=false:=by decide) (he : starEach (e :: es) X.env=(false,eval e X.env) :: starEach es X.env:=by rfl) (hpl : (backTo pos (starEach es X.env)).any (·.1)=false:=by rfl) :
    PE X (.Call (.Name x p) (e :: es) [] pos) (tCall sp dvs E t):=by
  intro pins s σ H Q I h
  refine wpAny_Call_Name_kw (ld_glob I hg hm ?_ hdb)
  refine PySem.W.callWith_K (h₀:=X.base) I.ok.mod.kin hk (thn (ha pos pins s σ H _ I h) fun us s1 ⟨vs,H1,I1,r,q⟩=>⟨I1.kIn,?_⟩) he hpl
  exact run_fn F hr hb hd hx I1 r q
structure Mk (K : PySem.W.Frag) (C f : Addr) : Prop where
  makes : PySem.W.makesIn K C=true
  init : PySem.W.findIn K (.ref C) "__init__" = some (some (.ref f))
  fn : PySem.W.isFn K (.ref f)=true
  kp : PySem.W.keepIn K (.ref C)=true
end
section
variable {X : Cx} {CX : CXT} {k : Nat} {f C : Addr} {fd : FuncData} {ps ks : List Str} {sp : Sp} {E : XK} {x m : Str} {p pos apos kpos : Pos} {e o : Expr} {es : List Expr} {kws : List Keyword} {te ta : TE} {t tk : TA} {nm : Option Str}
structure KBinds (K : PySem.W.Frag) (fd : FuncData) (ps ks : List Str) (g : List Value->List Value->List Value) (gV : List V->List V->List V) : Prop where
  to : ∀ (s : Shared) (us ws : List Value),K.In s.heap->(g us ws).length=ps.length->BindsTo s fd ⟨us,ks.zip ws⟩ (ps.zip (g us ws))
  rel : ∀ {vs : List V} {us : List Value} {zs : List V} {ws : List Value},Vals vs us->Vals zs ws->Vals (gV vs zs) (g us ws)
variable {g : List Value->List Value->List Value} {gV : List V->List V->List V}
end
structure FnScope (N P : List Str) (sc : Scope) : Prop where
  kind : sc.kind = .function
  co : sc.isCoroutine=false
  gen : sc.isGenerator=false
  nd : N.Nodup
  pre : N.take P.length=P
  par : ∀ x∈P,sc.names.lookup x=some .local∨sc.names.lookup x=some .cell
  nofree : ∀ y∈sc.names,y.2≠.free
theorem z9x {kindOf : Str->Option NameKind} {x : Str} : ∀ {binds : List (Str × Value)} {m : Str->Option Value},(∀ v,(x,v) ∉ binds)->bindL kindOf binds m x=m x
  | [],_,_=>rfl
  | (n,v) :: r,m,h=>by
    unfold bindL
    rw [z9x fun w hw=>h w (List.mem_cons_of_mem _ hw)]
    split
    · have : x≠n:=by rintro rfl; exact h v List.mem_cons_self
      simp [this]
    · rfl
theorem z8Q {kindOf : Str->Option NameKind} {x : Str} : ∀ {binds : List (Str × Value)} {m : Str->Option Value},(∀ v,(x,v) ∉ binds)->bindC kindOf binds m x=m x
  | [],_,_=>rfl
  | (n,v) :: r,m,h=>by
    unfold bindC
    rw [z8Q fun w hw=>h w (List.mem_cons_of_mem _ hw)]
    split
    · rfl
    · have : x≠n:=by rintro rfl; exact h v List.mem_cons_self
      simp [this]
theorem z8X {kindOf : Str->Option NameKind} {x : Str} {v : Value} : ∀ {P : List Str} {vs : List Value} {i : Nat} {m : Str->Option Value},P.Nodup->P[i]? = some x->vs[i]? = some v->kindOf x=some .local →
    bindL kindOf (P.zip vs) m x=some v
  | [],_,_,_,_,h,_,_=>by simp at h
  | _ :: _,[],_,_,_,_,h,_=>by simp at h
  | p :: P,w :: vs,0,m,nd,h1,h2,hk=>by
    simp at h1 h2; subst h1; subst h2
    show bindL kindOf ((p,w) :: P.zip vs) m p=_
    unfold bindL
    rw [z9x fun v hv=>(List.nodup_cons.mp nd).1 (List.of_mem_zip hv).1,if_pos hk]
    simp
  | p :: P,w :: vs,i + 1,m,nd,h1,h2,hk=>by
    show bindL kindOf ((p,w) :: P.zip vs) m x=_
    unfold bindL
    exact z8X (i:=i) (List.nodup_cons.mp nd).2 (by simpa using h1) (by simpa using h2) hk
theorem z8Z {kindOf : Str->Option NameKind} {x : Str} {v : Value} : ∀ {P : List Str} {vs : List Value} {i : Nat} {m : Str->Option Value},P.Nodup->P[i]? = some x->vs[i]? = some v->kindOf x≠some .local →
    bindC kindOf (P.zip vs) m x=some v
  | [],_,_,_,_,h,_,_=>by simp at h
  | _ :: _,[],_,_,_,_,h,_=>by simp at h
  | p :: P,w :: vs,0,m,nd,h1,h2,hk=>by
    simp at h1 h2; subst h1; subst h2
    show bindC kindOf ((p,w) :: P.zip vs) m p=_
    unfold bindC
    rw [z8Q fun v hv=>(List.nodup_cons.mp nd).1 (List.of_mem_zip hv).1,if_neg hk]
    simp
  | p :: P,w :: vs,i + 1,m,nd,h1,h2,hk=>by
    show bindC kindOf ((p,w) :: P.zip vs) m x=_
    unfold bindC
    exact z8Z (i:=i) (List.nodup_cons.mp nd).2 (by simpa using h1) (by simpa using h2) hk
noncomputable def z4x (N : List Str) (vs : List V) : St:=vs.map some ++ List.replicate (N.length - vs.length) none
noncomputable def y3O (CX : CXT) (P : Program) (w : World) (K : PySem.W.Frag) (mg : Str->Option Value) (base : Heap) (N : List Str) (qual : Str) (scope : Scope) (f : Addr) (cd : Value) (A : Around) (outer : List Env) (s : Shared) (H : Hp) (E : XK) : Cx where
  prog:=P
  w:=w
  K:=K
  mg:=mg
  base:=base
  A:=A.deeper (envOfC qual scope s.heap.objs.size f cd)
  N:=N
  s₀:=s
  H₀:=H
  env:=envOfC qual scope s.heap.objs.size f cd
  outer:=outer
  stack:=envOfC qual scope s.heap.objs.size f cd :: outer
  ex:=[]
  calm:=true
  fn:=fun _=>true
  pn:=[]
  xe:=fun e s'=>wpAny (model P w) (A.deeper (envOfC qual scope s.heap.objs.size f cd)) (leaving (envOfC qual scope s.heap.objs.size f cd) e) (fun _ s''=>CX outer H s E e s'') (fun e' s''=>CX outer H s E e' s'') s'
theorem y1j {sc : Scope} {n : Nat} {x : Str} (h : sc.names.lookup x=some .cell) : ∃ c,(cellsFrom n sc.names []).lookup x=some c:=by
  have q:=PySem.W.cellsFrom_some sc.names n [] (.inl h)
  exact Option.isSome_iff_exists.mp q
theorem y2F {CX : CXT} {P : Program} {w : World} {K : PySem.W.Frag} {mg : Str->Option Value} {base : Heap} {N ps : List Str} {qual : Str} {scope : Scope} {f : Addr} {cd : Value} {A : Around} {outer : List Env} {s s1 : Shared} {H : Hp} {E : XK} {us : List Value} {vs : List V}
    (S : FnScope N ps scope) (hd : A.handled=none) (e0 : Env0 P w K mg base A outer s H) (hl : vs.length=ps.length) (r : Vals vs us)
    (x : InCallC s s.heap.objs.size (bindL (envOfC qual scope s.heap.objs.size f cd).kindOf (ps.zip us) fun _=>none) (cellsFrom (s.heap.objs.size + 1) scope.names []) (bindC (envOfC qual scope s.heap.objs.size f cd).kindOf (ps.zip us) fun _=>none) s1) :
    Inv (y3O CX P w K mg base N qual scope f cd A outer s H E) [] (z4x N vs) H s1:=by
  have hpl : ps.length≤N.length:=by have:=congrArg List.length S.pre; rw [List.length_take] at this; omega
  obtain ⟨h1,tk,rfl,hk⟩:=x.done
  have noA : ∀ b : Addr,b ∉ (y3O CX P w K mg base N qual scope f cd A outer s H E).ex:=fun b z=>absurd (show b∈([] : List Addr) from z) (by simp)
  refine ⟨⟨e0.mod,S.kind,rfl,rfl,Nat.le_refl _,fun y z c h1 h2=>?_,fun y hy=>?_,fun y c _ h=>?_,fun _=>hd,Around.frames_deeper e0.frames,.inr ⟨rfl,rfl⟩,fun b z=>absurd z (noA b),e0.bs,e0.bsz,fun b _ _=>noA b,fun b z=>absurd z (noA b),e0.funs,e0.frf⟩,
    rfl,e0.bare,Un.kept hk,⟨_,x.toInCall.ns,fun i y v h1 h2 h3=>?_⟩,fun y c h=>⟨_,x.cell y c h⟩,e0.hok.fresh (Nat.le_refl _),fun y c h=>?_,fun p hp=>absurd (show p∈([] : List (Addr × Obj)) from hp) (by simp),e0.hok.kept hk,?_⟩
  · exact name_of_addr x.apart (PySem.mem_of_lookup h1) (PySem.mem_of_lookup h2)
  · have hy : scope.names.lookup y=some .cell∨scope.names.lookup y=some .free:=hy
    rcases hy with hy | hy
    · exact y1j hy
    · exact absurd rfl (S.nofree _ (PySem.mem_of_lookup hy))
  · exact Nat.le_of_lt (x.above y c (PySem.mem_of_lookup h))
  · have hi : i < vs.length:=by
      unfold z4x at h2
      by_cases hi : i < vs.length
      · exact hi
      · rw [List.getElem?_append_right (by simpa using hi)] at h2
        rw [List.getElem?_replicate] at h2
        split at h2 <;> cases h2
    have ha : vs[i]? = some v:=by
      unfold z4x at h2
      rw [List.getElem?_append_left (by simpa using hi),List.getElem?_map] at h2
      cases e : vs[i]? with
      | none=>rw [e] at h2; cases h2
      | some a=>rw [e] at h2; cases h2; rfl
    obtain ⟨u,hu,rv⟩:=r.get ha
    have hp : ps[i]? = some y:=by
      rw [← S.pre,List.getElem?_take_of_lt (by omega)]; exact h1
    have ndP : ps.Nodup:=by rw [← S.pre]; exact S.nd.sublist (List.take_sublist _ _)
    refine ⟨u,rv,?_⟩
    rcases S.par y (List.mem_of_getElem? hp) with k | k
    · exact .inl ⟨k,z8X ndP hp hu k⟩
    · obtain ⟨c,e⟩:=y1j (n:=s.heap.objs.size + 1) k
      refine .inr ⟨.inl k,c,e,?_⟩
      have q:=x.cell y c e
      rw [z8Z ndP hp hu (by show scope.names.lookup y≠_; rw [k]; decide)] at q
      exact q
  · exact e0.hok.fresh (Nat.le_of_lt (x.above y c (PySem.mem_of_lookup h)))
  · unfold z4x
    show _=N.length
    rw [List.length_append,List.length_map,List.length_replicate]
    omega
theorem fn_of {CX : CXT} {P : Program} {w : World} {K : PySem.W.Frag} {mg : Str->Option Value} {base : Heap} {k : Nat} {f : Addr} {name qual : Str} {params : Arguments} {body : List Stmt} {scope : Scope} {dV kV doc pm cdv ct oc : Value} {an od : Option Addr}
    {osl : Array (Option Value)} {N ps : List Str} {sp : Sp} (lk : K.lookup f=some ⟨oc,od,.func (PySem.W.fnOf name qual params body scope dV kV doc pm an cdv ct),osl⟩) (hcd : PySem.W.codeIn K cdv qual=true) (S : FnScope N ps scope)
    (len : ∀ vs H Q E,sp vs H Q E->vs.length=ps.length)
    (hbody : ∀ (A : Around) (outer : List Env) (s : Shared) (H : Hp) (vs : List V) (Q : VK) (E : XK),Room k (A.deeper (envOfC qual scope s.heap.objs.size f cdv))->sp vs H Q E →
      ∃ t,PSs (y3O CX P w K mg base N qual scope f cdv A outer s H E) body t∧t { nx:=fun _ H'=>Q .non H',rt:=Q } (z4x N vs) H) :
    FnOk P w K mg base CX (k + 1) f (PySem.W.fnOf name qual params body scope dV kV doc pm an cdv ct) ps sp:=by
  refine ⟨len,fun A outer s H args us vs Q E hr e0 hb r hsp=>?_⟩
  have hl:=len _ _ _ _ hsp
  have KX : K.In s.heap:=e0.mod.kin.keeps fun b o e=>(e0.bs b o e).1
  have lim : s.heap.NoLimit:=e0.mod.nolimit.keeps fun b o e=>(e0.bs b o e).1
  have hkind : ∀ y∈ps.zip us,scope.names.lookup y.1=some .local∨(scope.names.lookup y.1=some .cell∧((cellsFrom (s.heap.objs.size + 1) scope.names []).lookup y.1).isSome=true):=fun ⟨n,v⟩ hy=>by
    rcases S.par n (List.of_mem_zip hy).1 with q | q
    · exact .inl q
    · exact .inr ⟨q,PySem.W.cellsFrom_some _ _ _ (.inl q)⟩
  refine codeAny_call_function hr.depth (KX _ _ lk) rfl S.co S.gen rfl (PySem.W.codeRec_of KX hcd) (hb _ _ _ _ ?_)
  refine wpAny_newFunctionEnv_cells S.kind hkind fun env he s1 x=>?_
  subst he
  refine ⟨lim.keeps x.toInCall.keep,codeAny_func ?_⟩
  obtain ⟨t,ht,hq⟩:=hbody A outer s H vs Q E (hr.deeper _) hsp
  have I : Inv (y3O CX P w K mg base N qual scope f cdv A outer s H E) [] (z4x N vs) H s1:=y2F S hr.hd e0 hl r x
  refine wpAny_mono (ht [] s1 (z4x N vs) H _ I hq) (fun fl s' hs=>?_) fun e s' hs=>hs
  have fin : ∀ {σ' : St} {H' : Hp} {v : V} {u : Value},Inv (y3O CX P w K mg base N qual scope f cdv A outer s H E) [] σ' H' s'->RelV v u->Q v H'->CE outer P w H s Q u s':=
    fun {σ' H' v u} J rv q=>⟨v,H',J.os,J.bare,J.base,J.hok,rv,q⟩
  cases fl with
  | ret u=>
    obtain ⟨v,σ',H',J,rv,q⟩:=hs
    exact fin J rv q
  | next=>
    obtain ⟨σ',H',J,q⟩:=hs
    exact fin (v:=V.non) (u:=Value.none) J rfl q
  | brk=>
    obtain ⟨_,_,_,q⟩:=hs
    exact False.elim q
  | cont=>
    obtain ⟨_,_,_,q⟩:=hs
    exact False.elim q
end L2
namespace L2
open PySem PySem.Spec PyProof.Rows
section
variable {X : Cx} {x : Str} {p pos : Pos} {e : Expr} {es : List Expr} {t : TA} {id T : String} {r : List V->Hp->VK->Prop}
noncomputable def tCB (r : List V->Hp->VK->Prop) (t : TA) : TE:=fun σ H Q=>t σ H fun vs H1=>r vs H1 Q
theorem z6i (hc : z5H X (.builtin id) r) (hg : Gl X x) (hm : X.mg x=none) (hv : bootBuiltins x=some (.builtin id)) (ha : PA X (e :: es) t) (hn : x ≠ "__name__" := by decide) (hdb : (x == ("__debug__" : Str))=false:=by decide)
    (he : starEach (e :: es) X.env=(false,eval e X.env) :: starEach es X.env:=by rfl) (hpl : (backTo pos (starEach es X.env)).any (·.1)=false:=by rfl) : PE X (.Call (.Name x p) (e :: es) [] pos) (tCB r t):=by
  intro pins s σ H Q I h
  refine wpAny_Call_Name_kw (z5e I hg hm hv ?_ hn hdb)
  exact PyProof.Rows.callWith_builtin1 (thn (ha pos pins s σ H _ I h) fun us s1 ⟨vs,H1,I1,r1,q1⟩=>hc pins s1 σ H1 vs us Q I1 r1 q1) he hpl
theorem z8W (hc : z5H X (.type T) r) (hg : Gl X x) (hm : X.mg x=none) (hv : bootBuiltins x=some (.type T)) (ha : PA X (e :: es) t) (hn : x ≠ "__name__" := by decide) (hdb : (x == ("__debug__" : Str))=false:=by decide)
    (he : starEach (e :: es) X.env=(false,eval e X.env) :: starEach es X.env:=by rfl) (hpl : (backTo pos (starEach es X.env)).any (·.1)=false:=by rfl) : PE X (.Call (.Name x p) (e :: es) [] pos) (tCB r t):=by
  intro pins s σ H Q I h
  refine wpAny_Call_Name_kw (z5e I hg hm hv ?_ hn hdb)
  exact PyProof.Rows.callWith_type1 (thn (ha pos pins s σ H _ I h) fun us s1 ⟨vs,H1,I1,r1,q1⟩=>hc pins s1 σ H1 vs us Q I1 r1 q1) he hpl
end
end L2
namespace HT
open PySem PyProof.Rows
section
open PySem.SeqAt
open PySem.AutoSeq1 (wpAny_loadPart')
open PySem.MeetsSeq PySem.MeetsSeq2 PySem.MeetsSeq3
end
section
variable {prog : Program} {w : World} {A : Around} {E : Value->Shared->Prop} {s : Shared}
noncomputable def sIx (n d : Nat) : Option Int->Nat
  | none=>d
  | some v=>if v < 0 then (v + (n : Int)).toNat else min v.toNat n
end
end HT
namespace L2
open PySem PySem.Spec PyProof.Rows
noncomputable abbrev TO:=St->Hp->(Option Int->Hp->Prop)->Prop
noncomputable def PO (X : Cx) (e : Option Expr) (t : TO) : Prop:=
  ∀ (pins : List (Addr × Obj)) (s : Shared) (σ : St) (H : Hp) (Q : Option Int->Hp->Prop),Inv X pins σ H s->t σ H Q →
    wpAny (model X.prog X.w) X.A (evalPart e X.env) (fun u s'=>∃ o H',Inv X pins σ H' s'∧IsPart u o∧Q o H') X.xe s
noncomputable def tNoPart : TO:=fun _ H Q=>Q none H
noncomputable def tPart (t : TE) : TO:=fun σ H Q=>t σ H fun x H1=>∃ i,x = .int i∧Q (some i) H1
theorem y2b {ns : List Int} : ∀ {us : List Value},Vals (ns.map V.int) us->IntsAre us ns:=by
  induction ns with
  | nil=>intro us r; rw [List.map_nil] at r; cases r; exact .nil
  | cons n ns ih=>
    intro us r
    rw [List.map_cons] at r
    cases r with
    | cons r1 r2=>
      obtain ⟨t,e⟩:=r1
      subst e
      exact .cons n t (ih r2)
section
variable {X : Cx} {e : Expr} {te : TE} {lo hi : Option Expr} {tl th : TO} {pos p2 : Pos}
theorem po_none : PO X none tNoPart:=by
  intro pins s σ H Q I h
  rw [evalPart_none]
  exact wpAny_pure ⟨none,H,I,.none,h⟩
theorem po_some (h : PE X e te) : PO X (some e) (tPart te):=by
  intro pins s σ H Q I hw
  rw [evalPart_some]
  refine thn (h pins s σ H _ I hw) fun u s1 ⟨x,H1,I1,r1,q1⟩=>?_
  obtain ⟨i,rfl,q⟩:=q1
  obtain ⟨t,rfl⟩:=r1
  exact ⟨some i,H1,I1,.int i t,q⟩
noncomputable def SlR (X : Cx) (r : V->Option Int->Option Int->Hp->VK->Prop) : Prop:=
  ∀ (pins : List (Addr × Obj)) (s : Shared) (σ : St) (H : Hp) (x : V) (v vl vu : Value) (lo hi : Option Int) (sl : Addr) (Q : VK),Inv X pins σ H s->RelV x v->s.heap.IsSliceOf sl vl vu .none->IsPart vl lo->IsPart vu hi->r x lo hi H Q →
    ∃ T id,typeLookup (.type T) "__getitem__" = pure (some (.builtin id))∧s.TypeIs v T∧wpAny (model X.prog X.w) X.A (getItem v (.ref sl)) (EP X pins σ Q) X.xe s
noncomputable def tSl (r : V->Option Int->Option Int->Hp->VK->Prop) (te : TE) (tl th : TO) : TE:=fun σ H Q=>te σ H fun x H1=>tl σ H1 fun l H2=>th σ H2 fun u H3=>r x l u H3 Q
theorem y5T {r : V->Option Int->Option Int->Hp->VK->Prop} (hr : SlR X r) (he : PE X e te) (hl : PO X lo tl) (hu : PO X hi th) : PE X (.Subscript e (.Slice lo hi none p2) pos) (tSl r te tl th):=by
  intro pins s σ H Q I h
  refine Subscript_ (thn (he pins s σ H _ I h) fun v s1 ⟨x,H1,I1,r1,q1⟩=>?_)
  refine wpAny_Slice (thn (hl pins s1 σ H1 _ I1 q1) fun vl s2 ⟨l,H2,I2,pl,q2⟩=>thn (hu pins s2 σ H2 _ I2 q2) fun vu s3 ⟨u,H3,I3,pu,q3⟩=>?_)
  rw [evalPart_none]
  refine wpAny_pure ?_
  have I4 : Inv X pins σ H3 { s3 with heap:=s3.heap.push { cls:=.type "slice",data:=.fields #[vl,vu,.none] } }:=I3.kept (t':=s3.toks) fun b ob q=>Heap.get?_push_of_some _ q
  obtain ⟨T,id,hT,ht,hg⟩:=hr pins { s3 with heap:=s3.heap.push { cls:=.type "slice",data:=.fields #[vl,vu,.none] } } σ H3 x v vl vu l u s3.heap.objs.size Q I4 r1 (Heap.IsSliceOf.new ..) pl pu q3
  show wpAny (model X.prog X.w) X.A (subscriptTail e (.Slice lo hi none p2) v (.ref s3.heap.objs.size)) (EP X pins σ Q) X.xe { s3 with heap:=s3.heap.push { cls:=.type "slice",data:=.fields #[vl,vu,.none] } }
  exact tail_any (ops:=[.ref s3.heap.objs.size,v]) ht hT hg (by with_unfolding_all rfl)
noncomputable def cutV (xs : List V) (lo hi : Option Int) : List V:=(xs.drop (HT.sIx xs.length 0 lo)).take (HT.sIx xs.length xs.length hi - HT.sIx xs.length 0 lo)
theorem z9W (xs : List V) (lo hi : Option Int) : (cutV xs lo hi).length≤xs.length:=by
  unfold cutV
  rw [List.length_take,List.length_drop]
  omega
end
end L2
namespace L2
open PySem PySem.Spec PyProof.Rows
noncomputable def ixN (n : Nat) (i : Int) : Option Nat:=if 0≤i then (if i < n then some i.toNat else none) else if -(n : Int)≤i then some (i + n).toNat else none
noncomputable def atI {α : Type} (xs : List α) (i : Int) : Option α:=(ixN xs.length i).bind fun j=>xs[j]?
theorem y3m {n : Nat} {i : Int} {j : Nat} (h : ixN n i=some j) : seqIndex? i n=some j∧j < n∧-(n : Int)≤i∧i < n:=by
  unfold ixN at h
  by_cases h0 : 0≤i
  · rw [if_pos h0] at h
    by_cases h1 : i < n
    · rw [if_pos h1] at h
      have e : i.toNat=j:=Option.some.inj h
      exact ⟨by rw [seqIndex_of h0 h1,e],by omega,by omega,h1⟩
    · rw [if_neg h1] at h; cases h
  · rw [if_neg h0] at h
    by_cases h1 : -(n : Int)≤i
    · rw [if_pos h1] at h
      have e : (i + n).toNat=j:=Option.some.inj h
      exact ⟨by rw [seqIndex_neg (by omega) h1,e],by omega,h1,by omega⟩
    · rw [if_neg h1] at h; cases h
theorem y0u {α : Type} {xs : List α} {i : Int} {v : α} (h : atI xs i=some v) : ∃ j,seqIndex? i xs.length=some j∧xs[j]? = some v∧j < xs.length∧-(xs.length : Int)≤i∧i < xs.length:=by
  unfold atI at h
  cases e : ixN xs.length i with
  | none=>rw [e] at h; cases h
  | some j=>
    rw [e] at h
    obtain ⟨h1,h2,h3,h4⟩:=y3m e
    exact ⟨j,h1,h,h2,h3,h4⟩
theorem z1N {α : Type} {xs : List α} {j : Nat} {v : α} (h : xs[j]? = some v) : atI xs (j : Int)=some v:=by
  have hj : j < xs.length:=(List.getElem?_eq_some_iff.mp h).1
  have e : ixN xs.length (j : Int)=some j:=by
    unfold ixN
    rw [if_pos (by omega),if_pos (by omega)]; simp
  unfold atI; rw [e]; exact h
noncomputable def z6K (b : Expr) : Prop:=∀ o i,subscripted b false o i=operate [o,i] (getItem o i)
noncomputable def IxR (X : Cx) (r : R2) : Prop:=
  ∀ (value slice : Expr) (pins : List (Addr × Obj)) (s : Shared) (σ : St) (H : Hp) (x y : V) (v u : Value) (Q : VK),Inv X pins σ H s->RelV x v->RelV y u->r x y H Q →
    subscripted slice false v u=operate [v,u] (getItem v u)->wpAny (model X.prog X.w) X.A (subscriptTail value slice v u) (EP X pins σ Q) X.xe s
noncomputable def MtR (X : Cx) (id : String) (r : V->List V->Hp->VK->Prop) : Prop:=
  ∀ (pins : List (Addr × Obj)) (s : Shared) (σ : St) (H : Hp) (x : V) (xs : List V) (v : Value) (us : List Value) (Q : VK),Inv X pins σ H s->RelV x v->Vals xs us->r x xs H Q →
    wpAny (model X.prog X.w) X.A (call (.builtin id) (v :: us)) (EP X pins σ Q) X.xe s
section
variable {X : Cx} {a b : Expr} {ta tb : TE} {pos : Pos}
theorem IxR.or {r r' : R2} (h : IxR X r) (h' : IxR X r') : IxR X (fun x y H Q=>r x y H Q∨r' x y H Q):=by
  intro value slice pins s σ H x y v u Q I rx ry q hs
  rcases q with q | q
  · exact h value slice pins s σ H x y v u Q I rx ry q hs
  · exact h' value slice pins s σ H x y v u Q I rx ry q hs
theorem y5L {r : R2} (hr : IxR X r) (ha : PE X a ta) (hb : PE X b tb) (hs : z6K b) : PE X (.Subscript a b pos) (tOp r ta tb):=by
  intro pins s σ H Q I h
  exact Subscript_ (binT ha hb I h fun v u s2 x y H2 I2 rx ry q=>hr a b pins s2 σ H2 x y v u Q I2 rx ry q (hs _ _))
noncomputable def rIxL (K : PySem.W.Frag) : R2:=fun x y H Q=>∃ p xs i v,x = .ref p∧y = .int i∧SqL K H p xs∧atI xs i=some v∧Q v H
noncomputable def rIxT (K : PySem.W.Frag) : R2:=fun x y H Q=>∃ p xs i v,x = .ref p∧y = .int i∧SqT K H p xs∧atI xs i=some v∧Q v H
noncomputable def rIxS : R2:=fun x y H Q=>∃ z i c,x = .str z∧y = .int i∧z.length≤sizeLine∧atI z.cps.toList i=some c∧Q (.str ⟨#[c]⟩) H
theorem ix_list : IxR X (rIxL X.K):=by
  intro value slice pins s σ H x y v u Q I rx ry h hs
  obtain ⟨p,xs,i,z,rfl,rfl,hq,he,q⟩:=h
  cases rx
  obtain ⟨t,rfl⟩:=ry
  obtain ⟨its,r,pl,hz⟩:=I.list hq
  obtain ⟨j,h1,h2,h3,h4,h5⟩:=y0u he
  obtain ⟨w,ew,rw'⟩:=r.get h2
  have hl:=r.length
  have hn:=z7n
  have fin : EP X pins σ Q w s:=⟨z,H,I,rw',q⟩
  by_cases h0 : 0≤i
  · have hj : i.toNat=j:=by
      rw [seqIndex_of h0 h5] at h1
      exact Option.some.inj h1
    exact item_listR pl.isList h0 (by omega) (by rw [hj]; simpa using ew) fin hs
  · have hj : (i + (its.toArray.size : Int)).toNat=j:=by
      rw [seqIndex_neg (by omega) h4] at h1
      rw [List.size_toArray,← hl]
      exact Option.some.inj h1
    exact subscriptTail_builtinR (x:=w) pl.isList.typeIs slot_list_getitem.lookup
      (wpAny_getItem_list_neg (Q:=fun r s'=>r=w∧EP X pins σ Q r s') pl.isList (by omega) (by rw [List.size_toArray] <;> omega) (by omega) (by rw [hj]; simpa using ew) ⟨rfl,fin⟩) hs
theorem ix_tup : IxR X (rIxT X.K):=by
  intro value slice pins s σ H x y v u Q I rx ry h hs
  obtain ⟨p,xs,i,z,rfl,rfl,hq,he,q⟩:=h
  cases rx
  obtain ⟨t,rfl⟩:=ry
  obtain ⟨its,r,pl,hz⟩:=I.tuple hq
  obtain ⟨j,h1,h2,h3,h4,h5⟩:=y0u he
  obtain ⟨w,ew,rw'⟩:=r.get h2
  have hl:=r.length
  have hn:=z7n
  have fin : EP X pins σ Q w s:=⟨z,H,I,rw',q⟩
  exact subscriptTail_builtinR (x:=w) pl.typeIs slot_tuple_getitem.lookup
    (getItem_tuple (j:=j) (Q:=fun r s'=>r=w∧EP X pins σ Q r s') pl (by omega) (by omega) (by rw [List.size_toArray,← hl]; exact h1) (by simpa using ew) ⟨rfl,fin⟩) hs
theorem ix_str : IxR X rIxS:=by
  intro value slice pins s σ H x y v u Q I rx ry h hs
  obtain ⟨z,i,c,rfl,rfl,hz,he,q⟩:=h
  obtain ⟨t,rfl⟩:=rx
  obtain ⟨t',rfl⟩:=ry
  obtain ⟨j,h1,h2,h3,h4,h5⟩:=y0u he
  have hl : z.cps.toList.length=z.length:=by simp [Str.length]
  rw [hl] at h1 h4 h5
  have hn:=z7n
  exact tail_any (typeIs_str s z t) slot_str_getitem.lookup (getItem_str (c:=c) (by
    have e1 : decide (i < -(2 ^ 63 : Int))=false:=decide_eq_false (by omega)
    have e2 : decide (i ≥ 2 ^ 63)=false:=decide_eq_false (by omega)
    rw [e1,e2,Bool.or_false]) (by rw [h1]; simpa using h2) ⟨.str ⟨#[c]⟩,H,I.tok _,⟨_,rfl⟩,q⟩) hs
noncomputable def rIx (K : PySem.W.Frag) : R2:=fun x y H Q=>rIxL K x y H Q∨rIxT K x y H Q∨rIxS x y H Q
theorem y7m : IxR X (rIx X.K):=ix_list.or (ix_tup.or ix_str)
theorem y1G (its : List Value) (n j : Nat) (u : Value) : Obj.mapSeq (·.setIfInBounds j u) { cls:=.type "list",data:=.seq its.toArray n } = { cls:=.type "list",data:=.seq (its.set j u).toArray n }:=by
  simp [Obj.mapSeq]
theorem Inv.lst {pins : List (Addr × Obj)} {σ : St} {H : Hp} {s : Shared} {p : Addr} {xs : List V} (I : Inv X pins σ H s) (h : H p=some (.lst xs)) :
    ∃ (its : List Value) (n : Nat),Vals xs its∧s.heap.get? p=some { cls:=.type "list",data:=.seq its.toArray n }∧xs.length≤sizeLine:=by
  obtain ⟨z,its,n,r,e⟩:=I.hok p _ h
  exact ⟨its,n,r,e,z⟩
theorem Inv.lstUpd {pins : List (Addr × Obj)} {σ : St} {H : Hp} {s : Shared} {p : Addr} {xs ys : List V} {its its' : List Value} {n n' : Nat} {f : Obj->Obj} (I : Inv X pins σ H s) (h : H p=some (.lst xs))
    (ho : s.heap.get? p=some { cls:=.type "list",data:=.seq its.toArray n }) (hf : f { cls:=.type "list",data:=.seq its.toArray n } = { cls:=.type "list",data:=.seq its'.toArray n' }) (r : Vals ys its') (hz : ys.length≤sizeLine) (t : Nat) :
    Inv X pins σ (upd H p (.lst ys)) { s with heap:=s.heap.update p f,toks:=t }:=by
  have e : (s.heap.update p f).get? p=some { cls:=.type "list",data:=.seq its'.toArray n' }:=by
    rw [Heap.get?_update_self f ho (by rw [hf] <;> rfl),hf]
  refine I.write (x:=p) (e:=p) (by rw [h]; trivial) (.inl rfl) (fun b u hb q=>(Heap.get?_update_other _ _ (Ne.symm hb)).trans q) ⟨_,e⟩ ?_
  exact ⟨hz,its',n',r,e⟩
noncomputable def rSetL : V->V->V->Hp->(Hp->Prop)->Prop:=fun o i v H Q=>∃ p xs k j,o = .ref p∧i = .int k∧H p=some (.lst xs)∧ixN xs.length k=some j∧Q (upd H p (.lst (xs.set j v)))
theorem z8u : PSet X rSetL:=by
  intro pins s σ H o i v ov iv u Q I ro ri rv h
  obtain ⟨p,xs,k,j,rfl,rfl,hp,hj,q⟩:=h
  cases ro
  obtain ⟨t,rfl⟩:=ri
  obtain ⟨its,n,r,ho,hz⟩:=I.lst hp
  obtain ⟨h1,h2,h3,h4⟩:=y3m hj
  have hl:=r.length
  have hn:=z7n
  have I' : Inv X pins σ (upd H p (.lst (xs.set j v))) { s with heap:=s.heap.update p (Obj.mapSeq (·.setIfInBounds j u)) }:=
    I.lstUpd hp ho (y1G its n j u) (r.set rv j) (by rw [List.length_set]; exact hz) s.toks
  by_cases h0 : 0≤k
  · have hk : k.toNat=j:=by
      rw [seqIndex_of h0 h4] at h1
      exact Option.some.inj h1
    exact PySem.W.ki_setAt ho h0 (by omega) (by rw [List.size_toArray,← hl]; exact h4) (by rw [hk]; exact ⟨_,I',q⟩)
  · have hk : (k + (its.toArray.size : Int)).toNat=j:=by
      rw [seqIndex_neg (by omega) h3] at h1
      rw [List.size_toArray,← hl]
      exact Option.some.inj h1
    exact PySem.W.ki_setBack ho (by omega) (by rw [List.size_toArray,← hl]; exact h3) (by omega) (by rw [hk]; exact ⟨_,I',q⟩)
theorem y7u (i : Int) (n d : Nat) : max 0 (min (if i < 0 then i + (n : Int) else i) (n : Int))=((HT.sIx n d (some i) : Nat) : Int):=by
  show max 0 (min (if i < 0 then i + (n : Int) else i) (n : Int))=(((if i < 0 then (i + (n : Int)).toNat else min i.toNat n) : Nat) : Int)
  by_cases h : i < 0
  · simp only [h,if_true]; omega
  · simp only [h,if_false]; omega
theorem z8V (lo hi : Option Int) (n : Nat) : (sliceBounds lo hi none n).1=((HT.sIx n 0 lo : Nat) : Int)∧(sliceBounds lo hi none n).2.1=((HT.sIx n n hi : Nat) : Int)∧(sliceBounds lo hi none n).2.2=1:=by
  refine ⟨?_,?_,rfl⟩
  · cases lo with
    | none=>simp [sliceBounds,HT.sIx]
    | some i=>
      simp only [sliceBounds,Option.getD_none,show (1 : Int) > 0 by decide,if_true]
      exact y7u i n 0
  · cases hi with
    | none=>simp [sliceBounds,HT.sIx]
    | some i=>
      simp only [sliceBounds,Option.getD_none,show (1 : Int) > 0 by decide,if_true]
      exact y7u i n n
theorem z8g (its : List Value) (lo hi : Option Int) : slicePick its.toArray lo hi none=((its.drop (HT.sIx its.length 0 lo)).take (HT.sIx its.length its.length hi - HT.sIx its.length 0 lo)).toArray:=by
  obtain ⟨h1,h2,h3⟩:=z8V lo hi its.toArray.size
  unfold slicePick
  rw [h1,h2,h3]
  simp only [sliceRange_one,pick_run,List.size_toArray] <;> rfl
noncomputable def rSlL (K : PySem.W.Frag) : V->Option Int->Option Int->Hp->VK->Prop:=fun x lo hi H Q=>∃ a xs,x = .ref a∧SqL K H a xs∧∀ p,H p=none->Q (.ref p) (upd H p (.lst (cutV xs lo hi)))
theorem sl_list : SlR X (rSlL X.K):=by
  intro pins s σ H x v vl vu lo hi sl Q I rx hs pl pu h
  obtain ⟨a,xs,rfl,hx,q⟩:=h
  cases rx
  obtain ⟨its,r,ht,hz⟩:=I.list hx
  have hlen:=r.length
  refine ⟨"list",_,slot_list_getitem.lookup,ht.isList.typeIs,?_⟩
  refine wpAny_getItem_list_slice ht.isList hs pl pu .none (by simp) ?_ (by rw [List.size_toArray] <;> omega)
  rw [z8g,← hlen]
  refine ⟨.ref s.heap.objs.size,_,I.laid (t':=s.toks) (o:=.lst (cutV xs lo hi)) (fun b ob q=>Heap.get?_push_of_some _ q) (Nat.le_refl _) ?_,rfl,q _ (I.hok.fresh (Nat.le_refl _))⟩
  exact ⟨Nat.le_trans (z9W xs lo hi) hz,_,0,(r.drop (HT.sIx xs.length 0 lo)).take (HT.sIx xs.length xs.length hi - HT.sIx xs.length 0 lo),Heap.get?_push_size _ rfl⟩
theorem z9c : z5H X (.type "list") (fun xs H Q=>∃ p ys,xs=[.ref p]∧(SqL X.K H p ys∨SqT X.K H p ys)∧∀ l,H l=none->Q (.ref l) (upd H l (.lst ys))):=by
  intro pins s σ H xs us Q I r h
  obtain ⟨p,ys,rfl,hq,q⟩:=h
  obtain ⟨u,rfl,rx⟩:=z9g r
  cases rx
  have fin : ∀ (its : List Value),Vals ys its->ys.length≤sizeLine->∀ (h' : Heap) (c' : Nat),(∀ b o',s.heap.get? b=some o'->h'.get? b=some o') →
      h'.get? s.heap.objs.size=some { cls:=.type "list",dict:=none,data:=.seq its.toArray c',slots:=#[] }->EP X pins σ Q (.ref s.heap.objs.size) { s with heap:=h' }:=fun its r' hz h' c' kp e=>
    ⟨.ref s.heap.objs.size,_,I.laid (t':=s.toks) kp (Nat.le_refl _) (show ObjOk X.prog X.w _ h' _ (.lst ys) from ⟨hz,its,c',r',e⟩),rfl,q _ (I.hok.fresh (Nat.le_refl _))⟩
  rcases hq with hq | hq
  · obtain ⟨its,r',pl,hz⟩:=I.list hq
    have hlen:=r'.length
    obtain ⟨o,ho,hc,n,hd⟩:=pl.isList
    exact call_list_seq p (.inl rfl) ho hc hd (fun h' c' kp e=>fin its r' hz h' c' kp e) (by simp only [List.size_toArray] <;> omega)
  · obtain ⟨its,r',pl,hz⟩:=I.tuple hq
    have hlen:=r'.length
    obtain ⟨o,ho,hc,n,hd⟩:=pl
    exact call_list_seq p (.inr rfl) ho hc hd (fun h' c' kp e=>fin its r' hz h' c' kp e) (by simp only [List.size_toArray] <;> omega)
noncomputable def tyV (K : PySem.W.Frag) (T : String) (x : V) (H : Hp) : Prop:=match x with
  | .str _=>T = "str"
  | .int _=>T = "int"
  | .ref p=>(T = "list" ∧ ∃ xs,SqL K H p xs)∨(T = "tuple" ∧ ∃ o,K.lookup p=some o∧o.cls = .type "tuple" ∧ o.dict=none) ∨
      (T = "dict" ∧ ((∃ kvs,H p=some (.dK kvs))∨∃ kvs,H p=some (.dT kvs)))∨(T = "set" ∧ ∃ S n,H p=some (.set S n))
  | _=>False
theorem tyV_is {pins : List (Addr × Obj)} {σ : St} {H : Hp} {s : Shared} {T : String} {x : V} {v : Value} (I : Inv X pins σ H s) (r : RelV x v) (ty : tyV X.K T x H) :
    s.TypeIs v T∧∀ a,v = .ref a->∃ ob,s.heap.get? a=some ob∧ob.dict=none:=by
  cases x with
  | str z=>
    obtain ⟨t,rfl⟩:=r
    cases (show T = "str" from ty)
    exact ⟨typeIs_str s z t,fun _ e=>nomatch e⟩
  | int i=>
    obtain ⟨t,rfl⟩:=r
    cases (show T = "int" from ty)
    exact ⟨typeIs_int s i t,fun _ e=>nomatch e⟩
  | ref p=>
    cases r
    rcases ty with ⟨rfl,xs,hq⟩ | ⟨rfl,o,hk,hc,hd⟩ | ⟨rfl,hk⟩ | ⟨rfl,S,n,hk⟩
    · obtain ⟨its,_,pl,_⟩:=I.list hq
      refine ⟨pl.isList.typeIs,fun a e=>?_⟩
      cases e
      obtain ⟨o,n,e,c,hd,_⟩:=pl
      exact ⟨o,e,hd⟩
    · refine ⟨⟨o,I.kIn p o hk,hc⟩,fun a e=>?_⟩
      cases e
      exact ⟨o,I.kIn _ o hk,hd⟩
    · have z : ∃ o,s.heap.get? p=some o∧o.ExactDict:=by
        rcases hk with ⟨kvs,hk⟩ | ⟨kvs,hk⟩
        · obtain ⟨_,_,_,_,o,_,_,e,ex,_⟩:=I.hok p _ hk
          exact ⟨o,e,ex⟩
        · obtain ⟨_,_,_,_,o,_,_,e,ex,_⟩:=I.hok p _ hk
          exact ⟨o,e,ex⟩
      obtain ⟨o,e,ex⟩:=z
      refine ⟨⟨o,e,ex.1⟩,fun a e2=>?_⟩
      cases e2
      exact ⟨o,e,ex.2.1⟩
    · obtain ⟨o,_,_,_,e,ex,_⟩:=I.hok p _ hk
      refine ⟨⟨o,e,ex.1⟩,fun a e2=>?_⟩
      cases e2
      exact ⟨o,e,ex.2.1⟩
  | _=>exact False.elim ty
noncomputable def tBM (K : PySem.W.Frag) (T : String) (r : V->List V->Hp->VK->Prop) (to : TE) (t : TA) : TE:=fun σ H Q=>to σ H fun x H1=>tyV K T x H1∧t σ H1 fun xs H2=>r x xs H2 Q
variable {o e : Expr} {es : List Expr} {to : TE} {t : TA} {name : Str} {apos cpos : Pos} {T id : String} {r : V->List V->Hp->VK->Prop}
theorem y2t (pa : PlainAttrs T) (slot : Slot T name id) (hty : typeOf (.builtin id)=pure (.type "method_descriptor")) (hm : MtR X id r) (ho : PE X o to) (ha : PA X (e :: es) t)
    (hbase : attributeBase o name X.env (eval o X.env)=eval o X.env:=by rfl)
    (hfew : ((backTo cpos (starEach (e :: es) X.env)).all (fun x=>!x.1) && (backToKw cpos (keywordEach [] X.env)).all (fun x=>x.1.isSome)
      && decide ((e :: es).length + ([] : List Keyword).length + (if ([] : List Keyword).isEmpty then 0 else 1) < 30))=true:=by rfl)
    (hline : (apos.endLine == cpos.line)=true:=by rfl) (hs : starEach (e :: es) X.env=(false,eval e X.env) :: starEach es X.env:=by rfl) (hplain : (backTo cpos (starEach es X.env)).any (·.1)=false:=by rfl) :
    PE X (.Call (.Attribute o name apos) (e :: es) [] cpos) (tBM X.K T r to t):=by
  intro pins s σ H Q I h
  refine wpAny_Call_method_late hbase hfew hline rfl (thn (ho pins s σ H _ I h) fun v s1 ⟨x,H1,I1,r1,ty,q1⟩=>?_)
  obtain ⟨h1,h2⟩:=tyV_is I1 r1 ty
  refine ⟨T,id,pa,slot,hty,h1,h2,?_⟩
  have hA:=ha cpos pins s1 σ H1 _ I1 q1
  rw [hs] at hA ⊢
  refine Calls.callWith_builtin (by show (false || (backTo cpos (starEach es X.env)).any (·.1))=false; rw [hplain] <;> rfl) (Calls.evalArgs_plain ?_)
  exact thn hA fun us s2 ⟨vs,H2,I2,r2,q2⟩=>hm pins s2 σ H2 x vs v us Q I2 r1 r2 q2
end
end L2
namespace L2
open PySem PySem.Spec PyProof.Rows
noncomputable def MtM (X : Cx) (id : String) (r : V->List V->Hp->VK->Prop) : Prop:=
  ∀ (pins : List (Addr × Obj)) (s : Shared) (σ : St) (H : Hp) (x : V) (xs : List V) (v : Value) (us : List Value) (Q : VK),Inv X pins σ H s->RelV x v->Vals xs us->r x xs H Q →
    wpAny (model X.prog X.w) X.A (call (.builtin id) (v :: us)) (EP X pins σ Q) X.xe s
theorem Vals.one : ∀ {x : V} {us : List Value},Vals [x] us->∃ u,us=[u]∧RelV x u:=fun h=>by
  cases h with | cons r h=>cases h; exact ⟨_,rfl,r⟩
theorem Vals.two : ∀ {x y : V} {us : List Value},Vals [x,y] us->∃ u v,us=[u,v]∧RelV x u∧RelV y v:=fun h=>by
  cases h with | cons r h=>obtain ⟨_,rfl,q⟩:=Vals.one h; exact ⟨_,_,rfl,r,q⟩
theorem Vals.rep {xs : List V} {us : List Value} (h : Vals xs us) : ∀ k : Nat,Vals (List.replicate k xs).flatten (List.replicate k us).flatten
  | 0=>.nil
  | k + 1=>by
    rw [List.replicate_succ,List.replicate_succ,List.flatten_cons,List.flatten_cons]
    exact Vals.append h (Vals.rep h k)
theorem z9F (its : List Value) : ∀ (k : Nat) (acc : List Value),
    List.foldl (fun x1 x2=>x1 ++ x2) acc.toArray (List.replicate k its.toArray)=(acc ++ (List.replicate k its).flatten).toArray
  | 0,acc=>by simp
  | k + 1,acc=>by
    have e : acc.toArray ++ its.toArray=(acc ++ its).toArray:=by simp
    have e2 : (acc ++ its) ++ (List.replicate k its).flatten=acc ++ (List.replicate (k + 1) its).flatten:=by
      rw [List.replicate_succ,List.flatten_cons,List.append_assoc]
    rw [← e2,← z9F its k (acc ++ its),← e,List.replicate_succ,List.foldl_cons]
section
variable {X : Cx} {pins : List (Addr × Obj)} {σ : St} {H : Hp} {s : Shared} {l b : Addr} {xs ys zs : List V}
theorem Inv.lset {its its' : List Value} {n : Nat} {f : Array Value->Array Value} {t' : Nat} (I : Inv X pins σ H s) (hH : H l=some (.lst xs))
    (e : s.heap.get? l=some { cls:=.type "list",data:=.seq its.toArray n }) (hf : f its.toArray=its'.toArray) (hv : Vals ys its') (hz : ys.length≤sizeLine) :
    Inv X pins σ (upd H l (.lst ys)) { s with heap:=s.heap.update l (Obj.mapSeq f),toks:=t' }:=by
  have q:=PySem.IsL.update e f
  rw [hf] at q
  refine I.write (x:=l) (e:=l) (by rw [hH]; exact trivial) (.inl rfl) (fun b' u hb hu=>(Heap.get?_update_other s.heap (Obj.mapSeq f) (Ne.symm hb)).trans hu) ⟨_,q⟩ ?_
  exact ⟨hz,its',_,hv,q⟩
theorem Inv.lnew {its : List Value} {t' : Nat} (I : Inv X pins σ H s) (hv : Vals ys its) (hz : ys.length≤sizeLine) :
    Inv X pins σ (upd H s.heap.objs.size (.lst ys)) { s with heap:=s.heap.push { cls:=.type "list",data:=.seq its.toArray },toks:=t' }:=
  I.laid (fun _ _ q=>Heap.get?_push_of_some _ q) (Nat.le_refl _) ⟨hz,its,0,hv,Heap.get?_push_size _ rfl⟩
theorem Inv.fresh (I : Inv X pins σ H s) : H s.heap.objs.size=none:=I.hok.fresh (Nat.le_refl _)
theorem Inv.lstM (I : Inv X pins σ H s) (hH : H l=some (.lst xs)) : xs.length≤sizeLine∧∃ (its : List Value) (n : Nat),Vals xs its∧xs.length=its.length∧s.heap.get? l=some { cls:=.type "list",data:=.seq its.toArray n }:=by
  obtain ⟨z,its,n,r,e⟩:=I.hok l _ hH
  exact ⟨z,its,n,r,r.length,e⟩
theorem y1x {n : Nat} (h : n≤sizeLine) : Builtin.List.listTooLong n=false:=by
  unfold Builtin.List.listTooLong
  exact decide_eq_false (by omega)
end
section
variable {X : Cx}
noncomputable def y3k : V->List V->Hp->VK->Prop:=fun x vs H Q=>∃ l xs y,x = .ref l∧vs=[y]∧H l=some (.lst xs)∧xs.length < sizeLine∧Q .non (upd H l (.lst (xs ++ [y])))
theorem z1O : MtM X "list.append" y3k:=by
  intro pins s σ H x vs v us Q I rx rv h
  obtain ⟨l,xs,y,rfl,rfl,hH,hz,q⟩:=h
  cases rx
  obtain ⟨u,rfl,ru⟩:=rv.one
  obtain ⟨z,its,n,r,hl,e⟩:=I.lstM hH
  refine call_meets F.slot_list_append ⟨_,e,rfl⟩ F.entry_list_append (F.args_list_append_2 _ _) (PySem.list_append l its.toArray n u (by rw [List.size_toArray]; omega)) ⟨e,?_⟩
  refine ⟨.non,_,I.lset (its':=its ++ [u]) hH e (by simp) (r.append (.cons ru .nil)) ?_,rfl,q⟩
  rw [List.length_append,List.length_singleton]
  omega
noncomputable def rExtend : V->List V->Hp->VK->Prop:=fun x vs H Q=>∃ l b xs zs,x = .ref l∧vs=[.ref b]∧H l=some (.lst xs)∧H b=some (.lst zs)∧xs.length + zs.length≤sizeLine∧Q .non (upd H l (.lst (xs ++ zs)))
theorem z9p : MtM X "list.extend" rExtend:=by
  intro pins s σ H x vs v us Q I rx rv h
  obtain ⟨l,b,xs,zs,rfl,rfl,hH,hB,hz,q⟩:=h
  cases rx
  obtain ⟨u,rfl,ru⟩:=rv.one
  cases ru
  obtain ⟨z,its,n,r,hl,e⟩:=I.lstM hH
  obtain ⟨z2,its2,n2,r2,hl2,e2⟩:=I.lstM hB
  have hsz : its.toArray.size + its2.toArray.size≤sizeLine:=by rw [List.size_toArray,List.size_toArray]; omega
  have hlong : ¬ (!its.toArray.isEmpty && Builtin.List.listTooLong (its.toArray.size + its2.toArray.size))=true:=by
    rw [y1x hsz,Bool.and_false]
    exact Bool.false_ne_true
  refine call_meets F.slot_list_extend ⟨_,e,rfl⟩ F.entry_list_extend (F.args_list_extend_2 _ _)
    (AutoSeq1.list_extend_list_list_0 l its.toArray n b its2.toArray n2 hlong (by rw [List.size_toArray]; omega) (by omega)) ⟨e,e2,?_⟩
  refine ⟨.non,_,I.lset (its':=its ++ its2) hH e (by simp) (r.append r2) ?_,rfl,q⟩
  rw [List.length_append]
  omega
noncomputable def rCat : R2:=fun x y H Q=>∃ l b xs zs,x = .ref l∧y = .ref b∧H l=some (.lst xs)∧H b=some (.lst zs)∧xs.length + zs.length≤sizeLine∧∀ p,H p=none->Q (.ref p) (upd H p (.lst (xs ++ zs)))
theorem op_cat : OpR X (binaryOp .Add) rCat:=by
  intro pins s σ H x y v u Q I rx ry h
  obtain ⟨l,b,xs,zs,rfl,rfl,hH,hB,hz,q⟩:=h
  cases rx
  cases ry
  obtain ⟨z,its,n,r,hl,e⟩:=I.lstM hH
  obtain ⟨z2,its2,n2,r2,hl2,e2⟩:=I.lstM hB
  refine PySem.P.add_list e e2 ?_ (by rw [List.size_toArray,List.size_toArray]; omega)
  have ea : its.toArray ++ its2.toArray=(its ++ its2).toArray:=by simp
  rw [ea]
  exact ⟨.ref _,_,I.lnew (t':=s.toks) (r.append r2) (by rw [List.length_append]; omega),rfl,q _ I.fresh⟩
noncomputable def rRep : R2:=fun x y H Q=>∃ l k xs,x = .ref l∧y = .int k∧H l=some (.lst xs)∧-(2 ^ 63)≤k∧k < 2 ^ 63∧xs.length * k.toNat≤sizeLine ∧
  ∀ p,H p=none->Q (.ref p) (upd H p (.lst (List.replicate k.toNat xs).flatten))
theorem len_rep {α : Type} (xs : List α) (k : Nat) : (List.replicate k xs).flatten.length=k * xs.length:=by
  induction k with
  | zero=>simp
  | succ k ih=>rw [List.replicate_succ,List.flatten_cons,List.length_append,ih,Nat.succ_mul,Nat.add_comm]
theorem op_rep : OpR X (binaryOp .Mult) rRep:=by
  intro pins s σ H x y v u Q I rx ry h
  obtain ⟨l,k,xs,rfl,rfl,hH,h1,h2,hz,q⟩:=h
  cases rx
  obtain ⟨t,rfl⟩:=ry
  obtain ⟨z,its,n,r,hl,e⟩:=I.lstM hH
  have hlen : its.toArray.size * k.toNat≤sizeLine:=by rw [List.size_toArray,← hl]; exact hz
  have hcap : ¬ its.toArray.size * k.toNat > (2 ^ 63 - 1) / 8:=by
    have : (sizeLine : Nat)≤(2 ^ 63 - 1) / 8:=by decide
    omega
  have hfit : ¬ (!Builtin.List.listFitsIndex k)=true:=by
    rw [fitsIndex_both h1 h2]
    exact Bool.false_ne_true
  have hlong : ¬ Builtin.List.listTooLong (its.toArray.size * k.toNat)=true:=by
    rw [y1x hlen]
    exact Bool.false_ne_true
  have hnew : List.foldl (fun x1 x2=>x1 ++ x2) #[] (List.replicate (if its.toArray.isEmpty=true then 0 else k.toNat) its.toArray)=(List.replicate k.toNat its).flatten.toArray:=by
    have f0 : ∀ m : Nat,List.foldl (fun x1 x2=>x1 ++ x2) #[] (List.replicate m its.toArray)=(List.replicate m its).flatten.toArray:=fun m=>by
      have:=z9F its m []
      rw [List.nil_append] at this
      exact this
    rw [f0]
    cases its with
    | nil=>simp
    | cons a r'=>rw [if_neg (by simp)]
  refine wpAny_binaryOp_repeat_ref (T := "list") (U := "int") (by decide) ⟨_,e,rfl⟩ (fun s'=>typeIs_int s' k t) noFill_list_mul F.fills_int_mul F.slot_int_rmul repeat_list F.slot_int_index.lookup
    (call_meets F.slot_int_rmul (typeIs_int s k t) F.entry_int_rmul (F.args_int_rmul_2 _ _) (int___rmul___int_list k t l its.toArray n)
      ⟨e,rfl,⟨_,e,rfl⟩,call_meets F.slot_list_mul ⟨_,e,rfl⟩ F.entry_list_mul (F.args_list_mul_2 _ _) (AutoListH.list___mul___list_int_3 l its.toArray n k t hfit hcap hlong) ⟨e,?_⟩⟩)
  rw [hnew]
  exact ⟨.ref _,_,I.lnew (t':=s.toks) (r.rep k.toNat) (by rw [len_rep,Nat.mul_comm]; exact hz),rfl,q _ I.fresh⟩
end
section
variable {prog : Program} {w : World} {A : Around} {E : Value->Shared->Prop} {s : Shared}
end
section
variable {X : Cx}
end
end L2
namespace Att
open PySem PySem.W PySem.Calls PyProof.Rows
theorem z6N {P : Params} {h : Heap} : ∀ (ns : List Int) (vs : List Value),WellAll P h vs (ns.map WData.int)->IntsAre vs ns:=by
  intro ns
  induction ns with
  | nil=>
    intro vs w
    rw [List.map_nil] at w
    cases w
    exact .nil
  | cons n ns ih=>
    intro vs w
    rw [List.map_cons] at w
    cases w with
    | cons a b=>
      cases a
      exact .cons _ _ (ih _ b)
theorem y4p {l : OpenLaw} {n : Nat} (hn : l.most=some n) {P : Params} {h : Heap} {args : List WData} {vals : List Value}
    (hpre : l.row.toRowW.claim.pre args=true) (hwl : WellAll P h vals args) :
    ∃ a vs ns,vals=[Value.ref a]∧args=[WData.list (ns.map WData.int)]∧h.get? a=some { cls:=.type "list",data:=.seq vs.toArray }∧IntsAre vs ns∧ns.length≤n:=by
  have hsh : WShape.hasAll [] args [.list .int]=true:=(pre_splitW hpre).1
  have hc : l.pre.holds [] { args:=args } = true:=(pre_splitW hpre).2
  obtain ⟨d,r,rfl,h1,h2⟩:=hasAllW_cons hsh
  obtain rfl:=hasAllW_nil h2
  obtain ⟨xs,rfl,h3⟩:=hasW_list h1
  obtain ⟨ns,rfl⟩:=items_int h3
  have hlen : ns.length≤n:=by
    unfold OpenLaw.pre at hc
    have h4 : (WTm.not (.lt (.lit (.int (n : Int))) (.len (.arg 0)))).holds [] { args:=[.list (ns.map .int)] } = true:=by
      have h4:=(holds_andW hc).1
      rw [hn] at h4
      exact h4
    have h5:=condW_of h4 (w_not (w_lt w_lit (w_len_list (w_arg rfl))))
    rw [List.length_map] at h5
    refine Nat.le_of_not_lt fun q=>?_
    have q' : (n : Int) < ((ns.length : Nat) : Int):=by omega
    first
      | (rw [decide_eq_true q'] at h5; exact absurd h5 (by decide))
      | (simp at h5; omega)
  cases hwl with
  | cons w1 w2=>
    cases w2
    cases w1 with
    | list ho hall=>exact ⟨_,_,ns,rfl,rfl,ho,z6N ns _ hall,hlen⟩
theorem y5d (l : OpenLaw) (args : List WData) : l.row.toRowW.claim.post args (.bool true) args=true:=
  postW_of (r:=l.row.toRowW) (X:=(true == true))
    (show WShape.has [] (.bool true) .bool=true by first | rfl | decide | simp [WShape.has,WShape.arms,WShape.armsAll])
    (show (WTm.eq .res (.lit (.bool true))).value [] { args:=args,res:=some (.bool true),after:=args } = some (.bool (true == true)) from w_eq_bool (w_res rfl) w_lit) rfl
theorem attach_call {l : OpenLaw} {n : Nat} {q : Program} {loose : List Str} {XP : (Str->Option Value)->Heap->Prop} {YP : World->Heap->Prop} {d : DefRec}
    (hn : l.most=some n) (hdf : d.params.defaults=[])
    (call : ∀ (w : World) (s₀ s₁ : Shared) (mg mb : Str->Option Value) (fa : Addr) (o : Obj) (pm cd doc : Value) (a : Addr) (vs : List Value) (ns : List Int),
      Ground q loose [] XP w s₀ mg mb s₁.heap->YP w s₁.heap →
      s₁.heap.get? fa=some o->o.data = .func (docDef d.name d.params d.body d.scope pm cd doc)->s₁.heap.CodeRec cd d.name->mg d.name=some (.ref fa) →
      s₁.heap.get? a=some { cls:=.type "list",data:=.seq vs.toArray }->IntsAre vs ns->ns.length≤n->s₁.gens = #[] →
      codeAny (model l.prog w) callerA (.call (.ref fa) ⟨[.ref a],[]⟩) (fun r s'=>r = .ok (.ret (.bool true))∧OldK s₁.heap s'.heap∧s'.os=s₁.os∧AllBare s'.gens) s₁) :
    WalkO q loose XP YP l.row.toRowW d [] (fun f vs=>PySem.call f vs):=by
  intro w s₀ s₁ mg mb G Y fa o pm cd doc dV kV ho hd hcd hD hmg hg args vals as hpre hlay hrd hwl hlo
  obtain rfl : dV = .none:=Dflts.none hD hdf
  obtain rfl : kV = .none:=Dflts.noKw hD
  obtain ⟨a,vs,ns,rfl,rfl,hobj,hints,hlen⟩:=y4p hn hpre hwl
  refine enter_call (codeAny_mono (call w s₀ s₁ mg mb fa o pm cd doc a vs ns G Y ho (fd_plain hd) hcd hmg hobj hints hlen hg) fun r s' hq=>?_)
  obtain ⟨rfl,h2,h3,h4⟩:=hq
  exact ⟨.inl ⟨.bool true,.bool true,[],rfl,fun _=>rfl,.bool true,y5d l _,fun _=>⟨List.Pairwise.nil,fun _ hm=>(nomatch hm)⟩⟩,h2,h3,h4⟩
section
variable {prog : Program} {w : World} {A : Around} {E : Value->Shared->Prop} {s : Shared} {K : Frag}
noncomputable def ledger (h : Heap) (L d : Addr) : List (Addr × Obj):=(List.range h.objs.size).filterMap fun a=>if a=L∨a=d then none else (h.get? a).map fun o=>(a,o)
end
end Att
namespace L2
open PySem PySem.Spec PyProof.Rows
theorem z8S : ∀ {vs : List Value} {ns : List Int},IntsAre vs ns->Vals (ns.map V.int) vs
  | _,_,.nil=>.nil
  | _,_,.cons n t h=>.cons ⟨t,rfl⟩ (z8S h)
noncomputable def Only (H : Hp) : Prop:=∀ b,H b=none∨∃ o xs,H b=some (.frz o (.lst xs))
theorem y5M {P : Program} {w : World} {K : PySem.W.Frag} {mg mb : Str->Option Value} {CX : CXT} {k : Nat} {fa a : Addr} {fd : FuncData} {x : Str} {sp : Sp} {s₁ : Shared} {vs : List Value} {ns : List Int}
    (KX : K.In s₁.heap) (hns : s₁.heap.Ns mainGlobals mg) (hb : s₁.heap.Ns builtinsNs mb) (hbb : ∀ x : Str,x ≠ "__name__" → mb x=bootBuiltins x) (hlim : s₁.heap.NoLimit) (hg : s₁.gens = #[])
    (ha : s₁.heap.get? a=some { cls:=.type "list",data:=.seq vs.toArray }) (hi : IntsAre vs ns) (hl : ns.length≤sizeLine) (hr : Room k callerA)
    (F : ∀ base : Heap,K.In base->base.Ns mainGlobals mg->FnOk P w K mg base CX k fa fd [x] sp) (hbind : ∀ (s : Shared) (u : Value),BindsTo s fd ⟨[u],[]⟩ [(x,u)])
    (hsp : ∀ H : Hp,Only H->SqL K H a (ns.map V.int)->sp [.ref a] H (fun v _=>v = .bl true) fun _ _ _=>False)
    (hCX : ∀ H e s',CX [] H s₁ (fun _ _ _=>False) e s'->False) :
    codeAny (model P w) callerA (.call (.ref fa) ⟨[.ref a],[]⟩) (fun r s'=>r = .ok (.ret (.bool true))∧OldK s₁.heap s'.heap∧s'.os=s₁.os∧AllBare s'.gens) s₁:=by
  have rv:=z8S hi
  have lenV:=hi.length
  have core : ∀ H : Hp,Only H->SqL K H a (ns.map V.int)->HOk P w H s₁.heap->(∀ b,H b≠none->b=a)->(H a≠none->K.lookup a=none) →
      codeAny (model P w) callerA (.call (.ref fa) ⟨[.ref a],[]⟩) (fun r s'=>r = .ok (.ret (.bool true))∧OldK s₁.heap s'.heap∧s'.os=s₁.os∧AllBare s'.gens) s₁:=by
    intro H hO hS hok hA hK
    have base_of : ∀ {b : Addr} {o : Obj},s₁.heap.get? b=some o->H b=none->(y5x s₁.heap H).get? b=some o:=fun e n=>y5H e n
    have noA : ∀ {b : Addr} {o : Obj} {es : Array DictEntry} {ep : Nat},s₁.heap.get? b=some o->o.data = .dict es ep->H b=none:=fun {b o es ep} e d=>by
      cases q : H b with
      | none=>rfl
      | some u=>
        have e' : b=a:=hA b (by rw [q]; simp)
        subst e'
        rw [ha] at e; cases e
        have d' : Data.seq vs.toArray _=Data.dict es ep:=d
        cases d'
    have nsK : ∀ {b : Addr} {m : Str->Option Value},s₁.heap.Ns b m->(y5x s₁.heap H).Ns b m:=fun {b m} ⟨o,es,ep,e,d,r⟩=>⟨o,es,ep,base_of e (noA e d),d,r⟩
    have hKb : K.In (y5x s₁.heap H):=fun b o e=>base_of (KX b o e) (by
      cases q : H b with
      | none=>rfl
      | some u=>
        have e' : b=a:=hA b (by rw [q]; simp)
        subst e'
        rw [hK (by rw [q]; simp)] at e; cases e)
    have hM : Mod K mg (y5x s₁.heap H):=⟨hKb,nsK hns,⟨mb,nsK hb,hbb⟩,let ⟨mc,h1,h2⟩:=hlim; ⟨mc,nsK h1,h2⟩⟩
    have e0 : Env0 P w K mg (y5x s₁.heap H) callerA [] s₁ H:=⟨rfl,hM,fun b o e=>of_hidT e,Nat.le_of_eq (y4f _ _),trivial,fun b hb=>absurd (show b∈([] : List Addr) from hb) (by simp),hok,.of_eq hg⟩
    refine codeAny_mono ((F _ hKb (nsK hns)).run callerA [] s₁ H ⟨[.ref a],[]⟩ [.ref a] [.ref a] _ _ hr e0 (hbind s₁ (.ref a)) (.cons rfl .nil) (hsp H hO hS)) fun r s' h=>?_
    cases r with
    | error e=>exact (hCX H e s' h).elim
    | ok fl=>
      cases fl with
      | next=>exact False.elim h
      | brk=>exact False.elim h
      | cont=>exact False.elim h
      | ret u=>
        obtain ⟨v,H',os,bare,un,hok',r',q⟩:=h
        have q' : v = .bl true:=q
        subst q'
        obtain rfl : u=Value.bool true:=r'
        refine ⟨rfl,OldK.of_keep fun b o e=>?_,os,bare⟩
        cases q : H b with
        | none=>exact un.keep b o e q (by intro z; exact absurd (show b∈([] : List Addr) from z) (by simp)) (by simp)
        | some u=>
          rcases hO b with z | ⟨ob,xs,z⟩
          · rw [q] at z; cases z
          · have z2:=un.frzs b ob _ z
            obtain ⟨e1,_⟩:=hok b _ z
            obtain ⟨e2,_⟩:=hok' b _ z2
            rw [e] at e1; cases e1
            exact e2
  cases hk : K.lookup a with
  | some o=>
    have e:=KX a o hk
    rw [ha] at e
    cases e
    refine core (fun _=>none) (fun _=>.inl rfl) (.inr ⟨_,vs.toArray,_,hk,rfl,rfl,rfl,by rw [List.size_toArray,lenV]; exact hl,by simpa using rv⟩) (fun b u z=>by have z' : (none : Option HO)=some u:=z; cases z') (fun b z=>absurd rfl z) fun z=>absurd rfl z
  | none=>
    refine core (fun b=>if b=a then some (.frz { cls:=.type "list",data:=.seq vs.toArray } (.lst (ns.map V.int))) else none) (fun b=>?_) (.inl (.inr ⟨{ cls:=.type "list",data:=.seq vs.toArray },if_pos rfl⟩)) (fun b u z=>?_) (fun b z=>?_) fun _=>hk
    · by_cases hb : b=a
      · exact .inr ⟨_,_,if_pos hb⟩
      · exact .inl (if_neg hb)
    · by_cases hb : b=a
      · have z':=(if_pos hb).symm.trans z
        cases z'
        subst hb
        exact ⟨ha,by rw [List.length_map]; exact hl,vs,_,rv,ha⟩
      · have z':=(if_neg hb).symm.trans z
        cases z'
    · by_cases hb : b=a
      · exact hb
      · exact absurd (if_neg hb) z
end L2
namespace L2
open PySem PySem.Spec PyProof.Rows
noncomputable abbrev KOf {K : PySem.W.Frag} {h : Heap} (_ : K.In h) : PySem.W.Frag:=K
theorem walk_of {l : PySem.W.OpenLaw} {n k : Nat} {q : Program} {loose : List Str} {XP : (Str->Option Value)->Heap->Prop} {YP : World->Heap->Prop} {d : DefRec} {K : Params->PySem.W.Frag} {CX : World->CXT} {sp : World->Sp} {x : Str}
    (hn : l.most=some n) (hn2 : n≤sizeLine) (hdf : d.params.defaults=[]) (hr : Room k callerA)
    (hY : ∀ (w : World) (h : Heap),YP w h->(K w.params).In h)
    (F : ∀ (w : World) (mg : Str->Option Value) (fa : Addr) (h : Heap),(K w.params).In h->h.Ns mainGlobals mg->mg d.name=some (.ref fa) →
      ∃ fd : FuncData,(∀ (s : Shared) (u : Value),BindsTo s fd ⟨[u],[]⟩ [(x,u)]) ∧
        ∀ base : Heap,(K w.params).In base->base.Ns mainGlobals mg->FnOk l.prog w (K w.params) mg base (CX w) k fa fd [x] (sp w))
    (hsp : ∀ (w : World) (H : Hp) (a : Addr) (ns : List Int),ns.length≤n->Only H->SqL (K w.params) H a (ns.map V.int)->sp w [.ref a] H (fun v _=>v = .bl true) fun _ _ _=>False)
    (hCX : ∀ (w : World) (H : Hp) (s : Shared) (e : Value) (s' : Shared),CX w [] H s (fun _ _ _=>False) e s'->False) :
    PySem.W.WalkO q loose XP YP l.row.toRowW d [] (fun f vs=>PySem.call f vs):=by
  refine Att.attach_call hn hdf fun w s₀ s₁ mg mb fa o pm cd doc a vs ns G Y ho hd hcd hmg hobj hints hlen hg=>?_
  have KX:=hY w _ Y
  obtain ⟨fd,hb,hF⟩:=F w mg fa _ KX G.T.g hmg
  exact y5M KX G.T.g G.T.b G.T.builtins G.T.nolimit hg hobj hints (Nat.le_trans hlen hn2) hr hF hb (fun H hO hS=>hsp w H a ns hlen hO hS) fun H e s'=>hCX w H s₁ e s'
end L2
namespace L2
open PySem PySem.Spec PyProof.Rows
noncomputable def z0p (s : Stmt) : Arguments:=match s with
  | .FunctionDef _ a _ _ _ _ _ _ _ _=>a
  | _=>{ posonlyargs:=[],args:=[],vararg:=none,kwonlyargs:=[],kw_defaults:=[],kwarg:=none,defaults:=[] }
noncomputable def z0n (s : Stmt) : List Stmt:=match s with
  | .FunctionDef _ _ b _ _ _ _ _ _ _=>b
  | _=>[]
noncomputable def z0b (s : Stmt) : Scope:=match s with
  | .FunctionDef _ _ _ _ _ _ sc _ _ _=>sc
  | _=>{ kind:=.function,names:=[],isGenerator:=false,isCoroutine:=false }
noncomputable abbrev CX0 : CXT:=fun _ _ _ _ _ _=>False
noncomputable abbrev E0 : XK:=fun _ _ _=>False
theorem pass0 {X : Cx} : y4j CX0 X E0:=fun _ _ _ _ _ _ _ h=>h.elim
structure Fun (K : PySem.W.Frag) (x qual : Str) (st : Stmt) (f : Addr) (fd : FuncData) : Prop where
  ex : ∃ (oc : Value) (od : Option Addr) (kV doc pm : Value) (an : Option Addr) (cdv ct : Value) (osl : Array (Option Value)),
    fd=PySem.W.fnOf x qual (z0p st) (z0n st) (z0b st) .none kV doc pm an cdv ct∧K.lookup f=some ⟨oc,od,.func fd,osl⟩∧PySem.W.codeIn K cdv qual=true
  kp : PySem.W.keepIn K (.ref f)=true
section
variable {P : Program} {w : World} {K : PySem.W.Frag} {mg : Str->Option Value} {base : Heap}
theorem Fun.ok {x qual : Str} {st : Stmt} {f : Addr} {fd : FuncData} {N ps : List Str} {k : Nat} {sp : Sp} (F : Fun K x qual st f fd) (S : FnScope N ps (z0b st)) (len : ∀ vs H Q E,sp vs H Q E->vs.length=ps.length)
    (hbody : ∀ (cdv : Value) (A : Around) (outer : List Env) (s : Shared) (H : Hp) (vs : List V) (Q : VK) (E : XK),Room k (A.deeper (envOfC qual (z0b st) s.heap.objs.size f cdv))->sp vs H Q E →
      ∃ t,PSs (y3O CX0 P w K mg base N qual (z0b st) f cdv A outer s H E).nox (z0n st) t∧t { nx:=fun _ H'=>Q .non H',rt:=Q } (z4x N vs) H) : FnOk P w K mg base CX0 (k + 1) f fd ps sp:=by
  obtain ⟨oc,od,kV,doc,pm,an,cdv,ct,osl,rfl,lk,hcd⟩:=F.ex
  refine fn_of lk hcd S len fun A outer s H vs Q E hr hsp=>?_
  obtain ⟨t,h,q⟩:=hbody cdv A outer s H vs Q E hr hsp
  exact ⟨t,h.nox,q⟩
theorem Fun.binds {x qual : Str} {st : Stmt} {f : Addr} {fd : FuncData} {ps : List Str} (F : Fun K x qual st f fd)
    (h : ∀ (kV doc pm : Value) (an : Option Addr) (cdv ct : Value) (us : List Value),us.length=ps.length->bindArgs (PySem.W.fnOf x qual (z0p st) (z0n st) (z0b st) .none kV doc pm an cdv ct) ⟨us,[]⟩=pure (ps.zip us)) : Binds K fd ps []:=by
  obtain ⟨oc,od,kV,doc,pm,an,cdv,ct,osl,rfl,lk,hcd⟩:=F.ex
  exact .all (h kV doc pm an cdv ct)
theorem z0D {x qual : Str} {st : Stmt} {f : Addr} {oc : Value} {od an : Option Addr} {osl : Array (Option Value)} {kV doc pm cdv ct : Value} (l : K.lookup f=some ⟨oc,od,.func (PySem.W.fnOf x qual (z0p st) (z0n st) (z0b st) .none kV doc pm an cdv ct),osl⟩)
    (c : PySem.W.codeIn K cdv qual=true) (k : PySem.W.keepIn K (.ref f)=true) : Fun K x qual st f (PySem.W.fnOf x qual (z0p st) (z0n st) (z0b st) .none kV doc pm an cdv ct):=⟨⟨oc,od,kV,doc,pm,an,cdv,ct,osl,rfl,l,c⟩,k⟩
end
theorem z6z {n : Nat} (h : n≤1000) : n < sizeLine:=Nat.lt_of_le_of_lt h (by decide)
section
variable {X : Cx}
theorem pv (i : Nat) {x : Str} {pos : Pos} (hN : X.N[i]? = some x:=by rfl) (hv : Vis X.env.scope x:=by first | exact Or.inl rfl | exact Or.inr (Or.inl rfl) | exact Or.inr (Or.inr rfl)) (hd : (x == ("__debug__" : Str))=false:=by decide)
    (hcd : (x == ("__classdict__" : Str))=false:=by decide) : PE X (.Name x pos) (z9O i):=pe_var hN hv hd hcd
end
theorem iteF {A B : Prop} (h : B) : if false=true then A else B:=by
  rw [if_neg Bool.false_ne_true]
  exact h
theorem iteT {A B : Prop} (h : A) : if true=true then A else B:=by
  rw [if_pos rfl]
  exact h
noncomputable def Same (H H' : Hp) : Prop:=∀ b o,H b=some o->H' b=some o
theorem Same.refl (H : Hp) : Same H H:=fun _ _ h=>h
theorem Same.trans {H H1 H2 : Hp} (a : Same H H1) (b : Same H1 H2) : Same H H2:=fun c o h=>b c o (a c o h)
theorem Same.free {H H' : Hp} (e : Same H H') {l : Addr} (h : H' l=Option.none) : H l=Option.none:=by
  cases q : H l with
  | none=>rfl
  | some o=>
    rw [e l o q] at h
    cases h
end L2
namespace L2
open PySem PySem.Spec PyProof.Rows
section
variable {κ : Type} [DecidableEq κ]
noncomputable def y2h (kvs : List (κ × V)) (k : κ) : Option V:=(kvs.find? fun kv=>decide (kv.1=k)).map (·.2)
noncomputable def z7l (kvs : List (κ × V)) (k : κ) (v : V) : List (κ × V):=
  if (kvs.any fun kv=>decide (kv.1=k))=true then kvs.map (fun kv=>if kv.1=k then (kv.1,v) else kv) else kvs ++ [(k,v)]
theorem z8t {p : κ × V} {r : List (κ × V)} {k : κ} (e : p.1=k) : y2h (p :: r) k=some p.2:=by simp [y2h,List.find?_cons,e]
theorem z8q {p : κ × V} {r : List (κ × V)} {k : κ} (e : ¬ p.1=k) : y2h (p :: r) k=y2h r k:=by simp [y2h,List.find?_cons,e]
theorem z8b (k : κ) : ∀ kvs : List (κ × V),(kvs.any fun kv=>decide (kv.1=k))=(y2h kvs k).isSome
  | []=>rfl
  | p :: r=>by
    rw [List.any_cons]
    by_cases e : p.1=k
    · simp only [z8t e,decide_eq_true e,Bool.true_or,Option.isSome_some]
    · rw [z8q e,decide_eq_false e,Bool.false_or]; exact z8b k r
theorem z4Y (kvs : List (κ × V)) (k : κ) (v : V) : (z7l kvs k v).length≤kvs.length + 1:=by
  unfold z7l
  split
  · rw [List.length_map]; omega
  · rw [List.length_append,List.length_cons,List.length_nil]; omega
theorem RelO.isSome_eq {o : Option V} {u : Option Value} (r : RelO o u) : o.isSome=u.isSome:=by
  cases o with
  | none=>cases u with
    | none=>rfl
    | some _=>exact (show False from r).elim
  | some _=>cases u with
    | none=>exact (show False from r).elim
    | some _=>rfl
theorem KV.val {kvs : List (κ × V)} {vs : List (κ × Value)} (r : KV kvs vs) (k : κ) : RelO (y2h kvs k) (valueAt vs k):=by
  unfold KV at r
  induction r with
  | nil=>exact True.intro
  | @cons p q ps qs h t ih=>
    obtain ⟨h1,h2⟩:=h
    by_cases e : p.1=k
    · have e' : q.1=k:=h1.symm.trans e
      have b : valueAt (q :: qs) k=some q.2:=by simp [valueAt,List.find?_cons,e']
      rw [z8t e,b]; exact h2
    · have e' : ¬ q.1=k:=fun z=>e (h1.trans z)
      have b : valueAt (q :: qs) k=valueAt qs k:=by simp [valueAt,List.find?_cons,e']
      rw [z8q e,b]; exact ih
theorem KV.any {kvs : List (κ × V)} {vs : List (κ × Value)} (r : KV kvs vs) (k : κ) : (kvs.any fun kv=>decide (kv.1=k))=vs.any fun kv=>decide (kv.1=k):=by
  unfold KV at r
  induction r with
  | nil=>rfl
  | cons h t ih=>rw [List.any_cons,List.any_cons,ih,h.1]
theorem KV.repl {kvs : List (κ × V)} {vs : List (κ × Value)} (r : KV kvs vs) (k : κ) {y : V} {u : Value} (ry : RelV y u) :
    KV (kvs.map fun kv=>if kv.1=k then (kv.1,y) else kv) (vs.map fun kv=>if kv.1=k then (kv.1,u) else kv):=by
  unfold KV at r ⊢
  induction r with
  | nil=>exact .nil
  | @cons p q ps qs h t ih=>
    rw [List.map_cons,List.map_cons]
    refine .cons ?_ ih
    obtain ⟨h1,h2⟩:=h
    by_cases e : p.1=k
    · rw [if_pos e,if_pos (h1.symm.trans e)]; exact ⟨h1,ry⟩
    · rw [if_neg e,if_neg (fun z=>e (h1.trans z))]; exact ⟨h1,h2⟩
theorem KV.put {kvs : List (κ × V)} {vs : List (κ × Value)} (r : KV kvs vs) (k : κ) {y : V} {u : Value} (ry : RelV y u) : KV (z7l kvs k y) (stored vs k u):=by
  unfold z7l stored
  rw [r.any k]
  by_cases e : (vs.any fun kv=>decide (kv.1=k))=true
  · rw [if_pos e,if_pos e]; exact r.repl k ry
  · rw [if_neg e,if_neg e]; exact Paired.snoc r ⟨rfl,ry⟩
theorem KV.keys {kvs : List (κ × V)} {vs : List (κ × Value)} (r : KV kvs vs) : kvs.map (·.1)=vs.map (·.1):=by
  unfold KV at r
  induction r with
  | nil=>rfl
  | cons h t ih=>rw [List.map_cons,List.map_cons,ih,h.1]
theorem KV.length {kvs : List (κ × V)} {vs : List (κ × Value)} (r : KV kvs vs) : kvs.length=vs.length:=Paired.length r
end
theorem y7d {P : Program} {w : World} {k : Key} {u : Value} (r : RelV (kV k) u) : (z1g P w).is k u=true:=by
  cases k with
  | inl i=>obtain ⟨t,e⟩:=(show ∃ t,u=Value.int i t from r); subst e; exact z9X P w i t
  | inr x=>obtain ⟨t,e⟩:=(show ∃ t,u=Value.str x t from r); subst e; exact y0A P w x t
theorem z9b {P : Program} {w : World} : ∀ {ks : List Key} {us : List Value},Vals (ks.map kV) us->ItemsAre (z1g P w) ks us
  | [],_,r=>by rw [List.map_nil] at r; cases r; exact .nil
  | k :: ks,_,r=>by
    rw [List.map_cons] at r
    cases r with
    | cons h t=>exact .cons (y7d h) (z9b t)
noncomputable abbrev KT (H : Hp) : List (List Key × V)->List (List Key × Addr × Value)->Prop:=Paired fun p q=>p.1=q.1∧H q.2.1=some (.tup (p.1.map kV))∧RelV p.2 q.2.2
theorem KT.val {H : Hp} {kvs : List (List Key × V)} {xs : List (List Key × Addr × Value)} (r : KT H kvs xs) (k : List Key) : RelO (y2h kvs k) ((atKey xs k).map (·.2)):=by
  induction r with
  | nil=>exact True.intro
  | @cons p q ps qs h t ih=>
    obtain ⟨h1,_,h2⟩:=h
    by_cases e : p.1=k
    · have e' : q.1=k:=h1.symm.trans e
      have b : atKey (q :: qs) k=some q.2:=by simp [atKey,List.find?_cons,e']
      rw [z8t e,b]; exact h2
    · have e' : ¬ q.1=k:=fun z=>e (h1.trans z)
      have b : atKey (q :: qs) k=atKey qs k:=by simp [atKey,List.find?_cons,e']
      rw [z8q e,b]; exact ih
theorem KT.repl {H : Hp} {kvs : List (List Key × V)} {xs : List (List Key × Addr × Value)} (r : KT H kvs xs) (k : List Key) {y : V} {u : Value} (ry : RelV y u) :
    KT H (kvs.map fun kv=>if kv.1=k then (kv.1,y) else kv) (xs.map (putAt k u)):=by
  induction r with
  | nil=>exact .nil
  | @cons p q ps qs h t ih=>
    rw [List.map_cons,List.map_cons]
    refine .cons ?_ ih
    obtain ⟨h1,h2,h3⟩:=h
    unfold putAt
    by_cases e : p.1=k
    · rw [if_pos e,if_pos (h1.symm.trans e)]; exact ⟨h1,h2,ry⟩
    · rw [if_neg e,if_neg (fun z=>e (h1.trans z))]; exact ⟨h1,h2,h3⟩
theorem KT.put {H : Hp} {kvs : List (List Key × V)} {xs : List (List Key × Addr × Value)} (r : KT H kvs xs) (k : List Key) {b : Addr} {y : V} {u : Value} (hb : H b=some (.tup (k.map kV))) (ry : RelV y u) :
    KT H (z7l kvs k y) (storedH xs k b u):=by
  have e : (kvs.any fun kv=>decide (kv.1=k))=(atKey xs k).isSome:=by
    rw [z8b,(r.val k).isSome_eq,Option.isSome_map]
  unfold z7l storedH
  rw [e]
  by_cases q : (atKey xs k).isSome=true
  · rw [if_pos q,if_pos q]; exact r.repl k ry
  · rw [if_neg q,if_neg q]; exact Paired.snoc r ⟨rfl,hb,ry⟩
theorem KT.keeps {H H' : Hp} {kvs : List (List Key × V)} {xs : List (List Key × Addr × Value)} (r : KT H kvs xs) (ht : ∀ b ys,H b=some (.tup ys)->H' b=some (.tup ys)) : KT H' kvs xs:=
  Paired.mapP r fun _ _ z=>⟨z.1,ht _ _ z.2.1,z.2.2⟩
section
variable {P : Program} {w : World} {H : Hp} {h : Heap} {a : Addr}
theorem rd_of {u : HO} (ok : HOk P w H h) (e : Rd H a u) : ObjOk P w H h a u:=e.ok ok
theorem dk_rd {kvs : List (Key × V)} (ok : HOk P w H h) (e : Rd H a (.dK kvs)) : kvs.length≤sizeLine∧(a == sysModules)=false∧∃ vs,KV kvs vs∧h.DictOf (z1g P w) a vs:=
  show ObjOk P w H h a (.dK kvs) from rd_of ok e
theorem dk_of {kvs : List (Key × V)} (ok : HOk P w H h) (e : H a=some (.dK kvs)) : kvs.length≤sizeLine∧(a == sysModules)=false∧∃ vs,KV kvs vs∧h.DictOf (z1g P w) a vs:=dk_rd ok (.inl e)
theorem y3c {ks : List Key} (ok : HOk P w H h) (e : H a=some (.tup (ks.map kV))) : (tupleKind (z1g P w)).is h ks a:=by
  obtain ⟨_,its,r,o,h1,h2,n,h3⟩:=(show ObjOk P w H h a (.tup (ks.map kV)) from ok a _ e)
  exact ⟨o,its.toArray,n,h1,h2.1,h3,by simpa using z9b r⟩
theorem dt_rd {kvs : List (List Key × V)} (ok : HOk P w H h) (e : Rd H a (.dT kvs)) : kvs.length≤sizeLine∧(a == sysModules)=false ∧
    ∃ xs,KT H kvs xs∧h.DictOfH (tupleKind (z1g P w)) a xs:=by
  obtain ⟨z,y,xs,r,o,es,ep,h1,h2,h3,h4,h5⟩:=(show ObjOk P w H h a (.dT kvs) from rd_of ok e)
  refine ⟨z,y,xs,r,o,es,ep,h1,h2,h3,h4,fun x hx=>?_,h5⟩
  have all : ∀ {l : List (List Key × V)} {m : List (List Key × Addr × Value)},KT H l m->∀ x∈m,(tupleKind (z1g P w)).is h x.1 x.2.1:=by
    intro l m q
    induction q with
    | nil=>intro x hx; exact nomatch hx
    | @cons p q ps qs hq t ih=>
      intro x hx
      rcases List.mem_cons.mp hx with e | hx
      · subst e
        exact y3c ok (by rw [← hq.1]; exact hq.2.1)
      · exact ih x hx
  exact all r x hx
theorem dt_of {kvs : List (List Key × V)} (ok : HOk P w H h) (e : H a=some (.dT kvs)) : kvs.length≤sizeLine∧(a == sysModules)=false ∧
    ∃ xs,KT H kvs xs∧h.DictOfH (tupleKind (z1g P w)) a xs:=dt_rd ok (.inl e)
end
noncomputable def DGet (H : Hp) (a : Addr) (y : V) (r : Option V) : Prop:=
  (∃ kvs k,Rd H a (.dK kvs)∧y=kV k∧r=y2h kvs k)∨∃ kvs k b,Rd H a (.dT kvs)∧y = .ref b∧H b=some (.tup (k.map kV))∧r=y2h kvs k
noncomputable def DPut (H : Hp) (a : Addr) (y v : V) (H' : Hp) : Prop:=
  (∃ kvs k,H a=some (.dK kvs)∧y=kV k∧kvs.length < sizeLine∧H'=upd H a (.dK (z7l kvs k v))) ∨
  ∃ kvs k b,H a=some (.dT kvs)∧y = .ref b∧H b=some (.tup (k.map kV))∧kvs.length < sizeLine∧H'=upd H a (.dT (z7l kvs k v))
theorem DGet.k {H : Hp} {a : Addr} {kvs : List (Key × V)} {k : Key} (e : H a=some (.dK kvs)) : DGet H a (kV k) (y2h kvs k):=.inl ⟨kvs,k,.inl e,rfl,rfl⟩
theorem DPut.k {H : Hp} {a : Addr} {kvs : List (Key × V)} {k : Key} {v : V} (e : H a=some (.dK kvs)) (hl : kvs.length < sizeLine) : DPut H a (kV k) v (upd H a (.dK (z7l kvs k v))):=.inl ⟨kvs,k,e,rfl,hl,rfl⟩
section
variable {X : Cx} {pins : List (Addr × Obj)} {σ : St} {H : Hp} {s : Shared} {a : Addr} {y v : V} {u r : Value} {o : Option V} {A : Around} {E : Value->Shared->Prop}
theorem Inv.big (I : Inv X pins σ H s) : sysModules < s.heap.objs.size:=by
  have h : mainGlobals < s.heap.objs.size:=(I.mod.glob.keeps I.bk).lt
  exact Nat.lt_trans (by decide) h
theorem d_notIn {Q : Value->Shared->Prop} (hu : A.units + 1 < cLine) (I : Inv X pins σ H s) (g : DGet H a y o) (ry : RelV y u) (h : ∀ s',Inv X pins σ H s'->Q (.bool (!o.isSome)) s') :
    wpAny (model X.prog X.w) A (compareOp .NotIn u (.ref a)) Q E s:=by
  rcases g with ⟨kvs,k,e,ey,l⟩ | ⟨kvs,k,b,e,ey,eb,l⟩
  · subst ey
    obtain ⟨z,hd,vs,rel,dd⟩:=dk_rd I.hok e
    refine wpAny_notIn_of (y7d ry) hd dd.mapOf ?_
    rw [← (rel.val k).isSome_eq,← l]
    exact h _ (I.tok _)
  · subst ey
    cases (show u=Value.ref b from ry)
    obtain ⟨z,hd,xs,rel,dd⟩:=dt_rd I.hok e
    refine wpAny_notIn_heap (tupleKind_room_in1 hu) (y3c I.hok eb) hd dd ?_
    have q:=(rel.val k).isSome_eq
    rw [Option.isSome_map] at q
    rw [← q,← l]
    exact h _ (I.tok _)
theorem z9T {h' : Heap} {t' : Nat} {ob : HO} (I : Inv X pins σ H s) (mu : Mut (H a)) (hs : Heap.SameBut a s.heap h') (he : ∃ q,h'.get? a=some q) (new : ObjOk X.prog X.w (upd H a ob) h' a ob) :
    Inv X pins σ (upd H a ob) { s with heap:=h',toks:=t' }:=
  I.write (x:=a) (e:=a) mu (.inl rfl) (fun b q hb z=>(hs.2 b hb).trans z) he new
theorem y7n {P : Program} {w : World} {H' : Hp} {h' : Heap} {kvs : List (Key × V)} {vs : List (Key × Value)} (z : kvs.length≤sizeLine) (hd : (a == sysModules)=false) (rel : KV kvs vs) (dd : h'.DictOf (z1g P w) a vs) :
    ObjOk P w H' h' a (.dK kvs):=⟨z,hd,vs,rel,dd⟩
theorem y3Y {H' : Hp} {Q : Unit->Shared->Prop} (hu : A.units + 1 < cLine) (I : Inv X pins σ H s) (g : DPut H a y v H') (ry : RelV y u) (rv : RelV v r) (h : ∀ s',Inv X pins σ H' s'->Q () s') :
    wpAny (model X.prog X.w) A (setItem (.ref a) u r) Q E s:=by
  rcases g with ⟨kvs,k,e,ey,l,eH⟩ | ⟨kvs,k,b,e,ey,eb,l,eH⟩
  · subst ey eH
    obtain ⟨z,hd,vs,rel,dd⟩:=dk_of I.hok e
    have hz : vs.length≤sizeLine:=by rw [← rel.length]; exact z
    have hl : (z7l kvs k v).length≤sizeLine:=by have:=z4Y kvs k v; omega
    refine wpAny_setItem_pairs (hsz:=hz) (y7d ry) dd fun h' dd' hs=>h _ ?_
    have he : ∃ q,h'.get? a=some q:=let ⟨q,_,_,hq,_⟩:=dd'; ⟨q,hq⟩
    exact z9T I (by rw [e]; exact True.intro) hs he (y7n hl hd (rel.put k rv) dd')
  · subst ey eH
    cases (show u=Value.ref b from ry)
    obtain ⟨z,hd,xs,rel,dd⟩:=dt_of I.hok e
    have hz : xs.length≤sizeLine:=by rw [← Paired.length rel]; exact z
    have hl : (z7l kvs k v).length≤sizeLine:=by have:=z4Y kvs k v; omega
    refine wpAny_setItem_heap (hsz:=hz) (tupleKind_room_in1 hu) (y3c I.hok eb) dd fun h' dd' hs=>h _ ?_
    obtain ⟨q,es,ep,hq,h2,h3,h4,_,h5⟩:=dd'
    refine z9T I (by rw [e]; exact True.intro) hs ⟨q,hq⟩ ⟨hl,hd,_,(rel.put k eb rv).keeps fun c ys ec=>?_,q,es,ep,hq,h2,h3,h4,h5⟩
    rw [z0A (ne_of ec e (fun z=>nomatch z))]
    exact ec
end
section
variable {X : Cx} {pins : List (Addr × Obj)} {σ : St} {H : Hp} {s : Shared} {a : Addr} {kvs : List (Key × V)} {k : Key} {u : Value} {A : Around} {E : Value->Shared->Prop}
end
noncomputable def tDNotIn (ty td : TE) : TE:=fun σ H Q=>ty σ H fun y H1=>td σ H1 fun x H2=>∃ a o,x = .ref a∧DGet H2 a y o∧Q (.bl (!o.isSome)) H2
noncomputable def sDPut (td ty tv : TE) : TS:=fun D σ H=>tv σ H fun v H1=>td σ H1 fun x H2=>ty σ H2 fun y H3=>∃ a H4,x = .ref a∧DPut H3 a y v H4∧D.nx σ H4
section
variable {X : Cx} {o i e value : Expr} {pos pos' tpos : Pos} {td ty tv : TE}
theorem y4h (hu : X.A.units + 1 < cLine) (hi : PE X i ty) (ho : PE X o td) : PC X .NotIn i o (tDNotIn ty td):=by
  intro pins s σ H Q I h
  refine thn (hi pins s σ H _ I h) fun iv s1 ⟨y,H1,I1,ry,q1⟩=>thn (ho pins s1 σ H1 _ I1 q1) fun u s2 ⟨x,H2,I2,rx,a,ov,ex,g,q2⟩=>?_
  subst ex
  obtain rfl : u=Value.ref a:=rx
  exact d_notIn hu I2 g ry fun s3 I3=>⟨.bl (!ov.isSome),H2,I3,rfl,q2⟩
theorem ps_dput (hu : X.A.units + 1 < cLine) (ho : PE X o td) (hi : PE X i ty) (hv : PE X value tv) (hs : swapsWith value (some (.Subscript o i pos')) pos.line X.env=pure false) :
    PS X (.Assign [.Subscript o i pos'] value pos) (sDPut td ty tv):=by
  intro pins s σ H D I h
  refine wpAny_Assign_Subscript (thn (hv pins s σ H _ I h) fun r s1 ⟨v,H1,I1,rv,q1⟩=>thn (ho pins s1 σ H1 _ I1 q1) fun u s2 ⟨x,H2,I2,rx,q2⟩=>thn (hi pins s2 σ H2 _ I2 q2) fun iv s3 ⟨y,H3,I3,ry,a,H4,ex,g,q3⟩=>?_) hs
  subst ex
  obtain rfl : u=Value.ref a:=rx
  exact y3Y hu I3 g ry rv fun s4 I4=>⟨σ,H4,I4,q3⟩
end
theorem y5F {P : Program} {w : World} {H : Hp} (h : Heap) (hb : sysModules < h.objs.size) : ObjOk P w H (h.push { cls:=.type "dict",data:=.dict #[] }) h.objs.size (.dK []):=
  ⟨Nat.zero_le _,beq_eq_false_iff_ne.mpr (Ne.symm (Nat.ne_of_lt hb)),[],.nil,Heap.DictOf.new h⟩
section
variable {X : Cx} {pos : Pos}
end
noncomputable def y2Y : List (TE × TE)->St->Hp->(List (V × V)->Hp->Prop)->Prop
  | [],_,H,Q=>Q [] H
  | (tk,tv) :: r,σ,H,Q=>tk σ H fun x H1=>tv σ H1 fun y H2=>y2Y r σ H2 fun ps H3=>Q ((x,y) :: ps) H3
noncomputable abbrev VV : List (V × V)->List (Value × Value)->Prop:=Paired fun p q=>RelV p.1 q.1∧RelV p.2 q.2
noncomputable def PPs (X : Cx) (pos : Pos) (keys : List (Option Expr)) (values : List Expr) (trs : List (TE × TE)) : Prop:=
  ∀ (pins : List (Addr × Obj)) (s : Shared) (σ : St) (H : Hp) (Q : List (V × V)->Hp->Prop),Inv X pins σ H s->y2Y trs σ H Q →
    wpAny (model X.prog X.w) X.A (evalPairs (pairTrees keys values X.env pos)) (fun vs s'=>∃ ps H',Inv X pins σ H' s'∧VV ps vs∧Q ps H') X.xe s
theorem pps_nil {X : Cx} {pos : Pos} : PPs X pos [] [] []:=fun pins s σ H Q I h=>pairTrees_nil_walk ⟨[],H,I,.nil,h⟩
theorem y6i {X : Cx} {pos : Pos} {k v : Expr} {ks : List (Option Expr)} {vs : List Expr} {tk tv : TE} {trs : List (TE × TE)} (hk : PE X k tk) (hv : PE X v tv) (hr : PPs X pos ks vs trs) :
    PPs X pos (some k :: ks) (v :: vs) ((tk,tv) :: trs):=fun pins s σ H Q I h=>
  pairTrees_cons_walk (thn (hk pins s σ H _ I h) fun u s1 ⟨x,H1,I1,rx,q1⟩=>thn (hv pins s1 σ H1 _ I1 q1) fun w2 s2 ⟨y,H2,I2,ry,q2⟩=>
    thn (hr pins s2 σ H2 _ I2 q2) fun ws s3 ⟨ps,H3,I3,rel,q3⟩=>⟨(x,y) :: ps,H3,I3,.cons ⟨rx,ry⟩ rel,q3⟩)
noncomputable def z9w (kvs more : List (Key × V)) : List (Key × V):=more.foldl (fun acc kv=>z7l acc kv.1 kv.2) kvs
theorem KV.merge : ∀ {more : List (Key × V)} {rs : List (Key × Value)} {kvs : List (Key × V)} {vs : List (Key × Value)},KV more rs->KV kvs vs->KV (z9w kvs more) (merged vs rs):=by
  intro more rs kvs vs r
  unfold KV at r
  induction r generalizing kvs vs with
  | nil=>intro q; exact q
  | @cons p q ps qs h t ih=>
    intro r0
    have e : KV (z7l kvs p.1 p.2) (stored vs q.1 q.2):=by
      have:=r0.put p.1 h.2
      rw [← h.1]; exact this
    exact ih e
theorem z5l : ∀ (more kvs : List (Key × V)),(z9w kvs more).length≤kvs.length + more.length
  | [],kvs=>by show kvs.length≤kvs.length + 0; omega
  | p :: r,kvs=>by
    have h1:=z5l r (z7l kvs p.1 p.2)
    have h2:=z4Y kvs p.1 p.2
    show (z9w (z7l kvs p.1 p.2) r).length≤_
    rw [List.length_cons]; omega
theorem z7x {P : Program} {w : World} : ∀ {kvs : List (Key × V)} {ws : List (Value × Value)},VV (kvs.map fun kv=>(kV kv.1,kv.2)) ws->∃ rs,Carries (z1g P w) ws rs∧KV kvs rs
  | [],_,r=>by rw [List.map_nil] at r; cases r; exact ⟨[],True.intro,.nil⟩
  | p :: kvs,_,r=>by
    rw [List.map_cons] at r
    cases r with
    | @cons a b as bs h t=>
      obtain ⟨rs,c,q⟩:=z7x (P:=P) (w:=w) t
      obtain ⟨b1,b2⟩:=b
      exact ⟨(p.1,b2) :: rs,⟨y7d h.1,rfl,c⟩,.cons ⟨rfl,h.2⟩ q⟩
noncomputable def tDisp (trs : List (TE × TE)) : TE:=fun σ H Q=>∀ p,H p=none->y2Y trs σ (upd H p (.dK [])) fun ps H2=>H2 p=some (.dK [])∧∃ kvs : List (Key × V),ps=kvs.map (fun kv=>(kV kv.1,kv.2))∧kvs.length≤15∧Q (.ref p) (upd H2 p (.dK (z9w [] kvs)))
theorem pe_disp {X : Cx} {pos : Pos} {keys : List (Option Expr)} {values : List Expr} {trs : List (TE × TE)} (h : PPs X pos keys values trs) (hall : keys.all (·.isSome)=true) (hl : keys.length=values.length) (h0 : keys≠[])
    (h15 : keys.length≤15) : PE X (.Dict keys values pos) (tDisp trs):=by
  intro pins s σ H Q I q
  have hn:=I.hok.fresh (Nat.le_refl s.heap.objs.size)
  have I1:=I.laid (a:=s.heap.objs.size) (o:=.dK []) (h':=s.heap.push { cls:=.type "dict",data:=.dict #[] }) (t':=s.toks) (fun _ _ q=>Heap.get?_push_of_some _ q) (Nat.le_refl _) (y5F s.heap I.big)
  refine wpAny_Dict_walk (knd:=z1g X.prog X.w) hall hl h0 h15 (thn (h pins _ σ _ _ I1 (q _ hn)) fun ws s2 ⟨ps,H2,I2,rel,e,kvs,ep,lk,q2⟩=>?_)
  subst ep
  obtain ⟨rs,c,rk⟩:=z7x (P:=X.prog) (w:=X.w) rel
  obtain ⟨z,hd,vs0,r0,dd⟩:=dk_of I2.hok e
  cases r0
  refine ⟨rs,c,dd,fun h' dd' hs=>⟨.ref s.heap.objs.size,_,?_,rfl,q2⟩⟩
  have hz : (z9w [] kvs).length≤sizeLine:=by
    have h1:=z5l kvs []
    rw [List.length_nil] at h1
    rw [sizeLine_eq]; omega
  have he : ∃ q,h'.get? s.heap.objs.size=some q:=let ⟨q,_,_,hq,_⟩:=dd'; ⟨q,hq⟩
  exact z9T I2 (by rw [e]; exact True.intro) hs he (y7n hz hd (rk.merge .nil) dd')
structure M1 (X : Cx) (o : Expr) (m : Str) (apos : Pos) (e : Expr) (cpos : Pos) : Prop where
  base : attributeBase o m X.env (eval o X.env)=eval o X.env
  few : ((backTo cpos (starEach [e] X.env)).all (fun x=>!x.1) && (backToKw cpos (keywordEach [] X.env)).all (fun x=>x.1.isSome)
    && decide (([e] : List Expr).length + ([] : List Keyword).length + (if ([] : List Keyword).isEmpty then 0 else 1) < 30))=true
  line : (apos.endLine == cpos.line)=true
  trees : backTo cpos (starEach [e] X.env)=[(false,eval e X.env)]
structure M2 (X : Cx) (o : Expr) (m : Str) (apos : Pos) (e f : Expr) (cpos : Pos) : Prop where
  base : attributeBase o m X.env (eval o X.env)=eval o X.env
  few : ((backTo cpos (starEach [e,f] X.env)).all (fun x=>!x.1) && (backToKw cpos (keywordEach [] X.env)).all (fun x=>x.1.isSome)
    && decide (([e,f] : List Expr).length + ([] : List Keyword).length + (if ([] : List Keyword).isEmpty then 0 else 1) < 30))=true
  line : (apos.endLine == cpos.line)=true
  trees : backTo cpos (starEach [e,f] X.env)=[(false,eval e X.env),(false,eval f X.env)]
section
variable {X : Cx} {pins : List (Addr × Obj)} {σ : St} {H : Hp} {s : Shared} {a : Addr} {y d : V} {u r : Value} {o : Option V} {A : Around} {E : Value->Shared->Prop}
end
section
variable {X : Cx} {o e f : Expr} {apos cpos : Pos} {td ty tx : TE}
end
section
variable {X : Cx} {pins : List (Addr × Obj)} {σ : St} {H : Hp} {s : Shared} {a : Addr} {kvs : List (Key × V)} {A : Around} {E : Value->Shared->Prop}
end
section
variable {X : Cx} {pins : List (Addr × Obj)} {σ : St} {H : Hp} {s : Shared} {a : Addr} {y : V} {u : Value} {A : Around} {E : Value->Shared->Prop}
end
end L2
namespace L2
open PySem PySem.Spec PyProof.Rows
noncomputable def z3C (cells : List (Str × Addr)) : List (Str × NameKind)->List (Str × Addr)->List (Str × Addr)
  | [],acc=>acc
  | (n,k) :: r,acc=>if k == .free then z3C cells r ((n,(cells.lookup n).getD 0) :: acc) else z3C cells r acc
theorem z6T {env : Env} (f : Str × NameKind->List (Str × Addr)->Sem (ForInStep (List (Str × Addr))))
    (hf : ∀ n k cs,f (n,k) cs=if k == .free then (do let a ← cellOf env n; pure (.yield ((n,a) :: cs))) else pure (.yield cs)) :
    ∀ (names : List (Str × NameKind)) (acc : List (Str × Addr)),(∀ n,(n,NameKind.free)∈names->∃ c,env.cells.lookup n=some c)->forIn names acc f=pure (z3C env.cells names acc)
  | [],acc,_=>by rw [List.forIn_nil]; rfl
  | (n,k) :: r,acc,h=>by
    have hr:=z6T f hf r
    rw [List.forIn_cons,hf]
    unfold z3C
    by_cases hk : (k == NameKind.free)=true
    · rw [if_pos hk,if_pos hk]
      have ek : k = .free:=eq_of_beq hk
      subst ek
      obtain ⟨c,e⟩:=h n List.mem_cons_self
      have e1 : cellOf env n=pure c:=by unfold cellOf; rw [e]
      rw [e1,e]
      exact hr _ fun m hm=>h m (List.mem_cons_of_mem _ hm)
    · rw [if_neg hk,if_neg hk]
      exact hr _ fun m hm=>h m (List.mem_cons_of_mem _ hm)
theorem z3P {scope : Scope} {env : Env} (h : ∀ n,(n,NameKind.free)∈scope.names->∃ c,env.cells.lookup n=some c) : closureFor scope env=pure (z3C env.cells scope.names []):=by
  simp only [closureFor]
  rw [z6T _ (fun n k cs=>by cases hkc : k == NameKind.free <;> simp [hkc]) scope.names [] h]
  rfl
theorem z4a {cells : List (Str × Addr)} : ∀ (names : List (Str × NameKind)) (acc : List (Str × Addr)) {x : Str} {c : Addr},(x,c)∈z3C cells names acc->(x,c)∈acc∨((x,NameKind.free)∈names∧c=(cells.lookup x).getD 0)
  | [],_,_,_,h=>.inl h
  | (n,k) :: r,acc,x,c,h=>by
    unfold z3C at h
    by_cases hk : (k == NameKind.free)=true
    · rw [if_pos hk] at h
      have ek : k = .free:=eq_of_beq hk
      subst ek
      rcases z4a r _ h with z | ⟨z1,z2⟩
      · rcases List.mem_cons.mp z with q | q
        · cases q
          exact .inr ⟨List.mem_cons_self,rfl⟩
        · exact .inl q
      · exact .inr ⟨List.mem_cons_of_mem _ z1,z2⟩
    · rw [if_neg hk] at h
      rcases z4a r _ h with z | ⟨z1,z2⟩
      · exact .inl z
      · exact .inr ⟨List.mem_cons_of_mem _ z1,z2⟩
theorem z2Y {α : Type} {x : Str} {c : α} : ∀ {l : List (Str × α)},(x,c)∈l->(l.lookup x).isSome=true
  | (n,d) :: r,h=>by
    rw [List.lookup_cons]
    cases hb : x == n with
    | true=>rfl
    | false=>
      rcases List.mem_cons.mp h with q | q
      · cases q
        simp at hb
      · exact z2Y q
theorem z6E {cells : List (Str × Addr)} {x : Str} : ∀ (names : List (Str × NameKind)) (acc : List (Str × Addr)),(x,NameKind.free)∈names∨(∃ c,(x,c)∈acc)->∃ c,(x,c)∈z3C cells names acc
  | [],_,h=>h.elim (fun z=>nomatch z) id
  | (n,k) :: r,acc,h=>by
    unfold z3C
    by_cases hk : (k == NameKind.free)=true
    · rw [if_pos hk]
      refine z6E r _ ?_
      rcases h with z | ⟨c,z⟩
      · rcases List.mem_cons.mp z with q | q
        · cases q
          exact .inr ⟨_,List.mem_cons_self⟩
        · exact .inl q
      · exact .inr ⟨c,List.mem_cons_of_mem _ z⟩
    · rw [if_neg hk]
      refine z6E r _ ?_
      rcases h with z | z
      · rcases List.mem_cons.mp z with q | q
        · cases q
          exact absurd (by rfl) hk
        · exact .inl q
      · exact .inr z
theorem z3L : ∀ (names : List (Str × NameKind)) (h : Heap) (acc : List (Str × Addr)) {x : Str} {c : Addr},(x,c)∈cellsFrom h.objs.size names acc →
    (x,c)∈acc∨((x,NameKind.cell)∈names∧h.objs.size≤c∧(pushCells h names).IsCell c none)
  | [],_,_,_,_,hm=>.inl hm
  | (n,k) :: r,h,acc,x,c,hm=>by
    unfold cellsFrom at hm
    unfold pushCells
    by_cases hk : (k == NameKind.cell)=true
    · rw [if_pos hk] at hm
      rw [if_pos hk]
      have ek : k = .cell:=eq_of_beq hk
      subst ek
      have e : (h.push { cls:=.type "cell",data:=.cell none }).objs.size=h.objs.size + 1:=Heap.size_push ..
      rw [← e] at hm
      rcases z3L r _ _ hm with z | ⟨z1,z2,z3⟩
      · rcases List.mem_cons.mp z with q | q
        · cases q
          exact .inr ⟨List.mem_cons_self,Nat.le_refl _,⟨_,pushCells_keeps r _ _ _ (Heap.get?_push_size _ rfl),rfl⟩⟩
        · exact .inl q
      · exact .inr ⟨List.mem_cons_of_mem _ z1,by omega,z3⟩
    · rw [if_neg hk] at hm
      rw [if_neg hk]
      rcases z3L r h acc hm with z | ⟨z1,z2,z3⟩
      · exact .inl z
      · exact .inr ⟨List.mem_cons_of_mem _ z1,z2,z3⟩
theorem z3E {x : Str} : ∀ (names : List (Str × NameKind)) (n : Nat) (acc : List (Str × Addr)),(x,NameKind.cell)∈names∨(∃ c,(x,c)∈acc)->∃ c,(x,c)∈cellsFrom n names acc
  | [],_,_,h=>h.elim (fun z=>nomatch z) id
  | (y,k) :: r,n,acc,h=>by
    unfold cellsFrom
    by_cases hk : (k == NameKind.cell)=true
    · rw [if_pos hk]
      refine z3E r _ _ ?_
      rcases h with z | ⟨c,z⟩
      · rcases List.mem_cons.mp z with q | q
        · cases q
          exact .inr ⟨_,List.mem_cons_self⟩
        · exact .inl q
      · exact .inr ⟨c,List.mem_cons_of_mem _ z⟩
    · rw [if_neg hk]
      refine z3E r _ _ ?_
      rcases h with z | z
      · rcases List.mem_cons.mp z with q | q
        · cases q
          exact absurd (by rfl) hk
        · exact .inl q
      · exact .inr z
theorem z3z (lo : Nat) : ∀ (names : List (Str × NameKind)) (n : Nat) (acc : List (Str × Addr)),(∀ x y c,(x,c)∈acc->(y,c)∈acc->lo≤c->x=y)->(∀ p∈acc,p.2 < n) →
    ∀ x y c,(x,c)∈cellsFrom n names acc->(y,c)∈cellsFrom n names acc->lo≤c->x=y
  | [],_,_,h,_=>h
  | (m,k) :: r,n,acc,h,hb=>by
    unfold cellsFrom
    by_cases hk : (k == NameKind.cell)=true
    · rw [if_pos hk]
      refine z3z lo r (n + 1) ((m,n) :: acc) (fun x y c hx hy hc=>?_) fun p hp=>?_
      · rcases List.mem_cons.mp hx with q | q <;> rcases List.mem_cons.mp hy with q' | q'
        · cases q; cases q'; rfl
        · cases q
          exact absurd (hb _ q') (Nat.lt_irrefl _)
        · cases q'
          exact absurd (hb _ q) (Nat.lt_irrefl _)
        · exact h x y c q q' hc
      · rcases List.mem_cons.mp hp with q | q
        · cases q; exact Nat.lt_succ_self _
        · exact Nat.lt_succ_of_lt (hb p q)
    · rw [if_neg hk]
      exact z3z lo r n acc h hb
theorem z4D (env : Env) (x : Str) : ∀ names : List (Str × NameKind),
    (names.map fun (n,k)=>if (k == NameKind.free && env.scope.kind == .function && env.kindOf n == some .cell) then (n,NameKind.cell) else (n,k)).lookup x =
      (names.lookup x).map fun k=>if (k == NameKind.free && env.scope.kind == .function && env.kindOf x == some .cell) then NameKind.cell else k
  | []=>rfl
  | (n,k) :: r=>by
    have ih:=z4D env x r
    show List.lookup x ((if (k == NameKind.free && env.scope.kind == .function && env.kindOf n == some .cell)=true then (n,NameKind.cell) else (n,k)) :: _)=_
    cases hx : x == n with
    | true=>
      have e:=eq_of_beq hx
      subst e
      by_cases hc : (k == NameKind.free && env.scope.kind == .function && env.kindOf x == some .cell)=true
      · rw [if_pos hc]
        simp only [List.lookup_cons,beq_self_eq_true,Option.map_some,hc,if_true]
      · rw [if_neg hc]
        simp only [List.lookup_cons,beq_self_eq_true,Option.map_some]
        rw [if_neg hc]
    | false=>
      by_cases hc : (k == NameKind.free && env.scope.kind == .function && env.kindOf n == some .cell)=true
      · rw [if_pos hc]; simp only [List.lookup_cons,hx]; exact ih
      · rw [if_neg hc]; simp only [List.lookup_cons,hx]; exact ih
theorem z3e {M : Model} {A : Around} {E : Value->Shared->Prop} {s : Shared} {scope : Scope} {globals : Addr} {closure : List (Str × Addr)} {qual : Str} {env : Env} {Q : Env->Shared->Prop}
    (hQ : Q (newEnv scope s.heap.objs.size globals (cellsFrom (s.heap.objs.size + 1) scope.names closure) qual none .none (some env) builtinsNs)
      { s with heap:=pushCells (s.heap.push { cls:=.type "dict",data:=.dict #[] }) scope.names }) :
    wpAny M A (newFunctionEnv scope globals closure [] qual none .none (some env)) Q E s:=by
  simp only [newFunctionEnv,Option.isSome_some,if_true]
  refine wpAny_bind (wpAny_alloc ?_)
  refine wpAny_bind (wpAny_layCells _ (fun name kind cells=>by cases hkc : kind == NameKind.cell <;> simp [hkc]) _ _ _ _ ?_)
  rw [show ({ s with heap:=s.heap.push { cls:=.type "dict",data:=.dict #[] } } : Shared).heap.objs.size=s.heap.objs.size + 1 from Heap.size_push ..]
  refine wpAny_bind ?_
  rw [List.forIn_nil]
  exact wpAny_pure (wpAny_pure hQ)
noncomputable def capOk (out names : List (Str × NameKind)) : Bool:=names.all fun p=>!(decide (p.2=NameKind.free)) || (decide (out.lookup p.1=some NameKind.cell) || decide (out.lookup p.1=some NameKind.free))
noncomputable def nmOk (N N' : List Str) (names : List (Str × NameKind)) : Bool:=(List.range N.length).all fun i=>match N'[i]? with
  | some y=>decide (names.lookup y=none) || (decide (names.lookup y=some NameKind.free) && decide (N[i]? = some y))
  | none=>false
structure CompScope (N : List Str) (out : List (Str × NameKind)) (N' : List Str) (k : Nat) (sc : Scope) : Prop where
  kind : sc.kind = .function
  len : N'.length=N.length + k
  cap : capOk out sc.names=true
  nm : nmOk N N' sc.names=true
  uniq : sc.names.all (fun p=>decide (sc.names.lookup p.1=some p.2))=true
noncomputable def z0O (X : Cx) (N' : List Str) (sc : Scope) (s : Shared) (H : Hp) (fp : List Addr) (pins : List (Addr × Obj)) (E : Value->Shared->Prop) : Cx where
  prog:=X.prog
  w:=X.w
  K:=X.K
  mg:=X.mg
  base:=X.base
  A:=X.A
  N:=N'
  s₀:=s
  H₀:=H
  env:=compEnvC sc (cellsFrom (s.heap.objs.size + 1) sc.names (z3C X.env.cells sc.names [])) s.heap.objs.size X.env
  outer:=X.stack
  stack:=X.stack
  ex:=fp
  fn:=fun x=>decide (sc.names.lookup x=some .cell)
  calm:=X.calm
  pn:=X.pn ++ pins
  xe:=E
section
variable {X : Cx} {N' : List Str} {k : Nat} {sc : Scope} {pins : List (Addr × Obj)} {σ : St} {H : Hp} {s : Shared} {fp : List Addr} {E : Value->Shared->Prop}
theorem CompScope.fr (S : CompScope X.N X.env.scope.names N' k sc) {x : Str} (h : (x,NameKind.free)∈sc.names) : X.env.kindOf x=some .cell∨X.env.kindOf x=some .free:=by
  have q:=List.all_eq_true.mp S.cap _ h
  simp at q
  exact q
theorem CompScope.look {N : List Str} {out : List (Str × NameKind)} (S : CompScope N out N' k sc) {x : Str} {kd : NameKind} (h : (x,kd)∈sc.names) : sc.names.lookup x=some kd:=by
  have q:=List.all_eq_true.mp S.uniq _ h
  exact of_decide_eq_true q
theorem y6Q (S : CompScope X.N X.env.scope.names N' k sc) (I : Inv X pins σ H s) (hf : ∀ b∈fp,y0d X pins H b) (hlt : ∀ b∈fp,b < s.heap.objs.size) :
    Inv (z0O X N' sc s H fp pins E) [] (σ ++ List.replicate k none) H { s with heap:=pushCells (s.heap.push { cls:=.type "dict",data:=.dict #[] }) sc.names }:=by
  have keeps : ∀ b o,s.heap.get? b=some o->(pushCells (s.heap.push { cls:=.type "dict",data:=.dict #[] }) sc.names).get? b=some o:=fun b o e=>pushCells_keeps _ _ _ _ (Heap.get?_push_of_some _ e)
  have hsz : (s.heap.push { cls:=.type "dict",data:=.dict #[] }).objs.size=s.heap.objs.size + 1:=Heap.size_push ..
  have hns : (pushCells (s.heap.push { cls:=.type "dict",data:=.dict #[] }) sc.names).Ns s.heap.objs.size (fun _=>none):=(Heap.Ns.new s.heap (.type "dict")).keeps (pushCells_keeps _ _)
  have frc : ∀ x,(x,NameKind.free)∈sc.names->∃ c,X.env.cells.lookup x=some c:=fun x h=>I.ok.has x (S.fr h)
  have cm : ∀ x c,(x,c)∈cellsFrom (s.heap.objs.size + 1) sc.names (z3C X.env.cells sc.names []) →
      ((x,NameKind.cell)∈sc.names∧s.heap.objs.size + 1≤c∧(pushCells (s.heap.push { cls:=.type "dict",data:=.dict #[] }) sc.names).IsCell c none)∨((x,NameKind.free)∈sc.names∧X.env.cells.lookup x=some c):=fun x c h=>by
    rw [← hsz] at h
    rcases z3L _ _ _ h with z | ⟨z1,z2,z3⟩
    · rcases z4a _ _ z with z | ⟨z1,z2⟩
      · exact nomatch z
      · obtain ⟨c',e⟩:=frc x z1
        rw [e] at z2
        cases z2
        exact .inr ⟨z1,e⟩
    · exact .inl ⟨z1,by omega,z3⟩
  have cl : ∀ x c,(cellsFrom (s.heap.objs.size + 1) sc.names (z3C X.env.cells sc.names [])).lookup x=some c->(x,c)∈cellsFrom (s.heap.objs.size + 1) sc.names (z3C X.env.cells sc.names []):=fun x c h=>PySem.mem_of_lookup h
  have clt : ∀ x c,X.env.cells.lookup x=some c->c < s.heap.objs.size:=fun x c h=>by
    obtain ⟨v,q⟩:=I.cell x c h
    exact q.lt
  have has : ∀ x,(x,NameKind.cell)∈sc.names∨(x,NameKind.free)∈sc.names->∃ c,(cellsFrom (s.heap.objs.size + 1) sc.names (z3C X.env.cells sc.names [])).lookup x=some c:=fun x h=>by
    obtain ⟨c,hc⟩:=z3E (x:=x) sc.names (s.heap.objs.size + 1) (z3C X.env.cells sc.names []) (h.imp id fun z=>z6E _ _ (.inl z))
    exact Option.isSome_iff_exists.mp (z2Y hc)
  have kd : ∀ x kk,(relabel sc X.env).names.lookup x=some kk->∃ k0,sc.names.lookup x=some k0∧(kk=k0∨(k0 = .free∧kk = .cell)):=fun x kk h=>by
    have q:=z4D X.env x sc.names
    have h' : (sc.names.map fun (n,k)=>if (k == NameKind.free && X.env.scope.kind == .function && X.env.kindOf n == some .cell) then (n,NameKind.cell) else (n,k)).lookup x=some kk:=h
    rw [q] at h'
    cases e : sc.names.lookup x with
    | none=>rw [e] at h'; cases h'
    | some k0=>
      rw [e] at h'
      simp only [Option.map_some,Option.some.injEq] at h'
      refine ⟨k0,rfl,?_⟩
      split at h'
      · rename_i hc
        simp at hc
        exact .inr ⟨hc.1.1,h'.symm⟩
      · exact .inl h'.symm
  refine ⟨⟨I.ok.mod,S.kind,I.ok.glob,I.ok.blt,Nat.le_refl _,?inj,?has,?cab,I.ok.hd,I.ok.frames,.inl rfl,?exf,I.bs,Nat.le_trans I.ok.bsz I.sz,?noex,?exfs,I.stack,I.stkFree⟩,
    rfl,I.bare,Un.kept keeps,⟨_,hns,?loc⟩,?cell,I.hok.fresh (Nat.le_refl _),?freeC,?pin,I.hok.kept keeps,?len⟩
  case inj=>
    intro x y c h1 h2
    rcases cm x c (cl x c h1) with ⟨_,l1,_⟩ | ⟨m1,e1⟩
    · rcases cm y c (cl y c h2) with ⟨_,l2,_⟩ | ⟨m2,e2⟩
      · refine z3z (s.heap.objs.size + 1) sc.names (s.heap.objs.size + 1) (z3C X.env.cells sc.names []) (fun x y c hx _ hc=>?_) (fun p hp=>?_) x y c (cl x c h1) (cl y c h2) l1
        · rcases z4a _ _ hx with z | ⟨z1,z2⟩
          · exact nomatch z
          · obtain ⟨c',e⟩:=frc x z1
            rw [e] at z2
            have z3 : c=c':=z2
            subst z3
            exact absurd (clt x c e) (Nat.not_lt.mpr (Nat.le_of_succ_le hc))
        · obtain ⟨x,c⟩:=p
          rcases z4a _ _ hp with z | ⟨z1,z2⟩
          · exact nomatch z
          · obtain ⟨c',e⟩:=frc x z1
            rw [e] at z2
            have z3 : c=c':=z2
            subst z3
            exact Nat.lt_succ_of_lt (clt x c e)
      · exact absurd (clt y c e2) (Nat.not_lt.mpr (Nat.le_of_succ_le l1))
    · rcases cm y c (cl y c h2) with ⟨_,l2,_⟩ | ⟨m2,e2⟩
      · exact absurd (clt x c e1) (Nat.not_lt.mpr (Nat.le_of_succ_le l2))
      · exact I.ok.inj x y c e1 e2
  case has=>
    intro x hx
    refine has x ?_
    rcases hx with hx | hx
    · obtain ⟨k0,e,h⟩:=kd x _ hx
      rcases h with h | ⟨h,_⟩
      · subst h; exact .inl (PySem.mem_of_lookup e)
      · subst h; exact .inr (PySem.mem_of_lookup e)
    · obtain ⟨k0,e,h⟩:=kd x _ hx
      rcases h with h | ⟨_,h⟩
      · subst h; exact .inr (PySem.mem_of_lookup e)
      · cases h
  case cab=>
    intro x c hfn h
    have hfn' : sc.names.lookup x=some NameKind.cell:=of_decide_eq_true hfn
    rcases cm x c (cl x c h) with ⟨_,l,_⟩ | ⟨m,_⟩
    · exact Nat.le_of_succ_le l
    · rw [S.look m] at hfn'; cases hfn'
  case exf=>
    intro b hb
    refine ⟨Nat.ne_of_lt (hlt b hb),fun x c h=>?_⟩
    rcases cm x c (cl x c h) with ⟨_,l,_⟩ | ⟨_,e⟩
    · intro z
      subst z
      exact absurd (hlt c hb) (Nat.not_lt.mpr (Nat.le_of_succ_le l))
    · exact (hf b hb).2.2.2.2.1 x c e
  case noex=>
    intro b o e hb
    rcases (hf b hb).2.2.2.1 with z | z
    · exact I.ok.noex b o e z
    · exact absurd (Nat.lt_of_lt_of_le (Heap.lt_size e) (Nat.le_trans I.ok.bsz z)) (Nat.lt_irrefl _)
  case exfs=>exact fun b hb z=>(List.mem_cons.mp (I.stkSub b z)).elim (hf b hb).2.1 (hf b hb).2.2.1
  case loc=>
    intro i y v h1 h2 h3
    have hl:=I.len
    by_cases hi : i < σ.length
    · rw [List.getElem?_append_left hi] at h2
      have q:=List.all_eq_true.mp S.nm i (List.mem_range.mpr (by omega))
      have h1' : N'[i]? = some y:=h1
      simp only [h1',Bool.or_eq_true,Bool.and_eq_true,decide_eq_true_eq] at q
      rcases q with q | ⟨q1,q2⟩
      · exfalso
        rcases h3 with z | z | z <;> (obtain ⟨k0,e,_⟩:=kd y _ z; rw [q] at e; cases e)
      · have hm:=PySem.mem_of_lookup q1
        obtain ⟨m,hn,hloc⟩:=I.loc
        have kk:=S.fr hm
        obtain ⟨u,r,l⟩:=hloc i y v q2 h2 (kk.elim (fun z=>.inr (.inl z)) fun z=>.inr (.inr z))
        refine ⟨u,r,.inr ⟨?_,?_⟩⟩
        · rcases h3 with z | z | z
          · obtain ⟨k0,e,h⟩:=kd y _ z
            rw [q1] at e
            cases e
            rcases h with h | ⟨_,h⟩ <;> cases h
          · exact .inl z
          · exact .inr z
        · rcases l with ⟨l,_⟩ | ⟨_,c,ec,hc⟩
          · rcases kk with z | z <;> (rw [z] at l; cases l)
          · obtain ⟨c',e'⟩:=has y (.inr hm)
            refine ⟨c',e',?_⟩
            rcases cm y c' (cl y c' e') with ⟨m',_⟩ | ⟨_,e2⟩
            · have:=S.look m'
              rw [q1] at this
              cases this
            · rw [ec] at e2
              cases e2
              exact hc.keeps keeps
    · rw [List.getElem?_append_right (by omega),List.getElem?_replicate] at h2
      split at h2 <;> cases h2
  case cell=>
    intro x c h
    rcases cm x c (cl x c h) with ⟨_,_,q⟩ | ⟨_,e⟩
    · exact ⟨_,q⟩
    · obtain ⟨v,q⟩:=I.cell x c e
      exact ⟨v,q.keeps keeps⟩
  case freeC=>
    intro x c h
    rcases cm x c (cl x c h) with ⟨_,l,_⟩ | ⟨_,e⟩
    · exact I.hok.fresh (Nat.le_of_succ_le l)
    · exact I.freeC x c e
  case pin=>
    intro p hp
    have hp' : p∈X.pn ++ pins:=by
      rcases List.mem_append.mp hp with z | z
      · exact z
      · exact nomatch z
    obtain ⟨e,n,ne,nf,d⟩:=I.pin p hp'
    exact ⟨keeps _ _ e,n,Nat.ne_of_lt (Heap.lt_size e),fun z=>(List.mem_cons.mp (I.stkSub p.1 z)).elim ne nf,d⟩
  case len=>
    show _=N'.length
    rw [List.length_append,List.length_replicate,S.len,I.len]
theorem z9r {σ' : St} {H' : Hp} {s' : Shared} (I : Inv X pins σ H s) (hf : ∀ b∈fp,y0d X pins H b) (J : Inv (z0O X N' sc s H fp pins E) [] σ' H' s') : Inv X pins σ H' s':=
  I.call' J.os J.base J.hok J.bare fun b hb=>⟨(hf b hb).2.2.2.1,(hf b hb).2.1,(hf b hb).2.2.2.2.1,(hf b hb).2.2.2.2.2⟩
theorem y3N {H' : Hp} {s' : Shared} {h' : Heap} (I : Inv X pins σ H s) (J : Inv X pins σ H' s') (hn : H' s.heap.objs.size=none) (hb : Heap.SameBut s.heap.objs.size s'.heap h') : Inv X pins σ H' { s' with heap:=h' }:=by
  refine J.turned (t':=s'.toks) (it:=s.heap.objs.size) (fun b o hne e=>(hb.2 b hne).trans e) hn (Nat.ne_of_gt I.lt) (.inr I.sz) (fun x c e=>?_) fun p hp=>?_
  · obtain ⟨v,q⟩:=I.cell x c e
    exact Nat.ne_of_lt q.lt
  · exact Nat.ne_of_lt (Heap.lt_size (I.pin p hp).1)
end
theorem z9z {prog : Program} {w : World} {A : Around} {R : Result->Shared->Prop} {s : Shared} {elt target iter : Expr} {ifs : List Expr} {scope : Scope} {pos : Pos} {it acc : Value} {env : Env} (I : Nat->Shared->Prop)
    (turn : ∀ n s,I n s->wpAny (model prog w) A (pyNext it) (fun r s₁=>match r with
      | none=>R (.ok .next) s₁
      | some v=>wpAny (model prog w) A (letOwnedTupleGo target it v) (fun _ s₁'=>wpAny (model prog w) A (assign target env v) (fun _ s₂=>
          wpAny (model prog w) A (forIn ifs true fun c r=>if r=true then do let ok ← isTrue c env (eval c env); pure (ForInStep.yield ok) else pure (ForInStep.yield r)) (fun ok s₃=>
            if ok=true then wpAny (model prog w) A (eval elt env) (fun x s₄=>
              wpAny (model prog w) A (call (.builtin "list.append") [acc,x]) (fun _ s₅=>∃ m,m < n∧I m s₅) (notedBy (model prog w) A env fun e s'=>R (.error e) s') s₄) (notedBy (model prog w) A env fun e s'=>R (.error e) s') s₃
            else ∃ m,m < n∧I m s₃) (notedBy (model prog w) A env fun e s'=>R (.error e) s') s₂) (notedBy (model prog w) A env fun e s'=>R (.error e) s') s₁') (notedBy (model prog w) A env fun e s'=>R (.error e) s') s₁) (notedBy (model prog w) A env fun e s'=>R (.error e) s') s)
    (n : Nat) (h : I n s) :
    codeAny (model prog w) A (.compLoop (.ListComp elt [⟨target,iter,ifs,0⟩] scope pos) 0 it acc env) R s:=by
  refine codeAny_loop rfl I (fun n s hI=>?_) n h
  show wpAny _ A ((compTurn (.ListComp elt [⟨target,iter,ifs,0⟩] scope pos) 0 it acc env).onRaise (fun x=>do noteFrame x env; theTreesLotGoes x)) _ _ s
  refine wpAny_noted ?_
  rw [compTurn_list]
  refine wpAny_bind (wpAny_standAt (wpAny_bind (wpAny_mono (turn n s hI) (fun r s₁ h₁=>?_) fun _ _ h'=>h')))
  cases r with
  | none=>exact wpAny_pure h₁
  | some v=>
    refine wpAny_bind (wpAny_mono h₁ (fun _ s₁' h₁'=>?_) fun _ _ h'=>h')
    refine wpAny_bind (wpAny_mono h₁' (fun _ s₂ h₂=>wpAny_bind (wpAny_mono h₂ (fun ok s₃ h₃=>?_) fun _ _ h'=>h')) fun _ _ h'=>h')
    cases ok with
    | false=>exact wpAny_pure ⟨rfl,h₃⟩
    | true=>
      exact wpAny_bind (wpAny_bind (wpAny_mono h₃ (fun x s₄ h₄=>wpAny_bind (wpAny_mono h₄ (fun _ s₅ h₅=>wpAny_pure (wpAny_pure ⟨rfl,h₅⟩)) fun _ _ h'=>h')) fun _ _ h'=>h'))
noncomputable def y5k (X : Cx) (ifs : List Expr) (t : TT) : Prop:=
  ∀ (pins : List (Addr × Obj)) (s : Shared) (σ : St) (H : Hp) (Q : Bool->Hp->Prop),Inv X pins σ H s->t σ H Q →
    wpAny (model X.prog X.w) X.A (forIn ifs true fun c r=>if r=true then do let ok ← isTrue c X.env (eval c X.env); pure (ForInStep.yield ok) else pure (ForInStep.yield r)) (TP X pins σ Q) X.xe s
noncomputable def tYes : TT:=fun _ H Q=>Q true H
theorem y6n {X : Cx} : y5k X [] tYes:=fun _ _ _ H _ I h=>wpAny_tests_nil ⟨H,I,h⟩
theorem y6K {X : Cx} {c : Expr} {t : TT} (h : PT X c t) : y5k X [c] t:=fun pins s σ H Q I hw=>wpAny_tests_one (h pins s σ H Q I hw)
noncomputable def y3t (wi : TI) (g : TG) (tc : TT) (te : TE) (k : Nat) : TE:=fun σ H Q=>wi σ H fun J H1=>∀ D,H1 D=none →
  ∃ W : Nat->Nat->St->Hp->Prop,(∃ m,W 0 m (σ ++ List.replicate k none) (upd H1 D (.lst [])))∧∀ i m σ' H',W i m σ' H' →
    (J.stop i H'∧Q (.ref D) H')∨(J.go i H'∧∃ N : St->Hp->Prop,(∀ σ'' H'',N σ'' H''->∃ m',m' < m∧W (i + 1) m' σ'' H'') ∧
      ∀ x H2,J.yld i H' x H2->g x σ' H2 fun σ2 H3=>tc σ2 H3 fun b H4=>if b=true then te σ2 H4 fun y H5=>∃ ys,H5 D=some (.lst ys)∧ys.length < sizeLine∧N σ2 (upd H5 D (.lst (ys ++ [y]))) else N σ2 H4)
structure PComp (X : Cx) (N' : List Str) (sc : Scope) (tg : Expr) (ifs : List Expr) (elt : Expr) (g : TG) (tc : TT) (te : TE) : Prop where
  pg : ∀ s H fp pins E,PG (z0O X N' sc s H fp pins E) tg g
  pt : ∀ s H fp pins E,y5k (z0O X N' sc s H fp pins E) ifs tc
  pe : ∀ s H fp pins E,PE (z0O X N' sc s H fp pins E) elt te
section
variable {X : Cx} {N' : List Str} {k : Nat} {sc : Scope} {tg iter elt : Expr} {ifs : List Expr} {pos : Pos} {g : TG} {tc : TT} {te : TE} {wi : TI}
theorem z7F {pins : List (Addr × Obj)} {σ : St} {H : Hp} {s : Shared} {J : It} {fp : List Addr} {it : Addr} {tn : Nat->Heap->Prop} {Q : VK} {E : Value->Shared->Prop} {RR : Value->Addr->Result->Shared->Prop}
    (hc : X.calm=true) (S : CompScope X.N X.env.scope.names N' k sc) (P : PComp X N' sc tg ifs elt g tc te) (I : Inv X pins σ H s) (T : Turn X.prog X.w X.K tg J fp it tn) (st : tn 0 s.heap) (hf : ∀ b∈fp,y0d X pins H b)
    (hW : ∀ D,H D=none->∃ W : Nat->Nat->St->Hp->Prop,(∃ m,W 0 m (σ ++ List.replicate k none) (upd H D (.lst [])))∧∀ i m σ' H',W i m σ' H' →
      (J.stop i H'∧Q (.ref D) H')∨(J.go i H'∧∃ N : St->Hp->Prop,(∀ σ'' H'',N σ'' H''->∃ m',m' < m∧W (i + 1) m' σ'' H'') ∧
        ∀ x H2,J.yld i H' x H2->g x σ' H2 fun σ2 H3=>tc σ2 H3 fun b H4=>if b=true then te σ2 H4 fun y H5=>∃ ys,H5 D=some (.lst ys)∧ys.length < sizeLine∧N σ2 (upd H5 D (.lst (ys ++ [y]))) else N σ2 H4))
    (hR : ∀ D s3 H3 σ' H' s' E',Inv X pins σ H3 s3->(∀ b∈fp,y0d X pins H3 b)->Inv (z0O X N' sc s3 H3 fp pins E') [] σ' H' s'->Q (.ref D) H'->RR (.ref D) s3.heap.objs.size (.ok .next) s') :
    wpAny (model X.prog X.w) X.A (newList []) (fun acc s₃=>wpAny (model X.prog X.w) X.A (newFunctionEnv sc X.env.globals (z3C X.env.cells sc.names []) [] X.env.qual none .none (some X.env)) (fun cenv s₄=>
      codeAny (model X.prog X.w) X.A (.compStart (.ListComp elt [⟨tg,iter,ifs,0⟩] sc pos) 0 (.ref it) acc { cenv with scope:=relabel sc X.env }) (RR acc cenv.locals) s₄) E s₃) E s:=by
  obtain ⟨W,⟨m0,w0⟩,step⟩:=hW s.heap.objs.size (I.hok.fresh (Nat.le_refl _))
  have I3 : Inv X pins σ (upd H s.heap.objs.size (.lst [])) { s with heap:=s.heap.push { cls:=.type "list",data:=.seq ([] : List Value).toArray },toks:=s.toks }:=I.lnew (t':=s.toks) .nil (Nat.zero_le _)
  have lt0 : ∀ b∈fp,b < s.heap.objs.size:=fun b hb=>by
    obtain ⟨o,e,_⟩:=T.obj 0 _ st b hb
    exact Heap.lt_size e
  have hf3 : ∀ b∈fp,y0d X pins (upd H s.heap.objs.size (.lst [])) b:=fun b hb=>⟨by rw [z0A (Nat.ne_of_lt (lt0 b hb))]; exact (hf b hb).1,(hf b hb).2⟩
  have lt3 : ∀ b∈fp,b < (s.heap.push { cls:=.type "list",data:=.seq ([] : List Value).toArray }).objs.size:=fun b hb=>by
    rw [Heap.size_push]
    exact Nat.lt_succ_of_lt (lt0 b hb)
  refine wpAny_newObj_type (z3e ?_)
  generalize hs3 : ({ s with heap:=s.heap.push { cls:=.type "list",data:=.seq ([] : List Value).toArray },toks:=s.toks } : Shared)=s3 at I3
  have hsh : s3.heap=s.heap.push { cls:=.type "list",data:=.seq ([] : List Value).toArray }:=by rw [← hs3]
  rw [← hsh] at lt3
  have st3 : tn 0 s3.heap:=T.keep _ _ _ st fun b _ o e=>by rw [hsh]; exact Heap.get?_push_of_some _ e
  show codeAny _ _ (.compStart _ 0 (.ref it) (.ref s.heap.objs.size) (compEnvC sc (cellsFrom (s3.heap.objs.size + 1) sc.names (z3C X.env.cells sc.names [])) s3.heap.objs.size X.env)) (RR (.ref s.heap.objs.size) s3.heap.objs.size)
    { s3 with heap:=pushCells (s3.heap.push { cls:=.type "dict",data:=.dict #[] }) sc.names }
  generalize hD : s.heap.objs.size=D at *
  generalize hEn : (notedBy (model X.prog X.w) X.A (compEnvC sc (cellsFrom (s3.heap.objs.size + 1) sc.names (z3C X.env.cells sc.names [])) s3.heap.objs.size X.env) fun e s'=>RR (.ref D) s3.heap.objs.size (.error e) s')=En
  have I4 : Inv (z0O X N' sc s3 (upd H D (.lst [])) fp pins En) [] (σ ++ List.replicate k none) (upd H D (.lst [])) { s3 with heap:=pushCells (s3.heap.push { cls:=.type "dict",data:=.dict #[] }) sc.names }:=y6Q S I3 hf3 lt3
  have st4 : tn 0 (pushCells (s3.heap.push { cls:=.type "dict",data:=.dict #[] }) sc.names):=T.keep _ _ _ st3 fun b _ o e=>pushCells_keeps _ _ _ _ (Heap.get?_push_of_some _ e)
  have stat : ∀ {H' : Hp},(∀ b∈fp,H' b=none)->∀ b∈fp,y0d (z0O X N' sc s3 (upd H D (.lst [])) fp pins En) [] H' b:=fun hn b hb=>
    ⟨hn b hb,(I4.ok.exf b hb).1,I4.ok.exfs b hb,.inl hb,(I4.ok.exf b hb).2,fun p hp=>(hf3 b hb).2.2.2.2.2 p (by
      rcases List.mem_append.mp hp with z | z
      · exact z
      · exact nomatch z)⟩
  have loop : codeAny (model X.prog X.w) X.A (.compLoop (.ListComp elt [⟨tg,iter,ifs,0⟩] sc pos) 0 (.ref it) (.ref D) (z0O X N' sc s3 (upd H D (.lst [])) fp pins En).env) (RR (.ref D) s3.heap.objs.size)
      { s3 with heap:=pushCells (s3.heap.push { cls:=.type "dict",data:=.dict #[] }) sc.names }:=by
    refine z9z (fun n s'=>∃ i σ' H',Inv (z0O X N' sc s3 (upd H D (.lst [])) fp pins En) [] σ' H' s'∧tn i s'.heap∧(∀ b∈fp,H' b=none)∧W i n σ' H') ?_ m0 ⟨0,_,_,I4,st4,fun b hb=>(hf3 b hb).1,w0⟩
    have eEn : (notedBy (model X.prog X.w) X.A (z0O X N' sc s3 (upd H D (.lst [])) fp pins En).env fun e s'=>RR (.ref D) s3.heap.objs.size (.error e) s')=En:=hEn
    rw [eEn]
    rintro n s5 ⟨i,σ5,H5,I5,st5,fr5,w5⟩
    rcases step i n σ5 H5 w5 with ⟨stop,qn⟩ | ⟨go,N,hN,turn⟩
    · refine thn (T.done (z0O X N' sc s3 (upd H D (.lst [])) fp pins En) rfl rfl rfl hc i [] s5 σ5 H5 En I5 (stat fr5) st5 stop) fun r s6 ⟨hr,I6⟩=>?_
      subst hr
      exact hR D s3 _ σ5 H5 s6 En I3 hf3 I6 qn
    · refine thn (T.item (z0O X N' sc s3 (upd H D (.lst [])) fp pins En) rfl rfl rfl hc i [] s5 σ5 H5 En I5 (stat fr5) st5 go) fun r s6 ⟨u,hr,h6⟩=>?_
      subst hr
      refine thn h6 fun _ s7 ⟨x,H7,I7,r7,y7,st7,fr7⟩=>?_
      have I7':=I7.pinned (stat fr7) (T.obj _ _ st7)
      have back : ∀ {σ9 : St} {H9 : Hp} {s9 : Shared},Inv (z0O X N' sc s3 (upd H D (.lst [])) fp pins En) ([] ++ z9i fp s7.heap) σ9 H9 s9->N σ9 H9 →
          ∃ m,m < n∧∃ i σ' H',Inv (z0O X N' sc s3 (upd H D (.lst [])) fp pins En) [] σ' H' s9∧tn i s9.heap∧(∀ b∈fp,H' b=none)∧W i m σ' H':=fun {σ9 H9 s9} I9 n9=>by
        obtain ⟨m',hm,w9⟩:=hN σ9 H9 n9
        refine ⟨m',hm,i + 1,σ9,H9,I9.unpinned,T.keep _ _ _ st7 fun b hb o e=>(I9.pin (b,o) (List.mem_append_right _ (List.mem_append_right _ (z4w hb e)))).1,fun b hb=>?_,w9⟩
        obtain ⟨o,e,d⟩:=T.obj _ _ st7 b hb
        exact (I9.pin (b,o) (List.mem_append_right _ (List.mem_append_right _ (z4w hb e)))).2.1
      refine thn (P.pg s3 _ fp pins En _ s7 σ5 H7 x u _ I7' r7 (turn x H7 y7)) fun _ s8 ⟨σ8,H8,I8,q8⟩=>?_
      refine thn (P.pt s3 _ fp pins En _ s8 σ8 H8 _ I8 q8) fun ok s9 ⟨H9,I9,q9⟩=>?_
      cases ok with
      | false=>
        rw [if_neg Bool.false_ne_true] at q9
        rw [if_neg Bool.false_ne_true]
        exact back I9 q9
      | true=>
        rw [if_pos rfl] at q9
        rw [if_pos rfl]
        refine thn (P.pe s3 _ fp pins En _ s9 σ8 H9 _ I9 q9) fun y s10 ⟨yv,H10,I10,r10,ys,hys,hl,q10⟩=>?_
        refine thn (z1O _ s10 σ8 H10 (.ref D) [yv] (.ref D) [y] (fun _ H'=>N σ8 H') I10 rfl (.cons r10 .nil) ⟨D,ys,yv,rfl,rfl,hys,hl,q10⟩) fun _ s11 ⟨_,H11,I11,_,q11⟩=>?_
        exact back I11 q11
  exact codeAny_compStart_list loop (T.self X.A 0 _ _ _ st4 loop)
theorem CompScope.names' {N : List Str} {out : List (Str × NameKind)} (S : CompScope N out N' k sc) : ∀ x∈sc.names,x.2 = .local->sc.names.lookup x.1=some .local:=fun x hx e=>by
  obtain ⟨n,kd⟩:=x
  have e' : kd = .local:=e
  subst e'
  exact S.look hx
theorem y0l (hc : X.calm=true) (S : CompScope X.N X.env.scope.names N' k sc) (hi : PI X tg iter wi) (P : PComp X N' sc tg ifs elt g tc te) (hs : ∀ x,foldedSetIterable iter X.env x=pure x:=by intro _; rfl) :
    PE X (.ListComp elt [⟨tg,iter,ifs,0⟩] sc pos) (y3t wi g tc te k):=by
  intro pins s σ H Q I h
  rw [eval_ListComp]
  refine wpAny_comprehension_free (use:=none) rfl hs (z3P fun n hn=>I.ok.has n (S.fr hn)) S.kind S.names' (thn (hi pins s σ H _ I h) fun v s1 h1=>thn h1 fun itv s2 h2=>?_)
  obtain ⟨it,fp,tn,J,H2,e,I2,T,st2,f2,hW⟩:=h2
  subst e
  refine z7F (Q:=Q) (RR:=fun acc C=>compPost (model X.prog X.w) X.A X.xe none (EP X pins σ Q) acc C) hc S P I2 T st2 f2 hW ?_
  intro D s3 H3 σ' H' s' E' I3 f3 J' q
  obtain ⟨m,hn,_⟩:=J'.loc
  exact ⟨m,hn,fun h' hb=>⟨.ref D,H',y3N I3 (z9r I3 f3 J') J'.free hb,rfl,q⟩⟩
theorem y3i {i : Nat} {y : Str} {py spos : Pos} (hc : X.calm=true) (S : CompScope X.N X.env.scope.names N' k sc) (hN : X.N.Nodup) (hy : X.N[i]? = some y) (hyl : X.env.scope.names.lookup y=some .local) (hi : PI X tg iter wi) (P : PComp X N' sc tg ifs elt g tc te)
    (hsw : swapsWith (.ListComp elt [⟨tg,iter,ifs,0⟩] sc pos) (some (.Name y py)) spos.line X.env=pure true:=by rfl) (hs : ∀ x,foldedSetIterable iter X.env x=pure x:=by intro _; rfl) :
    PS X (.Assign [.Name y py] (.ListComp elt [⟨tg,iter,ifs,0⟩] sc pos) spos) (tAsg (y3t wi g tc te k) (z2N i)):=by
  intro pins s σ H D I h
  rw [exec_Assign_Name_used _ _ _ _ hsw]
  refine wpAny_bind (wpAny_standAt (wpAny_bind ?_))
  show wpAny _ X.A (do let _ ← comprehension (.ListComp elt [⟨tg,iter,ifs,0⟩] sc pos) sc X.env _ (newList []) false (eval iter X.env) (some (assign (.Name y py) X.env))) _ _ s
  refine wpAny_bind (wpAny_mono (wpAny_comprehension_free (use:=some (assign (.Name y py) X.env)) (Q:=fun _ s'=>SP X pins D .next s') rfl hs (z3P fun n hn=>I.ok.has n (S.fr hn)) S.kind S.names'
    (thn (hi pins s σ H _ I h) fun v s1 h1=>thn h1 fun itv s2 h2=>?_)) (fun _ s' hq=>wpAny_pure (wpAny_pure hq)) fun _ _ e=>e)
  obtain ⟨it,fp,tn,J,H2,e,I2,T,st2,f2,hW⟩:=h2
  subst e
  refine z7F (Q:=fun v H'=>D.nx (σ.set i (some v)) H') (RR:=fun acc C=>compPost (model X.prog X.w) X.A X.xe (some (assign (.Name y py) X.env)) (fun _ s'=>SP X pins D .next s') acc C) hc S P I2 T st2 f2 hW ?_
  intro a s3 H3 σ' H' s' E' I3 f3 J' q
  have J2:=z9r I3 f3 J'
  obtain ⟨m,hn,_⟩:=J'.loc
  show wpAny _ X.A (assign (.Name y py) X.env (.ref a)) _ _ _
  refine wpAny_assign_Name (z9E J2 hN hy (.inl hyl) (v:=.ref a) rfl (fun s4 I4 hsb=>?_) (.inr hyl))
  obtain ⟨b,hb,hb'⟩:=hsb
  have hne : b≠s3.heap.objs.size:=by
    rcases hb' with z | z
    · rw [z]; exact Nat.ne_of_lt I3.lt
    · obtain ⟨v,w'⟩:=I3.cell y b z
      exact Nat.ne_of_lt w'.lt
  refine ⟨m,hn.sameBut hb (Ne.symm hne),fun h' hb2=>⟨_,H',?_,q⟩⟩
  have I3' : Inv X pins (σ.set i (some (.ref a))) H3 s3∨True:=.inr trivial
  refine I4.turned (t':=s4.toks) (it:=s3.heap.objs.size) (fun b o hne e=>(hb2.2 b hne).trans e) J'.free (Nat.ne_of_gt I3.lt) (.inr I3.sz) (fun x c e=>?_) fun p hp=>?_
  · obtain ⟨v,q⟩:=I3.cell x c e
    exact Nat.ne_of_lt q.lt
  · exact Nat.ne_of_lt (Heap.lt_size (I3.pin p hp).1)
end
end L2
namespace L2
open PySem PySem.Spec PyProof.Rows
inductive D where
  | non | bl (b : Bool) | int (i : Int) | str (x : Str) | lst (xs : List D) | tup (xs : List D) | scr (ns : List Int) | dct (ks : List Key) (xs : List D) | exc (x : Str)
noncomputable def y2M (K : PySem.W.Frag) (C : Addr) : Bool:=PySem.W.findIn K (.ref C) "__getattribute__" == some (some (.builtin "BaseException.__getattribute__")) && PySem.W.findIn K (.ref C) "__getattr__" == some none && PySem.W.mroIn K C (.type "BaseException") == some true && (PySem.W.clsIn K C).isSome && PySem.W.findIn K (.ref C) "__class__" == some (some (.builtin "object.__class__")) &&
  PySem.W.specialIn K (.builtin "object.__class__") "__get__" == some (some (.builtin "getset_descriptor.__get__")) && PySem.W.takesIn K (.builtin "object.__class__") == some true && PySem.W.mroIn K C (.type "object") == some true &&
  ["bool", "int", "str", "list", "tuple", "dict"].all fun T=>PySem.W.kitOne K (.ref C) (.type T) == some false
noncomputable def isX (a C : Addr) (h : Heap) : Prop:=∃ o,h.get? a=some o∧o.cls = .ref C∧o.dict=none∧PySem.W.notCls o=true
noncomputable def SqF (K : PySem.W.Frag) (H : Hp) (a : Addr) (xs : List V) : Prop:=
  (∃ o,H a=some (.frz o (.lst xs)))∨∃ (o : Obj) (its : Array Value) (n : Nat),K.lookup a=some o∧o.cls = .type "list" ∧ o.dict=none∧o.data = .seq its n∧its.size≤sizeLine∧Vals xs its.toList
theorem SqF.sq {K : PySem.W.Frag} {H : Hp} {a : Addr} {xs : List V} (h : SqF K H a xs) : SqL K H a xs:=h.elim (fun z=>.inl (.inr z)) .inr
mutual
def Rep (K : PySem.W.Frag) (H : Hp) (B : Addr->Prop) : D->V->Prop
  | .non,v=>v = .non
  | .bl b,v=>v = .bl b
  | .int i,v=>v = .int i
  | .str x,v=>v = .str x
  | .lst ds,v=>∃ a xs,v = .ref a∧¬ B a∧H a=some (.lst xs)∧Reps K H B ds xs
  | .tup ds,v=>∃ a xs,v = .ref a∧SqT K H a xs∧Reps K H B ds xs
  | .scr ns,v=>∃ a,v = .ref a∧SqF K H a (ns.map V.int)
  | .dct ks ds,v=>∃ a kvs,v = .ref a∧¬ B a∧H a=some (.dK kvs)∧kvs.map (·.1)=ks∧Reps K H B ds (kvs.map (·.2))
  | .exc x,v=>∃ a C,v = .ref a∧¬ B a∧H a=some (.ext (isX a C))∧PySem.W.nsIn K mainGlobals x=some (some (.ref C))∧y2M K C=true
def Reps (K : PySem.W.Frag) (H : Hp) (B : Addr->Prop) : List D->List V->Prop
  | [],xs=>xs=[]
  | d :: ds,xs=>∃ x r,xs=x :: r∧Rep K H B d x∧Reps K H B ds r
end
mutual
def Tree (K : PySem.W.Frag) (H : Hp) : D->V->List Addr->Prop
  | .non,v,A=>v = .non∧A=[]
  | .bl b,v,A=>v = .bl b∧A=[]
  | .int i,v,A=>v = .int i∧A=[]
  | .str x,v,A=>v = .str x∧A=[]
  | .lst ds,v,A=>∃ a xs B,v = .ref a∧H a=some (.lst xs)∧Trees K H ds xs B∧A=a :: B
  | .tup ds,v,A=>∃ a xs,v = .ref a∧SqT K H a xs∧Trees K H ds xs A
  | .scr ns,v,A=>(∃ a,v = .ref a∧SqF K H a (ns.map V.int))∧A=[]
  | .dct ks ds,v,A=>∃ a kvs B,v = .ref a∧H a=some (.dK kvs)∧kvs.map (·.1)=ks∧Trees K H ds (kvs.map (·.2)) B∧A=a :: B
  | .exc x,v,A=>∃ a C,v = .ref a∧H a=some (.ext (isX a C))∧PySem.W.nsIn K mainGlobals x=some (some (.ref C))∧y2M K C=true∧A=[a]
def Trees (K : PySem.W.Frag) (H : Hp) : List D->List V->List Addr->Prop
  | [],xs,A=>xs=[]∧A=[]
  | d :: ds,xs,A=>∃ x r B C,xs=x :: r∧Tree K H d x B∧Trees K H ds r C∧A=B ++ C
end
mutual
def D.imm : D->Bool
  | .non=>true
  | .bl _=>true
  | .int _=>true
  | .str _=>true
  | .lst _=>false
  | .tup ds=>z1l ds
  | .scr _=>true
  | .dct _ _=>false
  | .exc _=>false
def z1l : List D->Bool
  | []=>true
  | d :: ds=>d.imm && z1l ds
end
theorem Same.tup {K : PySem.W.Frag} {H H' : Hp} {a : Addr} {xs : List V} (e : Same H H') (h : SqT K H a xs) : SqT K H' a xs:=by
  rcases h with (h | ⟨o,h⟩) | h
  · exact .inl (.inl (e _ _ h))
  · exact .inl (.inr ⟨o,e _ _ h⟩)
  · exact .inr h
section
variable {K : PySem.W.Frag} {H H' : Hp} {B B' : Addr->Prop}
structure KeepI (K : PySem.W.Frag) (H H' : Hp) : Prop where
  st : ∀ a xs,SqT K H a xs->SqT K H' a xs
  sf : ∀ a xs,SqF K H a xs->SqF K H' a xs
structure Keep (K : PySem.W.Frag) (B : Addr->Prop) (H H' : Hp) : Prop where
  sl : ∀ a xs,¬ B a->H a=some (.lst xs)->H' a=some (.lst xs)
  st : ∀ a xs,SqT K H a xs->SqT K H' a xs
  sf : ∀ a xs,SqF K H a xs->SqF K H' a xs
  sd : ∀ a kvs,¬ B a->H a=some (.dK kvs)->H' a=some (.dK kvs)
  sx : ∀ a φ,¬ B a->H a=some (.ext φ)->H' a=some (.ext φ)
theorem Keep.i (k : Keep K B H H') : KeepI K H H':=⟨k.st,k.sf⟩
mutual
theorem Rep.keep (k : Keep K B H H') : ∀ (d : D) {v : V},Rep K H B d v->Rep K H' B d v
  | .non,_,h=>h
  | .bl _,_,h=>h
  | .int _,_,h=>h
  | .str _,_,h=>h
  | .lst ds,_,h=>by
    unfold Rep at h ⊢
    obtain ⟨a,xs,e,n,s,r⟩:=h
    exact ⟨a,xs,e,n,k.sl a xs n s,Reps.keep k ds r⟩
  | .tup ds,_,h=>by
    unfold Rep at h ⊢
    obtain ⟨a,xs,e,s,r⟩:=h
    exact ⟨a,xs,e,k.st a xs s,Reps.keep k ds r⟩
  | .scr ns,_,h=>by
    unfold Rep at h ⊢
    obtain ⟨a,e,s⟩:=h
    exact ⟨a,e,k.sf a _ s⟩
  | .dct ks ds,_,h=>by
    unfold Rep at h ⊢
    obtain ⟨a,kvs,e,n,s,q,r⟩:=h
    exact ⟨a,kvs,e,n,k.sd a kvs n s,q,Reps.keep k ds r⟩
  | .exc _,_,h=>by
    unfold Rep at h ⊢
    obtain ⟨a,C,e,n,s,r⟩:=h
    exact ⟨a,C,e,n,k.sx a _ n s,r⟩
theorem Reps.keep (k : Keep K B H H') : ∀ (ds : List D) {xs : List V},Reps K H B ds xs->Reps K H' B ds xs
  | [],_,h=>h
  | d :: ds,_,h=>by
    unfold Reps at h ⊢
    obtain ⟨x,r,e,h1,h2⟩:=h
    exact ⟨x,r,e,Rep.keep k d h1,Reps.keep k ds h2⟩
end
mutual
theorem Rep.anti (hb : ∀ a,B' a->B a) : ∀ (d : D) {v : V},Rep K H B d v->Rep K H B' d v
  | .non,_,h=>h
  | .bl _,_,h=>h
  | .int _,_,h=>h
  | .str _,_,h=>h
  | .lst ds,_,h=>by
    unfold Rep at h ⊢
    obtain ⟨a,xs,e,n,s,r⟩:=h
    exact ⟨a,xs,e,fun z=>n (hb a z),s,Reps.anti hb ds r⟩
  | .tup ds,_,h=>by
    unfold Rep at h ⊢
    obtain ⟨a,xs,e,s,r⟩:=h
    exact ⟨a,xs,e,s,Reps.anti hb ds r⟩
  | .scr _,_,h=>h
  | .dct ks ds,_,h=>by
    unfold Rep at h ⊢
    obtain ⟨a,kvs,e,n,s,q,r⟩:=h
    exact ⟨a,kvs,e,fun z=>n (hb a z),s,q,Reps.anti hb ds r⟩
  | .exc _,_,h=>by
    unfold Rep at h ⊢
    obtain ⟨a,C,e,n,r⟩:=h
    exact ⟨a,C,e,fun z=>n (hb a z),r⟩
theorem Reps.anti (hb : ∀ a,B' a->B a) : ∀ (ds : List D) {xs : List V},Reps K H B ds xs->Reps K H B' ds xs
  | [],_,h=>h
  | d :: ds,_,h=>by
    unfold Reps at h ⊢
    obtain ⟨x,r,e,h1,h2⟩:=h
    exact ⟨x,r,e,Rep.anti hb d h1,Reps.anti hb ds h2⟩
end
mutual
theorem Rep.imm : ∀ (d : D) {v : V},d.imm=true->Rep K H B d v->Rep K H B' d v
  | .non,_,_,h=>h
  | .bl _,_,_,h=>h
  | .int _,_,_,h=>h
  | .str _,_,_,h=>h
  | .lst _,_,i,_=>by unfold D.imm at i; cases i
  | .dct _ _,_,i,_=>by unfold D.imm at i; cases i
  | .exc _,_,i,_=>by unfold D.imm at i; cases i
  | .tup ds,_,i,h=>by
    unfold D.imm at i
    unfold Rep at h ⊢
    obtain ⟨a,xs,e,s,r⟩:=h
    exact ⟨a,xs,e,s,Reps.imm ds i r⟩
  | .scr _,_,_,h=>h
theorem Reps.imm : ∀ (ds : List D) {xs : List V},z1l ds=true->Reps K H B ds xs->Reps K H B' ds xs
  | [],_,_,h=>h
  | d :: ds,_,i,h=>by
    unfold z1l at i
    rw [Bool.and_eq_true] at i
    unfold Reps at h ⊢
    obtain ⟨x,r,e,h1,h2⟩:=h
    exact ⟨x,r,e,Rep.imm d i.1 h1,Reps.imm ds i.2 h2⟩
end
mutual
theorem Rep.immTree : ∀ (d : D) {v : V},d.imm=true->Rep K H B d v->Tree K H d v []
  | .non,_,_,h=>⟨h,rfl⟩
  | .bl _,_,_,h=>⟨h,rfl⟩
  | .int _,_,_,h=>⟨h,rfl⟩
  | .str _,_,_,h=>⟨h,rfl⟩
  | .lst _,_,i,_=>by unfold D.imm at i; cases i
  | .dct _ _,_,i,_=>by unfold D.imm at i; cases i
  | .exc _,_,i,_=>by unfold D.imm at i; cases i
  | .tup ds,_,i,h=>by
    unfold D.imm at i
    unfold Rep at h
    unfold Tree
    obtain ⟨a,xs,e,s,r⟩:=h
    exact ⟨a,xs,e,s,Reps.immTree ds i r⟩
  | .scr _,_,_,h=>⟨h,rfl⟩
theorem Reps.immTree : ∀ (ds : List D) {xs : List V},z1l ds=true->Reps K H B ds xs->Trees K H ds xs []
  | [],_,_,h=>⟨h,rfl⟩
  | d :: ds,_,i,h=>by
    unfold z1l at i
    rw [Bool.and_eq_true] at i
    unfold Reps at h
    unfold Trees
    obtain ⟨x,r,e,h1,h2⟩:=h
    exact ⟨x,r,[],[],e,Rep.immTree d i.1 h1,Reps.immTree ds i.2 h2,rfl⟩
end
mutual
theorem Tree.rep : ∀ (d : D) {v : V} {A : List Addr},Tree K H d v A->(∀ a∈A,¬ B a)->Rep K H B d v
  | .non,_,_,h,_=>h.1
  | .bl _,_,_,h,_=>h.1
  | .int _,_,_,h,_=>h.1
  | .str _,_,_,h,_=>h.1
  | .lst ds,_,_,h,n=>by
    unfold Tree at h
    unfold Rep
    obtain ⟨a,xs,C,e,s,r,rfl⟩:=h
    exact ⟨a,xs,e,n a List.mem_cons_self,s,Trees.rep ds r fun b hb=>n b (List.mem_cons_of_mem _ hb)⟩
  | .tup ds,_,_,h,n=>by
    unfold Tree at h
    unfold Rep
    obtain ⟨a,xs,e,s,r⟩:=h
    exact ⟨a,xs,e,s,Trees.rep ds r n⟩
  | .scr _,_,_,h,_=>h.1
  | .dct ks ds,_,_,h,n=>by
    unfold Tree at h
    unfold Rep
    obtain ⟨a,kvs,C,e,s,q,r,rfl⟩:=h
    exact ⟨a,kvs,e,n a List.mem_cons_self,s,q,Trees.rep ds r fun b hb=>n b (List.mem_cons_of_mem _ hb)⟩
  | .exc _,_,_,h,n=>by
    unfold Tree at h
    unfold Rep
    obtain ⟨a,C,e,s,r1,r2,rfl⟩:=h
    exact ⟨a,C,e,n a List.mem_cons_self,s,r1,r2⟩
theorem Trees.rep : ∀ (ds : List D) {xs : List V} {A : List Addr},Trees K H ds xs A->(∀ a∈A,¬ B a)->Reps K H B ds xs
  | [],_,_,h,_=>h.1
  | d :: ds,_,_,h,n=>by
    unfold Trees at h
    unfold Reps
    obtain ⟨x,r,C,C',e,h1,h2,rfl⟩:=h
    exact ⟨x,r,e,Tree.rep d h1 fun b hb=>n b (List.mem_append_left _ hb),Trees.rep ds h2 fun b hb=>n b (List.mem_append_right _ hb)⟩
end
mutual
theorem Tree.keep (kt : KeepI K H H') : ∀ (d : D) {v : V} {A : List Addr},Tree K H d v A->(∀ a∈A,∀ o,H a=some o->H' a=some o)->Tree K H' d v A
  | .non,_,_,h,_=>h
  | .bl _,_,_,h,_=>h
  | .int _,_,_,h,_=>h
  | .str _,_,_,h,_=>h
  | .lst ds,_,_,h,n=>by
    unfold Tree at h ⊢
    obtain ⟨a,xs,C,e,s,r,rfl⟩:=h
    exact ⟨a,xs,C,e,n a List.mem_cons_self _ s,Trees.keep kt ds r fun b hb=>n b (List.mem_cons_of_mem _ hb),rfl⟩
  | .tup ds,_,_,h,n=>by
    unfold Tree at h ⊢
    obtain ⟨a,xs,e,s,r⟩:=h
    exact ⟨a,xs,e,kt.st a xs s,Trees.keep kt ds r n⟩
  | .scr _,_,_,h,_=>by
    unfold Tree at h ⊢
    obtain ⟨⟨a,e,s⟩,q⟩:=h
    exact ⟨⟨a,e,kt.sf a _ s⟩,q⟩
  | .dct ks ds,_,_,h,n=>by
    unfold Tree at h ⊢
    obtain ⟨a,kvs,C,e,s,q,r,rfl⟩:=h
    exact ⟨a,kvs,C,e,n a List.mem_cons_self _ s,q,Trees.keep kt ds r fun b hb=>n b (List.mem_cons_of_mem _ hb),rfl⟩
  | .exc _,_,_,h,n=>by
    unfold Tree at h ⊢
    obtain ⟨a,C,e,s,r1,r2,rfl⟩:=h
    exact ⟨a,C,e,n a List.mem_cons_self _ s,r1,r2,rfl⟩
theorem Trees.keep (kt : KeepI K H H') : ∀ (ds : List D) {xs : List V} {A : List Addr},Trees K H ds xs A->(∀ a∈A,∀ o,H a=some o->H' a=some o)->Trees K H' ds xs A
  | [],_,_,h,_=>h
  | d :: ds,_,_,h,n=>by
    unfold Trees at h ⊢
    obtain ⟨x,r,C,C',e,h1,h2,rfl⟩:=h
    exact ⟨x,r,C,C',e,Tree.keep kt d h1 fun b hb=>n b (List.mem_append_left _ hb),Trees.keep kt ds h2 fun b hb=>n b (List.mem_append_right _ hb),rfl⟩
end
mutual
theorem Tree.held : ∀ (d : D) {v : V} {A : List Addr},Tree K H d v A->∀ a∈A,∃ o,H a=some o∧Mut (some o)
  | .non,_,_,h,a,ha=>by rw [h.2] at ha; cases ha
  | .bl _,_,_,h,a,ha=>by rw [h.2] at ha; cases ha
  | .int _,_,_,h,a,ha=>by rw [h.2] at ha; cases ha
  | .str _,_,_,h,a,ha=>by rw [h.2] at ha; cases ha
  | .lst ds,_,_,h,b,hb=>by
    unfold Tree at h
    obtain ⟨a,xs,C,e,s,r,rfl⟩:=h
    rcases List.mem_cons.mp hb with z | z
    · subst z; exact ⟨_,s,trivial⟩
    · exact Trees.held ds r b z
  | .tup ds,_,_,h,b,hb=>by
    unfold Tree at h
    obtain ⟨a,xs,e,s,r⟩:=h
    exact Trees.held ds r b hb
  | .scr _,_,_,h,a,ha=>by rw [h.2] at ha; cases ha
  | .dct ks ds,_,_,h,b,hb=>by
    unfold Tree at h
    obtain ⟨a,kvs,C,e,s,q,r,rfl⟩:=h
    rcases List.mem_cons.mp hb with z | z
    · subst z; exact ⟨_,s,trivial⟩
    · exact Trees.held ds r b z
  | .exc _,_,_,h,b,hb=>by
    unfold Tree at h
    obtain ⟨a,C,e,s,r1,r2,rfl⟩:=h
    rw [List.mem_singleton.mp hb]
    exact ⟨_,s,trivial⟩
theorem Trees.held : ∀ (ds : List D) {xs : List V} {A : List Addr},Trees K H ds xs A->∀ a∈A,∃ o,H a=some o∧Mut (some o)
  | [],_,_,h,a,ha=>by rw [h.2] at ha; cases ha
  | d :: ds,_,_,h,b,hb=>by
    unfold Trees at h
    obtain ⟨x,r,C,C',e,h1,h2,rfl⟩:=h
    rcases List.mem_append.mp hb with z | z
    · exact Tree.held d h1 b z
    · exact Trees.held ds h2 b z
end
theorem Same.sf (e : Same H H') {a : Addr} {xs : List V} (h : SqF K H a xs) : SqF K H' a xs:=h.elim (fun ⟨o,z⟩=>.inl ⟨o,e _ _ z⟩) .inr
theorem Keep.same (e : Same H H') : Keep K B H H':=⟨fun _ _ _ h=>e _ _ h,fun _ _ h=>e.tup h,fun _ _ h=>e.sf h,fun _ _ _ h=>e _ _ h,fun _ _ _ h=>e _ _ h⟩
theorem KeepI.same (e : Same H H') : KeepI K H H':=⟨fun _ _ h=>e.tup h,fun _ _ h=>e.sf h⟩
theorem Rep.mono {d : D} {v : V} (h : Rep K H B d v) (e : Same H H') : Rep K H' B d v:=Rep.keep (.same e) d h
theorem Reps.mono {ds : List D} {xs : List V} (h : Reps K H B ds xs) (e : Same H H') : Reps K H' B ds xs:=Reps.keep (.same e) ds h
theorem Tree.mono {d : D} {v : V} {A : List Addr} (h : Tree K H d v A) (e : Same H H') : Tree K H' d v A:=Tree.keep (.same e) d h fun a _ o z=>e a o z
theorem Trees.mono {ds : List D} {v : List V} {A : List Addr} (h : Trees K H ds v A) (e : Same H H') : Trees K H' ds v A:=Trees.keep (.same e) ds h fun a _ o z=>e a o z
mutual
theorem Rep.wide {C : Addr->Prop} (hc : ∀ a,C a->H a=none) : ∀ (d : D) {v : V},Rep K H B d v->Rep K H (fun a=>B a∨C a) d v
  | .non,_,h=>h
  | .bl _,_,h=>h
  | .int _,_,h=>h
  | .str _,_,h=>h
  | .lst ds,_,h=>by
    unfold Rep at h ⊢
    obtain ⟨a,xs,e,n,s,r⟩:=h
    refine ⟨a,xs,e,fun z=>z.elim n fun z=>?_,s,Reps.wide hc ds r⟩
    rw [hc a z] at s; cases s
  | .tup ds,_,h=>by
    unfold Rep at h ⊢
    obtain ⟨a,xs,e,s,r⟩:=h
    exact ⟨a,xs,e,s,Reps.wide hc ds r⟩
  | .scr _,_,h=>h
  | .dct ks ds,_,h=>by
    unfold Rep at h ⊢
    obtain ⟨a,kvs,e,n,s,q,r⟩:=h
    refine ⟨a,kvs,e,fun z=>z.elim n fun z=>?_,s,q,Reps.wide hc ds r⟩
    rw [hc a z] at s; cases s
  | .exc _,_,h=>by
    unfold Rep at h ⊢
    obtain ⟨a,C,e,n,s,r⟩:=h
    refine ⟨a,C,e,fun z=>z.elim n fun z=>?_,s,r⟩
    rw [hc a z] at s; cases s
theorem Reps.wide {C : Addr->Prop} (hc : ∀ a,C a->H a=none) : ∀ (ds : List D) {xs : List V},Reps K H B ds xs->Reps K H (fun a=>B a∨C a) ds xs
  | [],_,h=>h
  | d :: ds,_,h=>by
    unfold Reps at h ⊢
    obtain ⟨x,r,e,h1,h2⟩:=h
    exact ⟨x,r,e,Rep.wide hc d h1,Reps.wide hc ds h2⟩
end
theorem Keep.upd {a : Addr} {o : HO} (hb : B a) (mu : Mut (H a)) : Keep K B H (upd H a o):=by
  refine ⟨fun b xs n h=>?_,fun b xs h=>?_,fun b xs h=>?_,fun b kvs n h=>?_,fun b φ n h=>?_⟩
  · have ne : b≠a:=fun z=>n (z ▸ hb)
    rw [z0A ne]; exact h
  · rcases h with (h | ⟨u,h⟩) | h
    · have ne : b≠a:=fun z=>by subst z; rw [h] at mu; exact mu
      exact .inl (.inl (by rw [z0A ne]; exact h))
    · have ne : b≠a:=fun z=>by subst z; rw [h] at mu; exact mu
      exact .inl (.inr ⟨u,by rw [z0A ne]; exact h⟩)
    · exact .inr h
  · rcases h with ⟨u,h⟩ | h
    · have ne : b≠a:=fun z=>by subst z; rw [h] at mu; exact mu
      exact .inl ⟨u,by rw [z0A ne]; exact h⟩
    · exact .inr h
  · have ne : b≠a:=fun z=>n (z ▸ hb)
    rw [z0A ne]; exact h
  · have ne : b≠a:=fun z=>n (z ▸ hb)
    rw [z0A ne]; exact h
theorem z0w {a : Addr} {o : HO} (h : H a=none) : Same H (upd H a o):=fun b u e=>by rw [z0A (z1o e h)]; exact e
theorem Reps.length : ∀ {ds : List D} {xs : List V},Reps K H B ds xs->ds.length=xs.length
  | [],_,h=>by unfold Reps at h; subst h; rfl
  | d :: ds,_,h=>by
    unfold Reps at h
    obtain ⟨x,r,rfl,_,h2⟩:=h
    simp [Reps.length h2]
theorem Reps.get : ∀ {ds : List D} {xs : List V} {i : Nat} {d : D},Reps K H B ds xs->ds[i]? = some d->∃ x,xs[i]? = some x∧Rep K H B d x
  | [],_,_,_,_,e=>by simp at e
  | d :: ds,_,i,d',h,e=>by
    unfold Reps at h
    obtain ⟨x,r,rfl,h1,h2⟩:=h
    cases i with
    | zero=>simp at e; subst e; exact ⟨x,rfl,h1⟩
    | succ i=>simpa using Reps.get (i:=i) h2 (by simpa using e)
theorem Reps.get' : ∀ {ds : List D} {xs : List V} {i : Nat} {x : V},Reps K H B ds xs->xs[i]? = some x->∃ d,ds[i]? = some d∧Rep K H B d x
  | [],_,_,_,h,e=>by unfold Reps at h; subst h; simp at e
  | d :: ds,_,i,x',h,e=>by
    unfold Reps at h
    obtain ⟨x,r,rfl,h1,h2⟩:=h
    cases i with
    | zero=>simp at e; subst e; exact ⟨d,rfl,h1⟩
    | succ i=>simpa using Reps.get' (i:=i) h2 (by simpa using e)
theorem Reps.append : ∀ {ds es : List D} {xs ys : List V},Reps K H B ds xs->Reps K H B es ys->Reps K H B (ds ++ es) (xs ++ ys)
  | [],_,_,_,h,h'=>by unfold Reps at h; subst h; exact h'
  | d :: ds,es,_,ys,h,h'=>by
    unfold Reps at h
    obtain ⟨x,r,rfl,h1,h2⟩:=h
    exact (show Reps K H B (d :: (ds ++ es)) (x :: (r ++ ys)) by unfold Reps; exact ⟨x,r ++ ys,rfl,h1,Reps.append h2 h'⟩)
theorem Reps.take : ∀ {ds : List D} {xs : List V} (n : Nat),Reps K H B ds xs->Reps K H B (ds.take n) (xs.take n)
  | _,_,0,_=>by rw [List.take_zero,List.take_zero]; unfold Reps; rfl
  | [],_,_ + 1,h=>by unfold Reps at h; subst h; unfold Reps; rfl
  | d :: ds,_,n + 1,h=>by
    unfold Reps at h
    obtain ⟨x,r,rfl,h1,h2⟩:=h
    rw [List.take_succ_cons,List.take_succ_cons]
    unfold Reps
    exact ⟨x,_,rfl,h1,Reps.take n h2⟩
theorem Reps.drop : ∀ {ds : List D} {xs : List V} (n : Nat),Reps K H B ds xs->Reps K H B (ds.drop n) (xs.drop n)
  | _,_,0,h=>h
  | [],_,_ + 1,h=>by unfold Reps at h; subst h; unfold Reps; rfl
  | d :: ds,_,n + 1,h=>by
    unfold Reps at h
    obtain ⟨x,r,rfl,h1,h2⟩:=h
    exact Reps.drop n h2
theorem Reps.one {d : D} {x : V} (h : Rep K H B d x) : Reps K H B [d] [x]:=by unfold Reps; exact ⟨x,[],rfl,h,by unfold Reps; rfl⟩
theorem Reps.nil : Reps K H B [] []:=by unfold Reps; rfl
theorem Reps.cons {d : D} {x : V} {ds : List D} {xs : List V} (h : Rep K H B d x) (h' : Reps K H B ds xs) : Reps K H B (d :: ds) (x :: xs):=by unfold Reps; exact ⟨x,xs,rfl,h,h'⟩
theorem Reps.snoc {d : D} {x : V} {ds : List D} {xs : List V} (h' : Reps K H B ds xs) (h : Rep K H B d x) : Reps K H B (ds ++ [d]) (xs ++ [x]):=h'.append (.one h)
theorem Trees.nil : Trees K H [] [] []:=⟨rfl,rfl⟩
theorem Trees.snoc : ∀ {ds : List D} {xs : List V} {A C : List Addr} {d : D} {x : V},Trees K H ds xs A->Tree K H d x C->Trees K H (ds ++ [d]) (xs ++ [x]) (A ++ C)
  | [],_,_,C,d,x,h,h'=>by
    obtain ⟨rfl,rfl⟩:=h
    exact (show Trees K H [d] [x] C by unfold Trees; exact ⟨x,[],C,[],rfl,h',⟨rfl,rfl⟩,(List.append_nil _).symm⟩)
  | e :: ds,_,_,C,d,x,h,h'=>by
    unfold Trees at h
    obtain ⟨y,r,A1,A2,rfl,h1,h2,rfl⟩:=h
    exact (show Trees K H (e :: (ds ++ [d])) (y :: (r ++ [x])) (A1 ++ A2 ++ C) by unfold Trees; exact ⟨y,_,A1,A2 ++ C,rfl,h1,Trees.snoc h2 h',List.append_assoc _ _ _⟩)
end
end L2
namespace L2
open PySem PySem.Spec PyProof.Rows
noncomputable abbrev DS:=List (Option D)
noncomputable abbrev DE:=DS->Option D
structure RepS (K : PySem.W.Frag) (H : Hp) (B : Addr->Prop) (σ : St) (δ : DS) : Prop where
  len : δ.length=σ.length
  get : ∀ (i : Nat) (d : D),δ[i]? = some (some d)->∃ v,σ[i]? = some (some v)∧Rep K H B d v
noncomputable def InB (B : Addr->Prop) (H : Hp) : Prop:=∀ a,B a->∃ o,H a=some o
noncomputable def noB : Addr->Prop:=fun _=>False
theorem InB.mono {B : Addr->Prop} {H H' : Hp} (h : InB B H) (e : Same H H') : InB B H':=fun a b=>let ⟨o,q⟩:=h a b; ⟨o,e a o q⟩
theorem InB.no {H : Hp} : InB noB H:=fun _ b=>b.elim
theorem InB.fresh {B : Addr->Prop} {H : Hp} (h : InB B H) {a : Addr} (e : H a=none) : ¬ B a:=fun b=>by
  obtain ⟨o,q⟩:=h a b
  rw [e] at q; cases q
theorem RepS.mono {K : PySem.W.Frag} {H H' : Hp} {B : Addr->Prop} {σ : St} {δ : DS} (h : RepS K H B σ δ) (e : Same H H') : RepS K H' B σ δ:=
  ⟨h.len,fun i d q=>let ⟨v,a,r⟩:=h.get i d q; ⟨v,a,r.mono e⟩⟩
theorem RepS.anti {K : PySem.W.Frag} {H : Hp} {B B' : Addr->Prop} {σ : St} {δ : DS} (h : RepS K H B σ δ) (e : ∀ a,B' a->B a) : RepS K H B' σ δ:=
  ⟨h.len,fun i d q=>let ⟨v,a,r⟩:=h.get i d q; ⟨v,a,r.anti e⟩⟩
noncomputable def tD (K : PySem.W.Frag) (f : DE) : TE:=fun σ H Q=>∃ B δ d,InB B H∧RepS K H B σ δ∧f δ=some d∧∀ v H',Same H H'->Rep K H' B d v->Q v H'
noncomputable def tF (K : PySem.W.Frag) (f : DS->Option (List D)) : TE:=fun σ H Q=>∃ B δ ds,InB B H∧RepS K H B σ δ∧f δ=some ds ∧
  ∀ a xs H',Same H H'->H a=none->H' a=some (.lst xs)->Reps K H' B ds xs->Q (.ref a) H'
noncomputable def tN (K : PySem.W.Frag) (f : DE) : TE:=fun σ H Q=>∃ δ d,RepS K H noB σ δ∧f δ=some d∧∀ v H' A,Same H H'->Tree K H' d v A->A.Nodup->(∀ a∈A,H a=none)->Q v H'
noncomputable def tT (K : PySem.W.Frag) (f : DS->Option Bool) : TT:=fun σ H Q=>∃ B δ b,InB B H∧RepS K H B σ δ∧f δ=some b∧∀ H',Same H H'->Q b H'
noncomputable def tDs (K : PySem.W.Frag) (f : DS->Option (List D)) : TA:=fun σ H Q=>∃ B δ ds,InB B H∧RepS K H B σ δ∧f δ=some ds∧∀ vs H',Same H H'->Reps K H' B ds vs->Q vs H'
noncomputable abbrev PD (X : Cx) (e : Expr) (f : DE) : Prop:=PE X e (tD X.K f)
noncomputable abbrev PF (X : Cx) (e : Expr) (f : DS->Option (List D)) : Prop:=PE X e (tF X.K f)
noncomputable abbrev PN (X : Cx) (e : Expr) (f : DE) : Prop:=PE X e (tN X.K f)
noncomputable abbrev PTD (X : Cx) (e : Expr) (f : DS->Option Bool) : Prop:=PT X e (tT X.K f)
noncomputable abbrev PWD (X : Cx) (e : Expr) (f : DS->Option Bool) : Prop:=PW X e (tT X.K f)
section
variable {X : Cx} {e a b c : Expr} {es : List Expr} {pos : Pos}
theorem PE.imp {t t' : TE} (h : PE X e t) (w : ∀ σ H Q,t' σ H Q->t σ H Q) : PE X e t':=fun pins s σ H Q I q=>h pins s σ H Q I (w σ H Q q)
theorem PT.imp {t t' : TT} (h : PT X e t) (w : ∀ σ H Q,t' σ H Q->t σ H Q) : PT X e t':=fun pins s σ H Q I q=>h pins s σ H Q I (w σ H Q q)
theorem PW.imp {t t' : TT} (h : PW X e t) (w : ∀ σ H Q,t' σ H Q->t σ H Q) : PW X e t':=fun wh pins s σ H Q I q=>h wh pins s σ H Q I (w σ H Q q)
theorem PA.imp {t t' : TA} (h : PA X es t) (w : ∀ σ H Q,t' σ H Q->t σ H Q) : PA X es t':=fun po pins s σ H Q I q=>h po pins s σ H Q I (w σ H Q q)
noncomputable def mkL (f : DS->Option (List D)) : DE:=fun δ=>(f δ).map .lst
noncomputable def z0u (f : DS->Option (List D)) : DE:=fun δ=>(f δ).bind fun ds=>if z1l ds=true then some (.lst ds) else none
theorem iDF {K : PySem.W.Frag} {f : DS->Option (List D)} : ∀ σ H Q,tD K (mkL f) σ H Q->tF K f σ H Q:=fun σ H Q z_=>by
  obtain ⟨B,δ,d,hB,S,q,k⟩:=z_
  unfold mkL at q
  cases r : f δ with
  | none=>rw [r] at q; cases q
  | some ds=>
    rw [r] at q
    cases q
    exact ⟨B,δ,ds,hB,S,r,fun a xs H' s hn ha hr=>k _ H' s (by unfold Rep; exact ⟨a,xs,rfl,hB.fresh hn,ha,hr⟩)⟩
theorem iDN {K : PySem.W.Frag} {f : DE} : ∀ σ H Q,tD K f σ H Q->tN K f σ H Q:=fun σ H Q ⟨B,δ,d,hB,S,q,k⟩=>
  ⟨δ,d,S.anti (fun _ z=>z.elim),q,fun v H' A s t nd fr=>k v H' s (t.rep d fun a ha=>hB.fresh (fr a ha))⟩
theorem iNF {K : PySem.W.Frag} {f : DS->Option (List D)} : ∀ σ H Q,tN K (z0u f) σ H Q->tF K f σ H Q:=fun σ H Q z_=>by
  obtain ⟨δ,d,S,q,k⟩:=z_
  unfold z0u at q
  cases r : f δ with
  | none=>rw [r] at q; cases q
  | some ds=>
    rw [r] at q
    have q' : (if z1l ds=true then some (D.lst ds) else none)=some d:=q
    split at q'
    · rename_i hi
      cases q'
      refine ⟨noB,δ,ds,.no,S,r,fun a xs H' s hn ha hr=>k (.ref a) H' [a] s ?_ (List.nodup_cons.mpr ⟨(fun z=>nomatch z),List.nodup_nil⟩) (fun b hb=>by rw [List.mem_singleton.mp hb]; exact hn)⟩
      unfold Tree
      exact ⟨a,xs,[],rfl,ha,hr.immTree ds hi,rfl⟩
    · cases q'
theorem z3Q {f : DS->Option (List D)} (h : PF X e f) : PD X e (mkL f):=h.imp iDF
theorem z3R {f : DE} (h : PN X e f) : PD X e f:=h.imp iDN
theorem z5x {f : DS->Option (List D)} (h : PF X e f) : PN X e (z0u f):=h.imp iNF
noncomputable def z0d (i : Nat) : DE:=fun δ=>(δ[i]?).bind id
noncomputable def dC (d : D) : DE:=fun _=>some d
theorem z0f (i : Nat) {x : Str} {p : Pos} (h : PE X (.Name x p) (z9O i)) : PD X (.Name x p) (z0d i):=h.imp fun σ H Q z_=>by
  obtain ⟨B,δ,d,hB,S,q,k⟩:=z_
  unfold z0d at q
  cases r : δ[i]? with
  | none=>rw [r] at q; cases q
  | some o=>
    rw [r] at q
    have q' : o=some d:=q
    subst q'
    obtain ⟨v,e,rv⟩:=S.get i d r
    exact ⟨v,e,k v H (.refl H) rv⟩
theorem pd_C {d : D} {v : V} (h : PE X e (tC v)) (r : ∀ K H B,Rep K H B d v) : PD X e (dC d):=h.imp fun σ H Q z_=>by
  obtain ⟨B,δ,d',hB,S,q,k⟩:=z_
  cases q
  exact k v H (.refl H) (r _ _ _)
theorem z0h {i j p} : PD X (.Constant (.int i) j p) (dC (.int i)):=pd_C pe_int fun _ _ _=>rfl
theorem z3r {i j p} : PD X (.Constant (.bool i) j p) (dC (.bl i)):=pd_C pe_bl fun _ _ _=>rfl
theorem pd_non {j p} : PD X (.Constant .none j p) (dC .non):=pd_C pe_non fun _ _ _=>rfl
theorem z1V {i j p} : PD X (.Constant (.str i) j p) (dC (.str i)):=pd_C pe_str fun _ _ _=>rfl
noncomputable def d2 (F : D->D->Option D) (f g : DE) : DE:=fun δ=>(f δ).bind fun x=>(g δ).bind fun y=>F x y
theorem z6u {F : D->D->Option D} {f g : DE} {δ : DS} {d : D} (h : d2 F f g δ=some d) : ∃ x y,f δ=some x∧g δ=some y∧F x y=some d:=by
  unfold d2 at h
  cases hx : f δ with
  | none=>rw [hx] at h; cases h
  | some x=>
    rw [hx] at h
    cases hy : g δ with
    | none=>
      have h' : ((g δ).bind fun y=>F x y)=some d:=h
      rw [hy] at h'; cases h'
    | some y=>
      have h' : ((g δ).bind fun y=>F x y)=some d:=h
      rw [hy] at h'
      exact ⟨x,y,rfl,rfl,h'⟩
noncomputable def Op2 (K : PySem.W.Frag) (r : R2) (F : D->D->Option D) : Prop:=∀ (H : Hp) (B : Addr->Prop) (dx dy d : D) (x y : V) (Q : VK),InB B H->Rep K H B dx x->Rep K H B dy y->F dx dy=some d->(∀ v H',Same H H'->Rep K H' B d v->Q v H')->r x y H Q
theorem y1f {r : R2} {F : D->D->Option D} {f g : DE} (ho : Op2 X.K r F) (σ : St) (H : Hp) (Q : VK) (h : tD X.K (d2 F f g) σ H Q) : tOp r (tD X.K f) (tD X.K g) σ H Q:=by
  obtain ⟨B,δ,d,hB,S,q,k⟩:=h
  obtain ⟨dx,dy,e1,e2,e3⟩:=z6u q
  exact ⟨B,δ,dx,hB,S,e1,fun v H1 s1 r1=>⟨B,δ,dy,hB.mono s1,S.mono s1,e2,fun u H2 s2 r2=>
    ho H2 B dx dy d v u Q ((hB.mono s1).mono s2) (r1.mono s2) r2 e3 fun z H' s' rz=>k z H' ((s1.trans s2).trans s') rz⟩⟩
theorem y2X {op : Operator} {r : R2} {F : D->D->Option D} {f g : DE} (ho : OpR X (binaryOp op) r) (hD : Op2 X.K r F) (ha : PD X a f) (hb : PD X b g) : PD X (.BinOp a op b pos) (d2 F f g):=(pe_op ho ha hb).imp (y1f hD)
theorem pd_cmp {op : CmpOp} {r : R2} {F : D->D->Option D} {f g : DE} (ho : OpR X (compareOp op) r) (hD : Op2 X.K r F) (ha : PD X a f) (hb : PD X b g) (hm : behindInMarks op b=false) : PD X (.Compare a [op] [b] pos) (d2 F f g):=(pe_cmpR ho ha hb hm).imp (y1f hD)
noncomputable def z0G (f : DE) : DS->Option Bool:=fun δ=>match f δ with
  | some (.bl b)=>some b
  | _=>none
theorem y1V {f : DE} {δ : DS} {b : Bool} (h : z0G f δ=some b) : f δ=some (.bl b):=by
  unfold z0G at h
  split at h
  · rename_i b' e
    cases h; exact e
  · cases h
theorem test_of {t : TE} {f : DE} (h : ∀ σ H Q,tD X.K f σ H Q->t σ H Q) (σ : St) (H : Hp) (Q : Bool->Hp->Prop) (q : tT X.K (z0G f) σ H Q) : tTest t σ H Q:=by
  obtain ⟨B,δ,b,hB,S,q,k⟩:=q
  refine h σ H _ ⟨B,δ,.bl b,hB,S,y1V q,fun v H' s r=>?_⟩
  exact ⟨b,r,k H' s⟩
theorem z4N {op : CmpOp} {r : R2} {F : D->D->Option D} {f g : DE} (ho : OpR X (compareOp op) r) (hD : Op2 X.K r F) (ha : PD X a f) (hb : PD X b g) (hm : behindInMarks op b=false) : PTD X (.Compare a [op] [b] pos) (z0G (d2 F f g)):=(pt_cmpR ho ha hb hm).imp (test_of (y1f hD))
noncomputable def y7r (F G : D->D->Option D) (f g h : DE) : DE:=fun δ=>(f δ).bind fun x=>(g δ).bind fun y=>match F x y with
  | some (.bl true)=>(h δ).bind fun z=>G y z
  | some (.bl false)=>some (.bl false)
  | _=>none
theorem z8f {r r' : R2} {F G : D->D->Option D} {f g h : DE} (ho : Op2 X.K r F) (ho' : Op2 X.K r' G) (σ : St) (H : Hp) (Q : VK) (q : tD X.K (y7r F G f g h) σ H Q) : tChain r r' (tD X.K f) (tD X.K g) (tD X.K h) σ H Q:=by
  obtain ⟨B,δ,d,hB,S,q,k⟩:=q
  unfold y7r at q
  cases e1 : f δ with
  | none=>rw [e1] at q; cases q
  | some x=>
    rw [e1] at q
    cases e2 : g δ with
    | none=>
      have q' : ((g δ).bind _)=some d:=q
      rw [e2] at q'; cases q'
    | some y=>
      have q' : ((g δ).bind _)=some d:=q
      rw [e2] at q'
      have q2 : (match F x y with | some (.bl true)=>(h δ).bind fun z=>G y z | some (.bl false)=>some (.bl false) | _=>none)=some d:=q'
      refine ⟨B,δ,x,hB,S,e1,fun v H1 s1 r1=>⟨B,δ,y,hB.mono s1,S.mono s1,e2,fun u H2 s2 r2=>?_⟩⟩
      split at q2
      · rename_i e3
        refine ho H2 B x y _ v u _ ((hB.mono s1).mono s2) (r1.mono s2) r2 e3 fun z H3 s3 r3=>⟨true,r3,?_⟩
        rw [if_pos rfl]
        cases e4 : h δ with
        | none=>rw [e4] at q2; cases q2
        | some w=>
          rw [e4] at q2
          have q4 : G y w=some d:=q2
          refine ⟨B,δ,w,((hB.mono s1).mono s2).mono s3,((S.mono s1).mono s2).mono s3,e4,fun t H4 s4 r4=>?_⟩
          exact ho' H4 B y w d u t Q ((((hB.mono s1).mono s2).mono s3).mono s4) ((r2.mono s3).mono s4) r4 q4 fun z' H' s' rz=>k z' H' ((((s1.trans s2).trans s3).trans s4).trans s') rz
      · rename_i e3
        cases q2
        refine ho H2 B x y _ v u _ ((hB.mono s1).mono s2) (r1.mono s2) r2 e3 fun z H3 s3 r3=>⟨false,r3,?_⟩
        rw [if_neg Bool.false_ne_true]
        exact k _ H3 ((s1.trans s2).trans s3) rfl
      · cases q2
noncomputable def iop (F : Int->Int->Option D) : D->D->Option D
  | .int i,.int j=>F i j
  | _,_=>none
theorem z7P {F : Int->Int->Option D} {x y d : D} (h : iop F x y=some d) : ∃ i j,x = .int i∧y = .int j∧F i j=some d:=by
  unfold iop at h
  split at h
  · exact ⟨_,_,rfl,rfl,h⟩
  · cases h
theorem y4l {K : PySem.W.Frag} {C : Int->Int->Prop} [∀ i j,Decidable (C i j)] {g : Int->Int->Int} : Op2 K (rI C fun i j=>.int (g i j)) (iop fun i j=>if C i j then some (.int (g i j)) else none):=by
  intro H B dx dy d x y Q hB hx hy q k
  obtain ⟨i,j,rfl,rfl,q2⟩:=z7P q
  by_cases hc : C i j
  · rw [if_pos hc] at q2
    cases q2
    exact ⟨i,j,hx,hy,hc,k _ H (.refl H) rfl⟩
  · rw [if_neg hc] at q2
    cases q2
theorem y3b {K : PySem.W.Frag} {g : Int->Int->Int} : Op2 K (rI0 fun i j=>.int (g i j)) (iop fun i j=>some (.int (g i j))):=by
  intro H B dx dy d x y Q hB hx hy q k
  obtain ⟨i,j,rfl,rfl,q2⟩:=z7P q
  cases q2
  exact ⟨i,j,hx,hy,k _ H (.refl H) rfl⟩
theorem z7X {K : PySem.W.Frag} {g : Int->Int->Bool} : Op2 K (rI0 fun i j=>.bl (g i j)) (iop fun i j=>some (.bl (g i j))):=by
  intro H B dx dy d x y Q hB hx hy q k
  obtain ⟨i,j,rfl,rfl,q2⟩:=z7P q
  cases q2
  exact ⟨i,j,hx,hy,k _ H (.refl H) rfl⟩
noncomputable def d1 (F : D->Option D) (f : DE) : DE:=fun δ=>(f δ).bind F
theorem y3r {F : D->Option D} {f : DE} {δ : DS} {d : D} (h : d1 F f δ=some d) : ∃ x,f δ=some x∧F x=some d:=by
  unfold d1 at h
  cases hx : f δ with
  | none=>rw [hx] at h; cases h
  | some x=>rw [hx] at h; exact ⟨x,rfl,h⟩
noncomputable def uNeg : D->Option D
  | .int i=>some (.int (-i))
  | _=>none
theorem pd_neg {f : DE} (h : PD X a f) : PD X (.UnaryOp .USub a pos) (d1 uNeg f):=(pe_un un_neg h).imp fun σ H Q z_=>by
  obtain ⟨B,δ,d,hB,S,q,k⟩:=z_
  obtain ⟨x,e1,e2⟩:=y3r q
  refine ⟨B,δ,x,hB,S,e1,fun v H' s r=>?_⟩
  unfold uNeg at e2
  split at e2
  · cases e2
    exact ⟨_,r,k _ H' s rfl⟩
  · cases e2
noncomputable def z5h : D->Option Bool
  | .non=>some false
  | .bl b=>some b
  | .int i=>some (i != 0)
  | .str x=>if x.length≤sizeLine then some ((x.length : Int) != 0) else none
  | .lst ds=>some (!ds.isEmpty)
  | .tup ds=>some (!ds.isEmpty)
  | .scr ns=>some (!ns.isEmpty)
  | .dct ks _=>some (!ks.isEmpty)
  | .exc _=>none
noncomputable def z0v (f : DE) : DS->Option Bool:=fun δ=>(f δ).bind z5h
theorem y0X {K : PySem.W.Frag} {H : Hp} {B : Addr->Prop} {ds : List D} {xs : List V} (h : Reps K H B ds xs) : (!ds.isEmpty) = !xs.isEmpty:=by
  have:=h.length
  cases ds <;> cases xs <;> simp_all
theorem y2E {K : PySem.W.Frag} {H : Hp} {B : Addr->Prop} {d : D} {v : V} {k : Bool} (h : Rep K H B d v) (e : z5h d=some k) : TruV K v H k:=by
  cases d with
  | non=>cases h; cases e; rfl
  | bl b=>cases h; cases e; rfl
  | int i=>cases h; cases e; rfl
  | str x=>
    cases h
    have e' : (if x.length≤sizeLine then some ((x.length : Int) != 0) else none)=some k:=e
    by_cases hl : x.length≤sizeLine
    · rw [if_pos hl] at e'
      cases e'
      exact ⟨hl,rfl⟩
    · rw [if_neg hl] at e'
      cases e'
  | lst ds=>
    unfold Rep at h
    obtain ⟨a,xs,rfl,_,s,r⟩:=h
    cases e
    exact .inl ⟨xs,SqL.of s,y0X r⟩
  | tup ds=>
    unfold Rep at h
    obtain ⟨a,xs,rfl,s,r⟩:=h
    cases e
    exact .inr (.inl ⟨xs,s,y0X r⟩)
  | scr ns=>
    unfold Rep at h
    obtain ⟨a,rfl,s⟩:=h
    cases e
    exact .inl ⟨_,s.sq,by cases ns <;> rfl⟩
  | dct ks ds=>
    unfold Rep at h
    obtain ⟨a,kvs,rfl,_,s,q,r⟩:=h
    cases e
    refine .inr (.inr ⟨kvs,s,?_⟩)
    rw [← q]
    cases kvs <;> rfl
  | exc _=>cases e
theorem z0q {f : DE} (h : PD X a f) (he : ∀ whole,isTrue a X.env whole=(do let v ← whole; standAt a.pos; holding [v] (truthy v)):=by intro _; rfl) : PTD X a (z0v f):=(y6N h he).imp fun σ H Q z_=>by
  obtain ⟨B,δ,k,hB,S,q,kk⟩:=z_
  unfold z0v at q
  cases e : f δ with
  | none=>rw [e] at q; cases q
  | some d=>
    rw [e] at q
    exact ⟨B,δ,d,hB,S,e,fun v H' s r=>⟨k,y2E r q,kk H' s⟩⟩
noncomputable def z3y (f g : DS->Option Bool) : DS->Option Bool:=fun δ=>(f δ).bind fun c=>if c=true then g δ else some false
noncomputable def y5l (f g : DS->Option Bool) : DS->Option Bool:=fun δ=>(f δ).bind fun c=>if c=true then some true else g δ
noncomputable def z7a (f : DS->Option Bool) : DS->Option Bool:=fun δ=>(f δ).map (!·)
theorem z2Z {f : DS->Option Bool} (h : PTD X a f) : PWD X (.BoolOp .And [a] pos) f:=pw_and1 h
theorem y0E {f : DS->Option Bool} (h : PTD X a f) : PWD X (.BoolOp .Or [a] pos) f:=pw_or1 h
theorem z3A {rest : List Expr} {f g : DS->Option Bool} (ha : PTD X a f) (hb : PWD X (.BoolOp .And (b :: rest) pos) g) : PWD X (.BoolOp .And (a :: b :: rest) pos) (z3y f g):=(pw_and ha hb).imp fun σ H Q z_=>by
  obtain ⟨B,δ,k,hB,S,q,kk⟩:=z_
  unfold z3y at q
  cases e : f δ with
  | none=>rw [e] at q; cases q
  | some c=>
    rw [e] at q
    refine ⟨B,δ,c,hB,S,e,fun H1 s1=>?_⟩
    have q' : (if c=true then g δ else some false)=some k:=q
    cases c with
    | true=>
      rw [if_pos rfl] at q'
      refine iteT ?_
      exact ⟨B,δ,k,hB.mono s1,S.mono s1,q',fun H2 s2=>kk H2 (s1.trans s2)⟩
    | false=>
      rw [if_neg Bool.false_ne_true] at q'
      refine iteF ?_
      cases q'
      exact kk H1 s1
theorem z7r {rest : List Expr} {f g : DS->Option Bool} (ha : PTD X a f) (hb : PWD X (.BoolOp .Or (b :: rest) pos) g) : PWD X (.BoolOp .Or (a :: b :: rest) pos) (y5l f g):=(pw_or ha hb).imp fun σ H Q z_=>by
  obtain ⟨B,δ,k,hB,S,q,kk⟩:=z_
  unfold y5l at q
  cases e : f δ with
  | none=>rw [e] at q; cases q
  | some c=>
    rw [e] at q
    refine ⟨B,δ,c,hB,S,e,fun H1 s1=>?_⟩
    have q' : (if c=true then some true else g δ)=some k:=q
    cases c with
    | true=>
      rw [if_pos rfl] at q'
      refine iteT ?_
      cases q'
      exact kk H1 s1
    | false=>
      rw [if_neg Bool.false_ne_true] at q'
      refine iteF ?_
      exact ⟨B,δ,k,hB.mono s1,S.mono s1,q',fun H2 s2=>kk H2 (s1.trans s2)⟩
theorem z4T {f : DS->Option Bool} (h : PTD X a f) : PTD X (.UnaryOp .Not a pos) (z7a f):=(pt_not h).imp fun σ H Q z_=>by
  obtain ⟨B,δ,k,hB,S,q,kk⟩:=z_
  unfold z7a at q
  cases e : f δ with
  | none=>rw [e] at q; cases q
  | some c=>
    rw [e] at q
    cases q
    exact ⟨B,δ,c,hB,S,e,kk⟩
noncomputable def dAnd (f g : DE) : DE:=fun δ=>match f δ with
  | some (.bl true)=>g δ
  | some (.bl false)=>some (.bl false)
  | _=>none
noncomputable def uNot : D->Option D
  | .bl b=>some (.bl (!b))
  | _=>none
theorem y7s {op} {f : DE} (h : PD X a f) : PD X (.BoolOp op [a] pos) f:=pe_one h
theorem y7t {rest : List Expr} {f g : DE} (ha : PD X a f) (hb : PD X (.BoolOp .And (b :: rest) pos) g) : PD X (.BoolOp .And (a :: b :: rest) pos) (dAnd f g):=(pe_and ha hb).imp fun σ H Q z_=>by
  obtain ⟨B,δ,d,hB,S,q,k⟩:=z_
  unfold dAnd at q
  split at q
  · rename_i e
    refine ⟨B,δ,.bl true,hB,S,e,fun v H1 s1 r=>⟨true,r,?_⟩⟩
    rw [if_pos rfl]
    exact ⟨B,δ,d,hB.mono s1,S.mono s1,q,fun v2 H2 s2 r2=>k v2 H2 (s1.trans s2) r2⟩
  · rename_i e
    cases q
    refine ⟨B,δ,.bl false,hB,S,e,fun v H1 s1 r=>⟨false,r,?_⟩⟩
    rw [if_neg Bool.false_ne_true]
    exact k _ H1 s1 rfl
  · cases q
theorem pd_not {f : DE} (h : PD X a f) : PD X (.UnaryOp .Not a pos) (d1 uNot f):=(pe_not h).imp fun σ H Q z_=>by
  obtain ⟨B,δ,d,hB,S,q,k⟩:=z_
  obtain ⟨x,e1,e2⟩:=y3r q
  refine ⟨B,δ,x,hB,S,e1,fun v H' s r=>?_⟩
  unfold uNot at e2
  split at e2
  · cases e2
    exact ⟨_,r,k _ H' s rfl⟩
  · cases e2
noncomputable def dIf (c : DS->Option Bool) (f g : DE) : DE:=fun δ=>(c δ).bind fun k=>if k=true then f δ else g δ
theorem pd_if {t : DS->Option Bool} {f g : DE} (hc : PTD X c t) (ha : PD X a f) (hb : PD X b g) : PD X (.IfExp c a b pos) (dIf t f g):=(y7i hc ha hb).imp fun σ H Q z_=>by
  obtain ⟨B,δ,d,hB,S,q,k⟩:=z_
  unfold dIf at q
  cases e : t δ with
  | none=>rw [e] at q; cases q
  | some c=>
    rw [e] at q
    refine ⟨B,δ,c,hB,S,e,fun H1 s1=>?_⟩
    have q' : (if c=true then f δ else g δ)=some d:=q
    cases c with
    | true=>
      rw [if_pos rfl] at q'
      refine iteT ?_
      exact ⟨B,δ,d,hB.mono s1,S.mono s1,q',fun v2 H2 s2 r2=>k v2 H2 (s1.trans s2) r2⟩
    | false=>
      rw [if_neg Bool.false_ne_true] at q'
      refine iteF ?_
      exact ⟨B,δ,d,hB.mono s1,S.mono s1,q',fun v2 H2 s2 r2=>k v2 H2 (s1.trans s2) r2⟩
noncomputable def z0k : List DE->DS->Option (List D)
  | [],_=>some []
  | f :: r,δ=>(f δ).bind fun x=>(z0k r δ).bind fun xs=>some (x :: xs)
theorem z5U {f : DE} {r : List DE} {δ : DS} {ds : List D} (h : z0k (f :: r) δ=some ds) : ∃ x xs,f δ=some x∧z0k r δ=some xs∧ds=x :: xs:=by
  unfold z0k at h
  cases hx : f δ with
  | none=>rw [hx] at h; cases h
  | some x=>
    rw [hx] at h
    have h' : ((z0k r δ).bind fun xs=>some (x :: xs))=some ds:=h
    cases hy : z0k r δ with
    | none=>rw [hy] at h'; cases h'
    | some xs=>
      rw [hy] at h'
      cases h'
      exact ⟨x,xs,rfl,rfl,rfl⟩
theorem z2X : ∀ {fl : List DE} {δ : DS} {ds : List D},z0k fl δ=some ds->ds.length=fl.length
  | [],_,_,h=>by cases h; rfl
  | f :: r,δ,ds,h=>by
    obtain ⟨x,xs,_,e,rfl⟩:=z5U h
    simp [z2X e]
noncomputable abbrev PAD (X : Cx) (es : List Expr) (fl : List DE) : Prop:=PA X es (tDs X.K (z0k fl))
theorem z0c : PAD X [] []:=pa_nil.imp fun σ H Q z_=>by
  obtain ⟨B,δ,ds,hB,S,q,k⟩:=z_
  cases q
  exact k [] H (.refl H) .nil
theorem z0a {f : DE} {fl : List DE} (ha : PD X e f) (hr : PAD X es fl) (hs : starEach (e :: es) X.env=(false,eval e X.env) :: starEach es X.env:=by rfl) : PAD X (e :: es) (f :: fl):=(z1Y ha hr hs).imp fun σ H Q z_=>by
  obtain ⟨B,δ,ds,hB,S,q,k⟩:=z_
  obtain ⟨x,xs,e1,e2,rfl⟩:=z5U q
  exact ⟨B,δ,x,hB,S,e1,fun v H1 s1 r1=>⟨B,δ,xs,hB.mono s1,S.mono s1,e2,fun vs H2 s2 r2=>k (v :: vs) H2 (s1.trans s2) (.cons (r1.mono s2) r2)⟩⟩
theorem z0I {fl : List DE} (h : PAD X es fl) (hl : fl.length≤1000:=by decide) : PF X (.List es pos) (z0k fl):=(y3L h).imp fun σ H Q z_=>by
  obtain ⟨B,δ,ds,hB,S,q,k⟩:=z_
  refine ⟨B,δ,ds,hB,S,q,fun vs H1 s1 r1=>⟨?_,fun p hp=>?_⟩⟩
  · rw [← r1.length,z2X q]
    exact Nat.le_of_lt (z6z hl)
  · exact k p vs _ (s1.trans (z0w hp)) (s1.free hp) z0s (r1.mono (z0w hp))
noncomputable def mkT (f : DS->Option (List D)) : DE:=fun δ=>(f δ).map .tup
theorem z1R {x1} {fl : List DE} (h : PAD X es fl) (hl : fl.length≤1000:=by decide) : PD X (.Tuple es x1 pos) (mkT (z0k fl)):=(pe_tup h).imp fun σ H Q z_=>by
  obtain ⟨B,δ,d,hB,S,q,k⟩:=z_
  unfold mkT at q
  cases r : z0k fl δ with
  | none=>rw [r] at q; cases q
  | some ds=>
    rw [r] at q
    cases q
    refine ⟨B,δ,ds,hB,S,r,fun vs H1 s1 r1=>⟨?_,fun p hp=>?_⟩⟩
    · rw [← r1.length,z2X r]
      exact Nat.le_of_lt (z6z hl)
    · refine k _ _ (s1.trans (z0w hp)) ?_
      unfold Rep
      exact ⟨p,vs,rfl,SqT.of z0s,r1.mono (z0w hp)⟩
noncomputable def ixD : D->D->Option D
  | .lst ds,.int i=>atI ds i
  | .tup ds,.int i=>atI ds i
  | .scr ns,.int i=>(atI ns i).map .int
  | _,_=>none
theorem atI_map {α β : Type} (f : α->β) (xs : List α) (i : Int) : atI (xs.map f) i=(atI xs i).map f:=by
  unfold atI
  rw [List.length_map]
  cases ixN xs.length i with
  | none=>rfl
  | some j=>simp
theorem y1u {K : PySem.W.Frag} {H : Hp} {B : Addr->Prop} {ds : List D} {xs : List V} {i : Int} {d : D} (h : Reps K H B ds xs) (e : atI ds i=some d) : ∃ x,atI xs i=some x∧Rep K H B d x:=by
  unfold atI at e ⊢
  rw [← h.length]
  cases q : ixN ds.length i with
  | none=>rw [q] at e; cases e
  | some j=>
    rw [q] at e
    exact h.get e
theorem o2_ix {K : PySem.W.Frag} : Op2 K (rIx K) ixD:=by
  intro H B dx dy d x y Q hB hx hy q k
  unfold ixD at q
  split at q
  · unfold Rep at hx
    obtain ⟨a,xs,rfl,_,s,r⟩:=hx
    obtain ⟨v,e,rv⟩:=y1u r q
    exact .inl ⟨a,xs,_,v,rfl,hy,SqL.of s,e,k v H (.refl H) rv⟩
  · unfold Rep at hx
    obtain ⟨a,xs,rfl,s,r⟩:=hx
    obtain ⟨v,e,rv⟩:=y1u r q
    exact .inr (.inl ⟨a,xs,_,v,rfl,hy,s,e,k v H (.refl H) rv⟩)
  · rename_i ns i
    unfold Rep at hx
    obtain ⟨a,rfl,s⟩:=hx
    cases e : atI ns i with
    | none=>rw [e] at q; cases q
    | some n=>
      rw [e] at q
      cases q
      exact .inl ⟨a,_,_,.int n,rfl,hy,s.sq,by rw [atI_map,e]; rfl,k _ H (.refl H) rfl⟩
  · cases q
theorem z0x {f g : DE} (ha : PD X a f) (hb : PD X b g) (hs : z6K b:=by intro _ _; rfl) : PD X (.Subscript a b pos) (d2 ixD f g):=(y5L y7m ha hb hs).imp (y1f o2_ix)
noncomputable def spR (K : PySem.W.Frag) (F : List D->Option D) : Sp:=fun vs H Q _=>∃ B ds d,InB B H∧Reps K H B ds vs∧F ds=some d∧∀ v H',Same H H'->Rep K H' B d v->Q v H'
noncomputable def spN (K : PySem.W.Frag) (F : List D->Option D) : Sp:=fun vs H Q _=>∃ ds d,Reps K H noB ds vs∧F ds=some d∧∀ v H' A,Same H H'->Tree K H' d v A->A.Nodup->(∀ a∈A,H a=none)->Q v H'
structure DefOk (P : Program) (w : World) (K : PySem.W.Frag) (mg : Str->Option Value) (base : Heap) (k : Nat) (x : Str) (sp : Sp) : Prop where
  ok : ∃ (f : Addr) (fd : FuncData) (ps : List Str),mg x=some (.ref f)∧PySem.W.keepIn K (.ref f)=true∧Binds K fd ps []∧FnOk P w K mg base CX0 k f fd ps sp
noncomputable def z0l (F : List D->Option D) (fl : List DE) : DE:=fun δ=>(z0k fl δ).bind F
theorem z5P {F : List D->Option D} {fl : List DE} {δ : DS} {d : D} (h : z0l F fl δ=some d) : ∃ ds,z0k fl δ=some ds∧F ds=some d:=by
  unfold z0l at h
  cases q : z0k fl δ with
  | none=>rw [q] at h; cases h
  | some ds=>rw [q] at h; exact ⟨ds,rfl,h⟩
end
end L2
namespace L2
open PySem PySem.Spec PyProof.Rows
section
variable {X : Cx} {e a b c : Expr} {es : List Expr} {pos p : Pos} {x : Str} {k : Nat} {tg iter elt : Expr}
theorem z7K {sp : Sp} {t : TA} (G : DefOk X.prog X.w X.K X.mg X.base k x sp) (hr : Room k X.A) (hg : Gl X x) (ha : PA X (e :: es) t) (hdb : (x == ("__debug__" : Str))=false:=by decide)
    (he : starEach (e :: es) X.env=(false,eval e X.env) :: starEach es X.env:=by rfl) (hpl : (backTo pos (starEach es X.env)).any (·.1)=false:=by rfl) : PE X (.Call (.Name x p) (e :: es) [] pos) (tCall sp [] E0 t):=by
  obtain ⟨f,fd,ps,hm,hk,hb,ok⟩:=G.ok
  exact pe_call ok hr hg hm hk hb .nil pass0 ha hdb he hpl
theorem z1P {F : List D->Option D} {fl : List DE} (G : DefOk X.prog X.w X.K X.mg X.base k x (spR X.K F)) (hr : Room k X.A) (hg : Gl X x) (ha : PAD X (e :: es) fl) (hdb : (x == ("__debug__" : Str))=false:=by decide)
    (he : starEach (e :: es) X.env=(false,eval e X.env) :: starEach es X.env:=by rfl) (hpl : (backTo pos (starEach es X.env)).any (·.1)=false:=by rfl) : PD X (.Call (.Name x p) (e :: es) [] pos) (z0l F fl):=
  (z7K G hr hg ha hdb he hpl).imp fun σ H Q z_=>by
    obtain ⟨B,δ,d,hB,S,q,k⟩:=z_
    obtain ⟨ds,e1,e2⟩:=z5P q
    refine ⟨B,δ,ds,hB,S,e1,fun vs H1 s1 r1=>?_⟩
    show spR X.K F (vs ++ []) H1 Q E0
    rw [List.append_nil]
    exact ⟨B,ds,d,hB.mono s1,r1,e2,fun v H' s' r=>k v H' (s1.trans s') r⟩
theorem z0m {F : List D->Option D} {fl : List DE} (G : DefOk X.prog X.w X.K X.mg X.base k x (spN X.K F)) (hr : Room k X.A) (hg : Gl X x) (ha : PAD X (e :: es) fl) (hdb : (x == ("__debug__" : Str))=false:=by decide)
    (he : starEach (e :: es) X.env=(false,eval e X.env) :: starEach es X.env:=by rfl) (hpl : (backTo pos (starEach es X.env)).any (·.1)=false:=by rfl) : PN X (.Call (.Name x p) (e :: es) [] pos) (z0l F fl):=
  (z7K G hr hg ha hdb he hpl).imp fun σ H Q z_=>by
    obtain ⟨δ,d,S,q,k⟩:=z_
    obtain ⟨ds,e1,e2⟩:=z5P q
    refine ⟨noB,δ,ds,.no,S,e1,fun vs H1 s1 r1=>?_⟩
    show spN X.K F (vs ++ []) H1 Q E0
    rw [List.append_nil]
    exact ⟨ds,d,r1,e2,fun v H' A s' t nd fr=>k v H' A (s1.trans s') t nd fun a ha=>s1.free (fr a ha)⟩
structure ItD (K : PySem.W.Frag) (J : It) (H : Hp) (B : Addr->Prop) (ds : List D) : Prop where
  go : ∀ i H',Keep K B H H'->i < ds.length->J.go i H'
  stop : ∀ i H',Keep K B H H'->ds.length≤i->J.stop i H'
  yld : ∀ i H' x H2,Keep K B H H'->J.yld i H' x H2->Same H' H2∧∃ d,(i < ds.length->ds[i]? = some d)∧Rep K H2 B d x
noncomputable def ItW (K : PySem.W.Frag) (J : It) (H : Hp) (B : Addr->Prop) (ds : List D) : Prop:=∀ C : Addr->Prop,(∀ a,C a->H a=none)->ItD K J H (fun a=>B a∨C a) ds
noncomputable def tI (K : PySem.W.Frag) (f : DS->Option (List D)) : TI:=fun σ H R=>∃ B δ ds,InB B H∧RepS K H B σ δ∧f δ=some ds∧∀ J H',Same H H'->ItW K J H' B ds->R J H'
noncomputable abbrev PID (X : Cx) (tg iter : Expr) (f : DS->Option (List D)) : Prop:=PI X tg iter (tI X.K f)
theorem PI.imp {wi wi' : TI} (h : PI X tg iter wi) (w : ∀ σ H R,wi' σ H R->wi σ H R) : PI X tg iter wi':=fun pins s σ H R I q=>h pins s σ H R I (w σ H R q)
noncomputable def iSeq (K : PySem.W.Frag) (tl : TE) : TI:=fun σ H R=>tl σ H fun x H1=>∃ a,x = .ref a∧(((∃ xs,SqL K H1 a xs)∧R (Itl K a) H1)∨((∃ xs,SqT K H1 a xs)∧R (Itt K a) H1))
theorem pi_seq {l : Expr} {tl : TE} (hl : PE X l tl) : PI X tg l (iSeq X.K tl):=by
  intro pins s σ H R I h
  refine thn (hl pins s σ H _ I h) fun v s1 ⟨x,H1,I1,r1,q1⟩=>?_
  obtain ⟨a,e,q1⟩:=q1
  subst e
  cases r1
  have fp : ∀ b∈[s1.heap.objs.size],y0d X pins H1 b:=fun b hb=>by
    have e : b=s1.heap.objs.size:=by simpa using hb
    subst e
    exact I1.fpOk (Nat.le_refl _) (I1.hok.fresh (Nat.le_refl _))
  rcases q1 with ⟨⟨xs,hq⟩,q⟩ | ⟨⟨xs,hq⟩,q⟩
  · obtain ⟨its,rv,p,hz⟩:=I1.list hq
    refine wpAny_pyIter_list p.isList ?_
    exact ⟨s1.heap.objs.size,[s1.heap.objs.size],_,_,H1,rfl,I1.kept (t':=s1.toks) fun b o e=>Heap.get?_push_of_some _ e,y3D a _,⟨_,Heap.get?_push_size _ rfl,rfl,rfl⟩,fp,q⟩
  · obtain ⟨its,rv,p,hz⟩:=I1.tuple hq
    refine wpAny_pyIter_tuple (show s1.heap.IsTuple a its.toArray from p) ?_
    exact ⟨s1.heap.objs.size,[s1.heap.objs.size],_,_,H1,rfl,I1.kept (t':=s1.toks) fun b o e=>Heap.get?_push_of_some _ e,y2n a _,⟨_,Heap.get?_push_size _ rfl,rfl,rfl⟩,fp,q⟩
noncomputable def z9P : D->Option (List D)
  | .lst ds=>some ds
  | .tup ds=>some ds
  | .scr ns=>some (ns.map .int)
  | _=>none
noncomputable def z4B (f : DE) : DS->Option (List D):=fun δ=>(f δ).bind z9P
theorem y6W {K : PySem.W.Frag} {H : Hp} {B : Addr->Prop} {a : Addr} {xs : List V} {ds : List D} (n : ¬ B a) (h : H a=some (.lst xs)) (r : Reps K H B ds xs) : ItD K (Itl K a) H B ds:=by
  have hl:=r.length
  refine ⟨fun i H' kp hi=>?_,fun i H' kp hi=>?_,fun i H' x H2 kp y=>?_⟩
  · exact ⟨xs,xs[i],SqL.of (kp.sl a xs n h),by rw [List.getElem?_eq_getElem]⟩
  · exact ⟨xs,SqL.of (kp.sl a xs n h),by omega⟩
  · obtain ⟨e,y⟩:=y
    subst e
    have hx:=y xs (SqL.of (kp.sl a xs n h))
    obtain ⟨d,e,rd⟩:=(Reps.keep kp ds r).get' hx
    exact ⟨.refl _,d,fun _=>e,rd⟩
theorem itd_tup {K : PySem.W.Frag} {H : Hp} {B : Addr->Prop} {a : Addr} {xs : List V} {ds : List D} (h : SqT K H a xs) (r : Reps K H B ds xs) : ItD K (Itt K a) H B ds:=by
  have hl:=r.length
  refine ⟨fun i H' kp hi=>?_,fun i H' kp hi=>?_,fun i H' x H2 kp y=>?_⟩
  · exact ⟨xs,xs[i],kp.st a xs h,by rw [List.getElem?_eq_getElem]⟩
  · exact ⟨xs,kp.st a xs h,by omega⟩
  · obtain ⟨e,y⟩:=y
    subst e
    have hx:=y xs (kp.st a xs h)
    obtain ⟨d,e,rd⟩:=(Reps.keep kp ds r).get' hx
    exact ⟨.refl _,d,fun _=>e,rd⟩
theorem z2m {K : PySem.W.Frag} {H : Hp} {B : Addr->Prop} : ∀ ns : List Int,Reps K H B (ns.map D.int) (ns.map V.int)
  | []=>.nil
  | n :: ns=>.cons rfl (z2m ns)
theorem itd_scr {K : PySem.W.Frag} {H : Hp} {B : Addr->Prop} {a : Addr} {ns : List Int} (h : SqF K H a (ns.map V.int)) : ItD K (Itl K a) H B (ns.map D.int):=by
  have r : ∀ H',Reps K H' B (ns.map D.int) (ns.map V.int):=fun _=>z2m ns
  refine ⟨fun i H' kp hi=>?_,fun i H' kp hi=>?_,fun i H' x H2 kp y=>?_⟩
  · exact ⟨ns.map V.int,(ns.map V.int)[i]'(by simpa using hi),(kp.sf a _ h).sq,by rw [List.getElem?_eq_getElem]⟩
  · exact ⟨ns.map V.int,(kp.sf a _ h).sq,by simpa using hi⟩
  · obtain ⟨e,y⟩:=y
    subst e
    have hx:=y _ (kp.sf a _ h).sq
    obtain ⟨d,e,rd⟩:=(r _).get' hx
    exact ⟨.refl _,d,fun _=>e,rd⟩
theorem z0C {l : Expr} {f : DE} (h : PD X l f) : PID X tg l (z4B f):=(pi_seq h).imp fun σ H R z_=>by
  obtain ⟨B,δ,ds,hB,S,q,k⟩:=z_
  unfold z4B at q
  cases e : f δ with
  | none=>rw [e] at q; cases q
  | some d=>
    rw [e] at q
    have q' : z9P d=some ds:=q
    refine ⟨B,δ,d,hB,S,e,fun v H1 s1 r1=>?_⟩
    unfold z9P at q'
    split at q'
    · cases q'
      unfold Rep at r1
      obtain ⟨a,xs,rfl,n,h,r⟩:=r1
      exact ⟨a,rfl,.inl ⟨⟨xs,SqL.of h⟩,k _ H1 s1 fun C hC=>y6W (fun z=>z.elim n fun z=>by rw [hC a z] at h; cases h) h (Reps.wide hC _ r)⟩⟩
    · cases q'
      unfold Rep at r1
      obtain ⟨a,xs,rfl,h,r⟩:=r1
      exact ⟨a,rfl,.inr ⟨⟨xs,h⟩,k _ H1 s1 fun C hC=>itd_tup h (Reps.wide hC _ r)⟩⟩
    · cases q'
      unfold Rep at r1
      obtain ⟨a,rfl,h⟩:=r1
      exact ⟨a,rfl,.inl ⟨⟨_,h.sq⟩,k _ H1 s1 fun C hC=>itd_scr h⟩⟩
    · cases q'
noncomputable def z5a (lo : Int) (n : Nat) : List D:=(List.range n).map fun i=>.int (lo + (i : Nat))
theorem y5r {lo : Int} {n i : Nat} (h : i < n) : (z5a lo n)[i]? = some (.int (lo + i)):=by
  unfold z5a
  rw [List.getElem?_map,List.getElem?_range h]
  rfl
theorem z4U (lo : Int) (n : Nat) : (z5a lo n).length=n:=by unfold z5a; rw [List.length_map,List.length_range]
theorem y4V {K : PySem.W.Frag} {H : Hp} {B : Addr->Prop} {lo : Int} {n : Nat} : ItD K (Itr lo n) H B (z5a lo n):=by
  refine ⟨fun i H' _ hi=>?_,fun i H' _ hi=>?_,fun i H' x H2 _ y=>?_⟩
  · rw [z4U] at hi; exact hi
  · rw [z4U] at hi; exact hi
  · obtain ⟨e,y⟩:=y
    subst e y
    exact ⟨.refl _,.int (lo + i),fun h=>y5r (by rwa [z4U] at h),rfl⟩
noncomputable def z2W (f : DE) : DS->Option (List D):=fun δ=>match f δ with
  | some (.int j)=>if -(2 ^ 62)≤j∧j < 2 ^ 62 then some (z5a 0 j.toNat) else none
  | _=>none
noncomputable def y7h (f g : DE) : DS->Option (List D):=fun δ=>match f δ,g δ with
  | some (.int i),some (.int j)=>if -(2 ^ 62)≤i∧i < 2 ^ 62∧-(2 ^ 62)≤j∧j < 2 ^ 62 then some (z5a i (j - i).toNat) else none
  | _,_=>none
theorem z0X {f : DE} (hg : Gl X "range") (hm : X.mg "range" = none) (ha : PD X a f) (hs : starEach [a] X.env=[(false,eval a X.env)]:=by rfl) : PID X tg (.Call (.Name "range" p) [a] [] pos) (z2W f):=
  (y3h hg hm (z0a ha z0c hs) hs).imp fun σ H R z_=>by
    obtain ⟨B,δ,ds,hB,S,q,k⟩:=z_
    unfold z2W at q
    split at q
    · rename_i j e
      split at q
      · rename_i hj
        cases q
        have ea : z0k [f] δ=some [.int j]:=by unfold z0k; rw [e]; rfl
        refine ⟨B,δ,[.int j],hB,S,ea,fun vs H1 s1 r1=>?_⟩
        unfold Reps at r1
        obtain ⟨x,r,rfl,rx,rr⟩:=r1
        unfold Reps at rr
        subst rr
        exact ⟨j,by rw [show x=V.int j from rx],hj.1,hj.2,k _ H1 s1 fun C _=>y4V⟩
      · cases q
    · cases q
theorem pi_rng2 {f g : DE} (hg : Gl X "range") (hm : X.mg "range" = none) (ha : PD X a f) (hb : PD X b g) (hs : starEach [a,b] X.env=[(false,eval a X.env),(false,eval b X.env)]:=by rfl) (hs2 : starEach [b] X.env=[(false,eval b X.env)]:=by rfl) :
    PID X tg (.Call (.Name "range" p) [a,b] [] pos) (y7h f g):=
  (y4O hg hm (z0a ha (z0a hb z0c hs2) (by rw [hs,hs2])) hs hs2).imp fun σ H R z_=>by
    obtain ⟨B,δ,ds,hB,S,q,k⟩:=z_
    unfold y7h at q
    split at q
    · rename_i i j e e'
      split at q
      · rename_i hj
        cases q
        have ea : z0k [f,g] δ=some [.int i,.int j]:=by unfold z0k z0k; rw [e,e']; rfl
        refine ⟨B,δ,[.int i,.int j],hB,S,ea,fun vs H1 s1 r1=>?_⟩
        unfold Reps at r1
        obtain ⟨x,r,rfl,rx,rr⟩:=r1
        unfold Reps at rr
        obtain ⟨y,r',rfl,ry,rr⟩:=rr
        unfold Reps at rr
        subst rr
        exact ⟨i,j,by rw [show x=V.int i from rx,show y=V.int j from ry],hj,k _ H1 s1 fun C _=>y4V⟩
      · cases q
    · cases q
noncomputable def y5D : Option D->List D->List D
  | some y,ys=>y :: ys
  | none,ys=>ys
noncomputable def z2u (h : D->Option (Option D)) : List D->Option (List D)
  | []=>some []
  | x :: r=>(h x).bind fun o=>(z2u h r).bind fun ys=>some (y5D o ys)
theorem z5z {h : D->Option (Option D)} {x : D} {r ds : List D} (e : z2u h (x :: r)=some ds) : ∃ o ys,h x=some o∧z2u h r=some ys∧ds=y5D o ys:=by
  unfold z2u at e
  cases q : h x with
  | none=>rw [q] at e; cases e
  | some o=>
    rw [q] at e
    have e' : ((z2u h r).bind fun ys=>some (y5D o ys))=some ds:=e
    cases q' : z2u h r with
    | none=>rw [q'] at e'; cases e'
    | some ys=>
      rw [q'] at e'
      exact ⟨o,ys,rfl,rfl,(Option.some.inj e').symm⟩
noncomputable def z1t (fi : DS->Option (List D)) (fc : DS->Option Bool) (fe : DE) : DS->Option (List D):=fun δ=>(fi δ).bind fun xs=>if xs.length≤sizeLine then
  z2u (fun x=>(fc (δ ++ [some x])).bind fun k=>if k=true then (fe (δ ++ [some x])).map some else some none) xs else none
noncomputable def z6h : DS->Option Bool:=fun _=>some true
theorem z1i {X : Cx} : y5k X [] (tT X.K z6h):=fun pins s σ H Q I ⟨B,δ,b,hB,S,q,k⟩=>y6n pins s σ H Q I (by cases q; exact k H (.refl H))
theorem z0M {X : Cx} {c : Expr} {f : DS->Option Bool} (h : PTD X c f) : y5k X [c] (tT X.K f):=y6K h
theorem RepS.snoc {K : PySem.W.Frag} {H : Hp} {B : Addr->Prop} {σ : St} {δ : DS} {d : D} {v : V} (S : RepS K H B σ δ) (r : Rep K H B d v) : RepS K H B (σ ++ [some v]) (δ ++ [some d]):=by
  refine ⟨by simp [S.len],fun i d' e=>?_⟩
  by_cases hi : i < δ.length
  · rw [List.getElem?_append_left hi] at e
    obtain ⟨w,e',r'⟩:=S.get i d' e
    exact ⟨w,by rw [List.getElem?_append_left (by rw [← S.len]; exact hi)]; exact e',r'⟩
  · by_cases hj : i=δ.length
    · subst hj
      rw [List.getElem?_append_right (Nat.le_refl _),Nat.sub_self] at e
      cases e
      refine ⟨v,?_,r⟩
      rw [S.len,List.getElem?_append_right (Nat.le_refl _),Nat.sub_self]
      rfl
    · rw [List.getElem?_eq_none (by simp; omega)] at e
      cases e
theorem RepS.wide {K : PySem.W.Frag} {H : Hp} {B C : Addr->Prop} {σ : St} {δ : DS} (h : RepS K H B σ δ) (hc : ∀ a,C a->H a=none) : RepS K H (fun a=>B a∨C a) σ δ:=
  ⟨h.len,fun i d q=>let ⟨v,a,r⟩:=h.get i d q; ⟨v,a,Rep.wide hc d r⟩⟩
theorem z7H {w v : Option V} : ∀ {σ : St},(σ ++ [w]).set σ.length v=σ ++ [v]
  | []=>rfl
  | x :: r=>congrArg (x :: ·) (z7H (σ:=r))
variable {N' : List Str} {sc : Scope} {ifs : List Expr} {n : Nat} {px : Pos} {fi : DS->Option (List D)} {fc : DS->Option Bool} {fe : DE}
theorem y1z {σ : St} {H : Hp} {Q : VK} (hσ : σ.length=n) (hq : tF X.K (z1t fi fc fe) σ H Q) : y3t (tI X.K fi) (z2N n) (tT X.K fc) (tD X.K fe) 1 σ H Q:=by
  obtain ⟨B,δ,ds,hB,Sδ,q,k⟩:=hq
  unfold z1t at q
  cases e1 : fi δ with
  | none=>rw [e1] at q; cases q
  | some xs=>
  rw [e1] at q
  have q1 : (if xs.length≤sizeLine then z2u (fun x=>(fc (δ ++ [some x])).bind fun k=>if k=true then (fe (δ ++ [some x])).map some else some none) xs else none)=some ds:=q
  split at q1
  case isFalse=>cases q1
  case isTrue hsz=>
  refine ⟨B,δ,xs,hB,Sδ,e1,fun J H1 s1 itw=>fun Da hD=>?_⟩
  have hD0 : H Da=none:=s1.free hD
  have it:=itw (fun a=>a=Da) fun a ha=>by rw [ha]; exact hD
  have Sw : RepS X.K H1 (fun a=>B a∨a=Da) σ δ:=(Sδ.mono s1).wide fun a ha=>by rw [ha]; exact hD
  obtain ⟨I,hI⟩ : ∃ I : Nat->Nat->St->Hp->Prop,I=fun i m σ' H'=>m=xs.length - i∧i≤xs.length∧(∃ w,σ'=σ ++ [w])∧Same H1 H'∧∃ ys dn rs,H' Da=some (.lst ys)∧Reps X.K H' (fun a=>B a∨a=Da) dn ys∧ds=dn ++ rs∧dn.length≤i ∧
      z2u (fun x=>(fc (δ ++ [some x])).bind fun k=>if k=true then (fe (δ ++ [some x])).map some else some none) (xs.drop i)=some rs:=⟨_,rfl⟩
  refine ⟨I,⟨xs.length,by rw [hI]; exact ⟨by simp,Nat.zero_le _,⟨none,rfl⟩,z0w hD,[],[],ds,z0s,.nil,rfl,Nat.le_refl _,q1⟩⟩,?_⟩
  intro i m σ' H' hh
  rw [hI] at hh
  obtain ⟨rfl,hi',⟨w,rfl⟩,sm,ys,dn,rs,hys,rys,hds,hln,hrs⟩:=hh
  have kp : Keep X.K (fun a=>B a∨a=Da) H1 H':=.same sm
  by_cases hlt : i < xs.length
  · refine .inr ⟨it.go i H' kp hlt,fun σ'' H''=>I (i + 1) (xs.length - (i + 1)) σ'' H'',fun σ'' H'' h=>⟨xs.length - (i + 1),by omega,h⟩,fun xv H2 hy=>?_⟩
    obtain ⟨s2,d,hd,rd⟩:=it.yld i H' xv H2 kp hy
    have hdi:=hd hlt
    have hx : xs.drop i=d :: xs.drop (i + 1):=by
      obtain ⟨hl,e⟩:=List.getElem?_eq_some_iff.mp hdi
      rw [List.drop_eq_getElem_cons hl,e]
    rw [hx] at hrs
    obtain ⟨o,rs',e2,e3,e4⟩:=z5z hrs
    show tT X.K fc ((σ ++ [w]).set n (some xv)) H2 _
    rw [← hσ,z7H]
    have hB1 : InB (fun a=>B a∨a=Da) H2:=fun a ha=>ha.elim (fun z=>(((hB.mono s1).mono sm).mono s2) a z) fun z=>⟨_,s2 _ _ (z ▸ hys)⟩
    have S2 : RepS X.K H2 (fun a=>B a∨a=Da) (σ ++ [some xv]) (δ ++ [some d]):=((Sw.mono sm).mono s2).snoc rd
    have hl2 : ys.length < sizeLine:=by
      have:=rys.length
      omega
    cases ec : fc (δ ++ [some d]) with
    | none=>rw [ec] at e2; cases e2
    | some kk=>
      rw [ec] at e2
      have e2' : (if kk=true then (fe (δ ++ [some d])).map some else some none)=some o:=e2
      refine ⟨_,δ ++ [some d],kk,hB1,S2,ec,fun H3 s3=>?_⟩
      cases kk with
      | false=>
        rw [if_neg Bool.false_ne_true] at e2'
        rw [if_neg Bool.false_ne_true]
        cases e2'
        rw [hI]
        exact ⟨rfl,hlt,⟨_,rfl⟩,(sm.trans s2).trans s3,ys,dn,rs',s3 _ _ (s2 _ _ hys),(rys.mono s2).mono s3,by rw [hds,e4]; rfl,Nat.le_succ_of_le hln,e3⟩
      | true=>
        rw [if_pos rfl] at e2'
        rw [if_pos rfl]
        cases ey : fe (δ ++ [some d]) with
        | none=>rw [ey] at e2'; cases e2'
        | some y=>
          rw [ey] at e2'
          cases e2'
          refine ⟨_,δ ++ [some d],y,hB1.mono s3,S2.mono s3,ey,fun yv H5 s5 r5=>⟨ys,s5 _ _ (s3 _ _ (s2 _ _ hys)),hl2,?_⟩⟩
          have hu : H5 Da=some (.lst ys):=s5 _ _ (s3 _ _ (s2 _ _ hys))
          rw [hI]
          refine ⟨rfl,hlt,⟨_,rfl⟩,fun b u hb=>?_,ys ++ [yv],dn ++ [y],rs',z0s,?_,by rw [hds,e4,List.append_assoc]; rfl,by rw [List.length_append]; simp; omega,e3⟩
          · rw [z0A (z1o hb hD)]
            exact s5 _ _ (s3 _ _ (s2 _ _ (sm _ _ hb)))
          · exact Reps.keep (.upd (.inr rfl) (by rw [hu]; exact trivial)) _ (((rys.mono s2).mono s3 |>.mono s5).snoc r5)
  · have e : i=xs.length:=by omega
    subst e
    refine .inl ⟨it.stop _ H' kp (Nat.le_refl _),?_⟩
    rw [List.drop_length] at hrs
    cases hrs
    rw [List.append_nil] at hds
    subst hds
    exact k Da ys H' (s1.trans sm) hD0 hys (rys.anti fun a z=>.inl z)
theorem z3H (hc : X.calm=true) (S : CompScope X.N X.env.scope.names N' 1 sc) (hn : n=X.N.length) (hi : PID X (.Name x px) iter fi)
    (hg : ∀ s H fp pins E,PG (z0O X N' sc s H fp pins E) (.Name x px) (z2N n)) (ht : ∀ s H fp pins E,y5k (z0O X N' sc s H fp pins E) ifs (tT X.K fc)) (he : ∀ s H fp pins E,PE (z0O X N' sc s H fp pins E) elt (tD X.K fe))
    (hs : ∀ x,foldedSetIterable iter X.env x=pure x:=by intro _; rfl) : PF X (.ListComp elt [⟨.Name x px,iter,ifs,0⟩] sc pos) (z1t fi fc fe):=by
  intro pins s σ H Q I hq
  exact y0l hc S hi ⟨hg,ht,he⟩ hs pins s σ H Q I (y1z (by rw [hn,I.len]) hq)
theorem z6U {i : Nat} {y : Str} {py spos : Pos} (hN : X.N.Nodup) (hy : X.N[i]? = some y) (hyl : X.env.scope.names.lookup y=some .local) (hc : X.calm=true) (S : CompScope X.N X.env.scope.names N' 1 sc) (hn : n=X.N.length) (hi : PID X (.Name x px) iter fi)
    (hg : ∀ s H fp pins E,PG (z0O X N' sc s H fp pins E) (.Name x px) (z2N n)) (ht : ∀ s H fp pins E,y5k (z0O X N' sc s H fp pins E) ifs (tT X.K fc)) (he : ∀ s H fp pins E,PE (z0O X N' sc s H fp pins E) elt (tD X.K fe))
    (hsw : swapsWith (.ListComp elt [⟨.Name x px,iter,ifs,0⟩] sc pos) (some (.Name y py)) spos.line X.env=pure true:=by rfl) (hs : ∀ x,foldedSetIterable iter X.env x=pure x:=by intro _; rfl) :
    PS X (.Assign [.Name y py] (.ListComp elt [⟨.Name x px,iter,ifs,0⟩] sc pos) spos) (tAsg (tF X.K (z1t fi fc fe)) (z2N i)):=by
  intro pins s σ H D I hq
  exact y3i hc S hN hy hyl hi ⟨hg,ht,he⟩ hsw hs pins s σ H D I (y1z (by rw [hn,I.len]) hq)
end
end L2
namespace L2
open PySem PySem.Spec PyProof.Rows
inductive SD where
  | sh (d : D) | ow (d : D) | bo (r : Nat) (d : D)
noncomputable abbrev SS:=List (Option SD)
noncomputable def SD.val : SD->D
  | .sh d=>d
  | .ow d=>d
  | .bo _ d=>d
noncomputable def z0r (δ : SS) : DS:=δ.map (Option.map SD.val)
noncomputable def shO : Option SD->Option D
  | some (.sh d)=>some d
  | _=>none
noncomputable def shV (δ : SS) : DS:=δ.map shO
structure RS (K : PySem.W.Frag) (H0 : Hp) (B0 : Addr->Prop) (H : Hp) (σ : St) (δ : SS) (R : Nat->List Addr) : Prop where
  keep : Same H0 H
  inB : InB B0 H0
  len : δ.length=σ.length
  new : ∀ r a,a∈R r->H0 a=none
  held : ∀ r a,a∈R r->∃ o,H a=some o∧Mut (some o)
  disj : ∀ r s a,a∈R r->a∈R s->r=s
  sh : ∀ (i : Nat) (d : D),δ[i]? = some (some (.sh d))->∃ v,σ[i]? = some (some v)∧Rep K H (fun a=>B0 a∨∃ r,a∈R r) d v
  bo : ∀ (i r : Nat) (d : D),δ[i]? = some (some (.bo r d))->∃ v,σ[i]? = some (some v)∧Rep K H (fun a=>B0 a∨∃ s,s≠r∧a∈R s) d v
  ow : ∀ (i : Nat) (d : D),δ[i]? = some (some (.ow d))->∃ v,σ[i]? = some (some v)∧Tree K H d v (R i)∧(R i).Nodup
structure Stp (R : Nat->List Addr) (H : Hp) (R' : Nat->List Addr) (H' : Hp) : Prop where
  keep : ∀ a o,H a=some o->(∀ r,a ∉ R r)->H' a=some o
  from' : ∀ r a,a∈R' r->(∃ s,a∈R s)∨H a=none
  there : ∀ a,H' a=none->H a=none
theorem Stp.refl (R : Nat->List Addr) (H : Hp) : Stp R H R H:=⟨fun _ _ h _=>h,fun r _ h=>.inl ⟨r,h⟩,fun _ h=>h⟩
theorem Stp.trans {R R1 R2 : Nat->List Addr} {H H1 H2 : Hp} (a : Stp R H R1 H1) (b : Stp R1 H1 R2 H2) : Stp R H R2 H2:=by
  refine ⟨fun x o h n=>b.keep x o (a.keep x o h n) fun r hr=>?_,fun r x h=>?_,fun x h=>a.there x (b.there x h)⟩
  · rcases a.from' r x hr with ⟨s,z⟩ | z
    · exact n s z
    · rw [h] at z; cases z
  · rcases b.from' r x h with ⟨s,z⟩ | z
    · exact a.from' s x z
    · exact .inr (a.there x z)
theorem Stp.same {R : Nat->List Addr} {H H' : Hp} (e : Same H H') : Stp R H R H':=⟨fun a o h _=>e a o h,fun r _ h=>.inl ⟨r,h⟩,fun _ h=>e.free h⟩
section
variable {K : PySem.W.Frag} {H0 H H' : Hp} {B0 : Addr->Prop} {σ : St} {δ : SS} {R : Nat->List Addr}
theorem y6q {i : Nat} {d : D} (h : (z0r δ)[i]? = some (some d)) : ∃ x,δ[i]? = some (some x)∧x.val=d:=by
  unfold z0r at h
  rw [List.getElem?_map] at h
  cases e : δ[i]? with
  | none=>rw [e] at h; cases h
  | some o=>
    rw [e] at h
    cases o with
    | none=>cases h
    | some x=>cases h; exact ⟨x,rfl,rfl⟩
theorem shV_get {i : Nat} {d : D} (h : (shV δ)[i]? = some (some d)) : δ[i]? = some (some (.sh d)):=by
  unfold shV at h
  rw [List.getElem?_map] at h
  cases e : δ[i]? with
  | none=>rw [e] at h; cases h
  | some o=>
    rw [e] at h
    have h' : shO o=some d:=Option.some.inj h
    unfold shO at h'
    split at h'
    · cases h'; rfl
    · cases h'
theorem RS.all (h : RS K H0 B0 H σ δ R) : RepS K H noB σ (z0r δ):=by
  refine ⟨by unfold z0r; rw [List.length_map]; exact h.len,fun i d e=>?_⟩
  obtain ⟨x,e',rfl⟩:=y6q e
  cases x with
  | sh d=>
    obtain ⟨v,e1,r⟩:=h.sh i d e'
    exact ⟨v,e1,r.anti fun _ z=>z.elim⟩
  | bo r d=>
    obtain ⟨v,e1,r⟩:=h.bo i r d e'
    exact ⟨v,e1,r.anti fun _ z=>z.elim⟩
  | ow d=>
    obtain ⟨v,e1,t,_⟩:=h.ow i d e'
    exact ⟨v,e1,t.rep d fun _ _ z=>z.elim⟩
theorem RS.shr (h : RS K H0 B0 H σ δ R) : RepS K H (fun a=>B0 a∨∃ r,a∈R r) σ (shV δ):=by
  refine ⟨by unfold shV; rw [List.length_map]; exact h.len,fun i d e=>h.sh i d (shV_get e)⟩
theorem RS.inAll (h : RS K H0 B0 H σ δ R) : InB (fun a=>B0 a∨∃ r,a∈R r) H:=fun a ha=>by
  rcases ha with z | ⟨r,z⟩
  · exact (h.inB.mono h.keep) a z
  · obtain ⟨o,e,_⟩:=h.held r a z
    exact ⟨o,e⟩
theorem RS.mono (h : RS K H0 B0 H σ δ R) (e : Same H H') : RS K H0 B0 H' σ δ R:=by
  refine ⟨h.keep.trans e,h.inB,h.len,h.new,fun r a z=>?_,h.disj,fun i d z=>?_,fun i r d z=>?_,fun i d z=>?_⟩
  · obtain ⟨o,e1,m⟩:=h.held r a z
    exact ⟨o,e a o e1,m⟩
  · obtain ⟨v,e1,r⟩:=h.sh i d z
    exact ⟨v,e1,r.mono e⟩
  · obtain ⟨v,e1,r⟩:=h.bo i r d z
    exact ⟨v,e1,r.mono e⟩
  · obtain ⟨v,e1,t,nd⟩:=h.ow i d z
    exact ⟨v,e1,t.mono e,nd⟩
theorem RS.setSh {i : Nat} {d : D} {v : V} (h : RS K H0 B0 H σ δ R) (r : Rep K H (fun a=>B0 a∨∃ r,a∈R r) d v) : RS K H0 B0 H (σ.set i (some v)) (δ.set i (some (.sh d))) R:=by
  have gs : ∀ {α : Type} {l : List (Option α)} {i j : Nat} {x : Option α} {y : α},(l.set i x)[j]? = some (some y)->(j=i∧x=some y)∨(j≠i∧l[j]? = some (some y)):=fun {α l i j x y} e=>by
    by_cases hj : j=i
    · subst hj
      rw [List.getElem?_set] at e
      simp only [if_true] at e
      split at e
      · exact .inl ⟨rfl,Option.some.inj e⟩
      · cases e
    · rw [List.getElem?_set_ne (Ne.symm hj)] at e
      exact .inr ⟨hj,e⟩
  have up : ∀ {j : Nat} {w : V},j≠i->σ[j]? = some (some w)->(σ.set i (some v))[j]? = some (some w):=fun hj e=>by rw [List.getElem?_set_ne (Ne.symm hj)]; exact e
  refine ⟨h.keep,h.inB,by simp [h.len],h.new,h.held,h.disj,fun j d' z=>?_,fun j r' d' z=>?_,fun j d' z=>?_⟩
  · rcases gs z with ⟨rfl,q⟩ | ⟨hj,q⟩
    · cases q
      have hl : j < σ.length:=by
        rw [← h.len]
        by_cases hl : j < δ.length
        · exact hl
        · rw [List.getElem?_eq_none (by simp; omega)] at z; cases z
      exact ⟨v,by rw [List.getElem?_set]; simp [hl],r⟩
    · obtain ⟨w,e1,r⟩:=h.sh j d' q
      exact ⟨w,up hj e1,r⟩
  · rcases gs z with ⟨rfl,q⟩ | ⟨hj,q⟩
    · cases q
    · obtain ⟨w,e1,r⟩:=h.bo j r' d' q
      exact ⟨w,up hj e1,r⟩
  · rcases gs z with ⟨rfl,q⟩ | ⟨hj,q⟩
    · cases q
    · obtain ⟨w,e1,t⟩:=h.ow j d' q
      exact ⟨w,up hj e1,t⟩
noncomputable def z8H (R : Nat->List Addr) (i : Nat) (A : List Addr) : Nat->List Addr:=fun r=>if r=i then A else R r
theorem z0V {i : Nat} {A : List Addr} : z8H R i A i=A:=if_pos rfl
theorem z1x {i r : Nat} {A : List Addr} (h : r≠i) : z8H R i A r=R r:=if_neg h
theorem z2P {α : Type} {l : List (Option α)} {i j : Nat} {x : Option α} {y : α} (e : (l.set i x)[j]? = some (some y)) : (j=i∧x=some y∧i < l.length)∨(j≠i∧l[j]? = some (some y)):=by
  by_cases hj : j=i
  · subst hj
    rw [List.getElem?_set] at e
    simp only [if_true] at e
    split at e
    · rename_i hl
      exact .inl ⟨rfl,Option.some.inj e,hl⟩
    · cases e
  · rw [List.getElem?_set_ne (Ne.symm hj)] at e
    exact .inr ⟨hj,e⟩
theorem RS.setOw {Hold : Hp} {i : Nat} {d : D} {v : V} {A : List Addr} (h : RS K H0 B0 Hold σ δ R) (e : Same Hold H) (t : Tree K H d v A) (nd : A.Nodup) (fr : ∀ a∈A,Hold a=none) : RS K H0 B0 H (σ.set i (some v)) (δ.set i (some (.ow d))) (z8H R i A):=by
  have hm:=h.mono e
  have up : ∀ {j : Nat} {w : V},j≠i->σ[j]? = some (some w)->(σ.set i (some v))[j]? = some (some w):=fun hj e=>by rw [List.getElem?_set_ne (Ne.symm hj)]; exact e
  have hA : ∀ r a,a∈R r->a ∉ A:=fun r a z z'=>by
    obtain ⟨o,q,_⟩:=h.held r a z
    rw [fr a z'] at q; cases q
  have mem : ∀ r a,a∈z8H R i A r->(r=i∧a∈A)∨(r≠i∧a∈R r):=fun r a z=>by
    by_cases hr : r=i
    · subst hr; rw [z0V] at z; exact .inl ⟨rfl,z⟩
    · rw [z1x hr] at z; exact .inr ⟨hr,z⟩
  refine ⟨hm.keep,h.inB,by simp [h.len],fun r a z=>?_,fun r a z=>?_,fun r s a z z'=>?_,fun j d' z=>?_,fun j r' d' z=>?_,fun j d' z=>?_⟩
  · rcases mem r a z with ⟨_,z⟩ | ⟨_,z⟩
    · exact h.keep.free (fr a z)
    · exact h.new r a z
  · rcases mem r a z with ⟨_,z⟩ | ⟨_,z⟩
    · exact t.held d a z
    · exact hm.held r a z
  · rcases mem r a z with ⟨h1,z⟩ | ⟨h1,z⟩ <;> rcases mem s a z' with ⟨h2,z'⟩ | ⟨h2,z'⟩
    · rw [h1,h2]
    · exact absurd z (hA s a z')
    · exact absurd z' (hA r a z)
    · exact h.disj r s a z z'
  · rcases z2P z with ⟨rfl,q,_⟩ | ⟨hj,q⟩
    · cases q
    · obtain ⟨w,e1,r⟩:=h.sh j d' q
      refine ⟨w,up hj e1,Rep.anti ?_ d' ((Rep.wide (C:=fun a=>a∈A) fr d' r).mono e)⟩
      rintro a (z | ⟨r,z⟩)
      · exact .inl (.inl z)
      · rcases mem r a z with ⟨_,z⟩ | ⟨_,z⟩
        · exact .inr z
        · exact .inl (.inr ⟨r,z⟩)
  · rcases z2P z with ⟨rfl,q,_⟩ | ⟨hj,q⟩
    · cases q
    · obtain ⟨w,e1,r⟩:=h.bo j r' d' q
      refine ⟨w,up hj e1,Rep.anti ?_ d' ((Rep.wide (C:=fun a=>a∈A) fr d' r).mono e)⟩
      rintro a (z | ⟨s,hs,z⟩)
      · exact .inl (.inl z)
      · rcases mem s a z with ⟨_,z⟩ | ⟨_,z⟩
        · exact .inr z
        · exact .inl (.inr ⟨s,hs,z⟩)
  · rcases z2P z with ⟨rfl,q,hl⟩ | ⟨hj,q⟩
    · cases q
      rw [z0V]
      exact ⟨v,by rw [List.getElem?_set]; simp [← h.len,hl],t,nd⟩
    · obtain ⟨w,e1,t'⟩:=hm.ow j d' q
      rw [z1x hj]
      exact ⟨w,up hj e1,t'⟩
noncomputable def y7j (i : Nat) (δ : SS) : SS:=match δ[i]? with
  | some (some (.ow d))=>δ.set i (some (.sh d))
  | _=>δ
theorem RS.frz (i : Nat) (h : RS K H0 B0 H σ δ R) : ∃ R',RS K H0 B0 H σ (y7j i δ) R'∧∀ r a,a∈R' r->a∈R r:=by
  unfold y7j
  split
  · rename_i d e
    obtain ⟨v,e1,t,nd⟩:=h.ow i d e
    refine ⟨z8H R i [],?_,fun r a z=>?_⟩
    · have mem : ∀ r a,a∈z8H R i [] r->r≠i∧a∈R r:=fun r a z=>by
        by_cases hr : r=i
        · subst hr; rw [z0V] at z; cases z
        · rw [z1x hr] at z; exact ⟨hr,z⟩
      refine ⟨h.keep,h.inB,by simp [h.len],fun r a z=>h.new r a (mem r a z).2,fun r a z=>h.held r a (mem r a z).2,fun r s a z z'=>h.disj r s a (mem r a z).2 (mem s a z').2,fun j d' z=>?_,fun j r' d' z=>?_,fun j d' z=>?_⟩
      · rcases z2P z with ⟨rfl,q,hl⟩ | ⟨hj,q⟩
        · cases q
          refine ⟨v,e1,t.rep d fun a ha=>?_⟩
          rintro (z | ⟨r,z⟩)
          · obtain ⟨o,q⟩:=h.inB a z
            rw [h.new j a ha] at q; cases q
          · exact (mem r a z).1 (h.disj r j a (mem r a z).2 ha)
        · obtain ⟨w,e2,r⟩:=h.sh j d' q
          exact ⟨w,e2,r.anti fun a z=>z.imp id fun ⟨r,z⟩=>⟨r,(mem r a z).2⟩⟩
      · rcases z2P z with ⟨rfl,q,_⟩ | ⟨hj,q⟩
        · cases q
        · obtain ⟨w,e2,r⟩:=h.bo j r' d' q
          exact ⟨w,e2,r.anti fun a z=>z.imp id fun ⟨s,hs,z⟩=>⟨s,hs,(mem s a z).2⟩⟩
      · rcases z2P z with ⟨rfl,q,_⟩ | ⟨hj,q⟩
        · cases q
        · rw [z1x hj]
          exact h.ow j d' q
    · by_cases hr : r=i
      · subst hr; rw [z0V] at z; cases z
      · rw [z1x hr] at z; exact z
  · exact ⟨R,h,fun _ _ z=>z⟩
end
inductive Out where
  | nx (δ : SS) | bk (δ : SS) | ct (δ : SS) | rt (d : D) | ex (c : Nat) (δ : SS)
noncomputable abbrev XR:=Nat->St->Hp->Prop
noncomputable abbrev noX : XR:=fun _ _ _=>False
noncomputable def Ret (K : PySem.W.Frag) (H0 : Hp) (B0 : Addr->Prop) (fr : Bool) (H : Hp) (d : D) (v : V) : Prop:=
  Same H0 H∧(fr=true->∃ A,Tree K H d v A∧A.Nodup∧∀ a∈A,H0 a=none)∧(fr=false->Rep K H B0 d v)
noncomputable def Aft (K : PySem.W.Frag) (H0 : Hp) (B0 : Addr->Prop) (fr : Bool) (RX : XR) (R : Nat->List Addr) (H : Hp) (D : Ends) : Out->Prop
  | .nx δ'=>∀ σ' H' R',RS K H0 B0 H' σ' δ' R'->Stp R H R' H'->D.nx σ' H'
  | .bk δ'=>∀ σ' H' R',RS K H0 B0 H' σ' δ' R'->Stp R H R' H'->D.bk σ' H'
  | .ct δ'=>∀ σ' H' R',RS K H0 B0 H' σ' δ' R'->Stp R H R' H'->D.ct σ' H'
  | .rt d=>∀ v H',Ret K H0 B0 fr H' d v->(∀ a,H' a=none->H a=none)->D.rt v H'
  | .ex c δ'=>∀ σ' H' R',RS K H0 B0 H' σ' δ' R'->Stp R H R' H'->RX c σ' H'
noncomputable def tS (K : PySem.W.Frag) (H0 : Hp) (B0 : Addr->Prop) (fr : Bool) (RX : XR) (g : SS->Option Out) : TS:=fun D σ H=>∃ δ R o,RS K H0 B0 H σ δ R∧g δ=some o∧Aft K H0 B0 fr RX R H D o
theorem Aft.back {K : PySem.W.Frag} {H0 : Hp} {B0 : Addr->Prop} {fr : Bool} {RX : XR} {R R1 : Nat->List Addr} {H H1 : Hp} {D : Ends} {o : Out} (h : Aft K H0 B0 fr RX R H D o) (s : Stp R H R1 H1) : Aft K H0 B0 fr RX R1 H1 D o:=by
  cases o with
  | nx δ'=>exact fun σ' H' R' r t=>h σ' H' R' r (s.trans t)
  | bk δ'=>exact fun σ' H' R' r t=>h σ' H' R' r (s.trans t)
  | ct δ'=>exact fun σ' H' R' r t=>h σ' H' R' r (s.trans t)
  | rt d=>exact fun v H' r t=>h v H' r fun a z=>s.there a (t a z)
  | ex c δ'=>exact fun σ' H' R' r t=>h σ' H' R' r (s.trans t)
theorem PS.imp {X : Cx} {st : Stmt} {t t' : TS} (h : PS X st t) (w : ∀ D σ H,t' D σ H->t D σ H) : PS X st t':=fun pins s σ H D I q=>h pins s σ H D I (w D σ H q)
theorem PSs.imp {X : Cx} {st : List Stmt} {t t' : TS} (h : PSs X st t) (w : ∀ D σ H,t' D σ H->t D σ H) : PSs X st t':=fun pins s σ H D I q=>h pins s σ H D I (w D σ H q)
section
variable {X : Cx} {H0 : Hp} {B0 : Addr->Prop} {fr : Bool} {RX : XR} {st : Stmt} {sts : List Stmt} {e : Expr} {pos : Pos}
noncomputable def z0N (g h : SS->Option Out) : SS->Option Out:=fun δ=>(g δ).bind fun o=>match o with
  | .nx δ'=>h δ'
  | o=>some o
noncomputable def z1z : SS->Option Out:=fun δ=>some (.nx δ)
theorem z0W : PSs X [] (tS X.K H0 B0 fr RX z1z):=pss_nil.imp fun D σ H z_=>by
  obtain ⟨δ,R,o,rs,q,k⟩:=z_
  cases q
  exact k σ H R rs (.refl R H)
theorem z0g {g h : SS->Option Out} (h1 : PS X st (tS X.K H0 B0 fr RX g)) (h2 : PSs X sts (tS X.K H0 B0 fr RX h)) : PSs X (st :: sts) (tS X.K H0 B0 fr RX (z0N g h)):=(y6p h1 h2).imp fun D σ H z_=>by
  obtain ⟨δ,R,o,rs,q,k⟩:=z_
  unfold z0N at q
  cases e : g δ with
  | none=>rw [e] at q; cases q
  | some o1=>
    rw [e] at q
    refine ⟨δ,R,o1,rs,e,?_⟩
    cases o1 with
    | nx δ'=>
      have q' : h δ'=some o:=q
      exact fun σ' H' R' rs' s'=>⟨δ',R',o,rs',q',k.back s'⟩
    | bk δ'=>cases q; exact k
    | ct δ'=>cases q; exact k
    | rt d=>cases q; exact k
    | ex c δ'=>cases q; exact k
theorem z0i {g : SS->Option Out} (h1 : PS X st (tS X.K H0 B0 fr RX g)) : PSs X [st] (tS X.K H0 B0 fr RX g):=y0I h1
noncomputable abbrev PAsg (X : Cx) (st : Stmt) (i : Nat) (te : TE) : Prop:=PS X st (tAsg te (z2N i))
theorem PAsg.imp {i : Nat} {t t' : TE} (h : PAsg X st i t) (w : ∀ σ H Q,t' σ H Q->t σ H Q) : PAsg X st i t':=PS.imp h fun D σ H q=>w σ H _ q
theorem z1f {i : Nat} {x : Str} {te : TE} {pos' : Pos} (hN : X.N.Nodup) (hi : X.N[i]? = some x) (hx : Loc X.env.scope x) (he : PE X e te) (hs : swapsWith e (some (.Name x pos')) pos.line X.env=pure false:=by rfl) (hf : X.fn x=true∨X.env.scope.names.lookup x=some .local:=by first | exact .inl rfl | exact .inr rfl | assumption) :
    PAsg X (.Assign [.Name x pos'] e pos) i te:=ps_set hN hi hx he hs hf
noncomputable def z6j (i : Nat) (f : DE) : SS->Option Out:=fun δ=>(f (shV δ)).map fun d=>.nx (δ.set i (some (.sh d)))
noncomputable def y5n (i : Nat) (f : DE) : SS->Option Out:=fun δ=>(f (z0r δ)).bind fun d=>if d.imm=true then some (.nx (δ.set i (some (.sh d)))) else none
noncomputable def z6d (i : Nat) (f : DE) : SS->Option Out:=fun δ=>(f (z0r δ)).map fun d=>.nx (δ.set i (some (.ow d)))
theorem z1D {i : Nat} {f : DE} (h : PAsg X st i (tD X.K f)) : PS X st (tS X.K H0 B0 fr RX (z6j i f)):=PS.imp h fun D σ H z_=>by
  obtain ⟨δ,R,o,rs,q,k⟩:=z_
  unfold z6j at q
  cases e : f (shV δ) with
  | none=>rw [e] at q; cases q
  | some d=>
    rw [e] at q
    cases q
    exact ⟨_,shV δ,d,rs.inAll,rs.shr,e,fun v H' s r=>k _ H' R ((rs.mono s).setSh r) (.same s)⟩
theorem z7w {i : Nat} {f : DE} (h : PAsg X st i (tD X.K f)) : PS X st (tS X.K H0 B0 fr RX (y5n i f)):=PS.imp h fun D σ H z_=>by
  obtain ⟨δ,R,o,rs,q,k⟩:=z_
  unfold y5n at q
  cases e : f (z0r δ) with
  | none=>rw [e] at q; cases q
  | some d=>
    rw [e] at q
    have q' : (if d.imm=true then some (Out.nx (δ.set i (some (.sh d)))) else none)=some o:=q
    split at q'
    · rename_i hi
      cases q'
      exact ⟨noB,z0r δ,d,.no,rs.all,e,fun v H' s r=>k _ H' R ((rs.mono s).setSh (r.imm d hi)) (.same s)⟩
    · cases q'
theorem z1K {i : Nat} {f : DE} (h : PAsg X st i (tN X.K f)) : PS X st (tS X.K H0 B0 fr RX (z6d i f)):=PS.imp h fun D σ H z_=>by
  obtain ⟨δ,R,o,rs,q,k⟩:=z_
  unfold z6d at q
  cases e : f (z0r δ) with
  | none=>rw [e] at q; cases q
  | some d=>
    rw [e] at q
    cases q
    refine ⟨z0r δ,d,rs.all,e,fun v H' A s t nd fr'=>k _ H' (z8H R i A) (rs.setOw s t nd fr') ⟨fun a o h _=>s a o h,fun r a z=>?_,fun a z=>s.free z⟩⟩
    by_cases hr : r=i
    · subst hr; rw [z0V] at z; exact .inr (fr' a z)
    · rw [z1x hr] at z; exact .inl ⟨r,z⟩
noncomputable def z6k (f : DE) : SS->Option Out:=fun δ=>(f (z0r δ)).bind fun d=>if d.imm=true then some (.rt d) else none
noncomputable def z8F (f : DE) : SS->Option Out:=fun δ=>(f (z0r δ)).map .rt
noncomputable def z7v (f : DE) : SS->Option Out:=fun δ=>(f (shV δ)).map .rt
noncomputable def y4B (i : Nat) : SS->Option Out:=fun δ=>match δ[i]? with
  | some (some (.ow d))=>some (.rt d)
  | _=>none
theorem z1Q {f : DE} (h : PD X e f) : PS X (.Return (some e) pos) (tS X.K H0 B0 fr RX (z6k f)):=PS.imp (z7q h) fun D σ H z_=>by
  obtain ⟨δ,R,o,rs,q,k⟩:=z_
  unfold z6k at q
  cases e : f (z0r δ) with
  | none=>rw [e] at q; cases q
  | some d=>
    rw [e] at q
    have q' : (if d.imm=true then some (Out.rt d) else none)=some o:=q
    split at q'
    · rename_i hi
      cases q'
      exact ⟨noB,z0r δ,d,.no,rs.all,e,fun v H' s r=>k v H' ⟨rs.keep.trans s,fun _=>⟨[],r.immTree d hi,List.nodup_nil,(fun a z=>nomatch z)⟩,fun _=>r.imm d hi⟩ fun a z=>s.free z⟩
    · cases q'
theorem z3t {f : DE} (h : PN X e f) : PS X (.Return (some e) pos) (tS X.K H0 B0 fr RX (z8F f)):=PS.imp (z7q h) fun D σ H z_=>by
  obtain ⟨δ,R,o,rs,q,k⟩:=z_
  unfold z8F at q
  cases e : f (z0r δ) with
  | none=>rw [e] at q; cases q
  | some d=>
    rw [e] at q
    cases q
    exact ⟨z0r δ,d,rs.all,e,fun v H' A s t nd fr'=>k v H' ⟨rs.keep.trans s,fun _=>⟨A,t,nd,fun a z=>rs.keep.free (fr' a z)⟩,fun _=>t.rep d fun a z=>rs.inB.fresh (rs.keep.free (fr' a z))⟩ fun a z=>s.free z⟩
theorem z2z {f : DE} (h : PD X e f) : PS X (.Return (some e) pos) (tS X.K H0 B0 false RX (z7v f)):=PS.imp (z7q h) fun D σ H z_=>by
  obtain ⟨δ,R,o,rs,q,k⟩:=z_
  unfold z7v at q
  cases e : f (shV δ) with
  | none=>rw [e] at q; cases q
  | some d=>
    rw [e] at q
    cases q
    exact ⟨_,shV δ,d,rs.inAll,rs.shr,e,fun v H' s r=>k v H' ⟨rs.keep.trans s,(fun z=>nomatch z),fun _=>r.anti fun a z=>.inl z⟩ fun a z=>s.free z⟩
theorem z6r {i : Nat} (h : PE X e (z9O i)) : PS X (.Return (some e) pos) (tS X.K H0 B0 fr RX (y4B i)):=PS.imp (z7q h) fun D σ H z_=>by
  obtain ⟨δ,R,o,rs,q,k⟩:=z_
  unfold y4B at q
  split at q
  · rename_i d e
    cases q
    obtain ⟨v,e1,t,nd⟩:=rs.ow i d e
    exact ⟨v,e1,k v H ⟨rs.keep,fun _=>⟨R i,t,nd,fun a z=>rs.new i a z⟩,fun _=>t.rep d fun a z=>rs.inB.fresh (rs.new i a z)⟩ fun a z=>z⟩
  · cases q
noncomputable def ifO (c : DS->Option Bool) (g h : SS->Option Out) : SS->Option Out:=fun δ=>(c (z0r δ)).bind fun b=>if b=true then g δ else h δ
theorem z5F {c : Expr} {a b : List Stmt} {f : DS->Option Bool} {g h : SS->Option Out} (hc : PTD X c f) (ha : PSs X a (tS X.K H0 B0 fr RX g)) (hb : PSs X b (tS X.K H0 B0 fr RX h)) : PS X (.If c a b pos) (tS X.K H0 B0 fr RX (ifO f g h)):=PS.imp (ps_if hc ha hb) fun D σ H z_=>by
  obtain ⟨δ,R,o,rs,q,k⟩:=z_
  unfold ifO at q
  cases e : f (z0r δ) with
  | none=>rw [e] at q; cases q
  | some b=>
    rw [e] at q
    have q' : (if b=true then g δ else h δ)=some o:=q
    refine ⟨noB,z0r δ,b,.no,rs.all,e,fun H' s=>?_⟩
    cases b with
    | true=>
      rw [if_pos rfl] at q'
      refine iteT ?_
      exact ⟨δ,R,o,rs.mono s,q',k.back (.same s)⟩
    | false=>
      rw [if_neg Bool.false_ne_true] at q'
      refine iteF ?_
      exact ⟨δ,R,o,rs.mono s,q',k.back (.same s)⟩
noncomputable def frzO (i : Nat) (g : SS->Option Out) : SS->Option Out:=fun δ=>g (y7j i δ)
theorem s_frz (i : Nat) {g : SS->Option Out} (h : PS X st (tS X.K H0 B0 fr RX g)) : PS X st (tS X.K H0 B0 fr RX (frzO i g)):=PS.imp h fun D σ H z_=>by
  obtain ⟨δ,R,o,rs,q,k⟩:=z_
  obtain ⟨R',rs',hs⟩:=rs.frz i
  exact ⟨y7j i δ,R',o,rs',q,k.back ⟨fun a o h _=>h,fun r a z=>.inl ⟨r,hs r a z⟩,fun a z=>z⟩⟩
noncomputable def z7e (i : Nat) (b : SS->Option Out) : List D->SS->Option Out
  | [],δ=>some (.nx δ)
  | x :: r,δ=>(b (δ.set i (some (.sh x)))).bind fun o=>match o with
    | .nx δ'=>z7e i b r δ'
    | .ct δ'=>z7e i b r δ'
    | .bk δ'=>some (.nx δ')
    | .rt d=>some (.rt d)
    | .ex c δ'=>some (.ex c δ')
noncomputable def z5G (i : Nat) (f : DS->Option (List D)) (b : SS->Option Out) : SS->Option Out:=fun δ=>(f (shV δ)).bind fun ds=>z7e i b ds δ
theorem Stp.keepB {K : PySem.W.Frag} {R R' : Nat->List Addr} {H H' : Hp} {B : Addr->Prop} (s : Stp R H R' H') (hR : ∀ r a,a∈R r->B a) (hm : ∀ r a,a∈R r->∃ o,H a=some o∧Mut (some o)) : Keep K B H H':=by
  have kp : ∀ a o,H a=some o->¬ Mut (some o)->H' a=some o:=fun a o e n=>s.keep a o e fun r z=>by
    obtain ⟨o',e',m⟩:=hm r a z
    rw [e] at e'; cases e'
    exact n m
  refine ⟨fun a xs n h=>s.keep a _ h fun r z=>n (hR r a z),fun a xs h=>?_,fun a xs h=>?_,fun a kvs n h=>s.keep a _ h fun r z=>n (hR r a z),fun a φ n h=>s.keep a _ h fun r z=>n (hR r a z)⟩
  · rcases h with (h | ⟨o,h⟩) | h
    · exact .inl (.inl (kp a _ h fun z=>z))
    · exact .inl (.inr ⟨o,kp a _ h fun z=>z⟩)
    · exact .inr h
  · rcases h with ⟨o,h⟩ | h
    · exact .inl ⟨o,kp a _ h fun z=>z⟩
    · exact .inr h
theorem z2V {i : Nat} {x : Str} {px : Pos} {iter : Expr} {body : List Stmt} {f : DS->Option (List D)} {g : SS->Option Out} (hp : PassesOwn (model X.prog X.w) X.A X.env X.xe) (hc : X.calm=true) (hi : PID X (.Name x px) iter f) (hg : PG X (.Name x px) (z2N i)) (hb : PSs X body (tS X.K H0 B0 fr RX g))
    (hs : ∀ x,foldedSetIterable iter X.env x=pure x:=by intro _; rfl) : PS X (.For (.Name x px) iter body [] pos) (tS X.K H0 B0 fr RX (z5G i f g)):=PS.imp (y1b hp hc hi hg hb hs) fun D σ H z_=>by
  obtain ⟨δ,R,o,rs,q,k⟩:=z_
  unfold z5G at q
  cases e : f (shV δ) with
  | none=>rw [e] at q; cases q
  | some ds=>
  rw [e] at q
  have q : z7e i g ds δ=some o:=q
  refine ⟨_,shV δ,ds,rs.inAll,rs.shr,e,fun J H1 s1 itw=>?_⟩
  have rs1:=rs.mono s1
  have it:=itw (fun a=>H1 a=none) fun a z=>z
  refine ⟨fun n m σ' H'=>m=ds.length - n∧n≤ds.length∧∃ δ' R',RS X.K H0 B0 H' σ' δ' R'∧Stp R H1 R' H'∧z7e i g (ds.drop n) δ'=some o,⟨ds.length,by simp,Nat.zero_le _,δ,R,rs1,.refl R H1,q⟩,?_⟩
  rintro n m σ' H' ⟨rfl,hn,δ',R',rs',s',q'⟩
  have kp : Keep X.K (fun a=>(B0 a∨∃ r,a∈R r)∨H1 a=none) H1 H':=s'.keepB (fun r a z=>.inl (.inr ⟨r,z⟩)) rs1.held
  by_cases hlt : n < ds.length
  · have hx : ds.drop n=ds[n] :: ds.drop (n + 1):=List.drop_eq_getElem_cons hlt
    rw [hx] at q'
    unfold z7e at q'
    cases eb : g (δ'.set i (some (.sh ds[n]))) with
    | none=>rw [eb] at q'; cases q'
    | some ob=>
      rw [eb] at q'
      refine .inr ⟨it.go n H' kp hlt,fun σ2 H2=>n + 1≤ds.length∧∃ δ2 R2,RS X.K H0 B0 H2 σ2 δ2 R2∧Stp R H1 R2 H2∧z7e i g (ds.drop (n + 1)) δ2=some o,fun σ2 H2 z=>⟨ds.length - (n + 1),by omega,rfl,z⟩,fun xv H2 hy=>?_⟩
      obtain ⟨s2,d,hd,rd⟩:=it.yld n H' xv H2 kp hy
      have hdi : d=ds[n]:=by
        have:=hd hlt
        rw [List.getElem?_eq_getElem hlt] at this
        exact (Option.some.inj this).symm
      subst hdi
      have rd' : Rep X.K H2 (fun a=>B0 a∨∃ r,a∈R' r) ds[n] xv:=rd.anti fun a z=>by
        rcases z with z | ⟨r,z⟩
        · exact .inl (.inl z)
        · rcases s'.from' r a z with z | z
          · exact .inl (.inr z)
          · exact .inr z
      have rs2:=(rs'.mono s2).setSh (i:=i) rd'
      have st2 : Stp R H1 R' H2:=s'.trans (.same s2)
      refine ⟨_,R',ob,rs2,eb,?_⟩
      cases ob with
      | nx δ2=>
        have q2 : z7e i g (ds.drop (n + 1)) δ2=some o:=q'
        exact fun σ3 H3 R3 rs3 s3=>⟨hlt,δ2,R3,rs3,st2.trans s3,q2⟩
      | ct δ2=>
        have q2 : z7e i g (ds.drop (n + 1)) δ2=some o:=q'
        exact fun σ3 H3 R3 rs3 s3=>⟨hlt,δ2,R3,rs3,st2.trans s3,q2⟩
      | bk δ2=>
        cases q'
        exact fun σ3 H3 R3 rs3 s3=>k σ3 H3 R3 rs3 ((Stp.same s1).trans (st2.trans s3))
      | rt d=>
        cases q'
        exact k.back ((Stp.same s1).trans st2)
      | ex c δ2=>
        cases q'
        exact k.back ((Stp.same s1).trans st2)
  · have en : n=ds.length:=by omega
    subst en
    rw [List.drop_length] at q'
    cases q'
    exact .inl ⟨it.stop _ H' kp (Nat.le_refl _),k σ' H' R' rs' ((Stp.same s1).trans s')⟩
end
noncomputable def z2F (np nl : Nat) (g : SS->Option Out) : List D->Option D:=fun ds=>if ds.length=np then (match g (ds.map (fun d=>some (.sh d)) ++ List.replicate nl none) with
  | some (.rt d)=>some d
  | some (.nx _)=>some .non
  | _=>none) else none
theorem z6e {np nl : Nat} {g : SS->Option Out} {ds : List D} {d : D} (h : z2F np nl g ds=some d) : ds.length=np:=by
  unfold z2F at h
  split at h
  · assumption
  · cases h
theorem y1o {K : PySem.W.Frag} {H : Hp} {B : Addr->Prop} {ds : List D} {vs : List V} {N : List Str} {nl : Nat} (hB : InB B H) (r : Reps K H B ds vs) (hN : N.length=ds.length + nl) :
    RS K H B H (z4x N vs) (ds.map (fun d=>some (.sh d)) ++ List.replicate nl none) (fun _=>[]):=by
  have hl:=r.length
  have get : ∀ {i : Nat} {x : SD},(ds.map (fun d=>some (SD.sh d)) ++ List.replicate nl none)[i]? = some (some x)->∃ d,ds[i]? = some d∧x = .sh d:=fun {i x} e=>by
    by_cases hi : i < ds.length
    · rw [List.getElem?_append_left (by simpa using hi),List.getElem?_map,List.getElem?_eq_getElem hi] at e
      cases e
      exact ⟨ds[i],List.getElem?_eq_getElem hi,rfl⟩
    · rw [List.getElem?_append_right (by simpa using hi),List.getElem?_replicate] at e
      split at e <;> cases e
  refine ⟨.refl H,hB,?_,(fun _ _ z=>nomatch z),(fun _ _ z=>nomatch z),(fun _ _ _ z=>nomatch z),fun i d e=>?_,fun i r d e=>?_,fun i d e=>?_⟩
  · unfold z4x
    simp
    omega
  · obtain ⟨d',e1,e2⟩:=get e
    cases e2
    obtain ⟨v,e3,rv⟩:=r.get e1
    refine ⟨v,?_,rv.anti fun a z=>z.elim id (fun ⟨_,z⟩=>nomatch z)⟩
    unfold z4x
    have hi : i < vs.length:=(List.getElem?_eq_some_iff.mp e3).1
    rw [List.getElem?_append_left (by simpa using hi),List.getElem?_map,e3]
    rfl
  · obtain ⟨d',_,e2⟩:=get e
    cases e2
  · obtain ⟨d',_,e2⟩:=get e
    cases e2
section
variable {P : Program} {w : World} {K : PySem.W.Frag} {mg : Str->Option Value} {base : Heap}
theorem fnN {x qual : Str} {st : Stmt} {f : Addr} {fd : FuncData} {N ps : List Str} {k np nl : Nat} {g : SS->Option Out} (F : Fun K x qual st f fd) (S : FnScope N ps (z0b st)) (hnp : ps.length=np) (hN : N.length=np + nl)
    (hbody : ∀ (cdv : Value) (A : Around) (outer : List Env) (s : Shared) (H : Hp) (E : XK),Room k (A.deeper (envOfC qual (z0b st) s.heap.objs.size f cdv)) →
      PSs (y3O CX0 P w K mg base N qual (z0b st) f cdv A outer s H E).nox (z0n st) (tS K H noB true noX g)) : FnOk P w K mg base CX0 (k + 1) f fd ps (spN K (z2F np nl g)):=by
  refine F.ok S (fun vs H Q E h=>?_) fun cdv A outer s H vs Q E hr h=>?_
  · obtain ⟨ds,d,r,e,_⟩:=h
    rw [← r.length,z6e e,hnp]
  · obtain ⟨ds,d,r,e,kk⟩:=h
    refine ⟨_,hbody cdv A outer s H E hr,?_⟩
    have hl:=z6e e
    unfold z2F at e
    rw [if_pos hl] at e
    have rs:=y1o (nl:=nl) .no r (N:=N) (by omega)
    split at e
    · rename_i d' eg
      cases e
      exact ⟨_,_,_,rs,eg,fun v H' z _=>by
        obtain ⟨A',t,nd,fr⟩:=z.2.1 rfl
        exact kk v H' A' z.1 t nd fr⟩
    · rename_i δ' eg
      cases e
      exact ⟨_,_,_,rs,eg,fun σ' H' R' rs' _=>kk .non H' [] rs'.keep ⟨rfl,rfl⟩ List.nodup_nil (fun a z=>nomatch z)⟩
    · cases e
theorem z5V {x qual : Str} {st : Stmt} {f : Addr} {fd : FuncData} {N ps : List Str} {k np nl : Nat} {g : SS->Option Out} (F : Fun K x qual st f fd) (hm : mg x=some (.ref f)) (hb : Binds K fd ps []) (S : FnScope N ps (z0b st)) (hnp : ps.length=np) (hN : N.length=np + nl)
    (hbody : ∀ (cdv : Value) (A : Around) (outer : List Env) (s : Shared) (H : Hp) (E : XK),Room k (A.deeper (envOfC qual (z0b st) s.heap.objs.size f cdv)) →
      PSs (y3O CX0 P w K mg base N qual (z0b st) f cdv A outer s H E).nox (z0n st) (tS K H noB true noX g)) : DefOk P w K mg base (k + 1) x (spN K (z2F np nl g)):=
  ⟨f,fd,ps,hm,F.kp,hb,fnN F S hnp hN hbody⟩
theorem y5G {x qual : Str} {st : Stmt} {f : Addr} {fd : FuncData} {N ps : List Str} {k np nl : Nat} {g : SS->Option Out} (F : Fun K x qual st f fd) (hm : mg x=some (.ref f)) (hb : Binds K fd ps []) (S : FnScope N ps (z0b st)) (hnp : ps.length=np) (hN : N.length=np + nl)
    (hbody : ∀ (cdv : Value) (A : Around) (outer : List Env) (s : Shared) (H : Hp) (E : XK) (B : Addr->Prop),Room k (A.deeper (envOfC qual (z0b st) s.heap.objs.size f cdv)) →
      PSs (y3O CX0 P w K mg base N qual (z0b st) f cdv A outer s H E).nox (z0n st) (tS K H B false noX g)) : DefOk P w K mg base (k + 1) x (spR K (z2F np nl g)):=by
  refine ⟨f,fd,ps,hm,F.kp,hb,F.ok S (fun vs H Q E h=>?_) fun cdv A outer s H vs Q E hr h=>?_⟩
  · obtain ⟨B,ds,d,_,r,e,_⟩:=h
    rw [← r.length,z6e e,hnp]
  · obtain ⟨B,ds,d,hB,r,e,kk⟩:=h
    refine ⟨_,hbody cdv A outer s H E B hr,?_⟩
    have hl:=z6e e
    unfold z2F at e
    rw [if_pos hl] at e
    have rs:=y1o (nl:=nl) hB r (N:=N) (by omega)
    split at e
    · rename_i d' eg
      cases e
      exact ⟨_,_,_,rs,eg,fun v H' z _=>kk v H' z.1 (z.2.2 rfl)⟩
    · rename_i δ' eg
      cases e
      exact ⟨_,_,_,rs,eg,fun σ' H' R' rs' _=>kk .non H' rs'.keep rfl⟩
    · cases e
end
end L2
namespace L2
open PySem PySem.Spec PyProof.Rows PySem.SeqAt
mutual
def toP : D->PyData
  | .non=>.none
  | .bl b=>.bool b
  | .int i=>.int i
  | .str x=>.str x
  | .lst ds=>.list (z4v ds)
  | .tup ds=>.tuple (z4v ds)
  | .scr ns=>.list (ns.map .int)
  | .dct _ _=>.dict []
  | .exc _=>.dict []
def z4v : List D->List PyData
  | []=>[]
  | d :: ds=>toP d :: z4v ds
end
theorem z7C {h : Heap} : ∀ (ns : List Int) {us : List Value},Vals (ns.map V.int) us->∃ as,ReadsAll h us (ns.map .int) as
  | [],_,.nil=>⟨_,.nil⟩
  | n :: ns,_,.cons r t=>by
    obtain ⟨tk,rfl⟩:=r
    obtain ⟨as,ra⟩:=z7C (h:=h) ns t
    exact ⟨_,.cons (.int n tk) ra⟩
section
variable {X : Cx} {pins : List (Addr × Obj)} {σ : St} {H : Hp} {s : Shared} {B : Addr->Prop}
mutual
theorem z0U (I : Inv X pins σ H s) : ∀ (d : D) {v : V} {u : Value},(toP d).canLay0=true->Rep X.K H B d v->RelV v u->∃ as,Reads s.heap u (toP d) as
  | .non,_,_,_,h,r=>by cases h; cases r; exact ⟨_,.none⟩
  | .bl b,_,_,_,h,r=>by cases h; cases r; exact ⟨_,.bool b⟩
  | .int i,_,_,_,h,r=>by cases h; obtain ⟨t,rfl⟩:=r; exact ⟨_,.int i t⟩
  | .str x,_,_,_,h,r=>by cases h; obtain ⟨t,rfl⟩:=r; exact ⟨_,.str x t⟩
  | .lst ds,_,_,hc,h,r=>by
    unfold Rep at h
    obtain ⟨a,xs,rfl,_,hq,rs⟩:=h
    cases r
    obtain ⟨its,rv,⟨o,n,e,c,_,dt⟩,_⟩:=I.list (SqL.of hq)
    have hc' : PyData.canLayAll0 (z4v ds)=true:=by unfold toP PyData.canLay0 at hc; exact hc
    obtain ⟨as,ra⟩:=z5D I ds hc' rs rv
    unfold toP
    exact ⟨_,.list e c dt (by simpa using ra)⟩
  | .tup ds,_,_,hc,h,r=>by
    unfold Rep at h
    obtain ⟨a,xs,rfl,hq,rs⟩:=h
    cases r
    obtain ⟨its,rv,⟨o,e,c,n,dt⟩,_⟩:=I.tuple hq
    have hc' : PyData.canLayAll0 (z4v ds)=true:=by unfold toP PyData.canLay0 at hc; exact hc
    obtain ⟨as,ra⟩:=z5D I ds hc' rs rv
    unfold toP
    exact ⟨_,.tuple e c dt (by simpa using ra)⟩
  | .scr ns,_,_,hc,h,r=>by
    unfold Rep at h
    obtain ⟨a,rfl,hq⟩:=h
    cases r
    obtain ⟨its,rv,⟨o,n,e,c,_,dt⟩,_⟩:=I.list hq.sq
    unfold toP
    obtain ⟨as,ra⟩:=z7C (h:=s.heap) ns rv
    exact ⟨_,.list e c dt (by simpa using ra)⟩
  | .dct _ _,_,_,hc,_,_=>by unfold toP PyData.canLay0 at hc; cases hc
  | .exc _,_,_,hc,_,_=>by unfold toP PyData.canLay0 at hc; cases hc
theorem z5D (I : Inv X pins σ H s) : ∀ (ds : List D) {xs : List V} {us : List Value},PyData.canLayAll0 (z4v ds)=true->Reps X.K H B ds xs->Vals xs us->∃ as,ReadsAll s.heap us (z4v ds) as
  | [],_,_,_,h,r=>by
    unfold Reps at h
    subst h
    cases r
    exact ⟨_,.nil⟩
  | d :: ds,_,_,hc,h,r=>by
    unfold Reps at h
    obtain ⟨x,rr,rfl,h1,h2⟩:=h
    unfold z4v PyData.canLayAll0 at hc
    rw [Bool.and_eq_true] at hc
    cases r with
    | cons r1 r2=>
      obtain ⟨as,ra⟩:=z0U I d hc.1 h1 r1
      obtain ⟨bs,rb⟩:=z5D I ds hc.2 h2 r2
      unfold z4v
      exact ⟨_,.cons ra rb⟩
end
end
noncomputable def okP (d : D) : Bool:=(toP d).canLay0 && decide ((toP d).depth≤60)
noncomputable def eqD (x y : D) : Option D:=if (okP x && okP y)=true then some (.bl (PyData.eqv (toP x) (toP y))) else none
noncomputable def neD (x y : D) : Option D:=if (okP x && okP y)=true then some (.bl (!PyData.eqv (toP x) (toP y))) else none
noncomputable def y6r (x : D) : D->Option Bool
  | .lst ds=>if (okP x && okP (.lst ds))=true then some (ds.any fun y=>PyData.eqv (toP y) (toP x)) else none
  | .tup ds=>if (okP x && okP (.tup ds))=true then some (ds.any fun y=>PyData.eqv (toP y) (toP x)) else none
  | _=>none
noncomputable def inD (x y : D) : Option D:=(y6r x y).map .bl
noncomputable def y0Q (x y : D) : Option D:=(y6r x y).map fun b=>.bl (!b)
noncomputable def rEqD (K : PySem.W.Frag) : R2:=fun x y H Q=>∃ B dx dy,Rep K H B dx x∧Rep K H B dy y∧okP dx=true∧okP dy=true∧Q (.bl (PyData.eqv (toP dx) (toP dy))) H
noncomputable def rNeD (K : PySem.W.Frag) : R2:=fun x y H Q=>∃ B dx dy,Rep K H B dx x∧Rep K H B dy y∧okP dx=true∧okP dy=true∧Q (.bl (!PyData.eqv (toP dx) (toP dy))) H
theorem z0z {d : D} (h : okP d=true) : (toP d).canLay0=true∧(toP d).depth≤60:=by
  unfold okP at h
  rw [Bool.and_eq_true,decide_eq_true_eq] at h
  exact h
section
variable {X : Cx}
theorem y7o (hu : X.A.units + 64 < cLine) : OpR X (compareOp .Eq) (rEqD X.K):=by
  intro pins s σ H x y v u Q I rx ry h
  obtain ⟨B,dx,dy,r1,r2,o1,o2,q⟩:=h
  obtain ⟨as,ra⟩:=z0U I dx (z0z o1).1 r1 rx
  obtain ⟨bs,rb⟩:=z0U I dy (z0z o2).1 r2 ry
  exact compareEq_reads ra rb (z0z o1).1 (z0z o2).1 (by have:=(z0z o1).2; omega) ⟨.bl _,H,I,rfl,q⟩
theorem op_neD (hu : X.A.units + 64 < cLine) : OpR X (compareOp .NotEq) (rNeD X.K):=by
  intro pins s σ H x y v u Q I rx ry h
  obtain ⟨B,dx,dy,r1,r2,o1,o2,q⟩:=h
  obtain ⟨as,ra⟩:=z0U I dx (z0z o1).1 r1 rx
  obtain ⟨bs,rb⟩:=z0U I dy (z0z o2).1 r2 ry
  exact compareNe_reads ra rb (z0z o1).1 (z0z o2).1 (by have:=(z0z o1).2; omega) ⟨.bl _,H,I,rfl,q⟩
theorem o2_eq {K : PySem.W.Frag} : Op2 K (rEqD K) eqD:=by
  intro H B dx dy d x y Q hB hx hy q k
  unfold eqD at q
  split at q
  · rename_i h
    rw [Bool.and_eq_true] at h
    cases q
    exact ⟨B,dx,dy,hx,hy,h.1,h.2,k _ H (.refl H) rfl⟩
  · cases q
theorem o2_ne {K : PySem.W.Frag} : Op2 K (rNeD K) neD:=by
  intro H B dx dy d x y Q hB hx hy q k
  unfold neD at q
  split at q
  · rename_i h
    rw [Bool.and_eq_true] at h
    cases q
    exact ⟨B,dx,dy,hx,hy,h.1,h.2,k _ H (.refl H) rfl⟩
  · cases q
theorem z5p (p : PyData->Bool) : ∀ ds : List D,(z4v ds).any p=ds.any fun y=>p (toP y)
  | []=>rfl
  | d :: ds=>by unfold z4v; rw [List.any_cons,List.any_cons,z5p p ds]
noncomputable def rInD (K : PySem.W.Frag) (neg : Bool) : R2:=fun x y H Q=>∃ B dx dy b,Rep K H B dx x∧Rep K H B dy y∧y6r dx dy=some b∧Q (.bl (if neg then !b else b)) H
theorem op_inD (hu : X.A.units + 64 < cLine) : OpR X (compareOp .In) (rInD X.K false):=by
  intro pins s σ H x y v u Q I rx ry h
  obtain ⟨B,dx,dy,b,r1,r2,o,q⟩:=h
  unfold y6r at o
  split at o
  · split at o
    · rename_i ds h
      rw [Bool.and_eq_true] at h
      cases o
      obtain ⟨as,ra⟩:=z0U I dx (z0z h.1).1 r1 rx
      obtain ⟨bs,rb⟩:=z0U I _ (z0z h.2).1 r2 ry
      have hc:=(z0z h.2).1
      unfold toP at rb hc
      unfold PyData.canLay0 at hc
      refine in_list_reads rb ra hc (z0z h.1).1 (by have:=(z0z h.1).2; omega) ?_
      rw [z5p]
      exact ⟨.bl _,H,I,rfl,q⟩
    · cases o
  · split at o
    · rename_i ds h
      rw [Bool.and_eq_true] at h
      cases o
      obtain ⟨as,ra⟩:=z0U I dx (z0z h.1).1 r1 rx
      obtain ⟨bs,rb⟩:=z0U I _ (z0z h.2).1 r2 ry
      have hc:=(z0z h.2).1
      unfold toP at rb hc
      unfold PyData.canLay0 at hc
      refine in_tuple_reads rb ra hc (z0z h.1).1 (by have:=(z0z h.1).2; omega) ?_
      rw [z5p]
      exact ⟨.bl _,H,I,rfl,q⟩
    · cases o
  · cases o
theorem op_ninD (hu : X.A.units + 64 < cLine) : OpR X (compareOp .NotIn) (rInD X.K true):=by
  intro pins s σ H x y v u Q I rx ry h
  obtain ⟨B,dx,dy,b,r1,r2,o,q⟩:=h
  unfold y6r at o
  split at o
  · split at o
    · rename_i ds h
      rw [Bool.and_eq_true] at h
      cases o
      obtain ⟨as,ra⟩:=z0U I dx (z0z h.1).1 r1 rx
      obtain ⟨bs,rb⟩:=z0U I _ (z0z h.2).1 r2 ry
      have hc:=(z0z h.2).1
      unfold toP at rb hc
      unfold PyData.canLay0 at hc
      refine notIn_list_reads rb ra hc (z0z h.1).1 (by have:=(z0z h.1).2; omega) ?_
      rw [z5p]
      exact ⟨.bl _,H,I,rfl,q⟩
    · cases o
  · split at o
    · rename_i ds h
      rw [Bool.and_eq_true] at h
      cases o
      obtain ⟨as,ra⟩:=z0U I dx (z0z h.1).1 r1 rx
      obtain ⟨bs,rb⟩:=z0U I _ (z0z h.2).1 r2 ry
      have hc:=(z0z h.2).1
      unfold toP at rb hc
      unfold PyData.canLay0 at hc
      refine notIn_tuple_reads rb ra hc (z0z h.1).1 (by have:=(z0z h.1).2; omega) ?_
      rw [z5p]
      exact ⟨.bl _,H,I,rfl,q⟩
    · cases o
  · cases o
theorem o2_in {K : PySem.W.Frag} : Op2 K (rInD K false) inD:=by
  intro H B dx dy d x y Q hB hx hy q k
  unfold inD at q
  cases e : y6r dx dy with
  | none=>rw [e] at q; cases q
  | some b=>
    rw [e] at q
    cases q
    exact ⟨B,dx,dy,b,hx,hy,e,k _ H (.refl H) rfl⟩
theorem o2_nin {K : PySem.W.Frag} : Op2 K (rInD K true) y0Q:=by
  intro H B dx dy d x y Q hB hx hy q k
  unfold y0Q at q
  cases e : y6r dx dy with
  | none=>rw [e] at q; cases q
  | some b=>
    rw [e] at q
    cases q
    exact ⟨B,dx,dy,b,hx,hy,e,k _ H (.refl H) rfl⟩
noncomputable def OpA (K : PySem.W.Frag) (r : List V->Hp->VK->Prop) (F : List D->Option D) : Prop:=∀ (H : Hp) (B : Addr->Prop) (ds : List D) (d : D) (vs : List V) (Q : VK),InB B H->Reps K H B ds vs->F ds=some d->(∀ v H',Same H H'->Rep K H' B d v->Q v H')->r vs H Q
noncomputable def OpL (K : PySem.W.Frag) (r : List V->Hp->VK->Prop) (F : List D->Option (List D)) : Prop:=∀ (H : Hp) (B : Addr->Prop) (ds es : List D) (vs : List V) (Q : VK),InB B H->Reps K H B ds vs->F ds=some es →
  (∀ a xs H',Same H H'->H a=none->H' a=some (.lst xs)->Reps K H' B es xs->Q (.ref a) H')->r vs H Q
noncomputable def z1T (F : List D->Option (List D)) (fl : List DE) : DS->Option (List D):=fun δ=>(z0k fl δ).bind F
variable {x : Str} {bid T : String} {r : List V->Hp->VK->Prop} {e : Expr} {es : List Expr} {p pos : Pos} {fl : List DE}
theorem callA {F : List D->Option D} (ho : OpA X.K r F) (σ : St) (H : Hp) (Q : VK) (h : tD X.K (z0l F fl) σ H Q) : tCB r (tDs X.K (z0k fl)) σ H Q:=by
  obtain ⟨B,δ,d,hB,S,q,k⟩:=h
  obtain ⟨ds,e1,e2⟩:=z5P q
  exact ⟨B,δ,ds,hB,S,e1,fun vs H1 s1 r1=>ho H1 B ds d vs Q (hB.mono s1) r1 e2 fun v H' s' rv=>k v H' (s1.trans s') rv⟩
theorem callL {F : List D->Option (List D)} (ho : OpL X.K r F) (σ : St) (H : Hp) (Q : VK) (h : tF X.K (z1T F fl) σ H Q) : tCB r (tDs X.K (z0k fl)) σ H Q:=by
  obtain ⟨B,δ,d,hB,S,q,k⟩:=h
  unfold z1T at q
  cases e1 : z0k fl δ with
  | none=>rw [e1] at q; cases q
  | some ds=>
    rw [e1] at q
    exact ⟨B,δ,ds,hB,S,e1,fun vs H1 s1 r1=>ho H1 B ds d vs Q (hB.mono s1) r1 q fun a xs H' s' hn ha rv=>k a xs H' (s1.trans s') (s1.free hn) ha rv⟩
theorem z7G {F : List D->Option D} (hc : z5H X (.builtin bid) r) (hD : OpA X.K r F) (hg : Gl X x) (hm : X.mg x=none) (hv : bootBuiltins x=some (.builtin bid)) (ha : PAD X (e :: es) fl) (hn : x ≠ "__name__" := by decide) (hdb : (x == ("__debug__" : Str))=false:=by decide)
    (he : starEach (e :: es) X.env=(false,eval e X.env) :: starEach es X.env:=by rfl) (hpl : (backTo pos (starEach es X.env)).any (·.1)=false:=by rfl) : PD X (.Call (.Name x p) (e :: es) [] pos) (z0l F fl):=
  (z6i hc hg hm hv ha hn hdb he hpl).imp (callA hD)
theorem y6b {F : List D->Option D} (hc : z5H X (.type T) r) (hD : OpA X.K r F) (hg : Gl X x) (hm : X.mg x=none) (hv : bootBuiltins x=some (.type T)) (ha : PAD X (e :: es) fl) (hn : x ≠ "__name__" := by decide) (hdb : (x == ("__debug__" : Str))=false:=by decide)
    (he : starEach (e :: es) X.env=(false,eval e X.env) :: starEach es X.env:=by rfl) (hpl : (backTo pos (starEach es X.env)).any (·.1)=false:=by rfl) : PD X (.Call (.Name x p) (e :: es) [] pos) (z0l F fl):=
  (z8W hc hg hm hv ha hn hdb he hpl).imp (callA hD)
theorem y6P {F : List D->Option (List D)} (hc : z5H X (.type T) r) (hD : OpL X.K r F) (hg : Gl X x) (hm : X.mg x=none) (hv : bootBuiltins x=some (.type T)) (ha : PAD X (e :: es) fl) (hn : x ≠ "__name__" := by decide) (hdb : (x == ("__debug__" : Str))=false:=by decide)
    (he : starEach (e :: es) X.env=(false,eval e X.env) :: starEach es X.env:=by rfl) (hpl : (backTo pos (starEach es X.env)).any (·.1)=false:=by rfl) : PF X (.Call (.Name x p) (e :: es) [] pos) (z1T F fl):=
  (z8W hc hg hm hv ha hn hdb he hpl).imp (callL hD)
theorem z4K {K : PySem.W.Frag} {H : Hp} {B : Addr->Prop} {d : D} {vs : List V} (h : Reps K H B [d] vs) : ∃ v,vs=[v]∧Rep K H B d v:=by
  unfold Reps at h
  obtain ⟨x,r,rfl,h1,h2⟩:=h
  unfold Reps at h2
  subst h2
  exact ⟨x,rfl,h1⟩
theorem reps2 {K : PySem.W.Frag} {H : Hp} {B : Addr->Prop} {d e : D} {vs : List V} (h : Reps K H B [d,e] vs) : ∃ v u,vs=[v,u]∧Rep K H B d v∧Rep K H B e u:=by
  unfold Reps at h
  obtain ⟨x,r,rfl,h1,h2⟩:=h
  obtain ⟨u,rfl,h3⟩:=z4K h2
  exact ⟨x,u,rfl,h1,h3⟩
noncomputable def z3c : List D->Option D
  | [.lst ds]=>some (.int ds.length)
  | [.tup ds]=>some (.int ds.length)
  | [.scr ns]=>some (.int ns.length)
  | _=>none
theorem oa_len {K : PySem.W.Frag} : OpA K (fun xs H Q=>∃ x n,xs=[x]∧LenV K x H n∧Q (.int n) H) z3c:=by
  intro H B ds d vs Q hB hr q k
  unfold z3c at q
  split at q
  · cases q
    obtain ⟨v,rfl,r⟩:=z4K hr
    unfold Rep at r
    obtain ⟨a,xs,rfl,_,h,rs⟩:=r
    refine ⟨.ref a,xs.length,rfl,.inl ⟨xs,SqL.of h,rfl⟩,k _ H (.refl H) ?_⟩
    show V.int _=V.int _
    rw [rs.length]
  · cases q
    obtain ⟨v,rfl,r⟩:=z4K hr
    unfold Rep at r
    obtain ⟨a,xs,rfl,h,rs⟩:=r
    refine ⟨.ref a,xs.length,rfl,.inr ⟨xs,h,rfl⟩,k _ H (.refl H) ?_⟩
    show V.int _=V.int _
    rw [rs.length]
  · cases q
    obtain ⟨v,rfl,r⟩:=z4K hr
    unfold Rep at r
    obtain ⟨a,rfl,h⟩:=r
    exact ⟨.ref a,_,rfl,.inl ⟨_,h.sq,(List.length_map ..).symm⟩,k _ H (.refl H) rfl⟩
  · cases q
theorem z0J {f : DE} (hg : Gl X "len") (hm : X.mg "len" = none) (h : PD X e f) (he : starEach [e] X.env=[(false,eval e X.env)]:=by rfl) : PD X (.Call (.Name "len" p) [e] [] pos) (z0l z3c [f]):=
  z7G y6F oa_len hg hm PySem.boot_len (z0a h z0c he) (by decide) (by decide) he rfl
noncomputable def z5j : List D->Option (List Bool)
  | []=>some []
  | .bl b :: r=>(z5j r).map (b :: ·)
  | _=>none
noncomputable def z2y : List D->Option (List Int)
  | []=>some []
  | .int i :: r=>(z2y r).map (i :: ·)
  | _=>none
theorem z5K {K : PySem.W.Frag} {H : Hp} {B : Addr->Prop} : ∀ {ds : List D} {bs : List Bool} {xs : List V},z5j ds=some bs->Reps K H B ds xs->xs=bs.map V.bl
  | [],_,_,e,h=>by cases e; unfold Reps at h; exact h
  | .bl b :: r,bs,xs,e,h=>by
    unfold z5j at e
    cases q : z5j r with
    | none=>rw [q] at e; cases e
    | some cs=>
      rw [q] at e
      cases e
      unfold Reps at h
      obtain ⟨x,r',rfl,h1,h2⟩:=h
      rw [z5K q h2,show x=V.bl b from h1]
      rfl
  | .non :: _,_,_,e,_=>nomatch e
  | .int _ :: _,_,_,e,_=>nomatch e
  | .str _ :: _,_,_,e,_=>nomatch e
  | .lst _ :: _,_,_,e,_=>nomatch e
  | .tup _ :: _,_,_,e,_=>nomatch e
  | .dct _ _ :: _,_,_,e,_=>nomatch e
  | .exc _ :: _,_,_,e,_=>nomatch e
  | .scr _ :: _,_,_,e,_=>nomatch e
theorem z8N {K : PySem.W.Frag} {H : Hp} {B : Addr->Prop} : ∀ {ds : List D} {bs : List Int} {xs : List V},z2y ds=some bs->Reps K H B ds xs->xs=bs.map V.int
  | [],_,_,e,h=>by cases e; unfold Reps at h; exact h
  | .int b :: r,bs,xs,e,h=>by
    unfold z2y at e
    cases q : z2y r with
    | none=>rw [q] at e; cases e
    | some cs=>
      rw [q] at e
      cases e
      unfold Reps at h
      obtain ⟨x,r',rfl,h1,h2⟩:=h
      rw [z8N q h2,show x=V.int b from h1]
      rfl
  | .non :: _,_,_,e,_=>nomatch e
  | .bl _ :: _,_,_,e,_=>nomatch e
  | .str _ :: _,_,_,e,_=>nomatch e
  | .lst _ :: _,_,_,e,_=>nomatch e
  | .tup _ :: _,_,_,e,_=>nomatch e
  | .dct _ _ :: _,_,_,e,_=>nomatch e
  | .exc _ :: _,_,_,e,_=>nomatch e
  | .scr _ :: _,_,_,e,_=>nomatch e
theorem y1D : ∀ {bs : List Bool} {us : List Value},Vals (bs.map V.bl) us->PyProof.Rows.LSm.BoolsAre us bs
  | [],_,.nil=>.nil
  | b :: bs,_,.cons r t=>by
    cases r
    exact .cons b (y1D t)
theorem y4U (hc : X.calm=true) : z5H X (.builtin "all") (fun xs H Q=>∃ (p : Addr) (bs : List Bool),xs=[.ref p]∧SqL X.K H p (bs.map V.bl)∧Q (.bl (bs.all (fun b=>b))) H):=by
  intro pins s σ H xs us Q I r h
  obtain ⟨p,bs,rfl,hq,q⟩:=h
  obtain ⟨u,rfl,ru⟩:=z9g r
  cases ru
  obtain ⟨its,rv,pl,hz⟩:=I.list hq
  have hl:=pl.isList
  have hb:=y1D rv
  have hlt : p < s.heap.objs.size:=by obtain ⟨_,e,_⟩:=hl; exact Heap.lt_size e
  refine call_all_walk (wpAny_pyIter_list hl ?_)
  refine ⟨s.heap.objs.size,[s.heap.objs.size,p],[s.heap.objs.size],its.toArray.size,_,_,fun i=>(bs[i]?).getD true,rfl,Walks.list (A:=X.A.in1) (I.ok.hd hc) _ p (Nat.ne_of_lt hlt) its.toArray,
    ⟨⟨_,Heap.get?_push_size _ rfl,rfl,rfl⟩,hl.push _⟩,fun i v s' Q' E' hP hQ=>?_,fun h' tk hk=>?_⟩
  · obtain ⟨b,e,rfl⟩:=hb.get i v (by simpa using hP)
    simp only [e,Option.getD_some] at hQ
    exact wpAny_truthy_bool hQ
  · have e : ((List.range its.toArray.size).all fun i=>(bs[i]?).getD true)=bs.all (fun b=>b):=by
      rw [List.size_toArray,hb.length]; exact LSm.range_all bs
    rw [e]
    exact ⟨.bl _,H,I.kept (LSm.kept_iter hk),rfl,q⟩
noncomputable def allF : List D->Option D
  | [.lst ds]=>(z5j ds).map fun bs=>.bl (bs.all (fun b=>b))
  | _=>none
theorem oa_all {K : PySem.W.Frag} : OpA K (fun xs H Q=>∃ (p : Addr) (bs : List Bool),xs=[.ref p]∧SqL K H p (bs.map V.bl)∧Q (.bl (bs.all (fun b=>b))) H) allF:=by
  intro H B ds d vs Q hB hr q k
  unfold allF at q
  split at q
  · rename_i es
    cases e : z5j es with
    | none=>rw [e] at q; cases q
    | some bs=>
      rw [e] at q
      cases q
      obtain ⟨v,rfl,r⟩:=z4K hr
      unfold Rep at r
      obtain ⟨a,xs,rfl,_,h,rs⟩:=r
      rw [z5K e rs] at h
      exact ⟨a,bs,rfl,SqL.of h,k _ H (.refl H) rfl⟩
  · cases q
theorem y7G {f : DE} (hc : X.calm=true) (hg : Gl X "all") (hm : X.mg "all" = none) (h : PD X e f) (he : starEach [e] X.env=[(false,eval e X.env)]:=by rfl) : PD X (.Call (.Name "all" p) [e] [] pos) (z0l allF [f]):=
  z7G (y4U hc) oa_all hg hm PyProof.Rows.Boot.«all» (z0a h z0c he) (by decide) (by decide) he rfl
noncomputable def z7S : List D->Option (List D)
  | [.lst ds]=>some ds
  | [.tup ds]=>some ds
  | [.scr ns]=>some (ns.map .int)
  | _=>none
theorem ol_list {K : PySem.W.Frag} : OpL K (fun xs H Q=>∃ p ys,xs=[.ref p]∧(SqL K H p ys∨SqT K H p ys)∧∀ l,H l=none->Q (.ref l) (upd H l (.lst ys))) z7S:=by
  intro H B ds es vs Q hB hr q k
  unfold z7S at q
  split at q
  · cases q
    obtain ⟨v,rfl,r⟩:=z4K hr
    unfold Rep at r
    obtain ⟨a,xs,rfl,_,h,rs⟩:=r
    exact ⟨a,xs,rfl,.inl (SqL.of h),fun l hl=>k l xs _ (z0w hl) hl z0s (rs.mono (z0w hl))⟩
  · cases q
    obtain ⟨v,rfl,r⟩:=z4K hr
    unfold Rep at r
    obtain ⟨a,xs,rfl,h,rs⟩:=r
    exact ⟨a,xs,rfl,.inr h,fun l hl=>k l xs _ (z0w hl) hl z0s (rs.mono (z0w hl))⟩
  · cases q
    obtain ⟨v,rfl,r⟩:=z4K hr
    unfold Rep at r
    obtain ⟨a,rfl,h⟩:=r
    exact ⟨a,_,rfl,.inl h.sq,fun l hl=>k l _ _ (z0w hl) hl z0s (z2m _)⟩
  · cases q
theorem z9t {f : DE} (hg : Gl X "list") (hm : X.mg "list" = none) (h : PD X e f) (he : starEach [e] X.env=[(false,eval e X.env)]:=by rfl) : PF X (.Call (.Name "list" p) [e] [] pos) (z1T z7S [f]):=
  y6P z9c ol_list hg hm PyProof.Rows.Boot.«list» (z0a h z0c he) (by decide) (by decide) he rfl
noncomputable def tupF : List D->Option D
  | [.lst ds]=>some (.tup ds)
  | [.tup ds]=>some (.tup ds)
  | _=>none
end
end L2
namespace L2
open PySem PySem.Spec PyProof.Rows
noncomputable def tyN : D->String
  | .non => "NoneType"
  | .bl _ => "bool"
  | .int _ => "int"
  | .str _ => "str"
  | .lst _ => "list"
  | .tup _ => "tuple"
  | .scr _ => "list"
  | .dct _ _ => "dict"
  | .exc _ => "object"
inductive IsT : String->Prop where
  | bool : IsT "bool" | int : IsT "int" | str : IsT "str" | list : IsT "list" | tuple : IsT "tuple" | dict : IsT "dict"
noncomputable def isF (T : String) (d : D) : Bool:=tyN d == T || (tyN d == "bool" && T == "int")
theorem kit_tt (K : PySem.W.Frag) {T : String} (h : IsT T) (d : D) (hd : ∀ x,d≠.exc x) : PySem.W.kitOne K (.type (tyN d)) (.type T)=some (isF T d):=by
  cases h <;> cases d <;> first | kernel_rfl | exact absurd rfl (hd _)
section
variable {prog : Program} {w : World} {A : Around} {E : Value->Shared->Prop} {K : PySem.W.Frag} {x D : Addr} {ox : Obj} {s : Shared}
theorem y4n {Q : Option Value->Shared->Prop} (X : K.In s.heap) (I : PySem.W.InstAt s.heap x ox D none) (hga : PySem.W.findIn K (.ref D) "__getattribute__" = some (some (.builtin "BaseException.__getattribute__"))) (hgh : PySem.W.findIn K (.ref D) "__getattr__" = some none)
    (hf : PySem.W.findObj K D none "__class__" = some (.bind (.builtin "getset_descriptor.__get__") (.builtin "object.__class__"))) (hm : PySem.W.mroIn K D (.type "object")=some true) (hb : PySem.W.mroIn K D (.type "BaseException")=some true)
    (h : Q (some (.ref D)) { s with toks:=s.toks + 1 }) : wpAny (model prog w) A (getAttr? (.ref x) "__class__") Q E s:=by
  obtain ⟨hp,gs,dr,tk,os⟩:=s
  have T0:=I.type (M:=model prog w)
  have T1:=PySem.W.looks_findIn (M:=model prog w) X hga
  have T2:=PySem.W.looks_findIn (M:=model prog w) X hgh
  have T3:=PySem.W.looks_find (M:=model prog w) X I hf
  have T4:=PySem.W.looks_mroIn (M:=model prog w) X hb
  have hne : (onTheHeap (Value.ref D) && Value.builtin "BaseException.__getattribute__" == Value.builtin "object.__getattribute__")=false:=by
    have z : (Value.builtin "BaseException.__getattribute__" == Value.builtin "object.__getattribute__")=false:=by decide +kernel
    rw [z,Bool.and_false]
  unfold getAttr? getAttrBy?
  refine wpAny_bind (wpAny_mkText ?_)
  refine wpAny_bind (wpAny_attempt ?_)
  unfold getAttrBy
  refine wpAny_holding (wpAny_bind (T0.at ?_))
  refine wpAny_bind (T1.at ?_)
  dsimp only
  rw [hne,if_neg Bool.false_ne_true]
  unfold getAttrByItsOwn hookBefore
  rw [if_pos (show onTheHeap (Value.ref D)=true from rfl)]
  refine wpAny_bind (T2.at ?_)
  refine wpAny_bind (wpAny_attempt (wpAny_holding ?_))
  unfold callGetattribute boundAndCalled
  rw [Bool.false_and,if_neg Bool.false_ne_true,F.excAttr_ValueError.ga.bind]
  refine wpAny_bind (wpAny_pure ?_)
  refine wpAny_call (codeAny_call_builtin F.excAttr_ValueError.ga.plain F.entry_bexc_ga ?_)
  have k1 : builtinKind "BaseException.__getattribute__" = some .slot:=by decide +kernel
  have k2 : splitId "BaseException.__getattribute__" = some ("BaseException", "__getattribute__"):=by decide +kernel
  simp only [checkBuiltinCall,k1,k2]
  have ha:=F.args_bexc_ga (.ref x) (.str "__class__" tk)
  have TI : PySem.W.Looks (model prog w) hp (isInstance (.ref x) (.type "BaseException")) true:=T0.andThen T4
  show wpAny _ _ (isInstance (.ref x) (.type "BaseException") >>= _) _ _ _
  refine wpAny_bind (TI.at ?_)
  rw [if_neg (by decide)]
  unfold argsOk at ha
  refine wpAny_of_eq (a:=()) ha ?_
  unfold Builtin.«object.__getattribute__»
  refine wpAny_bind (wpAny_of_eq (a:=(Value.ref x,[Value.str "__class__" tk])) rfl ?_)
  dsimp only
  refine wpAny_bind (wpAny_of_eq (a:=("__class__" : Str)) rfl ?_)
  refine wpAny_bind (T0.at ?_)
  refine wpAny_bind (T3.at ?_)
  show wpAny _ _ (holding [Value.builtin "object.__class__"] (call (.builtin "getset_descriptor.__get__") [.builtin "object.__class__",.ref x,.ref D]) >>= ret) _ _ _
  refine wpAny_bind (wpAny_holding (wpAny_call (PySem.W.class_get X I hm ?_)))
  refine wpAny_pure ?_
  exact PySem.W.handed_on rfl (wpAny_pure h)
end
theorem xcls_of {K : PySem.W.Frag} {C : Addr} (h : y2M K C=true) : PySem.W.findIn K (.ref C) "__getattribute__" = some (some (.builtin "BaseException.__getattribute__"))∧PySem.W.findIn K (.ref C) "__getattr__" = some none∧PySem.W.mroIn K C (.type "BaseException")=some true∧(PySem.W.clsIn K C).isSome=true ∧
    PySem.W.findIn K (.ref C) "__class__" = some (some (.builtin "object.__class__"))∧PySem.W.specialIn K (.builtin "object.__class__") "__get__" = some (some (.builtin "getset_descriptor.__get__"))∧PySem.W.takesIn K (.builtin "object.__class__")=some true∧PySem.W.mroIn K C (.type "object")=some true:=by
  unfold y2M at h
  simp only [Bool.and_eq_true,beq_iff_eq] at h
  exact ⟨h.1.1.1.1.1.1.1.1,h.1.1.1.1.1.1.1.2,h.1.1.1.1.1.1.2,h.1.1.1.1.1.2,h.1.1.1.1.2,h.1.1.1.2,h.1.1.2,h.1.2⟩
theorem y5N {K : PySem.W.Frag} {x C : Addr} {ox : Obj} (h : y2M K C=true) : PySem.W.KitX K (.ref x) (.ref C) (fun g=>PySem.W.InstAt g x ox C none):=by
  obtain ⟨g1,g2,g3,h2,h3,h4,h5,h6⟩:=xcls_of h
  obtain ⟨cd,hcd⟩:=Option.isSome_iff_exists.mp h2
  have hk : ∃ c d sl,K.lookup C=some ⟨c,d,.cls cd,sl⟩:=by
    unfold PySem.W.clsIn at hcd
    split at hcd
    · cases hcd; exact ⟨_,_,_,by assumption⟩
    · cases hcd
  obtain ⟨c0,d0,sl0,hk⟩:=hk
  have hf : PySem.W.findObj K C none "__class__" = some (.bind (.builtin "getset_descriptor.__get__") (.builtin "object.__class__")):=by
    unfold PySem.W.findObj
    rw [hcd,Option.bind_some,h3,Option.bind_some]
    simp [h4,h5]
  refine ⟨fun _ _ _ I=>I.type,fun _ _ X _=>?_,fun g tp dd its n sl X ht=>?_,fun X I k=>?_⟩
  · intro A' Q' E' s' kk q
    unfold isType loadHead
    exact wpAny_bind (wpAny_loadPart (kk _ _ (X _ _ hk)) (wpAny_pure q))
  · cases hz : (Value.ref C == Value.ref tp) with
    | false=>rfl
    | true=>
      have e : C=tp:=Value.ref.inj (beq_iff_eq.mp hz)
      rw [← e] at ht
      have z:=(X _ _ hk).symm.trans ht
      cases z
  · exact y4n X I g1 g2 hf h6 g3 k
theorem exc_at {X : Cx} {pins : List (Addr × Obj)} {σ : St} {H : Hp} {s : Shared} {a C : Addr} (I : Inv X pins σ H s) (h : H a=some (.ext (isX a C))) : ∃ o,PySem.W.InstAt s.heap a o C none:=by
  obtain ⟨⟨o,h1,h2,h3,h4⟩,_⟩:=(show ObjOk X.prog X.w H s.heap a (.ext (isX a C)) from I.hok a _ h)
  exact ⟨o,h1,h2,h4,by rw [h3]; trivial⟩
section
variable {X : Cx} {pins : List (Addr × Obj)} {σ : St} {H : Hp} {s : Shared} {B : Addr->Prop} {A : Around} {E : Value->Shared->Prop} {Q : Value->Shared->Prop}
theorem y1I {d : D} {v : V} {u : Value} {T : String} (I : Inv X pins σ H s) (r : Rep X.K H B d v) (rv : RelV v u) (hT : IsT T) (h : ∀ tk,Q (.bool (isF T d)) { s with toks:=tk }) : wpAny (model X.prog X.w) A (call (.builtin "isinstance") [u,.type T]) Q E s:=by
  by_cases hd : ∃ x,d = .exc x
  · obtain ⟨x,rfl⟩:=hd
    unfold Rep at r
    obtain ⟨a,C,rfl,_,hq,_,hx⟩:=r
    cases rv
    obtain ⟨o,ie⟩:=exc_at I hq
    have e : PySem.W.kitOne X.K (.ref C) (.type T)=some (isF T (.exc x)):=by
      have h6:=(Bool.and_eq_true_iff.mp hx).2
      rw [List.all_eq_true] at h6
      have h7:=beq_iff_eq.mp (h6 T (by cases hT <;> decide))
      rw [h7]
      cases hT <;> rfl
    exact PySem.W.kia_one (y5N hx) I.kIn ie e (fun z=>nomatch z) h
  have hd : ∀ x,d≠.exc x:=fun x z=>hd ⟨x,z⟩
  have e:=kit_tt X.K hT d hd
  cases d with
  | exc x=>exact absurd rfl (hd x)
  | non=>cases r; cases rv; exact PySem.W.kia_one PySem.W.kitx_none I.kIn True.intro e (fun z=>nomatch z) h
  | bl y=>cases r; cases rv; exact PySem.W.kia_one PySem.W.kitx_bool I.kIn True.intro e (fun z=>nomatch z) h
  | int i=>cases r; obtain ⟨t,q⟩:=rv; cases q; exact PySem.W.kia_one PySem.W.kitx_int I.kIn True.intro e (fun z=>nomatch z) h
  | str y=>cases r; obtain ⟨t,q⟩:=rv; cases q; exact PySem.W.kia_one PySem.W.kitx_str I.kIn True.intro e (fun z=>nomatch z) h
  | lst ds=>
    unfold Rep at r
    obtain ⟨a,xs,rfl,_,hq,_⟩:=r
    cases rv
    obtain ⟨its,_,⟨o,n,e1,c,_⟩,_⟩:=I.list (SqL.of hq)
    exact PySem.W.kia_one PySem.W.kitx_list I.kIn ⟨o,e1,c⟩ e (fun z=>nomatch z) h
  | tup ds=>
    unfold Rep at r
    obtain ⟨a,xs,rfl,hq,_⟩:=r
    cases rv
    obtain ⟨its,_,⟨o,e1,c,_⟩,_⟩:=I.tuple hq
    exact PySem.W.kia_one PySem.W.kitx_tuple I.kIn ⟨o,e1,c⟩ e (fun z=>nomatch z) h
  | scr ns=>
    unfold Rep at r
    obtain ⟨a,rfl,hq⟩:=r
    cases rv
    obtain ⟨its,_,⟨o,n,e1,c,_⟩,_⟩:=I.list hq.sq
    exact PySem.W.kia_one PySem.W.kitx_list I.kIn ⟨o,e1,c⟩ e (fun z=>nomatch z) h
  | dct ks ds=>
    unfold Rep at r
    obtain ⟨a,kvs,rfl,_,ea,_⟩:=r
    cases rv
    obtain ⟨_,_,vs,_,p⟩:=(show ObjOk X.prog X.w H s.heap a (.dK kvs) from I.hok a _ ea)
    obtain ⟨o,es,ep,h1,h2,_⟩:=p
    exact PySem.W.kia_one PySem.W.kitx_dict I.kIn ⟨o,h1,h2.1⟩ e (fun z=>nomatch z) h
end
section
variable {X : Cx} {e : Expr} {p p2 pos : Pos}
noncomputable def dIs (T : String) (f : DE) : DE:=fun δ=>(f δ).map fun d=>.bl (isF T d)
theorem y5Z {T : String} (hT : IsT T) : z5H X (.builtin "isinstance") (fun xs H Q=>∃ B d v,xs=[v,.ty T]∧Rep X.K H B d v∧Q (.bl (isF T d)) H):=by
  intro pins s σ H xs us Q I r h
  obtain ⟨B,d,v,rfl,rv,q⟩:=h
  obtain ⟨u,w',rfl,r1,r2⟩:=vals2 r
  cases r2
  exact y1I I rv r1 hT fun tk=>⟨.bl _,H,I.tok tk,rfl,q⟩
theorem pd_is {f : DE} {x : Str} {T : String} (hT : IsT T) (hb : bootBuiltins x=some (.type T)) (hx : Gl X x) (hmx : X.mg x=none) (hnx : x ≠ "__name__") (hdx : (x == ("__debug__" : Str))=false) (hg : Gl X "isinstance") (hm : X.mg "isinstance" = none) (h : PD X e f)
    (he : starEach [e,.Name x p2] X.env=[(false,eval e X.env),(false,eval (.Name x p2) X.env)]:=by rfl) (he2 : starEach [.Name x p2] X.env=[(false,eval (.Name x p2) X.env)]:=by rfl) : PD X (.Call (.Name "isinstance" p) [e,.Name x p2] [] pos) (dIs T f):=
  (z6i (y5Z hT) hg hm boot_isinstance (z1Y h (z1Y (pe_bltn (v:=.ty T) hx hmx hb rfl hnx hdx) pa_nil he2) (by rw [he,he2])) (by decide) (by decide) (by rw [he,he2]) (by rw [he2]; rfl)).imp fun σ H Q z_=>by
    obtain ⟨B,δ,d,hB,S,q,k⟩:=z_
    unfold dIs at q
    cases e1 : f δ with
    | none=>rw [e1] at q; cases q
    | some d'=>
      rw [e1] at q
      cases q
      exact ⟨B,δ,d',hB,S,e1,fun v H1 s1 r1=>⟨B,d',v,rfl,r1,k _ H1 s1 rfl⟩⟩
theorem y4R {f : DE} (hx : Gl X "bool") (hmx : X.mg "bool" = none) (hg : Gl X "isinstance") (hm : X.mg "isinstance" = none) (h : PD X e f) (he : starEach [e,.Name "bool" p2] X.env=[(false,eval e X.env),(false,eval (.Name "bool" p2) X.env)]:=by rfl) :
    PD X (.Call (.Name "isinstance" p) [e,.Name "bool" p2] [] pos) (dIs "bool" f):=pd_is .bool PyProof.Rows.Boot.«bool» hx hmx (by decide) (by decide) hg hm h he rfl
theorem y6y {f : DE} (hx : Gl X "int") (hmx : X.mg "int" = none) (hg : Gl X "isinstance") (hm : X.mg "isinstance" = none) (h : PD X e f) (he : starEach [e,.Name "int" p2] X.env=[(false,eval e X.env),(false,eval (.Name "int" p2) X.env)]:=by rfl) :
    PD X (.Call (.Name "isinstance" p) [e,.Name "int" p2] [] pos) (dIs "int" f):=pd_is .int PyProof.Rows.Boot.«int» hx hmx (by decide) (by decide) hg hm h he rfl
theorem y4K {f : DE} (hx : Gl X "list") (hmx : X.mg "list" = none) (hg : Gl X "isinstance") (hm : X.mg "isinstance" = none) (h : PD X e f) (he : starEach [e,.Name "list" p2] X.env=[(false,eval e X.env),(false,eval (.Name "list" p2) X.env)]:=by rfl) :
    PD X (.Call (.Name "isinstance" p) [e,.Name "list" p2] [] pos) (dIs "list" f):=pd_is .list PyProof.Rows.Boot.«list» hx hmx (by decide) (by decide) hg hm h he rfl
end
noncomputable def y0i (i : Nat) : Option SD->Option SD
  | some (.bo r d)=>if r=i then none else some (.bo r d)
  | o=>o
noncomputable def z0B (i : Nat) (δ : SS) : SS:=δ.map (y0i i)
theorem z4q {i j : Nat} {δ : SS} {x : SD} (h : (z0B i δ)[j]? = some (some x)) : δ[j]? = some (some x)∧∀ d,x≠.bo i d:=by
  unfold z0B at h
  rw [List.getElem?_map] at h
  cases e : δ[j]? with
  | none=>rw [e] at h; cases h
  | some o=>
    rw [e] at h
    have h' : y0i i o=some x:=Option.some.inj h
    unfold y0i at h'
    split at h'
    · rename_i r d
      split at h'
      · cases h'
      · rename_i hr
        cases h'
        exact ⟨rfl,fun d' z=>by cases z; exact hr rfl⟩
    · rename_i hn
      subst h'
      exact ⟨rfl,fun d z=>hn i d (by rw [z])⟩
section
variable {K : PySem.W.Frag} {H0 H : Hp} {B0 : Addr->Prop} {σ : St} {δ : SS} {R : Nat->List Addr}
theorem RS.rewrite {Hold : Hp} {i : Nat} {d d' : D} {a : Addr} {o : HO} {v : V} {A' : List Addr} (h : RS K H0 B0 Hold σ δ R) (e : Same Hold H) (hi : δ[i]? = some (some (.ow d))) (hv : σ[i]? = some (some v)) (ha : a∈R i) (t : Tree K (upd H a o) d' v A') (nd : A'.Nodup) (sub : ∀ b∈A',b∈R i∨Hold b=none) :
    RS K H0 B0 (upd H a o) σ ((z0B i δ).set i (some (.ow d'))) (z8H R i A')∧Stp R Hold (z8H R i A') (upd H a o):=by
  have hm:=h.mono e
  obtain ⟨oa,ea,ma⟩:=hm.held i a ha
  have mH : Mut (H a):=by rw [ea]; exact ma
  have mem : ∀ r b,b∈z8H R i A' r->b∈R r∨(r=i∧Hold b=none):=fun r b z=>by
    by_cases hr : r=i
    · subst hr; rw [z0V] at z; exact (sub b z).imp id fun q=>⟨rfl,q⟩
    · rw [z1x hr] at z; exact .inl z
  have kt : KeepI K H (upd H a o):=(Keep.upd (K:=K) (B:=fun x=>x=a) rfl mH).i
  have nh : ∀ r b,b∈R r->Hold b=none->False:=fun r b z q=>by
    obtain ⟨u,q',_⟩:=h.held r b z
    rw [q] at q'; cases q'
  refine ⟨⟨fun b u q=>?_,h.inB,by simp [z0B,h.len],fun r b z=>?_,fun r b z=>?_,fun r s b z z'=>?_,fun j d2 z=>?_,fun j r2 d2 z=>?_,fun j d2 z=>?_⟩,⟨fun b u q n=>?_,fun r b z=>?_,fun b z=>?_⟩⟩
  · have ne : b≠a:=fun z=>by subst z; rw [h.new i b ha] at q; cases q
    rw [z0A ne]; exact hm.keep b u q
  · rcases mem r b z with z | ⟨_,z⟩
    · exact h.new r b z
    · exact h.keep.free z
  · by_cases hr : r=i
    · subst hr; rw [z0V] at z; exact t.held d' b z
    · rw [z1x hr] at z
      have ne : b≠a:=fun q=>hr (h.disj r i b z (q ▸ ha))
      rw [z0A ne]; exact hm.held r b z
  · rcases mem r b z with z | ⟨z1,z2⟩ <;> rcases mem s b z' with z' | ⟨z1',z2'⟩
    · exact h.disj r s b z z'
    · exact (nh r b z z2').elim
    · exact (nh s b z' z2).elim
    · rw [z1,z1']
  · rcases z2P z with ⟨rfl,q,_⟩ | ⟨hj,q⟩
    · cases q
    · obtain ⟨q1,_⟩:=z4q q
      obtain ⟨w,e1,r⟩:=h.sh j d2 q1
      have r2:=(Rep.wide (C:=fun b=>Hold b=none) (fun _ z=>z) d2 r).mono e
      refine ⟨w,e1,Rep.anti ?_ d2 (Rep.keep (.upd (.inl (.inr ⟨i,ha⟩)) mH) d2 r2)⟩
      rintro b (z | ⟨r,z⟩)
      · exact .inl (.inl z)
      · rcases mem r b z with z | ⟨_,z⟩
        · exact .inl (.inr ⟨r,z⟩)
        · exact .inr z
  · rcases z2P z with ⟨rfl,q,_⟩ | ⟨hj,q⟩
    · cases q
    · obtain ⟨q1,q2⟩:=z4q q
      have hr : i≠r2:=fun e=>q2 d2 (by rw [e])
      obtain ⟨w,e1,r⟩:=h.bo j r2 d2 q1
      have r3:=(Rep.wide (C:=fun b=>Hold b=none) (fun _ z=>z) d2 r).mono e
      refine ⟨w,e1,Rep.anti ?_ d2 (Rep.keep (.upd (.inl (.inr ⟨i,hr,ha⟩)) mH) d2 r3)⟩
      rintro b (z | ⟨s,hs,z⟩)
      · exact .inl (.inl z)
      · rcases mem s b z with z | ⟨_,z⟩
        · exact .inl (.inr ⟨s,hs,z⟩)
        · exact .inr z
  · rcases z2P z with ⟨rfl,q,_⟩ | ⟨hj,q⟩
    · cases q
      rw [z0V]
      exact ⟨v,hv,t,nd⟩
    · obtain ⟨q1,_⟩:=z4q q
      obtain ⟨w,e1,t',nd'⟩:=hm.ow j d2 q1
      rw [z1x hj]
      refine ⟨w,e1,Tree.keep kt d2 t' fun b hb u q=>?_,nd'⟩
      have ne : b≠a:=fun z=>by subst z; exact hj (h.disj j i b hb ha)
      rw [z0A ne]; exact q
  · have ne : b≠a:=fun z=>n i (z ▸ ha)
    rw [z0A ne]; exact e b u q
  · rcases mem r b z with z | ⟨_,z⟩
    · exact .inl ⟨r,z⟩
    · exact .inr z
  · by_cases hb : b=a
    · subst hb; rw [z0s] at z; cases z
    · rw [z0A hb] at z; exact e.free z
mutual
theorem Tree.flat : ∀ (d : D) {v : V} {A : List Addr},d.imm=true->Tree K H d v A->A=[]
  | .non,_,_,_,h=>h.2
  | .bl _,_,_,_,h=>h.2
  | .int _,_,_,_,h=>h.2
  | .str _,_,_,_,h=>h.2
  | .lst _,_,_,i,_=>by unfold D.imm at i; cases i
  | .dct _ _,_,_,i,_=>by unfold D.imm at i; cases i
  | .exc _,_,_,i,_=>by unfold D.imm at i; cases i
  | .tup ds,_,_,i,h=>by
    unfold D.imm at i
    unfold Tree at h
    obtain ⟨a,xs,_,_,r⟩:=h
    exact Trees.flat ds i r
  | .scr _,_,_,_,h=>h.2
theorem Trees.flat : ∀ (ds : List D) {xs : List V} {A : List Addr},z1l ds=true->Trees K H ds xs A->A=[]
  | [],_,_,_,h=>h.2
  | d :: ds,_,_,i,h=>by
    unfold z1l at i
    rw [Bool.and_eq_true] at i
    unfold Trees at h
    obtain ⟨x,r,C,C',rfl,h1,h2,rfl⟩:=h
    rw [Trees.flat ds i.2 h2,List.append_nil]
    exact Tree.flat d i.1 h1
end
theorem Trees.append : ∀ {ds es : List D} {xs ys : List V} {A C : List Addr},Trees K H ds xs A->Trees K H es ys C->Trees K H (ds ++ es) (xs ++ ys) (A ++ C)
  | [],_,_,_,_,_,h,h'=>by obtain ⟨rfl,rfl⟩:=h; exact h'
  | d :: ds,es,_,ys,_,C,h,h'=>by
    unfold Trees at h
    obtain ⟨y,r,A1,A2,rfl,h1,h2,rfl⟩:=h
    exact (show Trees K H (d :: (ds ++ es)) (y :: (r ++ ys)) (A1 ++ A2 ++ C) by unfold Trees; exact ⟨y,_,A1,A2 ++ C,rfl,h1,Trees.append h2 h',List.append_assoc _ _ _⟩)
theorem Trees.split : ∀ {ds : List D} {xs : List V} {A : List Addr} (k : Nat),Trees K H ds xs A->∃ A1 A2,A=A1 ++ A2∧Trees K H (ds.take k) (xs.take k) A1∧Trees K H (ds.drop k) (xs.drop k) A2
  | ds,xs,A,0,h=>⟨[],A,rfl,by rw [List.take_zero,List.take_zero]; exact ⟨rfl,rfl⟩,h⟩
  | [],_,_,k + 1,h=>by
    obtain ⟨rfl,rfl⟩:=h
    exact ⟨[],[],rfl,⟨rfl,rfl⟩,⟨rfl,rfl⟩⟩
  | d :: ds,_,_,k + 1,h=>by
    unfold Trees at h
    obtain ⟨y,r,A1,A2,rfl,h1,h2,rfl⟩:=h
    obtain ⟨C1,C2,rfl,h3,h4⟩:=Trees.split k h2
    refine ⟨A1 ++ C1,C2,(List.append_assoc _ _ _).symm,?_,h4⟩
    rw [List.take_succ_cons,List.take_succ_cons]
    unfold Trees
    exact ⟨y,_,A1,C1,rfl,h1,h3,rfl⟩
theorem Trees.length : ∀ {ds : List D} {xs : List V} {A : List Addr},Trees K H ds xs A->ds.length=xs.length
  | [],_,_,h=>by obtain ⟨rfl,_⟩:=h; rfl
  | d :: ds,_,_,h=>by
    unfold Trees at h
    obtain ⟨x,r,_,_,rfl,_,h2,_⟩:=h
    simp [Trees.length h2]
theorem RS.top {i : Nat} {ds : List D} (h : RS K H0 B0 H σ δ R) (hi : δ[i]? = some (some (.ow (.lst ds)))) : ∃ a xs A,σ[i]? = some (some (.ref a))∧H a=some (.lst xs)∧Trees K H ds xs A∧R i=a :: A∧(a :: A).Nodup:=by
  obtain ⟨v,e,t,nd⟩:=h.ow i _ hi
  unfold Tree at t
  obtain ⟨a,xs,A,rfl,ha,ts,e2⟩:=t
  rw [e2] at nd
  exact ⟨a,xs,A,e,ha,ts,e2,nd⟩
theorem RS.put0 {Hold : Hp} {i : Nat} {ds ds' : List D} {a : Addr} {xs' : List V} {A A' : List Addr} (h : RS K H0 B0 Hold σ δ R) (e : Same Hold H) (hi : δ[i]? = some (some (.ow (.lst ds)))) (hv : σ[i]? = some (some (.ref a))) (hR : R i=a :: A) (nd : (a :: A).Nodup)
    (t : Trees K H ds' xs' A') (nd' : A'.Nodup) (sub : ∀ b∈A',b∈A∨Hold b=none) : RS K H0 B0 (upd H a (.lst xs')) σ ((z0B i δ).set i (some (.ow (.lst ds')))) (z8H R i (a :: A'))∧Stp R Hold (z8H R i (a :: A')) (upd H a (.lst xs')):=by
  have ha : a∈R i:=by rw [hR]; exact List.mem_cons_self
  obtain ⟨oa,ea,ma⟩:=h.held i a ha
  have nA : ∀ b∈A',b≠a:=fun b hb z=>by
    rcases sub b hb with q | q
    · exact (List.nodup_cons.mp nd).1 (z ▸ q)
    · rw [z,ea] at q; cases q
  have mH : Mut (H a):=by rw [e a oa ea]; exact ma
  refine h.rewrite e hi hv ha ?_ (List.nodup_cons.mpr ⟨fun z=>nA a z rfl,nd'⟩) fun b hb=>?_
  · unfold Tree
    refine ⟨a,xs',A',rfl,z0s,Trees.keep (Keep.upd (K:=K) (B:=fun x=>x=a) rfl mH).i ds' t fun b hb o q=>?_,rfl⟩
    rw [z0A (nA b hb)]; exact q
  · rw [hR]
    rcases List.mem_cons.mp hb with z | z
    · rw [z]; exact .inl List.mem_cons_self
    · exact (sub b z).imp (List.mem_cons_of_mem _) id
theorem Trees.set1 {es : List D} : ∀ {ds : List D} {xs : List V} {A : List Addr} (k : Nat),Trees K H ds xs A->A.Nodup->ds[k]? = some (.lst es)->z1l es=true →
    ∃ b ys,xs[k]? = some (.ref b)∧H b=some (.lst ys)∧b∈A∧Trees K H es ys []∧∀ es' ys',Trees K H es' ys' []->Trees K (upd H b (.lst ys')) (ds.set k (.lst es')) xs A
  | [],_,_,_,_,_,e,_=>by simp at e
  | d :: ds,_,_,0,h,nd,e,hi=>by
    simp at e
    subst e
    unfold Trees at h
    obtain ⟨x,r,A1,A2,rfl,h1,h2,rfl⟩:=h
    unfold Tree at h1
    obtain ⟨b,ys,C,rfl,hb,tb,rfl⟩:=h1
    have eC:=Trees.flat es hi tb
    subst eC
    have mH : Mut (H b):=by rw [hb]; exact trivial
    have kt : ∀ o,KeepI K H (upd H b o):=fun o=>(Keep.upd (K:=K) (B:=fun x=>x=b) (o:=o) rfl mH).i
    refine ⟨b,ys,rfl,hb,by simp,tb,fun es' ys' t'=>?_⟩
    rw [List.set_cons_zero]
    unfold Trees
    refine ⟨.ref b,r,[b],A2,rfl,?_,Trees.keep (kt _) ds h2 fun c hc o q=>?_,rfl⟩
    · unfold Tree
      exact ⟨b,ys',[],rfl,z0s,Trees.keep (kt _) es' t' (fun c hc=>nomatch hc),rfl⟩
    · have ne : c≠b:=fun z=>(List.nodup_cons.mp nd).1 (by rw [← z]; exact hc)
      rw [z0A ne]; exact q
  | d :: ds,_,_,k + 1,h,nd,e,hi=>by
    unfold Trees at h
    obtain ⟨x,r,A1,A2,rfl,h1,h2,rfl⟩:=h
    have ndA:=List.nodup_append.mp nd
    obtain ⟨b,ys,e1,hb,hbA,tb,up⟩:=Trees.set1 k h2 ndA.2.1 (by simpa using e) hi
    refine ⟨b,ys,by simpa using e1,hb,List.mem_append_right _ hbA,tb,fun es' ys' t'=>?_⟩
    have mH : Mut (H b):=by rw [hb]; exact trivial
    have kt : KeepI K H (upd H b (.lst ys')):=(Keep.upd (K:=K) (B:=fun x=>x=b) rfl mH).i
    rw [List.set_cons_succ]
    unfold Trees
    refine ⟨x,r,A1,A2,rfl,Tree.keep kt d h1 fun c hc o q=>?_,up es' ys' t',rfl⟩
    have ne : c≠b:=fun z=>ndA.2.2 c hc b hbA z
    rw [z0A ne]; exact q
theorem RS.put1 {Hold : Hp} {i k : Nat} {ds es : List D} (h : RS K H0 B0 Hold σ δ R) (e : Same Hold H) (hi : δ[i]? = some (some (.ow (.lst ds)))) (hk : ds[k]? = some (.lst es)) (hm : z1l es=true) :
    ∃ a xs b ys,σ[i]? = some (some (.ref a))∧Hold a=some (.lst xs)∧xs[k]? = some (.ref b)∧Hold b=some (.lst ys)∧ds.length=xs.length∧Trees K H es ys []∧∀ es' ys',Trees K H es' ys' [] →
      RS K H0 B0 (upd H b (.lst ys')) σ ((z0B i δ).set i (some (.ow (.lst (ds.set k (.lst es')))))) (z8H R i (R i))∧Stp R Hold (z8H R i (R i)) (upd H b (.lst ys')):=by
  obtain ⟨a,xs,A,ev,ha,ts,eR,nd⟩:=h.top hi
  obtain ⟨b,ys,e1,hb,hbA,tb,_⟩:=Trees.set1 k ts (List.nodup_cons.mp nd).2 hk hm
  obtain ⟨b',ys',e1',hb',_,tb',up⟩:=Trees.set1 k (ts.mono e) (List.nodup_cons.mp nd).2 hk hm
  rw [e1] at e1'
  cases e1'
  refine ⟨a,xs,b,ys,ev,ha,e1,hb,ts.length,tb.mono e,fun es' zs t'=>?_⟩
  have hba : b∈R i:=by rw [eR]; exact List.mem_cons_of_mem _ hbA
  have nba : a≠b:=fun z=>(List.nodup_cons.mp nd).1 (z ▸ hbA)
  refine h.rewrite e hi ev hba ?_ (by rw [eR]; exact nd) fun c hc=>.inl hc
  rw [eR]
  unfold Tree
  exact ⟨a,xs,A,rfl,by rw [z0A nba]; exact e _ _ ha,up es' zs t',rfl⟩
end
end L2
namespace L2
open PySem PySem.Spec PyProof.Rows
noncomputable instance {i j : Int} : Decidable (CDiv i j):=by unfold CDiv; infer_instance
noncomputable instance {i j : Int} : Decidable (CPow i j):=by unfold CPow; infer_instance
noncomputable instance {i j : Int} : Decidable (CMul i j):=by unfold CMul; infer_instance
noncomputable def LM (K : PySem.W.Frag) (r : V->List V->Hp->VK->Prop) (F : List D->List D->Option (List D)) : Prop:=
  ∀ (H : Hp) (a : Addr) (xs : List V) (ds args : List D) (vs : List V) (ds' : List D) (Q : VK),H a=some (.lst xs)->ds.length=xs.length->Reps K H noB args vs->F ds args=some ds' →
    (∀ (w : V) (xs' : List V),(∀ (H2 : Hp) (A C : List Addr),Trees K H2 ds xs A->Trees K H2 args vs C->∃ A',Trees K H2 ds' xs' A'∧((A ++ C).Nodup->A'.Nodup)∧∀ b∈A',b∈A∨b∈C)->Q w (upd H a (.lst xs')))->r (.ref a) vs H Q
noncomputable def z7y : List D->List D->Option (List D):=fun ds args=>match args with
  | [d]=>if ds.length < sizeLine then some (ds ++ [d]) else none
  | _=>none
theorem z2r {K : PySem.W.Frag} : LM K y3k z7y:=by
  intro H a xs ds args vs ds' Q ha hl hr q k
  unfold z7y at q
  split at q
  · rename_i d
    split at q
    · rename_i hz
      cases q
      obtain ⟨y,rfl,ry⟩:=z4K hr
      refine ⟨a,xs,y,rfl,rfl,ha,by rw [← hl]; exact hz,k _ _ fun H2 A C t tc=>⟨A ++ C,t.append tc,fun z=>z,fun b hb=>List.mem_append.mp hb⟩⟩
    · cases q
  · cases q
noncomputable def y2p (n : Nat) (i : Int) : Nat:=if i < 0 then (i + (n : Int)).toNat else min i.toNat n
noncomputable def y4H : V->List V->Hp->VK->Prop:=fun x vs H Q=>∃ l xs i y,x = .ref l∧vs=[.int i,y]∧H l=some (.lst xs)∧xs.length < sizeLine∧-(2 ^ 63)≤i∧i < 2 ^ 63∧Q .non (upd H l (.lst (xs.take (y2p xs.length i) ++ y :: xs.drop (y2p xs.length i))))
theorem ins_arr (its : List Value) (k : Nat) (y : Value) : (its.toArray.extract 0 k).push y ++ its.toArray.extract k=(its.take k ++ y :: its.drop k).toArray:=by
  apply Array.ext'
  simp
  rw [List.take_of_length_le (by simp)]
theorem y3e {X : Cx} : MtM X "list.insert" y4H:=by
  intro pins s σ H x vs v us Q I rx rv h
  obtain ⟨l,xs,i,y,rfl,rfl,hH,hz,h1,h2,q⟩:=h
  cases rx
  obtain ⟨u,w',rfl,⟨t,rfl⟩,ry⟩:=rv.two
  obtain ⟨z,its,n,r,hl,e⟩:=I.lstM hH
  have hfit : Builtin.List.listFitsIndex i=true:=fitsIndex_both h1 h2
  refine call_meets F.slot_list_insert ⟨_,e,rfl⟩ F.entry_list_insert (F.args_list_insert_3 _ _ _)
    (AutoSeq1.list_insert_list_int_val_1 l its.toArray n i t w' (by rw [hfit]; decide) (by rw [List.size_toArray]; omega)) ⟨e,?_⟩
  refine ⟨.non,_,I.lset (its':=its.take (y2p its.length i) ++ w' :: its.drop (y2p its.length i)) (ys:=xs.take (y2p xs.length i) ++ y :: xs.drop (y2p xs.length i)) hH e ?_ ?_ ?_,rfl,q⟩
  · show (its.toArray.extract 0 (if i < 0 then (i + (its.toArray.size : Int)).toNat else min i.toNat its.toArray.size)).push w' ++ its.toArray.extract (if i < 0 then (i + (its.toArray.size : Int)).toNat else min i.toNat its.toArray.size)=_
    rw [ins_arr,List.size_toArray]
    rfl
  · rw [← hl]
    exact (r.take _).append (.cons ry (r.drop _))
  · have : y2p xs.length i≤xs.length∨¬ y2p xs.length i≤xs.length:=Decidable.em _
    simp only [List.length_append,List.length_take,List.length_cons,List.length_drop]
    omega
noncomputable def insF : List D->List D->Option (List D):=fun ds args=>match args with
  | [.int i,d]=>if ds.length < sizeLine∧-(2 ^ 63)≤i∧i < 2 ^ 63 then some (ds.take (y2p ds.length i) ++ d :: ds.drop (y2p ds.length i)) else none
  | _=>none
theorem y3y {A1 A2 C : List Addr} (h : (A1 ++ A2 ++ C).Nodup) : (A1 ++ (C ++ A2)).Nodup:=by
  have p : (A1 ++ A2 ++ C).Perm (A1 ++ (C ++ A2)):=by
    rw [List.append_assoc]
    exact List.Perm.append_left _ List.perm_append_comm
  exact p.nodup_iff.mp h
theorem y3j {K : PySem.W.Frag} : LM K y4H insF:=by
  intro H a xs ds args vs ds' Q ha hl hr q k
  unfold insF at q
  split at q
  · rename_i i d
    split at q
    · rename_i hz
      cases q
      obtain ⟨v,y,rfl,rv,ry⟩:=reps2 hr
      cases (show v=V.int i from rv)
      refine ⟨a,xs,i,y,rfl,rfl,ha,by rw [← hl]; exact hz.1,hz.2.1,hz.2.2,k _ _ fun H2 A C t tc=>?_⟩
      rw [← hl]
      obtain ⟨A1,A2,rfl,t1,t2⟩:=t.split (y2p ds.length i)
      unfold Trees at tc
      obtain ⟨x1,r1,C1,C2,e1,h1,h2,rfl⟩:=tc
      cases e1
      obtain ⟨_,eC1⟩:=(show V.int i=V.int i∧C1=[] from h1)
      subst eC1
      unfold Trees at h2
      obtain ⟨x2,r2,C3,C4,e2,h3,h4,rfl⟩:=h2
      cases e2
      obtain ⟨_,rfl⟩:=h4
      refine ⟨A1 ++ (C3 ++ A2),t1.append ?_,fun z=>?_,fun b hb=>?_⟩
      · unfold Trees
        exact ⟨_,_,C3,A2,rfl,h3,t2,rfl⟩
      · simp only [List.nil_append,List.append_nil] at z
        exact y3y z
      · simp only [List.nil_append,List.append_nil,List.mem_append] at hb ⊢
        rcases hb with z | z | z
        · exact .inl (.inl z)
        · exact .inr z
        · exact .inl (.inr z)
    · cases q
  · cases q
section
variable {X : Cx} {H0 : Hp} {B0 : Addr->Prop} {fr : Bool} {RX : XR} {e e2 : Expr} {es : List Expr} {pos ap cp : Pos} {x name : Str} {px p2 : Pos} {bid : String} {r : V->List V->Hp->VK->Prop} {F : List D->List D->Option (List D)} {fl : List DE}
noncomputable def m0 (i : Nat) (F : List D->List D->Option (List D)) (fl : List DE) : SS->Option Out:=fun δ=>(z0k fl (z0r δ)).bind fun args=>if z1l args=true then (match δ[i]? with
  | some (some (.ow (.lst ds)))=>(F ds args).map fun ds'=>.nx ((z0B i δ).set i (some (.ow (.lst ds'))))
  | _=>none) else none
theorem m0_core {i : Nat} {to : TE} (hL : LM X.K r F) (hto : to=z9O i) (D : Ends) (σ : St) (H : Hp) (h : tS X.K H0 B0 fr RX (m0 i F fl) D σ H) : tDrop (tBM X.K "list" r to (tDs X.K (z0k fl))) D σ H:=by
  subst hto
  obtain ⟨δ,R,o,rs,q,k⟩:=h
  unfold m0 at q
  cases e1 : z0k fl (z0r δ) with
  | none=>rw [e1] at q; cases q
  | some args=>
    rw [e1] at q
    have q : (if z1l args=true then (match δ[i]? with | some (some (.ow (.lst ds)))=>(F ds args).map fun ds'=>Out.nx ((z0B i δ).set i (some (.ow (.lst ds')))) | _=>none) else none)=some o:=q
    split at q
    case isFalse=>cases q
    case isTrue hi=>
    split at q
    case h_2=>cases q
    case h_1 ds ei=>
    cases e2 : F ds args with
    | none=>rw [e2] at q; cases q
    | some ds'=>
      rw [e2] at q
      cases q
      obtain ⟨a,xs,A,ev,ha,ts,eR,nd⟩:=rs.top ei
      refine ⟨.ref a,ev,.inl ⟨rfl,xs,SqL.of ha⟩,noB,z0r δ,args,.no,rs.all,e1,fun vs H2 s2 r2=>?_⟩
      refine hL H2 a xs ds args vs ds' _ (s2 _ _ ha) ts.length r2 e2 fun w xs' up=>?_
      obtain ⟨A',t',n',sub⟩:=up H2 A [] (ts.mono s2) (r2.immTree args hi)
      have P:=rs.put0 s2 ei ev eR nd t' (n' (by rw [List.append_nil]; exact (List.nodup_cons.mp nd).2)) fun b hb=>(sub b hb).imp id (fun z=>nomatch z)
      exact k σ _ _ P.1 P.2
theorem y7z {i : Nat} (slot : Slot "list" name bid) (hty : typeOf (.builtin bid)=pure (.type "method_descriptor")) (hm : MtM X bid r) (hL : LM X.K r F) (hx : PE X (.Name x px) (z9O i)) (ha : PAD X (e :: es) fl)
    (hbase : attributeBase (.Name x px) name X.env (eval (.Name x px) X.env)=eval (.Name x px) X.env:=by rfl)
    (hfew : ((backTo cp (starEach (e :: es) X.env)).all (fun x=>!x.1) && (backToKw cp (keywordEach [] X.env)).all (fun x=>x.1.isSome) && decide ((e :: es).length + ([] : List Keyword).length + (if ([] : List Keyword).isEmpty then 0 else 1) < 30))=true:=by rfl)
    (hline : (ap.endLine == cp.line)=true:=by rfl) (hs : starEach (e :: es) X.env=(false,eval e X.env) :: starEach es X.env:=by rfl) (hplain : (backTo cp (starEach es X.env)).any (·.1)=false:=by rfl)
    (hsw : swapsWith (.Call (.Attribute (.Name x px) name ap) (e :: es) [] cp) none pos.line X.env=pure false:=by rfl) :
    PS X (.Expr (.Call (.Attribute (.Name x px) name ap) (e :: es) [] cp) pos) (tS X.K H0 B0 fr RX (m0 i F fl)):=
  PS.imp (z7Y (y2t PySem.F.plainAttrs_list slot hty hm hx ha hbase hfew hline hs hplain) hsw) (m0_core hL rfl)
noncomputable def m1 (i : Nat) (fk : DE) (F : List D->List D->Option (List D)) (fl : List DE) : SS->Option Out:=fun δ=>(fk (z0r δ)).bind fun dk=>match dk with
  | .int k=>(z0k fl (z0r δ)).bind fun args=>if z1l args=true then (match δ[i]? with
    | some (some (.ow (.lst ds)))=>(ixN ds.length k).bind fun j=>match ds[j]? with
      | some (.lst es)=>if z1l es=true then (F es args).bind fun es'=>if z1l es'=true then some (.nx ((z0B i δ).set i (some (.ow (.lst (ds.set j (.lst es'))))))) else none else none
      | _=>none
    | _=>none) else none
  | _=>none
theorem m1_core {i : Nat} {fk : DE} (hL : LM X.K r F) (D : Ends) (σ : St) (H : Hp) (h : tS X.K H0 B0 fr RX (m1 i fk F fl) D σ H) : tDrop (tBM X.K "list" r (tOp (rIxL X.K) (z9O i) (tD X.K fk)) (tDs X.K (z0k fl))) D σ H:=by
  obtain ⟨δ,R,o,rs,q,kk⟩:=h
  unfold m1 at q
  cases ek : fk (z0r δ) with
  | none=>rw [ek] at q; cases q
  | some dk=>
  rw [ek] at q
  cases dk with
  | int k=>
    cases e1 : z0k fl (z0r δ) with
    | none=>
      have q : ((z0k fl (z0r δ)).bind _)=some o:=q
      rw [e1] at q; cases q
    | some args=>
      have q : ((z0k fl (z0r δ)).bind _)=some o:=q
      rw [e1] at q
      have q : (if z1l args=true then (match δ[i]? with
        | some (some (.ow (.lst ds)))=>(ixN ds.length k).bind fun j=>match ds[j]? with
          | some (.lst es)=>if z1l es=true then (F es args).bind fun es'=>if z1l es'=true then some (Out.nx ((z0B i δ).set i (some (.ow (.lst (ds.set j (.lst es'))))))) else none else none
          | _=>none
        | _=>none) else none)=some o:=q
      split at q
      case isFalse=>cases q
      case isTrue hi=>
      split at q
      case h_2=>cases q
      case h_1 ds ei=>
      cases ej : ixN ds.length k with
      | none=>rw [ej] at q; cases q
      | some j=>
        rw [ej] at q
        have q : (match ds[j]? with | some (.lst es)=>if z1l es=true then (F es args).bind fun es'=>if z1l es'=true then some (Out.nx ((z0B i δ).set i (some (.ow (.lst (ds.set j (.lst es'))))))) else none else none | _=>none)=some o:=q
        split at q
        case h_2=>cases q
        case h_1 es ed=>
        split at q
        case isFalse=>cases q
        case isTrue hes=>
        cases eF : F es args with
        | none=>rw [eF] at q; cases q
        | some es'=>
          rw [eF] at q
          have q : (if z1l es'=true then some (Out.nx ((z0B i δ).set i (some (.ow (.lst (ds.set j (.lst es'))))))) else none)=some o:=q
          split at q
          case isFalse=>cases q
          case isTrue hes'=>
          cases q
          obtain ⟨a,xs,b,ys,ev,ha,hxb,hb,hln,_,_⟩:=rs.put1 (.refl H) ei ed hes
          refine ⟨.ref a,ev,noB,z0r δ,.int k,.no,rs.all,ek,fun v1 H1 s1 r1=>?_⟩
          cases (show v1=V.int k from r1)
          have hat : atI xs k=some (.ref b):=by
            unfold atI
            rw [← hln,ej]
            exact hxb
          refine ⟨a,xs,k,.ref b,rfl,rfl,SqL.of (s1 _ _ ha),hat,.inl ⟨rfl,ys,SqL.of (s1 _ _ hb)⟩,noB,z0r δ,args,.no,rs.all.mono s1,e1,fun vs H2 s2 r2=>?_⟩
          obtain ⟨a',xs',b',ys',ev',ha',hxb',hb',_,tb,up⟩:=rs.put1 (s1.trans s2) ei ed hes
          rw [ev] at ev'; cases ev'
          rw [ha] at ha'; cases ha'
          rw [hxb] at hxb'; cases hxb'
          rw [hb] at hb'; cases hb'
          refine hL H2 b ys es args vs es' _ (s2 _ _ (s1 _ _ hb)) tb.length r2 eF fun w zs up2=>?_
          obtain ⟨A',t',_,sub⟩:=up2 H2 [] [] tb (r2.immTree args hi)
          have eA : A'=[]:=Trees.flat es' hes' t'
          subst eA
          have P:=up es' zs t'
          exact kk σ _ _ P.1 P.2
  | _=>cases q
theorem s_m1 {i : Nat} {fk : DE} {ke : Expr} (slot : Slot "list" name bid) (hty : typeOf (.builtin bid)=pure (.type "method_descriptor")) (hm : MtM X bid r) (hL : LM X.K r F) (hx : PE X (.Name x px) (z9O i)) (hk : PD X ke fk) (ha : PAD X (e :: es) fl) (hpi : z6K ke:=by intro _ _; rfl)
    (hbase : attributeBase (.Subscript (.Name x px) ke p2) name X.env (eval (.Subscript (.Name x px) ke p2) X.env)=eval (.Subscript (.Name x px) ke p2) X.env:=by rfl)
    (hfew : ((backTo cp (starEach (e :: es) X.env)).all (fun x=>!x.1) && (backToKw cp (keywordEach [] X.env)).all (fun x=>x.1.isSome) && decide ((e :: es).length + ([] : List Keyword).length + (if ([] : List Keyword).isEmpty then 0 else 1) < 30))=true:=by rfl)
    (hline : (ap.endLine == cp.line)=true:=by rfl) (hs : starEach (e :: es) X.env=(false,eval e X.env) :: starEach es X.env:=by rfl) (hplain : (backTo cp (starEach es X.env)).any (·.1)=false:=by rfl)
    (hsw : swapsWith (.Call (.Attribute (.Subscript (.Name x px) ke p2) name ap) (e :: es) [] cp) none pos.line X.env=pure false:=by rfl) :
    PS X (.Expr (.Call (.Attribute (.Subscript (.Name x px) ke p2) name ap) (e :: es) [] cp) pos) (tS X.K H0 B0 fr RX (m1 i fk F fl)):=
  PS.imp (z7Y (y2t PySem.F.plainAttrs_list slot hty hm (y5L ix_list hx hk hpi) ha hbase hfew hline hs hplain) hsw) (m1_core hL)
noncomputable def st0 (i : Nat) (fk fv : DE) : SS->Option Out:=fun δ=>(fv (z0r δ)).bind fun d=>if d.imm=true then (fk (z0r δ)).bind fun dk=>(match dk,δ[i]? with
  | .int k,some (some (.ow (.lst ds)))=>(ixN ds.length k).map fun j=>.nx ((z0B i δ).set i (some (.ow (.lst (ds.set j d)))))
  | _,_=>none) else none
noncomputable def st1 (i : Nat) (fk fj fv : DE) : SS->Option Out:=fun δ=>(fv (z0r δ)).bind fun d=>if d.imm=true then (fk (z0r δ)).bind fun dk=>(fj (z0r δ)).bind fun dj=>(match dk,dj,δ[i]? with
  | .int k,.int j,some (some (.ow (.lst ds)))=>(ixN ds.length k).bind fun k'=>(match ds[k']? with
    | some (.lst es)=>if z1l es=true then (ixN es.length j).map fun j'=>.nx ((z0B i δ).set i (some (.ow (.lst (ds.set k' (.lst (es.set j' d))))))) else none
    | _=>none)
  | _,_,_=>none) else none
end
end L2
namespace L2
open PySem PySem.Spec PyProof.Rows
theorem Trees.setI {K : PySem.W.Frag} {H : Hp} {d : D} {y : V} (ty : Tree K H d y []) : ∀ {ds : List D} {xs : List V} {A : List Addr} (j : Nat),Trees K H ds xs A->∃ A',Trees K H (ds.set j d) (xs.set j y) A'∧A'.Sublist A
  | [],_,_,_,h=>by
    obtain ⟨rfl,rfl⟩:=h
    exact ⟨[],⟨rfl,rfl⟩,List.Sublist.refl _⟩
  | e :: ds,_,_,0,h=>by
    unfold Trees at h
    obtain ⟨x,r,A1,A2,rfl,h1,h2,rfl⟩:=h
    refine ⟨A2,?_,List.sublist_append_right _ _⟩
    rw [List.set_cons_zero,List.set_cons_zero]
    unfold Trees
    exact ⟨y,r,[],A2,rfl,ty,h2,rfl⟩
  | e :: ds,_,_,k + 1,h=>by
    unfold Trees at h
    obtain ⟨x,r,A1,A2,rfl,h1,h2,rfl⟩:=h
    obtain ⟨A',t,sb⟩:=Trees.setI ty k h2
    refine ⟨A1 ++ A',?_,List.Sublist.append_left sb _⟩
    rw [List.set_cons_succ,List.set_cons_succ]
    unfold Trees
    exact ⟨x,_,A1,A',rfl,h1,t,rfl⟩
section
variable {X : Cx} {H0 : Hp} {B0 : Addr->Prop} {fr : Bool} {RX : XR} {e ke je : Expr} {pos : Pos} {x : Str} {px p2 p3 : Pos}
theorem s_st0 {i : Nat} {fk fv : DE} (hx : PE X (.Name x px) (z9O i)) (hk : PD X ke fk) (hv : PD X e fv)
    (ha : ∀ v,assign (.Subscript (.Name x px) ke p2) X.env v=(do
      let ov ← holding [v] (eval (.Name x px) X.env)
      let iv ← holding [v,ov] (eval ke X.env)
      standAt p2
      holding [v,ov,iv] (setItem ov iv v)
      release [v,ov,iv] []):=by intro _; rfl)
    (hs : swapsWithSole [.Subscript (.Name x px) ke p2] e pos.line X.env=pure false:=by rfl) (hw : swappedStores [.Subscript (.Name x px) ke p2] e X.env=pure none:=by rfl)
    (h1 : (assignEach [.Subscript (.Name x px) ke p2] X.env).map (·.2)=[assign (.Subscript (.Name x px) ke p2) X.env]:=by rfl) :
    PS X (.Assign [.Subscript (.Name x px) ke p2] e pos) (tS X.K H0 B0 fr RX (st0 i fk fv)):=
  PS.imp (y4d hv (y2R hx hk z8u ha) hs hw h1) fun D σ H z_=>by
    obtain ⟨δ,R,o,rs,q,kk⟩:=z_
    unfold st0 at q
    cases e1 : fv (z0r δ) with
    | none=>rw [e1] at q; cases q
    | some d=>
    rw [e1] at q
    have q : (if d.imm=true then (fk (z0r δ)).bind fun dk=>(match dk,δ[i]? with
      | .int k,some (some (.ow (.lst ds)))=>(ixN ds.length k).map fun j=>Out.nx ((z0B i δ).set i (some (.ow (.lst (ds.set j d)))))
      | _,_=>none) else none)=some o:=q
    split at q
    case isFalse=>cases q
    case isTrue hi=>
    cases e2 : fk (z0r δ) with
    | none=>rw [e2] at q; cases q
    | some dk=>
    rw [e2] at q
    simp only [Option.bind_some] at q
    split at q
    case h_2=>cases q
    case h_1=>
    rename_i k ds ei
    cases ej : ixN ds.length k with
    | none=>rw [ej] at q; cases q
    | some j=>
    rw [ej] at q
    cases q
    obtain ⟨a,xs,A,ev,ha',ts,eR,nd⟩:=rs.top ei
    refine ⟨noB,z0r δ,d,.no,rs.all,e1,fun v H1 s1 r1=>⟨.ref a,ev,noB,z0r δ,.int k,.no,rs.all.mono s1,e2,fun v2 H2 s2 r2=>?_⟩⟩
    cases (show v2=V.int k from r2)
    refine ⟨a,xs,k,j,rfl,rfl,s2 _ _ (s1 _ _ ha'),by rw [← ts.length]; exact ej,?_⟩
    obtain ⟨A',t',sb⟩:=Trees.setI ((r1.immTree d hi).mono s2) j (ts.mono (s1.trans s2))
    have P:=rs.put0 (s1.trans s2) ei ev eR nd t' ((List.nodup_cons.mp nd).2.sublist sb) fun b hb=>.inl (sb.subset hb)
    exact kk σ _ _ P.1 P.2
theorem y6Z {i : Nat} {fk fj fv : DE} (hx : PE X (.Name x px) (z9O i)) (hk : PD X ke fk) (hj : PD X je fj) (hv : PD X e fv) (hpi : z6K ke:=by intro _ _; rfl)
    (ha : ∀ v,assign (.Subscript (.Subscript (.Name x px) ke p3) je p2) X.env v=(do
      let ov ← holding [v] (eval (.Subscript (.Name x px) ke p3) X.env)
      let iv ← holding [v,ov] (eval je X.env)
      standAt p2
      holding [v,ov,iv] (setItem ov iv v)
      release [v,ov,iv] []):=by intro _; rfl)
    (hs : swapsWithSole [.Subscript (.Subscript (.Name x px) ke p3) je p2] e pos.line X.env=pure false:=by rfl) (hw : swappedStores [.Subscript (.Subscript (.Name x px) ke p3) je p2] e X.env=pure none:=by rfl)
    (h1 : (assignEach [.Subscript (.Subscript (.Name x px) ke p3) je p2] X.env).map (·.2)=[assign (.Subscript (.Subscript (.Name x px) ke p3) je p2) X.env]:=by rfl) :
    PS X (.Assign [.Subscript (.Subscript (.Name x px) ke p3) je p2] e pos) (tS X.K H0 B0 fr RX (st1 i fk fj fv)):=
  PS.imp (y4d hv (y2R (y5L ix_list hx hk hpi) hj z8u ha) hs hw h1) fun D σ H z_=>by
    obtain ⟨δ,R,o,rs,q,kk⟩:=z_
    unfold st1 at q
    cases e1 : fv (z0r δ) with
    | none=>rw [e1] at q; cases q
    | some d=>
    rw [e1] at q
    have q : (if d.imm=true then (fk (z0r δ)).bind fun dk=>(fj (z0r δ)).bind fun dj=>(match dk,dj,δ[i]? with
      | .int k,.int j,some (some (.ow (.lst ds)))=>(ixN ds.length k).bind fun k'=>(match ds[k']? with
        | some (.lst es)=>if z1l es=true then (ixN es.length j).map fun j'=>Out.nx ((z0B i δ).set i (some (.ow (.lst (ds.set k' (.lst (es.set j' d))))))) else none
        | _=>none)
      | _,_,_=>none) else none)=some o:=q
    split at q
    case isFalse=>cases q
    case isTrue hi=>
    cases e2 : fk (z0r δ) with
    | none=>rw [e2] at q; cases q
    | some dk=>
    cases e3 : fj (z0r δ) with
    | none=>rw [e2,e3] at q; cases q
    | some dj=>
    rw [e2,e3] at q
    simp only [Option.bind_some] at q
    split at q
    case h_2=>cases q
    case h_1=>
    rename_i k j ds ei
    cases ek : ixN ds.length k with
    | none=>rw [ek] at q; cases q
    | some k'=>
    rw [ek] at q
    have q : (match ds[k']? with
        | some (.lst es)=>if z1l es=true then (ixN es.length j).map fun j'=>Out.nx ((z0B i δ).set i (some (.ow (.lst (ds.set k' (.lst (es.set j' d))))))) else none
        | _=>none)=some o:=q
    split at q
    case h_2=>cases q
    case h_1 es ed=>
    split at q
    case isFalse=>cases q
    case isTrue hes=>
    cases ej : ixN es.length j with
    | none=>rw [ej] at q; cases q
    | some j'=>
    rw [ej] at q
    cases q
    obtain ⟨a,xs,b,ys,ev,ha',hxb,hb,hln,_,_⟩:=rs.put1 (.refl H) ei ed hes
    have hat : atI xs k=some (.ref b):=by
      unfold atI
      rw [← hln,ek]
      exact hxb
    refine ⟨noB,z0r δ,d,.no,rs.all,e1,fun v H1 s1 r1=>⟨.ref a,ev,noB,z0r δ,.int k,.no,rs.all.mono s1,e2,fun v2 H2 s2 r2=>?_⟩⟩
    cases (show v2=V.int k from r2)
    refine ⟨a,xs,k,.ref b,rfl,rfl,SqL.of (s2 _ _ (s1 _ _ ha')),hat,noB,z0r δ,.int j,.no,(rs.all.mono s1).mono s2,e3,fun v3 H3 s3 r3=>?_⟩
    cases (show v3=V.int j from r3)
    obtain ⟨a',xs',b',ys',ev',ha'',hxb',hb',_,tb,up⟩:=rs.put1 ((s1.trans s2).trans s3) ei ed hes
    rw [ev] at ev'; cases ev'
    rw [ha'] at ha''; cases ha''
    rw [hxb] at hxb'; cases hxb'
    rw [hb] at hb'; cases hb'
    refine ⟨b,ys,j,j',rfl,rfl,s3 _ _ (s2 _ _ (s1 _ _ hb)),by rw [← tb.length]; exact ej,?_⟩
    obtain ⟨A',t',sb⟩:=Trees.setI (((r1.immTree d hi).mono s2).mono s3) j' tb
    have eA : A'=[]:=List.sublist_nil.mp sb
    subst eA
    have P:=up _ _ t'
    exact kk σ _ _ P.1 P.2
end
section
variable {X : Cx} {e a b : Expr} {lo hi : Option Expr} {p2 pos : Pos}
noncomputable def tO (K : PySem.W.Frag) (f : DS->Option (Option Int)) : TO:=fun σ H Q=>∃ B δ o,InB B H∧RepS K H B σ δ∧f δ=some o∧∀ H',Same H H'->Q o H'
noncomputable abbrev POD (X : Cx) (e : Option Expr) (f : DS->Option (Option Int)) : Prop:=PO X e (tO X.K f)
theorem PO.imp {eo : Option Expr} {t t' : TO} (h : PO X eo t) (w : ∀ σ H Q,t' σ H Q->t σ H Q) : PO X eo t':=fun pins s σ H Q I q=>h pins s σ H Q I (w σ H Q q)
noncomputable def z2O : DS->Option (Option Int):=fun _=>some none
noncomputable def z6b (f : DE) : DS->Option (Option Int):=fun δ=>match f δ with
  | some (.int i)=>some (some i)
  | _=>none
theorem z2B : POD X none z2O:=po_none.imp fun σ H Q z_=>by
  obtain ⟨B,δ,o,hB,S,q,k⟩:=z_
  cases q
  exact k H (.refl H)
theorem z2D {f : DE} (h : PD X e f) : POD X (some e) (z6b f):=(po_some h).imp fun σ H Q z_=>by
  obtain ⟨B,δ,o,hB,S,q,k⟩:=z_
  unfold z6b at q
  split at q
  · rename_i i e1
    cases q
    exact ⟨B,δ,.int i,hB,S,e1,fun v H' s r=>⟨i,r,k H' s⟩⟩
  · cases q
noncomputable def z8E (ds : List D) (lo hi : Option Int) : List D:=(ds.drop (HT.sIx ds.length 0 lo)).take (HT.sIx ds.length ds.length hi - HT.sIx ds.length 0 lo)
noncomputable def y2v (f : DE) (fl fh : DS->Option (Option Int)) : DS->Option (List D):=fun δ=>match f δ with
  | some (.lst ds)=>(fl δ).bind fun lo=>(fh δ).map fun hi=>z8E ds lo hi
  | some (.scr ns)=>(fl δ).bind fun lo=>(fh δ).map fun hi=>z8E (ns.map .int) lo hi
  | _=>none
theorem z2C {f : DE} {fl fh : DS->Option (Option Int)} (he : PD X e f) (hl : POD X lo fl) (hh : POD X hi fh) : PF X (.Subscript e (.Slice lo hi none p2) pos) (y2v f fl fh):=(y5T sl_list he hl hh).imp fun σ H Q z_=>by
  obtain ⟨B,δ,ds',hB,S,q,k⟩:=z_
  unfold y2v at q
  have core : ∀ (d : D) (ds : List D),f δ=some d->((fl δ).bind fun lo=>(fh δ).map fun hi=>z8E ds lo hi)=some ds'->(∀ v H1,Rep X.K H1 B d v->∃ a xs,v = .ref a∧(∀ H2,Same H1 H2->SqL X.K H2 a xs)∧Reps X.K H1 B ds xs) →
      tSl (rSlL X.K) (tD X.K f) (tO X.K fl) (tO X.K fh) σ H Q:=by
    intro d ds e1 q get
    cases e2 : fl δ with
    | none=>rw [e2] at q; cases q
    | some l=>
    cases e3 : fh δ with
    | none=>rw [e2,e3] at q; cases q
    | some u=>
    rw [e2,e3] at q
    cases q
    refine ⟨B,δ,_,hB,S,e1,fun v H1 s1 r1=>⟨B,δ,l,hB.mono s1,S.mono s1,e2,fun H2 s2=>⟨B,δ,u,(hB.mono s1).mono s2,(S.mono s1).mono s2,e3,fun H3 s3=>?_⟩⟩⟩
    obtain ⟨a,xs,rfl,hq,rs⟩:=get v H1 r1
    refine ⟨a,xs,rfl,hq H3 (s2.trans s3),fun p hp=>?_⟩
    have sa:=z0w (o:=.lst (cutV xs l u)) hp
    refine k p _ _ (((s1.trans s2).trans s3).trans sa) ((s1.trans (s2.trans s3)).free hp) z0s ?_
    unfold z8E cutV
    rw [rs.length]
    exact ((rs.drop _).take _).mono ((s2.trans s3).trans sa)
  split at q
  case h_3=>cases q
  case h_1 ds e1=>
    refine core _ ds e1 q fun v H1 r1=>?_
    unfold Rep at r1
    obtain ⟨a,xs,rfl,_,hq,rs⟩:=r1
    exact ⟨a,xs,rfl,fun H2 s2=>SqL.of (s2 _ _ hq),rs⟩
  case h_2 ns e1=>
    refine core _ (ns.map .int) e1 q fun v H1 r1=>?_
    unfold Rep at r1
    obtain ⟨a,rfl,hq⟩:=r1
    exact ⟨a,_,rfl,fun H2 s2=>(s2.sf hq).sq,z2m ns⟩
end
section
variable {X : Cx} {pos : Pos} {x : Str} {iter elt : Expr} {N' : List Str} {sc : Scope} {ifs : List Expr} {n : Nat} {px : Pos} {fi : DS->Option (List D)} {fc : DS->Option Bool} {fe : DE}
theorem y0U {σ : St} {H : Hp} {Q : VK} (hσ : σ.length=n) (hq : tN X.K (mkL (z1t fi fc fe)) σ H Q) : y3t (tI X.K fi) (z2N n) (tT X.K fc) (tN X.K fe) 1 σ H Q:=by
  obtain ⟨δ,d0,Sδ,q,k⟩:=hq
  unfold mkL at q
  cases eds : z1t fi fc fe δ with
  | none=>rw [eds] at q; cases q
  | some ds=>
  rw [eds] at q
  cases q
  unfold z1t at eds
  cases e1 : fi δ with
  | none=>rw [e1] at eds; cases eds
  | some xs=>
  rw [e1] at eds
  have q1 : (if xs.length≤sizeLine then z2u (fun x=>(fc (δ ++ [some x])).bind fun k=>if k=true then (fe (δ ++ [some x])).map some else some none) xs else none)=some ds:=eds
  split at q1
  case isFalse=>cases q1
  case isTrue hsz=>
  refine ⟨noB,δ,xs,.no,Sδ,e1,fun J H1 s1 itw=>fun Da hD=>?_⟩
  have hD0 : H Da=none:=s1.free hD
  have it:=itw (fun a=>H1 a=none) fun a ha=>ha
  obtain ⟨I,hI⟩ : ∃ I : Nat->Nat->St->Hp->Prop,I=fun i m σ' H'=>m=xs.length - i∧i≤xs.length∧(∃ w,σ'=σ ++ [w])∧Same H1 H'∧∃ ys dn rs A,H' Da=some (.lst ys)∧Trees X.K H' dn ys A∧(Da :: A).Nodup∧(∀ a∈A,H1 a=none)∧ds=dn ++ rs∧dn.length≤i ∧
      z2u (fun x=>(fc (δ ++ [some x])).bind fun k=>if k=true then (fe (δ ++ [some x])).map some else some none) (xs.drop i)=some rs:=⟨_,rfl⟩
  refine ⟨I,⟨xs.length,by rw [hI]; exact ⟨by simp,Nat.zero_le _,⟨none,rfl⟩,z0w hD,[],[],ds,[],z0s,.nil,List.nodup_cons.mpr ⟨(fun z=>nomatch z),List.nodup_nil⟩,(fun a z=>nomatch z),rfl,Nat.le_refl _,q1⟩⟩,?_⟩
  intro i m σ' H' hh
  rw [hI] at hh
  obtain ⟨rfl,hi',⟨w,rfl⟩,sm,ys,dn,rs,A,hys,tys,nd,fr,hds,hln,hrs⟩:=hh
  have kp : Keep X.K (fun a=>noB a∨H1 a=none) H1 H':=.same sm
  by_cases hlt : i < xs.length
  · refine .inr ⟨it.go i H' kp hlt,fun σ'' H''=>I (i + 1) (xs.length - (i + 1)) σ'' H'',fun σ'' H'' h=>⟨xs.length - (i + 1),by omega,h⟩,fun xv H2 hy=>?_⟩
    obtain ⟨s2,d,hd,rd⟩:=it.yld i H' xv H2 kp hy
    have hdi:=hd hlt
    have hx : xs.drop i=d :: xs.drop (i + 1):=by
      obtain ⟨hl,e⟩:=List.getElem?_eq_some_iff.mp hdi
      rw [List.drop_eq_getElem_cons hl,e]
    rw [hx] at hrs
    obtain ⟨o,rs',e2,e3,e4⟩:=z5z hrs
    show tT X.K fc ((σ ++ [w]).set n (some xv)) H2 _
    rw [← hσ,z7H]
    have S2 : RepS X.K H2 noB (σ ++ [some xv]) (δ ++ [some d]):=(((Sδ.mono s1).mono sm).mono s2).snoc (rd.anti fun a z=>z.elim)
    have hl2 : ys.length < sizeLine:=by
      have:=tys.length
      omega
    cases ec : fc (δ ++ [some d]) with
    | none=>rw [ec] at e2; cases e2
    | some kk=>
      rw [ec] at e2
      have e2' : (if kk=true then (fe (δ ++ [some d])).map some else some none)=some o:=e2
      refine ⟨noB,δ ++ [some d],kk,.no,S2,ec,fun H3 s3=>?_⟩
      cases kk with
      | false=>
        rw [if_neg Bool.false_ne_true] at e2'
        rw [if_neg Bool.false_ne_true]
        cases e2'
        rw [hI]
        exact ⟨rfl,hlt,⟨_,rfl⟩,(sm.trans s2).trans s3,ys,dn,rs',A,s3 _ _ (s2 _ _ hys),(tys.mono s2).mono s3,nd,fr,by rw [hds,e4]; rfl,Nat.le_succ_of_le hln,e3⟩
      | true=>
        rw [if_pos rfl] at e2'
        rw [if_pos rfl]
        cases ey : fe (δ ++ [some d]) with
        | none=>rw [ey] at e2'; cases e2'
        | some y=>
          rw [ey] at e2'
          cases e2'
          refine ⟨δ ++ [some d],y,S2.mono s3,ey,fun yv H5 A5 s5 t5 nd5 fr5=>⟨ys,s5 _ _ (s3 _ _ (s2 _ _ hys)),hl2,?_⟩⟩
          have s15 : Same H' H5:=(s2.trans s3).trans s5
          have hu : H5 Da=some (.lst ys):=s15 _ _ hys
          have mu : Mut (H5 Da):=by rw [hu]; exact trivial
          have hDa3 : H3 Da=some (.lst ys):=s3 _ _ (s2 _ _ hys)
          have nDa : Da ∉ A ++ A5:=fun z=>by
            rcases List.mem_append.mp z with z | z
            · exact (List.nodup_cons.mp nd).1 z
            · have:=fr5 Da z
              rw [hDa3] at this; cases this
          rw [hI]
          refine ⟨rfl,hlt,⟨_,rfl⟩,fun b u hb=>?_,ys ++ [yv],dn ++ [y],rs',A ++ A5,z0s,?_,List.nodup_cons.mpr ⟨nDa,?_⟩,fun a ha=>?_,by rw [hds,e4,List.append_assoc]; rfl,by rw [List.length_append]; simp; omega,e3⟩
          · rw [z0A (z1o hb hD)]
            exact s15 _ _ (sm _ _ hb)
          · refine Trees.keep (Keep.upd (K:=X.K) (B:=fun x=>x=Da) rfl mu).i _ ((tys.mono s15).snoc t5) fun b hb u q=>?_
            have ne : b≠Da:=fun z=>nDa (z ▸ hb)
            rw [z0A ne]; exact q
          · refine List.nodup_append.mpr ⟨(List.nodup_cons.mp nd).2,nd5,fun b hb c hc z=>?_⟩
            subst z
            obtain ⟨u,q,_⟩:=Trees.held _ tys b hb
            have:=fr5 b hc
            rw [(s2.trans s3) _ _ q] at this; cases this
          · rcases List.mem_append.mp ha with z | z
            · exact fr a z
            · exact sm.free ((s2.trans s3).free (fr5 a z))
  · have e : i=xs.length:=by omega
    subst e
    refine .inl ⟨it.stop _ H' kp (Nat.le_refl _),?_⟩
    rw [List.drop_length] at hrs
    cases hrs
    rw [List.append_nil] at hds
    subst hds
    refine k (.ref Da) H' (Da :: A) (s1.trans sm) ?_ nd fun a ha=>?_
    · unfold Tree
      exact ⟨Da,ys,A,rfl,hys,tys,rfl⟩
    · rcases List.mem_cons.mp ha with z | z
      · rw [z]; exact hD0
      · exact s1.free (fr a z)
theorem y0G (hc : X.calm=true) (S : CompScope X.N X.env.scope.names N' 1 sc) (hn : n=X.N.length) (hi : PID X (.Name x px) iter fi)
    (hg : ∀ s H fp pins E,PG (z0O X N' sc s H fp pins E) (.Name x px) (z2N n)) (ht : ∀ s H fp pins E,y5k (z0O X N' sc s H fp pins E) ifs (tT X.K fc)) (he : ∀ s H fp pins E,PE (z0O X N' sc s H fp pins E) elt (tN X.K fe))
    (hs : ∀ x,foldedSetIterable iter X.env x=pure x:=by intro _; rfl) : PN X (.ListComp elt [⟨.Name x px,iter,ifs,0⟩] sc pos) (mkL (z1t fi fc fe)):=by
  intro pins s σ H Q I hq
  exact y0l hc S hi ⟨hg,ht,he⟩ hs pins s σ H Q I (y0U (by rw [hn,I.len]) hq)
theorem y3B {i : Nat} {y : Str} {py spos : Pos} (hN : X.N.Nodup) (hy : X.N[i]? = some y) (hyl : X.env.scope.names.lookup y=some .local) (hc : X.calm=true) (S : CompScope X.N X.env.scope.names N' 1 sc) (hn : n=X.N.length) (hi : PID X (.Name x px) iter fi)
    (hg : ∀ s H fp pins E,PG (z0O X N' sc s H fp pins E) (.Name x px) (z2N n)) (ht : ∀ s H fp pins E,y5k (z0O X N' sc s H fp pins E) ifs (tT X.K fc)) (he : ∀ s H fp pins E,PE (z0O X N' sc s H fp pins E) elt (tN X.K fe))
    (hsw : swapsWith (.ListComp elt [⟨.Name x px,iter,ifs,0⟩] sc pos) (some (.Name y py)) spos.line X.env=pure true:=by rfl) (hs : ∀ x,foldedSetIterable iter X.env x=pure x:=by intro _; rfl) :
    PS X (.Assign [.Name y py] (.ListComp elt [⟨.Name x px,iter,ifs,0⟩] sc pos) spos) (tAsg (tN X.K (mkL (z1t fi fc fe))) (z2N i)):=by
  intro pins s σ H D I hq
  exact y3i hc S hN hy hyl hi ⟨hg,ht,he⟩ hsw hs pins s σ H D I (y0U (by rw [hn,I.len]) hq)
end
end L2
namespace L2
open PySem PySem.Spec PyProof.Rows
section
variable {X : Cx} {a b : Expr} {pos : Pos} {f g : DE}
noncomputable def y2D : D->D->Option D:=iop fun i j=>some (.int (i + j))
noncomputable def subI : D->D->Option D:=iop fun i j=>some (.int (i - j))
noncomputable def y7E : D->D->Option D:=iop fun i j=>if CMul i j then some (.int (i * j)) else none
noncomputable def z9Q : D->D->Option D:=iop fun i j=>if CDiv i j then some (.int (i / j)) else none
noncomputable def z4y : D->D->Option D:=iop fun i j=>if 0 < j then some (.int (i % j)) else none
noncomputable def ltI : D->D->Option D:=iop fun i j=>some (.bl (decide (i < j)))
noncomputable def gtI : D->D->Option D:=iop fun i j=>some (.bl (decide (j < i)))
noncomputable def geI : D->D->Option D:=iop fun i j=>some (.bl (decide (j≤i)))
theorem z4E (ha : PD X a f) (hb : PD X b g) : PD X (.BinOp a .Add b pos) (d2 y2D f g):=y2X op_add y3b ha hb
theorem pd_sub (ha : PD X a f) (hb : PD X b g) : PD X (.BinOp a .Sub b pos) (d2 subI f g):=y2X op_sub y3b ha hb
theorem y4P (ha : PD X a f) (hb : PD X b g) : PD X (.BinOp a .Mult b pos) (d2 y7E f g):=y2X op_mul y4l ha hb
theorem z6I (ha : PD X a f) (hb : PD X b g) : PD X (.BinOp a .FloorDiv b pos) (d2 z9Q f g):=y2X op_fdiv y4l ha hb
theorem z2A (ha : PD X a f) (hb : PD X b g) : PD X (.BinOp a .Mod b pos) (d2 z4y f g):=y2X op_mod y4l ha hb
theorem y1F (hu : X.A.units + 64 < cLine) (ha : PD X a f) (hb : PD X b g) : PD X (.Compare a [.Eq] [b] pos) (d2 eqD f g):=pd_cmp (y7o hu) o2_eq ha hb (z7u _)
theorem pt_lt (ha : PD X a f) (hb : PD X b g) : PTD X (.Compare a [.Lt] [b] pos) (z0G (d2 ltI f g)):=z4N op_lt z7X ha hb (z7u _)
theorem y4C (ha : PD X a f) (hb : PD X b g) : PTD X (.Compare a [.Gt] [b] pos) (z0G (d2 gtI f g)):=z4N op_gt z7X ha hb (z7u _)
theorem pt_ge (ha : PD X a f) (hb : PD X b g) : PTD X (.Compare a [.GtE] [b] pos) (z0G (d2 geI f g)):=z4N op_ge z7X ha hb (z7u _)
theorem z5d (hu : X.A.units + 64 < cLine) (ha : PD X a f) (hb : PD X b g) : PTD X (.Compare a [.Eq] [b] pos) (z0G (d2 eqD f g)):=z4N (y7o hu) o2_eq ha hb (z7u _)
theorem y2O (hu : X.A.units + 64 < cLine) (ha : PD X a f) (hb : PD X b g) : PTD X (.Compare a [.NotEq] [b] pos) (z0G (d2 neD f g)):=z4N (op_neD hu) o2_ne ha hb (z7u _)
theorem pt_in (hu : X.A.units + 64 < cLine) (ha : PD X a f) (hb : PD X b g) (hm : behindInMarks .In b=false:=by rfl) : PTD X (.Compare a [.In] [b] pos) (z0G (d2 inD f g)):=z4N (op_inD hu) o2_in ha hb hm
theorem z6V (hu : X.A.units + 64 < cLine) (ha : PD X a f) (hb : PD X b g) (hm : behindInMarks .NotIn b=false:=by rfl) : PTD X (.Compare a [.NotIn] [b] pos) (z0G (d2 y0Q f g)):=z4N (op_ninD hu) o2_nin ha hb hm
end
noncomputable def y0q (H : Hp) (A : List Addr) : Hp:=fun a=>if a∈A then none else H a
theorem y1A {H : Hp} {A : List Addr} {a : Addr} (h : a∈A) : y0q H A a=none:=if_pos h
theorem z6w {H : Hp} {A : List Addr} {a : Addr} (h : a ∉ A) : y0q H A a=H a:=if_neg h
theorem y2A {H : Hp} {A : List Addr} : Same (y0q H A) H:=fun a o e=>by
  by_cases h : a∈A
  · rw [y1A h] at e; cases e
  · rw [z6w h] at e; exact e
section
variable {P : Program} {w : World} {K : PySem.W.Frag} {mg : Str->Option Value} {base : Heap}
end
section
variable {X : Cx} {H0 : Hp} {B0 : Addr->Prop} {fr : Bool} {RX : XR} {e : Expr} {es : List Expr} {pos p px px2 cp : Pos} {x fn : Str} {k : Nat} {F : List D->Option D} {fl : List DE}
end
noncomputable def y6I (K : PySem.W.Frag) (F : List D->Option D) : Sp:=fun vs H Q _=>∃ (a : Addr) (ns : List Int),vs=[.ref a]∧SqF K H a (ns.map V.int)∧F [.scr ns]=some (.bl true)∧∀ H',Q (.bl true) H'
theorem y6a {K : PySem.W.Frag} {H : Hp} {a : Addr} {xs : List V} (hO : Only H) (h : SqL K H a xs) : SqF K H a xs:=by
  rcases h with (h | h) | h
  · rcases hO a with z | ⟨o,ys,z⟩ <;> (rw [h] at z; cases z)
  · exact .inl h
  · exact .inr h
theorem law_of {P : Program} {w : World} {K : PySem.W.Frag} {mg : Str->Option Value} {base : Heap} {k : Nat} {f : Addr} {fd : FuncData} {ps : List Str} {F : List D->Option D} (h : FnOk P w K mg base CX0 k f fd ps (spN K F)) : FnOk P w K mg base CX0 k f fd ps (y6I K F):=by
  refine h.imp fun vs H Q E z=>?_
  obtain ⟨a,ns,rfl,hq,e,q⟩:=z
  refine ⟨[.scr ns],.bl true,.cons ?_ .nil,e,fun v H' A s t nd fr=>?_⟩
  · unfold Rep
    exact ⟨a,rfl,hq⟩
  · cases (show v=V.bl true∧_ from t).1
    exact q H'
end L2
namespace L2
open PySem PySem.Spec PyProof.Rows
section
variable {X : Cx} {H0 : Hp} {B0 : Addr->Prop} {fr : Bool} {RX : XR} {e e2 : Expr} {pos ap cp : Pos} {x : Str} {px : Pos} {f g : DE}
end
end L2
namespace L2
open PySem PySem.Spec PyProof.Rows
open PySem.MeetsSeq PySem.MeetsSeq2 PySem.MeetsSeq3 PySem.SeqRoads2 PySem.SeqAt
open PySem.AutoSeq1 (wpAny_loadPart')
section
variable {X : Cx}
theorem Inv.tupleO {pins : List (Addr × Obj)} {σ : St} {H : Hp} {s : Shared} {a : Addr} {xs : List V} (I : Inv X pins σ H s) (h : SqT X.K H a xs) : ∃ (its : List Value) (ob : Obj) (n : Nat),Vals xs its∧s.heap.get? a=some ob∧ob.cls = .type "tuple" ∧ ob.dict=none∧ob.data = .seq its.toArray n∧xs.length≤sizeLine:=by
  rcases h with h | ⟨o,its,n,hk,hc,hs,hz,r⟩
  · obtain ⟨z,its,r,ob,e,c,n,hd⟩:=h.ok I.hok
    exact ⟨its,ob,n,r,e,c.1,c.2,hd,z⟩
  · refine ⟨its.toList,o,n,r,I.kIn a o hk,hc.1,hc.2,by simpa using hs,?_⟩
    have e:=r.length
    simp only [Array.length_toList] at e
    omega
variable {o e : Expr} {es : List Expr} {to : TE} {t : TA} {name : Str} {apos cpos : Pos} {id : String} {r : V->List V->Hp->VK->Prop}
theorem y3a : ∀ {ns : List Int} {its : List Value},Vals (ns.map V.int) its->∀ (k : Nat) (h : k < its.length),∃ t,∃ h2 : k < ns.length,its[k] = .int ns[k] t
  | [],_,.nil,_,h=>by simp at h
  | n :: ns,_,.cons r t,k,h=>by
    obtain ⟨u,rfl⟩:=r
    cases k with
    | zero=>exact ⟨u,by simp,rfl⟩
    | succ k=>
      obtain ⟨w,h2,e⟩:=y3a t k (by simpa using h)
      exact ⟨w,by simpa using h2,by simpa using e⟩
noncomputable def isI (i : Int) : Value->Bool
  | .int k _=>k == i
  | _=>false
theorem z5g : ∀ {ds : List D} {ns : List Int},z2y ds=some ns->ds=ns.map D.int
  | [],ns,h=>by cases h; rfl
  | .int i :: r,ns,h=>by
    unfold z2y at h
    cases e : z2y r with
    | none=>rw [e] at h; cases h
    | some ms=>rw [e] at h; cases h; rw [List.map_cons,z5g e]
  | .non :: _,_,h=>by cases h
  | .bl _ :: _,_,h=>by cases h
  | .str _ :: _,_,h=>by cases h
  | .lst _ :: _,_,h=>by cases h
  | .tup _ :: _,_,h=>by cases h
  | .scr _ :: _,_,h=>by cases h
  | .dct _ _ :: _,_,h=>by cases h
  | .exc _ :: _,_,h=>by cases h
theorem z5u {K : PySem.W.Frag} {H : Hp} {B : Addr->Prop} : ∀ {ns : List Int} {xs : List V},Reps K H B (ns.map D.int) xs->xs=ns.map V.int
  | [],_,h=>by unfold Reps at h; exact h
  | n :: ns,_,h=>by
    rw [List.map_cons] at h
    unfold Reps at h
    obtain ⟨x,r,rfl,h1,h2⟩:=h
    unfold Rep at h1
    rw [h1,z5u h2]
    rfl
end
end L2
namespace L2
open PySem PySem.Spec PyProof.Rows
open PySem.AutoSeq1 (wpAny_loadPart')
section
variable {prog : Program} {w : World} {A : Around} {E : Value->Shared->Prop} {s : Shared}
end
section
variable {X : Cx}
variable {a b : Expr} {f g : DE} {p p2 pos pos2 : Pos}
noncomputable def intF : List D->Option D
  | [.int i]=>some (.int i)
  | [.bl k]=>some (.int (if k then 1 else 0))
  | _=>none
theorem oa_int {K : PySem.W.Frag} : OpA K (fun xs H Q=>(∃ i,xs=[.int i]∧Q (.int i) H)∨∃ k,xs=[.bl k]∧Q (.int (if k then 1 else 0)) H) intF:=by
  intro H B ds d vs Q hB hr q k
  unfold intF at q
  split at q
  · cases q
    obtain ⟨v,rfl,r⟩:=z4K hr
    unfold Rep at r
    subst r
    exact .inl ⟨_,rfl,k _ H (.refl H) (by unfold Rep; rfl)⟩
  · cases q
    obtain ⟨v,rfl,r⟩:=z4K hr
    unfold Rep at r
    subst r
    exact .inr ⟨_,rfl,k _ H (.refl H) (by unfold Rep; rfl)⟩
  · cases q
theorem pd_int1 {e : Expr} (hg : Gl X "int") (hm : X.mg "int" = none) (h : PD X e f) (he : starEach [e] X.env=[(false,eval e X.env)]:=by rfl) : PD X (.Call (.Name "int" p) [e] [] pos) (z0l intF [f]):=
  y6b y4W oa_int hg hm PyProof.Rows.Boot.«int» (z0a h z0c he) (by decide) (by decide) he rfl
theorem y4N {H0 : Hp} {B0 : Addr->Prop} {fr : Bool} {RX : XR} {st : Stmt} : PS X st (tS X.K H0 B0 fr RX fun _=>none):=fun _ _ _ _ _ _ ⟨_,_,_,_,e,_⟩=>nomatch e
end
end L2
namespace L2
open PySem PySem.Spec PyProof.Rows
section
variable {X : Cx} {pins : List (Addr × Obj)} {σ : St} {H : Hp} {s : Shared} {h' : Heap}
theorem Inv.turnedL {t' : Nat} {fp : List Addr} (I : Inv X pins σ H s) (k : ∀ b o,b ∉ fp->s.heap.get? b=some o->h'.get? b=some o) (hf : ∀ b∈fp,y0d X pins H b) : Inv X pins σ H { s with heap:=h',toks:=t' }:=by
  have nit : ∀ b u,H b=some u->b ∉ fp:=fun b u e z=>by rw [(hf b z).1] at e; cases e
  have nL : X.env.locals ∉ fp:=fun z=>(hf _ z).2.1 rfl
  refine I.step (g':=s.gens) (d':=s.drawn) (ch:=fp) (fun b hb=>?_) (fun b o _ _ hc e _=>k b o hc e) (fun b o _ _ hc e _=>⟨o.slots,k b o hc e⟩) (fun _ _ _ _ n=>n)
    (fun b o hc e=>⟨o,k b o hc e⟩) (fun _ _ e=>e) (fun _ _ _ e=>e) (fun b ps e=>⟨#[],by rw [e]; simp⟩) (fun m hm=>?_) (fun b u e=>?_) I.bare
  · obtain ⟨f0,f1,f2,f3,f4,f5⟩:=hf b hb
    exact ⟨f3,f1,f4,f5⟩
  · obtain ⟨o,es,ep,ho,r⟩:=hm
    exact ⟨o,es,ep,k _ o nL ho,r⟩
  · refine (I.hok b u e).stay (fun c v hc q=>k c v ?_ q) (fun _ q=>q) fun _ _ q=>q
    rcases hc with z | z
    · rw [z]; exact nit b u e
    · exact nit c _ z
noncomputable def Ite (K : PySem.W.Frag) (a : Addr) : It:=
  ⟨fun i H=>∃ xs x,SqL K H a xs∧xs[i]? = some x,fun i H v H'=>∃ p x,H p=none∧v = .ref p∧H'=upd H p (.tup [.int (i : Nat),x])∧∀ xs,SqL K H a xs->xs[i]? = some x,fun i H=>∃ xs,SqL K H a xs∧xs.length≤i⟩
theorem y4v {P : Program} {w : World} {K : PySem.W.Frag} {elts : List Expr} {x1} {tp : Pos} (a e it : Addr) (hne : e≠it) :
    Turn P w K (.Tuple elts x1 tp) (Ite K a) [e,it] e (fun i h=>(∃ old,IsEnum h e it ((i : Nat) : Int) old)∧h.IsListIter it a i) where
  mem:=by simp
  obj:=fun i h st b hb=>by
    obtain ⟨⟨old,he⟩,o,eo,c,d⟩:=st
    rcases List.mem_cons.mp hb with z | z
    · subst z
      exact ⟨_,he,fun v z=>by cases z⟩
    · have z : b=it:=by simpa using z
      subst z
      exact ⟨o,eo,fun v z=>by rw [d] at z; cases z⟩
  keep:=fun i h h' st k=>by
    obtain ⟨⟨old,he⟩,hi⟩:=st
    exact ⟨⟨old,k e (by simp) _ he⟩,hi.at fun o q=>k it (by simp) o q⟩
  item:=by
    intro X hP hw hK hc i pins s σ H E I hf st hg
    subst hP hw hK
    obtain ⟨xs,x,hq,hx⟩:=hg
    obtain ⟨its,rv,p,hz⟩:=I.list hq
    obtain ⟨u,hu,ru⟩:=rv.get hx
    obtain ⟨⟨old,he⟩,hi⟩:=st
    refine wpAny_pyNext_enum_item he hi p.isList (x:=u) (by simpa using hu) hne fun h1 heo hi1 ht1 hz1 hk1=>⟨_,rfl,?_⟩
    refine wpAny_letOwnedTupleGo_enum heo fun h2 he2 hs2=>?_
    have hs2 : Heap.SameBut e h1 h2:=hs2
    have elt : e < s.heap.objs.size:=Heap.lt_size he
    obtain ⟨oi,eoi,_⟩:=id hi
    have ilt : it < s.heap.objs.size:=Heap.lt_size eoi
    have hp : H s.heap.objs.size=none:=I.hok.fresh (Nat.le_refl _)
    have I1 : Inv X pins σ (upd H s.heap.objs.size (.tup [.int (i : Nat),x])) { s with heap:=s.heap.push { cls:=.type "tuple",data:=.seq #[.int (i : Nat) s.toks,u] },toks:=s.toks + 1 }:=
      I.laid (fun b o q=>Heap.get?_push_of_some _ q) (Nat.le_refl _) (show ObjOk X.prog X.w _ _ _ (.tup [.int (i : Nat),x]) from ⟨by show 2≤sizeLine; rw [sizeLine_eq]; decide,[.int (i : Nat) s.toks,u],.cons ⟨_,rfl⟩ (.cons ru .nil),TupN.new _ _⟩)
    have hf1 : ∀ b∈[e,it],y0d X pins (upd H s.heap.objs.size (.tup [.int (i : Nat),x])) b:=fun b hb=>by
      obtain ⟨f0,f⟩:=hf b hb
      refine ⟨?_,f⟩
      have : b≠s.heap.objs.size:=by
        rcases List.mem_cons.mp hb with z | z
        · rw [z]; exact Nat.ne_of_lt elt
        · have z : b=it:=by simpa using z
          rw [z]; exact Nat.ne_of_lt ilt
      rw [z0A this]
      exact f0
    have kk : ∀ b o,b ∉ [e,it]->(s.heap.push { cls:=.type "tuple",data:=.seq #[.int (i : Nat) s.toks,u] }).get? b=some o->h2.get? b=some o:=by
      intro b o hb q
      have hbe : b≠e:=fun z=>hb (by simp [z])
      have hbi : b≠it:=fun z=>hb (by simp [z])
      rw [hs2.2 b hbe]
      by_cases hbs : b=s.heap.objs.size
      · subst hbs
        rw [ht1]
        have : (s.heap.push { cls:=.type "tuple",data:=.seq #[.int (i : Nat) s.toks,u] }).get? s.heap.objs.size=some { cls:=.type "tuple",data:=.seq #[.int (i : Nat) s.toks,u] }:=Heap.get?_push_size _ rfl
        exact this.symm.trans q
      · have q' : s.heap.get? b=some o:=(Heap.get?_push_ne s.heap _ _ hbs).symm.trans q
        exact hk1 b o hbe hbi q'
    have I2 : Inv X pins σ (upd H s.heap.objs.size (.tup [.int (i : Nat),x])) { s with heap:=h2,toks:=s.toks + 1 }:=Inv.turnedL (s:={ s with heap:=s.heap.push { cls:=.type "tuple",data:=.seq #[.int (i : Nat) s.toks,u] },toks:=s.toks + 1 }) (h':=h2) (t':=s.toks + 1) (fp:=[e,it]) I1 kk hf1
    refine ⟨.ref s.heap.objs.size,_,I2,rfl,⟨_,x,hp,rfl,rfl,fun ys hy=>by rw [I.list_inj hy hq]; exact hx⟩,⟨⟨u,?_⟩,?_⟩,fun b hb=>(hf1 b hb).1⟩
    · have : (((i + 1 : Nat) : Int))=((i : Int) + 1):=by omega
      rw [this]
      exact he2
    · exact hi1.at fun o q=>(hs2.2 it (Ne.symm hne)).trans q
  done:=by
    intro X hP hw hK hc i pins s σ H E I hf st hg
    subst hP hw hK
    obtain ⟨xs,hq,hx⟩:=hg
    obtain ⟨its,rv,p,hz⟩:=I.list hq
    obtain ⟨⟨old,he⟩,hi⟩:=st
    have hl:=rv.length
    exact wpAny_pyNext_enum_end (I.ok.hd hc) he hi p.isList (by simp; omega) fun h' eb=>⟨rfl,I.turnedL (t':=s.toks) (fp:=[e,it]) (fun b o hb q=>eb b o (fun z=>hb (by simp [z])) q) hf⟩
  self:=fun _ _ _ _ _ st h=>let ⟨⟨_,he⟩,_⟩:=st; wpAny_pyIter_enum he h
noncomputable def iEnum (K : PySem.W.Frag) (tl : TE) : TI:=fun σ H R=>tl σ H fun x H1=>∃ a,[x]=[V.ref a]∧(∃ xs,SqL K H1 a xs)∧R (Ite K a) H1
theorem pi_enum {elts : List Expr} {x1} {tp p pos : Pos} {l : Expr} {tl : TE} (hg : Gl X "enumerate") (hm : X.mg "enumerate" = none) (hl : PE X l tl) (hs : starEach [l] X.env=[(false,eval l X.env)]:=by rfl) :
    PI X (.Tuple elts x1 tp) (.Call (.Name "enumerate" p) [l] [] pos) (iEnum X.K tl):=by
  intro pins s σ H R I h
  have hA : PA X [l] (fun σ H Q=>tl σ H fun x H1=>Q [x] H1):=(z1Y hl pa_nil (by rw [hs]; rfl)).imp fun σ H Q q=>q
  refine wpAny_Call_Name_kw (z5e I hg hm boot_enumerate (PyProof.Rows.callWith_type1 (thn (hA pos pins s σ H (fun vs H1=>∃ a,vs=[V.ref a]∧(∃ xs,SqL X.K H1 a xs)∧R (Ite X.K a) H1) I h) fun us s1 ⟨vs,H1,I1,r1,q1⟩=>?_) hs rfl))
  obtain ⟨a,rfl,⟨xs,hq⟩,q⟩:=q1
  obtain ⟨u,rfl,ru⟩:=r1.one
  cases ru
  obtain ⟨its,rv,pl,hz⟩:=I1.list hq
  refine call_enumerate_list pl.isList fun h1 he hi hsz kp=>?_
  refine wpAny_pyIter_enum he ?_
  have I2 : Inv X pins σ H1 { s1 with heap:=h1 }:=I1.kept (t':=s1.toks) kp
  refine ⟨s1.heap.objs.size + 1,[s1.heap.objs.size + 1,s1.heap.objs.size],_,_,H1,rfl,I2,y4v a _ _ (Nat.succ_ne_self _),⟨⟨_,he⟩,hi⟩,fun b hb=>?_,q⟩
  have hb' : s1.heap.objs.size≤b:=by
    rcases List.mem_cons.mp hb with z | z
    · rw [z]; exact Nat.le_succ _
    · have z : b=s1.heap.objs.size:=by simpa using z
      rw [z]; exact Nat.le_refl _
  exact I1.fpOk hb' (I1.hok.fresh hb')
end
noncomputable def z0t (k : Nat) : List D->List D
  | []=>[]
  | d :: r=>.tup [.int (k : Nat),d] :: z0t (k + 1) r
theorem y1k : ∀ {ds : List D} {k i : Nat},(z0t k ds)[i]? = (ds[i]?).map fun d=>.tup [.int ((k + i : Nat) : Int),d]
  | [],_,_=>by simp [z0t]
  | d :: r,k,0=>by simp [z0t]
  | d :: r,k,i + 1=>by
    show (z0t (k + 1) r)[i]? = (r[i]?).map _
    rw [y1k]
    congr 1
    funext d
    congr 3
    omega
theorem z8w : ∀ {ds : List D} {k : Nat},(z0t k ds).length=ds.length
  | [],_=>rfl
  | d :: r,k=>by show (z0t (k + 1) r).length + 1=r.length + 1; rw [z8w]
theorem y1C {K : PySem.W.Frag} {H : Hp} {B : Addr->Prop} {a : Addr} {xs : List V} {ds : List D} (hs : ∀ H',Keep K B H H'->SqL K H' a xs) (r : Reps K H B ds xs) : ItD K (Ite K a) H B (z0t 0 ds):=by
  have hl:=r.length
  refine ⟨fun i H' kp hi=>?_,fun i H' kp hi=>?_,fun i H' v H2 kp hy=>?_⟩
  · rw [z8w,hl] at hi
    exact ⟨xs,xs[i],hs H' kp,List.getElem?_eq_getElem hi⟩
  · rw [z8w,hl] at hi
    exact ⟨xs,hs H' kp,hi⟩
  · obtain ⟨p,x,hp,rfl,rfl,hx⟩:=hy
    have hx:=hx xs (hs H' kp)
    obtain ⟨d,e,rd⟩:=(Reps.keep kp ds r).get' hx
    refine ⟨z0w hp,.tup [.int (i : Nat),d],fun _=>by rw [y1k,e]; simp,?_⟩
    unfold Rep
    exact ⟨p,_,rfl,SqT.of z0s,.cons (by unfold Rep; rfl) (.one (rd.mono (z0w hp)))⟩
noncomputable def z9H : D->Option (List D)
  | .lst ds=>some (z0t 0 ds)
  | .scr ns=>some (z0t 0 (ns.map .int))
  | _=>none
noncomputable def z9B (f : DE) : DS->Option (List D):=fun δ=>(f δ).bind z9H
section
variable {X : Cx}
theorem z5w {elts : List Expr} {x1} {tp p pos : Pos} {l : Expr} {f : DE} (hg : Gl X "enumerate") (hm : X.mg "enumerate" = none) (h : PD X l f) (hs : starEach [l] X.env=[(false,eval l X.env)]:=by rfl) :
    PID X (.Tuple elts x1 tp) (.Call (.Name "enumerate" p) [l] [] pos) (z9B f):=(pi_enum hg hm h hs).imp fun σ H R z_=>by
  obtain ⟨B,δ,ds,hB,S,q,k⟩:=z_
  unfold z9B at q
  cases e : f δ with
  | none=>rw [e] at q; cases q
  | some d=>
    rw [e] at q
    have q' : z9H d=some ds:=q
    refine ⟨B,δ,d,hB,S,e,fun v H1 s1 r1=>?_⟩
    unfold z9H at q'
    split at q'
    · cases q'
      unfold Rep at r1
      obtain ⟨a,xs,rfl,n,h,r⟩:=r1
      refine ⟨a,rfl,⟨xs,SqL.of h⟩,k _ H1 s1 fun C hC=>?_⟩
      have na : ¬ (B a∨C a):=fun z=>z.elim n fun z=>by rw [hC a z] at h; cases h
      exact y1C (xs:=xs) (fun H' kp=>SqL.of (kp.sl a xs na h)) (Reps.wide hC _ r)
    · cases q'
      unfold Rep at r1
      obtain ⟨a,rfl,h⟩:=r1
      exact ⟨a,rfl,⟨_,h.sq⟩,k _ H1 s1 fun C hC=>y1C (fun H' kp=>(kp.sf a _ h).sq) (z2m _)⟩
    · cases q'
noncomputable def two (h : D->D->Option (Option D)) : D->Option (Option D)
  | .tup [a,b]=>h a b
  | _=>none
noncomputable def z4f (fc : DS->Option Bool) (fe : DE) (δ : DS) : D->D->Option (Option D):=fun a b=>(fc (δ ++ [some a,some b])).bind fun k=>if k=true then (fe (δ ++ [some a,some b])).map some else some none
noncomputable def z5k (fi : DS->Option (List D)) (fc : DS->Option Bool) (fe : DE) : DS->Option (List D):=fun δ=>(fi δ).bind fun xs=>if xs.length≤sizeLine then z2u (two (z4f fc fe δ)) xs else none
theorem y5E {h : D->D->Option (Option D)} {d : D} {o : Option D} (e : two h d=some o) : ∃ a b,d = .tup [a,b]∧h a b=some o:=by
  unfold two at e
  split at e
  · exact ⟨_,_,rfl,e⟩
  · cases e
theorem z9s {v1 v2 w1 w2 : Option V} : ∀ {σ : St},((σ ++ [w1,w2]).set σ.length v1).set (σ.length + 1) v2=σ ++ [v1,v2]
  | []=>rfl
  | x :: r=>congrArg (x :: ·) (z9s (σ:=r))
theorem RepS.snoc2 {K : PySem.W.Frag} {H : Hp} {B : Addr->Prop} {σ : St} {δ : DS} {d e : D} {v w : V} (S : RepS K H B σ δ) (r : Rep K H B d v) (r' : Rep K H B e w) : RepS K H B (σ ++ [some v,some w]) (δ ++ [some d,some e]):=by
  have:=(S.snoc r).snoc r'
  rw [List.append_assoc,List.append_assoc] at this
  exact this
variable {N' : List Str} {sc : Scope} {iter elt : Expr} {ifs : List Expr} {n : Nat} {x y : Str} {px py tp pos : Pos} {x1 : Nat} {fi : DS->Option (List D)} {fc : DS->Option Bool} {fe : DE}
noncomputable def gTwo (K : PySem.W.Frag) (n : Nat) : TG:=gTup K 2 (y3q (z2N n) (y3q (z2N (n + 1)) gNil))
theorem y5b {σ : St} {H : Hp} {Q : VK} (hσ : σ.length=n) (hq : tF X.K (z5k fi fc fe) σ H Q) : y3t (tI X.K fi) (gTwo X.K n) (tT X.K fc) (tD X.K fe) 2 σ H Q:=by
  obtain ⟨B,δ,ds,hB,Sδ,q,k⟩:=hq
  unfold z5k at q
  cases e1 : fi δ with
  | none=>rw [e1] at q; cases q
  | some xs=>
  rw [e1] at q
  have q1 : (if xs.length≤sizeLine then z2u (two (z4f fc fe δ)) xs else none)=some ds:=q
  split at q1
  case isFalse=>cases q1
  case isTrue hsz=>
  refine ⟨B,δ,xs,hB,Sδ,e1,fun J H1 s1 itw=>fun Da hD=>?_⟩
  have hD0 : H Da=none:=s1.free hD
  have it:=itw (fun a=>a=Da) fun a ha=>by rw [ha]; exact hD
  have Sw : RepS X.K H1 (fun a=>B a∨a=Da) σ δ:=(Sδ.mono s1).wide fun a ha=>by rw [ha]; exact hD
  obtain ⟨I,hI⟩ : ∃ I : Nat->Nat->St->Hp->Prop,I=fun i m σ' H'=>m=xs.length - i∧i≤xs.length∧(∃ w w',σ'=σ ++ [w,w'])∧Same H1 H'∧∃ ys dn rs,H' Da=some (.lst ys)∧Reps X.K H' (fun a=>B a∨a=Da) dn ys∧ds=dn ++ rs∧dn.length≤i ∧
      z2u (two (z4f fc fe δ)) (xs.drop i)=some rs:=⟨_,rfl⟩
  refine ⟨I,⟨xs.length,by rw [hI]; exact ⟨by simp,Nat.zero_le _,⟨none,none,rfl⟩,z0w hD,[],[],ds,z0s,.nil,rfl,Nat.le_refl _,q1⟩⟩,?_⟩
  intro i m σ' H' hh
  rw [hI] at hh
  obtain ⟨rfl,hi',⟨w,w',rfl⟩,sm,ys,dn,rs,hys,rys,hds,hln,hrs⟩:=hh
  have kp : Keep X.K (fun a=>B a∨a=Da) H1 H':=.same sm
  by_cases hlt : i < xs.length
  · refine .inr ⟨it.go i H' kp hlt,fun σ'' H''=>I (i + 1) (xs.length - (i + 1)) σ'' H'',fun σ'' H'' h=>⟨xs.length - (i + 1),by omega,h⟩,fun xv H2 hy=>?_⟩
    obtain ⟨s2,d,hd,rd⟩:=it.yld i H' xv H2 kp hy
    have hdi:=hd hlt
    have hx : xs.drop i=d :: xs.drop (i + 1):=by
      obtain ⟨hl,e⟩:=List.getElem?_eq_some_iff.mp hdi
      rw [List.drop_eq_getElem_cons hl,e]
    rw [hx] at hrs
    obtain ⟨o,rs',e2,e3,e4⟩:=z5z hrs
    obtain ⟨da,db,ed,e2b⟩:=y5E e2
    subst ed
    unfold Rep at rd
    obtain ⟨p,vs,rfl,hsq,rvs⟩:=rd
    unfold Reps at rvs
    obtain ⟨va,r1,rfl,ra,rvs⟩:=rvs
    unfold Reps at rvs
    obtain ⟨vb,r2,rfl,rb,rvs⟩:=rvs
    unfold Reps at rvs
    subst rvs
    refine ⟨p,[va,vb],rfl,hsq,rfl,va,[vb],rfl,vb,[],rfl,rfl,?_⟩
    rw [← hσ,z9s]
    have hB1 : InB (fun a=>B a∨a=Da) H2:=fun a ha=>ha.elim (fun z=>(((hB.mono s1).mono sm).mono s2) a z) fun z=>⟨_,s2 _ _ (z ▸ hys)⟩
    have S2 : RepS X.K H2 (fun a=>B a∨a=Da) (σ ++ [some va,some vb]) (δ ++ [some da,some db]):=((Sw.mono sm).mono s2).snoc2 ra rb
    have hl2 : ys.length < sizeLine:=by
      have:=rys.length
      omega
    unfold z4f at e2b
    cases ec : fc (δ ++ [some da,some db]) with
    | none=>rw [ec] at e2b; cases e2b
    | some kk=>
      rw [ec] at e2b
      have e2' : (if kk=true then (fe (δ ++ [some da,some db])).map some else some none)=some o:=e2b
      refine ⟨_,δ ++ [some da,some db],kk,hB1,S2,ec,fun H3 s3=>?_⟩
      cases kk with
      | false=>
        rw [if_neg Bool.false_ne_true] at e2'
        rw [if_neg Bool.false_ne_true]
        cases e2'
        rw [hI]
        exact ⟨rfl,hlt,⟨_,_,rfl⟩,(sm.trans s2).trans s3,ys,dn,rs',s3 _ _ (s2 _ _ hys),(rys.mono s2).mono s3,by rw [hds,e4]; rfl,Nat.le_succ_of_le hln,e3⟩
      | true=>
        rw [if_pos rfl] at e2'
        rw [if_pos rfl]
        cases ey : fe (δ ++ [some da,some db]) with
        | none=>rw [ey] at e2'; cases e2'
        | some y=>
          rw [ey] at e2'
          cases e2'
          refine ⟨_,δ ++ [some da,some db],y,hB1.mono s3,S2.mono s3,ey,fun yv H5 s5 r5=>⟨ys,s5 _ _ (s3 _ _ (s2 _ _ hys)),hl2,?_⟩⟩
          have hu : H5 Da=some (.lst ys):=s5 _ _ (s3 _ _ (s2 _ _ hys))
          rw [hI]
          refine ⟨rfl,hlt,⟨_,_,rfl⟩,fun b u hb=>?_,ys ++ [yv],dn ++ [y],rs',z0s,?_,by rw [hds,e4,List.append_assoc]; rfl,by rw [List.length_append]; simp; omega,e3⟩
          · rw [z0A (z1o hb hD)]
            exact s5 _ _ (s3 _ _ (s2 _ _ (sm _ _ hb)))
          · exact Reps.keep (.upd (.inr rfl) (by rw [hu]; exact trivial)) _ (((rys.mono s2).mono s3 |>.mono s5).snoc r5)
  · have e : i=xs.length:=by omega
    subst e
    refine .inl ⟨it.stop _ H' kp (Nat.le_refl _),?_⟩
    rw [List.drop_length] at hrs
    cases hrs
    rw [List.append_nil] at hds
    subst hds
    exact k Da ys H' (s1.trans sm) hD0 hys (rys.anti fun a z=>.inl z)
theorem z6m (hc : X.calm=true) (S : CompScope X.N X.env.scope.names N' 2 sc) (hn : n=X.N.length) (hi : PID X (.Tuple [.Name x px,.Name y py] x1 tp) iter fi)
    (hg : ∀ s H fp pins E,PG (z0O X N' sc s H fp pins E) (.Tuple [.Name x px,.Name y py] x1 tp) (gTwo X.K n)) (ht : ∀ s H fp pins E,y5k (z0O X N' sc s H fp pins E) ifs (tT X.K fc)) (he : ∀ s H fp pins E,PE (z0O X N' sc s H fp pins E) elt (tD X.K fe))
    (hs : ∀ x,foldedSetIterable iter X.env x=pure x:=by intro _; rfl) : PF X (.ListComp elt [⟨.Tuple [.Name x px,.Name y py] x1 tp,iter,ifs,0⟩] sc pos) (z5k fi fc fe):=by
  intro pins s σ H Q I hq
  exact y0l hc S hi ⟨hg,ht,he⟩ hs pins s σ H Q I (y5b (by rw [hn,I.len]) hq)
theorem y0W {X : Cx} {n : Nat} {x y : Str} {px py tp : Pos} {x1} (hc : X.calm=true) (h1 : PG X (.Name x px) (z2N n)) (h2 : PG X (.Name y py) (z2N (n + 1)))
    (hs : (assignEach [.Name x px,.Name y py] X.env).map (·.2)=assign (.Name x px) X.env :: (assignEach [.Name y py] X.env).map (·.2):=by rfl) (hs2 : (assignEach [.Name y py] X.env).map (·.2)=assign (.Name y py) X.env :: (assignEach [] X.env).map (·.2):=by rfl)
    (hn : (assignEach [.Name x px,.Name y py] X.env).length=2:=by rfl) (hst : (assignEach [.Name x px,.Name y py] X.env).findIdx? (·.1)=none:=by rfl) : PG X (.Tuple [.Name x px,.Name y py] x1 tp) (gTwo X.K n):=
  y7q hc (z6n h1 (z6n h2 y3g hs2) hs) hn hst
end
end L2
namespace L2
open PySem PySem.Spec PyProof.Rows
noncomputable def z9V : D->Option Key
  | .int n=>some (.inl n)
  | .str x=>some (.inr x)
  | _=>none
theorem y3G {K : PySem.W.Frag} {H : Hp} {B : Addr->Prop} {d : D} {k : Key} {v : V} (e : z9V d=some k) (r : Rep K H B d v) : v=kV k:=by
  unfold z9V at e
  split at e
  · cases e; unfold Rep at r; exact r
  · cases e; unfold Rep at r; exact r
  · cases e
noncomputable def setK (ks : List Key) (ds : List D) (k : Key) (d : D) : List D:=match ks,ds with
  | k' :: ks,e :: ds=>(if k'=k then d else e) :: setK ks ds k d
  | _,_=>[]
noncomputable def y2C (ks : List Key) (k : Key) : Bool:=ks.any fun k'=>decide (k'=k)
noncomputable def y0J (ks : List Key) (k : Key) : List Key:=if y2C ks k=true then ks else ks ++ [k]
noncomputable def y0M (ks : List Key) (ds : List D) (k : Key) (d : D) : List D:=if y2C ks k=true then setK ks ds k d else ds ++ [d]
theorem z9Z {k : Key} {kvs : List (Key × V)} {ks : List Key} (e : kvs.map (·.1)=ks) : (kvs.any fun kv=>decide (kv.1=k))=y2C ks k:=by
  subst e
  unfold y2C
  rw [List.any_map]
  rfl
theorem y1B {K : PySem.W.Frag} {H : Hp} {k : Key} {d : D} {v : V} (td : Tree K H d v []) : ∀ {kvs : List (Key × V)} {ds : List D},Trees K H ds (kvs.map (·.2)) []->Trees K H (setK (kvs.map (·.1)) ds k d) ((kvs.map fun kv=>if kv.1=k then (kv.1,v) else kv).map (·.2)) []
  | [],ds,t=>by
    cases ds with
    | nil=>exact .nil
    | cons e ds=>unfold Trees at t; obtain ⟨_,_,_,_,z,_⟩:=t; cases z
  | p :: r,[],t=>by obtain ⟨z,_⟩:=t; cases z
  | p :: r,e :: ds,t=>by
    unfold Trees at t
    obtain ⟨x,xs,B,C,e1,t1,t2,e2⟩:=t
    cases e1
    obtain ⟨rfl,rfl⟩:=List.append_eq_nil_iff.mp e2.symm
    have ih:=y1B (k:=k) td (kvs:=r) t2
    rw [List.map_cons,List.map_cons,List.map_cons]
    unfold setK Trees
    refine ⟨_,_,[],[],rfl,?_,ih,rfl⟩
    by_cases h : p.1=k
    · rw [if_pos h,if_pos h]; exact td
    · rw [if_neg h,if_neg h]; exact t1
theorem y6D {k : Key} {v : V} {kvs : List (Key × V)} : (z7l kvs k v).map (·.1)=y0J (kvs.map (·.1)) k:=by
  unfold z7l y0J
  rw [z9Z (k:=k) (kvs:=kvs) rfl]
  by_cases h : y2C (kvs.map (·.1)) k=true
  · rw [if_pos h,if_pos h,List.map_map]
    apply List.map_congr_left
    intro p _
    show (if p.1=k then (p.1,v) else p).1=p.1
    split <;> rfl
  · rw [if_neg h,if_neg h,List.map_append]
    rfl
theorem y5I {K : PySem.W.Frag} {H : Hp} {k : Key} {d : D} {v : V} {kvs : List (Key × V)} {ds : List D} (td : Tree K H d v []) (t : Trees K H ds (kvs.map (·.2)) []) : Trees K H (y0M (kvs.map (·.1)) ds k d) ((z7l kvs k v).map (·.2)) []:=by
  unfold z7l y0M
  rw [z9Z (k:=k) (kvs:=kvs) rfl]
  by_cases h : y2C (kvs.map (·.1)) k=true
  · rw [if_pos h,if_pos h]
    exact y1B td t
  · rw [if_neg h,if_neg h,List.map_append]
    exact t.snoc td
theorem y6O {k : Key} {kvs : List (Key × V)} : (y2h kvs k).isSome=y2C (kvs.map (·.1)) k:=by rw [← z8b]; exact z9Z rfl
noncomputable def inK : D->D->Option Bool:=fun x y=>match y with
  | .dct ks _=>(z9V x).map fun k=>y2C ks k
  | _=>none
noncomputable def dDIn (f g : DE) : DS->Option Bool:=fun δ=>(f δ).bind fun x=>(g δ).bind fun y=>inK x y
noncomputable def y6E (f g : DE) : DS->Option Bool:=fun δ=>(dDIn f g δ).map (!·)
section
variable {X : Cx} {a b o i value : Expr} {f g : DE} {pos pos' : Pos}
theorem y6u {δ : DS} {c : Bool} (h : dDIn f g δ=some c) : ∃ x k ks ds,f δ=some x∧z9V x=some k∧g δ=some (.dct ks ds)∧c=y2C ks k:=by
  unfold dDIn at h
  cases e1 : f δ with
  | none=>rw [e1] at h; cases h
  | some x=>
    rw [e1] at h
    cases e2 : g δ with
    | none=>rw [e2] at h; cases h
    | some y=>
      rw [e2] at h
      have h : inK x y=some c:=h
      unfold inK at h
      split at h
      · cases e3 : z9V x with
        | none=>rw [e3] at h; cases h
        | some k=>rw [e3] at h; cases h; exact ⟨x,k,_,_,rfl,e3,rfl,rfl⟩
      · cases h
theorem pt_dnin (hu : X.A.units + 64 < cLine) (ha : PD X a f) (hb : PD X b g) (hm : behindInMarks .NotIn b=false:=by rfl) : PTD X (.Compare a [.NotIn] [b] pos) (y6E f g):=
  (y7y (y4h (by omega) ha hb) hm).imp fun σ H Q z_=>by
    obtain ⟨B,δ,c,hB,S,q,k⟩:=z_
    unfold y6E at q
    cases e0 : dDIn f g δ with
    | none=>rw [e0] at q; cases q
    | some c0=>
    rw [e0] at q
    cases q
    obtain ⟨x,ky,ks,ds,e1,e2,e3,rfl⟩:=y6u e0
    refine ⟨B,δ,x,hB,S,e1,fun v H1 s1 r1=>⟨B,δ,_,hB.mono s1,S.mono s1,e3,fun w H2 s2 r2=>?_⟩⟩
    unfold Rep at r2
    obtain ⟨p,kvs,rfl,n,hp,ek,rs⟩:=r2
    have ev:=y3G e2 r1
    subst ev
    refine ⟨p,y2h kvs ky,rfl,DGet.k hp,_,rfl,?_⟩
    rw [y6O,ek]
    exact k H2 (s1.trans s2)
variable {H0 : Hp} {B0 : Addr->Prop} {fr : Bool} {RX : XR} {x : Str} {px : Pos} {ke e : Expr}
noncomputable def dput (i : Nat) (fk fv : DE) : SS->Option Out:=fun δ=>(fv (z0r δ)).bind fun d=>if d.imm=true then (fk (z0r δ)).bind fun dk=>(match z9V dk,δ[i]? with
  | some k,some (some (.ow (.dct ks ds)))=>if z1l ds=true∧ks.length < sizeLine then some (.nx ((z0B i δ).set i (some (.ow (.dct (y0J ks k) (y0M ks ds k d)))))) else none
  | _,_=>none) else none
theorem y2T {K : PySem.W.Frag} {H : Hp} {ds : List D} {xs : List V} {A : List Addr} (t : Trees K H ds xs A) (h : z1l ds=true) : Trees K H ds xs []:=Reps.immTree (B:=fun _=>False) ds h (t.rep ds fun _ _ z=>z)
theorem s_dput {i : Nat} {fk fv : DE} (hu : X.A.units + 64 < cLine) (hx : PE X (.Name x px) (z9O i)) (hk : PD X ke fk) (hv : PD X e fv)
    (hs : swapsWith e (some (.Subscript (.Name x px) ke pos')) pos.line X.env=pure false:=by rfl) :
    PS X (.Assign [.Subscript (.Name x px) ke pos'] e pos) (tS X.K H0 B0 fr RX (dput i fk fv)):=
  PS.imp (ps_dput (by omega) hx hk hv hs) fun D σ H z_=>by
    obtain ⟨δ,R,o,rs,q,kk⟩:=z_
    unfold dput at q
    cases e1 : fv (z0r δ) with
    | none=>rw [e1] at q; cases q
    | some d=>
    rw [e1,Option.bind_some] at q
    split at q
    case isFalse=>cases q
    case isTrue hi=>
    cases e2 : fk (z0r δ) with
    | none=>rw [e2] at q; cases q
    | some dk=>
    rw [e2,Option.bind_some] at q
    split at q
    case h_2=>cases q
    case h_1 k ks ds e3 ei=>
    split at q
    case isFalse=>cases q
    case isTrue hc=>
    cases q
    obtain ⟨v0,ev,t0,nd⟩:=rs.ow i _ ei
    unfold Tree at t0
    obtain ⟨a,kvs,A,rfl,ha,ek,ts,eR⟩:=t0
    have ts:=y2T ts hc.1
    refine ⟨noB,z0r δ,d,.no,rs.all,e1,fun v H1 s1 r1=>⟨.ref a,ev,noB,z0r δ,dk,.no,rs.all.mono s1,e2,fun kv H2 s2 r2=>?_⟩⟩
    have ekv:=y3G e3 r2
    subst ekv
    subst ek
    have ha2 : H2 a=some (.dK kvs):=s2 _ _ (s1 _ _ ha)
    refine ⟨a,_,rfl,DPut.k ha2 (by rw [← List.length_map (f:=(·.1))]; exact hc.2),?_⟩
    have haR : a∈R i:=by rw [eR]; exact List.mem_cons_self
    have mu : Mut (H2 a):=by rw [ha2]; exact trivial
    have td : Tree X.K H2 d v []:=(r1.immTree d hi).mono s2
    have tp:=y5I (k:=k) td (ts.mono (s1.trans s2))
    have P:=rs.rewrite (d':=.dct (y0J (kvs.map (·.1)) k) (y0M (kvs.map (·.1)) ds k d)) (a:=a) (o:=.dK (z7l kvs k v)) (A':=[a]) (s1.trans s2) ei ev haR (by
      unfold Tree
      exact ⟨a,z7l kvs k v,[],rfl,z0s,y6D,Trees.keep (Keep.upd (K:=X.K) (B:=fun x=>x=a) rfl mu).i _ tp fun b hb=>(nomatch hb),rfl⟩) (List.nodup_cons.mpr ⟨fun z=>(nomatch z),List.nodup_nil⟩) fun b hb=>by
        rw [List.mem_singleton.mp hb]; exact .inl haR
    exact kk σ _ _ P.1 P.2
end
end L2
namespace HT
open PySem PySem.Spec PyProof.Rows
section
variable {prog : Program} {w : World} {A : Around} {E : Value->Shared->Prop} {s : Shared}
end
end HT
namespace L2
open PySem PySem.Spec PyProof.Rows
section
variable {X : Cx} {e st : Expr} {te : TE} {tk : TO} {pos p2 : Pos}
variable {f g : DE}
variable {a b : Expr}
noncomputable def catLs : D->D->Option (List D)
  | .lst ds,.lst es=>if ds.length + es.length≤sizeLine then some (ds ++ es) else none
  | _,_=>none
noncomputable def y1l (f g : DE) : DS->Option (List D):=fun δ=>(f δ).bind fun x=>(g δ).bind fun y=>catLs x y
theorem z5n (ha : PD X a f) (hb : PD X b g) : PF X (.BinOp a .Add b pos) (y1l f g):=(pe_op op_cat ha hb).imp fun σ H Q z_=>by
  obtain ⟨B,δ,ds,hB,S,q,k⟩:=z_
  unfold y1l at q
  cases e1 : f δ with
  | none=>rw [e1] at q; cases q
  | some x=>
  rw [e1,Option.bind_some] at q
  cases e2 : g δ with
  | none=>rw [e2] at q; cases q
  | some y=>
  rw [e2,Option.bind_some] at q
  unfold catLs at q
  split at q
  case h_2=>cases q
  case h_1 xs ys=>
  split at q
  case isFalse=>cases q
  case isTrue hl=>
  cases q
  refine ⟨B,δ,_,hB,S,e1,fun v H1 s1 r1=>⟨B,δ,_,hB.mono s1,S.mono s1,e2,fun v2 H2 s2 r2=>?_⟩⟩
  unfold Rep at r1 r2
  obtain ⟨p1,vs,rfl,n1,h1,rs1⟩:=r1
  obtain ⟨p2,ws,rfl,n2,h2,rs2⟩:=r2
  refine ⟨p1,p2,vs,ws,rfl,rfl,s2 _ _ h1,h2,by rw [← rs1.length,← rs2.length]; exact hl,fun p hp=>?_⟩
  exact k p _ _ ((s1.trans s2).trans (z0w hp)) ((s1.trans s2).free hp) z0s (((rs1.mono s2).append rs2).mono (z0w hp))
variable {p : Pos}
end
end L2
namespace L2
open PySem PySem.Spec PyProof.Rows
section
variable {X : Cx} {o e : Expr} {apos cpos : Pos}
noncomputable def rLIx (K : PySem.W.Frag) : V->List V->Hp->VK->Prop:=fun x vs H Q=>∃ (a : Addr) (ns : List Int) (i : Int) (j : Nat),x = .ref a∧vs=[.int i]∧SqL K H a (ns.map V.int)∧ns.findIdx? (fun n=>n == i)=some j∧Q (.int (j : Int)) H
theorem y2S : MtR X "list.index" (rLIx X.K):=by
  intro pins s σ H x vs v us Q I rx rv h
  obtain ⟨a,ns,i,j,rfl,rfl,hq,hj,q⟩:=h
  cases rx
  obtain ⟨u,rfl,ru⟩:=rv.one
  obtain ⟨ut,rfl⟩:=ru
  obtain ⟨its,r,⟨⟨cls,dct,dat,sl⟩,n,e,c,d,hd⟩,hz⟩:=I.list hq
  have c : cls = .type "list" := c
  have hd : dat = .seq its.toArray n:=hd
  subst c; subst hd
  obtain ⟨hjl,hji,hjm⟩:=List.findIdx?_eq_some_iff_getElem.mp hj
  have hl : ns.length=its.length:=by have:=r.length; simpa using this
  have hj2 : j < its.length:=by omega
  rw [sizeLine_eq,List.length_map] at hz
  refine call_meets F.slot_list_index ⟨_,e,rfl⟩ F.entry_list_index (F.args_list_index_2 _ _) (SeqAt.list_indexAt a its.toArray n dct sl (.int i ut) (isI i) j (by simpa using hj2) (by omega) ?_ ?_) ⟨e,?_,?_⟩
  · obtain ⟨t,h2,e2⟩:=y3a r j hj2
    simp [e2,isI]
    simpa using hji
  · intro m hm hmj
    obtain ⟨t,h2,e2⟩:=y3a r m (by omega)
    have:=hjm m hmj
    simp [e2,isI]
    simpa using this
  · intro y hy
    obtain ⟨k,hk,rfl⟩:=List.getElem_of_mem (show y∈its by simpa using hy)
    obtain ⟨t,h2,e2⟩:=y3a r k hk
    rw [e2]
    exact SeqAt.EqAt.int_int _ _ _ _
  · exact ⟨.int (j : Int),H,I.tok _,⟨_,rfl⟩,q⟩
noncomputable def lixF : D->D->Option D
  | .lst ds,.int i=>(z2y ds).bind fun ns=>(ns.findIdx? (fun n=>n == i)).map fun j=>.int (j : Int)
  | _,_=>none
theorem y3s {f g : DE} (ho : PD X o f) (he : PD X e g) (hbase : attributeBase o "index" X.env (eval o X.env)=eval o X.env:=by rfl)
    (hfew : ((backTo cpos (starEach [e] X.env)).all (fun x=>!x.1) && (backToKw cpos (keywordEach [] X.env)).all (fun x=>x.1.isSome) && decide ([e].length + ([] : List Keyword).length + (if ([] : List Keyword).isEmpty then 0 else 1) < 30))=true:=by rfl)
    (hline : (apos.endLine == cpos.line)=true:=by rfl) (hs : starEach [e] X.env=(false,eval e X.env) :: starEach [] X.env:=by rfl) :
    PD X (.Call (.Attribute o "index" apos) [e] [] cpos) (d2 lixF f g):=
  (y2t PySem.F.plainAttrs_list PySem.F.slot_list_index PySem.F.type_list_index y2S ho (z1Y he pa_nil hs) hbase hfew hline hs rfl).imp fun σ H Q z_=>by
    obtain ⟨B,δ,d,hB,S,q,k⟩:=z_
    obtain ⟨x,y,e1,e2,e3⟩:=z6u q
    unfold lixF at e3
    split at e3
    case h_2=>cases e3
    case h_1 ds i=>
    cases e4 : z2y ds with
    | none=>rw [e4] at e3; cases e3
    | some ns=>
    rw [e4,Option.bind_some] at e3
    cases e5 : ns.findIdx? (fun n=>n == i) with
    | none=>rw [e5] at e3; cases e3
    | some j=>
    rw [e5] at e3
    cases e3
    have eds:=z5g e4
    subst eds
    refine ⟨B,δ,_,hB,S,e1,fun v H1 s1 r1=>?_⟩
    unfold Rep at r1
    obtain ⟨a,xs,rfl,nb,hq,rs⟩:=r1
    have ex:=z5u rs
    subst ex
    refine ⟨.inl ⟨rfl,_,SqL.of hq⟩,B,δ,_,hB.mono s1,S.mono s1,e2,fun v2 H2 s2 r2=>?_⟩
    unfold Rep at r2
    subst r2
    exact ⟨a,ns,i,j,rfl,rfl,SqL.of (s2 _ _ hq),e5,k _ H2 (s1.trans s2) (by unfold Rep; rfl)⟩
end
end L2
namespace L2
open PySem PySem.Spec PyProof.Rows
section
variable {X : Cx} {H0 : Hp} {B0 : Addr->Prop} {fr : Bool} {RX : XR} {e : Expr} {pos : Pos} {f : DE}
end
end L2
namespace L2
open PySem PySem.Spec PyProof.Rows
noncomputable def cntR (lo hi c : Int) : Nat:=if lo < hi then ((hi - lo - 1) / c + 1).toNat else 0
noncomputable def Itr3 (lo c : Int) (n : Nat) : It:=⟨fun i _=>i < n,fun i H x H'=>H'=H∧x = .int (lo + (i : Nat) * c),fun i _=>n≤i⟩
theorem y0h {P : Program} {w : World} {K : PySem.W.Frag} {tg : Expr} (it : Addr) (lo c : Int) (n : Nat) : Turn P w K tg (Itr3 lo c n) [it] it (fun i h=>IsRangeIter h it (lo + (i : Nat) * c) ((n : Int) - (i : Nat)) c) where
  mem:=by simp
  obj:=fun i h st b hb=>by
    have e : b=it:=by simpa using hb
    subst e
    exact ⟨_,st,fun v z=>by
      have z' : Data.fields _=Data.cell v:=z
      cases z'⟩
  keep:=fun i h h' st k=>k it (by simp) _ st
  item:=by
    intro X hP hw hK hc i pins s σ H E I hf st hg
    subst hP hw hK
    obtain ⟨f0,f1,f2,f3,f4,f5⟩:=hf it (by simp)
    have W:=Walks.range (prog:=X.prog) (w:=X.w) (I.ok.hd hc) it lo c n
    refine W.item i s _ _ hg st fun v h' tk hv st' kk=>?_
    obtain ⟨t,rfl⟩:=hv
    have I1 : Inv X pins σ H { s with heap:=h',toks:=tk }:=I.turned (fun b o hb e=>kk b o (by simpa using hb) e) f0 f1 f3 f4 f5
    exact ⟨_,rfl,y6T (s:={ s with heap:=h',toks:=tk }) (n := "range_iterator") st' rfl rfl (by decide) ⟨.int (lo + (i : Nat) * c),H,I1,⟨t,rfl⟩,⟨rfl,rfl⟩,st',fun b hb=>(hf b hb).1⟩⟩
  done:=by
    intro X hP hw hK hc i pins s σ H E I hf st hg
    subst hP hw hK
    obtain ⟨f0,f1,f2,f3,f4,f5⟩:=hf it (by simp)
    exact wpAny_pyNext_range_end (I.ok.hd hc) st (by have : n≤i:=hg; omega) fun h' eb=>⟨rfl,I.turned (t':=s.toks) (fun b o hb e=>eb b o hb e) f0 f1 f3 f4 f5⟩
  self:=fun _ _ _ _ _ st h=>wpAny_pyIter_rangeiter st h
section
variable {X : Cx} {tg : Expr}
theorem Vals.three : ∀ {x y z : V} {us : List Value},Vals [x,y,z] us->∃ u v w,us=[u,v,w]∧RelV x u∧RelV y v∧RelV z w:=fun h=>by
  cases h with | cons r h=>obtain ⟨_,_,rfl,q,p⟩:=Vals.two h; exact ⟨_,_,_,rfl,r,q,p⟩
noncomputable def y4s (lo c : Int) (n : Nat) : List D:=(List.range n).map fun i=>.int (lo + (i : Nat) * c)
theorem y5Q {lo c : Int} {n i : Nat} (h : i < n) : (y4s lo c n)[i]? = some (.int (lo + (i : Nat) * c)):=by
  unfold y4s
  rw [List.getElem?_map,List.getElem?_range h]
  rfl
theorem z7V {lo c : Int} {n : Nat} : (y4s lo c n).length=n:=by simp [y4s]
theorem y6A {K : PySem.W.Frag} {H : Hp} {B : Addr->Prop} {lo c : Int} {n : Nat} : ItD K (Itr3 lo c n) H B (y4s lo c n):=by
  refine ⟨fun i H' _ hi=>?_,fun i H' _ hi=>?_,fun i H' x H2 _ y=>?_⟩
  · rw [z7V] at hi; exact hi
  · rw [z7V] at hi; exact hi
  · obtain ⟨e,y⟩:=y
    subst e y
    exact ⟨.refl _,.int (lo + (i : Nat) * c),fun h=>y5Q (by rwa [z7V] at h),rfl⟩
noncomputable def rng3 : Option D->Option D->Option D->Option (List D)
  | some (.int i),some (.int j),some (.int c)=>if -(2 ^ 61)≤i∧i < 2 ^ 61∧-(2 ^ 61)≤j∧j < 2 ^ 61∧0 < c∧c < 2 ^ 30 then some (y4s i c (cntR i j c)) else none
  | _,_,_=>none
end
noncomputable def z4A (c : DS->Option Bool) (b : SS->Option Out) : Nat->SS->Option Out
  | 0,_=>none
  | n + 1,δ=>(c (z0r δ)).bind fun k=>if k=true then (b δ).bind fun o=>(match o with
    | .nx δ'=>z4A c b n δ'
    | .ct δ'=>z4A c b n δ'
    | .bk δ'=>some (.nx δ')
    | .rt d=>some (.rt d)
    | .ex c δ'=>some (.ex c δ')) else some (.nx δ)
section
variable {X : Cx} {H0 : Hp} {B0 : Addr->Prop} {fr : Bool} {RX : XR} {pos : Pos}
theorem y2N {c : Expr} {body : List Stmt} {fc : DS->Option Bool} {g : SS->Option Out} (n : Nat) (hp : PassesOwn (model X.prog X.w) X.A X.env X.xe) (hc : PTD X c fc) (hb : PSs X body (tS X.K H0 B0 fr RX g)) : PS X (.While c body [] pos) (tS X.K H0 B0 fr RX (z4A fc g n)):=
  PS.imp (y6g hp hc hb) fun D σ H z_=>by
    obtain ⟨δ,R,o,rs,q,k⟩:=z_
    refine ⟨fun m σ' H'=>∃ δ' R',RS X.K H0 B0 H' σ' δ' R'∧Stp R H R' H'∧z4A fc g m δ'=some o,⟨n,δ,R,rs,.refl R H,q⟩,?_⟩
    rintro m σ' H' ⟨δ',R',rs',s',q'⟩
    cases m with
    | zero=>cases q'
    | succ m=>
      unfold z4A at q'
      cases ec : fc (z0r δ') with
      | none=>rw [ec] at q'; cases q'
      | some kk=>
        rw [ec,Option.bind_some] at q'
        refine ⟨noB,z0r δ',kk,.no,rs'.all,ec,fun H1 s1=>?_⟩
        have rs1:=rs'.mono s1
        have st1 : Stp R H R' H1:=s'.trans (.same s1)
        cases kk with
        | false=>
          rw [if_neg Bool.false_ne_true] at q'
          cases q'
          exact k σ' H1 R' rs1 st1
        | true=>
          rw [if_pos rfl] at q'
          cases eb : g δ' with
          | none=>rw [eb] at q'; cases q'
          | some ob=>
            rw [eb,Option.bind_some] at q'
            refine ⟨fun σ2 H2=>∃ δ2 R2,RS X.K H0 B0 H2 σ2 δ2 R2∧Stp R H R2 H2∧z4A fc g m δ2=some o,fun σ2 H2 z=>⟨m,Nat.lt_succ_self m,z⟩,δ',R',ob,rs1,eb,?_⟩
            cases ob with
            | nx δ2=>exact fun σ3 H3 R3 rs3 s3=>⟨δ2,R3,rs3,st1.trans s3,q'⟩
            | ct δ2=>exact fun σ3 H3 R3 rs3 s3=>⟨δ2,R3,rs3,st1.trans s3,q'⟩
            | bk δ2=>
              cases q'
              exact fun σ3 H3 R3 rs3 s3=>k σ3 H3 R3 rs3 (st1.trans s3)
            | rt d=>
              cases q'
              exact k.back st1
            | ex c δ2=>
              cases q'
              exact k.back st1
noncomputable def isN : D->Bool
  | .non=>true
  | _=>false
theorem rep_isN {K : PySem.W.Frag} {H : Hp} {B : Addr->Prop} {d : D} {v : V} (r : Rep K H B d v) : decide (v=V.non)=isN d:=by
  cases d with
  | non=>unfold Rep at r; subst r; rfl
  | bl b=>unfold Rep at r; subst r; rfl
  | int i=>unfold Rep at r; subst r; rfl
  | str x=>unfold Rep at r; subst r; rfl
  | lst ds=>unfold Rep at r; obtain ⟨a,xs,rfl,_⟩:=r; rfl
  | tup ds=>unfold Rep at r; obtain ⟨a,xs,rfl,_⟩:=r; rfl
  | scr ns=>unfold Rep at r; obtain ⟨a,rfl,_⟩:=r; rfl
  | dct ks ds=>unfold Rep at r; obtain ⟨a,kvs,rfl,_⟩:=r; rfl
  | exc x=>unfold Rep at r; obtain ⟨a,C,rfl,_⟩:=r; rfl
noncomputable def y4J (f : DE) : DS->Option Bool:=fun δ=>(f δ).map fun d=>!isN d
variable {a : Expr} {f : DE}
theorem y2e {j pos'} (ha : PD X a f) (hm : behindInMarks .IsNot (.Constant .none j pos')=false:=by rfl) : PTD X (.Compare a [.IsNot] [.Constant .none j pos'] pos) (y4J f):=(y7y (pc_notN ha) hm).imp fun σ H Q z_=>by
  obtain ⟨B,δ,c,hB,S,q,k⟩:=z_
  unfold y4J at q
  cases e : f δ with
  | none=>rw [e] at q; cases q
  | some d=>
    rw [e] at q
    cases q
    refine ⟨B,δ,d,hB,S,e,fun v H1 s1 r1=>⟨_,rfl,?_⟩⟩
    rw [rep_isN r1]
    exact k H1 s1
end
end L2
namespace L2
open PySem PySem.Spec PyProof.Rows
section
variable {X : Cx} {a b : Expr} {f g : DE} {pos : Pos}
variable {H0 : Hp} {B0 : Addr->Prop} {fr : Bool} {RX : XR} {x : Str} {px ap cp : Pos} {e : Expr}
noncomputable def y3V (i : Nat) (f : DE) : SS->Option Out:=fun δ=>(f (z0r δ)).bind fun d=>(match d,δ[i]? with
  | .lst es,some (some (.ow (.lst ds)))=>if ds.length + es.length≤sizeLine then some (.nx ((z0B i δ).set i (some (.ow (.lst (ds ++ es)))))) else none
  | _,_=>none)
theorem y4E {i : Nat} (hx : PE X (.Name x px) (z9O i)) (he : PN X e f) (hbase : attributeBase (.Name x px) "extend" X.env (eval (.Name x px) X.env)=eval (.Name x px) X.env:=by rfl)
    (hfew : ((backTo cp (starEach [e] X.env)).all (fun x=>!x.1) && (backToKw cp (keywordEach [] X.env)).all (fun x=>x.1.isSome) && decide ([e].length + ([] : List Keyword).length + (if ([] : List Keyword).isEmpty then 0 else 1) < 30))=true:=by rfl)
    (hline : (ap.endLine == cp.line)=true:=by rfl) (hs : starEach [e] X.env=(false,eval e X.env) :: starEach [] X.env:=by rfl) (hsw : swapsWith (.Call (.Attribute (.Name x px) "extend" ap) [e] [] cp) none pos.line X.env=pure false:=by rfl) :
    PS X (.Expr (.Call (.Attribute (.Name x px) "extend" ap) [e] [] cp) pos) (tS X.K H0 B0 fr RX (y3V i f)):=
  PS.imp (z7Y (y2t PySem.F.plainAttrs_list PySem.F.slot_list_extend PySem.F.type_list_extend z9p hx (z1Y he pa_nil hs) hbase hfew hline hs rfl) hsw) fun D σ H z_=>by
    obtain ⟨δ,R,o,rs,q,k⟩:=z_
    unfold y3V at q
    cases e1 : f (z0r δ) with
    | none=>rw [e1] at q; cases q
    | some d=>
    rw [e1,Option.bind_some] at q
    split at q
    case h_2=>cases q
    case h_1 es ds ei=>
    split at q
    case isFalse=>cases q
    case isTrue hl=>
    cases q
    obtain ⟨a,xs,A,ev,ha,ts,eR,nd⟩:=rs.top ei
    refine ⟨.ref a,ev,.inl ⟨rfl,xs,SqL.of ha⟩,z0r δ,_,rs.all,e1,fun y H2 C s2 t2 nC fC=>?_⟩
    unfold Tree at t2
    obtain ⟨b,zs,C',rfl,hb,tz,rfl⟩:=t2
    have nC':=(List.nodup_cons.mp nC).2
    refine ⟨a,b,xs,zs,rfl,rfl,s2 _ _ ha,hb,by rw [← ts.length,← tz.length]; exact hl,?_⟩
    have hAC : (A ++ C').Nodup:=List.nodup_append.mpr ⟨(List.nodup_cons.mp nd).2,nC',fun p hp c hc z=>by
      subst z
      obtain ⟨u,q,_⟩:=Trees.held ds ts p hp
      rw [fC p (List.mem_cons_of_mem _ hc)] at q; cases q⟩
    have P:=rs.put0 s2 ei ev eR nd ((ts.mono s2).append tz) hAC fun p hp=>(List.mem_append.mp hp).imp id fun z=>fC p (List.mem_cons_of_mem _ z)
    exact k σ _ _ P.1 P.2
end
end L2
namespace L2
open PySem PySem.Spec PyProof.Rows
noncomputable def insS (x : Int) : List Int->List Int
  | []=>[x]
  | y :: r=>if x≤y then x :: y :: r else y :: insS x r
noncomputable def z8G : List Int->List Int
  | []=>[]
  | x :: r=>insS x (z8G r)
theorem z6q (x : Int) : ∀ l : List Int,(insS x l).Perm (x :: l)
  | []=>.refl _
  | y :: r=>by
    unfold insS
    split
    · exact .refl _
    · exact ((z6q x r).cons y).trans (.swap x y r)
theorem z9o : ∀ l : List Int,(z8G l).Perm l
  | []=>.refl _
  | x :: r=>(z6q x _).trans ((z9o r).cons x)
theorem z6C {x : Int} : ∀ {l : List Int},l.Pairwise (· ≤ ·)->(insS x l).Pairwise (· ≤ ·)
  | [],_=>by unfold insS; simp
  | y :: r,h=>by
    unfold insS
    split
    · rename_i hxy
      refine List.pairwise_cons.mpr ⟨fun z hz=>?_,h⟩
      rcases List.mem_cons.mp hz with e | e
      · omega
      · have:=(List.pairwise_cons.mp h).1 z e
        omega
    · rename_i hxy
      refine List.pairwise_cons.mpr ⟨fun z hz=>?_,z6C (List.pairwise_cons.mp h).2⟩
      rcases List.mem_cons.mp ((z6q x r).mem_iff.mp hz) with e | e
      · omega
      · exact (List.pairwise_cons.mp h).1 z e
theorem z6R : ∀ l : List Int,(z8G l).Pairwise (· ≤ ·)
  | []=>.nil
  | _ :: r=>z6C (z6R r)
theorem z7t : ∀ {a b : List Int},a.Perm b->a.Pairwise (· ≤ ·)->b.Pairwise (· ≤ ·)->a=b
  | [],b,p,_,_=>(List.nil_perm.mp p).symm
  | x :: a,[],p,_,_=>by have:=p.length_eq; simp at this
  | x :: a,y :: b,p,ha,hb=>by
    obtain ⟨ha1,ha2⟩:=List.pairwise_cons.mp ha
    obtain ⟨hb1,hb2⟩:=List.pairwise_cons.mp hb
    have hxy : x=y:=by
      have h1 : x∈y :: b:=p.mem_iff.mp List.mem_cons_self
      have h2 : y∈x :: a:=p.mem_iff.mpr List.mem_cons_self
      rcases List.mem_cons.mp h1 with e | e
      · exact e
      · rcases List.mem_cons.mp h2 with e' | e'
        · exact e'.symm
        · have:=ha1 y e'
          have:=hb1 x e
          omega
    subst hxy
    rw [z7t (List.perm_cons x |>.mp p) ha2 hb2]
theorem z8j {a l : List Int} (p : a.Perm l) (h : a.Pairwise (· ≤ ·)) : a=z8G l:=z7t (p.trans (z9o l).symm) h (z6R l)
section
variable {prog : Program} {w : World} {A : Around} {E : Value->Shared->Prop} {s : Shared}
theorem z7o {l : Addr} {T : String} {o : Obj} {vs : List Value} {n : Nat} {ns : List Int} {Q : Value->Shared->Prop} (hT : T = "list" ∨ T = "tuple") (ho : s.heap.get? l=some o) (hc : o.cls = .type T) (hd : o.data = .seq vs.toArray n) (hI : IntsAre vs ns) (h64 : vs.length < 64)
    (h : ∀ (h1 h' : Heap) (out : List Value) (e : Nat) (ns' : List Int),(∀ b o',s.heap.get? b=some o'->h1.get? b=some o')->(∀ b o',h1.get? b=some o'->h'.get? b=some o')->h'.get? h1.objs.size=some { cls:=.type "list",data:=.seq out.toArray e }->IntsAre out ns'->ns'.Perm ns->ns'.Pairwise (· ≤ ·)->Q (.ref h1.objs.size) { s with heap:=h' }) :
    wpAny (model prog w) A (call (.builtin "sorted") [.ref l]) Q E s:=by
  refine Calls.call_function_entry kind_sorted plain_sorted entry_sorted (args_sorted1 _) ?_
  unfold Builtin.«sorted»
  refine wpAny_bind (m:=checkCount "sorted" 1 1 _) (wpAny_pure ?_)
  refine wpAny_bind (wpAny_collect_seq l hT ho hc hd (fun h1 k1=>?_) (by rw [List.size_toArray,sizeLine_eq]; omega))
  rw [List.toList_toArray]
  refine wpAny_bind (wpAny_newList ?_)
  have hoL : (h1.push (seqObj "list" vs.toArray 0)).get? h1.objs.size=some (seqObj "list" vs.toArray 0):=Heap.get?_push_size _ rfl
  show wpAny _ _ _ _ _ { s with heap:=h1.push (seqObj "list" vs.toArray 0) }
  refine wpAny_bind (wpAny_holding (wpAny_call_entry slot_list_sort ⟨_,hoL,rfl⟩ entry_list_sort (list_sort_tree hoL hI h64 fun out ns' a1 a2 a3=>⟨_,rfl,?_⟩) (args_list_sort _)))
  obtain ⟨e,he⟩:=sortedHeap_at (out:=out) hoL
  refine wpAny_pure ⟨_,rfl,h h1 _ out.toList e ns' k1 (fun b o' hb=>?_) (by simpa [seqObj] using he) a1 a2 a3⟩
  have hlt : b < h1.objs.size:=Heap.lt_size hb
  rw [sortedHeap_old (Nat.ne_of_lt hlt) (by rw [size_push']; exact Nat.lt_succ_of_lt hlt)]
  exact Heap.get?_push_of_some _ hb
end
section
variable {X : Cx}
theorem intsV : ∀ {ns : List Int} {vs : List Value},IntsAre vs ns->Vals (ns.map V.int) vs
  | _,_,.nil=>.nil
  | _,_,.cons n t r=>.cons ⟨t,rfl⟩ (intsV r)
theorem z7L : ∀ {ns : List Int} {vs : List Value},Vals (ns.map V.int) vs->IntsAre vs ns
  | [],_,.nil=>.nil
  | n :: ns,_,.cons ⟨t,e⟩ r=>by subst e; exact .cons n t (z7L r)
theorem z9u : z5H X (.builtin "sorted") (fun xs H Q=>∃ (p : Addr) (ns : List Int),xs=[.ref p]∧(SqL X.K H p (ns.map V.int)∨SqT X.K H p (ns.map V.int))∧ns.length < 64∧∀ l,H l=none->Q (.ref l) (upd H l (.lst ((z8G ns).map V.int)))):=by
  intro pins s σ H xs us Q I r h
  obtain ⟨p,ns,rfl,hq,h64,q⟩:=h
  obtain ⟨u,rfl,rx⟩:=z9g r
  cases rx
  have fin : ∀ (its : List Value),Vals (ns.map V.int) its->∀ (h1 h' : Heap) (out : List Value) (e : Nat) (ns' : List Int),(∀ b o',s.heap.get? b=some o'->h1.get? b=some o')->(∀ b o',h1.get? b=some o'->h'.get? b=some o')->h'.get? h1.objs.size=some { cls:=.type "list",data:=.seq out.toArray e }->IntsAre out ns'->ns'.Perm ns->ns'.Pairwise (· ≤ ·)->EP X pins σ Q (.ref h1.objs.size) { s with heap:=h' }:=by
    intro its rv h1 h' out e ns' k1 k2 ho hi hp hs
    have es:=z8j hp hs
    subst es
    have I1 : Inv X pins σ H { s with heap:=h1 }:=I.kept (t':=s.toks) k1
    refine ⟨.ref h1.objs.size,_,Inv.laid (s:={ s with heap:=h1 }) (t':=s.toks) I1 k2 (Nat.le_refl _) (show ObjOk X.prog X.w _ h' _ (.lst ((z8G ns).map V.int)) from ⟨?_,out,e,intsV hi,ho⟩),rfl,q _ (I1.hok.fresh (Nat.le_refl _))⟩
    rw [List.length_map,hp.length_eq,sizeLine_eq]
    omega
  rcases hq with hq | hq
  · obtain ⟨its,rv,⟨o,n,e,c,_,d⟩,hz⟩:=I.list hq
    have hlen : its.length=ns.length:=by have:=rv.length; simpa using this.symm
    exact z7o (.inl rfl) e c d (z7L rv) (by omega) (fin its rv)
  · obtain ⟨its,o,n,rv,e,c,_,d,hz⟩:=I.tupleO hq
    have hlen : its.length=ns.length:=by have:=rv.length; simpa using this.symm
    exact z7o (.inr rfl) e c d (z7L rv) (by omega) (fin its rv)
noncomputable def y1K : List D->Option (List D)
  | [.lst ds]=>(z2y ds).bind fun ns=>if ns.length < 64 then some ((z8G ns).map .int) else none
  | [.tup ds]=>(z2y ds).bind fun ns=>if ns.length < 64 then some ((z8G ns).map .int) else none
  | _=>none
theorem z9d {ds es : List D} (h : ((z2y ds).bind fun ns=>if ns.length < 64 then some ((z8G ns).map D.int) else none)=some es) : ∃ ns : List Int,ds=ns.map D.int∧ns.length < 64∧es=(z8G ns).map D.int:=by
  cases e : z2y ds with
  | none=>rw [e] at h; cases h
  | some ns=>
    rw [e,Option.bind_some] at h
    split at h
    · cases h
      exact ⟨ns,z5g e,by assumption,rfl⟩
    · cases h
theorem ol_sort {K : PySem.W.Frag} : OpL K (fun xs H Q=>∃ (p : Addr) (ns : List Int),xs=[.ref p]∧(SqL K H p (ns.map V.int)∨SqT K H p (ns.map V.int))∧ns.length < 64∧∀ l,H l=none->Q (.ref l) (upd H l (.lst ((z8G ns).map V.int)))) y1K:=by
  intro H B ds es vs Q hB hr q k
  unfold y1K at q
  split at q
  · obtain ⟨ns,rfl,h64,rfl⟩:=z9d q
    obtain ⟨v,rfl,r⟩:=z4K hr
    unfold Rep at r
    obtain ⟨a,xs,rfl,_,h,rs⟩:=r
    have ex:=z5u rs
    subst ex
    exact ⟨a,ns,rfl,.inl (SqL.of h),h64,fun l hl=>k l _ _ (z0w hl) hl z0s (z2m _)⟩
  · obtain ⟨ns,rfl,h64,rfl⟩:=z9d q
    obtain ⟨v,rfl,r⟩:=z4K hr
    unfold Rep at r
    obtain ⟨a,xs,rfl,h,rs⟩:=r
    have ex:=z5u rs
    subst ex
    exact ⟨a,ns,rfl,.inr h,h64,fun l hl=>k l _ _ (z0w hl) hl z0s (z2m _)⟩
  · cases q
variable {e : Expr} {f : DE} {p pos : Pos}
theorem y3p (hg : Gl X "sorted") (hm : X.mg "sorted" = none) (h : PD X e f) (he : starEach [e] X.env=[(false,eval e X.env)]:=by rfl) : PF X (.Call (.Name "sorted" p) [e] [] pos) (z1T y1K [f]):=
  (z6i z9u hg hm boot_sorted (z0a h z0c he) (by decide) (by decide) he rfl).imp (callL ol_sort)
end
end L2
namespace L2
open PySem PySem.Spec PyProof.Rows
section
variable {prog : Program} {w : World} {A : Around} {s : Shared} {R : Result->Shared->Prop}
variable {I : Addr} {fp wr : List Addr} {G : Array GenState->Array GenState->Prop} {n : Nat} {P : Nat->Value->Prop} {St : Nat->Shared->Prop}
theorem y1S : typeLookup (.type "list_reverseiterator") "__len__" = pure none:=by rw [typeLookup_type,builtinLookup_eq_fast]; kernel_rfl
theorem y5v : typeLookup (.type "list_reverseiterator") "__length_hint__" = pure (some (.builtin "list_reverseiterator.__length_hint__")):=by rw [typeLookup_type,builtinLookup_eq_fast]; kernel_rfl
theorem z5Z (W : WalksS prog w A.in1 I fp wr G n P St) (hT : ∀ i s,St i s->s.TypeIs (.ref I) "list_reverseiterator") (S : Addr) (res : Value) (c₀ : Nat) (hst : St 0 s) (hSf : S ∉ fp) (hI : I∈fp)
    (hS : s.heap.get? S=some { cls:=.type "list",data:=.seq #[] c₀ })
    (hR : ∀ s' acc' c',Moved (S :: wr) G s s'->s'.heap.get? S=some { cls:=.type "list",dict:=none,data:=.seq acc' c',slots:=#[] }->ItemsOf P acc' n->R (.ok (.ret res)) s') (hn : n≤sizeLine:=by size_fits) :
    wpAny (model prog w) A.in1 (Builtin.List.listExtendWith (.ref S) (.ref I) res)
      (fun fin s'=>match fin with | .done f=>R (.ok f) s' | .again c'=>c'.quiet=true∧codeAny (model prog w) A c' R s') (fun e s'=>R (.error e) s') s:=by
  have hSI : S≠I:=fun e=>hSf (e ▸ hI)
  unfold Builtin.List.listExtendWith
  refine wpAny_bind (wpAny_typeOf (hT 0 _ hst) ?_)
  have h1 : Builtin.List.listSameRef (.ref S) (.ref I)=false:=by simp [Builtin.List.listSameRef,hSI]
  have h2 : (Value.type "list_reverseiterator" == Value.type "list")=false:=by decide
  have h3 : (Value.type "list_reverseiterator" == Value.type "tuple")=false:=by decide
  simp only [h1,h2,h3,Bool.or_false,Bool.false_eq_true,if_false]
  refine wpAny_bind (W.self 0 _ _ _ hst ?_)
  refine wpAny_bind (wpAny_holding ?_)
  unfold Builtin.List.listLengthHint
  refine wpAny_bind (wpAny_specialOf (hT 0 _ hst) y1S ?_)
  show wpAny _ A.in1 (specialOf (Value.ref I) (Str.ofString "__length_hint__") >>= _) _ _ _
  refine wpAny_bind (wpAny_specialOf (hT 0 _ hst) y5v ?_)
  generalize hid : ("list_reverseiterator.__length_hint__" : String)=id0
  wp_delta
  rw [show splitId id0=some ("list_reverseiterator", "__length_hint__") from by subst hid; decide +kernel]
  subst hid
  refine wpAny_bind (wpAny_isInstance (T := "list_reverseiterator") (b:=true) (hT 0 _ hst) (by rw [isSubtype_type]; kernel_rfl) ?_)
  refine wpAny_ite_split (fun hab=>absurd hab (by decide)) (fun _=>?_)
  refine wpAny_ite_split (fun _=>?_) (fun hab=>absurd (by decide +kernel) hab)
  refine wpAny_ite_split (fun hab=>absurd hab (by decide +kernel)) (fun _=>?_)
  refine wpAny_pure ?_
  refine wpAny_ite_split (fun hab=>absurd hab (by decide +kernel)) (fun _=>?_)
  refine wpAny_pure ⟨plainId_quiet F.plain_extend_loop _,codeAny_extend_loopS W hn _ hSf _ n 0 _ _ _ rfl (Nat.zero_le _) hst hS (ItemsOf.nil P) fun s' acc' c' hm hS' hacc=>?_⟩
  exact hR s' acc' c' hm hS' hacc
theorem z4P (W : WalksS prog w A.in1 I fp wr G n P St) (hT : ∀ i s,St i s->s.TypeIs (.ref I) "list_reverseiterator") (S : Addr) (hst : St 0 s) (hSf : S ∉ fp) (hI : I∈fp)
    (hS : s.heap.get? S=some { cls:=.type "list",data:=.seq #[] })
    (hR : ∀ s' acc' c',Moved (S :: wr) G s s'->s'.heap.get? S=some { cls:=.type "list",dict:=none,data:=.seq acc' c',slots:=#[] }->ItemsOf P acc' n->R (.ok (.ret .none)) s') (hn : n≤sizeLine:=by size_fits) :
    wpAny (model prog w) A.in1 (Builtin.«list.__init__» ⟨[.ref S,.ref I],[]⟩)
      (fun fin s'=>match fin with | .done f=>R (.ok f) s' | .again c'=>c'.quiet=true∧codeAny (model prog w) A c' R s') (fun e s'=>R (.error e) s') s:=by
  show wpAny _ A.in1 (do let old ← Builtin.List.listItems (.ref S); Builtin.List.listUpdate (.ref S) (fun _=>#[]); letGo old.toList.reverse; Builtin.List.listExtendWith (.ref S) (.ref I) .none) _ _ s
  refine wpAny_bind ?_
  unfold Builtin.List.listItems
  refine wpAny_bind (wpAny_seqItems hS rfl (wpAny_pure ?_))
  show wpAny _ A.in1 (updateSeq S (fun _=>#[]) >>= fun _=>letGo (#[] : Array Value).toList.reverse >>= fun _=>Builtin.List.listExtendWith (.ref S) (.ref I) .none) _ _ s
  refine wpAny_bind (wpAny_updateSeq hS rfl ?_)
  have hS₂:=Heap.get?_update_self (Obj.mapSeq (fun _=>(#[] : Array Value))) hS rfl
  have oth : ∀ b o,b≠S->s.heap.get? b=some o->(s.heap.update S (Obj.mapSeq (fun _=>(#[] : Array Value)))).get? b=some o:=
    fun b o hb e=>(Heap.get?_update_other _ _ (Ne.symm hb)).trans e
  refine wpAny_bind (wpAny_letGo ?_)
  refine z5Z (hn:=hn) W hT S .none _ (W.frame 0 s _ s.toks hst (Nat.le_refl _) fun b hb o e=>oth b o (fun h=>hSf (h ▸ hb)) e) hSf hI hS₂ fun s' acc' c' hm hS' hacc=>?_
  exact hR s' acc' c' (Moved.trans W.gtrans ((Moved.refl W.grefl).then_heap (Nat.le_refl _) fun b o hb e=>oth b o (fun h=>hb (h ▸ List.mem_cons_self)) e) hm) hS' hacc
end
section
variable {prog : Program} {w : World} {A : Around} {E : Value->Shared->Prop} {s : Shared}
theorem z8s {Q : Value->Shared->Prop} {l I : Addr} {its : List Value} (hh : A.handled=none) (hne : l≠I) (hit : s.heap.IsRevIter I l ((its.length : Int) - 1)) (hl : s.heap.IsList l its.toArray) (hI : I < s.heap.objs.size) (hn : its.length≤sizeLine)
    (hQ : ∀ h' tk c',(∀ b o,b≠I->s.heap.get? b=some o->h'.get? b=some o)->h'.get? s.heap.objs.size=some { cls:=.type "list",dict:=none,data:=.seq its.reverse.toArray c',slots:=#[] }->Q (.ref s.heap.objs.size) { s with heap:=h',toks:=tk }) :
    wpAny (model prog w) A (call (.type "list") [.ref I]) Q E s:=by
  have W:=(Walks.listRev (prog:=prog) (w:=w) (A:=A.in1.in1) hh I l hne its.toArray).toS
  have hll : l < s.heap.objs.size:=by obtain ⟨o,e,_⟩:=hl; exact Heap.lt_size e
  have hSf : s.heap.objs.size ∉ [I,l]:=fun hm=>by
    rcases List.mem_cons.mp hm with e | e
    · exact Nat.lt_irrefl _ (e ▸ hI)
    · exact Nat.lt_irrefl _ ((List.mem_singleton.mp e) ▸ hll)
  have hlen : its.toArray.size=its.length:=by simp
  refine callType_codes (Q₁:=fun obj s₁=>obj = .ref s.heap.objs.size∧s₁ = { s with heap:=s.heap.push { cls:=.type "list",data:=.seq #[] } }) F.called_list (F.typeCall_list_1 _) F.entry_list_init
    (code_list_new _ ⟨rfl,rfl⟩) fun obj s₁ h₁=>?_
  obtain ⟨rfl,rfl⟩:=h₁
  have hS : (s.heap.push { cls:=.type "list",data:=.seq #[] }).get? s.heap.objs.size=some { cls:=.type "list",data:=.seq #[] }:=Heap.get?_push_size _ rfl
  refine ⟨⟨_,hS,rfl⟩,F.args_list_init_2 _ _,z4P (hn:=by rw [hlen]; exact hn) W (fun i s x=>x.2.1.typeIs) _ ⟨Nat.zero_le _,?_,hl.at fun o e=>Heap.get?_push_of_some _ e⟩ hSf (List.mem_cons_self ..) hS fun s' acc' c' hm hS' hacc=>?_⟩
  · have e : ((its.toArray.size : Nat) : Int) - 1 - ((0 : Nat) : Int)=(its.length : Int) - 1:=by rw [hlen]; omega
    rw [e]
    exact hit.at fun o e=>Heap.get?_push_of_some _ e
  · have ea : acc'=its.reverse.toArray:=by
      obtain ⟨h1,h2⟩:=hacc
      apply Array.ext_getElem?
      intro i
      by_cases hi : i < acc'.size
      · have h3:=h2 i acc'[i] (Array.getElem?_eq_getElem hi)
        have hi' : i < its.length:=by rw [← hlen,← h1]; exact hi
        rw [Array.getElem?_eq_getElem hi,List.getElem?_toArray,List.getElem?_reverse hi',← h3,hlen,List.getElem?_toArray]
      · rw [Array.getElem?_eq_none (by omega),List.getElem?_toArray,List.getElem?_eq_none (by rw [List.length_reverse]; omega)]
    subst ea
    rw [Moved.eq_with hm]
    exact ⟨rfl,hQ s'.heap s'.toks c' (fun b o hb e=>hm.heap b o (fun hmem=>by
      rcases List.mem_cons.mp hmem with e' | hmem
      · exact absurd (Heap.lt_size e) (by rw [e']; exact Nat.lt_irrefl _)
      · exact hb (List.mem_singleton.mp hmem)) (Heap.get?_push_of_some _ e)) hS'⟩
end
section
variable {X : Cx}
theorem y6G {xs : List V} {us : List Value} (h : Vals xs us) : Vals xs.reverse us.reverse:=by
  induction h with
  | nil=>exact .nil
  | cons r _ ih=>
    rw [List.reverse_cons,List.reverse_cons]
    exact ih.append (.cons r .nil)
noncomputable def tRevO (K : PySem.W.Frag) (te : TE) : TE:=fun σ H Q=>te σ H fun x H1=>∃ p ys,x = .ref p∧SqL K H1 p ys∧∀ l,H1 l=none->Q (.ref l) (upd H1 l (.lst ys.reverse))
theorem y2l {e : Expr} {te : TE} {p p2 pos pos2 : Pos} (hc : X.calm=true) (hg : Gl X "list") (hm : X.mg "list" = none) (hg2 : Gl X "reversed") (hm2 : X.mg "reversed" = none) (h : PE X e te) (he2 : starEach [e] X.env=[(false,eval e X.env)])
    (he : starEach [.Call (.Name "reversed" p2) [e] [] pos2] X.env=[(false,eval (.Call (.Name "reversed" p2) [e] [] pos2) X.env)]) : PE X (.Call (.Name "list" p) [.Call (.Name "reversed" p2) [e] [] pos2] [] pos) (tRevO X.K te):=by
  intro pins s σ H Q I hq
  refine wpAny_Call_Name_kw (z5e I hg hm PyProof.Rows.Boot.«list» (PyProof.Rows.callWith_type1 ?_ he rfl) (by decide) (by decide))
  rw [he]
  show wpAny _ _ (spliced [(false,eval (.Call (.Name "reversed" p2) [e] [] pos2) X.env)]) _ _ s
  refine Calls.spliced_cons ?_
  refine wpAny_Call_Name_kw (z5e I hg2 hm2 boot_reversed (PyProof.Rows.callWith_type1 (thn ((z1Y h pa_nil he2) pos2 pins s σ H (fun vs H1=>match vs with
    | [x]=>∃ p ys,x = .ref p∧SqL X.K H1 p ys∧∀ l,H1 l=none->Q (.ref l) (upd H1 l (.lst ys.reverse))
    | _=>False) I hq) fun us s1 ⟨vs,H1,I1,r1,q1⟩=>?_) he2 rfl) (by decide) (by decide))
  cases r1 with
  | nil=>exact q1.elim
  | cons rx rr=>
    cases rr with
    | cons _ _=>exact q1.elim
    | nil=>
      obtain ⟨a,ys,rfl,hs,k⟩:=q1
      cases rx
      obtain ⟨its,rv,pl,hz⟩:=I1.list hs
      have hl:=pl.isList
      have hlen:=rv.length
      refine call_reversed_list hl ?_
      have eI : (its.toArray.size : Int) - 1=(its.length : Int) - 1:=by simp
      rw [eI]
      have I2 : Inv X pins σ H1 { s1 with heap:=s1.heap.push (revObj a ((its.length : Int) - 1)) }:=I1.kept (t':=s1.toks) fun b o e=>Heap.get?_push_of_some _ e
      refine Calls.spliced_nil ?_
      have al : a < s1.heap.objs.size:=by obtain ⟨o,e,_⟩:=hl; exact Heap.lt_size e
      refine z8s (l:=a) (its:=its) (I2.ok.hd hc) (Nat.ne_of_lt al) ⟨_,Heap.get?_push_size _ rfl,rfl,rfl⟩ (hl.at fun o e=>Heap.get?_push_of_some _ e) (by rw [size_push']; exact Nat.lt_succ_self _) (by omega) fun h' tk c' kp e=>?_
      obtain ⟨f0,f1,f2,f3,f4,f5⟩:=I1.fpOk (b:=s1.heap.objs.size) (Nat.le_refl _) (I1.hok.fresh (Nat.le_refl _))
      have I3 : Inv X pins σ (upd H1 (s1.heap.push (revObj a ((its.length : Int) - 1))).objs.size (.lst ys.reverse)) { s1 with heap:=(s1.heap.push (revObj a ((its.length : Int) - 1))).push { cls:=.type "list",dict:=none,data:=.seq its.reverse.toArray c',slots:=#[] } }:=
        I2.laid (t':=s1.toks) (fun b o e=>Heap.get?_push_of_some _ e) (Nat.le_refl _) (show ObjOk X.prog X.w _ _ _ (.lst ys.reverse) from ⟨by rw [List.length_reverse]; exact hz,its.reverse,c',y6G rv,Heap.get?_push_size _ rfl⟩)
      have hne : (s1.heap.push (revObj a ((its.length : Int) - 1))).objs.size≠s1.heap.objs.size:=by rw [size_push']; exact Nat.succ_ne_self _
      have I4:=I3.turned (h':=h') (t':=tk) (it:=s1.heap.objs.size) (fun b o hb eb=>by
        rcases Heap.get?_push_cases eb with ⟨rfl,rfl⟩ | eb
        · exact e
        · exact kp b o hb eb) (by unfold upd; rw [if_neg (Ne.symm hne)]; exact f0) f1 f3 f4 f5
      exact ⟨.ref _,_,I4,rfl,k _ (I2.hok.fresh (Nat.le_refl _))⟩
noncomputable def revF : List D->Option (List D)
  | [.lst ds]=>some ds.reverse
  | _=>none
theorem y1y {K : PySem.W.Frag} {H : Hp} {B : Addr->Prop} : ∀ {ds : List D} {xs : List V},Reps K H B ds xs->Reps K H B ds.reverse xs.reverse
  | [],xs,h=>by
    unfold Reps at h
    subst h
    exact .nil
  | d :: ds,xs,h=>by
    unfold Reps at h
    obtain ⟨x,r,rfl,rx,rr⟩:=h
    rw [List.reverse_cons,List.reverse_cons]
    exact (y1y rr).append (.cons rx .nil)
theorem y2B {e : Expr} {f : DE} {p p2 pos pos2 : Pos} (hc : X.calm=true) (hg : Gl X "list") (hm : X.mg "list" = none) (hg2 : Gl X "reversed") (hm2 : X.mg "reversed" = none) (h : PD X e f) (he2 : starEach [e] X.env=[(false,eval e X.env)]:=by rfl)
    (he : starEach [.Call (.Name "reversed" p2) [e] [] pos2] X.env=[(false,eval (.Call (.Name "reversed" p2) [e] [] pos2) X.env)]:=by rfl) : PF X (.Call (.Name "list" p) [.Call (.Name "reversed" p2) [e] [] pos2] [] pos) (z1T revF [f]):=
  (y2l hc hg hm hg2 hm2 h he2 he).imp fun σ H Q z_=>by
    obtain ⟨B,δ,ds,hB,S,q,k⟩:=z_
    unfold z1T z0k z0k at q
    cases e1 : f δ with
    | none=>rw [e1] at q; cases q
    | some d=>
    rw [e1] at q
    have q : revF [d]=some ds:=q
    unfold revF at q
    split at q
    · rename_i es z
      cases z
      cases q
      refine ⟨B,δ,_,hB,S,e1,fun v H1 s1 r1=>?_⟩
      unfold Rep at r1
      obtain ⟨a,xs,rfl,_,ha,rs⟩:=r1
      exact ⟨a,xs,rfl,SqL.of ha,fun l hl=>k l _ _ (s1.trans (z0w hl)) (s1.free hl) z0s ((y1y rs).mono (z0w hl))⟩
    · cases q
end
end L2
namespace L2
open PySem PySem.Spec PyProof.Rows
noncomputable def Thr (h : Heap) (e T : Addr) (cls : Value) : Prop:=∃ oe vs oT ts,h.get? e=some oe∧oe.cls=cls∧oe.data = .fields vs∧vs[1]? = some (.ref T)∧T≠e∧h.get? T=some oT∧oT.data = .fields ts∧ts[3]? = some .none∧oe.dict=none
structure Gone (S ch : List Addr) (e : Addr) (cls : Value) (h h' : Heap) : Prop where
  keep : ∀ b o,b ∉ S->b ∉ ch->h.get? b=some o->h'.get? b=some o
  slot : ∀ b o,b∈S->b ∉ ch->h.get? b=some o->∃ sl,h'.get? b=some { o with slots:=sl }
  there : ∀ b o,h.get? b=some o->∃ o',h'.get? b=some o'
  thr : ∃ T,h.objs.size≤T∧Thr h' e T cls
section
variable {M : Model} {A : Around} {E : Value->Shared->Prop} {s : Shared}
end
end L2
namespace L2
open PySem PySem.Spec PyProof.Rows
section
variable {X : Cx} {pins : List (Addr × Obj)} {σ : St} {H : Hp} {s : Shared}
end
noncomputable def CXE (P : Program) (w : World) : CXT:=fun outer H s E e s'=>∃ (ea T : Addr) (cls : Value) (H' : Hp),e = .ref ea∧s'.os=s.os∧AllBare s'.gens∧Un (frs outer) [] H H' s.heap s'.heap∧HOk P w H' s'.heap ∧
  s.heap.get? ea=none∧s.heap.get? T=none∧H' ea=none∧H' T=none∧Thr s'.heap ea T cls∧E cls none H'
section
variable {P : Program} {w : World} {K : PySem.W.Frag} {mg : Str->Option Value} {base : Heap} {N : List Str} {qual : Str} {scope : Scope} {f : Addr} {cd : Value} {A : Around} {outer : List Env} {s : Shared} {H : Hp} {E : XK}
end
end L2
namespace L2
open PySem PySem.Spec PyProof.Rows
section
variable {X : Cx} {x : Str} {C : Addr} {B Bn newId nid initId inN : String} {bm bmN : List Value} {np cpos pos : Pos} {e₀ : Expr} {te : TE}
variable {H0 : Hp} {B0 : Addr->Prop} {fr : Bool} {RX : XR}
end
end L2
namespace L2
open PySem PySem.Spec PyProof.Rows
inductive XO where
  | val (d : D) | exc (c : Nat)
section
variable {P : Program} {w : World} {K : PySem.W.Frag} {mg : Str->Option Value} {base : Heap}
structure DefX (P : Program) (w : World) (K : PySem.W.Frag) (mg : Str->Option Value) (base : Heap) (k : Nat) (x : Str) (sp : Sp) : Prop where
  ok : ∃ (f : Addr) (fd : FuncData) (ps : List Str),mg x=some (.ref f)∧PySem.W.keepIn K (.ref f)=true∧Binds K fd ps []∧FnOk P w K mg base (CXE P w) k f fd ps sp
end
section
variable {X : Cx} {k : Nat} {f : Addr} {fd : FuncData} {ps : List Str} {sp : Sp} {cl : Nat->Value} {RX : XR}
end
end L2
namespace L2
open PySem PySem.Spec PyProof.Rows
section
variable {X : Cx} {k : Nat} {sp : Sp} {cl : Nat->Value} {RX : XR} {x : Str} {p pos pos2 : Pos} {e : Expr} {es : List Expr} {t : TA}
variable {H0 : Hp} {B0 : Addr->Prop} {fr : Bool} {F : DS->Option XO}
end
end L2
namespace L2
open PySem PySem.Spec PyProof.Rows
section
variable {X : Cx} {pins : List (Addr × Obj)} {σ : St} {H : Hp} {s : Shared} {e : Value}
end
section
variable {X : Cx} {cls : Value} {x : Str} {C : Addr} {np hpos : Pos} {b₀ : Stmt} {suite : List Stmt} {rest : List ExceptHandler} {t : TS}
end
end L2
namespace L2
open PySem PySem.Spec PyProof.Rows
section
variable {X : Cx} {pins pn : List (Addr × Obj)} {xe : Value->Shared->Prop} {σ : St} {H : Hp} {s : Shared}
end
section
variable {X : Cx} {H0 : Hp} {B0 : Addr->Prop} {fr : Bool} {RX : XR} {cl : Nat->Value} {body : List Stmt} {h₀ : ExceptHandler} {hs : List ExceptHandler} {pos : Pos}
end
end L2
namespace L2
open PySem PySem.Spec PyProof.Rows
section
variable {K : PySem.W.Frag} {H0 H : Hp} {B0 : Addr->Prop} {σ : St} {δ : SS} {R : Nat->List Addr}
noncomputable def movS (i j : Nat) (d : D) (δ : SS) : SS:=((z0B j δ).set j none).set i (some (.ow d))
theorem z7I {i j k : Nat} {d : D} {x : SD} (h : (movS i j d δ)[k]? = some (some x)) : (k=i∧x = .ow d∧i < δ.length)∨(k≠i∧k≠j∧δ[k]? = some (some x)∧∀ d,x≠.bo j d):=by
  unfold movS at h
  rcases z2P h with ⟨e,q,hl⟩ | ⟨hk,q⟩
  · cases q
    refine .inl ⟨e,rfl,?_⟩
    rw [List.length_set] at hl
    unfold z0B at hl
    rwa [List.length_map] at hl
  · rcases z2P q with ⟨e,q',_⟩ | ⟨hj,q'⟩
    · cases q'
    · exact .inr ⟨hk,hj,z4q q'⟩
theorem RS.mov {i j : Nat} {d : D} {v : V} (hij : i≠j) (h : RS K H0 B0 H σ δ R) (t : Tree K H d v (R j)) (nd : (R j).Nodup) : RS K H0 B0 H (σ.set i (some v)) (movS i j d δ) (z8H (z8H R j []) i (R j)):=by
  have up : ∀ {k : Nat} {w : V},k≠i->σ[k]? = some (some w)->(σ.set i (some v))[k]? = some (some w):=fun hj e=>by rw [List.getElem?_set_ne (Ne.symm hj)]; exact e
  have mem : ∀ r a,a∈z8H (z8H R j []) i (R j) r->(r=i∧a∈R j)∨(r≠i∧r≠j∧a∈R r):=fun r a z=>by
    by_cases hr : r=i
    · subst hr; rw [z0V] at z; exact .inl ⟨rfl,z⟩
    · rw [z1x hr] at z
      by_cases hj : r=j
      · subst hj; rw [z0V] at z; cases z
      · rw [z1x hj] at z; exact .inr ⟨hr,hj,z⟩
  refine ⟨h.keep,h.inB,by unfold movS z0B; simp [h.len],fun r a z=>?_,fun r a z=>?_,fun r s a z z'=>?_,fun k d' z=>?_,fun k r' d' z=>?_,fun k d' z=>?_⟩
  · rcases mem r a z with ⟨_,z⟩ | ⟨_,_,z⟩ <;> exact h.new _ a z
  · rcases mem r a z with ⟨_,z⟩ | ⟨_,_,z⟩ <;> exact h.held _ a z
  · rcases mem r a z with ⟨h1,z⟩ | ⟨h1,h1',z⟩ <;> rcases mem s a z' with ⟨h2,z'⟩ | ⟨h2,h2',z'⟩
    · rw [h1,h2]
    · exact absurd (h.disj s j a z' z) h2'
    · exact absurd (h.disj r j a z z') h1'
    · exact h.disj r s a z z'
  · rcases z7I z with ⟨_,q,_⟩ | ⟨h1,h2,q,_⟩
    · cases q
    · obtain ⟨w,e1,r⟩:=h.sh k d' q
      refine ⟨w,up h1 e1,r.anti fun a z=>z.imp id fun ⟨r,z⟩=>?_⟩
      rcases mem r a z with ⟨_,z⟩ | ⟨_,_,z⟩ <;> exact ⟨_,z⟩
  · rcases z7I z with ⟨_,q,_⟩ | ⟨h1,h2,q,hn⟩
    · cases q
    · obtain ⟨w,e1,r⟩:=h.bo k r' d' q
      have hr' : r'≠j:=fun e=>hn d' (by rw [e])
      refine ⟨w,up h1 e1,r.anti fun a z=>z.imp id fun ⟨s,hs,z⟩=>?_⟩
      rcases mem s a z with ⟨_,z⟩ | ⟨_,_,z⟩
      · exact ⟨j,Ne.symm hr',z⟩
      · exact ⟨s,hs,z⟩
  · rcases z7I z with ⟨e,q,hl⟩ | ⟨h1,h2,q,_⟩
    · cases q
      subst e
      rw [z0V]
      exact ⟨v,by rw [List.getElem?_set]; simp [← h.len,hl],t,nd⟩
    · obtain ⟨w,e1,t'⟩:=h.ow k d' q
      rw [z1x h1,z1x h2]
      exact ⟨w,up h1 e1,t'⟩
end
section
variable {X : Cx} {H0 : Hp} {B0 : Addr->Prop} {fr : Bool} {RX : XR} {pos : Pos} {st : Stmt}
noncomputable def movO (i j : Nat) : SS->Option Out:=fun δ=>match δ[j]? with
  | some (some (.ow d))=>some (.nx (movS i j d δ))
  | _=>none
theorem s_mov {i j : Nat} (hij : i≠j) (h : PAsg X st i (z9O j)) : PS X st (tS X.K H0 B0 fr RX (movO i j)):=PS.imp h fun D σ H z_=>by
  obtain ⟨δ,R,o,rs,q,k⟩:=z_
  unfold movO at q
  split at q
  · rename_i d e
    cases q
    obtain ⟨v,e1,t,nd⟩:=rs.ow j d e
    refine ⟨v,e1,k _ H _ (rs.mov hij t nd) ⟨fun a o h _=>h,fun r a z=>?_,fun a z=>z⟩⟩
    by_cases hr : r=i
    · subst hr; rw [z0V] at z; exact .inl ⟨j,z⟩
    · rw [z1x hr] at z
      by_cases hj : r=j
      · subst hj; rw [z0V] at z; cases z
      · rw [z1x hj] at z; exact .inl ⟨r,z⟩
  · cases q
end
end L2
namespace L2
open PySem PySem.Spec PyProof.Rows
theorem y6x {X : Cx} {H0 : Hp} {B0 : Addr->Prop} {fr : Bool} {RX : XR} {body : List Stmt} : PSs X body (tS X.K H0 B0 fr RX fun _=>none):=fun _ _ _ _ _ _ ⟨_,_,_,_,e,_⟩=>nomatch e
section
variable {X : Cx}
end
noncomputable def revS : D->Option (List D)
  | .lst ds=>some ds.reverse
  | _=>none
section
variable {X : Cx}
end
end L2
namespace L2
open PySem PySem.Spec PyProof.Rows
noncomputable def y3E (K : PySem.W.Frag) (f : DS->Option (Option D)) : TS:=fun D σ H=>∃ δ o,RepS K H noB σ δ∧f δ=some o∧(match o with
  | none=>∀ H',Same H H'->D.nx σ H'
  | some d=>d.imm=true∧∀ v H',Same H H'->Rep K H' noB d v->D.rt v H')
noncomputable def y0o (fc : DS->Option Bool) (fe : DE) : DS->Option (Option D):=fun δ=>(fc δ).bind fun b=>if b=true then (fe δ).bind fun d=>if d.imm=true then some (some d) else none else some none
section
variable {X : Cx} {c e : Expr} {fc : DS->Option Bool} {fe : DE} {f g : DS->Option (Option D)} {st : Stmt} {sts : List Stmt} {p1 pos : Pos}
theorem RepS.mono' {K : PySem.W.Frag} {H H' : Hp} {B : Addr->Prop} {σ : St} {δ : DS} (h : RepS K H B σ δ) (s : Same H H') : RepS K H' B σ δ:=by
  refine ⟨h.len,fun i d q=>?_⟩
  obtain ⟨v,e,r⟩:=h.get i d q
  exact ⟨v,e,r.mono s⟩
theorem c_if (hc : PTD X c fc) (he : PD X e fe) : PS X (.If c [.Return (some e) p1] [] pos) (y3E X.K (y0o fc fe)):=PS.imp (ps_if hc (y0I (z7q he)) pss_nil) fun D σ H z_=>by
  obtain ⟨δ,o,S,q,k⟩:=z_
  unfold y0o at q
  cases e1 : fc δ with
  | none=>rw [e1] at q; cases q
  | some b=>
    rw [e1] at q
    refine ⟨noB,δ,b,.no,S,e1,fun H1 s1=>?_⟩
    cases b with
    | false=>
      cases q
      exact iteF (k H1 s1)
    | true=>
      have q : ((fe δ).bind fun d=>if d.imm=true then some (some d) else none)=some o:=q
      cases e2 : fe δ with
      | none=>rw [e2] at q; cases q
      | some d=>
        rw [e2] at q
        have q : (if d.imm=true then some (some d) else none)=some o:=q
        split at q
        · cases q
          exact iteT ⟨noB,δ,d,.no,S.mono' s1,e2,fun v H2 s2 r2=>k.2 v H2 (s1.trans s2) r2⟩
        · cases q
theorem y4M (h : PS X st (y3E X.K f)) : PSs X [st] (y3E X.K f):=y0I h
end
noncomputable def y3W (i : Nat) (fb : DS->Option (Option D)) : List D->SS->Option Out
  | [],δ=>some (.nx δ)
  | x :: r,δ=>(fb (z0r (δ.set i (some (.sh x))))).bind fun o=>match o with
    | none=>y3W i fb r (δ.set i (some (.sh x)))
    | some d=>if d.imm=true then some (.rt d) else none
noncomputable def forC (i : Nat) (fi : DS->Option (List D)) (fb : DS->Option (Option D)) : SS->Option Out:=fun δ=>(fi (z0r δ)).bind fun ds=>if z1l ds=true then y3W i fb ds δ else none
theorem y0V : ∀ {ds : List D} {n : Nat} (h : n < ds.length),z1l ds=true->ds[n].imm=true
  | d :: ds,0,_,h=>(Bool.and_eq_true_iff.mp (show (d.imm && z1l ds)=true from h)).1
  | d :: ds,n + 1,hn,h=>y0V (ds:=ds) (n:=n) (by simpa using hn) (Bool.and_eq_true_iff.mp (show (d.imm && z1l ds)=true from h)).2
section
variable {X : Cx} {H0 : Hp} {B0 : Addr->Prop} {fr : Bool} {RX : XR} {pos : Pos}
theorem y7F {i : Nat} {x : Str} {px : Pos} {iter : Expr} {body : List Stmt} {f : DS->Option (List D)} {fb : DS->Option (Option D)} (hp : PassesOwn (model X.prog X.w) X.A X.env X.xe) (hc : X.calm=true) (hi : PID X (.Name x px) iter f) (hg : PG X (.Name x px) (z2N i)) (hb : PSs X body (y3E X.K fb))
    (hs : ∀ x,foldedSetIterable iter X.env x=pure x:=by intro _; rfl) : PS X (.For (.Name x px) iter body [] pos) (tS X.K H0 B0 fr RX (forC i f fb)):=PS.imp (y1b hp hc hi hg hb hs) fun D σ H z_=>by
  obtain ⟨δ,R,o,rs,q,k⟩:=z_
  unfold forC at q
  cases e : f (z0r δ) with
  | none=>rw [e] at q; cases q
  | some ds=>
  rw [e] at q
  have q : (if z1l ds=true then y3W i fb ds δ else none)=some o:=q
  split at q
  case isFalse=>cases q
  rename_i him
  refine ⟨noB,z0r δ,ds,.no,rs.all,e,fun J H1 s1 itw=>?_⟩
  have rs1:=rs.mono s1
  have it:=itw (fun _=>False) fun a z=>z.elim
  refine ⟨fun n m σ' H'=>m=ds.length - n∧n≤ds.length∧∃ δ',RS X.K H0 B0 H' σ' δ' R∧Same H1 H'∧y3W i fb (ds.drop n) δ'=some o,⟨ds.length,by simp,Nat.zero_le _,δ,rs1,.refl H1,q⟩,?_⟩
  rintro n m σ' H' ⟨rfl,hn,δ',rs',s',q'⟩
  have kp : Keep X.K (fun a=>noB a∨False) H1 H':=(Stp.same (R:=fun _=>[]) s').keepB (fun r a z=>nomatch z) (fun r a z=>nomatch z)
  by_cases hlt : n < ds.length
  · have hx : ds.drop n=ds[n] :: ds.drop (n + 1):=List.drop_eq_getElem_cons hlt
    rw [hx] at q'
    unfold y3W at q'
    cases eb : fb (z0r (δ'.set i (some (.sh ds[n])))) with
    | none=>rw [eb] at q'; cases q'
    | some ob=>
      rw [eb] at q'
      refine .inr ⟨it.go n H' kp hlt,fun σ2 H2=>n + 1≤ds.length∧∃ δ2,RS X.K H0 B0 H2 σ2 δ2 R∧Same H1 H2∧y3W i fb (ds.drop (n + 1)) δ2=some o,fun σ2 H2 z=>⟨ds.length - (n + 1),by omega,rfl,z⟩,fun xv H2 hy=>?_⟩
      obtain ⟨s2,d,hd,rd⟩:=it.yld n H' xv H2 kp hy
      have hdi : d=ds[n]:=by
        have:=hd hlt
        rw [List.getElem?_eq_getElem hlt] at this
        exact (Option.some.inj this).symm
      subst hdi
      have rs2:=(rs'.mono s2).setSh (i:=i) (rd.imm _ (y0V hlt him))
      refine ⟨_,ob,rs2.all,eb,?_⟩
      cases ob with
      | none=>
        have q2 : y3W i fb (ds.drop (n + 1)) (δ'.set i (some (.sh ds[n])))=some o:=q'
        exact fun H3 s3=>⟨hlt,_,rs2.mono s3,(s'.trans s2).trans s3,q2⟩
      | some d=>
        have q2 : (if d.imm=true then some (Out.rt d) else none)=some o:=q'
        split at q2
        · rename_i hi
          cases q2
          exact ⟨hi,fun v H3 s3 r=>k v H3 ⟨(rs'.keep.trans s2).trans s3,fun _=>⟨[],r.immTree d hi,List.nodup_nil,(fun a z=>nomatch z)⟩,fun _=>r.imm d hi⟩ fun a z=>((s1.trans s').trans (s2.trans s3)).free z⟩
        · cases q2
  · have en : n=ds.length:=by omega
    subst en
    rw [List.drop_length] at q'
    cases q'
    exact .inl ⟨it.stop _ H' kp (Nat.le_refl _),k σ' H' R rs' (.same (s1.trans s'))⟩
end
end L2
namespace L2
open PySem PySem.Spec PyProof.Rows
section
variable {X : Cx} {x : Str} {C : Addr} {np cpos pos : Pos} {e₀ : Expr} {H0 : Hp} {B0 : Addr->Prop} {fr : Bool} {RX : XR}
end
end L2
namespace L2
open PySem PySem.Spec PyProof.Rows
section
variable {X : Cx} {k : Nat} {cl : Nat->Value} {x : Str} {p pos : Pos} {e : Expr} {es : List Expr}
end
end L2
namespace L2
open PySem PySem.Spec PyProof.Rows
section
variable {X : Cx} {pins : List (Addr × Obj)} {σ : St} {H : Hp} {s : Shared}
end
section
variable {X : Cx} {x n : Str} {C Ca : Addr} {np hpos : Pos} {b₀ : Stmt} {suite : List Stmt} {rest : List ExceptHandler} {t : TS} {i : Nat}
end
section
variable {K : PySem.W.Frag} {H0 H : Hp} {B0 : Addr->Prop} {σ : St} {δ : SS} {R : Nat->List Addr}
end
section
variable {X : Cx} {e : Expr} {f : DE} {y : Str} {p p2 pos : Pos} {L N : List Str}
end
section
variable {X : Cx} {H0 : Hp} {B0 : Addr->Prop} {fr : Bool} {RX : XR} {x n xn : Str} {C Ca : Addr} {np hpos : Pos} {b₀ : Stmt} {suite : List Stmt} {rest : List ExceptHandler} {g : SS->Option Out} {i : Nat}
end
end L2
namespace L2
open PySem PySem.Spec PyProof.Rows
noncomputable def tNs (K : PySem.W.Frag) (f : DS->Option (List D)) : TA:=fun σ H Q=>∃ δ ds,RepS K H noB σ δ∧f δ=some ds∧∀ vs H' A,Same H H'->Trees K H' ds vs A->A.Nodup->(∀ a∈A,H a=none)->Q vs H'
noncomputable abbrev PAN (X : Cx) (es : List Expr) (fl : List DE) : Prop:=PA X es (tNs X.K (z0k fl))
theorem Trees.len {K : PySem.W.Frag} {H : Hp} : ∀ {ds : List D} {xs : List V} {A : List Addr},Trees K H ds xs A->ds.length=xs.length
  | [],_,_,h=>by unfold Trees at h; rw [h.1]; rfl
  | d :: ds,_,_,h=>by
    unfold Trees at h
    obtain ⟨x,r,C,C',rfl,_,h2,_⟩:=h
    simp [Trees.len h2]
section
variable {X : Cx} {e : Expr} {es : List Expr} {pos : Pos}
theorem z9U : PAN X [] []:=pa_nil.imp fun σ H Q z_=>by
  obtain ⟨δ,ds,S,q,k⟩:=z_
  cases q
  exact k [] H [] (.refl H) ⟨rfl,rfl⟩ List.nodup_nil (fun a z=>nomatch z)
theorem z3F {f : DE} {fl : List DE} (ha : PN X e f) (hr : PAN X es fl) (hs : starEach (e :: es) X.env=(false,eval e X.env) :: starEach es X.env:=by rfl) : PAN X (e :: es) (f :: fl):=(z1Y ha hr hs).imp fun σ H Q z_=>by
  obtain ⟨δ,ds,S,q,k⟩:=z_
  obtain ⟨x,xs,e1,e2,rfl⟩:=z5U q
  refine ⟨δ,x,S,e1,fun v H1 A s1 t1 nd1 f1=>⟨δ,xs,S.mono s1,e2,fun vs H2 C s2 t2 nd2 f2=>?_⟩⟩
  refine k (v :: vs) H2 (A ++ C) (s1.trans s2) ?_ ?_ fun a ha=>?_
  · unfold Trees
    exact ⟨v,vs,A,C,rfl,t1.mono s2,t2,rfl⟩
  · refine List.nodup_append.mpr ⟨nd1,nd2,fun a ha b hb z=>?_⟩
    subst z
    obtain ⟨o,q',_⟩:=t1.held x a ha
    rw [f2 a hb] at q'; cases q'
  · rcases List.mem_append.mp ha with z | z
    · exact f1 a z
    · exact s1.free (f2 a z)
theorem y0D {fl : List DE} (h : PAN X es fl) (hl : fl.length≤1000:=by decide) : PN X (.List es pos) (mkL (z0k fl)):=(y3L h).imp fun σ H Q z_=>by
  obtain ⟨δ,d,S,q,k⟩:=z_
  unfold mkL at q
  cases r : z0k fl δ with
  | none=>rw [r] at q; cases q
  | some ds=>
    rw [r] at q
    cases q
    refine ⟨δ,ds,S,r,fun vs H1 A s1 t1 nd fa=>⟨?_,fun p hp=>?_⟩⟩
    · rw [← t1.len,z2X r]
      exact Nat.le_of_lt (z6z hl)
    · have sp:=z0w (o:=.lst vs) hp
      refine k (.ref p) _ (p :: A) (s1.trans sp) ?_ (List.nodup_cons.mpr ⟨fun z=>?_,nd⟩) fun a ha=>?_
      · unfold Tree
        exact ⟨p,vs,A,rfl,z0s,t1.mono sp,rfl⟩
      · obtain ⟨o,q',_⟩:=Trees.held ds t1 p z
        rw [hp] at q'; cases q'
      · rcases List.mem_cons.mp ha with z | z
        · rw [z]; exact s1.free hp
        · exact fa a z
variable {H0 : Hp} {B0 : Addr->Prop} {RX : XR} {a b : Expr} {pos' : Pos}
noncomputable def y2P (δ : SS) (i : Nat) : Option D:=match δ[i]? with
  | some (some (.ow d))=>some d
  | some (some (.sh d))=>if d.imm=true then some d else none
  | _=>none
noncomputable def ret2 (i j : Nat) : SS->Option Out:=fun δ=>match y2P δ i,y2P δ j with
  | some d,some e=>some (.rt (.lst [d,e]))
  | _,_=>none
theorem y5X {K : PySem.W.Frag} {H : Hp} {σ : St} {δ : SS} {R : Nat->List Addr} {i : Nat} {d : D} (rs : RS K H0 B0 H σ δ R) (h : y2P δ i=some d) : ∃ v A,σ[i]? = some (some v)∧Tree K H d v A∧A.Nodup∧∀ a∈A,a∈R i:=by
  unfold y2P at h
  split at h
  · rename_i d' e
    cases h
    obtain ⟨v,e1,t,nd⟩:=rs.ow i _ e
    exact ⟨v,R i,e1,t,nd,fun a z=>z⟩
  · rename_i d' e
    split at h
    · rename_i hi
      cases h
      obtain ⟨v,e1,r⟩:=rs.sh i _ e
      exact ⟨v,[],e1,r.immTree _ hi,List.nodup_nil,(fun a z=>nomatch z)⟩
    · cases h
  · cases h
end
end L2
namespace L2
open PySem PySem.Spec PyProof.Rows
section
variable {X : Cx} {k : Nat} {x : Str} {p pos : Pos} {e : Expr} {es : List Expr}
end
end L2
namespace L2
open PySem PySem.Spec PyProof.Rows
noncomputable def repLs : D->D->Option (List D)
  | .lst ds,.int k=>if (0≤k∧k≤1000000)∧ds.length * k.toNat≤sizeLine then some (List.replicate k.toNat ds).flatten else none
  | _,_=>none
noncomputable def y6j (f g : DE) : DS->Option (List D):=fun δ=>(f δ).bind fun x=>(g δ).bind fun y=>repLs x y
theorem Reps.rep {K : PySem.W.Frag} {H : Hp} {B : Addr->Prop} {ds : List D} {xs : List V} (h : Reps K H B ds xs) : ∀ n : Nat,Reps K H B (List.replicate n ds).flatten (List.replicate n xs).flatten
  | 0=>(show Reps K H B [] [] by unfold Reps; rfl)
  | n + 1=>by
    rw [List.replicate_succ,List.replicate_succ,List.flatten_cons,List.flatten_cons]
    exact h.append (Reps.rep h n)
section
variable {X : Cx} {a b : Expr} {pos : Pos} {f g : DE} {RX : XR}
theorem y1a (ha : PD X a f) (hb : PD X b g) : PF X (.BinOp a .Mult b pos) (y6j f g):=(pe_op op_rep ha hb).imp fun σ H Q z_=>by
  obtain ⟨B,δ,ds,hB,S,q,k⟩:=z_
  unfold y6j at q
  cases e1 : f δ with
  | none=>rw [e1] at q; cases q
  | some x=>
  rw [e1,Option.bind_some] at q
  cases e2 : g δ with
  | none=>rw [e2] at q; cases q
  | some y=>
  rw [e2,Option.bind_some] at q
  unfold repLs at q
  split at q
  case h_2=>cases q
  case h_1 xs n=>
  split at q
  case isFalse=>cases q
  case isTrue hl=>
  cases q
  refine ⟨B,δ,_,hB,S,e1,fun v H1 s1 r1=>⟨B,δ,_,hB.mono s1,S.mono s1,e2,fun v2 H2 s2 r2=>?_⟩⟩
  unfold Rep at r2
  subst r2
  unfold Rep at r1
  obtain ⟨p1,vs,rfl,n1,h1,rs1⟩:=r1
  refine ⟨p1,n,vs,rfl,rfl,s2 _ _ h1,by omega,by omega,by rw [← rs1.length]; exact hl.2,fun p hp=>?_⟩
  exact k p _ _ ((s1.trans s2).trans (z0w hp)) ((s1.trans s2).free hp) z0s (((rs1.mono s2).rep _).mono (z0w hp))
end
end L2
namespace PySem
open Sem (wp)
theorem y0n : typeLookup (.type "dict") "__len__" = pure (some (.builtin "dict.__len__")):=by rw [typeLookup_type,builtinLookup_eq_fast]; kernel_rfl
section
variable {K : Type} [DecidableEq K] {prog : Program} {w : World} {knd : KeyKind prog w K} {A : Around} {E : Value->Shared->Prop} {s : Shared}
theorem z5s {d : Addr} {kvs : List (K × Value)} {ep : Nat} {Q : List Value->Shared->Prop} (hh : A.in1.handled=none) (hd : (d == sysModules)=false) (hm : s.heap.DictAt knd d kvs ep) (hn : kvs.length≤sizeLine)
    (hQ : ∀ s' acc,Moved [] (fun a b=>b=a) s s'->ItemsOf (fun i v=>∃ k x,kvs[i]? = some (k,x)∧knd.is k v=true) acc kvs.length->Q acc.toList s') : wpAny (model prog w) A (collect (.ref d)) Q E s:=by
  have hlt : (d : Nat) < s.heap.objs.size:=hm.lt_size
  have hSd : s.heap.objs.size≠d:=fun e=>Nat.lt_irrefl _ (e ▸ hlt)
  unfold collect
  refine wpAny_bind (wpAny_runValue (codeAny_builtin F.entry_proto_collect ?_))
  rw [Around.under_plainId F.plain_proto_collect _]
  show wpAny _ A.in1 (newList [] >>= fun l=>again (.builtin "list.__iadd__" ⟨[l,.ref d],[]⟩)) _ _ s
  refine wpAny_bind (wpAny_newObj_type ?_)
  refine wpAny_pure ⟨plainId_quiet F.plain_list_iadd _,codeAny_builtin F.entry_list_iadd ?_⟩
  rw [Around.under_plainId F.plain_list_iadd _]
  have hm1:=hm.push { cls:=.type "list",data:=.seq ([] : List Value).toArray }
  have hT1 : ({ s with heap:=s.heap.push { cls:=.type "list",data:=.seq ([] : List Value).toArray } } : Shared).TypeIs (.ref d) "dict" := hm1.dictOf.typeIs
  have h1 : Builtin.List.listSameRef (.ref s.heap.objs.size) (.ref d)=false:=by simp [Builtin.List.listSameRef,hSd]
  show wpAny _ A.in1 (Builtin.List.listExtendWith (.ref s.heap.objs.size) (.ref d) (.ref s.heap.objs.size)) _ _ _
  unfold Builtin.List.listExtendWith
  refine wpAny_bind (wpAny_typeOf hT1 ?_)
  rw [if_neg (by rw [h1]; decide)]
  refine wpAny_bind (wpAny_pyIter_dict hd hm1 ?_)
  refine wpAny_bind (wpAny_holding ?_)
  unfold Builtin.List.listLengthHint
  have hm2:=hm1.push { cls:=.type "dict_keyiterator",data:=.fields #[.ref d,.int 0 0,.int kvs.length 0,.int ep 0] }
  have hT2:=hm2.dictOf.typeIs (s:={ s with heap:=(s.heap.push { cls:=.type "list",data:=.seq ([] : List Value).toArray }).push { cls:=.type "dict_keyiterator",data:=.fields #[.ref d,.int 0 0,.int kvs.length 0,.int ep 0] } })
  refine wpAny_bind (wpAny_specialOf hT2 y0n ?_)
  (generalize hid : ("dict.__len__" : String)=id0; (fail_if_success (clear hid id0)); wp_delta; rw [show splitId id0=some ("dict", "__len__") from by subst hid; decide +kernel]; subst hid)
  refine wpAny_bind (wpAny_isInstance (b:=true) hT2 (by rw [isSubtype_type]; kernel_rfl) ?_)
  show wpAny _ A.in1 (typeOf (Value.ref d) >>= _) _ _ _
  refine wpAny_bind (wpAny_typeOf hT2 ?_)
  refine wpAny_pure ?_
  show wpAny _ A.in1 (rule "list.extend.makes-room" >>= fun _=>Builtin.List.listTouch (.ref s.heap.objs.size) >>= fun _=>
    again (.builtin "list.extend.loop" ⟨[.ref s.heap.objs.size,.ref (s.heap.push { cls:=.type "list",data:=.seq ([] : List Value).toArray }).objs.size,.ref s.heap.objs.size],[]⟩)) _ _ _
  refine wpAny_bind (wpAny_rule ?_)
  obtain ⟨hA,eA⟩ : ∃ h : Heap,h=s.heap.push { cls:=.type "list",data:=.seq ([] : List Value).toArray }:=⟨_,rfl⟩
  obtain ⟨hB,eB⟩ : ∃ h : Heap,h=hA.push { cls:=.type "dict_keyiterator",data:=.fields #[.ref d,.int 0 0,.int kvs.length 0,.int ep 0] }:=⟨_,rfl⟩
  have sA : hA.objs.size=s.heap.objs.size + 1:=by rw [eA]; simp [Heap.push]
  have hne : d≠hA.objs.size:=Nat.ne_of_lt (Nat.lt_of_lt_of_le hlt (by rw [sA]; exact Nat.le_succ _))
  have W:=(Walks.dictKeys (A:=A.in1) (prog:=prog) (w:=w) (knd:=knd) hh hA.objs.size d hne kvs ep).toS
  have hIt : hB.IsKeyIter hA.objs.size d 0 kvs.length ep:=⟨_,by rw [eB]; exact Heap.get?_push_size _ rfl,rfl,rfl⟩
  have hDt : hB.DictAt knd d kvs ep:=by rw [eB,eA]; exact hm2
  have hS₁ : hB.get? s.heap.objs.size=some { cls:=.type "list",data:=.seq ([] : List Value).toArray }:=by rw [eB,eA]; exact Heap.get?_push_of_some _ (Heap.get?_push_size _ rfl)
  have hSf : s.heap.objs.size ∉ [hA.objs.size,d]:=fun hm=>by
    rcases List.mem_cons.mp hm with z | z
    · omega
    · exact hSd (List.mem_singleton.mp z)
  rw [← eA,← eB]
  refine wpAny_bind ?_
  show wpAny _ A.in1 (updateSeq s.heap.objs.size (·.push .none) >>= fun _=>updateSeq s.heap.objs.size (·.pop)) _ _ _
  refine wpAny_bind (wpAny_updateSeq hS₁ rfl ?_)
  have hS₂:=Heap.get?_update_self (Obj.mapSeq (·.push Value.none)) hS₁ rfl
  refine wpAny_updateSeq hS₂ rfl ?_
  have hS₃:=Heap.get?_update_self (Obj.mapSeq (·.pop)) hS₂ rfl
  have oth : ∀ b o,b≠s.heap.objs.size->hB.get? b=some o->((hB.update s.heap.objs.size (Obj.mapSeq (·.push Value.none))).update s.heap.objs.size (Obj.mapSeq (·.pop))).get? b=some o:=
    fun b o hb e=>(Heap.get?_update_other _ _ (Ne.symm hb)).trans ((Heap.get?_update_other _ _ (Ne.symm hb)).trans e)
  refine wpAny_pure ⟨plainId_quiet F.plain_extend_loop _,codeAny_extend_loopS W hn _ hSf _ kvs.length 0 _ _ _ rfl (Nat.zero_le _)
    (W.frame 0 ({ s with heap:=hB } : Shared) _ s.toks ⟨hIt,hDt⟩ (Nat.le_refl _) fun b hb o e=>oth b o (fun h=>hSf (h ▸ hb)) e) hS₃ (ItemsOf.nil _) fun s' acc' c' hmv hS' hacc=>?_⟩
  show wpAny _ A (load s.heap.objs.size >>= _) _ _ s'
  refine wpAny_bind (wpAny_load hS' ?_)
  refine wpAny_pure (hQ s' acc' ⟨fun b o _ e=>?_,hmv.gens,hmv.drawn,hmv.os,hmv.toks⟩ hacc)
  have hb : (b : Nat) < s.heap.objs.size:=Heap.lt_size e
  refine hmv.heap b o (fun z=>?_) (oth b o (Nat.ne_of_lt hb) (by rw [eB,eA]; exact Heap.get?_push_of_some _ (Heap.get?_push_of_some _ e)))
  rcases List.mem_cons.mp z with z | z
  · exact Nat.ne_of_lt hb z
  · exact Nat.ne_of_lt (Nat.lt_of_lt_of_le hb (by rw [sA]; exact Nat.le_succ _)) (List.mem_singleton.mp z)
end
end PySem
namespace L2
open PySem PySem.Spec PyProof.Rows
theorem y4q : ∀ {vs : List Value} {ns : List Int},vs.length=ns.length->(∀ (j : Nat) (v : Value) (n : Int),vs[j]? = some v->ns[j]? = some n->∃ t : Tok,v=Value.int n t)->IntsAre vs ns
  | [],[],_,_=>.nil
  | [],_ :: _,h,_=>by cases h
  | _ :: _,[],h,_=>by cases h
  | v :: vs,n :: ns,h,hs=>by
    obtain ⟨t,rfl⟩:=hs 0 v n rfl rfl
    exact .cons n t (y4q (by simpa using h) fun j v n e1 e2=>hs (j + 1) v n (by simpa using e1) (by simpa using e2))
section
variable {prog : Program} {w : World} {A : Around} {E : Value->Shared->Prop} {s : Shared}
theorem y0b {d : Addr} {kvs : List (Key × Value)} {ep : Nat} {ns : List Int} {Q : Value->Shared->Prop} (hh : A.handled=none) (hd : (d == sysModules)=false) (hm : s.heap.DictAt (z1g prog w) d kvs ep) (hk : kvs.map (·.1)=ns.map Sum.inl) (h64 : ns.length < 64)
    (h : ∀ (h1 h' : Heap) (tk : Nat) (out : List Value) (e : Nat) (ns' : List Int),(∀ b o',s.heap.get? b=some o'->h1.get? b=some o')->(∀ b o',h1.get? b=some o'->h'.get? b=some o')->h'.get? h1.objs.size=some { cls:=.type "list",data:=.seq out.toArray e }->IntsAre out ns'->ns'.Perm ns->ns'.Pairwise (· ≤ ·)->Q (.ref h1.objs.size) { s with heap:=h',toks:=tk }) :
    wpAny (model prog w) A (call (.builtin "sorted") [.ref d]) Q E s:=by
  have hl : kvs.length=ns.length:=by rw [← List.length_map (f:=(·.1)),hk,List.length_map]
  refine Calls.call_function_entry kind_sorted plain_sorted entry_sorted (args_sorted1 _) ?_
  unfold Builtin.«sorted»
  refine wpAny_bind (m:=checkCount "sorted" 1 1 _) (wpAny_pure ?_)
  refine wpAny_bind (z5s hh hd hm (by rw [sizeLine_eq]; omega) fun s1 acc mv hit=>?_)
  have hI : IntsAre acc.toList ns:=by
    refine y4q (by rw [Array.length_toList,hit.1,hl]) fun j v n e1 e2=>?_
    obtain ⟨k,x,e3,e4⟩:=hit.2 j v (by rw [← e1]; simp)
    have e5 : (kvs.map (·.1))[j]? = some k:=by rw [List.getElem?_map,e3]; rfl
    rw [hk,List.getElem?_map,e2] at e5
    cases e5
    rcases z0S (show z9S (Sum.inl n) v=true from e4) with ⟨i,t,z1,z2⟩ | ⟨y,t,z1,z2⟩
    · cases z1; exact ⟨t,z2⟩
    · cases z1
  have es:=Moved.eq_with mv
  refine wpAny_bind (wpAny_newList ?_)
  have hoL : (s1.heap.push (seqObj "list" acc.toList.toArray 0)).get? s1.heap.objs.size=some (seqObj "list" acc.toList.toArray 0):=Heap.get?_push_size _ rfl
  show wpAny _ _ _ _ _ { s1 with heap:=s1.heap.push (seqObj "list" acc.toList.toArray 0) }
  have h64' : acc.toList.length < 64:=by rw [Array.length_toList,hit.1,hl]; exact h64
  refine wpAny_bind (wpAny_holding (wpAny_call_entry slot_list_sort ⟨_,hoL,rfl⟩ entry_list_sort (list_sort_tree hoL hI h64' fun out ns' a1 a2 a3=>⟨_,rfl,?_⟩) (args_list_sort _)))
  obtain ⟨e,he⟩:=sortedHeap_at (out:=out) hoL
  have fin:=h s1.heap _ s1.toks out.toList e ns' (fun b o' hb=>mv.heap b o' (fun z=>nomatch z) hb) (fun b o' hb=>?_) (by simpa [seqObj] using he) a1 a2 a3
  · refine wpAny_pure ⟨_,rfl,?_⟩
    rw [es]
    exact fin
  · have hlt : b < s1.heap.objs.size:=Heap.lt_size hb
    rw [sortedHeap_old (Nat.ne_of_lt hlt) (by rw [size_push']; exact Nat.lt_succ_of_lt hlt)]
    exact Heap.get?_push_of_some _ hb
end
section
variable {X : Cx}
theorem z8Y (hc : X.calm=true) : z5H X (.builtin "sorted") (fun xs H Q=>∃ (p : Addr) (kvs : List (Key × V)) (ns : List Int),xs=[.ref p]∧H p=some (.dK kvs)∧kvs.map (·.1)=ns.map Sum.inl∧ns.length < 64∧∀ l,H l=none->Q (.ref l) (upd H l (.lst ((z8G ns).map V.int)))):=by
  intro pins s σ H xs us Q I r h
  obtain ⟨p,kvs,ns,rfl,hq,hk,h64,q⟩:=h
  obtain ⟨u,rfl,rx⟩:=z9g r
  cases rx
  obtain ⟨_,hs,vs,rel,dd⟩:=dk_of I.hok hq
  obtain ⟨ep,da⟩:=dd.dictAt
  refine y0b (I.ok.hd hc) hs da (rel.keys.symm.trans hk) h64 fun h1 h' tk out e ns' k1 k2 ho hi hp hs'=>?_
  have es:=z8j hp hs'
  subst es
  have I1 : Inv X pins σ H { s with heap:=h1 }:=I.kept (t':=s.toks) k1
  refine ⟨.ref h1.objs.size,_,Inv.laid (s:={ s with heap:=h1 }) (t':=tk) I1 k2 (Nat.le_refl _) (show ObjOk X.prog X.w _ h' _ (.lst ((z8G ns).map V.int)) from ⟨?_,out,e,intsV hi,ho⟩),rfl,q _ (I1.hok.fresh (Nat.le_refl _))⟩
  rw [List.length_map,hp.length_eq,sizeLine_eq]
  omega
noncomputable def z5i : List Key->Option (List Int)
  | []=>some []
  | .inl n :: r=>(z5i r).map fun ns=>n :: ns
  | .inr _ :: _=>none
theorem z7p : ∀ {ks : List Key} {ns : List Int},z5i ks=some ns->ks=ns.map Sum.inl
  | [],_,h=>by cases h; rfl
  | .inl n :: r,_,h=>by
    unfold z5i at h
    cases e : z5i r with
    | none=>rw [e] at h; cases h
    | some ns=>
      rw [e] at h
      cases h
      rw [List.map_cons,← z7p e]
  | .inr _ :: _,_,h=>by cases h
noncomputable def z9v : List D->Option (List D)
  | [.dct ks _]=>(z5i ks).bind fun ns=>if ns.length < 64 then some ((z8G ns).map .int) else none
  | _=>none
theorem y6R {K : PySem.W.Frag} : OpL K (fun xs H Q=>∃ (p : Addr) (kvs : List (Key × V)) (ns : List Int),xs=[.ref p]∧H p=some (.dK kvs)∧kvs.map (·.1)=ns.map Sum.inl∧ns.length < 64∧∀ l,H l=none->Q (.ref l) (upd H l (.lst ((z8G ns).map V.int)))) z9v:=by
  intro H B ds es vs Q hB hr q k
  unfold z9v at q
  split at q
  · rename_i ks ds'
    cases e : z5i ks with
    | none=>rw [e] at q; cases q
    | some ns=>
      rw [e,Option.bind_some] at q
      split at q
      · rename_i h64
        cases q
        obtain ⟨v,rfl,r⟩:=z4K hr
        unfold Rep at r
        obtain ⟨a,kvs,rfl,_,h,hk,_⟩:=r
        exact ⟨a,kvs,ns,rfl,h,by rw [hk,z7p e],h64,fun l hl=>k l _ _ (z0w hl) hl z0s (z2m _)⟩
      · cases q
  · cases q
variable {e : Expr} {f : DE} {p pos : Pos}
theorem y2g (hc : X.calm=true) (hg : Gl X "sorted") (hm : X.mg "sorted" = none) (h : PD X e f) (he : starEach [e] X.env=[(false,eval e X.env)]:=by rfl) : PF X (.Call (.Name "sorted" p) [e] [] pos) (z1T z9v [f]):=
  (z6i (z8Y hc) hg hm boot_sorted (z0a h z0c he) (by decide) (by decide) he rfl).imp (callL y6R)
end
end L2
namespace L2
open PySem PySem.Spec PyProof.Rows
noncomputable def mkD1 : D->D->Option D
  | .int a,.int b=>some (.dct [.inl a] [.int b])
  | _,_=>none
noncomputable def y3U (fk fv : DE) : DE:=d2 mkD1 fk fv
section
variable {X : Cx} {ke ve : Expr} {pos : Pos} {f g : DE}
theorem y6J (hk : PD X ke f) (hv : PD X ve g) : PN X (.Dict [some ke] [ve] pos) (y3U f g):=(pe_disp (y6i hk hv pps_nil) rfl rfl (by simp) (by simp)).imp fun σ H Q z_=>by
  obtain ⟨δ,d,S,q,kk⟩:=z_
  obtain ⟨dx,dy,e1,e2,e3⟩:=z6u q
  unfold mkD1 at e3
  split at e3
  · rename_i a b
    cases e3
    intro p hp
    have s0 : Same H (upd H p (.dK [])):=z0w hp
    refine ⟨noB,δ,_,.no,S.mono s0,e1,fun v H2 s2 r2=>⟨noB,δ,_,.no,(S.mono s0).mono s2,e2,fun u H3 s3 r3=>?_⟩⟩
    unfold Rep at r2 r3
    subst r2 r3
    have hp3 : H3 p=some (.dK []):=s3 _ _ (s2 _ _ z0s)
    refine ⟨hp3,[(.inl a,.int b)],rfl,by simp,?_⟩
    refine kk (.ref p) _ [p] (fun c o ec=>?_) ?_ (List.nodup_cons.mpr ⟨fun z=>(nomatch z),List.nodup_nil⟩) fun c hc=>?_
    · have hcp : c≠p:=fun z=>by rw [z,hp] at ec; cases ec
      rw [z0A hcp]
      exact s3 _ _ (s2 _ _ (s0 _ _ ec))
    · unfold Tree
      refine ⟨p,[(.inl a,.int b)],[],rfl,z0s,rfl,?_,rfl⟩
      unfold Trees
      exact ⟨.int b,[],[],[],rfl,⟨rfl,rfl⟩,⟨rfl,rfl⟩,rfl⟩
    · rw [List.mem_singleton.mp hc]; exact hp
  · cases e3
end
theorem y3J {lo hi : Int} : Builtin.Range.rangeSize lo hi (-1)=(((lo - hi).toNat : Nat) : Int):=by
  unfold Builtin.Range.rangeSize
  rw [if_neg (by decide)]
  by_cases h : hi < lo
  · rw [if_pos h]
    have : (lo - hi - 1) / 1=lo - hi - 1:=Int.ediv_one _
    simp only [Int.neg_neg]
    omega
  · rw [if_neg h]
    omega
theorem y4i {a b : Int} (ha : -(2 ^ 61)≤a) (ha' : a < 2 ^ 61) (hb : -(2 ^ 61)≤b) (hb' : b < 2 ^ 61) : Builtin.Range.small a b (-1)=true:=by
  unfold Builtin.Range.small
  rw [y3J]
  simp only [Builtin.Range.rangeFitsLong,Bool.and_eq_true,Bool.or_eq_true,decide_eq_true_eq,beq_iff_eq]
  rw [if_neg (by decide),Bool.and_eq_true,decide_eq_true_eq,decide_eq_true_eq]
  omega
section
variable {X : Cx} {tg : Expr}
theorem y4Q {pins : List (Addr × Obj)} {σ : St} {H : Hp} {s : Shared} {R : It->Hp->Prop} {E : Value->Shared->Prop} {lo hi : Int} {t u v : Tok} {tk : Nat} (I : Inv X pins σ H s) (h1 : -(2 ^ 61)≤lo) (h2 : lo < 2 ^ 61) (h3 : -(2 ^ 61)≤hi) (h4 : hi < 2 ^ 61)
    (q : R (Itr3 lo (-1) (lo - hi).toNat) H) : wpAny (model X.prog X.w) X.A (pyIter (.ref s.heap.objs.size)) (PIE X pins σ tg R) E { s with heap:=s.heap.push { cls:=.type "range",data:=.fields #[.int lo t,.int hi u,.int (-1) v] },toks:=tk }:=by
  refine wpAny_pyIter_range (IsRange.new ..) (y4i h1 h2 h3 h4) ?_
  have I1 : Inv X pins σ H { s with heap:=s.heap.push { cls:=.type "range",data:=.fields #[.int lo t,.int hi u,.int (-1) v] },toks:=tk }:=I.kept fun b o e=>Heap.get?_push_of_some _ e
  refine ⟨(s.heap.push { cls:=.type "range",data:=.fields #[.int lo t,.int hi u,.int (-1) v] }).objs.size,[(s.heap.push { cls:=.type "range",data:=.fields #[.int lo t,.int hi u,.int (-1) v] }).objs.size],_,_,H,rfl,
    I1.kept (t':=tk) fun b o e=>Heap.get?_push_of_some _ e,y0h _ lo (-1) (lo - hi).toNat,?_,fun b hb=>?_,q⟩
  · have e1 : lo + ((0 : Nat) : Int) * (-1)=lo:=by simp
    have e2 : (((lo - hi).toNat : Nat) : Int) - ((0 : Nat) : Int)=Builtin.Range.rangeSize lo hi (-1):=by rw [y3J]; simp
    show IsRangeIter _ _ (lo + ((0 : Nat) : Int) * (-1)) ((((lo - hi).toNat : Nat) : Int) - ((0 : Nat) : Int)) (-1)
    rw [e1,e2]
    exact Heap.get?_push_size _ rfl
  · have e : b=(s.heap.push { cls:=.type "range",data:=.fields #[.int lo t,.int hi u,.int (-1) v] }).objs.size:=by simpa using hb
    subst e
    exact I1.fpOk (Nat.le_refl _) (I1.hok.fresh (Nat.le_refl _))
noncomputable def iRngN (ta : TA) : TI:=fun σ H R=>ta σ H fun vs H1=>∃ i j : Int,vs=[.int i,.int j,.int (-1)]∧(-(2 ^ 61)≤i∧i < 2 ^ 61∧-(2 ^ 61)≤j∧j < 2 ^ 61)∧R (Itr3 i (-1) (i - j).toNat) H1
theorem y3w {a b c : Expr} {ta : TA} {p pos : Pos} (hg : Gl X "range") (hm : X.mg "range" = none) (ha : PA X [a,b,c] ta) (hs : starEach [a,b,c] X.env=(false,eval a X.env) :: starEach [b,c] X.env:=by rfl) (hpl : (backTo pos (starEach [b,c] X.env)).any (·.1)=false:=by rfl) :
    PI X tg (.Call (.Name "range" p) [a,b,c] [] pos) (iRngN ta):=by
  intro pins s σ H R I h
  refine Call_ (z5e I hg hm boot_range (PyProof.Rows.callWith_type1 (thn (ha pos pins s σ H _ I h) fun us s1 ⟨vs,H1,I1,r1,q1⟩=>?_) hs hpl))
  obtain ⟨i,j,e,hb,q⟩:=q1
  subst e
  obtain ⟨u,v,w,rfl,⟨t1,rfl⟩,⟨t2,rfl⟩,⟨t3,rfl⟩⟩:=r1.three
  exact call_range_3 (by omega) (y4Q I1 hb.1 hb.2.1 hb.2.2.1 hb.2.2.2 q) (.inl (PyProof.noPylong_small (by omega)))
noncomputable def rngN : Option D->Option D->Option D->Option (List D)
  | some (.int i),some (.int j),some (.int c)=>if c = -1∧-(2 ^ 61)≤i∧i < 2 ^ 61∧-(2 ^ 61)≤j∧j < 2 ^ 61 then some (y4s i (-1) (i - j).toNat) else none
  | _,_,_=>none
noncomputable def y5U (f g h : DE) : DS->Option (List D):=fun δ=>rngN (f δ) (g δ) (h δ)
theorem pi_rngN {a b c : Expr} {f g h : DE} {p pos : Pos} (hg : Gl X "range") (hm : X.mg "range" = none) (ha : PD X a f) (hb : PD X b g) (hc : PD X c h) (hs : starEach [a,b,c] X.env=(false,eval a X.env) :: starEach [b,c] X.env:=by rfl) (hs2 : starEach [b,c] X.env=(false,eval b X.env) :: starEach [c] X.env:=by rfl) (hs3 : starEach [c] X.env=[(false,eval c X.env)]:=by rfl) (hpl : (backTo pos (starEach [b,c] X.env)).any (·.1)=false:=by rfl) :
    PID X tg (.Call (.Name "range" p) [a,b,c] [] pos) (y5U f g h):=
  (y3w hg hm (z0a ha (z0a hb (z0a hc z0c hs3) hs2) hs) hs hpl).imp fun σ H R z_=>by
    obtain ⟨B,δ,ds,hB,S,q,k⟩:=z_
    unfold y5U rngN at q
    split at q
    · rename_i i j c e1 e2 e3
      split at q
      · rename_i hj
        obtain ⟨rfl,hj⟩:=hj
        cases q
        have ea : z0k [f,g,h] δ=some [.int i,.int j,.int (-1)]:=by unfold z0k z0k z0k; rw [e1,e2,e3]; rfl
        refine ⟨B,δ,[.int i,.int j,.int (-1)],hB,S,ea,fun vs H1 s1 r1=>?_⟩
        unfold Reps at r1
        obtain ⟨x,r,rfl,rx,rr⟩:=r1
        unfold Reps at rr
        obtain ⟨y,r',rfl,ry,rr⟩:=rr
        unfold Reps at rr
        obtain ⟨z,r'',rfl,rz,rr⟩:=rr
        unfold Reps at rr
        subst rr
        exact ⟨i,j,by rw [show x=V.int i from rx,show y=V.int j from ry,show z=V.int (-1) from rz],hj,k _ H1 s1 fun C _=>y6A⟩
      · cases q
    · cases q
end
theorem Trees.at {K : PySem.W.Frag} {H : Hp} : ∀ {ds : List D} {xs : List V} {A : List Addr} {k : Nat} {d : D},Trees K H ds xs A->A.Nodup->ds[k]? = some d->∃ v C,xs[k]? = some v∧Tree K H d v C∧C.Nodup∧∀ a∈C,a∈A
  | [],_,_,_,_,_,_,e=>by cases e
  | d :: ds,xs,A,k,d',h,nd,e=>by
    unfold Trees at h
    obtain ⟨x,r,C,C',rfl,h1,h2,rfl⟩:=h
    have n2:=List.nodup_append.mp nd
    cases k with
    | zero=>cases e; exact ⟨x,C,rfl,h1,n2.1,fun a ha=>List.mem_append.mpr (.inl ha)⟩
    | succ k=>
      obtain ⟨v,D',e1,t1,nd1,sb⟩:=Trees.at (k:=k) h2 n2.2.1 (by simpa using e)
      exact ⟨v,D',by simpa using e1,t1,nd1,fun a ha=>List.mem_append.mpr (.inr (sb a ha))⟩
noncomputable def ixL : D->D->Option D
  | .lst ds,.int i=>atI ds i
  | _,_=>none
section
variable {X : Cx} {a b : Expr} {pos : Pos} {f g : DE}
theorem pn_ixN (ha : PN X a f) (hb : PD X b g) (hs : z6K b:=by intro _ _; rfl) : PN X (.Subscript a b pos) (d2 ixL f g):=(y5L y7m ha hb hs).imp fun σ H Q z_=>by
  obtain ⟨δ,d,S,q,k⟩:=z_
  obtain ⟨dx,dy,e1,e2,e3⟩:=z6u q
  unfold ixL at e3
  split at e3
  · rename_i ds i
    refine ⟨δ,_,S,e1,fun v H1 A s1 t1 nd1 f1=>⟨noB,δ,_,.no,S.mono s1,e2,fun u H2 s2 r2=>?_⟩⟩
    unfold Rep at r2
    subst r2
    have t2:=t1.mono s2
    unfold Tree at t2
    obtain ⟨p,xs,C,rfl,hp,ts,rfl⟩:=t2
    have hl:=ts.len
    unfold atI at e3
    cases e4 : ixN ds.length i with
    | none=>rw [e4] at e3; cases e3
    | some j=>
      rw [e4] at e3
      obtain ⟨v',C',e5,t5,nd5,sb⟩:=ts.at (List.nodup_cons.mp nd1).2 (show ds[j]? = some d from e3)
      have e6 : atI xs i=some v':=by
        unfold atI
        rw [← hl,e4]
        exact e5
      exact .inl ⟨p,xs,i,v',rfl,rfl,SqL.of hp,e6,k v' H2 C' (s1.trans s2) t5 nd5 fun a ha=>f1 a (List.mem_cons_of_mem _ (sb a ha))⟩
  · cases e3
end
end L2
namespace L2
open PySem PySem.Spec PyProof.Rows
noncomputable def twoD : D->Option (D × D)
  | .tup [a,b]=>some (a,b)
  | _=>none
theorem y3u {d : D} {z : D × D} (h : twoD d=some z) : d = .tup [z.1,z.2]:=by
  unfold twoD at h
  split at h
  · cases h; rfl
  · cases h
noncomputable def z4J (i j : Nat) (b : SS->Option Out) : List D->SS->Option Out
  | [],δ=>some (.nx δ)
  | d :: r,δ=>(twoD d).bind fun z=>(b ((δ.set i (some (.sh z.1))).set j (some (.sh z.2)))).bind fun o=>match o with
    | .nx δ'=>z4J i j b r δ'
    | .ct δ'=>z4J i j b r δ'
    | .bk δ'=>some (.nx δ')
    | .rt d=>some (.rt d)
    | .ex c δ'=>some (.ex c δ')
noncomputable def y4x (i j : Nat) (f : DS->Option (List D)) (g : SS->Option Out) : SS->Option Out:=fun δ=>(f (shV δ)).bind fun ds=>z4J i j g ds δ
section
variable {X : Cx} {H0 : Hp} {B0 : Addr->Prop} {fr : Bool} {RX : XR} {pos : Pos}
noncomputable def gPair (K : PySem.W.Frag) (i j : Nat) : TG:=gTup K 2 (y3q (z2N i) (y3q (z2N j) gNil))
theorem y7C {i j : Nat} {tg : Expr} {iter : Expr} {body : List Stmt} {f : DS->Option (List D)} {g : SS->Option Out} (hp : PassesOwn (model X.prog X.w) X.A X.env X.xe) (hc : X.calm=true) (hi : PID X tg iter f) (hg : PG X tg (gPair X.K i j)) (hb : PSs X body (tS X.K H0 B0 fr RX g))
    (hs : ∀ x,foldedSetIterable iter X.env x=pure x:=by intro _; rfl) : PS X (.For tg iter body [] pos) (tS X.K H0 B0 fr RX (y4x i j f g)):=PS.imp (y1b hp hc hi hg hb hs) fun D σ H z_=>by
  obtain ⟨δ,R,o,rs,q,k⟩:=z_
  unfold y4x at q
  cases e : f (shV δ) with
  | none=>rw [e] at q; cases q
  | some ds=>
  rw [e] at q
  have q : z4J i j g ds δ=some o:=q
  refine ⟨_,shV δ,ds,rs.inAll,rs.shr,e,fun J H1 s1 itw=>?_⟩
  have rs1:=rs.mono s1
  have it:=itw (fun a=>H1 a=none) fun a z=>z
  refine ⟨fun n m σ' H'=>m=ds.length - n∧n≤ds.length∧∃ δ' R',RS X.K H0 B0 H' σ' δ' R'∧Stp R H1 R' H'∧z4J i j g (ds.drop n) δ'=some o,⟨ds.length,by simp,Nat.zero_le _,δ,R,rs1,.refl R H1,q⟩,?_⟩
  rintro n m σ' H' ⟨rfl,hn,δ',R',rs',s',q'⟩
  have kp : Keep X.K (fun a=>(B0 a∨∃ r,a∈R r)∨H1 a=none) H1 H':=s'.keepB (fun r a z=>.inl (.inr ⟨r,z⟩)) rs1.held
  by_cases hlt : n < ds.length
  · have hx : ds.drop n=ds[n] :: ds.drop (n + 1):=List.drop_eq_getElem_cons hlt
    rw [hx] at q'
    unfold z4J at q'
    cases et : twoD ds[n] with
    | none=>rw [et] at q'; cases q'
    | some z=>
    rw [et,Option.bind_some] at q'
    cases eb : g ((δ'.set i (some (.sh z.1))).set j (some (.sh z.2))) with
    | none=>rw [eb] at q'; cases q'
    | some ob=>
      rw [eb] at q'
      refine .inr ⟨it.go n H' kp hlt,fun σ2 H2=>n + 1≤ds.length∧∃ δ2 R2,RS X.K H0 B0 H2 σ2 δ2 R2∧Stp R H1 R2 H2∧z4J i j g (ds.drop (n + 1)) δ2=some o,fun σ2 H2 z=>⟨ds.length - (n + 1),by omega,rfl,z⟩,fun xv H2 hy=>?_⟩
      obtain ⟨s2,d,hd,rd⟩:=it.yld n H' xv H2 kp hy
      have hdi : d=ds[n]:=by
        have:=hd hlt
        rw [List.getElem?_eq_getElem hlt] at this
        exact (Option.some.inj this).symm
      subst hdi
      have rd' : Rep X.K H2 (fun a=>B0 a∨∃ r,a∈R' r) ds[n] xv:=rd.anti fun a z=>by
        rcases z with z | ⟨r,z⟩
        · exact .inl (.inl z)
        · rcases s'.from' r a z with z | z
          · exact .inl (.inr z)
          · exact .inr z
      rw [y3u et] at rd'
      unfold Rep at rd'
      obtain ⟨p,vs,rfl,hsq,rvs⟩:=rd'
      unfold Reps at rvs
      obtain ⟨va,r1,rfl,ra,rvs⟩:=rvs
      unfold Reps at rvs
      obtain ⟨vb,r2,rfl,rb,rvs⟩:=rvs
      unfold Reps at rvs
      subst rvs
      refine ⟨p,[va,vb],rfl,hsq,rfl,va,[vb],rfl,vb,[],rfl,rfl,?_⟩
      have rs2:=((rs'.mono s2).setSh (i:=i) ra).setSh (i:=j) rb
      have st2 : Stp R H1 R' H2:=s'.trans (.same s2)
      refine ⟨_,R',ob,rs2,eb,?_⟩
      cases ob with
      | nx δ2=>
        have q2 : z4J i j g (ds.drop (n + 1)) δ2=some o:=q'
        exact fun σ3 H3 R3 rs3 s3=>⟨hlt,δ2,R3,rs3,st2.trans s3,q2⟩
      | ct δ2=>
        have q2 : z4J i j g (ds.drop (n + 1)) δ2=some o:=q'
        exact fun σ3 H3 R3 rs3 s3=>⟨hlt,δ2,R3,rs3,st2.trans s3,q2⟩
      | bk δ2=>
        cases q'
        exact fun σ3 H3 R3 rs3 s3=>k σ3 H3 R3 rs3 ((Stp.same s1).trans (st2.trans s3))
      | rt d=>
        cases q'
        exact k.back ((Stp.same s1).trans st2)
      | ex c δ2=>
        cases q'
        exact k.back ((Stp.same s1).trans st2)
  · have en : n=ds.length:=by omega
    subst en
    rw [List.drop_length] at q'
    cases q'
    exact .inl ⟨it.stop _ H' kp (Nat.le_refl _),k σ' H' R' rs' ((Stp.same s1).trans s')⟩
theorem y4e {i j : Nat} {x y : Str} {px py tp : Pos} {x1} (hc : X.calm=true) (h1 : PG X (.Name x px) (z2N i)) (h2 : PG X (.Name y py) (z2N j))
    (hs : (assignEach [.Name x px,.Name y py] X.env).map (·.2)=assign (.Name x px) X.env :: (assignEach [.Name y py] X.env).map (·.2):=by rfl) (hs2 : (assignEach [.Name y py] X.env).map (·.2)=assign (.Name y py) X.env :: (assignEach [] X.env).map (·.2):=by rfl)
    (hn : (assignEach [.Name x px,.Name y py] X.env).length=2:=by rfl) (hst : (assignEach [.Name x px,.Name y py] X.env).findIdx? (·.1)=none:=by rfl) : PG X (.Tuple [.Name x px,.Name y py] x1 tp) (gPair X.K i j):=
  y7q hc (z6n h1 (z6n h2 y3g hs2) hs) hn hst
end
end L2
namespace L2
open PySem PySem.Spec PyProof.Rows
noncomputable def bst (ns : List Int) : Nat->Nat
  | 0=>0
  | k + 1=>if decide (ns.getD (k + 1) 0 < ns.getD (bst ns k) 0)=true then k + 1 else bst ns k
noncomputable def mnI (ns : List Int) : Int:=ns.getD (bst ns (ns.length - 1)) 0
theorem y1t {bt : Nat->Nat->Bool} {ns : List Int} (h : ∀ i j,bt i j=decide (ns.getD i 0 < ns.getD j 0)) : ∀ k,argBest bt k=bst ns k
  | 0=>rfl
  | k + 1=>by
    unfold argBest bst
    rw [y1t h k,h]
section
variable {X : Cx}
theorem y5g (hc : X.calm=true) : z5H X (.builtin "min") (fun xs H Q=>∃ (p : Addr) (ns : List Int),xs=[.ref p]∧SqL X.K H p (ns.map V.int)∧ns≠[]∧Q (.int (mnI ns)) H):=by
  intro pins s σ H xs us Q I r h
  obtain ⟨p,ns,rfl,hq,hne,q⟩:=h
  obtain ⟨u,rfl,ru⟩:=z9g r
  cases ru
  obtain ⟨its,rv,pl,hz⟩:=I.list hq
  have hi:=y2b rv
  obtain ⟨xs,hx⟩:=hi.allInts.items
  have hl' : s.heap.IsList p (intItems xs):=hx ▸ pl.isList
  have e1 : ns=xs.toList.map (·.1):=by
    rw [← nums_intItems,← hx]
    exact (show numsOf its.toArray.toList=ns from hi.numsOf).symm
  have hsz : xs.size=ns.length:=by rw [e1]; simp
  have hp : 0 < ns.length:=List.length_pos_iff.mpr hne
  refine min_intList (I.ok.hd hc) hl' (by omega) fun v h' tk hv hk=>?_
  have eb : argBest (fun i j=>decide (numAt xs i < numAt xs j)) (xs.size - 1)=bst ns (ns.length - 1):=by
    rw [hsz]
    refine y1t (fun i j=>?_) _
    have en : ∀ k,numAt xs k=ns.getD k 0:=fun k=>by
      rw [e1]
      unfold numAt
      simp [List.getD]
    rw [en,en]
  rw [eb] at hv
  obtain ⟨t,rfl⟩:=intItems_at hv
  have en : numAt xs (bst ns (ns.length - 1))=mnI ns:=by
    unfold mnI
    rw [e1]
    unfold numAt
    simp [List.getD]
  exact ⟨.int _,H,I.kept hk,⟨t,by rw [en]⟩,q⟩
noncomputable def y3S : List D->Option D
  | [.lst ds]=>(z2y ds).bind fun ns=>if ns.isEmpty=true then none else some (.int (mnI ns))
  | _=>none
theorem oa_minL {K : PySem.W.Frag} : OpA K (fun xs H Q=>∃ (p : Addr) (ns : List Int),xs=[.ref p]∧SqL K H p (ns.map V.int)∧ns≠[]∧Q (.int (mnI ns)) H) y3S:=by
  intro H B ds d vs Q hB hr q k
  unfold y3S at q
  split at q
  · rename_i es
    cases e : z2y es with
    | none=>rw [e] at q; cases q
    | some bs=>
      rw [e,Option.bind_some] at q
      split at q
      · cases q
      · rename_i hn
        cases q
        obtain ⟨v,rfl,r⟩:=z4K hr
        unfold Rep at r
        obtain ⟨a,xs,rfl,_,h,rs⟩:=r
        rw [z8N e rs] at h
        exact ⟨a,bs,rfl,SqL.of h,fun z=>hn (by rw [z]; rfl),k _ H (.refl H) rfl⟩
  · cases q
variable {e : Expr} {f : DE} {p pos : Pos}
theorem pd_minL (hc : X.calm=true) (hg : Gl X "min") (hm : X.mg "min" = none) (h : PD X e f) (he : starEach [e] X.env=[(false,eval e X.env)]:=by rfl) : PD X (.Call (.Name "min" p) [e] [] pos) (z0l y3S [f]):=
  z7G (y5g hc) oa_minL hg hm boot_min (z0a h z0c he) (by decide) (by decide) he rfl
end
end L2
namespace L2
open PySem PySem.Spec PyProof.Rows
theorem Reps.pick {K : PySem.W.Frag} {H : Hp} {B : Addr->Prop} {ds : List D} {xs : List V} (h : Reps K H B ds xs) : ∀ l : List Nat,Reps K H B (l.filterMap (ds[·]?)) (l.filterMap (xs[·]?))
  | []=>.nil
  | j :: l=>by
    rw [List.filterMap_cons,List.filterMap_cons]
    cases e : ds[j]? with
    | none=>
      have hn : xs[j]? = none:=by
        rw [List.getElem?_eq_none_iff] at e ⊢
        rw [← h.length]
        exact e
      rw [hn]
      exact h.pick l
    | some d=>
      obtain ⟨x,e2,r⟩:=h.get e
      rw [e2]
      exact .cons r (h.pick l)
section
variable {X : Cx} {e lo st : Expr} {te : TE} {tl tk : TO} {pos p2 : Pos}
variable {f g h : DE}
end
end L2
namespace L2
open PySem PySem.Spec PyProof.Rows
noncomputable def bigL : Nat:=2 ^ 250
noncomputable def CMulB (i j : Int) : Prop:=i.natAbs < bigL∧j.natAbs < bigL
noncomputable instance {i j : Int} : Decidable (CMulB i j):=by unfold CMulB; infer_instance
section
variable {X : Cx} {a b : Expr} {pos : Pos} {f g : DE}
end
end L2
namespace L2
open PySem PySem.Spec PyProof.Rows
section
variable {X : Cx} {tg iter a b : Expr} {p pos pos' : Pos}
structure ItF (J : It) (lo : Int) (n : Nat) : Prop where
  go : ∀ i H',i < n->J.go i H'
  stop : ∀ i H',n≤i->J.stop i H'
  yld : ∀ i H' x H2,J.yld i H' x H2->Same H' H2∧x = .int (lo + (i : Int))
variable {H0 : Hp} {B0 : Addr->Prop} {fr : Bool} {RX : XR}
variable {c : Expr}
end
end L2
namespace L2
open PySem PySem.Spec PyProof.Rows
section
variable {X : Cx} {a b : Expr} {pos : Pos} {f g : DE}
end
end L2
namespace HT
open PySem PySem.Spec PyProof.Rows
section
variable {prog : Program} {w : World} {A : Around} {E : Value->Shared->Prop} {s : Shared}
end
end HT
namespace L2
open PySem PySem.Spec PyProof.Rows
section
variable {X : Cx} {e a b : Expr} {lo hi : Option Expr} {p p2 pos : Pos}
variable {f : DE}
end
end L2
namespace PySem
namespace SetTable
noncomputable def Up (xs : Array Nat) : Prop:=xs.toList.Pairwise (· < ·)
end SetTable
noncomputable def TI (t : SetTable) : Prop:=t.led=true∧(t.plain=true->SetTable.Up t.place)
end PySem
namespace PySem
section
variable {prog : Program} {w : World} {K : Type} [DecidableEq K] (knd : KeyKind prog w K)
variable {knd} {A : Around} {E : Value->Shared->Prop} {s : Shared}
end
section
variable {prog : Program} {w : World} {A : Around} {R : Result->Shared->Prop} {I : Addr} {fp wr : List Addr} {G : Array GenState->Array GenState->Prop} {n : Nat} {P : Nat->Value->Prop} {St : Nat->Shared->Prop}
open PyProof.Rows in
end
end PySem
namespace PySem
section
variable {prog : Program} {w : World} {A : Around} {E : Value->Shared->Prop} {s : Shared}
open PyProof.Rows in
set_option maxHeartbeats 3200000 in
open PyProof.Rows in
end
end PySem
namespace PySem
section
variable {M : Model} {A : Around} {E : Value->Shared->Prop} {s : Shared}
end
section
variable {prog : Program} {w : World} {A : Around} {E : Value->Shared->Prop} {s : Shared}
end
end PySem
namespace PySem
section
variable {prog : Program} {w : World} {A : Around} {E : Value->Shared->Prop} {s : Shared}
end
end PySem
namespace PySem
section
variable {prog : Program} {w : World} {A : Around} {E : Value->Shared->Prop} {s : Shared}
end
end PySem
namespace PySem
open Sem (wp)
section
variable {K : Type} [DecidableEq K] {prog : Program} {w : World} {knd : KeyKind prog w K} {A : Around} {E : Value->Shared->Prop} {s : Shared}
end
end PySem
namespace L2
open PySem PySem.Spec PyProof.Rows
section
variable {prog : Program} {w : World} {A : Around} {E : Value->Shared->Prop} {s : Shared}
end
section
variable {X : Cx} {e : Expr} {te : TE} {p p' pos pos' : Pos}
variable {f : DE}
end
end L2
namespace L2
open PySem PySem.Spec PyProof.Rows
section
variable {X : Cx} {a b : Expr} {pos : Pos} {f g : DE}
end
end L2
namespace L2
open PySem PySem.Spec PyProof.Rows
section
variable {X : Cx} {e : Expr} {p p2 pos : Pos}
end
end L2
namespace L2
open PySem PySem.Spec PyProof.Rows
section
variable {X : Cx} {e : Expr} {te : TE} {p p' pos pos' : Pos}
variable {f : DE}
end
end L2
namespace L2
open PySem PySem.Spec PyProof.Rows
section
variable {X : Cx} {a b : Expr} {pos : Pos} {f g : DE}
end
end L2
namespace L2
open PySem PySem.Spec PyProof.Rows
section
variable {X : Cx} {c : Expr} {a b : List Stmt} {p2 pos : Pos} {H0 : Hp} {B0 : Addr->Prop} {fr : Bool} {RX : XR} {F : DS->Option XO} {g h : SS->Option Out}
end
end L2
namespace L2
open PySem PySem.Spec PyProof.Rows
section
variable {X : Cx} {x : Str} {C : Addr} {np cpos : Pos} {e₀ : Expr} {te : TE} {f : DE}
end
end L2
namespace L2
open PySem PySem.Spec PyProof.Rows
section
variable {X : Cx} {pos : Pos} {H0 : Hp} {B0 : Addr->Prop} {fr : Bool} {RX : XR} {F : DS->Option XO}
end
end L2
namespace L2
open PySem PySem.Spec PyProof.Rows
noncomputable def spM2 (K : PySem.W.Frag) (F : List D->Option D) : Sp:=fun vs H Q _=>∃ u v r du d0 ds d A,vs=u :: v :: r∧Rep K H (fun a=>a∈A) du u∧Tree K H d0 v A∧A.Nodup∧Reps K H (fun a=>a∈A) ds r∧F (du :: d0 :: ds)=some d ∧
  ∀ v' H' A',Same (y0q H A) H'->Tree K H' d v' A'->A'.Nodup->(∀ a∈A',a∈A∨H a=none)->(∀ a,H' a=none->H a=none)->Q v' H'
noncomputable def y0m (np nl : Nat) (g : SS->Option Out) : List D->Option D:=fun ds=>match ds with
  | du :: d0 :: ds=>if ds.length + 2=np then (match g (some (.sh du) :: some (.ow d0) :: ds.map (fun d=>some (.sh d)) ++ List.replicate nl none) with
    | some (.rt d)=>some d
    | some (.nx _)=>some .non
    | _=>none) else none
  | _=>none
theorem y1N {K : PySem.W.Frag} {H : Hp} {du d0 : D} {u v : V} {A : List Addr} {ds : List D} {vs : List V} {N : List Str} {nl : Nat} (ru : Rep K H (fun a=>a∈A) du u) (t : Tree K H d0 v A) (nd : A.Nodup) (r : Reps K H (fun a=>a∈A) ds vs) (hN : N.length=ds.length + 2 + nl) :
    RS K (y0q H A) noB H (z4x N (u :: v :: vs)) (some (.sh du) :: some (.ow d0) :: ds.map (fun d=>some (.sh d)) ++ List.replicate nl none) (fun r=>if r=1 then A else []):=by
  have hl:=r.length
  have get : ∀ {i : Nat} {x : SD},(some (SD.sh du) :: some (SD.ow d0) :: ds.map (fun d=>some (SD.sh d)) ++ List.replicate nl none)[i]? = some (some x)->(i=0∧x = .sh du)∨(i=1∧x = .ow d0)∨∃ j d,i=j + 2∧ds[j]? = some d∧x = .sh d:=fun {i x} e=>by
    cases i with
    | zero=>simp at e; exact .inl ⟨rfl,e.symm⟩
    | succ i=>
    cases i with
    | zero=>simp at e; exact .inr (.inl ⟨rfl,e.symm⟩)
    | succ j=>
      have e' : (ds.map (fun d=>some (SD.sh d)) ++ List.replicate nl none)[j]? = some (some x):=by simpa using e
      by_cases hi : j < ds.length
      · rw [List.getElem?_append_left (by simpa using hi),List.getElem?_map,List.getElem?_eq_getElem hi] at e'
        cases e'
        exact .inr (.inr ⟨j,ds[j],rfl,List.getElem?_eq_getElem hi,rfl⟩)
      · rw [List.getElem?_append_right (by simpa using hi),List.getElem?_replicate] at e'
        split at e' <;> cases e'
  have mem : ∀ r a,a∈(if r=1 then A else [])->r=1∧a∈A:=fun r a z=>by
    split at z
    · exact ⟨by assumption,z⟩
    · cases z
  refine ⟨y2A,(fun _ z=>z.elim),?_,fun r a z=>y1A (mem r a z).2,fun r a z=>t.held d0 a (mem r a z).2,fun r s a z z'=>by rw [(mem r a z).1,(mem s a z').1],fun i d e=>?_,fun i r d e=>?_,fun i d e=>?_⟩
  · unfold z4x
    simp
    omega
  · rcases get e with ⟨rfl,q⟩ | ⟨_,q⟩ | ⟨j,d',rfl,e1,q⟩
    · cases q
      refine ⟨u,?_,ru.anti fun a z=>?_⟩
      · unfold z4x
        simp
      · rcases z with z | ⟨r,z⟩
        · exact z.elim
        · exact (mem r a z).2
    · cases q
    · cases q
      obtain ⟨u',e3,rv⟩:=r.get e1
      refine ⟨u',?_,rv.anti fun a z=>?_⟩
      · unfold z4x
        have hi : j < vs.length:=(List.getElem?_eq_some_iff.mp e3).1
        rw [List.getElem?_append_left (by simp; omega),List.getElem?_map]
        simp [e3]
      · rcases z with z | ⟨r,z⟩
        · exact z.elim
        · exact (mem r a z).2
  · rcases get e with ⟨_,q⟩ | ⟨_,q⟩ | ⟨j,d',rfl,e1,q⟩ <;> cases q
  · rcases get e with ⟨_,q⟩ | ⟨rfl,q⟩ | ⟨j,d',rfl,e1,q⟩
    · cases q
    · cases q
      refine ⟨v,?_,t,nd⟩
      unfold z4x
      simp
    · cases q
section
variable {P : Program} {w : World} {K : PySem.W.Frag} {mg : Str->Option Value} {base : Heap}
theorem defM2 {x qual : Str} {st : Stmt} {f : Addr} {fd : FuncData} {N ps : List Str} {k np nl : Nat} {g : SS->Option Out} (F : Fun K x qual st f fd) (hm : mg x=some (.ref f)) (hb : Binds K fd ps []) (S : FnScope N ps (z0b st)) (hnp : ps.length=np) (hN : N.length=np + nl)
    (hbody : ∀ (cdv : Value) (A : Around) (outer : List Env) (s : Shared) (H H0 : Hp) (E : XK),Room k (A.deeper (envOfC qual (z0b st) s.heap.objs.size f cdv)) →
      PSs (y3O CX0 P w K mg base N qual (z0b st) f cdv A outer s H E).nox (z0n st) (tS K H0 noB true noX g)) : DefOk P w K mg base (k + 1) x (spM2 K (y0m np nl g)):=by
  refine ⟨f,fd,ps,hm,F.kp,hb,F.ok S (fun vs H Q E h=>?_) fun cdv A outer s H vs Q E hr h=>?_⟩
  · obtain ⟨u,v,r,du,d0,ds,d,A,rfl,_,_,_,rr,e,_⟩:=h
    unfold y0m at e
    simp only at e
    split at e
    · rename_i hl
      rw [List.length_cons,List.length_cons,← rr.length,hnp]
      omega
    · cases e
  · obtain ⟨u,v,r,du,d0,ds,d,A',rfl,ru,t,nd,rr,e,kk⟩:=h
    refine ⟨_,hbody cdv A outer s H (y0q H A') E hr,?_⟩
    have hl : ds.length + 2=np:=by
      unfold y0m at e
      simp only at e
      split at e
      · assumption
      · cases e
    have e' : (match g (some (.sh du) :: some (.ow d0) :: ds.map (fun d=>some (.sh d)) ++ List.replicate nl none) with | some (.rt d)=>some d | some (.nx _)=>some D.non | _=>none)=some d:=by
      unfold y0m at e
      simp only [if_pos hl] at e
      exact e
    have rs:=y1N (nl:=nl) (N:=N) ru t nd rr (by omega)
    have fr : ∀ a,y0q H A' a=none->a∈A'∨H a=none:=fun a z=>by
      by_cases h : a∈A'
      · exact .inl h
      · rw [z6w h] at z; exact .inr z
    split at e'
    · rename_i d' eg
      cases e'
      exact ⟨_,_,_,rs,eg,fun v H' z th=>by
        obtain ⟨A2,t2,nd2,fr2⟩:=z.2.1 rfl
        exact kk v H' A2 z.1 t2 nd2 (fun a ha=>fr a (fr2 a ha)) th⟩
    · rename_i δ' eg
      cases e'
      exact ⟨_,_,_,rs,eg,fun σ' H' R' rs' st'=>kk .non H' [] rs'.keep ⟨rfl,rfl⟩ List.nodup_nil (fun a z=>nomatch z) st'.there⟩
    · cases e'
end
noncomputable def z6Q (F : List D->Option D) (f0 f1 : DE) (fl : List DE) : DE:=fun δ=>(f0 δ).bind fun a=>(f1 δ).bind fun b=>(z0k fl δ).bind fun cs=>F (a :: b :: cs)
section
variable {X : Cx} {k : Nat} {x : Str} {p pos : Pos} {e e' : Expr} {es : List Expr}
theorem z9h {F : List D->Option D} {f0 f1 : DE} {fl : List DE} (G : DefOk X.prog X.w X.K X.mg X.base k x (spM2 X.K F)) (hr : Room k X.A) (hg : Gl X x) (h0 : PD X e f0) (h1 : PN X e' f1) (ha : PAD X es fl) (hdb : (x == ("__debug__" : Str))=false:=by decide)
    (he : starEach (e :: e' :: es) X.env=(false,eval e X.env) :: starEach (e' :: es) X.env:=by rfl) (he1 : starEach (e' :: es) X.env=(false,eval e' X.env) :: starEach es X.env:=by rfl) (hpl : (backTo pos (starEach (e' :: es) X.env)).any (·.1)=false:=by rfl) : PN X (.Call (.Name x p) (e :: e' :: es) [] pos) (z6Q F f0 f1 fl):=
  (z7K G hr hg (z1Y h0 (z1Y h1 ha he1) he) hdb he hpl).imp fun σ H Q z_=>by
    obtain ⟨δ,d,S,q,k⟩:=z_
    unfold z6Q at q
    cases e0 : f0 δ with
    | none=>rw [e0] at q; cases q
    | some a=>
    cases e1 : f1 δ with
    | none=>rw [e0,e1] at q; cases q
    | some b=>
    cases e2 : z0k fl δ with
    | none=>rw [e0,e1,e2] at q; cases q
    | some cs=>
    rw [e0,e1,e2] at q
    have q : F (a :: b :: cs)=some d:=q
    refine ⟨noB,δ,a,.no,S,e0,fun u H1 s1 r1=>⟨δ,b,S.mono s1,e1,fun v H2 A s2 t2 nd2 f2=>?_⟩⟩
    have S2 : RepS X.K H2 (fun x=>x∈A) σ δ:=((RepS.wide (C:=fun x=>x∈A) (S.mono s1) f2).anti fun x z=>.inr z).mono s2
    refine ⟨fun x=>x∈A,δ,cs,fun x z=>?_,S2,e2,fun vs H3 s3 r3=>?_⟩
    · obtain ⟨o,qo,_⟩:=t2.held b x z
      exact ⟨o,qo⟩
    show spM2 X.K F ((u :: v :: vs) ++ []) H3 Q E0
    rw [List.append_nil]
    have ru : Rep X.K H3 (fun x=>x∈A) a u:=((Rep.wide (C:=fun x=>x∈A) f2 a r1).anti fun x z=>.inr z).mono (s2.trans s3)
    refine ⟨u,v,vs,a,b,cs,d,A,rfl,ru,t2.mono s3,nd2,r3,q,fun v' H' A' s' t' nd' fr' th'=>?_⟩
    refine k v' H' A' (fun x o ex=>?_) t' nd' fun x hx=>?_
    · refine s' x o ?_
      have ex1:=s1 x o ex
      rw [z6w fun z=>by rw [f2 x z] at ex1; cases ex1]
      exact s3 x o (s2 x o ex1)
    · rcases fr' x hx with z | z
      · exact s1.free (f2 x z)
      · exact s1.free (s2.free (s3.free z))
variable {H0 : Hp} {B0 : Addr->Prop} {RX : XR} {a : Expr} {pos' : Pos}
noncomputable def ret1 (i : Nat) : SS->Option Out:=fun δ=>(y2P δ i).map fun d=>.rt (.lst [d])
theorem s_ret1 {i : Nat} (ha : PE X a (z9O i)) (hs : starEach [a] X.env=(false,eval a X.env) :: starEach [] X.env:=by rfl) :
    PS X (.Return (some (.List [a] pos')) pos) (tS X.K H0 B0 true RX (ret1 i)):=PS.imp (z7q (y3L (z1Y ha pa_nil hs))) fun D σ H z_=>by
  obtain ⟨δ,R,o,rs,q,k⟩:=z_
  unfold ret1 at q
  cases h1 : y2P δ i with
  | none=>rw [h1] at q; cases q
  | some d=>
    rw [h1] at q
    cases q
    obtain ⟨v,A,e1,t1,n1,m1⟩:=y5X rs h1
    refine ⟨v,e1,by show 1≤sizeLine; rw [sizeLine_eq]; omega,fun p hp=>?_⟩
    have sp:=z0w (o:=.lst [v]) hp
    have hold : ∀ x,x∈A->H x≠none:=fun x hx z=>by
      obtain ⟨o,q,_⟩:=t1.held _ x hx
      rw [z] at q; cases q
    refine k (.ref p) _ ⟨rs.keep.trans sp,fun _=>⟨p :: A,?_,List.nodup_cons.mpr ⟨fun z=>hold p z hp,n1⟩,fun x hx=>?_⟩,fun z=>by cases z⟩ fun x z=>sp.free z
    · unfold Tree
      refine ⟨p,[v],A,rfl,z0s,?_,rfl⟩
      unfold Trees
      exact ⟨v,[],A,[],rfl,t1.mono sp,⟨rfl,rfl⟩,by simp⟩
    · rcases List.mem_cons.mp hx with z | z
      · rw [z]; exact rs.keep.free hp
      · exact rs.new i x (m1 x z)
end
end L2
namespace L2
open PySem PySem.Spec PyProof.Rows
section
variable {K : PySem.W.Frag} {H0 H : Hp} {B0 : Addr->Prop} {σ : St} {δ : SS} {R : Nat->List Addr}
end
section
variable {X : Cx} {H0 : Hp} {B0 : Addr->Prop} {fr : Bool} {RX : XR} {e : Expr} {pos ap cp : Pos} {x : Str} {px : Pos}
end
noncomputable def litI : Expr->Option Int
  | .Constant (.int i) _ _=>some i
  | _=>none
noncomputable def y1M : List Expr->Option (List Int)
  | []=>some []
  | e :: es=>match litI e,y1M es with
    | some n,some ns=>some (n :: ns)
    | _,_=>none
section
variable {X : Cx} {pos : Pos}
theorem y6H {c : Const} {k : Nat} {es : List Expr} {p : Pos} {env : Env} : starEach (.Constant c k p :: es) env=(false,eval (.Constant c k p) env) :: starEach es env:=rfl
theorem y4z : ∀ {es : List Expr} {ns : List Int},y1M es=some ns->PAD X es (ns.map fun n=>dC (.int n))
  | [],_,h=>by cases h; exact z0c
  | e :: es,ns,h=>by
    unfold y1M at h
    split at h
    case h_2=>cases h
    case h_1 n ns' e1 e2=>
    cases h
    unfold litI at e1
    split at e1
    case h_2=>cases e1
    case h_1=>cases e1; exact z0a z0h (y4z e2) y6H
theorem y1s (δ : DS) : ∀ ns : List Int,z0k (ns.map fun n=>dC (.int n)) δ=some (ns.map .int)
  | []=>rfl
  | n :: ns=>by
    have ih:=y1s δ ns
    show ((some (D.int n)).bind fun x=>(z0k (ns.map fun n=>dC (.int n)) δ).bind fun xs=>some (x :: xs))=_
    rw [ih]
    rfl
variable {H0 : Hp} {B0 : Addr->Prop} {fr : Bool} {RX : XR}
@[irreducible] def PSb (X : Cx) (st : Stmt) (t : TS) : Prop:=PS X st t
@[irreducible] def PSsb (X : Cx) (st : List Stmt) (t : TS) : Prop:=PSs X st t
theorem y5S {st : Stmt} {sts : List Stmt} {g h : SS->Option Out} (h1 : PSb X st (tS X.K H0 B0 fr RX g)) (h2 : PSs X sts (tS X.K H0 B0 fr RX h)) : PSsb X (st :: sts) (tS X.K H0 B0 fr RX (z0N g h)):=by
  unfold PSb at h1
  unfold PSsb
  exact z0g h1 h2
end
section
variable {P : Program} {w : World} {K : PySem.W.Frag} {mg : Str->Option Value} {base : Heap}
theorem defNb {x qual : Str} {st : Stmt} {f : Addr} {fd : FuncData} {N ps : List Str} {k np nl : Nat} {g : SS->Option Out} (F : Fun K x qual st f fd) (hm : mg x=some (.ref f)) (hb : Binds K fd ps []) (S : FnScope N ps (z0b st)) (hnp : ps.length=np) (hN : N.length=np + nl)
    (hbody : ∀ (cdv : Value) (A : Around) (outer : List Env) (s : Shared) (H : Hp) (E : XK),Room k (A.deeper (envOfC qual (z0b st) s.heap.objs.size f cdv)) →
      PSsb (y3O CX0 P w K mg base N qual (z0b st) f cdv A outer s H E).nox (z0n st) (tS K H noB true noX g)) : DefOk P w K mg base (k + 1) x (spN K (z2F np nl g)):=
  z5V F hm hb S hnp hN fun cdv A outer s H E hr=>by
    have z:=hbody cdv A outer s H E hr
    unfold PSsb at z
    exact z
end
end L2
namespace L2
open PySem PySem.Spec PyProof.Rows
section
variable {X : Cx} {H0 : Hp} {B0 : Addr->Prop} {fr : Bool} {RX : XR} {x : Str} {px p2 ap cp pos : Pos} {ke : Expr} {fk : DE}
end
end L2
namespace L2
open PySem PySem.Spec PyProof.Rows
section
variable {X : Cx} {H0 : Hp} {B0 : Addr->Prop} {fr : Bool} {RX : XR} {e : Expr} {f : DE} {pos ap cp : Pos} {x : Str} {px : Pos}
noncomputable def y4m (i : Nat) (f : DE) : SS->Option Out:=fun δ=>(f (z0r δ)).bind fun d=>(match d,δ[i]? with
  | .lst es,some (some (.ow (.lst ds)))=>if z1l es=true∧ds.length + es.length≤sizeLine then some (.nx ((z0B i δ).set i (some (.ow (.lst (ds ++ es)))))) else none
  | _,_=>none)
theorem y2U {i : Nat} (hx : PE X (.Name x px) (z9O i)) (he : PD X e f) (hbase : attributeBase (.Name x px) "extend" X.env (eval (.Name x px) X.env)=eval (.Name x px) X.env:=by rfl)
    (hfew : ((backTo cp (starEach [e] X.env)).all (fun x=>!x.1) && (backToKw cp (keywordEach [] X.env)).all (fun x=>x.1.isSome) && decide ([e].length + ([] : List Keyword).length + (if ([] : List Keyword).isEmpty then 0 else 1) < 30))=true:=by rfl)
    (hline : (ap.endLine == cp.line)=true:=by rfl) (hs : starEach [e] X.env=(false,eval e X.env) :: starEach [] X.env:=by rfl) (hsw : swapsWith (.Call (.Attribute (.Name x px) "extend" ap) [e] [] cp) none pos.line X.env=pure false:=by rfl) :
    PS X (.Expr (.Call (.Attribute (.Name x px) "extend" ap) [e] [] cp) pos) (tS X.K H0 B0 fr RX (y4m i f)):=
  PS.imp (z7Y (y2t PySem.F.plainAttrs_list PySem.F.slot_list_extend PySem.F.type_list_extend z9p hx (z1Y he pa_nil hs) hbase hfew hline hs rfl) hsw) fun D σ H z_=>by
    obtain ⟨δ,R,o,rs,q,k⟩:=z_
    unfold y4m at q
    cases e1 : f (z0r δ) with
    | none=>rw [e1] at q; cases q
    | some d=>
    rw [e1,Option.bind_some] at q
    split at q
    case h_2=>cases q
    case h_1 es ds ei=>
    split at q
    case isFalse=>cases q
    case isTrue hl=>
    cases q
    obtain ⟨a,xs,A,ev,ha,ts,eR,nd⟩:=rs.top ei
    refine ⟨.ref a,ev,.inl ⟨rfl,xs,SqL.of ha⟩,noB,z0r δ,_,.no,rs.all,e1,fun y H2 s2 r2=>?_⟩
    unfold Rep at r2
    obtain ⟨b,zs,rfl,_,hb,rz⟩:=r2
    refine ⟨a,b,xs,zs,rfl,rfl,s2 _ _ ha,hb,by rw [← ts.length,← rz.length]; exact hl.2,?_⟩
    have tz:=rz.immTree es hl.1
    have P:=rs.put0 s2 ei ev eR nd ((ts.mono s2).append tz) (by rw [List.append_nil]; exact (List.nodup_cons.mp nd).2) fun p hp=>.inl (by rw [List.append_nil] at hp; exact hp)
    exact k σ _ _ P.1 P.2
end
noncomputable def tupE : Expr->Option (List Expr)
  | .Tuple es _ _=>some es
  | _=>none
theorem y4G {e : Expr} {es : List Expr} (h : tupE e=some es) : ∃ x1 p,e = .Tuple es x1 p:=by
  cases e <;> first | (cases h; exact ⟨_,_,rfl⟩) | cases h
noncomputable def y2c : List Expr->Option (List (List Int))
  | []=>some []
  | e :: r=>(tupE e).bind fun es=>(y1M es).bind fun n=>(y2c r).map (n :: ·)
noncomputable def y1L (rows : List (List Int)) : DS->Option (List D):=fun _=>some (rows.map fun r=>.tup (r.map .int))
section
variable {X : Cx} {pos : Pos}
theorem se_tup {es' es : List Expr} {x1} {pos : Pos} {env : Env} : starEach (.Tuple es' x1 pos :: es) env=(false,eval (.Tuple es' x1 pos) env) :: starEach es env:=rfl
noncomputable def litT (ns : List Int) : DE:=mkT (z0k (ns.map fun n=>dC (.int n)))
theorem litT_eq (ns : List Int) (δ : DS) : litT ns δ=some (.tup (ns.map .int)):=by
  unfold litT mkT
  rw [y1s]
  rfl
theorem y5J {es : List Expr} : ∀ {rs : List (List Int)},y2c es=some rs->(∀ r∈rs,r.length≤1000)->PAD X es (rs.map litT):=by
  induction es with
  | nil=>intro rs h _; cases h; exact z0c
  | cons e r ih=>
    intro rs h hl
    have h : ((tupE e).bind fun es=>(y1M es).bind fun n=>(y2c r).map (n :: ·))=some rs:=h
    cases e1 : tupE e with
    | none=>rw [e1] at h; cases h
    | some es=>
      rw [e1,Option.bind_some] at h
      cases e2 : y1M es with
      | none=>rw [e2] at h; cases h
      | some n=>
        rw [e2,Option.bind_some] at h
        cases e3 : y2c r with
        | none=>rw [e3] at h; cases h
        | some ns=>
          rw [e3] at h
          cases h
          obtain ⟨x1,p,rfl⟩:=y4G e1
          exact z0a (z1R (y4z e2) (by rw [List.length_map]; exact hl n List.mem_cons_self)) (ih e3 fun r hr=>hl r (List.mem_cons_of_mem _ hr)) se_tup
theorem z9y (δ : DS) : ∀ rs : List (List Int),z0k (rs.map litT) δ=some (rs.map fun r=>.tup (r.map .int))
  | []=>rfl
  | r :: rs=>by
    have ih:=z9y δ rs
    show ((litT r δ).bind fun x=>(z0k (rs.map litT) δ).bind fun xs=>some (x :: xs))=_
    rw [ih,litT_eq]
    rfl
theorem y5p (rs : List (List Int)) : z0k (rs.map litT)=y1L rs:=by
  funext δ
  rw [z9y]
  rfl
theorem y2V {es : List Expr} {rs : List (List Int)} (h : y2c es=some rs) (hb : (Nat.ble rs.length 1000 && rs.all fun r=>Nat.ble r.length 1000)=true) : PF X (.List es pos) (y1L rs):=by
  have hb:=Bool.and_eq_true_iff.mp hb
  rw [← y5p]
  exact z0I (y5J h fun r hr=>Nat.le_of_ble_eq_true (List.all_eq_true.mp hb.2 r hr)) (by rw [List.length_map]; exact Nat.le_of_ble_eq_true hb.1)
variable {H0 : Hp} {B0 : Addr->Prop} {fr : Bool} {RX : XR}
theorem y3d {i : Nat} {x : Str} {es : List Expr} {rs : List (List Int)} {lp p pos' : Pos} (hN : X.N.Nodup) (hi : X.N[i]? = some x) (hx : Loc X.env.scope x) (h : y2c es=some rs) (hb : (Nat.ble rs.length 1000 && rs.all fun r=>Nat.ble r.length 1000)=true) (hf : X.fn x=true∨X.env.scope.names.lookup x=some .local) :
    PSb X (.Assign [.Name x pos'] (.List es lp) p) (tS X.K H0 B0 fr RX (z6d i (z0u (y1L rs)))):=by
  unfold PSb
  exact z1K (z1f hN hi hx (z5x (y2V h hb)) rfl hf)
end
end L2
namespace L2
open PySem PySem.Spec PyProof.Rows
section
variable {X : Cx} {e : Expr} {f : DE} {y z : Str} {p p2 p3 p4 pos : Pos} {x1 : Nat} {L M1 M2 N : List Str}
end
end L2
namespace L2
open PySem PySem.Spec PyProof.Rows
section
variable {X : Cx} {o e : Expr} {apos cpos : Pos}
noncomputable def isB1 (b : Bool) : Value->Bool
  | .bool c=>c == b
  | _=>false
noncomputable def rCt (K : PySem.W.Frag) : V->List V->Hp->VK->Prop:=fun x vs H Q=>∃ (a : Addr),x = .ref a∧((∃ (ns : List Int) (i : Int),vs=[.int i]∧SqL K H a (ns.map V.int)∧Q (.int ((ns.countP fun n=>n == i : Nat) : Int)) H)∨∃ (bs : List Bool) (b : Bool),vs=[.bl b]∧SqL K H a (bs.map V.bl)∧Q (.int ((bs.countP fun c=>c == b : Nat) : Int)) H)
theorem y7v {i : Int} : ∀ {ns : List Int} {its : List Value},Vals (ns.map V.int) its->its.countP (isI i)=ns.countP fun n=>n == i
  | [],_,.nil=>rfl
  | n :: ns,_,.cons r t=>by
    obtain ⟨u,rfl⟩:=r
    rw [List.countP_cons,List.countP_cons,y7v t]
    rfl
theorem y2W {b : Bool} : ∀ {bs : List Bool} {its : List Value},Vals (bs.map V.bl) its->its.countP (isB1 b)=bs.countP fun c=>c == b
  | [],_,.nil=>rfl
  | n :: ns,_,.cons r t=>by
    cases r
    rw [List.countP_cons,List.countP_cons,y2W t]
    rfl
theorem y6h {ns : List Int} {its : List Value} (r : Vals (ns.map V.int) its) {y : Value} (hy : y∈its) : ∃ n t,y = .int n t:=by
  obtain ⟨k,hk,rfl⟩:=List.getElem_of_mem hy
  obtain ⟨t,h2,e2⟩:=y3a r k hk
  exact ⟨_,t,e2⟩
theorem z9n : ∀ {bs : List Bool} {its : List Value},Vals (bs.map V.bl) its->∀ y∈its,∃ c,y = .bool c
  | [],_,.nil,_,h=>nomatch h
  | n :: ns,_,.cons r t,y,h=>by
    cases r
    rcases List.mem_cons.mp h with z | z
    · exact ⟨n,z⟩
    · exact z9n t y z
theorem y5K : MtR X "list.count" (rCt X.K):=by
  intro pins s σ H x vs v us Q I rx rv h
  obtain ⟨a,rfl,h⟩:=h
  cases rx
  rcases h with ⟨ns,i,rfl,hq,q⟩ | ⟨bs,b,rfl,hq,q⟩
  · obtain ⟨u,rfl,ru⟩:=rv.one
    obtain ⟨ut,rfl⟩:=ru
    obtain ⟨its,r,⟨⟨cls,dct,dat,sl⟩,n,e,c,d,hd⟩,hz⟩:=I.list hq
    have c : cls = .type "list" := c
    have hd : dat = .seq its.toArray n:=hd
    subst c; subst hd
    refine call_meets F.slot_list_count ⟨_,e,rfl⟩ F.entry_list_count (F.args_list_count_2 _ _) (SeqAt.list_countAt a its.toArray n dct sl (.int i ut) (isI i)) ⟨e,?_,?_⟩
    · intro y hy
      obtain ⟨m,t,rfl⟩:=y6h r (show y∈its by simpa using hy)
      exact SeqAt.EqAt.int_int _ _ _ _
    · have ec : ((its.countP (isI i) : Nat) : Int)=((ns.countP fun n=>n == i : Nat) : Int):=by rw [y7v r]
      refine ⟨.int ((ns.countP fun n=>n == i : Nat) : Int),H,I.tok _,⟨s.toks,?_⟩,q⟩
      show Value.int ((its.countP (isI i) : Nat) : Int) s.toks=_
      rw [ec]
  · obtain ⟨u,rfl,ru⟩:=rv.one
    cases ru
    obtain ⟨its,r,⟨⟨cls,dct,dat,sl⟩,n,e,c,d,hd⟩,hz⟩:=I.list hq
    have c : cls = .type "list" := c
    have hd : dat = .seq its.toArray n:=hd
    subst c; subst hd
    refine call_meets F.slot_list_count ⟨_,e,rfl⟩ F.entry_list_count (F.args_list_count_2 _ _) (SeqAt.list_countAt a its.toArray n dct sl (.bool b) (isB1 b)) ⟨e,?_,?_⟩
    · intro y hy
      obtain ⟨c,rfl⟩:=z9n r y (by simpa using hy)
      exact SeqAt.EqAt.bool_bool _ _
    · have ec : ((its.countP (isB1 b) : Nat) : Int)=((bs.countP fun c=>c == b : Nat) : Int):=by rw [y2W r]
      refine ⟨.int ((bs.countP fun c=>c == b : Nat) : Int),H,I.tok _,⟨s.toks,?_⟩,q⟩
      show Value.int ((its.countP (isB1 b) : Nat) : Int) s.toks=_
      rw [ec]
noncomputable def z5b : D->D->Option D
  | .lst ds,.int i=>(z2y ds).map fun ns=>.int ((ns.countP fun n=>n == i : Nat) : Int)
  | .lst ds,.bl b=>(z5j ds).map fun bs=>.int ((bs.countP fun c=>c == b : Nat) : Int)
  | _,_=>none
theorem y1i {f g : DE} (ho : PD X o f) (he : PD X e g) (hbase : attributeBase o "count" X.env (eval o X.env)=eval o X.env:=by rfl)
    (hfew : ((backTo cpos (starEach [e] X.env)).all (fun x=>!x.1) && (backToKw cpos (keywordEach [] X.env)).all (fun x=>x.1.isSome) && decide ([e].length + ([] : List Keyword).length + (if ([] : List Keyword).isEmpty then 0 else 1) < 30))=true:=by rfl)
    (hline : (apos.endLine == cpos.line)=true:=by rfl) (hs : starEach [e] X.env=(false,eval e X.env) :: starEach [] X.env:=by rfl) :
    PD X (.Call (.Attribute o "count" apos) [e] [] cpos) (d2 z5b f g):=
  (y2t PySem.F.plainAttrs_list PySem.F.slot_list_count PySem.F.type_list_count y5K ho (z1Y he pa_nil hs) hbase hfew hline hs rfl).imp fun σ H Q z_=>by
    obtain ⟨B,δ,d,hB,S,q,k⟩:=z_
    obtain ⟨x,y,e1,e2,e3⟩:=z6u q
    unfold z5b at e3
    split at e3
    case h_3=>cases e3
    case h_1 ds i=>
      cases e4 : z2y ds with
      | none=>rw [e4] at e3; cases e3
      | some ns=>
      rw [e4] at e3
      cases e3
      have eds:=z5g e4
      subst eds
      refine ⟨B,δ,_,hB,S,e1,fun v H1 s1 r1=>?_⟩
      unfold Rep at r1
      obtain ⟨a,xs,rfl,nb,hq,rs⟩:=r1
      have ex:=z5u rs
      subst ex
      refine ⟨.inl ⟨rfl,_,SqL.of hq⟩,B,δ,_,hB.mono s1,S.mono s1,e2,fun v2 H2 s2 r2=>?_⟩
      unfold Rep at r2
      subst r2
      exact ⟨a,rfl,.inl ⟨ns,i,rfl,SqL.of (s2 _ _ hq),k _ H2 (s1.trans s2) (by unfold Rep; rfl)⟩⟩
    case h_2 ds b=>
      cases e4 : z5j ds with
      | none=>rw [e4] at e3; cases e3
      | some bs=>
      rw [e4] at e3
      cases e3
      refine ⟨B,δ,_,hB,S,e1,fun v H1 s1 r1=>?_⟩
      unfold Rep at r1
      obtain ⟨a,xs,rfl,nb,hq,rs⟩:=r1
      have ex:=z5K e4 rs
      subst ex
      refine ⟨.inl ⟨rfl,_,SqL.of hq⟩,B,δ,_,hB.mono s1,S.mono s1,e2,fun v2 H2 s2 r2=>?_⟩
      unfold Rep at r2
      subst r2
      exact ⟨a,rfl,.inr ⟨bs,b,rfl,SqL.of (s2 _ _ hq),k _ H2 (s1.trans s2) (by unfold Rep; rfl)⟩⟩
end
theorem Trees.setN {K : PySem.W.Frag} {H : Hp} {d : D} {y : V} {C : List Addr} (ty : Tree K H d y C) : ∀ {ds : List D} {xs : List V} {A : List Addr} (j : Nat),Trees K H ds xs A->∃ A',Trees K H (ds.set j d) (xs.set j y) A'∧((A ++ C).Nodup->A'.Nodup)∧∀ a∈A',a∈A∨a∈C
  | [],_,_,_,h=>by
    obtain ⟨rfl,rfl⟩:=h
    exact ⟨[],⟨rfl,rfl⟩,fun _=>List.nodup_nil,fun a z=>nomatch z⟩
  | e :: ds,_,_,0,h=>by
    unfold Trees at h
    obtain ⟨x,r,A1,A2,rfl,h1,h2,rfl⟩:=h
    refine ⟨C ++ A2,?_,fun nd=>?_,fun a ha=>?_⟩
    · rw [List.set_cons_zero,List.set_cons_zero]
      unfold Trees
      exact ⟨y,r,C,A2,rfl,ty,h2,rfl⟩
    · obtain ⟨n1,n2,n3⟩:=List.nodup_append.mp nd
      obtain ⟨m1,m2,m3⟩:=List.nodup_append.mp n1
      exact List.nodup_append.mpr ⟨n2,m2,fun a ha b hb z=>n3 b (List.mem_append_right _ hb) a ha z.symm⟩
    · rcases List.mem_append.mp ha with z | z
      · exact .inr z
      · exact .inl (List.mem_append_right _ z)
  | e :: ds,_,_,k + 1,h=>by
    unfold Trees at h
    obtain ⟨x,r,A1,A2,rfl,h1,h2,rfl⟩:=h
    obtain ⟨A',t,nd',sb⟩:=Trees.setN ty k h2
    refine ⟨A1 ++ A',?_,fun nd=>?_,fun a ha=>?_⟩
    · rw [List.set_cons_succ,List.set_cons_succ]
      unfold Trees
      exact ⟨x,_,A1,A',rfl,h1,t,rfl⟩
    · rw [List.append_assoc] at nd
      obtain ⟨n1,n2,n3⟩:=List.nodup_append.mp nd
      refine List.nodup_append.mpr ⟨n1,nd' n2,fun a ha b hb z=>?_⟩
      rcases sb b hb with w | w
      · exact n3 a ha b (List.mem_append_left _ w) z
      · exact n3 a ha b (List.mem_append_right _ w) z
    · rcases List.mem_append.mp ha with z | z
      · exact .inl (List.mem_append_left _ z)
      · rcases sb a z with w | w
        · exact .inl (List.mem_append_right _ w)
        · exact .inr w
section
variable {X : Cx} {H0 : Hp} {B0 : Addr->Prop} {fr : Bool} {RX : XR} {e ke : Expr} {pos : Pos} {x : Str} {px p2 : Pos}
noncomputable def st0N (i : Nat) (fk fv : DE) : SS->Option Out:=fun δ=>(fv (z0r δ)).bind fun d=>(fk (z0r δ)).bind fun dk=>(match dk,δ[i]? with
  | .int k,some (some (.ow (.lst ds)))=>(ixN ds.length k).map fun j=>.nx ((z0B i δ).set i (some (.ow (.lst (ds.set j d)))))
  | _,_=>none)
theorem s_st0N {i : Nat} {fk fv : DE} (hx : PE X (.Name x px) (z9O i)) (hk : PD X ke fk) (hv : PN X e fv)
    (ha : ∀ v,assign (.Subscript (.Name x px) ke p2) X.env v=(do
      let ov ← holding [v] (eval (.Name x px) X.env)
      let iv ← holding [v,ov] (eval ke X.env)
      standAt p2
      holding [v,ov,iv] (setItem ov iv v)
      release [v,ov,iv] []):=by intro _; rfl)
    (hs : swapsWithSole [.Subscript (.Name x px) ke p2] e pos.line X.env=pure false:=by rfl) (hw : swappedStores [.Subscript (.Name x px) ke p2] e X.env=pure none:=by rfl)
    (h1 : (assignEach [.Subscript (.Name x px) ke p2] X.env).map (·.2)=[assign (.Subscript (.Name x px) ke p2) X.env]:=by rfl) :
    PS X (.Assign [.Subscript (.Name x px) ke p2] e pos) (tS X.K H0 B0 fr RX (st0N i fk fv)):=
  PS.imp (y4d hv (y2R hx hk z8u ha) hs hw h1) fun D σ H z_=>by
    obtain ⟨δ,R,o,rs,q,kk⟩:=z_
    unfold st0N at q
    cases e1 : fv (z0r δ) with
    | none=>rw [e1] at q; cases q
    | some d=>
    rw [e1,Option.bind_some] at q
    cases e2 : fk (z0r δ) with
    | none=>rw [e2] at q; cases q
    | some dk=>
    rw [e2,Option.bind_some] at q
    split at q
    case h_2=>cases q
    case h_1=>
    rename_i k ds ei
    cases ej : ixN ds.length k with
    | none=>rw [ej] at q; cases q
    | some j=>
    rw [ej] at q
    cases q
    obtain ⟨a,xs,A,ev,ha',ts,eR,nd⟩:=rs.top ei
    refine ⟨z0r δ,d,rs.all,e1,fun v H1 C s1 t1 nC fC=>⟨.ref a,ev,noB,z0r δ,.int k,.no,rs.all.mono s1,e2,fun v2 H2 s2 r2=>?_⟩⟩
    cases (show v2=V.int k from r2)
    refine ⟨a,xs,k,j,rfl,rfl,s2 _ _ (s1 _ _ ha'),by rw [← ts.length]; exact ej,?_⟩
    obtain ⟨A',t',nd',sb⟩:=Trees.setN (t1.mono s2) j (ts.mono (s1.trans s2))
    have hAC : (A ++ C).Nodup:=List.nodup_append.mpr ⟨(List.nodup_cons.mp nd).2,nC,fun p hp c hc z=>by
      subst z
      obtain ⟨u,q,_⟩:=Trees.held ds ts p hp
      rw [fC p hc] at q; cases q⟩
    have P:=rs.put0 (s1.trans s2) ei ev eR nd t' (nd' hAC) fun b hb=>(sb b hb).imp id (fC b)
    exact kk σ _ _ P.1 P.2
end
end L2
namespace L2
open PySem PySem.Spec PyProof.Rows
theorem RS.setNo {K : PySem.W.Frag} {H0 : Hp} {B0 : Addr->Prop} {H : Hp} {σ : St} {δ : SS} {R : Nat->List Addr} {i : Nat} {v : Option V} (h : RS K H0 B0 H σ δ R) : RS K H0 B0 H (σ.set i v) (δ.set i none) R:=by
  have ne : ∀ {j : Nat} {x : SD},(δ.set i none)[j]? = some (some x)->i≠j∧δ[j]? = some (some x):=fun {j x} e=>by
    by_cases hij : i=j
    · subst hij
      rw [List.getElem?_set] at e
      simp only [if_true] at e
      split at e <;> cases e
    · rw [List.getElem?_set_ne hij] at e
      exact ⟨hij,e⟩
  refine ⟨h.keep,h.inB,by rw [List.length_set,List.length_set]; exact h.len,h.new,h.held,h.disj,fun j d e=>?_,fun j r d e=>?_,fun j d e=>?_⟩
  · obtain ⟨n,e⟩:=ne e
    rw [List.getElem?_set_ne n]
    exact h.sh j d e
  · obtain ⟨n,e⟩:=ne e
    rw [List.getElem?_set_ne n]
    exact h.bo j r d e
  · obtain ⟨n,e⟩:=ne e
    rw [List.getElem?_set_ne n]
    exact h.ow j d e
theorem RepS.set {K : PySem.W.Frag} {H : Hp} {B : Addr->Prop} {σ : St} {δ : DS} {i : Nat} {d : D} {v : V} (h : RepS K H B (σ.set i (some v)) δ) (r : Rep K H B d v) (hi : i < σ.length) : RepS K H B (σ.set i (some v)) (δ.set i (some d)):=by
  refine ⟨by rw [List.length_set]; exact h.len,fun j d' q=>?_⟩
  by_cases hij : i=j
  · subst hij
    rw [List.getElem?_set] at q
    simp only [if_true] at q
    split at q
    · cases q
      exact ⟨v,by rw [List.getElem?_set_self hi],r⟩
    · cases q
  · rw [List.getElem?_set_ne hij] at q
    exact h.get j d' q
noncomputable def y6d (i : Nat) (fb : DS->Option (Option D)) : List D->SS->Option Out
  | [],δ=>some (.nx δ)
  | x :: r,δ=>if i < δ.length then (fb ((z0r (δ.set i none)).set i (some x))).bind fun o=>match o with
    | none=>y6d i fb r (δ.set i none)
    | some d=>if d.imm=true then some (.rt d) else none
    else none
noncomputable def y5u (i : Nat) (fi : DS->Option (List D)) (fb : DS->Option (Option D)) : SS->Option Out:=fun δ=>(fi (z0r δ)).bind fun ds=>y6d i fb ds δ
section
variable {X : Cx} {H0 : Hp} {B0 : Addr->Prop} {fr : Bool} {RX : XR} {pos : Pos}
theorem s_forCN {i : Nat} {x : Str} {px : Pos} {iter : Expr} {body : List Stmt} {f : DS->Option (List D)} {fb : DS->Option (Option D)} (hp : PassesOwn (model X.prog X.w) X.A X.env X.xe) (hc : X.calm=true) (hi : PID X (.Name x px) iter f) (hg : PG X (.Name x px) (z2N i)) (hb : PSs X body (y3E X.K fb))
    (hs : ∀ x,foldedSetIterable iter X.env x=pure x:=by intro _; rfl) : PS X (.For (.Name x px) iter body [] pos) (tS X.K H0 B0 fr RX (y5u i f fb)):=PS.imp (y1b hp hc hi hg hb hs) fun D σ H z_=>by
  obtain ⟨δ,R,o,rs,q,k⟩:=z_
  unfold y5u at q
  cases e : f (z0r δ) with
  | none=>rw [e] at q; cases q
  | some ds=>
  rw [e,Option.bind_some] at q
  refine ⟨noB,z0r δ,ds,.no,rs.all,e,fun J H1 s1 itw=>?_⟩
  have rs1:=rs.mono s1
  have it:=itw (fun _=>False) fun a z=>z.elim
  refine ⟨fun n m σ' H'=>m=ds.length - n∧n≤ds.length∧∃ δ',RS X.K H0 B0 H' σ' δ' R∧Same H1 H'∧y6d i fb (ds.drop n) δ'=some o,⟨ds.length,by simp,Nat.zero_le _,δ,rs1,.refl H1,q⟩,?_⟩
  rintro n m σ' H' ⟨rfl,hn,δ',rs',s',q'⟩
  have kp : Keep X.K (fun a=>noB a∨False) H1 H':=(Stp.same (R:=fun _=>[]) s').keepB (fun r a z=>nomatch z) (fun r a z=>nomatch z)
  by_cases hlt : n < ds.length
  · have hx : ds.drop n=ds[n] :: ds.drop (n + 1):=List.drop_eq_getElem_cons hlt
    rw [hx] at q'
    unfold y6d at q'
    split at q'
    case isFalse=>cases q'
    rename_i hil
    cases eb : fb ((z0r (δ'.set i none)).set i (some ds[n])) with
    | none=>rw [eb] at q'; cases q'
    | some ob=>
      rw [eb] at q'
      refine .inr ⟨it.go n H' kp hlt,fun σ2 H2=>n + 1≤ds.length∧∃ δ2,RS X.K H0 B0 H2 σ2 δ2 R∧Same H1 H2∧y6d i fb (ds.drop (n + 1)) δ2=some o,fun σ2 H2 z=>⟨ds.length - (n + 1),by omega,rfl,z⟩,fun xv H2 hy=>?_⟩
      obtain ⟨s2,d,hd,rd⟩:=it.yld n H' xv H2 kp hy
      have hdi : d=ds[n]:=by
        have:=hd hlt
        rw [List.getElem?_eq_getElem hlt] at this
        exact (Option.some.inj this).symm
      subst hdi
      have rs2:=(rs'.mono s2).setNo (i:=i) (v:=some xv)
      have rd' : Rep X.K H2 noB ds[n] xv:=Rep.anti (fun a z=>z.elim) _ rd
      refine ⟨_,ob,rs2.all.set rd' (by rw [← rs'.len]; exact hil),eb,?_⟩
      cases ob with
      | none=>
        have q2 : y6d i fb (ds.drop (n + 1)) (δ'.set i none)=some o:=q'
        exact fun H3 s3=>⟨hlt,_,rs2.mono s3,(s'.trans s2).trans s3,q2⟩
      | some d=>
        have q2 : (if d.imm=true then some (Out.rt d) else none)=some o:=q'
        split at q2
        · rename_i hi
          cases q2
          exact ⟨hi,fun v H3 s3 r=>k v H3 ⟨(rs'.keep.trans s2).trans s3,fun _=>⟨[],r.immTree d hi,List.nodup_nil,(fun a z=>nomatch z)⟩,fun _=>r.imm d hi⟩ fun a z=>((s1.trans s').trans (s2.trans s3)).free z⟩
        · cases q2
  · have en : n=ds.length:=by omega
    subst en
    rw [List.drop_length] at q'
    cases q'
    exact .inl ⟨it.stop _ H' kp (Nat.le_refl _),k σ' H' R rs' (Stp.same (s1.trans s'))⟩
end
end L2
namespace L2
open PySem
theorem y4c {np nl : Nat} {g : SS->Option Out} {ds : List D} {d : D} (hl : ds.length=np) (e : g (ds.map (fun d=>some (.sh d)) ++ List.replicate nl none)=some (.rt d)) : z2F np nl g ds=some d:=by
  unfold z2F
  rw [if_pos hl,e]
theorem z3l {n : Nat} (h : n≤1000000) : n≤sizeLine:=by rw [PySem.sizeLine_eq]; omega
noncomputable def bD (b : Bool) : D:=.bl b
noncomputable def z3o (r : List Bool) : D:=.lst (r.map bD)
noncomputable def z0y (T : List (List Bool)) : D:=.lst (T.map z3o)
theorem z7s {ds : List D} {k : Nat} {d : D} (h : ds[k]? = some d) : ixD (.lst ds) (.int (k : Int))=some d:=z1N h
theorem z9K : ∀ bs : List Bool,z5j (bs.map bD)=some bs
  | []=>rfl
  | b :: bs=>by
    show (z5j (bs.map bD)).map (b :: ·)=_
    rw [z9K bs]
    rfl
theorem z2d : ∀ r : List Bool,z1l (r.map bD)=true
  | []=>rfl
  | b :: r=>by
    show (true && z1l (r.map bD))=true
    rw [z2d r]
    rfl
theorem z7B : ∀ r : List Bool,PyData.canLayAll0 (z4v (r.map bD))=true
  | []=>rfl
  | b :: r=>by
    show (true && PyData.canLayAll0 (z4v (r.map bD)))=true
    rw [z7B r]
    rfl
theorem z7z : ∀ T : List (List Bool),PyData.canLayAll0 (z4v (T.map z3o))=true
  | []=>rfl
  | r :: T=>by
    show (PyData.canLayAll0 (z4v (r.map bD)) && PyData.canLayAll0 (z4v (T.map z3o)))=true
    rw [z7B r,z7z T]
    rfl
end L2
namespace L2
open PySem
theorem z9q : ∀ r : List Bool,PyData.depthAll (z4v (r.map bD))=0
  | []=>rfl
  | b :: r=>by
    show max 0 (PyData.depthAll (z4v (r.map bD)))=0
    rw [z9q r]
    rfl
theorem z8O : ∀ T : List (List Bool),PyData.depthAll (z4v (T.map z3o))≤1
  | []=>by decide
  | r :: T=>by
    show max (PyData.depthAll (z4v (r.map bD)) + 1) (PyData.depthAll (z4v (T.map z3o)))≤1
    have:=z8O T
    rw [z9q r]
    omega
theorem okP_tab (T : List (List Bool)) : okP (z0y T)=true:=by
  unfold okP z0y
  rw [Bool.and_eq_true,decide_eq_true_eq]
  refine ⟨z7z T,?_⟩
  show PyData.depthAll (z4v (T.map z3o)) + 1≤60
  have:=z8O T
  omega
theorem eq_self {d : D} (h : okP d=true) : eqD d d=some (.bl true):=by
  unfold eqD
  rw [h]
  show (if (true && true)=true then some (D.bl (PyData.eqv (toP d) (toP d))) else none)=_
  rw [if_pos (show (true && true)=true from rfl),SeqAt.eqv_refl _ (z0z h).1]
theorem neB (a b : Bool) : neD (.bl a) (.bl b)=some (.bl (!(a == b))):=rfl
theorem row_ix {r : List Bool} {k : Nat} (h : k < r.length) : ixD (z3o r) (.int (k : Int))=some (.bl r[k]):=z7s (by rw [List.getElem?_map,List.getElem?_eq_getElem h]; rfl)
theorem tab_ix {T : List (List Bool)} {k : Nat} (h : k < T.length) : ixD (z0y T) (.int (k : Int))=some (z3o T[k]):=z7s (by rw [List.getElem?_map,List.getElem?_eq_getElem h]; rfl)
theorem y0z {n k : Nat} (h : k < n) : ixN n (k : Int)=some k:=by
  unfold ixN
  rw [if_pos (by omega),if_pos (by omega)]
  simp
noncomputable def Sq (n : Nat) (T : List (List Bool)) : Prop:=T.length=n∧∀ r∈T,r.length=n
theorem Sq.row {n : Nat} {T : List (List Bool)} (h : Sq n T) {k : Nat} (hk : k < T.length) : T[k].length=n:=h.2 _ (List.getElem_mem hk)
theorem Sq.set {n : Nat} {T : List (List Bool)} (h : Sq n T) {a b : Nat} {v : Bool} (ha : a < T.length) : Sq n (T.set a (T[a].set b v)):=by
  refine ⟨by simp [h.1],fun r hr=>?_⟩
  rcases List.mem_or_eq_of_mem_set hr with z | z
  · exact h.2 r z
  · subst z
    rw [List.length_set]
    exact h.row ha
theorem y1Y {δ : DS} {f : DE} {r : List Bool} (e : f δ=some (z3o r)) : z0u (z1T z7S [f]) δ=some (z3o r):=by
  unfold z0u z1T z0k z0k
  rw [e]
  show (if z1l (r.map bD)=true then some (D.lst (r.map bD)) else none)=_
  rw [if_pos (z2d r)]
  rfl
end L2
namespace L2
open PySem
noncomputable def hol {α : Type} (x : Option α) (Q : α->Prop) : Prop:=∃ a,x=some a∧Q a
section
variable {α β : Type} {Q : α->Prop} {R : β->Prop}
theorem z0e {a : α} : hol (some a) Q=Q a:=propext ⟨fun ⟨_,e,q⟩=>by cases e; exact q,fun q=>⟨a,rfl,q⟩⟩
theorem hol_is {x : Option α} {a : α} : hol x (fun b=>b=a)↔x=some a:=⟨fun ⟨_,e,q⟩=>q ▸ e,fun e=>⟨a,e,rfl⟩⟩
end
noncomputable def asB : D->Option Bool
  | .bl b=>some b
  | _=>none
section
variable {Q : D->Prop} {QB : Bool->Prop} {QL : List D->Prop} {QO : Out->Prop} {δ : DS} {s : SS} {f g h : DE} {F : D->D->Option D}
theorem ho_var0 {x : Option D} {r : DS} : z0d 0 (x :: r)=x:=by cases x <;> rfl
noncomputable def owA (i : Nat) (s : SS) : Option D:=match s[i]? with
  | some (some (.ow d))=>some d
  | _=>none
theorem z0E {np nl : Nat} {b : SS->Option Out} {ds : List D} {d : D} (hl : ds.length=np) (h : hol (b (ds.map (fun d=>some (.sh d)) ++ List.replicate nl none)) fun o=>o = .rt d) : z2F np nl b ds=some d:=y4c hl (hol_is.mp h)
theorem z4e {np nl : Nat} {b : SS->Option Out} {ds : List D} (hl : ds.length=np) (h : hol (b (ds.map (fun d=>some (.sh d)) ++ List.replicate nl none)) fun o=>∃ d,o = .rt d∧Q d) : hol (z2F np nl b ds) Q:=by
  obtain ⟨o,e,d,rfl,q⟩:=h
  exact ⟨d,y4c hl e,q⟩
theorem y4a {i : Nat} {b : SS->Option Out} {ds : List D} {s : SS} (I : Nat->SS->Prop) (h0 : I 0 s) (hs : ∀ n (h : n < ds.length) δ,I n δ->hol (b (δ.set i (some (.sh ds[n])))) fun o=>match o with | .nx δ'=>I (n + 1) δ' | .ct δ'=>I (n + 1) δ' | .bk δ'=>QO (.nx δ') | .rt d=>QO (.rt d) | .ex c δ'=>QO (.ex c δ')) (he : ∀ δ,I ds.length δ->QO (.nx δ)) : hol (z7e i b ds s) QO:=by
  induction ds generalizing s I with
  | nil=>exact ⟨_,rfl,he _ h0⟩
  | cons x r ih=>
    obtain ⟨o,e,q⟩:=hs 0 (by simp) s h0
    have e : b (s.set i (some (.sh x)))=some o:=e
    have step : ∀ s1,I 1 s1->hol (z7e i b r s1) QO:=fun s1 h1=>ih (fun n=>I (n + 1)) h1 (fun n hn δ hI=>by
      have:=hs (n + 1) (by simpa using hn) δ hI
      simpa using this) fun δ hI=>he δ (by simpa using hI)
    unfold z7e
    rw [e]
    cases o with
    | nx s1=>exact step s1 q
    | ct s1=>exact step s1 q
    | bk s1=>exact ⟨_,rfl,q⟩
    | rt d=>exact ⟨_,rfl,q⟩
    | ex c s1=>exact ⟨_,rfl,q⟩
theorem z3S {i : Nat} {b : SS->Option Out} {lo : Int} {m : Nat} {s : SS} (I : Nat->SS->Prop) (h0 : I 0 s) (hs : ∀ n,n < m->∀ δ,I n δ->hol (b (δ.set i (some (.sh (.int (lo + (n : Int))))))) fun o=>match o with | .nx δ'=>I (n + 1) δ' | .ct δ'=>I (n + 1) δ' | .bk δ'=>QO (.nx δ') | .rt d=>QO (.rt d) | .ex c δ'=>QO (.ex c δ')) (he : ∀ δ,I m δ->QO (.nx δ)) : hol (z7e i b (z5a lo m) s) QO:=by
  refine y4a I h0 (fun n hn δ hI=>?_) fun δ hI=>he δ (by simpa [z5a] using hI)
  have hn' : n < m:=by simpa [z5a] using hn
  have:=hs n hn' δ hI
  simpa [z5a] using this
theorem z2Q {α : Type} {enc : α->D} {i : Nat} {b : SS->Option Out} {xs : List α} {s : SS} (I : List α->SS->Prop) (h0 : I [] s) (hs : ∀ pre x post,xs=pre ++ x :: post->∀ δ,I pre δ->hol (b (δ.set i (some (.sh (enc x))))) fun o=>match o with | .nx δ'=>I (pre ++ [x]) δ' | .ct δ'=>I (pre ++ [x]) δ' | .bk δ'=>QO (.nx δ') | .rt d=>QO (.rt d) | .ex c δ'=>QO (.ex c δ')) (he : ∀ δ,I xs δ->QO (.nx δ)) : hol (z7e i b (xs.map enc) s) QO:=by
  refine y4a (fun n δ=>I (xs.take n) δ) (by simpa using h0) (fun n hn δ hI=>?_) fun δ hI=>he δ (by simpa using hI)
  have hn' : n < xs.length:=by simpa using hn
  have e : xs=xs.take n ++ xs[n] :: xs.drop (n + 1):=by
    rw [← List.drop_eq_getElem_cons hn',List.take_append_drop]
  have:=hs (xs.take n) xs[n] _ e δ hI
  rw [← List.take_succ_eq_append_getElem hn'] at this
  rw [List.getElem_map]
  exact this
end
end L2
namespace L2
open PySem
noncomputable def o2 (F : D->D->Option D) : Option D->Option D->Option D
  | some x,some y=>F x y
  | _,_=>none
noncomputable def andO : Option D->Option D->Option D
  | some (.bl true),y=>y
  | some (.bl false),_=>some (.bl false)
  | _,_=>none
noncomputable def andT : Option Bool->Option Bool->Option Bool
  | some true,y=>y
  | some false,_=>some false
  | _,_=>none
noncomputable def orT : Option Bool->Option Bool->Option Bool
  | some true,_=>some true
  | some false,y=>y
  | _,_=>none
noncomputable def iteO {α : Type} : Option Bool->Option α->Option α->Option α
  | some true,x,_=>x
  | some false,_,y=>y
  | _,_,_=>none
noncomputable def consA : Option D->Option (List D)->Option (List D)
  | some x,some xs=>some (x :: xs)
  | _,_=>none
noncomputable def y5R : Option D->Option D
  | some d=>if d.imm=true then some d else none
  | none=>none
noncomputable def z4z : Option (List D)->Option (List D)
  | some ds=>if z1l ds=true then some ds else none
  | none=>none
noncomputable def z8J (x : Option Out) (b : SS->Option Out) : Option Out:=match x with
  | some (.nx s)=>b s
  | o=>o
noncomputable def rng1 : Option D->Option (List D)
  | some (.int j)=>if -(2 ^ 62)≤j∧j < 2 ^ 62 then some (z5a 0 j.toNat) else none
  | _=>none
noncomputable def rng2 : Option D->Option D->Option (List D)
  | some (.int i),some (.int j)=>if -(2 ^ 62)≤i∧i < 2 ^ 62∧-(2 ^ 62)≤j∧j < 2 ^ 62 then some (z5a i (j - i).toNat) else none
  | _,_=>none
noncomputable def y5m (x : Option D) (lo hi : Option (Option Int)) : Option (List D):=match x,lo,hi with
  | some (.lst ds),some l,some h=>some (z8E ds l h)
  | some (.scr ns),some l,some h=>some (z8E (ns.map .int) l h)
  | _,_,_=>none
noncomputable def partO : Option D->Option (Option Int)
  | some (.int i)=>some (some i)
  | _=>none
noncomputable def setO (mk : D->SD) (i : Nat) (x : Option D) (s : SS) : Option Out:=match x with
  | some d=>some (.nx (s.set i (some (mk d))))
  | none=>none
noncomputable def rtO : Option D->Option Out
  | some d=>some (.rt d)
  | none=>none
noncomputable def forX (i : Nat) (ds : Option (List D)) (b : SS->Option Out) (s : SS) : Option Out:=match ds with
  | some ds=>z7e i b ds s
  | none=>none
noncomputable def z5X (i : Nat) (x : Option D) (s : SS) : Option Out:=match x with
  | some d=>some (.nx ((z0B i s).set i (some (.ow d))))
  | none=>none
noncomputable def z2x (fc : DS->Option Bool) (fe : DE) (δ : DS) : D->Option (Option D):=fun x=>(fc (δ ++ [some x])).bind fun k=>if k=true then (fe (δ ++ [some x])).map some else some none
noncomputable def z1J (xs : Option (List D)) (h : D->Option (Option D)) : Option (List D):=match xs with
  | some xs=>if xs.length≤sizeLine then z2u h xs else none
  | none=>none
section
variable {f g h : DE} {δ : DS} {s : SS} {F : D->D->Option D} {c e : DS->Option Bool} {a b : SS->Option Out} {i j : Nat}
theorem ev_var0 {x : Option D} {r : DS} : z0d 0 (x :: r)=x:=ho_var0
theorem ev_varS {x : Option D} {r : DS} : z0d (i + 1) (x :: r)=z0d i r:=(rfl)
theorem ev_C {d : D} : dC d δ=some d:=(rfl)
theorem ev_d2 : d2 F f g δ=o2 F (f δ) (g δ):=by
  unfold d2 o2
  cases f δ <;> cases g δ <;> rfl
theorem ev_d1 {G : D->Option D} : d1 G f δ=(f δ).bind G:=(rfl)
theorem ev_test : z0G f δ=(f δ).bind asB:=by
  unfold z0G
  cases f δ with
  | none=>rfl
  | some d=>cases d <;> rfl
theorem y6k : z0v f δ=(f δ).bind z5h:=(rfl)
theorem ev_andT : z3y c e δ=andT (c δ) (e δ):=by
  unfold z3y
  rcases c δ with _ | _ | _ <;> rfl
theorem ev_orT : y5l c e δ=orT (c δ) (e δ):=by
  unfold y5l
  rcases c δ with _ | _ | _ <;> rfl
theorem ev_notT : z7a c δ=(c δ).map (!·):=(rfl)
theorem ev_and : dAnd f g δ=andO (f δ) (g δ):=by
  unfold dAnd andO
  rcases f δ with _ | (_ | (_ | _) | _ | _ | _ | _ | _ | _) <;> rfl
theorem ev_if : dIf c f g δ=iteO (c δ) (f δ) (g δ):=by
  unfold dIf
  rcases c δ with _ | _ | _ <;> rfl
theorem y6S : z0k [] δ=some []:=(rfl)
theorem y5C {r : List DE} : z0k (f :: r) δ=consA (f δ) (z0k r δ):=by
  show ((f δ).bind fun x=>(z0k r δ).bind fun xs=>some (x :: xs))=_
  cases f δ <;> cases z0k r δ <;> rfl
theorem ev_call {M : List D->Option D} {fl : List DE} : z0l M fl δ=(z0k fl δ).bind M:=(rfl)
theorem y5V {M : List D->Option (List D)} {fl : List DE} : z1T M fl δ=(z0k fl δ).bind M:=(rfl)
theorem ev_mkL {f : DS->Option (List D)} : mkL f δ=(f δ).map .lst:=(rfl)
theorem ev_mkT {f : DS->Option (List D)} : mkT f δ=(f δ).map .tup:=(rfl)
theorem y3Q {f : DS->Option (List D)} : z0u f δ=(z4z (f δ)).map .lst:=by
  unfold z0u z4z
  cases f δ with
  | none=>rfl
  | some ds=>
    show (if z1l ds=true then _ else _)=Option.map _ (if z1l ds=true then _ else _)
    split <;> rfl
theorem ev_is {T : String} : dIs T f δ=(f δ).map fun d=>.bl (isF T d):=(rfl)
theorem ev_seq : z4B f δ=(f δ).bind z9P:=(rfl)
theorem ev_rng1 : z2W f δ=rng1 (f δ):=(rfl)
theorem ev_rng2 : y7h f g δ=rng2 (f δ) (g δ):=(rfl)
theorem ev_comp {fi : DS->Option (List D)} : z1t fi c f δ=z1J (fi δ) (z2x c f δ):=by
  unfold z1t z1J
  cases fi δ <;> rfl
theorem ev_part : z6b f δ=partO (f δ):=(rfl)
theorem y3l : z2O δ=some none:=(rfl)
theorem ev_cut {fl fh : DS->Option (Option Int)} : y2v f fl fh δ=y5m (f δ) (fl δ) (fh δ):=by
  unfold y2v y5m
  rcases f δ with _ | (_ | _ | _ | _ | _ | _ | _ | _) <;> first | rfl | (cases fl δ <;> cases fh δ <;> rfl)
theorem ev_seqO : z0N a b s=z8J (a s) b:=by
  unfold z0N z8J
  rcases a s with _ | (_ | _ | _ | _) <;> rfl
theorem ev_skip : z1z s=some (.nx s):=(rfl)
theorem ev_asgS : z6j i f s=setO .sh i (f (shV s)) s:=by
  unfold z6j setO
  cases f (shV s) <;> rfl
theorem ev_asgI : y5n i f s=setO .sh i (y5R (f (z0r s))) s:=by
  unfold y5n setO y5R
  cases f (z0r s) with
  | none=>rfl
  | some d=>
    show (if d.imm=true then _ else _)=(match (if d.imm=true then some d else none) with | some d=>some (Out.nx (s.set i (some (SD.sh d)))) | none=>none)
    split <;> rfl
theorem ev_asgN : z6d i f s=setO .ow i (f (z0r s)) s:=by
  unfold z6d setO
  cases f (z0r s) <;> rfl
theorem ev_retI : z6k f s=rtO (y5R (f (z0r s))):=by
  unfold z6k rtO y5R
  cases f (z0r s) with
  | none=>rfl
  | some d=>
    show (if d.imm=true then _ else _)=(match (if d.imm=true then some d else none) with | some d=>some (Out.rt d) | none=>none)
    split <;> rfl
theorem ev_retN : z8F f s=rtO (f (z0r s)):=by
  unfold z8F rtO
  cases f (z0r s) <;> rfl
theorem ev_retS : z7v f s=rtO (f (shV s)):=by
  unfold z7v rtO
  cases f (shV s) <;> rfl
theorem ev_retO : y4B i s=rtO (owA i s):=by
  unfold y4B rtO owA
  rcases s[i]? with _ | _ | ⟨x | x | ⟨r,x⟩⟩ <;> rfl
theorem ev_ifO : ifO c a b s=iteO (c (z0r s)) (a s) (b s):=by
  unfold ifO
  rcases c (z0r s) with _ | _ | _ <;> rfl
theorem ev_forO {fi : DS->Option (List D)} : z5G i fi b s=forX i (fi (shV s)) b s:=by
  unfold z5G forX
  cases fi (shV s) <;> rfl
theorem ev_frz : frzO i b s=b (y7j i s):=(rfl)
theorem eo_2 {x y : D} : o2 F (some x) (some y)=F x y:=(rfl)
theorem eo_and {x y : Bool} : andO (some (.bl x)) (some (.bl y))=some (.bl (x && y)):=by cases x <;> rfl
theorem eo_andT {x y : Bool} : andT (some x) (some y)=some (x && y):=by cases x <;> rfl
theorem y5O {y : Option Bool} : andT (some false) y=some false:=(rfl)
theorem eo_orT {x y : Bool} : orT (some x) (some y)=some (x || y):=by cases x <;> rfl
theorem eo_itet {α : Type} {x y : Option α} : iteO (some true) x y=x:=(rfl)
theorem eo_itef {α : Type} {x y : Option α} : iteO (some false) x y=y:=(rfl)
theorem eo_cons {x : D} {xs : List D} : consA (some x) (some xs)=some (x :: xs):=(rfl)
theorem eo_nx : z8J (some (.nx s)) b=b s:=(rfl)
theorem eo_rt {d : D} : z8J (some (.rt d)) b=some (.rt d):=(rfl)
theorem eo_set {mk : D->SD} {d : D} : setO mk i (some d) s=some (.nx (s.set i (some (mk d)))):=(rfl)
theorem eo_rtO {d : D} : rtO (some d)=some (.rt d):=(rfl)
theorem eo_for {ds : List D} : forX i (some ds) b s=z7e i b ds s:=(rfl)
theorem eo_immI {n : Int} : y5R (some (.int n))=some (.int n):=(rfl)
theorem eo_immB {n : Bool} : y5R (some (.bl n))=some (.bl n):=(rfl)
theorem z4M {ds : List D} (h : z1l ds=true) : z4z (some ds)=some ds:=if_pos h
theorem eo_part {n : Int} : partO (some (.int n))=some (some n):=(rfl)
theorem eo_rng1 {n : Int} (h : -(2 ^ 62)≤n∧n < 2 ^ 62) : rng1 (some (.int n))=some (z5a 0 n.toNat):=if_pos h
theorem eo_rng2 {m n : Int} (h : -(2 ^ 62)≤m∧m < 2 ^ 62∧-(2 ^ 62)≤n∧n < 2 ^ 62) : rng2 (some (.int m)) (some (.int n))=some (z5a m (n - m).toNat):=if_pos h
theorem z5O {xs : List D} {k : D->Option (Option D)} (h : xs.length≤1000000) : z1J (some xs) k=z2u k xs:=if_pos (z3l h)
section
variable {m n : Int} {p q : Bool} {ds es : List D} {x y : Str} {ns : List Int}
theorem ea_add : y2D (.int m) (.int n)=some (.int (m + n)):=(rfl)
theorem ea_sub : subI (.int m) (.int n)=some (.int (m - n)):=(rfl)
theorem y5j (h : CMul m n) : y7E (.int m) (.int n)=some (.int (m * n)):=if_pos h
theorem z6M (h : CDiv m n) : z9Q (.int m) (.int n)=some (.int (m / n)):=if_pos h
theorem z2U (h : 0 < n) : z4y (.int m) (.int n)=some (.int (m % n)):=if_pos h
theorem ea_lt : ltI (.int m) (.int n)=some (.bl (decide (m < n))):=(rfl)
theorem ea_gt : gtI (.int m) (.int n)=some (.bl (decide (n < m))):=(rfl)
theorem ea_ge : geI (.int m) (.int n)=some (.bl (decide (n≤m))):=(rfl)
theorem ea_eqI : eqD (.int m) (.int n)=some (.bl (decide (m=n))):=(rfl)
theorem ea_neI : neD (.int m) (.int n)=some (.bl (!decide (m=n))):=(rfl)
theorem ea_neg : uNeg (.int m)=some (.int (-m)):=(rfl)
theorem ea_not : uNot (.bl p)=some (.bl (!p)):=(rfl)
theorem ea_truB : z5h (.bl p)=some p:=(rfl)
theorem ea_seqL : z9P (.lst ds)=some ds:=(rfl)
theorem ea_lenL : z3c [.lst ds]=some (.int (ds.length : Int)):=(rfl)
theorem ea_lenR : z3c [.scr ns]=some (.int (ns.length : Int)):=(rfl)
theorem ea_ixL : ixD (.lst ds) (.int m)=atI ds m:=(rfl)
theorem ea_ixR : ixD (.scr ns) (.int m)=(atI ns m).map .int:=(rfl)
theorem ea_isBI : isF "bool" (.int m)=false:=(rfl)
theorem ea_isII : isF "int" (.int m)=true:=(rfl)
theorem ea_asB : asB (.bl p)=some p:=(rfl)
end
theorem eb_bs {α β : Type} {a : α} {k : α->Option β} : (some a).bind k=k a:=(rfl)
theorem eb_ms {α β : Type} {a : α} {k : α->β} : (some a).map k=some (k a):=(rfl)
theorem eb_mn {α β : Type} {k : α->β} : (none : Option α).map k=none:=(rfl)
theorem eb_s0 {α : Type} {x y : α} {r : List α} : (x :: r).set 0 y=y :: r:=(rfl)
theorem eb_sS {α : Type} {n : Nat} {x y : α} {r : List α} : (x :: r).set (n + 1) y=x :: r.set n y:=(rfl)
theorem eb_mc {α β : Type} {x : α} {r : List α} {k : α->β} : (x :: r).map k=k x :: r.map k:=(rfl)
theorem eb_mnil {α β : Type} {k : α->β} : ([] : List α).map k=[]:=(rfl)
theorem eb_rS {α : Type} {n : Nat} {x : α} : List.replicate (n + 1) x=x :: List.replicate n x:=(rfl)
theorem eb_r0 {α : Type} {x : α} : List.replicate 0 x=[]:=(rfl)
theorem eb_ca {α : Type} {x : α} {r t : List α} : (x :: r) ++ t=x :: (r ++ t):=(rfl)
theorem eb_na {α : Type} {t : List α} : [] ++ t=t:=(rfl)
theorem es_all0 : z0r []=[]:=(rfl)
theorem es_allS {x : Option SD} {r : SS} : z0r (x :: r)=x.map SD.val :: z0r r:=(rfl)
theorem es_sh0 : shV []=[]:=(rfl)
theorem es_shS {x : Option SD} {r : SS} : shV (x :: r)=shO x :: shV r:=(rfl)
theorem es_shO {d : D} : shO (some (.sh d))=some d:=(rfl)
theorem y6v : z0B i []=[]:=(rfl)
theorem y6w {x : Option SD} {r : SS} : z0B i (x :: r)=y0i i x :: z0B i r:=(rfl)
theorem y2L {d : D} : y0i i (some (.sh d))=some (.sh d):=(rfl)
theorem y3n {d : D} : y0i i (some (.ow d))=some (.ow d):=(rfl)
theorem y6X : y0i i none=none:=(rfl)
theorem es_ow0 {d : D} {r : SS} : owA 0 (some (.ow d) :: r)=some d:=(rfl)
theorem es_owS {x : Option SD} {r : SS} : owA (i + 1) (x :: r)=owA i r:=(rfl)
end
end L2
namespace L2
open PySem
noncomputable def z8v : Option (List D)->Option (List D):=z4z
noncomputable def st0V (o k v : Option D) : Option D:=match o,k,v with
  | some (.lst ds),some (.int k),some d=>(ixN ds.length k).map fun j=>.lst (ds.set j d)
  | _,_,_=>none
noncomputable def st1V (o k j v : Option D) : Option D:=match o,k,j,v with
  | some (.lst ds),some (.int k),some (.int j),some d=>(ixN ds.length k).bind fun k'=>(match ds[k']? with
    | some (.lst es)=>if z1l es=true then (ixN es.length j).map fun j'=>.lst (ds.set k' (.lst (es.set j' d))) else none
    | _=>none)
  | _,_,_,_=>none
noncomputable def m0V (M : List D->List D->Option (List D)) (o : Option D) (args : Option (List D)) : Option D:=match o,args with
  | some (.lst ds),some args=>(M ds args).map .lst
  | _,_=>none
noncomputable def m1V (M : List D->List D->Option (List D)) (o k : Option D) (args : Option (List D)) : Option D:=match o,k,args with
  | some (.lst ds),some (.int k),some args=>(ixN ds.length k).bind fun j=>(match ds[j]? with
    | some (.lst es)=>if z1l es=true then (z4z (M es args)).map fun es'=>.lst (ds.set j (.lst es')) else none
    | _=>none)
  | _,_,_=>none
section
variable {f g fk fj fv : DE} {s : SS} {i : Nat} {M : List D->List D->Option (List D)} {fl : List DE}
theorem eo_put {d : D} : z5X i (some d) s=some (.nx ((z0B i s).set i (some (.ow d)))):=(rfl)
theorem z4s {ds : List D} (h : z1l ds=true) : z8v (some ds)=some ds:=if_pos h
noncomputable def kI : D->Option Int
  | .int k=>some k
  | _=>none
noncomputable def kL : D->Option (List D)
  | .lst ds=>some ds
  | _=>none
noncomputable def kW : Option (Option SD)->Option D
  | some (some (.ow d))=>some d
  | _=>none
theorem y7k : owA i s=kW s[i]?:=by
  unfold owA kW
  generalize s[i]? = x
  rcases x with _ | _ | ⟨x | x | ⟨r,x⟩⟩ <;> rfl
theorem mt2 {β : Type} {k : D} {x : Option (Option SD)} {F : Int->List D->Option β} : (match k,x with | .int k,some (some (.ow (.lst ds)))=>F k ds | _,_=>none)=(kI k).bind fun k=>((kW x).bind kL).bind fun ds=>F k ds:=by
  cases k with
  | int k=>rcases x with _ | _ | ⟨x | x | ⟨r,x⟩⟩ <;> first | rfl | (cases x <;> rfl)
  | _=>rfl
theorem mt3 {β : Type} {k j : D} {x : Option (Option SD)} {F : Int->Int->List D->Option β} : (match k,j,x with | .int k,.int j,some (some (.ow (.lst ds)))=>F k j ds | _,_,_=>none)=(kI k).bind fun k=>(kI j).bind fun j=>((kW x).bind kL).bind fun ds=>F k j ds:=by
  cases k with
  | int k=>
    cases j with
    | int j=>rcases x with _ | _ | ⟨x | x | ⟨r,x⟩⟩ <;> first | rfl | (cases x <;> rfl)
    | _=>rfl
  | _=>rfl
theorem st0V_k {o k v : Option D} : st0V o k v=(o.bind kL).bind fun ds=>(k.bind kI).bind fun k=>v.bind fun d=>(ixN ds.length k).map fun j=>.lst (ds.set j d):=by
  rcases o with _ | o
  · rfl
  · cases o with
    | lst ds=>
      rcases k with _ | k
      · rfl
      · cases k with
        | int k=>cases v <;> rfl
        | _=>rfl
    | _=>rfl
theorem y7D {o k j v : Option D} : st1V o k j v=(o.bind kL).bind fun ds=>(k.bind kI).bind fun k=>(j.bind kI).bind fun j=>v.bind fun d=>(ixN ds.length k).bind fun k'=>(match ds[k']? with
    | some (.lst es)=>if z1l es=true then (ixN es.length j).map fun j'=>.lst (ds.set k' (.lst (es.set j' d))) else none
    | _=>none):=by
  rcases o with _ | o
  · rfl
  · cases o with
    | lst ds=>
      rcases k with _ | k
      · rfl
      · cases k with
        | int k=>
          rcases j with _ | j
          · rfl
          · cases j with
            | int j=>cases v <;> rfl
            | _=>rfl
        | _=>rfl
    | _=>rfl
theorem y4y {α : Type} {x : Option α} {F : α->Option D} : z5X i (x.bind F) s=x.bind fun a=>z5X i (F a) s:=by cases x <;> rfl
theorem z3j {α β : Type} {x : Option α} : (x.bind fun _=>(none : Option β))=none:=by cases x <;> rfl
theorem ev_st0 : st0 i fk fv s=z5X i (st0V (owA i s) (fk (z0r s)) (y5R (fv (z0r s)))) s:=by
  have e : st0 i fk fv s=(fv (z0r s)).bind fun d=>if d.imm=true then (fk (z0r s)).bind fun dk=>(kI dk).bind fun k=>((kW s[i]?).bind kL).bind fun ds=>(ixN ds.length k).map fun j=>.nx ((z0B i s).set i (some (.ow (.lst (ds.set j d))))) else none:=by
    refine congrArg (Option.bind (fv (z0r s))) (funext fun d=>?_)
    refine congrArg (fun z=>if d.imm=true then z else none) ?_
    refine congrArg (Option.bind (fk (z0r s))) (funext fun dk=>?_)
    exact mt2 (F:=fun k ds=>(ixN ds.length k).map fun j=>Out.nx ((z0B i s).set i (some (.ow (.lst (ds.set j d))))))
  rw [e,st0V_k,y7k]
  simp only [y4y]
  generalize (kW s[i]?).bind kL=x
  rcases fv (z0r s) with _ | d
  · show none=x.bind fun ds=>((fk (z0r s)).bind kI).bind fun k=>(none : Option Out)
    simp only [z3j]
  · show (if d.imm=true then (fk (z0r s)).bind fun dk=>_ else none)=x.bind fun ds=>((fk (z0r s)).bind kI).bind fun k=>(if d.imm=true then some d else none).bind fun d=>_
    split
    · rcases fk (z0r s) with _ | k
      · simp only [Option.bind_none,z3j]
      · simp only [Option.bind_some]
        cases kI k with
        | none=>simp only [Option.bind_none,z3j]
        | some k=>
          simp only [Option.bind_some]
          cases x with
          | none=>rfl
          | some ds=>
            simp only [Option.bind_some]
            cases ixN ds.length k <;> rfl
    · simp only [Option.bind_none,z3j]
theorem m_st1 {k j : Int} {d : D} {ds : List D} : ((ixN ds.length k).bind fun k'=>(match ds[k']? with
      | some (.lst es)=>if z1l es=true then (ixN es.length j).map fun j'=>Out.nx ((z0B i s).set i (some (.ow (.lst (ds.set k' (.lst (es.set j' d))))))) else none
      | _=>none))=z5X i (st1V (some (.lst ds)) (some (.int k)) (some (.int j)) (some d)) s:=by
  show _=z5X i ((ixN ds.length k).bind _) s
  cases ixN ds.length k with
  | none=>rfl
  | some k'=>
    rw [Option.bind_some,Option.bind_some]
    cases ds[k']? with
    | none=>rfl
    | some y=>
      cases y with
      | lst es=>
        dsimp only
        split
        · cases ixN es.length j <;> rfl
        · rfl
      | _=>rfl
theorem ev_st1 : st1 i fk fj fv s=z5X i (st1V (owA i s) (fk (z0r s)) (fj (z0r s)) (y5R (fv (z0r s)))) s:=by
  have e : st1 i fk fj fv s=(fv (z0r s)).bind fun d=>if d.imm=true then (fk (z0r s)).bind fun dk=>(fj (z0r s)).bind fun dj=>(kI dk).bind fun k=>(kI dj).bind fun j=>((kW s[i]?).bind kL).bind fun ds=>(ixN ds.length k).bind fun k'=>(match ds[k']? with
      | some (.lst es)=>if z1l es=true then (ixN es.length j).map fun j'=>.nx ((z0B i s).set i (some (.ow (.lst (ds.set k' (.lst (es.set j' d))))))) else none
      | _=>none) else none:=by
    refine congrArg (Option.bind (fv (z0r s))) (funext fun d=>?_)
    refine congrArg (fun z=>if d.imm=true then z else none) ?_
    refine congrArg (Option.bind (fk (z0r s))) (funext fun dk=>?_)
    refine congrArg (Option.bind (fj (z0r s))) (funext fun dj=>?_)
    exact mt3 (F:=fun k j ds=>(ixN ds.length k).bind fun k'=>(match ds[k']? with
      | some (.lst es)=>if z1l es=true then (ixN es.length j).map fun j'=>Out.nx ((z0B i s).set i (some (.ow (.lst (ds.set k' (.lst (es.set j' d))))))) else none
      | _=>none))
  rw [e,y7D,y7k]
  simp only [y4y]
  generalize (kW s[i]?).bind kL=x
  rcases fv (z0r s) with _ | d
  · show none=x.bind fun ds=>((fk (z0r s)).bind kI).bind fun k=>((fj (z0r s)).bind kI).bind fun j=>(none : Option Out)
    simp only [z3j]
  · show (if d.imm=true then (fk (z0r s)).bind fun dk=>_ else none)=x.bind fun ds=>((fk (z0r s)).bind kI).bind fun k=>((fj (z0r s)).bind kI).bind fun j=>(if d.imm=true then some d else none).bind fun d=>_
    split
    · rcases fk (z0r s) with _ | k
      · simp only [Option.bind_none,z3j]
      · simp only [Option.bind_some]
        rcases fj (z0r s) with _ | j
        · simp only [Option.bind_none,z3j]
        · simp only [Option.bind_some]
          cases kI k with
          | none=>simp only [Option.bind_none,z3j]
          | some k=>
            cases kI j with
            | none=>simp only [Option.bind_none,Option.bind_some,z3j]
            | some j=>
              simp only [Option.bind_some]
              cases x with
              | none=>rfl
              | some ds=>
                have:=m_st1 (i:=i) (s:=s) (k:=k) (j:=j) (d:=d) (ds:=ds)
                rw [y7D] at this
                simp only [Option.bind_some,y4y,kL,kI] at this
                simp only [Option.bind_some]
                exact this
    · simp only [Option.bind_none,z3j]
theorem ev_m0 : m0 i M fl s=z5X i (m0V M (owA i s) (z8v (z0k fl (z0r s)))) s:=by
  unfold m0 owA
  rcases z0k fl (z0r s) with _ | args
  · rcases s[i]? with _ | _ | ⟨x | x | ⟨r,x⟩⟩ <;> (first | rfl | (cases x <;> rfl))
  · show (if z1l args=true then _ else _)=z5X i (m0V M _ (if z1l args=true then some args else none)) s
    split
    · rcases s[i]? with _ | _ | ⟨x | x | ⟨r,x⟩⟩ <;> (first | rfl | (cases x <;> first | rfl | (rename_i ds; show Option.map _ (M ds args)=z5X i (Option.map _ (M ds args)) s; cases M ds args <;> rfl)))
    · rcases s[i]? with _ | _ | ⟨x | x | ⟨r,x⟩⟩ <;> (first | rfl | (cases x <;> rfl))
theorem m_m1 {k : Int} {ds args : List D} : ((ixN ds.length k).bind fun j=>(match ds[j]? with
      | some (.lst es)=>if z1l es=true then (M es args).bind fun es'=>if z1l es'=true then some (Out.nx ((z0B i s).set i (some (.ow (.lst (ds.set j (.lst es'))))))) else none else none
      | _=>none))=z5X i (m1V M (some (.lst ds)) (some (.int k)) (some args)) s:=by
  show _=z5X i ((ixN ds.length k).bind _) s
  cases ixN ds.length k with
  | none=>rfl
  | some k'=>
    rw [Option.bind_some,Option.bind_some]
    cases ds[k']? with
    | none=>rfl
    | some y=>
      cases y with
      | lst es=>
        dsimp only
        split
        · cases M es args with
          | none=>rfl
          | some es'=>
            show (if z1l es'=true then _ else _)=z5X i (Option.map _ (if z1l es'=true then _ else _)) s
            split <;> rfl
        · rfl
      | _=>rfl
theorem ev_m1 : m1 i fk M fl s=z5X i (m1V M (owA i s) (fk (z0r s)) (z8v (z0k fl (z0r s)))) s:=by
  unfold m1 owA
  rcases z0k fl (z0r s) with _ | args
  · rcases fk (z0r s) with _ | (_ | _ | _ | _ | _ | _ | _ | _) <;> rcases s[i]? with _ | _ | ⟨x | x | ⟨r,x⟩⟩ <;> (first | rfl | (cases x <;> rfl))
  · show _=z5X i (m1V M _ _ (if z1l args=true then some args else none)) s
    by_cases h : z1l args=true
    · rw [if_pos h]
      rcases fk (z0r s) with _ | (_ | _ | k | _ | _ | _ | _ | _) <;> rcases s[i]? with _ | _ | ⟨x | x | ⟨r,x⟩⟩ <;> (first | rfl | (cases x <;> first | rfl | exact (if_pos h).trans m_m1 | exact if_pos h) | exact if_pos h)
    · rw [if_neg h]
      rcases fk (z0r s) with _ | (_ | _ | k | _ | _ | _ | _ | _) <;> rcases s[i]? with _ | _ | ⟨x | x | ⟨r,x⟩⟩ <;> (first | rfl | (cases x <;> first | rfl | exact if_neg h) | exact if_neg h)
end
theorem es_v1 {d : D} : (SD.sh d).val=d:=(rfl)
theorem es_v2 {d : D} : (SD.ow d).val=d:=(rfl)
theorem y7x {bs : List Bool} : allF [.lst (bs.map bD)]=some (.bl (bs.all fun b=>b)):=by
  show (z5j (bs.map bD)).map (fun bs=>D.bl (bs.all fun b=>b))=_
  rw [z9K]
  rfl
theorem z6f {T : List (List Bool)} {a b : Nat} {v : Bool} (ha : a < T.length) (hb : b < T[a].length) : st1V (some (z0y T)) (some (.int (a : Int))) (some (.int (b : Int))) (some (.bl v))=some (z0y (T.set a (T[a].set b v))):=by
  show ((ixN (T.map z3o).length (a : Int)).bind fun k'=>(match (T.map z3o)[k']? with
    | some (.lst es)=>if z1l es=true then (ixN es.length (b : Int)).map fun j'=>D.lst ((T.map z3o).set k' (.lst (es.set j' (.bl v)))) else none
    | _=>none))=_
  rw [y0z (by simpa using ha),Option.bind_some]
  have e1 : (T.map z3o)[a]? = some (.lst (T[a].map bD)):=by rw [List.getElem?_map,List.getElem?_eq_getElem ha]; rfl
  rw [e1]
  dsimp only
  rw [if_pos (z2d _),y0z (by simpa using hb),Option.map_some]
  unfold z0y
  rw [List.map_set]
  unfold z3o
  rw [List.map_set]
  rfl
theorem z3M {T : List (List Bool)} : z3c [z0y T]=some (.int (T.length : Int)):=by
  show some (D.int ((T.map z3o).length : Nat))=_
  rw [List.length_map]
theorem ix_tab {T : List (List Bool)} {k : Nat} (h : k < T.length) : ixD (z0y T) (.int (k : Int))=some (z3o T[k]):=tab_ix h
theorem ix_row {r : List Bool} {k : Nat} (h : k < r.length) : ixD (z3o r) (.int (k : Int))=some (.bl r[k]):=row_ix h
theorem ins_at {n b : Nat} (h : b≤n) : y2p n (b : Int)=b:=by
  unfold y2p
  rw [if_neg (by omega),Int.toNat_natCast,Nat.min_eq_left h]
theorem z4F {x : Int} {n : Nat} (h : 0 < n) : ∃ a : Nat,x % (n : Int)=(a : Int)∧a < n:=by
  have h1:=Int.emod_nonneg x (show (n : Int)≠0 by omega)
  have h2:=Int.emod_lt_of_pos x (show (0 : Int) < n by omega)
  exact ⟨(x % (n : Int)).toNat,by omega,by omega⟩
theorem y0w {α : Type} {enc : α->D} {c : DS->Option Bool} {f : DE} {δ : DS} (p : α->Bool) (g : α->D) : ∀ {xs : List α},(∀ x∈xs,c (δ ++ [some (enc x)])=some (p x))->(∀ x∈xs,p x=true->f (δ ++ [some (enc x)])=some (g x))->z2u (z2x c f δ) (xs.map enc)=some ((xs.filter p).map g)
  | [],_,_=>rfl
  | x :: r,hc,hf=>by
    have ih:=y0w (xs:=r) p g (fun y hy=>hc y (List.mem_cons_of_mem _ hy)) fun y hy=>hf y (List.mem_cons_of_mem _ hy)
    rw [List.map_cons]
    unfold z2u
    rw [ih]
    unfold z2x
    rw [hc x List.mem_cons_self]
    cases hp : p x with
    | true=>
      show ((if true=true then (f (δ ++ [some (enc x)])).map some else some none).bind _)=_
      rw [if_pos rfl,hf x List.mem_cons_self hp,List.filter_cons_of_pos hp]
      rfl
    | false=>
      rw [List.filter_cons_of_neg (by rw [hp]; exact Bool.false_ne_true)]
      rfl
theorem z5C {α : Type} {enc : α->D} {f : DE} {δ : DS} (g : α->D) {xs : List α} (hf : ∀ x∈xs,f (δ ++ [some (enc x)])=some (g x)) : z2u (z2x z6h f δ) (xs.map enc)=some (xs.map g):=by
  rw [y0w (fun _=>true) g (fun _ _=>rfl) fun x hx _=>hf x hx,List.filter_eq_self.mpr fun _ _=>rfl]
noncomputable def nD (n : Nat) : D:=.int (n : Int)
theorem z2t {n : Nat} : z5a 0 n=(List.range n).map nD:=by
  unfold z5a nD
  refine List.map_congr_left fun k _=>?_
  rw [Int.zero_add]
theorem y0Y {α : Type} {xs : List α} {k : Nat} (h : k < xs.length) : atI xs (k : Int)=some xs[k]:=z1N (List.getElem?_eq_getElem h)
theorem y3x {n k : Nat} (h : k < n) : ixN n (k : Int)=some k:=y0z h
end L2
namespace L2
open PySem
theorem ea_intB {k : Bool} : intF [.bl k]=some (.int (if k=true then 1 else 0)):=(rfl)
theorem y1q : ∀ o : List Int,z1l (o.map D.int)=true
  | []=>rfl
  | n :: o=>by
    show (true && z1l (o.map D.int))=true
    rw [y1q o]
    rfl
theorem z7T : ∀ o : List Int,PyData.canLayAll0 (z4v (o.map D.int))=true
  | []=>rfl
  | n :: o=>by
    show (true && PyData.canLayAll0 (z4v (o.map D.int)))=true
    rw [z7T o]
    rfl
theorem z8A : ∀ o : List Int,PyData.depthAll (z4v (o.map D.int))=0
  | []=>rfl
  | n :: o=>by
    show max 0 (PyData.depthAll (z4v (o.map D.int)))=0
    rw [z8A o]
    rfl
theorem z0F {x : Option Out} {b : SS->Option Out} {I : SS->Prop} {Q : Out->Prop} (h : hol x fun o=>∃ s,o = .nx s∧I s) (k : ∀ s,I s->hol (b s) Q) : hol (z8J x b) Q:=by
  obtain ⟨o,rfl,s,rfl,q⟩:=h
  exact k s q
noncomputable def rngI (m : Nat) : List Int:=(List.range m).map fun k=>((k : Nat) : Int)
structure Good (m : Nat) (b : Int × List Int) : Prop where
  lo : 1≤b.1
  hi : b.1≤10 ^ 30
  perm : b.2.Perm (rngI m)
end L2
namespace L2
open PySem
noncomputable def at2 (T : List (List Bool)) (i j : Nat) : Bool:=(T.getD i []).getD j false
noncomputable def thD (th : List Nat) : D:=.lst (th.map nD)
theorem y2Q {T : List (List Bool)} {i : Nat} (h : i < T.length) : ixD (z0y T) (.int (i : Int))=some (z3o (T.getD i [])):=by
  rw [ix_tab h]
  simp [List.getD,List.getElem?_eq_getElem h]
theorem ix_row' {r : List Bool} {j : Nat} (h : j < r.length) : ixD (z3o r) (.int (j : Int))=some (.bl (r.getD j false)):=by
  rw [ix_row h]
  simp [List.getD,List.getElem?_eq_getElem h]
theorem Sq.len {n : Nat} {T : List (List Bool)} (h : Sq n T) {i : Nat} (hi : i < n) : (T.getD i []).length=n:=by
  have h1 : i < T.length:=by rw [h.1]; exact hi
  have : T.getD i []=T[i]:=by simp [List.getD,List.getElem?_eq_getElem h1]
  rw [this]
  exact h.row h1
theorem ix2 {n : Nat} {T : List (List Bool)} (h : Sq n T) {i j : Nat} (hi : i < n) (hj : j < n) : o2 ixD (ixD (z0y T) (.int (i : Int))) (some (.int (j : Int)))=some (.bl (at2 T i j)):=by
  rw [y2Q (by rw [h.1]; exact hi),eo_2,ix_row' (by rw [h.len hi]; exact hj)]
  rfl
theorem seq_tab {T : List (List Bool)} : z9P (z0y T)=some (T.map z3o):=(rfl)
theorem z1S {th : List Nat} : z9P (thD th)=some (th.map nD):=(rfl)
theorem z1U {th : List Nat} : z3c [thD th]=some (.int (th.length : Int)):=by
  show some (D.int ((th.map nD).length : Nat))=_
  rw [List.length_map]
theorem list_th {th : List Nat} : z7S [thD th]=some (th.map nD):=(rfl)
theorem z6W : ∀ th : List Nat,z1l (th.map nD)=true
  | []=>rfl
  | n :: th=>by
    show (true && z1l (th.map nD))=true
    rw [z6W th]
    rfl
theorem y0N (th : List Nat) : okP (thD th)=true:=by
  have e : th.map nD=(th.map fun n=>((n : Nat) : Int)).map D.int:=by rw [List.map_map]; rfl
  unfold okP thD
  rw [e,Bool.and_eq_true,decide_eq_true_eq]
  refine ⟨z7T _,?_⟩
  show PyData.depthAll (z4v ((th.map fun n=>((n : Nat) : Int)).map D.int)) + 1≤60
  rw [z8A]
  decide
theorem z8m {d : D} (h : okP d=true) : neD d d=some (.bl false):=by
  unfold neD
  rw [h]
  show (if (true && true)=true then some (D.bl (!PyData.eqv (toP d) (toP d))) else none)=_
  rw [if_pos (show (true && true)=true from rfl),SeqAt.eqv_refl _ (z0z h).1]
  rfl
theorem y4A {th : List Nat} {k : Nat} (hl : th.length≤1000000) : m0V z7y (some (thD th)) (some [.int (k : Int)])=some (thD (th ++ [k])):=by
  show Option.map _ (if (th.map nD).length < sizeLine then some (th.map nD ++ [.int (k : Int)]) else none)=_
  rw [List.length_map,if_pos (by rw [PySem.sizeLine_eq]; omega)]
  unfold thD
  rw [List.map_append]
  rfl
theorem ins_thV {o : List Nat} {b v : Nat} (hb : b≤o.length) (hl : o.length≤1000000) : m0V insF (some (thD o)) (some [.int (b : Int),.int (v : Int)])=some (thD (o.take b ++ v :: o.drop b)):=by
  show Option.map _ (if (o.map nD).length < sizeLine∧-(2 ^ 63)≤(b : Int)∧(b : Int) < 2 ^ 63 then _ else none)=_
  rw [List.length_map,if_pos ⟨by rw [PySem.sizeLine_eq]; omega,by omega,by omega⟩,ins_at hb]
  unfold thD
  rw [List.map_append,List.map_cons,List.map_take,List.map_drop]
  rfl
theorem y7a {fi : DS->Option (List D)} {c : DS->Option Bool} {f : DE} {δ : DS} : z5k fi c f δ=z1J (fi δ) (two (z4f c f δ)):=by
  unfold z5k z1J
  cases fi δ <;> rfl
theorem ev_enum {f : DE} {δ : DS} : z9B f δ=(f δ).bind z9H:=(rfl)
noncomputable def z4C (k : Nat) : List Bool->List Nat
  | []=>[]
  | b :: r=>if b=true then k :: z4C (k + 1) r else z4C (k + 1) r
theorem y3f : ∀ {r : List Bool} {k : Nat},z4C k r=(List.range' k r.length).filter fun i=>r.getD (i - k) false
  | [],_=>rfl
  | b :: r,k=>by
    have ih:=y3f (r:=r) (k:=k + 1)
    unfold z4C
    rw [List.length_cons,List.range'_succ]
    have e : (List.range' (k + 1) r.length).filter (fun i=>(b :: r).getD (i - k) false)=(List.range' (k + 1) r.length).filter fun i=>r.getD (i - (k + 1)) false:=by
      apply List.filter_congr
      intro i hi
      have:=(List.mem_range'_1.mp hi).1
      have e : i - k=(i - (k + 1)) + 1:=by omega
      rw [e]
      rfl
    cases b with
    | true=>
      rw [List.filter_cons_of_pos (by simp),e,ih]
      rfl
    | false=>
      rw [List.filter_cons_of_neg (by simp),e,ih]
      rfl
theorem z6P : ∀ {ds : List D} {k : Nat},(z0t k ds).length=ds.length
  | [],_=>rfl
  | d :: r,k=>by show (z0t (k + 1) r).length + 1=r.length + 1; rw [z6P]
end L2
namespace L2
open PySem
noncomputable def inO : Option D->Option D->Option Bool
  | some x,some y=>inK x y
  | _,_=>none
theorem ev_din' {f g : DE} {δ : DS} : dDIn f g δ=inO (f δ) (g δ):=by
  unfold dDIn inO
  cases f δ <;> cases g δ <;> rfl
theorem eo_in {x y : D} : inO (some x) (some y)=inK x y:=(rfl)
theorem ev_dnin {f g : DE} {δ : DS} : y6E f g δ=(dDIn f g δ).map (!·):=(rfl)
noncomputable def y6l (o k v : Option D) : Option D:=match o,k,v with
  | some (.dct ks ds),some dk,some d=>(z9V dk).bind fun k=>if z1l ds=true∧ks.length < sizeLine then some (.dct (y0J ks k) (y0M ks ds k d)) else none
  | _,_,_=>none
theorem m_dput {i : Nat} {s : SS} {dk d : D} {ks : List Key} {ds : List D} : (match z9V dk,(some (some (SD.ow (.dct ks ds))) : Option (Option SD)) with
      | some k,some (some (.ow (.dct ks ds)))=>if z1l ds=true∧ks.length < sizeLine then some (Out.nx ((z0B i s).set i (some (.ow (.dct (y0J ks k) (y0M ks ds k d)))))) else none
      | _,_=>none)=z5X i (y6l (some (.dct ks ds)) (some dk) (some d)) s:=by
  show _=z5X i ((z9V dk).bind _) s
  cases z9V dk with
  | none=>rfl
  | some k=>
    show (if z1l ds=true∧ks.length < sizeLine then _ else _)=z5X i (if z1l ds=true∧ks.length < sizeLine then _ else _) s
    split <;> rfl
theorem ev_dput {i : Nat} {fk fv : DE} {s : SS} : dput i fk fv s=z5X i (y6l (owA i s) (fk (z0r s)) (y5R (fv (z0r s)))) s:=by
  unfold dput owA
  rcases fv (z0r s) with _ | d
  · rcases fk (z0r s) with _ | dk <;> rcases s[i]? with _ | _ | ⟨x | x | ⟨r,x⟩⟩ <;> (first | rfl | (cases x <;> rfl))
  · show (if d.imm=true then _ else _)=z5X i (y6l _ _ (if d.imm=true then some d else none)) s
    split
    · rcases fk (z0r s) with _ | dk
      · rcases s[i]? with _ | _ | ⟨x | x | ⟨r,x⟩⟩ <;> (first | rfl | (cases x <;> rfl))
      · rw [Option.bind_some]
        rcases s[i]? with _ | _ | ⟨x | x | ⟨r,x⟩⟩
        · cases z9V dk <;> rfl
        · cases z9V dk <;> rfl
        · cases z9V dk <;> rfl
        · cases x with
          | dct ks ds=>exact m_dput
          | _=>(cases z9V dk <;> rfl)
        · cases z9V dk <;> rfl
    · rcases fk (z0r s) with _ | dk <;> rcases s[i]? with _ | _ | ⟨x | x | ⟨r,x⟩⟩ <;> (first | rfl | (cases x <;> rfl))
noncomputable def catO : Option D->Option D->Option (List D)
  | some x,some y=>catLs x y
  | _,_=>none
theorem ev_cat {f g : DE} {δ : DS} : y1l f g δ=catO (f δ) (g δ):=by
  unfold y1l catO
  cases f δ <;> cases g δ <;> rfl
theorem y3T {ds es : List D} (h : ds.length + es.length≤1000000) : catO (some (.lst ds)) (some (.lst es))=some (ds ++ es):=if_pos (z3l h)
theorem es_frz0 {d : D} {r : SS} : y7j 0 (some (.ow d) :: r)=some (.sh d) :: r:=(rfl)
theorem es_frzS {i : Nat} {x : Option SD} {r : SS} : y7j (i + 1) (x :: r)=x :: y7j i r:=by
  unfold y7j
  rw [List.getElem?_cons_succ]
  rcases r[i]? with _ | _ | ⟨y | y | ⟨q,y⟩⟩ <;> rfl
end L2
namespace Prg
open PySem L2
noncomputable def extV (o x : Option D) : Option D:=match x,o with
  | some (.lst es),some (.lst ds)=>if ds.length + es.length≤sizeLine then some (.lst (ds ++ es)) else none
  | _,_=>none
theorem y5w {i : Nat} {f : DE} {s : SS} : y3V i f s=z5X i (extV (owA i s) (f (z0r s))) s:=by
  unfold y3V owA
  rcases f (z0r s) with _ | d
  · rcases s[i]? with _ | _ | ⟨x | x | ⟨r,x⟩⟩ <;> (first | rfl | (cases x <;> rfl))
  · rcases s[i]? with _ | _ | ⟨x | x | ⟨r,x⟩⟩ <;> cases d <;> (first | rfl | (cases x <;> first | rfl | skip))
    rename_i es ds
    show (if ds.length + es.length≤sizeLine then some _ else none)=z5X i (if ds.length + es.length≤sizeLine then some _ else none) s
    split <;> rfl
theorem eo_ext {ds es : List D} (h : ds.length + es.length≤1000000) : extV (some (.lst ds)) (some (.lst es))=some (.lst (ds ++ es)):=if_pos (z3l h)
theorem ev_notN {f : DE} {δ : DS} : y4J f δ=(f δ).map fun d=>!isN d:=(rfl)
theorem y4I {ds : List D} : revF [.lst ds]=some ds.reverse:=(rfl)
theorem ints_int : ∀ ns : List Int,z2y (ns.map .int)=some ns
  | []=>rfl
  | n :: ns=>by
    rw [List.map_cons]
    unfold z2y
    rw [ints_int ns]
    rfl
theorem y7c {ns : List Int} (h : ns.length < 64) : y1K [.lst (ns.map .int)]=some ((z8G ns).map .int):=by
  show ((z2y (ns.map .int)).bind fun ns=>if ns.length < 64 then some ((z8G ns).map D.int) else none)=_
  rw [ints_int,Option.bind_some,if_pos h]
noncomputable def sm (f : Nat->Nat) : Nat->Nat
  | 0=>0
  | n + 1=>sm f n + f n
end Prg
namespace L2
open PySem
theorem z6a {α : Type} {enc : α->D} {c : DS->Option Bool} {f : DE} {δ : DS} (p : α->Bool) (g : α->D) {xs : List α} (hl : xs.length≤1000) (hc : ∀ x∈xs,c (δ ++ [some (enc x)])=some (p x)) (hf : ∀ x∈xs,p x=true->f (δ ++ [some (enc x)])=some (g x)) : z1J (some (xs.map enc)) (z2x c f δ)=some ((xs.filter p).map g):=by
  rw [z5O (by rw [List.length_map]; omega)]
  exact y0w p g hc hf
theorem z5W {α : Type} {enc : α->D} {f : DE} {δ : DS} (g : α->D) {xs : List α} (hl : xs.length≤1000) (hf : ∀ x∈xs,f (δ ++ [some (enc x)])=some (g x)) : z1J (some (xs.map enc)) (z2x z6h f δ)=some (xs.map g):=by
  rw [z5O (by rw [List.length_map]; omega)]
  exact z5C g hf
theorem y5z {p : Nat->Bool} {k : Nat} : (List.range (k + 1)).filter p=(List.range k).filter p ++ if p k=true then [k] else []:=by rw [List.range_succ,List.filter_append,List.filter_cons,List.filter_nil]
theorem z0H {m : Nat} (h : m≤1000000) : rng1 (some (.int (m : Int)))=some (z5a 0 m):=by rw [eo_rng1 (by omega)]; rfl
theorem y3M {a : Nat} {th : List Nat} : y6r (.int (a : Int)) (thD th)=some (th.contains a):=by
  unfold thD y6r
  show (if (okP (.int (a : Int)) && okP (.lst (th.map nD)))=true then _ else none)=_
  rw [show okP (.lst (th.map nD))=true from y0N th,show okP (.int (a : Int))=true from rfl]
  show some ((th.map nD).any fun y=>PyData.eqv (toP y) (toP (.int (a : Int))))=_
  congr 1
  rw [List.any_map,List.contains_eq_any_beq]
  congr 1
  funext x
  show decide ((x : Int)=(a : Int))=(a == x)
  by_cases h : x=a
  · subst h; simp
  · have : ¬ a=x:=fun e=>h e.symm
    have h2 : ¬ (x : Int)=(a : Int):=by omega
    simp [this,h2]
theorem in_ths {a : Nat} {th : List Nat} : inD (.int (a : Int)) (thD th)=some (.bl (th.contains a)):=by
  unfold inD
  rw [y3M]
  rfl
theorem z3v {a : Nat} {th : List Nat} : y0Q (.int (a : Int)) (thD th)=some (.bl (!th.contains a)):=by
  unfold y0Q
  rw [y3M]
  rfl
theorem ix0 {c : Nat} {r : List Nat} : ixD (thD (c :: r)) (.int 0)=some (.int (c : Int)):=y0Y (k:=0) (xs:=(c :: r).map nD) (by simp)
theorem tru_th {th : List Nat} : z5h (thD th)=some (!th.isEmpty):=by cases th <;> rfl
theorem y0T {α : Type} {enc : α->D} {c : DS->Option Bool} {f : DE} {δ : DS} (p : Nat->α->Bool) (g : Nat->α->D) : ∀ {xs : List α} {k : Nat},(∀ i (h : i < xs.length),c (δ ++ [some (.int ((k + i : Nat) : Int)),some (enc xs[i])])=some (p (k + i) xs[i]))->(∀ i (h : i < xs.length),p (k + i) xs[i]=true->f (δ ++ [some (.int ((k + i : Nat) : Int)),some (enc xs[i])])=some (g (k + i) xs[i])) →
    z2u (two (z4f c f δ)) (z0t k (xs.map enc))=some (((xs.zipIdx k).filter fun z=>p z.2 z.1).map fun z=>g z.2 z.1)
  | [],_,_,_=>rfl
  | x :: r,k,hc,hf=>by
    have ih:=y0T (xs:=r) (k:=k + 1) p g (fun i h=>by
      have:=hc (i + 1) (by simpa using h)
      have e : k + 1 + i=k + (i + 1):=by omega
      rw [e]
      simpa using this) fun i h hp=>by
      have e : k + 1 + i=k + (i + 1):=by omega
      rw [e] at hp ⊢
      have:=hf (i + 1) (by simpa using h) (by simpa using hp)
      simpa using this
    show z2u _ (.tup [.int (k : Nat),enc x] :: z0t (k + 1) (r.map enc))=_
    unfold z2u
    rw [ih]
    have h0:=hc 0 (by simp)
    have h1:=hf 0 (by simp)
    simp only [Nat.add_zero,List.getElem_cons_zero] at h0 h1
    have e : two (z4f c f δ) (.tup [.int (k : Nat),enc x])=some (if p k x=true then some (g k x) else none):=by
      show z4f c f δ (.int (k : Nat)) (enc x)=_
      unfold z4f
      rw [h0]
      cases hp : p k x with
      | true=>
        have:=h1 hp
        show (if true=true then (f (δ ++ [some (.int (k : Nat)),some (enc x)])).map some else some none)=_
        rw [if_pos rfl,this]
        rfl
      | false=>rfl
    rw [e,List.zipIdx_cons,List.filter_cons]
    show some (y5D _ _)=_
    cases hp : p k x with
    | true=>rfl
    | false=>rfl
theorem y3I {α : Type} {enc : α->D} {c : DS->Option Bool} {f : DE} {δ : DS} (p : Nat->α->Bool) (g : Nat->α->D) {xs : List α} (hl : xs.length≤1000) (hc : ∀ i (h : i < xs.length),c (δ ++ [some (.int (i : Int)),some (enc xs[i])])=some (p i xs[i])) (hf : ∀ i (h : i < xs.length),p i xs[i]=true->f (δ ++ [some (.int (i : Int)),some (enc xs[i])])=some (g i xs[i])) :
    z1J (some (z0t 0 (xs.map enc))) (two (z4f c f δ))=some ((xs.zipIdx.filter fun z=>p z.2 z.1).map fun z=>g z.2 z.1):=by
  rw [z5O (by rw [z6P,List.length_map]; omega)]
  refine y0T p g (fun i h=>?_) fun i h hp=>?_
  · rw [Nat.zero_add]; exact hc i h
  · rw [Nat.zero_add] at hp ⊢; exact hf i h hp
theorem cx2_all {α : Type} {enc : α->D} {f : DE} {δ : DS} (g : Nat->α->D) {xs : List α} (hl : xs.length≤1000) (hf : ∀ i (h : i < xs.length),f (δ ++ [some (.int (i : Int)),some (enc xs[i])])=some (g i xs[i])) :
    z1J (some (z0t 0 (xs.map enc))) (two (z4f z6h f δ))=some (xs.zipIdx.map fun z=>g z.2 z.1):=by
  rw [y3I (fun _ _=>true) g hl (fun _ _=>rfl) fun i h _=>hf i h,List.filter_eq_self.mpr fun _ _=>rfl]
theorem y2K {th : List Nat} : z9H (thD th)=some (z0t 0 (th.map nD)):=(rfl)
theorem y1g {o : List Nat} {k : Nat} : y5m (some (thD o)) (some (some ((k : Int) + 1))) (some none)=some ((o.drop (k + 1)).map nD):=by
  show some (z8E (o.map nD) (some ((k : Int) + 1)) none)=_
  unfold z8E
  have e1 : HT.sIx (o.map nD).length (o.map nD).length none=(o.map nD).length:=rfl
  have e2 : HT.sIx (o.map nD).length 0 (some ((k : Int) + 1))=min (k + 1) (o.map nD).length:=by
    show (if ((k : Int) + 1) < 0 then (((k : Int) + 1) + ((o.map nD).length : Int)).toNat else min ((k : Int) + 1).toNat (o.map nD).length)=_
    rw [if_neg (by omega)]
    congr 1
  rw [e1,e2,List.map_drop]
  congr 1
  by_cases h : k + 1≤(o.map nD).length
  · rw [Nat.min_eq_left h,List.take_of_length_le (by simp)]
  · rw [Nat.min_eq_right (by omega),List.drop_eq_nil_of_le (as:=o.map nD) (Nat.le_refl _),List.take_nil,List.drop_eq_nil_of_le (by omega)]
theorem z6p {a b : List Nat} (h : a.length + b.length≤1000000) : catO (some (thD a)) (some (thD b))=some ((a ++ b).map nD):=by
  show catO (some (.lst (a.map nD))) (some (.lst (b.map nD)))=_
  rw [y3T (by rw [List.length_map,List.length_map]; exact h),List.map_append]
theorem y0S (o : List Nat) : D.lst (o.map nD)=thD o:=(rfl)
theorem th_one {j : Nat} : D.lst [.int (j : Int)]=thD [j]:=(rfl)
theorem z1y (o : List Nat) : z4z (some (o.map nD))=some (o.map nD):=z4M (z6W o)
theorem z4u : z4z (some [])=some []:=(rfl)
theorem y3F : D.lst []=thD []:=(rfl)
theorem z5f {α : Type} {enc : α->D} {i : Nat} {b : SS->Option Out} (I : SS->Prop) (p : α->Bool) (d : D) : ∀ {xs : List α} {s : SS},I s->(∀ x∈xs,∀ δ,I δ->hol (b (δ.set i (some (.sh (enc x))))) fun o=>if p x=true then (∃ δ',o = .nx δ'∧I δ') else o = .rt d) →
    hol (z7e i b (xs.map enc) s) fun o=>if xs.all p=true then (∃ δ',o = .nx δ'∧I δ') else o = .rt d
  | [],s,h0,_=>⟨_,rfl,(if_pos rfl).mpr ⟨s,rfl,h0⟩⟩
  | x :: r,s,h0,hs=>by
    obtain ⟨o,e,q⟩:=hs x List.mem_cons_self s h0
    rw [List.map_cons]
    unfold z7e
    rw [e,List.all_cons]
    cases hp : p x with
    | true=>
      rw [hp,if_pos rfl] at q
      obtain ⟨s1,rfl,h1⟩:=q
      rw [Bool.true_and]
      exact z5f I p d h1 fun y hy=>hs y (List.mem_cons_of_mem _ hy)
    | false=>
      rw [hp,if_neg Bool.false_ne_true] at q
      subst q
      rw [Bool.false_and]
      exact ⟨_,rfl,(if_neg Bool.false_ne_true).mpr rfl⟩
theorem y6z {i : Nat} {b : SS->Option Out} {m : Nat} {s : SS} (I : SS->Prop) (p : Nat->Bool) (d : D) (h0 : I s) (hs : ∀ n < m,∀ δ,I δ->hol (b (δ.set i (some (.sh (.int (n : Int)))))) fun o=>if p n=true then (∃ δ',o = .nx δ'∧I δ') else o = .rt d) :
    hol (z7e i b (z5a 0 m) s) fun o=>if (List.range m).all p=true then (∃ δ',o = .nx δ'∧I δ') else o = .rt d:=by
  rw [z2t]
  exact z5f I p d h0 fun x hx=>hs x (List.mem_range.mp hx)
theorem z6t {x : Option Out} {b : SS->Option Out} {I : SS->Prop} {Q : Out->Prop} {c : Bool} {d : D} (h : hol x fun o=>if c=true then (∃ s,o = .nx s∧I s) else o = .rt d) (k : c=true->∀ s,I s->hol (b s) Q) (kr : c=false->Q (.rt d)) : hol (z8J x b) Q:=by
  obtain ⟨o,rfl,q⟩:=h
  cases hc : c with
  | true=>
    rw [hc,if_pos rfl] at q
    obtain ⟨s,rfl,q⟩:=q
    exact k hc s q
  | false=>
    rw [hc,if_neg Bool.false_ne_true] at q
    subst q
    exact ⟨_,rfl,kr hc⟩
noncomputable def movX (x : Option D) (i j : Nat) (s : SS) : Option Out:=match x with
  | some d=>some (.nx (((z0B j s).set j none).set i (some (.ow d))))
  | none=>none
theorem ev_mov {i j : Nat} {s : SS} : movO i j s=movX (owA j s) i j s:=by
  unfold movO owA movX
  generalize s[j]? = z
  rcases z with _ | _ | x
  · rfl
  · rfl
  · cases x <;> rfl
theorem eo_mov {d : D} {i j : Nat} {s : SS} : movX (some d) i j s=some (.nx (((z0B j s).set j none).set i (some (.ow d)))):=(rfl)
theorem z5c {c : DS->Option Bool} {b : SS->Option Out} {QO : Out->Prop} (I : Nat->SS->Prop) : ∀ {n : Nat} {s : SS},I n s->(∀ n δ,I n δ->∃ k,c (z0r δ)=some k∧(k=false->QO (.nx δ))∧(k=true->∃ n',n=n' + 1∧hol (b δ) fun o=>match o with | .nx δ'=>I n' δ' | .ct δ'=>I n' δ' | .bk δ'=>QO (.nx δ') | .rt d=>QO (.rt d) | .ex e δ'=>QO (.ex e δ')))->∀ {f : Nat},n < f->hol (z4A c b f s) QO
  | n,s,h0,hs,0,hf=>absurd hf (by omega)
  | n,s,h0,hs,f + 1,hf=>by
    obtain ⟨k,ec,h1,h2⟩:=hs n s h0
    unfold z4A
    rw [ec]
    cases k with
    | false=>exact ⟨_,rfl,h1 rfl⟩
    | true=>
      obtain ⟨n',rfl,o,eb,q⟩:=h2 rfl
      show hol ((b s).bind _) QO
      rw [eb]
      cases o with
      | nx s1=>exact z5c I q hs (by omega)
      | ct s1=>exact z5c I q hs (by omega)
      | bk s1=>exact ⟨_,rfl,q⟩
      | rt d=>exact ⟨_,rfl,q⟩
      | ex e s1=>exact ⟨_,rfl,q⟩
theorem tru_nil : z5h (thD [])=some false:=(rfl)
noncomputable def ckO (b : Option Bool) (x : Option D) : Option (Option D):=match b with
  | some true=>x.bind fun d=>if d.imm=true then some (some d) else none
  | some false=>some none
  | none=>none
theorem y6Y {fc : DS->Option Bool} {fe : DE} {δ : DS} : y0o fc fe δ=ckO (fc δ) (fe δ):=by
  unfold y0o ckO
  generalize fc δ=b
  rcases b with _ | _ | _ <;> rfl
theorem eo_ckf {x : Option D} : ckO (some false) x=some none:=(rfl)
noncomputable def chkX (i : Nat) (ds : Option (List D)) (fb : DS->Option (Option D)) (s : SS) : Option Out:=match ds with
  | some ds=>if z1l ds=true then y3W i fb ds s else none
  | none=>none
theorem ev_forC {i : Nat} {fi : DS->Option (List D)} {fb : DS->Option (Option D)} {s : SS} : forC i fi fb s=chkX i (fi (z0r s)) fb s:=by
  unfold forC chkX
  generalize fi (z0r s)=b
  rcases b with _ | _ <;> rfl
theorem y0L {α : Type} {enc : α->D} {i : Nat} {fb : DS->Option (Option D)} (I : SS->Prop) : ∀ {xs : List α} {s : SS},I s->(∀ δ,I δ->∀ x∈xs,I (δ.set i (some (.sh (enc x))))∧fb (z0r (δ.set i (some (.sh (enc x)))))=some none)->hol (y3W i fb (xs.map enc) s) fun o=>∃ δ',o = .nx δ'∧I δ'
  | [],s,h0,_=>⟨_,rfl,s,rfl,h0⟩
  | x :: r,s,h0,hs=>by
    obtain ⟨h1,h2⟩:=hs s h0 x List.mem_cons_self
    rw [List.map_cons]
    unfold y3W
    rw [h2]
    exact y0L I h1 fun δ hδ y hy=>hs δ hδ y (List.mem_cons_of_mem _ hy)
theorem y1w {i : Nat} {th : List Nat} {fb : DS->Option (Option D)} {s : SS} : chkX i (some (th.map nD)) fb s=y3W i fb (th.map nD) s:=if_pos (z6W th)
theorem z8K {o : List Nat} {k : Nat} : y5m (some (thD o)) (some (some (k : Int))) (some none)=some ((o.drop k).map nD):=by
  show some (z8E (o.map nD) (some (k : Int)) none)=_
  unfold z8E
  have e1 : HT.sIx (o.map nD).length (o.map nD).length none=(o.map nD).length:=rfl
  have e2 : HT.sIx (o.map nD).length 0 (some (k : Int))=min k (o.map nD).length:=by
    show (if (k : Int) < 0 then ((k : Int) + ((o.map nD).length : Int)).toNat else min (k : Int).toNat (o.map nD).length)=_
    rw [if_neg (by omega)]
    congr 1
  rw [e1,e2,List.map_drop]
  congr 1
  by_cases h : k≤(o.map nD).length
  · rw [Nat.min_eq_left h,List.take_of_length_le (by simp)]
  · rw [Nat.min_eq_right (by omega),List.drop_eq_nil_of_le (as:=o.map nD) (Nat.le_refl _),List.take_nil,List.drop_eq_nil_of_le (by omega)]
noncomputable def repO (x y : Option D) : Option (List D):=x.bind fun a=>y.bind fun b=>repLs a b
theorem ev_rep {f g : DE} {δ : DS} : y6j f g δ=repO (f δ) (g δ):=(rfl)
theorem y0r {d : D} {n : Nat} (h : n≤1000000) : repO (some (.lst [d])) (some (.int (n : Int)))=some (List.replicate n d):=by
  have e : ∀ k : Nat,(List.replicate k [d]).flatten=List.replicate k d:=fun k=>by
    induction k with
    | zero=>rfl
    | succ k ih=>rw [List.replicate_succ,List.flatten_cons,ih,List.replicate_succ]; rfl
  show (if (0≤(n : Int)∧(n : Int)≤1000000)∧[d].length * (n : Int).toNat≤sizeLine then some (List.replicate (n : Int).toNat [d]).flatten else none)=_
  rw [if_pos ⟨⟨by omega,by omega⟩,z3l (by simp; exact h)⟩,Int.toNat_natCast,e]
theorem y6c {f g : DE} {δ : DS} : y3U f g δ=o2 mkD1 (f δ) (g δ):=ev_d2
theorem ev_rngN {f g h : DE} {δ : DS} : y5U f g h δ=rngN (f δ) (g δ) (h δ):=(rfl)
theorem ea_mkD1 {a b : Int} : mkD1 (.int a) (.int b)=some (.dct [.inl a] [.int b]):=(rfl)
theorem ea_ixLL {ds : List D} {i : Int} : ixL (.lst ds) (.int i)=atI ds i:=(rfl)
noncomputable def forX2 (i j : Nat) (xs : Option (List D)) (b : SS->Option Out) (s : SS) : Option Out:=xs.bind fun ds=>z4J i j b ds s
theorem y6s {i j : Nat} {f : DS->Option (List D)} {g : SS->Option Out} {s : SS} : y4x i j f g s=forX2 i j (f (shV s)) g s:=(rfl)
theorem eo_for2 {i j : Nat} {ds : List D} {b : SS->Option Out} {s : SS} : forX2 i j (some ds) b s=z4J i j b ds s:=(rfl)
theorem z8c {α : Type} {enc : α->D} {i j : Nat} {b : SS->Option Out} {QO : Out->Prop} {xs : List α} (I : List α->SS->Prop) (hs : ∀ pre x post,xs=pre ++ x :: post->∀ δ,I pre δ->hol (b ((δ.set i (some (.sh (.int ((pre.length : Nat) : Int))))).set j (some (.sh (enc x))))) fun o=>match o with | .nx δ'=>I (pre ++ [x]) δ' | .ct δ'=>I (pre ++ [x]) δ' | .bk δ'=>QO (.nx δ') | .rt d=>QO (.rt d) | .ex c δ'=>QO (.ex c δ')) (he : ∀ δ,I xs δ->QO (.nx δ)) :
    ∀ {post pre : List α} {s : SS},xs=pre ++ post->I pre s->hol (z4J i j b (z0t pre.length (post.map enc)) s) QO
  | [],pre,s,e,h=>⟨_,rfl,he s (by rw [e,List.append_nil]; exact h)⟩
  | x :: post,pre,s,e,h=>by
    obtain ⟨o,eo,q⟩:=hs pre x post e s h
    have e2 : z0t pre.length ((x :: post).map enc) = .tup [.int ((pre.length : Nat) : Int),enc x] :: z0t (pre ++ [x]).length (post.map enc):=by
      rw [List.map_cons,List.length_append]
      rfl
    rw [e2]
    unfold z4J
    show hol ((b ((s.set i (some (.sh (.int ((pre.length : Nat) : Int))))).set j (some (.sh (enc x))))).bind _) QO
    rw [eo]
    have e3 : xs=(pre ++ [x]) ++ post:=by rw [e]; simp
    cases o with
    | nx s1=>exact z8c I hs he e3 q
    | ct s1=>exact z8c I hs he e3 q
    | bk s1=>exact ⟨_,rfl,q⟩
    | rt d=>exact ⟨_,rfl,q⟩
    | ex c s1=>exact ⟨_,rfl,q⟩
theorem y1W {a : Nat} {r : List Nat} (h : (a :: r).Pairwise (· < ·)) : y3S [thD (a :: r)]=some (.int (a : Int)):=by
  have hp:=List.pairwise_cons.mp h
  have hb : ∀ k,k≤r.length->bst ((a :: r).map fun n=>((n : Nat) : Int)) k=0:=fun k=>by
    induction k with
    | zero=>exact fun _=>rfl
    | succ k ih=>
      intro hk
      unfold bst
      rw [ih (by omega)]
      refine if_neg ?_
      rw [decide_eq_true_iff,List.map_cons]
      show ¬ ((r.map fun n=>((n : Nat) : Int)).getD k 0 < (a : Int))
      rw [List.getD_eq_getElem?_getD,List.getElem?_map,List.getElem?_eq_getElem (by omega)]
      show ¬ (((r[k]'(by omega) : Nat) : Int) < (a : Int))
      have:=hp.1 _ (List.getElem_mem (show k < r.length by omega))
      omega
  have e : (a :: r).map nD=((a :: r).map fun n=>((n : Nat) : Int)).map D.int:=by rw [List.map_map]; rfl
  show ((z2y ((a :: r).map nD)).bind fun ns=>if ns.isEmpty=true then none else some (D.int (mnI ns)))=_
  have ii : ∀ ns : List Int,z2y (ns.map D.int)=some ns:=fun ns=>by
    induction ns with
    | nil=>rfl
    | cons n ns ih=>show (z2y (ns.map D.int)).map (fun r=>n :: r)=_; rw [ih]; rfl
  rw [e,ii,Option.bind_some,if_neg (by simp)]
  unfold mnI
  rw [List.length_map,List.length_cons,Nat.add_sub_cancel,hb _ (Nat.le_refl _)]
  rfl
theorem es_own0 {d : D} {r : SS} : y2P (some (.ow d) :: r) 0=some d:=(rfl)
theorem es_ownS {x : Option SD} {r : SS} {i : Nat} : y2P (x :: r) (i + 1)=y2P r i:=by
  unfold y2P
  rw [List.getElem?_cons_succ]
end L2
namespace L2
open PySem
theorem y2s {x : Option Out} {b : SS->Option Out} {I : SS->Prop} {d : D} (h : hol x fun o=>(∃ s,o = .nx s∧I s)∨o = .rt d) (k : ∀ s,I s->hol (b s) fun o=>o = .rt d) : hol (z8J x b) fun o=>o = .rt d:=by
  obtain ⟨o,rfl,q⟩:=h
  rcases q with ⟨s,rfl,q⟩ | rfl
  · exact k s q
  · exact ⟨_,rfl,rfl⟩
theorem z5t {ds : List D} {k : Nat} (hk : k≤ds.length) : z8E ds none (some (k : Int))=ds.take k:=by
  unfold z8E
  have e1 : HT.sIx ds.length 0 none=0:=rfl
  have e2 : HT.sIx ds.length ds.length (some (k : Int))=k:=by
    show (if (k : Int) < 0 then ((k : Int) + (ds.length : Int)).toNat else min (k : Int).toNat ds.length)=k
    rw [if_neg (by omega)]
    omega
  rw [e1,e2,List.drop_zero,Nat.sub_zero]
theorem y4o {ds : List D} {k : Nat} : z8E ds (some (k : Int)) none=ds.drop k:=by
  unfold z8E
  have e1 : HT.sIx ds.length 0 (some (k : Int))=min k ds.length:=by
    show (if (k : Int) < 0 then ((k : Int) + (ds.length : Int)).toNat else min (k : Int).toNat ds.length)=_
    rw [if_neg (by omega),Int.toNat_natCast]
  have e2 : HT.sIx ds.length ds.length none=ds.length:=rfl
  rw [e1,e2]
  by_cases h : k≤ds.length
  · rw [Nat.min_eq_left h]
    exact List.take_of_length_le (by rw [List.length_drop]; exact Nat.le_refl _)
  · rw [Nat.min_eq_right (by omega),List.drop_of_length_le (Nat.le_refl _),List.drop_of_length_le (by omega),List.take_nil]
end L2
namespace L2
open PySem
noncomputable def cM2 (F : List D->Option D) (a b : Option D) (cs : Option (List D)) : Option D:=a.bind fun a=>b.bind fun b=>cs.bind fun cs=>F (a :: b :: cs)
theorem y3Z {F : List D->Option D} {f0 f1 : DE} {fl : List DE} {δ : DS} : z6Q F f0 f1 fl δ=cM2 F (f0 δ) (f1 δ) (z0k fl δ):=(rfl)
theorem eo_cM2 {F : List D->Option D} {a b : D} {cs : List D} : cM2 F (some a) (some b) (some cs)=F (a :: b :: cs):=(rfl)
noncomputable def r1O (x : Option D) : Option Out:=x.map fun d=>.rt (.lst [d])
theorem ev_ret1 {i : Nat} {s : SS} : ret1 i s=r1O (y2P s i):=(rfl)
theorem eo_r1 {d : D} : r1O (some d)=some (.rt (.lst [d])):=(rfl)
theorem y1e {np nl : Nat} {b : SS->Option Out} {du d0 : D} {ds : List D} {d : D} (hl : ds.length + 2=np) (h : hol (b (some (.sh du) :: some (.ow d0) :: ds.map (fun d=>some (.sh d)) ++ List.replicate nl none)) fun o=>o = .rt d) : y0m np nl b (du :: d0 :: ds)=some d:=by
  obtain ⟨o,e,rfl⟩:=h
  show (if ds.length + 2=np then _ else none)=some d
  rw [if_pos hl]
  rw [e]
end L2
namespace L2
open PySem
noncomputable def extDV (o x : Option D) : Option D:=match x,o with
  | some (.lst es),some (.lst ds)=>if z1l es=true∧ds.length + es.length≤sizeLine then some (.lst (ds ++ es)) else none
  | _,_=>none
theorem y5s {i : Nat} {f : DE} {s : SS} : y4m i f s=z5X i (extDV (owA i s) (f (z0r s))) s:=by
  unfold y4m owA
  cases f (z0r s) with
  | none=>rcases s[i]? with _ | _ | ⟨x | x | ⟨r,x⟩⟩ <;> rfl
  | some d=>
    cases d <;> rcases s[i]? with _ | _ | ⟨x | x | ⟨r,x⟩⟩ <;> (first | rfl | (cases x <;> (first | rfl | (show (if _ then _ else _)=z5X i (if _ then _ else _) s; split <;> rfl))))
theorem eo_extD {ds es : List D} (hi : z1l es=true) (h : ds.length + es.length≤1000000) : extDV (some (.lst ds)) (some (.lst es))=some (.lst (ds ++ es)):=if_pos ⟨hi,z3l h⟩
theorem ev_litT {rs : List (List Int)} {δ : DS} : y1L rs δ=some (rs.map fun r=>.tup (r.map .int)):=(rfl)
end L2
namespace L2
open PySem
noncomputable def st0NV (o k v : Option D) : Option D:=match o,k,v with
  | some (.lst ds),some (.int k),some d=>(ixN ds.length k).map fun j=>.lst (ds.set j d)
  | _,_,_=>none
theorem ev_st0N {i : Nat} {fk fv : DE} {s : SS} : st0N i fk fv s=z5X i (st0NV (owA i s) (fk (z0r s)) (fv (z0r s))) s:=by
  unfold st0N owA
  rcases fv (z0r s) with _ | d
  · rcases fk (z0r s) with _ | k <;> rcases s[i]? with _ | _ | ⟨x | x | ⟨r,x⟩⟩ <;> (first | rfl | (cases x <;> first | rfl | (cases k <;> rfl)))
  · rcases fk (z0r s) with _ | k
    · rcases s[i]? with _ | _ | ⟨x | x | ⟨r,x⟩⟩ <;> (first | rfl | (cases x <;> rfl))
    · rcases s[i]? with _ | _ | ⟨x | x | ⟨r,x⟩⟩ <;> cases k <;> (first | rfl | (cases x <;> first | rfl | skip))
      rename_i k ds
      show (ixN ds.length k).map _=z5X i ((ixN ds.length k).map _) s
      cases ixN ds.length k <;> rfl
theorem y6U {ds : List D} {k : Nat} {d : D} (h : k < ds.length) : st0NV (some (.lst ds)) (some (.int (k : Int))) (some d)=some (.lst (ds.set k d)):=by
  show (ixN ds.length (k : Int)).map _=_
  rw [y3x h]
  rfl
theorem y4T {ns : List Int} {i : Int} : z5b (.lst (ns.map .int)) (.int i)=some (.int ((ns.countP fun n=>n == i : Nat) : Int)):=by
  show (z2y (ns.map D.int)).map _=_
  rw [Prg.ints_int]
  rfl
theorem z8L : ∀ bs : List Bool,z5j (bs.map D.bl)=some bs
  | []=>rfl
  | b :: bs=>by
    show (z5j (bs.map D.bl)).map (b :: ·)=_
    rw [z8L bs]
    rfl
theorem y1R {bs : List Bool} {b : Bool} : z5b (.lst (bs.map .bl)) (.bl b)=some (.int ((bs.countP fun c=>c == b : Nat) : Int)):=by
  show (z5j (bs.map D.bl)).map _=_
  rw [z8L]
  rfl
theorem y5o {i : Nat} {fi : DS->Option (List D)} {fb : DS->Option (Option D)} {s : SS} : y5u i fi fb s=(fi (z0r s)).bind fun ds=>y6d i fb ds s:=(rfl)
theorem y1r {α : Type} {enc : α->D} {i : Nat} {fb : DS->Option (Option D)} (I : SS->Prop) : ∀ {xs : List α} {s : SS},I s->(∀ δ,I δ->i < δ.length∧I (δ.set i none)∧∀ x∈xs,fb ((z0r (δ.set i none)).set i (some (enc x)))=some none)->hol (y6d i fb (xs.map enc) s) fun o=>∃ δ',o = .nx δ'∧I δ'
  | [],s,h0,_=>⟨_,rfl,s,rfl,h0⟩
  | x :: r,s,h0,hs=>by
    obtain ⟨hl,h1,h2⟩:=hs s h0
    rw [List.map_cons]
    unfold y6d
    rw [if_pos hl,h2 x List.mem_cons_self]
    exact y1r I h1 fun δ hδ=>by
      obtain ⟨a,b,c⟩:=hs δ hδ
      exact ⟨a,b,fun y hy=>c y (List.mem_cons_of_mem _ hy)⟩
end L2
set_option maxHeartbeats 4000000
namespace Prg
open PySem PySem.Spec PyProof.Rows L2
noncomputable def top (i : Nat) : Stmt:=PySem.Challenge.pw_askorder_k47_one_in_the_other.main.body.getD i (.Pass ⟨0,0,0,0⟩)
noncomputable abbrev z2g : Stmt:=top 5
noncomputable abbrev y0v : List Str:=["table", "one"]
noncomputable abbrev z4R : List Str:=["table", "one"]
noncomputable abbrev z2c : Stmt:=top 6
noncomputable abbrev y0F : List Str:=["table", "one", "things"]
noncomputable abbrev z4G : List Str:=["table", "one", "things"]
noncomputable abbrev z1r : Stmt:=top 7
noncomputable abbrev z8i : List Str:=["marks"]
noncomputable abbrev z3J : List Str:=["marks"]
noncomputable abbrev z2J : Stmt:=top 9
noncomputable abbrev y2y : List Str:=["table", "things"]
noncomputable abbrev z5T : List Str:=["table", "things"]
noncomputable abbrev z3n : Stmt:=top 10
noncomputable abbrev y3X : List Str:=["table", "things"]
noncomputable abbrev z6J : List Str:=["table", "things"]
noncomputable abbrev z4t : Stmt:=top 11
noncomputable abbrev y5P : List Str:=["table", "chain"]
noncomputable abbrev z8B : List Str:=["table", "chain"]
noncomputable abbrev z1s : Stmt:=top 13
noncomputable abbrev z8l : List Str:=["table", "thing", "chains", "chain"]
noncomputable abbrev z3D : List Str:=["table", "thing"]
noncomputable abbrev z0R : Stmt:=top 14
noncomputable abbrev z7f : List Str:=["table", "chain", "further", "chains", "thing"]
noncomputable abbrev z2i : List Str:=["table", "chain", "further"]
noncomputable abbrev z3k : Stmt:=top 16
noncomputable abbrev y3R : List Str:=["table", "one"]
noncomputable abbrev z6O : List Str:=["table", "one"]
noncomputable abbrev z1G : Stmt:=top 17
noncomputable abbrev z9M : List Str:=["table", "one", "steps", "edge", "further", "here", "other"]
noncomputable abbrev z3X : List Str:=["table", "one"]
noncomputable abbrev z5L : Stmt:=top 18
noncomputable abbrev N_rings : List Str:=["table", "counts"]
noncomputable abbrev y0f : List Str:=["table"]
noncomputable abbrev z1q : Stmt:=top 19
noncomputable abbrev z8h : List Str:=["counts", "wanted"]
noncomputable abbrev z3G : List Str:=["counts", "wanted"]
noncomputable abbrev z2E : Stmt:=top 20
noncomputable abbrev y1U : List Str:=["table"]
noncomputable abbrev z5A : List Str:=["table"]
noncomputable abbrev z2M : Stmt:=top 21
noncomputable abbrev y2a : List Str:=["table", "one", "from_the_top", "row", "ring"]
noncomputable abbrev z5Q : List Str:=["table", "one"]
noncomputable abbrev z1C : Stmt:=top 22
noncomputable abbrev z9j : List Str:=["circle", "one", "place"]
noncomputable abbrev z3Z : List Str:=["circle", "one"]
noncomputable abbrev z2I : Stmt:=top 23
noncomputable abbrev y2q : List Str:=["table", "ring", "circle", "wider"]
noncomputable abbrev z5R : List Str:=["table", "ring"]
noncomputable abbrev z3s : Stmt:=top 24
noncomputable abbrev y4u : List Str:=["table", "circle", "ring", "left", "place", "here", "behind", "between"]
noncomputable abbrev z6B : List Str:=["table", "circle", "ring"]
noncomputable abbrev z4n : Stmt:=top 25
noncomputable abbrev y5W : List Str:=["table", "here", "behind", "left", "one", "other"]
noncomputable abbrev z7N : List Str:=["table", "here", "behind", "left"]
noncomputable abbrev z2L : Stmt:=top 27
noncomputable abbrev y2f : List Str:=["table", "thing", "top"]
noncomputable abbrev z5y : List Str:=["table", "thing"]
noncomputable abbrev z2H : Stmt:=top 28
noncomputable abbrev y1Q : List Str:=["table", "thing", "paper", "chain", "others"]
noncomputable abbrev z5I : List Str:=["table", "thing"]
noncomputable abbrev z3p : Stmt:=top 29
noncomputable abbrev y3C : List Str:=["table", "thing", "top"]
noncomputable abbrev z6o : List Str:=["table", "thing"]
noncomputable abbrev z2f : Stmt:=top 31
noncomputable abbrev y0p : List Str:=["table", "kind", "thing"]
noncomputable abbrev z4L : List Str:=["table", "kind", "thing"]
noncomputable abbrev z2e : Stmt:=top 32
noncomputable abbrev y0K : List Str:=["table", "kind", "papers"]
noncomputable abbrev z4S : List Str:=["table", "kind"]
noncomputable abbrev z1E : Stmt:=top 33
noncomputable abbrev z9N : List Str:=["table", "kind"]
noncomputable abbrev z4k : List Str:=["table", "kind"]
noncomputable abbrev z1c : Stmt:=top 35
noncomputable abbrev z7g : List Str:=["script", "k"]
noncomputable abbrev z3f : List Str:=["script", "k"]
noncomputable abbrev z1A : Stmt:=top 36
noncomputable abbrev z9I : List Str:=["found"]
noncomputable abbrev z4j : List Str:=["found"]
noncomputable abbrev z1I : Stmt:=top 37
noncomputable abbrev z9J : List Str:=["script", "many", "seed", "table", "pairs", "a", "b", "bits", "p", "k"]
noncomputable abbrev z3Y : List Str:=["script", "many"]
noncomputable abbrev z1H : Stmt:=top 38
noncomputable abbrev z8I : List Str:=["cell", "many", "order", "k"]
noncomputable abbrev z4c : List Str:=["cell", "many"]
noncomputable abbrev z1F : Stmt:=top 39
noncomputable abbrev z9m : List Str:=["places", "bits", "beats", "table", "one", "other", "last"]
noncomputable abbrev z4h : List Str:=["places", "bits"]
noncomputable abbrev z1Z : Stmt:=top 40
noncomputable abbrev y0k : List Str:=["table"]
noncomputable abbrev z4V : List Str:=["table"]
noncomputable abbrev z1d : Stmt:=top 41
noncomputable abbrev z7d : List Str:=["things", "found", "one"]
noncomputable abbrev z3g : List Str:=["things"]
noncomputable abbrev z0L : Stmt:=top 42
noncomputable abbrev z5S : List Str:=["table", "things", "a", "b", "back"]
noncomputable abbrev z1X : List Str:=["table", "things"]
noncomputable abbrev z1b : Stmt:=top 43
noncomputable abbrev z7c : List Str:=["table", "things", "found", "one"]
noncomputable abbrev z3d : List Str:=["table", "things"]
noncomputable abbrev z1e : Stmt:=top 44
noncomputable abbrev z7m : List Str:=["table", "thing", "beaten", "some"]
noncomputable abbrev z3a : List Str:=["table", "thing"]
noncomputable abbrev z0P : Stmt:=top 45
noncomputable abbrev z6c : List Str:=["table", "one", "other"]
noncomputable abbrev z2v : List Str:=["table", "one"]
noncomputable abbrev z1p : Stmt:=top 46
noncomputable abbrev z8x : List Str:=["found", "many", "k"]
noncomputable abbrev z3K : List Str:=["found", "many"]
noncomputable abbrev z7O : Stmt:=top 47
noncomputable abbrev N_law : List Str:=["script", "many", "table", "handed", "lists", "found", "free", "one", "first", "kept"]
noncomputable abbrev P_law : List Str:=["script"]
theorem nd0 : (["table", "one", "things", "other"] : List Str).Nodup:=by decide +kernel
theorem nd1 : (["marks", "place", "mark"] : List Str).Nodup:=by decide +kernel
theorem nd2 : (["table", "things", "place", "one"] : List Str).Nodup:=by decide +kernel
theorem nd3 : (["table", "things", "one"] : List Str).Nodup:=by decide +kernel
theorem nd4 : (["table", "chain", "further", "chains", "thing", "other"] : List Str).Nodup:=by decide +kernel
theorem nd5 : (["table", "thing", "chains", "3", "chain"] : List Str).Nodup:=by decide +kernel
theorem nd6 : (["counts", "wanted", "place", "count"] : List Str).Nodup:=by decide +kernel
theorem nd7 : (["table", "counts", "count"] : List Str).Nodup:=by decide +kernel
theorem nd8 : (["table", "counts", "one"] : List Str).Nodup:=by decide +kernel
theorem nd9 : (["table", "circle", "ring", "left", "place", "here", "behind", "between", "thing"] : List Str).Nodup:=by decide +kernel
theorem nd10 : (["table", "thing", "paper", "chain", "others", "other"] : List Str).Nodup:=by decide +kernel
theorem nd11 : (["table", "kind", "papers", "paper"] : List Str).Nodup:=by decide +kernel
theorem nd12 : (["table", "kind", "papers", "thing"] : List Str).Nodup:=by decide +kernel
theorem nd13 : (["table", "kind", "thing", "order"] : List Str).Nodup:=by decide +kernel
theorem nd14 : (["script", "many", "seed", "table", "pairs", "a", "b", "bits", "p", "9", "k"] : List Str).Nodup:=by decide +kernel
theorem nd15 : (["places", "bits", "beats", "table", "one", "other", "last", "k"] : List Str).Nodup:=by decide +kernel
theorem nd16 : (["table", "row"] : List Str).Nodup:=by decide +kernel
theorem nd17 : (["things", "found", "one", "some"] : List Str).Nodup:=by decide +kernel
theorem nd18 : (["table", "things", "a", "b", "back", "c"] : List Str).Nodup:=by decide +kernel
theorem nd19 : (["table", "things", "found", "one", "other"] : List Str).Nodup:=by decide +kernel
theorem nd20 : (["table", "thing", "beaten", "some", "other"] : List Str).Nodup:=by decide +kernel
theorem nd21 : (["table", "one", "other", "third"] : List Str).Nodup:=by decide +kernel
theorem nd22 : (["script", "many", "table", "handed", "lists", "5", "free", "one", "first", "kept", "found"] : List Str).Nodup:=by decide +kernel
theorem nd23 : (["script", "many", "table", "handed", "lists", "found", "free", "7", "first", "kept", "one"] : List Str).Nodup:=by decide +kernel
noncomputable def z4Z : SS->Option Out:=(z6k (z0l allF [(mkL (z1t (z4B (z0d 2)) z6h (d2 ixD (d2 ixD (z0d 0) (z0d 1)) (z0d 3))))]))
noncomputable def z1h : List D->Option D:=z2F 3 0 z4Z
noncomputable def z3I : SS->Option Out:=(z8F (z0u (z5k (z9B (z0d 0)) (z0v (z0d 2)) (z0d 1))))
noncomputable def z1M : List D->Option D:=z2F 1 0 z3I
noncomputable def z4X : SS->Option Out:=(z8F (z0l z1M [(d2 ixD (z0d 0) (z0d 1))]))
noncomputable def z1m : List D->Option D:=z2F 2 0 z4X
noncomputable def z4m : SS->Option Out:=(z0N (ifO (z0G (d2 eqD (z0l z3c [(z0d 1)]) (dC (.int 0)))) (z6k (dC (.bl false))) z1z)
  (z6k (z0l allF [(mkL (z5k (z9B (z0d 1)) z6h (z0l z1h [(z0d 0),(z0d 3),(mkL (y2v (z0d 1) (z6b (d2 y2D (z0d 2) (dC (.int 1)))) z2O))])))])))
noncomputable def z3u : List D->Option D:=z2F 2 0 z4m
noncomputable def z6S : SS->Option Out:=(z8F (z0u (z1t (z2W (z0l z3c [(z0d 0)])) (z0v (z0l z1h [(z0d 0),(z0d 2),(z0d 1)])) (z0d 2))))
noncomputable def z2q : List D->Option D:=z2F 2 0 z6S
noncomputable def z8e : SS->Option Out:=(z6k (dAnd (z0l z3u [(z0d 0),(z0d 1)]) (d2 eqD (z0l z3c [(z0l z2q [(z0d 0),(z0d 1)])]) (dC (.int 0)))))
noncomputable def z4r : List D->Option D:=z2F 2 0 z8e
noncomputable def z2j (mR : List D->Option D) : SS->Option Out:=(z0N (ifO (z7a (z0v (z0d 2))) (ret1 1) z1z)
  (z0N (z6d 3 (z0u (z0k [])))
  (z0N (z5G 4 (z4B (z0d 2)) (y3V 3 (z6Q mR (z0d 0) (z0u (y1l (z0d 1) (mkL (z0k [(z0d 4)])))) [(mkL (z1t (z4B (z0d 2)) (z0v (d2 ixD (d2 ixD (z0d 0) (z0d 4)) (z0d 5))) (z0d 5)))])))
  (y4B 3))))
noncomputable def z1k : Nat->List D->Option D
  | 0=>y0m 3 2 fun _=>none
  | n + 1=>y0m 3 2 (z2j (z1k n))
noncomputable def z1w : List D->Option D:=z1k 12
noncomputable def z3N : SS->Option Out:=(z0N (z6j 2 (z6Q z1w (z0d 0) (z0u (z0k [(z0d 1)])) [(z0l z1m [(z0d 0),(z0d 1)])]))
  (z0N (z5G 3 (z4B (z0d 2)) (ifO (z0v (z0l z4r [(z0d 0),(z0d 3)])) (z7v (mkT (z0k [(dC (.str "chain")),(z0d 3)]))) z1z))
  (z7v (mkT (z0k [(dC (.str "beaten")),(mkL (z1t (z4B (z0d 2)) z6h (mkT (z0k [(z0d 4),(d2 ixD (z0l z2q [(z0d 0),(z0d 4)]) (dC (.int 0)))]))))])))))
noncomputable def z1L : List D->Option D:=z2F 2 2 z3N
noncomputable def z4g : SS->Option Out:=(z0N (z6d 2 (y3U (z0d 1) (z0d 1)))
  (z0N (z6d 3 (z0u (z0k [(z0d 1)])))
  (z0N (z4A (z0v (z0d 3)) (z0N (z6d 4 (z0u (z0k [])))
  (z0N (frzO 3 (z5G 5 (z4B (z0d 3)) (z5G 6 (z4B (z0l z1m [(z0d 0),(z0d 5)])) (ifO (y6E (z0d 6) (z0d 2)) (z0N (dput 2 (z0d 6) (z0d 5))
  (m0 4 z7y [(z0d 6)])) z1z))))
  (movO 3 4))) 100)
  (y4B 2))))
noncomputable def z2s : List D->Option D:=z2F 2 5 z4g
noncomputable def z6v : SS->Option Out:=(z8F (z0u (z1T z9v [(z0l z2s [(z0d 0),(z0d 1)])])))
noncomputable def z3m : List D->Option D:=z2F 2 0 z6v
noncomputable def z3B : SS->Option Out:=(z8F (z0u (z5k (z9B (z0d 0)) (z0G (d2 eqD (z0d 3) (z0d 1))) (z0d 2))))
noncomputable def z1n : List D->Option D:=z2F 2 0 z3B
noncomputable def y0H : SS->Option Out:=(z0N (z6d 1 (z0u (z1t (z2W (z0l z3c [(z0d 0)])) z6h (z0l z3c [(z0l z3m [(z0d 0),(z0d 2)])]))))
  (z8F (mkL (z1t (y5U (z0l z3c [(z0d 0)]) (dC (.int 0)) (d1 uNeg (dC (.int 1)))) (z0G (d2 inD (z0d 2) (z0d 1))) (z0l z1n [(z0d 1),(z0d 2)])))))
noncomputable def z4Q : List D->Option D:=z2F 1 1 y0H
noncomputable def z5M : SS->Option Out:=(z8F (d2 ixL (z0l z4Q [(z0d 0)]) (dC (.int 0))))
noncomputable def z2b : List D->Option D:=z2F 1 0 z5M
noncomputable def z4d : SS->Option Out:=(z0N (y5n 2 (d2 lixF (z0d 0) (z0d 1)))
  (z8F (z0u (y1l (mkL (y2v (z0d 0) (z6b (z0d 2)) z2O)) (mkL (y2v (z0d 0) z2O (z6b (z0d 2))))))))
noncomputable def z2p : List D->Option D:=z2F 2 1 z4d
noncomputable def z8k : SS->Option Out:=(z0N (z5G 4 (z4B (z0d 3)) (ifO (z3y (z0v (d2 ixD (d2 ixD (z0d 0) (z0d 1)) (z0d 4))) (z0v (d2 ixD (d2 ixD (z0d 0) (z0d 4)) (z0d 2)))) (z8F (z0u (z0k [(z0d 4)]))) z1z))
  (z0N (z5G 4 (z4B (z0d 3)) (z5G 5 (z4B (z0d 3)) (ifO (z3y (z0v (d2 ixD (d2 ixD (z0d 0) (z0d 1)) (z0d 4))) (z3y (z0v (d2 ixD (d2 ixD (z0d 0) (z0d 4)) (z0d 5))) (z0v (d2 ixD (d2 ixD (z0d 0) (z0d 5)) (z0d 2))))) (z8F (z0u (z0k [(z0d 4),(z0d 5)]))) z1z)))
  (z8F (z0u (z0k [])))))
noncomputable def z4o : List D->Option D:=z2F 4 2 z8k
noncomputable def z6L : SS->Option Out:=(z0N (z6j 3 (mkL (z1t (z4B (z0d 2)) (z0G (d2 y0Q (z0d 8) (z0d 1))) (z0d 8))))
  (z0N (y4x 4 5 (z9B (z0d 1)) (z0N (y5n 6 (d2 ixD (z0d 1) (d2 z4y (d2 y2D (z0d 4) (dC (.int 1))) (z0l z3c [(z0d 1)]))))
  (z0N (z6j 7 (z0l z4o [(z0d 0),(z0d 5),(z0d 6),(z0d 3)]))
  (ifO (z0v (z0d 7)) (z7v (mkL (y1l (mkL (y1l (mkL (y2v (z0d 1) z2O (z6b (d2 y2D (z0d 4) (dC (.int 1)))))) (z0d 7))) (mkL (y2v (z0d 1) (z6b (d2 y2D (z0d 4) (dC (.int 1)))) z2O))))) z1z))))
  (z7v (z0d 1))))
noncomputable def z2T : List D->Option D:=z2F 3 5 z6L
noncomputable def z5E : SS->Option Out:=(z0N (z6j 2 (mkL (z0k [(z0l y3S [(z0d 1)])])))
  (z0N (z6j 3 (z0l z2T [(z0d 0),(z0d 2),(z0d 1)]))
  (z0N (z4A (z0G (d2 gtI (z0l z3c [(z0d 3)]) (z0l z3c [(z0d 2)]))) (z0N (z6j 2 (z0d 3))
  (z6j 3 (z0l z2T [(z0d 0),(z0d 2),(z0d 1)]))) 100)
  (z7v (z0d 2)))))
noncomputable def z1W : List D->Option D:=z2F 2 2 z5E
noncomputable def z5J : SS->Option Out:=(z0N (z6j 2 (z0l z4Q [(z0d 0)]))
  (z0N (ifO (z0G (d2 y0Q (z0d 1) (d2 ixD (z0d 2) (dC (.int 0))))) (fun _=>none) z1z)
  (z0N (z6d 3 (z0l z2p [(z0l z1W [(z0d 0),(d2 ixD (z0d 2) (dC (.int 0)))]),(z0d 1)]))
  (z0N (z5G 4 (z4B (mkL (y2v (z0d 2) (z6b (dC (.int 1))) z2O))) (y4m 3 (z0l z1W [(z0d 0),(z0d 4)])))
  (y4B 3)))))
noncomputable def z1B : List D->Option D:=z2F 2 3 z5J
noncomputable def z4p : SS->Option Out:=(z0N (z6j 2 (z0l z2b [(z0d 0)]))
  (z0N (ifO (z0G (d2 y0Q (z0d 1) (z0d 2))) (z7v (mkT (z0k [(dC (.str "shut")),(z0d 2)]))) z1z)
  (z7v (mkT (z0k [(dC (.str "order")),(mkL (z1T revF [(z0l z1B [(z0d 0),(z0d 1)])]))])))))
noncomputable def z2G : List D->Option D:=z2F 2 1 z4p
noncomputable def z4l : SS->Option Out:=(z0N (z6j 2 (z0l z1L [(z0d 0),(z0d 1)]))
  (z0N (ifO (z0G (d2 eqD (d2 ixD (z0d 2) (dC (.int 0))) (dC (.str "beaten")))) (z7v (z0d 2)) z1z)
  (z0N (z6j 3 (d2 ixD (z0d 2) (dC (.int 1))))
  (z0N (z6j 4 (mkL (z1t (z2W (z0l z3c [(z0d 0)])) (z0G (d2 y0Q (z0d 5) (z0d 3))) (z0d 5))))
  (z7v (mkT (z0k [(dC (.str "order")),(mkL (y1l (z0d 4) (z0d 3))),(z0d 3)])))))))
noncomputable def z2K : List D->Option D:=z2F 2 3 z4l
noncomputable def z5r : SS->Option Out:=(z0N (z6j 2 (z0l z2b [(z0d 0)]))
  (z0N (ifO (z0G (d2 y0Q (z0d 1) (z0d 2))) (z7v (mkT (z0k [(dC (.str "shut")),(z0d 2)]))) z1z)
  (z7v (mkT (z0k [(dC (.str "order")),(z0l z1B [(z0d 0),(z0d 1)])])))))
noncomputable def z3q : List D->Option D:=z2F 2 1 z5r
noncomputable def z1j : SS->Option Out:=(z0N (ifO (z0G (d2 eqD (z0d 1) (dC (.str "plain")))) (z7v (z0l z2G [(z0d 0),(z0d 2)])) z1z)
  (z0N (ifO (z0G (d2 eqD (z0d 1) (dC (.str "ahead")))) (z7v (z0l z2K [(z0d 0),(z0d 2)])) z1z)
  (z0N (ifO (z0G (d2 eqD (z0d 1) (dC (.str "rest")))) (z7v (z0l z3q [(z0d 0),(z0d 2)])) z1z)
  (fun _=>none))))
noncomputable def z0Z : List D->Option D:=z2F 3 0 z1j
noncomputable def z4H : SS->Option Out:=(z0N (z6j 2 (mkL (z1t (z2W (z0l z3c [(z0d 0)])) z6h (z0l z0Z [(z0d 0),(z0d 1),(z0d 3)]))))
  (z7v (mkL (z1t (z4B (z0d 2)) z6h (dIf (z0G (d2 eqD (d2 ixD (z0d 3) (dC (.int 0))) (dC (.str "order")))) (d2 ixD (z0d 3) (dC (.int 1))) (dC .non))))))
noncomputable def z2S : List D->Option D:=z2F 2 1 z4H
noncomputable def z3W : SS->Option Out:=(z8F (z0u (z5k (z9B (z0l z2S [(z0d 0),(z0d 1)])) (y4J (z0d 3)) (z0d 2))))
noncomputable def z0K : List D->Option D:=z2F 2 0 z3W
noncomputable def z2h : SS->Option Out:=(z0N (ifO (z0G (d2 ltI (z0d 1) (z0l z3c [(z0d 0)]))) (z6k (d2 ixD (z0d 0) (z0d 1))) z1z)
  (z6k (dC (.int 0))))
noncomputable def z0o : List D->Option D:=z2F 2 0 z2h
noncomputable def z3T : SS->Option Out:=(z6k (dAnd (dIs "int" (z0d 0)) (d1 uNot (dIs "bool" (z0d 0)))))
noncomputable def z2o : List D->Option D:=z2F 1 0 z3T
noncomputable def z3V : SS->Option Out:=(z0N (y5n 2 (d2 z4y (z0l z0o [(z0d 0),(dC (.int 1))]) (dC (.int 1000003))))
  (z0N (z6d 3 (mkL (z1t (z2W (z0d 1)) z6h (z0u (y6j (mkL (z0k [(dC (.bl false))])) (z0d 1))))))
  (z0N (z6d 4 (z0u (z0k [])))
  (z0N (z5G 5 (z2W (z0d 1)) (z5G 6 (z2W (z0d 5)) (m0 4 z7y [(mkT (z0k [(z0d 5),(z0d 6)]))])))
  (z0N (z6d 7 (z0u (y6j (mkL (z0k [(dC (.int 0))])) (z0l z3c [(z0d 4)]))))
  (z0N (frzO 4 (z5G 8 (z2W (z0l z3c [(z0d 4)])) (ifO (z0G (d2 gtI (d2 z4y (z0d 2) (dC (.int 3))) (dC (.int 0)))) (st0 7 (z0d 8) (d2 z4y (d2 z9Q (d2 z4y (d2 y7E (z0d 2) (d2 y2D (dC (.int 48271)) (d2 y7E (d2 y7E (dC (.int 7919)) (z0d 8)) (z0d 8)))) (dC (.int 2147483647))) (dC (.int 1024))) (dC (.int 2)))) z1z)))
  (z0N (z5G 9 (y7h (dC (.int 3)) (z0l z3c [(z0d 0)])) (ifO (z0G (d2 gtI (z0l z3c [(z0d 4)]) (dC (.int 0)))) (st0 7 (d2 z4y (z0d 9) (z0l z3c [(z0d 4)])) (d2 z4y (d2 y2D (d2 ixD (z0d 7) (d2 z4y (z0d 9) (z0l z3c [(z0d 4)]))) (d2 ixD (z0d 0) (z0d 9))) (dC (.int 2)))) z1z))
  (z0N (z5G 8 (z2W (z0l z3c [(z0d 4)])) (z0N (st1 3 (d2 ixD (d2 ixD (z0d 4) (z0d 8)) (dC (.int 0))) (d2 ixD (d2 ixD (z0d 4) (z0d 8)) (dC (.int 1))) (d2 eqD (d2 ixD (z0d 7) (z0d 8)) (dC (.int 1))))
  (st1 3 (d2 ixD (d2 ixD (z0d 4) (z0d 8)) (dC (.int 1))) (d2 ixD (d2 ixD (z0d 4) (z0d 8)) (dC (.int 0))) (d2 eqD (d2 ixD (z0d 7) (z0d 8)) (dC (.int 0))))))
  (y4B 3)))))))))
noncomputable def z2l : List D->Option D:=z2F 2 8 z3V
noncomputable def z4i : SS->Option Out:=(z0N (z6d 2 (z0u (z0k [])))
  (z0N (z5G 3 (z2W (z0d 1)) (z0N (m0 2 insF [(d2 z4y (z0d 0) (d2 y2D (z0d 3) (dC (.int 1)))),(z0d 3)])
  (y5n 0 (d2 z9Q (z0d 0) (d2 y2D (z0d 3) (dC (.int 1)))))))
  (y4B 2)))
noncomputable def z2k : List D->Option D:=z2F 2 2 z4i
noncomputable def z3U : SS->Option Out:=(z0N (z6d 2 (z0u (y1L [[0,1],[0,2],[0,3],[1,2],[2,3],[4,0],[5,0],[6,0],[4,1],[4,2],[5,2],[5,3]])))
  (z0N (z6d 2 (z0u (y1l (z0d 2) (mkL (y1L [[6,3],[6,1],[3,4],[1,5],[2,6]])))))
  (z0N (m0 2 z7y [(d2 ixD (mkL (z0k [(mkT (z0k [(dC (.int 4)),(dC (.int 5))])),(mkT (z0k [(dC (.int 5)),(dC (.int 4))]))])) (d2 z4y (z0d 1) (dC (.int 2))))])
  (z0N (m0 2 z7y [(d2 ixD (mkL (z0k [(mkT (z0k [(dC (.int 4)),(dC (.int 6))])),(mkT (z0k [(dC (.int 6)),(dC (.int 4))]))])) (d2 z4y (d2 z9Q (z0d 1) (dC (.int 2))) (dC (.int 2))))])
  (z0N (m0 2 z7y [(d2 ixD (mkL (z0k [(mkT (z0k [(dC (.int 5)),(dC (.int 6))])),(mkT (z0k [(dC (.int 6)),(dC (.int 5))]))])) (d2 z4y (d2 z9Q (z0d 1) (dC (.int 4))) (dC (.int 2))))])
  (z0N (m0 2 z7y [(d2 ixD (mkL (z0k [(mkT (z0k [(dC (.int 3)),(dC (.int 1))])),(mkT (z0k [(dC (.int 1)),(dC (.int 3))]))])) (z0l intF [(d2 eqD (d2 z4y (d2 z9Q (z0d 1) (dC (.int 8))) (dC (.int 3))) (dC (.int 1)))]))])
  (z0N (z6d 3 (mkL (z1t (z2W (z0l z3c [(z0d 0)])) z6h (z0u (y6j (mkL (z0k [(dC (.bl false))])) (z0l z3c [(z0d 0)]))))))
  (z0N (frzO 2 (y4x 4 5 (z4B (z0d 2)) (st1 3 (d2 ixD (z0d 0) (z0d 4)) (d2 ixD (z0d 0) (z0d 5)) (dC (.bl true)))))
  (z0N (z5G 6 (z4B (mkL (y2v (z0d 0) (z6b (dC (.int 7))) z2O))) (z0N (st0N 3 (z0d 6) (z0u (y6j (mkL (z0k [(dC (.bl false))])) (z0l z3c [(z0d 0)]))))
  (z5G 4 (z4B (mkL (y2v (z0d 0) z2O (z6b (dC (.int 7)))))) (st1 3 (z0d 4) (z0d 6) (dC (.bl true))))))
  (y4B 3))))))))))
noncomputable def z2n : List D->Option D:=z2F 2 5 z3U
noncomputable def z4O : SS->Option Out:=(z8F (mkL (z1t (z4B (z0d 0)) z6h (z0u (z1T z7S [(z0d 1)])))))
noncomputable def z2R : List D->Option D:=z2F 1 0 z4O
noncomputable def z3b : SS->Option Out:=(z0N (z6j 1 (mkL (z0k [(z0u (z0k []))])))
  (z0N (z5G 2 (z4B (z0d 0)) (z6j 1 (mkL (y1l (z0d 1) (mkL (z1t (z4B (z0d 1)) z6h (z0u (y1l (z0d 3) (mkL (z0k [(z0d 2)]))))))))))
  (z7v (z0d 1))))
noncomputable def z1u : List D->Option D:=z2F 1 2 z3b
noncomputable def z2a : SS->Option Out:=(z0N (z5G 2 (z4B (z0d 1)) (z5G 3 (z4B (z0d 1)) (z0N (z6d 4 (z0u (z1t (z4B (z0d 1)) (z3y (z0v (d2 ixD (d2 ixD (z0d 0) (z0d 3)) (z0d 5))) (z0v (d2 ixD (d2 ixD (z0d 0) (z0d 5)) (z0d 2)))) (z0d 5))))
  (ifO (z3y (z0v (d2 ixD (d2 ixD (z0d 0) (z0d 2)) (z0d 3))) (z0G (d2 gtI (z0l z3c [(z0d 4)]) (dC (.int 0))))) (z6k (dC (.bl true))) z1z))))
  (z6k (dC (.bl false))))
noncomputable def z0T : List D->Option D:=z2F 2 3 z2a
noncomputable def z3h : SS->Option Out:=(z0N (z6d 2 (z0u (z0k [])))
  (z0N (z5G 3 (z2W (z0l z3c [(z0d 0)])) (ifO (z0G (d2 eqD (z0l z3c [(mkL (z1t (z4B (z0d 1)) (z7a (z0v (d2 ixD (d2 ixD (z0d 0) (z0d 3)) (z0d 4)))) (z0d 4)))]) (dC (.int 0)))) (m0 2 z7y [(z0d 3)]) z1z))
  (y4B 2)))
noncomputable def z1v : List D->Option D:=z2F 2 2 z3h
noncomputable def z3i : SS->Option Out:=(z0N (z6j 2 (mkL (z1t (z2W (z0l z3c [(z0d 0)])) (z0v (d2 ixD (d2 ixD (z0d 0) (z0d 1)) (z0d 4))) (z0d 4))))
  (z0N (z5G 3 (z4B (z0l z1u [(z0d 2)])) (ifO (z3y (z7a (z0v (z0l z0T [(z0d 0),(z0d 3)]))) (z0G (d2 eqD (z0l z3c [(z0l z1v [(z0d 0),(mkL (y1l (z0d 3) (mkL (z0k [(z0d 1)]))))])]) (dC (.int 0))))) (z6k (dC (.bl true))) z1z))
  (z6k (dC (.bl false)))))
noncomputable def z1a : List D->Option D:=z2F 2 2 z3i
noncomputable def z2w : SS->Option Out:=(z0N (z5G 2 (z2W (z0l z3c [(z0d 0)])) (ifO (z3y (z0G (d2 neD (z0d 2) (z0d 1))) (z7a (z0v (d2 ixD (d2 ixD (z0d 0) (z0d 1)) (z0d 2))))) (ifO (z0G (d2 eqD (z0l z3c [(mkL (z1t (z2W (z0l z3c [(z0d 0)])) (z3y (z0v (d2 ixD (d2 ixD (z0d 0) (z0d 1)) (z0d 3))) (z0v (d2 ixD (d2 ixD (z0d 0) (z0d 3)) (z0d 2)))) (z0d 3)))]) (dC (.int 0)))) (z6k (dC (.bl false))) z1z) z1z))
  (z6k (dC (.bl true))))
noncomputable def z0Q : List D->Option D:=z2F 2 1 z2w
noncomputable def z3w : SS->Option Out:=(z0N (ifO (y5l (z7a (z0v (dIs "list" (z0d 0)))) (z0G (d2 eqD (z0l z3c [(z0d 0)]) (dC (.int 0))))) (z6k (dC (.bl false))) z1z)
  (z0N (z5G 2 (z2W (z0l z3c [(z0d 0)])) (ifO (y5l (z7a (z0v (z0l z2o [(d2 ixD (z0d 0) (z0d 2))]))) (y5l (z0G (d2 ltI (d2 ixD (z0d 0) (z0d 2)) (dC (.int 0)))) (y5l (z0G (d2 geI (d2 ixD (z0d 0) (z0d 2)) (z0d 1))) (z0G (d2 gtI (d2 z5b (mkL (y2v (z0d 0) z2O (z6b (z0d 2)))) (d2 ixD (z0d 0) (z0d 2))) (dC (.int 0))))))) (z6k (dC (.bl false))) z1z))
  (z6k (d2 eqD (z0d 0) (mkL (z1T y1K [(z0d 0)]))))))
noncomputable def z0Y : List D->Option D:=z2F 2 1 z3w
noncomputable def g_law : SS->Option Out:=(z0N (y5n 1 (d2 y2D (dC (.int 1)) (d2 z4y (z0l z0o [(z0d 0),(dC (.int 0))]) (dC (.int 8)))))
  (z0N (z6j 2 (z0l z2l [(z0d 0),(z0d 1)]))
  (z0N (ifO (z0G (d2 eqD (d2 z4y (d2 z9Q (z0l z0o [(z0d 0),(dC (.int 0))]) (dC (.int 8))) (dC (.int 6))) (dC (.int 1)))) (z0N (y5n 1 (d2 y2D (dC (.int 7)) (d2 z4y (d2 z9Q (z0l z0o [(z0d 0),(dC (.int 0))]) (dC (.int 48))) (dC (.int 2)))))
  (z6j 2 (z0l z2n [(z0l z2k [(z0l z0o [(z0d 0),(dC (.int 1))]),(z0d 1)]),(z0l z0o [(z0d 0),(dC (.int 2))])]))) z1z)
  (z0N (z6j 3 (z0l z2R [(z0d 2)]))
  (z0N (z6d 4 (mkL (z0k [(z0l z0K [(z0d 3),(dC (.str "plain"))]),(z0l z0K [(z0d 3),(dC (.str "ahead"))]),(z0l z0K [(z0d 3),(dC (.str "rest"))])])))
  (z0N (y5u 5 (z4B (z0d 4)) (y0o (z7a (z0v (z0l z0Y [(z0d 5),(z0d 1)]))) (dC (.bl false))))
  (z0N (z6d 6 (z0u (z1t (z2W (z0d 1)) (z0v (z0l z0Q [(z0d 2),(z0d 10)])) (z0d 10))))
  (z0N (forC 7 (z4B (d2 ixD (z0d 4) (dC (.int 1)))) (y0o (z0G (d2 y0Q (z0d 7) (z0d 6))) (dC (.bl false))))
  (z0N (ifO (z0G (d2 neD (d2 ixD (z0d 4) (dC (.int 1))) (mkL (z1t (z2W (z0d 1)) (z0v (z0l z1a [(z0d 2),(z0d 10)])) (z0d 10))))) (z6k (dC (.bl false))) z1z)
  (z0N (forC 7 (z4B (z0d 6)) (y0o (z0G (d2 y0Q (z0d 7) (d2 ixD (z0d 4) (dC (.int 0))))) (dC (.bl false))))
  (z0N (z6d 8 (z0u (z1t (z2W (z0d 1)) (z0G (d2 eqD (d2 z5b (d2 ixD (z0d 2) (z0d 10)) (dC (.bl true))) (d2 subI (z0d 1) (dC (.int 1))))) (z0d 10))))
  (z0N (ifO (y5l (z3y (z0G (d2 eqD (z0l z3c [(z0d 8)]) (dC (.int 1)))) (z0G (d2 neD (z0d 4) (mkL (z0k [(z0d 8),(z0d 8),(z0d 8)]))))) (y5l (z0G (d2 neD (d2 ixD (z0d 4) (dC (.int 0))) (d2 ixD (z0d 4) (dC (.int 2))))) (z0G (d2 neD (z0d 3) (z0d 2))))) (z6k (dC (.bl false))) z1z)
  (z0N (z6d 9 (mkL (z1t (z4B (z0d 4)) z6h (z0u (z1T z7S [(z0d 10)])))))
  (z0N (m1 4 (dC (.int 0)) z7y [(z0d 1)])
  (z6k (d2 eqD (mkL (z0k [(z0l z0K [(z0d 3),(dC (.str "plain"))]),(z0l z0K [(z0d 3),(dC (.str "ahead"))]),(z0l z0K [(z0d 3),(dC (.str "rest"))])])) (z0d 9)))))))))))))))))
noncomputable def y2m : List D->Option D:=z2F 1 9 g_law
structure Txt (mg : Str->Option Value) : Prop where
  b_all : mg "all" = none
  b_enumerate : mg "enumerate" = none
  b_len : mg "len" = none
  b_range : mg "range" = none
  b_sorted : mg "sorted" = none
  b_min : mg "min" = none
  b_list : mg "list" = none
  b_reversed : mg "reversed" = none
  b_int : mg "int" = none
  b_isinstance : mg "isinstance" = none
  b_bool : mg "bool" = none
section
variable {P : Program} {w : World} {K : PySem.W.Frag} {mg : Str->Option Value} {base : Heap} {cl : Nat->Value}
theorem z9A : FnScope y0F z4G (z0b z2c):=⟨rfl,rfl,rfl,by decide +kernel,rfl,by decide +kernel,by decide +kernel⟩
theorem z8M {f : Addr} {fd : FuncData} (F : Fun K "beats_all" "beats_all" z2c f fd) (hm : mg "beats_all" = some (.ref f)) (hb : Binds K fd z4G []) (T : Txt mg) : DefOk P w K mg base 1 "beats_all" (spN K z1h):=
  z5V (k:=0) (g:=z4Z) F hm hb z9A rfl rfl fun cdv A outer s H E hr=>
    (z0i (z1Q (y7G rfl rfl T.b_all (z3Q (z3H (N':=["table", "one", "things", "other"])  rfl ⟨rfl,rfl,rfl,rfl,rfl⟩ (n:=3) rfl (z0C (z0f 2 (pv 2))) (fun _ _ _ _ _=>z0j (i:=3) nd0 rfl (Or.inl rfl)) (fun _ _ _ _ _=>z1i) (fun _ _ _ _ _=>(z0x (z0x (z0f 0 (pv 0)) (z0f 1 (pv 1))) (z0f 3 (pv 3)))))))))
theorem z7i : FnScope z8i z3J (z0b z1r):=⟨rfl,rfl,rfl,by decide +kernel,rfl,by decide +kernel,by decide +kernel⟩
theorem z6Y {f : Addr} {fd : FuncData} (F : Fun K "places_true" "places_true" z1r f fd) (hm : mg "places_true" = some (.ref f)) (hb : Binds K fd z3J []) (T : Txt mg) : DefOk P w K mg base 1 "places_true" (spN K z1M):=
  z5V (k:=0) (g:=z3I) F hm hb z7i rfl rfl fun cdv A outer s H E hr=>
    (z0i (z3t (z5x (z6m (N':=["marks", "place", "mark"])  rfl ⟨rfl,rfl,rfl,rfl,rfl⟩ (n:=1) rfl (z5w rfl T.b_enumerate (z0f 0 (pv 0))) (fun _ _ _ _ _=>y0W rfl (z0j (i:=1) nd1 rfl (Or.inl rfl)) (z0j (i:=2) nd1 rfl (Or.inl rfl))) (fun _ _ _ _ _=>z0M (z0q (z0f 2 (pv 2)))) (fun _ _ _ _ _=>(z0f 1 (pv 1)))))))
theorem z8R : FnScope y0v z4R (z0b z2g):=⟨rfl,rfl,rfl,by decide +kernel,rfl,by decide +kernel,by decide +kernel⟩
theorem z9C {f : Addr} {fd : FuncData} (F : Fun K "beaten_by" "beaten_by" z2g f fd) (hm : mg "beaten_by" = some (.ref f)) (hb : Binds K fd z4R []) (T : Txt mg) (G_places_true : DefOk P w K mg base 1 "places_true" (spN K z1M)) : DefOk P w K mg base 2 "beaten_by" (spN K z1m):=
  z5V (k:=1) (g:=z4X) F hm hb z8R rfl rfl fun cdv A outer s H E hr=>
    (z0i (z3t (z0m G_places_true (hr.mono (by decide)) rfl (z0a (z0x (z0f 0 (pv 0)) (z0f 1 (pv 1))) z0c))))
theorem y0y : FnScope y2y z5T (z0b z2J):=⟨rfl,rfl,rfl,by decide +kernel,rfl,by decide +kernel,by decide +kernel⟩
theorem y0e {f : Addr} {fd : FuncData} (F : Fun K "is_chain" "is_chain" z2J f fd) (hm : mg "is_chain" = some (.ref f)) (hb : Binds K fd z5T []) (T : Txt mg) (G_beats_all : DefOk P w K mg base 1 "beats_all" (spN K z1h)) : DefOk P w K mg base 2 "is_chain" (spN K z3u):=
  z5V (k:=1) (g:=z4m) F hm hb y0y rfl rfl fun cdv A outer s H E hr=>
    (z0g (z5F (z5d hr.units (z0J rfl T.b_len (z0f 1 (pv 1))) z0h) (z0i (z1Q z3r)) z0W)
      (z0i (z1Q (y7G rfl rfl T.b_all (z3Q (z6m (N':=["table", "things", "place", "one"])  rfl ⟨rfl,rfl,rfl,rfl,rfl⟩ (n:=2) rfl (z5w rfl T.b_enumerate (z0f 1 (pv 1))) (fun _ _ _ _ _=>y0W rfl (z0j (i:=2) nd2 rfl (Or.inl rfl)) (z0j (i:=3) nd2 rfl (Or.inl rfl))) (fun _ _ _ _ _=>z1i) (fun _ _ _ _ _=>(z3R (z0m G_beats_all (hr.mono (by decide)) rfl (z0a (z0f 0 (pv 0)) (z0a (z0f 3 (pv 3)) (z0a (z3Q (z2C (z0f 1 (pv 1)) (z2D (z4E (z0f 2 (pv 2)) z0h)) z2B)) z0c))))))))))))
theorem y2x : FnScope y3X z6J (z0b z3n):=⟨rfl,rfl,rfl,by decide +kernel,rfl,by decide +kernel,by decide +kernel⟩
theorem y1O {f : Addr} {fd : FuncData} (F : Fun K "beaters" "beaters" z3n f fd) (hm : mg "beaters" = some (.ref f)) (hb : Binds K fd z6J []) (T : Txt mg) (G_beats_all : DefOk P w K mg base 1 "beats_all" (spN K z1h)) : DefOk P w K mg base 2 "beaters" (spN K z2q):=
  z5V (k:=1) (g:=z6S) F hm hb y2x rfl rfl fun cdv A outer s H E hr=>
    (z0i (z3t (z5x (z3H (N':=["table", "things", "one"])  rfl ⟨rfl,rfl,rfl,rfl,rfl⟩ (n:=2) rfl (z0X rfl T.b_range (z0J rfl T.b_len (z0f 0 (pv 0)))) (fun _ _ _ _ _=>z0j (i:=2) nd3 rfl (Or.inl rfl)) (fun _ _ _ _ _=>z0M (z0q (z3R (z0m G_beats_all (hr.mono (by decide)) rfl (z0a (z0f 0 (pv 0)) (z0a (z0f 2 (pv 2)) (z0a (z0f 1 (pv 1)) z0c))))))) (fun _ _ _ _ _=>(z0f 2 (pv 2)))))))
theorem y2I : FnScope y5P z8B (z0b z4t):=⟨rfl,rfl,rfl,by decide +kernel,rfl,by decide +kernel,by decide +kernel⟩
theorem y4Y {f : Addr} {fd : FuncData} (F : Fun K "stands" "stands" z4t f fd) (hm : mg "stands" = some (.ref f)) (hb : Binds K fd z8B []) (T : Txt mg) (G_is_chain : DefOk P w K mg base 2 "is_chain" (spN K z3u)) (G_beaters : DefOk P w K mg base 2 "beaters" (spN K z2q)) : DefOk P w K mg base 3 "stands" (spN K z4r):=
  z5V (k:=2) (g:=z8e) F hm hb y2I rfl rfl fun cdv A outer s H E hr=>
    (z0i (z1Q (y7t (z3R (z0m G_is_chain (hr.mono (by decide)) rfl (z0a (z0f 0 (pv 0)) (z0a (z0f 1 (pv 1)) z0c)))) (y7s (y1F hr.units (z0J rfl T.b_len (z3R (z0m G_beaters (hr.mono (by decide)) rfl (z0a (z0f 0 (pv 0)) (z0a (z0f 1 (pv 1)) z0c))))) z0h)))))
theorem sc_ended_chains : FnScope z7f z2i (z0b z0R):=⟨rfl,rfl,rfl,by decide +kernel,rfl,by decide +kernel,by decide +kernel⟩
theorem z3O {f : Addr} {fd : FuncData} (F : Fun K "ended_chains" "ended_chains" z0R f fd) (hm : mg "ended_chains" = some (.ref f)) (hb : Binds K fd z2i []) (T : Txt mg) : ∀ n : Nat,DefOk P w K mg base (1 + n) "ended_chains" (spM2 K (z1k n))
  | 0=>defM2 (k:=0) (g:=fun _=>none) F hm hb sc_ended_chains rfl rfl fun cdv A outer s H H0 E hr=>y6x
  | n + 1=>by
    have G_ended_chains:=z3O F hm hb T n
    exact defM2 (k:=1 + n) (g:=z2j (z1k n)) F hm hb sc_ended_chains rfl rfl fun cdv A outer s H H0 E hr=>
    (z0g (z5F (z4T (z0q (z0f 2 (pv 2)))) (z0i (s_ret1 (pv 1))) z0W)
      (z0g (z1K (z1f (i:=3) sc_ended_chains.nd rfl (Or.inl rfl) (z5x (z0I z0c (Nat.le_of_ble_eq_true rfl)))))
      (z0g (z2V PassesOwn.never rfl (z0C (z0f 2 (pv 2))) (z0j (i:=4) sc_ended_chains.nd rfl (Or.inr rfl)) (z0i (y4E (pv 3) (z9h G_ended_chains (hr.mono (by omega)) rfl (z0f 0 (pv 0)) (z5x (z5n (z0f 1 (pv 1)) (z3Q (z0I (z0a (z0f 4 (pv 4)) z0c) (Nat.le_of_ble_eq_true rfl))))) (z0a (z3Q (z3H (N':=["table", "chain", "further", "chains", "thing", "other"])  rfl ⟨rfl,rfl,rfl,rfl,rfl⟩ (n:=5) rfl (z0C (z0f 2 (pv 2))) (fun _ _ _ _ _=>z0j (i:=5) nd4 rfl (Or.inl rfl)) (fun _ _ _ _ _=>z0M (z0q (z0x (z0x (z0f 0 (pv 0)) (z0f 4 (pv 4))) (z0f 5 (pv 5))))) (fun _ _ _ _ _=>(z0f 5 (pv 5))))) z0c)))))
      (z0i (z6r (pv 3))))))
theorem z6F {f : Addr} {fd : FuncData} (F : Fun K "ended_chains" "ended_chains" z0R f fd) (hm : mg "ended_chains" = some (.ref f)) (hb : Binds K fd z2i []) (T : Txt mg) : DefOk P w K mg base 13 "ended_chains" (spM2 K z1w):=z3O F hm hb T 12
theorem sc_crown_paper : FnScope z8l z3D (z0b z1s):=⟨rfl,rfl,rfl,by decide +kernel,rfl,by decide +kernel,by decide +kernel⟩
theorem z7j {f : Addr} {fd : FuncData} (F : Fun K "crown_paper" "crown_paper" z1s f fd) (hm : mg "crown_paper" = some (.ref f)) (hb : Binds K fd z3D []) (T : Txt mg) (G_beaten_by : DefOk P w K mg base 2 "beaten_by" (spN K z1m)) (G_beaters : DefOk P w K mg base 2 "beaters" (spN K z2q)) (G_stands : DefOk P w K mg base 3 "stands" (spN K z4r)) (G_ended_chains : DefOk P w K mg base 13 "ended_chains" (spM2 K z1w)) : DefOk P w K mg base 14 "crown_paper" (spR K z1L):=
  y5G (k:=13) (g:=z3N) F hm hb sc_crown_paper rfl rfl fun cdv A outer s H E B hr=>
    (z0g (z1D (z1f (i:=2) sc_crown_paper.nd rfl (Or.inl rfl) (z3R (z9h G_ended_chains (hr.mono (by decide)) rfl (z0f 0 (pv 0)) (z5x (z0I (z0a (z0f 1 (pv 1)) z0c))) (z0a (z3R (z0m G_beaten_by (hr.mono (by decide)) rfl (z0a (z0f 0 (pv 0)) (z0a (z0f 1 (pv 1)) z0c)))) z0c)))))
      (z0g (z2V PassesOwn.never rfl (z0C (z0f 2 (pv 2))) (z0j (i:=3) sc_crown_paper.nd rfl (Or.inl rfl)) (z0i (z5F (z0q (z3R (z0m G_stands (hr.mono (by decide)) rfl (z0a (z0f 0 (pv 0)) (z0a (z0f 3 (pv 3)) z0c))))) (z0i (z2z (z1R (z0a z1V (z0a (z0f 3 (pv 3)) z0c))))) z0W)))
      (z0i (z2z (z1R (z0a z1V (z0a (z3Q (z3H (N':=["table", "thing", "chains", "3", "chain"])  rfl ⟨rfl,rfl,rfl,rfl,rfl⟩ (n:=4) rfl (z0C (z0f 2 (pv 2))) (fun _ _ _ _ _=>z0j (i:=4) nd5 rfl (Or.inl rfl)) (fun _ _ _ _ _=>z1i) (fun _ _ _ _ _=>(z1R (z0a (z0f 4 (pv 4)) (z0a (z0x (z3R (z0m G_beaters (hr.mono (by decide)) rfl (z0a (z0f 0 (pv 0)) (z0a (z0f 4 (pv 4)) z0c)))) z0h) z0c)))))) z0c)))))))
theorem sc_steps_from : FnScope z9M z3X (z0b z1G):=⟨rfl,rfl,rfl,by decide +kernel,rfl,by decide +kernel,by decide +kernel⟩
theorem z7Q {f : Addr} {fd : FuncData} (F : Fun K "steps_from" "steps_from" z1G f fd) (hm : mg "steps_from" = some (.ref f)) (hb : Binds K fd z3X []) (T : Txt mg) (G_beaten_by : DefOk P w K mg base 2 "beaten_by" (spN K z1m)) : DefOk P w K mg base 3 "steps_from" (spN K z2s):=
  z5V (k:=2) (g:=z4g) F hm hb sc_steps_from rfl rfl fun cdv A outer s H E hr=>
    (z0g (z1K (z1f (i:=2) sc_steps_from.nd rfl (Or.inl rfl) (y6J (z0f 1 (pv 1)) (z0f 1 (pv 1)))))
      (z0g (z1K (z1f (i:=3) sc_steps_from.nd rfl (Or.inl rfl) (z5x (z0I (z0a (z0f 1 (pv 1)) z0c)))))
      (z0g (y2N 100 PassesOwn.never (z0q (z0f 3 (pv 3))) (z0g (z1K (z1f (i:=4) sc_steps_from.nd rfl (Or.inl rfl) (z5x (z0I z0c))))
      (z0g (s_frz 3 (z2V PassesOwn.never rfl (z0C (z0f 3 (pv 3))) (z0j (i:=5) sc_steps_from.nd rfl (Or.inl rfl)) (z0i (z2V PassesOwn.never rfl (z0C (z3R (z0m G_beaten_by (hr.mono (by decide)) rfl (z0a (z0f 0 (pv 0)) (z0a (z0f 5 (pv 5)) z0c))))) (z0j (i:=6) sc_steps_from.nd rfl (Or.inl rfl)) (z0i (z5F (pt_dnin hr.units (z0f 6 (pv 6)) (z0f 2 (pv 2))) (z0g (s_dput hr.units (pv 2) (z0f 6 (pv 6)) (z0f 5 (pv 5)))
      (z0i (y7z PySem.F.slot_list_append PySem.F.type_list_append z1O z2r (pv 4) (z0a (z0f 6 (pv 6)) z0c)))) z0W))))))
      (z0i (s_mov (by decide) (z1f (i:=3) sc_steps_from.nd rfl (Or.inl rfl) (pv 4)))))))
      (z0i (z6r (pv 2))))))
theorem y2i : FnScope y3R z6O (z0b z3k):=⟨rfl,rfl,rfl,by decide +kernel,rfl,by decide +kernel,by decide +kernel⟩
theorem y2w {f : Addr} {fd : FuncData} (F : Fun K "reached" "reached" z3k f fd) (hm : mg "reached" = some (.ref f)) (hb : Binds K fd z6O []) (T : Txt mg) (G_steps_from : DefOk P w K mg base 3 "steps_from" (spN K z2s)) : DefOk P w K mg base 4 "reached" (spN K z3m):=
  z5V (k:=3) (g:=z6v) F hm hb y2i rfl rfl fun cdv A outer s H E hr=>
    (z0i (z3t (z5x (y2g rfl rfl T.b_sorted (z3R (z0m G_steps_from (hr.mono (by decide)) rfl (z0a (z0f 0 (pv 0)) (z0a (z0f 1 (pv 1)) z0c))))))))
theorem z6Z : FnScope z8h z3G (z0b z1q):=⟨rfl,rfl,rfl,by decide +kernel,rfl,by decide +kernel,by decide +kernel⟩
theorem z7b {f : Addr} {fd : FuncData} (F : Fun K "places_with" "places_with" z1q f fd) (hm : mg "places_with" = some (.ref f)) (hb : Binds K fd z3G []) (T : Txt mg) : DefOk P w K mg base 1 "places_with" (spN K z1n):=
  z5V (k:=0) (g:=z3B) F hm hb z6Z rfl rfl fun cdv A outer s H E hr=>
    (z0i (z3t (z5x (z6m (N':=["counts", "wanted", "place", "count"])  rfl ⟨rfl,rfl,rfl,rfl,rfl⟩ (n:=2) rfl (z5w rfl T.b_enumerate (z0f 0 (pv 0))) (fun _ _ _ _ _=>y0W rfl (z0j (i:=2) nd6 rfl (Or.inl rfl)) (z0j (i:=3) nd6 rfl (Or.inl rfl))) (fun _ _ _ _ _=>z0M (z5d hr.units (z0f 3 (pv 3)) (z0f 1 (pv 1)))) (fun _ _ _ _ _=>(z0f 2 (pv 2)))))))
theorem sc_rings : FnScope N_rings y0f (z0b z5L):=⟨rfl,rfl,rfl,by decide +kernel,rfl,by decide +kernel,by decide +kernel⟩
theorem y5t {f : Addr} {fd : FuncData} (F : Fun K "rings" "rings" z5L f fd) (hm : mg "rings" = some (.ref f)) (hb : Binds K fd y0f []) (T : Txt mg) (G_reached : DefOk P w K mg base 4 "reached" (spN K z3m)) (G_places_with : DefOk P w K mg base 1 "places_with" (spN K z1n)) : DefOk P w K mg base 5 "rings" (spN K z4Q):=
  z5V (k:=4) (g:=y0H) F hm hb sc_rings rfl rfl fun cdv A outer s H E hr=>
    (z0g (z1K (z1f (i:=1) sc_rings.nd rfl (Or.inr rfl) (z5x (z3H (N':=["table", "counts", "one"])  rfl ⟨rfl,rfl,rfl,rfl,rfl⟩ (n:=2) rfl (z0X rfl T.b_range (z0J rfl T.b_len (z0f 0 (pv 0)))) (fun _ _ _ _ _=>z0j (i:=2) nd8 rfl (Or.inl rfl)) (fun _ _ _ _ _=>z1i) (fun _ _ _ _ _=>(z0J rfl T.b_len (z3R (z0m G_reached (hr.mono (by decide)) rfl (z0a (z0f 0 (pv 0)) (z0a (z0f 2 (pv 2)) z0c))))))))))
      (z0i (z3t (y0G (N':=["table", "counts", "count"])  rfl ⟨rfl,rfl,rfl,rfl,rfl⟩ (n:=2) rfl (pi_rngN rfl T.b_range (z0J rfl T.b_len (z0f 0 (pv 0))) z0h (pd_neg z0h)) (fun _ _ _ _ _=>z0j (i:=2) nd7 rfl (Or.inl rfl)) (fun _ _ _ _ _=>z0M (pt_in hr.units (z0f 2 (pv 2)) (z0f 1 (pv 1)))) (fun _ _ _ _ _=>(z0m G_places_with (hr.mono (by decide)) rfl (z0a (z0f 1 (pv 1)) (z0a (z0f 2 (pv 2)) z0c))))))))
theorem y0s : FnScope y1U z5A (z0b z2E):=⟨rfl,rfl,rfl,by decide +kernel,rfl,by decide +kernel,by decide +kernel⟩
theorem z9R {f : Addr} {fd : FuncData} (F : Fun K "top_ring" "top_ring" z2E f fd) (hm : mg "top_ring" = some (.ref f)) (hb : Binds K fd z5A []) (T : Txt mg) (G_rings : DefOk P w K mg base 5 "rings" (spN K z4Q)) : DefOk P w K mg base 6 "top_ring" (spN K z2b):=
  z5V (k:=5) (g:=z5M) F hm hb y0s rfl rfl fun cdv A outer s H E hr=>
    (z0i (z3t (pn_ixN (z0m G_rings (hr.mono (by decide)) rfl (z0a (z0f 0 (pv 0)) z0c)) z0h)))
theorem sc_begun_with : FnScope z9j z3Z (z0b z1C):=⟨rfl,rfl,rfl,by decide +kernel,rfl,by decide +kernel,by decide +kernel⟩
theorem z8a {f : Addr} {fd : FuncData} (F : Fun K "begun_with" "begun_with" z1C f fd) (hm : mg "begun_with" = some (.ref f)) (hb : Binds K fd z3Z []) (T : Txt mg) : DefOk P w K mg base 1 "begun_with" (spN K z2p):=
  z5V (k:=0) (g:=z4d) F hm hb sc_begun_with rfl rfl fun cdv A outer s H E hr=>
    (z0g (z7w (z1f (i:=2) sc_begun_with.nd rfl (Or.inl rfl) (y3s (z0f 0 (pv 0)) (z0f 1 (pv 1)))))
      (z0i (z3t (z5x (z5n (z3Q (z2C (z0f 0 (pv 0)) (z2D (z0f 2 (pv 2))) z2B)) (z3Q (z2C (z0f 0 (pv 0)) z2B (z2D (z0f 2 (pv 2))))))))))
theorem sc_detour : FnScope y5W z7N (z0b z4n):=⟨rfl,rfl,rfl,by decide +kernel,rfl,by decide +kernel,by decide +kernel⟩
theorem y4k {f : Addr} {fd : FuncData} (F : Fun K "detour" "detour" z4n f fd) (hm : mg "detour" = some (.ref f)) (hb : Binds K fd z7N []) (T : Txt mg) : DefOk P w K mg base 1 "detour" (spN K z4o):=
  z5V (k:=0) (g:=z8k) F hm hb sc_detour rfl rfl fun cdv A outer s H E hr=>
    (z0g (z2V PassesOwn.never rfl (z0C (z0f 3 (pv 3))) (z0j (i:=4) sc_detour.nd rfl (Or.inl rfl)) (z0i (z5F (PW.pt (z3A (z0q (z0x (z0x (z0f 0 (pv 0)) (z0f 1 (pv 1))) (z0f 4 (pv 4)))) (z2Z (z0q (z0x (z0x (z0f 0 (pv 0)) (z0f 4 (pv 4))) (z0f 2 (pv 2))))))) (z0i (z3t (z5x (z0I (z0a (z0f 4 (pv 4)) z0c))))) z0W)))
      (z0g (z2V PassesOwn.never rfl (z0C (z0f 3 (pv 3))) (z0j (i:=4) sc_detour.nd rfl (Or.inl rfl)) (z0i (z2V PassesOwn.never rfl (z0C (z0f 3 (pv 3))) (z0j (i:=5) sc_detour.nd rfl (Or.inl rfl)) (z0i (z5F (PW.pt (z3A (z0q (z0x (z0x (z0f 0 (pv 0)) (z0f 1 (pv 1))) (z0f 4 (pv 4)))) (z3A (z0q (z0x (z0x (z0f 0 (pv 0)) (z0f 4 (pv 4))) (z0f 5 (pv 5)))) (z2Z (z0q (z0x (z0x (z0f 0 (pv 0)) (z0f 5 (pv 5))) (z0f 2 (pv 2)))))))) (z0i (z3t (z5x (z0I (z0a (z0f 4 (pv 4)) (z0a (z0f 5 (pv 5)) z0c)))))) z0W)))))
      (z0i (z3t (z5x (z0I z0c))))))
theorem sc_widened : FnScope y4u z6B (z0b z3s):=⟨rfl,rfl,rfl,by decide +kernel,rfl,by decide +kernel,by decide +kernel⟩
theorem y1T {f : Addr} {fd : FuncData} (F : Fun K "widened" "widened" z3s f fd) (hm : mg "widened" = some (.ref f)) (hb : Binds K fd z6B []) (T : Txt mg) (G_detour : DefOk P w K mg base 1 "detour" (spN K z4o)) : DefOk P w K mg base 2 "widened" (spR K z2T):=
  y5G (k:=1) (g:=z6L) F hm hb sc_widened rfl rfl fun cdv A outer s H E B hr=>
    (z0g (z1D (PAsg.imp (z6U (i:=3) (N':=["table", "circle", "ring", "left", "place", "here", "behind", "between", "thing"]) sc_widened.nd rfl rfl rfl ⟨rfl,rfl,rfl,rfl,rfl⟩ (n:=8) rfl (z0C (z0f 2 (pv 2))) (fun _ _ _ _ _=>z0j (i:=8) nd9 rfl (Or.inl rfl)) (fun _ _ _ _ _=>z0M (z6V hr.units (z0f 8 (pv 8)) (z0f 1 (pv 1)))) (fun _ _ _ _ _=>(z0f 8 (pv 8)))) iDF))
      (z0g (y7C PassesOwn.never rfl (z5w rfl T.b_enumerate (z0f 1 (pv 1))) (y4e rfl (z0j (i:=4) sc_widened.nd rfl (Or.inl rfl)) (z0j (i:=5) sc_widened.nd rfl (Or.inl rfl))) (z0g (z7w (z1f (i:=6) sc_widened.nd rfl (Or.inl rfl) (z0x (z0f 1 (pv 1)) (z2A (z4E (z0f 4 (pv 4)) z0h) (z0J rfl T.b_len (z0f 1 (pv 1)))))))
      (z0g (z1D (z1f (i:=7) sc_widened.nd rfl (Or.inl rfl) (z3R (z0m G_detour (hr.mono (by decide)) rfl (z0a (z0f 0 (pv 0)) (z0a (z0f 5 (pv 5)) (z0a (z0f 6 (pv 6)) (z0a (z0f 3 (pv 3)) z0c))))))))
      (z0i (z5F (z0q (z0f 7 (pv 7))) (z0i (z2z (z3Q (z5n (z3Q (z5n (z3Q (z2C (z0f 1 (pv 1)) z2B (z2D (z4E (z0f 4 (pv 4)) z0h)))) (z0f 7 (pv 7)))) (z3Q (z2C (z0f 1 (pv 1)) (z2D (z4E (z0f 4 (pv 4)) z0h)) z2B)))))) z0W)))))
      (z0i (z2z (z0f 1 (pv 1))))))
theorem sc_round_of : FnScope y2q z5R (z0b z2I):=⟨rfl,rfl,rfl,by decide +kernel,rfl,by decide +kernel,by decide +kernel⟩
theorem y0a {f : Addr} {fd : FuncData} (F : Fun K "round_of" "round_of" z2I f fd) (hm : mg "round_of" = some (.ref f)) (hb : Binds K fd z5R []) (T : Txt mg) (G_widened : DefOk P w K mg base 2 "widened" (spR K z2T)) : DefOk P w K mg base 3 "round_of" (spR K z1W):=
  y5G (k:=2) (g:=z5E) F hm hb sc_round_of rfl rfl fun cdv A outer s H E B hr=>
    (z0g (z1D (z1f (i:=2) sc_round_of.nd rfl (Or.inl rfl) (z3Q (z0I (z0a (pd_minL rfl rfl T.b_min (z0f 1 (pv 1))) z0c)))))
      (z0g (z1D (z1f (i:=3) sc_round_of.nd rfl (Or.inl rfl) (z1P G_widened (hr.mono (by decide)) rfl (z0a (z0f 0 (pv 0)) (z0a (z0f 2 (pv 2)) (z0a (z0f 1 (pv 1)) z0c))))))
      (z0g (y2N 100 PassesOwn.never (y4C (z0J rfl T.b_len (z0f 3 (pv 3))) (z0J rfl T.b_len (z0f 2 (pv 2)))) (z0g (z1D (z1f (i:=2) sc_round_of.nd rfl (Or.inl rfl) (z0f 3 (pv 3))))
      (z0i (z1D (z1f (i:=3) sc_round_of.nd rfl (Or.inl rfl) (z1P G_widened (hr.mono (by decide)) rfl (z0a (z0f 0 (pv 0)) (z0a (z0f 2 (pv 2)) (z0a (z0f 1 (pv 1)) z0c)))))))))
      (z0i (z2z (z0f 2 (pv 2)))))))
theorem sc_row_from : FnScope y2a z5Q (z0b z2M):=⟨rfl,rfl,rfl,by decide +kernel,rfl,by decide +kernel,by decide +kernel⟩
theorem y0j {f : Addr} {fd : FuncData} (F : Fun K "row_from" "row_from" z2M f fd) (hm : mg "row_from" = some (.ref f)) (hb : Binds K fd z5Q []) (T : Txt mg) (G_rings : DefOk P w K mg base 5 "rings" (spN K z4Q)) (G_begun_with : DefOk P w K mg base 1 "begun_with" (spN K z2p)) (G_round_of : DefOk P w K mg base 3 "round_of" (spR K z1W)) : DefOk P w K mg base 6 "row_from" (spN K z1B):=
  z5V (k:=5) (g:=z5J) F hm hb sc_row_from rfl rfl fun cdv A outer s H E hr=>
    (z0g (z1D (z1f (i:=2) sc_row_from.nd rfl (Or.inl rfl) (z3R (z0m G_rings (hr.mono (by decide)) rfl (z0a (z0f 0 (pv 0)) z0c)))))
      (z0g (z5F (z6V hr.units (z0f 1 (pv 1)) (z0x (z0f 2 (pv 2)) z0h)) (z0i y4N) z0W)
      (z0g (z1K (z1f (i:=3) sc_row_from.nd rfl (Or.inl rfl) (z0m G_begun_with (hr.mono (by decide)) rfl (z0a (z1P G_round_of (hr.mono (by decide)) rfl (z0a (z0f 0 (pv 0)) (z0a (z0x (z0f 2 (pv 2)) z0h) z0c))) (z0a (z0f 1 (pv 1)) z0c)))))
      (z0g (z2V PassesOwn.never rfl (z0C (z3Q (z2C (z0f 2 (pv 2)) (z2D z0h) z2B))) (z0j (i:=4) sc_row_from.nd rfl (Or.inl rfl)) (z0i (y2U (pv 3) (z1P G_round_of (hr.mono (by decide)) rfl (z0a (z0f 0 (pv 0)) (z0a (z0f 4 (pv 4)) z0c))))))
      (z0i (z6r (pv 3)))))))
theorem sc_to_stand : FnScope y2f z5y (z0b z2L):=⟨rfl,rfl,rfl,by decide +kernel,rfl,by decide +kernel,by decide +kernel⟩
theorem y0t {f : Addr} {fd : FuncData} (F : Fun K "to_stand" "to_stand" z2L f fd) (hm : mg "to_stand" = some (.ref f)) (hb : Binds K fd z5y []) (T : Txt mg) (G_top_ring : DefOk P w K mg base 6 "top_ring" (spN K z2b)) (G_row_from : DefOk P w K mg base 6 "row_from" (spN K z1B)) : DefOk P w K mg base 7 "to_stand" (spR K z2G):=
  y5G (k:=6) (g:=z4p) F hm hb sc_to_stand rfl rfl fun cdv A outer s H E B hr=>
    (z0g (z1D (z1f (i:=2) sc_to_stand.nd rfl (Or.inl rfl) (z3R (z0m G_top_ring (hr.mono (by decide)) rfl (z0a (z0f 0 (pv 0)) z0c)))))
      (z0g (z5F (z6V hr.units (z0f 1 (pv 1)) (z0f 2 (pv 2))) (z0i (z2z (z1R (z0a z1V (z0a (z0f 2 (pv 2)) z0c))))) z0W)
      (z0i (z2z (z1R (z0a z1V (z0a (z3Q (y2B rfl rfl T.b_list rfl T.b_reversed (z3R (z0m G_row_from (hr.mono (by decide)) rfl (z0a (z0f 0 (pv 0)) (z0a (z0f 1 (pv 1)) z0c)))))) z0c)))))))
theorem sc_to_crown : FnScope y1Q z5I (z0b z2H):=⟨rfl,rfl,rfl,by decide +kernel,rfl,by decide +kernel,by decide +kernel⟩
theorem y0x {f : Addr} {fd : FuncData} (F : Fun K "to_crown" "to_crown" z2H f fd) (hm : mg "to_crown" = some (.ref f)) (hb : Binds K fd z5I []) (T : Txt mg) (G_crown_paper : DefOk P w K mg base 14 "crown_paper" (spR K z1L)) : DefOk P w K mg base 15 "to_crown" (spR K z2K):=
  y5G (k:=14) (g:=z4l) F hm hb sc_to_crown rfl rfl fun cdv A outer s H E B hr=>
    (z0g (z1D (z1f (i:=2) sc_to_crown.nd rfl (Or.inl rfl) (z1P G_crown_paper (hr.mono (by decide)) rfl (z0a (z0f 0 (pv 0)) (z0a (z0f 1 (pv 1)) z0c)))))
      (z0g (z5F (z5d hr.units (z0x (z0f 2 (pv 2)) z0h) z1V) (z0i (z2z (z0f 2 (pv 2)))) z0W)
      (z0g (z1D (z1f (i:=3) sc_to_crown.nd rfl (Or.inr rfl) (z0x (z0f 2 (pv 2)) z0h)))
      (z0g (z1D (PAsg.imp (z6U (i:=4) (N':=["table", "thing", "paper", "chain", "others", "other"]) sc_to_crown.nd rfl rfl rfl ⟨rfl,rfl,rfl,rfl,rfl⟩ (n:=5) rfl (z0X rfl T.b_range (z0J rfl T.b_len (z0f 0 (pv 0)))) (fun _ _ _ _ _=>z0j (i:=5) nd10 rfl (Or.inl rfl)) (fun _ _ _ _ _=>z0M (z6V hr.units (z0f 5 (pv 5)) (z0f 3 (pv 3)))) (fun _ _ _ _ _=>(z0f 5 (pv 5)))) iDF))
      (z0i (z2z (z1R (z0a z1V (z0a (z3Q (z5n (z0f 4 (pv 4)) (z0f 3 (pv 3)))) (z0a (z0f 3 (pv 3)) z0c))))))))))
theorem sc_to_rest : FnScope y3C z6o (z0b z3p):=⟨rfl,rfl,rfl,by decide +kernel,rfl,by decide +kernel,by decide +kernel⟩
theorem y1P {f : Addr} {fd : FuncData} (F : Fun K "to_rest" "to_rest" z3p f fd) (hm : mg "to_rest" = some (.ref f)) (hb : Binds K fd z6o []) (T : Txt mg) (G_top_ring : DefOk P w K mg base 6 "top_ring" (spN K z2b)) (G_row_from : DefOk P w K mg base 6 "row_from" (spN K z1B)) : DefOk P w K mg base 7 "to_rest" (spR K z3q):=
  y5G (k:=6) (g:=z5r) F hm hb sc_to_rest rfl rfl fun cdv A outer s H E B hr=>
    (z0g (z1D (z1f (i:=2) sc_to_rest.nd rfl (Or.inl rfl) (z3R (z0m G_top_ring (hr.mono (by decide)) rfl (z0a (z0f 0 (pv 0)) z0c)))))
      (z0g (z5F (z6V hr.units (z0f 1 (pv 1)) (z0f 2 (pv 2))) (z0i (z2z (z1R (z0a z1V (z0a (z0f 2 (pv 2)) z0c))))) z0W)
      (z0i (z2z (z1R (z0a z1V (z0a (z3R (z0m G_row_from (hr.mono (by decide)) rfl (z0a (z0f 0 (pv 0)) (z0a (z0f 1 (pv 1)) z0c)))) z0c)))))))
theorem z9D : FnScope y0p z4L (z0b z2f):=⟨rfl,rfl,rfl,by decide +kernel,rfl,by decide +kernel,by decide +kernel⟩
theorem z9f {f : Addr} {fd : FuncData} (F : Fun K "paper_for" "paper_for" z2f f fd) (hm : mg "paper_for" = some (.ref f)) (hb : Binds K fd z4L []) (T : Txt mg) (G_to_stand : DefOk P w K mg base 7 "to_stand" (spR K z2G)) (G_to_crown : DefOk P w K mg base 15 "to_crown" (spR K z2K)) (G_to_rest : DefOk P w K mg base 7 "to_rest" (spR K z3q)) : DefOk P w K mg base 16 "paper_for" (spR K z0Z):=
  y5G (k:=15) (g:=z1j) F hm hb z9D rfl rfl fun cdv A outer s H E B hr=>
    (z0g (z5F (z5d hr.units (z0f 1 (pv 1)) z1V) (z0i (z2z (z1P G_to_stand (hr.mono (by decide)) rfl (z0a (z0f 0 (pv 0)) (z0a (z0f 2 (pv 2)) z0c))))) z0W)
      (z0g (z5F (z5d hr.units (z0f 1 (pv 1)) z1V) (z0i (z2z (z1P G_to_crown (hr.mono (by decide)) rfl (z0a (z0f 0 (pv 0)) (z0a (z0f 2 (pv 2)) z0c))))) z0W)
      (z0g (z5F (z5d hr.units (z0f 1 (pv 1)) z1V) (z0i (z2z (z1P G_to_rest (hr.mono (by decide)) rfl (z0a (z0f 0 (pv 0)) (z0a (z0f 2 (pv 2)) z0c))))) z0W)
      (z0i y4N))))
theorem sc_orders_to : FnScope y0K z4S (z0b z2e):=⟨rfl,rfl,rfl,by decide +kernel,rfl,by decide +kernel,by decide +kernel⟩
theorem z8T {f : Addr} {fd : FuncData} (F : Fun K "orders_to" "orders_to" z2e f fd) (hm : mg "orders_to" = some (.ref f)) (hb : Binds K fd z4S []) (T : Txt mg) (G_paper_for : DefOk P w K mg base 16 "paper_for" (spR K z0Z)) : DefOk P w K mg base 17 "orders_to" (spR K z2S):=
  y5G (k:=16) (g:=z4H) F hm hb sc_orders_to rfl rfl fun cdv A outer s H E B hr=>
    (z0g (z1D (PAsg.imp (z6U (i:=2) (N':=["table", "kind", "papers", "thing"]) sc_orders_to.nd rfl rfl rfl ⟨rfl,rfl,rfl,rfl,rfl⟩ (n:=3) rfl (z0X rfl T.b_range (z0J rfl T.b_len (z0f 0 (pv 0)))) (fun _ _ _ _ _=>z0j (i:=3) nd12 rfl (Or.inl rfl)) (fun _ _ _ _ _=>z1i) (fun _ _ _ _ _=>(z1P G_paper_for (hr.mono (by decide)) rfl (z0a (z0f 0 (pv 0)) (z0a (z0f 1 (pv 1)) (z0a (z0f 3 (pv 3)) z0c)))))) iDF))
      (z0i (z2z (z3Q (z3H (N':=["table", "kind", "papers", "paper"])  rfl ⟨rfl,rfl,rfl,rfl,rfl⟩ (n:=3) rfl (z0C (z0f 2 (pv 2))) (fun _ _ _ _ _=>z0j (i:=3) nd11 rfl (Or.inl rfl)) (fun _ _ _ _ _=>z1i) (fun _ _ _ _ _=>(pd_if (z5d hr.units (z0x (z0f 3 (pv 3)) z0h) z1V) (z0x (z0f 3 (pv 3)) z0h) pd_non)))))))
theorem z8n : FnScope z9N z4k (z0b z1E):=⟨rfl,rfl,rfl,by decide +kernel,rfl,by decide +kernel,by decide +kernel⟩
theorem z7M {f : Addr} {fd : FuncData} (F : Fun K "can_be_had" "can_be_had" z1E f fd) (hm : mg "can_be_had" = some (.ref f)) (hb : Binds K fd z4k []) (T : Txt mg) (G_orders_to : DefOk P w K mg base 17 "orders_to" (spR K z2S)) : DefOk P w K mg base 18 "can_be_had" (spN K z0K):=
  z5V (k:=17) (g:=z3W) F hm hb z8n rfl rfl fun cdv A outer s H E hr=>
    (z0i (z3t (z5x (z6m (N':=["table", "kind", "thing", "order"])  rfl ⟨rfl,rfl,rfl,rfl,rfl⟩ (n:=2) rfl (z5w rfl T.b_enumerate (z1P G_orders_to (hr.mono (by decide)) rfl (z0a (z0f 0 (pv 0)) (z0a (z0f 1 (pv 1)) z0c)))) (fun _ _ _ _ _=>y0W rfl (z0j (i:=2) nd13 rfl (Or.inl rfl)) (z0j (i:=3) nd13 rfl (Or.inl rfl))) (fun _ _ _ _ _=>z0M (y2e (z0f 3 (pv 3)))) (fun _ _ _ _ _=>(z0f 2 (pv 2)))))))
theorem z6s : FnScope z7g z3f (z0b z1c):=⟨rfl,rfl,rfl,by decide +kernel,rfl,by decide +kernel,by decide +kernel⟩
theorem z6y {f : Addr} {fd : FuncData} (F : Fun K "_law_cell_at" "_law_cell_at" z1c f fd) (hm : mg "_law_cell_at" = some (.ref f)) (hb : Binds K fd z3f []) (T : Txt mg) : DefOk P w K mg base 1 "_law_cell_at" (spN K z0o):=
  z5V (k:=0) (g:=z2h) F hm hb z6s rfl rfl fun cdv A outer s H E hr=>
    (z0g (z5F (pt_lt (z0f 1 (pv 1)) (z0J rfl T.b_len (z0f 0 (pv 0)))) (z0i (z1Q (z0x (z0f 0 (pv 0)) (z0f 1 (pv 1))))) z0W)
      (z0i (z1Q z0h)))
theorem z8r : FnScope z9I z4j (z0b z1A):=⟨rfl,rfl,rfl,by decide +kernel,rfl,by decide +kernel,by decide +kernel⟩
theorem z8D {f : Addr} {fd : FuncData} (F : Fun K "_law_whole" "_law_whole" z1A f fd) (hm : mg "_law_whole" = some (.ref f)) (hb : Binds K fd z4j []) (T : Txt mg) : DefOk P w K mg base 1 "_law_whole" (spN K z2o):=
  z5V (k:=0) (g:=z3T) F hm hb z8r rfl rfl fun cdv A outer s H E hr=>
    (z0i (z1Q (y7t (y6y rfl T.b_int rfl T.b_isinstance (z0f 0 (pv 0))) (y7s (pd_not (y4R rfl T.b_bool rfl T.b_isinstance (z0f 0 (pv 0))))))))
theorem sc__law_table : FnScope z9J z3Y (z0b z1I):=⟨rfl,rfl,rfl,by decide +kernel,rfl,by decide +kernel,by decide +kernel⟩
theorem z8C {f : Addr} {fd : FuncData} (F : Fun K "_law_table" "_law_table" z1I f fd) (hm : mg "_law_table" = some (.ref f)) (hb : Binds K fd z3Y []) (T : Txt mg) (G__law_cell_at : DefOk P w K mg base 1 "_law_cell_at" (spN K z0o)) : DefOk P w K mg base 2 "_law_table" (spN K z2l):=
  z5V (k:=1) (g:=z3V) F hm hb sc__law_table rfl rfl fun cdv A outer s H E hr=>
    (z0g (z7w (z1f (i:=2) sc__law_table.nd rfl (Or.inl rfl) (z2A (z3R (z0m G__law_cell_at (hr.mono (by decide)) rfl (z0a (z0f 0 (pv 0)) (z0a z0h z0c)))) z0h)))
      (z0g (z1K (y3B (i:=3) (N':=["script", "many", "seed", "table", "pairs", "a", "b", "bits", "p", "9", "k"]) sc__law_table.nd rfl rfl rfl ⟨rfl,rfl,rfl,rfl,rfl⟩ (n:=10) rfl (z0X rfl T.b_range (z0f 1 (pv 1))) (fun _ _ _ _ _=>z0j (i:=10) nd14 rfl (Or.inl rfl)) (fun _ _ _ _ _=>z1i) (fun _ _ _ _ _=>(z5x (y1a (z3Q (z0I (z0a z3r z0c))) (z0f 1 (pv 1)))))))
      (z0g (z1K (z1f (i:=4) sc__law_table.nd rfl (Or.inl rfl) (z5x (z0I z0c))))
      (z0g (z2V PassesOwn.never rfl (z0X rfl T.b_range (z0f 1 (pv 1))) (z0j (i:=5) sc__law_table.nd rfl (Or.inl rfl)) (z0i (z2V PassesOwn.never rfl (z0X rfl T.b_range (z0f 5 (pv 5))) (z0j (i:=6) sc__law_table.nd rfl (Or.inl rfl)) (z0i (y7z PySem.F.slot_list_append PySem.F.type_list_append z1O z2r (pv 4) (z0a (z1R (z0a (z0f 5 (pv 5)) (z0a (z0f 6 (pv 6)) z0c))) z0c))))))
      (z0g (z1K (z1f (i:=7) sc__law_table.nd rfl (Or.inl rfl) (z5x (y1a (z3Q (z0I (z0a z0h z0c))) (z0J rfl T.b_len (z0f 4 (pv 4)))))))
      (z0g (s_frz 4 (z2V PassesOwn.never rfl (z0X rfl T.b_range (z0J rfl T.b_len (z0f 4 (pv 4)))) (z0j (i:=8) sc__law_table.nd rfl (Or.inl rfl)) (z0i (z5F (y4C (z2A (z0f 2 (pv 2)) z0h) z0h) (z0i (s_st0 (pv 7) (z0f 8 (pv 8)) (z2A (z6I (z2A (y4P (z0f 2 (pv 2)) (z4E z0h (y4P (y4P z0h (z0f 8 (pv 8))) (z0f 8 (pv 8))))) z0h) z0h) z0h))) z0W))))
      (z0g (z2V PassesOwn.never rfl (pi_rng2 rfl T.b_range z0h (z0J rfl T.b_len (z0f 0 (pv 0)))) (z0j (i:=9) sc__law_table.nd rfl (Or.inl rfl)) (z0i (z5F (y4C (z0J rfl T.b_len (z0f 4 (pv 4))) z0h) (z0i (s_st0 (pv 7) (z2A (z0f 9 (pv 9)) (z0J rfl T.b_len (z0f 4 (pv 4)))) (z2A (z4E (z0x (z0f 7 (pv 7)) (z2A (z0f 9 (pv 9)) (z0J rfl T.b_len (z0f 4 (pv 4))))) (z0x (z0f 0 (pv 0)) (z0f 9 (pv 9)))) z0h))) z0W)))
      (z0g (z2V PassesOwn.never rfl (z0X rfl T.b_range (z0J rfl T.b_len (z0f 4 (pv 4)))) (z0j (i:=8) sc__law_table.nd rfl (Or.inl rfl)) (z0g (y6Z (pv 3) (z0x (z0x (z0f 4 (pv 4)) (z0f 8 (pv 8))) z0h) (z0x (z0x (z0f 4 (pv 4)) (z0f 8 (pv 8))) z0h) (y1F hr.units (z0x (z0f 7 (pv 7)) (z0f 8 (pv 8))) z0h))
      (z0i (y6Z (pv 3) (z0x (z0x (z0f 4 (pv 4)) (z0f 8 (pv 8))) z0h) (z0x (z0x (z0f 4 (pv 4)) (z0f 8 (pv 8))) z0h) (y1F hr.units (z0x (z0f 7 (pv 7)) (z0f 8 (pv 8))) z0h)))))
      (z0i (z6r (pv 3)))))))))))
theorem sc__law_order : FnScope z8I z4c (z0b z1H):=⟨rfl,rfl,rfl,by decide +kernel,rfl,by decide +kernel,by decide +kernel⟩
theorem z8y {f : Addr} {fd : FuncData} (F : Fun K "_law_order" "_law_order" z1H f fd) (hm : mg "_law_order" = some (.ref f)) (hb : Binds K fd z4c []) (T : Txt mg) : DefOk P w K mg base 1 "_law_order" (spN K z2k):=
  z5V (k:=0) (g:=z4i) F hm hb sc__law_order rfl rfl fun cdv A outer s H E hr=>
    (z0g (z1K (z1f (i:=2) sc__law_order.nd rfl (Or.inl rfl) (z5x (z0I z0c))))
      (z0g (z2V PassesOwn.never rfl (z0X rfl T.b_range (z0f 1 (pv 1))) (z0j (i:=3) sc__law_order.nd rfl (Or.inl rfl)) (z0g (y7z PySem.F.slot_list_insert PySem.F.type_list_insert y3e y3j (pv 2) (z0a (z2A (z0f 0 (pv 0)) (z4E (z0f 3 (pv 3)) z0h)) (z0a (z0f 3 (pv 3)) z0c)))
      (z0i (z7w (z1f (i:=0) sc__law_order.nd rfl (Or.inl rfl) (z6I (z0f 0 (pv 0)) (z4E (z0f 3 (pv 3)) z0h)))))))
      (z0i (z6r (pv 2)))))
theorem sc__law_seven : FnScope z9m z4h (z0b z1F):=⟨rfl,rfl,rfl,by decide +kernel,rfl,by decide +kernel,by decide +kernel⟩
theorem z8p {f : Addr} {fd : FuncData} (F : Fun K "_law_seven" "_law_seven" z1F f fd) (hm : mg "_law_seven" = some (.ref f)) (hb : Binds K fd z4h []) (T : Txt mg) : DefOk P w K mg base 1 "_law_seven" (spN K z2n):=
  defNb (k:=0) (g:=z3U) F hm hb sc__law_seven rfl rfl fun cdv A outer s H E hr=>
    (y5S (y3d (i:=2) sc__law_seven.nd rfl (Or.inl rfl) rfl rfl (Or.inl rfl))
      (z0g (z1K (z1f (i:=2) sc__law_seven.nd rfl (Or.inl rfl) (z5x (z5n (z0f 2 (pv 2)) (z3Q (y2V rfl rfl))))))
      (z0g (y7z PySem.F.slot_list_append PySem.F.type_list_append z1O z2r (pv 2) (z0a (z0x (z3Q (z0I (z0a (z1R (z0a z0h (z0a z0h z0c))) (z0a (z1R (z0a z0h (z0a z0h z0c))) z0c)))) (z2A (z0f 1 (pv 1)) z0h)) z0c))
      (z0g (y7z PySem.F.slot_list_append PySem.F.type_list_append z1O z2r (pv 2) (z0a (z0x (z3Q (z0I (z0a (z1R (z0a z0h (z0a z0h z0c))) (z0a (z1R (z0a z0h (z0a z0h z0c))) z0c)))) (z2A (z6I (z0f 1 (pv 1)) z0h) z0h)) z0c))
      (z0g (y7z PySem.F.slot_list_append PySem.F.type_list_append z1O z2r (pv 2) (z0a (z0x (z3Q (z0I (z0a (z1R (z0a z0h (z0a z0h z0c))) (z0a (z1R (z0a z0h (z0a z0h z0c))) z0c)))) (z2A (z6I (z0f 1 (pv 1)) z0h) z0h)) z0c))
      (z0g (y7z PySem.F.slot_list_append PySem.F.type_list_append z1O z2r (pv 2) (z0a (z0x (z3Q (z0I (z0a (z1R (z0a z0h (z0a z0h z0c))) (z0a (z1R (z0a z0h (z0a z0h z0c))) z0c)))) (pd_int1 rfl T.b_int (y1F hr.units (z2A (z6I (z0f 1 (pv 1)) z0h) z0h) z0h))) z0c))
      (z0g (z1K (y3B (i:=3) (N':=["places", "bits", "beats", "table", "one", "other", "last", "k"]) sc__law_seven.nd rfl rfl rfl ⟨rfl,rfl,rfl,rfl,rfl⟩ (n:=7) rfl (z0X rfl T.b_range (z0J rfl T.b_len (z0f 0 (pv 0)))) (fun _ _ _ _ _=>z0j (i:=7) nd15 rfl (Or.inl rfl)) (fun _ _ _ _ _=>z1i) (fun _ _ _ _ _=>(z5x (y1a (z3Q (z0I (z0a z3r z0c))) (z0J rfl T.b_len (z0f 0 (pv 0))))))))
      (z0g (s_frz 2 (y7C PassesOwn.never rfl (z0C (z0f 2 (pv 2))) (y4e rfl (z0j (i:=4) sc__law_seven.nd rfl (Or.inl rfl)) (z0j (i:=5) sc__law_seven.nd rfl (Or.inl rfl))) (z0i (y6Z (pv 3) (z0x (z0f 0 (pv 0)) (z0f 4 (pv 4))) (z0x (z0f 0 (pv 0)) (z0f 5 (pv 5))) z3r))))
      (z0g (z2V PassesOwn.never rfl (z0C (z3Q (z2C (z0f 0 (pv 0)) (z2D z0h) z2B))) (z0j (i:=6) sc__law_seven.nd rfl (Or.inl rfl)) (z0g (s_st0N (pv 3) (z0f 6 (pv 6)) (z5x (y1a (z3Q (z0I (z0a z3r z0c))) (z0J rfl T.b_len (z0f 0 (pv 0))))))
      (z0i (z2V PassesOwn.never rfl (z0C (z3Q (z2C (z0f 0 (pv 0)) z2B (z2D z0h)))) (z0j (i:=4) sc__law_seven.nd rfl (Or.inl rfl)) (z0i (y6Z (pv 3) (z0f 4 (pv 4)) (z0f 6 (pv 6)) z3r))))))
      (z0i (z6r (pv 3))))))))))))
theorem z9e : FnScope y0k z4V (z0b z1Z):=⟨rfl,rfl,rfl,by decide +kernel,rfl,by decide +kernel,by decide +kernel⟩
theorem z9G {f : Addr} {fd : FuncData} (F : Fun K "_law_copy" "_law_copy" z1Z f fd) (hm : mg "_law_copy" = some (.ref f)) (hb : Binds K fd z4V []) (T : Txt mg) : DefOk P w K mg base 1 "_law_copy" (spN K z2R):=
  z5V (k:=0) (g:=z4O) F hm hb z9e rfl rfl fun cdv A outer s H E hr=>
    (z0i (z3t (y0G (N':=["table", "row"])  rfl ⟨rfl,rfl,rfl,rfl,rfl⟩ (n:=1) rfl (z0C (z0f 0 (pv 0))) (fun _ _ _ _ _=>z0j (i:=1) nd16 rfl (Or.inl rfl)) (fun _ _ _ _ _=>z1i) (fun _ _ _ _ _=>(z5x (z9t rfl T.b_list (z0f 1 (pv 1))))))))
theorem sc__law_subsets : FnScope z7d z3g (z0b z1d):=⟨rfl,rfl,rfl,by decide +kernel,rfl,by decide +kernel,by decide +kernel⟩
theorem z6A {f : Addr} {fd : FuncData} (F : Fun K "_law_subsets" "_law_subsets" z1d f fd) (hm : mg "_law_subsets" = some (.ref f)) (hb : Binds K fd z3g []) (T : Txt mg) : DefOk P w K mg base 1 "_law_subsets" (spR K z1u):=
  y5G (k:=0) (g:=z3b) F hm hb sc__law_subsets rfl rfl fun cdv A outer s H E B hr=>
    (z0g (z1D (z1f (i:=1) sc__law_subsets.nd rfl (Or.inl rfl) (z3R (y0D (z3F (z5x (z0I z0c)) z9U)))))
      (z0g (z2V PassesOwn.never rfl (z0C (z0f 0 (pv 0))) (z0j (i:=2) sc__law_subsets.nd rfl (Or.inr rfl)) (z0i (z1D (z1f (i:=1) sc__law_subsets.nd rfl (Or.inl rfl) (z3Q (z5n (z0f 1 (pv 1)) (z3R (y0G (N':=["things", "found", "one", "some"])  rfl ⟨rfl,rfl,rfl,rfl,rfl⟩ (n:=3) rfl (z0C (z0f 1 (pv 1))) (fun _ _ _ _ _=>z0j (i:=3) nd17 rfl (Or.inl rfl)) (fun _ _ _ _ _=>z1i) (fun _ _ _ _ _=>(z5x (z5n (z0f 3 (pv 3)) (z3Q (z0I (z0a (z0f 2 (pv 2)) z0c))))))))))))))
      (z0i (z2z (z0f 1 (pv 1))))))
theorem sc__law_goes_round : FnScope z5S z1X (z0b z0L):=⟨rfl,rfl,rfl,by decide +kernel,rfl,by decide +kernel,by decide +kernel⟩
theorem z5o {f : Addr} {fd : FuncData} (F : Fun K "_law_goes_round" "_law_goes_round" z0L f fd) (hm : mg "_law_goes_round" = some (.ref f)) (hb : Binds K fd z1X []) (T : Txt mg) : DefOk P w K mg base 1 "_law_goes_round" (spN K z0T):=
  z5V (k:=0) (g:=z2a) F hm hb sc__law_goes_round rfl rfl fun cdv A outer s H E hr=>
    (z0g (z2V PassesOwn.never rfl (z0C (z0f 1 (pv 1))) (z0j (i:=2) sc__law_goes_round.nd rfl (Or.inr rfl)) (z0i (z2V PassesOwn.never rfl (z0C (z0f 1 (pv 1))) (z0j (i:=3) sc__law_goes_round.nd rfl (Or.inr rfl)) (z0g (z1K (PAsg.imp (z6U (i:=4) (N':=["table", "things", "a", "b", "back", "c"]) sc__law_goes_round.nd rfl rfl rfl ⟨rfl,rfl,rfl,rfl,rfl⟩ (n:=5) rfl (z0C (z0f 1 (pv 1))) (fun _ _ _ _ _=>z0j (i:=5) nd18 rfl (Or.inl rfl)) (fun _ _ _ _ _=>z0M (PW.pt (z3A (z0q (z0x (z0x (z0f 0 (pv 0)) (z0f 3 (pv 3))) (z0f 5 (pv 5)))) (z2Z (z0q (z0x (z0x (z0f 0 (pv 0)) (z0f 5 (pv 5))) (z0f 2 (pv 2)))))))) (fun _ _ _ _ _=>(z0f 5 (pv 5)))) iNF))
      (z0i (z5F (PW.pt (z3A (z0q (z0x (z0x (z0f 0 (pv 0)) (z0f 2 (pv 2))) (z0f 3 (pv 3)))) (z2Z (y4C (z0J rfl T.b_len (z0f 4 (pv 4))) z0h)))) (z0i (z1Q z3r)) z0W))))))
      (z0i (z1Q z3r)))
theorem sc__law_beaters : FnScope z7c z3d (z0b z1b):=⟨rfl,rfl,rfl,by decide +kernel,rfl,by decide +kernel,by decide +kernel⟩
theorem z6x {f : Addr} {fd : FuncData} (F : Fun K "_law_beaters" "_law_beaters" z1b f fd) (hm : mg "_law_beaters" = some (.ref f)) (hb : Binds K fd z3d []) (T : Txt mg) : DefOk P w K mg base 1 "_law_beaters" (spN K z1v):=
  z5V (k:=0) (g:=z3h) F hm hb sc__law_beaters rfl rfl fun cdv A outer s H E hr=>
    (z0g (z1K (z1f (i:=2) sc__law_beaters.nd rfl (Or.inl rfl) (z5x (z0I z0c))))
      (z0g (z2V PassesOwn.never rfl (z0X rfl T.b_range (z0J rfl T.b_len (z0f 0 (pv 0)))) (z0j (i:=3) sc__law_beaters.nd rfl (Or.inr rfl)) (z0i (z5F (z5d hr.units (z0J rfl T.b_len (z3Q (z3H (N':=["table", "things", "found", "one", "other"])  rfl ⟨rfl,rfl,rfl,rfl,rfl⟩ (n:=4) rfl (z0C (z0f 1 (pv 1))) (fun _ _ _ _ _=>z0j (i:=4) nd19 rfl (Or.inl rfl)) (fun _ _ _ _ _=>z0M (z4T (z0q (z0x (z0x (z0f 0 (pv 0)) (z0f 3 (pv 3))) (z0f 4 (pv 4)))))) (fun _ _ _ _ _=>(z0f 4 (pv 4)))))) z0h) (z0i (y7z PySem.F.slot_list_append PySem.F.type_list_append z1O z2r (pv 2) (z0a (z0f 3 (pv 3)) z0c))) z0W)))
      (z0i (z6r (pv 2)))))
theorem sc__law_crowned : FnScope z7m z3a (z0b z1e):=⟨rfl,rfl,rfl,by decide +kernel,rfl,by decide +kernel,by decide +kernel⟩
theorem z6H {f : Addr} {fd : FuncData} (F : Fun K "_law_crowned" "_law_crowned" z1e f fd) (hm : mg "_law_crowned" = some (.ref f)) (hb : Binds K fd z3a []) (T : Txt mg) (G__law_subsets : DefOk P w K mg base 1 "_law_subsets" (spR K z1u)) (G__law_goes_round : DefOk P w K mg base 1 "_law_goes_round" (spN K z0T)) (G__law_beaters : DefOk P w K mg base 1 "_law_beaters" (spN K z1v)) : DefOk P w K mg base 2 "_law_crowned" (spN K z1a):=
  z5V (k:=1) (g:=z3i) F hm hb sc__law_crowned rfl rfl fun cdv A outer s H E hr=>
    (z0g (z1D (PAsg.imp (z6U (i:=2) (N':=["table", "thing", "beaten", "some", "other"]) sc__law_crowned.nd rfl rfl rfl ⟨rfl,rfl,rfl,rfl,rfl⟩ (n:=4) rfl (z0X rfl T.b_range (z0J rfl T.b_len (z0f 0 (pv 0)))) (fun _ _ _ _ _=>z0j (i:=4) nd20 rfl (Or.inl rfl)) (fun _ _ _ _ _=>z0M (z0q (z0x (z0x (z0f 0 (pv 0)) (z0f 1 (pv 1))) (z0f 4 (pv 4))))) (fun _ _ _ _ _=>(z0f 4 (pv 4)))) iDF))
      (z0g (z2V PassesOwn.never rfl (z0C (z1P G__law_subsets (hr.mono (by decide)) rfl (z0a (z0f 2 (pv 2)) z0c))) (z0j (i:=3) sc__law_crowned.nd rfl (Or.inl rfl)) (z0i (z5F (PW.pt (z3A (z4T (z0q (z3R (z0m G__law_goes_round (hr.mono (by decide)) rfl (z0a (z0f 0 (pv 0)) (z0a (z0f 3 (pv 3)) z0c)))))) (z2Z (z5d hr.units (z0J rfl T.b_len (z3R (z0m G__law_beaters (hr.mono (by decide)) rfl (z0a (z0f 0 (pv 0)) (z0a (z3Q (z5n (z0f 3 (pv 3)) (z3Q (z0I (z0a (z0f 1 (pv 1)) z0c))))) z0c))))) z0h)))) (z0i (z1Q z3r)) z0W)))
      (z0i (z1Q z3r))))
theorem sc__law_uncovered : FnScope z6c z2v (z0b z0P):=⟨rfl,rfl,rfl,by decide +kernel,rfl,by decide +kernel,by decide +kernel⟩
theorem z5B {f : Addr} {fd : FuncData} (F : Fun K "_law_uncovered" "_law_uncovered" z0P f fd) (hm : mg "_law_uncovered" = some (.ref f)) (hb : Binds K fd z2v []) (T : Txt mg) : DefOk P w K mg base 1 "_law_uncovered" (spN K z0Q):=
  z5V (k:=0) (g:=z2w) F hm hb sc__law_uncovered rfl rfl fun cdv A outer s H E hr=>
    (z0g (z2V PassesOwn.never rfl (z0X rfl T.b_range (z0J rfl T.b_len (z0f 0 (pv 0)))) (z0j (i:=2) sc__law_uncovered.nd rfl (Or.inr rfl)) (z0i (z5F (PW.pt (z3A (y2O hr.units (z0f 2 (pv 2)) (z0f 1 (pv 1))) (z2Z (z4T (z0q (z0x (z0x (z0f 0 (pv 0)) (z0f 1 (pv 1))) (z0f 2 (pv 2)))))))) (z0i (z5F (z5d hr.units (z0J rfl T.b_len (z3Q (z3H (N':=["table", "one", "other", "third"])  rfl ⟨rfl,rfl,rfl,rfl,rfl⟩ (n:=3) rfl (z0X rfl T.b_range (z0J rfl T.b_len (z0f 0 (pv 0)))) (fun _ _ _ _ _=>z0j (i:=3) nd21 rfl (Or.inl rfl)) (fun _ _ _ _ _=>z0M (PW.pt (z3A (z0q (z0x (z0x (z0f 0 (pv 0)) (z0f 1 (pv 1))) (z0f 3 (pv 3)))) (z2Z (z0q (z0x (z0x (z0f 0 (pv 0)) (z0f 3 (pv 3))) (z0f 2 (pv 2)))))))) (fun _ _ _ _ _=>(z0f 3 (pv 3)))))) z0h) (z0i (z1Q z3r)) z0W)) z0W)))
      (z0i (z1Q z3r)))
theorem sc__law_rising : FnScope z8x z3K (z0b z1p):=⟨rfl,rfl,rfl,by decide +kernel,rfl,by decide +kernel,by decide +kernel⟩
theorem z7k {f : Addr} {fd : FuncData} (F : Fun K "_law_rising" "_law_rising" z1p f fd) (hm : mg "_law_rising" = some (.ref f)) (hb : Binds K fd z3K []) (T : Txt mg) (G__law_whole : DefOk P w K mg base 1 "_law_whole" (spN K z2o)) : DefOk P w K mg base 2 "_law_rising" (spN K z0Y):=
  z5V (k:=1) (g:=z3w) F hm hb sc__law_rising rfl rfl fun cdv A outer s H E hr=>
    (z0g (z5F (PW.pt (z7r (z4T (z0q (y4K rfl T.b_list rfl T.b_isinstance (z0f 0 (pv 0))))) (y0E (z5d hr.units (z0J rfl T.b_len (z0f 0 (pv 0))) z0h)))) (z0i (z1Q z3r)) z0W)
      (z0g (z2V PassesOwn.never rfl (z0X rfl T.b_range (z0J rfl T.b_len (z0f 0 (pv 0)))) (z0j (i:=2) sc__law_rising.nd rfl (Or.inl rfl)) (z0i (z5F (PW.pt (z7r (z4T (z0q (z3R (z0m G__law_whole (hr.mono (by decide)) rfl (z0a (z0x (z0f 0 (pv 0)) (z0f 2 (pv 2))) z0c))))) (z7r (pt_lt (z0x (z0f 0 (pv 0)) (z0f 2 (pv 2))) z0h) (z7r (pt_ge (z0x (z0f 0 (pv 0)) (z0f 2 (pv 2))) (z0f 1 (pv 1))) (y0E (y4C (y1i (z3Q (z2C (z0f 0 (pv 0)) z2B (z2D (z0f 2 (pv 2))))) (z0x (z0f 0 (pv 0)) (z0f 2 (pv 2)))) z0h)))))) (z0i (z1Q z3r)) z0W)))
      (z0i (z1Q (y1F hr.units (z0f 0 (pv 0)) (z3Q (y3p rfl T.b_sorted (z0f 0 (pv 0)))))))))
theorem sc_law : FnScope N_law P_law (z0b z7O):=⟨rfl,rfl,rfl,by decide +kernel,rfl,by decide +kernel,by decide +kernel⟩
theorem ok_law {f : Addr} {fd : FuncData} (F : Fun K "law" "law" z7O f fd) (T : Txt mg) (G_can_be_had : DefOk P w K mg base 18 "can_be_had" (spN K z0K)) (G__law_cell_at : DefOk P w K mg base 1 "_law_cell_at" (spN K z0o)) (G__law_table : DefOk P w K mg base 2 "_law_table" (spN K z2l)) (G__law_order : DefOk P w K mg base 1 "_law_order" (spN K z2k)) (G__law_seven : DefOk P w K mg base 1 "_law_seven" (spN K z2n)) (G__law_copy : DefOk P w K mg base 1 "_law_copy" (spN K z2R)) (G__law_crowned : DefOk P w K mg base 2 "_law_crowned" (spN K z1a)) (G__law_uncovered : DefOk P w K mg base 1 "_law_uncovered" (spN K z0Q)) (G__law_rising : DefOk P w K mg base 2 "_law_rising" (spN K z0Y)) : FnOk P w K mg base CX0 19 f fd P_law (spN K y2m):=
  fnN (k:=18) (g:=g_law) F sc_law rfl rfl fun cdv A outer s H E hr=>
    (z0g (z7w (z1f (i:=1) sc_law.nd rfl (Or.inr rfl) (z4E z0h (z2A (z3R (z0m G__law_cell_at (hr.mono (by decide)) rfl (z0a (z0f 0 (pv 0)) (z0a z0h z0c)))) z0h))))
      (z0g (z1D (z1f (i:=2) sc_law.nd rfl (Or.inr rfl) (z3R (z0m G__law_table (hr.mono (by decide)) rfl (z0a (z0f 0 (pv 0)) (z0a (z0f 1 (pv 1)) z0c))))))
      (z0g (z5F (z5d hr.units (z2A (z6I (z3R (z0m G__law_cell_at (hr.mono (by decide)) rfl (z0a (z0f 0 (pv 0)) (z0a z0h z0c)))) z0h) z0h) z0h) (z0g (z7w (z1f (i:=1) sc_law.nd rfl (Or.inr rfl) (z4E z0h (z2A (z6I (z3R (z0m G__law_cell_at (hr.mono (by decide)) rfl (z0a (z0f 0 (pv 0)) (z0a z0h z0c)))) z0h) z0h))))
      (z0i (z1D (z1f (i:=2) sc_law.nd rfl (Or.inr rfl) (z3R (z0m G__law_seven (hr.mono (by decide)) rfl (z0a (z3R (z0m G__law_order (hr.mono (by decide)) rfl (z0a (z3R (z0m G__law_cell_at (hr.mono (by decide)) rfl (z0a (z0f 0 (pv 0)) (z0a z0h z0c)))) (z0a (z0f 1 (pv 1)) z0c)))) (z0a (z3R (z0m G__law_cell_at (hr.mono (by decide)) rfl (z0a (z0f 0 (pv 0)) (z0a z0h z0c)))) z0c)))))))) z0W)
      (z0g (z1D (z1f (i:=3) sc_law.nd rfl (Or.inl rfl) (z3R (z0m G__law_copy (hr.mono (by decide)) rfl (z0a (z0f 2 (pv 2)) z0c)))))
      (z0g (z1K (z1f (i:=4) sc_law.nd rfl (Or.inl rfl) (y0D (z3F (z0m G_can_be_had (hr.mono (by decide)) rfl (z0a (z0f 3 (pv 3)) (z0a z1V z0c))) (z3F (z0m G_can_be_had (hr.mono (by decide)) rfl (z0a (z0f 3 (pv 3)) (z0a z1V z0c))) (z3F (z0m G_can_be_had (hr.mono (by decide)) rfl (z0a (z0f 3 (pv 3)) (z0a z1V z0c))) z9U))))))
      (z0g (s_forCN PassesOwn.never rfl (z0C (z0f 4 (pv 4))) (z0j (i:=5) sc_law.nd rfl (Or.inl rfl)) (y4M (c_if (z4T (z0q (z3R (z0m G__law_rising (hr.mono (by decide)) rfl (z0a (z0f 5 (pv 5)) (z0a (z0f 1 (pv 1)) z0c)))))) z3r)))
      (z0g (z1K (PAsg.imp (z6U (i:=6) (N':=["script", "many", "table", "handed", "lists", "found", "free", "7", "first", "kept", "one"]) sc_law.nd rfl rfl rfl ⟨rfl,rfl,rfl,rfl,rfl⟩ (n:=10) rfl (z0X rfl T.b_range (z0f 1 (pv 1))) (fun _ _ _ _ _=>z0j (i:=10) nd23 rfl (Or.inl rfl)) (fun _ _ _ _ _=>z0M (z0q (z3R (z0m G__law_uncovered (hr.mono (by decide)) rfl (z0a (z0f 2 (pv 2)) (z0a (z0f 10 (pv 10)) z0c)))))) (fun _ _ _ _ _=>(z0f 10 (pv 10)))) iNF))
      (z0g (y7F PassesOwn.never rfl (z0C (z0x (z0f 4 (pv 4)) z0h)) (z0j (i:=7) sc_law.nd rfl (Or.inl rfl)) (y4M (c_if (z6V hr.units (z0f 7 (pv 7)) (z0f 6 (pv 6))) z3r)))
      (z0g (z5F (y2O hr.units (z0x (z0f 4 (pv 4)) z0h) (z3Q (z3H (N':=["script", "many", "table", "handed", "lists", "found", "free", "7", "first", "kept", "one"])  rfl ⟨rfl,rfl,rfl,rfl,rfl⟩ (n:=10) rfl (z0X rfl T.b_range (z0f 1 (pv 1))) (fun _ _ _ _ _=>z0j (i:=10) nd23 rfl (Or.inl rfl)) (fun _ _ _ _ _=>z0M (z0q (z3R (z0m G__law_crowned (hr.mono (by decide)) rfl (z0a (z0f 2 (pv 2)) (z0a (z0f 10 (pv 10)) z0c)))))) (fun _ _ _ _ _=>(z0f 10 (pv 10)))))) (z0i (z1Q z3r)) z0W)
      (z0g (y7F PassesOwn.never rfl (z0C (z0f 6 (pv 6))) (z0j (i:=7) sc_law.nd rfl (Or.inl rfl)) (y4M (c_if (z6V hr.units (z0f 7 (pv 7)) (z0x (z0f 4 (pv 4)) z0h)) z3r)))
      (z0g (z1K (PAsg.imp (z6U (i:=8) (N':=["script", "many", "table", "handed", "lists", "found", "free", "7", "first", "kept", "one"]) sc_law.nd rfl rfl rfl ⟨rfl,rfl,rfl,rfl,rfl⟩ (n:=10) rfl (z0X rfl T.b_range (z0f 1 (pv 1))) (fun _ _ _ _ _=>z0j (i:=10) nd23 rfl (Or.inl rfl)) (fun _ _ _ _ _=>z0M (z5d hr.units (y1i (z0x (z0f 2 (pv 2)) (z0f 10 (pv 10))) z3r) (pd_sub (z0f 1 (pv 1)) z0h))) (fun _ _ _ _ _=>(z0f 10 (pv 10)))) iNF))
      (z0g (z5F (PW.pt (z7r (PW.pt (z3A (z5d hr.units (z0J rfl T.b_len (z0f 8 (pv 8))) z0h) (z2Z (y2O hr.units (z0f 4 (pv 4)) (z3Q (z0I (z0a (z0f 8 (pv 8)) (z0a (z0f 8 (pv 8)) (z0a (z0f 8 (pv 8)) z0c))))))))) (z7r (y2O hr.units (z0x (z0f 4 (pv 4)) z0h) (z0x (z0f 4 (pv 4)) z0h)) (y0E (y2O hr.units (z0f 3 (pv 3)) (z0f 2 (pv 2))))))) (z0i (z1Q z3r)) z0W)
      (z0g (z1K (y3B (i:=9) (N':=["script", "many", "table", "handed", "lists", "5", "free", "one", "first", "kept", "found"]) sc_law.nd rfl rfl rfl ⟨rfl,rfl,rfl,rfl,rfl⟩ (n:=10) rfl (z0C (z0f 4 (pv 4))) (fun _ _ _ _ _=>z0j (i:=10) nd22 rfl (Or.inl rfl)) (fun _ _ _ _ _=>z1i) (fun _ _ _ _ _=>(z5x (z9t rfl T.b_list (z0f 10 (pv 10)))))))
      (z0g (s_m1 PySem.F.slot_list_append PySem.F.type_list_append z1O z2r (pv 4) z0h (z0a (z0f 1 (pv 1)) z0c))
      (z0i (z1Q (y1F hr.units (z3R (y0D (z3F (z0m G_can_be_had (hr.mono (by decide)) rfl (z0a (z0f 3 (pv 3)) (z0a z1V z0c))) (z3F (z0m G_can_be_had (hr.mono (by decide)) rfl (z0a (z0f 3 (pv 3)) (z0a z1V z0c))) (z3F (z0m G_can_be_had (hr.mono (by decide)) rfl (z0a (z0f 3 (pv 3)) (z0a z1V z0c))) z9U))))) (z0f 9 (pv 9)))))))))))))))))))
end
theorem y7w {α : Type} {us : List α} (h : us.length=1) : ∃ a0,us=[a0]:=by
  cases us with
  | nil=>cases h
  | cons b us=>exact ⟨b,by rw [List.length_eq_zero_iff.mp (Nat.succ.inj h)]⟩
theorem z5Y {α : Type} {us : List α} (h : us.length=2) : ∃ a0 a1,us=[a0,a1]:=by
  cases us with
  | nil=>cases h
  | cons b us=>obtain ⟨a1,e⟩:=y7w (Nat.succ.inj h); exact ⟨b,a1,by rw [e]⟩
theorem us_3 {α : Type} {us : List α} (h : us.length=3) : ∃ a0 a1 a2,us=[a0,a1,a2]:=by
  cases us with
  | nil=>cases h
  | cons b us=>obtain ⟨a1,a2,e⟩:=z5Y (Nat.succ.inj h); exact ⟨b,a1,a2,by rw [e]⟩
theorem us_4 {α : Type} {us : List α} (h : us.length=4) : ∃ a0 a1 a2 a3,us=[a0,a1,a2,a3]:=by
  cases us with
  | nil=>cases h
  | cons b us=>obtain ⟨a1,a2,a3,e⟩:=us_3 (Nat.succ.inj h); exact ⟨b,a1,a2,a3,by rw [e]⟩
theorem us_5 {α : Type} {us : List α} (h : us.length=5) : ∃ a0 a1 a2 a3 a4,us=[a0,a1,a2,a3,a4]:=by
  cases us with
  | nil=>cases h
  | cons b us=>obtain ⟨a1,a2,a3,a4,e⟩:=us_4 (Nat.succ.inj h); exact ⟨b,a1,a2,a3,a4,by rw [e]⟩
theorem us_6 {α : Type} {us : List α} (h : us.length=6) : ∃ a0 a1 a2 a3 a4 a5,us=[a0,a1,a2,a3,a4,a5]:=by
  cases us with
  | nil=>cases h
  | cons b us=>obtain ⟨a1,a2,a3,a4,a5,e⟩:=us_5 (Nat.succ.inj h); exact ⟨b,a1,a2,a3,a4,a5,by rw [e]⟩
theorem all_mk {l : PySem.W.OpenLaw} {w : World} {K : PySem.W.Frag} {h : Heap} {mg : Str->Option Value} {fa : Addr} (X : K.In h) (G : h.Ns mainGlobals mg) (hfa : mg "law" = some (.ref fa))
    {f_beaten_by f_beats_all f_places_true f_is_chain f_beaters f_stands f_crown_paper f_ended_chains f_reached f_steps_from f_rings f_places_with f_top_ring f_row_from f_begun_with f_round_of f_widened f_detour f_to_stand f_to_crown f_to_rest f_paper_for f_orders_to f_can_be_had f__law_cell_at f__law_whole f__law_table f__law_order f__law_seven f__law_copy f__law_subsets f__law_goes_round f__law_beaters f__law_crowned f__law_uncovered f__law_rising f_law : Addr} {od19 an19 : Option Addr} {sl19 : Array (Option Value)} {oc19 kV19 dc19 pm19 cd19 ct19 : Value} {od20 an20 : Option Addr} {sl20 : Array (Option Value)} {oc20 kV20 dc20 pm20 cd20 ct20 : Value} {od9 an9 : Option Addr} {sl9 : Array (Option Value)} {oc9 kV9 dc9 pm9 cd9 ct9 : Value} {od23 an23 : Option Addr} {sl23 : Array (Option Value)} {oc23 kV23 dc23 pm23 cd23 ct23 : Value} {od29 an29 : Option Addr} {sl29 : Array (Option Value)} {oc29 kV29 dc29 pm29 cd29 ct29 : Value} {od34 an34 : Option Addr} {sl34 : Array (Option Value)} {oc34 kV34 dc34 pm34 cd34 ct34 : Value} {od8 an8 : Option Addr} {sl8 : Array (Option Value)} {oc8 kV8 dc8 pm8 cd8 ct8 : Value} {od6 an6 : Option Addr} {sl6 : Array (Option Value)} {oc6 kV6 dc6 pm6 cd6 ct6 : Value} {od30 an30 : Option Addr} {sl30 : Array (Option Value)} {oc30 kV30 dc30 pm30 cd30 ct30 : Value} {od17 an17 : Option Addr} {sl17 : Array (Option Value)} {oc17 kV17 dc17 pm17 cd17 ct17 : Value} {od35 an35 : Option Addr} {sl35 : Array (Option Value)} {oc35 kV35 dc35 pm35 cd35 ct35 : Value} {od10 an10 : Option Addr} {sl10 : Array (Option Value)} {oc10 kV10 dc10 pm10 cd10 ct10 : Value} {od28 an28 : Option Addr} {sl28 : Array (Option Value)} {oc28 kV28 dc28 pm28 cd28 ct28 : Value} {od25 an25 : Option Addr} {sl25 : Array (Option Value)} {oc25 kV25 dc25 pm25 cd25 ct25 : Value} {od15 an15 : Option Addr} {sl15 : Array (Option Value)} {oc15 kV15 dc15 pm15 cd15 ct15 : Value} {od24 an24 : Option Addr} {sl24 : Array (Option Value)} {oc24 kV24 dc24 pm24 cd24 ct24 : Value} {od32 an32 : Option Addr} {sl32 : Array (Option Value)} {oc32 kV32 dc32 pm32 cd32 ct32 : Value} {od33 an33 : Option Addr} {sl33 : Array (Option Value)} {oc33 kV33 dc33 pm33 cd33 ct33 : Value} {od27 an27 : Option Addr} {sl27 : Array (Option Value)} {oc27 kV27 dc27 pm27 cd27 ct27 : Value} {od26 an26 : Option Addr} {sl26 : Array (Option Value)} {oc26 kV26 dc26 pm26 cd26 ct26 : Value} {od31 an31 : Option Addr} {sl31 : Array (Option Value)} {oc31 kV31 dc31 pm31 cd31 ct31 : Value} {od22 an22 : Option Addr} {sl22 : Array (Option Value)} {oc22 kV22 dc22 pm22 cd22 ct22 : Value} {od21 an21 : Option Addr} {sl21 : Array (Option Value)} {oc21 kV21 dc21 pm21 cd21 ct21 : Value} {od16 an16 : Option Addr} {sl16 : Array (Option Value)} {oc16 kV16 dc16 pm16 cd16 ct16 : Value} {od3 an3 : Option Addr} {sl3 : Array (Option Value)} {oc3 kV3 dc3 pm3 cd3 ct3 : Value} {od14 an14 : Option Addr} {sl14 : Array (Option Value)} {oc14 kV14 dc14 pm14 cd14 ct14 : Value} {od13 an13 : Option Addr} {sl13 : Array (Option Value)} {oc13 kV13 dc13 pm13 cd13 ct13 : Value} {od11 an11 : Option Addr} {sl11 : Array (Option Value)} {oc11 kV11 dc11 pm11 cd11 ct11 : Value} {od12 an12 : Option Addr} {sl12 : Array (Option Value)} {oc12 kV12 dc12 pm12 cd12 ct12 : Value} {od18 an18 : Option Addr} {sl18 : Array (Option Value)} {oc18 kV18 dc18 pm18 cd18 ct18 : Value} {od5 an5 : Option Addr} {sl5 : Array (Option Value)} {oc5 kV5 dc5 pm5 cd5 ct5 : Value} {od0 an0 : Option Addr} {sl0 : Array (Option Value)} {oc0 kV0 dc0 pm0 cd0 ct0 : Value} {od2 an2 : Option Addr} {sl2 : Array (Option Value)} {oc2 kV2 dc2 pm2 cd2 ct2 : Value} {od4 an4 : Option Addr} {sl4 : Array (Option Value)} {oc4 kV4 dc4 pm4 cd4 ct4 : Value} {od1 an1 : Option Addr} {sl1 : Array (Option Value)} {oc1 kV1 dc1 pm1 cd1 ct1 : Value} {od7 an7 : Option Addr} {sl7 : Array (Option Value)} {oc7 kV7 dc7 pm7 cd7 ct7 : Value} {od36 an36 : Option Addr} {sl36 : Array (Option Value)} {oc36 kV36 dc36 pm36 cd36 ct36 : Value}
    (a_beaten_by : PySem.W.nsIn K mainGlobals "beaten_by" = some (some (.ref f_beaten_by))) (l_beaten_by : K.lookup f_beaten_by=some ⟨oc19,od19,.func (PySem.W.fnOf "beaten_by" "beaten_by" (z0p z2g) (z0n z2g) (z0b z2g) .none kV19 dc19 pm19 an19 cd19 ct19),sl19⟩) (c_beaten_by : PySem.W.codeIn K cd19 "beaten_by" = true) (k_beaten_by : PySem.W.keepIn K (.ref f_beaten_by)=true)
    (a_beats_all : PySem.W.nsIn K mainGlobals "beats_all" = some (some (.ref f_beats_all))) (l_beats_all : K.lookup f_beats_all=some ⟨oc20,od20,.func (PySem.W.fnOf "beats_all" "beats_all" (z0p z2c) (z0n z2c) (z0b z2c) .none kV20 dc20 pm20 an20 cd20 ct20),sl20⟩) (c_beats_all : PySem.W.codeIn K cd20 "beats_all" = true) (k_beats_all : PySem.W.keepIn K (.ref f_beats_all)=true)
    (a_places_true : PySem.W.nsIn K mainGlobals "places_true" = some (some (.ref f_places_true))) (l_places_true : K.lookup f_places_true=some ⟨oc9,od9,.func (PySem.W.fnOf "places_true" "places_true" (z0p z1r) (z0n z1r) (z0b z1r) .none kV9 dc9 pm9 an9 cd9 ct9),sl9⟩) (c_places_true : PySem.W.codeIn K cd9 "places_true" = true) (k_places_true : PySem.W.keepIn K (.ref f_places_true)=true)
    (a_is_chain : PySem.W.nsIn K mainGlobals "is_chain" = some (some (.ref f_is_chain))) (l_is_chain : K.lookup f_is_chain=some ⟨oc23,od23,.func (PySem.W.fnOf "is_chain" "is_chain" (z0p z2J) (z0n z2J) (z0b z2J) .none kV23 dc23 pm23 an23 cd23 ct23),sl23⟩) (c_is_chain : PySem.W.codeIn K cd23 "is_chain" = true) (k_is_chain : PySem.W.keepIn K (.ref f_is_chain)=true)
    (a_beaters : PySem.W.nsIn K mainGlobals "beaters" = some (some (.ref f_beaters))) (l_beaters : K.lookup f_beaters=some ⟨oc29,od29,.func (PySem.W.fnOf "beaters" "beaters" (z0p z3n) (z0n z3n) (z0b z3n) .none kV29 dc29 pm29 an29 cd29 ct29),sl29⟩) (c_beaters : PySem.W.codeIn K cd29 "beaters" = true) (k_beaters : PySem.W.keepIn K (.ref f_beaters)=true)
    (a_stands : PySem.W.nsIn K mainGlobals "stands" = some (some (.ref f_stands))) (l_stands : K.lookup f_stands=some ⟨oc34,od34,.func (PySem.W.fnOf "stands" "stands" (z0p z4t) (z0n z4t) (z0b z4t) .none kV34 dc34 pm34 an34 cd34 ct34),sl34⟩) (c_stands : PySem.W.codeIn K cd34 "stands" = true) (k_stands : PySem.W.keepIn K (.ref f_stands)=true)
    (a_crown_paper : PySem.W.nsIn K mainGlobals "crown_paper" = some (some (.ref f_crown_paper))) (l_crown_paper : K.lookup f_crown_paper=some ⟨oc8,od8,.func (PySem.W.fnOf "crown_paper" "crown_paper" (z0p z1s) (z0n z1s) (z0b z1s) .none kV8 dc8 pm8 an8 cd8 ct8),sl8⟩) (c_crown_paper : PySem.W.codeIn K cd8 "crown_paper" = true) (k_crown_paper : PySem.W.keepIn K (.ref f_crown_paper)=true)
    (a_ended_chains : PySem.W.nsIn K mainGlobals "ended_chains" = some (some (.ref f_ended_chains))) (l_ended_chains : K.lookup f_ended_chains=some ⟨oc6,od6,.func (PySem.W.fnOf "ended_chains" "ended_chains" (z0p z0R) (z0n z0R) (z0b z0R) .none kV6 dc6 pm6 an6 cd6 ct6),sl6⟩) (c_ended_chains : PySem.W.codeIn K cd6 "ended_chains" = true) (k_ended_chains : PySem.W.keepIn K (.ref f_ended_chains)=true)
    (a_reached : PySem.W.nsIn K mainGlobals "reached" = some (some (.ref f_reached))) (l_reached : K.lookup f_reached=some ⟨oc30,od30,.func (PySem.W.fnOf "reached" "reached" (z0p z3k) (z0n z3k) (z0b z3k) .none kV30 dc30 pm30 an30 cd30 ct30),sl30⟩) (c_reached : PySem.W.codeIn K cd30 "reached" = true) (k_reached : PySem.W.keepIn K (.ref f_reached)=true)
    (a_steps_from : PySem.W.nsIn K mainGlobals "steps_from" = some (some (.ref f_steps_from))) (l_steps_from : K.lookup f_steps_from=some ⟨oc17,od17,.func (PySem.W.fnOf "steps_from" "steps_from" (z0p z1G) (z0n z1G) (z0b z1G) .none kV17 dc17 pm17 an17 cd17 ct17),sl17⟩) (c_steps_from : PySem.W.codeIn K cd17 "steps_from" = true) (k_steps_from : PySem.W.keepIn K (.ref f_steps_from)=true)
    (a_rings : PySem.W.nsIn K mainGlobals "rings" = some (some (.ref f_rings))) (l_rings : K.lookup f_rings=some ⟨oc35,od35,.func (PySem.W.fnOf "rings" "rings" (z0p z5L) (z0n z5L) (z0b z5L) .none kV35 dc35 pm35 an35 cd35 ct35),sl35⟩) (c_rings : PySem.W.codeIn K cd35 "rings" = true) (k_rings : PySem.W.keepIn K (.ref f_rings)=true)
    (a_places_with : PySem.W.nsIn K mainGlobals "places_with" = some (some (.ref f_places_with))) (l_places_with : K.lookup f_places_with=some ⟨oc10,od10,.func (PySem.W.fnOf "places_with" "places_with" (z0p z1q) (z0n z1q) (z0b z1q) .none kV10 dc10 pm10 an10 cd10 ct10),sl10⟩) (c_places_with : PySem.W.codeIn K cd10 "places_with" = true) (k_places_with : PySem.W.keepIn K (.ref f_places_with)=true)
    (a_top_ring : PySem.W.nsIn K mainGlobals "top_ring" = some (some (.ref f_top_ring))) (l_top_ring : K.lookup f_top_ring=some ⟨oc28,od28,.func (PySem.W.fnOf "top_ring" "top_ring" (z0p z2E) (z0n z2E) (z0b z2E) .none kV28 dc28 pm28 an28 cd28 ct28),sl28⟩) (c_top_ring : PySem.W.codeIn K cd28 "top_ring" = true) (k_top_ring : PySem.W.keepIn K (.ref f_top_ring)=true)
    (a_row_from : PySem.W.nsIn K mainGlobals "row_from" = some (some (.ref f_row_from))) (l_row_from : K.lookup f_row_from=some ⟨oc25,od25,.func (PySem.W.fnOf "row_from" "row_from" (z0p z2M) (z0n z2M) (z0b z2M) .none kV25 dc25 pm25 an25 cd25 ct25),sl25⟩) (c_row_from : PySem.W.codeIn K cd25 "row_from" = true) (k_row_from : PySem.W.keepIn K (.ref f_row_from)=true)
    (a_begun_with : PySem.W.nsIn K mainGlobals "begun_with" = some (some (.ref f_begun_with))) (l_begun_with : K.lookup f_begun_with=some ⟨oc15,od15,.func (PySem.W.fnOf "begun_with" "begun_with" (z0p z1C) (z0n z1C) (z0b z1C) .none kV15 dc15 pm15 an15 cd15 ct15),sl15⟩) (c_begun_with : PySem.W.codeIn K cd15 "begun_with" = true) (k_begun_with : PySem.W.keepIn K (.ref f_begun_with)=true)
    (a_round_of : PySem.W.nsIn K mainGlobals "round_of" = some (some (.ref f_round_of))) (l_round_of : K.lookup f_round_of=some ⟨oc24,od24,.func (PySem.W.fnOf "round_of" "round_of" (z0p z2I) (z0n z2I) (z0b z2I) .none kV24 dc24 pm24 an24 cd24 ct24),sl24⟩) (c_round_of : PySem.W.codeIn K cd24 "round_of" = true) (k_round_of : PySem.W.keepIn K (.ref f_round_of)=true)
    (a_widened : PySem.W.nsIn K mainGlobals "widened" = some (some (.ref f_widened))) (l_widened : K.lookup f_widened=some ⟨oc32,od32,.func (PySem.W.fnOf "widened" "widened" (z0p z3s) (z0n z3s) (z0b z3s) .none kV32 dc32 pm32 an32 cd32 ct32),sl32⟩) (c_widened : PySem.W.codeIn K cd32 "widened" = true) (k_widened : PySem.W.keepIn K (.ref f_widened)=true)
    (a_detour : PySem.W.nsIn K mainGlobals "detour" = some (some (.ref f_detour))) (l_detour : K.lookup f_detour=some ⟨oc33,od33,.func (PySem.W.fnOf "detour" "detour" (z0p z4n) (z0n z4n) (z0b z4n) .none kV33 dc33 pm33 an33 cd33 ct33),sl33⟩) (c_detour : PySem.W.codeIn K cd33 "detour" = true) (k_detour : PySem.W.keepIn K (.ref f_detour)=true)
    (a_to_stand : PySem.W.nsIn K mainGlobals "to_stand" = some (some (.ref f_to_stand))) (l_to_stand : K.lookup f_to_stand=some ⟨oc27,od27,.func (PySem.W.fnOf "to_stand" "to_stand" (z0p z2L) (z0n z2L) (z0b z2L) .none kV27 dc27 pm27 an27 cd27 ct27),sl27⟩) (c_to_stand : PySem.W.codeIn K cd27 "to_stand" = true) (k_to_stand : PySem.W.keepIn K (.ref f_to_stand)=true)
    (a_to_crown : PySem.W.nsIn K mainGlobals "to_crown" = some (some (.ref f_to_crown))) (l_to_crown : K.lookup f_to_crown=some ⟨oc26,od26,.func (PySem.W.fnOf "to_crown" "to_crown" (z0p z2H) (z0n z2H) (z0b z2H) .none kV26 dc26 pm26 an26 cd26 ct26),sl26⟩) (c_to_crown : PySem.W.codeIn K cd26 "to_crown" = true) (k_to_crown : PySem.W.keepIn K (.ref f_to_crown)=true)
    (a_to_rest : PySem.W.nsIn K mainGlobals "to_rest" = some (some (.ref f_to_rest))) (l_to_rest : K.lookup f_to_rest=some ⟨oc31,od31,.func (PySem.W.fnOf "to_rest" "to_rest" (z0p z3p) (z0n z3p) (z0b z3p) .none kV31 dc31 pm31 an31 cd31 ct31),sl31⟩) (c_to_rest : PySem.W.codeIn K cd31 "to_rest" = true) (k_to_rest : PySem.W.keepIn K (.ref f_to_rest)=true)
    (a_paper_for : PySem.W.nsIn K mainGlobals "paper_for" = some (some (.ref f_paper_for))) (l_paper_for : K.lookup f_paper_for=some ⟨oc22,od22,.func (PySem.W.fnOf "paper_for" "paper_for" (z0p z2f) (z0n z2f) (z0b z2f) .none kV22 dc22 pm22 an22 cd22 ct22),sl22⟩) (c_paper_for : PySem.W.codeIn K cd22 "paper_for" = true) (k_paper_for : PySem.W.keepIn K (.ref f_paper_for)=true)
    (a_orders_to : PySem.W.nsIn K mainGlobals "orders_to" = some (some (.ref f_orders_to))) (l_orders_to : K.lookup f_orders_to=some ⟨oc21,od21,.func (PySem.W.fnOf "orders_to" "orders_to" (z0p z2e) (z0n z2e) (z0b z2e) .none kV21 dc21 pm21 an21 cd21 ct21),sl21⟩) (c_orders_to : PySem.W.codeIn K cd21 "orders_to" = true) (k_orders_to : PySem.W.keepIn K (.ref f_orders_to)=true)
    (a_can_be_had : PySem.W.nsIn K mainGlobals "can_be_had" = some (some (.ref f_can_be_had))) (l_can_be_had : K.lookup f_can_be_had=some ⟨oc16,od16,.func (PySem.W.fnOf "can_be_had" "can_be_had" (z0p z1E) (z0n z1E) (z0b z1E) .none kV16 dc16 pm16 an16 cd16 ct16),sl16⟩) (c_can_be_had : PySem.W.codeIn K cd16 "can_be_had" = true) (k_can_be_had : PySem.W.keepIn K (.ref f_can_be_had)=true)
    (a__law_cell_at : PySem.W.nsIn K mainGlobals "_law_cell_at" = some (some (.ref f__law_cell_at))) (l__law_cell_at : K.lookup f__law_cell_at=some ⟨oc3,od3,.func (PySem.W.fnOf "_law_cell_at" "_law_cell_at" (z0p z1c) (z0n z1c) (z0b z1c) .none kV3 dc3 pm3 an3 cd3 ct3),sl3⟩) (c__law_cell_at : PySem.W.codeIn K cd3 "_law_cell_at" = true) (k__law_cell_at : PySem.W.keepIn K (.ref f__law_cell_at)=true)
    (a__law_whole : PySem.W.nsIn K mainGlobals "_law_whole" = some (some (.ref f__law_whole))) (l__law_whole : K.lookup f__law_whole=some ⟨oc14,od14,.func (PySem.W.fnOf "_law_whole" "_law_whole" (z0p z1A) (z0n z1A) (z0b z1A) .none kV14 dc14 pm14 an14 cd14 ct14),sl14⟩) (c__law_whole : PySem.W.codeIn K cd14 "_law_whole" = true) (k__law_whole : PySem.W.keepIn K (.ref f__law_whole)=true)
    (a__law_table : PySem.W.nsIn K mainGlobals "_law_table" = some (some (.ref f__law_table))) (l__law_table : K.lookup f__law_table=some ⟨oc13,od13,.func (PySem.W.fnOf "_law_table" "_law_table" (z0p z1I) (z0n z1I) (z0b z1I) .none kV13 dc13 pm13 an13 cd13 ct13),sl13⟩) (c__law_table : PySem.W.codeIn K cd13 "_law_table" = true) (k__law_table : PySem.W.keepIn K (.ref f__law_table)=true)
    (a__law_order : PySem.W.nsIn K mainGlobals "_law_order" = some (some (.ref f__law_order))) (l__law_order : K.lookup f__law_order=some ⟨oc11,od11,.func (PySem.W.fnOf "_law_order" "_law_order" (z0p z1H) (z0n z1H) (z0b z1H) .none kV11 dc11 pm11 an11 cd11 ct11),sl11⟩) (c__law_order : PySem.W.codeIn K cd11 "_law_order" = true) (k__law_order : PySem.W.keepIn K (.ref f__law_order)=true)
    (a__law_seven : PySem.W.nsIn K mainGlobals "_law_seven" = some (some (.ref f__law_seven))) (l__law_seven : K.lookup f__law_seven=some ⟨oc12,od12,.func (PySem.W.fnOf "_law_seven" "_law_seven" (z0p z1F) (z0n z1F) (z0b z1F) .none kV12 dc12 pm12 an12 cd12 ct12),sl12⟩) (c__law_seven : PySem.W.codeIn K cd12 "_law_seven" = true) (k__law_seven : PySem.W.keepIn K (.ref f__law_seven)=true)
    (a__law_copy : PySem.W.nsIn K mainGlobals "_law_copy" = some (some (.ref f__law_copy))) (l__law_copy : K.lookup f__law_copy=some ⟨oc18,od18,.func (PySem.W.fnOf "_law_copy" "_law_copy" (z0p z1Z) (z0n z1Z) (z0b z1Z) .none kV18 dc18 pm18 an18 cd18 ct18),sl18⟩) (c__law_copy : PySem.W.codeIn K cd18 "_law_copy" = true) (k__law_copy : PySem.W.keepIn K (.ref f__law_copy)=true)
    (a__law_subsets : PySem.W.nsIn K mainGlobals "_law_subsets" = some (some (.ref f__law_subsets))) (l__law_subsets : K.lookup f__law_subsets=some ⟨oc5,od5,.func (PySem.W.fnOf "_law_subsets" "_law_subsets" (z0p z1d) (z0n z1d) (z0b z1d) .none kV5 dc5 pm5 an5 cd5 ct5),sl5⟩) (c__law_subsets : PySem.W.codeIn K cd5 "_law_subsets" = true) (k__law_subsets : PySem.W.keepIn K (.ref f__law_subsets)=true)
    (a__law_goes_round : PySem.W.nsIn K mainGlobals "_law_goes_round" = some (some (.ref f__law_goes_round))) (l__law_goes_round : K.lookup f__law_goes_round=some ⟨oc0,od0,.func (PySem.W.fnOf "_law_goes_round" "_law_goes_round" (z0p z0L) (z0n z0L) (z0b z0L) .none kV0 dc0 pm0 an0 cd0 ct0),sl0⟩) (c__law_goes_round : PySem.W.codeIn K cd0 "_law_goes_round" = true) (k__law_goes_round : PySem.W.keepIn K (.ref f__law_goes_round)=true)
    (a__law_beaters : PySem.W.nsIn K mainGlobals "_law_beaters" = some (some (.ref f__law_beaters))) (l__law_beaters : K.lookup f__law_beaters=some ⟨oc2,od2,.func (PySem.W.fnOf "_law_beaters" "_law_beaters" (z0p z1b) (z0n z1b) (z0b z1b) .none kV2 dc2 pm2 an2 cd2 ct2),sl2⟩) (c__law_beaters : PySem.W.codeIn K cd2 "_law_beaters" = true) (k__law_beaters : PySem.W.keepIn K (.ref f__law_beaters)=true)
    (a__law_crowned : PySem.W.nsIn K mainGlobals "_law_crowned" = some (some (.ref f__law_crowned))) (l__law_crowned : K.lookup f__law_crowned=some ⟨oc4,od4,.func (PySem.W.fnOf "_law_crowned" "_law_crowned" (z0p z1e) (z0n z1e) (z0b z1e) .none kV4 dc4 pm4 an4 cd4 ct4),sl4⟩) (c__law_crowned : PySem.W.codeIn K cd4 "_law_crowned" = true) (k__law_crowned : PySem.W.keepIn K (.ref f__law_crowned)=true)
    (a__law_uncovered : PySem.W.nsIn K mainGlobals "_law_uncovered" = some (some (.ref f__law_uncovered))) (l__law_uncovered : K.lookup f__law_uncovered=some ⟨oc1,od1,.func (PySem.W.fnOf "_law_uncovered" "_law_uncovered" (z0p z0P) (z0n z0P) (z0b z0P) .none kV1 dc1 pm1 an1 cd1 ct1),sl1⟩) (c__law_uncovered : PySem.W.codeIn K cd1 "_law_uncovered" = true) (k__law_uncovered : PySem.W.keepIn K (.ref f__law_uncovered)=true)
    (a__law_rising : PySem.W.nsIn K mainGlobals "_law_rising" = some (some (.ref f__law_rising))) (l__law_rising : K.lookup f__law_rising=some ⟨oc7,od7,.func (PySem.W.fnOf "_law_rising" "_law_rising" (z0p z1p) (z0n z1p) (z0b z1p) .none kV7 dc7 pm7 an7 cd7 ct7),sl7⟩) (c__law_rising : PySem.W.codeIn K cd7 "_law_rising" = true) (k__law_rising : PySem.W.keepIn K (.ref f__law_rising)=true)
    (a_law : PySem.W.nsIn K mainGlobals "law" = some (some (.ref f_law))) (l_law : K.lookup f_law=some ⟨oc36,od36,.func (PySem.W.fnOf "law" "law" (z0p z7O) (z0n z7O) (z0b z7O) .none kV36 dc36 pm36 an36 cd36 ct36),sl36⟩) (c_law : PySem.W.codeIn K cd36 "law" = true) (k_law : PySem.W.keepIn K (.ref f_law)=true)
    (z_all : PySem.W.nsIn K mainGlobals "all" = some none) (z_enumerate : PySem.W.nsIn K mainGlobals "enumerate" = some none) (z_len : PySem.W.nsIn K mainGlobals "len" = some none) (z_range : PySem.W.nsIn K mainGlobals "range" = some none) (z_sorted : PySem.W.nsIn K mainGlobals "sorted" = some none) (z_min : PySem.W.nsIn K mainGlobals "min" = some none) (z_list : PySem.W.nsIn K mainGlobals "list" = some none) (z_reversed : PySem.W.nsIn K mainGlobals "reversed" = some none) (z_int : PySem.W.nsIn K mainGlobals "int" = some none) (z_isinstance : PySem.W.nsIn K mainGlobals "isinstance" = some none) (z_bool : PySem.W.nsIn K mainGlobals "bool" = some none) :
    ∃ fd : FuncData,(∀ (s : Shared) (v : Value),BindsTo s fd ⟨[v],[]⟩ [("script",v)])∧∀ base : Heap,K.In base->base.Ns mainGlobals mg->FnOk l.prog w K mg base CX0 19 fa fd ["script"] (y6I K y2m):=by
  have e:=hfa.symm.trans (PySem.W.mg_of X G a_law)
  cases e
  have T : Txt mg:=⟨PySem.W.mg_none_of X G z_all,PySem.W.mg_none_of X G z_enumerate,PySem.W.mg_none_of X G z_len,PySem.W.mg_none_of X G z_range,PySem.W.mg_none_of X G z_sorted,PySem.W.mg_none_of X G z_min,PySem.W.mg_none_of X G z_list,PySem.W.mg_none_of X G z_reversed,PySem.W.mg_none_of X G z_int,PySem.W.mg_none_of X G z_isinstance,PySem.W.mg_none_of X G z_bool⟩
  have F_beaten_by:=z0D (st:=z2g) l_beaten_by c_beaten_by k_beaten_by
  have b_beaten_by:=F_beaten_by.binds (ps:=z4R) fun _ _ _ _ _ _ us hl=>by obtain ⟨_,_,rfl⟩:=z5Y hl; rfl
  have F_beats_all:=z0D (st:=z2c) l_beats_all c_beats_all k_beats_all
  have b_beats_all:=F_beats_all.binds (ps:=z4G) fun _ _ _ _ _ _ us hl=>by obtain ⟨_,_,_,rfl⟩:=us_3 hl; rfl
  have F_places_true:=z0D (st:=z1r) l_places_true c_places_true k_places_true
  have b_places_true:=F_places_true.binds (ps:=z3J) fun _ _ _ _ _ _ us hl=>by obtain ⟨_,rfl⟩:=y7w hl; rfl
  have F_is_chain:=z0D (st:=z2J) l_is_chain c_is_chain k_is_chain
  have b_is_chain:=F_is_chain.binds (ps:=z5T) fun _ _ _ _ _ _ us hl=>by obtain ⟨_,_,rfl⟩:=z5Y hl; rfl
  have F_beaters:=z0D (st:=z3n) l_beaters c_beaters k_beaters
  have b_beaters:=F_beaters.binds (ps:=z6J) fun _ _ _ _ _ _ us hl=>by obtain ⟨_,_,rfl⟩:=z5Y hl; rfl
  have F_stands:=z0D (st:=z4t) l_stands c_stands k_stands
  have b_stands:=F_stands.binds (ps:=z8B) fun _ _ _ _ _ _ us hl=>by obtain ⟨_,_,rfl⟩:=z5Y hl; rfl
  have F_crown_paper:=z0D (st:=z1s) l_crown_paper c_crown_paper k_crown_paper
  have b_crown_paper:=F_crown_paper.binds (ps:=z3D) fun _ _ _ _ _ _ us hl=>by obtain ⟨_,_,rfl⟩:=z5Y hl; rfl
  have F_ended_chains:=z0D (st:=z0R) l_ended_chains c_ended_chains k_ended_chains
  have b_ended_chains:=F_ended_chains.binds (ps:=z2i) fun _ _ _ _ _ _ us hl=>by obtain ⟨_,_,_,rfl⟩:=us_3 hl; rfl
  have F_reached:=z0D (st:=z3k) l_reached c_reached k_reached
  have b_reached:=F_reached.binds (ps:=z6O) fun _ _ _ _ _ _ us hl=>by obtain ⟨_,_,rfl⟩:=z5Y hl; rfl
  have F_steps_from:=z0D (st:=z1G) l_steps_from c_steps_from k_steps_from
  have b_steps_from:=F_steps_from.binds (ps:=z3X) fun _ _ _ _ _ _ us hl=>by obtain ⟨_,_,rfl⟩:=z5Y hl; rfl
  have F_rings:=z0D (st:=z5L) l_rings c_rings k_rings
  have b_rings:=F_rings.binds (ps:=y0f) fun _ _ _ _ _ _ us hl=>by obtain ⟨_,rfl⟩:=y7w hl; rfl
  have F_places_with:=z0D (st:=z1q) l_places_with c_places_with k_places_with
  have b_places_with:=F_places_with.binds (ps:=z3G) fun _ _ _ _ _ _ us hl=>by obtain ⟨_,_,rfl⟩:=z5Y hl; rfl
  have F_top_ring:=z0D (st:=z2E) l_top_ring c_top_ring k_top_ring
  have b_top_ring:=F_top_ring.binds (ps:=z5A) fun _ _ _ _ _ _ us hl=>by obtain ⟨_,rfl⟩:=y7w hl; rfl
  have F_row_from:=z0D (st:=z2M) l_row_from c_row_from k_row_from
  have b_row_from:=F_row_from.binds (ps:=z5Q) fun _ _ _ _ _ _ us hl=>by obtain ⟨_,_,rfl⟩:=z5Y hl; rfl
  have F_begun_with:=z0D (st:=z1C) l_begun_with c_begun_with k_begun_with
  have b_begun_with:=F_begun_with.binds (ps:=z3Z) fun _ _ _ _ _ _ us hl=>by obtain ⟨_,_,rfl⟩:=z5Y hl; rfl
  have F_round_of:=z0D (st:=z2I) l_round_of c_round_of k_round_of
  have b_round_of:=F_round_of.binds (ps:=z5R) fun _ _ _ _ _ _ us hl=>by obtain ⟨_,_,rfl⟩:=z5Y hl; rfl
  have F_widened:=z0D (st:=z3s) l_widened c_widened k_widened
  have b_widened:=F_widened.binds (ps:=z6B) fun _ _ _ _ _ _ us hl=>by obtain ⟨_,_,_,rfl⟩:=us_3 hl; rfl
  have F_detour:=z0D (st:=z4n) l_detour c_detour k_detour
  have b_detour:=F_detour.binds (ps:=z7N) fun _ _ _ _ _ _ us hl=>by obtain ⟨_,_,_,_,rfl⟩:=us_4 hl; rfl
  have F_to_stand:=z0D (st:=z2L) l_to_stand c_to_stand k_to_stand
  have b_to_stand:=F_to_stand.binds (ps:=z5y) fun _ _ _ _ _ _ us hl=>by obtain ⟨_,_,rfl⟩:=z5Y hl; rfl
  have F_to_crown:=z0D (st:=z2H) l_to_crown c_to_crown k_to_crown
  have b_to_crown:=F_to_crown.binds (ps:=z5I) fun _ _ _ _ _ _ us hl=>by obtain ⟨_,_,rfl⟩:=z5Y hl; rfl
  have F_to_rest:=z0D (st:=z3p) l_to_rest c_to_rest k_to_rest
  have b_to_rest:=F_to_rest.binds (ps:=z6o) fun _ _ _ _ _ _ us hl=>by obtain ⟨_,_,rfl⟩:=z5Y hl; rfl
  have F_paper_for:=z0D (st:=z2f) l_paper_for c_paper_for k_paper_for
  have b_paper_for:=F_paper_for.binds (ps:=z4L) fun _ _ _ _ _ _ us hl=>by obtain ⟨_,_,_,rfl⟩:=us_3 hl; rfl
  have F_orders_to:=z0D (st:=z2e) l_orders_to c_orders_to k_orders_to
  have b_orders_to:=F_orders_to.binds (ps:=z4S) fun _ _ _ _ _ _ us hl=>by obtain ⟨_,_,rfl⟩:=z5Y hl; rfl
  have F_can_be_had:=z0D (st:=z1E) l_can_be_had c_can_be_had k_can_be_had
  have b_can_be_had:=F_can_be_had.binds (ps:=z4k) fun _ _ _ _ _ _ us hl=>by obtain ⟨_,_,rfl⟩:=z5Y hl; rfl
  have F__law_cell_at:=z0D (st:=z1c) l__law_cell_at c__law_cell_at k__law_cell_at
  have b__law_cell_at:=F__law_cell_at.binds (ps:=z3f) fun _ _ _ _ _ _ us hl=>by obtain ⟨_,_,rfl⟩:=z5Y hl; rfl
  have F__law_whole:=z0D (st:=z1A) l__law_whole c__law_whole k__law_whole
  have b__law_whole:=F__law_whole.binds (ps:=z4j) fun _ _ _ _ _ _ us hl=>by obtain ⟨_,rfl⟩:=y7w hl; rfl
  have F__law_table:=z0D (st:=z1I) l__law_table c__law_table k__law_table
  have b__law_table:=F__law_table.binds (ps:=z3Y) fun _ _ _ _ _ _ us hl=>by obtain ⟨_,_,rfl⟩:=z5Y hl; rfl
  have F__law_order:=z0D (st:=z1H) l__law_order c__law_order k__law_order
  have b__law_order:=F__law_order.binds (ps:=z4c) fun _ _ _ _ _ _ us hl=>by obtain ⟨_,_,rfl⟩:=z5Y hl; rfl
  have F__law_seven:=z0D (st:=z1F) l__law_seven c__law_seven k__law_seven
  have b__law_seven:=F__law_seven.binds (ps:=z4h) fun _ _ _ _ _ _ us hl=>by obtain ⟨_,_,rfl⟩:=z5Y hl; rfl
  have F__law_copy:=z0D (st:=z1Z) l__law_copy c__law_copy k__law_copy
  have b__law_copy:=F__law_copy.binds (ps:=z4V) fun _ _ _ _ _ _ us hl=>by obtain ⟨_,rfl⟩:=y7w hl; rfl
  have F__law_subsets:=z0D (st:=z1d) l__law_subsets c__law_subsets k__law_subsets
  have b__law_subsets:=F__law_subsets.binds (ps:=z3g) fun _ _ _ _ _ _ us hl=>by obtain ⟨_,rfl⟩:=y7w hl; rfl
  have F__law_goes_round:=z0D (st:=z0L) l__law_goes_round c__law_goes_round k__law_goes_round
  have b__law_goes_round:=F__law_goes_round.binds (ps:=z1X) fun _ _ _ _ _ _ us hl=>by obtain ⟨_,_,rfl⟩:=z5Y hl; rfl
  have F__law_beaters:=z0D (st:=z1b) l__law_beaters c__law_beaters k__law_beaters
  have b__law_beaters:=F__law_beaters.binds (ps:=z3d) fun _ _ _ _ _ _ us hl=>by obtain ⟨_,_,rfl⟩:=z5Y hl; rfl
  have F__law_crowned:=z0D (st:=z1e) l__law_crowned c__law_crowned k__law_crowned
  have b__law_crowned:=F__law_crowned.binds (ps:=z3a) fun _ _ _ _ _ _ us hl=>by obtain ⟨_,_,rfl⟩:=z5Y hl; rfl
  have F__law_uncovered:=z0D (st:=z0P) l__law_uncovered c__law_uncovered k__law_uncovered
  have b__law_uncovered:=F__law_uncovered.binds (ps:=z2v) fun _ _ _ _ _ _ us hl=>by obtain ⟨_,_,rfl⟩:=z5Y hl; rfl
  have F__law_rising:=z0D (st:=z1p) l__law_rising c__law_rising k__law_rising
  have b__law_rising:=F__law_rising.binds (ps:=z3K) fun _ _ _ _ _ _ us hl=>by obtain ⟨_,_,rfl⟩:=z5Y hl; rfl
  have F_law:=z0D (st:=z7O) l_law c_law k_law
  have b_law:=F_law.binds (ps:=P_law) fun _ _ _ _ _ _ us hl=>by obtain ⟨_,rfl⟩:=y7w hl; rfl
  refine ⟨PySem.W.fnOf "law" "law" (z0p z7O) (z0n z7O) (z0b z7O) .none kV36 dc36 pm36 an36 cd36 ct36,fun s v=>.of_eq rfl,fun base KB GB=>?_⟩
  have G_beats_all : DefOk l.prog w K mg base 1 "beats_all" (spN K z1h):=z8M F_beats_all (PySem.W.mg_of X G a_beats_all) b_beats_all T
  have G_places_true : DefOk l.prog w K mg base 1 "places_true" (spN K z1M):=z6Y F_places_true (PySem.W.mg_of X G a_places_true) b_places_true T
  have G_beaten_by : DefOk l.prog w K mg base 2 "beaten_by" (spN K z1m):=z9C F_beaten_by (PySem.W.mg_of X G a_beaten_by) b_beaten_by T G_places_true
  have G_is_chain : DefOk l.prog w K mg base 2 "is_chain" (spN K z3u):=y0e F_is_chain (PySem.W.mg_of X G a_is_chain) b_is_chain T G_beats_all
  have G_beaters : DefOk l.prog w K mg base 2 "beaters" (spN K z2q):=y1O F_beaters (PySem.W.mg_of X G a_beaters) b_beaters T G_beats_all
  have G_stands : DefOk l.prog w K mg base 3 "stands" (spN K z4r):=y4Y F_stands (PySem.W.mg_of X G a_stands) b_stands T G_is_chain G_beaters
  have G_ended_chains : DefOk l.prog w K mg base 13 "ended_chains" (spM2 K z1w):=z6F F_ended_chains (PySem.W.mg_of X G a_ended_chains) b_ended_chains T
  have G_crown_paper : DefOk l.prog w K mg base 14 "crown_paper" (spR K z1L):=z7j F_crown_paper (PySem.W.mg_of X G a_crown_paper) b_crown_paper T G_beaten_by G_beaters G_stands G_ended_chains
  have G_steps_from : DefOk l.prog w K mg base 3 "steps_from" (spN K z2s):=z7Q F_steps_from (PySem.W.mg_of X G a_steps_from) b_steps_from T G_beaten_by
  have G_reached : DefOk l.prog w K mg base 4 "reached" (spN K z3m):=y2w F_reached (PySem.W.mg_of X G a_reached) b_reached T G_steps_from
  have G_places_with : DefOk l.prog w K mg base 1 "places_with" (spN K z1n):=z7b F_places_with (PySem.W.mg_of X G a_places_with) b_places_with T
  have G_rings : DefOk l.prog w K mg base 5 "rings" (spN K z4Q):=y5t F_rings (PySem.W.mg_of X G a_rings) b_rings T G_reached G_places_with
  have G_top_ring : DefOk l.prog w K mg base 6 "top_ring" (spN K z2b):=z9R F_top_ring (PySem.W.mg_of X G a_top_ring) b_top_ring T G_rings
  have G_begun_with : DefOk l.prog w K mg base 1 "begun_with" (spN K z2p):=z8a F_begun_with (PySem.W.mg_of X G a_begun_with) b_begun_with T
  have G_detour : DefOk l.prog w K mg base 1 "detour" (spN K z4o):=y4k F_detour (PySem.W.mg_of X G a_detour) b_detour T
  have G_widened : DefOk l.prog w K mg base 2 "widened" (spR K z2T):=y1T F_widened (PySem.W.mg_of X G a_widened) b_widened T G_detour
  have G_round_of : DefOk l.prog w K mg base 3 "round_of" (spR K z1W):=y0a F_round_of (PySem.W.mg_of X G a_round_of) b_round_of T G_widened
  have G_row_from : DefOk l.prog w K mg base 6 "row_from" (spN K z1B):=y0j F_row_from (PySem.W.mg_of X G a_row_from) b_row_from T G_rings G_begun_with G_round_of
  have G_to_stand : DefOk l.prog w K mg base 7 "to_stand" (spR K z2G):=y0t F_to_stand (PySem.W.mg_of X G a_to_stand) b_to_stand T G_top_ring G_row_from
  have G_to_crown : DefOk l.prog w K mg base 15 "to_crown" (spR K z2K):=y0x F_to_crown (PySem.W.mg_of X G a_to_crown) b_to_crown T G_crown_paper
  have G_to_rest : DefOk l.prog w K mg base 7 "to_rest" (spR K z3q):=y1P F_to_rest (PySem.W.mg_of X G a_to_rest) b_to_rest T G_top_ring G_row_from
  have G_paper_for : DefOk l.prog w K mg base 16 "paper_for" (spR K z0Z):=z9f F_paper_for (PySem.W.mg_of X G a_paper_for) b_paper_for T G_to_stand G_to_crown G_to_rest
  have G_orders_to : DefOk l.prog w K mg base 17 "orders_to" (spR K z2S):=z8T F_orders_to (PySem.W.mg_of X G a_orders_to) b_orders_to T G_paper_for
  have G_can_be_had : DefOk l.prog w K mg base 18 "can_be_had" (spN K z0K):=z7M F_can_be_had (PySem.W.mg_of X G a_can_be_had) b_can_be_had T G_orders_to
  have G__law_cell_at : DefOk l.prog w K mg base 1 "_law_cell_at" (spN K z0o):=z6y F__law_cell_at (PySem.W.mg_of X G a__law_cell_at) b__law_cell_at T
  have G__law_whole : DefOk l.prog w K mg base 1 "_law_whole" (spN K z2o):=z8D F__law_whole (PySem.W.mg_of X G a__law_whole) b__law_whole T
  have G__law_table : DefOk l.prog w K mg base 2 "_law_table" (spN K z2l):=z8C F__law_table (PySem.W.mg_of X G a__law_table) b__law_table T G__law_cell_at
  have G__law_order : DefOk l.prog w K mg base 1 "_law_order" (spN K z2k):=z8y F__law_order (PySem.W.mg_of X G a__law_order) b__law_order T
  have G__law_seven : DefOk l.prog w K mg base 1 "_law_seven" (spN K z2n):=z8p F__law_seven (PySem.W.mg_of X G a__law_seven) b__law_seven T
  have G__law_copy : DefOk l.prog w K mg base 1 "_law_copy" (spN K z2R):=z9G F__law_copy (PySem.W.mg_of X G a__law_copy) b__law_copy T
  have G__law_subsets : DefOk l.prog w K mg base 1 "_law_subsets" (spR K z1u):=z6A F__law_subsets (PySem.W.mg_of X G a__law_subsets) b__law_subsets T
  have G__law_goes_round : DefOk l.prog w K mg base 1 "_law_goes_round" (spN K z0T):=z5o F__law_goes_round (PySem.W.mg_of X G a__law_goes_round) b__law_goes_round T
  have G__law_beaters : DefOk l.prog w K mg base 1 "_law_beaters" (spN K z1v):=z6x F__law_beaters (PySem.W.mg_of X G a__law_beaters) b__law_beaters T
  have G__law_crowned : DefOk l.prog w K mg base 2 "_law_crowned" (spN K z1a):=z6H F__law_crowned (PySem.W.mg_of X G a__law_crowned) b__law_crowned T G__law_subsets G__law_goes_round G__law_beaters
  have G__law_uncovered : DefOk l.prog w K mg base 1 "_law_uncovered" (spN K z0Q):=z5B F__law_uncovered (PySem.W.mg_of X G a__law_uncovered) b__law_uncovered T
  have G__law_rising : DefOk l.prog w K mg base 2 "_law_rising" (spN K z0Y):=z7k F__law_rising (PySem.W.mg_of X G a__law_rising) b__law_rising T G__law_whole
  exact law_of (ok_law F_law T G_can_be_had G__law_cell_at G__law_table G__law_order G__law_seven G__law_copy G__law_crowned G__law_uncovered G__law_rising)
theorem walk {l : PySem.W.OpenLaw} {q : Program} {loose : List Str} {XP : (Str->Option Value)->Heap->Prop} {YP : World->Heap->Prop} {d : DefRec} {K : Params->PySem.W.Frag} (hn : l.most=some 63) (hdf : d.params.defaults=[])
    (hlaw : ∀ ns : List Int,ns.length≤63->y2m [.scr ns]=some (.bl true)) (hY : ∀ (w : World) (h : Heap),YP w h->(K w.params).In h)
    (F : ∀ (w : World) (mg : Str->Option Value) (fa : Addr) (h : Heap),(K w.params).In h->h.Ns mainGlobals mg->mg d.name=some (.ref fa) →
      ∃ fd : FuncData,(∀ (s : Shared) (u : Value),BindsTo s fd ⟨[u],[]⟩ [("script",u)])∧∀ base : Heap,(K w.params).In base->base.Ns mainGlobals mg->FnOk l.prog w (K w.params) mg base CX0 19 fa fd ["script"] (y6I (K w.params) y2m)) :
    PySem.W.WalkO q loose XP YP l.row.toRowW d [] (fun f vs=>PySem.call f vs):=
  L2.walk_of (n:=63) (k:=19) (x := "script") (CX:=fun _=>CX0) (sp:=fun w=>y6I (K w.params) y2m) hn (by decide) hdf ⟨rfl,by decide,by decide⟩ hY F (fun _ _ a ns hl hO hS=>⟨a,ns,rfl,y6a hO hS,hlaw ns hl,fun _=>rfl⟩) fun _ _ _ _ _ z=>z
end Prg
namespace Prg
open PySem L2
open Lean in
local macro_rules
  | `(tactic| simp! only [$xs,*] $[$loc]?)=>do
    let a ← (("ev_var0 ev_varS ev_C ev_d2 ev_d1 ev_test y6k ev_andT ev_orT ev_notT ev_and ev_if y6S y5C ev_call y5V ev_mkL ev_mkT y3Q ev_is ev_seq ev_rng1 ev_rng2 ev_comp ev_part y3l ev_cut ev_seqO ev_skip ev_asgS ev_asgI ev_asgN ev_retI ev_retN ev_retS ev_retO ev_ifO ev_forO ev_frz ev_st0 ev_st1 ev_m0 ev_m1 y7a ev_enum ev_din' ev_dnin ev_dput ev_cat y5w ev_notN ev_mov y6Y ev_forC y6s y6c ev_rngN ev_rep y3Z eo_cM2 ev_ret1 eo_r1 y5s ev_st0N eo_2 eo_and eo_andT y5O eo_orT eo_itet eo_itef eo_cons eo_nx eo_rt eo_set eo_rtO eo_for eo_immI eo_immB eo_part eo_put eo_in eo_mov eo_ckf eo_for2 ea_mkD1 ea_ixLL ea_add ea_sub ea_lt ea_gt ea_ge ea_eqI ea_neI ea_neg ea_not ea_truB ea_seqL ea_lenL ea_lenR ea_ixL ea_ixR ea_isBI ea_isII ea_asB ea_intB y4I es_own0 es_ownS es_all0 es_allS es_sh0 es_shS es_v1 es_v2 es_shO y6v y6w y2L y3n y6X es_ow0 es_owS es_frz0 es_frzS eb_bs eb_ms eb_mn eb_s0 eb_sS eb_mc eb_mnil eb_rS eb_r0 eb_ca eb_na".splitOn " ").toArray).mapM fun s=>`(Lean.Parser.Tactic.simpLemma| $(mkIdent s.toName):term)
    let b : Syntax.TSepArray [`Lean.Parser.Tactic.simpStar,`Lean.Parser.Tactic.simpErase,`Lean.Parser.Tactic.simpLemma] "," := ⟨(Syntax.TSepArray.ofElems (sep := ",") a).elemsAndSeps⟩
    `(tactic| simp only [$b,*,$xs,*] $[$loc]?)
open Lean in
local macro_rules
  | `(tactic| simp_all! only [$xs,*])=>do
    let a ← (("Int.reduceEq Int.reduceLT Int.reduceLE Int.reduceGT Int.reduceAdd Int.reduceSub Int.reduceMul Int.reduceNeg decide_true decide_false Bool.or_false Bool.false_or Bool.or_true Bool.true_or Bool.and_true Bool.true_and Bool.and_false Bool.false_and Bool.not_true Bool.not_false".splitOn " ").toArray).mapM fun s=>`(Lean.Parser.Tactic.simpLemma| $(mkIdent s.toName):term)
    let b : Syntax.TSepArray [`Lean.Parser.Tactic.simpStar,`Lean.Parser.Tactic.simpErase,`Lean.Parser.Tactic.simpLemma] "," := ⟨(Syntax.TSepArray.ofElems (sep := ",") a).elemsAndSeps⟩
    `(tactic| simp! only [$b,*,$xs,*])
theorem z8d (ns : List Int) (k : Nat) : ∃ c : Int,z0o [.scr ns,.int (k : Int)]=some (.int c):=by
  by_cases h : k < ns.length
  · refine ⟨ns[k],z0E rfl ?_⟩
    have h' : decide ((k : Int) < (ns.length : Int))=true:=by simp; omega
    simp! only [z2h,h',y0Y h,z0e]
  · refine ⟨0,z0E rfl ?_⟩
    have h' : decide ((k : Int) < (ns.length : Int))=false:=by simp; omega
    simp! only [z2h,h',z0e]
structure Full (m : Nat) (T : List (List Bool)) : Prop where
  sq : Sq m T
  own : ∀ i < m,at2 T i i=false
  two : ∀ i < m,∀ j < m,i≠j->at2 T i j = !at2 T j i
theorem y4b (c : Int) (m : Nat) (hm : m≤1000) : hol (z2k [.int c,.int (m : Int)]) fun d=>∃ o : List Nat,d=thD o∧o.Perm (List.range m):=by
  refine z4e rfl ?_
  simp! only [z4i,z0H (show m≤1000000 by omega),z4u,y3F]
  refine z0F (I:=fun s=>∃ (o : List Nat) (c' : Int) (o3 : Option SD),s=[some (.sh (.int c')),some (.sh (.int (m : Int))),some (.ow (thD o)),o3]∧o.Perm (List.range m)) ?_ ?_
  · refine z3S (fun n s=>∃ (o : List Nat) (c' : Int) (o3 : Option SD),s=[some (.sh (.int c')),some (.sh (.int (m : Int))),some (.ow (thD o)),o3]∧o.Perm (List.range n)) ⟨[],c,none,rfl,.nil⟩ ?_ fun s z=>⟨s,rfl,z⟩
    rintro n hn s ⟨o,c',o3,rfl,hp⟩
    have hlen : o.length=n:=by have:=hp.length_eq; simpa using this
    obtain ⟨j,ej,hj⟩:=z4F (x:=c') (n:=n + 1) (by omega)
    have ej : c' % ((n : Int) + 1)=(j : Int):=ej
    have m1 : z4y (.int c') (.int ((n : Int) + 1))=some (.int (j : Int)):=by rw [z2U (show (0 : Int) < (n : Int) + 1 by omega),ej]
    have v1 : z9Q (.int c') (.int ((n : Int) + 1))=some (.int (c' / ((n : Int) + 1))):=z6M (show CDiv _ _ from ⟨by omega,by omega⟩)
    have im : z8v (some [.int (j : Int),.int (n : Int)])=some [.int (j : Int),.int (n : Int)]:=z4s rfl
    have iv:=ins_thV (o:=o) (b:=j) (v:=n) (by omega) (by omega)
    simp! only [Int.zero_add,m1,v1,im,iv,z0e]
    refine ⟨_,_,_,rfl,?_⟩
    have p1 : (o.take j ++ n :: o.drop j).Perm (n :: o):=by
      refine List.perm_middle.trans ?_
      rw [List.take_append_drop]
    refine p1.trans ?_
    rw [List.range_succ]
    exact (hp.cons _).trans (List.perm_append_singleton _ _).symm
  · rintro s ⟨o,c',o3,rfl,hp⟩
    simp! only [z0e]
    exact ⟨_,rfl,o,rfl,hp⟩
theorem y2G {o : List Int} {k : Nat} {x : Int} (h : k < o.length) : st0V (some (.lst (o.map .int))) (some (.int (k : Int))) (some (.int x))=some (.lst ((o.set k x).map .int)):=by
  show (ixN (o.map D.int).length (k : Int)).map (fun j=>D.lst ((o.map D.int).set j (.int x)))=_
  rw [y3x (by simpa using h),Option.map_some,← List.map_set]
noncomputable def prD (z : Nat × Nat) : D:=.tup [.int (z.1 : Int),.int (z.2 : Int)]
noncomputable def prs (m : Nat) : List (Nat × Nat):=(List.range m).flatMap fun i=>(List.range i).map fun j=>(i,j)
theorem y1E {n : Nat} : prs (n + 1)=prs n ++ (List.range n).map fun j=>(n,j):=by
  unfold prs
  rw [List.range_succ,List.flatMap_append]
  simp
theorem prs_mem {m : Nat} {z : Nat × Nat} : z∈prs m↔z.1 < m∧z.2 < z.1:=by
  unfold prs
  rw [List.mem_flatMap]
  constructor
  · rintro ⟨i,hi,h⟩
    obtain ⟨j,hj,rfl⟩:=List.mem_map.mp h
    exact ⟨List.mem_range.mp hi,List.mem_range.mp hj⟩
  · rintro ⟨h1,h2⟩
    exact ⟨z.1,List.mem_range.mpr h1,List.mem_map.mpr ⟨z.2,List.mem_range.mpr h2,rfl⟩⟩
theorem y5a {m : Nat} : (prs m).length≤m * m:=by
  induction m with
  | zero=>exact Nat.le_refl 0
  | succ n ih=>
    rw [y1E,List.length_append,List.length_map,List.length_range]
    have : (n + 1) * (n + 1)=n * n + 2 * n + 1:=by rw [Nat.add_mul,Nat.mul_add]; omega
    omega
theorem z8U {ps : List (Nat × Nat)} {z : Nat × Nat} (hl : ps.length≤100000) : m0V z7y (some (.lst (ps.map prD))) (some [prD z])=some (.lst ((ps ++ [z]).map prD)):=by
  show (if (ps.map prD).length < sizeLine then some (ps.map prD ++ [prD z]) else none).map D.lst=_
  rw [List.length_map,if_pos (by rw [PySem.sizeLine_eq]; omega),List.map_append]
  rfl
theorem z9k {m i j : Nat} : at2 (List.replicate m (List.replicate m false)) i j=false:=by
  unfold at2
  simp only [List.getD,List.getElem?_replicate]
  by_cases h : i < m
  · simp only [h,if_true,Option.getD_some,List.getElem?_replicate]
    by_cases h2 : j < m <;> simp [h2]
  · simp [h]
theorem z7J {T : List (List Bool)} {i j a b : Nat} {v : Bool} (hi : i < T.length) (hj : j < T[i].length) : at2 (T.set i (T[i].set j v)) a b=if a=i∧b=j then v else at2 T a b:=by
  unfold at2
  by_cases h : a=i
  · subst h
    simp only [List.getD,List.getElem?_set_self hi,Option.getD_some,List.getElem?_eq_getElem hi]
    by_cases h2 : b=j
    · subst h2
      simp [hj]
    · simp [h2,List.getElem?_set_ne (Ne.symm h2)]
  · simp only [List.getD,List.getElem?_set_ne (Ne.symm h)]
    simp [h]
structure Prt (m : Nat) (T : List (List Bool)) (ps : List (Nat × Nat)) : Prop where
  sq : Sq m T
  own : ∀ i < m,at2 T i i=false
  two : ∀ z∈ps,z.2 < z.1->at2 T z.1 z.2 = !at2 T z.2 z.1
theorem Prt.next {m : Nat} {T : List (List Bool)} {ps : List (Nat × Nat)} (P : Prt m T ps) {z : Nat × Nat} (h1 : z.1 < m) (h2 : z.2 < z.1) {b : Int} (hb : b=0∨b=1) (ha : z.1 < T.length) (hc : z.2 < (T.set z.1 (T[z.1].set z.2 (decide (b=1)))).length) :
    Prt m ((T.set z.1 (T[z.1].set z.2 (decide (b=1)))).set z.2 ((T.set z.1 (T[z.1].set z.2 (decide (b=1))))[z.2].set z.1 (decide (b=0)))) (ps ++ [z]):=by
  have k2 : z.2 < T[z.1].length:=by rw [P.sq.row ha]; omega
  have sq1 : Sq m (T.set z.1 (T[z.1].set z.2 (decide (b=1)))):=P.sq.set ha
  have k4 : z.1 < (T.set z.1 (T[z.1].set z.2 (decide (b=1))))[z.2].length:=by rw [sq1.row hc]; exact h1
  have e : ∀ x y,at2 ((T.set z.1 (T[z.1].set z.2 (decide (b=1)))).set z.2 ((T.set z.1 (T[z.1].set z.2 (decide (b=1))))[z.2].set z.1 (decide (b=0)))) x y=if x=z.2∧y=z.1 then decide (b=0) else if x=z.1∧y=z.2 then decide (b=1) else at2 T x y:=fun x y=>by
    rw [z7J hc k4,z7J ha k2]
  refine ⟨sq1.set hc,fun i hi=>?_,fun w hw h=>?_⟩
  · rw [e,if_neg (by omega),if_neg (by omega)]
    exact P.own i hi
  · rw [e,e]
    by_cases q : w.1=z.1∧w.2=z.2
    · rw [if_neg (by omega),if_pos q,if_pos ⟨q.2,q.1⟩]
      rcases hb with rfl | rfl <;> rfl
    · rw [if_neg (by omega),if_neg q,if_neg (by omega),if_neg (by omega)]
      rcases List.mem_append.mp hw with z1 | z1
      · exact P.two w z1 h
      · rw [List.mem_singleton] at z1
        exact absurd ⟨congrArg Prod.fst z1,congrArg Prod.snd z1⟩ q
theorem Prt.full {m : Nat} {T : List (List Bool)} (P : Prt m T (prs m)) : Full m T:=⟨P.sq,P.own,fun i hi j hj hij=>by
  by_cases h : j < i
  · exact P.two (i,j) (prs_mem.mpr ⟨hi,h⟩) h
  · rw [P.two (j,i) (prs_mem.mpr ⟨hj,by omega⟩) (by show i < j; omega),Bool.not_not]⟩
theorem tab0 {m : Nat} (hm : m≤1000) {ns : List Int} {a2 a3 a4 a5 a6 a7 a8 a9 : Option D} : z1J (some (z5a 0 m)) (z2x z6h (z0u (y6j (mkL (z0k [dC (.bl false)])) (z0d 1))) [some (.scr ns),some (.int (m : Int)),a2,a3,a4,a5,a6,a7,a8,a9])=some ((List.replicate m (List.replicate m false)).map z3o):=by
  rw [z2t,z5W (fun _=>z3o (List.replicate m false)) (by simp; omega) fun x hx=>?_]
  · congr 1
    apply List.ext_getElem <;> simp
  · have e : (List.replicate m (D.bl false))=(List.replicate m false).map bD:=by rw [List.map_replicate]; rfl
    simp! only [y0r (show m≤1000000 by omega),e,z4M (z2d _)]
    rfl
noncomputable def ib (b : List Int) : Prop:=∀ x∈b,x=0∨x=1
theorem y7H {b : List Int} {k : Nat} {x : Int} (h : ib b) (hx : x=0∨x=1) : ib (b.set k x):=fun y hy=>by
  rcases List.mem_or_eq_of_mem_set hy with z | z
  · exact h y z
  · rw [z]; exact hx
theorem pr_0 {z : Nat × Nat} : ixD (prD z) (.int 0)=some (.int (z.1 : Int)):=(rfl)
theorem pr_1 {z : Nat × Nat} : ixD (prD z) (.int 1)=some (.int (z.2 : Int)):=(rfl)
theorem y1d {ps : List (Nat × Nat)} : ((ps.map prD).length : Int)=(ps.length : Int):=by rw [List.length_map]
theorem y6e (ns : List Int) (hns : ns.length≤63) (m : Nat) (hm : m≤8) : hol (z2l [.scr ns,.int (m : Int)]) fun d=>∃ T,d=z0y T∧Full m T:=by
  refine z4e rfl ?_
  obtain ⟨c1,e1⟩:=z8d ns 1
  have e1 : z0o [.scr ns,.int 1]=some (.int c1):=e1
  have ms : z4y (.int c1) (.int 1000003)=some (.int (c1 % 1000003)):=z2U (by omega)
  obtain ⟨sd,hsd⟩ : ∃ sd,sd=c1 % 1000003:=⟨_,rfl⟩
  have hsd2 : 0≤sd∧sd < 1000003:=by rw [hsd]; exact ⟨Int.emod_nonneg _ (by omega),Int.emod_lt_of_pos _ (by omega)⟩
  rw [← hsd] at ms
  have m3 : z4y (.int sd) (.int 3)=some (.int (sd % 3)):=z2U (by omega)
  have tl : D.lst ((List.replicate m (List.replicate m false)).map z3o)=z0y (List.replicate m (List.replicate m false)):=rfl
  have hL : (prs m).length≤64:=Nat.le_trans y5a (Nat.mul_le_mul hm hm)
  simp! only [z3V,e1,ms,z0H (show m≤1000000 by omega),tab0 (show m≤1000 by omega),tl,z4u]
  refine z0F (I:=fun s=>∃ o5 o6,s=[some (.sh (.scr ns)),some (.sh (.int (m : Int))),some (.sh (.int sd)),some (.ow (z0y (List.replicate m (List.replicate m false)))),some (.ow (.lst ((prs m).map prD))),o5,o6,none,none,none]) ?_ ?_
  · refine z3S (fun n s=>∃ o5 o6,s=[some (.sh (.scr ns)),some (.sh (.int (m : Int))),some (.sh (.int sd)),some (.ow (z0y (List.replicate m (List.replicate m false)))),some (.ow (.lst ((prs n).map prD))),o5,o6,none,none,none]) ⟨_,_,rfl⟩ ?_ fun s z=>⟨s,rfl,z⟩
    rintro n hn s ⟨o5,o6,rfl⟩
    have hnl : (prs n).length≤64:=Nat.le_trans y5a (Nat.mul_le_mul (show n≤8 by omega) (show n≤8 by omega))
    simp! only [Int.zero_add,z0H (show n≤1000000 by omega)]
    refine z3S (fun j s=>∃ o6,s=[some (.sh (.scr ns)),some (.sh (.int (m : Int))),some (.sh (.int sd)),some (.ow (z0y (List.replicate m (List.replicate m false)))),some (.ow (.lst ((prs n ++ (List.range j).map fun j=>(n,j)).map prD))),some (.sh (.int (n : Int))),o6,none,none,none]) ⟨o6,by simp⟩ ?_ ?_
    · rintro j hj s ⟨o6,rfl⟩
      have im : z8v (some [.tup [.int (n : Int),.int (j : Int)]])=some [prD (n,j)]:=z4s rfl
      have ap:=z8U (ps:=prs n ++ (List.range j).map fun j=>(n,j)) (z:=(n,j)) (by simp; omega)
      simp! only [Int.zero_add,im,ap,z0e]
      refine ⟨some (.sh (.int (j : Int))),?_⟩
      have e : (prs n ++ (List.range j).map fun j=>(n,j)) ++ [(n,j)]=prs n ++ (List.range (j + 1)).map fun j=>(n,j):=by rw [List.range_succ,List.map_append,← List.append_assoc]; rfl
      rw [e]
    · rintro s ⟨o6,rfl⟩
      rw [← y1E]
      exact ⟨_,_,rfl⟩
  · rintro s ⟨o5,o6,rfl⟩
    obtain ⟨ps,hps⟩ : ∃ ps,ps=prs m:=⟨_,rfl⟩
    rw [← hps] at hL ⊢
    have rp : (List.replicate ps.length (D.int 0))=(List.replicate ps.length (0 : Int)).map .int:=by rw [List.map_replicate]
    have fl : z4z (some ((List.replicate ps.length (0 : Int)).map D.int))=some ((List.replicate ps.length (0 : Int)).map .int):=z4M (y1q _)
    simp! only [y1d,y0r (show ps.length≤1000000 by omega),rp,fl,z0H (show ps.length≤1000000 by omega)]
    refine z0F (I:=fun s=>∃ b o5 o6 o8,s=[some (.sh (.scr ns)),some (.sh (.int (m : Int))),some (.sh (.int sd)),some (.ow (z0y (List.replicate m (List.replicate m false)))),some (.sh (.lst (ps.map prD))),o5,o6,some (.ow (.lst (b.map .int))),o8,none]∧b.length=ps.length∧ib b) ?_ ?_
    · refine z3S (fun n s=>∃ b o5 o6 o8,s=[some (.sh (.scr ns)),some (.sh (.int (m : Int))),some (.sh (.int sd)),some (.ow (z0y (List.replicate m (List.replicate m false)))),some (.sh (.lst (ps.map prD))),o5,o6,some (.ow (.lst (b.map .int))),o8,none]∧b.length=ps.length∧ib b) ⟨List.replicate ps.length 0,_,_,_,rfl,by simp,fun x hx=>.inl (List.eq_of_mem_replicate hx)⟩ ?_ fun s z=>⟨s,rfl,z⟩
      rintro n hn s ⟨b,o5,o6,o8,rfl,hb,hi⟩
      by_cases h3 : sd % 3 > 0
      · have d3 : decide (sd % 3 > 0)=true:=decide_eq_true h3
        have u1 : y7E (.int 7919) (.int (n : Int))=some (.int (7919 * (n : Int))):=y5j (.inl ⟨by omega,by omega⟩)
        have u2 : y7E (.int (7919 * (n : Int))) (.int (n : Int))=some (.int (7919 * (n : Int) * (n : Int))):=y5j (.inr ⟨by omega,by omega⟩)
        obtain ⟨w,hw⟩ : ∃ w : Int,w=48271 + 7919 * (n : Int) * (n : Int):=⟨_,rfl⟩
        have u3 : y7E (.int sd) (.int w)=some (.int (sd * w)):=y5j (.inl ⟨by omega,by omega⟩)
        have u4 : z4y (.int (sd * w)) (.int 2147483647)=some (.int (sd * w % 2147483647)):=z2U (by omega)
        have u5 : z9Q (.int (sd * w % 2147483647)) (.int 1024)=some (.int (sd * w % 2147483647 / 1024)):=z6M ⟨by omega,by omega⟩
        have u6 : z4y (.int (sd * w % 2147483647 / 1024)) (.int 2)=some (.int (sd * w % 2147483647 / 1024 % 2)):=z2U (by omega)
        simp! only [Int.zero_add,m3,d3,u1,u2,← hw,u3,u4,u5,u6,y2G (show n < b.length by omega),z0e]
        exact ⟨_,_,_,_,rfl,by simp [hb],y7H hi (Int.emod_two_eq _)⟩
      · have d3 : decide (sd % 3 > 0)=false:=decide_eq_false h3
        simp! only [m3,d3,z0e]
        exact ⟨_,_,_,_,rfl,hb,hi⟩
    · rintro s ⟨b,o5,o6,o8,rfl,hb,hi⟩
      have r3 : rng2 (some (.int 3)) (some (.int (ns.length : Int)))=some (z5a 3 ((ns.length : Int) - 3).toNat):=eo_rng2 ⟨by omega,by omega,by omega,by omega⟩
      simp! only [r3]
      refine z0F (I:=fun s=>∃ b o5 o6 o8 o9,s=[some (.sh (.scr ns)),some (.sh (.int (m : Int))),some (.sh (.int sd)),some (.ow (z0y (List.replicate m (List.replicate m false)))),some (.sh (.lst (ps.map prD))),o5,o6,some (.ow (.lst (b.map .int))),o8,o9]∧b.length=ps.length∧ib b) ?_ ?_
      · refine z3S (fun n s=>∃ b o5 o6 o8 o9,s=[some (.sh (.scr ns)),some (.sh (.int (m : Int))),some (.sh (.int sd)),some (.ow (z0y (List.replicate m (List.replicate m false)))),some (.sh (.lst (ps.map prD))),o5,o6,some (.ow (.lst (b.map .int))),o8,o9]∧b.length=ps.length∧ib b) ⟨_,_,_,_,_,rfl,hb,hi⟩ ?_ fun s z=>⟨s,rfl,z⟩
        rintro n hn s ⟨b,o5,o6,o8,o9,rfl,hb,hi⟩
        by_cases h0 : 0 < ps.length
        · have d0 : decide ((ps.length : Int) > 0)=true:=decide_eq_true (by omega)
          obtain ⟨j,ej,hj⟩:=z4F (x:=3 + (n : Int)) (n:=ps.length) h0
          have mj : z4y (.int (3 + (n : Int))) (.int (ps.length : Int))=some (.int (j : Int)):=by rw [z2U (by omega),ej]
          have hk : 3 + n < ns.length:=by omega
          have sx : (atI ns (3 + (n : Int))).map D.int=some (.int ns[3 + n]):=by
            have e : (3 + (n : Int))=((3 + n : Nat) : Int):=by omega
            rw [e,z1N (List.getElem?_eq_getElem hk)]
            rfl
          have ab : atI (b.map D.int) (j : Int)=some (.int (b[j]'(by omega))):=z1N (by rw [List.getElem?_eq_getElem (by simp; omega),List.getElem_map])
          obtain ⟨w,hw⟩ : ∃ w : Int,w=b[j]'(by omega) + ns[3 + n]:=⟨_,rfl⟩
          have m2 : z4y (.int w) (.int 2)=some (.int (w % 2)):=z2U (by omega)
          simp! only [y1d,d0,mj,sx,ab,← hw,m2,y2G (show j < b.length by omega),z0e]
          exact ⟨_,_,_,_,_,rfl,by simp [hb],y7H hi (Int.emod_two_eq _)⟩
        · have d0 : decide ((ps.length : Int) > 0)=false:=decide_eq_false (by omega)
          simp! only [y1d,d0,z0e]
          exact ⟨_,_,_,_,_,rfl,hb,hi⟩
      · rintro s ⟨b,o5,o6,o8,o9,rfl,hb,hi⟩
        simp! only [y1d,z0H (show ps.length≤1000000 by omega)]
        refine z0F (I:=fun s=>∃ T o5 o6 o8 o9,s=[some (.sh (.scr ns)),some (.sh (.int (m : Int))),some (.sh (.int sd)),some (.ow (z0y T)),some (.sh (.lst (ps.map prD))),o5,o6,some (.ow (.lst (b.map .int))),o8,o9]∧Prt m T ps) ?_ ?_
        · refine z3S (fun n s=>∃ T o5 o6 o8 o9,s=[some (.sh (.scr ns)),some (.sh (.int (m : Int))),some (.sh (.int sd)),some (.ow (z0y T)),some (.sh (.lst (ps.map prD))),o5,o6,some (.ow (.lst (b.map .int))),o8,o9]∧Prt m T (ps.take n)) ⟨List.replicate m (List.replicate m false),_,_,_,_,rfl,⟨⟨by simp,by simp⟩,fun _ _=>z9k,fun z hz=>by simp at hz⟩⟩ ?_ ?_
          · rintro n hn s ⟨T,o5,o6,o8,o9,rfl,P⟩
            have hz : ps[n].1 < m∧ps[n].2 < ps[n].1:=by
              have : ps[n]∈prs m:=by rw [← hps]; exact List.getElem_mem _
              exact prs_mem.mp this
            have hbn : b[n]'(by omega)=0∨b[n]'(by omega)=1:=hi _ (List.getElem_mem _)
            have h1 : ps[n].1 < T.length:=by rw [P.sq.1]; exact hz.1
            have h2 : ps[n].2 < T[ps[n].1].length:=by rw [P.sq.row h1]; omega
            have e1:=z6f (v:=decide (b[n]'(by omega)=1)) h1 h2
            have sq1 : Sq m (T.set ps[n].1 (T[ps[n].1].set ps[n].2 (decide (b[n]'(by omega)=1)))):=P.sq.set h1
            have h3 : ps[n].2 < (T.set ps[n].1 (T[ps[n].1].set ps[n].2 (decide (b[n]'(by omega)=1)))).length:=by rw [sq1.1]; omega
            have h4 : ps[n].1 < (T.set ps[n].1 (T[ps[n].1].set ps[n].2 (decide (b[n]'(by omega)=1))))[ps[n].2].length:=by rw [sq1.row h3]; exact hz.1
            have e2:=z6f (v:=decide (b[n]'(by omega)=0)) h3 h4
            have ip:=z1N (xs:=ps.map prD) (j:=n) (by rw [List.getElem?_eq_getElem (by simpa using hn),List.getElem_map])
            have ab : atI (b.map D.int) (n : Int)=some (.int (b[n]'(by omega))):=z1N (by rw [List.getElem?_eq_getElem (by simp; omega),List.getElem_map])
            have nx:=P.next hz.1 hz.2 hbn h1 h3
            have et : ps.take n ++ [ps[n]]=ps.take (n + 1):=by rw [List.take_add_one,List.getElem?_eq_getElem hn]; rfl
            rw [et] at nx
            simp! only [Int.zero_add,ip,pr_0,pr_1,ab,e1,e2,z0e]
            exact ⟨_,_,_,_,_,rfl,nx⟩
          · rintro s ⟨T,o5,o6,o8,o9,rfl,P⟩
            rw [List.take_of_length_le (Nat.le_refl _)] at P
            exact ⟨_,rfl,_,_,_,_,_,rfl,P⟩
        · rintro s ⟨T,o5,o6,o8,o9,rfl,P⟩
          rw [hps] at P
          simp! only [z0e]
          exact ⟨_,rfl,T,rfl,P.full⟩
theorem z8P {r0 : List Bool} : ∀ (r : List Bool) (k : Nat),z2u (two (z4f (z0v (z0d 2)) (z0d 1) [some (z3o r0)])) (z0t k (r.map bD))=some ((z4C k r).map nD)
  | [],_=>rfl
  | b :: r,k=>by
    have ih:=z8P (r0:=r0) r (k + 1)
    rw [List.map_cons]
    show z2u _ (.tup [.int (k : Nat),bD b] :: z0t (k + 1) (r.map bD))=_
    unfold z2u
    rw [ih]
    have e : two (z4f (z0v (z0d 2)) (z0d 1) [some (z3o r0)]) (.tup [.int (k : Nat),bD b])=some (if b=true then some (nD k) else none):=by
      show z4f _ _ _ _ _=_
      unfold z4f
      have e1 : z0v (z0d 2) ([some (z3o r0)] ++ [some (.int (k : Nat)),some (bD b)])=some b:=rfl
      rw [e1]
      cases b <;> rfl
    have t : z4C k (b :: r)=if b=true then k :: z4C (k + 1) r else z4C (k + 1) r:=rfl
    rw [e,t]
    cases b <;> rfl
theorem y4S (r : List Bool) (hl : r.length≤1000) : z1M [z3o r]=some (thD ((List.range r.length).filter fun i=>r.getD i false)):=by
  refine z0E rfl ?_
  have e : z4C 0 r=(List.range r.length).filter fun i=>r.getD i false:=by
    rw [y3f,List.range_eq_range']
    rfl
  have h0 : z9H (z3o r)=some (z0t 0 (r.map bD)):=rfl
  have hl' : (z0t 0 (r.map bD)).length≤1000000:=by rw [z6P,List.length_map]; omega
  have fl:=z4M (z6W (z4C 0 r))
  simp! only [z3I,h0,z5O hl',z8P,fl,z0e]
  rw [e]
  rfl
theorem z9a {n : Nat} {T : List (List Bool)} (sq : Sq n T) (hn : n≤1000) {k : Nat} (hk : k < n) : z1m [z0y T,.int (k : Int)]=some (thD ((List.range n).filter fun j=>at2 T k j)):=by
  refine z0E rfl ?_
  have hk' : k < T.length:=by rw [sq.1]; exact hk
  have p:=y4S (T.getD k []) (by rw [sq.len hk]; omega)
  rw [sq.len hk] at p
  simp! only [z4X,y2Q hk',p,z0e]
  rfl
theorem z6G {m : Nat} {T : List (List Bool)} (sq : Sq m T) {a : Nat} (ha : a < m) {th : List Nat} (hl : th.length≤1000) (h : ∀ x∈th,x < m) : z1h [z0y T,.int (a : Int),thD th]=some (.bl (th.all fun j=>at2 T a j)):=by
  refine z0E rfl ?_
  simp! only [z4Z,z1S]
  rw [z5W (fun j=>bD (at2 T a j)) hl fun j hj=>by simp! only [nD,ix2 sq ha (h j hj),bD]]
  have e : (th.map fun j=>bD (at2 T a j))=(th.map fun j=>at2 T a j).map bD:=by rw [List.map_map]; rfl
  have e2 : ((th.map fun j=>at2 T a j).all fun b=>b)=th.all fun j=>at2 T a j:=by rw [List.all_map]; rfl
  simp! only [e,y7x,e2,z0e]
noncomputable def chB (T : List (List Bool)) : List Nat->Bool
  | []=>true
  | a :: r=>(r.all fun j=>at2 T a j) && chB T r
noncomputable def z5v (T : List (List Bool)) (th : List Nat) : Bool:=!th.isEmpty && chB T th
theorem y4D {T : List (List Bool)} : ∀ {th : List Nat} {k : Nat} {pre : List Nat},pre.length=k->((th.zipIdx k).all fun z=>((pre ++ th).drop (z.2 + 1)).all fun j=>at2 T z.1 j)=chB T th
  | [],_,_,_=>rfl
  | a :: r,k,pre,h=>by
    have ih:=y4D (T:=T) (th:=r) (k:=k + 1) (pre:=pre ++ [a]) (by simp [h])
    have e : pre ++ [a] ++ r=pre ++ a :: r:=by simp
    rw [e] at ih
    rw [List.zipIdx_cons,List.all_cons,ih]
    show ((((pre ++ a :: r).drop (k + 1)).all fun j=>at2 T a j) && _)=_
    have e2 : (pre ++ a :: r).drop (k + 1)=r:=by rw [← h]; simp
    rw [e2]
    rfl
theorem y1J {m : Nat} {T : List (List Bool)} (sq : Sq m T) {th : List Nat} (hl : th.length≤1000) (h : ∀ x∈th,x < m) : z3u [z0y T,thD th]=some (.bl (z5v T th)):=by
  refine z0E rfl ?_
  by_cases h0 : th=[]
  · subst h0
    have d0 : decide ((([] : List Nat).length : Int)=0)=true:=rfl
    simp! only [z4m,z1U,d0,z0e]
    rfl
  · have d0 : decide ((th.length : Int)=0)=false:=decide_eq_false fun e=>h0 (List.length_eq_zero_iff.mp (by omega))
    simp! only [z4m,z1U,d0,y2K]
    rw [cx2_all (fun k a=>bD ((th.drop (k + 1)).all fun j=>at2 T a j)) hl fun i hi=>by
      have c:=z6G sq (h th[i] (List.getElem_mem hi)) (th:=th.drop (i + 1)) (by simp; omega) fun x hx=>h x (List.mem_of_mem_drop hx)
      have tl : ∀ o : List Nat,D.lst (o.map nD)=thD o:=fun _=>rfl
      have c : z1h [z0y T,nD th[i],thD (th.drop (i + 1))]=_:=c
      simp! only [y1g,tl,c]
      rfl]
    have e : (th.zipIdx.map fun z=>bD ((th.drop (z.2 + 1)).all fun j=>at2 T z.1 j))=(th.zipIdx.map fun z=>(th.drop (z.2 + 1)).all fun j=>at2 T z.1 j).map bD:=by rw [List.map_map]; rfl
    have e2 : ((th.zipIdx.map fun z=>(th.drop (z.2 + 1)).all fun j=>at2 T z.1 j).all fun b=>b)=z5v T th:=by
      unfold z5v
      rw [List.all_map,← y4D (T:=T) (th:=th) (k:=0) (pre:=[]) rfl]
      have : (!th.isEmpty)=true:=by simp [h0]
      rw [this]
      rfl
    simp! only [e,y7x,e2,z0e]
noncomputable def btL (T : List (List Bool)) (m : Nat) (th : List Nat) : List Nat:=(List.range m).filter fun a=>th.all fun j=>at2 T a j
theorem z7E {m : Nat} {T : List (List Bool)} (sq : Sq m T) (hm : m≤1000) {th : List Nat} (hl : th.length≤1000) (h : ∀ x∈th,x < m) : z2q [z0y T,thD th]=some (thD (btL T m th)):=by
  refine z0E rfl ?_
  simp! only [z6S,z3M,sq.1,z0H (show m≤1000000 by omega),z2t]
  rw [z6a (fun a=>th.all fun j=>at2 T a j) nD (by simp; omega) (fun a ha=>by
    have c:=z6G sq (List.mem_range.mp ha) hl h
    simp! only [nD,c]) fun x hx _=>by simp! only []]
  simp! only [z1y,z0e]
  rfl
theorem y4g {m : Nat} {T : List (List Bool)} (sq : Sq m T) (hm : m≤1000) {th : List Nat} (hl : th.length≤1000) (h : ∀ x∈th,x < m) : z4r [z0y T,thD th]=some (.bl (z5v T th && decide (((btL T m th).length : Int)=0))):=by
  refine z0E rfl ?_
  simp! only [z8e,y1J sq hl h,z7E sq hm hl h,z1U,z0e]
theorem y6f (n : Int) : z2o [.int n]=some (.bl true):=by
  refine z0E rfl ?_
  simp_all! only [z3T,z0e]
theorem z8o {m : Nat} {T : List (List Bool)} (sq : Sq m T) (hm : m≤1000) {th : List Nat} (hl : th.length≤1000) (h : ∀ x∈th,x < m) : z1v [z0y T,thD th]=some (thD (btL T m th)):=by
  refine z0E rfl ?_
  simp! only [z3h,z4u,y3F,z3M,sq.1,z0H (show m≤1000000 by omega)]
  refine z0F (I:=fun s=>∃ o3,s=[some (.sh (z0y T)),some (.sh (thD th)),some (.ow (thD (btL T m th))),o3]) ?_ ?_
  · refine z3S (fun k s=>∃ o3,s=[some (.sh (z0y T)),some (.sh (thD th)),some (.ow (thD ((List.range k).filter fun a=>th.all fun j=>at2 T a j))),o3]) ⟨_,rfl⟩ ?_ fun s z=>⟨s,rfl,z⟩
    rintro k hk s ⟨o3,rfl⟩
    simp! only [Int.zero_add,z1S]
    rw [z6a (fun j=>!at2 T k j) nD hl (fun j hj=>by simp! only [nD,ix2 sq hk (h j hj)]) fun x hx _=>by simp! only []]
    have e : decide (((th.filter fun j=>!at2 T k j).length : Int)=0)=th.all fun j=>at2 T k j:=by
      rw [Bool.eq_iff_iff,decide_eq_true_iff,List.all_eq_true]
      constructor
      · intro z x hx
        have z : th.filter (fun j=>!at2 T k j)=[]:=List.length_eq_zero_iff.mp (by omega)
        have:=List.filter_eq_nil_iff.mp z x hx
        simpa using this
      · intro z
        rw [List.filter_eq_nil_iff.mpr fun x hx=>by simp [z x hx]]
        rfl
    have im : z8v (some [.int (k : Int)])=some [.int (k : Int)]:=z4s rfl
    have hz:=List.length_filter_le (fun a=>th.all fun j=>at2 T a j) (List.range k)
    rw [List.length_range] at hz
    have ap:=y4A (th:=(List.range k).filter fun a=>th.all fun j=>at2 T a j) (k:=k) (by omega)
    simp! only [y0S,z1U,e,im,ap]
    rw [y5z]
    cases th.all fun j=>at2 T k j with
    | true=>
      simp! only [z0e,if_true]
      exact ⟨_,rfl⟩
    | false=>
      simp! only [z0e,Bool.false_eq_true,if_false,List.append_nil]
      exact ⟨_,rfl⟩
  · rintro s ⟨o3,rfl⟩
    simp! only [z0e]
noncomputable def z5N (T : List (List Bool)) : Nat->List Nat->List Nat->List (List Nat)
  | 0,_,_=>[]
  | _ + 1,c,[]=>[c]
  | n + 1,c,x :: f=>((x :: f).map fun y=>z5N T n (c ++ [y]) ((x :: f).filter fun z=>at2 T y z)).flatten
noncomputable def fac : Nat->Nat
  | 0=>1
  | n + 1=>(n + 1) * fac n
theorem y5q (n : Nat) : fac n≤fac (n + 1):=by
  show fac n≤(n + 1) * fac n
  exact Nat.le_mul_of_pos_left _ (by omega)
theorem z6l {a b : Nat} (h : a≤b) : fac a≤fac b:=by
  induction h with
  | refl=>exact Nat.le_refl _
  | step _ ih=>exact Nat.le_trans ih (y5q _)
theorem z9Y {α : Type} {B : Nat} : ∀ {L : List (List α)},(∀ l∈L,l.length≤B)->L.flatten.length≤L.length * B
  | [],_=>Nat.zero_le _
  | l :: L,h=>by
    have ih:=z9Y (L:=L) fun x hx=>h x (List.mem_cons_of_mem _ hx)
    have h1:=h l List.mem_cons_self
    rw [List.flatten_cons,List.length_append,List.length_cons,Nat.succ_mul]
    omega
theorem z7U {T : List (List Bool)} {f : List Nat} {y : Nat} (hy : y∈f) (own : at2 T y y=false) : (f.filter fun z=>at2 T y z).length < f.length:=by
  rw [List.length_filter_lt_length_iff_exists]
  exact ⟨y,hy,by rw [own]; exact Bool.false_ne_true⟩
theorem z6g {T : List (List Bool)} : ∀ {n : Nat} {c f : List Nat},(∀ x∈f,at2 T x x=false)->(z5N T n c f).length≤fac f.length
  | 0,_,f,_=>Nat.zero_le _
  | _ + 1,c,[],_=>Nat.le_refl _
  | n + 1,c,x :: f,own=>by
    have : ∀ l∈(x :: f).map fun y=>z5N T n (c ++ [y]) ((x :: f).filter fun z=>at2 T y z),l.length≤fac f.length:=fun l hl=>by
      obtain ⟨y,hy,rfl⟩:=List.mem_map.mp hl
      refine Nat.le_trans (z6g fun z hz=>own z (List.mem_filter.mp hz).1) (z6l ?_)
      have:=z7U hy (own y hy)
      rw [List.length_cons] at this
      omega
    have:=z9Y this
    rw [List.length_map] at this
    exact this
theorem y1c {m : Nat} {T : List (List Bool)} (sq : Sq m T) (own : ∀ i < m,at2 T i i=false) (hm : m≤8) : ∀ {n : Nat} {c f : List Nat},f.length < n->f.length≤8->c.length + f.length≤100->(∀ x∈f,x < m)->z1k n [z0y T,thD c,thD f]=some (.lst ((z5N T n c f).map thD))
  | 0,c,f,h,_,_,_=>absurd h (by omega)
  | n + 1,c,[],h,h8,hc,hf=>by
    refine y1e rfl ?_
    have tr : z5h (thD [])=some false:=rfl
    simp_all! only [z2j,tr,z0e]
    rfl
  | n + 1,c,x :: f,h,h8,hc,hf=>by
    refine y1e rfl ?_
    obtain ⟨F,hF⟩ : ∃ F,F=x :: f:=⟨_,rfl⟩
    have tr : z5h (thD F)=some true:=by rw [hF]; rfl
    have e0 : z5N T (n + 1) c (x :: f)=(F.map fun y=>z5N T n (c ++ [y]) (F.filter fun z=>at2 T y z)).flatten:=by rw [hF]; rfl
    rw [e0]
    rw [← hF] at h h8 hc hf ⊢
    have nl : D.lst [] = .lst (([] : List (List Nat)).map thD):=rfl
    have ownF : ∀ x∈F,at2 T x x=false:=fun x hx=>own x (hf x hx)
    simp_all! only [z2j,tr,z4u,z1S]
    rw [nl]
    refine z0F (I:=fun s=>∃ o1 o4,s=[some (.sh (z0y T)),o1,some (.sh (thD F)),some (.ow (.lst ((F.map fun y=>z5N T n (c ++ [y]) (F.filter fun z=>at2 T y z)).flatten.map thD))),o4]) ?_ ?_
    · refine z2Q (enc:=nD) (fun pre s=>∃ o4,s=[some (.sh (z0y T)),some (.ow (thD c)),some (.sh (thD F)),some (.ow (.lst ((pre.map fun y=>z5N T n (c ++ [y]) (F.filter fun z=>at2 T y z)).flatten.map thD))),o4]) ⟨_,rfl⟩ ?_ fun s ⟨o4,e⟩=>⟨s,rfl,_,_,e⟩
      rintro pre y post e s ⟨o4,rfl⟩
      have hy : y∈F:=by rw [e]; simp
      have t1 : D.lst [.int (y : Int)]=thD [y]:=rfl
      have ct:=z6p (a:=c) (b:=[y]) (by simp; omega)
      have cx : z1J (some (F.map nD)) (z2x (z0v (d2 ixD (d2 ixD (z0d 0) (z0d 4)) (z0d 5))) (z0d 5) [some (z0y T),some (thD c),some (thD F),some (.lst ((pre.map fun y=>z5N T n (c ++ [y]) (F.filter fun z=>at2 T y z)).flatten.map thD)),some (.int (y : Int))])=some ((F.filter fun z=>at2 T y z).map nD):=
        z6a (fun z=>at2 T y z) nD (by omega) (fun z hz=>by
          simp! only [nD,ix2 sq (hf y hy) (hf z hz)]) fun z _ _=>by simp! only []
      have fl:=z7U hy (ownF y hy)
      have ih:=y1c sq own hm (n:=n) (c:=c ++ [y]) (f:=F.filter fun z=>at2 T y z) (by omega) (by omega) (by simp; omega) fun z hz=>hf z (List.mem_filter.mp hz).1
      have l1 : (pre.map fun y=>z5N T n (c ++ [y]) (F.filter fun z=>at2 T y z)).flatten.length≤40320 * 8:=by
        refine Nat.le_trans (z9Y (B:=40320) fun l hl=>?_) ?_
        · obtain ⟨z,hz,rfl⟩:=List.mem_map.mp hl
          refine Nat.le_trans (z6g fun q hq=>ownF q (List.mem_filter.mp hq).1) ?_
          exact Nat.le_trans (z6l (show _≤8 from Nat.le_trans (List.length_filter_le _ _) h8)) (by decide)
        · rw [List.length_map]
          have : pre.length≤8:=by
            have:=congrArg List.length e
            simp at this
            omega
          exact Nat.le_trans (Nat.mul_le_mul_right _ this) (by decide)
      have l2 : (z5N T n (c ++ [y]) (F.filter fun z=>at2 T y z)).length≤40320:=by
        refine Nat.le_trans (z6g fun q hq=>ownF q (List.mem_filter.mp hq).1) ?_
        exact Nat.le_trans (z6l (show _≤8 from Nat.le_trans (List.length_filter_le _ _) h8)) (by decide)
      obtain ⟨Y,hY⟩ : ∃ Y,Y=z5N T n (c ++ [y]) (F.filter fun z=>at2 T y z):=⟨_,rfl⟩
      obtain ⟨Z,hZ⟩ : ∃ Z,Z=(pre.map fun y=>z5N T n (c ++ [y]) (F.filter fun z=>at2 T y z)).flatten:=⟨_,rfl⟩
      obtain ⟨cy,hcy⟩ : ∃ cy,cy=c ++ [y]:=⟨_,rfl⟩
      rw [← hcy] at ih ct
      rw [← hcy] at hY
      rw [← hcy] at l2
      rw [← hY] at ih l2
      rw [← hZ] at l1 cx ⊢
      have ex : extV (some (.lst (Z.map thD))) (some (.lst (Y.map thD)))=some (.lst ((Z ++ Y).map thD)):=by
        rw [eo_ext (by simp; omega),List.map_append]
      have tl : ∀ W : List Nat,D.lst (W.map nD)=thD W:=fun _=>rfl
      simp! only [nD,t1,ct,z1y,tl,z1S,cx,ih,ex,z0e]
      have key : ((pre ++ [y]).map fun y=>z5N T n (c ++ [y]) (F.filter fun z=>at2 T y z)).flatten=Z ++ Y:=by
        rw [List.map_append,List.flatten_append,← hZ]
        congr 1
        show z5N T n (c ++ [y]) (F.filter fun z=>at2 T y z) ++ []=Y
        rw [List.append_nil,hY,hcy]
      rw [key]
      exact ⟨_,rfl⟩
    · rintro s ⟨o1,o4,rfl⟩
      simp! only [z0e]
structure Ant (m : Nat) (T : List (List Bool)) : Prop where
  sq : Sq m T
  own : ∀ i < m,at2 T i i=false
  ant : ∀ i < m,∀ j < m,at2 T i j=true->at2 T j i=false
theorem z5q {T : List (List Bool)} {a : Nat} {r : List Nat} : chB T (a :: r)=(r.all (fun j=>at2 T a j) && chB T r):=rfl
theorem z7W {T : List (List Bool)} : ∀ {a b : List Nat},chB T (a ++ b)=(chB T a && chB T b && a.all fun x=>b.all fun y=>at2 T x y)
  | [],b=>by simp [chB]
  | x :: a,b=>by
    have ih:=z7W (T:=T) (a:=a) (b:=b)
    rw [List.cons_append,z5q,z5q,List.all_append,ih,List.all_cons]
    cases a.all (fun j=>at2 T x j) <;> cases b.all (fun j=>at2 T x j) <;> cases chB T a <;> cases chB T b <;> simp
theorem chB_iff {T : List (List Bool)} {th : List Nat} : chB T th=true↔th.Pairwise fun x y=>at2 T x y=true:=by
  induction th with
  | nil=>simp [chB]
  | cons a r ih=>rw [z5q,Bool.and_eq_true,ih,List.pairwise_cons,List.all_eq_true]
theorem z7R {T : List (List Bool)} : ∀ {n : Nat} {c f e : List Nat},e∈z5N T n c f->∃ q,e=c ++ q∧∀ x∈q,x∈f
  | 0,_,_,_,h=>nomatch h
  | _ + 1,c,[],e,h=>by
    have : e=c:=by simpa [z5N] using h
    exact ⟨[],by simp [this],fun _ z=>nomatch z⟩
  | n + 1,c,x :: f,e,h=>by
    obtain ⟨l,hl,he⟩:=List.mem_flatten.mp (show e∈((x :: f).map fun y=>z5N T n (c ++ [y]) ((x :: f).filter fun z=>at2 T y z)).flatten from h)
    obtain ⟨y,hy,rfl⟩:=List.mem_map.mp hl
    obtain ⟨q,rfl,hq⟩:=z7R he
    refine ⟨y :: q,by simp,fun z hz=>?_⟩
    rcases List.mem_cons.mp hz with w | w
    · rw [w]; exact hy
    · exact (List.mem_filter.mp (hq z w)).1
theorem y1v {T : List (List Bool)} : ∀ {n : Nat} {c f r : List Nat},f.length < n->(∀ x∈f,at2 T x x=false)->chB T (c ++ r)=true->(∀ x∈r,x∈f)->(∀ y∈f,∀ x∈c,at2 T x y=true)->∃ e∈z5N T n c f,(∀ x∈c ++ r,x∈e)∧chB T e=true
  | 0,_,_,_,h,_,_,_,_=>absurd h (by omega)
  | n + 1,c,[],r,_,_,hc,hr,_=>by
    have : r=[]:=by
      cases r with
      | nil=>rfl
      | cons x r=>exact absurd (hr x List.mem_cons_self) (by simp)
    subst this
    rw [List.append_nil] at hc ⊢
    exact ⟨c,by simp [z5N],fun x hx=>hx,hc⟩
  | n + 1,c,x :: f,r,hn,own,hc,hr,hb=>by
    have go : ∀ (y : Nat) (r' : List Nat),y∈x :: f->chB T ((c ++ [y]) ++ r')=true->(∀ z∈r',z∈x :: f)->∃ e∈z5N T (n + 1) c (x :: f),(∀ z∈(c ++ [y]) ++ r',z∈e)∧chB T e=true:=fun y r' hy hc' hr'=>by
      have fl:=z7U hy (own y hy)
      have hyr : ∀ z∈r',at2 T y z=true:=fun z hz=>by
        rw [List.append_assoc,z7W] at hc'
        have:=(Bool.and_eq_true_iff.mp (Bool.and_eq_true_iff.mp hc').1).2
        rw [List.singleton_append,z5q] at this
        exact List.all_eq_true.mp (Bool.and_eq_true_iff.mp this).1 z hz
      obtain ⟨e,he,h1,h2⟩:=y1v (n:=n) (c:=c ++ [y]) (f:=(x :: f).filter fun z=>at2 T y z) (r:=r') (by omega) (fun z hz=>own z (List.mem_filter.mp hz).1) hc' (fun z hz=>List.mem_filter.mpr ⟨hr' z hz,hyr z hz⟩) (fun z hz w hw=>by
        rcases List.mem_append.mp hw with q | q
        · exact hb z (List.mem_filter.mp hz).1 w q
        · rw [List.mem_singleton.mp q]
          have:=(List.mem_filter.mp hz).2
          simpa using this)
      exact ⟨e,List.mem_flatten.mpr ⟨_,List.mem_map.mpr ⟨y,hy,rfl⟩,he⟩,h1,h2⟩
    cases r with
    | nil=>
      rw [List.append_nil] at hc
      obtain ⟨e,he,h1,h2⟩:=go x [] List.mem_cons_self (by
        rw [List.append_nil,z7W,hc]
        rw [Bool.and_eq_true,List.all_eq_true]
        refine ⟨by simp [chB],fun z hz=>?_⟩
        simp [hb x List.mem_cons_self z hz]) (fun z hz=>nomatch hz)
      exact ⟨e,he,fun z hz=>h1 z (by simp at hz ⊢; exact .inl hz),h2⟩
    | cons y r=>
      obtain ⟨e,he,h1,h2⟩:=go y r (hr y List.mem_cons_self) (by rw [List.append_assoc]; exact hc) fun z hz=>hr z (List.mem_cons_of_mem _ hz)
      exact ⟨e,he,fun z hz=>h1 z (by rw [List.append_assoc]; exact hz),h2⟩
noncomputable def insC (T : List (List Bool)) (o : Nat) (c : List Nat) : List Nat:=(c.filter fun x=>at2 T x o) ++ [o] ++ c.filter fun x=>at2 T o x
noncomputable def z9L (T : List (List Bool)) (a o : Nat) (found : List (List Nat)) : List (List Nat):=if at2 T a o=true then found ++ (found.map (insC T o)).filter (z5v T) else found
noncomputable def hdL (T : List (List Bool)) (a : Nat) : Nat->List (List Nat)
  | 0=>[[a]]
  | k + 1=>z9L T a k (hdL T a k)
theorem y4w {m : Nat} {T : List (List Bool)} {a : Nat} (ha : a < m) (own : at2 T a a=false) : ∀ {k : Nat},k≤m->∀ c∈hdL T a k,chB T c=true∧(∃ r,c=a :: r)∧∀ x∈c,x < m
  | 0,_,c,hc=>by
    have : c=[a]:=by simpa [hdL] using hc
    subst this
    exact ⟨by simp [chB],⟨[],rfl⟩,fun x hx=>by rw [List.mem_singleton.mp hx]; exact ha⟩
  | k + 1,hk,c,hc=>by
    have ih:=y4w (k:=k) ha own (by omega)
    have hc : c∈z9L T a k (hdL T a k):=hc
    unfold z9L at hc
    split at hc
    · rename_i hak
      rcases List.mem_append.mp hc with z | z
      · exact ih c z
      · obtain ⟨hz,hch⟩:=List.mem_filter.mp z
        obtain ⟨c0,h0,rfl⟩:=List.mem_map.mp hz
        obtain ⟨_,⟨r,rfl⟩,hlt⟩:=ih c0 h0
        refine ⟨(Bool.and_eq_true_iff.mp hch).2,?_,fun x hx=>?_⟩
        · unfold insC
          rw [List.filter_cons,if_pos hak]
          exact ⟨_,rfl⟩
        · unfold insC at hx
          rcases List.mem_append.mp hx with w | w
          · rcases List.mem_append.mp w with w | w
            · exact hlt x (List.mem_filter.mp w).1
            · rw [List.mem_singleton.mp w]; omega
          · exact hlt x (List.mem_filter.mp w).1
    · exact ih c hc
theorem y7l {m : Nat} {T : List (List Bool)} (A : Ant m T) {a : Nat} {r : List Nat} (hc : chB T (a :: r)=true) (hlt : ∀ x∈a :: r,x < m) : ∀ {k : Nat},k≤m->(a :: r.filter fun x=>decide (x < k))∈hdL T a k
  | 0,_=>by
    have : (r.filter fun x=>decide (x < 0))=[]:=by rw [List.filter_eq_nil_iff]; simp
    rw [this]
    simp [hdL]
  | k + 1,hk=>by
    have ih:=y7l A hc hlt (k:=k) (by omega)
    have pw:=chB_iff.mp hc
    have nd : (a :: r).Nodup:=pw.imp_of_mem fun {x y} hx hy z=>fun e=>by
      subst e
      rw [A.own x (hlt x hx)] at z
      cases z
    show _∈z9L T a k (hdL T a k)
    unfold z9L
    by_cases hkr : k∈r
    · have hak : at2 T a k=true:=(List.pairwise_cons.mp pw).1 k hkr
      rw [if_pos hak]
      refine List.mem_append_right _ (List.mem_filter.mpr ⟨List.mem_map.mpr ⟨_,ih,?_⟩,?_⟩)
      · obtain ⟨p,q,rfl⟩:=List.append_of_mem hkr
        have pw2:=(List.pairwise_cons.mp pw).2
        obtain ⟨_,pq,pc⟩:=List.pairwise_append.mp pw2
        have hp : ∀ x∈p,at2 T x k=true:=fun x hx=>pc x hx k List.mem_cons_self
        have hq : ∀ x∈q,at2 T k x=true:=fun x hx=>(List.pairwise_cons.mp pq).1 x hx
        have km : k < m:=by omega
        have hp' : ∀ x∈p,at2 T k x=false:=fun x hx=>A.ant x (hlt x (by simp [hx])) k km (hp x hx)
        have hq' : ∀ x∈q,at2 T x k=false:=fun x hx=>A.ant k km x (hlt x (by simp [hx])) (hq x hx)
        have hka : at2 T k a=false:=A.ant a (hlt a List.mem_cons_self) k km hak
        have nd2:=(List.nodup_cons.mp nd).2
        have nk : k ∉ p∧k ∉ q:=by
          obtain ⟨_,n2,n3⟩:=List.nodup_append.mp nd2
          exact ⟨fun z=>n3 k z k List.mem_cons_self rfl,(List.nodup_cons.mp n2).1⟩
        have f1 : ∀ l : List Nat,k ∉ l->(l.filter fun x=>decide (x < k + 1))=l.filter fun x=>decide (x < k):=fun l hl=>List.filter_congr fun x hx=>by
          have : x≠k:=fun z=>hl (z ▸ hx)
          rw [decide_eq_decide]
          omega
        have e1 : ((p ++ k :: q).filter fun x=>decide (x < k))=(p.filter fun x=>decide (x < k)) ++ q.filter fun x=>decide (x < k):=by
          rw [List.filter_append,List.filter_cons,if_neg (by simp)]
        have e2 : ((p ++ k :: q).filter fun x=>decide (x < k + 1))=(p.filter fun x=>decide (x < k)) ++ k :: q.filter fun x=>decide (x < k):=by
          rw [List.filter_append,List.filter_cons,if_pos (by simp),f1 p nk.1,f1 q nk.2]
        rw [e1,e2]
        unfold insC
        have g1 : ((a :: ((p.filter fun x=>decide (x < k)) ++ q.filter fun x=>decide (x < k))).filter fun x=>at2 T x k)=a :: p.filter fun x=>decide (x < k):=by
          rw [List.filter_cons,if_pos hak,List.filter_append]
          have h1 : ((p.filter fun x=>decide (x < k)).filter fun x=>at2 T x k)=p.filter fun x=>decide (x < k):=List.filter_eq_self.mpr fun x hx=>hp x (List.mem_filter.mp hx).1
          have h2 : ((q.filter fun x=>decide (x < k)).filter fun x=>at2 T x k)=[]:=List.filter_eq_nil_iff.mpr fun x hx=>by rw [hq' x (List.mem_filter.mp hx).1]; exact Bool.false_ne_true
          rw [h1,h2,List.append_nil]
        have g2 : ((a :: ((p.filter fun x=>decide (x < k)) ++ q.filter fun x=>decide (x < k))).filter fun x=>at2 T k x)=q.filter fun x=>decide (x < k):=by
          rw [List.filter_cons,if_neg (by rw [hka]; exact Bool.false_ne_true),List.filter_append]
          have h1 : ((p.filter fun x=>decide (x < k)).filter fun x=>at2 T k x)=[]:=List.filter_eq_nil_iff.mpr fun x hx=>by rw [hp' x (List.mem_filter.mp hx).1]; exact Bool.false_ne_true
          have h2 : ((q.filter fun x=>decide (x < k)).filter fun x=>at2 T k x)=q.filter fun x=>decide (x < k):=List.filter_eq_self.mpr fun x hx=>hq x (List.mem_filter.mp hx).1
          rw [h1,h2,List.nil_append]
        rw [g1,g2]
        simp
      · refine Bool.and_eq_true_iff.mpr ⟨rfl,?_⟩
        rw [chB_iff]
        exact pw.sublist (List.Sublist.cons₂ a List.filter_sublist)
    · have e : (r.filter fun x=>decide (x < k + 1))=r.filter fun x=>decide (x < k):=List.filter_congr fun x hx=>by
        have : x≠k:=fun z=>hkr (z ▸ hx)
        rw [decide_eq_decide]
        omega
      rw [e]
      split
      · exact List.mem_append_left _ ih
      · exact ih
theorem y0R {m : Nat} {T : List (List Bool)} (A : Ant m T) {a : Nat} {r : List Nat} (hc : chB T (a :: r)=true) (hlt : ∀ x∈a :: r,x < m) : (a :: r)∈hdL T a m:=by
  have:=y7l A hc hlt (k:=m) (Nat.le_refl _)
  have e : (r.filter fun x=>decide (x < m))=r:=List.filter_eq_self.mpr fun x hx=>decide_eq_true (hlt x (List.mem_cons_of_mem _ hx))
  rwa [e] at this
noncomputable def crP (T : List (List Bool)) (m : Nat) (c : List Nat) : Bool:=decide (((btL T m c).length : Int)=0)
noncomputable def crB (T : List (List Bool)) (m a : Nat) : Bool:=(hdL T a m).any (crP T m)
noncomputable def btN (T : List (List Bool)) (m a : Nat) : List Nat:=(List.range m).filter fun j=>at2 T a j
theorem bt_nil {T : List (List Bool)} {m : Nat} {c : List Nat} : crP T m c=true↔∀ x < m,∃ y∈c,at2 T x y=false:=by
  unfold crP btL
  rw [decide_eq_true_iff]
  constructor
  · intro h x hx
    have h : ((List.range m).filter fun a=>c.all fun j=>at2 T a j)=[]:=List.length_eq_zero_iff.mp (by omega)
    have:=List.filter_eq_nil_iff.mp h x (List.mem_range.mpr hx)
    rw [List.all_eq_true] at this
    by_cases hq : ∃ y∈c,at2 T x y=false
    · exact hq
    · exact absurd (fun y hy=>by
        cases e : at2 T x y with
        | true=>rfl
        | false=>exact absurd ⟨y,hy,e⟩ hq) this
  · intro h
    have : ((List.range m).filter fun a=>c.all fun j=>at2 T a j)=[]:=List.filter_eq_nil_iff.mpr fun x hx=>by
      obtain ⟨y,hy,e⟩:=h x (List.mem_range.mp hx)
      intro z
      rw [List.all_eq_true.mp z y hy] at e
      cases e
    rw [this]
    rfl
theorem cr_end {m : Nat} {T : List (List Bool)} (A : Ant m T) {a n : Nat} (ha : a < m) (hn : m < n) : ((z5N T n [a] (btN T m a)).any fun e=>z5v T e && crP T m e)=crB T m a:=by
  have hlt : ∀ x∈btN T m a,x < m:=fun x hx=>List.mem_range.mp (List.mem_filter.mp hx).1
  rw [Bool.eq_iff_iff,List.any_eq_true]
  unfold crB
  rw [List.any_eq_true]
  constructor
  · rintro ⟨e,he,h⟩
    obtain ⟨h1,h2⟩:=Bool.and_eq_true_iff.mp h
    obtain ⟨q,rfl,hq⟩:=z7R he
    refine ⟨[a] ++ q,y0R A (Bool.and_eq_true_iff.mp h1).2 fun x hx=>?_,h2⟩
    rcases List.mem_cons.mp hx with z | z
    · rw [z]; exact ha
    · exact hlt x (hq x z)
  · rintro ⟨c,hc,h⟩
    obtain ⟨h1,⟨r,rfl⟩,h3⟩:=y4w ha (A.own a ha) (Nat.le_refl _) c hc
    have hbt : (btN T m a).length≤m:=Nat.le_trans (List.length_filter_le _ _) (by simp)
    have h1' : (∀ x∈r,at2 T a x=true):=List.all_eq_true.mp (Bool.and_eq_true_iff.mp (show (r.all (fun j=>at2 T a j) && chB T r)=true from h1)).1
    obtain ⟨e,he,g1,g2⟩:=y1v (T:=T) (n:=n) (c:=[a]) (f:=btN T m a) (r:=r) (by omega) (fun x hx=>A.own x (hlt x hx)) h1 (fun x hx=>List.mem_filter.mpr ⟨List.mem_range.mpr (h3 x (List.mem_cons_of_mem _ hx)),h1' x hx⟩) (fun y hy x hx=>by
      rw [List.mem_singleton.mp hx]
      have:=(List.mem_filter.mp hy).2
      simpa using this)
    refine ⟨e,he,Bool.and_eq_true_iff.mpr ⟨Bool.and_eq_true_iff.mpr ⟨?_,g2⟩,?_⟩⟩
    · have:=g1 a (by simp)
      cases e with
      | nil=>cases this
      | cons _ _=>rfl
    · rw [bt_nil] at h ⊢
      intro x hx
      obtain ⟨y,hy,e'⟩:=h x hx
      exact ⟨y,g1 y hy,e'⟩
theorem cr_some {m : Nat} {T : List (List Bool)} (A : Ant m T) : ∀ (k : Nat) {c : List Nat},m - c.length≤k->c≠[]->chB T c=true->(∀ x∈c,x < m)->∃ a < m,crB T m a=true:=by
  have nodup : ∀ {c : List Nat},chB T c=true->(∀ x∈c,x < m)->c.Nodup:=fun hc hlt=>(chB_iff.mp hc).imp_of_mem fun {x y} hx hy z=>fun e=>by
    subst e
    rw [A.own x (hlt x hx)] at z
    cases z
  have len : ∀ {c : List Nat},chB T c=true->(∀ x∈c,x < m)->c.length≤m:=fun hc hlt=>by simpa using List.Nodup.length_le_of_subset (nodup hc hlt) fun x hx=>List.mem_range.mpr (hlt x hx)
  have more : ∀ {c : List Nat},c≠[]->chB T c=true->(∀ x∈c,x < m)->(∃ a < m,crB T m a=true)∨∃ x,chB T (x :: c)=true∧∀ y∈x :: c,y < m:=fun {c} hne hc hlt=>by
    by_cases hb : crP T m c=true
    · cases c with
      | nil=>exact absurd rfl hne
      | cons a r=>exact .inl ⟨a,hlt a List.mem_cons_self,List.any_eq_true.mpr ⟨a :: r,y0R A hc hlt,hb⟩⟩
    · have : ∃ x < m,∀ y∈c,at2 T x y=true:=by
        by_cases hq : ∃ x < m,∀ y∈c,at2 T x y=true
        · exact hq
        · refine absurd (bt_nil.mpr fun x hx=>?_) hb
          by_cases hz : ∃ y∈c,at2 T x y=false
          · exact hz
          · exact absurd ⟨x,hx,fun y hy=>by
              cases e : at2 T x y with
              | true=>rfl
              | false=>exact absurd ⟨y,hy,e⟩ hz⟩ hq
      obtain ⟨x,hx,hxy⟩:=this
      refine .inr ⟨x,Bool.and_eq_true_iff.mpr ⟨List.all_eq_true.mpr hxy,hc⟩,fun y hy=>?_⟩
      rcases List.mem_cons.mp hy with z | z
      · rw [z]; exact hx
      · exact hlt y z
  intro k
  induction k with
  | zero=>
    intro c hk hne hc hlt
    rcases more hne hc hlt with z | ⟨x,h1,h2⟩
    · exact z
    · have:=len h1 h2
      rw [List.length_cons] at this
      omega
  | succ k ih=>
    intro c hk hne hc hlt
    rcases more hne hc hlt with z | ⟨x,h1,h2⟩
    · exact z
    · exact ih (c:=x :: c) (by rw [List.length_cons]; omega) (by simp) h1 h2
theorem y1m {T : List (List Bool)} : ∀ {n : Nat} {c f e : List Nat},e∈z5N T n c f->chB T c=true->(∀ y∈f,∀ x∈c,at2 T x y=true)->chB T e=true
  | 0,_,_,_,h,_,_=>nomatch h
  | _ + 1,c,[],e,h,hc,_=>by
    have : e=c:=by simpa [z5N] using h
    rw [this]; exact hc
  | n + 1,c,x :: f,e,h,hc,hb=>by
    obtain ⟨l,hl,he⟩:=List.mem_flatten.mp (show e∈((x :: f).map fun y=>z5N T n (c ++ [y]) ((x :: f).filter fun z=>at2 T y z)).flatten from h)
    obtain ⟨y,hy,rfl⟩:=List.mem_map.mp hl
    refine y1m he ?_ fun z hz w hw=>?_
    · rw [z7W,hc]
      rw [Bool.and_eq_true,List.all_eq_true]
      refine ⟨by simp [chB],fun z hz=>?_⟩
      simp [hb y hy z hz]
    · rcases List.mem_append.mp hw with q | q
      · exact hb z (List.mem_filter.mp hz).1 w q
      · rw [List.mem_singleton.mp q]
        have:=(List.mem_filter.mp hz).2
        simpa using this
noncomputable def y0B (T : List (List Bool)) (m a : Nat) : List (List Nat):=z5N T 12 [a] (btN T m a)
structure Ech (m : Nat) (T : List (List Bool)) (a : Nat) (e : List Nat) : Prop where
  ch : z5v T e=true
  lt : ∀ x∈e,x < m
  len : e.length≤m
  hd : ∃ q,e=a :: q
theorem y0g {m : Nat} {T : List (List Bool)} (A : Ant m T) {a : Nat} (ha : a < m) {e : List Nat} (he : e∈y0B T m a) : Ech m T a e:=by
  obtain ⟨q,rfl,hq⟩:=z7R he
  have hlt : ∀ x∈[a] ++ q,x < m:=fun x hx=>by
    rcases List.mem_cons.mp hx with z | z
    · rw [z]; exact ha
    · exact List.mem_range.mp (List.mem_filter.mp (hq x z)).1
  have hc : chB T ([a] ++ q)=true:=y1m he (by simp [chB]) fun y hy x hx=>by
    rw [List.mem_singleton.mp hx]
    have:=(List.mem_filter.mp hy).2
    simpa using this
  have nd : ([a] ++ q).Nodup:=(chB_iff.mp hc).imp_of_mem fun {x y} hx hy z=>fun e=>by
    subst e
    rw [A.own x (hlt x hx)] at z
    cases z
  exact ⟨Bool.and_eq_true_iff.mpr ⟨rfl,hc⟩,hlt,by simpa using List.Nodup.length_le_of_subset nd fun x hx=>List.mem_range.mpr (hlt x hx),q,rfl⟩
theorem y0C {T : List (List Bool)} {m a : Nat} : (btN T m a).length≤m:=Nat.le_trans (List.length_filter_le _ _) (by simp)
theorem y6m {m : Nat} {T : List (List Bool)} (A : Ant m T) (hm : m≤8) {a : Nat} : (y0B T m a).length≤40320:=by
  refine Nat.le_trans (z6g fun x hx=>A.own x (List.mem_range.mp (List.mem_filter.mp hx).1)) ?_
  have:=y0C (T:=T) (m:=m) (a:=a)
  exact Nat.le_trans (z6l (show _≤8 by omega)) (by decide)
theorem y5h {m : Nat} {T : List (List Bool)} (A : Ant m T) (hm : m≤8) {a : Nat} (ha : a < m) : z1w [z0y T,thD [a],thD (btN T m a)]=some (.lst ((y0B T m a).map thD)):=by
  have:=y0C (T:=T) (m:=m) (a:=a)
  exact y1c A.sq A.own hm (n:=12) (by omega) (by omega) (by simp; omega) fun x hx=>List.mem_range.mp (List.mem_filter.mp hx).1
noncomputable def bpD (T : List (List Bool)) (m : Nat) (c : List Nat) : D:=.tup [thD c,nD ((btL T m c).headD 0)]
noncomputable def papD (T : List (List Bool)) (m a : Nat) : D:=match (y0B T m a).find? (crP T m) with
  | some c=>.tup [.str "chain",thD c]
  | none=>.tup [.str "beaten",.lst ((y0B T m a).map (bpD T m))]
theorem st_cr {m : Nat} {T : List (List Bool)} (A : Ant m T) (hm : m≤8) {a : Nat} {c : List Nat} (h : Ech m T a c) : z4r [z0y T,thD c]=some (.bl (crP T m c)):=by
  have h1:=h.len
  have:=y4g A.sq (by omega) (th:=c) (by omega) h.lt
  rw [h.ch,Bool.true_and] at this
  exact this
theorem z9l {α : Type} {p : α->Bool} : ∀ {l pre post : List α} {x : α},l=pre ++ x :: post->(∀ y∈pre,p y=false)->p x=true->l.find? p=some x
  | _,[],post,x,e,_,hx=>by rw [e,List.nil_append,List.find?_cons,hx]
  | _,y :: pre,post,x,e,hp,hx=>by
    rw [e,List.cons_append,List.find?_cons,hp y List.mem_cons_self]
    exact z9l rfl (fun z hz=>hp z (List.mem_cons_of_mem _ hz)) hx
theorem y6o {m : Nat} {T : List (List Bool)} (A : Ant m T) (hm : m≤8) {a : Nat} (ha : a < m) : z1L [z0y T,.int (a : Int)]=some (papD T m a):=by
  refine z0E rfl ?_
  have e1:=y5h A hm ha
  have e2:=z9a A.sq (by omega) ha
  have e2 : z1m [z0y T,.int (a : Int)]=some (thD (btN T m a)):=e2
  have t1 : D.lst [.int (a : Int)]=thD [a]:=rfl
  have f1 : z4z (some [D.int (a : Int)])=some [D.int (a : Int)]:=rfl
  have l1:=y6m A hm (a:=a)
  have ok : ∀ c∈y0B T m a,Ech m T a c:=fun c hc=>y0g A ha hc
  unfold papD
  obtain ⟨E,hE⟩ : ∃ E,E=y0B T m a:=⟨_,rfl⟩
  rw [← hE] at e1 l1 ok ⊢
  simp! only [z3N,f1,t1,e2,e1]
  refine y2s (I:=fun s=>∃ o3,s=[some (.sh (z0y T)),some (.sh (.int (a : Int))),some (.sh (.lst (E.map thD))),o3]∧∀ y∈E,crP T m y=false) ?_ ?_
  · refine z2Q (enc:=thD) (fun pre s=>∃ o3,s=[some (.sh (z0y T)),some (.sh (.int (a : Int))),some (.sh (.lst (E.map thD))),o3]∧∀ y∈pre,crP T m y=false) ⟨_,rfl,fun y hy=>by cases hy⟩ ?_ ?_
    · rintro pre c post e s ⟨o3,rfl,hp⟩
      have hc : c∈E:=by rw [e]; simp
      have st:=st_cr A hm (ok c hc)
      cases h : crP T m c with
      | true=>
        rw [h] at st
        rw [z9l e hp h]
        simp! only [st,z0e]
        exact .inr trivial
      | false=>
        rw [h] at st
        simp! only [st,z0e]
        refine ⟨_,rfl,fun y hy=>?_⟩
        rcases List.mem_append.mp hy with z | z
        · exact hp y z
        · rw [List.mem_singleton.mp z]; exact h
    · rintro s ⟨o3,rfl,hp⟩
      exact .inl ⟨_,rfl,_,rfl,hp⟩
  · rintro s ⟨o3,rfl,hp⟩
    have hfn : E.find? (crP T m)=none:=List.find?_eq_none.mpr fun y hy=>by rw [hp y hy]; exact Bool.false_ne_true
    rw [hfn]
    have cx : z1J (some (E.map thD)) (z2x z6h (mkT (z0k [z0d 4,d2 ixD (z0l z2q [z0d 0,z0d 4]) (dC (.int 0))])) [some (z0y T),some (.int (a : Int)),some (.lst (E.map thD)),shO o3])=some (E.map (bpD T m)):=by
      rw [z5O (by rw [List.length_map]; omega)]
      refine z5C (bpD T m) fun c hc=>?_
      have h1:=(ok c hc).len
      have bt:=z7E A.sq (by omega) (th:=c) (by omega) (ok c hc).lt
      have hne : btL T m c≠[]:=fun z=>by
        have:=hp c hc
        unfold crP at this
        rw [z] at this
        simp at this
      have i0 : ixD (thD (btL T m c)) (.int 0)=some (nD ((btL T m c).headD 0)):=by
        cases hb : btL T m c with
        | nil=>exact absurd hb hne
        | cons x w=>exact z1N (j:=0) rfl
      simp! only [bt,i0]
      rfl
    simp! only [cx,z0e]
theorem z4b {a b : Str} {c : Bool} (h1 : okP (.str a)=true) (h2 : okP (.str b)=true) (h : PyData.eqv (.str a) (.str b)=c) : eqD (.str a) (.str b)=some (.bl c):=by
  unfold eqD
  rw [h1,h2]
  show some (D.bl (PyData.eqv (.str a) (.str b)))=_
  rw [h]
theorem any_cr {m : Nat} {T : List (List Bool)} (A : Ant m T) (hm : m≤8) {a : Nat} (ha : a < m) : (y0B T m a).any (crP T m)=crB T m a:=by
  have h:=cr_end A ha (show m < 12 by omega)
  have e : ((z5N T 12 [a] (btN T m a)).any fun e=>z5v T e && crP T m e)=(y0B T m a).any (crP T m):=by
    show ((y0B T m a).any fun e=>z5v T e && crP T m e)=_
    rw [Bool.eq_iff_iff,List.any_eq_true,List.any_eq_true]
    constructor
    · rintro ⟨c,hc,h⟩
      exact ⟨c,hc,(Bool.and_eq_true_iff.mp h).2⟩
    · rintro ⟨c,hc,h⟩
      exact ⟨c,hc,Bool.and_eq_true_iff.mpr ⟨(y0g A ha hc).ch,h⟩⟩
  rw [← e,h]
inductive Pap (T : List (List Bool)) (m a : Nat) : Prop
  | chain (c : List Nat) : c∈y0B T m a->crP T m c=true->papD T m a = .tup [.str "chain",thD c]->crB T m a=true->Pap T m a
  | beaten : (∀ c∈y0B T m a,crP T m c=false)->papD T m a = .tup [.str "beaten",.lst ((y0B T m a).map (bpD T m))]->crB T m a=false->Pap T m a
theorem pap_of {m : Nat} {T : List (List Bool)} (A : Ant m T) (hm : m≤8) {a : Nat} (ha : a < m) : Pap T m a:=by
  have h:=any_cr A hm ha
  cases hf : (y0B T m a).find? (crP T m) with
  | some c=>
    have h1:=List.mem_of_find?_eq_some hf
    have h2:=List.find?_some hf
    refine .chain c h1 h2 (by unfold papD; rw [hf]) ?_
    rw [← h]
    exact List.any_eq_true.mpr ⟨c,h1,h2⟩
  | none=>
    have h1:=List.find?_eq_none.mp hf
    refine .beaten (fun c hc=>by have:=h1 c hc; simpa using this) (by unfold papD; rw [hf]) ?_
    rw [← h,List.any_eq_false]
    exact h1
theorem Full.ant {m : Nat} {T : List (List Bool)} (F : Full m T) : Ant m T:=⟨F.sq,F.own,fun i hi j hj h=>by
  have hne : i≠j:=fun z=>by
    subst z
    rw [F.own i hi] at h
    cases h
  have:=F.two i hi j hj hne
  rw [h] at this
  cases e : at2 T j i with
  | false=>rfl
  | true=>rw [e] at this; cases this⟩
theorem copy_eq {m : Nat} {T : List (List Bool)} (sq : Sq m T) (hm : m≤1000) : z2R [z0y T]=some (z0y T):=by
  refine z0E rfl ?_
  have hcp : z1J (z9P (z0y T)) (z2x z6h (z0u (z1T z7S [z0d 1])) [some (z0y T)])=some (T.map z3o):=by
    have hl : (T.map z3o).length≤1000000:=by rw [List.length_map,sq.1]; omega
    rw [seq_tab,z5O hl]
    exact z5C z3o fun r _=>y1Y rfl
  simp! only [z4O,hcp,z0e]
  rfl
noncomputable def ky (n : Nat) : Key:=.inl (n : Int)
noncomputable def stD (ks : List Nat) (vs : List Nat) : D:=.dct (ks.map ky) (vs.map nD)
theorem y5c {ks vs : List Nat} {y : Nat} : inK (.int (y : Int)) (stD ks vs)=some (ks.contains y):=by
  show some (y2C (ks.map ky) (.inl (y : Int)))=_
  congr 1
  unfold y2C
  rw [List.any_map,List.contains_eq_any_beq]
  congr 1
  funext z
  show decide ((Sum.inl (z : Int) : Key)=Sum.inl (y : Int))=(y == z)
  by_cases h : z=y
  · subst h; simp
  · have h1 : decide ((Sum.inl (z : Int) : Key)=Sum.inl (y : Int))=false:=decide_eq_false fun e=>h (by cases e; rfl)
    have h2 : (y == z)=false:=by rw [beq_eq_false_iff_ne]; exact fun e=>h e.symm
    rw [h1,h2]
theorem st_put {ks vs : List Nat} {x y : Nat} (h : y ∉ ks) (hl : ks.length≤1000000) : y6l (some (stD ks vs)) (some (.int (y : Int))) (some (.int (x : Int)))=some (stD (ks ++ [y]) (vs ++ [x])):=by
  show (if z1l (vs.map nD)=true∧(ks.map ky).length < sizeLine then _ else _)=_
  rw [if_pos ⟨z6W vs,by rw [List.length_map,PySem.sizeLine_eq]; omega⟩]
  have hh : y2C (ks.map ky) (.inl (y : Int))=false:=by
    have:=y5c (ks:=ks) (vs:=vs) (y:=y)
    have hc : ks.contains y=false:=by rw [← Bool.not_eq_true,List.contains_iff_mem]; exact h
    rw [hc] at this
    exact Option.some.inj this
  unfold y0J y0M stD
  rw [hh,if_neg Bool.false_ne_true,if_neg Bool.false_ne_true,List.map_append,List.map_append]
  rfl
inductive Rch (T : List (List Bool)) (m a : Nat) : Nat->Prop
  | here : Rch T m a a
  | step {x y : Nat} : Rch T m a x->y < m->at2 T x y=true->Rch T m a y
structure Stp (T : List (List Bool)) (m a : Nat) (ks : List Nat) : Prop where
  nd : ks.Nodup
  lt : ∀ x∈ks,x < m
  on : a∈ks
  rc : ∀ x∈ks,Rch T m a x
noncomputable def Cld (T : List (List Bool)) (m : Nat) (ks : List Nat) (x : Nat) : Prop:=∀ y < m,at2 T x y=true->y∈ks
theorem Stp.add {T : List (List Bool)} {m a x y : Nat} {ks : List Nat} (P : Stp T m a ks) (hx : x∈ks) (hy : y < m) (h : at2 T x y=true) (hn : y ∉ ks) : Stp T m a (ks ++ [y]):=
  ⟨List.nodup_append.mpr ⟨P.nd,by simp,fun u hu v hv z=>by rw [List.mem_singleton] at hv; exact hn (hv ▸ z ▸ hu)⟩,fun z hz=>by
    rcases List.mem_append.mp hz with q | q
    · exact P.lt z q
    · rw [List.mem_singleton.mp q]; exact hy,List.mem_append.mpr (.inl P.on),fun z hz=>by
    rcases List.mem_append.mp hz with q | q
    · exact P.rc z q
    · rw [List.mem_singleton.mp q]; exact .step (P.rc x hx) hy h⟩
theorem Stp.len {T : List (List Bool)} {m a : Nat} {ks : List Nat} (P : Stp T m a ks) : ks.length≤m:=by
  have:=List.Nodup.length_le_of_subset (l₂:=List.range m) P.nd fun x hx=>List.mem_range.mpr (P.lt x hx)
  simpa using this
theorem y6t {m : Nat} {T : List (List Bool)} (sq : Sq m T) (hm : m≤90) {a : Nat} (ha : a < m) : hol (z2s [z0y T,.int (a : Int)]) fun d=>∃ ks vs,d=stD ks vs∧Stp T m a ks∧∀ x∈ks,Cld T m ks x:=by
  refine z4e rfl ?_
  have s0 : D.dct [.inl (a : Int)] [.int (a : Int)]=stD [a] [a]:=rfl
  have f0 : z4z (some [.int (a : Int)])=some [.int (a : Int)]:=rfl
  simp! only [z4g,s0,f0,th_one]
  refine z0F (I:=fun s=>∃ ks vs o3 o4 o5 o6,s=[some (.sh (z0y T)),some (.sh (.int (a : Int))),some (.ow (stD ks vs)),o3,o4,o5,o6]∧Stp T m a ks∧∀ x∈ks,Cld T m ks x) ?_ ?_
  · refine z5c (fun n s=>∃ ks vs E o5 o6,s=[some (.sh (z0y T)),some (.sh (.int (a : Int))),some (.ow (stD ks vs)),some (.ow (thD E)),none,o5,o6]∧Stp T m a ks∧(∀ x∈E,x∈ks)∧(∀ x∈ks,x ∉ E->Cld T m ks x)∧(E≠[]->m + 1≤ks.length + n)) (n:=m) ⟨[a],[a],[a],_,_,rfl,⟨by simp,fun x hx=>by rw [List.mem_singleton.mp hx]; exact ha,by simp,fun x hx=>by rw [List.mem_singleton.mp hx]; exact .here⟩,fun x hx=>hx,fun x hx hn=>absurd hx hn,fun _=>by simp; omega⟩ ?_ (by omega)
    rintro n s ⟨ks,vs,E,o5,o6,rfl,P,hE,hC,hn⟩
    refine ⟨!E.isEmpty,by simp! only [tru_th],fun hz=>?_,fun hz=>?_⟩
    · have hz : E=[]:=by simpa using hz
      exact ⟨_,rfl,ks,vs,_,_,_,_,rfl,P,fun x hx=>hC x hx (by rw [hz]; simp)⟩
    · have hz : E≠[]:=by simpa using hz
      have hn:=hn hz
      have hl:=P.len
      refine ⟨n - 1,by omega,?_⟩
      simp! only [z4u,y3F,z1S]
      refine z0F (I:=fun s=>∃ F ws o5 o6,s=[some (.sh (z0y T)),some (.sh (.int (a : Int))),some (.ow (stD (ks ++ F) ws)),some (.sh (thD E)),some (.ow (thD F)),o5,o6]∧Stp T m a (ks ++ F)∧∀ x∈E,Cld T m (ks ++ F) x) ?_ ?_
      · refine z2Q (fun pre s=>∃ F ws o5 o6,s=[some (.sh (z0y T)),some (.sh (.int (a : Int))),some (.ow (stD (ks ++ F) ws)),some (.sh (thD E)),some (.ow (thD F)),o5,o6]∧Stp T m a (ks ++ F)∧∀ x∈pre,Cld T m (ks ++ F) x) ⟨[],vs,_,_,by rw [List.append_nil],by rw [List.append_nil]; exact P,fun x hx=>nomatch hx⟩ ?_ fun s z=>⟨s,rfl,z⟩
        rintro pre x post e s ⟨F,ws,o5,o6,rfl,P1,C1⟩
        have hxE : x∈E:=by rw [e]; simp
        have hxk:=hE x hxE
        have hxm:=P.lt x hxk
        simp! only [nD,z9a sq (show m≤1000 by omega) hxm,z1S]
        refine z2Q (fun q s=>∃ F ws o6,s=[some (.sh (z0y T)),some (.sh (.int (a : Int))),some (.ow (stD (ks ++ F) ws)),some (.sh (thD E)),some (.ow (thD F)),some (.sh (.int (x : Int))),o6]∧Stp T m a (ks ++ F)∧(∀ x∈pre,Cld T m (ks ++ F) x)∧∀ y∈q,y∈ks ++ F) ⟨F,ws,_,rfl,P1,C1,fun y hy=>nomatch hy⟩ ?_ ?_
        · rintro q y r e2 s ⟨F,ws,o6,rfl,P2,C2,Q2⟩
          have hy : y∈(List.range m).filter fun j=>at2 T x j:=by rw [e2]; simp
          have hy:=List.mem_filter.mp hy
          have hym:=List.mem_range.mp hy.1
          have hl2:=P2.len
          cases hc : (ks ++ F).contains y with
          | true=>
            simp! only [nD,y5c,hc,Option.map_some,Bool.not_true,z0e]
            refine ⟨F,ws,_,rfl,P2,C2,fun z hz=>?_⟩
            rcases List.mem_append.mp hz with z1 | z1
            · exact Q2 z z1
            · rw [List.mem_singleton.mp z1]; exact List.contains_iff_mem.mp hc
          | false=>
            have hny : y ∉ ks ++ F:=fun z=>by rw [List.contains_iff_mem.mpr z] at hc; cases hc
            have im : z8v (some [.int (y : Int)])=some [.int (y : Int)]:=z4s rfl
            have pt:=st_put (vs:=ws) (x:=x) hny (by omega)
            have ap:=y4A (th:=F) (k:=y) (by rw [List.length_append] at hl2; omega)
            have P3:=P2.add (List.mem_append.mpr (.inl hxk)) hym hy.2 hny
            rw [List.append_assoc] at P3 pt
            have sub : ∀ z,z∈ks ++ F->z∈ks ++ (F ++ [y]):=fun z hz=>by rw [← List.append_assoc]; exact List.mem_append.mpr (.inl hz)
            simp! only [nD,y5c,hc,Option.map_some,Bool.not_false,pt,im,ap,z0e]
            refine ⟨F ++ [y],_,_,rfl,P3,fun z hz w hw h=>sub w (C2 z hz w hw h),fun z hz=>?_⟩
            rcases List.mem_append.mp hz with z1 | z1
            · exact sub z (Q2 z z1)
            · rw [List.mem_singleton.mp z1]; simp
        · rintro s ⟨F,ws,o6,rfl,P2,C2,Q2⟩
          refine ⟨F,ws,_,_,rfl,P2,fun z hz=>?_⟩
          rcases List.mem_append.mp hz with z1 | z1
          · exact C2 z z1
          · rw [List.mem_singleton.mp z1]
            exact fun y hy h=>Q2 y (List.mem_filter.mpr ⟨List.mem_range.mpr hy,h⟩)
      · rintro s ⟨F,ws,o5,o6,rfl,P1,C1⟩
        simp! only [z0e]
        refine ⟨ks ++ F,ws,F,_,_,rfl,P1,fun x hx=>List.mem_append.mpr (.inr hx),fun x hx hnx=>?_,fun hF=>?_⟩
        · have hxk : x∈ks:=by
            rcases List.mem_append.mp hx with z | z
            · exact z
            · exact absurd z hnx
          by_cases hxE : x∈E
          · exact C1 x hxE
          · exact fun y hy h=>List.mem_append.mpr (.inl (hC x hxk hxE y hy h))
        · have : 0 < F.length:=List.length_pos_iff.mpr hF
          rw [List.length_append]
          omega
  · rintro s ⟨ks,vs,o3,o4,o5,o6,rfl,P,C⟩
    simp! only [z0e]
    exact ⟨_,rfl,ks,vs,rfl,P,C⟩
open Classical in
noncomputable def rcL (T : List (List Bool)) (m a : Nat) : List Nat:=(List.range m).filter fun x=>decide (Rch T m a x)
theorem rcL_mem {T : List (List Bool)} {m a x : Nat} : x∈rcL T m a↔x < m∧Rch T m a x:=by
  unfold rcL
  rw [List.mem_filter,List.mem_range]
  exact and_congr_right fun _=>@decide_eq_true_iff _ (Classical.propDecidable _)
theorem rcL_len {T : List (List Bool)} {m a : Nat} : (rcL T m a).length≤m:=by
  have:=List.length_filter_le (fun x=>@decide (Rch T m a x) (Classical.propDecidable _)) (List.range m)
  rw [List.length_range] at this
  exact this
theorem y3v : ∀ ks : List Nat,z5i (ks.map ky)=some (ks.map fun n=>((n : Nat) : Int))
  | []=>rfl
  | k :: ks=>by
    show (z5i (ks.map ky)).map (fun ns=>(k : Int) :: ns)=_
    rw [y3v ks]
    rfl
theorem y1Z {m : Nat} {T : List (List Bool)} (sq : Sq m T) (hm : m≤60) {a : Nat} (ha : a < m) : z3m [z0y T,.int (a : Int)]=some (thD (rcL T m a)):=by
  refine z0E rfl ?_
  obtain ⟨d,e,ks,vs,rfl,P,C⟩:=y6t sq (by omega) ha
  have hl:=P.len
  have hin : ∀ x,x∈ks↔x∈rcL T m a:=fun x=>by
    rw [rcL_mem]
    refine ⟨fun h=>⟨P.lt x h,P.rc x h⟩,fun h=>?_⟩
    have : ∀ y,Rch T m a y->y∈ks:=fun y r=>by
      induction r with
      | here=>exact P.on
      | step r1 hy h ih=>exact C _ ih _ hy h
    exact this x h.2
  have nd2 : (rcL T m a).Nodup:=List.Pairwise.filter _ List.nodup_range
  have pm : ((rcL T m a).map fun n=>((n : Nat) : Int)).Perm (ks.map fun n=>((n : Nat) : Int)):=((List.perm_ext_iff_of_nodup nd2 P.nd).mpr fun x=>(hin x).symm).map _
  have so : ((rcL T m a).map fun n=>((n : Nat) : Int)).Pairwise (· ≤ ·):=by
    rw [List.pairwise_map]
    refine List.Pairwise.imp ?_ (List.Pairwise.filter _ List.pairwise_lt_range)
    intro x y h
    omega
  have es:=z8j pm so
  have st : z9v [stD ks vs]=some ((rcL T m a).map nD):=by
    show ((z5i (ks.map ky)).bind fun ns=>if ns.length < 64 then some ((z8G ns).map D.int) else none)=_
    rw [y3v,Option.bind_some,if_pos (by rw [List.length_map]; omega),← es,List.map_map]
    rfl
  simp! only [z6v,e,st,z1y,y0S,z0e]
noncomputable def y2d (T : List (List Bool)) (m : Nat) : List Nat:=(List.range m).map fun a=>(rcL T m a).length
noncomputable def plL (cs : List Nat) (c : Nat) : List Nat:=(cs.zipIdx.filter fun z=>decide ((z.1 : Int)=(c : Int))).map fun z=>z.2
theorem plL_mem {cs : List Nat} {c i : Nat} : i∈plL cs c↔cs[i]? = some c:=by
  unfold plL
  rw [List.mem_map]
  constructor
  · rintro ⟨z,hz,rfl⟩
    obtain ⟨h1,h2⟩:=List.mem_filter.mp hz
    have h2 : z.1=c:=by have:=of_decide_eq_true h2; omega
    have:=List.mem_zipIdx_iff_getElem?.mp h1
    rw [this,h2]
  · intro h
    exact ⟨(c,i),List.mem_filter.mpr ⟨List.mem_zipIdx_iff_getElem?.mpr h,decide_eq_true rfl⟩,rfl⟩
theorem y2o {cs : List Nat} (hl : cs.length≤1000) (c : Nat) : z1n [thD cs,.int (c : Int)]=some (thD (plL cs c)):=by
  refine z0E rfl ?_
  have cx : z1J (some (z0t 0 (cs.map nD))) (two (z4f (z0G (d2 eqD (z0d 3) (z0d 1))) (z0d 2) [some (thD cs),some (.int (c : Int))]))=some ((plL cs c).map nD):=by
    rw [y3I (enc:=nD) (fun _ x=>decide ((x : Int)=(c : Int))) (fun i _=>nD i) hl (fun i h=>by simp! only [nD]) fun i h _=>by simp! only []; rfl]
    unfold plL
    rw [List.map_map]
    rfl
  simp! only [z3B,y2K,cx,z1y,y0S,z0e]
noncomputable def dnL (m : Nat) : List Nat:=(List.range m).map fun i=>m - i
noncomputable def rgL (T : List (List Bool)) (m : Nat) : List (List Nat):=((dnL m).filter fun c=>(y2d T m).contains c).map fun c=>plL (y2d T m) c
theorem eo_rngN {i j c : Int} (h : c = -1∧-(2 ^ 61)≤i∧i < 2 ^ 61∧-(2 ^ 61)≤j∧j < 2 ^ 61) : rngN (some (.int i)) (some (.int j)) (some (.int c))=some (y4s i (-1) (i - j).toNat):=if_pos h
theorem y1n {m : Nat} {T : List (List Bool)} (sq : Sq m T) (hm : m≤60) : z4Q [z0y T]=some (.lst ((rgL T m).map thD)):=by
  refine z0E rfl ?_
  have hcl : (y2d T m).length=m:=by simp [y2d]
  have c1 : z1J (some (z5a 0 m)) (z2x z6h (z0l z3c [z0l z3m [z0d 0,z0d 2]]) [some (z0y T),none])=some ((y2d T m).map nD):=by
    rw [z2t,z5W (enc:=nD) (xs:=List.range m) (fun a=>nD (rcL T m a).length) (by simp; omega) fun a ha=>by simp! only [nD,y1Z sq hm (List.mem_range.mp ha),z1U]]
    unfold y2d
    rw [List.map_map]
    rfl
  have rn : rngN (some (.int (m : Int))) (some (.int 0)) (some (.int (-1)))=some ((dnL m).map nD):=by
    have hz : ((m : Int) - 0).toNat=m:=by omega
    have e1 : rngN (some (.int (m : Int))) (some (.int 0)) (some (.int (-1)))=some (y4s (m : Int) (-1) ((m : Int) - 0).toNat):=eo_rngN ⟨rfl,by omega,by omega,by omega,by omega⟩
    have e2 : y4s (m : Int) (-1) m=(dnL m).map nD:=by
      unfold y4s dnL
      rw [List.map_map]
      refine List.map_congr_left fun i hi=>?_
      have:=List.mem_range.mp hi
      have e : (m : Int) + (i : Int) * (-1)=((m - i : Nat) : Int):=by omega
      exact congrArg D.int e
    rw [e1,hz,e2]
  have c2 : z1J (some ((dnL m).map nD)) (z2x (z0G (d2 inD (z0d 2) (z0d 1))) (z0l z1n [z0d 1,z0d 2]) [some (z0y T),some (thD (y2d T m))])=some ((rgL T m).map thD):=by
    rw [z6a (enc:=nD) (xs:=dnL m) (fun c=>(y2d T m).contains c) (fun c=>thD (plL (y2d T m) c)) (by simp [dnL]; omega) (fun c hc=>by simp! only [nD,in_ths]) fun c hc _=>by simp! only [nD,y2o (show (y2d T m).length≤1000 by omega)]]
    unfold rgL
    rw [List.map_map]
    rfl
  simp! only [y0H,z3M,sq.1,z0H (show m≤1000000 by omega),c1,z1y,y0S,rn,c2,z0e]
theorem Rch.trans {T : List (List Bool)} {m a b c : Nat} (h : Rch T m a b) (h2 : Rch T m b c) : Rch T m a c:=by
  induction h2 with
  | here=>exact h
  | step _ hy e ih=>exact .step ih hy e
theorem rch_tot {T : List (List Bool)} {m a b : Nat} (F : Full m T) (ha : a < m) (hb : b < m) : Rch T m a b∨Rch T m b a:=by
  by_cases e : a=b
  · rw [e]; exact .inl .here
  · cases h : at2 T a b with
    | true=>exact .inl (.step .here hb h)
    | false=>exact .inr (.step .here ha (by rw [F.two b hb a ha (Ne.symm e),h]; rfl))
theorem y7B {T : List (List Bool)} {m a : Nat} : (rcL T m a).Nodup:=List.Pairwise.filter _ List.nodup_range
theorem z4W {T : List (List Bool)} {m a b : Nat} (F : Full m T) (ha : a < m) (hb : b < m) : Rch T m a b↔(rcL T m b).length≤(rcL T m a).length:=by
  constructor
  · intro h
    exact List.Nodup.length_le_of_subset y7B fun x hx=>rcL_mem.mpr ⟨(rcL_mem.mp hx).1,h.trans (rcL_mem.mp hx).2⟩
  · intro h
    by_cases hn : Rch T m a b
    · exact hn
    · have h2 : Rch T m b a:=(rch_tot F ha hb).resolve_left hn
      have nd : (b :: rcL T m a).Nodup:=List.nodup_cons.mpr ⟨fun z=>hn (rcL_mem.mp z).2,y7B⟩
      have : (b :: rcL T m a).length≤(rcL T m b).length:=List.Nodup.length_le_of_subset nd fun x hx=>by
        rcases List.mem_cons.mp hx with z | z
        · rw [z]; exact rcL_mem.mpr ⟨hb,.here⟩
        · exact rcL_mem.mpr ⟨(rcL_mem.mp z).1,h2.trans (rcL_mem.mp z).2⟩
      rw [List.length_cons] at this
      omega
theorem y3P {T : List (List Bool)} {m a b : Nat} (F : Full m T) (ha : a < m) (hb : b < m) (h : (rcL T m b).length < (rcL T m a).length) : at2 T a b=true:=by
  cases e : at2 T a b with
  | true=>rfl
  | false=>
    have hab : a≠b:=fun z=>by rw [z] at h; omega
    have h1 : Rch T m b a:=.step .here ha (by rw [F.two b hb a ha (Ne.symm hab),e]; rfl)
    have:=(z4W F hb ha).mp h1
    omega
theorem rch_pos {T : List (List Bool)} {m a : Nat} (ha : a < m) : 0 < (rcL T m a).length:=List.length_pos_of_mem (rcL_mem.mpr ⟨ha,.here⟩)
theorem uniqL {α : Type} {R : α->α->Prop} (as : ∀ x y,R x y->R y x->False) : ∀ {l l' : List α},l.Pairwise R->l'.Pairwise R->(∀ x,x∈l↔x∈l')->l=l'
  | [],[],_,_,_=>rfl
  | [],b :: l',_,_,h=>by have:=(h b).mpr List.mem_cons_self; cases this
  | a :: l,[],_,_,h=>by have:=(h a).mp List.mem_cons_self; cases this
  | a :: l,b :: l',p,p',h=>by
    have p1:=List.pairwise_cons.mp p
    have p2:=List.pairwise_cons.mp p'
    have e : a=b:=by
      rcases List.mem_cons.mp ((h a).mp List.mem_cons_self) with z | z
      · exact z
      · rcases List.mem_cons.mp ((h b).mpr List.mem_cons_self) with y | y
        · exact y.symm
        · exact (as a b (p1.1 b y) (p2.1 a z)).elim
    subst e
    refine congrArg _ (uniqL as p1.2 p2.2 fun x=>⟨fun hx=>?_,fun hx=>?_⟩)
    · rcases List.mem_cons.mp ((h x).mp (List.mem_cons_of_mem _ hx)) with z | z
      · subst z; exact (as x x (p1.1 x hx) (p1.1 x hx)).elim
      · exact z
    · rcases List.mem_cons.mp ((h x).mpr (List.mem_cons_of_mem _ hx)) with z | z
      · subst z; exact (as x x (p2.1 x hx) (p2.1 x hx)).elim
      · exact z
noncomputable def Upp (f : Nat->Nat) (r s : List Nat) : Prop:=r≠[]∧s≠[]∧∀ a∈r,∀ b∈s,f b < f a
noncomputable def cls (m : Nat) (f : Nat->Nat) (a : Nat) : List Nat:=(List.range m).filter fun b=>decide (f b=f a)
structure Rgs (m : Nat) (f : Nat->Nat) (L : List (List Nat)) : Prop where
  pw : L.Pairwise (Upp f)
  mem : ∀ r,r∈L↔∃ a < m,r=cls m f a
theorem y2j {cs : List Nat} {c : Nat} : (plL cs c).Pairwise (· < ·):=by
  unfold plL
  rw [List.pairwise_map]
  refine List.Pairwise.filter _ ?_
  have h : (cs.zipIdx.map fun z=>z.2).Pairwise (· < ·):=by
    rw [show (cs.zipIdx.map fun z=>z.2)=List.range' 0 cs.length from List.zipIdx_map_snd 0 cs]
    exact List.pairwise_lt_range'
  exact List.pairwise_map.mp h
theorem z7Z {T : List (List Bool)} {m : Nat} : Rgs m (fun a=>(rcL T m a).length) (rgL T m):=by
  have hc : ∀ a c,(y2d T m)[a]? = some c↔a < m∧(rcL T m a).length=c:=fun a c=>by
    unfold y2d
    rw [List.getElem?_map]
    by_cases h : a < m
    · rw [List.getElem?_range h]
      simp [h]
    · rw [List.getElem?_eq_none (by simp; omega)]
      simp [h]
  have pe : ∀ a < m,plL (y2d T m) (rcL T m a).length=cls m (fun a=>(rcL T m a).length) a:=fun a ha=>
    uniqL (R:=(· < ·)) (fun x y h h'=>by omega) y2j (List.Pairwise.filter _ List.pairwise_lt_range) fun x=>by
      rw [plL_mem,hc]
      unfold cls
      rw [List.mem_filter,List.mem_range,decide_eq_true_iff]
  refine ⟨?_,fun r=>?_⟩
  · unfold rgL
    rw [List.pairwise_map]
    have hd : (dnL m).Pairwise (· > ·):=by
      unfold dnL
      rw [List.pairwise_map]
      refine List.Pairwise.imp_of_mem ?_ List.pairwise_lt_range
      intro x y hx hy h
      have:=List.mem_range.mp hy
      show m - y < m - x
      omega
    refine List.Pairwise.imp_of_mem ?_ (List.Pairwise.filter _ hd)
    intro c d hcm hdm hcd
    have hcm:=(List.mem_filter.mp hcm).2
    have hdm:=(List.mem_filter.mp hdm).2
    obtain ⟨i,hi⟩:=List.getElem?_of_mem (List.contains_iff_mem.mp hcm)
    obtain ⟨j,hj⟩:=List.getElem?_of_mem (List.contains_iff_mem.mp hdm)
    refine ⟨List.ne_nil_of_mem (plL_mem.mpr hi),List.ne_nil_of_mem (plL_mem.mpr hj),fun a ha b hb=>?_⟩
    have h1:=(hc a c).mp (plL_mem.mp ha)
    have h2:=(hc b d).mp (plL_mem.mp hb)
    show (rcL T m b).length < (rcL T m a).length
    have : c > d:=hcd
    omega
  · unfold rgL
    rw [List.mem_map]
    constructor
    · rintro ⟨c,hcm,rfl⟩
      have hcm:=(List.mem_filter.mp hcm).2
      obtain ⟨i,hi⟩:=List.getElem?_of_mem (List.contains_iff_mem.mp hcm)
      have h1:=(hc i c).mp hi
      exact ⟨i,h1.1,by rw [← h1.2,pe i h1.1]⟩
    · rintro ⟨a,ha,rfl⟩
      refine ⟨(rcL T m a).length,List.mem_filter.mpr ⟨?_,List.contains_iff_mem.mpr (List.mem_of_getElem? ((hc a _).mpr ⟨ha,rfl⟩))⟩,pe a ha⟩
      unfold dnL
      have h1:=rcL_len (T:=T) (m:=m) (a:=a)
      have h2:=rch_pos (T:=T) ha
      exact List.mem_map.mpr ⟨m - (rcL T m a).length,List.mem_range.mpr (by omega),by omega⟩
noncomputable def wk (T : List (List Bool)) : Nat->List Nat->Prop
  | _,[]=>True
  | x,y :: r=>at2 T x y=true∧wk T y r
noncomputable def lsN : Nat->List Nat->Nat
  | x,[]=>x
  | _,y :: r=>lsN y r
theorem z4I : ∀ {a : List Nat} {x : Nat} {b : List Nat},lsN x (a ++ b)=lsN (lsN x a) b
  | [],_,_=>rfl
  | _ :: a,_,b=>z4I (a:=a) (b:=b)
theorem wk_app {T : List (List Bool)} : ∀ {a : List Nat} {x : Nat} {b : List Nat},wk T x (a ++ b)↔wk T x a∧wk T (lsN x a) b
  | [],_,_=>⟨fun h=>⟨trivial,h⟩,fun h=>h.2⟩
  | y :: a,x,b=>by
    have ih:=wk_app (T:=T) (a:=a) (x:=y) (b:=b)
    constructor
    · rintro ⟨h1,h2⟩
      exact ⟨⟨h1,(ih.mp h2).1⟩,(ih.mp h2).2⟩
    · rintro ⟨⟨h1,h2⟩,h3⟩
      exact ⟨h1,ih.mpr ⟨h2,h3⟩⟩
theorem y5i : ∀ {a : List Nat} {x : Nat},lsN x a∈x :: a
  | [],_=>List.mem_cons_self
  | y :: a,x=>List.mem_cons_of_mem _ (y5i (a:=a) (x:=y))
theorem y6M {a : List Nat} {c x : Nat} : lsN c (a ++ [x])=x:=z4I
structure Cyc (T : List (List Bool)) (c : Nat) (r : List Nat) : Prop where
  nd : (c :: r).Nodup
  wk : wk T c r
  cl : r≠[]->at2 T (lsN c r) c=true
inductive Det (T : List (List Bool)) (L : List Nat) (h b : Nat) : List Nat->Prop
  | one {x : Nat} : x∈L->at2 T h x=true->at2 T x b=true->Det T L h b [x]
  | two {x y : Nat} : x∈L->y∈L->at2 T h x=true->at2 T x y=true->at2 T y b=true->Det T L h b [x,y]
noncomputable def y0c (T : List (List Bool)) (L : List Nat) (h b : Nat) : Prop:=(∀ x∈L,at2 T h x=true->at2 T x b=true->False)∧∀ x∈L,∀ y∈L,at2 T h x=true->at2 T x y=true->at2 T y b=true->False
theorem Det.wk {T : List (List Bool)} {L : List Nat} {h b : Nat} {w : List Nat} (D : Det T L h b w) : wk T h w∧at2 T (lsN h w) b=true∧w≠[]∧(∀ x∈w,x∈L):=by
  cases D with
  | one h1 h2 h3=>exact ⟨⟨h2,trivial⟩,h3,by simp,fun x hx=>by rw [List.mem_singleton.mp hx]; exact h1⟩
  | two h1 h2 h3 h4 h5=>exact ⟨⟨h3,h4,trivial⟩,h5,by simp,fun x hx=>by
      rcases List.mem_cons.mp hx with z | z
      · rw [z]; exact h1
      · rw [List.mem_singleton.mp z]; exact h2⟩
theorem Det.nd {m : Nat} {T : List (List Bool)} (own : ∀ i < m,at2 T i i=false) {L : List Nat} (lt : ∀ x∈L,x < m) {h b : Nat} {w : List Nat} (D : Det T L h b w) : w.Nodup:=by
  cases D with
  | one h1 h2 h3=>simp
  | @two x y h1 h2 h3 h4 h5=>
    have : x≠y:=fun z=>by
      subst z
      rw [own x (lt x h1)] at h4
      cases h4
    simp [this]
theorem Cyc.put {m : Nat} {T : List (List Bool)} (own : ∀ i < m,at2 T i i=false) {c : Nat} {a b : List Nat} (C : Cyc T c (a ++ b)) {L w : List Nat} (lt : ∀ x∈L,x < m) (hL : ∀ x∈L,x ∉ c :: (a ++ b)) (D : Det T L (lsN c a) (b.headD c) w) : Cyc T c (a ++ w ++ b):=by
  obtain ⟨d1,d2,d3,d4⟩:=D.wk
  have hw:=D.nd own lt
  have cw:=wk_app.mp C.wk
  refine ⟨?_,?_,fun _=>?_⟩
  · have p : (c :: (a ++ w ++ b)).Perm (w ++ (c :: (a ++ b))):=by
      have p1 : (a ++ w ++ b).Perm (w ++ (a ++ b)):=by
        rw [← List.append_assoc w a b]
        exact (List.perm_append_comm (l₁:=a) (l₂:=w)).append_right b
      exact (p1.cons c).trans List.perm_middle.symm
    rw [p.nodup_iff,List.nodup_append]
    exact ⟨hw,C.nd,fun x hx y hy e=>hL x (d4 x hx) (e ▸ hy)⟩
  · rw [wk_app,wk_app,z4I]
    refine ⟨⟨cw.1,d1⟩,?_⟩
    cases b with
    | nil=>exact trivial
    | cons y b=>exact ⟨d2,cw.2.2⟩
  · rw [z4I,z4I]
    cases b with
    | nil=>exact d2
    | cons y b=>
      have:=C.cl (by simp)
      rw [z4I] at this
      exact this
theorem Cyc.all {c : Nat} {r : List Nat} {P : Nat->Prop} (H : ∀ pre x post,c :: r=pre ++ x :: post->P x->P (post.headD c)) {x : Nat} (hx : x∈c :: r) (hp : P x) : ∀ y∈c :: r,P y:=by
  have h0 : ∀ (post pre : List Nat) (x : Nat),c :: r=pre ++ x :: post->P x->P c:=fun post=>by
    induction post with
    | nil=>exact fun pre x e h=>H pre x [] e h
    | cons y post ih=>exact fun pre x e h=>ih (pre ++ [x]) y (by rw [e]; simp) (H pre x (y :: post) e h)
  obtain ⟨pre,post,e⟩:=List.append_of_mem hx
  have hc:=h0 post pre x e hp
  have h1 : ∀ (post pre : List Nat) (x : Nat),c :: r=pre ++ x :: post->P x->∀ y∈x :: post,P y:=fun post=>by
    induction post with
    | nil=>exact fun pre x e h y hy=>by rw [List.mem_singleton.mp hy]; exact h
    | cons z post ih=>
      intro pre x e h y hy
      rcases List.mem_cons.mp hy with q | q
      · rw [q]; exact h
      · exact ih (pre ++ [x]) z (by rw [e]; simp) (H pre x (z :: post) e h) y q
  exact h1 r [] c rfl hc
noncomputable def Stg (T : List (List Bool)) (R : List Nat) : Prop:=∀ S : Nat->Prop,(∃ x∈R,S x)->(∃ y∈R,¬S y)->∃ x∈R,∃ y∈R,S x∧¬S y∧at2 T x y=true
theorem Full.tot {m : Nat} {T : List (List Bool)} (F : Full m T) {x y : Nat} (hx : x < m) (hy : y < m) (hne : x≠y) : at2 T x y=true∨at2 T y x=true:=by
  have:=F.two x hx y hy hne
  cases h : at2 T x y with
  | true=>exact .inl rfl
  | false=>
    rw [h] at this
    cases h2 : at2 T y x with
    | true=>exact .inr rfl
    | false=>rw [h2] at this; cases this
theorem Full.no {m : Nat} {T : List (List Bool)} (F : Full m T) {x y : Nat} (hx : x < m) (hy : y < m) (h1 : at2 T x y=true) (h2 : at2 T y x=true) : False:=by
  by_cases hne : x=y
  · subst hne
    rw [F.own x hx] at h1
    cases h1
  · have:=F.two x hx y hy hne
    rw [h1,h2] at this
    cases this
theorem Cyc.full {m : Nat} {T : List (List Bool)} (F : Full m T) {R : List Nat} (lt : ∀ x∈R,x < m) (hR : Stg T R) {c : Nat} {r : List Nat} (hsub : ∀ x∈c :: r,x∈R) {L : List Nat} (hL : ∀ x,x∈L↔x∈R∧x ∉ c :: r) (no : ∀ pre x post,c :: r=pre ++ x :: post->y0c T L x (post.headD c)) : ∀ x∈R,x∈c :: r:=by
  intro z0 hz0
  apply Classical.byContradiction
  intro hn0
  have hd : ∀ {pre : List Nat} {x : Nat} {post : List Nat},c :: r=pre ++ x :: post->post.headD c∈c :: r:=fun {pre x post} e=>by
    cases post with
    | nil=>exact List.mem_cons_self
    | cons y post=>rw [e]; simp
  have two : ∀ z∈L,∀ x∈c :: r,at2 T x z=true->∀ y∈c :: r,at2 T y z=true:=fun z hz x hx hxz=>by
    obtain ⟨hzR,hzn⟩:=(hL z).mp hz
    refine Cyc.all (P:=fun x=>at2 T x z=true) (fun pre x post e hp=>?_) hx hxz
    have hb:=hd e
    have hne : post.headD c≠z:=fun q=>hzn (q ▸ hb)
    rcases F.tot (lt _ (hsub _ hb)) (lt z hzR) hne with w | w
    · exact w
    · exact absurd w fun w=>(no pre x post e).1 z hz hp w
  obtain ⟨x1,hx1,b,hb,s1,s2,hxb⟩:=hR (fun x=>x∈c :: r) ⟨c,hsub c List.mem_cons_self,List.mem_cons_self⟩ ⟨z0,hz0,hn0⟩
  have hbL : b∈L:=(hL b).mpr ⟨hb,s2⟩
  have hbB:=two b hbL x1 s1 hxb
  obtain ⟨x2,hx2,a,ha,t1,t2,hxa⟩:=hR (fun z=>z∈L∧∀ y∈c :: r,at2 T y z=true) ⟨b,hb,hbL,hbB⟩ ⟨c,hsub c List.mem_cons_self,fun q=>((hL c).mp q.1).2 List.mem_cons_self⟩
  have hac : a ∉ c :: r:=fun q=>F.no (lt x2 hx2) (lt a ha) hxa (t1.2 a q)
  have haL : a∈L:=(hL a).mpr ⟨ha,hac⟩
  have haA : ∀ y∈c :: r,at2 T a y=true:=fun y hy=>by
    have hne : a≠y:=fun q=>hac (q ▸ hy)
    rcases F.tot (lt a ha) (lt y (hsub y hy)) hne with w | w
    · exact w
    · exact absurd ⟨haL,two a haL y hy w⟩ t2
  exact (no [] c r rfl).2 x2 t1.1 a haL (t1.2 c List.mem_cons_self) hxa (haA _ (hd (pre:=[]) (x:=c) (post:=r) rfl))
theorem y7e {m : Nat} {T : List (List Bool)} (F : Full m T) {a : Nat} : Stg T (cls m (fun a=>(rcL T m a).length) a):=by
  rintro S ⟨x0,hx0,sx⟩ ⟨y0,hy0,sy⟩
  apply Classical.byContradiction
  intro hn
  obtain ⟨hx1,hx2⟩:=List.mem_filter.mp hx0
  obtain ⟨hy1,hy2⟩:=List.mem_filter.mp hy0
  have hx1:=List.mem_range.mp hx1
  have hy1:=List.mem_range.mp hy1
  have hx2 : (rcL T m x0).length=(rcL T m a).length:=of_decide_eq_true hx2
  have hy2 : (rcL T m y0).length=(rcL T m a).length:=of_decide_eq_true hy2
  have hr : Rch T m x0 y0:=(z4W F hx1 hy1).mpr (by omega)
  have key : ∀ z,Rch T m x0 z->z < m∧((rcL T m z).length < (rcL T m a).length∨((rcL T m z).length=(rcL T m a).length∧S z)):=fun z h=>by
    induction h with
    | here=>exact ⟨hx1,.inr ⟨hx2,sx⟩⟩
    | @step x y _ hy hxy ih=>
      refine ⟨hy,?_⟩
      have le : (rcL T m y).length≤(rcL T m x).length:=(z4W F ih.1 hy).mp (.step .here hy hxy)
      rcases ih.2 with q | ⟨q1,q2⟩
      · exact .inl (by omega)
      · by_cases hc : (rcL T m y).length=(rcL T m a).length
        · refine .inr ⟨hc,Classical.byContradiction fun ns=>hn ⟨x,List.mem_filter.mpr ⟨List.mem_range.mpr ih.1,decide_eq_true q1⟩,y,List.mem_filter.mpr ⟨List.mem_range.mpr hy,decide_eq_true hc⟩,q2,ns,hxy⟩⟩
        · exact .inl (by omega)
  rcases (key y0 hr).2 with q | q
  · omega
  · exact sy q.2
theorem z5m {x : Option Out} {b : SS->Option Out} {I : SS->Prop} {Q : D->Prop} (h : hol x fun o=>(∃ s,o = .nx s∧I s)∨∃ d,o = .rt d∧Q d) (k : ∀ s,I s->hol (b s) fun o=>∃ d,o = .rt d∧Q d) : hol (z8J x b) fun o=>∃ d,o = .rt d∧Q d:=by
  obtain ⟨o,rfl,q⟩:=h
  rcases q with ⟨s,rfl,q⟩ | ⟨d,rfl,q⟩
  · exact k s q
  · exact ⟨_,rfl,d,rfl,q⟩
theorem y4X {m : Nat} {T : List (List Bool)} (sq : Sq m T) {h b : Nat} (hh : h < m) (hb : b < m) {L : List Nat} (lt : ∀ x∈L,x < m) : hol (z4o [z0y T,.int (h : Int),.int (b : Int),thD L]) fun d=>∃ w,d=thD w∧(Det T L h b w∨(w=[]∧y0c T L h b)):=by
  refine z4e rfl ?_
  simp! only [z8k,z1S]
  refine z5m (I:=fun s=>∃ o4,s=[some (.sh (z0y T)),some (.sh (.int (h : Int))),some (.sh (.int (b : Int))),some (.sh (thD L)),o4,none]∧∀ x∈L,at2 T h x=true->at2 T x b=true->False) ?_ ?_
  · refine z2Q (enc:=nD) (fun pre s=>∃ o4,s=[some (.sh (z0y T)),some (.sh (.int (h : Int))),some (.sh (.int (b : Int))),some (.sh (thD L)),o4,none]∧∀ x∈pre,at2 T h x=true->at2 T x b=true->False) ⟨_,rfl,fun x hx=>(by cases hx)⟩ ?_ fun s z=>.inl ⟨s,rfl,z⟩
    rintro pre x post e s ⟨o4,rfl,hp⟩
    have hxL : x∈L:=by rw [e]; simp
    have hx:=lt x hxL
    have w1 : z4z (some [D.int (x : Int)])=some ([x].map nD):=rfl
    have i1:=ix2 sq hh hx
    have i2:=ix2 sq hx hb
    obtain ⟨p,h1⟩ : ∃ p,at2 T h x=p:=⟨_,rfl⟩
    obtain ⟨q,h2⟩ : ∃ q,at2 T x b=q:=⟨_,rfl⟩
    rw [h1] at i1
    rw [h2] at i2
    have more : (p && q)=false->∀ y∈pre ++ [x],at2 T h y=true->at2 T y b=true->False:=fun hk y hy=>by
      rcases List.mem_append.mp hy with z | z
      · exact hp y z
      · rw [List.mem_singleton.mp z,h1,h2]
        intro g1 g2
        rw [g1,g2] at hk
        cases hk
    cases hpq : p && q with
    | false=>
      have mr:=more hpq
      simp! only [nD,i1,i2,hpq,z0e]
      exact ⟨_,rfl,mr⟩
    | true=>
      obtain ⟨g1,g2⟩:=Bool.and_eq_true_iff.mp hpq
      simp! only [nD,i1,i2,hpq,w1,z0e]
      exact .inr ⟨_,rfl,[x],rfl,.inl (.one hxL (h1.trans g1) (h2.trans g2))⟩
  · rintro s ⟨o4,rfl,hn1⟩
    simp! only [z1S]
    refine z5m (I:=fun s=>∀ x∈L,∀ y∈L,at2 T h x=true->at2 T x y=true->at2 T y b=true->False) ?_ ?_
    · refine z2Q (enc:=nD) (fun pre s=>∃ o4 o5,s=[some (.sh (z0y T)),some (.sh (.int (h : Int))),some (.sh (.int (b : Int))),some (.sh (thD L)),o4,o5]∧∀ x∈pre,∀ y∈L,at2 T h x=true->at2 T x y=true->at2 T y b=true->False) ⟨_,_,rfl,fun x hx=>(by cases hx)⟩ ?_ fun s ⟨_,_,_,z⟩=>.inl ⟨s,rfl,z⟩
      rintro pre x post e s ⟨o4,o5,rfl,hp⟩
      have hxL : x∈L:=by rw [e]; simp
      have hx:=lt x hxL
      simp! only [z1S]
      have key : hol (z7e 5 (ifO (z3y (z0v (d2 ixD (d2 ixD (z0d 0) (z0d 1)) (z0d 4))) (z3y (z0v (d2 ixD (d2 ixD (z0d 0) (z0d 4)) (z0d 5))) (z0v (d2 ixD (d2 ixD (z0d 0) (z0d 5)) (z0d 2))))) (z8F (z0u (z0k [z0d 4,z0d 5]))) z1z) (L.map nD) [some (.sh (z0y T)),some (.sh (.int (h : Int))),some (.sh (.int (b : Int))),some (.sh (thD L)),some (.sh (nD x)),o5]) fun o=>(∃ s,o = .nx s∧∃ o5,s=[some (.sh (z0y T)),some (.sh (.int (h : Int))),some (.sh (.int (b : Int))),some (.sh (thD L)),some (.sh (nD x)),o5]∧∀ y∈L,at2 T h x=true->at2 T x y=true->at2 T y b=true->False)∨∃ d,o = .rt d∧∃ w,d=thD w∧(Det T L h b w∨(w=[]∧y0c T L h b)):=by
        refine z2Q (enc:=nD) (fun pre s=>∃ o5,s=[some (.sh (z0y T)),some (.sh (.int (h : Int))),some (.sh (.int (b : Int))),some (.sh (thD L)),some (.sh (nD x)),o5]∧∀ y∈pre,at2 T h x=true->at2 T x y=true->at2 T y b=true->False) ⟨_,rfl,fun x hx=>(by cases hx)⟩ ?_ fun s z=>.inl ⟨s,rfl,z⟩
        rintro pre y post e s ⟨o5,rfl,hq⟩
        have hyL : y∈L:=by rw [e]; simp
        have hy:=lt y hyL
        have w2 : z4z (some [D.int (x : Int),D.int (y : Int)])=some ([x,y].map nD):=rfl
        have i1:=ix2 sq hh hx
        have i2:=ix2 sq hx hy
        have i3:=ix2 sq hy hb
        obtain ⟨p1,h1⟩ : ∃ p,at2 T h x=p:=⟨_,rfl⟩
        obtain ⟨p2,h2⟩ : ∃ q,at2 T x y=q:=⟨_,rfl⟩
        obtain ⟨p3,h3⟩ : ∃ q,at2 T y b=q:=⟨_,rfl⟩
        rw [h1] at i1
        rw [h2] at i2
        rw [h3] at i3
        have more : (p1 && (p2 && p3))=false->∀ z∈pre ++ [y],at2 T h x=true->at2 T x z=true->at2 T z b=true->False:=fun hk z hz=>by
          rcases List.mem_append.mp hz with q | q
          · exact hq z q
          · rw [List.mem_singleton.mp q,h1,h2,h3]
            intro g1 g2 g3
            rw [g1,g2,g3] at hk
            cases hk
        cases hpq : p1 && (p2 && p3) with
        | false=>
          have mr:=more hpq
          simp! only [nD,i1,i2,i3,hpq,z0e]
          exact ⟨_,rfl,mr⟩
        | true=>
          obtain ⟨g1,g2⟩:=Bool.and_eq_true_iff.mp hpq
          obtain ⟨g2,g3⟩:=Bool.and_eq_true_iff.mp g2
          simp! only [nD,i1,i2,i3,hpq,w2,z0e]
          exact .inr ⟨_,rfl,[x,y],rfl,.inl (.two hxL hyL (h1.trans g1) (h2.trans g2) (h3.trans g3))⟩
      obtain ⟨o,eo,q⟩:=key
      refine ⟨o,eo,?_⟩
      rcases q with ⟨s',rfl,o5',rfl,hq⟩ | ⟨d,rfl,hq⟩
      · refine ⟨_,_,rfl,fun z hz=>?_⟩
        rcases List.mem_append.mp hz with w | w
        · exact hp z w
        · rw [List.mem_singleton.mp w]; exact hq
      · exact .inr ⟨d,rfl,hq⟩
    · intro s hn2
      have w0 : z4z (some ([] : List D))=some (([] : List Nat).map nD):=rfl
      simp! only [w0,z0e]
      exact ⟨_,rfl,[],rfl,.inr ⟨rfl,hn1,hn2⟩⟩
theorem cut_up {o : List Nat} {k : Nat} (h : k + 1≤o.length) : y5m (some (thD o)) (some none) (some (some ((k : Int) + 1)))=some ((o.take (k + 1)).map nD):=by
  show some (z8E (o.map nD) none (some ((k + 1 : Nat) : Int)))=_
  rw [z5t (by simpa using h),List.map_take]
noncomputable def z7h (C R : List Nat) : List Nat:=R.filter fun x=>!C.contains x
theorem left_mem {C R : List Nat} {x : Nat} : x∈z7h C R↔x∈R∧x ∉ C:=by
  unfold z7h
  rw [List.mem_filter]
  refine and_congr_right fun _=>?_
  constructor
  · intro h hc
    rw [List.contains_iff_mem.mpr hc] at h
    cases h
  · intro h
    have : C.contains x=false:=by rw [← Bool.not_eq_true,List.contains_iff_mem]; exact h
    rw [this]
    rfl
theorem y3o {c : Nat} {r pre post : List Nat} {x : Nat} (e : c :: r=pre ++ x :: post) : ∃ k : Nat,((pre.length : Int) + 1) % ((c :: r).length : Int)=(k : Int)∧ixD (thD (c :: r)) (.int (k : Int))=some (.int ((post.headD c : Nat) : Int)):=by
  have hl : (c :: r).length=pre.length + 1 + post.length:=by rw [e]; simp; omega
  rw [hl]
  cases post with
  | nil=>
    refine ⟨0,?_,ix0⟩
    show ((pre.length : Int) + 1) % ((pre.length + 1 + 0 : Nat) : Int)=0
    have : ((pre.length + 1 + 0 : Nat) : Int)=(pre.length : Int) + 1:=by omega
    rw [this,Int.emod_self]
  | cons y post=>
    refine ⟨pre.length + 1,?_,?_⟩
    · have : ((pre.length + 1 : Nat) : Int)=(pre.length : Int) + 1:=by omega
      rw [← this]
      exact Int.emod_eq_of_lt (by omega) (by simp; omega)
    · refine z7s ?_
      rw [List.getElem?_map,e]
      have : (pre ++ x :: y :: post)[pre.length + 1]? = some y:=by
        rw [List.getElem?_append_right (by omega)]
        have : pre.length + 1 - pre.length=1:=by omega
        rw [this]
        rfl
      rw [this]
      rfl
inductive Wid (T : List (List Bool)) (R : List Nat) (c : Nat) (r : List Nat) : List Nat->Prop
  | same : (∀ pre x post,c :: r=pre ++ x :: post->y0c T (z7h (c :: r) R) x (post.headD c))->Wid T R c r (c :: r)
  | more {pre post w : List Nat} {x : Nat} : c :: r=pre ++ x :: post->Det T (z7h (c :: r) R) x (post.headD c) w->Wid T R c r (pre ++ [x] ++ w ++ post)
theorem y2z {m : Nat} {T : List (List Bool)} (sq : Sq m T) {c : Nat} {r R : List Nat} (hl : (c :: r).length≤1000) (hRl : R.length≤1000) (lt : ∀ x∈c :: r,x < m) (ltR : ∀ x∈R,x < m) : hol (z2T [z0y T,thD (c :: r),thD R]) fun d=>∃ C,d=thD C∧Wid T R c r C:=by
  refine z4e rfl ?_
  have ib:=@y3o c r
  have hdl : ∀ {pre : List Nat} {x : Nat} {post : List Nat},c :: r=pre ++ x :: post->post.headD c∈c :: r:=fun {pre x post} e=>by
    cases post with
    | nil=>exact List.mem_cons_self
    | cons y post=>rw [e]; simp
  have wsame:=@Wid.same T R c r
  have wmore:=@Wid.more T R c r
  obtain ⟨C,hC⟩ : ∃ C,C=c :: r:=⟨_,rfl⟩
  rw [← hC] at ib hl lt wsame wmore hdl ⊢
  have cx : ∀ d3 d4 d5 d6 d7 : Option D,z1J (some (R.map nD)) (z2x (z0G (d2 y0Q (z0d 8) (z0d 1))) (z0d 8) [some (z0y T),some (thD C),some (thD R),d3,d4,d5,d6,d7])=some ((z7h C R).map nD):=fun d3 d4 d5 d6 d7=>
    z6a (fun x=>!C.contains x) nD hRl (fun x hx=>by simp! only [nD,z3v]) fun x _ _=>by simp! only []
  have tl : ∀ W : List Nat,D.lst (W.map nD)=thD W:=fun _=>rfl
  have ltL : ∀ x∈z7h C R,x < m:=fun x hx=>ltR x (left_mem.mp hx).1
  have lll : (z7h C R).length≤1000:=Nat.le_trans (List.length_filter_le _ _) hRl
  obtain ⟨L,hL⟩ : ∃ L,L=z7h C R:=⟨_,rfl⟩
  rw [← hL] at cx ltL lll wsame wmore
  have en : z9H (thD C)=some (z0t 0 (C.map nD)):=rfl
  simp! only [z6L,z1S,cx,tl,en]
  refine z5m (I:=fun s=>∃ o4 o5 o6 o7,s=[some (.sh (z0y T)),some (.sh (thD C)),some (.sh (thD R)),some (.sh (thD L)),o4,o5,o6,o7]∧∀ pre x post,C=pre ++ x :: post->y0c T L x (post.headD c)) ?_ ?_
  · refine z8c (enc:=nD) (xs:=C) (fun p s=>∃ o4 o5 o6 o7,s=[some (.sh (z0y T)),some (.sh (thD C)),some (.sh (thD R)),some (.sh (thD L)),o4,o5,o6,o7]∧∀ pre x post,C=pre ++ x :: post->pre.length < p.length->y0c T L x (post.headD c)) ?_ ?_ (post:=C) (pre:=[]) rfl ⟨_,_,_,_,rfl,fun pre x post _ h=>absurd h (by simp)⟩
    · rintro pre x post e s ⟨o4,o5,o6,o7,rfl,hp⟩
      obtain ⟨k,ek,ik⟩:=ib e
      have hx:=lt x (by rw [e]; simp)
      have hb:=lt _ (hdl e)
      obtain ⟨b,hbe⟩ : ∃ b,b=post.headD c:=⟨_,rfl⟩
      rw [← hbe] at ik hb
      have hpos : 0 < C.length:=by rw [hC]; simp
      have mk : z4y (.int ((pre.length : Int) + 1)) (.int (C.length : Int))=some (.int (k : Int)):=by rw [z2U (by omega),ek]
      obtain ⟨_,ed,w,rfl,hd⟩:=y4X sq hx hb ltL
      have ed : z4o [z0y T,.int (x : Int),.int (b : Int),thD L]=some (thD w):=ed
      simp! only [nD,z1U,mk,ik,ed]
      rcases hd with hd | ⟨rfl,hn⟩
      · have hlw : w.length≤2:=by cases hd <;> simp
        obtain ⟨y,w',hw⟩ : ∃ y w',w=y :: w':=by
          cases w with
          | nil=>exact absurd rfl hd.wk.2.2.1
          | cons y w'=>exact ⟨y,w',rfl⟩
        have tr : z5h (thD w)=some true:=by rw [hw]; rfl
        have hle : pre.length + 1≤C.length:=by rw [e]; simp
        have c1:=cut_up (o:=C) (k:=pre.length) hle
        have c2:=y1g (o:=C) (k:=pre.length)
        have t1 : C.take (pre.length + 1)=pre ++ [x]:=by
          rw [e,List.take_append,List.take_of_length_le (by omega)]
          have : pre.length + 1 - pre.length=1:=by omega
          rw [this]
          rfl
        have t2 : C.drop (pre.length + 1)=post:=by
          rw [e,List.drop_append,List.drop_eq_nil_of_le (by omega)]
          have : pre.length + 1 - pre.length=1:=by omega
          rw [this]
          rfl
        have pl : pre.length + post.length≤1000:=by
          have:=congrArg List.length e
          simp at this
          omega
        rw [t1] at c1
        rw [t2] at c2
        rw [hbe] at hd
        have wm:=wmore e hd
        have k1:=z6p (a:=pre ++ [x]) (b:=w) (by simp; omega)
        have k2:=z6p (a:=pre ++ [x] ++ w) (b:=post) (by simp; omega)
        obtain ⟨A2,hA2⟩ : ∃ A,A=pre ++ [x] ++ w ++ post:=⟨_,rfl⟩
        rw [← hA2] at k2 wm
        obtain ⟨A1,hA1⟩ : ∃ A,A=pre ++ [x] ++ w:=⟨_,rfl⟩
        rw [← hA1] at k1 k2
        obtain ⟨A0,hA0⟩ : ∃ A,A=pre ++ [x]:=⟨_,rfl⟩
        rw [← hA0] at c1 k1
        simp! only [tr,c1,tl,k1,c2,k2,z0e]
        exact .inr ⟨_,rfl,A2,rfl,wm⟩
      · simp! only [tru_nil,z0e]
        refine ⟨_,_,_,_,rfl,fun pre' x' post' e' hlt=>?_⟩
        by_cases hq : pre'.length < pre.length
        · exact hp pre' x' post' e' hq
        · have hle : pre'.length=pre.length:=by simp at hlt; omega
          have:=List.append_inj (e'.symm.trans e) hle
          obtain ⟨rfl,he⟩:=this
          cases he
          rw [hbe] at hn
          exact hn
    · rintro s ⟨o4,o5,o6,o7,rfl,hp⟩
      exact .inl ⟨_,rfl,_,_,_,_,rfl,fun pre x post e=>hp pre x post e (by rw [e]; simp)⟩
  · rintro s ⟨o4,o5,o6,o7,rfl,hp⟩
    simp! only [z0e]
    exact ⟨_,rfl,C,rfl,wsame hp⟩
theorem y6L {c x : Nat} {r pre post : List Nat} (e : c :: r=pre ++ x :: post) : ∃ a,pre ++ [x]=c :: a∧r=a ++ post∧lsN c a=x:=by
  cases pre with
  | nil=>
    cases e
    exact ⟨[],rfl,rfl,rfl⟩
  | cons y pre=>
    have e1 : c=y:=(List.cons.inj e).1
    have e2 : r=pre ++ x :: post:=(List.cons.inj e).2
    subst e1
    exact ⟨pre ++ [x],rfl,by rw [e2]; simp,y6M⟩
theorem Wid.go {m : Nat} {T : List (List Bool)} (own : ∀ i < m,at2 T i i=false) {R : List Nat} (ltR : ∀ x∈R,x < m) {c : Nat} {r W : List Nat} (C : Cyc T c r) (hs : ∀ x∈c :: r,x∈R) (h : Wid T R c r W) (hl : (c :: r).length < W.length) : ∃ r',W=c :: r'∧Cyc T c r'∧∀ x∈c :: r',x∈R:=by
  cases h with
  | same _=>omega
  | @more pre post w x e D=>
    obtain ⟨a,e1,e2,e3⟩:=y6L e
    subst e2
    rw [← e3] at D
    have P:=Cyc.put own C (fun z hz=>ltR z (left_mem.mp hz).1) (fun z hz=>(left_mem.mp hz).2) D
    refine ⟨a ++ w ++ post,by rw [e1]; simp,P,fun z hz=>?_⟩
    obtain ⟨_,_,_,d4⟩:=D.wk
    rcases List.mem_cons.mp hz with q | q
    · rw [q]; exact hs c List.mem_cons_self
    · rcases List.mem_append.mp q with q | q
      · rcases List.mem_append.mp q with q | q
        · exact hs z (by simp [q])
        · exact (left_mem.mp (d4 z q)).1
      · exact hs z (by simp [q])
theorem Wid.stay {T : List (List Bool)} {R : List Nat} {c : Nat} {r W : List Nat} (h : Wid T R c r W) (hl : ¬(c :: r).length < W.length) : ∀ pre x post,c :: r=pre ++ x :: post->y0c T (z7h (c :: r) R) x (post.headD c):=by
  cases h with
  | same h=>exact h
  | more e D=>
    exfalso
    apply hl
    rw [e]
    have:=List.length_pos_iff.mpr D.wk.2.2.1
    simp
    omega
theorem y7f {m : Nat} {T : List (List Bool)} (F : Full m T) (hm : m≤60) {c : Nat} {R' : List Nat} (up : (c :: R').Pairwise (· < ·)) (ltR : ∀ x∈c :: R',x < m) (hS : Stg T (c :: R')) : hol (z1W [z0y T,thD (c :: R')]) fun d=>∃ r,d=thD (c :: r)∧Cyc T c r∧∀ x,x∈c :: r↔x∈c :: R':=by
  refine z4e rfl ?_
  have mn:=y1W up
  have hRn : (c :: R').Nodup:=up.imp fun h=>Nat.ne_of_lt h
  have hRl : (c :: R').length≤m:=by simpa using List.Nodup.length_le_of_subset hRn fun x hx=>List.mem_range.mpr (ltR x hx)
  have hcR : c∈c :: R':=List.mem_cons_self
  obtain ⟨R,hR⟩ : ∃ R,R=c :: R':=⟨_,rfl⟩
  rw [← hR] at mn hRn hRl hcR ltR hS ⊢
  have t1 : D.lst [.int (c : Int)]=thD [c]:=rfl
  have wd : ∀ {r : List Nat},Cyc T c r->(∀ x∈c :: r,x∈R)->∃ W,z2T [z0y T,thD (c :: r),thD R]=some (thD W)∧Wid T R c r W:=fun {r} C hs=>by
    have hl : (c :: r).length≤R.length:=List.Nodup.length_le_of_subset C.nd hs
    obtain ⟨_,e,W,rfl,h⟩:=y2z F.sq (c:=c) (r:=r) (R:=R) (by omega) (by omega) (fun x hx=>ltR x (hs x hx)) ltR
    exact ⟨W,e,h⟩
  have C0 : Cyc T c []:=⟨by simp,trivial,fun h=>absurd rfl h⟩
  have hs0 : ∀ x∈[c],x∈R:=fun x hx=>by rw [List.mem_singleton.mp hx]; exact hcR
  obtain ⟨W0,e0,h0⟩:=wd C0 hs0
  simp! only [z5E,mn,t1,e0]
  refine z5m (I:=fun s=>∃ (r : List Nat) (o3 : Option SD),s=[some (.sh (z0y T)),some (.sh (thD R)),some (.sh (thD (c :: r))),o3]∧Cyc T c r∧∀ x,x∈c :: r↔x∈R) ?_ ?_
  · refine z5c (fun n s=>∃ (r W : List Nat),s=[some (.sh (z0y T)),some (.sh (thD R)),some (.sh (thD (c :: r))),some (.sh (thD W))]∧Cyc T c r∧(∀ x∈c :: r,x∈R)∧Wid T R c r W∧R.length≤n + (c :: r).length) (n:=R.length) ⟨[],W0,rfl,C0,hs0,h0,by omega⟩ ?_ (by omega)
    rintro n s ⟨r,W,rfl,C,hs,hw,hn⟩
    refine ⟨decide (((c :: r).length : Int) < (W.length : Int)),?_,fun hk=>?_,fun hk=>?_⟩
    · have d1 : decide ((W.length : Int) > ((c :: r).length : Int))=decide (((c :: r).length : Int) < (W.length : Int)):=rfl
      obtain ⟨Q,hQ⟩ : ∃ Q,Q=c :: r:=⟨_,rfl⟩
      rw [← hQ] at d1 ⊢
      simp! only [z1U,d1]
    · have hk:=of_decide_eq_false hk
      refine .inl ⟨_,rfl,r,_,rfl,C,fun x=>⟨fun hx=>hs x hx,?_⟩⟩
      exact Cyc.full F ltR hS hs (L:=z7h (c :: r) R) (fun x=>left_mem) (hw.stay (by omega)) x
    · have hk:=of_decide_eq_true hk
      obtain ⟨r',rfl,C',hs'⟩:=hw.go F.own ltR C hs (by omega)
      have hl' : (c :: r').length≤R.length:=List.Nodup.length_le_of_subset C'.nd hs'
      obtain ⟨W',e',h'⟩:=wd C' hs'
      refine ⟨n - 1,by omega,?_⟩
      have fin : ∃ (r W : List Nat),[some (.sh (z0y T)),some (.sh (thD R)),some (.sh (thD (c :: r'))),some (.sh (thD W'))]=[some (SD.sh (z0y T)),some (.sh (thD R)),some (.sh (thD (c :: r))),some (.sh (thD W))]∧Cyc T c r∧(∀ x∈c :: r,x∈R)∧Wid T R c r W∧R.length≤n - 1 + (c :: r).length:=⟨r',W',rfl,C',hs',h',by omega⟩
      obtain ⟨Q,hQ⟩ : ∃ Q,Q=c :: r:=⟨_,rfl⟩
      rw [← hQ]
      obtain ⟨Q',hQ'⟩ : ∃ Q,Q=c :: r':=⟨_,rfl⟩
      rw [← hQ'] at e' fin ⊢
      simp! only [e',z0e]
      exact fin
  · rintro s ⟨r,o3,rfl,C,hm⟩
    have fin : ∃ r',thD (c :: r)=thD (c :: r')∧Cyc T c r'∧∀ x,x∈c :: r'↔x∈R:=⟨r,rfl,C,hm⟩
    obtain ⟨Q,hQ⟩ : ∃ Q,Q=c :: r:=⟨_,rfl⟩
    rw [← hQ] at fin ⊢
    simp! only [z0e]
    exact ⟨_,rfl,fin⟩
theorem z6D (o : List Nat) : o.map nD=(o.map fun n=>((n : Nat) : Int)).map D.int:=by rw [List.map_map]; rfl
theorem lix_th {o : List Nat} {x : Nat} (h : x∈o) : lixF (thD o) (.int (x : Int))=some (.int ((o.findIdx fun n=>n == x : Nat) : Int)):=by
  show ((z2y (o.map nD)).bind fun ns=>(ns.findIdx? (fun n=>n == (x : Int))).map fun j=>D.int (j : Int))=_
  rw [z6D,ints_int,Option.bind_some,List.findIdx?_map]
  have e : ((fun n : Int=>n == (x : Int)) ∘ fun n : Nat=>((n : Nat) : Int))=fun n=>n == x:=by
    funext n
    show ((n : Int) == (x : Int))=(n == x)
    by_cases hz : n=x
    · subst hz; simp
    · have h1 : ((n : Int) == (x : Int))=false:=by rw [beq_eq_false_iff_ne]; omega
      have h2 : (n == x)=false:=by rw [beq_eq_false_iff_ne]; exact hz
      rw [h1,h2]
  rw [e,List.findIdx?_eq_guard_findIdx_lt]
  have hl : o.findIdx (fun n=>n == x) < o.length:=List.findIdx_lt_length_of_exists ⟨x,h,by simp⟩
  simp [Option.guard,hl]
theorem y3z {a : Nat} : ∀ {pre post : List Nat},a ∉ pre->(pre ++ a :: post).findIdx (fun n=>n == a)=pre.length
  | [],post,_=>by simp [List.findIdx_cons]
  | x :: pre,post,h=>by
    have hx : (x == a)=false:=by rw [beq_eq_false_iff_ne]; exact fun z=>h (z ▸ List.mem_cons_self)
    have ih:=y3z (a:=a) (pre:=pre) (post:=post) fun z=>h (List.mem_cons_of_mem _ z)
    rw [List.cons_append,List.findIdx_cons,hx,ih]
    rfl
theorem y5B {T : List (List Bool)} {c : Nat} {r : List Nat} (C : Cyc T c r) {a : Nat} (ha : a∈c :: r) (hl : (c :: r).length≤1000) : ∃ q,z2p [thD (c :: r),.int (a : Int)]=some (thD (a :: q))∧wk T a q∧(a :: q).Perm (c :: r):=by
  obtain ⟨pre,post,e⟩:=List.append_of_mem ha
  have nd:=C.nd
  rw [e,List.nodup_append] at nd
  have hn : a ∉ pre:=fun z=>nd.2.2 a z a List.mem_cons_self rfl
  have lx:=lix_th ha
  rw [e,y3z hn] at lx
  refine ⟨post ++ pre,?_,?_,?_⟩
  · refine z0E rfl ?_
    rw [e] at hl ⊢
    have c1:=z8K (o:=pre ++ a :: post) (k:=pre.length)
    have c2:=z5t (ds:=(pre ++ a :: post).map nD) (k:=pre.length) (by simp)
    have c2 : y5m (some (thD (pre ++ a :: post))) (some none) (some (some (pre.length : Int)))=some (pre.map nD):=by
      show some (z8E ((pre ++ a :: post).map nD) none (some (pre.length : Int)))=_
      rw [c2,← List.map_take]
      simp
    have t1 : (pre ++ a :: post).drop pre.length=a :: post:=by simp
    rw [t1] at c1
    have ct:=z6p (a:=a :: post) (b:=pre) (by simp at hl ⊢; omega)
    obtain ⟨Q,hQ⟩ : ∃ Q,Q=pre ++ a :: post:=⟨_,rfl⟩
    rw [← hQ] at lx c1 c2 ⊢
    have ex : a :: (post ++ pre)=a :: post ++ pre:=rfl
    rw [ex]
    obtain ⟨Q2,hQ2⟩ : ∃ Q,Q=a :: post ++ pre:=⟨_,rfl⟩
    rw [← hQ2] at ct ⊢
    obtain ⟨Q1,hQ1⟩ : ∃ Q,Q=a :: post:=⟨_,rfl⟩
    rw [← hQ1] at c1 ct
    have tl : ∀ W : List Nat,D.lst (W.map nD)=thD W:=fun _=>rfl
    simp! only [z4d,lx,c1,c2,tl,ct,z1y,z0e]
  · cases pre with
    | nil=>
      cases e
      rw [List.append_nil]
      exact C.wk
    | cons y p=>
      have e1 : c=y:=(List.cons.inj e).1
      have e2 : r=p ++ a :: post:=(List.cons.inj e).2
      subst e1
      have w:=C.wk
      have cl:=C.cl (by rw [e2]; simp)
      rw [e2] at w cl
      rw [z4I] at cl
      obtain ⟨w1,w2⟩:=wk_app.mp w
      rw [wk_app]
      exact ⟨w2.2,cl,w1⟩
  · rw [e]
    have : (a :: (post ++ pre))=(a :: post) ++ pre:=rfl
    rw [this]
    exact List.perm_append_comm
theorem cls_up {m : Nat} {f : Nat->Nat} {a : Nat} : (cls m f a).Pairwise (· < ·):=List.Pairwise.filter _ List.pairwise_lt_range
theorem y0Z {m : Nat} {f : Nat->Nat} {a x : Nat} (h : x∈cls m f a) : x < m:=List.mem_range.mp (List.mem_filter.mp h).1
theorem cls_f {m : Nat} {f : Nat->Nat} {a x : Nat} (h : x∈cls m f a) : f x=f a:=of_decide_eq_true (List.mem_filter.mp h).2
theorem z3x {m : Nat} {f : Nat->Nat} {a : Nat} (h : a < m) : a∈cls m f a:=List.mem_filter.mpr ⟨List.mem_range.mpr h,decide_eq_true rfl⟩
theorem Rgs.perm {m : Nat} {f : Nat->Nat} {L : List (List Nat)} (h : Rgs m f L) : L.flatten.Perm (List.range m):=by
  refine (List.perm_ext_iff_of_nodup ?_ List.nodup_range).mpr fun x=>?_
  · unfold List.Nodup
    rw [List.pairwise_flatten]
    refine ⟨fun r hr=>?_,h.pw.imp fun {r s} q=>?_⟩
    · obtain ⟨a,_,rfl⟩:=(h.mem r).mp hr
      exact cls_up.imp fun h=>Nat.ne_of_lt h
    · intro x hx y hy e
      subst e
      have:=q.2.2 x hx x hy
      omega
  · rw [List.mem_flatten,List.mem_range]
    constructor
    · rintro ⟨r,hr,hx⟩
      obtain ⟨a,_,rfl⟩:=(h.mem r).mp hr
      exact y0Z hx
    · intro hx
      exact ⟨cls m f x,(h.mem _).mpr ⟨x,hx,rfl⟩,z3x hx⟩
theorem Rgs.cons {m : Nat} {f : Nat->Nat} {L : List (List Nat)} (h : Rgs m f L) (h0 : 0 < m) : ∃ r0 rest,L=r0 :: rest:=by
  have : cls m f 0∈L:=(h.mem _).mpr ⟨0,h0,rfl⟩
  cases L with
  | nil=>cases this
  | cons r s=>exact ⟨r,s,rfl⟩
theorem Rgs.top {m : Nat} {f : Nat->Nat} {r0 : List Nat} {rest : List (List Nat)} (h : Rgs m f (r0 :: rest)) {a : Nat} (ha : a < m) : a∈r0↔∀ b < m,f b≤f a:=by
  obtain ⟨a0,ha0,e0⟩:=(h.mem r0).mp List.mem_cons_self
  have pw:=List.pairwise_cons.mp h.pw
  constructor
  · intro hr b hb
    rw [e0] at hr
    have fa:=cls_f hr
    have hb2 : cls m f b∈r0 :: rest:=(h.mem _).mpr ⟨b,hb,rfl⟩
    rcases List.mem_cons.mp hb2 with q | q
    · have : b∈r0:=q ▸ z3x hb
      rw [e0] at this
      rw [cls_f this,fa]
      exact Nat.le_refl _
    · have:=(pw.1 _ q).2.2 a (by rw [e0]; exact hr) b (z3x hb)
      omega
  · intro hb
    have ha2 : cls m f a∈r0 :: rest:=(h.mem _).mpr ⟨a,ha,rfl⟩
    rcases List.mem_cons.mp ha2 with q | q
    · exact q ▸ z3x ha
    · have:=(pw.1 _ q).2.2 a0 (by rw [e0]; exact z3x ha0) a (z3x ha)
      have:=hb a0 ha0
      omega
theorem y7p {m : Nat} {T : List (List Bool)} (F : Full m T) (hm : m≤60) {r0 : List Nat} {rest : List (List Nat)} (hr : rgL T m=r0 :: rest) {a : Nat} (ha : a∈r0) : ∃ q,z1B [z0y T,.int (a : Int)]=some (thD (a :: q))∧wk T a q∧(a :: q).Perm (List.range m):=by
  have G:=z7Z (T:=T) (m:=m)
  rw [hr] at G
  have ro : ∀ s∈r0 :: rest,∃ c r',hol (z1W [z0y T,thD s]) (fun d=>d=thD (c :: r'))∧Cyc T c r'∧(c :: r').Perm s:=fun s hs=>by
    obtain ⟨b,hb,rfl⟩:=(G.mem s).mp hs
    have up:=cls_up (m:=m) (f:=fun a=>(rcL T m a).length) (a:=b)
    have lt : ∀ x∈cls m (fun a=>(rcL T m a).length) b,x < m:=fun x hx=>y0Z hx
    have st:=y7e F (a:=b)
    have hne:=z3x (f:=fun a=>(rcL T m a).length) hb
    obtain ⟨R,hR⟩ : ∃ R,R=cls m (fun a=>(rcL T m a).length) b:=⟨_,rfl⟩
    rw [← hR] at up lt st hne ⊢
    cases R with
    | nil=>cases hne
    | cons c R'=>
      obtain ⟨_,e,r',rfl,C,hm⟩:=y7f F hm up lt st
      refine ⟨c,r',⟨_,e,rfl⟩,C,(List.perm_ext_iff_of_nodup C.nd (up.imp fun h=>Nat.ne_of_lt h)).mpr hm⟩
  suffices h : hol (z1B [z0y T,.int (a : Int)]) fun x=>∃ q,x=thD (a :: q)∧wk T a q∧(a :: q).Perm (List.range m) by
    obtain ⟨_,e,q,rfl,h⟩:=h
    exact ⟨q,e,h⟩
  refine z4e rfl ?_
  have re:=y1n F.sq hm
  rw [hr] at re
  have ltall : ∀ s∈r0 :: rest,s.length≤m:=fun s hs=>by
    obtain ⟨b,hb,rfl⟩:=(G.mem s).mp hs
    have:=List.length_filter_le (fun c=>decide ((rcL T m c).length=(rcL T m b).length)) (List.range m)
    rw [List.length_range] at this
    exact this
  obtain ⟨c0,s0,⟨_,er0,rfl⟩,C0,p0⟩:=ro r0 List.mem_cons_self
  have hl0 : (c0 :: s0).length≤1000:=by
    have:=p0.length_eq
    have:=ltall r0 List.mem_cons_self
    omega
  obtain ⟨q0,eb,w0,pq0⟩:=y5B C0 (p0.mem_iff.mpr ha) hl0
  have ix : ixD (.lst ((r0 :: rest).map thD)) (.int 0)=some (thD r0):=z1N (j:=0) rfl
  have cu : y5m (some (.lst ((r0 :: rest).map thD))) (some (some 1)) (some none)=some (rest.map thD):=by
    show some (z8E ((r0 :: rest).map thD) (some ((1 : Nat) : Int)) none)=_
    rw [y4o]
    rfl
  have sr : z9P (.lst (rest.map thD))=some (rest.map thD):=rfl
  have hc : (!r0.contains a)=false:=by rw [List.contains_iff_mem.mpr ha]; rfl
  have tot:=G.perm
  have flen : (r0 ++ rest.flatten).length=m:=by
    have:=tot.length_eq
    rw [List.length_range] at this
    exact this
  obtain ⟨Lr,hLr⟩ : ∃ Lr,Lr=D.lst ((r0 :: rest).map thD):=⟨_,rfl⟩
  rw [← hLr] at re ix cu
  have fin0 : ∃ q,thD (a :: q0)=thD (a :: q)∧wk T a q∧(a :: q).Perm (r0 ++ ([] : List (List Nat)).flatten):=⟨q0,rfl,w0,by simpa using pq0.trans p0⟩
  obtain ⟨Z0,hZ0⟩ : ∃ Z,Z=c0 :: s0:=⟨_,rfl⟩
  rw [← hZ0] at er0 eb
  obtain ⟨Y0,hY0⟩ : ∃ Y,Y=a :: q0:=⟨_,rfl⟩
  rw [← hY0] at eb fin0
  simp! only [z5J,re,ix,z3v,hc,er0,eb,cu,sr]
  refine z0F (I:=fun s=>∃ (q : List Nat) (o4 : Option SD),s=[some (.sh (z0y T)),some (.sh (.int (a : Int))),some (.sh Lr),some (.ow (thD (a :: q))),o4]∧wk T a q∧(a :: q).Perm (r0 ++ rest.flatten)) ?_ ?_
  · obtain ⟨qq,eqq,wqq,pqq⟩:=fin0
    rw [eqq]
    refine z2Q (enc:=thD) (fun pre s=>∃ (q : List Nat) (o4 : Option SD),s=[some (.sh (z0y T)),some (.sh (.int (a : Int))),some (.sh Lr),some (.ow (thD (a :: q))),o4]∧wk T a q∧(a :: q).Perm (r0 ++ pre.flatten)) ⟨qq,_,rfl,wqq,pqq⟩ ?_ fun s z=>⟨s,rfl,z⟩
    rintro pre s post e st ⟨q,o4,rfl,wq,pq⟩
    have hs : s∈r0 :: rest:=List.mem_cons_of_mem _ (by rw [e]; simp)
    obtain ⟨c,r',⟨_,er,rfl⟩,C,ps⟩:=ro s hs
    have hbt : at2 T (lsN a q) c=true:=by
      have h1 : lsN a q∈r0 ++ pre.flatten:=pq.mem_iff.mp y5i
      have h2 : ∃ t∈r0 :: pre,lsN a q∈t:=by
        rcases List.mem_append.mp h1 with z | z
        · exact ⟨r0,List.mem_cons_self,z⟩
        · obtain ⟨t,ht,hz⟩:=List.mem_flatten.mp z
          exact ⟨t,List.mem_cons_of_mem _ ht,hz⟩
      obtain ⟨t,ht,hz⟩:=h2
      have pw:=G.pw
      rw [e] at pw
      have pw : ((r0 :: pre) ++ s :: post).Pairwise (Upp fun a=>(rcL T m a).length):=pw
      have up:=(List.pairwise_append.mp pw).2.2 t ht s List.mem_cons_self
      have hcs : c∈s:=ps.mem_iff.mp List.mem_cons_self
      have htL : t∈r0 :: rest:=by
        rw [e]
        rcases List.mem_cons.mp ht with z | z
        · rw [z]; exact List.mem_cons_self
        · exact List.mem_cons_of_mem _ (List.mem_append_left _ z)
      obtain ⟨b1,hb1,et⟩:=(G.mem t).mp htL
      obtain ⟨b2,hb2,es⟩:=(G.mem s).mp hs
      exact y3P F (by rw [et] at hz; exact y0Z hz) (by rw [es] at hcs; exact y0Z hcs) (up.2.2 _ hz c hcs)
    have l1 : (a :: q).length≤m:=by
      rw [pq.length_eq]
      rw [e] at flen
      simp at flen ⊢
      omega
    have l2 : (c :: r').length≤m:=by
      rw [ps.length_eq]
      exact ltall s hs
    have ex:=eo_extD (ds:=(a :: q).map nD) (es:=(c :: r').map nD) (z6W _) (by rw [List.length_map,List.length_map]; omega)
    rw [← List.map_append] at ex
    have ex : extDV (some (thD (a :: q))) (some (thD (c :: r')))=some (thD (a :: q ++ c :: r')):=ex
    have fin : ∃ (q' : List Nat),thD (a :: q ++ c :: r')=thD (a :: q')∧wk T a q'∧(a :: q').Perm (r0 ++ (pre ++ [s]).flatten):=⟨q ++ c :: r',rfl,wk_app.mpr ⟨wq,hbt,C.wk⟩,by
      have:=pq.append ps
      simpa using this⟩
    obtain ⟨Z,hZ⟩ : ∃ Z,Z=a :: q ++ c :: r':=⟨_,rfl⟩
    rw [← hZ] at ex fin
    obtain ⟨Z1,hZ1⟩ : ∃ Z,Z=a :: q:=⟨_,rfl⟩
    rw [← hZ1] at ex ⊢
    obtain ⟨Z2,hZ2⟩ : ∃ Z,Z=c :: r':=⟨_,rfl⟩
    rw [← hZ2] at ex er
    simp! only [er,ex,z0e]
    obtain ⟨q',e1,e2⟩:=fin
    exact ⟨q',_,by rw [e1],e2⟩
  · rintro s ⟨q,o4,rfl,wq,pq⟩
    have fin : ∃ q',thD (a :: q)=thD (a :: q')∧wk T a q'∧(a :: q').Perm (List.range m):=⟨q,rfl,wq,pq.trans tot⟩
    obtain ⟨Z,hZ⟩ : ∃ Z,Z=a :: q:=⟨_,rfl⟩
    rw [← hZ] at fin ⊢
    simp! only [z0e]
    exact ⟨_,rfl,fin⟩
theorem perm_lt {o : List Nat} {m : Nat} (h : o.Perm (List.range m)) : ∀ x∈o,x < m:=fun _ hx=>List.mem_range.mp (h.mem_iff.mp hx)
theorem y6V {o : List Nat} {m : Nat} (h : o.Perm (List.range m)) : o.length=m:=by simpa using h.length_eq
theorem perm_nd {o : List Nat} {m : Nat} (h : o.Perm (List.range m)) : o.Nodup:=h.nodup_iff.mpr List.nodup_range
noncomputable def z6X (B : List Nat) : List (List Nat):=B.foldl (fun f x=>f ++ f.map (· ++ [x])) [[]]
theorem z8z {B : List Nat} {x : Nat} : z6X (B ++ [x])=z6X B ++ (z6X B).map (· ++ [x]):=by unfold z6X; rw [List.foldl_append]; rfl
theorem y2H {B : List Nat} : ∀ {n : Nat},(z6X (B.take n)).length=2 ^ (min n B.length)∧∀ s∈z6X (B.take n),(∀ x∈s,x∈B.take n)∧s.length≤min n B.length
  | 0=>by
    refine ⟨by simp [z6X],fun s hs=>?_⟩
    have : s=[]:=by simpa [z6X] using hs
    subst this
    exact ⟨fun x hx=>(by cases hx),by simp⟩
  | n + 1=>by
    obtain ⟨h1,h2⟩:=y2H (B:=B) (n:=n)
    by_cases hn : n < B.length
    · have e : B.take (n + 1)=B.take n ++ [B[n]]:=by rw [List.take_add_one,List.getElem?_eq_getElem hn]; rfl
      have e1 : min n B.length=n:=by omega
      have e2 : min (n + 1) B.length=n + 1:=by omega
      rw [e1] at h1 h2
      rw [e,e2,z8z]
      refine ⟨by rw [List.length_append,List.length_map,h1,Nat.pow_succ]; omega,fun s hs=>?_⟩
      rcases List.mem_append.mp hs with z | z
      · obtain ⟨q1,q2⟩:=h2 s z
        exact ⟨fun x hx=>List.mem_append_left _ (q1 x hx),by omega⟩
      · obtain ⟨t,ht,rfl⟩:=List.mem_map.mp z
        obtain ⟨q1,q2⟩:=h2 t ht
        refine ⟨fun x hx=>?_,by simp; omega⟩
        rcases List.mem_append.mp hx with w | w
        · exact List.mem_append_left _ (q1 x w)
        · exact List.mem_append_right _ w
    · have e : B.take (n + 1)=B.take n:=by rw [List.take_of_length_le (by omega),List.take_of_length_le (by omega)]
      have e1 : min (n + 1) B.length=min n B.length:=by omega
      rw [e,e1]
      exact ⟨h1,h2⟩
theorem y3H {B pre post : List Nat} (e : B=pre ++ post) (hB : B.length≤8) : (z6X pre).length≤256∧∀ s∈z6X pre,(∀ x∈s,x∈B)∧s.length≤8:=by
  have h:=y2H (B:=B) (n:=pre.length)
  have e1 : B.take pre.length=pre:=by rw [e]; simp
  rw [e1] at h
  refine ⟨?_,fun s hs=>?_⟩
  · rw [h.1]
    exact Nat.pow_le_pow_right (n:=2) (by omega) (show _≤8 by omega)
  · obtain ⟨q1,q2⟩:=h.2 s hs
    exact ⟨fun x hx=>by rw [e]; exact List.mem_append_left _ (q1 x hx),by omega⟩
theorem y1X {B : List Nat} (hB : B.length≤8) : z1u [thD B]=some (.lst ((z6X B).map thD)):=by
  refine z0E rfl ?_
  have n0 : D.lst [D.lst []] = .lst ((z6X []).map thD):=rfl
  simp! only [z3b,z4u,n0,z1S]
  refine z0F (I:=fun s=>∃ o2,s=[some (.sh (thD B)),some (.sh (.lst ((z6X B).map thD))),o2]) ?_ ?_
  · refine z2Q (enc:=nD) (fun pre s=>∃ o2,s=[some (.sh (thD B)),some (.sh (.lst ((z6X pre).map thD))),o2]) ⟨_,rfl⟩ ?_ fun s z=>⟨s,rfl,z⟩
    rintro pre x post e s ⟨o2,rfl⟩
    obtain ⟨l1,l2⟩:=y3H e hB
    rw [z8z]
    obtain ⟨L,hL⟩ : ∃ L,L=z6X pre:=⟨_,rfl⟩
    rw [← hL] at l1 l2 ⊢
    have sq : z9P (.lst (L.map thD))=some (L.map thD):=rfl
    have cx : z1J (some (L.map thD)) (z2x z6h (z0u (y1l (z0d 3) (mkL (z0k [z0d 2])))) [some (thD B),some (.lst (L.map thD)),some (.int (x : Int))])=some (L.map fun c=>thD (c ++ [x])):=z5W (fun c=>thD (c ++ [x])) (by omega) fun c hc=>by
      have t1 : D.lst [.int (x : Int)]=thD [x]:=rfl
      have hcl:=(l2 c hc).2
      have ct:=z6p (a:=c) (b:=[x]) (by simp; omega)
      obtain ⟨w,hw⟩ : ∃ w,w=c ++ [x]:=⟨_,rfl⟩
      rw [← hw] at ct ⊢
      have tl : ∀ W : List Nat,D.lst (W.map nD)=thD W:=fun _=>rfl
      simp! only [t1,ct,z1y,tl]
    have em : (L.map fun c=>thD (c ++ [x]))=(L.map (· ++ [x])).map thD:=by rw [List.map_map]; rfl
    rw [em] at cx
    have l3 : (L.map (· ++ [x])).length=L.length:=List.length_map _
    obtain ⟨R,hR⟩ : ∃ R,R=L.map (· ++ [x]):=⟨_,rfl⟩
    rw [← hR] at cx l3 ⊢
    have ct : catO (some (.lst (L.map thD))) (some (.lst (R.map thD)))=some ((L ++ R).map thD):=by
      rw [y3T (by simp; omega),List.map_append]
    simp! only [nD,sq,cx,ct,z0e]
    exact ⟨_,rfl⟩
  · rintro s ⟨o2,rfl⟩
    simp! only [z0e]
noncomputable def rndB (T : List (List Bool)) (S : List Nat) : Bool:=S.all fun a=>S.all fun b=>!(at2 T a b && decide (((S.filter fun c=>at2 T b c && at2 T c a).length : Int) > 0))
theorem y2k {m : Nat} {T : List (List Bool)} (sq : Sq m T) {S : List Nat} (hl : S.length≤1000) (lt : ∀ x∈S,x < m) : z0T [z0y T,thD S]=some (.bl (!rndB T S)):=by
  refine z0E rfl ?_
  simp! only [z2a,z1S]
  refine z6t (c:=rndB T S) (d:=.bl true) (I:=fun s=>∃ o2 o3 o4,s=[some (.sh (z0y T)),some (.sh (thD S)),o2,o3,o4]) (z5f _ (fun a=>S.all fun b=>!(at2 T a b && decide (((S.filter fun c=>at2 T b c && at2 T c a).length : Int) > 0))) _ ⟨_,_,_,rfl⟩ ?_) ?_ ?_
  · rintro a ha s ⟨o2,o3,o4,rfl⟩
    have ha':=lt a ha
    simp! only [z1S,nD]
    have:=z5f (enc:=nD) (i:=3) (b:=z0N (z6d 4 (z0u (z1t (z4B (z0d 1)) (z3y (z0v (d2 ixD (d2 ixD (z0d 0) (z0d 3)) (z0d 5))) (z0v (d2 ixD (d2 ixD (z0d 0) (z0d 5)) (z0d 2)))) (z0d 5))))
      (ifO (z3y (z0v (d2 ixD (d2 ixD (z0d 0) (z0d 2)) (z0d 3))) (z0G (d2 gtI (z0l z3c [z0d 4]) (dC (.int 0))))) (z6k (dC (.bl true))) z1z)) (fun s=>∃ o3 o4,s=[some (.sh (z0y T)),some (.sh (thD S)),some (.sh (.int (a : Int))),o3,o4]) (fun b=>!(at2 T a b && decide (((S.filter fun c=>at2 T b c && at2 T c a).length : Int) > 0))) (.bl true) (xs:=S) (s:=[some (.sh (z0y T)),some (.sh (thD S)),some (.sh (.int (a : Int))),o3,o4]) ⟨_,_,rfl⟩ ?_
    · obtain ⟨o,e,q⟩:=this
      refine ⟨o,e,?_⟩
      split at q
      · rename_i h
        rw [if_pos h]
        obtain ⟨s',e',o3',o4',rfl⟩:=q
        exact ⟨_,e',_,_,_,rfl⟩
      · rename_i h
        rw [if_neg h]
        exact q
    · rintro b hb s ⟨o3,o4,rfl⟩
      have hb':=lt b hb
      have cx : ∀ d4 : Option D,z1J (some (S.map nD)) (z2x (z3y (z0v (d2 ixD (d2 ixD (z0d 0) (z0d 3)) (z0d 5))) (z0v (d2 ixD (d2 ixD (z0d 0) (z0d 5)) (z0d 2)))) (z0d 5) [some (z0y T),some (thD S),some (.int (a : Int)),some (.int (b : Int)),d4])=some ((S.filter fun c=>at2 T b c && at2 T c a).map nD):=fun d4=>
        z6a (fun c=>at2 T b c && at2 T c a) nD hl (fun c hc=>by
          have hc':=lt c hc
          simp! only [nD,ix2 sq hb' hc',ix2 sq hc' ha']) fun c _ _=>by simp! only []
      have tl : ∀ W : List Nat,D.lst (W.map nD)=thD W:=fun _=>rfl
      simp! only [nD,z1S,cx,z1y,tl,ix2 sq ha' hb',z1U]
      cases at2 T a b with
      | false=>
        simp_all! only [z0e,Bool.false_and,Bool.not_false,if_true]
        exact ⟨_,rfl,_,_,rfl⟩
      | true=>
        cases decide (((S.filter fun c=>at2 T b c && at2 T c a).length : Int) > 0) with
        | false=>
          simp_all! only [z0e,Bool.and_false,Bool.not_false,if_true]
          exact ⟨_,rfl,_,_,rfl⟩
        | true=>
          simp_all! only [z0e,Bool.and_self,Bool.not_true,Bool.false_eq_true,if_false]
  · rintro h s ⟨o2,o3,o4,rfl⟩
    rw [h]
    simp! only [z0e]
    rfl
  · intro h
    rw [h]
    rfl
theorem rnd_no {T : List (List Bool)} {S : List Nat} (h : rndB T S=true) {a b c : Nat} (ha : a∈S) (hb : b∈S) (hc : c∈S) (h1 : at2 T a b=true) (h2 : at2 T b c=true) (h3 : at2 T c a=true) : False:=by
  have:=List.all_eq_true.mp (List.all_eq_true.mp h a ha) b hb
  rw [h1,Bool.true_and] at this
  have hm : c∈S.filter fun c=>at2 T b c && at2 T c a:=List.mem_filter.mpr ⟨hc,by rw [h2,h3]; rfl⟩
  have : decide (((S.filter fun c=>at2 T b c && at2 T c a).length : Int) > 0)=false:=by simpa using this
  have:=of_decide_eq_false this
  have hp:=List.length_pos_iff.mpr (List.ne_nil_of_mem hm)
  omega
theorem z8f {m : Nat} {T : List (List Bool)} (F : Full m T) : ∀ {S : List Nat},(∀ x∈S,x < m)->(∀ a∈S,∀ b∈S,∀ c∈S,at2 T a b=true->at2 T b c=true->at2 T c a=true->False)->∃ r,chB T r=true∧∀ x,x∈r↔x∈S
  | [],_,_=>⟨[],rfl,fun x=>Iff.rfl⟩
  | x :: S,lt,hn=>by
    obtain ⟨r,hr,hm⟩:=z8f F (S:=S) (fun y hy=>lt y (List.mem_cons_of_mem _ hy)) fun a ha b hb c hc=>hn a (List.mem_cons_of_mem _ ha) b (List.mem_cons_of_mem _ hb) c (List.mem_cons_of_mem _ hc)
    have A:=F.ant
    have hx:=lt x List.mem_cons_self
    have rm : ∀ y∈r,y∈x :: S:=fun y hy=>List.mem_cons_of_mem _ ((hm y).mp hy)
    refine ⟨insC T x r,?_,fun y=>?_⟩
    · rw [chB_iff]
      have pw:=chB_iff.mp hr
      unfold insC
      rw [List.pairwise_append,List.pairwise_append]
      refine ⟨⟨pw.sublist List.filter_sublist,by simp,fun a ha b hb=>?_⟩,pw.sublist List.filter_sublist,fun a ha b hb=>?_⟩
      · rw [List.mem_singleton.mp hb]
        have:=(List.mem_filter.mp ha).2
        simpa using this
      · obtain ⟨hb1,hb2⟩:=List.mem_filter.mp hb
        have hb2 : at2 T x b=true:=by simpa using hb2
        rcases List.mem_append.mp ha with ha | ha
        · obtain ⟨ha1,ha2⟩:=List.mem_filter.mp ha
          have ha2 : at2 T a x=true:=by simpa using ha2
          have hax:=rm a ha1
          have hbx:=rm b hb1
          have hne : a≠b:=fun z=>by
            subst z
            rw [A.ant a (lt a hax) x hx ha2] at hb2
            cases hb2
          have tw:=F.two a (lt a hax) b (lt b hbx) hne
          cases hab : at2 T a b with
          | true=>rfl
          | false=>
            rw [hab] at tw
            have hba : at2 T b a=true:=by
              cases hq : at2 T b a with
              | true=>rfl
              | false=>rw [hq] at tw; cases tw
            exact absurd hba fun q=>hn a hax x List.mem_cons_self b hbx ha2 hb2 q
        · rw [List.mem_singleton.mp ha]
          exact hb2
    · unfold insC
      rw [List.mem_append,List.mem_append,List.mem_singleton,List.mem_filter,List.mem_filter,List.mem_cons]
      constructor
      · rintro ((h | h) | h)
        · exact .inr ((hm y).mp h.1)
        · exact .inl h
        · exact .inr ((hm y).mp h.1)
      · rintro (h | h)
        · exact .inl (.inr h)
        · by_cases hyx : y=x
          · exact .inl (.inr hyx)
          · have hy:=lt y (List.mem_cons_of_mem _ h)
            have tw:=F.two y hy x hx hyx
            have hr:=(hm y).mpr h
            cases hq : at2 T y x with
            | true=>exact .inl (.inl ⟨hr,by simpa using hq⟩)
            | false=>
              rw [hq] at tw
              refine .inr ⟨hr,?_⟩
              cases hw : at2 T x y with
              | true=>rfl
              | false=>rw [hw] at tw; cases tw
noncomputable def bt0 : List (Nat × Nat):=[(0,1),(0,2),(0,3),(1,2),(2,3),(4,0),(5,0),(6,0),(4,1),(4,2),(5,2),(5,3)]
noncomputable def bt1 : List (Nat × Nat):=bt0 ++ [(6,3),(6,1),(3,4),(1,5),(2,6)]
noncomputable def pk {α : Type} (p : Nat) (x y : α) : α:=if p=0 then x else y
noncomputable def bt2 (p q r t : Nat) : List (Nat × Nat):=bt1 ++ [pk p (4,5) (5,4)] ++ [pk q (4,6) (6,4)] ++ [pk r (5,6) (6,5)] ++ [pk t (3,1) (1,3)]
noncomputable def okL (L : List (Nat × Nat)) : Bool:=(L.all fun z=>decide (z.1 < 7) && decide (z.2 < 7)) && (List.range 7).all fun x=>!L.contains (x,x) && (List.range 7).all fun y=>decide (x=y) || (L.contains (x,y) == !L.contains (y,x))
theorem bt_all : ((List.range 2).all fun p=>(List.range 2).all fun q=>(List.range 2).all fun r=>(List.range 2).all fun t=>okL (bt2 p q r t))=true:=by decide +kernel
theorem bt_ok {p q r t : Nat} (hp : p < 2) (hq : q < 2) (hr : r < 2) (ht : t < 2) : okL (bt2 p q r t)=true:=
  List.all_eq_true.mp (List.all_eq_true.mp (List.all_eq_true.mp (List.all_eq_true.mp bt_all p (List.mem_range.mpr hp)) q (List.mem_range.mpr hq)) r (List.mem_range.mpr hr)) t (List.mem_range.mpr ht)
theorem y7g {p : Nat} {x y : D} (hp : p < 2) : atI [x,y] (p : Int)=some (pk p x y):=by
  have : p=0∨p=1:=by omega
  rcases this with rfl | rfl
  · exact y0Y (k:=0) (by simp)
  · exact y0Y (k:=1) (by simp)
theorem y5A {p : Nat} {x y : Nat × Nat} : pk p (prD x) (prD y)=prD (pk p x y):=by
  unfold pk
  split <;> rfl
theorem y4r {i j : Nat} {b : SS->Option Out} {QO : Out->Prop} {xs : List (Nat × Nat)} (I : List (Nat × Nat)->SS->Prop) (hs : ∀ pre x post,xs=pre ++ x :: post->∀ δ,I pre δ->hol (b ((δ.set i (some (.sh (.int (x.1 : Int))))).set j (some (.sh (.int (x.2 : Int)))))) fun o=>match o with | .nx δ'=>I (pre ++ [x]) δ' | .ct δ'=>I (pre ++ [x]) δ' | .bk δ'=>QO (.nx δ') | .rt d=>QO (.rt d) | .ex c δ'=>QO (.ex c δ')) (he : ∀ δ,I xs δ->QO (.nx δ)) :
    ∀ {post pre : List (Nat × Nat)} {s : SS},xs=pre ++ post->I pre s->hol (z4J i j b (post.map prD) s) QO
  | [],pre,s,e,h=>⟨_,rfl,he s (by rw [e,List.append_nil]; exact h)⟩
  | x :: post,pre,s,e,h=>by
    obtain ⟨o,eo,q⟩:=hs pre x post e s h
    rw [List.map_cons]
    unfold z4J
    show hol ((twoD (prD x)).bind _) QO
    have tw : twoD (prD x)=some (.int (x.1 : Int),.int (x.2 : Int)):=rfl
    rw [tw,Option.bind_some,eo,Option.bind_some]
    cases o with
    | nx δ'=>exact y4r I hs he (by rw [e]; simp) q
    | ct δ'=>exact y4r I hs he (by rw [e]; simp) q
    | bk δ'=>exact ⟨_,rfl,q⟩
    | rt d=>exact ⟨_,rfl,q⟩
    | ex c δ'=>exact ⟨_,rfl,q⟩
theorem imm_pr (z : Nat × Nat) : z8v (some [prD z])=some [prD z]:=z4s rfl
theorem y3K : ∀ (L : List (Nat × Nat)),z4z (some (L.map prD))=some (L.map prD):=fun L=>z4M (by
  induction L with
  | nil=>rfl
  | cons a L ih=>
    show (true && z1l (L.map prD))=true
    rw [ih]
    rfl)
theorem y4t {n : Nat} (hn : n=7∨n=8) {P : List Nat} (hP : P.Perm (List.range n)) (c : Int) : hol (z2n [thD P,.int c]) fun d=>∃ T : List (List Bool),d=z0y T∧Full n T:=by
  refine z4e rfl ?_
  have hlen:=y6V hP
  have hlt:=perm_lt hP
  have hnd:=perm_nd hP
  obtain ⟨p,ep,hp⟩:=z4F (x:=c) (n:=2) (by omega)
  obtain ⟨q,eq',hq⟩:=z4F (x:=c / 2) (n:=2) (by omega)
  obtain ⟨r,er,hr⟩:=z4F (x:=c / 4) (n:=2) (by omega)
  have mp : z4y (.int c) (.int 2)=some (.int (p : Int)):=by rw [z2U (by omega)]; exact congrArg _ (congrArg _ ep)
  have mq : z4y (.int (c / 2)) (.int 2)=some (.int (q : Int)):=by rw [z2U (by omega)]; exact congrArg _ (congrArg _ eq')
  have mr : z4y (.int (c / 4)) (.int 2)=some (.int (r : Int)):=by rw [z2U (by omega)]; exact congrArg _ (congrArg _ er)
  have mt : z4y (.int (c / 8)) (.int 3)=some (.int (c / 8 % 3)):=z2U (by omega)
  have v2 : z9Q (.int c) (.int 2)=some (.int (c / 2)):=z6M ⟨by omega,by omega⟩
  have v4 : z9Q (.int c) (.int 4)=some (.int (c / 4)):=z6M ⟨by omega,by omega⟩
  have v8 : z9Q (.int c) (.int 8)=some (.int (c / 8)):=z6M ⟨by omega,by omega⟩
  obtain ⟨t,et,ht⟩ : ∃ t : Nat,(if decide (c / 8 % 3=1)=true then (1 : Int) else 0)=(t : Int)∧t < 2:=by
    by_cases h : c / 8 % 3=1
    · exact ⟨1,by rw [decide_eq_true h]; rfl,by omega⟩
    · exact ⟨0,by rw [decide_eq_false h]; rfl,by omega⟩
  have f0 : z4z (some [D.tup [.int 0,.int 1],D.tup [.int 0,.int 2],D.tup [.int 0,.int 3],D.tup [.int 1,.int 2],D.tup [.int 2,.int 3],D.tup [.int 4,.int 0],D.tup [.int 5,.int 0],D.tup [.int 6,.int 0],D.tup [.int 4,.int 1],D.tup [.int 4,.int 2],D.tup [.int 5,.int 2],D.tup [.int 5,.int 3]])=some (bt0.map prD):=y3K bt0
  have c0 : catO (some (.lst (bt0.map prD))) (some (.lst [D.tup [.int 6,.int 3],D.tup [.int 6,.int 1],D.tup [.int 3,.int 4],D.tup [.int 1,.int 5],D.tup [.int 2,.int 6]]))=some (bt1.map prD):=by
    have:=y3T (ds:=bt0.map prD) (es:=[(6,3),(6,1),(3,4),(1,5),(2,6)].map prD) (by simp [bt0])
    rw [← List.map_append] at this
    exact this
  have f1:=y3K bt1
  have a1 : atI [D.tup [.int 4,.int 5],D.tup [.int 5,.int 4]] (p : Int)=some (prD (pk p (4,5) (5,4))):=by rw [← y5A]; exact y7g hp
  have a2 : atI [D.tup [.int 4,.int 6],D.tup [.int 6,.int 4]] (q : Int)=some (prD (pk q (4,6) (6,4))):=by rw [← y5A]; exact y7g hq
  have a3 : atI [D.tup [.int 5,.int 6],D.tup [.int 6,.int 5]] (r : Int)=some (prD (pk r (5,6) (6,5))):=by rw [← y5A]; exact y7g hr
  have a4 : atI [D.tup [.int 3,.int 1],D.tup [.int 1,.int 3]] (t : Int)=some (prD (pk t (3,1) (1,3))):=by rw [← y5A]; exact y7g ht
  have hok:=bt_ok hp hq hr ht
  obtain ⟨z1,hz1⟩ : ∃ z,z=pk p (4,5) (5,4):=⟨_,rfl⟩
  obtain ⟨z2,hz2⟩ : ∃ z,z=pk q (4,6) (6,4):=⟨_,rfl⟩
  obtain ⟨z3,hz3⟩ : ∃ z,z=pk r (5,6) (6,5):=⟨_,rfl⟩
  obtain ⟨z4,hz4⟩ : ∃ z,z=pk t (3,1) (1,3):=⟨_,rfl⟩
  unfold bt2 at hok
  rw [← hz1] at a1 hok
  rw [← hz2] at a2 hok
  rw [← hz3] at a3 hok
  rw [← hz4] at a4 hok
  have b1 : m0V z7y (some (.lst (bt1.map prD))) (some [prD z1])=some (.lst ((bt1 ++ [z1]).map prD)):=z8U (by simp [bt1,bt0])
  obtain ⟨L1,hL1⟩ : ∃ L,L=bt1 ++ [z1]:=⟨_,rfl⟩
  rw [← hL1] at b1 hok
  have l1 : L1.length=18:=by rw [hL1]; rfl
  have b2 : m0V z7y (some (.lst (L1.map prD))) (some [prD z2])=some (.lst ((L1 ++ [z2]).map prD)):=z8U (by omega)
  obtain ⟨L2',hL2⟩ : ∃ L,L=L1 ++ [z2]:=⟨_,rfl⟩
  rw [← hL2] at b2 hok
  have l2 : L2'.length=19:=by rw [hL2,List.length_append,l1]; rfl
  have b3 : m0V z7y (some (.lst (L2'.map prD))) (some [prD z3])=some (.lst ((L2' ++ [z3]).map prD)):=z8U (by omega)
  obtain ⟨L3,hL3⟩ : ∃ L,L=L2' ++ [z3]:=⟨_,rfl⟩
  rw [← hL3] at b3 hok
  have l3 : L3.length=20:=by rw [hL3,List.length_append,l2]; rfl
  have b4 : m0V z7y (some (.lst (L3.map prD))) (some [prD z4])=some (.lst ((L3 ++ [z4]).map prD)):=z8U (by omega)
  obtain ⟨L,hL⟩ : ∃ L,L=L3 ++ [z4]:=⟨_,rfl⟩
  rw [← hL] at b4 hok
  obtain ⟨ok1,ok2⟩:=Bool.and_eq_true_iff.mp hok
  have hL7 : ∀ z∈L,z.1 < 7∧z.2 < 7:=fun z hz=>by
    have:=List.all_eq_true.mp ok1 z hz
    simpa using this
  have rp : repO (some (.lst [.bl false])) (some (.int (n : Int)))=some (List.replicate n (.bl false)):=y0r (show n≤1000000 by omega)
  have eb : (List.replicate n (D.bl false))=(List.replicate n false).map bD:=by rw [List.map_replicate]; rfl
  have cp : ∀ d2 d3 d4 d5 d6 : Option D,z1J (some (z5a 0 n)) (z2x z6h (z0u (y6j (mkL (z0k [dC (.bl false)])) (z0l z3c [z0d 0]))) [some (thD P),some (.int c),d2,d3,d4,d5,d6])=some ((List.replicate n (List.replicate n false)).map z3o):=fun d2 d3 d4 d5 d6=>by
    rw [z2t,z5W (fun _=>z3o (List.replicate n false)) (by simp; omega) fun x hx=>?_]
    · congr 1
      apply List.ext_getElem <;> simp
    · simp! only [z1U,hlen,rp,eb,z4M (z2d _)]
      rfl
  have tt : D.lst ((List.replicate n (List.replicate n false)).map z3o)=z0y (List.replicate n (List.replicate n false)):=rfl
  have sl : z9P (.lst (L.map prD))=some (L.map prD):=rfl
  simp! only [z3U,ev_litT,f0,c0,f1,mp,a1,imm_pr,b1,v2,mq,a2,b2,v4,mr,a3,b3,v8,mt,et,a4,b4,z1U,hlen,z0H (show n≤1000000 by omega),cp,tt,sl]
  obtain ⟨pl,hpl⟩ : ∃ pl : Nat->Nat,∀ k < n,pl k < n∧P[k]? = some (pl k):=⟨fun k=>P.getD k 0,fun k hk=>by
    have hk' : k < P.length:=by omega
    have e : P[k]? = some P[k]:=List.getElem?_eq_getElem hk'
    refine ⟨?_,?_⟩
    · show P.getD k 0 < n
      rw [List.getD_eq_getElem?_getD,e]
      exact hlt _ (List.getElem_mem hk')
    · show _=some (P.getD k 0)
      rw [List.getD_eq_getElem?_getD,e]
      rfl⟩
  have ixP : ∀ k : Nat,k < n->ixD (thD P) (.int (k : Int))=some (.int ((pl k : Nat) : Int)):=fun k hk=>z7s (by rw [List.getElem?_map,(hpl k hk).2]; rfl)
  have inj : ∀ i < n,∀ j < n,pl i=pl j->i=j:=fun i hi j hj h=>by
    have h1:=(hpl i hi).2
    have h2:=(hpl j hj).2
    rw [← h] at h2
    obtain ⟨h1l,h1e⟩:=List.getElem?_eq_some_iff.mp h1
    obtain ⟨h2l,h2e⟩:=List.getElem?_eq_some_iff.mp h2
    have ne : ∀ (x y : Nat) (hx : x < P.length) (hy : y < P.length),x < y->P[x]≠P[y]:=fun x y hx hy hxy=>List.pairwise_iff_getElem.mp hnd x y hx hy hxy
    rcases Nat.lt_trichotomy i j with w | w | w
    · exact absurd (h1e.trans h2e.symm) (ne i j h1l h2l w)
    · exact w
    · exact absurd (h2e.trans h1e.symm) (ne j i h2l h1l w)
  have sur : ∀ x < n,∃ i < n,pl i=x:=fun x hx=>by
    have : x∈P:=hP.mem_iff.mpr (List.mem_range.mpr hx)
    obtain ⟨i,hi,e⟩:=List.mem_iff_getElem.mp this
    refine ⟨i,by omega,?_⟩
    have:=(hpl i (by omega)).2
    rw [List.getElem?_eq_getElem hi,e] at this
    exact (Option.some.inj this).symm
  have keyL : ∀ {T : List (List Bool)},(∀ a b,at2 T a b=true↔∃ z∈L,a=pl z.1∧b=pl z.2)->∀ x < n,∀ y < n,at2 T (pl x) (pl y)=L.contains (x,y):=fun {T} hT x hx y hy=>by
    rw [Bool.eq_iff_iff,hT,List.contains_iff_mem]
    constructor
    · rintro ⟨z,hz,e1,e2⟩
      have h7:=hL7 z hz
      have k1:=inj x hx z.1 (by omega) e1
      have k2:=inj y hy z.2 (by omega) e2
      have : (x,y)=z:=by rw [k1,k2]
      rw [this]
      exact hz
    · exact fun h=>⟨_,h,rfl,rfl⟩
  have okx : ∀ x < 7,L.contains (x,x)=false:=fun x hx=>by
    have:=(Bool.and_eq_true_iff.mp (List.all_eq_true.mp ok2 x (List.mem_range.mpr hx))).1
    simpa using this
  have oky : ∀ x < 7,∀ y < 7,x≠y->L.contains (x,y) = !L.contains (y,x):=fun x hx y hy hne=>by
    have:=List.all_eq_true.mp (Bool.and_eq_true_iff.mp (List.all_eq_true.mp ok2 x (List.mem_range.mpr hx))).2 y (List.mem_range.mpr hy)
    rcases Bool.or_eq_true_iff.mp this with h | h
    · exact absurd (of_decide_eq_true h) hne
    · exact eq_of_beq h
  refine z0F (I:=fun z=>∃ (T : List (List Bool)) (o2 o4 o5 : Option SD),z=[some (.sh (thD P)),some (.sh (.int c)),o2,some (.ow (z0y T)),o4,o5,none]∧Sq n T∧∀ a b,at2 T a b=true↔∃ z∈L,a=pl z.1∧b=pl z.2) ?_ ?_
  · refine y4r (xs:=L) (fun pre z=>∃ (T : List (List Bool)) (o4 o5 : Option SD),z=[some (.sh (thD P)),some (.sh (.int c)),some (.sh (.lst (L.map prD))),some (.ow (z0y T)),o4,o5,none]∧Sq n T∧∀ a b,at2 T a b=true↔∃ z∈pre,a=pl z.1∧b=pl z.2) ?_ ?_ (post:=L) (pre:=[]) rfl ⟨List.replicate n (List.replicate n false),_,_,rfl,⟨by simp,fun r hr=>by rw [List.eq_of_mem_replicate hr]; simp⟩,fun a b=>⟨fun h=>(by rw [z9k] at h; cases h),fun ⟨_,h,_⟩=>(by cases h)⟩⟩
    · rintro pre x post e z ⟨T,o4,o5,rfl,sq,hT⟩
      have hx:=hL7 x (by rw [e]; simp)
      have h1 : pl x.1 < T.length:=by rw [sq.1]; exact (hpl _ (by omega)).1
      have h2 : pl x.2 < T[pl x.1].length:=by rw [sq.row h1]; exact (hpl _ (by omega)).1
      have st1:=z6f (v:=true) h1 h2
      simp! only [ixP x.1 (by omega),ixP x.2 (by omega),st1,z0e]
      refine ⟨_,_,_,rfl,sq.set h1,fun a b=>?_⟩
      rw [z7J h1 h2]
      constructor
      · intro h
        split at h
        · rename_i w
          exact ⟨x,by simp,w.1,w.2⟩
        · obtain ⟨z,hz,w⟩:=(hT a b).mp h
          exact ⟨z,List.mem_append_left _ hz,w⟩
      · rintro ⟨z,hz,w⟩
        rcases List.mem_append.mp hz with hz | hz
        · split
          · rfl
          · exact (hT a b).mpr ⟨z,hz,w⟩
        · rw [List.mem_singleton.mp hz] at w
          rw [if_pos w]
    · rintro z ⟨T,o4,o5,rfl,sq,hT⟩
      exact ⟨_,rfl,T,_,_,_,rfl,sq,hT⟩
  · rintro z ⟨T,o2,o4,o5,rfl,sq,hT⟩
    have cu : y5m (some (thD P)) (some (some 7)) (some none)=some ((P.drop 7).map nD):=z8K (k:=7)
    have tl : ∀ W : List Nat,D.lst (W.map nD)=thD W:=fun _=>rfl
    rcases hn with rfl | rfl
    · have e7 : P.drop 7=[]:=List.drop_eq_nil_of_le (by omega)
      rw [e7] at cu
      have sn : z9P (D.lst (([] : List Nat).map nD))=some (([] : List Nat).map nD):=rfl
      have fn : ∀ (b : SS->Option Out) (s : SS),z7e 6 b (([] : List Nat).map nD) s=some (.nx s):=fun _ _=>rfl
      obtain ⟨w,hw⟩ : ∃ w : List Nat,w=[]:=⟨_,rfl⟩
      rw [← hw] at cu sn fn
      simp! only [cu,sn,fn,z0e]
      refine ⟨_,rfl,T,rfl,sq,fun i hi=>?_,fun i hi j hj hij=>?_⟩
      · obtain ⟨x,hx,rfl⟩:=sur i hi
        rw [keyL hT x hx x hx]
        exact okx x hx
      · obtain ⟨x,hx,rfl⟩:=sur i hi
        obtain ⟨y,hy,rfl⟩:=sur j hj
        rw [keyL hT x hx y hy,keyL hT y hy x hx]
        exact oky x hx y hy fun z=>hij (by rw [z])
    · have e8 : P.drop 7=[pl 7]:=by
        have h7:=(hpl 7 (by omega)).2
        obtain ⟨h7l,h7e⟩:=List.getElem?_eq_some_iff.mp h7
        rw [List.drop_eq_getElem_cons h7l,h7e,List.drop_eq_nil_of_le (by omega)]
      rw [e8] at cu
      have hl8:=(hpl 7 (by omega)).1
      have ct : y5m (some (thD P)) (some none) (some (some 7))=some ((P.take 7).map nD):=by
        show some (z8E (P.map nD) none (some ((7 : Nat) : Int)))=_
        rw [z5t (by simp; omega),List.map_take]
      have tk : ∀ x∈P.take 7,∃ i < 7,x=pl i:=fun x hx=>by
        obtain ⟨i,hi,e⟩:=List.mem_iff_getElem.mp hx
        rw [List.length_take] at hi
        rw [List.getElem_take] at e
        have:=(hpl i (by omega)).2
        rw [List.getElem?_eq_getElem (by omega),e] at this
        exact ⟨i,by omega,Option.some.inj this⟩
      have kt : ∀ i < 7,pl i∈P.take 7:=fun i hi=>by
        have:=(hpl i (by omega)).2
        have h2 : (P.take 7)[i]? = some (pl i):=by rw [List.getElem?_take,if_pos hi,this]
        exact List.mem_of_getElem? h2
      obtain ⟨l,hl⟩ : ∃ l,l=pl 7:=⟨_,rfl⟩
      rw [← hl] at cu hl8
      obtain ⟨w,hw⟩ : ∃ w : List Nat,w=[l]:=⟨_,rfl⟩
      rw [← hw] at cu
      obtain ⟨w7,hw7⟩ : ∃ w,w=P.take 7:=⟨_,rfl⟩
      rw [← hw7] at ct tk kt
      simp! only [cu,tl,z1S]
      refine z0F (I:=fun z=>∃ (T : List (List Bool)) (o2 o4 o5 o6 : Option SD),z=[some (.sh (thD P)),some (.sh (.int c)),o2,some (.ow (z0y T)),o4,o5,o6]∧Full 8 T) ?_ ?_
      · refine z2Q (enc:=nD) (fun pre z=>if pre=[] then z=[some (.sh (thD P)),some (.sh (.int c)),o2,some (.ow (z0y T)),o4,o5,none] else ∃ (T : List (List Bool)) (o2 o4 o5 o6 : Option SD),z=[some (.sh (thD P)),some (.sh (.int c)),o2,some (.ow (z0y T)),o4,o5,o6]∧Full 8 T) (by rw [if_pos rfl]) ?_ ?_
        · rintro pre x post e z hz
          rw [hw] at e
          have hpx : pre=[]∧x=l:=by
            cases pre with
            | nil=>exact ⟨rfl,(List.cons.inj e).1.symm⟩
            | cons y p=>
              have:=congrArg List.length e
              simp at this
          obtain ⟨rfl,rfl⟩:=hpx
          rw [if_pos rfl] at hz
          subst hz
          have hlT : x < (T.map z3o).length:=by rw [List.length_map,sq.1]; exact hl8
          have st:=y6U (d:=z3o (List.replicate 8 false)) hlT
          rw [← List.map_set] at st
          have st : st0NV (some (z0y T)) (some (.int (x : Int))) (some (z3o (List.replicate 8 false)))=some (z0y (T.set x (List.replicate 8 false))):=st
          rw [eb] at rp
          obtain ⟨R8,hR8⟩ : ∃ R,R=List.replicate 8 false:=⟨_,rfl⟩
          rw [← hR8] at rp st
          have rw8 : D.lst (R8.map bD)=z3o R8:=rfl
          have sq1 : Sq 8 (T.set x (List.replicate 8 false)):=⟨by rw [List.length_set,sq.1],fun r hr=>by
            rcases List.mem_or_eq_of_mem_set hr with q | q
            · exact sq.2 r q
            · rw [q]; rfl⟩
          have hT1 : ∀ a b,at2 (T.set x (List.replicate 8 false)) a b=true↔∃ z∈L,a=pl z.1∧b=pl z.2:=fun a b=>by
            by_cases hax : a=x
            · subst hax
              constructor
              · intro h
                exfalso
                have hz : (T.set a (List.replicate 8 false)).getD a []=List.replicate 8 false:=by
                  rw [List.getD_eq_getElem?_getD,List.getElem?_set_self (by rw [sq.1]; exact hl8)]
                  rfl
                unfold at2 at h
                rw [hz] at h
                rw [List.getD_eq_getElem?_getD,List.getElem?_replicate] at h
                split at h <;> cases h
              · rintro ⟨z,hz,e1,_⟩
                have h7:=hL7 z hz
                have:=inj 7 (by omega) z.1 (by omega) (by rw [← hl,e1])
                omega
            · have : at2 (T.set x (List.replicate 8 false)) a b=at2 T a b:=by
                unfold at2
                simp only [List.getD,List.getElem?_set_ne (Ne.symm hax)]
              rw [this]
              exact hT a b
          rw [← hR8] at sq1 hT1
          obtain ⟨T1,hT1e⟩ : ∃ T1,T1=T.set x R8:=⟨_,rfl⟩
          rw [← hT1e] at st sq1 hT1
          simp! only [nD,z1U,hlen,rp,z4M (z2d _),rw8,st,ct,tl,z1S]
          have hne : ¬([] ++ [x]=([] : List Nat)):=by simp
          refine z2Q (enc:=nD) (fun pre z=>∃ (T2 : List (List Bool)) (o2' o4 o5' : Option SD),z=[some (.sh (thD P)),some (.sh (.int c)),o2',some (.ow (z0y T2)),o4,o5',some (.sh (.int (x : Int)))]∧Sq 8 T2∧∀ a b,at2 T2 a b=true↔(∃ z∈L,a=pl z.1∧b=pl z.2)∨(a∈pre∧b=x)) ⟨T1,_,_,_,rfl,sq1,fun a b=>by rw [hT1]; simp⟩ ?_ ?_
          · rintro pre y post e' z ⟨T2,o2',o4',o5',rfl,sq2,hT2⟩
            have hy7 : y∈w7:=by rw [e']; simp
            obtain ⟨i,hi,hyi⟩:=tk y hy7
            have hym : y < 8:=by rw [hyi]; exact (hpl i (by omega)).1
            have h1 : y < T2.length:=by rw [sq2.1]; exact hym
            have h2 : x < T2[y].length:=by rw [sq2.row h1]; exact hl8
            have st1:=z6f (v:=true) h1 h2
            simp! only [nD,st1,z0e]
            refine ⟨_,_,_,_,rfl,sq2.set h1,fun a b=>?_⟩
            rw [z7J h1 h2]
            constructor
            · intro h
              split at h
              · rename_i w
                exact .inr ⟨by rw [w.1]; simp,w.2⟩
              · rcases (hT2 a b).mp h with w | w
                · exact .inl w
                · exact .inr ⟨List.mem_append_left _ w.1,w.2⟩
            · intro h
              split
              · rfl
              · rename_i hnw
                rcases h with w | ⟨w1,w2⟩
                · exact (hT2 a b).mpr (.inl w)
                · rcases List.mem_append.mp w1 with w | w
                  · exact (hT2 a b).mpr (.inr ⟨w,w2⟩)
                  · exact absurd ⟨List.mem_singleton.mp w,w2⟩ hnw
          · rintro z ⟨T2,o2',o4',o5',rfl,sq2,hT2⟩
            refine (if_neg (show ¬([x]=([] : List Nat)) by simp)).mpr ?_
            have key : ∀ i < 8,∀ j < 8,at2 T2 (pl i) (pl j)=(L.contains (i,j) || (decide (i < 7) && decide (j=7))):=fun i hi j hj=>by
              rw [Bool.eq_iff_iff,hT2,Bool.or_eq_true_iff,Bool.and_eq_true_iff,decide_eq_true_iff,decide_eq_true_iff,List.contains_iff_mem]
              constructor
              · rintro (⟨z,hz,e1,e2⟩ | ⟨w1,w2⟩)
                · have h7:=hL7 z hz
                  have k1:=inj i hi z.1 (by omega) e1
                  have k2:=inj j hj z.2 (by omega) e2
                  have : (i,j)=z:=by rw [k1,k2]
                  exact .inl (this ▸ hz)
                · obtain ⟨i',hi',e'⟩:=tk _ w1
                  have:=inj i hi i' (by omega) e'
                  have:=inj j hj 7 (by omega) (by rw [w2,hl])
                  exact .inr ⟨by omega,by omega⟩
              · rintro (h | ⟨h1,h2⟩)
                · exact .inl ⟨_,h,rfl,rfl⟩
                · exact .inr ⟨kt i h1,by rw [h2,hl]⟩
            have no7 : ∀ i < 8,L.contains (i,7)=false∧L.contains (7,i)=false:=fun i hi=>by
              refine ⟨?_,?_⟩ <;>
              · rw [← Bool.not_eq_true,List.contains_iff_mem]
                intro hz
                have:=hL7 _ hz
                have h1:=this.1
                have h2:=this.2
                simp at h1 h2
            refine ⟨T2,_,_,_,_,rfl,sq2,fun i hi=>?_,fun i hi j hj hij=>?_⟩
            · obtain ⟨x',hx',rfl⟩:=sur i hi
              rw [key x' hx' x' hx']
              by_cases h7 : x' < 7
              · rw [okx x' h7,decide_eq_false (show ¬x'=7 by omega)]
                simp
              · have : x'=7:=by omega
                subst this
                rw [(no7 7 (by omega)).1]
                simp
            · obtain ⟨x',hx',rfl⟩:=sur i hi
              obtain ⟨y',hy',rfl⟩:=sur j hj
              have hne' : x'≠y':=fun z=>hij (by rw [z])
              rw [key x' hx' y' hy',key y' hy' x' hx']
              by_cases h7 : x' < 7
              · by_cases h7' : y' < 7
                · rw [oky x' h7 y' h7' hne',decide_eq_false (show ¬y'=7 by omega),decide_eq_false (show ¬x'=7 by omega)]
                  simp
                · have : y'=7:=by omega
                  subst this
                  rw [(no7 x' hx').1,(no7 x' hx').2,decide_eq_true h7]
                  simp
              · have : x'=7:=by omega
                subst this
                have h7' : y' < 7:=by omega
                rw [(no7 y' hy').1,(no7 y' hy').2,decide_eq_true h7']
                simp
        · rintro z hz
          rw [hw,if_neg (by simp)] at hz
          exact ⟨_,rfl,hz⟩
      · rintro z ⟨T',o2',o4',o5',o6',rfl,F⟩
        simp! only [z0e]
        exact ⟨_,rfl,T',rfl,F⟩
theorem ixT0 {a : D} {r : List D} : ixD (.tup (a :: r)) (.int 0)=some a:=z1N (j:=0) rfl
theorem ixT1 {a b : D} {r : List D} : ixD (.tup (a :: b :: r)) (.int 1)=some b:=z1N (j:=1) rfl
noncomputable def othL (m : Nat) (c : List Nat) : List Nat:=(List.range m).filter fun x=>!c.contains x
theorem k_pp : eqD (.str "plain") (.str "plain")=some (.bl true):=z4b (by decide +kernel) (by decide +kernel) (by decide +kernel)
theorem k_ap : eqD (.str "ahead") (.str "plain")=some (.bl false):=z4b (by decide +kernel) (by decide +kernel) (by decide +kernel)
theorem k_aa : eqD (.str "ahead") (.str "ahead")=some (.bl true):=z4b (by decide +kernel) (by decide +kernel) (by decide +kernel)
theorem k_rp : eqD (.str "rest") (.str "plain")=some (.bl false):=z4b (by decide +kernel) (by decide +kernel) (by decide +kernel)
theorem k_ra : eqD (.str "rest") (.str "ahead")=some (.bl false):=z4b (by decide +kernel) (by decide +kernel) (by decide +kernel)
theorem k_rr : eqD (.str "rest") (.str "rest")=some (.bl true):=z4b (by decide +kernel) (by decide +kernel) (by decide +kernel)
theorem k_oo : eqD (.str "order") (.str "order")=some (.bl true):=z4b (by decide +kernel) (by decide +kernel) (by decide +kernel)
theorem k_so : eqD (.str "shut") (.str "order")=some (.bl false):=z4b (by decide +kernel) (by decide +kernel) (by decide +kernel)
theorem k_bo : eqD (.str "beaten") (.str "order")=some (.bl false):=z4b (by decide +kernel) (by decide +kernel) (by decide +kernel)
theorem k_bb : eqD (.str "beaten") (.str "beaten")=some (.bl true):=z4b (by decide +kernel) (by decide +kernel) (by decide +kernel)
theorem k_cb : eqD (.str "chain") (.str "beaten")=some (.bl false):=z4b (by decide +kernel) (by decide +kernel) (by decide +kernel)
theorem z7A {m : Nat} {T : List (List Bool)} (F : Full m T) (hm : m≤60) {r0 : List Nat} {rest : List (List Nat)} (hr : rgL T m=r0 :: rest) : z2b [z0y T]=some (thD r0):=by
  refine z0E rfl ?_
  have re:=y1n F.sq hm
  rw [hr,List.map_cons] at re
  have ix : atI (thD r0 :: rest.map thD) 0=some (thD r0):=z1N (j:=0) rfl
  simp! only [z5M,re,ix,z0e]
inductive Ppr (S : Nat->Bool) (a : Nat) : D->Prop
  | yes {w : List Nat} {q : List D} : S a=true->Ppr S a (.tup (.str "order" :: thD w :: q))
  | no {s : Str} {q : D} : S a=false->eqD (.str s) (.str "order")=some (.bl false)->Ppr S a (.tup [.str s,q])
theorem y4L {r : List Nat} {a : Nat} (h : a ∉ r) : r.contains a=false:=by rw [← Bool.not_eq_true,List.contains_iff_mem]; exact h
theorem y7b {m : Nat} {T : List (List Bool)} (F : Full m T) (hm : m≤60) {r0 : List Nat} {rest : List (List Nat)} (hr : rgL T m=r0 :: rest) {a : Nat} : ∃ d,z0Z [z0y T,.str "plain",.int (a : Int)]=some d∧Ppr (fun a=>r0.contains a) a d:=by
  have tr:=z7A F hm hr
  by_cases ha : a∈r0
  · obtain ⟨q,e,_,_⟩:=y7p F hm hr ha
    have hc : r0.contains a=true:=List.contains_iff_mem.mpr ha
    have hc' : (!r0.contains a)=false:=by rw [hc]; rfl
    obtain ⟨Q,hQ⟩ : ∃ Q,Q=a :: q:=⟨_,rfl⟩
    rw [← hQ] at e
    have rv : revF [thD Q]=some (Q.reverse.map nD):=by
      show revF [.lst (Q.map nD)]=_
      rw [y4I,List.map_reverse]
    have tl : ∀ W : List Nat,D.lst (W.map nD)=thD W:=fun _=>rfl
    have st : z2G [z0y T,.int (a : Int)]=some (.tup [.str "order",thD Q.reverse]):=by
      refine z0E rfl ?_
      simp! only [z4p,tr,z3v,hc',e,rv,tl,z0e]
    exact ⟨.tup [.str "order",thD Q.reverse],z0E rfl (by simp! only [z1j,k_pp,st,z0e]),.yes (q:=[]) hc⟩
  · have hc:=y4L ha
    have hc' : (!r0.contains a)=true:=by rw [hc]; rfl
    have st : z2G [z0y T,.int (a : Int)]=some (.tup [.str "shut",thD r0]):=by
      refine z0E rfl ?_
      simp! only [z4p,tr,z3v,hc',z0e]
    exact ⟨.tup [.str "shut",thD r0],z0E rfl (by simp! only [z1j,k_pp,st,z0e]),.no hc k_so⟩
theorem pf_rest {m : Nat} {T : List (List Bool)} (F : Full m T) (hm : m≤60) {r0 : List Nat} {rest : List (List Nat)} (hr : rgL T m=r0 :: rest) {a : Nat} : ∃ d,z0Z [z0y T,.str "rest",.int (a : Int)]=some d∧Ppr (fun a=>r0.contains a) a d:=by
  have tr:=z7A F hm hr
  by_cases ha : a∈r0
  · obtain ⟨q,e,_,_⟩:=y7p F hm hr ha
    have hc : r0.contains a=true:=List.contains_iff_mem.mpr ha
    have hc' : (!r0.contains a)=false:=by rw [hc]; rfl
    obtain ⟨Q,hQ⟩ : ∃ Q,Q=a :: q:=⟨_,rfl⟩
    rw [← hQ] at e
    have st : z3q [z0y T,.int (a : Int)]=some (.tup [.str "order",thD Q]):=by
      refine z0E rfl ?_
      simp! only [z5r,tr,z3v,hc',e,z0e]
    exact ⟨.tup [.str "order",thD Q],z0E rfl (by simp! only [z1j,k_rp,k_ra,k_rr,st,z0e]),.yes (q:=[]) hc⟩
  · have hc:=y4L ha
    have hc' : (!r0.contains a)=true:=by rw [hc]; rfl
    have st : z3q [z0y T,.int (a : Int)]=some (.tup [.str "shut",thD r0]):=by
      refine z0E rfl ?_
      simp! only [z5r,tr,z3v,hc',z0e]
    exact ⟨.tup [.str "shut",thD r0],z0E rfl (by simp! only [z1j,k_rp,k_ra,k_rr,st,z0e]),.no hc k_so⟩
theorem y5y {m : Nat} {T : List (List Bool)} (A : Ant m T) (hm : m≤8) {a : Nat} (ha : a < m) : ∃ d,z0Z [z0y T,.str "ahead",.int (a : Int)]=some d∧Ppr (fun a=>crB T m a) a d:=by
  have pe:=y6o A hm ha
  cases pap_of A hm ha with
  | chain c hc hcr hp hcb=>
    have h:=y0g A ha hc
    have hl:=h.len
    rw [hp] at pe
    have p0 : ixD (.tup [.str "chain",thD c]) (.int 0)=some (.str "chain"):=rfl
    have p1 : ixD (.tup [.str "chain",thD c]) (.int 1)=some (thD c):=rfl
    obtain ⟨pd,hpd⟩ : ∃ pd,pd=D.tup [.str "chain",thD c]:=⟨_,rfl⟩
    rw [← hpd] at p0 p1 pe
    have cx : ∀ d4 : Option D,z1J (some (z5a 0 m)) (z2x (z0G (d2 y0Q (z0d 5) (z0d 3))) (z0d 5) [some (z0y T),some (.int (a : Int)),some pd,some (thD c),d4])=some ((othL m c).map nD):=fun d4=>by
      rw [z2t]
      exact z6a (fun x=>!c.contains x) nD (by simp; omega) (fun x hx=>by simp! only [nD,z3v]) fun x _ _=>by simp! only []
    have tl : ∀ W : List Nat,D.lst (W.map nD)=thD W:=fun _=>rfl
    have ol : (othL m c).length≤m:=by
      have:=List.length_filter_le (fun x=>!c.contains x) (List.range m)
      rw [List.length_range] at this
      exact this
    have ct:=z6p (a:=othL m c) (b:=c) (by omega)
    have st : z2K [z0y T,.int (a : Int)]=some (.tup [.str "order",thD (othL m c ++ c),thD c]):=by
      refine z0E rfl ?_
      simp! only [z4l,pe,p0,k_cb,p1,z3M,A.sq.1,z0H (show m≤1000000 by omega),cx,z1y,tl,ct,z0e]
    exact ⟨.tup [.str "order",thD (othL m c ++ c),thD c],z0E rfl (by simp! only [z1j,k_ap,k_aa,st,z0e]),.yes (q:=[thD c]) hcb⟩
  | beaten hn hp hcb=>
    obtain ⟨Q,hQ⟩ : ∃ Q,Q=D.lst ((y0B T m a).map (bpD T m)):=⟨_,rfl⟩
    rw [hp,← hQ] at pe
    have p0 : ixD (.tup [.str "beaten",Q]) (.int 0)=some (.str "beaten"):=rfl
    have st : z2K [z0y T,.int (a : Int)]=some (.tup [.str "beaten",Q]):=by
      refine z0E rfl ?_
      obtain ⟨pd,hpd⟩ : ∃ pd,pd=D.tup [.str "beaten",Q]:=⟨_,rfl⟩
      rw [← hpd] at p0 pe ⊢
      simp! only [z4l,pe,p0,k_bb,z0e]
    exact ⟨.tup [.str "beaten",Q],z0E rfl (by simp! only [z1j,k_ap,k_aa,st,z0e]),.no hcb k_bo⟩
theorem pick {p : Nat->D->Prop} {m : Nat} (h : ∀ a < m,∃ d,p a d) : ∃ f : Nat->D,∀ a < m,p a (f a):=
  ⟨fun a=>if h' : a < m then Classical.choose (h a h') else .non,fun a ha=>by
    show p a (if h' : a < m then Classical.choose (h a h') else .non)
    rw [dif_pos ha]
    exact Classical.choose_spec (h a ha)⟩
theorem ppr_od {S : Nat->Bool} {a : Nat} {p : D} (h : Ppr S a p) : ∃ d,(S a=true->∃ w,d=thD w)∧(S a=false->d = .non)∧(o2 eqD (ixD p (.int 0)) (some (.str "order"))).bind asB=some (S a)∧(S a=true->ixD p (.int 1)=some d):=by
  cases h with
  | @yes w q hs=>
    refine ⟨thD w,fun _=>⟨w,rfl⟩,fun z=>(by rw [hs] at z; cases z),?_,fun _=>ixT1⟩
    rw [ixT0,eo_2,k_oo,hs]
    rfl
  | @no s q hs he=>
    refine ⟨.non,fun z=>(by rw [hs] at z; cases z),fun _=>rfl,?_,fun z=>(by rw [hs] at z; cases z)⟩
    rw [ixT0,eo_2,he,hs]
    rfl
theorem y3A {m : Nat} {T : List (List Bool)} (sq : Sq m T) (hm : m≤60) {k : Str} {S : Nat->Bool} (h : ∀ a < m,∃ d,z0Z [z0y T,.str k,.int (a : Int)]=some d∧Ppr S a d) : z0K [z0y T,.str k]=some (thD ((List.range m).filter S)):=by
  obtain ⟨pf,hpf⟩:=pick h
  obtain ⟨od,hod⟩:=pick fun a ha=>ppr_od (hpf a ha).2
  have oe : z2S [z0y T,.str k]=some (.lst ((List.range m).map od)):=by
    refine z0E rfl ?_
    have c1 : ∀ d2 : Option D,z1J (some (z5a 0 m)) (z2x z6h (z0l z0Z [z0d 0,z0d 1,z0d 3]) [some (z0y T),some (.str k),d2])=some ((List.range m).map pf):=fun d2=>by
      rw [z2t]
      exact z5W pf (by simp; omega) fun a ha=>by simp! only [nD,(hpf a (List.mem_range.mp ha)).1]
    obtain ⟨PL,hPL⟩ : ∃ PL,PL=D.lst ((List.range m).map pf):=⟨_,rfl⟩
    have sp : z9P PL=some ((List.range m).map pf):=by rw [hPL]; rfl
    have c2 : z1J (some ((List.range m).map pf)) (z2x z6h (dIf (z0G (d2 eqD (d2 ixD (z0d 3) (dC (.int 0))) (dC (.str "order")))) (d2 ixD (z0d 3) (dC (.int 1))) (dC .non)) [some (z0y T),some (.str k),some PL])=some ((List.range m).map od):=
      z5W od (by simp; omega) fun a ha=>by
        obtain ⟨h1,h2,h3,h4⟩:=hod a (List.mem_range.mp ha)
        cases hs : S a with
        | true=>
          rw [hs] at h3
          simp! only [h3,h4 hs]
        | false=>
          rw [hs] at h3
          simp! only [h3,h2 hs]
    simp! only [z4H,z3M,sq.1,z0H (show m≤1000000 by omega),c1]
    rw [← hPL]
    simp! only [sp,c2,z0e]
  refine z0E rfl ?_
  have en : z9H (.lst ((List.range m).map od))=some (z0t 0 ((List.range m).map od)):=rfl
  have cx : z1J (some (z0t 0 ((List.range m).map od))) (two (z4f (y4J (z0d 3)) (z0d 2) [some (z0y T),some (.str k)]))=some (((List.range m).filter S).map nD):=by
    rw [y3I (enc:=od) (xs:=List.range m) (fun i _=>S i) (fun i _=>nD i) (by simp; omega) (fun i hi=>by
      have him : i < m:=by simpa using hi
      have ei : (List.range m)[i]=i:=List.getElem_range hi
      obtain ⟨h1,h2,_,_⟩:=hod i him
      rw [ei]
      simp! only []
      cases hs : S i with
      | true=>
        obtain ⟨w,hw⟩:=h1 hs
        rw [hw]
        rfl
      | false=>
        rw [h2 hs]
        rfl) fun i hi _=>by simp! only []; rfl]
    have e : (List.range m).zipIdx=(List.range m).map fun a=>(a,a):=by
      apply List.ext_getElem
      · simp
      · intro i h1 h2
        simp
    have : ((List.range m).zipIdx.filter fun z=>S z.2).map (fun z=>nD z.2)=((List.range m).filter S).map nD:=by
      rw [e,List.filter_map,List.map_map]
      rfl
    exact congrArg some this
  simp! only [z3W,oe,en,cx,z1y,z0e]
  rfl
theorem cut_to {o : List Nat} {k : Nat} (h : k≤o.length) : y5m (some (thD o)) (some none) (some (some (k : Int)))=some ((o.take k).map nD):=by
  show some (z8E (o.map nD) none (some (k : Int)))=_
  rw [z5t (by simpa using h),List.map_take]
theorem y6B {w : List Nat} {x : Nat} (h : x ∉ w) : z5b (thD w) (.int (x : Int))=some (.int 0):=by
  unfold thD
  rw [z6D,y4T]
  have : (w.map fun n=>((n : Nat) : Int)).countP (fun n=>n == (x : Int))=0:=List.countP_eq_zero.mpr fun y hy=>by
    obtain ⟨z,hz,rfl⟩:=List.mem_map.mp hy
    have : z≠x:=fun e=>h (e ▸ hz)
    simp
    omega
  rw [this]
  rfl
theorem th_same (o : List Nat) : eqD (thD o) (thD o)=some (.bl true):=L2.eq_self (y0N o)
theorem y5Y {W : List Nat} {m : Nat} (hm : m≤30) (up : W.Pairwise (· < ·)) (lt : ∀ x∈W,x < m) (hne : W≠[]) : z0Y [thD W,.int (m : Int)]=some (.bl true):=by
  refine z0E rfl ?_
  have nd : W.Nodup:=up.imp fun h=>Nat.ne_of_lt h
  have hl : W.length≤m:=by simpa using List.Nodup.length_le_of_subset nd fun x hx=>List.mem_range.mpr (lt x hx)
  have hpos:=List.length_pos_iff.mpr hne
  have il : isF "list" (thD W)=true:=rfl
  have d0 : decide ((W.length : Int)=0)=false:=decide_eq_false (by omega)
  simp_all! only [z3w,il,z1U,d0,z0H (show W.length≤1000000 by omega)]
  refine z0F (I:=fun s=>∃ o2,s=[some (.sh (thD W)),some (.sh (.int (m : Int))),o2]) ?_ ?_
  · refine z3S (fun k s=>∃ o2,s=[some (.sh (thD W)),some (.sh (.int (m : Int))),o2]) ⟨_,rfl⟩ ?_ fun s z=>⟨s,rfl,z⟩
    rintro k hk s ⟨o2,rfl⟩
    have ix : ixD (thD W) (.int (k : Int))=some (.int ((W[k] : Nat) : Int)):=z7s (by rw [List.getElem?_map,List.getElem?_eq_getElem hk]; rfl)
    have hx:=lt W[k] (List.getElem_mem hk)
    have hn : W[k] ∉ W.take k:=fun z=>by
      obtain ⟨i,hi,e⟩:=List.mem_iff_getElem.mp z
      rw [List.length_take] at hi
      rw [List.getElem_take] at e
      exact absurd e (List.pairwise_iff_getElem.mp nd i k (by omega) hk (by omega))
    have ct:=y6B hn
    have cu:=cut_to (o:=W) (k:=k) (by omega)
    obtain ⟨x,hxe⟩ : ∃ x,x=W[k]:=⟨_,rfl⟩
    rw [← hxe] at ix hx ct
    have d1 : decide ((x : Int) < 0)=false:=decide_eq_false (by omega)
    have d2 : decide ((x : Int) ≥ (m : Int))=false:=decide_eq_false (by omega)
    have tl : ∀ W : List Nat,D.lst (W.map nD)=thD W:=fun _=>rfl
    simp_all! only [Int.zero_add,ix,y6f,d1,d2,cu,tl,ct,z0e]
    exact ⟨_,rfl⟩
  · rintro s ⟨o2,rfl⟩
    have so : y1K [thD W]=some (W.map nD):=by
      unfold thD
      rw [z6D,y7c (by simp; omega)]
      congr 2
      refine (z8j (List.Perm.refl _) ?_).symm
      rw [List.pairwise_map]
      exact up.imp fun h=>by omega
    have tl : ∀ W : List Nat,D.lst (W.map nD)=thD W:=fun _=>rfl
    simp! only [so,tl,th_same,z0e]
noncomputable def luB (T : List (List Bool)) (m a : Nat) : Bool:=(List.range m).all fun o=>!((!decide ((o : Int)=(a : Int)) && !at2 T a o) && decide ((((List.range m).filter fun t=>at2 T a t && at2 T t o).length : Int)=0))
theorem y5e {m : Nat} {T : List (List Bool)} (sq : Sq m T) (hm : m≤900) {a : Nat} (ha : a < m) : z0Q [z0y T,.int (a : Int)]=some (.bl (luB T m a)):=by
  refine z0E rfl ?_
  simp! only [z2w,z3M,sq.1,z0H (show m≤1000000 by omega)]
  refine z6t (c:=luB T m a) (d:=.bl false) (I:=fun s=>∃ o2,s=[some (.sh (z0y T)),some (.sh (.int (a : Int))),o2]) (y6z _ (fun o=>!((!decide ((o : Int)=(a : Int)) && !at2 T a o) && decide ((((List.range m).filter fun t=>at2 T a t && at2 T t o).length : Int)=0))) _ ⟨_,rfl⟩ ?_) ?_ ?_
  · rintro o ho s ⟨o2,rfl⟩
    have cx : z1J (some (z5a 0 m)) (z2x (z3y (z0v (d2 ixD (d2 ixD (z0d 0) (z0d 1)) (z0d 3))) (z0v (d2 ixD (d2 ixD (z0d 0) (z0d 3)) (z0d 2)))) (z0d 3) [some (z0y T),some (.int (a : Int)),some (.int (o : Int))])=some (((List.range m).filter fun t=>at2 T a t && at2 T t o).map nD):=by
      rw [z2t]
      exact z6a (fun t=>at2 T a t && at2 T t o) nD (by simp; omega) (fun t ht=>by
        have ht:=List.mem_range.mp ht
        simp! only [nD,ix2 sq ha ht,ix2 sq ht ho]) fun t _ _=>by simp! only []
    have tl : ∀ W : List Nat,D.lst (W.map nD)=thD W:=fun _=>rfl
    obtain ⟨q,hq⟩ : ∃ q,q=decide ((((List.range m).filter fun t=>at2 T a t && at2 T t o).length : Int)=0):=⟨_,rfl⟩
    obtain ⟨p,hp⟩ : ∃ p,p=(!decide ((o : Int)=(a : Int)) && !at2 T a o):=⟨_,rfl⟩
    rw [← hq,← hp]
    have i1:=ix2 sq ha ho
    cases p with
    | false=>
      simp_all! only [i1,← hp,z0e,if_true]
      exact ⟨_,rfl,_,rfl⟩
    | true=>
      cases q with
      | false=>
        simp_all! only [i1,← hp,z3M,sq.1,z0H (show m≤1000000 by omega),cx,tl,z1U,← hq,z0e,if_true]
        exact ⟨_,rfl,_,rfl⟩
      | true=>
        simp_all! only [i1,← hp,z3M,sq.1,z0H (show m≤1000000 by omega),cx,tl,z1U,← hq,z0e,Bool.false_eq_true,if_false]
  · rintro h s ⟨o2,rfl⟩
    rw [h]
    simp! only [z0e]
  · intro h
    rw [h]
theorem lu_iff {m : Nat} {T : List (List Bool)} {a : Nat} : luB T m a=true↔∀ o < m,o≠a->at2 T a o=false->∃ t < m,at2 T a t=true∧at2 T t o=true:=by
  unfold luB
  rw [List.all_eq_true]
  constructor
  · intro h o ho hne hf
    have:=h o (List.mem_range.mpr ho)
    have d1 : decide ((o : Int)=(a : Int))=false:=decide_eq_false (by omega)
    rw [d1,hf] at this
    have this : decide ((((List.range m).filter fun t=>at2 T a t && at2 T t o).length : Int)=0)=false:=by simpa using this
    have:=of_decide_eq_false this
    obtain ⟨t,ht⟩:=List.exists_mem_of_length_pos (show 0 < ((List.range m).filter fun t=>at2 T a t && at2 T t o).length by omega)
    obtain ⟨h1,h2⟩:=List.mem_filter.mp ht
    exact ⟨t,List.mem_range.mp h1,Bool.and_eq_true_iff.mp h2⟩
  · intro h o ho
    have ho:=List.mem_range.mp ho
    by_cases hoa : o=a
    · subst hoa; simp
    · cases hf : at2 T a o with
      | true=>simp
      | false=>
        obtain ⟨t,ht,h1,h2⟩:=h o ho hoa hf
        have hm : t∈(List.range m).filter fun t=>at2 T a t && at2 T t o:=List.mem_filter.mpr ⟨List.mem_range.mpr ht,by rw [h1,h2]; rfl⟩
        have:=List.length_pos_iff.mpr (List.ne_nil_of_mem hm)
        have d2 : decide ((((List.range m).filter fun t=>at2 T a t && at2 T t o).length : Int)=0)=false:=decide_eq_false (by omega)
        rw [d2]
        simp
theorem cr_lu {m : Nat} {T : List (List Bool)} (F : Full m T) {a : Nat} (ha : a < m) (h : crB T m a=true) : luB T m a=true:=by
  rw [lu_iff]
  intro o ho hne hf
  obtain ⟨c,hc,hcr⟩:=List.any_eq_true.mp h
  obtain ⟨h1,⟨r,rfl⟩,h3⟩:=y4w ha (F.own a ha) (Nat.le_refl _) c hc
  obtain ⟨y,hy,hoy⟩:=bt_nil.mp hcr o ho
  have pw:=chB_iff.mp h1
  have hoa : at2 T o a=true:=(F.tot ho ha hne).resolve_right (by rw [hf]; exact Bool.false_ne_true)
  rcases List.mem_cons.mp hy with z | z
  · rw [z,hoa] at hoy; cases hoy
  · have hay:=(List.pairwise_cons.mp pw).1 y z
    have hym:=h3 y hy
    have hyo : y≠o:=fun e=>by rw [e,hf] at hay; cases hay
    exact ⟨y,hym,hay,(F.tot hym ho hyo).resolve_right (by rw [hoy]; exact Bool.false_ne_true)⟩
theorem y7A {m : Nat} {T : List (List Bool)} {a : Nat} (h : luB T m a=true) : ∀ o < m,Rch T m a o:=fun o ho=>by
  by_cases e : o=a
  · rw [e]; exact .here
  · cases h1 : at2 T a o with
    | true=>exact .step .here ho h1
    | false=>
      obtain ⟨t,ht,h2,h3⟩:=lu_iff.mp h o ho e h1
      exact .step (.step .here ht h2) ho h3
theorem sub_fil {B : List Nat} {p : Nat->Bool} : B.filter p∈z6X B:=by
  have h : ∀ n,(B.take n).filter p∈z6X (B.take n):=fun n=>by
    induction n with
    | zero=>simp [z6X]
    | succ n ih=>
      by_cases hn : n < B.length
      · have e : B.take (n + 1)=B.take n ++ [B[n]]:=by rw [List.take_add_one,List.getElem?_eq_getElem hn]; rfl
        rw [e,z8z,List.filter_append]
        cases hp : p B[n] with
        | true=>
          have : [B[n]].filter p=[B[n]]:=by simp [hp]
          rw [this]
          exact List.mem_append_right _ (List.mem_map.mpr ⟨_,ih,rfl⟩)
        | false=>
          have : [B[n]].filter p=[]:=by simp [hp]
          rw [this,List.append_nil]
          exact List.mem_append_left _ ih
      · have e : B.take (n + 1)=B.take n:=by rw [List.take_of_length_le (by omega),List.take_of_length_le (by omega)]
        rw [e]
        exact ih
  have:=h B.length
  rw [List.take_of_length_le (Nat.le_refl _)] at this
  exact this
theorem y0P {m : Nat} {T : List (List Bool)} (F : Full m T) : ∀ {r : List Nat},(∀ u∈r,u < m)->r.Pairwise (fun x y=>at2 T x y=true)->∀ u∈r,∀ v∈r,∀ w∈r,at2 T u v=true->at2 T v w=true->at2 T w u=true->False
  | [],_,_,_,hu,_,_,_,_=>nomatch hu
  | a :: r,lt,pw,u,hu,v,hv,w,hw=>fun h1 h2 h3=>by
    have pc:=List.pairwise_cons.mp pw
    have la:=lt a List.mem_cons_self
    have lr : ∀ x∈r,x < m:=fun x hx=>lt x (List.mem_cons_of_mem _ hx)
    have no : ∀ x∈a :: r,at2 T x a=true->False:=fun x hx h=>by
      rcases List.mem_cons.mp hx with z | z
      · rw [z,F.own a la] at h; cases h
      · exact F.no la (lr x z) (pc.1 x z) h
    rcases List.mem_cons.mp hu with z | zu
    · rw [z] at h3; exact no w hw h3
    · rcases List.mem_cons.mp hv with z | zv
      · rw [z] at h1; exact no u hu h1
      · rcases List.mem_cons.mp hw with z | zw
        · rw [z] at h2; exact no v hv h2
        · exact y0P F lr pc.2 u zu v zv w zw h1 h2 h3
noncomputable def cwP (T : List (List Bool)) (m a : Nat) (s : List Nat) : Bool:=!(rndB T s && decide (((btL T m (s ++ [a])).length : Int)=0))
theorem y5f {T : List (List Bool)} {m : Nat} {c e : List Nat} (h : ∀ x,x∈c↔x∈e) : crP T m c=crP T m e:=by
  rw [Bool.eq_iff_iff,bt_nil,bt_nil]
  constructor
  · intro z x hx
    obtain ⟨y,hy,q⟩:=z x hx
    exact ⟨y,(h y).mp hy,q⟩
  · intro z x hx
    obtain ⟨y,hy,q⟩:=z x hx
    exact ⟨y,(h y).mpr hy,q⟩
theorem cw_cr {m : Nat} {T : List (List Bool)} (F : Full m T) {a : Nat} (ha : a < m) : (z6X (btN T m a)).all (cwP T m a) = !crB T m a:=by
  have A:=F.ant
  have hbn : ∀ x∈btN T m a,x < m∧at2 T a x=true:=fun x hx=>⟨List.mem_range.mp (List.mem_filter.mp hx).1,by have:=(List.mem_filter.mp hx).2; simpa using this⟩
  have ssub : ∀ s∈z6X (btN T m a),∀ x∈s,x∈btN T m a:=fun s hs=>by
    have h:=y2H (B:=btN T m a) (n:=(btN T m a).length)
    rw [List.take_of_length_le (Nat.le_refl _)] at h
    exact (h.2 s hs).1
  cases hc : crB T m a with
  | false=>
    refine List.all_eq_true.mpr fun s hs=>?_
    unfold cwP
    cases hr : rndB T s with
    | false=>rfl
    | true=>
      have hlt : ∀ x∈s,x < m:=fun x hx=>(hbn x (ssub s hs x hx)).1
      obtain ⟨r,hrc,hrm⟩:=z8f F (S:=s) hlt fun x hx y hy z hz h1 h2 h3=>rnd_no hr hx hy hz h1 h2 h3
      have ch : chB T (a :: r)=true:=by
        rw [z5q,hrc,Bool.and_true,List.all_eq_true]
        exact fun x hx=>(hbn x (ssub s hs x ((hrm x).mp hx))).2
      have hlt2 : ∀ x∈a :: r,x < m:=fun x hx=>by
        rcases List.mem_cons.mp hx with z | z
        · rw [z]; exact ha
        · exact hlt x ((hrm x).mp z)
      have hin:=y0R A ch hlt2
      have : crP T m (a :: r)=false:=by
        have:=List.any_eq_false.mp hc _ hin
        simpa using this
      have e : crP T m (s ++ [a])=false:=by
        rw [← this]
        refine y5f fun x=>?_
        rw [List.mem_append,List.mem_singleton,List.mem_cons,hrm x]
        exact Or.comm
      have e : decide (((btL T m (s ++ [a])).length : Int)=0)=false:=e
      rw [e]
      rfl
  | true=>
    rw [Bool.not_true,List.all_eq_false]
    obtain ⟨c,hcm,hcr⟩:=List.any_eq_true.mp hc
    obtain ⟨h1,⟨r,rfl⟩,h3⟩:=y4w ha (A.own a ha) (Nat.le_refl _) c hcm
    have pw:=List.pairwise_cons.mp (chB_iff.mp h1)
    refine ⟨(btN T m a).filter fun x=>r.contains x,sub_fil,?_⟩
    have hmem : ∀ x,x∈((btN T m a).filter fun x=>r.contains x)↔x∈r:=fun x=>by
      rw [List.mem_filter,List.contains_iff_mem]
      constructor
      · exact fun h=>h.2
      · exact fun h=>⟨List.mem_filter.mpr ⟨List.mem_range.mpr (h3 x (List.mem_cons_of_mem _ h)),by simpa using pw.1 x h⟩,h⟩
    have hr : rndB T ((btN T m a).filter fun x=>r.contains x)=true:=by
      unfold rndB
      refine List.all_eq_true.mpr fun x hx=>List.all_eq_true.mpr fun y hy=>?_
      have hx:=(hmem x).mp hx
      have hy:=(hmem y).mp hy
      have emp : at2 T x y=true->(((btN T m a).filter fun x=>r.contains x).filter fun z=>at2 T y z && at2 T z x)=[]:=fun hxy=>List.filter_eq_nil_iff.mpr fun z hz hq=>by
        have hz:=(hmem z).mp hz
        obtain ⟨q1,q2⟩:=Bool.and_eq_true_iff.mp hq
        have lt : ∀ u∈r,u < m:=fun u hu=>h3 u (List.mem_cons_of_mem _ hu)
        have tr : ∀ u∈r,∀ v∈r,∀ w∈r,at2 T u v=true->at2 T v w=true->at2 T w u=true->False:=y0P F lt pw.2
        exact tr x hx y hy z hz hxy q1 q2
      cases hxy : at2 T x y with
      | false=>rfl
      | true=>
        rw [emp hxy]
        rfl
    have e : crP T m (((btN T m a).filter fun x=>r.contains x) ++ [a])=true:=by
      rw [← hcr]
      refine y5f fun x=>?_
      rw [List.mem_append,List.mem_singleton,List.mem_cons,hmem x]
      exact Or.comm
    have e : decide (((btL T m (((btN T m a).filter fun x=>r.contains x) ++ [a])).length : Int)=0)=true:=e
    unfold cwP
    rw [hr,e]
    simp
theorem y2u {m : Nat} {T : List (List Bool)} (F : Full m T) (hm : m≤8) {a : Nat} (ha : a < m) : z1a [z0y T,.int (a : Int)]=some (.bl (crB T m a)):=by
  refine z0E rfl ?_
  have A:=F.ant
  have hbl : (btN T m a).length≤m:=y0C
  have cb : ∀ d2 d3 : Option D,z1J (some (z5a 0 m)) (z2x (z0v (L2.d2 ixD (L2.d2 ixD (z0d 0) (z0d 1)) (z0d 4))) (z0d 4) [some (z0y T),some (.int (a : Int)),d2,d3])=some ((btN T m a).map nD):=fun d2 d3=>by
    rw [z2t]
    exact z6a (fun y=>at2 T a y) nD (by simp; omega) (fun y hy=>by simp! only [nD,ix2 A.sq ha (List.mem_range.mp hy)]) fun y _ _=>by simp! only []
  have sb:=y1X (B:=btN T m a) (by omega)
  have tl : ∀ W : List Nat,D.lst (W.map nD)=thD W:=fun _=>rfl
  have so:=y3H (B:=btN T m a) (pre:=btN T m a) (post:=[]) (by simp) (by omega)
  have hbn : ∀ x∈btN T m a,x < m:=fun x hx=>List.mem_range.mp (List.mem_filter.mp hx).1
  have cw:=cw_cr F ha
  obtain ⟨B,hB⟩ : ∃ B,B=btN T m a:=⟨_,rfl⟩
  rw [← hB] at cb sb so hbn cw
  have sqs : z9P (.lst ((z6X B).map thD))=some ((z6X B).map thD):=rfl
  simp! only [z3i,z3M,A.sq.1,z0H (show m≤1000000 by omega),cb,tl,sb,sqs]
  refine z6t (c:=(z6X B).all (cwP T m a)) (d:=.bl true) (I:=fun s=>∃ o3,s=[some (.sh (z0y T)),some (.sh (.int (a : Int))),some (.sh (thD B)),o3]) (z5f (enc:=thD) _ (cwP T m a) _ ⟨_,rfl⟩ ?_) ?_ ?_
  · rintro c hc s ⟨o3,rfl⟩
    obtain ⟨q1,q2⟩:=so.2 c hc
    have lt : ∀ x∈c,x < m:=fun x hx=>hbn x (q1 x hx)
    have re:=y2k A.sq (S:=c) (by omega) lt
    have t1 : D.lst [.int (a : Int)]=thD [a]:=rfl
    have ct:=z6p (a:=c) (b:=[a]) (by simp; omega)
    have lb:=z8o A.sq (by omega) (th:=c ++ [a]) (by simp; omega) (fun x hx=>by
      rcases List.mem_append.mp hx with z | z
      · exact lt x z
      · rw [List.mem_singleton.mp z]; exact ha)
    obtain ⟨p,hp⟩ : ∃ p,p=rndB T c:=⟨_,rfl⟩
    obtain ⟨q,hq⟩ : ∃ q,q=decide (((btL T m (c ++ [a])).length : Int)=0):=⟨_,rfl⟩
    have ec : cwP T m a c = !(p && q):=by rw [hp,hq]; rfl
    rw [← hp] at re
    obtain ⟨W,hW⟩ : ∃ W,W=c ++ [a]:=⟨_,rfl⟩
    rw [← hW] at ct lb hq
    cases p with
    | false=>
      simp_all! only [re,z0e,ec,if_true]
      exact ⟨_,rfl,_,rfl⟩
    | true=>
      cases q with
      | false=>
        simp_all! only [re,t1,ct,tl,lb,z1U,← hq,z0e,ec,if_true]
        exact ⟨_,rfl,_,rfl⟩
      | true=>
        simp_all! only [re,t1,ct,tl,lb,z1U,← hq,z0e,ec,Bool.false_eq_true,if_false]
  · rintro h s ⟨o3,rfl⟩
    have : crB T m a=false:=by
      rw [h] at cw
      cases hc : crB T m a with
      | false=>rfl
      | true=>rw [hc] at cw; cases cw
    rw [this]
    simp! only [z0e]
  · intro h
    have : crB T m a=true:=by
      rw [h] at cw
      cases hc : crB T m a with
      | true=>rfl
      | false=>rw [hc] at cw; cases cw
    rw [this]
theorem y4F (L : List (List Nat)) : okP (.lst (L.map thD))=true:=by
  have h1 : ∀ L : List (List Nat),PyData.canLayAll0 (z4v (L.map thD))=true:=fun L=>by
    induction L with
    | nil=>rfl
    | cons r L ih=>
      show (PyData.canLayAll0 (z4v (r.map nD)) && PyData.canLayAll0 (z4v (L.map thD)))=true
      rw [ih,z6D,z7T]
      rfl
  have h2 : ∀ L : List (List Nat),PyData.depthAll (z4v (L.map thD))≤1:=fun L=>by
    induction L with
    | nil=>decide
    | cons r L ih=>
      show max (PyData.depthAll (z4v (r.map nD)) + 1) (PyData.depthAll (z4v (L.map thD)))≤1
      rw [z6D,z8A]
      omega
  unfold okP
  rw [Bool.and_eq_true,decide_eq_true_eq]
  refine ⟨h1 L,?_⟩
  show PyData.depthAll (z4v (L.map thD)) + 1≤60
  have:=h2 L
  omega
noncomputable def cnR (T : List (List Bool)) (a : Nat) : Nat:=(T.getD a []).countP fun c=>c == true
theorem cn_fil {m : Nat} {T : List (List Bool)} (sq : Sq m T) {a : Nat} (ha : a < m) : cnR T a=((List.range m).filter fun j=>at2 T a j).length:=by
  unfold cnR
  have hl : a < T.length:=by rw [sq.1]; exact ha
  have hr:=sq.row hl
  have hg : T.getD a []=T[a]:=by rw [List.getD_eq_getElem?_getD,List.getElem?_eq_getElem hl]; rfl
  have e : T[a]=(List.range m).map fun j=>at2 T a j:=by
    apply List.ext_getElem
    · simp [hr]
    · intro j h1 h2
      rw [List.getElem_map,List.getElem_range]
      unfold at2
      rw [hg,List.getD_eq_getElem?_getD,List.getElem?_eq_getElem h1]
      rfl
  rw [hg,e,List.countP_map,List.countP_eq_length_filter]
  congr 1
  exact List.filter_congr fun j _=>by
    show (at2 T a j == true)=at2 T a j
    cases at2 T a j <;> rfl
theorem cn_all {m : Nat} {T : List (List Bool)} (F : Full m T) {a : Nat} (ha : a < m) (h : cnR T a=m - 1) : ∀ y < m,y≠a->at2 T a y=true:=fun y hy hne=>by
  rw [cn_fil F.sq ha] at h
  cases hv : at2 T a y with
  | true=>rfl
  | false=>
    exfalso
    have nd : (y :: a :: (List.range m).filter fun j=>at2 T a j).Nodup:=by
      refine List.nodup_cons.mpr ⟨fun z=>?_,List.nodup_cons.mpr ⟨fun z=>?_,List.nodup_range.filter _⟩⟩
      · rcases List.mem_cons.mp z with z | z
        · exact hne z
        · have:=(List.mem_filter.mp z).2
          rw [hv] at this
          cases this
      · have:=(List.mem_filter.mp z).2
        rw [F.own a ha] at this
        cases this
    have:=List.Nodup.length_le_of_subset (l₂:=List.range m) nd fun x hx=>by
      rcases List.mem_cons.mp hx with z | z
      · rw [z]; exact List.mem_range.mpr hy
      · rcases List.mem_cons.mp z with z | z
        · rw [z]; exact List.mem_range.mpr ha
        · exact (List.mem_filter.mp z).1
    rw [List.length_range,List.length_cons,List.length_cons] at this
    omega
theorem win_top {m : Nat} {T : List (List Bool)} (F : Full m T) {r0 : List Nat} {rest : List (List Nat)} (hr : rgL T m=r0 :: rest) {w : Nat} (hw : w < m) (h : ∀ y < m,y≠w->at2 T w y=true) {a : Nat} (ha : a < m) : a∈r0↔a=w:=by
  have G:=z7Z (T:=T) (m:=m)
  rw [hr] at G
  rw [G.top ha]
  constructor
  · intro hb
    have hrch : Rch T m a w:=(z4W F ha hw).mpr (hb w hw)
    apply Classical.byContradiction
    intro hne
    have key : ∀ z,Rch T m a z->z < m∧z≠w:=fun z hz=>by
      induction hz with
      | here=>exact ⟨ha,hne⟩
      | @step x y _ hy hxy ih=>
        refine ⟨hy,fun e=>?_⟩
        rw [e] at hxy
        exact F.no ih.1 hw hxy (h x ih.1 ih.2)
    exact (key w hrch).2 rfl
  · intro e b hb
    rw [e]
    refine (z4W F hw hb).mp ?_
    by_cases hbw : b=w
    · rw [hbw]; exact .here
    · exact .step .here hb (h b hb hbw)
theorem win_cr {m : Nat} {T : List (List Bool)} (F : Full m T) {w : Nat} (hw : w < m) (h : ∀ y < m,y≠w->at2 T w y=true) {a : Nat} (ha : a < m) : crB T m a=decide (a=w):=by
  have A:=F.ant
  have now : ∀ x < m,at2 T x w=false:=fun x hx=>by
    by_cases e : x=w
    · rw [e]; exact F.own w hw
    · cases hv : at2 T x w with
      | false=>rfl
      | true=>exact (F.no hx hw hv (h x hx e)).elim
  by_cases e : a=w
  · subst e
    rw [decide_eq_true rfl]
    refine List.any_eq_true.mpr ⟨[a],y0R A (by simp [chB]) (fun x hx=>by rw [List.mem_singleton.mp hx]; exact ha),?_⟩
    rw [bt_nil]
    exact fun x hx=>⟨a,List.mem_cons_self,now x hx⟩
  · rw [decide_eq_false e]
    refine List.any_eq_false.mpr fun c hc hcr=>?_
    obtain ⟨h1,⟨r,rfl⟩,h3⟩:=y4w ha (A.own a ha) (Nat.le_refl _) c hc
    obtain ⟨y,hy,q⟩:=bt_nil.mp hcr w hw
    have hym:=h3 y hy
    have hyw : y≠w:=fun z=>by
      rcases List.mem_cons.mp hy with k | k
      · exact e (k.symm.trans z)
      · have:=(List.pairwise_cons.mp (chB_iff.mp h1)).1 y k
        rw [z,now a ha] at this
        cases this
    rw [h y hym hyw] at q
    cases q
noncomputable def l3D (a b c : List Nat) : D:=.lst [thD a,thD b,thD c]
theorem l3_0 {a b c : List Nat} : ixD (l3D a b c) (.int 0)=some (thD a):=z1N (j:=0) rfl
theorem l3_1 {a b c : List Nat} : ixD (l3D a b c) (.int 1)=some (thD b):=z1N (j:=1) rfl
theorem l3_2 {a b c : List Nat} : ixD (l3D a b c) (.int 2)=some (thD c):=z1N (j:=2) rfl
theorem l3_seq {a b c : List Nat} : z9P (l3D a b c)=some ([a,b,c].map thD):=(rfl)
theorem l3_ok {a b c : List Nat} : okP (l3D a b c)=true:=y4F [a,b,c]
theorem l3_app {a b c : List Nat} {k : Nat} (hl : a.length≤1000) : m1V z7y (some (l3D a b c)) (some (.int 0)) (some [.int (k : Int)])=some (l3D (a ++ [k]) b c):=by
  have h1 : ixN ([thD a,thD b,thD c] : List D).length (0 : Int)=some 0:=y3x (k:=0) (by simp)
  have hi:=z6W a
  have hap : z7y (a.map nD) [.int (k : Int)]=some ((a ++ [k]).map nD):=by
    have : z7y (a.map nD) [.int (k : Int)]=some (a.map nD ++ [.int (k : Int)]):=if_pos (by rw [List.length_map,PySem.sizeLine_eq]; omega)
    rw [this,List.map_append]
    rfl
  show ((ixN ([thD a,thD b,thD c] : List D).length (0 : Int)).bind fun j=>_)=_
  rw [h1]
  show (if z1l (a.map nD)=true then (z4z (z7y (a.map nD) [.int (k : Int)])).map _ else none)=_
  rw [if_pos hi,hap,z1y]
  rfl
theorem law_true (ns : List Int) (hns : ns.length≤63) : y2m [.scr ns]=some (.bl true):=by
  refine z0E rfl ?_
  obtain ⟨c0,ec⟩:=z8d ns 0
  have ec : z0o [.scr ns,.int 0]=some (.int c0):=ec
  obtain ⟨c1,ec1⟩:=z8d ns 1
  have ec1 : z0o [.scr ns,.int 1]=some (.int c1):=ec1
  obtain ⟨c2,ec2⟩:=z8d ns 2
  have ec2 : z0o [.scr ns,.int 2]=some (.int c2):=ec2
  obtain ⟨m8,e8,h8⟩:=z4F (x:=c0) (n:=8) (by omega)
  have mm : z4y (.int c0) (.int 8)=some (.int (m8 : Int)):=by rw [z2U (by omega)]; exact congrArg _ (congrArg _ e8)
  obtain ⟨m0,hm0⟩ : ∃ m0 : Nat,m0=1 + m8:=⟨_,rfl⟩
  have hmI : (1 : Int) + (m8 : Int)=(m0 : Int):=by omega
  have v8 : z9Q (.int c0) (.int 8)=some (.int (c0 / 8)):=z6M ⟨by omega,by omega⟩
  have m6 : z4y (.int (c0 / 8)) (.int 6)=some (.int (c0 / 8 % 6)):=z2U (by omega)
  have v48 : z9Q (.int c0) (.int 48)=some (.int (c0 / 48)):=z6M ⟨by omega,by omega⟩
  obtain ⟨k2,ek2,hk2⟩:=z4F (x:=c0 / 48) (n:=2) (by omega)
  have m2 : z4y (.int (c0 / 48)) (.int 2)=some (.int (k2 : Int)):=by rw [z2U (by omega)]; exact congrArg _ (congrArg _ ek2)
  obtain ⟨n7,hn7⟩ : ∃ n : Nat,n=7 + k2:=⟨_,rfl⟩
  have hnI : (7 : Int) + (k2 : Int)=(n7 : Int):=by omega
  obtain ⟨_,et,T0,rfl,F0⟩:=y6e ns hns m0 (by omega)
  simp! only [g_law,ec,mm,hmI,et,v8,m6]
  refine z0F (I:=fun s=>∃ (m : Nat) (T : List (List Bool)),s=[some (.sh (.scr ns)),some (.sh (.int (m : Int))),some (.sh (z0y T)),none,none,none,none,none,none,none]∧Full m T∧0 < m∧m≤8) ?_ ?_
  · by_cases hz : c0 / 8 % 6=1
    · have d1 : decide (c0 / 8 % 6=1)=true:=decide_eq_true hz
      obtain ⟨_,eo,P,rfl,hP⟩:=y4b c1 n7 (by omega)
      obtain ⟨_,e7,T,rfl,F⟩:=y4t (n:=n7) (by omega) hP c2
      simp! only [d1,ec,v48,m2,hnI,ec1,eo,ec2,e7,z0e]
      exact ⟨_,rfl,n7,T,rfl,F,by omega,by omega⟩
    · have d1 : decide (c0 / 8 % 6=1)=false:=decide_eq_false hz
      simp! only [d1,z0e]
      exact ⟨_,rfl,m0,T0,rfl,F0,by omega,by omega⟩
  rintro s ⟨m,T,rfl,F,h0,hm⟩
  have A:=F.ant
  have cp:=copy_eq A.sq (by omega)
  obtain ⟨r0,rest,hr⟩:=(z7Z (T:=T) (m:=m)).cons h0
  have G:=z7Z (T:=T) (m:=m)
  rw [hr] at G
  have hp:=y3A F.sq (by omega) (k := "plain") fun a _=>y7b F (by omega) hr (a:=a)
  have hrs:=y3A F.sq (by omega) (k := "rest") fun a _=>pf_rest F (by omega) hr (a:=a)
  have ha:=y3A F.sq (by omega) (k := "ahead") fun a h=>y5y A (by omega) h
  have topR : ∀ a < m,r0.contains a=true↔∀ x < m,Rch T m a x:=fun a h=>by
    rw [List.contains_iff_mem,G.top h]
    exact ⟨fun q x hx=>(z4W F h hx).mpr (q x hx),fun q x hx=>(z4W F h hx).mp (q x hx)⟩
  obtain ⟨x0,hx0,hcr0⟩:=cr_some A m (c:=[0]) (by simp) (by simp) (by simp [chB]) (fun x hx=>by rw [List.mem_singleton.mp hx]; exact h0)
  have neB : (List.range m).filter (fun a=>crB T m a)≠[]:=List.ne_nil_of_mem (List.mem_filter.mpr ⟨List.mem_range.mpr hx0,hcr0⟩)
  have neA : (List.range m).filter (fun a=>r0.contains a)≠[]:=List.ne_nil_of_mem (List.mem_filter.mpr ⟨List.mem_range.mpr hx0,(topR x0 hx0).mpr (y7A (cr_lu F hx0 hcr0))⟩)
  have ris : ∀ p : Nat->Bool,(List.range m).filter p≠[]->z0Y [thD ((List.range m).filter p),.int (m : Int)]=some (.bl true):=fun p hne=>y5Y (by omega) (List.Pairwise.filter _ List.pairwise_lt_range) (fun x hx=>List.mem_range.mp (List.mem_filter.mp hx).1) hne
  have rA:=ris _ neA
  have rB:=ris _ neB
  have len : ∀ p : Nat->Bool,((List.range m).filter p).length≤m:=fun p=>by
    have:=List.length_filter_le p (List.range m)
    rw [List.length_range] at this
    exact this
  have BU : ∀ x∈(List.range m).filter (fun a=>crB T m a),x∈(List.range m).filter (luB T m):=fun x hx=>by
    obtain ⟨h1,h2⟩:=List.mem_filter.mp hx
    exact List.mem_filter.mpr ⟨h1,cr_lu F (List.mem_range.mp h1) h2⟩
  have UA : ∀ x∈(List.range m).filter (luB T m),x∈(List.range m).filter (fun a=>r0.contains a):=fun x hx=>by
    obtain ⟨h1,h2⟩:=List.mem_filter.mp hx
    exact List.mem_filter.mpr ⟨h1,(topR x (List.mem_range.mp h1)).mpr (y7A h2)⟩
  have win : ∀ w,(List.range m).filter (fun a=>decide ((cnR T a : Int)=(m : Int) - 1))=[w]->(List.range m).filter (fun a=>r0.contains a)=[w]∧(List.range m).filter (fun a=>crB T m a)=[w]:=fun w hw=>by
    have hin : w∈(List.range m).filter (fun a=>decide ((cnR T a : Int)=(m : Int) - 1)):=by rw [hw]; exact List.mem_cons_self
    obtain ⟨h1,h2⟩:=List.mem_filter.mp hin
    have hwm:=List.mem_range.mp h1
    have h2:=of_decide_eq_true h2
    have hb:=cn_all F hwm (by omega)
    have e1 : ∀ p : Nat->Bool,(∀ a < m,p a=decide (a=w))->(List.range m).filter p=[w]:=fun p hpw=>by
      have : (List.range m).filter p=(List.range m).filter fun a=>decide (a=w):=List.filter_congr fun a h=>hpw a (List.mem_range.mp h)
      rw [this]
      have nd : ((List.range m).filter fun a=>decide (a=w)).Nodup:=List.nodup_range.filter _
      have mem : ∀ x,x∈((List.range m).filter fun a=>decide (a=w))↔x=w:=fun x=>by
        rw [List.mem_filter,List.mem_range,decide_eq_true_iff]
        exact ⟨fun z=>z.2,fun z=>⟨by rw [z]; exact hwm,z⟩⟩
      cases hq : (List.range m).filter fun a=>decide (a=w) with
      | nil=>have:=(mem w).mpr rfl; rw [hq] at this; cases this
      | cons y q=>
        rw [hq] at nd mem
        have hy:=(mem y).mp List.mem_cons_self
        cases q with
        | nil=>rw [hy]
        | cons z q=>
          have hz:=(mem z).mp (by simp)
          exact absurd (hy.trans hz.symm) ((List.pairwise_cons.mp nd).1 z List.mem_cons_self)
    refine ⟨e1 _ fun a h=>?_,e1 _ fun a h=>win_cr F hwm hb h⟩
    rw [Bool.eq_iff_iff,List.contains_iff_mem,decide_eq_true_iff]
    exact win_top F hr hwm hb h
  have cu : ∀ d4 d5 d6 d7 d8 d9 : Option D,z1J (some (z5a 0 m)) (z2x (z0v (z0l z0Q [z0d 2,z0d 10])) (z0d 10) [some (.scr ns),some (.int (m : Int)),some (z0y T),some (z0y T),d4,d5,d6,d7,d8,d9])=some (((List.range m).filter (luB T m)).map nD):=fun d4 d5 d6 d7 d8 d9=>by
    rw [z2t]
    exact z6a (luB T m) nD (by simp; omega) (fun x hx=>by simp! only [nD,y5e F.sq (show m≤900 by omega) (List.mem_range.mp hx)]) fun x _ _=>by simp! only []
  have cc : ∀ d4 d5 d6 d7 d8 d9 : Option D,z1J (some (z5a 0 m)) (z2x (z0v (z0l z1a [z0d 2,z0d 10])) (z0d 10) [some (.scr ns),some (.int (m : Int)),some (z0y T),some (z0y T),d4,d5,d6,d7,d8,d9])=some (((List.range m).filter (fun a=>crB T m a)).map nD):=fun d4 d5 d6 d7 d8 d9=>by
    rw [z2t]
    exact z6a (fun a=>crB T m a) nD (by simp; omega) (fun x hx=>by simp! only [nD,y2u F hm (List.mem_range.mp hx)]) fun x _ _=>by simp! only []
  have cf : ∀ d4 d5 d6 d7 d8 d9 : Option D,z1J (some (z5a 0 m)) (z2x (z0G (d2 eqD (d2 z5b (d2 ixD (z0d 2) (z0d 10)) (dC (.bl true))) (d2 subI (z0d 1) (dC (.int 1))))) (z0d 10) [some (.scr ns),some (.int (m : Int)),some (z0y T),some (z0y T),d4,d5,d6,d7,d8,d9])=some (((List.range m).filter fun a=>decide ((cnR T a : Int)=(m : Int) - 1)).map nD):=fun d4 d5 d6 d7 d8 d9=>by
    rw [z2t]
    refine z6a (fun a=>decide ((cnR T a : Int)=(m : Int) - 1)) nD (by simp; omega) (fun x hx=>?_) fun x _ _=>by simp! only []
    have hx:=List.mem_range.mp hx
    have hl : x < T.length:=by rw [F.sq.1]; exact hx
    have ix : ixD (z0y T) (.int (x : Int))=some (z3o (T.getD x [])):=by
      have hg : T.getD x []=T[x]:=by rw [List.getD_eq_getElem?_getD,List.getElem?_eq_getElem hl]; rfl
      rw [hg]
      exact z7s (by rw [List.getElem?_map,List.getElem?_eq_getElem hl]; rfl)
    have ct : z5b (z3o (T.getD x [])) (.bl true)=some (.int ((cnR T x : Nat) : Int)):=y1R
    simp! only [nD,ix,ct]
  have nT : neD (z0y T) (z0y T)=some (.bl false):=z8m (okP_tab T)
  obtain ⟨A0,hA0⟩ : ∃ W,W=(List.range m).filter (fun a=>r0.contains a):=⟨_,rfl⟩
  obtain ⟨B0,hB0⟩ : ∃ W,W=(List.range m).filter (fun a=>crB T m a):=⟨_,rfl⟩
  obtain ⟨U0,hU0⟩ : ∃ W,W=(List.range m).filter (luB T m):=⟨_,rfl⟩
  obtain ⟨F1,hF1⟩ : ∃ W,W=(List.range m).filter (fun a=>decide ((cnR T a : Int)=(m : Int) - 1)):=⟨_,rfl⟩
  have lA:=len (fun a=>r0.contains a)
  rw [← hA0] at hp hrs rA UA win lA
  rw [← hB0] at ha rB BU win cc
  rw [← hU0] at BU UA cu
  rw [← hF1] at win cf
  have l3 : D.lst [thD A0,thD B0,thD A0]=l3D A0 B0 A0:=rfl
  simp! only [cp,hp,ha,hrs,l3,y5o,l3_seq,Option.bind_some]
  refine z0F (y1r (enc:=thD) (xs:=[A0,B0,A0]) (I:=fun s=>∃ o5,s=[some (.sh (.scr ns)),some (.sh (.int (m : Int))),some (.sh (z0y T)),some (.sh (z0y T)),some (.ow (l3D A0 B0 A0)),o5,none,none,none,none]) ⟨_,rfl⟩ ?_) ?_
  · rintro s ⟨o5,rfl⟩
    refine ⟨by simp,⟨_,rfl⟩,fun x hx=>?_⟩
    have rx : z0Y [thD x,.int (m : Int)]=some (.bl true):=by
      rcases List.mem_cons.mp hx with z | z
      · rw [z]; exact rA
      · rcases List.mem_cons.mp z with z | z
        · rw [z]; exact rB
        · rw [List.mem_singleton.mp z]; exact rA
    simp_all! only [rx]
  rintro s ⟨o5,rfl⟩
  have tl : ∀ W : List Nat,D.lst (W.map nD)=thD W:=fun _=>rfl
  simp! only [z0H (show m≤1000000 by omega),cu,z1y,tl,l3_1,z1S,y1w]
  refine z0F (y0L (enc:=nD) (I:=fun s=>∃ o7,s=[some (.sh (.scr ns)),some (.sh (.int (m : Int))),some (.sh (z0y T)),some (.sh (z0y T)),some (.ow (l3D A0 B0 A0)),o5,some (.ow (thD U0)),o7,none,none]) ⟨_,rfl⟩ ?_) ?_
  · rintro s ⟨o7,rfl⟩ x hx
    refine ⟨⟨_,rfl⟩,?_⟩
    have hc : (!U0.contains x)=false:=by rw [List.contains_iff_mem.mpr (BU x hx)]; rfl
    simp_all! only [nD,z3v,hc]
  rintro s ⟨o7,rfl⟩
  have nB : neD (thD B0) (thD B0)=some (.bl false):=z8m (y0N _)
  simp_all! only [l3_1,z0H (show m≤1000000 by omega),cc,tl,nB,z1S,y1w]
  refine z0F (y0L (enc:=nD) (I:=fun s=>∃ o7,s=[some (.sh (.scr ns)),some (.sh (.int (m : Int))),some (.sh (z0y T)),some (.sh (z0y T)),some (.ow (l3D A0 B0 A0)),o5,some (.ow (thD U0)),o7,none,none]) ⟨_,rfl⟩ ?_) ?_
  · rintro s ⟨o7,rfl⟩ x hx
    refine ⟨⟨_,rfl⟩,?_⟩
    have hc : (!A0.contains x)=false:=by rw [List.contains_iff_mem.mpr (UA x hx)]; rfl
    simp_all! only [nD,l3_0,z3v,hc]
  rintro s ⟨o7,rfl⟩
  have nA : neD (thD A0) (thD A0)=some (.bl false):=z8m (y0N _)
  have nQ : decide ((F1.length : Int)=1)=true->neD (l3D A0 B0 A0) (.lst [thD F1,thD F1,thD F1])=some (.bl false):=fun hd=>by
    have hd:=of_decide_eq_true hd
    obtain ⟨w,hw⟩ : ∃ w,F1=[w]:=by
      cases F1 with
      | nil=>simp at hd
      | cons w q=>
        have : q=[]:=List.length_eq_zero_iff.mp (by rw [List.length_cons] at hd; omega)
        exact ⟨w,by rw [this]⟩
    obtain ⟨q1,q2⟩:=win w hw
    rw [q1,q2,hw]
    exact z8m (y4F [[w],[w],[w]])
  have kc : ∀ d5 d6 d7 d8 d9 : Option D,z1J (some ([A0,B0,A0].map thD)) (z2x z6h (z0u (z1T z7S [z0d 10])) [some (.scr ns),some (.int (m : Int)),some (z0y T),some (z0y T),some (l3D A0 B0 A0),d5,d6,d7,d8,d9])=some ([A0,B0,A0].map thD):=fun d5 d6 d7 d8 d9=>
    z5W (enc:=thD) thD (by simp) fun x _=>by simp! only [list_th,z1y,tl]
  have k3 : D.lst ([A0,B0,A0].map thD)=l3D A0 B0 A0:=rfl
  have ap:=l3_app (a:=A0) (b:=B0) (c:=A0) (k:=m) (by omega)
  have im : z8v (some [.int (m : Int)])=some [.int (m : Int)]:=z4s rfl
  have eQ : eqD (l3D A0 B0 A0) (l3D A0 B0 A0)=some (.bl true):=L2.eq_self l3_ok
  obtain ⟨L3,hL3⟩ : ∃ L,L=[A0,B0,A0].map thD:=⟨_,rfl⟩
  have sq3 : z9P (l3D A0 B0 A0)=some L3:=by rw [hL3]; rfl
  rw [← hL3] at kc k3
  cases hd : decide ((F1.length : Int)=1) with
  | true=>
    have nq:=nQ hd
    simp_all! only [z0H (show m≤1000000 by omega),cf,z1y,tl,z1U,hd,nq,l3_0,l3_2,nA,nT,sq3,kc,k3,im,ap,hp,ha,hrs,l3,eQ,z0e]
  | false=>
    simp_all! only [z0H (show m≤1000000 by omega),cf,z1y,tl,z1U,hd,l3_0,l3_2,nA,nT,sq3,kc,k3,im,ap,hp,ha,hrs,l3,eQ,z0e]
end Prg
open PySem PySem.W PyProof.Rows
set_option maxRecDepth 100000 in
set_option maxHeartbeats 0 in
theorem PySem.Challenge.cw_askorder_k47_one_in_the_other_holds : PySem.Challenge.rw_askorder_k47_one_in_the_other.Holds := by
  w_on; o_law; k_head; (case hw=>w_witness2)
  k_fill
  refine Prg.walk (l:=PySem.Challenge.rw_askorder_k47_one_in_the_other) rfl rfl Prg.law_true (fun w h Y=>PySem.W.kIn_of Y) ?F
  case F=>
    intro w mg fa h KX G hmg
    refine' Prg.all_mk KX G hmg ?a_beaten_by ?l_beaten_by ?c_beaten_by ?k_beaten_by ?a_beats_all ?l_beats_all ?c_beats_all ?k_beats_all ?a_places_true ?l_places_true ?c_places_true ?k_places_true ?a_is_chain ?l_is_chain ?c_is_chain ?k_is_chain ?a_beaters ?l_beaters ?c_beaters ?k_beaters ?a_stands ?l_stands ?c_stands ?k_stands ?a_crown_paper ?l_crown_paper ?c_crown_paper ?k_crown_paper ?a_ended_chains ?l_ended_chains ?c_ended_chains ?k_ended_chains ?a_reached ?l_reached ?c_reached ?k_reached ?a_steps_from ?l_steps_from ?c_steps_from ?k_steps_from ?a_rings ?l_rings ?c_rings ?k_rings ?a_places_with ?l_places_with ?c_places_with ?k_places_with ?a_top_ring ?l_top_ring ?c_top_ring ?k_top_ring ?a_row_from ?l_row_from ?c_row_from ?k_row_from ?a_begun_with ?l_begun_with ?c_begun_with ?k_begun_with ?a_round_of ?l_round_of ?c_round_of ?k_round_of ?a_widened ?l_widened ?c_widened ?k_widened ?a_detour ?l_detour ?c_detour ?k_detour ?a_to_stand ?l_to_stand ?c_to_stand ?k_to_stand ?a_to_crown ?l_to_crown ?c_to_crown ?k_to_crown ?a_to_rest ?l_to_rest ?c_to_rest ?k_to_rest ?a_paper_for ?l_paper_for ?c_paper_for ?k_paper_for ?a_orders_to ?l_orders_to ?c_orders_to ?k_orders_to ?a_can_be_had ?l_can_be_had ?c_can_be_had ?k_can_be_had ?a__law_cell_at ?l__law_cell_at ?c__law_cell_at ?k__law_cell_at ?a__law_whole ?l__law_whole ?c__law_whole ?k__law_whole ?a__law_table ?l__law_table ?c__law_table ?k__law_table ?a__law_order ?l__law_order ?c__law_order ?k__law_order ?a__law_seven ?l__law_seven ?c__law_seven ?k__law_seven ?a__law_copy ?l__law_copy ?c__law_copy ?k__law_copy ?a__law_subsets ?l__law_subsets ?c__law_subsets ?k__law_subsets ?a__law_goes_round ?l__law_goes_round ?c__law_goes_round ?k__law_goes_round ?a__law_beaters ?l__law_beaters ?c__law_beaters ?k__law_beaters ?a__law_crowned ?l__law_crowned ?c__law_crowned ?k__law_crowned ?a__law_uncovered ?l__law_uncovered ?c__law_uncovered ?k__law_uncovered ?a__law_rising ?l__law_rising ?c__law_rising ?k__law_rising ?a_law ?l_law ?c_law ?k_law ?z_all ?z_enumerate ?z_len ?z_range ?z_sorted ?z_min ?z_list ?z_reversed ?z_int ?z_isinstance ?z_bool
    (case a_beaten_by=>k_is)
    (case l_beaten_by=>k_is)
    (case c_beaten_by=>k_is)
    (case k_beaten_by=>k_is)
    (case a_beats_all=>k_is)
    (case l_beats_all=>k_is)
    (case c_beats_all=>k_is)
    (case k_beats_all=>k_is)
    (case a_places_true=>k_is)
    (case l_places_true=>k_is)
    (case c_places_true=>k_is)
    (case k_places_true=>k_is)
    (case a_is_chain=>k_is)
    (case l_is_chain=>k_is)
    (case c_is_chain=>k_is)
    (case k_is_chain=>k_is)
    (case a_beaters=>k_is)
    (case l_beaters=>k_is)
    (case c_beaters=>k_is)
    (case k_beaters=>k_is)
    (case a_stands=>k_is)
    (case l_stands=>k_is)
    (case c_stands=>k_is)
    (case k_stands=>k_is)
    (case a_crown_paper=>k_is)
    (case l_crown_paper=>k_is)
    (case c_crown_paper=>k_is)
    (case k_crown_paper=>k_is)
    (case a_ended_chains=>k_is)
    (case l_ended_chains=>k_is)
    (case c_ended_chains=>k_is)
    (case k_ended_chains=>k_is)
    (case a_reached=>k_is)
    (case l_reached=>k_is)
    (case c_reached=>k_is)
    (case k_reached=>k_is)
    (case a_steps_from=>k_is)
    (case l_steps_from=>k_is)
    (case c_steps_from=>k_is)
    (case k_steps_from=>k_is)
    (case a_rings=>k_is)
    (case l_rings=>k_is)
    (case c_rings=>k_is)
    (case k_rings=>k_is)
    (case a_places_with=>k_is)
    (case l_places_with=>k_is)
    (case c_places_with=>k_is)
    (case k_places_with=>k_is)
    (case a_top_ring=>k_is)
    (case l_top_ring=>k_is)
    (case c_top_ring=>k_is)
    (case k_top_ring=>k_is)
    (case a_row_from=>k_is)
    (case l_row_from=>k_is)
    (case c_row_from=>k_is)
    (case k_row_from=>k_is)
    (case a_begun_with=>k_is)
    (case l_begun_with=>k_is)
    (case c_begun_with=>k_is)
    (case k_begun_with=>k_is)
    (case a_round_of=>k_is)
    (case l_round_of=>k_is)
    (case c_round_of=>k_is)
    (case k_round_of=>k_is)
    (case a_widened=>k_is)
    (case l_widened=>k_is)
    (case c_widened=>k_is)
    (case k_widened=>k_is)
    (case a_detour=>k_is)
    (case l_detour=>k_is)
    (case c_detour=>k_is)
    (case k_detour=>k_is)
    (case a_to_stand=>k_is)
    (case l_to_stand=>k_is)
    (case c_to_stand=>k_is)
    (case k_to_stand=>k_is)
    (case a_to_crown=>k_is)
    (case l_to_crown=>k_is)
    (case c_to_crown=>k_is)
    (case k_to_crown=>k_is)
    (case a_to_rest=>k_is)
    (case l_to_rest=>k_is)
    (case c_to_rest=>k_is)
    (case k_to_rest=>k_is)
    (case a_paper_for=>k_is)
    (case l_paper_for=>k_is)
    (case c_paper_for=>k_is)
    (case k_paper_for=>k_is)
    (case a_orders_to=>k_is)
    (case l_orders_to=>k_is)
    (case c_orders_to=>k_is)
    (case k_orders_to=>k_is)
    (case a_can_be_had=>k_is)
    (case l_can_be_had=>k_is)
    (case c_can_be_had=>k_is)
    (case k_can_be_had=>k_is)
    (case a__law_cell_at=>k_is)
    (case l__law_cell_at=>k_is)
    (case c__law_cell_at=>k_is)
    (case k__law_cell_at=>k_is)
    (case a__law_whole=>k_is)
    (case l__law_whole=>k_is)
    (case c__law_whole=>k_is)
    (case k__law_whole=>k_is)
    (case a__law_table=>k_is)
    (case l__law_table=>k_is)
    (case c__law_table=>k_is)
    (case k__law_table=>k_is)
    (case a__law_order=>k_is)
    (case l__law_order=>k_is)
    (case c__law_order=>k_is)
    (case k__law_order=>k_is)
    (case a__law_seven=>k_is)
    (case l__law_seven=>k_is)
    (case c__law_seven=>k_is)
    (case k__law_seven=>k_is)
    (case a__law_copy=>k_is)
    (case l__law_copy=>k_is)
    (case c__law_copy=>k_is)
    (case k__law_copy=>k_is)
    (case a__law_subsets=>k_is)
    (case l__law_subsets=>k_is)
    (case c__law_subsets=>k_is)
    (case k__law_subsets=>k_is)
    (case a__law_goes_round=>k_is)
    (case l__law_goes_round=>k_is)
    (case c__law_goes_round=>k_is)
    (case k__law_goes_round=>k_is)
    (case a__law_beaters=>k_is)
    (case l__law_beaters=>k_is)
    (case c__law_beaters=>k_is)
    (case k__law_beaters=>k_is)
    (case a__law_crowned=>k_is)
    (case l__law_crowned=>k_is)
    (case c__law_crowned=>k_is)
    (case k__law_crowned=>k_is)
    (case a__law_uncovered=>k_is)
    (case l__law_uncovered=>k_is)
    (case c__law_uncovered=>k_is)
    (case k__law_uncovered=>k_is)
    (case a__law_rising=>k_is)
    (case l__law_rising=>k_is)
    (case c__law_rising=>k_is)
    (case k__law_rising=>k_is)
    (case a_law=>k_is)
    (case l_law=>k_is)
    (case c_law=>k_is)
    (case k_law=>k_is)
    (case z_all=>k_is)
    (case z_enumerate=>k_is)
    (case z_len=>k_is)
    (case z_range=>k_is)
    (case z_sorted=>k_is)
    (case z_min=>k_is)
    (case z_list=>k_is)
    (case z_reversed=>k_is)
    (case z_int=>k_is)
    (case z_isinstance=>k_is)
    (case z_bool=>k_is)
