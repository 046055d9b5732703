import PyProof.Rows.All
import Wide.All
import OpenK.AllK
import Wide.FinOn
import Lean
import PyProof.EqAt
import PyProof.EqKinds
import PyProof.TupleCall
import PySem.Challenge.RW_askorder_k83_whole_taken_back
set_option Elab.async false
set_option linter.all false
set_option maxRecDepth 100000
noncomputable abbrev PySem.W.Fast.tw10126009221863808124:=PySem.Challenge.pw_askorder_k83_whole_taken_back
theorem PySem.W.Fast.te10126009221863808124 : PySem.Challenge.pw_askorder_k83_whole_taken_back=PySem.W.Fast.tw10126009221863808124:=rfl
namespace L2
open PySem PySem.Spec PyProof.Rows
noncomputable abbrev Key:=Sum Int Str
noncomputable def z9A : Key->Value->Bool
  | .inl k,v=>Value.isInt k v
  | .inr x,v=>Value.isStrOf x v
noncomputable def keyH (w : World) : Key->Int
  | .inl k=>hashInt k
  | .inr x=>hashStr w x
theorem z0M : ∀ {k : Key} {v : Value},z9A k v=true->(∃ i t,k=Sum.inl i∧v=Value.int i t)∨(∃ x t,k=Sum.inr x∧v=Value.str x t)
  | .inl i,v,h=>by
    obtain ⟨t,e⟩:=Value.isInt_shape (k:=i) (v:=v) h
    exact .inl ⟨i,t,rfl,e⟩
  | .inr x,v,h=>by
    obtain ⟨t,e⟩:=Value.isStrOf_shape (x:=x) (v:=v) h
    exact .inr ⟨x,t,rfl,e⟩
theorem y1E (i : Int) (t : Tok) : z9A (.inl i) (.int i t)=true:=by simp [z9A,Value.isInt]
theorem y1h (x : Str) (t : Tok) : z9A (.inr x) (.str x t)=true:=by simp [z9A,Value.isStrOf]
theorem key_ll (a b : Int) : decide ((Sum.inl a : Key)=Sum.inl b)=(a == b):=by
  by_cases e : a=b
  · subst e; simp
  · have h : ¬ (Sum.inl a : Key)=Sum.inl b:=fun q=>e (Sum.inl.inj q)
    rw [decide_eq_false h]
    exact (beq_eq_false_iff_ne.mpr e).symm
theorem key_rr (a b : Str) : decide ((Sum.inr a : Key)=Sum.inr b)=decide (a=b):=by
  by_cases e : a=b
  · subst e; simp
  · have h : ¬ (Sum.inr a : Key)=Sum.inr b:=fun q=>e (Sum.inr.inj q)
    rw [decide_eq_false h,decide_eq_false e]
theorem key_lr (a : Int) (b : Str) : decide ((Sum.inl a : Key)=Sum.inr b)=false:=decide_eq_false (fun q=>nomatch q)
theorem key_rl (a : Str) (b : Int) : decide ((Sum.inr a : Key)=Sum.inl b)=false:=decide_eq_false (fun q=>nomatch q)
noncomputable def z1y (prog : Program) (w : World) : PySem.KeyKind prog w Key where
  is:=z9A
  hash:=keyH w
  inj:=fun v a b ha hb=>by
    rcases z0M ha with ⟨i,t,rfl,rfl⟩ | ⟨x,t,rfl,rfl⟩
    · rcases z0M hb with ⟨j,u,rfl,e⟩ | ⟨y,u,rfl,e⟩
      · injection e with e1 _; rw [e1]
      · exact nomatch e
    · rcases z0M hb with ⟨j,u,rfl,e⟩ | ⟨y,u,rfl,e⟩
      · exact nomatch e
      · injection e with e1 _; rw [e1]
  byValue:=fun k v h=>by
    rcases z0M h with ⟨i,t,rfl,rfl⟩ | ⟨x,t,rfl,rfl⟩ <;> rfl
  pyHash:=fun hv h=>by
    rcases z0M hv with ⟨i,t,rfl,rfl⟩ | ⟨x,t,rfl,rfl⟩
    · exact wpAny_pyHash_int h
    · exact wpAny_pyHash_str h
  eqBool:=fun hu hv h=>by
    rcases z0M hu with ⟨i,t,rfl,rfl⟩ | ⟨x,t,rfl,rfl⟩
    · rcases z0M hv with ⟨j,u,rfl,rfl⟩ | ⟨y,u,rfl,rfl⟩
      · rw [key_ll] at h; exact wpAny_eqBool_int h
      · rw [key_lr] at h; exact SeqAt.EqAt.int_str i t y u _ _ _ _ h
    · rcases z0M hv with ⟨j,u,rfl,rfl⟩ | ⟨y,u,rfl,rfl⟩
      · rw [key_rl] at h; exact SeqAt.EqAt.str_int x t j u _ _ _ _ h
      · rw [key_rr] at h; exact wpAny_eqBool_str h
  «strs»:=fun k x t v h=>by
    rcases z0M h with ⟨i,u,rfl,e⟩ | ⟨y,u,rfl,e⟩
    · exact nomatch e
    · injection e with e1 _
      subst e1
      cases v <;> rfl
theorem z7Z (prog : Program) (w : World) (i : Int) (t : Tok) : (z1y prog w).is (.inl i) (.int i t)=true:=y1E i t
theorem z7U (prog : Program) (w : World) (x : Str) (t : Tok) : (z1y prog w).is (.inr x) (.str x t)=true:=y1h x t
end L2
namespace L2
open PySem PySem.Spec PyProof.Rows
inductive V where
  | non | bl (b : Bool) | int (i : Int) | str (x : Str) | byt (b : Array UInt8) | flt (b : UInt64) | ref (a : Addr) | ty (n : String)
  deriving DecidableEq
noncomputable def RelV : V->Value->Prop
  | .non,u=>u=Value.none
  | .bl b,u=>u=Value.bool b
  | .int i,u=>∃ t,u=Value.int i t
  | .str x,u=>∃ t,u=Value.str x t
  | .byt b,u=>∃ t,u=Value.bytes b t
  | .flt b,u=>∃ t,u=Value.float b t
  | .ref a,u=>u=Value.ref a
  | .ty n,u=>u=Value.type n
noncomputable abbrev Vals : List V->List Value->Prop:=Paired RelV
theorem Vals.length {xs : List V} {us : List Value} (r : Vals xs us) : xs.length=us.length:=Paired.length r
theorem Vals.get : ∀ {xs : List V} {us : List Value} {i : Nat} {x : V},Vals xs us->xs[i]? = some x->∃ u,us[i]? = some u∧RelV x u
  | _,_,_,_,.nil,e=>by simp at e
  | _,_,0,_,.cons r _,e=>by simp at e; subst e; exact ⟨_,rfl,r⟩
  | _,_,i + 1,x,.cons _ t,e=>by
    obtain ⟨u,h1,h2⟩:=Vals.get (i:=i) (x:=x) t (by simpa using e)
    exact ⟨u,by simpa using h1,h2⟩
theorem Vals.set {x : V} {u : Value} (r : RelV x u) : ∀ {xs : List V} {us : List Value} (i : Nat),Vals xs us->Vals (xs.set i x) (us.set i u)
  | _,_,_,.nil=>.nil
  | _,_,0,.cons _ t=>.cons r t
  | _,_,i + 1,.cons q t=>.cons q (Vals.set r i t)
theorem Vals.append : ∀ {xs ys : List V} {us ws : List Value},Vals xs us->Vals ys ws->Vals (xs ++ ys) (us ++ ws)
  | _,_,_,_,.nil,s=>s
  | _,_,_,_,.cons r t,s=>.cons r (Vals.append t s)
theorem Vals.take : ∀ {xs : List V} {us : List Value} (n : Nat),Vals xs us->Vals (xs.take n) (us.take n)
  | _,_,0,_=>.nil
  | _,_,_ + 1,.nil=>.nil
  | _,_,n + 1,.cons r t=>.cons r (Vals.take n t)
theorem Vals.drop : ∀ {xs : List V} {us : List Value} (n : Nat),Vals xs us->Vals (xs.drop n) (us.drop n)
  | _,_,0,r=>r
  | _,_,_ + 1,.nil=>.nil
  | _,_,n + 1,.cons _ t=>Vals.drop n t
noncomputable def RelO : Option V->Option Value->Prop
  | some v,some u=>RelV v u
  | none,none=>True
  | _,_=>False
noncomputable def KV {κ : Type} : List (κ × V)->List (κ × Value)->Prop:=Paired fun (p : κ × V) (q : κ × Value)=>p.1=q.1∧RelV p.2 q.2
noncomputable def kV : Key->V
  | .inl i=>.int i
  | .inr x=>.str x
inductive HO where
  | lst (xs : List V)
  | tup (xs : List V)
  | dK (kvs : List (Key × V)) | dT (kvs : List (List Key × V))
  | set (S : Int->Bool) (n : Nat)
  | ins (C dx : Addr) (fs : List (Str × V))
  | own (x : Addr)
  | xd (fs : List (Str × V))
  | met (f x : Addr)
  | rng (lo hi : Int)
  | frz (o : Obj) (u : HO)
  | tbl (ps : Array Value)
  | ext (φ : Heap->Prop)
noncomputable abbrev Hp:=Addr->Option HO
noncomputable def upd (H : Hp) (a : Addr) (o : HO) : Hp:=fun b=>if b=a then some o else H b
theorem z0c {H : Hp} {a : Addr} {o : HO} : upd H a o a=some o:=by unfold upd; rw [if_pos rfl]
theorem z0d {H : Hp} {a b : Addr} {o : HO} (h : b≠a) : upd H a o b=H b:=by unfold upd; rw [if_neg h]
theorem ne_of {H : Hp} {a b : Addr} {o u : HO} (h : H a=some o) (h' : H b=some u) (d : o≠u) : a≠b:=by
  intro e; subst e; rw [h] at h'; exact d (Option.some.inj h')
theorem z1G {H : Hp} {a b : Addr} {o : HO} (h : H a=some o) (h' : H b=none) : a≠b:=by
  intro e; subst e; rw [h] at h'; cases h'
section
variable (P : Program) (w : World)
noncomputable def TupN (h : Heap) (a : Addr) (items : Array Value) : Prop:=∃ o,h.get? a=some o∧(o.cls = .type "tuple" ∧ o.dict=none)∧∃ n,o.data = .seq items n
theorem TupN.is {h : Heap} {a : Addr} {items : Array Value} (x : TupN h a items) : IsTup h a items:=let ⟨o,e,c,n⟩:=x; ⟨o,e,c.1,n⟩
theorem TupN.lt {h : Heap} {a : Addr} {items : Array Value} (x : TupN h a items) : a < h.objs.size:=x.is.lt
theorem TupN.new (h : Heap) (items : Array Value) : TupN (h.push { cls:=.type "tuple",data:=.seq items }) h.objs.size items:=⟨_,Heap.get?_push_size _ rfl,⟨rfl,rfl⟩,_,rfl⟩
noncomputable def ObjOk (H : Hp) (h : Heap) (a : Addr) : HO->Prop
  | .lst xs=>xs.length≤sizeLine∧∃ (its : List Value) (n : Nat),Vals xs its∧h.get? a=some { cls:=.type "list",data:=.seq its.toArray n }
  | .tup xs=>xs.length≤sizeLine∧∃ its : List Value,Vals xs its∧TupN h a its.toArray
  | .dK kvs=>kvs.length≤sizeLine∧(a == sysModules)=false∧∃ vs,KV kvs vs∧h.DictOf (z1y P w) a vs
  | .dT kvs=>kvs.length≤sizeLine∧(a == sysModules)=false∧∃ xs : List (List Key × Addr × Value),
      Paired (fun (p : List Key × V) (q : List Key × Addr × Value)=>p.1=q.1∧H q.2.1=some (.tup (p.1.map kV))∧RelV p.2 q.2.2) kvs xs ∧
      ∃ o es ep,h.get? a=some o∧o.ExactDict∧o.data = .dict es ep∧es.toList=xs.map (entryOfKey (tupleKind (z1y P w)))∧(xs.map (·.1)).Nodup
  | .set S n=>h.SetOf (intKind P w) a S n
  | .ins C dx fs=>H dx=some (.own a)∧fs.length≤1000∧dx≠a∧h.get? a=some (PySem.W.instObj C dx) ∧
      ∃ mA,h.Ns1 dx mA∧(∀ f,RelO (fs.lookup f) (mA f))∧PySem.Within mA (fs.map (·.1))
  | .own _=>∃ o,h.get? a=some o
  | .xd fs=>∃ mA,h.Ns1 a mA∧∀ f,RelO (fs.lookup f) (mA f)
  | .rng lo hi=>∃ t u v,h.get? a=some { cls:=.type "range",data:=.fields #[.int lo t,.int hi u,.int 1 v] }
  | .frz o u=>h.get? a=some o∧ObjOk H h a u
  | .tbl ps=>h.get? a=some { cls:=.none,data:=.fields ps }
  | .met f x=>h.get? a=some (PySem.W.methodObj (.ref f) (.ref x))
  | .ext φ=>φ h∧(∃ o,h.get? a=some o)∧∀ h1 h2 : Heap,φ h1->(∀ o,h1.get? a=some o->h2.get? a=some o)->φ h2
noncomputable def HOk (H : Hp) (h : Heap) : Prop:=∀ a o,H a=some o->ObjOk P w H h a o
end
section
variable {P : Program} {w : World} {H H' : Hp} {h h' : Heap} {a : Addr} {o : HO}
theorem ObjOk.lt (x : ObjOk P w H h a o) : a < h.objs.size:=by
  cases o with
  | lst xs=>obtain ⟨_,_,_,_,e⟩:=x; exact Heap.lt_size e
  | tup xs=>obtain ⟨_,_,_,p⟩:=x; exact p.lt
  | dK kvs=>obtain ⟨_,_,_,_,o,_,_,e,_⟩:=x; exact Heap.lt_size e
  | dT kvs=>obtain ⟨_,_,_,_,o,_,_,e,_⟩:=x; exact Heap.lt_size e
  | set S n=>obtain ⟨o,_,_,_,e,_⟩:=x; exact Heap.lt_size e
  | ins C dx fs=>obtain ⟨_,_,_,e,_⟩:=x; exact Heap.lt_size e
  | own y=>obtain ⟨_,e⟩:=x; exact Heap.lt_size e
  | xd fs=>obtain ⟨_,⟨_,_,_,e,_⟩,_⟩:=x; exact Heap.lt_size e
  | rng lo hi=>obtain ⟨_,_,_,e⟩:=x; exact Heap.lt_size e
  | frz ob u=>obtain ⟨e,_⟩:=x; exact Heap.lt_size e
  | tbl ps=>exact Heap.lt_size (show h.get? a=some _ from x)
  | met f y=>exact Heap.lt_size (show h.get? a=some _ from x)
  | ext φ=>obtain ⟨_,⟨_,e⟩,_⟩:=x; exact Heap.lt_size e
theorem Paired.mapP {α β : Type} {F G : α->β->Prop} : ∀ {l₁ : List α} {l₂ : List β},Paired F l₁ l₂->(∀ a b,F a b->G a b)->Paired G l₁ l₂
  | _,_,.nil,_=>.nil
  | _,_,.cons r t,f=>.cons (f _ _ r) (Paired.mapP t f)
theorem ObjOk.stay (x : ObjOk P w H h a o) (k : ∀ b u,(b=a∨H b=some (.own a))->h.get? b=some u->h'.get? b=some u)
    (ho : ∀ b,H b=some (.own a)->H' b=some (.own a)) (ht : ∀ b xs,H b=some (.tup xs)->H' b=some (.tup xs)) : ObjOk P w H' h' a o:=by
  induction o with
  | lst xs=>obtain ⟨z,its,n,r,e⟩:=x; exact ⟨z,its,n,r,k _ _ (.inl rfl) e⟩
  | tup xs=>obtain ⟨z,its,r,ob,e,c⟩:=x; exact ⟨z,its,r,ob,k _ _ (.inl rfl) e,c⟩
  | dK kvs=>obtain ⟨z,y,vs,r,ob,es,ep,e,c⟩:=x; exact ⟨z,y,vs,r,ob,es,ep,k _ _ (.inl rfl) e,c⟩
  | dT kvs=>
    obtain ⟨z,y,xs,r,ob,es,ep,e,c⟩:=x
    exact ⟨z,y,xs,Paired.mapP r fun p q z=>⟨z.1,ht _ _ z.2.1,z.2.2⟩,ob,es,ep,k _ _ (.inl rfl) e,c⟩
  | set S n=>obtain ⟨ob,es,ep,t,e,c⟩:=x; exact ⟨ob,es,ep,t,k _ _ (.inl rfl) e,c⟩
  | ins C dx fs=>
    obtain ⟨d,z,ne,e,mA,⟨od,es,ep,e2,c⟩,r⟩:=x
    exact ⟨ho _ d,z,ne,k _ _ (.inl rfl) e,mA,⟨od,es,ep,k _ _ (.inr d) e2,c⟩,r⟩
  | own y=>obtain ⟨ob,e⟩:=x; exact ⟨ob,k _ _ (.inl rfl) e⟩
  | xd fs=>obtain ⟨mA,⟨od,es,ep,e,c⟩,r⟩:=x; exact ⟨mA,⟨od,es,ep,k _ _ (.inl rfl) e,c⟩,r⟩
  | rng lo hi=>obtain ⟨t,u,v,e⟩:=x; exact ⟨t,u,v,k _ _ (.inl rfl) e⟩
  | frz ob u ih=>obtain ⟨e,q⟩:=x; exact ⟨k _ _ (.inl rfl) e,ih q⟩
  | tbl ps=>
    have e : h.get? a=some { cls:=.none,data:=.fields ps }:=x
    show h'.get? a=some { cls:=.none,data:=.fields ps }
    exact k a _ (.inl rfl) e
  | met f y=>
    have e : h.get? a=some (PySem.W.methodObj (.ref f) (.ref y)):=x
    show h'.get? a=some (PySem.W.methodObj (.ref f) (.ref y))
    exact k a _ (.inl rfl) e
  | ext φ=>obtain ⟨p,⟨o,e⟩,st⟩:=x; exact ⟨st _ _ p fun o q=>k _ _ (.inl rfl) q,⟨o,k _ _ (.inl rfl) e⟩,st⟩
theorem HOk.lt (x : HOk P w H h) (e : H a=some o) : a < h.objs.size:=(x a o e).lt
theorem HOk.fresh (x : HOk P w H h) (e : h.objs.size≤a) : H a=none:=by
  cases q : H a with
  | none=>rfl
  | some u=>exact absurd (Nat.lt_of_lt_of_le (x.lt q) e) (Nat.lt_irrefl _)
theorem HOk.kept (x : HOk P w H h) (k : ∀ b u,h.get? b=some u->h'.get? b=some u) : HOk P w H h':=fun a o e=>
  (x a o e).stay (fun b u _ q=>k b u q) (fun _ q=>q) fun _ _ q=>q
theorem HOk.laid (x : HOk P w H h) (k : ∀ b u,h.get? b=some u->h'.get? b=some u) (hp : h.objs.size≤a) (new : ObjOk P w (upd H a o) h' a o) : HOk P w (upd H a o) h':=fun b u e=>by
  have hn:=x.fresh hp
  by_cases hb : b=a
  · subst hb; rw [z0c] at e; cases e; exact new
  · rw [z0d hb] at e
    exact (x b u e).stay (fun c v _ q=>k c v q) (fun c q=>by rw [z0d (z1G q hn)]; exact q) fun c xs q=>by rw [z0d (z1G q hn)]; exact q
end
noncomputable def Rd (H : Hp) (a : Addr) (u : HO) : Prop:=H a=some u∨∃ o,H a=some (.frz o u)
theorem Rd.ok {P : Program} {w : World} {H : Hp} {h : Heap} {a : Addr} {u : HO} (r : Rd H a u) (x : HOk P w H h) : ObjOk P w H h a u:=by
  rcases r with r | ⟨o,r⟩
  · exact x a u r
  · obtain ⟨_,q⟩:=x a _ r
    exact q
noncomputable def Mut : Option HO->Prop
  | some (.lst _)=>True
  | some (.dK _)=>True
  | some (.dT _)=>True
  | some (.set _ _)=>True
  | some (.ins _ _ _)=>True
  | some (.ext _)=>True
  | _=>False
section
variable {P : Program} {w : World} {H : Hp} {h h' : Heap} {x e : Addr} {o' : HO}
theorem HOk.write (ok : HOk P w H h) (mu : Mut (H x)) (he : e=x∨H e=some (.own x)) (k : ∀ b u,b≠e->h.get? b=some u->h'.get? b=some u) (heo : ∃ u,h'.get? e=some u)
    (new : ObjOk P w (upd H x o') h' x o') : HOk P w (upd H x o') h':=fun b u q=>by
  have nown : ∀ c y,H c=some (.own y)->c≠x:=fun c y r z=>by subst z; rw [r] at mu; exact mu
  have ntup : ∀ c xs,H c=some (.tup xs)->c≠x:=fun c xs r z=>by subst z; rw [r] at mu; exact mu
  by_cases hb : b=x
  · subst hb; rw [z0c] at q; cases q; exact new
  · rw [z0d hb] at q
    by_cases hbe : b=e
    · have q' : H b=some (.own x):=by
        rcases he with z | z
        · exact absurd (hbe.trans z) hb
        · rw [hbe]; exact z
      rw [q] at q'; cases q'
      obtain ⟨v,hv⟩:=heo
      exact ⟨v,by rw [hbe]; exact hv⟩
    · refine (ok b u q).stay (fun c v hc r=>k c v ?_ r) (fun c r=>by rw [z0d (nown c b r)]; exact r) fun c xs r=>by rw [z0d (ntup c xs r)]; exact r
      rcases hc with rfl | hc
      · exact hbe
      · rintro rfl
        rcases he with z | z
        · exact nown c b hc z
        · rw [hc] at z; cases z; exact hb rfl
end
structure Un (fs ex : List Addr) (H H' : Hp) (h h' : Heap) : Prop where
  keep : ∀ b o,h.get? b=some o->H b=none->b ∉ fs->b ∉ ex->h'.get? b=some o
  slot : ∀ b o,h.get? b=some o->H b=none->b∈fs->b ∉ ex->∃ sl,h'.get? b=some { o with slots:=sl }
  free : ∀ b o,h.get? b=some o->H b=none->b ∉ ex->H' b=none
  there : ∀ b o,h.get? b=some o->b ∉ ex->∃ o',h'.get? b=some o'
  tups : ∀ b xs,H b=some (.tup xs)->H' b=some (.tup xs)
  frzs : ∀ b o u,H b=some (.frz o u)->H' b=some (.frz o u)
  tbls : ∀ b ps,H b=some (.tbl ps)->∃ more,H' b=some (.tbl (ps ++ more))
section
variable {fs fs' ex ex' : List Addr} {H H1 H2 : Hp} {h h1 h2 h' : Heap} {a x e : Addr} {o : HO}
theorem Un.any (u : Un fs ex H H1 h h1) {b : Addr} {ob : Obj} (q : h.get? b=some ob) (n : H b=none) (hx : b ∉ ex) : ∃ sl,h1.get? b=some { ob with slots:=sl }:=by
  by_cases hb : b∈fs
  · exact u.slot b ob q n hb hx
  · exact ⟨ob.slots,u.keep b ob q n hb hx⟩
theorem Un.kept (k : ∀ b u,h.get? b=some u->h'.get? b=some u) : Un fs ex H H h h':=
  ⟨fun b ob q _ _ _=>k b ob q,fun b ob q _ _ _=>⟨ob.slots,k b ob q⟩,fun _ _ _ n _=>n,fun b ob q _=>⟨ob,k b ob q⟩,fun _ _ q=>q,fun _ _ _ q=>q,fun _ ps q=>⟨#[],by rw [q]; simp⟩⟩
theorem Un.refl : Un fs ex H H h h:=Un.kept fun _ _ q=>q
theorem Un.laid (k : ∀ b u,h.get? b=some u->h'.get? b=some u) (hp : h.objs.size≤a) (hn : H a=none) : Un fs ex H (upd H a o) h h' where
  keep:=fun b u q _ _ _=>k b u q
  slot:=fun b u q _ _ _=>⟨u.slots,k b u q⟩
  free:=fun b u q n _=>by rw [z0d (Nat.ne_of_lt (Nat.lt_of_lt_of_le (Heap.lt_size q) hp))]; exact n
  there:=fun b u q _=>⟨u,k b u q⟩
  tups:=fun b xs q=>by rw [z0d (z1G q hn)]; exact q
  frzs:=fun b u xs q=>by rw [z0d (z1G q hn)]; exact q
  tbls:=fun b ps q=>⟨#[],by rw [z0d (z1G q hn),q]; simp⟩
theorem Un.write (mu : Mut (H x)) (he : e=x∨H e=some (.own x)) (k : ∀ b u,b≠e->h.get? b=some u->h'.get? b=some u) (heo : ∃ u,h'.get? e=some u) : Un fs ex H (upd H x o) h h':=by
  have hx : ∀ b,H b=none->b≠x:=fun b n z=>by subst z; rw [n] at mu; exact mu
  have hb : ∀ b,H b=none->b≠e:=fun b n z=>by
    subst z
    rcases he with r | r
    · exact hx b n r
    · rw [n] at r; cases r
  have hm : ∀ b u,H b=some u->¬ Mut (some u)->b≠x:=fun b u q nm z=>by subst z; rw [q] at mu; exact nm mu
  refine ⟨fun b u q n _ _=>k b u (hb b n) q,fun b u q n _ _=>⟨u.slots,k b u (hb b n) q⟩,fun b u q n _=>by rw [z0d (hx b n)]; exact n,fun b u q _=>?_,
    fun b xs q=>by rw [z0d (hm b _ q fun z=>z)]; exact q,fun b u xs q=>by rw [z0d (hm b _ q fun z=>z)]; exact q,fun b ps q=>⟨#[],by rw [z0d (hm b _ q fun z=>z),q]; simp⟩⟩
  by_cases hbe : b=e
  · subst hbe; exact heo
  · exact ⟨u,k b u hbe q⟩
end
noncomputable def trk (h : Heap) (H : Hp) : List Addr:=(List.range h.objs.size).filter fun a=>(H a).isSome
noncomputable def y3x (h : Heap) (H : Hp) : Heap:=PySem.W.hideAll h (trk h H)
theorem y0K (h : Heap) (H : Hp) : (y3x h H).objs.size=h.objs.size:=PySem.W.hideAll_size _ _
theorem y2G {h : Heap} {H : Hp} {b : Addr} {o : Obj} (e : h.get? b=some o) (n : H b=none) : (y3x h H).get? b=some o:=
  PySem.W.hideAll_get _ e fun hm=>by
    have q : (H b).isSome=true:=(List.mem_filter.mp hm).2
    rw [n] at q; simp at q
theorem of_hidT {h : Heap} {H : Hp} {b : Addr} {o : Obj} (e : (y3x h H).get? b=some o) : h.get? b=some o∧H b=none:=by
  have e' : h.get? b=some o:=PySem.W.of_hideAll (trk h H) e
  refine ⟨e',?_⟩
  cases q : H b with
  | none=>rfl
  | some x=>
    have hm : b∈trk h H:=List.mem_filter.mpr ⟨List.mem_range.mpr (Heap.lt_size e'),by simp [q]⟩
    have z : (y3x h H).get? b=none:=PySem.W.hideAll_none (trk h H) hm
    rw [z] at e; cases e
noncomputable def allNews (g h : Heap) (L : Addr) : List (Addr × Obj):=(List.range h.objs.size).filterMap fun a=>if a=L∨(g.get? a).isSome=true then none else (h.get? a).map fun o=>(a,o)
noncomputable def rest (g h : Heap) (L d : Addr) : List (Addr × Obj):=(allNews g h L).filter fun p=>decide (p.1≠d)
end L2
namespace L2
open PySem PySem.Spec PyProof.Rows
structure Mod (K : PySem.W.Frag) (mg : Str->Option Value) (base : Heap) : Prop where
  kin : K.In base
  glob : base.Ns mainGlobals mg
  blt : ∃ mb,base.Ns builtinsNs mb∧∀ x : Str,x ≠ "__name__" → mb x=bootBuiltins x
  nolimit : base.NoLimit
structure Cx where
  prog : Program
  w : World
  K : PySem.W.Frag
  mg : Str->Option Value
  base : Heap
  A : Around
  N : List Str
  s₀ : Shared
  H₀ : Hp
  env : Env
  outer : List Env
  stack : List Env
  ex : List Addr
  fn : Str->Bool
  calm : Bool
  pn : List (Addr × Obj)
  xe : Value->Shared->Prop
noncomputable def frs (l : List Env) : List Addr:=l.filterMap (·.frame)
noncomputable abbrev Cx.fs (X : Cx) : List Addr:=frs X.outer
noncomputable def Vis (sc : Scope) (x : Str) : Prop:=sc.names.lookup x=some .local∨sc.names.lookup x=some .cell∨sc.names.lookup x=some .free
noncomputable def Loc (sc : Scope) (x : Str) : Prop:=sc.names.lookup x=some .local∨sc.names.lookup x=some .cell
noncomputable def Look (env : Env) (h : Heap) (m : Str->Option Value) (x : Str) (u : Value) : Prop:=
  (env.kindOf x=some .local∧m x=some u)∨((env.kindOf x=some .cell∨env.kindOf x=some .free)∧∃ c,env.cells.lookup x=some c∧h.IsCell c (some u))
structure Cx.Ok (X : Cx) : Prop where
  mod : Mod X.K X.mg X.base
  kind : X.env.scope.kind = .function
  glob : X.env.globals=mainGlobals
  blt : X.env.builtins=builtinsNs
  above : X.s₀.heap.objs.size≤X.env.locals
  inj : ∀ x y c,X.env.cells.lookup x=some c->X.env.cells.lookup y=some c->x=y
  has : ∀ x,(X.env.kindOf x=some .cell∨X.env.kindOf x=some .free)->∃ c,X.env.cells.lookup x=some c
  cab : ∀ x c,X.fn x=true->X.env.cells.lookup x=some c->X.s₀.heap.objs.size≤c
  hd : X.calm=true->X.A.handled=none
  frames : X.A.frames=some X.stack
  stk : X.stack=X.outer∨(X.stack=X.env :: X.outer∧X.env.frame=some X.env.locals)
  exf : ∀ b∈X.ex,b≠X.env.locals∧∀ x c,X.env.cells.lookup x=some c->c≠b
  bs : ∀ b o,X.base.get? b=some o->X.s₀.heap.get? b=some o∧X.H₀ b=none
  bsz : X.base.objs.size≤X.s₀.heap.objs.size
  noex : ∀ b o,X.base.get? b=some o->b ∉ X.ex
  exfs : ∀ b∈X.ex,b ∉ X.fs
  funs : X.s₀.heap.FunFrames X.base X.outer
  frf : ∀ b∈X.fs,X.H₀ b=none
structure Inv (X : Cx) (pins : List (Addr × Obj)) (σ : List (Option V)) (H : Hp) (s : Shared) : Prop where
  ok : X.Ok
  os : s.os=X.s₀.os
  bare : AllBare s.gens
  base : Un X.fs X.ex X.H₀ H X.s₀.heap s.heap
  loc : ∃ m,s.heap.Ns X.env.locals m∧∀ (i : Nat) (x : Str) (v : V),X.N[i]? = some x->σ[i]? = some (some v)->Vis X.env.scope x->∃ u,RelV v u∧Look X.env s.heap m x u
  cell : ∀ x c,X.env.cells.lookup x=some c->∃ v,s.heap.IsCell c v
  free : H X.env.locals=none
  freeC : ∀ x c,X.env.cells.lookup x=some c->H c=none
  pin : ∀ p∈X.pn ++ pins,s.heap.get? p.1=some p.2∧H p.1=none∧p.1≠X.env.locals∧p.1 ∉ X.fs∧∀ v,p.2.data≠.cell v
  hok : HOk X.prog X.w H s.heap
  len : σ.length=X.N.length
section
variable {X : Cx} {pins : List (Addr × Obj)} {σ : List (Option V)} {H H' : Hp} {s : Shared} {h' : Heap}
theorem Cx.Ok.nofr (ok : X.Ok) {b : Addr} {o : Obj} (e : X.base.get? b=some o) : b ∉ X.fs:=fun hb=>by
  have:=(ok.funs.mem hb).1
  rw [e] at this; cases this
theorem Inv.bs (I : Inv X pins σ H s) : ∀ b o,X.base.get? b=some o->s.heap.get? b=some o∧H b=none:=fun b o e=>
  ⟨I.base.keep b o (I.ok.bs b o e).1 (I.ok.bs b o e).2 (I.ok.nofr e) (I.ok.noex b o e),I.base.free b o (I.ok.bs b o e).1 (I.ok.bs b o e).2 (I.ok.noex b o e)⟩
theorem Inv.bk (I : Inv X pins σ H s) : ∀ b o,X.base.get? b=some o->s.heap.get? b=some o:=fun b o e=>(I.bs b o e).1
theorem Inv.mod (I : Inv X pins σ H s) : Mod X.K X.mg X.base:=I.ok.mod
theorem Inv.kIn (I : Inv X pins σ H s) : X.K.In s.heap:=I.ok.mod.kin.keeps I.bk
theorem Inv.lt (I : Inv X pins σ H s) : X.env.locals < s.heap.objs.size:=let ⟨_,hn,_⟩:=I.loc; hn.lt
theorem Inv.sz (I : Inv X pins σ H s) : X.s₀.heap.objs.size≤s.heap.objs.size:=Nat.le_trans I.ok.above (Nat.le_of_lt I.lt)
theorem Inv.nofs (I : Inv X pins σ H s) {a : Addr} (h : s.heap.objs.size≤a) : a ∉ X.fs:=fun hb=>by
  obtain ⟨_,o,ho,_⟩:=I.ok.funs.mem hb
  exact absurd (Nat.lt_of_lt_of_le (Heap.lt_size ho) (Nat.le_trans I.sz h)) (Nat.lt_irrefl _)
theorem Inv.cne (I : Inv X pins σ H s) : ∀ x c,X.env.cells.lookup x=some c->c≠X.env.locals:=fun x c e z=>by
  obtain ⟨v,o,ho,hd⟩:=I.cell x c e
  obtain ⟨m,⟨o',es,ep,ho',hd',_⟩,_⟩:=I.loc
  rw [z,ho'] at ho; cases ho; rw [hd'] at hd; cases hd
theorem Inv.funs (I : Inv X pins σ H s) : s.heap.FunFrames X.base X.outer:=by
  have all : ∀ (l : List Env),(∀ b∈frs l,b∈X.fs)->X.s₀.heap.FunFrames X.base l->s.heap.FunFrames X.base l:=by
    intro l
    induction l with
    | nil=>intro _ _; trivial
    | cons env r ih=>
      intro hs hl
      obtain ⟨hk,⟨L,o,hf,hn,ho,hd⟩,hr⟩:=hl
      have hL : L∈X.fs:=hs L (by unfold frs; rw [List.filterMap_cons,hf]; exact List.mem_cons_self)
      obtain ⟨sl,e⟩:=I.base.slot L o ho (I.ok.frf L hL) hL fun z=>I.ok.exfs L z hL
      exact ⟨hk,⟨L,_,hf,hn,e,hd⟩,ih (fun b hb=>hs b (by unfold frs; rw [List.filterMap_cons,hf]; exact List.mem_cons_of_mem _ hb)) hr⟩
  exact all X.outer (fun _ hb=>hb) I.ok.funs
theorem Inv.stack (I : Inv X pins σ H s) : s.heap.FunFrames X.base X.stack:=by
  rcases I.ok.stk with e | ⟨e,hf⟩
  · rw [e]; exact I.funs
  · rw [e]
    obtain ⟨m,hn,_⟩:=I.loc
    refine .cons (by rw [I.ok.kind]; decide) hf hn ?_ I.funs
    exact Heap.get?_none_of_le (Nat.le_trans I.ok.bsz I.ok.above)
theorem Inv.stkSub (I : Inv X pins σ H s) : ∀ b∈frs X.stack,b∈X.env.locals :: X.fs:=fun b hb=>by
  rcases I.ok.stk with e | ⟨e,hf⟩
  · rw [e] at hb; exact List.mem_cons_of_mem _ hb
  · rw [e] at hb
    unfold frs at hb
    rw [List.filterMap_cons,hf] at hb
    exact hb
theorem Inv.stkFree (I : Inv X pins σ H s) : ∀ b∈frs X.stack,H b=none:=fun b hb=>by
  rcases List.mem_cons.mp (I.stkSub b hb) with e | hb
  · rw [e]; exact I.free
  · obtain ⟨_,o,ho,_⟩:=I.ok.funs.mem hb
    exact I.base.free b o ho (I.ok.frf b hb) fun z=>I.ok.exfs b z hb
theorem Inv.step {g' : Array GenState} {t' : Nat} {d' : Drawn} {ch : List Addr} (I : Inv X pins σ H s)
    (hch : ∀ b∈ch,(b∈X.ex∨X.s₀.heap.objs.size≤b)∧b≠X.env.locals∧(∀ x c,X.env.cells.lookup x=some c->c≠b)∧∀ p∈X.pn ++ pins,p.1≠b)
    (keep : ∀ b o,b≠X.env.locals->b ∉ X.fs->b ∉ ch->s.heap.get? b=some o->H b=none->h'.get? b=some o)
    (slot : ∀ b o,b≠X.env.locals->b∈X.fs->b ∉ ch->s.heap.get? b=some o->H b=none->∃ sl,h'.get? b=some { o with slots:=sl }) (free : ∀ b o,b ∉ ch->s.heap.get? b=some o->H b=none->H' b=none)
    (there : ∀ b o,b ∉ ch->s.heap.get? b=some o->∃ o',h'.get? b=some o')
    (tups : ∀ b xs,H b=some (.tup xs)->H' b=some (.tup xs)) (frzs : ∀ b o u,H b=some (.frz o u)->H' b=some (.frz o u)) (tbls : ∀ b ps,H b=some (.tbl ps)->∃ more,H' b=some (.tbl (ps ++ more)))
    (ns : ∀ m,s.heap.Ns X.env.locals m->h'.Ns X.env.locals m) (hok : HOk X.prog X.w H' h') (hg : AllBare g') :
    Inv X pins σ H' { s with heap:=h',gens:=g',drawn:=d',toks:=t' }:=by
  have neL : ∀ b o,X.s₀.heap.get? b=some o->b≠X.env.locals:=fun b o e=>Nat.ne_of_lt (Nat.lt_of_lt_of_le (Heap.lt_size e) I.ok.above)
  have neC : ∀ b o,X.s₀.heap.get? b=some o->b ∉ X.ex->b ∉ ch:=fun b o e hx hb=>by
    rcases (hch b hb).1 with z | z
    · exact hx z
    · exact absurd (Nat.lt_of_lt_of_le (Heap.lt_size e) z) (Nat.lt_irrefl _)
  have cellK : ∀ x c,X.env.cells.lookup x=some c->∀ v,s.heap.IsCell c v->h'.IsCell c v:=fun x c e v z_=>by
    obtain ⟨o,ho,hd⟩:=z_
    have nch : c ∉ ch:=fun z=>(hch c z).2.2.1 x c e rfl
    by_cases hc : c∈X.fs
    · obtain ⟨sl,q⟩:=slot c o (I.cne x c e) hc nch ho (I.freeC x c e)
      exact ⟨_,q,hd⟩
    · exact ⟨o,keep c o (I.cne x c e) hc nch ho (I.freeC x c e),hd⟩
  refine ⟨I.ok,I.os,hg,⟨fun b o e n hb hx=>?_,fun b o e n hb hx=>?_,fun b o e n hx=>?_,fun b o e hx=>?_,fun b xs e=>tups b xs (I.base.tups b xs e),fun b o xs e=>frzs b o xs (I.base.frzs b o xs e),fun b ps e=>?_⟩,?_,fun x c e=>?_,?_,fun x c e=>?_,fun p hp=>?_,hok,I.len⟩
  · exact keep b o (neL b o e) hb (neC b o e hx) (I.base.keep b o e n hb hx) (I.base.free b o e n hx)
  · obtain ⟨sl,e1⟩:=I.base.slot b o e n hb hx
    obtain ⟨sl',e2⟩:=slot b _ (neL b o e) hb (neC b o e hx) e1 (I.base.free b o e n hx)
    exact ⟨sl',e2⟩
  · obtain ⟨o',e1⟩:=I.base.there b o e hx
    exact free b o' (neC b o e hx) e1 (I.base.free b o e n hx)
  · obtain ⟨o',e1⟩:=I.base.there b o e hx
    exact there b o' (neC b o e hx) e1
  · obtain ⟨m1,e1⟩:=I.base.tbls b ps e
    obtain ⟨m2,e2⟩:=tbls b _ e1
    exact ⟨m1 ++ m2,by rw [e2,Array.append_assoc]⟩
  · obtain ⟨m,hn,hl⟩:=I.loc
    refine ⟨m,ns m hn,fun i x v e1 e2 e3=>?_⟩
    obtain ⟨u,r,l⟩:=hl i x v e1 e2 e3
    refine ⟨u,r,?_⟩
    rcases l with l | ⟨k,c,e,z⟩
    · exact .inl l
    · exact .inr ⟨k,c,e,cellK x c e _ z⟩
  · obtain ⟨v,z⟩:=I.cell x c e
    exact ⟨v,cellK x c e v z⟩
  · obtain ⟨m,⟨o,_,_,ho,_⟩,_⟩:=I.loc
    exact free _ o (fun z=>(hch _ z).2.1 rfl) ho I.free
  · obtain ⟨v,o,ho,hd⟩:=I.cell x c e
    exact free c o (fun z=>(hch c z).2.2.1 x c e rfl) ho (I.freeC x c e)
  · obtain ⟨e,n,ne,nf,d⟩:=I.pin p hp
    have nch : p.1 ∉ ch:=fun z=>(hch p.1 z).2.2.2 p hp rfl
    exact ⟨keep p.1 p.2 ne nf nch e n,free p.1 p.2 nch e n,ne,nf,d⟩
theorem Inv.un {t' : Nat} (I : Inv X pins σ H s) (u : Un X.fs [] H H' s.heap h') (hok : HOk X.prog X.w H' h') : Inv X pins σ H' { s with heap:=h',toks:=t' }:=by
  obtain ⟨m,⟨o,es,ep,ho,r⟩,_⟩:=id I.loc
  obtain ⟨sl,hL⟩:=u.any ho I.free (by simp)
  exact I.step (g':=s.gens) (d':=s.drawn) (ch:=[]) (fun _ z=>nomatch z) (fun b o _ hb _ e n=>u.keep b o e n hb (by simp)) (fun b o _ hb _ e n=>u.slot b o e n hb (by simp)) (fun b o _ e n=>u.free b o e n (by simp)) (fun b o _ e=>u.there b o e (by simp)) u.tups u.frzs u.tbls (fun m' hm=>by
    obtain ⟨o',es',ep',ho',r'⟩:=hm
    rw [ho] at ho'; cases ho'
    exact ⟨_,es',ep',hL,r'⟩) hok I.bare
theorem Inv.call {g' : Array GenState} {t' : Nat} {d' : Drawn} {ch : List Addr} (I : Inv X pins σ H s) (u : Un (frs X.stack) ch H H' s.heap h') (hok : HOk X.prog X.w H' h') (hg : AllBare g')
    (hch : ∀ b∈ch,(b∈X.ex∨X.s₀.heap.objs.size≤b)∧b≠X.env.locals∧(∀ x c,X.env.cells.lookup x=some c->c≠b)∧∀ p∈X.pn ++ pins,p.1≠b) :
    Inv X pins σ H' { s with heap:=h',gens:=g',drawn:=d',toks:=t' }:=by
  obtain ⟨m,⟨o,es,ep,ho,r⟩,_⟩:=id I.loc
  obtain ⟨sl,hL⟩:=u.any ho I.free fun z=>(hch _ z).2.1 rfl
  exact I.step (ch:=ch) hch (fun b o hL hb hc e n=>u.keep b o e n (fun z=>(List.mem_cons.mp (I.stkSub b z)).elim hL hb) hc) (fun b o _ _ hc e n=>u.any e n hc) (fun b o hc e n=>u.free b o e n hc) (fun b o hc e=>u.there b o e hc) u.tups u.frzs u.tbls (fun m' hm=>by
    obtain ⟨o',es',ep',ho',r'⟩:=hm
    rw [ho] at ho'; cases ho'
    exact ⟨_,es',ep',hL,r'⟩) hok hg
theorem Inv.turned {t' : Nat} {it : Addr} (I : Inv X pins σ H s) (k : ∀ b o,b≠it->s.heap.get? b=some o->h'.get? b=some o) (hn : H it=none) (hL : it≠X.env.locals)
    (h1 : it∈X.ex∨X.s₀.heap.objs.size≤it) (h2 : ∀ x c,X.env.cells.lookup x=some c->c≠it) (h3 : ∀ p∈X.pn ++ pins,p.1≠it) : Inv X pins σ H { s with heap:=h',toks:=t' }:=by
  have nit : ∀ b u,H b=some u->b≠it:=fun b u e z=>by rw [z,hn] at e; cases e
  refine I.step (g':=s.gens) (d':=s.drawn) (ch:=[it]) (fun b hb=>?_) (fun b o _ _ hc e _=>k b o (fun z=>hc (by simp [z])) e) (fun b o _ _ hc e _=>⟨o.slots,k b o (fun z=>hc (by simp [z])) e⟩) (fun _ _ _ _ n=>n)
    (fun b o hc e=>⟨o,k b o (fun z=>hc (by simp [z])) e⟩) (fun _ _ e=>e) (fun _ _ _ e=>e) (fun b ps e=>⟨#[],by rw [e]; simp⟩) (fun m hm=>?_) (fun b u e=>?_) I.bare
  · have e : b=it:=by simpa using hb
    subst e
    exact ⟨h1,hL,h2,h3⟩
  · obtain ⟨o,es,ep,ho,r⟩:=hm
    exact ⟨o,es,ep,k _ o (Ne.symm hL) ho,r⟩
  · refine (I.hok b u e).stay (fun c v hc q=>k c v ?_ q) (fun _ q=>q) fun _ _ q=>q
    rcases hc with z | z
    · rw [z]; exact nit b u e
    · exact nit c _ z
theorem Inv.tok (I : Inv X pins σ H s) (t : Nat) : Inv X pins σ H { s with toks:=t }:=I.un (h':=s.heap) (t':=t) Un.refl I.hok
theorem Inv.kept {t' : Nat} (I : Inv X pins σ H s) (k : ∀ b u,s.heap.get? b=some u->h'.get? b=some u) : Inv X pins σ H { s with heap:=h',toks:=t' }:=I.un (Un.kept k) (I.hok.kept k)
theorem Inv.laid {a : Addr} {o : HO} {t' : Nat} (I : Inv X pins σ H s) (k : ∀ b u,s.heap.get? b=some u->h'.get? b=some u) (hp : s.heap.objs.size≤a) (new : ObjOk X.prog X.w (upd H a o) h' a o) :
    Inv X pins σ (upd H a o) { s with heap:=h',toks:=t' }:=I.un (Un.laid k hp (I.hok.fresh hp)) (I.hok.laid k hp new)
theorem Inv.write {x e : Addr} {o : HO} {t' : Nat} (I : Inv X pins σ H s) (mu : Mut (H x)) (he : e=x∨H e=some (.own x)) (k : ∀ b u,b≠e->s.heap.get? b=some u->h'.get? b=some u) (heo : ∃ u,h'.get? e=some u)
    (new : ObjOk X.prog X.w (upd H x o) h' x o) : Inv X pins σ (upd H x o) { s with heap:=h',toks:=t' }:=I.un (Un.write mu he k heo) (I.hok.write mu he k heo new)
theorem Inv.pins_of {pins' : List (Addr × Obj)} (I : Inv X pins σ H s) (h : ∀ p∈pins',s.heap.get? p.1=some p.2∧H p.1=none∧p.1≠X.env.locals∧p.1 ∉ X.fs∧∀ v,p.2.data≠.cell v) : Inv X pins' σ H s:=
  ⟨I.ok,I.os,I.bare,I.base,I.loc,I.cell,I.free,I.freeC,fun p hp=>(List.mem_append.mp hp).elim (fun z=>I.pin p (List.mem_append_left _ z)) (h p),I.hok,I.len⟩
theorem z8C {N : List Str} (hN : N.Nodup) {i j : Nat} {x : Str} (a : N[i]? = some x) (b : N[j]? = some x) : i=j:=by
  obtain ⟨h1,e1⟩:=List.getElem?_eq_some_iff.mp a
  obtain ⟨h2,e2⟩:=List.getElem?_eq_some_iff.mp b
  exact (List.getElem_inj hN).mp (e1.trans e2.symm)
theorem y1M {M : Model} {A : Around} {E : Value->Shared->Prop} {i : Nat} {x : Str} {v : V} {u : Value} {Q : Unit->Shared->Prop} (I : Inv X pins σ H s) (hN : X.N.Nodup) (hi : X.N[i]? = some x) (hx : Loc X.env.scope x) (r : RelV v u)
    (h : ∀ s',Inv X pins (σ.set i (some v)) H s'->(∃ a,Heap.SameBut a s.heap s'.heap∧(a=X.env.locals∨X.env.cells.lookup x=some a))->Q () s') (hf : X.fn x=true∨X.env.scope.names.lookup x=some .local:=by first | exact .inl rfl | exact .inr rfl | assumption) : wpAny M A (storeName X.env x u) Q E s:=by
  obtain ⟨m,hn,hl⟩:=id I.loc
  have hcls : (X.env.scope.kind == .class || (X.env.scope.kind == .module && X.env.locals != X.env.globals))=false:=by rw [I.ok.kind]; rfl
  have hiσ : i < σ.length:=by rw [I.len]; exact (List.getElem?_eq_some_iff.mp hi).1
  have cne:=I.cne
  have tracked : ∀ {a : Addr} {h' : Heap},(∃ o,s.heap.get? a=some o∧H a=none)->Heap.SameBut a s.heap h'->HOk X.prog X.w H h':=fun {a h'} ha hs b ob e=>by
    obtain ⟨_,_,hfree⟩:=ha
    refine (I.hok b ob e).stay (fun c w' hc q=>(hs.2 c ?_).trans q) (fun _ q=>q) fun _ _ q=>q
    rintro rfl
    rcases hc with rfl | hc
    · rw [hfree] at e; cases e
    · rw [hfree] at hc; cases hc
  rcases hx with hk | hk
  · refine wpAny_storeName_local hk hn (fun h' hn' hs=>?_) hcls
    obtain ⟨oL,_,_,hoL,_⟩:=id hn
    refine h _ ⟨I.ok,I.os,I.bare,⟨fun b o e n hb hx=>?_,fun b o e n hb hx=>?_,I.base.free,fun b o e hx=>?_,I.base.tups,I.base.frzs,I.base.tbls⟩,⟨_,hn',fun j y v' e1 e2 e3=>?_⟩,fun y c e=>?_,I.free,I.freeC,fun p hp=>?_,tracked ⟨oL,hoL,I.free⟩ hs,by simpa using I.len⟩ ⟨_,hs,.inl rfl⟩
    · exact (hs.2 b (Nat.ne_of_lt (Nat.lt_of_lt_of_le (Heap.lt_size e) I.ok.above))).trans (I.base.keep b o e n hb hx)
    · obtain ⟨sl,e1⟩:=I.base.slot b o e n hb hx
      exact ⟨sl,(hs.2 b (Nat.ne_of_lt (Nat.lt_of_lt_of_le (Heap.lt_size e) I.ok.above))).trans e1⟩
    · obtain ⟨o',e1⟩:=I.base.there b o e hx
      exact ⟨o',(hs.2 b (Nat.ne_of_lt (Nat.lt_of_lt_of_le (Heap.lt_size e) I.ok.above))).trans e1⟩
    · by_cases hj : j=i
      · subst hj
        rw [hi] at e1; cases e1
        rw [List.getElem?_set_self hiσ] at e2
        cases e2
        exact ⟨u,r,.inl ⟨hk,by simp⟩⟩
      · rw [List.getElem?_set_ne (Ne.symm hj)] at e2
        obtain ⟨u',r',q⟩:=hl j y v' e1 e2 e3
        refine ⟨u',r',?_⟩
        rcases q with ⟨k,e⟩ | ⟨k,c,e,z⟩
        · refine .inl ⟨k,?_⟩
          have : y≠x:=fun e=>hj (z8C hN e1 (e ▸ hi))
          simp [this,e]
        · exact .inr ⟨k,c,e,z.sameBut hs (cne y c e)⟩
    · obtain ⟨w',z⟩:=I.cell y c e
      exact ⟨w',z.sameBut hs (cne y c e)⟩
    · obtain ⟨e,n,ne,nf,d⟩:=I.pin p hp
      exact ⟨(hs.2 p.1 ne).trans e,n,ne,nf,d⟩
  · have hfn : X.fn x=true:=by
      rcases hf with z | z
      · exact z
      · rw [z] at hk; cases hk
    obtain ⟨c,hc⟩:=I.ok.has x (.inl hk)
    obtain ⟨w',z⟩:=I.cell x c hc
    refine wpAny_storeName_cell I.ok.kind hk hc z (fun h' hc' hs=>?_)
    obtain ⟨oc,hoc,hocd⟩:=id z
    refine h { s with heap:=h' } ⟨I.ok,I.os,I.bare,⟨fun b o e n hb hx=>?_,fun b o e n hb hx=>?_,I.base.free,fun b o e hx=>?_,I.base.tups,I.base.frzs,I.base.tbls⟩,⟨m,hn.sameBut hs (Ne.symm (cne x c hc)),fun j y v' e1 e2 e3=>?_⟩,fun y c' e=>?_,I.free,I.freeC,fun p hp=>?_,tracked ⟨oc,hoc,I.freeC x c hc⟩ hs,by simpa using I.len⟩ ⟨c,hs,.inr hc⟩
    · exact (hs.2 b (Nat.ne_of_lt (Nat.lt_of_lt_of_le (Heap.lt_size e) (I.ok.cab x c hfn hc)))).trans (I.base.keep b o e n hb hx)
    · obtain ⟨sl,e1⟩:=I.base.slot b o e n hb hx
      exact ⟨sl,(hs.2 b (Nat.ne_of_lt (Nat.lt_of_lt_of_le (Heap.lt_size e) (I.ok.cab x c hfn hc)))).trans e1⟩
    · obtain ⟨o',e1⟩:=I.base.there b o e hx
      exact ⟨o',(hs.2 b (Nat.ne_of_lt (Nat.lt_of_lt_of_le (Heap.lt_size e) (I.ok.cab x c hfn hc)))).trans e1⟩
    · by_cases hj : j=i
      · subst hj
        rw [hi] at e1; cases e1
        rw [List.getElem?_set_self hiσ] at e2
        cases e2
        exact ⟨u,r,.inr ⟨.inl hk,c,hc,hc'⟩⟩
      · rw [List.getElem?_set_ne (Ne.symm hj)] at e2
        obtain ⟨u',r',q⟩:=hl j y v' e1 e2 e3
        refine ⟨u',r',?_⟩
        rcases q with q | ⟨k,c',e,z'⟩
        · exact .inl q
        · refine .inr ⟨k,c',e,z'.sameBut hs ?_⟩
          rintro rfl
          exact hj (z8C hN e1 (I.ok.inj _ _ _ e hc ▸ hi))
    · by_cases hcc : c'=c
      · subst hcc; exact ⟨_,hc'⟩
      · obtain ⟨w2,z2⟩:=I.cell y c' e
        exact ⟨w2,z2.sameBut hs hcc⟩
    · obtain ⟨e,n,ne,nf,d⟩:=I.pin p hp
      refine ⟨(hs.2 p.1 ?_).trans e,n,ne,nf,d⟩
      intro q
      rw [q,hoc] at e
      have q' : oc=p.2:=Option.some.inj e
      exact d w' (by rw [← q']; exact hocd)
theorem z9i {M : Model} {A : Around} {E : Value->Shared->Prop} {i : Nat} {x : Str} {v : V} {u : Value} {Q : Unit->Shared->Prop} (I : Inv X pins σ H s) (hN : X.N.Nodup) (hi : X.N[i]? = some x) (hx : Loc X.env.scope x) (r : RelV v u)
    (h : ∀ s',Inv X pins (σ.set i (some v)) H s'->Q () s') (hf : X.fn x=true∨X.env.scope.names.lookup x=some .local:=by first | exact .inl rfl | exact .inr rfl | assumption) : wpAny M A (storeName X.env x u) Q E s:=
  y1M I hN hi hx r (fun s' I' _=>h s' I') hf
theorem Inv.call' {s' : Shared} {ch : List Addr} (I : Inv X pins σ H s) (ho : s'.os=s.os) (u : Un (frs X.stack) ch H H' s.heap s'.heap) (hok : HOk X.prog X.w H' s'.heap) (hg : AllBare s'.gens)
    (hch : ∀ b∈ch,(b∈X.ex∨X.s₀.heap.objs.size≤b)∧b≠X.env.locals∧(∀ x c,X.env.cells.lookup x=some c->c≠b)∧∀ p∈X.pn ++ pins,p.1≠b) : Inv X pins σ H' s':=by
  obtain ⟨h',g',d',t',o'⟩:=s'
  have e : o'=s.os:=ho
  subst e
  exact I.call (g':=g') (t':=t') (d':=d') u hok hg hch
end
noncomputable abbrev XK:=Value->Option Addr->Hp->Prop
noncomputable abbrev St:=List (Option V)
noncomputable abbrev VK:=V->Hp->Prop
noncomputable abbrev TE:=St->Hp->VK->Prop
noncomputable abbrev TT:=St->Hp->(Bool->Hp->Prop)->Prop
noncomputable abbrev TA:=St->Hp->(List V->Hp->Prop)->Prop
structure Ends where
  nx : St->Hp->Prop
  rt : VK
  bk : St->Hp->Prop:=fun _ _=>False
  ct : St->Hp->Prop:=fun _ _=>False
noncomputable abbrev TS:=Ends->St->Hp->Prop
noncomputable def EP (X : Cx) (pins : List (Addr × Obj)) (σ : St) (Q : VK) (u : Value) (s' : Shared) : Prop:=∃ v H',Inv X pins σ H' s'∧RelV v u∧Q v H'
noncomputable def TP (X : Cx) (pins : List (Addr × Obj)) (σ : St) (Q : Bool->Hp->Prop) (b : Bool) (s' : Shared) : Prop:=∃ H',Inv X pins σ H' s'∧Q b H'
noncomputable def AP (X : Cx) (pins : List (Addr × Obj)) (σ : St) (Q : List V->Hp->Prop) (us : List Value) (s' : Shared) : Prop:=∃ vs H',Inv X pins σ H' s'∧Vals vs us∧Q vs H'
noncomputable def SP (X : Cx) (pins : List (Addr × Obj)) (D : Ends) (f : Flow) (s' : Shared) : Prop:=
  match f with
  | .next=>∃ σ' H',Inv X pins σ' H' s'∧D.nx σ' H'
  | .brk=>∃ σ' H',Inv X pins σ' H' s'∧D.bk σ' H'
  | .cont=>∃ σ' H',Inv X pins σ' H' s'∧D.ct σ' H'
  | .ret u=>∃ v σ' H',Inv X pins σ' H' s'∧RelV v u∧D.rt v H'
noncomputable def PE (X : Cx) (e : Expr) (t : TE) : Prop:=
  ∀ (pins : List (Addr × Obj)) (s : Shared) (σ : St) (H : Hp) (Q : VK),Inv X pins σ H s->t σ H Q->wpAny (model X.prog X.w) X.A (eval e X.env) (EP X pins σ Q) X.xe s
noncomputable def PT (X : Cx) (e : Expr) (t : TT) : Prop:=
  ∀ (pins : List (Addr × Obj)) (s : Shared) (σ : St) (H : Hp) (Q : Bool->Hp->Prop),Inv X pins σ H s->t σ H Q->wpAny (model X.prog X.w) X.A (isTrue e X.env (eval e X.env)) (TP X pins σ Q) X.xe s
noncomputable def PW (X : Cx) (e : Expr) (t : TT) : Prop:=
  ∀ (whole : Sem Value) (pins : List (Addr × Obj)) (s : Shared) (σ : St) (H : Hp) (Q : Bool->Hp->Prop),Inv X pins σ H s->t σ H Q->wpAny (model X.prog X.w) X.A (isTrue e X.env whole) (TP X pins σ Q) X.xe s
theorem PW.pt {X : Cx} {e : Expr} {t : TT} (h : PW X e t) : PT X e t:=h _
noncomputable def PA (X : Cx) (es : List Expr) (t : TA) : Prop:=
  ∀ (pos : Pos) (pins : List (Addr × Obj)) (s : Shared) (σ : St) (H : Hp) (Q : List V->Hp->Prop),Inv X pins σ H s->t σ H Q->wpAny (model X.prog X.w) X.A (spliced (backTo pos (starEach es X.env))) (AP X pins σ Q) X.xe s
noncomputable def PS (X : Cx) (st : Stmt) (t : TS) : Prop:=
  ∀ (pins : List (Addr × Obj)) (s : Shared) (σ : St) (H : Hp) (D : Ends),Inv X pins σ H s->t D σ H->wpAny (model X.prog X.w) X.A (exec st X.env) (SP X pins D) X.xe s
noncomputable def PSs (X : Cx) (st : List Stmt) (t : TS) : Prop:=
  ∀ (pins : List (Addr × Obj)) (s : Shared) (σ : St) (H : Hp) (D : Ends),Inv X pins σ H s->t D σ H->wpAny (model X.prog X.w) X.A (execs st X.env) (SP X pins D) X.xe s
theorem thn {α : Type} {t : Sem α} {Q Q' : α->Shared->Prop} {M : Model} {A : Around} {E : Value->Shared->Prop} {s : Shared} (h : wpAny M A t Q E s) (hQ : ∀ a s,Q a s->Q' a s) : wpAny M A t Q' E s:=wpAny_mono h hQ fun _ _ x=>x
end L2
namespace L2
open PySem PySem.Spec PyProof.Rows
section
variable {X : Cx}
noncomputable def z3s (i : Nat) : TE:=fun σ H Q=>∃ v,σ[i]? = some (some v)∧Q v H
noncomputable def tC (v : V) : TE:=fun _ H Q=>Q v H
theorem pe_var {i : Nat} {x : Str} {pos : Pos} (hN : X.N[i]? = some x) (hv : Vis X.env.scope x) (hd : (x == ("__debug__" : Str))=false:=by decide) (hcd : (x == ("__classdict__" : Str))=false:=by decide) : PE X (.Name x pos) (z3s i):=by
  intro pins s σ H Q I h
  obtain ⟨v,e,h⟩:=h
  obtain ⟨m,hn,hl⟩:=I.loc
  obtain ⟨u,r,l⟩:=hl i x v hN e hv
  have fin : EP X pins σ Q u s:=⟨v,H,I,r,h⟩
  rcases l with ⟨hk,hm⟩ | ⟨hk,c,hc,hcell⟩
  · exact wpAny_Name (wpAny_loadName_local I.ok.kind hk hn hm fin) hd
  · rcases hk with hk | hk
    · exact wpAny_Name (wpAny_loadName_cell I.ok.kind hk hc hcell fin) hd
    · exact wpAny_Name (wpAny_loadName_free I.ok.kind hk hc hcell fin hcd) hd
theorem y4a {i j pos} : PE X (.Constant (.int i) j pos) (tC (.int i)):=fun _ _ _ H _ I h=>wpAny_Constant_int ⟨.int i,H,I.tok _,⟨_,rfl⟩,h⟩
theorem pe_bl {b j pos} : PE X (.Constant (.bool b) j pos) (tC (.bl b)):=fun _ _ _ H _ I h=>Constant_bool ⟨.bl b,H,I,rfl,h⟩
theorem pe_non {j pos} : PE X (.Constant .none j pos) (tC .non):=fun _ _ _ H _ I h=>Constant_none ⟨.non,H,I,rfl,h⟩
theorem pe_str {x j pos} : PE X (.Constant (.str x) j pos) (tC (.str x)):=fun _ _ _ H _ I h=>Calls.Constant_str ⟨.str x,H,I.tok _,⟨_,rfl⟩,h⟩
noncomputable def Gl (X : Cx) (x : Str) : Prop:=X.env.kindOf x=some .globalImplicit
theorem z4c {E : Value->Shared->Prop} {pins : List (Addr × Obj)} {s : Shared} {σ : St} {H : Hp} {x : Str} {u : Value} {pos : Pos} {Q : Value->Shared->Prop} (I : Inv X pins σ H s) (hg : Gl X x) (hm : X.mg x=some u) (h : Q u s)
    (hd : (x == ("__debug__" : Str))=false:=by decide) : wpAny (model X.prog X.w) X.A (eval (.Name x pos) X.env) Q E s:=
  Calls.Name_function_global I.ok.kind hg (Calls.loadGlobal_global (by rw [I.ok.glob]; exact I.mod.glob.keeps I.bk) hm h) hd
theorem z7d {E : Value->Shared->Prop} {pins : List (Addr × Obj)} {s : Shared} {σ : St} {H : Hp} {x : Str} {u : Value} {pos : Pos} {Q : Value->Shared->Prop} (I : Inv X pins σ H s) (hg : Gl X x) (hm : X.mg x=none) (hv : bootBuiltins x=some u) (h : Q u s)
    (hn : x ≠ "__name__" := by decide) (hd : (x == ("__debug__" : Str))=false:=by decide) : wpAny (model X.prog X.w) X.A (eval (.Name x pos) X.env) Q E s:=by
  obtain ⟨mb,h1,h2⟩:=I.mod.blt
  exact Calls.Name_function_global I.ok.kind hg (Calls.loadGlobal_builtin (by rw [I.ok.glob]; exact I.mod.glob.keeps I.bk) hm (by rw [I.ok.blt]; exact h1.keeps I.bk) ((h2 x hn).trans hv) h) hd
theorem pe_glob {x : Str} {v : V} {u : Value} {pos : Pos} (hg : Gl X x) (hm : X.mg x=some u) (r : RelV v u) (hd : (x == ("__debug__" : Str))=false:=by decide) : PE X (.Name x pos) (tC v):=
  fun _ _ _ H _ I h=>z4c I hg hm ⟨v,H,I,r,h⟩ hd
theorem pe_bltn {x : Str} {v : V} {u : Value} {pos : Pos} (hg : Gl X x) (hm : X.mg x=none) (hv : bootBuiltins x=some u) (r : RelV v u) (hn : x ≠ "__name__" := by decide) (hd : (x == ("__debug__" : Str))=false:=by decide) : PE X (.Name x pos) (tC v):=
  fun _ _ _ H _ I h=>z7d I hg hm hv ⟨v,H,I,r,h⟩ hn hd
variable {a b : Expr} {ta tb : TE} {pos : Pos}
noncomputable def PC (X : Cx) (op : CmpOp) (a b : Expr) (t : TE) : Prop:=
  ∀ (pins : List (Addr × Obj)) (s : Shared) (σ : St) (H : Hp) (Q : VK),Inv X pins σ H s->t σ H Q →
    wpAny (model X.prog X.w) X.A (eval a X.env) (fun v s₁=>wpAny (model X.prog X.w) X.A (eval b X.env) (fun u s₂=>wpAny (model X.prog X.w) X.A (compareOp op v u) (EP X pins σ Q) X.xe s₂) X.xe s₁) X.xe s
theorem y3b (b : Expr) {op : CmpOp} (h : op≠.In) (h2 : op≠.NotIn) : behindInMarks op b=false:=by
  have e1 : (op == CmpOp.In)=false:=by cases op <;> first | rfl | exact absurd rfl h
  have e2 : (op == CmpOp.NotIn)=false:=by cases op <;> first | rfl | exact absurd rfl h2
  cases b <;> simp [behindInMarks,e1,e2]
noncomputable def tIsN (ta : TE) : TE:=fun σ H Q=>ta σ H fun x H1=>Q (.bl (decide (x = .non))) H1
noncomputable def tNotN (ta : TE) : TE:=fun σ H Q=>ta σ H fun x H1=>Q (.bl (!decide (x = .non))) H1
theorem RelV.none_iff {x : V} {v : Value} (r : RelV x v) : (v == Value.none)=decide (x = .non):=by
  cases x with
  | non=>cases r; rfl
  | bl _=>cases r; rfl
  | int _=>obtain ⟨t,rfl⟩:=r; rfl
  | str _=>obtain ⟨t,rfl⟩:=r; rfl
  | byt _=>obtain ⟨t,rfl⟩:=r; rfl
  | flt _=>obtain ⟨t,rfl⟩:=r; rfl
  | ref _=>cases r; rfl
  | ty _=>cases r; rfl
theorem pc_isN {j pos'} (ha : PE X a ta) : PC X .Is a (.Constant .none j pos') (tIsN ta):=by
  intro pins s σ H Q I h
  refine thn (ha pins s σ H _ I h) fun v s1 ⟨x,H1,I1,r1,q1⟩=>?_
  exact Constant_none (is_none_gen ⟨.bl _,H1,I1,by rw [r1.none_iff]; rfl,q1⟩)
theorem pc_notN {j pos'} (ha : PE X a ta) : PC X .IsNot a (.Constant .none j pos') (tNotN ta):=by
  intro pins s σ H Q I h
  refine thn (ha pins s σ H _ I h) fun v s1 ⟨x,H1,I1,r1,q1⟩=>?_
  exact Constant_none (isnot_none_gen ⟨.bl _,H1,I1,by rw [r1.none_iff]; rfl,q1⟩)
noncomputable def tB (t : TE) : TT:=fun σ H Q=>t σ H fun x H1=>∃ c,x = .bl c∧Q c H1
theorem y0m {op : CmpOp} {t : TE} (h : PC X op a b t) (h1 : behindInMarks op b=false:=by first | exact y3b _ (by decide) (by decide) | rfl) : PT X (.Compare a [op] [b] pos) (tB t):=by
  intro pins s σ H Q I hw
  refine wpAny_isTrue_Compare1 (thn (h pins s σ H _ I hw) fun v s1 h1=>thn h1 fun u s2 h2=>thn h2 fun c s3 ⟨x,H1,I1,r1,q1⟩=>?_) h1
  obtain ⟨d,rfl,q⟩:=q1
  cases r1
  exact wpAny_truthy_bool ⟨H1,I1,q⟩
theorem y3K {e : Expr} {t : TE} (h : PE X e t) (he : ∀ whole,isTrue e X.env whole=(do let v ← whole; standAt e.pos; holding [v] (truthy v)):=by intro _; rfl) : PT X e (tB t):=by
  intro pins s σ H Q I hw
  refine isTrue_plain (thn (h pins s σ H _ I hw) fun v s1 ⟨x,H1,I1,r1,q1⟩=>?_) (he _)
  obtain ⟨d,rfl,q⟩:=q1
  cases r1
  exact wpAny_truthy_bool ⟨H1,I1,q⟩
variable {tA tB' : TT} {rest : List Expr}
noncomputable def tOr (t u : TT) : TT:=fun σ H Q=>t σ H fun c H1=>if c=true then Q true H1 else u σ H1 Q
noncomputable def tNot (t : TT) : TT:=fun σ H Q=>t σ H fun c H1=>Q (!c) H1
theorem y3S (ha : PT X a tA) : PW X (.BoolOp .Or [a] pos) tA:=by
  intro wh pins s σ H Q I h
  refine isTrue_or (thn (ha pins s σ H Q I h) fun c s1 e=>?_)
  cases c with
  | false=>exact isTrue_or_nil e
  | true=>exact e
theorem pw_or (ha : PT X a tA) (hb : PW X (.BoolOp .Or (b :: rest) pos) tB') : PW X (.BoolOp .Or (a :: b :: rest) pos) (tOr tA tB'):=by
  intro wh pins s σ H Q I h
  refine isTrue_or (thn (ha pins s σ H _ I h) fun c s1 ⟨H1,I1,q1⟩=>?_)
  cases c with
  | true=>exact ⟨H1,I1,q1⟩
  | false=>exact hb wh pins s1 σ H1 Q I1 q1
theorem y4g (ha : PT X a tA) : PT X (.UnaryOp .Not a pos) (tNot tA):=by
  intro pins s σ H Q I h
  exact isTrue_not (ha pins s σ H (fun c H1=>Q (!c) H1) I h)
noncomputable def tAndV (ta tb : TE) : TE:=fun σ H Q=>ta σ H fun x H1=>∃ c,x = .bl c∧if c=true then tb σ H1 Q else Q (.bl false) H1
noncomputable def tNotV (ta : TE) : TE:=fun σ H Q=>ta σ H fun x H1=>∃ c,x = .bl c∧Q (.bl (!c)) H1
theorem pe_one {op} {t : TE} (h : PE X a t) : PE X (.BoolOp op [a] pos) t:=fun pins s σ H Q I hw=>BoolOp_one (h pins s σ H Q I hw)
theorem pe_and (ha : PE X a ta) (hb : PE X (.BoolOp .And (b :: rest) pos) tb) : PE X (.BoolOp .And (a :: b :: rest) pos) (tAndV ta tb):=by
  intro pins s σ H Q I h
  refine BoolOp_and (thn (ha pins s σ H _ I h) fun v s1 ⟨x,H1,I1,r1,q1⟩=>?_)
  obtain ⟨c,rfl,q1⟩:=q1
  cases r1
  refine wpAny_truthy_bool ?_
  cases c with
  | true=>exact hb pins s1 σ H1 Q I1 q1
  | false=>exact ⟨.bl false,H1,I1,rfl,q1⟩
theorem pe_not (ha : PE X a ta) : PE X (.UnaryOp .Not a pos) (tNotV ta):=by
  intro pins s σ H Q I h
  refine UnaryOp_ (thn (ha pins s σ H _ I h) fun v s1 ⟨x,H1,I1,r1,q1⟩=>?_)
  obtain ⟨c,rfl,q1⟩:=q1
  cases r1
  exact not_of (wpAny_truthy_bool ⟨.bl (!c),H1,I1,rfl,q1⟩)
end
end L2
namespace L2
open PySem PySem.Spec PyProof.Rows
noncomputable def SqL (K : PySem.W.Frag) (H : Hp) (a : Addr) (xs : List V) : Prop:=
  Rd H a (.lst xs) ∨
    ∃ (o : Obj) (its : Array Value) (n : Nat),K.lookup a=some o∧o.cls = .type "list" ∧ o.dict=none∧o.data = .seq its n∧its.size≤sizeLine∧Vals xs its.toList
noncomputable def SqT (K : PySem.W.Frag) (H : Hp) (a : Addr) (xs : List V) : Prop:=
  Rd H a (.tup xs) ∨
    ∃ (o : Obj) (its : Array Value) (n : Nat),K.lookup a=some o∧(o.cls = .type "tuple" ∧ o.dict=none)∧o.data = .seq its n∧its.size≤sizeLine∧Vals xs its.toList
noncomputable def absV : Value->Option V
  | .none=>some .non
  | .bool b=>some (.bl b)
  | .int i _=>some (.int i)
  | .str x _=>some (.str x)
  | .bytes b _=>some (.byt b)
  | .float b _=>some (.flt b)
  | .ref a=>some (.ref a)
  | .type n=>some (.ty n)
  | _=>none
theorem RelV.abs {x : V} {u : Value} (r : RelV x u) : absV u=some x:=by
  cases x with
  | non=>cases r; rfl
  | bl _=>cases r; rfl
  | int _=>obtain ⟨t,rfl⟩:=r; rfl
  | str _=>obtain ⟨t,rfl⟩:=r; rfl
  | byt _=>obtain ⟨t,rfl⟩:=r; rfl
  | flt _=>obtain ⟨t,rfl⟩:=r; rfl
  | ref _=>cases r; rfl
  | ty _=>cases r; rfl
theorem RelV.inj {x y : V} {u : Value} (r : RelV x u) (q : RelV y u) : x=y:=Option.some.inj (r.abs.symm.trans q.abs)
theorem Vals.inj : ∀ {xs ys : List V} {us : List Value},Vals xs us->Vals ys us->xs=ys
  | _,_,_,.nil,.nil=>rfl
  | _,_,_,.cons r t,.cons r' t'=>by rw [r.inj r',Vals.inj t t']
section
variable {X : Cx} {pins : List (Addr × Obj)} {σ : St} {H : Hp} {s : Shared} {a : Addr} {xs ys : List V}
theorem SqL.of {K : PySem.W.Frag} (h : H a=some (.lst xs)) : SqL K H a xs:=.inl (.inl h)
theorem SqT.of {K : PySem.W.Frag} (h : H a=some (.tup xs)) : SqT K H a xs:=.inl (.inl h)
theorem Inv.list (I : Inv X pins σ H s) (h : SqL X.K H a xs) : ∃ its : List Value,Vals xs its∧PlainL s.heap a its.toArray∧xs.length≤sizeLine:=by
  rcases h with h | ⟨o,its,n,hk,hc,hd,hs,hz,r⟩
  · obtain ⟨z,its,n,r,e⟩:=h.ok I.hok
    exact ⟨its,r,⟨_,n,e,rfl,rfl,rfl⟩,z⟩
  · refine ⟨its.toList,r,⟨o,n,I.kIn a o hk,hc,hd,by simpa using hs⟩,?_⟩
    have e:=r.length
    simp only [Array.length_toList] at e
    omega
theorem Inv.tuple (I : Inv X pins σ H s) (h : SqT X.K H a xs) : ∃ its : List Value,Vals xs its∧IsTup s.heap a its.toArray∧xs.length≤sizeLine:=by
  rcases h with h | ⟨o,its,n,hk,hc,hs,hz,r⟩
  · obtain ⟨z,its,r,p⟩:=h.ok I.hok
    exact ⟨its,r,p.is,z⟩
  · refine ⟨its.toList,r,⟨o,I.kIn a o hk,hc.1,n,by simpa using hs⟩,?_⟩
    have e:=r.length
    simp only [Array.length_toList] at e
    omega
theorem Inv.list_inj (I : Inv X pins σ H s) (h : SqL X.K H a xs) (h' : SqL X.K H a ys) : xs=ys:=by
  obtain ⟨its,r,⟨o,n,e,_,_,d⟩,_⟩:=I.list h
  obtain ⟨its',r',⟨o',n',e',_,_,d'⟩,_⟩:=I.list h'
  rw [e] at e'; cases e'
  rw [d] at d'
  injection d' with d1 _
  have : its=its':=by simpa using congrArg Array.toList d1
  subst this
  exact r.inj r'
theorem Inv.tuple_inj (I : Inv X pins σ H s) (h : SqT X.K H a xs) (h' : SqT X.K H a ys) : xs=ys:=by
  obtain ⟨its,r,⟨o,e,_,n,d⟩,_⟩:=I.tuple h
  obtain ⟨its',r',⟨o',e',_,n',d'⟩,_⟩:=I.tuple h'
  rw [e] at e'; cases e'
  rw [d] at d'
  injection d' with d1 _
  have : its=its':=by simpa using congrArg Array.toList d1
  subst this
  exact r.inj r'
end
noncomputable abbrev Cx.wish (X : Cx) (E : Value->Shared->Prop) : Cx:={ X with xe:=E }
noncomputable abbrev Cx.nox (X : Cx) : Cx:=X.wish fun _ _=>False
theorem Cx.Ok.wish {X : Cx} (ok : X.Ok) (E : Value->Shared->Prop) : (X.wish E).Ok:=
  ⟨ok.mod,ok.kind,ok.glob,ok.blt,ok.above,ok.inj,ok.has,ok.cab,ok.hd,ok.frames,ok.stk,ok.exf,ok.bs,ok.bsz,ok.noex,ok.exfs,ok.funs,ok.frf⟩
theorem Cx.Ok.unwish {X : Cx} {E : Value->Shared->Prop} (ok : (X.wish E).Ok) : X.Ok:=
  ⟨ok.mod,ok.kind,ok.glob,ok.blt,ok.above,ok.inj,ok.has,ok.cab,ok.hd,ok.frames,ok.stk,ok.exf,ok.bs,ok.bsz,ok.noex,ok.exfs,ok.funs,ok.frf⟩
section
variable {X : Cx} {pins : List (Addr × Obj)} {σ : St} {H : Hp} {s : Shared} {E : Value->Shared->Prop}
theorem Inv.wish (I : Inv X pins σ H s) (E : Value->Shared->Prop) : Inv (X.wish E) pins σ H s:=⟨I.ok.wish E,I.os,I.bare,I.base,I.loc,I.cell,I.free,I.freeC,I.pin,I.hok,I.len⟩
theorem Inv.unwish (I : Inv (X.wish E) pins σ H s) : Inv X pins σ H s:=⟨I.ok.unwish,I.os,I.bare,I.base,I.loc,I.cell,I.free,I.freeC,I.pin,I.hok,I.len⟩
theorem SP.unwish {D : Ends} {f : Flow} {s' : Shared} (h : SP (X.wish E) pins D f s') : SP X pins D f s':=by
  cases f with
  | next=>obtain ⟨σ',H',I,q⟩:=h; exact ⟨σ',H',I.unwish,q⟩
  | brk=>obtain ⟨σ',H',I,q⟩:=h; exact ⟨σ',H',I.unwish,q⟩
  | cont=>obtain ⟨σ',H',I,q⟩:=h; exact ⟨σ',H',I.unwish,q⟩
  | ret u=>obtain ⟨v,σ',H',I,r,q⟩:=h; exact ⟨v,σ',H',I.unwish,r,q⟩
theorem PSs.nox {st : List Stmt} {t : TS} (h : PSs X.nox st t) : PSs X st t:=fun pins s σ H D I hw=>
  wpAny_mono (h pins s σ H D (I.wish _) hw) (fun _ _ q=>q.unwish) fun _ _ z=>False.elim z
end
section
variable {X : Cx} {st : Stmt} {rest : List Stmt} {t u : TS} {e : Expr} {te : TE} {pos : Pos}
noncomputable def tNext : TS:=fun D σ H=>D.nx σ H
noncomputable def tSeq (t u : TS) : TS:=fun D σ H=>t { D with nx:=u D } σ H
theorem pss_nil : PSs X [] tNext:=fun _ _ σ H _ I h=>wpAny_execs_nil ⟨σ,H,I,h⟩
theorem z3k (h1 : PS X st t) (h2 : PSs X rest u) : PSs X (st :: rest) (tSeq t u):=by
  intro pins s σ H D I h
  refine wpAny_execs_cons (thn (h1 pins s σ H { D with nx:=u D } I h) fun f s1 q=>?_)
  cases f with
  | next=>
    obtain ⟨σ',H',I',q⟩:=q
    exact h2 pins s1 σ' H' D I' q
  | ret v=>exact q
  | brk=>exact q
  | cont=>exact q
theorem z8a (h1 : PS X st t) : PSs X [st] t:=by
  intro pins s σ H D I h
  refine wpAny_execs_cons (thn (h1 pins s σ H D I h) fun f s1 q=>?_)
  cases f with
  | next=>exact wpAny_execs_nil q
  | ret v=>exact q
  | brk=>exact q
  | cont=>exact q
theorem Inv.quiet {pins : List (Addr × Obj)} {σ : St} {H : Hp} {s : Shared} (I : Inv X pins σ H s) : interactive X.env=false:=by simp [interactive,I.ok.kind]
noncomputable def tDrop (te : TE) : TS:=fun D σ H=>te σ H fun _ H1=>D.nx σ H1
theorem z4n (he : PE X e te) (hs : swapsWith e none pos.line X.env=pure false:=by rfl) : PS X (.Expr e pos) (tDrop te):=by
  intro pins s σ H D I h
  exact wpAny_Expr_any (thn (he pins s σ H _ I h) fun v s1 ⟨x,H1,I1,r1,q1⟩=>⟨σ,H1,I1,q1⟩) I.quiet hs
noncomputable def tRet (te : TE) : TS:=fun D σ H=>te σ H D.rt
theorem y1b (he : PE X e te) : PS X (.Return (some e) pos) (tRet te):=by
  intro pins s σ H D I h
  exact wpAny_Return_some (thn (he pins s σ H _ I h) fun v s1 ⟨x,H1,I1,r1,q1⟩=>⟨x,σ,H1,I1,r1,q1⟩)
noncomputable def tIfS (c : TT) (t u : TS) : TS:=fun D σ H=>c σ H fun b H1=>if b=true then t D σ H1 else u D σ H1
theorem ps_if {c : Expr} {a b : List Stmt} {tc : TT} (hc : PT X c tc) (ha : PSs X a t) (hb : PSs X b u) : PS X (.If c a b pos) (tIfS tc t u):=by
  intro pins s σ H D I h
  refine wpAny_If (thn (hc pins s σ H _ I h) fun d s1 ⟨H1,I1,q1⟩=>?_)
  cases d with
  | true=>exact ha pins s1 σ H1 D I1 q1
  | false=>exact hb pins s1 σ H1 D I1 q1
end
noncomputable abbrev TG:=V->St->Hp->(St->Hp->Prop)->Prop
noncomputable def PG (X : Cx) (target : Expr) (t : TG) : Prop:=
  ∀ (pins : List (Addr × Obj)) (s : Shared) (σ : St) (H : Hp) (v : V) (u : Value) (Q : St->Hp->Prop),Inv X pins σ H s->RelV v u->t v σ H Q →
    wpAny (model X.prog X.w) X.A (assign target X.env u) (fun _ s'=>∃ σ' H',Inv X pins σ' H' s'∧Q σ' H') X.xe s
noncomputable abbrev TSet:=V->V->V->Hp->(Hp->Prop)->Prop
noncomputable def PSet (X : Cx) (t : TSet) : Prop:=
  ∀ (pins : List (Addr × Obj)) (s : Shared) (σ : St) (H : Hp) (o i v : V) (ov iv u : Value) (Q : Hp->Prop),Inv X pins σ H s->RelV o ov->RelV i iv->RelV v u->t o i v H Q →
    wpAny (model X.prog X.w) X.A (setItem ov iv u) (fun _ s'=>∃ H',Inv X pins σ H' s'∧Q H') X.xe s
section
variable {X : Cx} {pos : Pos}
noncomputable def z8g (i : Nat) : TG:=fun v σ H Q=>Q (σ.set i (some v)) H
theorem z4m {i : Nat} {x : Str} (hN : X.N.Nodup) (hi : X.N[i]? = some x) (hx : Loc X.env.scope x) (hf : X.fn x=true∨X.env.scope.names.lookup x=some .local:=by first | exact .inl rfl | exact .inr rfl | assumption) : PG X (.Name x pos) (z8g i):=by
  intro pins s σ H v u Q I r h
  exact wpAny_assign_Name (z9i I hN hi hx r (fun s' I'=>⟨_,H,I',h⟩) hf)
noncomputable def gSub (to ti : TE) (t : TSet) : TG:=fun v σ H Q=>to σ H fun o H1=>ti σ H1 fun i H2=>t o i v H2 fun H3=>Q σ H3
theorem pg_sub {o i : Expr} {to ti : TE} {t : TSet} (ho : PE X o to) (hi : PE X i ti) (hs : PSet X t)
    (ha : ∀ v,assign (.Subscript o i pos) X.env v=(do
      let ov ← holding [v] (eval o X.env)
      let iv ← holding [v,ov] (eval i X.env)
      standAt pos
      holding [v,ov,iv] (setItem ov iv v)
      release [v,ov,iv] []):=by intro _; rfl) : PG X (.Subscript o i pos) (gSub to ti t):=by
  intro pins s σ H v u Q I r h
  rw [ha]
  refine wpAny_bind (wpAny_holding (thn (ho pins s σ H _ I h) fun ov s1 ⟨x,H1,I1,r1,q1⟩=>?_))
  refine wpAny_bind (wpAny_holding (thn (hi pins s1 σ H1 _ I1 q1) fun iv s2 ⟨y,H2,I2,r2,q2⟩=>?_))
  refine wpAny_bind (wpAny_standAt (wpAny_bind (wpAny_holding (thn (hs pins s2 σ H2 x y v ov iv u _ I2 r1 r2 r q2) fun _ s3 ⟨H3,I3,q3⟩=>?_))))
  exact wpAny_release ⟨σ,H3,I3,q3⟩
noncomputable def tAsg (te : TE) (g : TG) : TS:=fun D σ H=>te σ H fun x H1=>g x σ H1 D.nx
theorem ps_asg {tg e : Expr} {te : TE} {g : TG} (he : PE X e te) (hg : PG X tg g) (hs : swapsWithSole [tg] e pos.line X.env=pure false:=by rfl) (hw : swappedStores [tg] e X.env=pure none:=by rfl)
    (h1 : (assignEach [tg] X.env).map (·.2)=[assign tg X.env]:=by rfl) : PS X (.Assign [tg] e pos) (tAsg te g):=by
  intro pins s σ H D I h
  refine wpAny_Assign_stores (thn (he pins s σ H _ I h) fun v s1 ⟨x,H1,I1,r1,q1⟩=>?_) hs hw
  rw [h1]
  exact thn (hg pins s1 σ H1 x v _ I1 r1 q1) fun _ s2 q=>q
theorem y3U {i : Nat} {x : Str} {e : Expr} {te : TE} {pos' : Pos} (hN : X.N.Nodup) (hi : X.N[i]? = some x) (hx : Loc X.env.scope x) (he : PE X e te) (hs : swapsWith e (some (.Name x pos')) pos.line X.env=pure false:=by rfl) (hf : X.fn x=true∨X.env.scope.names.lookup x=some .local:=by first | exact .inl rfl | exact .inr rfl | assumption) :
    PS X (.Assign [.Name x pos'] e pos) (tAsg te (z8g i)):=by
  intro pins s σ H D I h
  refine wpAny_Assign_Name (thn (he pins s σ H _ I h) fun v s1 ⟨y,H1,I1,r1,q1⟩=>?_) hs
  exact z9i I1 hN hi hx r1 (fun s2 I2=>⟨_,H1,I2,q1⟩) hf
end
section
variable {X : Cx} {pos : Pos}
noncomputable def tWhile (c : TT) (tb : TS) : TS:=fun D σ H=>∃ W : Nat->St->Hp->Prop,(∃ m,W m σ H)∧∀ m σ H,W m σ H →
  c σ H fun b H1=>if b=true then ∃ N : St->Hp->Prop,(∀ σ' H',N σ' H'->∃ m',m' < m∧W m' σ' H')∧tb { D with nx:=N,ct:=N,bk:=D.nx } σ H1 else D.nx σ H1
theorem y2J {c : Expr} {body : List Stmt} {tc : TT} {tb : TS} (hp : PassesOwn (model X.prog X.w) X.A X.env X.xe) (hc : PT X c tc) (hb : PSs X body tb) : PS X (.While c body [] pos) (tWhile tc tb):=by
  intro pins s σ H D I h
  obtain ⟨W,⟨m0,w0⟩,turn⟩:=h
  refine wpAny_While (codeAny_whileLoop (fun n s'=>∃ σ' H',Inv X pins σ' H' s'∧W n σ' H') ?_ m0 ⟨σ,H,I,w0⟩)
  rintro n s1 ⟨σ1,H1,I1,w1⟩
  refine wpAny_passesOwn hp (thn (hc pins s1 σ1 H1 _ I1 (turn n σ1 H1 w1)) fun b s2 ⟨H2,I2,q2⟩=>?_)
  cases b with
  | true=>
    obtain ⟨N,hN,q2⟩:=q2
    rw [if_pos rfl]
    refine wpAny_passesOwn hp (thn (hb pins s2 σ1 H2 _ I2 q2) fun f s3 q3=>?_)
    cases f with
    | next=>
      obtain ⟨σ3,H3,I3,n3⟩:=q3
      obtain ⟨m',hm,w3⟩:=hN σ3 H3 n3
      exact ⟨m',hm,σ3,H3,I3,w3⟩
    | cont=>
      obtain ⟨σ3,H3,I3,n3⟩:=q3
      obtain ⟨m',hm,w3⟩:=hN σ3 H3 n3
      exact ⟨m',hm,σ3,H3,I3,w3⟩
    | brk=>exact q3
    | ret v=>exact q3
  | false=>
    rw [if_neg Bool.false_ne_true]
    exact wpAny_execs_nil ⟨σ1,H2,I2,q2⟩
end
structure It where
  go : Nat->Hp->Prop
  yld : Nat->Hp->V->Hp->Prop
  stop : Nat->Hp->Prop
noncomputable def z9M (X : Cx) (pins : List (Addr × Obj)) (H : Hp) (b : Addr) : Prop:=
  H b=none∧b≠X.env.locals∧b ∉ X.fs∧(b∈X.ex∨X.s₀.heap.objs.size≤b)∧(∀ x c,X.env.cells.lookup x=some c->c≠b)∧∀ p∈X.pn ++ pins,p.1≠b
theorem Inv.fpOk {X : Cx} {pins : List (Addr × Obj)} {σ : St} {H H' : Hp} {s : Shared} {b : Addr} (I : Inv X pins σ H s) (hb : s.heap.objs.size≤b) (hn : H' b=none) : z9M X pins H' b:=by
  refine ⟨hn,Nat.ne_of_gt (Nat.lt_of_lt_of_le I.lt hb),I.nofs hb,.inr (Nat.le_trans I.sz hb),fun x c e z=>?_,fun p hp z=>?_⟩
  · obtain ⟨v,q⟩:=I.cell x c e
    exact absurd (Nat.lt_of_lt_of_le q.lt (by rw [z]; exact hb)) (Nat.lt_irrefl _)
  · exact absurd (Nat.lt_of_lt_of_le (Heap.lt_size (I.pin p hp).1) (by rw [z]; exact hb)) (Nat.lt_irrefl _)
structure Turn (P : Program) (w : World) (K : PySem.W.Frag) (tg : Expr) (J : It) (fp : List Addr) (it : Addr) (tn : Nat->Heap->Prop) : Prop where
  mem : it∈fp
  obj : ∀ i h,tn i h->∀ b∈fp,∃ o,h.get? b=some o∧∀ v,o.data≠.cell v
  keep : ∀ i h h',tn i h->(∀ b∈fp,∀ o,h.get? b=some o->h'.get? b=some o)->tn i h'
  item : ∀ (X : Cx),X.prog=P->X.w=w->X.K=K->X.calm=true->∀ (i : Nat) (pins : List (Addr × Obj)) (s : Shared) (σ : St) (H : Hp) (E : Value->Shared->Prop),Inv X pins σ H s->(∀ b∈fp,z9M X pins H b)->tn i s.heap->J.go i H →
    wpAny (model P w) X.A (pyNext (.ref it)) (fun r s1=>∃ u,r=some u ∧
      wpAny (model P w) X.A (letOwnedTupleGo tg (.ref it) u) (fun _ s2=>∃ x H',Inv X pins σ H' s2∧RelV x u∧J.yld i H x H'∧tn (i + 1) s2.heap∧∀ b∈fp,H' b=none) E s1) E s
  done : ∀ (X : Cx),X.prog=P->X.w=w->X.K=K->X.calm=true->∀ (i : Nat) (pins : List (Addr × Obj)) (s : Shared) (σ : St) (H : Hp) (E : Value->Shared->Prop),Inv X pins σ H s->(∀ b∈fp,z9M X pins H b)->tn i s.heap->J.stop i H →
    wpAny (model P w) X.A (pyNext (.ref it)) (fun r s1=>r=none∧Inv X pins σ H s1) E s
  self : ∀ (A : Around) (i : Nat) (s : Shared) (Q : Value->Shared->Prop) (E : Value->Shared->Prop),tn i s.heap->Q (.ref it) s->wpAny (model P w) A (pyIter (.ref it)) Q E s
noncomputable abbrev TI:=St->Hp->(It->Hp->Prop)->Prop
noncomputable def PIE (X : Cx) (pins : List (Addr × Obj)) (σ : St) (tg : Expr) (R : It->Hp->Prop) (itv : Value) (s2 : Shared) : Prop:=
  ∃ (it : Addr) (fp : List Addr) (tn : Nat->Heap->Prop) (J : It) (H' : Hp),itv = .ref it∧Inv X pins σ H' s2∧Turn X.prog X.w X.K tg J fp it tn∧tn 0 s2.heap∧(∀ b∈fp,z9M X pins H' b)∧R J H'
noncomputable def PI (X : Cx) (tg iter : Expr) (wi : TI) : Prop:=
  ∀ (pins : List (Addr × Obj)) (s : Shared) (σ : St) (H : Hp) (R : It->Hp->Prop),Inv X pins σ H s->wi σ H R →
    wpAny (model X.prog X.w) X.A (eval iter X.env) (fun v s1=>wpAny (model X.prog X.w) X.A (pyIter v) (PIE X pins σ tg R) X.xe s1) X.xe s
theorem go_of {M : Model} {A : Around} {E : Value->Shared->Prop} {s : Shared} {tg : Expr} {it : Addr} {u : Value} {o : Obj} {n : String} {vs : Array Value} {Q : Unit->Shared->Prop} (ho : s.heap.get? it=some o) (hc : o.cls = .type n) (hd : o.data = .fields vs)
    (hn : ["enumerate", "zip", "dict_itemiterator", "dict_reverseitemiterator", "odict_iterator", "itertools.zip_longest", "itertools.pairwise"].contains n=false) (hQ : Q () s) : wpAny M A (letOwnedTupleGo tg (.ref it) u) Q E s:=by
  unfold letOwnedTupleGo
  cases tg <;> first
    | exact wpAny_pure hQ
    | (cases u <;> first
        | exact wpAny_pure hQ
        | (refine wpAny_bind (wpAny_load ho ?_)
           rw [hc,hd]
           show wpAny M A (if (["enumerate", "zip", "dict_itemiterator", "dict_reverseitemiterator", "odict_iterator", "itertools.zip_longest", "itertools.pairwise"].contains n && vs[0]? == some (rawInt _))=true then _ else _) Q E s
           rw [if_neg (by intro h; rw [hn,Bool.false_and] at h; cases h)]
           exact wpAny_pure hQ))
noncomputable def Itl (K : PySem.W.Frag) (a : Addr) : It:=
  ⟨fun i H=>∃ xs x,SqL K H a xs∧xs[i]? = some x,fun i H x H'=>H'=H∧∀ xs,SqL K H a xs->xs[i]? = some x,fun i H=>∃ xs,SqL K H a xs∧xs.length≤i⟩
noncomputable def Itt (K : PySem.W.Frag) (a : Addr) : It:=
  ⟨fun i H=>∃ xs x,SqT K H a xs∧xs[i]? = some x,fun i H x H'=>H'=H∧∀ xs,SqT K H a xs->xs[i]? = some x,fun i H=>∃ xs,SqT K H a xs∧xs.length≤i⟩
noncomputable def Itr (lo : Int) (n : Nat) : It:=⟨fun i _=>i < n,fun i H x H'=>H'=H∧x = .int (lo + i),fun i _=>n≤i⟩
theorem y1I {P : Program} {w : World} {K : PySem.W.Frag} {tg : Expr} (a it : Addr) : Turn P w K tg (Itl K a) [it] it (fun i h=>h.IsListIter it a i) where
  mem:=by simp
  obj:=fun i h st b hb=>by
    have e : b=it:=by simpa using hb
    subst e
    obtain ⟨o,e,c,d⟩:=st
    exact ⟨o,e,fun v z=>by rw [d] at z; cases z⟩
  keep:=fun i h h' st k=>st.at fun o e=>k it (by simp) o e
  item:=by
    intro X hP hw hK hc i pins s σ H E I hf st hg
    subst hP hw hK
    obtain ⟨xs,x,hq,hx⟩:=hg
    obtain ⟨its,rv,p,hz⟩:=I.list hq
    obtain ⟨u,hu,ru⟩:=rv.get hx
    obtain ⟨f0,f1,f2,f3,f4,f5⟩:=hf it (by simp)
    refine wpAny_pyNext_list_item st p.isList (x:=u) (by simpa using hu) fun h' st' sb=>?_
    have I1 : Inv X pins σ H { s with heap:=h' }:=I.turned (t':=s.toks) (fun b o hb e=>(sb.2 b hb).trans e) f0 f1 f3 f4 f5
    obtain ⟨o,e,c,d⟩:=id st'
    exact ⟨u,rfl,go_of (s:={ s with heap:=h' }) e c d (by decide) ⟨x,H,I1,ru,⟨rfl,fun ys hy=>by rw [I.list_inj hy hq]; exact hx⟩,st',fun b hb=>(hf b hb).1⟩⟩
  done:=by
    intro X hP hw hK hc i pins s σ H E I hf st hg
    subst hP hw hK
    obtain ⟨xs,hq,hx⟩:=hg
    obtain ⟨its,rv,p,hz⟩:=I.list hq
    obtain ⟨f0,f1,f2,f3,f4,f5⟩:=hf it (by simp)
    have hl:=rv.length
    exact wpAny_pyNext_list_end (I.ok.hd hc) st p.isList (by simp; omega) fun h' eb=>⟨rfl,I.turned (t':=s.toks) (fun b o hb e=>eb b o hb e) f0 f1 f3 f4 f5⟩
  self:=fun _ _ _ _ _ st h=>wpAny_pyIter_listiter st h
theorem z9J {P : Program} {w : World} {K : PySem.W.Frag} {tg : Expr} (a it : Addr) : Turn P w K tg (Itt K a) [it] it (fun i h=>h.IsTupleIter it a i) where
  mem:=by simp
  obj:=fun i h st b hb=>by
    have e : b=it:=by simpa using hb
    subst e
    obtain ⟨o,e,c,d⟩:=st
    exact ⟨o,e,fun v z=>by rw [d] at z; cases z⟩
  keep:=fun i h h' st k=>st.at fun o e=>k it (by simp) o e
  item:=by
    intro X hP hw hK hc i pins s σ H E I hf st hg
    subst hP hw hK
    obtain ⟨xs,x,hq,hx⟩:=hg
    obtain ⟨its,rv,p,hz⟩:=I.tuple hq
    obtain ⟨u,hu,ru⟩:=rv.get hx
    obtain ⟨f0,f1,f2,f3,f4,f5⟩:=hf it (by simp)
    refine wpAny_pyNext_tuple_item st (show s.heap.IsTuple a its.toArray from p) (x:=u) (by simpa using hu) fun h' st' sb=>?_
    have I1 : Inv X pins σ H { s with heap:=h' }:=I.turned (t':=s.toks) (fun b o hb e=>(sb.2 b hb).trans e) f0 f1 f3 f4 f5
    obtain ⟨o,e,c,d⟩:=id st'
    exact ⟨u,rfl,go_of (s:={ s with heap:=h' }) e c d (by decide) ⟨x,H,I1,ru,⟨rfl,fun ys hy=>by rw [I.tuple_inj hy hq]; exact hx⟩,st',fun b hb=>(hf b hb).1⟩⟩
  done:=by
    intro X hP hw hK hc i pins s σ H E I hf st hg
    subst hP hw hK
    obtain ⟨xs,hq,hx⟩:=hg
    obtain ⟨its,rv,p,hz⟩:=I.tuple hq
    obtain ⟨f0,f1,f2,f3,f4,f5⟩:=hf it (by simp)
    have hl:=rv.length
    exact wpAny_pyNext_tuple_end (I.ok.hd hc) st (show s.heap.IsTuple a its.toArray from p) (by simp; omega) fun h' eb=>⟨rfl,I.turned (t':=s.toks) (fun b o hb e=>eb b o hb e) f0 f1 f3 f4 f5⟩
  self:=fun _ _ _ _ _ st h=>wpAny_pyIter_tupleiter st h
theorem z9w {P : Program} {w : World} {K : PySem.W.Frag} {tg : Expr} (it : Addr) (lo : Int) (n : Nat) : Turn P w K tg (Itr lo n) [it] it (fun i h=>IsRangeIter h it (lo + (i : Nat) * 1) ((n : Int) - (i : Nat)) 1) where
  mem:=by simp
  obj:=fun i h st b hb=>by
    have e : b=it:=by simpa using hb
    subst e
    exact ⟨_,st,fun v z=>by
      have z' : Data.fields _=Data.cell v:=z
      cases z'⟩
  keep:=fun i h h' st k=>k it (by simp) _ st
  item:=by
    intro X hP hw hK hc i pins s σ H E I hf st hg
    subst hP hw hK
    obtain ⟨f0,f1,f2,f3,f4,f5⟩:=hf it (by simp)
    have W:=Walks.range (prog:=X.prog) (w:=X.w) (I.ok.hd hc) it lo 1 n
    refine W.item i s _ _ hg st fun v h' tk hv st' kk=>?_
    obtain ⟨t,rfl⟩:=hv
    have I1 : Inv X pins σ H { s with heap:=h',toks:=tk }:=I.turned (fun b o hb e=>kk b o (by simpa using hb) e) f0 f1 f3 f4 f5
    refine ⟨_,rfl,go_of (s:={ s with heap:=h',toks:=tk }) (n := "range_iterator") st' rfl rfl (by decide) ⟨.int (lo + i),H,I1,⟨t,?_⟩,⟨rfl,rfl⟩,st',fun b hb=>(hf b hb).1⟩⟩
    rw [Int.mul_one]
  done:=by
    intro X hP hw hK hc i pins s σ H E I hf st hg
    subst hP hw hK
    obtain ⟨f0,f1,f2,f3,f4,f5⟩:=hf it (by simp)
    exact wpAny_pyNext_range_end (I.ok.hd hc) st (by have : n≤i:=hg; omega) fun h' eb=>⟨rfl,I.turned (t':=s.toks) (fun b o hb e=>eb b o hb e) f0 f1 f3 f4 f5⟩
  self:=fun _ _ _ _ _ st h=>wpAny_pyIter_rangeiter st h
end L2
namespace L2
open PySem PySem.Spec PyProof.Rows
section
variable {X : Cx} {tg : Expr}
theorem y3d {pins : List (Addr × Obj)} {σ : St} {H : Hp} {s : Shared} {R : It->Hp->Prop} {E : Value->Shared->Prop} {lo hi : Int} {t u v : Tok} {tk : Nat} (I : Inv X pins σ H s) (h1 : -(2 ^ 62)≤lo) (h2 : lo < 2 ^ 62) (h3 : -(2 ^ 62)≤hi) (h4 : hi < 2 ^ 62)
    (q : R (Itr lo (hi - lo).toNat) H) : wpAny (model X.prog X.w) X.A (pyIter (.ref s.heap.objs.size)) (PIE X pins σ tg R) E { s with heap:=s.heap.push { cls:=.type "range",data:=.fields #[.int lo t,.int hi u,.int 1 v] },toks:=tk }:=by
  refine wpAny_pyIter_range (IsRange.new ..) (small_one h1 h2 h3 h4) ?_
  have I1 : Inv X pins σ H { s with heap:=s.heap.push { cls:=.type "range",data:=.fields #[.int lo t,.int hi u,.int 1 v] },toks:=tk }:=I.kept fun b o e=>Heap.get?_push_of_some _ e
  refine ⟨(s.heap.push { cls:=.type "range",data:=.fields #[.int lo t,.int hi u,.int 1 v] }).objs.size,[(s.heap.push { cls:=.type "range",data:=.fields #[.int lo t,.int hi u,.int 1 v] }).objs.size],_,_,H,rfl,
    I1.kept (t':=tk) fun b o e=>Heap.get?_push_of_some _ e,z9w _ lo (hi - lo).toNat,?_,fun b hb=>?_,q⟩
  · have e1 : lo + ((0 : Nat) : Int) * 1=lo:=by simp
    have e2 : (((hi - lo).toNat : Nat) : Int) - ((0 : Nat) : Int)=Builtin.Range.rangeSize lo hi 1:=by rw [rangeSize_one]; split <;> omega
    show IsRangeIter _ _ (lo + ((0 : Nat) : Int) * 1) ((((hi - lo).toNat : Nat) : Int) - ((0 : Nat) : Int)) 1
    rw [e1,e2]
    exact Heap.get?_push_size _ rfl
  · have e : b=(s.heap.push { cls:=.type "range",data:=.fields #[.int lo t,.int hi u,.int 1 v] }).objs.size:=by simpa using hb
    subst e
    exact I1.fpOk (Nat.le_refl _) (I1.hok.fresh (Nat.le_refl _))
noncomputable def iRng1 (ta : TA) : TI:=fun σ H R=>ta σ H fun vs H1=>∃ j : Int,vs=[.int j]∧-(2 ^ 62)≤j∧j < 2 ^ 62∧R (Itr 0 j.toNat) H1
theorem z7h {a : Expr} {ta : TA} {p pos : Pos} (hg : Gl X "range") (hm : X.mg "range" = none) (ha : PA X [a] ta) (hs : starEach [a] X.env=[(false,eval a X.env)]:=by rfl) : PI X tg (.Call (.Name "range" p) [a] [] pos) (iRng1 ta):=by
  intro pins s σ H R I h
  refine Call_ (z7d I hg hm boot_range (PyProof.Rows.callWith_type1 (thn (ha pos pins s σ H _ I h) fun us s1 ⟨vs,H1,I1,r1,q1⟩=>?_) hs rfl))
  obtain ⟨j,e,q1,q2,q⟩:=q1
  subst e
  cases r1 with
  | cons r rr=>
    cases rr
    obtain ⟨t,rfl⟩:=r
    exact call_range_1 (y3d I1 (by omega) (by omega) q1 q2 (by simpa using q))
noncomputable def tFor (wi : TI) (g : TG) (tb : TS) : TS:=fun D σ H=>wi σ H fun J H1=>∃ W : Nat->Nat->St->Hp->Prop,(∃ m,W 0 m σ H1)∧∀ i m σ H,W i m σ H →
  (J.stop i H∧D.nx σ H)∨(J.go i H∧∃ N : St->Hp->Prop,(∀ σ' H',N σ' H'->∃ m',m' < m∧W (i + 1) m' σ' H')∧∀ x H',J.yld i H x H'->g x σ H' fun σ2 H2=>tb { D with nx:=N,ct:=N,bk:=D.nx } σ2 H2)
noncomputable def z7e (fp : List Addr) (h : Heap) : List (Addr × Obj):=fp.filterMap fun b=>(h.get? b).map fun o=>(b,o)
theorem z3j {fp : List Addr} {h : Heap} {b : Addr} {o : Obj} (hb : b∈fp) (e : h.get? b=some o) : (b,o)∈z7e fp h:=List.mem_filterMap.mpr ⟨b,hb,by rw [e]; rfl⟩
theorem y1l {fp : List Addr} {h : Heap} {p : Addr × Obj} (hp : p∈z7e fp h) : p.1∈fp∧h.get? p.1=some p.2:=by
  obtain ⟨b,hb,e⟩:=List.mem_filterMap.mp hp
  cases q : h.get? b with
  | none=>rw [q] at e; cases e
  | some o=>
    rw [q] at e
    have e' : (b,o)=p:=Option.some.inj e
    subst e'
    exact ⟨hb,q⟩
theorem Inv.pinned {pins : List (Addr × Obj)} {σ : St} {H : Hp} {s : Shared} {fp : List Addr} (I : Inv X pins σ H s) (hf : ∀ b∈fp,z9M X pins H b) (ho : ∀ b∈fp,∃ o,s.heap.get? b=some o∧∀ v,o.data≠.cell v) : Inv X (pins ++ z7e fp s.heap) σ H s:=
  I.pins_of fun p hp=>(List.mem_append.mp hp).elim (fun z=>I.pin p (List.mem_append_right _ z)) fun z=>by
    obtain ⟨hb,e⟩:=y1l z
    obtain ⟨f0,f1,f2,_⟩:=hf p.1 hb
    obtain ⟨o,e',d⟩:=ho p.1 hb
    rw [e] at e'; cases e'
    exact ⟨e,f0,f1,f2,d⟩
theorem Inv.unpinned {pins pl : List (Addr × Obj)} {σ : St} {H : Hp} {s : Shared} (I : Inv X (pins ++ pl) σ H s) : Inv X pins σ H s:=I.pins_of fun p hp=>I.pin p (List.mem_append_right _ (List.mem_append_left _ hp))
theorem y4j {iter : Expr} {body : List Stmt} {wi : TI} {g : TG} {tb : TS} {pos : Pos} (hp : PassesOwn (model X.prog X.w) X.A X.env X.xe) (hc : X.calm=true) (hi : PI X tg iter wi) (hg : PG X tg g) (hb : PSs X body tb)
    (hs : ∀ x,foldedSetIterable iter X.env x=pure x:=by intro _; rfl) : PS X (.For tg iter body [] pos) (tFor wi g tb):=by
  intro pins s σ H D I h
  refine wpAny_For (thn (hi pins s σ H _ I h) fun v s1 h1=>thn h1 fun itv s2 h2=>?_) hs
  obtain ⟨it,fp,tn,J,H2,e,I2,T,st2,f2,W,⟨m0,w0⟩,turn⟩:=h2
  subst e
  have stat : ∀ {H' : Hp},(∀ b∈fp,H' b=none)->∀ b∈fp,z9M X pins H' b:=fun hn b hb=>⟨hn b hb,(f2 b hb).2⟩
  refine codeAny_forLoop_any (fun n s'=>∃ i σ' H',Inv X pins σ' H' s'∧tn i s'.heap∧(∀ b∈fp,H' b=none)∧W i n σ' H') ?_ m0 ⟨0,σ,H2,I2,st2,fun b hb=>(f2 b hb).1,w0⟩
  rintro n s3 ⟨i,σ3,H3,I3,st3,fr3,w3⟩
  rcases turn i n σ3 H3 w3 with ⟨stop,qn⟩ | ⟨go,N,hN,step⟩
  · refine wpAny_passesOwn hp (thn (T.done X rfl rfl rfl hc i pins s3 σ3 H3 X.xe I3 (stat fr3) st3 stop) fun r s4 ⟨hr,I4⟩=>?_)
    subst hr
    exact wpAny_execs_nil ⟨σ3,H3,I4,qn⟩
  · refine wpAny_passesOwn hp (thn (T.item X rfl rfl rfl hc i pins s3 σ3 H3 X.xe I3 (stat fr3) st3 go) fun r s4 ⟨u,hr,h4⟩=>?_)
    subst hr
    refine wpAny_passesOwn hp (thn h4 fun _ s5 ⟨x,H5,I5,r5,y5,st5,fr5⟩=>?_)
    have I5':=I5.pinned (stat fr5) (T.obj _ _ st5)
    refine wpAny_passesOwn hp (thn (hg _ s5 σ3 H5 x u _ I5' r5 (step x H5 y5)) fun _ s6 ⟨σ6,H6,I6,q6⟩=>?_)
    refine wpAny_passesOwn hp (thn (hb _ s6 σ6 H6 _ I6 q6) fun f s7 q7=>?_)
    have again : ∀ {σ7 : St} {H7 : Hp},Inv X (pins ++ z7e fp s5.heap) σ7 H7 s7->N σ7 H7->∃ m,m < n∧∃ i σ' H',Inv X pins σ' H' s7∧tn i s7.heap∧(∀ b∈fp,H' b=none)∧W i m σ' H':=fun {σ7 H7} I7 n7=>by
      obtain ⟨m',hm,w7⟩:=hN σ7 H7 n7
      refine ⟨m',hm,i + 1,σ7,H7,I7.unpinned,T.keep _ _ _ st5 fun b hb o e=>(I7.pin (b,o) (List.mem_append_right _ (List.mem_append_right _ (z3j hb e)))).1,fun b hb=>?_,w7⟩
      obtain ⟨o,e,d⟩:=T.obj _ _ st5 b hb
      exact (I7.pin (b,o) (List.mem_append_right _ (List.mem_append_right _ (z3j hb e)))).2.1
    cases f with
    | next=>obtain ⟨σ7,H7,I7,n7⟩:=q7; exact again I7 n7
    | cont=>obtain ⟨σ7,H7,I7,n7⟩:=q7; exact again I7 n7
    | brk=>obtain ⟨σ7,H7,I7,q7⟩:=q7; exact ⟨σ7,H7,I7.unpinned,q7⟩
    | ret v=>obtain ⟨x7,σ7,H7,I7,r7,q7⟩:=q7; exact ⟨x7,σ7,H7,I7.unpinned,r7,q7⟩
end
theorem z6a {K : PySem.W.Frag} {a : Addr} {xs : List V} {g : TG} {tb : TS} {D : Ends} {σ : St} {H : Hp} (Pv : Nat->St->Hp->Prop) (h0 : Pv 0 σ H) (hl : ∀ i σ H,i≤xs.length->Pv i σ H->SqL K H a xs)
    (hs : ∀ i x σ H,xs[i]? = some x->Pv i σ H->g x σ H fun σ2 H2=>tb { D with nx:=Pv (i + 1),ct:=Pv (i + 1),bk:=D.nx } σ2 H2) (hd : ∀ σ H,Pv xs.length σ H->D.nx σ H) :
    ∃ W : Nat->Nat->St->Hp->Prop,(∃ m,W 0 m σ H)∧∀ i m σ H,W i m σ H →
      ((Itl K a).stop i H∧D.nx σ H)∨((Itl K a).go i H∧∃ N : St->Hp->Prop,(∀ σ' H',N σ' H'->∃ m',m' < m∧W (i + 1) m' σ' H')∧∀ x H',(Itl K a).yld i H x H'->g x σ H' fun σ2 H2=>tb { D with nx:=N,ct:=N,bk:=D.nx } σ2 H2):=by
  refine ⟨fun i m σ H=>m=xs.length - i∧i≤xs.length∧Pv i σ H,⟨xs.length,by simp,Nat.zero_le _,h0⟩,?_⟩
  rintro i m σ H ⟨rfl,hi,p⟩
  have q:=hl i σ H hi p
  by_cases hlt : i < xs.length
  · refine .inr ⟨⟨xs,xs[i],q,by simp [hlt]⟩,Pv (i + 1),fun σ' H' p'=>⟨xs.length - (i + 1),by omega,rfl,hlt,p'⟩,fun x H' y=>?_⟩
    obtain ⟨e,y⟩:=y
    subst e
    exact hs i x σ _ (y xs q) p
  · have e : i=xs.length:=by omega
    subst e
    exact .inl ⟨⟨xs,q,Nat.le_refl _⟩,hd σ H p⟩
end L2
namespace L2
open PySem PySem.Spec PyProof.Rows
noncomputable abbrev R2:=V->V->Hp->VK->Prop
noncomputable def OpR (X : Cx) (f : Value->Value->Sem Value) (r : R2) : Prop:=
  ∀ (pins : List (Addr × Obj)) (s : Shared) (σ : St) (H : Hp) (x y : V) (v u : Value) (Q : VK),Inv X pins σ H s->RelV x v->RelV y u->r x y H Q →
    wpAny (model X.prog X.w) X.A (f v u) (EP X pins σ Q) X.xe s
noncomputable def z5l (X : Cx) (f : Value) (r : List V->Hp->VK->Prop) : Prop:=
  ∀ (pins : List (Addr × Obj)) (s : Shared) (σ : St) (H : Hp) (xs : List V) (us : List Value) (Q : VK),Inv X pins σ H s->Vals xs us->r xs H Q →
    wpAny (model X.prog X.w) X.A (call f us) (EP X pins σ Q) X.xe s
noncomputable def TruR (X : Cx) (r : V->Hp->(Bool->Hp->Prop)->Prop) : Prop:=
  ∀ (pins : List (Addr × Obj)) (s : Shared) (σ : St) (H : Hp) (x : V) (v : Value) (Q : Bool->Hp->Prop),Inv X pins σ H s->RelV x v->r x H Q →
    wpAny (model X.prog X.w) X.A (truthy v) (TP X pins σ Q) X.xe s
noncomputable def tOp (r : R2) (ta tb : TE) : TE:=fun σ H Q=>ta σ H fun x H1=>tb σ H1 fun y H2=>r x y H2 Q
noncomputable def rI (C : Int->Int->Prop) (g : Int->Int->V) : R2:=fun x y H Q=>∃ i j,x = .int i∧y = .int j∧C i j∧Q (g i j) H
noncomputable def rI0 (g : Int->Int->V) : R2:=fun x y H Q=>∃ i j,x = .int i∧y = .int j∧Q (g i j) H
section
variable {X : Cx} {a b c : Expr} {ta tb tc : TE} {pos : Pos}
theorem binT (ha : PE X a ta) (hb : PE X b tb) {pins : List (Addr × Obj)} {s : Shared} {σ : St} {H : Hp} {R : V->V->Hp->Prop} (I : Inv X pins σ H s)
    (h : ta σ H fun x H1=>tb σ H1 fun y H2=>R x y H2) {Q : Value->Shared->Prop} {f : Value->Value->Sem Value}
    (hf : ∀ v u s2 x y H2,Inv X pins σ H2 s2->RelV x v->RelV y u->R x y H2->wpAny (model X.prog X.w) X.A (f v u) Q X.xe s2) :
    wpAny (model X.prog X.w) X.A (eval a X.env) (fun v s₁=>wpAny (model X.prog X.w) X.A (eval b X.env) (fun u s₂=>wpAny (model X.prog X.w) X.A (f v u) Q X.xe s₂) X.xe s₁) X.xe s:=by
  refine thn (ha pins s σ H _ I h) fun v s1 ⟨x,H1,I1,r1,q1⟩=>?_
  refine thn (hb pins s1 σ H1 _ I1 q1) fun u s2 ⟨y,H2,I2,r2,q2⟩=>?_
  exact hf v u s2 x y H2 I2 r1 r2 q2
theorem pe_op {op : Operator} {r : R2} (ho : OpR X (binaryOp op) r) (ha : PE X a ta) (hb : PE X b tb) : PE X (.BinOp a op b pos) (tOp r ta tb):=by
  intro pins s σ H Q I h
  exact wpAny_BinOp (binT ha hb I h fun v u s2 x y H2 I2 rx ry q=>ho pins s2 σ H2 x y v u Q I2 rx ry q)
theorem opI {f : Value->Value->Sem Value} {C : Int->Int->Prop} {g : Int->Int->Int}
    (rule : ∀ (i j : Int) (t u : Tok) (s : Shared) (Q : Value->Shared->Prop) (E : Value->Shared->Prop),C i j->Q (.int (g i j) s.toks) { s with toks:=s.toks + 1 }->wpAny (model X.prog X.w) X.A (f (.int i t) (.int j u)) Q E s) :
    OpR X f (rI C fun i j=>.int (g i j)):=by
  intro pins s σ H x y v u Q I rx ry h
  obtain ⟨i,j,rfl,rfl,hc,q⟩:=h
  obtain ⟨t,rfl⟩:=rx
  obtain ⟨t',rfl⟩:=ry
  exact rule i j t t' s _ _ hc ⟨.int (g i j),H,I.tok _,⟨_,rfl⟩,q⟩
theorem opI0 {f : Value->Value->Sem Value} {g : Int->Int->Int}
    (rule : ∀ (i j : Int) (t u : Tok) (s : Shared) (Q : Value->Shared->Prop) (E : Value->Shared->Prop),Q (.int (g i j) s.toks) { s with toks:=s.toks + 1 }->wpAny (model X.prog X.w) X.A (f (.int i t) (.int j u)) Q E s) :
    OpR X f (rI0 fun i j=>.int (g i j)):=by
  intro pins s σ H x y v u Q I rx ry h
  obtain ⟨i,j,rfl,rfl,q⟩:=h
  obtain ⟨t,rfl⟩:=rx
  obtain ⟨t',rfl⟩:=ry
  exact rule i j t t' s _ _ ⟨.int (g i j),H,I.tok _,⟨_,rfl⟩,q⟩
theorem opB0 {f : Value->Value->Sem Value} {g : Int->Int->Bool}
    (rule : ∀ (i j : Int) (t u : Tok) (s : Shared) (Q : Value->Shared->Prop) (E : Value->Shared->Prop),Q (.bool (g i j)) s->wpAny (model X.prog X.w) X.A (f (.int i t) (.int j u)) Q E s) :
    OpR X f (rI0 fun i j=>.bl (g i j)):=by
  intro pins s σ H x y v u Q I rx ry h
  obtain ⟨i,j,rfl,rfl,q⟩:=h
  obtain ⟨t,rfl⟩:=rx
  obtain ⟨t',rfl⟩:=ry
  exact rule i j t t' s _ _ ⟨.bl (g i j),H,I,rfl,q⟩
noncomputable def CDiv (i j : Int) : Prop:=0 < j∧j < 1073741824
noncomputable def CDivN (i j : Int) : Prop:=j≠0∧j.natAbs < 1073741824
noncomputable def CPow (i j : Int) : Prop:=0≤j∧j≤1000000∧i.natAbs < 2 ^ 64
noncomputable def CMul (i j : Int) : Prop:=(-(2 ^ 64) < i∧i < 2 ^ 64)∨(-(2 ^ 64) < j∧j < 2 ^ 64)
theorem op_add : OpR X (binaryOp .Add) (rI0 fun i j=>.int (i + j)):=opI0 fun _ _ _ _ _ _ _ q=>add_int q
theorem op_sub : OpR X (binaryOp .Sub) (rI0 fun i j=>.int (i - j)):=opI0 fun _ _ _ _ _ _ _ q=>sub_int q
theorem op_fdiv : OpR X (binaryOp .FloorDiv) (rI CDiv fun i j=>.int (i / j)):=opI fun i j _ _ _ _ _ hc q=>by
  have h1 : (0 : Int) < j:=hc.1
  have h2 : j < 1073741824:=hc.2
  exact floordiv_int (by omega) (by rw [Int.fdiv_eq_ediv_of_nonneg i (by omega)]; exact q) (.inl (PyProof.noPylong_small (by omega)))
theorem op_mod : OpR X (binaryOp .Mod) (rI (fun _ j=>0 < j) fun i j=>.int (i % j)):=opI fun i j _ _ _ _ _ hc q=>by
  have h1 : (0 : Int) < j:=hc
  exact mod_int' (by omega) (by rw [Int.fmod_eq_emod_of_nonneg i (by omega)]; exact q)
theorem op_pow : OpR X (binaryOp .Pow) (rI CPow fun i j=>.int (i ^ j.toNat)):=opI fun _ _ _ _ _ _ _ hc q=>pow_int_small hc.1 hc.2.1 hc.2.2 q
end
section
variable {X : Cx} {a b c : Expr} {ta tb tc : TE} {pos : Pos}
theorem op_lt : OpR X (compareOp .Lt) (rI0 fun i j=>.bl (decide (i < j))):=opB0 fun _ _ _ _ _ _ _ q=>lt_int q
theorem op_le : OpR X (compareOp .LtE) (rI0 fun i j=>.bl (decide (i≤j))):=opB0 fun _ _ _ _ _ _ _ q=>le_int q
theorem op_gt : OpR X (compareOp .Gt) (rI0 fun i j=>.bl (decide (j < i))):=opB0 fun _ _ _ _ _ _ _ q=>gt_int q
theorem op_ge : OpR X (compareOp .GtE) (rI0 fun i j=>.bl (decide (j≤i))):=opB0 fun _ _ _ _ _ _ _ q=>ge_int q
theorem z5h (b : Expr) {op : CmpOp} (h : op≠.In:=by decide) (h2 : op≠.NotIn:=by decide) : behindInMarks op b=false:=by
  have e1 : (op == CmpOp.In)=false:=by cases op <;> first | rfl | exact absurd rfl h
  have e2 : (op == CmpOp.NotIn)=false:=by cases op <;> first | rfl | exact absurd rfl h2
  cases b <;> simp [behindInMarks,e1,e2]
theorem pe_cmpR {op : CmpOp} {r : R2} (ho : OpR X (compareOp op) r) (ha : PE X a ta) (hb : PE X b tb) (hm : behindInMarks op b=false) : PE X (.Compare a [op] [b] pos) (tOp r ta tb):=by
  intro pins s σ H Q I h
  exact wpAny_Compare1 (binT ha hb I h fun v u s2 x y H2 I2 rx ry q=>ho pins s2 σ H2 x y v u Q I2 rx ry q) hm
noncomputable def tTest (t : TE) : TT:=fun σ H Q=>t σ H fun x H'=>∃ k,x = .bl k∧Q k H'
theorem y0x {op : CmpOp} {r : R2} (ho : OpR X (compareOp op) r) (ha : PE X a ta) (hb : PE X b tb) (hm : behindInMarks op b=false) : PT X (.Compare a [op] [b] pos) (tTest (tOp r ta tb)):=by
  intro pins s σ H Q I h
  refine wpAny_isTrue_Compare1 (thn (ha pins s σ H _ I h) fun v s1 ⟨x,H1,I1,r1,q1⟩=>thn (hb pins s1 σ H1 _ I1 q1) fun u s2 ⟨y,H2,I2,r2,q2⟩=>
    thn (ho pins s2 σ H2 x y v u _ I2 r1 r2 q2) fun c s3 ⟨z,H3,I3,r3,k,e,q3⟩=>?_) hm
  subst e
  cases r3
  exact wpAny_truthy_bool ⟨H3,I3,q3⟩
noncomputable def y1j (r r' : R2) (ta tb tc : TE) : TE:=fun σ H Q=>ta σ H fun x H1=>tb σ H1 fun y H2=>r x y H2 fun z H3=>∃ k,z = .bl k ∧
  (if k=true then tc σ H3 fun w' H4=>r' y w' H4 Q else Q (.bl false) H3)
theorem y3e {op op' : CmpOp} {r r' : R2} (ho : OpR X (compareOp op) r) (ho' : OpR X (compareOp op') r') (ha : PE X a ta) (hb : PE X b tb) (hc : PE X c tc)
    (hm : lastMarks [op,op'] [b,c]=false:=by with_unfolding_all rfl) : PE X (.Compare a [op,op'] [b,c] pos) (y1j r r' ta tb tc):=by
  intro pins s σ H Q I h
  refine Compare_chain (thn (ha pins s σ H _ I h) fun v s1 ⟨x,H1,I1,r1,q1⟩=>chain_link (thn (hb pins s1 σ H1 _ I1 q1) fun u s2 ⟨y,H2,I2,r2,q2⟩=>
    thn (ho pins s2 σ H2 x y v u _ I2 r1 r2 q2) fun d s3 ⟨z,H3,I3,r3,k,e,q3⟩=>?_)) hm
  subst e
  cases r3
  refine wpAny_truthy_bool ?_
  cases k with
  | false=>exact ite_ff ⟨.bl false,H3,I3,rfl,q3⟩
  | true=>exact ite_tt (chain_last (thn (hc pins s3 σ H3 _ I3 q3) fun w' s4 ⟨z',H4,I4,r4,q4⟩=>ho' pins s4 σ H4 y z' u w' Q I4 r2 r4 q4))
theorem y2L {op op' : CmpOp} {r r' : R2} (ho : OpR X (compareOp op) r) (ho' : OpR X (compareOp op') r') (ha : PE X a ta) (hb : PE X b tb) (hc : PE X c tc)
    (hm : lastMarks [op,op'] [b,c]=false:=by with_unfolding_all rfl) : PT X (.Compare a [op,op'] [b,c] pos) (tTest (y1j r r' ta tb tc)):=by
  intro pins s σ H Q I h
  refine isTrue_chain (thn (ha pins s σ H _ I h) fun v s1 ⟨x,H1,I1,r1,q1⟩=>test_link (thn (hb pins s1 σ H1 _ I1 q1) fun u s2 ⟨y,H2,I2,r2,q2⟩=>
    thn (ho pins s2 σ H2 x y v u _ I2 r1 r2 q2) fun d s3 ⟨z,H3,I3,r3,k,e,q3⟩=>?_)) hm
  subst e
  cases r3
  refine wpAny_truthy_bool ?_
  cases k with
  | false=>
    obtain ⟨k',e',q'⟩:=q3
    cases e'
    exact ite_ff ⟨H3,I3,q'⟩
  | true=>
    refine ite_tt (test_last (thn (hc pins s3 σ H3 _ I3 q3) fun w' s4 ⟨z',H4,I4,r4,q4⟩=>thn (ho' pins s4 σ H4 y z' u w' _ I4 r2 r4 q4) fun d' s5 ⟨z2,H5,I5,r5,k2,e2,q5⟩=>?_))
    subst e2
    cases r5
    exact wpAny_truthy_bool ⟨H5,I5,q5⟩
noncomputable def TruV (K : PySem.W.Frag) (x : V) (H : Hp) (k : Bool) : Prop:=
  match x with
  | .non=>k=false
  | .bl b=>k=b
  | .int i=>k=(i != 0)
  | .str y=>y.length≤sizeLine∧k=((y.length : Int) != 0)
  | .byt y=>y.size≤sizeLine∧k=((y.size : Int) != 0)
  | .ref p=>(∃ xs,SqL K H p xs∧k = !xs.isEmpty)∨(∃ xs,SqT K H p xs∧k = !xs.isEmpty)∨∃ kvs,H p=some (.dK kvs)∧k = !kvs.isEmpty
  | _=>False
theorem z9D {κ : Type} {kvs : List (κ × V)} {vs : List (κ × Value)} (r : KV kvs vs) : (!vs.isEmpty) = !kvs.isEmpty:=by
  cases r <;> rfl
theorem z5N {xs : List V} {its : List Value} (r : Vals xs its) : (!its.toArray.isEmpty) = !xs.isEmpty:=by
  cases r <;> simp
theorem z5K : (sizeLine : Nat) < 2 ^ 63:=by rw [sizeLine_eq]; decide
theorem tru_ok : TruR X (fun x H Q=>∃ k,TruV X.K x H k∧Q k H):=by
  intro pins s σ H x v Q I rx h
  obtain ⟨k,e,q⟩:=h
  have hl:=z5K
  have hs : sizeLine=16777216:=sizeLine_eq
  cases x with
  | non=>
    cases rx
    have e' : k=false:=e
    subst e'
    exact truthy_none ⟨H,I,q⟩
  | bl b=>
    cases rx
    have e' : k=b:=e
    subst e'
    exact wpAny_truthy_bool ⟨H,I,q⟩
  | int i=>
    obtain ⟨t,rfl⟩:=rx
    have e' : k=(i != 0):=e
    subst e'
    exact PySem.P.truthy_int ⟨H,I,q⟩
  | str y=>
    obtain ⟨t,rfl⟩:=rx
    obtain ⟨hy,e'⟩ : y.length≤sizeLine∧k=((y.length : Int) != 0):=e
    subst e'
    exact PySem.P.truthy_str (by omega) ⟨H,I.tok _,q⟩
  | byt y=>
    obtain ⟨t,rfl⟩:=rx
    obtain ⟨hy,e'⟩ : y.size≤sizeLine∧k=((y.size : Int) != 0):=e
    subst e'
    exact PySem.W.truthy_bytes (by omega) ⟨H,I.tok _,q⟩
  | ref p=>
    cases rx
    have e' : (∃ xs,SqL X.K H p xs∧k = !xs.isEmpty)∨(∃ xs,SqT X.K H p xs∧k = !xs.isEmpty)∨∃ kvs,H p=some (.dK kvs)∧k = !kvs.isEmpty:=e
    rcases e' with ⟨xs,hx,e'⟩ | ⟨xs,hx,e'⟩ | ⟨kvs,hx,e'⟩
    · subst e'
      obtain ⟨its,r,pl,hz⟩:=I.list hx
      have hlen:=r.length
      exact wpAny_truthy_list pl.isList (by simp only [List.size_toArray]; omega) ⟨H,I.tok _,by rw [z5N r]; exact q⟩
    · subst e'
      obtain ⟨its,r,pl,hz⟩:=I.tuple hx
      have hlen:=r.length
      exact truthy_tuple pl (by simp only [List.size_toArray]; omega) ⟨H,I.tok _,by rw [z5N r]; exact q⟩
    · subst e'
      obtain ⟨hz,hS,vs,r,m⟩ : kvs.length≤sizeLine∧(p == sysModules)=false∧∃ vs,KV kvs vs∧s.heap.DictOf (z1y X.prog X.w) p vs:=I.hok p _ hx
      have hlen : kvs.length=vs.length:=Paired.length r
      exact wpAny_truthy_dict hS m (by omega) ⟨H,I.tok _,by rw [z9D r]; exact q⟩
  | _=>exact (show False from e).elim
theorem y3v (ha : PE X a ta) (he : ∀ whole,isTrue a X.env whole=(do let v ← whole; standAt a.pos; holding [v] (truthy v))) :
    PT X a (fun σ H Q=>ta σ H fun x H'=>∃ k,TruV X.K x H' k∧Q k H'):=by
  intro pins s σ H Q I h
  exact isTrue_plain (thn (ha pins s σ H _ I h) fun v s1 ⟨x,H1,I1,r1,q1⟩=>tru_ok pins s1 σ H1 x v Q I1 r1 q1) (he _)
theorem y2n {x : V} {us : List Value} (r : Vals [x] us) : ∃ u,us=[u]∧RelV x u:=by
  cases r with
  | cons r1 r2=>cases r2; exact ⟨_,rfl,r1⟩
theorem vals2 {x y : V} {us : List Value} (r : Vals [x,y] us) : ∃ u w',us=[u,w']∧RelV x u∧RelV y w':=by
  cases r with
  | cons r1 r2=>
    cases r2 with
    | cons r3 r4=>cases r4; exact ⟨_,_,rfl,r1,r3⟩
theorem y0V (hc : X.calm=true) : z5l X (.builtin "min") (fun xs H Q=>∃ i j,xs=[.int i,.int j]∧Q (.int (if j < i then j else i)) H):=by
  intro pins s σ H xs us Q I r h
  obtain ⟨i,j,rfl,q⟩:=h
  obtain ⟨u,w',rfl,⟨t,rfl⟩,⟨t',rfl⟩⟩:=vals2 r
  refine min_two_ints (I.ok.hd hc) fun h' tk k=>⟨_,H,I.kept k,?_,q⟩
  by_cases hj : j < i
  · rw [if_pos hj,if_pos hj]; exact ⟨_,rfl⟩
  · rw [if_neg hj,if_neg hj]; exact ⟨_,rfl⟩
noncomputable def LenV (K : PySem.W.Frag) (x : V) (H : Hp) (n : Nat) : Prop:=
  match x with
  | .str y=>y.length≤sizeLine∧n=y.length
  | .byt y=>y.size≤sizeLine∧n=y.size
  | .ref p=>(∃ xs,SqL K H p xs∧n=xs.length)∨∃ xs,SqT K H p xs∧n=xs.length
  | _=>False
theorem y3y : z5l X (.builtin "len") (fun xs H Q=>∃ x n,xs=[x]∧LenV X.K x H n∧Q (.int n) H):=by
  intro pins s σ H xs us Q I r h
  obtain ⟨x,n,rfl,e,q⟩:=h
  obtain ⟨u,rfl,rx⟩:=y2n r
  have hl:=z5K
  have hs : sizeLine=16777216:=sizeLine_eq
  cases x with
  | str y=>
    obtain ⟨t,rfl⟩:=rx
    obtain ⟨hy,e'⟩ : y.length≤sizeLine∧n=y.length:=e
    subst e'
    exact len_str (by omega) ⟨.int _,H,I.tok _,⟨_,rfl⟩,q⟩
  | byt y=>
    obtain ⟨t,rfl⟩:=rx
    obtain ⟨hy,e'⟩ : y.size≤sizeLine∧n=y.size:=e
    subst e'
    exact PySem.W.len_bytes (by omega) ⟨.int _,H,I.tok _,⟨_,rfl⟩,q⟩
  | ref p=>
    cases rx
    have e' : (∃ xs,SqL X.K H p xs∧n=xs.length)∨∃ xs,SqT X.K H p xs∧n=xs.length:=e
    rcases e' with ⟨xs,hx,e'⟩ | ⟨xs,hx,e'⟩
    · subst e'
      obtain ⟨its,r',pl,hz⟩:=I.list hx
      have hlen:=r'.length
      exact Calls.call_len_list pl.isList (by simp only [List.size_toArray]; omega) ⟨.int xs.length,H,I.tok _,⟨_,by simp only [List.size_toArray]; rw [hlen]⟩,q⟩
    · subst e'
      obtain ⟨its,r',pl,hz⟩:=I.tuple hx
      have hlen:=r'.length
      exact len_tuple pl (by simp only [List.size_toArray]; omega) ⟨.int xs.length,H,I.tok _,⟨_,by simp only [List.size_toArray]; rw [hlen]⟩,q⟩
  | _=>exact (show False from e).elim
end
end L2
namespace L2
open PySem PySem.Spec PyProof.Rows
structure ObjM (h : Heap) (x dx C : Addr) (mA : Str->Option Value) : Prop where
  obj : h.get? x=some (PySem.W.instObj C dx)
  ns : h.Ns1 dx mA
  ne : dx≠x
theorem y0k {h : Heap} {dx : Addr} {mA : Str->Option Value} (n : h.Ns1 dx mA) : ∃ od,h.get? dx=some od∧∀ name,PySem.W.lookIn name od=some (mA name):=by
  obtain ⟨o,es,ep,ho,hd,hk,_,hm⟩:=n
  refine ⟨o,ho,fun name=>?_⟩
  have e:=hm name
  unfold nsFind findBy at e
  rw [← Array.find?_toList] at e
  unfold PySem.W.lookIn
  rw [hd]
  dsimp only
  split
  · rename_i y q
    rw [q] at e
    exact congrArg some e
  · rename_i q
    rw [q] at e
    have a : es.toList.any (·.refKey)=false:=by
      rw [List.any_eq_false]
      intro y hy
      obtain ⟨z,t,hkey⟩:=hk y (Array.mem_toList_iff.mp hy)
      simp [DictEntry.refKey,hkey]
    have a' : ¬ es.toList.any (·.refKey)=true:=by rw [a]; exact Bool.false_ne_true
    rw [if_neg a']
    exact congrArg some e
theorem ObjM.look {h : Heap} {x dx C : Addr} {mA : Str->Option Value} (I : ObjM h x dx C mA) : ∃ od,PySem.W.InstAt h x (PySem.W.instObj C dx) C (some od)∧∀ name,PySem.W.lookIn name od=some (mA name):=
  let ⟨od,ho,hl⟩:=y0k I.ns
  ⟨od,⟨I.obj,rfl,rfl,ho⟩,hl⟩
section
variable {prog : Program} {w : World} {A : Around} {E : Value->Shared->Prop} {s : Shared} {K : PySem.W.Frag} {x dx C f : Addr} {mA : Str->Option Value} {name : Str} {v : Value}
theorem get_map {expr : Bool} {Q : Value->Shared->Prop} (X : K.In s.heap) (I : ObjM s.heap x dx C mA) (hg : PySem.W.plainGet K C name=true) (hh : PySem.W.hasDictIn K C=true)
    (ha : PySem.W.findIn K (.ref C) name=some none) (hv : mA name=some v) (hv' : PySem.W.handedIn v=true) (h : Q v { s with toks:=s.toks + 1 }) :
    wpAny (model prog w) A (getAttr (.ref x) name expr) Q E s:=by
  obtain ⟨od,J,hl⟩:=I.look
  exact PySem.W.get_value X J (PySem.W.plainGet_of hg).1 (PySem.W.findObj_own hh ha rfl (by rw [hl,hv])) hv' h
theorem y2F {pl : Sem Bool} {Q : Value × List Value->Shared->Prop} (X : K.In s.heap) (I : ObjM s.heap x dx C mA) (hg : PySem.W.plainGet K C name=true)
    (hf : PySem.W.findIn K (.ref C) name=some (some (.ref f))) (ht : PySem.W.isFn K (.ref f)=true) (hv : mA name=none) (h : Q (.ref f,[.ref x]) s) :
    wpAny (model prog w) A (getMethod (.ref x) name pl) Q E s:=by
  obtain ⟨od,J,hl⟩:=I.look
  exact PySem.W.method_fn X J (PySem.W.plainGet_of hg).1 (PySem.W.plainGet_of hg).2 hf (beq_iff_eq.mp ht) (by show (PySem.W.lookIn name od).map (·.isSome)=some false; rw [hl,hv]; rfl) h
theorem set_map {ns : List Str} {Q : Unit->Shared->Prop} (X : K.In s.heap) (I : ObjM s.heap x dx C mA)
    (hs : PySem.W.findIn K (.ref C) "__setattr__" = some (some (.builtin "object.__setattr__"))) (hp : PySem.W.plainOver K C=true) (ht : PySem.W.takerIn K C name=some none) (hh : PySem.W.hasDictIn K C=true)
    (hw : PySem.Within mA ns) (hsz : ns.length≤sizeLine)
    (h : ∀ h',ObjM h' x dx C (fun y=>if y=name then some v else mA y)->Heap.SameBut dx s.heap h'->Q () { s with heap:=h',toks:=s.toks + 2 }) :
    wpAny (model prog w) A (setAttr (.ref x) name v) Q E s:=by
  obtain ⟨od,J,hl⟩:=I.look
  refine PySem.W.set_plain X J hs (PySem.W.osa_open (s:={ s with toks:=s.toks + 1 }) (r:=none) X J hp ht fun b=>?_)
  obtain ⟨cd,hc,hd'⟩:=PySem.W.any_some hh
  have hx : s.heap.get? x=some ⟨.ref C,some dx,.plain,#[]⟩:=I.obj
  refine wpAny_bind (wpAny_pure (wpAny_bind (wpAny_bind (wpAny_loadPart hx (wpAny_bind (PySem.W.Looks.here (s:={ s with toks:=s.toks + 1 }) (PySem.W.looks_clsIn X hc) ?_))))))
  rw [hd']
  refine wpAny_pure (a:=some dx) (wpAny_bind (wpAny_pure (wpAny_bind ?_)))
  refine wpAny_nsSet1 (s:={ s with toks:=s.toks + 1 }) I.ns fun h' hn2 hs2=>?_
  obtain ⟨oD,esD,epD,hoD,hdD,hcD⟩:=hn2.count (PySem.Within.cons name v hw)
  refine wpAny_bind (wpAny_lookBehind hoD (by rw [hdD]; exact pastItsLine_dict (Nat.le_trans hcD (by rw [List.length_cons]; omega))) ?_)
  exact wpAny_pure (h _ ⟨(hs2.2 _ (Ne.symm I.ne)).trans I.obj,hn2,I.ne⟩ hs2)
theorem y3w {R : Result->Shared->Prop} {vs : List Value} {kw : List (Str × Value)} (X : K.In s.heap) (hm : PySem.W.makesIn K C=true)
    (hi : PySem.W.findIn K (.ref C) "__init__" = some (some (.ref f))) (hf : PySem.W.typeIn K (.ref f)=some (.type "function"))
    (h : codeAny (model prog w) (A.under (.builtin "type.__call__" ⟨.ref C :: vs,kw⟩)) (.call (.ref f) ⟨.ref (s.heap.objs.size + 1) :: vs,kw⟩) (PySem.W.InitBack (s.heap.objs.size + 1) R)
      { s with heap:=(s.heap.push PySem.W.emptyDict).push (PySem.W.instObj C s.heap.objs.size) }) :
    codeAny (model prog w) A (.call (.ref C) ⟨vs,kw⟩) R s:=by
  obtain ⟨hh,g,d,t,os⟩:=s
  exact PySem.W.make_core (PySem.W.makes_of X hm) (PySem.W.looks_findIn X hi) (fun self=>PySem.W.bind_fn X self hf) (.inl rfl) h
end
noncomputable def z3C (f : Str) (v : V) : List (Str × V)->List (Str × V)
  | []=>[(f,v)]
  | (g,x) :: r=>if g=f then (g,v) :: r else (g,x) :: z3C f v r
theorem z5s (f g : Str) (v : V) : ∀ fs : List (Str × V),(z3C f v fs).lookup g=if g=f then some v else fs.lookup g
  | []=>by
    show List.lookup g [(f,v)]=_
    by_cases h : g=f
    · have hb : (g == f)=true:=beq_iff_eq.mpr h
      simp only [List.lookup,hb,if_pos h]
    · have hb : (g == f)=false:=beq_eq_false_iff_ne.mpr h
      simp only [List.lookup,hb,if_neg h]
  | (k,x) :: r=>by
    have ih:=z5s f g v r
    rw [show z3C f v ((k,x) :: r)=(if k=f then (k,v) :: r else (k,x) :: z3C f v r) from rfl]
    by_cases hk : k=f
    · rw [if_pos hk]
      by_cases h : g=k
      · have hb : (g == k)=true:=beq_iff_eq.mpr h
        simp only [List.lookup,hb,if_pos (h.trans hk)]
      · have hb : (g == k)=false:=beq_eq_false_iff_ne.mpr h
        simp only [List.lookup,hb,if_neg (fun e : g=f=>h (e.trans hk.symm))]
    · rw [if_neg hk]
      by_cases h : g=k
      · have hb : (g == k)=true:=beq_iff_eq.mpr h
        simp only [List.lookup,hb,if_neg (fun e : g=f=>hk (h.symm.trans e))]
      · have hb : (g == k)=false:=beq_eq_false_iff_ne.mpr h
        simp only [List.lookup,hb]
        exact ih
theorem z5i (f : Str) (v : V) : ∀ fs : List (Str × V),f∈(z3C f v fs).map (·.1)∧∀ g,g∈fs.map (·.1)->g∈(z3C f v fs).map (·.1)
  | []=>⟨by simp [z3C],fun g h=>by simp at h⟩
  | (k,x) :: r=>by
    obtain ⟨i1,i2⟩:=z5i f v r
    rw [show z3C f v ((k,x) :: r)=(if k=f then (k,v) :: r else (k,x) :: z3C f v r) from rfl]
    by_cases hk : k=f
    · rw [if_pos hk]
      subst hk
      exact ⟨by simp,fun g h=>by simpa using h⟩
    · rw [if_neg hk]
      refine ⟨?_,fun g h=>?_⟩
      · rw [List.map_cons]
        exact List.mem_cons_of_mem _ i1
      · rw [List.map_cons] at h ⊢
        rcases List.mem_cons.mp h with e | e
        · exact List.mem_cons.mpr (.inl e)
        · exact List.mem_cons_of_mem _ (i2 g e)
theorem z3z (f : Str) (v : V) : ∀ fs : List (Str × V),(z3C f v fs).length≤fs.length + 1
  | []=>by simp [z3C]
  | (k,x) :: r=>by
    have ih:=z3z f v r
    rw [show z3C f v ((k,x) :: r)=(if k=f then (k,v) :: r else (k,x) :: z3C f v r) from rfl]
    by_cases hk : k=f
    · rw [if_pos hk,List.length_cons,List.length_cons]; omega
    · rw [if_neg hk,List.length_cons,List.length_cons]; omega
theorem RelO.some_of {v : V} {o : Option Value} (r : RelO (some v) o) : ∃ u,o=some u∧RelV v u:=by
  cases o with
  | none=>exact (show False from r).elim
  | some u=>exact ⟨u,rfl,r⟩
theorem RelO.none_of {o : Option Value} (r : RelO none o) : o=none:=by
  cases o with
  | none=>rfl
  | some u=>exact (show False from r).elim
theorem y0H {v : V} {u : Value} (r : RelV v u) : PySem.W.handedIn u=true:=by
  cases v with
  | non=>cases (show u=Value.none from r); rfl
  | bl b=>cases (show u=Value.bool b from r); rfl
  | int i=>obtain ⟨t,e⟩:=(show ∃ t,u=Value.int i t from r); cases e; rfl
  | str x=>obtain ⟨t,e⟩:=(show ∃ t,u=Value.str x t from r); cases e; rfl
  | byt b=>obtain ⟨t,e⟩:=(show ∃ t,u=Value.bytes b t from r); cases e; rfl
  | flt b=>obtain ⟨t,e⟩:=(show ∃ t,u=Value.float b t from r); cases e; rfl
  | ref a=>cases (show u=Value.ref a from r); rfl
  | ty n=>cases (show u=Value.type n from r); rfl
section
variable {P : Program} {w : World} {H H' : Hp} {h h' : Heap} {a C dx : Addr} {fs fs' : List (Str × V)}
theorem z5Q (hok : HOk P w H h) (e : H a=some (.ins C dx fs)) : ∃ mA,ObjM h a dx C mA∧(∀ f,RelO (fs.lookup f) (mA f))∧PySem.Within mA (fs.map (·.1))∧fs.length≤1000∧H dx=some (.own a):=by
  obtain ⟨d,z,ne,ob,mA,n,r,q⟩:=(show ObjOk P w H h a (.ins C dx fs) from hok a _ e)
  exact ⟨mA,⟨ob,n,ne⟩,r,q,z,d⟩
end
structure Cls (K : PySem.W.Frag) (C : Addr) : Prop where
  pg : PySem.W.plainGet K C Str.empty=true
  hd : PySem.W.hasDictIn K C=true
  po : PySem.W.plainOver K C=true
  sa : PySem.W.findIn K (.ref C) "__setattr__" = some (some (.builtin "object.__setattr__"))
theorem Cls.get {K : PySem.W.Frag} {C : Addr} (c : Cls K C) (f : Str) : PySem.W.plainGet K C f=true:=c.pg
noncomputable def NoAttr (K : PySem.W.Frag) (C : Addr) (f : Str) : Prop:=PySem.W.findIn K (.ref C) f=some none
theorem NoAttr.taker {K : PySem.W.Frag} {C : Addr} {f : Str} (n : NoAttr K C f) : PySem.W.takerIn K C f=some none:=by
  unfold PySem.W.takerIn
  rw [show PySem.W.findIn K (.ref C) f=some none from n]
  rfl
structure Con (K : PySem.W.Frag) (C : Addr) (f : Str) (v : V) (u : Value) : Prop where
  at_ : PySem.W.findIn K (.ref C) f=some (some u)
  rel : RelV v u
  get : PySem.W.specialIn K u "__get__" = some none
  cp : PySem.W.copiedNames.contains f=false
structure Meth (K : PySem.W.Frag) (C : Addr) (m : Str) (f : Addr) : Prop where
  at_ : PySem.W.findIn K (.ref C) m=some (some (.ref f))
  fn : PySem.W.isFn K (.ref f)=true
  kp : PySem.W.keepIn K (.ref f)=true
section
variable {X : Cx} {pins : List (Addr × Obj)} {σ : St} {H : Hp} {s : Shared} {a C dx : Addr} {fs : List (Str × V)} {f : Str} {v : V} {A : Around} {E : Value->Shared->Prop}
theorem z9N {b : Bool} {Q : Value->Shared->Prop} (I : Inv X pins σ H s) (e : H a=some (.ins C dx fs)) (c : Cls X.K C) (n : NoAttr X.K C f) (l : fs.lookup f=some v)
    (h : ∀ u s',Inv X pins σ H s'->RelV v u->Q u s') : wpAny (model X.prog X.w) A (getAttr (.ref a) f b) Q E s:=by
  obtain ⟨mA,O,r,_,_,_⟩:=z5Q I.hok e
  obtain ⟨u,hu,ru⟩:=RelO.some_of (v:=v) (o:=mA f) (by rw [← l]; exact r f)
  exact get_map I.kIn O (c.get f) c.hd n hu (y0H ru) (h u _ (I.tok _) ru)
theorem z3h {m : Str} {g : Addr} {pl : Sem Bool} {Q : Value × List Value->Shared->Prop} (I : Inv X pins σ H s) (e : H a=some (.ins C dx fs)) (c : Cls X.K C) (k : Meth X.K C m g) (l : fs.lookup m=none)
    (h : Q (.ref g,[.ref a]) s) : wpAny (model X.prog X.w) A (getMethod (.ref a) m pl) Q E s:=by
  obtain ⟨mA,O,r,_,_,_⟩:=z5Q I.hok e
  have hn : mA m=none:=RelO.none_of (by rw [← l]; exact r m)
  exact y2F I.kIn O (c.get m) k.at_ k.fn hn h
theorem z9C {y : V} {u : Value} {Q : Unit->Shared->Prop} (I : Inv X pins σ H s) (e : H a=some (.ins C dx fs)) (c : Cls X.K C) (n : NoAttr X.K C f) (hl : fs.length < 1000) (ry : RelV y u)
    (h : ∀ s',Inv X pins σ (upd H a (.ins C dx (z3C f y fs))) s'->Q () s') : wpAny (model X.prog X.w) A (setAttr (.ref a) f u) Q E s:=by
  obtain ⟨mA,O,r,wi,_,ho⟩:=z5Q I.hok e
  have hz : (fs.map (·.1)).length≤sizeLine:=by rw [List.length_map,sizeLine_eq]; omega
  refine set_map I.kIn O c.sa c.po n.taker c.hd wi hz fun h' O' sb=>h _ ?_
  have hd : ∃ o,h'.get? dx=some o:=let ⟨o,_,_,e',_⟩:=O'.ns; ⟨o,e'⟩
  refine I.write (x:=a) (e:=dx) (by rw [e]; exact True.intro) (.inr ho) (fun b q hb z=>(sb.2 b hb).trans z) hd ?_
  refine ⟨by rw [z0d O.ne]; exact ho,?_,O.ne,O'.obj,_,O'.ns,fun g=>?_,fun g hg=>?_⟩
  · have:=z3z f y fs; omega
  · show RelO ((z3C f y fs).lookup g) (if g=f then some u else mA g)
    rw [z5s]
    by_cases q : g=f
    · rw [if_pos q,if_pos q]; exact ry
    · rw [if_neg q,if_neg q]; exact r g
  · by_cases q : g=f
    · rw [q]; exact (z5i f y fs).1
    · refine (z5i f y fs).2 g (wi g fun z=>hg ?_)
      show (if g=f then some u else mA g)=none
      rw [if_neg q]; exact z
theorem Inv.made (I : Inv X pins σ H s) : Inv X pins σ (upd (upd H s.heap.objs.size (.own (s.heap.objs.size + 1))) (s.heap.objs.size + 1) (.ins C s.heap.objs.size []))
    { s with heap:=(s.heap.push PySem.W.emptyDict).push (PySem.W.instObj C s.heap.objs.size) }:=by
  have e1 : (s.heap.push PySem.W.emptyDict).get? s.heap.objs.size=some PySem.W.emptyDict:=Heap.get?_push_size s.heap rfl
  have e2 : ((s.heap.push PySem.W.emptyDict).push (PySem.W.instObj C s.heap.objs.size)).get? (s.heap.objs.size + 1)=some (PySem.W.instObj C s.heap.objs.size):=by
    have:=Heap.get?_push_size (s.heap.push PySem.W.emptyDict) (o:=PySem.W.instObj C s.heap.objs.size) rfl
    rwa [Heap.size_push] at this
  have e3 : (s.heap.push PySem.W.emptyDict).Ns s.heap.objs.size (fun _=>none):=⟨PySem.W.emptyDict,#[],_,e1,rfl,(fun e he=>absurd he (by simp)),fun _=>rfl⟩
  have I1:=I.laid (a:=s.heap.objs.size) (o:=.own (s.heap.objs.size + 1)) (h':=s.heap.push PySem.W.emptyDict) (t':=s.toks) (fun b u q=>Heap.get?_push_of_some _ q) (Nat.le_refl _) ⟨_,e1⟩
  refine I1.laid (a:=s.heap.objs.size + 1) (o:=.ins C s.heap.objs.size []) (t':=s.toks) (fun b u q=>Heap.get?_push_of_some _ q) (Nat.le_of_eq (Heap.size_push _ _)) ?_
  have ne : s.heap.objs.size≠s.heap.objs.size + 1:=Nat.ne_of_lt (Nat.lt_succ_self _)
  refine ⟨by rw [z0d ne,z0c],Nat.zero_le _,ne,e2,fun _=>none,(Heap.Ns1.of_empty e3).at fun o q=>Heap.get?_push_of_some _ q,fun _=>True.intro,fun y hy=>absurd rfl hy⟩
theorem attr_of {prog : Program} {w : World} {env : Env} {e : Expr} {f : Str} {pos : Pos} {s : Shared} {Q : Value->Shared->Prop} (hb : attributeBase e f env (eval e env)=eval e env)
    (h : wpAny (model prog w) A (eval e env) (fun o s₁=>wpAny (model prog w) A (getAttr o f true) Q E s₁) E s) : wpAny (model prog w) A (eval (.Attribute e f pos) env) Q E s:=
  Attribute_any_ h (by rw [arm_eval_Attribute,hb])
end
noncomputable def tFld (K : PySem.W.Frag) (ta : TE) (f : Str) : TE:=fun σ H Q=>ta σ H fun x H1=>∃ a C dx fs v,x = .ref a∧H1 a=some (.ins C dx fs)∧Cls K C∧NoAttr K C f∧fs.lookup f=some v∧Q v H1
noncomputable def sFld (K : PySem.W.Frag) (ta tv : TE) (f : Str) : TS:=fun D σ H=>tv σ H fun y H1=>ta σ H1 fun x H2=>∃ a C dx fs,x = .ref a∧H2 a=some (.ins C dx fs)∧Cls K C∧NoAttr K C f∧fs.length < 1000 ∧
  D.nx σ (upd H2 a (.ins C dx (z3C f y fs)))
section
variable {X : Cx} {o e value : Expr} {f : Str} {pos pos' tpos : Pos} {ta tv : TE}
theorem z9f (he : PE X e ta) (hb : attributeBase e f X.env (eval e X.env)=eval e X.env) : PE X (.Attribute e f pos) (tFld X.K ta f):=by
  intro pins s σ H Q I h
  refine attr_of hb (thn (he pins s σ H _ I h) fun u s1 ⟨x,H1,I1,rx,a,C,dx,fs,v,ex,ea,c,n,l,q⟩=>?_)
  subst ex
  obtain rfl : u=Value.ref a:=rx
  exact z9N I1 ea c n l fun u' s2 I2 ru=>⟨v,H1,I2,ru,q⟩
theorem z5g (ha : PE X o ta) (hv : PE X value tv) (hs : swapsWith value (some (.Attribute o f pos')) pos.line X.env=pure false) : PS X (.Assign [.Attribute o f pos'] value pos) (sFld X.K ta tv f):=by
  intro pins s σ H D I h
  refine plainObj_wpAny_Assign_Attribute (thn (hv pins s σ H _ I h) fun u s1 ⟨y,H1,I1,ry,q⟩=>thn (ha pins s1 σ H1 _ I1 q) fun ov s2 ⟨x,H2,I2,rx,a,C,dx,fs,ex,ea,c,n,l,q2⟩=>?_) hs
  subst ex
  obtain rfl : ov=Value.ref a:=rx
  exact z9C I2 ea c n l ry fun s3 I3=>⟨σ,_,I3,q2⟩
end
section
variable {X : Cx} {pins : List (Addr × Obj)} {σ : St} {H : Hp} {s : Shared} {A : Around} {E : Value->Shared->Prop} {Q : Value->Shared->Prop} {c : Value} {b : Bool}
inductive TyOf (K : PySem.W.Frag) (H : Hp) : V->Value->Prop where
  | non : TyOf K H .non (.type "NoneType")
  | bl (x : Bool) : TyOf K H (.bl x) (.type "bool")
  | int (i : Int) : TyOf K H (.int i) (.type "int")
  | str (x : Str) : TyOf K H (.str x) (.type "str")
  | flt (x : UInt64) : TyOf K H (.flt x) (.type "float")
  | lst {a : Addr} {xs : List V} (e : H a=some (.lst xs)) : TyOf K H (.ref a) (.type "list")
  | frz {a : Addr} {o : Obj} {xs : List V} (e : H a=some (.frz o (.lst xs))) : TyOf K H (.ref a) (.type "list")
  | tup {a : Addr} {xs : List V} (e : H a=some (.tup xs)) : TyOf K H (.ref a) (.type "tuple")
  | dK {a : Addr} {kvs : List (Key × V)} (e : H a=some (.dK kvs)) : TyOf K H (.ref a) (.type "dict")
  | dT {a : Addr} {kvs : List (List Key × V)} (e : H a=some (.dT kvs)) : TyOf K H (.ref a) (.type "dict")
  | ins {a C dx : Addr} {fs : List (Str × V)} (e : H a=some (.ins C dx fs)) (cl : Cls K C) (ha : PySem.W.findIn K (.ref C) "__class__" = some (some (.builtin "object.__class__")))
      (hn : PySem.W.specialIn K (.builtin "object.__class__") "__get__" = some (some (.builtin "getset_descriptor.__get__"))) (htk : PySem.W.takesIn K (.builtin "object.__class__")=some true)
      (hm : PySem.W.mroIn K C (.type "object")=some true) : TyOf K H (.ref a) (.ref C)
end
end L2
namespace L2
open PySem PySem.Spec PyProof.Rows
structure Room (k : Nat) (A : Around) : Prop where
  hd : A.handled=none
  dp : A.depth + 3 * k + 5 < recursionLimit
  un : A.units + 16 * k + 200 < cLine
theorem Room.mono {j k : Nat} {A : Around} (r : Room k A) (h : j≤k) : Room j A:=⟨r.hd,by have:=r.dp; omega,by have:=r.un; omega⟩
theorem Room.deeper {k : Nat} {A : Around} (r : Room (k + 1) A) (env : Env) : Room k (A.deeper env):=
  ⟨r.hd,by have:=r.dp; show A.depth + 1 + 3 * k + 5 < _; omega,by have:=r.un; show A.units + 3 + 16 * k + 200 < _; omega⟩
theorem z9S {A : Around} {C : Addr} {us : List Value} {kw : List (Str × Value)} : (A.under (.builtin "type.__call__" ⟨.ref C :: us,kw⟩)).depth=A.depth + 1:=by
  first | rfl | simp [Around.under,Code.weight,Code.isCreation,Code.isGuard,Code.isCaller,Code.frames,Code.isFrame,guardIds]
theorem z9I {A : Around} {C : Addr} {us : List Value} {kw : List (Str × Value)} : (A.under (.builtin "type.__call__" ⟨.ref C :: us,kw⟩)).units=A.units + 1:=by
  first | rfl | simp [Around.under,Code.cUnits,Code.frames,Code.isFrame]
theorem Room.make {k : Nat} {A : Around} (r : Room (k + 1) A) (C : Addr) (us : List Value) (kw : List (Str × Value)) : Room k (A.under (.builtin "type.__call__" ⟨.ref C :: us,kw⟩)):=
  ⟨r.hd,by have:=r.dp; rw [z9S]; omega,by have:=r.un; rw [z9I]; omega⟩
theorem Room.depth {k : Nat} {A : Around} (r : Room k A) : A.depth < recursionLimit:=by have:=r.dp; omega
theorem Room.units {k : Nat} {A : Around} (r : Room k A) : A.units + 64 < cLine:=by have:=r.un; omega
noncomputable def tNil : TA:=fun _ H Q=>Q [] H
noncomputable def tCons (ta : TE) (tr : TA) : TA:=fun σ H Q=>ta σ H fun x H1=>tr σ H1 fun xs H2=>Q (x :: xs) H2
section
variable {X : Cx} {e : Expr} {es : List Expr} {te : TE} {t : TA} {pos : Pos}
theorem pa_nil : PA X [] tNil:=fun _ _ _ _ H Q I h=>Calls.spliced_nil ⟨[],H,I,.nil,h⟩
theorem z0y (ha : PE X e te) (hr : PA X es t) (hs : starEach (e :: es) X.env=(false,eval e X.env) :: starEach es X.env:=by rfl) : PA X (e :: es) (tCons te t):=by
  intro pos pins s σ H Q I h
  rw [hs]
  show wpAny _ _ (spliced ((false,eval e X.env) :: backTo pos (starEach es X.env))) _ _ s
  refine Calls.spliced_cons (thn (ha pins s σ H _ I h) fun u s1 ⟨x,H1,I1,r1,q1⟩=>?_)
  exact thn (hr pos pins s1 σ H1 _ I1 q1) fun us s2 ⟨xs,H2,I2,r2,q2⟩=>⟨x :: xs,H2,I2,.cons r1 r2,q2⟩
noncomputable def tTup (t : TA) : TE:=fun σ H Q=>t σ H fun xs H1=>xs.length≤sizeLine∧∀ p,H1 p=none->Q (.ref p) (upd H1 p (.tup xs))
noncomputable def tLst (t : TA) : TE:=fun σ H Q=>t σ H fun xs H1=>xs.length≤sizeLine∧∀ p,H1 p=none->Q (.ref p) (upd H1 p (.lst xs))
theorem y3M {x1} (h : PA X es t) : PE X (.Tuple es x1 pos) (tTup t):=by
  intro pins s σ H Q I hq
  refine wpAny_Tuple_spliced (thn (h pos pins s σ H _ I hq) fun us s1 ⟨xs,H1,I1,r,z,q⟩=>⟨by rw [← r.length]; exact z,?_⟩)
  have hf : H1 s1.heap.objs.size=none:=I1.hok.fresh (Nat.le_refl _)
  refine ⟨.ref s1.heap.objs.size,upd H1 s1.heap.objs.size (.tup xs),I1.laid (t':=s1.toks) (fun b u e=>Heap.get?_push_of_some _ e) (Nat.le_refl _) ?_,rfl,q _ hf⟩
  exact ⟨z,us,r,TupN.new _ _⟩
theorem z8U (h : PA X es t) : PE X (.List es pos) (tLst t):=by
  intro pins s σ H Q I hq
  refine wpAny_List_spliced (thn (h pos pins s σ H _ I hq) fun us s1 ⟨xs,H1,I1,r,z,q⟩=>⟨by rw [← r.length]; exact z,?_⟩)
  have hf : H1 s1.heap.objs.size=none:=I1.hok.fresh (Nat.le_refl _)
  refine ⟨.ref s1.heap.objs.size,upd H1 s1.heap.objs.size (.lst xs),I1.laid (t':=s1.toks) (fun b u e=>Heap.get?_push_of_some _ e) (Nat.le_refl _) ?_,rfl,q _ hf⟩
  exact ⟨z,us,0,r,Heap.get?_push_size _ rfl⟩
end
noncomputable abbrev Sp:=List V->Hp->VK->XK->Prop
noncomputable abbrev CXT:=List Env->Hp->Shared->XK->Value->Shared->Prop
structure Env0 (P : Program) (w : World) (K : PySem.W.Frag) (mg : Str->Option Value) (base : Heap) (A : Around) (outer : List Env) (s : Shared) (H : Hp) : Prop where
  frames : A.frames=some outer
  mod : Mod K mg base
  bs : ∀ b o,base.get? b=some o->s.heap.get? b=some o∧H b=none
  bsz : base.objs.size≤s.heap.objs.size
  funs : s.heap.FunFrames base outer
  frf : ∀ b∈frs outer,H b=none
  hok : HOk P w H s.heap
  bare : AllBare s.gens
noncomputable def CE (outer : List Env) (P : Program) (w : World) (H : Hp) (s : Shared) (Q : VK) (u : Value) (s' : Shared) : Prop:=
  ∃ v H',s'.os=s.os∧AllBare s'.gens∧Un (frs outer) [] H H' s.heap s'.heap∧HOk P w H' s'.heap∧RelV v u∧Q v H'
noncomputable def CR (CX : CXT) (outer : List Env) (P : Program) (w : World) (H : Hp) (s : Shared) (Q : VK) (E : XK) (r : Result) (s' : Shared) : Prop:=
  match r with
  | .ok (.ret u)=>CE outer P w H s Q u s'
  | .ok _=>False
  | .error e=>CX outer H s E e s'
structure FnOk (P : Program) (w : World) (K : PySem.W.Frag) (mg : Str->Option Value) (base : Heap) (CX : CXT) (k : Nat) (f : Addr) (fd : FuncData) (ps : List Str) (sp : Sp) : Prop where
  len : ∀ vs H Q E,sp vs H Q E->vs.length=ps.length
  run : ∀ (A : Around) (outer : List Env) (s : Shared) (H : Hp) (args : Args) (us : List Value) (vs : List V) (Q : VK) (E : XK),Room k A->Env0 P w K mg base A outer s H->BindsTo s fd args (ps.zip us)->Vals vs us->sp vs H Q E →
    codeAny (model P w) A (.call (.ref f) args) (CR CX outer P w H s Q E) s
theorem FnOk.imp {P : Program} {w : World} {K : PySem.W.Frag} {mg : Str->Option Value} {base : Heap} {CX : CXT} {k : Nat} {f : Addr} {fd : FuncData} {ps : List Str} {sp sp' : Sp} (F : FnOk P w K mg base CX k f fd ps sp)
    (h : ∀ vs H Q E,sp' vs H Q E->sp vs H Q E) : FnOk P w K mg base CX k f fd ps sp':=
  ⟨fun vs H Q E q=>F.len vs H Q E (h _ _ _ _ q),fun A outer s H args us vs Q E hr he hb hv hs=>F.run A outer s H args us vs Q E hr he hb hv (h _ _ _ _ hs)⟩
theorem Env0.make {P : Program} {w : World} {K : PySem.W.Frag} {mg : Str->Option Value} {base : Heap} {A : Around} {outer : List Env} {s : Shared} {H : Hp} (e : Env0 P w K mg base A outer s H) (C : Addr) (us : List Value) (kw : List (Str × Value)) :
    Env0 P w K mg base (A.under (.builtin "type.__call__" ⟨.ref C :: us,kw⟩)) outer s H:=⟨by first | exact e.frames | (simpa [Around.under,Code.envs,Code.isFrame,pushEnvs] using e.frames),e.mod,e.bs,e.bsz,e.funs,e.frf,e.hok,e.bare⟩
section
variable {X : Cx} {pins : List (Addr × Obj)} {σ : St} {H : Hp} {s s' : Shared}
theorem Inv.env0 (I : Inv X pins σ H s) : Env0 X.prog X.w X.K X.mg X.base X.A X.stack s H:=
  ⟨I.ok.frames,I.ok.mod,I.bs,Nat.le_trans I.ok.bsz I.sz,I.stack,I.stkFree,I.hok,I.bare⟩
theorem Inv.after {Q : VK} {u : Value} (I : Inv X pins σ H s) (h : CE X.stack X.prog X.w H s Q u s') : EP X pins σ Q u s':=by
  obtain ⟨v,H',os,bare,un,hok,r,q⟩:=h
  obtain ⟨hh,g,d,t,os'⟩:=s'
  obtain rfl : os'=s.os:=os
  exact ⟨v,H',I.call (h':=hh) (g':=g) (d':=d) (t':=t) (ch:=[]) un hok bare (fun b z=>absurd z (by simp)),r,q⟩
end
noncomputable def tCall (sp : Sp) (dvs : List V) (E : XK) (t : TA) : TE:=fun σ H Q=>t σ H fun vs H1=>sp (vs ++ dvs) H1 Q E
noncomputable def tMeth (C : Addr) (m : Str) (sp : Sp) (dvs : List V) (E : XK) (ta : TE) (t : TA) : TE:=fun σ H Q=>ta σ H fun x H1=>∃ a dx fs,x = .ref a∧H1 a=some (.ins C dx fs)∧fs.lookup m=none ∧
  t σ H1 fun vs H2=>sp (x :: (vs ++ dvs)) H2 Q E
noncomputable def tMake (C : Addr) (sp : Sp) (dvs : List V) (E : XK) (t : TA) : TE:=fun σ H Q=>t σ H fun vs H1=>∀ x dx,H1 x=none->H1 dx=none->dx≠x →
  sp (.ref x :: (vs ++ dvs)) (upd (upd H1 dx (.own x)) x (.ins C dx [])) (fun v H2=>v = .non∧Q (.ref x) H2) E
noncomputable def Binds (K : PySem.W.Frag) (fd : FuncData) (ps : List Str) (ds : List Value) : Prop:=
  ∀ (s : Shared) (us : List Value),K.In s.heap->(us ++ ds).length=ps.length->BindsTo s fd ⟨us,[]⟩ (ps.zip (us ++ ds))
theorem Binds.all {K : PySem.W.Frag} {fd : FuncData} {ps : List Str} (h : ∀ us : List Value,us.length=ps.length->bindArgs fd ⟨us,[]⟩=pure (ps.zip us)) : Binds K fd ps []:=fun s us _ hl=>by
  rw [List.append_nil] at hl ⊢
  exact .of_eq (h us hl)
noncomputable def z4R (CX : CXT) (X : Cx) (E : XK) : Prop:=∀ (pins : List (Addr × Obj)) (σ : St) (H : Hp) (s : Shared) (e : Value) (s' : Shared),Inv X pins σ H s->CX X.stack H s E e s'->X.xe e s'
section
variable {X : Cx} {CX : CXT} {k : Nat} {f C : Addr} {fd : FuncData} {ps : List Str} {sp : Sp} {dvs : List V} {ds : List Value} {E : XK} {x m : Str} {p pos apos : Pos} {e o : Expr} {es : List Expr} {ta : TE} {t : TA}
theorem y0N {pins : List (Addr × Obj)} {σ : St} {H : Hp} {s : Shared} {Q : VK} {us : List Value} {vs : List V} (F : FnOk X.prog X.w X.K X.mg X.base CX k f fd ps sp) (hr : Room k X.A) (hb : Binds X.K fd ps ds) (hd : Vals dvs ds) (hx : z4R CX X E)
    (I : Inv X pins σ H s) (r : Vals vs us) (h : sp (vs ++ dvs) H Q E) : wpAny (model X.prog X.w) X.A (call (.ref f) us) (EP X pins σ Q) X.xe s:=by
  have r2 : Vals (vs ++ dvs) (us ++ ds):=r.append hd
  have hl : (us ++ ds).length=ps.length:=by rw [← r2.length]; exact F.len _ _ _ _ h
  refine wpAny_call (codeAny_mono (F.run X.A X.stack s H ⟨us,[]⟩ (us ++ ds) (vs ++ dvs) Q E hr I.env0 (hb s us I.kIn hl) r2 h) fun r s' hq=>?_)
  cases r with
  | error e=>exact hx pins σ H s e s' I hq
  | ok fl=>
    cases fl with
    | ret u=>exact I.after hq
    | next=>exact False.elim hq
    | brk=>exact False.elim hq
    | cont=>exact False.elim hq
theorem pe_call (F : FnOk X.prog X.w X.K X.mg X.base CX k f fd ps sp) (hr : Room k X.A) (hg : Gl X x) (hm : X.mg x=some (.ref f)) (hk : PySem.W.keepIn X.K (.ref f)=true) (hb : Binds X.K fd ps ds) (hd : Vals dvs ds) (hx : z4R CX X E)
    (ha : PA X (e :: es) t) (hdb : (x == ("__debug__" : Str))=false:=by decide) (he : starEach (e :: es) X.env=(false,eval e X.env) :: starEach es X.env:=by rfl) (hpl : (backTo pos (starEach es X.env)).any (·.1)=false:=by rfl) :
    PE X (.Call (.Name x p) (e :: es) [] pos) (tCall sp dvs E t):=by
  intro pins s σ H Q I h
  refine wpAny_Call_Name_kw (z4c I hg hm ?_ hdb)
  refine PySem.W.callWith_K (h₀:=X.base) I.ok.mod.kin hk (thn (ha pos pins s σ H _ I h) fun us s1 ⟨vs,H1,I1,r,q⟩=>⟨I1.kIn,?_⟩) he hpl
  exact y0N F hr hb hd hx I1 r q
theorem pe_meth {pl : Sem Bool} (he : PE X o ta) (c : Cls X.K C) (hm : Meth X.K C m f) (F : FnOk X.prog X.w X.K X.mg X.base CX k f fd ps sp) (hr : Room k X.A) (hb : Binds X.K fd ps ds) (hd : Vals dvs ds) (hx : z4R CX X E) (ha : PA X (e :: es) t)
    (hst : starEach (e :: es) X.env=(false,eval e X.env) :: starEach es X.env:=by rfl) (hpl : (backTo pos (starEach es X.env)).any (·.1)=false:=by rfl)
    (ht : eval (.Call (.Attribute o m apos) (e :: es) [] pos) X.env=(do
      let ov ← eval o X.env
      standAt apos.atName
      let (f,first) ← holding [ov] (getMethod ov m pl)
      callWith pos f first (backTo pos (starEach (e :: es) X.env)) (backToKw pos (keywordEach [] X.env))):=by rfl) :
    PE X (.Call (.Attribute o m apos) (e :: es) [] pos) (tMeth C m sp dvs E ta t):=by
  intro pins s σ H Q I h
  refine PySem.W.methodCall_KW (pl:=pl) (thn (he pins s σ H _ I h) fun u s1 ⟨x,H1,I1,rx,a,dx,fs,ex,ea,l,q⟩=>?_) ht
  subst ex
  obtain rfl : u=Value.ref a:=rx
  refine z3h I1 ea c hm l ?_
  refine PySem.W.callWith_K (first:=[.ref a]) (h₀:=X.base) I.ok.mod.kin hm.kp (thn (ha pos pins s1 σ H1 _ I1 q) fun us s2 ⟨vs,H2,I2,r,q2⟩=>⟨I2.kIn,?_⟩) hst hpl
  exact y0N (us:=.ref a :: us) (vs:=.ref a :: vs) F hr hb hd hx I2 (.cons rfl r) q2
theorem y2Q {pl : Sem Bool} (he : PE X o ta) (c : Cls X.K C) (hm : Meth X.K C m f) (F : FnOk X.prog X.w X.K X.mg X.base CX k f fd ps sp) (hr : Room k X.A) (hb : Binds X.K fd ps ds) (hd : Vals dvs ds) (hx : z4R CX X E)
    (ht : eval (.Call (.Attribute o m apos) [] [] pos) X.env=(do
      let ov ← eval o X.env
      standAt apos.atName
      let (f,first) ← holding [ov] (getMethod ov m pl)
      callWith pos f first (backTo pos (starEach [] X.env)) (backToKw pos (keywordEach [] X.env))):=by rfl) :
    PE X (.Call (.Attribute o m apos) [] [] pos) (tMeth C m sp dvs E ta tNil):=by
  intro pins s σ H Q I h
  refine PySem.W.methodCall_KW (pl:=pl) (thn (he pins s σ H _ I h) fun u s1 ⟨x,H1,I1,rx,a,dx,fs,ex,ea,l,q⟩=>?_) ht
  subst ex
  obtain rfl : u=Value.ref a:=rx
  refine z3h I1 ea c hm l ?_
  exact PySem.W.callWith_K0 (first:=[.ref a]) I1.kIn hm.kp (y0N (us:=[.ref a]) (vs:=[.ref a]) F hr hb hd hx I1 (.cons rfl .nil) q)
structure Mk (K : PySem.W.Frag) (C f : Addr) : Prop where
  makes : PySem.W.makesIn K C=true
  init : PySem.W.findIn K (.ref C) "__init__" = some (some (.ref f))
  fn : PySem.W.isFn K (.ref f)=true
  kp : PySem.W.keepIn K (.ref C)=true
theorem y2h {pins : List (Addr × Obj)} {σ : St} {H : Hp} {s : Shared} {Q : VK} {us : List Value} {vs : List V} (M : Mk X.K C f) (F : FnOk X.prog X.w X.K X.mg X.base CX k f fd ps sp) (hr : Room (k + 1) X.A) (hb : Binds X.K fd ps ds) (hd : Vals dvs ds)
    (hx : z4R CX X E) (I : Inv X pins σ H s) (r : Vals vs us)
    (h : ∀ x dx,H x=none->H dx=none->dx≠x->sp (.ref x :: (vs ++ dvs)) (upd (upd H dx (.own x)) x (.ins C dx [])) (fun v H2=>v = .non∧Q (.ref x) H2) E) :
    wpAny (model X.prog X.w) X.A (call (.ref C) us) (EP X pins σ Q) X.xe s:=by
  have hq:=h (s.heap.objs.size + 1) s.heap.objs.size (I.hok.fresh (Nat.le_succ _)) (I.hok.fresh (Nat.le_refl _)) (Nat.ne_of_lt (Nat.lt_succ_self _))
  have I2:=Inv.made (C:=C) I
  have r2 : Vals (V.ref (s.heap.objs.size + 1) :: (vs ++ dvs)) (Value.ref (s.heap.objs.size + 1) :: (us ++ ds)):=.cons rfl (r.append hd)
  have hl : (Value.ref (s.heap.objs.size + 1) :: us ++ ds).length=ps.length:=by
    have e:=r2.length
    rw [F.len _ _ _ _ hq] at e
    exact e.symm
  refine wpAny_call (y3w (f:=f) I.kIn M.makes M.init (beq_iff_eq.mp M.fn) (codeAny_mono (F.run _ X.stack _ _ ⟨Value.ref (s.heap.objs.size + 1) :: us,[]⟩ (Value.ref (s.heap.objs.size + 1) :: (us ++ ds)) _ _ E (hr.make C us [])
    (I2.env0.make C us []) (hb _ (Value.ref (s.heap.objs.size + 1) :: us) I2.kIn hl) r2 hq) fun r s' hq'=>?_))
  cases r with
  | error e=>exact hx pins σ _ _ e s' I2 hq'
  | ok fl=>
    cases fl with
    | ret u=>
      obtain ⟨v,H',I3,rv,ev,q3⟩:=I2.after hq'
      subst ev
      exact ⟨rv,⟨V.ref (s.heap.objs.size + 1),H',I3,rfl,q3⟩⟩
    | next=>exact False.elim hq'
    | brk=>exact False.elim hq'
    | cont=>exact False.elim hq'
theorem pe_make (M : Mk X.K C f) (F : FnOk X.prog X.w X.K X.mg X.base CX k f fd ps sp) (hr : Room (k + 1) X.A) (hg : Gl X x) (hm : X.mg x=some (.ref C)) (hb : Binds X.K fd ps ds) (hd : Vals dvs ds) (hx : z4R CX X E)
    (ha : PA X (e :: es) t) (hdb : (x == ("__debug__" : Str))=false:=by decide) (he : starEach (e :: es) X.env=(false,eval e X.env) :: starEach es X.env:=by rfl) (hpl : (backTo pos (starEach es X.env)).any (·.1)=false:=by rfl) :
    PE X (.Call (.Name x p) (e :: es) [] pos) (tMake C sp dvs E t):=by
  intro pins s σ H Q I h
  refine wpAny_Call_Name_kw (z4c I hg hm ?_ hdb)
  refine PySem.W.callWith_K (h₀:=X.base) I.ok.mod.kin M.kp (thn (ha pos pins s σ H _ I h) fun us s1 ⟨vs,H1,I1,r,q⟩=>⟨I1.kIn,?_⟩) he hpl
  exact y2h M F hr hb hd hx I1 r q
end
section
variable {X : Cx} {CX : CXT} {k : Nat} {f C : Addr} {fd : FuncData} {ps ks : List Str} {sp : Sp} {E : XK} {x m : Str} {p pos apos kpos : Pos} {e o : Expr} {es : List Expr} {kws : List Keyword} {te ta : TE} {t tk : TA} {nm : Option Str}
structure KBinds (K : PySem.W.Frag) (fd : FuncData) (ps ks : List Str) (g : List Value->List Value->List Value) (gV : List V->List V->List V) : Prop where
  to : ∀ (s : Shared) (us ws : List Value),K.In s.heap->(g us ws).length=ps.length->BindsTo s fd ⟨us,ks.zip ws⟩ (ps.zip (g us ws))
  rel : ∀ {vs : List V} {us : List Value} {zs : List V} {ws : List Value},Vals vs us->Vals zs ws->Vals (gV vs zs) (g us ws)
variable {g : List Value->List Value->List Value} {gV : List V->List V->List V}
end
structure FnScope (N P : List Str) (sc : Scope) : Prop where
  kind : sc.kind = .function
  co : sc.isCoroutine=false
  gen : sc.isGenerator=false
  nd : N.Nodup
  pre : N.take P.length=P
  par : ∀ x∈P,sc.names.lookup x=some .local∨sc.names.lookup x=some .cell
  nofree : ∀ y∈sc.names,y.2≠.free
theorem z6K {kindOf : Str->Option NameKind} {x : Str} : ∀ {binds : List (Str × Value)} {m : Str->Option Value},(∀ v,(x,v) ∉ binds)->bindL kindOf binds m x=m x
  | [],_,_=>rfl
  | (n,v) :: r,m,h=>by
    unfold bindL
    rw [z6K fun w hw=>h w (List.mem_cons_of_mem _ hw)]
    split
    · have : x≠n:=by rintro rfl; exact h v List.mem_cons_self
      simp [this]
    · rfl
theorem z7y {kindOf : Str->Option NameKind} {x : Str} : ∀ {binds : List (Str × Value)} {m : Str->Option Value},(∀ v,(x,v) ∉ binds)->bindC kindOf binds m x=m x
  | [],_,_=>rfl
  | (n,v) :: r,m,h=>by
    unfold bindC
    rw [z7y fun w hw=>h w (List.mem_cons_of_mem _ hw)]
    split
    · rfl
    · have : x≠n:=by rintro rfl; exact h v List.mem_cons_self
      simp [this]
theorem z7x {kindOf : Str->Option NameKind} {x : Str} {v : Value} : ∀ {P : List Str} {vs : List Value} {i : Nat} {m : Str->Option Value},P.Nodup->P[i]? = some x->vs[i]? = some v->kindOf x=some .local →
    bindL kindOf (P.zip vs) m x=some v
  | [],_,_,_,_,h,_,_=>by simp at h
  | _ :: _,[],_,_,_,_,h,_=>by simp at h
  | p :: P,w :: vs,0,m,nd,h1,h2,hk=>by
    simp at h1 h2; subst h1; subst h2
    show bindL kindOf ((p,w) :: P.zip vs) m p=_
    unfold bindL
    rw [z6K fun v hv=>(List.nodup_cons.mp nd).1 (List.of_mem_zip hv).1,if_pos hk]
    simp
  | p :: P,w :: vs,i + 1,m,nd,h1,h2,hk=>by
    show bindL kindOf ((p,w) :: P.zip vs) m x=_
    unfold bindL
    exact z7x (i:=i) (List.nodup_cons.mp nd).2 (by simpa using h1) (by simpa using h2) hk
theorem z6J {kindOf : Str->Option NameKind} {x : Str} {v : Value} : ∀ {P : List Str} {vs : List Value} {i : Nat} {m : Str->Option Value},P.Nodup->P[i]? = some x->vs[i]? = some v->kindOf x≠some .local →
    bindC kindOf (P.zip vs) m x=some v
  | [],_,_,_,_,h,_,_=>by simp at h
  | _ :: _,[],_,_,_,_,h,_=>by simp at h
  | p :: P,w :: vs,0,m,nd,h1,h2,hk=>by
    simp at h1 h2; subst h1; subst h2
    show bindC kindOf ((p,w) :: P.zip vs) m p=_
    unfold bindC
    rw [z7y fun v hv=>(List.nodup_cons.mp nd).1 (List.of_mem_zip hv).1,if_neg hk]
    simp
  | p :: P,w :: vs,i + 1,m,nd,h1,h2,hk=>by
    show bindC kindOf ((p,w) :: P.zip vs) m x=_
    unfold bindC
    exact z6J (i:=i) (List.nodup_cons.mp nd).2 (by simpa using h1) (by simpa using h2) hk
noncomputable def z2h (N : List Str) (vs : List V) : St:=vs.map some ++ List.replicate (N.length - vs.length) none
noncomputable def z6I (CX : CXT) (P : Program) (w : World) (K : PySem.W.Frag) (mg : Str->Option Value) (base : Heap) (N : List Str) (qual : Str) (scope : Scope) (f : Addr) (cd : Value) (A : Around) (outer : List Env) (s : Shared) (H : Hp) (E : XK) : Cx where
  prog:=P
  w:=w
  K:=K
  mg:=mg
  base:=base
  A:=A.deeper (envOfC qual scope s.heap.objs.size f cd)
  N:=N
  s₀:=s
  H₀:=H
  env:=envOfC qual scope s.heap.objs.size f cd
  outer:=outer
  stack:=envOfC qual scope s.heap.objs.size f cd :: outer
  ex:=[]
  calm:=true
  fn:=fun _=>true
  pn:=[]
  xe:=fun e s'=>wpAny (model P w) (A.deeper (envOfC qual scope s.heap.objs.size f cd)) (leaving (envOfC qual scope s.heap.objs.size f cd) e) (fun _ s''=>CX outer H s E e s'') (fun e' s''=>CX outer H s E e' s'') s'
theorem z8z {sc : Scope} {n : Nat} {x : Str} (h : sc.names.lookup x=some .cell) : ∃ c,(cellsFrom n sc.names []).lookup x=some c:=by
  have q:=PySem.W.cellsFrom_some sc.names n [] (.inl h)
  exact Option.isSome_iff_exists.mp q
theorem y1F {CX : CXT} {P : Program} {w : World} {K : PySem.W.Frag} {mg : Str->Option Value} {base : Heap} {N ps : List Str} {qual : Str} {scope : Scope} {f : Addr} {cd : Value} {A : Around} {outer : List Env} {s s1 : Shared} {H : Hp} {E : XK} {us : List Value} {vs : List V}
    (S : FnScope N ps scope) (hd : A.handled=none) (e0 : Env0 P w K mg base A outer s H) (hl : vs.length=ps.length) (r : Vals vs us)
    (x : InCallC s s.heap.objs.size (bindL (envOfC qual scope s.heap.objs.size f cd).kindOf (ps.zip us) fun _=>none) (cellsFrom (s.heap.objs.size + 1) scope.names []) (bindC (envOfC qual scope s.heap.objs.size f cd).kindOf (ps.zip us) fun _=>none) s1) :
    Inv (z6I CX P w K mg base N qual scope f cd A outer s H E) [] (z2h N vs) H s1:=by
  have hpl : ps.length≤N.length:=by have:=congrArg List.length S.pre; rw [List.length_take] at this; omega
  obtain ⟨h1,tk,rfl,hk⟩:=x.done
  have noA : ∀ b : Addr,b ∉ (z6I CX P w K mg base N qual scope f cd A outer s H E).ex:=fun b z=>absurd (show b∈([] : List Addr) from z) (by simp)
  refine ⟨⟨e0.mod,S.kind,rfl,rfl,Nat.le_refl _,fun y z c h1 h2=>?_,fun y hy=>?_,fun y c _ h=>?_,fun _=>hd,Around.frames_deeper e0.frames,.inr ⟨rfl,rfl⟩,fun b z=>absurd z (noA b),e0.bs,e0.bsz,fun b _ _=>noA b,fun b z=>absurd z (noA b),e0.funs,e0.frf⟩,
    rfl,e0.bare,Un.kept hk,⟨_,x.toInCall.ns,fun i y v h1 h2 h3=>?_⟩,fun y c h=>⟨_,x.cell y c h⟩,e0.hok.fresh (Nat.le_refl _),fun y c h=>?_,fun p hp=>absurd (show p∈([] : List (Addr × Obj)) from hp) (by simp),e0.hok.kept hk,?_⟩
  · exact name_of_addr x.apart (PySem.mem_of_lookup h1) (PySem.mem_of_lookup h2)
  · have hy : scope.names.lookup y=some .cell∨scope.names.lookup y=some .free:=hy
    rcases hy with hy | hy
    · exact z8z hy
    · exact absurd rfl (S.nofree _ (PySem.mem_of_lookup hy))
  · exact Nat.le_of_lt (x.above y c (PySem.mem_of_lookup h))
  · have hi : i < vs.length:=by
      unfold z2h at h2
      by_cases hi : i < vs.length
      · exact hi
      · rw [List.getElem?_append_right (by simpa using hi)] at h2
        rw [List.getElem?_replicate] at h2
        split at h2 <;> cases h2
    have ha : vs[i]? = some v:=by
      unfold z2h at h2
      rw [List.getElem?_append_left (by simpa using hi),List.getElem?_map] at h2
      cases e : vs[i]? with
      | none=>rw [e] at h2; cases h2
      | some a=>rw [e] at h2; cases h2; rfl
    obtain ⟨u,hu,rv⟩:=r.get ha
    have hp : ps[i]? = some y:=by
      rw [← S.pre,List.getElem?_take_of_lt (by omega)]; exact h1
    have ndP : ps.Nodup:=by rw [← S.pre]; exact S.nd.sublist (List.take_sublist _ _)
    refine ⟨u,rv,?_⟩
    rcases S.par y (List.mem_of_getElem? hp) with k | k
    · exact .inl ⟨k,z7x ndP hp hu k⟩
    · obtain ⟨c,e⟩:=z8z (n:=s.heap.objs.size + 1) k
      refine .inr ⟨.inl k,c,e,?_⟩
      have q:=x.cell y c e
      rw [z6J ndP hp hu (by show scope.names.lookup y≠_; rw [k]; decide)] at q
      exact q
  · exact e0.hok.fresh (Nat.le_of_lt (x.above y c (PySem.mem_of_lookup h)))
  · unfold z2h
    show _=N.length
    rw [List.length_append,List.length_map,List.length_replicate]
    omega
theorem fn_of {CX : CXT} {P : Program} {w : World} {K : PySem.W.Frag} {mg : Str->Option Value} {base : Heap} {k : Nat} {f : Addr} {name qual : Str} {params : Arguments} {body : List Stmt} {scope : Scope} {dV kV doc pm cdv ct oc : Value} {an od : Option Addr}
    {osl : Array (Option Value)} {N ps : List Str} {sp : Sp} (lk : K.lookup f=some ⟨oc,od,.func (PySem.W.fnOf name qual params body scope dV kV doc pm an cdv ct),osl⟩) (hcd : PySem.W.codeIn K cdv qual=true) (S : FnScope N ps scope)
    (len : ∀ vs H Q E,sp vs H Q E->vs.length=ps.length)
    (hbody : ∀ (A : Around) (outer : List Env) (s : Shared) (H : Hp) (vs : List V) (Q : VK) (E : XK),Room k (A.deeper (envOfC qual scope s.heap.objs.size f cdv))->sp vs H Q E →
      ∃ t,PSs (z6I CX P w K mg base N qual scope f cdv A outer s H E) body t∧t { nx:=fun _ H'=>Q .non H',rt:=Q } (z2h N vs) H) :
    FnOk P w K mg base CX (k + 1) f (PySem.W.fnOf name qual params body scope dV kV doc pm an cdv ct) ps sp:=by
  refine ⟨len,fun A outer s H args us vs Q E hr e0 hb r hsp=>?_⟩
  have hl:=len _ _ _ _ hsp
  have KX : K.In s.heap:=e0.mod.kin.keeps fun b o e=>(e0.bs b o e).1
  have lim : s.heap.NoLimit:=e0.mod.nolimit.keeps fun b o e=>(e0.bs b o e).1
  have hkind : ∀ y∈ps.zip us,scope.names.lookup y.1=some .local∨(scope.names.lookup y.1=some .cell∧((cellsFrom (s.heap.objs.size + 1) scope.names []).lookup y.1).isSome=true):=fun ⟨n,v⟩ hy=>by
    rcases S.par n (List.of_mem_zip hy).1 with q | q
    · exact .inl q
    · exact .inr ⟨q,PySem.W.cellsFrom_some _ _ _ (.inl q)⟩
  refine codeAny_call_function hr.depth (KX _ _ lk) rfl S.co S.gen rfl (PySem.W.codeRec_of KX hcd) (hb _ _ _ _ ?_)
  refine wpAny_newFunctionEnv_cells S.kind hkind fun env he s1 x=>?_
  subst he
  refine ⟨lim.keeps x.toInCall.keep,codeAny_func ?_⟩
  obtain ⟨t,ht,hq⟩:=hbody A outer s H vs Q E (hr.deeper _) hsp
  have I : Inv (z6I CX P w K mg base N qual scope f cdv A outer s H E) [] (z2h N vs) H s1:=y1F S hr.hd e0 hl r x
  refine wpAny_mono (ht [] s1 (z2h N vs) H _ I hq) (fun fl s' hs=>?_) fun e s' hs=>hs
  have fin : ∀ {σ' : St} {H' : Hp} {v : V} {u : Value},Inv (z6I CX P w K mg base N qual scope f cdv A outer s H E) [] σ' H' s'->RelV v u->Q v H'->CE outer P w H s Q u s':=
    fun {σ' H' v u} J rv q=>⟨v,H',J.os,J.bare,J.base,J.hok,rv,q⟩
  cases fl with
  | ret u=>
    obtain ⟨v,σ',H',J,rv,q⟩:=hs
    exact fin J rv q
  | next=>
    obtain ⟨σ',H',J,q⟩:=hs
    exact fin (v:=V.non) (u:=Value.none) J rfl q
  | brk=>
    obtain ⟨_,_,_,q⟩:=hs
    exact False.elim q
  | cont=>
    obtain ⟨_,_,_,q⟩:=hs
    exact False.elim q
end L2
namespace L2
open PySem PySem.Spec PyProof.Rows
section
variable {X : Cx} {x : Str} {p pos : Pos} {e : Expr} {es : List Expr} {t : TA} {id T : String} {r : List V->Hp->VK->Prop}
noncomputable def tCB (r : List V->Hp->VK->Prop) (t : TA) : TE:=fun σ H Q=>t σ H fun vs H1=>r vs H1 Q
theorem z9k (hc : z5l X (.builtin id) r) (hg : Gl X x) (hm : X.mg x=none) (hv : bootBuiltins x=some (.builtin id)) (ha : PA X (e :: es) t) (hn : x ≠ "__name__" := by decide) (hdb : (x == ("__debug__" : Str))=false:=by decide)
    (he : starEach (e :: es) X.env=(false,eval e X.env) :: starEach es X.env:=by rfl) (hpl : (backTo pos (starEach es X.env)).any (·.1)=false:=by rfl) : PE X (.Call (.Name x p) (e :: es) [] pos) (tCB r t):=by
  intro pins s σ H Q I h
  refine wpAny_Call_Name_kw (z7d I hg hm hv ?_ hn hdb)
  exact PyProof.Rows.callWith_builtin1 (thn (ha pos pins s σ H _ I h) fun us s1 ⟨vs,H1,I1,r1,q1⟩=>hc pins s1 σ H1 vs us Q I1 r1 q1) he hpl
theorem z5u (hc : z5l X (.type T) r) (hg : Gl X x) (hm : X.mg x=none) (hv : bootBuiltins x=some (.type T)) (ha : PA X (e :: es) t) (hn : x ≠ "__name__" := by decide) (hdb : (x == ("__debug__" : Str))=false:=by decide)
    (he : starEach (e :: es) X.env=(false,eval e X.env) :: starEach es X.env:=by rfl) (hpl : (backTo pos (starEach es X.env)).any (·.1)=false:=by rfl) : PE X (.Call (.Name x p) (e :: es) [] pos) (tCB r t):=by
  intro pins s σ H Q I h
  refine wpAny_Call_Name_kw (z7d I hg hm hv ?_ hn hdb)
  exact PyProof.Rows.callWith_type1 (thn (ha pos pins s σ H _ I h) fun us s1 ⟨vs,H1,I1,r1,q1⟩=>hc pins s1 σ H1 vs us Q I1 r1 q1) he hpl
end
end L2
namespace HT
open PySem PyProof.Rows
section
open PySem.SeqAt
open PySem.AutoSeq1 (wpAny_loadPart')
open PySem.MeetsSeq PySem.MeetsSeq2 PySem.MeetsSeq3
end
section
variable {prog : Program} {w : World} {A : Around} {E : Value->Shared->Prop} {s : Shared}
noncomputable def sIx (n d : Nat) : Option Int->Nat
  | none=>d
  | some v=>if v < 0 then (v + (n : Int)).toNat else min v.toNat n
theorem z8n (n d k : Nat) : sIx n d (some (k : Int))=min k n:=by
  show (if (k : Int) < 0 then ((k : Int) + (n : Int)).toNat else min (k : Int).toNat n)=min k n
  rw [if_neg (by omega),Int.toNat_natCast]
theorem sIx_le (n d : Nat) (hd : d≤n) (o : Option Int) : sIx n d o≤n:=by
  cases o with
  | none=>exact hd
  | some v=>
    show (if v < 0 then (v + (n : Int)).toNat else min v.toNat n)≤n
    by_cases hv : v < 0
    · rw [if_pos hv]; omega
    · rw [if_neg hv]; exact Nat.min_le_right _ _
theorem y0t (v : Int) (n d : Nat) : (if v < 0 then max (v + (n : Int)) 0 else min v (n : Int))=((sIx n d (some v) : Nat) : Int):=by
  show (if v < 0 then max (v + (n : Int)) 0 else min v (n : Int))=(((if v < 0 then (v + (n : Int)).toNat else min v.toNat n) : Nat) : Int)
  by_cases hv : v < 0
  · simp only [if_pos hv]; omega
  · simp only [if_neg hv]; omega
theorem z9H (lo hi : Option Int) (n : Nat) : Builtin.Slice.sliceAdjust lo hi 1 (n : Int)=(((sIx n 0 lo : Nat) : Int),((sIx n n hi : Nat) : Int)):=by
  have h1 : ¬ ((1 : Int) < 0):=by omega
  unfold Builtin.Slice.sliceAdjust
  simp only [h1,if_false]
  refine Prod.ext ?_ ?_
  · cases lo with
    | none=>rfl
    | some v=>exact y0t v n 0
  · cases hi with
    | none=>rfl
    | some v=>exact y0t v n n
theorem z9Q (i j : Nat) : Builtin.Slice.slicePlaces (i : Int) (j : Int) 1=j - i:=by
  unfold Builtin.Slice.slicePlaces
  have h1 : (1 : Int) > 0:=by omega
  simp only [h1,if_true,Int.ediv_one]
  split <;> omega
theorem z5H {v : Value} {o : Option Int} {Q : Option Int->Shared->Prop} (p : IsPart v o) (h : Q o s) : wpAny (model prog w) A (Builtin.Slice.slicePartIndex v) Q E s:=by
  cases p with
  | none=>exact slicePart_none h
  | int i t=>exact slicePart_int h
theorem z2P {sl : Addr} {vl vu : Value} {lo hi : Option Int} {n : Nat} {Q : Int × Int × Nat->Shared->Prop} (hs : s.heap.IsSliceOf sl vl vu .none) (pl : IsPart vl lo) (pu : IsPart vu hi)
    (h : Q (((sIx n 0 lo : Nat) : Int),1,sIx n n hi - sIx n 0 lo) s) : wpAny (model prog w) A (Builtin.Slice.sliceApplied (.ref sl) (pure (n : Int))) Q E s:=by
  obtain ⟨os,hos,hcs,hds⟩:=id hs
  unfold Builtin.Slice.sliceApplied Builtin.Slice.sliceFields
  refine wpAny_bind (wpAny_bind (wpAny_field hos hds (x:=vl) rfl (wpAny_bind (wpAny_field hos hds (x:=vu) rfl (wpAny_bind (wpAny_field hos hds (x:=.none) rfl (wpAny_pure ?_)))))))
  refine wpAny_bind (slicePart_none ?_)
  show wpAny _ _ (if ((1 : Int) == 0)=true then _ else _) _ _ s
  rw [if_neg (by decide)]
  refine wpAny_bind (z5H pl (wpAny_bind (z5H pu (wpAny_bind (wpAny_pure ?_)))))
  show wpAny _ _ (match Builtin.Slice.sliceAdjust lo hi 1 (n : Int) with | (lo,hi)=>pure (lo,(1 : Int),Builtin.Slice.slicePlaces lo hi 1)) _ _ s
  rw [z9H lo hi n]
  show wpAny _ _ (pure (((sIx n 0 lo : Nat) : Int),(1 : Int),Builtin.Slice.slicePlaces ((sIx n 0 lo : Nat) : Int) ((sIx n n hi : Nat) : Int) 1)) _ _ s
  rw [z9Q]
  exact wpAny_pure h
theorem y2y (xs : Array Value) (i k : Nat) : ((List.range k).filterMap fun (m : Nat)=>xs[((i : Int) + (m : Int) * 1).toNat]?).toArray=((xs.toList.drop i).take k).toArray:=by
  have e : (fun (m : Nat)=>xs[((i : Int) + (m : Int) * 1).toNat]?)=fun m=>xs[i + m]?:=by
    funext m
    have : ((i : Int) + (m : Int) * 1).toNat=i + m:=by omega
    rw [this]
  rw [e]
  have:=pick_run xs i k
  rw [List.filterMap_map] at this
  have e2 : ((fun x=>xs[x]?) ∘ fun x=>i + x)=fun m=>xs[i + m]?:=rfl
  rw [e2] at this
  rw [this]
theorem getItem_tuple_cut {t sl : Addr} {items : Array Value} {vl vu : Value} {lo hi : Option Int} {Q : Value->Shared->Prop} (ht : IsTup s.heap t items) (hs : s.heap.IsSliceOf sl vl vu .none) (pl : IsPart vl lo) (pu : IsPart vu hi)
    (hw : ¬ (sIx items.size 0 lo=0∧sIx items.size items.size hi=items.size))
    (h : Q (.ref s.heap.objs.size) { s with heap:=s.heap.push { cls:=.type "tuple",data:=.seq ((items.toList.drop (sIx items.size 0 lo)).take (sIx items.size items.size hi - sIx items.size 0 lo)).toArray } })
    (hsz : items.size≤sizeLine) : wpAny (model prog w) A (getItem (.ref t) (.ref sl)) Q E s:=by
  have htake : sizeOk (.seq ((items.toList.drop (sIx items.size 0 lo)).take (sIx items.size items.size hi - sIx items.size 0 lo)).toArray):=by
    show ((items.toList.drop (sIx items.size 0 lo)).take (sIx items.size items.size hi - sIx items.size 0 lo)).toArray.size≤sizeLine
    rw [List.size_toArray,List.length_take,List.length_drop,Array.length_toList]
    omega
  have hj : sIx items.size items.size hi≤items.size:=sIx_le _ _ (Nat.le_refl _) hi
  obtain ⟨os,hos,hcs,hds⟩:=id hs
  have hTs : s.TypeIs (.ref sl) "slice" := ⟨os,hos,hcs⟩
  unfold getItem
  try with_reducible refine wpAny_holding ?_
  first | refine wpAny_bind (wpAny_pure ?_) | skip
  refine wpAny_bind (wpAny_sequenceKey ht.typeIs (by decide) ?_)
  refine wpAny_bind (wpAny_callSpecial?_slot (name:=Str.ofString "__getitem__") ht.typeIs PyProof.Rows.slot_tuple_getitem
    (wpAny_call_entry PyProof.Rows.slot_tuple_getitem ht.typeIs entry_tuple_getitem ?_ (args_tuple_getitem _ _)))
  show wpAny _ _ (Builtin.Tuple.tupleItemsOf (.ref t) >>= _) _ _ s
  refine wpAny_bind (tupleItemsOf_ ht ?_)
  refine wpAny_bind (wpAny_typeOf hTs ?_)
  rw [if_pos (by decide)]
  refine wpAny_bind (z2P hs pl pu ?_)
  have hno : ¬ ((((sIx items.size 0 lo : Nat) : Int) == 0 && (1 : Int) == 1 && (sIx items.size items.size hi - sIx items.size 0 lo) == items.size)=true):=by
    intro q
    rw [Bool.and_eq_true,Bool.and_eq_true] at q
    have q1 : ((sIx items.size 0 lo : Nat) : Int)=0:=eq_of_beq q.1.1
    have q2 : sIx items.size items.size hi - sIx items.size 0 lo=items.size:=eq_of_beq q.2
    exact hw ⟨by omega,by omega⟩
  show wpAny _ _ (if (((sIx items.size 0 lo : Nat) : Int) == 0 && (1 : Int) == 1 && (sIx items.size items.size hi - sIx items.size 0 lo) == items.size)=true then _ else _) _ _ s
  rw [if_neg hno,y2y]
  first
    | exact wpAny_bind (m:=Builtin.Tuple.tupleExact _) (wpAny_newObj_type (wpAny_pure ⟨_,rfl,wpAny_pure h⟩) htake)
    | exact wpAny_bind (m:=Builtin.Tuple.tupleExact _) (wpAny_newObj_type (wpAny_bind (wpAny_pure (wpAny_pure ⟨_,rfl,wpAny_pure h⟩))) htake)
    | exact wpAny_bind (wpAny_bind (m:=Builtin.Tuple.tupleExact _) (wpAny_newObj_type (wpAny_pure (wpAny_pure ⟨_,rfl,wpAny_pure h⟩)) htake))
    | exact wpAny_bind (wpAny_bind (m:=Builtin.Tuple.tupleExact _) (wpAny_newObj_type (wpAny_pure ⟨_,rfl,wpAny_pure h⟩) htake))
end
end HT
namespace L2
open PySem PySem.Spec PyProof.Rows
noncomputable abbrev TO:=St->Hp->(Option Int->Hp->Prop)->Prop
noncomputable def PO (X : Cx) (e : Option Expr) (t : TO) : Prop:=
  ∀ (pins : List (Addr × Obj)) (s : Shared) (σ : St) (H : Hp) (Q : Option Int->Hp->Prop),Inv X pins σ H s->t σ H Q →
    wpAny (model X.prog X.w) X.A (evalPart e X.env) (fun u s'=>∃ o H',Inv X pins σ H' s'∧IsPart u o∧Q o H') X.xe s
noncomputable def tNoPart : TO:=fun _ H Q=>Q none H
noncomputable def tPart (t : TE) : TO:=fun σ H Q=>t σ H fun x H1=>∃ i,x = .int i∧Q (some i) H1
section
variable {X : Cx} {e : Expr} {te : TE} {lo hi : Option Expr} {tl th : TO} {pos p2 : Pos}
theorem po_none : PO X none tNoPart:=by
  intro pins s σ H Q I h
  rw [evalPart_none]
  exact wpAny_pure ⟨none,H,I,.none,h⟩
theorem po_some (h : PE X e te) : PO X (some e) (tPart te):=by
  intro pins s σ H Q I hw
  rw [evalPart_some]
  refine thn (h pins s σ H _ I hw) fun u s1 ⟨x,H1,I1,r1,q1⟩=>?_
  obtain ⟨i,rfl,q⟩:=q1
  obtain ⟨t,rfl⟩:=r1
  exact ⟨some i,H1,I1,.int i t,q⟩
noncomputable def SlR (X : Cx) (r : V->Option Int->Option Int->Hp->VK->Prop) : Prop:=
  ∀ (pins : List (Addr × Obj)) (s : Shared) (σ : St) (H : Hp) (x : V) (v vl vu : Value) (lo hi : Option Int) (sl : Addr) (Q : VK),Inv X pins σ H s->RelV x v->s.heap.IsSliceOf sl vl vu .none->IsPart vl lo->IsPart vu hi->r x lo hi H Q →
    ∃ T id,typeLookup (.type T) "__getitem__" = pure (some (.builtin id))∧s.TypeIs v T∧wpAny (model X.prog X.w) X.A (getItem v (.ref sl)) (EP X pins σ Q) X.xe s
noncomputable def tSl (r : V->Option Int->Option Int->Hp->VK->Prop) (te : TE) (tl th : TO) : TE:=fun σ H Q=>te σ H fun x H1=>tl σ H1 fun l H2=>th σ H2 fun u H3=>r x l u H3 Q
theorem z8J {r : V->Option Int->Option Int->Hp->VK->Prop} (hr : SlR X r) (he : PE X e te) (hl : PO X lo tl) (hu : PO X hi th) : PE X (.Subscript e (.Slice lo hi none p2) pos) (tSl r te tl th):=by
  intro pins s σ H Q I h
  refine Subscript_ (thn (he pins s σ H _ I h) fun v s1 ⟨x,H1,I1,r1,q1⟩=>?_)
  refine wpAny_Slice (thn (hl pins s1 σ H1 _ I1 q1) fun vl s2 ⟨l,H2,I2,pl,q2⟩=>thn (hu pins s2 σ H2 _ I2 q2) fun vu s3 ⟨u,H3,I3,pu,q3⟩=>?_)
  rw [evalPart_none]
  refine wpAny_pure ?_
  have I4 : Inv X pins σ H3 { s3 with heap:=s3.heap.push { cls:=.type "slice",data:=.fields #[vl,vu,.none] } }:=I3.kept (t':=s3.toks) fun b ob q=>Heap.get?_push_of_some _ q
  obtain ⟨T,id,hT,ht,hg⟩:=hr pins { s3 with heap:=s3.heap.push { cls:=.type "slice",data:=.fields #[vl,vu,.none] } } σ H3 x v vl vu l u s3.heap.objs.size Q I4 r1 (Heap.IsSliceOf.new ..) pl pu q3
  show wpAny (model X.prog X.w) X.A (subscriptTail e (.Slice lo hi none p2) v (.ref s3.heap.objs.size)) (EP X pins σ Q) X.xe { s3 with heap:=s3.heap.push { cls:=.type "slice",data:=.fields #[vl,vu,.none] } }
  exact tail_any (ops:=[.ref s3.heap.objs.size,v]) ht hT hg (by with_unfolding_all rfl)
noncomputable def z9T (xs : List V) (lo hi : Option Int) : List V:=(xs.drop (HT.sIx xs.length 0 lo)).take (HT.sIx xs.length xs.length hi - HT.sIx xs.length 0 lo)
theorem z5n (xs : List V) (lo hi : Option Int) : (z9T xs lo hi).length≤xs.length:=by
  unfold z9T
  rw [List.length_take,List.length_drop]
  omega
end
end L2
namespace L2
open PySem PySem.Spec PyProof.Rows
noncomputable def ixN (n : Nat) (i : Int) : Option Nat:=if 0≤i then (if i < n then some i.toNat else none) else if -(n : Int)≤i then some (i + n).toNat else none
noncomputable def atI {α : Type} (xs : List α) (i : Int) : Option α:=(ixN xs.length i).bind fun j=>xs[j]?
theorem z7V {n : Nat} {i : Int} {j : Nat} (h : ixN n i=some j) : seqIndex? i n=some j∧j < n∧-(n : Int)≤i∧i < n:=by
  unfold ixN at h
  by_cases h0 : 0≤i
  · rw [if_pos h0] at h
    by_cases h1 : i < n
    · rw [if_pos h1] at h
      have e : i.toNat=j:=Option.some.inj h
      exact ⟨by rw [seqIndex_of h0 h1,e],by omega,by omega,h1⟩
    · rw [if_neg h1] at h; cases h
  · rw [if_neg h0] at h
    by_cases h1 : -(n : Int)≤i
    · rw [if_pos h1] at h
      have e : (i + n).toNat=j:=Option.some.inj h
      exact ⟨by rw [seqIndex_neg (by omega) h1,e],by omega,h1,by omega⟩
    · rw [if_neg h1] at h; cases h
theorem z8i {α : Type} {xs : List α} {i : Int} {v : α} (h : atI xs i=some v) : ∃ j,seqIndex? i xs.length=some j∧xs[j]? = some v∧j < xs.length∧-(xs.length : Int)≤i∧i < xs.length:=by
  unfold atI at h
  cases e : ixN xs.length i with
  | none=>rw [e] at h; cases h
  | some j=>
    rw [e] at h
    obtain ⟨h1,h2,h3,h4⟩:=z7V e
    exact ⟨j,h1,h,h2,h3,h4⟩
theorem z2q {α : Type} {xs : List α} {j : Nat} {v : α} (h : xs[j]? = some v) : atI xs (j : Int)=some v:=by
  have hj : j < xs.length:=(List.getElem?_eq_some_iff.mp h).1
  have e : ixN xs.length (j : Int)=some j:=by
    unfold ixN
    rw [if_pos (by omega),if_pos (by omega)]; simp
  unfold atI; rw [e]; exact h
noncomputable def y0O (b : Expr) : Prop:=∀ o i,subscripted b false o i=operate [o,i] (getItem o i)
noncomputable def IxR (X : Cx) (r : R2) : Prop:=
  ∀ (value slice : Expr) (pins : List (Addr × Obj)) (s : Shared) (σ : St) (H : Hp) (x y : V) (v u : Value) (Q : VK),Inv X pins σ H s->RelV x v->RelV y u->r x y H Q →
    subscripted slice false v u=operate [v,u] (getItem v u)->wpAny (model X.prog X.w) X.A (subscriptTail value slice v u) (EP X pins σ Q) X.xe s
noncomputable def MtR (X : Cx) (id : String) (r : V->List V->Hp->VK->Prop) : Prop:=
  ∀ (pins : List (Addr × Obj)) (s : Shared) (σ : St) (H : Hp) (x : V) (xs : List V) (v : Value) (us : List Value) (Q : VK),Inv X pins σ H s->RelV x v->Vals xs us->r x xs H Q →
    wpAny (model X.prog X.w) X.A (call (.builtin id) (v :: us)) (EP X pins σ Q) X.xe s
section
variable {X : Cx} {a b : Expr} {ta tb : TE} {pos : Pos}
theorem IxR.or {r r' : R2} (h : IxR X r) (h' : IxR X r') : IxR X (fun x y H Q=>r x y H Q∨r' x y H Q):=by
  intro value slice pins s σ H x y v u Q I rx ry q hs
  rcases q with q | q
  · exact h value slice pins s σ H x y v u Q I rx ry q hs
  · exact h' value slice pins s σ H x y v u Q I rx ry q hs
theorem pe_ix {r : R2} (hr : IxR X r) (ha : PE X a ta) (hb : PE X b tb) (hs : y0O b) : PE X (.Subscript a b pos) (tOp r ta tb):=by
  intro pins s σ H Q I h
  exact Subscript_ (binT ha hb I h fun v u s2 x y H2 I2 rx ry q=>hr a b pins s2 σ H2 x y v u Q I2 rx ry q (hs _ _))
noncomputable def rIxL (K : PySem.W.Frag) : R2:=fun x y H Q=>∃ p xs i v,x = .ref p∧y = .int i∧SqL K H p xs∧atI xs i=some v∧Q v H
noncomputable def rIxT (K : PySem.W.Frag) : R2:=fun x y H Q=>∃ p xs i v,x = .ref p∧y = .int i∧SqT K H p xs∧atI xs i=some v∧Q v H
noncomputable def rIxS : R2:=fun x y H Q=>∃ z i c,x = .str z∧y = .int i∧z.length≤sizeLine∧atI z.cps.toList i=some c∧Q (.str ⟨#[c]⟩) H
theorem ix_list : IxR X (rIxL X.K):=by
  intro value slice pins s σ H x y v u Q I rx ry h hs
  obtain ⟨p,xs,i,z,rfl,rfl,hq,he,q⟩:=h
  cases rx
  obtain ⟨t,rfl⟩:=ry
  obtain ⟨its,r,pl,hz⟩:=I.list hq
  obtain ⟨j,h1,h2,h3,h4,h5⟩:=z8i he
  obtain ⟨w,ew,rw'⟩:=r.get h2
  have hl:=r.length
  have hn:=z5K
  have fin : EP X pins σ Q w s:=⟨z,H,I,rw',q⟩
  by_cases h0 : 0≤i
  · have hj : i.toNat=j:=by
      rw [seqIndex_of h0 h5] at h1
      exact Option.some.inj h1
    exact item_listR pl.isList h0 (by omega) (by rw [hj]; simpa using ew) fin hs
  · have hj : (i + (its.toArray.size : Int)).toNat=j:=by
      rw [seqIndex_neg (by omega) h4] at h1
      rw [List.size_toArray,← hl]
      exact Option.some.inj h1
    exact subscriptTail_builtinR (x:=w) pl.isList.typeIs slot_list_getitem.lookup
      (wpAny_getItem_list_neg (Q:=fun r s'=>r=w∧EP X pins σ Q r s') pl.isList (by omega) (by rw [List.size_toArray] <;> omega) (by omega) (by rw [hj]; simpa using ew) ⟨rfl,fin⟩) hs
theorem ix_tup : IxR X (rIxT X.K):=by
  intro value slice pins s σ H x y v u Q I rx ry h hs
  obtain ⟨p,xs,i,z,rfl,rfl,hq,he,q⟩:=h
  cases rx
  obtain ⟨t,rfl⟩:=ry
  obtain ⟨its,r,pl,hz⟩:=I.tuple hq
  obtain ⟨j,h1,h2,h3,h4,h5⟩:=z8i he
  obtain ⟨w,ew,rw'⟩:=r.get h2
  have hl:=r.length
  have hn:=z5K
  have fin : EP X pins σ Q w s:=⟨z,H,I,rw',q⟩
  exact subscriptTail_builtinR (x:=w) pl.typeIs slot_tuple_getitem.lookup
    (getItem_tuple (j:=j) (Q:=fun r s'=>r=w∧EP X pins σ Q r s') pl (by omega) (by omega) (by rw [List.size_toArray,← hl]; exact h1) (by simpa using ew) ⟨rfl,fin⟩) hs
theorem ix_str : IxR X rIxS:=by
  intro value slice pins s σ H x y v u Q I rx ry h hs
  obtain ⟨z,i,c,rfl,rfl,hz,he,q⟩:=h
  obtain ⟨t,rfl⟩:=rx
  obtain ⟨t',rfl⟩:=ry
  obtain ⟨j,h1,h2,h3,h4,h5⟩:=z8i he
  have hl : z.cps.toList.length=z.length:=by simp [Str.length]
  rw [hl] at h1 h4 h5
  have hn:=z5K
  exact tail_any (typeIs_str s z t) slot_str_getitem.lookup (getItem_str (c:=c) (by
    have e1 : decide (i < -(2 ^ 63 : Int))=false:=decide_eq_false (by omega)
    have e2 : decide (i ≥ 2 ^ 63)=false:=decide_eq_false (by omega)
    rw [e1,e2,Bool.or_false]) (by rw [h1]; simpa using h2) ⟨.str ⟨#[c]⟩,H,I.tok _,⟨_,rfl⟩,q⟩) hs
noncomputable def rIx (K : PySem.W.Frag) : R2:=fun x y H Q=>rIxL K x y H Q∨rIxT K x y H Q∨rIxS x y H Q
theorem ix_seq : IxR X (rIx X.K):=ix_list.or (ix_tup.or ix_str)
theorem z9m (its : List Value) (n j : Nat) (u : Value) : Obj.mapSeq (·.setIfInBounds j u) { cls:=.type "list",data:=.seq its.toArray n } = { cls:=.type "list",data:=.seq (its.set j u).toArray n }:=by
  simp [Obj.mapSeq]
theorem Inv.lst {pins : List (Addr × Obj)} {σ : St} {H : Hp} {s : Shared} {p : Addr} {xs : List V} (I : Inv X pins σ H s) (h : H p=some (.lst xs)) :
    ∃ (its : List Value) (n : Nat),Vals xs its∧s.heap.get? p=some { cls:=.type "list",data:=.seq its.toArray n }∧xs.length≤sizeLine:=by
  obtain ⟨z,its,n,r,e⟩:=I.hok p _ h
  exact ⟨its,n,r,e,z⟩
theorem Inv.lstUpd {pins : List (Addr × Obj)} {σ : St} {H : Hp} {s : Shared} {p : Addr} {xs ys : List V} {its its' : List Value} {n n' : Nat} {f : Obj->Obj} (I : Inv X pins σ H s) (h : H p=some (.lst xs))
    (ho : s.heap.get? p=some { cls:=.type "list",data:=.seq its.toArray n }) (hf : f { cls:=.type "list",data:=.seq its.toArray n } = { cls:=.type "list",data:=.seq its'.toArray n' }) (r : Vals ys its') (hz : ys.length≤sizeLine) (t : Nat) :
    Inv X pins σ (upd H p (.lst ys)) { s with heap:=s.heap.update p f,toks:=t }:=by
  have e : (s.heap.update p f).get? p=some { cls:=.type "list",data:=.seq its'.toArray n' }:=by
    rw [Heap.get?_update_self f ho (by rw [hf] <;> rfl),hf]
  refine I.write (x:=p) (e:=p) (by rw [h]; trivial) (.inl rfl) (fun b u hb q=>(Heap.get?_update_other _ _ (Ne.symm hb)).trans q) ⟨_,e⟩ ?_
  exact ⟨hz,its',n',r,e⟩
noncomputable def rSetL : V->V->V->Hp->(Hp->Prop)->Prop:=fun o i v H Q=>∃ p xs k j,o = .ref p∧i = .int k∧H p=some (.lst xs)∧ixN xs.length k=some j∧Q (upd H p (.lst (xs.set j v)))
theorem y2C : PSet X rSetL:=by
  intro pins s σ H o i v ov iv u Q I ro ri rv h
  obtain ⟨p,xs,k,j,rfl,rfl,hp,hj,q⟩:=h
  cases ro
  obtain ⟨t,rfl⟩:=ri
  obtain ⟨its,n,r,ho,hz⟩:=I.lst hp
  obtain ⟨h1,h2,h3,h4⟩:=z7V hj
  have hl:=r.length
  have hn:=z5K
  have I' : Inv X pins σ (upd H p (.lst (xs.set j v))) { s with heap:=s.heap.update p (Obj.mapSeq (·.setIfInBounds j u)) }:=
    I.lstUpd hp ho (z9m its n j u) (r.set rv j) (by rw [List.length_set]; exact hz) s.toks
  by_cases h0 : 0≤k
  · have hk : k.toNat=j:=by
      rw [seqIndex_of h0 h4] at h1
      exact Option.some.inj h1
    exact PySem.W.ki_setAt ho h0 (by omega) (by rw [List.size_toArray,← hl]; exact h4) (by rw [hk]; exact ⟨_,I',q⟩)
  · have hk : (k + (its.toArray.size : Int)).toNat=j:=by
      rw [seqIndex_neg (by omega) h3] at h1
      rw [List.size_toArray,← hl]
      exact Option.some.inj h1
    exact PySem.W.ki_setBack ho (by omega) (by rw [List.size_toArray,← hl]; exact h3) (by omega) (by rw [hk]; exact ⟨_,I',q⟩)
theorem y4f (i : Int) (n d : Nat) : max 0 (min (if i < 0 then i + (n : Int) else i) (n : Int))=((HT.sIx n d (some i) : Nat) : Int):=by
  show max 0 (min (if i < 0 then i + (n : Int) else i) (n : Int))=(((if i < 0 then (i + (n : Int)).toNat else min i.toNat n) : Nat) : Int)
  by_cases h : i < 0
  · simp only [h,if_true]; omega
  · simp only [h,if_false]; omega
theorem z6U (lo hi : Option Int) (n : Nat) : (sliceBounds lo hi none n).1=((HT.sIx n 0 lo : Nat) : Int)∧(sliceBounds lo hi none n).2.1=((HT.sIx n n hi : Nat) : Int)∧(sliceBounds lo hi none n).2.2=1:=by
  refine ⟨?_,?_,rfl⟩
  · cases lo with
    | none=>simp [sliceBounds,HT.sIx]
    | some i=>
      simp only [sliceBounds,Option.getD_none,show (1 : Int) > 0 by decide,if_true]
      exact y4f i n 0
  · cases hi with
    | none=>simp [sliceBounds,HT.sIx]
    | some i=>
      simp only [sliceBounds,Option.getD_none,show (1 : Int) > 0 by decide,if_true]
      exact y4f i n n
theorem z5U (its : List Value) (lo hi : Option Int) : slicePick its.toArray lo hi none=((its.drop (HT.sIx its.length 0 lo)).take (HT.sIx its.length its.length hi - HT.sIx its.length 0 lo)).toArray:=by
  obtain ⟨h1,h2,h3⟩:=z6U lo hi its.toArray.size
  unfold slicePick
  rw [h1,h2,h3]
  simp only [sliceRange_one,pick_run,List.size_toArray] <;> rfl
noncomputable def rSlL (K : PySem.W.Frag) : V->Option Int->Option Int->Hp->VK->Prop:=fun x lo hi H Q=>∃ a xs,x = .ref a∧SqL K H a xs∧∀ p,H p=none->Q (.ref p) (upd H p (.lst (z9T xs lo hi)))
theorem sl_list : SlR X (rSlL X.K):=by
  intro pins s σ H x v vl vu lo hi sl Q I rx hs pl pu h
  obtain ⟨a,xs,rfl,hx,q⟩:=h
  cases rx
  obtain ⟨its,r,ht,hz⟩:=I.list hx
  have hlen:=r.length
  refine ⟨"list",_,slot_list_getitem.lookup,ht.isList.typeIs,?_⟩
  refine wpAny_getItem_list_slice ht.isList hs pl pu .none (by simp) ?_ (by rw [List.size_toArray] <;> omega)
  rw [z5U,← hlen]
  refine ⟨.ref s.heap.objs.size,_,I.laid (t':=s.toks) (o:=.lst (z9T xs lo hi)) (fun b ob q=>Heap.get?_push_of_some _ q) (Nat.le_refl _) ?_,rfl,q _ (I.hok.fresh (Nat.le_refl _))⟩
  exact ⟨Nat.le_trans (z5n xs lo hi) hz,_,0,(r.drop (HT.sIx xs.length 0 lo)).take (HT.sIx xs.length xs.length hi - HT.sIx xs.length 0 lo),Heap.get?_push_size _ rfl⟩
theorem z6X : z5l X (.type "list") (fun xs H Q=>∃ p ys,xs=[.ref p]∧(SqL X.K H p ys∨SqT X.K H p ys)∧∀ l,H l=none->Q (.ref l) (upd H l (.lst ys))):=by
  intro pins s σ H xs us Q I r h
  obtain ⟨p,ys,rfl,hq,q⟩:=h
  obtain ⟨u,rfl,rx⟩:=y2n r
  cases rx
  have fin : ∀ (its : List Value),Vals ys its->ys.length≤sizeLine->∀ (h' : Heap) (c' : Nat),(∀ b o',s.heap.get? b=some o'->h'.get? b=some o') →
      h'.get? s.heap.objs.size=some { cls:=.type "list",dict:=none,data:=.seq its.toArray c',slots:=#[] }->EP X pins σ Q (.ref s.heap.objs.size) { s with heap:=h' }:=fun its r' hz h' c' kp e=>
    ⟨.ref s.heap.objs.size,_,I.laid (t':=s.toks) kp (Nat.le_refl _) (show ObjOk X.prog X.w _ h' _ (.lst ys) from ⟨hz,its,c',r',e⟩),rfl,q _ (I.hok.fresh (Nat.le_refl _))⟩
  rcases hq with hq | hq
  · obtain ⟨its,r',pl,hz⟩:=I.list hq
    have hlen:=r'.length
    obtain ⟨o,ho,hc,n,hd⟩:=pl.isList
    exact call_list_seq p (.inl rfl) ho hc hd (fun h' c' kp e=>fin its r' hz h' c' kp e) (by simp only [List.size_toArray] <;> omega)
  · obtain ⟨its,r',pl,hz⟩:=I.tuple hq
    have hlen:=r'.length
    obtain ⟨o,ho,hc,n,hd⟩:=pl
    exact call_list_seq p (.inr rfl) ho hc hd (fun h' c' kp e=>fin its r' hz h' c' kp e) (by simp only [List.size_toArray] <;> omega)
theorem z6C : z5l X (.type "tuple") (fun xs H Q=>∃ p ys,xs=[.ref p]∧((SqL X.K H p ys∧∀ l,H l=none->Q (.ref l) (upd H l (.tup ys)))∨(SqT X.K H p ys∧Q (.ref p) H))):=by
  intro pins s σ H xs us Q I r h
  obtain ⟨p,ys,rfl,h⟩:=h
  obtain ⟨u,rfl,rx⟩:=y2n r
  cases rx
  rcases h with ⟨hq,q⟩ | ⟨hq,q⟩
  · obtain ⟨its,r',pl,hz⟩:=I.list hq
    have hlen:=r'.length
    refine call_tuple_list pl.isList (fun h' kp=>?_) (by simp only [List.size_toArray] <;> omega)
    have I1 : Inv X pins σ H { s with heap:=h' }:=I.kept (t':=s.toks) kp
    have I2 : Inv X pins σ (upd H h'.objs.size (.tup ys)) { s with heap:=h'.push { cls:=.type "tuple",data:=.seq its.toArray } }:=
      I1.laid (t':=s.toks) (fun b o e=>Heap.get?_push_of_some _ e) (Nat.le_refl _) (show ObjOk X.prog X.w _ _ _ (.tup ys) from ⟨hz,its,r',TupN.new _ _⟩)
    exact ⟨.ref h'.objs.size,_,I2,rfl,q _ (I1.hok.fresh (Nat.le_refl _))⟩
  · obtain ⟨its,r',pl,hz⟩:=I.tuple hq
    exact call_tuple_same pl ⟨.ref p,H,I,rfl,q⟩
noncomputable def tyV (K : PySem.W.Frag) (T : String) (x : V) (H : Hp) : Prop:=match x with
  | .str _=>T = "str"
  | .int _=>T = "int"
  | .ref p=>(T = "list" ∧ ∃ xs,SqL K H p xs)∨(T = "tuple" ∧ ∃ o,K.lookup p=some o∧o.cls = .type "tuple" ∧ o.dict=none) ∨
      (T = "dict" ∧ ((∃ kvs,H p=some (.dK kvs))∨∃ kvs,H p=some (.dT kvs)))∨(T = "set" ∧ ∃ S n,H p=some (.set S n))
  | _=>False
theorem y4l {pins : List (Addr × Obj)} {σ : St} {H : Hp} {s : Shared} {T : String} {x : V} {v : Value} (I : Inv X pins σ H s) (r : RelV x v) (ty : tyV X.K T x H) :
    s.TypeIs v T∧∀ a,v = .ref a->∃ ob,s.heap.get? a=some ob∧ob.dict=none:=by
  cases x with
  | str z=>
    obtain ⟨t,rfl⟩:=r
    cases (show T = "str" from ty)
    exact ⟨typeIs_str s z t,fun _ e=>nomatch e⟩
  | int i=>
    obtain ⟨t,rfl⟩:=r
    cases (show T = "int" from ty)
    exact ⟨typeIs_int s i t,fun _ e=>nomatch e⟩
  | ref p=>
    cases r
    rcases ty with ⟨rfl,xs,hq⟩ | ⟨rfl,o,hk,hc,hd⟩ | ⟨rfl,hk⟩ | ⟨rfl,S,n,hk⟩
    · obtain ⟨its,_,pl,_⟩:=I.list hq
      refine ⟨pl.isList.typeIs,fun a e=>?_⟩
      cases e
      obtain ⟨o,n,e,c,hd,_⟩:=pl
      exact ⟨o,e,hd⟩
    · refine ⟨⟨o,I.kIn p o hk,hc⟩,fun a e=>?_⟩
      cases e
      exact ⟨o,I.kIn _ o hk,hd⟩
    · have z : ∃ o,s.heap.get? p=some o∧o.ExactDict:=by
        rcases hk with ⟨kvs,hk⟩ | ⟨kvs,hk⟩
        · obtain ⟨_,_,_,_,o,_,_,e,ex,_⟩:=I.hok p _ hk
          exact ⟨o,e,ex⟩
        · obtain ⟨_,_,_,_,o,_,_,e,ex,_⟩:=I.hok p _ hk
          exact ⟨o,e,ex⟩
      obtain ⟨o,e,ex⟩:=z
      refine ⟨⟨o,e,ex.1⟩,fun a e2=>?_⟩
      cases e2
      exact ⟨o,e,ex.2.1⟩
    · obtain ⟨o,_,_,_,e,ex,_⟩:=I.hok p _ hk
      refine ⟨⟨o,e,ex.1⟩,fun a e2=>?_⟩
      cases e2
      exact ⟨o,e,ex.2.1⟩
  | _=>exact False.elim ty
noncomputable def tBM0 (K : PySem.W.Frag) (T : String) (r : V->List V->Hp->VK->Prop) (to : TE) : TE:=fun σ H Q=>to σ H fun x H1=>tyV K T x H1∧r x [] H1 Q
noncomputable def tBM (K : PySem.W.Frag) (T : String) (r : V->List V->Hp->VK->Prop) (to : TE) (t : TA) : TE:=fun σ H Q=>to σ H fun x H1=>tyV K T x H1∧t σ H1 fun xs H2=>r x xs H2 Q
variable {o e : Expr} {es : List Expr} {to : TE} {t : TA} {name : Str} {apos cpos : Pos} {T id : String} {r : V->List V->Hp->VK->Prop}
theorem y3V (pa : PlainAttrs T) (slot : Slot T name id) (hty : typeOf (.builtin id)=pure (.type "method_descriptor")) (hm : MtR X id r) (ho : PE X o to)
    (hbase : attributeBase o name X.env (eval o X.env)=eval o X.env:=by rfl) (hline : (apos.endLine == cpos.line)=true:=by rfl) : PE X (.Call (.Attribute o name apos) [] [] cpos) (tBM0 X.K T r to):=by
  intro pins s σ H Q I h
  refine wpAny_Call_method0_late hbase hline (thn (ho pins s σ H _ I h) fun v s1 ⟨x,H1,I1,r1,ty,q1⟩=>?_)
  obtain ⟨h1,h2⟩:=y4l I1 r1 ty
  exact ⟨T,id,pa,slot,hty,h1,h2,Calls.callWith_builtin rfl (PySem.evalArgs_none (hm pins s1 σ H1 x [] v [] Q I1 r1 .nil q1))⟩
theorem z9y (pa : PlainAttrs T) (slot : Slot T name id) (hty : typeOf (.builtin id)=pure (.type "method_descriptor")) (hm : MtR X id r) (ho : PE X o to) (ha : PA X (e :: es) t)
    (hbase : attributeBase o name X.env (eval o X.env)=eval o X.env:=by rfl)
    (hfew : ((backTo cpos (starEach (e :: es) X.env)).all (fun x=>!x.1) && (backToKw cpos (keywordEach [] X.env)).all (fun x=>x.1.isSome)
      && decide ((e :: es).length + ([] : List Keyword).length + (if ([] : List Keyword).isEmpty then 0 else 1) < 30))=true:=by rfl)
    (hline : (apos.endLine == cpos.line)=true:=by rfl) (hs : starEach (e :: es) X.env=(false,eval e X.env) :: starEach es X.env:=by rfl) (hplain : (backTo cpos (starEach es X.env)).any (·.1)=false:=by rfl) :
    PE X (.Call (.Attribute o name apos) (e :: es) [] cpos) (tBM X.K T r to t):=by
  intro pins s σ H Q I h
  refine wpAny_Call_method_late hbase hfew hline rfl (thn (ho pins s σ H _ I h) fun v s1 ⟨x,H1,I1,r1,ty,q1⟩=>?_)
  obtain ⟨h1,h2⟩:=y4l I1 r1 ty
  refine ⟨T,id,pa,slot,hty,h1,h2,?_⟩
  have hA:=ha cpos pins s1 σ H1 _ I1 q1
  rw [hs] at hA ⊢
  refine Calls.callWith_builtin (by show (false || (backTo cpos (starEach es X.env)).any (·.1))=false; rw [hplain] <;> rfl) (Calls.evalArgs_plain ?_)
  exact thn hA fun us s2 ⟨vs,H2,I2,r2,q2⟩=>hm pins s2 σ H2 x vs v us Q I2 r1 r2 q2
end
end L2
namespace L2
open PySem PySem.Spec PyProof.Rows
noncomputable def MtM (X : Cx) (id : String) (r : V->List V->Hp->VK->Prop) : Prop:=
  ∀ (pins : List (Addr × Obj)) (s : Shared) (σ : St) (H : Hp) (x : V) (xs : List V) (v : Value) (us : List Value) (Q : VK),Inv X pins σ H s->RelV x v->Vals xs us->r x xs H Q →
    wpAny (model X.prog X.w) X.A (call (.builtin id) (v :: us)) (EP X pins σ Q) X.xe s
theorem Vals.one : ∀ {x : V} {us : List Value},Vals [x] us->∃ u,us=[u]∧RelV x u:=fun h=>by
  cases h with | cons r h=>cases h; exact ⟨_,rfl,r⟩
theorem Vals.zero : ∀ {us : List Value},Vals [] us->us=[]
  | _,.nil=>rfl
theorem Vals.dropLast {xs : List V} {us : List Value} (h : Vals xs us) : Vals xs.dropLast us.dropLast:=by
  induction h with
  | nil=>exact .nil
  | cons r t ih=>
    cases t with
    | nil=>exact .nil
    | cons q t'=>exact .cons r ih
theorem Vals.eraseIdx : ∀ {xs : List V} {us : List Value} (i : Nat),Vals xs us->Vals (xs.eraseIdx i) (us.eraseIdx i)
  | _,_,_,.nil=>.nil
  | _,_,0,.cons _ t=>t
  | _,_,i + 1,.cons r t=>.cons r (Vals.eraseIdx i t)
theorem z9q {α : Type} (l : List α) : l.eraseIdx (l.length - 1)=l.dropLast:=by
  induction l with
  | nil=>rfl
  | cons a r ih=>
    cases r with
    | nil=>rfl
    | cons b r=>
      have e : (a :: b :: r).length - 1=((b :: r).length - 1) + 1:=by
        have h1 : (a :: b :: r).length=r.length + 2:=rfl
        have h2 : (b :: r).length=r.length + 1:=rfl
        omega
      rw [e,List.eraseIdx_cons_succ,ih]
      all_goals rfl
theorem z6Y {α : Type} : ∀ (l : List α) (i : Nat),(l.eraseIdx i).length≤l.length
  | [],_=>Nat.le_refl _
  | _ :: _,0=>Nat.le_succ _
  | _ :: r,i + 1=>Nat.succ_le_succ (z6Y r i)
section
variable {X : Cx} {pins : List (Addr × Obj)} {σ : St} {H : Hp} {s : Shared} {l b : Addr} {xs ys zs : List V}
theorem Inv.lset {its its' : List Value} {n : Nat} {f : Array Value->Array Value} {t' : Nat} (I : Inv X pins σ H s) (hH : H l=some (.lst xs))
    (e : s.heap.get? l=some { cls:=.type "list",data:=.seq its.toArray n }) (hf : f its.toArray=its'.toArray) (hv : Vals ys its') (hz : ys.length≤sizeLine) :
    Inv X pins σ (upd H l (.lst ys)) { s with heap:=s.heap.update l (Obj.mapSeq f),toks:=t' }:=by
  have q:=PySem.IsL.update e f
  rw [hf] at q
  refine I.write (x:=l) (e:=l) (by rw [hH]; exact trivial) (.inl rfl) (fun b' u hb hu=>(Heap.get?_update_other s.heap (Obj.mapSeq f) (Ne.symm hb)).trans hu) ⟨_,q⟩ ?_
  exact ⟨hz,its',_,hv,q⟩
theorem Inv.lnew {its : List Value} {t' : Nat} (I : Inv X pins σ H s) (hv : Vals ys its) (hz : ys.length≤sizeLine) :
    Inv X pins σ (upd H s.heap.objs.size (.lst ys)) { s with heap:=s.heap.push { cls:=.type "list",data:=.seq its.toArray },toks:=t' }:=
  I.laid (fun _ _ q=>Heap.get?_push_of_some _ q) (Nat.le_refl _) ⟨hz,its,0,hv,Heap.get?_push_size _ rfl⟩
theorem Inv.fresh (I : Inv X pins σ H s) : H s.heap.objs.size=none:=I.hok.fresh (Nat.le_refl _)
theorem Inv.lstM (I : Inv X pins σ H s) (hH : H l=some (.lst xs)) : xs.length≤sizeLine∧∃ (its : List Value) (n : Nat),Vals xs its∧xs.length=its.length∧s.heap.get? l=some { cls:=.type "list",data:=.seq its.toArray n }:=by
  obtain ⟨z,its,n,r,e⟩:=I.hok l _ hH
  exact ⟨z,its,n,r,r.length,e⟩
end
section
variable {X : Cx}
noncomputable def z6l : V->List V->Hp->VK->Prop:=fun x vs H Q=>∃ l xs y,x = .ref l∧vs=[y]∧H l=some (.lst xs)∧xs.length < sizeLine∧Q .non (upd H l (.lst (xs ++ [y])))
theorem z2Y : MtM X "list.append" z6l:=by
  intro pins s σ H x vs v us Q I rx rv h
  obtain ⟨l,xs,y,rfl,rfl,hH,hz,q⟩:=h
  cases rx
  obtain ⟨u,rfl,ru⟩:=rv.one
  obtain ⟨z,its,n,r,hl,e⟩:=I.lstM hH
  refine call_meets F.slot_list_append ⟨_,e,rfl⟩ F.entry_list_append (F.args_list_append_2 _ _) (PySem.list_append l its.toArray n u (by rw [List.size_toArray]; omega)) ⟨e,?_⟩
  refine ⟨.non,_,I.lset (its':=its ++ [u]) hH e (by simp) (r.append (.cons ru .nil)) ?_,rfl,q⟩
  rw [List.length_append,List.length_singleton]
  omega
noncomputable def rPop : V->List V->Hp->VK->Prop:=fun x vs H Q=>∃ l xs y,x = .ref l∧vs=[]∧H l=some (.lst xs)∧xs[xs.length - 1]? = some y∧Q y (upd H l (.lst xs.dropLast))
theorem y4b : MtM X "list.pop" rPop:=by
  intro pins s σ H x vs v us Q I rx rv h
  obtain ⟨l,xs,y,rfl,rfl,hH,hy,q⟩:=h
  cases rx
  have hus:=rv.zero
  subst hus
  obtain ⟨z,its,n,r,hl,e⟩:=I.lstM hH
  obtain ⟨u,hu,ru⟩:=r.get hy
  have hy' : its.toArray[its.toArray.size - 1]? = some u:=by
    show its.toArray[its.length - 1]? = some u
    rw [← Array.getElem?_toList,← hl]
    exact hu
  refine call_meets F.slot_list_pop ⟨_,e,rfl⟩ F.entry_list_pop (F.args_list_pop_1 _) (MeetsSeq.list_pop_last l its.toArray n u hy' (by rw [List.size_toArray]; omega)) ⟨e,?_⟩
  refine ⟨y,_,I.lset (its':=its.dropLast) hH e ?_ r.dropLast ?_,ru,q⟩
  · show its.toArray.eraseIdxIfInBounds (its.toArray.size - 1)=its.dropLast.toArray
    rw [List.size_toArray,List.eraseIdxIfInBounds_toArray,z9q]
  · rw [List.length_dropLast]
    omega
noncomputable def rPopAt : V->List V->Hp->VK->Prop:=fun x vs H Q=>∃ l xs i k y,x = .ref l∧vs=[.int i]∧H l=some (.lst xs)∧-(2 ^ 63)≤i∧i < 2 ^ 63∧seqIndex? i xs.length=some k∧xs[k]? = some y∧Q y (upd H l (.lst (xs.eraseIdx k)))
theorem y2Z : MtM X "list.pop" rPopAt:=by
  intro pins s σ H x vs v us Q I rx rv h
  obtain ⟨l,xs,i,k,y,rfl,rfl,hH,h1,h2,hk,hy,q⟩:=h
  cases rx
  obtain ⟨u,rfl,ru⟩:=rv.one
  obtain ⟨t,rfl⟩:=ru
  obtain ⟨z,its,n,r,hl,e⟩:=I.lstM hH
  obtain ⟨w,hw,rw'⟩:=r.get hy
  refine call_meets F.slot_list_pop ⟨_,e,rfl⟩ F.entry_list_pop (F.args_list_pop_2 _ _)
    (MeetsSeq.list_pop_at l its.toArray n i t k w (fitsIndex_both h1 h2) (by rw [List.size_toArray,← hl]; exact hk) (by rw [← Array.getElem?_toList]; exact hw) (by rw [List.size_toArray]; omega)) ⟨e,?_⟩
  refine ⟨y,_,I.lset (its':=its.eraseIdx k) hH e ?_ (r.eraseIdx k) ?_,rw',q⟩
  · show its.toArray.eraseIdxIfInBounds k=(its.eraseIdx k).toArray
    rw [List.eraseIdxIfInBounds_toArray]
  · have:=z6Y xs k
    omega
noncomputable def rCat : R2:=fun x y H Q=>∃ l b xs zs,x = .ref l∧y = .ref b∧H l=some (.lst xs)∧H b=some (.lst zs)∧xs.length + zs.length≤sizeLine∧∀ p,H p=none->Q (.ref p) (upd H p (.lst (xs ++ zs)))
theorem op_cat : OpR X (binaryOp .Add) rCat:=by
  intro pins s σ H x y v u Q I rx ry h
  obtain ⟨l,b,xs,zs,rfl,rfl,hH,hB,hz,q⟩:=h
  cases rx
  cases ry
  obtain ⟨z,its,n,r,hl,e⟩:=I.lstM hH
  obtain ⟨z2,its2,n2,r2,hl2,e2⟩:=I.lstM hB
  refine PySem.P.add_list e e2 ?_ (by rw [List.size_toArray,List.size_toArray]; omega)
  have ea : its.toArray ++ its2.toArray=(its ++ its2).toArray:=by simp
  rw [ea]
  exact ⟨.ref _,_,I.lnew (t':=s.toks) (r.append r2) (by rw [List.length_append]; omega),rfl,q _ I.fresh⟩
end
section
variable {prog : Program} {w : World} {A : Around} {E : Value->Shared->Prop} {s : Shared}
end
section
variable {X : Cx}
end
end L2
namespace Att
open PySem PySem.W PySem.Calls PyProof.Rows
theorem z5e {P : Params} {h : Heap} : ∀ (ns : List Int) (vs : List Value),WellAll P h vs (ns.map WData.int)->IntsAre vs ns:=by
  intro ns
  induction ns with
  | nil=>
    intro vs w
    rw [List.map_nil] at w
    cases w
    exact .nil
  | cons n ns ih=>
    intro vs w
    rw [List.map_cons] at w
    cases w with
    | cons a b=>
      cases a
      exact .cons _ _ (ih _ b)
theorem y0X {l : OpenLaw} {n : Nat} (hn : l.most=some n) {P : Params} {h : Heap} {args : List WData} {vals : List Value}
    (hpre : l.row.toRowW.claim.pre args=true) (hwl : WellAll P h vals args) :
    ∃ a vs ns,vals=[Value.ref a]∧args=[WData.list (ns.map WData.int)]∧h.get? a=some { cls:=.type "list",data:=.seq vs.toArray }∧IntsAre vs ns∧ns.length≤n:=by
  have hsh : WShape.hasAll [] args [.list .int]=true:=(pre_splitW hpre).1
  have hc : l.pre.holds [] { args:=args } = true:=(pre_splitW hpre).2
  obtain ⟨d,r,rfl,h1,h2⟩:=hasAllW_cons hsh
  obtain rfl:=hasAllW_nil h2
  obtain ⟨xs,rfl,h3⟩:=hasW_list h1
  obtain ⟨ns,rfl⟩:=items_int h3
  have hlen : ns.length≤n:=by
    unfold OpenLaw.pre at hc
    have h4 : (WTm.not (.lt (.lit (.int (n : Int))) (.len (.arg 0)))).holds [] { args:=[.list (ns.map .int)] } = true:=by
      have h4:=(holds_andW hc).1
      rw [hn] at h4
      exact h4
    have h5:=condW_of h4 (w_not (w_lt w_lit (w_len_list (w_arg rfl))))
    rw [List.length_map] at h5
    refine Nat.le_of_not_lt fun q=>?_
    have q' : (n : Int) < ((ns.length : Nat) : Int):=by omega
    first
      | (rw [decide_eq_true q'] at h5; exact absurd h5 (by decide))
      | (simp at h5; omega)
  cases hwl with
  | cons w1 w2=>
    cases w2
    cases w1 with
    | list ho hall=>exact ⟨_,_,ns,rfl,rfl,ho,z5e ns _ hall,hlen⟩
theorem y0R (l : OpenLaw) (args : List WData) : l.row.toRowW.claim.post args (.bool true) args=true:=
  postW_of (r:=l.row.toRowW) (X:=(true == true))
    (show WShape.has [] (.bool true) .bool=true by first | rfl | decide | simp [WShape.has,WShape.arms,WShape.armsAll])
    (show (WTm.eq .res (.lit (.bool true))).value [] { args:=args,res:=some (.bool true),after:=args } = some (.bool (true == true)) from w_eq_bool (w_res rfl) w_lit) rfl
theorem attach_call {l : OpenLaw} {n : Nat} {q : Program} {loose : List Str} {XP : (Str->Option Value)->Heap->Prop} {YP : World->Heap->Prop} {d : DefRec}
    (hn : l.most=some n) (hdf : d.params.defaults=[])
    (call : ∀ (w : World) (s₀ s₁ : Shared) (mg mb : Str->Option Value) (fa : Addr) (o : Obj) (pm cd doc : Value) (a : Addr) (vs : List Value) (ns : List Int),
      Ground q loose [] XP w s₀ mg mb s₁.heap->YP w s₁.heap →
      s₁.heap.get? fa=some o->o.data = .func (docDef d.name d.params d.body d.scope pm cd doc)->s₁.heap.CodeRec cd d.name->mg d.name=some (.ref fa) →
      s₁.heap.get? a=some { cls:=.type "list",data:=.seq vs.toArray }->IntsAre vs ns->ns.length≤n->s₁.gens = #[] →
      codeAny (model l.prog w) callerA (.call (.ref fa) ⟨[.ref a],[]⟩) (fun r s'=>r = .ok (.ret (.bool true))∧OldK s₁.heap s'.heap∧s'.os=s₁.os∧AllBare s'.gens) s₁) :
    WalkO q loose XP YP l.row.toRowW d [] (fun f vs=>PySem.call f vs):=by
  intro w s₀ s₁ mg mb G Y fa o pm cd doc dV kV ho hd hcd hD hmg hg args vals as hpre hlay hrd hwl hlo
  obtain rfl : dV = .none:=Dflts.none hD hdf
  obtain rfl : kV = .none:=Dflts.noKw hD
  obtain ⟨a,vs,ns,rfl,rfl,hobj,hints,hlen⟩:=y0X hn hpre hwl
  refine enter_call (codeAny_mono (call w s₀ s₁ mg mb fa o pm cd doc a vs ns G Y ho (fd_plain hd) hcd hmg hobj hints hlen hg) fun r s' hq=>?_)
  obtain ⟨rfl,h2,h3,h4⟩:=hq
  exact ⟨.inl ⟨.bool true,.bool true,[],rfl,fun _=>rfl,.bool true,y0R l _,fun _=>⟨List.Pairwise.nil,fun _ hm=>(nomatch hm)⟩⟩,h2,h3,h4⟩
section
variable {prog : Program} {w : World} {A : Around} {E : Value->Shared->Prop} {s : Shared} {K : Frag}
noncomputable def ledger (h : Heap) (L d : Addr) : List (Addr × Obj):=(List.range h.objs.size).filterMap fun a=>if a=L∨a=d then none else (h.get? a).map fun o=>(a,o)
end
end Att
namespace L2
open PySem PySem.Spec PyProof.Rows
theorem z6L : ∀ {vs : List Value} {ns : List Int},IntsAre vs ns->Vals (ns.map V.int) vs
  | _,_,.nil=>.nil
  | _,_,.cons n t h=>.cons ⟨t,rfl⟩ (z6L h)
noncomputable def Only (H : Hp) : Prop:=∀ b,H b=none∨∃ o xs,H b=some (.frz o (.lst xs))
theorem y3z {P : Program} {w : World} {K : PySem.W.Frag} {mg mb : Str->Option Value} {CX : CXT} {k : Nat} {fa a : Addr} {fd : FuncData} {x : Str} {sp : Sp} {s₁ : Shared} {vs : List Value} {ns : List Int}
    (KX : K.In s₁.heap) (hns : s₁.heap.Ns mainGlobals mg) (hb : s₁.heap.Ns builtinsNs mb) (hbb : ∀ x : Str,x ≠ "__name__" → mb x=bootBuiltins x) (hlim : s₁.heap.NoLimit) (hg : s₁.gens = #[])
    (ha : s₁.heap.get? a=some { cls:=.type "list",data:=.seq vs.toArray }) (hi : IntsAre vs ns) (hl : ns.length≤sizeLine) (hr : Room k callerA)
    (F : ∀ base : Heap,K.In base->base.Ns mainGlobals mg->FnOk P w K mg base CX k fa fd [x] sp) (hbind : ∀ (s : Shared) (u : Value),BindsTo s fd ⟨[u],[]⟩ [(x,u)])
    (hsp : ∀ H : Hp,Only H->SqL K H a (ns.map V.int)->sp [.ref a] H (fun v _=>v = .bl true) fun _ _ _=>False)
    (hCX : ∀ H e s',CX [] H s₁ (fun _ _ _=>False) e s'->False) :
    codeAny (model P w) callerA (.call (.ref fa) ⟨[.ref a],[]⟩) (fun r s'=>r = .ok (.ret (.bool true))∧OldK s₁.heap s'.heap∧s'.os=s₁.os∧AllBare s'.gens) s₁:=by
  have rv:=z6L hi
  have lenV:=hi.length
  have core : ∀ H : Hp,Only H->SqL K H a (ns.map V.int)->HOk P w H s₁.heap->(∀ b,H b≠none->b=a)->(H a≠none->K.lookup a=none) →
      codeAny (model P w) callerA (.call (.ref fa) ⟨[.ref a],[]⟩) (fun r s'=>r = .ok (.ret (.bool true))∧OldK s₁.heap s'.heap∧s'.os=s₁.os∧AllBare s'.gens) s₁:=by
    intro H hO hS hok hA hK
    have base_of : ∀ {b : Addr} {o : Obj},s₁.heap.get? b=some o->H b=none->(y3x s₁.heap H).get? b=some o:=fun e n=>y2G e n
    have noA : ∀ {b : Addr} {o : Obj} {es : Array DictEntry} {ep : Nat},s₁.heap.get? b=some o->o.data = .dict es ep->H b=none:=fun {b o es ep} e d=>by
      cases q : H b with
      | none=>rfl
      | some u=>
        have e' : b=a:=hA b (by rw [q]; simp)
        subst e'
        rw [ha] at e; cases e
        have d' : Data.seq vs.toArray _=Data.dict es ep:=d
        cases d'
    have nsK : ∀ {b : Addr} {m : Str->Option Value},s₁.heap.Ns b m->(y3x s₁.heap H).Ns b m:=fun {b m} ⟨o,es,ep,e,d,r⟩=>⟨o,es,ep,base_of e (noA e d),d,r⟩
    have hKb : K.In (y3x s₁.heap H):=fun b o e=>base_of (KX b o e) (by
      cases q : H b with
      | none=>rfl
      | some u=>
        have e' : b=a:=hA b (by rw [q]; simp)
        subst e'
        rw [hK (by rw [q]; simp)] at e; cases e)
    have hM : Mod K mg (y3x s₁.heap H):=⟨hKb,nsK hns,⟨mb,nsK hb,hbb⟩,let ⟨mc,h1,h2⟩:=hlim; ⟨mc,nsK h1,h2⟩⟩
    have e0 : Env0 P w K mg (y3x s₁.heap H) callerA [] s₁ H:=⟨rfl,hM,fun b o e=>of_hidT e,Nat.le_of_eq (y0K _ _),trivial,fun b hb=>absurd (show b∈([] : List Addr) from hb) (by simp),hok,.of_eq hg⟩
    refine codeAny_mono ((F _ hKb (nsK hns)).run callerA [] s₁ H ⟨[.ref a],[]⟩ [.ref a] [.ref a] _ _ hr e0 (hbind s₁ (.ref a)) (.cons rfl .nil) (hsp H hO hS)) fun r s' h=>?_
    cases r with
    | error e=>exact (hCX H e s' h).elim
    | ok fl=>
      cases fl with
      | next=>exact False.elim h
      | brk=>exact False.elim h
      | cont=>exact False.elim h
      | ret u=>
        obtain ⟨v,H',os,bare,un,hok',r',q⟩:=h
        have q' : v = .bl true:=q
        subst q'
        obtain rfl : u=Value.bool true:=r'
        refine ⟨rfl,OldK.of_keep fun b o e=>?_,os,bare⟩
        cases q : H b with
        | none=>exact un.keep b o e q (by intro z; exact absurd (show b∈([] : List Addr) from z) (by simp)) (by simp)
        | some u=>
          rcases hO b with z | ⟨ob,xs,z⟩
          · rw [q] at z; cases z
          · have z2:=un.frzs b ob _ z
            obtain ⟨e1,_⟩:=hok b _ z
            obtain ⟨e2,_⟩:=hok' b _ z2
            rw [e] at e1; cases e1
            exact e2
  cases hk : K.lookup a with
  | some o=>
    have e:=KX a o hk
    rw [ha] at e
    cases e
    refine core (fun _=>none) (fun _=>.inl rfl) (.inr ⟨_,vs.toArray,_,hk,rfl,rfl,rfl,by rw [List.size_toArray,lenV]; exact hl,by simpa using rv⟩) (fun b u z=>by have z' : (none : Option HO)=some u:=z; cases z') (fun b z=>absurd rfl z) fun z=>absurd rfl z
  | none=>
    refine core (fun b=>if b=a then some (.frz { cls:=.type "list",data:=.seq vs.toArray } (.lst (ns.map V.int))) else none) (fun b=>?_) (.inl (.inr ⟨{ cls:=.type "list",data:=.seq vs.toArray },if_pos rfl⟩)) (fun b u z=>?_) (fun b z=>?_) fun _=>hk
    · by_cases hb : b=a
      · exact .inr ⟨_,_,if_pos hb⟩
      · exact .inl (if_neg hb)
    · by_cases hb : b=a
      · have z':=(if_pos hb).symm.trans z
        cases z'
        subst hb
        exact ⟨ha,by rw [List.length_map]; exact hl,vs,_,rv,ha⟩
      · have z':=(if_neg hb).symm.trans z
        cases z'
    · by_cases hb : b=a
      · exact hb
      · exact absurd (if_neg hb) z
end L2
namespace L2
open PySem PySem.Spec PyProof.Rows
noncomputable abbrev KOf {K : PySem.W.Frag} {h : Heap} (_ : K.In h) : PySem.W.Frag:=K
theorem walk_of {l : PySem.W.OpenLaw} {n k : Nat} {q : Program} {loose : List Str} {XP : (Str->Option Value)->Heap->Prop} {YP : World->Heap->Prop} {d : DefRec} {K : Params->PySem.W.Frag} {CX : World->CXT} {sp : World->Sp} {x : Str}
    (hn : l.most=some n) (hn2 : n≤sizeLine) (hdf : d.params.defaults=[]) (hr : Room k callerA)
    (hY : ∀ (w : World) (h : Heap),YP w h->(K w.params).In h)
    (F : ∀ (w : World) (mg : Str->Option Value) (fa : Addr) (h : Heap),(K w.params).In h->h.Ns mainGlobals mg->mg d.name=some (.ref fa) →
      ∃ fd : FuncData,(∀ (s : Shared) (u : Value),BindsTo s fd ⟨[u],[]⟩ [(x,u)]) ∧
        ∀ base : Heap,(K w.params).In base->base.Ns mainGlobals mg->FnOk l.prog w (K w.params) mg base (CX w) k fa fd [x] (sp w))
    (hsp : ∀ (w : World) (H : Hp) (a : Addr) (ns : List Int),ns.length≤n->Only H->SqL (K w.params) H a (ns.map V.int)->sp w [.ref a] H (fun v _=>v = .bl true) fun _ _ _=>False)
    (hCX : ∀ (w : World) (H : Hp) (s : Shared) (e : Value) (s' : Shared),CX w [] H s (fun _ _ _=>False) e s'->False) :
    PySem.W.WalkO q loose XP YP l.row.toRowW d [] (fun f vs=>PySem.call f vs):=by
  refine Att.attach_call hn hdf fun w s₀ s₁ mg mb fa o pm cd doc a vs ns G Y ho hd hcd hmg hobj hints hlen hg=>?_
  have KX:=hY w _ Y
  obtain ⟨fd,hb,hF⟩:=F w mg fa _ KX G.T.g hmg
  exact y3z KX G.T.g G.T.b G.T.builtins G.T.nolimit hg hobj hints (Nat.le_trans hlen hn2) hr hF hb (fun H hO hS=>hsp w H a ns hlen hO hS) fun H e s'=>hCX w H s₁ e s'
end L2
namespace L2
open PySem PySem.Spec PyProof.Rows
noncomputable def z2c (s : Stmt) (j : Nat) : Stmt:=match s with
  | .ClassDef _ _ _ body _ _ _ _ _ _ _=>body.getD j (.Pass ⟨0,0,0,0⟩)
  | _=>.Pass ⟨0,0,0,0⟩
noncomputable def z0w (s : Stmt) : Arguments:=match s with
  | .FunctionDef _ a _ _ _ _ _ _ _ _=>a
  | _=>{ posonlyargs:=[],args:=[],vararg:=none,kwonlyargs:=[],kw_defaults:=[],kwarg:=none,defaults:=[] }
noncomputable def z0o (s : Stmt) : List Stmt:=match s with
  | .FunctionDef _ _ b _ _ _ _ _ _ _=>b
  | _=>[]
noncomputable def z0a (s : Stmt) : Scope:=match s with
  | .FunctionDef _ _ _ _ _ _ sc _ _ _=>sc
  | _=>{ kind:=.function,names:=[],isGenerator:=false,isCoroutine:=false }
noncomputable abbrev CX0 : CXT:=fun _ _ _ _ _ _=>False
noncomputable abbrev E0 : XK:=fun _ _ _=>False
theorem y3o {X : Cx} : z4R CX0 X E0:=fun _ _ _ _ _ _ _ h=>h.elim
structure Fun (K : PySem.W.Frag) (x qual : Str) (st : Stmt) (f : Addr) (fd : FuncData) : Prop where
  ex : ∃ (oc : Value) (od : Option Addr) (kV doc pm : Value) (an : Option Addr) (cdv ct : Value) (osl : Array (Option Value)),
    fd=PySem.W.fnOf x qual (z0w st) (z0o st) (z0a st) .none kV doc pm an cdv ct∧K.lookup f=some ⟨oc,od,.func fd,osl⟩∧PySem.W.codeIn K cdv qual=true
  kp : PySem.W.keepIn K (.ref f)=true
section
variable {P : Program} {w : World} {K : PySem.W.Frag} {mg : Str->Option Value} {base : Heap}
theorem Fun.ok {x qual : Str} {st : Stmt} {f : Addr} {fd : FuncData} {N ps : List Str} {k : Nat} {sp : Sp} (F : Fun K x qual st f fd) (S : FnScope N ps (z0a st)) (len : ∀ vs H Q E,sp vs H Q E->vs.length=ps.length)
    (hbody : ∀ (cdv : Value) (A : Around) (outer : List Env) (s : Shared) (H : Hp) (vs : List V) (Q : VK) (E : XK),Room k (A.deeper (envOfC qual (z0a st) s.heap.objs.size f cdv))->sp vs H Q E →
      ∃ t,PSs (z6I CX0 P w K mg base N qual (z0a st) f cdv A outer s H E).nox (z0o st) t∧t { nx:=fun _ H'=>Q .non H',rt:=Q } (z2h N vs) H) : FnOk P w K mg base CX0 (k + 1) f fd ps sp:=by
  obtain ⟨oc,od,kV,doc,pm,an,cdv,ct,osl,rfl,lk,hcd⟩:=F.ex
  refine fn_of lk hcd S len fun A outer s H vs Q E hr hsp=>?_
  obtain ⟨t,h,q⟩:=hbody cdv A outer s H vs Q E hr hsp
  exact ⟨t,h.nox,q⟩
theorem Fun.binds {x qual : Str} {st : Stmt} {f : Addr} {fd : FuncData} {ps : List Str} (F : Fun K x qual st f fd)
    (h : ∀ (kV doc pm : Value) (an : Option Addr) (cdv ct : Value) (us : List Value),us.length=ps.length->bindArgs (PySem.W.fnOf x qual (z0w st) (z0o st) (z0a st) .none kV doc pm an cdv ct) ⟨us,[]⟩=pure (ps.zip us)) : Binds K fd ps []:=by
  obtain ⟨oc,od,kV,doc,pm,an,cdv,ct,osl,rfl,lk,hcd⟩:=F.ex
  exact .all (h kV doc pm an cdv ct)
theorem z0P {x qual : Str} {st : Stmt} {f : Addr} {oc : Value} {od an : Option Addr} {osl : Array (Option Value)} {kV doc pm cdv ct : Value} (l : K.lookup f=some ⟨oc,od,.func (PySem.W.fnOf x qual (z0w st) (z0o st) (z0a st) .none kV doc pm an cdv ct),osl⟩)
    (c : PySem.W.codeIn K cdv qual=true) (k : PySem.W.keepIn K (.ref f)=true) : Fun K x qual st f (PySem.W.fnOf x qual (z0w st) (z0o st) (z0a st) .none kV doc pm an cdv ct):=⟨⟨oc,od,kV,doc,pm,an,cdv,ct,osl,rfl,l,c⟩,k⟩
end
theorem z4Z {n : Nat} (h : n≤1000) : n < sizeLine:=Nat.lt_of_le_of_lt h (by decide)
section
variable {X : Cx}
theorem pv (i : Nat) {x : Str} {pos : Pos} (hN : X.N[i]? = some x:=by rfl) (hv : Vis X.env.scope x:=by first | exact Or.inl rfl | exact Or.inr (Or.inl rfl) | exact Or.inr (Or.inr rfl)) (hd : (x == ("__debug__" : Str))=false:=by decide)
    (hcd : (x == ("__classdict__" : Str))=false:=by decide) : PE X (.Name x pos) (z3s i):=pe_var hN hv hd hcd
end
theorem iteF {A B : Prop} (h : B) : if false=true then A else B:=by
  rw [if_neg Bool.false_ne_true]
  exact h
theorem iteT {A B : Prop} (h : A) : if true=true then A else B:=by
  rw [if_pos rfl]
  exact h
noncomputable def Same (H H' : Hp) : Prop:=∀ b o,H b=some o->H' b=some o
theorem Same.refl (H : Hp) : Same H H:=fun _ _ h=>h
theorem Same.trans {H H1 H2 : Hp} (a : Same H H1) (b : Same H1 H2) : Same H H2:=fun c o h=>b c o (a c o h)
theorem Same.free {H H' : Hp} (e : Same H H') {l : Addr} (h : H' l=Option.none) : H l=Option.none:=by
  cases q : H l with
  | none=>rfl
  | some o=>
    rw [e l o q] at h
    cases h
end L2
namespace L2
open PySem PySem.Spec PyProof.Rows
section
variable {κ : Type} [DecidableEq κ]
noncomputable def z9O (kvs : List (κ × V)) (k : κ) : Option V:=(kvs.find? fun kv=>decide (kv.1=k)).map (·.2)
noncomputable def z7g (kvs : List (κ × V)) (k : κ) (v : V) : List (κ × V):=
  if (kvs.any fun kv=>decide (kv.1=k))=true then kvs.map (fun kv=>if kv.1=k then (kv.1,v) else kv) else kvs ++ [(k,v)]
theorem z6b {p : κ × V} {r : List (κ × V)} {k : κ} (e : p.1=k) : z9O (p :: r) k=some p.2:=by simp [z9O,List.find?_cons,e]
theorem z6i {p : κ × V} {r : List (κ × V)} {k : κ} (e : ¬ p.1=k) : z9O (p :: r) k=z9O r k:=by simp [z9O,List.find?_cons,e]
theorem z6c (k : κ) : ∀ kvs : List (κ × V),(kvs.any fun kv=>decide (kv.1=k))=(z9O kvs k).isSome
  | []=>rfl
  | p :: r=>by
    rw [List.any_cons]
    by_cases e : p.1=k
    · simp only [z6b e,decide_eq_true e,Bool.true_or,Option.isSome_some]
    · rw [z6i e,decide_eq_false e,Bool.false_or]; exact z6c k r
theorem z5j (kvs : List (κ × V)) (k : κ) (v : V) : (z7g kvs k v).length≤kvs.length + 1:=by
  unfold z7g
  split
  · rw [List.length_map]; omega
  · rw [List.length_append,List.length_cons,List.length_nil]; omega
theorem RelO.isSome_eq {o : Option V} {u : Option Value} (r : RelO o u) : o.isSome=u.isSome:=by
  cases o with
  | none=>cases u with
    | none=>rfl
    | some _=>exact (show False from r).elim
  | some _=>cases u with
    | none=>exact (show False from r).elim
    | some _=>rfl
theorem KV.val {kvs : List (κ × V)} {vs : List (κ × Value)} (r : KV kvs vs) (k : κ) : RelO (z9O kvs k) (valueAt vs k):=by
  unfold KV at r
  induction r with
  | nil=>exact True.intro
  | @cons p q ps qs h t ih=>
    obtain ⟨h1,h2⟩:=h
    by_cases e : p.1=k
    · have e' : q.1=k:=h1.symm.trans e
      have b : valueAt (q :: qs) k=some q.2:=by simp [valueAt,List.find?_cons,e']
      rw [z6b e,b]; exact h2
    · have e' : ¬ q.1=k:=fun z=>e (h1.trans z)
      have b : valueAt (q :: qs) k=valueAt qs k:=by simp [valueAt,List.find?_cons,e']
      rw [z6i e,b]; exact ih
theorem KV.any {kvs : List (κ × V)} {vs : List (κ × Value)} (r : KV kvs vs) (k : κ) : (kvs.any fun kv=>decide (kv.1=k))=vs.any fun kv=>decide (kv.1=k):=by
  unfold KV at r
  induction r with
  | nil=>rfl
  | cons h t ih=>rw [List.any_cons,List.any_cons,ih,h.1]
theorem KV.repl {kvs : List (κ × V)} {vs : List (κ × Value)} (r : KV kvs vs) (k : κ) {y : V} {u : Value} (ry : RelV y u) :
    KV (kvs.map fun kv=>if kv.1=k then (kv.1,y) else kv) (vs.map fun kv=>if kv.1=k then (kv.1,u) else kv):=by
  unfold KV at r ⊢
  induction r with
  | nil=>exact .nil
  | @cons p q ps qs h t ih=>
    rw [List.map_cons,List.map_cons]
    refine .cons ?_ ih
    obtain ⟨h1,h2⟩:=h
    by_cases e : p.1=k
    · rw [if_pos e,if_pos (h1.symm.trans e)]; exact ⟨h1,ry⟩
    · rw [if_neg e,if_neg (fun z=>e (h1.trans z))]; exact ⟨h1,h2⟩
theorem KV.put {kvs : List (κ × V)} {vs : List (κ × Value)} (r : KV kvs vs) (k : κ) {y : V} {u : Value} (ry : RelV y u) : KV (z7g kvs k y) (stored vs k u):=by
  unfold z7g stored
  rw [r.any k]
  by_cases e : (vs.any fun kv=>decide (kv.1=k))=true
  · rw [if_pos e,if_pos e]; exact r.repl k ry
  · rw [if_neg e,if_neg e]; exact Paired.snoc r ⟨rfl,ry⟩
theorem KV.length {kvs : List (κ × V)} {vs : List (κ × Value)} (r : KV kvs vs) : kvs.length=vs.length:=Paired.length r
end
theorem kV_is {P : Program} {w : World} {k : Key} {u : Value} (r : RelV (kV k) u) : (z1y P w).is k u=true:=by
  cases k with
  | inl i=>obtain ⟨t,e⟩:=(show ∃ t,u=Value.int i t from r); subst e; exact z7Z P w i t
  | inr x=>obtain ⟨t,e⟩:=(show ∃ t,u=Value.str x t from r); subst e; exact z7U P w x t
theorem z7l {P : Program} {w : World} : ∀ {ks : List Key} {us : List Value},Vals (ks.map kV) us->ItemsAre (z1y P w) ks us
  | [],_,r=>by rw [List.map_nil] at r; cases r; exact .nil
  | k :: ks,_,r=>by
    rw [List.map_cons] at r
    cases r with
    | cons h t=>exact .cons (kV_is h) (z7l t)
noncomputable abbrev KT (H : Hp) : List (List Key × V)->List (List Key × Addr × Value)->Prop:=Paired fun p q=>p.1=q.1∧H q.2.1=some (.tup (p.1.map kV))∧RelV p.2 q.2.2
theorem KT.val {H : Hp} {kvs : List (List Key × V)} {xs : List (List Key × Addr × Value)} (r : KT H kvs xs) (k : List Key) : RelO (z9O kvs k) ((atKey xs k).map (·.2)):=by
  induction r with
  | nil=>exact True.intro
  | @cons p q ps qs h t ih=>
    obtain ⟨h1,_,h2⟩:=h
    by_cases e : p.1=k
    · have e' : q.1=k:=h1.symm.trans e
      have b : atKey (q :: qs) k=some q.2:=by simp [atKey,List.find?_cons,e']
      rw [z6b e,b]; exact h2
    · have e' : ¬ q.1=k:=fun z=>e (h1.trans z)
      have b : atKey (q :: qs) k=atKey qs k:=by simp [atKey,List.find?_cons,e']
      rw [z6i e,b]; exact ih
theorem KT.repl {H : Hp} {kvs : List (List Key × V)} {xs : List (List Key × Addr × Value)} (r : KT H kvs xs) (k : List Key) {y : V} {u : Value} (ry : RelV y u) :
    KT H (kvs.map fun kv=>if kv.1=k then (kv.1,y) else kv) (xs.map (putAt k u)):=by
  induction r with
  | nil=>exact .nil
  | @cons p q ps qs h t ih=>
    rw [List.map_cons,List.map_cons]
    refine .cons ?_ ih
    obtain ⟨h1,h2,h3⟩:=h
    unfold putAt
    by_cases e : p.1=k
    · rw [if_pos e,if_pos (h1.symm.trans e)]; exact ⟨h1,h2,ry⟩
    · rw [if_neg e,if_neg (fun z=>e (h1.trans z))]; exact ⟨h1,h2,h3⟩
theorem KT.put {H : Hp} {kvs : List (List Key × V)} {xs : List (List Key × Addr × Value)} (r : KT H kvs xs) (k : List Key) {b : Addr} {y : V} {u : Value} (hb : H b=some (.tup (k.map kV))) (ry : RelV y u) :
    KT H (z7g kvs k y) (storedH xs k b u):=by
  have e : (kvs.any fun kv=>decide (kv.1=k))=(atKey xs k).isSome:=by
    rw [z6c,(r.val k).isSome_eq,Option.isSome_map]
  unfold z7g storedH
  rw [e]
  by_cases q : (atKey xs k).isSome=true
  · rw [if_pos q,if_pos q]; exact r.repl k ry
  · rw [if_neg q,if_neg q]; exact Paired.snoc r ⟨rfl,hb,ry⟩
theorem KT.keeps {H H' : Hp} {kvs : List (List Key × V)} {xs : List (List Key × Addr × Value)} (r : KT H kvs xs) (ht : ∀ b ys,H b=some (.tup ys)->H' b=some (.tup ys)) : KT H' kvs xs:=
  Paired.mapP r fun _ _ z=>⟨z.1,ht _ _ z.2.1,z.2.2⟩
section
variable {P : Program} {w : World} {H : Hp} {h : Heap} {a : Addr}
theorem rd_of {u : HO} (ok : HOk P w H h) (e : Rd H a u) : ObjOk P w H h a u:=e.ok ok
theorem dk_rd {kvs : List (Key × V)} (ok : HOk P w H h) (e : Rd H a (.dK kvs)) : kvs.length≤sizeLine∧(a == sysModules)=false∧∃ vs,KV kvs vs∧h.DictOf (z1y P w) a vs:=
  show ObjOk P w H h a (.dK kvs) from rd_of ok e
theorem dk_of {kvs : List (Key × V)} (ok : HOk P w H h) (e : H a=some (.dK kvs)) : kvs.length≤sizeLine∧(a == sysModules)=false∧∃ vs,KV kvs vs∧h.DictOf (z1y P w) a vs:=dk_rd ok (.inl e)
theorem y1f {ks : List Key} (ok : HOk P w H h) (e : H a=some (.tup (ks.map kV))) : (tupleKind (z1y P w)).is h ks a:=by
  obtain ⟨_,its,r,o,h1,h2,n,h3⟩:=(show ObjOk P w H h a (.tup (ks.map kV)) from ok a _ e)
  exact ⟨o,its.toArray,n,h1,h2.1,h3,by simpa using z7l r⟩
theorem dt_rd {kvs : List (List Key × V)} (ok : HOk P w H h) (e : Rd H a (.dT kvs)) : kvs.length≤sizeLine∧(a == sysModules)=false ∧
    ∃ xs,KT H kvs xs∧h.DictOfH (tupleKind (z1y P w)) a xs:=by
  obtain ⟨z,y,xs,r,o,es,ep,h1,h2,h3,h4,h5⟩:=(show ObjOk P w H h a (.dT kvs) from rd_of ok e)
  refine ⟨z,y,xs,r,o,es,ep,h1,h2,h3,h4,fun x hx=>?_,h5⟩
  have all : ∀ {l : List (List Key × V)} {m : List (List Key × Addr × Value)},KT H l m->∀ x∈m,(tupleKind (z1y P w)).is h x.1 x.2.1:=by
    intro l m q
    induction q with
    | nil=>intro x hx; exact nomatch hx
    | @cons p q ps qs hq t ih=>
      intro x hx
      rcases List.mem_cons.mp hx with e | hx
      · subst e
        exact y1f ok (by rw [← hq.1]; exact hq.2.1)
      · exact ih x hx
  exact all r x hx
theorem dt_of {kvs : List (List Key × V)} (ok : HOk P w H h) (e : H a=some (.dT kvs)) : kvs.length≤sizeLine∧(a == sysModules)=false ∧
    ∃ xs,KT H kvs xs∧h.DictOfH (tupleKind (z1y P w)) a xs:=dt_rd ok (.inl e)
end
noncomputable def DGet (H : Hp) (a : Addr) (y : V) (r : Option V) : Prop:=
  (∃ kvs k,Rd H a (.dK kvs)∧y=kV k∧r=z9O kvs k)∨∃ kvs k b,Rd H a (.dT kvs)∧y = .ref b∧H b=some (.tup (k.map kV))∧r=z9O kvs k
noncomputable def DPut (H : Hp) (a : Addr) (y v : V) (H' : Hp) : Prop:=
  (∃ kvs k,H a=some (.dK kvs)∧y=kV k∧kvs.length < sizeLine∧H'=upd H a (.dK (z7g kvs k v))) ∨
  ∃ kvs k b,H a=some (.dT kvs)∧y = .ref b∧H b=some (.tup (k.map kV))∧kvs.length < sizeLine∧H'=upd H a (.dT (z7g kvs k v))
theorem DGet.k {H : Hp} {a : Addr} {kvs : List (Key × V)} {k : Key} (e : H a=some (.dK kvs)) : DGet H a (kV k) (z9O kvs k):=.inl ⟨kvs,k,.inl e,rfl,rfl⟩
theorem DPut.k {H : Hp} {a : Addr} {kvs : List (Key × V)} {k : Key} {v : V} (e : H a=some (.dK kvs)) (hl : kvs.length < sizeLine) : DPut H a (kV k) v (upd H a (.dK (z7g kvs k v))):=.inl ⟨kvs,k,e,rfl,hl,rfl⟩
section
variable {X : Cx} {pins : List (Addr × Obj)} {σ : St} {H : Hp} {s : Shared} {a : Addr} {y v : V} {u r : Value} {o : Option V} {A : Around} {E : Value->Shared->Prop}
theorem Inv.big (I : Inv X pins σ H s) : sysModules < s.heap.objs.size:=by
  have h : mainGlobals < s.heap.objs.size:=(I.mod.glob.keeps I.bk).lt
  exact Nat.lt_trans (by decide) h
theorem d_in {Q : Value->Shared->Prop} (hu : A.units + 1 < cLine) (I : Inv X pins σ H s) (g : DGet H a y o) (ry : RelV y u) (h : ∀ s',Inv X pins σ H s'->Q (.bool o.isSome) s') :
    wpAny (model X.prog X.w) A (compareOp .In u (.ref a)) Q E s:=by
  rcases g with ⟨kvs,k,e,ey,l⟩ | ⟨kvs,k,b,e,ey,eb,l⟩
  · subst ey
    obtain ⟨z,hd,vs,rel,dd⟩:=dk_rd I.hok e
    refine wpAny_in_of (kV_is ry) hd dd.mapOf ?_
    rw [← (rel.val k).isSome_eq,← l]
    exact h _ (I.tok _)
  · subst ey
    cases (show u=Value.ref b from ry)
    obtain ⟨z,hd,xs,rel,dd⟩:=dt_rd I.hok e
    refine wpAny_in_heap (tupleKind_room_in1 hu) (y1f I.hok eb) hd dd ?_
    have q:=(rel.val k).isSome_eq
    rw [Option.isSome_map] at q
    rw [← q,← l]
    exact h _ (I.tok _)
theorem y1D {h' : Heap} {t' : Nat} {ob : HO} (I : Inv X pins σ H s) (mu : Mut (H a)) (hs : Heap.SameBut a s.heap h') (he : ∃ q,h'.get? a=some q) (new : ObjOk X.prog X.w (upd H a ob) h' a ob) :
    Inv X pins σ (upd H a ob) { s with heap:=h',toks:=t' }:=
  I.write (x:=a) (e:=a) mu (.inl rfl) (fun b q hb z=>(hs.2 b hb).trans z) he new
theorem dk_new {P : Program} {w : World} {H' : Hp} {h' : Heap} {kvs : List (Key × V)} {vs : List (Key × Value)} (z : kvs.length≤sizeLine) (hd : (a == sysModules)=false) (rel : KV kvs vs) (dd : h'.DictOf (z1y P w) a vs) :
    ObjOk P w H' h' a (.dK kvs):=⟨z,hd,vs,rel,dd⟩
theorem y1K {H' : Hp} {Q : Unit->Shared->Prop} (hu : A.units + 1 < cLine) (I : Inv X pins σ H s) (g : DPut H a y v H') (ry : RelV y u) (rv : RelV v r) (h : ∀ s',Inv X pins σ H' s'->Q () s') :
    wpAny (model X.prog X.w) A (setItem (.ref a) u r) Q E s:=by
  rcases g with ⟨kvs,k,e,ey,l,eH⟩ | ⟨kvs,k,b,e,ey,eb,l,eH⟩
  · subst ey eH
    obtain ⟨z,hd,vs,rel,dd⟩:=dk_of I.hok e
    have hz : vs.length≤sizeLine:=by rw [← rel.length]; exact z
    have hl : (z7g kvs k v).length≤sizeLine:=by have:=z5j kvs k v; omega
    refine wpAny_setItem_pairs (hsz:=hz) (kV_is ry) dd fun h' dd' hs=>h _ ?_
    have he : ∃ q,h'.get? a=some q:=let ⟨q,_,_,hq,_⟩:=dd'; ⟨q,hq⟩
    exact y1D I (by rw [e]; exact True.intro) hs he (dk_new hl hd (rel.put k rv) dd')
  · subst ey eH
    cases (show u=Value.ref b from ry)
    obtain ⟨z,hd,xs,rel,dd⟩:=dt_of I.hok e
    have hz : xs.length≤sizeLine:=by rw [← Paired.length rel]; exact z
    have hl : (z7g kvs k v).length≤sizeLine:=by have:=z5j kvs k v; omega
    refine wpAny_setItem_heap (hsz:=hz) (tupleKind_room_in1 hu) (y1f I.hok eb) dd fun h' dd' hs=>h _ ?_
    obtain ⟨q,es,ep,hq,h2,h3,h4,_,h5⟩:=dd'
    refine y1D I (by rw [e]; exact True.intro) hs ⟨q,hq⟩ ⟨hl,hd,_,(rel.put k eb rv).keeps fun c ys ec=>?_,q,es,ep,hq,h2,h3,h4,h5⟩
    rw [z0d (ne_of ec e (fun z=>nomatch z))]
    exact ec
end
section
variable {X : Cx} {pins : List (Addr × Obj)} {σ : St} {H : Hp} {s : Shared} {a : Addr} {kvs : List (Key × V)} {k : Key} {u : Value} {A : Around} {E : Value->Shared->Prop}
end
noncomputable def tDIn (ty td : TE) : TE:=fun σ H Q=>ty σ H fun y H1=>td σ H1 fun x H2=>∃ a o,x = .ref a∧DGet H2 a y o∧Q (.bl o.isSome) H2
noncomputable def sDPut (td ty tv : TE) : TS:=fun D σ H=>tv σ H fun v H1=>td σ H1 fun x H2=>ty σ H2 fun y H3=>∃ a H4,x = .ref a∧DPut H3 a y v H4∧D.nx σ H4
section
variable {X : Cx} {o i e value : Expr} {pos pos' tpos : Pos} {td ty tv : TE}
theorem pc_din (hu : X.A.units + 1 < cLine) (hi : PE X i ty) (ho : PE X o td) : PC X .In i o (tDIn ty td):=by
  intro pins s σ H Q I h
  refine thn (hi pins s σ H _ I h) fun iv s1 ⟨y,H1,I1,ry,q1⟩=>thn (ho pins s1 σ H1 _ I1 q1) fun u s2 ⟨x,H2,I2,rx,a,ov,ex,g,q2⟩=>?_
  subst ex
  obtain rfl : u=Value.ref a:=rx
  exact d_in hu I2 g ry fun s3 I3=>⟨.bl ov.isSome,H2,I3,rfl,q2⟩
theorem ps_dput (hu : X.A.units + 1 < cLine) (ho : PE X o td) (hi : PE X i ty) (hv : PE X value tv) (hs : swapsWith value (some (.Subscript o i pos')) pos.line X.env=pure false) :
    PS X (.Assign [.Subscript o i pos'] value pos) (sDPut td ty tv):=by
  intro pins s σ H D I h
  refine wpAny_Assign_Subscript (thn (hv pins s σ H _ I h) fun r s1 ⟨v,H1,I1,rv,q1⟩=>thn (ho pins s1 σ H1 _ I1 q1) fun u s2 ⟨x,H2,I2,rx,q2⟩=>thn (hi pins s2 σ H2 _ I2 q2) fun iv s3 ⟨y,H3,I3,ry,a,H4,ex,g,q3⟩=>?_) hs
  subst ex
  obtain rfl : u=Value.ref a:=rx
  exact y1K hu I3 g ry rv fun s4 I4=>⟨σ,H4,I4,q3⟩
end
theorem y3r {P : Program} {w : World} {H : Hp} (h : Heap) (hb : sysModules < h.objs.size) : ObjOk P w H (h.push { cls:=.type "dict",data:=.dict #[] }) h.objs.size (.dK []):=
  ⟨Nat.zero_le _,beq_eq_false_iff_ne.mpr (Ne.symm (Nat.ne_of_lt hb)),[],.nil,Heap.DictOf.new h⟩
noncomputable def tDNewK : TE:=fun _ H Q=>∀ p,H p=none->Q (.ref p) (upd H p (.dK []))
section
variable {X : Cx} {pos : Pos}
theorem pe_dnewK : PE X (.Dict [] [] pos) tDNewK:=fun pins s σ H Q I h=>
  wpAny_Dict_empty ⟨.ref s.heap.objs.size,_,I.laid (a:=s.heap.objs.size) (o:=.dK []) (t':=s.toks) (fun _ _ q=>Heap.get?_push_of_some _ q) (Nat.le_refl _) (y3r s.heap I.big),rfl,h _ (I.hok.fresh (Nat.le_refl _))⟩
end
structure M1 (X : Cx) (o : Expr) (m : Str) (apos : Pos) (e : Expr) (cpos : Pos) : Prop where
  base : attributeBase o m X.env (eval o X.env)=eval o X.env
  few : ((backTo cpos (starEach [e] X.env)).all (fun x=>!x.1) && (backToKw cpos (keywordEach [] X.env)).all (fun x=>x.1.isSome)
    && decide (([e] : List Expr).length + ([] : List Keyword).length + (if ([] : List Keyword).isEmpty then 0 else 1) < 30))=true
  line : (apos.endLine == cpos.line)=true
  trees : backTo cpos (starEach [e] X.env)=[(false,eval e X.env)]
structure M2 (X : Cx) (o : Expr) (m : Str) (apos : Pos) (e f : Expr) (cpos : Pos) : Prop where
  base : attributeBase o m X.env (eval o X.env)=eval o X.env
  few : ((backTo cpos (starEach [e,f] X.env)).all (fun x=>!x.1) && (backToKw cpos (keywordEach [] X.env)).all (fun x=>x.1.isSome)
    && decide (([e,f] : List Expr).length + ([] : List Keyword).length + (if ([] : List Keyword).isEmpty then 0 else 1) < 30))=true
  line : (apos.endLine == cpos.line)=true
  trees : backTo cpos (starEach [e,f] X.env)=[(false,eval e X.env),(false,eval f X.env)]
section
variable {X : Cx} {pins : List (Addr × Obj)} {σ : St} {H : Hp} {s : Shared} {a : Addr} {y d : V} {u r : Value} {o : Option V} {A : Around} {E : Value->Shared->Prop}
end
section
variable {X : Cx} {o e f : Expr} {apos cpos : Pos} {td ty tx : TE}
end
section
variable {X : Cx} {pins : List (Addr × Obj)} {σ : St} {H : Hp} {s : Shared} {a : Addr} {kvs : List (Key × V)} {A : Around} {E : Value->Shared->Prop}
end
section
variable {X : Cx} {pins : List (Addr × Obj)} {σ : St} {H : Hp} {s : Shared} {a : Addr} {y : V} {u : Value} {A : Around} {E : Value->Shared->Prop}
end
end L2
namespace L2
open PySem PySem.Spec PyProof.Rows
noncomputable def z2A (cells : List (Str × Addr)) : List (Str × NameKind)->List (Str × Addr)->List (Str × Addr)
  | [],acc=>acc
  | (n,k) :: r,acc=>if k == .free then z2A cells r ((n,(cells.lookup n).getD 0) :: acc) else z2A cells r acc
theorem z5t {env : Env} (f : Str × NameKind->List (Str × Addr)->Sem (ForInStep (List (Str × Addr))))
    (hf : ∀ n k cs,f (n,k) cs=if k == .free then (do let a ← cellOf env n; pure (.yield ((n,a) :: cs))) else pure (.yield cs)) :
    ∀ (names : List (Str × NameKind)) (acc : List (Str × Addr)),(∀ n,(n,NameKind.free)∈names->∃ c,env.cells.lookup n=some c)->forIn names acc f=pure (z2A env.cells names acc)
  | [],acc,_=>by rw [List.forIn_nil]; rfl
  | (n,k) :: r,acc,h=>by
    have hr:=z5t f hf r
    rw [List.forIn_cons,hf]
    unfold z2A
    by_cases hk : (k == NameKind.free)=true
    · rw [if_pos hk,if_pos hk]
      have ek : k = .free:=eq_of_beq hk
      subst ek
      obtain ⟨c,e⟩:=h n List.mem_cons_self
      have e1 : cellOf env n=pure c:=by unfold cellOf; rw [e]
      rw [e1,e]
      exact hr _ fun m hm=>h m (List.mem_cons_of_mem _ hm)
    · rw [if_neg hk,if_neg hk]
      exact hr _ fun m hm=>h m (List.mem_cons_of_mem _ hm)
theorem z4D {scope : Scope} {env : Env} (h : ∀ n,(n,NameKind.free)∈scope.names->∃ c,env.cells.lookup n=some c) : closureFor scope env=pure (z2A env.cells scope.names []):=by
  simp only [closureFor]
  rw [z5t _ (fun n k cs=>by cases hkc : k == NameKind.free <;> simp [hkc]) scope.names [] h]
  rfl
theorem z3f {cells : List (Str × Addr)} : ∀ (names : List (Str × NameKind)) (acc : List (Str × Addr)) {x : Str} {c : Addr},(x,c)∈z2A cells names acc->(x,c)∈acc∨((x,NameKind.free)∈names∧c=(cells.lookup x).getD 0)
  | [],_,_,_,h=>.inl h
  | (n,k) :: r,acc,x,c,h=>by
    unfold z2A at h
    by_cases hk : (k == NameKind.free)=true
    · rw [if_pos hk] at h
      have ek : k = .free:=eq_of_beq hk
      subst ek
      rcases z3f r _ h with z | ⟨z1,z2⟩
      · rcases List.mem_cons.mp z with q | q
        · cases q
          exact .inr ⟨List.mem_cons_self,rfl⟩
        · exact .inl q
      · exact .inr ⟨List.mem_cons_of_mem _ z1,z2⟩
    · rw [if_neg hk] at h
      rcases z3f r _ h with z | ⟨z1,z2⟩
      · exact .inl z
      · exact .inr ⟨List.mem_cons_of_mem _ z1,z2⟩
theorem z2l {α : Type} {x : Str} {c : α} : ∀ {l : List (Str × α)},(x,c)∈l->(l.lookup x).isSome=true
  | (n,d) :: r,h=>by
    rw [List.lookup_cons]
    cases hb : x == n with
    | true=>rfl
    | false=>
      rcases List.mem_cons.mp h with q | q
      · cases q
        simp at hb
      · exact z2l q
theorem z5p {cells : List (Str × Addr)} {x : Str} : ∀ (names : List (Str × NameKind)) (acc : List (Str × Addr)),(x,NameKind.free)∈names∨(∃ c,(x,c)∈acc)->∃ c,(x,c)∈z2A cells names acc
  | [],_,h=>h.elim (fun z=>nomatch z) id
  | (n,k) :: r,acc,h=>by
    unfold z2A
    by_cases hk : (k == NameKind.free)=true
    · rw [if_pos hk]
      refine z5p r _ ?_
      rcases h with z | ⟨c,z⟩
      · rcases List.mem_cons.mp z with q | q
        · cases q
          exact .inr ⟨_,List.mem_cons_self⟩
        · exact .inl q
      · exact .inr ⟨c,List.mem_cons_of_mem _ z⟩
    · rw [if_neg hk]
      refine z5p r _ ?_
      rcases h with z | z
      · rcases List.mem_cons.mp z with q | q
        · cases q
          exact absurd (by rfl) hk
        · exact .inl q
      · exact .inr z
theorem z2F : ∀ (names : List (Str × NameKind)) (h : Heap) (acc : List (Str × Addr)) {x : Str} {c : Addr},(x,c)∈cellsFrom h.objs.size names acc →
    (x,c)∈acc∨((x,NameKind.cell)∈names∧h.objs.size≤c∧(pushCells h names).IsCell c none)
  | [],_,_,_,_,hm=>.inl hm
  | (n,k) :: r,h,acc,x,c,hm=>by
    unfold cellsFrom at hm
    unfold pushCells
    by_cases hk : (k == NameKind.cell)=true
    · rw [if_pos hk] at hm
      rw [if_pos hk]
      have ek : k = .cell:=eq_of_beq hk
      subst ek
      have e : (h.push { cls:=.type "cell",data:=.cell none }).objs.size=h.objs.size + 1:=Heap.size_push ..
      rw [← e] at hm
      rcases z2F r _ _ hm with z | ⟨z1,z2,z3⟩
      · rcases List.mem_cons.mp z with q | q
        · cases q
          exact .inr ⟨List.mem_cons_self,Nat.le_refl _,⟨_,pushCells_keeps r _ _ _ (Heap.get?_push_size _ rfl),rfl⟩⟩
        · exact .inl q
      · exact .inr ⟨List.mem_cons_of_mem _ z1,by omega,z3⟩
    · rw [if_neg hk] at hm
      rw [if_neg hk]
      rcases z2F r h acc hm with z | ⟨z1,z2,z3⟩
      · exact .inl z
      · exact .inr ⟨List.mem_cons_of_mem _ z1,z2,z3⟩
theorem z2K {x : Str} : ∀ (names : List (Str × NameKind)) (n : Nat) (acc : List (Str × Addr)),(x,NameKind.cell)∈names∨(∃ c,(x,c)∈acc)->∃ c,(x,c)∈cellsFrom n names acc
  | [],_,_,h=>h.elim (fun z=>nomatch z) id
  | (y,k) :: r,n,acc,h=>by
    unfold cellsFrom
    by_cases hk : (k == NameKind.cell)=true
    · rw [if_pos hk]
      refine z2K r _ _ ?_
      rcases h with z | ⟨c,z⟩
      · rcases List.mem_cons.mp z with q | q
        · cases q
          exact .inr ⟨_,List.mem_cons_self⟩
        · exact .inl q
      · exact .inr ⟨c,List.mem_cons_of_mem _ z⟩
    · rw [if_neg hk]
      refine z2K r _ _ ?_
      rcases h with z | z
      · rcases List.mem_cons.mp z with q | q
        · cases q
          exact absurd (by rfl) hk
        · exact .inl q
      · exact .inr z
theorem z2L (lo : Nat) : ∀ (names : List (Str × NameKind)) (n : Nat) (acc : List (Str × Addr)),(∀ x y c,(x,c)∈acc->(y,c)∈acc->lo≤c->x=y)->(∀ p∈acc,p.2 < n) →
    ∀ x y c,(x,c)∈cellsFrom n names acc->(y,c)∈cellsFrom n names acc->lo≤c->x=y
  | [],_,_,h,_=>h
  | (m,k) :: r,n,acc,h,hb=>by
    unfold cellsFrom
    by_cases hk : (k == NameKind.cell)=true
    · rw [if_pos hk]
      refine z2L lo r (n + 1) ((m,n) :: acc) (fun x y c hx hy hc=>?_) fun p hp=>?_
      · rcases List.mem_cons.mp hx with q | q <;> rcases List.mem_cons.mp hy with q' | q'
        · cases q; cases q'; rfl
        · cases q
          exact absurd (hb _ q') (Nat.lt_irrefl _)
        · cases q'
          exact absurd (hb _ q) (Nat.lt_irrefl _)
        · exact h x y c q q' hc
      · rcases List.mem_cons.mp hp with q | q
        · cases q; exact Nat.lt_succ_self _
        · exact Nat.lt_succ_of_lt (hb p q)
    · rw [if_neg hk]
      exact z2L lo r n acc h hb
theorem z3o (env : Env) (x : Str) : ∀ names : List (Str × NameKind),
    (names.map fun (n,k)=>if (k == NameKind.free && env.scope.kind == .function && env.kindOf n == some .cell) then (n,NameKind.cell) else (n,k)).lookup x =
      (names.lookup x).map fun k=>if (k == NameKind.free && env.scope.kind == .function && env.kindOf x == some .cell) then NameKind.cell else k
  | []=>rfl
  | (n,k) :: r=>by
    have ih:=z3o env x r
    show List.lookup x ((if (k == NameKind.free && env.scope.kind == .function && env.kindOf n == some .cell)=true then (n,NameKind.cell) else (n,k)) :: _)=_
    cases hx : x == n with
    | true=>
      have e:=eq_of_beq hx
      subst e
      by_cases hc : (k == NameKind.free && env.scope.kind == .function && env.kindOf x == some .cell)=true
      · rw [if_pos hc]
        simp only [List.lookup_cons,beq_self_eq_true,Option.map_some,hc,if_true]
      · rw [if_neg hc]
        simp only [List.lookup_cons,beq_self_eq_true,Option.map_some]
        rw [if_neg hc]
    | false=>
      by_cases hc : (k == NameKind.free && env.scope.kind == .function && env.kindOf n == some .cell)=true
      · rw [if_pos hc]; simp only [List.lookup_cons,hx]; exact ih
      · rw [if_neg hc]; simp only [List.lookup_cons,hx]; exact ih
theorem z2r {M : Model} {A : Around} {E : Value->Shared->Prop} {s : Shared} {scope : Scope} {globals : Addr} {closure : List (Str × Addr)} {qual : Str} {env : Env} {Q : Env->Shared->Prop}
    (hQ : Q (newEnv scope s.heap.objs.size globals (cellsFrom (s.heap.objs.size + 1) scope.names closure) qual none .none (some env) builtinsNs)
      { s with heap:=pushCells (s.heap.push { cls:=.type "dict",data:=.dict #[] }) scope.names }) :
    wpAny M A (newFunctionEnv scope globals closure [] qual none .none (some env)) Q E s:=by
  simp only [newFunctionEnv,Option.isSome_some,if_true]
  refine wpAny_bind (wpAny_alloc ?_)
  refine wpAny_bind (wpAny_layCells _ (fun name kind cells=>by cases hkc : kind == NameKind.cell <;> simp [hkc]) _ _ _ _ ?_)
  rw [show ({ s with heap:=s.heap.push { cls:=.type "dict",data:=.dict #[] } } : Shared).heap.objs.size=s.heap.objs.size + 1 from Heap.size_push ..]
  refine wpAny_bind ?_
  rw [List.forIn_nil]
  exact wpAny_pure (wpAny_pure hQ)
noncomputable def capOk (out names : List (Str × NameKind)) : Bool:=names.all fun p=>!(decide (p.2=NameKind.free)) || (decide (out.lookup p.1=some NameKind.cell) || decide (out.lookup p.1=some NameKind.free))
noncomputable def nmOk (N N' : List Str) (names : List (Str × NameKind)) : Bool:=(List.range N.length).all fun i=>match N'[i]? with
  | some y=>decide (names.lookup y=none) || (decide (names.lookup y=some NameKind.free) && decide (N[i]? = some y))
  | none=>false
structure CompScope (N : List Str) (out : List (Str × NameKind)) (N' : List Str) (k : Nat) (sc : Scope) : Prop where
  kind : sc.kind = .function
  len : N'.length=N.length + k
  cap : capOk out sc.names=true
  nm : nmOk N N' sc.names=true
  uniq : sc.names.all (fun p=>decide (sc.names.lookup p.1=some p.2))=true
noncomputable def z1C (X : Cx) (N' : List Str) (sc : Scope) (s : Shared) (H : Hp) (fp : List Addr) (pins : List (Addr × Obj)) (E : Value->Shared->Prop) : Cx where
  prog:=X.prog
  w:=X.w
  K:=X.K
  mg:=X.mg
  base:=X.base
  A:=X.A
  N:=N'
  s₀:=s
  H₀:=H
  env:=compEnvC sc (cellsFrom (s.heap.objs.size + 1) sc.names (z2A X.env.cells sc.names [])) s.heap.objs.size X.env
  outer:=X.stack
  stack:=X.stack
  ex:=fp
  fn:=fun x=>decide (sc.names.lookup x=some .cell)
  calm:=X.calm
  pn:=X.pn ++ pins
  xe:=E
section
variable {X : Cx} {N' : List Str} {k : Nat} {sc : Scope} {pins : List (Addr × Obj)} {σ : St} {H : Hp} {s : Shared} {fp : List Addr} {E : Value->Shared->Prop}
theorem CompScope.fr (S : CompScope X.N X.env.scope.names N' k sc) {x : Str} (h : (x,NameKind.free)∈sc.names) : X.env.kindOf x=some .cell∨X.env.kindOf x=some .free:=by
  have q:=List.all_eq_true.mp S.cap _ h
  simp at q
  exact q
theorem CompScope.look {N : List Str} {out : List (Str × NameKind)} (S : CompScope N out N' k sc) {x : Str} {kd : NameKind} (h : (x,kd)∈sc.names) : sc.names.lookup x=some kd:=by
  have q:=List.all_eq_true.mp S.uniq _ h
  exact of_decide_eq_true q
theorem y2M (S : CompScope X.N X.env.scope.names N' k sc) (I : Inv X pins σ H s) (hf : ∀ b∈fp,z9M X pins H b) (hlt : ∀ b∈fp,b < s.heap.objs.size) :
    Inv (z1C X N' sc s H fp pins E) [] (σ ++ List.replicate k none) H { s with heap:=pushCells (s.heap.push { cls:=.type "dict",data:=.dict #[] }) sc.names }:=by
  have keeps : ∀ b o,s.heap.get? b=some o->(pushCells (s.heap.push { cls:=.type "dict",data:=.dict #[] }) sc.names).get? b=some o:=fun b o e=>pushCells_keeps _ _ _ _ (Heap.get?_push_of_some _ e)
  have hsz : (s.heap.push { cls:=.type "dict",data:=.dict #[] }).objs.size=s.heap.objs.size + 1:=Heap.size_push ..
  have hns : (pushCells (s.heap.push { cls:=.type "dict",data:=.dict #[] }) sc.names).Ns s.heap.objs.size (fun _=>none):=(Heap.Ns.new s.heap (.type "dict")).keeps (pushCells_keeps _ _)
  have frc : ∀ x,(x,NameKind.free)∈sc.names->∃ c,X.env.cells.lookup x=some c:=fun x h=>I.ok.has x (S.fr h)
  have cm : ∀ x c,(x,c)∈cellsFrom (s.heap.objs.size + 1) sc.names (z2A X.env.cells sc.names []) →
      ((x,NameKind.cell)∈sc.names∧s.heap.objs.size + 1≤c∧(pushCells (s.heap.push { cls:=.type "dict",data:=.dict #[] }) sc.names).IsCell c none)∨((x,NameKind.free)∈sc.names∧X.env.cells.lookup x=some c):=fun x c h=>by
    rw [← hsz] at h
    rcases z2F _ _ _ h with z | ⟨z1,z2,z3⟩
    · rcases z3f _ _ z with z | ⟨z1,z2⟩
      · exact nomatch z
      · obtain ⟨c',e⟩:=frc x z1
        rw [e] at z2
        cases z2
        exact .inr ⟨z1,e⟩
    · exact .inl ⟨z1,by omega,z3⟩
  have cl : ∀ x c,(cellsFrom (s.heap.objs.size + 1) sc.names (z2A X.env.cells sc.names [])).lookup x=some c->(x,c)∈cellsFrom (s.heap.objs.size + 1) sc.names (z2A X.env.cells sc.names []):=fun x c h=>PySem.mem_of_lookup h
  have clt : ∀ x c,X.env.cells.lookup x=some c->c < s.heap.objs.size:=fun x c h=>by
    obtain ⟨v,q⟩:=I.cell x c h
    exact q.lt
  have has : ∀ x,(x,NameKind.cell)∈sc.names∨(x,NameKind.free)∈sc.names->∃ c,(cellsFrom (s.heap.objs.size + 1) sc.names (z2A X.env.cells sc.names [])).lookup x=some c:=fun x h=>by
    obtain ⟨c,hc⟩:=z2K (x:=x) sc.names (s.heap.objs.size + 1) (z2A X.env.cells sc.names []) (h.imp id fun z=>z5p _ _ (.inl z))
    exact Option.isSome_iff_exists.mp (z2l hc)
  have kd : ∀ x kk,(relabel sc X.env).names.lookup x=some kk->∃ k0,sc.names.lookup x=some k0∧(kk=k0∨(k0 = .free∧kk = .cell)):=fun x kk h=>by
    have q:=z3o X.env x sc.names
    have h' : (sc.names.map fun (n,k)=>if (k == NameKind.free && X.env.scope.kind == .function && X.env.kindOf n == some .cell) then (n,NameKind.cell) else (n,k)).lookup x=some kk:=h
    rw [q] at h'
    cases e : sc.names.lookup x with
    | none=>rw [e] at h'; cases h'
    | some k0=>
      rw [e] at h'
      simp only [Option.map_some,Option.some.injEq] at h'
      refine ⟨k0,rfl,?_⟩
      split at h'
      · rename_i hc
        simp at hc
        exact .inr ⟨hc.1.1,h'.symm⟩
      · exact .inl h'.symm
  refine ⟨⟨I.ok.mod,S.kind,I.ok.glob,I.ok.blt,Nat.le_refl _,?inj,?has,?cab,I.ok.hd,I.ok.frames,.inl rfl,?exf,I.bs,Nat.le_trans I.ok.bsz I.sz,?noex,?exfs,I.stack,I.stkFree⟩,
    rfl,I.bare,Un.kept keeps,⟨_,hns,?loc⟩,?cell,I.hok.fresh (Nat.le_refl _),?freeC,?pin,I.hok.kept keeps,?len⟩
  case inj=>
    intro x y c h1 h2
    rcases cm x c (cl x c h1) with ⟨_,l1,_⟩ | ⟨m1,e1⟩
    · rcases cm y c (cl y c h2) with ⟨_,l2,_⟩ | ⟨m2,e2⟩
      · refine z2L (s.heap.objs.size + 1) sc.names (s.heap.objs.size + 1) (z2A X.env.cells sc.names []) (fun x y c hx _ hc=>?_) (fun p hp=>?_) x y c (cl x c h1) (cl y c h2) l1
        · rcases z3f _ _ hx with z | ⟨z1,z2⟩
          · exact nomatch z
          · obtain ⟨c',e⟩:=frc x z1
            rw [e] at z2
            have z3 : c=c':=z2
            subst z3
            exact absurd (clt x c e) (Nat.not_lt.mpr (Nat.le_of_succ_le hc))
        · obtain ⟨x,c⟩:=p
          rcases z3f _ _ hp with z | ⟨z1,z2⟩
          · exact nomatch z
          · obtain ⟨c',e⟩:=frc x z1
            rw [e] at z2
            have z3 : c=c':=z2
            subst z3
            exact Nat.lt_succ_of_lt (clt x c e)
      · exact absurd (clt y c e2) (Nat.not_lt.mpr (Nat.le_of_succ_le l1))
    · rcases cm y c (cl y c h2) with ⟨_,l2,_⟩ | ⟨m2,e2⟩
      · exact absurd (clt x c e1) (Nat.not_lt.mpr (Nat.le_of_succ_le l2))
      · exact I.ok.inj x y c e1 e2
  case has=>
    intro x hx
    refine has x ?_
    rcases hx with hx | hx
    · obtain ⟨k0,e,h⟩:=kd x _ hx
      rcases h with h | ⟨h,_⟩
      · subst h; exact .inl (PySem.mem_of_lookup e)
      · subst h; exact .inr (PySem.mem_of_lookup e)
    · obtain ⟨k0,e,h⟩:=kd x _ hx
      rcases h with h | ⟨_,h⟩
      · subst h; exact .inr (PySem.mem_of_lookup e)
      · cases h
  case cab=>
    intro x c hfn h
    have hfn' : sc.names.lookup x=some NameKind.cell:=of_decide_eq_true hfn
    rcases cm x c (cl x c h) with ⟨_,l,_⟩ | ⟨m,_⟩
    · exact Nat.le_of_succ_le l
    · rw [S.look m] at hfn'; cases hfn'
  case exf=>
    intro b hb
    refine ⟨Nat.ne_of_lt (hlt b hb),fun x c h=>?_⟩
    rcases cm x c (cl x c h) with ⟨_,l,_⟩ | ⟨_,e⟩
    · intro z
      subst z
      exact absurd (hlt c hb) (Nat.not_lt.mpr (Nat.le_of_succ_le l))
    · exact (hf b hb).2.2.2.2.1 x c e
  case noex=>
    intro b o e hb
    rcases (hf b hb).2.2.2.1 with z | z
    · exact I.ok.noex b o e z
    · exact absurd (Nat.lt_of_lt_of_le (Heap.lt_size e) (Nat.le_trans I.ok.bsz z)) (Nat.lt_irrefl _)
  case exfs=>exact fun b hb z=>(List.mem_cons.mp (I.stkSub b z)).elim (hf b hb).2.1 (hf b hb).2.2.1
  case loc=>
    intro i y v h1 h2 h3
    have hl:=I.len
    by_cases hi : i < σ.length
    · rw [List.getElem?_append_left hi] at h2
      have q:=List.all_eq_true.mp S.nm i (List.mem_range.mpr (by omega))
      have h1' : N'[i]? = some y:=h1
      simp only [h1',Bool.or_eq_true,Bool.and_eq_true,decide_eq_true_eq] at q
      rcases q with q | ⟨q1,q2⟩
      · exfalso
        rcases h3 with z | z | z <;> (obtain ⟨k0,e,_⟩:=kd y _ z; rw [q] at e; cases e)
      · have hm:=PySem.mem_of_lookup q1
        obtain ⟨m,hn,hloc⟩:=I.loc
        have kk:=S.fr hm
        obtain ⟨u,r,l⟩:=hloc i y v q2 h2 (kk.elim (fun z=>.inr (.inl z)) fun z=>.inr (.inr z))
        refine ⟨u,r,.inr ⟨?_,?_⟩⟩
        · rcases h3 with z | z | z
          · obtain ⟨k0,e,h⟩:=kd y _ z
            rw [q1] at e
            cases e
            rcases h with h | ⟨_,h⟩ <;> cases h
          · exact .inl z
          · exact .inr z
        · rcases l with ⟨l,_⟩ | ⟨_,c,ec,hc⟩
          · rcases kk with z | z <;> (rw [z] at l; cases l)
          · obtain ⟨c',e'⟩:=has y (.inr hm)
            refine ⟨c',e',?_⟩
            rcases cm y c' (cl y c' e') with ⟨m',_⟩ | ⟨_,e2⟩
            · have:=S.look m'
              rw [q1] at this
              cases this
            · rw [ec] at e2
              cases e2
              exact hc.keeps keeps
    · rw [List.getElem?_append_right (by omega),List.getElem?_replicate] at h2
      split at h2 <;> cases h2
  case cell=>
    intro x c h
    rcases cm x c (cl x c h) with ⟨_,_,q⟩ | ⟨_,e⟩
    · exact ⟨_,q⟩
    · obtain ⟨v,q⟩:=I.cell x c e
      exact ⟨v,q.keeps keeps⟩
  case freeC=>
    intro x c h
    rcases cm x c (cl x c h) with ⟨_,l,_⟩ | ⟨_,e⟩
    · exact I.hok.fresh (Nat.le_of_succ_le l)
    · exact I.freeC x c e
  case pin=>
    intro p hp
    have hp' : p∈X.pn ++ pins:=by
      rcases List.mem_append.mp hp with z | z
      · exact z
      · exact nomatch z
    obtain ⟨e,n,ne,nf,d⟩:=I.pin p hp'
    exact ⟨keeps _ _ e,n,Nat.ne_of_lt (Heap.lt_size e),fun z=>(List.mem_cons.mp (I.stkSub p.1 z)).elim ne nf,d⟩
  case len=>
    show _=N'.length
    rw [List.length_append,List.length_replicate,S.len,I.len]
theorem y1g {σ' : St} {H' : Hp} {s' : Shared} (I : Inv X pins σ H s) (hf : ∀ b∈fp,z9M X pins H b) (J : Inv (z1C X N' sc s H fp pins E) [] σ' H' s') : Inv X pins σ H' s':=
  I.call' J.os J.base J.hok J.bare fun b hb=>⟨(hf b hb).2.2.2.1,(hf b hb).2.1,(hf b hb).2.2.2.2.1,(hf b hb).2.2.2.2.2⟩
theorem y1n {H' : Hp} {s' : Shared} {h' : Heap} (I : Inv X pins σ H s) (J : Inv X pins σ H' s') (hn : H' s.heap.objs.size=none) (hb : Heap.SameBut s.heap.objs.size s'.heap h') : Inv X pins σ H' { s' with heap:=h' }:=by
  refine J.turned (t':=s'.toks) (it:=s.heap.objs.size) (fun b o hne e=>(hb.2 b hne).trans e) hn (Nat.ne_of_gt I.lt) (.inr I.sz) (fun x c e=>?_) fun p hp=>?_
  · obtain ⟨v,q⟩:=I.cell x c e
    exact Nat.ne_of_lt q.lt
  · exact Nat.ne_of_lt (Heap.lt_size (I.pin p hp).1)
end
theorem z7B {prog : Program} {w : World} {A : Around} {R : Result->Shared->Prop} {s : Shared} {elt target iter : Expr} {ifs : List Expr} {scope : Scope} {pos : Pos} {it acc : Value} {env : Env} (I : Nat->Shared->Prop)
    (turn : ∀ n s,I n s->wpAny (model prog w) A (pyNext it) (fun r s₁=>match r with
      | none=>R (.ok .next) s₁
      | some v=>wpAny (model prog w) A (letOwnedTupleGo target it v) (fun _ s₁'=>wpAny (model prog w) A (assign target env v) (fun _ s₂=>
          wpAny (model prog w) A (forIn ifs true fun c r=>if r=true then do let ok ← isTrue c env (eval c env); pure (ForInStep.yield ok) else pure (ForInStep.yield r)) (fun ok s₃=>
            if ok=true then wpAny (model prog w) A (eval elt env) (fun x s₄=>
              wpAny (model prog w) A (call (.builtin "list.append") [acc,x]) (fun _ s₅=>∃ m,m < n∧I m s₅) (notedBy (model prog w) A env fun e s'=>R (.error e) s') s₄) (notedBy (model prog w) A env fun e s'=>R (.error e) s') s₃
            else ∃ m,m < n∧I m s₃) (notedBy (model prog w) A env fun e s'=>R (.error e) s') s₂) (notedBy (model prog w) A env fun e s'=>R (.error e) s') s₁') (notedBy (model prog w) A env fun e s'=>R (.error e) s') s₁) (notedBy (model prog w) A env fun e s'=>R (.error e) s') s)
    (n : Nat) (h : I n s) :
    codeAny (model prog w) A (.compLoop (.ListComp elt [⟨target,iter,ifs,0⟩] scope pos) 0 it acc env) R s:=by
  refine codeAny_loop rfl I (fun n s hI=>?_) n h
  show wpAny _ A ((compTurn (.ListComp elt [⟨target,iter,ifs,0⟩] scope pos) 0 it acc env).onRaise (fun x=>do noteFrame x env; theTreesLotGoes x)) _ _ s
  refine wpAny_noted ?_
  rw [compTurn_list]
  refine wpAny_bind (wpAny_standAt (wpAny_bind (wpAny_mono (turn n s hI) (fun r s₁ h₁=>?_) fun _ _ h'=>h')))
  cases r with
  | none=>exact wpAny_pure h₁
  | some v=>
    refine wpAny_bind (wpAny_mono h₁ (fun _ s₁' h₁'=>?_) fun _ _ h'=>h')
    refine wpAny_bind (wpAny_mono h₁' (fun _ s₂ h₂=>wpAny_bind (wpAny_mono h₂ (fun ok s₃ h₃=>?_) fun _ _ h'=>h')) fun _ _ h'=>h')
    cases ok with
    | false=>exact wpAny_pure ⟨rfl,h₃⟩
    | true=>
      exact wpAny_bind (wpAny_bind (wpAny_mono h₃ (fun x s₄ h₄=>wpAny_bind (wpAny_mono h₄ (fun _ s₅ h₅=>wpAny_pure (wpAny_pure ⟨rfl,h₅⟩)) fun _ _ h'=>h')) fun _ _ h'=>h'))
noncomputable def PIfs (X : Cx) (ifs : List Expr) (t : TT) : Prop:=
  ∀ (pins : List (Addr × Obj)) (s : Shared) (σ : St) (H : Hp) (Q : Bool->Hp->Prop),Inv X pins σ H s->t σ H Q →
    wpAny (model X.prog X.w) X.A (forIn ifs true fun c r=>if r=true then do let ok ← isTrue c X.env (eval c X.env); pure (ForInStep.yield ok) else pure (ForInStep.yield r)) (TP X pins σ Q) X.xe s
noncomputable def tYes : TT:=fun _ H Q=>Q true H
theorem y3I {X : Cx} : PIfs X [] tYes:=fun _ _ _ H _ I h=>wpAny_tests_nil ⟨H,I,h⟩
noncomputable def tComp (wi : TI) (g : TG) (tc : TT) (te : TE) (k : Nat) : TE:=fun σ H Q=>wi σ H fun J H1=>∀ D,H1 D=none →
  ∃ W : Nat->Nat->St->Hp->Prop,(∃ m,W 0 m (σ ++ List.replicate k none) (upd H1 D (.lst [])))∧∀ i m σ' H',W i m σ' H' →
    (J.stop i H'∧Q (.ref D) H')∨(J.go i H'∧∃ N : St->Hp->Prop,(∀ σ'' H'',N σ'' H''->∃ m',m' < m∧W (i + 1) m' σ'' H'') ∧
      ∀ x H2,J.yld i H' x H2->g x σ' H2 fun σ2 H3=>tc σ2 H3 fun b H4=>if b=true then te σ2 H4 fun y H5=>∃ ys,H5 D=some (.lst ys)∧ys.length < sizeLine∧N σ2 (upd H5 D (.lst (ys ++ [y]))) else N σ2 H4)
structure PComp (X : Cx) (N' : List Str) (sc : Scope) (tg : Expr) (ifs : List Expr) (elt : Expr) (g : TG) (tc : TT) (te : TE) : Prop where
  pg : ∀ s H fp pins E,PG (z1C X N' sc s H fp pins E) tg g
  pt : ∀ s H fp pins E,PIfs (z1C X N' sc s H fp pins E) ifs tc
  pe : ∀ s H fp pins E,PE (z1C X N' sc s H fp pins E) elt te
section
variable {X : Cx} {N' : List Str} {k : Nat} {sc : Scope} {tg iter elt : Expr} {ifs : List Expr} {pos : Pos} {g : TG} {tc : TT} {te : TE} {wi : TI}
theorem z9B {pins : List (Addr × Obj)} {σ : St} {H : Hp} {s : Shared} {J : It} {fp : List Addr} {it : Addr} {tn : Nat->Heap->Prop} {Q : VK} {E : Value->Shared->Prop} {RR : Value->Addr->Result->Shared->Prop}
    (hc : X.calm=true) (S : CompScope X.N X.env.scope.names N' k sc) (P : PComp X N' sc tg ifs elt g tc te) (I : Inv X pins σ H s) (T : Turn X.prog X.w X.K tg J fp it tn) (st : tn 0 s.heap) (hf : ∀ b∈fp,z9M X pins H b)
    (hW : ∀ D,H D=none->∃ W : Nat->Nat->St->Hp->Prop,(∃ m,W 0 m (σ ++ List.replicate k none) (upd H D (.lst [])))∧∀ i m σ' H',W i m σ' H' →
      (J.stop i H'∧Q (.ref D) H')∨(J.go i H'∧∃ N : St->Hp->Prop,(∀ σ'' H'',N σ'' H''->∃ m',m' < m∧W (i + 1) m' σ'' H'') ∧
        ∀ x H2,J.yld i H' x H2->g x σ' H2 fun σ2 H3=>tc σ2 H3 fun b H4=>if b=true then te σ2 H4 fun y H5=>∃ ys,H5 D=some (.lst ys)∧ys.length < sizeLine∧N σ2 (upd H5 D (.lst (ys ++ [y]))) else N σ2 H4))
    (hR : ∀ D s3 H3 σ' H' s' E',Inv X pins σ H3 s3->(∀ b∈fp,z9M X pins H3 b)->Inv (z1C X N' sc s3 H3 fp pins E') [] σ' H' s'->Q (.ref D) H'->RR (.ref D) s3.heap.objs.size (.ok .next) s') :
    wpAny (model X.prog X.w) X.A (newList []) (fun acc s₃=>wpAny (model X.prog X.w) X.A (newFunctionEnv sc X.env.globals (z2A X.env.cells sc.names []) [] X.env.qual none .none (some X.env)) (fun cenv s₄=>
      codeAny (model X.prog X.w) X.A (.compStart (.ListComp elt [⟨tg,iter,ifs,0⟩] sc pos) 0 (.ref it) acc { cenv with scope:=relabel sc X.env }) (RR acc cenv.locals) s₄) E s₃) E s:=by
  obtain ⟨W,⟨m0,w0⟩,step⟩:=hW s.heap.objs.size (I.hok.fresh (Nat.le_refl _))
  have I3 : Inv X pins σ (upd H s.heap.objs.size (.lst [])) { s with heap:=s.heap.push { cls:=.type "list",data:=.seq ([] : List Value).toArray },toks:=s.toks }:=I.lnew (t':=s.toks) .nil (Nat.zero_le _)
  have lt0 : ∀ b∈fp,b < s.heap.objs.size:=fun b hb=>by
    obtain ⟨o,e,_⟩:=T.obj 0 _ st b hb
    exact Heap.lt_size e
  have hf3 : ∀ b∈fp,z9M X pins (upd H s.heap.objs.size (.lst [])) b:=fun b hb=>⟨by rw [z0d (Nat.ne_of_lt (lt0 b hb))]; exact (hf b hb).1,(hf b hb).2⟩
  have lt3 : ∀ b∈fp,b < (s.heap.push { cls:=.type "list",data:=.seq ([] : List Value).toArray }).objs.size:=fun b hb=>by
    rw [Heap.size_push]
    exact Nat.lt_succ_of_lt (lt0 b hb)
  refine wpAny_newObj_type (z2r ?_)
  generalize hs3 : ({ s with heap:=s.heap.push { cls:=.type "list",data:=.seq ([] : List Value).toArray },toks:=s.toks } : Shared)=s3 at I3
  have hsh : s3.heap=s.heap.push { cls:=.type "list",data:=.seq ([] : List Value).toArray }:=by rw [← hs3]
  rw [← hsh] at lt3
  have st3 : tn 0 s3.heap:=T.keep _ _ _ st fun b _ o e=>by rw [hsh]; exact Heap.get?_push_of_some _ e
  show codeAny _ _ (.compStart _ 0 (.ref it) (.ref s.heap.objs.size) (compEnvC sc (cellsFrom (s3.heap.objs.size + 1) sc.names (z2A X.env.cells sc.names [])) s3.heap.objs.size X.env)) (RR (.ref s.heap.objs.size) s3.heap.objs.size)
    { s3 with heap:=pushCells (s3.heap.push { cls:=.type "dict",data:=.dict #[] }) sc.names }
  generalize hD : s.heap.objs.size=D at *
  generalize hEn : (notedBy (model X.prog X.w) X.A (compEnvC sc (cellsFrom (s3.heap.objs.size + 1) sc.names (z2A X.env.cells sc.names [])) s3.heap.objs.size X.env) fun e s'=>RR (.ref D) s3.heap.objs.size (.error e) s')=En
  have I4 : Inv (z1C X N' sc s3 (upd H D (.lst [])) fp pins En) [] (σ ++ List.replicate k none) (upd H D (.lst [])) { s3 with heap:=pushCells (s3.heap.push { cls:=.type "dict",data:=.dict #[] }) sc.names }:=y2M S I3 hf3 lt3
  have st4 : tn 0 (pushCells (s3.heap.push { cls:=.type "dict",data:=.dict #[] }) sc.names):=T.keep _ _ _ st3 fun b _ o e=>pushCells_keeps _ _ _ _ (Heap.get?_push_of_some _ e)
  have stat : ∀ {H' : Hp},(∀ b∈fp,H' b=none)->∀ b∈fp,z9M (z1C X N' sc s3 (upd H D (.lst [])) fp pins En) [] H' b:=fun hn b hb=>
    ⟨hn b hb,(I4.ok.exf b hb).1,I4.ok.exfs b hb,.inl hb,(I4.ok.exf b hb).2,fun p hp=>(hf3 b hb).2.2.2.2.2 p (by
      rcases List.mem_append.mp hp with z | z
      · exact z
      · exact nomatch z)⟩
  have loop : codeAny (model X.prog X.w) X.A (.compLoop (.ListComp elt [⟨tg,iter,ifs,0⟩] sc pos) 0 (.ref it) (.ref D) (z1C X N' sc s3 (upd H D (.lst [])) fp pins En).env) (RR (.ref D) s3.heap.objs.size)
      { s3 with heap:=pushCells (s3.heap.push { cls:=.type "dict",data:=.dict #[] }) sc.names }:=by
    refine z7B (fun n s'=>∃ i σ' H',Inv (z1C X N' sc s3 (upd H D (.lst [])) fp pins En) [] σ' H' s'∧tn i s'.heap∧(∀ b∈fp,H' b=none)∧W i n σ' H') ?_ m0 ⟨0,_,_,I4,st4,fun b hb=>(hf3 b hb).1,w0⟩
    have eEn : (notedBy (model X.prog X.w) X.A (z1C X N' sc s3 (upd H D (.lst [])) fp pins En).env fun e s'=>RR (.ref D) s3.heap.objs.size (.error e) s')=En:=hEn
    rw [eEn]
    rintro n s5 ⟨i,σ5,H5,I5,st5,fr5,w5⟩
    rcases step i n σ5 H5 w5 with ⟨stop,qn⟩ | ⟨go,N,hN,turn⟩
    · refine thn (T.done (z1C X N' sc s3 (upd H D (.lst [])) fp pins En) rfl rfl rfl hc i [] s5 σ5 H5 En I5 (stat fr5) st5 stop) fun r s6 ⟨hr,I6⟩=>?_
      subst hr
      exact hR D s3 _ σ5 H5 s6 En I3 hf3 I6 qn
    · refine thn (T.item (z1C X N' sc s3 (upd H D (.lst [])) fp pins En) rfl rfl rfl hc i [] s5 σ5 H5 En I5 (stat fr5) st5 go) fun r s6 ⟨u,hr,h6⟩=>?_
      subst hr
      refine thn h6 fun _ s7 ⟨x,H7,I7,r7,y7,st7,fr7⟩=>?_
      have I7':=I7.pinned (stat fr7) (T.obj _ _ st7)
      have back : ∀ {σ9 : St} {H9 : Hp} {s9 : Shared},Inv (z1C X N' sc s3 (upd H D (.lst [])) fp pins En) ([] ++ z7e fp s7.heap) σ9 H9 s9->N σ9 H9 →
          ∃ m,m < n∧∃ i σ' H',Inv (z1C X N' sc s3 (upd H D (.lst [])) fp pins En) [] σ' H' s9∧tn i s9.heap∧(∀ b∈fp,H' b=none)∧W i m σ' H':=fun {σ9 H9 s9} I9 n9=>by
        obtain ⟨m',hm,w9⟩:=hN σ9 H9 n9
        refine ⟨m',hm,i + 1,σ9,H9,I9.unpinned,T.keep _ _ _ st7 fun b hb o e=>(I9.pin (b,o) (List.mem_append_right _ (List.mem_append_right _ (z3j hb e)))).1,fun b hb=>?_,w9⟩
        obtain ⟨o,e,d⟩:=T.obj _ _ st7 b hb
        exact (I9.pin (b,o) (List.mem_append_right _ (List.mem_append_right _ (z3j hb e)))).2.1
      refine thn (P.pg s3 _ fp pins En _ s7 σ5 H7 x u _ I7' r7 (turn x H7 y7)) fun _ s8 ⟨σ8,H8,I8,q8⟩=>?_
      refine thn (P.pt s3 _ fp pins En _ s8 σ8 H8 _ I8 q8) fun ok s9 ⟨H9,I9,q9⟩=>?_
      cases ok with
      | false=>
        rw [if_neg Bool.false_ne_true] at q9
        rw [if_neg Bool.false_ne_true]
        exact back I9 q9
      | true=>
        rw [if_pos rfl] at q9
        rw [if_pos rfl]
        refine thn (P.pe s3 _ fp pins En _ s9 σ8 H9 _ I9 q9) fun y s10 ⟨yv,H10,I10,r10,ys,hys,hl,q10⟩=>?_
        refine thn (z2Y _ s10 σ8 H10 (.ref D) [yv] (.ref D) [y] (fun _ H'=>N σ8 H') I10 rfl (.cons r10 .nil) ⟨D,ys,yv,rfl,rfl,hys,hl,q10⟩) fun _ s11 ⟨_,H11,I11,_,q11⟩=>?_
        exact back I11 q11
  exact codeAny_compStart_list loop (T.self X.A 0 _ _ _ st4 loop)
theorem CompScope.names' {N : List Str} {out : List (Str × NameKind)} (S : CompScope N out N' k sc) : ∀ x∈sc.names,x.2 = .local->sc.names.lookup x.1=some .local:=fun x hx e=>by
  obtain ⟨n,kd⟩:=x
  have e' : kd = .local:=e
  subst e'
  exact S.look hx
theorem pe_comp (hc : X.calm=true) (S : CompScope X.N X.env.scope.names N' k sc) (hi : PI X tg iter wi) (P : PComp X N' sc tg ifs elt g tc te) (hs : ∀ x,foldedSetIterable iter X.env x=pure x:=by intro _; rfl) :
    PE X (.ListComp elt [⟨tg,iter,ifs,0⟩] sc pos) (tComp wi g tc te k):=by
  intro pins s σ H Q I h
  rw [eval_ListComp]
  refine wpAny_comprehension_free (use:=none) rfl hs (z4D fun n hn=>I.ok.has n (S.fr hn)) S.kind S.names' (thn (hi pins s σ H _ I h) fun v s1 h1=>thn h1 fun itv s2 h2=>?_)
  obtain ⟨it,fp,tn,J,H2,e,I2,T,st2,f2,hW⟩:=h2
  subst e
  refine z9B (Q:=Q) (RR:=fun acc C=>compPost (model X.prog X.w) X.A X.xe none (EP X pins σ Q) acc C) hc S P I2 T st2 f2 hW ?_
  intro D s3 H3 σ' H' s' E' I3 f3 J' q
  obtain ⟨m,hn,_⟩:=J'.loc
  exact ⟨m,hn,fun h' hb=>⟨.ref D,H',y1n I3 (y1g I3 f3 J') J'.free hb,rfl,q⟩⟩
end
end L2
namespace L2
open PySem PySem.Spec PyProof.Rows
inductive D where
  | non | bl (b : Bool) | int (i : Int) | str (x : Str) | lst (xs : List D) | tup (xs : List D) | scr (ns : List Int) | dct (ks : List Key) (xs : List D) | exc (x : Str) | obj (x : Str) (a : Addr) (ks : List Str) (ds : List D) | cel (a : Addr) (ds : List D)
noncomputable def y0D (K : PySem.W.Frag) (C : Addr) : Bool:=PySem.W.findIn K (.ref C) "__getattribute__" == some (some (.builtin "BaseException.__getattribute__")) && PySem.W.findIn K (.ref C) "__getattr__" == some none && PySem.W.mroIn K C (.type "BaseException") == some true && (PySem.W.clsIn K C).isSome && PySem.W.findIn K (.ref C) "__class__" == some (some (.builtin "object.__class__")) &&
  PySem.W.specialIn K (.builtin "object.__class__") "__get__" == some (some (.builtin "getset_descriptor.__get__")) && PySem.W.takesIn K (.builtin "object.__class__") == some true && PySem.W.mroIn K C (.type "object") == some true &&
  ["bool", "int", "str", "list", "tuple", "dict"].all fun T=>PySem.W.kitOne K (.ref C) (.type T) == some false
noncomputable def z5w (K : PySem.W.Frag) (C : Addr) (ks : List Str) : Bool:=PySem.W.plainGet K C Str.empty && PySem.W.hasDictIn K C && PySem.W.plainOver K C && PySem.W.findIn K (.ref C) "__setattr__" == some (some (.builtin "object.__setattr__")) &&
  PySem.W.findIn K (.ref C) "__class__" == some (some (.builtin "object.__class__")) && PySem.W.specialIn K (.builtin "object.__class__") "__get__" == some (some (.builtin "getset_descriptor.__get__")) && PySem.W.takesIn K (.builtin "object.__class__") == some true && PySem.W.mroIn K C (.type "object") == some true &&
  (["bool", "int", "str", "list", "tuple", "dict"].all fun T=>PySem.W.kitOne K (.ref C) (.type T) == some false) && ks.all fun f=>PySem.W.findIn K (.ref C) f == some none
noncomputable def isX (a C : Addr) (h : Heap) : Prop:=∃ o,h.get? a=some o∧o.cls = .ref C∧o.dict=none∧PySem.W.notCls o=true
noncomputable def SqF (K : PySem.W.Frag) (H : Hp) (a : Addr) (xs : List V) : Prop:=
  (∃ o,H a=some (.frz o (.lst xs)))∨∃ (o : Obj) (its : Array Value) (n : Nat),K.lookup a=some o∧o.cls = .type "list" ∧ o.dict=none∧o.data = .seq its n∧its.size≤sizeLine∧Vals xs its.toList
theorem SqF.sq {K : PySem.W.Frag} {H : Hp} {a : Addr} {xs : List V} (h : SqF K H a xs) : SqL K H a xs:=h.elim (fun z=>.inl (.inr z)) .inr
mutual
def Rep (K : PySem.W.Frag) (H : Hp) (B : Addr->Prop) : D->V->Prop
  | .non,v=>v = .non
  | .bl b,v=>v = .bl b
  | .int i,v=>v = .int i
  | .str x,v=>v = .str x
  | .lst ds,v=>∃ a xs,v = .ref a∧¬ B a∧H a=some (.lst xs)∧Reps K H B ds xs
  | .tup ds,v=>∃ a xs,v = .ref a∧SqT K H a xs∧Reps K H B ds xs
  | .scr ns,v=>∃ a,v = .ref a∧SqF K H a (ns.map V.int)
  | .dct ks ds,v=>∃ a kvs,v = .ref a∧¬ B a∧H a=some (.dK kvs)∧kvs.map (·.1)=ks∧Reps K H B ds (kvs.map (·.2))
  | .exc x,v=>∃ a C,v = .ref a∧¬ B a∧H a=some (.ext (isX a C))∧PySem.W.nsIn K mainGlobals x=some (some (.ref C))∧y0D K C=true
  | .obj x a ks ds,v=>∃ C dx fs,¬ B a∧H a=some (.ins C dx fs)∧(v = .ref a∧PySem.W.nsIn K mainGlobals x=some (some (.ref C))∧z5w K C ks=true∧fs.map (·.1)=ks)∧Reps K H B ds (fs.map (·.2))
  | .cel a ds,v=>∃ xs,¬ B a∧H a=some (.lst xs)∧v = .ref a∧Reps K H B ds xs
def Reps (K : PySem.W.Frag) (H : Hp) (B : Addr->Prop) : List D->List V->Prop
  | [],xs=>xs=[]
  | d :: ds,xs=>∃ x r,xs=x :: r∧Rep K H B d x∧Reps K H B ds r
end
mutual
def Tree (K : PySem.W.Frag) (H : Hp) : D->V->List Addr->Prop
  | .non,v,A=>v = .non∧A=[]
  | .bl b,v,A=>v = .bl b∧A=[]
  | .int i,v,A=>v = .int i∧A=[]
  | .str x,v,A=>v = .str x∧A=[]
  | .lst ds,v,A=>∃ a xs B,v = .ref a∧H a=some (.lst xs)∧Trees K H ds xs B∧A=a :: B
  | .tup ds,v,A=>∃ a xs,v = .ref a∧SqT K H a xs∧Trees K H ds xs A
  | .scr ns,v,A=>(∃ a,v = .ref a∧SqF K H a (ns.map V.int))∧A=[]
  | .dct ks ds,v,A=>∃ a kvs B,v = .ref a∧H a=some (.dK kvs)∧kvs.map (·.1)=ks∧Trees K H ds (kvs.map (·.2)) B∧A=a :: B
  | .exc x,v,A=>∃ a C,v = .ref a∧H a=some (.ext (isX a C))∧PySem.W.nsIn K mainGlobals x=some (some (.ref C))∧y0D K C=true∧A=[a]
  | .obj x a ks ds,v,A=>∃ C dx fs A1,H a=some (.ins C dx fs)∧(v = .ref a∧PySem.W.nsIn K mainGlobals x=some (some (.ref C))∧z5w K C ks=true∧fs.map (·.1)=ks)∧Trees K H ds (fs.map (·.2)) A1∧A=a :: A1
  | .cel a ds,v,A=>∃ xs B,H a=some (.lst xs)∧v = .ref a∧Trees K H ds xs B∧A=a :: B
def Trees (K : PySem.W.Frag) (H : Hp) : List D->List V->List Addr->Prop
  | [],xs,A=>xs=[]∧A=[]
  | d :: ds,xs,A=>∃ x r B C,xs=x :: r∧Tree K H d x B∧Trees K H ds r C∧A=B ++ C
end
mutual
def D.imm : D->Bool
  | .non=>true
  | .bl _=>true
  | .int _=>true
  | .str _=>true
  | .lst _=>false
  | .tup ds=>z2Z ds
  | .scr _=>true
  | .dct _ _=>false
  | .exc _=>false
  | .obj _ _ _ _=>false
  | .cel _ _=>false
def z2Z : List D->Bool
  | []=>true
  | d :: ds=>d.imm && z2Z ds
end
theorem Same.tup {K : PySem.W.Frag} {H H' : Hp} {a : Addr} {xs : List V} (e : Same H H') (h : SqT K H a xs) : SqT K H' a xs:=by
  rcases h with (h | ⟨o,h⟩) | h
  · exact .inl (.inl (e _ _ h))
  · exact .inl (.inr ⟨o,e _ _ h⟩)
  · exact .inr h
section
variable {K : PySem.W.Frag} {H H' : Hp} {B B' : Addr->Prop}
structure KeepI (K : PySem.W.Frag) (H H' : Hp) : Prop where
  st : ∀ a xs,SqT K H a xs->SqT K H' a xs
  sf : ∀ a xs,SqF K H a xs->SqF K H' a xs
structure Keep (K : PySem.W.Frag) (B : Addr->Prop) (H H' : Hp) : Prop where
  sl : ∀ a xs,¬ B a->H a=some (.lst xs)->H' a=some (.lst xs)
  st : ∀ a xs,SqT K H a xs->SqT K H' a xs
  sf : ∀ a xs,SqF K H a xs->SqF K H' a xs
  sd : ∀ a kvs,¬ B a->H a=some (.dK kvs)->H' a=some (.dK kvs)
  sx : ∀ a φ,¬ B a->H a=some (.ext φ)->H' a=some (.ext φ)
  si : ∀ a C dx fs,¬ B a->H a=some (.ins C dx fs)->H' a=some (.ins C dx fs)
theorem Keep.i (k : Keep K B H H') : KeepI K H H':=⟨k.st,k.sf⟩
mutual
theorem Rep.keep (k : Keep K B H H') : ∀ (d : D) {v : V},Rep K H B d v->Rep K H' B d v
  | .non,_,h=>h
  | .bl _,_,h=>h
  | .int _,_,h=>h
  | .str _,_,h=>h
  | .lst ds,_,h=>by
    unfold Rep at h ⊢
    obtain ⟨a,xs,e,n,s,r⟩:=h
    exact ⟨a,xs,e,n,k.sl a xs n s,Reps.keep k ds r⟩
  | .tup ds,_,h=>by
    unfold Rep at h ⊢
    obtain ⟨a,xs,e,s,r⟩:=h
    exact ⟨a,xs,e,k.st a xs s,Reps.keep k ds r⟩
  | .scr ns,_,h=>by
    unfold Rep at h ⊢
    obtain ⟨a,e,s⟩:=h
    exact ⟨a,e,k.sf a _ s⟩
  | .dct ks ds,_,h=>by
    unfold Rep at h ⊢
    obtain ⟨a,kvs,e,n,s,q,r⟩:=h
    exact ⟨a,kvs,e,n,k.sd a kvs n s,q,Reps.keep k ds r⟩
  | .exc _,_,h=>by
    unfold Rep at h ⊢
    obtain ⟨a,C,e,n,s,r⟩:=h
    exact ⟨a,C,e,n,k.sx a _ n s,r⟩
  | .obj x a ks ds,_,h=>by
    unfold Rep at h ⊢
    obtain ⟨C,dx,fs,n,s,q,r1⟩:=h
    exact ⟨C,dx,fs,n,k.si a C dx fs n s,q,Reps.keep k ds r1⟩
  | .cel a ds,_,h=>by
    unfold Rep at h ⊢
    obtain ⟨xs,n,s,e,r⟩:=h
    exact ⟨xs,n,k.sl a xs n s,e,Reps.keep k ds r⟩
theorem Reps.keep (k : Keep K B H H') : ∀ (ds : List D) {xs : List V},Reps K H B ds xs->Reps K H' B ds xs
  | [],_,h=>h
  | d :: ds,_,h=>by
    unfold Reps at h ⊢
    obtain ⟨x,r,e,h1,h2⟩:=h
    exact ⟨x,r,e,Rep.keep k d h1,Reps.keep k ds h2⟩
end
mutual
theorem Rep.anti (hb : ∀ a,B' a->B a) : ∀ (d : D) {v : V},Rep K H B d v->Rep K H B' d v
  | .non,_,h=>h
  | .bl _,_,h=>h
  | .int _,_,h=>h
  | .str _,_,h=>h
  | .lst ds,_,h=>by
    unfold Rep at h ⊢
    obtain ⟨a,xs,e,n,s,r⟩:=h
    exact ⟨a,xs,e,fun z=>n (hb a z),s,Reps.anti hb ds r⟩
  | .tup ds,_,h=>by
    unfold Rep at h ⊢
    obtain ⟨a,xs,e,s,r⟩:=h
    exact ⟨a,xs,e,s,Reps.anti hb ds r⟩
  | .scr _,_,h=>h
  | .dct ks ds,_,h=>by
    unfold Rep at h ⊢
    obtain ⟨a,kvs,e,n,s,q,r⟩:=h
    exact ⟨a,kvs,e,fun z=>n (hb a z),s,q,Reps.anti hb ds r⟩
  | .exc _,_,h=>by
    unfold Rep at h ⊢
    obtain ⟨a,C,e,n,r⟩:=h
    exact ⟨a,C,e,fun z=>n (hb a z),r⟩
  | .obj x a ks ds,_,h=>by
    unfold Rep at h ⊢
    obtain ⟨C,dx,fs,n,s,q,r1⟩:=h
    exact ⟨C,dx,fs,fun z=>n (hb a z),s,q,Reps.anti hb ds r1⟩
  | .cel a ds,_,h=>by
    unfold Rep at h ⊢
    obtain ⟨xs,n,s,e,r⟩:=h
    exact ⟨xs,fun z=>n (hb a z),s,e,Reps.anti hb ds r⟩
theorem Reps.anti (hb : ∀ a,B' a->B a) : ∀ (ds : List D) {xs : List V},Reps K H B ds xs->Reps K H B' ds xs
  | [],_,h=>h
  | d :: ds,_,h=>by
    unfold Reps at h ⊢
    obtain ⟨x,r,e,h1,h2⟩:=h
    exact ⟨x,r,e,Rep.anti hb d h1,Reps.anti hb ds h2⟩
end
mutual
theorem Rep.imm : ∀ (d : D) {v : V},d.imm=true->Rep K H B d v->Rep K H B' d v
  | .non,_,_,h=>h
  | .bl _,_,_,h=>h
  | .int _,_,_,h=>h
  | .str _,_,_,h=>h
  | .lst _,_,i,_=>by unfold D.imm at i; cases i
  | .dct _ _,_,i,_=>by unfold D.imm at i; cases i
  | .exc _,_,i,_=>by unfold D.imm at i; cases i
  | .obj _ _ _ _,_,i,_=>by unfold D.imm at i; cases i
  | .cel _ _,_,i,_=>by unfold D.imm at i; cases i
  | .tup ds,_,i,h=>by
    unfold D.imm at i
    unfold Rep at h ⊢
    obtain ⟨a,xs,e,s,r⟩:=h
    exact ⟨a,xs,e,s,Reps.imm ds i r⟩
  | .scr _,_,_,h=>h
theorem Reps.imm : ∀ (ds : List D) {xs : List V},z2Z ds=true->Reps K H B ds xs->Reps K H B' ds xs
  | [],_,_,h=>h
  | d :: ds,_,i,h=>by
    unfold z2Z at i
    rw [Bool.and_eq_true] at i
    unfold Reps at h ⊢
    obtain ⟨x,r,e,h1,h2⟩:=h
    exact ⟨x,r,e,Rep.imm d i.1 h1,Reps.imm ds i.2 h2⟩
end
mutual
theorem Rep.immTree : ∀ (d : D) {v : V},d.imm=true->Rep K H B d v->Tree K H d v []
  | .non,_,_,h=>⟨h,rfl⟩
  | .bl _,_,_,h=>⟨h,rfl⟩
  | .int _,_,_,h=>⟨h,rfl⟩
  | .str _,_,_,h=>⟨h,rfl⟩
  | .lst _,_,i,_=>by unfold D.imm at i; cases i
  | .dct _ _,_,i,_=>by unfold D.imm at i; cases i
  | .exc _,_,i,_=>by unfold D.imm at i; cases i
  | .obj _ _ _ _,_,i,_=>by unfold D.imm at i; cases i
  | .cel _ _,_,i,_=>by unfold D.imm at i; cases i
  | .tup ds,_,i,h=>by
    unfold D.imm at i
    unfold Rep at h
    unfold Tree
    obtain ⟨a,xs,e,s,r⟩:=h
    exact ⟨a,xs,e,s,Reps.immTree ds i r⟩
  | .scr _,_,_,h=>⟨h,rfl⟩
theorem Reps.immTree : ∀ (ds : List D) {xs : List V},z2Z ds=true->Reps K H B ds xs->Trees K H ds xs []
  | [],_,_,h=>⟨h,rfl⟩
  | d :: ds,_,i,h=>by
    unfold z2Z at i
    rw [Bool.and_eq_true] at i
    unfold Reps at h
    unfold Trees
    obtain ⟨x,r,e,h1,h2⟩:=h
    exact ⟨x,r,[],[],e,Rep.immTree d i.1 h1,Reps.immTree ds i.2 h2,rfl⟩
end
mutual
theorem Tree.rep : ∀ (d : D) {v : V} {A : List Addr},Tree K H d v A->(∀ a∈A,¬ B a)->Rep K H B d v
  | .non,_,_,h,_=>h.1
  | .bl _,_,_,h,_=>h.1
  | .int _,_,_,h,_=>h.1
  | .str _,_,_,h,_=>h.1
  | .lst ds,_,_,h,n=>by
    unfold Tree at h
    unfold Rep
    obtain ⟨a,xs,C,e,s,r,rfl⟩:=h
    exact ⟨a,xs,e,n a List.mem_cons_self,s,Trees.rep ds r fun b hb=>n b (List.mem_cons_of_mem _ hb)⟩
  | .tup ds,_,_,h,n=>by
    unfold Tree at h
    unfold Rep
    obtain ⟨a,xs,e,s,r⟩:=h
    exact ⟨a,xs,e,s,Trees.rep ds r n⟩
  | .scr _,_,_,h,_=>h.1
  | .dct ks ds,_,_,h,n=>by
    unfold Tree at h
    unfold Rep
    obtain ⟨a,kvs,C,e,s,q,r,rfl⟩:=h
    exact ⟨a,kvs,e,n a List.mem_cons_self,s,q,Trees.rep ds r fun b hb=>n b (List.mem_cons_of_mem _ hb)⟩
  | .exc _,_,_,h,n=>by
    unfold Tree at h
    unfold Rep
    obtain ⟨a,C,e,s,r1,r2,rfl⟩:=h
    exact ⟨a,C,e,n a List.mem_cons_self,s,r1,r2⟩
  | .obj x a ks ds,_,_,h,n=>by
    unfold Tree at h
    unfold Rep
    obtain ⟨C,dx,fs,A1,s,q,r1,rfl⟩:=h
    exact ⟨C,dx,fs,n a List.mem_cons_self,s,q,Trees.rep ds r1 fun b hb=>n b (List.mem_cons_of_mem _ hb)⟩
  | .cel a ds,_,_,h,n=>by
    unfold Tree at h
    unfold Rep
    obtain ⟨xs,C,s,e,r,rfl⟩:=h
    exact ⟨xs,n a List.mem_cons_self,s,e,Trees.rep ds r fun b hb=>n b (List.mem_cons_of_mem _ hb)⟩
theorem Trees.rep : ∀ (ds : List D) {xs : List V} {A : List Addr},Trees K H ds xs A->(∀ a∈A,¬ B a)->Reps K H B ds xs
  | [],_,_,h,_=>h.1
  | d :: ds,_,_,h,n=>by
    unfold Trees at h
    unfold Reps
    obtain ⟨x,r,C,C',e,h1,h2,rfl⟩:=h
    exact ⟨x,r,e,Tree.rep d h1 fun b hb=>n b (List.mem_append_left _ hb),Trees.rep ds h2 fun b hb=>n b (List.mem_append_right _ hb)⟩
end
mutual
theorem Tree.keep (kt : KeepI K H H') : ∀ (d : D) {v : V} {A : List Addr},Tree K H d v A->(∀ a∈A,∀ o,H a=some o->H' a=some o)->Tree K H' d v A
  | .non,_,_,h,_=>h
  | .bl _,_,_,h,_=>h
  | .int _,_,_,h,_=>h
  | .str _,_,_,h,_=>h
  | .lst ds,_,_,h,n=>by
    unfold Tree at h ⊢
    obtain ⟨a,xs,C,e,s,r,rfl⟩:=h
    exact ⟨a,xs,C,e,n a List.mem_cons_self _ s,Trees.keep kt ds r fun b hb=>n b (List.mem_cons_of_mem _ hb),rfl⟩
  | .tup ds,_,_,h,n=>by
    unfold Tree at h ⊢
    obtain ⟨a,xs,e,s,r⟩:=h
    exact ⟨a,xs,e,kt.st a xs s,Trees.keep kt ds r n⟩
  | .scr _,_,_,h,_=>by
    unfold Tree at h ⊢
    obtain ⟨⟨a,e,s⟩,q⟩:=h
    exact ⟨⟨a,e,kt.sf a _ s⟩,q⟩
  | .dct ks ds,_,_,h,n=>by
    unfold Tree at h ⊢
    obtain ⟨a,kvs,C,e,s,q,r,rfl⟩:=h
    exact ⟨a,kvs,C,e,n a List.mem_cons_self _ s,q,Trees.keep kt ds r fun b hb=>n b (List.mem_cons_of_mem _ hb),rfl⟩
  | .exc _,_,_,h,n=>by
    unfold Tree at h ⊢
    obtain ⟨a,C,e,s,r1,r2,rfl⟩:=h
    exact ⟨a,C,e,n a List.mem_cons_self _ s,r1,r2,rfl⟩
  | .obj x a ks ds,_,_,h,n=>by
    unfold Tree at h ⊢
    obtain ⟨C,dx,fs,A1,s,q,r1,rfl⟩:=h
    exact ⟨C,dx,fs,A1,n a List.mem_cons_self _ s,q,Trees.keep kt ds r1 fun b hb=>n b (List.mem_cons_of_mem _ hb),rfl⟩
  | .cel a ds,_,_,h,n=>by
    unfold Tree at h ⊢
    obtain ⟨xs,C,s,e,r,rfl⟩:=h
    exact ⟨xs,C,n a List.mem_cons_self _ s,e,Trees.keep kt ds r fun b hb=>n b (List.mem_cons_of_mem _ hb),rfl⟩
theorem Trees.keep (kt : KeepI K H H') : ∀ (ds : List D) {xs : List V} {A : List Addr},Trees K H ds xs A->(∀ a∈A,∀ o,H a=some o->H' a=some o)->Trees K H' ds xs A
  | [],_,_,h,_=>h
  | d :: ds,_,_,h,n=>by
    unfold Trees at h ⊢
    obtain ⟨x,r,C,C',e,h1,h2,rfl⟩:=h
    exact ⟨x,r,C,C',e,Tree.keep kt d h1 fun b hb=>n b (List.mem_append_left _ hb),Trees.keep kt ds h2 fun b hb=>n b (List.mem_append_right _ hb),rfl⟩
end
mutual
theorem Tree.held : ∀ (d : D) {v : V} {A : List Addr},Tree K H d v A->∀ a∈A,∃ o,H a=some o∧Mut (some o)
  | .non,_,_,h,a,ha=>by rw [h.2] at ha; cases ha
  | .bl _,_,_,h,a,ha=>by rw [h.2] at ha; cases ha
  | .int _,_,_,h,a,ha=>by rw [h.2] at ha; cases ha
  | .str _,_,_,h,a,ha=>by rw [h.2] at ha; cases ha
  | .lst ds,_,_,h,b,hb=>by
    unfold Tree at h
    obtain ⟨a,xs,C,e,s,r,rfl⟩:=h
    rcases List.mem_cons.mp hb with z | z
    · subst z; exact ⟨_,s,trivial⟩
    · exact Trees.held ds r b z
  | .tup ds,_,_,h,b,hb=>by
    unfold Tree at h
    obtain ⟨a,xs,e,s,r⟩:=h
    exact Trees.held ds r b hb
  | .scr _,_,_,h,a,ha=>by rw [h.2] at ha; cases ha
  | .dct ks ds,_,_,h,b,hb=>by
    unfold Tree at h
    obtain ⟨a,kvs,C,e,s,q,r,rfl⟩:=h
    rcases List.mem_cons.mp hb with z | z
    · subst z; exact ⟨_,s,trivial⟩
    · exact Trees.held ds r b z
  | .exc _,_,_,h,b,hb=>by
    unfold Tree at h
    obtain ⟨a,C,e,s,r1,r2,rfl⟩:=h
    rw [List.mem_singleton.mp hb]
    exact ⟨_,s,trivial⟩
  | .obj x a ks ds,_,_,h,b,hb=>by
    unfold Tree at h
    obtain ⟨C,dx,fs,A1,s,q,r1,rfl⟩:=h
    rcases List.mem_cons.mp hb with z | z
    · subst z; exact ⟨_,s,trivial⟩
    · exact Trees.held ds r1 b z
  | .cel a ds,_,_,h,b,hb=>by
    unfold Tree at h
    obtain ⟨xs,C,s,e,r,rfl⟩:=h
    rcases List.mem_cons.mp hb with z | z
    · subst z; exact ⟨_,s,trivial⟩
    · exact Trees.held ds r b z
theorem Trees.held : ∀ (ds : List D) {xs : List V} {A : List Addr},Trees K H ds xs A->∀ a∈A,∃ o,H a=some o∧Mut (some o)
  | [],_,_,h,a,ha=>by rw [h.2] at ha; cases ha
  | d :: ds,_,_,h,b,hb=>by
    unfold Trees at h
    obtain ⟨x,r,C,C',e,h1,h2,rfl⟩:=h
    rcases List.mem_append.mp hb with z | z
    · exact Tree.held d h1 b z
    · exact Trees.held ds h2 b z
end
theorem Same.sf (e : Same H H') {a : Addr} {xs : List V} (h : SqF K H a xs) : SqF K H' a xs:=h.elim (fun ⟨o,z⟩=>.inl ⟨o,e _ _ z⟩) .inr
theorem Keep.same (e : Same H H') : Keep K B H H':=⟨fun _ _ _ h=>e _ _ h,fun _ _ h=>e.tup h,fun _ _ h=>e.sf h,fun _ _ _ h=>e _ _ h,fun _ _ _ h=>e _ _ h,fun _ _ _ _ _ h=>e _ _ h⟩
theorem KeepI.same (e : Same H H') : KeepI K H H':=⟨fun _ _ h=>e.tup h,fun _ _ h=>e.sf h⟩
theorem Rep.mono {d : D} {v : V} (h : Rep K H B d v) (e : Same H H') : Rep K H' B d v:=Rep.keep (.same e) d h
theorem Reps.mono {ds : List D} {xs : List V} (h : Reps K H B ds xs) (e : Same H H') : Reps K H' B ds xs:=Reps.keep (.same e) ds h
theorem Tree.mono {d : D} {v : V} {A : List Addr} (h : Tree K H d v A) (e : Same H H') : Tree K H' d v A:=Tree.keep (.same e) d h fun a _ o z=>e a o z
theorem Trees.mono {ds : List D} {v : List V} {A : List Addr} (h : Trees K H ds v A) (e : Same H H') : Trees K H' ds v A:=Trees.keep (.same e) ds h fun a _ o z=>e a o z
mutual
theorem Rep.wide {C : Addr->Prop} (hc : ∀ a,C a->H a=none) : ∀ (d : D) {v : V},Rep K H B d v->Rep K H (fun a=>B a∨C a) d v
  | .non,_,h=>h
  | .bl _,_,h=>h
  | .int _,_,h=>h
  | .str _,_,h=>h
  | .lst ds,_,h=>by
    unfold Rep at h ⊢
    obtain ⟨a,xs,e,n,s,r⟩:=h
    refine ⟨a,xs,e,fun z=>z.elim n fun z=>?_,s,Reps.wide hc ds r⟩
    rw [hc a z] at s; cases s
  | .tup ds,_,h=>by
    unfold Rep at h ⊢
    obtain ⟨a,xs,e,s,r⟩:=h
    exact ⟨a,xs,e,s,Reps.wide hc ds r⟩
  | .scr _,_,h=>h
  | .dct ks ds,_,h=>by
    unfold Rep at h ⊢
    obtain ⟨a,kvs,e,n,s,q,r⟩:=h
    refine ⟨a,kvs,e,fun z=>z.elim n fun z=>?_,s,q,Reps.wide hc ds r⟩
    rw [hc a z] at s; cases s
  | .exc _,_,h=>by
    unfold Rep at h ⊢
    obtain ⟨a,C,e,n,s,r⟩:=h
    refine ⟨a,C,e,fun z=>z.elim n fun z=>?_,s,r⟩
    rw [hc a z] at s; cases s
  | .obj x a ks ds,_,h=>by
    unfold Rep at h ⊢
    obtain ⟨C',dx,fs,n,s,q,r1⟩:=h
    refine ⟨C',dx,fs,fun z=>z.elim n fun z=>?_,s,q,Reps.wide hc ds r1⟩
    rw [hc a z] at s; cases s
  | .cel a ds,_,h=>by
    unfold Rep at h ⊢
    obtain ⟨xs,n,s,e,r⟩:=h
    refine ⟨xs,fun z=>z.elim n fun z=>?_,s,e,Reps.wide hc ds r⟩
    rw [hc a z] at s; cases s
theorem Reps.wide {C : Addr->Prop} (hc : ∀ a,C a->H a=none) : ∀ (ds : List D) {xs : List V},Reps K H B ds xs->Reps K H (fun a=>B a∨C a) ds xs
  | [],_,h=>h
  | d :: ds,_,h=>by
    unfold Reps at h ⊢
    obtain ⟨x,r,e,h1,h2⟩:=h
    exact ⟨x,r,e,Rep.wide hc d h1,Reps.wide hc ds h2⟩
end
theorem Keep.upd {a : Addr} {o : HO} (hb : B a) (mu : Mut (H a)) : Keep K B H (upd H a o):=by
  refine ⟨fun b xs n h=>?_,fun b xs h=>?_,fun b xs h=>?_,fun b kvs n h=>?_,fun b φ n h=>?_,fun b C dx fs n h=>?_⟩
  · have ne : b≠a:=fun z=>n (z ▸ hb)
    rw [z0d ne]; exact h
  · rcases h with (h | ⟨u,h⟩) | h
    · have ne : b≠a:=fun z=>by subst z; rw [h] at mu; exact mu
      exact .inl (.inl (by rw [z0d ne]; exact h))
    · have ne : b≠a:=fun z=>by subst z; rw [h] at mu; exact mu
      exact .inl (.inr ⟨u,by rw [z0d ne]; exact h⟩)
    · exact .inr h
  · rcases h with ⟨u,h⟩ | h
    · have ne : b≠a:=fun z=>by subst z; rw [h] at mu; exact mu
      exact .inl ⟨u,by rw [z0d ne]; exact h⟩
    · exact .inr h
  · have ne : b≠a:=fun z=>n (z ▸ hb)
    rw [z0d ne]; exact h
  · have ne : b≠a:=fun z=>n (z ▸ hb)
    rw [z0d ne]; exact h
  · have ne : b≠a:=fun z=>n (z ▸ hb)
    rw [z0d ne]; exact h
theorem z0u {a : Addr} {o : HO} (h : H a=none) : Same H (upd H a o):=fun b u e=>by rw [z0d (z1G e h)]; exact e
theorem Reps.length : ∀ {ds : List D} {xs : List V},Reps K H B ds xs->ds.length=xs.length
  | [],_,h=>by unfold Reps at h; subst h; rfl
  | d :: ds,_,h=>by
    unfold Reps at h
    obtain ⟨x,r,rfl,_,h2⟩:=h
    simp [Reps.length h2]
theorem Reps.get : ∀ {ds : List D} {xs : List V} {i : Nat} {d : D},Reps K H B ds xs->ds[i]? = some d->∃ x,xs[i]? = some x∧Rep K H B d x
  | [],_,_,_,_,e=>by simp at e
  | d :: ds,_,i,d',h,e=>by
    unfold Reps at h
    obtain ⟨x,r,rfl,h1,h2⟩:=h
    cases i with
    | zero=>simp at e; subst e; exact ⟨x,rfl,h1⟩
    | succ i=>simpa using Reps.get (i:=i) h2 (by simpa using e)
theorem Reps.get' : ∀ {ds : List D} {xs : List V} {i : Nat} {x : V},Reps K H B ds xs->xs[i]? = some x->∃ d,ds[i]? = some d∧Rep K H B d x
  | [],_,_,_,h,e=>by unfold Reps at h; subst h; simp at e
  | d :: ds,_,i,x',h,e=>by
    unfold Reps at h
    obtain ⟨x,r,rfl,h1,h2⟩:=h
    cases i with
    | zero=>simp at e; subst e; exact ⟨d,rfl,h1⟩
    | succ i=>simpa using Reps.get' (i:=i) h2 (by simpa using e)
theorem Reps.append : ∀ {ds es : List D} {xs ys : List V},Reps K H B ds xs->Reps K H B es ys->Reps K H B (ds ++ es) (xs ++ ys)
  | [],_,_,_,h,h'=>by unfold Reps at h; subst h; exact h'
  | d :: ds,es,_,ys,h,h'=>by
    unfold Reps at h
    obtain ⟨x,r,rfl,h1,h2⟩:=h
    exact (show Reps K H B (d :: (ds ++ es)) (x :: (r ++ ys)) by unfold Reps; exact ⟨x,r ++ ys,rfl,h1,Reps.append h2 h'⟩)
theorem Reps.take : ∀ {ds : List D} {xs : List V} (n : Nat),Reps K H B ds xs->Reps K H B (ds.take n) (xs.take n)
  | _,_,0,_=>by rw [List.take_zero,List.take_zero]; unfold Reps; rfl
  | [],_,_ + 1,h=>by unfold Reps at h; subst h; unfold Reps; rfl
  | d :: ds,_,n + 1,h=>by
    unfold Reps at h
    obtain ⟨x,r,rfl,h1,h2⟩:=h
    rw [List.take_succ_cons,List.take_succ_cons]
    unfold Reps
    exact ⟨x,_,rfl,h1,Reps.take n h2⟩
theorem Reps.drop : ∀ {ds : List D} {xs : List V} (n : Nat),Reps K H B ds xs->Reps K H B (ds.drop n) (xs.drop n)
  | _,_,0,h=>h
  | [],_,_ + 1,h=>by unfold Reps at h; subst h; unfold Reps; rfl
  | d :: ds,_,n + 1,h=>by
    unfold Reps at h
    obtain ⟨x,r,rfl,h1,h2⟩:=h
    exact Reps.drop n h2
theorem Reps.one {d : D} {x : V} (h : Rep K H B d x) : Reps K H B [d] [x]:=by unfold Reps; exact ⟨x,[],rfl,h,by unfold Reps; rfl⟩
theorem Reps.nil : Reps K H B [] []:=by unfold Reps; rfl
theorem Reps.cons {d : D} {x : V} {ds : List D} {xs : List V} (h : Rep K H B d x) (h' : Reps K H B ds xs) : Reps K H B (d :: ds) (x :: xs):=by unfold Reps; exact ⟨x,xs,rfl,h,h'⟩
theorem Reps.snoc {d : D} {x : V} {ds : List D} {xs : List V} (h' : Reps K H B ds xs) (h : Rep K H B d x) : Reps K H B (ds ++ [d]) (xs ++ [x]):=h'.append (.one h)
theorem Trees.nil : Trees K H [] [] []:=⟨rfl,rfl⟩
theorem Trees.snoc : ∀ {ds : List D} {xs : List V} {A C : List Addr} {d : D} {x : V},Trees K H ds xs A->Tree K H d x C->Trees K H (ds ++ [d]) (xs ++ [x]) (A ++ C)
  | [],_,_,C,d,x,h,h'=>by
    obtain ⟨rfl,rfl⟩:=h
    exact (show Trees K H [d] [x] C by unfold Trees; exact ⟨x,[],C,[],rfl,h',⟨rfl,rfl⟩,(List.append_nil _).symm⟩)
  | e :: ds,_,_,C,d,x,h,h'=>by
    unfold Trees at h
    obtain ⟨y,r,A1,A2,rfl,h1,h2,rfl⟩:=h
    exact (show Trees K H (e :: (ds ++ [d])) (y :: (r ++ [x])) (A1 ++ A2 ++ C) by unfold Trees; exact ⟨y,_,A1,A2 ++ C,rfl,h1,Trees.snoc h2 h',List.append_assoc _ _ _⟩)
end
end L2
namespace L2
open PySem PySem.Spec PyProof.Rows
noncomputable abbrev DS:=List (Option D)
noncomputable abbrev DE:=DS->Option D
structure RepS (K : PySem.W.Frag) (H : Hp) (B : Addr->Prop) (σ : St) (δ : DS) : Prop where
  len : δ.length=σ.length
  get : ∀ (i : Nat) (d : D),δ[i]? = some (some d)->∃ v,σ[i]? = some (some v)∧Rep K H B d v
noncomputable def InB (B : Addr->Prop) (H : Hp) : Prop:=∀ a,B a->∃ o,H a=some o
noncomputable def noB : Addr->Prop:=fun _=>False
theorem InB.mono {B : Addr->Prop} {H H' : Hp} (h : InB B H) (e : Same H H') : InB B H':=fun a b=>let ⟨o,q⟩:=h a b; ⟨o,e a o q⟩
theorem InB.no {H : Hp} : InB noB H:=fun _ b=>b.elim
theorem InB.fresh {B : Addr->Prop} {H : Hp} (h : InB B H) {a : Addr} (e : H a=none) : ¬ B a:=fun b=>by
  obtain ⟨o,q⟩:=h a b
  rw [e] at q; cases q
theorem RepS.mono {K : PySem.W.Frag} {H H' : Hp} {B : Addr->Prop} {σ : St} {δ : DS} (h : RepS K H B σ δ) (e : Same H H') : RepS K H' B σ δ:=
  ⟨h.len,fun i d q=>let ⟨v,a,r⟩:=h.get i d q; ⟨v,a,r.mono e⟩⟩
theorem RepS.anti {K : PySem.W.Frag} {H : Hp} {B B' : Addr->Prop} {σ : St} {δ : DS} (h : RepS K H B σ δ) (e : ∀ a,B' a->B a) : RepS K H B' σ δ:=
  ⟨h.len,fun i d q=>let ⟨v,a,r⟩:=h.get i d q; ⟨v,a,r.anti e⟩⟩
noncomputable def tD (K : PySem.W.Frag) (f : DE) : TE:=fun σ H Q=>∃ B δ d,InB B H∧RepS K H B σ δ∧f δ=some d∧∀ v H',Same H H'->Rep K H' B d v->Q v H'
noncomputable def tF (K : PySem.W.Frag) (f : DS->Option (List D)) : TE:=fun σ H Q=>∃ B δ ds,InB B H∧RepS K H B σ δ∧f δ=some ds ∧
  ∀ a xs H',Same H H'->H a=none->H' a=some (.lst xs)->Reps K H' B ds xs->Q (.ref a) H'
noncomputable def tN (K : PySem.W.Frag) (f : DE) : TE:=fun σ H Q=>∃ δ d,RepS K H noB σ δ∧f δ=some d∧∀ v H' A,Same H H'->Tree K H' d v A->A.Nodup->(∀ a∈A,H a=none)->Q v H'
noncomputable def tT (K : PySem.W.Frag) (f : DS->Option Bool) : TT:=fun σ H Q=>∃ B δ b,InB B H∧RepS K H B σ δ∧f δ=some b∧∀ H',Same H H'->Q b H'
noncomputable def tDs (K : PySem.W.Frag) (f : DS->Option (List D)) : TA:=fun σ H Q=>∃ B δ ds,InB B H∧RepS K H B σ δ∧f δ=some ds∧∀ vs H',Same H H'->Reps K H' B ds vs->Q vs H'
noncomputable abbrev PD (X : Cx) (e : Expr) (f : DE) : Prop:=PE X e (tD X.K f)
noncomputable abbrev PF (X : Cx) (e : Expr) (f : DS->Option (List D)) : Prop:=PE X e (tF X.K f)
noncomputable abbrev PN (X : Cx) (e : Expr) (f : DE) : Prop:=PE X e (tN X.K f)
noncomputable abbrev PTD (X : Cx) (e : Expr) (f : DS->Option Bool) : Prop:=PT X e (tT X.K f)
noncomputable abbrev PWD (X : Cx) (e : Expr) (f : DS->Option Bool) : Prop:=PW X e (tT X.K f)
section
variable {X : Cx} {e a b c : Expr} {es : List Expr} {pos : Pos}
theorem PE.imp {t t' : TE} (h : PE X e t) (w : ∀ σ H Q,t' σ H Q->t σ H Q) : PE X e t':=fun pins s σ H Q I q=>h pins s σ H Q I (w σ H Q q)
theorem PT.imp {t t' : TT} (h : PT X e t) (w : ∀ σ H Q,t' σ H Q->t σ H Q) : PT X e t':=fun pins s σ H Q I q=>h pins s σ H Q I (w σ H Q q)
theorem PW.imp {t t' : TT} (h : PW X e t) (w : ∀ σ H Q,t' σ H Q->t σ H Q) : PW X e t':=fun wh pins s σ H Q I q=>h wh pins s σ H Q I (w σ H Q q)
theorem PA.imp {t t' : TA} (h : PA X es t) (w : ∀ σ H Q,t' σ H Q->t σ H Q) : PA X es t':=fun po pins s σ H Q I q=>h po pins s σ H Q I (w σ H Q q)
noncomputable def mkL (f : DS->Option (List D)) : DE:=fun δ=>(f δ).map .lst
noncomputable def z1b (f : DS->Option (List D)) : DE:=fun δ=>(f δ).bind fun ds=>if z2Z ds=true then some (.lst ds) else none
noncomputable def z7u (f : DE) : DE:=fun δ=>(f δ).bind fun d=>if d.imm=true then some d else none
theorem iDF {K : PySem.W.Frag} {f : DS->Option (List D)} : ∀ σ H Q,tD K (mkL f) σ H Q->tF K f σ H Q:=fun σ H Q z_=>by
  obtain ⟨B,δ,d,hB,S,q,k⟩:=z_
  unfold mkL at q
  cases r : f δ with
  | none=>rw [r] at q; cases q
  | some ds=>
    rw [r] at q
    cases q
    exact ⟨B,δ,ds,hB,S,r,fun a xs H' s hn ha hr=>k _ H' s (by unfold Rep; exact ⟨a,xs,rfl,hB.fresh hn,ha,hr⟩)⟩
theorem iDN {K : PySem.W.Frag} {f : DE} : ∀ σ H Q,tD K f σ H Q->tN K f σ H Q:=fun σ H Q ⟨B,δ,d,hB,S,q,k⟩=>
  ⟨δ,d,S.anti (fun _ z=>z.elim),q,fun v H' A s t nd fr=>k v H' s (t.rep d fun a ha=>hB.fresh (fr a ha))⟩
theorem iNI {K : PySem.W.Frag} {f : DE} : ∀ σ H Q,tN K (z7u f) σ H Q->tD K f σ H Q:=fun σ H Q z_=>by
  obtain ⟨δ,d,S,q,k⟩:=z_
  unfold z7u at q
  cases r : f δ with
  | none=>rw [r] at q; cases q
  | some d'=>
    rw [r] at q
    have q' : (if d'.imm=true then some d' else none)=some d:=q
    by_cases hi : d'.imm=true
    · rw [if_pos hi] at q'
      cases q'
      exact ⟨noB,δ,d,.no,S,r,fun v H' s rv=>k v H' [] s (rv.immTree d hi) List.nodup_nil (fun a ha=>nomatch ha)⟩
    · rw [if_neg hi] at q'
      cases q'
theorem iNF {K : PySem.W.Frag} {f : DS->Option (List D)} : ∀ σ H Q,tN K (z1b f) σ H Q->tF K f σ H Q:=fun σ H Q z_=>by
  obtain ⟨δ,d,S,q,k⟩:=z_
  unfold z1b at q
  cases r : f δ with
  | none=>rw [r] at q; cases q
  | some ds=>
    rw [r] at q
    have q' : (if z2Z ds=true then some (D.lst ds) else none)=some d:=q
    split at q'
    · rename_i hi
      cases q'
      refine ⟨noB,δ,ds,.no,S,r,fun a xs H' s hn ha hr=>k (.ref a) H' [a] s ?_ (List.nodup_cons.mpr ⟨(fun z=>nomatch z),List.nodup_nil⟩) (fun b hb=>by rw [List.mem_singleton.mp hb]; exact hn)⟩
      unfold Tree
      exact ⟨a,xs,[],rfl,ha,hr.immTree ds hi,rfl⟩
    · cases q'
theorem z7E {f : DS->Option (List D)} (h : PF X e f) : PD X e (mkL f):=h.imp iDF
theorem y2a {f : DE} (h : PN X e f) : PD X e f:=h.imp iDN
theorem pn_I {f : DE} (h : PD X e f) : PN X e (z7u f):=h.imp iNI
theorem z8s {f : DS->Option (List D)} (h : PF X e f) : PN X e (z1b f):=h.imp iNF
noncomputable def z0f (i : Nat) : DE:=fun δ=>(δ[i]?).bind id
noncomputable def dC (d : D) : DE:=fun _=>some d
theorem z0l (i : Nat) {x : Str} {p : Pos} (h : PE X (.Name x p) (z3s i)) : PD X (.Name x p) (z0f i):=h.imp fun σ H Q z_=>by
  obtain ⟨B,δ,d,hB,S,q,k⟩:=z_
  unfold z0f at q
  cases r : δ[i]? with
  | none=>rw [r] at q; cases q
  | some o=>
    rw [r] at q
    have q' : o=some d:=q
    subst q'
    obtain ⟨v,e,rv⟩:=S.get i d r
    exact ⟨v,e,k v H (.refl H) rv⟩
theorem pd_C {d : D} {v : V} (h : PE X e (tC v)) (r : ∀ K H B,Rep K H B d v) : PD X e (dC d):=h.imp fun σ H Q z_=>by
  obtain ⟨B,δ,d',hB,S,q,k⟩:=z_
  cases q
  exact k v H (.refl H) (r _ _ _)
theorem z0h {i j p} : PD X (.Constant (.int i) j p) (dC (.int i)):=pd_C y4a fun _ _ _=>rfl
theorem z3U {i j p} : PD X (.Constant (.bool i) j p) (dC (.bl i)):=pd_C pe_bl fun _ _ _=>rfl
theorem y3P {j p} : PD X (.Constant .none j p) (dC .non):=pd_C pe_non fun _ _ _=>rfl
theorem z2y {i j p} : PD X (.Constant (.str i) j p) (dC (.str i)):=pd_C pe_str fun _ _ _=>rfl
noncomputable def d2 (F : D->D->Option D) (f g : DE) : DE:=fun δ=>(f δ).bind fun x=>(g δ).bind fun y=>F x y
theorem z6z {F : D->D->Option D} {f g : DE} {δ : DS} {d : D} (h : d2 F f g δ=some d) : ∃ x y,f δ=some x∧g δ=some y∧F x y=some d:=by
  unfold d2 at h
  cases hx : f δ with
  | none=>rw [hx] at h; cases h
  | some x=>
    rw [hx] at h
    cases hy : g δ with
    | none=>
      have h' : ((g δ).bind fun y=>F x y)=some d:=h
      rw [hy] at h'; cases h'
    | some y=>
      have h' : ((g δ).bind fun y=>F x y)=some d:=h
      rw [hy] at h'
      exact ⟨x,y,rfl,rfl,h'⟩
noncomputable def Op2 (K : PySem.W.Frag) (r : R2) (F : D->D->Option D) : Prop:=∀ (H : Hp) (B : Addr->Prop) (dx dy d : D) (x y : V) (Q : VK),InB B H->Rep K H B dx x->Rep K H B dy y->F dx dy=some d->(∀ v H',Same H H'->Rep K H' B d v->Q v H')->r x y H Q
theorem z9j {r : R2} {F : D->D->Option D} {f g : DE} (ho : Op2 X.K r F) (σ : St) (H : Hp) (Q : VK) (h : tD X.K (d2 F f g) σ H Q) : tOp r (tD X.K f) (tD X.K g) σ H Q:=by
  obtain ⟨B,δ,d,hB,S,q,k⟩:=h
  obtain ⟨dx,dy,e1,e2,e3⟩:=z6z q
  exact ⟨B,δ,dx,hB,S,e1,fun v H1 s1 r1=>⟨B,δ,dy,hB.mono s1,S.mono s1,e2,fun u H2 s2 r2=>
    ho H2 B dx dy d v u Q ((hB.mono s1).mono s2) (r1.mono s2) r2 e3 fun z H' s' rz=>k z H' ((s1.trans s2).trans s') rz⟩⟩
theorem y0P {op : Operator} {r : R2} {F : D->D->Option D} {f g : DE} (ho : OpR X (binaryOp op) r) (hD : Op2 X.K r F) (ha : PD X a f) (hb : PD X b g) : PD X (.BinOp a op b pos) (d2 F f g):=(pe_op ho ha hb).imp (z9j hD)
theorem pd_cmp {op : CmpOp} {r : R2} {F : D->D->Option D} {f g : DE} (ho : OpR X (compareOp op) r) (hD : Op2 X.K r F) (ha : PD X a f) (hb : PD X b g) (hm : behindInMarks op b=false) : PD X (.Compare a [op] [b] pos) (d2 F f g):=(pe_cmpR ho ha hb hm).imp (z9j hD)
noncomputable def z0R (f : DE) : DS->Option Bool:=fun δ=>match f δ with
  | some (.bl b)=>some b
  | _=>none
theorem z9K {f : DE} {δ : DS} {b : Bool} (h : z0R f δ=some b) : f δ=some (.bl b):=by
  unfold z0R at h
  split at h
  · rename_i b' e
    cases h; exact e
  · cases h
theorem y0J {t : TE} {f : DE} (h : ∀ σ H Q,tD X.K f σ H Q->t σ H Q) (σ : St) (H : Hp) (Q : Bool->Hp->Prop) (q : tT X.K (z0R f) σ H Q) : tTest t σ H Q:=by
  obtain ⟨B,δ,b,hB,S,q,k⟩:=q
  refine h σ H _ ⟨B,δ,.bl b,hB,S,z9K q,fun v H' s r=>?_⟩
  exact ⟨b,r,k H' s⟩
theorem z3y {op : CmpOp} {r : R2} {F : D->D->Option D} {f g : DE} (ho : OpR X (compareOp op) r) (hD : Op2 X.K r F) (ha : PD X a f) (hb : PD X b g) (hm : behindInMarks op b=false) : PTD X (.Compare a [op] [b] pos) (z0R (d2 F f g)):=(y0x ho ha hb hm).imp (y0J (z9j hD))
noncomputable def z4p (F G : D->D->Option D) (f g h : DE) : DE:=fun δ=>(f δ).bind fun x=>(g δ).bind fun y=>match F x y with
  | some (.bl true)=>(h δ).bind fun z=>G y z
  | some (.bl false)=>some (.bl false)
  | _=>none
theorem z8v {r r' : R2} {F G : D->D->Option D} {f g h : DE} (ho : Op2 X.K r F) (ho' : Op2 X.K r' G) (σ : St) (H : Hp) (Q : VK) (q : tD X.K (z4p F G f g h) σ H Q) : y1j r r' (tD X.K f) (tD X.K g) (tD X.K h) σ H Q:=by
  obtain ⟨B,δ,d,hB,S,q,k⟩:=q
  unfold z4p at q
  cases e1 : f δ with
  | none=>rw [e1] at q; cases q
  | some x=>
    rw [e1] at q
    cases e2 : g δ with
    | none=>
      have q' : ((g δ).bind _)=some d:=q
      rw [e2] at q'; cases q'
    | some y=>
      have q' : ((g δ).bind _)=some d:=q
      rw [e2] at q'
      have q2 : (match F x y with | some (.bl true)=>(h δ).bind fun z=>G y z | some (.bl false)=>some (.bl false) | _=>none)=some d:=q'
      refine ⟨B,δ,x,hB,S,e1,fun v H1 s1 r1=>⟨B,δ,y,hB.mono s1,S.mono s1,e2,fun u H2 s2 r2=>?_⟩⟩
      split at q2
      · rename_i e3
        refine ho H2 B x y _ v u _ ((hB.mono s1).mono s2) (r1.mono s2) r2 e3 fun z H3 s3 r3=>⟨true,r3,?_⟩
        rw [if_pos rfl]
        cases e4 : h δ with
        | none=>rw [e4] at q2; cases q2
        | some w=>
          rw [e4] at q2
          have q4 : G y w=some d:=q2
          refine ⟨B,δ,w,((hB.mono s1).mono s2).mono s3,((S.mono s1).mono s2).mono s3,e4,fun t H4 s4 r4=>?_⟩
          exact ho' H4 B y w d u t Q ((((hB.mono s1).mono s2).mono s3).mono s4) ((r2.mono s3).mono s4) r4 q4 fun z' H' s' rz=>k z' H' ((((s1.trans s2).trans s3).trans s4).trans s') rz
      · rename_i e3
        cases q2
        refine ho H2 B x y _ v u _ ((hB.mono s1).mono s2) (r1.mono s2) r2 e3 fun z H3 s3 r3=>⟨false,r3,?_⟩
        rw [if_neg Bool.false_ne_true]
        exact k _ H3 ((s1.trans s2).trans s3) rfl
      · cases q2
theorem y2P {op op' : CmpOp} {r r' : R2} {F G : D->D->Option D} {f g h : DE} (ho : OpR X (compareOp op) r) (ho' : OpR X (compareOp op') r') (hF : Op2 X.K r F) (hG : Op2 X.K r' G) (ha : PD X a f) (hb : PD X b g) (hc : PD X c h)
    (hm : lastMarks [op,op'] [b,c]=false:=by with_unfolding_all rfl) : PD X (.Compare a [op,op'] [b,c] pos) (z4p F G f g h):=(y3e ho ho' ha hb hc hm).imp (z8v hF hG)
theorem y1w {op op' : CmpOp} {r r' : R2} {F G : D->D->Option D} {f g h : DE} (ho : OpR X (compareOp op) r) (ho' : OpR X (compareOp op') r') (hF : Op2 X.K r F) (hG : Op2 X.K r' G) (ha : PD X a f) (hb : PD X b g) (hc : PD X c h)
    (hm : lastMarks [op,op'] [b,c]=false:=by with_unfolding_all rfl) : PTD X (.Compare a [op,op'] [b,c] pos) (z0R (z4p F G f g h)):=(y2L ho ho' ha hb hc hm).imp (y0J (z8v hF hG))
noncomputable def iop (F : Int->Int->Option D) : D->D->Option D
  | .int i,.int j=>F i j
  | _,_=>none
theorem z6n {F : Int->Int->Option D} {x y d : D} (h : iop F x y=some d) : ∃ i j,x = .int i∧y = .int j∧F i j=some d:=by
  unfold iop at h
  split at h
  · exact ⟨_,_,rfl,rfl,h⟩
  · cases h
theorem y0F {K : PySem.W.Frag} {C : Int->Int->Prop} [∀ i j,Decidable (C i j)] {g : Int->Int->Int} : Op2 K (rI C fun i j=>.int (g i j)) (iop fun i j=>if C i j then some (.int (g i j)) else none):=by
  intro H B dx dy d x y Q hB hx hy q k
  obtain ⟨i,j,rfl,rfl,q2⟩:=z6n q
  by_cases hc : C i j
  · rw [if_pos hc] at q2
    cases q2
    exact ⟨i,j,hx,hy,hc,k _ H (.refl H) rfl⟩
  · rw [if_neg hc] at q2
    cases q2
theorem y0u {K : PySem.W.Frag} {g : Int->Int->Int} : Op2 K (rI0 fun i j=>.int (g i j)) (iop fun i j=>some (.int (g i j))):=by
  intro H B dx dy d x y Q hB hx hy q k
  obtain ⟨i,j,rfl,rfl,q2⟩:=z6n q
  cases q2
  exact ⟨i,j,hx,hy,k _ H (.refl H) rfl⟩
theorem z2H {K : PySem.W.Frag} {g : Int->Int->Bool} : Op2 K (rI0 fun i j=>.bl (g i j)) (iop fun i j=>some (.bl (g i j))):=by
  intro H B dx dy d x y Q hB hx hy q k
  obtain ⟨i,j,rfl,rfl,q2⟩:=z6n q
  cases q2
  exact ⟨i,j,hx,hy,k _ H (.refl H) rfl⟩
noncomputable def d1 (F : D->Option D) (f : DE) : DE:=fun δ=>(f δ).bind F
theorem z7X {F : D->Option D} {f : DE} {δ : DS} {d : D} (h : d1 F f δ=some d) : ∃ x,f δ=some x∧F x=some d:=by
  unfold d1 at h
  cases hx : f δ with
  | none=>rw [hx] at h; cases h
  | some x=>rw [hx] at h; exact ⟨x,rfl,h⟩
noncomputable def uNeg : D->Option D
  | .int i=>some (.int (-i))
  | _=>none
noncomputable def z5I : D->Option Bool
  | .non=>some false
  | .bl b=>some b
  | .int i=>some (i != 0)
  | .str x=>if x.length≤sizeLine then some ((x.length : Int) != 0) else none
  | .lst ds=>some (!ds.isEmpty)
  | .tup ds=>some (!ds.isEmpty)
  | .scr ns=>some (!ns.isEmpty)
  | .dct ks _=>some (!ks.isEmpty)
  | .exc _=>none
  | .obj _ _ _ _=>none
  | .cel _ _=>none
noncomputable def z4t (f : DE) : DS->Option Bool:=fun δ=>(f δ).bind z5I
theorem z8F {K : PySem.W.Frag} {H : Hp} {B : Addr->Prop} {ds : List D} {xs : List V} (h : Reps K H B ds xs) : (!ds.isEmpty) = !xs.isEmpty:=by
  have:=h.length
  cases ds <;> cases xs <;> simp_all
theorem y0G {K : PySem.W.Frag} {H : Hp} {B : Addr->Prop} {d : D} {v : V} {k : Bool} (h : Rep K H B d v) (e : z5I d=some k) : TruV K v H k:=by
  cases d with
  | non=>cases h; cases e; rfl
  | bl b=>cases h; cases e; rfl
  | int i=>cases h; cases e; rfl
  | str x=>
    cases h
    have e' : (if x.length≤sizeLine then some ((x.length : Int) != 0) else none)=some k:=e
    by_cases hl : x.length≤sizeLine
    · rw [if_pos hl] at e'
      cases e'
      exact ⟨hl,rfl⟩
    · rw [if_neg hl] at e'
      cases e'
  | lst ds=>
    unfold Rep at h
    obtain ⟨a,xs,rfl,_,s,r⟩:=h
    cases e
    exact .inl ⟨xs,SqL.of s,z8F r⟩
  | tup ds=>
    unfold Rep at h
    obtain ⟨a,xs,rfl,s,r⟩:=h
    cases e
    exact .inr (.inl ⟨xs,s,z8F r⟩)
  | scr ns=>
    unfold Rep at h
    obtain ⟨a,rfl,s⟩:=h
    cases e
    exact .inl ⟨_,s.sq,by cases ns <;> rfl⟩
  | dct ks ds=>
    unfold Rep at h
    obtain ⟨a,kvs,rfl,_,s,q,r⟩:=h
    cases e
    refine .inr (.inr ⟨kvs,s,?_⟩)
    rw [← q]
    cases kvs <;> rfl
  | exc _=>cases e
  | obj _ _ _ _=>cases e
  | cel _ _=>cases e
theorem z3I {f : DE} (h : PD X a f) (he : ∀ whole,isTrue a X.env whole=(do let v ← whole; standAt a.pos; holding [v] (truthy v)):=by intro _; rfl) : PTD X a (z4t f):=(y3v h he).imp fun σ H Q z_=>by
  obtain ⟨B,δ,k,hB,S,q,kk⟩:=z_
  unfold z4t at q
  cases e : f δ with
  | none=>rw [e] at q; cases q
  | some d=>
    rw [e] at q
    exact ⟨B,δ,d,hB,S,e,fun v H' s r=>⟨k,y0G r q,kk H' s⟩⟩
noncomputable def dOrT (f g : DS->Option Bool) : DS->Option Bool:=fun δ=>(f δ).bind fun c=>if c=true then some true else g δ
noncomputable def z5X (f : DS->Option Bool) : DS->Option Bool:=fun δ=>(f δ).map (!·)
theorem y0T {f : DS->Option Bool} (h : PTD X a f) : PWD X (.BoolOp .Or [a] pos) f:=y3S h
theorem y4k {rest : List Expr} {f g : DS->Option Bool} (ha : PTD X a f) (hb : PWD X (.BoolOp .Or (b :: rest) pos) g) : PWD X (.BoolOp .Or (a :: b :: rest) pos) (dOrT f g):=(pw_or ha hb).imp fun σ H Q z_=>by
  obtain ⟨B,δ,k,hB,S,q,kk⟩:=z_
  unfold dOrT at q
  cases e : f δ with
  | none=>rw [e] at q; cases q
  | some c=>
    rw [e] at q
    refine ⟨B,δ,c,hB,S,e,fun H1 s1=>?_⟩
    have q' : (if c=true then some true else g δ)=some k:=q
    cases c with
    | true=>
      rw [if_pos rfl] at q'
      refine iteT ?_
      cases q'
      exact kk H1 s1
    | false=>
      rw [if_neg Bool.false_ne_true] at q'
      refine iteF ?_
      exact ⟨B,δ,k,hB.mono s1,S.mono s1,q',fun H2 s2=>kk H2 (s1.trans s2)⟩
theorem z4Q {f : DS->Option Bool} (h : PTD X a f) : PTD X (.UnaryOp .Not a pos) (z5X f):=(y4g h).imp fun σ H Q z_=>by
  obtain ⟨B,δ,k,hB,S,q,kk⟩:=z_
  unfold z5X at q
  cases e : f δ with
  | none=>rw [e] at q; cases q
  | some c=>
    rw [e] at q
    cases q
    exact ⟨B,δ,c,hB,S,e,kk⟩
noncomputable def y1Z (f g : DE) : DE:=fun δ=>match f δ with
  | some (.bl true)=>g δ
  | some (.bl false)=>some (.bl false)
  | _=>none
noncomputable def uNot : D->Option D
  | .bl b=>some (.bl (!b))
  | _=>none
theorem y3Z {op} {f : DE} (h : PD X a f) : PD X (.BoolOp op [a] pos) f:=pe_one h
theorem z8K {rest : List Expr} {f g : DE} (ha : PD X a f) (hb : PD X (.BoolOp .And (b :: rest) pos) g) : PD X (.BoolOp .And (a :: b :: rest) pos) (y1Z f g):=(pe_and ha hb).imp fun σ H Q z_=>by
  obtain ⟨B,δ,d,hB,S,q,k⟩:=z_
  unfold y1Z at q
  split at q
  · rename_i e
    refine ⟨B,δ,.bl true,hB,S,e,fun v H1 s1 r=>⟨true,r,?_⟩⟩
    rw [if_pos rfl]
    exact ⟨B,δ,d,hB.mono s1,S.mono s1,q,fun v2 H2 s2 r2=>k v2 H2 (s1.trans s2) r2⟩
  · rename_i e
    cases q
    refine ⟨B,δ,.bl false,hB,S,e,fun v H1 s1 r=>⟨false,r,?_⟩⟩
    rw [if_neg Bool.false_ne_true]
    exact k _ H1 s1 rfl
  · cases q
theorem pd_not {f : DE} (h : PD X a f) : PD X (.UnaryOp .Not a pos) (d1 uNot f):=(pe_not h).imp fun σ H Q z_=>by
  obtain ⟨B,δ,d,hB,S,q,k⟩:=z_
  obtain ⟨x,e1,e2⟩:=z7X q
  refine ⟨B,δ,x,hB,S,e1,fun v H' s r=>?_⟩
  unfold uNot at e2
  split at e2
  · cases e2
    exact ⟨_,r,k _ H' s rfl⟩
  · cases e2
noncomputable def z0n : List DE->DS->Option (List D)
  | [],_=>some []
  | f :: r,δ=>(f δ).bind fun x=>(z0n r δ).bind fun xs=>some (x :: xs)
theorem z2w {f : DE} {r : List DE} {δ : DS} {ds : List D} (h : z0n (f :: r) δ=some ds) : ∃ x xs,f δ=some x∧z0n r δ=some xs∧ds=x :: xs:=by
  unfold z0n at h
  cases hx : f δ with
  | none=>rw [hx] at h; cases h
  | some x=>
    rw [hx] at h
    have h' : ((z0n r δ).bind fun xs=>some (x :: xs))=some ds:=h
    cases hy : z0n r δ with
    | none=>rw [hy] at h'; cases h'
    | some xs=>
      rw [hy] at h'
      cases h'
      exact ⟨x,xs,rfl,rfl,rfl⟩
theorem z2o : ∀ {fl : List DE} {δ : DS} {ds : List D},z0n fl δ=some ds->ds.length=fl.length
  | [],_,_,h=>by cases h; rfl
  | f :: r,δ,ds,h=>by
    obtain ⟨x,xs,_,e,rfl⟩:=z2w h
    simp [z2o e]
noncomputable abbrev PAD (X : Cx) (es : List Expr) (fl : List DE) : Prop:=PA X es (tDs X.K (z0n fl))
theorem z0k : PAD X [] []:=pa_nil.imp fun σ H Q z_=>by
  obtain ⟨B,δ,ds,hB,S,q,k⟩:=z_
  cases q
  exact k [] H (.refl H) .nil
theorem z0b {f : DE} {fl : List DE} (ha : PD X e f) (hr : PAD X es fl) (hs : starEach (e :: es) X.env=(false,eval e X.env) :: starEach es X.env:=by rfl) : PAD X (e :: es) (f :: fl):=(z0y ha hr hs).imp fun σ H Q z_=>by
  obtain ⟨B,δ,ds,hB,S,q,k⟩:=z_
  obtain ⟨x,xs,e1,e2,rfl⟩:=z2w q
  exact ⟨B,δ,x,hB,S,e1,fun v H1 s1 r1=>⟨B,δ,xs,hB.mono s1,S.mono s1,e2,fun vs H2 s2 r2=>k (v :: vs) H2 (s1.trans s2) (.cons (r1.mono s2) r2)⟩⟩
theorem z2p {fl : List DE} (h : PAD X es fl) (hl : fl.length≤1000:=by decide) : PF X (.List es pos) (z0n fl):=(z8U h).imp fun σ H Q z_=>by
  obtain ⟨B,δ,ds,hB,S,q,k⟩:=z_
  refine ⟨B,δ,ds,hB,S,q,fun vs H1 s1 r1=>⟨?_,fun p hp=>?_⟩⟩
  · rw [← r1.length,z2o q]
    exact Nat.le_of_lt (z4Z hl)
  · exact k p vs _ (s1.trans (z0u hp)) (s1.free hp) z0c (r1.mono (z0u hp))
noncomputable def mkT (f : DS->Option (List D)) : DE:=fun δ=>(f δ).map .tup
theorem z3n {x1} {fl : List DE} (h : PAD X es fl) (hl : fl.length≤1000:=by decide) : PD X (.Tuple es x1 pos) (mkT (z0n fl)):=(y3M h).imp fun σ H Q z_=>by
  obtain ⟨B,δ,d,hB,S,q,k⟩:=z_
  unfold mkT at q
  cases r : z0n fl δ with
  | none=>rw [r] at q; cases q
  | some ds=>
    rw [r] at q
    cases q
    refine ⟨B,δ,ds,hB,S,r,fun vs H1 s1 r1=>⟨?_,fun p hp=>?_⟩⟩
    · rw [← r1.length,z2o r]
      exact Nat.le_of_lt (z4Z hl)
    · refine k _ _ (s1.trans (z0u hp)) ?_
      unfold Rep
      exact ⟨p,vs,rfl,SqT.of z0c,r1.mono (z0u hp)⟩
noncomputable def ixD : D->D->Option D
  | .lst ds,.int i=>atI ds i
  | .tup ds,.int i=>atI ds i
  | .scr ns,.int i=>(atI ns i).map .int
  | _,_=>none
theorem atI_map {α β : Type} (f : α->β) (xs : List α) (i : Int) : atI (xs.map f) i=(atI xs i).map f:=by
  unfold atI
  rw [List.length_map]
  cases ixN xs.length i with
  | none=>rfl
  | some j=>simp
theorem z9h {K : PySem.W.Frag} {H : Hp} {B : Addr->Prop} {ds : List D} {xs : List V} {i : Int} {d : D} (h : Reps K H B ds xs) (e : atI ds i=some d) : ∃ x,atI xs i=some x∧Rep K H B d x:=by
  unfold atI at e ⊢
  rw [← h.length]
  cases q : ixN ds.length i with
  | none=>rw [q] at e; cases e
  | some j=>
    rw [q] at e
    exact h.get e
theorem o2_ix {K : PySem.W.Frag} : Op2 K (rIx K) ixD:=by
  intro H B dx dy d x y Q hB hx hy q k
  unfold ixD at q
  split at q
  · unfold Rep at hx
    obtain ⟨a,xs,rfl,_,s,r⟩:=hx
    obtain ⟨v,e,rv⟩:=z9h r q
    exact .inl ⟨a,xs,_,v,rfl,hy,SqL.of s,e,k v H (.refl H) rv⟩
  · unfold Rep at hx
    obtain ⟨a,xs,rfl,s,r⟩:=hx
    obtain ⟨v,e,rv⟩:=z9h r q
    exact .inr (.inl ⟨a,xs,_,v,rfl,hy,s,e,k v H (.refl H) rv⟩)
  · rename_i ns i
    unfold Rep at hx
    obtain ⟨a,rfl,s⟩:=hx
    cases e : atI ns i with
    | none=>rw [e] at q; cases q
    | some n=>
      rw [e] at q
      cases q
      exact .inl ⟨a,_,_,.int n,rfl,hy,s.sq,by rw [atI_map,e]; rfl,k _ H (.refl H) rfl⟩
  · cases q
theorem z1g {f g : DE} (ha : PD X a f) (hb : PD X b g) (hs : y0O b:=by intro _ _; rfl) : PD X (.Subscript a b pos) (d2 ixD f g):=(pe_ix ix_seq ha hb hs).imp (z9j o2_ix)
noncomputable def spN (K : PySem.W.Frag) (F : List D->Option D) : Sp:=fun vs H Q _=>∃ ds d,Reps K H noB ds vs∧F ds=some d∧∀ v H' A,Same H H'->Tree K H' d v A->A.Nodup->(∀ a∈A,H a=none)->Q v H'
structure DefOk (P : Program) (w : World) (K : PySem.W.Frag) (mg : Str->Option Value) (base : Heap) (k : Nat) (x : Str) (sp : Sp) : Prop where
  ok : ∃ (f : Addr) (fd : FuncData) (ps : List Str),mg x=some (.ref f)∧PySem.W.keepIn K (.ref f)=true∧Binds K fd ps []∧FnOk P w K mg base CX0 k f fd ps sp
noncomputable def z0r (F : List D->Option D) (fl : List DE) : DE:=fun δ=>(z0n fl δ).bind F
theorem z4j {F : List D->Option D} {fl : List DE} {δ : DS} {d : D} (h : z0r F fl δ=some d) : ∃ ds,z0n fl δ=some ds∧F ds=some d:=by
  unfold z0r at h
  cases q : z0n fl δ with
  | none=>rw [q] at h; cases h
  | some ds=>rw [q] at h; exact ⟨ds,rfl,h⟩
end
end L2
namespace L2
open PySem PySem.Spec PyProof.Rows
section
variable {X : Cx} {e a b c : Expr} {es : List Expr} {pos p : Pos} {x : Str} {k : Nat} {tg iter elt : Expr}
theorem z6D {sp : Sp} {t : TA} (G : DefOk X.prog X.w X.K X.mg X.base k x sp) (hr : Room k X.A) (hg : Gl X x) (ha : PA X (e :: es) t) (hdb : (x == ("__debug__" : Str))=false:=by decide)
    (he : starEach (e :: es) X.env=(false,eval e X.env) :: starEach es X.env:=by rfl) (hpl : (backTo pos (starEach es X.env)).any (·.1)=false:=by rfl) : PE X (.Call (.Name x p) (e :: es) [] pos) (tCall sp [] E0 t):=by
  obtain ⟨f,fd,ps,hm,hk,hb,ok⟩:=G.ok
  exact pe_call ok hr hg hm hk hb .nil y3o ha hdb he hpl
theorem z1X {F : List D->Option D} {fl : List DE} (G : DefOk X.prog X.w X.K X.mg X.base k x (spN X.K F)) (hr : Room k X.A) (hg : Gl X x) (ha : PAD X (e :: es) fl) (hdb : (x == ("__debug__" : Str))=false:=by decide)
    (he : starEach (e :: es) X.env=(false,eval e X.env) :: starEach es X.env:=by rfl) (hpl : (backTo pos (starEach es X.env)).any (·.1)=false:=by rfl) : PN X (.Call (.Name x p) (e :: es) [] pos) (z0r F fl):=
  (z6D G hr hg ha hdb he hpl).imp fun σ H Q z_=>by
    obtain ⟨δ,d,S,q,k⟩:=z_
    obtain ⟨ds,e1,e2⟩:=z4j q
    refine ⟨noB,δ,ds,.no,S,e1,fun vs H1 s1 r1=>?_⟩
    show spN X.K F (vs ++ []) H1 Q E0
    rw [List.append_nil]
    exact ⟨ds,d,r1,e2,fun v H' A s' t nd fr=>k v H' A (s1.trans s') t nd fun a ha=>s1.free (fr a ha)⟩
structure ItD (K : PySem.W.Frag) (J : It) (H : Hp) (B : Addr->Prop) (ds : List D) : Prop where
  go : ∀ i H',Keep K B H H'->i < ds.length->J.go i H'
  stop : ∀ i H',Keep K B H H'->ds.length≤i->J.stop i H'
  yld : ∀ i H' x H2,Keep K B H H'->J.yld i H' x H2->Same H' H2∧∃ d,(i < ds.length->ds[i]? = some d)∧Rep K H2 B d x
noncomputable def ItW (K : PySem.W.Frag) (J : It) (H : Hp) (B : Addr->Prop) (ds : List D) : Prop:=∀ C : Addr->Prop,(∀ a,C a->H a=none)->ItD K J H (fun a=>B a∨C a) ds
noncomputable def tI (K : PySem.W.Frag) (f : DS->Option (List D)) : TI:=fun σ H R=>∃ B δ ds,InB B H∧RepS K H B σ δ∧f δ=some ds∧∀ J H',Same H H'->ItW K J H' B ds->R J H'
noncomputable abbrev PID (X : Cx) (tg iter : Expr) (f : DS->Option (List D)) : Prop:=PI X tg iter (tI X.K f)
theorem PI.imp {wi wi' : TI} (h : PI X tg iter wi) (w : ∀ σ H R,wi' σ H R->wi σ H R) : PI X tg iter wi':=fun pins s σ H R I q=>h pins s σ H R I (w σ H R q)
noncomputable def iSeq (K : PySem.W.Frag) (tl : TE) : TI:=fun σ H R=>tl σ H fun x H1=>∃ a,x = .ref a∧(((∃ xs,SqL K H1 a xs)∧R (Itl K a) H1)∨((∃ xs,SqT K H1 a xs)∧R (Itt K a) H1))
theorem pi_seq {l : Expr} {tl : TE} (hl : PE X l tl) : PI X tg l (iSeq X.K tl):=by
  intro pins s σ H R I h
  refine thn (hl pins s σ H _ I h) fun v s1 ⟨x,H1,I1,r1,q1⟩=>?_
  obtain ⟨a,e,q1⟩:=q1
  subst e
  cases r1
  have fp : ∀ b∈[s1.heap.objs.size],z9M X pins H1 b:=fun b hb=>by
    have e : b=s1.heap.objs.size:=by simpa using hb
    subst e
    exact I1.fpOk (Nat.le_refl _) (I1.hok.fresh (Nat.le_refl _))
  rcases q1 with ⟨⟨xs,hq⟩,q⟩ | ⟨⟨xs,hq⟩,q⟩
  · obtain ⟨its,rv,p,hz⟩:=I1.list hq
    refine wpAny_pyIter_list p.isList ?_
    exact ⟨s1.heap.objs.size,[s1.heap.objs.size],_,_,H1,rfl,I1.kept (t':=s1.toks) fun b o e=>Heap.get?_push_of_some _ e,y1I a _,⟨_,Heap.get?_push_size _ rfl,rfl,rfl⟩,fp,q⟩
  · obtain ⟨its,rv,p,hz⟩:=I1.tuple hq
    refine wpAny_pyIter_tuple (show s1.heap.IsTuple a its.toArray from p) ?_
    exact ⟨s1.heap.objs.size,[s1.heap.objs.size],_,_,H1,rfl,I1.kept (t':=s1.toks) fun b o e=>Heap.get?_push_of_some _ e,z9J a _,⟨_,Heap.get?_push_size _ rfl,rfl,rfl⟩,fp,q⟩
noncomputable def seqD : D->Option (List D)
  | .lst ds=>some ds
  | .tup ds=>some ds
  | .scr ns=>some (ns.map .int)
  | _=>none
noncomputable def y3R (f : DE) : DS->Option (List D):=fun δ=>(f δ).bind seqD
theorem y2x {K : PySem.W.Frag} {H : Hp} {B : Addr->Prop} {a : Addr} {xs : List V} {ds : List D} (n : ¬ B a) (h : H a=some (.lst xs)) (r : Reps K H B ds xs) : ItD K (Itl K a) H B ds:=by
  have hl:=r.length
  refine ⟨fun i H' kp hi=>?_,fun i H' kp hi=>?_,fun i H' x H2 kp y=>?_⟩
  · exact ⟨xs,xs[i],SqL.of (kp.sl a xs n h),by rw [List.getElem?_eq_getElem]⟩
  · exact ⟨xs,SqL.of (kp.sl a xs n h),by omega⟩
  · obtain ⟨e,y⟩:=y
    subst e
    have hx:=y xs (SqL.of (kp.sl a xs n h))
    obtain ⟨d,e,rd⟩:=(Reps.keep kp ds r).get' hx
    exact ⟨.refl _,d,fun _=>e,rd⟩
theorem itd_tup {K : PySem.W.Frag} {H : Hp} {B : Addr->Prop} {a : Addr} {xs : List V} {ds : List D} (h : SqT K H a xs) (r : Reps K H B ds xs) : ItD K (Itt K a) H B ds:=by
  have hl:=r.length
  refine ⟨fun i H' kp hi=>?_,fun i H' kp hi=>?_,fun i H' x H2 kp y=>?_⟩
  · exact ⟨xs,xs[i],kp.st a xs h,by rw [List.getElem?_eq_getElem]⟩
  · exact ⟨xs,kp.st a xs h,by omega⟩
  · obtain ⟨e,y⟩:=y
    subst e
    have hx:=y xs (kp.st a xs h)
    obtain ⟨d,e,rd⟩:=(Reps.keep kp ds r).get' hx
    exact ⟨.refl _,d,fun _=>e,rd⟩
theorem z3M {K : PySem.W.Frag} {H : Hp} {B : Addr->Prop} : ∀ ns : List Int,Reps K H B (ns.map D.int) (ns.map V.int)
  | []=>.nil
  | n :: ns=>.cons rfl (z3M ns)
theorem itd_scr {K : PySem.W.Frag} {H : Hp} {B : Addr->Prop} {a : Addr} {ns : List Int} (h : SqF K H a (ns.map V.int)) : ItD K (Itl K a) H B (ns.map D.int):=by
  have r : ∀ H',Reps K H' B (ns.map D.int) (ns.map V.int):=fun _=>z3M ns
  refine ⟨fun i H' kp hi=>?_,fun i H' kp hi=>?_,fun i H' x H2 kp y=>?_⟩
  · exact ⟨ns.map V.int,(ns.map V.int)[i]'(by simpa using hi),(kp.sf a _ h).sq,by rw [List.getElem?_eq_getElem]⟩
  · exact ⟨ns.map V.int,(kp.sf a _ h).sq,by simpa using hi⟩
  · obtain ⟨e,y⟩:=y
    subst e
    have hx:=y _ (kp.sf a _ h).sq
    obtain ⟨d,e,rd⟩:=(r _).get' hx
    exact ⟨.refl _,d,fun _=>e,rd⟩
theorem z6p {l : Expr} {f : DE} (h : PD X l f) : PID X tg l (y3R f):=(pi_seq h).imp fun σ H R z_=>by
  obtain ⟨B,δ,ds,hB,S,q,k⟩:=z_
  unfold y3R at q
  cases e : f δ with
  | none=>rw [e] at q; cases q
  | some d=>
    rw [e] at q
    have q' : seqD d=some ds:=q
    refine ⟨B,δ,d,hB,S,e,fun v H1 s1 r1=>?_⟩
    unfold seqD at q'
    split at q'
    · cases q'
      unfold Rep at r1
      obtain ⟨a,xs,rfl,n,h,r⟩:=r1
      exact ⟨a,rfl,.inl ⟨⟨xs,SqL.of h⟩,k _ H1 s1 fun C hC=>y2x (fun z=>z.elim n fun z=>by rw [hC a z] at h; cases h) h (Reps.wide hC _ r)⟩⟩
    · cases q'
      unfold Rep at r1
      obtain ⟨a,xs,rfl,h,r⟩:=r1
      exact ⟨a,rfl,.inr ⟨⟨xs,h⟩,k _ H1 s1 fun C hC=>itd_tup h (Reps.wide hC _ r)⟩⟩
    · cases q'
      unfold Rep at r1
      obtain ⟨a,rfl,h⟩:=r1
      exact ⟨a,rfl,.inl ⟨⟨_,h.sq⟩,k _ H1 s1 fun C hC=>itd_scr h⟩⟩
    · cases q'
noncomputable def z3S (lo : Int) (n : Nat) : List D:=(List.range n).map fun i=>.int (lo + (i : Nat))
theorem z8E {lo : Int} {n i : Nat} (h : i < n) : (z3S lo n)[i]? = some (.int (lo + i)):=by
  unfold z3S
  rw [List.getElem?_map,List.getElem?_range h]
  rfl
theorem z2z (lo : Int) (n : Nat) : (z3S lo n).length=n:=by unfold z3S; rw [List.length_map,List.length_range]
theorem itd_rng {K : PySem.W.Frag} {H : Hp} {B : Addr->Prop} {lo : Int} {n : Nat} : ItD K (Itr lo n) H B (z3S lo n):=by
  refine ⟨fun i H' _ hi=>?_,fun i H' _ hi=>?_,fun i H' x H2 _ y=>?_⟩
  · rw [z2z] at hi; exact hi
  · rw [z2z] at hi; exact hi
  · obtain ⟨e,y⟩:=y
    subst e y
    exact ⟨.refl _,.int (lo + i),fun h=>z8E (by rwa [z2z] at h),rfl⟩
noncomputable def z7r (f : DE) : DS->Option (List D):=fun δ=>match f δ with
  | some (.int j)=>if -(2 ^ 62)≤j∧j < 2 ^ 62 then some (z3S 0 j.toNat) else none
  | _=>none
theorem pi_rng1 {f : DE} (hg : Gl X "range") (hm : X.mg "range" = none) (ha : PD X a f) (hs : starEach [a] X.env=[(false,eval a X.env)]:=by rfl) : PID X tg (.Call (.Name "range" p) [a] [] pos) (z7r f):=
  (z7h hg hm (z0b ha z0k hs) hs).imp fun σ H R z_=>by
    obtain ⟨B,δ,ds,hB,S,q,k⟩:=z_
    unfold z7r at q
    split at q
    · rename_i j e
      split at q
      · rename_i hj
        cases q
        have ea : z0n [f] δ=some [.int j]:=by unfold z0n; rw [e]; rfl
        refine ⟨B,δ,[.int j],hB,S,ea,fun vs H1 s1 r1=>?_⟩
        unfold Reps at r1
        obtain ⟨x,r,rfl,rx,rr⟩:=r1
        unfold Reps at rr
        subst rr
        exact ⟨j,by rw [show x=V.int j from rx],hj.1,hj.2,k _ H1 s1 fun C _=>itd_rng⟩
      · cases q
    · cases q
noncomputable def consO : Option D->List D->List D
  | some y,ys=>y :: ys
  | none,ys=>ys
noncomputable def z3c (h : D->Option (Option D)) : List D->Option (List D)
  | []=>some []
  | x :: r=>(h x).bind fun o=>(z3c h r).bind fun ys=>some (consO o ys)
theorem z9u {h : D->Option (Option D)} {x : D} {r ds : List D} (e : z3c h (x :: r)=some ds) : ∃ o ys,h x=some o∧z3c h r=some ys∧ds=consO o ys:=by
  unfold z3c at e
  cases q : h x with
  | none=>rw [q] at e; cases e
  | some o=>
    rw [q] at e
    have e' : ((z3c h r).bind fun ys=>some (consO o ys))=some ds:=e
    cases q' : z3c h r with
    | none=>rw [q'] at e'; cases e'
    | some ys=>
      rw [q'] at e'
      exact ⟨o,ys,rfl,rfl,(Option.some.inj e').symm⟩
noncomputable def z6P (fi : DS->Option (List D)) (fc : DS->Option Bool) (fe : DE) : DS->Option (List D):=fun δ=>(fi δ).bind fun xs=>if xs.length≤sizeLine then
  z3c (fun x=>(fc (δ ++ [some x])).bind fun k=>if k=true then (fe (δ ++ [some x])).map some else some none) xs else none
noncomputable def y3N : DS->Option Bool:=fun _=>some true
theorem z4O {X : Cx} : PIfs X [] (tT X.K y3N):=fun pins s σ H Q I ⟨B,δ,b,hB,S,q,k⟩=>y3I pins s σ H Q I (by cases q; exact k H (.refl H))
theorem RepS.snoc {K : PySem.W.Frag} {H : Hp} {B : Addr->Prop} {σ : St} {δ : DS} {d : D} {v : V} (S : RepS K H B σ δ) (r : Rep K H B d v) : RepS K H B (σ ++ [some v]) (δ ++ [some d]):=by
  refine ⟨by simp [S.len],fun i d' e=>?_⟩
  by_cases hi : i < δ.length
  · rw [List.getElem?_append_left hi] at e
    obtain ⟨w,e',r'⟩:=S.get i d' e
    exact ⟨w,by rw [List.getElem?_append_left (by rw [← S.len]; exact hi)]; exact e',r'⟩
  · by_cases hj : i=δ.length
    · subst hj
      rw [List.getElem?_append_right (Nat.le_refl _),Nat.sub_self] at e
      cases e
      refine ⟨v,?_,r⟩
      rw [S.len,List.getElem?_append_right (Nat.le_refl _),Nat.sub_self]
      rfl
    · rw [List.getElem?_eq_none (by simp; omega)] at e
      cases e
theorem RepS.wide {K : PySem.W.Frag} {H : Hp} {B C : Addr->Prop} {σ : St} {δ : DS} (h : RepS K H B σ δ) (hc : ∀ a,C a->H a=none) : RepS K H (fun a=>B a∨C a) σ δ:=
  ⟨h.len,fun i d q=>let ⟨v,a,r⟩:=h.get i d q; ⟨v,a,Rep.wide hc d r⟩⟩
theorem Keep.anti {K : PySem.W.Frag} {B B' : Addr->Prop} {H H1 : Hp} (a : Keep K B H H1) (h : ∀ x,B x->B' x) : Keep K B' H H1:=
  ⟨fun x xs n q=>a.sl x xs (fun z=>n (h x z)) q,a.st,a.sf,fun x xs n q=>a.sd x xs (fun z=>n (h x z)) q,fun x xs n q=>a.sx x xs (fun z=>n (h x z)) q,fun x C dx fs n q=>a.si x C dx fs (fun z=>n (h x z)) q⟩
theorem z8G {w v : Option V} : ∀ {σ : St},(σ ++ [w]).set σ.length v=σ ++ [v]
  | []=>rfl
  | x :: r=>congrArg (x :: ·) (z8G (σ:=r))
variable {N' : List Str} {sc : Scope} {ifs : List Expr} {n : Nat} {px : Pos} {fi : DS->Option (List D)} {fc : DS->Option Bool} {fe : DE}
theorem y3t {σ : St} {H : Hp} {Q : VK} (hσ : σ.length=n) (hq : tF X.K (z6P fi fc fe) σ H Q) : tComp (tI X.K fi) (z8g n) (tT X.K fc) (tD X.K fe) 1 σ H Q:=by
  obtain ⟨B,δ,ds,hB,Sδ,q,k⟩:=hq
  unfold z6P at q
  cases e1 : fi δ with
  | none=>rw [e1] at q; cases q
  | some xs=>
  rw [e1] at q
  have q1 : (if xs.length≤sizeLine then z3c (fun x=>(fc (δ ++ [some x])).bind fun k=>if k=true then (fe (δ ++ [some x])).map some else some none) xs else none)=some ds:=q
  split at q1
  case isFalse=>cases q1
  case isTrue hsz=>
  refine ⟨B,δ,xs,hB,Sδ,e1,fun J H1 s1 itw=>fun Da hD=>?_⟩
  have hD0 : H Da=none:=s1.free hD
  have it:=itw (fun a=>a=Da) fun a ha=>by rw [ha]; exact hD
  have Sw : RepS X.K H1 (fun a=>B a∨a=Da) σ δ:=(Sδ.mono s1).wide fun a ha=>by rw [ha]; exact hD
  obtain ⟨I,hI⟩ : ∃ I : Nat->Nat->St->Hp->Prop,I=fun i m σ' H'=>m=xs.length - i∧i≤xs.length∧(∃ w,σ'=σ ++ [w])∧Same H1 H'∧∃ ys dn rs,H' Da=some (.lst ys)∧Reps X.K H' (fun a=>B a∨a=Da) dn ys∧ds=dn ++ rs∧dn.length≤i ∧
      z3c (fun x=>(fc (δ ++ [some x])).bind fun k=>if k=true then (fe (δ ++ [some x])).map some else some none) (xs.drop i)=some rs:=⟨_,rfl⟩
  refine ⟨I,⟨xs.length,by rw [hI]; exact ⟨by simp,Nat.zero_le _,⟨none,rfl⟩,z0u hD,[],[],ds,z0c,.nil,rfl,Nat.le_refl _,q1⟩⟩,?_⟩
  intro i m σ' H' hh
  rw [hI] at hh
  obtain ⟨rfl,hi',⟨w,rfl⟩,sm,ys,dn,rs,hys,rys,hds,hln,hrs⟩:=hh
  have kp : Keep X.K (fun a=>B a∨a=Da) H1 H':=.same sm
  by_cases hlt : i < xs.length
  · refine .inr ⟨it.go i H' kp hlt,fun σ'' H''=>I (i + 1) (xs.length - (i + 1)) σ'' H'',fun σ'' H'' h=>⟨xs.length - (i + 1),by omega,h⟩,fun xv H2 hy=>?_⟩
    obtain ⟨s2,d,hd,rd⟩:=it.yld i H' xv H2 kp hy
    have hdi:=hd hlt
    have hx : xs.drop i=d :: xs.drop (i + 1):=by
      obtain ⟨hl,e⟩:=List.getElem?_eq_some_iff.mp hdi
      rw [List.drop_eq_getElem_cons hl,e]
    rw [hx] at hrs
    obtain ⟨o,rs',e2,e3,e4⟩:=z9u hrs
    show tT X.K fc ((σ ++ [w]).set n (some xv)) H2 _
    rw [← hσ,z8G]
    have hB1 : InB (fun a=>B a∨a=Da) H2:=fun a ha=>ha.elim (fun z=>(((hB.mono s1).mono sm).mono s2) a z) fun z=>⟨_,s2 _ _ (z ▸ hys)⟩
    have S2 : RepS X.K H2 (fun a=>B a∨a=Da) (σ ++ [some xv]) (δ ++ [some d]):=((Sw.mono sm).mono s2).snoc rd
    have hl2 : ys.length < sizeLine:=by
      have:=rys.length
      omega
    cases ec : fc (δ ++ [some d]) with
    | none=>rw [ec] at e2; cases e2
    | some kk=>
      rw [ec] at e2
      have e2' : (if kk=true then (fe (δ ++ [some d])).map some else some none)=some o:=e2
      refine ⟨_,δ ++ [some d],kk,hB1,S2,ec,fun H3 s3=>?_⟩
      cases kk with
      | false=>
        rw [if_neg Bool.false_ne_true] at e2'
        rw [if_neg Bool.false_ne_true]
        cases e2'
        rw [hI]
        exact ⟨rfl,hlt,⟨_,rfl⟩,(sm.trans s2).trans s3,ys,dn,rs',s3 _ _ (s2 _ _ hys),(rys.mono s2).mono s3,by rw [hds,e4]; rfl,Nat.le_succ_of_le hln,e3⟩
      | true=>
        rw [if_pos rfl] at e2'
        rw [if_pos rfl]
        cases ey : fe (δ ++ [some d]) with
        | none=>rw [ey] at e2'; cases e2'
        | some y=>
          rw [ey] at e2'
          cases e2'
          refine ⟨_,δ ++ [some d],y,hB1.mono s3,S2.mono s3,ey,fun yv H5 s5 r5=>⟨ys,s5 _ _ (s3 _ _ (s2 _ _ hys)),hl2,?_⟩⟩
          have hu : H5 Da=some (.lst ys):=s5 _ _ (s3 _ _ (s2 _ _ hys))
          rw [hI]
          refine ⟨rfl,hlt,⟨_,rfl⟩,fun b u hb=>?_,ys ++ [yv],dn ++ [y],rs',z0c,?_,by rw [hds,e4,List.append_assoc]; rfl,by rw [List.length_append]; simp; omega,e3⟩
          · rw [z0d (z1G hb hD)]
            exact s5 _ _ (s3 _ _ (s2 _ _ (sm _ _ hb)))
          · exact Reps.keep (.upd (.inr rfl) (by rw [hu]; exact trivial)) _ (((rys.mono s2).mono s3 |>.mono s5).snoc r5)
  · have e : i=xs.length:=by omega
    subst e
    refine .inl ⟨it.stop _ H' kp (Nat.le_refl _),?_⟩
    rw [List.drop_length] at hrs
    cases hrs
    rw [List.append_nil] at hds
    subst hds
    exact k Da ys H' (s1.trans sm) hD0 hys (rys.anti fun a z=>.inl z)
theorem z7W (hc : X.calm=true) (S : CompScope X.N X.env.scope.names N' 1 sc) (hn : n=X.N.length) (hi : PID X (.Name x px) iter fi)
    (hg : ∀ s H fp pins E,PG (z1C X N' sc s H fp pins E) (.Name x px) (z8g n)) (ht : ∀ s H fp pins E,PIfs (z1C X N' sc s H fp pins E) ifs (tT X.K fc)) (he : ∀ s H fp pins E,PE (z1C X N' sc s H fp pins E) elt (tD X.K fe))
    (hs : ∀ x,foldedSetIterable iter X.env x=pure x:=by intro _; rfl) : PF X (.ListComp elt [⟨.Name x px,iter,ifs,0⟩] sc pos) (z6P fi fc fe):=by
  intro pins s σ H Q I hq
  exact pe_comp hc S hi ⟨hg,ht,he⟩ hs pins s σ H Q I (y3t (by rw [hn,I.len]) hq)
end
end L2
namespace L2
open PySem PySem.Spec PyProof.Rows
inductive SD where
  | sh (d : D) | ow (d : D) | bo (r : Nat) (d : D)
noncomputable abbrev SS:=List (Option SD)
noncomputable def SD.val : SD->D
  | .sh d=>d
  | .ow d=>d
  | .bo _ d=>d
noncomputable def z0q (δ : SS) : DS:=δ.map (Option.map SD.val)
noncomputable def shO : Option SD->Option D
  | some (.sh d)=>some d
  | _=>none
noncomputable def shV (δ : SS) : DS:=δ.map shO
structure RS (K : PySem.W.Frag) (H0 : Hp) (B0 : Addr->Prop) (H : Hp) (σ : St) (δ : SS) (R : Nat->List Addr) : Prop where
  keep : Same H0 H
  inB : InB B0 H0
  len : δ.length=σ.length
  new : ∀ r a,a∈R r->H0 a=none
  held : ∀ r a,a∈R r->∃ o,H a=some o∧Mut (some o)
  disj : ∀ r s a,a∈R r->a∈R s->r=s
  sh : ∀ (i : Nat) (d : D),δ[i]? = some (some (.sh d))->∃ v,σ[i]? = some (some v)∧Rep K H (fun a=>B0 a∨∃ r,a∈R r) d v
  bo : ∀ (i r : Nat) (d : D),δ[i]? = some (some (.bo r d))->∃ v,σ[i]? = some (some v)∧Rep K H (fun a=>B0 a∨∃ s,s≠r∧a∈R s) d v
  ow : ∀ (i : Nat) (d : D),δ[i]? = some (some (.ow d))->∃ v,σ[i]? = some (some v)∧Tree K H d v (R i)∧(R i).Nodup
structure Stp (R : Nat->List Addr) (H : Hp) (R' : Nat->List Addr) (H' : Hp) : Prop where
  keep : ∀ a o,H a=some o->(∀ r,a ∉ R r)->H' a=some o
  from' : ∀ r a,a∈R' r->(∃ s,a∈R s)∨H a=none
  there : ∀ a,H' a=none->H a=none
theorem Stp.refl (R : Nat->List Addr) (H : Hp) : Stp R H R H:=⟨fun _ _ h _=>h,fun r _ h=>.inl ⟨r,h⟩,fun _ h=>h⟩
theorem Stp.trans {R R1 R2 : Nat->List Addr} {H H1 H2 : Hp} (a : Stp R H R1 H1) (b : Stp R1 H1 R2 H2) : Stp R H R2 H2:=by
  refine ⟨fun x o h n=>b.keep x o (a.keep x o h n) fun r hr=>?_,fun r x h=>?_,fun x h=>a.there x (b.there x h)⟩
  · rcases a.from' r x hr with ⟨s,z⟩ | z
    · exact n s z
    · rw [h] at z; cases z
  · rcases b.from' r x h with ⟨s,z⟩ | z
    · exact a.from' s x z
    · exact .inr (a.there x z)
theorem Stp.same {R : Nat->List Addr} {H H' : Hp} (e : Same H H') : Stp R H R H':=⟨fun a o h _=>e a o h,fun r _ h=>.inl ⟨r,h⟩,fun _ h=>e.free h⟩
section
variable {K : PySem.W.Frag} {H0 H H' : Hp} {B0 : Addr->Prop} {σ : St} {δ : SS} {R : Nat->List Addr}
theorem z9e {i : Nat} {d : D} (h : (z0q δ)[i]? = some (some d)) : ∃ x,δ[i]? = some (some x)∧x.val=d:=by
  unfold z0q at h
  rw [List.getElem?_map] at h
  cases e : δ[i]? with
  | none=>rw [e] at h; cases h
  | some o=>
    rw [e] at h
    cases o with
    | none=>cases h
    | some x=>cases h; exact ⟨x,rfl,rfl⟩
theorem shV_get {i : Nat} {d : D} (h : (shV δ)[i]? = some (some d)) : δ[i]? = some (some (.sh d)):=by
  unfold shV at h
  rw [List.getElem?_map] at h
  cases e : δ[i]? with
  | none=>rw [e] at h; cases h
  | some o=>
    rw [e] at h
    have h' : shO o=some d:=Option.some.inj h
    unfold shO at h'
    split at h'
    · cases h'; rfl
    · cases h'
theorem RS.all (h : RS K H0 B0 H σ δ R) : RepS K H noB σ (z0q δ):=by
  refine ⟨by unfold z0q; rw [List.length_map]; exact h.len,fun i d e=>?_⟩
  obtain ⟨x,e',rfl⟩:=z9e e
  cases x with
  | sh d=>
    obtain ⟨v,e1,r⟩:=h.sh i d e'
    exact ⟨v,e1,r.anti fun _ z=>z.elim⟩
  | bo r d=>
    obtain ⟨v,e1,r⟩:=h.bo i r d e'
    exact ⟨v,e1,r.anti fun _ z=>z.elim⟩
  | ow d=>
    obtain ⟨v,e1,t,_⟩:=h.ow i d e'
    exact ⟨v,e1,t.rep d fun _ _ z=>z.elim⟩
theorem RS.shr (h : RS K H0 B0 H σ δ R) : RepS K H (fun a=>B0 a∨∃ r,a∈R r) σ (shV δ):=by
  refine ⟨by unfold shV; rw [List.length_map]; exact h.len,fun i d e=>h.sh i d (shV_get e)⟩
theorem RS.inAll (h : RS K H0 B0 H σ δ R) : InB (fun a=>B0 a∨∃ r,a∈R r) H:=fun a ha=>by
  rcases ha with z | ⟨r,z⟩
  · exact (h.inB.mono h.keep) a z
  · obtain ⟨o,e,_⟩:=h.held r a z
    exact ⟨o,e⟩
theorem RS.mono (h : RS K H0 B0 H σ δ R) (e : Same H H') : RS K H0 B0 H' σ δ R:=by
  refine ⟨h.keep.trans e,h.inB,h.len,h.new,fun r a z=>?_,h.disj,fun i d z=>?_,fun i r d z=>?_,fun i d z=>?_⟩
  · obtain ⟨o,e1,m⟩:=h.held r a z
    exact ⟨o,e a o e1,m⟩
  · obtain ⟨v,e1,r⟩:=h.sh i d z
    exact ⟨v,e1,r.mono e⟩
  · obtain ⟨v,e1,r⟩:=h.bo i r d z
    exact ⟨v,e1,r.mono e⟩
  · obtain ⟨v,e1,t,nd⟩:=h.ow i d z
    exact ⟨v,e1,t.mono e,nd⟩
theorem RS.setSh {i : Nat} {d : D} {v : V} (h : RS K H0 B0 H σ δ R) (r : Rep K H (fun a=>B0 a∨∃ r,a∈R r) d v) : RS K H0 B0 H (σ.set i (some v)) (δ.set i (some (.sh d))) R:=by
  have gs : ∀ {α : Type} {l : List (Option α)} {i j : Nat} {x : Option α} {y : α},(l.set i x)[j]? = some (some y)->(j=i∧x=some y)∨(j≠i∧l[j]? = some (some y)):=fun {α l i j x y} e=>by
    by_cases hj : j=i
    · subst hj
      rw [List.getElem?_set] at e
      simp only [if_true] at e
      split at e
      · exact .inl ⟨rfl,Option.some.inj e⟩
      · cases e
    · rw [List.getElem?_set_ne (Ne.symm hj)] at e
      exact .inr ⟨hj,e⟩
  have up : ∀ {j : Nat} {w : V},j≠i->σ[j]? = some (some w)->(σ.set i (some v))[j]? = some (some w):=fun hj e=>by rw [List.getElem?_set_ne (Ne.symm hj)]; exact e
  refine ⟨h.keep,h.inB,by simp [h.len],h.new,h.held,h.disj,fun j d' z=>?_,fun j r' d' z=>?_,fun j d' z=>?_⟩
  · rcases gs z with ⟨rfl,q⟩ | ⟨hj,q⟩
    · cases q
      have hl : j < σ.length:=by
        rw [← h.len]
        by_cases hl : j < δ.length
        · exact hl
        · rw [List.getElem?_eq_none (by simp; omega)] at z; cases z
      exact ⟨v,by rw [List.getElem?_set]; simp [hl],r⟩
    · obtain ⟨w,e1,r⟩:=h.sh j d' q
      exact ⟨w,up hj e1,r⟩
  · rcases gs z with ⟨rfl,q⟩ | ⟨hj,q⟩
    · cases q
    · obtain ⟨w,e1,r⟩:=h.bo j r' d' q
      exact ⟨w,up hj e1,r⟩
  · rcases gs z with ⟨rfl,q⟩ | ⟨hj,q⟩
    · cases q
    · obtain ⟨w,e1,t⟩:=h.ow j d' q
      exact ⟨w,up hj e1,t⟩
noncomputable def z4I (R : Nat->List Addr) (i : Nat) (A : List Addr) : Nat->List Addr:=fun r=>if r=i then A else R r
theorem z0A {i : Nat} {A : List Addr} : z4I R i A i=A:=if_pos rfl
theorem z0Q {i r : Nat} {A : List Addr} (h : r≠i) : z4I R i A r=R r:=if_neg h
theorem z1T {α : Type} {l : List (Option α)} {i j : Nat} {x : Option α} {y : α} (e : (l.set i x)[j]? = some (some y)) : (j=i∧x=some y∧i < l.length)∨(j≠i∧l[j]? = some (some y)):=by
  by_cases hj : j=i
  · subst hj
    rw [List.getElem?_set] at e
    simp only [if_true] at e
    split at e
    · rename_i hl
      exact .inl ⟨rfl,Option.some.inj e,hl⟩
    · cases e
  · rw [List.getElem?_set_ne (Ne.symm hj)] at e
    exact .inr ⟨hj,e⟩
theorem RS.setOw {Hold : Hp} {i : Nat} {d : D} {v : V} {A : List Addr} (h : RS K H0 B0 Hold σ δ R) (e : Same Hold H) (t : Tree K H d v A) (nd : A.Nodup) (fr : ∀ a∈A,Hold a=none) : RS K H0 B0 H (σ.set i (some v)) (δ.set i (some (.ow d))) (z4I R i A):=by
  have hm:=h.mono e
  have up : ∀ {j : Nat} {w : V},j≠i->σ[j]? = some (some w)->(σ.set i (some v))[j]? = some (some w):=fun hj e=>by rw [List.getElem?_set_ne (Ne.symm hj)]; exact e
  have hA : ∀ r a,a∈R r->a ∉ A:=fun r a z z'=>by
    obtain ⟨o,q,_⟩:=h.held r a z
    rw [fr a z'] at q; cases q
  have mem : ∀ r a,a∈z4I R i A r->(r=i∧a∈A)∨(r≠i∧a∈R r):=fun r a z=>by
    by_cases hr : r=i
    · subst hr; rw [z0A] at z; exact .inl ⟨rfl,z⟩
    · rw [z0Q hr] at z; exact .inr ⟨hr,z⟩
  refine ⟨hm.keep,h.inB,by simp [h.len],fun r a z=>?_,fun r a z=>?_,fun r s a z z'=>?_,fun j d' z=>?_,fun j r' d' z=>?_,fun j d' z=>?_⟩
  · rcases mem r a z with ⟨_,z⟩ | ⟨_,z⟩
    · exact h.keep.free (fr a z)
    · exact h.new r a z
  · rcases mem r a z with ⟨_,z⟩ | ⟨_,z⟩
    · exact t.held d a z
    · exact hm.held r a z
  · rcases mem r a z with ⟨h1,z⟩ | ⟨h1,z⟩ <;> rcases mem s a z' with ⟨h2,z'⟩ | ⟨h2,z'⟩
    · rw [h1,h2]
    · exact absurd z (hA s a z')
    · exact absurd z' (hA r a z)
    · exact h.disj r s a z z'
  · rcases z1T z with ⟨rfl,q,_⟩ | ⟨hj,q⟩
    · cases q
    · obtain ⟨w,e1,r⟩:=h.sh j d' q
      refine ⟨w,up hj e1,Rep.anti ?_ d' ((Rep.wide (C:=fun a=>a∈A) fr d' r).mono e)⟩
      rintro a (z | ⟨r,z⟩)
      · exact .inl (.inl z)
      · rcases mem r a z with ⟨_,z⟩ | ⟨_,z⟩
        · exact .inr z
        · exact .inl (.inr ⟨r,z⟩)
  · rcases z1T z with ⟨rfl,q,_⟩ | ⟨hj,q⟩
    · cases q
    · obtain ⟨w,e1,r⟩:=h.bo j r' d' q
      refine ⟨w,up hj e1,Rep.anti ?_ d' ((Rep.wide (C:=fun a=>a∈A) fr d' r).mono e)⟩
      rintro a (z | ⟨s,hs,z⟩)
      · exact .inl (.inl z)
      · rcases mem s a z with ⟨_,z⟩ | ⟨_,z⟩
        · exact .inr z
        · exact .inl (.inr ⟨s,hs,z⟩)
  · rcases z1T z with ⟨rfl,q,hl⟩ | ⟨hj,q⟩
    · cases q
      rw [z0A]
      exact ⟨v,by rw [List.getElem?_set]; simp [← h.len,hl],t,nd⟩
    · obtain ⟨w,e1,t'⟩:=hm.ow j d' q
      rw [z0Q hj]
      exact ⟨w,up hj e1,t'⟩
noncomputable def frzS (i : Nat) (δ : SS) : SS:=match δ[i]? with
  | some (some (.ow d))=>δ.set i (some (.sh d))
  | _=>δ
end
inductive Out where
  | nx (δ : SS) | bk (δ : SS) | ct (δ : SS) | rt (d : D) | rb (d : D) (δ : SS) | ex (c : Nat) (δ : SS)
noncomputable abbrev XR:=Nat->St->Hp->Prop
noncomputable abbrev noX : XR:=fun _ _ _=>False
noncomputable def Ret (K : PySem.W.Frag) (H0 : Hp) (B0 : Addr->Prop) (fr : Bool) (H : Hp) (d : D) (v : V) : Prop:=
  Same H0 H∧(fr=true->∃ A,Tree K H d v A∧A.Nodup∧∀ a∈A,H0 a=none)∧(fr=false->Rep K H B0 d v)
noncomputable def Aft (K : PySem.W.Frag) (H0 : Hp) (B0 : Addr->Prop) (fr : Bool) (RX : XR) (R : Nat->List Addr) (H : Hp) (D : Ends) : Out->Prop
  | .nx δ'=>∀ σ' H' R',RS K H0 B0 H' σ' δ' R'->Stp R H R' H'->D.nx σ' H'
  | .bk δ'=>∀ σ' H' R',RS K H0 B0 H' σ' δ' R'->Stp R H R' H'->D.bk σ' H'
  | .ct δ'=>∀ σ' H' R',RS K H0 B0 H' σ' δ' R'->Stp R H R' H'->D.ct σ' H'
  | .rt d=>∀ v H',Ret K H0 B0 fr H' d v->(∀ a,H' a=none->H a=none)->D.rt v H'
  | .rb d δ'=>∀ v σ' H' R' A2,RS K H0 B0 H' σ' δ' R'->Stp R H R' H'->Tree K H' d v A2->A2.Nodup->(∀ a∈A2,H0 a=none∧∀ r,a ∉ R' r)->D.rt v H'
  | .ex c δ'=>∀ σ' H' R',RS K H0 B0 H' σ' δ' R'->Stp R H R' H'->RX c σ' H'
noncomputable def tS (K : PySem.W.Frag) (H0 : Hp) (B0 : Addr->Prop) (fr : Bool) (RX : XR) (g : SS->Option Out) : TS:=fun D σ H=>∃ δ R o,RS K H0 B0 H σ δ R∧g δ=some o∧Aft K H0 B0 fr RX R H D o
theorem Aft.back {K : PySem.W.Frag} {H0 : Hp} {B0 : Addr->Prop} {fr : Bool} {RX : XR} {R R1 : Nat->List Addr} {H H1 : Hp} {D : Ends} {o : Out} (h : Aft K H0 B0 fr RX R H D o) (s : Stp R H R1 H1) : Aft K H0 B0 fr RX R1 H1 D o:=by
  cases o with
  | nx δ'=>exact fun σ' H' R' r t=>h σ' H' R' r (s.trans t)
  | bk δ'=>exact fun σ' H' R' r t=>h σ' H' R' r (s.trans t)
  | ct δ'=>exact fun σ' H' R' r t=>h σ' H' R' r (s.trans t)
  | rt d=>exact fun v H' r t=>h v H' r fun a z=>s.there a (t a z)
  | rb d δ'=>exact fun v σ' H' R' A2 r t=>h v σ' H' R' A2 r (s.trans t)
  | ex c δ'=>exact fun σ' H' R' r t=>h σ' H' R' r (s.trans t)
theorem PS.imp {X : Cx} {st : Stmt} {t t' : TS} (h : PS X st t) (w : ∀ D σ H,t' D σ H->t D σ H) : PS X st t':=fun pins s σ H D I q=>h pins s σ H D I (w D σ H q)
theorem PSs.imp {X : Cx} {st : List Stmt} {t t' : TS} (h : PSs X st t) (w : ∀ D σ H,t' D σ H->t D σ H) : PSs X st t':=fun pins s σ H D I q=>h pins s σ H D I (w D σ H q)
section
variable {X : Cx} {H0 : Hp} {B0 : Addr->Prop} {fr : Bool} {RX : XR} {st : Stmt} {sts : List Stmt} {e : Expr} {pos : Pos}
noncomputable def z1c (g h : SS->Option Out) : SS->Option Out:=fun δ=>(g δ).bind fun o=>match o with
  | .nx δ'=>h δ'
  | o=>some o
noncomputable def z1A : SS->Option Out:=fun δ=>some (.nx δ)
theorem z1o : PSs X [] (tS X.K H0 B0 fr RX z1A):=pss_nil.imp fun D σ H z_=>by
  obtain ⟨δ,R,o,rs,q,k⟩:=z_
  cases q
  exact k σ H R rs (.refl R H)
theorem z0e {g h : SS->Option Out} (h1 : PS X st (tS X.K H0 B0 fr RX g)) (h2 : PSs X sts (tS X.K H0 B0 fr RX h)) : PSs X (st :: sts) (tS X.K H0 B0 fr RX (z1c g h)):=(z3k h1 h2).imp fun D σ H z_=>by
  obtain ⟨δ,R,o,rs,q,k⟩:=z_
  unfold z1c at q
  cases e : g δ with
  | none=>rw [e] at q; cases q
  | some o1=>
    rw [e] at q
    refine ⟨δ,R,o1,rs,e,?_⟩
    cases o1 with
    | nx δ'=>
      have q' : h δ'=some o:=q
      exact fun σ' H' R' rs' s'=>⟨δ',R',o,rs',q',k.back s'⟩
    | bk δ'=>cases q; exact k
    | ct δ'=>cases q; exact k
    | rt d=>cases q; exact k
    | rb d δ'=>cases q; exact k
    | ex c δ'=>cases q; exact k
theorem z0m {g : SS->Option Out} (h1 : PS X st (tS X.K H0 B0 fr RX g)) : PSs X [st] (tS X.K H0 B0 fr RX g):=z8a h1
noncomputable abbrev PAsg (X : Cx) (st : Stmt) (i : Nat) (te : TE) : Prop:=PS X st (tAsg te (z8g i))
theorem z1B {i : Nat} {x : Str} {te : TE} {pos' : Pos} (hN : X.N.Nodup) (hi : X.N[i]? = some x) (hx : Loc X.env.scope x) (he : PE X e te) (hs : swapsWith e (some (.Name x pos')) pos.line X.env=pure false:=by rfl) (hf : X.fn x=true∨X.env.scope.names.lookup x=some .local:=by first | exact .inl rfl | exact .inr rfl | assumption) :
    PAsg X (.Assign [.Name x pos'] e pos) i te:=y3U hN hi hx he hs hf
noncomputable def z6t (i : Nat) (f : DE) : SS->Option Out:=fun δ=>(f (z0q δ)).bind fun d=>if d.imm=true then some (.nx (δ.set i (some (.sh d)))) else none
noncomputable def z6H (i : Nat) (f : DE) : SS->Option Out:=fun δ=>(f (z0q δ)).map fun d=>.nx (δ.set i (some (.ow d)))
theorem z2u {i : Nat} {f : DE} (h : PAsg X st i (tD X.K f)) : PS X st (tS X.K H0 B0 fr RX (z6t i f)):=PS.imp h fun D σ H z_=>by
  obtain ⟨δ,R,o,rs,q,k⟩:=z_
  unfold z6t at q
  cases e : f (z0q δ) with
  | none=>rw [e] at q; cases q
  | some d=>
    rw [e] at q
    have q' : (if d.imm=true then some (Out.nx (δ.set i (some (.sh d)))) else none)=some o:=q
    split at q'
    · rename_i hi
      cases q'
      exact ⟨noB,z0q δ,d,.no,rs.all,e,fun v H' s r=>k _ H' R ((rs.mono s).setSh (r.imm d hi)) (.same s)⟩
    · cases q'
theorem z2R {i : Nat} {f : DE} (h : PAsg X st i (tN X.K f)) : PS X st (tS X.K H0 B0 fr RX (z6H i f)):=PS.imp h fun D σ H z_=>by
  obtain ⟨δ,R,o,rs,q,k⟩:=z_
  unfold z6H at q
  cases e : f (z0q δ) with
  | none=>rw [e] at q; cases q
  | some d=>
    rw [e] at q
    cases q
    refine ⟨z0q δ,d,rs.all,e,fun v H' A s t nd fr'=>k _ H' (z4I R i A) (rs.setOw s t nd fr') ⟨fun a o h _=>s a o h,fun r a z=>?_,fun a z=>s.free z⟩⟩
    by_cases hr : r=i
    · subst hr; rw [z0A] at z; exact .inr (fr' a z)
    · rw [z0Q hr] at z; exact .inl ⟨r,z⟩
noncomputable def z4H (f : DE) : SS->Option Out:=fun δ=>(f (z0q δ)).bind fun d=>if d.imm=true then some (.rt d) else none
noncomputable def z9U (f : DE) : SS->Option Out:=fun δ=>(f (z0q δ)).map .rt
theorem z2d {f : DE} (h : PD X e f) : PS X (.Return (some e) pos) (tS X.K H0 B0 fr RX (z4H f)):=PS.imp (y1b h) fun D σ H z_=>by
  obtain ⟨δ,R,o,rs,q,k⟩:=z_
  unfold z4H at q
  cases e : f (z0q δ) with
  | none=>rw [e] at q; cases q
  | some d=>
    rw [e] at q
    have q' : (if d.imm=true then some (Out.rt d) else none)=some o:=q
    split at q'
    · rename_i hi
      cases q'
      exact ⟨noB,z0q δ,d,.no,rs.all,e,fun v H' s r=>k v H' ⟨rs.keep.trans s,fun _=>⟨[],r.immTree d hi,List.nodup_nil,(fun a z=>nomatch z)⟩,fun _=>r.imm d hi⟩ fun a z=>s.free z⟩
    · cases q'
theorem z4r {f : DE} (h : PN X e f) : PS X (.Return (some e) pos) (tS X.K H0 B0 fr RX (z9U f)):=PS.imp (y1b h) fun D σ H z_=>by
  obtain ⟨δ,R,o,rs,q,k⟩:=z_
  unfold z9U at q
  cases e : f (z0q δ) with
  | none=>rw [e] at q; cases q
  | some d=>
    rw [e] at q
    cases q
    exact ⟨z0q δ,d,rs.all,e,fun v H' A s t nd fr'=>k v H' ⟨rs.keep.trans s,fun _=>⟨A,t,nd,fun a z=>rs.keep.free (fr' a z)⟩,fun _=>t.rep d fun a z=>rs.inB.fresh (rs.keep.free (fr' a z))⟩ fun a z=>s.free z⟩
noncomputable def ifO (c : DS->Option Bool) (g h : SS->Option Out) : SS->Option Out:=fun δ=>(c (z0q δ)).bind fun b=>if b=true then g δ else h δ
theorem z5R {c : Expr} {a b : List Stmt} {f : DS->Option Bool} {g h : SS->Option Out} (hc : PTD X c f) (ha : PSs X a (tS X.K H0 B0 fr RX g)) (hb : PSs X b (tS X.K H0 B0 fr RX h)) : PS X (.If c a b pos) (tS X.K H0 B0 fr RX (ifO f g h)):=PS.imp (ps_if hc ha hb) fun D σ H z_=>by
  obtain ⟨δ,R,o,rs,q,k⟩:=z_
  unfold ifO at q
  cases e : f (z0q δ) with
  | none=>rw [e] at q; cases q
  | some b=>
    rw [e] at q
    have q' : (if b=true then g δ else h δ)=some o:=q
    refine ⟨noB,z0q δ,b,.no,rs.all,e,fun H' s=>?_⟩
    cases b with
    | true=>
      rw [if_pos rfl] at q'
      refine iteT ?_
      exact ⟨δ,R,o,rs.mono s,q',k.back (.same s)⟩
    | false=>
      rw [if_neg Bool.false_ne_true] at q'
      refine iteF ?_
      exact ⟨δ,R,o,rs.mono s,q',k.back (.same s)⟩
noncomputable def z3T (i : Nat) (b : SS->Option Out) : List D->SS->Option Out
  | [],δ=>some (.nx δ)
  | x :: r,δ=>(b (δ.set i (some (.sh x)))).bind fun o=>match o with
    | .nx δ'=>z3T i b r δ'
    | .ct δ'=>z3T i b r δ'
    | .bk δ'=>some (.nx δ')
    | .rt d=>some (.rt d)
    | .rb d δ'=>some (.rb d δ')
    | .ex c δ'=>some (.ex c δ')
noncomputable def forO (i : Nat) (f : DS->Option (List D)) (b : SS->Option Out) : SS->Option Out:=fun δ=>(f (shV δ)).bind fun ds=>z3T i b ds δ
theorem Stp.keepB {K : PySem.W.Frag} {R R' : Nat->List Addr} {H H' : Hp} {B : Addr->Prop} (s : Stp R H R' H') (hR : ∀ r a,a∈R r->B a) (hm : ∀ r a,a∈R r->∃ o,H a=some o∧Mut (some o)) : Keep K B H H':=by
  have kp : ∀ a o,H a=some o->¬ Mut (some o)->H' a=some o:=fun a o e n=>s.keep a o e fun r z=>by
    obtain ⟨o',e',m⟩:=hm r a z
    rw [e] at e'; cases e'
    exact n m
  refine ⟨fun a xs n h=>s.keep a _ h fun r z=>n (hR r a z),fun a xs h=>?_,fun a xs h=>?_,fun a kvs n h=>s.keep a _ h fun r z=>n (hR r a z),fun a φ n h=>s.keep a _ h fun r z=>n (hR r a z),fun a _ _ _ n h=>s.keep a _ h fun r z=>n (hR r a z)⟩
  · rcases h with (h | ⟨o,h⟩) | h
    · exact .inl (.inl (kp a _ h fun z=>z))
    · exact .inl (.inr ⟨o,kp a _ h fun z=>z⟩)
    · exact .inr h
  · rcases h with ⟨o,h⟩ | h
    · exact .inl ⟨o,kp a _ h fun z=>z⟩
    · exact .inr h
theorem s_for {i : Nat} {x : Str} {px : Pos} {iter : Expr} {body : List Stmt} {f : DS->Option (List D)} {g : SS->Option Out} (hp : PassesOwn (model X.prog X.w) X.A X.env X.xe) (hc : X.calm=true) (hi : PID X (.Name x px) iter f) (hg : PG X (.Name x px) (z8g i)) (hb : PSs X body (tS X.K H0 B0 fr RX g))
    (hs : ∀ x,foldedSetIterable iter X.env x=pure x:=by intro _; rfl) : PS X (.For (.Name x px) iter body [] pos) (tS X.K H0 B0 fr RX (forO i f g)):=PS.imp (y4j hp hc hi hg hb hs) fun D σ H z_=>by
  obtain ⟨δ,R,o,rs,q,k⟩:=z_
  unfold forO at q
  cases e : f (shV δ) with
  | none=>rw [e] at q; cases q
  | some ds=>
  rw [e] at q
  have q : z3T i g ds δ=some o:=q
  refine ⟨_,shV δ,ds,rs.inAll,rs.shr,e,fun J H1 s1 itw=>?_⟩
  have rs1:=rs.mono s1
  have it:=itw (fun a=>H1 a=none) fun a z=>z
  refine ⟨fun n m σ' H'=>m=ds.length - n∧n≤ds.length∧∃ δ' R',RS X.K H0 B0 H' σ' δ' R'∧Stp R H1 R' H'∧z3T i g (ds.drop n) δ'=some o,⟨ds.length,by simp,Nat.zero_le _,δ,R,rs1,.refl R H1,q⟩,?_⟩
  rintro n m σ' H' ⟨rfl,hn,δ',R',rs',s',q'⟩
  have kp : Keep X.K (fun a=>(B0 a∨∃ r,a∈R r)∨H1 a=none) H1 H':=s'.keepB (fun r a z=>.inl (.inr ⟨r,z⟩)) rs1.held
  by_cases hlt : n < ds.length
  · have hx : ds.drop n=ds[n] :: ds.drop (n + 1):=List.drop_eq_getElem_cons hlt
    rw [hx] at q'
    unfold z3T at q'
    cases eb : g (δ'.set i (some (.sh ds[n]))) with
    | none=>rw [eb] at q'; cases q'
    | some ob=>
      rw [eb] at q'
      refine .inr ⟨it.go n H' kp hlt,fun σ2 H2=>n + 1≤ds.length∧∃ δ2 R2,RS X.K H0 B0 H2 σ2 δ2 R2∧Stp R H1 R2 H2∧z3T i g (ds.drop (n + 1)) δ2=some o,fun σ2 H2 z=>⟨ds.length - (n + 1),by omega,rfl,z⟩,fun xv H2 hy=>?_⟩
      obtain ⟨s2,d,hd,rd⟩:=it.yld n H' xv H2 kp hy
      have hdi : d=ds[n]:=by
        have:=hd hlt
        rw [List.getElem?_eq_getElem hlt] at this
        exact (Option.some.inj this).symm
      subst hdi
      have rd' : Rep X.K H2 (fun a=>B0 a∨∃ r,a∈R' r) ds[n] xv:=rd.anti fun a z=>by
        rcases z with z | ⟨r,z⟩
        · exact .inl (.inl z)
        · rcases s'.from' r a z with z | z
          · exact .inl (.inr z)
          · exact .inr z
      have rs2:=(rs'.mono s2).setSh (i:=i) rd'
      have st2 : Stp R H1 R' H2:=s'.trans (.same s2)
      refine ⟨_,R',ob,rs2,eb,?_⟩
      cases ob with
      | nx δ2=>
        have q2 : z3T i g (ds.drop (n + 1)) δ2=some o:=q'
        exact fun σ3 H3 R3 rs3 s3=>⟨hlt,δ2,R3,rs3,st2.trans s3,q2⟩
      | ct δ2=>
        have q2 : z3T i g (ds.drop (n + 1)) δ2=some o:=q'
        exact fun σ3 H3 R3 rs3 s3=>⟨hlt,δ2,R3,rs3,st2.trans s3,q2⟩
      | bk δ2=>
        cases q'
        exact fun σ3 H3 R3 rs3 s3=>k σ3 H3 R3 rs3 ((Stp.same s1).trans (st2.trans s3))
      | rt d=>
        cases q'
        exact k.back ((Stp.same s1).trans st2)
      | rb d δ2=>
        cases q'
        exact k.back ((Stp.same s1).trans st2)
      | ex c δ2=>
        cases q'
        exact k.back ((Stp.same s1).trans st2)
  · have en : n=ds.length:=by omega
    subst en
    rw [List.drop_length] at q'
    cases q'
    exact .inl ⟨it.stop _ H' kp (Nat.le_refl _),k σ' H' R' rs' ((Stp.same s1).trans s')⟩
end
noncomputable def z5D (np nl : Nat) (g : SS->Option Out) : List D->Option D:=fun ds=>if ds.length=np then (match g (ds.map (fun d=>some (.sh d)) ++ List.replicate nl none) with
  | some (.rt d)=>some d
  | some (.nx _)=>some .non
  | _=>none) else none
theorem z8x {np nl : Nat} {g : SS->Option Out} {ds : List D} {d : D} (h : z5D np nl g ds=some d) : ds.length=np:=by
  unfold z5D at h
  split at h
  · assumption
  · cases h
theorem z8Y {K : PySem.W.Frag} {H : Hp} {B : Addr->Prop} {ds : List D} {vs : List V} {N : List Str} {nl : Nat} (hB : InB B H) (r : Reps K H B ds vs) (hN : N.length=ds.length + nl) :
    RS K H B H (z2h N vs) (ds.map (fun d=>some (.sh d)) ++ List.replicate nl none) (fun _=>[]):=by
  have hl:=r.length
  have get : ∀ {i : Nat} {x : SD},(ds.map (fun d=>some (SD.sh d)) ++ List.replicate nl none)[i]? = some (some x)->∃ d,ds[i]? = some d∧x = .sh d:=fun {i x} e=>by
    by_cases hi : i < ds.length
    · rw [List.getElem?_append_left (by simpa using hi),List.getElem?_map,List.getElem?_eq_getElem hi] at e
      cases e
      exact ⟨ds[i],List.getElem?_eq_getElem hi,rfl⟩
    · rw [List.getElem?_append_right (by simpa using hi),List.getElem?_replicate] at e
      split at e <;> cases e
  refine ⟨.refl H,hB,?_,(fun _ _ z=>nomatch z),(fun _ _ z=>nomatch z),(fun _ _ _ z=>nomatch z),fun i d e=>?_,fun i r d e=>?_,fun i d e=>?_⟩
  · unfold z2h
    simp
    omega
  · obtain ⟨d',e1,e2⟩:=get e
    cases e2
    obtain ⟨v,e3,rv⟩:=r.get e1
    refine ⟨v,?_,rv.anti fun a z=>z.elim id (fun ⟨_,z⟩=>nomatch z)⟩
    unfold z2h
    have hi : i < vs.length:=(List.getElem?_eq_some_iff.mp e3).1
    rw [List.getElem?_append_left (by simpa using hi),List.getElem?_map,e3]
    rfl
  · obtain ⟨d',_,e2⟩:=get e
    cases e2
  · obtain ⟨d',_,e2⟩:=get e
    cases e2
section
variable {P : Program} {w : World} {K : PySem.W.Frag} {mg : Str->Option Value} {base : Heap}
theorem fnN {x qual : Str} {st : Stmt} {f : Addr} {fd : FuncData} {N ps : List Str} {k np nl : Nat} {g : SS->Option Out} (F : Fun K x qual st f fd) (S : FnScope N ps (z0a st)) (hnp : ps.length=np) (hN : N.length=np + nl)
    (hbody : ∀ (cdv : Value) (A : Around) (outer : List Env) (s : Shared) (H : Hp) (E : XK),Room k (A.deeper (envOfC qual (z0a st) s.heap.objs.size f cdv)) →
      PSs (z6I CX0 P w K mg base N qual (z0a st) f cdv A outer s H E).nox (z0o st) (tS K H noB true noX g)) : FnOk P w K mg base CX0 (k + 1) f fd ps (spN K (z5D np nl g)):=by
  refine F.ok S (fun vs H Q E h=>?_) fun cdv A outer s H vs Q E hr h=>?_
  · obtain ⟨ds,d,r,e,_⟩:=h
    rw [← r.length,z8x e,hnp]
  · obtain ⟨ds,d,r,e,kk⟩:=h
    refine ⟨_,hbody cdv A outer s H E hr,?_⟩
    have hl:=z8x e
    unfold z5D at e
    rw [if_pos hl] at e
    have rs:=z8Y (nl:=nl) .no r (N:=N) (by omega)
    split at e
    · rename_i d' eg
      cases e
      exact ⟨_,_,_,rs,eg,fun v H' z _=>by
        obtain ⟨A',t,nd,fr⟩:=z.2.1 rfl
        exact kk v H' A' z.1 t nd fr⟩
    · rename_i δ' eg
      cases e
      exact ⟨_,_,_,rs,eg,fun σ' H' R' rs' _=>kk .non H' [] rs'.keep ⟨rfl,rfl⟩ List.nodup_nil (fun a z=>nomatch z)⟩
    · cases e
theorem defN {x qual : Str} {st : Stmt} {f : Addr} {fd : FuncData} {N ps : List Str} {k np nl : Nat} {g : SS->Option Out} (F : Fun K x qual st f fd) (hm : mg x=some (.ref f)) (hb : Binds K fd ps []) (S : FnScope N ps (z0a st)) (hnp : ps.length=np) (hN : N.length=np + nl)
    (hbody : ∀ (cdv : Value) (A : Around) (outer : List Env) (s : Shared) (H : Hp) (E : XK),Room k (A.deeper (envOfC qual (z0a st) s.heap.objs.size f cdv)) →
      PSs (z6I CX0 P w K mg base N qual (z0a st) f cdv A outer s H E).nox (z0o st) (tS K H noB true noX g)) : DefOk P w K mg base (k + 1) x (spN K (z5D np nl g)):=
  ⟨f,fd,ps,hm,F.kp,hb,fnN F S hnp hN hbody⟩
end
end L2
namespace L2
open PySem PySem.Spec PyProof.Rows PySem.SeqAt
mutual
def toP : D->PyData
  | .non=>.none
  | .bl b=>.bool b
  | .int i=>.int i
  | .str x=>.str x
  | .lst ds=>.list (z8d ds)
  | .tup ds=>.tuple (z8d ds)
  | .scr ns=>.list (ns.map .int)
  | .dct _ _=>.dict []
  | .exc _=>.dict []
  | .obj _ _ _ _=>.dict []
  | .cel _ _=>.dict []
def z8d : List D->List PyData
  | []=>[]
  | d :: ds=>toP d :: z8d ds
end
theorem z5L {h : Heap} : ∀ (ns : List Int) {us : List Value},Vals (ns.map V.int) us->∃ as,ReadsAll h us (ns.map .int) as
  | [],_,.nil=>⟨_,.nil⟩
  | n :: ns,_,.cons r t=>by
    obtain ⟨tk,rfl⟩:=r
    obtain ⟨as,ra⟩:=z5L (h:=h) ns t
    exact ⟨_,.cons (.int n tk) ra⟩
section
variable {X : Cx} {pins : List (Addr × Obj)} {σ : St} {H : Hp} {s : Shared} {B : Addr->Prop}
mutual
theorem z0K (I : Inv X pins σ H s) : ∀ (d : D) {v : V} {u : Value},(toP d).canLay0=true->Rep X.K H B d v->RelV v u->∃ as,Reads s.heap u (toP d) as
  | .non,_,_,_,h,r=>by cases h; cases r; exact ⟨_,.none⟩
  | .bl b,_,_,_,h,r=>by cases h; cases r; exact ⟨_,.bool b⟩
  | .int i,_,_,_,h,r=>by cases h; obtain ⟨t,rfl⟩:=r; exact ⟨_,.int i t⟩
  | .str x,_,_,_,h,r=>by cases h; obtain ⟨t,rfl⟩:=r; exact ⟨_,.str x t⟩
  | .lst ds,_,_,hc,h,r=>by
    unfold Rep at h
    obtain ⟨a,xs,rfl,_,hq,rs⟩:=h
    cases r
    obtain ⟨its,rv,⟨o,n,e,c,_,dt⟩,_⟩:=I.list (SqL.of hq)
    have hc' : PyData.canLayAll0 (z8d ds)=true:=by unfold toP PyData.canLay0 at hc; exact hc
    obtain ⟨as,ra⟩:=z4d I ds hc' rs rv
    unfold toP
    exact ⟨_,.list e c dt (by simpa using ra)⟩
  | .tup ds,_,_,hc,h,r=>by
    unfold Rep at h
    obtain ⟨a,xs,rfl,hq,rs⟩:=h
    cases r
    obtain ⟨its,rv,⟨o,e,c,n,dt⟩,_⟩:=I.tuple hq
    have hc' : PyData.canLayAll0 (z8d ds)=true:=by unfold toP PyData.canLay0 at hc; exact hc
    obtain ⟨as,ra⟩:=z4d I ds hc' rs rv
    unfold toP
    exact ⟨_,.tuple e c dt (by simpa using ra)⟩
  | .scr ns,_,_,hc,h,r=>by
    unfold Rep at h
    obtain ⟨a,rfl,hq⟩:=h
    cases r
    obtain ⟨its,rv,⟨o,n,e,c,_,dt⟩,_⟩:=I.list hq.sq
    unfold toP
    obtain ⟨as,ra⟩:=z5L (h:=s.heap) ns rv
    exact ⟨_,.list e c dt (by simpa using ra)⟩
  | .dct _ _,_,_,hc,_,_=>by unfold toP PyData.canLay0 at hc; cases hc
  | .exc _,_,_,hc,_,_=>by unfold toP PyData.canLay0 at hc; cases hc
  | .obj _ _ _ _,_,_,hc,_,_=>by unfold toP PyData.canLay0 at hc; cases hc
  | .cel _ _,_,_,hc,_,_=>by unfold toP PyData.canLay0 at hc; cases hc
theorem z4d (I : Inv X pins σ H s) : ∀ (ds : List D) {xs : List V} {us : List Value},PyData.canLayAll0 (z8d ds)=true->Reps X.K H B ds xs->Vals xs us->∃ as,ReadsAll s.heap us (z8d ds) as
  | [],_,_,_,h,r=>by
    unfold Reps at h
    subst h
    cases r
    exact ⟨_,.nil⟩
  | d :: ds,_,_,hc,h,r=>by
    unfold Reps at h
    obtain ⟨x,rr,rfl,h1,h2⟩:=h
    unfold z8d PyData.canLayAll0 at hc
    rw [Bool.and_eq_true] at hc
    cases r with
    | cons r1 r2=>
      obtain ⟨as,ra⟩:=z0K I d hc.1 h1 r1
      obtain ⟨bs,rb⟩:=z4d I ds hc.2 h2 r2
      unfold z8d
      exact ⟨_,.cons ra rb⟩
end
end
noncomputable def okP (d : D) : Bool:=(toP d).canLay0 && decide ((toP d).depth≤60)
noncomputable def eqD (x y : D) : Option D:=if (okP x && okP y)=true then some (.bl (PyData.eqv (toP x) (toP y))) else none
noncomputable def neD (x y : D) : Option D:=if (okP x && okP y)=true then some (.bl (!PyData.eqv (toP x) (toP y))) else none
noncomputable def y2W (x : D) : D->Option Bool
  | .lst ds=>if (okP x && okP (.lst ds))=true then some (ds.any fun y=>PyData.eqv (toP y) (toP x)) else none
  | .tup ds=>if (okP x && okP (.tup ds))=true then some (ds.any fun y=>PyData.eqv (toP y) (toP x)) else none
  | _=>none
noncomputable def inD (x y : D) : Option D:=(y2W x y).map .bl
noncomputable def ninD (x y : D) : Option D:=(y2W x y).map fun b=>.bl (!b)
noncomputable def rEqD (K : PySem.W.Frag) : R2:=fun x y H Q=>∃ B dx dy,Rep K H B dx x∧Rep K H B dy y∧okP dx=true∧okP dy=true∧Q (.bl (PyData.eqv (toP dx) (toP dy))) H
noncomputable def rNeD (K : PySem.W.Frag) : R2:=fun x y H Q=>∃ B dx dy,Rep K H B dx x∧Rep K H B dy y∧okP dx=true∧okP dy=true∧Q (.bl (!PyData.eqv (toP dx) (toP dy))) H
theorem z0s {d : D} (h : okP d=true) : (toP d).canLay0=true∧(toP d).depth≤60:=by
  unfold okP at h
  rw [Bool.and_eq_true,decide_eq_true_eq] at h
  exact h
section
variable {X : Cx}
theorem y3W (hu : X.A.units + 64 < cLine) : OpR X (compareOp .Eq) (rEqD X.K):=by
  intro pins s σ H x y v u Q I rx ry h
  obtain ⟨B,dx,dy,r1,r2,o1,o2,q⟩:=h
  obtain ⟨as,ra⟩:=z0K I dx (z0s o1).1 r1 rx
  obtain ⟨bs,rb⟩:=z0K I dy (z0s o2).1 r2 ry
  exact compareEq_reads ra rb (z0s o1).1 (z0s o2).1 (by have:=(z0s o1).2; omega) ⟨.bl _,H,I,rfl,q⟩
theorem y3Q (hu : X.A.units + 64 < cLine) : OpR X (compareOp .NotEq) (rNeD X.K):=by
  intro pins s σ H x y v u Q I rx ry h
  obtain ⟨B,dx,dy,r1,r2,o1,o2,q⟩:=h
  obtain ⟨as,ra⟩:=z0K I dx (z0s o1).1 r1 rx
  obtain ⟨bs,rb⟩:=z0K I dy (z0s o2).1 r2 ry
  exact compareNe_reads ra rb (z0s o1).1 (z0s o2).1 (by have:=(z0s o1).2; omega) ⟨.bl _,H,I,rfl,q⟩
theorem o2_eq {K : PySem.W.Frag} : Op2 K (rEqD K) eqD:=by
  intro H B dx dy d x y Q hB hx hy q k
  unfold eqD at q
  split at q
  · rename_i h
    rw [Bool.and_eq_true] at h
    cases q
    exact ⟨B,dx,dy,hx,hy,h.1,h.2,k _ H (.refl H) rfl⟩
  · cases q
theorem o2_ne {K : PySem.W.Frag} : Op2 K (rNeD K) neD:=by
  intro H B dx dy d x y Q hB hx hy q k
  unfold neD at q
  split at q
  · rename_i h
    rw [Bool.and_eq_true] at h
    cases q
    exact ⟨B,dx,dy,hx,hy,h.1,h.2,k _ H (.refl H) rfl⟩
  · cases q
theorem z3O (p : PyData->Bool) : ∀ ds : List D,(z8d ds).any p=ds.any fun y=>p (toP y)
  | []=>rfl
  | d :: ds=>by unfold z8d; rw [List.any_cons,List.any_cons,z3O p ds]
noncomputable def rInD (K : PySem.W.Frag) (neg : Bool) : R2:=fun x y H Q=>∃ B dx dy b,Rep K H B dx x∧Rep K H B dy y∧y2W dx dy=some b∧Q (.bl (if neg then !b else b)) H
theorem op_inD (hu : X.A.units + 64 < cLine) : OpR X (compareOp .In) (rInD X.K false):=by
  intro pins s σ H x y v u Q I rx ry h
  obtain ⟨B,dx,dy,b,r1,r2,o,q⟩:=h
  unfold y2W at o
  split at o
  · split at o
    · rename_i ds h
      rw [Bool.and_eq_true] at h
      cases o
      obtain ⟨as,ra⟩:=z0K I dx (z0s h.1).1 r1 rx
      obtain ⟨bs,rb⟩:=z0K I _ (z0s h.2).1 r2 ry
      have hc:=(z0s h.2).1
      unfold toP at rb hc
      unfold PyData.canLay0 at hc
      refine in_list_reads rb ra hc (z0s h.1).1 (by have:=(z0s h.1).2; omega) ?_
      rw [z3O]
      exact ⟨.bl _,H,I,rfl,q⟩
    · cases o
  · split at o
    · rename_i ds h
      rw [Bool.and_eq_true] at h
      cases o
      obtain ⟨as,ra⟩:=z0K I dx (z0s h.1).1 r1 rx
      obtain ⟨bs,rb⟩:=z0K I _ (z0s h.2).1 r2 ry
      have hc:=(z0s h.2).1
      unfold toP at rb hc
      unfold PyData.canLay0 at hc
      refine in_tuple_reads rb ra hc (z0s h.1).1 (by have:=(z0s h.1).2; omega) ?_
      rw [z3O]
      exact ⟨.bl _,H,I,rfl,q⟩
    · cases o
  · cases o
theorem op_ninD (hu : X.A.units + 64 < cLine) : OpR X (compareOp .NotIn) (rInD X.K true):=by
  intro pins s σ H x y v u Q I rx ry h
  obtain ⟨B,dx,dy,b,r1,r2,o,q⟩:=h
  unfold y2W at o
  split at o
  · split at o
    · rename_i ds h
      rw [Bool.and_eq_true] at h
      cases o
      obtain ⟨as,ra⟩:=z0K I dx (z0s h.1).1 r1 rx
      obtain ⟨bs,rb⟩:=z0K I _ (z0s h.2).1 r2 ry
      have hc:=(z0s h.2).1
      unfold toP at rb hc
      unfold PyData.canLay0 at hc
      refine notIn_list_reads rb ra hc (z0s h.1).1 (by have:=(z0s h.1).2; omega) ?_
      rw [z3O]
      exact ⟨.bl _,H,I,rfl,q⟩
    · cases o
  · split at o
    · rename_i ds h
      rw [Bool.and_eq_true] at h
      cases o
      obtain ⟨as,ra⟩:=z0K I dx (z0s h.1).1 r1 rx
      obtain ⟨bs,rb⟩:=z0K I _ (z0s h.2).1 r2 ry
      have hc:=(z0s h.2).1
      unfold toP at rb hc
      unfold PyData.canLay0 at hc
      refine notIn_tuple_reads rb ra hc (z0s h.1).1 (by have:=(z0s h.1).2; omega) ?_
      rw [z3O]
      exact ⟨.bl _,H,I,rfl,q⟩
    · cases o
  · cases o
theorem o2_in {K : PySem.W.Frag} : Op2 K (rInD K false) inD:=by
  intro H B dx dy d x y Q hB hx hy q k
  unfold inD at q
  cases e : y2W dx dy with
  | none=>rw [e] at q; cases q
  | some b=>
    rw [e] at q
    cases q
    exact ⟨B,dx,dy,b,hx,hy,e,k _ H (.refl H) rfl⟩
theorem o2_nin {K : PySem.W.Frag} : Op2 K (rInD K true) ninD:=by
  intro H B dx dy d x y Q hB hx hy q k
  unfold ninD at q
  cases e : y2W dx dy with
  | none=>rw [e] at q; cases q
  | some b=>
    rw [e] at q
    cases q
    exact ⟨B,dx,dy,b,hx,hy,e,k _ H (.refl H) rfl⟩
noncomputable def OpA (K : PySem.W.Frag) (r : List V->Hp->VK->Prop) (F : List D->Option D) : Prop:=∀ (H : Hp) (B : Addr->Prop) (ds : List D) (d : D) (vs : List V) (Q : VK),InB B H->Reps K H B ds vs->F ds=some d->(∀ v H',Same H H'->Rep K H' B d v->Q v H')->r vs H Q
noncomputable def OpL (K : PySem.W.Frag) (r : List V->Hp->VK->Prop) (F : List D->Option (List D)) : Prop:=∀ (H : Hp) (B : Addr->Prop) (ds es : List D) (vs : List V) (Q : VK),InB B H->Reps K H B ds vs->F ds=some es →
  (∀ a xs H',Same H H'->H a=none->H' a=some (.lst xs)->Reps K H' B es xs->Q (.ref a) H')->r vs H Q
noncomputable def z5F (F : List D->Option (List D)) (fl : List DE) : DS->Option (List D):=fun δ=>(z0n fl δ).bind F
variable {x : Str} {bid T : String} {r : List V->Hp->VK->Prop} {e : Expr} {es : List Expr} {p pos : Pos} {fl : List DE}
theorem callA {F : List D->Option D} (ho : OpA X.K r F) (σ : St) (H : Hp) (Q : VK) (h : tD X.K (z0r F fl) σ H Q) : tCB r (tDs X.K (z0n fl)) σ H Q:=by
  obtain ⟨B,δ,d,hB,S,q,k⟩:=h
  obtain ⟨ds,e1,e2⟩:=z4j q
  exact ⟨B,δ,ds,hB,S,e1,fun vs H1 s1 r1=>ho H1 B ds d vs Q (hB.mono s1) r1 e2 fun v H' s' rv=>k v H' (s1.trans s') rv⟩
theorem callL {F : List D->Option (List D)} (ho : OpL X.K r F) (σ : St) (H : Hp) (Q : VK) (h : tF X.K (z5F F fl) σ H Q) : tCB r (tDs X.K (z0n fl)) σ H Q:=by
  obtain ⟨B,δ,d,hB,S,q,k⟩:=h
  unfold z5F at q
  cases e1 : z0n fl δ with
  | none=>rw [e1] at q; cases q
  | some ds=>
    rw [e1] at q
    exact ⟨B,δ,ds,hB,S,e1,fun vs H1 s1 r1=>ho H1 B ds d vs Q (hB.mono s1) r1 q fun a xs H' s' hn ha rv=>k a xs H' (s1.trans s') (s1.free hn) ha rv⟩
theorem z8N {F : List D->Option D} (hc : z5l X (.builtin bid) r) (hD : OpA X.K r F) (hg : Gl X x) (hm : X.mg x=none) (hv : bootBuiltins x=some (.builtin bid)) (ha : PAD X (e :: es) fl) (hn : x ≠ "__name__" := by decide) (hdb : (x == ("__debug__" : Str))=false:=by decide)
    (he : starEach (e :: es) X.env=(false,eval e X.env) :: starEach es X.env:=by rfl) (hpl : (backTo pos (starEach es X.env)).any (·.1)=false:=by rfl) : PD X (.Call (.Name x p) (e :: es) [] pos) (z0r F fl):=
  (z9k hc hg hm hv ha hn hdb he hpl).imp (callA hD)
theorem y3a {F : List D->Option D} (hc : z5l X (.type T) r) (hD : OpA X.K r F) (hg : Gl X x) (hm : X.mg x=none) (hv : bootBuiltins x=some (.type T)) (ha : PAD X (e :: es) fl) (hn : x ≠ "__name__" := by decide) (hdb : (x == ("__debug__" : Str))=false:=by decide)
    (he : starEach (e :: es) X.env=(false,eval e X.env) :: starEach es X.env:=by rfl) (hpl : (backTo pos (starEach es X.env)).any (·.1)=false:=by rfl) : PD X (.Call (.Name x p) (e :: es) [] pos) (z0r F fl):=
  (z5u hc hg hm hv ha hn hdb he hpl).imp (callA hD)
theorem y2k {F : List D->Option (List D)} (hc : z5l X (.type T) r) (hD : OpL X.K r F) (hg : Gl X x) (hm : X.mg x=none) (hv : bootBuiltins x=some (.type T)) (ha : PAD X (e :: es) fl) (hn : x ≠ "__name__" := by decide) (hdb : (x == ("__debug__" : Str))=false:=by decide)
    (he : starEach (e :: es) X.env=(false,eval e X.env) :: starEach es X.env:=by rfl) (hpl : (backTo pos (starEach es X.env)).any (·.1)=false:=by rfl) : PF X (.Call (.Name x p) (e :: es) [] pos) (z5F F fl):=
  (z5u hc hg hm hv ha hn hdb he hpl).imp (callL hD)
theorem z5f {K : PySem.W.Frag} {H : Hp} {B : Addr->Prop} {d : D} {vs : List V} (h : Reps K H B [d] vs) : ∃ v,vs=[v]∧Rep K H B d v:=by
  unfold Reps at h
  obtain ⟨x,r,rfl,h1,h2⟩:=h
  unfold Reps at h2
  subst h2
  exact ⟨x,rfl,h1⟩
noncomputable def z3F : List D->Option D
  | [.lst ds]=>some (.int ds.length)
  | [.tup ds]=>some (.int ds.length)
  | [.scr ns]=>some (.int ns.length)
  | _=>none
theorem oa_len {K : PySem.W.Frag} : OpA K (fun xs H Q=>∃ x n,xs=[x]∧LenV K x H n∧Q (.int n) H) z3F:=by
  intro H B ds d vs Q hB hr q k
  unfold z3F at q
  split at q
  · cases q
    obtain ⟨v,rfl,r⟩:=z5f hr
    unfold Rep at r
    obtain ⟨a,xs,rfl,_,h,rs⟩:=r
    refine ⟨.ref a,xs.length,rfl,.inl ⟨xs,SqL.of h,rfl⟩,k _ H (.refl H) ?_⟩
    show V.int _=V.int _
    rw [rs.length]
  · cases q
    obtain ⟨v,rfl,r⟩:=z5f hr
    unfold Rep at r
    obtain ⟨a,xs,rfl,h,rs⟩:=r
    refine ⟨.ref a,xs.length,rfl,.inr ⟨xs,h,rfl⟩,k _ H (.refl H) ?_⟩
    show V.int _=V.int _
    rw [rs.length]
  · cases q
    obtain ⟨v,rfl,r⟩:=z5f hr
    unfold Rep at r
    obtain ⟨a,rfl,h⟩:=r
    exact ⟨.ref a,_,rfl,.inl ⟨_,h.sq,(List.length_map ..).symm⟩,k _ H (.refl H) rfl⟩
  · cases q
theorem z2x {f : DE} (hg : Gl X "len") (hm : X.mg "len" = none) (h : PD X e f) (he : starEach [e] X.env=[(false,eval e X.env)]:=by rfl) : PD X (.Call (.Name "len" p) [e] [] pos) (z0r z3F [f]):=
  z8N y3y oa_len hg hm PySem.boot_len (z0b h z0k he) (by decide) (by decide) he rfl
noncomputable def bools : List D->Option (List Bool)
  | []=>some []
  | .bl b :: r=>(bools r).map (b :: ·)
  | _=>none
noncomputable def z4w : List D->Option (List Int)
  | []=>some []
  | .int i :: r=>(z4w r).map (i :: ·)
  | _=>none
noncomputable def y0W : List D->Option (List D)
  | [.lst ds]=>some ds
  | [.tup ds]=>some ds
  | [.scr ns]=>some (ns.map .int)
  | _=>none
theorem ol_list {K : PySem.W.Frag} : OpL K (fun xs H Q=>∃ p ys,xs=[.ref p]∧(SqL K H p ys∨SqT K H p ys)∧∀ l,H l=none->Q (.ref l) (upd H l (.lst ys))) y0W:=by
  intro H B ds es vs Q hB hr q k
  unfold y0W at q
  split at q
  · cases q
    obtain ⟨v,rfl,r⟩:=z5f hr
    unfold Rep at r
    obtain ⟨a,xs,rfl,_,h,rs⟩:=r
    exact ⟨a,xs,rfl,.inl (SqL.of h),fun l hl=>k l xs _ (z0u hl) hl z0c (rs.mono (z0u hl))⟩
  · cases q
    obtain ⟨v,rfl,r⟩:=z5f hr
    unfold Rep at r
    obtain ⟨a,xs,rfl,h,rs⟩:=r
    exact ⟨a,xs,rfl,.inr h,fun l hl=>k l xs _ (z0u hl) hl z0c (rs.mono (z0u hl))⟩
  · cases q
    obtain ⟨v,rfl,r⟩:=z5f hr
    unfold Rep at r
    obtain ⟨a,rfl,h⟩:=r
    exact ⟨a,_,rfl,.inl h.sq,fun l hl=>k l _ _ (z0u hl) hl z0c (z3M _)⟩
  · cases q
theorem y1s {f : DE} (hg : Gl X "list") (hm : X.mg "list" = none) (h : PD X e f) (he : starEach [e] X.env=[(false,eval e X.env)]:=by rfl) : PF X (.Call (.Name "list" p) [e] [] pos) (z5F y0W [f]):=
  y2k z6X ol_list hg hm PyProof.Rows.Boot.«list» (z0b h z0k he) (by decide) (by decide) he rfl
noncomputable def y2q : List D->Option D
  | [.lst ds]=>some (.tup ds)
  | [.tup ds]=>some (.tup ds)
  | _=>none
theorem oa_tup {K : PySem.W.Frag} : OpA K (fun xs H Q=>∃ p ys,xs=[.ref p]∧((SqL K H p ys∧∀ l,H l=none->Q (.ref l) (upd H l (.tup ys)))∨(SqT K H p ys∧Q (.ref p) H))) y2q:=by
  intro H B ds d vs Q hB hr q k
  unfold y2q at q
  split at q
  · cases q
    obtain ⟨v,rfl,r⟩:=z5f hr
    unfold Rep at r
    obtain ⟨a,xs,rfl,_,h,rs⟩:=r
    exact ⟨a,xs,rfl,.inl ⟨SqL.of h,fun l hl=>k _ _ (z0u hl) (by unfold Rep; exact ⟨l,xs,rfl,SqT.of z0c,rs.mono (z0u hl)⟩)⟩⟩
  · cases q
    obtain ⟨v,rfl,r⟩:=z5f hr
    have r0:=r
    unfold Rep at r
    obtain ⟨a,xs,rfl,h,rs⟩:=r
    exact ⟨a,xs,rfl,.inr ⟨h,k _ _ (.refl H) r0⟩⟩
  · cases q
theorem z6f {f : DE} (hg : Gl X "tuple") (hm : X.mg "tuple" = none) (h : PD X e f) (he : starEach [e] X.env=[(false,eval e X.env)]:=by rfl) : PD X (.Call (.Name "tuple" p) [e] [] pos) (z0r y2q [f]):=
  y3a z6C oa_tup hg hm PyProof.Rows.Boot.«tuple» (z0b h z0k he) (by decide) (by decide) he rfl
end
end L2
namespace L2
open PySem PySem.Spec PyProof.Rows
noncomputable def tyN : D->String
  | .non => "NoneType"
  | .bl _ => "bool"
  | .int _ => "int"
  | .str _ => "str"
  | .lst _ => "list"
  | .tup _ => "tuple"
  | .scr _ => "list"
  | .dct _ _ => "dict"
  | .exc _ => "object"
  | .obj _ _ _ _ => "object"
  | .cel _ _ => "list"
inductive IsT : String->Prop where
  | bool : IsT "bool" | int : IsT "int" | str : IsT "str" | list : IsT "list" | tuple : IsT "tuple" | dict : IsT "dict"
noncomputable def isF (T : String) (d : D) : Bool:=tyN d == T || (tyN d == "bool" && T == "int")
theorem kit_tt (K : PySem.W.Frag) {T : String} (h : IsT T) (d : D) (hd : ∀ x,d≠.exc x) (hd2 : ∀ x a ks ds,d≠.obj x a ks ds) : PySem.W.kitOne K (.type (tyN d)) (.type T)=some (isF T d):=by
  cases h <;> cases d <;> first | kernel_rfl | exact absurd rfl (hd _) | exact absurd rfl (hd2 _ _ _ _)
section
variable {prog : Program} {w : World} {A : Around} {E : Value->Shared->Prop} {K : PySem.W.Frag} {x D : Addr} {ox : Obj} {s : Shared}
theorem y0C {Q : Option Value->Shared->Prop} (X : K.In s.heap) (I : PySem.W.InstAt s.heap x ox D none) (hga : PySem.W.findIn K (.ref D) "__getattribute__" = some (some (.builtin "BaseException.__getattribute__"))) (hgh : PySem.W.findIn K (.ref D) "__getattr__" = some none)
    (hf : PySem.W.findObj K D none "__class__" = some (.bind (.builtin "getset_descriptor.__get__") (.builtin "object.__class__"))) (hm : PySem.W.mroIn K D (.type "object")=some true) (hb : PySem.W.mroIn K D (.type "BaseException")=some true)
    (h : Q (some (.ref D)) { s with toks:=s.toks + 1 }) : wpAny (model prog w) A (getAttr? (.ref x) "__class__") Q E s:=by
  obtain ⟨hp,gs,dr,tk,os⟩:=s
  have T0:=I.type (M:=model prog w)
  have T1:=PySem.W.looks_findIn (M:=model prog w) X hga
  have T2:=PySem.W.looks_findIn (M:=model prog w) X hgh
  have T3:=PySem.W.looks_find (M:=model prog w) X I hf
  have T4:=PySem.W.looks_mroIn (M:=model prog w) X hb
  have hne : (onTheHeap (Value.ref D) && Value.builtin "BaseException.__getattribute__" == Value.builtin "object.__getattribute__")=false:=by
    have z : (Value.builtin "BaseException.__getattribute__" == Value.builtin "object.__getattribute__")=false:=by decide +kernel
    rw [z,Bool.and_false]
  unfold getAttr? getAttrBy?
  refine wpAny_bind (wpAny_mkText ?_)
  refine wpAny_bind (wpAny_attempt ?_)
  unfold getAttrBy
  refine wpAny_holding (wpAny_bind (T0.at ?_))
  refine wpAny_bind (T1.at ?_)
  dsimp only
  rw [hne,if_neg Bool.false_ne_true]
  unfold getAttrByItsOwn hookBefore
  rw [if_pos (show onTheHeap (Value.ref D)=true from rfl)]
  refine wpAny_bind (T2.at ?_)
  refine wpAny_bind (wpAny_attempt (wpAny_holding ?_))
  unfold callGetattribute boundAndCalled
  rw [Bool.false_and,if_neg Bool.false_ne_true,F.excAttr_ValueError.ga.bind]
  refine wpAny_bind (wpAny_pure ?_)
  refine wpAny_call (codeAny_call_builtin F.excAttr_ValueError.ga.plain F.entry_bexc_ga ?_)
  have k1 : builtinKind "BaseException.__getattribute__" = some .slot:=by decide +kernel
  have k2 : splitId "BaseException.__getattribute__" = some ("BaseException", "__getattribute__"):=by decide +kernel
  simp only [checkBuiltinCall,k1,k2]
  have ha:=F.args_bexc_ga (.ref x) (.str "__class__" tk)
  have TI : PySem.W.Looks (model prog w) hp (isInstance (.ref x) (.type "BaseException")) true:=T0.andThen T4
  show wpAny _ _ (isInstance (.ref x) (.type "BaseException") >>= _) _ _ _
  refine wpAny_bind (TI.at ?_)
  rw [if_neg (by decide)]
  unfold argsOk at ha
  refine wpAny_of_eq (a:=()) ha ?_
  unfold Builtin.«object.__getattribute__»
  refine wpAny_bind (wpAny_of_eq (a:=(Value.ref x,[Value.str "__class__" tk])) rfl ?_)
  dsimp only
  refine wpAny_bind (wpAny_of_eq (a:=("__class__" : Str)) rfl ?_)
  refine wpAny_bind (T0.at ?_)
  refine wpAny_bind (T3.at ?_)
  show wpAny _ _ (holding [Value.builtin "object.__class__"] (call (.builtin "getset_descriptor.__get__") [.builtin "object.__class__",.ref x,.ref D]) >>= ret) _ _ _
  refine wpAny_bind (wpAny_holding (wpAny_call (PySem.W.class_get X I hm ?_)))
  refine wpAny_pure ?_
  exact PySem.W.handed_on rfl (wpAny_pure h)
end
theorem xcls_of {K : PySem.W.Frag} {C : Addr} (h : y0D K C=true) : PySem.W.findIn K (.ref C) "__getattribute__" = some (some (.builtin "BaseException.__getattribute__"))∧PySem.W.findIn K (.ref C) "__getattr__" = some none∧PySem.W.mroIn K C (.type "BaseException")=some true∧(PySem.W.clsIn K C).isSome=true ∧
    PySem.W.findIn K (.ref C) "__class__" = some (some (.builtin "object.__class__"))∧PySem.W.specialIn K (.builtin "object.__class__") "__get__" = some (some (.builtin "getset_descriptor.__get__"))∧PySem.W.takesIn K (.builtin "object.__class__")=some true∧PySem.W.mroIn K C (.type "object")=some true:=by
  unfold y0D at h
  simp only [Bool.and_eq_true,beq_iff_eq] at h
  exact ⟨h.1.1.1.1.1.1.1.1,h.1.1.1.1.1.1.1.2,h.1.1.1.1.1.1.2,h.1.1.1.1.1.2,h.1.1.1.1.2,h.1.1.1.2,h.1.1.2,h.1.2⟩
theorem z1d {K : PySem.W.Frag} {C : Addr} {ks : List Str} (h : z5w K C ks=true) : Cls K C∧PySem.W.findIn K (.ref C) "__class__" = some (some (.builtin "object.__class__"))∧PySem.W.specialIn K (.builtin "object.__class__") "__get__" = some (some (.builtin "getset_descriptor.__get__"))∧PySem.W.takesIn K (.builtin "object.__class__")=some true∧PySem.W.mroIn K C (.type "object")=some true ∧
    (["bool", "int", "str", "list", "tuple", "dict"].all fun T=>PySem.W.kitOne K (.ref C) (.type T) == some false)=true∧∀ f∈ks,NoAttr K C f:=by
  unfold z5w at h
  rw [Bool.and_eq_true_iff,Bool.and_eq_true_iff,Bool.and_eq_true_iff,Bool.and_eq_true_iff,Bool.and_eq_true_iff,Bool.and_eq_true_iff,Bool.and_eq_true_iff,Bool.and_eq_true_iff,Bool.and_eq_true_iff] at h
  obtain ⟨⟨⟨⟨⟨⟨⟨⟨⟨a1,a2⟩,a3⟩,a4⟩,a5⟩,a6⟩,a7⟩,a8⟩,a9⟩,a10⟩:=h
  rw [List.all_eq_true] at a10
  exact ⟨⟨a1,a2,a3,beq_iff_eq.mp a4⟩,beq_iff_eq.mp a5,beq_iff_eq.mp a6,beq_iff_eq.mp a7,beq_iff_eq.mp a8,a9,fun f hf=>beq_iff_eq.mp (a10 f hf)⟩
theorem y3D {K : PySem.W.Frag} {x C : Addr} {ox : Obj} (h : y0D K C=true) : PySem.W.KitX K (.ref x) (.ref C) (fun g=>PySem.W.InstAt g x ox C none):=by
  obtain ⟨g1,g2,g3,h2,h3,h4,h5,h6⟩:=xcls_of h
  obtain ⟨cd,hcd⟩:=Option.isSome_iff_exists.mp h2
  have hk : ∃ c d sl,K.lookup C=some ⟨c,d,.cls cd,sl⟩:=by
    unfold PySem.W.clsIn at hcd
    split at hcd
    · cases hcd; exact ⟨_,_,_,by assumption⟩
    · cases hcd
  obtain ⟨c0,d0,sl0,hk⟩:=hk
  have hf : PySem.W.findObj K C none "__class__" = some (.bind (.builtin "getset_descriptor.__get__") (.builtin "object.__class__")):=by
    unfold PySem.W.findObj
    rw [hcd,Option.bind_some,h3,Option.bind_some]
    simp [h4,h5]
  refine ⟨fun _ _ _ I=>I.type,fun _ _ X _=>?_,fun g tp dd its n sl X ht=>?_,fun X I k=>?_⟩
  · intro A' Q' E' s' kk q
    unfold isType loadHead
    exact wpAny_bind (wpAny_loadPart (kk _ _ (X _ _ hk)) (wpAny_pure q))
  · cases hz : (Value.ref C == Value.ref tp) with
    | false=>rfl
    | true=>
      have e : C=tp:=Value.ref.inj (beq_iff_eq.mp hz)
      rw [← e] at ht
      have z:=(X _ _ hk).symm.trans ht
      cases z
  · exact y0C X I g1 g2 hf h6 g3 k
theorem exc_at {X : Cx} {pins : List (Addr × Obj)} {σ : St} {H : Hp} {s : Shared} {a C : Addr} (I : Inv X pins σ H s) (h : H a=some (.ext (isX a C))) : ∃ o,PySem.W.InstAt s.heap a o C none:=by
  obtain ⟨⟨o,h1,h2,h3,h4⟩,_⟩:=(show ObjOk X.prog X.w H s.heap a (.ext (isX a C)) from I.hok a _ h)
  exact ⟨o,h1,h2,h4,by rw [h3]; trivial⟩
section
variable {X : Cx} {pins : List (Addr × Obj)} {σ : St} {H : Hp} {s : Shared} {B : Addr->Prop} {A : Around} {E : Value->Shared->Prop} {Q : Value->Shared->Prop}
theorem z9L {d : D} {v : V} {u : Value} {T : String} (I : Inv X pins σ H s) (r : Rep X.K H B d v) (rv : RelV v u) (hT : IsT T) (h : ∀ tk,Q (.bool (isF T d)) { s with toks:=tk }) : wpAny (model X.prog X.w) A (call (.builtin "isinstance") [u,.type T]) Q E s:=by
  by_cases hd : ∃ x,d = .exc x
  · obtain ⟨x,rfl⟩:=hd
    unfold Rep at r
    obtain ⟨a,C,rfl,_,hq,_,hx⟩:=r
    cases rv
    obtain ⟨o,ie⟩:=exc_at I hq
    have e : PySem.W.kitOne X.K (.ref C) (.type T)=some (isF T (.exc x)):=by
      have h6:=(Bool.and_eq_true_iff.mp hx).2
      rw [List.all_eq_true] at h6
      have h7:=beq_iff_eq.mp (h6 T (by cases hT <;> decide))
      rw [h7]
      cases hT <;> rfl
    exact PySem.W.kia_one (y3D hx) I.kIn ie e (fun z=>nomatch z) h
  have hd : ∀ x,d≠.exc x:=fun x z=>hd ⟨x,z⟩
  by_cases hd2 : ∃ x a ks ds,d = .obj x a ks ds
  · obtain ⟨x,a,ks,ds,rfl⟩:=hd2
    unfold Rep at r
    obtain ⟨C,dx,fs,_,hq,⟨rfl,_,hx,_⟩,_⟩:=r
    cases rv
    obtain ⟨cl,h3,h4,h5,h6,h7,_⟩:=z1d hx
    obtain ⟨mA,O,_⟩:=z5Q I.hok hq
    obtain ⟨od,J,_⟩:=O.look
    have e : PySem.W.kitOne X.K (.ref C) (.type T)=some (isF T (.obj x a ks ds)):=by
      rw [List.all_eq_true] at h7
      have h8:=beq_iff_eq.mp (h7 T (by cases hT <;> decide))
      rw [h8]
      cases hT <;> rfl
    exact PySem.W.kia_one (PySem.W.kitx_own (cl.get _) cl.hd h3 h4 h5 h6) I.kIn J e (fun z=>nomatch z) h
  have e:=kit_tt X.K hT d hd (fun x a ks ds z=>hd2 ⟨x,a,ks,ds,z⟩)
  cases d with
  | exc x=>exact absurd rfl (hd x)
  | obj x a ks ds=>exact absurd ⟨x,a,ks,ds,rfl⟩ hd2
  | non=>cases r; cases rv; exact PySem.W.kia_one PySem.W.kitx_none I.kIn True.intro e (fun z=>nomatch z) h
  | bl y=>cases r; cases rv; exact PySem.W.kia_one PySem.W.kitx_bool I.kIn True.intro e (fun z=>nomatch z) h
  | int i=>cases r; obtain ⟨t,q⟩:=rv; cases q; exact PySem.W.kia_one PySem.W.kitx_int I.kIn True.intro e (fun z=>nomatch z) h
  | str y=>cases r; obtain ⟨t,q⟩:=rv; cases q; exact PySem.W.kia_one PySem.W.kitx_str I.kIn True.intro e (fun z=>nomatch z) h
  | cel a ds=>
    unfold Rep at r
    obtain ⟨xs,_,hq,rfl,_⟩:=r
    cases rv
    obtain ⟨its,_,⟨o,n,e1,c,_⟩,_⟩:=I.list (SqL.of hq)
    exact PySem.W.kia_one PySem.W.kitx_list I.kIn ⟨o,e1,c⟩ e (fun z=>nomatch z) h
  | lst ds=>
    unfold Rep at r
    obtain ⟨a,xs,rfl,_,hq,_⟩:=r
    cases rv
    obtain ⟨its,_,⟨o,n,e1,c,_⟩,_⟩:=I.list (SqL.of hq)
    exact PySem.W.kia_one PySem.W.kitx_list I.kIn ⟨o,e1,c⟩ e (fun z=>nomatch z) h
  | tup ds=>
    unfold Rep at r
    obtain ⟨a,xs,rfl,hq,_⟩:=r
    cases rv
    obtain ⟨its,_,⟨o,e1,c,_⟩,_⟩:=I.tuple hq
    exact PySem.W.kia_one PySem.W.kitx_tuple I.kIn ⟨o,e1,c⟩ e (fun z=>nomatch z) h
  | scr ns=>
    unfold Rep at r
    obtain ⟨a,rfl,hq⟩:=r
    cases rv
    obtain ⟨its,_,⟨o,n,e1,c,_⟩,_⟩:=I.list hq.sq
    exact PySem.W.kia_one PySem.W.kitx_list I.kIn ⟨o,e1,c⟩ e (fun z=>nomatch z) h
  | dct ks ds=>
    unfold Rep at r
    obtain ⟨a,kvs,rfl,_,ea,_⟩:=r
    cases rv
    obtain ⟨_,_,vs,_,p⟩:=(show ObjOk X.prog X.w H s.heap a (.dK kvs) from I.hok a _ ea)
    obtain ⟨o,es,ep,h1,h2,_⟩:=p
    exact PySem.W.kia_one PySem.W.kitx_dict I.kIn ⟨o,h1,h2.1⟩ e (fun z=>nomatch z) h
end
section
variable {X : Cx} {e : Expr} {p p2 pos : Pos}
noncomputable def dIs (T : String) (f : DE) : DE:=fun δ=>(f δ).map fun d=>.bl (isF T d)
theorem y2t {T : String} (hT : IsT T) : z5l X (.builtin "isinstance") (fun xs H Q=>∃ B d v,xs=[v,.ty T]∧Rep X.K H B d v∧Q (.bl (isF T d)) H):=by
  intro pins s σ H xs us Q I r h
  obtain ⟨B,d,v,rfl,rv,q⟩:=h
  obtain ⟨u,w',rfl,r1,r2⟩:=vals2 r
  cases r2
  exact z9L I rv r1 hT fun tk=>⟨.bl _,H,I.tok tk,rfl,q⟩
theorem pd_is {f : DE} {x : Str} {T : String} (hT : IsT T) (hb : bootBuiltins x=some (.type T)) (hx : Gl X x) (hmx : X.mg x=none) (hnx : x ≠ "__name__") (hdx : (x == ("__debug__" : Str))=false) (hg : Gl X "isinstance") (hm : X.mg "isinstance" = none) (h : PD X e f)
    (he : starEach [e,.Name x p2] X.env=[(false,eval e X.env),(false,eval (.Name x p2) X.env)]:=by rfl) (he2 : starEach [.Name x p2] X.env=[(false,eval (.Name x p2) X.env)]:=by rfl) : PD X (.Call (.Name "isinstance" p) [e,.Name x p2] [] pos) (dIs T f):=
  (z9k (y2t hT) hg hm boot_isinstance (z0y h (z0y (pe_bltn (v:=.ty T) hx hmx hb rfl hnx hdx) pa_nil he2) (by rw [he,he2])) (by decide) (by decide) (by rw [he,he2]) (by rw [he2]; rfl)).imp fun σ H Q z_=>by
    obtain ⟨B,δ,d,hB,S,q,k⟩:=z_
    unfold dIs at q
    cases e1 : f δ with
    | none=>rw [e1] at q; cases q
    | some d'=>
      rw [e1] at q
      cases q
      exact ⟨B,δ,d',hB,S,e1,fun v H1 s1 r1=>⟨B,d',v,rfl,r1,k _ H1 s1 rfl⟩⟩
theorem y0y {f : DE} (hx : Gl X "bool") (hmx : X.mg "bool" = none) (hg : Gl X "isinstance") (hm : X.mg "isinstance" = none) (h : PD X e f) (he : starEach [e,.Name "bool" p2] X.env=[(false,eval e X.env),(false,eval (.Name "bool" p2) X.env)]:=by rfl) :
    PD X (.Call (.Name "isinstance" p) [e,.Name "bool" p2] [] pos) (dIs "bool" f):=pd_is .bool PyProof.Rows.Boot.«bool» hx hmx (by decide) (by decide) hg hm h he rfl
theorem y2B {f : DE} (hx : Gl X "int") (hmx : X.mg "int" = none) (hg : Gl X "isinstance") (hm : X.mg "isinstance" = none) (h : PD X e f) (he : starEach [e,.Name "int" p2] X.env=[(false,eval e X.env),(false,eval (.Name "int" p2) X.env)]:=by rfl) :
    PD X (.Call (.Name "isinstance" p) [e,.Name "int" p2] [] pos) (dIs "int" f):=pd_is .int PyProof.Rows.Boot.«int» hx hmx (by decide) (by decide) hg hm h he rfl
end
noncomputable def z2j (i : Nat) : Option SD->Option SD
  | some (.bo r d)=>if r=i then none else some (.bo r d)
  | o=>o
noncomputable def z0i (i : Nat) (δ : SS) : SS:=δ.map (z2j i)
theorem z0X {i j : Nat} {δ : SS} {x : SD} (h : (z0i i δ)[j]? = some (some x)) : δ[j]? = some (some x)∧∀ d,x≠.bo i d:=by
  unfold z0i at h
  rw [List.getElem?_map] at h
  cases e : δ[j]? with
  | none=>rw [e] at h; cases h
  | some o=>
    rw [e] at h
    have h' : z2j i o=some x:=Option.some.inj h
    unfold z2j at h'
    split at h'
    · rename_i r d
      split at h'
      · cases h'
      · rename_i hr
        cases h'
        exact ⟨rfl,fun d' z=>by cases z; exact hr rfl⟩
    · rename_i hn
      subst h'
      exact ⟨rfl,fun d z=>hn i d (by rw [z])⟩
section
variable {K : PySem.W.Frag} {H0 H : Hp} {B0 : Addr->Prop} {σ : St} {δ : SS} {R : Nat->List Addr}
theorem RS.rewrite {Hold : Hp} {i : Nat} {d d' : D} {a : Addr} {o : HO} {v : V} {A' : List Addr} (h : RS K H0 B0 Hold σ δ R) (e : Same Hold H) (hi : δ[i]? = some (some (.ow d))) (hv : σ[i]? = some (some v)) (ha : a∈R i) (t : Tree K (upd H a o) d' v A') (nd : A'.Nodup) (sub : ∀ b∈A',b∈R i∨Hold b=none) :
    RS K H0 B0 (upd H a o) σ ((z0i i δ).set i (some (.ow d'))) (z4I R i A')∧Stp R Hold (z4I R i A') (upd H a o):=by
  have hm:=h.mono e
  obtain ⟨oa,ea,ma⟩:=hm.held i a ha
  have mH : Mut (H a):=by rw [ea]; exact ma
  have mem : ∀ r b,b∈z4I R i A' r->b∈R r∨(r=i∧Hold b=none):=fun r b z=>by
    by_cases hr : r=i
    · subst hr; rw [z0A] at z; exact (sub b z).imp id fun q=>⟨rfl,q⟩
    · rw [z0Q hr] at z; exact .inl z
  have kt : KeepI K H (upd H a o):=(Keep.upd (K:=K) (B:=fun x=>x=a) rfl mH).i
  have nh : ∀ r b,b∈R r->Hold b=none->False:=fun r b z q=>by
    obtain ⟨u,q',_⟩:=h.held r b z
    rw [q] at q'; cases q'
  refine ⟨⟨fun b u q=>?_,h.inB,by simp [z0i,h.len],fun r b z=>?_,fun r b z=>?_,fun r s b z z'=>?_,fun j d2 z=>?_,fun j r2 d2 z=>?_,fun j d2 z=>?_⟩,⟨fun b u q n=>?_,fun r b z=>?_,fun b z=>?_⟩⟩
  · have ne : b≠a:=fun z=>by subst z; rw [h.new i b ha] at q; cases q
    rw [z0d ne]; exact hm.keep b u q
  · rcases mem r b z with z | ⟨_,z⟩
    · exact h.new r b z
    · exact h.keep.free z
  · by_cases hr : r=i
    · subst hr; rw [z0A] at z; exact t.held d' b z
    · rw [z0Q hr] at z
      have ne : b≠a:=fun q=>hr (h.disj r i b z (q ▸ ha))
      rw [z0d ne]; exact hm.held r b z
  · rcases mem r b z with z | ⟨z1,z2⟩ <;> rcases mem s b z' with z' | ⟨z1',z2'⟩
    · exact h.disj r s b z z'
    · exact (nh r b z z2').elim
    · exact (nh s b z' z2).elim
    · rw [z1,z1']
  · rcases z1T z with ⟨rfl,q,_⟩ | ⟨hj,q⟩
    · cases q
    · obtain ⟨q1,_⟩:=z0X q
      obtain ⟨w,e1,r⟩:=h.sh j d2 q1
      have r2:=(Rep.wide (C:=fun b=>Hold b=none) (fun _ z=>z) d2 r).mono e
      refine ⟨w,e1,Rep.anti ?_ d2 (Rep.keep (.upd (.inl (.inr ⟨i,ha⟩)) mH) d2 r2)⟩
      rintro b (z | ⟨r,z⟩)
      · exact .inl (.inl z)
      · rcases mem r b z with z | ⟨_,z⟩
        · exact .inl (.inr ⟨r,z⟩)
        · exact .inr z
  · rcases z1T z with ⟨rfl,q,_⟩ | ⟨hj,q⟩
    · cases q
    · obtain ⟨q1,q2⟩:=z0X q
      have hr : i≠r2:=fun e=>q2 d2 (by rw [e])
      obtain ⟨w,e1,r⟩:=h.bo j r2 d2 q1
      have r3:=(Rep.wide (C:=fun b=>Hold b=none) (fun _ z=>z) d2 r).mono e
      refine ⟨w,e1,Rep.anti ?_ d2 (Rep.keep (.upd (.inl (.inr ⟨i,hr,ha⟩)) mH) d2 r3)⟩
      rintro b (z | ⟨s,hs,z⟩)
      · exact .inl (.inl z)
      · rcases mem s b z with z | ⟨_,z⟩
        · exact .inl (.inr ⟨s,hs,z⟩)
        · exact .inr z
  · rcases z1T z with ⟨rfl,q,_⟩ | ⟨hj,q⟩
    · cases q
      rw [z0A]
      exact ⟨v,hv,t,nd⟩
    · obtain ⟨q1,_⟩:=z0X q
      obtain ⟨w,e1,t',nd'⟩:=hm.ow j d2 q1
      rw [z0Q hj]
      refine ⟨w,e1,Tree.keep kt d2 t' fun b hb u q=>?_,nd'⟩
      have ne : b≠a:=fun z=>by subst z; exact hj (h.disj j i b hb ha)
      rw [z0d ne]; exact q
  · have ne : b≠a:=fun z=>n i (z ▸ ha)
    rw [z0d ne]; exact e b u q
  · rcases mem r b z with z | ⟨_,z⟩
    · exact .inl ⟨r,z⟩
    · exact .inr z
  · by_cases hb : b=a
    · subst hb; rw [z0c] at z; cases z
    · rw [z0d hb] at z; exact e.free z
theorem Trees.append : ∀ {ds es : List D} {xs ys : List V} {A C : List Addr},Trees K H ds xs A->Trees K H es ys C->Trees K H (ds ++ es) (xs ++ ys) (A ++ C)
  | [],_,_,_,_,_,h,h'=>by obtain ⟨rfl,rfl⟩:=h; exact h'
  | d :: ds,es,_,ys,_,C,h,h'=>by
    unfold Trees at h
    obtain ⟨y,r,A1,A2,rfl,h1,h2,rfl⟩:=h
    exact (show Trees K H (d :: (ds ++ es)) (y :: (r ++ ys)) (A1 ++ A2 ++ C) by unfold Trees; exact ⟨y,_,A1,A2 ++ C,rfl,h1,Trees.append h2 h',List.append_assoc _ _ _⟩)
theorem Trees.one {d : D} {x : V} {A : List Addr} (h : Tree K H d x A) : Trees K H [d] [x] A:=by
  unfold Trees
  exact ⟨x,[],A,[],rfl,h,⟨rfl,rfl⟩,(List.append_nil _).symm⟩
theorem Trees.length : ∀ {ds : List D} {xs : List V} {A : List Addr},Trees K H ds xs A->ds.length=xs.length
  | [],_,_,h=>by obtain ⟨rfl,_⟩:=h; rfl
  | d :: ds,_,_,h=>by
    unfold Trees at h
    obtain ⟨x,r,_,_,rfl,_,h2,_⟩:=h
    simp [Trees.length h2]
theorem RS.top {i : Nat} {ds : List D} (h : RS K H0 B0 H σ δ R) (hi : δ[i]? = some (some (.ow (.lst ds)))) : ∃ a xs A,σ[i]? = some (some (.ref a))∧H a=some (.lst xs)∧Trees K H ds xs A∧R i=a :: A∧(a :: A).Nodup:=by
  obtain ⟨v,e,t,nd⟩:=h.ow i _ hi
  unfold Tree at t
  obtain ⟨a,xs,A,rfl,ha,ts,e2⟩:=t
  rw [e2] at nd
  exact ⟨a,xs,A,e,ha,ts,e2,nd⟩
theorem RS.put0 {Hold : Hp} {i : Nat} {ds ds' : List D} {a : Addr} {xs' : List V} {A A' : List Addr} (h : RS K H0 B0 Hold σ δ R) (e : Same Hold H) (hi : δ[i]? = some (some (.ow (.lst ds)))) (hv : σ[i]? = some (some (.ref a))) (hR : R i=a :: A) (nd : (a :: A).Nodup)
    (t : Trees K H ds' xs' A') (nd' : A'.Nodup) (sub : ∀ b∈A',b∈A∨Hold b=none) : RS K H0 B0 (upd H a (.lst xs')) σ ((z0i i δ).set i (some (.ow (.lst ds')))) (z4I R i (a :: A'))∧Stp R Hold (z4I R i (a :: A')) (upd H a (.lst xs')):=by
  have ha : a∈R i:=by rw [hR]; exact List.mem_cons_self
  obtain ⟨oa,ea,ma⟩:=h.held i a ha
  have nA : ∀ b∈A',b≠a:=fun b hb z=>by
    rcases sub b hb with q | q
    · exact (List.nodup_cons.mp nd).1 (z ▸ q)
    · rw [z,ea] at q; cases q
  have mH : Mut (H a):=by rw [e a oa ea]; exact ma
  refine h.rewrite e hi hv ha ?_ (List.nodup_cons.mpr ⟨fun z=>nA a z rfl,nd'⟩) fun b hb=>?_
  · unfold Tree
    refine ⟨a,xs',A',rfl,z0c,Trees.keep (Keep.upd (K:=K) (B:=fun x=>x=a) rfl mH).i ds' t fun b hb o q=>?_,rfl⟩
    rw [z0d (nA b hb)]; exact q
  · rw [hR]
    rcases List.mem_cons.mp hb with z | z
    · rw [z]; exact .inl List.mem_cons_self
    · exact (sub b z).imp (List.mem_cons_of_mem _) id
end
end L2
namespace L2
open PySem PySem.Spec PyProof.Rows
noncomputable instance {i j : Int} : Decidable (CDiv i j):=by unfold CDiv; infer_instance
noncomputable instance {i j : Int} : Decidable (CPow i j):=by unfold CPow; infer_instance
noncomputable instance {i j : Int} : Decidable (CMul i j):=by unfold CMul; infer_instance
noncomputable def LM (K : PySem.W.Frag) (r : V->List V->Hp->VK->Prop) (F : List D->List D->Option (List D)) : Prop:=
  ∀ (H : Hp) (a : Addr) (xs : List V) (ds args : List D) (vs : List V) (ds' : List D) (Q : VK),H a=some (.lst xs)->ds.length=xs.length->Reps K H noB args vs->F ds args=some ds' →
    (∀ (w : V) (xs' : List V),(∀ (H2 : Hp) (A C : List Addr),Trees K H2 ds xs A->Trees K H2 args vs C->∃ A',Trees K H2 ds' xs' A'∧((A ++ C).Nodup->A'.Nodup)∧∀ b∈A',b∈A∨b∈C)->Q w (upd H a (.lst xs')))->r (.ref a) vs H Q
noncomputable def y1V : List D->List D->Option (List D):=fun ds args=>match args with
  | [d]=>if ds.length < sizeLine then some (ds ++ [d]) else none
  | _=>none
theorem y1N {K : PySem.W.Frag} : LM K z6l y1V:=by
  intro H a xs ds args vs ds' Q ha hl hr q k
  unfold y1V at q
  split at q
  · rename_i d
    split at q
    · rename_i hz
      cases q
      obtain ⟨y,rfl,ry⟩:=z5f hr
      refine ⟨a,xs,y,rfl,rfl,ha,by rw [← hl]; exact hz,k _ _ fun H2 A C t tc=>⟨A ++ C,t.append tc,fun z=>z,fun b hb=>List.mem_append.mp hb⟩⟩
    · cases q
  · cases q
section
variable {X : Cx} {H0 : Hp} {B0 : Addr->Prop} {fr : Bool} {RX : XR} {e e2 : Expr} {es : List Expr} {pos ap cp : Pos} {x name : Str} {px p2 : Pos} {bid : String} {r : V->List V->Hp->VK->Prop} {F : List D->List D->Option (List D)} {fl : List DE}
noncomputable def m0 (i : Nat) (F : List D->List D->Option (List D)) (fl : List DE) : SS->Option Out:=fun δ=>(z0n fl (z0q δ)).bind fun args=>if z2Z args=true then (match δ[i]? with
  | some (some (.ow (.lst ds)))=>(F ds args).map fun ds'=>.nx ((z0i i δ).set i (some (.ow (.lst ds'))))
  | _=>none) else none
noncomputable def m1 (i : Nat) (fk : DE) (F : List D->List D->Option (List D)) (fl : List DE) : SS->Option Out:=fun δ=>(fk (z0q δ)).bind fun dk=>match dk with
  | .int k=>(z0n fl (z0q δ)).bind fun args=>if z2Z args=true then (match δ[i]? with
    | some (some (.ow (.lst ds)))=>(ixN ds.length k).bind fun j=>match ds[j]? with
      | some (.lst es)=>if z2Z es=true then (F es args).bind fun es'=>if z2Z es'=true then some (.nx ((z0i i δ).set i (some (.ow (.lst (ds.set j (.lst es'))))))) else none else none
      | _=>none
    | _=>none) else none
  | _=>none
noncomputable def st0 (i : Nat) (fk fv : DE) : SS->Option Out:=fun δ=>(fv (z0q δ)).bind fun d=>if d.imm=true then (fk (z0q δ)).bind fun dk=>(match dk,δ[i]? with
  | .int k,some (some (.ow (.lst ds)))=>(ixN ds.length k).map fun j=>.nx ((z0i i δ).set i (some (.ow (.lst (ds.set j d)))))
  | _,_=>none) else none
noncomputable def st1 (i : Nat) (fk fj fv : DE) : SS->Option Out:=fun δ=>(fv (z0q δ)).bind fun d=>if d.imm=true then (fk (z0q δ)).bind fun dk=>(fj (z0q δ)).bind fun dj=>(match dk,dj,δ[i]? with
  | .int k,.int j,some (some (.ow (.lst ds)))=>(ixN ds.length k).bind fun k'=>(match ds[k']? with
    | some (.lst es)=>if z2Z es=true then (ixN es.length j).map fun j'=>.nx ((z0i i δ).set i (some (.ow (.lst (ds.set k' (.lst (es.set j' d))))))) else none
    | _=>none)
  | _,_,_=>none) else none
end
end L2
namespace L2
open PySem PySem.Spec PyProof.Rows
theorem Trees.setI {K : PySem.W.Frag} {H : Hp} {d : D} {y : V} (ty : Tree K H d y []) : ∀ {ds : List D} {xs : List V} {A : List Addr} (j : Nat),Trees K H ds xs A->∃ A',Trees K H (ds.set j d) (xs.set j y) A'∧A'.Sublist A
  | [],_,_,_,h=>by
    obtain ⟨rfl,rfl⟩:=h
    exact ⟨[],⟨rfl,rfl⟩,List.Sublist.refl _⟩
  | e :: ds,_,_,0,h=>by
    unfold Trees at h
    obtain ⟨x,r,A1,A2,rfl,h1,h2,rfl⟩:=h
    refine ⟨A2,?_,List.sublist_append_right _ _⟩
    rw [List.set_cons_zero,List.set_cons_zero]
    unfold Trees
    exact ⟨y,r,[],A2,rfl,ty,h2,rfl⟩
  | e :: ds,_,_,k + 1,h=>by
    unfold Trees at h
    obtain ⟨x,r,A1,A2,rfl,h1,h2,rfl⟩:=h
    obtain ⟨A',t,sb⟩:=Trees.setI ty k h2
    refine ⟨A1 ++ A',?_,List.Sublist.append_left sb _⟩
    rw [List.set_cons_succ,List.set_cons_succ]
    unfold Trees
    exact ⟨x,_,A1,A',rfl,h1,t,rfl⟩
section
variable {X : Cx} {H0 : Hp} {B0 : Addr->Prop} {fr : Bool} {RX : XR} {e ke je : Expr} {pos : Pos} {x : Str} {px p2 p3 : Pos}
theorem s_st0 {i : Nat} {fk fv : DE} (hx : PE X (.Name x px) (z3s i)) (hk : PD X ke fk) (hv : PD X e fv)
    (ha : ∀ v,assign (.Subscript (.Name x px) ke p2) X.env v=(do
      let ov ← holding [v] (eval (.Name x px) X.env)
      let iv ← holding [v,ov] (eval ke X.env)
      standAt p2
      holding [v,ov,iv] (setItem ov iv v)
      release [v,ov,iv] []):=by intro _; rfl)
    (hs : swapsWithSole [.Subscript (.Name x px) ke p2] e pos.line X.env=pure false:=by rfl) (hw : swappedStores [.Subscript (.Name x px) ke p2] e X.env=pure none:=by rfl)
    (h1 : (assignEach [.Subscript (.Name x px) ke p2] X.env).map (·.2)=[assign (.Subscript (.Name x px) ke p2) X.env]:=by rfl) :
    PS X (.Assign [.Subscript (.Name x px) ke p2] e pos) (tS X.K H0 B0 fr RX (st0 i fk fv)):=
  PS.imp (ps_asg hv (pg_sub hx hk y2C ha) hs hw h1) fun D σ H z_=>by
    obtain ⟨δ,R,o,rs,q,kk⟩:=z_
    unfold st0 at q
    cases e1 : fv (z0q δ) with
    | none=>rw [e1] at q; cases q
    | some d=>
    rw [e1] at q
    have q : (if d.imm=true then (fk (z0q δ)).bind fun dk=>(match dk,δ[i]? with
      | .int k,some (some (.ow (.lst ds)))=>(ixN ds.length k).map fun j=>Out.nx ((z0i i δ).set i (some (.ow (.lst (ds.set j d)))))
      | _,_=>none) else none)=some o:=q
    split at q
    case isFalse=>cases q
    case isTrue hi=>
    cases e2 : fk (z0q δ) with
    | none=>rw [e2] at q; cases q
    | some dk=>
    rw [e2] at q
    simp only [Option.bind_some] at q
    split at q
    case h_2=>cases q
    case h_1=>
    rename_i k ds ei
    cases ej : ixN ds.length k with
    | none=>rw [ej] at q; cases q
    | some j=>
    rw [ej] at q
    cases q
    obtain ⟨a,xs,A,ev,ha',ts,eR,nd⟩:=rs.top ei
    refine ⟨noB,z0q δ,d,.no,rs.all,e1,fun v H1 s1 r1=>⟨.ref a,ev,noB,z0q δ,.int k,.no,rs.all.mono s1,e2,fun v2 H2 s2 r2=>?_⟩⟩
    cases (show v2=V.int k from r2)
    refine ⟨a,xs,k,j,rfl,rfl,s2 _ _ (s1 _ _ ha'),by rw [← ts.length]; exact ej,?_⟩
    obtain ⟨A',t',sb⟩:=Trees.setI ((r1.immTree d hi).mono s2) j (ts.mono (s1.trans s2))
    have P:=rs.put0 (s1.trans s2) ei ev eR nd t' ((List.nodup_cons.mp nd).2.sublist sb) fun b hb=>.inl (sb.subset hb)
    exact kk σ _ _ P.1 P.2
end
section
variable {X : Cx} {e a b : Expr} {lo hi : Option Expr} {p2 pos : Pos}
noncomputable def tO (K : PySem.W.Frag) (f : DS->Option (Option Int)) : TO:=fun σ H Q=>∃ B δ o,InB B H∧RepS K H B σ δ∧f δ=some o∧∀ H',Same H H'->Q o H'
noncomputable abbrev POD (X : Cx) (e : Option Expr) (f : DS->Option (Option Int)) : Prop:=PO X e (tO X.K f)
theorem PO.imp {eo : Option Expr} {t t' : TO} (h : PO X eo t) (w : ∀ σ H Q,t' σ H Q->t σ H Q) : PO X eo t':=fun pins s σ H Q I q=>h pins s σ H Q I (w σ H Q q)
noncomputable def z1R : DS->Option (Option Int):=fun _=>some none
noncomputable def z2S (f : DE) : DS->Option (Option Int):=fun δ=>match f δ with
  | some (.int i)=>some (some i)
  | _=>none
theorem z1P : POD X none z1R:=po_none.imp fun σ H Q z_=>by
  obtain ⟨B,δ,o,hB,S,q,k⟩:=z_
  cases q
  exact k H (.refl H)
theorem z1j {f : DE} (h : PD X e f) : POD X (some e) (z2S f):=(po_some h).imp fun σ H Q z_=>by
  obtain ⟨B,δ,o,hB,S,q,k⟩:=z_
  unfold z2S at q
  split at q
  · rename_i i e1
    cases q
    exact ⟨B,δ,.int i,hB,S,e1,fun v H' s r=>⟨i,r,k H' s⟩⟩
  · cases q
noncomputable def z4q (ds : List D) (lo hi : Option Int) : List D:=(ds.drop (HT.sIx ds.length 0 lo)).take (HT.sIx ds.length ds.length hi - HT.sIx ds.length 0 lo)
noncomputable def z8w (f : DE) (fl fh : DS->Option (Option Int)) : DS->Option (List D):=fun δ=>match f δ with
  | some (.lst ds)=>(fl δ).bind fun lo=>(fh δ).map fun hi=>z4q ds lo hi
  | some (.scr ns)=>(fl δ).bind fun lo=>(fh δ).map fun hi=>z4q (ns.map .int) lo hi
  | _=>none
theorem z1Z {f : DE} {fl fh : DS->Option (Option Int)} (he : PD X e f) (hl : POD X lo fl) (hh : POD X hi fh) : PF X (.Subscript e (.Slice lo hi none p2) pos) (z8w f fl fh):=(z8J sl_list he hl hh).imp fun σ H Q z_=>by
  obtain ⟨B,δ,ds',hB,S,q,k⟩:=z_
  unfold z8w at q
  have core : ∀ (d : D) (ds : List D),f δ=some d->((fl δ).bind fun lo=>(fh δ).map fun hi=>z4q ds lo hi)=some ds'->(∀ v H1,Rep X.K H1 B d v->∃ a xs,v = .ref a∧(∀ H2,Same H1 H2->SqL X.K H2 a xs)∧Reps X.K H1 B ds xs) →
      tSl (rSlL X.K) (tD X.K f) (tO X.K fl) (tO X.K fh) σ H Q:=by
    intro d ds e1 q get
    cases e2 : fl δ with
    | none=>rw [e2] at q; cases q
    | some l=>
    cases e3 : fh δ with
    | none=>rw [e2,e3] at q; cases q
    | some u=>
    rw [e2,e3] at q
    cases q
    refine ⟨B,δ,_,hB,S,e1,fun v H1 s1 r1=>⟨B,δ,l,hB.mono s1,S.mono s1,e2,fun H2 s2=>⟨B,δ,u,(hB.mono s1).mono s2,(S.mono s1).mono s2,e3,fun H3 s3=>?_⟩⟩⟩
    obtain ⟨a,xs,rfl,hq,rs⟩:=get v H1 r1
    refine ⟨a,xs,rfl,hq H3 (s2.trans s3),fun p hp=>?_⟩
    have sa:=z0u (o:=.lst (z9T xs l u)) hp
    refine k p _ _ (((s1.trans s2).trans s3).trans sa) ((s1.trans (s2.trans s3)).free hp) z0c ?_
    unfold z4q z9T
    rw [rs.length]
    exact ((rs.drop _).take _).mono ((s2.trans s3).trans sa)
  split at q
  case h_3=>cases q
  case h_1 ds e1=>
    refine core _ ds e1 q fun v H1 r1=>?_
    unfold Rep at r1
    obtain ⟨a,xs,rfl,_,hq,rs⟩:=r1
    exact ⟨a,xs,rfl,fun H2 s2=>SqL.of (s2 _ _ hq),rs⟩
  case h_2 ns e1=>
    refine core _ (ns.map .int) e1 q fun v H1 r1=>?_
    unfold Rep at r1
    obtain ⟨a,rfl,hq⟩:=r1
    exact ⟨a,_,rfl,fun H2 s2=>(s2.sf hq).sq,z3M ns⟩
end
section
variable {X : Cx} {pos : Pos} {x : Str} {iter elt : Expr} {N' : List Str} {sc : Scope} {ifs : List Expr} {n : Nat} {px : Pos} {fi : DS->Option (List D)} {fc : DS->Option Bool} {fe : DE}
end
end L2
namespace L2
open PySem PySem.Spec PyProof.Rows
section
variable {X : Cx} {a b : Expr} {pos : Pos} {f g : DE}
noncomputable def z5T : D->D->Option D:=iop fun i j=>some (.int (i + j))
noncomputable def y3L : D->D->Option D:=iop fun i j=>some (.int (i - j))
noncomputable def z7G : D->D->Option D:=iop fun i j=>if CDiv i j then some (.int (i / j)) else none
noncomputable def z4x : D->D->Option D:=iop fun i j=>if 0 < j then some (.int (i % j)) else none
noncomputable def y2D : D->D->Option D:=iop fun i j=>if CPow i j then some (.int (i ^ j.toNat)) else none
noncomputable def ltI : D->D->Option D:=iop fun i j=>some (.bl (decide (i < j)))
noncomputable def leI : D->D->Option D:=iop fun i j=>some (.bl (decide (i≤j)))
noncomputable def gtI : D->D->Option D:=iop fun i j=>some (.bl (decide (j < i)))
noncomputable def geI : D->D->Option D:=iop fun i j=>some (.bl (decide (j≤i)))
theorem z3r (ha : PD X a f) (hb : PD X b g) : PD X (.BinOp a .Add b pos) (d2 z5T f g):=y0P op_add y0u ha hb
theorem z8D (ha : PD X a f) (hb : PD X b g) : PD X (.BinOp a .Sub b pos) (d2 y3L f g):=y0P op_sub y0u ha hb
theorem z5M (ha : PD X a f) (hb : PD X b g) : PD X (.BinOp a .FloorDiv b pos) (d2 z7G f g):=y0P op_fdiv y0F ha hb
theorem z3R (ha : PD X a f) (hb : PD X b g) : PD X (.BinOp a .Mod b pos) (d2 z4x f g):=y0P op_mod y0F ha hb
theorem y0M (ha : PD X a f) (hb : PD X b g) : PD X (.BinOp a .Pow b pos) (d2 y2D f g):=y0P op_pow y0F ha hb
theorem pd_eq (hu : X.A.units + 64 < cLine) (ha : PD X a f) (hb : PD X b g) : PD X (.Compare a [.Eq] [b] pos) (d2 eqD f g):=pd_cmp (y3W hu) o2_eq ha hb (z5h _)
theorem pt_lt (ha : PD X a f) (hb : PD X b g) : PTD X (.Compare a [.Lt] [b] pos) (z0R (d2 ltI f g)):=z3y op_lt z2H ha hb (z5h _)
theorem pt_gt (ha : PD X a f) (hb : PD X b g) : PTD X (.Compare a [.Gt] [b] pos) (z0R (d2 gtI f g)):=z3y op_gt z2H ha hb (z5h _)
theorem pt_ge (ha : PD X a f) (hb : PD X b g) : PTD X (.Compare a [.GtE] [b] pos) (z0R (d2 geI f g)):=z3y op_ge z2H ha hb (z5h _)
theorem z8l (hu : X.A.units + 64 < cLine) (ha : PD X a f) (hb : PD X b g) : PTD X (.Compare a [.Eq] [b] pos) (z0R (d2 eqD f g)):=z3y (y3W hu) o2_eq ha hb (z5h _)
theorem pt_ne (hu : X.A.units + 64 < cLine) (ha : PD X a f) (hb : PD X b g) : PTD X (.Compare a [.NotEq] [b] pos) (z0R (d2 neD f g)):=z3y (y3Q hu) o2_ne ha hb (z5h _)
theorem pt_in (hu : X.A.units + 64 < cLine) (ha : PD X a f) (hb : PD X b g) (hm : behindInMarks .In b=false:=by rfl) : PTD X (.Compare a [.In] [b] pos) (z0R (d2 inD f g)):=z3y (op_inD hu) o2_in ha hb hm
theorem pt_nin (hu : X.A.units + 64 < cLine) (ha : PD X a f) (hb : PD X b g) (hm : behindInMarks .NotIn b=false:=by rfl) : PTD X (.Compare a [.NotIn] [b] pos) (z0R (d2 ninD f g)):=z3y (op_ninD hu) o2_nin ha hb hm
end
noncomputable def z2v (H : Hp) (A : List Addr) : Hp:=fun a=>if a∈A then none else H a
theorem z2B {H : Hp} {A : List Addr} {a : Addr} (h : a∈A) : z2v H A a=none:=if_pos h
theorem z1e {H : Hp} {A : List Addr} {a : Addr} (h : a ∉ A) : z2v H A a=H a:=if_neg h
theorem z5E {H : Hp} {A : List Addr} : Same (z2v H A) H:=fun a o e=>by
  by_cases h : a∈A
  · rw [z2B h] at e; cases e
  · rw [z1e h] at e; exact e
theorem y0Z {K : PySem.W.Frag} {H : Hp} {d0 : D} {v : V} {A : List Addr} {ds : List D} {vs : List V} {N : List Str} {nl : Nat} (t : Tree K H d0 v A) (nd : A.Nodup) (r : Reps K H (fun a=>a∈A) ds vs) (hN : N.length=ds.length + 1 + nl) :
    RS K (z2v H A) noB H (z2h N (v :: vs)) (some (.ow d0) :: ds.map (fun d=>some (.sh d)) ++ List.replicate nl none) (fun r=>if r=0 then A else []):=by
  have hl:=r.length
  have get : ∀ {i : Nat} {x : SD},(some (SD.ow d0) :: ds.map (fun d=>some (SD.sh d)) ++ List.replicate nl none)[i]? = some (some x)->(i=0∧x = .ow d0)∨∃ j d,i=j + 1∧ds[j]? = some d∧x = .sh d:=fun {i x} e=>by
    cases i with
    | zero=>simp at e; exact .inl ⟨rfl,e.symm⟩
    | succ j=>
      have e' : (ds.map (fun d=>some (SD.sh d)) ++ List.replicate nl none)[j]? = some (some x):=by simpa using e
      by_cases hi : j < ds.length
      · rw [List.getElem?_append_left (by simpa using hi),List.getElem?_map,List.getElem?_eq_getElem hi] at e'
        cases e'
        exact .inr ⟨j,ds[j],rfl,List.getElem?_eq_getElem hi,rfl⟩
      · rw [List.getElem?_append_right (by simpa using hi),List.getElem?_replicate] at e'
        split at e' <;> cases e'
  have mem : ∀ r a,a∈(if r=0 then A else [])->r=0∧a∈A:=fun r a z=>by
    split at z
    · exact ⟨by assumption,z⟩
    · cases z
  refine ⟨z5E,(fun _ z=>z.elim),?_,fun r a z=>z2B (mem r a z).2,fun r a z=>t.held d0 a (mem r a z).2,fun r s a z z'=>by rw [(mem r a z).1,(mem s a z').1],fun i d e=>?_,fun i r d e=>?_,fun i d e=>?_⟩
  · unfold z2h
    simp
    omega
  · rcases get e with ⟨_,q⟩ | ⟨j,d',rfl,e1,q⟩
    · cases q
    · cases q
      obtain ⟨u,e3,rv⟩:=r.get e1
      refine ⟨u,?_,rv.anti fun a z=>?_⟩
      · unfold z2h
        have hi : j < vs.length:=(List.getElem?_eq_some_iff.mp e3).1
        rw [List.getElem?_append_left (by simp; omega),List.getElem?_map]
        simp [e3]
      · rcases z with z | ⟨r,z⟩
        · exact z.elim
        · exact (mem r a z).2
  · rcases get e with ⟨_,q⟩ | ⟨j,d',rfl,e1,q⟩ <;> cases q
  · rcases get e with ⟨rfl,q⟩ | ⟨j,d',rfl,e1,q⟩
    · cases q
      refine ⟨v,?_,t,nd⟩
      unfold z2h
      simp
    · cases q
section
variable {P : Program} {w : World} {K : PySem.W.Frag} {mg : Str->Option Value} {base : Heap}
end
section
variable {X : Cx} {H0 : Hp} {B0 : Addr->Prop} {fr : Bool} {RX : XR} {e : Expr} {es : List Expr} {pos p px px2 cp : Pos} {x fn : Str} {k : Nat} {F : List D->Option D} {fl : List DE}
theorem RS.moved {K : PySem.W.Frag} {Hp0 H1 H2 : Hp} {σ : St} {δ : SS} {R : Nat->List Addr} {i : Nat} {d0 d : D} {v : V} {A : List Addr} (h : RS K H0 B0 Hp0 σ δ R) (e : Same Hp0 H1) (hi : δ[i]? = some (some (.ow d0)))
    (s : Same (z2v H1 (R i)) H2) (t : Tree K H2 d v A) (nd : A.Nodup) (fr : ∀ a∈A,a∈R i∨H1 a=none) (th : ∀ a,H2 a=none->H1 a=none) : RS K H0 B0 H2 (σ.set i (some v)) ((z0i i δ).set i (some (.ow d))) (z4I R i A)∧Stp R Hp0 (z4I R i A) H2:=by
  have hm:=h.mono e
  have keepO : ∀ a o,H1 a=some o->a ∉ R i->H2 a=some o:=fun a o q n=>s a o (by rw [z1e n]; exact q)
  have fr' : ∀ a∈A,a∈R i∨Hp0 a=none:=fun a ha=>(fr a ha).imp id fun z=>e.free z
  have mem : ∀ r b,b∈z4I R i A r->b∈R r∨(r=i∧Hp0 b=none):=fun r b z=>by
    by_cases hr : r=i
    · subst hr; rw [z0A] at z; exact (fr' b z).imp id fun q=>⟨rfl,q⟩
    · rw [z0Q hr] at z; exact .inl z
  have nh : ∀ r b,b∈R r->Hp0 b=none->False:=fun r b z q=>by
    obtain ⟨u,q',_⟩:=h.held r b z
    rw [q] at q'; cases q'
  have nt : ∀ a u,H1 a=some u->¬ Mut (some u)->a ∉ R i:=fun a u q nm z=>by
    obtain ⟨o,q',m⟩:=hm.held i a z
    rw [q] at q'; cases q'
    exact nm m
  have kp : Keep K (fun a=>a∈R i) H1 H2:=by
    refine ⟨fun a xs n q=>keepO a _ q n,fun a xs q=>?_,fun a xs q=>?_,fun a kvs n q=>keepO a _ q n,fun a φ n q=>keepO a _ q n,fun a _ _ _ n q=>keepO a _ q n⟩
    · rcases q with (q | ⟨o,q⟩) | q
      · exact .inl (.inl (keepO a _ q (nt a _ q fun z=>z)))
      · exact .inl (.inr ⟨o,keepO a _ q (nt a _ q fun z=>z)⟩)
      · exact .inr q
    · rcases q with ⟨o,q⟩ | q
      · exact .inl ⟨o,keepO a _ q (nt a _ q fun z=>z)⟩
      · exact .inr q
  have up : ∀ {j : Nat} {w : V},j≠i->σ[j]? = some (some w)->(σ.set i (some v))[j]? = some (some w):=fun hj e=>by rw [List.getElem?_set_ne (Ne.symm hj)]; exact e
  refine ⟨⟨fun b u q=>?_,h.inB,by simp [z0i,h.len],fun r b z=>?_,fun r b z=>?_,fun r s b z z'=>?_,fun j d2 z=>?_,fun j r2 d2 z=>?_,fun j d2 z=>?_⟩,⟨fun b u q n=>keepO b u (e b u q) (n i),fun r b z=>?_,fun b z=>?_⟩⟩
  · exact keepO b u (hm.keep b u q) fun z=>by rw [h.new i b z] at q; cases q
  · rcases mem r b z with z | ⟨_,z⟩
    · exact h.new r b z
    · exact h.keep.free z
  · by_cases hr : r=i
    · subst hr; rw [z0A] at z; exact t.held d b z
    · rw [z0Q hr] at z
      obtain ⟨u,q,m⟩:=hm.held r b z
      exact ⟨u,keepO b u q fun z'=>hr (h.disj r i b z z'),m⟩
  · rcases mem r b z with z | ⟨z1,z2⟩ <;> rcases mem s b z' with z' | ⟨z1',z2'⟩
    · exact h.disj r s b z z'
    · exact (nh r b z z2').elim
    · exact (nh s b z' z2).elim
    · rw [z1,z1']
  · rcases z1T z with ⟨rfl,q,_⟩ | ⟨hj,q⟩
    · cases q
    · obtain ⟨q1,_⟩:=z0X q
      obtain ⟨w,e1,r⟩:=h.sh j d2 q1
      have r2:=(Rep.wide (C:=fun b=>Hp0 b=none) (fun _ z=>z) d2 r).mono e
      refine ⟨w,up hj e1,Rep.anti ?_ d2 (Rep.keep (kp.anti fun a z=>.inl (.inr ⟨i,z⟩)) d2 r2)⟩
      rintro b (z | ⟨r,z⟩)
      · exact .inl (.inl z)
      · rcases mem r b z with z | ⟨_,z⟩
        · exact .inl (.inr ⟨r,z⟩)
        · exact .inr z
  · rcases z1T z with ⟨rfl,q,_⟩ | ⟨hj,q⟩
    · cases q
    · obtain ⟨q1,q2⟩:=z0X q
      have hr : i≠r2:=fun e=>q2 d2 (by rw [e])
      obtain ⟨w,e1,r⟩:=h.bo j r2 d2 q1
      have r3:=(Rep.wide (C:=fun b=>Hp0 b=none) (fun _ z=>z) d2 r).mono e
      refine ⟨w,up hj e1,Rep.anti ?_ d2 (Rep.keep (kp.anti fun a z=>.inl (.inr ⟨i,hr,z⟩)) d2 r3)⟩
      rintro b (z | ⟨s,hs,z⟩)
      · exact .inl (.inl z)
      · rcases mem s b z with z | ⟨_,z⟩
        · exact .inl (.inr ⟨s,hs,z⟩)
        · exact .inr z
  · rcases z1T z with ⟨rfl,q,hl⟩ | ⟨hj,q⟩
    · cases q
      rw [z0A]
      refine ⟨v,?_,t,nd⟩
      have hl' : j < σ.length:=by
        rw [← h.len]
        simpa [z0i] using hl
      rw [List.getElem?_set]
      simp [hl']
    · obtain ⟨q1,_⟩:=z0X q
      obtain ⟨w,e1,t',nd'⟩:=hm.ow j d2 q1
      rw [z0Q hj]
      exact ⟨w,up hj e1,Tree.keep kp.i d2 t' fun b hb u q=>keepO b u q fun z=>hj (h.disj j i b hb z),nd'⟩
  · rcases mem r b z with z | ⟨_,z⟩
    · exact .inl ⟨r,z⟩
    · exact .inr z
  · exact e.free (th b z)
end
noncomputable def y2j (K : PySem.W.Frag) (F : List D->Option D) : Sp:=fun vs H Q _=>∃ (a : Addr) (ns : List Int),vs=[.ref a]∧SqF K H a (ns.map V.int)∧F [.scr ns]=some (.bl true)∧∀ H',Q (.bl true) H'
theorem y3A {K : PySem.W.Frag} {H : Hp} {a : Addr} {xs : List V} (hO : Only H) (h : SqL K H a xs) : SqF K H a xs:=by
  rcases h with (h | h) | h
  · rcases hO a with z | ⟨o,ys,z⟩ <;> (rw [h] at z; cases z)
  · exact .inl h
  · exact .inr h
theorem law_of {P : Program} {w : World} {K : PySem.W.Frag} {mg : Str->Option Value} {base : Heap} {k : Nat} {f : Addr} {fd : FuncData} {ps : List Str} {F : List D->Option D} (h : FnOk P w K mg base CX0 k f fd ps (spN K F)) : FnOk P w K mg base CX0 k f fd ps (y2j K F):=by
  refine h.imp fun vs H Q E z=>?_
  obtain ⟨a,ns,rfl,hq,e,q⟩:=z
  refine ⟨[.scr ns],.bl true,.cons ?_ .nil,e,fun v H' A s t nd fr=>?_⟩
  · unfold Rep
    exact ⟨a,rfl,hq⟩
  · cases (show v=V.bl true∧_ from t).1
    exact q H'
end L2
namespace L2
open PySem PySem.Spec PyProof.Rows
section
variable {X : Cx} {H0 : Hp} {B0 : Addr->Prop} {fr : Bool} {RX : XR} {e e2 : Expr} {pos ap cp : Pos} {x : Str} {px : Pos} {f g : DE}
noncomputable def z9E (i : Nat) (f : DE) : SS->Option Out:=fun δ=>(f (z0q δ)).bind fun d=>(match δ[i]? with
  | some (some (.ow (.lst ds)))=>(y1V ds [d]).map fun ds'=>.nx ((z0i i δ).set i (some (.ow (.lst ds'))))
  | _=>none)
theorem y1G {i : Nat} (hx : PE X (.Name x px) (z3s i)) (he : PN X e f) (hbase : attributeBase (.Name x px) "append" X.env (eval (.Name x px) X.env)=eval (.Name x px) X.env:=by rfl)
    (hfew : ((backTo cp (starEach [e] X.env)).all (fun x=>!x.1) && (backToKw cp (keywordEach [] X.env)).all (fun x=>x.1.isSome) && decide ([e].length + ([] : List Keyword).length + (if ([] : List Keyword).isEmpty then 0 else 1) < 30))=true:=by rfl)
    (hline : (ap.endLine == cp.line)=true:=by rfl) (hs : starEach [e] X.env=(false,eval e X.env) :: starEach [] X.env:=by rfl) (hsw : swapsWith (.Call (.Attribute (.Name x px) "append" ap) [e] [] cp) none pos.line X.env=pure false:=by rfl) :
    PS X (.Expr (.Call (.Attribute (.Name x px) "append" ap) [e] [] cp) pos) (tS X.K H0 B0 fr RX (z9E i f)):=
  PS.imp (z4n (z9y PySem.F.plainAttrs_list PySem.F.slot_list_append PySem.F.type_list_append z2Y hx (z0y he pa_nil hs) hbase hfew hline hs rfl) hsw) fun D σ H z_=>by
    obtain ⟨δ,R,o,rs,q,k⟩:=z_
    unfold z9E at q
    cases e1 : f (z0q δ) with
    | none=>rw [e1] at q; cases q
    | some d=>
    rw [e1] at q
    simp only [Option.bind_some] at q
    split at q
    case h_2=>cases q
    case h_1=>
    rename_i ds ei
    cases e2 : y1V ds [d] with
    | none=>rw [e2] at q; cases q
    | some ds'=>
    rw [e2] at q
    cases q
    obtain ⟨a,xs,A,ev,ha,ts,eR,nd⟩:=rs.top ei
    refine ⟨.ref a,ev,.inl ⟨rfl,xs,SqL.of ha⟩,z0q δ,d,rs.all,e1,fun y H2 C s2 t2 nC fC=>?_⟩
    show z6l (.ref a) [y] H2 fun _ H1=>D.nx σ H1
    refine y1N (K:=X.K) H2 a xs ds [d] [y] ds' _ (s2 _ _ ha) ts.length (.one (t2.rep d (fun _ _ z=>z.elim))) e2 fun w xs' up=>?_
    obtain ⟨A',t',n',sub⟩:=up H2 A C (ts.mono s2) (.one t2)
    have hAC : (A ++ C).Nodup:=List.nodup_append.mpr ⟨(List.nodup_cons.mp nd).2,nC,fun b hb c hc z=>by
      subst z
      obtain ⟨u,q,_⟩:=Trees.held ds ts b hb
      rw [fC b hc] at q; cases q⟩
    have P:=rs.put0 s2 ei ev eR nd t' (n' hAC) fun b hb=>(sub b hb).imp id fun z=>fC b z
    exact k σ _ _ P.1 P.2
end
end L2
namespace L2
open PySem PySem.Spec PyProof.Rows
open PySem.MeetsSeq PySem.MeetsSeq2 PySem.MeetsSeq3 PySem.SeqRoads2 PySem.SeqAt
open PySem.AutoSeq1 (wpAny_loadPart')
theorem z4Y {M : Model} {A : Around} {E : Value->Shared->Prop} {s : Shared} {β : Type} (f : Nat->β->Sem (ForInStep β)) (I : List Nat->β->Shared->Prop) (Q : β->Shared->Prop)
    (turn : ∀ x rest b s,I (x :: rest) b s->wpAny M A (f x b) (fun r s'=>match r with | .yield b'=>I rest b' s' | .done b'=>Q b' s') E s)
    (fin : ∀ b s,I [] b s->Q b s) (lo hi : Nat) (b : β) (h : I (List.range' lo (hi - lo)) b s) : wpAny M A (forIn ([lo:hi] : Std.Legacy.Range) b f) Q E s:=by
  rw [Std.Legacy.Range.forIn_eq_forIn_range']
  have hsz : ([lo:hi] : Std.Legacy.Range).size=hi - lo:=by simp [Std.Legacy.Range.size]
  show wpAny M A (forIn (List.range' lo ([lo:hi] : Std.Legacy.Range).size 1) b f) Q E s
  rw [hsz]
  exact wpAny_forIn_list f I Q turn fin _ b h
theorem z6A (l : Addr) (items : Array Value) (n : Nat) (dd : Option Addr) (sl : Array (Option Value)) (x : Value) (e : Value->Bool) (j : Nat) (hj : j < items.size) (hit : e items[j]=true) (hno : ∀ m (hm : m < items.size),m < j->e items[m]=false) :
    Meets (Builtin.«tuple.index» ⟨[.ref l,x],[]⟩)
      (fun A R s=>s.heap.get? l=some { cls:=.type "tuple",dict:=dd,data:=.seq items n,slots:=sl }∧(∀ y,y∈items->EqAt A.in1 s y x (e y))∧R (.ok (.ret (.int j s.toks))) { s with toks:=s.toks + 1 }):=
  .of_wp fun prog w A R s h=>by
    obtain ⟨hp,g,d,tk,os⟩:=s; obtain ⟨hl,he,h⟩:=h
    wp_walk using wpAny_loadPart' hl,z4Y _ (fun rest b s'=>b.1=none∧s'=⟨hp,g,d,tk,os⟩∧∃ i,i≤j∧rest=List.range' i (items.size - i)) _
    case turn=>
      rintro y rest b s' ⟨hb,rfl,i,hi,hr⟩
      have e1 : items.size - i=(items.size - (i + 1)) + 1:=by omega
      rw [e1,List.range'_succ] at hr
      have h1 : i=y:=(List.cons.inj hr).1.symm
      have h2:=(List.cons.inj hr).2
      subst h1
      have hlt : i < items.size:=by omega
      rw [Array.getElem?_eq_getElem hlt]
      refine wpAny_bind (he _ (Array.getElem_mem hlt) prog w _ _ ?_)
      by_cases hij : i=j
      · subst hij
        rw [hit]
        wp_walk
        exact ⟨_,rfl,h⟩
      · rw [hno i hlt (by omega)]
        wp_walk
        exact ⟨rfl,rfl,i + 1,by omega,h2⟩
    case fin=>
      rintro ⟨b1,b2⟩ s' ⟨hb,rfl,i,hi,hr⟩
      have : (List.range' i (items.size - i)).length=0:=by rw [← hr]; rfl
      rw [List.length_range'] at this
      omega
    case h=>
      exact ⟨rfl,rfl,0,by omega,by simp⟩
section
variable {X : Cx}
theorem Inv.tupleO {pins : List (Addr × Obj)} {σ : St} {H : Hp} {s : Shared} {a : Addr} {xs : List V} (I : Inv X pins σ H s) (h : SqT X.K H a xs) : ∃ (its : List Value) (ob : Obj) (n : Nat),Vals xs its∧s.heap.get? a=some ob∧ob.cls = .type "tuple" ∧ ob.dict=none∧ob.data = .seq its.toArray n∧xs.length≤sizeLine:=by
  rcases h with h | ⟨o,its,n,hk,hc,hs,hz,r⟩
  · obtain ⟨z,its,r,ob,e,c,n,hd⟩:=h.ok I.hok
    exact ⟨its,ob,n,r,e,c.1,c.2,hd,z⟩
  · refine ⟨its.toList,o,n,r,I.kIn a o hk,hc.1,hc.2,by simpa using hs,?_⟩
    have e:=r.length
    simp only [Array.length_toList] at e
    omega
noncomputable def tTM (K : PySem.W.Frag) (r : V->List V->Hp->VK->Prop) (to : TE) (t : TA) : TE:=fun σ H Q=>to σ H fun x H1=>(∃ a xs,x = .ref a∧SqT K H1 a xs)∧t σ H1 fun xs H2=>r x xs H2 Q
variable {o e : Expr} {es : List Expr} {to : TE} {t : TA} {name : Str} {apos cpos : Pos} {id : String} {r : V->List V->Hp->VK->Prop}
theorem pe_tm (slot : Slot "tuple" name id) (hty : typeOf (.builtin id)=pure (.type "method_descriptor")) (hm : MtR X id r) (ho : PE X o to) (ha : PA X (e :: es) t)
    (hbase : attributeBase o name X.env (eval o X.env)=eval o X.env:=by rfl)
    (hfew : ((backTo cpos (starEach (e :: es) X.env)).all (fun x=>!x.1) && (backToKw cpos (keywordEach [] X.env)).all (fun x=>x.1.isSome)
      && decide ((e :: es).length + ([] : List Keyword).length + (if ([] : List Keyword).isEmpty then 0 else 1) < 30))=true:=by rfl)
    (hline : (apos.endLine == cpos.line)=true:=by rfl) (hs : starEach (e :: es) X.env=(false,eval e X.env) :: starEach es X.env:=by rfl) (hplain : (backTo cpos (starEach es X.env)).any (·.1)=false:=by rfl) :
    PE X (.Call (.Attribute o name apos) (e :: es) [] cpos) (tTM X.K r to t):=by
  intro pins s σ H Q I h
  refine wpAny_Call_method_late hbase hfew hline rfl (thn (ho pins s σ H _ I h) fun v s1 ⟨x,H1,I1,r1,⟨a,ys,ex,ty⟩,q1⟩=>?_)
  subst ex
  cases r1
  obtain ⟨its,ob,n,_,e1,c1,d1,_⟩:=I1.tupleO ty
  refine ⟨"tuple",id,PySem.F.plainAttrs_tuple,slot,hty,⟨ob,e1,c1⟩,fun a e=>(by cases e; exact ⟨ob,e1,d1⟩),?_⟩
  have hA:=ha cpos pins s1 σ H1 _ I1 q1
  rw [hs] at hA ⊢
  refine Calls.callWith_builtin (by show (false || (backTo cpos (starEach es X.env)).any (·.1))=false; rw [hplain] <;> rfl) (Calls.evalArgs_plain ?_)
  exact thn hA fun us s2 ⟨vs,H2,I2,r2,q2⟩=>hm pins s2 σ H2 (.ref a) vs (.ref a) us Q I2 rfl r2 q2
noncomputable def rTIx (K : PySem.W.Frag) : V->List V->Hp->VK->Prop:=fun x vs H Q=>∃ (a : Addr) (ns : List Int) (i : Int) (j : Nat),x = .ref a∧vs=[.int i]∧SqT K H a (ns.map V.int)∧ns.findIdx? (fun n=>n == i)=some j∧Q (.int (j : Int)) H
theorem z8b : ∀ {ns : List Int} {its : List Value},Vals (ns.map V.int) its->∀ (k : Nat) (h : k < its.length),∃ t,∃ h2 : k < ns.length,its[k] = .int ns[k] t
  | [],_,.nil,_,h=>by simp at h
  | n :: ns,_,.cons r t,k,h=>by
    obtain ⟨u,rfl⟩:=r
    cases k with
    | zero=>exact ⟨u,by simp,rfl⟩
    | succ k=>
      obtain ⟨w,h2,e⟩:=z8b t k (by simpa using h)
      exact ⟨w,by simpa using h2,by simpa using e⟩
noncomputable def isI (i : Int) : Value->Bool
  | .int k _=>k == i
  | _=>false
theorem y1q : MtR X "tuple.index" (rTIx X.K):=by
  intro pins s σ H x vs v us Q I rx rv h
  obtain ⟨a,ns,i,j,rfl,rfl,hq,hj,q⟩:=h
  cases rx
  obtain ⟨u,rfl,ru⟩:=rv.one
  obtain ⟨ut,rfl⟩:=ru
  obtain ⟨its,⟨cls,dct,dat,sl⟩,n,r,e,c,d,hd,_⟩:=I.tupleO hq
  subst c; subst hd
  obtain ⟨hjl,hji,hjm⟩:=List.findIdx?_eq_some_iff_getElem.mp hj
  have hl : ns.length=its.length:=by have:=r.length; simpa using this
  have hj2 : j < its.length:=by omega
  refine call_meets F.slot_tuple_index ⟨_,e,rfl⟩ F.entry_tuple_index (F.args_tuple_index_2 _ _) (z6A a its.toArray n dct sl (.int i ut) (isI i) j (by simpa using hj2) ?_ ?_) ⟨e,?_,?_⟩
  · obtain ⟨t,h2,e2⟩:=z8b r j hj2
    simp [e2,isI]
    simpa using hji
  · intro m hm hmj
    obtain ⟨t,h2,e2⟩:=z8b r m (by omega)
    have:=hjm m hmj
    simp [e2,isI]
    simpa using this
  · intro y hy
    obtain ⟨k,hk,rfl⟩:=List.getElem_of_mem (show y∈its by simpa using hy)
    obtain ⟨t,h2,e2⟩:=z8b r k hk
    rw [e2]
    exact SeqAt.EqAt.int_int _ _ _ _
  · exact ⟨.int (j : Int),H,I.tok _,⟨_,rfl⟩,q⟩
theorem z5m : ∀ {ds : List D} {ns : List Int},z4w ds=some ns->ds=ns.map D.int
  | [],ns,h=>by cases h; rfl
  | .int i :: r,ns,h=>by
    unfold z4w at h
    cases e : z4w r with
    | none=>rw [e] at h; cases h
    | some ms=>rw [e] at h; cases h; rw [List.map_cons,z5m e]
  | .non :: _,_,h=>by cases h
  | .bl _ :: _,_,h=>by cases h
  | .str _ :: _,_,h=>by cases h
  | .lst _ :: _,_,h=>by cases h
  | .tup _ :: _,_,h=>by cases h
  | .scr _ :: _,_,h=>by cases h
  | .dct _ _ :: _,_,h=>by cases h
  | .exc _ :: _,_,h=>by cases h
  | .obj _ _ _ _ :: _,_,h=>by cases h
  | .cel _ _ :: _,_,h=>by cases h
theorem z5W {K : PySem.W.Frag} {H : Hp} {B : Addr->Prop} : ∀ {ns : List Int} {xs : List V},Reps K H B (ns.map D.int) xs->xs=ns.map V.int
  | [],_,h=>by unfold Reps at h; exact h
  | n :: ns,_,h=>by
    rw [List.map_cons] at h
    unfold Reps at h
    obtain ⟨x,r,rfl,h1,h2⟩:=h
    unfold Rep at h1
    rw [h1,z5W h2]
    rfl
noncomputable def tixF : D->D->Option D
  | .tup ds,.int i=>(z4w ds).bind fun ns=>(ns.findIdx? (fun n=>n == i)).map fun j=>.int (j : Int)
  | _,_=>none
theorem z7j {f g : DE} (ho : PD X o f) (he : PD X e g) (hbase : attributeBase o "index" X.env (eval o X.env)=eval o X.env:=by rfl)
    (hfew : ((backTo cpos (starEach [e] X.env)).all (fun x=>!x.1) && (backToKw cpos (keywordEach [] X.env)).all (fun x=>x.1.isSome) && decide ([e].length + ([] : List Keyword).length + (if ([] : List Keyword).isEmpty then 0 else 1) < 30))=true:=by rfl)
    (hline : (apos.endLine == cpos.line)=true:=by rfl) (hs : starEach [e] X.env=(false,eval e X.env) :: starEach [] X.env:=by rfl) :
    PD X (.Call (.Attribute o "index" apos) [e] [] cpos) (d2 tixF f g):=
  (pe_tm PySem.F.slot_tuple_index PySem.F.type_tuple_index y1q ho (z0y he pa_nil hs) hbase hfew hline hs rfl).imp fun σ H Q z_=>by
    obtain ⟨B,δ,d,hB,S,q,k⟩:=z_
    obtain ⟨x,y,e1,e2,e3⟩:=z6z q
    unfold tixF at e3
    split at e3
    case h_2=>cases e3
    case h_1 ds i=>
    cases e4 : z4w ds with
    | none=>rw [e4] at e3; cases e3
    | some ns=>
    rw [e4,Option.bind_some] at e3
    cases e5 : ns.findIdx? (fun n=>n == i) with
    | none=>rw [e5] at e3; cases e3
    | some j=>
    rw [e5] at e3
    cases e3
    have eds:=z5m e4
    subst eds
    refine ⟨B,δ,_,hB,S,e1,fun v H1 s1 r1=>?_⟩
    unfold Rep at r1
    obtain ⟨a,xs,rfl,hq,rs⟩:=r1
    have ex:=z5W rs
    subst ex
    refine ⟨⟨a,_,rfl,hq⟩,B,δ,_,hB.mono s1,S.mono s1,e2,fun v2 H2 s2 r2=>?_⟩
    unfold Rep at r2
    subst r2
    exact ⟨a,ns,i,j,rfl,rfl,s2.tup hq,e5,k _ H2 (s1.trans s2) (by unfold Rep; rfl)⟩
end
end L2
namespace L2
open PySem PySem.Spec PyProof.Rows
open PySem.AutoSeq1 (wpAny_loadPart')
section
variable {prog : Program} {w : World} {A : Around} {E : Value->Shared->Prop} {s : Shared}
end
noncomputable def tRngV1 (ta : TA) : TE:=fun σ H Q=>ta σ H fun vs H1=>∃ j : Int,vs=[.int j]∧∀ p,H1 p=none->Q (.ref p) (upd H1 p (.rng 0 j))
section
variable {X : Cx}
theorem y1O {a : Expr} {ta : TA} {p pos : Pos} (hg : Gl X "range") (hm : X.mg "range" = none) (ha : PA X [a] ta) (hs : starEach [a] X.env=[(false,eval a X.env)]:=by rfl) : PE X (.Call (.Name "range" p) [a] [] pos) (tRngV1 ta):=by
  intro pins s σ H Q I h
  refine wpAny_Call_Name_kw (z7d I hg hm boot_range (PyProof.Rows.callWith_type1 (thn (ha pos pins s σ H _ I h) fun us s1 ⟨vs,H1,I1,r1,q1⟩=>?_) hs rfl))
  obtain ⟨j,e,q⟩:=q1
  subst e
  cases r1 with
  | cons r rr=>
    cases rr
    obtain ⟨t,rfl⟩:=r
    refine call_range_1 ⟨.ref s1.heap.objs.size,_,I1.laid (fun b o e=>Heap.get?_push_of_some _ e) (Nat.le_refl _) ?_,rfl,q _ (I1.hok.fresh (Nat.le_refl _))⟩
    exact ⟨_,_,_,Heap.get?_push_size _ rfl⟩
noncomputable def y4h (lo : Int) (n : Nat) : List V:=(List.range n).map fun i=>.int (lo + (i : Nat))
theorem z9R {lo : Int} : ∀ {n : Nat} {acc : Array Value},ItemsOf (fun i v=>∃ t,v=Value.int (lo + i * 1) t) acc n->Vals (y4h lo n) acc.toList:=by
  intro n acc h
  obtain ⟨hs,hv⟩:=h
  have key : ∀ (vs : List Value) (k : Nat),(∀ j v,vs[j]? = some v->∃ t,v=Value.int (lo + ((k + j : Nat) : Int)) t)->Vals ((List.range' k vs.length).map fun i=>V.int (lo + (i : Nat))) vs:=by
    intro vs
    induction vs with
    | nil=>intro k _; exact .nil
    | cons x r ih=>
      intro k hx
      rw [List.length_cons,List.range'_succ,List.map_cons]
      obtain ⟨t,e⟩:=hx 0 x rfl
      refine .cons ⟨t,by simpa using e⟩ (ih (k + 1) fun j v hj=>?_)
      obtain ⟨t,e⟩:=hx (j + 1) v (by simpa using hj)
      exact ⟨t,by rw [e]; congr 1 <;> omega⟩
  have:=key acc.toList 0 fun j v hj=>by
    obtain ⟨t,e⟩:=hv j v (by simpa using hj)
    exact ⟨t,by rw [e]; congr 1 <;> omega⟩
  rw [← List.range_eq_range',Array.length_toList,hs] at this
  exact this
theorem y3g {lo : Int} {n : Nat} : (y4h lo n).length=n:=by simp [y4h]
theorem z9x (hc : X.calm=true) : z5l X (.type "list") (fun xs H Q=>∃ (p : Addr) (lo hi : Int),xs=[.ref p]∧H p=some (.rng lo hi)∧(-(2 ^ 62)≤lo∧lo < 2 ^ 62∧-(2 ^ 62)≤hi∧hi < 2 ^ 62)∧(hi - lo).toNat≤sizeLine∧∀ l,H l=none->Q (.ref l) (upd H l (.lst (y4h lo (hi - lo).toNat)))):=by
  intro pins s σ H xs us Q I r h
  obtain ⟨p,lo,hi,rfl,hp,hb,hl,q⟩:=h
  obtain ⟨u,rfl,rx⟩:=y2n r
  cases rx
  obtain ⟨t,u,v,e⟩:=I.hok p _ hp
  refine call_list_range (I.ok.hd hc) e (small_one hb.1 hb.2.1 hb.2.2.1 hb.2.2.2) (n:=(hi - lo).toNat) (by rw [rangeSize_one]; split <;> omega) (by rw [sizeLine_eq] at hl; omega) fun h' tk acc' c' kp e2 it=>?_
  have I2 : Inv X pins σ (upd H s.heap.objs.size (.lst (y4h lo (hi - lo).toNat))) { s with heap:=h',toks:=tk }:=
    I.laid kp (Nat.le_refl _) (show ObjOk X.prog X.w _ h' _ (.lst (y4h lo (hi - lo).toNat)) from ⟨by rw [y3g]; exact hl,acc'.toList,c',z9R it,by simpa using e2⟩)
  exact ⟨.ref s.heap.objs.size,_,I2,rfl,q _ (I.hok.fresh (Nat.le_refl _))⟩
noncomputable def z5P (g : DS->Option (List D)) : DS->Option (List D):=fun δ=>(g δ).bind fun ds=>if ds.length≤sizeLine then some ds else none
theorem y2v {K : PySem.W.Frag} {H : Hp} {B : Addr->Prop} {lo : Int} {n : Nat} : Reps K H B (z3S lo n) (y4h lo n):=by
  unfold z3S y4h
  generalize List.range n=l
  induction l with
  | nil=>exact .nil
  | cons k r ih=>exact .cons (by unfold Rep; rfl) ih
theorem y0q {f : DE} {δ : DS} {ds : List D} (h : z7r f δ=some ds) : ∃ j : Int,f δ=some (.int j)∧-(2 ^ 62)≤j∧j < 2 ^ 62∧ds=z3S 0 j.toNat:=by
  unfold z7r at h
  split at h
  · rename_i j e
    split at h
    · rename_i hb
      cases h
      exact ⟨j,e,hb.1,hb.2,rfl⟩
    · cases h
  · cases h
theorem z9s {g : DS->Option (List D)} {δ : DS} {ds : List D} (h : z5P g δ=some ds) : g δ=some ds∧ds.length≤sizeLine:=by
  unfold z5P at h
  cases e : g δ with
  | none=>rw [e] at h; cases h
  | some es=>
    rw [e] at h
    have h : (if es.length≤sizeLine then some es else none)=some ds:=h
    split at h
    · cases h; exact ⟨rfl,by assumption⟩
    · cases h
theorem y3J {lo : Int} {n : Nat} : (z3S lo n).length=n:=by simp [z3S]
variable {a b : Expr} {f g : DE} {p p2 pos pos2 : Pos}
theorem y1Q (hc : X.calm=true) (hg : Gl X "list") (hm : X.mg "list" = none) (hg2 : Gl X "range") (hm2 : X.mg "range" = none) (h : PD X a f) (he2 : starEach [a] X.env=[(false,eval a X.env)]:=by rfl)
    (he : starEach [.Call (.Name "range" p2) [a] [] pos2] X.env=[(false,eval (.Call (.Name "range" p2) [a] [] pos2) X.env)]:=by rfl) : PF X (.Call (.Name "list" p) [.Call (.Name "range" p2) [a] [] pos2] [] pos) (z5P (z7r f)):=
  (z5u (z9x hc) hg hm PyProof.Rows.Boot.«list» (z0y (y1O hg2 hm2 (z0y h pa_nil he2) he2) pa_nil he) (by decide) (by decide) he rfl).imp fun σ H Q z_=>by
    obtain ⟨B,δ,ds,hB,S,e1,k⟩:=z_
    obtain ⟨e2,hl⟩:=z9s e1
    obtain ⟨j,e3,h1,h2,rfl⟩:=y0q e2
    rw [y3J] at hl
    refine ⟨B,δ,_,hB,S,e3,fun v H1 s1 r1=>?_⟩
    unfold Rep at r1
    subst r1
    refine ⟨j,rfl,fun r hr=>⟨r,0,j,rfl,z0c,⟨by omega,by omega,h1,h2⟩,by simpa using hl,fun l hl'=>?_⟩⟩
    refine k l _ _ ((s1.trans (z0u hr)).trans (z0u hl')) (s1.free ((z0u (H:=H1) hr).free hl')) z0c ?_
    rw [Int.sub_zero]
    exact y2v
end
end L2
namespace L2
open PySem PySem.Spec PyProof.Rows
section
variable {X : Cx} {pins : List (Addr × Obj)} {σ : St} {H : Hp} {s : Shared} {h' : Heap}
end
section
variable {X : Cx}
noncomputable def two (h : D->D->Option (Option D)) : D->Option (Option D)
  | .tup [a,b]=>h a b
  | _=>none
variable {N' : List Str} {sc : Scope} {iter elt : Expr} {ifs : List Expr} {n : Nat} {x y : Str} {px py tp pos : Pos} {x1 : Nat} {fi : DS->Option (List D)} {fc : DS->Option Bool} {fe : DE}
end
end L2
namespace L2
open PySem PySem.Spec PyProof.Rows
noncomputable def z7N : D->Option Key
  | .int n=>some (.inl n)
  | .str x=>some (.inr x)
  | _=>none
theorem y1L {K : PySem.W.Frag} {H : Hp} {B : Addr->Prop} {d : D} {k : Key} {v : V} (e : z7N d=some k) (r : Rep K H B d v) : v=kV k:=by
  unfold z7N at e
  split at e
  · cases e; unfold Rep at r; exact r
  · cases e; unfold Rep at r; exact r
  · cases e
noncomputable def setK (ks : List Key) (ds : List D) (k : Key) (d : D) : List D:=match ks,ds with
  | k' :: ks,e :: ds=>(if k'=k then d else e) :: setK ks ds k d
  | _,_=>[]
noncomputable def z8A (ks : List Key) (k : Key) : Bool:=ks.any fun k'=>decide (k'=k)
noncomputable def z8j (ks : List Key) (k : Key) : List Key:=if z8A ks k=true then ks else ks ++ [k]
noncomputable def z7Y (ks : List Key) (ds : List D) (k : Key) (d : D) : List D:=if z8A ks k=true then setK ks ds k d else ds ++ [d]
theorem z8f {k : Key} {kvs : List (Key × V)} {ks : List Key} (e : kvs.map (·.1)=ks) : (kvs.any fun kv=>decide (kv.1=k))=z8A ks k:=by
  subst e
  unfold z8A
  rw [List.any_map]
  rfl
theorem z9b {K : PySem.W.Frag} {H : Hp} {k : Key} {d : D} {v : V} (td : Tree K H d v []) : ∀ {kvs : List (Key × V)} {ds : List D},Trees K H ds (kvs.map (·.2)) []->Trees K H (setK (kvs.map (·.1)) ds k d) ((kvs.map fun kv=>if kv.1=k then (kv.1,v) else kv).map (·.2)) []
  | [],ds,t=>by
    cases ds with
    | nil=>exact .nil
    | cons e ds=>unfold Trees at t; obtain ⟨_,_,_,_,z,_⟩:=t; cases z
  | p :: r,[],t=>by obtain ⟨z,_⟩:=t; cases z
  | p :: r,e :: ds,t=>by
    unfold Trees at t
    obtain ⟨x,xs,B,C,e1,t1,t2,e2⟩:=t
    cases e1
    obtain ⟨rfl,rfl⟩:=List.append_eq_nil_iff.mp e2.symm
    have ih:=z9b (k:=k) td (kvs:=r) t2
    rw [List.map_cons,List.map_cons,List.map_cons]
    unfold setK Trees
    refine ⟨_,_,[],[],rfl,?_,ih,rfl⟩
    by_cases h : p.1=k
    · rw [if_pos h,if_pos h]; exact td
    · rw [if_neg h,if_neg h]; exact t1
theorem y3s {k : Key} {v : V} {kvs : List (Key × V)} : (z7g kvs k v).map (·.1)=z8j (kvs.map (·.1)) k:=by
  unfold z7g z8j
  rw [z8f (k:=k) (kvs:=kvs) rfl]
  by_cases h : z8A (kvs.map (·.1)) k=true
  · rw [if_pos h,if_pos h,List.map_map]
    apply List.map_congr_left
    intro p _
    show (if p.1=k then (p.1,v) else p).1=p.1
    split <;> rfl
  · rw [if_neg h,if_neg h,List.map_append]
    rfl
theorem y3k {K : PySem.W.Frag} {H : Hp} {k : Key} {d : D} {v : V} {kvs : List (Key × V)} {ds : List D} (td : Tree K H d v []) (t : Trees K H ds (kvs.map (·.2)) []) : Trees K H (z7Y (kvs.map (·.1)) ds k d) ((z7g kvs k v).map (·.2)) []:=by
  unfold z7g z7Y
  rw [z8f (k:=k) (kvs:=kvs) rfl]
  by_cases h : z8A (kvs.map (·.1)) k=true
  · rw [if_pos h,if_pos h]
    exact z9b td t
  · rw [if_neg h,if_neg h,List.map_append]
    exact t.snoc td
theorem y3h {k : Key} {kvs : List (Key × V)} : (z9O kvs k).isSome=z8A (kvs.map (·.1)) k:=by rw [← z6c]; exact z8f rfl
noncomputable def inK : D->D->Option Bool:=fun x y=>match y with
  | .dct ks _=>(z7N x).map fun k=>z8A ks k
  | _=>none
noncomputable def dDIn (f g : DE) : DS->Option Bool:=fun δ=>(f δ).bind fun x=>(g δ).bind fun y=>inK x y
section
variable {X : Cx} {a b o i value : Expr} {f g : DE} {pos pos' : Pos}
theorem y2r {δ : DS} {c : Bool} (h : dDIn f g δ=some c) : ∃ x k ks ds,f δ=some x∧z7N x=some k∧g δ=some (.dct ks ds)∧c=z8A ks k:=by
  unfold dDIn at h
  cases e1 : f δ with
  | none=>rw [e1] at h; cases h
  | some x=>
    rw [e1] at h
    cases e2 : g δ with
    | none=>rw [e2] at h; cases h
    | some y=>
      rw [e2] at h
      have h : inK x y=some c:=h
      unfold inK at h
      split at h
      · cases e3 : z7N x with
        | none=>rw [e3] at h; cases h
        | some k=>rw [e3] at h; cases h; exact ⟨x,k,_,_,rfl,e3,rfl,rfl⟩
      · cases h
theorem pt_din (hu : X.A.units + 64 < cLine) (ha : PD X a f) (hb : PD X b g) (hm : behindInMarks .In b=false:=by rfl) : PTD X (.Compare a [.In] [b] pos) (dDIn f g):=
  (y0m (pc_din (by omega) ha hb) hm).imp fun σ H Q z_=>by
    obtain ⟨B,δ,c,hB,S,q,k⟩:=z_
    obtain ⟨x,ky,ks,ds,e1,e2,e3,rfl⟩:=y2r q
    refine ⟨B,δ,x,hB,S,e1,fun v H1 s1 r1=>⟨B,δ,_,hB.mono s1,S.mono s1,e3,fun w H2 s2 r2=>?_⟩⟩
    unfold Rep at r2
    obtain ⟨p,kvs,rfl,n,hp,ek,rs⟩:=r2
    have ev:=y1L e2 r1
    subst ev
    refine ⟨p,z9O kvs ky,rfl,DGet.k hp,_,rfl,?_⟩
    rw [y3h,ek]
    exact k H2 (s1.trans s2)
theorem pn_dnew : PN X (.Dict [] [] pos) (dC (.dct [] [])):=pe_dnewK.imp fun σ H Q z_=>by
  obtain ⟨δ,d,S,q,k⟩:=z_
  cases q
  intro p hp
  refine k _ _ [p] (z0u hp) ?_ (List.nodup_cons.mpr ⟨fun z=>(nomatch z),List.nodup_nil⟩) fun a ha=>?_
  · unfold Tree
    exact ⟨p,[],[],rfl,z0c,rfl,.nil,rfl⟩
  · rw [List.mem_singleton.mp ha]; exact hp
variable {H0 : Hp} {B0 : Addr->Prop} {fr : Bool} {RX : XR} {x : Str} {px : Pos} {ke e : Expr}
noncomputable def dput (i : Nat) (fk fv : DE) : SS->Option Out:=fun δ=>(fv (z0q δ)).bind fun d=>if d.imm=true then (fk (z0q δ)).bind fun dk=>(match z7N dk,δ[i]? with
  | some k,some (some (.ow (.dct ks ds)))=>if z2Z ds=true∧ks.length < sizeLine then some (.nx ((z0i i δ).set i (some (.ow (.dct (z8j ks k) (z7Y ks ds k d)))))) else none
  | _,_=>none) else none
theorem y1H {K : PySem.W.Frag} {H : Hp} {ds : List D} {xs : List V} {A : List Addr} (t : Trees K H ds xs A) (h : z2Z ds=true) : Trees K H ds xs []:=Reps.immTree (B:=fun _=>False) ds h (t.rep ds fun _ _ z=>z)
theorem s_dput {i : Nat} {fk fv : DE} (hu : X.A.units + 64 < cLine) (hx : PE X (.Name x px) (z3s i)) (hk : PD X ke fk) (hv : PD X e fv)
    (hs : swapsWith e (some (.Subscript (.Name x px) ke pos')) pos.line X.env=pure false:=by rfl) :
    PS X (.Assign [.Subscript (.Name x px) ke pos'] e pos) (tS X.K H0 B0 fr RX (dput i fk fv)):=
  PS.imp (ps_dput (by omega) hx hk hv hs) fun D σ H z_=>by
    obtain ⟨δ,R,o,rs,q,kk⟩:=z_
    unfold dput at q
    cases e1 : fv (z0q δ) with
    | none=>rw [e1] at q; cases q
    | some d=>
    rw [e1,Option.bind_some] at q
    split at q
    case isFalse=>cases q
    case isTrue hi=>
    cases e2 : fk (z0q δ) with
    | none=>rw [e2] at q; cases q
    | some dk=>
    rw [e2,Option.bind_some] at q
    split at q
    case h_2=>cases q
    case h_1 k ks ds e3 ei=>
    split at q
    case isFalse=>cases q
    case isTrue hc=>
    cases q
    obtain ⟨v0,ev,t0,nd⟩:=rs.ow i _ ei
    unfold Tree at t0
    obtain ⟨a,kvs,A,rfl,ha,ek,ts,eR⟩:=t0
    have ts:=y1H ts hc.1
    refine ⟨noB,z0q δ,d,.no,rs.all,e1,fun v H1 s1 r1=>⟨.ref a,ev,noB,z0q δ,dk,.no,rs.all.mono s1,e2,fun kv H2 s2 r2=>?_⟩⟩
    have ekv:=y1L e3 r2
    subst ekv
    subst ek
    have ha2 : H2 a=some (.dK kvs):=s2 _ _ (s1 _ _ ha)
    refine ⟨a,_,rfl,DPut.k ha2 (by rw [← List.length_map (f:=(·.1))]; exact hc.2),?_⟩
    have haR : a∈R i:=by rw [eR]; exact List.mem_cons_self
    have mu : Mut (H2 a):=by rw [ha2]; exact trivial
    have td : Tree X.K H2 d v []:=(r1.immTree d hi).mono s2
    have tp:=y3k (k:=k) td (ts.mono (s1.trans s2))
    have P:=rs.rewrite (d':=.dct (z8j (kvs.map (·.1)) k) (z7Y (kvs.map (·.1)) ds k d)) (a:=a) (o:=.dK (z7g kvs k v)) (A':=[a]) (s1.trans s2) ei ev haR (by
      unfold Tree
      exact ⟨a,z7g kvs k v,[],rfl,z0c,y3s,Trees.keep (Keep.upd (K:=X.K) (B:=fun x=>x=a) rfl mu).i _ tp fun b hb=>(nomatch hb),rfl⟩) (List.nodup_cons.mpr ⟨fun z=>(nomatch z),List.nodup_nil⟩) fun b hb=>by
        rw [List.mem_singleton.mp hb]; exact .inl haR
    exact kk σ _ _ P.1 P.2
end
end L2
namespace HT
open PySem PySem.Spec PyProof.Rows
section
variable {prog : Program} {w : World} {A : Around} {E : Value->Shared->Prop} {s : Shared}
end
end HT
namespace L2
open PySem PySem.Spec PyProof.Rows
section
variable {X : Cx} {e st : Expr} {te : TE} {tk : TO} {pos p2 : Pos}
variable {f g : DE}
variable {a b : Expr}
noncomputable def catLs : D->D->Option (List D)
  | .lst ds,.lst es=>if ds.length + es.length≤sizeLine then some (ds ++ es) else none
  | _,_=>none
noncomputable def z9V (f g : DE) : DS->Option (List D):=fun δ=>(f δ).bind fun x=>(g δ).bind fun y=>catLs x y
theorem z4u (ha : PD X a f) (hb : PD X b g) : PF X (.BinOp a .Add b pos) (z9V f g):=(pe_op op_cat ha hb).imp fun σ H Q z_=>by
  obtain ⟨B,δ,ds,hB,S,q,k⟩:=z_
  unfold z9V at q
  cases e1 : f δ with
  | none=>rw [e1] at q; cases q
  | some x=>
  rw [e1,Option.bind_some] at q
  cases e2 : g δ with
  | none=>rw [e2] at q; cases q
  | some y=>
  rw [e2,Option.bind_some] at q
  unfold catLs at q
  split at q
  case h_2=>cases q
  case h_1 xs ys=>
  split at q
  case isFalse=>cases q
  case isTrue hl=>
  cases q
  refine ⟨B,δ,_,hB,S,e1,fun v H1 s1 r1=>⟨B,δ,_,hB.mono s1,S.mono s1,e2,fun v2 H2 s2 r2=>?_⟩⟩
  unfold Rep at r1 r2
  obtain ⟨p1,vs,rfl,n1,h1,rs1⟩:=r1
  obtain ⟨p2,ws,rfl,n2,h2,rs2⟩:=r2
  refine ⟨p1,p2,vs,ws,rfl,rfl,s2 _ _ h1,h2,by rw [← rs1.length,← rs2.length]; exact hl,fun p hp=>?_⟩
  exact k p _ _ ((s1.trans s2).trans (z0u hp)) ((s1.trans s2).free hp) z0c (((rs1.mono s2).append rs2).mono (z0u hp))
noncomputable def maxF : List D->Option D
  | [.int i,.int j]=>some (.int (if j > i then j else i))
  | _=>none
noncomputable def minF : List D->Option D
  | [.int i,.int j]=>some (.int (if j < i then j else i))
  | _=>none
theorem oa_min {K : PySem.W.Frag} : OpA K (fun xs H Q=>∃ i j,xs=[.int i,.int j]∧Q (.int (if j < i then j else i)) H) minF:=by
  intro H B ds d vs Q hB hr q k
  unfold minF at q
  split at q
  case h_2=>cases q
  case h_1 i j=>
  cases q
  unfold Reps at hr
  obtain ⟨x,r,rfl,hx,hr⟩:=hr
  obtain ⟨y,rfl,hy⟩:=z5f hr
  unfold Rep at hx hy
  subst hx hy
  exact ⟨i,j,rfl,k _ H (.refl H) (by unfold Rep; rfl)⟩
variable {p : Pos}
theorem pd_min2 (hc : X.calm=true) (hg : Gl X "min") (hm : X.mg "min" = none) (ha : PD X a f) (hb : PD X b g) (he : starEach [a,b] X.env=(false,eval a X.env) :: starEach [b] X.env:=by rfl) (he2 : starEach [b] X.env=[(false,eval b X.env)]:=by rfl) (hpl : (backTo pos (starEach [b] X.env)).any (·.1)=false:=by rfl) : PD X (.Call (.Name "min" p) [a,b] [] pos) (z0r minF [f,g]):=
  z8N (y0V hc) oa_min hg hm PyProof.Rows.Boot.«min» (z0b ha (z0b hb z0k he2) he) (by decide) (by decide) he hpl
end
end L2
namespace L2
open PySem PySem.Spec PyProof.Rows
section
variable {X : Cx} {o e : Expr} {apos cpos : Pos}
noncomputable def rLIx (K : PySem.W.Frag) : V->List V->Hp->VK->Prop:=fun x vs H Q=>∃ (a : Addr) (ns : List Int) (i : Int) (j : Nat),x = .ref a∧vs=[.int i]∧SqL K H a (ns.map V.int)∧ns.findIdx? (fun n=>n == i)=some j∧Q (.int (j : Int)) H
theorem y0r : MtR X "list.index" (rLIx X.K):=by
  intro pins s σ H x vs v us Q I rx rv h
  obtain ⟨a,ns,i,j,rfl,rfl,hq,hj,q⟩:=h
  cases rx
  obtain ⟨u,rfl,ru⟩:=rv.one
  obtain ⟨ut,rfl⟩:=ru
  obtain ⟨its,r,⟨⟨cls,dct,dat,sl⟩,n,e,c,d,hd⟩,hz⟩:=I.list hq
  have c : cls = .type "list" := c
  have hd : dat = .seq its.toArray n:=hd
  subst c; subst hd
  obtain ⟨hjl,hji,hjm⟩:=List.findIdx?_eq_some_iff_getElem.mp hj
  have hl : ns.length=its.length:=by have:=r.length; simpa using this
  have hj2 : j < its.length:=by omega
  rw [sizeLine_eq,List.length_map] at hz
  refine call_meets F.slot_list_index ⟨_,e,rfl⟩ F.entry_list_index (F.args_list_index_2 _ _) (SeqAt.list_indexAt a its.toArray n dct sl (.int i ut) (isI i) j (by simpa using hj2) (by omega) ?_ ?_) ⟨e,?_,?_⟩
  · obtain ⟨t,h2,e2⟩:=z8b r j hj2
    simp [e2,isI]
    simpa using hji
  · intro m hm hmj
    obtain ⟨t,h2,e2⟩:=z8b r m (by omega)
    have:=hjm m hmj
    simp [e2,isI]
    simpa using this
  · intro y hy
    obtain ⟨k,hk,rfl⟩:=List.getElem_of_mem (show y∈its by simpa using hy)
    obtain ⟨t,h2,e2⟩:=z8b r k hk
    rw [e2]
    exact SeqAt.EqAt.int_int _ _ _ _
  · exact ⟨.int (j : Int),H,I.tok _,⟨_,rfl⟩,q⟩
noncomputable def lixF : D->D->Option D
  | .lst ds,.int i=>(z4w ds).bind fun ns=>(ns.findIdx? (fun n=>n == i)).map fun j=>.int (j : Int)
  | _,_=>none
theorem y1v {f g : DE} (ho : PD X o f) (he : PD X e g) (hbase : attributeBase o "index" X.env (eval o X.env)=eval o X.env:=by rfl)
    (hfew : ((backTo cpos (starEach [e] X.env)).all (fun x=>!x.1) && (backToKw cpos (keywordEach [] X.env)).all (fun x=>x.1.isSome) && decide ([e].length + ([] : List Keyword).length + (if ([] : List Keyword).isEmpty then 0 else 1) < 30))=true:=by rfl)
    (hline : (apos.endLine == cpos.line)=true:=by rfl) (hs : starEach [e] X.env=(false,eval e X.env) :: starEach [] X.env:=by rfl) :
    PD X (.Call (.Attribute o "index" apos) [e] [] cpos) (d2 lixF f g):=
  (z9y PySem.F.plainAttrs_list PySem.F.slot_list_index PySem.F.type_list_index y0r ho (z0y he pa_nil hs) hbase hfew hline hs rfl).imp fun σ H Q z_=>by
    obtain ⟨B,δ,d,hB,S,q,k⟩:=z_
    obtain ⟨x,y,e1,e2,e3⟩:=z6z q
    unfold lixF at e3
    split at e3
    case h_2=>cases e3
    case h_1 ds i=>
    cases e4 : z4w ds with
    | none=>rw [e4] at e3; cases e3
    | some ns=>
    rw [e4,Option.bind_some] at e3
    cases e5 : ns.findIdx? (fun n=>n == i) with
    | none=>rw [e5] at e3; cases e3
    | some j=>
    rw [e5] at e3
    cases e3
    have eds:=z5m e4
    subst eds
    refine ⟨B,δ,_,hB,S,e1,fun v H1 s1 r1=>?_⟩
    unfold Rep at r1
    obtain ⟨a,xs,rfl,nb,hq,rs⟩:=r1
    have ex:=z5W rs
    subst ex
    refine ⟨.inl ⟨rfl,_,SqL.of hq⟩,B,δ,_,hB.mono s1,S.mono s1,e2,fun v2 H2 s2 r2=>?_⟩
    unfold Rep at r2
    subst r2
    exact ⟨a,ns,i,j,rfl,rfl,SqL.of (s2 _ _ hq),e5,k _ H2 (s1.trans s2) (by unfold Rep; rfl)⟩
end
end L2
namespace L2
open PySem PySem.Spec PyProof.Rows
section
variable {X : Cx} {H0 : Hp} {B0 : Addr->Prop} {fr : Bool} {RX : XR} {e : Expr} {pos : Pos} {f : DE}
end
end L2
namespace L2
open PySem PySem.Spec PyProof.Rows
section
variable {X : Cx} {tg : Expr}
end
noncomputable def z3Q (c : DS->Option Bool) (b : SS->Option Out) : Nat->SS->Option Out
  | 0,_=>none
  | n + 1,δ=>(c (z0q δ)).bind fun k=>if k=true then (b δ).bind fun o=>(match o with
    | .nx δ'=>z3Q c b n δ'
    | .ct δ'=>z3Q c b n δ'
    | .bk δ'=>some (.nx δ')
    | .rt d=>some (.rt d)
    | .rb d δ'=>some (.rb d δ')
    | .ex c δ'=>some (.ex c δ')) else some (.nx δ)
section
variable {X : Cx} {H0 : Hp} {B0 : Addr->Prop} {fr : Bool} {RX : XR} {pos : Pos}
theorem s_while {c : Expr} {body : List Stmt} {fc : DS->Option Bool} {g : SS->Option Out} (n : Nat) (hp : PassesOwn (model X.prog X.w) X.A X.env X.xe) (hc : PTD X c fc) (hb : PSs X body (tS X.K H0 B0 fr RX g)) : PS X (.While c body [] pos) (tS X.K H0 B0 fr RX (z3Q fc g n)):=
  PS.imp (y2J hp hc hb) fun D σ H z_=>by
    obtain ⟨δ,R,o,rs,q,k⟩:=z_
    refine ⟨fun m σ' H'=>∃ δ' R',RS X.K H0 B0 H' σ' δ' R'∧Stp R H R' H'∧z3Q fc g m δ'=some o,⟨n,δ,R,rs,.refl R H,q⟩,?_⟩
    rintro m σ' H' ⟨δ',R',rs',s',q'⟩
    cases m with
    | zero=>cases q'
    | succ m=>
      unfold z3Q at q'
      cases ec : fc (z0q δ') with
      | none=>rw [ec] at q'; cases q'
      | some kk=>
        rw [ec,Option.bind_some] at q'
        refine ⟨noB,z0q δ',kk,.no,rs'.all,ec,fun H1 s1=>?_⟩
        have rs1:=rs'.mono s1
        have st1 : Stp R H R' H1:=s'.trans (.same s1)
        cases kk with
        | false=>
          rw [if_neg Bool.false_ne_true] at q'
          cases q'
          exact k σ' H1 R' rs1 st1
        | true=>
          rw [if_pos rfl] at q'
          cases eb : g δ' with
          | none=>rw [eb] at q'; cases q'
          | some ob=>
            rw [eb,Option.bind_some] at q'
            refine ⟨fun σ2 H2=>∃ δ2 R2,RS X.K H0 B0 H2 σ2 δ2 R2∧Stp R H R2 H2∧z3Q fc g m δ2=some o,fun σ2 H2 z=>⟨m,Nat.lt_succ_self m,z⟩,δ',R',ob,rs1,eb,?_⟩
            cases ob with
            | nx δ2=>exact fun σ3 H3 R3 rs3 s3=>⟨δ2,R3,rs3,st1.trans s3,q'⟩
            | ct δ2=>exact fun σ3 H3 R3 rs3 s3=>⟨δ2,R3,rs3,st1.trans s3,q'⟩
            | bk δ2=>
              cases q'
              exact fun σ3 H3 R3 rs3 s3=>k σ3 H3 R3 rs3 (st1.trans s3)
            | rt d=>
              cases q'
              exact k.back st1
            | rb d δ2=>
              cases q'
              exact k.back st1
            | ex c δ2=>
              cases q'
              exact k.back st1
noncomputable def isN : D->Bool
  | .non=>true
  | _=>false
theorem y1p {K : PySem.W.Frag} {H : Hp} {B : Addr->Prop} {d : D} {v : V} (r : Rep K H B d v) : decide (v=V.non)=isN d:=by
  cases d with
  | non=>unfold Rep at r; subst r; rfl
  | bl b=>unfold Rep at r; subst r; rfl
  | int i=>unfold Rep at r; subst r; rfl
  | str x=>unfold Rep at r; subst r; rfl
  | lst ds=>unfold Rep at r; obtain ⟨a,xs,rfl,_⟩:=r; rfl
  | tup ds=>unfold Rep at r; obtain ⟨a,xs,rfl,_⟩:=r; rfl
  | scr ns=>unfold Rep at r; obtain ⟨a,rfl,_⟩:=r; rfl
  | dct ks ds=>unfold Rep at r; obtain ⟨a,kvs,rfl,_⟩:=r; rfl
  | exc x=>unfold Rep at r; obtain ⟨a,C,rfl,_⟩:=r; rfl
  | obj x a ks ds=>unfold Rep at r; obtain ⟨C,dx,fs,_,_,⟨rfl,_⟩,_⟩:=r; rfl
  | cel a ds=>unfold Rep at r; obtain ⟨xs,_,_,rfl,_⟩:=r; rfl
noncomputable def dIsN (f : DE) : DS->Option Bool:=fun δ=>(f δ).map isN
noncomputable def y1u (f : DE) : DS->Option Bool:=fun δ=>(f δ).map fun d=>!isN d
variable {a : Expr} {f : DE}
theorem y0E {j pos'} (ha : PD X a f) (hm : behindInMarks .Is (.Constant .none j pos')=false:=by rfl) : PTD X (.Compare a [.Is] [.Constant .none j pos'] pos) (dIsN f):=(y0m (pc_isN ha) hm).imp fun σ H Q z_=>by
  obtain ⟨B,δ,c,hB,S,q,k⟩:=z_
  unfold dIsN at q
  cases e : f δ with
  | none=>rw [e] at q; cases q
  | some d=>
    rw [e] at q
    cases q
    refine ⟨B,δ,d,hB,S,e,fun v H1 s1 r1=>⟨_,rfl,?_⟩⟩
    rw [y1p r1]
    exact k H1 s1
theorem z9p {j pos'} (ha : PD X a f) (hm : behindInMarks .IsNot (.Constant .none j pos')=false:=by rfl) : PTD X (.Compare a [.IsNot] [.Constant .none j pos'] pos) (y1u f):=(y0m (pc_notN ha) hm).imp fun σ H Q z_=>by
  obtain ⟨B,δ,c,hB,S,q,k⟩:=z_
  unfold y1u at q
  cases e : f δ with
  | none=>rw [e] at q; cases q
  | some d=>
    rw [e] at q
    cases q
    refine ⟨B,δ,d,hB,S,e,fun v H1 s1 r1=>⟨_,rfl,?_⟩⟩
    rw [y1p r1]
    exact k H1 s1
end
end L2
namespace L2
open PySem PySem.Spec PyProof.Rows
section
variable {X : Cx} {a b : Expr} {f g : DE} {pos : Pos}
variable {H0 : Hp} {B0 : Addr->Prop} {fr : Bool} {RX : XR} {x : Str} {px ap cp : Pos} {e : Expr}
end
end L2
namespace L2
open PySem PySem.Spec PyProof.Rows
section
variable {prog : Program} {w : World} {A : Around} {E : Value->Shared->Prop} {s : Shared}
end
section
variable {X : Cx}
variable {e : Expr} {f : DE} {p pos : Pos}
end
end L2
namespace L2
open PySem PySem.Spec PyProof.Rows
section
variable {prog : Program} {w : World} {A : Around} {s : Shared} {R : Result->Shared->Prop}
variable {I : Addr} {fp wr : List Addr} {G : Array GenState->Array GenState->Prop} {n : Nat} {P : Nat->Value->Prop} {St : Nat->Shared->Prop}
end
section
variable {prog : Program} {w : World} {A : Around} {E : Value->Shared->Prop} {s : Shared}
end
section
variable {X : Cx}
end
end L2
namespace L2
open PySem PySem.Spec PyProof.Rows
noncomputable def Thr (h : Heap) (e T : Addr) (cls : Value) : Prop:=∃ oe vs oT ts,h.get? e=some oe∧oe.cls=cls∧oe.data = .fields vs∧vs[1]? = some (.ref T)∧T≠e∧h.get? T=some oT∧oT.data = .fields ts∧ts[3]? = some .none∧oe.dict=none
noncomputable def Thr0 (h : Heap) (e : Addr) (cls : Value) : Prop:=∃ oe vs,h.get? e=some oe∧oe.cls=cls∧oe.data = .fields vs∧vs[1]? = some .none∧oe.dict=none
structure Gone (S ch : List Addr) (e : Addr) (cls : Value) (h h' : Heap) : Prop where
  keep : ∀ b o,b ∉ S->b ∉ ch->h.get? b=some o->h'.get? b=some o
  slot : ∀ b o,b∈S->b ∉ ch->h.get? b=some o->∃ sl,h'.get? b=some { o with slots:=sl }
  there : ∀ b o,h.get? b=some o->∃ o',h'.get? b=some o'
  thr : ∃ T,h.objs.size≤T∧Thr h' e T cls
section
variable {M : Model} {A : Around} {E : Value->Shared->Prop} {s : Shared}
theorem y2K {o : Obj} {f : Array Value->Array Value} (h : o.dict=none) : (Obj.mapFields f o).dict=none:=by
  unfold Obj.mapFields
  split <;> exact h
theorem z9a {base : Heap} {env : Env} {outer : List Env} {L e : Addr} {oe : Obj} {vs : Array Value} {head : Value} {hadNext : Bool} {Q : Unit->Shared->Prop}
    (hfr : A.frames=some (env :: outer)) (hl : s.heap.FunFrames base (env :: outer)) (hf : env.frame=some L)
    (he : s.heap.get? e=some oe) (hd : oe.data = .fields vs) (hsz : 1 < vs.size) (hdn : oe.dict=none)
    (h : ∀ h',Gone (frs (env :: outer)) [e] e oe.cls s.heap h'->Q () { s with heap:=h' }) :
    wpAny M A (do let a ← frameOf env; let pl ← entryPlaceOf L hadNext; let b ← EntryCells.newEntry head a .none (rawInt L) .none pl; setField (.ref e) 1 b) (fun _ s'=>wpAny M A (setFlight (.ref e) none) Q E s') E s:=by
  have hene : e ∉ frs (env :: outer):=fun hm=>by
    obtain ⟨_,o,ho,hnf⟩:=hl.mem hm
    rw [he] at ho; injection ho with ho; subst ho; exact hnf vs hd
  refine wpAny_bind (wpAny_frameOf_fun hfr hl hf fun h₁ hs₁=>?_)
  refine wpAny_bind (wpAny_entryPlaceOf fun pl hpl=>?_)
  unfold EntryCells.newEntry newFields
  refine wpAny_bind (wpAny_newObj_type ?_ (hpl.sizeOk5 _ _ _ _ _))
  have he₁ : h₁.get? e=some oe:=(hs₁.2.1 e hene).trans he
  generalize hob : ({ cls:=.type "traceback",dict:=none,data:=.fields ([head,.ref L,.none,rawInt L,.none] ++ (if pl.isEmpty then List.replicate 6 Value.none else pl)).toArray } : Obj)=ob
  have hobd : ob.data = .fields ([head,.ref L,.none,rawInt L,.none] ++ (if pl.isEmpty then List.replicate 6 Value.none else pl)).toArray:=by rw [← hob]
  have hobf : ob.isFreed=false:=by rw [← hob]; rfl
  have he₂:=Heap.get?_push_of_some (h:=h₁) ob he₁
  refine wpAny_setField he₂ hd hsz ?_
  have hTe : h₁.objs.size≠e:=Nat.ne_of_gt (Heap.lt_size he₁)
  have hd₃:=Obj.data_mapFields hd (·.setIfInBounds 1 (Value.ref h₁.objs.size))
  have he₃:=Heap.get?_update_self (Obj.mapFields (·.setIfInBounds 1 (Value.ref h₁.objs.size))) he₂ (Obj.isFreed_of_fields hd₃)
  have hT₃:=(Heap.get?_update_other (h₁.push ob) (Obj.mapFields (·.setIfInBounds 1 (Value.ref h₁.objs.size))) (Ne.symm hTe)).trans (Heap.get?_push_size h₁ hobf)
  unfold setFlight
  refine wpAny_bind (wpAny_field he₃ hd₃ (x:=.ref h₁.objs.size) (by simp [hsz]) ?_)
  rw [if_pos (show (Value.ref h₁.objs.size != Value.none)=true from by simp)]
  refine wpAny_setField hT₃ hobd (by simp only [List.size_toArray,List.length_append,List.length_cons,List.length_nil] <;> omega) (h _ ?_)
  have keep : ∀ b o,b≠e->h₁.get? b=some o →
      (((h₁.push ob).update e (Obj.mapFields (·.setIfInBounds 1 (Value.ref h₁.objs.size)))).update h₁.objs.size (Obj.mapFields (·.setIfInBounds 3 ((none : Option Addr).elim Value.none fun f=>rawInt f)))).get? b=some o:=fun b o hbe hb=>by
    have hbT : h₁.objs.size≠b:=Nat.ne_of_gt (Heap.lt_size hb)
    rw [Heap.get?_update_other _ _ hbT,Heap.get?_update_other _ _ (Ne.symm hbe)]
    exact Heap.get?_push_of_some _ hb
  have heF : (((h₁.push ob).update e (Obj.mapFields (·.setIfInBounds 1 (Value.ref h₁.objs.size)))).update h₁.objs.size (Obj.mapFields (·.setIfInBounds 3 ((none : Option Addr).elim Value.none fun f=>rawInt f)))).get? e=some (Obj.mapFields (·.setIfInBounds 1 (Value.ref h₁.objs.size)) oe):=by
    rw [Heap.get?_update_other _ _ hTe]; exact he₃
  refine ⟨fun b o hb hc e1=>?_,fun b o hb hc e1=>?_,fun b o e1=>?_,h₁.objs.size,?_,?_⟩
  · exact keep b o (fun z=>hc (by simp [z])) ((hs₁.2.1 b hb).trans e1)
  · obtain ⟨sl,e2⟩:=hs₁.2.2 b o e1
    exact ⟨sl,keep b _ (fun z=>hc (by simp [z])) e2⟩
  · by_cases hb : b=e
    · exact ⟨Obj.mapFields (·.setIfInBounds 1 (Value.ref h₁.objs.size)) oe,by rw [hb]; exact heF⟩
    · obtain ⟨sl,e2⟩:=hs₁.2.2 b o e1
      exact ⟨_,keep b _ hb e2⟩
  · rw [hs₁.1]
    exact Nat.le_refl _
  · exact ⟨_,_,_,_,heF,Obj.cls_mapFields _ _,hd₃,by simp [hsz],hTe,Heap.get?_update_self _ hT₃ (Obj.isFreed_of_fields (Obj.data_mapFields hobd _)),Obj.data_mapFields hobd _,by first | (simp; done) | (rcases hpl with rfl | ⟨_,_,_,_,_,_,_,rfl⟩ <;> simp),y2K hdn⟩
theorem z9t {base : Heap} {env : Env} {outer : List Env} {L e : Addr} {cls : Value} {Q : Unit->Shared->Prop}
    (hfr : A.frames=some (env :: outer)) (hl : s.heap.FunFrames base (env :: outer)) (hf : env.frame=some L) (ht : Thr0 s.heap e cls)
    (h : ∀ h',Gone (frs (env :: outer)) [e] e cls s.heap h'->Q () { s with heap:=h' }) : wpAny M A (noteFrame (.ref e) env) (fun _ s'=>wpAny M A (setFlight (.ref e) none) Q E s') E s:=by
  obtain ⟨oe,vs,he,rfl,hd,h1,hdn⟩:=ht
  unfold noteFrame
  simp only [hf]
  refine wpAny_bind (wpAny_field he hd h1 ?_)
  rw [if_neg (by decide)]
  exact z9a hfr hl hf he hd (Array.getElem?_eq_some_iff.mp h1).1 hdn h
theorem z7o {base : Heap} {env : Env} {outer : List Env} {L e T : Addr} {cls : Value} {Q : Unit->Shared->Prop}
    (hfr : A.frames=some (env :: outer)) (hl : s.heap.FunFrames base (env :: outer)) (hf : env.frame=some L) (ht : Thr s.heap e T cls)
    (h : ∀ h',Gone (frs (env :: outer)) [e,T] e cls s.heap h'->Q () { s with heap:=h' }) : wpAny M A (noteFrame (.ref e) env) (fun _ s'=>wpAny M A (setFlight (.ref e) none) Q E s') E s:=by
  obtain ⟨oe,vs,oT,ts,he,rfl,hd,h1,hTe,hT,hdT,h3,hdn⟩:=ht
  unfold noteFrame
  simp only [hf]
  refine wpAny_bind (wpAny_field he hd h1 ?_)
  rw [if_pos (show (Value.ref T != Value.none)=true from by simp)]
  refine wpAny_bind (wpAny_field hT hdT h3 ?_)
  rw [if_neg (show ¬ ((Value.none == rawInt L)=true) from by simp [rawInt])]
  refine wpAny_bind (wpAny_setField hT hdT (Array.getElem?_eq_some_iff.mp h3).1 ?_)
  have other : ∀ b,b≠T->(s.heap.update T (Obj.mapFields (·.setIfInBounds 3 Value.none))).get? b=s.heap.get? b:=fun b hb=>Heap.get?_update_other _ _ (Ne.symm hb)
  have noRecord : ∀ b o,s.heap.get? b=some o->(∀ vs,o.data≠.fields vs)->b≠T:=fun b o hb hnf q=>by
    rw [q,hT] at hb; injection hb with hb; subst hb; exact hnf ts hdT
  refine z9a hfr (hl.of_keeps fun b o hb hnf=>⟨o,(other b (noRecord b o hb hnf)).trans hb,rfl⟩) hf ((other e (Ne.symm hTe)).trans he) hd (Array.getElem?_eq_some_iff.mp h1).1 hdn fun h' G=>h h' ?_
  refine ⟨fun b o hb hc e1=>G.keep b o hb (fun z=>hc (List.mem_cons.mpr (.inl (List.mem_singleton.mp z)))) ((other b fun z=>hc (by simp [z])).trans e1),fun b o hb hc e1=>G.slot b o hb (fun z=>hc (List.mem_cons.mpr (.inl (List.mem_singleton.mp z)))) ((other b fun z=>hc (by simp [z])).trans e1),fun b o e1=>?_,?_⟩
  · by_cases hb : b=T
    · have e2 : (s.heap.update T (Obj.mapFields (·.setIfInBounds 3 Value.none))).get? b=some (Obj.mapFields (·.setIfInBounds 3 Value.none) oT):=by
        rw [hb]
        exact Heap.get?_update_self _ hT (Obj.isFreed_of_fields (Obj.data_mapFields hdT _))
      exact G.there b _ e2
    · exact G.there b o ((other b hb).trans e1)
  · obtain ⟨T',h1,h2⟩:=G.thr
    exact ⟨T',by rwa [Heap.size_after_update] at h1,h2⟩
theorem z5G {env : Env} {e : Value} {Q : Unit->Shared->Prop} (h : wpAny M A (noteFrame e env) (fun _ s'=>wpAny M A (setFlight e none) Q E s') E s) : wpAny M A (leaving env e) Q E s:=by
  unfold leaving
  exact wpAny_bind h
end
end L2
namespace L2
open PySem PySem.Spec PyProof.Rows
theorem ObjOk.some {P : Program} {w : World} {H : Hp} {h : Heap} {a : Addr} {o : HO} (x : ObjOk P w H h a o) : ∃ ob,h.get? a=Option.some ob:=by
  cases q : h.get? a with
  | some ob=>exact ⟨ob,rfl⟩
  | none=>
    have y : ObjOk P w H h a o:=x
    induction o with
    | lst xs=>obtain ⟨_,_,_,_,e⟩:=x; rw [q] at e; cases e
    | tup xs=>obtain ⟨_,_,_,_,e,_⟩:=x; rw [q] at e; cases e
    | dK kvs=>obtain ⟨_,_,_,_,_,_,_,e,_⟩:=x; rw [q] at e; cases e
    | dT kvs=>obtain ⟨_,_,_,_,_,_,_,e,_⟩:=x; rw [q] at e; cases e
    | set S n=>obtain ⟨_,_,_,_,e,_⟩:=x; rw [q] at e; cases e
    | ins C dx fs=>obtain ⟨_,_,_,e,_⟩:=x; rw [q] at e; cases e
    | own y=>obtain ⟨_,e⟩:=x; rw [q] at e; cases e
    | xd fs=>obtain ⟨_,⟨_,_,_,e,_⟩,_⟩:=x; rw [q] at e; cases e
    | met f y=>have e:=x; unfold ObjOk at e; rw [q] at e; cases e
    | rng lo hi=>obtain ⟨_,_,_,e⟩:=x; rw [q] at e; cases e
    | frz ob u ih=>have e:=x.1; rw [q] at e; cases e
    | tbl ps=>have e:=x; unfold ObjOk at e; rw [q] at e; cases e
    | ext φ=>obtain ⟨_,⟨_,e⟩,_⟩:=x; rw [q] at e; cases e
section
variable {X : Cx} {pins : List (Addr × Obj)} {σ : St} {H : Hp} {s : Shared}
noncomputable def FpX (X : Cx) (pins : List (Addr × Obj)) (H : Hp) (b : Addr) : Prop:=
  H b=none∧b≠X.env.locals∧(b∈X.ex∨X.s₀.heap.get? b=none)∧(∀ x c,X.env.cells.lookup x=some c->c≠b)∧∀ p∈X.pn ++ pins,p.1≠b
theorem Inv.fpX {H' : Hp} {b : Addr} (I : Inv X pins σ H s) (hb : s.heap.get? b=none) (hn : H' b=none) : FpX X pins H' b:=by
  refine ⟨hn,fun z=>?_,?_,fun x c e z=>?_,fun p hp z=>?_⟩
  · obtain ⟨m,⟨o,_,_,ho,_⟩,_⟩:=I.loc
    rw [← z,hb] at ho
    cases ho
  · by_cases hx : b∈X.ex
    · exact .inl hx
    · refine .inr ?_
      cases q : X.s₀.heap.get? b with
      | none=>rfl
      | some o=>
        obtain ⟨o',e⟩:=I.base.there b o q hx
        rw [hb] at e
        cases e
  · obtain ⟨v,o,ho,_⟩:=I.cell x c e
    rw [z,hb] at ho
    cases ho
  · have:=(I.pin p hp).1
    rw [z,hb] at this
    cases this
theorem Inv.fresh0 {b : Addr} (I : Inv X pins σ H s) (hb : s.heap.get? b=none) : H b=none:=by
  cases q : H b with
  | none=>rfl
  | some u=>
    obtain ⟨o,e⟩:=(I.hok b u q).some
    rw [hb] at e
    cases e
theorem Inv.gone {ch : List Addr} {e : Addr} {cls : Value} {h' : Heap} (I : Inv X pins σ H s) (G : Gone (frs X.stack) ch e cls s.heap h') (hch : ∀ b∈ch,FpX X pins H b) : Inv X pins σ H { s with heap:=h' }:=by
  have nS : ∀ b u,H b=some u->b ∉ frs X.stack:=fun b u q z=>by rw [I.stkFree b z] at q; cases q
  have nC : ∀ b u,H b=some u->b ∉ ch:=fun b u q z=>by rw [(hch b z).1] at q; cases q
  have hok : HOk X.prog X.w H h':=fun b u q=>(I.hok b u q).stay (fun c v hc e=>by
    rcases hc with rfl | z
    · exact G.keep _ v (nS _ u q) (nC _ u q) e
    · exact G.keep c v (nS c _ z) (nC c _ z) e) (fun _ q=>q) fun _ _ q=>q
  have any : ∀ b o,b ∉ ch->s.heap.get? b=some o->∃ sl,h'.get? b=some { o with slots:=sl }:=fun b o hc q=>by
    by_cases hb : b∈frs X.stack
    · exact G.slot b o hb hc q
    · exact ⟨o.slots,G.keep b o hb hc q⟩
  have new : ∀ b o,X.s₀.heap.get? b=some o->b ∉ X.ex->b ∉ ch:=fun b o q hx z=>by
    rcases (hch b z).2.2.1 with y | y
    · exact hx y
    · rw [y] at q; cases q
  have kp : ∀ b o,b≠X.env.locals->b ∉ X.fs->b ∉ ch->s.heap.get? b=some o->h'.get? b=some o:=fun b o hL hb hc q=>
    G.keep b o (fun z=>(List.mem_cons.mp (I.stkSub b z)).elim hL hb) hc q
  have old : ∀ b o,X.s₀.heap.get? b=some o->b≠X.env.locals:=fun b o q=>Nat.ne_of_lt (Nat.lt_of_lt_of_le (Heap.lt_size q) I.ok.above)
  have cellK : ∀ x c,X.env.cells.lookup x=some c->∀ v,s.heap.IsCell c v->h'.IsCell c v:=fun x c q v z_=>by
    obtain ⟨o,ho,hd⟩:=z_
    obtain ⟨sl,y⟩:=any c o (fun z=>(hch c z).2.2.2.1 x c q rfl) ho
    exact ⟨_,y,hd⟩
  refine ⟨I.ok,I.os,I.bare,⟨?_,?_,fun b o q n hx=>I.base.free b o q n hx,?_,I.base.tups,I.base.frzs,I.base.tbls⟩,?_,?_,I.free,I.freeC,?_,hok,I.len⟩
  · exact fun b o q n hb hx=>kp b o (old b o q) hb (new b o q hx) (I.base.keep b o q n hb hx)
  · intro b o q n hb hx
    obtain ⟨sl,q1⟩:=I.base.slot b o q n hb hx
    obtain ⟨sl',q2⟩:=any b _ (new b o q hx) q1
    exact ⟨sl',q2⟩
  · intro b o q hx
    obtain ⟨o',q1⟩:=I.base.there b o q hx
    exact G.there b o' q1
  · obtain ⟨m,⟨o,es,ep,ho,r⟩,hl⟩:=I.loc
    obtain ⟨sl,hL⟩:=any _ o (fun z=>(hch _ z).2.1 rfl) ho
    refine ⟨m,⟨_,es,ep,hL,r⟩,fun i x v e1 e2 e3=>?_⟩
    obtain ⟨u,r,l⟩:=hl i x v e1 e2 e3
    exact ⟨u,r,l.imp id fun ⟨k,c,q,z⟩=>⟨k,c,q,cellK x c q _ z⟩⟩
  · intro x c q
    obtain ⟨v,z⟩:=I.cell x c q
    exact ⟨v,cellK x c q v z⟩
  · intro p hp
    obtain ⟨q,n,ne,nf,d⟩:=I.pin p hp
    exact ⟨kp p.1 p.2 ne nf (fun z=>(hch p.1 z).2.2.2.2 p hp rfl) q,n,ne,nf,d⟩
end
noncomputable def CXE (P : Program) (w : World) : CXT:=fun outer H s E e s'=>∃ (ea T : Addr) (cls : Value) (H' : Hp),e = .ref ea∧s'.os=s.os∧AllBare s'.gens∧Un (frs outer) [] H H' s.heap s'.heap∧HOk P w H' s'.heap ∧
  s.heap.get? ea=none∧s.heap.get? T=none∧H' ea=none∧H' T=none∧Thr s'.heap ea T cls∧E cls none H'
section
variable {P : Program} {w : World} {K : PySem.W.Frag} {mg : Str->Option Value} {base : Heap} {N : List Str} {qual : Str} {scope : Scope} {f : Addr} {cd : Value} {A : Around} {outer : List Env} {s : Shared} {H : Hp} {E : XK}
theorem y1T {pins : List (Addr × Obj)} {σ : St} {H1 : Hp} {s1 : Shared} {e : Addr} {cls : Value} (I : Inv (z6I (CXE P w) P w K mg base N qual scope f cd A outer s H E) pins σ H1 s1)
    (hf : FpX (z6I (CXE P w) P w K mg base N qual scope f cd A outer s H E) pins H1 e) (ht : Thr0 s1.heap e cls) (hE : E cls none H1) : (z6I (CXE P w) P w K mg base N qual scope f cd A outer s H E).xe (.ref e) s1:=by
  refine z5G (z9t (base:=base) (outer:=outer) I.ok.frames I.stack rfl ht fun h' G=>?_)
  have I':=I.gone G fun b hb=>by rw [List.mem_singleton.mp hb]; exact hf
  obtain ⟨T,hT,th⟩:=G.thr
  have he : s.heap.get? e=none:=by
    rcases hf.2.2.1 with z | z
    · exact absurd (show e∈([] : List Addr) from z) (by simp)
    · exact z
  exact ⟨e,T,cls,H1,rfl,I'.os,I'.bare,I'.base,I'.hok,he,Heap.get?_none_of_le (Nat.le_trans I.sz hT),hf.1,I.hok.fresh hT,th,hE⟩
end
end L2
namespace L2
open PySem PySem.Spec PyProof.Rows
section
variable {X : Cx} {x : Str} {C : Addr} {B Bn newId nid initId inN : String} {bm bmN : List Value} {np cpos pos : Pos} {e₀ : Expr} {te : TE}
noncomputable def tRaise (te : TE) (R : St->Hp->Prop) : TS:=fun _ σ H=>te σ H fun _ H1=>R σ H1
noncomputable def Want (X : Cx) (C : Addr) (R : St->Hp->Prop) : Prop:=∀ (pins : List (Addr × Obj)) (σ : St) (H : Hp) (s : Shared) (e : Addr),Inv X pins σ H s->FpX X pins H e->Thr0 s.heap e (.ref C)->R σ H->X.xe (.ref e) s
theorem y2s {R : St->Hp->Prop} (hc : X.calm=true) (hg : Gl X x) (O : OwnCls x C bm newId X.mg X.base) (Fn : ExcBaseFacts Bn newId inN bmN) (hBn : bm.contains (.type Bn)=true) (FB : ExcBaseFacts B nid initId bm) (hW : Want X C R) (h : PE X e₀ te)
    (he : starEach [e₀] X.env=[(false,eval e₀ X.env)]:=by rfl) (hd : (x == ("__debug__" : Str))=false:=by decide) : PS X (.Raise (some (.Call (.Name x np) [e₀] [] cpos)) none pos) (tRaise te R):=by
  intro pins s σ H D I hq
  obtain ⟨tl,N,nm,q,bs,hdct,sn,sub,ab,col,dd,k0,k1,k2,k3,k5,mN,hC,hN,hni,T⟩:=O.obj
  refine wpAny_Raise_call_subU (C:=C) (nm:=nm) (q:=q) (N:=N) (bs:=bs) (bm:=tl) (hdct:=hdct) (sn:=sn) (sub:=sub) (ab:=ab) (col:=col) (dd:=dd) (k0:=k0) (k1:=k1) (k2:=k2) (k3:=k3) (k5:=k5)
    Fn hBn FB (mN:=mN) (T.hasType FB.hasBase) (I.ok.hd hc) (by rw [he]; rfl) hni (z4c I hg O.bound ⟨rfl,?_⟩ hd)
  have ha:=(z0y h pa_nil he) cpos pins s σ H (fun vs H1=>match vs with
    | [_]=>R σ H1
    | _=>False) I hq
  rw [he] at ha ⊢
  refine Calls.evalArgs_plain (thn ha fun us s2 ⟨vs,H2,I2,r2,q2⟩=>?_)
  cases r2 with
  | nil=>exact (show False from q2).elim
  | cons r r3=>
    cases r3 with
    | cons _ _=>exact (show False from q2).elim
    | nil=>
      refine ⟨rfl,by show 1≤sizeLine; rw [sizeLine_eq]; omega,I2.bk _ _ hC,hN.keeps I2.bk,T.keeps I2.bk,fun h' e hm=>?_⟩
      obtain ⟨t,he',_⟩:=hm.there
      have I3 : Inv X pins σ H2 { s2 with heap:=h' }:=I2.kept (t':=s2.toks) hm.keeps
      exact hW pins σ H2 _ e I3 (I2.fpX hm.new (I2.fresh0 hm.new)) ⟨_,_,he',rfl,rfl,rfl,rfl⟩ q2
variable {H0 : Hp} {B0 : Addr->Prop} {fr : Bool} {RX : XR}
noncomputable def z2Q (c : Nat) (f : DE) : SS->Option Out:=fun δ=>(f (z0q δ)).map fun _=>.ex c δ
theorem s_raise {c : Nat} {f : DE} (hc : X.calm=true) (hg : Gl X x) (O : OwnCls x C bm newId X.mg X.base) (Fn : ExcBaseFacts Bn newId inN bmN) (hBn : bm.contains (.type Bn)=true) (FB : ExcBaseFacts B nid initId bm) (hW : Want X C (RX c)) (h : PD X e₀ f)
    (he : starEach [e₀] X.env=[(false,eval e₀ X.env)]:=by rfl) (hd : (x == ("__debug__" : Str))=false:=by decide) : PS X (.Raise (some (.Call (.Name x np) [e₀] [] cpos)) none pos) (tS X.K H0 B0 fr RX (z2Q c f)):=
  PS.imp (y2s hc hg O Fn hBn FB hW h he hd) fun D σ H z_=>by
    obtain ⟨δ,R,o,rs,q,k⟩:=z_
    unfold z2Q at q
    cases e : f (z0q δ) with
    | none=>rw [e] at q; cases q
    | some d=>
      rw [e] at q
      cases q
      exact ⟨noB,z0q δ,d,.no,rs.all,e,fun v H1 s1 r1=>k σ H1 R (rs.mono s1) (.same s1)⟩
end
end L2
namespace L2
open PySem PySem.Spec PyProof.Rows
inductive XO where
  | val (d : D) | exc (c : Nat)
noncomputable def spX (K : PySem.W.Frag) (cl : Nat->Value) (m : List D->Option XO) : Sp:=fun vs H Q E=>∃ ds o,Reps K H noB ds vs∧m ds=some o∧(match o with
  | .val d=>∀ v H' A,Same H H'->Tree K H' d v A->A.Nodup->(∀ a∈A,H a=none)->Q v H'
  | .exc c=>∀ H',Same H H'->E (cl c) none H')
noncomputable def y4d (np nl : Nat) (g : SS->Option Out) : List D->Option XO:=fun ds=>if ds.length=np then (match g (ds.map (fun d=>some (.sh d)) ++ List.replicate nl none) with
  | some (.rt d)=>some (.val d)
  | some (.nx _)=>some (.val .non)
  | some (.ex c _)=>some (.exc c)
  | _=>none) else none
theorem z8P {np nl : Nat} {g : SS->Option Out} {ds : List D} {o : XO} (h : y4d np nl g ds=some o) : ds.length=np:=by
  unfold y4d at h
  split at h
  · assumption
  · cases h
noncomputable abbrev y3j (cl : Nat->Value) (E : XK) : XR:=fun c _ H1=>E (cl c) none H1
section
variable {P : Program} {w : World} {K : PySem.W.Frag} {mg : Str->Option Value} {base : Heap}
theorem fnX {x qual : Str} {st : Stmt} {f : Addr} {fd : FuncData} {N ps : List Str} {k np nl : Nat} {g : SS->Option Out} {cl : Nat->Value} (F : Fun K x qual st f fd) (S : FnScope N ps (z0a st)) (hnp : ps.length=np) (hN : N.length=np + nl)
    (hbody : ∀ (cdv : Value) (A : Around) (outer : List Env) (s : Shared) (H : Hp) (E : XK),Room k (A.deeper (envOfC qual (z0a st) s.heap.objs.size f cdv)) →
      PSs (z6I (CXE P w) P w K mg base N qual (z0a st) f cdv A outer s H E) (z0o st) (tS K H noB true (y3j cl E) g)) : FnOk P w K mg base (CXE P w) (k + 1) f fd ps (spX K cl (y4d np nl g)):=by
  obtain ⟨oc,od,kV,doc,pm,an,cdv,ct,osl,rfl,lk,hcd⟩:=F.ex
  refine fn_of lk hcd S (fun vs H Q E h=>?_) fun A outer s H vs Q E hr h=>?_
  · obtain ⟨ds,o,r,e,_⟩:=h
    rw [← r.length,z8P e,hnp]
  · obtain ⟨ds,o,r,e,kk⟩:=h
    refine ⟨_,hbody cdv A outer s H E hr,?_⟩
    have hl:=z8P e
    unfold y4d at e
    rw [if_pos hl] at e
    have rs:=z8Y (nl:=nl) .no r (N:=N) (by omega)
    split at e
    · rename_i d' eg
      cases e
      exact ⟨_,_,_,rs,eg,fun v H' z _=>by
        obtain ⟨A',t,nd,fr⟩:=z.2.1 rfl
        exact kk v H' A' z.1 t nd fr⟩
    · rename_i δ' eg
      cases e
      exact ⟨_,_,_,rs,eg,fun σ' H' R' rs' _=>kk .non H' [] rs'.keep ⟨rfl,rfl⟩ List.nodup_nil (fun a z=>nomatch z)⟩
    · rename_i c δ' eg
      cases e
      exact ⟨_,_,_,rs,eg,fun σ' H' R' rs' _=>kk H' rs'.keep⟩
    · cases e
structure DefX (P : Program) (w : World) (K : PySem.W.Frag) (mg : Str->Option Value) (base : Heap) (k : Nat) (x : Str) (sp : Sp) : Prop where
  ok : ∃ (f : Addr) (fd : FuncData) (ps : List Str),mg x=some (.ref f)∧PySem.W.keepIn K (.ref f)=true∧Binds K fd ps []∧FnOk P w K mg base (CXE P w) k f fd ps sp
noncomputable def XW (X : Cx) (cl : Nat->Value) (RX : XR) : Prop:=∀ (pins : List (Addr × Obj)) (σ : St) (H : Hp) (s : Shared) (ea T : Addr) (c : Nat),Inv X pins σ H s->FpX X pins H ea->FpX X pins H T->Thr s.heap ea T (cl c)->RX c σ H->X.xe (.ref ea) s
theorem y1a {N : List Str} {qual : Str} {scope : Scope} {f : Addr} {cd : Value} {A : Around} {outer : List Env} {s : Shared} {H : Hp} {E : XK} {cl : Nat->Value} : XW (z6I (CXE P w) P w K mg base N qual scope f cd A outer s H E) cl (y3j cl E):=by
  intro pins σ H1 s1 ea T c I fe fT th hE
  refine z5G (z7o (base:=base) (outer:=outer) I.ok.frames I.stack rfl th fun h' G=>?_)
  have I':=I.gone G fun b hb=>by
    rcases List.mem_cons.mp hb with rfl | hb
    · exact fe
    · rw [List.mem_singleton.mp hb]; exact fT
  obtain ⟨T',hT,th'⟩:=G.thr
  have he : s.heap.get? ea=none:=by
    rcases fe.2.2.1 with z | z
    · exact absurd (show ea∈([] : List Addr) from z) (by simp)
    · exact z
  exact ⟨ea,T',cl c,H1,rfl,I'.os,I'.bare,I'.base,I'.hok,he,Heap.get?_none_of_le (Nat.le_trans I.sz hT),fe.1,I.hok.fresh hT,th',hE⟩
theorem z2E {N : List Str} {qual : Str} {scope : Scope} {f C : Addr} {cd : Value} {A : Around} {outer : List Env} {s : Shared} {H : Hp} {E : XK} {cl : Nat->Value} {c : Nat} (hc : cl c = .ref C) : Want (z6I (CXE P w) P w K mg base N qual scope f cd A outer s H E) C (y3j cl E c):=
  fun pins σ H1 s1 e I hf ht hE=>y1T I hf ht (by rw [← hc]; exact hE)
end
section
variable {X : Cx} {k : Nat} {f : Addr} {fd : FuncData} {ps : List Str} {sp : Sp} {cl : Nat->Value} {RX : XR}
theorem z7P {pins : List (Addr × Obj)} {σ : St} {H : Hp} {s : Shared} {Q : VK} {us : List Value} {vs : List V} (F : FnOk X.prog X.w X.K X.mg X.base (CXE X.prog X.w) k f fd ps sp) (hr : Room k X.A) (hb : Binds X.K fd ps []) (hW : XW X cl RX)
    (I : Inv X pins σ H s) (r : Vals vs us) (h : sp vs H Q (fun cls _ H'=>∃ c,cls=cl c∧RX c σ H')) : wpAny (model X.prog X.w) X.A (call (.ref f) us) (EP X pins σ Q) X.xe s:=by
  have hl : us.length=ps.length:=by rw [← r.length]; exact F.len _ _ _ _ h
  have hb':=hb s us I.kIn (by rw [List.append_nil]; exact hl)
  rw [List.append_nil] at hb'
  refine wpAny_call (codeAny_mono (F.run X.A X.stack s H ⟨us,[]⟩ us vs Q _ hr I.env0 hb' r h) fun r s' hq=>?_)
  cases r with
  | error e=>
    obtain ⟨ea,T,cls,H',rfl,os,bare,un,hok,h1,h2,h3,h4,th,c,rfl,rx⟩:=hq
    exact hW pins σ H' s' ea T c (I.call' os un hok bare fun b hb=>nomatch hb) (I.fpX h1 h3) (I.fpX h2 h4) th rx
  | ok fl=>
    cases fl with
    | ret u=>exact I.after hq
    | next=>exact False.elim hq
    | brk=>exact False.elim hq
    | cont=>exact False.elim hq
end
end L2
namespace L2
open PySem PySem.Spec PyProof.Rows
section
variable {X : Cx} {k : Nat} {sp : Sp} {cl : Nat->Value} {RX : XR} {x : Str} {p pos pos2 : Pos} {e : Expr} {es : List Expr} {t : TA}
noncomputable def tCallX (cl : Nat->Value) (RX : XR) (sp : Sp) (t : TA) : TE:=fun σ H Q=>t σ H fun vs H1=>sp vs H1 Q fun cls _ H'=>∃ c,cls=cl c∧RX c σ H'
theorem z9g (G : DefX X.prog X.w X.K X.mg X.base k x sp) (hr : Room k X.A) (hg : Gl X x) (hW : XW X cl RX) (ha : PA X (e :: es) t) (hdb : (x == ("__debug__" : Str))=false:=by decide)
    (he : starEach (e :: es) X.env=(false,eval e X.env) :: starEach es X.env:=by rfl) (hpl : (backTo pos (starEach es X.env)).any (·.1)=false:=by rfl) : PE X (.Call (.Name x p) (e :: es) [] pos) (tCallX cl RX sp t):=by
  obtain ⟨f,fd,ps,hm,hk,hb,ok⟩:=G.ok
  intro pins s σ H Q I h
  refine wpAny_Call_Name_kw (z4c I hg hm ?_ hdb)
  refine PySem.W.callWith_K (h₀:=X.base) I.ok.mod.kin hk (thn (ha pos pins s σ H _ I h) fun us s1 ⟨vs,H1,I1,r,q⟩=>⟨I1.kIn,?_⟩) he hpl
  exact z7P ok hr hb hW I1 r q
noncomputable def tX (K : PySem.W.Frag) (RX : XR) (F : DS->Option XO) : TE:=fun σ H Q=>∃ δ o,RepS K H noB σ δ∧F δ=some o∧(match o with
  | .val d=>∀ v H' A,Same H H'->Tree K H' d v A->A.Nodup->(∀ a∈A,H a=none)->Q v H'
  | .exc c=>∀ H',Same H H'->RX c σ H')
noncomputable def z3L (m : List D->Option XO) (fl : List DE) : DS->Option XO:=fun δ=>(z0n fl δ).bind m
theorem px_call {m : List D->Option XO} {fl : List DE} (G : DefX X.prog X.w X.K X.mg X.base k x (spX X.K cl m)) (hr : Room k X.A) (hg : Gl X x) (hW : XW X cl RX) (ha : PAD X (e :: es) fl) (hdb : (x == ("__debug__" : Str))=false:=by decide)
    (he : starEach (e :: es) X.env=(false,eval e X.env) :: starEach es X.env:=by rfl) (hpl : (backTo pos (starEach es X.env)).any (·.1)=false:=by rfl) : PE X (.Call (.Name x p) (e :: es) [] pos) (tX X.K RX (z3L m fl)):=
  (z9g G hr hg hW ha hdb he hpl).imp fun σ H Q z_=>by
    obtain ⟨δ,o,S,q,kk⟩:=z_
    unfold z3L at q
    cases e1 : z0n fl δ with
    | none=>rw [e1] at q; cases q
    | some ds=>
      rw [e1,Option.bind_some] at q
      refine ⟨noB,δ,ds,.no,S,e1,fun vs H1 s1 r1=>⟨ds,o,r1,q,?_⟩⟩
      cases o with
      | val d=>exact fun v H' A s' t nd fr=>kk v H' A (s1.trans s') t nd fun a ha=>s1.free (fr a ha)
      | exc c=>exact fun H' s'=>⟨c,rfl,kk H' (s1.trans s')⟩
variable {H0 : Hp} {B0 : Addr->Prop} {fr : Bool} {F : DS->Option XO}
noncomputable def asgX (i : Nat) (F : DS->Option XO) : SS->Option Out:=fun δ=>(F (z0q δ)).map fun o=>match o with
  | .val d=>.nx (δ.set i (some (.ow d)))
  | .exc c=>.ex c δ
theorem y0v {i : Nat} {st : Stmt} (h : PAsg X st i (tX X.K RX F)) : PS X st (tS X.K H0 B0 fr RX (asgX i F)):=PS.imp h fun D σ H z_=>by
  obtain ⟨δ,R,o,rs,q,k⟩:=z_
  unfold asgX at q
  cases e1 : F (z0q δ) with
  | none=>rw [e1] at q; cases q
  | some o1=>
    rw [e1] at q
    refine ⟨z0q δ,o1,rs.all,e1,?_⟩
    cases o1 with
    | val d=>
      cases q
      refine fun v H' A s t nd fr'=>k _ H' (z4I R i A) (rs.setOw s t nd fr') ⟨fun a o h _=>s a o h,fun r a z=>?_,fun a z=>s.free z⟩
      by_cases hr : r=i
      · subst hr; rw [z0A] at z; exact .inr (fr' a z)
      · rw [z0Q hr] at z; exact .inl ⟨r,z⟩
    | exc c=>
      cases q
      exact fun H' s=>k σ H' R (rs.mono s) (.same s)
end
end L2
namespace L2
open PySem PySem.Spec PyProof.Rows
noncomputable abbrev Cx.suite (X : Cx) (e : Value) : Cx:={ X with A:=X.A.mark (some e),calm:=false,xe:=fun _ _=>False }
section
variable {X : Cx} {pins : List (Addr × Obj)} {σ : St} {H : Hp} {s : Shared} {e : Value}
theorem Cx.Ok.suite (ok : X.Ok) (e : Value) : (X.suite e).Ok:=
  ⟨ok.mod,ok.kind,ok.glob,ok.blt,ok.above,ok.inj,ok.has,ok.cab,(fun z=>Bool.noConfusion z),ok.frames,ok.stk,ok.exf,ok.bs,ok.bsz,ok.noex,ok.exfs,ok.funs,ok.frf⟩
theorem Inv.suite (I : Inv X pins σ H s) (e : Value) : Inv (X.suite e) pins σ H s:=⟨I.ok.suite e,I.os,I.bare,I.base,I.loc,I.cell,I.free,I.freeC,I.pin,I.hok,I.len⟩
theorem Inv.unsuite (ok : X.Ok) (I : Inv (X.suite e) pins σ H s) : Inv X pins σ H s:=⟨ok,I.os,I.bare,I.base,I.loc,I.cell,I.free,I.freeC,I.pin,I.hok,I.len⟩
theorem SP.unsuite {D : Ends} {f : Flow} {s' : Shared} (ok : X.Ok) (h : SP (X.suite e) pins D f s') : SP X pins D f s':=by
  cases f with
  | next=>obtain ⟨σ',H',I,q⟩:=h; exact ⟨σ',H',I.unsuite ok,q⟩
  | brk=>obtain ⟨σ',H',I,q⟩:=h; exact ⟨σ',H',I.unsuite ok,q⟩
  | cont=>obtain ⟨σ',H',I,q⟩:=h; exact ⟨σ',H',I.unsuite ok,q⟩
  | ret u=>obtain ⟨v,σ',H',I,r,q⟩:=h; exact ⟨v,σ',H',I.unsuite ok,r,q⟩
end
theorem z8q {M : Model} {A : Around} {E : Value->Shared->Prop} {s : Shared} {e T : Addr} {cls : Value} {Q : Unit->Shared->Prop} (th : Thr s.heap e T cls) (h : ∀ h',(∀ b o,s.heap.get? b=some o->h'.get? b=some o)->Q () { s with heap:=h' }) : wpAny M A (setFlight (.ref e) none) Q E s:=by
  obtain ⟨oe,vs,oT,ts,he,_,hd,h1,hTe,hT,hdT,h3,hdn⟩:=th
  unfold setFlight
  refine wpAny_bind (wpAny_field he hd h1 ?_)
  rw [if_pos (show (Value.ref T != Value.none)=true from by simp)]
  refine wpAny_setField hT hdT (Array.getElem?_eq_some_iff.mp h3).1 (h _ fun b o q=>?_)
  by_cases hb : b=T
  · subst hb
    rw [hT] at q
    cases q
    have e1:=Heap.get?_update_self (Obj.mapFields (·.setIfInBounds 3 ((none : Option Addr).elim Value.none fun f=>rawInt f))) hT (Obj.isFreed_of_fields (Obj.data_mapFields hdT _))
    rw [e1]
    congr 1
    obtain ⟨c,d,dt,sl⟩:=oT
    have hdT : dt = .fields ts:=hdT
    subst hdT
    obtain ⟨hlt,h3⟩:=Array.getElem?_eq_some_iff.mp h3
    have z : ts.setIfInBounds 3 Value.none=ts:=by
      apply Array.ext_getElem?
      intro i
      by_cases hi : 3=i
      · subst hi
        rw [Array.getElem?_setIfInBounds_self_of_lt hlt,Array.getElem?_eq_getElem hlt,h3]
      · rw [Array.getElem?_setIfInBounds_ne hi]
    show Obj.mk c d (.fields (ts.setIfInBounds 3 Value.none)) sl=_
    rw [z]
  · exact (Heap.get?_update_other _ _ (Ne.symm hb)).trans q
section
variable {X : Cx} {cls : Value} {x : Str} {C : Addr} {np hpos : Pos} {b₀ : Stmt} {suite : List Stmt} {rest : List ExceptHandler} {t : TS}
noncomputable def PH (X : Cx) (hs : List ExceptHandler) (cls : Value) (t : TS) : Prop:=∀ (pins : List (Addr × Obj)) (s : Shared) (σ : St) (H : Hp) (D : Ends) (ea T : Addr),Inv X pins σ H s->FpX X pins H ea->Thr s.heap ea T cls->t D σ H->wpAny (model X.prog X.w) X.A (handleBy (.ref ea) X.env hs) (SP X pins D) X.xe s
theorem thr_ty {M : Model} {h : Heap} {ea T : Addr} (th : Thr h ea T cls) : PySem.W.Looks M h (typeOf (.ref ea)) cls:=by
  obtain ⟨oe,vs,oT,ts,he,rfl,_⟩:=th
  exact (PySem.W.Looks.ld he).andThen .now
theorem ph_yes (hg : Gl X x) (hm : X.mg x=some (.ref C)) (hx : PySem.W.exmOne X.K cls (.ref C)=some true) (hb : ∀ e,PSs (X.suite e) (b₀ :: suite) t) (hdb : (x == ("__debug__" : Str))=false:=by decide) :
    PH X (.ExceptHandler (some (.Name x np)) none (b₀ :: suite) hpos :: rest) cls t:=by
  intro pins s σ H D ea T I fe th h
  refine wpAny_handleBy_cons (codeAny_handlers_test (z4c (I.suite (.ref ea)) hg hm ?_ hdb)) (by intro q; cases q)
  refine (PySem.W.exm_one I.kIn (thr_ty th) hx).here ?_
  refine codeAny_handlers_suite (z8q th fun h' kp=>?_)
  have I1 : Inv X pins σ H { s with heap:=h' }:=I.kept (t':=s.toks) kp
  exact wpAny_mono (hb (.ref ea) pins _ σ H D (I1.suite _) h) (fun f s₂ q=>q.unsuite I.ok) fun _ _ z=>z.elim
end
end L2
namespace L2
open PySem PySem.Spec PyProof.Rows
noncomputable abbrev Cx.tried (X : Cx) (pn : List (Addr × Obj)) (xe : Value->Shared->Prop) : Cx:={ X with pn:=pn,xe:=xe }
section
variable {X : Cx} {pins pn : List (Addr × Obj)} {xe : Value->Shared->Prop} {σ : St} {H : Hp} {s : Shared}
theorem Cx.Ok.tried (ok : X.Ok) : (X.tried pn xe).Ok:=
  ⟨ok.mod,ok.kind,ok.glob,ok.blt,ok.above,ok.inj,ok.has,ok.cab,ok.hd,ok.frames,ok.stk,ok.exf,ok.bs,ok.bsz,ok.noex,ok.exfs,ok.funs,ok.frf⟩
theorem Inv.tried (I : Inv X pins σ H s) : Inv (X.tried (X.pn ++ pins) xe) [] σ H s:=⟨I.ok.tried,I.os,I.bare,I.base,I.loc,I.cell,I.free,I.freeC,fun p hp=>I.pin p (by simpa using hp),I.hok,I.len⟩
theorem Inv.untried {more : List (Addr × Obj)} (ok : X.Ok) (I : Inv (X.tried (X.pn ++ pins) xe) more σ H s) : Inv X pins σ H s:=⟨ok,I.os,I.bare,I.base,I.loc,I.cell,I.free,I.freeC,fun p hp=>I.pin p (List.mem_append.mpr (.inl hp)),I.hok,I.len⟩
theorem FpX.untried {more : List (Addr × Obj)} {b : Addr} (h : FpX (X.tried (X.pn ++ pins) xe) more H b) : FpX X pins H b:=⟨h.1,h.2.1,h.2.2.1,h.2.2.2.1,fun p hp=>h.2.2.2.2 p (List.mem_append.mpr (.inl hp))⟩
theorem SP.untried {more : List (Addr × Obj)} {D : Ends} {f : Flow} {s' : Shared} (ok : X.Ok) (h : SP (X.tried (X.pn ++ pins) xe) more D f s') : SP X pins D f s':=by
  cases f with
  | next=>obtain ⟨σ',H',I,q⟩:=h; exact ⟨σ',H',I.untried ok,q⟩
  | brk=>obtain ⟨σ',H',I,q⟩:=h; exact ⟨σ',H',I.untried ok,q⟩
  | cont=>obtain ⟨σ',H',I,q⟩:=h; exact ⟨σ',H',I.untried ok,q⟩
  | ret u=>obtain ⟨v,σ',H',I,r,q⟩:=h; exact ⟨v,σ',H',I.untried ok,r,q⟩
end
noncomputable def tryO (gb : SS->Option Out) (gh : Nat->SS->Option Out) : SS->Option Out:=fun δ=>(gb δ).bind fun o=>match o with
  | .nx δ'=>some (.nx δ')
  | .ct δ'=>some (.ct δ')
  | .bk δ'=>some (.bk δ')
  | .rt d=>some (.rt d)
  | .rb d δ'=>some (.rb d δ')
  | .ex c δ'=>gh c δ'
section
variable {X : Cx} {H0 : Hp} {B0 : Addr->Prop} {fr : Bool} {RX : XR} {cl : Nat->Value} {body : List Stmt} {h₀ : ExceptHandler} {hs : List ExceptHandler} {pos : Pos}
theorem z2C {g : SS->Option Out} {cls : Value} (hg : ∀ δ,g δ=none) {ks : List ExceptHandler} : PH X ks cls (tS X.K H0 B0 fr RX g):=by
  intro pins s σ H D ea T I fe th ⟨δ,R,o,_,q,_⟩
  rw [hg] at q
  cases q
theorem s_try {gb : SS->Option Out} {gh : Nat->SS->Option Out} (hst : X.stack=X.env :: X.outer) (hfr : X.env.frame=some X.env.locals)
    (hb : ∀ (pn : List (Addr × Obj)) (xe : Value->Shared->Prop) (RX' : XR),XW (X.tried pn xe) cl RX'->PSs (X.tried pn xe) body (tS X.K H0 B0 fr RX' gb))
    (hh : ∀ c,PH X (h₀ :: hs) (cl c) (tS X.K H0 B0 fr RX (gh c))) : PS X (.Try body (h₀ :: hs) [] [] pos) (tS X.K H0 B0 fr RX (tryO gb gh)):=by
  intro pins s σ H D I ⟨δ,R,o,rs,q,k⟩
  unfold tryO at q
  cases e1 : gb δ with
  | none=>rw [e1] at q; cases q
  | some o1=>
    rw [e1,Option.bind_some] at q
    refine wpAny_Try_except ?_
    have ok:=I.ok
    let XE : Value->Shared->Prop:=fun e s₁=>wpAny (model X.prog X.w) X.A (noteFrame e X.env) (fun _ s₂=>wpAny (model X.prog X.w) X.A (setFlight e none) (fun _ s₃=>wpAny (model X.prog X.w) X.A (handleBy e X.env (h₀ :: hs)) (SP X pins D) X.xe s₃) X.xe s₂) X.xe s₁
    have hW : XW (X.tried (X.pn ++ pins) XE) cl (fun c σ' H'=>tS X.K H0 B0 fr RX (gh c) D σ' H'):=by
      intro pins' σ' H' s' ea T c I' fe fT th hR
      have I2 : Inv X pins σ' H' s':=I'.untried ok
      have hf2:=ok.frames
      have hs2:=I2.stack
      rw [hst] at hf2 hs2
      refine z7o (base:=X.base) (outer:=X.outer) hf2 hs2 hfr th fun h' G=>?_
      rw [← hst] at G
      have I3:=I2.gone G fun b hb=>by
        rcases List.mem_cons.mp hb with rfl | hb
        · exact fe.untried
        · rw [List.mem_singleton.mp hb]; exact fT.untried
      obtain ⟨T',_,th'⟩:=G.thr
      exact hh c pins _ σ' H' D ea T' I3 fe.untried th' hR
    have run:=hb (X.pn ++ pins) XE _ hW [] s σ H D I.tried ⟨δ,R,o1,rs,e1,by
      cases o1 with
      | nx δ'=>cases q; exact k
      | ct δ'=>cases q; exact k
      | bk δ'=>cases q; exact k
      | rt d=>cases q; exact k
      | rb d δ'=>cases q; exact k
      | ex c δ'=>exact fun σ' H' R' rs' s'=>⟨δ',R',o,rs',q,k.back s'⟩⟩
    refine wpAny_mono run (fun f s₁ z=>?_) fun _ _ z=>z
    have z:=z.untried ok
    cases f with
    | next=>exact wpAny_execs_nil z
    | brk=>exact z
    | cont=>exact z
    | ret u=>exact z
end
end L2
namespace L2
open PySem PySem.Spec PyProof.Rows
section
variable {K : PySem.W.Frag} {H0 H : Hp} {B0 : Addr->Prop} {σ : St} {δ : SS} {R : Nat->List Addr}
end
section
variable {X : Cx} {H0 : Hp} {B0 : Addr->Prop} {fr : Bool} {RX : XR} {pos : Pos} {st : Stmt}
end
end L2
namespace L2
open PySem PySem.Spec PyProof.Rows
section
variable {X : Cx}
end
noncomputable def revS : D->Option (List D)
  | .lst ds=>some ds.reverse
  | _=>none
section
variable {X : Cx}
end
end L2
namespace L2
open PySem PySem.Spec PyProof.Rows
section
variable {X : Cx} {c e : Expr} {fc : DS->Option Bool} {fe : DE} {f g : DS->Option (Option D)} {st : Stmt} {sts : List Stmt} {p1 pos : Pos}
end
section
variable {X : Cx} {H0 : Hp} {B0 : Addr->Prop} {fr : Bool} {RX : XR} {pos : Pos}
end
end L2
namespace L2
open PySem PySem.Spec PyProof.Rows
noncomputable abbrev y0s : List Value:=[.type "ValueError",.type "Exception",.type "BaseException",.type "object"]
theorem z7c {K : PySem.W.Frag} {h : Heap} {mg : Str->Option Value} {x : Str} {C : Addr} {bl : List Value} {nid : String} (X : K.In h) (G : h.Ns mainGlobals mg) (ha : PySem.W.nsIn K mainGlobals x=some (some (.ref C))) (hq : PySem.W.excIn K C bl nid=true) : OwnCls x C bl nid mg h:=by
  refine ⟨PySem.W.mg_of X G ha,?_⟩
  unfold PySem.W.excIn at hq
  cases hk : K.lookup C with
  | none=>rw [hk] at hq; cases hq
  | some ob=>
    rw [hk] at hq
    have hat:=X _ _ hk
    split at hq
    case h_2=>cases hq
    case h_1 od cls sl z=>
      cases z
      split at hq
      case h_2=>cases hq
      case h_1 C1 tl b0 b1 b2 b3 n b5 em es=>
        simp only [Bool.and_eq_true,beq_iff_eq,Bool.not_eq_true'] at hq
        obtain ⟨⟨⟨⟨⟨z1,z2⟩,z3⟩,z4⟩,z5⟩,z6⟩:=hq
        cases cls with
        | mk nm bs mro ns qn hd sn sub ab col del=>
          cases sl with
          | mk l=>
            dsimp only at em es z3 z5 z6
            rw [em,es,z3,z1,z2] at hat
            exact ⟨tl,ns,nm,qn,bs,hd,sn,sub,ab,col,od,b0,b1,b2,b3,b5,_,hat,.of_isNs (PySem.W.isNs_of_in X z5),PySem.W.nsMap_none_of_in X z5 z6,PySem.W.tail_of_in X z4⟩
section
variable {X : Cx} {x : Str} {C : Addr} {np cpos pos : Pos} {e₀ : Expr} {H0 : Hp} {B0 : Addr->Prop} {fr : Bool} {RX : XR}
theorem z2D {c : Nat} {f : DE} (hc : X.calm=true) (hg : Gl X x) (O : OwnCls x C y0s "ValueError.__new__" X.mg X.base) (hW : Want X C (RX c)) (h : PD X e₀ f)
    (he : starEach [e₀] X.env=[(false,eval e₀ X.env)]:=by rfl) (hd : (x == ("__debug__" : Str))=false:=by decide) : PS X (.Raise (some (.Call (.Name x np) [e₀] [] cpos)) none pos) (tS X.K H0 B0 fr RX (z2Q c f)):=
  s_raise hc hg O PySem.F.excBase_ValueError (by decide) PySem.F.excBase_ValueError hW h he hd
end
end L2
namespace L2
open PySem PySem.Spec PyProof.Rows
section
variable {X : Cx} {k : Nat} {cl : Nat->Value} {x : Str} {p pos : Pos} {e : Expr} {es : List Expr}
theorem y1m : XW X cl noX:=fun _ _ _ _ _ _ _ _ _ _ _ h=>h.elim
end
end L2
namespace L2
open PySem PySem.Spec PyProof.Rows
section
variable {X : Cx} {pins : List (Addr × Obj)} {σ : St} {H : Hp} {s : Shared}
end
section
variable {X : Cx} {x n : Str} {C Ca : Addr} {np hpos : Pos} {b₀ : Stmt} {suite : List Stmt} {rest : List ExceptHandler} {t : TS} {i : Nat}
end
section
variable {K : PySem.W.Frag} {H0 H : Hp} {B0 : Addr->Prop} {σ : St} {δ : SS} {R : Nat->List Addr}
end
section
variable {X : Cx} {e : Expr} {f : DE} {y : Str} {p p2 pos : Pos} {L N : List Str}
end
section
variable {X : Cx} {H0 : Hp} {B0 : Addr->Prop} {fr : Bool} {RX : XR} {x n xn : Str} {C Ca : Addr} {np hpos : Pos} {b₀ : Stmt} {suite : List Stmt} {rest : List ExceptHandler} {g : SS->Option Out} {i : Nat}
end
end L2
namespace L2
open PySem PySem.Spec PyProof.Rows
noncomputable def tNs (K : PySem.W.Frag) (f : DS->Option (List D)) : TA:=fun σ H Q=>∃ δ ds,RepS K H noB σ δ∧f δ=some ds∧∀ vs H' A,Same H H'->Trees K H' ds vs A->A.Nodup->(∀ a∈A,H a=none)->Q vs H'
noncomputable abbrev PAN (X : Cx) (es : List Expr) (fl : List DE) : Prop:=PA X es (tNs X.K (z0n fl))
theorem Trees.len {K : PySem.W.Frag} {H : Hp} : ∀ {ds : List D} {xs : List V} {A : List Addr},Trees K H ds xs A->ds.length=xs.length
  | [],_,_,h=>by unfold Trees at h; rw [h.1]; rfl
  | d :: ds,_,_,h=>by
    unfold Trees at h
    obtain ⟨x,r,C,C',rfl,_,h2,_⟩:=h
    simp [Trees.len h2]
section
variable {X : Cx} {e : Expr} {es : List Expr} {pos : Pos}
theorem z4T : PAN X [] []:=pa_nil.imp fun σ H Q z_=>by
  obtain ⟨δ,ds,S,q,k⟩:=z_
  cases q
  exact k [] H [] (.refl H) ⟨rfl,rfl⟩ List.nodup_nil (fun a z=>nomatch z)
theorem z1z {f : DE} {fl : List DE} (ha : PN X e f) (hr : PAN X es fl) (hs : starEach (e :: es) X.env=(false,eval e X.env) :: starEach es X.env:=by rfl) : PAN X (e :: es) (f :: fl):=(z0y ha hr hs).imp fun σ H Q z_=>by
  obtain ⟨δ,ds,S,q,k⟩:=z_
  obtain ⟨x,xs,e1,e2,rfl⟩:=z2w q
  refine ⟨δ,x,S,e1,fun v H1 A s1 t1 nd1 f1=>⟨δ,xs,S.mono s1,e2,fun vs H2 C s2 t2 nd2 f2=>?_⟩⟩
  refine k (v :: vs) H2 (A ++ C) (s1.trans s2) ?_ ?_ fun a ha=>?_
  · unfold Trees
    exact ⟨v,vs,A,C,rfl,t1.mono s2,t2,rfl⟩
  · refine List.nodup_append.mpr ⟨nd1,nd2,fun a ha b hb z=>?_⟩
    subst z
    obtain ⟨o,q',_⟩:=t1.held x a ha
    rw [f2 a hb] at q'; cases q'
  · rcases List.mem_append.mp ha with z | z
    · exact f1 a z
    · exact s1.free (f2 a z)
theorem z4X {fl : List DE} (h : PAN X es fl) (hl : fl.length≤1000:=by decide) : PN X (.List es pos) (mkL (z0n fl)):=(z8U h).imp fun σ H Q z_=>by
  obtain ⟨δ,d,S,q,k⟩:=z_
  unfold mkL at q
  cases r : z0n fl δ with
  | none=>rw [r] at q; cases q
  | some ds=>
    rw [r] at q
    cases q
    refine ⟨δ,ds,S,r,fun vs H1 A s1 t1 nd fa=>⟨?_,fun p hp=>?_⟩⟩
    · rw [← t1.len,z2o r]
      exact Nat.le_of_lt (z4Z hl)
    · have sp:=z0u (o:=.lst vs) hp
      refine k (.ref p) _ (p :: A) (s1.trans sp) ?_ (List.nodup_cons.mpr ⟨fun z=>?_,nd⟩) fun a ha=>?_
      · unfold Tree
        exact ⟨p,vs,A,rfl,z0c,t1.mono sp,rfl⟩
      · obtain ⟨o,q',_⟩:=Trees.held ds t1 p z
        rw [hp] at q'; cases q'
      · rcases List.mem_cons.mp ha with z | z
        · rw [z]; exact s1.free hp
        · exact fa a z
variable {H0 : Hp} {B0 : Addr->Prop} {RX : XR} {a b : Expr} {pos' : Pos}
noncomputable def ownV (δ : SS) (i : Nat) : Option D:=match δ[i]? with
  | some (some (.ow d))=>some d
  | some (some (.sh d))=>if d.imm=true then some d else none
  | _=>none
noncomputable def ret2 (i j : Nat) : SS->Option Out:=fun δ=>match ownV δ i,ownV δ j with
  | some d,some e=>some (.rt (.lst [d,e]))
  | _,_=>none
end
end L2
namespace L2
open PySem PySem.Spec PyProof.Rows
section
variable {X : Cx} {k : Nat} {x : Str} {p pos : Pos} {e : Expr} {es : List Expr}
end
end L2
namespace L2
open PySem PySem.Spec PyProof.Rows
noncomputable def dIxX (F : DS->Option XO) (g : DE) : DS->Option XO:=fun δ=>match F δ with
  | some (.val d)=>(g δ).bind fun y=>(ixD d y).bind fun z=>if z.imm=true then some (.val z) else none
  | some (.exc c)=>some (.exc c)
  | none=>none
section
variable {X : Cx} {a b : Expr} {pos : Pos} {f g : DE} {RX : XR}
end
end L2
namespace PySem
open Sem (wp)
section
variable {K : Type} [DecidableEq K] {prog : Program} {w : World} {knd : KeyKind prog w K} {A : Around} {E : Value->Shared->Prop} {s : Shared}
end
end PySem
namespace L2
open PySem PySem.Spec PyProof.Rows
section
variable {prog : Program} {w : World} {A : Around} {E : Value->Shared->Prop} {s : Shared}
end
section
variable {X : Cx}
variable {e : Expr} {f : DE} {p pos : Pos}
end
end L2
namespace L2
open PySem PySem.Spec PyProof.Rows
section
variable {X : Cx} {ke ve : Expr} {pos : Pos} {f g : DE}
end
section
variable {X : Cx} {tg : Expr}
end
section
variable {X : Cx} {a b : Expr} {pos : Pos} {f g : DE}
end
end L2
namespace L2
open PySem PySem.Spec PyProof.Rows
section
variable {X : Cx} {H0 : Hp} {B0 : Addr->Prop} {fr : Bool} {RX : XR} {pos : Pos}
end
end L2
namespace L2
open PySem PySem.Spec PyProof.Rows
section
variable {X : Cx}
variable {e : Expr} {f : DE} {p pos : Pos}
end
end L2
namespace L2
open PySem PySem.Spec PyProof.Rows
section
variable {X : Cx} {e lo st : Expr} {te : TE} {tl tk : TO} {pos p2 : Pos}
variable {f g h : DE}
end
end L2
namespace L2
open PySem PySem.Spec PyProof.Rows
noncomputable def bigL : Nat:=2 ^ 250
noncomputable def CMulB (i j : Int) : Prop:=i.natAbs < bigL∧j.natAbs < bigL
noncomputable instance {i j : Int} : Decidable (CMulB i j):=by unfold CMulB; infer_instance
section
variable {X : Cx} {a b : Expr} {pos : Pos} {f g : DE}
end
end L2
namespace L2
open PySem PySem.Spec PyProof.Rows
section
variable {X : Cx} {tg iter a b : Expr} {p pos pos' : Pos}
structure ItF (J : It) (lo : Int) (n : Nat) : Prop where
  go : ∀ i H',i < n->J.go i H'
  stop : ∀ i H',n≤i->J.stop i H'
  yld : ∀ i H' x H2,J.yld i H' x H2->Same H' H2∧x = .int (lo + (i : Int))
theorem itf_rng {lo : Int} {n : Nat} : ItF (Itr lo n) lo n:=⟨fun i H' hi=>hi,fun i H' hi=>hi,fun i H' x H2 y=>by
  obtain ⟨e,y⟩:=y
  subst e y
  exact ⟨.refl _,rfl⟩⟩
noncomputable def tIF (K : PySem.W.Frag) (f : DS->Option (Int × Nat)) : TI:=fun σ H R=>∃ B δ z,InB B H∧RepS K H B σ δ∧f δ=some z∧∀ J H',Same H H'->ItF J z.1 z.2->R J H'
noncomputable abbrev PIF (X : Cx) (tg iter : Expr) (f : DS->Option (Int × Nat)) : Prop:=PI X tg iter (tIF X.K f)
noncomputable def dIv1 (f : DE) : DS->Option (Int × Nat):=fun δ=>match f δ with
  | some (.int j)=>if -(2 ^ 62)≤j∧j < 2 ^ 62 then some (0,j.toNat) else none
  | _=>none
theorem y2m {f : DE} (hg : Gl X "range") (hm : X.mg "range" = none) (ha : PD X a f) (hs : starEach [a] X.env=[(false,eval a X.env)]:=by rfl) : PIF X tg (.Call (.Name "range" p) [a] [] pos) (dIv1 f):=
  (z7h hg hm (z0b ha z0k hs) hs).imp fun σ H R z_=>by
    obtain ⟨B,δ,ds,hB,S,q,k⟩:=z_
    unfold dIv1 at q
    split at q
    · rename_i j e
      split at q
      · rename_i hj
        cases q
        have ea : z0n [f] δ=some [.int j]:=by unfold z0n; rw [e]; rfl
        refine ⟨B,δ,[.int j],hB,S,ea,fun vs H1 s1 r1=>?_⟩
        unfold Reps at r1
        obtain ⟨x,r,rfl,rx,rr⟩:=r1
        unfold Reps at rr
        subst rr
        exact ⟨j,by rw [show x=V.int j from rx],hj.1,hj.2,k _ H1 s1 itf_rng⟩
      · cases q
    · cases q
noncomputable def forI (i : Nat) (f : DS->Option (Int × Nat)) (b : SS->Option Out) : SS->Option Out:=fun δ=>(f (z0q δ)).bind fun z=>z3T i b (z3S z.1 z.2) δ
variable {H0 : Hp} {B0 : Addr->Prop} {fr : Bool} {RX : XR}
theorem s_forI {i : Nat} {x : Str} {px : Pos} {body : List Stmt} {f : DS->Option (Int × Nat)} {g : SS->Option Out} (hp : PassesOwn (model X.prog X.w) X.A X.env X.xe) (hc : X.calm=true) (hi : PIF X (.Name x px) iter f) (hg : PG X (.Name x px) (z8g i)) (hb : PSs X body (tS X.K H0 B0 fr RX g))
    (hs : ∀ x,foldedSetIterable iter X.env x=pure x:=by intro _; rfl) : PS X (.For (.Name x px) iter body [] pos) (tS X.K H0 B0 fr RX (forI i f g)):=PS.imp (y4j hp hc hi hg hb hs) fun D σ H z_=>by
  obtain ⟨δ,R,o,rs,q,k⟩:=z_
  unfold forI at q
  cases e : f (z0q δ) with
  | none=>rw [e] at q; cases q
  | some z=>
  rw [e] at q
  obtain ⟨ds,hds⟩ : ∃ ds,ds=z3S z.1 z.2:=⟨_,rfl⟩
  have hlen : ds.length=z.2:=by rw [hds,z2z]
  have q : z3T i g ds δ=some o:=by rw [hds]; exact q
  refine ⟨noB,z0q δ,z,.no,rs.all,e,fun J H1 s1 it=>?_⟩
  have rs1:=rs.mono s1
  refine ⟨fun n m σ' H'=>m=ds.length - n∧n≤ds.length∧∃ δ' R',RS X.K H0 B0 H' σ' δ' R'∧Stp R H1 R' H'∧z3T i g (ds.drop n) δ'=some o,⟨ds.length,by simp,Nat.zero_le _,δ,R,rs1,.refl R H1,q⟩,?_⟩
  rintro n m σ' H' ⟨rfl,hn,δ',R',rs',s',q'⟩
  by_cases hlt : n < ds.length
  · have hx : ds.drop n=ds[n] :: ds.drop (n + 1):=List.drop_eq_getElem_cons hlt
    rw [hx] at q'
    unfold z3T at q'
    cases eb : g (δ'.set i (some (.sh ds[n]))) with
    | none=>rw [eb] at q'; cases q'
    | some ob=>
      rw [eb] at q'
      refine .inr ⟨it.go n H' (by omega),fun σ2 H2=>n + 1≤ds.length∧∃ δ2 R2,RS X.K H0 B0 H2 σ2 δ2 R2∧Stp R H1 R2 H2∧z3T i g (ds.drop (n + 1)) δ2=some o,fun σ2 H2 z=>⟨ds.length - (n + 1),by omega,rfl,z⟩,fun xv H2 hy=>?_⟩
      obtain ⟨s2,hd⟩:=it.yld n H' xv H2 hy
      have hdi : ds[n] = .int (z.1 + (n : Int)):=by
        have h1 : ds[n]? = some (.int (z.1 + (n : Int))):=by rw [hds]; exact z8E (by omega)
        rw [List.getElem?_eq_getElem hlt] at h1
        exact Option.some.inj h1
      have rd' : Rep X.K H2 (fun a=>B0 a∨∃ r,a∈R' r) ds[n] xv:=by
        rw [hdi]
        exact hd
      have rs2:=(rs'.mono s2).setSh (i:=i) rd'
      have st2 : Stp R H1 R' H2:=s'.trans (.same s2)
      refine ⟨_,R',ob,rs2,eb,?_⟩
      cases ob with
      | nx δ2=>
        have q2 : z3T i g (ds.drop (n + 1)) δ2=some o:=q'
        exact fun σ3 H3 R3 rs3 s3=>⟨hlt,δ2,R3,rs3,st2.trans s3,q2⟩
      | ct δ2=>
        have q2 : z3T i g (ds.drop (n + 1)) δ2=some o:=q'
        exact fun σ3 H3 R3 rs3 s3=>⟨hlt,δ2,R3,rs3,st2.trans s3,q2⟩
      | bk δ2=>
        cases q'
        exact fun σ3 H3 R3 rs3 s3=>k σ3 H3 R3 rs3 ((Stp.same s1).trans (st2.trans s3))
      | rt d=>
        cases q'
        exact k.back ((Stp.same s1).trans st2)
      | rb d δ2=>
        cases q'
        exact k.back ((Stp.same s1).trans st2)
      | ex c δ2=>
        cases q'
        exact k.back ((Stp.same s1).trans st2)
  · have en : n=ds.length:=by omega
    subst en
    rw [List.drop_length] at q'
    cases q'
    exact .inl ⟨it.stop _ H' (by omega),k σ' H' R' rs' ((Stp.same s1).trans s')⟩
variable {c : Expr}
end
end L2
namespace L2
open PySem PySem.Spec PyProof.Rows
section
variable {X : Cx} {a b : Expr} {pos : Pos} {f g : DE}
end
end L2
namespace HT
open PySem PySem.Spec PyProof.Rows
section
variable {prog : Program} {w : World} {A : Around} {E : Value->Shared->Prop} {s : Shared}
theorem getItem_tuple_whole {t sl : Addr} {items : Array Value} {vl vu : Value} {lo hi : Option Int} {Q : Value->Shared->Prop} (ht : IsTup s.heap t items) (hs : s.heap.IsSliceOf sl vl vu .none) (pl : IsPart vl lo) (pu : IsPart vu hi)
    (hw : sIx items.size 0 lo=0∧sIx items.size items.size hi=items.size)
    (h : Q (.ref t) s) : wpAny (model prog w) A (getItem (.ref t) (.ref sl)) Q E s:=by
  obtain ⟨os,hos,hcs,hds⟩:=id hs
  have hTs : s.TypeIs (.ref sl) "slice" := ⟨os,hos,hcs⟩
  unfold getItem
  try with_reducible refine wpAny_holding ?_
  first | refine wpAny_bind (wpAny_pure ?_) | skip
  refine wpAny_bind (wpAny_sequenceKey ht.typeIs (by decide) ?_)
  refine wpAny_bind (wpAny_callSpecial?_slot (name:=Str.ofString "__getitem__") ht.typeIs PyProof.Rows.slot_tuple_getitem
    (wpAny_call_entry PyProof.Rows.slot_tuple_getitem ht.typeIs entry_tuple_getitem ?_ (args_tuple_getitem _ _)))
  show wpAny _ _ (Builtin.Tuple.tupleItemsOf (.ref t) >>= _) _ _ s
  refine wpAny_bind (tupleItemsOf_ ht ?_)
  refine wpAny_bind (wpAny_typeOf hTs ?_)
  rw [if_pos (by decide)]
  refine wpAny_bind (z2P hs pl pu ?_)
  have hyes : (((sIx items.size 0 lo : Nat) : Int) == 0 && (1 : Int) == 1 && (sIx items.size items.size hi - sIx items.size 0 lo) == items.size)=true:=by
    rw [hw.1,hw.2]
    simp
  show wpAny _ _ (if (((sIx items.size 0 lo : Nat) : Int) == 0 && (1 : Int) == 1 && (sIx items.size items.size hi - sIx items.size 0 lo) == items.size)=true then _ else _) _ _ s
  rw [if_pos hyes]
  refine wpAny_bind (m:=Builtin.Tuple.tupleIsExact _) ?_
  unfold Builtin.Tuple.tupleIsExact
  refine wpAny_bind (wpAny_typeOf ht.typeIs ?_)
  refine wpAny_pure ?_
  rw [if_pos (by decide)]
  refine wpAny_bind (wpAny_rule ?_)
  exact wpAny_pure ⟨_,rfl,wpAny_pure h⟩
end
end HT
namespace L2
open PySem PySem.Spec PyProof.Rows
section
variable {X : Cx} {e a b : Expr} {lo hi : Option Expr} {p p2 pos : Pos}
noncomputable def rSlW (K : PySem.W.Frag) : V->Option Int->Option Int->Hp->VK->Prop:=fun x lo hi H Q=>∃ a xs,x = .ref a∧SqT K H a xs ∧
  ((HT.sIx xs.length 0 lo=0∧HT.sIx xs.length xs.length hi=xs.length)->Q (.ref a) H)∧(¬ (HT.sIx xs.length 0 lo=0∧HT.sIx xs.length xs.length hi=xs.length)->∀ p,H p=none->Q (.ref p) (upd H p (.tup (z9T xs lo hi))))
theorem sl_tupW : SlR X (rSlW X.K):=by
  intro pins s σ H x v vl vu lo hi sl Q I rx hs pl pu h
  obtain ⟨a,xs,rfl,hx,q1,q2⟩:=h
  cases rx
  obtain ⟨its,r,ht,hz⟩:=I.tuple hx
  have hlen : its.toArray.size=xs.length:=by rw [List.size_toArray]; exact r.length.symm
  by_cases hw : HT.sIx xs.length 0 lo=0∧HT.sIx xs.length xs.length hi=xs.length
  · refine ⟨"tuple",_,PyProof.Rows.slot_tuple_getitem.lookup,ht.typeIs,?_⟩
    exact HT.getItem_tuple_whole ht hs pl pu (by rw [hlen]; exact hw) ⟨.ref a,H,I,rfl,q1 hw⟩
  · refine ⟨"tuple",_,PyProof.Rows.slot_tuple_getitem.lookup,ht.typeIs,?_⟩
    refine HT.getItem_tuple_cut ht hs pl pu (by rw [hlen]; exact hw) ?_ (by rw [hlen]; exact hz)
    rw [hlen]
    refine ⟨.ref s.heap.objs.size,_,I.laid (t':=s.toks) (o:=.tup (z9T xs lo hi)) (fun b ob q=>Heap.get?_push_of_some _ q) (Nat.le_refl _) ?_,rfl,q2 hw _ (I.hok.fresh (Nat.le_refl _))⟩
    exact ⟨Nat.le_trans (z5n xs lo hi) hz,_,(r.drop (HT.sIx xs.length 0 lo)).take (HT.sIx xs.length xs.length hi - HT.sIx xs.length 0 lo),TupN.new _ _⟩
noncomputable def z9o (f : DE) (fl fh : DS->Option (Option Int)) : DE:=fun δ=>match f δ with
  | some (.tup ds)=>(fl δ).bind fun lo=>(fh δ).map fun hi=>.tup (z4q ds lo hi)
  | _=>none
theorem z7D {f : DE} {fl fh : DS->Option (Option Int)} (he : PD X e f) (hl : POD X lo fl) (hh : POD X hi fh) : PD X (.Subscript e (.Slice lo hi none p2) pos) (z9o f fl fh):=(z8J sl_tupW he hl hh).imp fun σ H Q z_=>by
  obtain ⟨B,δ,d',hB,S,q,k⟩:=z_
  unfold z9o at q
  split at q
  · rename_i ds e1
    cases e2 : fl δ with
    | none=>rw [e2] at q; cases q
    | some l=>
    cases e3 : fh δ with
    | none=>rw [e2,e3] at q; cases q
    | some u=>
    rw [e2,e3] at q
    cases q
    refine ⟨B,δ,_,hB,S,e1,fun v H1 s1 r1=>⟨B,δ,l,hB.mono s1,S.mono s1,e2,fun H2 s2=>⟨B,δ,u,(hB.mono s1).mono s2,(S.mono s1).mono s2,e3,fun H3 s3=>?_⟩⟩⟩
    unfold Rep at r1
    obtain ⟨a,xs,rfl,hq,rs⟩:=r1
    have hlen:=rs.length
    refine ⟨a,xs,rfl,(s2.trans s3).tup hq,fun hw=>?_,fun hw p hp=>?_⟩
    · refine k _ _ ((s1.trans s2).trans s3) ?_
      have ec : z4q ds l u=ds:=by
        unfold z4q
        rw [← hlen] at hw
        rw [hw.1,hw.2,List.drop_zero,Nat.sub_zero,List.take_length]
      show Rep X.K H3 B (.tup (z4q ds l u)) _
      rw [ec]
      unfold Rep
      exact ⟨a,xs,rfl,(s2.trans s3).tup hq,rs.mono (s2.trans s3)⟩
    · have sa:=z0u (o:=.tup (z9T xs l u)) hp
      refine k _ _ (((s1.trans s2).trans s3).trans sa) ?_
      show Rep X.K _ B (.tup (z4q ds l u)) _
      unfold Rep
      have rc : Reps X.K H1 B (z4q ds l u) (z9T xs l u):=by
        unfold z9T z4q
        rw [← hlen]
        exact (rs.drop _).take _
      exact ⟨p,z9T xs l u,rfl,SqT.of z0c,(rc.mono (s2.trans s3)).mono sa⟩
  · cases q
variable {f : DE}
end
end L2
namespace PySem
namespace SetTable
noncomputable def Up (xs : Array Nat) : Prop:=xs.toList.Pairwise (· < ·)
end SetTable
noncomputable def TI (t : SetTable) : Prop:=t.led=true∧(t.plain=true->SetTable.Up t.place)
end PySem
namespace PySem
section
variable {prog : Program} {w : World} {K : Type} [DecidableEq K] (knd : KeyKind prog w K)
variable {knd} {A : Around} {E : Value->Shared->Prop} {s : Shared}
end
section
variable {prog : Program} {w : World} {A : Around} {R : Result->Shared->Prop} {I : Addr} {fp wr : List Addr} {G : Array GenState->Array GenState->Prop} {n : Nat} {P : Nat->Value->Prop} {St : Nat->Shared->Prop}
open PyProof.Rows in
end
end PySem
namespace PySem
section
variable {prog : Program} {w : World} {A : Around} {E : Value->Shared->Prop} {s : Shared}
open PyProof.Rows in
set_option maxHeartbeats 3200000 in
open PyProof.Rows in
end
end PySem
namespace PySem
section
variable {M : Model} {A : Around} {E : Value->Shared->Prop} {s : Shared}
end
section
variable {prog : Program} {w : World} {A : Around} {E : Value->Shared->Prop} {s : Shared}
end
end PySem
namespace PySem
section
variable {prog : Program} {w : World} {A : Around} {E : Value->Shared->Prop} {s : Shared}
end
end PySem
namespace PySem
section
variable {prog : Program} {w : World} {A : Around} {E : Value->Shared->Prop} {s : Shared}
end
end PySem
namespace PySem
open Sem (wp)
section
variable {K : Type} [DecidableEq K] {prog : Program} {w : World} {knd : KeyKind prog w K} {A : Around} {E : Value->Shared->Prop} {s : Shared}
end
end PySem
namespace L2
open PySem PySem.Spec PyProof.Rows
section
variable {prog : Program} {w : World} {A : Around} {E : Value->Shared->Prop} {s : Shared}
end
section
variable {X : Cx} {e : Expr} {te : TE} {p p' pos pos' : Pos}
variable {f : DE}
end
end L2
namespace L2
open PySem PySem.Spec PyProof.Rows
section
variable {X : Cx} {a b : Expr} {pos : Pos} {f g : DE}
end
end L2
namespace L2
open PySem PySem.Spec PyProof.Rows
section
variable {X : Cx} {e : Expr} {p p2 pos : Pos}
end
end L2
namespace L2
open PySem PySem.Spec PyProof.Rows
section
variable {X : Cx} {e : Expr} {te : TE} {p p' pos pos' : Pos}
variable {f : DE}
end
end L2
namespace L2
open PySem PySem.Spec PyProof.Rows
section
variable {X : Cx} {a b : Expr} {pos : Pos} {f g : DE}
noncomputable def rCatU (K : PySem.W.Frag) : R2:=fun x y H Q=>∃ l b xs zs,x = .ref l∧y = .ref b∧SqT K H l xs∧SqT K H b zs∧xs.length + zs.length≤sizeLine∧(xs=[]->Q (.ref b) H)∧(xs≠[]->zs=[]->Q (.ref l) H)∧(xs≠[]->zs≠[]->∀ p,H p=none->Q (.ref p) (upd H p (.tup (xs ++ zs))))
theorem op_catU : OpR X (binaryOp .Add) (rCatU X.K):=by
  intro pins s σ H x y v u Q I rx ry h
  obtain ⟨l,b,xs,zs,rfl,rfl,hH,hB,hz,q0,q1,q2⟩:=h
  cases rx
  cases ry
  obtain ⟨its,o1,n1,r,e1,c1,d1,g1,z1⟩:=I.tupleO hH
  obtain ⟨its2,o2,n2,r2,e2,c2,d2,g2,z2⟩:=I.tupleO hB
  have hl:=r.length
  have hl2:=r2.length
  obtain ⟨cls,dd,data,sl⟩:=o1
  obtain ⟨cls2,dd2,data2,sl2⟩:=o2
  simp only at c1 d1 g1 c2 d2 g2
  subst c1 d1 g1 c2 d2 g2
  by_cases h1 : xs=[]
  · refine concat_meets ⟨_,e1,rfl⟩ ⟨_,e2,rfl⟩ noFill_tuple_add seq_tuple_add PySem.F.slot_tuple_add PySem.F.entry_tuple_add (PySem.F.args_tuple_add_2 _ _) (tuple_addW0 l b its.toArray its2.toArray n1 n2 none none sl sl2 ?_) ⟨e1,e2,?_⟩
    · rw [h1] at hl
      have : its=[]:=List.length_eq_zero_iff.mp hl.symm
      rw [this]
      rfl
    · exact ⟨.ref b,H,I,rfl,q0 h1⟩
  · have hi1 : ¬ its.toArray.isEmpty=true:=fun z=>h1 (by
      have : its=[]:=by simpa using z
      rw [this] at hl
      exact List.length_eq_zero_iff.mp hl)
    by_cases h2 : zs=[]
    · refine concat_meets ⟨_,e1,rfl⟩ ⟨_,e2,rfl⟩ noFill_tuple_add seq_tuple_add PySem.F.slot_tuple_add PySem.F.entry_tuple_add (PySem.F.args_tuple_add_2 _ _) (tuple_addW1 l b its.toArray its2.toArray n1 n2 none none sl sl2 hi1 ?_) ⟨e1,e2,?_⟩
      · rw [h2] at hl2
        have : its2=[]:=List.length_eq_zero_iff.mp hl2.symm
        rw [this]
        rfl
      · exact ⟨.ref l,H,I,rfl,q1 h1 h2⟩
    · have hi2 : ¬ its2.toArray.isEmpty=true:=fun z=>h2 (by
        have : its2=[]:=by simpa using z
        rw [this] at hl2
        exact List.length_eq_zero_iff.mp hl2)
      refine concat_meets ⟨_,e1,rfl⟩ ⟨_,e2,rfl⟩ noFill_tuple_add seq_tuple_add PySem.F.slot_tuple_add PySem.F.entry_tuple_add (PySem.F.args_tuple_add_2 _ _) (tuple_addW2 l b its.toArray its2.toArray n1 n2 none none sl sl2 hi1 hi2 (by rw [List.size_toArray,List.size_toArray]; omega)) ⟨e1,e2,?_⟩
      have ea : its.toArray ++ its2.toArray=(its ++ its2).toArray:=by simp
      rw [ea]
      refine ⟨.ref s.heap.objs.size,_,I.laid (t':=s.toks) (o:=.tup (xs ++ zs)) (fun b ob q=>Heap.get?_push_of_some _ q) (Nat.le_refl _) ?_,rfl,q2 h1 h2 _ (I.hok.fresh (Nat.le_refl _))⟩
      exact ⟨by rw [List.length_append]; omega,_,r.append r2,TupN.new _ _⟩
noncomputable def catT : D->D->Option D
  | .tup ds,.tup es=>if ds.length + es.length≤sizeLine then some (.tup (ds ++ es)) else none
  | _,_=>none
theorem y1e (ha : PD X a f) (hb : PD X b g) : PD X (.BinOp a .Add b pos) (d2 catT f g):=(pe_op op_catU ha hb).imp fun σ H Q z_=>by
  obtain ⟨B,δ,d,hB,S,q,k⟩:=z_
  obtain ⟨x,y,e1,e2,e3⟩:=z6z q
  unfold catT at e3
  split at e3
  case h_2=>cases e3
  case h_1 ds es=>
  split at e3
  case isFalse=>cases e3
  case isTrue hl=>
  cases e3
  refine ⟨B,δ,_,hB,S,e1,fun v H1 s1 r1=>⟨B,δ,_,hB.mono s1,S.mono s1,e2,fun v2 H2 s2 r2=>?_⟩⟩
  unfold Rep at r1 r2
  obtain ⟨p1,vs,rfl,h1,rs1⟩:=r1
  obtain ⟨p2,ws,rfl,h2,rs2⟩:=r2
  have l1:=rs1.length
  have l2:=rs2.length
  refine ⟨p1,p2,vs,ws,rfl,rfl,s2.tup h1,h2,by rw [← l1,← l2]; exact hl,fun z=>?_,fun z1 z=>?_,fun z1 z2 p hp=>?_⟩
  · have hd : ds=[]:=List.length_eq_zero_iff.mp (by rw [l1,z]; rfl)
    refine k _ _ (s1.trans s2) ?_
    rw [hd,List.nil_append]
    unfold Rep
    exact ⟨p2,ws,rfl,h2,rs2⟩
  · have he : es=[]:=List.length_eq_zero_iff.mp (by rw [l2,z]; rfl)
    refine k _ _ (s1.trans s2) ?_
    rw [he,List.append_nil]
    unfold Rep
    exact ⟨p1,vs,rfl,s2.tup h1,rs1.mono s2⟩
  · have sp:=z0u (o:=.tup (vs ++ ws)) hp
    refine k _ _ ((s1.trans s2).trans sp) ?_
    unfold Rep
    exact ⟨p,vs ++ ws,rfl,SqT.of z0c,((rs1.mono s2).append rs2).mono sp⟩
end
end L2
namespace L2
open PySem PySem.Spec PyProof.Rows
section
variable {X : Cx} {c : Expr} {a b : List Stmt} {p2 pos : Pos} {H0 : Hp} {B0 : Addr->Prop} {fr : Bool} {RX : XR} {F : DS->Option XO} {g h : SS->Option Out}
end
end L2
namespace L2
open PySem PySem.Spec PyProof.Rows
section
variable {X : Cx} {x : Str} {C : Addr} {np cpos : Pos} {e₀ : Expr} {te : TE} {f : DE}
end
end L2
namespace L2
open PySem PySem.Spec PyProof.Rows
section
variable {X : Cx} {pos : Pos} {H0 : Hp} {B0 : Addr->Prop} {fr : Bool} {RX : XR} {F : DS->Option XO}
end
end L2
namespace L2
open PySem PySem.Spec PyProof.Rows
section
variable {P : Program} {w : World} {K : PySem.W.Frag} {mg : Str->Option Value} {base : Heap}
end
section
variable {X : Cx} {k : Nat} {x : Str} {p pos : Pos} {e e' : Expr} {es : List Expr}
variable {H0 : Hp} {B0 : Addr->Prop} {RX : XR} {a : Expr} {pos' : Pos}
end
end L2
namespace L2
open PySem PySem.Spec PyProof.Rows
section
variable {K : PySem.W.Frag} {H0 H : Hp} {B0 : Addr->Prop} {σ : St} {δ : SS} {R : Nat->List Addr}
noncomputable def givS (i j : Nat) (d : D) (δ : SS) : SS:=((z0i i (z0i j δ)).set j none).set i (some (.ow d))
end
section
variable {X : Cx} {H0 : Hp} {B0 : Addr->Prop} {fr : Bool} {RX : XR} {e : Expr} {pos ap cp : Pos} {x : Str} {px : Pos}
noncomputable def appO (i j : Nat) : SS->Option Out:=fun δ=>match δ[j]?,δ[i]? with
  | some (some (.ow d)),some (some (.ow (.lst ds)))=>(y1V ds [d]).map fun ds'=>.nx (givS i j (.lst ds') δ)
  | _,_=>none
end
section
variable {X : Cx} {pos : Pos}
variable {H0 : Hp} {B0 : Addr->Prop} {fr : Bool} {RX : XR}
@[irreducible] def PSb (X : Cx) (st : Stmt) (t : TS) : Prop:=PS X st t
@[irreducible] def PSsb (X : Cx) (st : List Stmt) (t : TS) : Prop:=PSs X st t
end
section
variable {P : Program} {w : World} {K : PySem.W.Frag} {mg : Str->Option Value} {base : Heap}
end
end L2
namespace L2
open PySem PySem.Spec PyProof.Rows
section
variable {X : Cx} {H0 : Hp} {B0 : Addr->Prop} {fr : Bool} {RX : XR} {x : Str} {px p2 ap cp pos : Pos} {ke : Expr} {fk : DE}
end
end L2
namespace L2
open PySem PySem.Spec PyProof.Rows
section
variable {X : Cx} {H0 : Hp} {B0 : Addr->Prop} {fr : Bool} {RX : XR} {e : Expr} {f : DE} {pos ap cp : Pos} {x : Str} {px : Pos}
end
section
variable {X : Cx} {pos : Pos}
variable {H0 : Hp} {B0 : Addr->Prop} {fr : Bool} {RX : XR}
end
end L2
namespace L2
open PySem PySem.Spec PyProof.Rows
section
variable {X : Cx} {e : Expr} {f : DE} {y z : Str} {p p2 p3 p4 pos : Pos} {x1 : Nat} {L M1 M2 N : List Str}
end
end L2
namespace L2
open PySem PySem.Spec PyProof.Rows
section
variable {X : Cx} {o e : Expr} {apos cpos : Pos}
end
section
variable {X : Cx} {H0 : Hp} {B0 : Addr->Prop} {fr : Bool} {RX : XR} {e ke : Expr} {pos : Pos} {x : Str} {px p2 : Pos}
end
end L2
namespace L2
open PySem PySem.Spec PyProof.Rows
section
variable {X : Cx} {H0 : Hp} {B0 : Addr->Prop} {fr : Bool} {RX : XR} {pos : Pos}
end
end L2
namespace L2
open PySem PySem.Spec PyProof.Rows
section
variable {K : PySem.W.Frag} {H : Hp} {B : Addr->Prop} {m : Addr} {xs : List V} {o : Obj}
noncomputable def z6h : List D->Option (List Int)
  | []=>some []
  | .int i :: ds=>(z6h ds).map (i :: ·)
  | _=>none
theorem z4L : ∀ {ds : List D} {ns : List Int},z6h ds=some ns->ds=ns.map .int
  | [],_,h=>by cases h; rfl
  | d :: ds,ns,h=>by
    cases d
    case int i=>
      unfold z6h at h
      cases e : z6h ds with
      | none=>rw [e] at h; cases h
      | some ms=>
        rw [e] at h
        cases h
        rw [z4L e]; rfl
    all_goals (unfold z6h at h; cases h)
theorem z4o : ∀ {ns : List Int} {ys : List V} {A : List Addr},Trees K H (ns.map .int) ys A->ys=ns.map V.int∧A=[]
  | [],_,_,h=>h
  | n :: ns,ys,A,h=>by
    rw [List.map_cons] at h
    unfold Trees at h
    obtain ⟨x,r,B',C,e,t,ts,eA⟩:=h
    unfold Tree at t
    obtain ⟨e1,e2⟩:=z4o ts
    rw [e,eA,t.1,t.2,e1,e2]
    exact ⟨rfl,rfl⟩
theorem z4h : ∀ ns : List Int,Trees K H (ns.map .int) (ns.map V.int) []
  | []=>⟨rfl,rfl⟩
  | n :: ns=>by
    rw [List.map_cons]
    unfold Trees
    refine ⟨_,_,[],[],rfl,?_,z4h ns,rfl⟩
    unfold Tree
    exact ⟨rfl,rfl⟩
end
section
variable {X : Cx} {H0 : Hp} {B0 : Addr->Prop} {fr : Bool} {RX : XR} {st : Stmt}
end
end L2
namespace L2
open PySem PySem.Spec PyProof.Rows
section
variable {K : PySem.W.Frag} {H : Hp} {B : Addr->Prop} {m : Addr} {xs : List V}
end
section
variable {K : PySem.W.Frag} {H0 H H' : Hp} {B0 : Addr->Prop} {σ : St} {δ : SS} {R : Nat->List Addr}
end
section
variable {X : Cx} {H0 : Hp} {B0 : Addr->Prop} {fr : Bool} {RX : XR} {st1 st2 : Stmt} {sts : List Stmt} {f : DE} {z : Int}
end
end L2
namespace L2
open PySem PySem.Spec PyProof.Rows
section
variable {P : Program} {w : World} {K : PySem.W.Frag} {mg : Str->Option Value} {base : Heap}
end
section
variable {X : Cx} {e : Expr} {pos ap cp p2 : Pos} {x : Str} {px : Pos} {f : DE} {z : Int} {ke : Expr}
end
end L2
namespace L2
open PySem PySem.Spec PyProof.Rows
section
variable {X : Cx}
variable {e : Expr} {f : DE} {p pos : Pos}
end
end L2
namespace L2
open PySem PySem.Spec PyProof.Rows
theorem y0p {i j : Nat} {δ : SS} {d : D} (h : δ[i]? = some (some (.ow d))) : (z0i j δ)[i]? = some (some (.ow d)):=by
  unfold z0i
  rw [List.getElem?_map,h]
  rfl
noncomputable def popS (i j : Nat) (c : Int) (ds es : List D) (δ : SS) : SS:=(z0i i ((z0i j δ).set j (some (.ow (.lst es))))).set i (some (.ow (.lst (ds ++ [.int c]))))
section
variable {X : Cx} {H0 : Hp} {B0 : Addr->Prop} {fr : Bool} {RX : XR} {e : Expr} {pos ap cp ap2 cp2 : Pos} {x y : Str} {px py : Pos}
end
end L2
namespace L2
open PySem PySem.Spec PyProof.Rows
section
variable {prog : Program} {w : World} {A : Around} {E : Value->Shared->Prop} {s : Shared} {it t : Addr} {i : Nat} {its : Array Value} {Q : Fin->Shared->Prop} {o ol : Obj} {n : Nat} {x : Value}
end
section
variable {prog : Program} {w : World} {A : Around} {E : Value->Shared->Prop} {s : Shared} {z TI TO i1 i2 : Addr} {a b : Value}
end
section
variable {prog : Program} {w : World} {A : Around} {E : Value->Shared->Prop} {s : Shared} {z TI TO i1 i2 : Addr} {a b : Value}
end
end L2
namespace L2
open PySem PySem.Spec PyProof.Rows
noncomputable def SIt (h : Heap) (tp : Bool) (it a : Addr) (i : Nat) : Prop:=if tp=true then h.IsTupleIter it a i else h.IsListIter it a i
section
variable {X : Cx} {pins : List (Addr × Obj)} {σ : St} {H : Hp} {s : Shared} {a : Addr} {xs ys : List V} {tp : Bool}
end
structure ZipAt (h : Heap) (tp : Bool) (a b z TI TO i1 i2 : Addr) (i : Nat) : Prop where
  zip : IsZip h z TI TO .none
  its : IsPair h TI (.ref i1) (.ref i2)
  out : ∃ u v,IsPair h TO u v
  one : SIt h tp i1 a i
  two : SIt h false i2 b i
end L2
namespace L2
open PySem PySem.Spec PyProof.Rows
section
variable {ob : Addr->Obj} {L : Addr->Bool} {H : Hp} {a : Addr}
end
section
variable {K : PySem.W.Frag} {ob : Addr->Obj} {L : Addr->Bool} {H0 H : Hp} {B B0 : Addr->Prop} {σ : St} {δ : SS} {R : Nat->List Addr}
end
section
variable {K : PySem.W.Frag} {ob : Addr->Obj} {L : Addr->Bool} {H : Hp}
end
section
variable {X : Cx} {H0 : Hp} {B0 : Addr->Prop} {fr : Bool} {RX : XR} {st : Stmt}
end
end L2
namespace L2
open PySem PySem.Spec PyProof.Rows
section
variable {X : Cx}
variable {a b : Expr} {f g : DE} {pos : Pos}
end
end L2
namespace PySem
section
variable {prog : Program} {w : World} {A : Around} {E : Value->Shared->Prop} {s : Shared}
set_option maxHeartbeats 3200000 in
open PyProof.Rows in
end
end PySem
namespace L2
open PySem PySem.Spec PyProof.Rows
section
variable {X : Cx} {e : Expr} {te : TE} {p p' pos pos' : Pos}
variable {f : DE}
end
end L2
namespace L2
open PySem PySem.Spec PyProof.Rows
section
variable {X : Cx} {ka va kb vb : Expr} {pos : Pos} {fa fb fc fd : DE}
end
end L2
namespace L2
open PySem PySem.Spec PyProof.Rows
section
variable {X : Cx} {N' : List Str} {sc : Scope} {iter elt : Expr} {ifs : List Expr} {n : Nat} {x x' : Str} {px px' tp pos : Pos} {x1 : Nat} {fi : DS->Option (List D)} {fc : DS->Option Bool} {fe : DE}
end
end L2
namespace L2
open PySem PySem.Spec PyProof.Rows
section
variable {P : Program} {w : World} {K : PySem.W.Frag} {mg : Str->Option Value} {base : Heap}
end
section
variable {X : Cx} {k : Nat} {sp : Sp} {cl : Nat->Value} {RX : XR} {x : Str} {p pos pos2 : Pos} {e : Expr} {es : List Expr} {t : TA}
variable {H0 : Hp} {B0 : Addr->Prop} {fr : Bool} {F : DS->Option XO}
end
end L2
namespace L2
open PySem PySem.Spec PyProof.Rows
section
variable {K : PySem.W.Frag} {H : Hp} {B : Addr->Prop} {m : Addr} {c : Int} {ys : List V}
end
section
variable {K : PySem.W.Frag} {H0 H H' : Hp} {B0 : Addr->Prop} {σ : St} {δ : SS} {R : Nat->List Addr}
end
section
variable {X : Cx} {H0 : Hp} {B0 : Addr->Prop} {fr : Bool} {RX : XR} {st1 : Stmt} {sts : List Stmt} {f : DE} {x : Str} {px p2 ap cp pos : Pos} {ke e : Expr}
end
end L2
namespace L2
open PySem PySem.Spec PyProof.Rows
section
variable {X : Cx} {a b c e o : Expr} {f g h : DE} {p pos apos cpos p2 : Pos} {tg : Expr}
end
end L2
namespace L2
open PySem PySem.Spec PyProof.Rows
noncomputable instance {i j : Int} : Decidable (CDivN i j):=by unfold CDivN; infer_instance
section
variable {X : Cx} {a b e : Expr} {f g : DE} {p pos : Pos}
end
end L2
namespace L2
open PySem PySem.Spec PyProof.Rows
structure MethOk (P : Program) (w : World) (K : PySem.W.Frag) (mg : Str->Option Value) (base : Heap) (k : Nat) (cn m : Str) (sp : Sp) : Prop where
  ok : ∃ (C f : Addr) (fd : FuncData) (ps : List Str),PySem.W.nsIn K mainGlobals cn=some (some (.ref C))∧L2.Cls K C∧Meth K C m f∧Binds K fd ps []∧FnOk P w K mg base CX0 k f fd ps sp
noncomputable def z5J (f : Str) : D->Option D
  | .obj _ _ ks ds=>(ks.zip ds).lookup f
  | _=>none
theorem y0d {K : PySem.W.Frag} {H : Hp} {B : Addr->Prop} {f : Str} {d : D} : ∀ {fs : List (Str × V)} {ds : List D},Reps K H B ds (fs.map (·.2))->((fs.map (·.1)).zip ds).lookup f=some d->f∈fs.map (·.1)∧∃ v,fs.lookup f=some v∧Rep K H B d v
  | [],ds,_,e=>by simp at e
  | (k,u) :: fs,[],r,e=>by simp at e
  | (k,u) :: fs,d' :: ds,r,e=>by
    rw [List.map_cons] at r
    unfold Reps at r
    obtain ⟨x,r',ex,r1,r2⟩:=r
    cases ex
    rw [List.map_cons,List.zip_cons_cons] at e
    by_cases h : f=k
    · have hb : (f == k)=true:=beq_iff_eq.mpr h
      simp only [List.lookup,hb] at e ⊢
      cases e
      exact ⟨by rw [h]; exact List.mem_cons_self,u,rfl,r1⟩
    · have hb : (f == k)=false:=beq_eq_false_iff_ne.mpr h
      simp only [List.lookup,hb] at e ⊢
      obtain ⟨m,v,e1,r3⟩:=y0d r2 e
      exact ⟨List.mem_cons_of_mem _ m,v,e1,r3⟩
section
variable {X : Cx} {e o : Expr} {es : List Expr} {pos apos p px cp : Pos} {f m cn : Str} {k : Nat}
theorem z2f {g : DE} (h : PD X e g) (hb : attributeBase e f X.env (eval e X.env)=eval e X.env:=by rfl) : PD X (.Attribute e f pos) (d1 (z5J f) g):=(z9f h hb).imp fun σ H Q z_=>by
  obtain ⟨B,δ,d,hB,S,q,k⟩:=z_
  obtain ⟨o,e1,e2⟩:=z7X q
  refine ⟨B,δ,o,hB,S,e1,fun v H1 s1 r1=>?_⟩
  cases o with
  | obj x a ks ds=>
    unfold Rep at r1
    obtain ⟨C,dx,fs,nb,ha,⟨rfl,hn,hi,rfl⟩,rs⟩:=r1
    obtain ⟨m,u,e3,r3⟩:=y0d rs e2
    obtain ⟨cl,_,_,_,_,_,na⟩:=z1d hi
    exact ⟨a,C,dx,fs,u,rfl,ha,cl,na f m,e3,k u H1 s1 r3⟩
  | _=>cases e2
theorem pd_glob {x : Str} {i : Int} {pos : Pos} (hg : Gl X x) (hm : ∃ t,X.mg x=some (.int i t)) (hd : (x == ("__debug__" : Str))=false:=by decide) : PD X (.Name x pos) (dC (.int i)):=by
  obtain ⟨t,hm⟩:=hm
  exact pd_C (v:=.int i) (pe_glob hg hm ⟨t,rfl⟩ hd) fun _ _ _=>rfl
noncomputable def z1O {α : Type} (cn m : Str) (F : List D->Option α) : List D->Option α
  | .obj x a ks ds :: r=>if (x == cn && !ks.contains m)=true then F (.obj x a ks ds :: r) else none
  | _=>none
theorem z4S {α : Type} {F : List D->Option α} {d : D} {r : List D} {z : α} (h : z1O cn m F (d :: r)=some z) : ∃ a ks ds,d = .obj cn a ks ds∧ks.contains m=false∧F (d :: r)=some z:=by
  cases d with
  | obj x a ks ds=>
    have h2 : (if (x == cn && !ks.contains m)=true then F (.obj x a ks ds :: r) else none)=some z:=h
    split at h2
    · rename_i hc
      rw [Bool.and_eq_true,beq_iff_eq,Bool.not_eq_true'] at hc
      obtain ⟨rfl,hc⟩:=hc
      exact ⟨a,ks,ds,rfl,hc,h2⟩
    · cases h2
  | _=>cases h
theorem z6d {fs : List (Str × V)} (h : (fs.map (·.1)).contains m=false) : fs.lookup m=none:=by
  induction fs with
  | nil=>rfl
  | cons x r ih=>
    obtain ⟨k,v⟩:=x
    rw [List.map_cons,List.contains_cons,Bool.or_eq_false_iff] at h
    simp only [List.lookup,h.1]
    exact ih h.2
theorem meth_of {F : List D->Option D} {g : DE} {fl : List DE} {C : Addr} {t : TA} (hn : PySem.W.nsIn X.K mainGlobals cn=some (some (.ref C))) (ht : ∀ σ H Q,tDs X.K (z0n fl) σ H Q->t σ H Q) (σ : St) (H : Hp) (Q : VK) (h : tN X.K (z0r (z1O cn m F) (g :: fl)) σ H Q) : tMeth C m (spN X.K F) [] E0 (tD X.K g) t σ H Q:=by
  obtain ⟨δ,d,S,q,k⟩:=h
  obtain ⟨ds,e1,e2⟩:=z4j q
  obtain ⟨x,xs,e3,e4,rfl⟩:=z2w e1
  obtain ⟨a,ks,dd,rfl,hc,e5⟩:=z4S e2
  refine ⟨noB,δ,_,.no,S,e3,fun v H1 s1 r1=>?_⟩
  have r1':=r1
  unfold Rep at r1'
  obtain ⟨C',dx,fs,nb,ha,⟨rfl,hn',hi,rfl⟩,rs⟩:=r1'
  rw [hn] at hn'
  cases hn'
  refine ⟨a,dx,fs,rfl,ha,z6d hc,ht _ _ _ ⟨noB,δ,xs,.no,S.mono s1,e4,fun vs H2 s2 r2=>?_⟩⟩
  show spN X.K F (V.ref a :: (vs ++ [])) H2 Q E0
  rw [List.append_nil]
  exact ⟨_,d,Reps.cons (r1.mono s2) r2,e5,fun v' H' A s' t nd fr=>k v' H' A (s1.trans (s2.trans s')) t nd fun a ha=>s1.free (s2.free (fr a ha))⟩
theorem z1v {F : List D->Option D} {g : DE} {pl : Sem Bool} (G : MethOk X.prog X.w X.K X.mg X.base k cn m (spN X.K F)) (hr : Room k X.A) (ho : PD X o g)
    (ht : eval (.Call (.Attribute o m apos) [] [] pos) X.env=(do
      let ov ← eval o X.env
      standAt apos.atName
      let (f,first) ← holding [ov] (getMethod ov m pl)
      callWith pos f first (backTo pos (starEach [] X.env)) (backToKw pos (keywordEach [] X.env))):=by rfl) :
    PN X (.Call (.Attribute o m apos) [] [] pos) (z0r (z1O cn m F) [g]):=by
  obtain ⟨C,f,fd,ps,hn,hc,hm,hb,ok⟩:=G.ok
  exact (y2Q ho hc hm ok hr hb .nil y3o ht).imp (meth_of hn fun σ H Q ⟨B,δ,ds,hB,S,q,k⟩=>by cases q; exact k [] H (.refl H) .nil)
end
noncomputable def z3H (d0 : D) (δ : SS) (d : D) : Option (D × D):=match d0,δ[0]? with
  | D.obj _ a _ _,some (some (SD.ow (D.obj x a' ks ds)))=>if a=a' then some (.obj x a' ks ds,d) else none
  | _,_=>none
theorem z5O {d0 d d1 d2 : D} {δ : SS} (h : z3H d0 δ d=some (d1,d2)) : d2=d∧δ[0]? = some (some (.ow d1))∧∃ x a ks ds x' ks' ds',d0 = .obj x a ks ds∧d1 = .obj x' a ks' ds':=by
  unfold z3H at h
  split at h
  · rename_i x a ks ds x' a' ks' ds' e
    split at h
    · rename_i ea
      cases h
      subst ea
      exact ⟨rfl,e,x,a,ks,ds,x',ks',ds',rfl,rfl⟩
    · cases h
  · cases h
section
variable {P : Program} {w : World} {K : PySem.W.Frag} {mg : Str->Option Value} {base : Heap}
theorem z6m {H : Hp} {x : Str} {a : Addr} {ks : List Str} {ds : List D} {v : V} {A : List Addr} (t : Tree K H (.obj x a ks ds) v A) : v = .ref a:=by
  unfold Tree at t
  obtain ⟨_,_,_,_,_,⟨e,_⟩,_⟩:=t
  exact e
end
section
variable {X : Cx} {e : Expr} {es : List Expr} {pos apos p px cp : Pos} {fn m cn x : Str} {k i : Nat} {F : List D->Option (D × D)} {fl : List DE}
variable {H0 : Hp} {B0 : Addr->Prop} {fr : Bool} {RX : XR}
theorem RS.apart {K : PySem.W.Frag} {σ : St} {H H1 : Hp} {δ : SS} {R : Nat->List Addr} {A' : List Addr} (rs : RS K H0 B0 H σ δ R) (s1 : Same H H1) (a : Addr) (h : a∈R i∨H1 a=none) (n : a ∉ A') : H0 a=none∧∀ r,a ∉ z4I R i A' r:=by
  refine ⟨h.elim (fun z=>rs.new i a z) fun z=>rs.keep.free (s1.free z),fun r z=>?_⟩
  by_cases hr : r=i
  · subst hr; rw [z0A] at z; exact n z
  · rw [z0Q hr] at z
    rcases h with w | w
    · exact hr (rs.disj r i a z w)
    · obtain ⟨o,q,_⟩:=rs.held r a z
      rw [s1.free w] at q; cases q
noncomputable def z9Y (f : DE) : SS->Option Out:=fun δ=>(f (z0q δ)).bind fun d=>if d.imm=true then some (.rb d δ) else none
theorem z5k {f : DE} (h : PD X e f) : PS X (.Return (some e) pos) (tS X.K H0 B0 fr RX (z9Y f)):=PS.imp (y1b h) fun D σ H z_=>by
  obtain ⟨δ,R,o,rs,q,k⟩:=z_
  unfold z9Y at q
  cases e : f (z0q δ) with
  | none=>rw [e] at q; cases q
  | some d=>
    rw [e] at q
    have q' : (if d.imm=true then some (Out.rb d δ) else none)=some o:=q
    split at q'
    · rename_i hi
      cases q'
      exact ⟨noB,z0q δ,d,.no,rs.all,e,fun v H' s r=>k v σ H' R [] (rs.mono s) (.same s) (r.immTree d hi) List.nodup_nil (fun a z=>nomatch z)⟩
    · cases q'
end
end L2
namespace L2
open PySem PySem.Spec PyProof.Rows
noncomputable def y3O (f : Str) (d : D) : List Str->List D->Option (List D)
  | k :: ks,x :: ds=>if k=f then some (d :: ds) else (y3O f d ks ds).map (x :: ·)
  | _,_=>none
theorem z6S {K : PySem.W.Frag} {H : Hp} {f : Str} {d : D} {y : V} (t : Tree K H d y []) : ∀ {fs : List (Str × V)} {ds ds' : List D} {A : List Addr},Trees K H ds (fs.map (·.2)) A->y3O f d (fs.map (·.1)) ds=some ds'->(∃ A',Trees K H ds' ((z3C f y fs).map (·.2)) A'∧A'.Sublist A)∧(z3C f y fs).map (·.1)=fs.map (·.1)∧f∈fs.map (·.1)
  | [],ds,ds',A,h,q=>by cases q
  | (k,x) :: fs,[],ds',A,h,q=>by cases q
  | (k,x) :: fs,d0 :: ds,ds',A,h,q=>by
    rw [List.map_cons] at h
    unfold Trees at h
    obtain ⟨x',r,A1,A2,e,t1,t2,rfl⟩:=h
    cases e
    have q : (if k=f then some (d :: ds) else (y3O f d (fs.map (·.1)) ds).map (d0 :: ·))=some ds':=q
    by_cases hk : k=f
    · rw [if_pos hk] at q
      cases q
      rw [show z3C f y ((k,x) :: fs)=(if k=f then (k,y) :: fs else (k,x) :: z3C f y fs) from rfl,if_pos hk]
      refine ⟨⟨[] ++ A2,?_,List.sublist_append_right A1 A2⟩,rfl,by rw [hk]; exact List.mem_cons_self⟩
      rw [List.map_cons]
      unfold Trees
      exact ⟨y,_,[],A2,rfl,t,t2,rfl⟩
    · rw [if_neg hk] at q
      cases e2 : y3O f d (fs.map (·.1)) ds with
      | none=>rw [e2] at q; cases q
      | some ds2=>
        rw [e2] at q
        cases q
        obtain ⟨⟨A',t',s'⟩,em,mm⟩:=z6S t t2 e2
        rw [show z3C f y ((k,x) :: fs)=(if k=f then (k,y) :: fs else (k,x) :: z3C f y fs) from rfl,if_neg hk]
        refine ⟨⟨A1 ++ A',?_,List.Sublist.append (List.Sublist.refl A1) s'⟩,by rw [List.map_cons,List.map_cons,em],List.mem_cons_of_mem _ mm⟩
        rw [List.map_cons]
        unfold Trees
        exact ⟨x,_,A1,A',rfl,t1,t',rfl⟩
noncomputable def z9F (i : Nat) (f : Str) (g : DE) : SS->Option Out:=fun δ=>(g (z0q δ)).bind fun d=>if d.imm=true then (match δ[i]? with
  | some (some (SD.ow (D.obj x a ks ds)))=>if ks.length < 1000 then (y3O f d ks ds).map fun ds'=>.nx ((z0i i δ).set i (some (.ow (.obj x a ks ds')))) else none
  | _=>none) else none
section
variable {X : Cx} {e value : Expr} {es : List Expr} {pos pos' apos ap p px cp : Pos} {fn m cn x f : Str} {k i : Nat} {fl : List DE} {H0 : Hp} {B0 : Addr->Prop} {fr : Bool} {RX : XR} {g : DE}
theorem z3J {σ : St} {v : V} (ev : σ[i]? = some (some v)) : σ.set i (some v)=σ:=by
  refine List.ext_getElem? fun j=>?_
  by_cases hj : j=i
  · subst hj
    have hl : j < σ.length:=(List.getElem?_eq_some_iff.mp ev).1
    rw [List.getElem?_set,ev]
    simp [hl]
  · rw [List.getElem?_set_ne (Ne.symm hj)]
theorem s_setF (hx : PE X (.Name x px) (z3s i)) (hv : PD X value g) (hs : swapsWith value (some (.Attribute (.Name x px) f pos')) pos.line X.env=pure false:=by rfl) :
    PS X (.Assign [.Attribute (.Name x px) f pos'] value pos) (tS X.K H0 B0 fr RX (z9F i f g)):=PS.imp (z5g hx hv hs) fun D σ H z_=>by
  obtain ⟨δ,R,o,rs,q,kk⟩:=z_
  unfold z9F at q
  cases e1 : g (z0q δ) with
  | none=>rw [e1] at q; cases q
  | some d=>
  rw [e1,Option.bind_some] at q
  split at q
  case isFalse=>cases q
  case isTrue him=>
  split at q
  case h_2=>cases q
  case h_1 x' a ks ds ei=>
  split at q
  case isFalse=>cases q
  case isTrue hl=>
  cases e2 : y3O f d ks ds with
  | none=>rw [e2] at q; cases q
  | some ds'=>
  rw [e2] at q
  cases q
  obtain ⟨v,ev,t,nd⟩:=rs.ow i _ ei
  refine ⟨noB,z0q δ,d,.no,rs.all,e1,fun y H1 s1 r1=>⟨v,ev,?_⟩⟩
  have t1:=t.mono s1
  unfold Tree at t1
  obtain ⟨C,dx,fs,A1,ha,⟨rfl,hn,hi,rfl⟩,ts,eR⟩:=t1
  obtain ⟨⟨A',t',sub⟩,em,mm⟩:=z6S (f:=f) (r1.immTree d him) ts e2
  obtain ⟨cl,_,_,_,_,_,na⟩:=z1d hi
  refine ⟨a,C,dx,fs,rfl,ha,cl,na f mm,by rw [List.length_map] at hl; exact hl,?_⟩
  have mH : Mut (H1 a):=by rw [ha]; exact True.intro
  rw [eR] at nd
  obtain ⟨na1,nd1⟩:=List.nodup_cons.mp nd
  have aR : a∈R i:=by rw [eR]; exact List.mem_cons_self
  have tn : Tree X.K (upd H1 a (.ins C dx (z3C f y fs))) (.obj x' a (fs.map (·.1)) ds') (.ref a) (a :: A'):=by
    unfold Tree
    refine ⟨C,dx,z3C f y fs,A',z0c,⟨rfl,hn,hi,em⟩,?_,rfl⟩
    refine Trees.keep (Keep.upd (K:=X.K) (B:=fun z=>z=a) rfl mH).i ds' t' fun b hb o z=>?_
    rw [z0d fun w=>na1 (by rw [← w]; exact sub.subset hb)]
    exact z
  have P:=rs.moved s1 ei (H2:=upd H1 a (.ins C dx (z3C f y fs))) (A:=a :: A') (fun b o z=>by
      by_cases hb : b∈R i
      · rw [z2B hb] at z; cases z
      · rw [z1e hb] at z
        rw [z0d fun w=>hb (by rw [w]; exact aR)]
        exact z) tn (List.nodup_cons.mpr ⟨fun z=>na1 (sub.subset z),nd1.sublist sub⟩) (fun b hb=>.inl (by
        rw [eR]
        rcases List.mem_cons.mp hb with z | z
        · rw [z]; exact List.mem_cons_self
        · exact List.mem_cons_of_mem _ (sub.subset z))) fun b z=>by
    by_cases hb : b=a
    · subst hb; rw [z0c] at z; cases z
    · rw [z0d hb] at z; exact z
  rw [z3J ev] at P
  exact kk σ _ _ P.1 P.2
noncomputable def bkKs : List Str:=["thing_count", "entries", "earlier", "next_number"]
noncomputable def spC (K : PySem.W.Frag) : Sp:=fun vs H Q _=>∃ (v u : V) (x : Str) (a : Addr) (m n : Int) (es ls : List D) (d : D) (A A2 : List Addr),vs=[v,u]∧Tree K H (.obj x a bkKs [.int m,.lst es,.lst ls,.int n]) v A∧Tree K H d u A2∧(A ++ A2).Nodup∧ls.length < sizeLine ∧
  ∀ H' A',Same (z2v H A) H'->Tree K H' (.obj x a bkKs [.int m,d,.lst (ls ++ [.lst es]),.int n]) v A'->A'.Nodup->(∀ b∈A',b∈A∨b∈A2)->(∀ b,H' b=none->H b=none)->Q .non H'
noncomputable def bk4 {α : Type} (a b c d : α) : List (Str × α):=[("thing_count",a),("entries",b),("earlier",c),("next_number",d)]
theorem bk4_ent {a b c d : V} : (bk4 a b c d).lookup ("entries" : Str)=some b:=by kernel_rfl
theorem y0j {a b c d : V} : (bk4 a b c d).lookup ("earlier" : Str)=some c:=by kernel_rfl
theorem y0w {a b c d y : V} : z3C "entries" y (bk4 a b c d)=bk4 a y c d:=by kernel_rfl
theorem bk4_ks {α : Type} {a b c d : α} : (bk4 a b c d).map (·.1)=bkKs:=rfl
theorem bk4_new {a b c d : V} : z3C "next_number" d (z3C "earlier" c (z3C "entries" b (z3C "thing_count" a [])))=bk4 a b c d:=by kernel_rfl
theorem four {α : Type} {fs : List (Str × α)} (h : fs.map (·.1)=bkKs) : ∃ a b c d,fs=bk4 a b c d:=by
  unfold bkKs at h
  match fs,h with
  | [(k1,a),(k2,b),(k3,c),(k4,d)],h=>
    simp only [List.map_cons,List.map_nil,List.cons.injEq,and_true] at h
    obtain ⟨rfl,rfl,rfl,rfl⟩:=h
    exact ⟨a,b,c,d,rfl⟩
  | [],h=>cases h
  | [_],h=>simp at h
  | [_,_],h=>simp at h
  | [_,_,_],h=>simp at h
  | _ :: _ :: _ :: _ :: _ :: _,h=>simp at h
theorem z4U {K : PySem.W.Frag} {H : Hp} {x : Str} {a : Addr} {m n : Int} {d1 d2 : D} {v : V} {A : List Addr} (t : Tree K H (.obj x a bkKs [.int m,d1,d2,.int n]) v A) :
    ∃ C dx u1 u2 A1 A2,v = .ref a∧H a=some (.ins C dx (bk4 (.int m) u1 u2 (.int n)))∧PySem.W.nsIn K mainGlobals x=some (some (.ref C))∧z5w K C bkKs=true∧Tree K H d1 u1 A1∧Tree K H d2 u2 A2∧A=a :: (A1 ++ A2):=by
  unfold Tree at t
  obtain ⟨C,dx,fs,A0,ha,⟨rfl,hn,hi,hk⟩,ts,rfl⟩:=t
  obtain ⟨w1,w2,w3,w4,rfl⟩:=four hk
  have ts : Trees K H [.int m,d1,d2,.int n] [w1,w2,w3,w4] A0:=ts
  unfold Trees at ts
  obtain ⟨z1,r1,B1,C1,e1,t1,ts,rfl⟩:=ts
  cases e1
  unfold Trees at ts
  obtain ⟨z2,r2,B2,C2,e2,t2,ts,rfl⟩:=ts
  cases e2
  unfold Trees at ts
  obtain ⟨z3,r3,B3,C3,e3,t3,ts,rfl⟩:=ts
  cases e3
  unfold Trees at ts
  obtain ⟨z4,r4,B4,C4,e4,t4,ts,rfl⟩:=ts
  cases e4
  obtain ⟨_,rfl⟩:=ts
  obtain ⟨rfl,rfl⟩:=t1
  obtain ⟨rfl,rfl⟩:=t4
  exact ⟨C,dx,_,_,B2,B3,rfl,ha,hn,hi,t2,t3,by simp⟩
theorem z7Q {K : PySem.W.Frag} {H : Hp} {x : Str} {a C dx : Addr} {m n : Int} {d1 d2 : D} {u1 u2 : V} {A1 A2 : List Addr} (ha : H a=some (.ins C dx (bk4 (.int m) u1 u2 (.int n)))) (hn : PySem.W.nsIn K mainGlobals x=some (some (.ref C))) (hi : z5w K C bkKs=true)
    (t1 : Tree K H d1 u1 A1) (t2 : Tree K H d2 u2 A2) : Tree K H (.obj x a bkKs [.int m,d1,d2,.int n]) (.ref a) (a :: (A1 ++ A2)):=by
  unfold Tree
  refine ⟨C,dx,_,A1 ++ A2,ha,⟨rfl,hn,hi,rfl⟩,?_,rfl⟩
  show Trees K H [.int m,d1,d2,.int n] [.int m,u1,u2,.int n] (A1 ++ A2)
  have e : A1 ++ A2=[] ++ (A1 ++ (A2 ++ ([] ++ []))):=by simp
  rw [e]
  exact ⟨_,_,[],_,rfl,⟨rfl,rfl⟩,⟨_,_,A1,_,rfl,t1,⟨_,_,A2,_,rfl,t2,⟨_,_,[],[],rfl,⟨rfl,rfl⟩,⟨rfl,rfl⟩,rfl⟩,rfl⟩,rfl⟩,rfl⟩
end
section
variable {P : Program} {w : World} {K : PySem.W.Frag} {mg : Str->Option Value} {base : Heap}
theorem fnC {x qual : Str} {st : Stmt} {f : Addr} {fd : FuncData} {N ps : List Str} {k : Nat} (F : Fun K x qual st f fd) (S : FnScope N ps (z0a st)) (hnp : ps.length=2) (hN : N.length=2)
    (hbody : ∀ (cdv : Value) (A : Around) (outer : List Env) (s : Shared) (H : Hp) (E : XK),Room k (A.deeper (envOfC qual (z0a st) s.heap.objs.size f cdv)) →
      PSs (z6I CX0 P w K mg base N qual (z0a st) f cdv A outer s H E).nox (z0o st) (tSeq (tDrop (tBM K "list" z6l (tFld K (z3s 0) "earlier") (tCons (tFld K (z3s 0) "entries") tNil))) (sFld K (z3s 0) (z3s 1) "entries"))) : FnOk P w K mg base CX0 (k + 1) f fd ps (spC K):=by
  refine F.ok S (fun vs H Q E h=>?_) fun cdv A outer s H vs Q E hr h=>?_
  · obtain ⟨v,u,x,a,m,n,es,ls,d,A,A2,rfl,_⟩:=h
    exact hnp.symm
  · obtain ⟨v,u,x,a,m,n,es,ls,d,A',A2,rfl,t,t2,nd,hl,kk⟩:=h
    refine ⟨_,hbody cdv A outer s H E hr,?_⟩
    obtain ⟨C,dx,u1,u2,B1,B2,rfl,ha,hn,hi,t3,t4,rfl⟩:=z4U t
    obtain ⟨cl,_,_,_,_,_,na⟩:=z1d hi
    have n1 : NoAttr K C "entries" := na _ (by decide +kernel)
    have n2 : NoAttr K C "earlier" := na _ (by decide +kernel)
    unfold Tree at t4
    obtain ⟨l,xs,B3,rfl,hls,ts,rfl⟩:=t4
    have es0 : z2h N [V.ref a,u]=[some (.ref a),some u]:=by
      unfold z2h
      rw [hN]
      rfl
    rw [es0]
    have nal : a≠l:=fun z=>by rw [z] at ha; rw [hls] at ha; cases ha
    refine ⟨_,rfl,a,C,dx,_,_,rfl,ha,cl,n2,y0j,.inl ⟨rfl,xs,SqL.of hls⟩,_,rfl,a,C,dx,_,_,rfl,ha,cl,n1,bk4_ent,l,xs,u1,rfl,rfl,hls,by rw [← Trees.length ts]; exact hl,?_⟩
    refine ⟨_,rfl,_,rfl,a,C,dx,_,rfl,by rw [z0d nal]; exact ha,cl,n1,(by show 4 < 1000; decide),?_⟩
    rw [y0w]
    have nd':=nd
    obtain ⟨ndA,ndA2,ndd⟩:=List.nodup_append.mp nd
    obtain ⟨na1,ndB⟩:=List.nodup_cons.mp ndA
    obtain ⟨ndB1,ndB2,ndBd⟩:=List.nodup_append.mp ndB
    obtain ⟨nl3,ndB3⟩:=List.nodup_cons.mp ndB2
    have mHl : Mut (H l):=by rw [hls]; exact True.intro
    have mHa : Mut (upd H l (.lst (xs ++ [u1])) a):=by rw [z0d nal,ha]; exact True.intro
    have kI : KeepI K H (upd (upd H l (.lst (xs ++ [u1]))) a (.ins C dx (bk4 (.int m) u (.ref l) (.int n)))):=by
      have k1:=(Keep.upd (K:=K) (B:=fun z=>z=l) (o:=.lst (xs ++ [u1])) rfl mHl).i
      have k2:=(Keep.upd (K:=K) (B:=fun z=>z=a) (o:=.ins C dx (bk4 (.int m) u (.ref l) (.int n))) rfl mHa).i
      exact ⟨fun b ys z=>k2.st b ys (k1.st b ys z),fun b ys z=>k2.sf b ys (k1.sf b ys z)⟩
    have ne : ∀ b,b≠a->b≠l->∀ o,H b=some o->(upd (upd H l (.lst (xs ++ [u1]))) a (.ins C dx (bk4 (.int m) u (.ref l) (.int n)))) b=some o:=fun b h1 h2 o z=>by rw [z0d h1,z0d h2]; exact z
    have mA : ∀ b∈B1,b≠a∧b≠l:=fun b hb=>⟨fun z=>na1 (by rw [← z]; exact List.mem_append_left _ hb),fun z=>ndBd b hb l List.mem_cons_self z⟩
    have mB : ∀ b∈B3,b≠a∧b≠l:=fun b hb=>⟨fun z=>na1 (by rw [← z]; exact List.mem_append_right _ (List.mem_cons_of_mem _ hb)),fun z=>nl3 (by rw [← z]; exact hb)⟩
    have mC : ∀ b∈A2,b≠a∧b≠l:=fun b hb=>⟨fun z=>ndd a List.mem_cons_self b hb z.symm,fun z=>ndd l (List.mem_cons_of_mem _ (List.mem_append_right _ List.mem_cons_self)) b hb z.symm⟩
    have pm : (a :: (A2 ++ (l :: (B3 ++ B1)))).Perm ((a :: (B1 ++ (l :: B3))) ++ A2):=by
      refine List.Perm.cons a ?_
      refine List.perm_append_comm.trans (List.Perm.append_right A2 ?_)
      exact (List.perm_append_comm (l₁:=l :: B3) (l₂:=B1))
    refine kk _ (a :: (A2 ++ (l :: (B3 ++ B1)))) (fun b o z=>?_) (z7Q z0c hn hi (Tree.keep kI d t2 fun b hb o z=>ne b (mC b hb).1 (mC b hb).2 o z) ?_) (pm.nodup_iff.mpr nd') (fun b hb=>?_) fun b z=>?_
    · by_cases hb : b∈a :: (B1 ++ (l :: B3))
      · rw [z2B hb] at z; cases z
      · rw [z1e hb] at z
        exact ne b (fun w=>hb (by rw [w]; exact List.mem_cons_self)) (fun w=>hb (by rw [w]; exact List.mem_cons_of_mem _ (List.mem_append_right _ List.mem_cons_self))) o z
    · unfold Tree
      exact ⟨l,xs ++ [u1],B3 ++ B1,rfl,by rw [z0d nal.symm,z0c],Trees.snoc (Trees.keep kI ls ts fun b hb o z=>ne b (mB b hb).1 (mB b hb).2 o z) (Tree.keep kI (.lst es) t3 fun b hb o z=>ne b (mA b hb).1 (mA b hb).2 o z),rfl⟩
    · exact List.mem_append.mp (pm.subset hb)
    · by_cases h1 : b=a
      · subst h1; rw [z0c] at z; cases z
      · rw [z0d h1] at z
        by_cases h2 : b=l
        · subst h2; rw [z0c] at z; cases z
        · rw [z0d h2] at z; exact z
noncomputable def spI (K : PySem.W.Frag) : Sp:=fun vs H Q _=>∃ (a C dx : Addr) (m : Int),vs=[.ref a,.int m]∧H a=some (.ins C dx [])∧z5w K C bkKs=true ∧
  ∀ l1 l2 H',H l1=none->H l2=none->l1≠l2->H' a=some (.ins C dx (bk4 (.int m) (.ref l1) (.ref l2) (.int 0)))->H' l1=some (.lst [])->H' l2=some (.lst [])->(∀ b o,b≠a->H b=some o->H' b=some o)->(∀ b,H' b=none->H b=none)->Q .non H'
theorem fnI {x qual : Str} {st : Stmt} {f : Addr} {fd : FuncData} {N ps : List Str} {k : Nat} (F : Fun K x qual st f fd) (S : FnScope N ps (z0a st)) (hnp : ps.length=2) (hN : N.length=2)
    (hbody : ∀ (cdv : Value) (A : Around) (outer : List Env) (s : Shared) (H : Hp) (E : XK),Room k (A.deeper (envOfC qual (z0a st) s.heap.objs.size f cdv)) →
      PSs (z6I CX0 P w K mg base N qual (z0a st) f cdv A outer s H E).nox (z0o st) (tSeq (sFld K (z3s 0) (z3s 1) "thing_count") (tSeq (sFld K (z3s 0) (tLst tNil) "entries") (tSeq (sFld K (z3s 0) (tLst tNil) "earlier") (sFld K (z3s 0) (tC (.int 0)) "next_number"))))) : FnOk P w K mg base CX0 (k + 1) f fd ps (spI K):=by
  refine F.ok S (fun vs H Q E h=>?_) fun cdv A outer s H vs Q E hr h=>?_
  · obtain ⟨a,C,dx,m,rfl,_⟩:=h
    exact hnp.symm
  · obtain ⟨a,C,dx,m,rfl,ha,hi,kk⟩:=h
    refine ⟨_,hbody cdv A outer s H E hr,?_⟩
    obtain ⟨cl,_,_,_,_,_,na⟩:=z1d hi
    have n0 : NoAttr K C "thing_count" := na _ (by decide +kernel)
    have n1 : NoAttr K C "entries" := na _ (by decide +kernel)
    have n2 : NoAttr K C "earlier" := na _ (by decide +kernel)
    have n3 : NoAttr K C "next_number" := na _ (by decide +kernel)
    have es0 : z2h N [V.ref a,V.int m]=[some (.ref a),some (.int m)]:=by
      unfold z2h
      rw [hN]
      rfl
    rw [es0]
    have lp : ∀ (g : Str) (y : V) (fs : List (Str × V)) (n : Nat),fs.length≤n->(z3C g y fs).length≤n + 1:=fun g y fs n h=>Nat.le_trans (z3z g y fs) (by omega)
    have q0 : ([] : List (Str × V)).length≤0:=Nat.le_refl 0
    have q1:=lp "thing_count" (.int m) [] 0 q0
    refine ⟨_,rfl,_,rfl,a,C,dx,_,rfl,ha,cl,n0,(by show 0 < 1000; decide),?_⟩
    refine ⟨by show 0≤sizeLine; decide,fun l1 h1=>?_⟩
    have al1 : a≠l1:=fun z=>by rw [← z,z0c] at h1; cases h1
    have q2:=lp "entries" (.ref l1) _ 1 q1
    refine ⟨_,rfl,a,C,dx,_,rfl,by rw [z0d al1,z0c],cl,n1,by omega,?_⟩
    refine ⟨by show 0≤sizeLine; decide,fun l2 h2=>?_⟩
    have al2 : a≠l2:=fun z=>by rw [← z,z0c] at h2; cases h2
    have q3:=lp "earlier" (.ref l2) _ 2 q2
    refine ⟨_,rfl,a,C,dx,_,rfl,by rw [z0d al2,z0c],cl,n2,by omega,?_⟩
    refine ⟨_,rfl,a,C,dx,_,rfl,by rw [z0c],cl,n3,by omega,?_⟩
    have l12 : l2≠l1:=fun z=>by rw [z,z0d al1.symm,z0c] at h2; cases h2
    rw [z0d al1.symm] at h1
    rw [z0d al2.symm,z0d l12,z0d al2.symm] at h2
    refine kk l1 l2 _ h1 h2 l12.symm ?_ ?_ ?_ (fun b o hb z=>?_) fun b z=>?_
    · rw [z0c]
      exact congrArg (fun z=>some (HO.ins C dx z)) bk4_new
    · rw [z0d al1.symm,z0d al1.symm,z0d l12.symm,z0d al1.symm,z0c]
    · rw [z0d al2.symm,z0d al2.symm,z0c]
    · have b1 : b≠l1:=fun w=>by rw [w,h1] at z; cases z
      have b2 : b≠l2:=fun w=>by rw [w,h2] at z; cases z
      rw [z0d hb,z0d hb,z0d b2,z0d hb,z0d b1,z0d hb]
      exact z
    · by_cases hb : b=a
      · rw [hb,z0c] at z; cases z
      · rw [z0d hb,z0d hb] at z
        by_cases b2 : b=l2
        · rw [b2,z0c] at z; cases z
        · rw [z0d b2,z0d hb] at z
          by_cases b1 : b=l1
          · rw [b1,z0c] at z; cases z
          · rw [z0d b1,z0d hb] at z
            exact z
end
structure NewOk (P : Program) (w : World) (K : PySem.W.Frag) (mg : Str->Option Value) (base : Heap) (k : Nat) (cn : Str) : Prop where
  ok : ∃ (C fi : Addr) (fd : FuncData) (ps : List Str),Mk K C fi∧mg cn=some (.ref C)∧PySem.W.nsIn K mainGlobals cn=some (some (.ref C))∧z5w K C bkKs=true∧Binds K fd ps []∧FnOk P w K mg base CX0 k fi fd ps (spI K)
noncomputable def y1X (i : Nat) (cn : Str) (g : DE) : SS->Option Out:=fun δ=>(g (z0q δ)).bind fun d=>match δ[i]? with
  | some (some (SD.ow (D.obj x a ks [.int m,.lst es,.lst ls,.int n])))=>if x=cn∧ks=bkKs∧ls.length < sizeLine then some (.nx ((z0i i δ).set i (some (.ow (.obj x a ks [.int m,d,.lst (ls ++ [.lst es]),.int n]))))) else none
  | _=>none
noncomputable def newA (r : Addr->Option Out) : Option Out:=@ite _ (∀ a,r a=r 0) (Classical.propDecidable _) (r 0) none
theorem y0n {r : Addr->Option Out} {o : Out} (h : newA r=some o) (a : Addr) : r a=some o:=by
  unfold newA at h
  split at h
  · rename_i e
    rw [e a]; exact h
  · cases h
theorem newA_eq {r : Addr->Option Out} {o : Out} (h : ∀ a,r a=some o) : newA r=some o:=by
  unfold newA
  rw [if_pos fun a=>by rw [h a,h 0]]
  exact h 0
noncomputable def y3T (i : Nat) (cn : Str) (g : DE) (h : SS->Option Out) : SS->Option Out:=fun δ=>(g (z0q δ)).bind fun d=>match d with
  | .int m=>newA fun a=>h (δ.set i (some (.ow (.obj cn a bkKs [.int m,.lst [],.lst [],.int 0]))))
  | _=>none
section
variable {X : Cx} {e value : Expr} {es : List Expr} {pos pos' apos ap p px cp : Pos} {fn m cn x f : Str} {k i : Nat} {fl : List DE} {H0 : Hp} {B0 : Addr->Prop} {fr : Bool} {RX : XR} {g : DE}
theorem s_chg {pl : Sem Bool} {m : Str} (hm : bkKs.contains m=false) (G : MethOk X.prog X.w X.K X.mg X.base k cn m (spC X.K)) (hr : Room k X.A) (hx : PE X (.Name x px) (z3s i)) (he : PN X e g)
    (hst : starEach [e] X.env=(false,eval e X.env) :: starEach [] X.env:=by rfl)
    (ht : eval (.Call (.Attribute (.Name x px) m apos) [e] [] cp) X.env=(do
      let ov ← eval (.Name x px) X.env
      standAt apos.atName
      let (f,first) ← holding [ov] (getMethod ov m pl)
      callWith cp f first (backTo cp (starEach [e] X.env)) (backToKw cp (keywordEach [] X.env))):=by rfl) (hs : swapsWith (.Call (.Attribute (.Name x px) m apos) [e] [] cp) none pos.line X.env=pure false:=by rfl) :
    PS X (.Expr (.Call (.Attribute (.Name x px) m apos) [e] [] cp) pos) (tS X.K H0 B0 fr RX (y1X i cn g)):=by
  obtain ⟨C,f,fd,ps,hn,hc,hm',hb,ok⟩:=G.ok
  refine PS.imp (z4n (pe_meth hx hc hm' ok hr hb .nil y3o (z0y he pa_nil hst) hst rfl ht) hs) fun D σ H ⟨δ,R,o,rs,q,kk⟩=>?_
  unfold y1X at q
  cases e1 : g (z0q δ) with
  | none=>rw [e1] at q; cases q
  | some d=>
  rw [e1,Option.bind_some] at q
  split at q
  case h_2=>cases q
  case h_1 x' a ks m0 es0 ls n0 ei=>
  split at q
  case isFalse=>cases q
  case isTrue hcd=>
  obtain ⟨rfl,rfl,hl⟩:=hcd
  cases q
  obtain ⟨v,ev,t,nd⟩:=rs.ow i _ ei
  refine ⟨v,ev,?_⟩
  obtain ⟨C',dx,u1,u2,A1,A2,rfl,ha,hn',hi,_,_,eR⟩:=z4U t
  rw [hn] at hn'
  cases hn'
  refine ⟨a,dx,_,rfl,ha,z6d (by rw [bk4_ks]; exact hm),z0q δ,d,rs.all,e1,fun u H1 Au s1 tu ndu fu=>?_⟩
  have du : (R i ++ Au).Nodup:=List.nodup_append.mpr ⟨nd,ndu,fun b hb c hc z=>by
    subst z
    obtain ⟨o,q,_⟩:=rs.held i b hb
    rw [fu b hc] at q; cases q⟩
  refine ⟨_,u,x',a,m0,n0,es0,ls,d,R i,Au,rfl,t.mono s1,tu,du,hl,fun H' A' s' t' nd' sub th=>?_⟩
  have P:=rs.moved (Same.refl H) ei (H2:=H') (A:=A') (fun b o z=>by
      by_cases hb : b∈R i
      · rw [z2B hb] at z; cases z
      · rw [z1e hb] at z
        exact s' b o (by rw [z1e hb]; exact s1 b o z)) t' nd' (fun b hb=>(sub b hb).imp id fun z=>fu b z) fun b z=>s1.free (th b z)
  rw [z3J ev] at P
  exact kk σ _ _ P.1 P.2
theorem ss_new {sts : List Stmt} {h : SS->Option Out} (hN : X.N.Nodup) (hi : X.N[i]? = some x) (hxl : Loc X.env.scope x) (G : NewOk X.prog X.w X.K X.mg X.base k cn) (hr : Room (k + 1) X.A) (hg : Gl X cn) (he : PD X e g) (hh : PSs X sts (tS X.K H0 B0 fr RX h)) (hdb : (cn == ("__debug__" : Str))=false:=by decide) (hst : starEach [e] X.env=(false,eval e X.env) :: starEach [] X.env:=by rfl)
    (hs : swapsWith (.Call (.Name cn p) [e] [] cp) (some (.Name x px)) pos.line X.env=pure false:=by rfl) (hf : X.fn x=true∨X.env.scope.names.lookup x=some .local:=by first | exact .inl rfl | exact .inr rfl | assumption) :
    PSs X (.Assign [.Name x px] (.Call (.Name cn p) [e] [] cp) pos :: sts) (tS X.K H0 B0 fr RX (y3T i cn g h)):=by
  obtain ⟨C,fi,fd,ps,M,hm,hn,hc,hb,F⟩:=G.ok
  refine (z3k (y3U hN hi hxl (pe_make M F hr hg hm hb .nil y3o (z0y he pa_nil hst) hdb hst rfl) hs hf) hh).imp fun D σ H ⟨δ,R,o,rs,q,kk⟩=>?_
  unfold y3T at q
  cases e1 : g (z0q δ) with
  | none=>rw [e1] at q; cases q
  | some d=>
  rw [e1,Option.bind_some] at q
  split at q
  case h_2=>cases q
  case h_1 m0=>
  refine ⟨noB,z0q δ,_,.no,rs.all,e1,fun v H1 s1 r1=>?_⟩
  have r1 : v = .int m0:=r1
  subst r1
  intro a dx na ndx nax
  refine ⟨a,C,dx,m0,rfl,z0c,hc,fun l1 l2 H' h1 h2 l12 ha hl1 hl2 kp th=>⟨rfl,?_⟩⟩
  have al1 : a≠l1:=fun z=>by rw [← z,z0c] at h1; cases h1
  have al2 : a≠l2:=fun z=>by rw [← z,z0c] at h2; cases h2
  have fr1 : ∀ b,upd (upd H1 dx (.own a)) a (.ins C dx []) b=none->H1 b=none:=fun b z=>by
    by_cases hb : b=a
    · rw [hb]; exact na
    · rw [z0d hb] at z
      by_cases hd : b=dx
      · rw [hd]; exact ndx
      · rw [z0d hd] at z; exact z
  have sm : Same H H':=fun b o z=>by
    have z1:=s1 b o z
    have b1 : b≠a:=fun w=>by rw [w,na] at z1; cases z1
    have b2 : b≠dx:=fun w=>by rw [w,ndx] at z1; cases z1
    exact kp b o b1 (by rw [z0d b1,z0d b2]; exact z1)
  have tr : Tree X.K H' (.obj cn a bkKs [.int m0,.lst [],.lst [],.int 0]) (.ref a) (a :: ([l1] ++ [l2])):=by
    refine z7Q ha hn hc ?_ ?_
    · unfold Tree
      exact ⟨l1,[],[],rfl,hl1,⟨rfl,rfl⟩,rfl⟩
    · unfold Tree
      exact ⟨l2,[],[],rfl,hl2,⟨rfl,rfl⟩,rfl⟩
  have ndA : (a :: ([l1] ++ [l2])).Nodup:=by
    simp [al1,al2,l12]
  have frA : ∀ b∈a :: ([l1] ++ [l2]),H b=none:=fun b hb=>by
    rcases List.mem_cons.mp hb with z | z
    · rw [z]; exact s1.free na
    · rcases List.mem_append.mp z with z | z
      · rw [List.mem_singleton.mp z]; exact s1.free (fr1 _ h1)
      · rw [List.mem_singleton.mp z]; exact s1.free (fr1 _ h2)
  refine ⟨_,z4I R i (a :: ([l1] ++ [l2])),o,rs.setOw (i:=i) sm tr ndA frA,y0n q a,?_⟩
  refine kk.back ⟨fun b o h _=>sm b o h,fun r b z=>?_,fun b z=>s1.free (fr1 b (th b z))⟩
  by_cases hr : r=i
  · subst hr; rw [z0A] at z; exact .inr (frA b z)
  · rw [z0Q hr] at z; exact .inl ⟨r,z⟩
end
section
variable {X : Cx} {o e : Expr} {pos ap cp : Pos} {fl : List DE} {f : DE} {H0 : Hp} {B0 : Addr->Prop} {fr : Bool} {RX : XR}
end
end L2
theorem L2.eraseIdx_map {α β : Type} (f : α->β) (l : List α) (n : Nat) : (l.eraseIdx n).map f=(l.map f).eraseIdx n:=by
  induction l generalizing n with
  | nil=>rfl
  | cons x r ih=>cases n with
    | zero=>rfl
    | succ n=>simp [ih]
namespace L2
open PySem PySem.Spec PyProof.Rows
noncomputable def z5q (i j : Nat) (fk : DE) : SS->Option Out:=fun δ=>(fk (z0q δ)).bind fun dk=>match dk,δ[i]?,δ[j]? with
  | .int p,some (some (.ow (.lst ds))),some (some (.ow (.lst es)))=>if ds.length < sizeLine∧(z6h ds).isSome=true∧(z6h es).isSome=true∧0≤p∧p < es.length∧es.length < sizeLine then (match es[p.toNat]? with
    | some (.int c)=>some (.nx (popS i j c ds (es.eraseIdx p.toNat) δ))
    | _=>none) else none
  | _,_,_=>none
section
variable {X : Cx} {H0 : Hp} {B0 : Addr->Prop} {fr : Bool} {RX : XR} {e : Expr} {pos ap cp ap2 cp2 : Pos} {x y : Str} {px py : Pos}
theorem y1R {i j : Nat} {fk : DE} (hij : i≠j) (hx : PE X (.Name x px) (z3s i)) (hy : PE X (.Name y py) (z3s j)) (hk : PD X e fk)
    (hbase2 : attributeBase (.Name y py) "pop" X.env (eval (.Name y py) X.env)=eval (.Name y py) X.env:=by rfl)
    (hfew2 : ((backTo cp2 (starEach [e] X.env)).all (fun x=>!x.1) && (backToKw cp2 (keywordEach [] X.env)).all (fun x=>x.1.isSome) && decide ([e].length + ([] : List Keyword).length + (if ([] : List Keyword).isEmpty then 0 else 1) < 30))=true:=by rfl)
    (hline2 : (ap2.endLine == cp2.line)=true:=by rfl) (hs2 : starEach [e] X.env=(false,eval e X.env) :: starEach [] X.env:=by rfl)
    (hbase : attributeBase (.Name x px) "append" X.env (eval (.Name x px) X.env)=eval (.Name x px) X.env:=by rfl)
    (hfew : ((backTo cp (starEach [.Call (.Attribute (.Name y py) "pop" ap2) [e] [] cp2] X.env)).all (fun x=>!x.1) && (backToKw cp (keywordEach [] X.env)).all (fun x=>x.1.isSome) && decide ([Expr.Call (.Attribute (.Name y py) "pop" ap2) [e] [] cp2].length + ([] : List Keyword).length + (if ([] : List Keyword).isEmpty then 0 else 1) < 30))=true:=by rfl)
    (hline : (ap.endLine == cp.line)=true:=by rfl) (hs : starEach [.Call (.Attribute (.Name y py) "pop" ap2) [e] [] cp2] X.env=(false,eval (.Call (.Attribute (.Name y py) "pop" ap2) [e] [] cp2) X.env) :: starEach [] X.env:=by rfl)
    (hsw : swapsWith (.Call (.Attribute (.Name x px) "append" ap) [.Call (.Attribute (.Name y py) "pop" ap2) [e] [] cp2] [] cp) none pos.line X.env=pure false:=by rfl) :
    PS X (.Expr (.Call (.Attribute (.Name x px) "append" ap) [.Call (.Attribute (.Name y py) "pop" ap2) [e] [] cp2] [] cp) pos) (tS X.K H0 B0 fr RX (z5q i j fk)):=
  PS.imp (z4n (z9y PySem.F.plainAttrs_list PySem.F.slot_list_append PySem.F.type_list_append z2Y hx
    (z0y (z9y PySem.F.plainAttrs_list PySem.F.slot_list_pop PySem.F.type_list_pop y2Z hy (z0b hk z0k hs2) hbase2 hfew2 hline2 hs2 rfl) pa_nil hs) hbase hfew hline hs rfl) hsw) fun D σ H z_=>by
    obtain ⟨δ,R,o,rs,q,k⟩:=z_
    unfold z5q at q
    cases ek : fk (z0q δ) with
    | none=>rw [ek] at q; cases q
    | some dk=>
    rw [ek,Option.bind_some] at q
    split at q
    case h_2=>cases q
    case h_1 p ds es ei ej=>
    split at q
    case isFalse=>cases q
    case isTrue hz=>
    split at q
    case h_2=>cases q
    case h_1 c ec=>
    cases q
    obtain ⟨hl,n1,n2,p0,p1,p2⟩:=hz
    obtain ⟨ns,en⟩:=Option.isSome_iff_exists.mp n1
    obtain ⟨ms,em⟩:=Option.isSome_iff_exists.mp n2
    obtain ⟨b,ys,B,evj,hb,tsj,eRj,ndj⟩:=rs.top ej
    obtain ⟨a,xs,A,evi,ha,tsi,eRi,ndi⟩:=rs.top ei
    have e2:=z4L em
    rw [e2] at tsj
    obtain ⟨ey,eB⟩:=z4o tsj
    refine ⟨.ref a,evi,.inl ⟨rfl,xs,SqL.of ha⟩,.ref b,evj,.inl ⟨rfl,ys,SqL.of hb⟩,noB,z0q δ,[.int p],.no,rs.all,by show (fk (z0q δ)).bind _=_; rw [ek]; rfl,fun vs H2 s2 r2=>?_⟩
    obtain ⟨v,rfl,rv⟩:=z5f r2
    cases (show v=V.int p from rv)
    have lm : es.length=ms.length:=by rw [e2,List.length_map]
    have yl : ys.length=es.length:=by rw [ey,List.length_map,lm]
    have hix : ixN ys.length p=some p.toNat:=by
      unfold ixN
      rw [yl]
      rw [if_pos p0,if_pos p1]
    have ec' : ys[p.toNat]? = some (.int c):=by
      rw [ey,List.getElem?_map]
      rw [e2,List.getElem?_map] at ec
      cases eq : ms[p.toNat]? with
      | none=>rw [eq] at ec; cases ec
      | some z=>rw [eq] at ec; cases ec; rfl
    refine ⟨b,ys,p,p.toNat,.int c,rfl,rfl,s2 _ _ hb,by have:=sizeLine_eq; omega,by have:=sizeLine_eq; omega,(z7V hix).1,ec',?_⟩
    have P1:=rs.put0 s2 ej evj eRj ndj (ds':=es.eraseIdx p.toNat) (xs':=ys.eraseIdx p.toNat) (A':=[]) (by
      rw [ey,e2,← eraseIdx_map,← eraseIdx_map]
      exact z4h _) List.nodup_nil fun b hb=>nomatch hb
    have ei' : ((z0i j δ).set j (some (.ow (.lst (es.eraseIdx p.toNat)))))[i]? = some (some (.ow (.lst ds))):=by
      rw [List.getElem?_set_ne (Ne.symm hij)]
      exact y0p ei
    obtain ⟨a',xs',A',evi',ha',tsi',eRi',ndi'⟩:=P1.1.top ei'
    rw [evi] at evi'
    cases evi'
    have lx:=tsi'.length
    have tsi2:=tsi'
    rw [z4L en] at tsi2
    obtain ⟨ex,_⟩:=z4o tsi2
    refine ⟨a,xs',.int c,rfl,rfl,ha',by rw [← lx]; exact hl,?_⟩
    have tn : Trees X.K (upd H2 b (.lst (ys.eraseIdx p.toNat))) (ds ++ [.int c]) (xs' ++ [.int c]) []:=by
      rw [ex,z4L en]
      have:=z4h (K:=X.K) (H:=upd H2 b (.lst (ys.eraseIdx p.toNat))) (ns ++ [c])
      rw [List.map_append,List.map_append] at this
      exact this
    have P2:=P1.1.put0 (.refl _) ei' evi eRi' ndi' tn List.nodup_nil fun b hb=>nomatch hb
    exact k σ _ _ P2.1 (P1.2.trans P2.2)
end
end L2
namespace L2
open PySem PySem.Spec PyProof.Rows
structure MethX (P : Program) (w : World) (K : PySem.W.Frag) (mg : Str->Option Value) (base : Heap) (k : Nat) (cn m : Str) (sp : Sp) : Prop where
  ok : ∃ (C f : Addr) (fd : FuncData) (ps : List Str),PySem.W.nsIn K mainGlobals cn=some (some (.ref C))∧L2.Cls K C∧Meth K C m f∧Binds K fd ps []∧FnOk P w K mg base (CXE P w) k f fd ps sp
noncomputable def z8t (cl : Nat->Value) (RX : XR) (C : Addr) (m : Str) (sp : Sp) (ta : TE) (t : TA) : TE:=fun σ H Q=>ta σ H fun x H1=>∃ a dx fs,x = .ref a∧H1 a=some (.ins C dx fs)∧fs.lookup m=none ∧
  t σ H1 fun vs H2=>sp (x :: vs) H2 Q fun cls _ H'=>∃ c,cls=cl c∧RX c σ H'
section
variable {X : Cx} {k : Nat} {sp : Sp} {cl : Nat->Value} {RX : XR} {o e : Expr} {es : List Expr} {pos apos : Pos} {m cn : Str} {ta : TE} {t : TA} {C f : Addr} {fd : FuncData} {ps : List Str}
theorem z8T {pl : Sem Bool} (he : PE X o ta) (c : L2.Cls X.K C) (hm : Meth X.K C m f) (F : FnOk X.prog X.w X.K X.mg X.base (CXE X.prog X.w) k f fd ps sp) (hr : Room k X.A) (hb : Binds X.K fd ps []) (hW : XW X cl RX) (ha : PA X (e :: es) t)
    (hst : starEach (e :: es) X.env=(false,eval e X.env) :: starEach es X.env:=by rfl) (hpl : (backTo pos (starEach es X.env)).any (·.1)=false:=by rfl)
    (ht : eval (.Call (.Attribute o m apos) (e :: es) [] pos) X.env=(do
      let ov ← eval o X.env
      standAt apos.atName
      let (f,first) ← holding [ov] (getMethod ov m pl)
      callWith pos f first (backTo pos (starEach (e :: es) X.env)) (backToKw pos (keywordEach [] X.env))):=by rfl) :
    PE X (.Call (.Attribute o m apos) (e :: es) [] pos) (z8t cl RX C m sp ta t):=by
  intro pins s σ H Q I h
  refine PySem.W.methodCall_KW (pl:=pl) (thn (he pins s σ H _ I h) fun u s1 ⟨x,H1,I1,rx,a,dx,fs,ex,ea,l,q⟩=>?_) ht
  subst ex
  obtain rfl : u=Value.ref a:=rx
  refine z3h I1 ea c hm l ?_
  refine PySem.W.callWith_K (first:=[.ref a]) (h₀:=X.base) I.ok.mod.kin hm.kp (thn (ha pos pins s1 σ H1 _ I1 q) fun us s2 ⟨vs,H2,I2,r,q2⟩=>⟨I2.kIn,?_⟩) hst hpl
  exact z7P (us:=.ref a :: us) (vs:=.ref a :: vs) F hr hb hW I2 (.cons rfl r) q2
theorem y1S {pl : Sem Bool} (he : PE X o ta) (c : L2.Cls X.K C) (hm : Meth X.K C m f) (F : FnOk X.prog X.w X.K X.mg X.base (CXE X.prog X.w) k f fd ps sp) (hr : Room k X.A) (hb : Binds X.K fd ps []) (hW : XW X cl RX)
    (ht : eval (.Call (.Attribute o m apos) [] [] pos) X.env=(do
      let ov ← eval o X.env
      standAt apos.atName
      let (f,first) ← holding [ov] (getMethod ov m pl)
      callWith pos f first (backTo pos (starEach [] X.env)) (backToKw pos (keywordEach [] X.env))):=by rfl) :
    PE X (.Call (.Attribute o m apos) [] [] pos) (z8t cl RX C m sp ta tNil):=by
  intro pins s σ H Q I h
  refine PySem.W.methodCall_KW (pl:=pl) (thn (he pins s σ H _ I h) fun u s1 ⟨x,H1,I1,rx,a,dx,fs,ex,ea,l,q⟩=>?_) ht
  subst ex
  obtain rfl : u=Value.ref a:=rx
  refine z3h I1 ea c hm l ?_
  exact PySem.W.callWith_K0 (first:=[.ref a]) I1.kIn hm.kp (z7P (us:=[.ref a]) (vs:=[.ref a]) F hr hb hW I1 (.cons rfl .nil) q)
theorem y2o {F : List D->Option XO} {g : DE} {fl : List DE} (hn : PySem.W.nsIn X.K mainGlobals cn=some (some (.ref C))) (ht : ∀ σ H Q,tDs X.K (z0n fl) σ H Q->t σ H Q) (σ : St) (H : Hp) (Q : VK) (h : tX X.K RX (z3L (z1O cn m F) (g :: fl)) σ H Q) : z8t cl RX C m (spX X.K cl F) (tD X.K g) t σ H Q:=by
  obtain ⟨δ,o,S,q,kk⟩:=h
  unfold z3L at q
  cases e1 : z0n (g :: fl) δ with
  | none=>rw [e1] at q; cases q
  | some ds=>
  rw [e1,Option.bind_some] at q
  obtain ⟨x,xs,e3,e4,rfl⟩:=z2w e1
  obtain ⟨a,ks,dd,rfl,hc,e5⟩:=z4S q
  refine ⟨noB,δ,_,.no,S,e3,fun v H1 s1 r1=>?_⟩
  have r1':=r1
  unfold Rep at r1'
  obtain ⟨C',dx,fs,nb,ha,⟨rfl,hn',hi,rfl⟩,rs⟩:=r1'
  rw [hn] at hn'
  cases hn'
  refine ⟨a,dx,fs,rfl,ha,z6d hc,ht _ _ _ ⟨noB,δ,xs,.no,S.mono s1,e4,fun vs H2 s2 r2=>⟨_,o,Reps.cons (r1.mono s2) r2,e5,?_⟩⟩⟩
  cases o with
  | val d=>exact fun v H' A s' t nd fr=>kk v H' A (s1.trans (s2.trans s')) t nd fun a ha=>s1.free (s2.free (fr a ha))
  | exc c=>exact fun H' s'=>⟨c,rfl,kk H' (s1.trans (s2.trans s'))⟩
theorem y0L {F : List D->Option XO} {g : DE} {fl : List DE} {pl : Sem Bool} (G : MethX X.prog X.w X.K X.mg X.base k cn m (spX X.K cl F)) (hr : Room k X.A) (hW : XW X cl RX) (ho : PD X o g) (ha : PAD X (e :: es) fl)
    (hst : starEach (e :: es) X.env=(false,eval e X.env) :: starEach es X.env:=by rfl) (hpl : (backTo pos (starEach es X.env)).any (·.1)=false:=by rfl)
    (ht : eval (.Call (.Attribute o m apos) (e :: es) [] pos) X.env=(do
      let ov ← eval o X.env
      standAt apos.atName
      let (f,first) ← holding [ov] (getMethod ov m pl)
      callWith pos f first (backTo pos (starEach (e :: es) X.env)) (backToKw pos (keywordEach [] X.env))):=by rfl) :
    PE X (.Call (.Attribute o m apos) (e :: es) [] pos) (tX X.K RX (z3L (z1O cn m F) (g :: fl))):=by
  obtain ⟨C,f,fd,ps,hn,hc,hm,hb,ok⟩:=G.ok
  exact (z8T ho hc hm ok hr hb hW ha hst hpl ht).imp (y2o hn fun _ _ _ h=>h)
end
theorem Trees.unsnoc {K : PySem.W.Frag} {H : Hp} {d : D} : ∀ {ds : List D} {xs : List V} {A : List Addr},Trees K H (ds ++ [d]) xs A->∃ ys y A1 A2,xs=ys ++ [y]∧Trees K H ds ys A1∧Tree K H d y A2∧A=A1 ++ A2
  | [],xs,A,h=>by
    have h : Trees K H [d] xs A:=h
    unfold Trees at h
    obtain ⟨x,r,B,C,rfl,t,⟨rfl,rfl⟩,rfl⟩:=h
    exact ⟨[],x,[],B,rfl,⟨rfl,rfl⟩,t,by simp⟩
  | e :: ds,xs,A,h=>by
    have h : Trees K H (e :: (ds ++ [d])) xs A:=h
    unfold Trees at h
    obtain ⟨x,r,B,C,rfl,t,ts,rfl⟩:=h
    obtain ⟨ys,y,A1,A2,rfl,t1,t2,rfl⟩:=Trees.unsnoc ts
    refine ⟨x :: ys,y,B ++ A1,A2,rfl,?_,t2,by simp⟩
    unfold Trees
    exact ⟨x,ys,B,A1,rfl,t,t1,rfl⟩
noncomputable def y2f (i : Nat) : SS->Option Out:=fun δ=>match δ[i]? with
  | some (some (SD.ow (D.obj x a ks [.int m,es,.lst ls,.int n])))=>if ks=bkKs then (match ls.getLast? with
    | some l=>some (.nx ((z0i i δ).set i (some (.ow (.obj x a ks [.int m,l,.lst ls.dropLast,.int n])))))
    | none=>none) else none
  | _=>none
section
variable {X : Cx} {x : Str} {px px2 p1 p2 p3 pos pos' : Pos} {i : Nat} {H0 : Hp} {B0 : Addr->Prop} {fr : Bool} {RX : XR}
theorem s_popF (hx : PE X (.Name x px) (z3s i)) (hx2 : PE X (.Name x px2) (z3s i)) (hb : attributeBase (.Name x px2) "earlier" X.env (eval (.Name x px2) X.env)=eval (.Name x px2) X.env:=by rfl)
    (hbase : attributeBase (.Attribute (.Name x px2) "earlier" p1) "pop" X.env (eval (.Attribute (.Name x px2) "earlier" p1) X.env)=eval (.Attribute (.Name x px2) "earlier" p1) X.env:=by rfl) (hline : (p2.endLine == p3.line)=true:=by rfl)
    (hs : swapsWith (.Call (.Attribute (.Attribute (.Name x px2) "earlier" p1) "pop" p2) [] [] p3) (some (.Attribute (.Name x px) "entries" pos')) pos.line X.env=pure false:=by rfl) :
    PS X (.Assign [.Attribute (.Name x px) "entries" pos'] (.Call (.Attribute (.Attribute (.Name x px2) "earlier" p1) "pop" p2) [] [] p3) pos) (tS X.K H0 B0 fr RX (y2f i)):=
  PS.imp (z5g hx (y3V PySem.F.plainAttrs_list PySem.F.slot_list_pop PySem.F.type_list_pop y4b (z9f hx2 hb) hbase hline) hs) fun D σ H z_=>by
  obtain ⟨δ,R,o,rs,q,kk⟩:=z_
  unfold y2f at q
  split at q
  case h_2=>cases q
  case h_1 x' a ks m0 es0 ls n0 ei=>
  split at q
  case isFalse=>cases q
  case isTrue hk=>
  subst hk
  cases el : ls.getLast? with
  | none=>rw [el] at q; cases q
  | some l=>
  rw [el] at q
  cases q
  obtain ⟨v,ev,t,nd⟩:=rs.ow i _ ei
  obtain ⟨C,dx,u1,u2,A1,A2,rfl,ha,hn,hi,t3,t4,eR⟩:=z4U t
  obtain ⟨cl,_,_,_,_,_,na⟩:=z1d hi
  have n1 : NoAttr X.K C "entries" := na _ (by decide +kernel)
  have n2 : NoAttr X.K C "earlier" := na _ (by decide +kernel)
  have els : ls=ls.dropLast ++ [l]:=by
    obtain ⟨zs,hz⟩:=List.getLast?_eq_some_iff.mp el
    rw [hz,List.dropLast_concat]
  unfold Tree at t4
  obtain ⟨b,xs,B,rfl,hb4,ts,rfl⟩:=t4
  have ts':=ts
  rw [els] at ts'
  obtain ⟨ys,y,C1,C2,rfl,tys,ty,rfl⟩:=Trees.unsnoc ts'
  have nab : a≠b:=fun z=>by rw [z,hb4] at ha; cases ha
  refine ⟨_,ev,a,C,dx,_,_,rfl,ha,cl,n2,y0j,.inl ⟨rfl,_,SqL.of hb4⟩,b,ys ++ [y],y,rfl,rfl,hb4,by simp,?_⟩
  refine ⟨_,ev,a,C,dx,_,rfl,by rw [z0d nab]; exact ha,cl,n1,(by show 4 < 1000; decide),?_⟩
  rw [y0w,List.dropLast_concat]
  rw [eR] at nd
  obtain ⟨na1,ndB⟩:=List.nodup_cons.mp nd
  obtain ⟨ndB1,ndB2,ndBd⟩:=List.nodup_append.mp ndB
  obtain ⟨nl3,ndB3⟩:=List.nodup_cons.mp ndB2
  have mHb : Mut (H b):=by rw [hb4]; exact True.intro
  have mHa : Mut (upd H b (.lst ys) a):=by rw [z0d nab,ha]; exact True.intro
  have kI : KeepI X.K H (upd (upd H b (.lst ys)) a (.ins C dx (bk4 (.int m0) y (.ref b) (.int n0)))):=by
    have k1:=(Keep.upd (K:=X.K) (B:=fun z=>z=b) (o:=.lst ys) rfl mHb).i
    have k2:=(Keep.upd (K:=X.K) (B:=fun z=>z=a) (o:=.ins C dx (bk4 (.int m0) y (.ref b) (.int n0))) rfl mHa).i
    exact ⟨fun b ys z=>k2.st b ys (k1.st b ys z),fun b ys z=>k2.sf b ys (k1.sf b ys z)⟩
  have ne : ∀ c,c≠a->c≠b->∀ o,H c=some o->(upd (upd H b (.lst ys)) a (.ins C dx (bk4 (.int m0) y (.ref b) (.int n0)))) c=some o:=fun c h1 h2 o z=>by rw [z0d h1,z0d h2]; exact z
  have mB : ∀ c∈C1 ++ C2,c≠a∧c≠b:=fun c hc=>⟨fun z=>na1 (by rw [← z]; exact List.mem_append_right _ (List.mem_cons_of_mem _ hc)),fun z=>nl3 (by rw [← z]; exact hc)⟩
  have aR : a∈R i:=by rw [eR]; exact List.mem_cons_self
  have bR : b∈R i:=by rw [eR]; exact List.mem_cons_of_mem _ (List.mem_append_right _ List.mem_cons_self)
  have pm : (C2 ++ (b :: C1)).Perm (b :: (C1 ++ C2)):=List.perm_append_comm (l₁:=C2) (l₂:=b :: C1)
  have P:=rs.moved (Same.refl H) ei (H2:=upd (upd H b (.lst ys)) a (.ins C dx (bk4 (.int m0) y (.ref b) (.int n0)))) (A:=a :: (C2 ++ (b :: C1))) (fun c o z=>by
      by_cases hc : c∈R i
      · rw [z2B hc] at z; cases z
      · rw [z1e hc] at z
        exact ne c (fun w=>hc (by rw [w]; exact aR)) (fun w=>hc (by rw [w]; exact bR)) o z) (z7Q (d2:=.lst ls.dropLast) z0c hn hi (Tree.keep kI l ty fun c hc o z=>ne c (mB c (List.mem_append_right _ hc)).1 (mB c (List.mem_append_right _ hc)).2 o z) (by
        unfold Tree
        exact ⟨b,ys,C1,rfl,by rw [z0d nab.symm,z0c],Trees.keep kI _ tys fun c hc o z=>ne c (mB c (List.mem_append_left _ hc)).1 (mB c (List.mem_append_left _ hc)).2 o z,rfl⟩))
    (List.nodup_cons.mpr ⟨fun z=>na1 (List.mem_append_right _ (pm.subset z)),pm.nodup_iff.mpr ndB2⟩) (fun c hc=>.inl (by
        rw [eR]
        rcases List.mem_cons.mp hc with z | z
        · rw [z]; exact List.mem_cons_self
        · exact List.mem_cons_of_mem _ (List.mem_append_right _ (pm.subset z)))) fun c z=>by
    by_cases h1 : c=a
    · subst h1; rw [z0c] at z; cases z
    · rw [z0d h1] at z
      by_cases h2 : c=b
      · subst h2; rw [z0c] at z; cases z
      · rw [z0d h2] at z; exact z
  rw [z3J ev] at P
  exact kk σ _ _ P.1 P.2
end
end L2
namespace L2
open PySem PySem.Spec PyProof.Rows
inductive BO where
  | val (o d : D) | exc (c : Nat) (o : D)
noncomputable def z5v (K : PySem.W.Frag) (cl : Nat->Value) (F : List D->Option BO) : Sp:=fun vs H Q E=>∃ v r d0 ds b A,vs=v :: r∧Tree K H d0 v A∧A.Nodup∧Reps K H (fun a=>a∈A) ds r∧F (d0 :: ds)=some b∧(match b with
  | .val o d=>∀ v' H' A' A2,Same (z2v H A) H'->Tree K H' o v A'->A'.Nodup->(∀ a∈A',a∈A∨H a=none)->(∀ a,H' a=none->H a=none)->Tree K H' d v' A2->A2.Nodup->(∀ a∈A2,(a∈A∨H a=none)∧a ∉ A')->Q v' H'
  | .exc c o=>∀ H' A',Same (z2v H A) H'->Tree K H' o v A'->A'.Nodup->(∀ a∈A',a∈A∨H a=none)->(∀ a,H' a=none->H a=none)->E (cl c) none H')
noncomputable def z4C (np nl : Nat) (g : SS->Option Out) : List D->Option BO:=fun ds=>match ds with
  | []=>none
  | d0 :: ds=>if ds.length + 1=np then (match g (some (.ow d0) :: ds.map (fun d=>some (.sh d)) ++ List.replicate nl none) with
    | some (.rb d δ)=>(z3H d0 δ d).map fun z=>.val z.1 z.2
    | some (.nx δ)=>(z3H d0 δ .non).map fun z=>.val z.1 z.2
    | some (.ex c δ)=>(z3H d0 δ .non).map fun z=>.exc c z.1
    | _=>none) else none
section
variable {P : Program} {w : World} {K : PySem.W.Frag} {mg : Str->Option Value} {base : Heap}
theorem fnBX {x qual : Str} {st : Stmt} {f : Addr} {fd : FuncData} {N ps : List Str} {k np nl : Nat} {g : SS->Option Out} {cl : Nat->Value} (F : Fun K x qual st f fd) (S : FnScope N ps (z0a st)) (hnp : ps.length=np) (hN : N.length=np + nl)
    (hbody : ∀ (cdv : Value) (A : Around) (outer : List Env) (s : Shared) (H H0 : Hp) (E : XK),Room k (A.deeper (envOfC qual (z0a st) s.heap.objs.size f cdv)) →
      PSs (z6I (CXE P w) P w K mg base N qual (z0a st) f cdv A outer s H E) (z0o st) (tS K H0 noB true (y3j cl E) g)) : FnOk P w K mg base (CXE P w) (k + 1) f fd ps (z5v K cl (z4C np nl g)):=by
  obtain ⟨oc,od,kV,doc,pm,an,cdv,ct,osl,rfl,lk,hcd⟩:=F.ex
  refine fn_of lk hcd S (fun vs H Q E h=>?_) fun A outer s H vs Q E hr h=>?_
  · obtain ⟨v,r,d0,ds,b,A,rfl,_,_,rr,e,_⟩:=h
    unfold z4C at e
    simp only at e
    split at e
    · rename_i hl
      rw [List.length_cons,← rr.length,hl,hnp]
    · cases e
  · obtain ⟨v,r,d0,ds,b,A',rfl,t,nd,rr,e,kk⟩:=h
    refine ⟨_,hbody cdv A outer s H (z2v H A') E hr,?_⟩
    have hl : ds.length + 1=np:=by
      unfold z4C at e
      simp only at e
      split at e
      · assumption
      · cases e
    have e' : (match g (some (.ow d0) :: ds.map (fun d=>some (.sh d)) ++ List.replicate nl none) with | some (.rb d δ)=>(z3H d0 δ d).map fun z=>BO.val z.1 z.2 | some (.nx δ)=>(z3H d0 δ .non).map fun z=>BO.val z.1 z.2 | some (.ex c δ)=>(z3H d0 δ .non).map fun z=>BO.exc c z.1 | _=>none)=some b:=by
      unfold z4C at e
      simp only [if_pos hl] at e
      exact e
    have rs:=y0Z (nl:=nl) (N:=N) t nd rr (by omega)
    have fr : ∀ a,z2v H A' a=none->a∈A'∨H a=none:=fun a z=>by
      by_cases h : a∈A'
      · exact .inl h
      · rw [z1e h] at z; exact .inr z
    have fin : ∀ {d1 o d2 : D} {δ' : SS} {σ' : St} {H' : Hp} {R' : Nat->List Addr},z3H d0 δ' d1=some (o,d2)->RS K (z2v H A') noB H' σ' δ' R'->d2=d1∧Tree K H' o v (R' 0)∧(R' 0).Nodup∧Same (z2v H A') H'∧∀ a∈R' 0,a∈A'∨H a=none:=fun {d1 o d2 δ' σ' H' R'} es rs'=>by
      obtain ⟨rfl,e0,x1,a1,ks1,ds1,x2,ks2,ds2,rfl,rfl⟩:=z5O es
      obtain ⟨u,_,t',nd'⟩:=rs'.ow 0 _ e0
      have eu : u=v:=(z6m t').trans (z6m t).symm
      subst eu
      exact ⟨rfl,t',nd',rs'.keep,fun a ha=>fr a (rs'.new 0 a ha)⟩
    split at e'
    · rename_i d1 δ' eg
      cases es : z3H d0 δ' d1 with
      | none=>rw [es] at e'; cases e'
      | some z=>
        obtain ⟨o,d2⟩:=z
        rw [es] at e'
        cases e'
        refine ⟨_,_,_,rs,eg,fun v' σ' H' R' A2 rs' st' t2 nd2 f2=>?_⟩
        obtain ⟨rfl,t',nd',sm,fr'⟩:=fin es rs'
        exact kk v' H' (R' 0) A2 sm t' nd' fr' st'.there t2 nd2 fun a ha=>⟨fr a (f2 a ha).1,(f2 a ha).2 0⟩
    · rename_i δ' eg
      cases es : z3H d0 δ' .non with
      | none=>rw [es] at e'; cases e'
      | some z=>
        obtain ⟨o,d2⟩:=z
        rw [es] at e'
        cases e'
        refine ⟨_,_,_,rs,eg,fun σ' H' R' rs' st'=>?_⟩
        obtain ⟨rfl,t',nd',sm,fr'⟩:=fin es rs'
        exact kk .non H' (R' 0) [] sm t' nd' fr' st'.there ⟨rfl,rfl⟩ List.nodup_nil (fun a z=>nomatch z)
    · rename_i c δ' eg
      cases es : z3H d0 δ' .non with
      | none=>rw [es] at e'; cases e'
      | some z=>
        obtain ⟨o,d2⟩:=z
        rw [es] at e'
        cases e'
        refine ⟨_,_,_,rs,eg,fun σ' H' R' rs' st'=>?_⟩
        obtain ⟨rfl,t',nd',sm,fr'⟩:=fin es rs'
        exact kk H' (R' 0) sm t' nd' fr' st'.there
    · cases e'
end
noncomputable def BXk (K : PySem.W.Frag) (RX : XR) (σ : St) (H : Hp) (v : V) (A : List Addr) (Q : VK) : BO->Prop
  | .val o d=>∀ v' H1 H' A' A2,Same H H1->Same (z2v H1 A) H'->Tree K H' o v A'->A'.Nodup->(∀ a∈A',a∈A∨H1 a=none)->(∀ a,H' a=none->H1 a=none)->Tree K H' d v' A2->A2.Nodup->(∀ a∈A2,(a∈A∨H1 a=none)∧a ∉ A')->Q v' H'
  | .exc c o=>∀ H1 H' A',Same H H1->Same (z2v H1 A) H'->Tree K H' o v A'->A'.Nodup->(∀ a∈A',a∈A∨H1 a=none)->(∀ a,H' a=none->H1 a=none)->RX c σ H'
noncomputable def tBX (K : PySem.W.Frag) (RX : XR) (i : Nat) (F : List D->Option BO) (fl : List DE) : TE:=fun σ H Q=>∃ B δ v d0 A args b,σ[i]? = some (some v)∧InB B H∧(∀ a∈A,B a)∧RepS K H B σ δ∧z0n fl δ=some args∧Tree K H d0 v A∧A.Nodup∧F (d0 :: args)=some b∧BXk K RX σ H v A Q b
section
variable {X : Cx} {e : Expr} {es : List Expr} {pos apos p px cp : Pos} {fn m cn x : Str} {k i : Nat} {F : List D->Option BO} {fl : List DE} {cl : Nat->Value} {RX : XR}
theorem y0S {σ : St} {H1 H : Hp} {Q : VK} {v : V} {vs : List V} {d0 : D} {args : List D} {b : BO} {A : List Addr} (s1 : Same H H1) (t : Tree X.K H d0 v A) (nd : A.Nodup) (r1 : Reps X.K H1 (fun a=>a∈A) args vs) (eF : F (d0 :: args)=some b) (kk : BXk X.K RX σ H v A Q b) :
    z5v X.K cl F (v :: vs) H1 Q (fun cls _ H'=>∃ c,cls=cl c∧RX c σ H'):=by
  refine ⟨v,vs,d0,args,b,A,rfl,t.mono s1,nd,r1,eF,?_⟩
  cases b with
  | val o d=>exact fun v' H' A' A2=>kk v' H1 H' A' A2 s1
  | exc c o=>exact fun H' A' a1 a2 a3 a4 a5=>⟨c,rfl,kk H1 H' A' s1 a1 a2 a3 a4 a5⟩
theorem y2d (G : DefX X.prog X.w X.K X.mg X.base k fn (z5v X.K cl F)) (hr : Room k X.A) (hg : Gl X fn) (hW : XW X cl RX) (hx : PE X (.Name x px) (z3s i)) (ha : PAD X es fl) (hdb : (fn == ("__debug__" : Str))=false:=by decide)
    (he : starEach (.Name x px :: es) X.env=(false,eval (.Name x px) X.env) :: starEach es X.env:=by rfl) (hpl : (backTo cp (starEach es X.env)).any (·.1)=false:=by rfl) :
    PE X (.Call (.Name fn p) (.Name x px :: es) [] cp) (tBX X.K RX i F fl):=(z9g G hr hg hW (z0y hx ha he) hdb he hpl).imp fun σ H Q ⟨B,δ,v,d0,A,args,b,ev,hB,hA,S,e1,t,nd,eF,kk⟩=>
  ⟨v,ev,B,δ,args,hB,S,e1,fun vs H1 s1 r1=>y0S s1 t nd (r1.anti hA args) eF kk⟩
theorem z7a {C : Addr} {t : TA} (hn : PySem.W.nsIn X.K mainGlobals cn=some (some (.ref C))) (ht : ∀ σ H Q,tDs X.K (z0n fl) σ H Q->t σ H Q) (σ : St) (H : Hp) (Q : VK) (h : tBX X.K RX i (z1O cn m F) fl σ H Q) : z8t cl RX C m (z5v X.K cl F) (z3s i) t σ H Q:=by
  obtain ⟨B,δ,v,d0,A,args,b,ev,hB,hA,S,e1,t,nd,eF,kk⟩:=h
  obtain ⟨a,ks,dd,rfl,hc,e5⟩:=z4S eF
  refine ⟨v,ev,?_⟩
  have t':=t
  unfold Tree at t'
  obtain ⟨C',dx,fs,A1,ha,⟨rfl,hn',hi,rfl⟩,rs,rfl⟩:=t'
  rw [hn] at hn'
  cases hn'
  exact ⟨a,dx,fs,rfl,ha,z6d hc,ht _ _ _ ⟨B,δ,args,hB,S,e1,fun vs H1 s1 r1=>y0S s1 t nd (r1.anti hA args) e5 kk⟩⟩
theorem z7v {pl : Sem Bool} (G : MethX X.prog X.w X.K X.mg X.base k cn m (z5v X.K cl F)) (hr : Room k X.A) (hW : XW X cl RX) (hx : PE X (.Name x px) (z3s i))
    (ht : eval (.Call (.Attribute (.Name x px) m apos) [] [] pos) X.env=(do
      let ov ← eval (.Name x px) X.env
      standAt apos.atName
      let (f,first) ← holding [ov] (getMethod ov m pl)
      callWith pos f first (backTo pos (starEach [] X.env)) (backToKw pos (keywordEach [] X.env))):=by rfl) :
    PE X (.Call (.Attribute (.Name x px) m apos) [] [] pos) (tBX X.K RX i (z1O cn m F) []):=by
  obtain ⟨C,f,fd,ps,hn,hc,hm,hb,ok⟩:=G.ok
  exact (y1S hx hc hm ok hr hb hW ht).imp (z7a hn fun σ H Q ⟨B,δ,ds,hB,S,q,k⟩=>by cases q; exact k [] H (.refl H) .nil)
theorem z6w {pl : Sem Bool} (G : MethX X.prog X.w X.K X.mg X.base k cn m (z5v X.K cl F)) (hr : Room k X.A) (hW : XW X cl RX) (hx : PE X (.Name x px) (z3s i)) (ha : PAD X (e :: es) fl)
    (hst : starEach (e :: es) X.env=(false,eval e X.env) :: starEach es X.env:=by rfl) (hpl : (backTo pos (starEach es X.env)).any (·.1)=false:=by rfl)
    (ht : eval (.Call (.Attribute (.Name x px) m apos) (e :: es) [] pos) X.env=(do
      let ov ← eval (.Name x px) X.env
      standAt apos.atName
      let (f,first) ← holding [ov] (getMethod ov m pl)
      callWith pos f first (backTo pos (starEach (e :: es) X.env)) (backToKw pos (keywordEach [] X.env))):=by rfl) :
    PE X (.Call (.Attribute (.Name x px) m apos) (e :: es) [] pos) (tBX X.K RX i (z1O cn m F) fl):=by
  obtain ⟨C,f,fd,ps,hn,hc,hm,hb,ok⟩:=G.ok
  exact (z8T hx hc hm ok hr hb hW ha hst hpl ht).imp (z7a hn fun _ _ _ h=>h)
end
inductive BR where
  | val (d : D) (δ : SS) | exc (c : Nat) (δ : SS)
noncomputable def z9W (i : Nat) (δ : SS) : DS:=z0q ((z0i i δ).set i none)
theorem RS.off {K : PySem.W.Frag} {H0 H : Hp} {B0 : Addr->Prop} {σ : St} {δ : SS} {R : Nat->List Addr} {i : Nat} (h : RS K H0 B0 H σ δ R) : RepS K H (fun a=>a∈R i) σ (z9W i δ):=by
  refine ⟨by unfold z9W z0q; rw [List.length_map,List.length_set]; simp [z0i,h.len],fun j d e=>?_⟩
  obtain ⟨x,e',rfl⟩:=z9e e
  rcases z1T e' with ⟨_,q,_⟩ | ⟨hj,q⟩
  · cases q
  · obtain ⟨q1,q2⟩:=z0X q
    cases x with
    | sh d=>
      obtain ⟨v,e1,r⟩:=h.sh j d q1
      exact ⟨v,e1,r.anti fun a z=>.inr ⟨i,z⟩⟩
    | bo r d=>
      have hr : i≠r:=fun e=>q2 d (by rw [e])
      obtain ⟨v,e1,r⟩:=h.bo j r d q1
      exact ⟨v,e1,r.anti fun a z=>.inr ⟨i,hr,z⟩⟩
    | ow d=>
      obtain ⟨v,e1,t,_⟩:=h.ow j d q1
      exact ⟨v,e1,t.rep d fun a ha z=>hj (h.disj j i a ha z)⟩
noncomputable def cBX (i : Nat) (F : List D->Option BO) (fl : List DE) (δ : SS) : Option BR:=(z0n fl (z9W i δ)).bind fun args=>match δ[i]? with
  | some (some (.ow d0))=>(F (d0 :: args)).map fun z=>match z with
    | .val o d=>.val d ((z0i i δ).set i (some (.ow o)))
    | .exc c o=>.exc c ((z0i i δ).set i (some (.ow o)))
  | _=>none
section
variable {X : Cx} {e : Expr} {i : Nat} {F : List D->Option BO} {G : List D->Option (D × D)} {fl : List DE} {H0 : Hp} {B0 : Addr->Prop} {fr : Bool} {RX : XR} {pos p2 : Pos} {g h : SS->Option Out} {a b : List Stmt}
theorem z6G {K : PySem.W.Frag} {σ : St} {H : Hp} {δ : SS} {R : Nat->List Addr} {z : BR} {Q : VK} (rs : RS K H0 B0 H σ δ R) (hz : cBX i F fl δ=some z) (kk : match z with
  | .val d δ'=>∀ v' H' R' A2,RS K H0 B0 H' σ δ' R'->Stp R H R' H'->Tree K H' d v' A2->A2.Nodup->(∀ a∈A2,H0 a=none∧∀ r,a ∉ R' r)->Q v' H'
  | .exc c δ'=>∀ H' R',RS K H0 B0 H' σ δ' R'->Stp R H R' H'->RX c σ H') : tBX K RX i F fl σ H Q:=by
  unfold cBX at hz
  cases e1 : z0n fl (z9W i δ) with
  | none=>rw [e1] at hz; cases hz
  | some args=>
  rw [e1,Option.bind_some] at hz
  split at hz
  case h_2=>cases hz
  case h_1 d0 ei=>
  cases eF : F (d0 :: args) with
  | none=>rw [eF] at hz; cases hz
  | some bo=>
  rw [eF] at hz
  obtain ⟨v,ev,t,nd⟩:=rs.ow i d0 ei
  refine ⟨fun a=>a∈R i,z9W i δ,v,d0,R i,args,bo,ev,fun a ha=>⟨_,(rs.held i a ha).choose_spec.1⟩,fun _ z=>z,rs.off,e1,t,nd,eF,?_⟩
  cases bo with
  | val o d=>
    cases hz
    intro v' H1 H' A' A2 s1 s' t' nd' fr' th' t2 nd2 f2
    have P:=rs.moved s1 ei s' t' nd' fr' th'
    rw [z3J ev] at P
    exact kk v' H' _ A2 P.1 P.2 t2 nd2 fun a ha=>rs.apart s1 a (f2 a ha).1 (f2 a ha).2
  | exc c o=>
    cases hz
    intro H1 H' A' s1 s' t' nd' fr' th'
    have P:=rs.moved s1 ei s' t' nd' fr' th'
    rw [z3J ev] at P
    exact kk H' _ P.1 P.2
noncomputable def z3q (i : Nat) (F : List D->Option BO) (fl : List DE) : SS->Option Out:=fun δ=>(cBX i F fl δ).map fun z=>match z with
  | .val _ δ'=>.nx δ'
  | .exc c δ'=>.ex c δ'
noncomputable def y0o (j i : Nat) (F : List D->Option BO) (fl : List DE) : SS->Option Out:=fun δ=>(cBX i F fl δ).bind fun z=>match z with
  | .val d δ'=>if d.imm=true then some (.nx (δ'.set j (some (.sh d)))) else none
  | .exc c δ'=>some (.ex c δ')
theorem z4J (hc : PE X e (tBX X.K RX i F fl)) (hs : swapsWith e none pos.line X.env=pure false:=by rfl) : PS X (.Expr e pos) (tS X.K H0 B0 fr RX (z3q i F fl)):=PS.imp (z4n hc hs) fun D σ H z_=>by
  obtain ⟨δ,R,o,rs,q,k⟩:=z_
  unfold z3q at q
  cases e1 : cBX i F fl δ with
  | none=>rw [e1] at q; cases q
  | some z=>
    rw [e1] at q
    refine z6G rs e1 ?_
    cases z with
    | val d δ'=>cases q; exact fun v' H' R' A2 rs' st' _ _ _=>k σ H' R' rs' st'
    | exc c δ'=>cases q; exact fun H' R' rs' st'=>k σ H' R' rs' st'
theorem s_asgBX {j : Nat} {st : Stmt} (hc : PAsg X st j (tBX X.K RX i F fl)) : PS X st (tS X.K H0 B0 fr RX (y0o j i F fl)):=PS.imp hc fun D σ H z_=>by
  obtain ⟨δ,R,o,rs,q,k⟩:=z_
  unfold y0o at q
  cases e1 : cBX i F fl δ with
  | none=>rw [e1] at q; cases q
  | some z=>
    rw [e1,Option.bind_some] at q
    refine z6G rs e1 ?_
    cases z with
    | val d δ'=>
      have q : (if d.imm=true then some (Out.nx (δ'.set j (some (.sh d)))) else none)=some o:=q
      split at q
      · rename_i im
        cases q
        exact fun v' H' R' A2 rs' st' t2 _ _=>k _ H' R' (rs'.setSh ((t2.rep (B:=noB) _ fun _ _ z=>z).imm _ im)) st'
      · cases q
    | exc c δ'=>cases q; exact fun H' R' rs' st'=>k σ H' R' rs' st'
end
end L2
namespace L2
open PySem PySem.Spec PyProof.Rows
section
variable {X : Cx} {RX : XR} {a b c : Expr} {pos : Pos} {f g : DE} {F : DS->Option XO}
noncomputable def y3f (f g : DE) (F : DS->Option XO) : DS->Option XO:=fun δ=>(f δ).bind fun x=>(g δ).bind fun y=>if x.imm=true∧y.imm=true then (F δ).bind fun o=>match o with
  | .val d=>if d.imm=true then some (.val (.tup [x,y,d])) else none
  | .exc c=>some (.exc c)
  else none
theorem px_tup2 {x1} (ha : PD X a f) (hb : PD X b g) (hc : PE X c (tX X.K RX F)) (h1 : starEach [c] X.env=(false,eval c X.env) :: starEach [] X.env:=by rfl) (h2 : starEach [b,c] X.env=(false,eval b X.env) :: starEach [c] X.env:=by rfl) (h3 : starEach [a,b,c] X.env=(false,eval a X.env) :: starEach [b,c] X.env:=by rfl) : PE X (.Tuple [a,b,c] x1 pos) (tX X.K RX (y3f f g F)):=(y3M (z0y ha (z0y hb (z0y hc pa_nil h1) h2) h3)).imp fun σ H Q z_=>by
  obtain ⟨δ,o,S,q,kk⟩:=z_
  unfold y3f at q
  cases e1 : f δ with
  | none=>rw [e1] at q; cases q
  | some x=>
  rw [e1,Option.bind_some] at q
  cases e2 : g δ with
  | none=>rw [e2] at q; cases q
  | some y=>
  rw [e2,Option.bind_some] at q
  split at q
  case isFalse=>cases q
  case isTrue hi=>
  cases e3 : F δ with
  | none=>rw [e3] at q; cases q
  | some o1=>
  rw [e3,Option.bind_some] at q
  refine ⟨noB,δ,x,.no,S,e1,fun v1 H1 s1 r1=>⟨noB,δ,y,.no,S.mono s1,e2,fun v2 H2 s2 r2=>⟨δ,o1,(S.mono s1).mono s2,e3,?_⟩⟩⟩
  cases o1 with
  | exc c=>
    cases q
    exact fun H' s'=>kk H' (s1.trans (s2.trans s'))
  | val d=>
    have q : (if d.imm=true then some (XO.val (.tup [x,y,d])) else none)=some o:=q
    split at q
    case isFalse=>cases q
    case isTrue hd=>
    cases q
    intro v3 H3 A s3 t3 nd3 fr3
    refine ⟨by show 3≤sizeLine; rw [PySem.sizeLine_eq]; omega,fun p hp=>?_⟩
    have sp:=z0u (o:=HO.tup [v1,v2,v3]) hp
    refine kk _ _ [] (s1.trans (s2.trans (s3.trans sp))) ?_ List.nodup_nil (fun a ha=>nomatch ha)
    have r3 : Rep X.K H3 noB d v3:=t3.rep d fun _ _ z=>z
    refine Rep.immTree (B:=noB) (.tup [x,y,d]) (by simp [D.imm,z2Z,hi.1,hi.2,hd]) ?_
    unfold Rep
    exact ⟨p,[v1,v2,v3],rfl,SqT.of z0c,.cons ((((r1.mono s2).mono s3)).mono sp) (.cons ((r2.mono s3).mono sp) (.cons (r3.mono sp) .nil))⟩
end
section
variable {X : Cx} {e e2 e3 : Expr} {i : Nat} {F : List D->Option BO} {fl : List DE} {H0 : Hp} {B0 : Addr->Prop} {fr : Bool} {RX : XR} {pos p2 p3 : Pos} {g h : SS->Option Out} {f2 f3 : DE} {a b : List Stmt}
theorem neD_bl {x y w : D} (h : neD x y=some w) : okP x=true∧okP y=true∧w = .bl (!PyData.eqv (toP x) (toP y)):=by
  unfold neD at h
  split at h
  · rename_i z
    rw [Bool.and_eq_true] at z
    cases h
    exact ⟨z.1,z.2,rfl⟩
  · cases h
end
end L2
namespace L2
open PySem PySem.Spec PyProof.Rows
structure RoomH (k : Nat) (A : Around) : Prop where
  dp : A.depth + 3 * k + 5 < recursionLimit
  un : A.units + 16 * k + 200 < cLine
structure FnOkH (P : Program) (w : World) (K : PySem.W.Frag) (mg : Str->Option Value) (base : Heap) (k : Nat) (f : Addr) (fd : FuncData) (ps : List Str) (sp : Sp) : Prop where
  len : ∀ vs H Q E,sp vs H Q E->vs.length=ps.length
  run : ∀ (A : Around) (outer : List Env) (s : Shared) (H : Hp) (args : Args) (us : List Value) (vs : List V) (Q : VK) (E : XK),RoomH k A->Env0 P w K mg base A outer s H->BindsTo s fd args (ps.zip us)->Vals vs us->sp vs H Q E →
    codeAny (model P w) A (.call (.ref f) args) (CR CX0 outer P w H s Q E) s
structure DefH (P : Program) (w : World) (K : PySem.W.Frag) (mg : Str->Option Value) (base : Heap) (k : Nat) (x : Str) (sp : Sp) : Prop where
  ok : ∃ (f : Addr) (fd : FuncData) (ps : List Str),mg x=some (.ref f)∧PySem.W.keepIn K (.ref f)=true∧Binds K fd ps []∧FnOkH P w K mg base k f fd ps sp
section
variable {P : Program} {w : World} {K : PySem.W.Frag} {mg : Str->Option Value} {base : Heap}
end
section
variable {X : Cx} {k : Nat} {x : Str} {e : Expr} {es : List Expr} {p pos : Pos}
end
end L2
namespace L2
open PySem PySem.Spec PyProof.Rows
theorem RS.moved2 {K : PySem.W.Frag} {H0 Hp0 H1 H2 : Hp} {B0 : Addr->Prop} {σ : St} {δ : SS} {R : Nat->List Addr} {i j : Nat} {d0 d1 d d2 : D} {v u : V} {A A2 : List Addr} (hij : i≠j) (h : RS K H0 B0 Hp0 σ δ R) (e : Same Hp0 H1) (hi : δ[i]? = some (some (.ow d0))) (hj : δ[j]? = some (some (.ow d1)))
    (evi : σ[i]? = some (some v)) (evj : σ[j]? = some (some u)) (s : Same (z2v H1 (R i ++ R j)) H2) (t : Tree K H2 d v A) (t2 : Tree K H2 d2 u A2) (nd : (A ++ A2).Nodup) (fr : ∀ a∈A ++ A2,a∈R i ++ R j∨H1 a=none) (th : ∀ a,H2 a=none->H1 a=none) :
    RS K H0 B0 H2 σ (((z0i i (z0i j δ)).set i (some (.ow d))).set j (some (.ow d2))) (z4I (z4I R i A) j A2)∧Stp R Hp0 (z4I (z4I R i A) j A2) H2:=by
  have hm:=h.mono e
  have keepO : ∀ a o,H1 a=some o->a ∉ R i ++ R j->H2 a=some o:=fun a o q n=>s a o (by rw [z1e n]; exact q)
  have fr' : ∀ a∈A ++ A2,a∈R i ++ R j∨Hp0 a=none:=fun a ha=>(fr a ha).imp id fun z=>e.free z
  have mem : ∀ r b,b∈z4I (z4I R i A) j A2 r->(r=i∧b∈A)∨(r=j∧b∈A2)∨(r≠i∧r≠j∧b∈R r):=fun r b z=>by
    by_cases hr : r=j
    · subst hr; rw [z0A] at z; exact .inr (.inl ⟨rfl,z⟩)
    · rw [z0Q hr] at z
      by_cases hr2 : r=i
      · subst hr2; rw [z0A] at z; exact .inl ⟨rfl,z⟩
      · rw [z0Q hr2] at z; exact .inr (.inr ⟨hr2,hr,z⟩)
  have memA : ∀ r b,b∈z4I (z4I R i A) j A2 r->(∃ s,(s=r∨s=i∨s=j)∧(r=i∨r=j∨s=r)∧b∈R s)∨((r=i∨r=j)∧Hp0 b=none):=fun r b z=>by
    rcases mem r b z with ⟨rfl,z1⟩ | ⟨rfl,z1⟩ | ⟨_,_,z⟩
    · rcases fr' b (List.mem_append_left _ z1) with q | q
      · rcases List.mem_append.mp q with q | q
        · exact .inl ⟨_,.inr (.inl rfl),.inl rfl,q⟩
        · exact .inl ⟨_,.inr (.inr rfl),.inl rfl,q⟩
      · exact .inr ⟨.inl rfl,q⟩
    · rcases fr' b (List.mem_append_right _ z1) with q | q
      · rcases List.mem_append.mp q with q | q
        · exact .inl ⟨_,.inr (.inl rfl),.inr (.inl rfl),q⟩
        · exact .inl ⟨_,.inr (.inr rfl),.inr (.inl rfl),q⟩
      · exact .inr ⟨.inr rfl,q⟩
    · exact .inl ⟨r,.inl rfl,.inr (.inr rfl),z⟩
  have nh : ∀ r b,b∈R r->Hp0 b=none->False:=fun r b z q=>by
    obtain ⟨u,q',_⟩:=h.held r b z
    rw [q] at q'; cases q'
  have nt : ∀ a u,H1 a=some u->¬ Mut (some u)->a ∉ R i ++ R j:=fun a u q nm z=>by
    rcases List.mem_append.mp z with z | z
    · obtain ⟨o,q',m⟩:=hm.held i a z
      rw [q] at q'; cases q'
      exact nm m
    · obtain ⟨o,q',m⟩:=hm.held j a z
      rw [q] at q'; cases q'
      exact nm m
  have kp : Keep K (fun a=>a∈R i ++ R j) H1 H2:=by
    refine ⟨fun a xs n q=>keepO a _ q n,fun a xs q=>?_,fun a xs q=>?_,fun a kvs n q=>keepO a _ q n,fun a φ n q=>keepO a _ q n,fun a _ _ _ n q=>keepO a _ q n⟩
    · rcases q with (q | ⟨o,q⟩) | q
      · exact .inl (.inl (keepO a _ q (nt a _ q fun z=>z)))
      · exact .inl (.inr ⟨o,keepO a _ q (nt a _ q fun z=>z)⟩)
      · exact .inr q
    · rcases q with ⟨o,q⟩ | q
      · exact .inl ⟨o,keepO a _ q (nt a _ q fun z=>z)⟩
      · exact .inr q
  have out : ∀ r b,r≠i->r≠j->b∈R r->b ∉ R i ++ R j:=fun r b h1 h2 z q=>by
    rcases List.mem_append.mp q with q | q
    · exact h1 (h.disj r i b z q)
    · exact h2 (h.disj r j b z q)
  have get : ∀ {k : Nat} {x : SD},(((z0i i (z0i j δ)).set i (some (.ow d))).set j (some (.ow d2)))[k]? = some (some x)->(k=j∧x = .ow d2)∨(k=i∧x = .ow d)∨(k≠i∧k≠j∧δ[k]? = some (some x)∧(∀ d,x≠.bo i d)∧∀ d,x≠.bo j d):=fun {k x} z=>by
    rcases z1T z with ⟨rfl,q,_⟩ | ⟨hk,q⟩
    · cases q; exact .inl ⟨rfl,rfl⟩
    · rcases z1T q with ⟨rfl,q,_⟩ | ⟨hk2,q⟩
      · cases q; exact .inr (.inl ⟨rfl,rfl⟩)
      · obtain ⟨q1,q2⟩:=z0X q
        obtain ⟨q3,q4⟩:=z0X q1
        exact .inr (.inr ⟨hk2,hk,q3,q2,q4⟩)
  refine ⟨⟨fun b u q=>?_,h.inB,by simp [z0i,h.len],fun r b z=>?_,fun r b z=>?_,fun r s b z z'=>?_,fun k d2 z=>?_,fun k r2 d2 z=>?_,fun k d2 z=>?_⟩,⟨fun b u q n=>keepO b u (e b u q) fun z=>(List.mem_append.mp z).elim (n i) (n j),fun r b z=>?_,fun b z=>e.free (th b z)⟩⟩
  · exact keepO b u (hm.keep b u q) fun z=>by
      rcases List.mem_append.mp z with z | z
      · rw [h.new i b z] at q; cases q
      · rw [h.new j b z] at q; cases q
  · rcases memA r b z with ⟨s,_,_,z⟩ | ⟨_,z⟩
    · exact h.new s b z
    · exact h.keep.free z
  · rcases mem r b z with ⟨_,z⟩ | ⟨_,z⟩ | ⟨h1,h2,z⟩
    · exact t.held d b z
    · exact t2.held _ b z
    · obtain ⟨u,q,m⟩:=hm.held r b z
      exact ⟨u,keepO b u q (out r b h1 h2 z),m⟩
  · have dj : ∀ b∈A,b∈A2->False:=fun b h1 h2=>(List.nodup_append.mp nd).2.2 b h1 b h2 rfl
    have no : ∀ r b,r≠i->r≠j->b∈R r->b∈A ++ A2->False:=fun r b h1 h2 z q=>by
      rcases fr' b q with w | w
      · exact out r b h1 h2 z w
      · exact nh r b z w
    rcases mem r b z with ⟨a1,z⟩ | ⟨a1,z⟩ | ⟨h1,h2,z⟩ <;> rcases mem s b z' with ⟨a2,z'⟩ | ⟨a2,z'⟩ | ⟨h3,h4,z'⟩
    · rw [a1,a2]
    · exact (dj b z z').elim
    · exact (no s b h3 h4 z' (List.mem_append_left _ z)).elim
    · exact (dj b z' z).elim
    · rw [a1,a2]
    · exact (no s b h3 h4 z' (List.mem_append_right _ z)).elim
    · exact (no r b h1 h2 z (List.mem_append_left _ z')).elim
    · exact (no r b h1 h2 z (List.mem_append_right _ z')).elim
    · exact h.disj r s b z z'
  · rcases get z with ⟨_,q⟩ | ⟨_,q⟩ | ⟨_,_,q1,_⟩
    · cases q
    · cases q
    · obtain ⟨w,e1,r⟩:=h.sh k d2 q1
      have r2:=(Rep.wide (C:=fun b=>Hp0 b=none) (fun _ z=>z) d2 r).mono e
      refine ⟨w,e1,Rep.anti ?_ d2 (Rep.keep (kp.anti fun a z=>.inl (.inr ((List.mem_append.mp z).elim (fun z=>⟨i,z⟩) fun z=>⟨j,z⟩))) d2 r2)⟩
      rintro b (z | ⟨r,z⟩)
      · exact .inl (.inl z)
      · rcases memA r b z with ⟨s,_,_,z⟩ | ⟨_,z⟩
        · exact .inl (.inr ⟨s,z⟩)
        · exact .inr z
  · rcases get z with ⟨_,q⟩ | ⟨_,q⟩ | ⟨_,_,q1,n1,n2⟩
    · cases q
    · cases q
    · have hr : i≠r2:=fun e=>n1 d2 (by rw [e])
      have hr2 : j≠r2:=fun e=>n2 d2 (by rw [e])
      obtain ⟨w,e1,r⟩:=h.bo k r2 d2 q1
      have r3:=(Rep.wide (C:=fun b=>Hp0 b=none) (fun _ z=>z) d2 r).mono e
      refine ⟨w,e1,Rep.anti ?_ d2 (Rep.keep (kp.anti fun a z=>.inl (.inr ((List.mem_append.mp z).elim (fun z=>⟨i,hr,z⟩) fun z=>⟨j,hr2,z⟩))) d2 r3)⟩
      rintro b (z | ⟨s,hs,z⟩)
      · exact .inl (.inl z)
      · rcases memA s b z with ⟨s',h1,h2,z⟩ | ⟨_,z⟩
        · refine .inl (.inr ⟨s',?_,z⟩)
          rcases h1 with h1 | h1 | h1
          · rw [h1]; exact hs
          · rw [h1]; exact hr
          · rw [h1]; exact hr2
        · exact .inr z
  · rcases get z with ⟨rfl,q⟩ | ⟨rfl,q⟩ | ⟨h1,h2,q1,_⟩
    · cases q
      rw [z0A]
      exact ⟨u,evj,t2,(List.nodup_append.mp nd).2.1⟩
    · cases q
      rw [z0Q hij,z0A]
      exact ⟨v,evi,t,(List.nodup_append.mp nd).1⟩
    · obtain ⟨w,e1,t',nd'⟩:=hm.ow k d2 q1
      rw [z0Q h2,z0Q h1]
      exact ⟨w,e1,Tree.keep kp.i d2 t' fun b hb u q=>keepO b u q (out k b h1 h2 hb),nd'⟩
  · rcases memA r b z with ⟨s,_,_,z⟩ | ⟨_,z⟩
    · exact .inl ⟨s,z⟩
    · exact .inr z
noncomputable def unC : D->Option D
  | .cel _ ds=>some (.lst ds)
  | _=>none
section
variable {X : Cx} {e e2 : Expr} {pos p2 : Pos} {H0 : Hp} {B0 : Addr->Prop} {fr : Bool} {RX : XR} {a b : List Stmt} {g h : SS->Option Out} {τ υ : SS->Option (Bool × SS)} {i : Nat}
theorem y4e {f : DE} (h : PD X e f) : PD X e (d1 unC f):=h.imp fun σ H Q z_=>by
  obtain ⟨B,δ,d,hB,S,q,k⟩:=z_
  obtain ⟨o,e1,e2⟩:=z7X q
  cases o with
  | cel a ds=>
    cases e2
    refine ⟨B,δ,_,hB,S,e1,fun v H' s r=>k v H' s ?_⟩
    unfold Rep at r ⊢
    obtain ⟨xs,n,hs,ev,rr⟩:=r
    exact ⟨a,xs,ev,n,hs,rr⟩
  | _=>cases e2
noncomputable def tTs (K : PySem.W.Frag) (H0 : Hp) (B0 : Addr->Prop) (τ : SS->Option (Bool × SS)) : TT:=fun σ H Q=>∃ δ R b δ',RS K H0 B0 H σ δ R∧τ δ=some (b,δ')∧∀ H' R',RS K H0 B0 H' σ δ' R'->Stp R H R' H'->Q b H'
noncomputable def tsD (f : DS->Option Bool) : SS->Option (Bool × SS):=fun δ=>(f (z0q δ)).map fun b=>(b,δ)
noncomputable def z4v (τ : SS->Option (Bool × SS)) : SS->Option (Bool × SS):=fun δ=>(τ δ).map fun z=>(!z.1,z.2)
noncomputable def y4i (τ υ : SS->Option (Bool × SS)) : SS->Option (Bool × SS):=fun δ=>(τ δ).bind fun z=>if z.1=true then some (true,z.2) else υ z.2
noncomputable def ifT (τ : SS->Option (Bool × SS)) (g h : SS->Option Out) : SS->Option Out:=fun δ=>(τ δ).bind fun z=>if z.1=true then g z.2 else h z.2
noncomputable def tsBX (i : Nat) (F : List D->Option BO) (fl : List DE) : SS->Option (Bool × SS):=fun δ=>(cBX i F fl δ).bind fun z=>match z with
  | .val (.bl k) δ'=>some (k,δ')
  | _=>none
theorem ts_D {f : DS->Option Bool} (h : PTD X e f) : PT X e (tTs X.K H0 B0 (tsD f)):=h.imp fun σ H Q z_=>by
  obtain ⟨δ,R,b,δ',rs,q,kk⟩:=z_
  unfold tsD at q
  cases e1 : f (z0q δ) with
  | none=>rw [e1] at q; cases q
  | some c=>
    rw [e1] at q
    cases q
    exact ⟨noB,z0q δ,b,.no,rs.all,e1,fun H' s=>kk H' R (rs.mono s) (.same s)⟩
theorem z8L (h : PT X e (tTs X.K H0 B0 τ)) : PT X (.UnaryOp .Not e pos) (tTs X.K H0 B0 (z4v τ)):=(y4g h).imp fun σ H Q z_=>by
  obtain ⟨δ,R,b,δ',rs,q,kk⟩:=z_
  unfold z4v at q
  cases e1 : τ δ with
  | none=>rw [e1] at q; cases q
  | some c=>
    rw [e1] at q
    cases q
    exact ⟨δ,R,c.1,c.2,rs,e1,kk⟩
theorem ts_or (ha : PT X e (tTs X.K H0 B0 τ)) (hb : PT X e2 (tTs X.K H0 B0 υ)) : PT X (.BoolOp .Or [e,e2] pos) (tTs X.K H0 B0 (y4i τ υ)):=(PW.pt (pw_or ha (y3S hb))).imp fun σ H Q z_=>by
  obtain ⟨δ,R,b,δ',rs,q,kk⟩:=z_
  unfold y4i at q
  cases e1 : τ δ with
  | none=>rw [e1] at q; cases q
  | some c=>
    obtain ⟨c,δ1⟩:=c
    rw [e1,Option.bind_some] at q
    refine ⟨δ,R,c,δ1,rs,e1,fun H1 R1 rs1 st1=>?_⟩
    cases c with
    | true=>cases q; exact iteT (kk H1 R1 rs1 st1)
    | false=>exact iteF ⟨δ1,R1,b,δ',rs1,q,fun H2 R2 rs2 st2=>kk H2 R2 rs2 (st1.trans st2)⟩
theorem ts_BX {F : List D->Option BO} {fl : List DE} (hc : PE X e (tBX X.K noX i F fl)) (he : ∀ whole,isTrue e X.env whole=(do let v ← whole; standAt e.pos; holding [v] (truthy v)):=by intro _; rfl) : PT X e (tTs X.K H0 B0 (tsBX i F fl)):=(y3K hc he).imp fun σ H Q z_=>by
  obtain ⟨δ,R,b,δ',rs,q,kk⟩:=z_
  unfold tsBX at q
  cases e1 : cBX i F fl δ with
  | none=>rw [e1] at q; cases q
  | some z=>
    rw [e1,Option.bind_some] at q
    refine z6G rs e1 ?_
    cases z with
    | exc c δ'=>cases q
    | val d δ'=>
      cases d with
      | bl k=>
        cases q
        exact fun v' H' R' A2 rs' st' t2 _ _=>⟨b,t2.1,kk H' R' rs' st'⟩
      | _=>cases q
theorem y2A {c : Expr} (hc : PT X c (tTs X.K H0 B0 τ)) (ha : PSs X a (tS X.K H0 B0 fr RX g)) (hb : PSs X b (tS X.K H0 B0 fr RX h)) : PS X (.If c a b pos) (tS X.K H0 B0 fr RX (ifT τ g h)):=PS.imp (ps_if hc ha hb) fun D σ H z_=>by
  obtain ⟨δ,R,o,rs,q,k⟩:=z_
  unfold ifT at q
  cases e1 : τ δ with
  | none=>rw [e1] at q; cases q
  | some c=>
    obtain ⟨c,δ1⟩:=c
    rw [e1,Option.bind_some] at q
    refine ⟨δ,R,c,δ1,rs,e1,fun H1 R1 rs1 st1=>?_⟩
    cases c with
    | true=>exact iteT ⟨δ1,R1,o,rs1,q,k.back st1⟩
    | false=>exact iteF ⟨δ1,R1,o,rs1,q,k.back st1⟩
end
end L2
namespace L2
open PySem PySem.Spec PyProof.Rows
theorem RS.topC {K : PySem.W.Frag} {H0 H : Hp} {B0 : Addr->Prop} {σ : St} {δ : SS} {R : Nat->List Addr} {i : Nat} {a : Addr} {ds : List D} (h : RS K H0 B0 H σ δ R) (hi : δ[i]? = some (some (.ow (.cel a ds)))) : ∃ xs A,σ[i]? = some (some (.ref a))∧H a=some (.lst xs)∧Trees K H ds xs A∧R i=a :: A∧(a :: A).Nodup:=by
  obtain ⟨v,e,t,nd⟩:=h.ow i _ hi
  unfold Tree at t
  obtain ⟨xs,A,ha,rfl,ts,e2⟩:=t
  rw [e2] at nd
  exact ⟨xs,A,e,ha,ts,e2,nd⟩
noncomputable def appC (i : Nat) (f : DE) : SS->Option Out:=fun δ=>(f (z0q δ)).bind fun d=>if d.imm=true then (match δ[i]? with
  | some (some (.ow (.cel a ds)))=>if ds.length < sizeLine then some (.nx ((z0i i δ).set i (some (.ow (.cel a (ds ++ [d])))))) else none
  | _=>none) else none
section
variable {X : Cx} {e : Expr} {x : Str} {pos ap cp px p2 p3 : Pos} {H0 : Hp} {B0 : Addr->Prop} {fr : Bool} {RX : XR} {i : Nat} {f : DE}
theorem s_appC (hx : PE X (.Name x px) (z3s i)) (ha : PD X e f) (hbase : attributeBase (.Name x px) "append" X.env (eval (.Name x px) X.env)=eval (.Name x px) X.env:=by rfl)
    (hfew : ((backTo cp (starEach [e] X.env)).all (fun x=>!x.1) && (backToKw cp (keywordEach [] X.env)).all (fun x=>x.1.isSome) && decide ([e].length + ([] : List Keyword).length + (if ([] : List Keyword).isEmpty then 0 else 1) < 30))=true:=by rfl)
    (hline : (ap.endLine == cp.line)=true:=by rfl) (hs : starEach [e] X.env=(false,eval e X.env) :: starEach [] X.env:=by rfl) (hsw : swapsWith (.Call (.Attribute (.Name x px) "append" ap) [e] [] cp) none pos.line X.env=pure false:=by rfl) :
    PS X (.Expr (.Call (.Attribute (.Name x px) "append" ap) [e] [] cp) pos) (tS X.K H0 B0 fr RX (appC i f)):=
  PS.imp (z4n (z9y PySem.F.plainAttrs_list PySem.F.slot_list_append PySem.F.type_list_append z2Y hx (z0y ha pa_nil hs) hbase hfew hline hs rfl) hsw) fun D σ H z_=>by
    obtain ⟨δ,R,o,rs,q,k⟩:=z_
    unfold appC at q
    cases e1 : f (z0q δ) with
    | none=>rw [e1] at q; cases q
    | some d=>
    rw [e1,Option.bind_some] at q
    split at q
    case isFalse=>cases q
    case isTrue hi=>
    split at q
    case h_2=>cases q
    case h_1 a ds ei=>
    split at q
    case isFalse=>cases q
    case isTrue hl=>
    cases q
    obtain ⟨xs,A,ev,ha,ts,eR,nd⟩:=rs.topC ei
    refine ⟨.ref a,ev,.inl ⟨rfl,xs,SqL.of ha⟩,noB,z0q δ,d,.no,rs.all,e1,fun y H2 s2 r2=>?_⟩
    refine ⟨a,xs,y,rfl,rfl,s2 _ _ ha,by rw [← Trees.length ts]; exact hl,?_⟩
    have mH : Mut (H2 a):=by rw [s2 _ _ ha]; exact True.intro
    have kt : KeepI X.K H2 (upd H2 a (.lst (xs ++ [y]))):=(Keep.upd (K:=X.K) (B:=fun x=>x=a) rfl mH).i
    have na:=(List.nodup_cons.mp nd).1
    have P:=rs.rewrite s2 ei ev (o:=.lst (xs ++ [y])) (by rw [eR]; exact List.mem_cons_self) (d':=.cel a (ds ++ [d])) (A':=a :: (A ++ [])) (by
      unfold Tree
      refine ⟨xs ++ [y],A ++ [],z0c,rfl,Trees.snoc (Trees.keep kt ds (ts.mono s2) fun b hb o z=>?_) (Tree.keep kt d (r2.immTree d hi) fun b hb=>nomatch hb),rfl⟩
      rw [z0d fun w=>na (by rw [← w]; exact hb)]; exact z) (by rw [List.append_nil]; exact nd) (fun b hb=>.inl (by rw [List.append_nil] at hb; rw [eR]; exact hb))
    exact k σ _ _ P.1 P.2
noncomputable def z5c (f : DE) (i : Nat) : SS->Option (Bool × SS):=fun δ=>(f (z9W i δ)).bind fun x=>match δ[i]? with
  | some (some (.ow (.cel a ds)))=>(match ds.getLast? with
    | some y=>(neD x y).bind fun w=>match w with
      | .bl k=>some (k,(z0i i δ).set i (some (.ow (.cel a ds.dropLast))))
      | _=>none
    | none=>none)
  | _=>none
theorem y2E (hu : X.A.units + 64 < cLine) (h1 : PD X e f) (hx : PE X (.Name x px) (z3s i)) (hbase : attributeBase (.Name x px) "pop" X.env (eval (.Name x px) X.env)=eval (.Name x px) X.env:=by rfl) (hline : (p2.endLine == p3.line)=true:=by rfl) :
    PT X (.Compare e [.NotEq] [.Call (.Attribute (.Name x px) "pop" p2) [] [] p3] pos) (tTs X.K H0 B0 (z5c f i)):=(y0x (y3Q hu) h1 (y3V PySem.F.plainAttrs_list PySem.F.slot_list_pop PySem.F.type_list_pop y4b hx hbase hline) (z5h _)).imp fun σ H Q z_=>by
  obtain ⟨δ,R,b,δ',rs,q,kk⟩:=z_
  unfold z5c at q
  cases e1 : f (z9W i δ) with
  | none=>rw [e1] at q; cases q
  | some dx=>
  rw [e1,Option.bind_some] at q
  split at q
  case h_2=>cases q
  case h_1 a ds ei=>
  cases el : ds.getLast? with
  | none=>rw [el] at q; cases q
  | some dy=>
  rw [el] at q
  have q : ((neD dx dy).bind fun w=>match w with | .bl k=>some (k,(z0i i δ).set i (some (.ow (.cel a ds.dropLast)))) | _=>none)=some (b,δ'):=q
  cases e2 : neD dx dy with
  | none=>rw [e2] at q; cases q
  | some w=>
  rw [e2,Option.bind_some] at q
  obtain ⟨o1,o2,rfl⟩:=neD_bl e2
  cases q
  obtain ⟨xs,A,ev,ha,ts,eR,nd⟩:=rs.topC ei
  have aR : a∈R i:=by rw [eR]; exact List.mem_cons_self
  refine ⟨fun a=>a∈R i,z9W i δ,dx,fun a ha=>⟨_,(rs.held i a ha).choose_spec.1⟩,rs.off,e1,fun vx H1 s1 r1=>?_⟩
  have els : ds=ds.dropLast ++ [dy]:=by
    obtain ⟨zs,hz⟩:=List.getLast?_eq_some_iff.mp el
    rw [hz,List.dropLast_concat]
  have ts':=ts
  rw [els] at ts'
  obtain ⟨ys,y,C1,C2,rfl,tys,ty,rfl⟩:=Trees.unsnoc ts'
  refine ⟨.ref a,ev,.inl ⟨rfl,_,SqL.of (s1 _ _ ha)⟩,a,ys ++ [y],y,rfl,rfl,s1 _ _ ha,by simp,?_⟩
  rw [List.dropLast_concat]
  have mH : Mut (H1 a):=by rw [s1 _ _ ha]; exact True.intro
  have kt : KeepI X.K H1 (upd H1 a (.lst ys)):=(Keep.upd (K:=X.K) (B:=fun x=>x=a) rfl mH).i
  have na:=(List.nodup_cons.mp nd).1
  have ndC:=(List.nodup_cons.mp nd).2
  have P:=rs.rewrite s1 ei ev (o:=.lst ys) aR (d':=.cel a ds.dropLast) (A':=a :: C1) (by
    unfold Tree
    refine ⟨ys,C1,z0c,rfl,Trees.keep kt _ (tys.mono s1) fun b hb o z=>?_,rfl⟩
    rw [z0d fun w=>na (by rw [← w]; exact List.mem_append_left _ hb)]; exact z) (List.nodup_cons.mpr ⟨fun z=>na (List.mem_append_left _ z),(List.nodup_append.mp ndC).1⟩) (fun b hb=>.inl (by
      rw [eR]
      rcases List.mem_cons.mp hb with z | z
      · rw [z]; exact List.mem_cons_self
      · exact List.mem_cons_of_mem _ (List.mem_append_left _ z)))
  refine ⟨noB,dx,dy,Rep.anti (fun _ z=>z.elim) dx (Rep.keep (.upd aR mH) dx r1),Tree.rep dy (Tree.keep kt dy (ty.mono s1) fun b hb o z=>by
    rw [z0d fun w=>na (by rw [← w]; exact List.mem_append_right _ hb)]; exact z) (fun _ _ z=>z.elim),o1,o2,_,rfl,kk _ _ P.1 P.2⟩
end
noncomputable def y1Y {α : Type} (p : Bool) (x y z : α) : List α:=bif p then [x,y,z] else [x,z,y]
noncomputable abbrev F3:=D->List D->D->Option (D × List D × D)
noncomputable def y0Y (K : PySem.W.Frag) (p : Bool) (F : F3) : Sp:=fun vs H Q _=>∃ v u w d0 xs dw o ys d A A2,vs=y1Y p v u w∧Tree K H d0 v A∧Tree K H (.lst xs) u A2∧(A ++ A2).Nodup∧Rep K H (fun a=>a∈A ++ A2) dw w∧F d0 xs dw=some (o,ys,d) ∧
  ∀ v' H' A' A2',Same (z2v H (A ++ A2)) H'->Tree K H' o v A'->Tree K H' (.lst ys) u A2'->(A' ++ A2').Nodup->(∀ a∈A' ++ A2',a∈A ++ A2∨H a=none)->(∀ a,H' a=none->H a=none)->Tree K H' d v' []->Q v' H'
noncomputable def y0I {α : Type} (r : Addr->Option α) : Option α:=@ite _ (∀ a,r a=r 0) (Classical.propDecidable _) (r 0) none
theorem z9v {α : Type} {r : Addr->Option α} {o : α} (h : y0I r=some o) (a : Addr) : r a=some o:=by
  unfold y0I at h
  split at h
  · rename_i e
    rw [e a]; exact h
  · cases h
theorem z9d {α : Type} {r : Addr->Option α} {o : α} (h : ∀ a,r a=some o) : y0I r=some o:=by
  unfold y0I
  rw [if_pos fun a=>by rw [h a,h 0]]
  exact h 0
noncomputable def fin2 (p : Bool) (a : Addr) (d0 : D) (o : Out) : Option (D × List D × D):=match o with
  | .rb d δ=>(match δ[bif p then 1 else 2]? with
    | some (some (SD.ow (D.cel a' ys)))=>if a'=a∧d.imm=true then (z3H d0 δ d).map fun z=>(z.1,ys,z.2) else none
    | _=>none)
  | _=>none
noncomputable def z7S (p : Bool) (nl : Nat) (g : SS->Option Out) : F3:=fun d0 xs dw=>y0I fun a=>(g (y1Y p (some (.ow d0)) (some (.ow (.cel a xs))) (some (.sh dw)) ++ List.replicate nl none)).bind (fin2 p a d0)
theorem y1k {K : PySem.W.Frag} {H : Hp} {d0 dw : D} {v w : V} {a : Addr} {xs : List D} {A A2 : List Addr} {N : List Str} {nl : Nat} {p : Bool} (t : Tree K H d0 v A) (t2 : Tree K H (.cel a xs) (.ref a) A2) (nd : (A ++ A2).Nodup) (r : Rep K H (fun a=>a∈A ++ A2) dw w) (hN : N.length=3 + nl) :
    RS K (z2v H (A ++ A2)) noB H (z2h N (y1Y p v (.ref a) w)) (y1Y p (some (.ow d0)) (some (.ow (.cel a xs))) (some (.sh dw)) ++ List.replicate nl none) (fun r=>if r=0 then A else if r=(bif p then 1 else 2) then A2 else []):=by
  obtain ⟨nd1,nd2,dj⟩:=List.nodup_append.mp nd
  have mem : ∀ r b,b∈(if r=0 then A else if r=(bif p then 1 else 2) then A2 else [])->(r=0∧b∈A)∨(r=(bif p then 1 else 2)∧b∈A2):=fun r b z=>by
    split at z
    · exact .inl ⟨by assumption,z⟩
    · split at z
      · exact .inr ⟨by assumption,z⟩
      · cases z
  have memA : ∀ r b,b∈(if r=0 then A else if r=(bif p then 1 else 2) then A2 else [])->b∈A ++ A2:=fun r b z=>(mem r b z).elim (fun z=>List.mem_append_left _ z.2) fun z=>List.mem_append_right _ z.2
  have p0 : (bif p then 1 else 2)≠0:=by cases p <;> decide
  have get : ∀ {i : Nat} {x : SD},(y1Y p (some (.ow d0)) (some (.ow (.cel a xs))) (some (.sh dw)) ++ List.replicate nl none)[i]? = some (some x)->(i=0∧x = .ow d0)∨(i=(bif p then 1 else 2)∧x = .ow (.cel a xs))∨(i=(bif p then 2 else 1)∧x = .sh dw):=fun {i x} e=>by
    cases p <;> rcases i with _ | _ | _ | i <;> simp [y1Y] at e
    · exact .inl ⟨rfl,e.symm⟩
    · exact .inr (.inr ⟨rfl,e.symm⟩)
    · exact .inr (.inl ⟨rfl,e.symm⟩)
    · rw [List.getElem?_replicate] at e
      split at e <;> cases e
    · exact .inl ⟨rfl,e.symm⟩
    · exact .inr (.inl ⟨rfl,e.symm⟩)
    · exact .inr (.inr ⟨rfl,e.symm⟩)
    · rw [List.getElem?_replicate] at e
      split at e <;> cases e
  have at' : ∀ {i : Nat} {y : V},(y1Y p v (.ref a) w)[i]? = some y->(z2h N (y1Y p v (.ref a) w))[i]? = some (some y):=fun {i y} e=>by
    unfold z2h
    rw [List.getElem?_append_left (by rw [List.length_map]; exact (List.getElem?_eq_some_iff.mp e).1),List.getElem?_map,e]
    rfl
  refine ⟨z5E,(fun _ z=>z.elim),?_,fun r b z=>z2B (memA r b z),fun r b z=>?_,fun r s b z z'=>?_,fun i d e=>?_,fun i r d e=>?_,fun i d e=>?_⟩
  · unfold z2h
    cases p <;> simp [y1Y] <;> omega
  · rcases mem r b z with ⟨_,z⟩ | ⟨_,z⟩
    · exact t.held d0 b z
    · exact t2.held _ b z
  · rcases mem r b z with ⟨a1,z⟩ | ⟨a1,z⟩ <;> rcases mem s b z' with ⟨a2,z'⟩ | ⟨a2,z'⟩
    · rw [a1,a2]
    · exact absurd rfl (dj b z b z')
    · exact absurd rfl (dj b z' b z)
    · rw [a1,a2]
  · rcases get e with ⟨_,q⟩ | ⟨_,q⟩ | ⟨rfl,q⟩
    · cases q
    · cases q
    · cases q
      exact ⟨w,at' (by cases p <;> rfl),r.anti fun b z=>z.elim (fun z=>z.elim) fun ⟨r,z⟩=>memA r b z⟩
  · rcases get e with ⟨_,q⟩ | ⟨_,q⟩ | ⟨_,q⟩ <;> cases q
  · rcases get e with ⟨rfl,q⟩ | ⟨rfl,q⟩ | ⟨_,q⟩
    · cases q
      rw [if_pos rfl]
      exact ⟨v,at' (by cases p <;> rfl),t,nd1⟩
    · cases q
      rw [if_neg p0,if_pos rfl]
      exact ⟨.ref a,at' (by cases p <;> rfl),t2,nd2⟩
    · cases q
section
variable {P : Program} {w : World} {K : PySem.W.Frag} {mg : Str->Option Value} {base : Heap}
theorem defB2 {x qual : Str} {st : Stmt} {f : Addr} {fd : FuncData} {N ps : List Str} {k nl : Nat} {p : Bool} {g : SS->Option Out} (F : Fun K x qual st f fd) (hm : mg x=some (.ref f)) (hb : Binds K fd ps []) (S : FnScope N ps (z0a st)) (hnp : ps.length=3) (hN : N.length=3 + nl)
    (hbody : ∀ (cdv : Value) (A : Around) (outer : List Env) (s : Shared) (H H0 : Hp) (E : XK),Room k (A.deeper (envOfC qual (z0a st) s.heap.objs.size f cdv)) →
      PSs (z6I CX0 P w K mg base N qual (z0a st) f cdv A outer s H E).nox (z0o st) (tS K H0 noB true noX g)) : DefOk P w K mg base (k + 1) x (y0Y K p (z7S p nl g)):=by
  refine ⟨f,fd,ps,hm,F.kp,hb,F.ok S (fun vs H Q E h=>?_) fun cdv A outer s H vs Q E hr h=>?_⟩
  · obtain ⟨v,u,w,d0,xs,dw,o,ys,d,A,A2,rfl,_⟩:=h
    rw [hnp]
    cases p <;> rfl
  · obtain ⟨v,u,w,d0,xs,dw,o,ys,d,A1,A2,rfl,t,t2,nd,rw',e,kk⟩:=h
    refine ⟨_,hbody cdv A outer s H (z2v H (A1 ++ A2)) E hr,?_⟩
    unfold Tree at t2
    obtain ⟨a,ls,B,rfl,ha,ts,rfl⟩:=t2
    have t2 : Tree K H (.cel a xs) (.ref a) (a :: B):=by
      unfold Tree
      exact ⟨ls,B,ha,rfl,ts,rfl⟩
    have e1:=z9v e a
    have rs:=y1k (nl:=nl) (N:=N) (p:=p) t t2 nd rw' hN
    cases eg : g (y1Y p (some (.ow d0)) (some (.ow (.cel a xs))) (some (.sh dw)) ++ List.replicate nl none) with
    | none=>rw [eg] at e1; cases e1
    | some oo=>
    rw [eg,Option.bind_some] at e1
    refine ⟨_,_,oo,rs,eg,?_⟩
    unfold fin2 at e1
    split at e1
    case h_2=>cases e1
    case h_1 d1 δ'=>
    split at e1
    case h_2=>cases e1
    case h_1 a' ys' ep=>
    split at e1
    case isFalse=>cases e1
    case isTrue hc=>
    obtain ⟨rfl,him⟩:=hc
    cases es : z3H d0 δ' d1 with
    | none=>rw [es] at e1; cases e1
    | some z=>
    obtain ⟨o',d2⟩:=z
    rw [es] at e1
    cases e1
    intro v' σ' H' R' A3 rs' st' t3 _ _
    obtain ⟨rfl,e0,x1,a1,ks1,ds1,x2,ks2,ds2,rfl,rfl⟩:=z5O es
    obtain ⟨u',_,t',nd'⟩:=rs'.ow 0 _ e0
    have eu : u'=v:=(z6m t').trans (z6m t).symm
    subst eu
    obtain ⟨u2,_,t4,nd4⟩:=rs'.ow _ _ ep
    have p0 : (bif p then 1 else 2)≠0:=by cases p <;> decide
    unfold Tree at t4
    obtain ⟨ls',B',ha',rfl,ts',eR⟩:=t4
    have fr : ∀ b,z2v H (A1 ++ a' :: B) b=none->b∈A1 ++ a' :: B∨H b=none:=fun b z=>by
      by_cases h : b∈A1 ++ a' :: B
      · exact .inl h
      · rw [z1e h] at z; exact .inr z
    have t3' : Tree K H' d2 v' []:=by
      have:=Rep.immTree (K:=K) (H:=H') (B:=noB) d2 him (t3.rep d2 fun _ _ z=>z)
      exact this
    refine kk v' H' (R' 0) (R' (bif p then 1 else 2)) rs'.keep t' ?_ ?_ (fun b hb=>?_) st'.there t3'
    · unfold Tree
      exact ⟨a',ls',B',rfl,ha',ts',eR⟩
    · exact List.nodup_append.mpr ⟨nd',nd4,fun b hb c hc z=>by subst z; exact p0 (rs'.disj _ _ b hc hb)⟩
    · rcases List.mem_append.mp hb with z | z
      · exact fr b (rs'.new _ b z)
      · exact fr b (rs'.new _ b z)
end
noncomputable def tB2 (K : PySem.W.Frag) (i j : Nat) (F : F3) (f : DE) : TE:=fun σ H Q=>∃ δ v u d0 xs dw o ys d A A2,σ[i]? = some (some v)∧σ[j]? = some (some u)∧RepS K H noB σ δ∧f δ=some dw∧dw.imm=true∧Tree K H d0 v A∧Tree K H (.lst xs) u A2∧(A ++ A2).Nodup∧F d0 xs dw=some (o,ys,d) ∧
  ∀ v' H1 H' A' A2',Same H H1->Same (z2v H1 (A ++ A2)) H'->Tree K H' o v A'->Tree K H' (.lst ys) u A2'->(A' ++ A2').Nodup->(∀ a∈A' ++ A2',a∈A ++ A2∨H1 a=none)->(∀ a,H' a=none->H1 a=none)->Tree K H' d v' []->Q v' H'
section
variable {X : Cx} {e : Expr} {p px py cp : Pos} {fn x y : Str} {k i j : Nat} {F : F3} {f : DE} {H0 : Hp} {B0 : Addr->Prop}
theorem pb2_t (G : DefOk X.prog X.w X.K X.mg X.base k fn (y0Y X.K true F)) (hr : Room k X.A) (hg : Gl X fn) (hx : PE X (.Name x px) (z3s i)) (hy : PE X (.Name y py) (z3s j)) (ha : PD X e f) (hdb : (fn == ("__debug__" : Str))=false:=by decide)
    (h1 : starEach [e] X.env=(false,eval e X.env) :: starEach [] X.env:=by rfl) (h2 : starEach [.Name y py,e] X.env=(false,eval (.Name y py) X.env) :: starEach [e] X.env:=by rfl) (he : starEach [.Name x px,.Name y py,e] X.env=(false,eval (.Name x px) X.env) :: starEach [.Name y py,e] X.env:=by rfl) (hpl : (backTo cp (starEach [.Name y py,e] X.env)).any (·.1)=false:=by rfl) :
    PE X (.Call (.Name fn p) [.Name x px,.Name y py,e] [] cp) (tB2 X.K i j F f):=(z6D G hr hg (z0y hx (z0y hy (z0y ha pa_nil h1) h2) he) hdb he hpl).imp fun σ H Q z_=>by
  obtain ⟨δ,v,u,d0,xs,dw,o,ys,d,A,A2,ev,eu,S,e1,him,t,t2,nd,eF,kk⟩:=z_
  refine ⟨v,ev,u,eu,noB,δ,dw,.no,S,e1,fun w H1 s1 r1=>?_⟩
  show y0Y X.K true F [v,u,w] H1 _ E0
  exact ⟨v,u,w,d0,xs,dw,o,ys,d,A,A2,rfl,t.mono s1,t2.mono s1,nd,r1.imm dw him,eF,fun v' H' A' A2'=>kk v' H1 H' A' A2' s1⟩
theorem pb2_f (G : DefOk X.prog X.w X.K X.mg X.base k fn (y0Y X.K false F)) (hr : Room k X.A) (hg : Gl X fn) (hx : PE X (.Name x px) (z3s i)) (ha : PD X e f) (hy : PE X (.Name y py) (z3s j)) (hdb : (fn == ("__debug__" : Str))=false:=by decide)
    (h1 : starEach [.Name y py] X.env=(false,eval (.Name y py) X.env) :: starEach [] X.env:=by rfl) (h2 : starEach [e,.Name y py] X.env=(false,eval e X.env) :: starEach [.Name y py] X.env:=by rfl) (he : starEach [.Name x px,e,.Name y py] X.env=(false,eval (.Name x px) X.env) :: starEach [e,.Name y py] X.env:=by rfl) (hpl : (backTo cp (starEach [e,.Name y py] X.env)).any (·.1)=false:=by rfl) :
    PE X (.Call (.Name fn p) [.Name x px,e,.Name y py] [] cp) (tB2 X.K i j F f):=(z6D G hr hg (z0y hx (z0y ha (z0y hy pa_nil h1) h2) he) hdb he hpl).imp fun σ H Q z_=>by
  obtain ⟨δ,v,u,d0,xs,dw,o,ys,d,A,A2,ev,eu,S,e1,him,t,t2,nd,eF,kk⟩:=z_
  refine ⟨v,ev,noB,δ,dw,.no,S,e1,fun w H1 s1 r1=>⟨u,eu,?_⟩⟩
  show y0Y X.K false F [v,w,u] H1 _ E0
  exact ⟨v,u,w,d0,xs,dw,o,ys,d,A,A2,rfl,t.mono s1,t2.mono s1,nd,r1.imm dw him,eF,fun v' H' A' A2'=>kk v' H1 H' A' A2' s1⟩
noncomputable def cB2 (i j : Nat) (F : F3) (f : DE) (δ : SS) : Option (D × SS):=(f (z0q δ)).bind fun dw=>if dw.imm=true then (match δ[i]?,δ[j]? with
  | some (some (.ow d0)),some (some (.ow (.lst xs)))=>(F d0 xs dw).map fun z=>(z.2.2,((z0i i (z0i j δ)).set i (some (.ow z.1))).set j (some (.ow (.lst z.2.1))))
  | _,_=>none) else none
noncomputable def y1W (i j : Nat) (F : F3) (f : DE) : SS->Option (Bool × SS):=fun δ=>(cB2 i j F f δ).bind fun z=>match z.1 with
  | .bl k=>some (k,z.2)
  | _=>none
theorem ts_B2 (hij : i≠j) (hc : PE X e (tB2 X.K i j F f)) (he : ∀ whole,isTrue e X.env whole=(do let v ← whole; standAt e.pos; holding [v] (truthy v)):=by intro _; rfl) : PT X e (tTs X.K H0 B0 (y1W i j F f)):=(y3K hc he).imp fun σ H Q z_=>by
  obtain ⟨δ,R,b,δ',rs,q,kk⟩:=z_
  unfold y1W cB2 at q
  cases e1 : f (z0q δ) with
  | none=>rw [e1] at q; cases q
  | some dw=>
  rw [e1,Option.bind_some] at q
  by_cases him : dw.imm=true
  case neg=>rw [if_neg him] at q; cases q
  rw [if_pos him] at q
  split at q
  case h_2=>cases q
  case h_1 d0 xs ei ej=>
  cases eF : F d0 xs dw with
  | none=>rw [eF] at q; cases q
  | some z=>
  obtain ⟨o,ys,d⟩:=z
  rw [eF] at q
  cases d with
  | bl kb=>
    cases q
    obtain ⟨v,ev,t,nd⟩:=rs.ow i _ ei
    obtain ⟨u,eu,t2,nd2⟩:=rs.ow j _ ej
    have ndd : (R i ++ R j).Nodup:=List.nodup_append.mpr ⟨nd,nd2,fun b hb c hc z=>by subst z; exact hij (rs.disj i j b hb hc)⟩
    refine ⟨z0q δ,v,u,d0,xs,dw,o,ys,_,R i,R j,ev,eu,rs.all,e1,him,t,t2,ndd,eF,fun v' H1 H' A' A2' s1 s' t' t2' nd' fr' th' td=>⟨_,td.1,?_⟩⟩
    have P:=rs.moved2 hij s1 ei ej ev eu s' t' t2' nd' fr' th'
    exact kk H' _ P.1 P.2
  | _=>cases q
end
end L2
namespace L2
open PySem
theorem y1d {np nl : Nat} {g : SS->Option Out} {ds : List D} {d : D} (hl : ds.length=np) (e : g (ds.map (fun d=>some (.sh d)) ++ List.replicate nl none)=some (.rt d)) : z5D np nl g ds=some d:=by
  unfold z5D
  rw [if_pos hl,e]
theorem z3l {n : Nat} (h : n≤1000000) : n≤sizeLine:=by rw [PySem.sizeLine_eq]; omega
end L2
namespace L2
open PySem
theorem eq_self {d : D} (h : okP d=true) : eqD d d=some (.bl true):=by
  unfold eqD
  rw [h]
  show (if (true && true)=true then some (D.bl (PyData.eqv (toP d) (toP d))) else none)=_
  rw [if_pos (show (true && true)=true from rfl),SeqAt.eqv_refl _ (z0s h).1]
theorem ixN_nat {n k : Nat} (h : k < n) : ixN n (k : Int)=some k:=by
  unfold ixN
  rw [if_pos (by omega),if_pos (by omega)]
  simp
end L2
namespace L2
open PySem
noncomputable def hol {α : Type} (x : Option α) (Q : α->Prop) : Prop:=∃ a,x=some a∧Q a
section
variable {α β : Type} {Q : α->Prop} {R : β->Prop}
theorem z0g {a : α} : hol (some a) Q=Q a:=propext ⟨fun ⟨_,e,q⟩=>by cases e; exact q,fun q=>⟨a,rfl,q⟩⟩
theorem hol_is {x : Option α} {a : α} : hol x (fun b=>b=a)↔x=some a:=⟨fun ⟨_,e,q⟩=>q ▸ e,fun e=>⟨a,e,rfl⟩⟩
end
noncomputable def asB : D->Option Bool
  | .bl b=>some b
  | _=>none
section
variable {Q : D->Prop} {QB : Bool->Prop} {QL : List D->Prop} {QO : Out->Prop} {δ : DS} {s : SS} {f g h : DE} {F : D->D->Option D}
theorem ho_var0 {x : Option D} {r : DS} : z0f 0 (x :: r)=x:=by cases x <;> rfl
noncomputable def owA (i : Nat) (s : SS) : Option D:=match s[i]? with
  | some (some (.ow d))=>some d
  | _=>none
theorem z3p {np nl : Nat} {b : SS->Option Out} {ds : List D} {d : D} (hl : ds.length=np) (h : hol (b (ds.map (fun d=>some (.sh d)) ++ List.replicate nl none)) fun o=>o = .rt d) : z5D np nl b ds=some d:=y1d hl (hol_is.mp h)
theorem y1z {np nl : Nat} {b : SS->Option Out} {ds : List D} (hl : ds.length=np) (h : hol (b (ds.map (fun d=>some (.sh d)) ++ List.replicate nl none)) fun o=>∃ d,o = .rt d∧Q d) : hol (z5D np nl b ds) Q:=by
  obtain ⟨o,e,d,rfl,q⟩:=h
  exact ⟨d,y1d hl e,q⟩
theorem y0g {i : Nat} {b : SS->Option Out} {ds : List D} {s : SS} (I : Nat->SS->Prop) (h0 : I 0 s) (hs : ∀ n (h : n < ds.length) δ,I n δ->hol (b (δ.set i (some (.sh ds[n])))) fun o=>match o with | .nx δ'=>I (n + 1) δ' | .ct δ'=>I (n + 1) δ' | .bk δ'=>QO (.nx δ') | .rt d=>QO (.rt d) | .rb d δ'=>QO (.rb d δ') | .ex c δ'=>QO (.ex c δ')) (he : ∀ δ,I ds.length δ->QO (.nx δ)) : hol (z3T i b ds s) QO:=by
  induction ds generalizing s I with
  | nil=>exact ⟨_,rfl,he _ h0⟩
  | cons x r ih=>
    obtain ⟨o,e,q⟩:=hs 0 (by simp) s h0
    have e : b (s.set i (some (.sh x)))=some o:=e
    have step : ∀ s1,I 1 s1->hol (z3T i b r s1) QO:=fun s1 h1=>ih (fun n=>I (n + 1)) h1 (fun n hn δ hI=>by
      have:=hs (n + 1) (by simpa using hn) δ hI
      simpa using this) fun δ hI=>he δ (by simpa using hI)
    unfold z3T
    rw [e]
    cases o with
    | nx s1=>exact step s1 q
    | ct s1=>exact step s1 q
    | bk s1=>exact ⟨_,rfl,q⟩
    | rt d=>exact ⟨_,rfl,q⟩
    | rb d s1=>exact ⟨_,rfl,q⟩
    | ex c s1=>exact ⟨_,rfl,q⟩
theorem for_rng {i : Nat} {b : SS->Option Out} {lo : Int} {m : Nat} {s : SS} (I : Nat->SS->Prop) (h0 : I 0 s) (hs : ∀ n,n < m->∀ δ,I n δ->hol (b (δ.set i (some (.sh (.int (lo + (n : Int))))))) fun o=>match o with | .nx δ'=>I (n + 1) δ' | .ct δ'=>I (n + 1) δ' | .bk δ'=>QO (.nx δ') | .rt d=>QO (.rt d) | .rb d δ'=>QO (.rb d δ') | .ex c δ'=>QO (.ex c δ')) (he : ∀ δ,I m δ->QO (.nx δ)) : hol (z3T i b (z3S lo m) s) QO:=by
  refine y0g I h0 (fun n hn δ hI=>?_) fun δ hI=>he δ (by simpa [z3S] using hI)
  have hn' : n < m:=by simpa [z3S] using hn
  have:=hs n hn' δ hI
  simpa [z3S] using this
theorem for_map {α : Type} {enc : α->D} {i : Nat} {b : SS->Option Out} {xs : List α} {s : SS} (I : List α->SS->Prop) (h0 : I [] s) (hs : ∀ pre x post,xs=pre ++ x :: post->∀ δ,I pre δ->hol (b (δ.set i (some (.sh (enc x))))) fun o=>match o with | .nx δ'=>I (pre ++ [x]) δ' | .ct δ'=>I (pre ++ [x]) δ' | .bk δ'=>QO (.nx δ') | .rt d=>QO (.rt d) | .rb d δ'=>QO (.rb d δ') | .ex c δ'=>QO (.ex c δ')) (he : ∀ δ,I xs δ->QO (.nx δ)) : hol (z3T i b (xs.map enc) s) QO:=by
  refine y0g (fun n δ=>I (xs.take n) δ) (by simpa using h0) (fun n hn δ hI=>?_) fun δ hI=>he δ (by simpa using hI)
  have hn' : n < xs.length:=by simpa using hn
  have e : xs=xs.take n ++ xs[n] :: xs.drop (n + 1):=by
    rw [← List.drop_eq_getElem_cons hn',List.take_append_drop]
  have:=hs (xs.take n) xs[n] _ e δ hI
  rw [← List.take_succ_eq_append_getElem hn'] at this
  rw [List.getElem_map]
  exact this
end
end L2
namespace L2
open PySem
noncomputable def o2 (F : D->D->Option D) : Option D->Option D->Option D
  | some x,some y=>F x y
  | _,_=>none
noncomputable def andO : Option D->Option D->Option D
  | some (.bl true),y=>y
  | some (.bl false),_=>some (.bl false)
  | _,_=>none
noncomputable def andT : Option Bool->Option Bool->Option Bool
  | some true,y=>y
  | some false,_=>some false
  | _,_=>none
noncomputable def orT : Option Bool->Option Bool->Option Bool
  | some true,_=>some true
  | some false,y=>y
  | _,_=>none
noncomputable def iteO {α : Type} : Option Bool->Option α->Option α->Option α
  | some true,x,_=>x
  | some false,_,y=>y
  | _,_,_=>none
noncomputable def consA : Option D->Option (List D)->Option (List D)
  | some x,some xs=>some (x :: xs)
  | _,_=>none
noncomputable def z9X : Option D->Option D
  | some d=>if d.imm=true then some d else none
  | none=>none
noncomputable def y2w : Option (List D)->Option (List D)
  | some ds=>if z2Z ds=true then some ds else none
  | none=>none
noncomputable def z8p (x : Option Out) (b : SS->Option Out) : Option Out:=match x with
  | some (.nx s)=>b s
  | o=>o
noncomputable def rng1 : Option D->Option (List D)
  | some (.int j)=>if -(2 ^ 62)≤j∧j < 2 ^ 62 then some (z3S 0 j.toNat) else none
  | _=>none
noncomputable def cut3 (x : Option D) (lo hi : Option (Option Int)) : Option (List D):=match x,lo,hi with
  | some (.lst ds),some l,some h=>some (z4q ds l h)
  | some (.scr ns),some l,some h=>some (z4q (ns.map .int) l h)
  | _,_,_=>none
noncomputable def partO : Option D->Option (Option Int)
  | some (.int i)=>some (some i)
  | _=>none
noncomputable def setO (mk : D->SD) (i : Nat) (x : Option D) (s : SS) : Option Out:=match x with
  | some d=>some (.nx (s.set i (some (mk d))))
  | none=>none
noncomputable def rtO : Option D->Option Out
  | some d=>some (.rt d)
  | none=>none
noncomputable def forX (i : Nat) (ds : Option (List D)) (b : SS->Option Out) (s : SS) : Option Out:=match ds with
  | some ds=>z3T i b ds s
  | none=>none
noncomputable def y0l (i : Nat) (x : Option D) (s : SS) : Option Out:=match x with
  | some d=>some (.nx ((z0i i s).set i (some (.ow d))))
  | none=>none
noncomputable def z8e (fc : DS->Option Bool) (fe : DE) (δ : DS) : D->Option (Option D):=fun x=>(fc (δ ++ [some x])).bind fun k=>if k=true then (fe (δ ++ [some x])).map some else some none
noncomputable def compX (xs : Option (List D)) (h : D->Option (Option D)) : Option (List D):=match xs with
  | some xs=>if xs.length≤sizeLine then z3c h xs else none
  | none=>none
section
variable {f g h : DE} {δ : DS} {s : SS} {F : D->D->Option D} {c e : DS->Option Bool} {a b : SS->Option Out} {i j : Nat}
theorem ev_var0 {x : Option D} {r : DS} : z0f 0 (x :: r)=x:=ho_var0
theorem ev_varS {x : Option D} {r : DS} : z0f (i + 1) (x :: r)=z0f i r:=(rfl)
theorem ev_C {d : D} : dC d δ=some d:=(rfl)
theorem ev_d2 : d2 F f g δ=o2 F (f δ) (g δ):=by
  unfold d2 o2
  cases f δ <;> cases g δ <;> rfl
theorem ev_d1 {G : D->Option D} : d1 G f δ=(f δ).bind G:=(rfl)
theorem ev_test : z0R f δ=(f δ).bind asB:=by
  unfold z0R
  cases f δ with
  | none=>rfl
  | some d=>cases d <;> rfl
theorem y2R : z4t f δ=(f δ).bind z5I:=(rfl)
theorem ev_orT : dOrT c e δ=orT (c δ) (e δ):=by
  unfold dOrT
  rcases c δ with _ | _ | _ <;> rfl
theorem ev_notT : z5X c δ=(c δ).map (!·):=(rfl)
theorem ev_and : y1Z f g δ=andO (f δ) (g δ):=by
  unfold y1Z andO
  rcases f δ with _ | (_ | (_ | _) | _ | _ | _ | _ | _ | _) <;> rfl
theorem y3n : z0n [] δ=some []:=(rfl)
theorem y2u {r : List DE} : z0n (f :: r) δ=consA (f δ) (z0n r δ):=by
  show ((f δ).bind fun x=>(z0n r δ).bind fun xs=>some (x :: xs))=_
  cases f δ <;> cases z0n r δ <;> rfl
theorem ev_call {M : List D->Option D} {fl : List DE} : z0r M fl δ=(z0n fl δ).bind M:=(rfl)
theorem y2V {M : List D->Option (List D)} {fl : List DE} : z5F M fl δ=(z0n fl δ).bind M:=(rfl)
theorem ev_mkL {f : DS->Option (List D)} : mkL f δ=(f δ).map .lst:=(rfl)
theorem ev_mkT {f : DS->Option (List D)} : mkT f δ=(f δ).map .tup:=(rfl)
theorem y1P {f : DS->Option (List D)} : z1b f δ=(y2w (f δ)).map .lst:=by
  unfold z1b y2w
  cases f δ with
  | none=>rfl
  | some ds=>
    show (if z2Z ds=true then _ else _)=Option.map _ (if z2Z ds=true then _ else _)
    split <;> rfl
theorem y3l : z7u f δ=z9X (f δ):=by
  unfold z7u z9X
  cases f δ <;> rfl
theorem ev_is {T : String} : dIs T f δ=(f δ).map fun d=>.bl (isF T d):=(rfl)
theorem ev_seq : y3R f δ=(f δ).bind seqD:=(rfl)
theorem ev_rng1 : z7r f δ=rng1 (f δ):=(rfl)
theorem ev_comp {fi : DS->Option (List D)} : z6P fi c f δ=compX (fi δ) (z8e c f δ):=by
  unfold z6P compX
  cases fi δ <;> rfl
theorem ev_part : z2S f δ=partO (f δ):=(rfl)
theorem y1o : z1R δ=some none:=(rfl)
theorem ev_cut {fl fh : DS->Option (Option Int)} : z8w f fl fh δ=cut3 (f δ) (fl δ) (fh δ):=by
  unfold z8w cut3
  rcases f δ with _ | (_ | _ | _ | _ | _ | _ | _ | _) <;> first | rfl | (cases fl δ <;> cases fh δ <;> rfl)
theorem ev_seqO : z1c a b s=z8p (a s) b:=by
  unfold z1c z8p
  rcases a s with _ | (_ | _ | _ | _) <;> rfl
theorem ev_skip : z1A s=some (.nx s):=(rfl)
theorem ev_asgI : z6t i f s=setO .sh i (z9X (f (z0q s))) s:=by
  unfold z6t setO z9X
  cases f (z0q s) with
  | none=>rfl
  | some d=>
    show (if d.imm=true then _ else _)=(match (if d.imm=true then some d else none) with | some d=>some (Out.nx (s.set i (some (SD.sh d)))) | none=>none)
    split <;> rfl
theorem ev_asgN : z6H i f s=setO .ow i (f (z0q s)) s:=by
  unfold z6H setO
  cases f (z0q s) <;> rfl
theorem ev_retI : z4H f s=rtO (z9X (f (z0q s))):=by
  unfold z4H rtO z9X
  cases f (z0q s) with
  | none=>rfl
  | some d=>
    show (if d.imm=true then _ else _)=(match (if d.imm=true then some d else none) with | some d=>some (Out.rt d) | none=>none)
    split <;> rfl
theorem ev_retN : z9U f s=rtO (f (z0q s)):=by
  unfold z9U rtO
  cases f (z0q s) <;> rfl
theorem ev_ifO : ifO c a b s=iteO (c (z0q s)) (a s) (b s):=by
  unfold ifO
  rcases c (z0q s) with _ | _ | _ <;> rfl
theorem ev_forO {fi : DS->Option (List D)} : forO i fi b s=forX i (fi (shV s)) b s:=by
  unfold forO forX
  cases fi (shV s) <;> rfl
theorem eo_2 {x y : D} : o2 F (some x) (some y)=F x y:=(rfl)
theorem eo_and {x y : Bool} : andO (some (.bl x)) (some (.bl y))=some (.bl (x && y)):=by cases x <;> rfl
theorem eo_orT {x y : Bool} : orT (some x) (some y)=some (x || y):=by cases x <;> rfl
theorem eo_orTt {y : Option Bool} : orT (some true) y=some true:=(rfl)
theorem eo_itet {α : Type} {x y : Option α} : iteO (some true) x y=x:=(rfl)
theorem eo_itef {α : Type} {x y : Option α} : iteO (some false) x y=y:=(rfl)
theorem eo_cons {x : D} {xs : List D} : consA (some x) (some xs)=some (x :: xs):=(rfl)
theorem eo_nx : z8p (some (.nx s)) b=b s:=(rfl)
theorem eo_rt {d : D} : z8p (some (.rt d)) b=some (.rt d):=(rfl)
theorem eo_set {mk : D->SD} {d : D} : setO mk i (some d) s=some (.nx (s.set i (some (mk d)))):=(rfl)
theorem eo_rtO {d : D} : rtO (some d)=some (.rt d):=(rfl)
theorem eo_for {ds : List D} : forX i (some ds) b s=z3T i b ds s:=(rfl)
theorem eo_immI {n : Int} : z9X (some (.int n))=some (.int n):=(rfl)
theorem eo_immB {n : Bool} : z9X (some (.bl n))=some (.bl n):=(rfl)
theorem eo_immN : z9X (some .non)=some .non:=(rfl)
theorem z3N {d : D} (h : d.imm=true) : z9X (some d)=some d:=if_pos h
theorem z1S {ds : List D} (h : z2Z ds=true) : y2w (some ds)=some ds:=if_pos h
theorem eo_part {n : Int} : partO (some (.int n))=some (some n):=(rfl)
theorem eo_cutL {ds : List D} {l h : Option Int} : cut3 (some (.lst ds)) (some l) (some h)=some (z4q ds l h):=(rfl)
theorem eo_cutR {ns : List Int} {l h : Option Int} : cut3 (some (.scr ns)) (some l) (some h)=some (z4q (ns.map .int) l h):=(rfl)
theorem y1B {n : Int} (h : -(2 ^ 62)≤n∧n < 2 ^ 62) : rng1 (some (.int n))=some (z3S 0 n.toNat):=if_pos h
theorem z7J {xs : List D} {k : D->Option (Option D)} (h : xs.length≤1000000) : compX (some xs) k=z3c k xs:=if_pos (z3l h)
section
variable {m n : Int} {p q : Bool} {ds es : List D} {x y : Str} {ns : List Int}
theorem z6Q : z5T (.int m) (.int n)=some (.int (m + n)):=(rfl)
theorem y0i : y3L (.int m) (.int n)=some (.int (m - n)):=(rfl)
theorem z7C (h : CDiv m n) : z7G (.int m) (.int n)=some (.int (m / n)):=if_pos h
theorem z3K (h : 0 < n) : z4x (.int m) (.int n)=some (.int (m % n)):=if_pos h
theorem ea_pow (h : CPow m n) : y2D (.int m) (.int n)=some (.int (m ^ n.toNat)):=if_pos h
theorem ea_lt : ltI (.int m) (.int n)=some (.bl (decide (m < n))):=(rfl)
theorem y3G : leI (.int m) (.int n)=some (.bl (decide (m≤n))):=(rfl)
theorem ea_gt : gtI (.int m) (.int n)=some (.bl (decide (n < m))):=(rfl)
theorem ea_ge : geI (.int m) (.int n)=some (.bl (decide (n≤m))):=(rfl)
theorem z8W : eqD (.int m) (.int n)=some (.bl (decide (m=n))):=(rfl)
theorem ea_neI : neD (.int m) (.int n)=some (.bl (!decide (m=n))):=(rfl)
theorem ea_not : uNot (.bl p)=some (.bl (!p)):=(rfl)
theorem ea_truB : z5I (.bl p)=some p:=(rfl)
theorem ea_truL : z5I (.lst ds)=some (!ds.isEmpty):=(rfl)
theorem ea_seqL : seqD (.lst ds)=some ds:=(rfl)
theorem z3A : z3F [.lst ds]=some (.int (ds.length : Int)):=(rfl)
theorem ea_ixL : ixD (.lst ds) (.int m)=atI ds m:=(rfl)
theorem ea_ixR : ixD (.scr ns) (.int m)=(atI ns m).map .int:=(rfl)
theorem ea_isBI : isF "bool" (.int m)=false:=(rfl)
theorem ea_isII : isF "int" (.int m)=true:=(rfl)
theorem ea_asB : asB (.bl p)=some p:=(rfl)
end
theorem eb_bs {α β : Type} {a : α} {k : α->Option β} : (some a).bind k=k a:=(rfl)
theorem eb_ms {α β : Type} {a : α} {k : α->β} : (some a).map k=some (k a):=(rfl)
theorem eb_mn {α β : Type} {k : α->β} : (none : Option α).map k=none:=(rfl)
theorem eb_s0 {α : Type} {x y : α} {r : List α} : (x :: r).set 0 y=y :: r:=(rfl)
theorem eb_sS {α : Type} {n : Nat} {x y : α} {r : List α} : (x :: r).set (n + 1) y=x :: r.set n y:=(rfl)
theorem eb_mc {α β : Type} {x : α} {r : List α} {k : α->β} : (x :: r).map k=k x :: r.map k:=(rfl)
theorem eb_mnil {α β : Type} {k : α->β} : ([] : List α).map k=[]:=(rfl)
theorem eb_rS {α : Type} {n : Nat} {x : α} : List.replicate (n + 1) x=x :: List.replicate n x:=(rfl)
theorem eb_r0 {α : Type} {x : α} : List.replicate 0 x=[]:=(rfl)
theorem eb_ca {α : Type} {x : α} {r t : List α} : (x :: r) ++ t=x :: (r ++ t):=(rfl)
theorem eb_na {α : Type} {t : List α} : [] ++ t=t:=(rfl)
theorem es_all0 : z0q []=[]:=(rfl)
theorem es_allS {x : Option SD} {r : SS} : z0q (x :: r)=x.map SD.val :: z0q r:=(rfl)
theorem es_sh0 : shV []=[]:=(rfl)
theorem es_shS {x : Option SD} {r : SS} : shV (x :: r)=shO x :: shV r:=(rfl)
theorem es_shO {d : D} : shO (some (.sh d))=some d:=(rfl)
theorem y2T : z0i i []=[]:=(rfl)
theorem y2U {x : Option SD} {r : SS} : z0i i (x :: r)=z2j i x :: z0i i r:=(rfl)
theorem y0f {d : D} : z2j i (some (.sh d))=some (.sh d):=(rfl)
theorem z9Z {d : D} : z2j i (some (.ow d))=some (.ow d):=(rfl)
theorem y2O : z2j i none=none:=(rfl)
theorem es_ow0 {d : D} {r : SS} : owA 0 (some (.ow d) :: r)=some d:=(rfl)
theorem es_owS {x : Option SD} {r : SS} : owA (i + 1) (x :: r)=owA i r:=(rfl)
end
end L2
namespace L2
open PySem
noncomputable def st0V (o k v : Option D) : Option D:=match o,k,v with
  | some (.lst ds),some (.int k),some d=>(ixN ds.length k).map fun j=>.lst (ds.set j d)
  | _,_,_=>none
noncomputable def m0V (M : List D->List D->Option (List D)) (o : Option D) (args : Option (List D)) : Option D:=match o,args with
  | some (.lst ds),some args=>(M ds args).map .lst
  | _,_=>none
section
variable {f g fk fj fv : DE} {s : SS} {i : Nat} {M : List D->List D->Option (List D)} {fl : List DE}
theorem eo_put {d : D} : y0l i (some d) s=some (.nx ((z0i i s).set i (some (.ow d)))):=(rfl)
noncomputable def kI : D->Option Int
  | .int k=>some k
  | _=>none
noncomputable def kL : D->Option (List D)
  | .lst ds=>some ds
  | _=>none
noncomputable def kW : Option (Option SD)->Option D
  | some (some (.ow d))=>some d
  | _=>none
theorem owA_kW : owA i s=kW s[i]?:=by
  unfold owA kW
  generalize s[i]? = x
  rcases x with _ | _ | ⟨x | x | ⟨r,x⟩⟩ <;> rfl
theorem mt2 {β : Type} {k : D} {x : Option (Option SD)} {F : Int->List D->Option β} : (match k,x with | .int k,some (some (.ow (.lst ds)))=>F k ds | _,_=>none)=(kI k).bind fun k=>((kW x).bind kL).bind fun ds=>F k ds:=by
  cases k with
  | int k=>rcases x with _ | _ | ⟨x | x | ⟨r,x⟩⟩ <;> first | rfl | (cases x <;> rfl)
  | _=>rfl
theorem st0V_k {o k v : Option D} : st0V o k v=(o.bind kL).bind fun ds=>(k.bind kI).bind fun k=>v.bind fun d=>(ixN ds.length k).map fun j=>.lst (ds.set j d):=by
  rcases o with _ | o
  · rfl
  · cases o with
    | lst ds=>
      rcases k with _ | k
      · rfl
      · cases k with
        | int k=>cases v <;> rfl
        | _=>rfl
    | _=>rfl
theorem putO_b {α : Type} {x : Option α} {F : α->Option D} : y0l i (x.bind F) s=x.bind fun a=>y0l i (F a) s:=by cases x <;> rfl
theorem z5S {α β : Type} {x : Option α} : (x.bind fun _=>(none : Option β))=none:=by cases x <;> rfl
theorem ev_st0 : st0 i fk fv s=y0l i (st0V (owA i s) (fk (z0q s)) (z9X (fv (z0q s)))) s:=by
  have e : st0 i fk fv s=(fv (z0q s)).bind fun d=>if d.imm=true then (fk (z0q s)).bind fun dk=>(kI dk).bind fun k=>((kW s[i]?).bind kL).bind fun ds=>(ixN ds.length k).map fun j=>.nx ((z0i i s).set i (some (.ow (.lst (ds.set j d))))) else none:=by
    refine congrArg (Option.bind (fv (z0q s))) (funext fun d=>?_)
    refine congrArg (fun z=>if d.imm=true then z else none) ?_
    refine congrArg (Option.bind (fk (z0q s))) (funext fun dk=>?_)
    exact mt2 (F:=fun k ds=>(ixN ds.length k).map fun j=>Out.nx ((z0i i s).set i (some (.ow (.lst (ds.set j d))))))
  rw [e,st0V_k,owA_kW]
  simp only [putO_b]
  generalize (kW s[i]?).bind kL=x
  rcases fv (z0q s) with _ | d
  · show none=x.bind fun ds=>((fk (z0q s)).bind kI).bind fun k=>(none : Option Out)
    simp only [z5S]
  · show (if d.imm=true then (fk (z0q s)).bind fun dk=>_ else none)=x.bind fun ds=>((fk (z0q s)).bind kI).bind fun k=>(if d.imm=true then some d else none).bind fun d=>_
    split
    · rcases fk (z0q s) with _ | k
      · simp only [Option.bind_none,z5S]
      · simp only [Option.bind_some]
        cases kI k with
        | none=>simp only [Option.bind_none,z5S]
        | some k=>
          simp only [Option.bind_some]
          cases x with
          | none=>rfl
          | some ds=>
            simp only [Option.bind_some]
            cases ixN ds.length k <;> rfl
    · simp only [Option.bind_none,z5S]
theorem y3c : z9E i f s=y0l i (m0V y1V (owA i s) (consA (f (z0q s)) (some []))) s:=by
  unfold z9E owA
  rcases f (z0q s) with _ | d
  · rcases s[i]? with _ | _ | ⟨x | x | ⟨r,x⟩⟩ <;> (first | rfl | (cases x <;> rfl))
  · rcases s[i]? with _ | _ | ⟨x | x | ⟨r,x⟩⟩ <;> (first | rfl | (cases x <;> first | rfl | (rename_i ds; show Option.map _ (y1V ds [d])=y0l i (Option.map _ (y1V ds [d])) s; cases y1V ds [d] <;> rfl)))
end
theorem es_v1 {d : D} : (SD.sh d).val=d:=(rfl)
theorem es_v2 {d : D} : (SD.ow d).val=d:=(rfl)
theorem z6F : ∀ ns : List Int,z4w (ns.map D.int)=some ns
  | []=>rfl
  | n :: ns=>by
    show (z4w (ns.map D.int)).map (n :: ·)=_
    rw [z6F ns]
    rfl
theorem z6V {α β : Type} {f : α->β} : ∀ {xs : List α} {i : Nat},(xs.map f).eraseIdx i=(xs.eraseIdx i).map f
  | [],_=>rfl
  | _ :: _,0=>rfl
  | x :: r,i + 1=>congrArg (f x :: ·) (z6V (xs:=r) (i:=i))
theorem z8k (n : Nat) (h : n≤1000) : y2D (.int 10) (.int (n : Int))=some (.int (10 ^ n)):=by
  rw [ea_pow (show CPow 10 (n : Int) from ⟨by omega,by omega,by decide⟩),Int.toNat_natCast]
theorem z3D {x : Int} {n : Nat} (h : 0 < n) : ∃ a : Nat,x % (n : Int)=(a : Int)∧a < n:=by
  have h1:=Int.emod_nonneg x (show (n : Int)≠0 by omega)
  have h2:=Int.emod_lt_of_pos x (show (0 : Int) < n by omega)
  exact ⟨(x % (n : Int)).toNat,by omega,by omega⟩
theorem y0B {α : Type} {enc : α->D} {c : DS->Option Bool} {f : DE} {δ : DS} (p : α->Bool) (g : α->D) : ∀ {xs : List α},(∀ x∈xs,c (δ ++ [some (enc x)])=some (p x))->(∀ x∈xs,p x=true->f (δ ++ [some (enc x)])=some (g x))->z3c (z8e c f δ) (xs.map enc)=some ((xs.filter p).map g)
  | [],_,_=>rfl
  | x :: r,hc,hf=>by
    have ih:=y0B (xs:=r) p g (fun y hy=>hc y (List.mem_cons_of_mem _ hy)) fun y hy=>hf y (List.mem_cons_of_mem _ hy)
    rw [List.map_cons]
    unfold z3c
    rw [ih]
    unfold z8e
    rw [hc x List.mem_cons_self]
    cases hp : p x with
    | true=>
      show ((if true=true then (f (δ ++ [some (enc x)])).map some else some none).bind _)=_
      rw [if_pos rfl,hf x List.mem_cons_self hp,List.filter_cons_of_pos hp]
      rfl
    | false=>
      rw [List.filter_cons_of_neg (by rw [hp]; exact Bool.false_ne_true)]
      rfl
theorem z4l {α : Type} {enc : α->D} {f : DE} {δ : DS} (g : α->D) {xs : List α} (hf : ∀ x∈xs,f (δ ++ [some (enc x)])=some (g x)) : z3c (z8e y3N f δ) (xs.map enc)=some (xs.map g):=by
  rw [y0B (fun _=>true) g (fun _ _=>rfl) fun x hx _=>hf x hx,List.filter_eq_self.mpr fun _ _=>rfl]
noncomputable def nD (n : Nat) : D:=.int (n : Int)
theorem z7I {n : Nat} : z3S 0 n=(List.range n).map nD:=by
  unfold z3S nD
  refine List.map_congr_left fun k _=>?_
  rw [Int.zero_add]
theorem at_nat {α : Type} {xs : List α} {k : Nat} (h : k < xs.length) : atI xs (k : Int)=some xs[k]:=z2q (List.getElem?_eq_getElem h)
theorem ixN_of {n k : Nat} (h : k < n) : ixN n (k : Int)=some k:=ixN_nat h
end L2
namespace L2
open PySem
noncomputable def z8Q : Option (List D)->Option (List D)
  | some ds=>if ds.length≤sizeLine then some ds else none
  | none=>none
theorem y3p {g : DS->Option (List D)} {δ : DS} : z5P g δ=z8Q (g δ):=by
  unfold z5P z8Q
  cases g δ <;> rfl
theorem y3H {ds : List D} (h : ds.length≤1000000) : z8Q (some ds)=some ds:=if_pos (z3l h)
noncomputable def z1E (o : List Int) : D:=.tup (o.map .int)
noncomputable def z7F (b : Int × List Int) : D:=.tup [.int b.1,z1E b.2]
noncomputable def votD (bs : List (Int × List Int)) : D:=.lst (bs.map z7F)
theorem z3i : ∀ o : List Int,z2Z (o.map D.int)=true
  | []=>rfl
  | n :: o=>by
    show (true && z2Z (o.map D.int))=true
    rw [z3i o]
    rfl
theorem imm_ord (o : List Int) : (z1E o).imm=true:=z3i o
theorem imm_bal (b : Int × List Int) : (z7F b).imm=true:=by
  show (true && ((z1E b.2).imm && true))=true
  rw [imm_ord]
  rfl
theorem z4K : ∀ bs : List (Int × List Int),z2Z (bs.map z7F)=true
  | []=>rfl
  | b :: bs=>by
    show ((z7F b).imm && z2Z (bs.map z7F))=true
    rw [imm_bal,z4K bs]
    rfl
theorem seq_ord {o : List Int} : seqD (z1E o)=some (o.map .int):=(rfl)
theorem y0a {o : List Int} : z3F [z1E o]=some (.int (o.length : Int)):=by
  show some (D.int ((o.map D.int).length : Nat))=_
  rw [List.length_map]
theorem z7n {x : Option Out} {b : SS->Option Out} {I : SS->Prop} {Q : Out->Prop} (h : hol x fun o=>∃ s,o = .nx s∧I s) (k : ∀ s,I s->hol (b s) Q) : hol (z8p x b) Q:=by
  obtain ⟨o,rfl,s,rfl,q⟩:=h
  exact k s q
noncomputable def z4g (m : Nat) : List Int:=(List.range m).map fun k=>((k : Nat) : Int)
theorem rng_ord {m : Nat} : D.tup (z3S 0 m)=z1E (z4g m):=by
  rw [z7I]
  unfold z1E z4g
  rw [List.map_map]
  rfl
structure Good (m : Nat) (b : Int × List Int) : Prop where
  lo : 1≤b.1
  hi : b.1≤10 ^ 30
  perm : b.2.Perm (z4g m)
noncomputable def plc (o : List Int) (a : Int) : Nat:=o.findIdx fun n=>n == a
theorem y3C {o : List Int} {a : Int} (h : a∈o) : o.findIdx? (fun n=>n == a)=some (plc o a):=by
  unfold plc
  rw [List.findIdx?_eq_some_iff_findIdx_eq]
  exact ⟨List.findIdx_lt_length_of_exists ⟨a,h,by simp⟩,rfl⟩
theorem y1c {o : List Int} {a : Int} (h : a∈o) : tixF (z1E o) (.int a)=some (.int (plc o a : Int)):=by
  show (z4w (o.map D.int)).bind _=_
  rw [z6F,Option.bind_some,y3C h]
  rfl
theorem z7t {o : List Int} {a : Int} (h : a∈o) : plc o a < o.length:=List.findIdx_lt_length_of_exists ⟨a,h,by simp⟩
theorem plc_get {o : List Int} {a : Int} (h : a∈o) : o[plc o a]'(z7t h)=a:=by
  have:=List.findIdx_getElem (p:=fun n=>n == a) (xs:=o) (w:=z7t h)
  exact eq_of_beq this
end L2
namespace L2
open PySem
noncomputable def thD (th : List Nat) : D:=.lst (th.map nD)
theorem ne_self {d : D} (h : okP d=true) : neD d d=some (.bl false):=by
  unfold neD
  rw [h]
  show (if (true && true)=true then some (D.bl (!PyData.eqv (toP d) (toP d))) else none)=_
  rw [if_pos (show (true && true)=true from rfl),SeqAt.eqv_refl _ (z0s h).1]
  rfl
end L2
namespace L2
open PySem
noncomputable def chO (F G : D->D->Option D) (x y z : Option D) : Option D:=match x,y with
  | some x,some y=>match F x y with
    | some (.bl true)=>z.bind fun z=>G y z
    | some (.bl false)=>some (.bl false)
    | _=>none
  | _,_=>none
theorem y2g {F G : D->D->Option D} {f g h : DE} {δ : DS} : z4p F G f g h δ=chO F G (f δ) (g δ) (h δ):=by
  unfold z4p chO
  cases f δ <;> cases g δ <;> rfl
theorem z8R {F G : D->D->Option D} {x y z : D} {b c : Bool} (h1 : F x y=some (.bl b)) (h2 : G y z=some (.bl c)) : chO F G (some x) (some y) (some z)=some (.bl (b && c)):=by
  show (match F x y with
    | some (.bl true)=>(some z).bind fun z=>G y z
    | some (.bl false)=>some (.bl false)
    | _=>none)=_
  rw [h1]
  cases b with
  | true=>exact h2
  | false=>rfl
noncomputable def inO : Option D->Option D->Option Bool
  | some x,some y=>inK x y
  | _,_=>none
theorem ev_din' {f g : DE} {δ : DS} : dDIn f g δ=inO (f δ) (g δ):=by
  unfold dDIn inO
  cases f δ <;> cases g δ <;> rfl
theorem eo_in {x y : D} : inO (some x) (some y)=inK x y:=(rfl)
noncomputable def y2H (o k v : Option D) : Option D:=match o,k,v with
  | some (.dct ks ds),some dk,some d=>(z7N dk).bind fun k=>if z2Z ds=true∧ks.length < sizeLine then some (.dct (z8j ks k) (z7Y ks ds k d)) else none
  | _,_,_=>none
theorem m_dput {i : Nat} {s : SS} {dk d : D} {ks : List Key} {ds : List D} : (match z7N dk,(some (some (SD.ow (.dct ks ds))) : Option (Option SD)) with
      | some k,some (some (.ow (.dct ks ds)))=>if z2Z ds=true∧ks.length < sizeLine then some (Out.nx ((z0i i s).set i (some (.ow (.dct (z8j ks k) (z7Y ks ds k d)))))) else none
      | _,_=>none)=y0l i (y2H (some (.dct ks ds)) (some dk) (some d)) s:=by
  show _=y0l i ((z7N dk).bind _) s
  cases z7N dk with
  | none=>rfl
  | some k=>
    show (if z2Z ds=true∧ks.length < sizeLine then _ else _)=y0l i (if z2Z ds=true∧ks.length < sizeLine then _ else _) s
    split <;> rfl
theorem ev_dput {i : Nat} {fk fv : DE} {s : SS} : dput i fk fv s=y0l i (y2H (owA i s) (fk (z0q s)) (z9X (fv (z0q s)))) s:=by
  unfold dput owA
  rcases fv (z0q s) with _ | d
  · rcases fk (z0q s) with _ | dk <;> rcases s[i]? with _ | _ | ⟨x | x | ⟨r,x⟩⟩ <;> (first | rfl | (cases x <;> rfl))
  · show (if d.imm=true then _ else _)=y0l i (y2H _ _ (if d.imm=true then some d else none)) s
    split
    · rcases fk (z0q s) with _ | dk
      · rcases s[i]? with _ | _ | ⟨x | x | ⟨r,x⟩⟩ <;> (first | rfl | (cases x <;> rfl))
      · rw [Option.bind_some]
        rcases s[i]? with _ | _ | ⟨x | x | ⟨r,x⟩⟩
        · cases z7N dk <;> rfl
        · cases z7N dk <;> rfl
        · cases z7N dk <;> rfl
        · cases x with
          | dct ks ds=>exact m_dput
          | _=>(cases z7N dk <;> rfl)
        · cases z7N dk <;> rfl
    · rcases fk (z0q s) with _ | dk <;> rcases s[i]? with _ | _ | ⟨x | x | ⟨r,x⟩⟩ <;> (first | rfl | (cases x <;> rfl))
noncomputable def y0U : Option D->Option D->Option (List D)
  | some x,some y=>catLs x y
  | _,_=>none
theorem ev_cat {f g : DE} {δ : DS} : z9V f g δ=y0U (f δ) (g δ):=by
  unfold z9V y0U
  cases f δ <;> cases g δ <;> rfl
theorem z4s {ds es : List D} (h : ds.length + es.length≤1000000) : y0U (some (.lst ds)) (some (.lst es))=some (ds ++ es):=if_pos (z3l h)
noncomputable def z7k (p : List Int) : D:=.dct (p.map Sum.inl) (p.map fun _=>.bl true)
theorem told_in {p : List Int} {x : Int} (h : x ∉ p) : inK (.int x) (z7k p)=some false:=by
  show some (z8A (p.map Sum.inl) (.inl x))=_
  congr 1
  unfold z8A
  rw [List.any_map,List.any_eq_false]
  intro y hy z
  have : (Sum.inl y : Key)=Sum.inl x:=of_decide_eq_true z
  cases this
  exact h hy
theorem z6Z : ∀ p : List Int,z2Z (p.map fun _=>D.bl true)=true
  | []=>rfl
  | _ :: p=>by
    show (true && z2Z (p.map fun _=>D.bl true))=true
    rw [z6Z p]
    rfl
theorem y2l {p : List Int} {x : Int} (h : x ∉ p) (hl : p.length≤1000000) : y2H (some (z7k p)) (some (.int x)) (some (.bl true))=some (z7k (p ++ [x])):=by
  show (if z2Z (p.map fun _=>D.bl true)=true∧(p.map (Sum.inl : Int->Key)).length < sizeLine then _ else _)=_
  rw [if_pos ⟨z6Z p,by rw [List.length_map,PySem.sizeLine_eq]; omega⟩]
  have hh : z8A (p.map Sum.inl) (.inl x)=false:=by
    have:=told_in h
    exact Option.some.inj this
  unfold z8j z7Y z7k
  rw [hh,if_neg Bool.false_ne_true,if_neg Bool.false_ne_true,List.map_append,List.map_append]
  rfl
theorem z8B {m : Nat} {x : Int} (h : x∈z4g m) : 0≤x∧x < (m : Int):=by
  obtain ⟨k,hk,rfl⟩:=List.mem_map.mp h
  have:=List.mem_range.mp hk
  omega
theorem z9r {m : Nat} : (z4g m).Nodup:=by
  unfold z4g
  rw [List.nodup_iff_pairwise_ne,List.pairwise_map]
  refine List.Pairwise.imp ?_ (List.nodup_iff_pairwise_ne.mp List.nodup_range)
  intro a b h z
  exact h (by omega)
end L2
namespace Prg
open PySem L2
theorem ev_isN {f : DE} {δ : DS} : dIsN f δ=(f δ).map isN:=(rfl)
theorem ev_notN {f : DE} {δ : DS} : y1u f δ=(f δ).map fun d=>!isN d:=(rfl)
noncomputable def sm (f : Nat->Nat) : Nat->Nat
  | 0=>0
  | n + 1=>sm f n + f n
end Prg
namespace L2
open PySem
theorem ix0 {c : Nat} {r : List Nat} : ixD (thD (c :: r)) (.int 0)=some (.int (c : Int)):=at_nat (k:=0) (xs:=(c :: r).map nD) (by simp)
theorem z8V : y2w (some [])=some []:=(rfl)
theorem z5a {c : DS->Option Bool} {b : SS->Option Out} {QO : Out->Prop} (I : Nat->SS->Prop) : ∀ {n : Nat} {s : SS},I n s->(∀ n δ,I n δ->∃ k,c (z0q δ)=some k∧(k=false->QO (.nx δ))∧(k=true->∃ n',n=n' + 1∧hol (b δ) fun o=>match o with | .nx δ'=>I n' δ' | .ct δ'=>I n' δ' | .bk δ'=>QO (.nx δ') | .rt d=>QO (.rt d) | .rb d δ'=>QO (.rb d δ') | .ex e δ'=>QO (.ex e δ')))->∀ {f : Nat},n < f->hol (z3Q c b f s) QO
  | n,s,h0,hs,0,hf=>absurd hf (by omega)
  | n,s,h0,hs,f + 1,hf=>by
    obtain ⟨k,ec,h1,h2⟩:=hs n s h0
    unfold z3Q
    rw [ec]
    cases k with
    | false=>exact ⟨_,rfl,h1 rfl⟩
    | true=>
      obtain ⟨n',rfl,o,eb,q⟩:=h2 rfl
      show hol ((b s).bind _) QO
      rw [eb]
      cases o with
      | nx s1=>exact z5a I q hs (by omega)
      | ct s1=>exact z5a I q hs (by omega)
      | bk s1=>exact ⟨_,rfl,q⟩
      | rt d=>exact ⟨_,rfl,q⟩
      | rb d s1=>exact ⟨_,rfl,q⟩
      | ex e s1=>exact ⟨_,rfl,q⟩
theorem y0e {np nl : Nat} {b : SS->Option Out} {ds : List D} {d : D} (hl : ds.length=np) (h : hol (b (ds.map (fun d=>some (.sh d)) ++ List.replicate nl none)) fun o=>o = .rt d) : y4d np nl b ds=some (.val d):=by
  unfold y4d
  rw [if_pos hl,hol_is.mp h]
noncomputable def rsX (c : Nat) (x : Option D) (s : SS) : Option Out:=match x with
  | some _=>some (.ex c s)
  | none=>none
theorem y2z {c : Nat} {f : DE} {s : SS} : z2Q c f s=rsX c (f (z0q s)) s:=by
  unfold z2Q rsX
  generalize f (z0q s)=x
  cases x <;> rfl
theorem y2i {c : Nat} {d : D} {s : SS} : rsX c (some d) s=some (.ex c s):=(rfl)
theorem y2Y {m : List D->Option XO} {fl : List DE} {δ : DS} : z3L m fl δ=(z0n fl δ).bind m:=(rfl)
noncomputable def xaO (i : Nat) (x : Option XO) (s : SS) : Option Out:=match x with
  | some (.val d)=>some (.nx (s.set i (some (.ow d))))
  | some (.exc c)=>some (.ex c s)
  | none=>none
theorem ev_asgX {i : Nat} {F : DS->Option XO} {s : SS} : asgX i F s=xaO i (F (z0q s)) s:=by
  unfold asgX xaO
  generalize F (z0q s)=x
  rcases x with _ | _ | _ <;> rfl
theorem eo_xaV {i : Nat} {d : D} {s : SS} : xaO i (some (.val d)) s=some (.nx (s.set i (some (.ow d)))):=(rfl)
theorem eo_bex {c : Nat} {s : SS} {b : SS->Option Out} : z8p (some (.ex c s)) b=some (.ex c s):=(rfl)
noncomputable def tryX (x : Option Out) (gh : Nat->SS->Option Out) : Option Out:=match x with
  | some (.ex c s)=>gh c s
  | o=>o
theorem ev_try {gb : SS->Option Out} {gh : Nat->SS->Option Out} {s : SS} : tryO gb gh s=tryX (gb s) gh:=by
  unfold tryO tryX
  generalize gb s=x
  rcases x with _ | x
  · rfl
  · cases x <;> rfl
theorem eo_trE {c : Nat} {s : SS} {gh : Nat->SS->Option Out} : tryX (some (.ex c s)) gh=gh c s:=(rfl)
end L2
namespace L2
open PySem
noncomputable def iv1 : Option D->Option (Int × Nat)
  | some (.int j)=>if -(2 ^ 62)≤j∧j < 2 ^ 62 then some (0,j.toNat) else none
  | _=>none
theorem ev_iv1 {f : DE} {δ : DS} : dIv1 f δ=iv1 (f δ):=(rfl)
noncomputable def forIX (i : Nat) (o : Option (Int × Nat)) (b : SS->Option Out) (s : SS) : Option Out:=o.bind fun z=>z3T i b (z3S z.1 z.2) s
theorem ev_forI {i : Nat} {f : DS->Option (Int × Nat)} {b : SS->Option Out} {s : SS} : forI i f b s=forIX i (f (z0q s)) b s:=(rfl)
theorem eo_forI {i : Nat} {lo : Int} {n : Nat} {b : SS->Option Out} {s : SS} : forIX i (some (lo,n)) b s=z3T i b (z3S lo n) s:=(rfl)
theorem eo_iv1 {n : Int} (h : -(2 ^ 62)≤n∧n < 2 ^ 62) : iv1 (some (.int n))=some (0,n.toNat):=if_pos h
theorem iv1_nat {m : Nat} (h : m≤1000000) : iv1 (some (.int (m : Int)))=some (0,m):=by rw [eo_iv1 (by omega)]; rfl
noncomputable def okN (n : Nat) (d : D) : Prop:=(toP d).canLay0=true∧(toP d).depth≤n
noncomputable def oksN (n : Nat) (ds : List D) : Prop:=PyData.canLayAll0 (z8d ds)=true∧PyData.depthAll (z8d ds)≤n
theorem z7L {n : Nat} : ∀ {ds : List D},(∀ d∈ds,okN n d)->oksN n ds
  | [],_=>⟨rfl,Nat.zero_le n⟩
  | d :: ds,h=>by
    have h1:=h d List.mem_cons_self
    have h2:=z7L fun x hx=>h x (List.mem_cons_of_mem _ hx)
    constructor
    · show (PyData.canLay0 (toP d) && PyData.canLayAll0 (z8d ds))=true
      rw [h1.1,h2.1]
      rfl
    · show max (PyData.depth (toP d)) (PyData.depthAll (z8d ds))≤n
      have:=h1.2
      have:=h2.2
      omega
theorem z6o {n : Nat} {ds : List D} (h : ∀ d∈ds,okN n d) : okN (n + 1) (.lst ds):=by
  have:=z7L h
  exact ⟨this.1,Nat.succ_le_succ this.2⟩
theorem y0c {n : Nat} {ds : List D} (h : ∀ d∈ds,okN n d) : okN (n + 1) (.tup ds):=by
  have:=z7L h
  exact ⟨this.1,Nat.succ_le_succ this.2⟩
theorem y1y {α : Type} {n : Nat} {f : α->D} {xs : List α} (h : ∀ x∈xs,okN n (f x)) : okN (n + 1) (.lst (xs.map f)):=z6o fun d hd=>by
  obtain ⟨x,hx,rfl⟩:=List.mem_map.mp hd
  exact h x hx
theorem y2X {α : Type} {n : Nat} {f : α->D} {xs : List α} (h : ∀ x∈xs,okN n (f x)) : okN (n + 1) (.tup (xs.map f)):=y0c fun d hd=>by
  obtain ⟨x,hx,rfl⟩:=List.mem_map.mp hd
  exact h x hx
theorem y1C {n k : Nat} {d : D} (h : okN n d) (hk : n≤k) : okN k d:=⟨h.1,Nat.le_trans h.2 hk⟩
theorem z5b {i : Int} : okN 0 (.int i):=⟨rfl,Nat.le_refl 0⟩
theorem z9c (o : List Int) : okN 1 (.lst (o.map .int)):=y1y fun _ _=>z5b
theorem y1A {n : Nat} {d : D} (h : okN n d) (hn : n≤60) : okP d=true:=by
  unfold okP
  rw [Bool.and_eq_true,decide_eq_true_eq]
  exact ⟨h.1,Nat.le_trans h.2 hn⟩
theorem okN_2 {n : Nat} {x y : D} (h1 : okN n x) (h2 : okN n y) : okN (n + 1) (.lst [x,y]):=z6o fun d hd=>by
  rcases List.mem_cons.mp hd with rfl | hd
  · exact h1
  · rw [List.mem_singleton] at hd
    subst hd
    exact h2
theorem okN_3 {n : Nat} {x y z : D} (h1 : okN n x) (h2 : okN n y) (h3 : okN n z) : okN (n + 1) (.lst [x,y,z]):=z6o fun d hd=>by
  rcases List.mem_cons.mp hd with rfl | hd
  · exact h1
  rcases List.mem_cons.mp hd with rfl | hd
  · exact h2
  · rw [List.mem_singleton] at hd
    subst hd
    exact h3
theorem ea_at0 {x : D} {r : List D} : atI (x :: r) 0=some x:=z2q (j:=0) rfl
theorem ea_at1 {x y : D} {r : List D} : atI (x :: y :: r) 1=some y:=z2q (j:=1) rfl
theorem ea_min {i j : Int} : minF [.int i,.int j]=some (.int (if j < i then j else i)):=(rfl)
noncomputable def inD' (ws : List Int) : D:=.lst (ws.map .int)
noncomputable def y3B (x : Option D) (lo hi : Option (Option Int)) : Option D:=match x,lo,hi with
  | some (.tup ds),some l,some h=>some (.tup (z4q ds l h))
  | _,_,_=>none
theorem ev_cutT {f : DE} {fl fh : DS->Option (Option Int)} {δ : DS} : z9o f fl fh δ=y3B (f δ) (fl δ) (fh δ):=by
  unfold z9o y3B
  rcases f δ with _ | (_ | _ | _ | _ | _ | _ | _ | _) <;> first | rfl | (cases fl δ <;> cases fh δ <;> rfl)
theorem z8n {n d k : Nat} : HT.sIx n d (some (k : Int))=min k n:=by
  show (if (k : Int) < 0 then ((k : Int) + (n : Int)).toNat else min (k : Int).toNat n)=_
  rw [if_neg (by omega),Int.toNat_natCast]
theorem z7b {ds : List D} {k : Nat} (hk : k≤ds.length) : z4q ds none (some (k : Int))=ds.take k:=by
  unfold z4q
  have e1 : HT.sIx ds.length 0 none=0:=rfl
  have e2 : HT.sIx ds.length ds.length (some (k : Int))=k:=by
    show (if (k : Int) < 0 then ((k : Int) + (ds.length : Int)).toNat else min (k : Int).toNat ds.length)=k
    rw [if_neg (by omega)]
    omega
  rw [e1,e2,List.drop_zero,Nat.sub_zero]
theorem z7f {ds : List D} {k : Nat} : z4q ds (some (k : Int)) none=ds.drop k:=by
  unfold z4q
  have e1 : HT.sIx ds.length 0 (some (k : Int))=min k ds.length:=by
    show (if (k : Int) < 0 then ((k : Int) + (ds.length : Int)).toNat else min (k : Int).toNat ds.length)=_
    rw [if_neg (by omega),Int.toNat_natCast]
  have e2 : HT.sIx ds.length ds.length none=ds.length:=rfl
  rw [e1,e2]
  by_cases h : k≤ds.length
  · rw [Nat.min_eq_left h]
    exact List.take_of_length_le (by rw [List.length_drop]; exact Nat.le_refl _)
  · rw [Nat.min_eq_right (by omega),List.drop_of_length_le (Nat.le_refl _),List.drop_of_length_le (by omega),List.take_nil]
theorem y3X {x : Int} {ws : List Int} : y2W (.int x) (inD' ws)=some (ws.contains x):=by
  unfold inD' y2W
  show (if (okP (.int x) && okP (.lst (ws.map .int)))=true then _ else none)=_
  rw [show okP (.lst (ws.map .int))=true from y1A (z9c ws) (by omega),show okP (.int x)=true from rfl]
  show some ((ws.map D.int).any fun y=>PyData.eqv (toP y) (toP (.int x)))=_
  congr 1
  rw [List.any_map,List.contains_eq_any_beq]
  congr 1
  funext y
  show decide (y=x)=(x == y)
  by_cases h : y=x
  · subst h; simp
  · have : ¬ x=y:=fun e=>h e.symm
    simp [h,this]
theorem in_in {x : Int} {ws : List Int} : inD (.int x) (inD' ws)=some (.bl (ws.contains x)):=by
  unfold inD
  rw [y3X]
  rfl
theorem nin_in {x : Int} {ws : List Int} : ninD (.int x) (inD' ws)=some (.bl (!ws.contains x)):=by
  unfold ninD
  rw [y3X]
  rfl
end L2
namespace L2
open PySem
end L2
namespace L2
open PySem
end L2
namespace L2
open PySem
end L2
namespace L2
open PySem
end L2
namespace L2
open PySem
end L2
namespace L2
open PySem
end L2
namespace L2
open PySem
noncomputable def bkD (a : Addr) (m : Int) (es ls : List D) (n : Int) : D:=.obj "Book" a bkKs [.int m,.lst es,.lst ls,.int n]
section
variable {a : Addr} {m n k : Int} {es ls es' : List D} {r : List D} {d d0 o : D} {s : SS} {i j : Nat} {f : DE} {fl : List DE} {args : List D}
theorem sn1 : (("entries" : Str) == "thing_count")=false:=by decide +kernel
theorem sn2 : (("earlier" : Str) == "thing_count")=false:=by decide +kernel
theorem sn3 : (("earlier" : Str) == "entries")=false:=by decide +kernel
theorem sn4 : (("next_number" : Str) == "thing_count")=false:=by decide +kernel
theorem sn5 : (("next_number" : Str) == "entries")=false:=by decide +kernel
theorem sn6 : (("next_number" : Str) == "earlier")=false:=by decide +kernel
theorem se (x : Str) : (x == x)=true:=beq_self_eq_true x
theorem y1t : z5J "thing_count" (bkD a m es ls n)=some (.int m):=by
  show List.lookup ("thing_count" : Str) [(("thing_count" : Str),D.int m),("entries",.lst es),("earlier",.lst ls),("next_number",.int n)]=_
  simp only [List.lookup,se]
theorem z4W : z5J "entries" (bkD a m es ls n)=some (.lst es):=by
  show List.lookup ("entries" : Str) [(("thing_count" : Str),D.int m),("entries",.lst es),("earlier",.lst ls),("next_number",.int n)]=_
  simp only [List.lookup,se,sn1]
theorem y1J : z5J "earlier" (bkD a m es ls n)=some (.lst ls):=by
  show List.lookup ("earlier" : Str) [(("thing_count" : Str),D.int m),("entries",.lst es),("earlier",.lst ls),("next_number",.int n)]=_
  simp only [List.lookup,se,sn2,sn3]
theorem fl_nxt : z5J "next_number" (bkD a m es ls n)=some (.int n):=by
  show List.lookup ("next_number" : Str) [(("thing_count" : Str),D.int m),("entries",.lst es),("earlier",.lst ls),("next_number",.int n)]=_
  simp only [List.lookup,se,sn4,sn5,sn6]
theorem z3P {α : Type} {F : List D->Option α} {x : Str} (h : bkKs.contains x=false) : z1O "Book" x F (bkD a m es ls n :: r)=F (bkD a m es ls n :: r):=by
  show (if (("Book" : Str) == "Book" && !bkKs.contains x)=true then _ else _)=_
  rw [h,se]
  rfl
theorem put_nxt : y3O "next_number" (.int k) bkKs [.int m,.lst es,.lst ls,.int n]=some [.int m,.lst es,.lst ls,.int k]:=by
  show (if ("thing_count" : Str) = "next_number" then _ else Option.map _ (if ("entries" : Str) = "next_number" then _ else Option.map _ (if ("earlier" : Str) = "next_number" then _ else Option.map _ (if ("next_number" : Str) = "next_number" then _ else _))))=_
  rw [if_neg (by decide +kernel),if_neg (by decide +kernel),if_neg (by decide +kernel),if_pos rfl]
  rfl
theorem z2W {d : D} (h : owA i s=some d) : s[i]? = some (some (.ow d)):=by
  unfold owA at h
  rcases e : s[i]? with _ | _ | ⟨x | x | ⟨r,x⟩⟩ <;> rw [e] at h <;> first | (cases h; rfl) | cases h
theorem set_nxt (h : owA i s=some (bkD a m es ls n)) (hf : f (z0q s)=some (.int k)) : z9F i "next_number" f s=some (.nx ((z0i i s).set i (some (.ow (bkD a m es ls k))))):=by
  unfold z9F
  rw [hf,Option.bind_some,if_pos (show (D.int k).imm=true from rfl),z2W h]
  show (if bkKs.length < 1000 then (y3O "next_number" (.int k) bkKs [.int m,.lst es,.lst ls,.int n]).map _ else none)=_
  rw [if_pos (by decide),put_nxt]
  rfl
theorem y1x (h : owA i s=some (bkD a m es ls n)) (hf : f (z0q s)=some (.lst es')) (hl : ls.length≤1000) : y1X i "Book" f s=some (.nx ((z0i i s).set i (some (.ow (bkD a m es' (ls ++ [.lst es]) n))))):=by
  unfold y1X
  rw [hf,Option.bind_some,z2W h]
  show (if ("Book" : Str) = "Book" ∧ bkKs=bkKs∧ls.length < sizeLine then _ else _)=_
  rw [if_pos ⟨rfl,rfl,by rw [PySem.sizeLine_eq]; omega⟩]
  rfl
noncomputable def rkO : Option D->SS->Option Out
  | some d,s=>if d.imm=true then some (.rb d s) else none
  | none,_=>none
theorem z4f : z9Y f s=rkO (f (z0q s)) s:=by
  unfold z9Y rkO
  cases f (z0q s) <;> rfl
theorem eo_rkI : rkO (some (.int k)) s=some (.rb (.int k) s):=(rfl)
theorem z6M {b : Bool} : rkO (some (.bl b)) s=some (.rb (.bl b) s):=(rfl)
theorem hol_new {h : SS->Option Out} {o : Out} (hf : f (z0q s)=some (.int m)) (hh : ∀ a,hol (h (s.set i (some (.ow (bkD a m [] [] 0))))) fun x=>x=o) : hol (y3T i "Book" f h s) fun x=>x=o:=by
  unfold y3T
  rw [hf,Option.bind_some]
  refine ⟨o,newA_eq fun a=>?_,rfl⟩
  obtain ⟨x,e,rfl⟩:=hh a
  exact e
theorem y0b {b : SS->Option Out} : z8p (some (.rb d s)) b=some (.rb d s):=(rfl)
theorem z8c : ∀ o : List Int,(z6h (o.map D.int)).isSome=true
  | []=>rfl
  | n :: r=>by
    show ((z6h (r.map D.int)).map (n :: ·)).isSome=true
    rw [Option.isSome_map]
    exact z8c r
theorem popK_eq {x y : List Int} {p : Nat} (hi : s[i]? = some (some (.ow (.lst (x.map .int))))) (hj : s[j]? = some (some (.ow (.lst (y.map .int))))) (hf : f (z0q s)=some (.int (p : Int))) (hp : p < y.length) (hl : x.length≤1000) (hy : y.length≤1000) :
    z5q i j f s=some (.nx ((z0i i ((z0i j s).set j (some (.ow (.lst ((y.eraseIdx p).map .int)))))).set i (some (.ow (.lst ((x ++ [y[p]]).map .int)))))):=by
  unfold z5q
  rw [hf,Option.bind_some,hi,hj]
  have e1 : (y.map D.int)[((p : Nat) : Int).toNat]? = some (.int y[p]):=by
    rw [Int.toNat_natCast,List.getElem?_map,List.getElem?_eq_getElem hp]
    rfl
  refine (if_pos ⟨by rw [List.length_map,PySem.sizeLine_eq]; omega,z8c x,z8c y,by omega,by rw [List.length_map]; omega,by rw [List.length_map,PySem.sizeLine_eq]; omega⟩).trans ?_
  rw [e1]
  show some (Out.nx (popS i j y[p] (x.map .int) ((y.map D.int).eraseIdx ((p : Nat) : Int).toNat) s))=_
  unfold popS
  rw [Int.toNat_natCast,z6V,List.map_append]
  rfl
end
end L2
namespace L2
open PySem
section
variable {a : Addr} {m n m' n' : Int} {es ls es' ls' : List D} {ds : List D} {d d0 o x y : D} {s s' : SS} {i c np nl : Nat} {f f2 f3 : DE} {fl : List DE} {args : List D} {g h : SS->Option Out} {F : List D->Option BO} {G : DS->Option XO} {δ : DS}
theorem z8M (hl : ds.length + 1=np) (h : hol (g (some (.ow (bkD a m es ls n)) :: ds.map (fun d=>some (.sh d)) ++ List.replicate nl none)) fun o=>∃ r,o = .rb x (some (.ow (bkD a m' es' ls' n')) :: r)) : z4C np nl g (bkD a m es ls n :: ds)=some (.val (bkD a m' es' ls' n') x):=by
  obtain ⟨o,e,r,rfl⟩:=h
  show (if ds.length + 1=np then _ else _)=_
  rw [if_pos hl,e]
  show (if a=a then some (bkD a m' es' ls' n',x) else none).map _=_
  rw [if_pos rfl]
  rfl
theorem z5Z (hl : ds.length + 1=np) (h : hol (g (some (.ow (bkD a m es ls n)) :: ds.map (fun d=>some (.sh d)) ++ List.replicate nl none)) fun o=>∃ r,o = .nx (some (.ow (bkD a m' es' ls' n')) :: r)) : z4C np nl g (bkD a m es ls n :: ds)=some (.val (bkD a m' es' ls' n') .non):=by
  obtain ⟨o,e,r,rfl⟩:=h
  show (if ds.length + 1=np then _ else _)=_
  rw [if_pos hl,e]
  show (if a=a then some (bkD a m' es' ls' n',D.non) else none).map _=_
  rw [if_pos rfl]
  rfl
theorem y3E (hl : ds.length + 1=np) (h : hol (g (some (.ow (bkD a m es ls n)) :: ds.map (fun d=>some (.sh d)) ++ List.replicate nl none)) fun o=>∃ r,o = .ex c (some (.ow (bkD a m' es' ls' n')) :: r)) : z4C np nl g (bkD a m es ls n :: ds)=some (.exc c (bkD a m' es' ls' n')):=by
  obtain ⟨o,e,r,rfl⟩:=h
  show (if ds.length + 1=np then _ else _)=_
  rw [if_pos hl,e]
  show (if a=a then some (bkD a m' es' ls' n',D.non) else none).map _=_
  rw [if_pos rfl]
  rfl
theorem z8y : z9W i s=z0q ((z0i i s).set i none):=(rfl)
theorem z7z (h : owA i s=some d0) (ha : z0n fl (z9W i s)=some args) (hF : F (d0 :: args)=some (.val o d)) : cBX i F fl s=some (.val d ((z0i i s).set i (some (.ow o)))):=by
  unfold cBX
  rw [ha,Option.bind_some,z2W h]
  show (F (d0 :: args)).map _=_
  rw [hF]
  rfl
theorem cBX_ex (h : owA i s=some d0) (ha : z0n fl (z9W i s)=some args) (hF : F (d0 :: args)=some (.exc c o)) : cBX i F fl s=some (.exc c ((z0i i s).set i (some (.ow o)))):=by
  unfold cBX
  rw [ha,Option.bind_some,z2W h]
  show (F (d0 :: args)).map _=_
  rw [hF]
  rfl
theorem z6q (h : cBX i F fl s=some (.val d s')) : z3q i F fl s=some (.nx s'):=by unfold z3q; rw [h]; rfl
theorem y2p (h : cBX i F fl s=some (.exc c s')) : z3q i F fl s=some (.ex c s'):=by unfold z3q; rw [h]; rfl
noncomputable def tuX (x y : Option D) (z : Option XO) : Option XO:=x.bind fun x=>y.bind fun y=>if x.imm=true∧y.imm=true then z.bind fun o=>match o with
  | .val d=>if d.imm=true then some (.val (.tup [x,y,d])) else none
  | .exc c=>some (.exc c)
  else none
theorem ev_tup2 : y3f f f2 G δ=tuX (f δ) (f2 δ) (G δ):=(rfl)
theorem eo_tuV (i1 : x.imm=true) (i2 : y.imm=true) (i3 : d.imm=true) : tuX (some x) (some y) (some (.val d))=some (.val (.tup [x,y,d])):=by
  show (if x.imm=true∧y.imm=true then _ else _)=_
  rw [if_pos ⟨i1,i2⟩]
  exact if_pos i3
end
end L2
namespace L2
open PySem
section
variable {a : Addr} {m n m' n' : Int} {es ls es' ls' xs ys : List D} {d d0 dw o x y : D} {s s' s2 : SS} {i j nl : Nat} {b c : Bool} {f : DE} {g h : SS->Option Out} {F : F3} {τ υ : SS->Option (Bool × SS)}
theorem y2S (e : τ s=some (false,s')) : ifT τ g h s=h s':=by
  unfold ifT
  rw [e]
  show (if false=true then g s' else h s')=_
  rw [if_neg Bool.false_ne_true]
theorem z6r (e : τ s=some (b,s')) : z4v τ s=some (!b,s'):=by
  unfold z4v
  rw [e]
  rfl
theorem y4c (e : τ s=some (false,s')) : y4i τ υ s=υ s':=by
  unfold y4i
  rw [e]
  show (if false=true then some (true,s') else υ s')=_
  rw [if_neg Bool.false_ne_true]
theorem tsD_e {t : DS->Option Bool} (e : t (z0q s)=some b) : tsD t s=some (b,s):=by
  unfold tsD
  rw [e]
  rfl
theorem y0h (hi : owA i s=some d0) (hj : owA j s=some (.lst xs)) (hf : f (z0q s)=some dw) (im : dw.imm=true) (hF : F d0 xs dw=some (o,ys,d)) : cB2 i j F f s=some (d,((z0i i (z0i j s)).set i (some (.ow o))).set j (some (.ow (.lst ys)))):=by
  unfold cB2
  rw [hf,Option.bind_some,if_pos im,z2W hi,z2W hj]
  show (F d0 xs dw).map _=_
  rw [hF]
  rfl
theorem y1r (e : cB2 i j F f s=some (.bl b,s')) : y1W i j F f s=some (b,s'):=by
  unfold y1W
  rw [e]
  rfl
theorem tsBX_e {F : List D->Option BO} {fl : List DE} (e : cBX i F fl s=some (.val (.bl b) s')) : tsBX i F fl s=some (b,s'):=by
  unfold tsBX
  rw [e]
  rfl
theorem runB2_t (h : ∀ a0,hol (g ([some (.ow (bkD a m es ls n)),some (.ow (.cel a0 xs)),some (.sh dw)] ++ List.replicate nl none)) fun o=>∃ r,o = .rb d (some (.ow (bkD a m' es' ls' n')) :: some (.ow (.cel a0 ys)) :: r)) (hi : d.imm=true) : z7S true nl g (bkD a m es ls n) xs dw=some (bkD a m' es' ls' n',ys,d):=by
  unfold z7S
  refine z9d fun a0=>?_
  obtain ⟨o,e,r,rfl⟩:=h a0
  show (g ([some (.ow (bkD a m es ls n)),some (.ow (.cel a0 xs)),some (.sh dw)] ++ List.replicate nl none)).bind _=_
  rw [e,Option.bind_some]
  show (if a0=a0∧d.imm=true then ((if a=a then some (bkD a m' es' ls' n',d) else none).map _) else none)=_
  rw [if_pos ⟨rfl,hi⟩,if_pos rfl]
  rfl
theorem z7M (h : ∀ a0,hol (g ([some (.ow (bkD a m es ls n)),some (.sh dw),some (.ow (.cel a0 xs))] ++ List.replicate nl none)) fun o=>∃ x r,o = .rb d (some (.ow (bkD a m' es' ls' n')) :: x :: some (.ow (.cel a0 ys)) :: r)) (hi : d.imm=true) : z7S false nl g (bkD a m es ls n) xs dw=some (bkD a m' es' ls' n',ys,d):=by
  unfold z7S
  refine z9d fun a0=>?_
  obtain ⟨o,e,x,r,rfl⟩:=h a0
  show (g ([some (.ow (bkD a m es ls n)),some (.sh dw),some (.ow (.cel a0 xs))] ++ List.replicate nl none)).bind _=_
  rw [e,Option.bind_some]
  show (if a0=a0∧d.imm=true then ((if a=a then some (bkD a m' es' ls' n',d) else none).map _) else none)=_
  rw [if_pos ⟨rfl,hi⟩,if_pos rfl]
  rfl
theorem y3Y {a0 : Addr} : unC (.cel a0 xs)=some (.lst xs):=(rfl)
theorem appC_eq {a0 : Addr} (hi : owA i s=some (.cel a0 xs)) (hf : f (z0q s)=some d) (im : d.imm=true) (hl : xs.length≤1000) : appC i f s=some (.nx ((z0i i s).set i (some (.ow (.cel a0 (xs ++ [d])))))):=by
  unfold appC
  rw [hf,Option.bind_some,if_pos im,z2W hi]
  exact if_pos (by rw [PySem.sizeLine_eq]; omega)
theorem asgBX_v {F : List D->Option BO} {fl : List DE} (h : cBX i F fl s=some (.val d s')) (hi : d.imm=true) : y0o j i F fl s=some (.nx (s'.set j (some (.sh d)))):=by
  unfold y0o
  rw [h]
  exact if_pos hi
theorem nePop_f {a0 : Addr} (hi : owA i s=some (.cel a0 (xs ++ [y]))) (hf : f (z9W i s)=some x) (he : neD x y=some (.bl b)) : z5c f i s=some (b,(z0i i s).set i (some (.ow (.cel a0 xs)))):=by
  unfold z5c
  rw [hf,Option.bind_some,z2W hi]
  show (match (xs ++ [y]).getLast? with | some y=>_ | none=>none)=_
  rw [List.getLast?_concat]
  show (neD x y).bind _=_
  rw [he,Option.bind_some,List.dropLast_concat]
end
end L2
set_option maxHeartbeats 4000000
namespace Prg
open PySem PySem.Spec PyProof.Rows L2
noncomputable def top (i : Nat) : Stmt:=PySem.Challenge.pw_askorder_k83_whole_taken_back.main.body.getD i (.Pass ⟨0,0,0,0⟩)
noncomputable abbrev z2b : Stmt:=top 9
noncomputable abbrev z9P : List Str:=["value", "many"]
noncomputable abbrev z4a : List Str:=["value", "many"]
noncomputable abbrev z0B : Stmt:=top 10
noncomputable abbrev z3X : List Str:=["order", "many", "told", "thing"]
noncomputable abbrev z1L : List Str:=["order", "many"]
noncomputable abbrev z0N : Stmt:=top 11
noncomputable abbrev z5y : List Str:=["order", "thing", "place"]
noncomputable abbrev z1N : List Str:=["order", "thing"]
noncomputable abbrev z1s : Stmt:=top 16
noncomputable abbrev z6W : List Str:=["cell", "many", "left", "order"]
noncomputable abbrev z3b : List Str:=["cell", "many"]
noncomputable abbrev z0T : Stmt:=top 17
noncomputable abbrev z6j : List Str:=["order", "thing", "at", "row"]
noncomputable abbrev z2J : List Str:=["order", "thing"]
noncomputable abbrev z1p : Stmt:=top 18
noncomputable abbrev z6R : List Str:=["kept", "number", "many", "cell", "rest", "what", "ballot", "at", "one", "thing", "order"]
noncomputable abbrev z2V : List Str:=["kept", "number", "many", "cell"]
noncomputable abbrev z1n : Stmt:=top 19
noncomputable abbrev z6N : List Str:=["book"]
noncomputable abbrev z2X : List Str:=["book"]
noncomputable abbrev z1H : Stmt:=top 20
noncomputable abbrev z8m : List Str:=["book", "ballots", "numbers"]
noncomputable abbrev z3w : List Str:=["book"]
noncomputable abbrev z1F : Stmt:=top 21
noncomputable abbrev z7K : List Str:=["book", "deed", "given", "number"]
noncomputable abbrev z3u : List Str:=["book", "deed", "given"]
noncomputable abbrev z1K : Stmt:=top 22
noncomputable abbrev z8o : List Str:=["book", "older", "many", "k"]
noncomputable abbrev z3B : List Str:=["book", "older", "many"]
noncomputable abbrev z0E : Stmt:=top 23
noncomputable abbrev z4z : List Str:=["book"]
noncomputable abbrev z1h : List Str:=["book"]
noncomputable abbrev z6x : Stmt:=top 24
noncomputable abbrev N_law : List Str:=["script", "many", "book", "given", "older", "cell", "told"]
noncomputable abbrev P_law : List Str:=["script"]
noncomputable abbrev z0J : Stmt:=z2c (top 14) 0
noncomputable abbrev z5o : List Str:=["self", "many"]
noncomputable abbrev z1w : List Str:=["self", "many"]
noncomputable abbrev z1J : Stmt:=z2c (top 14) 1
noncomputable abbrev z8r : List Str:=["self"]
noncomputable abbrev z2M : List Str:=["self"]
noncomputable abbrev z0U : Stmt:=z2c (top 14) 2
noncomputable abbrev z6e : List Str:=["self", "voices", "order", "number"]
noncomputable abbrev z1Y : List Str:=["self", "voices", "order"]
noncomputable abbrev z1a : Stmt:=z2c (top 14) 3
noncomputable abbrev z6y : List Str:=["self", "number", "place"]
noncomputable abbrev z2a : List Str:=["self", "number"]
noncomputable abbrev z0V : Stmt:=z2c (top 14) 4
noncomputable abbrev z6g : List Str:=["self", "number", "thing", "place", "entry", "changed"]
noncomputable abbrev z1V : List Str:=["self", "number", "thing"]
noncomputable abbrev z0D : Stmt:=z2c (top 14) 5
noncomputable abbrev z4y : List Str:=["self"]
noncomputable abbrev z1l : List Str:=["self"]
noncomputable abbrev z0C : Stmt:=z2c (top 14) 6
noncomputable abbrev z4A : List Str:=["self", "entries"]
noncomputable abbrev z1i : List Str:=["self", "entries"]
noncomputable abbrev z0L : Stmt:=z2c (top 14) 7
noncomputable abbrev z4M : List Str:=["self", "number", "numbers"]
noncomputable abbrev z1u : List Str:=["self", "number"]
noncomputable abbrev z0O : Stmt:=z2c (top 14) 8
noncomputable abbrev z5A : List Str:=["self"]
noncomputable abbrev z1M : List Str:=["self"]
noncomputable abbrev z1m : Stmt:=z2c (top 14) 9
noncomputable abbrev z7m : List Str:=["self"]
noncomputable abbrev z2n : List Str:=["self"]
noncomputable abbrev z1I : Stmt:=z2c (top 14) 11
noncomputable abbrev z7O : List Str:=["self"]
noncomputable abbrev z2N : List Str:=["self"]
theorem nd0 : (["self", "entry"] : List Str).Nodup:=by decide +kernel
theorem nd1 : (["book", "ballots", "numbers", "k"] : List Str).Nodup:=by decide +kernel
noncomputable def z4b : SS->Option Out:=(z4H (y1Z (dIs "int" (z0f 0)) (y1Z (d1 uNot (dIs "bool" (z0f 0))) (z4p leI ltI (dC (.int 0)) (z0f 0) (z0f 1)))))
noncomputable def z1r : List D->Option D:=z5D 2 0 z4b
noncomputable def z0Z : SS->Option Out:=(z1c (ifO (z0R (d2 neD (z0r z3F [(z0f 0)]) (z0f 1))) (z4H (dC (.bl false))) z1A)
  (z1c (z6H 2 (dC (.dct [] [])))
  (z1c (forO 3 (y3R (z0f 0)) (z1c (ifO (dOrT (z5X (z4t (z0r z1r [(z0f 3),(z0f 1)]))) (dDIn (z0f 3) (z0f 2))) (z4H (dC (.bl false))) z1A)
  (dput 2 (z0f 3) (dC (.bl true)))))
  (z4H (dC (.bl true))))))
noncomputable def z0I : List D->Option D:=z5D 2 2 z0Z
noncomputable def z2t : SS->Option Out:=(z1c (z6t 2 (d2 tixF (z0f 0) (z0f 1)))
  (z1c (ifO (z0R (d2 eqD (z0f 2) (dC (.int 0)))) (z2Q 5 (dC (.str "the thing is the best one of the ballot already"))) z1A)
  (z4H (d2 catT (d2 catT (z9o (z0f 0) z1R (z2S (d2 y3L (z0f 2) (dC (.int 1))))) (mkT (z0n [(z0f 1),(d2 ixD (z0f 0) (d2 y3L (z0f 2) (dC (.int 1))))]))) (z9o (z0f 0) (z2S (d2 z5T (z0f 2) (dC (.int 1)))) z1R)))))
noncomputable def z1f : List D->Option XO:=y4d 2 1 z2t
noncomputable def z3a : SS->Option Out:=(z1c (z6H 2 (z1b (z5P (z7r (z0f 1)))))
  (z1c (z6H 3 (z1b (z0n [])))
  (z1c (z3Q (z0R (d2 gtI (z0r z3F [(z0f 2)]) (dC (.int 0)))) (z1c (z5q 3 2 (d2 z4x (z0f 0) (z0r z3F [(z0f 2)])))
  (z6t 0 (d2 z7G (z0f 0) (d2 z5T (z0r z3F [(z0f 2)]) (dC (.int 1)))))) 100)
  (z4H (z0r y2q [(z0f 3)])))))
noncomputable def z1Q : List D->Option D:=z5D 2 2 z3a
noncomputable def z1W : SS->Option Out:=(z1c (z6t 2 (d2 tixF (z0f 0) (z0f 1)))
  (z1c (ifO (z0R (d2 eqD (z0f 2) (dC (.int 0)))) (z4H (dC .non)) z1A)
  (z1c (z6H 3 (z1b (z5F y0W [(z0f 0)])))
  (z1c (st0 3 (z0f 2) (d2 ixD (z0f 3) (d2 y3L (z0f 2) (dC (.int 1)))))
  (z1c (st0 3 (d2 y3L (z0f 2) (dC (.int 1))) (z0f 1))
  (z4H (z0r y2q [(z0f 3)])))))))
noncomputable def z1x : List D->Option D:=z5D 2 2 z1W
noncomputable def z1t : SS->Option Out:=(z1c (z6t 4 (d2 z4x (d2 z7G (z0f 3) (dC (.int 8))) (d2 y2D (dC (.int 10)) (dC (.int 40)))))
  (z1c (z6t 5 (d2 z4x (z0f 3) (dC (.int 8))))
  (z1c (ifO (dOrT (z0R (d2 ltI (z0f 5) (dC (.int 4)))) (z0R (d2 eqD (z0r z3F [(z0f 0)]) (dC (.int 0))))) (z1c (z6t 6 (mkT (z0n [(z0f 1),(d2 z5T (dC (.int 1)) (d2 z4x (z0f 4) (d2 y2D (dC (.int 10)) (dC (.int 30))))),(z0r z1Q [(d2 z7G (z0f 4) (dC (.int 7))),(z0f 2)])])))
  (z9U (mkL (z0n [(z7u (mkT (z0n [(dC (.str "put")),(d2 ixD (z0f 6) (dC (.int 1))),(d2 ixD (z0f 6) (dC (.int 2)))]))),(z1b (z9V (z0f 0) (mkL (z0n [(z0f 6)]))))])))) z1A)
  (z1c (z6t 7 (d2 z4x (z0f 4) (z0r z3F [(z0f 0)])))
  (z1c (z6t 8 (d2 ixD (z0f 0) (z0f 7)))
  (z1c (ifO (z0R (d2 eqD (z0f 5) (dC (.int 4)))) (z9U (mkL (z0n [(z7u (mkT (z0n [(dC (.str "out")),(d2 ixD (z0f 8) (dC (.int 0)))]))),(z1b (z9V (mkL (z8w (z0f 0) z1R (z2S (z0f 7)))) (mkL (z8w (z0f 0) (z2S (d2 z5T (z0f 7) (dC (.int 1)))) z1R))))]))) z1A)
  (z1c (z6t 9 (d2 z4x (d2 z7G (z0f 4) (dC (.int 100))) (z0f 2)))
  (z1c (z6H 10 (z0r z1x [(d2 ixD (z0f 8) (dC (.int 2))),(z0f 9)]))
  (z1c (ifO (dIsN (z0f 10)) (z9U (z1b (z0n [(mkT (z0n [(dC (.str "raise")),(d2 ixD (z0f 8) (dC (.int 0))),(z0f 9)])),(dC .non)]))) z1A)
  (z9U (mkL (z0n [(z7u (mkT (z0n [(dC (.str "raise")),(d2 ixD (z0f 8) (dC (.int 0))),(z0f 9)]))),(z1b (z9V (mkL (z9V (mkL (z8w (z0f 0) z1R (z2S (z0f 7)))) (mkL (z0n [(mkT (z0n [(d2 ixD (z0f 8) (dC (.int 0))),(d2 ixD (z0f 8) (dC (.int 1))),(z0f 10)]))])))) (mkL (z8w (z0f 0) (z2S (d2 z5T (z0f 7) (dC (.int 1)))) z1R))))]))))))))))))
noncomputable def z1q : List D->Option D:=z5D 4 7 z1t
noncomputable def z3v : SS->Option Out:=(z4H (d1 (z5J "thing_count") (z0f 0)))
noncomputable def z2e : List D->Option D:=z5D 1 0 z3v
noncomputable def z1k : SS->Option Out:=(z1c (ifO (z5X (z4t (d1 (z5J "earlier") (z0f 0)))) (z2Q 5 (dC (.str "no change is left that could be taken back"))) z1A)
  (y2f 0))
noncomputable def z0p : List D->Option BO:=z4C 1 0 z1k
noncomputable def z1U : SS->Option Out:=(z1c (tryO (z3q 0 (z1O "Book" "take_back" z0p) []) (fun c=>match c with | 0=>fun _=>none | 1=>fun _=>none | 2=>fun _=>none | 3=>fun _=>none | 4=>fun _=>none | 5=>(z9Y (dC (.bl true))) | 6=>fun _=>none | _ + 7=>fun _=>none))
  (z9Y (dC (.bl false))))
noncomputable def z0z : List D->Option BO:=z4C 1 0 z1U
noncomputable def z2O : SS->Option Out:=(z1c (ifO (z5X (z4t (z0r z0I [(z0f 2),(d1 (z5J "thing_count") (z0f 0))]))) (z2Q 1 (dC (.str "the order does not tell each thing once and nothing else"))) z1A)
  (z1c (ifO (z5X (z0R (z4p leI leI (dC (.int 1)) (z0f 1) (d2 y2D (dC (.int 10)) (dC (.int 30)))))) (z2Q 2 (dC (.str "the voices are not from 1 to 10 ** 30"))) z1A)
  (z1c (ifO (z0R (d2 geI (z0r z3F [(d1 (z5J "entries") (z0f 0))]) (dC (.int 99)))) (z2Q 4 (dC (.str "99 ballots stand"))) z1A)
  (z1c (z6t 3 (d1 (z5J "next_number") (z0f 0)))
  (z1c (z9F 0 "next_number" (d2 z5T (z0f 3) (dC (.int 1))))
  (z1c (y1X 0 "Book" (z1b (z9V (d1 (z5J "entries") (z0f 0)) (mkL (z0n [(mkT (z0n [(z0f 3),(z0f 1),(z0r y2q [(z0f 2)])]))])))))
  (z9Y (z0f 3))))))))
noncomputable def z0S : List D->Option BO:=z4C 3 1 z2O
noncomputable def z2s : SS->Option Out:=(z9U (z1b (z6P (y3R (d1 (z5J "entries") (z0f 0))) y3N (d2 ixD (z0f 1) (dC (.int 0))))))
noncomputable def z0j : List D->Option D:=z5D 1 0 z2s
noncomputable def z2i : SS->Option Out:=(z1c (z6H 2 (z0r (z1O "Book" "numbers" z0j) [(z0f 0)]))
  (z1c (ifO (z0R (d2 ninD (z0f 1) (z0f 2))) (z2Q 3 (dC (.str "no ballot that stands has this number"))) z1A)
  (z4H (d2 lixF (z0f 2) (z0f 1)))))
noncomputable def z0v : List D->Option XO:=y4d 2 1 z2i
noncomputable def z2G : SS->Option Out:=(z1c (asgX 2 (z3L (z1O "Book" "place_of" z0v) [(z0f 0),(z0f 1)]))
  (y1X 0 "Book" (z1b (z9V (mkL (z8w (d1 (z5J "entries") (z0f 0)) z1R (z2S (z0f 2)))) (mkL (z8w (d1 (z5J "entries") (z0f 0)) (z2S (d2 z5T (z0f 2) (dC (.int 1)))) z1R))))))
noncomputable def z0W : List D->Option BO:=z4C 2 1 z2G
noncomputable def z2I : SS->Option Out:=(z1c (asgX 3 (z3L (z1O "Book" "place_of" z0v) [(z0f 0),(z0f 1)]))
  (z1c (ifO (z5X (z4t (z0r z1r [(z0f 2),(d1 (z5J "thing_count") (z0f 0))]))) (z2Q 2 (dC (.str "there is no such thing"))) z1A)
  (z1c (z6t 4 (d2 ixD (d1 (z5J "entries") (z0f 0)) (z0f 3)))
  (z1c (asgX 5 (y3f (z0f 1) (d2 ixD (z0f 4) (dC (.int 1))) (z3L z1f [(d2 ixD (z0f 4) (dC (.int 2))),(z0f 2)])))
  (y1X 0 "Book" (z1b (z9V (mkL (z9V (mkL (z8w (d1 (z5J "entries") (z0f 0)) z1R (z2S (z0f 3)))) (mkL (z0n [(z0f 5)])))) (mkL (z8w (d1 (z5J "entries") (z0f 0)) (z2S (d2 z5T (z0f 3) (dC (.int 1)))) z1R)))))))))
noncomputable def z0Y : List D->Option BO:=z4C 3 3 z2I
noncomputable def z2g : SS->Option Out:=(z1c (ifO (z0R (d2 eqD (d2 ixD (z0f 1) (dC (.int 0))) (dC (.str "put")))) (z1c (y0o 3 0 (z1O "Book" "put_in" z0S) [(d2 ixD (z0f 1) (dC (.int 1))),(d2 ixD (z0f 1) (dC (.int 2)))])
  (z1c (ifO (z0R (d2 inD (z0f 3) (d1 unC (z0f 2)))) (z9Y (dC (.bl false))) z1A)
  (appC 2 (z0f 3)))) (ifO (z0R (d2 eqD (d2 ixD (z0f 1) (dC (.int 0))) (dC (.str "out")))) (z3q 0 (z1O "Book" "go_out" z0W) [(d2 ixD (z0f 1) (dC (.int 1)))]) (z3q 0 (z1O "Book" "raised" z0Y) [(d2 ixD (z0f 1) (dC (.int 1))),(d2 ixD (z0f 1) (dC (.int 2)))])))
  (z9Y (dC (.bl true))))
noncomputable def z0G : F3:=z7S false 1 z2g
noncomputable def z3d : SS->Option Out:=(z9U (z1b (z6P (y3R (d1 (z5J "entries") (z0f 0))) y3N (mkT (z0n [(d2 ixD (z0f 1) (dC (.int 1))),(d2 ixD (z0f 1) (dC (.int 2)))])))))
noncomputable def z0t : List D->Option D:=z5D 1 0 z3d
noncomputable def z3t : SS->Option Out:=(z1c (z6H 1 (z0r (z1O "Book" "votes" z0t) [(z0f 0)]))
  (z1c (z6H 2 (z0r (z1O "Book" "numbers" z0j) [(z0f 0)]))
  (z9U (z1b (z6P (z7r (z0r z3F [(z0f 2)])) y3N (mkT (z0n [(d2 ixD (z0f 2) (z0f 3)),(d2 ixD (d2 ixD (z0f 1) (z0f 3)) (dC (.int 0))),(d2 ixD (d2 ixD (z0f 1) (z0f 3)) (dC (.int 1)))])))))))
noncomputable def z1D : List D->Option D:=z5D 1 2 z3t
noncomputable def z3x : SS->Option Out:=(z4H (z0r z3F [(d1 (z5J "earlier") (z0f 0))]))
noncomputable def z0x : List D->Option D:=z5D 1 0 z3x
noncomputable def z3e : SS->Option Out:=(z9U (mkL (z0n [(z0r (z1O "Book" "numbers" z0j) [(z0f 0)]),(z0r (z1O "Book" "votes" z0t) [(z0f 0)]),(mkL (z0n [(z0r (z1O "Book" "many" z2e) [(z0f 0)]),(z0r (z1O "Book" "left" z0x) [(z0f 0)])]))])))
noncomputable def z0F : List D->Option D:=z5D 1 0 z3e
noncomputable def z3E : SS->Option Out:=(z1c (forI 3 (dIv1 (z0r minF [(z0f 2),(z0r z3F [(d1 unC (z0f 1))])])) (z1c (z3q 0 (z1O "Book" "take_back" z0p) [])
  (ifT (z5c (z0r z0F [(z0f 0)]) 1) (z9Y (dC (.bl false))) z1A)))
  (z9Y (dC (.bl true))))
noncomputable def z0H : F3:=z7S true 1 z3E
noncomputable def g_law : SS->Option Out:=(z1c (z6t 1 (dC (.int 1)))
  (z1c (ifO (z0R (d2 gtI (z0r z3F [(z0f 0)]) (dC (.int 0)))) (z6t 1 (d2 z5T (dC (.int 1)) (d2 z4x (d2 ixD (z0f 0) (dC (.int 0))) (dC (.int 8))))) z1A)
  (y3T 2 "Book" (z0f 1)
  (z1c (z6H 3 (z1b (z0n [])))
  (z1c (z6H 4 (z1b (z0n [])))
  (z1c (forO 5 (y3R (mkL (z8w (z0f 0) (z2S (dC (.int 1))) (z2S (dC (.int 61)))))) (ifO (z0R (d2 eqD (d2 z4x (z0f 5) (dC (.int 4))) (dC (.int 3)))) (ifT (z4v (y1W 2 4 z0H (d2 z5T (dC (.int 1)) (d2 z4x (d2 z7G (z0f 5) (dC (.int 4))) (dC (.int 3)))))) (z4H (dC (.bl false))) z1A) (z1c (z6H 6 (z0r z1q [(z0r z1D [(z0f 2)]),(dC (.int 0)),(z0f 1),(d2 z7G (z0f 5) (dC (.int 4)))]))
  (ifO (y1u (d2 ixD (z0f 6) (dC (.int 1)))) (z1c (z9E 4 (z0r z0F [(z0f 2)]))
  (ifT (y4i (z4v (y1W 2 3 z0G (d2 ixD (z0f 6) (dC (.int 0))))) (tsD (z0R (d2 neD (z0r (z1O "Book" "left" z0x) [(z0f 2)]) (z0r z3F [(z0f 4)]))))) (z4H (dC (.bl false))) z1A)) z1A))))
  (z1c (ifT (y4i (z4v (y1W 2 4 z0H (z0r z3F [(z0f 4)]))) (z4v (tsBX 2 z0z []))) (z4H (dC (.bl false))) z1A)
  (z4H (y1Z (d2 eqD (z0r (z1O "Book" "numbers" z0j) [(z0f 2)]) (mkL (z0n []))) (y1Z (d2 eqD (z0r (z1O "Book" "votes" z0t) [(z0f 2)]) (mkL (z0n []))) (d2 eqD (z0r (z1O "Book" "left" z0x) [(z0f 2)]) (dC (.int 0)))))))))))))
noncomputable def z9z : List D->Option D:=z5D 1 6 g_law
structure Txt (mg : Str->Option Value) : Prop where
  b_int : mg "int" = none
  b_isinstance : mg "isinstance" = none
  b_bool : mg "bool" = none
  b_len : mg "len" = none
  b_tuple : mg "tuple" = none
  b_list : mg "list" = none
  b_range : mg "range" = none
  b_min : mg "min" = none
  g_MOST_BALLOTS : ∃ t,mg "MOST_BALLOTS" = some (.int 99 t)
structure Cls (K : PySem.W.Frag) (mg : Str->Option Value) (base : Heap) (cl : Nat->Value) : Prop where
  o_BadBallot : ∃ C,cl 1 = .ref C∧OwnCls "BadBallot" C y0s "ValueError.__new__" mg base∧PySem.W.nsIn K mainGlobals "BadBallot" = some (some (.ref C))∧True
  o_BadNumber : ∃ C,cl 2 = .ref C∧OwnCls "BadNumber" C y0s "ValueError.__new__" mg base∧PySem.W.nsIn K mainGlobals "BadNumber" = some (some (.ref C))∧True
  o_Unknown : ∃ C,cl 3 = .ref C∧OwnCls "Unknown" C y0s "ValueError.__new__" mg base∧PySem.W.nsIn K mainGlobals "Unknown" = some (some (.ref C))∧True
  o_TooMany : ∃ C,cl 4 = .ref C∧OwnCls "TooMany" C y0s "ValueError.__new__" mg base∧PySem.W.nsIn K mainGlobals "TooMany" = some (some (.ref C))∧True
  o_NothingLeft : ∃ C,cl 5 = .ref C∧OwnCls "NothingLeft" C y0s "ValueError.__new__" mg base∧PySem.W.nsIn K mainGlobals "NothingLeft" = some (some (.ref C))∧True
  e_NothingLeft_NothingLeft : ∀ C,cl 5 = .ref C->PySem.W.exmOne K (cl 5) (.ref C)=some true
section
variable {P : Program} {w : World} {K : PySem.W.Frag} {mg : Str->Option Value} {base : Heap} {cl : Nat->Value}
theorem z7T : FnScope z9P z4a (z0a z2b):=⟨rfl,rfl,rfl,by decide +kernel,rfl,by decide +kernel,by decide +kernel⟩
theorem z7H {f : Addr} {fd : FuncData} (F : Fun K "is_thing" "is_thing" z2b f fd) (hm : mg "is_thing" = some (.ref f)) (hb : Binds K fd z4a []) (T : Txt mg) : DefOk P w K mg base 1 "is_thing" (spN K z1r):=
  defN (k:=0) (g:=z4b) F hm hb z7T rfl rfl fun cdv A outer s H E hr=>
    (z0m (z2d (z8K (y2B rfl T.b_int rfl T.b_isinstance (z0l 0 (pv 0))) (z8K (pd_not (y0y rfl T.b_bool rfl T.b_isinstance (z0l 0 (pv 0)))) (y3Z (y2P op_le op_lt z2H z2H z0h (z0l 0 (pv 0)) (z0l 1 (pv 1))))))))
theorem sc_tells_each_once : FnScope z3X z1L (z0a z0B):=⟨rfl,rfl,rfl,by decide +kernel,rfl,by decide +kernel,by decide +kernel⟩
theorem z3G {f : Addr} {fd : FuncData} (F : Fun K "tells_each_once" "tells_each_once" z0B f fd) (hm : mg "tells_each_once" = some (.ref f)) (hb : Binds K fd z1L []) (T : Txt mg) (G_is_thing : DefOk P w K mg base 1 "is_thing" (spN K z1r)) : DefOk P w K mg base 2 "tells_each_once" (spN K z0I):=
  defN (k:=1) (g:=z0Z) F hm hb sc_tells_each_once rfl rfl fun cdv A outer s H E hr=>
    (z0e (z5R (pt_ne hr.units (z2x rfl T.b_len (z0l 0 (pv 0))) (z0l 1 (pv 1))) (z0m (z2d z3U)) z1o)
      (z0e (z2R (z1B (i:=2) sc_tells_each_once.nd rfl (Or.inl rfl) pn_dnew))
      (z0e (s_for PassesOwn.never rfl (z6p (z0l 0 (pv 0))) (z4m (i:=3) sc_tells_each_once.nd rfl (Or.inl rfl)) (z0e (z5R (PW.pt (y4k (z4Q (z3I (y2a (z1X G_is_thing (hr.mono (by decide)) rfl (z0b (z0l 3 (pv 3)) (z0b (z0l 1 (pv 1)) z0k)))))) (y0T (pt_din hr.units (z0l 3 (pv 3)) (z0l 2 (pv 2)))))) (z0m (z2d z3U)) z1o)
      (z0m (s_dput hr.units (pv 2) (z0l 3 (pv 3)) z3U))))
      (z0m (z2d z3U)))))
theorem sc_raised_order : FnScope z5y z1N (z0a z0N):=⟨rfl,rfl,rfl,by decide +kernel,rfl,by decide +kernel,by decide +kernel⟩
theorem z5d {f : Addr} {fd : FuncData} (F : Fun K "raised_order" "raised_order" z0N f fd) (hm : mg "raised_order" = some (.ref f)) (hb : Binds K fd z1N []) (T : Txt mg) (Z : Cls K mg base cl) : DefX P w K mg base 1 "raised_order" (spX K cl z1f):=by
  obtain ⟨C_NothingLeft,hc_NothingLeft,O_NothingLeft,nn_NothingLeft,xb_NothingLeft⟩:=Z.o_NothingLeft
  exact ⟨f,fd,z1N,hm,F.kp,hb,fnX (k:=0) (g:=z2t) F sc_raised_order rfl rfl fun cdv A outer s H E hr=>
    (z0e (z2u (z1B (i:=2) sc_raised_order.nd rfl (Or.inl rfl) (z7j (z0l 0 (pv 0)) (z0l 1 (pv 1)))))
      (z0e (z5R (z8l hr.units (z0l 2 (pv 2)) z0h) (z0m (z2D (c:=5) rfl rfl O_NothingLeft (z2E hc_NothingLeft) z2y)) z1o)
      (z0m (z2d (y1e (y1e (z7D (z0l 0 (pv 0)) z1P (z1j (z8D (z0l 2 (pv 2)) z0h))) (z3n (z0b (z0l 1 (pv 1)) (z0b (z1g (z0l 0 (pv 0)) (z8D (z0l 2 (pv 2)) z0h)) z0k)))) (z7D (z0l 0 (pv 0)) (z1j (z3r (z0l 2 (pv 2)) z0h)) z1P))))))⟩
theorem sc__law_order : FnScope z6W z3b (z0a z1s):=⟨rfl,rfl,rfl,by decide +kernel,rfl,by decide +kernel,by decide +kernel⟩
theorem z6v {f : Addr} {fd : FuncData} (F : Fun K "_law_order" "_law_order" z1s f fd) (hm : mg "_law_order" = some (.ref f)) (hb : Binds K fd z3b []) (T : Txt mg) : DefOk P w K mg base 1 "_law_order" (spN K z1Q):=
  defN (k:=0) (g:=z3a) F hm hb sc__law_order rfl rfl fun cdv A outer s H E hr=>
    (z0e (z2R (z1B (i:=2) sc__law_order.nd rfl (Or.inl rfl) (z8s (y1Q rfl rfl T.b_list rfl T.b_range (z0l 1 (pv 1))))))
      (z0e (z2R (z1B (i:=3) sc__law_order.nd rfl (Or.inl rfl) (z8s (z2p z0k))))
      (z0e (s_while 100 PassesOwn.never (pt_gt (z2x rfl T.b_len (z0l 2 (pv 2))) z0h) (z0e (y1R (by decide) (pv 3) (pv 2) (z3R (z0l 0 (pv 0)) (z2x rfl T.b_len (z0l 2 (pv 2)))))
      (z0m (z2u (z1B (i:=0) sc__law_order.nd rfl (Or.inl rfl) (z5M (z0l 0 (pv 0)) (z3r (z2x rfl T.b_len (z0l 2 (pv 2))) z0h)))))))
      (z0m (z2d (z6f rfl T.b_tuple (z0l 3 (pv 3))))))))
theorem sc__law_raised : FnScope z6j z2J (z0a z0T):=⟨rfl,rfl,rfl,by decide +kernel,rfl,by decide +kernel,by decide +kernel⟩
theorem z5C {f : Addr} {fd : FuncData} (F : Fun K "_law_raised" "_law_raised" z0T f fd) (hm : mg "_law_raised" = some (.ref f)) (hb : Binds K fd z2J []) (T : Txt mg) : DefOk P w K mg base 1 "_law_raised" (spN K z1x):=
  defN (k:=0) (g:=z1W) F hm hb sc__law_raised rfl rfl fun cdv A outer s H E hr=>
    (z0e (z2u (z1B (i:=2) sc__law_raised.nd rfl (Or.inl rfl) (z7j (z0l 0 (pv 0)) (z0l 1 (pv 1)))))
      (z0e (z5R (z8l hr.units (z0l 2 (pv 2)) z0h) (z0m (z2d y3P)) z1o)
      (z0e (z2R (z1B (i:=3) sc__law_raised.nd rfl (Or.inl rfl) (z8s (y1s rfl T.b_list (z0l 0 (pv 0))))))
      (z0e (s_st0 (pv 3) (z0l 2 (pv 2)) (z1g (z0l 3 (pv 3)) (z8D (z0l 2 (pv 2)) z0h)))
      (z0e (s_st0 (pv 3) (z8D (z0l 2 (pv 2)) z0h) (z0l 1 (pv 1)))
      (z0m (z2d (z6f rfl T.b_tuple (z0l 3 (pv 3))))))))))
theorem sc__law_after : FnScope z6R z2V (z0a z1p):=⟨rfl,rfl,rfl,by decide +kernel,rfl,by decide +kernel,by decide +kernel⟩
theorem z6k {f : Addr} {fd : FuncData} (F : Fun K "_law_after" "_law_after" z1p f fd) (hm : mg "_law_after" = some (.ref f)) (hb : Binds K fd z2V []) (T : Txt mg) (G__law_order : DefOk P w K mg base 1 "_law_order" (spN K z1Q)) (G__law_raised : DefOk P w K mg base 1 "_law_raised" (spN K z1x)) : DefOk P w K mg base 2 "_law_after" (spN K z1q):=
  defN (k:=1) (g:=z1t) F hm hb sc__law_after rfl rfl fun cdv A outer s H E hr=>
    (z0e (z2u (z1B (i:=4) sc__law_after.nd rfl (Or.inl rfl) (z3R (z5M (z0l 3 (pv 3)) z0h) (y0M z0h z0h))))
      (z0e (z2u (z1B (i:=5) sc__law_after.nd rfl (Or.inl rfl) (z3R (z0l 3 (pv 3)) z0h)))
      (z0e (z5R (PW.pt (y4k (pt_lt (z0l 5 (pv 5)) z0h) (y0T (z8l hr.units (z2x rfl T.b_len (z0l 0 (pv 0))) z0h)))) (z0e (z2u (z1B (i:=6) sc__law_after.nd rfl (Or.inl rfl) (z3n (z0b (z0l 1 (pv 1)) (z0b (z3r z0h (z3R (z0l 4 (pv 4)) (y0M z0h z0h))) (z0b (y2a (z1X G__law_order (hr.mono (by decide)) rfl (z0b (z5M (z0l 4 (pv 4)) z0h) (z0b (z0l 2 (pv 2)) z0k)))) z0k))))))
      (z0m (z4r (z4X (z1z (pn_I (z3n (z0b z2y (z0b (z1g (z0l 6 (pv 6)) z0h) (z0b (z1g (z0l 6 (pv 6)) z0h) z0k))))) (z1z (z8s (z4u (z0l 0 (pv 0)) (z7E (z2p (z0b (z0l 6 (pv 6)) z0k))))) z4T)))))) z1o)
      (z0e (z2u (z1B (i:=7) sc__law_after.nd rfl (Or.inl rfl) (z3R (z0l 4 (pv 4)) (z2x rfl T.b_len (z0l 0 (pv 0))))))
      (z0e (z2u (z1B (i:=8) sc__law_after.nd rfl (Or.inl rfl) (z1g (z0l 0 (pv 0)) (z0l 7 (pv 7)))))
      (z0e (z5R (z8l hr.units (z0l 5 (pv 5)) z0h) (z0m (z4r (z4X (z1z (pn_I (z3n (z0b z2y (z0b (z1g (z0l 8 (pv 8)) z0h) z0k)))) (z1z (z8s (z4u (z7E (z1Z (z0l 0 (pv 0)) z1P (z1j (z0l 7 (pv 7))))) (z7E (z1Z (z0l 0 (pv 0)) (z1j (z3r (z0l 7 (pv 7)) z0h)) z1P)))) z4T))))) z1o)
      (z0e (z2u (z1B (i:=9) sc__law_after.nd rfl (Or.inl rfl) (z3R (z5M (z0l 4 (pv 4)) z0h) (z0l 2 (pv 2)))))
      (z0e (z2R (z1B (i:=10) sc__law_after.nd rfl (Or.inl rfl) (z1X G__law_raised (hr.mono (by decide)) rfl (z0b (z1g (z0l 8 (pv 8)) z0h) (z0b (z0l 9 (pv 9)) z0k)))))
      (z0e (z5R (y0E (z0l 10 (pv 10))) (z0m (z4r (z8s (z2p (z0b (z3n (z0b z2y (z0b (z1g (z0l 8 (pv 8)) z0h) (z0b (z0l 9 (pv 9)) z0k)))) (z0b y3P z0k)))))) z1o)
      (z0m (z4r (z4X (z1z (pn_I (z3n (z0b z2y (z0b (z1g (z0l 8 (pv 8)) z0h) (z0b (z0l 9 (pv 9)) z0k))))) (z1z (z8s (z4u (z7E (z4u (z7E (z1Z (z0l 0 (pv 0)) z1P (z1j (z0l 7 (pv 7))))) (z7E (z2p (z0b (z3n (z0b (z1g (z0l 8 (pv 8)) z0h) (z0b (z1g (z0l 8 (pv 8)) z0h) (z0b (z0l 10 (pv 10)) z0k)))) z0k))))) (z7E (z1Z (z0l 0 (pv 0)) (z1j (z3r (z0l 7 (pv 7)) z0h)) z1P)))) z4T))))))))))))))
theorem z4E : FnScope z5o z1w (z0a z0J):=⟨rfl,rfl,rfl,by decide +kernel,rfl,by decide +kernel,by decide +kernel⟩
theorem z4F {C f : Addr} {fd : FuncData} (F : Fun K "__init__" "Book.__init__" z0J f fd) (hC : PySem.W.nsIn K mainGlobals "Book" = some (some (.ref C))) (hM : Mk K C f) (hg : mg "Book" = some (.ref C)) (hi : z5w K C bkKs=true) (hb : Binds K fd z1w []) (T : Txt mg) : NewOk P w K mg base 1 "Book" :=
  ⟨C,f,fd,z1w,hM,hg,hC,hi,hb,fnI (k:=0) F z4E rfl rfl fun cdv A outer s H E hr=>
    z3k (z5g (pv 0) (pv 1) rfl) (z3k (z5g (pv 0) (z8U pa_nil) rfl) (z3k (z5g (pv 0) (z8U pa_nil) rfl) (z8a (z5g (pv 0) y4a rfl))))⟩
theorem z7q : FnScope z8r z2M (z0a z1J):=⟨rfl,rfl,rfl,by decide +kernel,rfl,by decide +kernel,by decide +kernel⟩
theorem z7w {C f : Addr} {fd : FuncData} (F : Fun K "many" "Book.many" z1J f fd) (hC : PySem.W.nsIn K mainGlobals "Book" = some (some (.ref C))) (hc : L2.Cls K C) (hm : Meth K C "many" f) (hb : Binds K fd z2M []) (T : Txt mg) : MethOk P w K mg base 1 "Book" "many" (spN K z2e):=by
  exact ⟨C,f,fd,z2M,hC,hc,hm,hb,fnN (k:=0) (g:=z3v) F z7q rfl rfl fun cdv A outer s H E hr=>
    (z0m (z2d (z2f (z0l 0 (pv 0)))))⟩
theorem z4k : FnScope z4y z1l (z0a z0D):=⟨rfl,rfl,rfl,by decide +kernel,rfl,by decide +kernel,by decide +kernel⟩
theorem z3Y {C f : Addr} {fd : FuncData} (F : Fun K "take_back" "Book.take_back" z0D f fd) (hC : PySem.W.nsIn K mainGlobals "Book" = some (some (.ref C))) (hc : L2.Cls K C) (hm : Meth K C "take_back" f) (hb : Binds K fd z1l []) (T : Txt mg) (Z : Cls K mg base cl) : MethX P w K mg base 1 "Book" "take_back" (z5v K cl z0p):=by
  obtain ⟨C_NothingLeft,hc_NothingLeft,O_NothingLeft,nn_NothingLeft,xb_NothingLeft⟩:=Z.o_NothingLeft
  exact ⟨C,f,fd,z1l,hC,hc,hm,hb,fnBX (k:=0) (g:=z1k) F z4k rfl rfl fun cdv A outer s H H0 E hr=>
    (z0e (z5R (z4Q (z3I (z2f (z0l 0 (pv 0))))) (z0m (z2D (c:=5) rfl rfl O_NothingLeft (z2E hc_NothingLeft) z2y)) z1o)
      (z0m (s_popF (pv 0) (pv 0))))⟩
theorem z3V : FnScope z4z z1h (z0a z0E):=⟨rfl,rfl,rfl,by decide +kernel,rfl,by decide +kernel,by decide +kernel⟩
theorem z4e {f : Addr} {fd : FuncData} (F : Fun K "_law_none_left" "_law_none_left" z0E f fd) (hm : mg "_law_none_left" = some (.ref f)) (hb : Binds K fd z1h []) (T : Txt mg) (Z : Cls K mg base cl) (G_Book_take_back : MethX P w K mg base 1 "Book" "take_back" (z5v K cl z0p)) : DefX P w K mg base 2 "_law_none_left" (z5v K cl z0z):=by
  obtain ⟨C_BadBallot,hc_BadBallot,O_BadBallot,nn_BadBallot,xb_BadBallot⟩:=Z.o_BadBallot
  obtain ⟨C_BadNumber,hc_BadNumber,O_BadNumber,nn_BadNumber,xb_BadNumber⟩:=Z.o_BadNumber
  obtain ⟨C_Unknown,hc_Unknown,O_Unknown,nn_Unknown,xb_Unknown⟩:=Z.o_Unknown
  obtain ⟨C_TooMany,hc_TooMany,O_TooMany,nn_TooMany,xb_TooMany⟩:=Z.o_TooMany
  obtain ⟨C_NothingLeft,hc_NothingLeft,O_NothingLeft,nn_NothingLeft,xb_NothingLeft⟩:=Z.o_NothingLeft
  exact ⟨f,fd,z1h,hm,F.kp,hb,fnBX (k:=1) (g:=z1U) F z3V rfl rfl fun cdv A outer s H H0 E hr=>
    (z0e (s_try (gh:=(fun c=>match c with | 0=>fun _=>none | 1=>fun _=>none | 2=>fun _=>none | 3=>fun _=>none | 4=>fun _=>none | 5=>(z9Y (dC (.bl true))) | 6=>fun _=>none | _ + 7=>fun _=>none)) rfl rfl (fun pn xe RX' hW=>(z0m (z4J (z7v G_Book_take_back (hr.mono (by decide)) hW (pv 0))))) (fun c=>match c with | 0=>z2C (fun _=>rfl) | 1=>z2C (fun _=>rfl) | 2=>z2C (fun _=>rfl) | 3=>z2C (fun _=>rfl) | 4=>z2C (fun _=>rfl) | 5=>ph_yes rfl O_NothingLeft.bound (Z.e_NothingLeft_NothingLeft _ hc_NothingLeft) (fun _=>(z0m (z5k z3U))) | 6=>z2C (fun _=>rfl) | _ + 7=>z2C (fun _=>rfl)))
      (z0m (z5k z3U)))⟩
theorem z3W : FnScope z4A z1i (z0a z0C):=⟨rfl,rfl,rfl,by decide +kernel,rfl,by decide +kernel,by decide +kernel⟩
theorem z3Z {C f : Addr} {fd : FuncData} (F : Fun K "change_to" "Book.change_to" z0C f fd) (hC : PySem.W.nsIn K mainGlobals "Book" = some (some (.ref C))) (hc : L2.Cls K C) (hm : Meth K C "change_to" f) (hb : Binds K fd z1i []) (T : Txt mg) : MethOk P w K mg base 1 "Book" "change_to" (spC K):=
  ⟨C,f,fd,z1i,hC,hc,hm,hb,fnC (k:=0) F z3W rfl rfl fun cdv A outer s H E hr=>
    z3k (z4n (z9y PySem.F.plainAttrs_list PySem.F.slot_list_append PySem.F.type_list_append z2Y (z9f (pv 0) rfl) (z0y (z9f (pv 0) rfl) pa_nil))) (z8a (z5g (pv 0) (pv 1) rfl))⟩
theorem sc_Book_put_in : FnScope z6e z1Y (z0a z0U):=⟨rfl,rfl,rfl,by decide +kernel,rfl,by decide +kernel,by decide +kernel⟩
theorem z5x {C f : Addr} {fd : FuncData} (F : Fun K "put_in" "Book.put_in" z0U f fd) (hC : PySem.W.nsIn K mainGlobals "Book" = some (some (.ref C))) (hc : L2.Cls K C) (hm : Meth K C "put_in" f) (hb : Binds K fd z1Y []) (T : Txt mg) (Z : Cls K mg base cl) (G_tells_each_once : DefOk P w K mg base 2 "tells_each_once" (spN K z0I)) (G_Book_change_to : MethOk P w K mg base 1 "Book" "change_to" (spC K)) : MethX P w K mg base 3 "Book" "put_in" (z5v K cl z0S):=by
  obtain ⟨C_BadBallot,hc_BadBallot,O_BadBallot,nn_BadBallot,xb_BadBallot⟩:=Z.o_BadBallot
  obtain ⟨C_BadNumber,hc_BadNumber,O_BadNumber,nn_BadNumber,xb_BadNumber⟩:=Z.o_BadNumber
  obtain ⟨C_TooMany,hc_TooMany,O_TooMany,nn_TooMany,xb_TooMany⟩:=Z.o_TooMany
  exact ⟨C,f,fd,z1Y,hC,hc,hm,hb,fnBX (k:=2) (g:=z2O) F sc_Book_put_in rfl rfl fun cdv A outer s H H0 E hr=>
    (z0e (z5R (z4Q (z3I (y2a (z1X G_tells_each_once (hr.mono (by decide)) rfl (z0b (z0l 2 (pv 2)) (z0b (z2f (z0l 0 (pv 0))) z0k)))))) (z0m (z2D (c:=1) rfl rfl O_BadBallot (z2E hc_BadBallot) z2y)) z1o)
      (z0e (z5R (z4Q (y1w op_le op_le z2H z2H z0h (z0l 1 (pv 1)) (y0M z0h z0h))) (z0m (z2D (c:=2) rfl rfl O_BadNumber (z2E hc_BadNumber) z2y)) z1o)
      (z0e (z5R (pt_ge (z2x rfl T.b_len (z2f (z0l 0 (pv 0)))) (pd_glob rfl T.g_MOST_BALLOTS)) (z0m (z2D (c:=4) rfl rfl O_TooMany (z2E hc_TooMany) z2y)) z1o)
      (z0e (z2u (z1B (i:=3) sc_Book_put_in.nd rfl (Or.inl rfl) (z2f (z0l 0 (pv 0)))))
      (z0e (s_setF (pv 0) (z3r (z0l 3 (pv 3)) z0h))
      (z0e (s_chg (by decide +kernel) G_Book_change_to (hr.mono (by decide)) (pv 0) (z8s (z4u (z2f (z0l 0 (pv 0))) (z7E (z2p (z0b (z3n (z0b (z0l 3 (pv 3)) (z0b (z0l 1 (pv 1)) (z0b (z6f rfl T.b_tuple (z0l 2 (pv 2))) z0k)))) z0k))))))
      (z0m (z5k (z0l 3 (pv 3))))))))))⟩
theorem z4N : FnScope z5A z1M (z0a z0O):=⟨rfl,rfl,rfl,by decide +kernel,rfl,by decide +kernel,by decide +kernel⟩
theorem z4P {C f : Addr} {fd : FuncData} (F : Fun K "numbers" "Book.numbers" z0O f fd) (hC : PySem.W.nsIn K mainGlobals "Book" = some (some (.ref C))) (hc : L2.Cls K C) (hm : Meth K C "numbers" f) (hb : Binds K fd z1M []) (T : Txt mg) : MethOk P w K mg base 1 "Book" "numbers" (spN K z0j):=by
  exact ⟨C,f,fd,z1M,hC,hc,hm,hb,fnN (k:=0) (g:=z2s) F z4N rfl rfl fun cdv A outer s H E hr=>
    (z0m (z4r (z8s (z7W (N':=["self", "entry"])  rfl ⟨rfl,rfl,rfl,rfl,rfl⟩ (n:=1) rfl (z6p (z2f (z0l 0 (pv 0)))) (fun _ _ _ _ _=>z4m (i:=1) nd0 rfl (Or.inl rfl)) (fun _ _ _ _ _=>z4O) (fun _ _ _ _ _=>(z1g (z0l 1 (pv 1)) z0h))))))⟩
theorem sc_Book_place_of : FnScope z4M z1u (z0a z0L):=⟨rfl,rfl,rfl,by decide +kernel,rfl,by decide +kernel,by decide +kernel⟩
theorem z4B {C f : Addr} {fd : FuncData} (F : Fun K "place_of" "Book.place_of" z0L f fd) (hC : PySem.W.nsIn K mainGlobals "Book" = some (some (.ref C))) (hc : L2.Cls K C) (hm : Meth K C "place_of" f) (hb : Binds K fd z1u []) (T : Txt mg) (Z : Cls K mg base cl) (G_Book_numbers : MethOk P w K mg base 1 "Book" "numbers" (spN K z0j)) : MethX P w K mg base 2 "Book" "place_of" (spX K cl z0v):=by
  obtain ⟨C_Unknown,hc_Unknown,O_Unknown,nn_Unknown,xb_Unknown⟩:=Z.o_Unknown
  exact ⟨C,f,fd,z1u,hC,hc,hm,hb,fnX (k:=1) (g:=z2i) F sc_Book_place_of rfl rfl fun cdv A outer s H E hr=>
    (z0e (z2R (z1B (i:=2) sc_Book_place_of.nd rfl (Or.inl rfl) (z1v G_Book_numbers (hr.mono (by decide)) (z0l 0 (pv 0)))))
      (z0e (z5R (pt_nin hr.units (z0l 1 (pv 1)) (z0l 2 (pv 2))) (z0m (z2D (c:=3) rfl rfl O_Unknown (z2E hc_Unknown) z2y)) z1o)
      (z0m (z2d (y1v (z0l 2 (pv 2)) (z0l 1 (pv 1)))))))⟩
theorem sc_Book_go_out : FnScope z6y z2a (z0a z1a):=⟨rfl,rfl,rfl,by decide +kernel,rfl,by decide +kernel,by decide +kernel⟩
theorem z5z {C f : Addr} {fd : FuncData} (F : Fun K "go_out" "Book.go_out" z1a f fd) (hC : PySem.W.nsIn K mainGlobals "Book" = some (some (.ref C))) (hc : L2.Cls K C) (hm : Meth K C "go_out" f) (hb : Binds K fd z2a []) (T : Txt mg) (Z : Cls K mg base cl) (G_Book_change_to : MethOk P w K mg base 1 "Book" "change_to" (spC K)) (G_Book_place_of : MethX P w K mg base 2 "Book" "place_of" (spX K cl z0v)) : MethX P w K mg base 3 "Book" "go_out" (z5v K cl z0W):=by
  exact ⟨C,f,fd,z2a,hC,hc,hm,hb,fnBX (k:=2) (g:=z2G) F sc_Book_go_out rfl rfl fun cdv A outer s H H0 E hr=>
    (z0e (y0v (z1B (i:=2) sc_Book_go_out.nd rfl (Or.inl rfl) (y0L G_Book_place_of (hr.mono (by decide)) y1a (z0l 0 (pv 0)) (z0b (z0l 1 (pv 1)) z0k))))
      (z0m (s_chg (by decide +kernel) G_Book_change_to (hr.mono (by decide)) (pv 0) (z8s (z4u (z7E (z1Z (z2f (z0l 0 (pv 0))) z1P (z1j (z0l 2 (pv 2))))) (z7E (z1Z (z2f (z0l 0 (pv 0))) (z1j (z3r (z0l 2 (pv 2)) z0h)) z1P)))))))⟩
theorem sc_Book_raised : FnScope z6g z1V (z0a z0V):=⟨rfl,rfl,rfl,by decide +kernel,rfl,by decide +kernel,by decide +kernel⟩
theorem z5B {C f : Addr} {fd : FuncData} (F : Fun K "raised" "Book.raised" z0V f fd) (hC : PySem.W.nsIn K mainGlobals "Book" = some (some (.ref C))) (hc : L2.Cls K C) (hm : Meth K C "raised" f) (hb : Binds K fd z1V []) (T : Txt mg) (Z : Cls K mg base cl) (G_is_thing : DefOk P w K mg base 1 "is_thing" (spN K z1r)) (G_raised_order : DefX P w K mg base 1 "raised_order" (spX K cl z1f)) (G_Book_change_to : MethOk P w K mg base 1 "Book" "change_to" (spC K)) (G_Book_place_of : MethX P w K mg base 2 "Book" "place_of" (spX K cl z0v)) : MethX P w K mg base 3 "Book" "raised" (z5v K cl z0Y):=by
  obtain ⟨C_BadNumber,hc_BadNumber,O_BadNumber,nn_BadNumber,xb_BadNumber⟩:=Z.o_BadNumber
  exact ⟨C,f,fd,z1V,hC,hc,hm,hb,fnBX (k:=2) (g:=z2I) F sc_Book_raised rfl rfl fun cdv A outer s H H0 E hr=>
    (z0e (y0v (z1B (i:=3) sc_Book_raised.nd rfl (Or.inl rfl) (y0L G_Book_place_of (hr.mono (by decide)) y1a (z0l 0 (pv 0)) (z0b (z0l 1 (pv 1)) z0k))))
      (z0e (z5R (z4Q (z3I (y2a (z1X G_is_thing (hr.mono (by decide)) rfl (z0b (z0l 2 (pv 2)) (z0b (z2f (z0l 0 (pv 0))) z0k)))))) (z0m (z2D (c:=2) rfl rfl O_BadNumber (z2E hc_BadNumber) z2y)) z1o)
      (z0e (z2u (z1B (i:=4) sc_Book_raised.nd rfl (Or.inl rfl) (z1g (z2f (z0l 0 (pv 0))) (z0l 3 (pv 3)))))
      (z0e (y0v (z1B (i:=5) sc_Book_raised.nd rfl (Or.inl rfl) (px_tup2 (z0l 1 (pv 1)) (z1g (z0l 4 (pv 4)) z0h) (px_call G_raised_order (hr.mono (by decide)) rfl y1a (z0b (z1g (z0l 4 (pv 4)) z0h) (z0b (z0l 2 (pv 2)) z0k))))))
      (z0m (s_chg (by decide +kernel) G_Book_change_to (hr.mono (by decide)) (pv 0) (z8s (z4u (z7E (z4u (z7E (z1Z (z2f (z0l 0 (pv 0))) z1P (z1j (z0l 3 (pv 3))))) (z7E (z2p (z0b (z0l 5 (pv 5)) z0k))))) (z7E (z1Z (z2f (z0l 0 (pv 0))) (z1j (z3r (z0l 3 (pv 3)) z0h)) z1P))))))))))⟩
theorem sc__law_done : FnScope z7K z3u (z0a z1F):=⟨rfl,rfl,rfl,by decide +kernel,rfl,by decide +kernel,by decide +kernel⟩
theorem z7p {f : Addr} {fd : FuncData} (F : Fun K "_law_done" "_law_done" z1F f fd) (hm : mg "_law_done" = some (.ref f)) (hb : Binds K fd z3u []) (T : Txt mg) (Z : Cls K mg base cl) (G_Book_put_in : MethX P w K mg base 3 "Book" "put_in" (z5v K cl z0S)) (G_Book_go_out : MethX P w K mg base 3 "Book" "go_out" (z5v K cl z0W)) (G_Book_raised : MethX P w K mg base 3 "Book" "raised" (z5v K cl z0Y)) : DefOk P w K mg base 4 "_law_done" (y0Y K false z0G):=by
  exact defB2 (k:=3) (g:=z2g) F hm hb sc__law_done rfl rfl fun cdv A outer s H H0 E hr=>
    (z0e (z5R (z8l hr.units (z1g (z0l 1 (pv 1)) z0h) z2y) (z0e (s_asgBX (z1B (i:=3) sc__law_done.nd rfl (Or.inl rfl) (z6w G_Book_put_in (hr.mono (by decide)) y1m (pv 0) (z0b (z1g (z0l 1 (pv 1)) z0h) (z0b (z1g (z0l 1 (pv 1)) z0h) z0k)))))
      (z0e (z5R (pt_in hr.units (z0l 3 (pv 3)) (y4e (z0l 2 (pv 2)))) (z0m (z5k z3U)) z1o)
      (z0m (s_appC (pv 2) (z0l 3 (pv 3)))))) (z0m (z5R (z8l hr.units (z1g (z0l 1 (pv 1)) z0h) z2y) (z0m (z4J (z6w G_Book_go_out (hr.mono (by decide)) y1m (pv 0) (z0b (z1g (z0l 1 (pv 1)) z0h) z0k)))) (z0m (z4J (z6w G_Book_raised (hr.mono (by decide)) y1m (pv 0) (z0b (z1g (z0l 1 (pv 1)) z0h) (z0b (z1g (z0l 1 (pv 1)) z0h) z0k))))))))
      (z0m (z5k z3U)))
theorem z5Y : FnScope z7m z2n (z0a z1m):=⟨rfl,rfl,rfl,by decide +kernel,rfl,by decide +kernel,by decide +kernel⟩
theorem z6E {C f : Addr} {fd : FuncData} (F : Fun K "votes" "Book.votes" z1m f fd) (hC : PySem.W.nsIn K mainGlobals "Book" = some (some (.ref C))) (hc : L2.Cls K C) (hm : Meth K C "votes" f) (hb : Binds K fd z2n []) (T : Txt mg) : MethOk P w K mg base 1 "Book" "votes" (spN K z0t):=by
  exact ⟨C,f,fd,z2n,hC,hc,hm,hb,fnN (k:=0) (g:=z3d) F z5Y rfl rfl fun cdv A outer s H E hr=>
    (z0m (z4r (z8s (z7W (N':=["self", "entry"])  rfl ⟨rfl,rfl,rfl,rfl,rfl⟩ (n:=1) rfl (z6p (z2f (z0l 0 (pv 0)))) (fun _ _ _ _ _=>z4m (i:=1) nd0 rfl (Or.inl rfl)) (fun _ _ _ _ _=>z4O) (fun _ _ _ _ _=>(z3n (z0b (z1g (z0l 1 (pv 1)) z0h) (z0b (z1g (z0l 1 (pv 1)) z0h) z0k))))))))⟩
theorem sc__law_kept : FnScope z8m z3w (z0a z1H):=⟨rfl,rfl,rfl,by decide +kernel,rfl,by decide +kernel,by decide +kernel⟩
theorem z6O {f : Addr} {fd : FuncData} (F : Fun K "_law_kept" "_law_kept" z1H f fd) (hm : mg "_law_kept" = some (.ref f)) (hb : Binds K fd z3w []) (T : Txt mg) (G_Book_numbers : MethOk P w K mg base 1 "Book" "numbers" (spN K z0j)) (G_Book_votes : MethOk P w K mg base 1 "Book" "votes" (spN K z0t)) : DefOk P w K mg base 2 "_law_kept" (spN K z1D):=
  defN (k:=1) (g:=z3t) F hm hb sc__law_kept rfl rfl fun cdv A outer s H E hr=>
    (z0e (z2R (z1B (i:=1) sc__law_kept.nd rfl (Or.inr rfl) (z1v G_Book_votes (hr.mono (by decide)) (z0l 0 (pv 0)))))
      (z0e (z2R (z1B (i:=2) sc__law_kept.nd rfl (Or.inr rfl) (z1v G_Book_numbers (hr.mono (by decide)) (z0l 0 (pv 0)))))
      (z0m (z4r (z8s (z7W (N':=["book", "ballots", "numbers", "k"])  rfl ⟨rfl,rfl,rfl,rfl,rfl⟩ (n:=3) rfl (pi_rng1 rfl T.b_range (z2x rfl T.b_len (z0l 2 (pv 2)))) (fun _ _ _ _ _=>z4m (i:=3) nd1 rfl (Or.inl rfl)) (fun _ _ _ _ _=>z4O) (fun _ _ _ _ _=>(z3n (z0b (z1g (z0l 2 (pv 2)) (z0l 3 (pv 3))) (z0b (z1g (z1g (z0l 1 (pv 1)) (z0l 3 (pv 3))) z0h) (z0b (z1g (z1g (z0l 1 (pv 1)) (z0l 3 (pv 3))) z0h) z0k)))))))))))
theorem z6T : FnScope z7O z2N (z0a z1I):=⟨rfl,rfl,rfl,by decide +kernel,rfl,by decide +kernel,by decide +kernel⟩
theorem z7s {C f : Addr} {fd : FuncData} (F : Fun K "left" "Book.left" z1I f fd) (hC : PySem.W.nsIn K mainGlobals "Book" = some (some (.ref C))) (hc : L2.Cls K C) (hm : Meth K C "left" f) (hb : Binds K fd z2N []) (T : Txt mg) : MethOk P w K mg base 1 "Book" "left" (spN K z0x):=by
  exact ⟨C,f,fd,z2N,hC,hc,hm,hb,fnN (k:=0) (g:=z3x) F z6T rfl rfl fun cdv A outer s H E hr=>
    (z0m (z2d (z2x rfl T.b_len (z2f (z0l 0 (pv 0))))))⟩
theorem z6u : FnScope z6N z2X (z0a z1n):=⟨rfl,rfl,rfl,by decide +kernel,rfl,by decide +kernel,by decide +kernel⟩
theorem z5V {f : Addr} {fd : FuncData} (F : Fun K "_law_stand" "_law_stand" z1n f fd) (hm : mg "_law_stand" = some (.ref f)) (hb : Binds K fd z2X []) (T : Txt mg) (G_Book_many : MethOk P w K mg base 1 "Book" "many" (spN K z2e)) (G_Book_numbers : MethOk P w K mg base 1 "Book" "numbers" (spN K z0j)) (G_Book_votes : MethOk P w K mg base 1 "Book" "votes" (spN K z0t)) (G_Book_left : MethOk P w K mg base 1 "Book" "left" (spN K z0x)) : DefOk P w K mg base 2 "_law_stand" (spN K z0F):=
  defN (k:=1) (g:=z3e) F hm hb z6u rfl rfl fun cdv A outer s H E hr=>
    (z0m (z4r (z4X (z1z (z1v G_Book_numbers (hr.mono (by decide)) (z0l 0 (pv 0))) (z1z (z1v G_Book_votes (hr.mono (by decide)) (z0l 0 (pv 0))) (z1z (z4X (z1z (z1v G_Book_many (hr.mono (by decide)) (z0l 0 (pv 0))) (z1z (z1v G_Book_left (hr.mono (by decide)) (z0l 0 (pv 0))) z4T))) z4T))))))
theorem sc__law_back : FnScope z8o z3B (z0a z1K):=⟨rfl,rfl,rfl,by decide +kernel,rfl,by decide +kernel,by decide +kernel⟩
theorem z7i {f : Addr} {fd : FuncData} (F : Fun K "_law_back" "_law_back" z1K f fd) (hm : mg "_law_back" = some (.ref f)) (hb : Binds K fd z3B []) (T : Txt mg) (Z : Cls K mg base cl) (G_Book_take_back : MethX P w K mg base 1 "Book" "take_back" (z5v K cl z0p)) (G__law_stand : DefOk P w K mg base 2 "_law_stand" (spN K z0F)) : DefOk P w K mg base 3 "_law_back" (y0Y K true z0H):=by
  exact defB2 (k:=2) (g:=z3E) F hm hb sc__law_back rfl rfl fun cdv A outer s H H0 E hr=>
    (z0e (s_forI PassesOwn.never rfl (y2m rfl T.b_range (pd_min2 rfl rfl T.b_min (z0l 2 (pv 2)) (z2x rfl T.b_len (y4e (z0l 1 (pv 1)))))) (z4m (i:=3) sc__law_back.nd rfl (Or.inl rfl)) (z0e (z4J (z7v G_Book_take_back (hr.mono (by decide)) y1m (pv 0)))
      (z0m (y2A (y2E hr.units (y2a (z1X G__law_stand (hr.mono (by decide)) rfl (z0b (z0l 0 (pv 0)) z0k))) (pv 1)) (z0m (z5k z3U)) z1o))))
      (z0m (z5k z3U)))
theorem sc_law : FnScope N_law P_law (z0a z6x):=⟨rfl,rfl,rfl,by decide +kernel,rfl,by decide +kernel,by decide +kernel⟩
theorem ok_law {f : Addr} {fd : FuncData} (F : Fun K "law" "law" z6x f fd) (T : Txt mg) (Z : Cls K mg base cl) (G__law_after : DefOk P w K mg base 2 "_law_after" (spN K z1q)) (G_Book___init__ : NewOk P w K mg base 1 "Book") (G__law_none_left : DefX P w K mg base 2 "_law_none_left" (z5v K cl z0z)) (G_Book_numbers : MethOk P w K mg base 1 "Book" "numbers" (spN K z0j)) (G__law_done : DefOk P w K mg base 4 "_law_done" (y0Y K false z0G)) (G_Book_votes : MethOk P w K mg base 1 "Book" "votes" (spN K z0t)) (G__law_kept : DefOk P w K mg base 2 "_law_kept" (spN K z1D)) (G_Book_left : MethOk P w K mg base 1 "Book" "left" (spN K z0x)) (G__law_stand : DefOk P w K mg base 2 "_law_stand" (spN K z0F)) (G__law_back : DefOk P w K mg base 3 "_law_back" (y0Y K true z0H)) : FnOk P w K mg base CX0 5 f fd P_law (spN K z9z):=
  fnN (k:=4) (g:=g_law) F sc_law rfl rfl fun cdv A outer s H E hr=>
    (z0e (z2u (z1B (i:=1) sc_law.nd rfl (Or.inl rfl) z0h))
      (z0e (z5R (pt_gt (z2x rfl T.b_len (z0l 0 (pv 0))) z0h) (z0m (z2u (z1B (i:=1) sc_law.nd rfl (Or.inl rfl) (z3r z0h (z3R (z1g (z0l 0 (pv 0)) z0h) z0h))))) z1o)
      (ss_new (i:=2) sc_law.nd rfl (Or.inl rfl) G_Book___init__ (hr.mono (by decide)) rfl (z0l 1 (pv 1))
      (z0e (z2R (z1B (i:=3) sc_law.nd rfl (Or.inl rfl) (z8s (z2p z0k))))
      (z0e (z2R (z1B (i:=4) sc_law.nd rfl (Or.inl rfl) (z8s (z2p z0k))))
      (z0e (s_for PassesOwn.never rfl (z6p (z7E (z1Z (z0l 0 (pv 0)) (z1j z0h) (z1j z0h)))) (z4m (i:=5) sc_law.nd rfl (Or.inl rfl)) (z0m (z5R (z8l hr.units (z3R (z0l 5 (pv 5)) z0h) z0h) (z0m (y2A (z8L (ts_B2 (by decide) (pb2_t G__law_back (hr.mono (by decide)) rfl (pv 2) (pv 4) (z3r z0h (z3R (z5M (z0l 5 (pv 5)) z0h) z0h))))) (z0m (z2d z3U)) z1o)) (z0e (z2R (z1B (i:=6) sc_law.nd rfl (Or.inl rfl) (z1X G__law_after (hr.mono (by decide)) rfl (z0b (y2a (z1X G__law_kept (hr.mono (by decide)) rfl (z0b (z0l 2 (pv 2)) z0k))) (z0b z0h (z0b (z0l 1 (pv 1)) (z0b (z5M (z0l 5 (pv 5)) z0h) z0k)))))))
      (z0m (z5R (z9p (z1g (z0l 6 (pv 6)) z0h)) (z0e (y1G (pv 4) (z1X G__law_stand (hr.mono (by decide)) rfl (z0b (z0l 2 (pv 2)) z0k)))
      (z0m (y2A (ts_or (z8L (ts_B2 (by decide) (pb2_f G__law_done (hr.mono (by decide)) rfl (pv 2) (z1g (z0l 6 (pv 6)) z0h) (pv 3)))) (ts_D (pt_ne hr.units (y2a (z1v G_Book_left (hr.mono (by decide)) (z0l 2 (pv 2)))) (z2x rfl T.b_len (z0l 4 (pv 4)))))) (z0m (z2d z3U)) z1o))) z1o))))))
      (z0e (y2A (ts_or (z8L (ts_B2 (by decide) (pb2_t G__law_back (hr.mono (by decide)) rfl (pv 2) (pv 4) (z2x rfl T.b_len (z0l 4 (pv 4)))))) (z8L (ts_BX (y2d G__law_none_left (hr.mono (by decide)) rfl y1m (pv 2) z0k)))) (z0m (z2d z3U)) z1o)
      (z0m (z2d (z8K (pd_eq hr.units (y2a (z1v G_Book_numbers (hr.mono (by decide)) (z0l 2 (pv 2)))) (z7E (z2p z0k))) (z8K (pd_eq hr.units (y2a (z1v G_Book_votes (hr.mono (by decide)) (z0l 2 (pv 2)))) (z7E (z2p z0k))) (y3Z (pd_eq hr.units (y2a (z1v G_Book_left (hr.mono (by decide)) (z0l 2 (pv 2)))) z0h)))))))))))))
end
theorem y2b {α : Type} {us : List α} (h : us.length=1) : ∃ a0,us=[a0]:=by
  cases us with
  | nil=>cases h
  | cons b us=>exact ⟨b,by rw [List.length_eq_zero_iff.mp (Nat.succ.inj h)]⟩
theorem y2c {α : Type} {us : List α} (h : us.length=2) : ∃ a0 a1,us=[a0,a1]:=by
  cases us with
  | nil=>cases h
  | cons b us=>obtain ⟨a1,e⟩:=y2b (Nat.succ.inj h); exact ⟨b,a1,by rw [e]⟩
theorem us_3 {α : Type} {us : List α} (h : us.length=3) : ∃ a0 a1 a2,us=[a0,a1,a2]:=by
  cases us with
  | nil=>cases h
  | cons b us=>obtain ⟨a1,a2,e⟩:=y2c (Nat.succ.inj h); exact ⟨b,a1,a2,by rw [e]⟩
theorem us_4 {α : Type} {us : List α} (h : us.length=4) : ∃ a0 a1 a2 a3,us=[a0,a1,a2,a3]:=by
  cases us with
  | nil=>cases h
  | cons b us=>obtain ⟨a1,a2,a3,e⟩:=us_3 (Nat.succ.inj h); exact ⟨b,a1,a2,a3,by rw [e]⟩
theorem us_5 {α : Type} {us : List α} (h : us.length=5) : ∃ a0 a1 a2 a3 a4,us=[a0,a1,a2,a3,a4]:=by
  cases us with
  | nil=>cases h
  | cons b us=>obtain ⟨a1,a2,a3,a4,e⟩:=us_4 (Nat.succ.inj h); exact ⟨b,a1,a2,a3,a4,by rw [e]⟩
theorem us_6 {α : Type} {us : List α} (h : us.length=6) : ∃ a0 a1 a2 a3 a4 a5,us=[a0,a1,a2,a3,a4,a5]:=by
  cases us with
  | nil=>cases h
  | cons b us=>obtain ⟨a1,a2,a3,a4,a5,e⟩:=us_5 (Nat.succ.inj h); exact ⟨b,a1,a2,a3,a4,a5,by rw [e]⟩
theorem all_mk {l : PySem.W.OpenLaw} {w : World} {K : PySem.W.Frag} {h : Heap} {mg : Str->Option Value} {fa : Addr} (X : K.In h) (G : h.Ns mainGlobals mg) (hfa : mg "law" = some (.ref fa))
    {f_is_thing f_tells_each_once f_raised_order f__law_order f__law_raised f__law_after f__law_stand f__law_kept f__law_done f__law_back f__law_none_left f_law f_Book___init__ f_Book_many f_Book_put_in f_Book_go_out f_Book_raised f_Book_take_back f_Book_change_to f_Book_place_of f_Book_numbers f_Book_votes f_Book_left : Addr} {od21 an21 : Option Addr} {sl21 : Array (Option Value)} {oc21 kV21 dc21 pm21 cd21 ct21 : Value} {od0 an0 : Option Addr} {sl0 : Array (Option Value)} {oc0 kV0 dc0 pm0 cd0 ct0 : Value} {od7 an7 : Option Addr} {sl7 : Array (Option Value)} {oc7 kV7 dc7 pm7 cd7 ct7 : Value} {od14 an14 : Option Addr} {sl14 : Array (Option Value)} {oc14 kV14 dc14 pm14 cd14 ct14 : Value} {od11 an11 : Option Addr} {sl11 : Array (Option Value)} {oc11 kV11 dc11 pm11 cd11 ct11 : Value} {od13 an13 : Option Addr} {sl13 : Array (Option Value)} {oc13 kV13 dc13 pm13 cd13 ct13 : Value} {od15 an15 : Option Addr} {sl15 : Array (Option Value)} {oc15 kV15 dc15 pm15 cd15 ct15 : Value} {od20 an20 : Option Addr} {sl20 : Array (Option Value)} {oc20 kV20 dc20 pm20 cd20 ct20 : Value} {od19 an19 : Option Addr} {sl19 : Array (Option Value)} {oc19 kV19 dc19 pm19 cd19 ct19 : Value} {od18 an18 : Option Addr} {sl18 : Array (Option Value)} {oc18 kV18 dc18 pm18 cd18 ct18 : Value} {od3 an3 : Option Addr} {sl3 : Array (Option Value)} {oc3 kV3 dc3 pm3 cd3 ct3 : Value} {od22 an22 : Option Addr} {sl22 : Array (Option Value)} {oc22 kV22 dc22 pm22 cd22 ct22 : Value} {od4 an4 : Option Addr} {sl4 : Array (Option Value)} {oc4 kV4 dc4 pm4 cd4 ct4 : Value} {od17 an17 : Option Addr} {sl17 : Array (Option Value)} {oc17 kV17 dc17 pm17 cd17 ct17 : Value} {od9 an9 : Option Addr} {sl9 : Array (Option Value)} {oc9 kV9 dc9 pm9 cd9 ct9 : Value} {od8 an8 : Option Addr} {sl8 : Array (Option Value)} {oc8 kV8 dc8 pm8 cd8 ct8 : Value} {od10 an10 : Option Addr} {sl10 : Array (Option Value)} {oc10 kV10 dc10 pm10 cd10 ct10 : Value} {od2 an2 : Option Addr} {sl2 : Array (Option Value)} {oc2 kV2 dc2 pm2 cd2 ct2 : Value} {od1 an1 : Option Addr} {sl1 : Array (Option Value)} {oc1 kV1 dc1 pm1 cd1 ct1 : Value} {od5 an5 : Option Addr} {sl5 : Array (Option Value)} {oc5 kV5 dc5 pm5 cd5 ct5 : Value} {od6 an6 : Option Addr} {sl6 : Array (Option Value)} {oc6 kV6 dc6 pm6 cd6 ct6 : Value} {od12 an12 : Option Addr} {sl12 : Array (Option Value)} {oc12 kV12 dc12 pm12 cd12 ct12 : Value} {od16 an16 : Option Addr} {sl16 : Array (Option Value)} {oc16 kV16 dc16 pm16 cd16 ct16 : Value} {C_Book : Addr}  {w_MOST_BALLOTS : _}  {C_BadBallot C_BadNumber C_Unknown C_TooMany C_NothingLeft : Addr}
    (x_Book : PySem.W.nsIn K mainGlobals "Book" = some (some (.ref C_Book))) (ic_Book : z5w K C_Book bkKs=true) (mk_Book : PySem.W.makesIn K C_Book=true) (kc_Book : PySem.W.keepIn K (.ref C_Book)=true)
    (a_is_thing : PySem.W.nsIn K mainGlobals "is_thing" = some (some (.ref f_is_thing))) (l_is_thing : K.lookup f_is_thing=some ⟨oc21,od21,.func (PySem.W.fnOf "is_thing" "is_thing" (z0w z2b) (z0o z2b) (z0a z2b) .none kV21 dc21 pm21 an21 cd21 ct21),sl21⟩) (c_is_thing : PySem.W.codeIn K cd21 "is_thing" = true) (k_is_thing : PySem.W.keepIn K (.ref f_is_thing)=true)
    (a_tells_each_once : PySem.W.nsIn K mainGlobals "tells_each_once" = some (some (.ref f_tells_each_once))) (l_tells_each_once : K.lookup f_tells_each_once=some ⟨oc0,od0,.func (PySem.W.fnOf "tells_each_once" "tells_each_once" (z0w z0B) (z0o z0B) (z0a z0B) .none kV0 dc0 pm0 an0 cd0 ct0),sl0⟩) (c_tells_each_once : PySem.W.codeIn K cd0 "tells_each_once" = true) (k_tells_each_once : PySem.W.keepIn K (.ref f_tells_each_once)=true)
    (a_raised_order : PySem.W.nsIn K mainGlobals "raised_order" = some (some (.ref f_raised_order))) (l_raised_order : K.lookup f_raised_order=some ⟨oc7,od7,.func (PySem.W.fnOf "raised_order" "raised_order" (z0w z0N) (z0o z0N) (z0a z0N) .none kV7 dc7 pm7 an7 cd7 ct7),sl7⟩) (c_raised_order : PySem.W.codeIn K cd7 "raised_order" = true) (k_raised_order : PySem.W.keepIn K (.ref f_raised_order)=true)
    (a__law_order : PySem.W.nsIn K mainGlobals "_law_order" = some (some (.ref f__law_order))) (l__law_order : K.lookup f__law_order=some ⟨oc14,od14,.func (PySem.W.fnOf "_law_order" "_law_order" (z0w z1s) (z0o z1s) (z0a z1s) .none kV14 dc14 pm14 an14 cd14 ct14),sl14⟩) (c__law_order : PySem.W.codeIn K cd14 "_law_order" = true) (k__law_order : PySem.W.keepIn K (.ref f__law_order)=true)
    (a__law_raised : PySem.W.nsIn K mainGlobals "_law_raised" = some (some (.ref f__law_raised))) (l__law_raised : K.lookup f__law_raised=some ⟨oc11,od11,.func (PySem.W.fnOf "_law_raised" "_law_raised" (z0w z0T) (z0o z0T) (z0a z0T) .none kV11 dc11 pm11 an11 cd11 ct11),sl11⟩) (c__law_raised : PySem.W.codeIn K cd11 "_law_raised" = true) (k__law_raised : PySem.W.keepIn K (.ref f__law_raised)=true)
    (a__law_after : PySem.W.nsIn K mainGlobals "_law_after" = some (some (.ref f__law_after))) (l__law_after : K.lookup f__law_after=some ⟨oc13,od13,.func (PySem.W.fnOf "_law_after" "_law_after" (z0w z1p) (z0o z1p) (z0a z1p) .none kV13 dc13 pm13 an13 cd13 ct13),sl13⟩) (c__law_after : PySem.W.codeIn K cd13 "_law_after" = true) (k__law_after : PySem.W.keepIn K (.ref f__law_after)=true)
    (a__law_stand : PySem.W.nsIn K mainGlobals "_law_stand" = some (some (.ref f__law_stand))) (l__law_stand : K.lookup f__law_stand=some ⟨oc15,od15,.func (PySem.W.fnOf "_law_stand" "_law_stand" (z0w z1n) (z0o z1n) (z0a z1n) .none kV15 dc15 pm15 an15 cd15 ct15),sl15⟩) (c__law_stand : PySem.W.codeIn K cd15 "_law_stand" = true) (k__law_stand : PySem.W.keepIn K (.ref f__law_stand)=true)
    (a__law_kept : PySem.W.nsIn K mainGlobals "_law_kept" = some (some (.ref f__law_kept))) (l__law_kept : K.lookup f__law_kept=some ⟨oc20,od20,.func (PySem.W.fnOf "_law_kept" "_law_kept" (z0w z1H) (z0o z1H) (z0a z1H) .none kV20 dc20 pm20 an20 cd20 ct20),sl20⟩) (c__law_kept : PySem.W.codeIn K cd20 "_law_kept" = true) (k__law_kept : PySem.W.keepIn K (.ref f__law_kept)=true)
    (a__law_done : PySem.W.nsIn K mainGlobals "_law_done" = some (some (.ref f__law_done))) (l__law_done : K.lookup f__law_done=some ⟨oc19,od19,.func (PySem.W.fnOf "_law_done" "_law_done" (z0w z1F) (z0o z1F) (z0a z1F) .none kV19 dc19 pm19 an19 cd19 ct19),sl19⟩) (c__law_done : PySem.W.codeIn K cd19 "_law_done" = true) (k__law_done : PySem.W.keepIn K (.ref f__law_done)=true)
    (a__law_back : PySem.W.nsIn K mainGlobals "_law_back" = some (some (.ref f__law_back))) (l__law_back : K.lookup f__law_back=some ⟨oc18,od18,.func (PySem.W.fnOf "_law_back" "_law_back" (z0w z1K) (z0o z1K) (z0a z1K) .none kV18 dc18 pm18 an18 cd18 ct18),sl18⟩) (c__law_back : PySem.W.codeIn K cd18 "_law_back" = true) (k__law_back : PySem.W.keepIn K (.ref f__law_back)=true)
    (a__law_none_left : PySem.W.nsIn K mainGlobals "_law_none_left" = some (some (.ref f__law_none_left))) (l__law_none_left : K.lookup f__law_none_left=some ⟨oc3,od3,.func (PySem.W.fnOf "_law_none_left" "_law_none_left" (z0w z0E) (z0o z0E) (z0a z0E) .none kV3 dc3 pm3 an3 cd3 ct3),sl3⟩) (c__law_none_left : PySem.W.codeIn K cd3 "_law_none_left" = true) (k__law_none_left : PySem.W.keepIn K (.ref f__law_none_left)=true)
    (a_law : PySem.W.nsIn K mainGlobals "law" = some (some (.ref f_law))) (l_law : K.lookup f_law=some ⟨oc22,od22,.func (PySem.W.fnOf "law" "law" (z0w z6x) (z0o z6x) (z0a z6x) .none kV22 dc22 pm22 an22 cd22 ct22),sl22⟩) (c_law : PySem.W.codeIn K cd22 "law" = true) (k_law : PySem.W.keepIn K (.ref f_law)=true)
    (a_Book___init__ : PySem.W.findIn K (.ref C_Book) "__init__" = some (some (.ref f_Book___init__))) (l_Book___init__ : K.lookup f_Book___init__=some ⟨oc4,od4,.func (PySem.W.fnOf "__init__" "Book.__init__" (z0w z0J) (z0o z0J) (z0a z0J) .none kV4 dc4 pm4 an4 cd4 ct4),sl4⟩) (c_Book___init__ : PySem.W.codeIn K cd4 "Book.__init__" = true) (k_Book___init__ : PySem.W.keepIn K (.ref f_Book___init__)=true)
    (a_Book_many : PySem.W.findIn K (.ref C_Book) "many" = some (some (.ref f_Book_many))) (l_Book_many : K.lookup f_Book_many=some ⟨oc17,od17,.func (PySem.W.fnOf "many" "Book.many" (z0w z1J) (z0o z1J) (z0a z1J) .none kV17 dc17 pm17 an17 cd17 ct17),sl17⟩) (c_Book_many : PySem.W.codeIn K cd17 "Book.many" = true) (k_Book_many : PySem.W.keepIn K (.ref f_Book_many)=true)
    (a_Book_put_in : PySem.W.findIn K (.ref C_Book) "put_in" = some (some (.ref f_Book_put_in))) (l_Book_put_in : K.lookup f_Book_put_in=some ⟨oc9,od9,.func (PySem.W.fnOf "put_in" "Book.put_in" (z0w z0U) (z0o z0U) (z0a z0U) .none kV9 dc9 pm9 an9 cd9 ct9),sl9⟩) (c_Book_put_in : PySem.W.codeIn K cd9 "Book.put_in" = true) (k_Book_put_in : PySem.W.keepIn K (.ref f_Book_put_in)=true)
    (a_Book_go_out : PySem.W.findIn K (.ref C_Book) "go_out" = some (some (.ref f_Book_go_out))) (l_Book_go_out : K.lookup f_Book_go_out=some ⟨oc8,od8,.func (PySem.W.fnOf "go_out" "Book.go_out" (z0w z1a) (z0o z1a) (z0a z1a) .none kV8 dc8 pm8 an8 cd8 ct8),sl8⟩) (c_Book_go_out : PySem.W.codeIn K cd8 "Book.go_out" = true) (k_Book_go_out : PySem.W.keepIn K (.ref f_Book_go_out)=true)
    (a_Book_raised : PySem.W.findIn K (.ref C_Book) "raised" = some (some (.ref f_Book_raised))) (l_Book_raised : K.lookup f_Book_raised=some ⟨oc10,od10,.func (PySem.W.fnOf "raised" "Book.raised" (z0w z0V) (z0o z0V) (z0a z0V) .none kV10 dc10 pm10 an10 cd10 ct10),sl10⟩) (c_Book_raised : PySem.W.codeIn K cd10 "Book.raised" = true) (k_Book_raised : PySem.W.keepIn K (.ref f_Book_raised)=true)
    (a_Book_take_back : PySem.W.findIn K (.ref C_Book) "take_back" = some (some (.ref f_Book_take_back))) (l_Book_take_back : K.lookup f_Book_take_back=some ⟨oc2,od2,.func (PySem.W.fnOf "take_back" "Book.take_back" (z0w z0D) (z0o z0D) (z0a z0D) .none kV2 dc2 pm2 an2 cd2 ct2),sl2⟩) (c_Book_take_back : PySem.W.codeIn K cd2 "Book.take_back" = true) (k_Book_take_back : PySem.W.keepIn K (.ref f_Book_take_back)=true)
    (a_Book_change_to : PySem.W.findIn K (.ref C_Book) "change_to" = some (some (.ref f_Book_change_to))) (l_Book_change_to : K.lookup f_Book_change_to=some ⟨oc1,od1,.func (PySem.W.fnOf "change_to" "Book.change_to" (z0w z0C) (z0o z0C) (z0a z0C) .none kV1 dc1 pm1 an1 cd1 ct1),sl1⟩) (c_Book_change_to : PySem.W.codeIn K cd1 "Book.change_to" = true) (k_Book_change_to : PySem.W.keepIn K (.ref f_Book_change_to)=true)
    (a_Book_place_of : PySem.W.findIn K (.ref C_Book) "place_of" = some (some (.ref f_Book_place_of))) (l_Book_place_of : K.lookup f_Book_place_of=some ⟨oc5,od5,.func (PySem.W.fnOf "place_of" "Book.place_of" (z0w z0L) (z0o z0L) (z0a z0L) .none kV5 dc5 pm5 an5 cd5 ct5),sl5⟩) (c_Book_place_of : PySem.W.codeIn K cd5 "Book.place_of" = true) (k_Book_place_of : PySem.W.keepIn K (.ref f_Book_place_of)=true)
    (a_Book_numbers : PySem.W.findIn K (.ref C_Book) "numbers" = some (some (.ref f_Book_numbers))) (l_Book_numbers : K.lookup f_Book_numbers=some ⟨oc6,od6,.func (PySem.W.fnOf "numbers" "Book.numbers" (z0w z0O) (z0o z0O) (z0a z0O) .none kV6 dc6 pm6 an6 cd6 ct6),sl6⟩) (c_Book_numbers : PySem.W.codeIn K cd6 "Book.numbers" = true) (k_Book_numbers : PySem.W.keepIn K (.ref f_Book_numbers)=true)
    (a_Book_votes : PySem.W.findIn K (.ref C_Book) "votes" = some (some (.ref f_Book_votes))) (l_Book_votes : K.lookup f_Book_votes=some ⟨oc12,od12,.func (PySem.W.fnOf "votes" "Book.votes" (z0w z1m) (z0o z1m) (z0a z1m) .none kV12 dc12 pm12 an12 cd12 ct12),sl12⟩) (c_Book_votes : PySem.W.codeIn K cd12 "Book.votes" = true) (k_Book_votes : PySem.W.keepIn K (.ref f_Book_votes)=true)
    (a_Book_left : PySem.W.findIn K (.ref C_Book) "left" = some (some (.ref f_Book_left))) (l_Book_left : K.lookup f_Book_left=some ⟨oc16,od16,.func (PySem.W.fnOf "left" "Book.left" (z0w z1I) (z0o z1I) (z0a z1I) .none kV16 dc16 pm16 an16 cd16 ct16),sl16⟩) (c_Book_left : PySem.W.codeIn K cd16 "Book.left" = true) (k_Book_left : PySem.W.keepIn K (.ref f_Book_left)=true)
    (i_Book___init__ : PySem.W.isFn K (.ref f_Book___init__)=true) (i_Book_many : PySem.W.isFn K (.ref f_Book_many)=true) (i_Book_put_in : PySem.W.isFn K (.ref f_Book_put_in)=true) (i_Book_go_out : PySem.W.isFn K (.ref f_Book_go_out)=true) (i_Book_raised : PySem.W.isFn K (.ref f_Book_raised)=true) (i_Book_take_back : PySem.W.isFn K (.ref f_Book_take_back)=true) (i_Book_change_to : PySem.W.isFn K (.ref f_Book_change_to)=true) (i_Book_place_of : PySem.W.isFn K (.ref f_Book_place_of)=true) (i_Book_numbers : PySem.W.isFn K (.ref f_Book_numbers)=true) (i_Book_votes : PySem.W.isFn K (.ref f_Book_votes)=true) (i_Book_left : PySem.W.isFn K (.ref f_Book_left)=true)
    (w_e_MOST_BALLOTS : PySem.W.nsIn K mainGlobals "MOST_BALLOTS" = some (some (.int 99 w_MOST_BALLOTS)))
    (x_BadBallot : PySem.W.nsIn K mainGlobals "BadBallot" = some (some (.ref C_BadBallot))) (q_BadBallot : PySem.W.excIn K C_BadBallot y0s "ValueError.__new__" = true)
    (x_BadNumber : PySem.W.nsIn K mainGlobals "BadNumber" = some (some (.ref C_BadNumber))) (q_BadNumber : PySem.W.excIn K C_BadNumber y0s "ValueError.__new__" = true)
    (x_Unknown : PySem.W.nsIn K mainGlobals "Unknown" = some (some (.ref C_Unknown))) (q_Unknown : PySem.W.excIn K C_Unknown y0s "ValueError.__new__" = true)
    (x_TooMany : PySem.W.nsIn K mainGlobals "TooMany" = some (some (.ref C_TooMany))) (q_TooMany : PySem.W.excIn K C_TooMany y0s "ValueError.__new__" = true)
    (x_NothingLeft : PySem.W.nsIn K mainGlobals "NothingLeft" = some (some (.ref C_NothingLeft))) (q_NothingLeft : PySem.W.excIn K C_NothingLeft y0s "ValueError.__new__" = true)
    (e_NothingLeft_NothingLeft : PySem.W.exmOne K (.ref C_NothingLeft) (.ref C_NothingLeft)=some true)
    (z_int : PySem.W.nsIn K mainGlobals "int" = some none) (z_isinstance : PySem.W.nsIn K mainGlobals "isinstance" = some none) (z_bool : PySem.W.nsIn K mainGlobals "bool" = some none) (z_len : PySem.W.nsIn K mainGlobals "len" = some none) (z_tuple : PySem.W.nsIn K mainGlobals "tuple" = some none) (z_list : PySem.W.nsIn K mainGlobals "list" = some none) (z_range : PySem.W.nsIn K mainGlobals "range" = some none) (z_min : PySem.W.nsIn K mainGlobals "min" = some none) :
    ∃ fd : FuncData,(∀ (s : Shared) (v : Value),BindsTo s fd ⟨[v],[]⟩ [("script",v)])∧∀ base : Heap,K.In base->base.Ns mainGlobals mg->FnOk l.prog w K mg base CX0 5 fa fd ["script"] (y2j K z9z):=by
  have e:=hfa.symm.trans (PySem.W.mg_of X G a_law)
  cases e
  have T : Txt mg:=⟨PySem.W.mg_none_of X G z_int,PySem.W.mg_none_of X G z_isinstance,PySem.W.mg_none_of X G z_bool,PySem.W.mg_none_of X G z_len,PySem.W.mg_none_of X G z_tuple,PySem.W.mg_none_of X G z_list,PySem.W.mg_none_of X G z_range,PySem.W.mg_none_of X G z_min,⟨_,PySem.W.mg_of X G w_e_MOST_BALLOTS⟩⟩
  have F_is_thing:=z0P (st:=z2b) l_is_thing c_is_thing k_is_thing
  have b_is_thing:=F_is_thing.binds (ps:=z4a) fun _ _ _ _ _ _ us hl=>by obtain ⟨_,_,rfl⟩:=y2c hl; rfl
  have F_tells_each_once:=z0P (st:=z0B) l_tells_each_once c_tells_each_once k_tells_each_once
  have b_tells_each_once:=F_tells_each_once.binds (ps:=z1L) fun _ _ _ _ _ _ us hl=>by obtain ⟨_,_,rfl⟩:=y2c hl; rfl
  have F_raised_order:=z0P (st:=z0N) l_raised_order c_raised_order k_raised_order
  have b_raised_order:=F_raised_order.binds (ps:=z1N) fun _ _ _ _ _ _ us hl=>by obtain ⟨_,_,rfl⟩:=y2c hl; rfl
  have F__law_order:=z0P (st:=z1s) l__law_order c__law_order k__law_order
  have b__law_order:=F__law_order.binds (ps:=z3b) fun _ _ _ _ _ _ us hl=>by obtain ⟨_,_,rfl⟩:=y2c hl; rfl
  have F__law_raised:=z0P (st:=z0T) l__law_raised c__law_raised k__law_raised
  have b__law_raised:=F__law_raised.binds (ps:=z2J) fun _ _ _ _ _ _ us hl=>by obtain ⟨_,_,rfl⟩:=y2c hl; rfl
  have F__law_after:=z0P (st:=z1p) l__law_after c__law_after k__law_after
  have b__law_after:=F__law_after.binds (ps:=z2V) fun _ _ _ _ _ _ us hl=>by obtain ⟨_,_,_,_,rfl⟩:=us_4 hl; rfl
  have F__law_stand:=z0P (st:=z1n) l__law_stand c__law_stand k__law_stand
  have b__law_stand:=F__law_stand.binds (ps:=z2X) fun _ _ _ _ _ _ us hl=>by obtain ⟨_,rfl⟩:=y2b hl; rfl
  have F__law_kept:=z0P (st:=z1H) l__law_kept c__law_kept k__law_kept
  have b__law_kept:=F__law_kept.binds (ps:=z3w) fun _ _ _ _ _ _ us hl=>by obtain ⟨_,rfl⟩:=y2b hl; rfl
  have F__law_done:=z0P (st:=z1F) l__law_done c__law_done k__law_done
  have b__law_done:=F__law_done.binds (ps:=z3u) fun _ _ _ _ _ _ us hl=>by obtain ⟨_,_,_,rfl⟩:=us_3 hl; rfl
  have F__law_back:=z0P (st:=z1K) l__law_back c__law_back k__law_back
  have b__law_back:=F__law_back.binds (ps:=z3B) fun _ _ _ _ _ _ us hl=>by obtain ⟨_,_,_,rfl⟩:=us_3 hl; rfl
  have F__law_none_left:=z0P (st:=z0E) l__law_none_left c__law_none_left k__law_none_left
  have b__law_none_left:=F__law_none_left.binds (ps:=z1h) fun _ _ _ _ _ _ us hl=>by obtain ⟨_,rfl⟩:=y2b hl; rfl
  have F_law:=z0P (st:=z6x) l_law c_law k_law
  have b_law:=F_law.binds (ps:=P_law) fun _ _ _ _ _ _ us hl=>by obtain ⟨_,rfl⟩:=y2b hl; rfl
  have F_Book___init__:=z0P (st:=z0J) l_Book___init__ c_Book___init__ k_Book___init__
  have b_Book___init__:=F_Book___init__.binds (ps:=z1w) fun _ _ _ _ _ _ us hl=>by obtain ⟨_,_,rfl⟩:=y2c hl; rfl
  have F_Book_many:=z0P (st:=z1J) l_Book_many c_Book_many k_Book_many
  have b_Book_many:=F_Book_many.binds (ps:=z2M) fun _ _ _ _ _ _ us hl=>by obtain ⟨_,rfl⟩:=y2b hl; rfl
  have F_Book_put_in:=z0P (st:=z0U) l_Book_put_in c_Book_put_in k_Book_put_in
  have b_Book_put_in:=F_Book_put_in.binds (ps:=z1Y) fun _ _ _ _ _ _ us hl=>by obtain ⟨_,_,_,rfl⟩:=us_3 hl; rfl
  have F_Book_go_out:=z0P (st:=z1a) l_Book_go_out c_Book_go_out k_Book_go_out
  have b_Book_go_out:=F_Book_go_out.binds (ps:=z2a) fun _ _ _ _ _ _ us hl=>by obtain ⟨_,_,rfl⟩:=y2c hl; rfl
  have F_Book_raised:=z0P (st:=z0V) l_Book_raised c_Book_raised k_Book_raised
  have b_Book_raised:=F_Book_raised.binds (ps:=z1V) fun _ _ _ _ _ _ us hl=>by obtain ⟨_,_,_,rfl⟩:=us_3 hl; rfl
  have F_Book_take_back:=z0P (st:=z0D) l_Book_take_back c_Book_take_back k_Book_take_back
  have b_Book_take_back:=F_Book_take_back.binds (ps:=z1l) fun _ _ _ _ _ _ us hl=>by obtain ⟨_,rfl⟩:=y2b hl; rfl
  have F_Book_change_to:=z0P (st:=z0C) l_Book_change_to c_Book_change_to k_Book_change_to
  have b_Book_change_to:=F_Book_change_to.binds (ps:=z1i) fun _ _ _ _ _ _ us hl=>by obtain ⟨_,_,rfl⟩:=y2c hl; rfl
  have F_Book_place_of:=z0P (st:=z0L) l_Book_place_of c_Book_place_of k_Book_place_of
  have b_Book_place_of:=F_Book_place_of.binds (ps:=z1u) fun _ _ _ _ _ _ us hl=>by obtain ⟨_,_,rfl⟩:=y2c hl; rfl
  have F_Book_numbers:=z0P (st:=z0O) l_Book_numbers c_Book_numbers k_Book_numbers
  have b_Book_numbers:=F_Book_numbers.binds (ps:=z1M) fun _ _ _ _ _ _ us hl=>by obtain ⟨_,rfl⟩:=y2b hl; rfl
  have F_Book_votes:=z0P (st:=z1m) l_Book_votes c_Book_votes k_Book_votes
  have b_Book_votes:=F_Book_votes.binds (ps:=z2n) fun _ _ _ _ _ _ us hl=>by obtain ⟨_,rfl⟩:=y2b hl; rfl
  have F_Book_left:=z0P (st:=z1I) l_Book_left c_Book_left k_Book_left
  have b_Book_left:=F_Book_left.binds (ps:=z2N) fun _ _ _ _ _ _ us hl=>by obtain ⟨_,rfl⟩:=y2b hl; rfl
  refine ⟨PySem.W.fnOf "law" "law" (z0w z6x) (z0o z6x) (z0a z6x) .none kV22 dc22 pm22 an22 cd22 ct22,fun s v=>.of_eq rfl,fun base KB GB=>?_⟩
  let cl : Nat->Value:=fun n=>match n with | 1=>.ref C_BadBallot | 2=>.ref C_BadNumber | 3=>.ref C_Unknown | 4=>.ref C_TooMany | 5=>.ref C_NothingLeft | _=>.none
  have Z : Cls K mg base cl:=⟨⟨C_BadBallot,rfl,z7c KB GB x_BadBallot q_BadBallot,x_BadBallot,trivial⟩,⟨C_BadNumber,rfl,z7c KB GB x_BadNumber q_BadNumber,x_BadNumber,trivial⟩,⟨C_Unknown,rfl,z7c KB GB x_Unknown q_Unknown,x_Unknown,trivial⟩,⟨C_TooMany,rfl,z7c KB GB x_TooMany q_TooMany,x_TooMany,trivial⟩,⟨C_NothingLeft,rfl,z7c KB GB x_NothingLeft q_NothingLeft,x_NothingLeft,trivial⟩,fun C h=>by cases h; exact e_NothingLeft_NothingLeft⟩
  have G_is_thing : DefOk l.prog w K mg base 1 "is_thing" (spN K z1r):=z7H F_is_thing (PySem.W.mg_of X G a_is_thing) b_is_thing T
  have G_tells_each_once : DefOk l.prog w K mg base 2 "tells_each_once" (spN K z0I):=z3G F_tells_each_once (PySem.W.mg_of X G a_tells_each_once) b_tells_each_once T G_is_thing
  have G_raised_order : DefX l.prog w K mg base 1 "raised_order" (spX K cl z1f):=z5d F_raised_order (PySem.W.mg_of X G a_raised_order) b_raised_order T Z
  have G__law_order : DefOk l.prog w K mg base 1 "_law_order" (spN K z1Q):=z6v F__law_order (PySem.W.mg_of X G a__law_order) b__law_order T
  have G__law_raised : DefOk l.prog w K mg base 1 "_law_raised" (spN K z1x):=z5C F__law_raised (PySem.W.mg_of X G a__law_raised) b__law_raised T
  have G__law_after : DefOk l.prog w K mg base 2 "_law_after" (spN K z1q):=z6k F__law_after (PySem.W.mg_of X G a__law_after) b__law_after T G__law_order G__law_raised
  have G_Book___init__ : NewOk l.prog w K mg base 1 "Book" := z4F F_Book___init__ x_Book ⟨mk_Book,a_Book___init__,i_Book___init__,kc_Book⟩ (PySem.W.mg_of X G x_Book) ic_Book b_Book___init__ T
  have G_Book_many : MethOk l.prog w K mg base 1 "Book" "many" (spN K z2e):=z7w F_Book_many x_Book (z1d ic_Book).1 ⟨a_Book_many,i_Book_many,k_Book_many⟩ b_Book_many T
  have G_Book_take_back : MethX l.prog w K mg base 1 "Book" "take_back" (z5v K cl z0p):=z3Y F_Book_take_back x_Book (z1d ic_Book).1 ⟨a_Book_take_back,i_Book_take_back,k_Book_take_back⟩ b_Book_take_back T Z
  have G__law_none_left : DefX l.prog w K mg base 2 "_law_none_left" (z5v K cl z0z):=z4e F__law_none_left (PySem.W.mg_of X G a__law_none_left) b__law_none_left T Z G_Book_take_back
  have G_Book_change_to : MethOk l.prog w K mg base 1 "Book" "change_to" (spC K):=z3Z F_Book_change_to x_Book (z1d ic_Book).1 ⟨a_Book_change_to,i_Book_change_to,k_Book_change_to⟩ b_Book_change_to T
  have G_Book_put_in : MethX l.prog w K mg base 3 "Book" "put_in" (z5v K cl z0S):=z5x F_Book_put_in x_Book (z1d ic_Book).1 ⟨a_Book_put_in,i_Book_put_in,k_Book_put_in⟩ b_Book_put_in T Z G_tells_each_once G_Book_change_to
  have G_Book_numbers : MethOk l.prog w K mg base 1 "Book" "numbers" (spN K z0j):=z4P F_Book_numbers x_Book (z1d ic_Book).1 ⟨a_Book_numbers,i_Book_numbers,k_Book_numbers⟩ b_Book_numbers T
  have G_Book_place_of : MethX l.prog w K mg base 2 "Book" "place_of" (spX K cl z0v):=z4B F_Book_place_of x_Book (z1d ic_Book).1 ⟨a_Book_place_of,i_Book_place_of,k_Book_place_of⟩ b_Book_place_of T Z G_Book_numbers
  have G_Book_go_out : MethX l.prog w K mg base 3 "Book" "go_out" (z5v K cl z0W):=z5z F_Book_go_out x_Book (z1d ic_Book).1 ⟨a_Book_go_out,i_Book_go_out,k_Book_go_out⟩ b_Book_go_out T Z G_Book_change_to G_Book_place_of
  have G_Book_raised : MethX l.prog w K mg base 3 "Book" "raised" (z5v K cl z0Y):=z5B F_Book_raised x_Book (z1d ic_Book).1 ⟨a_Book_raised,i_Book_raised,k_Book_raised⟩ b_Book_raised T Z G_is_thing G_raised_order G_Book_change_to G_Book_place_of
  have G__law_done : DefOk l.prog w K mg base 4 "_law_done" (y0Y K false z0G):=z7p F__law_done (PySem.W.mg_of X G a__law_done) b__law_done T Z G_Book_put_in G_Book_go_out G_Book_raised
  have G_Book_votes : MethOk l.prog w K mg base 1 "Book" "votes" (spN K z0t):=z6E F_Book_votes x_Book (z1d ic_Book).1 ⟨a_Book_votes,i_Book_votes,k_Book_votes⟩ b_Book_votes T
  have G__law_kept : DefOk l.prog w K mg base 2 "_law_kept" (spN K z1D):=z6O F__law_kept (PySem.W.mg_of X G a__law_kept) b__law_kept T G_Book_numbers G_Book_votes
  have G_Book_left : MethOk l.prog w K mg base 1 "Book" "left" (spN K z0x):=z7s F_Book_left x_Book (z1d ic_Book).1 ⟨a_Book_left,i_Book_left,k_Book_left⟩ b_Book_left T
  have G__law_stand : DefOk l.prog w K mg base 2 "_law_stand" (spN K z0F):=z5V F__law_stand (PySem.W.mg_of X G a__law_stand) b__law_stand T G_Book_many G_Book_numbers G_Book_votes G_Book_left
  have G__law_back : DefOk l.prog w K mg base 3 "_law_back" (y0Y K true z0H):=z7i F__law_back (PySem.W.mg_of X G a__law_back) b__law_back T Z G_Book_take_back G__law_stand
  exact law_of (ok_law F_law T Z G__law_after G_Book___init__ G__law_none_left G_Book_numbers G__law_done G_Book_votes G__law_kept G_Book_left G__law_stand G__law_back)
theorem walk {l : PySem.W.OpenLaw} {q : Program} {loose : List Str} {XP : (Str->Option Value)->Heap->Prop} {YP : World->Heap->Prop} {d : DefRec} {K : Params->PySem.W.Frag} (hn : l.most=some 63) (hdf : d.params.defaults=[])
    (hlaw : ∀ ns : List Int,ns.length≤63->z9z [.scr ns]=some (.bl true)) (hY : ∀ (w : World) (h : Heap),YP w h->(K w.params).In h)
    (F : ∀ (w : World) (mg : Str->Option Value) (fa : Addr) (h : Heap),(K w.params).In h->h.Ns mainGlobals mg->mg d.name=some (.ref fa) →
      ∃ fd : FuncData,(∀ (s : Shared) (u : Value),BindsTo s fd ⟨[u],[]⟩ [("script",u)])∧∀ base : Heap,(K w.params).In base->base.Ns mainGlobals mg->FnOk l.prog w (K w.params) mg base CX0 5 fa fd ["script"] (y2j (K w.params) z9z)) :
    PySem.W.WalkO q loose XP YP l.row.toRowW d [] (fun f vs=>PySem.call f vs):=
  L2.walk_of (n:=63) (k:=5) (x := "script") (CX:=fun _=>CX0) (sp:=fun w=>y2j (K w.params) z9z) hn (by decide) hdf ⟨rfl,by decide,by decide⟩ hY F (fun _ _ a ns hl hO hS=>⟨a,ns,rfl,y3A hO hS,hlaw ns hl,fun _=>rfl⟩) fun _ _ _ _ _ z=>z
end Prg
namespace Prg
open PySem L2
open Lean in
local macro_rules
  | `(tactic| simp! only [$xs,*] $[$loc]?)=>do
    let a ← (("ev_var0 ev_varS ev_C ev_d2 ev_d1 ev_test y2R ev_orT ev_notT ev_and y3n y2u ev_call y2V ev_mkL ev_mkT y1P y3l ev_is ev_seq ev_rng1 ev_comp ev_part y1o ev_cut ev_seqO ev_skip ev_asgI ev_asgN ev_retI ev_retN ev_ifO ev_forO ev_st0 y3c y3p y2g ev_din' ev_dput ev_cat ev_isN ev_notN y2z y2Y ev_asgX ev_try ev_forI ev_cutT ev_iv1 eo_2 eo_and eo_orT eo_orTt eo_itet eo_itef eo_cons eo_nx eo_rt eo_set eo_rtO eo_for eo_immI eo_immB eo_immN eo_part eo_cutL eo_cutR eo_put eo_in y2i eo_xaV eo_bex eo_trE eo_forI ea_at0 ea_at1 z6Q y0i ea_lt y3G ea_gt ea_ge z8W ea_neI ea_not ea_truB ea_truL ea_seqL z3A ea_ixL ea_ixR ea_isBI ea_isII ea_asB es_all0 es_allS es_sh0 es_shS es_v1 es_v2 es_shO y2T y2U y0f z9Z y2O es_ow0 es_owS eb_bs eb_ms eb_mn eb_s0 eb_sS eb_mc eb_mnil eb_rS eb_r0 eb_ca eb_na".splitOn " ").toArray).mapM fun s=>`(Lean.Parser.Tactic.simpLemma| $(mkIdent s.toName):term)
    let b : Syntax.TSepArray [`Lean.Parser.Tactic.simpStar,`Lean.Parser.Tactic.simpErase,`Lean.Parser.Tactic.simpLemma] "," := ⟨(Syntax.TSepArray.ofElems (sep := ",") a).elemsAndSeps⟩
    `(tactic| simp only [$b,*,$xs,*] $[$loc]?)
open Lean in
local macro_rules
  | `(tactic| simp_all! only [$xs,*])=>do
    let a ← (("Int.reduceEq Int.reduceLT Int.reduceLE Int.reduceGT Int.reduceAdd Int.reduceSub Int.reduceMul Int.reduceNeg decide_true decide_false Bool.or_false Bool.false_or Bool.or_true Bool.true_or Bool.and_true Bool.true_and Bool.and_false Bool.false_and Bool.not_true Bool.not_false".splitOn " ").toArray).mapM fun s=>`(Lean.Parser.Tactic.simpLemma| $(mkIdent s.toName):term)
    let b : Syntax.TSepArray [`Lean.Parser.Tactic.simpStar,`Lean.Parser.Tactic.simpErase,`Lean.Parser.Tactic.simpLemma] "," := ⟨(Syntax.TSepArray.ofElems (sep := ",") a).elemsAndSeps⟩
    `(tactic| simp! only [$b,*,$xs,*])
noncomputable abbrev Bt:=Int × Int × List Int
noncomputable def enD (b : Bt) : D:=.tup [.int b.1,.int b.2.1,z1E b.2.2]
noncomputable abbrev bk (a : Addr) (m : Nat) (es : List Bt) (ls : List D) (n : Int) : D:=bkD a (m : Int) (es.map enD) ls n
theorem en0 {b : Bt} : ixD (enD b) (.int 0)=some (.int b.1):=(rfl)
theorem en1 {b : Bt} : ixD (enD b) (.int 1)=some (.int b.2.1):=(rfl)
theorem en2 {b : Bt} : ixD (enD b) (.int 2)=some (z1E b.2.2):=(rfl)
theorem z2m {o : List Int} : (z1E o).imm=true:=z3i o
theorem z8O (b : Bt) : (enD b).imm=true:=by
  show (true && (true && ((z1E b.2.2).imm && true)))=true
  rw [z2m]; rfl
theorem z2U : ∀ es : List Bt,z2Z (es.map enD)=true
  | []=>rfl
  | b :: r=>by
    show ((enD b).imm && z2Z (r.map enD))=true
    rw [z8O,z2U r]; rfl
theorem z4K : ∀ es : List (Int × List Int),z2Z (es.map z7F)=true
  | []=>rfl
  | b :: r=>by
    show ((z7F b).imm && z2Z (r.map z7F))=true
    rw [z4K r,show (z7F b).imm=true from by show (true && ((z1E b.2).imm && true))=true; rw [z2m]; rfl]; rfl
section
variable {a : Addr} {m : Nat} {es : List Bt} {ls : List D} {n : Int}
noncomputable def z2k (es : List Bt) : List Int:=es.map (·.1)
noncomputable def vtL (es : List Bt) : List (Int × List Int):=es.map fun b=>(b.2.1,b.2.2)
theorem z3g (hl : es.length≤1000) : z0j [bk a m es ls n]=some (.lst ((z2k es).map .int)):=by
  refine z3p rfl ?_
  have hl' : (es.map enD).length≤1000000:=by rw [List.length_map]; omega
  have c : z3c (z8e y3N (d2 ixD (z0f 1) (dC (.int 0))) [some (bk a m es ls n)]) (es.map enD)=some ((z2k es).map .int):=by
    unfold z2k
    rw [List.map_map]
    exact z4l (fun b : Bt=>.int b.1) fun b _=>by simp! only [en0]
  have fl:=z1S (z3i (z2k es))
  simp! only [z2s,z4W,z7J hl',c,fl,z0g]
theorem z6s (hl : es.length≤1000) : z0t [bk a m es ls n]=some (votD (vtL es)):=by
  refine z3p rfl ?_
  have hl' : (es.map enD).length≤1000000:=by rw [List.length_map]; omega
  have c : z3c (z8e y3N (mkT (z0n [(d2 ixD (z0f 1) (dC (.int 1))),(d2 ixD (z0f 1) (dC (.int 2)))])) [some (bk a m es ls n)]) (es.map enD)=some ((vtL es).map z7F):=by
    unfold vtL
    rw [List.map_map]
    exact z4l (fun b : Bt=>z7F (b.2.1,b.2.2)) fun b _=>by simp! only [en1,en2]; rfl
  have fl:=z1S (z4K (vtL es))
  simp! only [z3d,z4W,z7J hl',c,fl,z0g]
  rfl
theorem z8h : z0x [bk a m es ls n]=some (.int (ls.length : Int)):=by
  refine z3p rfl ?_
  simp! only [z3x,y1J,z0g]
end
theorem y2N {α : Type} {F : List D->Option α} {a : Addr} {m n : Int} {es ls r : List D} : z1O "Book" "numbers" F (bkD a m es ls n :: r)=F (bkD a m es ls n :: r):=z3P (by decide +kernel)
theorem q_vot {α : Type} {F : List D->Option α} {a : Addr} {m n : Int} {es ls r : List D} : z1O "Book" "votes" F (bkD a m es ls n :: r)=F (bkD a m es ls n :: r):=z3P (by decide +kernel)
theorem q_lft {α : Type} {F : List D->Option α} {a : Addr} {m n : Int} {es ls r : List D} : z1O "Book" "left" F (bkD a m es ls n :: r)=F (bkD a m es ls n :: r):=z3P (by decide +kernel)
theorem q_mny {α : Type} {F : List D->Option α} {a : Addr} {m n : Int} {es ls r : List D} : z1O "Book" "many" F (bkD a m es ls n :: r)=F (bkD a m es ls n :: r):=z3P (by decide +kernel)
theorem q_plc {α : Type} {F : List D->Option α} {a : Addr} {m n : Int} {es ls r : List D} : z1O "Book" "place_of" F (bkD a m es ls n :: r)=F (bkD a m es ls n :: r):=z3P (by decide +kernel)
theorem q_put {α : Type} {F : List D->Option α} {a : Addr} {m n : Int} {es ls r : List D} : z1O "Book" "put_in" F (bkD a m es ls n :: r)=F (bkD a m es ls n :: r):=z3P (by decide +kernel)
theorem q_out {α : Type} {F : List D->Option α} {a : Addr} {m n : Int} {es ls r : List D} : z1O "Book" "go_out" F (bkD a m es ls n :: r)=F (bkD a m es ls n :: r):=z3P (by decide +kernel)
theorem q_rsd {α : Type} {F : List D->Option α} {a : Addr} {m n : Int} {es ls r : List D} : z1O "Book" "raised" F (bkD a m es ls n :: r)=F (bkD a m es ls n :: r):=z3P (by decide +kernel)
theorem fidx {pre post : List Bt} {b : Bt} (h : b.1 ∉ z2k pre) : (z2k (pre ++ b :: post)).findIdx? (fun z=>z == b.1)=some pre.length:=by
  induction pre with
  | nil=>
    show List.findIdx? _ (b.1 :: z2k post)=_
    rw [List.findIdx?_cons,beq_self_eq_true]
    rfl
  | cons c r ih=>
    have h1 : c.1≠b.1:=fun z=>h (by rw [← z]; exact List.mem_cons_self)
    have h2 : b.1 ∉ z2k r:=fun z=>h (List.mem_cons_of_mem _ z)
    have e : (c.1 == b.1)=false:=beq_eq_false_iff_ne.mpr h1
    show List.findIdx? _ (c.1 :: z2k (r ++ b :: post))=_
    rw [List.findIdx?_cons,e,ih h2]
    simp
section
variable {a : Addr} {m : Nat} {es : List Bt} {ls : List D} {n : Int}
theorem many_eq : z2e [bk a m es ls n]=some (.int (m : Int)):=by
  refine z3p rfl ?_
  simp! only [z3v,y1t,z0g]
end
noncomputable def upO (o : List Int) (t : Int) : List Int:=o.take (plc o t - 1) ++ (t :: o[plc o t - 1]?.toList) ++ o.drop (plc o t + 1)
theorem ix_ordN {o : List Int} {k : Nat} (h : k < o.length) : ixD (z1E o) (.int (k : Int))=some (.int o[k]):=by
  show atI (o.map D.int) (k : Int)=_
  exact z2q (by rw [List.getElem?_eq_getElem (by simpa using h),List.getElem_map])
theorem z8I {x y : List Int} (h : x.length + y.length≤1000000) : catT (z1E x) (z1E y)=some (z1E (x ++ y)):=by
  unfold z1E
  rw [List.map_append]
  exact if_pos (z3l (by simpa using h))
theorem z8u (x : Int) (m : Nat) : z1r [.int x,.int (m : Int)]=some (.bl (decide (0≤x) && decide (x < (m : Int)))):=by
  refine z3p rfl ?_
  have c : chO leI ltI (some (.int 0)) (some (.int x)) (some (.int (m : Int)))=some (.bl (decide (0≤x) && decide (x < (m : Int)))):=z8R y3G ea_lt
  simp_all! only [z4b,c,z0g]
noncomputable def tk (m : Nat) : List Int->List Int->Bool
  | _,[]=>true
  | p,x :: r=>((decide (0≤x) && decide (x < (m : Int))) && !p.contains x) && tk m (p ++ [x]) r
theorem y0z {m : Nat} : ∀ {o p : List Int},(∀ x∈o,0≤x∧x < (m : Int))->o.Nodup->(∀ x∈o,x ∉ p)->tk m p o=true
  | [],_,_,_,_=>rfl
  | x :: r,p,h1,h2,h3=>by
    have hx:=h1 x List.mem_cons_self
    have nd:=List.nodup_cons.mp h2
    have hp:=h3 x List.mem_cons_self
    have ih:=y0z (m:=m) (o:=r) (p:=p ++ [x]) (fun y hy=>h1 y (List.mem_cons_of_mem _ hy)) nd.2 fun y hy z=>by
      rcases List.mem_append.mp z with z | z
      · exact h3 y (List.mem_cons_of_mem _ hy) z
      · rw [List.mem_singleton] at z; exact nd.1 (z ▸ hy)
    show (((decide (0≤x) && decide (x < (m : Int))) && !p.contains x) && tk m (p ++ [x]) r)=true
    have hc : p.contains x=false:=by rw [← Bool.not_eq_true,List.contains_iff_mem]; exact hp
    rw [ih,hc,decide_eq_true hx.1,decide_eq_true hx.2]
    rfl
noncomputable def z8S (m : Nat) (o : List Int) : Bool:=decide ((o.length : Int)=(m : Int)) && tk m [] o
theorem z8X {p : List Int} {x : Int} : inK (.int x) (z7k p)=some (p.contains x):=by
  show some (z8A (p.map Sum.inl) (.inl x))=_
  congr 1
  unfold z8A
  rw [List.any_map,List.contains_eq_any_beq]
  congr 1
  funext y
  show decide ((Sum.inl y : Key)=Sum.inl x)=(x == y)
  by_cases h : y=x
  · subst h; simp
  · have h1 : decide ((Sum.inl y : Key)=Sum.inl x)=false:=decide_eq_false fun z=>h (by cases z; rfl)
    have h2 : (x == y)=false:=by rw [beq_eq_false_iff_ne]; exact fun z=>h z.symm
    rw [h1,h2]
theorem z6a {i : Nat} {b : SS->Option Out} {m : Nat} {d : D} (J : List Int->SS->Prop) : ∀ {o p : List Int} {s : SS},p.length + o.length≤1000000->J p s →
    (∀ p x s,p.length≤1000000->J p s->hol (b (s.set i (some (.sh (.int x))))) fun r=>if (((decide (0≤x) && decide (x < (m : Int))) && !p.contains x))=true then ∃ s',r = .nx s'∧J (p ++ [x]) s' else r = .rt d) →
    hol (z3T i b (o.map .int) s) fun r=>if tk m p o=true then ∃ s' p',r = .nx s'∧J p' s' else r = .rt d
  | [],p,s,_,h0,_=>⟨_,rfl,(if_pos rfl).mpr ⟨s,p,rfl,h0⟩⟩
  | x :: r,p,s,hn,h0,hs=>by
    have hn : p.length + (r.length + 1)≤1000000:=hn
    obtain ⟨o,e,q⟩:=hs p x s (by omega) h0
    rw [List.map_cons]
    unfold z3T
    rw [e]
    show hol _ fun q=>if (((decide (0≤x) && decide (x < (m : Int))) && !p.contains x) && tk m (p ++ [x]) r)=true then _ else _
    cases hc : ((decide (0≤x) && decide (x < (m : Int))) && !p.contains x) with
    | true=>
      rw [hc,if_pos rfl] at q
      obtain ⟨s1,rfl,h1⟩:=q
      rw [Bool.true_and]
      exact z6a J (by simp; omega) h1 hs
    | false=>
      rw [hc,if_neg Bool.false_ne_true] at q
      subst q
      rw [Bool.false_and]
      exact ⟨_,rfl,(if_neg Bool.false_ne_true).mpr rfl⟩
theorem z9n {m : Nat} {o : List Int} (h : o.Perm (z4g m)) : z8S m o=true:=by
  have hl : o.length=m:=by have:=h.length_eq; simpa [z4g] using this
  unfold z8S
  rw [hl,decide_eq_true rfl,y0z (fun x hx=>z8B (h.mem_iff.mp hx)) (h.nodup_iff.mpr z9r) fun _ _ z=>by cases z]
  rfl
section
variable {a : Addr} {m : Nat} {ls : List D} {n : Int} {es pre post : List Bt} {b : Bt}
theorem z9l (hl : (pre ++ b :: post).length≤1000) (h : b.1 ∉ z2k pre) : z0v [bk a m (pre ++ b :: post) ls n,.int b.1]=some (.val (.int (pre.length : Int))):=by
  refine y0e rfl ?_
  have nu:=z3g (a:=a) (m:=m) (ls:=ls) (n:=n) hl
  have mm : (z2k (pre ++ b :: post)).contains b.1=true:=by
    rw [List.contains_iff_mem]
    unfold z2k
    rw [List.map_append,List.map_cons]
    simp
  have ni : ninD (.int b.1) (.lst ((z2k (pre ++ b :: post)).map .int))=some (.bl false):=by
    rw [show (.lst ((z2k (pre ++ b :: post)).map .int) : D)=inD' (z2k (pre ++ b :: post)) from rfl,nin_in,mm]
    rfl
  have li : lixF (.lst ((z2k (pre ++ b :: post)).map .int)) (.int b.1)=some (.int (pre.length : Int)):=by
    show (z4w ((z2k (pre ++ b :: post)).map D.int)).bind _=_
    rw [z6F,Option.bind_some,fidx h]
    rfl
  obtain ⟨W,hW⟩ : ∃ W,W=z2k (pre ++ b :: post):=⟨_,rfl⟩
  rw [← hW] at nu ni li
  obtain ⟨bb,hb⟩ : ∃ bb,bb=bk a m (pre ++ b :: post) ls n:=⟨_,rfl⟩
  have qn : z1O "Book" "numbers" z0j [bk a m (pre ++ b :: post) ls n]=some (.lst (W.map .int)):=by rw [y2N,nu]
  rw [← hb] at qn ⊢
  simp_all! only [z2i,qn,ni,li,z0g]
end
theorem y1i {m : Nat} {o : List Int} (hl : o.length≤1000) : z0I [z1E o,.int (m : Int)]=some (.bl (z8S m o)):=by
  refine z3p rfl ?_
  have t0 : D.dct [] []=z7k []:=rfl
  unfold z8S
  cases hd : decide ((o.length : Int)=(m : Int)) with
  | false=>
    simp_all! only [z0Z,y0a,hd,z0g]
  | true=>
    simp_all! only [z0Z,y0a,hd,t0,seq_ord]
    obtain ⟨r,e,q⟩:=z6a (i:=3) (m:=m) (d:=.bl false) (b:=(z1c (ifO (dOrT (z5X (z4t (z0r z1r [(z0f 3),(z0f 1)]))) (dDIn (z0f 3) (z0f 2))) (z4H (dC (.bl false))) z1A) (dput 2 (z0f 3) (dC (.bl true))))) (fun p s=>∃ o3,s=[some (.sh (z1E o)),some (.sh (.int (m : Int))),some (.ow (z7k p)),o3]) (o:=o) (p:=[]) (s:=[some (.sh (z1E o)),some (.sh (.int (m : Int))),some (.ow (z7k [])),none]) (by simp; omega) ⟨_,rfl⟩ (by
      rintro p x s hp ⟨o3,rfl⟩
      have th:=z8u x m
      cases h1 : (decide (0≤x) && decide (x < (m : Int))) with
      | false=>
        rw [h1] at th
        simp_all! only [th,z0g,Bool.false_eq_true,if_false]
      | true=>
        rw [h1] at th
        cases h2 : p.contains x with
        | true=>
          simp_all! only [th,z8X,h2,z0g,Bool.false_eq_true,if_false]
        | false=>
          have hx : x ∉ p:=fun z=>by rw [List.contains_iff_mem.mpr z] at h2; cases h2
          simp_all! only [th,z8X,h2,y2l hx hp,z0g,if_true]
          exact ⟨_,rfl,_,rfl⟩)
    rw [e]
    cases hk : tk m [] o with
    | true=>
      rw [hk,if_pos rfl] at q
      obtain ⟨s',p',rfl,o3,rfl⟩:=q
      simp_all! only [z0g]
    | false=>
      rw [hk,if_neg Bool.false_ne_true] at q
      subst q
      simp_all! only [z0g]
theorem z5r {o : List Int} {t : Int} (hl : o.length≤1000) (ht : t∈o) (hp : plc o t≠0) : z1f [z1E o,.int t]=some (.val (z1E (upO o t))):=by
  refine y0e rfl ?_
  have ti:=y1c ht
  have lt:=z7t ht
  obtain ⟨p,hpp⟩ : ∃ p,plc o t=p + 1:=⟨plc o t - 1,by omega⟩
  have up : upO o t=o.take p ++ [t,o[p]'(by omega)] ++ o.drop (p + 2):=by
    unfold upO
    rw [hpp,Nat.add_sub_cancel,List.getElem?_eq_getElem (by omega)]
    rfl
  rw [hpp] at ti lt
  have d0 : eqD (.int ((p + 1 : Nat) : Int)) (.int 0)=some (.bl false):=by rw [z8W,decide_eq_false (by omega)]
  have s1 : y3L (.int ((p + 1 : Nat) : Int)) (.int 1)=some (.int (p : Int)):=by rw [y0i]; congr 2; omega
  have a1 : z5T (.int ((p + 1 : Nat) : Int)) (.int 1)=some (.int ((p + 2 : Nat) : Int)):=by rw [z6Q]; congr 2
  have c1 : y3B (some (z1E o)) (some none) (some (some (p : Int)))=some (z1E (o.take p)):=by
    show some (D.tup (z4q (o.map D.int) none (some (p : Int))))=_
    rw [z7b (by rw [List.length_map]; omega),← List.map_take]
    rfl
  have c2 : y3B (some (z1E o)) (some (some ((p + 2 : Nat) : Int))) (some none)=some (z1E (o.drop (p + 2))):=by
    show some (D.tup (z4q (o.map D.int) (some ((p + 2 : Nat) : Int)) none))=_
    rw [z7f,← List.map_drop]
    rfl
  have i1:=ix_ordN (o:=o) (k:=p) (by omega)
  have t2 : D.tup [.int t,.int (o[p]'(by omega))]=z1E [t,o[p]'(by omega)]:=rfl
  have k1:=z8I (x:=o.take p) (y:=[t,o[p]'(by omega)]) (by simp; omega)
  have k2:=z8I (x:=o.take p ++ [t,o[p]'(by omega)]) (y:=o.drop (p + 2)) (by simp; omega)
  have im:=z3N (d:=z1E (o.take p ++ [t,o[p]'(by omega)] ++ o.drop (p + 2))) z2m
  rw [up]
  simp_all! only [z2t,ti,d0,s1,a1,c1,c2,i1,t2,k1,k2,im,z0g]
section
variable {a : Addr} {m : Nat} {ls : List D} {n : Int} {es pre post : List Bt} {b : Bt}
theorem put_eq (hm : m≤1000) (hl : es.length < 99) (hs : ls.length≤1000) {v : Int} {o : List Int} (hv : 1≤v∧v≤10 ^ 30) (ho : o.Perm (z4g m)) :
    z0S [bk a m es ls n,.int v,z1E o]=some (.val (bk a m (es ++ [(n,v,o)]) (ls ++ [.lst (es.map enD)]) (n + 1)) (.int n)):=by
  refine z8M rfl ?_
  have len : o.length=m:=by have:=ho.length_eq; simpa [z4g] using this
  have te:=y1i (m:=m) (o:=o) (by omega)
  rw [z9n ho] at te
  obtain ⟨X,hX⟩ : ∃ X : Int,X=10 ^ 30:=⟨_,rfl⟩
  have p30 : y2D (.int 10) (.int 30)=some (.int X):=by rw [hX]; exact z8k 30 (by omega)
  have ch : chO leI leI (some (.int 1)) (some (.int v)) (some (.int X))=some (.bl true):=by
    rw [z8R y3G y3G,decide_eq_true hv.1,decide_eq_true (by rw [hX]; exact hv.2)]
    rfl
  have ge : geI (.int ((es.map enD).length : Int)) (.int 99)=some (.bl false):=by rw [ea_ge,List.length_map,decide_eq_false (by omega)]
  have tu : y2q [z1E o]=some (z1E o):=rfl
  have st : ∀ (r : SS) (f : DE),f (z0q (some (.ow (bk a m es ls n)) :: r))=some (.int (n + 1))->z9F 0 "next_number" f (some (.ow (bk a m es ls n)) :: r)=some (.nx (z2j 0 (some (.ow (bk a m es ls (n + 1)))) :: z0i 0 r)):=fun r f h=>set_nxt rfl h
  have cat : y0U (some (.lst (es.map enD))) (some (.lst [.tup [.int n,.int v,z1E o]]))=some ((es ++ [(n,v,o)]).map enD):=by
    rw [z4s (by simp; omega),List.map_append]
    rfl
  have fl:=z1S (z2U (es ++ [(n,v,o)]))
  have cg : ∀ (r : SS) (f : DE),f (z0q (some (.ow (bk a m es ls (n + 1))) :: r))=some (.lst ((es ++ [(n,v,o)]).map enD))->y1X 0 "Book" f (some (.ow (bk a m es ls (n + 1))) :: r)=some (.nx (z2j 0 (some (.ow (bk a m (es ++ [(n,v,o)]) (ls ++ [.lst (es.map enD)]) (n + 1)))) :: z0i 0 r)):=fun r f h=>y1x rfl h hs
  simp_all! only [z2O,y1t,z4W,fl_nxt,te,p30,ch,ge]
  rw [st]
  · simp! only []
    rw [cg]
    · simp! only [z4f,eo_rkI,y0b,z0g]
      exact ⟨_,rfl⟩
    · simp! only [z4W,tu,cat,fl]
  · simp! only []
theorem z7R : z4q ((pre ++ b :: post).map enD) none (some (pre.length : Int))=pre.map enD:=by
  rw [z7b (by simp),← List.map_take,List.take_left']
  rfl
theorem z6B : z4q ((pre ++ b :: post).map enD) (some (pre.length + 1 : Int)) none=post.map enD:=by
  have e : ((pre.length : Int) + 1)=((pre.length + 1 : Nat) : Int):=by omega
  rw [e,z7f,← List.map_drop]
  congr 1
  rw [List.drop_append]
  simp
theorem out_eq (hl : (pre ++ b :: post).length≤1000) (hs : ls.length≤1000) (h : b.1 ∉ z2k pre) : z0W [bk a m (pre ++ b :: post) ls n,.int b.1]=some (.val (bk a m (pre ++ post) (ls ++ [.lst ((pre ++ b :: post).map enD)]) n) .non):=by
  refine z5Z rfl ?_
  have pl : z1O "Book" "place_of" z0v [bk a m (pre ++ b :: post) ls n,.int b.1]=some (.val (.int (pre.length : Int))):=by rw [q_plc,z9l hl h]
  have k1:=z7R (pre:=pre) (b:=b) (post:=post)
  have k2:=z6B (pre:=pre) (b:=b) (post:=post)
  have cat : y0U (some (.lst (pre.map enD))) (some (.lst (post.map enD)))=some ((pre ++ post).map enD):=by
    rw [z4s (by simp at hl ⊢; omega),List.map_append]
  have fl:=z1S (z2U (pre ++ post))
  obtain ⟨W,hW⟩ : ∃ W,W=pre ++ b :: post:=⟨_,rfl⟩
  rw [← hW] at pl k1 k2 hl ⊢
  have cg : ∀ (r : SS) (f : DE),f (z0q (some (.ow (bk a m W ls n)) :: r))=some (.lst ((pre ++ post).map enD))->y1X 0 "Book" f (some (.ow (bk a m W ls n)) :: r)=some (.nx (z2j 0 (some (.ow (bk a m (pre ++ post) (ls ++ [.lst (W.map enD)]) n))) :: z0i 0 r)):=fun r f h=>y1x rfl h hs
  simp! only [z2G,pl]
  rw [cg]
  · simp! only [z0g]
    exact ⟨_,rfl⟩
  · simp! only [z4W,k1,k2,cat,fl]
theorem rsd_eq (hm : m≤1000) (hl : (pre ++ b :: post).length≤1000) (hs : ls.length≤1000) (h : b.1 ∉ z2k pre) (ho : b.2.2.Perm (z4g m)) {t : Int} (ht : t∈b.2.2) (hp : plc b.2.2 t≠0) :
    z0Y [bk a m (pre ++ b :: post) ls n,.int b.1,.int t]=some (.val (bk a m (pre ++ (b.1,b.2.1,upO b.2.2 t) :: post) (ls ++ [.lst ((pre ++ b :: post).map enD)]) n) .non):=by
  refine z5Z rfl ?_
  have len : b.2.2.length=m:=by have:=ho.length_eq; simpa [z4g] using this
  have pl : z1O "Book" "place_of" z0v [bk a m (pre ++ b :: post) ls n,.int b.1]=some (.val (.int (pre.length : Int))):=by rw [q_plc,z9l hl h]
  have hh:=z8B (ho.mem_iff.mp ht)
  have it:=z8u t m
  rw [decide_eq_true hh.1,decide_eq_true hh.2] at it
  have ix : ixD (.lst ((pre ++ b :: post).map enD)) (.int (pre.length : Int))=some (enD b):=by
    show atI _ _=_
    exact z2q (by simp)
  have ro:=z5r (o:=b.2.2) (t:=t) (by omega) ht hp
  have k1:=z7R (pre:=pre) (b:=b) (post:=post)
  have k2:=z6B (pre:=pre) (b:=b) (post:=post)
  have imb:=z3N (z8O b)
  have tv:=eo_tuV (x:=.int b.1) (y:=.int b.2.1) (d:=z1E (upO b.2.2 t)) rfl rfl z2m
  have en : D.tup [.int b.1,.int b.2.1,z1E (upO b.2.2 t)]=enD (b.1,b.2.1,upO b.2.2 t):=rfl
  have cat1 : y0U (some (.lst (pre.map enD))) (some (.lst [enD (b.1,b.2.1,upO b.2.2 t)]))=some ((pre ++ [(b.1,b.2.1,upO b.2.2 t)]).map enD):=by
    rw [z4s (by simp at hl ⊢; omega),List.map_append]
    rfl
  have cat2 : y0U (some (.lst ((pre ++ [(b.1,b.2.1,upO b.2.2 t)]).map enD))) (some (.lst (post.map enD)))=some ((pre ++ (b.1,b.2.1,upO b.2.2 t) :: post).map enD):=by
    rw [z4s (by simp at hl ⊢; omega),← List.map_append]
    simp
  have fl:=z1S (z2U (pre ++ (b.1,b.2.1,upO b.2.2 t) :: post))
  obtain ⟨W,hW⟩ : ∃ W,W=pre ++ b :: post:=⟨_,rfl⟩
  rw [← hW] at pl k1 k2 hl ix ⊢
  obtain ⟨W2,hW2⟩ : ∃ W2,W2=pre ++ (b.1,b.2.1,upO b.2.2 t) :: post:=⟨_,rfl⟩
  rw [← hW2] at cat2 fl ⊢
  obtain ⟨W3,hW3⟩ : ∃ W3,W3=pre ++ [(b.1,b.2.1,upO b.2.2 t)]:=⟨_,rfl⟩
  rw [← hW3] at cat1 cat2
  have cg : ∀ (r : SS) (f : DE),f (z0q (some (.ow (bk a m W ls n)) :: r))=some (.lst (W2.map enD))->y1X 0 "Book" f (some (.ow (bk a m W ls n)) :: r)=some (.nx (z2j 0 (some (.ow (bk a m W2 (ls ++ [.lst (W.map enD)]) n))) :: z0i 0 r)):=fun r f h=>y1x rfl h hs
  simp_all! only [z2I,pl,y1t,z4W,it,ix,imb,en1,en2,ro,ev_tup2,tv,en]
  rw [cg]
  · simp! only [z0g]
    exact ⟨_,rfl⟩
  · simp! only [z4W,k1,k2,cat1,cat2,fl]
theorem back_no : z0p [bk a m es [] n]=some (.exc 5 (bk a m es [] n)):=by
  refine y3E rfl ?_
  have e : (!!([] : List D).isEmpty)=true:=rfl
  simp_all! only [z1k,y1J,e,z0g]
  exact ⟨_,rfl⟩
end
theorem z7A {a b : Str} {c : Bool} (h1 : okP (.str a)=true) (h2 : okP (.str b)=true) (h : PyData.eqv (.str a) (.str b)=c) : eqD (.str a) (.str b)=some (.bl c):=by
  unfold eqD
  rw [h1,h2]
  show some (D.bl (PyData.eqv (.str a) (.str b)))=_
  rw [h]
theorem ix0 {x y : D} : ixD (.lst [x,y]) (.int 0)=some x:=(rfl)
theorem ix1 {x y : D} : ixD (.lst [x,y]) (.int 1)=some y:=(rfl)
theorem y2I {x y : List Int} {p : Nat} (h : p < y.length) : ((x ++ [y[p]]) ++ y.eraseIdx p).Perm (x ++ y):=by
  rw [List.append_assoc]
  refine List.Perm.append_left x ?_
  show (y[p] :: y.eraseIdx p).Perm y
  rw [List.eraseIdx_eq_take_drop_succ]
  have e : y=y.take p ++ y[p] :: y.drop (p + 1):=by
    rw [← List.drop_eq_getElem_cons h,List.take_append_drop]
  exact (List.perm_middle.symm).trans (by rw [← e])
theorem y3u {m : Nat} (hm : m≤60) (c : Int) : hol (z1Q [.int c,.int (m : Int)]) fun d=>∃ o,d=z1E o∧o.Perm (z4g m):=by
  refine y1z rfl ?_
  have hr : rng1 (some (.int (m : Int)))=some (z3S 0 m):=by rw [y1B (by omega)]; rfl
  have sm : z8Q (some (z3S 0 m))=some (z3S 0 m):=by first | exact y3H (by rw [z7I]; simp; omega) | rfl
  have rl : z3S 0 m=(z4g m).map D.int:=by
    have:=rng_ord (m:=m)
    unfold z1E at this
    exact D.tup.inj this
  have fl:=z1S (z3i (z4g m))
  rw [rl] at hr sm
  simp! only [z3a,hr,sm,fl,z8V]
  refine z7n (I:=fun s=>∃ (o : List Int) (c : Int),o.Perm (z4g m)∧s=[some (.sh (.int c)),some (.sh (.int (m : Int))),some (.ow (.lst [])),some (.ow (.lst (o.map .int)))]) ?_ ?_
  · refine z5a (fun k s=>∃ (x y : List Int) (c : Int),y.length=k∧(x ++ y).Perm (z4g m)∧s=[some (.sh (.int c)),some (.sh (.int (m : Int))),some (.ow (.lst (y.map .int))),some (.ow (.lst (x.map .int)))]) (n:=m) ⟨[],z4g m,c,by simp [z4g],List.Perm.refl _,rfl⟩ ?_ (by omega)
    rintro k s ⟨x,y,c,hk,hp,rfl⟩
    have hxl : x.length + y.length=m:=by have:=hp.length_eq; simpa [z4g] using this
    have ln : z3F [.lst (y.map D.int)]=some (.int (y.length : Int)):=by rw [z3A,List.length_map]
    cases y with
    | nil=>
      have gt : gtI (.int ((([] : List Int).length : Nat) : Int)) (.int 0)=some (.bl false):=by rw [ea_gt]; rfl
      refine ⟨false,by simp! only [ln]; rfl,fun _=>⟨_,rfl,x,c,by simpa using hp,rfl⟩,(fun h=>nomatch h)⟩
    | cons y0 yr=>
      obtain ⟨y,hy⟩ : ∃ y,y=y0 :: yr:=⟨_,rfl⟩
      have hpos : 0 < y.length:=by rw [hy]; simp
      rw [← hy] at hk hp hxl ln ⊢
      have gt : gtI (.int (y.length : Int)) (.int 0)=some (.bl true):=by rw [ea_gt,decide_eq_true (by omega)]
      refine ⟨true,by simp! only [ln,gt],(fun h=>nomatch h),fun _=>⟨y.length - 1,by omega,?_⟩⟩
      obtain ⟨p,ep,hpl⟩:=z3D (x:=c) (n:=y.length) hpos
      have md : z4x (.int c) (.int (y.length : Int))=some (.int (p : Int)):=by rw [z3K (by omega),ep]
      have pk:=popK_eq (i:=3) (j:=2) (s:=[some (.sh (.int c)),some (.sh (.int (m : Int))),some (.ow (.lst (y.map .int))),some (.ow (.lst (x.map .int)))]) (f:=d2 z4x (z0f 0) (z0r z3F [(z0f 2)])) (x:=x) (y:=y) (p:=p) rfl rfl (by simp! only [ln,md]) hpl (by omega) (by omega)
      have ln2 : z3F [.lst ((y.eraseIdx p).map D.int)]=some (.int ((y.eraseIdx p).length : Int)):=by rw [z3A,List.length_map]
      have el : (y.eraseIdx p).length=y.length - 1:=List.length_eraseIdx_of_lt hpl
      have dv : ∃ z : Int,z7G (.int c) (.int (((y.eraseIdx p).length : Int) + 1))=some (.int z):=⟨_,z7C ⟨by omega,by omega⟩⟩
      obtain ⟨z,dv⟩:=dv
      have pp:=(y2I (x:=x) hpl).trans hp
      obtain ⟨X,hX⟩ : ∃ X,X=x ++ [y[p]]:=⟨_,rfl⟩
      obtain ⟨Y,hY⟩ : ∃ Y,Y=y.eraseIdx p:=⟨_,rfl⟩
      rw [← hX,← hY] at pk pp
      rw [← hY] at ln2 dv el
      simp! only [pk,ln2,dv,z0g]
      exact ⟨X,Y,z,el,pp,rfl⟩
  · rintro s ⟨o,c,hp,rfl⟩
    have tu : y2q [.lst (o.map D.int)]=some (z1E o):=rfl
    have im:=z3N (d:=z1E o) z2m
    simp! only [tu,im,z0g]
    exact ⟨_,rfl,o,rfl,hp⟩
theorem up_set {o : List Int} {p : Nat} {t : Int} (h : p + 1 < o.length) : (o.set (p + 1) (o[p]'(by omega))).set p t=o.take p ++ [t,o[p]'(by omega)] ++ o.drop (p + 2):=by
  refine List.ext_getElem (by simp; omega) fun k h1 h2=>?_
  rw [List.getElem_set]
  by_cases h3 : p=k
  · subst h3
    rw [if_pos rfl,List.getElem_append_left (by simp; omega),List.getElem_append_right (by simp; omega)]
    simp [Nat.min_eq_left (show p≤o.length by omega)]
  · rw [if_neg h3,List.getElem_set]
    by_cases h4 : p + 1=k
    · subst h4
      rw [if_pos rfl,List.getElem_append_left (by simp; omega),List.getElem_append_right (by simp; omega)]
      simp [Nat.min_eq_left (show p≤o.length by omega)]
    · rw [if_neg h4]
      by_cases h5 : k < p
      · rw [List.getElem_append_left (by simp; omega),List.getElem_append_left (by simp; omega)]
        simp
      · rw [List.getElem_append_right (by simp; omega)]
        simp [Nat.min_eq_left (show p≤o.length by omega)]
        congr 1
        omega
theorem z9G {o : List Int} {t : Int} (hl : o.length≤1000) (ht : t∈o) : z1x [z1E o,.int t]=some (if plc o t=0 then .non else z1E (upO o t)):=by
  refine z3p rfl ?_
  have ti:=y1c ht
  have lt:=z7t ht
  by_cases h0 : plc o t=0
  · rw [h0] at ti
    rw [if_pos h0]
    have d0 : eqD (.int ((0 : Nat) : Int)) (.int 0)=some (.bl true):=by rw [z8W]; rfl
    simp_all! only [z1W,ti,d0,z0g]
  · rw [if_neg h0]
    obtain ⟨p,hpp⟩ : ∃ p,plc o t=p + 1:=⟨plc o t - 1,by omega⟩
    have up : upO o t=o.take p ++ [t,o[p]'(by omega)] ++ o.drop (p + 2):=by
      unfold upO
      rw [hpp,Nat.add_sub_cancel,List.getElem?_eq_getElem (by omega)]
      rfl
    rw [hpp] at ti lt
    have d0 : eqD (.int ((p + 1 : Nat) : Int)) (.int 0)=some (.bl false):=by rw [z8W,decide_eq_false (by omega)]
    have s1 : y3L (.int ((p + 1 : Nat) : Int)) (.int 1)=some (.int (p : Int)):=by rw [y0i]; congr 2; omega
    have lo : y0W [z1E o]=some (o.map .int):=rfl
    have fl:=z1S (z3i o)
    have ix : ixD (.lst (o.map D.int)) (.int (p : Int))=some (.int (o[p]'(by omega))):=by
      show atI _ _=_
      exact z2q (by rw [List.getElem?_eq_getElem (by simp; omega),List.getElem_map])
    have sv : ∀ {o : List Int} {k : Nat} {x : Int},k < o.length->st0V (some (.lst (o.map .int))) (some (.int (k : Int))) (some (.int x))=some (.lst ((o.set k x).map .int)):=fun {o k x} h=>by
      show (ixN (o.map D.int).length (k : Int)).map (fun j=>D.lst ((o.map D.int).set j (.int x)))=_
      rw [ixN_of (by simpa using h),Option.map_some,← List.map_set]
    have s2:=sv (o:=o) (k:=p + 1) (x:=o[p]'(by omega)) lt
    have s3:=sv (o:=o.set (p + 1) (o[p]'(by omega))) (k:=p) (x:=t) (by simp; omega)
    rw [up_set lt,← up] at s3
    obtain ⟨W,hW⟩ : ∃ W,W=o.set (p + 1) (o[p]'(by omega)):=⟨_,rfl⟩
    rw [← hW] at s2 s3
    have tu : y2q [.lst ((upO o t).map D.int)]=some (z1E (upO o t)):=rfl
    have im:=z3N (d:=z1E (upO o t)) z2m
    simp_all! only [z1W,ti,d0,s1,lo,fl,ix,s2,s3,tu,im,z0g]
theorem k_pp : eqD (.str "put") (.str "put")=some (.bl true):=z7A (by decide +kernel) (by decide +kernel) (by decide +kernel)
theorem k_op : eqD (.str "out") (.str "put")=some (.bl false):=z7A (by decide +kernel) (by decide +kernel) (by decide +kernel)
theorem k_rp : eqD (.str "raise") (.str "put")=some (.bl false):=z7A (by decide +kernel) (by decide +kernel) (by decide +kernel)
theorem k_oo : eqD (.str "out") (.str "out")=some (.bl true):=z7A (by decide +kernel) (by decide +kernel) (by decide +kernel)
theorem k_ro : eqD (.str "raise") (.str "out")=some (.bl false):=z7A (by decide +kernel) (by decide +kernel) (by decide +kernel)
noncomputable def y3F (v : Int) (o : List Int) : D:=.tup [.str "put",.int v,z1E o]
noncomputable def dOut (k : Int) : D:=.tup [.str "out",.int k]
noncomputable def y1U (k t : Int) : D:=.tup [.str "raise",.int k,.int t]
inductive Aft (m : Nat) (es : List Bt) (n : Int) : D->D->Prop where
  | put (v : Int) (o : List Int) (hv : 1≤v∧v≤10 ^ 30) (ho : o.Perm (z4g m)) : Aft m es n (y3F v o) (.lst ((es ++ [(n,v,o)]).map enD))
  | out (pre post : List Bt) (b : Bt) (e : es=pre ++ b :: post) : Aft m es n (dOut b.1) (.lst ((pre ++ post).map enD))
  | none (pre post : List Bt) (b : Bt) (t : Int) (e : es=pre ++ b :: post) (ht : t∈b.2.2) (h0 : plc b.2.2 t=0) : Aft m es n (y1U b.1 t) .non
  | rse (pre post : List Bt) (b : Bt) (t : Int) (e : es=pre ++ b :: post) (ht : t∈b.2.2) (h0 : plc b.2.2 t≠0) : Aft m es n (y1U b.1 t) (.lst ((pre ++ (b.1,b.2.1,upO b.2.2 t) :: post).map enD))
theorem y3q {m : Nat} (h1 : 0 < m) (hm : m≤60) {es : List Bt} (hl : es.length≤1000) (hg : ∀ b∈es,b.2.2.Perm (z4g m)) (n c : Int) :
    hol (z1q [.lst (es.map enD),.int n,.int (m : Int),.int c]) fun d=>∃ x y,d = .lst [x,y]∧Aft m es n x y:=by
  refine y1z rfl ?_
  have v8 : z7G (.int c) (.int 8)=some (.int (c / 8)):=z7C ⟨by omega,by omega⟩
  obtain ⟨A,hA⟩ : ∃ A : Int,A=10 ^ 40:=⟨_,rfl⟩
  have pA : y2D (.int 10) (.int 40)=some (.int A):=by rw [hA]; exact z8k 40 (by omega)
  have A0 : 0 < A:=by rw [hA]; exact Int.pow_pos (by omega)
  obtain ⟨r,hr⟩ : ∃ r,r=c / 8 % A:=⟨_,rfl⟩
  have mr : z4x (.int (c / 8)) (.int A)=some (.int r):=by rw [z3K A0,hr]
  obtain ⟨w,ew,hw⟩:=z3D (x:=c) (n:=8) (by omega)
  have mw : z4x (.int c) (.int 8)=some (.int (w : Int)):=by rw [z3K (by omega)]; exact congrArg _ (congrArg _ ew)
  have ln : z3F [.lst (es.map enD)]=some (.int (es.length : Int)):=by rw [z3A,List.length_map]
  by_cases hc : w < 4∨es.length=0
  · -- put
    have dc : (decide ((w : Int) < 4) || decide (((es.map enD).length : Int)=0))=true:=by
      rw [List.length_map,Bool.or_eq_true]
      rcases hc with z | z
      · exact .inl (decide_eq_true (by omega))
      · exact .inr (decide_eq_true (by omega))
    obtain ⟨B,hB⟩ : ∃ B : Int,B=10 ^ 30:=⟨_,rfl⟩
    have pB : y2D (.int 10) (.int 30)=some (.int B):=by rw [hB]; exact z8k 30 (by omega)
    have B0 : 0 < B:=by rw [hB]; exact Int.pow_pos (by omega)
    obtain ⟨v,hv⟩ : ∃ v,v=1 + r % B:=⟨_,rfl⟩
    have mv : z4x (.int r) (.int B)=some (.int (r % B)):=z3K B0
    have av : z5T (.int 1) (.int (r % B))=some (.int v):=by rw [z6Q,hv]
    have v7 : z7G (.int r) (.int 7)=some (.int (r / 7)):=z7C ⟨by omega,by omega⟩
    obtain ⟨d,ed,o,rfl,ho⟩:=y3u hm (r / 7)
    have im:=z3N (z8O (n,v,o))
    have en : D.tup [.int n,.int v,z1E o]=enD (n,v,o):=rfl
    have i1 : ixD (enD (n,v,o)) (.int 1)=some (.int v):=rfl
    have i2 : ixD (enD (n,v,o)) (.int 2)=some (z1E o):=rfl
    have dp : D.tup [.str "put",.int v,z1E o]=y3F v o:=rfl
    have id:=z3N (d:=y3F v o) (by show (true && (true && ((z1E o).imm && true)))=true; rw [z2m]; rfl)
    have cat : y0U (some (.lst (es.map enD))) (some (.lst [enD (n,v,o)]))=some ((es ++ [(n,v,o)]).map enD):=by
      rw [z4s (by simp; omega),List.map_append]
      rfl
    have fl:=z1S (z2U (es ++ [(n,v,o)]))
    obtain ⟨W,hW⟩ : ∃ W,W=es ++ [(n,v,o)]:=⟨_,rfl⟩
    rw [← hW] at cat fl
    obtain ⟨q,hq⟩ : ∃ q,q=r % B:=⟨_,rfl⟩
    rw [← hq] at mv av
    simp! only [z1t,v8,pA,mr,mw,dc,pB,mv,av,v7,ed,en,im,i1,i2,dp,id,cat,fl,z0g]
    refine ⟨_,rfl,_,_,rfl,?_⟩
    rw [hW]
    refine .put v o ⟨?_,?_⟩ ho
    · have:=Int.emod_nonneg r (Int.ne_of_gt B0); omega
    · have:=Int.emod_lt_of_pos r B0; rw [← hB]; omega
  · have hlt : 0 < es.length:=by omega
    have dc : (decide ((w : Int) < 4) || decide (((es.map enD).length : Int)=0))=false:=by
      rw [List.length_map,Bool.or_eq_false_iff]
      exact ⟨decide_eq_false (by omega),decide_eq_false (by omega)⟩
    obtain ⟨p,ep,hp⟩:=z3D (x:=r) (n:=es.length) hlt
    have mp : z4x (.int r) (.int ((es.map enD).length : Int))=some (.int (p : Int)):=by rw [List.length_map,z3K (by omega),ep]
    obtain ⟨pre,post,b,hes,hpre⟩ : ∃ pre post b,es=pre ++ b :: post∧pre.length=p:=⟨es.take p,es.drop (p + 1),es[p],by rw [← List.drop_eq_getElem_cons hp,List.take_append_drop],by simp; omega⟩
    have ix : ixD (.lst (es.map enD)) (.int (p : Int))=some (enD b):=by
      rw [hes,← hpre]
      show atI _ _=_
      exact z2q (by simp)
    have k1:=z7R (pre:=pre) (b:=b) (post:=post)
    have k2:=z6B (pre:=pre) (b:=b) (post:=post)
    rw [← hes,hpre] at k1 k2
    have imb:=z3N (z8O b)
    have hb : b∈es:=by rw [hes]; simp
    have bl:=hg b hb
    have len : b.2.2.length=m:=by have:=bl.length_eq; simpa [z4g] using this
    have pp : pre.length + (post.length + 1)≤1000:=by rw [hes] at hl; simpa using hl
    by_cases h4 : w=4
    · have d4 : decide ((w : Int)=4)=true:=decide_eq_true (by omega)
      have cat : y0U (some (.lst (pre.map enD))) (some (.lst (post.map enD)))=some ((pre ++ post).map enD):=by rw [z4s (by simp; omega),List.map_append]
      have fl:=z1S (z2U (pre ++ post))
      have dp : D.tup [.str "out",.int b.1]=dOut b.1:=rfl
      have id:=z3N (d:=dOut b.1) rfl
      obtain ⟨W,hW⟩ : ∃ W,W=pre ++ post:=⟨_,rfl⟩
      rw [← hW] at cat fl
      simp! only [z1t,v8,pA,mr,mw,dc,mp,ix,imb,d4,en0,k1,k2,cat,fl,dp,id,z0g]
      refine ⟨_,rfl,_,_,rfl,?_⟩
      rw [hW]
      exact .out pre post b hes
    · have d4 : decide ((w : Int)=4)=false:=decide_eq_false (by omega)
      have v100 : z7G (.int r) (.int 100)=some (.int (r / 100)):=z7C ⟨by omega,by omega⟩
      obtain ⟨t,et,htm⟩:=z3D (x:=r / 100) (n:=m) h1
      have mt : z4x (.int (r / 100)) (.int (m : Int))=some (.int (t : Int)):=by rw [z3K (by omega),et]
      have ht : ((t : Nat) : Int)∈b.2.2:=bl.mem_iff.mpr (List.mem_map.mpr ⟨t,List.mem_range.mpr htm,rfl⟩)
      have lr:=z9G (o:=b.2.2) (t:=(t : Int)) (by omega) ht
      have dp : D.tup [.str "raise",.int b.1,.int (t : Int)]=y1U b.1 t:=rfl
      have id:=z3N (d:=y1U b.1 t) rfl
      by_cases h0 : plc b.2.2 (t : Int)=0
      · rw [if_pos h0] at lr
        have fl:=z1S (ds:=[y1U b.1 t,.non]) rfl
        have inn : isN D.non=true:=rfl
        simp! only [z1t,v8,pA,mr,mw,dc,mp,ix,imb,d4,en0,en2,v100,mt,lr,inn,dp,fl,z0g]
        exact ⟨_,rfl,_,_,rfl,.none pre post b t hes ht h0⟩
      · rw [if_neg h0] at lr
        have inn : isN (z1E (upO b.2.2 (t : Int)))=false:=rfl
        have en : D.tup [.int b.1,.int b.2.1,z1E (upO b.2.2 t)]=enD (b.1,b.2.1,upO b.2.2 t):=rfl
        have cat1 : y0U (some (.lst (pre.map enD))) (some (.lst [enD (b.1,b.2.1,upO b.2.2 t)]))=some ((pre ++ [(b.1,b.2.1,upO b.2.2 (t : Int))]).map enD):=by
          rw [z4s (by simp; omega),List.map_append]
          rfl
        have cat2 : y0U (some (.lst ((pre ++ [(b.1,b.2.1,upO b.2.2 (t : Int))]).map enD))) (some (.lst (post.map enD)))=some ((pre ++ (b.1,b.2.1,upO b.2.2 (t : Int)) :: post).map enD):=by
          rw [z4s (by simp; omega),← List.map_append]
          simp
        have fl:=z1S (z2U (pre ++ (b.1,b.2.1,upO b.2.2 (t : Int)) :: post))
        obtain ⟨W2,hW2⟩ : ∃ W2,W2=pre ++ (b.1,b.2.1,upO b.2.2 (t : Int)) :: post:=⟨_,rfl⟩
        rw [← hW2] at cat2 fl
        obtain ⟨W3,hW3⟩ : ∃ W3,W3=pre ++ [(b.1,b.2.1,upO b.2.2 (t : Int))]:=⟨_,rfl⟩
        rw [← hW3] at cat1 cat2
        obtain ⟨U,hU⟩ : ∃ U,U=upO b.2.2 (t : Int):=⟨_,rfl⟩
        rw [← hU] at lr inn en cat1
        simp! only [z1t,v8,pA,mr,mw,dc,mp,ix,imb,d4,en0,en1,en2,v100,mt,lr,inn,dp,id,k1,k2,en,cat1,cat2,fl,z0g]
        refine ⟨_,rfl,_,_,rfl,?_⟩
        rw [hW2]
        exact .rse pre post b t hes ht h0
theorem p0 {v : Int} {o : List Int} : ixD (y3F v o) (.int 0)=some (.str "put"):=(rfl)
theorem p1 {v : Int} {o : List Int} : ixD (y3F v o) (.int 1)=some (.int v):=(rfl)
theorem p2 {v : Int} {o : List Int} : ixD (y3F v o) (.int 2)=some (z1E o):=(rfl)
theorem u0 {k : Int} : ixD (dOut k) (.int 0)=some (.str "out"):=(rfl)
theorem u1 {k : Int} : ixD (dOut k) (.int 1)=some (.int k):=(rfl)
theorem r0 {k t : Int} : ixD (y1U k t) (.int 0)=some (.str "raise"):=(rfl)
theorem r1 {k t : Int} : ixD (y1U k t) (.int 1)=some (.int k):=(rfl)
theorem r2 {k t : Int} : ixD (y1U k t) (.int 2)=some (.int t):=(rfl)
structure St (m : Nat) (n : Int) (es : List Bt) : Prop where
  good : ∀ b∈es,b.2.2.Perm (z4g m)
  less : ∀ b∈es,b.1 < n
  nd : (z2k es).Nodup
theorem z4G {x y : List Bt} : z2k (x ++ y)=z2k x ++ z2k y:=by unfold z2k; rw [List.map_append]
theorem St.put {m : Nat} {n v : Int} {es : List Bt} {o : List Int} (h : St m n es) (ho : o.Perm (z4g m)) : St m (n + 1) (es ++ [(n,v,o)]):=by
  refine ⟨fun b hb=>?_,fun b hb=>?_,?_⟩
  · rcases List.mem_append.mp hb with z | z
    · exact h.good b z
    · rw [List.mem_singleton.mp z]; exact ho
  · rcases List.mem_append.mp hb with z | z
    · have:=h.less b z; omega
    · rw [List.mem_singleton.mp z]; show n < n + 1; omega
  · rw [z4G]
    refine List.nodup_append.mpr ⟨h.nd,by simp [z2k],fun x hx y hy e=>?_⟩
    have ey : y=n:=by simpa [z2k] using hy
    obtain ⟨b,hb,rfl⟩:=List.mem_map.mp hx
    have:=h.less b hb
    have e : b.1=y:=e
    omega
theorem St.not_pre {m : Nat} {n : Int} {pre post : List Bt} {b : Bt} (h : St m n (pre ++ b :: post)) : b.1 ∉ z2k pre:=fun z=>by
  have nd:=h.nd
  rw [z4G] at nd
  exact (List.nodup_append.mp nd).2.2 b.1 z b.1 (by show b.1∈b.1 :: z2k post; exact List.mem_cons_self) rfl
theorem St.out {m : Nat} {n : Int} {pre post : List Bt} {b : Bt} (h : St m n (pre ++ b :: post)) : St m n (pre ++ post):=by
  have sub : (pre ++ post).Sublist (pre ++ b :: post):=List.Sublist.append_left (List.sublist_cons_self b post) pre
  exact ⟨fun c hc=>h.good c (sub.subset hc),fun c hc=>h.less c (sub.subset hc),h.nd.sublist (sub.map _)⟩
theorem up_perm {o : List Int} {t : Int} (ht : t∈o) (hp : plc o t≠0) : (upO o t).Perm o:=by
  have lt:=z7t ht
  have gt:=plc_get ht
  obtain ⟨p,hpp⟩ : ∃ p,plc o t=p + 1:=⟨plc o t - 1,by omega⟩
  have up : upO o t=o.take p ++ [t,o[p]'(by omega)] ++ o.drop (p + 2):=by
    unfold upO
    rw [hpp,Nat.add_sub_cancel,List.getElem?_eq_getElem (by omega)]
    rfl
  have e : o=o.take p ++ [o[p]'(by omega),t] ++ o.drop (p + 2):=by
    have h1 : o.drop p=o[p]'(by omega) :: o.drop (p + 1):=List.drop_eq_getElem_cons (by omega)
    have h2 : o.drop (p + 1)=o[p + 1]'(by omega) :: o.drop (p + 2):=List.drop_eq_getElem_cons (by omega)
    have h3 : o[p + 1]'(by omega)=t:=by
      have:=gt
      simp only [hpp] at this
      exact this
    rw [List.append_assoc]
    show o=o.take p ++ (o[p]'(by omega) :: t :: o.drop (p + 2))
    rw [h3] at h2
    rw [← h2,← h1,List.take_append_drop]
  rw [up]
  have pm : ([t,o[p]'(by omega)] : List Int).Perm [o[p]'(by omega),t]:=List.Perm.swap _ _ _
  exact ((pm.append_left (o.take p)).append_right (o.drop (p + 2))).trans (by rw [← e])
theorem St.rse {m : Nat} {n : Int} {pre post : List Bt} {b : Bt} {t : Int} (h : St m n (pre ++ b :: post)) (ht : t∈b.2.2) (hp : plc b.2.2 t≠0) : St m n (pre ++ (b.1,b.2.1,upO b.2.2 t) :: post):=by
  have hb : b∈pre ++ b :: post:=by simp
  refine ⟨fun c hc=>?_,fun c hc=>?_,?_⟩
  · rcases List.mem_append.mp hc with z | z
    · exact h.good c (List.mem_append_left _ z)
    · rcases List.mem_cons.mp z with z | z
      · rw [z]; exact (up_perm ht hp).trans (h.good b hb)
      · exact h.good c (List.mem_append_right _ (List.mem_cons_of_mem _ z))
  · rcases List.mem_append.mp hc with z | z
    · exact h.less c (List.mem_append_left _ z)
    · rcases List.mem_cons.mp z with z | z
      · rw [z]; exact h.less b hb
      · exact h.less c (List.mem_append_right _ (List.mem_cons_of_mem _ z))
  · have e : z2k (pre ++ (b.1,b.2.1,upO b.2.2 t) :: post)=z2k (pre ++ b :: post):=by rw [z4G,z4G]; rfl
    rw [e]; exact h.nd
section
variable {a : Addr} {m : Nat} {ls : List D} {n : Int} {es : List Bt}
theorem kept_eq (hl : es.length≤1000) : z1D [bk a m es ls n]=some (.lst (es.map enD)):=by
  refine z3p rfl ?_
  have nv:=z6s (a:=a) (m:=m) (ls:=ls) (n:=n) hl
  have nn:=z3g (a:=a) (m:=m) (ls:=ls) (n:=n) hl
  have nl : (z2k es).length=es.length:=by unfold z2k; rw [List.length_map]
  have ln : z3F [.lst ((z2k es).map D.int)]=some (.int (es.length : Int)):=by rw [z3A,List.length_map,nl]
  have fl:=z1S (z2U es)
  have c : ∀ δ0,z3c (z8e y3N (mkT (z0n [(d2 ixD (z0f 2) (z0f 3)),(d2 ixD (d2 ixD (z0f 1) (z0f 3)) (dC (.int 0))),(d2 ixD (d2 ixD (z0f 1) (z0f 3)) (dC (.int 1)))])) [δ0,some (votD (vtL es)),some (.lst ((z2k es).map D.int))]) ((List.range es.length).map nD)=some (es.map enD):=fun δ0=>by
    have e : es.map enD=(List.range es.length).map fun k=>enD (es.getD k (0,0,[])):=by
      refine List.ext_getElem (by simp) fun k h1 h2=>?_
      simp at h1
      simp [List.getD,h1]
    rw [e]
    refine z4l (enc:=nD) (fun k : Nat=>enD (es.getD k (0,0,[]))) fun k hk=>?_
    have hk:=List.mem_range.mp hk
    have g1 : ixD (votD (vtL es)) (nD k)=some (z7F ((es.getD k (0,0,[])).2.1,(es.getD k (0,0,[])).2.2)):=by
      show atI ((vtL es).map z7F) (k : Int)=_
      refine z2q ?_
      unfold vtL
      rw [List.map_map,List.getElem?_map,List.getElem?_eq_getElem hk]
      simp [List.getD,hk]
    have g2 : ixD (.lst ((z2k es).map D.int)) (nD k)=some (.int (es.getD k (0,0,[])).1):=by
      show atI ((z2k es).map D.int) (k : Int)=_
      refine z2q ?_
      unfold z2k
      rw [List.map_map,List.getElem?_map,List.getElem?_eq_getElem hk]
      simp [List.getD,hk]
    have i0 : ∀ x : Int × List Int,ixD (z7F x) (.int 0)=some (.int x.1):=fun _=>rfl
    have i1 : ∀ x : Int × List Int,ixD (z7F x) (.int 1)=some (z1E x.2):=fun _=>rfl
    simp! only [g1,g2,i0,i1]
    rfl
  have hr : rng1 (some (.int (es.length : Int)))=some ((List.range es.length).map nD):=by rw [← z7I,y1B (by omega)]; rfl
  have h2 : ((List.range es.length).map nD).length≤1000000:=by simp; omega
  obtain ⟨b,hb⟩ : ∃ b,b=bk a m es ls n:=⟨_,rfl⟩
  have qv : z1O "Book" "votes" z0t [b]=some (votD (vtL es)):=by rw [hb,q_vot,nv]
  have qn : z1O "Book" "numbers" z0j [b]=some (.lst ((z2k es).map D.int)):=by rw [hb,y2N,nn]
  rw [← hb]
  obtain ⟨N,hN⟩ : ∃ N,N=D.lst ((z2k es).map D.int):=⟨_,rfl⟩
  rw [← hN] at qn ln c
  simp! only [z3t,qv,qn,ln,hr,z7J h2,c,fl,z0g]
end
noncomputable def stD (m : Nat) (es : List Bt) (k : Nat) : D:=.lst [.lst ((z2k es).map .int),votD (vtL es),.lst [.int (m : Int),.int (k : Int)]]
theorem ok_bal {b : Int × List Int} : okN 2 (z7F b):=y0c fun d hd=>by
  rcases List.mem_cons.mp hd with z | z
  · rw [z]; exact y1C z5b (by omega)
  · rw [List.mem_singleton.mp z]; exact y2X fun _ _=>z5b
theorem ok_st {m : Nat} {es : List Bt} {k : Nat} : okP (stD m es k)=true:=y1A (n:=4) (okN_3 (y1C (z9c _) (by omega)) (y1y fun b _=>ok_bal) (y1C (okN_2 z5b z5b) (by omega))) (by omega)
section
variable {a : Addr} {m : Nat} {ls : List D} {n : Int} {es es' : List Bt}
theorem z8Z (hl : es.length≤1000) : z0F [bk a m es ls n]=some (stD m es ls.length):=by
  refine z3p rfl ?_
  have nv:=z6s (a:=a) (m:=m) (ls:=ls) (n:=n) hl
  have nn:=z3g (a:=a) (m:=m) (ls:=ls) (n:=n) hl
  have nl:=z8h (a:=a) (m:=m) (ls:=ls) (n:=n) (es:=es)
  have nm:=many_eq (a:=a) (m:=m) (ls:=ls) (n:=n) (es:=es)
  simp_all! only [z3e,q_vot,y2N,q_lft,q_mny,nv,nn,nl,nm,z0g]
  rfl
theorem q_bck {α : Type} {F : List D->Option α} {a : Addr} {m n : Int} {es ls r : List D} : z1O "Book" "take_back" F (bkD a m es ls n :: r)=F (bkD a m es ls n :: r):=z3P (by decide +kernel)
theorem take_eq : z0p [bk a m es (ls ++ [.lst (es'.map enD)]) n]=some (.val (bk a m es' ls n) .non):=by
  refine z5Z rfl ?_
  have ne : z5I (.lst (ls ++ [.lst (es'.map enD)]))=some true:=by
    show some (!(ls ++ [D.lst (es'.map enD)]).isEmpty)=_
    cases ls <;> rfl
  have pp : y2f 0 [some (.ow (bk a m es (ls ++ [.lst (es'.map enD)]) n))]=some (.nx [some (.ow (bk a m es' ls n))]):=by
    show (if bkKs=bkKs then (match (ls ++ [D.lst (es'.map enD)]).getLast? with | some l=>_ | none=>none) else none)=_
    rw [if_pos rfl,List.getLast?_concat]
    show some (Out.nx [some (.ow (.obj "Book" a bkKs [.int (m : Int),.lst (es'.map enD),.lst (ls ++ [D.lst (es'.map enD)]).dropLast,.int n]))])=_
    rw [List.dropLast_concat]
    rfl
  obtain ⟨L,hL⟩ : ∃ L,L=ls ++ [D.lst (es'.map enD)]:=⟨_,rfl⟩
  rw [← hL] at ne pp ⊢
  simp_all! only [z1k,y1J,ne,pp,z0g]
  exact ⟨_,rfl⟩
theorem none_eq : z0z [bk a m es [] n]=some (.val (bk a m es [] n) (.bl true)):=by
  refine z8M rfl ?_
  have cb:=y2p (cBX_ex (i:=0) (s:=[some (.ow (bk a m es [] n))]) (fl:=[]) (F:=z1O "Book" "take_back" z0p) (d0:=bk a m es [] n) (args:=[]) rfl rfl (q_bck.trans back_no))
  simp_all! only [z1U,cb,z4f,z6M,y0b,z0g]
  exact ⟨_,rfl⟩
theorem in_no {l : List Int} {k : Int} (h : k ∉ l) : inD (.int k) (.lst (l.map .int))=some (.bl false):=by
  have e : l.contains k=false:=by rw [← Bool.not_eq_true,List.contains_iff_mem]; exact h
  rw [show (.lst (l.map .int) : D)=inD' l from rfl,in_in,e]
theorem y3i (hm : m≤1000) (hl : es.length < 99) (hs : ls.length≤1000) {v : Int} {o gs : List Int} (hg : gs.length≤1000) (hn : n ∉ gs) (hv : 1≤v∧v≤10 ^ 30) (ho : o.Perm (z4g m)) :
    z0G (bk a m es ls n) (gs.map .int) (y3F v o)=some (bk a m (es ++ [(n,v,o)]) (ls ++ [.lst (es.map enD)]) (n + 1),(gs ++ [n]).map .int,.bl true):=by
  refine z7M (fun a0=>?_) rfl
  have pe:=put_eq (a:=a) (n:=n) hm hl hs hv ho
  have cb:=asgBX_v (j:=3) (z7z (i:=0) (s:=[some (.ow (bk a m es ls n)),some (.sh (y3F v o)),some (.ow (.cel a0 (gs.map .int))),none]) (fl:=[(d2 ixD (z0f 1) (dC (.int 1))),(d2 ixD (z0f 1) (dC (.int 2)))]) (F:=z1O "Book" "put_in" z0S) (d0:=bk a m es ls n) (args:=[.int v,z1E o]) rfl (by simp! only [z8y,p1,p2]) (q_put.trans pe)) rfl
  obtain ⟨W,hW⟩ : ∃ W,W=es ++ [(n,v,o)]:=⟨_,rfl⟩
  rw [← hW] at cb ⊢
  have ap:=appC_eq (i:=2) (s:=[some (.ow (bk a m W (ls ++ [.lst (es.map enD)]) (n + 1))),some (.sh (y3F v o)),some (.ow (.cel a0 (gs.map .int))),some (.sh (.int n))]) (f:=z0f 3) (a0:=a0) (xs:=gs.map .int) (d:=.int n) rfl (by simp! only []) rfl (by rw [List.length_map]; exact hg)
  have e : gs.map D.int ++ [.int n]=(gs ++ [n]).map .int:=by rw [List.map_append]; rfl
  rw [e] at ap
  obtain ⟨G2,hG2⟩ : ∃ G2,G2=(gs ++ [n]).map D.int:=⟨_,rfl⟩
  rw [← hG2] at ap ⊢
  have ni:=in_no hn
  simp_all! only [z2g,p0,k_pp,cb,y3Y,ni,ap,z4f,z6M,y0b,z0g]
  exact ⟨_,_,rfl⟩
theorem y3m {pre post : List Bt} {b : Bt} {gs : List Int} (hl : (pre ++ b :: post).length≤1000) (hs : ls.length≤1000) (h : b.1 ∉ z2k pre) :
    z0G (bk a m (pre ++ b :: post) ls n) (gs.map .int) (dOut b.1)=some (bk a m (pre ++ post) (ls ++ [.lst ((pre ++ b :: post).map enD)]) n,gs.map .int,.bl true):=by
  refine z7M (fun a0=>?_) rfl
  have pe:=out_eq (a:=a) (n:=n) (m:=m) hl hs h
  have cb:=z6q (z7z (i:=0) (s:=[some (.ow (bk a m (pre ++ b :: post) ls n)),some (.sh (dOut b.1)),some (.ow (.cel a0 (gs.map .int))),none]) (fl:=[(d2 ixD (z0f 1) (dC (.int 1)))]) (F:=z1O "Book" "go_out" z0W) (d0:=bk a m (pre ++ b :: post) ls n) (args:=[.int b.1]) rfl (by simp! only [z8y,u1]) (q_out.trans pe))
  obtain ⟨W,hW⟩ : ∃ W,W=pre ++ b :: post:=⟨_,rfl⟩
  rw [← hW] at cb ⊢
  simp_all! only [z2g,u0,k_op,k_oo,cb,z4f,z6M,y0b,z0g]
  exact ⟨_,_,rfl⟩
theorem y2e (hm : m≤1000) {pre post : List Bt} {b : Bt} {gs : List Int} (hl : (pre ++ b :: post).length≤1000) (hs : ls.length≤1000) (h : b.1 ∉ z2k pre) (ho : b.2.2.Perm (z4g m)) {t : Int} (ht : t∈b.2.2) (hp : plc b.2.2 t≠0) :
    z0G (bk a m (pre ++ b :: post) ls n) (gs.map .int) (y1U b.1 t)=some (bk a m (pre ++ (b.1,b.2.1,upO b.2.2 t) :: post) (ls ++ [.lst ((pre ++ b :: post).map enD)]) n,gs.map .int,.bl true):=by
  refine z7M (fun a0=>?_) rfl
  have pe:=rsd_eq (a:=a) (n:=n) hm hl hs h ho ht hp
  have cb:=z6q (z7z (i:=0) (s:=[some (.ow (bk a m (pre ++ b :: post) ls n)),some (.sh (y1U b.1 t)),some (.ow (.cel a0 (gs.map .int))),none]) (fl:=[(d2 ixD (z0f 1) (dC (.int 1))),(d2 ixD (z0f 1) (dC (.int 2)))]) (F:=z1O "Book" "raised" z0Y) (d0:=bk a m (pre ++ b :: post) ls n) (args:=[.int b.1,.int t]) rfl (by simp! only [z8y,r1,r2]) (q_rsd.trans pe))
  obtain ⟨W,hW⟩ : ∃ W,W=pre ++ b :: post:=⟨_,rfl⟩
  rw [← hW] at cb ⊢
  obtain ⟨W2,hW2⟩ : ∃ W2,W2=pre ++ (b.1,b.2.1,upO b.2.2 t) :: post:=⟨_,rfl⟩
  rw [← hW2] at cb ⊢
  simp_all! only [z2g,r0,k_rp,k_ro,cb,z4f,z6M,y0b,z0g]
  exact ⟨_,_,rfl⟩
end
noncomputable def lsD (hist : List (List Bt)) : List D:=hist.map fun e=>.lst (e.map enD)
noncomputable def z2T (m : Nat) : Nat->List (List Bt)->List D
  | _,[]=>[]
  | k,e :: r=>stD m e k :: z2T m (k + 1) r
theorem z4V {m : Nat} {e : List Bt} : ∀ {k : Nat} {h : List (List Bt)},z2T m k (h ++ [e])=z2T m k h ++ [stD m e (k + h.length)]
  | k,[]=>rfl
  | k,x :: r=>by
    show stD m x k :: z2T m (k + 1) (r ++ [e])=stD m x k :: (z2T m (k + 1) r ++ [stD m e (k + (r.length + 1))])
    rw [z4V,show k + 1 + r.length=k + (r.length + 1) by omega]
theorem z3m {m : Nat} : ∀ {k : Nat} {h : List (List Bt)},(z2T m k h).length=h.length
  | _,[]=>rfl
  | k,x :: r=>by
    show (z2T m (k + 1) r).length + 1=r.length + 1
    rw [z3m]
theorem z8H {h : List (List Bt)} {e : List Bt} : lsD (h ++ [e])=lsD h ++ [.lst (e.map enD)]:=by unfold lsD; rw [List.map_append]; rfl
theorem z4i {h : List (List Bt)} : (lsD h).length=h.length:=by unfold lsD; rw [List.length_map]
theorem hs_pref {hist : List (List Bt)} {es : List Bt} {i : Nat} (h : i≤hist.length) : hist ++ [es]=(hist.take i ++ [(hist ++ [es]).getD i []]) ++ (hist ++ [es]).drop (i + 1):=by
  have h1 : i < (hist ++ [es]).length:=by simp; omega
  have h2 : (hist ++ [es]).take i=hist.take i:=by rw [List.take_append_of_le_length (by omega)]
  have h3 : (hist ++ [es]).getD i []=(hist ++ [es])[i]:=by simp only [List.getD,List.getElem?_eq_getElem h1,Option.getD_some]
  rw [h3,List.append_assoc,List.singleton_append,← List.drop_eq_getElem_cons h1,← h2,List.take_append_drop]
theorem hs_step {hist : List (List Bt)} {es : List Bt} {i : Nat} (h : i < hist.length) : hist.take (i + 1)=hist.take i ++ [(hist ++ [es]).getD i []]:=by
  have h3 : (hist ++ [es]).getD i []=hist[i]:=by
    simp only [List.getD]
    rw [List.getElem?_append_left h,List.getElem?_eq_getElem h]
    rfl
  rw [h3,List.take_append_getElem h]
theorem hs_end {hist : List (List Bt)} {es : List Bt} : (hist ++ [es]).getD hist.length []=es:=by simp [List.getD]
theorem y0Q {a : Addr} {m : Nat} {n : Int} {hist : List (List Bt)} {es : List Bt} {k : Nat} (hh : hist.length≤1000) (hl : ∀ e∈hist ++ [es],e.length≤1000) :
    ∃ hist' es' r,hist ++ [es]=(hist' ++ [es']) ++ r∧hist'.length + min k hist.length=hist.length∧z0H (bk a m es (lsD hist) n) (z2T m 0 hist) (.int (k : Int))=some (bk a m es' (lsD hist') n,z2T m 0 hist',.bl true):=by
  obtain ⟨t,ht⟩ : ∃ t,t=min k hist.length:=⟨_,rfl⟩
  have htl : t≤hist.length:=by omega
  refine ⟨hist.take (hist.length - t),(hist ++ [es]).getD (hist.length - t) [],(hist ++ [es]).drop (hist.length - t + 1),hs_pref (by omega),by rw [← ht,List.length_take]; omega,runB2_t (fun a0=>?_) rfl⟩
  have mn : minF [.int (k : Int),.int (((z2T m 0 hist).length : Nat) : Int)]=some (.int (t : Int)):=by
    rw [z3m,ea_min,ht]
    congr 2
    split <;> omega
  have iv:=iv1_nat (m:=t) (by omega)
  obtain ⟨O,hO⟩ : ∃ O,O=z2T m 0 hist:=⟨_,rfl⟩
  rw [← hO] at mn ⊢
  simp_all! only [z3E,y3Y,z3A,mn,iv]
  refine z7n (I:=fun s=>∃ o3,s=[some (.ow (bk a m ((hist ++ [es]).getD (hist.length - t) []) (lsD (hist.take (hist.length - t))) n)),some (.ow (.cel a0 (z2T m 0 (hist.take (hist.length - t))))),some (.sh (.int (k : Int))),o3]) ?_ ?_
  · refine for_rng (fun i s=>∃ o3,s=[some (.ow (bk a m ((hist ++ [es]).getD (hist.length - i) []) (lsD (hist.take (hist.length - i))) n)),some (.ow (.cel a0 (z2T m 0 (hist.take (hist.length - i))))),some (.sh (.int (k : Int))),o3]) ⟨none,by rw [Nat.sub_zero,hs_end,List.take_length,hO]⟩ ?_ fun s z=>⟨s,rfl,z⟩
    rintro i hi s ⟨o3,rfl⟩
    obtain ⟨q,hq⟩ : ∃ q,hist.length - i=q + 1:=⟨hist.length - i - 1,by omega⟩
    have hq2 : hist.length - (i + 1)=q:=by omega
    have hql : q < hist.length:=by omega
    rw [hq,hq2,hs_step (es:=es) hql]
    obtain ⟨e,he⟩ : ∃ e,e=(hist ++ [es]).getD q []:=⟨_,rfl⟩
    obtain ⟨h2,hh2⟩ : ∃ h2,h2=hist.take q:=⟨_,rfl⟩
    obtain ⟨e3,he3⟩ : ∃ e3,e3=(hist ++ [es]).getD (q + 1) []:=⟨_,rfl⟩
    rw [← he,← hh2,← he3,z8H,z4V]
    have el : e.length≤1000:=hl e (by
      rw [he]
      simp only [List.getD]
      rw [List.getElem?_eq_getElem (show q < (hist ++ [es]).length by simp; omega)]
      exact List.getElem_mem _)
    have tk:=take_eq (a:=a) (m:=m) (n:=n) (es:=e3) (ls:=lsD h2) (es':=e)
    have st:=z8Z (a:=a) (m:=m) (n:=n) (ls:=lsD h2) el
    rw [z4i] at st
    have ne:=ne_self (ok_st (m:=m) (es:=e) (k:=h2.length))
    have z0 : 0 + h2.length=h2.length:=by omega
    rw [z0]
    obtain ⟨L,hL⟩ : ∃ L,L=lsD h2:=⟨_,rfl⟩
    obtain ⟨O2,hO2⟩ : ∃ O2,O2=z2T m 0 h2:=⟨_,rfl⟩
    rw [← hL] at tk st ⊢
    rw [← hO2]
    have cb:=z6q (z7z (i:=0) (s:=[some (.ow (bk a m e3 (L ++ [.lst (e.map enD)]) n)),some (.ow (.cel a0 (O2 ++ [stD m e h2.length]))),some (.sh (.int (k : Int))),some (.sh (.int (0 + (i : Int))))]) (fl:=[]) (F:=z1O "Book" "take_back" z0p) (d0:=bk a m e3 (L ++ [.lst (e.map enD)]) n) (args:=[]) rfl rfl (q_bck.trans tk))
    have np:=nePop_f (i:=1) (s:=[some (.ow (bk a m e L n)),some (.ow (.cel a0 (O2 ++ [stD m e h2.length]))),some (.sh (.int (k : Int))),some (.sh (.int (0 + (i : Int))))]) (f:=z0r z0F [(z0f 0)]) (a0:=a0) (xs:=O2) (y:=stD m e h2.length) (x:=stD m e h2.length) rfl (by simp! only [z8y,st]) ne
    have it:=fun g h=>y2S (g:=g) (h:=h) np
    obtain ⟨OO,hOO⟩ : ∃ OO,OO=O2 ++ [stD m e h2.length]:=⟨_,rfl⟩
    obtain ⟨LL,hLL⟩ : ∃ LL,LL=L ++ [D.lst (e.map enD)]:=⟨_,rfl⟩
    rw [← hOO] at cb it ⊢
    rw [← hLL] at cb ⊢
    simp! only [cb,it,z0g]
    exact ⟨_,rfl⟩
  · rintro s ⟨o3,rfl⟩
    simp! only [z4f,z6M,z0g]
    exact ⟨_,rfl⟩
noncomputable def bkB : SS->Option Out:=(ifT (z4v (y1W 2 4 z0H (d2 z5T (dC (.int 1)) (d2 z4x (d2 z7G (z0f 5) (dC (.int 4))) (dC (.int 3)))))) (z4H (dC (.bl false))) z1A)
noncomputable def dnB : SS->Option Out:=(ifT (y4i (z4v (y1W 2 3 z0G (d2 ixD (z0f 6) (dC (.int 0))))) (tsD (z0R (d2 neD (z0r (z1O "Book" "left" z0x) [(z0f 2)]) (z0r z3F [(z0f 4)]))))) (z4H (dC (.bl false))) z1A)
noncomputable def ddB : SS->Option Out:=z1c (z6H 6 (z0r z1q [(z0r z1D [(z0f 2)]),(dC (.int 0)),(z0f 1),(d2 z7G (z0f 5) (dC (.int 4)))])) (ifO (y1u (d2 ixD (z0f 6) (dC (.int 1)))) (z1c (z9E 4 (z0r z0F [(z0f 2)])) dnB) z1A)
noncomputable def lpB : SS->Option Out:=ifO (z0R (d2 eqD (d2 z4x (z0f 5) (dC (.int 4))) (dC (.int 3)))) bkB ddB
noncomputable def enB : SS->Option Out:=(ifT (y4i (z4v (y1W 2 4 z0H (z0r z3F [(z0f 4)]))) (z4v (tsBX 2 z0z []))) (z4H (dC (.bl false))) z1A)
noncomputable def rsB : SS->Option Out:=z1c (z6H 3 (z1b (z0n []))) (z1c (z6H 4 (z1b (z0n []))) (z1c (forO 5 (y3R (mkL (z8w (z0f 0) (z2S (dC (.int 1))) (z2S (dC (.int 61)))))) lpB) (z1c enB (z4H (y1Z (d2 eqD (z0r (z1O "Book" "numbers" z0j) [(z0f 2)]) (mkL (z0n []))) (y1Z (d2 eqD (z0r (z1O "Book" "votes" z0t) [(z0f 2)]) (mkL (z0n []))) (d2 eqD (z0r (z1O "Book" "left" z0x) [(z0f 2)]) (dC (.int 0)))))))))
theorem g_is : g_law=z1c (z6t 1 (dC (.int 1))) (z1c (ifO (z0R (d2 gtI (z0r z3F [(z0f 0)]) (dC (.int 0)))) (z6t 1 (d2 z5T (dC (.int 1)) (d2 z4x (d2 ixD (z0f 0) (dC (.int 0))) (dC (.int 8))))) z1A) (y3T 2 "Book" (z0f 1) rsB)):=rfl
structure In83 (m : Nat) (n : Int) (c : Nat) (hist : List (List Bt)) (es : List Bt) (gs : List Int) : Prop where
  good : ∀ e∈hist ++ [es],St m n e∧e.length≤c
  bot : ∃ r,hist ++ [es]=[] :: r
  hl : hist.length≤c
  gl : gs.length≤c
  lt : ∀ g∈gs,g < n
theorem In83.back {m : Nat} {n : Int} {c : Nat} {hist hist' : List (List Bt)} {es es' : List Bt} {gs : List Int} {r : List (List Bt)} (h : In83 m n c hist es gs) (e : hist ++ [es]=(hist' ++ [es']) ++ r) (hl : hist'.length≤hist.length) : In83 m n c hist' es' gs:=by
  refine ⟨fun x hx=>h.good x (by rw [e]; exact List.mem_append_left _ hx),?_,by have:=h.hl; omega,h.gl,h.lt⟩
  obtain ⟨r0,e0⟩:=h.bot
  rw [e0] at e
  cases hist' with
  | nil=>exact ⟨[],by simpa using (List.cons.inj e).1.symm⟩
  | cons y ys=>exact ⟨ys ++ [es'],by rw [List.cons_append,← (List.cons.inj e).1]⟩
theorem In83.up {m : Nat} {n : Int} {c : Nat} {hist : List (List Bt)} {es : List Bt} {gs : List Int} (h : In83 m n c hist es gs) : In83 m n (c + 1) hist es gs:=
  ⟨fun e he=>⟨(h.good e he).1,by have:=(h.good e he).2; omega⟩,h.bot,by have:=h.hl; omega,by have:=h.gl; omega,h.lt⟩
theorem In83.push {m : Nat} {n n' : Int} {c : Nat} {hist : List (List Bt)} {es es' : List Bt} {gs gs' : List Int} (h : In83 m n c hist es gs) (hn : n≤n') (hs : St m n' es') (he : es'.length≤c + 1) (hg : gs'.length≤c + 1) (hlt : ∀ g∈gs',g < n') : In83 m n' (c + 1) (hist ++ [es]) es' gs':=by
  refine ⟨fun x hx=>?_,?_,by have:=h.hl; simp; omega,hg,hlt⟩
  · rcases List.mem_append.mp hx with z | z
    · obtain ⟨a,b⟩:=h.good x z
      exact ⟨⟨a.good,fun b hb=>by have:=a.less b hb; omega,a.nd⟩,by omega⟩
    · rw [List.mem_singleton.mp z]; exact ⟨hs,he⟩
  · obtain ⟨r,e⟩:=h.bot
    exact ⟨r ++ [es'],by rw [e]; rfl⟩
section
variable {ns : List Int} {m : Nat} {a : Addr}
theorem dn_eq {hist : List (List Bt)} {es es' : List Bt} {n n' : Int} {gs gs' : List Int} {x y : D} {c : Int} (hi : x.imm=true) (hd : z0G (bk a m es (lsD hist) n) (gs.map .int) x=some (bk a m es' (lsD hist ++ [.lst (es.map enD)]) n',gs'.map .int,.bl true)) :
    dnB [some (.sh (.scr ns)),some (.sh (.int (m : Int))),some (.ow (bk a m es (lsD hist) n)),some (.ow (.lst (gs.map .int))),some (.ow (.lst (z2T m 0 (hist ++ [es])))),some (.sh (.int c)),some (.ow (.lst [x,y]))]=some (.nx [some (.sh (.scr ns)),some (.sh (.int (m : Int))),some (.ow (bk a m es' (lsD (hist ++ [es])) n')),some (.ow (.lst (gs'.map .int))),some (.ow (.lst (z2T m 0 (hist ++ [es])))),some (.sh (.int c)),some (.ow (.lst [x,y]))]):=by
  unfold dnB
  rw [← z8H] at hd
  have lf:=z8h (a:=a) (m:=m) (n:=n') (ls:=lsD (hist ++ [es])) (es:=es')
  have ln : (z2T m 0 (hist ++ [es])).length=(lsD (hist ++ [es])).length:=by rw [z3m,z4i]
  obtain ⟨L2,hL2⟩ : ∃ L2,L2=lsD (hist ++ [es]):=⟨_,rfl⟩
  obtain ⟨O,hO⟩ : ∃ O,O=z2T m 0 (hist ++ [es]):=⟨_,rfl⟩
  rw [← hL2] at hd lf ln ⊢
  rw [← hO] at ln ⊢
  have e1:=z6r (y1r (y0h (i:=2) (j:=3) (F:=z0G) (f:=d2 ixD (z0f 6) (dC (.int 0))) (s:=[some (.sh (.scr ns)),some (.sh (.int (m : Int))),some (.ow (bk a m es (lsD hist) n)),some (.ow (.lst (gs.map .int))),some (.ow (.lst O)),some (.sh (.int c)),some (.ow (.lst [x,y]))]) rfl rfl (by simp! only [ix0]) hi hd))
  have e2:=fun υ=>y4c (υ:=υ) e1
  have dc : decide ((L2.length : Int)=(O.length : Int))=true:=decide_eq_true (by rw [ln])
  have e3 : tsD (z0R (d2 neD (z0r (z1O "Book" "left" z0x) [(z0f 2)]) (z0r z3F [(z0f 4)]))) [some (.sh (.scr ns)),some (.sh (.int (m : Int))),some (.ow (bk a m es' L2 n')),some (.ow (.lst (gs'.map .int))),some (.ow (.lst O)),some (.sh (.int c)),some (.ow (.lst [x,y]))]=some (false,[some (.sh (.scr ns)),some (.sh (.int (m : Int))),some (.ow (bk a m es' L2 n')),some (.ow (.lst (gs'.map .int))),some (.ow (.lst O)),some (.sh (.int c)),some (.ow (.lst [x,y]))]):=tsD_e (by
    simp! only [q_lft,lf,dc]
    rfl)
  refine (y2S ((e2 _).trans e3)).trans ?_
  rfl
theorem loop_eq (h1 : 0 < m) (hm : m≤8) (cs : List Int) (hc : cs.length≤60) :
    hol (z3T 5 lpB (cs.map .int) [some (.sh (.scr ns)),some (.sh (.int (m : Int))),some (.ow (bkD a (m : Int) [] [] 0)),some (.ow (.lst [])),some (.ow (.lst [])),none,none]) fun o=>∃ s,o = .nx s∧∃ (hist : List (List Bt)) (es : List Bt) (gs : List Int) (n : Int) (o5 o6 : Option SD),In83 m n 60 hist es gs∧s=[some (.sh (.scr ns)),some (.sh (.int (m : Int))),some (.ow (bk a m es (lsD hist) n)),some (.ow (.lst (gs.map .int))),some (.ow (.lst (z2T m 0 hist))),o5,o6]:=by
  refine for_map (enc:=D.int) (xs:=cs) (fun pre s=>∃ (hist : List (List Bt)) (es : List Bt) (gs : List Int) (n : Int) (o5 o6 : Option SD),In83 m n pre.length hist es gs∧s=[some (.sh (.scr ns)),some (.sh (.int (m : Int))),some (.ow (bk a m es (lsD hist) n)),some (.ow (.lst (gs.map .int))),some (.ow (.lst (z2T m 0 hist))),o5,o6]) ⟨[],[],[],0,none,none,⟨fun e he=>?_,⟨[],rfl⟩,by simp,by simp,by simp⟩,rfl⟩ ?_ ?_
  · rw [List.mem_singleton.mp he]
    exact ⟨⟨by simp,by simp,by simp [z2k]⟩,by simp⟩
  · rintro pre c post e s ⟨hist,es,gs,n,o5,o6,hI,rfl⟩
    have hpl : pre.length < 60:=by
      have:=congrArg List.length e
      rw [List.length_append,List.length_cons] at this
      omega
    have hll : ∀ e∈hist ++ [es],e.length≤1000:=fun e he=>by have:=(hI.good e he).2; omega
    have hhl:=hI.hl
    have hgl:=hI.gl
    obtain ⟨hS,hel⟩:=hI.good es (by simp)
    have v4 : z7G (.int c) (.int 4)=some (.int (c / 4)):=z7C ⟨by omega,by omega⟩
    obtain ⟨w,ew,hw⟩:=z3D (x:=c) (n:=4) (by omega)
    have mw : z4x (.int c) (.int 4)=some (.int (w : Int)):=by rw [z3K (by omega)]; exact congrArg _ (congrArg _ ew)
    by_cases w3 : w=3
    · have d3 : decide ((w : Int)=3)=true:=decide_eq_true (by omega)
      obtain ⟨j,ej,hj⟩:=z3D (x:=c / 4) (n:=3) (by omega)
      have mj : z4x (.int (c / 4)) (.int 3)=some (.int (j : Int)):=by rw [z3K (by omega)]; exact congrArg _ (congrArg _ ej)
      have ad : z5T (.int 1) (.int (j : Int))=some (.int ((1 + j : Nat) : Int)):=by rw [z6Q]; congr 2
      obtain ⟨hist',es',r,e1,e2,e3⟩:=y0Q (a:=a) (m:=m) (n:=n) (es:=es) (k:=1 + j) (by omega) hll
      have hI2:=(hI.back e1 (by omega)).up
      obtain ⟨O,hO⟩ : ∃ O,O=z2T m 0 hist:=⟨_,rfl⟩
      rw [← hO] at e3 ⊢
      have t1:=z6r (y1r (y0h (i:=2) (j:=4) (F:=z0H) (f:=(d2 z5T (dC (.int 1)) (d2 z4x (d2 z7G (z0f 5) (dC (.int 4))) (dC (.int 3))))) (s:=[some (.sh (.scr ns)),some (.sh (.int (m : Int))),some (.ow (bk a m es (lsD hist) n)),some (.ow (.lst (gs.map .int))),some (.ow (.lst O)),some (.sh (.int c)),o6]) rfl rfl (by simp! only [v4,mj,ad]) rfl e3))
      have bb : bkB [some (.sh (.scr ns)),some (.sh (.int (m : Int))),some (.ow (bk a m es (lsD hist) n)),some (.ow (.lst (gs.map .int))),some (.ow (.lst O)),some (.sh (.int c)),o6]=some (.nx [some (.sh (.scr ns)),some (.sh (.int (m : Int))),some (.ow (bk a m es' (lsD hist') n)),some (.ow (.lst (gs.map .int))),some (.ow (.lst (z2T m 0 hist'))),some (.sh (.int c)),z2j 2 (z2j 4 o6)]):=by
        unfold bkB
        exact (y2S t1).trans rfl
      simp_all! only [lpB,mw,d3,bb,z0g]
      exact ⟨hist',es',gs,n,_,_,by rw [List.length_append]; exact hI2,rfl⟩
    · have d3 : decide ((w : Int)=3)=false:=decide_eq_false (by omega)
      have kp:=kept_eq (a:=a) (m:=m) (ls:=lsD hist) (n:=n) (es:=es) (by omega)
      obtain ⟨d,ed,x,y,rfl,af⟩:=y3q (es:=es) h1 (by omega) (by omega) hS.good 0 (c / 4)
      have st:=z8Z (a:=a) (m:=m) (n:=n) (ls:=lsD hist) (es:=es) (by omega)
      have ap : m0V y1V (some (.lst (z2T m 0 hist))) (some [stD m es (lsD hist).length])=some (.lst (z2T m 0 (hist ++ [es]))):=by
        rw [z4V,z4i,Nat.zero_add]
        show (if (z2T m 0 hist).length < sizeLine then some _ else none).map _=_
        rw [if_pos (by rw [z3m,PySem.sizeLine_eq]; omega)]
        rfl
      have inn : isN D.non=true:=rfl
      have inl : ∀ l,isN (D.lst l)=false:=fun _=>rfl
      have upl : (pre ++ [c]).length=pre.length + 1:=by simp
      obtain ⟨L,hL⟩ : ∃ L,L=lsD hist:=⟨_,rfl⟩
      cases af with
      | none pre1 post1 b t e1 ht h0=>
        rw [← hL] at kp ⊢
        obtain ⟨O,hO⟩ : ∃ O,O=z2T m 0 hist:=⟨_,rfl⟩
        rw [← hO]
        simp_all! only [lpB,ddB,mw,d3,v4,kp,ed,ix1,inn,z0g]
        exact ⟨hist,es,gs,n,_,_,by rw [upl]; exact hI.up,by rw [hL,hO]⟩
      | put v o hv ho=>
        have dn:=y3i (a:=a) (m:=m) (n:=n) (es:=es) (ls:=lsD hist) (gs:=gs) (by omega) (by omega) (by rw [z4i]; omega) (by omega) (fun z=>by have:=hI.lt n z; omega) hv ho
        have de:=dn_eq (ns:=ns) (c:=c) (y:=.lst ((es ++ [(0,v,o)]).map enD)) (by show (true && (true && ((z1E o).imm && true)))=true; rw [z2m]; rfl) dn
        obtain ⟨Y,hY⟩ : ∃ Y,Y=(es ++ [((0 : Int),v,o)]).map enD:=⟨_,rfl⟩
        obtain ⟨O,hO⟩ : ∃ O,O=z2T m 0 hist:=⟨_,rfl⟩
        obtain ⟨O2,hO2⟩ : ∃ O2,O2=z2T m 0 (hist ++ [es]):=⟨_,rfl⟩
        obtain ⟨W,hW⟩ : ∃ W,W=es ++ [(n,v,o)]:=⟨_,rfl⟩
        obtain ⟨G2,hG2⟩ : ∃ G2,G2=gs ++ [n]:=⟨_,rfl⟩
        rw [← hY] at ed de
        rw [← hW,← hG2,← hL,← hO2] at de
        rw [← hO,← hO2,← hL] at ap
        rw [← hL] at kp st ⊢
        rw [← hO]
        simp_all! only [lpB,ddB,mw,d3,v4,kp,ed,ix1,inl,st,ap,de,z0g]
        refine ⟨hist ++ [es],W,G2,n + 1,_,_,?_,by rw [hO2]⟩
        rw [upl,hW,hG2]
        refine hI.push (by omega) (hS.put ho) (by simp; omega) (by simp; omega) fun g hg=>?_
        rcases List.mem_append.mp hg with z | z
        · have:=hI.lt g z; omega
        · rw [List.mem_singleton.mp z]; omega
      | out pre1 post1 b e1=>
        subst e1
        have dn:=y3m (a:=a) (m:=m) (n:=n) (ls:=lsD hist) (gs:=gs) (pre:=pre1) (post:=post1) (b:=b) (by omega) (by rw [z4i]; omega) hS.not_pre
        have de:=dn_eq (ns:=ns) (c:=c) (y:=.lst ((pre1 ++ post1).map enD)) rfl dn
        have hS2:=hS.out
        have lw : (pre1 ++ post1).length≤(pre1 ++ b :: post1).length:=by simp
        obtain ⟨E,hE⟩ : ∃ E,E=pre1 ++ b :: post1:=⟨_,rfl⟩
        rw [← hE] at kp ed st ap de hI hel lw ⊢
        obtain ⟨O,hO⟩ : ∃ O,O=z2T m 0 hist:=⟨_,rfl⟩
        obtain ⟨O2,hO2⟩ : ∃ O2,O2=z2T m 0 (hist ++ [E]):=⟨_,rfl⟩
        obtain ⟨W,hW⟩ : ∃ W,W=pre1 ++ post1:=⟨_,rfl⟩
        rw [← hW] at ed de hS2 lw
        rw [← hL,← hO2] at de
        rw [← hO,← hO2,← hL] at ap
        rw [← hL] at kp st ⊢
        rw [← hO]
        simp_all! only [lpB,ddB,mw,d3,v4,kp,ed,ix1,inl,st,ap,de,z0g]
        refine ⟨hist ++ [E],W,gs,n,_,_,?_,by rw [hO2]⟩
        rw [upl]
        exact hI.push (by omega) hS2 (by omega) (by omega) hI.lt
      | rse pre1 post1 b t e1 ht h0=>
        subst e1
        have hb : b∈pre1 ++ b :: post1:=by simp
        have dn:=y2e (a:=a) (m:=m) (n:=n) (ls:=lsD hist) (gs:=gs) (pre:=pre1) (post:=post1) (b:=b) (by omega) (by omega) (by rw [z4i]; omega) hS.not_pre (hS.good b hb) ht h0
        have de:=dn_eq (ns:=ns) (c:=c) (y:=.lst ((pre1 ++ (b.1,b.2.1,upO b.2.2 t) :: post1).map enD)) rfl dn
        have hS2:=hS.rse ht h0
        have lw : (pre1 ++ (b.1,b.2.1,upO b.2.2 t) :: post1).length=(pre1 ++ b :: post1).length:=by simp
        obtain ⟨E,hE⟩ : ∃ E,E=pre1 ++ b :: post1:=⟨_,rfl⟩
        rw [← hE] at kp ed st ap de hI hel lw ⊢
        obtain ⟨O,hO⟩ : ∃ O,O=z2T m 0 hist:=⟨_,rfl⟩
        obtain ⟨O2,hO2⟩ : ∃ O2,O2=z2T m 0 (hist ++ [E]):=⟨_,rfl⟩
        obtain ⟨W,hW⟩ : ∃ W,W=pre1 ++ (b.1,b.2.1,upO b.2.2 t) :: post1:=⟨_,rfl⟩
        rw [← hW] at ed de hS2 lw
        rw [← hL,← hO2] at de
        rw [← hO,← hO2,← hL] at ap
        rw [← hL] at kp st ⊢
        rw [← hO]
        simp_all! only [lpB,ddB,mw,d3,v4,kp,ed,ix1,inl,st,ap,de,z0g]
        refine ⟨hist ++ [E],W,gs,n,_,_,?_,by rw [hO2]⟩
        rw [upl]
        exact hI.push (by omega) hS2 (by omega) (by omega) hI.lt
  · rintro s ⟨hist,es,gs,n,o5,o6,hI,rfl⟩
    refine ⟨_,rfl,hist,es,gs,n,_,_,⟨fun e he=>⟨(hI.good e he).1,by have:=(hI.good e he).2; omega⟩,hI.bot,by have:=hI.hl; omega,by have:=hI.gl; omega,hI.lt⟩,rfl⟩
theorem y0A (h1 : 0 < m) (hm : m≤8) : hol (y3T 2 "Book" (z0f 1) rsB [some (.sh (.scr ns)),some (.sh (.int (m : Int))),none,none,none,none,none]) fun o=>o = .rt (.bl true):=by
  refine hol_new (m:=(m : Int)) (by simp! only []) fun a=>?_
  obtain ⟨cs,ec,hc⟩ : ∃ cs : List Int,z4q (ns.map .int) (some 1) (some 61)=cs.map .int∧cs.length≤60:=by
    refine ⟨(ns.drop (HT.sIx ns.length 0 (some 1))).take (HT.sIx ns.length ns.length (some 61) - HT.sIx ns.length 0 (some 1)),?_,?_⟩
    · unfold z4q
      rw [List.length_map,List.map_take,List.map_drop]
    · have e1 : HT.sIx ns.length 0 (some 1)=min 1 ns.length:=z8n (k:=1)
      have e2 : HT.sIx ns.length ns.length (some 61)=min 61 ns.length:=z8n (k:=61)
      rw [e1,e2]
      simp
      omega
  obtain ⟨o,eo,s,rfl,hist,es,gs,n,o5,o6,hI,rfl⟩:=loop_eq (ns:=ns) (a:=a) h1 hm cs hc
  have hhl:=hI.hl
  obtain ⟨hist',es',r,e1,e2,e3⟩:=y0Q (a:=a) (m:=m) (n:=n) (hist:=hist) (es:=es) (k:=hist.length) (by omega) (fun e he=>by have:=(hI.good e he).2; omega)
  have hz : hist'=[]:=List.length_eq_zero_iff.mp (by rw [Nat.min_self] at e2; omega)
  subst hz
  obtain ⟨r',er⟩:=(hI.back e1 (by simp)).bot
  have hes : es'=[]:=by simpa using (List.cons.inj er).1
  subst hes
  have ln : z3F [.lst (z2T m 0 hist)]=some (.int (hist.length : Int)):=by rw [z3A,z3m]
  have lo : (z2T m 0 hist).length=hist.length:=z3m
  obtain ⟨O,hO⟩ : ∃ O,O=z2T m 0 hist:=⟨_,rfl⟩
  rw [← hO] at e3 eo lo
  have t1:=z6r (y1r (y0h (i:=2) (j:=4) (F:=z0H) (f:=z0r z3F [(z0f 4)]) (s:=[some (.sh (.scr ns)),some (.sh (.int (m : Int))),some (.ow (bk a m es (lsD hist) n)),some (.ow (.lst (gs.map .int))),some (.ow (.lst O)),o5,o6]) rfl rfl (by simp! only [lo]) rfl e3))
  have t2:=z6r (tsBX_e (z7z (i:=2) (F:=z0z) (fl:=[]) (s:=[some (.sh (.scr ns)),some (.sh (.int (m : Int))),some (.ow (bk a m [] [] n)),some (.ow (.lst (gs.map .int))),some (.ow (.lst [])),z2j 2 (z2j 4 o5),z2j 2 (z2j 4 o6)]) (d0:=bk a m [] [] n) (args:=[]) rfl rfl none_eq))
  have en : enB [some (.sh (.scr ns)),some (.sh (.int (m : Int))),some (.ow (bk a m es (lsD hist) n)),some (.ow (.lst (gs.map .int))),some (.ow (.lst O)),o5,o6]=some (.nx [some (.sh (.scr ns)),some (.sh (.int (m : Int))),some (.ow (bk a m [] [] n)),some (.ow (.lst (gs.map .int))),some (.ow (.lst [])),z2j 2 (z2j 2 (z2j 4 o5)),z2j 2 (z2j 2 (z2j 4 o6))]):=by
    unfold enB
    exact (y2S ((y4c t1).trans t2)).trans rfl
  have nv:=z6s (a:=a) (m:=m) (ls:=[]) (n:=n) (es:=[]) (by simp)
  have nn:=z3g (a:=a) (m:=m) (ls:=[]) (n:=n) (es:=[]) (by simp)
  have nl:=z8h (a:=a) (m:=m) (ls:=[]) (n:=n) (es:=[])
  have ev : eqD (.lst []) (.lst [])=some (.bl true):=L2.eq_self (y1A (n:=1) (z6o (fun d hd=>nomatch hd)) (by omega))
  have nv' : z0t [bk a m [] [] n]=some (.lst []):=nv
  have nn' : z0j [bk a m [] [] n]=some (.lst []):=nn
  have nl' : z0x [bk a m [] [] n]=some (.int 0):=nl
  obtain ⟨B,hB⟩ : ∃ B,B=bk a m [] [] n:=⟨_,rfl⟩
  have q1 : z1O "Book" "votes" z0t [B]=some (.lst []):=by rw [hB,q_vot,nv']
  have q2 : z1O "Book" "numbers" z0j [B]=some (.lst []):=by rw [hB,y2N,nn']
  have q3 : z1O "Book" "left" z0x [B]=some (.int 0):=by rw [hB,q_lft,nl']
  rw [← hB] at en
  simp_all! only [rsB,z8V,ec,eo,en,q1,q2,q3,ev,z0g]
end
theorem law_true (ns : List Int) (hns : ns.length≤63) : z9z [.scr ns]=some (.bl true):=by
  refine z3p rfl ?_
  rw [g_is]
  cases ns with
  | nil=>
    have ln : z3F [.scr []]=some (.int 0):=rfl
    obtain ⟨o,eo,rfl⟩:=y0A (ns:=[]) (m:=1) (by omega) (by omega)
    have eo : y3T 2 "Book" (z0f 1) rsB [some (.sh (.scr [])),some (.sh (.int 1)),none,none,none,none,none]=some (.rt (.bl true)):=eo
    simp_all! only [ln,eo,z0g]
  | cons c r=>
    obtain ⟨N,hN⟩ : ∃ N,N=c :: r:=⟨_,rfl⟩
    have ln : z3F [.scr N]=some (.int (N.length : Int)):=rfl
    have gt : decide (0 < (N.length : Int))=true:=decide_eq_true (by rw [hN]; simp)
    have ix : ixD (.scr N) (.int 0)=some (.int c):=by
      rw [hN]
      show (atI (c :: r) ((0 : Nat) : Int)).map D.int=_
      rw [z2q (xs:=c :: r) (j:=0) (v:=c) rfl]
      rfl
    obtain ⟨k,ek,hk⟩:=z3D (x:=c) (n:=8) (by omega)
    have mk : z4x (.int c) (.int 8)=some (.int (k : Int)):=by rw [z3K (by omega)]; exact congrArg _ (congrArg _ ek)
    rw [← hN]
    obtain ⟨o,eo,rfl⟩:=y0A (ns:=N) (m:=1 + k) (by omega) (by omega)
    have ad : z5T (.int 1) (.int (k : Int))=some (.int ((1 + k : Nat) : Int)):=by rw [z6Q]; congr 2
    simp_all! only [ln,gt,ix,mk,ad,eo,z0g]
end Prg
open PySem PySem.W PyProof.Rows
set_option maxRecDepth 100000 in
set_option maxHeartbeats 0 in
theorem PySem.Challenge.cw_askorder_k83_whole_taken_back_holds : PySem.Challenge.rw_askorder_k83_whole_taken_back.Holds := by
  w_on; o_law; k_head; (case hw=>w_witness2)
  k_fill
  refine Prg.walk (l:=PySem.Challenge.rw_askorder_k83_whole_taken_back) rfl rfl Prg.law_true (fun w h Y=>PySem.W.kIn_of Y) ?F
  case F=>
    intro w mg fa h KX G hmg
    refine' Prg.all_mk KX G hmg ?x_Book ?ic_Book ?mk_Book ?kc_Book ?a_is_thing ?l_is_thing ?c_is_thing ?k_is_thing ?a_tells_each_once ?l_tells_each_once ?c_tells_each_once ?k_tells_each_once ?a_raised_order ?l_raised_order ?c_raised_order ?k_raised_order ?a__law_order ?l__law_order ?c__law_order ?k__law_order ?a__law_raised ?l__law_raised ?c__law_raised ?k__law_raised ?a__law_after ?l__law_after ?c__law_after ?k__law_after ?a__law_stand ?l__law_stand ?c__law_stand ?k__law_stand ?a__law_kept ?l__law_kept ?c__law_kept ?k__law_kept ?a__law_done ?l__law_done ?c__law_done ?k__law_done ?a__law_back ?l__law_back ?c__law_back ?k__law_back ?a__law_none_left ?l__law_none_left ?c__law_none_left ?k__law_none_left ?a_law ?l_law ?c_law ?k_law ?a_Book___init__ ?l_Book___init__ ?c_Book___init__ ?k_Book___init__ ?a_Book_many ?l_Book_many ?c_Book_many ?k_Book_many ?a_Book_put_in ?l_Book_put_in ?c_Book_put_in ?k_Book_put_in ?a_Book_go_out ?l_Book_go_out ?c_Book_go_out ?k_Book_go_out ?a_Book_raised ?l_Book_raised ?c_Book_raised ?k_Book_raised ?a_Book_take_back ?l_Book_take_back ?c_Book_take_back ?k_Book_take_back ?a_Book_change_to ?l_Book_change_to ?c_Book_change_to ?k_Book_change_to ?a_Book_place_of ?l_Book_place_of ?c_Book_place_of ?k_Book_place_of ?a_Book_numbers ?l_Book_numbers ?c_Book_numbers ?k_Book_numbers ?a_Book_votes ?l_Book_votes ?c_Book_votes ?k_Book_votes ?a_Book_left ?l_Book_left ?c_Book_left ?k_Book_left ?i_Book___init__ ?i_Book_many ?i_Book_put_in ?i_Book_go_out ?i_Book_raised ?i_Book_take_back ?i_Book_change_to ?i_Book_place_of ?i_Book_numbers ?i_Book_votes ?i_Book_left ?w_e_MOST_BALLOTS ?x_BadBallot ?q_BadBallot ?x_BadNumber ?q_BadNumber ?x_Unknown ?q_Unknown ?x_TooMany ?q_TooMany ?x_NothingLeft ?q_NothingLeft ?e_NothingLeft_NothingLeft ?z_int ?z_isinstance ?z_bool ?z_len ?z_tuple ?z_list ?z_range ?z_min
    (case x_Book=>k_is)
    (case ic_Book=>first | kts_exm | k_is | kernel_rfl!)
    (case mk_Book=>k_is)
    (case kc_Book=>k_is)
    (case a_is_thing=>k_is)
    (case l_is_thing=>k_is)
    (case c_is_thing=>k_is)
    (case k_is_thing=>k_is)
    (case a_tells_each_once=>k_is)
    (case l_tells_each_once=>k_is)
    (case c_tells_each_once=>k_is)
    (case k_tells_each_once=>k_is)
    (case a_raised_order=>k_is)
    (case l_raised_order=>k_is)
    (case c_raised_order=>k_is)
    (case k_raised_order=>k_is)
    (case a__law_order=>k_is)
    (case l__law_order=>k_is)
    (case c__law_order=>k_is)
    (case k__law_order=>k_is)
    (case a__law_raised=>k_is)
    (case l__law_raised=>k_is)
    (case c__law_raised=>k_is)
    (case k__law_raised=>k_is)
    (case a__law_after=>k_is)
    (case l__law_after=>k_is)
    (case c__law_after=>k_is)
    (case k__law_after=>k_is)
    (case a__law_stand=>k_is)
    (case l__law_stand=>k_is)
    (case c__law_stand=>k_is)
    (case k__law_stand=>k_is)
    (case a__law_kept=>k_is)
    (case l__law_kept=>k_is)
    (case c__law_kept=>k_is)
    (case k__law_kept=>k_is)
    (case a__law_done=>k_is)
    (case l__law_done=>k_is)
    (case c__law_done=>k_is)
    (case k__law_done=>k_is)
    (case a__law_back=>k_is)
    (case l__law_back=>k_is)
    (case c__law_back=>k_is)
    (case k__law_back=>k_is)
    (case a__law_none_left=>k_is)
    (case l__law_none_left=>k_is)
    (case c__law_none_left=>k_is)
    (case k__law_none_left=>k_is)
    (case a_law=>k_is)
    (case l_law=>k_is)
    (case c_law=>k_is)
    (case k_law=>k_is)
    (case a_Book___init__=>k_is)
    (case l_Book___init__=>k_is)
    (case c_Book___init__=>k_is)
    (case k_Book___init__=>k_is)
    (case a_Book_many=>k_is)
    (case l_Book_many=>k_is)
    (case c_Book_many=>k_is)
    (case k_Book_many=>k_is)
    (case a_Book_put_in=>k_is)
    (case l_Book_put_in=>k_is)
    (case c_Book_put_in=>k_is)
    (case k_Book_put_in=>k_is)
    (case a_Book_go_out=>k_is)
    (case l_Book_go_out=>k_is)
    (case c_Book_go_out=>k_is)
    (case k_Book_go_out=>k_is)
    (case a_Book_raised=>k_is)
    (case l_Book_raised=>k_is)
    (case c_Book_raised=>k_is)
    (case k_Book_raised=>k_is)
    (case a_Book_take_back=>k_is)
    (case l_Book_take_back=>k_is)
    (case c_Book_take_back=>k_is)
    (case k_Book_take_back=>k_is)
    (case a_Book_change_to=>k_is)
    (case l_Book_change_to=>k_is)
    (case c_Book_change_to=>k_is)
    (case k_Book_change_to=>k_is)
    (case a_Book_place_of=>k_is)
    (case l_Book_place_of=>k_is)
    (case c_Book_place_of=>k_is)
    (case k_Book_place_of=>k_is)
    (case a_Book_numbers=>k_is)
    (case l_Book_numbers=>k_is)
    (case c_Book_numbers=>k_is)
    (case k_Book_numbers=>k_is)
    (case a_Book_votes=>k_is)
    (case l_Book_votes=>k_is)
    (case c_Book_votes=>k_is)
    (case k_Book_votes=>k_is)
    (case a_Book_left=>k_is)
    (case l_Book_left=>k_is)
    (case c_Book_left=>k_is)
    (case k_Book_left=>k_is)
    (case i_Book___init__=>k_is)
    (case i_Book_many=>k_is)
    (case i_Book_put_in=>k_is)
    (case i_Book_go_out=>k_is)
    (case i_Book_raised=>k_is)
    (case i_Book_take_back=>k_is)
    (case i_Book_change_to=>k_is)
    (case i_Book_place_of=>k_is)
    (case i_Book_numbers=>k_is)
    (case i_Book_votes=>k_is)
    (case i_Book_left=>k_is)
    (case w_e_MOST_BALLOTS=>k_is)
    (case x_BadBallot=>k_is)
    (case q_BadBallot=>first | k_exc | kernel_rfl!)
    (case x_BadNumber=>k_is)
    (case q_BadNumber=>first | k_exc | kernel_rfl!)
    (case x_Unknown=>k_is)
    (case q_Unknown=>first | k_exc | kernel_rfl!)
    (case x_TooMany=>k_is)
    (case q_TooMany=>first | k_exc | kernel_rfl!)
    (case x_NothingLeft=>k_is)
    (case q_NothingLeft=>first | k_exc | kernel_rfl!)
    (case e_NothingLeft_NothingLeft=>first | kts_exm | k_is | kernel_rfl!)
    (case z_int=>k_is)
    (case z_isinstance=>k_is)
    (case z_bool=>k_is)
    (case z_len=>k_is)
    (case z_tuple=>k_is)
    (case z_list=>k_is)
    (case z_range=>k_is)
    (case z_min=>k_is)
