import PyProof.Rows.All
import Wide.All
import OpenK.AllK
import Wide.FinOn
import Lean
import PyProof.EqAt
import PyProof.EqKinds
import PyProof.TupleCall
import PySem.Challenge.RW_askorder_k56_whole_line_or_bar
set_option Elab.async false
set_option linter.all false
set_option maxRecDepth 100000
noncomputable abbrev PySem.W.Fast.tw14499977095982691163:=PySem.Challenge.pw_askorder_k56_whole_line_or_bar
theorem PySem.W.Fast.te14499977095982691163 : PySem.Challenge.pw_askorder_k56_whole_line_or_bar=PySem.W.Fast.tw14499977095982691163:=rfl
namespace L2
open PySem PySem.Spec PyProof.Rows
noncomputable abbrev Key:=Sum Int Str
noncomputable def y1l : Key->Value->Bool
  | .inl k,v=>Value.isInt k v
  | .inr x,v=>Value.isStrOf x v
noncomputable def keyH (w : World) : Key->Int
  | .inl k=>hashInt k
  | .inr x=>hashStr w x
theorem z1e : ∀ {k : Key} {v : Value},y1l k v=true->(∃ i t,k=Sum.inl i∧v=Value.int i t)∨(∃ x t,k=Sum.inr x∧v=Value.str x t)
  | .inl i,v,h=>by
    obtain ⟨t,e⟩:=Value.isInt_shape (k:=i) (v:=v) h
    exact .inl ⟨i,t,rfl,e⟩
  | .inr x,v,h=>by
    obtain ⟨t,e⟩:=Value.isStrOf_shape (x:=x) (v:=v) h
    exact .inr ⟨x,t,rfl,e⟩
theorem y3f (i : Int) (t : Tok) : y1l (.inl i) (.int i t)=true:=by simp [y1l,Value.isInt]
theorem y2f (x : Str) (t : Tok) : y1l (.inr x) (.str x t)=true:=by simp [y1l,Value.isStrOf]
theorem key_ll (a b : Int) : decide ((Sum.inl a : Key)=Sum.inl b)=(a == b):=by
  by_cases e : a=b
  · subst e; simp
  · have h : ¬ (Sum.inl a : Key)=Sum.inl b:=fun q=>e (Sum.inl.inj q)
    rw [decide_eq_false h]
    exact (beq_eq_false_iff_ne.mpr e).symm
theorem key_rr (a b : Str) : decide ((Sum.inr a : Key)=Sum.inr b)=decide (a=b):=by
  by_cases e : a=b
  · subst e; simp
  · have h : ¬ (Sum.inr a : Key)=Sum.inr b:=fun q=>e (Sum.inr.inj q)
    rw [decide_eq_false h,decide_eq_false e]
theorem key_lr (a : Int) (b : Str) : decide ((Sum.inl a : Key)=Sum.inr b)=false:=decide_eq_false (fun q=>nomatch q)
theorem key_rl (a : Str) (b : Int) : decide ((Sum.inr a : Key)=Sum.inl b)=false:=decide_eq_false (fun q=>nomatch q)
noncomputable def z1w (prog : Program) (w : World) : PySem.KeyKind prog w Key where
  is:=y1l
  hash:=keyH w
  inj:=fun v a b ha hb=>by
    rcases z1e ha with ⟨i,t,rfl,rfl⟩ | ⟨x,t,rfl,rfl⟩
    · rcases z1e hb with ⟨j,u,rfl,e⟩ | ⟨y,u,rfl,e⟩
      · injection e with e1 _; rw [e1]
      · exact nomatch e
    · rcases z1e hb with ⟨j,u,rfl,e⟩ | ⟨y,u,rfl,e⟩
      · exact nomatch e
      · injection e with e1 _; rw [e1]
  byValue:=fun k v h=>by
    rcases z1e h with ⟨i,t,rfl,rfl⟩ | ⟨x,t,rfl,rfl⟩ <;> rfl
  pyHash:=fun hv h=>by
    rcases z1e hv with ⟨i,t,rfl,rfl⟩ | ⟨x,t,rfl,rfl⟩
    · exact wpAny_pyHash_int h
    · exact wpAny_pyHash_str h
  eqBool:=fun hu hv h=>by
    rcases z1e hu with ⟨i,t,rfl,rfl⟩ | ⟨x,t,rfl,rfl⟩
    · rcases z1e hv with ⟨j,u,rfl,rfl⟩ | ⟨y,u,rfl,rfl⟩
      · rw [key_ll] at h; exact wpAny_eqBool_int h
      · rw [key_lr] at h; exact SeqAt.EqAt.int_str i t y u _ _ _ _ h
    · rcases z1e hv with ⟨j,u,rfl,rfl⟩ | ⟨y,u,rfl,rfl⟩
      · rw [key_rl] at h; exact SeqAt.EqAt.str_int x t j u _ _ _ _ h
      · rw [key_rr] at h; exact wpAny_eqBool_str h
  «strs»:=fun k x t v h=>by
    rcases z1e h with ⟨i,u,rfl,e⟩ | ⟨y,u,rfl,e⟩
    · exact nomatch e
    · injection e with e1 _
      subst e1
      cases v <;> rfl
theorem z9R (prog : Program) (w : World) (i : Int) (t : Tok) : (z1w prog w).is (.inl i) (.int i t)=true:=y3f i t
theorem z9S (prog : Program) (w : World) (x : Str) (t : Tok) : (z1w prog w).is (.inr x) (.str x t)=true:=y2f x t
end L2
namespace L2
open PySem PySem.Spec PyProof.Rows
inductive V where
  | non | bl (b : Bool) | int (i : Int) | str (x : Str) | byt (b : Array UInt8) | flt (b : UInt64) | ref (a : Addr) | ty (n : String)
  deriving DecidableEq
noncomputable def RelV : V->Value->Prop
  | .non,u=>u=Value.none
  | .bl b,u=>u=Value.bool b
  | .int i,u=>∃ t,u=Value.int i t
  | .str x,u=>∃ t,u=Value.str x t
  | .byt b,u=>∃ t,u=Value.bytes b t
  | .flt b,u=>∃ t,u=Value.float b t
  | .ref a,u=>u=Value.ref a
  | .ty n,u=>u=Value.type n
noncomputable abbrev Vals : List V->List Value->Prop:=Paired RelV
theorem Vals.length {xs : List V} {us : List Value} (r : Vals xs us) : xs.length=us.length:=Paired.length r
theorem Vals.get : ∀ {xs : List V} {us : List Value} {i : Nat} {x : V},Vals xs us->xs[i]? = some x->∃ u,us[i]? = some u∧RelV x u
  | _,_,_,_,.nil,e=>by simp at e
  | _,_,0,_,.cons r _,e=>by simp at e; subst e; exact ⟨_,rfl,r⟩
  | _,_,i + 1,x,.cons _ t,e=>by
    obtain ⟨u,h1,h2⟩:=Vals.get (i:=i) (x:=x) t (by simpa using e)
    exact ⟨u,by simpa using h1,h2⟩
theorem Vals.set {x : V} {u : Value} (r : RelV x u) : ∀ {xs : List V} {us : List Value} (i : Nat),Vals xs us->Vals (xs.set i x) (us.set i u)
  | _,_,_,.nil=>.nil
  | _,_,0,.cons _ t=>.cons r t
  | _,_,i + 1,.cons q t=>.cons q (Vals.set r i t)
theorem Vals.append : ∀ {xs ys : List V} {us ws : List Value},Vals xs us->Vals ys ws->Vals (xs ++ ys) (us ++ ws)
  | _,_,_,_,.nil,s=>s
  | _,_,_,_,.cons r t,s=>.cons r (Vals.append t s)
theorem Vals.take : ∀ {xs : List V} {us : List Value} (n : Nat),Vals xs us->Vals (xs.take n) (us.take n)
  | _,_,0,_=>.nil
  | _,_,_ + 1,.nil=>.nil
  | _,_,n + 1,.cons r t=>.cons r (Vals.take n t)
theorem Vals.drop : ∀ {xs : List V} {us : List Value} (n : Nat),Vals xs us->Vals (xs.drop n) (us.drop n)
  | _,_,0,r=>r
  | _,_,_ + 1,.nil=>.nil
  | _,_,n + 1,.cons _ t=>Vals.drop n t
noncomputable def RelO : Option V->Option Value->Prop
  | some v,some u=>RelV v u
  | none,none=>True
  | _,_=>False
noncomputable def KV {κ : Type} : List (κ × V)->List (κ × Value)->Prop:=Paired fun (p : κ × V) (q : κ × Value)=>p.1=q.1∧RelV p.2 q.2
noncomputable def kV : Key->V
  | .inl i=>.int i
  | .inr x=>.str x
inductive HO where
  | lst (xs : List V)
  | tup (xs : List V)
  | dK (kvs : List (Key × V)) | dT (kvs : List (List Key × V))
  | set (S : Int->Bool) (n : Nat)
  | ins (C dx : Addr) (fs : List (Str × V))
  | own (x : Addr)
  | xd (fs : List (Str × V))
  | met (f x : Addr)
  | rng (lo hi : Int)
  | frz (o : Obj) (u : HO)
  | tbl (ps : Array Value)
  | ext (φ : Heap->Prop)
noncomputable abbrev Hp:=Addr->Option HO
noncomputable def upd (H : Hp) (a : Addr) (o : HO) : Hp:=fun b=>if b=a then some o else H b
theorem z0o {H : Hp} {a : Addr} {o : HO} : upd H a o a=some o:=by unfold upd; rw [if_pos rfl]
theorem z0z {H : Hp} {a b : Addr} {o : HO} (h : b≠a) : upd H a o b=H b:=by unfold upd; rw [if_neg h]
theorem ne_of {H : Hp} {a b : Addr} {o u : HO} (h : H a=some o) (h' : H b=some u) (d : o≠u) : a≠b:=by
  intro e; subst e; rw [h] at h'; exact d (Option.some.inj h')
theorem z1t {H : Hp} {a b : Addr} {o : HO} (h : H a=some o) (h' : H b=none) : a≠b:=by
  intro e; subst e; rw [h] at h'; cases h'
section
variable (P : Program) (w : World)
noncomputable def TupN (h : Heap) (a : Addr) (items : Array Value) : Prop:=∃ o,h.get? a=some o∧(o.cls = .type "tuple" ∧ o.dict=none)∧∃ n,o.data = .seq items n
theorem TupN.is {h : Heap} {a : Addr} {items : Array Value} (x : TupN h a items) : IsTup h a items:=let ⟨o,e,c,n⟩:=x; ⟨o,e,c.1,n⟩
theorem TupN.lt {h : Heap} {a : Addr} {items : Array Value} (x : TupN h a items) : a < h.objs.size:=x.is.lt
theorem TupN.new (h : Heap) (items : Array Value) : TupN (h.push { cls:=.type "tuple",data:=.seq items }) h.objs.size items:=⟨_,Heap.get?_push_size _ rfl,⟨rfl,rfl⟩,_,rfl⟩
noncomputable def ObjOk (H : Hp) (h : Heap) (a : Addr) : HO->Prop
  | .lst xs=>xs.length≤sizeLine∧∃ (its : List Value) (n : Nat),Vals xs its∧h.get? a=some { cls:=.type "list",data:=.seq its.toArray n }
  | .tup xs=>xs.length≤sizeLine∧∃ its : List Value,Vals xs its∧TupN h a its.toArray
  | .dK kvs=>kvs.length≤sizeLine∧(a == sysModules)=false∧∃ vs,KV kvs vs∧h.DictOf (z1w P w) a vs
  | .dT kvs=>kvs.length≤sizeLine∧(a == sysModules)=false∧∃ xs : List (List Key × Addr × Value),
      Paired (fun (p : List Key × V) (q : List Key × Addr × Value)=>p.1=q.1∧H q.2.1=some (.tup (p.1.map kV))∧RelV p.2 q.2.2) kvs xs ∧
      ∃ o es ep,h.get? a=some o∧o.ExactDict∧o.data = .dict es ep∧es.toList=xs.map (entryOfKey (tupleKind (z1w P w)))∧(xs.map (·.1)).Nodup
  | .set S n=>h.SetOf (intKind P w) a S n
  | .ins C dx fs=>H dx=some (.own a)∧fs.length≤1000∧dx≠a∧h.get? a=some (PySem.W.instObj C dx) ∧
      ∃ mA,h.Ns1 dx mA∧(∀ f,RelO (fs.lookup f) (mA f))∧PySem.Within mA (fs.map (·.1))
  | .own _=>∃ o,h.get? a=some o
  | .xd fs=>∃ mA,h.Ns1 a mA∧∀ f,RelO (fs.lookup f) (mA f)
  | .rng lo hi=>∃ t u v,h.get? a=some { cls:=.type "range",data:=.fields #[.int lo t,.int hi u,.int 1 v] }
  | .frz o u=>h.get? a=some o∧ObjOk H h a u
  | .tbl ps=>h.get? a=some { cls:=.none,data:=.fields ps }
  | .met f x=>h.get? a=some (PySem.W.methodObj (.ref f) (.ref x))
  | .ext φ=>φ h∧(∃ o,h.get? a=some o)∧∀ h1 h2 : Heap,φ h1->(∀ o,h1.get? a=some o->h2.get? a=some o)->φ h2
noncomputable def HOk (H : Hp) (h : Heap) : Prop:=∀ a o,H a=some o->ObjOk P w H h a o
end
section
variable {P : Program} {w : World} {H H' : Hp} {h h' : Heap} {a : Addr} {o : HO}
theorem ObjOk.lt (x : ObjOk P w H h a o) : a < h.objs.size:=by
  cases o with
  | lst xs=>obtain ⟨_,_,_,_,e⟩:=x; exact Heap.lt_size e
  | tup xs=>obtain ⟨_,_,_,p⟩:=x; exact p.lt
  | dK kvs=>obtain ⟨_,_,_,_,o,_,_,e,_⟩:=x; exact Heap.lt_size e
  | dT kvs=>obtain ⟨_,_,_,_,o,_,_,e,_⟩:=x; exact Heap.lt_size e
  | set S n=>obtain ⟨o,_,_,_,e,_⟩:=x; exact Heap.lt_size e
  | ins C dx fs=>obtain ⟨_,_,_,e,_⟩:=x; exact Heap.lt_size e
  | own y=>obtain ⟨_,e⟩:=x; exact Heap.lt_size e
  | xd fs=>obtain ⟨_,⟨_,_,_,e,_⟩,_⟩:=x; exact Heap.lt_size e
  | rng lo hi=>obtain ⟨_,_,_,e⟩:=x; exact Heap.lt_size e
  | frz ob u=>obtain ⟨e,_⟩:=x; exact Heap.lt_size e
  | tbl ps=>exact Heap.lt_size (show h.get? a=some _ from x)
  | met f y=>exact Heap.lt_size (show h.get? a=some _ from x)
  | ext φ=>obtain ⟨_,⟨_,e⟩,_⟩:=x; exact Heap.lt_size e
theorem Paired.mapP {α β : Type} {F G : α->β->Prop} : ∀ {l₁ : List α} {l₂ : List β},Paired F l₁ l₂->(∀ a b,F a b->G a b)->Paired G l₁ l₂
  | _,_,.nil,_=>.nil
  | _,_,.cons r t,f=>.cons (f _ _ r) (Paired.mapP t f)
theorem ObjOk.stay (x : ObjOk P w H h a o) (k : ∀ b u,(b=a∨H b=some (.own a))->h.get? b=some u->h'.get? b=some u)
    (ho : ∀ b,H b=some (.own a)->H' b=some (.own a)) (ht : ∀ b xs,H b=some (.tup xs)->H' b=some (.tup xs)) : ObjOk P w H' h' a o:=by
  induction o with
  | lst xs=>obtain ⟨z,its,n,r,e⟩:=x; exact ⟨z,its,n,r,k _ _ (.inl rfl) e⟩
  | tup xs=>obtain ⟨z,its,r,ob,e,c⟩:=x; exact ⟨z,its,r,ob,k _ _ (.inl rfl) e,c⟩
  | dK kvs=>obtain ⟨z,y,vs,r,ob,es,ep,e,c⟩:=x; exact ⟨z,y,vs,r,ob,es,ep,k _ _ (.inl rfl) e,c⟩
  | dT kvs=>
    obtain ⟨z,y,xs,r,ob,es,ep,e,c⟩:=x
    exact ⟨z,y,xs,Paired.mapP r fun p q z=>⟨z.1,ht _ _ z.2.1,z.2.2⟩,ob,es,ep,k _ _ (.inl rfl) e,c⟩
  | set S n=>obtain ⟨ob,es,ep,t,e,c⟩:=x; exact ⟨ob,es,ep,t,k _ _ (.inl rfl) e,c⟩
  | ins C dx fs=>
    obtain ⟨d,z,ne,e,mA,⟨od,es,ep,e2,c⟩,r⟩:=x
    exact ⟨ho _ d,z,ne,k _ _ (.inl rfl) e,mA,⟨od,es,ep,k _ _ (.inr d) e2,c⟩,r⟩
  | own y=>obtain ⟨ob,e⟩:=x; exact ⟨ob,k _ _ (.inl rfl) e⟩
  | xd fs=>obtain ⟨mA,⟨od,es,ep,e,c⟩,r⟩:=x; exact ⟨mA,⟨od,es,ep,k _ _ (.inl rfl) e,c⟩,r⟩
  | rng lo hi=>obtain ⟨t,u,v,e⟩:=x; exact ⟨t,u,v,k _ _ (.inl rfl) e⟩
  | frz ob u ih=>obtain ⟨e,q⟩:=x; exact ⟨k _ _ (.inl rfl) e,ih q⟩
  | tbl ps=>
    have e : h.get? a=some { cls:=.none,data:=.fields ps }:=x
    show h'.get? a=some { cls:=.none,data:=.fields ps }
    exact k a _ (.inl rfl) e
  | met f y=>
    have e : h.get? a=some (PySem.W.methodObj (.ref f) (.ref y)):=x
    show h'.get? a=some (PySem.W.methodObj (.ref f) (.ref y))
    exact k a _ (.inl rfl) e
  | ext φ=>obtain ⟨p,⟨o,e⟩,st⟩:=x; exact ⟨st _ _ p fun o q=>k _ _ (.inl rfl) q,⟨o,k _ _ (.inl rfl) e⟩,st⟩
theorem HOk.lt (x : HOk P w H h) (e : H a=some o) : a < h.objs.size:=(x a o e).lt
theorem HOk.fresh (x : HOk P w H h) (e : h.objs.size≤a) : H a=none:=by
  cases q : H a with
  | none=>rfl
  | some u=>exact absurd (Nat.lt_of_lt_of_le (x.lt q) e) (Nat.lt_irrefl _)
theorem HOk.kept (x : HOk P w H h) (k : ∀ b u,h.get? b=some u->h'.get? b=some u) : HOk P w H h':=fun a o e=>
  (x a o e).stay (fun b u _ q=>k b u q) (fun _ q=>q) fun _ _ q=>q
theorem HOk.laid (x : HOk P w H h) (k : ∀ b u,h.get? b=some u->h'.get? b=some u) (hp : h.objs.size≤a) (new : ObjOk P w (upd H a o) h' a o) : HOk P w (upd H a o) h':=fun b u e=>by
  have hn:=x.fresh hp
  by_cases hb : b=a
  · subst hb; rw [z0o] at e; cases e; exact new
  · rw [z0z hb] at e
    exact (x b u e).stay (fun c v _ q=>k c v q) (fun c q=>by rw [z0z (z1t q hn)]; exact q) fun c xs q=>by rw [z0z (z1t q hn)]; exact q
end
noncomputable def Rd (H : Hp) (a : Addr) (u : HO) : Prop:=H a=some u∨∃ o,H a=some (.frz o u)
theorem Rd.ok {P : Program} {w : World} {H : Hp} {h : Heap} {a : Addr} {u : HO} (r : Rd H a u) (x : HOk P w H h) : ObjOk P w H h a u:=by
  rcases r with r | ⟨o,r⟩
  · exact x a u r
  · obtain ⟨_,q⟩:=x a _ r
    exact q
noncomputable def Mut : Option HO->Prop
  | some (.lst _)=>True
  | some (.dK _)=>True
  | some (.dT _)=>True
  | some (.set _ _)=>True
  | some (.ins _ _ _)=>True
  | some (.ext _)=>True
  | _=>False
section
variable {P : Program} {w : World} {H : Hp} {h h' : Heap} {x e : Addr} {o' : HO}
theorem HOk.write (ok : HOk P w H h) (mu : Mut (H x)) (he : e=x∨H e=some (.own x)) (k : ∀ b u,b≠e->h.get? b=some u->h'.get? b=some u) (heo : ∃ u,h'.get? e=some u)
    (new : ObjOk P w (upd H x o') h' x o') : HOk P w (upd H x o') h':=fun b u q=>by
  have nown : ∀ c y,H c=some (.own y)->c≠x:=fun c y r z=>by subst z; rw [r] at mu; exact mu
  have ntup : ∀ c xs,H c=some (.tup xs)->c≠x:=fun c xs r z=>by subst z; rw [r] at mu; exact mu
  by_cases hb : b=x
  · subst hb; rw [z0o] at q; cases q; exact new
  · rw [z0z hb] at q
    by_cases hbe : b=e
    · have q' : H b=some (.own x):=by
        rcases he with z | z
        · exact absurd (hbe.trans z) hb
        · rw [hbe]; exact z
      rw [q] at q'; cases q'
      obtain ⟨v,hv⟩:=heo
      exact ⟨v,by rw [hbe]; exact hv⟩
    · refine (ok b u q).stay (fun c v hc r=>k c v ?_ r) (fun c r=>by rw [z0z (nown c b r)]; exact r) fun c xs r=>by rw [z0z (ntup c xs r)]; exact r
      rcases hc with rfl | hc
      · exact hbe
      · rintro rfl
        rcases he with z | z
        · exact nown c b hc z
        · rw [hc] at z; cases z; exact hb rfl
end
structure Un (fs ex : List Addr) (H H' : Hp) (h h' : Heap) : Prop where
  keep : ∀ b o,h.get? b=some o->H b=none->b ∉ fs->b ∉ ex->h'.get? b=some o
  slot : ∀ b o,h.get? b=some o->H b=none->b∈fs->b ∉ ex->∃ sl,h'.get? b=some { o with slots:=sl }
  free : ∀ b o,h.get? b=some o->H b=none->b ∉ ex->H' b=none
  there : ∀ b o,h.get? b=some o->b ∉ ex->∃ o',h'.get? b=some o'
  tups : ∀ b xs,H b=some (.tup xs)->H' b=some (.tup xs)
  frzs : ∀ b o u,H b=some (.frz o u)->H' b=some (.frz o u)
  tbls : ∀ b ps,H b=some (.tbl ps)->∃ more,H' b=some (.tbl (ps ++ more))
section
variable {fs fs' ex ex' : List Addr} {H H1 H2 : Hp} {h h1 h2 h' : Heap} {a x e : Addr} {o : HO}
theorem Un.any (u : Un fs ex H H1 h h1) {b : Addr} {ob : Obj} (q : h.get? b=some ob) (n : H b=none) (hx : b ∉ ex) : ∃ sl,h1.get? b=some { ob with slots:=sl }:=by
  by_cases hb : b∈fs
  · exact u.slot b ob q n hb hx
  · exact ⟨ob.slots,u.keep b ob q n hb hx⟩
theorem Un.kept (k : ∀ b u,h.get? b=some u->h'.get? b=some u) : Un fs ex H H h h':=
  ⟨fun b ob q _ _ _=>k b ob q,fun b ob q _ _ _=>⟨ob.slots,k b ob q⟩,fun _ _ _ n _=>n,fun b ob q _=>⟨ob,k b ob q⟩,fun _ _ q=>q,fun _ _ _ q=>q,fun _ ps q=>⟨#[],by rw [q]; simp⟩⟩
theorem Un.refl : Un fs ex H H h h:=Un.kept fun _ _ q=>q
theorem Un.laid (k : ∀ b u,h.get? b=some u->h'.get? b=some u) (hp : h.objs.size≤a) (hn : H a=none) : Un fs ex H (upd H a o) h h' where
  keep:=fun b u q _ _ _=>k b u q
  slot:=fun b u q _ _ _=>⟨u.slots,k b u q⟩
  free:=fun b u q n _=>by rw [z0z (Nat.ne_of_lt (Nat.lt_of_lt_of_le (Heap.lt_size q) hp))]; exact n
  there:=fun b u q _=>⟨u,k b u q⟩
  tups:=fun b xs q=>by rw [z0z (z1t q hn)]; exact q
  frzs:=fun b u xs q=>by rw [z0z (z1t q hn)]; exact q
  tbls:=fun b ps q=>⟨#[],by rw [z0z (z1t q hn),q]; simp⟩
theorem Un.write (mu : Mut (H x)) (he : e=x∨H e=some (.own x)) (k : ∀ b u,b≠e->h.get? b=some u->h'.get? b=some u) (heo : ∃ u,h'.get? e=some u) : Un fs ex H (upd H x o) h h':=by
  have hx : ∀ b,H b=none->b≠x:=fun b n z=>by subst z; rw [n] at mu; exact mu
  have hb : ∀ b,H b=none->b≠e:=fun b n z=>by
    subst z
    rcases he with r | r
    · exact hx b n r
    · rw [n] at r; cases r
  have hm : ∀ b u,H b=some u->¬ Mut (some u)->b≠x:=fun b u q nm z=>by subst z; rw [q] at mu; exact nm mu
  refine ⟨fun b u q n _ _=>k b u (hb b n) q,fun b u q n _ _=>⟨u.slots,k b u (hb b n) q⟩,fun b u q n _=>by rw [z0z (hx b n)]; exact n,fun b u q _=>?_,
    fun b xs q=>by rw [z0z (hm b _ q fun z=>z)]; exact q,fun b u xs q=>by rw [z0z (hm b _ q fun z=>z)]; exact q,fun b ps q=>⟨#[],by rw [z0z (hm b _ q fun z=>z),q]; simp⟩⟩
  by_cases hbe : b=e
  · subst hbe; exact heo
  · exact ⟨u,k b u hbe q⟩
end
noncomputable def trk (h : Heap) (H : Hp) : List Addr:=(List.range h.objs.size).filter fun a=>(H a).isSome
noncomputable def y5S (h : Heap) (H : Hp) : Heap:=PySem.W.hideAll h (trk h H)
theorem y4c (h : Heap) (H : Hp) : (y5S h H).objs.size=h.objs.size:=PySem.W.hideAll_size _ _
theorem y6e {h : Heap} {H : Hp} {b : Addr} {o : Obj} (e : h.get? b=some o) (n : H b=none) : (y5S h H).get? b=some o:=
  PySem.W.hideAll_get _ e fun hm=>by
    have q : (H b).isSome=true:=(List.mem_filter.mp hm).2
    rw [n] at q; simp at q
theorem of_hidT {h : Heap} {H : Hp} {b : Addr} {o : Obj} (e : (y5S h H).get? b=some o) : h.get? b=some o∧H b=none:=by
  have e' : h.get? b=some o:=PySem.W.of_hideAll (trk h H) e
  refine ⟨e',?_⟩
  cases q : H b with
  | none=>rfl
  | some x=>
    have hm : b∈trk h H:=List.mem_filter.mpr ⟨List.mem_range.mpr (Heap.lt_size e'),by simp [q]⟩
    have z : (y5S h H).get? b=none:=PySem.W.hideAll_none (trk h H) hm
    rw [z] at e; cases e
noncomputable def allNews (g h : Heap) (L : Addr) : List (Addr × Obj):=(List.range h.objs.size).filterMap fun a=>if a=L∨(g.get? a).isSome=true then none else (h.get? a).map fun o=>(a,o)
noncomputable def rest (g h : Heap) (L d : Addr) : List (Addr × Obj):=(allNews g h L).filter fun p=>decide (p.1≠d)
end L2
namespace L2
open PySem PySem.Spec PyProof.Rows
structure Mod (K : PySem.W.Frag) (mg : Str->Option Value) (base : Heap) : Prop where
  kin : K.In base
  glob : base.Ns mainGlobals mg
  blt : ∃ mb,base.Ns builtinsNs mb∧∀ x : Str,x ≠ "__name__" → mb x=bootBuiltins x
  nolimit : base.NoLimit
structure Cx where
  prog : Program
  w : World
  K : PySem.W.Frag
  mg : Str->Option Value
  base : Heap
  A : Around
  N : List Str
  s₀ : Shared
  H₀ : Hp
  env : Env
  outer : List Env
  stack : List Env
  ex : List Addr
  fn : Str->Bool
  calm : Bool
  pn : List (Addr × Obj)
  xe : Value->Shared->Prop
noncomputable def frs (l : List Env) : List Addr:=l.filterMap (·.frame)
noncomputable abbrev Cx.fs (X : Cx) : List Addr:=frs X.outer
noncomputable def Vis (sc : Scope) (x : Str) : Prop:=sc.names.lookup x=some .local∨sc.names.lookup x=some .cell∨sc.names.lookup x=some .free
noncomputable def Loc (sc : Scope) (x : Str) : Prop:=sc.names.lookup x=some .local∨sc.names.lookup x=some .cell
noncomputable def Look (env : Env) (h : Heap) (m : Str->Option Value) (x : Str) (u : Value) : Prop:=
  (env.kindOf x=some .local∧m x=some u)∨((env.kindOf x=some .cell∨env.kindOf x=some .free)∧∃ c,env.cells.lookup x=some c∧h.IsCell c (some u))
structure Cx.Ok (X : Cx) : Prop where
  mod : Mod X.K X.mg X.base
  kind : X.env.scope.kind = .function
  glob : X.env.globals=mainGlobals
  blt : X.env.builtins=builtinsNs
  above : X.s₀.heap.objs.size≤X.env.locals
  inj : ∀ x y c,X.env.cells.lookup x=some c->X.env.cells.lookup y=some c->x=y
  has : ∀ x,(X.env.kindOf x=some .cell∨X.env.kindOf x=some .free)->∃ c,X.env.cells.lookup x=some c
  cab : ∀ x c,X.fn x=true->X.env.cells.lookup x=some c->X.s₀.heap.objs.size≤c
  hd : X.calm=true->X.A.handled=none
  frames : X.A.frames=some X.stack
  stk : X.stack=X.outer∨(X.stack=X.env :: X.outer∧X.env.frame=some X.env.locals)
  exf : ∀ b∈X.ex,b≠X.env.locals∧∀ x c,X.env.cells.lookup x=some c->c≠b
  bs : ∀ b o,X.base.get? b=some o->X.s₀.heap.get? b=some o∧X.H₀ b=none
  bsz : X.base.objs.size≤X.s₀.heap.objs.size
  noex : ∀ b o,X.base.get? b=some o->b ∉ X.ex
  exfs : ∀ b∈X.ex,b ∉ X.fs
  funs : X.s₀.heap.FunFrames X.base X.outer
  frf : ∀ b∈X.fs,X.H₀ b=none
structure Inv (X : Cx) (pins : List (Addr × Obj)) (σ : List (Option V)) (H : Hp) (s : Shared) : Prop where
  ok : X.Ok
  os : s.os=X.s₀.os
  bare : AllBare s.gens
  base : Un X.fs X.ex X.H₀ H X.s₀.heap s.heap
  loc : ∃ m,s.heap.Ns X.env.locals m∧∀ (i : Nat) (x : Str) (v : V),X.N[i]? = some x->σ[i]? = some (some v)->Vis X.env.scope x->∃ u,RelV v u∧Look X.env s.heap m x u
  cell : ∀ x c,X.env.cells.lookup x=some c->∃ v,s.heap.IsCell c v
  free : H X.env.locals=none
  freeC : ∀ x c,X.env.cells.lookup x=some c->H c=none
  pin : ∀ p∈X.pn ++ pins,s.heap.get? p.1=some p.2∧H p.1=none∧p.1≠X.env.locals∧p.1 ∉ X.fs∧∀ v,p.2.data≠.cell v
  hok : HOk X.prog X.w H s.heap
  len : σ.length=X.N.length
section
variable {X : Cx} {pins : List (Addr × Obj)} {σ : List (Option V)} {H H' : Hp} {s : Shared} {h' : Heap}
theorem Cx.Ok.nofr (ok : X.Ok) {b : Addr} {o : Obj} (e : X.base.get? b=some o) : b ∉ X.fs:=fun hb=>by
  have:=(ok.funs.mem hb).1
  rw [e] at this; cases this
theorem Inv.bs (I : Inv X pins σ H s) : ∀ b o,X.base.get? b=some o->s.heap.get? b=some o∧H b=none:=fun b o e=>
  ⟨I.base.keep b o (I.ok.bs b o e).1 (I.ok.bs b o e).2 (I.ok.nofr e) (I.ok.noex b o e),I.base.free b o (I.ok.bs b o e).1 (I.ok.bs b o e).2 (I.ok.noex b o e)⟩
theorem Inv.bk (I : Inv X pins σ H s) : ∀ b o,X.base.get? b=some o->s.heap.get? b=some o:=fun b o e=>(I.bs b o e).1
theorem Inv.mod (I : Inv X pins σ H s) : Mod X.K X.mg X.base:=I.ok.mod
theorem Inv.kIn (I : Inv X pins σ H s) : X.K.In s.heap:=I.ok.mod.kin.keeps I.bk
theorem Inv.lt (I : Inv X pins σ H s) : X.env.locals < s.heap.objs.size:=let ⟨_,hn,_⟩:=I.loc; hn.lt
theorem Inv.sz (I : Inv X pins σ H s) : X.s₀.heap.objs.size≤s.heap.objs.size:=Nat.le_trans I.ok.above (Nat.le_of_lt I.lt)
theorem Inv.nofs (I : Inv X pins σ H s) {a : Addr} (h : s.heap.objs.size≤a) : a ∉ X.fs:=fun hb=>by
  obtain ⟨_,o,ho,_⟩:=I.ok.funs.mem hb
  exact absurd (Nat.lt_of_lt_of_le (Heap.lt_size ho) (Nat.le_trans I.sz h)) (Nat.lt_irrefl _)
theorem Inv.cne (I : Inv X pins σ H s) : ∀ x c,X.env.cells.lookup x=some c->c≠X.env.locals:=fun x c e z=>by
  obtain ⟨v,o,ho,hd⟩:=I.cell x c e
  obtain ⟨m,⟨o',es,ep,ho',hd',_⟩,_⟩:=I.loc
  rw [z,ho'] at ho; cases ho; rw [hd'] at hd; cases hd
theorem Inv.funs (I : Inv X pins σ H s) : s.heap.FunFrames X.base X.outer:=by
  have all : ∀ (l : List Env),(∀ b∈frs l,b∈X.fs)->X.s₀.heap.FunFrames X.base l->s.heap.FunFrames X.base l:=by
    intro l
    induction l with
    | nil=>intro _ _; trivial
    | cons env r ih=>
      intro hs hl
      obtain ⟨hk,⟨L,o,hf,hn,ho,hd⟩,hr⟩:=hl
      have hL : L∈X.fs:=hs L (by unfold frs; rw [List.filterMap_cons,hf]; exact List.mem_cons_self)
      obtain ⟨sl,e⟩:=I.base.slot L o ho (I.ok.frf L hL) hL fun z=>I.ok.exfs L z hL
      exact ⟨hk,⟨L,_,hf,hn,e,hd⟩,ih (fun b hb=>hs b (by unfold frs; rw [List.filterMap_cons,hf]; exact List.mem_cons_of_mem _ hb)) hr⟩
  exact all X.outer (fun _ hb=>hb) I.ok.funs
theorem Inv.stack (I : Inv X pins σ H s) : s.heap.FunFrames X.base X.stack:=by
  rcases I.ok.stk with e | ⟨e,hf⟩
  · rw [e]; exact I.funs
  · rw [e]
    obtain ⟨m,hn,_⟩:=I.loc
    refine .cons (by rw [I.ok.kind]; decide) hf hn ?_ I.funs
    exact Heap.get?_none_of_le (Nat.le_trans I.ok.bsz I.ok.above)
theorem Inv.stkSub (I : Inv X pins σ H s) : ∀ b∈frs X.stack,b∈X.env.locals :: X.fs:=fun b hb=>by
  rcases I.ok.stk with e | ⟨e,hf⟩
  · rw [e] at hb; exact List.mem_cons_of_mem _ hb
  · rw [e] at hb
    unfold frs at hb
    rw [List.filterMap_cons,hf] at hb
    exact hb
theorem Inv.stkFree (I : Inv X pins σ H s) : ∀ b∈frs X.stack,H b=none:=fun b hb=>by
  rcases List.mem_cons.mp (I.stkSub b hb) with e | hb
  · rw [e]; exact I.free
  · obtain ⟨_,o,ho,_⟩:=I.ok.funs.mem hb
    exact I.base.free b o ho (I.ok.frf b hb) fun z=>I.ok.exfs b z hb
theorem Inv.step {g' : Array GenState} {t' : Nat} {d' : Drawn} {ch : List Addr} (I : Inv X pins σ H s)
    (hch : ∀ b∈ch,(b∈X.ex∨X.s₀.heap.objs.size≤b)∧b≠X.env.locals∧(∀ x c,X.env.cells.lookup x=some c->c≠b)∧∀ p∈X.pn ++ pins,p.1≠b)
    (keep : ∀ b o,b≠X.env.locals->b ∉ X.fs->b ∉ ch->s.heap.get? b=some o->H b=none->h'.get? b=some o)
    (slot : ∀ b o,b≠X.env.locals->b∈X.fs->b ∉ ch->s.heap.get? b=some o->H b=none->∃ sl,h'.get? b=some { o with slots:=sl }) (free : ∀ b o,b ∉ ch->s.heap.get? b=some o->H b=none->H' b=none)
    (there : ∀ b o,b ∉ ch->s.heap.get? b=some o->∃ o',h'.get? b=some o')
    (tups : ∀ b xs,H b=some (.tup xs)->H' b=some (.tup xs)) (frzs : ∀ b o u,H b=some (.frz o u)->H' b=some (.frz o u)) (tbls : ∀ b ps,H b=some (.tbl ps)->∃ more,H' b=some (.tbl (ps ++ more)))
    (ns : ∀ m,s.heap.Ns X.env.locals m->h'.Ns X.env.locals m) (hok : HOk X.prog X.w H' h') (hg : AllBare g') :
    Inv X pins σ H' { s with heap:=h',gens:=g',drawn:=d',toks:=t' }:=by
  have neL : ∀ b o,X.s₀.heap.get? b=some o->b≠X.env.locals:=fun b o e=>Nat.ne_of_lt (Nat.lt_of_lt_of_le (Heap.lt_size e) I.ok.above)
  have neC : ∀ b o,X.s₀.heap.get? b=some o->b ∉ X.ex->b ∉ ch:=fun b o e hx hb=>by
    rcases (hch b hb).1 with z | z
    · exact hx z
    · exact absurd (Nat.lt_of_lt_of_le (Heap.lt_size e) z) (Nat.lt_irrefl _)
  have cellK : ∀ x c,X.env.cells.lookup x=some c->∀ v,s.heap.IsCell c v->h'.IsCell c v:=fun x c e v z_=>by
    obtain ⟨o,ho,hd⟩:=z_
    have nch : c ∉ ch:=fun z=>(hch c z).2.2.1 x c e rfl
    by_cases hc : c∈X.fs
    · obtain ⟨sl,q⟩:=slot c o (I.cne x c e) hc nch ho (I.freeC x c e)
      exact ⟨_,q,hd⟩
    · exact ⟨o,keep c o (I.cne x c e) hc nch ho (I.freeC x c e),hd⟩
  refine ⟨I.ok,I.os,hg,⟨fun b o e n hb hx=>?_,fun b o e n hb hx=>?_,fun b o e n hx=>?_,fun b o e hx=>?_,fun b xs e=>tups b xs (I.base.tups b xs e),fun b o xs e=>frzs b o xs (I.base.frzs b o xs e),fun b ps e=>?_⟩,?_,fun x c e=>?_,?_,fun x c e=>?_,fun p hp=>?_,hok,I.len⟩
  · exact keep b o (neL b o e) hb (neC b o e hx) (I.base.keep b o e n hb hx) (I.base.free b o e n hx)
  · obtain ⟨sl,e1⟩:=I.base.slot b o e n hb hx
    obtain ⟨sl',e2⟩:=slot b _ (neL b o e) hb (neC b o e hx) e1 (I.base.free b o e n hx)
    exact ⟨sl',e2⟩
  · obtain ⟨o',e1⟩:=I.base.there b o e hx
    exact free b o' (neC b o e hx) e1 (I.base.free b o e n hx)
  · obtain ⟨o',e1⟩:=I.base.there b o e hx
    exact there b o' (neC b o e hx) e1
  · obtain ⟨m1,e1⟩:=I.base.tbls b ps e
    obtain ⟨m2,e2⟩:=tbls b _ e1
    exact ⟨m1 ++ m2,by rw [e2,Array.append_assoc]⟩
  · obtain ⟨m,hn,hl⟩:=I.loc
    refine ⟨m,ns m hn,fun i x v e1 e2 e3=>?_⟩
    obtain ⟨u,r,l⟩:=hl i x v e1 e2 e3
    refine ⟨u,r,?_⟩
    rcases l with l | ⟨k,c,e,z⟩
    · exact .inl l
    · exact .inr ⟨k,c,e,cellK x c e _ z⟩
  · obtain ⟨v,z⟩:=I.cell x c e
    exact ⟨v,cellK x c e v z⟩
  · obtain ⟨m,⟨o,_,_,ho,_⟩,_⟩:=I.loc
    exact free _ o (fun z=>(hch _ z).2.1 rfl) ho I.free
  · obtain ⟨v,o,ho,hd⟩:=I.cell x c e
    exact free c o (fun z=>(hch c z).2.2.1 x c e rfl) ho (I.freeC x c e)
  · obtain ⟨e,n,ne,nf,d⟩:=I.pin p hp
    have nch : p.1 ∉ ch:=fun z=>(hch p.1 z).2.2.2 p hp rfl
    exact ⟨keep p.1 p.2 ne nf nch e n,free p.1 p.2 nch e n,ne,nf,d⟩
theorem Inv.un {t' : Nat} (I : Inv X pins σ H s) (u : Un X.fs [] H H' s.heap h') (hok : HOk X.prog X.w H' h') : Inv X pins σ H' { s with heap:=h',toks:=t' }:=by
  obtain ⟨m,⟨o,es,ep,ho,r⟩,_⟩:=id I.loc
  obtain ⟨sl,hL⟩:=u.any ho I.free (by simp)
  exact I.step (g':=s.gens) (d':=s.drawn) (ch:=[]) (fun _ z=>nomatch z) (fun b o _ hb _ e n=>u.keep b o e n hb (by simp)) (fun b o _ hb _ e n=>u.slot b o e n hb (by simp)) (fun b o _ e n=>u.free b o e n (by simp)) (fun b o _ e=>u.there b o e (by simp)) u.tups u.frzs u.tbls (fun m' hm=>by
    obtain ⟨o',es',ep',ho',r'⟩:=hm
    rw [ho] at ho'; cases ho'
    exact ⟨_,es',ep',hL,r'⟩) hok I.bare
theorem Inv.call {g' : Array GenState} {t' : Nat} {d' : Drawn} {ch : List Addr} (I : Inv X pins σ H s) (u : Un (frs X.stack) ch H H' s.heap h') (hok : HOk X.prog X.w H' h') (hg : AllBare g')
    (hch : ∀ b∈ch,(b∈X.ex∨X.s₀.heap.objs.size≤b)∧b≠X.env.locals∧(∀ x c,X.env.cells.lookup x=some c->c≠b)∧∀ p∈X.pn ++ pins,p.1≠b) :
    Inv X pins σ H' { s with heap:=h',gens:=g',drawn:=d',toks:=t' }:=by
  obtain ⟨m,⟨o,es,ep,ho,r⟩,_⟩:=id I.loc
  obtain ⟨sl,hL⟩:=u.any ho I.free fun z=>(hch _ z).2.1 rfl
  exact I.step (ch:=ch) hch (fun b o hL hb hc e n=>u.keep b o e n (fun z=>(List.mem_cons.mp (I.stkSub b z)).elim hL hb) hc) (fun b o _ _ hc e n=>u.any e n hc) (fun b o hc e n=>u.free b o e n hc) (fun b o hc e=>u.there b o e hc) u.tups u.frzs u.tbls (fun m' hm=>by
    obtain ⟨o',es',ep',ho',r'⟩:=hm
    rw [ho] at ho'; cases ho'
    exact ⟨_,es',ep',hL,r'⟩) hok hg
theorem Inv.turned {t' : Nat} {it : Addr} (I : Inv X pins σ H s) (k : ∀ b o,b≠it->s.heap.get? b=some o->h'.get? b=some o) (hn : H it=none) (hL : it≠X.env.locals)
    (h1 : it∈X.ex∨X.s₀.heap.objs.size≤it) (h2 : ∀ x c,X.env.cells.lookup x=some c->c≠it) (h3 : ∀ p∈X.pn ++ pins,p.1≠it) : Inv X pins σ H { s with heap:=h',toks:=t' }:=by
  have nit : ∀ b u,H b=some u->b≠it:=fun b u e z=>by rw [z,hn] at e; cases e
  refine I.step (g':=s.gens) (d':=s.drawn) (ch:=[it]) (fun b hb=>?_) (fun b o _ _ hc e _=>k b o (fun z=>hc (by simp [z])) e) (fun b o _ _ hc e _=>⟨o.slots,k b o (fun z=>hc (by simp [z])) e⟩) (fun _ _ _ _ n=>n)
    (fun b o hc e=>⟨o,k b o (fun z=>hc (by simp [z])) e⟩) (fun _ _ e=>e) (fun _ _ _ e=>e) (fun b ps e=>⟨#[],by rw [e]; simp⟩) (fun m hm=>?_) (fun b u e=>?_) I.bare
  · have e : b=it:=by simpa using hb
    subst e
    exact ⟨h1,hL,h2,h3⟩
  · obtain ⟨o,es,ep,ho,r⟩:=hm
    exact ⟨o,es,ep,k _ o (Ne.symm hL) ho,r⟩
  · refine (I.hok b u e).stay (fun c v hc q=>k c v ?_ q) (fun _ q=>q) fun _ _ q=>q
    rcases hc with z | z
    · rw [z]; exact nit b u e
    · exact nit c _ z
theorem Inv.tok (I : Inv X pins σ H s) (t : Nat) : Inv X pins σ H { s with toks:=t }:=I.un (h':=s.heap) (t':=t) Un.refl I.hok
theorem Inv.kept {t' : Nat} (I : Inv X pins σ H s) (k : ∀ b u,s.heap.get? b=some u->h'.get? b=some u) : Inv X pins σ H { s with heap:=h',toks:=t' }:=I.un (Un.kept k) (I.hok.kept k)
theorem Inv.laid {a : Addr} {o : HO} {t' : Nat} (I : Inv X pins σ H s) (k : ∀ b u,s.heap.get? b=some u->h'.get? b=some u) (hp : s.heap.objs.size≤a) (new : ObjOk X.prog X.w (upd H a o) h' a o) :
    Inv X pins σ (upd H a o) { s with heap:=h',toks:=t' }:=I.un (Un.laid k hp (I.hok.fresh hp)) (I.hok.laid k hp new)
theorem Inv.write {x e : Addr} {o : HO} {t' : Nat} (I : Inv X pins σ H s) (mu : Mut (H x)) (he : e=x∨H e=some (.own x)) (k : ∀ b u,b≠e->s.heap.get? b=some u->h'.get? b=some u) (heo : ∃ u,h'.get? e=some u)
    (new : ObjOk X.prog X.w (upd H x o) h' x o) : Inv X pins σ (upd H x o) { s with heap:=h',toks:=t' }:=I.un (Un.write mu he k heo) (I.hok.write mu he k heo new)
theorem Inv.pins_of {pins' : List (Addr × Obj)} (I : Inv X pins σ H s) (h : ∀ p∈pins',s.heap.get? p.1=some p.2∧H p.1=none∧p.1≠X.env.locals∧p.1 ∉ X.fs∧∀ v,p.2.data≠.cell v) : Inv X pins' σ H s:=
  ⟨I.ok,I.os,I.bare,I.base,I.loc,I.cell,I.free,I.freeC,fun p hp=>(List.mem_append.mp hp).elim (fun z=>I.pin p (List.mem_append_left _ z)) (h p),I.hok,I.len⟩
theorem y0x {N : List Str} (hN : N.Nodup) {i j : Nat} {x : Str} (a : N[i]? = some x) (b : N[j]? = some x) : i=j:=by
  obtain ⟨h1,e1⟩:=List.getElem?_eq_some_iff.mp a
  obtain ⟨h2,e2⟩:=List.getElem?_eq_some_iff.mp b
  exact (List.getElem_inj hN).mp (e1.trans e2.symm)
theorem z8y {M : Model} {A : Around} {E : Value->Shared->Prop} {i : Nat} {x : Str} {v : V} {u : Value} {Q : Unit->Shared->Prop} (I : Inv X pins σ H s) (hN : X.N.Nodup) (hi : X.N[i]? = some x) (hx : Loc X.env.scope x) (r : RelV v u)
    (h : ∀ s',Inv X pins (σ.set i (some v)) H s'->(∃ a,Heap.SameBut a s.heap s'.heap∧(a=X.env.locals∨X.env.cells.lookup x=some a))->Q () s') (hf : X.fn x=true∨X.env.scope.names.lookup x=some .local:=by first | exact .inl rfl | exact .inr rfl | assumption) : wpAny M A (storeName X.env x u) Q E s:=by
  obtain ⟨m,hn,hl⟩:=id I.loc
  have hcls : (X.env.scope.kind == .class || (X.env.scope.kind == .module && X.env.locals != X.env.globals))=false:=by rw [I.ok.kind]; rfl
  have hiσ : i < σ.length:=by rw [I.len]; exact (List.getElem?_eq_some_iff.mp hi).1
  have cne:=I.cne
  have tracked : ∀ {a : Addr} {h' : Heap},(∃ o,s.heap.get? a=some o∧H a=none)->Heap.SameBut a s.heap h'->HOk X.prog X.w H h':=fun {a h'} ha hs b ob e=>by
    obtain ⟨_,_,hfree⟩:=ha
    refine (I.hok b ob e).stay (fun c w' hc q=>(hs.2 c ?_).trans q) (fun _ q=>q) fun _ _ q=>q
    rintro rfl
    rcases hc with rfl | hc
    · rw [hfree] at e; cases e
    · rw [hfree] at hc; cases hc
  rcases hx with hk | hk
  · refine wpAny_storeName_local hk hn (fun h' hn' hs=>?_) hcls
    obtain ⟨oL,_,_,hoL,_⟩:=id hn
    refine h _ ⟨I.ok,I.os,I.bare,⟨fun b o e n hb hx=>?_,fun b o e n hb hx=>?_,I.base.free,fun b o e hx=>?_,I.base.tups,I.base.frzs,I.base.tbls⟩,⟨_,hn',fun j y v' e1 e2 e3=>?_⟩,fun y c e=>?_,I.free,I.freeC,fun p hp=>?_,tracked ⟨oL,hoL,I.free⟩ hs,by simpa using I.len⟩ ⟨_,hs,.inl rfl⟩
    · exact (hs.2 b (Nat.ne_of_lt (Nat.lt_of_lt_of_le (Heap.lt_size e) I.ok.above))).trans (I.base.keep b o e n hb hx)
    · obtain ⟨sl,e1⟩:=I.base.slot b o e n hb hx
      exact ⟨sl,(hs.2 b (Nat.ne_of_lt (Nat.lt_of_lt_of_le (Heap.lt_size e) I.ok.above))).trans e1⟩
    · obtain ⟨o',e1⟩:=I.base.there b o e hx
      exact ⟨o',(hs.2 b (Nat.ne_of_lt (Nat.lt_of_lt_of_le (Heap.lt_size e) I.ok.above))).trans e1⟩
    · by_cases hj : j=i
      · subst hj
        rw [hi] at e1; cases e1
        rw [List.getElem?_set_self hiσ] at e2
        cases e2
        exact ⟨u,r,.inl ⟨hk,by simp⟩⟩
      · rw [List.getElem?_set_ne (Ne.symm hj)] at e2
        obtain ⟨u',r',q⟩:=hl j y v' e1 e2 e3
        refine ⟨u',r',?_⟩
        rcases q with ⟨k,e⟩ | ⟨k,c,e,z⟩
        · refine .inl ⟨k,?_⟩
          have : y≠x:=fun e=>hj (y0x hN e1 (e ▸ hi))
          simp [this,e]
        · exact .inr ⟨k,c,e,z.sameBut hs (cne y c e)⟩
    · obtain ⟨w',z⟩:=I.cell y c e
      exact ⟨w',z.sameBut hs (cne y c e)⟩
    · obtain ⟨e,n,ne,nf,d⟩:=I.pin p hp
      exact ⟨(hs.2 p.1 ne).trans e,n,ne,nf,d⟩
  · have hfn : X.fn x=true:=by
      rcases hf with z | z
      · exact z
      · rw [z] at hk; cases hk
    obtain ⟨c,hc⟩:=I.ok.has x (.inl hk)
    obtain ⟨w',z⟩:=I.cell x c hc
    refine wpAny_storeName_cell I.ok.kind hk hc z (fun h' hc' hs=>?_)
    obtain ⟨oc,hoc,hocd⟩:=id z
    refine h { s with heap:=h' } ⟨I.ok,I.os,I.bare,⟨fun b o e n hb hx=>?_,fun b o e n hb hx=>?_,I.base.free,fun b o e hx=>?_,I.base.tups,I.base.frzs,I.base.tbls⟩,⟨m,hn.sameBut hs (Ne.symm (cne x c hc)),fun j y v' e1 e2 e3=>?_⟩,fun y c' e=>?_,I.free,I.freeC,fun p hp=>?_,tracked ⟨oc,hoc,I.freeC x c hc⟩ hs,by simpa using I.len⟩ ⟨c,hs,.inr hc⟩
    · exact (hs.2 b (Nat.ne_of_lt (Nat.lt_of_lt_of_le (Heap.lt_size e) (I.ok.cab x c hfn hc)))).trans (I.base.keep b o e n hb hx)
    · obtain ⟨sl,e1⟩:=I.base.slot b o e n hb hx
      exact ⟨sl,(hs.2 b (Nat.ne_of_lt (Nat.lt_of_lt_of_le (Heap.lt_size e) (I.ok.cab x c hfn hc)))).trans e1⟩
    · obtain ⟨o',e1⟩:=I.base.there b o e hx
      exact ⟨o',(hs.2 b (Nat.ne_of_lt (Nat.lt_of_lt_of_le (Heap.lt_size e) (I.ok.cab x c hfn hc)))).trans e1⟩
    · by_cases hj : j=i
      · subst hj
        rw [hi] at e1; cases e1
        rw [List.getElem?_set_self hiσ] at e2
        cases e2
        exact ⟨u,r,.inr ⟨.inl hk,c,hc,hc'⟩⟩
      · rw [List.getElem?_set_ne (Ne.symm hj)] at e2
        obtain ⟨u',r',q⟩:=hl j y v' e1 e2 e3
        refine ⟨u',r',?_⟩
        rcases q with q | ⟨k,c',e,z'⟩
        · exact .inl q
        · refine .inr ⟨k,c',e,z'.sameBut hs ?_⟩
          rintro rfl
          exact hj (y0x hN e1 (I.ok.inj _ _ _ e hc ▸ hi))
    · by_cases hcc : c'=c
      · subst hcc; exact ⟨_,hc'⟩
      · obtain ⟨w2,z2⟩:=I.cell y c' e
        exact ⟨w2,z2.sameBut hs hcc⟩
    · obtain ⟨e,n,ne,nf,d⟩:=I.pin p hp
      refine ⟨(hs.2 p.1 ?_).trans e,n,ne,nf,d⟩
      intro q
      rw [q,hoc] at e
      have q' : oc=p.2:=Option.some.inj e
      exact d w' (by rw [← q']; exact hocd)
theorem y0V {M : Model} {A : Around} {E : Value->Shared->Prop} {i : Nat} {x : Str} {v : V} {u : Value} {Q : Unit->Shared->Prop} (I : Inv X pins σ H s) (hN : X.N.Nodup) (hi : X.N[i]? = some x) (hx : Loc X.env.scope x) (r : RelV v u)
    (h : ∀ s',Inv X pins (σ.set i (some v)) H s'->Q () s') (hf : X.fn x=true∨X.env.scope.names.lookup x=some .local:=by first | exact .inl rfl | exact .inr rfl | assumption) : wpAny M A (storeName X.env x u) Q E s:=
  z8y I hN hi hx r (fun s' I' _=>h s' I') hf
theorem Inv.call' {s' : Shared} {ch : List Addr} (I : Inv X pins σ H s) (ho : s'.os=s.os) (u : Un (frs X.stack) ch H H' s.heap s'.heap) (hok : HOk X.prog X.w H' s'.heap) (hg : AllBare s'.gens)
    (hch : ∀ b∈ch,(b∈X.ex∨X.s₀.heap.objs.size≤b)∧b≠X.env.locals∧(∀ x c,X.env.cells.lookup x=some c->c≠b)∧∀ p∈X.pn ++ pins,p.1≠b) : Inv X pins σ H' s':=by
  obtain ⟨h',g',d',t',o'⟩:=s'
  have e : o'=s.os:=ho
  subst e
  exact I.call (g':=g') (t':=t') (d':=d') u hok hg hch
end
noncomputable abbrev XK:=Value->Option Addr->Hp->Prop
noncomputable abbrev St:=List (Option V)
noncomputable abbrev VK:=V->Hp->Prop
noncomputable abbrev TE:=St->Hp->VK->Prop
noncomputable abbrev TT:=St->Hp->(Bool->Hp->Prop)->Prop
noncomputable abbrev TA:=St->Hp->(List V->Hp->Prop)->Prop
structure Ends where
  nx : St->Hp->Prop
  rt : VK
  bk : St->Hp->Prop:=fun _ _=>False
  ct : St->Hp->Prop:=fun _ _=>False
noncomputable abbrev TS:=Ends->St->Hp->Prop
noncomputable def EP (X : Cx) (pins : List (Addr × Obj)) (σ : St) (Q : VK) (u : Value) (s' : Shared) : Prop:=∃ v H',Inv X pins σ H' s'∧RelV v u∧Q v H'
noncomputable def TP (X : Cx) (pins : List (Addr × Obj)) (σ : St) (Q : Bool->Hp->Prop) (b : Bool) (s' : Shared) : Prop:=∃ H',Inv X pins σ H' s'∧Q b H'
noncomputable def AP (X : Cx) (pins : List (Addr × Obj)) (σ : St) (Q : List V->Hp->Prop) (us : List Value) (s' : Shared) : Prop:=∃ vs H',Inv X pins σ H' s'∧Vals vs us∧Q vs H'
noncomputable def SP (X : Cx) (pins : List (Addr × Obj)) (D : Ends) (f : Flow) (s' : Shared) : Prop:=
  match f with
  | .next=>∃ σ' H',Inv X pins σ' H' s'∧D.nx σ' H'
  | .brk=>∃ σ' H',Inv X pins σ' H' s'∧D.bk σ' H'
  | .cont=>∃ σ' H',Inv X pins σ' H' s'∧D.ct σ' H'
  | .ret u=>∃ v σ' H',Inv X pins σ' H' s'∧RelV v u∧D.rt v H'
noncomputable def PE (X : Cx) (e : Expr) (t : TE) : Prop:=
  ∀ (pins : List (Addr × Obj)) (s : Shared) (σ : St) (H : Hp) (Q : VK),Inv X pins σ H s->t σ H Q->wpAny (model X.prog X.w) X.A (eval e X.env) (EP X pins σ Q) X.xe s
noncomputable def PT (X : Cx) (e : Expr) (t : TT) : Prop:=
  ∀ (pins : List (Addr × Obj)) (s : Shared) (σ : St) (H : Hp) (Q : Bool->Hp->Prop),Inv X pins σ H s->t σ H Q->wpAny (model X.prog X.w) X.A (isTrue e X.env (eval e X.env)) (TP X pins σ Q) X.xe s
noncomputable def PW (X : Cx) (e : Expr) (t : TT) : Prop:=
  ∀ (whole : Sem Value) (pins : List (Addr × Obj)) (s : Shared) (σ : St) (H : Hp) (Q : Bool->Hp->Prop),Inv X pins σ H s->t σ H Q->wpAny (model X.prog X.w) X.A (isTrue e X.env whole) (TP X pins σ Q) X.xe s
theorem PW.pt {X : Cx} {e : Expr} {t : TT} (h : PW X e t) : PT X e t:=h _
noncomputable def PA (X : Cx) (es : List Expr) (t : TA) : Prop:=
  ∀ (pos : Pos) (pins : List (Addr × Obj)) (s : Shared) (σ : St) (H : Hp) (Q : List V->Hp->Prop),Inv X pins σ H s->t σ H Q->wpAny (model X.prog X.w) X.A (spliced (backTo pos (starEach es X.env))) (AP X pins σ Q) X.xe s
noncomputable def PS (X : Cx) (st : Stmt) (t : TS) : Prop:=
  ∀ (pins : List (Addr × Obj)) (s : Shared) (σ : St) (H : Hp) (D : Ends),Inv X pins σ H s->t D σ H->wpAny (model X.prog X.w) X.A (exec st X.env) (SP X pins D) X.xe s
noncomputable def PSs (X : Cx) (st : List Stmt) (t : TS) : Prop:=
  ∀ (pins : List (Addr × Obj)) (s : Shared) (σ : St) (H : Hp) (D : Ends),Inv X pins σ H s->t D σ H->wpAny (model X.prog X.w) X.A (execs st X.env) (SP X pins D) X.xe s
theorem thn {α : Type} {t : Sem α} {Q Q' : α->Shared->Prop} {M : Model} {A : Around} {E : Value->Shared->Prop} {s : Shared} (h : wpAny M A t Q E s) (hQ : ∀ a s,Q a s->Q' a s) : wpAny M A t Q' E s:=wpAny_mono h hQ fun _ _ x=>x
end L2
namespace L2
open PySem PySem.Spec PyProof.Rows
section
variable {X : Cx}
noncomputable def y1y (i : Nat) : TE:=fun σ H Q=>∃ v,σ[i]? = some (some v)∧Q v H
noncomputable def tC (v : V) : TE:=fun _ H Q=>Q v H
theorem pe_var {i : Nat} {x : Str} {pos : Pos} (hN : X.N[i]? = some x) (hv : Vis X.env.scope x) (hd : (x == ("__debug__" : Str))=false:=by decide) (hcd : (x == ("__classdict__" : Str))=false:=by decide) : PE X (.Name x pos) (y1y i):=by
  intro pins s σ H Q I h
  obtain ⟨v,e,h⟩:=h
  obtain ⟨m,hn,hl⟩:=I.loc
  obtain ⟨u,r,l⟩:=hl i x v hN e hv
  have fin : EP X pins σ Q u s:=⟨v,H,I,r,h⟩
  rcases l with ⟨hk,hm⟩ | ⟨hk,c,hc,hcell⟩
  · exact wpAny_Name (wpAny_loadName_local I.ok.kind hk hn hm fin) hd
  · rcases hk with hk | hk
    · exact wpAny_Name (wpAny_loadName_cell I.ok.kind hk hc hcell fin) hd
    · exact wpAny_Name (wpAny_loadName_free I.ok.kind hk hc hcell fin hcd) hd
theorem pe_int {i j pos} : PE X (.Constant (.int i) j pos) (tC (.int i)):=fun _ _ _ H _ I h=>wpAny_Constant_int ⟨.int i,H,I.tok _,⟨_,rfl⟩,h⟩
theorem pe_bl {b j pos} : PE X (.Constant (.bool b) j pos) (tC (.bl b)):=fun _ _ _ H _ I h=>Constant_bool ⟨.bl b,H,I,rfl,h⟩
theorem pe_non {j pos} : PE X (.Constant .none j pos) (tC .non):=fun _ _ _ H _ I h=>Constant_none ⟨.non,H,I,rfl,h⟩
theorem pe_str {x j pos} : PE X (.Constant (.str x) j pos) (tC (.str x)):=fun _ _ _ H _ I h=>Calls.Constant_str ⟨.str x,H,I.tok _,⟨_,rfl⟩,h⟩
noncomputable def Gl (X : Cx) (x : Str) : Prop:=X.env.kindOf x=some .globalImplicit
theorem z9y {E : Value->Shared->Prop} {pins : List (Addr × Obj)} {s : Shared} {σ : St} {H : Hp} {x : Str} {u : Value} {pos : Pos} {Q : Value->Shared->Prop} (I : Inv X pins σ H s) (hg : Gl X x) (hm : X.mg x=some u) (h : Q u s)
    (hd : (x == ("__debug__" : Str))=false:=by decide) : wpAny (model X.prog X.w) X.A (eval (.Name x pos) X.env) Q E s:=
  Calls.Name_function_global I.ok.kind hg (Calls.loadGlobal_global (by rw [I.ok.glob]; exact I.mod.glob.keeps I.bk) hm h) hd
theorem z4J {E : Value->Shared->Prop} {pins : List (Addr × Obj)} {s : Shared} {σ : St} {H : Hp} {x : Str} {u : Value} {pos : Pos} {Q : Value->Shared->Prop} (I : Inv X pins σ H s) (hg : Gl X x) (hm : X.mg x=none) (hv : bootBuiltins x=some u) (h : Q u s)
    (hn : x ≠ "__name__" := by decide) (hd : (x == ("__debug__" : Str))=false:=by decide) : wpAny (model X.prog X.w) X.A (eval (.Name x pos) X.env) Q E s:=by
  obtain ⟨mb,h1,h2⟩:=I.mod.blt
  exact Calls.Name_function_global I.ok.kind hg (Calls.loadGlobal_builtin (by rw [I.ok.glob]; exact I.mod.glob.keeps I.bk) hm (by rw [I.ok.blt]; exact h1.keeps I.bk) ((h2 x hn).trans hv) h) hd
theorem pe_bltn {x : Str} {v : V} {u : Value} {pos : Pos} (hg : Gl X x) (hm : X.mg x=none) (hv : bootBuiltins x=some u) (r : RelV v u) (hn : x ≠ "__name__" := by decide) (hd : (x == ("__debug__" : Str))=false:=by decide) : PE X (.Name x pos) (tC v):=
  fun _ _ _ H _ I h=>z4J I hg hm hv ⟨v,H,I,r,h⟩ hn hd
variable {a b : Expr} {ta tb : TE} {pos : Pos}
noncomputable def PC (X : Cx) (op : CmpOp) (a b : Expr) (t : TE) : Prop:=
  ∀ (pins : List (Addr × Obj)) (s : Shared) (σ : St) (H : Hp) (Q : VK),Inv X pins σ H s->t σ H Q →
    wpAny (model X.prog X.w) X.A (eval a X.env) (fun v s₁=>wpAny (model X.prog X.w) X.A (eval b X.env) (fun u s₂=>wpAny (model X.prog X.w) X.A (compareOp op v u) (EP X pins σ Q) X.xe s₂) X.xe s₁) X.xe s
theorem y5D (b : Expr) {op : CmpOp} (h : op≠.In) (h2 : op≠.NotIn) : behindInMarks op b=false:=by
  have e1 : (op == CmpOp.In)=false:=by cases op <;> first | rfl | exact absurd rfl h
  have e2 : (op == CmpOp.NotIn)=false:=by cases op <;> first | rfl | exact absurd rfl h2
  cases b <;> simp [behindInMarks,e1,e2]
noncomputable def tNotN (ta : TE) : TE:=fun σ H Q=>ta σ H fun x H1=>Q (.bl (!decide (x = .non))) H1
theorem RelV.none_iff {x : V} {v : Value} (r : RelV x v) : (v == Value.none)=decide (x = .non):=by
  cases x with
  | non=>cases r; rfl
  | bl _=>cases r; rfl
  | int _=>obtain ⟨t,rfl⟩:=r; rfl
  | str _=>obtain ⟨t,rfl⟩:=r; rfl
  | byt _=>obtain ⟨t,rfl⟩:=r; rfl
  | flt _=>obtain ⟨t,rfl⟩:=r; rfl
  | ref _=>cases r; rfl
  | ty _=>cases r; rfl
theorem pc_notN {j pos'} (ha : PE X a ta) : PC X .IsNot a (.Constant .none j pos') (tNotN ta):=by
  intro pins s σ H Q I h
  refine thn (ha pins s σ H _ I h) fun v s1 ⟨x,H1,I1,r1,q1⟩=>?_
  exact Constant_none (isnot_none_gen ⟨.bl _,H1,I1,by rw [r1.none_iff]; rfl,q1⟩)
noncomputable def tB (t : TE) : TT:=fun σ H Q=>t σ H fun x H1=>∃ c,x = .bl c∧Q c H1
theorem y2i {op : CmpOp} {t : TE} (h : PC X op a b t) (h1 : behindInMarks op b=false:=by first | exact y5D _ (by decide) (by decide) | rfl) : PT X (.Compare a [op] [b] pos) (tB t):=by
  intro pins s σ H Q I hw
  refine wpAny_isTrue_Compare1 (thn (h pins s σ H _ I hw) fun v s1 h1=>thn h1 fun u s2 h2=>thn h2 fun c s3 ⟨x,H1,I1,r1,q1⟩=>?_) h1
  obtain ⟨d,rfl,q⟩:=q1
  cases r1
  exact wpAny_truthy_bool ⟨H1,I1,q⟩
variable {tA tB' : TT} {rest : List Expr}
noncomputable def tAnd (t u : TT) : TT:=fun σ H Q=>t σ H fun c H1=>if c=true then u σ H1 Q else Q false H1
noncomputable def tOr (t u : TT) : TT:=fun σ H Q=>t σ H fun c H1=>if c=true then Q true H1 else u σ H1 Q
noncomputable def tNot (t : TT) : TT:=fun σ H Q=>t σ H fun c H1=>Q (!c) H1
theorem pw_and1 (ha : PT X a tA) : PW X (.BoolOp .And [a] pos) tA:=by
  intro wh pins s σ H Q I h
  refine isTrue_and (thn (ha pins s σ H Q I h) fun c s1 e=>?_)
  cases c with
  | true=>exact isTrue_and_nil e
  | false=>exact e
theorem pw_or1 (ha : PT X a tA) : PW X (.BoolOp .Or [a] pos) tA:=by
  intro wh pins s σ H Q I h
  refine isTrue_or (thn (ha pins s σ H Q I h) fun c s1 e=>?_)
  cases c with
  | false=>exact isTrue_or_nil e
  | true=>exact e
theorem pw_and (ha : PT X a tA) (hb : PW X (.BoolOp .And (b :: rest) pos) tB') : PW X (.BoolOp .And (a :: b :: rest) pos) (tAnd tA tB'):=by
  intro wh pins s σ H Q I h
  refine isTrue_and (thn (ha pins s σ H _ I h) fun c s1 ⟨H1,I1,q1⟩=>?_)
  cases c with
  | true=>exact hb wh pins s1 σ H1 Q I1 q1
  | false=>exact ⟨H1,I1,q1⟩
theorem pw_or (ha : PT X a tA) (hb : PW X (.BoolOp .Or (b :: rest) pos) tB') : PW X (.BoolOp .Or (a :: b :: rest) pos) (tOr tA tB'):=by
  intro wh pins s σ H Q I h
  refine isTrue_or (thn (ha pins s σ H _ I h) fun c s1 ⟨H1,I1,q1⟩=>?_)
  cases c with
  | true=>exact ⟨H1,I1,q1⟩
  | false=>exact hb wh pins s1 σ H1 Q I1 q1
theorem pt_not (ha : PT X a tA) : PT X (.UnaryOp .Not a pos) (tNot tA):=by
  intro pins s σ H Q I h
  exact isTrue_not (ha pins s σ H (fun c H1=>Q (!c) H1) I h)
noncomputable def tAndV (ta tb : TE) : TE:=fun σ H Q=>ta σ H fun x H1=>∃ c,x = .bl c∧if c=true then tb σ H1 Q else Q (.bl false) H1
noncomputable def tOrV (ta tb : TE) : TE:=fun σ H Q=>ta σ H fun x H1=>∃ c,x = .bl c∧if c=true then Q (.bl true) H1 else tb σ H1 Q
noncomputable def tNotV (ta : TE) : TE:=fun σ H Q=>ta σ H fun x H1=>∃ c,x = .bl c∧Q (.bl (!c)) H1
theorem pe_one {op} {t : TE} (h : PE X a t) : PE X (.BoolOp op [a] pos) t:=fun pins s σ H Q I hw=>BoolOp_one (h pins s σ H Q I hw)
theorem pe_and (ha : PE X a ta) (hb : PE X (.BoolOp .And (b :: rest) pos) tb) : PE X (.BoolOp .And (a :: b :: rest) pos) (tAndV ta tb):=by
  intro pins s σ H Q I h
  refine BoolOp_and (thn (ha pins s σ H _ I h) fun v s1 ⟨x,H1,I1,r1,q1⟩=>?_)
  obtain ⟨c,rfl,q1⟩:=q1
  cases r1
  refine wpAny_truthy_bool ?_
  cases c with
  | true=>exact hb pins s1 σ H1 Q I1 q1
  | false=>exact ⟨.bl false,H1,I1,rfl,q1⟩
theorem pe_or (ha : PE X a ta) (hb : PE X (.BoolOp .Or (b :: rest) pos) tb) : PE X (.BoolOp .Or (a :: b :: rest) pos) (tOrV ta tb):=by
  intro pins s σ H Q I h
  refine BoolOp_or (thn (ha pins s σ H _ I h) fun v s1 ⟨x,H1,I1,r1,q1⟩=>?_)
  obtain ⟨c,rfl,q1⟩:=q1
  cases r1
  refine wpAny_truthy_bool ?_
  cases c with
  | false=>exact hb pins s1 σ H1 Q I1 q1
  | true=>exact ⟨.bl true,H1,I1,rfl,q1⟩
theorem pe_not (ha : PE X a ta) : PE X (.UnaryOp .Not a pos) (tNotV ta):=by
  intro pins s σ H Q I h
  refine UnaryOp_ (thn (ha pins s σ H _ I h) fun v s1 ⟨x,H1,I1,r1,q1⟩=>?_)
  obtain ⟨c,rfl,q1⟩:=q1
  cases r1
  exact not_of (wpAny_truthy_bool ⟨.bl (!c),H1,I1,rfl,q1⟩)
end
end L2
namespace L2
open PySem PySem.Spec PyProof.Rows
noncomputable def SqL (K : PySem.W.Frag) (H : Hp) (a : Addr) (xs : List V) : Prop:=
  Rd H a (.lst xs) ∨
    ∃ (o : Obj) (its : Array Value) (n : Nat),K.lookup a=some o∧o.cls = .type "list" ∧ o.dict=none∧o.data = .seq its n∧its.size≤sizeLine∧Vals xs its.toList
noncomputable def SqT (K : PySem.W.Frag) (H : Hp) (a : Addr) (xs : List V) : Prop:=
  Rd H a (.tup xs) ∨
    ∃ (o : Obj) (its : Array Value) (n : Nat),K.lookup a=some o∧(o.cls = .type "tuple" ∧ o.dict=none)∧o.data = .seq its n∧its.size≤sizeLine∧Vals xs its.toList
noncomputable def absV : Value->Option V
  | .none=>some .non
  | .bool b=>some (.bl b)
  | .int i _=>some (.int i)
  | .str x _=>some (.str x)
  | .bytes b _=>some (.byt b)
  | .float b _=>some (.flt b)
  | .ref a=>some (.ref a)
  | .type n=>some (.ty n)
  | _=>none
theorem RelV.abs {x : V} {u : Value} (r : RelV x u) : absV u=some x:=by
  cases x with
  | non=>cases r; rfl
  | bl _=>cases r; rfl
  | int _=>obtain ⟨t,rfl⟩:=r; rfl
  | str _=>obtain ⟨t,rfl⟩:=r; rfl
  | byt _=>obtain ⟨t,rfl⟩:=r; rfl
  | flt _=>obtain ⟨t,rfl⟩:=r; rfl
  | ref _=>cases r; rfl
  | ty _=>cases r; rfl
theorem RelV.inj {x y : V} {u : Value} (r : RelV x u) (q : RelV y u) : x=y:=Option.some.inj (r.abs.symm.trans q.abs)
theorem Vals.inj : ∀ {xs ys : List V} {us : List Value},Vals xs us->Vals ys us->xs=ys
  | _,_,_,.nil,.nil=>rfl
  | _,_,_,.cons r t,.cons r' t'=>by rw [r.inj r',Vals.inj t t']
section
variable {X : Cx} {pins : List (Addr × Obj)} {σ : St} {H : Hp} {s : Shared} {a : Addr} {xs ys : List V}
theorem SqL.of {K : PySem.W.Frag} (h : H a=some (.lst xs)) : SqL K H a xs:=.inl (.inl h)
theorem SqT.of {K : PySem.W.Frag} (h : H a=some (.tup xs)) : SqT K H a xs:=.inl (.inl h)
theorem Inv.list (I : Inv X pins σ H s) (h : SqL X.K H a xs) : ∃ its : List Value,Vals xs its∧PlainL s.heap a its.toArray∧xs.length≤sizeLine:=by
  rcases h with h | ⟨o,its,n,hk,hc,hd,hs,hz,r⟩
  · obtain ⟨z,its,n,r,e⟩:=h.ok I.hok
    exact ⟨its,r,⟨_,n,e,rfl,rfl,rfl⟩,z⟩
  · refine ⟨its.toList,r,⟨o,n,I.kIn a o hk,hc,hd,by simpa using hs⟩,?_⟩
    have e:=r.length
    simp only [Array.length_toList] at e
    omega
theorem Inv.tuple (I : Inv X pins σ H s) (h : SqT X.K H a xs) : ∃ its : List Value,Vals xs its∧IsTup s.heap a its.toArray∧xs.length≤sizeLine:=by
  rcases h with h | ⟨o,its,n,hk,hc,hs,hz,r⟩
  · obtain ⟨z,its,r,p⟩:=h.ok I.hok
    exact ⟨its,r,p.is,z⟩
  · refine ⟨its.toList,r,⟨o,I.kIn a o hk,hc.1,n,by simpa using hs⟩,?_⟩
    have e:=r.length
    simp only [Array.length_toList] at e
    omega
theorem Inv.list_inj (I : Inv X pins σ H s) (h : SqL X.K H a xs) (h' : SqL X.K H a ys) : xs=ys:=by
  obtain ⟨its,r,⟨o,n,e,_,_,d⟩,_⟩:=I.list h
  obtain ⟨its',r',⟨o',n',e',_,_,d'⟩,_⟩:=I.list h'
  rw [e] at e'; cases e'
  rw [d] at d'
  injection d' with d1 _
  have : its=its':=by simpa using congrArg Array.toList d1
  subst this
  exact r.inj r'
theorem Inv.tuple_inj (I : Inv X pins σ H s) (h : SqT X.K H a xs) (h' : SqT X.K H a ys) : xs=ys:=by
  obtain ⟨its,r,⟨o,e,_,n,d⟩,_⟩:=I.tuple h
  obtain ⟨its',r',⟨o',e',_,n',d'⟩,_⟩:=I.tuple h'
  rw [e] at e'; cases e'
  rw [d] at d'
  injection d' with d1 _
  have : its=its':=by simpa using congrArg Array.toList d1
  subst this
  exact r.inj r'
end
noncomputable abbrev Cx.wish (X : Cx) (E : Value->Shared->Prop) : Cx:={ X with xe:=E }
noncomputable abbrev Cx.nox (X : Cx) : Cx:=X.wish fun _ _=>False
theorem Cx.Ok.wish {X : Cx} (ok : X.Ok) (E : Value->Shared->Prop) : (X.wish E).Ok:=
  ⟨ok.mod,ok.kind,ok.glob,ok.blt,ok.above,ok.inj,ok.has,ok.cab,ok.hd,ok.frames,ok.stk,ok.exf,ok.bs,ok.bsz,ok.noex,ok.exfs,ok.funs,ok.frf⟩
theorem Cx.Ok.unwish {X : Cx} {E : Value->Shared->Prop} (ok : (X.wish E).Ok) : X.Ok:=
  ⟨ok.mod,ok.kind,ok.glob,ok.blt,ok.above,ok.inj,ok.has,ok.cab,ok.hd,ok.frames,ok.stk,ok.exf,ok.bs,ok.bsz,ok.noex,ok.exfs,ok.funs,ok.frf⟩
section
variable {X : Cx} {pins : List (Addr × Obj)} {σ : St} {H : Hp} {s : Shared} {E : Value->Shared->Prop}
theorem Inv.wish (I : Inv X pins σ H s) (E : Value->Shared->Prop) : Inv (X.wish E) pins σ H s:=⟨I.ok.wish E,I.os,I.bare,I.base,I.loc,I.cell,I.free,I.freeC,I.pin,I.hok,I.len⟩
theorem Inv.unwish (I : Inv (X.wish E) pins σ H s) : Inv X pins σ H s:=⟨I.ok.unwish,I.os,I.bare,I.base,I.loc,I.cell,I.free,I.freeC,I.pin,I.hok,I.len⟩
theorem SP.unwish {D : Ends} {f : Flow} {s' : Shared} (h : SP (X.wish E) pins D f s') : SP X pins D f s':=by
  cases f with
  | next=>obtain ⟨σ',H',I,q⟩:=h; exact ⟨σ',H',I.unwish,q⟩
  | brk=>obtain ⟨σ',H',I,q⟩:=h; exact ⟨σ',H',I.unwish,q⟩
  | cont=>obtain ⟨σ',H',I,q⟩:=h; exact ⟨σ',H',I.unwish,q⟩
  | ret u=>obtain ⟨v,σ',H',I,r,q⟩:=h; exact ⟨v,σ',H',I.unwish,r,q⟩
theorem PSs.nox {st : List Stmt} {t : TS} (h : PSs X.nox st t) : PSs X st t:=fun pins s σ H D I hw=>
  wpAny_mono (h pins s σ H D (I.wish _) hw) (fun _ _ q=>q.unwish) fun _ _ z=>False.elim z
end
section
variable {X : Cx} {st : Stmt} {rest : List Stmt} {t u : TS} {e : Expr} {te : TE} {pos : Pos}
noncomputable def tNext : TS:=fun D σ H=>D.nx σ H
noncomputable def tSeq (t u : TS) : TS:=fun D σ H=>t { D with nx:=u D } σ H
theorem pss_nil : PSs X [] tNext:=fun _ _ σ H _ I h=>wpAny_execs_nil ⟨σ,H,I,h⟩
theorem y6b (h1 : PS X st t) (h2 : PSs X rest u) : PSs X (st :: rest) (tSeq t u):=by
  intro pins s σ H D I h
  refine wpAny_execs_cons (thn (h1 pins s σ H { D with nx:=u D } I h) fun f s1 q=>?_)
  cases f with
  | next=>
    obtain ⟨σ',H',I',q⟩:=q
    exact h2 pins s1 σ' H' D I' q
  | ret v=>exact q
  | brk=>exact q
  | cont=>exact q
theorem pss_one (h1 : PS X st t) : PSs X [st] t:=by
  intro pins s σ H D I h
  refine wpAny_execs_cons (thn (h1 pins s σ H D I h) fun f s1 q=>?_)
  cases f with
  | next=>exact wpAny_execs_nil q
  | ret v=>exact q
  | brk=>exact q
  | cont=>exact q
theorem Inv.quiet {pins : List (Addr × Obj)} {σ : St} {H : Hp} {s : Shared} (I : Inv X pins σ H s) : interactive X.env=false:=by simp [interactive,I.ok.kind]
noncomputable def tDrop (te : TE) : TS:=fun D σ H=>te σ H fun _ H1=>D.nx σ H1
theorem z7y (he : PE X e te) (hs : swapsWith e none pos.line X.env=pure false:=by rfl) : PS X (.Expr e pos) (tDrop te):=by
  intro pins s σ H D I h
  exact wpAny_Expr_any (thn (he pins s σ H _ I h) fun v s1 ⟨x,H1,I1,r1,q1⟩=>⟨σ,H1,I1,q1⟩) I.quiet hs
noncomputable def tRet (te : TE) : TS:=fun D σ H=>te σ H D.rt
theorem z8R (he : PE X e te) : PS X (.Return (some e) pos) (tRet te):=by
  intro pins s σ H D I h
  exact wpAny_Return_some (thn (he pins s σ H _ I h) fun v s1 ⟨x,H1,I1,r1,q1⟩=>⟨x,σ,H1,I1,r1,q1⟩)
noncomputable def tIfS (c : TT) (t u : TS) : TS:=fun D σ H=>c σ H fun b H1=>if b=true then t D σ H1 else u D σ H1
theorem ps_if {c : Expr} {a b : List Stmt} {tc : TT} (hc : PT X c tc) (ha : PSs X a t) (hb : PSs X b u) : PS X (.If c a b pos) (tIfS tc t u):=by
  intro pins s σ H D I h
  refine wpAny_If (thn (hc pins s σ H _ I h) fun d s1 ⟨H1,I1,q1⟩=>?_)
  cases d with
  | true=>exact ha pins s1 σ H1 D I1 q1
  | false=>exact hb pins s1 σ H1 D I1 q1
end
noncomputable abbrev TG:=V->St->Hp->(St->Hp->Prop)->Prop
noncomputable abbrev TGs:=List V->St->Hp->(St->Hp->Prop)->Prop
noncomputable def PG (X : Cx) (target : Expr) (t : TG) : Prop:=
  ∀ (pins : List (Addr × Obj)) (s : Shared) (σ : St) (H : Hp) (v : V) (u : Value) (Q : St->Hp->Prop),Inv X pins σ H s->RelV v u->t v σ H Q →
    wpAny (model X.prog X.w) X.A (assign target X.env u) (fun _ s'=>∃ σ' H',Inv X pins σ' H' s'∧Q σ' H') X.xe s
noncomputable def PGs (X : Cx) (ts : List Expr) (t : TGs) : Prop:=
  ∀ (pins : List (Addr × Obj)) (s : Shared) (σ : St) (H : Hp) (vs : List V) (us : List Value) (Q : St->Hp->Prop),Inv X pins σ H s->Vals vs us->t vs σ H Q →
    wpAny (model X.prog X.w) X.A (assignInOrder ((assignEach ts X.env).map (·.2)) us) (fun _ s'=>∃ σ' H',Inv X pins σ' H' s'∧Q σ' H') X.xe s
noncomputable abbrev TSet:=V->V->V->Hp->(Hp->Prop)->Prop
noncomputable def PSet (X : Cx) (t : TSet) : Prop:=
  ∀ (pins : List (Addr × Obj)) (s : Shared) (σ : St) (H : Hp) (o i v : V) (ov iv u : Value) (Q : Hp->Prop),Inv X pins σ H s->RelV o ov->RelV i iv->RelV v u->t o i v H Q →
    wpAny (model X.prog X.w) X.A (setItem ov iv u) (fun _ s'=>∃ H',Inv X pins σ H' s'∧Q H') X.xe s
section
variable {X : Cx} {pos : Pos}
noncomputable def z3X (i : Nat) : TG:=fun v σ H Q=>Q (σ.set i (some v)) H
theorem z0n {i : Nat} {x : Str} (hN : X.N.Nodup) (hi : X.N[i]? = some x) (hx : Loc X.env.scope x) (hf : X.fn x=true∨X.env.scope.names.lookup x=some .local:=by first | exact .inl rfl | exact .inr rfl | assumption) : PG X (.Name x pos) (z3X i):=by
  intro pins s σ H v u Q I r h
  exact wpAny_assign_Name (y0V I hN hi hx r (fun s' I'=>⟨_,H,I',h⟩) hf)
noncomputable def gNil : TGs:=fun vs σ H Q=>vs=[]∧Q σ H
noncomputable def gCons (t : TG) (u : TGs) : TGs:=fun vs σ H Q=>∃ v r,vs=v :: r∧t v σ H fun σ' H'=>u r σ' H' Q
theorem pgs_nil : PGs X [] gNil:=by
  intro pins s σ H vs us Q I r h
  obtain ⟨e,h⟩:=h
  subst e
  cases r
  exact assignInOrder_nil ⟨σ,H,I,h⟩
theorem y0v {e : Expr} {es : List Expr} {t : TG} {u : TGs} (h1 : PG X e t) (h2 : PGs X es u)
    (hs : (assignEach (e :: es) X.env).map (·.2)=assign e X.env :: (assignEach es X.env).map (·.2):=by rfl) : PGs X (e :: es) (gCons t u):=by
  intro pins s σ H vs us Q I r h
  obtain ⟨v,vr,e1,h⟩:=h
  subst e1
  cases r with
  | cons r rr=>
    rw [hs]
    refine assignInOrder_cons (thn (h1 pins s σ H _ _ _ I r h) fun _ s1 ⟨σ1,H1,I1,q1⟩=>?_)
    exact h2 pins s1 σ1 H1 _ _ Q I1 rr q1
noncomputable def gTup (K : PySem.W.Frag) (n : Nat) (t : TGs) : TG:=fun v σ H Q=>∃ a xs,v = .ref a∧SqT K H a xs∧xs.length=n∧t xs σ H Q
theorem pg_tup {es : List Expr} {k : Nat} {t : TGs} {n : Nat} (hc : X.calm=true) (h : PGs X es t)
    (hn : (assignEach es X.env).length=n:=by rfl) (hst : (assignEach es X.env).findIdx? (·.1)=none:=by rfl) : PG X (.Tuple es k pos) (gTup X.K n t):=by
  intro pins s σ H v u Q I r hw
  obtain ⟨a,xs,e1,hq,hl,hw⟩:=hw
  subst e1
  cases r
  obtain ⟨its,rv,ht,hz⟩:=I.tuple hq
  refine assign_Tuple_tuple (I.ok.hd hc) ht (by simp [hn,← hl,rv.length]) hst fun h' hx=>?_
  have I1 : Inv X pins σ H { s with heap:=h' }:=I.kept (t':=s.toks) fun b o e=>hx b o (Nat.ne_of_lt (Heap.lt_size e)) e
  exact h pins _ σ H xs _ Q I1 (by simpa using rv) hw
noncomputable def gSub (to ti : TE) (t : TSet) : TG:=fun v σ H Q=>to σ H fun o H1=>ti σ H1 fun i H2=>t o i v H2 fun H3=>Q σ H3
theorem pg_sub {o i : Expr} {to ti : TE} {t : TSet} (ho : PE X o to) (hi : PE X i ti) (hs : PSet X t)
    (ha : ∀ v,assign (.Subscript o i pos) X.env v=(do
      let ov ← holding [v] (eval o X.env)
      let iv ← holding [v,ov] (eval i X.env)
      standAt pos
      holding [v,ov,iv] (setItem ov iv v)
      release [v,ov,iv] []):=by intro _; rfl) : PG X (.Subscript o i pos) (gSub to ti t):=by
  intro pins s σ H v u Q I r h
  rw [ha]
  refine wpAny_bind (wpAny_holding (thn (ho pins s σ H _ I h) fun ov s1 ⟨x,H1,I1,r1,q1⟩=>?_))
  refine wpAny_bind (wpAny_holding (thn (hi pins s1 σ H1 _ I1 q1) fun iv s2 ⟨y,H2,I2,r2,q2⟩=>?_))
  refine wpAny_bind (wpAny_standAt (wpAny_bind (wpAny_holding (thn (hs pins s2 σ H2 x y v ov iv u _ I2 r1 r2 r q2) fun _ s3 ⟨H3,I3,q3⟩=>?_))))
  exact wpAny_release ⟨σ,H3,I3,q3⟩
noncomputable def tAsg (te : TE) (g : TG) : TS:=fun D σ H=>te σ H fun x H1=>g x σ H1 D.nx
theorem ps_asg {tg e : Expr} {te : TE} {g : TG} (he : PE X e te) (hg : PG X tg g) (hs : swapsWithSole [tg] e pos.line X.env=pure false:=by rfl) (hw : swappedStores [tg] e X.env=pure none:=by rfl)
    (h1 : (assignEach [tg] X.env).map (·.2)=[assign tg X.env]:=by rfl) : PS X (.Assign [tg] e pos) (tAsg te g):=by
  intro pins s σ H D I h
  refine wpAny_Assign_stores (thn (he pins s σ H _ I h) fun v s1 ⟨x,H1,I1,r1,q1⟩=>?_) hs hw
  rw [h1]
  exact thn (hg pins s1 σ H1 x v _ I1 r1 q1) fun _ s2 q=>q
theorem ps_set {i : Nat} {x : Str} {e : Expr} {te : TE} {pos' : Pos} (hN : X.N.Nodup) (hi : X.N[i]? = some x) (hx : Loc X.env.scope x) (he : PE X e te) (hs : swapsWith e (some (.Name x pos')) pos.line X.env=pure false:=by rfl) (hf : X.fn x=true∨X.env.scope.names.lookup x=some .local:=by first | exact .inl rfl | exact .inr rfl | assumption) :
    PS X (.Assign [.Name x pos'] e pos) (tAsg te (z3X i)):=by
  intro pins s σ H D I h
  refine wpAny_Assign_Name (thn (he pins s σ H _ I h) fun v s1 ⟨y,H1,I1,r1,q1⟩=>?_) hs
  exact y0V I1 hN hi hx r1 (fun s2 I2=>⟨_,H1,I2,q1⟩) hf
end
section
variable {X : Cx} {pos : Pos}
noncomputable def tWhile (c : TT) (tb : TS) : TS:=fun D σ H=>∃ W : Nat->St->Hp->Prop,(∃ m,W m σ H)∧∀ m σ H,W m σ H →
  c σ H fun b H1=>if b=true then ∃ N : St->Hp->Prop,(∀ σ' H',N σ' H'->∃ m',m' < m∧W m' σ' H')∧tb { D with nx:=N,ct:=N,bk:=D.nx } σ H1 else D.nx σ H1
theorem y5r {c : Expr} {body : List Stmt} {tc : TT} {tb : TS} (hp : PassesOwn (model X.prog X.w) X.A X.env X.xe) (hc : PT X c tc) (hb : PSs X body tb) : PS X (.While c body [] pos) (tWhile tc tb):=by
  intro pins s σ H D I h
  obtain ⟨W,⟨m0,w0⟩,turn⟩:=h
  refine wpAny_While (codeAny_whileLoop (fun n s'=>∃ σ' H',Inv X pins σ' H' s'∧W n σ' H') ?_ m0 ⟨σ,H,I,w0⟩)
  rintro n s1 ⟨σ1,H1,I1,w1⟩
  refine wpAny_passesOwn hp (thn (hc pins s1 σ1 H1 _ I1 (turn n σ1 H1 w1)) fun b s2 ⟨H2,I2,q2⟩=>?_)
  cases b with
  | true=>
    obtain ⟨N,hN,q2⟩:=q2
    rw [if_pos rfl]
    refine wpAny_passesOwn hp (thn (hb pins s2 σ1 H2 _ I2 q2) fun f s3 q3=>?_)
    cases f with
    | next=>
      obtain ⟨σ3,H3,I3,n3⟩:=q3
      obtain ⟨m',hm,w3⟩:=hN σ3 H3 n3
      exact ⟨m',hm,σ3,H3,I3,w3⟩
    | cont=>
      obtain ⟨σ3,H3,I3,n3⟩:=q3
      obtain ⟨m',hm,w3⟩:=hN σ3 H3 n3
      exact ⟨m',hm,σ3,H3,I3,w3⟩
    | brk=>exact q3
    | ret v=>exact q3
  | false=>
    rw [if_neg Bool.false_ne_true]
    exact wpAny_execs_nil ⟨σ1,H2,I2,q2⟩
end
structure It where
  go : Nat->Hp->Prop
  yld : Nat->Hp->V->Hp->Prop
  stop : Nat->Hp->Prop
noncomputable def z9B (X : Cx) (pins : List (Addr × Obj)) (H : Hp) (b : Addr) : Prop:=
  H b=none∧b≠X.env.locals∧b ∉ X.fs∧(b∈X.ex∨X.s₀.heap.objs.size≤b)∧(∀ x c,X.env.cells.lookup x=some c->c≠b)∧∀ p∈X.pn ++ pins,p.1≠b
theorem Inv.fpOk {X : Cx} {pins : List (Addr × Obj)} {σ : St} {H H' : Hp} {s : Shared} {b : Addr} (I : Inv X pins σ H s) (hb : s.heap.objs.size≤b) (hn : H' b=none) : z9B X pins H' b:=by
  refine ⟨hn,Nat.ne_of_gt (Nat.lt_of_lt_of_le I.lt hb),I.nofs hb,.inr (Nat.le_trans I.sz hb),fun x c e z=>?_,fun p hp z=>?_⟩
  · obtain ⟨v,q⟩:=I.cell x c e
    exact absurd (Nat.lt_of_lt_of_le q.lt (by rw [z]; exact hb)) (Nat.lt_irrefl _)
  · exact absurd (Nat.lt_of_lt_of_le (Heap.lt_size (I.pin p hp).1) (by rw [z]; exact hb)) (Nat.lt_irrefl _)
structure Turn (P : Program) (w : World) (K : PySem.W.Frag) (tg : Expr) (J : It) (fp : List Addr) (it : Addr) (tn : Nat->Heap->Prop) : Prop where
  mem : it∈fp
  obj : ∀ i h,tn i h->∀ b∈fp,∃ o,h.get? b=some o∧∀ v,o.data≠.cell v
  keep : ∀ i h h',tn i h->(∀ b∈fp,∀ o,h.get? b=some o->h'.get? b=some o)->tn i h'
  item : ∀ (X : Cx),X.prog=P->X.w=w->X.K=K->X.calm=true->∀ (i : Nat) (pins : List (Addr × Obj)) (s : Shared) (σ : St) (H : Hp) (E : Value->Shared->Prop),Inv X pins σ H s->(∀ b∈fp,z9B X pins H b)->tn i s.heap->J.go i H →
    wpAny (model P w) X.A (pyNext (.ref it)) (fun r s1=>∃ u,r=some u ∧
      wpAny (model P w) X.A (letOwnedTupleGo tg (.ref it) u) (fun _ s2=>∃ x H',Inv X pins σ H' s2∧RelV x u∧J.yld i H x H'∧tn (i + 1) s2.heap∧∀ b∈fp,H' b=none) E s1) E s
  done : ∀ (X : Cx),X.prog=P->X.w=w->X.K=K->X.calm=true->∀ (i : Nat) (pins : List (Addr × Obj)) (s : Shared) (σ : St) (H : Hp) (E : Value->Shared->Prop),Inv X pins σ H s->(∀ b∈fp,z9B X pins H b)->tn i s.heap->J.stop i H →
    wpAny (model P w) X.A (pyNext (.ref it)) (fun r s1=>r=none∧Inv X pins σ H s1) E s
  self : ∀ (A : Around) (i : Nat) (s : Shared) (Q : Value->Shared->Prop) (E : Value->Shared->Prop),tn i s.heap->Q (.ref it) s->wpAny (model P w) A (pyIter (.ref it)) Q E s
noncomputable abbrev TI:=St->Hp->(It->Hp->Prop)->Prop
noncomputable def PIE (X : Cx) (pins : List (Addr × Obj)) (σ : St) (tg : Expr) (R : It->Hp->Prop) (itv : Value) (s2 : Shared) : Prop:=
  ∃ (it : Addr) (fp : List Addr) (tn : Nat->Heap->Prop) (J : It) (H' : Hp),itv = .ref it∧Inv X pins σ H' s2∧Turn X.prog X.w X.K tg J fp it tn∧tn 0 s2.heap∧(∀ b∈fp,z9B X pins H' b)∧R J H'
noncomputable def PI (X : Cx) (tg iter : Expr) (wi : TI) : Prop:=
  ∀ (pins : List (Addr × Obj)) (s : Shared) (σ : St) (H : Hp) (R : It->Hp->Prop),Inv X pins σ H s->wi σ H R →
    wpAny (model X.prog X.w) X.A (eval iter X.env) (fun v s1=>wpAny (model X.prog X.w) X.A (pyIter v) (PIE X pins σ tg R) X.xe s1) X.xe s
theorem go_of {M : Model} {A : Around} {E : Value->Shared->Prop} {s : Shared} {tg : Expr} {it : Addr} {u : Value} {o : Obj} {n : String} {vs : Array Value} {Q : Unit->Shared->Prop} (ho : s.heap.get? it=some o) (hc : o.cls = .type n) (hd : o.data = .fields vs)
    (hn : ["enumerate", "zip", "dict_itemiterator", "dict_reverseitemiterator", "odict_iterator", "itertools.zip_longest", "itertools.pairwise"].contains n=false) (hQ : Q () s) : wpAny M A (letOwnedTupleGo tg (.ref it) u) Q E s:=by
  unfold letOwnedTupleGo
  cases tg <;> first
    | exact wpAny_pure hQ
    | (cases u <;> first
        | exact wpAny_pure hQ
        | (refine wpAny_bind (wpAny_load ho ?_)
           rw [hc,hd]
           show wpAny M A (if (["enumerate", "zip", "dict_itemiterator", "dict_reverseitemiterator", "odict_iterator", "itertools.zip_longest", "itertools.pairwise"].contains n && vs[0]? == some (rawInt _))=true then _ else _) Q E s
           rw [if_neg (by intro h; rw [hn,Bool.false_and] at h; cases h)]
           exact wpAny_pure hQ))
noncomputable def Itl (K : PySem.W.Frag) (a : Addr) : It:=
  ⟨fun i H=>∃ xs x,SqL K H a xs∧xs[i]? = some x,fun i H x H'=>H'=H∧∀ xs,SqL K H a xs->xs[i]? = some x,fun i H=>∃ xs,SqL K H a xs∧xs.length≤i⟩
noncomputable def Itt (K : PySem.W.Frag) (a : Addr) : It:=
  ⟨fun i H=>∃ xs x,SqT K H a xs∧xs[i]? = some x,fun i H x H'=>H'=H∧∀ xs,SqT K H a xs->xs[i]? = some x,fun i H=>∃ xs,SqT K H a xs∧xs.length≤i⟩
noncomputable def Itr (lo : Int) (n : Nat) : It:=⟨fun i _=>i < n,fun i H x H'=>H'=H∧x = .int (lo + i),fun i _=>n≤i⟩
theorem y4k {P : Program} {w : World} {K : PySem.W.Frag} {tg : Expr} (a it : Addr) : Turn P w K tg (Itl K a) [it] it (fun i h=>h.IsListIter it a i) where
  mem:=by simp
  obj:=fun i h st b hb=>by
    have e : b=it:=by simpa using hb
    subst e
    obtain ⟨o,e,c,d⟩:=st
    exact ⟨o,e,fun v z=>by rw [d] at z; cases z⟩
  keep:=fun i h h' st k=>st.at fun o e=>k it (by simp) o e
  item:=by
    intro X hP hw hK hc i pins s σ H E I hf st hg
    subst hP hw hK
    obtain ⟨xs,x,hq,hx⟩:=hg
    obtain ⟨its,rv,p,hz⟩:=I.list hq
    obtain ⟨u,hu,ru⟩:=rv.get hx
    obtain ⟨f0,f1,f2,f3,f4,f5⟩:=hf it (by simp)
    refine wpAny_pyNext_list_item st p.isList (x:=u) (by simpa using hu) fun h' st' sb=>?_
    have I1 : Inv X pins σ H { s with heap:=h' }:=I.turned (t':=s.toks) (fun b o hb e=>(sb.2 b hb).trans e) f0 f1 f3 f4 f5
    obtain ⟨o,e,c,d⟩:=id st'
    exact ⟨u,rfl,go_of (s:={ s with heap:=h' }) e c d (by decide) ⟨x,H,I1,ru,⟨rfl,fun ys hy=>by rw [I.list_inj hy hq]; exact hx⟩,st',fun b hb=>(hf b hb).1⟩⟩
  done:=by
    intro X hP hw hK hc i pins s σ H E I hf st hg
    subst hP hw hK
    obtain ⟨xs,hq,hx⟩:=hg
    obtain ⟨its,rv,p,hz⟩:=I.list hq
    obtain ⟨f0,f1,f2,f3,f4,f5⟩:=hf it (by simp)
    have hl:=rv.length
    exact wpAny_pyNext_list_end (I.ok.hd hc) st p.isList (by simp; omega) fun h' eb=>⟨rfl,I.turned (t':=s.toks) (fun b o hb e=>eb b o hb e) f0 f1 f3 f4 f5⟩
  self:=fun _ _ _ _ _ st h=>wpAny_pyIter_listiter st h
theorem y1t {P : Program} {w : World} {K : PySem.W.Frag} {tg : Expr} (a it : Addr) : Turn P w K tg (Itt K a) [it] it (fun i h=>h.IsTupleIter it a i) where
  mem:=by simp
  obj:=fun i h st b hb=>by
    have e : b=it:=by simpa using hb
    subst e
    obtain ⟨o,e,c,d⟩:=st
    exact ⟨o,e,fun v z=>by rw [d] at z; cases z⟩
  keep:=fun i h h' st k=>st.at fun o e=>k it (by simp) o e
  item:=by
    intro X hP hw hK hc i pins s σ H E I hf st hg
    subst hP hw hK
    obtain ⟨xs,x,hq,hx⟩:=hg
    obtain ⟨its,rv,p,hz⟩:=I.tuple hq
    obtain ⟨u,hu,ru⟩:=rv.get hx
    obtain ⟨f0,f1,f2,f3,f4,f5⟩:=hf it (by simp)
    refine wpAny_pyNext_tuple_item st (show s.heap.IsTuple a its.toArray from p) (x:=u) (by simpa using hu) fun h' st' sb=>?_
    have I1 : Inv X pins σ H { s with heap:=h' }:=I.turned (t':=s.toks) (fun b o hb e=>(sb.2 b hb).trans e) f0 f1 f3 f4 f5
    obtain ⟨o,e,c,d⟩:=id st'
    exact ⟨u,rfl,go_of (s:={ s with heap:=h' }) e c d (by decide) ⟨x,H,I1,ru,⟨rfl,fun ys hy=>by rw [I.tuple_inj hy hq]; exact hx⟩,st',fun b hb=>(hf b hb).1⟩⟩
  done:=by
    intro X hP hw hK hc i pins s σ H E I hf st hg
    subst hP hw hK
    obtain ⟨xs,hq,hx⟩:=hg
    obtain ⟨its,rv,p,hz⟩:=I.tuple hq
    obtain ⟨f0,f1,f2,f3,f4,f5⟩:=hf it (by simp)
    have hl:=rv.length
    exact wpAny_pyNext_tuple_end (I.ok.hd hc) st (show s.heap.IsTuple a its.toArray from p) (by simp; omega) fun h' eb=>⟨rfl,I.turned (t':=s.toks) (fun b o hb e=>eb b o hb e) f0 f1 f3 f4 f5⟩
  self:=fun _ _ _ _ _ st h=>wpAny_pyIter_tupleiter st h
theorem y1k {P : Program} {w : World} {K : PySem.W.Frag} {tg : Expr} (it : Addr) (lo : Int) (n : Nat) : Turn P w K tg (Itr lo n) [it] it (fun i h=>IsRangeIter h it (lo + (i : Nat) * 1) ((n : Int) - (i : Nat)) 1) where
  mem:=by simp
  obj:=fun i h st b hb=>by
    have e : b=it:=by simpa using hb
    subst e
    exact ⟨_,st,fun v z=>by
      have z' : Data.fields _=Data.cell v:=z
      cases z'⟩
  keep:=fun i h h' st k=>k it (by simp) _ st
  item:=by
    intro X hP hw hK hc i pins s σ H E I hf st hg
    subst hP hw hK
    obtain ⟨f0,f1,f2,f3,f4,f5⟩:=hf it (by simp)
    have W:=Walks.range (prog:=X.prog) (w:=X.w) (I.ok.hd hc) it lo 1 n
    refine W.item i s _ _ hg st fun v h' tk hv st' kk=>?_
    obtain ⟨t,rfl⟩:=hv
    have I1 : Inv X pins σ H { s with heap:=h',toks:=tk }:=I.turned (fun b o hb e=>kk b o (by simpa using hb) e) f0 f1 f3 f4 f5
    refine ⟨_,rfl,go_of (s:={ s with heap:=h',toks:=tk }) (n := "range_iterator") st' rfl rfl (by decide) ⟨.int (lo + i),H,I1,⟨t,?_⟩,⟨rfl,rfl⟩,st',fun b hb=>(hf b hb).1⟩⟩
    rw [Int.mul_one]
  done:=by
    intro X hP hw hK hc i pins s σ H E I hf st hg
    subst hP hw hK
    obtain ⟨f0,f1,f2,f3,f4,f5⟩:=hf it (by simp)
    exact wpAny_pyNext_range_end (I.ok.hd hc) st (by have : n≤i:=hg; omega) fun h' eb=>⟨rfl,I.turned (t':=s.toks) (fun b o hb e=>eb b o hb e) f0 f1 f3 f4 f5⟩
  self:=fun _ _ _ _ _ st h=>wpAny_pyIter_rangeiter st h
end L2
namespace L2
open PySem PySem.Spec PyProof.Rows
section
variable {X : Cx} {tg : Expr}
theorem y0z {pins : List (Addr × Obj)} {σ : St} {H : Hp} {s : Shared} {R : It->Hp->Prop} {E : Value->Shared->Prop} {lo hi : Int} {t u v : Tok} {tk : Nat} (I : Inv X pins σ H s) (h1 : -(2 ^ 62)≤lo) (h2 : lo < 2 ^ 62) (h3 : -(2 ^ 62)≤hi) (h4 : hi < 2 ^ 62)
    (q : R (Itr lo (hi - lo).toNat) H) : wpAny (model X.prog X.w) X.A (pyIter (.ref s.heap.objs.size)) (PIE X pins σ tg R) E { s with heap:=s.heap.push { cls:=.type "range",data:=.fields #[.int lo t,.int hi u,.int 1 v] },toks:=tk }:=by
  refine wpAny_pyIter_range (IsRange.new ..) (small_one h1 h2 h3 h4) ?_
  have I1 : Inv X pins σ H { s with heap:=s.heap.push { cls:=.type "range",data:=.fields #[.int lo t,.int hi u,.int 1 v] },toks:=tk }:=I.kept fun b o e=>Heap.get?_push_of_some _ e
  refine ⟨(s.heap.push { cls:=.type "range",data:=.fields #[.int lo t,.int hi u,.int 1 v] }).objs.size,[(s.heap.push { cls:=.type "range",data:=.fields #[.int lo t,.int hi u,.int 1 v] }).objs.size],_,_,H,rfl,
    I1.kept (t':=tk) fun b o e=>Heap.get?_push_of_some _ e,y1k _ lo (hi - lo).toNat,?_,fun b hb=>?_,q⟩
  · have e1 : lo + ((0 : Nat) : Int) * 1=lo:=by simp
    have e2 : (((hi - lo).toNat : Nat) : Int) - ((0 : Nat) : Int)=Builtin.Range.rangeSize lo hi 1:=by rw [rangeSize_one]; split <;> omega
    show IsRangeIter _ _ (lo + ((0 : Nat) : Int) * 1) ((((hi - lo).toNat : Nat) : Int) - ((0 : Nat) : Int)) 1
    rw [e1,e2]
    exact Heap.get?_push_size _ rfl
  · have e : b=(s.heap.push { cls:=.type "range",data:=.fields #[.int lo t,.int hi u,.int 1 v] }).objs.size:=by simpa using hb
    subst e
    exact I1.fpOk (Nat.le_refl _) (I1.hok.fresh (Nat.le_refl _))
noncomputable def iRng1 (ta : TA) : TI:=fun σ H R=>ta σ H fun vs H1=>∃ j : Int,vs=[.int j]∧-(2 ^ 62)≤j∧j < 2 ^ 62∧R (Itr 0 j.toNat) H1
noncomputable def iRng2 (ta : TA) : TI:=fun σ H R=>ta σ H fun vs H1=>∃ i j : Int,vs=[.int i,.int j]∧(-(2 ^ 62)≤i∧i < 2 ^ 62∧-(2 ^ 62)≤j∧j < 2 ^ 62)∧R (Itr i (j - i).toNat) H1
theorem y2M {a : Expr} {ta : TA} {p pos : Pos} (hg : Gl X "range") (hm : X.mg "range" = none) (ha : PA X [a] ta) (hs : starEach [a] X.env=[(false,eval a X.env)]:=by rfl) : PI X tg (.Call (.Name "range" p) [a] [] pos) (iRng1 ta):=by
  intro pins s σ H R I h
  refine Call_ (z4J I hg hm boot_range (PyProof.Rows.callWith_type1 (thn (ha pos pins s σ H _ I h) fun us s1 ⟨vs,H1,I1,r1,q1⟩=>?_) hs rfl))
  obtain ⟨j,e,q1,q2,q⟩:=q1
  subst e
  cases r1 with
  | cons r rr=>
    cases rr
    obtain ⟨t,rfl⟩:=r
    exact call_range_1 (y0z I1 (by omega) (by omega) q1 q2 (by simpa using q))
theorem y4e {a b : Expr} {ta : TA} {p pos : Pos} (hg : Gl X "range") (hm : X.mg "range" = none) (ha : PA X [a,b] ta) (hs : starEach [a,b] X.env=[(false,eval a X.env),(false,eval b X.env)]:=by rfl) (hs2 : starEach [b] X.env=[(false,eval b X.env)]:=by rfl) :
    PI X tg (.Call (.Name "range" p) [a,b] [] pos) (iRng2 ta):=by
  intro pins s σ H R I h
  refine Call_ (z4J I hg hm boot_range (PyProof.Rows.callWith_type1 (thn (ha pos pins s σ H _ I h) fun us s1 ⟨vs,H1,I1,r1,q1⟩=>?_) (by rw [hs,hs2]) (by rw [hs2]; rfl)))
  obtain ⟨i,j,e,⟨q1,q2,q3,q4⟩,q⟩:=q1
  subst e
  cases r1 with
  | cons r rr=>
    cases rr with
    | cons r' rr=>
      cases rr
      obtain ⟨t,rfl⟩:=r
      obtain ⟨t',rfl⟩:=r'
      exact call_range_2 (y0z I1 q1 q2 q3 q4 q)
noncomputable def tFor (wi : TI) (g : TG) (tb : TS) : TS:=fun D σ H=>wi σ H fun J H1=>∃ W : Nat->Nat->St->Hp->Prop,(∃ m,W 0 m σ H1)∧∀ i m σ H,W i m σ H →
  (J.stop i H∧D.nx σ H)∨(J.go i H∧∃ N : St->Hp->Prop,(∀ σ' H',N σ' H'->∃ m',m' < m∧W (i + 1) m' σ' H')∧∀ x H',J.yld i H x H'->g x σ H' fun σ2 H2=>tb { D with nx:=N,ct:=N,bk:=D.nx } σ2 H2)
noncomputable def z8H (fp : List Addr) (h : Heap) : List (Addr × Obj):=fp.filterMap fun b=>(h.get? b).map fun o=>(b,o)
theorem z3T {fp : List Addr} {h : Heap} {b : Addr} {o : Obj} (hb : b∈fp) (e : h.get? b=some o) : (b,o)∈z8H fp h:=List.mem_filterMap.mpr ⟨b,hb,by rw [e]; rfl⟩
theorem y3J {fp : List Addr} {h : Heap} {p : Addr × Obj} (hp : p∈z8H fp h) : p.1∈fp∧h.get? p.1=some p.2:=by
  obtain ⟨b,hb,e⟩:=List.mem_filterMap.mp hp
  cases q : h.get? b with
  | none=>rw [q] at e; cases e
  | some o=>
    rw [q] at e
    have e' : (b,o)=p:=Option.some.inj e
    subst e'
    exact ⟨hb,q⟩
theorem Inv.pinned {pins : List (Addr × Obj)} {σ : St} {H : Hp} {s : Shared} {fp : List Addr} (I : Inv X pins σ H s) (hf : ∀ b∈fp,z9B X pins H b) (ho : ∀ b∈fp,∃ o,s.heap.get? b=some o∧∀ v,o.data≠.cell v) : Inv X (pins ++ z8H fp s.heap) σ H s:=
  I.pins_of fun p hp=>(List.mem_append.mp hp).elim (fun z=>I.pin p (List.mem_append_right _ z)) fun z=>by
    obtain ⟨hb,e⟩:=y3J z
    obtain ⟨f0,f1,f2,_⟩:=hf p.1 hb
    obtain ⟨o,e',d⟩:=ho p.1 hb
    rw [e] at e'; cases e'
    exact ⟨e,f0,f1,f2,d⟩
theorem Inv.unpinned {pins pl : List (Addr × Obj)} {σ : St} {H : Hp} {s : Shared} (I : Inv X (pins ++ pl) σ H s) : Inv X pins σ H s:=I.pins_of fun p hp=>I.pin p (List.mem_append_right _ (List.mem_append_left _ hp))
theorem ps_for {iter : Expr} {body : List Stmt} {wi : TI} {g : TG} {tb : TS} {pos : Pos} (hp : PassesOwn (model X.prog X.w) X.A X.env X.xe) (hc : X.calm=true) (hi : PI X tg iter wi) (hg : PG X tg g) (hb : PSs X body tb)
    (hs : ∀ x,foldedSetIterable iter X.env x=pure x:=by intro _; rfl) : PS X (.For tg iter body [] pos) (tFor wi g tb):=by
  intro pins s σ H D I h
  refine wpAny_For (thn (hi pins s σ H _ I h) fun v s1 h1=>thn h1 fun itv s2 h2=>?_) hs
  obtain ⟨it,fp,tn,J,H2,e,I2,T,st2,f2,W,⟨m0,w0⟩,turn⟩:=h2
  subst e
  have stat : ∀ {H' : Hp},(∀ b∈fp,H' b=none)->∀ b∈fp,z9B X pins H' b:=fun hn b hb=>⟨hn b hb,(f2 b hb).2⟩
  refine codeAny_forLoop_any (fun n s'=>∃ i σ' H',Inv X pins σ' H' s'∧tn i s'.heap∧(∀ b∈fp,H' b=none)∧W i n σ' H') ?_ m0 ⟨0,σ,H2,I2,st2,fun b hb=>(f2 b hb).1,w0⟩
  rintro n s3 ⟨i,σ3,H3,I3,st3,fr3,w3⟩
  rcases turn i n σ3 H3 w3 with ⟨stop,qn⟩ | ⟨go,N,hN,step⟩
  · refine wpAny_passesOwn hp (thn (T.done X rfl rfl rfl hc i pins s3 σ3 H3 X.xe I3 (stat fr3) st3 stop) fun r s4 ⟨hr,I4⟩=>?_)
    subst hr
    exact wpAny_execs_nil ⟨σ3,H3,I4,qn⟩
  · refine wpAny_passesOwn hp (thn (T.item X rfl rfl rfl hc i pins s3 σ3 H3 X.xe I3 (stat fr3) st3 go) fun r s4 ⟨u,hr,h4⟩=>?_)
    subst hr
    refine wpAny_passesOwn hp (thn h4 fun _ s5 ⟨x,H5,I5,r5,y5,st5,fr5⟩=>?_)
    have I5':=I5.pinned (stat fr5) (T.obj _ _ st5)
    refine wpAny_passesOwn hp (thn (hg _ s5 σ3 H5 x u _ I5' r5 (step x H5 y5)) fun _ s6 ⟨σ6,H6,I6,q6⟩=>?_)
    refine wpAny_passesOwn hp (thn (hb _ s6 σ6 H6 _ I6 q6) fun f s7 q7=>?_)
    have again : ∀ {σ7 : St} {H7 : Hp},Inv X (pins ++ z8H fp s5.heap) σ7 H7 s7->N σ7 H7->∃ m,m < n∧∃ i σ' H',Inv X pins σ' H' s7∧tn i s7.heap∧(∀ b∈fp,H' b=none)∧W i m σ' H':=fun {σ7 H7} I7 n7=>by
      obtain ⟨m',hm,w7⟩:=hN σ7 H7 n7
      refine ⟨m',hm,i + 1,σ7,H7,I7.unpinned,T.keep _ _ _ st5 fun b hb o e=>(I7.pin (b,o) (List.mem_append_right _ (List.mem_append_right _ (z3T hb e)))).1,fun b hb=>?_,w7⟩
      obtain ⟨o,e,d⟩:=T.obj _ _ st5 b hb
      exact (I7.pin (b,o) (List.mem_append_right _ (List.mem_append_right _ (z3T hb e)))).2.1
    cases f with
    | next=>obtain ⟨σ7,H7,I7,n7⟩:=q7; exact again I7 n7
    | cont=>obtain ⟨σ7,H7,I7,n7⟩:=q7; exact again I7 n7
    | brk=>obtain ⟨σ7,H7,I7,q7⟩:=q7; exact ⟨σ7,H7,I7.unpinned,q7⟩
    | ret v=>obtain ⟨x7,σ7,H7,I7,r7,q7⟩:=q7; exact ⟨x7,σ7,H7,I7.unpinned,r7,q7⟩
end
theorem z7F {K : PySem.W.Frag} {a : Addr} {xs : List V} {g : TG} {tb : TS} {D : Ends} {σ : St} {H : Hp} (Pv : Nat->St->Hp->Prop) (h0 : Pv 0 σ H) (hl : ∀ i σ H,i≤xs.length->Pv i σ H->SqL K H a xs)
    (hs : ∀ i x σ H,xs[i]? = some x->Pv i σ H->g x σ H fun σ2 H2=>tb { D with nx:=Pv (i + 1),ct:=Pv (i + 1),bk:=D.nx } σ2 H2) (hd : ∀ σ H,Pv xs.length σ H->D.nx σ H) :
    ∃ W : Nat->Nat->St->Hp->Prop,(∃ m,W 0 m σ H)∧∀ i m σ H,W i m σ H →
      ((Itl K a).stop i H∧D.nx σ H)∨((Itl K a).go i H∧∃ N : St->Hp->Prop,(∀ σ' H',N σ' H'->∃ m',m' < m∧W (i + 1) m' σ' H')∧∀ x H',(Itl K a).yld i H x H'->g x σ H' fun σ2 H2=>tb { D with nx:=N,ct:=N,bk:=D.nx } σ2 H2):=by
  refine ⟨fun i m σ H=>m=xs.length - i∧i≤xs.length∧Pv i σ H,⟨xs.length,by simp,Nat.zero_le _,h0⟩,?_⟩
  rintro i m σ H ⟨rfl,hi,p⟩
  have q:=hl i σ H hi p
  by_cases hlt : i < xs.length
  · refine .inr ⟨⟨xs,xs[i],q,by simp [hlt]⟩,Pv (i + 1),fun σ' H' p'=>⟨xs.length - (i + 1),by omega,rfl,hlt,p'⟩,fun x H' y=>?_⟩
    obtain ⟨e,y⟩:=y
    subst e
    exact hs i x σ _ (y xs q) p
  · have e : i=xs.length:=by omega
    subst e
    exact .inl ⟨⟨xs,q,Nat.le_refl _⟩,hd σ H p⟩
end L2
namespace L2
open PySem PySem.Spec PyProof.Rows
noncomputable abbrev R2:=V->V->Hp->VK->Prop
noncomputable def OpR (X : Cx) (f : Value->Value->Sem Value) (r : R2) : Prop:=
  ∀ (pins : List (Addr × Obj)) (s : Shared) (σ : St) (H : Hp) (x y : V) (v u : Value) (Q : VK),Inv X pins σ H s->RelV x v->RelV y u->r x y H Q →
    wpAny (model X.prog X.w) X.A (f v u) (EP X pins σ Q) X.xe s
noncomputable def UnR (X : Cx) (f : Value->Sem Value) (r : V->Hp->VK->Prop) : Prop:=
  ∀ (pins : List (Addr × Obj)) (s : Shared) (σ : St) (H : Hp) (x : V) (v : Value) (Q : VK),Inv X pins σ H s->RelV x v->r x H Q →
    wpAny (model X.prog X.w) X.A (f v) (EP X pins σ Q) X.xe s
noncomputable def z3Y (X : Cx) (f : Value) (r : List V->Hp->VK->Prop) : Prop:=
  ∀ (pins : List (Addr × Obj)) (s : Shared) (σ : St) (H : Hp) (xs : List V) (us : List Value) (Q : VK),Inv X pins σ H s->Vals xs us->r xs H Q →
    wpAny (model X.prog X.w) X.A (call f us) (EP X pins σ Q) X.xe s
noncomputable def TruR (X : Cx) (r : V->Hp->(Bool->Hp->Prop)->Prop) : Prop:=
  ∀ (pins : List (Addr × Obj)) (s : Shared) (σ : St) (H : Hp) (x : V) (v : Value) (Q : Bool->Hp->Prop),Inv X pins σ H s->RelV x v->r x H Q →
    wpAny (model X.prog X.w) X.A (truthy v) (TP X pins σ Q) X.xe s
noncomputable def tOp (r : R2) (ta tb : TE) : TE:=fun σ H Q=>ta σ H fun x H1=>tb σ H1 fun y H2=>r x y H2 Q
noncomputable def tUn (r : V->Hp->VK->Prop) (ta : TE) : TE:=fun σ H Q=>ta σ H fun x H1=>r x H1 Q
noncomputable def rI (C : Int->Int->Prop) (g : Int->Int->V) : R2:=fun x y H Q=>∃ i j,x = .int i∧y = .int j∧C i j∧Q (g i j) H
noncomputable def rI0 (g : Int->Int->V) : R2:=fun x y H Q=>∃ i j,x = .int i∧y = .int j∧Q (g i j) H
noncomputable def rU (g : Int->V) : V->Hp->VK->Prop:=fun x H Q=>∃ i,x = .int i∧Q (g i) H
section
variable {X : Cx} {a b c : Expr} {ta tb tc : TE} {pos : Pos}
theorem binT (ha : PE X a ta) (hb : PE X b tb) {pins : List (Addr × Obj)} {s : Shared} {σ : St} {H : Hp} {R : V->V->Hp->Prop} (I : Inv X pins σ H s)
    (h : ta σ H fun x H1=>tb σ H1 fun y H2=>R x y H2) {Q : Value->Shared->Prop} {f : Value->Value->Sem Value}
    (hf : ∀ v u s2 x y H2,Inv X pins σ H2 s2->RelV x v->RelV y u->R x y H2->wpAny (model X.prog X.w) X.A (f v u) Q X.xe s2) :
    wpAny (model X.prog X.w) X.A (eval a X.env) (fun v s₁=>wpAny (model X.prog X.w) X.A (eval b X.env) (fun u s₂=>wpAny (model X.prog X.w) X.A (f v u) Q X.xe s₂) X.xe s₁) X.xe s:=by
  refine thn (ha pins s σ H _ I h) fun v s1 ⟨x,H1,I1,r1,q1⟩=>?_
  refine thn (hb pins s1 σ H1 _ I1 q1) fun u s2 ⟨y,H2,I2,r2,q2⟩=>?_
  exact hf v u s2 x y H2 I2 r1 r2 q2
theorem pe_op {op : Operator} {r : R2} (ho : OpR X (binaryOp op) r) (ha : PE X a ta) (hb : PE X b tb) : PE X (.BinOp a op b pos) (tOp r ta tb):=by
  intro pins s σ H Q I h
  exact wpAny_BinOp (binT ha hb I h fun v u s2 x y H2 I2 rx ry q=>ho pins s2 σ H2 x y v u Q I2 rx ry q)
theorem pe_un {op : UnaryOp} {r : V->Hp->VK->Prop} (ho : UnR X (unaryOp op) r) (ha : PE X a ta) : PE X (.UnaryOp op a pos) (tUn r ta):=by
  intro pins s σ H Q I h
  exact UnaryOp_ (thn (ha pins s σ H _ I h) fun v s1 ⟨x,H1,I1,r1,q1⟩=>ho pins s1 σ H1 x v Q I1 r1 q1)
theorem opI {f : Value->Value->Sem Value} {C : Int->Int->Prop} {g : Int->Int->Int}
    (rule : ∀ (i j : Int) (t u : Tok) (s : Shared) (Q : Value->Shared->Prop) (E : Value->Shared->Prop),C i j->Q (.int (g i j) s.toks) { s with toks:=s.toks + 1 }->wpAny (model X.prog X.w) X.A (f (.int i t) (.int j u)) Q E s) :
    OpR X f (rI C fun i j=>.int (g i j)):=by
  intro pins s σ H x y v u Q I rx ry h
  obtain ⟨i,j,rfl,rfl,hc,q⟩:=h
  obtain ⟨t,rfl⟩:=rx
  obtain ⟨t',rfl⟩:=ry
  exact rule i j t t' s _ _ hc ⟨.int (g i j),H,I.tok _,⟨_,rfl⟩,q⟩
theorem opI0 {f : Value->Value->Sem Value} {g : Int->Int->Int}
    (rule : ∀ (i j : Int) (t u : Tok) (s : Shared) (Q : Value->Shared->Prop) (E : Value->Shared->Prop),Q (.int (g i j) s.toks) { s with toks:=s.toks + 1 }->wpAny (model X.prog X.w) X.A (f (.int i t) (.int j u)) Q E s) :
    OpR X f (rI0 fun i j=>.int (g i j)):=by
  intro pins s σ H x y v u Q I rx ry h
  obtain ⟨i,j,rfl,rfl,q⟩:=h
  obtain ⟨t,rfl⟩:=rx
  obtain ⟨t',rfl⟩:=ry
  exact rule i j t t' s _ _ ⟨.int (g i j),H,I.tok _,⟨_,rfl⟩,q⟩
theorem opB0 {f : Value->Value->Sem Value} {g : Int->Int->Bool}
    (rule : ∀ (i j : Int) (t u : Tok) (s : Shared) (Q : Value->Shared->Prop) (E : Value->Shared->Prop),Q (.bool (g i j)) s->wpAny (model X.prog X.w) X.A (f (.int i t) (.int j u)) Q E s) :
    OpR X f (rI0 fun i j=>.bl (g i j)):=by
  intro pins s σ H x y v u Q I rx ry h
  obtain ⟨i,j,rfl,rfl,q⟩:=h
  obtain ⟨t,rfl⟩:=rx
  obtain ⟨t',rfl⟩:=ry
  exact rule i j t t' s _ _ ⟨.bl (g i j),H,I,rfl,q⟩
noncomputable def CDiv (i j : Int) : Prop:=0 < j∧j < 1073741824
noncomputable def CPow (i j : Int) : Prop:=0≤j∧j≤1000000∧i.natAbs < 2 ^ 64
noncomputable def CMul (i j : Int) : Prop:=(-(2 ^ 64) < i∧i < 2 ^ 64)∨(-(2 ^ 64) < j∧j < 2 ^ 64)
theorem op_add : OpR X (binaryOp .Add) (rI0 fun i j=>.int (i + j)):=opI0 fun _ _ _ _ _ _ _ q=>add_int q
theorem op_sub : OpR X (binaryOp .Sub) (rI0 fun i j=>.int (i - j)):=opI0 fun _ _ _ _ _ _ _ q=>sub_int q
theorem op_fdiv : OpR X (binaryOp .FloorDiv) (rI CDiv fun i j=>.int (i / j)):=opI fun i j _ _ _ _ _ hc q=>by
  have h1 : (0 : Int) < j:=hc.1
  have h2 : j < 1073741824:=hc.2
  exact floordiv_int (by omega) (by rw [Int.fdiv_eq_ediv_of_nonneg i (by omega)]; exact q) (.inl (PyProof.noPylong_small (by omega)))
theorem op_mod : OpR X (binaryOp .Mod) (rI (fun _ j=>0 < j) fun i j=>.int (i % j)):=opI fun i j _ _ _ _ _ hc q=>by
  have h1 : (0 : Int) < j:=hc
  exact mod_int' (by omega) (by rw [Int.fmod_eq_emod_of_nonneg i (by omega)]; exact q)
theorem op_pow : OpR X (binaryOp .Pow) (rI CPow fun i j=>.int (i ^ j.toNat)):=opI fun _ _ _ _ _ _ _ hc q=>pow_int_small hc.1 hc.2.1 hc.2.2 q
theorem unI {f : Value->Sem Value} {g : Int->Int}
    (rule : ∀ (i : Int) (t : Tok) (s : Shared) (Q : Value->Shared->Prop) (E : Value->Shared->Prop),Q (.int (g i) s.toks) { s with toks:=s.toks + 1 }->wpAny (model X.prog X.w) X.A (f (.int i t)) Q E s) :
    UnR X f (rU fun i=>.int (g i)):=by
  intro pins s σ H x v Q I rx h
  obtain ⟨i,rfl,q⟩:=h
  obtain ⟨t,rfl⟩:=rx
  exact rule i t s _ _ ⟨.int (g i),H,I.tok _,⟨_,rfl⟩,q⟩
theorem un_neg : UnR X (unaryOp .USub) (rU fun i=>.int (-i)):=unI fun _ _ _ _ _ q=>neg_int q
end
section
variable {X : Cx} {a b c : Expr} {ta tb tc : TE} {pos : Pos}
theorem op_lt : OpR X (compareOp .Lt) (rI0 fun i j=>.bl (decide (i < j))):=opB0 fun _ _ _ _ _ _ _ q=>lt_int q
theorem op_le : OpR X (compareOp .LtE) (rI0 fun i j=>.bl (decide (i≤j))):=opB0 fun _ _ _ _ _ _ _ q=>le_int q
theorem op_gt : OpR X (compareOp .Gt) (rI0 fun i j=>.bl (decide (j < i))):=opB0 fun _ _ _ _ _ _ _ q=>gt_int q
theorem op_ge : OpR X (compareOp .GtE) (rI0 fun i j=>.bl (decide (j≤i))):=opB0 fun _ _ _ _ _ _ _ q=>ge_int q
theorem z5R (b : Expr) {op : CmpOp} (h : op≠.In:=by decide) (h2 : op≠.NotIn:=by decide) : behindInMarks op b=false:=by
  have e1 : (op == CmpOp.In)=false:=by cases op <;> first | rfl | exact absurd rfl h
  have e2 : (op == CmpOp.NotIn)=false:=by cases op <;> first | rfl | exact absurd rfl h2
  cases b <;> simp [behindInMarks,e1,e2]
theorem pe_cmpR {op : CmpOp} {r : R2} (ho : OpR X (compareOp op) r) (ha : PE X a ta) (hb : PE X b tb) (hm : behindInMarks op b=false) : PE X (.Compare a [op] [b] pos) (tOp r ta tb):=by
  intro pins s σ H Q I h
  exact wpAny_Compare1 (binT ha hb I h fun v u s2 x y H2 I2 rx ry q=>ho pins s2 σ H2 x y v u Q I2 rx ry q) hm
noncomputable def tTest (t : TE) : TT:=fun σ H Q=>t σ H fun x H'=>∃ k,x = .bl k∧Q k H'
theorem pt_cmpR {op : CmpOp} {r : R2} (ho : OpR X (compareOp op) r) (ha : PE X a ta) (hb : PE X b tb) (hm : behindInMarks op b=false) : PT X (.Compare a [op] [b] pos) (tTest (tOp r ta tb)):=by
  intro pins s σ H Q I h
  refine wpAny_isTrue_Compare1 (thn (ha pins s σ H _ I h) fun v s1 ⟨x,H1,I1,r1,q1⟩=>thn (hb pins s1 σ H1 _ I1 q1) fun u s2 ⟨y,H2,I2,r2,q2⟩=>
    thn (ho pins s2 σ H2 x y v u _ I2 r1 r2 q2) fun c s3 ⟨z,H3,I3,r3,k,e,q3⟩=>?_) hm
  subst e
  cases r3
  exact wpAny_truthy_bool ⟨H3,I3,q3⟩
noncomputable def y6y (r r' : R2) (ta tb tc : TE) : TE:=fun σ H Q=>ta σ H fun x H1=>tb σ H1 fun y H2=>r x y H2 fun z H3=>∃ k,z = .bl k ∧
  (if k=true then tc σ H3 fun w' H4=>r' y w' H4 Q else Q (.bl false) H3)
theorem y5k {op op' : CmpOp} {r r' : R2} (ho : OpR X (compareOp op) r) (ho' : OpR X (compareOp op') r') (ha : PE X a ta) (hb : PE X b tb) (hc : PE X c tc)
    (hm : lastMarks [op,op'] [b,c]=false:=by with_unfolding_all rfl) : PE X (.Compare a [op,op'] [b,c] pos) (y6y r r' ta tb tc):=by
  intro pins s σ H Q I h
  refine Compare_chain (thn (ha pins s σ H _ I h) fun v s1 ⟨x,H1,I1,r1,q1⟩=>chain_link (thn (hb pins s1 σ H1 _ I1 q1) fun u s2 ⟨y,H2,I2,r2,q2⟩=>
    thn (ho pins s2 σ H2 x y v u _ I2 r1 r2 q2) fun d s3 ⟨z,H3,I3,r3,k,e,q3⟩=>?_)) hm
  subst e
  cases r3
  refine wpAny_truthy_bool ?_
  cases k with
  | false=>exact ite_ff ⟨.bl false,H3,I3,rfl,q3⟩
  | true=>exact ite_tt (chain_last (thn (hc pins s3 σ H3 _ I3 q3) fun w' s4 ⟨z',H4,I4,r4,q4⟩=>ho' pins s4 σ H4 y z' u w' Q I4 r2 r4 q4))
noncomputable def TruV (K : PySem.W.Frag) (x : V) (H : Hp) (k : Bool) : Prop:=
  match x with
  | .non=>k=false
  | .bl b=>k=b
  | .int i=>k=(i != 0)
  | .str y=>y.length≤sizeLine∧k=((y.length : Int) != 0)
  | .byt y=>y.size≤sizeLine∧k=((y.size : Int) != 0)
  | .ref p=>(∃ xs,SqL K H p xs∧k = !xs.isEmpty)∨(∃ xs,SqT K H p xs∧k = !xs.isEmpty)∨∃ kvs,H p=some (.dK kvs)∧k = !kvs.isEmpty
  | _=>False
theorem y1u {κ : Type} {kvs : List (κ × V)} {vs : List (κ × Value)} (r : KV kvs vs) : (!vs.isEmpty) = !kvs.isEmpty:=by
  cases r <;> rfl
theorem z6Z {xs : List V} {its : List Value} (r : Vals xs its) : (!its.toArray.isEmpty) = !xs.isEmpty:=by
  cases r <;> simp
theorem z6O : (sizeLine : Nat) < 2 ^ 63:=by rw [sizeLine_eq]; decide
theorem tru_ok : TruR X (fun x H Q=>∃ k,TruV X.K x H k∧Q k H):=by
  intro pins s σ H x v Q I rx h
  obtain ⟨k,e,q⟩:=h
  have hl:=z6O
  have hs : sizeLine=16777216:=sizeLine_eq
  cases x with
  | non=>
    cases rx
    have e' : k=false:=e
    subst e'
    exact truthy_none ⟨H,I,q⟩
  | bl b=>
    cases rx
    have e' : k=b:=e
    subst e'
    exact wpAny_truthy_bool ⟨H,I,q⟩
  | int i=>
    obtain ⟨t,rfl⟩:=rx
    have e' : k=(i != 0):=e
    subst e'
    exact PySem.P.truthy_int ⟨H,I,q⟩
  | str y=>
    obtain ⟨t,rfl⟩:=rx
    obtain ⟨hy,e'⟩ : y.length≤sizeLine∧k=((y.length : Int) != 0):=e
    subst e'
    exact PySem.P.truthy_str (by omega) ⟨H,I.tok _,q⟩
  | byt y=>
    obtain ⟨t,rfl⟩:=rx
    obtain ⟨hy,e'⟩ : y.size≤sizeLine∧k=((y.size : Int) != 0):=e
    subst e'
    exact PySem.W.truthy_bytes (by omega) ⟨H,I.tok _,q⟩
  | ref p=>
    cases rx
    have e' : (∃ xs,SqL X.K H p xs∧k = !xs.isEmpty)∨(∃ xs,SqT X.K H p xs∧k = !xs.isEmpty)∨∃ kvs,H p=some (.dK kvs)∧k = !kvs.isEmpty:=e
    rcases e' with ⟨xs,hx,e'⟩ | ⟨xs,hx,e'⟩ | ⟨kvs,hx,e'⟩
    · subst e'
      obtain ⟨its,r,pl,hz⟩:=I.list hx
      have hlen:=r.length
      exact wpAny_truthy_list pl.isList (by simp only [List.size_toArray]; omega) ⟨H,I.tok _,by rw [z6Z r]; exact q⟩
    · subst e'
      obtain ⟨its,r,pl,hz⟩:=I.tuple hx
      have hlen:=r.length
      exact truthy_tuple pl (by simp only [List.size_toArray]; omega) ⟨H,I.tok _,by rw [z6Z r]; exact q⟩
    · subst e'
      obtain ⟨hz,hS,vs,r,m⟩ : kvs.length≤sizeLine∧(p == sysModules)=false∧∃ vs,KV kvs vs∧s.heap.DictOf (z1w X.prog X.w) p vs:=I.hok p _ hx
      have hlen : kvs.length=vs.length:=Paired.length r
      exact wpAny_truthy_dict hS m (by omega) ⟨H,I.tok _,by rw [y1u r]; exact q⟩
  | _=>exact (show False from e).elim
theorem y4N (ha : PE X a ta) (he : ∀ whole,isTrue a X.env whole=(do let v ← whole; standAt a.pos; holding [v] (truthy v))) :
    PT X a (fun σ H Q=>ta σ H fun x H'=>∃ k,TruV X.K x H' k∧Q k H'):=by
  intro pins s σ H Q I h
  exact isTrue_plain (thn (ha pins s σ H _ I h) fun v s1 ⟨x,H1,I1,r1,q1⟩=>tru_ok pins s1 σ H1 x v Q I1 r1 q1) (he _)
theorem z6J {x : V} {us : List Value} (r : Vals [x] us) : ∃ u,us=[u]∧RelV x u:=by
  cases r with
  | cons r1 r2=>cases r2; exact ⟨_,rfl,r1⟩
theorem vals2 {x y : V} {us : List Value} (r : Vals [x,y] us) : ∃ u w',us=[u,w']∧RelV x u∧RelV y w':=by
  cases r with
  | cons r1 r2=>
    cases r2 with
    | cons r3 r4=>cases r4; exact ⟨_,_,rfl,r1,r3⟩
noncomputable def LenV (K : PySem.W.Frag) (x : V) (H : Hp) (n : Nat) : Prop:=
  match x with
  | .str y=>y.length≤sizeLine∧n=y.length
  | .byt y=>y.size≤sizeLine∧n=y.size
  | .ref p=>(∃ xs,SqL K H p xs∧n=xs.length)∨∃ xs,SqT K H p xs∧n=xs.length
  | _=>False
theorem y5B : z3Y X (.builtin "len") (fun xs H Q=>∃ x n,xs=[x]∧LenV X.K x H n∧Q (.int n) H):=by
  intro pins s σ H xs us Q I r h
  obtain ⟨x,n,rfl,e,q⟩:=h
  obtain ⟨u,rfl,rx⟩:=z6J r
  have hl:=z6O
  have hs : sizeLine=16777216:=sizeLine_eq
  cases x with
  | str y=>
    obtain ⟨t,rfl⟩:=rx
    obtain ⟨hy,e'⟩ : y.length≤sizeLine∧n=y.length:=e
    subst e'
    exact len_str (by omega) ⟨.int _,H,I.tok _,⟨_,rfl⟩,q⟩
  | byt y=>
    obtain ⟨t,rfl⟩:=rx
    obtain ⟨hy,e'⟩ : y.size≤sizeLine∧n=y.size:=e
    subst e'
    exact PySem.W.len_bytes (by omega) ⟨.int _,H,I.tok _,⟨_,rfl⟩,q⟩
  | ref p=>
    cases rx
    have e' : (∃ xs,SqL X.K H p xs∧n=xs.length)∨∃ xs,SqT X.K H p xs∧n=xs.length:=e
    rcases e' with ⟨xs,hx,e'⟩ | ⟨xs,hx,e'⟩
    · subst e'
      obtain ⟨its,r',pl,hz⟩:=I.list hx
      have hlen:=r'.length
      exact Calls.call_len_list pl.isList (by simp only [List.size_toArray]; omega) ⟨.int xs.length,H,I.tok _,⟨_,by simp only [List.size_toArray]; rw [hlen]⟩,q⟩
    · subst e'
      obtain ⟨its,r',pl,hz⟩:=I.tuple hx
      have hlen:=r'.length
      exact len_tuple pl (by simp only [List.size_toArray]; omega) ⟨.int xs.length,H,I.tok _,⟨_,by simp only [List.size_toArray]; rw [hlen]⟩,q⟩
  | _=>exact (show False from e).elim
end
end L2
namespace L2
open PySem PySem.Spec PyProof.Rows
structure ObjM (h : Heap) (x dx C : Addr) (mA : Str->Option Value) : Prop where
  obj : h.get? x=some (PySem.W.instObj C dx)
  ns : h.Ns1 dx mA
  ne : dx≠x
section
variable {prog : Program} {w : World} {A : Around} {E : Value->Shared->Prop} {s : Shared} {K : PySem.W.Frag} {x dx C f : Addr} {mA : Str->Option Value} {name : Str} {v : Value}
end
theorem RelO.some_of {v : V} {o : Option Value} (r : RelO (some v) o) : ∃ u,o=some u∧RelV v u:=by
  cases o with
  | none=>exact (show False from r).elim
  | some u=>exact ⟨u,rfl,r⟩
section
variable {P : Program} {w : World} {H H' : Hp} {h h' : Heap} {a C dx : Addr} {fs fs' : List (Str × V)}
end
structure Cls (K : PySem.W.Frag) (C : Addr) : Prop where
  pg : PySem.W.plainGet K C Str.empty=true
  hd : PySem.W.hasDictIn K C=true
  po : PySem.W.plainOver K C=true
  sa : PySem.W.findIn K (.ref C) "__setattr__" = some (some (.builtin "object.__setattr__"))
structure Con (K : PySem.W.Frag) (C : Addr) (f : Str) (v : V) (u : Value) : Prop where
  at_ : PySem.W.findIn K (.ref C) f=some (some u)
  rel : RelV v u
  get : PySem.W.specialIn K u "__get__" = some none
  cp : PySem.W.copiedNames.contains f=false
structure Meth (K : PySem.W.Frag) (C : Addr) (m : Str) (f : Addr) : Prop where
  at_ : PySem.W.findIn K (.ref C) m=some (some (.ref f))
  fn : PySem.W.isFn K (.ref f)=true
  kp : PySem.W.keepIn K (.ref f)=true
section
variable {X : Cx} {pins : List (Addr × Obj)} {σ : St} {H : Hp} {s : Shared} {a C dx : Addr} {fs : List (Str × V)} {f : Str} {v : V} {A : Around} {E : Value->Shared->Prop}
end
section
variable {X : Cx} {o e value : Expr} {f : Str} {pos pos' tpos : Pos} {ta tv : TE}
end
section
variable {X : Cx} {pins : List (Addr × Obj)} {σ : St} {H : Hp} {s : Shared} {A : Around} {E : Value->Shared->Prop} {Q : Value->Shared->Prop} {c : Value} {b : Bool}
inductive TyOf (K : PySem.W.Frag) (H : Hp) : V->Value->Prop where
  | non : TyOf K H .non (.type "NoneType")
  | bl (x : Bool) : TyOf K H (.bl x) (.type "bool")
  | int (i : Int) : TyOf K H (.int i) (.type "int")
  | str (x : Str) : TyOf K H (.str x) (.type "str")
  | flt (x : UInt64) : TyOf K H (.flt x) (.type "float")
  | lst {a : Addr} {xs : List V} (e : H a=some (.lst xs)) : TyOf K H (.ref a) (.type "list")
  | frz {a : Addr} {o : Obj} {xs : List V} (e : H a=some (.frz o (.lst xs))) : TyOf K H (.ref a) (.type "list")
  | tup {a : Addr} {xs : List V} (e : H a=some (.tup xs)) : TyOf K H (.ref a) (.type "tuple")
  | dK {a : Addr} {kvs : List (Key × V)} (e : H a=some (.dK kvs)) : TyOf K H (.ref a) (.type "dict")
  | dT {a : Addr} {kvs : List (List Key × V)} (e : H a=some (.dT kvs)) : TyOf K H (.ref a) (.type "dict")
  | ins {a C dx : Addr} {fs : List (Str × V)} (e : H a=some (.ins C dx fs)) (cl : Cls K C) (ha : PySem.W.findIn K (.ref C) "__class__" = some (some (.builtin "object.__class__")))
      (hn : PySem.W.specialIn K (.builtin "object.__class__") "__get__" = some (some (.builtin "getset_descriptor.__get__"))) (htk : PySem.W.takesIn K (.builtin "object.__class__")=some true)
      (hm : PySem.W.mroIn K C (.type "object")=some true) : TyOf K H (.ref a) (.ref C)
end
end L2
namespace L2
open PySem PySem.Spec PyProof.Rows
structure Room (k : Nat) (A : Around) : Prop where
  hd : A.handled=none
  dp : A.depth + 3 * k + 5 < recursionLimit
  un : A.units + 16 * k + 200 < cLine
theorem Room.mono {j k : Nat} {A : Around} (r : Room k A) (h : j≤k) : Room j A:=⟨r.hd,by have:=r.dp; omega,by have:=r.un; omega⟩
theorem Room.deeper {k : Nat} {A : Around} (r : Room (k + 1) A) (env : Env) : Room k (A.deeper env):=
  ⟨r.hd,by have:=r.dp; show A.depth + 1 + 3 * k + 5 < _; omega,by have:=r.un; show A.units + 3 + 16 * k + 200 < _; omega⟩
theorem Room.depth {k : Nat} {A : Around} (r : Room k A) : A.depth < recursionLimit:=by have:=r.dp; omega
theorem Room.units {k : Nat} {A : Around} (r : Room k A) : A.units + 64 < cLine:=by have:=r.un; omega
noncomputable def tNil : TA:=fun _ H Q=>Q [] H
noncomputable def tCons (ta : TE) (tr : TA) : TA:=fun σ H Q=>ta σ H fun x H1=>tr σ H1 fun xs H2=>Q (x :: xs) H2
section
variable {X : Cx} {e : Expr} {es : List Expr} {te : TE} {t : TA} {pos : Pos}
theorem pa_nil : PA X [] tNil:=fun _ _ _ _ H Q I h=>Calls.spliced_nil ⟨[],H,I,.nil,h⟩
theorem z1L (ha : PE X e te) (hr : PA X es t) (hs : starEach (e :: es) X.env=(false,eval e X.env) :: starEach es X.env:=by rfl) : PA X (e :: es) (tCons te t):=by
  intro pos pins s σ H Q I h
  rw [hs]
  show wpAny _ _ (spliced ((false,eval e X.env) :: backTo pos (starEach es X.env))) _ _ s
  refine Calls.spliced_cons (thn (ha pins s σ H _ I h) fun u s1 ⟨x,H1,I1,r1,q1⟩=>?_)
  exact thn (hr pos pins s1 σ H1 _ I1 q1) fun us s2 ⟨xs,H2,I2,r2,q2⟩=>⟨x :: xs,H2,I2,.cons r1 r2,q2⟩
noncomputable def tTup (t : TA) : TE:=fun σ H Q=>t σ H fun xs H1=>xs.length≤sizeLine∧∀ p,H1 p=none->Q (.ref p) (upd H1 p (.tup xs))
noncomputable def tLst (t : TA) : TE:=fun σ H Q=>t σ H fun xs H1=>xs.length≤sizeLine∧∀ p,H1 p=none->Q (.ref p) (upd H1 p (.lst xs))
theorem pe_tup {x1} (h : PA X es t) : PE X (.Tuple es x1 pos) (tTup t):=by
  intro pins s σ H Q I hq
  refine wpAny_Tuple_spliced (thn (h pos pins s σ H _ I hq) fun us s1 ⟨xs,H1,I1,r,z,q⟩=>⟨by rw [← r.length]; exact z,?_⟩)
  have hf : H1 s1.heap.objs.size=none:=I1.hok.fresh (Nat.le_refl _)
  refine ⟨.ref s1.heap.objs.size,upd H1 s1.heap.objs.size (.tup xs),I1.laid (t':=s1.toks) (fun b u e=>Heap.get?_push_of_some _ e) (Nat.le_refl _) ?_,rfl,q _ hf⟩
  exact ⟨z,us,r,TupN.new _ _⟩
theorem y3Q (h : PA X es t) : PE X (.List es pos) (tLst t):=by
  intro pins s σ H Q I hq
  refine wpAny_List_spliced (thn (h pos pins s σ H _ I hq) fun us s1 ⟨xs,H1,I1,r,z,q⟩=>⟨by rw [← r.length]; exact z,?_⟩)
  have hf : H1 s1.heap.objs.size=none:=I1.hok.fresh (Nat.le_refl _)
  refine ⟨.ref s1.heap.objs.size,upd H1 s1.heap.objs.size (.lst xs),I1.laid (t':=s1.toks) (fun b u e=>Heap.get?_push_of_some _ e) (Nat.le_refl _) ?_,rfl,q _ hf⟩
  exact ⟨z,us,0,r,Heap.get?_push_size _ rfl⟩
end
noncomputable abbrev Sp:=List V->Hp->VK->XK->Prop
noncomputable abbrev CXT:=List Env->Hp->Shared->XK->Value->Shared->Prop
structure Env0 (P : Program) (w : World) (K : PySem.W.Frag) (mg : Str->Option Value) (base : Heap) (A : Around) (outer : List Env) (s : Shared) (H : Hp) : Prop where
  frames : A.frames=some outer
  mod : Mod K mg base
  bs : ∀ b o,base.get? b=some o->s.heap.get? b=some o∧H b=none
  bsz : base.objs.size≤s.heap.objs.size
  funs : s.heap.FunFrames base outer
  frf : ∀ b∈frs outer,H b=none
  hok : HOk P w H s.heap
  bare : AllBare s.gens
noncomputable def CE (outer : List Env) (P : Program) (w : World) (H : Hp) (s : Shared) (Q : VK) (u : Value) (s' : Shared) : Prop:=
  ∃ v H',s'.os=s.os∧AllBare s'.gens∧Un (frs outer) [] H H' s.heap s'.heap∧HOk P w H' s'.heap∧RelV v u∧Q v H'
noncomputable def CR (CX : CXT) (outer : List Env) (P : Program) (w : World) (H : Hp) (s : Shared) (Q : VK) (E : XK) (r : Result) (s' : Shared) : Prop:=
  match r with
  | .ok (.ret u)=>CE outer P w H s Q u s'
  | .ok _=>False
  | .error e=>CX outer H s E e s'
structure FnOk (P : Program) (w : World) (K : PySem.W.Frag) (mg : Str->Option Value) (base : Heap) (CX : CXT) (k : Nat) (f : Addr) (fd : FuncData) (ps : List Str) (sp : Sp) : Prop where
  len : ∀ vs H Q E,sp vs H Q E->vs.length=ps.length
  run : ∀ (A : Around) (outer : List Env) (s : Shared) (H : Hp) (args : Args) (us : List Value) (vs : List V) (Q : VK) (E : XK),Room k A->Env0 P w K mg base A outer s H->BindsTo s fd args (ps.zip us)->Vals vs us->sp vs H Q E →
    codeAny (model P w) A (.call (.ref f) args) (CR CX outer P w H s Q E) s
theorem FnOk.imp {P : Program} {w : World} {K : PySem.W.Frag} {mg : Str->Option Value} {base : Heap} {CX : CXT} {k : Nat} {f : Addr} {fd : FuncData} {ps : List Str} {sp sp' : Sp} (F : FnOk P w K mg base CX k f fd ps sp)
    (h : ∀ vs H Q E,sp' vs H Q E->sp vs H Q E) : FnOk P w K mg base CX k f fd ps sp':=
  ⟨fun vs H Q E q=>F.len vs H Q E (h _ _ _ _ q),fun A outer s H args us vs Q E hr he hb hv hs=>F.run A outer s H args us vs Q E hr he hb hv (h _ _ _ _ hs)⟩
section
variable {X : Cx} {pins : List (Addr × Obj)} {σ : St} {H : Hp} {s s' : Shared}
theorem Inv.env0 (I : Inv X pins σ H s) : Env0 X.prog X.w X.K X.mg X.base X.A X.stack s H:=
  ⟨I.ok.frames,I.ok.mod,I.bs,Nat.le_trans I.ok.bsz I.sz,I.stack,I.stkFree,I.hok,I.bare⟩
theorem Inv.after {Q : VK} {u : Value} (I : Inv X pins σ H s) (h : CE X.stack X.prog X.w H s Q u s') : EP X pins σ Q u s':=by
  obtain ⟨v,H',os,bare,un,hok,r,q⟩:=h
  obtain ⟨hh,g,d,t,os'⟩:=s'
  obtain rfl : os'=s.os:=os
  exact ⟨v,H',I.call (h':=hh) (g':=g) (d':=d) (t':=t) (ch:=[]) un hok bare (fun b z=>absurd z (by simp)),r,q⟩
end
noncomputable def tCall (sp : Sp) (dvs : List V) (E : XK) (t : TA) : TE:=fun σ H Q=>t σ H fun vs H1=>sp (vs ++ dvs) H1 Q E
noncomputable def Binds (K : PySem.W.Frag) (fd : FuncData) (ps : List Str) (ds : List Value) : Prop:=
  ∀ (s : Shared) (us : List Value),K.In s.heap->(us ++ ds).length=ps.length->BindsTo s fd ⟨us,[]⟩ (ps.zip (us ++ ds))
theorem Binds.all {K : PySem.W.Frag} {fd : FuncData} {ps : List Str} (h : ∀ us : List Value,us.length=ps.length->bindArgs fd ⟨us,[]⟩=pure (ps.zip us)) : Binds K fd ps []:=fun s us _ hl=>by
  rw [List.append_nil] at hl ⊢
  exact .of_eq (h us hl)
noncomputable def y2w (CX : CXT) (X : Cx) (E : XK) : Prop:=∀ (pins : List (Addr × Obj)) (σ : St) (H : Hp) (s : Shared) (e : Value) (s' : Shared),Inv X pins σ H s->CX X.stack H s E e s'->X.xe e s'
section
variable {X : Cx} {CX : CXT} {k : Nat} {f C : Addr} {fd : FuncData} {ps : List Str} {sp : Sp} {dvs : List V} {ds : List Value} {E : XK} {x m : Str} {p pos apos : Pos} {e o : Expr} {es : List Expr} {ta : TE} {t : TA}
theorem run_fn {pins : List (Addr × Obj)} {σ : St} {H : Hp} {s : Shared} {Q : VK} {us : List Value} {vs : List V} (F : FnOk X.prog X.w X.K X.mg X.base CX k f fd ps sp) (hr : Room k X.A) (hb : Binds X.K fd ps ds) (hd : Vals dvs ds) (hx : y2w CX X E)
    (I : Inv X pins σ H s) (r : Vals vs us) (h : sp (vs ++ dvs) H Q E) : wpAny (model X.prog X.w) X.A (call (.ref f) us) (EP X pins σ Q) X.xe s:=by
  have r2 : Vals (vs ++ dvs) (us ++ ds):=r.append hd
  have hl : (us ++ ds).length=ps.length:=by rw [← r2.length]; exact F.len _ _ _ _ h
  refine wpAny_call (codeAny_mono (F.run X.A X.stack s H ⟨us,[]⟩ (us ++ ds) (vs ++ dvs) Q E hr I.env0 (hb s us I.kIn hl) r2 h) fun r s' hq=>?_)
  cases r with
  | error e=>exact hx pins σ H s e s' I hq
  | ok fl=>
    cases fl with
    | ret u=>exact I.after hq
    | next=>exact False.elim hq
    | brk=>exact False.elim hq
    | cont=>exact False.elim hq
theorem pe_call (F : FnOk X.prog X.w X.K X.mg X.base CX k f fd ps sp) (hr : Room k X.A) (hg : Gl X x) (hm : X.mg x=some (.ref f)) (hk : PySem.W.keepIn X.K (.ref f)=true) (hb : Binds X.K fd ps ds) (hd : Vals dvs ds) (hx : y2w CX X E)
    (ha : PA X (e :: es) t) (hdb : (x == ("__debug__" : Str))=false:=by decide) (he : starEach (e :: es) X.env=(false,eval e X.env) :: starEach es X.env:=by rfl) (hpl : (backTo pos (starEach es X.env)).any (·.1)=false:=by rfl) :
    PE X (.Call (.Name x p) (e :: es) [] pos) (tCall sp dvs E t):=by
  intro pins s σ H Q I h
  refine wpAny_Call_Name_kw (z9y I hg hm ?_ hdb)
  refine PySem.W.callWith_K (h₀:=X.base) I.ok.mod.kin hk (thn (ha pos pins s σ H _ I h) fun us s1 ⟨vs,H1,I1,r,q⟩=>⟨I1.kIn,?_⟩) he hpl
  exact run_fn F hr hb hd hx I1 r q
structure Mk (K : PySem.W.Frag) (C f : Addr) : Prop where
  makes : PySem.W.makesIn K C=true
  init : PySem.W.findIn K (.ref C) "__init__" = some (some (.ref f))
  fn : PySem.W.isFn K (.ref f)=true
  kp : PySem.W.keepIn K (.ref C)=true
end
section
variable {X : Cx} {CX : CXT} {k : Nat} {f C : Addr} {fd : FuncData} {ps ks : List Str} {sp : Sp} {E : XK} {x m : Str} {p pos apos kpos : Pos} {e o : Expr} {es : List Expr} {kws : List Keyword} {te ta : TE} {t tk : TA} {nm : Option Str}
structure KBinds (K : PySem.W.Frag) (fd : FuncData) (ps ks : List Str) (g : List Value->List Value->List Value) (gV : List V->List V->List V) : Prop where
  to : ∀ (s : Shared) (us ws : List Value),K.In s.heap->(g us ws).length=ps.length->BindsTo s fd ⟨us,ks.zip ws⟩ (ps.zip (g us ws))
  rel : ∀ {vs : List V} {us : List Value} {zs : List V} {ws : List Value},Vals vs us->Vals zs ws->Vals (gV vs zs) (g us ws)
variable {g : List Value->List Value->List Value} {gV : List V->List V->List V}
end
structure FnScope (N P : List Str) (sc : Scope) : Prop where
  kind : sc.kind = .function
  co : sc.isCoroutine=false
  gen : sc.isGenerator=false
  nd : N.Nodup
  pre : N.take P.length=P
  par : ∀ x∈P,sc.names.lookup x=some .local∨sc.names.lookup x=some .cell
  nofree : ∀ y∈sc.names,y.2≠.free
theorem z8h {kindOf : Str->Option NameKind} {x : Str} : ∀ {binds : List (Str × Value)} {m : Str->Option Value},(∀ v,(x,v) ∉ binds)->bindL kindOf binds m x=m x
  | [],_,_=>rfl
  | (n,v) :: r,m,h=>by
    unfold bindL
    rw [z8h fun w hw=>h w (List.mem_cons_of_mem _ hw)]
    split
    · have : x≠n:=by rintro rfl; exact h v List.mem_cons_self
      simp [this]
    · rfl
theorem z8A {kindOf : Str->Option NameKind} {x : Str} : ∀ {binds : List (Str × Value)} {m : Str->Option Value},(∀ v,(x,v) ∉ binds)->bindC kindOf binds m x=m x
  | [],_,_=>rfl
  | (n,v) :: r,m,h=>by
    unfold bindC
    rw [z8A fun w hw=>h w (List.mem_cons_of_mem _ hw)]
    split
    · rfl
    · have : x≠n:=by rintro rfl; exact h v List.mem_cons_self
      simp [this]
theorem z8F {kindOf : Str->Option NameKind} {x : Str} {v : Value} : ∀ {P : List Str} {vs : List Value} {i : Nat} {m : Str->Option Value},P.Nodup->P[i]? = some x->vs[i]? = some v->kindOf x=some .local →
    bindL kindOf (P.zip vs) m x=some v
  | [],_,_,_,_,h,_,_=>by simp at h
  | _ :: _,[],_,_,_,_,h,_=>by simp at h
  | p :: P,w :: vs,0,m,nd,h1,h2,hk=>by
    simp at h1 h2; subst h1; subst h2
    show bindL kindOf ((p,w) :: P.zip vs) m p=_
    unfold bindL
    rw [z8h fun v hv=>(List.nodup_cons.mp nd).1 (List.of_mem_zip hv).1,if_pos hk]
    simp
  | p :: P,w :: vs,i + 1,m,nd,h1,h2,hk=>by
    show bindL kindOf ((p,w) :: P.zip vs) m x=_
    unfold bindL
    exact z8F (i:=i) (List.nodup_cons.mp nd).2 (by simpa using h1) (by simpa using h2) hk
theorem z8k {kindOf : Str->Option NameKind} {x : Str} {v : Value} : ∀ {P : List Str} {vs : List Value} {i : Nat} {m : Str->Option Value},P.Nodup->P[i]? = some x->vs[i]? = some v->kindOf x≠some .local →
    bindC kindOf (P.zip vs) m x=some v
  | [],_,_,_,_,h,_,_=>by simp at h
  | _ :: _,[],_,_,_,_,h,_=>by simp at h
  | p :: P,w :: vs,0,m,nd,h1,h2,hk=>by
    simp at h1 h2; subst h1; subst h2
    show bindC kindOf ((p,w) :: P.zip vs) m p=_
    unfold bindC
    rw [z8A fun v hv=>(List.nodup_cons.mp nd).1 (List.of_mem_zip hv).1,if_neg hk]
    simp
  | p :: P,w :: vs,i + 1,m,nd,h1,h2,hk=>by
    show bindC kindOf ((p,w) :: P.zip vs) m x=_
    unfold bindC
    exact z8k (i:=i) (List.nodup_cons.mp nd).2 (by simpa using h1) (by simpa using h2) hk
noncomputable def z6t (N : List Str) (vs : List V) : St:=vs.map some ++ List.replicate (N.length - vs.length) none
noncomputable def z9b (CX : CXT) (P : Program) (w : World) (K : PySem.W.Frag) (mg : Str->Option Value) (base : Heap) (N : List Str) (qual : Str) (scope : Scope) (f : Addr) (cd : Value) (A : Around) (outer : List Env) (s : Shared) (H : Hp) (E : XK) : Cx where
  prog:=P
  w:=w
  K:=K
  mg:=mg
  base:=base
  A:=A.deeper (envOfC qual scope s.heap.objs.size f cd)
  N:=N
  s₀:=s
  H₀:=H
  env:=envOfC qual scope s.heap.objs.size f cd
  outer:=outer
  stack:=envOfC qual scope s.heap.objs.size f cd :: outer
  ex:=[]
  calm:=true
  fn:=fun _=>true
  pn:=[]
  xe:=fun e s'=>wpAny (model P w) (A.deeper (envOfC qual scope s.heap.objs.size f cd)) (leaving (envOfC qual scope s.heap.objs.size f cd) e) (fun _ s''=>CX outer H s E e s'') (fun e' s''=>CX outer H s E e' s'') s'
theorem y1c {sc : Scope} {n : Nat} {x : Str} (h : sc.names.lookup x=some .cell) : ∃ c,(cellsFrom n sc.names []).lookup x=some c:=by
  have q:=PySem.W.cellsFrom_some sc.names n [] (.inl h)
  exact Option.isSome_iff_exists.mp q
theorem y3x {CX : CXT} {P : Program} {w : World} {K : PySem.W.Frag} {mg : Str->Option Value} {base : Heap} {N ps : List Str} {qual : Str} {scope : Scope} {f : Addr} {cd : Value} {A : Around} {outer : List Env} {s s1 : Shared} {H : Hp} {E : XK} {us : List Value} {vs : List V}
    (S : FnScope N ps scope) (hd : A.handled=none) (e0 : Env0 P w K mg base A outer s H) (hl : vs.length=ps.length) (r : Vals vs us)
    (x : InCallC s s.heap.objs.size (bindL (envOfC qual scope s.heap.objs.size f cd).kindOf (ps.zip us) fun _=>none) (cellsFrom (s.heap.objs.size + 1) scope.names []) (bindC (envOfC qual scope s.heap.objs.size f cd).kindOf (ps.zip us) fun _=>none) s1) :
    Inv (z9b CX P w K mg base N qual scope f cd A outer s H E) [] (z6t N vs) H s1:=by
  have hpl : ps.length≤N.length:=by have:=congrArg List.length S.pre; rw [List.length_take] at this; omega
  obtain ⟨h1,tk,rfl,hk⟩:=x.done
  have noA : ∀ b : Addr,b ∉ (z9b CX P w K mg base N qual scope f cd A outer s H E).ex:=fun b z=>absurd (show b∈([] : List Addr) from z) (by simp)
  refine ⟨⟨e0.mod,S.kind,rfl,rfl,Nat.le_refl _,fun y z c h1 h2=>?_,fun y hy=>?_,fun y c _ h=>?_,fun _=>hd,Around.frames_deeper e0.frames,.inr ⟨rfl,rfl⟩,fun b z=>absurd z (noA b),e0.bs,e0.bsz,fun b _ _=>noA b,fun b z=>absurd z (noA b),e0.funs,e0.frf⟩,
    rfl,e0.bare,Un.kept hk,⟨_,x.toInCall.ns,fun i y v h1 h2 h3=>?_⟩,fun y c h=>⟨_,x.cell y c h⟩,e0.hok.fresh (Nat.le_refl _),fun y c h=>?_,fun p hp=>absurd (show p∈([] : List (Addr × Obj)) from hp) (by simp),e0.hok.kept hk,?_⟩
  · exact name_of_addr x.apart (PySem.mem_of_lookup h1) (PySem.mem_of_lookup h2)
  · have hy : scope.names.lookup y=some .cell∨scope.names.lookup y=some .free:=hy
    rcases hy with hy | hy
    · exact y1c hy
    · exact absurd rfl (S.nofree _ (PySem.mem_of_lookup hy))
  · exact Nat.le_of_lt (x.above y c (PySem.mem_of_lookup h))
  · have hi : i < vs.length:=by
      unfold z6t at h2
      by_cases hi : i < vs.length
      · exact hi
      · rw [List.getElem?_append_right (by simpa using hi)] at h2
        rw [List.getElem?_replicate] at h2
        split at h2 <;> cases h2
    have ha : vs[i]? = some v:=by
      unfold z6t at h2
      rw [List.getElem?_append_left (by simpa using hi),List.getElem?_map] at h2
      cases e : vs[i]? with
      | none=>rw [e] at h2; cases h2
      | some a=>rw [e] at h2; cases h2; rfl
    obtain ⟨u,hu,rv⟩:=r.get ha
    have hp : ps[i]? = some y:=by
      rw [← S.pre,List.getElem?_take_of_lt (by omega)]; exact h1
    have ndP : ps.Nodup:=by rw [← S.pre]; exact S.nd.sublist (List.take_sublist _ _)
    refine ⟨u,rv,?_⟩
    rcases S.par y (List.mem_of_getElem? hp) with k | k
    · exact .inl ⟨k,z8F ndP hp hu k⟩
    · obtain ⟨c,e⟩:=y1c (n:=s.heap.objs.size + 1) k
      refine .inr ⟨.inl k,c,e,?_⟩
      have q:=x.cell y c e
      rw [z8k ndP hp hu (by show scope.names.lookup y≠_; rw [k]; decide)] at q
      exact q
  · exact e0.hok.fresh (Nat.le_of_lt (x.above y c (PySem.mem_of_lookup h)))
  · unfold z6t
    show _=N.length
    rw [List.length_append,List.length_map,List.length_replicate]
    omega
theorem fn_of {CX : CXT} {P : Program} {w : World} {K : PySem.W.Frag} {mg : Str->Option Value} {base : Heap} {k : Nat} {f : Addr} {name qual : Str} {params : Arguments} {body : List Stmt} {scope : Scope} {dV kV doc pm cdv ct oc : Value} {an od : Option Addr}
    {osl : Array (Option Value)} {N ps : List Str} {sp : Sp} (lk : K.lookup f=some ⟨oc,od,.func (PySem.W.fnOf name qual params body scope dV kV doc pm an cdv ct),osl⟩) (hcd : PySem.W.codeIn K cdv qual=true) (S : FnScope N ps scope)
    (len : ∀ vs H Q E,sp vs H Q E->vs.length=ps.length)
    (hbody : ∀ (A : Around) (outer : List Env) (s : Shared) (H : Hp) (vs : List V) (Q : VK) (E : XK),Room k (A.deeper (envOfC qual scope s.heap.objs.size f cdv))->sp vs H Q E →
      ∃ t,PSs (z9b CX P w K mg base N qual scope f cdv A outer s H E) body t∧t { nx:=fun _ H'=>Q .non H',rt:=Q } (z6t N vs) H) :
    FnOk P w K mg base CX (k + 1) f (PySem.W.fnOf name qual params body scope dV kV doc pm an cdv ct) ps sp:=by
  refine ⟨len,fun A outer s H args us vs Q E hr e0 hb r hsp=>?_⟩
  have hl:=len _ _ _ _ hsp
  have KX : K.In s.heap:=e0.mod.kin.keeps fun b o e=>(e0.bs b o e).1
  have lim : s.heap.NoLimit:=e0.mod.nolimit.keeps fun b o e=>(e0.bs b o e).1
  have hkind : ∀ y∈ps.zip us,scope.names.lookup y.1=some .local∨(scope.names.lookup y.1=some .cell∧((cellsFrom (s.heap.objs.size + 1) scope.names []).lookup y.1).isSome=true):=fun ⟨n,v⟩ hy=>by
    rcases S.par n (List.of_mem_zip hy).1 with q | q
    · exact .inl q
    · exact .inr ⟨q,PySem.W.cellsFrom_some _ _ _ (.inl q)⟩
  refine codeAny_call_function hr.depth (KX _ _ lk) rfl S.co S.gen rfl (PySem.W.codeRec_of KX hcd) (hb _ _ _ _ ?_)
  refine wpAny_newFunctionEnv_cells S.kind hkind fun env he s1 x=>?_
  subst he
  refine ⟨lim.keeps x.toInCall.keep,codeAny_func ?_⟩
  obtain ⟨t,ht,hq⟩:=hbody A outer s H vs Q E (hr.deeper _) hsp
  have I : Inv (z9b CX P w K mg base N qual scope f cdv A outer s H E) [] (z6t N vs) H s1:=y3x S hr.hd e0 hl r x
  refine wpAny_mono (ht [] s1 (z6t N vs) H _ I hq) (fun fl s' hs=>?_) fun e s' hs=>hs
  have fin : ∀ {σ' : St} {H' : Hp} {v : V} {u : Value},Inv (z9b CX P w K mg base N qual scope f cdv A outer s H E) [] σ' H' s'->RelV v u->Q v H'->CE outer P w H s Q u s':=
    fun {σ' H' v u} J rv q=>⟨v,H',J.os,J.bare,J.base,J.hok,rv,q⟩
  cases fl with
  | ret u=>
    obtain ⟨v,σ',H',J,rv,q⟩:=hs
    exact fin J rv q
  | next=>
    obtain ⟨σ',H',J,q⟩:=hs
    exact fin (v:=V.non) (u:=Value.none) J rfl q
  | brk=>
    obtain ⟨_,_,_,q⟩:=hs
    exact False.elim q
  | cont=>
    obtain ⟨_,_,_,q⟩:=hs
    exact False.elim q
end L2
namespace L2
open PySem PySem.Spec PyProof.Rows
section
variable {X : Cx} {x : Str} {p pos : Pos} {e : Expr} {es : List Expr} {t : TA} {id T : String} {r : List V->Hp->VK->Prop}
noncomputable def tCB (r : List V->Hp->VK->Prop) (t : TA) : TE:=fun σ H Q=>t σ H fun vs H1=>r vs H1 Q
theorem z7A (hc : z3Y X (.builtin id) r) (hg : Gl X x) (hm : X.mg x=none) (hv : bootBuiltins x=some (.builtin id)) (ha : PA X (e :: es) t) (hn : x ≠ "__name__" := by decide) (hdb : (x == ("__debug__" : Str))=false:=by decide)
    (he : starEach (e :: es) X.env=(false,eval e X.env) :: starEach es X.env:=by rfl) (hpl : (backTo pos (starEach es X.env)).any (·.1)=false:=by rfl) : PE X (.Call (.Name x p) (e :: es) [] pos) (tCB r t):=by
  intro pins s σ H Q I h
  refine wpAny_Call_Name_kw (z4J I hg hm hv ?_ hn hdb)
  exact PyProof.Rows.callWith_builtin1 (thn (ha pos pins s σ H _ I h) fun us s1 ⟨vs,H1,I1,r1,q1⟩=>hc pins s1 σ H1 vs us Q I1 r1 q1) he hpl
theorem z6g (hc : z3Y X (.type T) r) (hg : Gl X x) (hm : X.mg x=none) (hv : bootBuiltins x=some (.type T)) (ha : PA X (e :: es) t) (hn : x ≠ "__name__" := by decide) (hdb : (x == ("__debug__" : Str))=false:=by decide)
    (he : starEach (e :: es) X.env=(false,eval e X.env) :: starEach es X.env:=by rfl) (hpl : (backTo pos (starEach es X.env)).any (·.1)=false:=by rfl) : PE X (.Call (.Name x p) (e :: es) [] pos) (tCB r t):=by
  intro pins s σ H Q I h
  refine wpAny_Call_Name_kw (z4J I hg hm hv ?_ hn hdb)
  exact PyProof.Rows.callWith_type1 (thn (ha pos pins s σ H _ I h) fun us s1 ⟨vs,H1,I1,r1,q1⟩=>hc pins s1 σ H1 vs us Q I1 r1 q1) he hpl
end
end L2
namespace HT
open PySem PyProof.Rows
section
open PySem.SeqAt
open PySem.AutoSeq1 (wpAny_loadPart')
open PySem.MeetsSeq PySem.MeetsSeq2 PySem.MeetsSeq3
end
section
variable {prog : Program} {w : World} {A : Around} {E : Value->Shared->Prop} {s : Shared}
noncomputable def sIx (n d : Nat) : Option Int->Nat
  | none=>d
  | some v=>if v < 0 then (v + (n : Int)).toNat else min v.toNat n
theorem sIx_le (n d : Nat) (hd : d≤n) (o : Option Int) : sIx n d o≤n:=by
  cases o with
  | none=>exact hd
  | some v=>
    show (if v < 0 then (v + (n : Int)).toNat else min v.toNat n)≤n
    by_cases hv : v < 0
    · rw [if_pos hv]; omega
    · rw [if_neg hv]; exact Nat.min_le_right _ _
theorem y3U (v : Int) (n d : Nat) : (if v < 0 then max (v + (n : Int)) 0 else min v (n : Int))=((sIx n d (some v) : Nat) : Int):=by
  show (if v < 0 then max (v + (n : Int)) 0 else min v (n : Int))=(((if v < 0 then (v + (n : Int)).toNat else min v.toNat n) : Nat) : Int)
  by_cases hv : v < 0
  · simp only [if_pos hv]; omega
  · simp only [if_neg hv]; omega
theorem y1p (lo hi : Option Int) (n : Nat) : Builtin.Slice.sliceAdjust lo hi 1 (n : Int)=(((sIx n 0 lo : Nat) : Int),((sIx n n hi : Nat) : Int)):=by
  have h1 : ¬ ((1 : Int) < 0):=by omega
  unfold Builtin.Slice.sliceAdjust
  simp only [h1,if_false]
  refine Prod.ext ?_ ?_
  · cases lo with
    | none=>rfl
    | some v=>exact y3U v n 0
  · cases hi with
    | none=>rfl
    | some v=>exact y3U v n n
theorem y1z (i j : Nat) : Builtin.Slice.slicePlaces (i : Int) (j : Int) 1=j - i:=by
  unfold Builtin.Slice.slicePlaces
  have h1 : (1 : Int) > 0:=by omega
  simp only [h1,if_true,Int.ediv_one]
  split <;> omega
theorem z7f {v : Value} {o : Option Int} {Q : Option Int->Shared->Prop} (p : IsPart v o) (h : Q o s) : wpAny (model prog w) A (Builtin.Slice.slicePartIndex v) Q E s:=by
  cases p with
  | none=>exact slicePart_none h
  | int i t=>exact slicePart_int h
theorem z3k {sl : Addr} {vl vu : Value} {lo hi : Option Int} {n : Nat} {Q : Int × Int × Nat->Shared->Prop} (hs : s.heap.IsSliceOf sl vl vu .none) (pl : IsPart vl lo) (pu : IsPart vu hi)
    (h : Q (((sIx n 0 lo : Nat) : Int),1,sIx n n hi - sIx n 0 lo) s) : wpAny (model prog w) A (Builtin.Slice.sliceApplied (.ref sl) (pure (n : Int))) Q E s:=by
  obtain ⟨os,hos,hcs,hds⟩:=id hs
  unfold Builtin.Slice.sliceApplied Builtin.Slice.sliceFields
  refine wpAny_bind (wpAny_bind (wpAny_field hos hds (x:=vl) rfl (wpAny_bind (wpAny_field hos hds (x:=vu) rfl (wpAny_bind (wpAny_field hos hds (x:=.none) rfl (wpAny_pure ?_)))))))
  refine wpAny_bind (slicePart_none ?_)
  show wpAny _ _ (if ((1 : Int) == 0)=true then _ else _) _ _ s
  rw [if_neg (by decide)]
  refine wpAny_bind (z7f pl (wpAny_bind (z7f pu (wpAny_bind (wpAny_pure ?_)))))
  show wpAny _ _ (match Builtin.Slice.sliceAdjust lo hi 1 (n : Int) with | (lo,hi)=>pure (lo,(1 : Int),Builtin.Slice.slicePlaces lo hi 1)) _ _ s
  rw [y1p lo hi n]
  show wpAny _ _ (pure (((sIx n 0 lo : Nat) : Int),(1 : Int),Builtin.Slice.slicePlaces ((sIx n 0 lo : Nat) : Int) ((sIx n n hi : Nat) : Int) 1)) _ _ s
  rw [y1z]
  exact wpAny_pure h
theorem y4t (xs : Array Value) (i k : Nat) : ((List.range k).filterMap fun (m : Nat)=>xs[((i : Int) + (m : Int) * 1).toNat]?).toArray=((xs.toList.drop i).take k).toArray:=by
  have e : (fun (m : Nat)=>xs[((i : Int) + (m : Int) * 1).toNat]?)=fun m=>xs[i + m]?:=by
    funext m
    have : ((i : Int) + (m : Int) * 1).toNat=i + m:=by omega
    rw [this]
  rw [e]
  have:=pick_run xs i k
  rw [List.filterMap_map] at this
  have e2 : ((fun x=>xs[x]?) ∘ fun x=>i + x)=fun m=>xs[i + m]?:=rfl
  rw [e2] at this
  rw [this]
theorem getItem_tuple_cut {t sl : Addr} {items : Array Value} {vl vu : Value} {lo hi : Option Int} {Q : Value->Shared->Prop} (ht : IsTup s.heap t items) (hs : s.heap.IsSliceOf sl vl vu .none) (pl : IsPart vl lo) (pu : IsPart vu hi)
    (hw : ¬ (sIx items.size 0 lo=0∧sIx items.size items.size hi=items.size))
    (h : Q (.ref s.heap.objs.size) { s with heap:=s.heap.push { cls:=.type "tuple",data:=.seq ((items.toList.drop (sIx items.size 0 lo)).take (sIx items.size items.size hi - sIx items.size 0 lo)).toArray } })
    (hsz : items.size≤sizeLine) : wpAny (model prog w) A (getItem (.ref t) (.ref sl)) Q E s:=by
  have htake : sizeOk (.seq ((items.toList.drop (sIx items.size 0 lo)).take (sIx items.size items.size hi - sIx items.size 0 lo)).toArray):=by
    show ((items.toList.drop (sIx items.size 0 lo)).take (sIx items.size items.size hi - sIx items.size 0 lo)).toArray.size≤sizeLine
    rw [List.size_toArray,List.length_take,List.length_drop,Array.length_toList]
    omega
  have hj : sIx items.size items.size hi≤items.size:=sIx_le _ _ (Nat.le_refl _) hi
  obtain ⟨os,hos,hcs,hds⟩:=id hs
  have hTs : s.TypeIs (.ref sl) "slice" := ⟨os,hos,hcs⟩
  unfold getItem
  try with_reducible refine wpAny_holding ?_
  first | refine wpAny_bind (wpAny_pure ?_) | skip
  refine wpAny_bind (wpAny_sequenceKey ht.typeIs (by decide) ?_)
  refine wpAny_bind (wpAny_callSpecial?_slot (name:=Str.ofString "__getitem__") ht.typeIs PyProof.Rows.slot_tuple_getitem
    (wpAny_call_entry PyProof.Rows.slot_tuple_getitem ht.typeIs entry_tuple_getitem ?_ (args_tuple_getitem _ _)))
  show wpAny _ _ (Builtin.Tuple.tupleItemsOf (.ref t) >>= _) _ _ s
  refine wpAny_bind (tupleItemsOf_ ht ?_)
  refine wpAny_bind (wpAny_typeOf hTs ?_)
  rw [if_pos (by decide)]
  refine wpAny_bind (z3k hs pl pu ?_)
  have hno : ¬ ((((sIx items.size 0 lo : Nat) : Int) == 0 && (1 : Int) == 1 && (sIx items.size items.size hi - sIx items.size 0 lo) == items.size)=true):=by
    intro q
    rw [Bool.and_eq_true,Bool.and_eq_true] at q
    have q1 : ((sIx items.size 0 lo : Nat) : Int)=0:=eq_of_beq q.1.1
    have q2 : sIx items.size items.size hi - sIx items.size 0 lo=items.size:=eq_of_beq q.2
    exact hw ⟨by omega,by omega⟩
  show wpAny _ _ (if (((sIx items.size 0 lo : Nat) : Int) == 0 && (1 : Int) == 1 && (sIx items.size items.size hi - sIx items.size 0 lo) == items.size)=true then _ else _) _ _ s
  rw [if_neg hno,y4t]
  first
    | exact wpAny_bind (m:=Builtin.Tuple.tupleExact _) (wpAny_newObj_type (wpAny_pure ⟨_,rfl,wpAny_pure h⟩) htake)
    | exact wpAny_bind (m:=Builtin.Tuple.tupleExact _) (wpAny_newObj_type (wpAny_bind (wpAny_pure (wpAny_pure ⟨_,rfl,wpAny_pure h⟩))) htake)
    | exact wpAny_bind (wpAny_bind (m:=Builtin.Tuple.tupleExact _) (wpAny_newObj_type (wpAny_pure (wpAny_pure ⟨_,rfl,wpAny_pure h⟩)) htake))
    | exact wpAny_bind (wpAny_bind (m:=Builtin.Tuple.tupleExact _) (wpAny_newObj_type (wpAny_pure ⟨_,rfl,wpAny_pure h⟩) htake))
end
end HT
namespace L2
open PySem PySem.Spec PyProof.Rows
noncomputable abbrev TO:=St->Hp->(Option Int->Hp->Prop)->Prop
noncomputable def PO (X : Cx) (e : Option Expr) (t : TO) : Prop:=
  ∀ (pins : List (Addr × Obj)) (s : Shared) (σ : St) (H : Hp) (Q : Option Int->Hp->Prop),Inv X pins σ H s->t σ H Q →
    wpAny (model X.prog X.w) X.A (evalPart e X.env) (fun u s'=>∃ o H',Inv X pins σ H' s'∧IsPart u o∧Q o H') X.xe s
noncomputable def tNoPart : TO:=fun _ H Q=>Q none H
noncomputable def tPart (t : TE) : TO:=fun σ H Q=>t σ H fun x H1=>∃ i,x = .int i∧Q (some i) H1
theorem z2X {ns : List Int} : ∀ {us : List Value},Vals (ns.map V.int) us->IntsAre us ns:=by
  induction ns with
  | nil=>intro us r; rw [List.map_nil] at r; cases r; exact .nil
  | cons n ns ih=>
    intro us r
    rw [List.map_cons] at r
    cases r with
    | cons r1 r2=>
      obtain ⟨t,e⟩:=r1
      subst e
      exact .cons n t (ih r2)
section
variable {X : Cx} {e : Expr} {te : TE} {lo hi : Option Expr} {tl th : TO} {pos p2 : Pos}
theorem po_none : PO X none tNoPart:=by
  intro pins s σ H Q I h
  rw [evalPart_none]
  exact wpAny_pure ⟨none,H,I,.none,h⟩
theorem po_some (h : PE X e te) : PO X (some e) (tPart te):=by
  intro pins s σ H Q I hw
  rw [evalPart_some]
  refine thn (h pins s σ H _ I hw) fun u s1 ⟨x,H1,I1,r1,q1⟩=>?_
  obtain ⟨i,rfl,q⟩:=q1
  obtain ⟨t,rfl⟩:=r1
  exact ⟨some i,H1,I1,.int i t,q⟩
noncomputable def SlR (X : Cx) (r : V->Option Int->Option Int->Hp->VK->Prop) : Prop:=
  ∀ (pins : List (Addr × Obj)) (s : Shared) (σ : St) (H : Hp) (x : V) (v vl vu : Value) (lo hi : Option Int) (sl : Addr) (Q : VK),Inv X pins σ H s->RelV x v->s.heap.IsSliceOf sl vl vu .none->IsPart vl lo->IsPart vu hi->r x lo hi H Q →
    ∃ T id,typeLookup (.type T) "__getitem__" = pure (some (.builtin id))∧s.TypeIs v T∧wpAny (model X.prog X.w) X.A (getItem v (.ref sl)) (EP X pins σ Q) X.xe s
noncomputable def tSl (r : V->Option Int->Option Int->Hp->VK->Prop) (te : TE) (tl th : TO) : TE:=fun σ H Q=>te σ H fun x H1=>tl σ H1 fun l H2=>th σ H2 fun u H3=>r x l u H3 Q
theorem y0P {r : V->Option Int->Option Int->Hp->VK->Prop} (hr : SlR X r) (he : PE X e te) (hl : PO X lo tl) (hu : PO X hi th) : PE X (.Subscript e (.Slice lo hi none p2) pos) (tSl r te tl th):=by
  intro pins s σ H Q I h
  refine Subscript_ (thn (he pins s σ H _ I h) fun v s1 ⟨x,H1,I1,r1,q1⟩=>?_)
  refine wpAny_Slice (thn (hl pins s1 σ H1 _ I1 q1) fun vl s2 ⟨l,H2,I2,pl,q2⟩=>thn (hu pins s2 σ H2 _ I2 q2) fun vu s3 ⟨u,H3,I3,pu,q3⟩=>?_)
  rw [evalPart_none]
  refine wpAny_pure ?_
  have I4 : Inv X pins σ H3 { s3 with heap:=s3.heap.push { cls:=.type "slice",data:=.fields #[vl,vu,.none] } }:=I3.kept (t':=s3.toks) fun b ob q=>Heap.get?_push_of_some _ q
  obtain ⟨T,id,hT,ht,hg⟩:=hr pins { s3 with heap:=s3.heap.push { cls:=.type "slice",data:=.fields #[vl,vu,.none] } } σ H3 x v vl vu l u s3.heap.objs.size Q I4 r1 (Heap.IsSliceOf.new ..) pl pu q3
  show wpAny (model X.prog X.w) X.A (subscriptTail e (.Slice lo hi none p2) v (.ref s3.heap.objs.size)) (EP X pins σ Q) X.xe { s3 with heap:=s3.heap.push { cls:=.type "slice",data:=.fields #[vl,vu,.none] } }
  exact tail_any (ops:=[.ref s3.heap.objs.size,v]) ht hT hg (by with_unfolding_all rfl)
noncomputable def y1H (xs : List V) (lo hi : Option Int) : List V:=(xs.drop (HT.sIx xs.length 0 lo)).take (HT.sIx xs.length xs.length hi - HT.sIx xs.length 0 lo)
theorem z6s (xs : List V) (lo hi : Option Int) : (y1H xs lo hi).length≤xs.length:=by
  unfold y1H
  rw [List.length_take,List.length_drop]
  omega
end
end L2
namespace L2
open PySem PySem.Spec PyProof.Rows
noncomputable def ixN (n : Nat) (i : Int) : Option Nat:=if 0≤i then (if i < n then some i.toNat else none) else if -(n : Int)≤i then some (i + n).toNat else none
noncomputable def atI {α : Type} (xs : List α) (i : Int) : Option α:=(ixN xs.length i).bind fun j=>xs[j]?
theorem y3B {n : Nat} {i : Int} {j : Nat} (h : ixN n i=some j) : seqIndex? i n=some j∧j < n∧-(n : Int)≤i∧i < n:=by
  unfold ixN at h
  by_cases h0 : 0≤i
  · rw [if_pos h0] at h
    by_cases h1 : i < n
    · rw [if_pos h1] at h
      have e : i.toNat=j:=Option.some.inj h
      exact ⟨by rw [seqIndex_of h0 h1,e],by omega,by omega,h1⟩
    · rw [if_neg h1] at h; cases h
  · rw [if_neg h0] at h
    by_cases h1 : -(n : Int)≤i
    · rw [if_pos h1] at h
      have e : (i + n).toNat=j:=Option.some.inj h
      exact ⟨by rw [seqIndex_neg (by omega) h1,e],by omega,h1,by omega⟩
    · rw [if_neg h1] at h; cases h
theorem z9j {α : Type} {xs : List α} {i : Int} {v : α} (h : atI xs i=some v) : ∃ j,seqIndex? i xs.length=some j∧xs[j]? = some v∧j < xs.length∧-(xs.length : Int)≤i∧i < xs.length:=by
  unfold atI at h
  cases e : ixN xs.length i with
  | none=>rw [e] at h; cases h
  | some j=>
    rw [e] at h
    obtain ⟨h1,h2,h3,h4⟩:=y3B e
    exact ⟨j,h1,h,h2,h3,h4⟩
theorem z0u {α : Type} {xs : List α} {j : Nat} {v : α} (h : xs[j]? = some v) : atI xs (j : Int)=some v:=by
  have hj : j < xs.length:=(List.getElem?_eq_some_iff.mp h).1
  have e : ixN xs.length (j : Int)=some j:=by
    unfold ixN
    rw [if_pos (by omega),if_pos (by omega)]; simp
  unfold atI; rw [e]; exact h
noncomputable def y2K (b : Expr) : Prop:=∀ o i,subscripted b false o i=operate [o,i] (getItem o i)
noncomputable def IxR (X : Cx) (r : R2) : Prop:=
  ∀ (value slice : Expr) (pins : List (Addr × Obj)) (s : Shared) (σ : St) (H : Hp) (x y : V) (v u : Value) (Q : VK),Inv X pins σ H s->RelV x v->RelV y u->r x y H Q →
    subscripted slice false v u=operate [v,u] (getItem v u)->wpAny (model X.prog X.w) X.A (subscriptTail value slice v u) (EP X pins σ Q) X.xe s
noncomputable def MtR (X : Cx) (id : String) (r : V->List V->Hp->VK->Prop) : Prop:=
  ∀ (pins : List (Addr × Obj)) (s : Shared) (σ : St) (H : Hp) (x : V) (xs : List V) (v : Value) (us : List Value) (Q : VK),Inv X pins σ H s->RelV x v->Vals xs us->r x xs H Q →
    wpAny (model X.prog X.w) X.A (call (.builtin id) (v :: us)) (EP X pins σ Q) X.xe s
section
variable {X : Cx} {a b : Expr} {ta tb : TE} {pos : Pos}
theorem IxR.or {r r' : R2} (h : IxR X r) (h' : IxR X r') : IxR X (fun x y H Q=>r x y H Q∨r' x y H Q):=by
  intro value slice pins s σ H x y v u Q I rx ry q hs
  rcases q with q | q
  · exact h value slice pins s σ H x y v u Q I rx ry q hs
  · exact h' value slice pins s σ H x y v u Q I rx ry q hs
theorem pe_ix {r : R2} (hr : IxR X r) (ha : PE X a ta) (hb : PE X b tb) (hs : y2K b) : PE X (.Subscript a b pos) (tOp r ta tb):=by
  intro pins s σ H Q I h
  exact Subscript_ (binT ha hb I h fun v u s2 x y H2 I2 rx ry q=>hr a b pins s2 σ H2 x y v u Q I2 rx ry q (hs _ _))
noncomputable def rIxL (K : PySem.W.Frag) : R2:=fun x y H Q=>∃ p xs i v,x = .ref p∧y = .int i∧SqL K H p xs∧atI xs i=some v∧Q v H
noncomputable def rIxT (K : PySem.W.Frag) : R2:=fun x y H Q=>∃ p xs i v,x = .ref p∧y = .int i∧SqT K H p xs∧atI xs i=some v∧Q v H
noncomputable def rIxS : R2:=fun x y H Q=>∃ z i c,x = .str z∧y = .int i∧z.length≤sizeLine∧atI z.cps.toList i=some c∧Q (.str ⟨#[c]⟩) H
theorem ix_list : IxR X (rIxL X.K):=by
  intro value slice pins s σ H x y v u Q I rx ry h hs
  obtain ⟨p,xs,i,z,rfl,rfl,hq,he,q⟩:=h
  cases rx
  obtain ⟨t,rfl⟩:=ry
  obtain ⟨its,r,pl,hz⟩:=I.list hq
  obtain ⟨j,h1,h2,h3,h4,h5⟩:=z9j he
  obtain ⟨w,ew,rw'⟩:=r.get h2
  have hl:=r.length
  have hn:=z6O
  have fin : EP X pins σ Q w s:=⟨z,H,I,rw',q⟩
  by_cases h0 : 0≤i
  · have hj : i.toNat=j:=by
      rw [seqIndex_of h0 h5] at h1
      exact Option.some.inj h1
    exact item_listR pl.isList h0 (by omega) (by rw [hj]; simpa using ew) fin hs
  · have hj : (i + (its.toArray.size : Int)).toNat=j:=by
      rw [seqIndex_neg (by omega) h4] at h1
      rw [List.size_toArray,← hl]
      exact Option.some.inj h1
    exact subscriptTail_builtinR (x:=w) pl.isList.typeIs slot_list_getitem.lookup
      (wpAny_getItem_list_neg (Q:=fun r s'=>r=w∧EP X pins σ Q r s') pl.isList (by omega) (by rw [List.size_toArray] <;> omega) (by omega) (by rw [hj]; simpa using ew) ⟨rfl,fin⟩) hs
theorem ix_tup : IxR X (rIxT X.K):=by
  intro value slice pins s σ H x y v u Q I rx ry h hs
  obtain ⟨p,xs,i,z,rfl,rfl,hq,he,q⟩:=h
  cases rx
  obtain ⟨t,rfl⟩:=ry
  obtain ⟨its,r,pl,hz⟩:=I.tuple hq
  obtain ⟨j,h1,h2,h3,h4,h5⟩:=z9j he
  obtain ⟨w,ew,rw'⟩:=r.get h2
  have hl:=r.length
  have hn:=z6O
  have fin : EP X pins σ Q w s:=⟨z,H,I,rw',q⟩
  exact subscriptTail_builtinR (x:=w) pl.typeIs slot_tuple_getitem.lookup
    (getItem_tuple (j:=j) (Q:=fun r s'=>r=w∧EP X pins σ Q r s') pl (by omega) (by omega) (by rw [List.size_toArray,← hl]; exact h1) (by simpa using ew) ⟨rfl,fin⟩) hs
theorem ix_str : IxR X rIxS:=by
  intro value slice pins s σ H x y v u Q I rx ry h hs
  obtain ⟨z,i,c,rfl,rfl,hz,he,q⟩:=h
  obtain ⟨t,rfl⟩:=rx
  obtain ⟨t',rfl⟩:=ry
  obtain ⟨j,h1,h2,h3,h4,h5⟩:=z9j he
  have hl : z.cps.toList.length=z.length:=by simp [Str.length]
  rw [hl] at h1 h4 h5
  have hn:=z6O
  exact tail_any (typeIs_str s z t) slot_str_getitem.lookup (getItem_str (c:=c) (by
    have e1 : decide (i < -(2 ^ 63 : Int))=false:=decide_eq_false (by omega)
    have e2 : decide (i ≥ 2 ^ 63)=false:=decide_eq_false (by omega)
    rw [e1,e2,Bool.or_false]) (by rw [h1]; simpa using h2) ⟨.str ⟨#[c]⟩,H,I.tok _,⟨_,rfl⟩,q⟩) hs
noncomputable def rIx (K : PySem.W.Frag) : R2:=fun x y H Q=>rIxL K x y H Q∨rIxT K x y H Q∨rIxS x y H Q
theorem ix_seq : IxR X (rIx X.K):=ix_list.or (ix_tup.or ix_str)
theorem y1A (its : List Value) (n j : Nat) (u : Value) : Obj.mapSeq (·.setIfInBounds j u) { cls:=.type "list",data:=.seq its.toArray n } = { cls:=.type "list",data:=.seq (its.set j u).toArray n }:=by
  simp [Obj.mapSeq]
theorem Inv.lst {pins : List (Addr × Obj)} {σ : St} {H : Hp} {s : Shared} {p : Addr} {xs : List V} (I : Inv X pins σ H s) (h : H p=some (.lst xs)) :
    ∃ (its : List Value) (n : Nat),Vals xs its∧s.heap.get? p=some { cls:=.type "list",data:=.seq its.toArray n }∧xs.length≤sizeLine:=by
  obtain ⟨z,its,n,r,e⟩:=I.hok p _ h
  exact ⟨its,n,r,e,z⟩
theorem Inv.lstUpd {pins : List (Addr × Obj)} {σ : St} {H : Hp} {s : Shared} {p : Addr} {xs ys : List V} {its its' : List Value} {n n' : Nat} {f : Obj->Obj} (I : Inv X pins σ H s) (h : H p=some (.lst xs))
    (ho : s.heap.get? p=some { cls:=.type "list",data:=.seq its.toArray n }) (hf : f { cls:=.type "list",data:=.seq its.toArray n } = { cls:=.type "list",data:=.seq its'.toArray n' }) (r : Vals ys its') (hz : ys.length≤sizeLine) (t : Nat) :
    Inv X pins σ (upd H p (.lst ys)) { s with heap:=s.heap.update p f,toks:=t }:=by
  have e : (s.heap.update p f).get? p=some { cls:=.type "list",data:=.seq its'.toArray n' }:=by
    rw [Heap.get?_update_self f ho (by rw [hf] <;> rfl),hf]
  refine I.write (x:=p) (e:=p) (by rw [h]; trivial) (.inl rfl) (fun b u hb q=>(Heap.get?_update_other _ _ (Ne.symm hb)).trans q) ⟨_,e⟩ ?_
  exact ⟨hz,its',n',r,e⟩
noncomputable def rSetL : V->V->V->Hp->(Hp->Prop)->Prop:=fun o i v H Q=>∃ p xs k j,o = .ref p∧i = .int k∧H p=some (.lst xs)∧ixN xs.length k=some j∧Q (upd H p (.lst (xs.set j v)))
theorem y5o : PSet X rSetL:=by
  intro pins s σ H o i v ov iv u Q I ro ri rv h
  obtain ⟨p,xs,k,j,rfl,rfl,hp,hj,q⟩:=h
  cases ro
  obtain ⟨t,rfl⟩:=ri
  obtain ⟨its,n,r,ho,hz⟩:=I.lst hp
  obtain ⟨h1,h2,h3,h4⟩:=y3B hj
  have hl:=r.length
  have hn:=z6O
  have I' : Inv X pins σ (upd H p (.lst (xs.set j v))) { s with heap:=s.heap.update p (Obj.mapSeq (·.setIfInBounds j u)) }:=
    I.lstUpd hp ho (y1A its n j u) (r.set rv j) (by rw [List.length_set]; exact hz) s.toks
  by_cases h0 : 0≤k
  · have hk : k.toNat=j:=by
      rw [seqIndex_of h0 h4] at h1
      exact Option.some.inj h1
    exact PySem.W.ki_setAt ho h0 (by omega) (by rw [List.size_toArray,← hl]; exact h4) (by rw [hk]; exact ⟨_,I',q⟩)
  · have hk : (k + (its.toArray.size : Int)).toNat=j:=by
      rw [seqIndex_neg (by omega) h3] at h1
      rw [List.size_toArray,← hl]
      exact Option.some.inj h1
    exact PySem.W.ki_setBack ho (by omega) (by rw [List.size_toArray,← hl]; exact h3) (by omega) (by rw [hk]; exact ⟨_,I',q⟩)
theorem y6Z (i : Int) (n d : Nat) : max 0 (min (if i < 0 then i + (n : Int) else i) (n : Int))=((HT.sIx n d (some i) : Nat) : Int):=by
  show max 0 (min (if i < 0 then i + (n : Int) else i) (n : Int))=(((if i < 0 then (i + (n : Int)).toNat else min i.toNat n) : Nat) : Int)
  by_cases h : i < 0
  · simp only [h,if_true]; omega
  · simp only [h,if_false]; omega
theorem z8n (lo hi : Option Int) (n : Nat) : (sliceBounds lo hi none n).1=((HT.sIx n 0 lo : Nat) : Int)∧(sliceBounds lo hi none n).2.1=((HT.sIx n n hi : Nat) : Int)∧(sliceBounds lo hi none n).2.2=1:=by
  refine ⟨?_,?_,rfl⟩
  · cases lo with
    | none=>simp [sliceBounds,HT.sIx]
    | some i=>
      simp only [sliceBounds,Option.getD_none,show (1 : Int) > 0 by decide,if_true]
      exact y6Z i n 0
  · cases hi with
    | none=>simp [sliceBounds,HT.sIx]
    | some i=>
      simp only [sliceBounds,Option.getD_none,show (1 : Int) > 0 by decide,if_true]
      exact y6Z i n n
theorem z7o (its : List Value) (lo hi : Option Int) : slicePick its.toArray lo hi none=((its.drop (HT.sIx its.length 0 lo)).take (HT.sIx its.length its.length hi - HT.sIx its.length 0 lo)).toArray:=by
  obtain ⟨h1,h2,h3⟩:=z8n lo hi its.toArray.size
  unfold slicePick
  rw [h1,h2,h3]
  simp only [sliceRange_one,pick_run,List.size_toArray] <;> rfl
noncomputable def rSlL (K : PySem.W.Frag) : V->Option Int->Option Int->Hp->VK->Prop:=fun x lo hi H Q=>∃ a xs,x = .ref a∧SqL K H a xs∧∀ p,H p=none->Q (.ref p) (upd H p (.lst (y1H xs lo hi)))
theorem sl_list : SlR X (rSlL X.K):=by
  intro pins s σ H x v vl vu lo hi sl Q I rx hs pl pu h
  obtain ⟨a,xs,rfl,hx,q⟩:=h
  cases rx
  obtain ⟨its,r,ht,hz⟩:=I.list hx
  have hlen:=r.length
  refine ⟨"list",_,slot_list_getitem.lookup,ht.isList.typeIs,?_⟩
  refine wpAny_getItem_list_slice ht.isList hs pl pu .none (by simp) ?_ (by rw [List.size_toArray] <;> omega)
  rw [z7o,← hlen]
  refine ⟨.ref s.heap.objs.size,_,I.laid (t':=s.toks) (o:=.lst (y1H xs lo hi)) (fun b ob q=>Heap.get?_push_of_some _ q) (Nat.le_refl _) ?_,rfl,q _ (I.hok.fresh (Nat.le_refl _))⟩
  exact ⟨Nat.le_trans (z6s xs lo hi) hz,_,0,(r.drop (HT.sIx xs.length 0 lo)).take (HT.sIx xs.length xs.length hi - HT.sIx xs.length 0 lo),Heap.get?_push_size _ rfl⟩
theorem z8l : z3Y X (.type "list") (fun xs H Q=>∃ p ys,xs=[.ref p]∧(SqL X.K H p ys∨SqT X.K H p ys)∧∀ l,H l=none->Q (.ref l) (upd H l (.lst ys))):=by
  intro pins s σ H xs us Q I r h
  obtain ⟨p,ys,rfl,hq,q⟩:=h
  obtain ⟨u,rfl,rx⟩:=z6J r
  cases rx
  have fin : ∀ (its : List Value),Vals ys its->ys.length≤sizeLine->∀ (h' : Heap) (c' : Nat),(∀ b o',s.heap.get? b=some o'->h'.get? b=some o') →
      h'.get? s.heap.objs.size=some { cls:=.type "list",dict:=none,data:=.seq its.toArray c',slots:=#[] }->EP X pins σ Q (.ref s.heap.objs.size) { s with heap:=h' }:=fun its r' hz h' c' kp e=>
    ⟨.ref s.heap.objs.size,_,I.laid (t':=s.toks) kp (Nat.le_refl _) (show ObjOk X.prog X.w _ h' _ (.lst ys) from ⟨hz,its,c',r',e⟩),rfl,q _ (I.hok.fresh (Nat.le_refl _))⟩
  rcases hq with hq | hq
  · obtain ⟨its,r',pl,hz⟩:=I.list hq
    have hlen:=r'.length
    obtain ⟨o,ho,hc,n,hd⟩:=pl.isList
    exact call_list_seq p (.inl rfl) ho hc hd (fun h' c' kp e=>fin its r' hz h' c' kp e) (by simp only [List.size_toArray] <;> omega)
  · obtain ⟨its,r',pl,hz⟩:=I.tuple hq
    have hlen:=r'.length
    obtain ⟨o,ho,hc,n,hd⟩:=pl
    exact call_list_seq p (.inr rfl) ho hc hd (fun h' c' kp e=>fin its r' hz h' c' kp e) (by simp only [List.size_toArray] <;> omega)
theorem z7Q : z3Y X (.type "tuple") (fun xs H Q=>∃ p ys,xs=[.ref p]∧((SqL X.K H p ys∧∀ l,H l=none->Q (.ref l) (upd H l (.tup ys)))∨(SqT X.K H p ys∧Q (.ref p) H))):=by
  intro pins s σ H xs us Q I r h
  obtain ⟨p,ys,rfl,h⟩:=h
  obtain ⟨u,rfl,rx⟩:=z6J r
  cases rx
  rcases h with ⟨hq,q⟩ | ⟨hq,q⟩
  · obtain ⟨its,r',pl,hz⟩:=I.list hq
    have hlen:=r'.length
    refine call_tuple_list pl.isList (fun h' kp=>?_) (by simp only [List.size_toArray] <;> omega)
    have I1 : Inv X pins σ H { s with heap:=h' }:=I.kept (t':=s.toks) kp
    have I2 : Inv X pins σ (upd H h'.objs.size (.tup ys)) { s with heap:=h'.push { cls:=.type "tuple",data:=.seq its.toArray } }:=
      I1.laid (t':=s.toks) (fun b o e=>Heap.get?_push_of_some _ e) (Nat.le_refl _) (show ObjOk X.prog X.w _ _ _ (.tup ys) from ⟨hz,its,r',TupN.new _ _⟩)
    exact ⟨.ref h'.objs.size,_,I2,rfl,q _ (I1.hok.fresh (Nat.le_refl _))⟩
  · obtain ⟨its,r',pl,hz⟩:=I.tuple hq
    exact call_tuple_same pl ⟨.ref p,H,I,rfl,q⟩
noncomputable def tyV (K : PySem.W.Frag) (T : String) (x : V) (H : Hp) : Prop:=match x with
  | .str _=>T = "str"
  | .int _=>T = "int"
  | .ref p=>(T = "list" ∧ ∃ xs,SqL K H p xs)∨(T = "tuple" ∧ ∃ o,K.lookup p=some o∧o.cls = .type "tuple" ∧ o.dict=none) ∨
      (T = "dict" ∧ ((∃ kvs,H p=some (.dK kvs))∨∃ kvs,H p=some (.dT kvs)))∨(T = "set" ∧ ∃ S n,H p=some (.set S n))
  | _=>False
theorem tyV_is {pins : List (Addr × Obj)} {σ : St} {H : Hp} {s : Shared} {T : String} {x : V} {v : Value} (I : Inv X pins σ H s) (r : RelV x v) (ty : tyV X.K T x H) :
    s.TypeIs v T∧∀ a,v = .ref a->∃ ob,s.heap.get? a=some ob∧ob.dict=none:=by
  cases x with
  | str z=>
    obtain ⟨t,rfl⟩:=r
    cases (show T = "str" from ty)
    exact ⟨typeIs_str s z t,fun _ e=>nomatch e⟩
  | int i=>
    obtain ⟨t,rfl⟩:=r
    cases (show T = "int" from ty)
    exact ⟨typeIs_int s i t,fun _ e=>nomatch e⟩
  | ref p=>
    cases r
    rcases ty with ⟨rfl,xs,hq⟩ | ⟨rfl,o,hk,hc,hd⟩ | ⟨rfl,hk⟩ | ⟨rfl,S,n,hk⟩
    · obtain ⟨its,_,pl,_⟩:=I.list hq
      refine ⟨pl.isList.typeIs,fun a e=>?_⟩
      cases e
      obtain ⟨o,n,e,c,hd,_⟩:=pl
      exact ⟨o,e,hd⟩
    · refine ⟨⟨o,I.kIn p o hk,hc⟩,fun a e=>?_⟩
      cases e
      exact ⟨o,I.kIn _ o hk,hd⟩
    · have z : ∃ o,s.heap.get? p=some o∧o.ExactDict:=by
        rcases hk with ⟨kvs,hk⟩ | ⟨kvs,hk⟩
        · obtain ⟨_,_,_,_,o,_,_,e,ex,_⟩:=I.hok p _ hk
          exact ⟨o,e,ex⟩
        · obtain ⟨_,_,_,_,o,_,_,e,ex,_⟩:=I.hok p _ hk
          exact ⟨o,e,ex⟩
      obtain ⟨o,e,ex⟩:=z
      refine ⟨⟨o,e,ex.1⟩,fun a e2=>?_⟩
      cases e2
      exact ⟨o,e,ex.2.1⟩
    · obtain ⟨o,_,_,_,e,ex,_⟩:=I.hok p _ hk
      refine ⟨⟨o,e,ex.1⟩,fun a e2=>?_⟩
      cases e2
      exact ⟨o,e,ex.2.1⟩
  | _=>exact False.elim ty
noncomputable def tBM (K : PySem.W.Frag) (T : String) (r : V->List V->Hp->VK->Prop) (to : TE) (t : TA) : TE:=fun σ H Q=>to σ H fun x H1=>tyV K T x H1∧t σ H1 fun xs H2=>r x xs H2 Q
variable {o e : Expr} {es : List Expr} {to : TE} {t : TA} {name : Str} {apos cpos : Pos} {T id : String} {r : V->List V->Hp->VK->Prop}
theorem y4r (pa : PlainAttrs T) (slot : Slot T name id) (hty : typeOf (.builtin id)=pure (.type "method_descriptor")) (hm : MtR X id r) (ho : PE X o to) (ha : PA X (e :: es) t)
    (hbase : attributeBase o name X.env (eval o X.env)=eval o X.env:=by rfl)
    (hfew : ((backTo cpos (starEach (e :: es) X.env)).all (fun x=>!x.1) && (backToKw cpos (keywordEach [] X.env)).all (fun x=>x.1.isSome)
      && decide ((e :: es).length + ([] : List Keyword).length + (if ([] : List Keyword).isEmpty then 0 else 1) < 30))=true:=by rfl)
    (hline : (apos.endLine == cpos.line)=true:=by rfl) (hs : starEach (e :: es) X.env=(false,eval e X.env) :: starEach es X.env:=by rfl) (hplain : (backTo cpos (starEach es X.env)).any (·.1)=false:=by rfl) :
    PE X (.Call (.Attribute o name apos) (e :: es) [] cpos) (tBM X.K T r to t):=by
  intro pins s σ H Q I h
  refine wpAny_Call_method_late hbase hfew hline rfl (thn (ho pins s σ H _ I h) fun v s1 ⟨x,H1,I1,r1,ty,q1⟩=>?_)
  obtain ⟨h1,h2⟩:=tyV_is I1 r1 ty
  refine ⟨T,id,pa,slot,hty,h1,h2,?_⟩
  have hA:=ha cpos pins s1 σ H1 _ I1 q1
  rw [hs] at hA ⊢
  refine Calls.callWith_builtin (by show (false || (backTo cpos (starEach es X.env)).any (·.1))=false; rw [hplain] <;> rfl) (Calls.evalArgs_plain ?_)
  exact thn hA fun us s2 ⟨vs,H2,I2,r2,q2⟩=>hm pins s2 σ H2 x vs v us Q I2 r1 r2 q2
end
end L2
namespace L2
open PySem PySem.Spec PyProof.Rows
noncomputable def MtM (X : Cx) (id : String) (r : V->List V->Hp->VK->Prop) : Prop:=
  ∀ (pins : List (Addr × Obj)) (s : Shared) (σ : St) (H : Hp) (x : V) (xs : List V) (v : Value) (us : List Value) (Q : VK),Inv X pins σ H s->RelV x v->Vals xs us->r x xs H Q →
    wpAny (model X.prog X.w) X.A (call (.builtin id) (v :: us)) (EP X pins σ Q) X.xe s
theorem Vals.one : ∀ {x : V} {us : List Value},Vals [x] us->∃ u,us=[u]∧RelV x u:=fun h=>by
  cases h with | cons r h=>cases h; exact ⟨_,rfl,r⟩
theorem Vals.two : ∀ {x y : V} {us : List Value},Vals [x,y] us->∃ u v,us=[u,v]∧RelV x u∧RelV y v:=fun h=>by
  cases h with | cons r h=>obtain ⟨_,rfl,q⟩:=Vals.one h; exact ⟨_,_,rfl,r,q⟩
theorem Vals.rep {xs : List V} {us : List Value} (h : Vals xs us) : ∀ k : Nat,Vals (List.replicate k xs).flatten (List.replicate k us).flatten
  | 0=>.nil
  | k + 1=>by
    rw [List.replicate_succ,List.replicate_succ,List.flatten_cons,List.flatten_cons]
    exact Vals.append h (Vals.rep h k)
section
variable {X : Cx} {pins : List (Addr × Obj)} {σ : St} {H : Hp} {s : Shared} {l b : Addr} {xs ys zs : List V}
theorem Inv.lset {its its' : List Value} {n : Nat} {f : Array Value->Array Value} {t' : Nat} (I : Inv X pins σ H s) (hH : H l=some (.lst xs))
    (e : s.heap.get? l=some { cls:=.type "list",data:=.seq its.toArray n }) (hf : f its.toArray=its'.toArray) (hv : Vals ys its') (hz : ys.length≤sizeLine) :
    Inv X pins σ (upd H l (.lst ys)) { s with heap:=s.heap.update l (Obj.mapSeq f),toks:=t' }:=by
  have q:=PySem.IsL.update e f
  rw [hf] at q
  refine I.write (x:=l) (e:=l) (by rw [hH]; exact trivial) (.inl rfl) (fun b' u hb hu=>(Heap.get?_update_other s.heap (Obj.mapSeq f) (Ne.symm hb)).trans hu) ⟨_,q⟩ ?_
  exact ⟨hz,its',_,hv,q⟩
theorem Inv.lnew {its : List Value} {t' : Nat} (I : Inv X pins σ H s) (hv : Vals ys its) (hz : ys.length≤sizeLine) :
    Inv X pins σ (upd H s.heap.objs.size (.lst ys)) { s with heap:=s.heap.push { cls:=.type "list",data:=.seq its.toArray },toks:=t' }:=
  I.laid (fun _ _ q=>Heap.get?_push_of_some _ q) (Nat.le_refl _) ⟨hz,its,0,hv,Heap.get?_push_size _ rfl⟩
theorem Inv.fresh (I : Inv X pins σ H s) : H s.heap.objs.size=none:=I.hok.fresh (Nat.le_refl _)
theorem Inv.lstM (I : Inv X pins σ H s) (hH : H l=some (.lst xs)) : xs.length≤sizeLine∧∃ (its : List Value) (n : Nat),Vals xs its∧xs.length=its.length∧s.heap.get? l=some { cls:=.type "list",data:=.seq its.toArray n }:=by
  obtain ⟨z,its,n,r,e⟩:=I.hok l _ hH
  exact ⟨z,its,n,r,r.length,e⟩
theorem y4u {n : Nat} (h : n≤sizeLine) : Builtin.List.listTooLong n=false:=by
  unfold Builtin.List.listTooLong
  exact decide_eq_false (by omega)
end
section
variable {X : Cx}
noncomputable def z9M : V->List V->Hp->VK->Prop:=fun x vs H Q=>∃ l xs y,x = .ref l∧vs=[y]∧H l=some (.lst xs)∧xs.length < sizeLine∧Q .non (upd H l (.lst (xs ++ [y])))
theorem z2d : MtM X "list.append" z9M:=by
  intro pins s σ H x vs v us Q I rx rv h
  obtain ⟨l,xs,y,rfl,rfl,hH,hz,q⟩:=h
  cases rx
  obtain ⟨u,rfl,ru⟩:=rv.one
  obtain ⟨z,its,n,r,hl,e⟩:=I.lstM hH
  refine call_meets F.slot_list_append ⟨_,e,rfl⟩ F.entry_list_append (F.args_list_append_2 _ _) (PySem.list_append l its.toArray n u (by rw [List.size_toArray]; omega)) ⟨e,?_⟩
  refine ⟨.non,_,I.lset (its':=its ++ [u]) hH e (by simp) (r.append (.cons ru .nil)) ?_,rfl,q⟩
  rw [List.length_append,List.length_singleton]
  omega
noncomputable def rExtend : V->List V->Hp->VK->Prop:=fun x vs H Q=>∃ l b xs zs,x = .ref l∧vs=[.ref b]∧H l=some (.lst xs)∧H b=some (.lst zs)∧xs.length + zs.length≤sizeLine∧Q .non (upd H l (.lst (xs ++ zs)))
theorem y2D : MtM X "list.extend" rExtend:=by
  intro pins s σ H x vs v us Q I rx rv h
  obtain ⟨l,b,xs,zs,rfl,rfl,hH,hB,hz,q⟩:=h
  cases rx
  obtain ⟨u,rfl,ru⟩:=rv.one
  cases ru
  obtain ⟨z,its,n,r,hl,e⟩:=I.lstM hH
  obtain ⟨z2,its2,n2,r2,hl2,e2⟩:=I.lstM hB
  have hsz : its.toArray.size + its2.toArray.size≤sizeLine:=by rw [List.size_toArray,List.size_toArray]; omega
  have hlong : ¬ (!its.toArray.isEmpty && Builtin.List.listTooLong (its.toArray.size + its2.toArray.size))=true:=by
    rw [y4u hsz,Bool.and_false]
    exact Bool.false_ne_true
  refine call_meets F.slot_list_extend ⟨_,e,rfl⟩ F.entry_list_extend (F.args_list_extend_2 _ _)
    (AutoSeq1.list_extend_list_list_0 l its.toArray n b its2.toArray n2 hlong (by rw [List.size_toArray]; omega) (by omega)) ⟨e,e2,?_⟩
  refine ⟨.non,_,I.lset (its':=its ++ its2) hH e (by simp) (r.append r2) ?_,rfl,q⟩
  rw [List.length_append]
  omega
noncomputable def rCat : R2:=fun x y H Q=>∃ l b xs zs,x = .ref l∧y = .ref b∧H l=some (.lst xs)∧H b=some (.lst zs)∧xs.length + zs.length≤sizeLine∧∀ p,H p=none->Q (.ref p) (upd H p (.lst (xs ++ zs)))
theorem op_cat : OpR X (binaryOp .Add) rCat:=by
  intro pins s σ H x y v u Q I rx ry h
  obtain ⟨l,b,xs,zs,rfl,rfl,hH,hB,hz,q⟩:=h
  cases rx
  cases ry
  obtain ⟨z,its,n,r,hl,e⟩:=I.lstM hH
  obtain ⟨z2,its2,n2,r2,hl2,e2⟩:=I.lstM hB
  refine PySem.P.add_list e e2 ?_ (by rw [List.size_toArray,List.size_toArray]; omega)
  have ea : its.toArray ++ its2.toArray=(its ++ its2).toArray:=by simp
  rw [ea]
  exact ⟨.ref _,_,I.lnew (t':=s.toks) (r.append r2) (by rw [List.length_append]; omega),rfl,q _ I.fresh⟩
end
section
variable {prog : Program} {w : World} {A : Around} {E : Value->Shared->Prop} {s : Shared}
end
section
variable {X : Cx}
end
end L2
namespace Att
open PySem PySem.W PySem.Calls PyProof.Rows
theorem z6n {P : Params} {h : Heap} : ∀ (ns : List Int) (vs : List Value),WellAll P h vs (ns.map WData.int)->IntsAre vs ns:=by
  intro ns
  induction ns with
  | nil=>
    intro vs w
    rw [List.map_nil] at w
    cases w
    exact .nil
  | cons n ns ih=>
    intro vs w
    rw [List.map_cons] at w
    cases w with
    | cons a b=>
      cases a
      exact .cons _ _ (ih _ b)
theorem y3e {l : OpenLaw} {n : Nat} (hn : l.most=some n) {P : Params} {h : Heap} {args : List WData} {vals : List Value}
    (hpre : l.row.toRowW.claim.pre args=true) (hwl : WellAll P h vals args) :
    ∃ a vs ns,vals=[Value.ref a]∧args=[WData.list (ns.map WData.int)]∧h.get? a=some { cls:=.type "list",data:=.seq vs.toArray }∧IntsAre vs ns∧ns.length≤n:=by
  have hsh : WShape.hasAll [] args [.list .int]=true:=(pre_splitW hpre).1
  have hc : l.pre.holds [] { args:=args } = true:=(pre_splitW hpre).2
  obtain ⟨d,r,rfl,h1,h2⟩:=hasAllW_cons hsh
  obtain rfl:=hasAllW_nil h2
  obtain ⟨xs,rfl,h3⟩:=hasW_list h1
  obtain ⟨ns,rfl⟩:=items_int h3
  have hlen : ns.length≤n:=by
    unfold OpenLaw.pre at hc
    have h4 : (WTm.not (.lt (.lit (.int (n : Int))) (.len (.arg 0)))).holds [] { args:=[.list (ns.map .int)] } = true:=by
      have h4:=(holds_andW hc).1
      rw [hn] at h4
      exact h4
    have h5:=condW_of h4 (w_not (w_lt w_lit (w_len_list (w_arg rfl))))
    rw [List.length_map] at h5
    refine Nat.le_of_not_lt fun q=>?_
    have q' : (n : Int) < ((ns.length : Nat) : Int):=by omega
    first
      | (rw [decide_eq_true q'] at h5; exact absurd h5 (by decide))
      | (simp at h5; omega)
  cases hwl with
  | cons w1 w2=>
    cases w2
    cases w1 with
    | list ho hall=>exact ⟨_,_,ns,rfl,rfl,ho,z6n ns _ hall,hlen⟩
theorem y2y (l : OpenLaw) (args : List WData) : l.row.toRowW.claim.post args (.bool true) args=true:=
  postW_of (r:=l.row.toRowW) (X:=(true == true))
    (show WShape.has [] (.bool true) .bool=true by first | rfl | decide | simp [WShape.has,WShape.arms,WShape.armsAll])
    (show (WTm.eq .res (.lit (.bool true))).value [] { args:=args,res:=some (.bool true),after:=args } = some (.bool (true == true)) from w_eq_bool (w_res rfl) w_lit) rfl
theorem attach_call {l : OpenLaw} {n : Nat} {q : Program} {loose : List Str} {XP : (Str->Option Value)->Heap->Prop} {YP : World->Heap->Prop} {d : DefRec}
    (hn : l.most=some n) (hdf : d.params.defaults=[])
    (call : ∀ (w : World) (s₀ s₁ : Shared) (mg mb : Str->Option Value) (fa : Addr) (o : Obj) (pm cd doc : Value) (a : Addr) (vs : List Value) (ns : List Int),
      Ground q loose [] XP w s₀ mg mb s₁.heap->YP w s₁.heap →
      s₁.heap.get? fa=some o->o.data = .func (docDef d.name d.params d.body d.scope pm cd doc)->s₁.heap.CodeRec cd d.name->mg d.name=some (.ref fa) →
      s₁.heap.get? a=some { cls:=.type "list",data:=.seq vs.toArray }->IntsAre vs ns->ns.length≤n->s₁.gens = #[] →
      codeAny (model l.prog w) callerA (.call (.ref fa) ⟨[.ref a],[]⟩) (fun r s'=>r = .ok (.ret (.bool true))∧OldK s₁.heap s'.heap∧s'.os=s₁.os∧AllBare s'.gens) s₁) :
    WalkO q loose XP YP l.row.toRowW d [] (fun f vs=>PySem.call f vs):=by
  intro w s₀ s₁ mg mb G Y fa o pm cd doc dV kV ho hd hcd hD hmg hg args vals as hpre hlay hrd hwl hlo
  obtain rfl : dV = .none:=Dflts.none hD hdf
  obtain rfl : kV = .none:=Dflts.noKw hD
  obtain ⟨a,vs,ns,rfl,rfl,hobj,hints,hlen⟩:=y3e hn hpre hwl
  refine enter_call (codeAny_mono (call w s₀ s₁ mg mb fa o pm cd doc a vs ns G Y ho (fd_plain hd) hcd hmg hobj hints hlen hg) fun r s' hq=>?_)
  obtain ⟨rfl,h2,h3,h4⟩:=hq
  exact ⟨.inl ⟨.bool true,.bool true,[],rfl,fun _=>rfl,.bool true,y2y l _,fun _=>⟨List.Pairwise.nil,fun _ hm=>(nomatch hm)⟩⟩,h2,h3,h4⟩
section
variable {prog : Program} {w : World} {A : Around} {E : Value->Shared->Prop} {s : Shared} {K : Frag}
noncomputable def ledger (h : Heap) (L d : Addr) : List (Addr × Obj):=(List.range h.objs.size).filterMap fun a=>if a=L∨a=d then none else (h.get? a).map fun o=>(a,o)
end
end Att
namespace L2
open PySem PySem.Spec PyProof.Rows
theorem z8u : ∀ {vs : List Value} {ns : List Int},IntsAre vs ns->Vals (ns.map V.int) vs
  | _,_,.nil=>.nil
  | _,_,.cons n t h=>.cons ⟨t,rfl⟩ (z8u h)
noncomputable def Only (H : Hp) : Prop:=∀ b,H b=none∨∃ o xs,H b=some (.frz o (.lst xs))
theorem y5U {P : Program} {w : World} {K : PySem.W.Frag} {mg mb : Str->Option Value} {CX : CXT} {k : Nat} {fa a : Addr} {fd : FuncData} {x : Str} {sp : Sp} {s₁ : Shared} {vs : List Value} {ns : List Int}
    (KX : K.In s₁.heap) (hns : s₁.heap.Ns mainGlobals mg) (hb : s₁.heap.Ns builtinsNs mb) (hbb : ∀ x : Str,x ≠ "__name__" → mb x=bootBuiltins x) (hlim : s₁.heap.NoLimit) (hg : s₁.gens = #[])
    (ha : s₁.heap.get? a=some { cls:=.type "list",data:=.seq vs.toArray }) (hi : IntsAre vs ns) (hl : ns.length≤sizeLine) (hr : Room k callerA)
    (F : ∀ base : Heap,K.In base->base.Ns mainGlobals mg->FnOk P w K mg base CX k fa fd [x] sp) (hbind : ∀ (s : Shared) (u : Value),BindsTo s fd ⟨[u],[]⟩ [(x,u)])
    (hsp : ∀ H : Hp,Only H->SqL K H a (ns.map V.int)->sp [.ref a] H (fun v _=>v = .bl true) fun _ _ _=>False)
    (hCX : ∀ H e s',CX [] H s₁ (fun _ _ _=>False) e s'->False) :
    codeAny (model P w) callerA (.call (.ref fa) ⟨[.ref a],[]⟩) (fun r s'=>r = .ok (.ret (.bool true))∧OldK s₁.heap s'.heap∧s'.os=s₁.os∧AllBare s'.gens) s₁:=by
  have rv:=z8u hi
  have lenV:=hi.length
  have core : ∀ H : Hp,Only H->SqL K H a (ns.map V.int)->HOk P w H s₁.heap->(∀ b,H b≠none->b=a)->(H a≠none->K.lookup a=none) →
      codeAny (model P w) callerA (.call (.ref fa) ⟨[.ref a],[]⟩) (fun r s'=>r = .ok (.ret (.bool true))∧OldK s₁.heap s'.heap∧s'.os=s₁.os∧AllBare s'.gens) s₁:=by
    intro H hO hS hok hA hK
    have base_of : ∀ {b : Addr} {o : Obj},s₁.heap.get? b=some o->H b=none->(y5S s₁.heap H).get? b=some o:=fun e n=>y6e e n
    have noA : ∀ {b : Addr} {o : Obj} {es : Array DictEntry} {ep : Nat},s₁.heap.get? b=some o->o.data = .dict es ep->H b=none:=fun {b o es ep} e d=>by
      cases q : H b with
      | none=>rfl
      | some u=>
        have e' : b=a:=hA b (by rw [q]; simp)
        subst e'
        rw [ha] at e; cases e
        have d' : Data.seq vs.toArray _=Data.dict es ep:=d
        cases d'
    have nsK : ∀ {b : Addr} {m : Str->Option Value},s₁.heap.Ns b m->(y5S s₁.heap H).Ns b m:=fun {b m} ⟨o,es,ep,e,d,r⟩=>⟨o,es,ep,base_of e (noA e d),d,r⟩
    have hKb : K.In (y5S s₁.heap H):=fun b o e=>base_of (KX b o e) (by
      cases q : H b with
      | none=>rfl
      | some u=>
        have e' : b=a:=hA b (by rw [q]; simp)
        subst e'
        rw [hK (by rw [q]; simp)] at e; cases e)
    have hM : Mod K mg (y5S s₁.heap H):=⟨hKb,nsK hns,⟨mb,nsK hb,hbb⟩,let ⟨mc,h1,h2⟩:=hlim; ⟨mc,nsK h1,h2⟩⟩
    have e0 : Env0 P w K mg (y5S s₁.heap H) callerA [] s₁ H:=⟨rfl,hM,fun b o e=>of_hidT e,Nat.le_of_eq (y4c _ _),trivial,fun b hb=>absurd (show b∈([] : List Addr) from hb) (by simp),hok,.of_eq hg⟩
    refine codeAny_mono ((F _ hKb (nsK hns)).run callerA [] s₁ H ⟨[.ref a],[]⟩ [.ref a] [.ref a] _ _ hr e0 (hbind s₁ (.ref a)) (.cons rfl .nil) (hsp H hO hS)) fun r s' h=>?_
    cases r with
    | error e=>exact (hCX H e s' h).elim
    | ok fl=>
      cases fl with
      | next=>exact False.elim h
      | brk=>exact False.elim h
      | cont=>exact False.elim h
      | ret u=>
        obtain ⟨v,H',os,bare,un,hok',r',q⟩:=h
        have q' : v = .bl true:=q
        subst q'
        obtain rfl : u=Value.bool true:=r'
        refine ⟨rfl,OldK.of_keep fun b o e=>?_,os,bare⟩
        cases q : H b with
        | none=>exact un.keep b o e q (by intro z; exact absurd (show b∈([] : List Addr) from z) (by simp)) (by simp)
        | some u=>
          rcases hO b with z | ⟨ob,xs,z⟩
          · rw [q] at z; cases z
          · have z2:=un.frzs b ob _ z
            obtain ⟨e1,_⟩:=hok b _ z
            obtain ⟨e2,_⟩:=hok' b _ z2
            rw [e] at e1; cases e1
            exact e2
  cases hk : K.lookup a with
  | some o=>
    have e:=KX a o hk
    rw [ha] at e
    cases e
    refine core (fun _=>none) (fun _=>.inl rfl) (.inr ⟨_,vs.toArray,_,hk,rfl,rfl,rfl,by rw [List.size_toArray,lenV]; exact hl,by simpa using rv⟩) (fun b u z=>by have z' : (none : Option HO)=some u:=z; cases z') (fun b z=>absurd rfl z) fun z=>absurd rfl z
  | none=>
    refine core (fun b=>if b=a then some (.frz { cls:=.type "list",data:=.seq vs.toArray } (.lst (ns.map V.int))) else none) (fun b=>?_) (.inl (.inr ⟨{ cls:=.type "list",data:=.seq vs.toArray },if_pos rfl⟩)) (fun b u z=>?_) (fun b z=>?_) fun _=>hk
    · by_cases hb : b=a
      · exact .inr ⟨_,_,if_pos hb⟩
      · exact .inl (if_neg hb)
    · by_cases hb : b=a
      · have z':=(if_pos hb).symm.trans z
        cases z'
        subst hb
        exact ⟨ha,by rw [List.length_map]; exact hl,vs,_,rv,ha⟩
      · have z':=(if_neg hb).symm.trans z
        cases z'
    · by_cases hb : b=a
      · exact hb
      · exact absurd (if_neg hb) z
end L2
namespace L2
open PySem PySem.Spec PyProof.Rows
noncomputable abbrev KOf {K : PySem.W.Frag} {h : Heap} (_ : K.In h) : PySem.W.Frag:=K
theorem walk_of {l : PySem.W.OpenLaw} {n k : Nat} {q : Program} {loose : List Str} {XP : (Str->Option Value)->Heap->Prop} {YP : World->Heap->Prop} {d : DefRec} {K : Params->PySem.W.Frag} {CX : World->CXT} {sp : World->Sp} {x : Str}
    (hn : l.most=some n) (hn2 : n≤sizeLine) (hdf : d.params.defaults=[]) (hr : Room k callerA)
    (hY : ∀ (w : World) (h : Heap),YP w h->(K w.params).In h)
    (F : ∀ (w : World) (mg : Str->Option Value) (fa : Addr) (h : Heap),(K w.params).In h->h.Ns mainGlobals mg->mg d.name=some (.ref fa) →
      ∃ fd : FuncData,(∀ (s : Shared) (u : Value),BindsTo s fd ⟨[u],[]⟩ [(x,u)]) ∧
        ∀ base : Heap,(K w.params).In base->base.Ns mainGlobals mg->FnOk l.prog w (K w.params) mg base (CX w) k fa fd [x] (sp w))
    (hsp : ∀ (w : World) (H : Hp) (a : Addr) (ns : List Int),ns.length≤n->Only H->SqL (K w.params) H a (ns.map V.int)->sp w [.ref a] H (fun v _=>v = .bl true) fun _ _ _=>False)
    (hCX : ∀ (w : World) (H : Hp) (s : Shared) (e : Value) (s' : Shared),CX w [] H s (fun _ _ _=>False) e s'->False) :
    PySem.W.WalkO q loose XP YP l.row.toRowW d [] (fun f vs=>PySem.call f vs):=by
  refine Att.attach_call hn hdf fun w s₀ s₁ mg mb fa o pm cd doc a vs ns G Y ho hd hcd hmg hobj hints hlen hg=>?_
  have KX:=hY w _ Y
  obtain ⟨fd,hb,hF⟩:=F w mg fa _ KX G.T.g hmg
  exact y5U KX G.T.g G.T.b G.T.builtins G.T.nolimit hg hobj hints (Nat.le_trans hlen hn2) hr hF hb (fun H hO hS=>hsp w H a ns hlen hO hS) fun H e s'=>hCX w H s₁ e s'
end L2
namespace L2
open PySem PySem.Spec PyProof.Rows
noncomputable def z0s (s : Stmt) : Arguments:=match s with
  | .FunctionDef _ a _ _ _ _ _ _ _ _=>a
  | _=>{ posonlyargs:=[],args:=[],vararg:=none,kwonlyargs:=[],kw_defaults:=[],kwarg:=none,defaults:=[] }
noncomputable def z0l (s : Stmt) : List Stmt:=match s with
  | .FunctionDef _ _ b _ _ _ _ _ _ _=>b
  | _=>[]
noncomputable def z0b (s : Stmt) : Scope:=match s with
  | .FunctionDef _ _ _ _ _ _ sc _ _ _=>sc
  | _=>{ kind:=.function,names:=[],isGenerator:=false,isCoroutine:=false }
noncomputable abbrev CX0 : CXT:=fun _ _ _ _ _ _=>False
noncomputable abbrev E0 : XK:=fun _ _ _=>False
theorem pass0 {X : Cx} : y2w CX0 X E0:=fun _ _ _ _ _ _ _ h=>h.elim
structure Fun (K : PySem.W.Frag) (x qual : Str) (st : Stmt) (f : Addr) (fd : FuncData) : Prop where
  ex : ∃ (oc : Value) (od : Option Addr) (kV doc pm : Value) (an : Option Addr) (cdv ct : Value) (osl : Array (Option Value)),
    fd=PySem.W.fnOf x qual (z0s st) (z0l st) (z0b st) .none kV doc pm an cdv ct∧K.lookup f=some ⟨oc,od,.func fd,osl⟩∧PySem.W.codeIn K cdv qual=true
  kp : PySem.W.keepIn K (.ref f)=true
section
variable {P : Program} {w : World} {K : PySem.W.Frag} {mg : Str->Option Value} {base : Heap}
theorem Fun.ok {x qual : Str} {st : Stmt} {f : Addr} {fd : FuncData} {N ps : List Str} {k : Nat} {sp : Sp} (F : Fun K x qual st f fd) (S : FnScope N ps (z0b st)) (len : ∀ vs H Q E,sp vs H Q E->vs.length=ps.length)
    (hbody : ∀ (cdv : Value) (A : Around) (outer : List Env) (s : Shared) (H : Hp) (vs : List V) (Q : VK) (E : XK),Room k (A.deeper (envOfC qual (z0b st) s.heap.objs.size f cdv))->sp vs H Q E →
      ∃ t,PSs (z9b CX0 P w K mg base N qual (z0b st) f cdv A outer s H E).nox (z0l st) t∧t { nx:=fun _ H'=>Q .non H',rt:=Q } (z6t N vs) H) : FnOk P w K mg base CX0 (k + 1) f fd ps sp:=by
  obtain ⟨oc,od,kV,doc,pm,an,cdv,ct,osl,rfl,lk,hcd⟩:=F.ex
  refine fn_of lk hcd S len fun A outer s H vs Q E hr hsp=>?_
  obtain ⟨t,h,q⟩:=hbody cdv A outer s H vs Q E hr hsp
  exact ⟨t,h.nox,q⟩
theorem Fun.binds {x qual : Str} {st : Stmt} {f : Addr} {fd : FuncData} {ps : List Str} (F : Fun K x qual st f fd)
    (h : ∀ (kV doc pm : Value) (an : Option Addr) (cdv ct : Value) (us : List Value),us.length=ps.length->bindArgs (PySem.W.fnOf x qual (z0s st) (z0l st) (z0b st) .none kV doc pm an cdv ct) ⟨us,[]⟩=pure (ps.zip us)) : Binds K fd ps []:=by
  obtain ⟨oc,od,kV,doc,pm,an,cdv,ct,osl,rfl,lk,hcd⟩:=F.ex
  exact .all (h kV doc pm an cdv ct)
theorem z0J {x qual : Str} {st : Stmt} {f : Addr} {oc : Value} {od an : Option Addr} {osl : Array (Option Value)} {kV doc pm cdv ct : Value} (l : K.lookup f=some ⟨oc,od,.func (PySem.W.fnOf x qual (z0s st) (z0l st) (z0b st) .none kV doc pm an cdv ct),osl⟩)
    (c : PySem.W.codeIn K cdv qual=true) (k : PySem.W.keepIn K (.ref f)=true) : Fun K x qual st f (PySem.W.fnOf x qual (z0s st) (z0l st) (z0b st) .none kV doc pm an cdv ct):=⟨⟨oc,od,kV,doc,pm,an,cdv,ct,osl,rfl,l,c⟩,k⟩
end
theorem z6d {n : Nat} (h : n≤1000) : n < sizeLine:=Nat.lt_of_le_of_lt h (by decide)
section
variable {X : Cx}
theorem pv (i : Nat) {x : Str} {pos : Pos} (hN : X.N[i]? = some x:=by rfl) (hv : Vis X.env.scope x:=by first | exact Or.inl rfl | exact Or.inr (Or.inl rfl) | exact Or.inr (Or.inr rfl)) (hd : (x == ("__debug__" : Str))=false:=by decide)
    (hcd : (x == ("__classdict__" : Str))=false:=by decide) : PE X (.Name x pos) (y1y i):=pe_var hN hv hd hcd
end
theorem iteF {A B : Prop} (h : B) : if false=true then A else B:=by
  rw [if_neg Bool.false_ne_true]
  exact h
theorem iteT {A B : Prop} (h : A) : if true=true then A else B:=by
  rw [if_pos rfl]
  exact h
noncomputable def Same (H H' : Hp) : Prop:=∀ b o,H b=some o->H' b=some o
theorem Same.refl (H : Hp) : Same H H:=fun _ _ h=>h
theorem Same.trans {H H1 H2 : Hp} (a : Same H H1) (b : Same H1 H2) : Same H H2:=fun c o h=>b c o (a c o h)
theorem Same.free {H H' : Hp} (e : Same H H') {l : Addr} (h : H' l=Option.none) : H l=Option.none:=by
  cases q : H l with
  | none=>rfl
  | some o=>
    rw [e l o q] at h
    cases h
end L2
namespace L2
open PySem PySem.Spec PyProof.Rows
section
variable {κ : Type} [DecidableEq κ]
noncomputable def z9Q (kvs : List (κ × V)) (k : κ) : Option V:=(kvs.find? fun kv=>decide (kv.1=k)).map (·.2)
noncomputable def z5w (kvs : List (κ × V)) (k : κ) (v : V) : List (κ × V):=
  if (kvs.any fun kv=>decide (kv.1=k))=true then kvs.map (fun kv=>if kv.1=k then (kv.1,v) else kv) else kvs ++ [(k,v)]
theorem z5E {p : κ × V} {r : List (κ × V)} {k : κ} (e : p.1=k) : z9Q (p :: r) k=some p.2:=by simp [z9Q,List.find?_cons,e]
theorem z5F {p : κ × V} {r : List (κ × V)} {k : κ} (e : ¬ p.1=k) : z9Q (p :: r) k=z9Q r k:=by simp [z9Q,List.find?_cons,e]
theorem z8e (k : κ) : ∀ kvs : List (κ × V),(kvs.any fun kv=>decide (kv.1=k))=(z9Q kvs k).isSome
  | []=>rfl
  | p :: r=>by
    rw [List.any_cons]
    by_cases e : p.1=k
    · simp only [z5E e,decide_eq_true e,Bool.true_or,Option.isSome_some]
    · rw [z5F e,decide_eq_false e,Bool.false_or]; exact z8e k r
theorem z4q (kvs : List (κ × V)) (k : κ) (v : V) : (z5w kvs k v).length≤kvs.length + 1:=by
  unfold z5w
  split
  · rw [List.length_map]; omega
  · rw [List.length_append,List.length_cons,List.length_nil]; omega
theorem RelO.isSome_eq {o : Option V} {u : Option Value} (r : RelO o u) : o.isSome=u.isSome:=by
  cases o with
  | none=>cases u with
    | none=>rfl
    | some _=>exact (show False from r).elim
  | some _=>cases u with
    | none=>exact (show False from r).elim
    | some _=>rfl
theorem KV.val {kvs : List (κ × V)} {vs : List (κ × Value)} (r : KV kvs vs) (k : κ) : RelO (z9Q kvs k) (valueAt vs k):=by
  unfold KV at r
  induction r with
  | nil=>exact True.intro
  | @cons p q ps qs h t ih=>
    obtain ⟨h1,h2⟩:=h
    by_cases e : p.1=k
    · have e' : q.1=k:=h1.symm.trans e
      have b : valueAt (q :: qs) k=some q.2:=by simp [valueAt,List.find?_cons,e']
      rw [z5E e,b]; exact h2
    · have e' : ¬ q.1=k:=fun z=>e (h1.trans z)
      have b : valueAt (q :: qs) k=valueAt qs k:=by simp [valueAt,List.find?_cons,e']
      rw [z5F e,b]; exact ih
theorem KV.any {kvs : List (κ × V)} {vs : List (κ × Value)} (r : KV kvs vs) (k : κ) : (kvs.any fun kv=>decide (kv.1=k))=vs.any fun kv=>decide (kv.1=k):=by
  unfold KV at r
  induction r with
  | nil=>rfl
  | cons h t ih=>rw [List.any_cons,List.any_cons,ih,h.1]
theorem KV.repl {kvs : List (κ × V)} {vs : List (κ × Value)} (r : KV kvs vs) (k : κ) {y : V} {u : Value} (ry : RelV y u) :
    KV (kvs.map fun kv=>if kv.1=k then (kv.1,y) else kv) (vs.map fun kv=>if kv.1=k then (kv.1,u) else kv):=by
  unfold KV at r ⊢
  induction r with
  | nil=>exact .nil
  | @cons p q ps qs h t ih=>
    rw [List.map_cons,List.map_cons]
    refine .cons ?_ ih
    obtain ⟨h1,h2⟩:=h
    by_cases e : p.1=k
    · rw [if_pos e,if_pos (h1.symm.trans e)]; exact ⟨h1,ry⟩
    · rw [if_neg e,if_neg (fun z=>e (h1.trans z))]; exact ⟨h1,h2⟩
theorem KV.put {kvs : List (κ × V)} {vs : List (κ × Value)} (r : KV kvs vs) (k : κ) {y : V} {u : Value} (ry : RelV y u) : KV (z5w kvs k y) (stored vs k u):=by
  unfold z5w stored
  rw [r.any k]
  by_cases e : (vs.any fun kv=>decide (kv.1=k))=true
  · rw [if_pos e,if_pos e]; exact r.repl k ry
  · rw [if_neg e,if_neg e]; exact Paired.snoc r ⟨rfl,ry⟩
theorem KV.length {kvs : List (κ × V)} {vs : List (κ × Value)} (r : KV kvs vs) : kvs.length=vs.length:=Paired.length r
end
theorem y1F {P : Program} {w : World} {k : Key} {u : Value} (r : RelV (kV k) u) : (z1w P w).is k u=true:=by
  cases k with
  | inl i=>obtain ⟨t,e⟩:=(show ∃ t,u=Value.int i t from r); subst e; exact z9R P w i t
  | inr x=>obtain ⟨t,e⟩:=(show ∃ t,u=Value.str x t from r); subst e; exact z9S P w x t
theorem z8r {P : Program} {w : World} : ∀ {ks : List Key} {us : List Value},Vals (ks.map kV) us->ItemsAre (z1w P w) ks us
  | [],_,r=>by rw [List.map_nil] at r; cases r; exact .nil
  | k :: ks,_,r=>by
    rw [List.map_cons] at r
    cases r with
    | cons h t=>exact .cons (y1F h) (z8r t)
noncomputable abbrev KT (H : Hp) : List (List Key × V)->List (List Key × Addr × Value)->Prop:=Paired fun p q=>p.1=q.1∧H q.2.1=some (.tup (p.1.map kV))∧RelV p.2 q.2.2
theorem KT.val {H : Hp} {kvs : List (List Key × V)} {xs : List (List Key × Addr × Value)} (r : KT H kvs xs) (k : List Key) : RelO (z9Q kvs k) ((atKey xs k).map (·.2)):=by
  induction r with
  | nil=>exact True.intro
  | @cons p q ps qs h t ih=>
    obtain ⟨h1,_,h2⟩:=h
    by_cases e : p.1=k
    · have e' : q.1=k:=h1.symm.trans e
      have b : atKey (q :: qs) k=some q.2:=by simp [atKey,List.find?_cons,e']
      rw [z5E e,b]; exact h2
    · have e' : ¬ q.1=k:=fun z=>e (h1.trans z)
      have b : atKey (q :: qs) k=atKey qs k:=by simp [atKey,List.find?_cons,e']
      rw [z5F e,b]; exact ih
theorem KT.repl {H : Hp} {kvs : List (List Key × V)} {xs : List (List Key × Addr × Value)} (r : KT H kvs xs) (k : List Key) {y : V} {u : Value} (ry : RelV y u) :
    KT H (kvs.map fun kv=>if kv.1=k then (kv.1,y) else kv) (xs.map (putAt k u)):=by
  induction r with
  | nil=>exact .nil
  | @cons p q ps qs h t ih=>
    rw [List.map_cons,List.map_cons]
    refine .cons ?_ ih
    obtain ⟨h1,h2,h3⟩:=h
    unfold putAt
    by_cases e : p.1=k
    · rw [if_pos e,if_pos (h1.symm.trans e)]; exact ⟨h1,h2,ry⟩
    · rw [if_neg e,if_neg (fun z=>e (h1.trans z))]; exact ⟨h1,h2,h3⟩
theorem KT.put {H : Hp} {kvs : List (List Key × V)} {xs : List (List Key × Addr × Value)} (r : KT H kvs xs) (k : List Key) {b : Addr} {y : V} {u : Value} (hb : H b=some (.tup (k.map kV))) (ry : RelV y u) :
    KT H (z5w kvs k y) (storedH xs k b u):=by
  have e : (kvs.any fun kv=>decide (kv.1=k))=(atKey xs k).isSome:=by
    rw [z8e,(r.val k).isSome_eq,Option.isSome_map]
  unfold z5w storedH
  rw [e]
  by_cases q : (atKey xs k).isSome=true
  · rw [if_pos q,if_pos q]; exact r.repl k ry
  · rw [if_neg q,if_neg q]; exact Paired.snoc r ⟨rfl,hb,ry⟩
theorem KT.keeps {H H' : Hp} {kvs : List (List Key × V)} {xs : List (List Key × Addr × Value)} (r : KT H kvs xs) (ht : ∀ b ys,H b=some (.tup ys)->H' b=some (.tup ys)) : KT H' kvs xs:=
  Paired.mapP r fun _ _ z=>⟨z.1,ht _ _ z.2.1,z.2.2⟩
section
variable {P : Program} {w : World} {H : Hp} {h : Heap} {a : Addr}
theorem rd_of {u : HO} (ok : HOk P w H h) (e : Rd H a u) : ObjOk P w H h a u:=e.ok ok
theorem y2s {kvs : List (Key × V)} (ok : HOk P w H h) (e : Rd H a (.dK kvs)) : kvs.length≤sizeLine∧(a == sysModules)=false∧∃ vs,KV kvs vs∧h.DictOf (z1w P w) a vs:=
  show ObjOk P w H h a (.dK kvs) from rd_of ok e
theorem dk_of {kvs : List (Key × V)} (ok : HOk P w H h) (e : H a=some (.dK kvs)) : kvs.length≤sizeLine∧(a == sysModules)=false∧∃ vs,KV kvs vs∧h.DictOf (z1w P w) a vs:=y2s ok (.inl e)
theorem z8O {ks : List Key} (ok : HOk P w H h) (e : H a=some (.tup (ks.map kV))) : (tupleKind (z1w P w)).is h ks a:=by
  obtain ⟨_,its,r,o,h1,h2,n,h3⟩:=(show ObjOk P w H h a (.tup (ks.map kV)) from ok a _ e)
  exact ⟨o,its.toArray,n,h1,h2.1,h3,by simpa using z8r r⟩
theorem y3A {kvs : List (List Key × V)} (ok : HOk P w H h) (e : Rd H a (.dT kvs)) : kvs.length≤sizeLine∧(a == sysModules)=false ∧
    ∃ xs,KT H kvs xs∧h.DictOfH (tupleKind (z1w P w)) a xs:=by
  obtain ⟨z,y,xs,r,o,es,ep,h1,h2,h3,h4,h5⟩:=(show ObjOk P w H h a (.dT kvs) from rd_of ok e)
  refine ⟨z,y,xs,r,o,es,ep,h1,h2,h3,h4,fun x hx=>?_,h5⟩
  have all : ∀ {l : List (List Key × V)} {m : List (List Key × Addr × Value)},KT H l m->∀ x∈m,(tupleKind (z1w P w)).is h x.1 x.2.1:=by
    intro l m q
    induction q with
    | nil=>intro x hx; exact nomatch hx
    | @cons p q ps qs hq t ih=>
      intro x hx
      rcases List.mem_cons.mp hx with e | hx
      · subst e
        exact z8O ok (by rw [← hq.1]; exact hq.2.1)
      · exact ih x hx
  exact all r x hx
theorem dt_of {kvs : List (List Key × V)} (ok : HOk P w H h) (e : H a=some (.dT kvs)) : kvs.length≤sizeLine∧(a == sysModules)=false ∧
    ∃ xs,KT H kvs xs∧h.DictOfH (tupleKind (z1w P w)) a xs:=y3A ok (.inl e)
end
noncomputable def DGet (H : Hp) (a : Addr) (y : V) (r : Option V) : Prop:=
  (∃ kvs k,Rd H a (.dK kvs)∧y=kV k∧r=z9Q kvs k)∨∃ kvs k b,Rd H a (.dT kvs)∧y = .ref b∧H b=some (.tup (k.map kV))∧r=z9Q kvs k
noncomputable def DPut (H : Hp) (a : Addr) (y v : V) (H' : Hp) : Prop:=
  (∃ kvs k,H a=some (.dK kvs)∧y=kV k∧kvs.length < sizeLine∧H'=upd H a (.dK (z5w kvs k v))) ∨
  ∃ kvs k b,H a=some (.dT kvs)∧y = .ref b∧H b=some (.tup (k.map kV))∧kvs.length < sizeLine∧H'=upd H a (.dT (z5w kvs k v))
theorem DGet.k {H : Hp} {a : Addr} {kvs : List (Key × V)} {k : Key} (e : H a=some (.dK kvs)) : DGet H a (kV k) (z9Q kvs k):=.inl ⟨kvs,k,.inl e,rfl,rfl⟩
theorem DPut.k {H : Hp} {a : Addr} {kvs : List (Key × V)} {k : Key} {v : V} (e : H a=some (.dK kvs)) (hl : kvs.length < sizeLine) : DPut H a (kV k) v (upd H a (.dK (z5w kvs k v))):=.inl ⟨kvs,k,e,rfl,hl,rfl⟩
section
variable {X : Cx} {pins : List (Addr × Obj)} {σ : St} {H : Hp} {s : Shared} {a : Addr} {y v : V} {u r : Value} {o : Option V} {A : Around} {E : Value->Shared->Prop}
theorem Inv.big (I : Inv X pins σ H s) : sysModules < s.heap.objs.size:=by
  have h : mainGlobals < s.heap.objs.size:=(I.mod.glob.keeps I.bk).lt
  exact Nat.lt_trans (by decide) h
theorem y4l {Q : Value->Shared->Prop} (hu : A.units + 1 < cLine) (I : Inv X pins σ H s) (g : DGet H a y (some v)) (ry : RelV y u) (h : ∀ w' s',Inv X pins σ H s'->RelV v w'->Q w' s') :
    wpAny (model X.prog X.w) A (getItem (.ref a) u) Q E s:=by
  rcases g with ⟨kvs,k,e,ey,l⟩ | ⟨kvs,k,b,e,ey,eb,l⟩
  · subst ey
    obtain ⟨z,hd,vs,rel,dd⟩:=y2s I.hok e
    obtain ⟨w',hw,rw'⟩:=RelO.some_of (v:=v) (o:=valueAt vs k) (by rw [l]; exact rel.val k)
    exact wpAny_getItem_of (y1F ry) dd.mapOf hw (h w' _ (I.tok _) rw')
  · subst ey
    cases (show u=Value.ref b from ry)
    obtain ⟨z,hd,xs,rel,dd⟩:=y3A I.hok e
    obtain ⟨w',hw,rw'⟩:=RelO.some_of (v:=v) (o:=(atKey xs k).map (·.2)) (by rw [l]; exact rel.val k)
    obtain ⟨p,hp,hp2⟩:=Option.map_eq_some_iff.mp hw
    refine wpAny_getItem_heap (tupleKind_room_in1 hu) (z8O I.hok eb) dd hp ?_
    rw [hp2]
    exact h w' _ (I.tok _) rw'
theorem d_in {Q : Value->Shared->Prop} (hu : A.units + 1 < cLine) (I : Inv X pins σ H s) (g : DGet H a y o) (ry : RelV y u) (h : ∀ s',Inv X pins σ H s'->Q (.bool o.isSome) s') :
    wpAny (model X.prog X.w) A (compareOp .In u (.ref a)) Q E s:=by
  rcases g with ⟨kvs,k,e,ey,l⟩ | ⟨kvs,k,b,e,ey,eb,l⟩
  · subst ey
    obtain ⟨z,hd,vs,rel,dd⟩:=y2s I.hok e
    refine wpAny_in_of (y1F ry) hd dd.mapOf ?_
    rw [← (rel.val k).isSome_eq,← l]
    exact h _ (I.tok _)
  · subst ey
    cases (show u=Value.ref b from ry)
    obtain ⟨z,hd,xs,rel,dd⟩:=y3A I.hok e
    refine wpAny_in_heap (tupleKind_room_in1 hu) (z8O I.hok eb) hd dd ?_
    have q:=(rel.val k).isSome_eq
    rw [Option.isSome_map] at q
    rw [← q,← l]
    exact h _ (I.tok _)
theorem d_notIn {Q : Value->Shared->Prop} (hu : A.units + 1 < cLine) (I : Inv X pins σ H s) (g : DGet H a y o) (ry : RelV y u) (h : ∀ s',Inv X pins σ H s'->Q (.bool (!o.isSome)) s') :
    wpAny (model X.prog X.w) A (compareOp .NotIn u (.ref a)) Q E s:=by
  rcases g with ⟨kvs,k,e,ey,l⟩ | ⟨kvs,k,b,e,ey,eb,l⟩
  · subst ey
    obtain ⟨z,hd,vs,rel,dd⟩:=y2s I.hok e
    refine wpAny_notIn_of (y1F ry) hd dd.mapOf ?_
    rw [← (rel.val k).isSome_eq,← l]
    exact h _ (I.tok _)
  · subst ey
    cases (show u=Value.ref b from ry)
    obtain ⟨z,hd,xs,rel,dd⟩:=y3A I.hok e
    refine wpAny_notIn_heap (tupleKind_room_in1 hu) (z8O I.hok eb) hd dd ?_
    have q:=(rel.val k).isSome_eq
    rw [Option.isSome_map] at q
    rw [← q,← l]
    exact h _ (I.tok _)
theorem z9k {h' : Heap} {t' : Nat} {ob : HO} (I : Inv X pins σ H s) (mu : Mut (H a)) (hs : Heap.SameBut a s.heap h') (he : ∃ q,h'.get? a=some q) (new : ObjOk X.prog X.w (upd H a ob) h' a ob) :
    Inv X pins σ (upd H a ob) { s with heap:=h',toks:=t' }:=
  I.write (x:=a) (e:=a) mu (.inl rfl) (fun b q hb z=>(hs.2 b hb).trans z) he new
theorem y6K {P : Program} {w : World} {H' : Hp} {h' : Heap} {kvs : List (Key × V)} {vs : List (Key × Value)} (z : kvs.length≤sizeLine) (hd : (a == sysModules)=false) (rel : KV kvs vs) (dd : h'.DictOf (z1w P w) a vs) :
    ObjOk P w H' h' a (.dK kvs):=⟨z,hd,vs,rel,dd⟩
theorem y2u {H' : Hp} {Q : Unit->Shared->Prop} (hu : A.units + 1 < cLine) (I : Inv X pins σ H s) (g : DPut H a y v H') (ry : RelV y u) (rv : RelV v r) (h : ∀ s',Inv X pins σ H' s'->Q () s') :
    wpAny (model X.prog X.w) A (setItem (.ref a) u r) Q E s:=by
  rcases g with ⟨kvs,k,e,ey,l,eH⟩ | ⟨kvs,k,b,e,ey,eb,l,eH⟩
  · subst ey eH
    obtain ⟨z,hd,vs,rel,dd⟩:=dk_of I.hok e
    have hz : vs.length≤sizeLine:=by rw [← rel.length]; exact z
    have hl : (z5w kvs k v).length≤sizeLine:=by have:=z4q kvs k v; omega
    refine wpAny_setItem_pairs (hsz:=hz) (y1F ry) dd fun h' dd' hs=>h _ ?_
    have he : ∃ q,h'.get? a=some q:=let ⟨q,_,_,hq,_⟩:=dd'; ⟨q,hq⟩
    exact z9k I (by rw [e]; exact True.intro) hs he (y6K hl hd (rel.put k rv) dd')
  · subst ey eH
    cases (show u=Value.ref b from ry)
    obtain ⟨z,hd,xs,rel,dd⟩:=dt_of I.hok e
    have hz : xs.length≤sizeLine:=by rw [← Paired.length rel]; exact z
    have hl : (z5w kvs k v).length≤sizeLine:=by have:=z4q kvs k v; omega
    refine wpAny_setItem_heap (hsz:=hz) (tupleKind_room_in1 hu) (z8O I.hok eb) dd fun h' dd' hs=>h _ ?_
    obtain ⟨q,es,ep,hq,h2,h3,h4,_,h5⟩:=dd'
    refine z9k I (by rw [e]; exact True.intro) hs ⟨q,hq⟩ ⟨hl,hd,_,(rel.put k eb rv).keeps fun c ys ec=>?_,q,es,ep,hq,h2,h3,h4,h5⟩
    rw [z0z (ne_of ec e (fun z=>nomatch z))]
    exact ec
end
section
variable {X : Cx} {pins : List (Addr × Obj)} {σ : St} {H : Hp} {s : Shared} {a : Addr} {kvs : List (Key × V)} {k : Key} {u : Value} {A : Around} {E : Value->Shared->Prop}
end
noncomputable def NoSl (i : Expr) : Prop:=∀ ov iv,subscripted i false ov iv=operate [ov,iv] (getItem ov iv)
theorem subD_of {prog : Program} {w : World} {A : Around} {E : Value->Shared->Prop} {s : Shared} {env : Env} {value slice : Expr} {pos : Pos} {T id : String} {Q : Value->Shared->Prop}
    (hl : typeLookup (.type T) "__getitem__" = pure (some (.builtin id))) (hs : NoSl slice)
    (h : wpAny (model prog w) A (eval value env) (fun o s₁=>wpAny (model prog w) A (eval slice env) (fun i s₂=>s₂.TypeIs o T∧wpAny (model prog w) A (getItem o i) Q E s₂) E s₁) E s) :
    wpAny (model prog w) A (eval (.Subscript value slice pos) env) Q E s:=by
  refine Subscript_ (wpAny_mono h (fun o s₁ h₁=>wpAny_mono h₁ (fun i s₂ h₂=>?_) fun _ _ x=>x) fun _ _ x=>x)
  obtain ⟨hT,h₂⟩:=h₂
  unfold subscriptTail
  refine wpAny_bind ?_
  rw [getitemInPython_of_ne hT.not_modules]
  refine wpAny_bind (wpAny_specialOf hT hl ?_)
  have fin : wpAny (model prog w) A (subscripted slice false o i) (fun r s₃=>wpAny (model prog w) A (letTemporaryGo value o r >>= fun _=>pure r) Q E s₃) E s₂:=by
    rw [hs o i]
    exact wpAny_operating (wpAny_mono h₂ (fun r s₃ h₃=>wpAny_bind (wpAny_letTemporaryGo (wpAny_pure h₃))) fun _ _ x=>x)
  first
    | exact wpAny_pure (wpAny_bind fin)
    | exact wpAny_bind (wpAny_pure (wpAny_bind fin))
    | exact wpAny_bind fin
theorem z9F {X : Cx} {pins : List (Addr × Obj)} {σ : St} {H : Hp} {s : Shared} {a : Addr} {y : V} {o : Option V} (I : Inv X pins σ H s) (g : DGet H a y o) : s.TypeIs (.ref a) "dict" := by
  rcases g with ⟨kvs,k,e,_,_⟩ | ⟨kvs,k,b,e,_,_,_⟩
  · obtain ⟨_,_,vs,_,dd⟩:=y2s I.hok e
    exact dd.typeIs
  · obtain ⟨_,_,xs,_,dd⟩:=y3A I.hok e
    exact dd.typeIs
noncomputable def tDGet (td ty : TE) : TE:=fun σ H Q=>td σ H fun x H1=>ty σ H1 fun y H2=>∃ a v,x = .ref a∧DGet H2 a y (some v)∧Q v H2
noncomputable def tDIn (ty td : TE) : TE:=fun σ H Q=>ty σ H fun y H1=>td σ H1 fun x H2=>∃ a o,x = .ref a∧DGet H2 a y o∧Q (.bl o.isSome) H2
noncomputable def tDNotIn (ty td : TE) : TE:=fun σ H Q=>ty σ H fun y H1=>td σ H1 fun x H2=>∃ a o,x = .ref a∧DGet H2 a y o∧Q (.bl (!o.isSome)) H2
noncomputable def sDPut (td ty tv : TE) : TS:=fun D σ H=>tv σ H fun v H1=>td σ H1 fun x H2=>ty σ H2 fun y H3=>∃ a H4,x = .ref a∧DPut H3 a y v H4∧D.nx σ H4
section
variable {X : Cx} {o i e value : Expr} {pos pos' tpos : Pos} {td ty tv : TE}
theorem pe_dget (hu : X.A.units + 1 < cLine) (ho : PE X o td) (hi : PE X i ty) (hs : NoSl i) : PE X (.Subscript o i pos) (tDGet td ty):=by
  intro pins s σ H Q I h
  refine subD_of PySem.F.slot_dict_getitem.lookup hs (thn (ho pins s σ H _ I h) fun u s1 ⟨x,H1,I1,rx,q1⟩=>thn (hi pins s1 σ H1 _ I1 q1) fun iv s2 ⟨y,H2,I2,ry,a,v,ex,g,q2⟩=>?_)
  subst ex
  obtain rfl : u=Value.ref a:=rx
  exact ⟨z9F I2 g,y4l hu I2 g ry fun w' s3 I3 rw'=>⟨v,H2,I3,rw',q2⟩⟩
theorem pc_din (hu : X.A.units + 1 < cLine) (hi : PE X i ty) (ho : PE X o td) : PC X .In i o (tDIn ty td):=by
  intro pins s σ H Q I h
  refine thn (hi pins s σ H _ I h) fun iv s1 ⟨y,H1,I1,ry,q1⟩=>thn (ho pins s1 σ H1 _ I1 q1) fun u s2 ⟨x,H2,I2,rx,a,ov,ex,g,q2⟩=>?_
  subst ex
  obtain rfl : u=Value.ref a:=rx
  exact d_in hu I2 g ry fun s3 I3=>⟨.bl ov.isSome,H2,I3,rfl,q2⟩
theorem y3T (hu : X.A.units + 1 < cLine) (hi : PE X i ty) (ho : PE X o td) : PC X .NotIn i o (tDNotIn ty td):=by
  intro pins s σ H Q I h
  refine thn (hi pins s σ H _ I h) fun iv s1 ⟨y,H1,I1,ry,q1⟩=>thn (ho pins s1 σ H1 _ I1 q1) fun u s2 ⟨x,H2,I2,rx,a,ov,ex,g,q2⟩=>?_
  subst ex
  obtain rfl : u=Value.ref a:=rx
  exact d_notIn hu I2 g ry fun s3 I3=>⟨.bl (!ov.isSome),H2,I3,rfl,q2⟩
theorem ps_dput (hu : X.A.units + 1 < cLine) (ho : PE X o td) (hi : PE X i ty) (hv : PE X value tv) (hs : swapsWith value (some (.Subscript o i pos')) pos.line X.env=pure false) :
    PS X (.Assign [.Subscript o i pos'] value pos) (sDPut td ty tv):=by
  intro pins s σ H D I h
  refine wpAny_Assign_Subscript (thn (hv pins s σ H _ I h) fun r s1 ⟨v,H1,I1,rv,q1⟩=>thn (ho pins s1 σ H1 _ I1 q1) fun u s2 ⟨x,H2,I2,rx,q2⟩=>thn (hi pins s2 σ H2 _ I2 q2) fun iv s3 ⟨y,H3,I3,ry,a,H4,ex,g,q3⟩=>?_) hs
  subst ex
  obtain rfl : u=Value.ref a:=rx
  exact y2u hu I3 g ry rv fun s4 I4=>⟨σ,H4,I4,q3⟩
end
theorem y0E {P : Program} {w : World} {H : Hp} (h : Heap) (hb : sysModules < h.objs.size) : ObjOk P w H (h.push { cls:=.type "dict",data:=.dict #[] }) h.objs.size (.dK []):=
  ⟨Nat.zero_le _,beq_eq_false_iff_ne.mpr (Ne.symm (Nat.ne_of_lt hb)),[],.nil,Heap.DictOf.new h⟩
noncomputable def tDNewK : TE:=fun _ H Q=>∀ p,H p=none->Q (.ref p) (upd H p (.dK []))
section
variable {X : Cx} {pos : Pos}
theorem pe_dnewK : PE X (.Dict [] [] pos) tDNewK:=fun pins s σ H Q I h=>
  wpAny_Dict_empty ⟨.ref s.heap.objs.size,_,I.laid (a:=s.heap.objs.size) (o:=.dK []) (t':=s.toks) (fun _ _ q=>Heap.get?_push_of_some _ q) (Nat.le_refl _) (y0E s.heap I.big),rfl,h _ (I.hok.fresh (Nat.le_refl _))⟩
end
noncomputable def y3D : List (TE × TE)->St->Hp->(List (V × V)->Hp->Prop)->Prop
  | [],_,H,Q=>Q [] H
  | (tk,tv) :: r,σ,H,Q=>tk σ H fun x H1=>tv σ H1 fun y H2=>y3D r σ H2 fun ps H3=>Q ((x,y) :: ps) H3
noncomputable abbrev VV : List (V × V)->List (Value × Value)->Prop:=Paired fun p q=>RelV p.1 q.1∧RelV p.2 q.2
noncomputable def PPs (X : Cx) (pos : Pos) (keys : List (Option Expr)) (values : List Expr) (trs : List (TE × TE)) : Prop:=
  ∀ (pins : List (Addr × Obj)) (s : Shared) (σ : St) (H : Hp) (Q : List (V × V)->Hp->Prop),Inv X pins σ H s->y3D trs σ H Q →
    wpAny (model X.prog X.w) X.A (evalPairs (pairTrees keys values X.env pos)) (fun vs s'=>∃ ps H',Inv X pins σ H' s'∧VV ps vs∧Q ps H') X.xe s
theorem pps_nil {X : Cx} {pos : Pos} : PPs X pos [] [] []:=fun pins s σ H Q I h=>pairTrees_nil_walk ⟨[],H,I,.nil,h⟩
theorem y0m {X : Cx} {pos : Pos} {k v : Expr} {ks : List (Option Expr)} {vs : List Expr} {tk tv : TE} {trs : List (TE × TE)} (hk : PE X k tk) (hv : PE X v tv) (hr : PPs X pos ks vs trs) :
    PPs X pos (some k :: ks) (v :: vs) ((tk,tv) :: trs):=fun pins s σ H Q I h=>
  pairTrees_cons_walk (thn (hk pins s σ H _ I h) fun u s1 ⟨x,H1,I1,rx,q1⟩=>thn (hv pins s1 σ H1 _ I1 q1) fun w2 s2 ⟨y,H2,I2,ry,q2⟩=>
    thn (hr pins s2 σ H2 _ I2 q2) fun ws s3 ⟨ps,H3,I3,rel,q3⟩=>⟨(x,y) :: ps,H3,I3,.cons ⟨rx,ry⟩ rel,q3⟩)
noncomputable def z6S (kvs more : List (Key × V)) : List (Key × V):=more.foldl (fun acc kv=>z5w acc kv.1 kv.2) kvs
theorem KV.merge : ∀ {more : List (Key × V)} {rs : List (Key × Value)} {kvs : List (Key × V)} {vs : List (Key × Value)},KV more rs->KV kvs vs->KV (z6S kvs more) (merged vs rs):=by
  intro more rs kvs vs r
  unfold KV at r
  induction r generalizing kvs vs with
  | nil=>intro q; exact q
  | @cons p q ps qs h t ih=>
    intro r0
    have e : KV (z5w kvs p.1 p.2) (stored vs q.1 q.2):=by
      have:=r0.put p.1 h.2
      rw [← h.1]; exact this
    exact ih e
theorem z4I : ∀ (more kvs : List (Key × V)),(z6S kvs more).length≤kvs.length + more.length
  | [],kvs=>by show kvs.length≤kvs.length + 0; omega
  | p :: r,kvs=>by
    have h1:=z4I r (z5w kvs p.1 p.2)
    have h2:=z4q kvs p.1 p.2
    show (z6S (z5w kvs p.1 p.2) r).length≤_
    rw [List.length_cons]; omega
theorem z7a {P : Program} {w : World} : ∀ {kvs : List (Key × V)} {ws : List (Value × Value)},VV (kvs.map fun kv=>(kV kv.1,kv.2)) ws->∃ rs,Carries (z1w P w) ws rs∧KV kvs rs
  | [],_,r=>by rw [List.map_nil] at r; cases r; exact ⟨[],True.intro,.nil⟩
  | p :: kvs,_,r=>by
    rw [List.map_cons] at r
    cases r with
    | @cons a b as bs h t=>
      obtain ⟨rs,c,q⟩:=z7a (P:=P) (w:=w) t
      obtain ⟨b1,b2⟩:=b
      exact ⟨(p.1,b2) :: rs,⟨y1F h.1,rfl,c⟩,.cons ⟨rfl,h.2⟩ q⟩
noncomputable def tDisp (trs : List (TE × TE)) : TE:=fun σ H Q=>∀ p,H p=none->y3D trs σ (upd H p (.dK [])) fun ps H2=>H2 p=some (.dK [])∧∃ kvs : List (Key × V),ps=kvs.map (fun kv=>(kV kv.1,kv.2))∧kvs.length≤15∧Q (.ref p) (upd H2 p (.dK (z6S [] kvs)))
theorem pe_disp {X : Cx} {pos : Pos} {keys : List (Option Expr)} {values : List Expr} {trs : List (TE × TE)} (h : PPs X pos keys values trs) (hall : keys.all (·.isSome)=true) (hl : keys.length=values.length) (h0 : keys≠[])
    (h15 : keys.length≤15) : PE X (.Dict keys values pos) (tDisp trs):=by
  intro pins s σ H Q I q
  have hn:=I.hok.fresh (Nat.le_refl s.heap.objs.size)
  have I1:=I.laid (a:=s.heap.objs.size) (o:=.dK []) (h':=s.heap.push { cls:=.type "dict",data:=.dict #[] }) (t':=s.toks) (fun _ _ q=>Heap.get?_push_of_some _ q) (Nat.le_refl _) (y0E s.heap I.big)
  refine wpAny_Dict_walk (knd:=z1w X.prog X.w) hall hl h0 h15 (thn (h pins _ σ _ _ I1 (q _ hn)) fun ws s2 ⟨ps,H2,I2,rel,e,kvs,ep,lk,q2⟩=>?_)
  subst ep
  obtain ⟨rs,c,rk⟩:=z7a (P:=X.prog) (w:=X.w) rel
  obtain ⟨z,hd,vs0,r0,dd⟩:=dk_of I2.hok e
  cases r0
  refine ⟨rs,c,dd,fun h' dd' hs=>⟨.ref s.heap.objs.size,_,?_,rfl,q2⟩⟩
  have hz : (z6S [] kvs).length≤sizeLine:=by
    have h1:=z4I kvs []
    rw [List.length_nil] at h1
    rw [sizeLine_eq]; omega
  have he : ∃ q,h'.get? s.heap.objs.size=some q:=let ⟨q,_,_,hq,_⟩:=dd'; ⟨q,hq⟩
  exact z9k I2 (by rw [e]; exact True.intro) hs he (y6K hz hd (rk.merge .nil) dd')
structure M1 (X : Cx) (o : Expr) (m : Str) (apos : Pos) (e : Expr) (cpos : Pos) : Prop where
  base : attributeBase o m X.env (eval o X.env)=eval o X.env
  few : ((backTo cpos (starEach [e] X.env)).all (fun x=>!x.1) && (backToKw cpos (keywordEach [] X.env)).all (fun x=>x.1.isSome)
    && decide (([e] : List Expr).length + ([] : List Keyword).length + (if ([] : List Keyword).isEmpty then 0 else 1) < 30))=true
  line : (apos.endLine == cpos.line)=true
  trees : backTo cpos (starEach [e] X.env)=[(false,eval e X.env)]
structure M2 (X : Cx) (o : Expr) (m : Str) (apos : Pos) (e f : Expr) (cpos : Pos) : Prop where
  base : attributeBase o m X.env (eval o X.env)=eval o X.env
  few : ((backTo cpos (starEach [e,f] X.env)).all (fun x=>!x.1) && (backToKw cpos (keywordEach [] X.env)).all (fun x=>x.1.isSome)
    && decide (([e,f] : List Expr).length + ([] : List Keyword).length + (if ([] : List Keyword).isEmpty then 0 else 1) < 30))=true
  line : (apos.endLine == cpos.line)=true
  trees : backTo cpos (starEach [e,f] X.env)=[(false,eval e X.env),(false,eval f X.env)]
section
variable {X : Cx} {pins : List (Addr × Obj)} {σ : St} {H : Hp} {s : Shared} {a : Addr} {y d : V} {u r : Value} {o : Option V} {A : Around} {E : Value->Shared->Prop}
end
section
variable {X : Cx} {o e f : Expr} {apos cpos : Pos} {td ty tx : TE}
end
section
variable {X : Cx} {pins : List (Addr × Obj)} {σ : St} {H : Hp} {s : Shared} {a : Addr} {kvs : List (Key × V)} {A : Around} {E : Value->Shared->Prop}
end
section
variable {X : Cx} {pins : List (Addr × Obj)} {σ : St} {H : Hp} {s : Shared} {a : Addr} {y : V} {u : Value} {A : Around} {E : Value->Shared->Prop}
end
end L2
namespace L2
open PySem PySem.Spec PyProof.Rows
noncomputable def z2Z (cells : List (Str × Addr)) : List (Str × NameKind)->List (Str × Addr)->List (Str × Addr)
  | [],acc=>acc
  | (n,k) :: r,acc=>if k == .free then z2Z cells r ((n,(cells.lookup n).getD 0) :: acc) else z2Z cells r acc
theorem z5W {env : Env} (f : Str × NameKind->List (Str × Addr)->Sem (ForInStep (List (Str × Addr))))
    (hf : ∀ n k cs,f (n,k) cs=if k == .free then (do let a ← cellOf env n; pure (.yield ((n,a) :: cs))) else pure (.yield cs)) :
    ∀ (names : List (Str × NameKind)) (acc : List (Str × Addr)),(∀ n,(n,NameKind.free)∈names->∃ c,env.cells.lookup n=some c)->forIn names acc f=pure (z2Z env.cells names acc)
  | [],acc,_=>by rw [List.forIn_nil]; rfl
  | (n,k) :: r,acc,h=>by
    have hr:=z5W f hf r
    rw [List.forIn_cons,hf]
    unfold z2Z
    by_cases hk : (k == NameKind.free)=true
    · rw [if_pos hk,if_pos hk]
      have ek : k = .free:=eq_of_beq hk
      subst ek
      obtain ⟨c,e⟩:=h n List.mem_cons_self
      have e1 : cellOf env n=pure c:=by unfold cellOf; rw [e]
      rw [e1,e]
      exact hr _ fun m hm=>h m (List.mem_cons_of_mem _ hm)
    · rw [if_neg hk,if_neg hk]
      exact hr _ fun m hm=>h m (List.mem_cons_of_mem _ hm)
theorem z3p {scope : Scope} {env : Env} (h : ∀ n,(n,NameKind.free)∈scope.names->∃ c,env.cells.lookup n=some c) : closureFor scope env=pure (z2Z env.cells scope.names []):=by
  simp only [closureFor]
  rw [z5W _ (fun n k cs=>by cases hkc : k == NameKind.free <;> simp [hkc]) scope.names [] h]
  rfl
theorem z3x {cells : List (Str × Addr)} : ∀ (names : List (Str × NameKind)) (acc : List (Str × Addr)) {x : Str} {c : Addr},(x,c)∈z2Z cells names acc->(x,c)∈acc∨((x,NameKind.free)∈names∧c=(cells.lookup x).getD 0)
  | [],_,_,_,h=>.inl h
  | (n,k) :: r,acc,x,c,h=>by
    unfold z2Z at h
    by_cases hk : (k == NameKind.free)=true
    · rw [if_pos hk] at h
      have ek : k = .free:=eq_of_beq hk
      subst ek
      rcases z3x r _ h with z | ⟨z1,z2⟩
      · rcases List.mem_cons.mp z with q | q
        · cases q
          exact .inr ⟨List.mem_cons_self,rfl⟩
        · exact .inl q
      · exact .inr ⟨List.mem_cons_of_mem _ z1,z2⟩
    · rw [if_neg hk] at h
      rcases z3x r _ h with z | ⟨z1,z2⟩
      · exact .inl z
      · exact .inr ⟨List.mem_cons_of_mem _ z1,z2⟩
theorem z2E {α : Type} {x : Str} {c : α} : ∀ {l : List (Str × α)},(x,c)∈l->(l.lookup x).isSome=true
  | (n,d) :: r,h=>by
    rw [List.lookup_cons]
    cases hb : x == n with
    | true=>rfl
    | false=>
      rcases List.mem_cons.mp h with q | q
      · cases q
        simp at hb
      · exact z2E q
theorem z6o {cells : List (Str × Addr)} {x : Str} : ∀ (names : List (Str × NameKind)) (acc : List (Str × Addr)),(x,NameKind.free)∈names∨(∃ c,(x,c)∈acc)->∃ c,(x,c)∈z2Z cells names acc
  | [],_,h=>h.elim (fun z=>nomatch z) id
  | (n,k) :: r,acc,h=>by
    unfold z2Z
    by_cases hk : (k == NameKind.free)=true
    · rw [if_pos hk]
      refine z6o r _ ?_
      rcases h with z | ⟨c,z⟩
      · rcases List.mem_cons.mp z with q | q
        · cases q
          exact .inr ⟨_,List.mem_cons_self⟩
        · exact .inl q
      · exact .inr ⟨c,List.mem_cons_of_mem _ z⟩
    · rw [if_neg hk]
      refine z6o r _ ?_
      rcases h with z | z
      · rcases List.mem_cons.mp z with q | q
        · cases q
          exact absurd (by rfl) hk
        · exact .inl q
      · exact .inr z
theorem z3h : ∀ (names : List (Str × NameKind)) (h : Heap) (acc : List (Str × Addr)) {x : Str} {c : Addr},(x,c)∈cellsFrom h.objs.size names acc →
    (x,c)∈acc∨((x,NameKind.cell)∈names∧h.objs.size≤c∧(pushCells h names).IsCell c none)
  | [],_,_,_,_,hm=>.inl hm
  | (n,k) :: r,h,acc,x,c,hm=>by
    unfold cellsFrom at hm
    unfold pushCells
    by_cases hk : (k == NameKind.cell)=true
    · rw [if_pos hk] at hm
      rw [if_pos hk]
      have ek : k = .cell:=eq_of_beq hk
      subst ek
      have e : (h.push { cls:=.type "cell",data:=.cell none }).objs.size=h.objs.size + 1:=Heap.size_push ..
      rw [← e] at hm
      rcases z3h r _ _ hm with z | ⟨z1,z2,z3⟩
      · rcases List.mem_cons.mp z with q | q
        · cases q
          exact .inr ⟨List.mem_cons_self,Nat.le_refl _,⟨_,pushCells_keeps r _ _ _ (Heap.get?_push_size _ rfl),rfl⟩⟩
        · exact .inl q
      · exact .inr ⟨List.mem_cons_of_mem _ z1,by omega,z3⟩
    · rw [if_neg hk] at hm
      rw [if_neg hk]
      rcases z3h r h acc hm with z | ⟨z1,z2,z3⟩
      · exact .inl z
      · exact .inr ⟨List.mem_cons_of_mem _ z1,z2,z3⟩
theorem z3i {x : Str} : ∀ (names : List (Str × NameKind)) (n : Nat) (acc : List (Str × Addr)),(x,NameKind.cell)∈names∨(∃ c,(x,c)∈acc)->∃ c,(x,c)∈cellsFrom n names acc
  | [],_,_,h=>h.elim (fun z=>nomatch z) id
  | (y,k) :: r,n,acc,h=>by
    unfold cellsFrom
    by_cases hk : (k == NameKind.cell)=true
    · rw [if_pos hk]
      refine z3i r _ _ ?_
      rcases h with z | ⟨c,z⟩
      · rcases List.mem_cons.mp z with q | q
        · cases q
          exact .inr ⟨_,List.mem_cons_self⟩
        · exact .inl q
      · exact .inr ⟨c,List.mem_cons_of_mem _ z⟩
    · rw [if_neg hk]
      refine z3i r _ _ ?_
      rcases h with z | z
      · rcases List.mem_cons.mp z with q | q
        · cases q
          exact absurd (by rfl) hk
        · exact .inl q
      · exact .inr z
theorem z3d (lo : Nat) : ∀ (names : List (Str × NameKind)) (n : Nat) (acc : List (Str × Addr)),(∀ x y c,(x,c)∈acc->(y,c)∈acc->lo≤c->x=y)->(∀ p∈acc,p.2 < n) →
    ∀ x y c,(x,c)∈cellsFrom n names acc->(y,c)∈cellsFrom n names acc->lo≤c->x=y
  | [],_,_,h,_=>h
  | (m,k) :: r,n,acc,h,hb=>by
    unfold cellsFrom
    by_cases hk : (k == NameKind.cell)=true
    · rw [if_pos hk]
      refine z3d lo r (n + 1) ((m,n) :: acc) (fun x y c hx hy hc=>?_) fun p hp=>?_
      · rcases List.mem_cons.mp hx with q | q <;> rcases List.mem_cons.mp hy with q' | q'
        · cases q; cases q'; rfl
        · cases q
          exact absurd (hb _ q') (Nat.lt_irrefl _)
        · cases q'
          exact absurd (hb _ q) (Nat.lt_irrefl _)
        · exact h x y c q q' hc
      · rcases List.mem_cons.mp hp with q | q
        · cases q; exact Nat.lt_succ_self _
        · exact Nat.lt_succ_of_lt (hb p q)
    · rw [if_neg hk]
      exact z3d lo r n acc h hb
theorem z3Z (env : Env) (x : Str) : ∀ names : List (Str × NameKind),
    (names.map fun (n,k)=>if (k == NameKind.free && env.scope.kind == .function && env.kindOf n == some .cell) then (n,NameKind.cell) else (n,k)).lookup x =
      (names.lookup x).map fun k=>if (k == NameKind.free && env.scope.kind == .function && env.kindOf x == some .cell) then NameKind.cell else k
  | []=>rfl
  | (n,k) :: r=>by
    have ih:=z3Z env x r
    show List.lookup x ((if (k == NameKind.free && env.scope.kind == .function && env.kindOf n == some .cell)=true then (n,NameKind.cell) else (n,k)) :: _)=_
    cases hx : x == n with
    | true=>
      have e:=eq_of_beq hx
      subst e
      by_cases hc : (k == NameKind.free && env.scope.kind == .function && env.kindOf x == some .cell)=true
      · rw [if_pos hc]
        simp only [List.lookup_cons,beq_self_eq_true,Option.map_some,hc,if_true]
      · rw [if_neg hc]
        simp only [List.lookup_cons,beq_self_eq_true,Option.map_some]
        rw [if_neg hc]
    | false=>
      by_cases hc : (k == NameKind.free && env.scope.kind == .function && env.kindOf n == some .cell)=true
      · rw [if_pos hc]; simp only [List.lookup_cons,hx]; exact ih
      · rw [if_neg hc]; simp only [List.lookup_cons,hx]; exact ih
theorem z2Q {M : Model} {A : Around} {E : Value->Shared->Prop} {s : Shared} {scope : Scope} {globals : Addr} {closure : List (Str × Addr)} {qual : Str} {env : Env} {Q : Env->Shared->Prop}
    (hQ : Q (newEnv scope s.heap.objs.size globals (cellsFrom (s.heap.objs.size + 1) scope.names closure) qual none .none (some env) builtinsNs)
      { s with heap:=pushCells (s.heap.push { cls:=.type "dict",data:=.dict #[] }) scope.names }) :
    wpAny M A (newFunctionEnv scope globals closure [] qual none .none (some env)) Q E s:=by
  simp only [newFunctionEnv,Option.isSome_some,if_true]
  refine wpAny_bind (wpAny_alloc ?_)
  refine wpAny_bind (wpAny_layCells _ (fun name kind cells=>by cases hkc : kind == NameKind.cell <;> simp [hkc]) _ _ _ _ ?_)
  rw [show ({ s with heap:=s.heap.push { cls:=.type "dict",data:=.dict #[] } } : Shared).heap.objs.size=s.heap.objs.size + 1 from Heap.size_push ..]
  refine wpAny_bind ?_
  rw [List.forIn_nil]
  exact wpAny_pure (wpAny_pure hQ)
noncomputable def capOk (out names : List (Str × NameKind)) : Bool:=names.all fun p=>!(decide (p.2=NameKind.free)) || (decide (out.lookup p.1=some NameKind.cell) || decide (out.lookup p.1=some NameKind.free))
noncomputable def nmOk (N N' : List Str) (names : List (Str × NameKind)) : Bool:=(List.range N.length).all fun i=>match N'[i]? with
  | some y=>decide (names.lookup y=none) || (decide (names.lookup y=some NameKind.free) && decide (N[i]? = some y))
  | none=>false
structure CompScope (N : List Str) (out : List (Str × NameKind)) (N' : List Str) (k : Nat) (sc : Scope) : Prop where
  kind : sc.kind = .function
  len : N'.length=N.length + k
  cap : capOk out sc.names=true
  nm : nmOk N N' sc.names=true
  uniq : sc.names.all (fun p=>decide (sc.names.lookup p.1=some p.2))=true
noncomputable def z1c (X : Cx) (N' : List Str) (sc : Scope) (s : Shared) (H : Hp) (fp : List Addr) (pins : List (Addr × Obj)) (E : Value->Shared->Prop) : Cx where
  prog:=X.prog
  w:=X.w
  K:=X.K
  mg:=X.mg
  base:=X.base
  A:=X.A
  N:=N'
  s₀:=s
  H₀:=H
  env:=compEnvC sc (cellsFrom (s.heap.objs.size + 1) sc.names (z2Z X.env.cells sc.names [])) s.heap.objs.size X.env
  outer:=X.stack
  stack:=X.stack
  ex:=fp
  fn:=fun x=>decide (sc.names.lookup x=some .cell)
  calm:=X.calm
  pn:=X.pn ++ pins
  xe:=E
section
variable {X : Cx} {N' : List Str} {k : Nat} {sc : Scope} {pins : List (Addr × Obj)} {σ : St} {H : Hp} {s : Shared} {fp : List Addr} {E : Value->Shared->Prop}
theorem CompScope.fr (S : CompScope X.N X.env.scope.names N' k sc) {x : Str} (h : (x,NameKind.free)∈sc.names) : X.env.kindOf x=some .cell∨X.env.kindOf x=some .free:=by
  have q:=List.all_eq_true.mp S.cap _ h
  simp at q
  exact q
theorem CompScope.look {N : List Str} {out : List (Str × NameKind)} (S : CompScope N out N' k sc) {x : Str} {kd : NameKind} (h : (x,kd)∈sc.names) : sc.names.lookup x=some kd:=by
  have q:=List.all_eq_true.mp S.uniq _ h
  exact of_decide_eq_true q
theorem y4P (S : CompScope X.N X.env.scope.names N' k sc) (I : Inv X pins σ H s) (hf : ∀ b∈fp,z9B X pins H b) (hlt : ∀ b∈fp,b < s.heap.objs.size) :
    Inv (z1c X N' sc s H fp pins E) [] (σ ++ List.replicate k none) H { s with heap:=pushCells (s.heap.push { cls:=.type "dict",data:=.dict #[] }) sc.names }:=by
  have keeps : ∀ b o,s.heap.get? b=some o->(pushCells (s.heap.push { cls:=.type "dict",data:=.dict #[] }) sc.names).get? b=some o:=fun b o e=>pushCells_keeps _ _ _ _ (Heap.get?_push_of_some _ e)
  have hsz : (s.heap.push { cls:=.type "dict",data:=.dict #[] }).objs.size=s.heap.objs.size + 1:=Heap.size_push ..
  have hns : (pushCells (s.heap.push { cls:=.type "dict",data:=.dict #[] }) sc.names).Ns s.heap.objs.size (fun _=>none):=(Heap.Ns.new s.heap (.type "dict")).keeps (pushCells_keeps _ _)
  have frc : ∀ x,(x,NameKind.free)∈sc.names->∃ c,X.env.cells.lookup x=some c:=fun x h=>I.ok.has x (S.fr h)
  have cm : ∀ x c,(x,c)∈cellsFrom (s.heap.objs.size + 1) sc.names (z2Z X.env.cells sc.names []) →
      ((x,NameKind.cell)∈sc.names∧s.heap.objs.size + 1≤c∧(pushCells (s.heap.push { cls:=.type "dict",data:=.dict #[] }) sc.names).IsCell c none)∨((x,NameKind.free)∈sc.names∧X.env.cells.lookup x=some c):=fun x c h=>by
    rw [← hsz] at h
    rcases z3h _ _ _ h with z | ⟨z1,z2,z3⟩
    · rcases z3x _ _ z with z | ⟨z1,z2⟩
      · exact nomatch z
      · obtain ⟨c',e⟩:=frc x z1
        rw [e] at z2
        cases z2
        exact .inr ⟨z1,e⟩
    · exact .inl ⟨z1,by omega,z3⟩
  have cl : ∀ x c,(cellsFrom (s.heap.objs.size + 1) sc.names (z2Z X.env.cells sc.names [])).lookup x=some c->(x,c)∈cellsFrom (s.heap.objs.size + 1) sc.names (z2Z X.env.cells sc.names []):=fun x c h=>PySem.mem_of_lookup h
  have clt : ∀ x c,X.env.cells.lookup x=some c->c < s.heap.objs.size:=fun x c h=>by
    obtain ⟨v,q⟩:=I.cell x c h
    exact q.lt
  have has : ∀ x,(x,NameKind.cell)∈sc.names∨(x,NameKind.free)∈sc.names->∃ c,(cellsFrom (s.heap.objs.size + 1) sc.names (z2Z X.env.cells sc.names [])).lookup x=some c:=fun x h=>by
    obtain ⟨c,hc⟩:=z3i (x:=x) sc.names (s.heap.objs.size + 1) (z2Z X.env.cells sc.names []) (h.imp id fun z=>z6o _ _ (.inl z))
    exact Option.isSome_iff_exists.mp (z2E hc)
  have kd : ∀ x kk,(relabel sc X.env).names.lookup x=some kk->∃ k0,sc.names.lookup x=some k0∧(kk=k0∨(k0 = .free∧kk = .cell)):=fun x kk h=>by
    have q:=z3Z X.env x sc.names
    have h' : (sc.names.map fun (n,k)=>if (k == NameKind.free && X.env.scope.kind == .function && X.env.kindOf n == some .cell) then (n,NameKind.cell) else (n,k)).lookup x=some kk:=h
    rw [q] at h'
    cases e : sc.names.lookup x with
    | none=>rw [e] at h'; cases h'
    | some k0=>
      rw [e] at h'
      simp only [Option.map_some,Option.some.injEq] at h'
      refine ⟨k0,rfl,?_⟩
      split at h'
      · rename_i hc
        simp at hc
        exact .inr ⟨hc.1.1,h'.symm⟩
      · exact .inl h'.symm
  refine ⟨⟨I.ok.mod,S.kind,I.ok.glob,I.ok.blt,Nat.le_refl _,?inj,?has,?cab,I.ok.hd,I.ok.frames,.inl rfl,?exf,I.bs,Nat.le_trans I.ok.bsz I.sz,?noex,?exfs,I.stack,I.stkFree⟩,
    rfl,I.bare,Un.kept keeps,⟨_,hns,?loc⟩,?cell,I.hok.fresh (Nat.le_refl _),?freeC,?pin,I.hok.kept keeps,?len⟩
  case inj=>
    intro x y c h1 h2
    rcases cm x c (cl x c h1) with ⟨_,l1,_⟩ | ⟨m1,e1⟩
    · rcases cm y c (cl y c h2) with ⟨_,l2,_⟩ | ⟨m2,e2⟩
      · refine z3d (s.heap.objs.size + 1) sc.names (s.heap.objs.size + 1) (z2Z X.env.cells sc.names []) (fun x y c hx _ hc=>?_) (fun p hp=>?_) x y c (cl x c h1) (cl y c h2) l1
        · rcases z3x _ _ hx with z | ⟨z1,z2⟩
          · exact nomatch z
          · obtain ⟨c',e⟩:=frc x z1
            rw [e] at z2
            have z3 : c=c':=z2
            subst z3
            exact absurd (clt x c e) (Nat.not_lt.mpr (Nat.le_of_succ_le hc))
        · obtain ⟨x,c⟩:=p
          rcases z3x _ _ hp with z | ⟨z1,z2⟩
          · exact nomatch z
          · obtain ⟨c',e⟩:=frc x z1
            rw [e] at z2
            have z3 : c=c':=z2
            subst z3
            exact Nat.lt_succ_of_lt (clt x c e)
      · exact absurd (clt y c e2) (Nat.not_lt.mpr (Nat.le_of_succ_le l1))
    · rcases cm y c (cl y c h2) with ⟨_,l2,_⟩ | ⟨m2,e2⟩
      · exact absurd (clt x c e1) (Nat.not_lt.mpr (Nat.le_of_succ_le l2))
      · exact I.ok.inj x y c e1 e2
  case has=>
    intro x hx
    refine has x ?_
    rcases hx with hx | hx
    · obtain ⟨k0,e,h⟩:=kd x _ hx
      rcases h with h | ⟨h,_⟩
      · subst h; exact .inl (PySem.mem_of_lookup e)
      · subst h; exact .inr (PySem.mem_of_lookup e)
    · obtain ⟨k0,e,h⟩:=kd x _ hx
      rcases h with h | ⟨_,h⟩
      · subst h; exact .inr (PySem.mem_of_lookup e)
      · cases h
  case cab=>
    intro x c hfn h
    have hfn' : sc.names.lookup x=some NameKind.cell:=of_decide_eq_true hfn
    rcases cm x c (cl x c h) with ⟨_,l,_⟩ | ⟨m,_⟩
    · exact Nat.le_of_succ_le l
    · rw [S.look m] at hfn'; cases hfn'
  case exf=>
    intro b hb
    refine ⟨Nat.ne_of_lt (hlt b hb),fun x c h=>?_⟩
    rcases cm x c (cl x c h) with ⟨_,l,_⟩ | ⟨_,e⟩
    · intro z
      subst z
      exact absurd (hlt c hb) (Nat.not_lt.mpr (Nat.le_of_succ_le l))
    · exact (hf b hb).2.2.2.2.1 x c e
  case noex=>
    intro b o e hb
    rcases (hf b hb).2.2.2.1 with z | z
    · exact I.ok.noex b o e z
    · exact absurd (Nat.lt_of_lt_of_le (Heap.lt_size e) (Nat.le_trans I.ok.bsz z)) (Nat.lt_irrefl _)
  case exfs=>exact fun b hb z=>(List.mem_cons.mp (I.stkSub b z)).elim (hf b hb).2.1 (hf b hb).2.2.1
  case loc=>
    intro i y v h1 h2 h3
    have hl:=I.len
    by_cases hi : i < σ.length
    · rw [List.getElem?_append_left hi] at h2
      have q:=List.all_eq_true.mp S.nm i (List.mem_range.mpr (by omega))
      have h1' : N'[i]? = some y:=h1
      simp only [h1',Bool.or_eq_true,Bool.and_eq_true,decide_eq_true_eq] at q
      rcases q with q | ⟨q1,q2⟩
      · exfalso
        rcases h3 with z | z | z <;> (obtain ⟨k0,e,_⟩:=kd y _ z; rw [q] at e; cases e)
      · have hm:=PySem.mem_of_lookup q1
        obtain ⟨m,hn,hloc⟩:=I.loc
        have kk:=S.fr hm
        obtain ⟨u,r,l⟩:=hloc i y v q2 h2 (kk.elim (fun z=>.inr (.inl z)) fun z=>.inr (.inr z))
        refine ⟨u,r,.inr ⟨?_,?_⟩⟩
        · rcases h3 with z | z | z
          · obtain ⟨k0,e,h⟩:=kd y _ z
            rw [q1] at e
            cases e
            rcases h with h | ⟨_,h⟩ <;> cases h
          · exact .inl z
          · exact .inr z
        · rcases l with ⟨l,_⟩ | ⟨_,c,ec,hc⟩
          · rcases kk with z | z <;> (rw [z] at l; cases l)
          · obtain ⟨c',e'⟩:=has y (.inr hm)
            refine ⟨c',e',?_⟩
            rcases cm y c' (cl y c' e') with ⟨m',_⟩ | ⟨_,e2⟩
            · have:=S.look m'
              rw [q1] at this
              cases this
            · rw [ec] at e2
              cases e2
              exact hc.keeps keeps
    · rw [List.getElem?_append_right (by omega),List.getElem?_replicate] at h2
      split at h2 <;> cases h2
  case cell=>
    intro x c h
    rcases cm x c (cl x c h) with ⟨_,_,q⟩ | ⟨_,e⟩
    · exact ⟨_,q⟩
    · obtain ⟨v,q⟩:=I.cell x c e
      exact ⟨v,q.keeps keeps⟩
  case freeC=>
    intro x c h
    rcases cm x c (cl x c h) with ⟨_,l,_⟩ | ⟨_,e⟩
    · exact I.hok.fresh (Nat.le_of_succ_le l)
    · exact I.freeC x c e
  case pin=>
    intro p hp
    have hp' : p∈X.pn ++ pins:=by
      rcases List.mem_append.mp hp with z | z
      · exact z
      · exact nomatch z
    obtain ⟨e,n,ne,nf,d⟩:=I.pin p hp'
    exact ⟨keeps _ _ e,n,Nat.ne_of_lt (Heap.lt_size e),fun z=>(List.mem_cons.mp (I.stkSub p.1 z)).elim ne nf,d⟩
  case len=>
    show _=N'.length
    rw [List.length_append,List.length_replicate,S.len,I.len]
theorem z8Y {σ' : St} {H' : Hp} {s' : Shared} (I : Inv X pins σ H s) (hf : ∀ b∈fp,z9B X pins H b) (J : Inv (z1c X N' sc s H fp pins E) [] σ' H' s') : Inv X pins σ H' s':=
  I.call' J.os J.base J.hok J.bare fun b hb=>⟨(hf b hb).2.2.2.1,(hf b hb).2.1,(hf b hb).2.2.2.2.1,(hf b hb).2.2.2.2.2⟩
theorem y2Q {H' : Hp} {s' : Shared} {h' : Heap} (I : Inv X pins σ H s) (J : Inv X pins σ H' s') (hn : H' s.heap.objs.size=none) (hb : Heap.SameBut s.heap.objs.size s'.heap h') : Inv X pins σ H' { s' with heap:=h' }:=by
  refine J.turned (t':=s'.toks) (it:=s.heap.objs.size) (fun b o hne e=>(hb.2 b hne).trans e) hn (Nat.ne_of_gt I.lt) (.inr I.sz) (fun x c e=>?_) fun p hp=>?_
  · obtain ⟨v,q⟩:=I.cell x c e
    exact Nat.ne_of_lt q.lt
  · exact Nat.ne_of_lt (Heap.lt_size (I.pin p hp).1)
end
theorem z8T {prog : Program} {w : World} {A : Around} {R : Result->Shared->Prop} {s : Shared} {elt target iter : Expr} {ifs : List Expr} {scope : Scope} {pos : Pos} {it acc : Value} {env : Env} (I : Nat->Shared->Prop)
    (turn : ∀ n s,I n s->wpAny (model prog w) A (pyNext it) (fun r s₁=>match r with
      | none=>R (.ok .next) s₁
      | some v=>wpAny (model prog w) A (letOwnedTupleGo target it v) (fun _ s₁'=>wpAny (model prog w) A (assign target env v) (fun _ s₂=>
          wpAny (model prog w) A (forIn ifs true fun c r=>if r=true then do let ok ← isTrue c env (eval c env); pure (ForInStep.yield ok) else pure (ForInStep.yield r)) (fun ok s₃=>
            if ok=true then wpAny (model prog w) A (eval elt env) (fun x s₄=>
              wpAny (model prog w) A (call (.builtin "list.append") [acc,x]) (fun _ s₅=>∃ m,m < n∧I m s₅) (notedBy (model prog w) A env fun e s'=>R (.error e) s') s₄) (notedBy (model prog w) A env fun e s'=>R (.error e) s') s₃
            else ∃ m,m < n∧I m s₃) (notedBy (model prog w) A env fun e s'=>R (.error e) s') s₂) (notedBy (model prog w) A env fun e s'=>R (.error e) s') s₁') (notedBy (model prog w) A env fun e s'=>R (.error e) s') s₁) (notedBy (model prog w) A env fun e s'=>R (.error e) s') s)
    (n : Nat) (h : I n s) :
    codeAny (model prog w) A (.compLoop (.ListComp elt [⟨target,iter,ifs,0⟩] scope pos) 0 it acc env) R s:=by
  refine codeAny_loop rfl I (fun n s hI=>?_) n h
  show wpAny _ A ((compTurn (.ListComp elt [⟨target,iter,ifs,0⟩] scope pos) 0 it acc env).onRaise (fun x=>do noteFrame x env; theTreesLotGoes x)) _ _ s
  refine wpAny_noted ?_
  rw [compTurn_list]
  refine wpAny_bind (wpAny_standAt (wpAny_bind (wpAny_mono (turn n s hI) (fun r s₁ h₁=>?_) fun _ _ h'=>h')))
  cases r with
  | none=>exact wpAny_pure h₁
  | some v=>
    refine wpAny_bind (wpAny_mono h₁ (fun _ s₁' h₁'=>?_) fun _ _ h'=>h')
    refine wpAny_bind (wpAny_mono h₁' (fun _ s₂ h₂=>wpAny_bind (wpAny_mono h₂ (fun ok s₃ h₃=>?_) fun _ _ h'=>h')) fun _ _ h'=>h')
    cases ok with
    | false=>exact wpAny_pure ⟨rfl,h₃⟩
    | true=>
      exact wpAny_bind (wpAny_bind (wpAny_mono h₃ (fun x s₄ h₄=>wpAny_bind (wpAny_mono h₄ (fun _ s₅ h₅=>wpAny_pure (wpAny_pure ⟨rfl,h₅⟩)) fun _ _ h'=>h')) fun _ _ h'=>h'))
noncomputable def y5q (X : Cx) (ifs : List Expr) (t : TT) : Prop:=
  ∀ (pins : List (Addr × Obj)) (s : Shared) (σ : St) (H : Hp) (Q : Bool->Hp->Prop),Inv X pins σ H s->t σ H Q →
    wpAny (model X.prog X.w) X.A (forIn ifs true fun c r=>if r=true then do let ok ← isTrue c X.env (eval c X.env); pure (ForInStep.yield ok) else pure (ForInStep.yield r)) (TP X pins σ Q) X.xe s
noncomputable def tYes : TT:=fun _ H Q=>Q true H
theorem y6p {X : Cx} : y5q X [] tYes:=fun _ _ _ H _ I h=>wpAny_tests_nil ⟨H,I,h⟩
theorem y4z {X : Cx} {c : Expr} {t : TT} (h : PT X c t) : y5q X [c] t:=fun pins s σ H Q I hw=>wpAny_tests_one (h pins s σ H Q I hw)
noncomputable def y1K (wi : TI) (g : TG) (tc : TT) (te : TE) (k : Nat) : TE:=fun σ H Q=>wi σ H fun J H1=>∀ D,H1 D=none →
  ∃ W : Nat->Nat->St->Hp->Prop,(∃ m,W 0 m (σ ++ List.replicate k none) (upd H1 D (.lst [])))∧∀ i m σ' H',W i m σ' H' →
    (J.stop i H'∧Q (.ref D) H')∨(J.go i H'∧∃ N : St->Hp->Prop,(∀ σ'' H'',N σ'' H''->∃ m',m' < m∧W (i + 1) m' σ'' H'') ∧
      ∀ x H2,J.yld i H' x H2->g x σ' H2 fun σ2 H3=>tc σ2 H3 fun b H4=>if b=true then te σ2 H4 fun y H5=>∃ ys,H5 D=some (.lst ys)∧ys.length < sizeLine∧N σ2 (upd H5 D (.lst (ys ++ [y]))) else N σ2 H4)
structure PComp (X : Cx) (N' : List Str) (sc : Scope) (tg : Expr) (ifs : List Expr) (elt : Expr) (g : TG) (tc : TT) (te : TE) : Prop where
  pg : ∀ s H fp pins E,PG (z1c X N' sc s H fp pins E) tg g
  pt : ∀ s H fp pins E,y5q (z1c X N' sc s H fp pins E) ifs tc
  pe : ∀ s H fp pins E,PE (z1c X N' sc s H fp pins E) elt te
section
variable {X : Cx} {N' : List Str} {k : Nat} {sc : Scope} {tg iter elt : Expr} {ifs : List Expr} {pos : Pos} {g : TG} {tc : TT} {te : TE} {wi : TI}
theorem z6W {pins : List (Addr × Obj)} {σ : St} {H : Hp} {s : Shared} {J : It} {fp : List Addr} {it : Addr} {tn : Nat->Heap->Prop} {Q : VK} {E : Value->Shared->Prop} {RR : Value->Addr->Result->Shared->Prop}
    (hc : X.calm=true) (S : CompScope X.N X.env.scope.names N' k sc) (P : PComp X N' sc tg ifs elt g tc te) (I : Inv X pins σ H s) (T : Turn X.prog X.w X.K tg J fp it tn) (st : tn 0 s.heap) (hf : ∀ b∈fp,z9B X pins H b)
    (hW : ∀ D,H D=none->∃ W : Nat->Nat->St->Hp->Prop,(∃ m,W 0 m (σ ++ List.replicate k none) (upd H D (.lst [])))∧∀ i m σ' H',W i m σ' H' →
      (J.stop i H'∧Q (.ref D) H')∨(J.go i H'∧∃ N : St->Hp->Prop,(∀ σ'' H'',N σ'' H''->∃ m',m' < m∧W (i + 1) m' σ'' H'') ∧
        ∀ x H2,J.yld i H' x H2->g x σ' H2 fun σ2 H3=>tc σ2 H3 fun b H4=>if b=true then te σ2 H4 fun y H5=>∃ ys,H5 D=some (.lst ys)∧ys.length < sizeLine∧N σ2 (upd H5 D (.lst (ys ++ [y]))) else N σ2 H4))
    (hR : ∀ D s3 H3 σ' H' s' E',Inv X pins σ H3 s3->(∀ b∈fp,z9B X pins H3 b)->Inv (z1c X N' sc s3 H3 fp pins E') [] σ' H' s'->Q (.ref D) H'->RR (.ref D) s3.heap.objs.size (.ok .next) s') :
    wpAny (model X.prog X.w) X.A (newList []) (fun acc s₃=>wpAny (model X.prog X.w) X.A (newFunctionEnv sc X.env.globals (z2Z X.env.cells sc.names []) [] X.env.qual none .none (some X.env)) (fun cenv s₄=>
      codeAny (model X.prog X.w) X.A (.compStart (.ListComp elt [⟨tg,iter,ifs,0⟩] sc pos) 0 (.ref it) acc { cenv with scope:=relabel sc X.env }) (RR acc cenv.locals) s₄) E s₃) E s:=by
  obtain ⟨W,⟨m0,w0⟩,step⟩:=hW s.heap.objs.size (I.hok.fresh (Nat.le_refl _))
  have I3 : Inv X pins σ (upd H s.heap.objs.size (.lst [])) { s with heap:=s.heap.push { cls:=.type "list",data:=.seq ([] : List Value).toArray },toks:=s.toks }:=I.lnew (t':=s.toks) .nil (Nat.zero_le _)
  have lt0 : ∀ b∈fp,b < s.heap.objs.size:=fun b hb=>by
    obtain ⟨o,e,_⟩:=T.obj 0 _ st b hb
    exact Heap.lt_size e
  have hf3 : ∀ b∈fp,z9B X pins (upd H s.heap.objs.size (.lst [])) b:=fun b hb=>⟨by rw [z0z (Nat.ne_of_lt (lt0 b hb))]; exact (hf b hb).1,(hf b hb).2⟩
  have lt3 : ∀ b∈fp,b < (s.heap.push { cls:=.type "list",data:=.seq ([] : List Value).toArray }).objs.size:=fun b hb=>by
    rw [Heap.size_push]
    exact Nat.lt_succ_of_lt (lt0 b hb)
  refine wpAny_newObj_type (z2Q ?_)
  generalize hs3 : ({ s with heap:=s.heap.push { cls:=.type "list",data:=.seq ([] : List Value).toArray },toks:=s.toks } : Shared)=s3 at I3
  have hsh : s3.heap=s.heap.push { cls:=.type "list",data:=.seq ([] : List Value).toArray }:=by rw [← hs3]
  rw [← hsh] at lt3
  have st3 : tn 0 s3.heap:=T.keep _ _ _ st fun b _ o e=>by rw [hsh]; exact Heap.get?_push_of_some _ e
  show codeAny _ _ (.compStart _ 0 (.ref it) (.ref s.heap.objs.size) (compEnvC sc (cellsFrom (s3.heap.objs.size + 1) sc.names (z2Z X.env.cells sc.names [])) s3.heap.objs.size X.env)) (RR (.ref s.heap.objs.size) s3.heap.objs.size)
    { s3 with heap:=pushCells (s3.heap.push { cls:=.type "dict",data:=.dict #[] }) sc.names }
  generalize hD : s.heap.objs.size=D at *
  generalize hEn : (notedBy (model X.prog X.w) X.A (compEnvC sc (cellsFrom (s3.heap.objs.size + 1) sc.names (z2Z X.env.cells sc.names [])) s3.heap.objs.size X.env) fun e s'=>RR (.ref D) s3.heap.objs.size (.error e) s')=En
  have I4 : Inv (z1c X N' sc s3 (upd H D (.lst [])) fp pins En) [] (σ ++ List.replicate k none) (upd H D (.lst [])) { s3 with heap:=pushCells (s3.heap.push { cls:=.type "dict",data:=.dict #[] }) sc.names }:=y4P S I3 hf3 lt3
  have st4 : tn 0 (pushCells (s3.heap.push { cls:=.type "dict",data:=.dict #[] }) sc.names):=T.keep _ _ _ st3 fun b _ o e=>pushCells_keeps _ _ _ _ (Heap.get?_push_of_some _ e)
  have stat : ∀ {H' : Hp},(∀ b∈fp,H' b=none)->∀ b∈fp,z9B (z1c X N' sc s3 (upd H D (.lst [])) fp pins En) [] H' b:=fun hn b hb=>
    ⟨hn b hb,(I4.ok.exf b hb).1,I4.ok.exfs b hb,.inl hb,(I4.ok.exf b hb).2,fun p hp=>(hf3 b hb).2.2.2.2.2 p (by
      rcases List.mem_append.mp hp with z | z
      · exact z
      · exact nomatch z)⟩
  have loop : codeAny (model X.prog X.w) X.A (.compLoop (.ListComp elt [⟨tg,iter,ifs,0⟩] sc pos) 0 (.ref it) (.ref D) (z1c X N' sc s3 (upd H D (.lst [])) fp pins En).env) (RR (.ref D) s3.heap.objs.size)
      { s3 with heap:=pushCells (s3.heap.push { cls:=.type "dict",data:=.dict #[] }) sc.names }:=by
    refine z8T (fun n s'=>∃ i σ' H',Inv (z1c X N' sc s3 (upd H D (.lst [])) fp pins En) [] σ' H' s'∧tn i s'.heap∧(∀ b∈fp,H' b=none)∧W i n σ' H') ?_ m0 ⟨0,_,_,I4,st4,fun b hb=>(hf3 b hb).1,w0⟩
    have eEn : (notedBy (model X.prog X.w) X.A (z1c X N' sc s3 (upd H D (.lst [])) fp pins En).env fun e s'=>RR (.ref D) s3.heap.objs.size (.error e) s')=En:=hEn
    rw [eEn]
    rintro n s5 ⟨i,σ5,H5,I5,st5,fr5,w5⟩
    rcases step i n σ5 H5 w5 with ⟨stop,qn⟩ | ⟨go,N,hN,turn⟩
    · refine thn (T.done (z1c X N' sc s3 (upd H D (.lst [])) fp pins En) rfl rfl rfl hc i [] s5 σ5 H5 En I5 (stat fr5) st5 stop) fun r s6 ⟨hr,I6⟩=>?_
      subst hr
      exact hR D s3 _ σ5 H5 s6 En I3 hf3 I6 qn
    · refine thn (T.item (z1c X N' sc s3 (upd H D (.lst [])) fp pins En) rfl rfl rfl hc i [] s5 σ5 H5 En I5 (stat fr5) st5 go) fun r s6 ⟨u,hr,h6⟩=>?_
      subst hr
      refine thn h6 fun _ s7 ⟨x,H7,I7,r7,y7,st7,fr7⟩=>?_
      have I7':=I7.pinned (stat fr7) (T.obj _ _ st7)
      have back : ∀ {σ9 : St} {H9 : Hp} {s9 : Shared},Inv (z1c X N' sc s3 (upd H D (.lst [])) fp pins En) ([] ++ z8H fp s7.heap) σ9 H9 s9->N σ9 H9 →
          ∃ m,m < n∧∃ i σ' H',Inv (z1c X N' sc s3 (upd H D (.lst [])) fp pins En) [] σ' H' s9∧tn i s9.heap∧(∀ b∈fp,H' b=none)∧W i m σ' H':=fun {σ9 H9 s9} I9 n9=>by
        obtain ⟨m',hm,w9⟩:=hN σ9 H9 n9
        refine ⟨m',hm,i + 1,σ9,H9,I9.unpinned,T.keep _ _ _ st7 fun b hb o e=>(I9.pin (b,o) (List.mem_append_right _ (List.mem_append_right _ (z3T hb e)))).1,fun b hb=>?_,w9⟩
        obtain ⟨o,e,d⟩:=T.obj _ _ st7 b hb
        exact (I9.pin (b,o) (List.mem_append_right _ (List.mem_append_right _ (z3T hb e)))).2.1
      refine thn (P.pg s3 _ fp pins En _ s7 σ5 H7 x u _ I7' r7 (turn x H7 y7)) fun _ s8 ⟨σ8,H8,I8,q8⟩=>?_
      refine thn (P.pt s3 _ fp pins En _ s8 σ8 H8 _ I8 q8) fun ok s9 ⟨H9,I9,q9⟩=>?_
      cases ok with
      | false=>
        rw [if_neg Bool.false_ne_true] at q9
        rw [if_neg Bool.false_ne_true]
        exact back I9 q9
      | true=>
        rw [if_pos rfl] at q9
        rw [if_pos rfl]
        refine thn (P.pe s3 _ fp pins En _ s9 σ8 H9 _ I9 q9) fun y s10 ⟨yv,H10,I10,r10,ys,hys,hl,q10⟩=>?_
        refine thn (z2d _ s10 σ8 H10 (.ref D) [yv] (.ref D) [y] (fun _ H'=>N σ8 H') I10 rfl (.cons r10 .nil) ⟨D,ys,yv,rfl,rfl,hys,hl,q10⟩) fun _ s11 ⟨_,H11,I11,_,q11⟩=>?_
        exact back I11 q11
  exact codeAny_compStart_list loop (T.self X.A 0 _ _ _ st4 loop)
theorem CompScope.names' {N : List Str} {out : List (Str × NameKind)} (S : CompScope N out N' k sc) : ∀ x∈sc.names,x.2 = .local->sc.names.lookup x.1=some .local:=fun x hx e=>by
  obtain ⟨n,kd⟩:=x
  have e' : kd = .local:=e
  subst e'
  exact S.look hx
theorem y2G (hc : X.calm=true) (S : CompScope X.N X.env.scope.names N' k sc) (hi : PI X tg iter wi) (P : PComp X N' sc tg ifs elt g tc te) (hs : ∀ x,foldedSetIterable iter X.env x=pure x:=by intro _; rfl) :
    PE X (.ListComp elt [⟨tg,iter,ifs,0⟩] sc pos) (y1K wi g tc te k):=by
  intro pins s σ H Q I h
  rw [eval_ListComp]
  refine wpAny_comprehension_free (use:=none) rfl hs (z3p fun n hn=>I.ok.has n (S.fr hn)) S.kind S.names' (thn (hi pins s σ H _ I h) fun v s1 h1=>thn h1 fun itv s2 h2=>?_)
  obtain ⟨it,fp,tn,J,H2,e,I2,T,st2,f2,hW⟩:=h2
  subst e
  refine z6W (Q:=Q) (RR:=fun acc C=>compPost (model X.prog X.w) X.A X.xe none (EP X pins σ Q) acc C) hc S P I2 T st2 f2 hW ?_
  intro D s3 H3 σ' H' s' E' I3 f3 J' q
  obtain ⟨m,hn,_⟩:=J'.loc
  exact ⟨m,hn,fun h' hb=>⟨.ref D,H',y2Q I3 (z8Y I3 f3 J') J'.free hb,rfl,q⟩⟩
theorem y3W {i : Nat} {y : Str} {py spos : Pos} (hc : X.calm=true) (S : CompScope X.N X.env.scope.names N' k sc) (hN : X.N.Nodup) (hy : X.N[i]? = some y) (hyl : X.env.scope.names.lookup y=some .local) (hi : PI X tg iter wi) (P : PComp X N' sc tg ifs elt g tc te)
    (hsw : swapsWith (.ListComp elt [⟨tg,iter,ifs,0⟩] sc pos) (some (.Name y py)) spos.line X.env=pure true:=by rfl) (hs : ∀ x,foldedSetIterable iter X.env x=pure x:=by intro _; rfl) :
    PS X (.Assign [.Name y py] (.ListComp elt [⟨tg,iter,ifs,0⟩] sc pos) spos) (tAsg (y1K wi g tc te k) (z3X i)):=by
  intro pins s σ H D I h
  rw [exec_Assign_Name_used _ _ _ _ hsw]
  refine wpAny_bind (wpAny_standAt (wpAny_bind ?_))
  show wpAny _ X.A (do let _ ← comprehension (.ListComp elt [⟨tg,iter,ifs,0⟩] sc pos) sc X.env _ (newList []) false (eval iter X.env) (some (assign (.Name y py) X.env))) _ _ s
  refine wpAny_bind (wpAny_mono (wpAny_comprehension_free (use:=some (assign (.Name y py) X.env)) (Q:=fun _ s'=>SP X pins D .next s') rfl hs (z3p fun n hn=>I.ok.has n (S.fr hn)) S.kind S.names'
    (thn (hi pins s σ H _ I h) fun v s1 h1=>thn h1 fun itv s2 h2=>?_)) (fun _ s' hq=>wpAny_pure (wpAny_pure hq)) fun _ _ e=>e)
  obtain ⟨it,fp,tn,J,H2,e,I2,T,st2,f2,hW⟩:=h2
  subst e
  refine z6W (Q:=fun v H'=>D.nx (σ.set i (some v)) H') (RR:=fun acc C=>compPost (model X.prog X.w) X.A X.xe (some (assign (.Name y py) X.env)) (fun _ s'=>SP X pins D .next s') acc C) hc S P I2 T st2 f2 hW ?_
  intro a s3 H3 σ' H' s' E' I3 f3 J' q
  have J2:=z8Y I3 f3 J'
  obtain ⟨m,hn,_⟩:=J'.loc
  show wpAny _ X.A (assign (.Name y py) X.env (.ref a)) _ _ _
  refine wpAny_assign_Name (z8y J2 hN hy (.inl hyl) (v:=.ref a) rfl (fun s4 I4 hsb=>?_) (.inr hyl))
  obtain ⟨b,hb,hb'⟩:=hsb
  have hne : b≠s3.heap.objs.size:=by
    rcases hb' with z | z
    · rw [z]; exact Nat.ne_of_lt I3.lt
    · obtain ⟨v,w'⟩:=I3.cell y b z
      exact Nat.ne_of_lt w'.lt
  refine ⟨m,hn.sameBut hb (Ne.symm hne),fun h' hb2=>⟨_,H',?_,q⟩⟩
  have I3' : Inv X pins (σ.set i (some (.ref a))) H3 s3∨True:=.inr trivial
  refine I4.turned (t':=s4.toks) (it:=s3.heap.objs.size) (fun b o hne e=>(hb2.2 b hne).trans e) J'.free (Nat.ne_of_gt I3.lt) (.inr I3.sz) (fun x c e=>?_) fun p hp=>?_
  · obtain ⟨v,q⟩:=I3.cell x c e
    exact Nat.ne_of_lt q.lt
  · exact Nat.ne_of_lt (Heap.lt_size (I3.pin p hp).1)
end
end L2
namespace L2
open PySem PySem.Spec PyProof.Rows
inductive D where
  | non | bl (b : Bool) | int (i : Int) | str (x : Str) | lst (xs : List D) | tup (xs : List D) | scr (ns : List Int) | dct (ks : List Key) (xs : List D) | exc (x : Str)
noncomputable def y3K (K : PySem.W.Frag) (C : Addr) : Bool:=PySem.W.findIn K (.ref C) "__getattribute__" == some (some (.builtin "BaseException.__getattribute__")) && PySem.W.findIn K (.ref C) "__getattr__" == some none && PySem.W.mroIn K C (.type "BaseException") == some true && (PySem.W.clsIn K C).isSome && PySem.W.findIn K (.ref C) "__class__" == some (some (.builtin "object.__class__")) &&
  PySem.W.specialIn K (.builtin "object.__class__") "__get__" == some (some (.builtin "getset_descriptor.__get__")) && PySem.W.takesIn K (.builtin "object.__class__") == some true && PySem.W.mroIn K C (.type "object") == some true &&
  ["bool", "int", "str", "list", "tuple", "dict"].all fun T=>PySem.W.kitOne K (.ref C) (.type T) == some false
noncomputable def isX (a C : Addr) (h : Heap) : Prop:=∃ o,h.get? a=some o∧o.cls = .ref C∧o.dict=none∧PySem.W.notCls o=true
noncomputable def SqF (K : PySem.W.Frag) (H : Hp) (a : Addr) (xs : List V) : Prop:=
  (∃ o,H a=some (.frz o (.lst xs)))∨∃ (o : Obj) (its : Array Value) (n : Nat),K.lookup a=some o∧o.cls = .type "list" ∧ o.dict=none∧o.data = .seq its n∧its.size≤sizeLine∧Vals xs its.toList
theorem SqF.sq {K : PySem.W.Frag} {H : Hp} {a : Addr} {xs : List V} (h : SqF K H a xs) : SqL K H a xs:=h.elim (fun z=>.inl (.inr z)) .inr
mutual
def Rep (K : PySem.W.Frag) (H : Hp) (B : Addr->Prop) : D->V->Prop
  | .non,v=>v = .non
  | .bl b,v=>v = .bl b
  | .int i,v=>v = .int i
  | .str x,v=>v = .str x
  | .lst ds,v=>∃ a xs,v = .ref a∧¬ B a∧H a=some (.lst xs)∧Reps K H B ds xs
  | .tup ds,v=>∃ a xs,v = .ref a∧SqT K H a xs∧Reps K H B ds xs
  | .scr ns,v=>∃ a,v = .ref a∧SqF K H a (ns.map V.int)
  | .dct ks ds,v=>∃ a kvs,v = .ref a∧¬ B a∧H a=some (.dK kvs)∧kvs.map (·.1)=ks∧Reps K H B ds (kvs.map (·.2))
  | .exc x,v=>∃ a C,v = .ref a∧¬ B a∧H a=some (.ext (isX a C))∧PySem.W.nsIn K mainGlobals x=some (some (.ref C))∧y3K K C=true
def Reps (K : PySem.W.Frag) (H : Hp) (B : Addr->Prop) : List D->List V->Prop
  | [],xs=>xs=[]
  | d :: ds,xs=>∃ x r,xs=x :: r∧Rep K H B d x∧Reps K H B ds r
end
mutual
def Tree (K : PySem.W.Frag) (H : Hp) : D->V->List Addr->Prop
  | .non,v,A=>v = .non∧A=[]
  | .bl b,v,A=>v = .bl b∧A=[]
  | .int i,v,A=>v = .int i∧A=[]
  | .str x,v,A=>v = .str x∧A=[]
  | .lst ds,v,A=>∃ a xs B,v = .ref a∧H a=some (.lst xs)∧Trees K H ds xs B∧A=a :: B
  | .tup ds,v,A=>∃ a xs,v = .ref a∧SqT K H a xs∧Trees K H ds xs A
  | .scr ns,v,A=>(∃ a,v = .ref a∧SqF K H a (ns.map V.int))∧A=[]
  | .dct ks ds,v,A=>∃ a kvs B,v = .ref a∧H a=some (.dK kvs)∧kvs.map (·.1)=ks∧Trees K H ds (kvs.map (·.2)) B∧A=a :: B
  | .exc x,v,A=>∃ a C,v = .ref a∧H a=some (.ext (isX a C))∧PySem.W.nsIn K mainGlobals x=some (some (.ref C))∧y3K K C=true∧A=[a]
def Trees (K : PySem.W.Frag) (H : Hp) : List D->List V->List Addr->Prop
  | [],xs,A=>xs=[]∧A=[]
  | d :: ds,xs,A=>∃ x r B C,xs=x :: r∧Tree K H d x B∧Trees K H ds r C∧A=B ++ C
end
mutual
def D.imm : D->Bool
  | .non=>true
  | .bl _=>true
  | .int _=>true
  | .str _=>true
  | .lst _=>false
  | .tup ds=>z2C ds
  | .scr _=>true
  | .dct _ _=>false
  | .exc _=>false
def z2C : List D->Bool
  | []=>true
  | d :: ds=>d.imm && z2C ds
end
theorem Same.tup {K : PySem.W.Frag} {H H' : Hp} {a : Addr} {xs : List V} (e : Same H H') (h : SqT K H a xs) : SqT K H' a xs:=by
  rcases h with (h | ⟨o,h⟩) | h
  · exact .inl (.inl (e _ _ h))
  · exact .inl (.inr ⟨o,e _ _ h⟩)
  · exact .inr h
section
variable {K : PySem.W.Frag} {H H' : Hp} {B B' : Addr->Prop}
structure KeepI (K : PySem.W.Frag) (H H' : Hp) : Prop where
  st : ∀ a xs,SqT K H a xs->SqT K H' a xs
  sf : ∀ a xs,SqF K H a xs->SqF K H' a xs
structure Keep (K : PySem.W.Frag) (B : Addr->Prop) (H H' : Hp) : Prop where
  sl : ∀ a xs,¬ B a->H a=some (.lst xs)->H' a=some (.lst xs)
  st : ∀ a xs,SqT K H a xs->SqT K H' a xs
  sf : ∀ a xs,SqF K H a xs->SqF K H' a xs
  sd : ∀ a kvs,¬ B a->H a=some (.dK kvs)->H' a=some (.dK kvs)
  sx : ∀ a φ,¬ B a->H a=some (.ext φ)->H' a=some (.ext φ)
theorem Keep.i (k : Keep K B H H') : KeepI K H H':=⟨k.st,k.sf⟩
mutual
theorem Rep.keep (k : Keep K B H H') : ∀ (d : D) {v : V},Rep K H B d v->Rep K H' B d v
  | .non,_,h=>h
  | .bl _,_,h=>h
  | .int _,_,h=>h
  | .str _,_,h=>h
  | .lst ds,_,h=>by
    unfold Rep at h ⊢
    obtain ⟨a,xs,e,n,s,r⟩:=h
    exact ⟨a,xs,e,n,k.sl a xs n s,Reps.keep k ds r⟩
  | .tup ds,_,h=>by
    unfold Rep at h ⊢
    obtain ⟨a,xs,e,s,r⟩:=h
    exact ⟨a,xs,e,k.st a xs s,Reps.keep k ds r⟩
  | .scr ns,_,h=>by
    unfold Rep at h ⊢
    obtain ⟨a,e,s⟩:=h
    exact ⟨a,e,k.sf a _ s⟩
  | .dct ks ds,_,h=>by
    unfold Rep at h ⊢
    obtain ⟨a,kvs,e,n,s,q,r⟩:=h
    exact ⟨a,kvs,e,n,k.sd a kvs n s,q,Reps.keep k ds r⟩
  | .exc _,_,h=>by
    unfold Rep at h ⊢
    obtain ⟨a,C,e,n,s,r⟩:=h
    exact ⟨a,C,e,n,k.sx a _ n s,r⟩
theorem Reps.keep (k : Keep K B H H') : ∀ (ds : List D) {xs : List V},Reps K H B ds xs->Reps K H' B ds xs
  | [],_,h=>h
  | d :: ds,_,h=>by
    unfold Reps at h ⊢
    obtain ⟨x,r,e,h1,h2⟩:=h
    exact ⟨x,r,e,Rep.keep k d h1,Reps.keep k ds h2⟩
end
mutual
theorem Rep.anti (hb : ∀ a,B' a->B a) : ∀ (d : D) {v : V},Rep K H B d v->Rep K H B' d v
  | .non,_,h=>h
  | .bl _,_,h=>h
  | .int _,_,h=>h
  | .str _,_,h=>h
  | .lst ds,_,h=>by
    unfold Rep at h ⊢
    obtain ⟨a,xs,e,n,s,r⟩:=h
    exact ⟨a,xs,e,fun z=>n (hb a z),s,Reps.anti hb ds r⟩
  | .tup ds,_,h=>by
    unfold Rep at h ⊢
    obtain ⟨a,xs,e,s,r⟩:=h
    exact ⟨a,xs,e,s,Reps.anti hb ds r⟩
  | .scr _,_,h=>h
  | .dct ks ds,_,h=>by
    unfold Rep at h ⊢
    obtain ⟨a,kvs,e,n,s,q,r⟩:=h
    exact ⟨a,kvs,e,fun z=>n (hb a z),s,q,Reps.anti hb ds r⟩
  | .exc _,_,h=>by
    unfold Rep at h ⊢
    obtain ⟨a,C,e,n,r⟩:=h
    exact ⟨a,C,e,fun z=>n (hb a z),r⟩
theorem Reps.anti (hb : ∀ a,B' a->B a) : ∀ (ds : List D) {xs : List V},Reps K H B ds xs->Reps K H B' ds xs
  | [],_,h=>h
  | d :: ds,_,h=>by
    unfold Reps at h ⊢
    obtain ⟨x,r,e,h1,h2⟩:=h
    exact ⟨x,r,e,Rep.anti hb d h1,Reps.anti hb ds h2⟩
end
mutual
theorem Rep.imm : ∀ (d : D) {v : V},d.imm=true->Rep K H B d v->Rep K H B' d v
  | .non,_,_,h=>h
  | .bl _,_,_,h=>h
  | .int _,_,_,h=>h
  | .str _,_,_,h=>h
  | .lst _,_,i,_=>by unfold D.imm at i; cases i
  | .dct _ _,_,i,_=>by unfold D.imm at i; cases i
  | .exc _,_,i,_=>by unfold D.imm at i; cases i
  | .tup ds,_,i,h=>by
    unfold D.imm at i
    unfold Rep at h ⊢
    obtain ⟨a,xs,e,s,r⟩:=h
    exact ⟨a,xs,e,s,Reps.imm ds i r⟩
  | .scr _,_,_,h=>h
theorem Reps.imm : ∀ (ds : List D) {xs : List V},z2C ds=true->Reps K H B ds xs->Reps K H B' ds xs
  | [],_,_,h=>h
  | d :: ds,_,i,h=>by
    unfold z2C at i
    rw [Bool.and_eq_true] at i
    unfold Reps at h ⊢
    obtain ⟨x,r,e,h1,h2⟩:=h
    exact ⟨x,r,e,Rep.imm d i.1 h1,Reps.imm ds i.2 h2⟩
end
mutual
theorem Rep.immTree : ∀ (d : D) {v : V},d.imm=true->Rep K H B d v->Tree K H d v []
  | .non,_,_,h=>⟨h,rfl⟩
  | .bl _,_,_,h=>⟨h,rfl⟩
  | .int _,_,_,h=>⟨h,rfl⟩
  | .str _,_,_,h=>⟨h,rfl⟩
  | .lst _,_,i,_=>by unfold D.imm at i; cases i
  | .dct _ _,_,i,_=>by unfold D.imm at i; cases i
  | .exc _,_,i,_=>by unfold D.imm at i; cases i
  | .tup ds,_,i,h=>by
    unfold D.imm at i
    unfold Rep at h
    unfold Tree
    obtain ⟨a,xs,e,s,r⟩:=h
    exact ⟨a,xs,e,s,Reps.immTree ds i r⟩
  | .scr _,_,_,h=>⟨h,rfl⟩
theorem Reps.immTree : ∀ (ds : List D) {xs : List V},z2C ds=true->Reps K H B ds xs->Trees K H ds xs []
  | [],_,_,h=>⟨h,rfl⟩
  | d :: ds,_,i,h=>by
    unfold z2C at i
    rw [Bool.and_eq_true] at i
    unfold Reps at h
    unfold Trees
    obtain ⟨x,r,e,h1,h2⟩:=h
    exact ⟨x,r,[],[],e,Rep.immTree d i.1 h1,Reps.immTree ds i.2 h2,rfl⟩
end
mutual
theorem Tree.rep : ∀ (d : D) {v : V} {A : List Addr},Tree K H d v A->(∀ a∈A,¬ B a)->Rep K H B d v
  | .non,_,_,h,_=>h.1
  | .bl _,_,_,h,_=>h.1
  | .int _,_,_,h,_=>h.1
  | .str _,_,_,h,_=>h.1
  | .lst ds,_,_,h,n=>by
    unfold Tree at h
    unfold Rep
    obtain ⟨a,xs,C,e,s,r,rfl⟩:=h
    exact ⟨a,xs,e,n a List.mem_cons_self,s,Trees.rep ds r fun b hb=>n b (List.mem_cons_of_mem _ hb)⟩
  | .tup ds,_,_,h,n=>by
    unfold Tree at h
    unfold Rep
    obtain ⟨a,xs,e,s,r⟩:=h
    exact ⟨a,xs,e,s,Trees.rep ds r n⟩
  | .scr _,_,_,h,_=>h.1
  | .dct ks ds,_,_,h,n=>by
    unfold Tree at h
    unfold Rep
    obtain ⟨a,kvs,C,e,s,q,r,rfl⟩:=h
    exact ⟨a,kvs,e,n a List.mem_cons_self,s,q,Trees.rep ds r fun b hb=>n b (List.mem_cons_of_mem _ hb)⟩
  | .exc _,_,_,h,n=>by
    unfold Tree at h
    unfold Rep
    obtain ⟨a,C,e,s,r1,r2,rfl⟩:=h
    exact ⟨a,C,e,n a List.mem_cons_self,s,r1,r2⟩
theorem Trees.rep : ∀ (ds : List D) {xs : List V} {A : List Addr},Trees K H ds xs A->(∀ a∈A,¬ B a)->Reps K H B ds xs
  | [],_,_,h,_=>h.1
  | d :: ds,_,_,h,n=>by
    unfold Trees at h
    unfold Reps
    obtain ⟨x,r,C,C',e,h1,h2,rfl⟩:=h
    exact ⟨x,r,e,Tree.rep d h1 fun b hb=>n b (List.mem_append_left _ hb),Trees.rep ds h2 fun b hb=>n b (List.mem_append_right _ hb)⟩
end
mutual
theorem Tree.keep (kt : KeepI K H H') : ∀ (d : D) {v : V} {A : List Addr},Tree K H d v A->(∀ a∈A,∀ o,H a=some o->H' a=some o)->Tree K H' d v A
  | .non,_,_,h,_=>h
  | .bl _,_,_,h,_=>h
  | .int _,_,_,h,_=>h
  | .str _,_,_,h,_=>h
  | .lst ds,_,_,h,n=>by
    unfold Tree at h ⊢
    obtain ⟨a,xs,C,e,s,r,rfl⟩:=h
    exact ⟨a,xs,C,e,n a List.mem_cons_self _ s,Trees.keep kt ds r fun b hb=>n b (List.mem_cons_of_mem _ hb),rfl⟩
  | .tup ds,_,_,h,n=>by
    unfold Tree at h ⊢
    obtain ⟨a,xs,e,s,r⟩:=h
    exact ⟨a,xs,e,kt.st a xs s,Trees.keep kt ds r n⟩
  | .scr _,_,_,h,_=>by
    unfold Tree at h ⊢
    obtain ⟨⟨a,e,s⟩,q⟩:=h
    exact ⟨⟨a,e,kt.sf a _ s⟩,q⟩
  | .dct ks ds,_,_,h,n=>by
    unfold Tree at h ⊢
    obtain ⟨a,kvs,C,e,s,q,r,rfl⟩:=h
    exact ⟨a,kvs,C,e,n a List.mem_cons_self _ s,q,Trees.keep kt ds r fun b hb=>n b (List.mem_cons_of_mem _ hb),rfl⟩
  | .exc _,_,_,h,n=>by
    unfold Tree at h ⊢
    obtain ⟨a,C,e,s,r1,r2,rfl⟩:=h
    exact ⟨a,C,e,n a List.mem_cons_self _ s,r1,r2,rfl⟩
theorem Trees.keep (kt : KeepI K H H') : ∀ (ds : List D) {xs : List V} {A : List Addr},Trees K H ds xs A->(∀ a∈A,∀ o,H a=some o->H' a=some o)->Trees K H' ds xs A
  | [],_,_,h,_=>h
  | d :: ds,_,_,h,n=>by
    unfold Trees at h ⊢
    obtain ⟨x,r,C,C',e,h1,h2,rfl⟩:=h
    exact ⟨x,r,C,C',e,Tree.keep kt d h1 fun b hb=>n b (List.mem_append_left _ hb),Trees.keep kt ds h2 fun b hb=>n b (List.mem_append_right _ hb),rfl⟩
end
mutual
theorem Tree.held : ∀ (d : D) {v : V} {A : List Addr},Tree K H d v A->∀ a∈A,∃ o,H a=some o∧Mut (some o)
  | .non,_,_,h,a,ha=>by rw [h.2] at ha; cases ha
  | .bl _,_,_,h,a,ha=>by rw [h.2] at ha; cases ha
  | .int _,_,_,h,a,ha=>by rw [h.2] at ha; cases ha
  | .str _,_,_,h,a,ha=>by rw [h.2] at ha; cases ha
  | .lst ds,_,_,h,b,hb=>by
    unfold Tree at h
    obtain ⟨a,xs,C,e,s,r,rfl⟩:=h
    rcases List.mem_cons.mp hb with z | z
    · subst z; exact ⟨_,s,trivial⟩
    · exact Trees.held ds r b z
  | .tup ds,_,_,h,b,hb=>by
    unfold Tree at h
    obtain ⟨a,xs,e,s,r⟩:=h
    exact Trees.held ds r b hb
  | .scr _,_,_,h,a,ha=>by rw [h.2] at ha; cases ha
  | .dct ks ds,_,_,h,b,hb=>by
    unfold Tree at h
    obtain ⟨a,kvs,C,e,s,q,r,rfl⟩:=h
    rcases List.mem_cons.mp hb with z | z
    · subst z; exact ⟨_,s,trivial⟩
    · exact Trees.held ds r b z
  | .exc _,_,_,h,b,hb=>by
    unfold Tree at h
    obtain ⟨a,C,e,s,r1,r2,rfl⟩:=h
    rw [List.mem_singleton.mp hb]
    exact ⟨_,s,trivial⟩
theorem Trees.held : ∀ (ds : List D) {xs : List V} {A : List Addr},Trees K H ds xs A->∀ a∈A,∃ o,H a=some o∧Mut (some o)
  | [],_,_,h,a,ha=>by rw [h.2] at ha; cases ha
  | d :: ds,_,_,h,b,hb=>by
    unfold Trees at h
    obtain ⟨x,r,C,C',e,h1,h2,rfl⟩:=h
    rcases List.mem_append.mp hb with z | z
    · exact Tree.held d h1 b z
    · exact Trees.held ds h2 b z
end
theorem Same.sf (e : Same H H') {a : Addr} {xs : List V} (h : SqF K H a xs) : SqF K H' a xs:=h.elim (fun ⟨o,z⟩=>.inl ⟨o,e _ _ z⟩) .inr
theorem Keep.same (e : Same H H') : Keep K B H H':=⟨fun _ _ _ h=>e _ _ h,fun _ _ h=>e.tup h,fun _ _ h=>e.sf h,fun _ _ _ h=>e _ _ h,fun _ _ _ h=>e _ _ h⟩
theorem KeepI.same (e : Same H H') : KeepI K H H':=⟨fun _ _ h=>e.tup h,fun _ _ h=>e.sf h⟩
theorem Rep.mono {d : D} {v : V} (h : Rep K H B d v) (e : Same H H') : Rep K H' B d v:=Rep.keep (.same e) d h
theorem Reps.mono {ds : List D} {xs : List V} (h : Reps K H B ds xs) (e : Same H H') : Reps K H' B ds xs:=Reps.keep (.same e) ds h
theorem Tree.mono {d : D} {v : V} {A : List Addr} (h : Tree K H d v A) (e : Same H H') : Tree K H' d v A:=Tree.keep (.same e) d h fun a _ o z=>e a o z
theorem Trees.mono {ds : List D} {v : List V} {A : List Addr} (h : Trees K H ds v A) (e : Same H H') : Trees K H' ds v A:=Trees.keep (.same e) ds h fun a _ o z=>e a o z
mutual
theorem Rep.wide {C : Addr->Prop} (hc : ∀ a,C a->H a=none) : ∀ (d : D) {v : V},Rep K H B d v->Rep K H (fun a=>B a∨C a) d v
  | .non,_,h=>h
  | .bl _,_,h=>h
  | .int _,_,h=>h
  | .str _,_,h=>h
  | .lst ds,_,h=>by
    unfold Rep at h ⊢
    obtain ⟨a,xs,e,n,s,r⟩:=h
    refine ⟨a,xs,e,fun z=>z.elim n fun z=>?_,s,Reps.wide hc ds r⟩
    rw [hc a z] at s; cases s
  | .tup ds,_,h=>by
    unfold Rep at h ⊢
    obtain ⟨a,xs,e,s,r⟩:=h
    exact ⟨a,xs,e,s,Reps.wide hc ds r⟩
  | .scr _,_,h=>h
  | .dct ks ds,_,h=>by
    unfold Rep at h ⊢
    obtain ⟨a,kvs,e,n,s,q,r⟩:=h
    refine ⟨a,kvs,e,fun z=>z.elim n fun z=>?_,s,q,Reps.wide hc ds r⟩
    rw [hc a z] at s; cases s
  | .exc _,_,h=>by
    unfold Rep at h ⊢
    obtain ⟨a,C,e,n,s,r⟩:=h
    refine ⟨a,C,e,fun z=>z.elim n fun z=>?_,s,r⟩
    rw [hc a z] at s; cases s
theorem Reps.wide {C : Addr->Prop} (hc : ∀ a,C a->H a=none) : ∀ (ds : List D) {xs : List V},Reps K H B ds xs->Reps K H (fun a=>B a∨C a) ds xs
  | [],_,h=>h
  | d :: ds,_,h=>by
    unfold Reps at h ⊢
    obtain ⟨x,r,e,h1,h2⟩:=h
    exact ⟨x,r,e,Rep.wide hc d h1,Reps.wide hc ds h2⟩
end
theorem Keep.upd {a : Addr} {o : HO} (hb : B a) (mu : Mut (H a)) : Keep K B H (upd H a o):=by
  refine ⟨fun b xs n h=>?_,fun b xs h=>?_,fun b xs h=>?_,fun b kvs n h=>?_,fun b φ n h=>?_⟩
  · have ne : b≠a:=fun z=>n (z ▸ hb)
    rw [z0z ne]; exact h
  · rcases h with (h | ⟨u,h⟩) | h
    · have ne : b≠a:=fun z=>by subst z; rw [h] at mu; exact mu
      exact .inl (.inl (by rw [z0z ne]; exact h))
    · have ne : b≠a:=fun z=>by subst z; rw [h] at mu; exact mu
      exact .inl (.inr ⟨u,by rw [z0z ne]; exact h⟩)
    · exact .inr h
  · rcases h with ⟨u,h⟩ | h
    · have ne : b≠a:=fun z=>by subst z; rw [h] at mu; exact mu
      exact .inl ⟨u,by rw [z0z ne]; exact h⟩
    · exact .inr h
  · have ne : b≠a:=fun z=>n (z ▸ hb)
    rw [z0z ne]; exact h
  · have ne : b≠a:=fun z=>n (z ▸ hb)
    rw [z0z ne]; exact h
theorem z0q {a : Addr} {o : HO} (h : H a=none) : Same H (upd H a o):=fun b u e=>by rw [z0z (z1t e h)]; exact e
theorem Reps.length : ∀ {ds : List D} {xs : List V},Reps K H B ds xs->ds.length=xs.length
  | [],_,h=>by unfold Reps at h; subst h; rfl
  | d :: ds,_,h=>by
    unfold Reps at h
    obtain ⟨x,r,rfl,_,h2⟩:=h
    simp [Reps.length h2]
theorem Reps.get : ∀ {ds : List D} {xs : List V} {i : Nat} {d : D},Reps K H B ds xs->ds[i]? = some d->∃ x,xs[i]? = some x∧Rep K H B d x
  | [],_,_,_,_,e=>by simp at e
  | d :: ds,_,i,d',h,e=>by
    unfold Reps at h
    obtain ⟨x,r,rfl,h1,h2⟩:=h
    cases i with
    | zero=>simp at e; subst e; exact ⟨x,rfl,h1⟩
    | succ i=>simpa using Reps.get (i:=i) h2 (by simpa using e)
theorem Reps.get' : ∀ {ds : List D} {xs : List V} {i : Nat} {x : V},Reps K H B ds xs->xs[i]? = some x->∃ d,ds[i]? = some d∧Rep K H B d x
  | [],_,_,_,h,e=>by unfold Reps at h; subst h; simp at e
  | d :: ds,_,i,x',h,e=>by
    unfold Reps at h
    obtain ⟨x,r,rfl,h1,h2⟩:=h
    cases i with
    | zero=>simp at e; subst e; exact ⟨d,rfl,h1⟩
    | succ i=>simpa using Reps.get' (i:=i) h2 (by simpa using e)
theorem Reps.append : ∀ {ds es : List D} {xs ys : List V},Reps K H B ds xs->Reps K H B es ys->Reps K H B (ds ++ es) (xs ++ ys)
  | [],_,_,_,h,h'=>by unfold Reps at h; subst h; exact h'
  | d :: ds,es,_,ys,h,h'=>by
    unfold Reps at h
    obtain ⟨x,r,rfl,h1,h2⟩:=h
    exact (show Reps K H B (d :: (ds ++ es)) (x :: (r ++ ys)) by unfold Reps; exact ⟨x,r ++ ys,rfl,h1,Reps.append h2 h'⟩)
theorem Reps.take : ∀ {ds : List D} {xs : List V} (n : Nat),Reps K H B ds xs->Reps K H B (ds.take n) (xs.take n)
  | _,_,0,_=>by rw [List.take_zero,List.take_zero]; unfold Reps; rfl
  | [],_,_ + 1,h=>by unfold Reps at h; subst h; unfold Reps; rfl
  | d :: ds,_,n + 1,h=>by
    unfold Reps at h
    obtain ⟨x,r,rfl,h1,h2⟩:=h
    rw [List.take_succ_cons,List.take_succ_cons]
    unfold Reps
    exact ⟨x,_,rfl,h1,Reps.take n h2⟩
theorem Reps.drop : ∀ {ds : List D} {xs : List V} (n : Nat),Reps K H B ds xs->Reps K H B (ds.drop n) (xs.drop n)
  | _,_,0,h=>h
  | [],_,_ + 1,h=>by unfold Reps at h; subst h; unfold Reps; rfl
  | d :: ds,_,n + 1,h=>by
    unfold Reps at h
    obtain ⟨x,r,rfl,h1,h2⟩:=h
    exact Reps.drop n h2
theorem Reps.one {d : D} {x : V} (h : Rep K H B d x) : Reps K H B [d] [x]:=by unfold Reps; exact ⟨x,[],rfl,h,by unfold Reps; rfl⟩
theorem Reps.nil : Reps K H B [] []:=by unfold Reps; rfl
theorem Reps.cons {d : D} {x : V} {ds : List D} {xs : List V} (h : Rep K H B d x) (h' : Reps K H B ds xs) : Reps K H B (d :: ds) (x :: xs):=by unfold Reps; exact ⟨x,xs,rfl,h,h'⟩
theorem Reps.snoc {d : D} {x : V} {ds : List D} {xs : List V} (h' : Reps K H B ds xs) (h : Rep K H B d x) : Reps K H B (ds ++ [d]) (xs ++ [x]):=h'.append (.one h)
theorem Trees.nil : Trees K H [] [] []:=⟨rfl,rfl⟩
theorem Trees.snoc : ∀ {ds : List D} {xs : List V} {A C : List Addr} {d : D} {x : V},Trees K H ds xs A->Tree K H d x C->Trees K H (ds ++ [d]) (xs ++ [x]) (A ++ C)
  | [],_,_,C,d,x,h,h'=>by
    obtain ⟨rfl,rfl⟩:=h
    exact (show Trees K H [d] [x] C by unfold Trees; exact ⟨x,[],C,[],rfl,h',⟨rfl,rfl⟩,(List.append_nil _).symm⟩)
  | e :: ds,_,_,C,d,x,h,h'=>by
    unfold Trees at h
    obtain ⟨y,r,A1,A2,rfl,h1,h2,rfl⟩:=h
    exact (show Trees K H (e :: (ds ++ [d])) (y :: (r ++ [x])) (A1 ++ A2 ++ C) by unfold Trees; exact ⟨y,_,A1,A2 ++ C,rfl,h1,Trees.snoc h2 h',List.append_assoc _ _ _⟩)
end
end L2
namespace L2
open PySem PySem.Spec PyProof.Rows
noncomputable abbrev DS:=List (Option D)
noncomputable abbrev DE:=DS->Option D
structure RepS (K : PySem.W.Frag) (H : Hp) (B : Addr->Prop) (σ : St) (δ : DS) : Prop where
  len : δ.length=σ.length
  get : ∀ (i : Nat) (d : D),δ[i]? = some (some d)->∃ v,σ[i]? = some (some v)∧Rep K H B d v
noncomputable def InB (B : Addr->Prop) (H : Hp) : Prop:=∀ a,B a->∃ o,H a=some o
noncomputable def noB : Addr->Prop:=fun _=>False
theorem InB.mono {B : Addr->Prop} {H H' : Hp} (h : InB B H) (e : Same H H') : InB B H':=fun a b=>let ⟨o,q⟩:=h a b; ⟨o,e a o q⟩
theorem InB.no {H : Hp} : InB noB H:=fun _ b=>b.elim
theorem InB.fresh {B : Addr->Prop} {H : Hp} (h : InB B H) {a : Addr} (e : H a=none) : ¬ B a:=fun b=>by
  obtain ⟨o,q⟩:=h a b
  rw [e] at q; cases q
theorem RepS.mono {K : PySem.W.Frag} {H H' : Hp} {B : Addr->Prop} {σ : St} {δ : DS} (h : RepS K H B σ δ) (e : Same H H') : RepS K H' B σ δ:=
  ⟨h.len,fun i d q=>let ⟨v,a,r⟩:=h.get i d q; ⟨v,a,r.mono e⟩⟩
theorem RepS.anti {K : PySem.W.Frag} {H : Hp} {B B' : Addr->Prop} {σ : St} {δ : DS} (h : RepS K H B σ δ) (e : ∀ a,B' a->B a) : RepS K H B' σ δ:=
  ⟨h.len,fun i d q=>let ⟨v,a,r⟩:=h.get i d q; ⟨v,a,r.anti e⟩⟩
noncomputable def tD (K : PySem.W.Frag) (f : DE) : TE:=fun σ H Q=>∃ B δ d,InB B H∧RepS K H B σ δ∧f δ=some d∧∀ v H',Same H H'->Rep K H' B d v->Q v H'
noncomputable def tF (K : PySem.W.Frag) (f : DS->Option (List D)) : TE:=fun σ H Q=>∃ B δ ds,InB B H∧RepS K H B σ δ∧f δ=some ds ∧
  ∀ a xs H',Same H H'->H a=none->H' a=some (.lst xs)->Reps K H' B ds xs->Q (.ref a) H'
noncomputable def tN (K : PySem.W.Frag) (f : DE) : TE:=fun σ H Q=>∃ δ d,RepS K H noB σ δ∧f δ=some d∧∀ v H' A,Same H H'->Tree K H' d v A->A.Nodup->(∀ a∈A,H a=none)->Q v H'
noncomputable def tT (K : PySem.W.Frag) (f : DS->Option Bool) : TT:=fun σ H Q=>∃ B δ b,InB B H∧RepS K H B σ δ∧f δ=some b∧∀ H',Same H H'->Q b H'
noncomputable def tDs (K : PySem.W.Frag) (f : DS->Option (List D)) : TA:=fun σ H Q=>∃ B δ ds,InB B H∧RepS K H B σ δ∧f δ=some ds∧∀ vs H',Same H H'->Reps K H' B ds vs->Q vs H'
noncomputable abbrev PD (X : Cx) (e : Expr) (f : DE) : Prop:=PE X e (tD X.K f)
noncomputable abbrev PF (X : Cx) (e : Expr) (f : DS->Option (List D)) : Prop:=PE X e (tF X.K f)
noncomputable abbrev PN (X : Cx) (e : Expr) (f : DE) : Prop:=PE X e (tN X.K f)
noncomputable abbrev PTD (X : Cx) (e : Expr) (f : DS->Option Bool) : Prop:=PT X e (tT X.K f)
noncomputable abbrev PWD (X : Cx) (e : Expr) (f : DS->Option Bool) : Prop:=PW X e (tT X.K f)
section
variable {X : Cx} {e a b c : Expr} {es : List Expr} {pos : Pos}
theorem PE.imp {t t' : TE} (h : PE X e t) (w : ∀ σ H Q,t' σ H Q->t σ H Q) : PE X e t':=fun pins s σ H Q I q=>h pins s σ H Q I (w σ H Q q)
theorem PT.imp {t t' : TT} (h : PT X e t) (w : ∀ σ H Q,t' σ H Q->t σ H Q) : PT X e t':=fun pins s σ H Q I q=>h pins s σ H Q I (w σ H Q q)
theorem PW.imp {t t' : TT} (h : PW X e t) (w : ∀ σ H Q,t' σ H Q->t σ H Q) : PW X e t':=fun wh pins s σ H Q I q=>h wh pins s σ H Q I (w σ H Q q)
theorem PA.imp {t t' : TA} (h : PA X es t) (w : ∀ σ H Q,t' σ H Q->t σ H Q) : PA X es t':=fun po pins s σ H Q I q=>h po pins s σ H Q I (w σ H Q q)
noncomputable def mkL (f : DS->Option (List D)) : DE:=fun δ=>(f δ).map .lst
noncomputable def z0L (f : DS->Option (List D)) : DE:=fun δ=>(f δ).bind fun ds=>if z2C ds=true then some (.lst ds) else none
theorem iDF {K : PySem.W.Frag} {f : DS->Option (List D)} : ∀ σ H Q,tD K (mkL f) σ H Q->tF K f σ H Q:=fun σ H Q z_=>by
  obtain ⟨B,δ,d,hB,S,q,k⟩:=z_
  unfold mkL at q
  cases r : f δ with
  | none=>rw [r] at q; cases q
  | some ds=>
    rw [r] at q
    cases q
    exact ⟨B,δ,ds,hB,S,r,fun a xs H' s hn ha hr=>k _ H' s (by unfold Rep; exact ⟨a,xs,rfl,hB.fresh hn,ha,hr⟩)⟩
theorem iDN {K : PySem.W.Frag} {f : DE} : ∀ σ H Q,tD K f σ H Q->tN K f σ H Q:=fun σ H Q ⟨B,δ,d,hB,S,q,k⟩=>
  ⟨δ,d,S.anti (fun _ z=>z.elim),q,fun v H' A s t nd fr=>k v H' s (t.rep d fun a ha=>hB.fresh (fr a ha))⟩
theorem iNF {K : PySem.W.Frag} {f : DS->Option (List D)} : ∀ σ H Q,tN K (z0L f) σ H Q->tF K f σ H Q:=fun σ H Q z_=>by
  obtain ⟨δ,d,S,q,k⟩:=z_
  unfold z0L at q
  cases r : f δ with
  | none=>rw [r] at q; cases q
  | some ds=>
    rw [r] at q
    have q' : (if z2C ds=true then some (D.lst ds) else none)=some d:=q
    split at q'
    · rename_i hi
      cases q'
      refine ⟨noB,δ,ds,.no,S,r,fun a xs H' s hn ha hr=>k (.ref a) H' [a] s ?_ (List.nodup_cons.mpr ⟨(fun z=>nomatch z),List.nodup_nil⟩) (fun b hb=>by rw [List.mem_singleton.mp hb]; exact hn)⟩
      unfold Tree
      exact ⟨a,xs,[],rfl,ha,hr.immTree ds hi,rfl⟩
    · cases q'
theorem z7h {f : DS->Option (List D)} (h : PF X e f) : PD X e (mkL f):=h.imp iDF
theorem z4S {f : DE} (h : PN X e f) : PD X e f:=h.imp iDN
theorem z8g {f : DS->Option (List D)} (h : PF X e f) : PN X e (z0L f):=h.imp iNF
noncomputable def z0f (i : Nat) : DE:=fun δ=>(δ[i]?).bind id
noncomputable def dC (d : D) : DE:=fun _=>some d
theorem z0h (i : Nat) {x : Str} {p : Pos} (h : PE X (.Name x p) (y1y i)) : PD X (.Name x p) (z0f i):=h.imp fun σ H Q z_=>by
  obtain ⟨B,δ,d,hB,S,q,k⟩:=z_
  unfold z0f at q
  cases r : δ[i]? with
  | none=>rw [r] at q; cases q
  | some o=>
    rw [r] at q
    have q' : o=some d:=q
    subst q'
    obtain ⟨v,e,rv⟩:=S.get i d r
    exact ⟨v,e,k v H (.refl H) rv⟩
theorem pd_C {d : D} {v : V} (h : PE X e (tC v)) (r : ∀ K H B,Rep K H B d v) : PD X e (dC d):=h.imp fun σ H Q z_=>by
  obtain ⟨B,δ,d',hB,S,q,k⟩:=z_
  cases q
  exact k v H (.refl H) (r _ _ _)
theorem z0c {i j p} : PD X (.Constant (.int i) j p) (dC (.int i)):=pd_C pe_int fun _ _ _=>rfl
theorem z2R {i j p} : PD X (.Constant (.bool i) j p) (dC (.bl i)):=pd_C pe_bl fun _ _ _=>rfl
theorem y6D {j p} : PD X (.Constant .none j p) (dC .non):=pd_C pe_non fun _ _ _=>rfl
theorem z3z {i j p} : PD X (.Constant (.str i) j p) (dC (.str i)):=pd_C pe_str fun _ _ _=>rfl
noncomputable def d2 (F : D->D->Option D) (f g : DE) : DE:=fun δ=>(f δ).bind fun x=>(g δ).bind fun y=>F x y
theorem z6k {F : D->D->Option D} {f g : DE} {δ : DS} {d : D} (h : d2 F f g δ=some d) : ∃ x y,f δ=some x∧g δ=some y∧F x y=some d:=by
  unfold d2 at h
  cases hx : f δ with
  | none=>rw [hx] at h; cases h
  | some x=>
    rw [hx] at h
    cases hy : g δ with
    | none=>
      have h' : ((g δ).bind fun y=>F x y)=some d:=h
      rw [hy] at h'; cases h'
    | some y=>
      have h' : ((g δ).bind fun y=>F x y)=some d:=h
      rw [hy] at h'
      exact ⟨x,y,rfl,rfl,h'⟩
noncomputable def Op2 (K : PySem.W.Frag) (r : R2) (F : D->D->Option D) : Prop:=∀ (H : Hp) (B : Addr->Prop) (dx dy d : D) (x y : V) (Q : VK),InB B H->Rep K H B dx x->Rep K H B dy y->F dx dy=some d->(∀ v H',Same H H'->Rep K H' B d v->Q v H')->r x y H Q
theorem y0q {r : R2} {F : D->D->Option D} {f g : DE} (ho : Op2 X.K r F) (σ : St) (H : Hp) (Q : VK) (h : tD X.K (d2 F f g) σ H Q) : tOp r (tD X.K f) (tD X.K g) σ H Q:=by
  obtain ⟨B,δ,d,hB,S,q,k⟩:=h
  obtain ⟨dx,dy,e1,e2,e3⟩:=z6k q
  exact ⟨B,δ,dx,hB,S,e1,fun v H1 s1 r1=>⟨B,δ,dy,hB.mono s1,S.mono s1,e2,fun u H2 s2 r2=>
    ho H2 B dx dy d v u Q ((hB.mono s1).mono s2) (r1.mono s2) r2 e3 fun z H' s' rz=>k z H' ((s1.trans s2).trans s') rz⟩⟩
theorem y2L {op : Operator} {r : R2} {F : D->D->Option D} {f g : DE} (ho : OpR X (binaryOp op) r) (hD : Op2 X.K r F) (ha : PD X a f) (hb : PD X b g) : PD X (.BinOp a op b pos) (d2 F f g):=(pe_op ho ha hb).imp (y0q hD)
theorem y6H {op : CmpOp} {r : R2} {F : D->D->Option D} {f g : DE} (ho : OpR X (compareOp op) r) (hD : Op2 X.K r F) (ha : PD X a f) (hb : PD X b g) (hm : behindInMarks op b=false) : PD X (.Compare a [op] [b] pos) (d2 F f g):=(pe_cmpR ho ha hb hm).imp (y0q hD)
noncomputable def z0C (f : DE) : DS->Option Bool:=fun δ=>match f δ with
  | some (.bl b)=>some b
  | _=>none
theorem y1o {f : DE} {δ : DS} {b : Bool} (h : z0C f δ=some b) : f δ=some (.bl b):=by
  unfold z0C at h
  split at h
  · rename_i b' e
    cases h; exact e
  · cases h
theorem test_of {t : TE} {f : DE} (h : ∀ σ H Q,tD X.K f σ H Q->t σ H Q) (σ : St) (H : Hp) (Q : Bool->Hp->Prop) (q : tT X.K (z0C f) σ H Q) : tTest t σ H Q:=by
  obtain ⟨B,δ,b,hB,S,q,k⟩:=q
  refine h σ H _ ⟨B,δ,.bl b,hB,S,y1o q,fun v H' s r=>?_⟩
  exact ⟨b,r,k H' s⟩
theorem z4r {op : CmpOp} {r : R2} {F : D->D->Option D} {f g : DE} (ho : OpR X (compareOp op) r) (hD : Op2 X.K r F) (ha : PD X a f) (hb : PD X b g) (hm : behindInMarks op b=false) : PTD X (.Compare a [op] [b] pos) (z0C (d2 F f g)):=(pt_cmpR ho ha hb hm).imp (test_of (y0q hD))
noncomputable def z7c (F G : D->D->Option D) (f g h : DE) : DE:=fun δ=>(f δ).bind fun x=>(g δ).bind fun y=>match F x y with
  | some (.bl true)=>(h δ).bind fun z=>G y z
  | some (.bl false)=>some (.bl false)
  | _=>none
theorem y4W {r r' : R2} {F G : D->D->Option D} {f g h : DE} (ho : Op2 X.K r F) (ho' : Op2 X.K r' G) (σ : St) (H : Hp) (Q : VK) (q : tD X.K (z7c F G f g h) σ H Q) : y6y r r' (tD X.K f) (tD X.K g) (tD X.K h) σ H Q:=by
  obtain ⟨B,δ,d,hB,S,q,k⟩:=q
  unfold z7c at q
  cases e1 : f δ with
  | none=>rw [e1] at q; cases q
  | some x=>
    rw [e1] at q
    cases e2 : g δ with
    | none=>
      have q' : ((g δ).bind _)=some d:=q
      rw [e2] at q'; cases q'
    | some y=>
      have q' : ((g δ).bind _)=some d:=q
      rw [e2] at q'
      have q2 : (match F x y with | some (.bl true)=>(h δ).bind fun z=>G y z | some (.bl false)=>some (.bl false) | _=>none)=some d:=q'
      refine ⟨B,δ,x,hB,S,e1,fun v H1 s1 r1=>⟨B,δ,y,hB.mono s1,S.mono s1,e2,fun u H2 s2 r2=>?_⟩⟩
      split at q2
      · rename_i e3
        refine ho H2 B x y _ v u _ ((hB.mono s1).mono s2) (r1.mono s2) r2 e3 fun z H3 s3 r3=>⟨true,r3,?_⟩
        rw [if_pos rfl]
        cases e4 : h δ with
        | none=>rw [e4] at q2; cases q2
        | some w=>
          rw [e4] at q2
          have q4 : G y w=some d:=q2
          refine ⟨B,δ,w,((hB.mono s1).mono s2).mono s3,((S.mono s1).mono s2).mono s3,e4,fun t H4 s4 r4=>?_⟩
          exact ho' H4 B y w d u t Q ((((hB.mono s1).mono s2).mono s3).mono s4) ((r2.mono s3).mono s4) r4 q4 fun z' H' s' rz=>k z' H' ((((s1.trans s2).trans s3).trans s4).trans s') rz
      · rename_i e3
        cases q2
        refine ho H2 B x y _ v u _ ((hB.mono s1).mono s2) (r1.mono s2) r2 e3 fun z H3 s3 r3=>⟨false,r3,?_⟩
        rw [if_neg Bool.false_ne_true]
        exact k _ H3 ((s1.trans s2).trans s3) rfl
      · cases q2
theorem y4X {op op' : CmpOp} {r r' : R2} {F G : D->D->Option D} {f g h : DE} (ho : OpR X (compareOp op) r) (ho' : OpR X (compareOp op') r') (hF : Op2 X.K r F) (hG : Op2 X.K r' G) (ha : PD X a f) (hb : PD X b g) (hc : PD X c h)
    (hm : lastMarks [op,op'] [b,c]=false:=by with_unfolding_all rfl) : PD X (.Compare a [op,op'] [b,c] pos) (z7c F G f g h):=(y5k ho ho' ha hb hc hm).imp (y4W hF hG)
noncomputable def iop (F : Int->Int->Option D) : D->D->Option D
  | .int i,.int j=>F i j
  | _,_=>none
theorem z7v {F : Int->Int->Option D} {x y d : D} (h : iop F x y=some d) : ∃ i j,x = .int i∧y = .int j∧F i j=some d:=by
  unfold iop at h
  split at h
  · exact ⟨_,_,rfl,rfl,h⟩
  · cases h
theorem y2h {K : PySem.W.Frag} {C : Int->Int->Prop} [∀ i j,Decidable (C i j)] {g : Int->Int->Int} : Op2 K (rI C fun i j=>.int (g i j)) (iop fun i j=>if C i j then some (.int (g i j)) else none):=by
  intro H B dx dy d x y Q hB hx hy q k
  obtain ⟨i,j,rfl,rfl,q2⟩:=z7v q
  by_cases hc : C i j
  · rw [if_pos hc] at q2
    cases q2
    exact ⟨i,j,hx,hy,hc,k _ H (.refl H) rfl⟩
  · rw [if_neg hc] at q2
    cases q2
theorem y3m {K : PySem.W.Frag} {g : Int->Int->Int} : Op2 K (rI0 fun i j=>.int (g i j)) (iop fun i j=>some (.int (g i j))):=by
  intro H B dx dy d x y Q hB hx hy q k
  obtain ⟨i,j,rfl,rfl,q2⟩:=z7v q
  cases q2
  exact ⟨i,j,hx,hy,k _ H (.refl H) rfl⟩
theorem z3O {K : PySem.W.Frag} {g : Int->Int->Bool} : Op2 K (rI0 fun i j=>.bl (g i j)) (iop fun i j=>some (.bl (g i j))):=by
  intro H B dx dy d x y Q hB hx hy q k
  obtain ⟨i,j,rfl,rfl,q2⟩:=z7v q
  cases q2
  exact ⟨i,j,hx,hy,k _ H (.refl H) rfl⟩
noncomputable def d1 (F : D->Option D) (f : DE) : DE:=fun δ=>(f δ).bind F
theorem y2T {F : D->Option D} {f : DE} {δ : DS} {d : D} (h : d1 F f δ=some d) : ∃ x,f δ=some x∧F x=some d:=by
  unfold d1 at h
  cases hx : f δ with
  | none=>rw [hx] at h; cases h
  | some x=>rw [hx] at h; exact ⟨x,rfl,h⟩
noncomputable def uNeg : D->Option D
  | .int i=>some (.int (-i))
  | _=>none
theorem pd_neg {f : DE} (h : PD X a f) : PD X (.UnaryOp .USub a pos) (d1 uNeg f):=(pe_un un_neg h).imp fun σ H Q z_=>by
  obtain ⟨B,δ,d,hB,S,q,k⟩:=z_
  obtain ⟨x,e1,e2⟩:=y2T q
  refine ⟨B,δ,x,hB,S,e1,fun v H' s r=>?_⟩
  unfold uNeg at e2
  split at e2
  · cases e2
    exact ⟨_,r,k _ H' s rfl⟩
  · cases e2
noncomputable def z6Y : D->Option Bool
  | .non=>some false
  | .bl b=>some b
  | .int i=>some (i != 0)
  | .str x=>if x.length≤sizeLine then some ((x.length : Int) != 0) else none
  | .lst ds=>some (!ds.isEmpty)
  | .tup ds=>some (!ds.isEmpty)
  | .scr ns=>some (!ns.isEmpty)
  | .dct ks _=>some (!ks.isEmpty)
  | .exc _=>none
noncomputable def z1H (f : DE) : DS->Option Bool:=fun δ=>(f δ).bind z6Y
theorem y0D {K : PySem.W.Frag} {H : Hp} {B : Addr->Prop} {ds : List D} {xs : List V} (h : Reps K H B ds xs) : (!ds.isEmpty) = !xs.isEmpty:=by
  have:=h.length
  cases ds <;> cases xs <;> simp_all
theorem y3q {K : PySem.W.Frag} {H : Hp} {B : Addr->Prop} {d : D} {v : V} {k : Bool} (h : Rep K H B d v) (e : z6Y d=some k) : TruV K v H k:=by
  cases d with
  | non=>cases h; cases e; rfl
  | bl b=>cases h; cases e; rfl
  | int i=>cases h; cases e; rfl
  | str x=>
    cases h
    have e' : (if x.length≤sizeLine then some ((x.length : Int) != 0) else none)=some k:=e
    by_cases hl : x.length≤sizeLine
    · rw [if_pos hl] at e'
      cases e'
      exact ⟨hl,rfl⟩
    · rw [if_neg hl] at e'
      cases e'
  | lst ds=>
    unfold Rep at h
    obtain ⟨a,xs,rfl,_,s,r⟩:=h
    cases e
    exact .inl ⟨xs,SqL.of s,y0D r⟩
  | tup ds=>
    unfold Rep at h
    obtain ⟨a,xs,rfl,s,r⟩:=h
    cases e
    exact .inr (.inl ⟨xs,s,y0D r⟩)
  | scr ns=>
    unfold Rep at h
    obtain ⟨a,rfl,s⟩:=h
    cases e
    exact .inl ⟨_,s.sq,by cases ns <;> rfl⟩
  | dct ks ds=>
    unfold Rep at h
    obtain ⟨a,kvs,rfl,_,s,q,r⟩:=h
    cases e
    refine .inr (.inr ⟨kvs,s,?_⟩)
    rw [← q]
    cases kvs <;> rfl
  | exc _=>cases e
theorem z0I {f : DE} (h : PD X a f) (he : ∀ whole,isTrue a X.env whole=(do let v ← whole; standAt a.pos; holding [v] (truthy v)):=by intro _; rfl) : PTD X a (z1H f):=(y4N h he).imp fun σ H Q z_=>by
  obtain ⟨B,δ,k,hB,S,q,kk⟩:=z_
  unfold z1H at q
  cases e : f δ with
  | none=>rw [e] at q; cases q
  | some d=>
    rw [e] at q
    exact ⟨B,δ,d,hB,S,e,fun v H' s r=>⟨k,y3q r q,kk H' s⟩⟩
noncomputable def y3z (f g : DS->Option Bool) : DS->Option Bool:=fun δ=>(f δ).bind fun c=>if c=true then g δ else some false
noncomputable def z8m (f g : DS->Option Bool) : DS->Option Bool:=fun δ=>(f δ).bind fun c=>if c=true then some true else g δ
noncomputable def z4m (f : DS->Option Bool) : DS->Option Bool:=fun δ=>(f δ).map (!·)
theorem y4A {f : DS->Option Bool} (h : PTD X a f) : PWD X (.BoolOp .And [a] pos) f:=pw_and1 h
theorem z2O {f : DS->Option Bool} (h : PTD X a f) : PWD X (.BoolOp .Or [a] pos) f:=pw_or1 h
theorem pw_andD {rest : List Expr} {f g : DS->Option Bool} (ha : PTD X a f) (hb : PWD X (.BoolOp .And (b :: rest) pos) g) : PWD X (.BoolOp .And (a :: b :: rest) pos) (y3z f g):=(pw_and ha hb).imp fun σ H Q z_=>by
  obtain ⟨B,δ,k,hB,S,q,kk⟩:=z_
  unfold y3z at q
  cases e : f δ with
  | none=>rw [e] at q; cases q
  | some c=>
    rw [e] at q
    refine ⟨B,δ,c,hB,S,e,fun H1 s1=>?_⟩
    have q' : (if c=true then g δ else some false)=some k:=q
    cases c with
    | true=>
      rw [if_pos rfl] at q'
      refine iteT ?_
      exact ⟨B,δ,k,hB.mono s1,S.mono s1,q',fun H2 s2=>kk H2 (s1.trans s2)⟩
    | false=>
      rw [if_neg Bool.false_ne_true] at q'
      refine iteF ?_
      cases q'
      exact kk H1 s1
theorem z3n {rest : List Expr} {f g : DS->Option Bool} (ha : PTD X a f) (hb : PWD X (.BoolOp .Or (b :: rest) pos) g) : PWD X (.BoolOp .Or (a :: b :: rest) pos) (z8m f g):=(pw_or ha hb).imp fun σ H Q z_=>by
  obtain ⟨B,δ,k,hB,S,q,kk⟩:=z_
  unfold z8m at q
  cases e : f δ with
  | none=>rw [e] at q; cases q
  | some c=>
    rw [e] at q
    refine ⟨B,δ,c,hB,S,e,fun H1 s1=>?_⟩
    have q' : (if c=true then some true else g δ)=some k:=q
    cases c with
    | true=>
      rw [if_pos rfl] at q'
      refine iteT ?_
      cases q'
      exact kk H1 s1
    | false=>
      rw [if_neg Bool.false_ne_true] at q'
      refine iteF ?_
      exact ⟨B,δ,k,hB.mono s1,S.mono s1,q',fun H2 s2=>kk H2 (s1.trans s2)⟩
theorem z2S {f : DS->Option Bool} (h : PTD X a f) : PTD X (.UnaryOp .Not a pos) (z4m f):=(pt_not h).imp fun σ H Q z_=>by
  obtain ⟨B,δ,k,hB,S,q,kk⟩:=z_
  unfold z4m at q
  cases e : f δ with
  | none=>rw [e] at q; cases q
  | some c=>
    rw [e] at q
    cases q
    exact ⟨B,δ,c,hB,S,e,kk⟩
noncomputable def y0U (f g : DE) : DE:=fun δ=>match f δ with
  | some (.bl true)=>g δ
  | some (.bl false)=>some (.bl false)
  | _=>none
noncomputable def dOr (f g : DE) : DE:=fun δ=>match f δ with
  | some (.bl true)=>some (.bl true)
  | some (.bl false)=>g δ
  | _=>none
noncomputable def uNot : D->Option D
  | .bl b=>some (.bl (!b))
  | _=>none
theorem z5t {op} {f : DE} (h : PD X a f) : PD X (.BoolOp op [a] pos) f:=pe_one h
theorem z4c {rest : List Expr} {f g : DE} (ha : PD X a f) (hb : PD X (.BoolOp .And (b :: rest) pos) g) : PD X (.BoolOp .And (a :: b :: rest) pos) (y0U f g):=(pe_and ha hb).imp fun σ H Q z_=>by
  obtain ⟨B,δ,d,hB,S,q,k⟩:=z_
  unfold y0U at q
  split at q
  · rename_i e
    refine ⟨B,δ,.bl true,hB,S,e,fun v H1 s1 r=>⟨true,r,?_⟩⟩
    rw [if_pos rfl]
    exact ⟨B,δ,d,hB.mono s1,S.mono s1,q,fun v2 H2 s2 r2=>k v2 H2 (s1.trans s2) r2⟩
  · rename_i e
    cases q
    refine ⟨B,δ,.bl false,hB,S,e,fun v H1 s1 r=>⟨false,r,?_⟩⟩
    rw [if_neg Bool.false_ne_true]
    exact k _ H1 s1 rfl
  · cases q
theorem pd_or {rest : List Expr} {f g : DE} (ha : PD X a f) (hb : PD X (.BoolOp .Or (b :: rest) pos) g) : PD X (.BoolOp .Or (a :: b :: rest) pos) (dOr f g):=(pe_or ha hb).imp fun σ H Q z_=>by
  obtain ⟨B,δ,d,hB,S,q,k⟩:=z_
  unfold dOr at q
  split at q
  · rename_i e
    cases q
    refine ⟨B,δ,.bl true,hB,S,e,fun v H1 s1 r=>⟨true,r,?_⟩⟩
    rw [if_pos rfl]
    exact k _ H1 s1 rfl
  · rename_i e
    refine ⟨B,δ,.bl false,hB,S,e,fun v H1 s1 r=>⟨false,r,?_⟩⟩
    rw [if_neg Bool.false_ne_true]
    exact ⟨B,δ,d,hB.mono s1,S.mono s1,q,fun v2 H2 s2 r2=>k v2 H2 (s1.trans s2) r2⟩
  · cases q
theorem y6M {f : DE} (h : PD X a f) : PD X (.UnaryOp .Not a pos) (d1 uNot f):=(pe_not h).imp fun σ H Q z_=>by
  obtain ⟨B,δ,d,hB,S,q,k⟩:=z_
  obtain ⟨x,e1,e2⟩:=y2T q
  refine ⟨B,δ,x,hB,S,e1,fun v H' s r=>?_⟩
  unfold uNot at e2
  split at e2
  · cases e2
    exact ⟨_,r,k _ H' s rfl⟩
  · cases e2
noncomputable def z0m : List DE->DS->Option (List D)
  | [],_=>some []
  | f :: r,δ=>(f δ).bind fun x=>(z0m r δ).bind fun xs=>some (x :: xs)
theorem z5b {f : DE} {r : List DE} {δ : DS} {ds : List D} (h : z0m (f :: r) δ=some ds) : ∃ x xs,f δ=some x∧z0m r δ=some xs∧ds=x :: xs:=by
  unfold z0m at h
  cases hx : f δ with
  | none=>rw [hx] at h; cases h
  | some x=>
    rw [hx] at h
    have h' : ((z0m r δ).bind fun xs=>some (x :: xs))=some ds:=h
    cases hy : z0m r δ with
    | none=>rw [hy] at h'; cases h'
    | some xs=>
      rw [hy] at h'
      cases h'
      exact ⟨x,xs,rfl,rfl,rfl⟩
theorem z2D : ∀ {fl : List DE} {δ : DS} {ds : List D},z0m fl δ=some ds->ds.length=fl.length
  | [],_,_,h=>by cases h; rfl
  | f :: r,δ,ds,h=>by
    obtain ⟨x,xs,_,e,rfl⟩:=z5b h
    simp [z2D e]
noncomputable abbrev PAD (X : Cx) (es : List Expr) (fl : List DE) : Prop:=PA X es (tDs X.K (z0m fl))
theorem z0e : PAD X [] []:=pa_nil.imp fun σ H Q z_=>by
  obtain ⟨B,δ,ds,hB,S,q,k⟩:=z_
  cases q
  exact k [] H (.refl H) .nil
theorem z0a {f : DE} {fl : List DE} (ha : PD X e f) (hr : PAD X es fl) (hs : starEach (e :: es) X.env=(false,eval e X.env) :: starEach es X.env:=by rfl) : PAD X (e :: es) (f :: fl):=(z1L ha hr hs).imp fun σ H Q z_=>by
  obtain ⟨B,δ,ds,hB,S,q,k⟩:=z_
  obtain ⟨x,xs,e1,e2,rfl⟩:=z5b q
  exact ⟨B,δ,x,hB,S,e1,fun v H1 s1 r1=>⟨B,δ,xs,hB.mono s1,S.mono s1,e2,fun vs H2 s2 r2=>k (v :: vs) H2 (s1.trans s2) (.cons (r1.mono s2) r2)⟩⟩
theorem z1A {fl : List DE} (h : PAD X es fl) (hl : fl.length≤1000:=by decide) : PF X (.List es pos) (z0m fl):=(y3Q h).imp fun σ H Q z_=>by
  obtain ⟨B,δ,ds,hB,S,q,k⟩:=z_
  refine ⟨B,δ,ds,hB,S,q,fun vs H1 s1 r1=>⟨?_,fun p hp=>?_⟩⟩
  · rw [← r1.length,z2D q]
    exact Nat.le_of_lt (z6d hl)
  · exact k p vs _ (s1.trans (z0q hp)) (s1.free hp) z0o (r1.mono (z0q hp))
noncomputable def mkT (f : DS->Option (List D)) : DE:=fun δ=>(f δ).map .tup
theorem z2I {x1} {fl : List DE} (h : PAD X es fl) (hl : fl.length≤1000:=by decide) : PD X (.Tuple es x1 pos) (mkT (z0m fl)):=(pe_tup h).imp fun σ H Q z_=>by
  obtain ⟨B,δ,d,hB,S,q,k⟩:=z_
  unfold mkT at q
  cases r : z0m fl δ with
  | none=>rw [r] at q; cases q
  | some ds=>
    rw [r] at q
    cases q
    refine ⟨B,δ,ds,hB,S,r,fun vs H1 s1 r1=>⟨?_,fun p hp=>?_⟩⟩
    · rw [← r1.length,z2D r]
      exact Nat.le_of_lt (z6d hl)
    · refine k _ _ (s1.trans (z0q hp)) ?_
      unfold Rep
      exact ⟨p,vs,rfl,SqT.of z0o,r1.mono (z0q hp)⟩
noncomputable def ixD : D->D->Option D
  | .lst ds,.int i=>atI ds i
  | .tup ds,.int i=>atI ds i
  | .scr ns,.int i=>(atI ns i).map .int
  | _,_=>none
theorem atI_map {α β : Type} (f : α->β) (xs : List α) (i : Int) : atI (xs.map f) i=(atI xs i).map f:=by
  unfold atI
  rw [List.length_map]
  cases ixN xs.length i with
  | none=>rfl
  | some j=>simp
theorem y1a {K : PySem.W.Frag} {H : Hp} {B : Addr->Prop} {ds : List D} {xs : List V} {i : Int} {d : D} (h : Reps K H B ds xs) (e : atI ds i=some d) : ∃ x,atI xs i=some x∧Rep K H B d x:=by
  unfold atI at e ⊢
  rw [← h.length]
  cases q : ixN ds.length i with
  | none=>rw [q] at e; cases e
  | some j=>
    rw [q] at e
    exact h.get e
theorem o2_ix {K : PySem.W.Frag} : Op2 K (rIx K) ixD:=by
  intro H B dx dy d x y Q hB hx hy q k
  unfold ixD at q
  split at q
  · unfold Rep at hx
    obtain ⟨a,xs,rfl,_,s,r⟩:=hx
    obtain ⟨v,e,rv⟩:=y1a r q
    exact .inl ⟨a,xs,_,v,rfl,hy,SqL.of s,e,k v H (.refl H) rv⟩
  · unfold Rep at hx
    obtain ⟨a,xs,rfl,s,r⟩:=hx
    obtain ⟨v,e,rv⟩:=y1a r q
    exact .inr (.inl ⟨a,xs,_,v,rfl,hy,s,e,k v H (.refl H) rv⟩)
  · rename_i ns i
    unfold Rep at hx
    obtain ⟨a,rfl,s⟩:=hx
    cases e : atI ns i with
    | none=>rw [e] at q; cases q
    | some n=>
      rw [e] at q
      cases q
      exact .inl ⟨a,_,_,.int n,rfl,hy,s.sq,by rw [atI_map,e]; rfl,k _ H (.refl H) rfl⟩
  · cases q
theorem z0p {f g : DE} (ha : PD X a f) (hb : PD X b g) (hs : y2K b:=by intro _ _; rfl) : PD X (.Subscript a b pos) (d2 ixD f g):=(pe_ix ix_seq ha hb hs).imp (y0q o2_ix)
noncomputable def spR (K : PySem.W.Frag) (F : List D->Option D) : Sp:=fun vs H Q _=>∃ B ds d,InB B H∧Reps K H B ds vs∧F ds=some d∧∀ v H',Same H H'->Rep K H' B d v->Q v H'
noncomputable def spN (K : PySem.W.Frag) (F : List D->Option D) : Sp:=fun vs H Q _=>∃ ds d,Reps K H noB ds vs∧F ds=some d∧∀ v H' A,Same H H'->Tree K H' d v A->A.Nodup->(∀ a∈A,H a=none)->Q v H'
structure DefOk (P : Program) (w : World) (K : PySem.W.Frag) (mg : Str->Option Value) (base : Heap) (k : Nat) (x : Str) (sp : Sp) : Prop where
  ok : ∃ (f : Addr) (fd : FuncData) (ps : List Str),mg x=some (.ref f)∧PySem.W.keepIn K (.ref f)=true∧Binds K fd ps []∧FnOk P w K mg base CX0 k f fd ps sp
noncomputable def z0k (F : List D->Option D) (fl : List DE) : DE:=fun δ=>(z0m fl δ).bind F
theorem z4W {F : List D->Option D} {fl : List DE} {δ : DS} {d : D} (h : z0k F fl δ=some d) : ∃ ds,z0m fl δ=some ds∧F ds=some d:=by
  unfold z0k at h
  cases q : z0m fl δ with
  | none=>rw [q] at h; cases h
  | some ds=>rw [q] at h; exact ⟨ds,rfl,h⟩
end
end L2
namespace L2
open PySem PySem.Spec PyProof.Rows
section
variable {X : Cx} {e a b c : Expr} {es : List Expr} {pos p : Pos} {x : Str} {k : Nat} {tg iter elt : Expr}
theorem y0W {sp : Sp} {t : TA} (G : DefOk X.prog X.w X.K X.mg X.base k x sp) (hr : Room k X.A) (hg : Gl X x) (ha : PA X (e :: es) t) (hdb : (x == ("__debug__" : Str))=false:=by decide)
    (he : starEach (e :: es) X.env=(false,eval e X.env) :: starEach es X.env:=by rfl) (hpl : (backTo pos (starEach es X.env)).any (·.1)=false:=by rfl) : PE X (.Call (.Name x p) (e :: es) [] pos) (tCall sp [] E0 t):=by
  obtain ⟨f,fd,ps,hm,hk,hb,ok⟩:=G.ok
  exact pe_call ok hr hg hm hk hb .nil pass0 ha hdb he hpl
theorem y5e {F : List D->Option D} {fl : List DE} (G : DefOk X.prog X.w X.K X.mg X.base k x (spR X.K F)) (hr : Room k X.A) (hg : Gl X x) (ha : PAD X (e :: es) fl) (hdb : (x == ("__debug__" : Str))=false:=by decide)
    (he : starEach (e :: es) X.env=(false,eval e X.env) :: starEach es X.env:=by rfl) (hpl : (backTo pos (starEach es X.env)).any (·.1)=false:=by rfl) : PD X (.Call (.Name x p) (e :: es) [] pos) (z0k F fl):=
  (y0W G hr hg ha hdb he hpl).imp fun σ H Q z_=>by
    obtain ⟨B,δ,d,hB,S,q,k⟩:=z_
    obtain ⟨ds,e1,e2⟩:=z4W q
    refine ⟨B,δ,ds,hB,S,e1,fun vs H1 s1 r1=>?_⟩
    show spR X.K F (vs ++ []) H1 Q E0
    rw [List.append_nil]
    exact ⟨B,ds,d,hB.mono s1,r1,e2,fun v H' s' r=>k v H' (s1.trans s') r⟩
theorem z0j {F : List D->Option D} {fl : List DE} (G : DefOk X.prog X.w X.K X.mg X.base k x (spN X.K F)) (hr : Room k X.A) (hg : Gl X x) (ha : PAD X (e :: es) fl) (hdb : (x == ("__debug__" : Str))=false:=by decide)
    (he : starEach (e :: es) X.env=(false,eval e X.env) :: starEach es X.env:=by rfl) (hpl : (backTo pos (starEach es X.env)).any (·.1)=false:=by rfl) : PN X (.Call (.Name x p) (e :: es) [] pos) (z0k F fl):=
  (y0W G hr hg ha hdb he hpl).imp fun σ H Q z_=>by
    obtain ⟨δ,d,S,q,k⟩:=z_
    obtain ⟨ds,e1,e2⟩:=z4W q
    refine ⟨noB,δ,ds,.no,S,e1,fun vs H1 s1 r1=>?_⟩
    show spN X.K F (vs ++ []) H1 Q E0
    rw [List.append_nil]
    exact ⟨ds,d,r1,e2,fun v H' A s' t nd fr=>k v H' A (s1.trans s') t nd fun a ha=>s1.free (fr a ha)⟩
structure ItD (K : PySem.W.Frag) (J : It) (H : Hp) (B : Addr->Prop) (ds : List D) : Prop where
  go : ∀ i H',Keep K B H H'->i < ds.length->J.go i H'
  stop : ∀ i H',Keep K B H H'->ds.length≤i->J.stop i H'
  yld : ∀ i H' x H2,Keep K B H H'->J.yld i H' x H2->Same H' H2∧∃ d,(i < ds.length->ds[i]? = some d)∧Rep K H2 B d x
noncomputable def ItW (K : PySem.W.Frag) (J : It) (H : Hp) (B : Addr->Prop) (ds : List D) : Prop:=∀ C : Addr->Prop,(∀ a,C a->H a=none)->ItD K J H (fun a=>B a∨C a) ds
noncomputable def tI (K : PySem.W.Frag) (f : DS->Option (List D)) : TI:=fun σ H R=>∃ B δ ds,InB B H∧RepS K H B σ δ∧f δ=some ds∧∀ J H',Same H H'->ItW K J H' B ds->R J H'
noncomputable abbrev PID (X : Cx) (tg iter : Expr) (f : DS->Option (List D)) : Prop:=PI X tg iter (tI X.K f)
theorem PI.imp {wi wi' : TI} (h : PI X tg iter wi) (w : ∀ σ H R,wi' σ H R->wi σ H R) : PI X tg iter wi':=fun pins s σ H R I q=>h pins s σ H R I (w σ H R q)
noncomputable def iSeq (K : PySem.W.Frag) (tl : TE) : TI:=fun σ H R=>tl σ H fun x H1=>∃ a,x = .ref a∧(((∃ xs,SqL K H1 a xs)∧R (Itl K a) H1)∨((∃ xs,SqT K H1 a xs)∧R (Itt K a) H1))
theorem pi_seq {l : Expr} {tl : TE} (hl : PE X l tl) : PI X tg l (iSeq X.K tl):=by
  intro pins s σ H R I h
  refine thn (hl pins s σ H _ I h) fun v s1 ⟨x,H1,I1,r1,q1⟩=>?_
  obtain ⟨a,e,q1⟩:=q1
  subst e
  cases r1
  have fp : ∀ b∈[s1.heap.objs.size],z9B X pins H1 b:=fun b hb=>by
    have e : b=s1.heap.objs.size:=by simpa using hb
    subst e
    exact I1.fpOk (Nat.le_refl _) (I1.hok.fresh (Nat.le_refl _))
  rcases q1 with ⟨⟨xs,hq⟩,q⟩ | ⟨⟨xs,hq⟩,q⟩
  · obtain ⟨its,rv,p,hz⟩:=I1.list hq
    refine wpAny_pyIter_list p.isList ?_
    exact ⟨s1.heap.objs.size,[s1.heap.objs.size],_,_,H1,rfl,I1.kept (t':=s1.toks) fun b o e=>Heap.get?_push_of_some _ e,y4k a _,⟨_,Heap.get?_push_size _ rfl,rfl,rfl⟩,fp,q⟩
  · obtain ⟨its,rv,p,hz⟩:=I1.tuple hq
    refine wpAny_pyIter_tuple (show s1.heap.IsTuple a its.toArray from p) ?_
    exact ⟨s1.heap.objs.size,[s1.heap.objs.size],_,_,H1,rfl,I1.kept (t':=s1.toks) fun b o e=>Heap.get?_push_of_some _ e,y1t a _,⟨_,Heap.get?_push_size _ rfl,rfl,rfl⟩,fp,q⟩
noncomputable def y1r : D->Option (List D)
  | .lst ds=>some ds
  | .tup ds=>some ds
  | .scr ns=>some (ns.map .int)
  | _=>none
noncomputable def z3U (f : DE) : DS->Option (List D):=fun δ=>(f δ).bind y1r
theorem y4U {K : PySem.W.Frag} {H : Hp} {B : Addr->Prop} {a : Addr} {xs : List V} {ds : List D} (n : ¬ B a) (h : H a=some (.lst xs)) (r : Reps K H B ds xs) : ItD K (Itl K a) H B ds:=by
  have hl:=r.length
  refine ⟨fun i H' kp hi=>?_,fun i H' kp hi=>?_,fun i H' x H2 kp y=>?_⟩
  · exact ⟨xs,xs[i],SqL.of (kp.sl a xs n h),by rw [List.getElem?_eq_getElem]⟩
  · exact ⟨xs,SqL.of (kp.sl a xs n h),by omega⟩
  · obtain ⟨e,y⟩:=y
    subst e
    have hx:=y xs (SqL.of (kp.sl a xs n h))
    obtain ⟨d,e,rd⟩:=(Reps.keep kp ds r).get' hx
    exact ⟨.refl _,d,fun _=>e,rd⟩
theorem itd_tup {K : PySem.W.Frag} {H : Hp} {B : Addr->Prop} {a : Addr} {xs : List V} {ds : List D} (h : SqT K H a xs) (r : Reps K H B ds xs) : ItD K (Itt K a) H B ds:=by
  have hl:=r.length
  refine ⟨fun i H' kp hi=>?_,fun i H' kp hi=>?_,fun i H' x H2 kp y=>?_⟩
  · exact ⟨xs,xs[i],kp.st a xs h,by rw [List.getElem?_eq_getElem]⟩
  · exact ⟨xs,kp.st a xs h,by omega⟩
  · obtain ⟨e,y⟩:=y
    subst e
    have hx:=y xs (kp.st a xs h)
    obtain ⟨d,e,rd⟩:=(Reps.keep kp ds r).get' hx
    exact ⟨.refl _,d,fun _=>e,rd⟩
theorem z2A {K : PySem.W.Frag} {H : Hp} {B : Addr->Prop} : ∀ ns : List Int,Reps K H B (ns.map D.int) (ns.map V.int)
  | []=>.nil
  | n :: ns=>.cons rfl (z2A ns)
theorem itd_scr {K : PySem.W.Frag} {H : Hp} {B : Addr->Prop} {a : Addr} {ns : List Int} (h : SqF K H a (ns.map V.int)) : ItD K (Itl K a) H B (ns.map D.int):=by
  have r : ∀ H',Reps K H' B (ns.map D.int) (ns.map V.int):=fun _=>z2A ns
  refine ⟨fun i H' kp hi=>?_,fun i H' kp hi=>?_,fun i H' x H2 kp y=>?_⟩
  · exact ⟨ns.map V.int,(ns.map V.int)[i]'(by simpa using hi),(kp.sf a _ h).sq,by rw [List.getElem?_eq_getElem]⟩
  · exact ⟨ns.map V.int,(kp.sf a _ h).sq,by simpa using hi⟩
  · obtain ⟨e,y⟩:=y
    subst e
    have hx:=y _ (kp.sf a _ h).sq
    obtain ⟨d,e,rd⟩:=(r _).get' hx
    exact ⟨.refl _,d,fun _=>e,rd⟩
theorem z0w {l : Expr} {f : DE} (h : PD X l f) : PID X tg l (z3U f):=(pi_seq h).imp fun σ H R z_=>by
  obtain ⟨B,δ,ds,hB,S,q,k⟩:=z_
  unfold z3U at q
  cases e : f δ with
  | none=>rw [e] at q; cases q
  | some d=>
    rw [e] at q
    have q' : y1r d=some ds:=q
    refine ⟨B,δ,d,hB,S,e,fun v H1 s1 r1=>?_⟩
    unfold y1r at q'
    split at q'
    · cases q'
      unfold Rep at r1
      obtain ⟨a,xs,rfl,n,h,r⟩:=r1
      exact ⟨a,rfl,.inl ⟨⟨xs,SqL.of h⟩,k _ H1 s1 fun C hC=>y4U (fun z=>z.elim n fun z=>by rw [hC a z] at h; cases h) h (Reps.wide hC _ r)⟩⟩
    · cases q'
      unfold Rep at r1
      obtain ⟨a,xs,rfl,h,r⟩:=r1
      exact ⟨a,rfl,.inr ⟨⟨xs,h⟩,k _ H1 s1 fun C hC=>itd_tup h (Reps.wide hC _ r)⟩⟩
    · cases q'
      unfold Rep at r1
      obtain ⟨a,rfl,h⟩:=r1
      exact ⟨a,rfl,.inl ⟨⟨_,h.sq⟩,k _ H1 s1 fun C hC=>itd_scr h⟩⟩
    · cases q'
noncomputable def z4d (lo : Int) (n : Nat) : List D:=(List.range n).map fun i=>.int (lo + (i : Nat))
theorem y4J {lo : Int} {n i : Nat} (h : i < n) : (z4d lo n)[i]? = some (.int (lo + i)):=by
  unfold z4d
  rw [List.getElem?_map,List.getElem?_range h]
  rfl
theorem z4e (lo : Int) (n : Nat) : (z4d lo n).length=n:=by unfold z4d; rw [List.length_map,List.length_range]
theorem y3b {K : PySem.W.Frag} {H : Hp} {B : Addr->Prop} {lo : Int} {n : Nat} : ItD K (Itr lo n) H B (z4d lo n):=by
  refine ⟨fun i H' _ hi=>?_,fun i H' _ hi=>?_,fun i H' x H2 _ y=>?_⟩
  · rw [z4e] at hi; exact hi
  · rw [z4e] at hi; exact hi
  · obtain ⟨e,y⟩:=y
    subst e y
    exact ⟨.refl _,.int (lo + i),fun h=>y4J (by rwa [z4e] at h),rfl⟩
noncomputable def z5j (f : DE) : DS->Option (List D):=fun δ=>match f δ with
  | some (.int j)=>if -(2 ^ 62)≤j∧j < 2 ^ 62 then some (z4d 0 j.toNat) else none
  | _=>none
noncomputable def y5m (f g : DE) : DS->Option (List D):=fun δ=>match f δ,g δ with
  | some (.int i),some (.int j)=>if -(2 ^ 62)≤i∧i < 2 ^ 62∧-(2 ^ 62)≤j∧j < 2 ^ 62 then some (z4d i (j - i).toNat) else none
  | _,_=>none
theorem z5e {f : DE} (hg : Gl X "range") (hm : X.mg "range" = none) (ha : PD X a f) (hs : starEach [a] X.env=[(false,eval a X.env)]:=by rfl) : PID X tg (.Call (.Name "range" p) [a] [] pos) (z5j f):=
  (y2M hg hm (z0a ha z0e hs) hs).imp fun σ H R z_=>by
    obtain ⟨B,δ,ds,hB,S,q,k⟩:=z_
    unfold z5j at q
    split at q
    · rename_i j e
      split at q
      · rename_i hj
        cases q
        have ea : z0m [f] δ=some [.int j]:=by unfold z0m; rw [e]; rfl
        refine ⟨B,δ,[.int j],hB,S,ea,fun vs H1 s1 r1=>?_⟩
        unfold Reps at r1
        obtain ⟨x,r,rfl,rx,rr⟩:=r1
        unfold Reps at rr
        subst rr
        exact ⟨j,by rw [show x=V.int j from rx],hj.1,hj.2,k _ H1 s1 fun C _=>y3b⟩
      · cases q
    · cases q
theorem pi_rng2 {f g : DE} (hg : Gl X "range") (hm : X.mg "range" = none) (ha : PD X a f) (hb : PD X b g) (hs : starEach [a,b] X.env=[(false,eval a X.env),(false,eval b X.env)]:=by rfl) (hs2 : starEach [b] X.env=[(false,eval b X.env)]:=by rfl) :
    PID X tg (.Call (.Name "range" p) [a,b] [] pos) (y5m f g):=
  (y4e hg hm (z0a ha (z0a hb z0e hs2) (by rw [hs,hs2])) hs hs2).imp fun σ H R z_=>by
    obtain ⟨B,δ,ds,hB,S,q,k⟩:=z_
    unfold y5m at q
    split at q
    · rename_i i j e e'
      split at q
      · rename_i hj
        cases q
        have ea : z0m [f,g] δ=some [.int i,.int j]:=by unfold z0m z0m; rw [e,e']; rfl
        refine ⟨B,δ,[.int i,.int j],hB,S,ea,fun vs H1 s1 r1=>?_⟩
        unfold Reps at r1
        obtain ⟨x,r,rfl,rx,rr⟩:=r1
        unfold Reps at rr
        obtain ⟨y,r',rfl,ry,rr⟩:=rr
        unfold Reps at rr
        subst rr
        exact ⟨i,j,by rw [show x=V.int i from rx,show y=V.int j from ry],hj,k _ H1 s1 fun C _=>y3b⟩
      · cases q
    · cases q
noncomputable def y4D : Option D->List D->List D
  | some y,ys=>y :: ys
  | none,ys=>ys
noncomputable def z2t (h : D->Option (Option D)) : List D->Option (List D)
  | []=>some []
  | x :: r=>(h x).bind fun o=>(z2t h r).bind fun ys=>some (y4D o ys)
theorem z4Z {h : D->Option (Option D)} {x : D} {r ds : List D} (e : z2t h (x :: r)=some ds) : ∃ o ys,h x=some o∧z2t h r=some ys∧ds=y4D o ys:=by
  unfold z2t at e
  cases q : h x with
  | none=>rw [q] at e; cases e
  | some o=>
    rw [q] at e
    have e' : ((z2t h r).bind fun ys=>some (y4D o ys))=some ds:=e
    cases q' : z2t h r with
    | none=>rw [q'] at e'; cases e'
    | some ys=>
      rw [q'] at e'
      exact ⟨o,ys,rfl,rfl,(Option.some.inj e').symm⟩
noncomputable def z1M (fi : DS->Option (List D)) (fc : DS->Option Bool) (fe : DE) : DS->Option (List D):=fun δ=>(fi δ).bind fun xs=>if xs.length≤sizeLine then
  z2t (fun x=>(fc (δ ++ [some x])).bind fun k=>if k=true then (fe (δ ++ [some x])).map some else some none) xs else none
noncomputable def z6U : DS->Option Bool:=fun _=>some true
theorem z1q {X : Cx} : y5q X [] (tT X.K z6U):=fun pins s σ H Q I ⟨B,δ,b,hB,S,q,k⟩=>y6p pins s σ H Q I (by cases q; exact k H (.refl H))
theorem z2w {X : Cx} {c : Expr} {f : DS->Option Bool} (h : PTD X c f) : y5q X [c] (tT X.K f):=y4z h
theorem RepS.snoc {K : PySem.W.Frag} {H : Hp} {B : Addr->Prop} {σ : St} {δ : DS} {d : D} {v : V} (S : RepS K H B σ δ) (r : Rep K H B d v) : RepS K H B (σ ++ [some v]) (δ ++ [some d]):=by
  refine ⟨by simp [S.len],fun i d' e=>?_⟩
  by_cases hi : i < δ.length
  · rw [List.getElem?_append_left hi] at e
    obtain ⟨w,e',r'⟩:=S.get i d' e
    exact ⟨w,by rw [List.getElem?_append_left (by rw [← S.len]; exact hi)]; exact e',r'⟩
  · by_cases hj : i=δ.length
    · subst hj
      rw [List.getElem?_append_right (Nat.le_refl _),Nat.sub_self] at e
      cases e
      refine ⟨v,?_,r⟩
      rw [S.len,List.getElem?_append_right (Nat.le_refl _),Nat.sub_self]
      rfl
    · rw [List.getElem?_eq_none (by simp; omega)] at e
      cases e
theorem RepS.wide {K : PySem.W.Frag} {H : Hp} {B C : Addr->Prop} {σ : St} {δ : DS} (h : RepS K H B σ δ) (hc : ∀ a,C a->H a=none) : RepS K H (fun a=>B a∨C a) σ δ:=
  ⟨h.len,fun i d q=>let ⟨v,a,r⟩:=h.get i d q; ⟨v,a,Rep.wide hc d r⟩⟩
theorem z7S {w v : Option V} : ∀ {σ : St},(σ ++ [w]).set σ.length v=σ ++ [v]
  | []=>rfl
  | x :: r=>congrArg (x :: ·) (z7S (σ:=r))
variable {N' : List Str} {sc : Scope} {ifs : List Expr} {n : Nat} {px : Pos} {fi : DS->Option (List D)} {fc : DS->Option Bool} {fe : DE}
theorem y0g {σ : St} {H : Hp} {Q : VK} (hσ : σ.length=n) (hq : tF X.K (z1M fi fc fe) σ H Q) : y1K (tI X.K fi) (z3X n) (tT X.K fc) (tD X.K fe) 1 σ H Q:=by
  obtain ⟨B,δ,ds,hB,Sδ,q,k⟩:=hq
  unfold z1M at q
  cases e1 : fi δ with
  | none=>rw [e1] at q; cases q
  | some xs=>
  rw [e1] at q
  have q1 : (if xs.length≤sizeLine then z2t (fun x=>(fc (δ ++ [some x])).bind fun k=>if k=true then (fe (δ ++ [some x])).map some else some none) xs else none)=some ds:=q
  split at q1
  case isFalse=>cases q1
  case isTrue hsz=>
  refine ⟨B,δ,xs,hB,Sδ,e1,fun J H1 s1 itw=>fun Da hD=>?_⟩
  have hD0 : H Da=none:=s1.free hD
  have it:=itw (fun a=>a=Da) fun a ha=>by rw [ha]; exact hD
  have Sw : RepS X.K H1 (fun a=>B a∨a=Da) σ δ:=(Sδ.mono s1).wide fun a ha=>by rw [ha]; exact hD
  obtain ⟨I,hI⟩ : ∃ I : Nat->Nat->St->Hp->Prop,I=fun i m σ' H'=>m=xs.length - i∧i≤xs.length∧(∃ w,σ'=σ ++ [w])∧Same H1 H'∧∃ ys dn rs,H' Da=some (.lst ys)∧Reps X.K H' (fun a=>B a∨a=Da) dn ys∧ds=dn ++ rs∧dn.length≤i ∧
      z2t (fun x=>(fc (δ ++ [some x])).bind fun k=>if k=true then (fe (δ ++ [some x])).map some else some none) (xs.drop i)=some rs:=⟨_,rfl⟩
  refine ⟨I,⟨xs.length,by rw [hI]; exact ⟨by simp,Nat.zero_le _,⟨none,rfl⟩,z0q hD,[],[],ds,z0o,.nil,rfl,Nat.le_refl _,q1⟩⟩,?_⟩
  intro i m σ' H' hh
  rw [hI] at hh
  obtain ⟨rfl,hi',⟨w,rfl⟩,sm,ys,dn,rs,hys,rys,hds,hln,hrs⟩:=hh
  have kp : Keep X.K (fun a=>B a∨a=Da) H1 H':=.same sm
  by_cases hlt : i < xs.length
  · refine .inr ⟨it.go i H' kp hlt,fun σ'' H''=>I (i + 1) (xs.length - (i + 1)) σ'' H'',fun σ'' H'' h=>⟨xs.length - (i + 1),by omega,h⟩,fun xv H2 hy=>?_⟩
    obtain ⟨s2,d,hd,rd⟩:=it.yld i H' xv H2 kp hy
    have hdi:=hd hlt
    have hx : xs.drop i=d :: xs.drop (i + 1):=by
      obtain ⟨hl,e⟩:=List.getElem?_eq_some_iff.mp hdi
      rw [List.drop_eq_getElem_cons hl,e]
    rw [hx] at hrs
    obtain ⟨o,rs',e2,e3,e4⟩:=z4Z hrs
    show tT X.K fc ((σ ++ [w]).set n (some xv)) H2 _
    rw [← hσ,z7S]
    have hB1 : InB (fun a=>B a∨a=Da) H2:=fun a ha=>ha.elim (fun z=>(((hB.mono s1).mono sm).mono s2) a z) fun z=>⟨_,s2 _ _ (z ▸ hys)⟩
    have S2 : RepS X.K H2 (fun a=>B a∨a=Da) (σ ++ [some xv]) (δ ++ [some d]):=((Sw.mono sm).mono s2).snoc rd
    have hl2 : ys.length < sizeLine:=by
      have:=rys.length
      omega
    cases ec : fc (δ ++ [some d]) with
    | none=>rw [ec] at e2; cases e2
    | some kk=>
      rw [ec] at e2
      have e2' : (if kk=true then (fe (δ ++ [some d])).map some else some none)=some o:=e2
      refine ⟨_,δ ++ [some d],kk,hB1,S2,ec,fun H3 s3=>?_⟩
      cases kk with
      | false=>
        rw [if_neg Bool.false_ne_true] at e2'
        rw [if_neg Bool.false_ne_true]
        cases e2'
        rw [hI]
        exact ⟨rfl,hlt,⟨_,rfl⟩,(sm.trans s2).trans s3,ys,dn,rs',s3 _ _ (s2 _ _ hys),(rys.mono s2).mono s3,by rw [hds,e4]; rfl,Nat.le_succ_of_le hln,e3⟩
      | true=>
        rw [if_pos rfl] at e2'
        rw [if_pos rfl]
        cases ey : fe (δ ++ [some d]) with
        | none=>rw [ey] at e2'; cases e2'
        | some y=>
          rw [ey] at e2'
          cases e2'
          refine ⟨_,δ ++ [some d],y,hB1.mono s3,S2.mono s3,ey,fun yv H5 s5 r5=>⟨ys,s5 _ _ (s3 _ _ (s2 _ _ hys)),hl2,?_⟩⟩
          have hu : H5 Da=some (.lst ys):=s5 _ _ (s3 _ _ (s2 _ _ hys))
          rw [hI]
          refine ⟨rfl,hlt,⟨_,rfl⟩,fun b u hb=>?_,ys ++ [yv],dn ++ [y],rs',z0o,?_,by rw [hds,e4,List.append_assoc]; rfl,by rw [List.length_append]; simp; omega,e3⟩
          · rw [z0z (z1t hb hD)]
            exact s5 _ _ (s3 _ _ (s2 _ _ (sm _ _ hb)))
          · exact Reps.keep (.upd (.inr rfl) (by rw [hu]; exact trivial)) _ (((rys.mono s2).mono s3 |>.mono s5).snoc r5)
  · have e : i=xs.length:=by omega
    subst e
    refine .inl ⟨it.stop _ H' kp (Nat.le_refl _),?_⟩
    rw [List.drop_length] at hrs
    cases hrs
    rw [List.append_nil] at hds
    subst hds
    exact k Da ys H' (s1.trans sm) hD0 hys (rys.anti fun a z=>.inl z)
theorem z4u (hc : X.calm=true) (S : CompScope X.N X.env.scope.names N' 1 sc) (hn : n=X.N.length) (hi : PID X (.Name x px) iter fi)
    (hg : ∀ s H fp pins E,PG (z1c X N' sc s H fp pins E) (.Name x px) (z3X n)) (ht : ∀ s H fp pins E,y5q (z1c X N' sc s H fp pins E) ifs (tT X.K fc)) (he : ∀ s H fp pins E,PE (z1c X N' sc s H fp pins E) elt (tD X.K fe))
    (hs : ∀ x,foldedSetIterable iter X.env x=pure x:=by intro _; rfl) : PF X (.ListComp elt [⟨.Name x px,iter,ifs,0⟩] sc pos) (z1M fi fc fe):=by
  intro pins s σ H Q I hq
  exact y2G hc S hi ⟨hg,ht,he⟩ hs pins s σ H Q I (y0g (by rw [hn,I.len]) hq)
theorem z8G {i : Nat} {y : Str} {py spos : Pos} (hN : X.N.Nodup) (hy : X.N[i]? = some y) (hyl : X.env.scope.names.lookup y=some .local) (hc : X.calm=true) (S : CompScope X.N X.env.scope.names N' 1 sc) (hn : n=X.N.length) (hi : PID X (.Name x px) iter fi)
    (hg : ∀ s H fp pins E,PG (z1c X N' sc s H fp pins E) (.Name x px) (z3X n)) (ht : ∀ s H fp pins E,y5q (z1c X N' sc s H fp pins E) ifs (tT X.K fc)) (he : ∀ s H fp pins E,PE (z1c X N' sc s H fp pins E) elt (tD X.K fe))
    (hsw : swapsWith (.ListComp elt [⟨.Name x px,iter,ifs,0⟩] sc pos) (some (.Name y py)) spos.line X.env=pure true:=by rfl) (hs : ∀ x,foldedSetIterable iter X.env x=pure x:=by intro _; rfl) :
    PS X (.Assign [.Name y py] (.ListComp elt [⟨.Name x px,iter,ifs,0⟩] sc pos) spos) (tAsg (tF X.K (z1M fi fc fe)) (z3X i)):=by
  intro pins s σ H D I hq
  exact y3W hc S hN hy hyl hi ⟨hg,ht,he⟩ hsw hs pins s σ H D I (y0g (by rw [hn,I.len]) hq)
end
end L2
namespace L2
open PySem PySem.Spec PyProof.Rows
inductive SD where
  | sh (d : D) | ow (d : D) | bo (r : Nat) (d : D)
noncomputable abbrev SS:=List (Option SD)
noncomputable def SD.val : SD->D
  | .sh d=>d
  | .ow d=>d
  | .bo _ d=>d
noncomputable def z0H (δ : SS) : DS:=δ.map (Option.map SD.val)
noncomputable def shO : Option SD->Option D
  | some (.sh d)=>some d
  | _=>none
noncomputable def shV (δ : SS) : DS:=δ.map shO
structure RS (K : PySem.W.Frag) (H0 : Hp) (B0 : Addr->Prop) (H : Hp) (σ : St) (δ : SS) (R : Nat->List Addr) : Prop where
  keep : Same H0 H
  inB : InB B0 H0
  len : δ.length=σ.length
  new : ∀ r a,a∈R r->H0 a=none
  held : ∀ r a,a∈R r->∃ o,H a=some o∧Mut (some o)
  disj : ∀ r s a,a∈R r->a∈R s->r=s
  sh : ∀ (i : Nat) (d : D),δ[i]? = some (some (.sh d))->∃ v,σ[i]? = some (some v)∧Rep K H (fun a=>B0 a∨∃ r,a∈R r) d v
  bo : ∀ (i r : Nat) (d : D),δ[i]? = some (some (.bo r d))->∃ v,σ[i]? = some (some v)∧Rep K H (fun a=>B0 a∨∃ s,s≠r∧a∈R s) d v
  ow : ∀ (i : Nat) (d : D),δ[i]? = some (some (.ow d))->∃ v,σ[i]? = some (some v)∧Tree K H d v (R i)∧(R i).Nodup
structure Stp (R : Nat->List Addr) (H : Hp) (R' : Nat->List Addr) (H' : Hp) : Prop where
  keep : ∀ a o,H a=some o->(∀ r,a ∉ R r)->H' a=some o
  from' : ∀ r a,a∈R' r->(∃ s,a∈R s)∨H a=none
  there : ∀ a,H' a=none->H a=none
theorem Stp.refl (R : Nat->List Addr) (H : Hp) : Stp R H R H:=⟨fun _ _ h _=>h,fun r _ h=>.inl ⟨r,h⟩,fun _ h=>h⟩
theorem Stp.trans {R R1 R2 : Nat->List Addr} {H H1 H2 : Hp} (a : Stp R H R1 H1) (b : Stp R1 H1 R2 H2) : Stp R H R2 H2:=by
  refine ⟨fun x o h n=>b.keep x o (a.keep x o h n) fun r hr=>?_,fun r x h=>?_,fun x h=>a.there x (b.there x h)⟩
  · rcases a.from' r x hr with ⟨s,z⟩ | z
    · exact n s z
    · rw [h] at z; cases z
  · rcases b.from' r x h with ⟨s,z⟩ | z
    · exact a.from' s x z
    · exact .inr (a.there x z)
theorem Stp.same {R : Nat->List Addr} {H H' : Hp} (e : Same H H') : Stp R H R H':=⟨fun a o h _=>e a o h,fun r _ h=>.inl ⟨r,h⟩,fun _ h=>e.free h⟩
section
variable {K : PySem.W.Frag} {H0 H H' : Hp} {B0 : Addr->Prop} {σ : St} {δ : SS} {R : Nat->List Addr}
theorem y5Y {i : Nat} {d : D} (h : (z0H δ)[i]? = some (some d)) : ∃ x,δ[i]? = some (some x)∧x.val=d:=by
  unfold z0H at h
  rw [List.getElem?_map] at h
  cases e : δ[i]? with
  | none=>rw [e] at h; cases h
  | some o=>
    rw [e] at h
    cases o with
    | none=>cases h
    | some x=>cases h; exact ⟨x,rfl,rfl⟩
theorem shV_get {i : Nat} {d : D} (h : (shV δ)[i]? = some (some d)) : δ[i]? = some (some (.sh d)):=by
  unfold shV at h
  rw [List.getElem?_map] at h
  cases e : δ[i]? with
  | none=>rw [e] at h; cases h
  | some o=>
    rw [e] at h
    have h' : shO o=some d:=Option.some.inj h
    unfold shO at h'
    split at h'
    · cases h'; rfl
    · cases h'
theorem RS.all (h : RS K H0 B0 H σ δ R) : RepS K H noB σ (z0H δ):=by
  refine ⟨by unfold z0H; rw [List.length_map]; exact h.len,fun i d e=>?_⟩
  obtain ⟨x,e',rfl⟩:=y5Y e
  cases x with
  | sh d=>
    obtain ⟨v,e1,r⟩:=h.sh i d e'
    exact ⟨v,e1,r.anti fun _ z=>z.elim⟩
  | bo r d=>
    obtain ⟨v,e1,r⟩:=h.bo i r d e'
    exact ⟨v,e1,r.anti fun _ z=>z.elim⟩
  | ow d=>
    obtain ⟨v,e1,t,_⟩:=h.ow i d e'
    exact ⟨v,e1,t.rep d fun _ _ z=>z.elim⟩
theorem RS.shr (h : RS K H0 B0 H σ δ R) : RepS K H (fun a=>B0 a∨∃ r,a∈R r) σ (shV δ):=by
  refine ⟨by unfold shV; rw [List.length_map]; exact h.len,fun i d e=>h.sh i d (shV_get e)⟩
theorem RS.inAll (h : RS K H0 B0 H σ δ R) : InB (fun a=>B0 a∨∃ r,a∈R r) H:=fun a ha=>by
  rcases ha with z | ⟨r,z⟩
  · exact (h.inB.mono h.keep) a z
  · obtain ⟨o,e,_⟩:=h.held r a z
    exact ⟨o,e⟩
theorem RS.mono (h : RS K H0 B0 H σ δ R) (e : Same H H') : RS K H0 B0 H' σ δ R:=by
  refine ⟨h.keep.trans e,h.inB,h.len,h.new,fun r a z=>?_,h.disj,fun i d z=>?_,fun i r d z=>?_,fun i d z=>?_⟩
  · obtain ⟨o,e1,m⟩:=h.held r a z
    exact ⟨o,e a o e1,m⟩
  · obtain ⟨v,e1,r⟩:=h.sh i d z
    exact ⟨v,e1,r.mono e⟩
  · obtain ⟨v,e1,r⟩:=h.bo i r d z
    exact ⟨v,e1,r.mono e⟩
  · obtain ⟨v,e1,t,nd⟩:=h.ow i d z
    exact ⟨v,e1,t.mono e,nd⟩
theorem RS.setSh {i : Nat} {d : D} {v : V} (h : RS K H0 B0 H σ δ R) (r : Rep K H (fun a=>B0 a∨∃ r,a∈R r) d v) : RS K H0 B0 H (σ.set i (some v)) (δ.set i (some (.sh d))) R:=by
  have gs : ∀ {α : Type} {l : List (Option α)} {i j : Nat} {x : Option α} {y : α},(l.set i x)[j]? = some (some y)->(j=i∧x=some y)∨(j≠i∧l[j]? = some (some y)):=fun {α l i j x y} e=>by
    by_cases hj : j=i
    · subst hj
      rw [List.getElem?_set] at e
      simp only [if_true] at e
      split at e
      · exact .inl ⟨rfl,Option.some.inj e⟩
      · cases e
    · rw [List.getElem?_set_ne (Ne.symm hj)] at e
      exact .inr ⟨hj,e⟩
  have up : ∀ {j : Nat} {w : V},j≠i->σ[j]? = some (some w)->(σ.set i (some v))[j]? = some (some w):=fun hj e=>by rw [List.getElem?_set_ne (Ne.symm hj)]; exact e
  refine ⟨h.keep,h.inB,by simp [h.len],h.new,h.held,h.disj,fun j d' z=>?_,fun j r' d' z=>?_,fun j d' z=>?_⟩
  · rcases gs z with ⟨rfl,q⟩ | ⟨hj,q⟩
    · cases q
      have hl : j < σ.length:=by
        rw [← h.len]
        by_cases hl : j < δ.length
        · exact hl
        · rw [List.getElem?_eq_none (by simp; omega)] at z; cases z
      exact ⟨v,by rw [List.getElem?_set]; simp [hl],r⟩
    · obtain ⟨w,e1,r⟩:=h.sh j d' q
      exact ⟨w,up hj e1,r⟩
  · rcases gs z with ⟨rfl,q⟩ | ⟨hj,q⟩
    · cases q
    · obtain ⟨w,e1,r⟩:=h.bo j r' d' q
      exact ⟨w,up hj e1,r⟩
  · rcases gs z with ⟨rfl,q⟩ | ⟨hj,q⟩
    · cases q
    · obtain ⟨w,e1,t⟩:=h.ow j d' q
      exact ⟨w,up hj e1,t⟩
noncomputable def z9c (R : Nat->List Addr) (i : Nat) (A : List Addr) : Nat->List Addr:=fun r=>if r=i then A else R r
theorem z0Z {i : Nat} {A : List Addr} : z9c R i A i=A:=if_pos rfl
theorem z1C {i r : Nat} {A : List Addr} (h : r≠i) : z9c R i A r=R r:=if_neg h
theorem z2v {α : Type} {l : List (Option α)} {i j : Nat} {x : Option α} {y : α} (e : (l.set i x)[j]? = some (some y)) : (j=i∧x=some y∧i < l.length)∨(j≠i∧l[j]? = some (some y)):=by
  by_cases hj : j=i
  · subst hj
    rw [List.getElem?_set] at e
    simp only [if_true] at e
    split at e
    · rename_i hl
      exact .inl ⟨rfl,Option.some.inj e,hl⟩
    · cases e
  · rw [List.getElem?_set_ne (Ne.symm hj)] at e
    exact .inr ⟨hj,e⟩
theorem RS.setOw {Hold : Hp} {i : Nat} {d : D} {v : V} {A : List Addr} (h : RS K H0 B0 Hold σ δ R) (e : Same Hold H) (t : Tree K H d v A) (nd : A.Nodup) (fr : ∀ a∈A,Hold a=none) : RS K H0 B0 H (σ.set i (some v)) (δ.set i (some (.ow d))) (z9c R i A):=by
  have hm:=h.mono e
  have up : ∀ {j : Nat} {w : V},j≠i->σ[j]? = some (some w)->(σ.set i (some v))[j]? = some (some w):=fun hj e=>by rw [List.getElem?_set_ne (Ne.symm hj)]; exact e
  have hA : ∀ r a,a∈R r->a ∉ A:=fun r a z z'=>by
    obtain ⟨o,q,_⟩:=h.held r a z
    rw [fr a z'] at q; cases q
  have mem : ∀ r a,a∈z9c R i A r->(r=i∧a∈A)∨(r≠i∧a∈R r):=fun r a z=>by
    by_cases hr : r=i
    · subst hr; rw [z0Z] at z; exact .inl ⟨rfl,z⟩
    · rw [z1C hr] at z; exact .inr ⟨hr,z⟩
  refine ⟨hm.keep,h.inB,by simp [h.len],fun r a z=>?_,fun r a z=>?_,fun r s a z z'=>?_,fun j d' z=>?_,fun j r' d' z=>?_,fun j d' z=>?_⟩
  · rcases mem r a z with ⟨_,z⟩ | ⟨_,z⟩
    · exact h.keep.free (fr a z)
    · exact h.new r a z
  · rcases mem r a z with ⟨_,z⟩ | ⟨_,z⟩
    · exact t.held d a z
    · exact hm.held r a z
  · rcases mem r a z with ⟨h1,z⟩ | ⟨h1,z⟩ <;> rcases mem s a z' with ⟨h2,z'⟩ | ⟨h2,z'⟩
    · rw [h1,h2]
    · exact absurd z (hA s a z')
    · exact absurd z' (hA r a z)
    · exact h.disj r s a z z'
  · rcases z2v z with ⟨rfl,q,_⟩ | ⟨hj,q⟩
    · cases q
    · obtain ⟨w,e1,r⟩:=h.sh j d' q
      refine ⟨w,up hj e1,Rep.anti ?_ d' ((Rep.wide (C:=fun a=>a∈A) fr d' r).mono e)⟩
      rintro a (z | ⟨r,z⟩)
      · exact .inl (.inl z)
      · rcases mem r a z with ⟨_,z⟩ | ⟨_,z⟩
        · exact .inr z
        · exact .inl (.inr ⟨r,z⟩)
  · rcases z2v z with ⟨rfl,q,_⟩ | ⟨hj,q⟩
    · cases q
    · obtain ⟨w,e1,r⟩:=h.bo j r' d' q
      refine ⟨w,up hj e1,Rep.anti ?_ d' ((Rep.wide (C:=fun a=>a∈A) fr d' r).mono e)⟩
      rintro a (z | ⟨s,hs,z⟩)
      · exact .inl (.inl z)
      · rcases mem s a z with ⟨_,z⟩ | ⟨_,z⟩
        · exact .inr z
        · exact .inl (.inr ⟨s,hs,z⟩)
  · rcases z2v z with ⟨rfl,q,hl⟩ | ⟨hj,q⟩
    · cases q
      rw [z0Z]
      exact ⟨v,by rw [List.getElem?_set]; simp [← h.len,hl],t,nd⟩
    · obtain ⟨w,e1,t'⟩:=hm.ow j d' q
      rw [z1C hj]
      exact ⟨w,up hj e1,t'⟩
noncomputable def y4Z (i : Nat) (δ : SS) : SS:=match δ[i]? with
  | some (some (.ow d))=>δ.set i (some (.sh d))
  | _=>δ
theorem RS.frz (i : Nat) (h : RS K H0 B0 H σ δ R) : ∃ R',RS K H0 B0 H σ (y4Z i δ) R'∧∀ r a,a∈R' r->a∈R r:=by
  unfold y4Z
  split
  · rename_i d e
    obtain ⟨v,e1,t,nd⟩:=h.ow i d e
    refine ⟨z9c R i [],?_,fun r a z=>?_⟩
    · have mem : ∀ r a,a∈z9c R i [] r->r≠i∧a∈R r:=fun r a z=>by
        by_cases hr : r=i
        · subst hr; rw [z0Z] at z; cases z
        · rw [z1C hr] at z; exact ⟨hr,z⟩
      refine ⟨h.keep,h.inB,by simp [h.len],fun r a z=>h.new r a (mem r a z).2,fun r a z=>h.held r a (mem r a z).2,fun r s a z z'=>h.disj r s a (mem r a z).2 (mem s a z').2,fun j d' z=>?_,fun j r' d' z=>?_,fun j d' z=>?_⟩
      · rcases z2v z with ⟨rfl,q,hl⟩ | ⟨hj,q⟩
        · cases q
          refine ⟨v,e1,t.rep d fun a ha=>?_⟩
          rintro (z | ⟨r,z⟩)
          · obtain ⟨o,q⟩:=h.inB a z
            rw [h.new j a ha] at q; cases q
          · exact (mem r a z).1 (h.disj r j a (mem r a z).2 ha)
        · obtain ⟨w,e2,r⟩:=h.sh j d' q
          exact ⟨w,e2,r.anti fun a z=>z.imp id fun ⟨r,z⟩=>⟨r,(mem r a z).2⟩⟩
      · rcases z2v z with ⟨rfl,q,_⟩ | ⟨hj,q⟩
        · cases q
        · obtain ⟨w,e2,r⟩:=h.bo j r' d' q
          exact ⟨w,e2,r.anti fun a z=>z.imp id fun ⟨s,hs,z⟩=>⟨s,hs,(mem s a z).2⟩⟩
      · rcases z2v z with ⟨rfl,q,_⟩ | ⟨hj,q⟩
        · cases q
        · rw [z1C hj]
          exact h.ow j d' q
    · by_cases hr : r=i
      · subst hr; rw [z0Z] at z; cases z
      · rw [z1C hr] at z; exact z
  · exact ⟨R,h,fun _ _ z=>z⟩
end
inductive Out where
  | nx (δ : SS) | bk (δ : SS) | ct (δ : SS) | rt (d : D) | ex (c : Nat) (δ : SS)
noncomputable abbrev XR:=Nat->St->Hp->Prop
noncomputable abbrev noX : XR:=fun _ _ _=>False
noncomputable def Ret (K : PySem.W.Frag) (H0 : Hp) (B0 : Addr->Prop) (fr : Bool) (H : Hp) (d : D) (v : V) : Prop:=
  Same H0 H∧(fr=true->∃ A,Tree K H d v A∧A.Nodup∧∀ a∈A,H0 a=none)∧(fr=false->Rep K H B0 d v)
noncomputable def Aft (K : PySem.W.Frag) (H0 : Hp) (B0 : Addr->Prop) (fr : Bool) (RX : XR) (R : Nat->List Addr) (H : Hp) (D : Ends) : Out->Prop
  | .nx δ'=>∀ σ' H' R',RS K H0 B0 H' σ' δ' R'->Stp R H R' H'->D.nx σ' H'
  | .bk δ'=>∀ σ' H' R',RS K H0 B0 H' σ' δ' R'->Stp R H R' H'->D.bk σ' H'
  | .ct δ'=>∀ σ' H' R',RS K H0 B0 H' σ' δ' R'->Stp R H R' H'->D.ct σ' H'
  | .rt d=>∀ v H',Ret K H0 B0 fr H' d v->(∀ a,H' a=none->H a=none)->D.rt v H'
  | .ex c δ'=>∀ σ' H' R',RS K H0 B0 H' σ' δ' R'->Stp R H R' H'->RX c σ' H'
noncomputable def tS (K : PySem.W.Frag) (H0 : Hp) (B0 : Addr->Prop) (fr : Bool) (RX : XR) (g : SS->Option Out) : TS:=fun D σ H=>∃ δ R o,RS K H0 B0 H σ δ R∧g δ=some o∧Aft K H0 B0 fr RX R H D o
theorem Aft.back {K : PySem.W.Frag} {H0 : Hp} {B0 : Addr->Prop} {fr : Bool} {RX : XR} {R R1 : Nat->List Addr} {H H1 : Hp} {D : Ends} {o : Out} (h : Aft K H0 B0 fr RX R H D o) (s : Stp R H R1 H1) : Aft K H0 B0 fr RX R1 H1 D o:=by
  cases o with
  | nx δ'=>exact fun σ' H' R' r t=>h σ' H' R' r (s.trans t)
  | bk δ'=>exact fun σ' H' R' r t=>h σ' H' R' r (s.trans t)
  | ct δ'=>exact fun σ' H' R' r t=>h σ' H' R' r (s.trans t)
  | rt d=>exact fun v H' r t=>h v H' r fun a z=>s.there a (t a z)
  | ex c δ'=>exact fun σ' H' R' r t=>h σ' H' R' r (s.trans t)
theorem PS.imp {X : Cx} {st : Stmt} {t t' : TS} (h : PS X st t) (w : ∀ D σ H,t' D σ H->t D σ H) : PS X st t':=fun pins s σ H D I q=>h pins s σ H D I (w D σ H q)
theorem PSs.imp {X : Cx} {st : List Stmt} {t t' : TS} (h : PSs X st t) (w : ∀ D σ H,t' D σ H->t D σ H) : PSs X st t':=fun pins s σ H D I q=>h pins s σ H D I (w D σ H q)
section
variable {X : Cx} {H0 : Hp} {B0 : Addr->Prop} {fr : Bool} {RX : XR} {st : Stmt} {sts : List Stmt} {e : Expr} {pos : Pos}
noncomputable def z0P (g h : SS->Option Out) : SS->Option Out:=fun δ=>(g δ).bind fun o=>match o with
  | .nx δ'=>h δ'
  | o=>some o
noncomputable def z1s : SS->Option Out:=fun δ=>some (.nx δ)
theorem z0S : PSs X [] (tS X.K H0 B0 fr RX z1s):=pss_nil.imp fun D σ H z_=>by
  obtain ⟨δ,R,o,rs,q,k⟩:=z_
  cases q
  exact k σ H R rs (.refl R H)
theorem z0g {g h : SS->Option Out} (h1 : PS X st (tS X.K H0 B0 fr RX g)) (h2 : PSs X sts (tS X.K H0 B0 fr RX h)) : PSs X (st :: sts) (tS X.K H0 B0 fr RX (z0P g h)):=(y6b h1 h2).imp fun D σ H z_=>by
  obtain ⟨δ,R,o,rs,q,k⟩:=z_
  unfold z0P at q
  cases e : g δ with
  | none=>rw [e] at q; cases q
  | some o1=>
    rw [e] at q
    refine ⟨δ,R,o1,rs,e,?_⟩
    cases o1 with
    | nx δ'=>
      have q' : h δ'=some o:=q
      exact fun σ' H' R' rs' s'=>⟨δ',R',o,rs',q',k.back s'⟩
    | bk δ'=>cases q; exact k
    | ct δ'=>cases q; exact k
    | rt d=>cases q; exact k
    | ex c δ'=>cases q; exact k
theorem z0i {g : SS->Option Out} (h1 : PS X st (tS X.K H0 B0 fr RX g)) : PSs X [st] (tS X.K H0 B0 fr RX g):=pss_one h1
noncomputable abbrev PAsg (X : Cx) (st : Stmt) (i : Nat) (te : TE) : Prop:=PS X st (tAsg te (z3X i))
theorem PAsg.imp {i : Nat} {t t' : TE} (h : PAsg X st i t) (w : ∀ σ H Q,t' σ H Q->t σ H Q) : PAsg X st i t':=PS.imp h fun D σ H q=>w σ H _ q
theorem z0T {i : Nat} {x : Str} {te : TE} {pos' : Pos} (hN : X.N.Nodup) (hi : X.N[i]? = some x) (hx : Loc X.env.scope x) (he : PE X e te) (hs : swapsWith e (some (.Name x pos')) pos.line X.env=pure false:=by rfl) (hf : X.fn x=true∨X.env.scope.names.lookup x=some .local:=by first | exact .inl rfl | exact .inr rfl | assumption) :
    PAsg X (.Assign [.Name x pos'] e pos) i te:=ps_set hN hi hx he hs hf
noncomputable def y4B (i : Nat) (f : DE) : SS->Option Out:=fun δ=>(f (shV δ)).map fun d=>.nx (δ.set i (some (.sh d)))
noncomputable def z5q (i : Nat) (f : DE) : SS->Option Out:=fun δ=>(f (z0H δ)).bind fun d=>if d.imm=true then some (.nx (δ.set i (some (.sh d)))) else none
noncomputable def z4b (i : Nat) (f : DE) : SS->Option Out:=fun δ=>(f (z0H δ)).map fun d=>.nx (δ.set i (some (.ow d)))
theorem z8W {i : Nat} {f : DE} (h : PAsg X st i (tD X.K f)) : PS X st (tS X.K H0 B0 fr RX (y4B i f)):=PS.imp h fun D σ H z_=>by
  obtain ⟨δ,R,o,rs,q,k⟩:=z_
  unfold y4B at q
  cases e : f (shV δ) with
  | none=>rw [e] at q; cases q
  | some d=>
    rw [e] at q
    cases q
    exact ⟨_,shV δ,d,rs.inAll,rs.shr,e,fun v H' s r=>k _ H' R ((rs.mono s).setSh r) (.same s)⟩
theorem z2x {i : Nat} {f : DE} (h : PAsg X st i (tD X.K f)) : PS X st (tS X.K H0 B0 fr RX (z5q i f)):=PS.imp h fun D σ H z_=>by
  obtain ⟨δ,R,o,rs,q,k⟩:=z_
  unfold z5q at q
  cases e : f (z0H δ) with
  | none=>rw [e] at q; cases q
  | some d=>
    rw [e] at q
    have q' : (if d.imm=true then some (Out.nx (δ.set i (some (.sh d)))) else none)=some o:=q
    split at q'
    · rename_i hi
      cases q'
      exact ⟨noB,z0H δ,d,.no,rs.all,e,fun v H' s r=>k _ H' R ((rs.mono s).setSh (r.imm d hi)) (.same s)⟩
    · cases q'
theorem z0X {i : Nat} {f : DE} (h : PAsg X st i (tN X.K f)) : PS X st (tS X.K H0 B0 fr RX (z4b i f)):=PS.imp h fun D σ H z_=>by
  obtain ⟨δ,R,o,rs,q,k⟩:=z_
  unfold z4b at q
  cases e : f (z0H δ) with
  | none=>rw [e] at q; cases q
  | some d=>
    rw [e] at q
    cases q
    refine ⟨z0H δ,d,rs.all,e,fun v H' A s t nd fr'=>k _ H' (z9c R i A) (rs.setOw s t nd fr') ⟨fun a o h _=>s a o h,fun r a z=>?_,fun a z=>s.free z⟩⟩
    by_cases hr : r=i
    · subst hr; rw [z0Z] at z; exact .inr (fr' a z)
    · rw [z1C hr] at z; exact .inl ⟨r,z⟩
noncomputable def z2r (f : DE) : SS->Option Out:=fun δ=>(f (z0H δ)).bind fun d=>if d.imm=true then some (.rt d) else none
noncomputable def y6x (f : DE) : SS->Option Out:=fun δ=>(f (z0H δ)).map .rt
noncomputable def retS (f : DE) : SS->Option Out:=fun δ=>(f (shV δ)).map .rt
noncomputable def y2r (i : Nat) : SS->Option Out:=fun δ=>match δ[i]? with
  | some (some (.ow d))=>some (.rt d)
  | _=>none
theorem z0x {f : DE} (h : PD X e f) : PS X (.Return (some e) pos) (tS X.K H0 B0 fr RX (z2r f)):=PS.imp (z8R h) fun D σ H z_=>by
  obtain ⟨δ,R,o,rs,q,k⟩:=z_
  unfold z2r at q
  cases e : f (z0H δ) with
  | none=>rw [e] at q; cases q
  | some d=>
    rw [e] at q
    have q' : (if d.imm=true then some (Out.rt d) else none)=some o:=q
    split at q'
    · rename_i hi
      cases q'
      exact ⟨noB,z0H δ,d,.no,rs.all,e,fun v H' s r=>k v H' ⟨rs.keep.trans s,fun _=>⟨[],r.immTree d hi,List.nodup_nil,(fun a z=>nomatch z)⟩,fun _=>r.imm d hi⟩ fun a z=>s.free z⟩
    · cases q'
theorem y0o {f : DE} (h : PN X e f) : PS X (.Return (some e) pos) (tS X.K H0 B0 fr RX (y6x f)):=PS.imp (z8R h) fun D σ H z_=>by
  obtain ⟨δ,R,o,rs,q,k⟩:=z_
  unfold y6x at q
  cases e : f (z0H δ) with
  | none=>rw [e] at q; cases q
  | some d=>
    rw [e] at q
    cases q
    exact ⟨z0H δ,d,rs.all,e,fun v H' A s t nd fr'=>k v H' ⟨rs.keep.trans s,fun _=>⟨A,t,nd,fun a z=>rs.keep.free (fr' a z)⟩,fun _=>t.rep d fun a z=>rs.inB.fresh (rs.keep.free (fr' a z))⟩ fun a z=>s.free z⟩
theorem y3R {f : DE} (h : PD X e f) : PS X (.Return (some e) pos) (tS X.K H0 B0 false RX (retS f)):=PS.imp (z8R h) fun D σ H z_=>by
  obtain ⟨δ,R,o,rs,q,k⟩:=z_
  unfold retS at q
  cases e : f (shV δ) with
  | none=>rw [e] at q; cases q
  | some d=>
    rw [e] at q
    cases q
    exact ⟨_,shV δ,d,rs.inAll,rs.shr,e,fun v H' s r=>k v H' ⟨rs.keep.trans s,(fun z=>nomatch z),fun _=>r.anti fun a z=>.inl z⟩ fun a z=>s.free z⟩
theorem z6N {i : Nat} (h : PE X e (y1y i)) : PS X (.Return (some e) pos) (tS X.K H0 B0 fr RX (y2r i)):=PS.imp (z8R h) fun D σ H z_=>by
  obtain ⟨δ,R,o,rs,q,k⟩:=z_
  unfold y2r at q
  split at q
  · rename_i d e
    cases q
    obtain ⟨v,e1,t,nd⟩:=rs.ow i d e
    exact ⟨v,e1,k v H ⟨rs.keep,fun _=>⟨R i,t,nd,fun a z=>rs.new i a z⟩,fun _=>t.rep d fun a z=>rs.inB.fresh (rs.new i a z)⟩ fun a z=>z⟩
  · cases q
noncomputable def ifO (c : DS->Option Bool) (g h : SS->Option Out) : SS->Option Out:=fun δ=>(c (z0H δ)).bind fun b=>if b=true then g δ else h δ
theorem z4v {c : Expr} {a b : List Stmt} {f : DS->Option Bool} {g h : SS->Option Out} (hc : PTD X c f) (ha : PSs X a (tS X.K H0 B0 fr RX g)) (hb : PSs X b (tS X.K H0 B0 fr RX h)) : PS X (.If c a b pos) (tS X.K H0 B0 fr RX (ifO f g h)):=PS.imp (ps_if hc ha hb) fun D σ H z_=>by
  obtain ⟨δ,R,o,rs,q,k⟩:=z_
  unfold ifO at q
  cases e : f (z0H δ) with
  | none=>rw [e] at q; cases q
  | some b=>
    rw [e] at q
    have q' : (if b=true then g δ else h δ)=some o:=q
    refine ⟨noB,z0H δ,b,.no,rs.all,e,fun H' s=>?_⟩
    cases b with
    | true=>
      rw [if_pos rfl] at q'
      refine iteT ?_
      exact ⟨δ,R,o,rs.mono s,q',k.back (.same s)⟩
    | false=>
      rw [if_neg Bool.false_ne_true] at q'
      refine iteF ?_
      exact ⟨δ,R,o,rs.mono s,q',k.back (.same s)⟩
noncomputable def frzO (i : Nat) (g : SS->Option Out) : SS->Option Out:=fun δ=>g (y4Z i δ)
theorem s_frz (i : Nat) {g : SS->Option Out} (h : PS X st (tS X.K H0 B0 fr RX g)) : PS X st (tS X.K H0 B0 fr RX (frzO i g)):=PS.imp h fun D σ H z_=>by
  obtain ⟨δ,R,o,rs,q,k⟩:=z_
  obtain ⟨R',rs',hs⟩:=rs.frz i
  exact ⟨y4Z i δ,R',o,rs',q,k.back ⟨fun a o h _=>h,fun r a z=>.inl ⟨r,hs r a z⟩,fun a z=>z⟩⟩
noncomputable def z4B (i : Nat) (b : SS->Option Out) : List D->SS->Option Out
  | [],δ=>some (.nx δ)
  | x :: r,δ=>(b (δ.set i (some (.sh x)))).bind fun o=>match o with
    | .nx δ'=>z4B i b r δ'
    | .ct δ'=>z4B i b r δ'
    | .bk δ'=>some (.nx δ')
    | .rt d=>some (.rt d)
    | .ex c δ'=>some (.ex c δ')
noncomputable def z5K (i : Nat) (f : DS->Option (List D)) (b : SS->Option Out) : SS->Option Out:=fun δ=>(f (shV δ)).bind fun ds=>z4B i b ds δ
theorem Stp.keepB {K : PySem.W.Frag} {R R' : Nat->List Addr} {H H' : Hp} {B : Addr->Prop} (s : Stp R H R' H') (hR : ∀ r a,a∈R r->B a) (hm : ∀ r a,a∈R r->∃ o,H a=some o∧Mut (some o)) : Keep K B H H':=by
  have kp : ∀ a o,H a=some o->¬ Mut (some o)->H' a=some o:=fun a o e n=>s.keep a o e fun r z=>by
    obtain ⟨o',e',m⟩:=hm r a z
    rw [e] at e'; cases e'
    exact n m
  refine ⟨fun a xs n h=>s.keep a _ h fun r z=>n (hR r a z),fun a xs h=>?_,fun a xs h=>?_,fun a kvs n h=>s.keep a _ h fun r z=>n (hR r a z),fun a φ n h=>s.keep a _ h fun r z=>n (hR r a z)⟩
  · rcases h with (h | ⟨o,h⟩) | h
    · exact .inl (.inl (kp a _ h fun z=>z))
    · exact .inl (.inr ⟨o,kp a _ h fun z=>z⟩)
    · exact .inr h
  · rcases h with ⟨o,h⟩ | h
    · exact .inl ⟨o,kp a _ h fun z=>z⟩
    · exact .inr h
theorem z2W {i : Nat} {x : Str} {px : Pos} {iter : Expr} {body : List Stmt} {f : DS->Option (List D)} {g : SS->Option Out} (hp : PassesOwn (model X.prog X.w) X.A X.env X.xe) (hc : X.calm=true) (hi : PID X (.Name x px) iter f) (hg : PG X (.Name x px) (z3X i)) (hb : PSs X body (tS X.K H0 B0 fr RX g))
    (hs : ∀ x,foldedSetIterable iter X.env x=pure x:=by intro _; rfl) : PS X (.For (.Name x px) iter body [] pos) (tS X.K H0 B0 fr RX (z5K i f g)):=PS.imp (ps_for hp hc hi hg hb hs) fun D σ H z_=>by
  obtain ⟨δ,R,o,rs,q,k⟩:=z_
  unfold z5K at q
  cases e : f (shV δ) with
  | none=>rw [e] at q; cases q
  | some ds=>
  rw [e] at q
  have q : z4B i g ds δ=some o:=q
  refine ⟨_,shV δ,ds,rs.inAll,rs.shr,e,fun J H1 s1 itw=>?_⟩
  have rs1:=rs.mono s1
  have it:=itw (fun a=>H1 a=none) fun a z=>z
  refine ⟨fun n m σ' H'=>m=ds.length - n∧n≤ds.length∧∃ δ' R',RS X.K H0 B0 H' σ' δ' R'∧Stp R H1 R' H'∧z4B i g (ds.drop n) δ'=some o,⟨ds.length,by simp,Nat.zero_le _,δ,R,rs1,.refl R H1,q⟩,?_⟩
  rintro n m σ' H' ⟨rfl,hn,δ',R',rs',s',q'⟩
  have kp : Keep X.K (fun a=>(B0 a∨∃ r,a∈R r)∨H1 a=none) H1 H':=s'.keepB (fun r a z=>.inl (.inr ⟨r,z⟩)) rs1.held
  by_cases hlt : n < ds.length
  · have hx : ds.drop n=ds[n] :: ds.drop (n + 1):=List.drop_eq_getElem_cons hlt
    rw [hx] at q'
    unfold z4B at q'
    cases eb : g (δ'.set i (some (.sh ds[n]))) with
    | none=>rw [eb] at q'; cases q'
    | some ob=>
      rw [eb] at q'
      refine .inr ⟨it.go n H' kp hlt,fun σ2 H2=>n + 1≤ds.length∧∃ δ2 R2,RS X.K H0 B0 H2 σ2 δ2 R2∧Stp R H1 R2 H2∧z4B i g (ds.drop (n + 1)) δ2=some o,fun σ2 H2 z=>⟨ds.length - (n + 1),by omega,rfl,z⟩,fun xv H2 hy=>?_⟩
      obtain ⟨s2,d,hd,rd⟩:=it.yld n H' xv H2 kp hy
      have hdi : d=ds[n]:=by
        have:=hd hlt
        rw [List.getElem?_eq_getElem hlt] at this
        exact (Option.some.inj this).symm
      subst hdi
      have rd' : Rep X.K H2 (fun a=>B0 a∨∃ r,a∈R' r) ds[n] xv:=rd.anti fun a z=>by
        rcases z with z | ⟨r,z⟩
        · exact .inl (.inl z)
        · rcases s'.from' r a z with z | z
          · exact .inl (.inr z)
          · exact .inr z
      have rs2:=(rs'.mono s2).setSh (i:=i) rd'
      have st2 : Stp R H1 R' H2:=s'.trans (.same s2)
      refine ⟨_,R',ob,rs2,eb,?_⟩
      cases ob with
      | nx δ2=>
        have q2 : z4B i g (ds.drop (n + 1)) δ2=some o:=q'
        exact fun σ3 H3 R3 rs3 s3=>⟨hlt,δ2,R3,rs3,st2.trans s3,q2⟩
      | ct δ2=>
        have q2 : z4B i g (ds.drop (n + 1)) δ2=some o:=q'
        exact fun σ3 H3 R3 rs3 s3=>⟨hlt,δ2,R3,rs3,st2.trans s3,q2⟩
      | bk δ2=>
        cases q'
        exact fun σ3 H3 R3 rs3 s3=>k σ3 H3 R3 rs3 ((Stp.same s1).trans (st2.trans s3))
      | rt d=>
        cases q'
        exact k.back ((Stp.same s1).trans st2)
      | ex c δ2=>
        cases q'
        exact k.back ((Stp.same s1).trans st2)
  · have en : n=ds.length:=by omega
    subst en
    rw [List.drop_length] at q'
    cases q'
    exact .inl ⟨it.stop _ H' kp (Nat.le_refl _),k σ' H' R' rs' ((Stp.same s1).trans s')⟩
end
noncomputable def z2Y (np nl : Nat) (g : SS->Option Out) : List D->Option D:=fun ds=>if ds.length=np then (match g (ds.map (fun d=>some (.sh d)) ++ List.replicate nl none) with
  | some (.rt d)=>some d
  | some (.nx _)=>some .non
  | _=>none) else none
theorem z5D {np nl : Nat} {g : SS->Option Out} {ds : List D} {d : D} (h : z2Y np nl g ds=some d) : ds.length=np:=by
  unfold z2Y at h
  split at h
  · assumption
  · cases h
theorem z5O {K : PySem.W.Frag} {H : Hp} {B : Addr->Prop} {ds : List D} {vs : List V} {N : List Str} {nl : Nat} (hB : InB B H) (r : Reps K H B ds vs) (hN : N.length=ds.length + nl) :
    RS K H B H (z6t N vs) (ds.map (fun d=>some (.sh d)) ++ List.replicate nl none) (fun _=>[]):=by
  have hl:=r.length
  have get : ∀ {i : Nat} {x : SD},(ds.map (fun d=>some (SD.sh d)) ++ List.replicate nl none)[i]? = some (some x)->∃ d,ds[i]? = some d∧x = .sh d:=fun {i x} e=>by
    by_cases hi : i < ds.length
    · rw [List.getElem?_append_left (by simpa using hi),List.getElem?_map,List.getElem?_eq_getElem hi] at e
      cases e
      exact ⟨ds[i],List.getElem?_eq_getElem hi,rfl⟩
    · rw [List.getElem?_append_right (by simpa using hi),List.getElem?_replicate] at e
      split at e <;> cases e
  refine ⟨.refl H,hB,?_,(fun _ _ z=>nomatch z),(fun _ _ z=>nomatch z),(fun _ _ _ z=>nomatch z),fun i d e=>?_,fun i r d e=>?_,fun i d e=>?_⟩
  · unfold z6t
    simp
    omega
  · obtain ⟨d',e1,e2⟩:=get e
    cases e2
    obtain ⟨v,e3,rv⟩:=r.get e1
    refine ⟨v,?_,rv.anti fun a z=>z.elim id (fun ⟨_,z⟩=>nomatch z)⟩
    unfold z6t
    have hi : i < vs.length:=(List.getElem?_eq_some_iff.mp e3).1
    rw [List.getElem?_append_left (by simpa using hi),List.getElem?_map,e3]
    rfl
  · obtain ⟨d',_,e2⟩:=get e
    cases e2
  · obtain ⟨d',_,e2⟩:=get e
    cases e2
section
variable {P : Program} {w : World} {K : PySem.W.Frag} {mg : Str->Option Value} {base : Heap}
theorem fnN {x qual : Str} {st : Stmt} {f : Addr} {fd : FuncData} {N ps : List Str} {k np nl : Nat} {g : SS->Option Out} (F : Fun K x qual st f fd) (S : FnScope N ps (z0b st)) (hnp : ps.length=np) (hN : N.length=np + nl)
    (hbody : ∀ (cdv : Value) (A : Around) (outer : List Env) (s : Shared) (H : Hp) (E : XK),Room k (A.deeper (envOfC qual (z0b st) s.heap.objs.size f cdv)) →
      PSs (z9b CX0 P w K mg base N qual (z0b st) f cdv A outer s H E).nox (z0l st) (tS K H noB true noX g)) : FnOk P w K mg base CX0 (k + 1) f fd ps (spN K (z2Y np nl g)):=by
  refine F.ok S (fun vs H Q E h=>?_) fun cdv A outer s H vs Q E hr h=>?_
  · obtain ⟨ds,d,r,e,_⟩:=h
    rw [← r.length,z5D e,hnp]
  · obtain ⟨ds,d,r,e,kk⟩:=h
    refine ⟨_,hbody cdv A outer s H E hr,?_⟩
    have hl:=z5D e
    unfold z2Y at e
    rw [if_pos hl] at e
    have rs:=z5O (nl:=nl) .no r (N:=N) (by omega)
    split at e
    · rename_i d' eg
      cases e
      exact ⟨_,_,_,rs,eg,fun v H' z _=>by
        obtain ⟨A',t,nd,fr⟩:=z.2.1 rfl
        exact kk v H' A' z.1 t nd fr⟩
    · rename_i δ' eg
      cases e
      exact ⟨_,_,_,rs,eg,fun σ' H' R' rs' _=>kk .non H' [] rs'.keep ⟨rfl,rfl⟩ List.nodup_nil (fun a z=>nomatch z)⟩
    · cases e
theorem z5k {x qual : Str} {st : Stmt} {f : Addr} {fd : FuncData} {N ps : List Str} {k np nl : Nat} {g : SS->Option Out} (F : Fun K x qual st f fd) (hm : mg x=some (.ref f)) (hb : Binds K fd ps []) (S : FnScope N ps (z0b st)) (hnp : ps.length=np) (hN : N.length=np + nl)
    (hbody : ∀ (cdv : Value) (A : Around) (outer : List Env) (s : Shared) (H : Hp) (E : XK),Room k (A.deeper (envOfC qual (z0b st) s.heap.objs.size f cdv)) →
      PSs (z9b CX0 P w K mg base N qual (z0b st) f cdv A outer s H E).nox (z0l st) (tS K H noB true noX g)) : DefOk P w K mg base (k + 1) x (spN K (z2Y np nl g)):=
  ⟨f,fd,ps,hm,F.kp,hb,fnN F S hnp hN hbody⟩
theorem defR {x qual : Str} {st : Stmt} {f : Addr} {fd : FuncData} {N ps : List Str} {k np nl : Nat} {g : SS->Option Out} (F : Fun K x qual st f fd) (hm : mg x=some (.ref f)) (hb : Binds K fd ps []) (S : FnScope N ps (z0b st)) (hnp : ps.length=np) (hN : N.length=np + nl)
    (hbody : ∀ (cdv : Value) (A : Around) (outer : List Env) (s : Shared) (H : Hp) (E : XK) (B : Addr->Prop),Room k (A.deeper (envOfC qual (z0b st) s.heap.objs.size f cdv)) →
      PSs (z9b CX0 P w K mg base N qual (z0b st) f cdv A outer s H E).nox (z0l st) (tS K H B false noX g)) : DefOk P w K mg base (k + 1) x (spR K (z2Y np nl g)):=by
  refine ⟨f,fd,ps,hm,F.kp,hb,F.ok S (fun vs H Q E h=>?_) fun cdv A outer s H vs Q E hr h=>?_⟩
  · obtain ⟨B,ds,d,_,r,e,_⟩:=h
    rw [← r.length,z5D e,hnp]
  · obtain ⟨B,ds,d,hB,r,e,kk⟩:=h
    refine ⟨_,hbody cdv A outer s H E B hr,?_⟩
    have hl:=z5D e
    unfold z2Y at e
    rw [if_pos hl] at e
    have rs:=z5O (nl:=nl) hB r (N:=N) (by omega)
    split at e
    · rename_i d' eg
      cases e
      exact ⟨_,_,_,rs,eg,fun v H' z _=>kk v H' z.1 (z.2.2 rfl)⟩
    · rename_i δ' eg
      cases e
      exact ⟨_,_,_,rs,eg,fun σ' H' R' rs' _=>kk .non H' rs'.keep rfl⟩
    · cases e
end
end L2
namespace L2
open PySem PySem.Spec PyProof.Rows PySem.SeqAt
mutual
def toP : D->PyData
  | .non=>.none
  | .bl b=>.bool b
  | .int i=>.int i
  | .str x=>.str x
  | .lst ds=>.list (z4R ds)
  | .tup ds=>.tuple (z4R ds)
  | .scr ns=>.list (ns.map .int)
  | .dct _ _=>.dict []
  | .exc _=>.dict []
def z4R : List D->List PyData
  | []=>[]
  | d :: ds=>toP d :: z4R ds
end
theorem z6T {h : Heap} : ∀ (ns : List Int) {us : List Value},Vals (ns.map V.int) us->∃ as,ReadsAll h us (ns.map .int) as
  | [],_,.nil=>⟨_,.nil⟩
  | n :: ns,_,.cons r t=>by
    obtain ⟨tk,rfl⟩:=r
    obtain ⟨as,ra⟩:=z6T (h:=h) ns t
    exact ⟨_,.cons (.int n tk) ra⟩
section
variable {X : Cx} {pins : List (Addr × Obj)} {σ : St} {H : Hp} {s : Shared} {B : Addr->Prop}
mutual
theorem z0W (I : Inv X pins σ H s) : ∀ (d : D) {v : V} {u : Value},(toP d).canLay0=true->Rep X.K H B d v->RelV v u->∃ as,Reads s.heap u (toP d) as
  | .non,_,_,_,h,r=>by cases h; cases r; exact ⟨_,.none⟩
  | .bl b,_,_,_,h,r=>by cases h; cases r; exact ⟨_,.bool b⟩
  | .int i,_,_,_,h,r=>by cases h; obtain ⟨t,rfl⟩:=r; exact ⟨_,.int i t⟩
  | .str x,_,_,_,h,r=>by cases h; obtain ⟨t,rfl⟩:=r; exact ⟨_,.str x t⟩
  | .lst ds,_,_,hc,h,r=>by
    unfold Rep at h
    obtain ⟨a,xs,rfl,_,hq,rs⟩:=h
    cases r
    obtain ⟨its,rv,⟨o,n,e,c,_,dt⟩,_⟩:=I.list (SqL.of hq)
    have hc' : PyData.canLayAll0 (z4R ds)=true:=by unfold toP PyData.canLay0 at hc; exact hc
    obtain ⟨as,ra⟩:=z4X I ds hc' rs rv
    unfold toP
    exact ⟨_,.list e c dt (by simpa using ra)⟩
  | .tup ds,_,_,hc,h,r=>by
    unfold Rep at h
    obtain ⟨a,xs,rfl,hq,rs⟩:=h
    cases r
    obtain ⟨its,rv,⟨o,e,c,n,dt⟩,_⟩:=I.tuple hq
    have hc' : PyData.canLayAll0 (z4R ds)=true:=by unfold toP PyData.canLay0 at hc; exact hc
    obtain ⟨as,ra⟩:=z4X I ds hc' rs rv
    unfold toP
    exact ⟨_,.tuple e c dt (by simpa using ra)⟩
  | .scr ns,_,_,hc,h,r=>by
    unfold Rep at h
    obtain ⟨a,rfl,hq⟩:=h
    cases r
    obtain ⟨its,rv,⟨o,n,e,c,_,dt⟩,_⟩:=I.list hq.sq
    unfold toP
    obtain ⟨as,ra⟩:=z6T (h:=s.heap) ns rv
    exact ⟨_,.list e c dt (by simpa using ra)⟩
  | .dct _ _,_,_,hc,_,_=>by unfold toP PyData.canLay0 at hc; cases hc
  | .exc _,_,_,hc,_,_=>by unfold toP PyData.canLay0 at hc; cases hc
theorem z4X (I : Inv X pins σ H s) : ∀ (ds : List D) {xs : List V} {us : List Value},PyData.canLayAll0 (z4R ds)=true->Reps X.K H B ds xs->Vals xs us->∃ as,ReadsAll s.heap us (z4R ds) as
  | [],_,_,_,h,r=>by
    unfold Reps at h
    subst h
    cases r
    exact ⟨_,.nil⟩
  | d :: ds,_,_,hc,h,r=>by
    unfold Reps at h
    obtain ⟨x,rr,rfl,h1,h2⟩:=h
    unfold z4R PyData.canLayAll0 at hc
    rw [Bool.and_eq_true] at hc
    cases r with
    | cons r1 r2=>
      obtain ⟨as,ra⟩:=z0W I d hc.1 h1 r1
      obtain ⟨bs,rb⟩:=z4X I ds hc.2 h2 r2
      unfold z4R
      exact ⟨_,.cons ra rb⟩
end
end
noncomputable def okP (d : D) : Bool:=(toP d).canLay0 && decide ((toP d).depth≤60)
noncomputable def eqD (x y : D) : Option D:=if (okP x && okP y)=true then some (.bl (PyData.eqv (toP x) (toP y))) else none
noncomputable def neD (x y : D) : Option D:=if (okP x && okP y)=true then some (.bl (!PyData.eqv (toP x) (toP y))) else none
noncomputable def y4Y (x : D) : D->Option Bool
  | .lst ds=>if (okP x && okP (.lst ds))=true then some (ds.any fun y=>PyData.eqv (toP y) (toP x)) else none
  | .tup ds=>if (okP x && okP (.tup ds))=true then some (ds.any fun y=>PyData.eqv (toP y) (toP x)) else none
  | _=>none
noncomputable def inD (x y : D) : Option D:=(y4Y x y).map .bl
noncomputable def y6j (x y : D) : Option D:=(y4Y x y).map fun b=>.bl (!b)
noncomputable def rEqD (K : PySem.W.Frag) : R2:=fun x y H Q=>∃ B dx dy,Rep K H B dx x∧Rep K H B dy y∧okP dx=true∧okP dy=true∧Q (.bl (PyData.eqv (toP dx) (toP dy))) H
noncomputable def rNeD (K : PySem.W.Frag) : R2:=fun x y H Q=>∃ B dx dy,Rep K H B dx x∧Rep K H B dy y∧okP dx=true∧okP dy=true∧Q (.bl (!PyData.eqv (toP dx) (toP dy))) H
theorem z0v {d : D} (h : okP d=true) : (toP d).canLay0=true∧(toP d).depth≤60:=by
  unfold okP at h
  rw [Bool.and_eq_true,decide_eq_true_eq] at h
  exact h
section
variable {X : Cx}
theorem y6F (hu : X.A.units + 64 < cLine) : OpR X (compareOp .Eq) (rEqD X.K):=by
  intro pins s σ H x y v u Q I rx ry h
  obtain ⟨B,dx,dy,r1,r2,o1,o2,q⟩:=h
  obtain ⟨as,ra⟩:=z0W I dx (z0v o1).1 r1 rx
  obtain ⟨bs,rb⟩:=z0W I dy (z0v o2).1 r2 ry
  exact compareEq_reads ra rb (z0v o1).1 (z0v o2).1 (by have:=(z0v o1).2; omega) ⟨.bl _,H,I,rfl,q⟩
theorem op_neD (hu : X.A.units + 64 < cLine) : OpR X (compareOp .NotEq) (rNeD X.K):=by
  intro pins s σ H x y v u Q I rx ry h
  obtain ⟨B,dx,dy,r1,r2,o1,o2,q⟩:=h
  obtain ⟨as,ra⟩:=z0W I dx (z0v o1).1 r1 rx
  obtain ⟨bs,rb⟩:=z0W I dy (z0v o2).1 r2 ry
  exact compareNe_reads ra rb (z0v o1).1 (z0v o2).1 (by have:=(z0v o1).2; omega) ⟨.bl _,H,I,rfl,q⟩
theorem o2_eq {K : PySem.W.Frag} : Op2 K (rEqD K) eqD:=by
  intro H B dx dy d x y Q hB hx hy q k
  unfold eqD at q
  split at q
  · rename_i h
    rw [Bool.and_eq_true] at h
    cases q
    exact ⟨B,dx,dy,hx,hy,h.1,h.2,k _ H (.refl H) rfl⟩
  · cases q
theorem o2_ne {K : PySem.W.Frag} : Op2 K (rNeD K) neD:=by
  intro H B dx dy d x y Q hB hx hy q k
  unfold neD at q
  split at q
  · rename_i h
    rw [Bool.and_eq_true] at h
    cases q
    exact ⟨B,dx,dy,hx,hy,h.1,h.2,k _ H (.refl H) rfl⟩
  · cases q
theorem z4P (p : PyData->Bool) : ∀ ds : List D,(z4R ds).any p=ds.any fun y=>p (toP y)
  | []=>rfl
  | d :: ds=>by unfold z4R; rw [List.any_cons,List.any_cons,z4P p ds]
noncomputable def rInD (K : PySem.W.Frag) (neg : Bool) : R2:=fun x y H Q=>∃ B dx dy b,Rep K H B dx x∧Rep K H B dy y∧y4Y dx dy=some b∧Q (.bl (if neg then !b else b)) H
theorem op_inD (hu : X.A.units + 64 < cLine) : OpR X (compareOp .In) (rInD X.K false):=by
  intro pins s σ H x y v u Q I rx ry h
  obtain ⟨B,dx,dy,b,r1,r2,o,q⟩:=h
  unfold y4Y at o
  split at o
  · split at o
    · rename_i ds h
      rw [Bool.and_eq_true] at h
      cases o
      obtain ⟨as,ra⟩:=z0W I dx (z0v h.1).1 r1 rx
      obtain ⟨bs,rb⟩:=z0W I _ (z0v h.2).1 r2 ry
      have hc:=(z0v h.2).1
      unfold toP at rb hc
      unfold PyData.canLay0 at hc
      refine in_list_reads rb ra hc (z0v h.1).1 (by have:=(z0v h.1).2; omega) ?_
      rw [z4P]
      exact ⟨.bl _,H,I,rfl,q⟩
    · cases o
  · split at o
    · rename_i ds h
      rw [Bool.and_eq_true] at h
      cases o
      obtain ⟨as,ra⟩:=z0W I dx (z0v h.1).1 r1 rx
      obtain ⟨bs,rb⟩:=z0W I _ (z0v h.2).1 r2 ry
      have hc:=(z0v h.2).1
      unfold toP at rb hc
      unfold PyData.canLay0 at hc
      refine in_tuple_reads rb ra hc (z0v h.1).1 (by have:=(z0v h.1).2; omega) ?_
      rw [z4P]
      exact ⟨.bl _,H,I,rfl,q⟩
    · cases o
  · cases o
theorem op_ninD (hu : X.A.units + 64 < cLine) : OpR X (compareOp .NotIn) (rInD X.K true):=by
  intro pins s σ H x y v u Q I rx ry h
  obtain ⟨B,dx,dy,b,r1,r2,o,q⟩:=h
  unfold y4Y at o
  split at o
  · split at o
    · rename_i ds h
      rw [Bool.and_eq_true] at h
      cases o
      obtain ⟨as,ra⟩:=z0W I dx (z0v h.1).1 r1 rx
      obtain ⟨bs,rb⟩:=z0W I _ (z0v h.2).1 r2 ry
      have hc:=(z0v h.2).1
      unfold toP at rb hc
      unfold PyData.canLay0 at hc
      refine notIn_list_reads rb ra hc (z0v h.1).1 (by have:=(z0v h.1).2; omega) ?_
      rw [z4P]
      exact ⟨.bl _,H,I,rfl,q⟩
    · cases o
  · split at o
    · rename_i ds h
      rw [Bool.and_eq_true] at h
      cases o
      obtain ⟨as,ra⟩:=z0W I dx (z0v h.1).1 r1 rx
      obtain ⟨bs,rb⟩:=z0W I _ (z0v h.2).1 r2 ry
      have hc:=(z0v h.2).1
      unfold toP at rb hc
      unfold PyData.canLay0 at hc
      refine notIn_tuple_reads rb ra hc (z0v h.1).1 (by have:=(z0v h.1).2; omega) ?_
      rw [z4P]
      exact ⟨.bl _,H,I,rfl,q⟩
    · cases o
  · cases o
theorem o2_in {K : PySem.W.Frag} : Op2 K (rInD K false) inD:=by
  intro H B dx dy d x y Q hB hx hy q k
  unfold inD at q
  cases e : y4Y dx dy with
  | none=>rw [e] at q; cases q
  | some b=>
    rw [e] at q
    cases q
    exact ⟨B,dx,dy,b,hx,hy,e,k _ H (.refl H) rfl⟩
theorem o2_nin {K : PySem.W.Frag} : Op2 K (rInD K true) y6j:=by
  intro H B dx dy d x y Q hB hx hy q k
  unfold y6j at q
  cases e : y4Y dx dy with
  | none=>rw [e] at q; cases q
  | some b=>
    rw [e] at q
    cases q
    exact ⟨B,dx,dy,b,hx,hy,e,k _ H (.refl H) rfl⟩
noncomputable def OpA (K : PySem.W.Frag) (r : List V->Hp->VK->Prop) (F : List D->Option D) : Prop:=∀ (H : Hp) (B : Addr->Prop) (ds : List D) (d : D) (vs : List V) (Q : VK),InB B H->Reps K H B ds vs->F ds=some d->(∀ v H',Same H H'->Rep K H' B d v->Q v H')->r vs H Q
noncomputable def OpL (K : PySem.W.Frag) (r : List V->Hp->VK->Prop) (F : List D->Option (List D)) : Prop:=∀ (H : Hp) (B : Addr->Prop) (ds es : List D) (vs : List V) (Q : VK),InB B H->Reps K H B ds vs->F ds=some es →
  (∀ a xs H',Same H H'->H a=none->H' a=some (.lst xs)->Reps K H' B es xs->Q (.ref a) H')->r vs H Q
noncomputable def z3o (F : List D->Option (List D)) (fl : List DE) : DS->Option (List D):=fun δ=>(z0m fl δ).bind F
variable {x : Str} {bid T : String} {r : List V->Hp->VK->Prop} {e : Expr} {es : List Expr} {p pos : Pos} {fl : List DE}
theorem callA {F : List D->Option D} (ho : OpA X.K r F) (σ : St) (H : Hp) (Q : VK) (h : tD X.K (z0k F fl) σ H Q) : tCB r (tDs X.K (z0m fl)) σ H Q:=by
  obtain ⟨B,δ,d,hB,S,q,k⟩:=h
  obtain ⟨ds,e1,e2⟩:=z4W q
  exact ⟨B,δ,ds,hB,S,e1,fun vs H1 s1 r1=>ho H1 B ds d vs Q (hB.mono s1) r1 e2 fun v H' s' rv=>k v H' (s1.trans s') rv⟩
theorem callL {F : List D->Option (List D)} (ho : OpL X.K r F) (σ : St) (H : Hp) (Q : VK) (h : tF X.K (z3o F fl) σ H Q) : tCB r (tDs X.K (z0m fl)) σ H Q:=by
  obtain ⟨B,δ,d,hB,S,q,k⟩:=h
  unfold z3o at q
  cases e1 : z0m fl δ with
  | none=>rw [e1] at q; cases q
  | some ds=>
    rw [e1] at q
    exact ⟨B,δ,ds,hB,S,e1,fun vs H1 s1 r1=>ho H1 B ds d vs Q (hB.mono s1) r1 q fun a xs H' s' hn ha rv=>k a xs H' (s1.trans s') (s1.free hn) ha rv⟩
theorem z3M {F : List D->Option D} (hc : z3Y X (.builtin bid) r) (hD : OpA X.K r F) (hg : Gl X x) (hm : X.mg x=none) (hv : bootBuiltins x=some (.builtin bid)) (ha : PAD X (e :: es) fl) (hn : x ≠ "__name__" := by decide) (hdb : (x == ("__debug__" : Str))=false:=by decide)
    (he : starEach (e :: es) X.env=(false,eval e X.env) :: starEach es X.env:=by rfl) (hpl : (backTo pos (starEach es X.env)).any (·.1)=false:=by rfl) : PD X (.Call (.Name x p) (e :: es) [] pos) (z0k F fl):=
  (z7A hc hg hm hv ha hn hdb he hpl).imp (callA hD)
theorem y5I {F : List D->Option D} (hc : z3Y X (.type T) r) (hD : OpA X.K r F) (hg : Gl X x) (hm : X.mg x=none) (hv : bootBuiltins x=some (.type T)) (ha : PAD X (e :: es) fl) (hn : x ≠ "__name__" := by decide) (hdb : (x == ("__debug__" : Str))=false:=by decide)
    (he : starEach (e :: es) X.env=(false,eval e X.env) :: starEach es X.env:=by rfl) (hpl : (backTo pos (starEach es X.env)).any (·.1)=false:=by rfl) : PD X (.Call (.Name x p) (e :: es) [] pos) (z0k F fl):=
  (z6g hc hg hm hv ha hn hdb he hpl).imp (callA hD)
theorem y4F {F : List D->Option (List D)} (hc : z3Y X (.type T) r) (hD : OpL X.K r F) (hg : Gl X x) (hm : X.mg x=none) (hv : bootBuiltins x=some (.type T)) (ha : PAD X (e :: es) fl) (hn : x ≠ "__name__" := by decide) (hdb : (x == ("__debug__" : Str))=false:=by decide)
    (he : starEach (e :: es) X.env=(false,eval e X.env) :: starEach es X.env:=by rfl) (hpl : (backTo pos (starEach es X.env)).any (·.1)=false:=by rfl) : PF X (.Call (.Name x p) (e :: es) [] pos) (z3o F fl):=
  (z6g hc hg hm hv ha hn hdb he hpl).imp (callL hD)
theorem z3s {K : PySem.W.Frag} {H : Hp} {B : Addr->Prop} {d : D} {vs : List V} (h : Reps K H B [d] vs) : ∃ v,vs=[v]∧Rep K H B d v:=by
  unfold Reps at h
  obtain ⟨x,r,rfl,h1,h2⟩:=h
  unfold Reps at h2
  subst h2
  exact ⟨x,rfl,h1⟩
theorem reps2 {K : PySem.W.Frag} {H : Hp} {B : Addr->Prop} {d e : D} {vs : List V} (h : Reps K H B [d,e] vs) : ∃ v u,vs=[v,u]∧Rep K H B d v∧Rep K H B e u:=by
  unfold Reps at h
  obtain ⟨x,r,rfl,h1,h2⟩:=h
  obtain ⟨u,rfl,h3⟩:=z3s h2
  exact ⟨x,u,rfl,h1,h3⟩
noncomputable def z3j : List D->Option D
  | [.lst ds]=>some (.int ds.length)
  | [.tup ds]=>some (.int ds.length)
  | [.scr ns]=>some (.int ns.length)
  | _=>none
theorem oa_len {K : PySem.W.Frag} : OpA K (fun xs H Q=>∃ x n,xs=[x]∧LenV K x H n∧Q (.int n) H) z3j:=by
  intro H B ds d vs Q hB hr q k
  unfold z3j at q
  split at q
  · cases q
    obtain ⟨v,rfl,r⟩:=z3s hr
    unfold Rep at r
    obtain ⟨a,xs,rfl,_,h,rs⟩:=r
    refine ⟨.ref a,xs.length,rfl,.inl ⟨xs,SqL.of h,rfl⟩,k _ H (.refl H) ?_⟩
    show V.int _=V.int _
    rw [rs.length]
  · cases q
    obtain ⟨v,rfl,r⟩:=z3s hr
    unfold Rep at r
    obtain ⟨a,xs,rfl,h,rs⟩:=r
    refine ⟨.ref a,xs.length,rfl,.inr ⟨xs,h,rfl⟩,k _ H (.refl H) ?_⟩
    show V.int _=V.int _
    rw [rs.length]
  · cases q
    obtain ⟨v,rfl,r⟩:=z3s hr
    unfold Rep at r
    obtain ⟨a,rfl,h⟩:=r
    exact ⟨.ref a,_,rfl,.inl ⟨_,h.sq,(List.length_map ..).symm⟩,k _ H (.refl H) rfl⟩
  · cases q
theorem z1z {f : DE} (hg : Gl X "len") (hm : X.mg "len" = none) (h : PD X e f) (he : starEach [e] X.env=[(false,eval e X.env)]:=by rfl) : PD X (.Call (.Name "len" p) [e] [] pos) (z0k z3j [f]):=
  z3M y5B oa_len hg hm PySem.boot_len (z0a h z0e he) (by decide) (by decide) he rfl
noncomputable def z7p : List D->Option (List Bool)
  | []=>some []
  | .bl b :: r=>(z7p r).map (b :: ·)
  | _=>none
noncomputable def z1h : List D->Option (List Int)
  | []=>some []
  | .int i :: r=>(z1h r).map (i :: ·)
  | _=>none
theorem z6P {K : PySem.W.Frag} {H : Hp} {B : Addr->Prop} : ∀ {ds : List D} {bs : List Bool} {xs : List V},z7p ds=some bs->Reps K H B ds xs->xs=bs.map V.bl
  | [],_,_,e,h=>by cases e; unfold Reps at h; exact h
  | .bl b :: r,bs,xs,e,h=>by
    unfold z7p at e
    cases q : z7p r with
    | none=>rw [q] at e; cases e
    | some cs=>
      rw [q] at e
      cases e
      unfold Reps at h
      obtain ⟨x,r',rfl,h1,h2⟩:=h
      rw [z6P q h2,show x=V.bl b from h1]
      rfl
  | .non :: _,_,_,e,_=>nomatch e
  | .int _ :: _,_,_,e,_=>nomatch e
  | .str _ :: _,_,_,e,_=>nomatch e
  | .lst _ :: _,_,_,e,_=>nomatch e
  | .tup _ :: _,_,_,e,_=>nomatch e
  | .dct _ _ :: _,_,_,e,_=>nomatch e
  | .exc _ :: _,_,_,e,_=>nomatch e
  | .scr _ :: _,_,_,e,_=>nomatch e
theorem z2T {K : PySem.W.Frag} {H : Hp} {B : Addr->Prop} : ∀ {ds : List D} {bs : List Int} {xs : List V},z1h ds=some bs->Reps K H B ds xs->xs=bs.map V.int
  | [],_,_,e,h=>by cases e; unfold Reps at h; exact h
  | .int b :: r,bs,xs,e,h=>by
    unfold z1h at e
    cases q : z1h r with
    | none=>rw [q] at e; cases e
    | some cs=>
      rw [q] at e
      cases e
      unfold Reps at h
      obtain ⟨x,r',rfl,h1,h2⟩:=h
      rw [z2T q h2,show x=V.int b from h1]
      rfl
  | .non :: _,_,_,e,_=>nomatch e
  | .bl _ :: _,_,_,e,_=>nomatch e
  | .str _ :: _,_,_,e,_=>nomatch e
  | .lst _ :: _,_,_,e,_=>nomatch e
  | .tup _ :: _,_,_,e,_=>nomatch e
  | .dct _ _ :: _,_,_,e,_=>nomatch e
  | .exc _ :: _,_,_,e,_=>nomatch e
  | .scr _ :: _,_,_,e,_=>nomatch e
theorem y0Z : ∀ {bs : List Bool} {us : List Value},Vals (bs.map V.bl) us->PyProof.Rows.LSm.BoolsAre us bs
  | [],_,.nil=>.nil
  | b :: bs,_,.cons r t=>by
    cases r
    exact .cons b (y0Z t)
theorem y3w (hc : X.calm=true) : z3Y X (.builtin "all") (fun xs H Q=>∃ (p : Addr) (bs : List Bool),xs=[.ref p]∧SqL X.K H p (bs.map V.bl)∧Q (.bl (bs.all (fun b=>b))) H):=by
  intro pins s σ H xs us Q I r h
  obtain ⟨p,bs,rfl,hq,q⟩:=h
  obtain ⟨u,rfl,ru⟩:=z6J r
  cases ru
  obtain ⟨its,rv,pl,hz⟩:=I.list hq
  have hl:=pl.isList
  have hb:=y0Z rv
  have hlt : p < s.heap.objs.size:=by obtain ⟨_,e,_⟩:=hl; exact Heap.lt_size e
  refine call_all_walk (wpAny_pyIter_list hl ?_)
  refine ⟨s.heap.objs.size,[s.heap.objs.size,p],[s.heap.objs.size],its.toArray.size,_,_,fun i=>(bs[i]?).getD true,rfl,Walks.list (A:=X.A.in1) (I.ok.hd hc) _ p (Nat.ne_of_lt hlt) its.toArray,
    ⟨⟨_,Heap.get?_push_size _ rfl,rfl,rfl⟩,hl.push _⟩,fun i v s' Q' E' hP hQ=>?_,fun h' tk hk=>?_⟩
  · obtain ⟨b,e,rfl⟩:=hb.get i v (by simpa using hP)
    simp only [e,Option.getD_some] at hQ
    exact wpAny_truthy_bool hQ
  · have e : ((List.range its.toArray.size).all fun i=>(bs[i]?).getD true)=bs.all (fun b=>b):=by
      rw [List.size_toArray,hb.length]; exact LSm.range_all bs
    rw [e]
    exact ⟨.bl _,H,I.kept (LSm.kept_iter hk),rfl,q⟩
theorem y2E (hc : X.calm=true) : z3Y X (.builtin "sum") (fun xs H Q=>∃ (p : Addr) (ns : List Int),xs=[.ref p]∧SqL X.K H p (ns.map V.int)∧Q (.int ns.sum) H):=by
  intro pins s σ H xs us Q I r h
  obtain ⟨p,ns,rfl,hq,q⟩:=h
  obtain ⟨u,rfl,ru⟩:=z6J r
  cases ru
  obtain ⟨its,rv,pl,hz⟩:=I.list hq
  have hi:=z2X rv
  obtain ⟨xs,hx⟩:=hi.allInts.items
  have hl' : s.heap.IsList p (intItems xs):=hx ▸ pl.isList
  refine sum_intListG (I.ok.hd hc) hl' fun h' tk t' hk=>?_
  have e1 : ns=xs.toList.map (·.1):=by
    rw [← nums_intItems,← hx]
    exact (show numsOf its.toArray.toList=ns from hi.numsOf).symm
  have e2 : preSum (numAt xs) xs.size=ns.sum:=by
    rw [preSum_eq,List.take_of_length_le (by simp),e1]
  rw [e2]
  exact ⟨.int _,H,I.kept hk,⟨_,rfl⟩,q⟩
noncomputable def allF : List D->Option D
  | [.lst ds]=>(z7p ds).map fun bs=>.bl (bs.all (fun b=>b))
  | _=>none
noncomputable def sumF : List D->Option D
  | [.lst ds]=>(z1h ds).map fun ns=>.int ns.sum
  | _=>none
theorem oa_all {K : PySem.W.Frag} : OpA K (fun xs H Q=>∃ (p : Addr) (bs : List Bool),xs=[.ref p]∧SqL K H p (bs.map V.bl)∧Q (.bl (bs.all (fun b=>b))) H) allF:=by
  intro H B ds d vs Q hB hr q k
  unfold allF at q
  split at q
  · rename_i es
    cases e : z7p es with
    | none=>rw [e] at q; cases q
    | some bs=>
      rw [e] at q
      cases q
      obtain ⟨v,rfl,r⟩:=z3s hr
      unfold Rep at r
      obtain ⟨a,xs,rfl,_,h,rs⟩:=r
      rw [z6P e rs] at h
      exact ⟨a,bs,rfl,SqL.of h,k _ H (.refl H) rfl⟩
  · cases q
theorem oa_sum {K : PySem.W.Frag} : OpA K (fun xs H Q=>∃ (p : Addr) (ns : List Int),xs=[.ref p]∧SqL K H p (ns.map V.int)∧Q (.int ns.sum) H) sumF:=by
  intro H B ds d vs Q hB hr q k
  unfold sumF at q
  split at q
  · rename_i es
    cases e : z1h es with
    | none=>rw [e] at q; cases q
    | some bs=>
      rw [e] at q
      cases q
      obtain ⟨v,rfl,r⟩:=z3s hr
      unfold Rep at r
      obtain ⟨a,xs,rfl,_,h,rs⟩:=r
      rw [z2T e rs] at h
      exact ⟨a,bs,rfl,SqL.of h,k _ H (.refl H) rfl⟩
  · cases q
theorem y6Q {f : DE} (hc : X.calm=true) (hg : Gl X "all") (hm : X.mg "all" = none) (h : PD X e f) (he : starEach [e] X.env=[(false,eval e X.env)]:=by rfl) : PD X (.Call (.Name "all" p) [e] [] pos) (z0k allF [f]):=
  z3M (y3w hc) oa_all hg hm PyProof.Rows.Boot.«all» (z0a h z0e he) (by decide) (by decide) he rfl
theorem y6Y {f : DE} (hc : X.calm=true) (hg : Gl X "sum") (hm : X.mg "sum" = none) (h : PD X e f) (he : starEach [e] X.env=[(false,eval e X.env)]:=by rfl) : PD X (.Call (.Name "sum" p) [e] [] pos) (z0k sumF [f]):=
  z3M (y2E hc) oa_sum hg hm boot_sum (z0a h z0e he) (by decide) (by decide) he rfl
noncomputable def z7U : List D->Option (List D)
  | [.lst ds]=>some ds
  | [.tup ds]=>some ds
  | [.scr ns]=>some (ns.map .int)
  | _=>none
theorem ol_list {K : PySem.W.Frag} : OpL K (fun xs H Q=>∃ p ys,xs=[.ref p]∧(SqL K H p ys∨SqT K H p ys)∧∀ l,H l=none->Q (.ref l) (upd H l (.lst ys))) z7U:=by
  intro H B ds es vs Q hB hr q k
  unfold z7U at q
  split at q
  · cases q
    obtain ⟨v,rfl,r⟩:=z3s hr
    unfold Rep at r
    obtain ⟨a,xs,rfl,_,h,rs⟩:=r
    exact ⟨a,xs,rfl,.inl (SqL.of h),fun l hl=>k l xs _ (z0q hl) hl z0o (rs.mono (z0q hl))⟩
  · cases q
    obtain ⟨v,rfl,r⟩:=z3s hr
    unfold Rep at r
    obtain ⟨a,xs,rfl,h,rs⟩:=r
    exact ⟨a,xs,rfl,.inr h,fun l hl=>k l xs _ (z0q hl) hl z0o (rs.mono (z0q hl))⟩
  · cases q
    obtain ⟨v,rfl,r⟩:=z3s hr
    unfold Rep at r
    obtain ⟨a,rfl,h⟩:=r
    exact ⟨a,_,rfl,.inl h.sq,fun l hl=>k l _ _ (z0q hl) hl z0o (z2A _)⟩
  · cases q
theorem z6y {f : DE} (hg : Gl X "list") (hm : X.mg "list" = none) (h : PD X e f) (he : starEach [e] X.env=[(false,eval e X.env)]:=by rfl) : PF X (.Call (.Name "list" p) [e] [] pos) (z3o z7U [f]):=
  y4F z8l ol_list hg hm PyProof.Rows.Boot.«list» (z0a h z0e he) (by decide) (by decide) he rfl
noncomputable def y6z : List D->Option D
  | [.lst ds]=>some (.tup ds)
  | [.tup ds]=>some (.tup ds)
  | _=>none
theorem oa_tup {K : PySem.W.Frag} : OpA K (fun xs H Q=>∃ p ys,xs=[.ref p]∧((SqL K H p ys∧∀ l,H l=none->Q (.ref l) (upd H l (.tup ys)))∨(SqT K H p ys∧Q (.ref p) H))) y6z:=by
  intro H B ds d vs Q hB hr q k
  unfold y6z at q
  split at q
  · cases q
    obtain ⟨v,rfl,r⟩:=z3s hr
    unfold Rep at r
    obtain ⟨a,xs,rfl,_,h,rs⟩:=r
    exact ⟨a,xs,rfl,.inl ⟨SqL.of h,fun l hl=>k _ _ (z0q hl) (by unfold Rep; exact ⟨l,xs,rfl,SqT.of z0o,rs.mono (z0q hl)⟩)⟩⟩
  · cases q
    obtain ⟨v,rfl,r⟩:=z3s hr
    have r0:=r
    unfold Rep at r
    obtain ⟨a,xs,rfl,h,rs⟩:=r
    exact ⟨a,xs,rfl,.inr ⟨h,k _ _ (.refl H) r0⟩⟩
  · cases q
theorem z8b {f : DE} (hg : Gl X "tuple") (hm : X.mg "tuple" = none) (h : PD X e f) (he : starEach [e] X.env=[(false,eval e X.env)]:=by rfl) : PD X (.Call (.Name "tuple" p) [e] [] pos) (z0k y6z [f]):=
  y5I z7Q oa_tup hg hm PyProof.Rows.Boot.«tuple» (z0a h z0e he) (by decide) (by decide) he rfl
end
end L2
namespace L2
open PySem PySem.Spec PyProof.Rows
noncomputable def tyN : D->String
  | .non => "NoneType"
  | .bl _ => "bool"
  | .int _ => "int"
  | .str _ => "str"
  | .lst _ => "list"
  | .tup _ => "tuple"
  | .scr _ => "list"
  | .dct _ _ => "dict"
  | .exc _ => "object"
inductive IsT : String->Prop where
  | bool : IsT "bool" | int : IsT "int" | str : IsT "str" | list : IsT "list" | tuple : IsT "tuple" | dict : IsT "dict"
noncomputable def isF (T : String) (d : D) : Bool:=tyN d == T || (tyN d == "bool" && T == "int")
theorem kit_tt (K : PySem.W.Frag) {T : String} (h : IsT T) (d : D) (hd : ∀ x,d≠.exc x) : PySem.W.kitOne K (.type (tyN d)) (.type T)=some (isF T d):=by
  cases h <;> cases d <;> first | kernel_rfl | exact absurd rfl (hd _)
section
variable {prog : Program} {w : World} {A : Around} {E : Value->Shared->Prop} {K : PySem.W.Frag} {x D : Addr} {ox : Obj} {s : Shared}
theorem y4d {Q : Option Value->Shared->Prop} (X : K.In s.heap) (I : PySem.W.InstAt s.heap x ox D none) (hga : PySem.W.findIn K (.ref D) "__getattribute__" = some (some (.builtin "BaseException.__getattribute__"))) (hgh : PySem.W.findIn K (.ref D) "__getattr__" = some none)
    (hf : PySem.W.findObj K D none "__class__" = some (.bind (.builtin "getset_descriptor.__get__") (.builtin "object.__class__"))) (hm : PySem.W.mroIn K D (.type "object")=some true) (hb : PySem.W.mroIn K D (.type "BaseException")=some true)
    (h : Q (some (.ref D)) { s with toks:=s.toks + 1 }) : wpAny (model prog w) A (getAttr? (.ref x) "__class__") Q E s:=by
  obtain ⟨hp,gs,dr,tk,os⟩:=s
  have T0:=I.type (M:=model prog w)
  have T1:=PySem.W.looks_findIn (M:=model prog w) X hga
  have T2:=PySem.W.looks_findIn (M:=model prog w) X hgh
  have T3:=PySem.W.looks_find (M:=model prog w) X I hf
  have T4:=PySem.W.looks_mroIn (M:=model prog w) X hb
  have hne : (onTheHeap (Value.ref D) && Value.builtin "BaseException.__getattribute__" == Value.builtin "object.__getattribute__")=false:=by
    have z : (Value.builtin "BaseException.__getattribute__" == Value.builtin "object.__getattribute__")=false:=by decide +kernel
    rw [z,Bool.and_false]
  unfold getAttr? getAttrBy?
  refine wpAny_bind (wpAny_mkText ?_)
  refine wpAny_bind (wpAny_attempt ?_)
  unfold getAttrBy
  refine wpAny_holding (wpAny_bind (T0.at ?_))
  refine wpAny_bind (T1.at ?_)
  dsimp only
  rw [hne,if_neg Bool.false_ne_true]
  unfold getAttrByItsOwn hookBefore
  rw [if_pos (show onTheHeap (Value.ref D)=true from rfl)]
  refine wpAny_bind (T2.at ?_)
  refine wpAny_bind (wpAny_attempt (wpAny_holding ?_))
  unfold callGetattribute boundAndCalled
  rw [Bool.false_and,if_neg Bool.false_ne_true,F.excAttr_ValueError.ga.bind]
  refine wpAny_bind (wpAny_pure ?_)
  refine wpAny_call (codeAny_call_builtin F.excAttr_ValueError.ga.plain F.entry_bexc_ga ?_)
  have k1 : builtinKind "BaseException.__getattribute__" = some .slot:=by decide +kernel
  have k2 : splitId "BaseException.__getattribute__" = some ("BaseException", "__getattribute__"):=by decide +kernel
  simp only [checkBuiltinCall,k1,k2]
  have ha:=F.args_bexc_ga (.ref x) (.str "__class__" tk)
  have TI : PySem.W.Looks (model prog w) hp (isInstance (.ref x) (.type "BaseException")) true:=T0.andThen T4
  show wpAny _ _ (isInstance (.ref x) (.type "BaseException") >>= _) _ _ _
  refine wpAny_bind (TI.at ?_)
  rw [if_neg (by decide)]
  unfold argsOk at ha
  refine wpAny_of_eq (a:=()) ha ?_
  unfold Builtin.«object.__getattribute__»
  refine wpAny_bind (wpAny_of_eq (a:=(Value.ref x,[Value.str "__class__" tk])) rfl ?_)
  dsimp only
  refine wpAny_bind (wpAny_of_eq (a:=("__class__" : Str)) rfl ?_)
  refine wpAny_bind (T0.at ?_)
  refine wpAny_bind (T3.at ?_)
  show wpAny _ _ (holding [Value.builtin "object.__class__"] (call (.builtin "getset_descriptor.__get__") [.builtin "object.__class__",.ref x,.ref D]) >>= ret) _ _ _
  refine wpAny_bind (wpAny_holding (wpAny_call (PySem.W.class_get X I hm ?_)))
  refine wpAny_pure ?_
  exact PySem.W.handed_on rfl (wpAny_pure h)
end
theorem xcls_of {K : PySem.W.Frag} {C : Addr} (h : y3K K C=true) : PySem.W.findIn K (.ref C) "__getattribute__" = some (some (.builtin "BaseException.__getattribute__"))∧PySem.W.findIn K (.ref C) "__getattr__" = some none∧PySem.W.mroIn K C (.type "BaseException")=some true∧(PySem.W.clsIn K C).isSome=true ∧
    PySem.W.findIn K (.ref C) "__class__" = some (some (.builtin "object.__class__"))∧PySem.W.specialIn K (.builtin "object.__class__") "__get__" = some (some (.builtin "getset_descriptor.__get__"))∧PySem.W.takesIn K (.builtin "object.__class__")=some true∧PySem.W.mroIn K C (.type "object")=some true:=by
  unfold y3K at h
  simp only [Bool.and_eq_true,beq_iff_eq] at h
  exact ⟨h.1.1.1.1.1.1.1.1,h.1.1.1.1.1.1.1.2,h.1.1.1.1.1.1.2,h.1.1.1.1.1.2,h.1.1.1.1.2,h.1.1.1.2,h.1.1.2,h.1.2⟩
theorem y4E {K : PySem.W.Frag} {x C : Addr} {ox : Obj} (h : y3K K C=true) : PySem.W.KitX K (.ref x) (.ref C) (fun g=>PySem.W.InstAt g x ox C none):=by
  obtain ⟨g1,g2,g3,h2,h3,h4,h5,h6⟩:=xcls_of h
  obtain ⟨cd,hcd⟩:=Option.isSome_iff_exists.mp h2
  have hk : ∃ c d sl,K.lookup C=some ⟨c,d,.cls cd,sl⟩:=by
    unfold PySem.W.clsIn at hcd
    split at hcd
    · cases hcd; exact ⟨_,_,_,by assumption⟩
    · cases hcd
  obtain ⟨c0,d0,sl0,hk⟩:=hk
  have hf : PySem.W.findObj K C none "__class__" = some (.bind (.builtin "getset_descriptor.__get__") (.builtin "object.__class__")):=by
    unfold PySem.W.findObj
    rw [hcd,Option.bind_some,h3,Option.bind_some]
    simp [h4,h5]
  refine ⟨fun _ _ _ I=>I.type,fun _ _ X _=>?_,fun g tp dd its n sl X ht=>?_,fun X I k=>?_⟩
  · intro A' Q' E' s' kk q
    unfold isType loadHead
    exact wpAny_bind (wpAny_loadPart (kk _ _ (X _ _ hk)) (wpAny_pure q))
  · cases hz : (Value.ref C == Value.ref tp) with
    | false=>rfl
    | true=>
      have e : C=tp:=Value.ref.inj (beq_iff_eq.mp hz)
      rw [← e] at ht
      have z:=(X _ _ hk).symm.trans ht
      cases z
  · exact y4d X I g1 g2 hf h6 g3 k
theorem exc_at {X : Cx} {pins : List (Addr × Obj)} {σ : St} {H : Hp} {s : Shared} {a C : Addr} (I : Inv X pins σ H s) (h : H a=some (.ext (isX a C))) : ∃ o,PySem.W.InstAt s.heap a o C none:=by
  obtain ⟨⟨o,h1,h2,h3,h4⟩,_⟩:=(show ObjOk X.prog X.w H s.heap a (.ext (isX a C)) from I.hok a _ h)
  exact ⟨o,h1,h2,h4,by rw [h3]; trivial⟩
section
variable {X : Cx} {pins : List (Addr × Obj)} {σ : St} {H : Hp} {s : Shared} {B : Addr->Prop} {A : Around} {E : Value->Shared->Prop} {Q : Value->Shared->Prop}
theorem y1n {d : D} {v : V} {u : Value} {T : String} (I : Inv X pins σ H s) (r : Rep X.K H B d v) (rv : RelV v u) (hT : IsT T) (h : ∀ tk,Q (.bool (isF T d)) { s with toks:=tk }) : wpAny (model X.prog X.w) A (call (.builtin "isinstance") [u,.type T]) Q E s:=by
  by_cases hd : ∃ x,d = .exc x
  · obtain ⟨x,rfl⟩:=hd
    unfold Rep at r
    obtain ⟨a,C,rfl,_,hq,_,hx⟩:=r
    cases rv
    obtain ⟨o,ie⟩:=exc_at I hq
    have e : PySem.W.kitOne X.K (.ref C) (.type T)=some (isF T (.exc x)):=by
      have h6:=(Bool.and_eq_true_iff.mp hx).2
      rw [List.all_eq_true] at h6
      have h7:=beq_iff_eq.mp (h6 T (by cases hT <;> decide))
      rw [h7]
      cases hT <;> rfl
    exact PySem.W.kia_one (y4E hx) I.kIn ie e (fun z=>nomatch z) h
  have hd : ∀ x,d≠.exc x:=fun x z=>hd ⟨x,z⟩
  have e:=kit_tt X.K hT d hd
  cases d with
  | exc x=>exact absurd rfl (hd x)
  | non=>cases r; cases rv; exact PySem.W.kia_one PySem.W.kitx_none I.kIn True.intro e (fun z=>nomatch z) h
  | bl y=>cases r; cases rv; exact PySem.W.kia_one PySem.W.kitx_bool I.kIn True.intro e (fun z=>nomatch z) h
  | int i=>cases r; obtain ⟨t,q⟩:=rv; cases q; exact PySem.W.kia_one PySem.W.kitx_int I.kIn True.intro e (fun z=>nomatch z) h
  | str y=>cases r; obtain ⟨t,q⟩:=rv; cases q; exact PySem.W.kia_one PySem.W.kitx_str I.kIn True.intro e (fun z=>nomatch z) h
  | lst ds=>
    unfold Rep at r
    obtain ⟨a,xs,rfl,_,hq,_⟩:=r
    cases rv
    obtain ⟨its,_,⟨o,n,e1,c,_⟩,_⟩:=I.list (SqL.of hq)
    exact PySem.W.kia_one PySem.W.kitx_list I.kIn ⟨o,e1,c⟩ e (fun z=>nomatch z) h
  | tup ds=>
    unfold Rep at r
    obtain ⟨a,xs,rfl,hq,_⟩:=r
    cases rv
    obtain ⟨its,_,⟨o,e1,c,_⟩,_⟩:=I.tuple hq
    exact PySem.W.kia_one PySem.W.kitx_tuple I.kIn ⟨o,e1,c⟩ e (fun z=>nomatch z) h
  | scr ns=>
    unfold Rep at r
    obtain ⟨a,rfl,hq⟩:=r
    cases rv
    obtain ⟨its,_,⟨o,n,e1,c,_⟩,_⟩:=I.list hq.sq
    exact PySem.W.kia_one PySem.W.kitx_list I.kIn ⟨o,e1,c⟩ e (fun z=>nomatch z) h
  | dct ks ds=>
    unfold Rep at r
    obtain ⟨a,kvs,rfl,_,ea,_⟩:=r
    cases rv
    obtain ⟨_,_,vs,_,p⟩:=(show ObjOk X.prog X.w H s.heap a (.dK kvs) from I.hok a _ ea)
    obtain ⟨o,es,ep,h1,h2,_⟩:=p
    exact PySem.W.kia_one PySem.W.kitx_dict I.kIn ⟨o,h1,h2.1⟩ e (fun z=>nomatch z) h
end
section
variable {X : Cx} {e : Expr} {p p2 pos : Pos}
noncomputable def dIs (T : String) (f : DE) : DE:=fun δ=>(f δ).map fun d=>.bl (isF T d)
theorem y5i {T : String} (hT : IsT T) : z3Y X (.builtin "isinstance") (fun xs H Q=>∃ B d v,xs=[v,.ty T]∧Rep X.K H B d v∧Q (.bl (isF T d)) H):=by
  intro pins s σ H xs us Q I r h
  obtain ⟨B,d,v,rfl,rv,q⟩:=h
  obtain ⟨u,w',rfl,r1,r2⟩:=vals2 r
  cases r2
  exact y1n I rv r1 hT fun tk=>⟨.bl _,H,I.tok tk,rfl,q⟩
theorem y5X {f : DE} {x : Str} {T : String} (hT : IsT T) (hb : bootBuiltins x=some (.type T)) (hx : Gl X x) (hmx : X.mg x=none) (hnx : x ≠ "__name__") (hdx : (x == ("__debug__" : Str))=false) (hg : Gl X "isinstance") (hm : X.mg "isinstance" = none) (h : PD X e f)
    (he : starEach [e,.Name x p2] X.env=[(false,eval e X.env),(false,eval (.Name x p2) X.env)]:=by rfl) (he2 : starEach [.Name x p2] X.env=[(false,eval (.Name x p2) X.env)]:=by rfl) : PD X (.Call (.Name "isinstance" p) [e,.Name x p2] [] pos) (dIs T f):=
  (z7A (y5i hT) hg hm boot_isinstance (z1L h (z1L (pe_bltn (v:=.ty T) hx hmx hb rfl hnx hdx) pa_nil he2) (by rw [he,he2])) (by decide) (by decide) (by rw [he,he2]) (by rw [he2]; rfl)).imp fun σ H Q z_=>by
    obtain ⟨B,δ,d,hB,S,q,k⟩:=z_
    unfold dIs at q
    cases e1 : f δ with
    | none=>rw [e1] at q; cases q
    | some d'=>
      rw [e1] at q
      cases q
      exact ⟨B,δ,d',hB,S,e1,fun v H1 s1 r1=>⟨B,d',v,rfl,r1,k _ H1 s1 rfl⟩⟩
theorem z8P {f : DE} (hx : Gl X "bool") (hmx : X.mg "bool" = none) (hg : Gl X "isinstance") (hm : X.mg "isinstance" = none) (h : PD X e f) (he : starEach [e,.Name "bool" p2] X.env=[(false,eval e X.env),(false,eval (.Name "bool" p2) X.env)]:=by rfl) :
    PD X (.Call (.Name "isinstance" p) [e,.Name "bool" p2] [] pos) (dIs "bool" f):=y5X .bool PyProof.Rows.Boot.«bool» hx hmx (by decide) (by decide) hg hm h he rfl
theorem y0C {f : DE} (hx : Gl X "int") (hmx : X.mg "int" = none) (hg : Gl X "isinstance") (hm : X.mg "isinstance" = none) (h : PD X e f) (he : starEach [e,.Name "int" p2] X.env=[(false,eval e X.env),(false,eval (.Name "int" p2) X.env)]:=by rfl) :
    PD X (.Call (.Name "isinstance" p) [e,.Name "int" p2] [] pos) (dIs "int" f):=y5X .int PyProof.Rows.Boot.«int» hx hmx (by decide) (by decide) hg hm h he rfl
theorem y4i {f : DE} (hx : Gl X "list") (hmx : X.mg "list" = none) (hg : Gl X "isinstance") (hm : X.mg "isinstance" = none) (h : PD X e f) (he : starEach [e,.Name "list" p2] X.env=[(false,eval e X.env),(false,eval (.Name "list" p2) X.env)]:=by rfl) :
    PD X (.Call (.Name "isinstance" p) [e,.Name "list" p2] [] pos) (dIs "list" f):=y5X .list PyProof.Rows.Boot.«list» hx hmx (by decide) (by decide) hg hm h he rfl
theorem z7q {f : DE} (hx : Gl X "tuple") (hmx : X.mg "tuple" = none) (hg : Gl X "isinstance") (hm : X.mg "isinstance" = none) (h : PD X e f) (he : starEach [e,.Name "tuple" p2] X.env=[(false,eval e X.env),(false,eval (.Name "tuple" p2) X.env)]:=by rfl) :
    PD X (.Call (.Name "isinstance" p) [e,.Name "tuple" p2] [] pos) (dIs "tuple" f):=y5X .tuple PyProof.Rows.Boot.«tuple» hx hmx (by decide) (by decide) hg hm h he rfl
end
noncomputable def z7m (i : Nat) : Option SD->Option SD
  | some (.bo r d)=>if r=i then none else some (.bo r d)
  | o=>o
noncomputable def z0Y (i : Nat) (δ : SS) : SS:=δ.map (z7m i)
theorem z3V {i j : Nat} {δ : SS} {x : SD} (h : (z0Y i δ)[j]? = some (some x)) : δ[j]? = some (some x)∧∀ d,x≠.bo i d:=by
  unfold z0Y at h
  rw [List.getElem?_map] at h
  cases e : δ[j]? with
  | none=>rw [e] at h; cases h
  | some o=>
    rw [e] at h
    have h' : z7m i o=some x:=Option.some.inj h
    unfold z7m at h'
    split at h'
    · rename_i r d
      split at h'
      · cases h'
      · rename_i hr
        cases h'
        exact ⟨rfl,fun d' z=>by cases z; exact hr rfl⟩
    · rename_i hn
      subst h'
      exact ⟨rfl,fun d z=>hn i d (by rw [z])⟩
section
variable {K : PySem.W.Frag} {H0 H : Hp} {B0 : Addr->Prop} {σ : St} {δ : SS} {R : Nat->List Addr}
theorem RS.rewrite {Hold : Hp} {i : Nat} {d d' : D} {a : Addr} {o : HO} {v : V} {A' : List Addr} (h : RS K H0 B0 Hold σ δ R) (e : Same Hold H) (hi : δ[i]? = some (some (.ow d))) (hv : σ[i]? = some (some v)) (ha : a∈R i) (t : Tree K (upd H a o) d' v A') (nd : A'.Nodup) (sub : ∀ b∈A',b∈R i∨Hold b=none) :
    RS K H0 B0 (upd H a o) σ ((z0Y i δ).set i (some (.ow d'))) (z9c R i A')∧Stp R Hold (z9c R i A') (upd H a o):=by
  have hm:=h.mono e
  obtain ⟨oa,ea,ma⟩:=hm.held i a ha
  have mH : Mut (H a):=by rw [ea]; exact ma
  have mem : ∀ r b,b∈z9c R i A' r->b∈R r∨(r=i∧Hold b=none):=fun r b z=>by
    by_cases hr : r=i
    · subst hr; rw [z0Z] at z; exact (sub b z).imp id fun q=>⟨rfl,q⟩
    · rw [z1C hr] at z; exact .inl z
  have kt : KeepI K H (upd H a o):=(Keep.upd (K:=K) (B:=fun x=>x=a) rfl mH).i
  have nh : ∀ r b,b∈R r->Hold b=none->False:=fun r b z q=>by
    obtain ⟨u,q',_⟩:=h.held r b z
    rw [q] at q'; cases q'
  refine ⟨⟨fun b u q=>?_,h.inB,by simp [z0Y,h.len],fun r b z=>?_,fun r b z=>?_,fun r s b z z'=>?_,fun j d2 z=>?_,fun j r2 d2 z=>?_,fun j d2 z=>?_⟩,⟨fun b u q n=>?_,fun r b z=>?_,fun b z=>?_⟩⟩
  · have ne : b≠a:=fun z=>by subst z; rw [h.new i b ha] at q; cases q
    rw [z0z ne]; exact hm.keep b u q
  · rcases mem r b z with z | ⟨_,z⟩
    · exact h.new r b z
    · exact h.keep.free z
  · by_cases hr : r=i
    · subst hr; rw [z0Z] at z; exact t.held d' b z
    · rw [z1C hr] at z
      have ne : b≠a:=fun q=>hr (h.disj r i b z (q ▸ ha))
      rw [z0z ne]; exact hm.held r b z
  · rcases mem r b z with z | ⟨z1,z2⟩ <;> rcases mem s b z' with z' | ⟨z1',z2'⟩
    · exact h.disj r s b z z'
    · exact (nh r b z z2').elim
    · exact (nh s b z' z2).elim
    · rw [z1,z1']
  · rcases z2v z with ⟨rfl,q,_⟩ | ⟨hj,q⟩
    · cases q
    · obtain ⟨q1,_⟩:=z3V q
      obtain ⟨w,e1,r⟩:=h.sh j d2 q1
      have r2:=(Rep.wide (C:=fun b=>Hold b=none) (fun _ z=>z) d2 r).mono e
      refine ⟨w,e1,Rep.anti ?_ d2 (Rep.keep (.upd (.inl (.inr ⟨i,ha⟩)) mH) d2 r2)⟩
      rintro b (z | ⟨r,z⟩)
      · exact .inl (.inl z)
      · rcases mem r b z with z | ⟨_,z⟩
        · exact .inl (.inr ⟨r,z⟩)
        · exact .inr z
  · rcases z2v z with ⟨rfl,q,_⟩ | ⟨hj,q⟩
    · cases q
    · obtain ⟨q1,q2⟩:=z3V q
      have hr : i≠r2:=fun e=>q2 d2 (by rw [e])
      obtain ⟨w,e1,r⟩:=h.bo j r2 d2 q1
      have r3:=(Rep.wide (C:=fun b=>Hold b=none) (fun _ z=>z) d2 r).mono e
      refine ⟨w,e1,Rep.anti ?_ d2 (Rep.keep (.upd (.inl (.inr ⟨i,hr,ha⟩)) mH) d2 r3)⟩
      rintro b (z | ⟨s,hs,z⟩)
      · exact .inl (.inl z)
      · rcases mem s b z with z | ⟨_,z⟩
        · exact .inl (.inr ⟨s,hs,z⟩)
        · exact .inr z
  · rcases z2v z with ⟨rfl,q,_⟩ | ⟨hj,q⟩
    · cases q
      rw [z0Z]
      exact ⟨v,hv,t,nd⟩
    · obtain ⟨q1,_⟩:=z3V q
      obtain ⟨w,e1,t',nd'⟩:=hm.ow j d2 q1
      rw [z1C hj]
      refine ⟨w,e1,Tree.keep kt d2 t' fun b hb u q=>?_,nd'⟩
      have ne : b≠a:=fun z=>by subst z; exact hj (h.disj j i b hb ha)
      rw [z0z ne]; exact q
  · have ne : b≠a:=fun z=>n i (z ▸ ha)
    rw [z0z ne]; exact e b u q
  · rcases mem r b z with z | ⟨_,z⟩
    · exact .inl ⟨r,z⟩
    · exact .inr z
  · by_cases hb : b=a
    · subst hb; rw [z0o] at z; cases z
    · rw [z0z hb] at z; exact e.free z
theorem Trees.append : ∀ {ds es : List D} {xs ys : List V} {A C : List Addr},Trees K H ds xs A->Trees K H es ys C->Trees K H (ds ++ es) (xs ++ ys) (A ++ C)
  | [],_,_,_,_,_,h,h'=>by obtain ⟨rfl,rfl⟩:=h; exact h'
  | d :: ds,es,_,ys,_,C,h,h'=>by
    unfold Trees at h
    obtain ⟨y,r,A1,A2,rfl,h1,h2,rfl⟩:=h
    exact (show Trees K H (d :: (ds ++ es)) (y :: (r ++ ys)) (A1 ++ A2 ++ C) by unfold Trees; exact ⟨y,_,A1,A2 ++ C,rfl,h1,Trees.append h2 h',List.append_assoc _ _ _⟩)
theorem Trees.split : ∀ {ds : List D} {xs : List V} {A : List Addr} (k : Nat),Trees K H ds xs A->∃ A1 A2,A=A1 ++ A2∧Trees K H (ds.take k) (xs.take k) A1∧Trees K H (ds.drop k) (xs.drop k) A2
  | ds,xs,A,0,h=>⟨[],A,rfl,by rw [List.take_zero,List.take_zero]; exact ⟨rfl,rfl⟩,h⟩
  | [],_,_,k + 1,h=>by
    obtain ⟨rfl,rfl⟩:=h
    exact ⟨[],[],rfl,⟨rfl,rfl⟩,⟨rfl,rfl⟩⟩
  | d :: ds,_,_,k + 1,h=>by
    unfold Trees at h
    obtain ⟨y,r,A1,A2,rfl,h1,h2,rfl⟩:=h
    obtain ⟨C1,C2,rfl,h3,h4⟩:=Trees.split k h2
    refine ⟨A1 ++ C1,C2,(List.append_assoc _ _ _).symm,?_,h4⟩
    rw [List.take_succ_cons,List.take_succ_cons]
    unfold Trees
    exact ⟨y,_,A1,C1,rfl,h1,h3,rfl⟩
theorem Trees.one {d : D} {x : V} {A : List Addr} (h : Tree K H d x A) : Trees K H [d] [x] A:=by
  unfold Trees
  exact ⟨x,[],A,[],rfl,h,⟨rfl,rfl⟩,(List.append_nil _).symm⟩
theorem Trees.length : ∀ {ds : List D} {xs : List V} {A : List Addr},Trees K H ds xs A->ds.length=xs.length
  | [],_,_,h=>by obtain ⟨rfl,_⟩:=h; rfl
  | d :: ds,_,_,h=>by
    unfold Trees at h
    obtain ⟨x,r,_,_,rfl,_,h2,_⟩:=h
    simp [Trees.length h2]
theorem RS.top {i : Nat} {ds : List D} (h : RS K H0 B0 H σ δ R) (hi : δ[i]? = some (some (.ow (.lst ds)))) : ∃ a xs A,σ[i]? = some (some (.ref a))∧H a=some (.lst xs)∧Trees K H ds xs A∧R i=a :: A∧(a :: A).Nodup:=by
  obtain ⟨v,e,t,nd⟩:=h.ow i _ hi
  unfold Tree at t
  obtain ⟨a,xs,A,rfl,ha,ts,e2⟩:=t
  rw [e2] at nd
  exact ⟨a,xs,A,e,ha,ts,e2,nd⟩
theorem RS.put0 {Hold : Hp} {i : Nat} {ds ds' : List D} {a : Addr} {xs' : List V} {A A' : List Addr} (h : RS K H0 B0 Hold σ δ R) (e : Same Hold H) (hi : δ[i]? = some (some (.ow (.lst ds)))) (hv : σ[i]? = some (some (.ref a))) (hR : R i=a :: A) (nd : (a :: A).Nodup)
    (t : Trees K H ds' xs' A') (nd' : A'.Nodup) (sub : ∀ b∈A',b∈A∨Hold b=none) : RS K H0 B0 (upd H a (.lst xs')) σ ((z0Y i δ).set i (some (.ow (.lst ds')))) (z9c R i (a :: A'))∧Stp R Hold (z9c R i (a :: A')) (upd H a (.lst xs')):=by
  have ha : a∈R i:=by rw [hR]; exact List.mem_cons_self
  obtain ⟨oa,ea,ma⟩:=h.held i a ha
  have nA : ∀ b∈A',b≠a:=fun b hb z=>by
    rcases sub b hb with q | q
    · exact (List.nodup_cons.mp nd).1 (z ▸ q)
    · rw [z,ea] at q; cases q
  have mH : Mut (H a):=by rw [e a oa ea]; exact ma
  refine h.rewrite e hi hv ha ?_ (List.nodup_cons.mpr ⟨fun z=>nA a z rfl,nd'⟩) fun b hb=>?_
  · unfold Tree
    refine ⟨a,xs',A',rfl,z0o,Trees.keep (Keep.upd (K:=K) (B:=fun x=>x=a) rfl mH).i ds' t fun b hb o q=>?_,rfl⟩
    rw [z0z (nA b hb)]; exact q
  · rw [hR]
    rcases List.mem_cons.mp hb with z | z
    · rw [z]; exact .inl List.mem_cons_self
    · exact (sub b z).imp (List.mem_cons_of_mem _) id
end
end L2
namespace L2
open PySem PySem.Spec PyProof.Rows
noncomputable instance {i j : Int} : Decidable (CDiv i j):=by unfold CDiv; infer_instance
noncomputable instance {i j : Int} : Decidable (CPow i j):=by unfold CPow; infer_instance
noncomputable instance {i j : Int} : Decidable (CMul i j):=by unfold CMul; infer_instance
noncomputable def LM (K : PySem.W.Frag) (r : V->List V->Hp->VK->Prop) (F : List D->List D->Option (List D)) : Prop:=
  ∀ (H : Hp) (a : Addr) (xs : List V) (ds args : List D) (vs : List V) (ds' : List D) (Q : VK),H a=some (.lst xs)->ds.length=xs.length->Reps K H noB args vs->F ds args=some ds' →
    (∀ (w : V) (xs' : List V),(∀ (H2 : Hp) (A C : List Addr),Trees K H2 ds xs A->Trees K H2 args vs C->∃ A',Trees K H2 ds' xs' A'∧((A ++ C).Nodup->A'.Nodup)∧∀ b∈A',b∈A∨b∈C)->Q w (upd H a (.lst xs')))->r (.ref a) vs H Q
noncomputable def z5S : List D->List D->Option (List D):=fun ds args=>match args with
  | [d]=>if ds.length < sizeLine then some (ds ++ [d]) else none
  | _=>none
theorem z2y {K : PySem.W.Frag} : LM K z9M z5S:=by
  intro H a xs ds args vs ds' Q ha hl hr q k
  unfold z5S at q
  split at q
  · rename_i d
    split at q
    · rename_i hz
      cases q
      obtain ⟨y,rfl,ry⟩:=z3s hr
      refine ⟨a,xs,y,rfl,rfl,ha,by rw [← hl]; exact hz,k _ _ fun H2 A C t tc=>⟨A ++ C,t.append tc,fun z=>z,fun b hb=>List.mem_append.mp hb⟩⟩
    · cases q
  · cases q
noncomputable def y1h (n : Nat) (i : Int) : Nat:=if i < 0 then (i + (n : Int)).toNat else min i.toNat n
noncomputable def y1R : V->List V->Hp->VK->Prop:=fun x vs H Q=>∃ l xs i y,x = .ref l∧vs=[.int i,y]∧H l=some (.lst xs)∧xs.length < sizeLine∧-(2 ^ 63)≤i∧i < 2 ^ 63∧Q .non (upd H l (.lst (xs.take (y1h xs.length i) ++ y :: xs.drop (y1h xs.length i))))
theorem ins_arr (its : List Value) (k : Nat) (y : Value) : (its.toArray.extract 0 k).push y ++ its.toArray.extract k=(its.take k ++ y :: its.drop k).toArray:=by
  apply Array.ext'
  simp
  rw [List.take_of_length_le (by simp)]
theorem y2m {X : Cx} : MtM X "list.insert" y1R:=by
  intro pins s σ H x vs v us Q I rx rv h
  obtain ⟨l,xs,i,y,rfl,rfl,hH,hz,h1,h2,q⟩:=h
  cases rx
  obtain ⟨u,w',rfl,⟨t,rfl⟩,ry⟩:=rv.two
  obtain ⟨z,its,n,r,hl,e⟩:=I.lstM hH
  have hfit : Builtin.List.listFitsIndex i=true:=fitsIndex_both h1 h2
  refine call_meets F.slot_list_insert ⟨_,e,rfl⟩ F.entry_list_insert (F.args_list_insert_3 _ _ _)
    (AutoSeq1.list_insert_list_int_val_1 l its.toArray n i t w' (by rw [hfit]; decide) (by rw [List.size_toArray]; omega)) ⟨e,?_⟩
  refine ⟨.non,_,I.lset (its':=its.take (y1h its.length i) ++ w' :: its.drop (y1h its.length i)) (ys:=xs.take (y1h xs.length i) ++ y :: xs.drop (y1h xs.length i)) hH e ?_ ?_ ?_,rfl,q⟩
  · show (its.toArray.extract 0 (if i < 0 then (i + (its.toArray.size : Int)).toNat else min i.toNat its.toArray.size)).push w' ++ its.toArray.extract (if i < 0 then (i + (its.toArray.size : Int)).toNat else min i.toNat its.toArray.size)=_
    rw [ins_arr,List.size_toArray]
    rfl
  · rw [← hl]
    exact (r.take _).append (.cons ry (r.drop _))
  · have : y1h xs.length i≤xs.length∨¬ y1h xs.length i≤xs.length:=Decidable.em _
    simp only [List.length_append,List.length_take,List.length_cons,List.length_drop]
    omega
noncomputable def insF : List D->List D->Option (List D):=fun ds args=>match args with
  | [.int i,d]=>if ds.length < sizeLine∧-(2 ^ 63)≤i∧i < 2 ^ 63 then some (ds.take (y1h ds.length i) ++ d :: ds.drop (y1h ds.length i)) else none
  | _=>none
theorem y3h {A1 A2 C : List Addr} (h : (A1 ++ A2 ++ C).Nodup) : (A1 ++ (C ++ A2)).Nodup:=by
  have p : (A1 ++ A2 ++ C).Perm (A1 ++ (C ++ A2)):=by
    rw [List.append_assoc]
    exact List.Perm.append_left _ List.perm_append_comm
  exact p.nodup_iff.mp h
theorem y2d {K : PySem.W.Frag} : LM K y1R insF:=by
  intro H a xs ds args vs ds' Q ha hl hr q k
  unfold insF at q
  split at q
  · rename_i i d
    split at q
    · rename_i hz
      cases q
      obtain ⟨v,y,rfl,rv,ry⟩:=reps2 hr
      cases (show v=V.int i from rv)
      refine ⟨a,xs,i,y,rfl,rfl,ha,by rw [← hl]; exact hz.1,hz.2.1,hz.2.2,k _ _ fun H2 A C t tc=>?_⟩
      rw [← hl]
      obtain ⟨A1,A2,rfl,t1,t2⟩:=t.split (y1h ds.length i)
      unfold Trees at tc
      obtain ⟨x1,r1,C1,C2,e1,h1,h2,rfl⟩:=tc
      cases e1
      obtain ⟨_,eC1⟩:=(show V.int i=V.int i∧C1=[] from h1)
      subst eC1
      unfold Trees at h2
      obtain ⟨x2,r2,C3,C4,e2,h3,h4,rfl⟩:=h2
      cases e2
      obtain ⟨_,rfl⟩:=h4
      refine ⟨A1 ++ (C3 ++ A2),t1.append ?_,fun z=>?_,fun b hb=>?_⟩
      · unfold Trees
        exact ⟨_,_,C3,A2,rfl,h3,t2,rfl⟩
      · simp only [List.nil_append,List.append_nil] at z
        exact y3h z
      · simp only [List.nil_append,List.append_nil,List.mem_append] at hb ⊢
        rcases hb with z | z | z
        · exact .inl (.inl z)
        · exact .inr z
        · exact .inl (.inr z)
    · cases q
  · cases q
section
variable {X : Cx} {H0 : Hp} {B0 : Addr->Prop} {fr : Bool} {RX : XR} {e e2 : Expr} {es : List Expr} {pos ap cp : Pos} {x name : Str} {px p2 : Pos} {bid : String} {r : V->List V->Hp->VK->Prop} {F : List D->List D->Option (List D)} {fl : List DE}
noncomputable def m0 (i : Nat) (F : List D->List D->Option (List D)) (fl : List DE) : SS->Option Out:=fun δ=>(z0m fl (z0H δ)).bind fun args=>if z2C args=true then (match δ[i]? with
  | some (some (.ow (.lst ds)))=>(F ds args).map fun ds'=>.nx ((z0Y i δ).set i (some (.ow (.lst ds'))))
  | _=>none) else none
theorem m0_core {i : Nat} {to : TE} (hL : LM X.K r F) (hto : to=y1y i) (D : Ends) (σ : St) (H : Hp) (h : tS X.K H0 B0 fr RX (m0 i F fl) D σ H) : tDrop (tBM X.K "list" r to (tDs X.K (z0m fl))) D σ H:=by
  subst hto
  obtain ⟨δ,R,o,rs,q,k⟩:=h
  unfold m0 at q
  cases e1 : z0m fl (z0H δ) with
  | none=>rw [e1] at q; cases q
  | some args=>
    rw [e1] at q
    have q : (if z2C args=true then (match δ[i]? with | some (some (.ow (.lst ds)))=>(F ds args).map fun ds'=>Out.nx ((z0Y i δ).set i (some (.ow (.lst ds')))) | _=>none) else none)=some o:=q
    split at q
    case isFalse=>cases q
    case isTrue hi=>
    split at q
    case h_2=>cases q
    case h_1 ds ei=>
    cases e2 : F ds args with
    | none=>rw [e2] at q; cases q
    | some ds'=>
      rw [e2] at q
      cases q
      obtain ⟨a,xs,A,ev,ha,ts,eR,nd⟩:=rs.top ei
      refine ⟨.ref a,ev,.inl ⟨rfl,xs,SqL.of ha⟩,noB,z0H δ,args,.no,rs.all,e1,fun vs H2 s2 r2=>?_⟩
      refine hL H2 a xs ds args vs ds' _ (s2 _ _ ha) ts.length r2 e2 fun w xs' up=>?_
      obtain ⟨A',t',n',sub⟩:=up H2 A [] (ts.mono s2) (r2.immTree args hi)
      have P:=rs.put0 s2 ei ev eR nd t' (n' (by rw [List.append_nil]; exact (List.nodup_cons.mp nd).2)) fun b hb=>(sub b hb).imp id (fun z=>nomatch z)
      exact k σ _ _ P.1 P.2
theorem s_m0 {i : Nat} (slot : Slot "list" name bid) (hty : typeOf (.builtin bid)=pure (.type "method_descriptor")) (hm : MtM X bid r) (hL : LM X.K r F) (hx : PE X (.Name x px) (y1y i)) (ha : PAD X (e :: es) fl)
    (hbase : attributeBase (.Name x px) name X.env (eval (.Name x px) X.env)=eval (.Name x px) X.env:=by rfl)
    (hfew : ((backTo cp (starEach (e :: es) X.env)).all (fun x=>!x.1) && (backToKw cp (keywordEach [] X.env)).all (fun x=>x.1.isSome) && decide ((e :: es).length + ([] : List Keyword).length + (if ([] : List Keyword).isEmpty then 0 else 1) < 30))=true:=by rfl)
    (hline : (ap.endLine == cp.line)=true:=by rfl) (hs : starEach (e :: es) X.env=(false,eval e X.env) :: starEach es X.env:=by rfl) (hplain : (backTo cp (starEach es X.env)).any (·.1)=false:=by rfl)
    (hsw : swapsWith (.Call (.Attribute (.Name x px) name ap) (e :: es) [] cp) none pos.line X.env=pure false:=by rfl) :
    PS X (.Expr (.Call (.Attribute (.Name x px) name ap) (e :: es) [] cp) pos) (tS X.K H0 B0 fr RX (m0 i F fl)):=
  PS.imp (z7y (y4r PySem.F.plainAttrs_list slot hty hm hx ha hbase hfew hline hs hplain) hsw) (m0_core hL rfl)
noncomputable def m1 (i : Nat) (fk : DE) (F : List D->List D->Option (List D)) (fl : List DE) : SS->Option Out:=fun δ=>(fk (z0H δ)).bind fun dk=>match dk with
  | .int k=>(z0m fl (z0H δ)).bind fun args=>if z2C args=true then (match δ[i]? with
    | some (some (.ow (.lst ds)))=>(ixN ds.length k).bind fun j=>match ds[j]? with
      | some (.lst es)=>if z2C es=true then (F es args).bind fun es'=>if z2C es'=true then some (.nx ((z0Y i δ).set i (some (.ow (.lst (ds.set j (.lst es'))))))) else none else none
      | _=>none
    | _=>none) else none
  | _=>none
noncomputable def st0 (i : Nat) (fk fv : DE) : SS->Option Out:=fun δ=>(fv (z0H δ)).bind fun d=>if d.imm=true then (fk (z0H δ)).bind fun dk=>(match dk,δ[i]? with
  | .int k,some (some (.ow (.lst ds)))=>(ixN ds.length k).map fun j=>.nx ((z0Y i δ).set i (some (.ow (.lst (ds.set j d)))))
  | _,_=>none) else none
noncomputable def st1 (i : Nat) (fk fj fv : DE) : SS->Option Out:=fun δ=>(fv (z0H δ)).bind fun d=>if d.imm=true then (fk (z0H δ)).bind fun dk=>(fj (z0H δ)).bind fun dj=>(match dk,dj,δ[i]? with
  | .int k,.int j,some (some (.ow (.lst ds)))=>(ixN ds.length k).bind fun k'=>(match ds[k']? with
    | some (.lst es)=>if z2C es=true then (ixN es.length j).map fun j'=>.nx ((z0Y i δ).set i (some (.ow (.lst (ds.set k' (.lst (es.set j' d))))))) else none
    | _=>none)
  | _,_,_=>none) else none
end
end L2
namespace L2
open PySem PySem.Spec PyProof.Rows
theorem Trees.setI {K : PySem.W.Frag} {H : Hp} {d : D} {y : V} (ty : Tree K H d y []) : ∀ {ds : List D} {xs : List V} {A : List Addr} (j : Nat),Trees K H ds xs A->∃ A',Trees K H (ds.set j d) (xs.set j y) A'∧A'.Sublist A
  | [],_,_,_,h=>by
    obtain ⟨rfl,rfl⟩:=h
    exact ⟨[],⟨rfl,rfl⟩,List.Sublist.refl _⟩
  | e :: ds,_,_,0,h=>by
    unfold Trees at h
    obtain ⟨x,r,A1,A2,rfl,h1,h2,rfl⟩:=h
    refine ⟨A2,?_,List.sublist_append_right _ _⟩
    rw [List.set_cons_zero,List.set_cons_zero]
    unfold Trees
    exact ⟨y,r,[],A2,rfl,ty,h2,rfl⟩
  | e :: ds,_,_,k + 1,h=>by
    unfold Trees at h
    obtain ⟨x,r,A1,A2,rfl,h1,h2,rfl⟩:=h
    obtain ⟨A',t,sb⟩:=Trees.setI ty k h2
    refine ⟨A1 ++ A',?_,List.Sublist.append_left sb _⟩
    rw [List.set_cons_succ,List.set_cons_succ]
    unfold Trees
    exact ⟨x,_,A1,A',rfl,h1,t,rfl⟩
section
variable {X : Cx} {H0 : Hp} {B0 : Addr->Prop} {fr : Bool} {RX : XR} {e ke je : Expr} {pos : Pos} {x : Str} {px p2 p3 : Pos}
theorem s_st0 {i : Nat} {fk fv : DE} (hx : PE X (.Name x px) (y1y i)) (hk : PD X ke fk) (hv : PD X e fv)
    (ha : ∀ v,assign (.Subscript (.Name x px) ke p2) X.env v=(do
      let ov ← holding [v] (eval (.Name x px) X.env)
      let iv ← holding [v,ov] (eval ke X.env)
      standAt p2
      holding [v,ov,iv] (setItem ov iv v)
      release [v,ov,iv] []):=by intro _; rfl)
    (hs : swapsWithSole [.Subscript (.Name x px) ke p2] e pos.line X.env=pure false:=by rfl) (hw : swappedStores [.Subscript (.Name x px) ke p2] e X.env=pure none:=by rfl)
    (h1 : (assignEach [.Subscript (.Name x px) ke p2] X.env).map (·.2)=[assign (.Subscript (.Name x px) ke p2) X.env]:=by rfl) :
    PS X (.Assign [.Subscript (.Name x px) ke p2] e pos) (tS X.K H0 B0 fr RX (st0 i fk fv)):=
  PS.imp (ps_asg hv (pg_sub hx hk y5o ha) hs hw h1) fun D σ H z_=>by
    obtain ⟨δ,R,o,rs,q,kk⟩:=z_
    unfold st0 at q
    cases e1 : fv (z0H δ) with
    | none=>rw [e1] at q; cases q
    | some d=>
    rw [e1] at q
    have q : (if d.imm=true then (fk (z0H δ)).bind fun dk=>(match dk,δ[i]? with
      | .int k,some (some (.ow (.lst ds)))=>(ixN ds.length k).map fun j=>Out.nx ((z0Y i δ).set i (some (.ow (.lst (ds.set j d)))))
      | _,_=>none) else none)=some o:=q
    split at q
    case isFalse=>cases q
    case isTrue hi=>
    cases e2 : fk (z0H δ) with
    | none=>rw [e2] at q; cases q
    | some dk=>
    rw [e2] at q
    simp only [Option.bind_some] at q
    split at q
    case h_2=>cases q
    case h_1=>
    rename_i k ds ei
    cases ej : ixN ds.length k with
    | none=>rw [ej] at q; cases q
    | some j=>
    rw [ej] at q
    cases q
    obtain ⟨a,xs,A,ev,ha',ts,eR,nd⟩:=rs.top ei
    refine ⟨noB,z0H δ,d,.no,rs.all,e1,fun v H1 s1 r1=>⟨.ref a,ev,noB,z0H δ,.int k,.no,rs.all.mono s1,e2,fun v2 H2 s2 r2=>?_⟩⟩
    cases (show v2=V.int k from r2)
    refine ⟨a,xs,k,j,rfl,rfl,s2 _ _ (s1 _ _ ha'),by rw [← ts.length]; exact ej,?_⟩
    obtain ⟨A',t',sb⟩:=Trees.setI ((r1.immTree d hi).mono s2) j (ts.mono (s1.trans s2))
    have P:=rs.put0 (s1.trans s2) ei ev eR nd t' ((List.nodup_cons.mp nd).2.sublist sb) fun b hb=>.inl (sb.subset hb)
    exact kk σ _ _ P.1 P.2
end
section
variable {X : Cx} {e a b : Expr} {lo hi : Option Expr} {p2 pos : Pos}
noncomputable def tO (K : PySem.W.Frag) (f : DS->Option (Option Int)) : TO:=fun σ H Q=>∃ B δ o,InB B H∧RepS K H B σ δ∧f δ=some o∧∀ H',Same H H'->Q o H'
noncomputable abbrev POD (X : Cx) (e : Option Expr) (f : DS->Option (Option Int)) : Prop:=PO X e (tO X.K f)
theorem PO.imp {eo : Option Expr} {t t' : TO} (h : PO X eo t) (w : ∀ σ H Q,t' σ H Q->t σ H Q) : PO X eo t':=fun pins s σ H Q I q=>h pins s σ H Q I (w σ H Q q)
noncomputable def z3L : DS->Option (Option Int):=fun _=>some none
noncomputable def z6w (f : DE) : DS->Option (Option Int):=fun δ=>match f δ with
  | some (.int i)=>some (some i)
  | _=>none
theorem z3P : POD X none z3L:=po_none.imp fun σ H Q z_=>by
  obtain ⟨B,δ,o,hB,S,q,k⟩:=z_
  cases q
  exact k H (.refl H)
theorem z2F {f : DE} (h : PD X e f) : POD X (some e) (z6w f):=(po_some h).imp fun σ H Q z_=>by
  obtain ⟨B,δ,o,hB,S,q,k⟩:=z_
  unfold z6w at q
  split at q
  · rename_i i e1
    cases q
    exact ⟨B,δ,.int i,hB,S,e1,fun v H' s r=>⟨i,r,k H' s⟩⟩
  · cases q
noncomputable def z4Q (ds : List D) (lo hi : Option Int) : List D:=(ds.drop (HT.sIx ds.length 0 lo)).take (HT.sIx ds.length ds.length hi - HT.sIx ds.length 0 lo)
noncomputable def y6w (f : DE) (fl fh : DS->Option (Option Int)) : DS->Option (List D):=fun δ=>match f δ with
  | some (.lst ds)=>(fl δ).bind fun lo=>(fh δ).map fun hi=>z4Q ds lo hi
  | some (.scr ns)=>(fl δ).bind fun lo=>(fh δ).map fun hi=>z4Q (ns.map .int) lo hi
  | _=>none
theorem z5G {f : DE} {fl fh : DS->Option (Option Int)} (he : PD X e f) (hl : POD X lo fl) (hh : POD X hi fh) : PF X (.Subscript e (.Slice lo hi none p2) pos) (y6w f fl fh):=(y0P sl_list he hl hh).imp fun σ H Q z_=>by
  obtain ⟨B,δ,ds',hB,S,q,k⟩:=z_
  unfold y6w at q
  have core : ∀ (d : D) (ds : List D),f δ=some d->((fl δ).bind fun lo=>(fh δ).map fun hi=>z4Q ds lo hi)=some ds'->(∀ v H1,Rep X.K H1 B d v->∃ a xs,v = .ref a∧(∀ H2,Same H1 H2->SqL X.K H2 a xs)∧Reps X.K H1 B ds xs) →
      tSl (rSlL X.K) (tD X.K f) (tO X.K fl) (tO X.K fh) σ H Q:=by
    intro d ds e1 q get
    cases e2 : fl δ with
    | none=>rw [e2] at q; cases q
    | some l=>
    cases e3 : fh δ with
    | none=>rw [e2,e3] at q; cases q
    | some u=>
    rw [e2,e3] at q
    cases q
    refine ⟨B,δ,_,hB,S,e1,fun v H1 s1 r1=>⟨B,δ,l,hB.mono s1,S.mono s1,e2,fun H2 s2=>⟨B,δ,u,(hB.mono s1).mono s2,(S.mono s1).mono s2,e3,fun H3 s3=>?_⟩⟩⟩
    obtain ⟨a,xs,rfl,hq,rs⟩:=get v H1 r1
    refine ⟨a,xs,rfl,hq H3 (s2.trans s3),fun p hp=>?_⟩
    have sa:=z0q (o:=.lst (y1H xs l u)) hp
    refine k p _ _ (((s1.trans s2).trans s3).trans sa) ((s1.trans (s2.trans s3)).free hp) z0o ?_
    unfold z4Q y1H
    rw [rs.length]
    exact ((rs.drop _).take _).mono ((s2.trans s3).trans sa)
  split at q
  case h_3=>cases q
  case h_1 ds e1=>
    refine core _ ds e1 q fun v H1 r1=>?_
    unfold Rep at r1
    obtain ⟨a,xs,rfl,_,hq,rs⟩:=r1
    exact ⟨a,xs,rfl,fun H2 s2=>SqL.of (s2 _ _ hq),rs⟩
  case h_2 ns e1=>
    refine core _ (ns.map .int) e1 q fun v H1 r1=>?_
    unfold Rep at r1
    obtain ⟨a,rfl,hq⟩:=r1
    exact ⟨a,_,rfl,fun H2 s2=>(s2.sf hq).sq,z2A ns⟩
end
section
variable {X : Cx} {pos : Pos} {x : Str} {iter elt : Expr} {N' : List Str} {sc : Scope} {ifs : List Expr} {n : Nat} {px : Pos} {fi : DS->Option (List D)} {fc : DS->Option Bool} {fe : DE}
theorem y5c {σ : St} {H : Hp} {Q : VK} (hσ : σ.length=n) (hq : tN X.K (mkL (z1M fi fc fe)) σ H Q) : y1K (tI X.K fi) (z3X n) (tT X.K fc) (tN X.K fe) 1 σ H Q:=by
  obtain ⟨δ,d0,Sδ,q,k⟩:=hq
  unfold mkL at q
  cases eds : z1M fi fc fe δ with
  | none=>rw [eds] at q; cases q
  | some ds=>
  rw [eds] at q
  cases q
  unfold z1M at eds
  cases e1 : fi δ with
  | none=>rw [e1] at eds; cases eds
  | some xs=>
  rw [e1] at eds
  have q1 : (if xs.length≤sizeLine then z2t (fun x=>(fc (δ ++ [some x])).bind fun k=>if k=true then (fe (δ ++ [some x])).map some else some none) xs else none)=some ds:=eds
  split at q1
  case isFalse=>cases q1
  case isTrue hsz=>
  refine ⟨noB,δ,xs,.no,Sδ,e1,fun J H1 s1 itw=>fun Da hD=>?_⟩
  have hD0 : H Da=none:=s1.free hD
  have it:=itw (fun a=>H1 a=none) fun a ha=>ha
  obtain ⟨I,hI⟩ : ∃ I : Nat->Nat->St->Hp->Prop,I=fun i m σ' H'=>m=xs.length - i∧i≤xs.length∧(∃ w,σ'=σ ++ [w])∧Same H1 H'∧∃ ys dn rs A,H' Da=some (.lst ys)∧Trees X.K H' dn ys A∧(Da :: A).Nodup∧(∀ a∈A,H1 a=none)∧ds=dn ++ rs∧dn.length≤i ∧
      z2t (fun x=>(fc (δ ++ [some x])).bind fun k=>if k=true then (fe (δ ++ [some x])).map some else some none) (xs.drop i)=some rs:=⟨_,rfl⟩
  refine ⟨I,⟨xs.length,by rw [hI]; exact ⟨by simp,Nat.zero_le _,⟨none,rfl⟩,z0q hD,[],[],ds,[],z0o,.nil,List.nodup_cons.mpr ⟨(fun z=>nomatch z),List.nodup_nil⟩,(fun a z=>nomatch z),rfl,Nat.le_refl _,q1⟩⟩,?_⟩
  intro i m σ' H' hh
  rw [hI] at hh
  obtain ⟨rfl,hi',⟨w,rfl⟩,sm,ys,dn,rs,A,hys,tys,nd,fr,hds,hln,hrs⟩:=hh
  have kp : Keep X.K (fun a=>noB a∨H1 a=none) H1 H':=.same sm
  by_cases hlt : i < xs.length
  · refine .inr ⟨it.go i H' kp hlt,fun σ'' H''=>I (i + 1) (xs.length - (i + 1)) σ'' H'',fun σ'' H'' h=>⟨xs.length - (i + 1),by omega,h⟩,fun xv H2 hy=>?_⟩
    obtain ⟨s2,d,hd,rd⟩:=it.yld i H' xv H2 kp hy
    have hdi:=hd hlt
    have hx : xs.drop i=d :: xs.drop (i + 1):=by
      obtain ⟨hl,e⟩:=List.getElem?_eq_some_iff.mp hdi
      rw [List.drop_eq_getElem_cons hl,e]
    rw [hx] at hrs
    obtain ⟨o,rs',e2,e3,e4⟩:=z4Z hrs
    show tT X.K fc ((σ ++ [w]).set n (some xv)) H2 _
    rw [← hσ,z7S]
    have S2 : RepS X.K H2 noB (σ ++ [some xv]) (δ ++ [some d]):=(((Sδ.mono s1).mono sm).mono s2).snoc (rd.anti fun a z=>z.elim)
    have hl2 : ys.length < sizeLine:=by
      have:=tys.length
      omega
    cases ec : fc (δ ++ [some d]) with
    | none=>rw [ec] at e2; cases e2
    | some kk=>
      rw [ec] at e2
      have e2' : (if kk=true then (fe (δ ++ [some d])).map some else some none)=some o:=e2
      refine ⟨noB,δ ++ [some d],kk,.no,S2,ec,fun H3 s3=>?_⟩
      cases kk with
      | false=>
        rw [if_neg Bool.false_ne_true] at e2'
        rw [if_neg Bool.false_ne_true]
        cases e2'
        rw [hI]
        exact ⟨rfl,hlt,⟨_,rfl⟩,(sm.trans s2).trans s3,ys,dn,rs',A,s3 _ _ (s2 _ _ hys),(tys.mono s2).mono s3,nd,fr,by rw [hds,e4]; rfl,Nat.le_succ_of_le hln,e3⟩
      | true=>
        rw [if_pos rfl] at e2'
        rw [if_pos rfl]
        cases ey : fe (δ ++ [some d]) with
        | none=>rw [ey] at e2'; cases e2'
        | some y=>
          rw [ey] at e2'
          cases e2'
          refine ⟨δ ++ [some d],y,S2.mono s3,ey,fun yv H5 A5 s5 t5 nd5 fr5=>⟨ys,s5 _ _ (s3 _ _ (s2 _ _ hys)),hl2,?_⟩⟩
          have s15 : Same H' H5:=(s2.trans s3).trans s5
          have hu : H5 Da=some (.lst ys):=s15 _ _ hys
          have mu : Mut (H5 Da):=by rw [hu]; exact trivial
          have hDa3 : H3 Da=some (.lst ys):=s3 _ _ (s2 _ _ hys)
          have nDa : Da ∉ A ++ A5:=fun z=>by
            rcases List.mem_append.mp z with z | z
            · exact (List.nodup_cons.mp nd).1 z
            · have:=fr5 Da z
              rw [hDa3] at this; cases this
          rw [hI]
          refine ⟨rfl,hlt,⟨_,rfl⟩,fun b u hb=>?_,ys ++ [yv],dn ++ [y],rs',A ++ A5,z0o,?_,List.nodup_cons.mpr ⟨nDa,?_⟩,fun a ha=>?_,by rw [hds,e4,List.append_assoc]; rfl,by rw [List.length_append]; simp; omega,e3⟩
          · rw [z0z (z1t hb hD)]
            exact s15 _ _ (sm _ _ hb)
          · refine Trees.keep (Keep.upd (K:=X.K) (B:=fun x=>x=Da) rfl mu).i _ ((tys.mono s15).snoc t5) fun b hb u q=>?_
            have ne : b≠Da:=fun z=>nDa (z ▸ hb)
            rw [z0z ne]; exact q
          · refine List.nodup_append.mpr ⟨(List.nodup_cons.mp nd).2,nd5,fun b hb c hc z=>?_⟩
            subst z
            obtain ⟨u,q,_⟩:=Trees.held _ tys b hb
            have:=fr5 b hc
            rw [(s2.trans s3) _ _ q] at this; cases this
          · rcases List.mem_append.mp ha with z | z
            · exact fr a z
            · exact sm.free ((s2.trans s3).free (fr5 a z))
  · have e : i=xs.length:=by omega
    subst e
    refine .inl ⟨it.stop _ H' kp (Nat.le_refl _),?_⟩
    rw [List.drop_length] at hrs
    cases hrs
    rw [List.append_nil] at hds
    subst hds
    refine k (.ref Da) H' (Da :: A) (s1.trans sm) ?_ nd fun a ha=>?_
    · unfold Tree
      exact ⟨Da,ys,A,rfl,hys,tys,rfl⟩
    · rcases List.mem_cons.mp ha with z | z
      · rw [z]; exact hD0
      · exact s1.free (fr a z)
theorem z6b (hc : X.calm=true) (S : CompScope X.N X.env.scope.names N' 1 sc) (hn : n=X.N.length) (hi : PID X (.Name x px) iter fi)
    (hg : ∀ s H fp pins E,PG (z1c X N' sc s H fp pins E) (.Name x px) (z3X n)) (ht : ∀ s H fp pins E,y5q (z1c X N' sc s H fp pins E) ifs (tT X.K fc)) (he : ∀ s H fp pins E,PE (z1c X N' sc s H fp pins E) elt (tN X.K fe))
    (hs : ∀ x,foldedSetIterable iter X.env x=pure x:=by intro _; rfl) : PN X (.ListComp elt [⟨.Name x px,iter,ifs,0⟩] sc pos) (mkL (z1M fi fc fe)):=by
  intro pins s σ H Q I hq
  exact y2G hc S hi ⟨hg,ht,he⟩ hs pins s σ H Q I (y5c (by rw [hn,I.len]) hq)
end
end L2
namespace L2
open PySem PySem.Spec PyProof.Rows
section
variable {X : Cx} {a b : Expr} {pos : Pos} {f g : DE}
noncomputable def z9e : D->D->Option D:=iop fun i j=>some (.int (i + j))
noncomputable def y4q : D->D->Option D:=iop fun i j=>some (.int (i - j))
noncomputable def z8w : D->D->Option D:=iop fun i j=>if CDiv i j then some (.int (i / j)) else none
noncomputable def z5x : D->D->Option D:=iop fun i j=>if 0 < j then some (.int (i % j)) else none
noncomputable def powI : D->D->Option D:=iop fun i j=>if CPow i j then some (.int (i ^ j.toNat)) else none
noncomputable def ltI : D->D->Option D:=iop fun i j=>some (.bl (decide (i < j)))
noncomputable def leI : D->D->Option D:=iop fun i j=>some (.bl (decide (i≤j)))
noncomputable def gtI : D->D->Option D:=iop fun i j=>some (.bl (decide (j < i)))
noncomputable def geI : D->D->Option D:=iop fun i j=>some (.bl (decide (j≤i)))
theorem z3E (ha : PD X a f) (hb : PD X b g) : PD X (.BinOp a .Add b pos) (d2 z9e f g):=y2L op_add y3m ha hb
theorem z6X (ha : PD X a f) (hb : PD X b g) : PD X (.BinOp a .Sub b pos) (d2 y4q f g):=y2L op_sub y3m ha hb
theorem z6m (ha : PD X a f) (hb : PD X b g) : PD X (.BinOp a .FloorDiv b pos) (d2 z8w f g):=y2L op_fdiv y2h ha hb
theorem z3l (ha : PD X a f) (hb : PD X b g) : PD X (.BinOp a .Mod b pos) (d2 z5x f g):=y2L op_mod y2h ha hb
theorem y6G (ha : PD X a f) (hb : PD X b g) : PD X (.BinOp a .Pow b pos) (d2 powI f g):=y2L op_pow y2h ha hb
theorem y5l (ha : PD X a f) (hb : PD X b g) : PD X (.Compare a [.Lt] [b] pos) (d2 ltI f g):=y6H op_lt z3O ha hb (z5R _)
theorem z9C (hu : X.A.units + 64 < cLine) (ha : PD X a f) (hb : PD X b g) : PD X (.Compare a [.Eq] [b] pos) (d2 eqD f g):=y6H (y6F hu) o2_eq ha hb (z5R _)
theorem y5z (ha : PD X a f) (hb : PD X b g) : PTD X (.Compare a [.Lt] [b] pos) (z0C (d2 ltI f g)):=z4r op_lt z3O ha hb (z5R _)
theorem y3s (ha : PD X a f) (hb : PD X b g) : PTD X (.Compare a [.Gt] [b] pos) (z0C (d2 gtI f g)):=z4r op_gt z3O ha hb (z5R _)
theorem pt_ge (ha : PD X a f) (hb : PD X b g) : PTD X (.Compare a [.GtE] [b] pos) (z0C (d2 geI f g)):=z4r op_ge z3O ha hb (z5R _)
theorem z6K (hu : X.A.units + 64 < cLine) (ha : PD X a f) (hb : PD X b g) : PTD X (.Compare a [.Eq] [b] pos) (z0C (d2 eqD f g)):=z4r (y6F hu) o2_eq ha hb (z5R _)
theorem z7T (hu : X.A.units + 64 < cLine) (ha : PD X a f) (hb : PD X b g) : PTD X (.Compare a [.NotEq] [b] pos) (z0C (d2 neD f g)):=z4r (op_neD hu) o2_ne ha hb (z5R _)
theorem pt_in (hu : X.A.units + 64 < cLine) (ha : PD X a f) (hb : PD X b g) (hm : behindInMarks .In b=false:=by rfl) : PTD X (.Compare a [.In] [b] pos) (z0C (d2 inD f g)):=z4r (op_inD hu) o2_in ha hb hm
theorem y6P (hu : X.A.units + 64 < cLine) (ha : PD X a f) (hb : PD X b g) (hm : behindInMarks .NotIn b=false:=by rfl) : PTD X (.Compare a [.NotIn] [b] pos) (z0C (d2 y6j f g)):=z4r (op_ninD hu) o2_nin ha hb hm
end
section
variable {P : Program} {w : World} {K : PySem.W.Frag} {mg : Str->Option Value} {base : Heap}
end
section
variable {X : Cx} {H0 : Hp} {B0 : Addr->Prop} {fr : Bool} {RX : XR} {e : Expr} {es : List Expr} {pos p px px2 cp : Pos} {x fn : Str} {k : Nat} {F : List D->Option D} {fl : List DE}
end
noncomputable def y5Z (K : PySem.W.Frag) (F : List D->Option D) : Sp:=fun vs H Q _=>∃ (a : Addr) (ns : List Int),vs=[.ref a]∧SqF K H a (ns.map V.int)∧F [.scr ns]=some (.bl true)∧∀ H',Q (.bl true) H'
theorem y6i {K : PySem.W.Frag} {H : Hp} {a : Addr} {xs : List V} (hO : Only H) (h : SqL K H a xs) : SqF K H a xs:=by
  rcases h with (h | h) | h
  · rcases hO a with z | ⟨o,ys,z⟩ <;> (rw [h] at z; cases z)
  · exact .inl h
  · exact .inr h
theorem law_of {P : Program} {w : World} {K : PySem.W.Frag} {mg : Str->Option Value} {base : Heap} {k : Nat} {f : Addr} {fd : FuncData} {ps : List Str} {F : List D->Option D} (h : FnOk P w K mg base CX0 k f fd ps (spN K F)) : FnOk P w K mg base CX0 k f fd ps (y5Z K F):=by
  refine h.imp fun vs H Q E z=>?_
  obtain ⟨a,ns,rfl,hq,e,q⟩:=z
  refine ⟨[.scr ns],.bl true,.cons ?_ .nil,e,fun v H' A s t nd fr=>?_⟩
  · unfold Rep
    exact ⟨a,rfl,hq⟩
  · cases (show v=V.bl true∧_ from t).1
    exact q H'
end L2
namespace L2
open PySem PySem.Spec PyProof.Rows
section
variable {X : Cx} {H0 : Hp} {B0 : Addr->Prop} {fr : Bool} {RX : XR} {e e2 : Expr} {pos ap cp : Pos} {x : Str} {px : Pos} {f g : DE}
noncomputable def y1L (i : Nat) (f : DE) : SS->Option Out:=fun δ=>(f (z0H δ)).bind fun d=>(match δ[i]? with
  | some (some (.ow (.lst ds)))=>(z5S ds [d]).map fun ds'=>.nx ((z0Y i δ).set i (some (.ow (.lst ds'))))
  | _=>none)
theorem y4b {i : Nat} (hx : PE X (.Name x px) (y1y i)) (he : PN X e f) (hbase : attributeBase (.Name x px) "append" X.env (eval (.Name x px) X.env)=eval (.Name x px) X.env:=by rfl)
    (hfew : ((backTo cp (starEach [e] X.env)).all (fun x=>!x.1) && (backToKw cp (keywordEach [] X.env)).all (fun x=>x.1.isSome) && decide ([e].length + ([] : List Keyword).length + (if ([] : List Keyword).isEmpty then 0 else 1) < 30))=true:=by rfl)
    (hline : (ap.endLine == cp.line)=true:=by rfl) (hs : starEach [e] X.env=(false,eval e X.env) :: starEach [] X.env:=by rfl) (hsw : swapsWith (.Call (.Attribute (.Name x px) "append" ap) [e] [] cp) none pos.line X.env=pure false:=by rfl) :
    PS X (.Expr (.Call (.Attribute (.Name x px) "append" ap) [e] [] cp) pos) (tS X.K H0 B0 fr RX (y1L i f)):=
  PS.imp (z7y (y4r PySem.F.plainAttrs_list PySem.F.slot_list_append PySem.F.type_list_append z2d hx (z1L he pa_nil hs) hbase hfew hline hs rfl) hsw) fun D σ H z_=>by
    obtain ⟨δ,R,o,rs,q,k⟩:=z_
    unfold y1L at q
    cases e1 : f (z0H δ) with
    | none=>rw [e1] at q; cases q
    | some d=>
    rw [e1] at q
    simp only [Option.bind_some] at q
    split at q
    case h_2=>cases q
    case h_1=>
    rename_i ds ei
    cases e2 : z5S ds [d] with
    | none=>rw [e2] at q; cases q
    | some ds'=>
    rw [e2] at q
    cases q
    obtain ⟨a,xs,A,ev,ha,ts,eR,nd⟩:=rs.top ei
    refine ⟨.ref a,ev,.inl ⟨rfl,xs,SqL.of ha⟩,z0H δ,d,rs.all,e1,fun y H2 C s2 t2 nC fC=>?_⟩
    show z9M (.ref a) [y] H2 fun _ H1=>D.nx σ H1
    refine z2y (K:=X.K) H2 a xs ds [d] [y] ds' _ (s2 _ _ ha) ts.length (.one (t2.rep d (fun _ _ z=>z.elim))) e2 fun w xs' up=>?_
    obtain ⟨A',t',n',sub⟩:=up H2 A C (ts.mono s2) (.one t2)
    have hAC : (A ++ C).Nodup:=List.nodup_append.mpr ⟨(List.nodup_cons.mp nd).2,nC,fun b hb c hc z=>by
      subst z
      obtain ⟨u,q,_⟩:=Trees.held ds ts b hb
      rw [fC b hc] at q; cases q⟩
    have P:=rs.put0 s2 ei ev eR nd t' (n' hAC) fun b hb=>(sub b hb).imp id fun z=>fC b z
    exact k σ _ _ P.1 P.2
end
end L2
namespace L2
open PySem PySem.Spec PyProof.Rows
open PySem.MeetsSeq PySem.MeetsSeq2 PySem.MeetsSeq3 PySem.SeqRoads2 PySem.SeqAt
open PySem.AutoSeq1 (wpAny_loadPart')
theorem z6B {M : Model} {A : Around} {E : Value->Shared->Prop} {s : Shared} {β : Type} (f : Nat->β->Sem (ForInStep β)) (I : List Nat->β->Shared->Prop) (Q : β->Shared->Prop)
    (turn : ∀ x rest b s,I (x :: rest) b s->wpAny M A (f x b) (fun r s'=>match r with | .yield b'=>I rest b' s' | .done b'=>Q b' s') E s)
    (fin : ∀ b s,I [] b s->Q b s) (lo hi : Nat) (b : β) (h : I (List.range' lo (hi - lo)) b s) : wpAny M A (forIn ([lo:hi] : Std.Legacy.Range) b f) Q E s:=by
  rw [Std.Legacy.Range.forIn_eq_forIn_range']
  have hsz : ([lo:hi] : Std.Legacy.Range).size=hi - lo:=by simp [Std.Legacy.Range.size]
  show wpAny M A (forIn (List.range' lo ([lo:hi] : Std.Legacy.Range).size 1) b f) Q E s
  rw [hsz]
  exact wpAny_forIn_list f I Q turn fin _ b h
theorem z7O (l : Addr) (items : Array Value) (n : Nat) (dd : Option Addr) (sl : Array (Option Value)) (x : Value) (e : Value->Bool) (j : Nat) (hj : j < items.size) (hit : e items[j]=true) (hno : ∀ m (hm : m < items.size),m < j->e items[m]=false) :
    Meets (Builtin.«tuple.index» ⟨[.ref l,x],[]⟩)
      (fun A R s=>s.heap.get? l=some { cls:=.type "tuple",dict:=dd,data:=.seq items n,slots:=sl }∧(∀ y,y∈items->EqAt A.in1 s y x (e y))∧R (.ok (.ret (.int j s.toks))) { s with toks:=s.toks + 1 }):=
  .of_wp fun prog w A R s h=>by
    obtain ⟨hp,g,d,tk,os⟩:=s; obtain ⟨hl,he,h⟩:=h
    wp_walk using wpAny_loadPart' hl,z6B _ (fun rest b s'=>b.1=none∧s'=⟨hp,g,d,tk,os⟩∧∃ i,i≤j∧rest=List.range' i (items.size - i)) _
    case turn=>
      rintro y rest b s' ⟨hb,rfl,i,hi,hr⟩
      have e1 : items.size - i=(items.size - (i + 1)) + 1:=by omega
      rw [e1,List.range'_succ] at hr
      have h1 : i=y:=(List.cons.inj hr).1.symm
      have h2:=(List.cons.inj hr).2
      subst h1
      have hlt : i < items.size:=by omega
      rw [Array.getElem?_eq_getElem hlt]
      refine wpAny_bind (he _ (Array.getElem_mem hlt) prog w _ _ ?_)
      by_cases hij : i=j
      · subst hij
        rw [hit]
        wp_walk
        exact ⟨_,rfl,h⟩
      · rw [hno i hlt (by omega)]
        wp_walk
        exact ⟨rfl,rfl,i + 1,by omega,h2⟩
    case fin=>
      rintro ⟨b1,b2⟩ s' ⟨hb,rfl,i,hi,hr⟩
      have : (List.range' i (items.size - i)).length=0:=by rw [← hr]; rfl
      rw [List.length_range'] at this
      omega
    case h=>
      exact ⟨rfl,rfl,0,by omega,by simp⟩
section
variable {X : Cx}
theorem Inv.tupleO {pins : List (Addr × Obj)} {σ : St} {H : Hp} {s : Shared} {a : Addr} {xs : List V} (I : Inv X pins σ H s) (h : SqT X.K H a xs) : ∃ (its : List Value) (ob : Obj) (n : Nat),Vals xs its∧s.heap.get? a=some ob∧ob.cls = .type "tuple" ∧ ob.dict=none∧ob.data = .seq its.toArray n∧xs.length≤sizeLine:=by
  rcases h with h | ⟨o,its,n,hk,hc,hs,hz,r⟩
  · obtain ⟨z,its,r,ob,e,c,n,hd⟩:=h.ok I.hok
    exact ⟨its,ob,n,r,e,c.1,c.2,hd,z⟩
  · refine ⟨its.toList,o,n,r,I.kIn a o hk,hc.1,hc.2,by simpa using hs,?_⟩
    have e:=r.length
    simp only [Array.length_toList] at e
    omega
noncomputable def tTM (K : PySem.W.Frag) (r : V->List V->Hp->VK->Prop) (to : TE) (t : TA) : TE:=fun σ H Q=>to σ H fun x H1=>(∃ a xs,x = .ref a∧SqT K H1 a xs)∧t σ H1 fun xs H2=>r x xs H2 Q
variable {o e : Expr} {es : List Expr} {to : TE} {t : TA} {name : Str} {apos cpos : Pos} {id : String} {r : V->List V->Hp->VK->Prop}
theorem pe_tm (slot : Slot "tuple" name id) (hty : typeOf (.builtin id)=pure (.type "method_descriptor")) (hm : MtR X id r) (ho : PE X o to) (ha : PA X (e :: es) t)
    (hbase : attributeBase o name X.env (eval o X.env)=eval o X.env:=by rfl)
    (hfew : ((backTo cpos (starEach (e :: es) X.env)).all (fun x=>!x.1) && (backToKw cpos (keywordEach [] X.env)).all (fun x=>x.1.isSome)
      && decide ((e :: es).length + ([] : List Keyword).length + (if ([] : List Keyword).isEmpty then 0 else 1) < 30))=true:=by rfl)
    (hline : (apos.endLine == cpos.line)=true:=by rfl) (hs : starEach (e :: es) X.env=(false,eval e X.env) :: starEach es X.env:=by rfl) (hplain : (backTo cpos (starEach es X.env)).any (·.1)=false:=by rfl) :
    PE X (.Call (.Attribute o name apos) (e :: es) [] cpos) (tTM X.K r to t):=by
  intro pins s σ H Q I h
  refine wpAny_Call_method_late hbase hfew hline rfl (thn (ho pins s σ H _ I h) fun v s1 ⟨x,H1,I1,r1,⟨a,ys,ex,ty⟩,q1⟩=>?_)
  subst ex
  cases r1
  obtain ⟨its,ob,n,_,e1,c1,d1,_⟩:=I1.tupleO ty
  refine ⟨"tuple",id,PySem.F.plainAttrs_tuple,slot,hty,⟨ob,e1,c1⟩,fun a e=>(by cases e; exact ⟨ob,e1,d1⟩),?_⟩
  have hA:=ha cpos pins s1 σ H1 _ I1 q1
  rw [hs] at hA ⊢
  refine Calls.callWith_builtin (by show (false || (backTo cpos (starEach es X.env)).any (·.1))=false; rw [hplain] <;> rfl) (Calls.evalArgs_plain ?_)
  exact thn hA fun us s2 ⟨vs,H2,I2,r2,q2⟩=>hm pins s2 σ H2 (.ref a) vs (.ref a) us Q I2 rfl r2 q2
noncomputable def rTIx (K : PySem.W.Frag) : V->List V->Hp->VK->Prop:=fun x vs H Q=>∃ (a : Addr) (ns : List Int) (i : Int) (j : Nat),x = .ref a∧vs=[.int i]∧SqT K H a (ns.map V.int)∧ns.findIdx? (fun n=>n == i)=some j∧Q (.int (j : Int)) H
theorem z9Z : ∀ {ns : List Int} {its : List Value},Vals (ns.map V.int) its->∀ (k : Nat) (h : k < its.length),∃ t,∃ h2 : k < ns.length,its[k] = .int ns[k] t
  | [],_,.nil,_,h=>by simp at h
  | n :: ns,_,.cons r t,k,h=>by
    obtain ⟨u,rfl⟩:=r
    cases k with
    | zero=>exact ⟨u,by simp,rfl⟩
    | succ k=>
      obtain ⟨w,h2,e⟩:=z9Z t k (by simpa using h)
      exact ⟨w,by simpa using h2,by simpa using e⟩
noncomputable def isI (i : Int) : Value->Bool
  | .int k _=>k == i
  | _=>false
theorem y3d : MtR X "tuple.index" (rTIx X.K):=by
  intro pins s σ H x vs v us Q I rx rv h
  obtain ⟨a,ns,i,j,rfl,rfl,hq,hj,q⟩:=h
  cases rx
  obtain ⟨u,rfl,ru⟩:=rv.one
  obtain ⟨ut,rfl⟩:=ru
  obtain ⟨its,⟨cls,dct,dat,sl⟩,n,r,e,c,d,hd,_⟩:=I.tupleO hq
  subst c; subst hd
  obtain ⟨hjl,hji,hjm⟩:=List.findIdx?_eq_some_iff_getElem.mp hj
  have hl : ns.length=its.length:=by have:=r.length; simpa using this
  have hj2 : j < its.length:=by omega
  refine call_meets F.slot_tuple_index ⟨_,e,rfl⟩ F.entry_tuple_index (F.args_tuple_index_2 _ _) (z7O a its.toArray n dct sl (.int i ut) (isI i) j (by simpa using hj2) ?_ ?_) ⟨e,?_,?_⟩
  · obtain ⟨t,h2,e2⟩:=z9Z r j hj2
    simp [e2,isI]
    simpa using hji
  · intro m hm hmj
    obtain ⟨t,h2,e2⟩:=z9Z r m (by omega)
    have:=hjm m hmj
    simp [e2,isI]
    simpa using this
  · intro y hy
    obtain ⟨k,hk,rfl⟩:=List.getElem_of_mem (show y∈its by simpa using hy)
    obtain ⟨t,h2,e2⟩:=z9Z r k hk
    rw [e2]
    exact SeqAt.EqAt.int_int _ _ _ _
  · exact ⟨.int (j : Int),H,I.tok _,⟨_,rfl⟩,q⟩
theorem z4F : ∀ {ds : List D} {ns : List Int},z1h ds=some ns->ds=ns.map D.int
  | [],ns,h=>by cases h; rfl
  | .int i :: r,ns,h=>by
    unfold z1h at h
    cases e : z1h r with
    | none=>rw [e] at h; cases h
    | some ms=>rw [e] at h; cases h; rw [List.map_cons,z4F e]
  | .non :: _,_,h=>by cases h
  | .bl _ :: _,_,h=>by cases h
  | .str _ :: _,_,h=>by cases h
  | .lst _ :: _,_,h=>by cases h
  | .tup _ :: _,_,h=>by cases h
  | .scr _ :: _,_,h=>by cases h
  | .dct _ _ :: _,_,h=>by cases h
  | .exc _ :: _,_,h=>by cases h
theorem z4x {K : PySem.W.Frag} {H : Hp} {B : Addr->Prop} : ∀ {ns : List Int} {xs : List V},Reps K H B (ns.map D.int) xs->xs=ns.map V.int
  | [],_,h=>by unfold Reps at h; exact h
  | n :: ns,_,h=>by
    rw [List.map_cons] at h
    unfold Reps at h
    obtain ⟨x,r,rfl,h1,h2⟩:=h
    unfold Rep at h1
    rw [h1,z4x h2]
    rfl
noncomputable def y6E : D->D->Option D
  | .tup ds,.int i=>(z1h ds).bind fun ns=>(ns.findIdx? (fun n=>n == i)).map fun j=>.int (j : Int)
  | _,_=>none
theorem z4D {f g : DE} (ho : PD X o f) (he : PD X e g) (hbase : attributeBase o "index" X.env (eval o X.env)=eval o X.env:=by rfl)
    (hfew : ((backTo cpos (starEach [e] X.env)).all (fun x=>!x.1) && (backToKw cpos (keywordEach [] X.env)).all (fun x=>x.1.isSome) && decide ([e].length + ([] : List Keyword).length + (if ([] : List Keyword).isEmpty then 0 else 1) < 30))=true:=by rfl)
    (hline : (apos.endLine == cpos.line)=true:=by rfl) (hs : starEach [e] X.env=(false,eval e X.env) :: starEach [] X.env:=by rfl) :
    PD X (.Call (.Attribute o "index" apos) [e] [] cpos) (d2 y6E f g):=
  (pe_tm PySem.F.slot_tuple_index PySem.F.type_tuple_index y3d ho (z1L he pa_nil hs) hbase hfew hline hs rfl).imp fun σ H Q z_=>by
    obtain ⟨B,δ,d,hB,S,q,k⟩:=z_
    obtain ⟨x,y,e1,e2,e3⟩:=z6k q
    unfold y6E at e3
    split at e3
    case h_2=>cases e3
    case h_1 ds i=>
    cases e4 : z1h ds with
    | none=>rw [e4] at e3; cases e3
    | some ns=>
    rw [e4,Option.bind_some] at e3
    cases e5 : ns.findIdx? (fun n=>n == i) with
    | none=>rw [e5] at e3; cases e3
    | some j=>
    rw [e5] at e3
    cases e3
    have eds:=z4F e4
    subst eds
    refine ⟨B,δ,_,hB,S,e1,fun v H1 s1 r1=>?_⟩
    unfold Rep at r1
    obtain ⟨a,xs,rfl,hq,rs⟩:=r1
    have ex:=z4x rs
    subst ex
    refine ⟨⟨a,_,rfl,hq⟩,B,δ,_,hB.mono s1,S.mono s1,e2,fun v2 H2 s2 r2=>?_⟩
    unfold Rep at r2
    subst r2
    exact ⟨a,ns,i,j,rfl,rfl,s2.tup hq,e5,k _ H2 (s1.trans s2) (by unfold Rep; rfl)⟩
end
end L2
namespace L2
open PySem PySem.Spec PyProof.Rows
open PySem.AutoSeq1 (wpAny_loadPart')
section
variable {prog : Program} {w : World} {A : Around} {E : Value->Shared->Prop} {s : Shared}
end
noncomputable def tRngV1 (ta : TA) : TE:=fun σ H Q=>ta σ H fun vs H1=>∃ j : Int,vs=[.int j]∧∀ p,H1 p=none->Q (.ref p) (upd H1 p (.rng 0 j))
section
variable {X : Cx}
theorem y2k {a : Expr} {ta : TA} {p pos : Pos} (hg : Gl X "range") (hm : X.mg "range" = none) (ha : PA X [a] ta) (hs : starEach [a] X.env=[(false,eval a X.env)]:=by rfl) : PE X (.Call (.Name "range" p) [a] [] pos) (tRngV1 ta):=by
  intro pins s σ H Q I h
  refine wpAny_Call_Name_kw (z4J I hg hm boot_range (PyProof.Rows.callWith_type1 (thn (ha pos pins s σ H _ I h) fun us s1 ⟨vs,H1,I1,r1,q1⟩=>?_) hs rfl))
  obtain ⟨j,e,q⟩:=q1
  subst e
  cases r1 with
  | cons r rr=>
    cases rr
    obtain ⟨t,rfl⟩:=r
    refine call_range_1 ⟨.ref s1.heap.objs.size,_,I1.laid (fun b o e=>Heap.get?_push_of_some _ e) (Nat.le_refl _) ?_,rfl,q _ (I1.hok.fresh (Nat.le_refl _))⟩
    exact ⟨_,_,_,Heap.get?_push_size _ rfl⟩
noncomputable def y6v (lo : Int) (n : Nat) : List V:=(List.range n).map fun i=>.int (lo + (i : Nat))
theorem y1w {lo : Int} : ∀ {n : Nat} {acc : Array Value},ItemsOf (fun i v=>∃ t,v=Value.int (lo + i * 1) t) acc n->Vals (y6v lo n) acc.toList:=by
  intro n acc h
  obtain ⟨hs,hv⟩:=h
  have key : ∀ (vs : List Value) (k : Nat),(∀ j v,vs[j]? = some v->∃ t,v=Value.int (lo + ((k + j : Nat) : Int)) t)->Vals ((List.range' k vs.length).map fun i=>V.int (lo + (i : Nat))) vs:=by
    intro vs
    induction vs with
    | nil=>intro k _; exact .nil
    | cons x r ih=>
      intro k hx
      rw [List.length_cons,List.range'_succ,List.map_cons]
      obtain ⟨t,e⟩:=hx 0 x rfl
      refine .cons ⟨t,by simpa using e⟩ (ih (k + 1) fun j v hj=>?_)
      obtain ⟨t,e⟩:=hx (j + 1) v (by simpa using hj)
      exact ⟨t,by rw [e]; congr 1 <;> omega⟩
  have:=key acc.toList 0 fun j v hj=>by
    obtain ⟨t,e⟩:=hv j v (by simpa using hj)
    exact ⟨t,by rw [e]; congr 1 <;> omega⟩
  rw [← List.range_eq_range',Array.length_toList,hs] at this
  exact this
theorem y5E {lo : Int} {n : Nat} : (y6v lo n).length=n:=by simp [y6v]
theorem y1j (hc : X.calm=true) : z3Y X (.type "list") (fun xs H Q=>∃ (p : Addr) (lo hi : Int),xs=[.ref p]∧H p=some (.rng lo hi)∧(-(2 ^ 62)≤lo∧lo < 2 ^ 62∧-(2 ^ 62)≤hi∧hi < 2 ^ 62)∧(hi - lo).toNat≤sizeLine∧∀ l,H l=none->Q (.ref l) (upd H l (.lst (y6v lo (hi - lo).toNat)))):=by
  intro pins s σ H xs us Q I r h
  obtain ⟨p,lo,hi,rfl,hp,hb,hl,q⟩:=h
  obtain ⟨u,rfl,rx⟩:=z6J r
  cases rx
  obtain ⟨t,u,v,e⟩:=I.hok p _ hp
  refine call_list_range (I.ok.hd hc) e (small_one hb.1 hb.2.1 hb.2.2.1 hb.2.2.2) (n:=(hi - lo).toNat) (by rw [rangeSize_one]; split <;> omega) (by rw [sizeLine_eq] at hl; omega) fun h' tk acc' c' kp e2 it=>?_
  have I2 : Inv X pins σ (upd H s.heap.objs.size (.lst (y6v lo (hi - lo).toNat))) { s with heap:=h',toks:=tk }:=
    I.laid kp (Nat.le_refl _) (show ObjOk X.prog X.w _ h' _ (.lst (y6v lo (hi - lo).toNat)) from ⟨by rw [y5E]; exact hl,acc'.toList,c',y1w it,by simpa using e2⟩)
  exact ⟨.ref s.heap.objs.size,_,I2,rfl,q _ (I.hok.fresh (Nat.le_refl _))⟩
noncomputable def z7e (g : DS->Option (List D)) : DS->Option (List D):=fun δ=>(g δ).bind fun ds=>if ds.length≤sizeLine then some ds else none
theorem y5T {K : PySem.W.Frag} {H : Hp} {B : Addr->Prop} {lo : Int} {n : Nat} : Reps K H B (z4d lo n) (y6v lo n):=by
  unfold z4d y6v
  generalize List.range n=l
  induction l with
  | nil=>exact .nil
  | cons k r ih=>exact .cons (by unfold Rep; rfl) ih
theorem y2S {f : DE} {δ : DS} {ds : List D} (h : z5j f δ=some ds) : ∃ j : Int,f δ=some (.int j)∧-(2 ^ 62)≤j∧j < 2 ^ 62∧ds=z4d 0 j.toNat:=by
  unfold z5j at h
  split at h
  · rename_i j e
    split at h
    · rename_i hb
      cases h
      exact ⟨j,e,hb.1,hb.2,rfl⟩
    · cases h
  · cases h
theorem y1e {g : DS->Option (List D)} {δ : DS} {ds : List D} (h : z7e g δ=some ds) : g δ=some ds∧ds.length≤sizeLine:=by
  unfold z7e at h
  cases e : g δ with
  | none=>rw [e] at h; cases h
  | some es=>
    rw [e] at h
    have h : (if es.length≤sizeLine then some es else none)=some ds:=h
    split at h
    · cases h; exact ⟨rfl,by assumption⟩
    · cases h
theorem y5j {lo : Int} {n : Nat} : (z4d lo n).length=n:=by simp [z4d]
variable {a b : Expr} {f g : DE} {p p2 pos pos2 : Pos}
theorem y2N (hc : X.calm=true) (hg : Gl X "list") (hm : X.mg "list" = none) (hg2 : Gl X "range") (hm2 : X.mg "range" = none) (h : PD X a f) (he2 : starEach [a] X.env=[(false,eval a X.env)]:=by rfl)
    (he : starEach [.Call (.Name "range" p2) [a] [] pos2] X.env=[(false,eval (.Call (.Name "range" p2) [a] [] pos2) X.env)]:=by rfl) : PF X (.Call (.Name "list" p) [.Call (.Name "range" p2) [a] [] pos2] [] pos) (z7e (z5j f)):=
  (z6g (y1j hc) hg hm PyProof.Rows.Boot.«list» (z1L (y2k hg2 hm2 (z1L h pa_nil he2) he2) pa_nil he) (by decide) (by decide) he rfl).imp fun σ H Q z_=>by
    obtain ⟨B,δ,ds,hB,S,e1,k⟩:=z_
    obtain ⟨e2,hl⟩:=y1e e1
    obtain ⟨j,e3,h1,h2,rfl⟩:=y2S e2
    rw [y5j] at hl
    refine ⟨B,δ,_,hB,S,e3,fun v H1 s1 r1=>?_⟩
    unfold Rep at r1
    subst r1
    refine ⟨j,rfl,fun r hr=>⟨r,0,j,rfl,z0o,⟨by omega,by omega,h1,h2⟩,by simpa using hl,fun l hl'=>?_⟩⟩
    refine k l _ _ ((s1.trans (z0q hr)).trans (z0q hl')) (s1.free ((z0q (H:=H1) hr).free hl')) z0o ?_
    rw [Int.sub_zero]
    exact y5T
end
end L2
namespace L2
open PySem PySem.Spec PyProof.Rows
section
variable {X : Cx} {pins : List (Addr × Obj)} {σ : St} {H : Hp} {s : Shared} {h' : Heap}
theorem Inv.turnedL {t' : Nat} {fp : List Addr} (I : Inv X pins σ H s) (k : ∀ b o,b ∉ fp->s.heap.get? b=some o->h'.get? b=some o) (hf : ∀ b∈fp,z9B X pins H b) : Inv X pins σ H { s with heap:=h',toks:=t' }:=by
  have nit : ∀ b u,H b=some u->b ∉ fp:=fun b u e z=>by rw [(hf b z).1] at e; cases e
  have nL : X.env.locals ∉ fp:=fun z=>(hf _ z).2.1 rfl
  refine I.step (g':=s.gens) (d':=s.drawn) (ch:=fp) (fun b hb=>?_) (fun b o _ _ hc e _=>k b o hc e) (fun b o _ _ hc e _=>⟨o.slots,k b o hc e⟩) (fun _ _ _ _ n=>n)
    (fun b o hc e=>⟨o,k b o hc e⟩) (fun _ _ e=>e) (fun _ _ _ e=>e) (fun b ps e=>⟨#[],by rw [e]; simp⟩) (fun m hm=>?_) (fun b u e=>?_) I.bare
  · obtain ⟨f0,f1,f2,f3,f4,f5⟩:=hf b hb
    exact ⟨f3,f1,f4,f5⟩
  · obtain ⟨o,es,ep,ho,r⟩:=hm
    exact ⟨o,es,ep,k _ o nL ho,r⟩
  · refine (I.hok b u e).stay (fun c v hc q=>k c v ?_ q) (fun _ q=>q) fun _ _ q=>q
    rcases hc with z | z
    · rw [z]; exact nit b u e
    · exact nit c _ z
noncomputable def Ite (K : PySem.W.Frag) (a : Addr) : It:=
  ⟨fun i H=>∃ xs x,SqL K H a xs∧xs[i]? = some x,fun i H v H'=>∃ p x,H p=none∧v = .ref p∧H'=upd H p (.tup [.int (i : Nat),x])∧∀ xs,SqL K H a xs->xs[i]? = some x,fun i H=>∃ xs,SqL K H a xs∧xs.length≤i⟩
theorem y3k {P : Program} {w : World} {K : PySem.W.Frag} {elts : List Expr} {x1} {tp : Pos} (a e it : Addr) (hne : e≠it) :
    Turn P w K (.Tuple elts x1 tp) (Ite K a) [e,it] e (fun i h=>(∃ old,IsEnum h e it ((i : Nat) : Int) old)∧h.IsListIter it a i) where
  mem:=by simp
  obj:=fun i h st b hb=>by
    obtain ⟨⟨old,he⟩,o,eo,c,d⟩:=st
    rcases List.mem_cons.mp hb with z | z
    · subst z
      exact ⟨_,he,fun v z=>by cases z⟩
    · have z : b=it:=by simpa using z
      subst z
      exact ⟨o,eo,fun v z=>by rw [d] at z; cases z⟩
  keep:=fun i h h' st k=>by
    obtain ⟨⟨old,he⟩,hi⟩:=st
    exact ⟨⟨old,k e (by simp) _ he⟩,hi.at fun o q=>k it (by simp) o q⟩
  item:=by
    intro X hP hw hK hc i pins s σ H E I hf st hg
    subst hP hw hK
    obtain ⟨xs,x,hq,hx⟩:=hg
    obtain ⟨its,rv,p,hz⟩:=I.list hq
    obtain ⟨u,hu,ru⟩:=rv.get hx
    obtain ⟨⟨old,he⟩,hi⟩:=st
    refine wpAny_pyNext_enum_item he hi p.isList (x:=u) (by simpa using hu) hne fun h1 heo hi1 ht1 hz1 hk1=>⟨_,rfl,?_⟩
    refine wpAny_letOwnedTupleGo_enum heo fun h2 he2 hs2=>?_
    have hs2 : Heap.SameBut e h1 h2:=hs2
    have elt : e < s.heap.objs.size:=Heap.lt_size he
    obtain ⟨oi,eoi,_⟩:=id hi
    have ilt : it < s.heap.objs.size:=Heap.lt_size eoi
    have hp : H s.heap.objs.size=none:=I.hok.fresh (Nat.le_refl _)
    have I1 : Inv X pins σ (upd H s.heap.objs.size (.tup [.int (i : Nat),x])) { s with heap:=s.heap.push { cls:=.type "tuple",data:=.seq #[.int (i : Nat) s.toks,u] },toks:=s.toks + 1 }:=
      I.laid (fun b o q=>Heap.get?_push_of_some _ q) (Nat.le_refl _) (show ObjOk X.prog X.w _ _ _ (.tup [.int (i : Nat),x]) from ⟨by show 2≤sizeLine; rw [sizeLine_eq]; decide,[.int (i : Nat) s.toks,u],.cons ⟨_,rfl⟩ (.cons ru .nil),TupN.new _ _⟩)
    have hf1 : ∀ b∈[e,it],z9B X pins (upd H s.heap.objs.size (.tup [.int (i : Nat),x])) b:=fun b hb=>by
      obtain ⟨f0,f⟩:=hf b hb
      refine ⟨?_,f⟩
      have : b≠s.heap.objs.size:=by
        rcases List.mem_cons.mp hb with z | z
        · rw [z]; exact Nat.ne_of_lt elt
        · have z : b=it:=by simpa using z
          rw [z]; exact Nat.ne_of_lt ilt
      rw [z0z this]
      exact f0
    have kk : ∀ b o,b ∉ [e,it]->(s.heap.push { cls:=.type "tuple",data:=.seq #[.int (i : Nat) s.toks,u] }).get? b=some o->h2.get? b=some o:=by
      intro b o hb q
      have hbe : b≠e:=fun z=>hb (by simp [z])
      have hbi : b≠it:=fun z=>hb (by simp [z])
      rw [hs2.2 b hbe]
      by_cases hbs : b=s.heap.objs.size
      · subst hbs
        rw [ht1]
        have : (s.heap.push { cls:=.type "tuple",data:=.seq #[.int (i : Nat) s.toks,u] }).get? s.heap.objs.size=some { cls:=.type "tuple",data:=.seq #[.int (i : Nat) s.toks,u] }:=Heap.get?_push_size _ rfl
        exact this.symm.trans q
      · have q' : s.heap.get? b=some o:=(Heap.get?_push_ne s.heap _ _ hbs).symm.trans q
        exact hk1 b o hbe hbi q'
    have I2 : Inv X pins σ (upd H s.heap.objs.size (.tup [.int (i : Nat),x])) { s with heap:=h2,toks:=s.toks + 1 }:=Inv.turnedL (s:={ s with heap:=s.heap.push { cls:=.type "tuple",data:=.seq #[.int (i : Nat) s.toks,u] },toks:=s.toks + 1 }) (h':=h2) (t':=s.toks + 1) (fp:=[e,it]) I1 kk hf1
    refine ⟨.ref s.heap.objs.size,_,I2,rfl,⟨_,x,hp,rfl,rfl,fun ys hy=>by rw [I.list_inj hy hq]; exact hx⟩,⟨⟨u,?_⟩,?_⟩,fun b hb=>(hf1 b hb).1⟩
    · have : (((i + 1 : Nat) : Int))=((i : Int) + 1):=by omega
      rw [this]
      exact he2
    · exact hi1.at fun o q=>(hs2.2 it (Ne.symm hne)).trans q
  done:=by
    intro X hP hw hK hc i pins s σ H E I hf st hg
    subst hP hw hK
    obtain ⟨xs,hq,hx⟩:=hg
    obtain ⟨its,rv,p,hz⟩:=I.list hq
    obtain ⟨⟨old,he⟩,hi⟩:=st
    have hl:=rv.length
    exact wpAny_pyNext_enum_end (I.ok.hd hc) he hi p.isList (by simp; omega) fun h' eb=>⟨rfl,I.turnedL (t':=s.toks) (fp:=[e,it]) (fun b o hb q=>eb b o (fun z=>hb (by simp [z])) q) hf⟩
  self:=fun _ _ _ _ _ st h=>let ⟨⟨_,he⟩,_⟩:=st; wpAny_pyIter_enum he h
noncomputable def iEnum (K : PySem.W.Frag) (tl : TE) : TI:=fun σ H R=>tl σ H fun x H1=>∃ a,[x]=[V.ref a]∧(∃ xs,SqL K H1 a xs)∧R (Ite K a) H1
theorem pi_enum {elts : List Expr} {x1} {tp p pos : Pos} {l : Expr} {tl : TE} (hg : Gl X "enumerate") (hm : X.mg "enumerate" = none) (hl : PE X l tl) (hs : starEach [l] X.env=[(false,eval l X.env)]:=by rfl) :
    PI X (.Tuple elts x1 tp) (.Call (.Name "enumerate" p) [l] [] pos) (iEnum X.K tl):=by
  intro pins s σ H R I h
  have hA : PA X [l] (fun σ H Q=>tl σ H fun x H1=>Q [x] H1):=(z1L hl pa_nil (by rw [hs]; rfl)).imp fun σ H Q q=>q
  refine wpAny_Call_Name_kw (z4J I hg hm boot_enumerate (PyProof.Rows.callWith_type1 (thn (hA pos pins s σ H (fun vs H1=>∃ a,vs=[V.ref a]∧(∃ xs,SqL X.K H1 a xs)∧R (Ite X.K a) H1) I h) fun us s1 ⟨vs,H1,I1,r1,q1⟩=>?_) hs rfl))
  obtain ⟨a,rfl,⟨xs,hq⟩,q⟩:=q1
  obtain ⟨u,rfl,ru⟩:=r1.one
  cases ru
  obtain ⟨its,rv,pl,hz⟩:=I1.list hq
  refine call_enumerate_list pl.isList fun h1 he hi hsz kp=>?_
  refine wpAny_pyIter_enum he ?_
  have I2 : Inv X pins σ H1 { s1 with heap:=h1 }:=I1.kept (t':=s1.toks) kp
  refine ⟨s1.heap.objs.size + 1,[s1.heap.objs.size + 1,s1.heap.objs.size],_,_,H1,rfl,I2,y3k a _ _ (Nat.succ_ne_self _),⟨⟨_,he⟩,hi⟩,fun b hb=>?_,q⟩
  have hb' : s1.heap.objs.size≤b:=by
    rcases List.mem_cons.mp hb with z | z
    · rw [z]; exact Nat.le_succ _
    · have z : b=s1.heap.objs.size:=by simpa using z
      rw [z]; exact Nat.le_refl _
  exact I1.fpOk hb' (I1.hok.fresh hb')
end
noncomputable def z0U (k : Nat) : List D->List D
  | []=>[]
  | d :: r=>.tup [.int (k : Nat),d] :: z0U (k + 1) r
theorem y0S : ∀ {ds : List D} {k i : Nat},(z0U k ds)[i]? = (ds[i]?).map fun d=>.tup [.int ((k + i : Nat) : Int),d]
  | [],_,_=>by simp [z0U]
  | d :: r,k,0=>by simp [z0U]
  | d :: r,k,i + 1=>by
    show (z0U (k + 1) r)[i]? = (r[i]?).map _
    rw [y0S]
    congr 1
    funext d
    congr 3
    omega
theorem z8c : ∀ {ds : List D} {k : Nat},(z0U k ds).length=ds.length
  | [],_=>rfl
  | d :: r,k=>by show (z0U (k + 1) r).length + 1=r.length + 1; rw [z8c]
theorem y0f {K : PySem.W.Frag} {H : Hp} {B : Addr->Prop} {a : Addr} {xs : List V} {ds : List D} (hs : ∀ H',Keep K B H H'->SqL K H' a xs) (r : Reps K H B ds xs) : ItD K (Ite K a) H B (z0U 0 ds):=by
  have hl:=r.length
  refine ⟨fun i H' kp hi=>?_,fun i H' kp hi=>?_,fun i H' v H2 kp hy=>?_⟩
  · rw [z8c,hl] at hi
    exact ⟨xs,xs[i],hs H' kp,List.getElem?_eq_getElem hi⟩
  · rw [z8c,hl] at hi
    exact ⟨xs,hs H' kp,hi⟩
  · obtain ⟨p,x,hp,rfl,rfl,hx⟩:=hy
    have hx:=hx xs (hs H' kp)
    obtain ⟨d,e,rd⟩:=(Reps.keep kp ds r).get' hx
    refine ⟨z0q hp,.tup [.int (i : Nat),d],fun _=>by rw [y0S,e]; simp,?_⟩
    unfold Rep
    exact ⟨p,_,rfl,SqT.of z0o,.cons (by unfold Rep; rfl) (.one (rd.mono (z0q hp)))⟩
noncomputable def y4h : D->Option (List D)
  | .lst ds=>some (z0U 0 ds)
  | .scr ns=>some (z0U 0 (ns.map .int))
  | _=>none
noncomputable def y5K (f : DE) : DS->Option (List D):=fun δ=>(f δ).bind y4h
section
variable {X : Cx}
theorem y6n {elts : List Expr} {x1} {tp p pos : Pos} {l : Expr} {f : DE} (hg : Gl X "enumerate") (hm : X.mg "enumerate" = none) (h : PD X l f) (hs : starEach [l] X.env=[(false,eval l X.env)]:=by rfl) :
    PID X (.Tuple elts x1 tp) (.Call (.Name "enumerate" p) [l] [] pos) (y5K f):=(pi_enum hg hm h hs).imp fun σ H R z_=>by
  obtain ⟨B,δ,ds,hB,S,q,k⟩:=z_
  unfold y5K at q
  cases e : f δ with
  | none=>rw [e] at q; cases q
  | some d=>
    rw [e] at q
    have q' : y4h d=some ds:=q
    refine ⟨B,δ,d,hB,S,e,fun v H1 s1 r1=>?_⟩
    unfold y4h at q'
    split at q'
    · cases q'
      unfold Rep at r1
      obtain ⟨a,xs,rfl,n,h,r⟩:=r1
      refine ⟨a,rfl,⟨xs,SqL.of h⟩,k _ H1 s1 fun C hC=>?_⟩
      have na : ¬ (B a∨C a):=fun z=>z.elim n fun z=>by rw [hC a z] at h; cases h
      exact y0f (xs:=xs) (fun H' kp=>SqL.of (kp.sl a xs na h)) (Reps.wide hC _ r)
    · cases q'
      unfold Rep at r1
      obtain ⟨a,rfl,h⟩:=r1
      exact ⟨a,rfl,⟨_,h.sq⟩,k _ H1 s1 fun C hC=>y0f (fun H' kp=>(kp.sf a _ h).sq) (z2A _)⟩
    · cases q'
noncomputable def two (h : D->D->Option (Option D)) : D->Option (Option D)
  | .tup [a,b]=>h a b
  | _=>none
noncomputable def z6I (fc : DS->Option Bool) (fe : DE) (δ : DS) : D->D->Option (Option D):=fun a b=>(fc (δ ++ [some a,some b])).bind fun k=>if k=true then (fe (δ ++ [some a,some b])).map some else some none
noncomputable def z7b (fi : DS->Option (List D)) (fc : DS->Option Bool) (fe : DE) : DS->Option (List D):=fun δ=>(fi δ).bind fun xs=>if xs.length≤sizeLine then z2t (two (z6I fc fe δ)) xs else none
theorem y5y {h : D->D->Option (Option D)} {d : D} {o : Option D} (e : two h d=some o) : ∃ a b,d = .tup [a,b]∧h a b=some o:=by
  unfold two at e
  split at e
  · exact ⟨_,_,rfl,e⟩
  · cases e
theorem z8q {v1 v2 w1 w2 : Option V} : ∀ {σ : St},((σ ++ [w1,w2]).set σ.length v1).set (σ.length + 1) v2=σ ++ [v1,v2]
  | []=>rfl
  | x :: r=>congrArg (x :: ·) (z8q (σ:=r))
theorem RepS.snoc2 {K : PySem.W.Frag} {H : Hp} {B : Addr->Prop} {σ : St} {δ : DS} {d e : D} {v w : V} (S : RepS K H B σ δ) (r : Rep K H B d v) (r' : Rep K H B e w) : RepS K H B (σ ++ [some v,some w]) (δ ++ [some d,some e]):=by
  have:=(S.snoc r).snoc r'
  rw [List.append_assoc,List.append_assoc] at this
  exact this
variable {N' : List Str} {sc : Scope} {iter elt : Expr} {ifs : List Expr} {n : Nat} {x y : Str} {px py tp pos : Pos} {x1 : Nat} {fi : DS->Option (List D)} {fc : DS->Option Bool} {fe : DE}
noncomputable def gTwo (K : PySem.W.Frag) (n : Nat) : TG:=gTup K 2 (gCons (z3X n) (gCons (z3X (n + 1)) gNil))
theorem y1W {σ : St} {H : Hp} {Q : VK} (hσ : σ.length=n) (hq : tF X.K (z7b fi fc fe) σ H Q) : y1K (tI X.K fi) (gTwo X.K n) (tT X.K fc) (tD X.K fe) 2 σ H Q:=by
  obtain ⟨B,δ,ds,hB,Sδ,q,k⟩:=hq
  unfold z7b at q
  cases e1 : fi δ with
  | none=>rw [e1] at q; cases q
  | some xs=>
  rw [e1] at q
  have q1 : (if xs.length≤sizeLine then z2t (two (z6I fc fe δ)) xs else none)=some ds:=q
  split at q1
  case isFalse=>cases q1
  case isTrue hsz=>
  refine ⟨B,δ,xs,hB,Sδ,e1,fun J H1 s1 itw=>fun Da hD=>?_⟩
  have hD0 : H Da=none:=s1.free hD
  have it:=itw (fun a=>a=Da) fun a ha=>by rw [ha]; exact hD
  have Sw : RepS X.K H1 (fun a=>B a∨a=Da) σ δ:=(Sδ.mono s1).wide fun a ha=>by rw [ha]; exact hD
  obtain ⟨I,hI⟩ : ∃ I : Nat->Nat->St->Hp->Prop,I=fun i m σ' H'=>m=xs.length - i∧i≤xs.length∧(∃ w w',σ'=σ ++ [w,w'])∧Same H1 H'∧∃ ys dn rs,H' Da=some (.lst ys)∧Reps X.K H' (fun a=>B a∨a=Da) dn ys∧ds=dn ++ rs∧dn.length≤i ∧
      z2t (two (z6I fc fe δ)) (xs.drop i)=some rs:=⟨_,rfl⟩
  refine ⟨I,⟨xs.length,by rw [hI]; exact ⟨by simp,Nat.zero_le _,⟨none,none,rfl⟩,z0q hD,[],[],ds,z0o,.nil,rfl,Nat.le_refl _,q1⟩⟩,?_⟩
  intro i m σ' H' hh
  rw [hI] at hh
  obtain ⟨rfl,hi',⟨w,w',rfl⟩,sm,ys,dn,rs,hys,rys,hds,hln,hrs⟩:=hh
  have kp : Keep X.K (fun a=>B a∨a=Da) H1 H':=.same sm
  by_cases hlt : i < xs.length
  · refine .inr ⟨it.go i H' kp hlt,fun σ'' H''=>I (i + 1) (xs.length - (i + 1)) σ'' H'',fun σ'' H'' h=>⟨xs.length - (i + 1),by omega,h⟩,fun xv H2 hy=>?_⟩
    obtain ⟨s2,d,hd,rd⟩:=it.yld i H' xv H2 kp hy
    have hdi:=hd hlt
    have hx : xs.drop i=d :: xs.drop (i + 1):=by
      obtain ⟨hl,e⟩:=List.getElem?_eq_some_iff.mp hdi
      rw [List.drop_eq_getElem_cons hl,e]
    rw [hx] at hrs
    obtain ⟨o,rs',e2,e3,e4⟩:=z4Z hrs
    obtain ⟨da,db,ed,e2b⟩:=y5y e2
    subst ed
    unfold Rep at rd
    obtain ⟨p,vs,rfl,hsq,rvs⟩:=rd
    unfold Reps at rvs
    obtain ⟨va,r1,rfl,ra,rvs⟩:=rvs
    unfold Reps at rvs
    obtain ⟨vb,r2,rfl,rb,rvs⟩:=rvs
    unfold Reps at rvs
    subst rvs
    refine ⟨p,[va,vb],rfl,hsq,rfl,va,[vb],rfl,vb,[],rfl,rfl,?_⟩
    rw [← hσ,z8q]
    have hB1 : InB (fun a=>B a∨a=Da) H2:=fun a ha=>ha.elim (fun z=>(((hB.mono s1).mono sm).mono s2) a z) fun z=>⟨_,s2 _ _ (z ▸ hys)⟩
    have S2 : RepS X.K H2 (fun a=>B a∨a=Da) (σ ++ [some va,some vb]) (δ ++ [some da,some db]):=((Sw.mono sm).mono s2).snoc2 ra rb
    have hl2 : ys.length < sizeLine:=by
      have:=rys.length
      omega
    unfold z6I at e2b
    cases ec : fc (δ ++ [some da,some db]) with
    | none=>rw [ec] at e2b; cases e2b
    | some kk=>
      rw [ec] at e2b
      have e2' : (if kk=true then (fe (δ ++ [some da,some db])).map some else some none)=some o:=e2b
      refine ⟨_,δ ++ [some da,some db],kk,hB1,S2,ec,fun H3 s3=>?_⟩
      cases kk with
      | false=>
        rw [if_neg Bool.false_ne_true] at e2'
        rw [if_neg Bool.false_ne_true]
        cases e2'
        rw [hI]
        exact ⟨rfl,hlt,⟨_,_,rfl⟩,(sm.trans s2).trans s3,ys,dn,rs',s3 _ _ (s2 _ _ hys),(rys.mono s2).mono s3,by rw [hds,e4]; rfl,Nat.le_succ_of_le hln,e3⟩
      | true=>
        rw [if_pos rfl] at e2'
        rw [if_pos rfl]
        cases ey : fe (δ ++ [some da,some db]) with
        | none=>rw [ey] at e2'; cases e2'
        | some y=>
          rw [ey] at e2'
          cases e2'
          refine ⟨_,δ ++ [some da,some db],y,hB1.mono s3,S2.mono s3,ey,fun yv H5 s5 r5=>⟨ys,s5 _ _ (s3 _ _ (s2 _ _ hys)),hl2,?_⟩⟩
          have hu : H5 Da=some (.lst ys):=s5 _ _ (s3 _ _ (s2 _ _ hys))
          rw [hI]
          refine ⟨rfl,hlt,⟨_,_,rfl⟩,fun b u hb=>?_,ys ++ [yv],dn ++ [y],rs',z0o,?_,by rw [hds,e4,List.append_assoc]; rfl,by rw [List.length_append]; simp; omega,e3⟩
          · rw [z0z (z1t hb hD)]
            exact s5 _ _ (s3 _ _ (s2 _ _ (sm _ _ hb)))
          · exact Reps.keep (.upd (.inr rfl) (by rw [hu]; exact trivial)) _ (((rys.mono s2).mono s3 |>.mono s5).snoc r5)
  · have e : i=xs.length:=by omega
    subst e
    refine .inl ⟨it.stop _ H' kp (Nat.le_refl _),?_⟩
    rw [List.drop_length] at hrs
    cases hrs
    rw [List.append_nil] at hds
    subst hds
    exact k Da ys H' (s1.trans sm) hD0 hys (rys.anti fun a z=>.inl z)
theorem pg_two {X : Cx} {n : Nat} {x y : Str} {px py tp : Pos} {x1} (hc : X.calm=true) (h1 : PG X (.Name x px) (z3X n)) (h2 : PG X (.Name y py) (z3X (n + 1)))
    (hs : (assignEach [.Name x px,.Name y py] X.env).map (·.2)=assign (.Name x px) X.env :: (assignEach [.Name y py] X.env).map (·.2):=by rfl) (hs2 : (assignEach [.Name y py] X.env).map (·.2)=assign (.Name y py) X.env :: (assignEach [] X.env).map (·.2):=by rfl)
    (hn : (assignEach [.Name x px,.Name y py] X.env).length=2:=by rfl) (hst : (assignEach [.Name x px,.Name y py] X.env).findIdx? (·.1)=none:=by rfl) : PG X (.Tuple [.Name x px,.Name y py] x1 tp) (gTwo X.K n):=
  pg_tup hc (y0v h1 (y0v h2 pgs_nil hs2) hs) hn hst
end
end L2
namespace L2
open PySem PySem.Spec PyProof.Rows
noncomputable def z8B : D->Option Key
  | .int n=>some (.inl n)
  | .str x=>some (.inr x)
  | _=>none
theorem z7W {K : PySem.W.Frag} {H : Hp} {B : Addr->Prop} {d : D} {k : Key} {v : V} (e : z8B d=some k) (r : Rep K H B d v) : v=kV k:=by
  unfold z8B at e
  split at e
  · cases e; unfold Rep at r; exact r
  · cases e; unfold Rep at r; exact r
  · cases e
noncomputable def valK (ks : List Key) (ds : List D) (k : Key) : Option D:=match ks,ds with
  | k' :: ks,d :: ds=>if k'=k then some d else valK ks ds k
  | _,_=>none
noncomputable def setK (ks : List Key) (ds : List D) (k : Key) (d : D) : List D:=match ks,ds with
  | k' :: ks,e :: ds=>(if k'=k then d else e) :: setK ks ds k d
  | _,_=>[]
noncomputable def y0B (ks : List Key) (k : Key) : Bool:=ks.any fun k'=>decide (k'=k)
noncomputable def y0a (ks : List Key) (k : Key) : List Key:=if y0B ks k=true then ks else ks ++ [k]
noncomputable def z9E (ks : List Key) (ds : List D) (k : Key) (d : D) : List D:=if y0B ks k=true then setK ks ds k d else ds ++ [d]
theorem z9q {k : Key} {kvs : List (Key × V)} {ks : List Key} (e : kvs.map (·.1)=ks) : (kvs.any fun kv=>decide (kv.1=k))=y0B ks k:=by
  subst e
  unfold y0B
  rw [List.any_map]
  rfl
theorem y2F {K : PySem.W.Frag} {H : Hp} {B : Addr->Prop} {k : Key} {d : D} : ∀ {kvs : List (Key × V)} {ks : List Key} {ds : List D},kvs.map (·.1)=ks->Reps K H B ds (kvs.map (·.2))->valK ks ds k=some d->∃ v,z9Q kvs k=some v∧Rep K H B d v
  | [],_,ds,e,_,q=>by subst e; unfold valK at q; cases q
  | p :: r,_,[],e,rs,_=>by unfold Reps at rs; cases rs
  | p :: r,_,d' :: ds,e,rs,q=>by
    subst e
    unfold Reps at rs
    obtain ⟨x,xs,e1,r1,r2⟩:=rs
    cases e1
    rw [List.map_cons] at q
    unfold valK at q
    by_cases h : p.1=k
    · rw [if_pos h] at q
      cases q
      exact ⟨p.2,z5E h,r1⟩
    · rw [if_neg h] at q
      obtain ⟨v,e2,r3⟩:=y2F (kvs:=r) rfl r2 q
      exact ⟨v,by rw [z5F h]; exact e2,r3⟩
theorem y0p {K : PySem.W.Frag} {H : Hp} {k : Key} {d : D} {v : V} (td : Tree K H d v []) : ∀ {kvs : List (Key × V)} {ds : List D},Trees K H ds (kvs.map (·.2)) []->Trees K H (setK (kvs.map (·.1)) ds k d) ((kvs.map fun kv=>if kv.1=k then (kv.1,v) else kv).map (·.2)) []
  | [],ds,t=>by
    cases ds with
    | nil=>exact .nil
    | cons e ds=>unfold Trees at t; obtain ⟨_,_,_,_,z,_⟩:=t; cases z
  | p :: r,[],t=>by obtain ⟨z,_⟩:=t; cases z
  | p :: r,e :: ds,t=>by
    unfold Trees at t
    obtain ⟨x,xs,B,C,e1,t1,t2,e2⟩:=t
    cases e1
    obtain ⟨rfl,rfl⟩:=List.append_eq_nil_iff.mp e2.symm
    have ih:=y0p (k:=k) td (kvs:=r) t2
    rw [List.map_cons,List.map_cons,List.map_cons]
    unfold setK Trees
    refine ⟨_,_,[],[],rfl,?_,ih,rfl⟩
    by_cases h : p.1=k
    · rw [if_pos h,if_pos h]; exact td
    · rw [if_neg h,if_neg h]; exact t1
theorem y5g {k : Key} {v : V} {kvs : List (Key × V)} : (z5w kvs k v).map (·.1)=y0a (kvs.map (·.1)) k:=by
  unfold z5w y0a
  rw [z9q (k:=k) (kvs:=kvs) rfl]
  by_cases h : y0B (kvs.map (·.1)) k=true
  · rw [if_pos h,if_pos h,List.map_map]
    apply List.map_congr_left
    intro p _
    show (if p.1=k then (p.1,v) else p).1=p.1
    split <;> rfl
  · rw [if_neg h,if_neg h,List.map_append]
    rfl
theorem y5x {K : PySem.W.Frag} {H : Hp} {k : Key} {d : D} {v : V} {kvs : List (Key × V)} {ds : List D} (td : Tree K H d v []) (t : Trees K H ds (kvs.map (·.2)) []) : Trees K H (z9E (kvs.map (·.1)) ds k d) ((z5w kvs k v).map (·.2)) []:=by
  unfold z5w z9E
  rw [z9q (k:=k) (kvs:=kvs) rfl]
  by_cases h : y0B (kvs.map (·.1)) k=true
  · rw [if_pos h,if_pos h]
    exact y0p td t
  · rw [if_neg h,if_neg h,List.map_append]
    exact t.snoc td
theorem y0G {k : Key} {kvs : List (Key × V)} : (z9Q kvs k).isSome=y0B (kvs.map (·.1)) k:=by rw [← z8e]; exact z9q rfl
noncomputable def inK : D->D->Option Bool:=fun x y=>match y with
  | .dct ks _=>(z8B x).map fun k=>y0B ks k
  | _=>none
noncomputable def y4p (f g : DE) : DS->Option Bool:=fun δ=>(f δ).bind fun x=>(g δ).bind fun y=>inK x y
noncomputable def y4T (f g : DE) : DS->Option Bool:=fun δ=>(y4p f g δ).map (!·)
noncomputable def getK : D->D->Option D:=fun x y=>match x with
  | .dct ks ds=>(z8B y).bind fun k=>valK ks ds k
  | _=>none
section
variable {X : Cx} {a b o i value : Expr} {f g : DE} {pos pos' : Pos}
theorem y0t {δ : DS} {c : Bool} (h : y4p f g δ=some c) : ∃ x k ks ds,f δ=some x∧z8B x=some k∧g δ=some (.dct ks ds)∧c=y0B ks k:=by
  unfold y4p at h
  cases e1 : f δ with
  | none=>rw [e1] at h; cases h
  | some x=>
    rw [e1] at h
    cases e2 : g δ with
    | none=>rw [e2] at h; cases h
    | some y=>
      rw [e2] at h
      have h : inK x y=some c:=h
      unfold inK at h
      split at h
      · cases e3 : z8B x with
        | none=>rw [e3] at h; cases h
        | some k=>rw [e3] at h; cases h; exact ⟨x,k,_,_,rfl,e3,rfl,rfl⟩
      · cases h
theorem pt_din (hu : X.A.units + 64 < cLine) (ha : PD X a f) (hb : PD X b g) (hm : behindInMarks .In b=false:=by rfl) : PTD X (.Compare a [.In] [b] pos) (y4p f g):=
  (y2i (pc_din (by omega) ha hb) hm).imp fun σ H Q z_=>by
    obtain ⟨B,δ,c,hB,S,q,k⟩:=z_
    obtain ⟨x,ky,ks,ds,e1,e2,e3,rfl⟩:=y0t q
    refine ⟨B,δ,x,hB,S,e1,fun v H1 s1 r1=>⟨B,δ,_,hB.mono s1,S.mono s1,e3,fun w H2 s2 r2=>?_⟩⟩
    unfold Rep at r2
    obtain ⟨p,kvs,rfl,n,hp,ek,rs⟩:=r2
    have ev:=z7W e2 r1
    subst ev
    refine ⟨p,z9Q kvs ky,rfl,DGet.k hp,_,rfl,?_⟩
    rw [y0G,ek]
    exact k H2 (s1.trans s2)
theorem pt_dnin (hu : X.A.units + 64 < cLine) (ha : PD X a f) (hb : PD X b g) (hm : behindInMarks .NotIn b=false:=by rfl) : PTD X (.Compare a [.NotIn] [b] pos) (y4T f g):=
  (y2i (y3T (by omega) ha hb) hm).imp fun σ H Q z_=>by
    obtain ⟨B,δ,c,hB,S,q,k⟩:=z_
    unfold y4T at q
    cases e0 : y4p f g δ with
    | none=>rw [e0] at q; cases q
    | some c0=>
    rw [e0] at q
    cases q
    obtain ⟨x,ky,ks,ds,e1,e2,e3,rfl⟩:=y0t e0
    refine ⟨B,δ,x,hB,S,e1,fun v H1 s1 r1=>⟨B,δ,_,hB.mono s1,S.mono s1,e3,fun w H2 s2 r2=>?_⟩⟩
    unfold Rep at r2
    obtain ⟨p,kvs,rfl,n,hp,ek,rs⟩:=r2
    have ev:=z7W e2 r1
    subst ev
    refine ⟨p,z9Q kvs ky,rfl,DGet.k hp,_,rfl,?_⟩
    rw [y0G,ek]
    exact k H2 (s1.trans s2)
theorem pd_dget (hu : X.A.units + 64 < cLine) (ha : PD X o f) (hb : PD X i g) (hs : NoSl i:=by intro _ _; rfl) : PD X (.Subscript o i pos) (d2 getK f g):=
  (pe_dget (by omega) ha hb hs).imp fun σ H Q z_=>by
    obtain ⟨B,δ,d,hB,S,q,k⟩:=z_
    obtain ⟨x,y,e1,e2,e3⟩:=z6k q
    unfold getK at e3
    split at e3
    case h_2=>cases e3
    case h_1 ks ds=>
    cases e4 : z8B y with
    | none=>rw [e4] at e3; cases e3
    | some ky=>
    rw [e4,Option.bind_some] at e3
    refine ⟨B,δ,_,hB,S,e1,fun v H1 s1 r1=>⟨B,δ,_,hB.mono s1,S.mono s1,e2,fun w H2 s2 r2=>?_⟩⟩
    unfold Rep at r1
    obtain ⟨p,kvs,rfl,n,hp,ek,rs⟩:=r1
    have ev:=z7W e4 r2
    subst ev
    obtain ⟨v,hv,rv⟩:=y2F ek rs e3
    exact ⟨p,v,rfl,by rw [← hv]; exact DGet.k (s2 _ _ hp),k _ H2 (s1.trans s2) (rv.mono s2)⟩
theorem pn_dnew : PN X (.Dict [] [] pos) (dC (.dct [] [])):=pe_dnewK.imp fun σ H Q z_=>by
  obtain ⟨δ,d,S,q,k⟩:=z_
  cases q
  intro p hp
  refine k _ _ [p] (z0q hp) ?_ (List.nodup_cons.mpr ⟨fun z=>(nomatch z),List.nodup_nil⟩) fun a ha=>?_
  · unfold Tree
    exact ⟨p,[],[],rfl,z0o,rfl,.nil,rfl⟩
  · rw [List.mem_singleton.mp ha]; exact hp
variable {H0 : Hp} {B0 : Addr->Prop} {fr : Bool} {RX : XR} {x : Str} {px : Pos} {ke e : Expr}
noncomputable def dput (i : Nat) (fk fv : DE) : SS->Option Out:=fun δ=>(fv (z0H δ)).bind fun d=>if d.imm=true then (fk (z0H δ)).bind fun dk=>(match z8B dk,δ[i]? with
  | some k,some (some (.ow (.dct ks ds)))=>if z2C ds=true∧ks.length < sizeLine then some (.nx ((z0Y i δ).set i (some (.ow (.dct (y0a ks k) (z9E ks ds k d)))))) else none
  | _,_=>none) else none
theorem y3Y {K : PySem.W.Frag} {H : Hp} {ds : List D} {xs : List V} {A : List Addr} (t : Trees K H ds xs A) (h : z2C ds=true) : Trees K H ds xs []:=Reps.immTree (B:=fun _=>False) ds h (t.rep ds fun _ _ z=>z)
theorem s_dput {i : Nat} {fk fv : DE} (hu : X.A.units + 64 < cLine) (hx : PE X (.Name x px) (y1y i)) (hk : PD X ke fk) (hv : PD X e fv)
    (hs : swapsWith e (some (.Subscript (.Name x px) ke pos')) pos.line X.env=pure false:=by rfl) :
    PS X (.Assign [.Subscript (.Name x px) ke pos'] e pos) (tS X.K H0 B0 fr RX (dput i fk fv)):=
  PS.imp (ps_dput (by omega) hx hk hv hs) fun D σ H z_=>by
    obtain ⟨δ,R,o,rs,q,kk⟩:=z_
    unfold dput at q
    cases e1 : fv (z0H δ) with
    | none=>rw [e1] at q; cases q
    | some d=>
    rw [e1,Option.bind_some] at q
    split at q
    case isFalse=>cases q
    case isTrue hi=>
    cases e2 : fk (z0H δ) with
    | none=>rw [e2] at q; cases q
    | some dk=>
    rw [e2,Option.bind_some] at q
    split at q
    case h_2=>cases q
    case h_1 k ks ds e3 ei=>
    split at q
    case isFalse=>cases q
    case isTrue hc=>
    cases q
    obtain ⟨v0,ev,t0,nd⟩:=rs.ow i _ ei
    unfold Tree at t0
    obtain ⟨a,kvs,A,rfl,ha,ek,ts,eR⟩:=t0
    have ts:=y3Y ts hc.1
    refine ⟨noB,z0H δ,d,.no,rs.all,e1,fun v H1 s1 r1=>⟨.ref a,ev,noB,z0H δ,dk,.no,rs.all.mono s1,e2,fun kv H2 s2 r2=>?_⟩⟩
    have ekv:=z7W e3 r2
    subst ekv
    subst ek
    have ha2 : H2 a=some (.dK kvs):=s2 _ _ (s1 _ _ ha)
    refine ⟨a,_,rfl,DPut.k ha2 (by rw [← List.length_map (f:=(·.1))]; exact hc.2),?_⟩
    have haR : a∈R i:=by rw [eR]; exact List.mem_cons_self
    have mu : Mut (H2 a):=by rw [ha2]; exact trivial
    have td : Tree X.K H2 d v []:=(r1.immTree d hi).mono s2
    have tp:=y5x (k:=k) td (ts.mono (s1.trans s2))
    have P:=rs.rewrite (d':=.dct (y0a (kvs.map (·.1)) k) (z9E (kvs.map (·.1)) ds k d)) (a:=a) (o:=.dK (z5w kvs k v)) (A':=[a]) (s1.trans s2) ei ev haR (by
      unfold Tree
      exact ⟨a,z5w kvs k v,[],rfl,z0o,y5g,Trees.keep (Keep.upd (K:=X.K) (B:=fun x=>x=a) rfl mu).i _ tp fun b hb=>(nomatch hb),rfl⟩) (List.nodup_cons.mpr ⟨fun z=>(nomatch z),List.nodup_nil⟩) fun b hb=>by
        rw [List.mem_singleton.mp hb]; exact .inl haR
    exact kk σ _ _ P.1 P.2
end
end L2
namespace HT
open PySem PySem.Spec PyProof.Rows
section
variable {prog : Program} {w : World} {A : Around} {E : Value->Shared->Prop} {s : Shared}
end
end HT
namespace L2
open PySem PySem.Spec PyProof.Rows
section
variable {X : Cx} {e st : Expr} {te : TE} {tk : TO} {pos p2 : Pos}
variable {f g : DE}
variable {a b : Expr}
noncomputable def catLs : D->D->Option (List D)
  | .lst ds,.lst es=>if ds.length + es.length≤sizeLine then some (ds ++ es) else none
  | _,_=>none
noncomputable def y2A (f g : DE) : DS->Option (List D):=fun δ=>(f δ).bind fun x=>(g δ).bind fun y=>catLs x y
theorem z8M (ha : PD X a f) (hb : PD X b g) : PF X (.BinOp a .Add b pos) (y2A f g):=(pe_op op_cat ha hb).imp fun σ H Q z_=>by
  obtain ⟨B,δ,ds,hB,S,q,k⟩:=z_
  unfold y2A at q
  cases e1 : f δ with
  | none=>rw [e1] at q; cases q
  | some x=>
  rw [e1,Option.bind_some] at q
  cases e2 : g δ with
  | none=>rw [e2] at q; cases q
  | some y=>
  rw [e2,Option.bind_some] at q
  unfold catLs at q
  split at q
  case h_2=>cases q
  case h_1 xs ys=>
  split at q
  case isFalse=>cases q
  case isTrue hl=>
  cases q
  refine ⟨B,δ,_,hB,S,e1,fun v H1 s1 r1=>⟨B,δ,_,hB.mono s1,S.mono s1,e2,fun v2 H2 s2 r2=>?_⟩⟩
  unfold Rep at r1 r2
  obtain ⟨p1,vs,rfl,n1,h1,rs1⟩:=r1
  obtain ⟨p2,ws,rfl,n2,h2,rs2⟩:=r2
  refine ⟨p1,p2,vs,ws,rfl,rfl,s2 _ _ h1,h2,by rw [← rs1.length,← rs2.length]; exact hl,fun p hp=>?_⟩
  exact k p _ _ ((s1.trans s2).trans (z0q hp)) ((s1.trans s2).free hp) z0o (((rs1.mono s2).append rs2).mono (z0q hp))
variable {p : Pos}
end
end L2
namespace L2
open PySem PySem.Spec PyProof.Rows
section
variable {X : Cx} {o e : Expr} {apos cpos : Pos}
noncomputable def rLIx (K : PySem.W.Frag) : V->List V->Hp->VK->Prop:=fun x vs H Q=>∃ (a : Addr) (ns : List Int) (i : Int) (j : Nat),x = .ref a∧vs=[.int i]∧SqL K H a (ns.map V.int)∧ns.findIdx? (fun n=>n == i)=some j∧Q (.int (j : Int)) H
theorem y1P : MtR X "list.index" (rLIx X.K):=by
  intro pins s σ H x vs v us Q I rx rv h
  obtain ⟨a,ns,i,j,rfl,rfl,hq,hj,q⟩:=h
  cases rx
  obtain ⟨u,rfl,ru⟩:=rv.one
  obtain ⟨ut,rfl⟩:=ru
  obtain ⟨its,r,⟨⟨cls,dct,dat,sl⟩,n,e,c,d,hd⟩,hz⟩:=I.list hq
  have c : cls = .type "list" := c
  have hd : dat = .seq its.toArray n:=hd
  subst c; subst hd
  obtain ⟨hjl,hji,hjm⟩:=List.findIdx?_eq_some_iff_getElem.mp hj
  have hl : ns.length=its.length:=by have:=r.length; simpa using this
  have hj2 : j < its.length:=by omega
  rw [sizeLine_eq,List.length_map] at hz
  refine call_meets F.slot_list_index ⟨_,e,rfl⟩ F.entry_list_index (F.args_list_index_2 _ _) (SeqAt.list_indexAt a its.toArray n dct sl (.int i ut) (isI i) j (by simpa using hj2) (by omega) ?_ ?_) ⟨e,?_,?_⟩
  · obtain ⟨t,h2,e2⟩:=z9Z r j hj2
    simp [e2,isI]
    simpa using hji
  · intro m hm hmj
    obtain ⟨t,h2,e2⟩:=z9Z r m (by omega)
    have:=hjm m hmj
    simp [e2,isI]
    simpa using this
  · intro y hy
    obtain ⟨k,hk,rfl⟩:=List.getElem_of_mem (show y∈its by simpa using hy)
    obtain ⟨t,h2,e2⟩:=z9Z r k hk
    rw [e2]
    exact SeqAt.EqAt.int_int _ _ _ _
  · exact ⟨.int (j : Int),H,I.tok _,⟨_,rfl⟩,q⟩
noncomputable def y5p : D->D->Option D
  | .lst ds,.int i=>(z1h ds).bind fun ns=>(ns.findIdx? (fun n=>n == i)).map fun j=>.int (j : Int)
  | _,_=>none
theorem z6u {f g : DE} (ho : PD X o f) (he : PD X e g) (hbase : attributeBase o "index" X.env (eval o X.env)=eval o X.env:=by rfl)
    (hfew : ((backTo cpos (starEach [e] X.env)).all (fun x=>!x.1) && (backToKw cpos (keywordEach [] X.env)).all (fun x=>x.1.isSome) && decide ([e].length + ([] : List Keyword).length + (if ([] : List Keyword).isEmpty then 0 else 1) < 30))=true:=by rfl)
    (hline : (apos.endLine == cpos.line)=true:=by rfl) (hs : starEach [e] X.env=(false,eval e X.env) :: starEach [] X.env:=by rfl) :
    PD X (.Call (.Attribute o "index" apos) [e] [] cpos) (d2 y5p f g):=
  (y4r PySem.F.plainAttrs_list PySem.F.slot_list_index PySem.F.type_list_index y1P ho (z1L he pa_nil hs) hbase hfew hline hs rfl).imp fun σ H Q z_=>by
    obtain ⟨B,δ,d,hB,S,q,k⟩:=z_
    obtain ⟨x,y,e1,e2,e3⟩:=z6k q
    unfold y5p at e3
    split at e3
    case h_2=>cases e3
    case h_1 ds i=>
    cases e4 : z1h ds with
    | none=>rw [e4] at e3; cases e3
    | some ns=>
    rw [e4,Option.bind_some] at e3
    cases e5 : ns.findIdx? (fun n=>n == i) with
    | none=>rw [e5] at e3; cases e3
    | some j=>
    rw [e5] at e3
    cases e3
    have eds:=z4F e4
    subst eds
    refine ⟨B,δ,_,hB,S,e1,fun v H1 s1 r1=>?_⟩
    unfold Rep at r1
    obtain ⟨a,xs,rfl,nb,hq,rs⟩:=r1
    have ex:=z4x rs
    subst ex
    refine ⟨.inl ⟨rfl,_,SqL.of hq⟩,B,δ,_,hB.mono s1,S.mono s1,e2,fun v2 H2 s2 r2=>?_⟩
    unfold Rep at r2
    subst r2
    exact ⟨a,ns,i,j,rfl,rfl,SqL.of (s2 _ _ hq),e5,k _ H2 (s1.trans s2) (by unfold Rep; rfl)⟩
end
end L2
namespace L2
open PySem PySem.Spec PyProof.Rows
section
variable {X : Cx} {H0 : Hp} {B0 : Addr->Prop} {fr : Bool} {RX : XR} {e : Expr} {pos : Pos} {f : DE}
end
end L2
namespace L2
open PySem PySem.Spec PyProof.Rows
section
variable {X : Cx} {tg : Expr}
end
noncomputable def z4A (c : DS->Option Bool) (b : SS->Option Out) : Nat->SS->Option Out
  | 0,_=>none
  | n + 1,δ=>(c (z0H δ)).bind fun k=>if k=true then (b δ).bind fun o=>(match o with
    | .nx δ'=>z4A c b n δ'
    | .ct δ'=>z4A c b n δ'
    | .bk δ'=>some (.nx δ')
    | .rt d=>some (.rt d)
    | .ex c δ'=>some (.ex c δ')) else some (.nx δ)
section
variable {X : Cx} {H0 : Hp} {B0 : Addr->Prop} {fr : Bool} {RX : XR} {pos : Pos}
theorem s_while {c : Expr} {body : List Stmt} {fc : DS->Option Bool} {g : SS->Option Out} (n : Nat) (hp : PassesOwn (model X.prog X.w) X.A X.env X.xe) (hc : PTD X c fc) (hb : PSs X body (tS X.K H0 B0 fr RX g)) : PS X (.While c body [] pos) (tS X.K H0 B0 fr RX (z4A fc g n)):=
  PS.imp (y5r hp hc hb) fun D σ H z_=>by
    obtain ⟨δ,R,o,rs,q,k⟩:=z_
    refine ⟨fun m σ' H'=>∃ δ' R',RS X.K H0 B0 H' σ' δ' R'∧Stp R H R' H'∧z4A fc g m δ'=some o,⟨n,δ,R,rs,.refl R H,q⟩,?_⟩
    rintro m σ' H' ⟨δ',R',rs',s',q'⟩
    cases m with
    | zero=>cases q'
    | succ m=>
      unfold z4A at q'
      cases ec : fc (z0H δ') with
      | none=>rw [ec] at q'; cases q'
      | some kk=>
        rw [ec,Option.bind_some] at q'
        refine ⟨noB,z0H δ',kk,.no,rs'.all,ec,fun H1 s1=>?_⟩
        have rs1:=rs'.mono s1
        have st1 : Stp R H R' H1:=s'.trans (.same s1)
        cases kk with
        | false=>
          rw [if_neg Bool.false_ne_true] at q'
          cases q'
          exact k σ' H1 R' rs1 st1
        | true=>
          rw [if_pos rfl] at q'
          cases eb : g δ' with
          | none=>rw [eb] at q'; cases q'
          | some ob=>
            rw [eb,Option.bind_some] at q'
            refine ⟨fun σ2 H2=>∃ δ2 R2,RS X.K H0 B0 H2 σ2 δ2 R2∧Stp R H R2 H2∧z4A fc g m δ2=some o,fun σ2 H2 z=>⟨m,Nat.lt_succ_self m,z⟩,δ',R',ob,rs1,eb,?_⟩
            cases ob with
            | nx δ2=>exact fun σ3 H3 R3 rs3 s3=>⟨δ2,R3,rs3,st1.trans s3,q'⟩
            | ct δ2=>exact fun σ3 H3 R3 rs3 s3=>⟨δ2,R3,rs3,st1.trans s3,q'⟩
            | bk δ2=>
              cases q'
              exact fun σ3 H3 R3 rs3 s3=>k σ3 H3 R3 rs3 (st1.trans s3)
            | rt d=>
              cases q'
              exact k.back st1
            | ex c δ2=>
              cases q'
              exact k.back st1
noncomputable def isN : D->Bool
  | .non=>true
  | _=>false
theorem rep_isN {K : PySem.W.Frag} {H : Hp} {B : Addr->Prop} {d : D} {v : V} (r : Rep K H B d v) : decide (v=V.non)=isN d:=by
  cases d with
  | non=>unfold Rep at r; subst r; rfl
  | bl b=>unfold Rep at r; subst r; rfl
  | int i=>unfold Rep at r; subst r; rfl
  | str x=>unfold Rep at r; subst r; rfl
  | lst ds=>unfold Rep at r; obtain ⟨a,xs,rfl,_⟩:=r; rfl
  | tup ds=>unfold Rep at r; obtain ⟨a,xs,rfl,_⟩:=r; rfl
  | scr ns=>unfold Rep at r; obtain ⟨a,rfl,_⟩:=r; rfl
  | dct ks ds=>unfold Rep at r; obtain ⟨a,kvs,rfl,_⟩:=r; rfl
  | exc x=>unfold Rep at r; obtain ⟨a,C,rfl,_⟩:=r; rfl
noncomputable def y1v (f : DE) : DS->Option Bool:=fun δ=>(f δ).map fun d=>!isN d
variable {a : Expr} {f : DE}
theorem z6M {j pos'} (ha : PD X a f) (hm : behindInMarks .IsNot (.Constant .none j pos')=false:=by rfl) : PTD X (.Compare a [.IsNot] [.Constant .none j pos'] pos) (y1v f):=(y2i (pc_notN ha) hm).imp fun σ H Q z_=>by
  obtain ⟨B,δ,c,hB,S,q,k⟩:=z_
  unfold y1v at q
  cases e : f δ with
  | none=>rw [e] at q; cases q
  | some d=>
    rw [e] at q
    cases q
    refine ⟨B,δ,d,hB,S,e,fun v H1 s1 r1=>⟨_,rfl,?_⟩⟩
    rw [rep_isN r1]
    exact k H1 s1
end
end L2
namespace L2
open PySem PySem.Spec PyProof.Rows
section
variable {X : Cx} {a b : Expr} {f g : DE} {pos : Pos}
variable {H0 : Hp} {B0 : Addr->Prop} {fr : Bool} {RX : XR} {x : Str} {px ap cp : Pos} {e : Expr}
noncomputable def y4j (i : Nat) (f : DE) : SS->Option Out:=fun δ=>(f (z0H δ)).bind fun d=>(match d,δ[i]? with
  | .lst es,some (some (.ow (.lst ds)))=>if ds.length + es.length≤sizeLine then some (.nx ((z0Y i δ).set i (some (.ow (.lst (ds ++ es)))))) else none
  | _,_=>none)
theorem y2X {i : Nat} (hx : PE X (.Name x px) (y1y i)) (he : PN X e f) (hbase : attributeBase (.Name x px) "extend" X.env (eval (.Name x px) X.env)=eval (.Name x px) X.env:=by rfl)
    (hfew : ((backTo cp (starEach [e] X.env)).all (fun x=>!x.1) && (backToKw cp (keywordEach [] X.env)).all (fun x=>x.1.isSome) && decide ([e].length + ([] : List Keyword).length + (if ([] : List Keyword).isEmpty then 0 else 1) < 30))=true:=by rfl)
    (hline : (ap.endLine == cp.line)=true:=by rfl) (hs : starEach [e] X.env=(false,eval e X.env) :: starEach [] X.env:=by rfl) (hsw : swapsWith (.Call (.Attribute (.Name x px) "extend" ap) [e] [] cp) none pos.line X.env=pure false:=by rfl) :
    PS X (.Expr (.Call (.Attribute (.Name x px) "extend" ap) [e] [] cp) pos) (tS X.K H0 B0 fr RX (y4j i f)):=
  PS.imp (z7y (y4r PySem.F.plainAttrs_list PySem.F.slot_list_extend PySem.F.type_list_extend y2D hx (z1L he pa_nil hs) hbase hfew hline hs rfl) hsw) fun D σ H z_=>by
    obtain ⟨δ,R,o,rs,q,k⟩:=z_
    unfold y4j at q
    cases e1 : f (z0H δ) with
    | none=>rw [e1] at q; cases q
    | some d=>
    rw [e1,Option.bind_some] at q
    split at q
    case h_2=>cases q
    case h_1 es ds ei=>
    split at q
    case isFalse=>cases q
    case isTrue hl=>
    cases q
    obtain ⟨a,xs,A,ev,ha,ts,eR,nd⟩:=rs.top ei
    refine ⟨.ref a,ev,.inl ⟨rfl,xs,SqL.of ha⟩,z0H δ,_,rs.all,e1,fun y H2 C s2 t2 nC fC=>?_⟩
    unfold Tree at t2
    obtain ⟨b,zs,C',rfl,hb,tz,rfl⟩:=t2
    have nC':=(List.nodup_cons.mp nC).2
    refine ⟨a,b,xs,zs,rfl,rfl,s2 _ _ ha,hb,by rw [← ts.length,← tz.length]; exact hl,?_⟩
    have hAC : (A ++ C').Nodup:=List.nodup_append.mpr ⟨(List.nodup_cons.mp nd).2,nC',fun p hp c hc z=>by
      subst z
      obtain ⟨u,q,_⟩:=Trees.held ds ts p hp
      rw [fC p (List.mem_cons_of_mem _ hc)] at q; cases q⟩
    have P:=rs.put0 s2 ei ev eR nd ((ts.mono s2).append tz) hAC fun p hp=>(List.mem_append.mp hp).imp id fun z=>fC p (List.mem_cons_of_mem _ z)
    exact k σ _ _ P.1 P.2
end
end L2
namespace L2
open PySem PySem.Spec PyProof.Rows
noncomputable def insS (x : Int) : List Int->List Int
  | []=>[x]
  | y :: r=>if x≤y then x :: y :: r else y :: insS x r
noncomputable def z5p : List Int->List Int
  | []=>[]
  | x :: r=>insS x (z5p r)
theorem z6r (x : Int) : ∀ l : List Int,(insS x l).Perm (x :: l)
  | []=>.refl _
  | y :: r=>by
    unfold insS
    split
    · exact .refl _
    · exact ((z6r x r).cons y).trans (.swap x y r)
theorem z6e : ∀ l : List Int,(z5p l).Perm l
  | []=>.refl _
  | x :: r=>(z6r x _).trans ((z6e r).cons x)
theorem z6p {x : Int} : ∀ {l : List Int},l.Pairwise (· ≤ ·)->(insS x l).Pairwise (· ≤ ·)
  | [],_=>by unfold insS; simp
  | y :: r,h=>by
    unfold insS
    split
    · rename_i hxy
      refine List.pairwise_cons.mpr ⟨fun z hz=>?_,h⟩
      rcases List.mem_cons.mp hz with e | e
      · omega
      · have:=(List.pairwise_cons.mp h).1 z e
        omega
    · rename_i hxy
      refine List.pairwise_cons.mpr ⟨fun z hz=>?_,z6p (List.pairwise_cons.mp h).2⟩
      rcases List.mem_cons.mp ((z6r x r).mem_iff.mp hz) with e | e
      · omega
      · exact (List.pairwise_cons.mp h).1 z e
theorem z4h : ∀ l : List Int,(z5p l).Pairwise (· ≤ ·)
  | []=>.nil
  | _ :: r=>z6p (z4h r)
theorem z7g : ∀ {a b : List Int},a.Perm b->a.Pairwise (· ≤ ·)->b.Pairwise (· ≤ ·)->a=b
  | [],b,p,_,_=>(List.nil_perm.mp p).symm
  | x :: a,[],p,_,_=>by have:=p.length_eq; simp at this
  | x :: a,y :: b,p,ha,hb=>by
    obtain ⟨ha1,ha2⟩:=List.pairwise_cons.mp ha
    obtain ⟨hb1,hb2⟩:=List.pairwise_cons.mp hb
    have hxy : x=y:=by
      have h1 : x∈y :: b:=p.mem_iff.mp List.mem_cons_self
      have h2 : y∈x :: a:=p.mem_iff.mpr List.mem_cons_self
      rcases List.mem_cons.mp h1 with e | e
      · exact e
      · rcases List.mem_cons.mp h2 with e' | e'
        · exact e'.symm
        · have:=ha1 y e'
          have:=hb1 x e
          omega
    subst hxy
    rw [z7g (List.perm_cons x |>.mp p) ha2 hb2]
theorem z9Y {a l : List Int} (p : a.Perm l) (h : a.Pairwise (· ≤ ·)) : a=z5p l:=z7g (p.trans (z6e l).symm) h (z4h l)
section
variable {prog : Program} {w : World} {A : Around} {E : Value->Shared->Prop} {s : Shared}
theorem z6Q {l : Addr} {T : String} {o : Obj} {vs : List Value} {n : Nat} {ns : List Int} {Q : Value->Shared->Prop} (hT : T = "list" ∨ T = "tuple") (ho : s.heap.get? l=some o) (hc : o.cls = .type T) (hd : o.data = .seq vs.toArray n) (hI : IntsAre vs ns) (h64 : vs.length < 64)
    (h : ∀ (h1 h' : Heap) (out : List Value) (e : Nat) (ns' : List Int),(∀ b o',s.heap.get? b=some o'->h1.get? b=some o')->(∀ b o',h1.get? b=some o'->h'.get? b=some o')->h'.get? h1.objs.size=some { cls:=.type "list",data:=.seq out.toArray e }->IntsAre out ns'->ns'.Perm ns->ns'.Pairwise (· ≤ ·)->Q (.ref h1.objs.size) { s with heap:=h' }) :
    wpAny (model prog w) A (call (.builtin "sorted") [.ref l]) Q E s:=by
  refine Calls.call_function_entry kind_sorted plain_sorted entry_sorted (args_sorted1 _) ?_
  unfold Builtin.«sorted»
  refine wpAny_bind (m:=checkCount "sorted" 1 1 _) (wpAny_pure ?_)
  refine wpAny_bind (wpAny_collect_seq l hT ho hc hd (fun h1 k1=>?_) (by rw [List.size_toArray,sizeLine_eq]; omega))
  rw [List.toList_toArray]
  refine wpAny_bind (wpAny_newList ?_)
  have hoL : (h1.push (seqObj "list" vs.toArray 0)).get? h1.objs.size=some (seqObj "list" vs.toArray 0):=Heap.get?_push_size _ rfl
  show wpAny _ _ _ _ _ { s with heap:=h1.push (seqObj "list" vs.toArray 0) }
  refine wpAny_bind (wpAny_holding (wpAny_call_entry slot_list_sort ⟨_,hoL,rfl⟩ entry_list_sort (list_sort_tree hoL hI h64 fun out ns' a1 a2 a3=>⟨_,rfl,?_⟩) (args_list_sort _)))
  obtain ⟨e,he⟩:=sortedHeap_at (out:=out) hoL
  refine wpAny_pure ⟨_,rfl,h h1 _ out.toList e ns' k1 (fun b o' hb=>?_) (by simpa [seqObj] using he) a1 a2 a3⟩
  have hlt : b < h1.objs.size:=Heap.lt_size hb
  rw [sortedHeap_old (Nat.ne_of_lt hlt) (by rw [size_push']; exact Nat.lt_succ_of_lt hlt)]
  exact Heap.get?_push_of_some _ hb
end
section
variable {X : Cx}
theorem intsV : ∀ {ns : List Int} {vs : List Value},IntsAre vs ns->Vals (ns.map V.int) vs
  | _,_,.nil=>.nil
  | _,_,.cons n t r=>.cons ⟨t,rfl⟩ (intsV r)
theorem z8a : ∀ {ns : List Int} {vs : List Value},Vals (ns.map V.int) vs->IntsAre vs ns
  | [],_,.nil=>.nil
  | n :: ns,_,.cons ⟨t,e⟩ r=>by subst e; exact .cons n t (z8a r)
theorem z8N : z3Y X (.builtin "sorted") (fun xs H Q=>∃ (p : Addr) (ns : List Int),xs=[.ref p]∧(SqL X.K H p (ns.map V.int)∨SqT X.K H p (ns.map V.int))∧ns.length < 64∧∀ l,H l=none->Q (.ref l) (upd H l (.lst ((z5p ns).map V.int)))):=by
  intro pins s σ H xs us Q I r h
  obtain ⟨p,ns,rfl,hq,h64,q⟩:=h
  obtain ⟨u,rfl,rx⟩:=z6J r
  cases rx
  have fin : ∀ (its : List Value),Vals (ns.map V.int) its->∀ (h1 h' : Heap) (out : List Value) (e : Nat) (ns' : List Int),(∀ b o',s.heap.get? b=some o'->h1.get? b=some o')->(∀ b o',h1.get? b=some o'->h'.get? b=some o')->h'.get? h1.objs.size=some { cls:=.type "list",data:=.seq out.toArray e }->IntsAre out ns'->ns'.Perm ns->ns'.Pairwise (· ≤ ·)->EP X pins σ Q (.ref h1.objs.size) { s with heap:=h' }:=by
    intro its rv h1 h' out e ns' k1 k2 ho hi hp hs
    have es:=z9Y hp hs
    subst es
    have I1 : Inv X pins σ H { s with heap:=h1 }:=I.kept (t':=s.toks) k1
    refine ⟨.ref h1.objs.size,_,Inv.laid (s:={ s with heap:=h1 }) (t':=s.toks) I1 k2 (Nat.le_refl _) (show ObjOk X.prog X.w _ h' _ (.lst ((z5p ns).map V.int)) from ⟨?_,out,e,intsV hi,ho⟩),rfl,q _ (I1.hok.fresh (Nat.le_refl _))⟩
    rw [List.length_map,hp.length_eq,sizeLine_eq]
    omega
  rcases hq with hq | hq
  · obtain ⟨its,rv,⟨o,n,e,c,_,d⟩,hz⟩:=I.list hq
    have hlen : its.length=ns.length:=by have:=rv.length; simpa using this.symm
    exact z6Q (.inl rfl) e c d (z8a rv) (by omega) (fin its rv)
  · obtain ⟨its,o,n,rv,e,c,_,d,hz⟩:=I.tupleO hq
    have hlen : its.length=ns.length:=by have:=rv.length; simpa using this.symm
    exact z6Q (.inr rfl) e c d (z8a rv) (by omega) (fin its rv)
noncomputable def z5U : List D->Option (List D)
  | [.lst ds]=>(z1h ds).bind fun ns=>if ns.length < 64 then some ((z5p ns).map .int) else none
  | [.tup ds]=>(z1h ds).bind fun ns=>if ns.length < 64 then some ((z5p ns).map .int) else none
  | _=>none
theorem z8s {ds es : List D} (h : ((z1h ds).bind fun ns=>if ns.length < 64 then some ((z5p ns).map D.int) else none)=some es) : ∃ ns : List Int,ds=ns.map D.int∧ns.length < 64∧es=(z5p ns).map D.int:=by
  cases e : z1h ds with
  | none=>rw [e] at h; cases h
  | some ns=>
    rw [e,Option.bind_some] at h
    split at h
    · cases h
      exact ⟨ns,z4F e,by assumption,rfl⟩
    · cases h
theorem ol_sort {K : PySem.W.Frag} : OpL K (fun xs H Q=>∃ (p : Addr) (ns : List Int),xs=[.ref p]∧(SqL K H p (ns.map V.int)∨SqT K H p (ns.map V.int))∧ns.length < 64∧∀ l,H l=none->Q (.ref l) (upd H l (.lst ((z5p ns).map V.int)))) z5U:=by
  intro H B ds es vs Q hB hr q k
  unfold z5U at q
  split at q
  · obtain ⟨ns,rfl,h64,rfl⟩:=z8s q
    obtain ⟨v,rfl,r⟩:=z3s hr
    unfold Rep at r
    obtain ⟨a,xs,rfl,_,h,rs⟩:=r
    have ex:=z4x rs
    subst ex
    exact ⟨a,ns,rfl,.inl (SqL.of h),h64,fun l hl=>k l _ _ (z0q hl) hl z0o (z2A _)⟩
  · obtain ⟨ns,rfl,h64,rfl⟩:=z8s q
    obtain ⟨v,rfl,r⟩:=z3s hr
    unfold Rep at r
    obtain ⟨a,xs,rfl,h,rs⟩:=r
    have ex:=z4x rs
    subst ex
    exact ⟨a,ns,rfl,.inr h,h64,fun l hl=>k l _ _ (z0q hl) hl z0o (z2A _)⟩
  · cases q
variable {e : Expr} {f : DE} {p pos : Pos}
theorem z6h (hg : Gl X "sorted") (hm : X.mg "sorted" = none) (h : PD X e f) (he : starEach [e] X.env=[(false,eval e X.env)]:=by rfl) : PF X (.Call (.Name "sorted" p) [e] [] pos) (z3o z5U [f]):=
  (z7A z8N hg hm boot_sorted (z0a h z0e he) (by decide) (by decide) he rfl).imp (callL ol_sort)
end
end L2
namespace L2
open PySem PySem.Spec PyProof.Rows
section
variable {prog : Program} {w : World} {A : Around} {s : Shared} {R : Result->Shared->Prop}
variable {I : Addr} {fp wr : List Addr} {G : Array GenState->Array GenState->Prop} {n : Nat} {P : Nat->Value->Prop} {St : Nat->Shared->Prop}
end
section
variable {prog : Program} {w : World} {A : Around} {E : Value->Shared->Prop} {s : Shared}
end
section
variable {X : Cx}
end
end L2
namespace L2
open PySem PySem.Spec PyProof.Rows
noncomputable def Thr (h : Heap) (e T : Addr) (cls : Value) : Prop:=∃ oe vs oT ts,h.get? e=some oe∧oe.cls=cls∧oe.data = .fields vs∧vs[1]? = some (.ref T)∧T≠e∧h.get? T=some oT∧oT.data = .fields ts∧ts[3]? = some .none∧oe.dict=none
noncomputable def Thr0 (h : Heap) (e : Addr) (cls : Value) : Prop:=∃ oe vs,h.get? e=some oe∧oe.cls=cls∧oe.data = .fields vs∧vs[1]? = some .none∧oe.dict=none
structure Gone (S ch : List Addr) (e : Addr) (cls : Value) (h h' : Heap) : Prop where
  keep : ∀ b o,b ∉ S->b ∉ ch->h.get? b=some o->h'.get? b=some o
  slot : ∀ b o,b∈S->b ∉ ch->h.get? b=some o->∃ sl,h'.get? b=some { o with slots:=sl }
  there : ∀ b o,h.get? b=some o->∃ o',h'.get? b=some o'
  thr : ∃ T,h.objs.size≤T∧Thr h' e T cls
section
variable {M : Model} {A : Around} {E : Value->Shared->Prop} {s : Shared}
theorem y6s {o : Obj} {f : Array Value->Array Value} (h : o.dict=none) : (Obj.mapFields f o).dict=none:=by
  unfold Obj.mapFields
  split <;> exact h
theorem y0e {base : Heap} {env : Env} {outer : List Env} {L e : Addr} {oe : Obj} {vs : Array Value} {head : Value} {hadNext : Bool} {Q : Unit->Shared->Prop}
    (hfr : A.frames=some (env :: outer)) (hl : s.heap.FunFrames base (env :: outer)) (hf : env.frame=some L)
    (he : s.heap.get? e=some oe) (hd : oe.data = .fields vs) (hsz : 1 < vs.size) (hdn : oe.dict=none)
    (h : ∀ h',Gone (frs (env :: outer)) [e] e oe.cls s.heap h'->Q () { s with heap:=h' }) :
    wpAny M A (do let a ← frameOf env; let pl ← entryPlaceOf L hadNext; let b ← EntryCells.newEntry head a .none (rawInt L) .none pl; setField (.ref e) 1 b) (fun _ s'=>wpAny M A (setFlight (.ref e) none) Q E s') E s:=by
  have hene : e ∉ frs (env :: outer):=fun hm=>by
    obtain ⟨_,o,ho,hnf⟩:=hl.mem hm
    rw [he] at ho; injection ho with ho; subst ho; exact hnf vs hd
  refine wpAny_bind (wpAny_frameOf_fun hfr hl hf fun h₁ hs₁=>?_)
  refine wpAny_bind (wpAny_entryPlaceOf fun pl hpl=>?_)
  unfold EntryCells.newEntry newFields
  refine wpAny_bind (wpAny_newObj_type ?_ (hpl.sizeOk5 _ _ _ _ _))
  have he₁ : h₁.get? e=some oe:=(hs₁.2.1 e hene).trans he
  generalize hob : ({ cls:=.type "traceback",dict:=none,data:=.fields ([head,.ref L,.none,rawInt L,.none] ++ (if pl.isEmpty then List.replicate 6 Value.none else pl)).toArray } : Obj)=ob
  have hobd : ob.data = .fields ([head,.ref L,.none,rawInt L,.none] ++ (if pl.isEmpty then List.replicate 6 Value.none else pl)).toArray:=by rw [← hob]
  have hobf : ob.isFreed=false:=by rw [← hob]; rfl
  have he₂:=Heap.get?_push_of_some (h:=h₁) ob he₁
  refine wpAny_setField he₂ hd hsz ?_
  have hTe : h₁.objs.size≠e:=Nat.ne_of_gt (Heap.lt_size he₁)
  have hd₃:=Obj.data_mapFields hd (·.setIfInBounds 1 (Value.ref h₁.objs.size))
  have he₃:=Heap.get?_update_self (Obj.mapFields (·.setIfInBounds 1 (Value.ref h₁.objs.size))) he₂ (Obj.isFreed_of_fields hd₃)
  have hT₃:=(Heap.get?_update_other (h₁.push ob) (Obj.mapFields (·.setIfInBounds 1 (Value.ref h₁.objs.size))) (Ne.symm hTe)).trans (Heap.get?_push_size h₁ hobf)
  unfold setFlight
  refine wpAny_bind (wpAny_field he₃ hd₃ (x:=.ref h₁.objs.size) (by simp [hsz]) ?_)
  rw [if_pos (show (Value.ref h₁.objs.size != Value.none)=true from by simp)]
  refine wpAny_setField hT₃ hobd (by simp only [List.size_toArray,List.length_append,List.length_cons,List.length_nil] <;> omega) (h _ ?_)
  have keep : ∀ b o,b≠e->h₁.get? b=some o →
      (((h₁.push ob).update e (Obj.mapFields (·.setIfInBounds 1 (Value.ref h₁.objs.size)))).update h₁.objs.size (Obj.mapFields (·.setIfInBounds 3 ((none : Option Addr).elim Value.none fun f=>rawInt f)))).get? b=some o:=fun b o hbe hb=>by
    have hbT : h₁.objs.size≠b:=Nat.ne_of_gt (Heap.lt_size hb)
    rw [Heap.get?_update_other _ _ hbT,Heap.get?_update_other _ _ (Ne.symm hbe)]
    exact Heap.get?_push_of_some _ hb
  have heF : (((h₁.push ob).update e (Obj.mapFields (·.setIfInBounds 1 (Value.ref h₁.objs.size)))).update h₁.objs.size (Obj.mapFields (·.setIfInBounds 3 ((none : Option Addr).elim Value.none fun f=>rawInt f)))).get? e=some (Obj.mapFields (·.setIfInBounds 1 (Value.ref h₁.objs.size)) oe):=by
    rw [Heap.get?_update_other _ _ hTe]; exact he₃
  refine ⟨fun b o hb hc e1=>?_,fun b o hb hc e1=>?_,fun b o e1=>?_,h₁.objs.size,?_,?_⟩
  · exact keep b o (fun z=>hc (by simp [z])) ((hs₁.2.1 b hb).trans e1)
  · obtain ⟨sl,e2⟩:=hs₁.2.2 b o e1
    exact ⟨sl,keep b _ (fun z=>hc (by simp [z])) e2⟩
  · by_cases hb : b=e
    · exact ⟨Obj.mapFields (·.setIfInBounds 1 (Value.ref h₁.objs.size)) oe,by rw [hb]; exact heF⟩
    · obtain ⟨sl,e2⟩:=hs₁.2.2 b o e1
      exact ⟨_,keep b _ hb e2⟩
  · rw [hs₁.1]
    exact Nat.le_refl _
  · exact ⟨_,_,_,_,heF,Obj.cls_mapFields _ _,hd₃,by simp [hsz],hTe,Heap.get?_update_self _ hT₃ (Obj.isFreed_of_fields (Obj.data_mapFields hobd _)),Obj.data_mapFields hobd _,by first | (simp; done) | (rcases hpl with rfl | ⟨_,_,_,_,_,_,_,rfl⟩ <;> simp),y6s hdn⟩
theorem y1B {base : Heap} {env : Env} {outer : List Env} {L e : Addr} {cls : Value} {Q : Unit->Shared->Prop}
    (hfr : A.frames=some (env :: outer)) (hl : s.heap.FunFrames base (env :: outer)) (hf : env.frame=some L) (ht : Thr0 s.heap e cls)
    (h : ∀ h',Gone (frs (env :: outer)) [e] e cls s.heap h'->Q () { s with heap:=h' }) : wpAny M A (noteFrame (.ref e) env) (fun _ s'=>wpAny M A (setFlight (.ref e) none) Q E s') E s:=by
  obtain ⟨oe,vs,he,rfl,hd,h1,hdn⟩:=ht
  unfold noteFrame
  simp only [hf]
  refine wpAny_bind (wpAny_field he hd h1 ?_)
  rw [if_neg (by decide)]
  exact y0e hfr hl hf he hd (Array.getElem?_eq_some_iff.mp h1).1 hdn h
theorem y4o {base : Heap} {env : Env} {outer : List Env} {L e T : Addr} {cls : Value} {Q : Unit->Shared->Prop}
    (hfr : A.frames=some (env :: outer)) (hl : s.heap.FunFrames base (env :: outer)) (hf : env.frame=some L) (ht : Thr s.heap e T cls)
    (h : ∀ h',Gone (frs (env :: outer)) [e,T] e cls s.heap h'->Q () { s with heap:=h' }) : wpAny M A (noteFrame (.ref e) env) (fun _ s'=>wpAny M A (setFlight (.ref e) none) Q E s') E s:=by
  obtain ⟨oe,vs,oT,ts,he,rfl,hd,h1,hTe,hT,hdT,h3,hdn⟩:=ht
  unfold noteFrame
  simp only [hf]
  refine wpAny_bind (wpAny_field he hd h1 ?_)
  rw [if_pos (show (Value.ref T != Value.none)=true from by simp)]
  refine wpAny_bind (wpAny_field hT hdT h3 ?_)
  rw [if_neg (show ¬ ((Value.none == rawInt L)=true) from by simp [rawInt])]
  refine wpAny_bind (wpAny_setField hT hdT (Array.getElem?_eq_some_iff.mp h3).1 ?_)
  have other : ∀ b,b≠T->(s.heap.update T (Obj.mapFields (·.setIfInBounds 3 Value.none))).get? b=s.heap.get? b:=fun b hb=>Heap.get?_update_other _ _ (Ne.symm hb)
  have noRecord : ∀ b o,s.heap.get? b=some o->(∀ vs,o.data≠.fields vs)->b≠T:=fun b o hb hnf q=>by
    rw [q,hT] at hb; injection hb with hb; subst hb; exact hnf ts hdT
  refine y0e hfr (hl.of_keeps fun b o hb hnf=>⟨o,(other b (noRecord b o hb hnf)).trans hb,rfl⟩) hf ((other e (Ne.symm hTe)).trans he) hd (Array.getElem?_eq_some_iff.mp h1).1 hdn fun h' G=>h h' ?_
  refine ⟨fun b o hb hc e1=>G.keep b o hb (fun z=>hc (List.mem_cons.mpr (.inl (List.mem_singleton.mp z)))) ((other b fun z=>hc (by simp [z])).trans e1),fun b o hb hc e1=>G.slot b o hb (fun z=>hc (List.mem_cons.mpr (.inl (List.mem_singleton.mp z)))) ((other b fun z=>hc (by simp [z])).trans e1),fun b o e1=>?_,?_⟩
  · by_cases hb : b=T
    · have e2 : (s.heap.update T (Obj.mapFields (·.setIfInBounds 3 Value.none))).get? b=some (Obj.mapFields (·.setIfInBounds 3 Value.none) oT):=by
        rw [hb]
        exact Heap.get?_update_self _ hT (Obj.isFreed_of_fields (Obj.data_mapFields hdT _))
      exact G.there b _ e2
    · exact G.there b o ((other b hb).trans e1)
  · obtain ⟨T',h1,h2⟩:=G.thr
    exact ⟨T',by rwa [Heap.size_after_update] at h1,h2⟩
theorem z6R {env : Env} {e : Value} {Q : Unit->Shared->Prop} (h : wpAny M A (noteFrame e env) (fun _ s'=>wpAny M A (setFlight e none) Q E s') E s) : wpAny M A (leaving env e) Q E s:=by
  unfold leaving
  exact wpAny_bind h
end
end L2
namespace L2
open PySem PySem.Spec PyProof.Rows
theorem ObjOk.some {P : Program} {w : World} {H : Hp} {h : Heap} {a : Addr} {o : HO} (x : ObjOk P w H h a o) : ∃ ob,h.get? a=Option.some ob:=by
  cases q : h.get? a with
  | some ob=>exact ⟨ob,rfl⟩
  | none=>
    have y : ObjOk P w H h a o:=x
    induction o with
    | lst xs=>obtain ⟨_,_,_,_,e⟩:=x; rw [q] at e; cases e
    | tup xs=>obtain ⟨_,_,_,_,e,_⟩:=x; rw [q] at e; cases e
    | dK kvs=>obtain ⟨_,_,_,_,_,_,_,e,_⟩:=x; rw [q] at e; cases e
    | dT kvs=>obtain ⟨_,_,_,_,_,_,_,e,_⟩:=x; rw [q] at e; cases e
    | set S n=>obtain ⟨_,_,_,_,e,_⟩:=x; rw [q] at e; cases e
    | ins C dx fs=>obtain ⟨_,_,_,e,_⟩:=x; rw [q] at e; cases e
    | own y=>obtain ⟨_,e⟩:=x; rw [q] at e; cases e
    | xd fs=>obtain ⟨_,⟨_,_,_,e,_⟩,_⟩:=x; rw [q] at e; cases e
    | met f y=>have e:=x; unfold ObjOk at e; rw [q] at e; cases e
    | rng lo hi=>obtain ⟨_,_,_,e⟩:=x; rw [q] at e; cases e
    | frz ob u ih=>have e:=x.1; rw [q] at e; cases e
    | tbl ps=>have e:=x; unfold ObjOk at e; rw [q] at e; cases e
    | ext φ=>obtain ⟨_,⟨_,e⟩,_⟩:=x; rw [q] at e; cases e
section
variable {X : Cx} {pins : List (Addr × Obj)} {σ : St} {H : Hp} {s : Shared}
noncomputable def FpX (X : Cx) (pins : List (Addr × Obj)) (H : Hp) (b : Addr) : Prop:=
  H b=none∧b≠X.env.locals∧(b∈X.ex∨X.s₀.heap.get? b=none)∧(∀ x c,X.env.cells.lookup x=some c->c≠b)∧∀ p∈X.pn ++ pins,p.1≠b
theorem Inv.fpX {H' : Hp} {b : Addr} (I : Inv X pins σ H s) (hb : s.heap.get? b=none) (hn : H' b=none) : FpX X pins H' b:=by
  refine ⟨hn,fun z=>?_,?_,fun x c e z=>?_,fun p hp z=>?_⟩
  · obtain ⟨m,⟨o,_,_,ho,_⟩,_⟩:=I.loc
    rw [← z,hb] at ho
    cases ho
  · by_cases hx : b∈X.ex
    · exact .inl hx
    · refine .inr ?_
      cases q : X.s₀.heap.get? b with
      | none=>rfl
      | some o=>
        obtain ⟨o',e⟩:=I.base.there b o q hx
        rw [hb] at e
        cases e
  · obtain ⟨v,o,ho,_⟩:=I.cell x c e
    rw [z,hb] at ho
    cases ho
  · have:=(I.pin p hp).1
    rw [z,hb] at this
    cases this
theorem Inv.fresh0 {b : Addr} (I : Inv X pins σ H s) (hb : s.heap.get? b=none) : H b=none:=by
  cases q : H b with
  | none=>rfl
  | some u=>
    obtain ⟨o,e⟩:=(I.hok b u q).some
    rw [hb] at e
    cases e
theorem Inv.gone {ch : List Addr} {e : Addr} {cls : Value} {h' : Heap} (I : Inv X pins σ H s) (G : Gone (frs X.stack) ch e cls s.heap h') (hch : ∀ b∈ch,FpX X pins H b) : Inv X pins σ H { s with heap:=h' }:=by
  have nS : ∀ b u,H b=some u->b ∉ frs X.stack:=fun b u q z=>by rw [I.stkFree b z] at q; cases q
  have nC : ∀ b u,H b=some u->b ∉ ch:=fun b u q z=>by rw [(hch b z).1] at q; cases q
  have hok : HOk X.prog X.w H h':=fun b u q=>(I.hok b u q).stay (fun c v hc e=>by
    rcases hc with rfl | z
    · exact G.keep _ v (nS _ u q) (nC _ u q) e
    · exact G.keep c v (nS c _ z) (nC c _ z) e) (fun _ q=>q) fun _ _ q=>q
  have any : ∀ b o,b ∉ ch->s.heap.get? b=some o->∃ sl,h'.get? b=some { o with slots:=sl }:=fun b o hc q=>by
    by_cases hb : b∈frs X.stack
    · exact G.slot b o hb hc q
    · exact ⟨o.slots,G.keep b o hb hc q⟩
  have new : ∀ b o,X.s₀.heap.get? b=some o->b ∉ X.ex->b ∉ ch:=fun b o q hx z=>by
    rcases (hch b z).2.2.1 with y | y
    · exact hx y
    · rw [y] at q; cases q
  have kp : ∀ b o,b≠X.env.locals->b ∉ X.fs->b ∉ ch->s.heap.get? b=some o->h'.get? b=some o:=fun b o hL hb hc q=>
    G.keep b o (fun z=>(List.mem_cons.mp (I.stkSub b z)).elim hL hb) hc q
  have old : ∀ b o,X.s₀.heap.get? b=some o->b≠X.env.locals:=fun b o q=>Nat.ne_of_lt (Nat.lt_of_lt_of_le (Heap.lt_size q) I.ok.above)
  have cellK : ∀ x c,X.env.cells.lookup x=some c->∀ v,s.heap.IsCell c v->h'.IsCell c v:=fun x c q v z_=>by
    obtain ⟨o,ho,hd⟩:=z_
    obtain ⟨sl,y⟩:=any c o (fun z=>(hch c z).2.2.2.1 x c q rfl) ho
    exact ⟨_,y,hd⟩
  refine ⟨I.ok,I.os,I.bare,⟨?_,?_,fun b o q n hx=>I.base.free b o q n hx,?_,I.base.tups,I.base.frzs,I.base.tbls⟩,?_,?_,I.free,I.freeC,?_,hok,I.len⟩
  · exact fun b o q n hb hx=>kp b o (old b o q) hb (new b o q hx) (I.base.keep b o q n hb hx)
  · intro b o q n hb hx
    obtain ⟨sl,q1⟩:=I.base.slot b o q n hb hx
    obtain ⟨sl',q2⟩:=any b _ (new b o q hx) q1
    exact ⟨sl',q2⟩
  · intro b o q hx
    obtain ⟨o',q1⟩:=I.base.there b o q hx
    exact G.there b o' q1
  · obtain ⟨m,⟨o,es,ep,ho,r⟩,hl⟩:=I.loc
    obtain ⟨sl,hL⟩:=any _ o (fun z=>(hch _ z).2.1 rfl) ho
    refine ⟨m,⟨_,es,ep,hL,r⟩,fun i x v e1 e2 e3=>?_⟩
    obtain ⟨u,r,l⟩:=hl i x v e1 e2 e3
    exact ⟨u,r,l.imp id fun ⟨k,c,q,z⟩=>⟨k,c,q,cellK x c q _ z⟩⟩
  · intro x c q
    obtain ⟨v,z⟩:=I.cell x c q
    exact ⟨v,cellK x c q v z⟩
  · intro p hp
    obtain ⟨q,n,ne,nf,d⟩:=I.pin p hp
    exact ⟨kp p.1 p.2 ne nf (fun z=>(hch p.1 z).2.2.2.2 p hp rfl) q,n,ne,nf,d⟩
end
noncomputable def CXE (P : Program) (w : World) : CXT:=fun outer H s E e s'=>∃ (ea T : Addr) (cls : Value) (H' : Hp),e = .ref ea∧s'.os=s.os∧AllBare s'.gens∧Un (frs outer) [] H H' s.heap s'.heap∧HOk P w H' s'.heap ∧
  s.heap.get? ea=none∧s.heap.get? T=none∧H' ea=none∧H' T=none∧Thr s'.heap ea T cls∧E cls none H'
section
variable {P : Program} {w : World} {K : PySem.W.Frag} {mg : Str->Option Value} {base : Heap} {N : List Str} {qual : Str} {scope : Scope} {f : Addr} {cd : Value} {A : Around} {outer : List Env} {s : Shared} {H : Hp} {E : XK}
theorem y2o {pins : List (Addr × Obj)} {σ : St} {H1 : Hp} {s1 : Shared} {e : Addr} {cls : Value} (I : Inv (z9b (CXE P w) P w K mg base N qual scope f cd A outer s H E) pins σ H1 s1)
    (hf : FpX (z9b (CXE P w) P w K mg base N qual scope f cd A outer s H E) pins H1 e) (ht : Thr0 s1.heap e cls) (hE : E cls none H1) : (z9b (CXE P w) P w K mg base N qual scope f cd A outer s H E).xe (.ref e) s1:=by
  refine z6R (y1B (base:=base) (outer:=outer) I.ok.frames I.stack rfl ht fun h' G=>?_)
  have I':=I.gone G fun b hb=>by rw [List.mem_singleton.mp hb]; exact hf
  obtain ⟨T,hT,th⟩:=G.thr
  have he : s.heap.get? e=none:=by
    rcases hf.2.2.1 with z | z
    · exact absurd (show e∈([] : List Addr) from z) (by simp)
    · exact z
  exact ⟨e,T,cls,H1,rfl,I'.os,I'.bare,I'.base,I'.hok,he,Heap.get?_none_of_le (Nat.le_trans I.sz hT),hf.1,I.hok.fresh hT,th,hE⟩
end
end L2
namespace L2
open PySem PySem.Spec PyProof.Rows
section
variable {X : Cx} {x : Str} {C : Addr} {B Bn newId nid initId inN : String} {bm bmN : List Value} {np cpos pos : Pos} {e₀ : Expr} {te : TE}
noncomputable def tRaise (te : TE) (R : St->Hp->Prop) : TS:=fun _ σ H=>te σ H fun _ H1=>R σ H1
noncomputable def Want (X : Cx) (C : Addr) (R : St->Hp->Prop) : Prop:=∀ (pins : List (Addr × Obj)) (σ : St) (H : Hp) (s : Shared) (e : Addr),Inv X pins σ H s->FpX X pins H e->Thr0 s.heap e (.ref C)->R σ H->X.xe (.ref e) s
theorem y5b {R : St->Hp->Prop} (hc : X.calm=true) (hg : Gl X x) (O : OwnCls x C bm newId X.mg X.base) (Fn : ExcBaseFacts Bn newId inN bmN) (hBn : bm.contains (.type Bn)=true) (FB : ExcBaseFacts B nid initId bm) (hW : Want X C R) (h : PE X e₀ te)
    (he : starEach [e₀] X.env=[(false,eval e₀ X.env)]:=by rfl) (hd : (x == ("__debug__" : Str))=false:=by decide) : PS X (.Raise (some (.Call (.Name x np) [e₀] [] cpos)) none pos) (tRaise te R):=by
  intro pins s σ H D I hq
  obtain ⟨tl,N,nm,q,bs,hdct,sn,sub,ab,col,dd,k0,k1,k2,k3,k5,mN,hC,hN,hni,T⟩:=O.obj
  refine wpAny_Raise_call_subU (C:=C) (nm:=nm) (q:=q) (N:=N) (bs:=bs) (bm:=tl) (hdct:=hdct) (sn:=sn) (sub:=sub) (ab:=ab) (col:=col) (dd:=dd) (k0:=k0) (k1:=k1) (k2:=k2) (k3:=k3) (k5:=k5)
    Fn hBn FB (mN:=mN) (T.hasType FB.hasBase) (I.ok.hd hc) (by rw [he]; rfl) hni (z9y I hg O.bound ⟨rfl,?_⟩ hd)
  have ha:=(z1L h pa_nil he) cpos pins s σ H (fun vs H1=>match vs with
    | [_]=>R σ H1
    | _=>False) I hq
  rw [he] at ha ⊢
  refine Calls.evalArgs_plain (thn ha fun us s2 ⟨vs,H2,I2,r2,q2⟩=>?_)
  cases r2 with
  | nil=>exact (show False from q2).elim
  | cons r r3=>
    cases r3 with
    | cons _ _=>exact (show False from q2).elim
    | nil=>
      refine ⟨rfl,by show 1≤sizeLine; rw [sizeLine_eq]; omega,I2.bk _ _ hC,hN.keeps I2.bk,T.keeps I2.bk,fun h' e hm=>?_⟩
      obtain ⟨t,he',_⟩:=hm.there
      have I3 : Inv X pins σ H2 { s2 with heap:=h' }:=I2.kept (t':=s2.toks) hm.keeps
      exact hW pins σ H2 _ e I3 (I2.fpX hm.new (I2.fresh0 hm.new)) ⟨_,_,he',rfl,rfl,rfl,rfl⟩ q2
variable {H0 : Hp} {B0 : Addr->Prop} {fr : Bool} {RX : XR}
noncomputable def z5r (c : Nat) (f : DE) : SS->Option Out:=fun δ=>(f (z0H δ)).map fun _=>.ex c δ
theorem s_raise {c : Nat} {f : DE} (hc : X.calm=true) (hg : Gl X x) (O : OwnCls x C bm newId X.mg X.base) (Fn : ExcBaseFacts Bn newId inN bmN) (hBn : bm.contains (.type Bn)=true) (FB : ExcBaseFacts B nid initId bm) (hW : Want X C (RX c)) (h : PD X e₀ f)
    (he : starEach [e₀] X.env=[(false,eval e₀ X.env)]:=by rfl) (hd : (x == ("__debug__" : Str))=false:=by decide) : PS X (.Raise (some (.Call (.Name x np) [e₀] [] cpos)) none pos) (tS X.K H0 B0 fr RX (z5r c f)):=
  PS.imp (y5b hc hg O Fn hBn FB hW h he hd) fun D σ H z_=>by
    obtain ⟨δ,R,o,rs,q,k⟩:=z_
    unfold z5r at q
    cases e : f (z0H δ) with
    | none=>rw [e] at q; cases q
    | some d=>
      rw [e] at q
      cases q
      exact ⟨noB,z0H δ,d,.no,rs.all,e,fun v H1 s1 r1=>k σ H1 R (rs.mono s1) (.same s1)⟩
end
end L2
namespace L2
open PySem PySem.Spec PyProof.Rows
inductive XO where
  | val (d : D) | exc (c : Nat)
noncomputable def spX (K : PySem.W.Frag) (cl : Nat->Value) (m : List D->Option XO) : Sp:=fun vs H Q E=>∃ ds o,Reps K H noB ds vs∧m ds=some o∧(match o with
  | .val d=>∀ v H' A,Same H H'->Tree K H' d v A->A.Nodup->(∀ a∈A,H a=none)->Q v H'
  | .exc c=>∀ H',Same H H'->E (cl c) none H')
noncomputable def z9f (np nl : Nat) (g : SS->Option Out) : List D->Option XO:=fun ds=>if ds.length=np then (match g (ds.map (fun d=>some (.sh d)) ++ List.replicate nl none) with
  | some (.rt d)=>some (.val d)
  | some (.nx _)=>some (.val .non)
  | some (.ex c _)=>some (.exc c)
  | _=>none) else none
theorem z5J {np nl : Nat} {g : SS->Option Out} {ds : List D} {o : XO} (h : z9f np nl g ds=some o) : ds.length=np:=by
  unfold z9f at h
  split at h
  · assumption
  · cases h
noncomputable abbrev y6q (cl : Nat->Value) (E : XK) : XR:=fun c _ H1=>E (cl c) none H1
section
variable {P : Program} {w : World} {K : PySem.W.Frag} {mg : Str->Option Value} {base : Heap}
theorem fnX {x qual : Str} {st : Stmt} {f : Addr} {fd : FuncData} {N ps : List Str} {k np nl : Nat} {g : SS->Option Out} {cl : Nat->Value} (F : Fun K x qual st f fd) (S : FnScope N ps (z0b st)) (hnp : ps.length=np) (hN : N.length=np + nl)
    (hbody : ∀ (cdv : Value) (A : Around) (outer : List Env) (s : Shared) (H : Hp) (E : XK),Room k (A.deeper (envOfC qual (z0b st) s.heap.objs.size f cdv)) →
      PSs (z9b (CXE P w) P w K mg base N qual (z0b st) f cdv A outer s H E) (z0l st) (tS K H noB true (y6q cl E) g)) : FnOk P w K mg base (CXE P w) (k + 1) f fd ps (spX K cl (z9f np nl g)):=by
  obtain ⟨oc,od,kV,doc,pm,an,cdv,ct,osl,rfl,lk,hcd⟩:=F.ex
  refine fn_of lk hcd S (fun vs H Q E h=>?_) fun A outer s H vs Q E hr h=>?_
  · obtain ⟨ds,o,r,e,_⟩:=h
    rw [← r.length,z5J e,hnp]
  · obtain ⟨ds,o,r,e,kk⟩:=h
    refine ⟨_,hbody cdv A outer s H E hr,?_⟩
    have hl:=z5J e
    unfold z9f at e
    rw [if_pos hl] at e
    have rs:=z5O (nl:=nl) .no r (N:=N) (by omega)
    split at e
    · rename_i d' eg
      cases e
      exact ⟨_,_,_,rs,eg,fun v H' z _=>by
        obtain ⟨A',t,nd,fr⟩:=z.2.1 rfl
        exact kk v H' A' z.1 t nd fr⟩
    · rename_i δ' eg
      cases e
      exact ⟨_,_,_,rs,eg,fun σ' H' R' rs' _=>kk .non H' [] rs'.keep ⟨rfl,rfl⟩ List.nodup_nil (fun a z=>nomatch z)⟩
    · rename_i c δ' eg
      cases e
      exact ⟨_,_,_,rs,eg,fun σ' H' R' rs' _=>kk H' rs'.keep⟩
    · cases e
structure DefX (P : Program) (w : World) (K : PySem.W.Frag) (mg : Str->Option Value) (base : Heap) (k : Nat) (x : Str) (sp : Sp) : Prop where
  ok : ∃ (f : Addr) (fd : FuncData) (ps : List Str),mg x=some (.ref f)∧PySem.W.keepIn K (.ref f)=true∧Binds K fd ps []∧FnOk P w K mg base (CXE P w) k f fd ps sp
noncomputable def XW (X : Cx) (cl : Nat->Value) (RX : XR) : Prop:=∀ (pins : List (Addr × Obj)) (σ : St) (H : Hp) (s : Shared) (ea T : Addr) (c : Nat),Inv X pins σ H s->FpX X pins H ea->FpX X pins H T->Thr s.heap ea T (cl c)->RX c σ H->X.xe (.ref ea) s
theorem xw_def {N : List Str} {qual : Str} {scope : Scope} {f : Addr} {cd : Value} {A : Around} {outer : List Env} {s : Shared} {H : Hp} {E : XK} {cl : Nat->Value} : XW (z9b (CXE P w) P w K mg base N qual scope f cd A outer s H E) cl (y6q cl E):=by
  intro pins σ H1 s1 ea T c I fe fT th hE
  refine z6R (y4o (base:=base) (outer:=outer) I.ok.frames I.stack rfl th fun h' G=>?_)
  have I':=I.gone G fun b hb=>by
    rcases List.mem_cons.mp hb with rfl | hb
    · exact fe
    · rw [List.mem_singleton.mp hb]; exact fT
  obtain ⟨T',hT,th'⟩:=G.thr
  have he : s.heap.get? ea=none:=by
    rcases fe.2.2.1 with z | z
    · exact absurd (show ea∈([] : List Addr) from z) (by simp)
    · exact z
  exact ⟨ea,T',cl c,H1,rfl,I'.os,I'.bare,I'.base,I'.hok,he,Heap.get?_none_of_le (Nat.le_trans I.sz hT),fe.1,I.hok.fresh hT,th',hE⟩
theorem y0X {N : List Str} {qual : Str} {scope : Scope} {f C : Addr} {cd : Value} {A : Around} {outer : List Env} {s : Shared} {H : Hp} {E : XK} {cl : Nat->Value} {c : Nat} (hc : cl c = .ref C) : Want (z9b (CXE P w) P w K mg base N qual scope f cd A outer s H E) C (y6q cl E c):=
  fun pins σ H1 s1 e I hf ht hE=>y2o I hf ht (by rw [← hc]; exact hE)
end
section
variable {X : Cx} {k : Nat} {f : Addr} {fd : FuncData} {ps : List Str} {sp : Sp} {cl : Nat->Value} {RX : XR}
theorem run_fnX {pins : List (Addr × Obj)} {σ : St} {H : Hp} {s : Shared} {Q : VK} {us : List Value} {vs : List V} (F : FnOk X.prog X.w X.K X.mg X.base (CXE X.prog X.w) k f fd ps sp) (hr : Room k X.A) (hb : Binds X.K fd ps []) (hW : XW X cl RX)
    (I : Inv X pins σ H s) (r : Vals vs us) (h : sp vs H Q (fun cls _ H'=>∃ c,cls=cl c∧RX c σ H')) : wpAny (model X.prog X.w) X.A (call (.ref f) us) (EP X pins σ Q) X.xe s:=by
  have hl : us.length=ps.length:=by rw [← r.length]; exact F.len _ _ _ _ h
  have hb':=hb s us I.kIn (by rw [List.append_nil]; exact hl)
  rw [List.append_nil] at hb'
  refine wpAny_call (codeAny_mono (F.run X.A X.stack s H ⟨us,[]⟩ us vs Q _ hr I.env0 hb' r h) fun r s' hq=>?_)
  cases r with
  | error e=>
    obtain ⟨ea,T,cls,H',rfl,os,bare,un,hok,h1,h2,h3,h4,th,c,rfl,rx⟩:=hq
    exact hW pins σ H' s' ea T c (I.call' os un hok bare fun b hb=>nomatch hb) (I.fpX h1 h3) (I.fpX h2 h4) th rx
  | ok fl=>
    cases fl with
    | ret u=>exact I.after hq
    | next=>exact False.elim hq
    | brk=>exact False.elim hq
    | cont=>exact False.elim hq
end
end L2
namespace L2
open PySem PySem.Spec PyProof.Rows
section
variable {X : Cx} {k : Nat} {sp : Sp} {cl : Nat->Value} {RX : XR} {x : Str} {p pos pos2 : Pos} {e : Expr} {es : List Expr} {t : TA}
noncomputable def tCallX (cl : Nat->Value) (RX : XR) (sp : Sp) (t : TA) : TE:=fun σ H Q=>t σ H fun vs H1=>sp vs H1 Q fun cls _ H'=>∃ c,cls=cl c∧RX c σ H'
theorem y0A (G : DefX X.prog X.w X.K X.mg X.base k x sp) (hr : Room k X.A) (hg : Gl X x) (hW : XW X cl RX) (ha : PA X (e :: es) t) (hdb : (x == ("__debug__" : Str))=false:=by decide)
    (he : starEach (e :: es) X.env=(false,eval e X.env) :: starEach es X.env:=by rfl) (hpl : (backTo pos (starEach es X.env)).any (·.1)=false:=by rfl) : PE X (.Call (.Name x p) (e :: es) [] pos) (tCallX cl RX sp t):=by
  obtain ⟨f,fd,ps,hm,hk,hb,ok⟩:=G.ok
  intro pins s σ H Q I h
  refine wpAny_Call_Name_kw (z9y I hg hm ?_ hdb)
  refine PySem.W.callWith_K (h₀:=X.base) I.ok.mod.kin hk (thn (ha pos pins s σ H _ I h) fun us s1 ⟨vs,H1,I1,r,q⟩=>⟨I1.kIn,?_⟩) he hpl
  exact run_fnX ok hr hb hW I1 r q
noncomputable def tX (K : PySem.W.Frag) (RX : XR) (F : DS->Option XO) : TE:=fun σ H Q=>∃ δ o,RepS K H noB σ δ∧F δ=some o∧(match o with
  | .val d=>∀ v H' A,Same H H'->Tree K H' d v A->A.Nodup->(∀ a∈A,H a=none)->Q v H'
  | .exc c=>∀ H',Same H H'->RX c σ H')
noncomputable def z5v (m : List D->Option XO) (fl : List DE) : DS->Option XO:=fun δ=>(z0m fl δ).bind m
theorem px_call {m : List D->Option XO} {fl : List DE} (G : DefX X.prog X.w X.K X.mg X.base k x (spX X.K cl m)) (hr : Room k X.A) (hg : Gl X x) (hW : XW X cl RX) (ha : PAD X (e :: es) fl) (hdb : (x == ("__debug__" : Str))=false:=by decide)
    (he : starEach (e :: es) X.env=(false,eval e X.env) :: starEach es X.env:=by rfl) (hpl : (backTo pos (starEach es X.env)).any (·.1)=false:=by rfl) : PE X (.Call (.Name x p) (e :: es) [] pos) (tX X.K RX (z5v m fl)):=
  (y0A G hr hg hW ha hdb he hpl).imp fun σ H Q z_=>by
    obtain ⟨δ,o,S,q,kk⟩:=z_
    unfold z5v at q
    cases e1 : z0m fl δ with
    | none=>rw [e1] at q; cases q
    | some ds=>
      rw [e1,Option.bind_some] at q
      refine ⟨noB,δ,ds,.no,S,e1,fun vs H1 s1 r1=>⟨ds,o,r1,q,?_⟩⟩
      cases o with
      | val d=>exact fun v H' A s' t nd fr=>kk v H' A (s1.trans s') t nd fun a ha=>s1.free (fr a ha)
      | exc c=>exact fun H' s'=>⟨c,rfl,kk H' (s1.trans s')⟩
variable {H0 : Hp} {B0 : Addr->Prop} {fr : Bool} {F : DS->Option XO}
noncomputable def y3y (F : DS->Option XO) : SS->Option Out:=fun δ=>(F (z0H δ)).map fun o=>match o with
  | .val _=>.nx δ
  | .exc c=>.ex c δ
theorem s_exprX (h : PE X e (tX X.K RX F)) (hs : swapsWith e none pos.line X.env=pure false:=by rfl) : PS X (.Expr e pos) (tS X.K H0 B0 fr RX (y3y F)):=PS.imp (z7y h hs) fun D σ H z_=>by
  obtain ⟨δ,R,o,rs,q,k⟩:=z_
  unfold y3y at q
  cases e1 : F (z0H δ) with
  | none=>rw [e1] at q; cases q
  | some o1=>
    rw [e1] at q
    refine ⟨z0H δ,o1,rs.all,e1,?_⟩
    cases o1 with
    | val d=>
      cases q
      exact fun v H' A s t nd fr'=>k σ H' R (rs.mono s) (Stp.same s)
    | exc c=>
      cases q
      exact fun H' s=>k σ H' R (rs.mono s) (.same s)
end
end L2
namespace L2
open PySem PySem.Spec PyProof.Rows
section
variable {X : Cx} {pins : List (Addr × Obj)} {σ : St} {H : Hp} {s : Shared} {e : Value}
end
section
variable {X : Cx} {cls : Value} {x : Str} {C : Addr} {np hpos : Pos} {b₀ : Stmt} {suite : List Stmt} {rest : List ExceptHandler} {t : TS}
end
end L2
namespace L2
open PySem PySem.Spec PyProof.Rows
section
variable {X : Cx} {pins pn : List (Addr × Obj)} {xe : Value->Shared->Prop} {σ : St} {H : Hp} {s : Shared}
end
section
variable {X : Cx} {H0 : Hp} {B0 : Addr->Prop} {fr : Bool} {RX : XR} {cl : Nat->Value} {body : List Stmt} {h₀ : ExceptHandler} {hs : List ExceptHandler} {pos : Pos}
end
end L2
namespace L2
open PySem PySem.Spec PyProof.Rows
section
variable {K : PySem.W.Frag} {H0 H : Hp} {B0 : Addr->Prop} {σ : St} {δ : SS} {R : Nat->List Addr}
noncomputable def movS (i j : Nat) (d : D) (δ : SS) : SS:=((z0Y j δ).set j none).set i (some (.ow d))
theorem z7V {i j k : Nat} {d : D} {x : SD} (h : (movS i j d δ)[k]? = some (some x)) : (k=i∧x = .ow d∧i < δ.length)∨(k≠i∧k≠j∧δ[k]? = some (some x)∧∀ d,x≠.bo j d):=by
  unfold movS at h
  rcases z2v h with ⟨e,q,hl⟩ | ⟨hk,q⟩
  · cases q
    refine .inl ⟨e,rfl,?_⟩
    rw [List.length_set] at hl
    unfold z0Y at hl
    rwa [List.length_map] at hl
  · rcases z2v q with ⟨e,q',_⟩ | ⟨hj,q'⟩
    · cases q'
    · exact .inr ⟨hk,hj,z3V q'⟩
theorem RS.mov {i j : Nat} {d : D} {v : V} (hij : i≠j) (h : RS K H0 B0 H σ δ R) (t : Tree K H d v (R j)) (nd : (R j).Nodup) : RS K H0 B0 H (σ.set i (some v)) (movS i j d δ) (z9c (z9c R j []) i (R j)):=by
  have up : ∀ {k : Nat} {w : V},k≠i->σ[k]? = some (some w)->(σ.set i (some v))[k]? = some (some w):=fun hj e=>by rw [List.getElem?_set_ne (Ne.symm hj)]; exact e
  have mem : ∀ r a,a∈z9c (z9c R j []) i (R j) r->(r=i∧a∈R j)∨(r≠i∧r≠j∧a∈R r):=fun r a z=>by
    by_cases hr : r=i
    · subst hr; rw [z0Z] at z; exact .inl ⟨rfl,z⟩
    · rw [z1C hr] at z
      by_cases hj : r=j
      · subst hj; rw [z0Z] at z; cases z
      · rw [z1C hj] at z; exact .inr ⟨hr,hj,z⟩
  refine ⟨h.keep,h.inB,by unfold movS z0Y; simp [h.len],fun r a z=>?_,fun r a z=>?_,fun r s a z z'=>?_,fun k d' z=>?_,fun k r' d' z=>?_,fun k d' z=>?_⟩
  · rcases mem r a z with ⟨_,z⟩ | ⟨_,_,z⟩ <;> exact h.new _ a z
  · rcases mem r a z with ⟨_,z⟩ | ⟨_,_,z⟩ <;> exact h.held _ a z
  · rcases mem r a z with ⟨h1,z⟩ | ⟨h1,h1',z⟩ <;> rcases mem s a z' with ⟨h2,z'⟩ | ⟨h2,h2',z'⟩
    · rw [h1,h2]
    · exact absurd (h.disj s j a z' z) h2'
    · exact absurd (h.disj r j a z z') h1'
    · exact h.disj r s a z z'
  · rcases z7V z with ⟨_,q,_⟩ | ⟨h1,h2,q,_⟩
    · cases q
    · obtain ⟨w,e1,r⟩:=h.sh k d' q
      refine ⟨w,up h1 e1,r.anti fun a z=>z.imp id fun ⟨r,z⟩=>?_⟩
      rcases mem r a z with ⟨_,z⟩ | ⟨_,_,z⟩ <;> exact ⟨_,z⟩
  · rcases z7V z with ⟨_,q,_⟩ | ⟨h1,h2,q,hn⟩
    · cases q
    · obtain ⟨w,e1,r⟩:=h.bo k r' d' q
      have hr' : r'≠j:=fun e=>hn d' (by rw [e])
      refine ⟨w,up h1 e1,r.anti fun a z=>z.imp id fun ⟨s,hs,z⟩=>?_⟩
      rcases mem s a z with ⟨_,z⟩ | ⟨_,_,z⟩
      · exact ⟨j,Ne.symm hr',z⟩
      · exact ⟨s,hs,z⟩
  · rcases z7V z with ⟨e,q,hl⟩ | ⟨h1,h2,q,_⟩
    · cases q
      subst e
      rw [z0Z]
      exact ⟨v,by rw [List.getElem?_set]; simp [← h.len,hl],t,nd⟩
    · obtain ⟨w,e1,t'⟩:=h.ow k d' q
      rw [z1C h1,z1C h2]
      exact ⟨w,up h1 e1,t'⟩
end
section
variable {X : Cx} {H0 : Hp} {B0 : Addr->Prop} {fr : Bool} {RX : XR} {pos : Pos} {st : Stmt}
noncomputable def movO (i j : Nat) : SS->Option Out:=fun δ=>match δ[j]? with
  | some (some (.ow d))=>some (.nx (movS i j d δ))
  | _=>none
theorem s_mov {i j : Nat} (hij : i≠j) (h : PAsg X st i (y1y j)) : PS X st (tS X.K H0 B0 fr RX (movO i j)):=PS.imp h fun D σ H z_=>by
  obtain ⟨δ,R,o,rs,q,k⟩:=z_
  unfold movO at q
  split at q
  · rename_i d e
    cases q
    obtain ⟨v,e1,t,nd⟩:=rs.ow j d e
    refine ⟨v,e1,k _ H _ (rs.mov hij t nd) ⟨fun a o h _=>h,fun r a z=>?_,fun a z=>z⟩⟩
    by_cases hr : r=i
    · subst hr; rw [z0Z] at z; exact .inl ⟨j,z⟩
    · rw [z1C hr] at z
      by_cases hj : r=j
      · subst hj; rw [z0Z] at z; cases z
      · rw [z1C hj] at z; exact .inl ⟨r,z⟩
  · cases q
end
end L2
namespace L2
open PySem PySem.Spec PyProof.Rows
section
variable {X : Cx}
end
noncomputable def revS : D->Option (List D)
  | .lst ds=>some ds.reverse
  | _=>none
section
variable {X : Cx}
end
end L2
namespace L2
open PySem PySem.Spec PyProof.Rows
section
variable {X : Cx} {c e : Expr} {fc : DS->Option Bool} {fe : DE} {f g : DS->Option (Option D)} {st : Stmt} {sts : List Stmt} {p1 pos : Pos}
end
section
variable {X : Cx} {H0 : Hp} {B0 : Addr->Prop} {fr : Bool} {RX : XR} {pos : Pos}
end
end L2
namespace L2
open PySem PySem.Spec PyProof.Rows
noncomputable abbrev bmVE : List Value:=[.type "ValueError",.type "Exception",.type "BaseException",.type "object"]
theorem y6I {K : PySem.W.Frag} {h : Heap} {mg : Str->Option Value} {x : Str} {C : Addr} {bl : List Value} {nid : String} (X : K.In h) (G : h.Ns mainGlobals mg) (ha : PySem.W.nsIn K mainGlobals x=some (some (.ref C))) (hq : PySem.W.excIn K C bl nid=true) : OwnCls x C bl nid mg h:=by
  refine ⟨PySem.W.mg_of X G ha,?_⟩
  unfold PySem.W.excIn at hq
  cases hk : K.lookup C with
  | none=>rw [hk] at hq; cases hq
  | some ob=>
    rw [hk] at hq
    have hat:=X _ _ hk
    split at hq
    case h_2=>cases hq
    case h_1 od cls sl z=>
      cases z
      split at hq
      case h_2=>cases hq
      case h_1 C1 tl b0 b1 b2 b3 n b5 em es=>
        simp only [Bool.and_eq_true,beq_iff_eq,Bool.not_eq_true'] at hq
        obtain ⟨⟨⟨⟨⟨z1,z2⟩,z3⟩,z4⟩,z5⟩,z6⟩:=hq
        cases cls with
        | mk nm bs mro ns qn hd sn sub ab col del=>
          cases sl with
          | mk l=>
            dsimp only at em es z3 z5 z6
            rw [em,es,z3,z1,z2] at hat
            exact ⟨tl,ns,nm,qn,bs,hd,sn,sub,ab,col,od,b0,b1,b2,b3,b5,_,hat,.of_isNs (PySem.W.isNs_of_in X z5),PySem.W.nsMap_none_of_in X z5 z6,PySem.W.tail_of_in X z4⟩
section
variable {X : Cx} {x : Str} {C : Addr} {np cpos pos : Pos} {e₀ : Expr} {H0 : Hp} {B0 : Addr->Prop} {fr : Bool} {RX : XR}
theorem y0u {c : Nat} {f : DE} (hc : X.calm=true) (hg : Gl X x) (O : OwnCls x C bmVE "ValueError.__new__" X.mg X.base) (hW : Want X C (RX c)) (h : PD X e₀ f)
    (he : starEach [e₀] X.env=[(false,eval e₀ X.env)]:=by rfl) (hd : (x == ("__debug__" : Str))=false:=by decide) : PS X (.Raise (some (.Call (.Name x np) [e₀] [] cpos)) none pos) (tS X.K H0 B0 fr RX (z5r c f)):=
  s_raise hc hg O PySem.F.excBase_ValueError (by decide) PySem.F.excBase_ValueError hW h he hd
end
end L2
namespace L2
open PySem PySem.Spec PyProof.Rows
noncomputable def valO : Option XO->Option D
  | some (.val d)=>some d
  | _=>none
noncomputable def y0j (m : List D->Option XO) (fl : List DE) : DE:=fun δ=>valO (z5v m fl δ)
section
variable {X : Cx} {k : Nat} {cl : Nat->Value} {x : Str} {p pos : Pos} {e : Expr} {es : List Expr}
theorem xw_no : XW X cl noX:=fun _ _ _ _ _ _ _ _ _ _ _ h=>h.elim
end
end L2
namespace L2
open PySem PySem.Spec PyProof.Rows
section
variable {X : Cx} {pins : List (Addr × Obj)} {σ : St} {H : Hp} {s : Shared}
end
section
variable {X : Cx} {x n : Str} {C Ca : Addr} {np hpos : Pos} {b₀ : Stmt} {suite : List Stmt} {rest : List ExceptHandler} {t : TS} {i : Nat}
end
section
variable {K : PySem.W.Frag} {H0 H : Hp} {B0 : Addr->Prop} {σ : St} {δ : SS} {R : Nat->List Addr}
end
section
variable {X : Cx} {e : Expr} {f : DE} {y : Str} {p p2 pos : Pos} {L N : List Str}
end
section
variable {X : Cx} {H0 : Hp} {B0 : Addr->Prop} {fr : Bool} {RX : XR} {x n xn : Str} {C Ca : Addr} {np hpos : Pos} {b₀ : Stmt} {suite : List Stmt} {rest : List ExceptHandler} {g : SS->Option Out} {i : Nat}
end
end L2
namespace L2
open PySem PySem.Spec PyProof.Rows
noncomputable def tNs (K : PySem.W.Frag) (f : DS->Option (List D)) : TA:=fun σ H Q=>∃ δ ds,RepS K H noB σ δ∧f δ=some ds∧∀ vs H' A,Same H H'->Trees K H' ds vs A->A.Nodup->(∀ a∈A,H a=none)->Q vs H'
noncomputable abbrev PAN (X : Cx) (es : List Expr) (fl : List DE) : Prop:=PA X es (tNs X.K (z0m fl))
theorem Trees.len {K : PySem.W.Frag} {H : Hp} : ∀ {ds : List D} {xs : List V} {A : List Addr},Trees K H ds xs A->ds.length=xs.length
  | [],_,_,h=>by unfold Trees at h; rw [h.1]; rfl
  | d :: ds,_,_,h=>by
    unfold Trees at h
    obtain ⟨x,r,C,C',rfl,_,h2,_⟩:=h
    simp [Trees.len h2]
section
variable {X : Cx} {e : Expr} {es : List Expr} {pos : Pos}
theorem y3L : PAN X [] []:=pa_nil.imp fun σ H Q z_=>by
  obtain ⟨δ,ds,S,q,k⟩:=z_
  cases q
  exact k [] H [] (.refl H) ⟨rfl,rfl⟩ List.nodup_nil (fun a z=>nomatch z)
theorem y1d {f : DE} {fl : List DE} (ha : PN X e f) (hr : PAN X es fl) (hs : starEach (e :: es) X.env=(false,eval e X.env) :: starEach es X.env:=by rfl) : PAN X (e :: es) (f :: fl):=(z1L ha hr hs).imp fun σ H Q z_=>by
  obtain ⟨δ,ds,S,q,k⟩:=z_
  obtain ⟨x,xs,e1,e2,rfl⟩:=z5b q
  refine ⟨δ,x,S,e1,fun v H1 A s1 t1 nd1 f1=>⟨δ,xs,S.mono s1,e2,fun vs H2 C s2 t2 nd2 f2=>?_⟩⟩
  refine k (v :: vs) H2 (A ++ C) (s1.trans s2) ?_ ?_ fun a ha=>?_
  · unfold Trees
    exact ⟨v,vs,A,C,rfl,t1.mono s2,t2,rfl⟩
  · refine List.nodup_append.mpr ⟨nd1,nd2,fun a ha b hb z=>?_⟩
    subst z
    obtain ⟨o,q',_⟩:=t1.held x a ha
    rw [f2 a hb] at q'; cases q'
  · rcases List.mem_append.mp ha with z | z
    · exact f1 a z
    · exact s1.free (f2 a z)
theorem y3l {fl : List DE} (h : PAN X es fl) (hl : fl.length≤1000:=by decide) : PN X (.List es pos) (mkL (z0m fl)):=(y3Q h).imp fun σ H Q z_=>by
  obtain ⟨δ,d,S,q,k⟩:=z_
  unfold mkL at q
  cases r : z0m fl δ with
  | none=>rw [r] at q; cases q
  | some ds=>
    rw [r] at q
    cases q
    refine ⟨δ,ds,S,r,fun vs H1 A s1 t1 nd fa=>⟨?_,fun p hp=>?_⟩⟩
    · rw [← t1.len,z2D r]
      exact Nat.le_of_lt (z6d hl)
    · have sp:=z0q (o:=.lst vs) hp
      refine k (.ref p) _ (p :: A) (s1.trans sp) ?_ (List.nodup_cons.mpr ⟨fun z=>?_,nd⟩) fun a ha=>?_
      · unfold Tree
        exact ⟨p,vs,A,rfl,z0o,t1.mono sp,rfl⟩
      · obtain ⟨o,q',_⟩:=Trees.held ds t1 p z
        rw [hp] at q'; cases q'
      · rcases List.mem_cons.mp ha with z | z
        · rw [z]; exact s1.free hp
        · exact fa a z
variable {H0 : Hp} {B0 : Addr->Prop} {RX : XR} {a b : Expr} {pos' : Pos}
noncomputable def y1I (δ : SS) (i : Nat) : Option D:=match δ[i]? with
  | some (some (.ow d))=>some d
  | some (some (.sh d))=>if d.imm=true then some d else none
  | _=>none
noncomputable def ret2 (i j : Nat) : SS->Option Out:=fun δ=>match y1I δ i,y1I δ j with
  | some d,some e=>some (.rt (.lst [d,e]))
  | _,_=>none
theorem y1b {K : PySem.W.Frag} {H : Hp} {σ : St} {δ : SS} {R : Nat->List Addr} {i : Nat} {d : D} (rs : RS K H0 B0 H σ δ R) (h : y1I δ i=some d) : ∃ v A,σ[i]? = some (some v)∧Tree K H d v A∧A.Nodup∧∀ a∈A,a∈R i:=by
  unfold y1I at h
  split at h
  · rename_i d' e
    cases h
    obtain ⟨v,e1,t,nd⟩:=rs.ow i _ e
    exact ⟨v,R i,e1,t,nd,fun a z=>z⟩
  · rename_i d' e
    split at h
    · rename_i hi
      cases h
      obtain ⟨v,e1,r⟩:=rs.sh i _ e
      exact ⟨v,[],e1,r.immTree _ hi,List.nodup_nil,(fun a z=>nomatch z)⟩
    · cases h
  · cases h
theorem s_ret2 {i j : Nat} (hij : i≠j) (ha : PE X a (y1y i)) (hb : PE X b (y1y j)) (hs : starEach [a,b] X.env=(false,eval a X.env) :: starEach [b] X.env:=by rfl) (hs2 : starEach [b] X.env=(false,eval b X.env) :: starEach [] X.env:=by rfl) :
    PS X (.Return (some (.List [a,b] pos')) pos) (tS X.K H0 B0 true RX (ret2 i j)):=PS.imp (z8R (y3Q (z1L ha (z1L hb pa_nil hs2) hs))) fun D σ H z_=>by
  obtain ⟨δ,R,o,rs,q,k⟩:=z_
  unfold ret2 at q
  split at q
  · rename_i d e h1 h2
    cases q
    obtain ⟨v,A,e1,t1,n1,m1⟩:=y1b rs h1
    obtain ⟨w,C,e2,t2,n2,m2⟩:=y1b rs h2
    refine ⟨v,e1,w,e2,by show 2≤sizeLine; rw [sizeLine_eq]; omega,fun p hp=>?_⟩
    have sp:=z0q (o:=.lst [v,w]) hp
    have hold : ∀ x,x∈A ++ C->H x≠none:=fun x hx z=>by
      rcases List.mem_append.mp hx with y | y
      · obtain ⟨o,q,_⟩:=t1.held _ x y
        rw [z] at q; cases q
      · obtain ⟨o,q,_⟩:=t2.held _ x y
        rw [z] at q; cases q
    refine k (.ref p) _ ⟨rs.keep.trans sp,fun _=>⟨p :: (A ++ C),?_,List.nodup_cons.mpr ⟨fun z=>hold p z hp,List.nodup_append.mpr ⟨n1,n2,fun x hx y hy z=>?_⟩⟩,fun x hx=>?_⟩,fun z=>by cases z⟩ fun x z=>sp.free z
    · unfold Tree
      refine ⟨p,[v,w],A ++ C,rfl,z0o,?_,rfl⟩
      unfold Trees
      refine ⟨v,[w],A,C,rfl,t1.mono sp,?_,rfl⟩
      unfold Trees
      exact ⟨w,[],C,[],rfl,t2.mono sp,⟨rfl,rfl⟩,by simp⟩
    · subst z
      exact hij (rs.disj i j x (m1 x hx) (m2 x hy))
    · rcases List.mem_cons.mp hx with z | z
      · rw [z]; exact rs.keep.free hp
      · rcases List.mem_append.mp z with z | z
        · exact rs.new i x (m1 x z)
        · exact rs.new j x (m2 x z)
  · cases q
end
end L2
namespace L2
open PySem PySem.Spec PyProof.Rows
section
variable {X : Cx} {k : Nat} {x : Str} {p pos : Pos} {e : Expr} {es : List Expr}
end
end L2
namespace L2
open PySem PySem.Spec PyProof.Rows
noncomputable def dIxX (F : DS->Option XO) (g : DE) : DS->Option XO:=fun δ=>match F δ with
  | some (.val d)=>(g δ).bind fun y=>(ixD d y).bind fun z=>if z.imm=true then some (.val z) else none
  | some (.exc c)=>some (.exc c)
  | none=>none
section
variable {X : Cx} {a b : Expr} {pos : Pos} {f g : DE} {RX : XR}
end
end L2
namespace PySem
open Sem (wp)
section
variable {K : Type} [DecidableEq K] {prog : Program} {w : World} {knd : KeyKind prog w K} {A : Around} {E : Value->Shared->Prop} {s : Shared}
end
end PySem
namespace L2
open PySem PySem.Spec PyProof.Rows
section
variable {prog : Program} {w : World} {A : Around} {E : Value->Shared->Prop} {s : Shared}
end
section
variable {X : Cx}
variable {e : Expr} {f : DE} {p pos : Pos}
end
end L2
namespace L2
open PySem PySem.Spec PyProof.Rows
section
variable {X : Cx} {ke ve : Expr} {pos : Pos} {f g : DE}
end
section
variable {X : Cx} {tg : Expr}
end
section
variable {X : Cx} {a b : Expr} {pos : Pos} {f g : DE}
end
end L2
namespace L2
open PySem PySem.Spec PyProof.Rows
section
variable {X : Cx} {H0 : Hp} {B0 : Addr->Prop} {fr : Bool} {RX : XR} {pos : Pos}
end
end L2
namespace L2
open PySem PySem.Spec PyProof.Rows
noncomputable def bst (ns : List Int) : Nat->Nat
  | 0=>0
  | k + 1=>if decide (ns.getD (k + 1) 0 < ns.getD (bst ns k) 0)=true then k + 1 else bst ns k
noncomputable def mnI (ns : List Int) : Int:=ns.getD (bst ns (ns.length - 1)) 0
theorem y0h {bt : Nat->Nat->Bool} {ns : List Int} (h : ∀ i j,bt i j=decide (ns.getD i 0 < ns.getD j 0)) : ∀ k,argBest bt k=bst ns k
  | 0=>rfl
  | k + 1=>by
    unfold argBest bst
    rw [y0h h k,h]
section
variable {X : Cx}
theorem y2e (hc : X.calm=true) : z3Y X (.builtin "min") (fun xs H Q=>∃ (p : Addr) (ns : List Int),xs=[.ref p]∧SqL X.K H p (ns.map V.int)∧ns≠[]∧Q (.int (mnI ns)) H):=by
  intro pins s σ H xs us Q I r h
  obtain ⟨p,ns,rfl,hq,hne,q⟩:=h
  obtain ⟨u,rfl,ru⟩:=z6J r
  cases ru
  obtain ⟨its,rv,pl,hz⟩:=I.list hq
  have hi:=z2X rv
  obtain ⟨xs,hx⟩:=hi.allInts.items
  have hl' : s.heap.IsList p (intItems xs):=hx ▸ pl.isList
  have e1 : ns=xs.toList.map (·.1):=by
    rw [← nums_intItems,← hx]
    exact (show numsOf its.toArray.toList=ns from hi.numsOf).symm
  have hsz : xs.size=ns.length:=by rw [e1]; simp
  have hp : 0 < ns.length:=List.length_pos_iff.mpr hne
  refine min_intList (I.ok.hd hc) hl' (by omega) fun v h' tk hv hk=>?_
  have eb : argBest (fun i j=>decide (numAt xs i < numAt xs j)) (xs.size - 1)=bst ns (ns.length - 1):=by
    rw [hsz]
    refine y0h (fun i j=>?_) _
    have en : ∀ k,numAt xs k=ns.getD k 0:=fun k=>by
      rw [e1]
      unfold numAt
      simp [List.getD]
    rw [en,en]
  rw [eb] at hv
  obtain ⟨t,rfl⟩:=intItems_at hv
  have en : numAt xs (bst ns (ns.length - 1))=mnI ns:=by
    unfold mnI
    rw [e1]
    unfold numAt
    simp [List.getD]
  exact ⟨.int _,H,I.kept hk,⟨t,by rw [en]⟩,q⟩
noncomputable def y3F : List D->Option D
  | [.lst ds]=>(z1h ds).bind fun ns=>if ns.isEmpty=true then none else some (.int (mnI ns))
  | _=>none
theorem oa_minL {K : PySem.W.Frag} : OpA K (fun xs H Q=>∃ (p : Addr) (ns : List Int),xs=[.ref p]∧SqL K H p (ns.map V.int)∧ns≠[]∧Q (.int (mnI ns)) H) y3F:=by
  intro H B ds d vs Q hB hr q k
  unfold y3F at q
  split at q
  · rename_i es
    cases e : z1h es with
    | none=>rw [e] at q; cases q
    | some bs=>
      rw [e,Option.bind_some] at q
      split at q
      · cases q
      · rename_i hn
        cases q
        obtain ⟨v,rfl,r⟩:=z3s hr
        unfold Rep at r
        obtain ⟨a,xs,rfl,_,h,rs⟩:=r
        rw [z2T e rs] at h
        exact ⟨a,bs,rfl,SqL.of h,fun z=>hn (by rw [z]; rfl),k _ H (.refl H) rfl⟩
  · cases q
variable {e : Expr} {f : DE} {p pos : Pos}
theorem pd_minL (hc : X.calm=true) (hg : Gl X "min") (hm : X.mg "min" = none) (h : PD X e f) (he : starEach [e] X.env=[(false,eval e X.env)]:=by rfl) : PD X (.Call (.Name "min" p) [e] [] pos) (z0k y3F [f]):=
  z3M (y2e hc) oa_minL hg hm boot_min (z0a h z0e he) (by decide) (by decide) he rfl
end
end L2
namespace L2
open PySem PySem.Spec PyProof.Rows
theorem Reps.pick {K : PySem.W.Frag} {H : Hp} {B : Addr->Prop} {ds : List D} {xs : List V} (h : Reps K H B ds xs) : ∀ l : List Nat,Reps K H B (l.filterMap (ds[·]?)) (l.filterMap (xs[·]?))
  | []=>.nil
  | j :: l=>by
    rw [List.filterMap_cons,List.filterMap_cons]
    cases e : ds[j]? with
    | none=>
      have hn : xs[j]? = none:=by
        rw [List.getElem?_eq_none_iff] at e ⊢
        rw [← h.length]
        exact e
      rw [hn]
      exact h.pick l
    | some d=>
      obtain ⟨x,e2,r⟩:=h.get e
      rw [e2]
      exact .cons r (h.pick l)
section
variable {X : Cx} {e lo st : Expr} {te : TE} {tl tk : TO} {pos p2 : Pos}
variable {f g h : DE}
end
end L2
namespace L2
open PySem PySem.Spec PyProof.Rows
noncomputable def bigL : Nat:=2 ^ 250
noncomputable def CMulB (i j : Int) : Prop:=i.natAbs < bigL∧j.natAbs < bigL
noncomputable instance {i j : Int} : Decidable (CMulB i j):=by unfold CMulB; infer_instance
section
variable {X : Cx} {a b : Expr} {pos : Pos} {f g : DE}
end
end L2
namespace L2
open PySem PySem.Spec PyProof.Rows
section
variable {X : Cx} {tg iter a b : Expr} {p pos pos' : Pos}
structure ItF (J : It) (lo : Int) (n : Nat) : Prop where
  go : ∀ i H',i < n->J.go i H'
  stop : ∀ i H',n≤i->J.stop i H'
  yld : ∀ i H' x H2,J.yld i H' x H2->Same H' H2∧x = .int (lo + (i : Int))
variable {H0 : Hp} {B0 : Addr->Prop} {fr : Bool} {RX : XR}
variable {c : Expr}
end
end L2
namespace L2
open PySem PySem.Spec PyProof.Rows
section
variable {X : Cx} {a b : Expr} {pos : Pos} {f g : DE}
end
end L2
namespace HT
open PySem PySem.Spec PyProof.Rows
section
variable {prog : Program} {w : World} {A : Around} {E : Value->Shared->Prop} {s : Shared}
theorem getItem_tuple_whole {t sl : Addr} {items : Array Value} {vl vu : Value} {lo hi : Option Int} {Q : Value->Shared->Prop} (ht : IsTup s.heap t items) (hs : s.heap.IsSliceOf sl vl vu .none) (pl : IsPart vl lo) (pu : IsPart vu hi)
    (hw : sIx items.size 0 lo=0∧sIx items.size items.size hi=items.size)
    (h : Q (.ref t) s) : wpAny (model prog w) A (getItem (.ref t) (.ref sl)) Q E s:=by
  obtain ⟨os,hos,hcs,hds⟩:=id hs
  have hTs : s.TypeIs (.ref sl) "slice" := ⟨os,hos,hcs⟩
  unfold getItem
  try with_reducible refine wpAny_holding ?_
  first | refine wpAny_bind (wpAny_pure ?_) | skip
  refine wpAny_bind (wpAny_sequenceKey ht.typeIs (by decide) ?_)
  refine wpAny_bind (wpAny_callSpecial?_slot (name:=Str.ofString "__getitem__") ht.typeIs PyProof.Rows.slot_tuple_getitem
    (wpAny_call_entry PyProof.Rows.slot_tuple_getitem ht.typeIs entry_tuple_getitem ?_ (args_tuple_getitem _ _)))
  show wpAny _ _ (Builtin.Tuple.tupleItemsOf (.ref t) >>= _) _ _ s
  refine wpAny_bind (tupleItemsOf_ ht ?_)
  refine wpAny_bind (wpAny_typeOf hTs ?_)
  rw [if_pos (by decide)]
  refine wpAny_bind (z3k hs pl pu ?_)
  have hyes : (((sIx items.size 0 lo : Nat) : Int) == 0 && (1 : Int) == 1 && (sIx items.size items.size hi - sIx items.size 0 lo) == items.size)=true:=by
    rw [hw.1,hw.2]
    simp
  show wpAny _ _ (if (((sIx items.size 0 lo : Nat) : Int) == 0 && (1 : Int) == 1 && (sIx items.size items.size hi - sIx items.size 0 lo) == items.size)=true then _ else _) _ _ s
  rw [if_pos hyes]
  refine wpAny_bind (m:=Builtin.Tuple.tupleIsExact _) ?_
  unfold Builtin.Tuple.tupleIsExact
  refine wpAny_bind (wpAny_typeOf ht.typeIs ?_)
  refine wpAny_pure ?_
  rw [if_pos (by decide)]
  refine wpAny_bind (wpAny_rule ?_)
  exact wpAny_pure ⟨_,rfl,wpAny_pure h⟩
end
end HT
namespace L2
open PySem PySem.Spec PyProof.Rows
section
variable {X : Cx} {e a b : Expr} {lo hi : Option Expr} {p p2 pos : Pos}
noncomputable def rSlW (K : PySem.W.Frag) : V->Option Int->Option Int->Hp->VK->Prop:=fun x lo hi H Q=>∃ a xs,x = .ref a∧SqT K H a xs ∧
  ((HT.sIx xs.length 0 lo=0∧HT.sIx xs.length xs.length hi=xs.length)->Q (.ref a) H)∧(¬ (HT.sIx xs.length 0 lo=0∧HT.sIx xs.length xs.length hi=xs.length)->∀ p,H p=none->Q (.ref p) (upd H p (.tup (y1H xs lo hi))))
theorem sl_tupW : SlR X (rSlW X.K):=by
  intro pins s σ H x v vl vu lo hi sl Q I rx hs pl pu h
  obtain ⟨a,xs,rfl,hx,q1,q2⟩:=h
  cases rx
  obtain ⟨its,r,ht,hz⟩:=I.tuple hx
  have hlen : its.toArray.size=xs.length:=by rw [List.size_toArray]; exact r.length.symm
  by_cases hw : HT.sIx xs.length 0 lo=0∧HT.sIx xs.length xs.length hi=xs.length
  · refine ⟨"tuple",_,PyProof.Rows.slot_tuple_getitem.lookup,ht.typeIs,?_⟩
    exact HT.getItem_tuple_whole ht hs pl pu (by rw [hlen]; exact hw) ⟨.ref a,H,I,rfl,q1 hw⟩
  · refine ⟨"tuple",_,PyProof.Rows.slot_tuple_getitem.lookup,ht.typeIs,?_⟩
    refine HT.getItem_tuple_cut ht hs pl pu (by rw [hlen]; exact hw) ?_ (by rw [hlen]; exact hz)
    rw [hlen]
    refine ⟨.ref s.heap.objs.size,_,I.laid (t':=s.toks) (o:=.tup (y1H xs lo hi)) (fun b ob q=>Heap.get?_push_of_some _ q) (Nat.le_refl _) ?_,rfl,q2 hw _ (I.hok.fresh (Nat.le_refl _))⟩
    exact ⟨Nat.le_trans (z6s xs lo hi) hz,_,(r.drop (HT.sIx xs.length 0 lo)).take (HT.sIx xs.length xs.length hi - HT.sIx xs.length 0 lo),TupN.new _ _⟩
noncomputable def y0b (f : DE) (fl fh : DS->Option (Option Int)) : DE:=fun δ=>match f δ with
  | some (.tup ds)=>(fl δ).bind fun lo=>(fh δ).map fun hi=>.tup (z4Q ds lo hi)
  | _=>none
theorem z6D {f : DE} {fl fh : DS->Option (Option Int)} (he : PD X e f) (hl : POD X lo fl) (hh : POD X hi fh) : PD X (.Subscript e (.Slice lo hi none p2) pos) (y0b f fl fh):=(y0P sl_tupW he hl hh).imp fun σ H Q z_=>by
  obtain ⟨B,δ,d',hB,S,q,k⟩:=z_
  unfold y0b at q
  split at q
  · rename_i ds e1
    cases e2 : fl δ with
    | none=>rw [e2] at q; cases q
    | some l=>
    cases e3 : fh δ with
    | none=>rw [e2,e3] at q; cases q
    | some u=>
    rw [e2,e3] at q
    cases q
    refine ⟨B,δ,_,hB,S,e1,fun v H1 s1 r1=>⟨B,δ,l,hB.mono s1,S.mono s1,e2,fun H2 s2=>⟨B,δ,u,(hB.mono s1).mono s2,(S.mono s1).mono s2,e3,fun H3 s3=>?_⟩⟩⟩
    unfold Rep at r1
    obtain ⟨a,xs,rfl,hq,rs⟩:=r1
    have hlen:=rs.length
    refine ⟨a,xs,rfl,(s2.trans s3).tup hq,fun hw=>?_,fun hw p hp=>?_⟩
    · refine k _ _ ((s1.trans s2).trans s3) ?_
      have ec : z4Q ds l u=ds:=by
        unfold z4Q
        rw [← hlen] at hw
        rw [hw.1,hw.2,List.drop_zero,Nat.sub_zero,List.take_length]
      show Rep X.K H3 B (.tup (z4Q ds l u)) _
      rw [ec]
      unfold Rep
      exact ⟨a,xs,rfl,(s2.trans s3).tup hq,rs.mono (s2.trans s3)⟩
    · have sa:=z0q (o:=.tup (y1H xs l u)) hp
      refine k _ _ (((s1.trans s2).trans s3).trans sa) ?_
      show Rep X.K _ B (.tup (z4Q ds l u)) _
      unfold Rep
      have rc : Reps X.K H1 B (z4Q ds l u) (y1H xs l u):=by
        unfold y1H z4Q
        rw [← hlen]
        exact (rs.drop _).take _
      exact ⟨p,y1H xs l u,rfl,SqT.of z0o,(rc.mono (s2.trans s3)).mono sa⟩
  · cases q
noncomputable def z8f (ns : List Int) : Nat->Nat
  | 0=>0
  | k + 1=>if decide (ns.getD (k + 1) 0 > ns.getD (z8f ns k) 0)=true then k + 1 else z8f ns k
noncomputable def mxI (ns : List Int) : Int:=ns.getD (z8f ns (ns.length - 1)) 0
theorem z6v {bt : Nat->Nat->Bool} {ns : List Int} (h : ∀ i j,bt i j=decide (ns.getD i 0 > ns.getD j 0)) : ∀ k,argBest bt k=z8f ns k
  | 0=>rfl
  | k + 1=>by
    unfold argBest z8f
    rw [z6v h k,h]
theorem y2x (hc : X.calm=true) : z3Y X (.builtin "max") (fun xs H Q=>∃ (p : Addr) (ns : List Int),xs=[.ref p]∧SqL X.K H p (ns.map V.int)∧ns≠[]∧Q (.int (mxI ns)) H):=by
  intro pins s σ H xs us Q I r h
  obtain ⟨p,ns,rfl,hq,hne,q⟩:=h
  obtain ⟨u,rfl,ru⟩:=z6J r
  cases ru
  obtain ⟨its,rv,pl,hz⟩:=I.list hq
  have hi:=z2X rv
  obtain ⟨xs,hx⟩:=hi.allInts.items
  have hl' : s.heap.IsList p (intItems xs):=hx ▸ pl.isList
  have e1 : ns=xs.toList.map (·.1):=by
    rw [← nums_intItems,← hx]
    exact (show numsOf its.toArray.toList=ns from hi.numsOf).symm
  have hsz : xs.size=ns.length:=by rw [e1]; simp
  have hp : 0 < ns.length:=List.length_pos_iff.mpr hne
  refine max_intList (I.ok.hd hc) hl' (by omega) fun v h' tk hv hk=>?_
  have eb : argBest (fun i j=>decide (numAt xs i > numAt xs j)) (xs.size - 1)=z8f ns (ns.length - 1):=by
    rw [hsz]
    refine z6v (fun i j=>?_) _
    have en : ∀ k,numAt xs k=ns.getD k 0:=fun k=>by
      rw [e1]
      unfold numAt
      simp [List.getD]
    rw [en,en]
  rw [eb] at hv
  obtain ⟨t,rfl⟩:=intItems_at hv
  have en : numAt xs (z8f ns (ns.length - 1))=mxI ns:=by
    unfold mxI
    rw [e1]
    unfold numAt
    simp [List.getD]
  exact ⟨.int _,H,I.kept hk,⟨t,by rw [en]⟩,q⟩
noncomputable def y2H : List D->Option D
  | [.lst ds]=>(z1h ds).bind fun ns=>if ns.isEmpty=true then none else some (.int (mxI ns))
  | _=>none
theorem oa_maxL {K : PySem.W.Frag} : OpA K (fun xs H Q=>∃ (p : Addr) (ns : List Int),xs=[.ref p]∧SqL K H p (ns.map V.int)∧ns≠[]∧Q (.int (mxI ns)) H) y2H:=by
  intro H B ds d vs Q hB hr q k
  unfold y2H at q
  split at q
  · rename_i es
    cases e : z1h es with
    | none=>rw [e] at q; cases q
    | some bs=>
      rw [e,Option.bind_some] at q
      split at q
      · cases q
      · rename_i hn
        cases q
        obtain ⟨v,rfl,r⟩:=z3s hr
        unfold Rep at r
        obtain ⟨a,xs,rfl,_,h,rs⟩:=r
        rw [z2T e rs] at h
        exact ⟨a,bs,rfl,SqL.of h,fun z=>hn (by rw [z]; rfl),k _ H (.refl H) rfl⟩
  · cases q
variable {f : DE}
theorem pd_maxL (hc : X.calm=true) (hg : Gl X "max") (hm : X.mg "max" = none) (h : PD X e f) (he : starEach [e] X.env=[(false,eval e X.env)]:=by rfl) : PD X (.Call (.Name "max" p) [e] [] pos) (z0k y2H [f]):=
  z3M (y2x hc) oa_maxL hg hm boot_max (z0a h z0e he) (by decide) (by decide) he rfl
end
end L2
namespace PySem
namespace SetTable
noncomputable def Up (xs : Array Nat) : Prop:=xs.toList.Pairwise (· < ·)
theorem up_le {xs : Array Nat} (h : Up xs) {i k : Nat} (hi : i < k) (hk : k < xs.size) (d : Nat) : xs.getD i d < xs.getD k d:=by
  have h1 : i < xs.toList.length:=by simp; omega
  have h2 : k < xs.toList.length:=by simpa using hk
  have:=List.pairwise_iff_getElem.mp h i k h1 h2 hi
  rw [Array.getD_eq_getD_getElem?,Array.getD_eq_getD_getElem?,Array.getElem?_eq_getElem (show i < xs.size by omega),Array.getElem?_eq_getElem hk]
  simpa using this
theorem z9z {xs : Array Nat} (h : Up xs) (j : Nat) : ∀ (f lo hi : Nat),hi - lo≤f->lo≤hi->hi≤xs.size->(∀ i,i < lo->xs.getD i j < j)->(∀ i,hi≤i->i < xs.size->j≤xs.getD i j) →
    (∀ i,i < below.go xs j f lo hi->xs.getD i j < j)∧(∀ i,below.go xs j f lo hi≤i->i < xs.size->j≤xs.getD i j)∧below.go xs j f lo hi≤xs.size
  | 0,lo,hi,h1,h2,h3,h4,h5=>by
    unfold below.go
    have e : lo=hi:=by omega
    subst e
    exact ⟨h4,h5,h3⟩
  | f + 1,lo,hi,h1,h2,h3,h4,h5=>by
    unfold below.go
    by_cases hl : lo < hi
    · rw [if_pos hl]
      have hm1 : lo≤(lo + hi) / 2:=by omega
      have hm2 : (lo + hi) / 2 < hi:=by omega
      generalize (lo + hi) / 2=mid at hm1 hm2
      show _∧_∧_
      by_cases hx : xs.getD mid j < j
      · simp only [hx,if_true]
        refine z9z h j f (mid + 1) hi (by omega) (by omega) h3 (fun i hi'=>?_) h5
        rcases Nat.lt_or_ge i mid with z | z
        · exact Nat.lt_trans (up_le h z (by omega) j) hx
        · have : i=mid:=by omega
          rw [this]; exact hx
      · simp only [hx,if_false]
        refine z9z h j f lo mid (by omega) hm1 (by omega) h4 fun i h6 h7=>?_
        rcases Nat.lt_or_ge mid i with z | z
        · have:=up_le h z h7 j
          omega
        · have : i=mid:=by omega
          rw [this]; omega
    · rw [if_neg hl]
      have e : lo=hi:=by omega
      subst e
      exact ⟨h4,h5,h3⟩
theorem y1i {xs : Array Nat} (h : Up xs) (j : Nat) : (∀ i,i < below xs j->xs.getD i j < j)∧(∀ i,below xs j≤i->i < xs.size->j≤xs.getD i j)∧below xs j≤xs.size:=
  z9z h j xs.size 0 xs.size (by omega) (Nat.zero_le _) (Nat.le_refl _) (fun i hi=>absurd hi (by omega)) fun i h1 h2=>absurd h2 (by omega)
noncomputable def NL (t : SetTable) (j : Nat) : Prop:=t.place[below t.place j]?≠some j
theorem insert_up {xs : Array Nat} (h : Up xs) {j : Nat} (hn : xs[below xs j]?≠some j) : Up (insertAt xs (below xs j) j):=by
  obtain ⟨a,b,c⟩:=y1i h j
  unfold Up
  rw [toList_insertAt]
  generalize below xs j=p at *
  have gt : ∀ i (hi : i < xs.toList.length),xs.getD i j=xs.toList[i]:=fun i hi=>by
    rw [Array.getD_eq_getD_getElem?,Array.getElem?_eq_getElem (by simpa using hi)]
    simp
  have low : ∀ x∈xs.toList.take p,x < j:=fun x hx=>by
    obtain ⟨i,hi,rfl⟩:=List.mem_iff_getElem.mp hx
    rw [List.length_take] at hi
    rw [List.getElem_take,← gt i (by omega)]
    exact a i (by omega)
  have high : ∀ x∈xs.toList.drop p,j < x:=fun x hx=>by
    obtain ⟨i,hi,rfl⟩:=List.mem_iff_getElem.mp hx
    rw [List.length_drop] at hi
    rw [List.getElem_drop,← gt (p + i) (by omega)]
    have h1:=b (p + i) (by omega) (by simp at hi; omega)
    by_cases hi0 : i=0
    · subst hi0
      have h2 : xs[p]? = some (xs.getD p j):=by
        rw [Array.getD_eq_getD_getElem?,Array.getElem?_eq_getElem (by simp at hi; omega)]
        rfl
      have h3 : xs.getD p j≠j:=fun z=>hn (by rw [h2,z])
      rw [Nat.add_zero] at h1 ⊢
      omega
    · have h2:=up_le h (show p < p + i by omega) (by simp at hi; omega) j
      have h3:=b p (Nat.le_refl _) (by simp at hi; omega)
      omega
  refine List.pairwise_append.mpr ⟨h.sublist (List.take_sublist ..),List.pairwise_cons.mpr ⟨high,h.sublist (List.drop_sublist ..)⟩,fun x hx y hy=>?_⟩
  rcases List.mem_cons.mp hy with z | z
  · rw [z]; exact low x hx
  · exact Nat.lt_trans (low x hx) (high y z)
theorem y2z {t : SetTable} {j : Nat} (h : ∀ i,t.slot j≠.live i) : NL t j:=fun z=>by
  refine h (below t.place j) ?_
  unfold slot
  show (if (t.place[below t.place j]? == some j)=true then _ else _)=_
  rw [if_pos (by rw [z]; simp)]
theorem go_nl {t : SetTable} {ha : Nat->Int} {hh : Int} : ∀ {f : Nat} {p : Probe} {j : Nat} {d : Option Nat},(∀ x,p.dummy=some x->NL t x)->probe.go t ha hh f p=some (.empty j d)->NL t (d.getD j)
  | 0,p,j,d,hp,h=>by unfold probe.go at h; cases h
  | f + 1,p,j,d,hp,h=>by
    unfold probe.go at h
    have adv : ∀ q : Probe,(t.advance q).dummy=q.dummy:=fun q=>by
      unfold advance
      split <;> rfl
    cases e : t.slot p.j with
    | empty=>
      rw [e] at h
      cases h
      cases hd : p.dummy with
      | none=>
        refine y2z fun i z=>?_
        have z : t.slot p.j = .live i:=z
        rw [e] at z
        cases z
      | some x=>exact hp x hd
    | dummy=>
      rw [e] at h
      refine go_nl (fun x hx=>?_) h
      rw [adv] at hx
      cases hx
      exact y2z fun i z=>by rw [e] at z; cases z
    | live i=>
      rw [e] at h
      have h : (if (ha i == hh)=true then some (Met.candidate p.j i (t.advance p)) else probe.go t ha hh f (t.advance p))=some (.empty j d):=h
      split at h
      · cases h
      · exact go_nl (fun x hx=>hp x (by rw [adv] at hx; exact hx)) h
end SetTable
noncomputable def TI (t : SetTable) : Prop:=t.led=true∧(t.plain=true->SetTable.Up t.place)
theorem z3S {t : SetTable} {n : Nat} (h : TI t) : TI (t.standIn n):=⟨h.1,fun z=>by cases z⟩
theorem z8E {t : SetTable} {n : Nat} (h : TI t) : TI (t.orStandIn n):=by
  unfold SetTable.orStandIn
  split
  · exact h
  · exact z3S h
theorem y3o {t : SetTable} {es : Array (Int × Value)} {h : Int} {x : Value} (ht : TI t) : TI (layNew t es h x).2.1:=by
  unfold layNew
  cases e : t.freeSlot h with
  | none=>exact z3S ht
  | some z=>
    obtain ⟨slot,wd⟩:=z
    have nl : SetTable.NL t slot:=by
      unfold SetTable.freeSlot at e
      split at e
      · rename_i j d ep
        cases e
        exact SetTable.go_nl (fun x hx=>by cases hx) ep
      · cases e
    show TI ((t.put slot).1.orStandIn _)
    refine z8E ⟨ht.1,fun hp=>?_⟩
    exact SetTable.insert_up (ht.2 hp) nl
theorem z9p {f : Nat->Option Nat} : ∀ l : List Nat,(l.filterMap fun j=>(f j).map fun z=>(j,z)).map (·.1)=l.filter fun j=>(f j).isSome
  | []=>rfl
  | j :: l=>by
    rw [List.filterMap_cons,List.filter_cons]
    cases e : f j with
    | none=>simpa [e] using z9p l
    | some z=>simpa [e] using z9p l
theorem z9x {t : SetTable} {es : Array (Int × Value)} {n : Nat} (ht : TI t) : TI (relayAll t es n).2.1:=by
  unfold relayAll
  cases e : t.relaid (es.map (·.1)) n with
  | none=>exact z3S ht
  | some z=>
    obtain ⟨t',order⟩:=z
    show TI (if _ then _ else _ : Array (Int × Value) × SetTable × Bool).2.1
    split
    · unfold SetTable.relaid SetTable.laid at e
      cases ho : SetTable.layClean (SetTable.sizeAbove n - 1) (es.map (·.1)) with
      | none=>rw [ho] at e; cases e
      | some ow=>
        rw [ho] at e
        cases e
        refine ⟨ht.1,fun _=>?_⟩
        unfold SetTable.Up
        show List.Pairwise _ (((List.range _).filterMap fun j=>(ow.getD j none).map fun z=>(j,z)).map (·.1))
        rw [z9p]
        exact List.Pairwise.filter _ List.pairwise_lt_range
    · exact z3S ht
theorem y5u : TI (SetTable.fresh 0 0 true):=⟨rfl,fun _=>List.Pairwise.nil⟩
end PySem
namespace PySem
section
variable {prog : Program} {w : World} {K : Type} [DecidableEq K] (knd : KeyKind prog w K)
noncomputable def Heap.SetW (g : Heap) (a : Addr) (S : K->Bool) (n : Nat) : Prop:=
  ∃ ob xs ep tb,g.get? a=some ob∧ob.ExactSet∧ob.data = .set xs ep tb∧ElemsOf knd xs.toList∧(∀ k,S k=true↔∃ e∈xs.toList,knd.is k e.2=true)
    ∧ xs.size < scanBound∧tb.fits xs.size=true∧xs.size=n∧(w.params.followText "set-order" = true∨TI tb)
variable {knd} {A : Around} {E : Value->Shared->Prop} {s : Shared}
theorem z7i {g : Heap} {a : Addr} {ob : Obj} {xs ys : Array (Int × Value)} {ep : Nat} {tb tc : SetTable} {S' : K->Bool} (g1 : g.get? a=some ob) (g2 : ob.ExactSet) (g3 : ob.data = .set xs ep tb)
    (k1 : ElemsOf knd ys.toList) (k2 : ∀ k,S' k=true↔∃ e∈ys.toList,knd.is k e.2=true) (k3 : ys.size < scanBound) (k4 : tc.fits ys.size=true) (k5 : w.params.followText "set-order" = true∨TI tc) :
    (g.update a (Obj.putSet ys tc)).get? a=some { ob with data:=.set ys (ep + 1) tc }∧(g.update a (Obj.putSet ys tc)).SetW knd a S' ys.size:=by
  obtain ⟨e1,_⟩:=SetOf_store (knd:=knd) g1 g2 g3 k1 k2 k3 k4
  exact ⟨e1,_,ys,ep + 1,tc,e1,g2,rfl,k1,k2,k3,k4,rfl,k5⟩
theorem y0Q {gw : Bool->Sem Unit} (hgw : ∀ (b : Bool) (s₁ : Shared) (Q' : Unit->Shared->Prop),Q' () s₁->wpAny (model prog w) A (gw b) Q' E s₁)
    {a : Addr} {ob : Obj} {xs ys : Array (Int × Value)} {ep : Nat} {tb tc : SetTable} {S' : K->Bool} (g1 : s.heap.get? a=some ob) (g2 : ob.ExactSet) (g3 : ob.data = .set xs ep tb)
    (k1 : ElemsOf knd ys.toList) (k2 : ∀ k,S' k=true↔∃ e∈ys.toList,knd.is k e.2=true) (k3 : ys.size < scanBound) (k4 : tc.fits ys.size=true) (k5 : w.params.followText "set-order" = true∨TI tc) {wd : Bool} {R : Option Bool->Shared->Prop}
    (fin : ∀ g',Heap.SameBut a s.heap g'->g'.SetW knd a S' ys.size->R (some true) { s with heap:=g' }) :
    wpAny (model prog w) A (do
        storeSet a ys tc
        if (!wd && tc.tooFull)=true then do
            gw (relayAll tc ys (SetTable.grown ys.size)).2.2
            storeSet a (relayAll tc ys (SetTable.grown ys.size)).1 (relayAll tc ys (SetTable.grown ys.size)).2.1
            pure (some true)
          else pure (some true)) R E s:=by
  refine wpAny_bind (wpAny_storeSet_of g1 g3 ?_ (fits_of_scanBound k3))
  obtain ⟨o1,w1⟩:=z7i (knd:=knd) g1 g2 g3 k1 k2 k3 k4 k5
  have sb:=Heap.SameBut.update s.heap a (Obj.putSet ys tc)
  split
  · have rp:=relayAll_perm tc ys (SetTable.grown ys.size)
    have rf:=relayAll_fits tc ys (SetTable.grown ys.size)
    have rt : w.params.followText "set-order" = true∨TI (relayAll tc ys (SetTable.grown ys.size)).2.1:=k5.imp id z9x
    generalize relayAll tc ys (SetTable.grown ys.size)=Z at rp rf rt ⊢
    obtain ⟨zs,td,gv⟩:=Z
    dsimp only at rp rf rt ⊢
    have m1 : ElemsOf knd zs.toList:=k1.perm rp
    have m2 : ∀ k',S' k'=true↔∃ e∈zs.toList,knd.is k' e.2=true:=fun k'=>(k2 k').trans ⟨fun ⟨e,he,q⟩=>⟨e,rp.mem_iff.mpr he,q⟩,fun ⟨e,he,q⟩=>⟨e,rp.mem_iff.mp he,q⟩⟩
    have sz : zs.size=ys.size:=by simpa using rp.length_eq
    have m3 : zs.size < scanBound:=sz ▸ k3
    refine wpAny_bind (hgw _ _ _ ?_)
    refine wpAny_bind (wpAny_storeSet_of o1 rfl ?_ (fits_of_scanBound m3))
    obtain ⟨_,w2⟩:=z7i (knd:=knd) o1 g2 rfl m1 m2 m3 rf rt
    rw [sz] at w2
    exact wpAny_pure (fin _ (sb.trans (Heap.SameBut.update _ a _)) w2)
  · exact wpAny_pure (fin _ sb w1)
theorem addW {a : Addr} {S : K->Bool} {n : Nat} {k : K} {x : Value} {Q : Bool->Shared->Prop} (kx : knd.is k x=true) (sx : x.scannable=true) (hS : s.heap.SetW knd a S n) (room : n + 1 < scanBound)
    (fin : ∀ g',Heap.SameBut a s.heap g'->g'.SetW knd a (fun k'=>S k' || decide (k'=k)) (if S k then n else n + 1)->Q (!S k) { s with heap:=g' }) :
    wpAny (model prog w) A (setAddHashed a x (knd.hash k)) Q E s:=by
  obtain ⟨ob,xs,ep,tb,g1,g2,g3,g4,g5,g6,g7,g8,g9⟩:=hS
  have room' : xs.size + 1 < scanBound:=by omega
  unfold setAddHashed setAddHashedIn
  refine wpAny_holding (wpAny_bind (wpAny_setState_of g1 g3 g7 ?_))
  dsimp only
  rw [byScan_of sx g6 g4]
  simp only [↓reduceIte]
  unfold setAddByScan
  refine wpAny_bind ?_
  refine wpAny_bind (wpAny_rule ?_)
  refine wpAny_bind (wpAny_setScan_of kx g1 g3 g7 g4 ?_)
  cases fi : List.findIdx? (fun e=>knd.is k e.2) xs.toList with
  | some j=>
    dsimp only
    obtain ⟨hj,hp,_⟩:=List.findIdx?_eq_some_iff_getElem.mp fi
    have yes : S k=true:=(g5 k).mpr ⟨xs.toList[j],List.getElem_mem hj,hp⟩
    refine wpAny_pure (wpAny_pure ?_)
    have z:=fin s.heap (Heap.SameBut.refl a s.heap) ⟨ob,xs,ep,tb,g1,g2,g3,g4,fun k'=>by
      rw [Bool.or_eq_true,decide_eq_true_eq,← g5 k']
      exact ⟨fun q=>q.elim id fun e=>e ▸ yes,.inl⟩,g6,g7,by rw [yes]; exact g8,g9⟩
    rw [yes] at z
    exact z
  | none=>
    dsimp only
    have no : S k=false:=by
      rw [← Bool.not_eq_true]
      intro hk
      obtain ⟨e,he,hp⟩:=(g5 k).mp hk
      have:=List.findIdx?_eq_none_iff.mp fi e he
      rw [hp] at this
      cases this
    have gw : ∀ (b : Bool) (s₁ : Shared) (Q' : Unit->Shared->Prop),Q' () s₁->wpAny (model prog w) A (match b with | true=>rule "set.scan.the-table-gave-way" | false=>pure ()) Q' E s₁:=by
      intro b s₁ Q' hq
      cases b
      · exact wpAny_pure hq
      · exact wpAny_rule hq
    have lp:=layNew_perm tb xs (knd.hash k) x
    have lf:=layNew_fits tb xs (knd.hash k) x
    have lt : w.params.followText "set-order" = true∨TI (layNew tb xs (knd.hash k) x).2.1:=g9.imp id y3o
    generalize layNew tb xs (knd.hash k) x=L at lp lf lt ⊢
    obtain ⟨ys,tc,wd,gv⟩:=L
    dsimp only at lp lf lt ⊢
    rw [Array.toList_push] at lp
    have m1 : ElemsOf knd ys.toList:=(g4.push kx sx).perm lp
    have m2 : ∀ k',(S k' || decide (k'=k))=true↔∃ e∈ys.toList,knd.is k' e.2=true:=mem_push_iff kx g5 lp
    have m0 : ys.size=n + 1:=by
      have:=lp.length_eq
      simp at this
      omega
    have m3 : ys.size < scanBound:=by omega
    refine wpAny_bind (gw _ _ _ ?_)
    have done : ∀ g',Heap.SameBut a s.heap g'->g'.SetW knd a (fun k'=>S k' || decide (k'=k)) ys.size->Q true { s with heap:=g' }:=fun g' sb z=>by
      have:=fin g' sb
      rw [no] at this
      rw [m0] at z
      exact this z
    split
    · refine wpAny_bind ?_
      rw [hashByValue_scannable 8 sx]
      refine wpAny_pure ?_
      refine y0Q gw g1 g2 g3 m1 m2 m3 ?_ ?_ fun g' sb z=>wpAny_pure (done g' sb z)
      · split
        · exact lf
        · exact SetTable.fits_plain_off lf
      · split
        · exact lt
        · exact lt.imp id fun z=>⟨z.1,fun q=>by cases q⟩
    · refine wpAny_bind (wpAny_pure ?_)
      simp only [↓reduceIte]
      exact y0Q gw g1 g2 g3 m1 m2 m3 lf lt fun g' sb z=>wpAny_pure (done g' sb z)
end
section
variable {prog : Program} {w : World} {A : Around} {R : Result->Shared->Prop} {I : Addr} {fp wr : List Addr} {G : Array GenState->Array GenState->Prop} {n : Nat} {P : Nat->Value->Prop} {St : Nat->Shared->Prop}
open PyProof.Rows in
theorem updateW (W : WalksS prog w A.in1 I fp wr G n P St) (a : Addr) (af : a ∉ fp) (val : Nat->Int) (hv : ∀ i v,P i v->∃ t,v = .int (val i) t) (hb : n + 1 < scanBound) :
    ∀ (k i : Nat) (s : Shared),n - i=k->i≤n->St i s->s.heap.SetW (intKind prog w) a (fun z=>(firstMet val i).any (· == z)) (firstMet val i).length →
      (∀ s',Moved (a :: wr) G s s'->s'.heap.SetW (intKind prog w) a (fun z=>(firstMet val n).any (· == z)) (firstMet val n).length->R (.ok (.ret .none)) s') →
      codeAny (model prog w) A (.builtin "set.update.loop" ⟨[.ref a,.ref I],[]⟩) R s:=by
  have aw : a ∉ wr:=fun z=>af (W.sub _ z)
  have sub : ∀ b∈wr,b∈a :: wr:=fun b z=>List.mem_cons_of_mem _ z
  have keep : ∀ {s s' : Shared} {S : Int->Bool} {m : Nat},Moved wr G s s'->s.heap.SetW (intKind prog w) a S m->s'.heap.SetW (intKind prog w) a S m:=fun {s s' S m} mv ⟨ob,xs,ep,tb,g1,g⟩=>⟨ob,xs,ep,tb,mv.heap a _ aw g1,g⟩
  intro k
  induction k with
  | zero=>
    intro i s hk hi st hS fin
    obtain rfl : i=n:=by omega
    refine codeAny_builtin F.entry_set_update_loop ?_
    rw [Around.under_plainId F.plain_set_update_loop _]
    show wpAny _ A.in1 (pyNext (.ref I) >>= _) _ _ s
    refine wpAny_bind (W.done s _ _ st fun s' mv=>?_)
    show wpAny _ A.in1 (ret Value.none) _ _ s'
    exact wpAny_pure (fin s' (mv.mono sub) (keep mv hS))
  | succ k ih=>
    intro i s hk hi st hS fin
    have lt : i < n:=by omega
    refine codeAny_builtin F.entry_set_update_loop ?_
    rw [Around.under_plainId F.plain_set_update_loop _]
    show wpAny _ A.in1 (pyNext (.ref I) >>= _) _ _ s
    refine wpAny_bind (W.item i s _ _ lt st fun v s' hP st' mv=>?_)
    obtain ⟨t,rfl⟩:=hv i v hP
    show wpAny _ A.in1 (holding [Value.int (val i) t] (setAdd a (.int (val i) t)) >>= _) _ _ s'
    refine wpAny_bind (wpAny_holding ?_)
    unfold setAdd
    refine wpAny_holding ?_
    refine wpAny_bind ((intKind prog w).pyHash (k:=val i) (intKind_is _ _ _ _) ?_)
    have room : (firstMet val i).length + 1 < scanBound:=by have:=firstMet_length_le val i; omega
    refine addW (knd:=intKind prog w) (s:={ s' with toks:=s'.toks + 1 }) (intKind_is _ _ _ _) rfl (show s'.heap.SetW _ a _ _ from keep mv hS) room fun g' sb w2=>?_
    have w3 : g'.SetW (intKind prog w) a (fun z=>(firstMet val (i + 1)).any (· == z)) (firstMet val (i + 1)).length:=by
      have e1 : (fun z=>(firstMet val i).any (· == z) || decide (z=val i))=fun z=>(firstMet val (i + 1)).any (· == z):=funext fun z=>by rw [firstMet_succ,step_any]
      have e2 : (if ((firstMet val i).any (· == val i))=true then (firstMet val i).length else (firstMet val i).length + 1)=(firstMet val (i + 1)).length:=by rw [firstMet_succ,step_length]
      rw [e1,e2] at w2
      exact w2
    refine wpAny_pure ⟨plainId_quiet F.plain_set_update_loop _,ih (i + 1) _ (by omega) lt (W.frame _ s' _ _ st' (Nat.le_succ _) fun b hb o e=>?_) w3 fun s2 mv2 w4=>?_⟩
    · rw [sb.2 b fun z=>af (z ▸ hb)]
      exact e
    · refine fin s2 (Moved.trans W.gtrans ((mv.mono sub).then_heap (Nat.le_succ _) fun b o hb e=>?_) mv2) w4
      rw [sb.2 b fun z=>hb (z ▸ List.mem_cons_self)]
      exact e
end
end PySem
namespace PySem
section
variable {prog : Program} {w : World} {A : Around} {E : Value->Shared->Prop} {s : Shared}
open PyProof.Rows in
theorem y5d (a : Value) {Q₁ : Value->Shared->Prop}
    (h : Q₁ (.ref s.heap.objs.size) { s with heap:=s.heap.push { cls:=.type "set",dict:=none,data:=.set #[] 0 (.fresh 0 0 (!w.params.followText "set-order")) } }) :
    codeAny (model prog w) A (.call (.builtin "set.__new__") ⟨[.type "set",a],[]⟩) (wants Q₁ E) s:=by
  refine codeAny_of_tree ?_
  show wpAny _ A.in1 (do checkBuiltinCall "set.__new__" ⟨[.type "set",a],[]⟩; again (.builtin "set.__new__" ⟨[.type "set",a],[]⟩)) _ _ s
  refine wpAny_bind (wpAny_of_eq (F.newCall_set_1 a) (wpAny_pure ⟨plainId_quiet F.plain_set_new _,codeAny_builtin F.entry_set_new ?_⟩))
  rw [Around.under_plainId F.plain_set_new _]
  unfold Builtin.«set.__new__» Builtin.Frozenset.newClass
  have hsub:=sub_set_self
  obtain ⟨hp,g,d,tk,os⟩:=s
  dsimp only
  wp_walk
  refine wpAny_askSetting (wpAny_pure ?_)
  dsimp only
  simp only [newObj]
  refine wpAny_bind (wpAny_alloc (wpAny_pure ?_))
  exact wpAny_pure h
set_option maxHeartbeats 3200000 in
open PyProof.Rows in
end
end PySem
namespace PySem
section
variable {M : Model} {A : Around} {E : Value->Shared->Prop} {s : Shared}
end
section
variable {prog : Program} {w : World} {A : Around} {E : Value->Shared->Prop} {s : Shared}
end
end PySem
namespace PySem
section
variable {prog : Program} {w : World} {A : Around} {E : Value->Shared->Prop} {s : Shared}
end
end PySem
namespace PySem
section
variable {prog : Program} {w : World} {A : Around} {E : Value->Shared->Prop} {s : Shared}
end
end PySem
namespace PySem
open Sem (wp)
section
variable {K : Type} [DecidableEq K] {prog : Program} {w : World} {knd : KeyKind prog w K} {A : Around} {E : Value->Shared->Prop} {s : Shared}
end
end PySem
namespace L2
open PySem PySem.Spec PyProof.Rows
noncomputable def ddI (ns : List Int) : List Int:=ns.foldl (fun acc n=>if acc.any (· == n) then acc else acc ++ [n]) []
theorem y0M (ns : List Int) : firstMet (fun i=>ns.getD i 0) ns.length=ddI ns:=by
  unfold firstMet ddI
  have e : (List.range ns.length).map (fun i=>ns.getD i 0)=ns:=by
    apply List.ext_getElem
    · simp
    · intro i h1 h2
      simp [List.getD,List.getElem?_eq_getElem h2]
  rw [e]
  rfl
theorem z7t : ∀ (ns acc : List Int),acc.Nodup->(ns.foldl (fun acc n=>if acc.any (· == n) then acc else acc ++ [n]) acc).Nodup∧∀ x,x∈ns.foldl (fun acc n=>if acc.any (· == n) then acc else acc ++ [n]) acc↔x∈acc∨x∈ns
  | [],acc,h=>⟨h,fun x=>by simp⟩
  | n :: ns,acc,h=>by
    rw [List.foldl_cons]
    by_cases hn : acc.any (· == n)=true
    · rw [if_pos hn]
      obtain ⟨a,b⟩:=z7t ns acc h
      refine ⟨a,fun x=>?_⟩
      rw [b x,List.mem_cons]
      have : n∈acc:=by simpa using hn
      constructor
      · rintro (z | z)
        · exact .inl z
        · exact .inr (.inr z)
      · rintro (z | z | z)
        · exact .inl z
        · exact .inl (z ▸ this)
        · exact .inr z
    · rw [if_neg hn]
      have hn' : n ∉ acc:=by simpa using hn
      obtain ⟨a,b⟩:=z7t ns (acc ++ [n]) (List.nodup_append.mpr ⟨h,by simp,fun x hx y hy z=>by rw [List.mem_singleton] at hy; subst hy; exact hn' (z ▸ hx)⟩)
      refine ⟨a,fun x=>?_⟩
      rw [b x,List.mem_append,List.mem_singleton,List.mem_cons,or_assoc]
theorem y4R (ns : List Int) : (ddI ns).Nodup:=(z7t ns [] List.nodup_nil).1
theorem dd_mem {ns : List Int} {x : Int} : x∈ddI ns↔x∈ns:=by
  have:=(z7t ns [] List.nodup_nil).2 x
  unfold ddI
  rw [this]
  simp
theorem y2O (ns : List Int) : (ddI ns).length≤ns.length:=by
  rw [← y0M]
  exact firstMet_length_le _ _
section
variable {prog : Program} {w : World} {A : Around} {E : Value->Shared->Prop} {s : Shared}
end
section
variable {X : Cx} {e : Expr} {te : TE} {p p' pos pos' : Pos}
theorem y6l : bootBuiltins "set" = some (.type "set"):=by kernel_rfl
variable {f : DE}
end
end L2
namespace L2
open PySem PySem.Spec PyProof.Rows
section
variable {X : Cx} {a b : Expr} {pos : Pos} {f g : DE}
end
end L2
namespace L2
open PySem PySem.Spec PyProof.Rows
section
variable {X : Cx} {e : Expr} {p p2 pos : Pos}
end
end L2
namespace L2
open PySem PySem.Spec PyProof.Rows
section
variable {X : Cx} {e : Expr} {te : TE} {p p' pos pos' : Pos}
variable {f : DE}
end
end L2
namespace L2
open PySem PySem.Spec PyProof.Rows
section
variable {X : Cx} {a b : Expr} {pos : Pos} {f g : DE}
noncomputable def rCatU (K : PySem.W.Frag) : R2:=fun x y H Q=>∃ l b xs zs,x = .ref l∧y = .ref b∧SqT K H l xs∧SqT K H b zs∧xs.length + zs.length≤sizeLine∧(xs=[]->Q (.ref b) H)∧(xs≠[]->zs=[]->Q (.ref l) H)∧(xs≠[]->zs≠[]->∀ p,H p=none->Q (.ref p) (upd H p (.tup (xs ++ zs))))
theorem op_catU : OpR X (binaryOp .Add) (rCatU X.K):=by
  intro pins s σ H x y v u Q I rx ry h
  obtain ⟨l,b,xs,zs,rfl,rfl,hH,hB,hz,q0,q1,q2⟩:=h
  cases rx
  cases ry
  obtain ⟨its,o1,n1,r,e1,c1,d1,g1,z1⟩:=I.tupleO hH
  obtain ⟨its2,o2,n2,r2,e2,c2,d2,g2,z2⟩:=I.tupleO hB
  have hl:=r.length
  have hl2:=r2.length
  obtain ⟨cls,dd,data,sl⟩:=o1
  obtain ⟨cls2,dd2,data2,sl2⟩:=o2
  simp only at c1 d1 g1 c2 d2 g2
  subst c1 d1 g1 c2 d2 g2
  by_cases h1 : xs=[]
  · refine concat_meets ⟨_,e1,rfl⟩ ⟨_,e2,rfl⟩ noFill_tuple_add seq_tuple_add PySem.F.slot_tuple_add PySem.F.entry_tuple_add (PySem.F.args_tuple_add_2 _ _) (tuple_addW0 l b its.toArray its2.toArray n1 n2 none none sl sl2 ?_) ⟨e1,e2,?_⟩
    · rw [h1] at hl
      have : its=[]:=List.length_eq_zero_iff.mp hl.symm
      rw [this]
      rfl
    · exact ⟨.ref b,H,I,rfl,q0 h1⟩
  · have hi1 : ¬ its.toArray.isEmpty=true:=fun z=>h1 (by
      have : its=[]:=by simpa using z
      rw [this] at hl
      exact List.length_eq_zero_iff.mp hl)
    by_cases h2 : zs=[]
    · refine concat_meets ⟨_,e1,rfl⟩ ⟨_,e2,rfl⟩ noFill_tuple_add seq_tuple_add PySem.F.slot_tuple_add PySem.F.entry_tuple_add (PySem.F.args_tuple_add_2 _ _) (tuple_addW1 l b its.toArray its2.toArray n1 n2 none none sl sl2 hi1 ?_) ⟨e1,e2,?_⟩
      · rw [h2] at hl2
        have : its2=[]:=List.length_eq_zero_iff.mp hl2.symm
        rw [this]
        rfl
      · exact ⟨.ref l,H,I,rfl,q1 h1 h2⟩
    · have hi2 : ¬ its2.toArray.isEmpty=true:=fun z=>h2 (by
        have : its2=[]:=by simpa using z
        rw [this] at hl2
        exact List.length_eq_zero_iff.mp hl2)
      refine concat_meets ⟨_,e1,rfl⟩ ⟨_,e2,rfl⟩ noFill_tuple_add seq_tuple_add PySem.F.slot_tuple_add PySem.F.entry_tuple_add (PySem.F.args_tuple_add_2 _ _) (tuple_addW2 l b its.toArray its2.toArray n1 n2 none none sl sl2 hi1 hi2 (by rw [List.size_toArray,List.size_toArray]; omega)) ⟨e1,e2,?_⟩
      have ea : its.toArray ++ its2.toArray=(its ++ its2).toArray:=by simp
      rw [ea]
      refine ⟨.ref s.heap.objs.size,_,I.laid (t':=s.toks) (o:=.tup (xs ++ zs)) (fun b ob q=>Heap.get?_push_of_some _ q) (Nat.le_refl _) ?_,rfl,q2 h1 h2 _ (I.hok.fresh (Nat.le_refl _))⟩
      exact ⟨by rw [List.length_append]; omega,_,r.append r2,TupN.new _ _⟩
noncomputable def catT : D->D->Option D
  | .tup ds,.tup es=>if ds.length + es.length≤sizeLine then some (.tup (ds ++ es)) else none
  | _,_=>none
theorem y2a (ha : PD X a f) (hb : PD X b g) : PD X (.BinOp a .Add b pos) (d2 catT f g):=(pe_op op_catU ha hb).imp fun σ H Q z_=>by
  obtain ⟨B,δ,d,hB,S,q,k⟩:=z_
  obtain ⟨x,y,e1,e2,e3⟩:=z6k q
  unfold catT at e3
  split at e3
  case h_2=>cases e3
  case h_1 ds es=>
  split at e3
  case isFalse=>cases e3
  case isTrue hl=>
  cases e3
  refine ⟨B,δ,_,hB,S,e1,fun v H1 s1 r1=>⟨B,δ,_,hB.mono s1,S.mono s1,e2,fun v2 H2 s2 r2=>?_⟩⟩
  unfold Rep at r1 r2
  obtain ⟨p1,vs,rfl,h1,rs1⟩:=r1
  obtain ⟨p2,ws,rfl,h2,rs2⟩:=r2
  have l1:=rs1.length
  have l2:=rs2.length
  refine ⟨p1,p2,vs,ws,rfl,rfl,s2.tup h1,h2,by rw [← l1,← l2]; exact hl,fun z=>?_,fun z1 z=>?_,fun z1 z2 p hp=>?_⟩
  · have hd : ds=[]:=List.length_eq_zero_iff.mp (by rw [l1,z]; rfl)
    refine k _ _ (s1.trans s2) ?_
    rw [hd,List.nil_append]
    unfold Rep
    exact ⟨p2,ws,rfl,h2,rs2⟩
  · have he : es=[]:=List.length_eq_zero_iff.mp (by rw [l2,z]; rfl)
    refine k _ _ (s1.trans s2) ?_
    rw [he,List.append_nil]
    unfold Rep
    exact ⟨p1,vs,rfl,s2.tup h1,rs1.mono s2⟩
  · have sp:=z0q (o:=.tup (vs ++ ws)) hp
    refine k _ _ ((s1.trans s2).trans sp) ?_
    unfold Rep
    exact ⟨p,vs ++ ws,rfl,SqT.of z0o,((rs1.mono s2).append rs2).mono sp⟩
end
end L2
namespace L2
open PySem PySem.Spec PyProof.Rows
section
variable {X : Cx} {c : Expr} {a b : List Stmt} {p2 pos : Pos} {H0 : Hp} {B0 : Addr->Prop} {fr : Bool} {RX : XR} {F : DS->Option XO} {g h : SS->Option Out}
end
end L2
namespace L2
open PySem PySem.Spec PyProof.Rows
section
variable {X : Cx} {x : Str} {C : Addr} {np cpos : Pos} {e₀ : Expr} {te : TE} {f : DE}
end
end L2
namespace L2
open PySem PySem.Spec PyProof.Rows
section
variable {X : Cx} {pos : Pos} {H0 : Hp} {B0 : Addr->Prop} {fr : Bool} {RX : XR} {F : DS->Option XO}
end
end L2
namespace L2
open PySem PySem.Spec PyProof.Rows
section
variable {P : Program} {w : World} {K : PySem.W.Frag} {mg : Str->Option Value} {base : Heap}
end
section
variable {X : Cx} {k : Nat} {x : Str} {p pos : Pos} {e e' : Expr} {es : List Expr}
variable {H0 : Hp} {B0 : Addr->Prop} {RX : XR} {a : Expr} {pos' : Pos}
end
end L2
namespace L2
open PySem PySem.Spec PyProof.Rows
section
variable {K : PySem.W.Frag} {H0 H : Hp} {B0 : Addr->Prop} {σ : St} {δ : SS} {R : Nat->List Addr}
end
section
variable {X : Cx} {H0 : Hp} {B0 : Addr->Prop} {fr : Bool} {RX : XR} {e : Expr} {pos ap cp : Pos} {x : Str} {px : Pos}
end
section
variable {X : Cx} {pos : Pos}
variable {H0 : Hp} {B0 : Addr->Prop} {fr : Bool} {RX : XR}
@[irreducible] def PSb (X : Cx) (st : Stmt) (t : TS) : Prop:=PS X st t
@[irreducible] def PSsb (X : Cx) (st : List Stmt) (t : TS) : Prop:=PSs X st t
end
section
variable {P : Program} {w : World} {K : PySem.W.Frag} {mg : Str->Option Value} {base : Heap}
end
end L2
namespace L2
open PySem PySem.Spec PyProof.Rows
section
variable {X : Cx} {H0 : Hp} {B0 : Addr->Prop} {fr : Bool} {RX : XR} {x : Str} {px p2 ap cp pos : Pos} {ke : Expr} {fk : DE}
end
end L2
namespace L2
open PySem PySem.Spec PyProof.Rows
section
variable {X : Cx} {H0 : Hp} {B0 : Addr->Prop} {fr : Bool} {RX : XR} {e : Expr} {f : DE} {pos ap cp : Pos} {x : Str} {px : Pos}
end
section
variable {X : Cx} {pos : Pos}
variable {H0 : Hp} {B0 : Addr->Prop} {fr : Bool} {RX : XR}
end
end L2
namespace L2
open PySem PySem.Spec PyProof.Rows
section
variable {X : Cx} {e : Expr} {f : DE} {y z : Str} {p p2 p3 p4 pos : Pos} {x1 : Nat} {L M1 M2 N : List Str}
end
end L2
namespace L2
open PySem PySem.Spec PyProof.Rows
section
variable {X : Cx} {o e : Expr} {apos cpos : Pos}
end
section
variable {X : Cx} {H0 : Hp} {B0 : Addr->Prop} {fr : Bool} {RX : XR} {e ke : Expr} {pos : Pos} {x : Str} {px p2 : Pos}
end
end L2
namespace L2
open PySem PySem.Spec PyProof.Rows
section
variable {X : Cx} {H0 : Hp} {B0 : Addr->Prop} {fr : Bool} {RX : XR} {pos : Pos}
end
end L2
namespace L2
open PySem PySem.Spec PyProof.Rows
section
variable {K : PySem.W.Frag} {H : Hp} {B : Addr->Prop} {m : Addr} {xs : List V} {o : Obj}
end
section
variable {X : Cx} {H0 : Hp} {B0 : Addr->Prop} {fr : Bool} {RX : XR} {st : Stmt}
end
end L2
namespace L2
open PySem PySem.Spec PyProof.Rows
section
variable {K : PySem.W.Frag} {H : Hp} {B : Addr->Prop} {m : Addr} {xs : List V}
end
section
variable {K : PySem.W.Frag} {H0 H H' : Hp} {B0 : Addr->Prop} {σ : St} {δ : SS} {R : Nat->List Addr}
end
section
variable {X : Cx} {H0 : Hp} {B0 : Addr->Prop} {fr : Bool} {RX : XR} {st1 st2 : Stmt} {sts : List Stmt} {f : DE} {z : Int}
end
end L2
namespace L2
open PySem PySem.Spec PyProof.Rows
section
variable {P : Program} {w : World} {K : PySem.W.Frag} {mg : Str->Option Value} {base : Heap}
end
section
variable {X : Cx} {e : Expr} {pos ap cp p2 : Pos} {x : Str} {px : Pos} {f : DE} {z : Int} {ke : Expr}
end
end L2
namespace L2
open PySem PySem.Spec PyProof.Rows
section
variable {X : Cx}
variable {e : Expr} {f : DE} {p pos : Pos}
end
end L2
namespace L2
open PySem PySem.Spec PyProof.Rows
section
variable {X : Cx} {H0 : Hp} {B0 : Addr->Prop} {fr : Bool} {RX : XR} {e : Expr} {pos ap cp ap2 cp2 : Pos} {x y : Str} {px py : Pos}
end
end L2
namespace L2
open PySem PySem.Spec PyProof.Rows
section
variable {prog : Program} {w : World} {A : Around} {E : Value->Shared->Prop} {s : Shared} {it t : Addr} {i : Nat} {its : Array Value} {Q : Fin->Shared->Prop} {o ol : Obj} {n : Nat} {x : Value}
end
section
variable {prog : Program} {w : World} {A : Around} {E : Value->Shared->Prop} {s : Shared} {z TI TO i1 i2 : Addr} {a b : Value}
end
section
variable {prog : Program} {w : World} {A : Around} {E : Value->Shared->Prop} {s : Shared} {z TI TO i1 i2 : Addr} {a b : Value}
end
end L2
namespace L2
open PySem PySem.Spec PyProof.Rows
noncomputable def SIt (h : Heap) (tp : Bool) (it a : Addr) (i : Nat) : Prop:=if tp=true then h.IsTupleIter it a i else h.IsListIter it a i
section
variable {X : Cx} {pins : List (Addr × Obj)} {σ : St} {H : Hp} {s : Shared} {a : Addr} {xs ys : List V} {tp : Bool}
end
structure ZipAt (h : Heap) (tp : Bool) (a b z TI TO i1 i2 : Addr) (i : Nat) : Prop where
  zip : IsZip h z TI TO .none
  its : IsPair h TI (.ref i1) (.ref i2)
  out : ∃ u v,IsPair h TO u v
  one : SIt h tp i1 a i
  two : SIt h false i2 b i
end L2
namespace L2
open PySem PySem.Spec PyProof.Rows
section
variable {ob : Addr->Obj} {L : Addr->Bool} {H : Hp} {a : Addr}
end
section
variable {K : PySem.W.Frag} {ob : Addr->Obj} {L : Addr->Bool} {H0 H : Hp} {B B0 : Addr->Prop} {σ : St} {δ : SS} {R : Nat->List Addr}
end
section
variable {K : PySem.W.Frag} {ob : Addr->Obj} {L : Addr->Bool} {H : Hp}
end
section
variable {X : Cx} {H0 : Hp} {B0 : Addr->Prop} {fr : Bool} {RX : XR} {st : Stmt}
end
end L2
namespace L2
open PySem PySem.Spec PyProof.Rows
section
variable {X : Cx}
variable {a b : Expr} {f g : DE} {pos : Pos}
end
end L2
namespace PySem
section
variable {prog : Program} {w : World} {A : Around} {E : Value->Shared->Prop} {s : Shared}
set_option maxHeartbeats 3200000 in
open PyProof.Rows in
theorem y1V {t : Addr} {its : Array Value} {ns : List Int} {Q : Value->Shared->Prop} (hh : A.handled=none) (hl : s.heap.IsTuple t its) (hi : IntsAre its.toList ns) (hb : its.size + 1 < scanBound)
    (fin : ∀ (g' : Heap) (tk : Nat),g'.SetW (intKind prog w) s.heap.objs.size (fun z=>(firstMet (fun i=>ns.getD i 0) its.size).any (· == z)) (firstMet (fun i=>ns.getD i 0) its.size).length →
      (∀ b o,b < s.heap.objs.size->s.heap.get? b=some o->g'.get? b=some o)->Q (.ref s.heap.objs.size) { s with heap:=g',toks:=tk }) :
    wpAny (model prog w) A (call (.type "set") [.ref t]) Q E s:=by
  obtain ⟨c,tl,m1⟩:=F.called_set.mro
  have m2:=F.called_set.made
  have m3:=F.called_set.sub
  refine wpAny_call (codeAny_of_tree ?_)
  show wpAny _ _ (callAny (.type "set") _) _ _ _
  refine wpAny_pure ⟨Code.quiet_builtin _ (by decide +kernel),codeAny_builtin F.entry_type_call ?_⟩
  rw [Around.under_plain (weight_type_call_type "set" [.ref t] []) rfl]
  have m4:=F.called_set.notType
  have m5:=F.called_set.canCreate
  have m6:=F.typeCall_set_1 (.ref t)
  repeat (any_goals (first | assumption | wp_step))
  obtain ⟨ob,hob⟩ : ∃ ob : Obj,ob = { cls:=.type "set",dict:=none,data:=.set #[] 0 (.fresh 0 0 (!w.params.followText "set-order")) }:=⟨_,rfl⟩
  refine codeAny_mono (y5d (.ref t) (E:=E) (Q₁:=fun v s₁=>v = .ref s.heap.objs.size∧s₁ = { s with heap:=s.heap.push ob }) ⟨rfl,by rw [hob]⟩) fun r s₁ hr=>?_
  cases r with
  | error e=>exact hr
  | ok fl=>
    cases fl with
    | ret v=>
      obtain ⟨rfl,rfl⟩:=hr
      have p1 : (s.heap.push ob).get? s.heap.objs.size=some ob:=Heap.get?_push_size _ (by rw [hob]; rfl)
      have p2 : Shared.TypeIs { s with heap:=s.heap.push ob } (.ref s.heap.objs.size) "set" := ⟨_,p1,by rw [hob]⟩
      have p3:=F.called_set.init.lookup
      have p4:=F.called_set.init.bind (.ref s.heap.objs.size)
      repeat (any_goals (first | assumption | wp_step))
      refine codeAny_mono (codeAny_call_builtin (R:=wants (fun r s₂=>r = .none∧∃ g' tk,s₂ = { s with heap:=g',toks:=tk } ∧
          g'.SetW (intKind prog w) s.heap.objs.size (fun z=>(firstMet (fun i=>ns.getD i 0) its.size).any (· == z)) (firstMet (fun i=>ns.getD i 0) its.size).length ∧
          (∀ b o,b < s.heap.objs.size->s.heap.get? b=some o->g'.get? b=some o)) E) F.called_set.init.plain F.entry_set_init (check_set_init_1 p2 ?_)) fun r₂ s₂ hr₂=>?_
      · obtain ⟨ol,q1,q2,nl,q3⟩:=hl
        obtain ⟨ocls,odict,odata,oslots⟩:=ol
        simp only at q2 q3
        subst q2; subst q3
        have q4 : (s.heap.push ob).get? t=some { cls:=.type "tuple",dict:=odict,data:=.seq its nl,slots:=oslots }:=Heap.get?_push_of_some _ q1
        have q5:=F.sub_tuple_set
        have q6:=F.sub_tuple_frozenset
        have q7 : (Value.type "tuple" == Value.type "dict")=false:=by decide
        have q8 : (s.heap.push ob).IsTuple t its:=⟨_,q4,rfl,nl,rfl⟩
        unfold Builtin.«set.__init__» noKeywords Builtin.Frozenset.updateFrom
        generalize hPI : pyIter=PI
        rw [hob] at p1 p2 q4 q8 ⊢
        wp_walk
        subst hPI
        refine wpAny_pyIter_tuple q8 ?_
        refine wpAny_bind (wpAny_runValue ?_)
        have ls : t < s.heap.objs.size:=Heap.lt_size q1
        have hh3 : A.in1.in1.in1.handled=none:=by simp [hh]
        rw [← hob] at p1 q8 ⊢
        have ne1 : t≠(s.heap.push ob).objs.size:=by
          rw [Heap.size_push]
          exact Nat.ne_of_lt (Nat.lt_succ_of_lt ls)
        have af : s.heap.objs.size ∉ [(s.heap.push ob).objs.size,t]:=fun z=>by
          rw [Heap.size_push] at z
          rcases List.mem_cons.mp z with z | z
          · exact absurd z (Nat.ne_of_lt (Nat.lt_succ_self _))
          · exact absurd (List.mem_singleton.mp z) (Nat.ne_of_gt ls)
        refine updateW ((Walks.tuple hh3 _ t ne1 its).toS) s.heap.objs.size af (fun i=>ns.getD i 0) (fun i v hv=>IntsAre.int_at hi i v (by rw [Array.getElem?_toList]; exact hv)) hb (its.size - 0) 0 _ (by omega) (Nat.zero_le _)
          ⟨⟨_,Heap.get?_push_size _ rfl,rfl,rfl⟩,(q8.push _)⟩ ?h0 ?h1
        case h0=>
          have e1 : ((s.heap.push ob).push { cls:=.type "tuple_iterator",data:=.fields #[.ref t,.int 0 0] }).get? s.heap.objs.size=some ob:=Heap.get?_push_of_some _ p1
          refine ⟨ob,#[],0,.fresh 0 0 (!w.params.followText "set-order"),e1,by rw [hob]; exact ⟨rfl,rfl,rfl⟩,by rw [hob],(fun e he=>nomatch he),fun k=>?_,by decide,rfl,rfl,?_⟩
          · constructor
            · intro z; cases z
            · rintro ⟨e,he,_⟩; cases he
          · cases hf : w.params.followText "set-order" with
            | true=>exact .inl rfl
            | false=>exact .inr y5u
        case h1=>
          intro s' mv w1
          obtain ⟨g',gs,dr,tk',os'⟩:=s'
          have eg : gs=s.gens:=mv.gens
          have ed : dr=s.drawn:=mv.drawn
          have eo : os'=s.os:=mv.os
          subst eg; subst ed; subst eo
          refine wpAny_pure ?_
          show wpAny _ _ (ret Value.none) _ _ _
          refine wpAny_pure ⟨rfl,g',tk',rfl,w1,fun b o hb e=>?_⟩
          refine mv.heap b o (fun z=>?_) (Heap.get?_push_of_some _ (Heap.get?_push_of_some _ e))
          rcases List.mem_cons.mp z with z | z
          · exact absurd z (Nat.ne_of_lt hb)
          · rw [List.mem_singleton,Heap.size_push] at z
            exact absurd z (Nat.ne_of_lt (Nat.lt_succ_of_lt hb))
      · cases r₂ with
        | error e=>exact hr₂
        | ok fl₂=>
          cases fl₂ with
          | ret r=>
            obtain ⟨rfl,g',tk,rfl,w1,w2⟩:=hr₂
            repeat (any_goals (first | assumption | wp_step))
            exact fin _ _ w1 w2
          | _=>exact hr₂.elim
    | _=>exact hr.elim
end
end PySem
namespace L2
open PySem PySem.Spec PyProof.Rows
section
variable {X : Cx} {e : Expr} {te : TE} {p p' pos pos' : Pos}
noncomputable def tLT (K : PySem.W.Frag) (te : TE) : TE:=fun σ H Q=>te σ H fun x H1=>∃ (q : Addr) (ns : List Int),x = .ref q∧SqT K H1 q (ns.map V.int)∧ns.length≤1000∧Q (.int ((ddI ns).length : Int)) H1
theorem y1g (hc : X.calm=true) (hg : Gl X "len") (hm : X.mg "len" = none) (hg' : Gl X "set") (hm' : X.mg "set" = none) (ha : PE X e te)
    (he : starEach [e] X.env=[(false,eval e X.env)]:=by rfl) (he' : starEach [.Call (.Name "set" p') [e] [] pos'] X.env=[(false,eval (.Call (.Name "set" p') [e] [] pos') X.env)]:=by rfl) :
    PE X (.Call (.Name "len" p) [.Call (.Name "set" p') [e] [] pos'] [] pos) (tLT X.K te):=by
  intro pins s σ H Q I h
  refine wpAny_Call_Name_kw (z4J I hg hm PySem.boot_len (callWith_builtin1 ?_ he' rfl))
  rw [he']
  show wpAny _ _ (spliced [(false,eval (.Call (.Name "set" p') [e] [] pos') X.env)]) _ _ s
  refine Calls.spliced_cons (wpAny_Call_Name_kw (z4J I hg' hm' y6l (callWith_type1 ?_ he rfl)))
  rw [he]
  show wpAny _ _ (spliced [(false,eval e X.env)]) _ _ s
  refine Calls.spliced_cons (thn (ha pins s σ H _ I h) fun u s1 ⟨x,H1,I1,r1,q1⟩=>Calls.spliced_nil ?_)
  obtain ⟨q,ns,rfl,hq,h64,k⟩:=q1
  cases r1
  obtain ⟨its,rv,pl,hz⟩:=I1.tuple hq
  have hi:=z2X rv
  have hlen : its.length=ns.length:=by have:=rv.length; simpa using this.symm
  refine y1V (I1.ok.hd hc) (show s1.heap.IsTuple q its.toArray from pl) hi (by simp; unfold scanBound; omega) fun g' tk w1 w2=>Calls.spliced_nil ?_
  have esz : its.toArray.size=ns.length:=by simpa using hlen
  rw [esz,y0M] at w1
  obtain ⟨ob,xs,ep,tb,g1,g2,g3,g4,g5,g6,g7,g8,g9⟩:=w1
  have hdl:=y2O ns
  refine call_len_set g1 g2 g3 g7 (by omega) ?_
  have I2 : Inv X pins σ H1 { s1 with heap:=g',toks:=tk + 1 + 1 }:=I1.kept fun b o e=>w2 b o (Heap.lt_size e) e
  exact ⟨.int _,H1,I2,⟨_,by rw [g8]⟩,k⟩
noncomputable def y3t : D->Option D
  | .tup ds=>(z1h ds).bind fun ns=>if ns.length≤1000 then some (.int ((ddI ns).length : Int)) else none
  | _=>none
variable {f : DE}
theorem z7k (hc : X.calm=true) (hg : Gl X "len") (hm : X.mg "len" = none) (hg' : Gl X "set") (hm' : X.mg "set" = none) (ha : PD X e f)
    (he : starEach [e] X.env=[(false,eval e X.env)]:=by rfl) (he' : starEach [.Call (.Name "set" p') [e] [] pos'] X.env=[(false,eval (.Call (.Name "set" p') [e] [] pos') X.env)]:=by rfl) :
    PD X (.Call (.Name "len" p) [.Call (.Name "set" p') [e] [] pos'] [] pos) (d1 y3t f):=(y1g hc hg hm hg' hm' ha he he').imp fun σ H Q z_=>by
  obtain ⟨B,δ,d',hB,S,q,k⟩:=z_
  unfold d1 at q
  cases e1 : f δ with
  | none=>rw [e1] at q; cases q
  | some d=>
  rw [e1,Option.bind_some] at q
  refine ⟨B,δ,d,hB,S,e1,fun v H1 s1 r1=>?_⟩
  unfold y3t at q
  split at q
  · rename_i es
    cases e2 : z1h es with
    | none=>rw [e2] at q; cases q
    | some ns=>
      rw [e2,Option.bind_some] at q
      split at q
      · rename_i hl
        cases q
        unfold Rep at r1
        obtain ⟨a,xs,rfl,h,rs⟩:=r1
        rw [z2T e2 rs] at h
        exact ⟨a,ns,rfl,h,hl,k _ H1 s1 rfl⟩
      · cases q
  · cases q
theorem y2p (hc : X.calm=true) : z3Y X (.builtin "max") (fun xs H Q=>∃ (p : Addr) (ns : List Int),xs=[.ref p]∧SqT X.K H p (ns.map V.int)∧ns≠[]∧Q (.int (mxI ns)) H):=by
  intro pins s σ H xs us Q I r h
  obtain ⟨p,ns,rfl,hq,hne,q⟩:=h
  obtain ⟨u,rfl,ru⟩:=z6J r
  cases ru
  obtain ⟨its,rv,pl,hz⟩:=I.tuple hq
  have hi:=z2X rv
  obtain ⟨xs,hx⟩:=hi.allInts.items
  have ht : s.heap.IsTuple p (intItems xs):=hx ▸ (show s.heap.IsTuple p its.toArray from pl)
  have e1 : ns=xs.toList.map (·.1):=by
    rw [← nums_intItems,← hx]
    exact (show numsOf its.toArray.toList=ns from hi.numsOf).symm
  have hsz : xs.size=ns.length:=by rw [e1]; simp
  have hp : 0 < ns.length:=List.length_pos_iff.mpr hne
  have plt : p < s.heap.objs.size:=by obtain ⟨_,e,_⟩:=ht; exact Heap.lt_size e
  have en : ∀ k,numAt xs k=ns.getD k 0:=fun k=>by
    rw [e1]
    unfold numAt
    simp [List.getD]
  refine call_max_walk (wpAny_pyIter_tuple ht ⟨_,_,_,_,_,_,_,rfl,Walks.tuple (A:=X.A.in1) (I.ok.hd hc) _ p (Nat.ne_of_lt plt) (intItems xs),⟨⟨_,Heap.get?_push_size _ rfl,rfl,rfl⟩,ht.push _⟩,fun b hb=>?_,by simp [intItems]; omega,CmpOf.ints_gt (numAt xs) (fun _ _=>intItems_at),fun v h' tk hv hk=>?_⟩)
  · show b < (s.heap.push _).objs.size
    rw [Heap.size_push]
    rcases List.mem_cons.mp hb with z | z
    · rw [z]; exact Nat.lt_succ_self _
    · rw [List.mem_singleton.mp z]; exact Nat.lt_succ_of_lt plt
  · have eb : argBest (fun i j=>decide (numAt xs i > numAt xs j)) ((intItems xs).size - 1)=z8f ns (ns.length - 1):=by
      have : (intItems xs).size=ns.length:=by simp [intItems,hsz]
      rw [this]
      exact z6v (fun i j=>by rw [en,en]) _
    rw [eb] at hv
    obtain ⟨t,rfl⟩:=intItems_at hv
    have em : numAt xs (z8f ns (ns.length - 1))=mxI ns:=by
      unfold mxI
      rw [en]
    refine ⟨.int _,H,I.kept fun b o e=>hk b o (fun z=>?_) (Heap.get?_push_of_some _ e),⟨t,by rw [em]⟩,q⟩
    rw [List.mem_singleton.mp z] at e
    exact Nat.lt_irrefl _ (Heap.lt_size e)
noncomputable def y0c : List D->Option D
  | [.tup ds]=>(z1h ds).bind fun ns=>if ns.isEmpty=true then none else some (.int (mxI ns))
  | _=>none
theorem oa_maxT {K : PySem.W.Frag} : OpA K (fun xs H Q=>∃ (p : Addr) (ns : List Int),xs=[.ref p]∧SqT K H p (ns.map V.int)∧ns≠[]∧Q (.int (mxI ns)) H) y0c:=by
  intro H B ds d vs Q hB hr q k
  unfold y0c at q
  split at q
  · rename_i es
    cases e : z1h es with
    | none=>rw [e] at q; cases q
    | some bs=>
      rw [e,Option.bind_some] at q
      split at q
      · cases q
      · rename_i hn
        cases q
        obtain ⟨v,rfl,r⟩:=z3s hr
        unfold Rep at r
        obtain ⟨a,xs,rfl,h,rs⟩:=r
        rw [z2T e rs] at h
        exact ⟨a,bs,rfl,h,fun z=>hn (by rw [z]; rfl),k _ H (.refl H) rfl⟩
  · cases q
theorem y3G (hc : X.calm=true) (hg : Gl X "max") (hm : X.mg "max" = none) (h : PD X e f) (he : starEach [e] X.env=[(false,eval e X.env)]:=by rfl) : PD X (.Call (.Name "max" p) [e] [] pos) (z0k y0c [f]):=
  z3M (y2p hc) oa_maxT hg hm boot_max (z0a h z0e he) (by decide) (by decide) he rfl
noncomputable def mkD2 (a b c d : D) : Option D:=match a,c with
  | .str x,.str y=>if x≠y∧b.imm=true∧d.imm=true then some (.dct [.inr x,.inr y] [b,d]) else none
  | _,_=>none
noncomputable def y0s (fa fb fc fd : DE) : DE:=fun δ=>(fa δ).bind fun a=>(fb δ).bind fun b=>(fc δ).bind fun c=>(fd δ).bind fun d=>mkD2 a b c d
end
end L2
namespace L2
open PySem PySem.Spec PyProof.Rows
section
variable {X : Cx} {ka va kb vb : Expr} {pos : Pos} {fa fb fc fd : DE}
theorem y6h (h1 : PD X ka fa) (h2 : PD X va fb) (h3 : PD X kb fc) (h4 : PD X vb fd) : PN X (.Dict [some ka,some kb] [va,vb] pos) (y0s fa fb fc fd):=(pe_disp (y0m h1 h2 (y0m h3 h4 pps_nil)) rfl rfl (by simp) (by simp)).imp fun σ H Q z_=>by
  obtain ⟨δ,d,S,q,kk⟩:=z_
  unfold y0s at q
  obtain ⟨a,e1,q1⟩:=Option.bind_eq_some_iff.mp q
  obtain ⟨b,e2,q2⟩:=Option.bind_eq_some_iff.mp q1
  obtain ⟨c,e3,q3⟩:=Option.bind_eq_some_iff.mp q2
  obtain ⟨d',e4,q4⟩:=Option.bind_eq_some_iff.mp q3
  clear q q1 q2 q3
  have q:=q4
  clear q4
  unfold mkD2 at q
  split at q
  case h_2=>cases q
  case h_1 x y=>
  split at q
  case isFalse=>cases q
  case isTrue hz=>
  cases q
  obtain ⟨hxy,ib,id⟩:=hz
  intro p hp
  have s0 : Same H (upd H p (.dK [])):=z0q hp
  refine ⟨noB,δ,_,.no,S.mono s0,e1,fun v1 H2 s2 r1=>⟨noB,δ,_,.no,(S.mono s0).mono s2,e2,fun v2 H3 s3 r2=>⟨noB,δ,_,.no,((S.mono s0).mono s2).mono s3,e3,fun v3 H4 s4 r3=>⟨noB,δ,_,.no,(((S.mono s0).mono s2).mono s3).mono s4,e4,fun v4 H5 s5 r4=>?_⟩⟩⟩⟩
  have s05 : Same H H5:=(((s0.trans s2).trans s3).trans s4).trans s5
  have hp5 : H5 p=some (.dK []):=s5 _ _ (s4 _ _ (s3 _ _ (s2 _ _ z0o)))
  have er1 : v1=kV (.inr x):=by unfold Rep at r1; exact r1
  have er3 : v3=kV (.inr y):=by unfold Rep at r3; exact r3
  have t2 : Tree X.K (upd H5 p (.dK [(.inr x,v2),(.inr y,v4)])) b v2 []:=by
    have t:=Rep.immTree b ib (((r2.mono s4).mono s5))
    exact Tree.keep (Keep.upd (B:=fun a=>a=p) rfl (by rw [hp5]; exact True.intro)).i b t fun _ ha=>nomatch ha
  have t4 : Tree X.K (upd H5 p (.dK [(.inr x,v2),(.inr y,v4)])) d' v4 []:=by
    have t:=Rep.immTree d' id r4
    exact Tree.keep (Keep.upd (B:=fun a=>a=p) rfl (by rw [hp5]; exact True.intro)).i d' t fun _ ha=>nomatch ha
  have em : z6S [] [((.inr x : Key),v2),(.inr y,v4)]=[(.inr x,v2),(.inr y,v4)]:=by
    show z5w (z5w ([] : List (Key × V)) (.inr x) v2) (.inr y) v4=_
    have e0 : z5w ([] : List (Key × V)) (.inr x) v2=[(.inr x,v2)]:=rfl
    rw [e0]
    unfold z5w
    rw [if_neg]
    · rfl
    · intro z
      rw [List.any_cons,List.any_nil,Bool.or_false] at z
      have z:=of_decide_eq_true z
      exact hxy (Sum.inr.inj z)
  refine ⟨hp5,[(.inr x,v2),(.inr y,v4)],by rw [er1,er3]; rfl,by simp,?_⟩
  rw [em]
  refine kk (.ref p) _ [p] (fun c o ec=>?_) ?_ (List.nodup_cons.mpr ⟨fun z=>(nomatch z),List.nodup_nil⟩) fun c hc=>?_
  · have hcp : c≠p:=fun z=>by rw [z,hp] at ec; cases ec
    rw [z0z hcp]
    exact s05 _ _ ec
  · unfold Tree
    refine ⟨p,[(.inr x,v2),(.inr y,v4)],[],rfl,z0o,rfl,?_,rfl⟩
    unfold Trees
    refine ⟨v2,[v4],[],[],rfl,t2,?_,rfl⟩
    unfold Trees
    exact ⟨v4,[],[],[],rfl,t4,⟨rfl,rfl⟩,rfl⟩
  · rw [List.mem_singleton.mp hc]; exact hp
end
end L2
namespace L2
open PySem PySem.Spec PyProof.Rows
section
variable {X : Cx} {N' : List Str} {sc : Scope} {iter elt : Expr} {ifs : List Expr} {n : Nat} {x x' : Str} {px px' tp pos : Pos} {x1 : Nat} {fi : DS->Option (List D)} {fc : DS->Option Bool} {fe : DE}
theorem pas_cF2 {i : Nat} {y : Str} {py spos : Pos} (hN : X.N.Nodup) (hy : X.N[i]? = some y) (hyl : X.env.scope.names.lookup y=some .local) (hc : X.calm=true) (S : CompScope X.N X.env.scope.names N' 2 sc) (hn : n=X.N.length) (hi : PID X (.Tuple [.Name x px,.Name x' px'] x1 tp) iter fi)
    (hg : ∀ s H fp pins E,PG (z1c X N' sc s H fp pins E) (.Tuple [.Name x px,.Name x' px'] x1 tp) (gTwo X.K n)) (ht : ∀ s H fp pins E,y5q (z1c X N' sc s H fp pins E) ifs (tT X.K fc)) (he : ∀ s H fp pins E,PE (z1c X N' sc s H fp pins E) elt (tD X.K fe))
    (hsw : swapsWith (.ListComp elt [⟨.Tuple [.Name x px,.Name x' px'] x1 tp,iter,ifs,0⟩] sc pos) (some (.Name y py)) spos.line X.env=pure true:=by rfl) (hs : ∀ x,foldedSetIterable iter X.env x=pure x:=by intro _; rfl) :
    PS X (.Assign [.Name y py] (.ListComp elt [⟨.Tuple [.Name x px,.Name x' px'] x1 tp,iter,ifs,0⟩] sc pos) spos) (tAsg (tF X.K (z7b fi fc fe)) (z3X i)):=fun pins s σ H D I hq=>
  y3W hc S hN hy hyl hi ⟨hg,ht,he⟩ hsw hs pins s σ H D I (y1W (by rw [hn,I.len]) hq)
end
end L2
namespace L2
open PySem PySem.Spec PyProof.Rows
noncomputable def spXS (K : PySem.W.Frag) (cl : Nat->Value) (m : List D->Option XO) : Sp:=fun vs H Q E=>∃ B ds o,InB B H∧Reps K H B ds vs∧m ds=some o∧(match o with
  | .val d=>∀ v H',Same H H'->Rep K H' B d v->Q v H'
  | .exc c=>∀ H',Same H H'->E (cl c) none H')
section
variable {P : Program} {w : World} {K : PySem.W.Frag} {mg : Str->Option Value} {base : Heap}
theorem fnXS {x qual : Str} {st : Stmt} {f : Addr} {fd : FuncData} {N ps : List Str} {k np nl : Nat} {g : SS->Option Out} {cl : Nat->Value} (F : Fun K x qual st f fd) (S : FnScope N ps (z0b st)) (hnp : ps.length=np) (hN : N.length=np + nl)
    (hbody : ∀ (cdv : Value) (A : Around) (outer : List Env) (s : Shared) (H : Hp) (E : XK) (B : Addr->Prop),Room k (A.deeper (envOfC qual (z0b st) s.heap.objs.size f cdv)) →
      PSs (z9b (CXE P w) P w K mg base N qual (z0b st) f cdv A outer s H E) (z0l st) (tS K H B false (y6q cl E) g)) : FnOk P w K mg base (CXE P w) (k + 1) f fd ps (spXS K cl (z9f np nl g)):=by
  obtain ⟨oc,od,kV,doc,pm,an,cdv,ct,osl,rfl,lk,hcd⟩:=F.ex
  refine fn_of lk hcd S (fun vs H Q E h=>?_) fun A outer s H vs Q E hr h=>?_
  · obtain ⟨B,ds,o,_,r,e,_⟩:=h
    rw [← r.length,z5J e,hnp]
  · obtain ⟨B,ds,o,hB,r,e,kk⟩:=h
    refine ⟨_,hbody cdv A outer s H E B hr,?_⟩
    have hl:=z5J e
    unfold z9f at e
    rw [if_pos hl] at e
    have rs:=z5O (nl:=nl) hB r (N:=N) (by omega)
    split at e
    · rename_i d' eg
      cases e
      exact ⟨_,_,_,rs,eg,fun v H' z _=>kk v H' z.1 (z.2.2 rfl)⟩
    · rename_i δ' eg
      cases e
      exact ⟨_,_,_,rs,eg,fun σ' H' R' rs' _=>kk .non H' rs'.keep rfl⟩
    · rename_i c δ' eg
      cases e
      exact ⟨_,_,_,rs,eg,fun σ' H' R' rs' _=>kk H' rs'.keep⟩
    · cases e
end
section
variable {X : Cx} {k : Nat} {sp : Sp} {cl : Nat->Value} {RX : XR} {x : Str} {p pos pos2 : Pos} {e : Expr} {es : List Expr} {t : TA}
noncomputable def tXS (K : PySem.W.Frag) (RX : XR) (F : DS->Option XO) : TE:=fun σ H Q=>∃ B δ o,InB B H∧RepS K H B σ δ∧F δ=some o∧(match o with
  | .val d=>∀ v H',Same H H'->Rep K H' B d v->Q v H'
  | .exc c=>∀ H',Same H H'->RX c σ H')
theorem y5A {m : List D->Option XO} {fl : List DE} (G : DefX X.prog X.w X.K X.mg X.base k x (spXS X.K cl m)) (hr : Room k X.A) (hg : Gl X x) (hW : XW X cl RX) (ha : PAD X (e :: es) fl) (hdb : (x == ("__debug__" : Str))=false:=by decide)
    (he : starEach (e :: es) X.env=(false,eval e X.env) :: starEach es X.env:=by rfl) (hpl : (backTo pos (starEach es X.env)).any (·.1)=false:=by rfl) : PE X (.Call (.Name x p) (e :: es) [] pos) (tXS X.K RX (z5v m fl)):=
  (y0A G hr hg hW ha hdb he hpl).imp fun σ H Q z_=>by
    obtain ⟨B,δ,o,hB,S,q,kk⟩:=z_
    unfold z5v at q
    cases e1 : z0m fl δ with
    | none=>rw [e1] at q; cases q
    | some ds=>
      rw [e1,Option.bind_some] at q
      refine ⟨B,δ,ds,hB,S,e1,fun vs H1 s1 r1=>⟨B,ds,o,hB.mono s1,r1,q,?_⟩⟩
      cases o with
      | val d=>exact fun v H' s' r=>kk v H' (s1.trans s') r
      | exc c=>exact fun H' s'=>⟨c,rfl,kk H' (s1.trans s')⟩
theorem y3j {m : List D->Option XO} {fl : List DE} (G : DefX X.prog X.w X.K X.mg X.base k x (spXS X.K cl m)) (hr : Room k X.A) (hg : Gl X x) (ha : PAD X (e :: es) fl) (hdb : (x == ("__debug__" : Str))=false:=by decide)
    (he : starEach (e :: es) X.env=(false,eval e X.env) :: starEach es X.env:=by rfl) (hpl : (backTo pos (starEach es X.env)).any (·.1)=false:=by rfl) : PD X (.Call (.Name x p) (e :: es) [] pos) (y0j m fl):=
  (y5A (RX:=noX) G hr hg xw_no ha hdb he hpl).imp fun σ H Q z_=>by
    obtain ⟨B,δ,d,hB,S,q,kk⟩:=z_
    unfold y0j at q
    cases e1 : z5v m fl δ with
    | none=>rw [e1] at q; cases q
    | some o=>
      rw [e1] at q
      cases o with
      | exc c=>cases q
      | val d'=>
        cases q
        exact ⟨B,δ,.val d,hB,S,e1,kk⟩
variable {H0 : Hp} {B0 : Addr->Prop} {fr : Bool} {F : DS->Option XO}
end
end L2
namespace L2
open PySem PySem.Spec PyProof.Rows
section
variable {K : PySem.W.Frag} {H : Hp} {B : Addr->Prop} {m : Addr} {c : Int} {ys : List V}
end
section
variable {K : PySem.W.Frag} {H0 H H' : Hp} {B0 : Addr->Prop} {σ : St} {δ : SS} {R : Nat->List Addr}
end
section
variable {X : Cx} {H0 : Hp} {B0 : Addr->Prop} {fr : Bool} {RX : XR} {st1 : Stmt} {sts : List Stmt} {f : DE} {x : Str} {px p2 ap cp pos : Pos} {ke e : Expr}
end
end L2
namespace L2
open PySem PySem.Spec PyProof.Rows
section
variable {X : Cx} {a b c e o : Expr} {f g h : DE} {p pos apos cpos p2 : Pos} {tg : Expr}
end
end L2
namespace L2
open PySem
theorem y4m {np nl : Nat} {g : SS->Option Out} {ds : List D} {d : D} (hl : ds.length=np) (e : g (ds.map (fun d=>some (.sh d)) ++ List.replicate nl none)=some (.rt d)) : z2Y np nl g ds=some d:=by
  unfold z2Y
  rw [if_pos hl,e]
theorem z2m {n : Nat} (h : n≤1000000) : n≤sizeLine:=by rw [PySem.sizeLine_eq]; omega
noncomputable def bD (b : Bool) : D:=.bl b
noncomputable def rowD (r : List Bool) : D:=.lst (r.map bD)
noncomputable def tabD (T : List (List Bool)) : D:=.lst (T.map rowD)
theorem y2g {ds : List D} {k : Nat} {d : D} (h : ds[k]? = some d) : ixD (.lst ds) (.int (k : Int))=some d:=z0u h
theorem z8Q : ∀ bs : List Bool,z7p (bs.map bD)=some bs
  | []=>rfl
  | b :: bs=>by
    show (z7p (bs.map bD)).map (b :: ·)=_
    rw [z8Q bs]
    rfl
end L2
namespace L2
open PySem
theorem eq_self {d : D} (h : okP d=true) : eqD d d=some (.bl true):=by
  unfold eqD
  rw [h]
  show (if (true && true)=true then some (D.bl (PyData.eqv (toP d) (toP d))) else none)=_
  rw [if_pos (show (true && true)=true from rfl),SeqAt.eqv_refl _ (z0v h).1]
theorem row_ix {r : List Bool} {k : Nat} (h : k < r.length) : ixD (rowD r) (.int (k : Int))=some (.bl r[k]):=y2g (by rw [List.getElem?_map,List.getElem?_eq_getElem h]; rfl)
theorem tab_ix {T : List (List Bool)} {k : Nat} (h : k < T.length) : ixD (tabD T) (.int (k : Int))=some (rowD T[k]):=y2g (by rw [List.getElem?_map,List.getElem?_eq_getElem h]; rfl)
theorem ixN_nat {n k : Nat} (h : k < n) : ixN n (k : Int)=some k:=by
  unfold ixN
  rw [if_pos (by omega),if_pos (by omega)]
  simp
noncomputable def Sq (n : Nat) (T : List (List Bool)) : Prop:=T.length=n∧∀ r∈T,r.length=n
theorem Sq.row {n : Nat} {T : List (List Bool)} (h : Sq n T) {k : Nat} (hk : k < T.length) : T[k].length=n:=h.2 _ (List.getElem_mem hk)
end L2
namespace L2
open PySem
noncomputable def hol {α : Type} (x : Option α) (Q : α->Prop) : Prop:=∃ a,x=some a∧Q a
section
variable {α β : Type} {Q : α->Prop} {R : β->Prop}
theorem z0d {a : α} : hol (some a) Q=Q a:=propext ⟨fun ⟨_,e,q⟩=>by cases e; exact q,fun q=>⟨a,rfl,q⟩⟩
theorem hol_is {x : Option α} {a : α} : hol x (fun b=>b=a)↔x=some a:=⟨fun ⟨_,e,q⟩=>q ▸ e,fun e=>⟨a,e,rfl⟩⟩
end
noncomputable def asB : D->Option Bool
  | .bl b=>some b
  | _=>none
section
variable {Q : D->Prop} {QB : Bool->Prop} {QL : List D->Prop} {QO : Out->Prop} {δ : DS} {s : SS} {f g h : DE} {F : D->D->Option D}
theorem ho_var0 {x : Option D} {r : DS} : z0f 0 (x :: r)=x:=by cases x <;> rfl
noncomputable def owA (i : Nat) (s : SS) : Option D:=match s[i]? with
  | some (some (.ow d))=>some d
  | _=>none
theorem z0K {np nl : Nat} {b : SS->Option Out} {ds : List D} {d : D} (hl : ds.length=np) (h : hol (b (ds.map (fun d=>some (.sh d)) ++ List.replicate nl none)) fun o=>o = .rt d) : z2Y np nl b ds=some d:=y4m hl (hol_is.mp h)
theorem z9W {np nl : Nat} {b : SS->Option Out} {ds : List D} (hl : ds.length=np) (h : hol (b (ds.map (fun d=>some (.sh d)) ++ List.replicate nl none)) fun o=>∃ d,o = .rt d∧Q d) : hol (z2Y np nl b ds) Q:=by
  obtain ⟨o,e,d,rfl,q⟩:=h
  exact ⟨d,y4m hl e,q⟩
theorem y3C {i : Nat} {b : SS->Option Out} {ds : List D} {s : SS} (I : Nat->SS->Prop) (h0 : I 0 s) (hs : ∀ n (h : n < ds.length) δ,I n δ->hol (b (δ.set i (some (.sh ds[n])))) fun o=>match o with | .nx δ'=>I (n + 1) δ' | .ct δ'=>I (n + 1) δ' | .bk δ'=>QO (.nx δ') | .rt d=>QO (.rt d) | .ex c δ'=>QO (.ex c δ')) (he : ∀ δ,I ds.length δ->QO (.nx δ)) : hol (z4B i b ds s) QO:=by
  induction ds generalizing s I with
  | nil=>exact ⟨_,rfl,he _ h0⟩
  | cons x r ih=>
    obtain ⟨o,e,q⟩:=hs 0 (by simp) s h0
    have e : b (s.set i (some (.sh x)))=some o:=e
    have step : ∀ s1,I 1 s1->hol (z4B i b r s1) QO:=fun s1 h1=>ih (fun n=>I (n + 1)) h1 (fun n hn δ hI=>by
      have:=hs (n + 1) (by simpa using hn) δ hI
      simpa using this) fun δ hI=>he δ (by simpa using hI)
    unfold z4B
    rw [e]
    cases o with
    | nx s1=>exact step s1 q
    | ct s1=>exact step s1 q
    | bk s1=>exact ⟨_,rfl,q⟩
    | rt d=>exact ⟨_,rfl,q⟩
    | ex c s1=>exact ⟨_,rfl,q⟩
theorem z7I {i : Nat} {b : SS->Option Out} {lo : Int} {m : Nat} {s : SS} (I : Nat->SS->Prop) (h0 : I 0 s) (hs : ∀ n,n < m->∀ δ,I n δ->hol (b (δ.set i (some (.sh (.int (lo + (n : Int))))))) fun o=>match o with | .nx δ'=>I (n + 1) δ' | .ct δ'=>I (n + 1) δ' | .bk δ'=>QO (.nx δ') | .rt d=>QO (.rt d) | .ex c δ'=>QO (.ex c δ')) (he : ∀ δ,I m δ->QO (.nx δ)) : hol (z4B i b (z4d lo m) s) QO:=by
  refine y3C I h0 (fun n hn δ hI=>?_) fun δ hI=>he δ (by simpa [z4d] using hI)
  have hn' : n < m:=by simpa [z4d] using hn
  have:=hs n hn' δ hI
  simpa [z4d] using this
theorem z2p {α : Type} {enc : α->D} {i : Nat} {b : SS->Option Out} {xs : List α} {s : SS} (I : List α->SS->Prop) (h0 : I [] s) (hs : ∀ pre x post,xs=pre ++ x :: post->∀ δ,I pre δ->hol (b (δ.set i (some (.sh (enc x))))) fun o=>match o with | .nx δ'=>I (pre ++ [x]) δ' | .ct δ'=>I (pre ++ [x]) δ' | .bk δ'=>QO (.nx δ') | .rt d=>QO (.rt d) | .ex c δ'=>QO (.ex c δ')) (he : ∀ δ,I xs δ->QO (.nx δ)) : hol (z4B i b (xs.map enc) s) QO:=by
  refine y3C (fun n δ=>I (xs.take n) δ) (by simpa using h0) (fun n hn δ hI=>?_) fun δ hI=>he δ (by simpa using hI)
  have hn' : n < xs.length:=by simpa using hn
  have e : xs=xs.take n ++ xs[n] :: xs.drop (n + 1):=by
    rw [← List.drop_eq_getElem_cons hn',List.take_append_drop]
  have:=hs (xs.take n) xs[n] _ e δ hI
  rw [← List.take_succ_eq_append_getElem hn'] at this
  rw [List.getElem_map]
  exact this
end
end L2
namespace L2
open PySem
noncomputable def o2 (F : D->D->Option D) : Option D->Option D->Option D
  | some x,some y=>F x y
  | _,_=>none
noncomputable def andO : Option D->Option D->Option D
  | some (.bl true),y=>y
  | some (.bl false),_=>some (.bl false)
  | _,_=>none
noncomputable def orO : Option D->Option D->Option D
  | some (.bl true),_=>some (.bl true)
  | some (.bl false),y=>y
  | _,_=>none
noncomputable def andT : Option Bool->Option Bool->Option Bool
  | some true,y=>y
  | some false,_=>some false
  | _,_=>none
noncomputable def orT : Option Bool->Option Bool->Option Bool
  | some true,_=>some true
  | some false,y=>y
  | _,_=>none
noncomputable def iteO {α : Type} : Option Bool->Option α->Option α->Option α
  | some true,x,_=>x
  | some false,_,y=>y
  | _,_,_=>none
noncomputable def consA : Option D->Option (List D)->Option (List D)
  | some x,some xs=>some (x :: xs)
  | _,_=>none
noncomputable def z9P : Option D->Option D
  | some d=>if d.imm=true then some d else none
  | none=>none
noncomputable def z6j : Option (List D)->Option (List D)
  | some ds=>if z2C ds=true then some ds else none
  | none=>none
noncomputable def z4z (x : Option Out) (b : SS->Option Out) : Option Out:=match x with
  | some (.nx s)=>b s
  | o=>o
noncomputable def y4O : Option D->Option (List D)
  | some (.int j)=>if -(2 ^ 62)≤j∧j < 2 ^ 62 then some (z4d 0 j.toNat) else none
  | _=>none
noncomputable def rng2 : Option D->Option D->Option (List D)
  | some (.int i),some (.int j)=>if -(2 ^ 62)≤i∧i < 2 ^ 62∧-(2 ^ 62)≤j∧j < 2 ^ 62 then some (z4d i (j - i).toNat) else none
  | _,_=>none
noncomputable def cut3 (x : Option D) (lo hi : Option (Option Int)) : Option (List D):=match x,lo,hi with
  | some (.lst ds),some l,some h=>some (z4Q ds l h)
  | some (.scr ns),some l,some h=>some (z4Q (ns.map .int) l h)
  | _,_,_=>none
noncomputable def partO : Option D->Option (Option Int)
  | some (.int i)=>some (some i)
  | _=>none
noncomputable def setO (mk : D->SD) (i : Nat) (x : Option D) (s : SS) : Option Out:=match x with
  | some d=>some (.nx (s.set i (some (mk d))))
  | none=>none
noncomputable def rtO : Option D->Option Out
  | some d=>some (.rt d)
  | none=>none
noncomputable def forX (i : Nat) (ds : Option (List D)) (b : SS->Option Out) (s : SS) : Option Out:=match ds with
  | some ds=>z4B i b ds s
  | none=>none
noncomputable def z9g (i : Nat) (x : Option D) (s : SS) : Option Out:=match x with
  | some d=>some (.nx ((z0Y i s).set i (some (.ow d))))
  | none=>none
noncomputable def z5X (fc : DS->Option Bool) (fe : DE) (δ : DS) : D->Option (Option D):=fun x=>(fc (δ ++ [some x])).bind fun k=>if k=true then (fe (δ ++ [some x])).map some else some none
noncomputable def z5A (xs : Option (List D)) (h : D->Option (Option D)) : Option (List D):=match xs with
  | some xs=>if xs.length≤sizeLine then z2t h xs else none
  | none=>none
section
variable {f g h : DE} {δ : DS} {s : SS} {F : D->D->Option D} {c e : DS->Option Bool} {a b : SS->Option Out} {i j : Nat}
theorem ev_var0 {x : Option D} {r : DS} : z0f 0 (x :: r)=x:=ho_var0
theorem ev_varS {x : Option D} {r : DS} : z0f (i + 1) (x :: r)=z0f i r:=(rfl)
theorem ev_C {d : D} : dC d δ=some d:=(rfl)
theorem ev_d2 : d2 F f g δ=o2 F (f δ) (g δ):=by
  unfold d2 o2
  cases f δ <;> cases g δ <;> rfl
theorem ev_d1 {G : D->Option D} : d1 G f δ=(f δ).bind G:=(rfl)
theorem ev_test : z0C f δ=(f δ).bind asB:=by
  unfold z0C
  cases f δ with
  | none=>rfl
  | some d=>cases d <;> rfl
theorem y6k : z1H f δ=(f δ).bind z6Y:=(rfl)
theorem ev_andT : y3z c e δ=andT (c δ) (e δ):=by
  unfold y3z
  rcases c δ with _ | _ | _ <;> rfl
theorem ev_orT : z8m c e δ=orT (c δ) (e δ):=by
  unfold z8m
  rcases c δ with _ | _ | _ <;> rfl
theorem ev_notT : z4m c δ=(c δ).map (!·):=(rfl)
theorem ev_and : y0U f g δ=andO (f δ) (g δ):=by
  unfold y0U andO
  rcases f δ with _ | (_ | (_ | _) | _ | _ | _ | _ | _ | _) <;> rfl
theorem ev_or : dOr f g δ=orO (f δ) (g δ):=by
  unfold dOr orO
  rcases f δ with _ | (_ | (_ | _) | _ | _ | _ | _ | _ | _) <;> rfl
theorem y5L : z0m [] δ=some []:=(rfl)
theorem y4s {r : List DE} : z0m (f :: r) δ=consA (f δ) (z0m r δ):=by
  show ((f δ).bind fun x=>(z0m r δ).bind fun xs=>some (x :: xs))=_
  cases f δ <;> cases z0m r δ <;> rfl
theorem ev_call {M : List D->Option D} {fl : List DE} : z0k M fl δ=(z0m fl δ).bind M:=(rfl)
theorem y6d {M : List D->Option (List D)} {fl : List DE} : z3o M fl δ=(z0m fl δ).bind M:=(rfl)
theorem ev_mkL {f : DS->Option (List D)} : mkL f δ=(f δ).map .lst:=(rfl)
theorem ev_mkT {f : DS->Option (List D)} : mkT f δ=(f δ).map .tup:=(rfl)
theorem y4n {f : DS->Option (List D)} : z0L f δ=(z6j (f δ)).map .lst:=by
  unfold z0L z6j
  cases f δ with
  | none=>rfl
  | some ds=>
    show (if z2C ds=true then _ else _)=Option.map _ (if z2C ds=true then _ else _)
    split <;> rfl
theorem ev_is {T : String} : dIs T f δ=(f δ).map fun d=>.bl (isF T d):=(rfl)
theorem ev_seq : z3U f δ=(f δ).bind y1r:=(rfl)
theorem ev_rng1 : z5j f δ=y4O (f δ):=(rfl)
theorem ev_rng2 : y5m f g δ=rng2 (f δ) (g δ):=(rfl)
theorem ev_comp {fi : DS->Option (List D)} : z1M fi c f δ=z5A (fi δ) (z5X c f δ):=by
  unfold z1M z5A
  cases fi δ <;> rfl
theorem ev_part : z6w f δ=partO (f δ):=(rfl)
theorem y2l : z3L δ=some none:=(rfl)
theorem ev_cut {fl fh : DS->Option (Option Int)} : y6w f fl fh δ=cut3 (f δ) (fl δ) (fh δ):=by
  unfold y6w cut3
  rcases f δ with _ | (_ | _ | _ | _ | _ | _ | _ | _) <;> first | rfl | (cases fl δ <;> cases fh δ <;> rfl)
theorem y3O : z0P a b s=z4z (a s) b:=by
  unfold z0P z4z
  rcases a s with _ | (_ | _ | _ | _) <;> rfl
theorem ev_skip : z1s s=some (.nx s):=(rfl)
theorem ev_asgS : y4B i f s=setO .sh i (f (shV s)) s:=by
  unfold y4B setO
  cases f (shV s) <;> rfl
theorem ev_asgI : z5q i f s=setO .sh i (z9P (f (z0H s))) s:=by
  unfold z5q setO z9P
  cases f (z0H s) with
  | none=>rfl
  | some d=>
    show (if d.imm=true then _ else _)=(match (if d.imm=true then some d else none) with | some d=>some (Out.nx (s.set i (some (SD.sh d)))) | none=>none)
    split <;> rfl
theorem ev_asgN : z4b i f s=setO .ow i (f (z0H s)) s:=by
  unfold z4b setO
  cases f (z0H s) <;> rfl
theorem ev_retI : z2r f s=rtO (z9P (f (z0H s))):=by
  unfold z2r rtO z9P
  cases f (z0H s) with
  | none=>rfl
  | some d=>
    show (if d.imm=true then _ else _)=(match (if d.imm=true then some d else none) with | some d=>some (Out.rt d) | none=>none)
    split <;> rfl
theorem ev_retN : y6x f s=rtO (f (z0H s)):=by
  unfold y6x rtO
  cases f (z0H s) <;> rfl
theorem ev_retS : retS f s=rtO (f (shV s)):=by
  unfold retS rtO
  cases f (shV s) <;> rfl
theorem ev_retO : y2r i s=rtO (owA i s):=by
  unfold y2r rtO owA
  rcases s[i]? with _ | _ | ⟨x | x | ⟨r,x⟩⟩ <;> rfl
theorem y6N : ifO c a b s=iteO (c (z0H s)) (a s) (b s):=by
  unfold ifO
  rcases c (z0H s) with _ | _ | _ <;> rfl
theorem ev_forO {fi : DS->Option (List D)} : z5K i fi b s=forX i (fi (shV s)) b s:=by
  unfold z5K forX
  cases fi (shV s) <;> rfl
theorem ev_frz : frzO i b s=b (y4Z i s):=(rfl)
theorem eo_2 {x y : D} : o2 F (some x) (some y)=F x y:=(rfl)
theorem eo_and {x y : Bool} : andO (some (.bl x)) (some (.bl y))=some (.bl (x && y)):=by cases x <;> rfl
theorem eo_andf {y : Option D} : andO (some (.bl false)) y=some (.bl false):=(rfl)
theorem eo_or {x y : Bool} : orO (some (.bl x)) (some (.bl y))=some (.bl (x || y)):=by cases x <;> rfl
theorem eo_ort {y : Option D} : orO (some (.bl true)) y=some (.bl true):=(rfl)
theorem eo_andT {x y : Bool} : andT (some x) (some y)=some (x && y):=by cases x <;> rfl
theorem y4C {y : Option Bool} : andT (some false) y=some false:=(rfl)
theorem eo_orT {x y : Bool} : orT (some x) (some y)=some (x || y):=by cases x <;> rfl
theorem eo_orTt {y : Option Bool} : orT (some true) y=some true:=(rfl)
theorem eo_itet {α : Type} {x y : Option α} : iteO (some true) x y=x:=(rfl)
theorem eo_itef {α : Type} {x y : Option α} : iteO (some false) x y=y:=(rfl)
theorem eo_cons {x : D} {xs : List D} : consA (some x) (some xs)=some (x :: xs):=(rfl)
theorem eo_nx : z4z (some (.nx s)) b=b s:=(rfl)
theorem eo_rt {d : D} : z4z (some (.rt d)) b=some (.rt d):=(rfl)
theorem eo_set {mk : D->SD} {d : D} : setO mk i (some d) s=some (.nx (s.set i (some (mk d)))):=(rfl)
theorem eo_rtO {d : D} : rtO (some d)=some (.rt d):=(rfl)
theorem eo_for {ds : List D} : forX i (some ds) b s=z4B i b ds s:=(rfl)
theorem eo_immI {n : Int} : z9P (some (.int n))=some (.int n):=(rfl)
theorem eo_immB {n : Bool} : z9P (some (.bl n))=some (.bl n):=(rfl)
theorem eo_immN : z9P (some .non)=some .non:=(rfl)
theorem y3V {d : D} (h : d.imm=true) : z9P (some d)=some d:=if_pos h
theorem z3e {ds : List D} (h : z2C ds=true) : z6j (some ds)=some ds:=if_pos h
theorem eo_part {n : Int} : partO (some (.int n))=some (some n):=(rfl)
theorem eo_cutR {ns : List Int} {l h : Option Int} : cut3 (some (.scr ns)) (some l) (some h)=some (z4Q (ns.map .int) l h):=(rfl)
theorem eo_rng1 {n : Int} (h : -(2 ^ 62)≤n∧n < 2 ^ 62) : y4O (some (.int n))=some (z4d 0 n.toNat):=if_pos h
theorem eo_rng2 {m n : Int} (h : -(2 ^ 62)≤m∧m < 2 ^ 62∧-(2 ^ 62)≤n∧n < 2 ^ 62) : rng2 (some (.int m)) (some (.int n))=some (z4d m (n - m).toNat):=if_pos h
theorem z8d {xs : List D} {k : D->Option (Option D)} (h : xs.length≤1000000) : z5A (some xs) k=z2t k xs:=if_pos (z2m h)
section
variable {m n : Int} {p q : Bool} {ds es : List D} {x y : Str} {ns : List Int}
theorem ea_add : z9e (.int m) (.int n)=some (.int (m + n)):=(rfl)
theorem ea_sub : y4q (.int m) (.int n)=some (.int (m - n)):=(rfl)
theorem z6V (h : CDiv m n) : z8w (.int m) (.int n)=some (.int (m / n)):=if_pos h
theorem z4a (h : 0 < n) : z5x (.int m) (.int n)=some (.int (m % n)):=if_pos h
theorem ea_pow (h : CPow m n) : powI (.int m) (.int n)=some (.int (m ^ n.toNat)):=if_pos h
theorem ea_lt : ltI (.int m) (.int n)=some (.bl (decide (m < n))):=(rfl)
theorem ea_le : leI (.int m) (.int n)=some (.bl (decide (m≤n))):=(rfl)
theorem ea_gt : gtI (.int m) (.int n)=some (.bl (decide (n < m))):=(rfl)
theorem ea_ge : geI (.int m) (.int n)=some (.bl (decide (n≤m))):=(rfl)
theorem ea_eqI : eqD (.int m) (.int n)=some (.bl (decide (m=n))):=(rfl)
theorem ea_neI : neD (.int m) (.int n)=some (.bl (!decide (m=n))):=(rfl)
theorem ea_neg : uNeg (.int m)=some (.int (-m)):=(rfl)
theorem ea_not : uNot (.bl p)=some (.bl (!p)):=(rfl)
theorem ea_truB : z6Y (.bl p)=some p:=(rfl)
theorem ea_truL : z6Y (.lst ds)=some (!ds.isEmpty):=(rfl)
theorem ea_seqL : y1r (.lst ds)=some ds:=(rfl)
theorem ea_lenL : z3j [.lst ds]=some (.int (ds.length : Int)):=(rfl)
theorem ea_lenR : z3j [.scr ns]=some (.int (ns.length : Int)):=(rfl)
theorem ea_ixL : ixD (.lst ds) (.int m)=atI ds m:=(rfl)
theorem ea_ixR : ixD (.scr ns) (.int m)=(atI ns m).map .int:=(rfl)
theorem ea_isBI : isF "bool" (.int m)=false:=(rfl)
theorem ea_isII : isF "int" (.int m)=true:=(rfl)
theorem ea_asB : asB (.bl p)=some p:=(rfl)
end
theorem eb_bs {α β : Type} {a : α} {k : α->Option β} : (some a).bind k=k a:=(rfl)
theorem eb_ms {α β : Type} {a : α} {k : α->β} : (some a).map k=some (k a):=(rfl)
theorem eb_mn {α β : Type} {k : α->β} : (none : Option α).map k=none:=(rfl)
theorem eb_s0 {α : Type} {x y : α} {r : List α} : (x :: r).set 0 y=y :: r:=(rfl)
theorem eb_sS {α : Type} {n : Nat} {x y : α} {r : List α} : (x :: r).set (n + 1) y=x :: r.set n y:=(rfl)
theorem eb_mc {α β : Type} {x : α} {r : List α} {k : α->β} : (x :: r).map k=k x :: r.map k:=(rfl)
theorem eb_mnil {α β : Type} {k : α->β} : ([] : List α).map k=[]:=(rfl)
theorem eb_rS {α : Type} {n : Nat} {x : α} : List.replicate (n + 1) x=x :: List.replicate n x:=(rfl)
theorem eb_r0 {α : Type} {x : α} : List.replicate 0 x=[]:=(rfl)
theorem eb_ca {α : Type} {x : α} {r t : List α} : (x :: r) ++ t=x :: (r ++ t):=(rfl)
theorem eb_na {α : Type} {t : List α} : [] ++ t=t:=(rfl)
theorem es_all0 : z0H []=[]:=(rfl)
theorem es_allS {x : Option SD} {r : SS} : z0H (x :: r)=x.map SD.val :: z0H r:=(rfl)
theorem es_sh0 : shV []=[]:=(rfl)
theorem es_shS {x : Option SD} {r : SS} : shV (x :: r)=shO x :: shV r:=(rfl)
theorem es_shO {d : D} : shO (some (.sh d))=some d:=(rfl)
theorem y5J : z0Y i []=[]:=(rfl)
theorem y5n {x : Option SD} {r : SS} : z0Y i (x :: r)=z7m i x :: z0Y i r:=(rfl)
theorem y2U {d : D} : z7m i (some (.sh d))=some (.sh d):=(rfl)
theorem y2W {d : D} : z7m i (some (.ow d))=some (.ow d):=(rfl)
theorem y4S : z7m i none=none:=(rfl)
theorem es_ow0 {d : D} {r : SS} : owA 0 (some (.ow d) :: r)=some d:=(rfl)
theorem es_owS {x : Option SD} {r : SS} : owA (i + 1) (x :: r)=owA i r:=(rfl)
end
end L2
namespace L2
open PySem
noncomputable def z8p : Option (List D)->Option (List D):=z6j
noncomputable def st0V (o k v : Option D) : Option D:=match o,k,v with
  | some (.lst ds),some (.int k),some d=>(ixN ds.length k).map fun j=>.lst (ds.set j d)
  | _,_,_=>none
noncomputable def m0V (M : List D->List D->Option (List D)) (o : Option D) (args : Option (List D)) : Option D:=match o,args with
  | some (.lst ds),some args=>(M ds args).map .lst
  | _,_=>none
section
variable {f g fk fj fv : DE} {s : SS} {i : Nat} {M : List D->List D->Option (List D)} {fl : List DE}
theorem eo_put {d : D} : z9g i (some d) s=some (.nx ((z0Y i s).set i (some (.ow d)))):=(rfl)
theorem z5N {ds : List D} (h : z2C ds=true) : z8p (some ds)=some ds:=if_pos h
noncomputable def kI : D->Option Int
  | .int k=>some k
  | _=>none
noncomputable def kL : D->Option (List D)
  | .lst ds=>some ds
  | _=>none
noncomputable def kW : Option (Option SD)->Option D
  | some (some (.ow d))=>some d
  | _=>none
theorem owA_kW : owA i s=kW s[i]?:=by
  unfold owA kW
  generalize s[i]? = x
  rcases x with _ | _ | ⟨x | x | ⟨r,x⟩⟩ <;> rfl
theorem mt2 {β : Type} {k : D} {x : Option (Option SD)} {F : Int->List D->Option β} : (match k,x with | .int k,some (some (.ow (.lst ds)))=>F k ds | _,_=>none)=(kI k).bind fun k=>((kW x).bind kL).bind fun ds=>F k ds:=by
  cases k with
  | int k=>rcases x with _ | _ | ⟨x | x | ⟨r,x⟩⟩ <;> first | rfl | (cases x <;> rfl)
  | _=>rfl
theorem st0V_k {o k v : Option D} : st0V o k v=(o.bind kL).bind fun ds=>(k.bind kI).bind fun k=>v.bind fun d=>(ixN ds.length k).map fun j=>.lst (ds.set j d):=by
  rcases o with _ | o
  · rfl
  · cases o with
    | lst ds=>
      rcases k with _ | k
      · rfl
      · cases k with
        | int k=>cases v <;> rfl
        | _=>rfl
    | _=>rfl
theorem putO_b {α : Type} {x : Option α} {F : α->Option D} : z9g i (x.bind F) s=x.bind fun a=>z9g i (F a) s:=by cases x <;> rfl
theorem z7P {α β : Type} {x : Option α} : (x.bind fun _=>(none : Option β))=none:=by cases x <;> rfl
theorem ev_st0 : st0 i fk fv s=z9g i (st0V (owA i s) (fk (z0H s)) (z9P (fv (z0H s)))) s:=by
  have e : st0 i fk fv s=(fv (z0H s)).bind fun d=>if d.imm=true then (fk (z0H s)).bind fun dk=>(kI dk).bind fun k=>((kW s[i]?).bind kL).bind fun ds=>(ixN ds.length k).map fun j=>.nx ((z0Y i s).set i (some (.ow (.lst (ds.set j d))))) else none:=by
    refine congrArg (Option.bind (fv (z0H s))) (funext fun d=>?_)
    refine congrArg (fun z=>if d.imm=true then z else none) ?_
    refine congrArg (Option.bind (fk (z0H s))) (funext fun dk=>?_)
    exact mt2 (F:=fun k ds=>(ixN ds.length k).map fun j=>Out.nx ((z0Y i s).set i (some (.ow (.lst (ds.set j d))))))
  rw [e,st0V_k,owA_kW]
  simp only [putO_b]
  generalize (kW s[i]?).bind kL=x
  rcases fv (z0H s) with _ | d
  · show none=x.bind fun ds=>((fk (z0H s)).bind kI).bind fun k=>(none : Option Out)
    simp only [z7P]
  · show (if d.imm=true then (fk (z0H s)).bind fun dk=>_ else none)=x.bind fun ds=>((fk (z0H s)).bind kI).bind fun k=>(if d.imm=true then some d else none).bind fun d=>_
    split
    · rcases fk (z0H s) with _ | k
      · simp only [Option.bind_none,z7P]
      · simp only [Option.bind_some]
        cases kI k with
        | none=>simp only [Option.bind_none,z7P]
        | some k=>
          simp only [Option.bind_some]
          cases x with
          | none=>rfl
          | some ds=>
            simp only [Option.bind_some]
            cases ixN ds.length k <;> rfl
    · simp only [Option.bind_none,z7P]
theorem ev_m0 : m0 i M fl s=z9g i (m0V M (owA i s) (z8p (z0m fl (z0H s)))) s:=by
  unfold m0 owA
  rcases z0m fl (z0H s) with _ | args
  · rcases s[i]? with _ | _ | ⟨x | x | ⟨r,x⟩⟩ <;> (first | rfl | (cases x <;> rfl))
  · show (if z2C args=true then _ else _)=z9g i (m0V M _ (if z2C args=true then some args else none)) s
    split
    · rcases s[i]? with _ | _ | ⟨x | x | ⟨r,x⟩⟩ <;> (first | rfl | (cases x <;> first | rfl | (rename_i ds; show Option.map _ (M ds args)=z9g i (Option.map _ (M ds args)) s; cases M ds args <;> rfl)))
    · rcases s[i]? with _ | _ | ⟨x | x | ⟨r,x⟩⟩ <;> (first | rfl | (cases x <;> rfl))
theorem y5M : y1L i f s=z9g i (m0V z5S (owA i s) (consA (f (z0H s)) (some []))) s:=by
  unfold y1L owA
  rcases f (z0H s) with _ | d
  · rcases s[i]? with _ | _ | ⟨x | x | ⟨r,x⟩⟩ <;> (first | rfl | (cases x <;> rfl))
  · rcases s[i]? with _ | _ | ⟨x | x | ⟨r,x⟩⟩ <;> (first | rfl | (cases x <;> first | rfl | (rename_i ds; show Option.map _ (z5S ds [d])=z9g i (Option.map _ (z5S ds [d])) s; cases z5S ds [d] <;> rfl)))
end
theorem es_v1 {d : D} : (SD.sh d).val=d:=(rfl)
theorem es_v2 {d : D} : (SD.ow d).val=d:=(rfl)
theorem y6S {bs : List Bool} : allF [.lst (bs.map bD)]=some (.bl (bs.all fun b=>b)):=by
  show (z7p (bs.map bD)).map (fun bs=>D.bl (bs.all fun b=>b))=_
  rw [z8Q]
  rfl
theorem z5Q : ∀ ns : List Int,z1h (ns.map D.int)=some ns
  | []=>rfl
  | n :: ns=>by
    show (z1h (ns.map D.int)).map (n :: ·)=_
    rw [z5Q ns]
    rfl
theorem y2q {ns : List Int} : sumF [.lst (ns.map .int)]=some (.int ns.sum):=by
  show (z1h (ns.map D.int)).map (fun ns=>D.int ns.sum)=_
  rw [z5Q]
  rfl
theorem y4I (ns : List Int) (lo hi : Option Int) : ∃ cs : List Int,z4Q (ns.map .int) lo hi=cs.map .int∧cs.length≤ns.length:=by
  refine ⟨(ns.drop (HT.sIx ns.length 0 lo)).take (HT.sIx ns.length ns.length hi - HT.sIx ns.length 0 lo),?_,by simp; omega⟩
  unfold z4Q
  rw [List.length_map,List.map_take,List.map_drop]
theorem pow_lit (n : Nat) (h : n≤1000) : powI (.int 10) (.int (n : Int))=some (.int (10 ^ n)):=by
  rw [ea_pow (show CPow 10 (n : Int) from ⟨by omega,by omega,by decide⟩),Int.toNat_natCast]
theorem ix_tab {T : List (List Bool)} {k : Nat} (h : k < T.length) : ixD (tabD T) (.int (k : Int))=some (rowD T[k]):=tab_ix h
theorem ix_row {r : List Bool} {k : Nat} (h : k < r.length) : ixD (rowD r) (.int (k : Int))=some (.bl r[k]):=row_ix h
theorem ins_at {n b : Nat} (h : b≤n) : y1h n (b : Int)=b:=by
  unfold y1h
  rw [if_neg (by omega),Int.toNat_natCast,Nat.min_eq_left h]
theorem z7K {x : Int} {n : Nat} (h : 0 < n) : ∃ a : Nat,x % (n : Int)=(a : Int)∧a < n:=by
  have h1:=Int.emod_nonneg x (show (n : Int)≠0 by omega)
  have h2:=Int.emod_lt_of_pos x (show (0 : Int) < n by omega)
  exact ⟨(x % (n : Int)).toNat,by omega,by omega⟩
theorem z9u {α : Type} {enc : α->D} {c : DS->Option Bool} {f : DE} {δ : DS} (p : α->Bool) (g : α->D) : ∀ {xs : List α},(∀ x∈xs,c (δ ++ [some (enc x)])=some (p x))->(∀ x∈xs,p x=true->f (δ ++ [some (enc x)])=some (g x))->z2t (z5X c f δ) (xs.map enc)=some ((xs.filter p).map g)
  | [],_,_=>rfl
  | x :: r,hc,hf=>by
    have ih:=z9u (xs:=r) p g (fun y hy=>hc y (List.mem_cons_of_mem _ hy)) fun y hy=>hf y (List.mem_cons_of_mem _ hy)
    rw [List.map_cons]
    unfold z2t
    rw [ih]
    unfold z5X
    rw [hc x List.mem_cons_self]
    cases hp : p x with
    | true=>
      show ((if true=true then (f (δ ++ [some (enc x)])).map some else some none).bind _)=_
      rw [if_pos rfl,hf x List.mem_cons_self hp,List.filter_cons_of_pos hp]
      rfl
    | false=>
      rw [List.filter_cons_of_neg (by rw [hp]; exact Bool.false_ne_true)]
      rfl
theorem z7l {α : Type} {enc : α->D} {f : DE} {δ : DS} (g : α->D) {xs : List α} (hf : ∀ x∈xs,f (δ ++ [some (enc x)])=some (g x)) : z2t (z5X z6U f δ) (xs.map enc)=some (xs.map g):=by
  rw [z9u (fun _=>true) g (fun _ _=>rfl) fun x hx _=>hf x hx,List.filter_eq_self.mpr fun _ _=>rfl]
noncomputable def nD (n : Nat) : D:=.int (n : Int)
theorem z9V {n : Nat} : z4d 0 n=(List.range n).map nD:=by
  unfold z4d nD
  refine List.map_congr_left fun k _=>?_
  rw [Int.zero_add]
theorem y6T {α : Type} {xs : List α} {k : Nat} (h : k < xs.length) : atI xs (k : Int)=some xs[k]:=z0u (List.getElem?_eq_getElem h)
end L2
namespace L2
open PySem
noncomputable def y3X : Option (List D)->Option (List D)
  | some ds=>if ds.length≤sizeLine then some ds else none
  | none=>none
theorem y6g {g : DS->Option (List D)} {δ : DS} : z7e g δ=y3X (g δ):=by
  unfold z7e y3X
  cases g δ <;> rfl
theorem y5R {ds : List D} (h : ds.length≤1000000) : y3X (some ds)=some ds:=if_pos (z2m h)
noncomputable def y1J (o : List Int) : D:=.tup (o.map .int)
noncomputable def z3Q (b : Int × List Int) : D:=.tup [.int b.1,y1J b.2]
noncomputable def z9d (bs : List (Int × List Int)) : D:=.lst (bs.map z3Q)
theorem z7R : ∀ o : List Int,z2C (o.map D.int)=true
  | []=>rfl
  | n :: o=>by
    show (true && z2C (o.map D.int))=true
    rw [z7R o]
    rfl
theorem imm_ord (o : List Int) : (y1J o).imm=true:=z7R o
theorem y3g (b : Int × List Int) : (z3Q b).imm=true:=by
  show (true && ((y1J b.2).imm && true))=true
  rw [imm_ord]
  rfl
theorem y0I : ∀ bs : List (Int × List Int),z2C (bs.map z3Q)=true
  | []=>rfl
  | b :: bs=>by
    show ((z3Q b).imm && z2C (bs.map z3Q))=true
    rw [y3g,y0I bs]
    rfl
theorem y2b {b : Int × List Int} : ixD (z3Q b) (.int 0)=some (.int b.1):=(rfl)
theorem y3p {b : Int × List Int} : ixD (z3Q b) (.int 1)=some (y1J b.2):=(rfl)
theorem z9X {bs : List (Int × List Int)} : y1r (z9d bs)=some (bs.map z3Q):=(rfl)
theorem seq_ord {o : List Int} : y1r (y1J o)=some (o.map .int):=(rfl)
theorem len_vot {bs : List (Int × List Int)} : z3j [z9d bs]=some (.int (bs.length : Int)):=by
  show some (D.int ((bs.map z3Q).length : Nat))=_
  rw [List.length_map]
theorem y1Q {o : List Int} : z3j [y1J o]=some (.int (o.length : Int)):=by
  show some (D.int ((o.map D.int).length : Nat))=_
  rw [List.length_map]
theorem y0w : ∀ o : List Int,PyData.canLayAll0 (z4R (o.map D.int))=true
  | []=>rfl
  | n :: o=>by
    show (true && PyData.canLayAll0 (z4R (o.map D.int)))=true
    rw [y0w o]
    rfl
theorem y0R : ∀ o : List Int,PyData.depthAll (z4R (o.map D.int))=0
  | []=>rfl
  | n :: o=>by
    show max 0 (PyData.depthAll (z4R (o.map D.int)))=0
    rw [y0R o]
    rfl
theorem z0B {x : Option Out} {b : SS->Option Out} {I : SS->Prop} {Q : Out->Prop} (h : hol x fun o=>∃ s,o = .nx s∧I s) (k : ∀ s,I s->hol (b s) Q) : hol (z4z x b) Q:=by
  obtain ⟨o,rfl,s,rfl,q⟩:=h
  exact k s q
theorem y6f {bs : List (Int × List Int)} {b : Int × List Int} (hl : bs.length≤1000000) : m0V z5S (some (z9d bs)) (some [z3Q b])=some (z9d (bs ++ [b])):=by
  show Option.map _ (if (bs.map z3Q).length < sizeLine then some (bs.map z3Q ++ [z3Q b]) else none)=_
  rw [List.length_map,if_pos (by rw [PySem.sizeLine_eq]; omega)]
  unfold z9d
  rw [List.map_append]
  rfl
noncomputable def y6m (m : Nat) : List Int:=(List.range m).map fun k=>((k : Nat) : Int)
structure Good (m : Nat) (b : Int × List Int) : Prop where
  lo : 1≤b.1
  hi : b.1≤10 ^ 30
  perm : b.2.Perm (y6m m)
noncomputable def z7j (bs : List (Int × List Int)) : Int:=(bs.map (·.1)).sum
end L2
namespace L2
open PySem
noncomputable def at2 (T : List (List Bool)) (i j : Nat) : Bool:=(T.getD i []).getD j false
noncomputable def thD (th : List Nat) : D:=.lst (th.map nD)
theorem ix_tab' {T : List (List Bool)} {i : Nat} (h : i < T.length) : ixD (tabD T) (.int (i : Int))=some (rowD (T.getD i [])):=by
  rw [ix_tab h]
  simp [List.getD,List.getElem?_eq_getElem h]
theorem ix_row' {r : List Bool} {j : Nat} (h : j < r.length) : ixD (rowD r) (.int (j : Int))=some (.bl (r.getD j false)):=by
  rw [ix_row h]
  simp [List.getD,List.getElem?_eq_getElem h]
theorem Sq.len {n : Nat} {T : List (List Bool)} (h : Sq n T) {i : Nat} (hi : i < n) : (T.getD i []).length=n:=by
  have h1 : i < T.length:=by rw [h.1]; exact hi
  have : T.getD i []=T[i]:=by simp [List.getD,List.getElem?_eq_getElem h1]
  rw [this]
  exact h.row h1
theorem ix2 {n : Nat} {T : List (List Bool)} (h : Sq n T) {i j : Nat} (hi : i < n) (hj : j < n) : o2 ixD (ixD (tabD T) (.int (i : Int))) (some (.int (j : Int)))=some (.bl (at2 T i j)):=by
  rw [ix_tab' (by rw [h.1]; exact hi),eo_2,ix_row' (by rw [h.len hi]; exact hj)]
  rfl
theorem z5s {th : List Nat} : z3j [thD th]=some (.int (th.length : Int)):=by
  show some (D.int ((th.map nD).length : Nat))=_
  rw [List.length_map]
theorem z4N : ∀ th : List Nat,z2C (th.map nD)=true
  | []=>rfl
  | n :: th=>by
    show (true && z2C (th.map nD))=true
    rw [z4N th]
    rfl
theorem y6R (th : List Nat) : okP (thD th)=true:=by
  have e : th.map nD=(th.map fun n=>((n : Nat) : Int)).map D.int:=by rw [List.map_map]; rfl
  unfold okP thD
  rw [e,Bool.and_eq_true,decide_eq_true_eq]
  refine ⟨y0w _,?_⟩
  show PyData.depthAll (z4R ((th.map fun n=>((n : Nat) : Int)).map D.int)) + 1≤60
  rw [y0R]
  decide
theorem ne_self {d : D} (h : okP d=true) : neD d d=some (.bl false):=by
  unfold neD
  rw [h]
  show (if (true && true)=true then some (D.bl (!PyData.eqv (toP d) (toP d))) else none)=_
  rw [if_pos (show (true && true)=true from rfl),SeqAt.eqv_refl _ (z0v h).1]
  rfl
theorem app_thV {th : List Nat} {k : Nat} (hl : th.length≤1000000) : m0V z5S (some (thD th)) (some [.int (k : Int)])=some (thD (th ++ [k])):=by
  show Option.map _ (if (th.map nD).length < sizeLine then some (th.map nD ++ [.int (k : Int)]) else none)=_
  rw [List.length_map,if_pos (by rw [PySem.sizeLine_eq]; omega)]
  unfold thD
  rw [List.map_append]
  rfl
theorem ins_thV {o : List Nat} {b v : Nat} (hb : b≤o.length) (hl : o.length≤1000000) : m0V insF (some (thD o)) (some [.int (b : Int),.int (v : Int)])=some (thD (o.take b ++ v :: o.drop b)):=by
  show Option.map _ (if (o.map nD).length < sizeLine∧-(2 ^ 63)≤(b : Int)∧(b : Int) < 2 ^ 63 then _ else none)=_
  rw [List.length_map,if_pos ⟨by rw [PySem.sizeLine_eq]; omega,by omega,by omega⟩,ins_at hb]
  unfold thD
  rw [List.map_append,List.map_cons,List.map_take,List.map_drop]
  rfl
theorem y6a {fi : DS->Option (List D)} {c : DS->Option Bool} {f : DE} {δ : DS} : z7b fi c f δ=z5A (fi δ) (two (z6I c f δ)):=by
  unfold z7b z5A
  cases fi δ <;> rfl
theorem ev_enum {f : DE} {δ : DS} : y5K f δ=(f δ).bind y4h:=(rfl)
theorem z8L : ∀ {ds : List D} {k : Nat},(z0U k ds).length=ds.length
  | [],_=>rfl
  | d :: r,k=>by show (z0U (k + 1) r).length + 1=r.length + 1; rw [z8L]
end L2
namespace L2
open PySem
noncomputable def chO (F G : D->D->Option D) (x y z : Option D) : Option D:=match x,y with
  | some x,some y=>match F x y with
    | some (.bl true)=>z.bind fun z=>G y z
    | some (.bl false)=>some (.bl false)
    | _=>none
  | _,_=>none
theorem y5Q {F G : D->D->Option D} {f g h : DE} {δ : DS} : z7c F G f g h δ=chO F G (f δ) (g δ) (h δ):=by
  unfold z7c chO
  cases f δ <;> cases g δ <;> rfl
theorem y6o {F G : D->D->Option D} {x y z : D} {b c : Bool} (h1 : F x y=some (.bl b)) (h2 : G y z=some (.bl c)) : chO F G (some x) (some y) (some z)=some (.bl (b && c)):=by
  show (match F x y with
    | some (.bl true)=>(some z).bind fun z=>G y z
    | some (.bl false)=>some (.bl false)
    | _=>none)=_
  rw [h1]
  cases b with
  | true=>exact h2
  | false=>rfl
noncomputable def inO : Option D->Option D->Option Bool
  | some x,some y=>inK x y
  | _,_=>none
theorem ev_din' {f g : DE} {δ : DS} : y4p f g δ=inO (f δ) (g δ):=by
  unfold y4p inO
  cases f δ <;> cases g δ <;> rfl
theorem eo_in {x y : D} : inO (some x) (some y)=inK x y:=(rfl)
theorem ev_dnin {f g : DE} {δ : DS} : y4T f g δ=(y4p f g δ).map (!·):=(rfl)
noncomputable def y4V (o k v : Option D) : Option D:=match o,k,v with
  | some (.dct ks ds),some dk,some d=>(z8B dk).bind fun k=>if z2C ds=true∧ks.length < sizeLine then some (.dct (y0a ks k) (z9E ks ds k d)) else none
  | _,_,_=>none
theorem m_dput {i : Nat} {s : SS} {dk d : D} {ks : List Key} {ds : List D} : (match z8B dk,(some (some (SD.ow (.dct ks ds))) : Option (Option SD)) with
      | some k,some (some (.ow (.dct ks ds)))=>if z2C ds=true∧ks.length < sizeLine then some (Out.nx ((z0Y i s).set i (some (.ow (.dct (y0a ks k) (z9E ks ds k d)))))) else none
      | _,_=>none)=z9g i (y4V (some (.dct ks ds)) (some dk) (some d)) s:=by
  show _=z9g i ((z8B dk).bind _) s
  cases z8B dk with
  | none=>rfl
  | some k=>
    show (if z2C ds=true∧ks.length < sizeLine then _ else _)=z9g i (if z2C ds=true∧ks.length < sizeLine then _ else _) s
    split <;> rfl
theorem ev_dput {i : Nat} {fk fv : DE} {s : SS} : dput i fk fv s=z9g i (y4V (owA i s) (fk (z0H s)) (z9P (fv (z0H s)))) s:=by
  unfold dput owA
  rcases fv (z0H s) with _ | d
  · rcases fk (z0H s) with _ | dk <;> rcases s[i]? with _ | _ | ⟨x | x | ⟨r,x⟩⟩ <;> (first | rfl | (cases x <;> rfl))
  · show (if d.imm=true then _ else _)=z9g i (y4V _ _ (if d.imm=true then some d else none)) s
    split
    · rcases fk (z0H s) with _ | dk
      · rcases s[i]? with _ | _ | ⟨x | x | ⟨r,x⟩⟩ <;> (first | rfl | (cases x <;> rfl))
      · rw [Option.bind_some]
        rcases s[i]? with _ | _ | ⟨x | x | ⟨r,x⟩⟩
        · cases z8B dk <;> rfl
        · cases z8B dk <;> rfl
        · cases z8B dk <;> rfl
        · cases x with
          | dct ks ds=>exact m_dput
          | _=>(cases z8B dk <;> rfl)
        · cases z8B dk <;> rfl
    · rcases fk (z0H s) with _ | dk <;> rcases s[i]? with _ | _ | ⟨x | x | ⟨r,x⟩⟩ <;> (first | rfl | (cases x <;> rfl))
noncomputable def y5h : Option D->Option D->Option (List D)
  | some x,some y=>catLs x y
  | _,_=>none
theorem ev_cat {f g : DE} {δ : DS} : y2A f g δ=y5h (f δ) (g δ):=by
  unfold y2A y5h
  cases f δ <;> cases g δ <;> rfl
theorem y6t {ds es : List D} (h : ds.length + es.length≤1000000) : y5h (some (.lst ds)) (some (.lst es))=some (ds ++ es):=if_pos (z2m h)
theorem es_frz0 {d : D} {r : SS} : y4Z 0 (some (.ow d) :: r)=some (.sh d) :: r:=(rfl)
theorem es_frzS {i : Nat} {x : Option SD} {r : SS} : y4Z (i + 1) (x :: r)=x :: y4Z i r:=by
  unfold y4Z
  rw [List.getElem?_cons_succ]
  rcases r[i]? with _ | _ | ⟨y | y | ⟨q,y⟩⟩ <;> rfl
noncomputable def z8i (p : List Int) : D:=.dct (p.map Sum.inl) (p.map fun _=>.bl true)
theorem told_in {p : List Int} {x : Int} (h : x ∉ p) : inK (.int x) (z8i p)=some false:=by
  show some (y0B (p.map Sum.inl) (.inl x))=_
  congr 1
  unfold y0B
  rw [List.any_map,List.any_eq_false]
  intro y hy z
  have : (Sum.inl y : Key)=Sum.inl x:=of_decide_eq_true z
  cases this
  exact h hy
theorem z8Z : ∀ p : List Int,z2C (p.map fun _=>D.bl true)=true
  | []=>rfl
  | _ :: p=>by
    show (true && z2C (p.map fun _=>D.bl true))=true
    rw [z8Z p]
    rfl
theorem y6c {p : List Int} {x : Int} (h : x ∉ p) (hl : p.length≤1000000) : y4V (some (z8i p)) (some (.int x)) (some (.bl true))=some (z8i (p ++ [x])):=by
  show (if z2C (p.map fun _=>D.bl true)=true∧(p.map (Sum.inl : Int->Key)).length < sizeLine then _ else _)=_
  rw [if_pos ⟨z8Z p,by rw [List.length_map,PySem.sizeLine_eq]; omega⟩]
  have hh : y0B (p.map Sum.inl) (.inl x)=false:=by
    have:=told_in h
    exact Option.some.inj this
  unfold y0a z9E z8i
  rw [hh,if_neg Bool.false_ne_true,if_neg Bool.false_ne_true,List.map_append,List.map_append]
  rfl
theorem y4x {m : Nat} {x : Int} (h : x∈y6m m) : 0≤x∧x < (m : Int):=by
  obtain ⟨k,hk,rfl⟩:=List.mem_map.mp h
  have:=List.mem_range.mp hk
  omega
theorem y1G {m : Nat} : (y6m m).Nodup:=by
  unfold y6m
  rw [List.nodup_iff_pairwise_ne,List.pairwise_map]
  refine List.Pairwise.imp ?_ (List.nodup_iff_pairwise_ne.mp List.nodup_range)
  intro a b h z
  exact h (by omega)
end L2
namespace Prg
open PySem L2
noncomputable def extV (o x : Option D) : Option D:=match x,o with
  | some (.lst es),some (.lst ds)=>if ds.length + es.length≤sizeLine then some (.lst (ds ++ es)) else none
  | _,_=>none
theorem y5v {i : Nat} {f : DE} {s : SS} : y4j i f s=z9g i (extV (owA i s) (f (z0H s))) s:=by
  unfold y4j owA
  rcases f (z0H s) with _ | d
  · rcases s[i]? with _ | _ | ⟨x | x | ⟨r,x⟩⟩ <;> (first | rfl | (cases x <;> rfl))
  · rcases s[i]? with _ | _ | ⟨x | x | ⟨r,x⟩⟩ <;> cases d <;> (first | rfl | (cases x <;> first | rfl | skip))
    rename_i es ds
    show (if ds.length + es.length≤sizeLine then some _ else none)=z9g i (if ds.length + es.length≤sizeLine then some _ else none) s
    split <;> rfl
theorem eo_ext {ds es : List D} (h : ds.length + es.length≤1000000) : extV (some (.lst ds)) (some (.lst es))=some (.lst (ds ++ es)):=if_pos (z2m h)
theorem ev_notN {f : DE} {δ : DS} : y1v f δ=(f δ).map fun d=>!isN d:=(rfl)
theorem z3f : ∀ ns : List Int,z1h (ns.map .int)=some ns
  | []=>rfl
  | n :: ns=>by
    rw [List.map_cons]
    unfold z1h
    rw [z3f ns]
    rfl
theorem y0Y {ns : List Int} (h : ns.length < 64) : z5U [.tup (ns.map .int)]=some ((z5p ns).map .int):=by
  show ((z1h (ns.map .int)).bind fun ns=>if ns.length < 64 then some ((z5p ns).map D.int) else none)=_
  rw [z3f,Option.bind_some,if_pos h]
theorem y4v {ns : List Int} (h : ns.length < 64) : z5U [.lst (ns.map .int)]=some ((z5p ns).map .int):=by
  show ((z1h (ns.map .int)).bind fun ns=>if ns.length < 64 then some ((z5p ns).map D.int) else none)=_
  rw [z3f,Option.bind_some,if_pos h]
noncomputable def sm (f : Nat->Nat) : Nat->Nat
  | 0=>0
  | n + 1=>sm f n + f n
end Prg
namespace L2
open PySem
theorem y0d {α : Type} {enc : α->D} {c : DS->Option Bool} {f : DE} {δ : DS} (p : α->Bool) (g : α->D) {xs : List α} (hl : xs.length≤1000) (hc : ∀ x∈xs,c (δ ++ [some (enc x)])=some (p x)) (hf : ∀ x∈xs,p x=true->f (δ ++ [some (enc x)])=some (g x)) : z5A (some (xs.map enc)) (z5X c f δ)=some ((xs.filter p).map g):=by
  rw [z8d (by rw [List.length_map]; omega)]
  exact z9u p g hc hf
theorem z3u {α : Type} {enc : α->D} {f : DE} {δ : DS} (g : α->D) {xs : List α} (hl : xs.length≤1000) (hf : ∀ x∈xs,f (δ ++ [some (enc x)])=some (g x)) : z5A (some (xs.map enc)) (z5X z6U f δ)=some (xs.map g):=by
  rw [z8d (by rw [List.length_map]; omega)]
  exact z7l g hf
theorem z3a {m : Nat} (h : m≤1000000) : y4O (some (.int (m : Int)))=some (z4d 0 m):=by rw [eo_rng1 (by omega)]; rfl
theorem mem_ths {a : Nat} {th : List Nat} : y4Y (.int (a : Int)) (thD th)=some (th.contains a):=by
  unfold thD y4Y
  show (if (okP (.int (a : Int)) && okP (.lst (th.map nD)))=true then _ else none)=_
  rw [show okP (.lst (th.map nD))=true from y6R th,show okP (.int (a : Int))=true from rfl]
  show some ((th.map nD).any fun y=>PyData.eqv (toP y) (toP (.int (a : Int))))=_
  congr 1
  rw [List.any_map,List.contains_eq_any_beq]
  congr 1
  funext x
  show decide ((x : Int)=(a : Int))=(a == x)
  by_cases h : x=a
  · subst h; simp
  · have : ¬ a=x:=fun e=>h e.symm
    have h2 : ¬ (x : Int)=(a : Int):=by omega
    simp [this,h2]
theorem in_ths {a : Nat} {th : List Nat} : inD (.int (a : Int)) (thD th)=some (.bl (th.contains a)):=by
  unfold inD
  rw [mem_ths]
  rfl
theorem ix0 {c : Nat} {r : List Nat} : ixD (thD (c :: r)) (.int 0)=some (.int (c : Int)):=y6T (k:=0) (xs:=(c :: r).map nD) (by simp)
theorem tru_th {th : List Nat} : z6Y (thD th)=some (!th.isEmpty):=by cases th <;> rfl
theorem y0L {α : Type} {enc : α->D} {c : DS->Option Bool} {f : DE} {δ : DS} (p : Nat->α->Bool) (g : Nat->α->D) : ∀ {xs : List α} {k : Nat},(∀ i (h : i < xs.length),c (δ ++ [some (.int ((k + i : Nat) : Int)),some (enc xs[i])])=some (p (k + i) xs[i]))->(∀ i (h : i < xs.length),p (k + i) xs[i]=true->f (δ ++ [some (.int ((k + i : Nat) : Int)),some (enc xs[i])])=some (g (k + i) xs[i])) →
    z2t (two (z6I c f δ)) (z0U k (xs.map enc))=some (((xs.zipIdx k).filter fun z=>p z.2 z.1).map fun z=>g z.2 z.1)
  | [],_,_,_=>rfl
  | x :: r,k,hc,hf=>by
    have ih:=y0L (xs:=r) (k:=k + 1) p g (fun i h=>by
      have:=hc (i + 1) (by simpa using h)
      have e : k + 1 + i=k + (i + 1):=by omega
      rw [e]
      simpa using this) fun i h hp=>by
      have e : k + 1 + i=k + (i + 1):=by omega
      rw [e] at hp ⊢
      have:=hf (i + 1) (by simpa using h) (by simpa using hp)
      simpa using this
    show z2t _ (.tup [.int (k : Nat),enc x] :: z0U (k + 1) (r.map enc))=_
    unfold z2t
    rw [ih]
    have h0:=hc 0 (by simp)
    have h1:=hf 0 (by simp)
    simp only [Nat.add_zero,List.getElem_cons_zero] at h0 h1
    have e : two (z6I c f δ) (.tup [.int (k : Nat),enc x])=some (if p k x=true then some (g k x) else none):=by
      show z6I c f δ (.int (k : Nat)) (enc x)=_
      unfold z6I
      rw [h0]
      cases hp : p k x with
      | true=>
        have:=h1 hp
        show (if true=true then (f (δ ++ [some (.int (k : Nat)),some (enc x)])).map some else some none)=_
        rw [if_pos rfl,this]
        rfl
      | false=>rfl
    rw [e,List.zipIdx_cons,List.filter_cons]
    show some (y4D _ _)=_
    cases hp : p k x with
    | true=>rfl
    | false=>rfl
theorem cx2_of {α : Type} {enc : α->D} {c : DS->Option Bool} {f : DE} {δ : DS} (p : Nat->α->Bool) (g : Nat->α->D) {xs : List α} (hl : xs.length≤1000) (hc : ∀ i (h : i < xs.length),c (δ ++ [some (.int (i : Int)),some (enc xs[i])])=some (p i xs[i])) (hf : ∀ i (h : i < xs.length),p i xs[i]=true->f (δ ++ [some (.int (i : Int)),some (enc xs[i])])=some (g i xs[i])) :
    z5A (some (z0U 0 (xs.map enc))) (two (z6I c f δ))=some ((xs.zipIdx.filter fun z=>p z.2 z.1).map fun z=>g z.2 z.1):=by
  rw [z8d (by rw [z8L,List.length_map]; omega)]
  refine y0L p g (fun i h=>?_) fun i h hp=>?_
  · rw [Nat.zero_add]; exact hc i h
  · rw [Nat.zero_add] at hp ⊢; exact hf i h hp
theorem y0n {a b : List Nat} (h : a.length + b.length≤1000000) : y5h (some (thD a)) (some (thD b))=some ((a ++ b).map nD):=by
  show y5h (some (.lst (a.map nD))) (some (.lst (b.map nD)))=_
  rw [y6t (by rw [List.length_map,List.length_map]; exact h),List.map_append]
theorem th_lst (o : List Nat) : D.lst (o.map nD)=thD o:=(rfl)
theorem z5m (o : List Nat) : z6j (some (o.map nD))=some (o.map nD):=z3e (z4N o)
theorem z3c : z6j (some [])=some []:=(rfl)
theorem th_nil : D.lst []=thD []:=(rfl)
theorem y0H {α : Type} {enc : α->D} {i : Nat} {b : SS->Option Out} (I : SS->Prop) (p : α->Bool) (d : D) : ∀ {xs : List α} {s : SS},I s->(∀ x∈xs,∀ δ,I δ->hol (b (δ.set i (some (.sh (enc x))))) fun o=>if p x=true then (∃ δ',o = .nx δ'∧I δ') else o = .rt d) →
    hol (z4B i b (xs.map enc) s) fun o=>if xs.all p=true then (∃ δ',o = .nx δ'∧I δ') else o = .rt d
  | [],s,h0,_=>⟨_,rfl,(if_pos rfl).mpr ⟨s,rfl,h0⟩⟩
  | x :: r,s,h0,hs=>by
    obtain ⟨o,e,q⟩:=hs x List.mem_cons_self s h0
    rw [List.map_cons]
    unfold z4B
    rw [e,List.all_cons]
    cases hp : p x with
    | true=>
      rw [hp,if_pos rfl] at q
      obtain ⟨s1,rfl,h1⟩:=q
      rw [Bool.true_and]
      exact y0H I p d h1 fun y hy=>hs y (List.mem_cons_of_mem _ hy)
    | false=>
      rw [hp,if_neg Bool.false_ne_true] at q
      subst q
      rw [Bool.false_and]
      exact ⟨_,rfl,(if_neg Bool.false_ne_true).mpr rfl⟩
theorem y4Q {i : Nat} {b : SS->Option Out} {m : Nat} {s : SS} (I : SS->Prop) (p : Nat->Bool) (d : D) (h0 : I s) (hs : ∀ n < m,∀ δ,I δ->hol (b (δ.set i (some (.sh (.int (n : Int)))))) fun o=>if p n=true then (∃ δ',o = .nx δ'∧I δ') else o = .rt d) :
    hol (z4B i b (z4d 0 m) s) fun o=>if (List.range m).all p=true then (∃ δ',o = .nx δ'∧I δ') else o = .rt d:=by
  rw [z9V]
  exact y0H I p d h0 fun x hx=>hs x (List.mem_range.mp hx)
theorem z5V {x : Option Out} {b : SS->Option Out} {I : SS->Prop} {Q : Out->Prop} {c : Bool} {d : D} (h : hol x fun o=>if c=true then (∃ s,o = .nx s∧I s) else o = .rt d) (k : c=true->∀ s,I s->hol (b s) Q) (kr : c=false->Q (.rt d)) : hol (z4z x b) Q:=by
  obtain ⟨o,rfl,q⟩:=h
  cases hc : c with
  | true=>
    rw [hc,if_pos rfl] at q
    obtain ⟨s,rfl,q⟩:=q
    exact k hc s q
  | false=>
    rw [hc,if_neg Bool.false_ne_true] at q
    subst q
    exact ⟨_,rfl,kr hc⟩
noncomputable def movX (x : Option D) (i j : Nat) (s : SS) : Option Out:=match x with
  | some d=>some (.nx (((z0Y j s).set j none).set i (some (.ow d))))
  | none=>none
theorem ev_mov {i j : Nat} {s : SS} : movO i j s=movX (owA j s) i j s:=by
  unfold movO owA movX
  generalize s[j]? = z
  rcases z with _ | _ | x
  · rfl
  · rfl
  · cases x <;> rfl
theorem eo_mov {d : D} {i j : Nat} {s : SS} : movX (some d) i j s=some (.nx (((z0Y j s).set j none).set i (some (.ow d)))):=(rfl)
theorem z6l {c : DS->Option Bool} {b : SS->Option Out} {QO : Out->Prop} (I : Nat->SS->Prop) : ∀ {n : Nat} {s : SS},I n s->(∀ n δ,I n δ->∃ k,c (z0H δ)=some k∧(k=false->QO (.nx δ))∧(k=true->∃ n',n=n' + 1∧hol (b δ) fun o=>match o with | .nx δ'=>I n' δ' | .ct δ'=>I n' δ' | .bk δ'=>QO (.nx δ') | .rt d=>QO (.rt d) | .ex e δ'=>QO (.ex e δ')))->∀ {f : Nat},n < f->hol (z4A c b f s) QO
  | n,s,h0,hs,0,hf=>absurd hf (by omega)
  | n,s,h0,hs,f + 1,hf=>by
    obtain ⟨k,ec,h1,h2⟩:=hs n s h0
    unfold z4A
    rw [ec]
    cases k with
    | false=>exact ⟨_,rfl,h1 rfl⟩
    | true=>
      obtain ⟨n',rfl,o,eb,q⟩:=h2 rfl
      show hol ((b s).bind _) QO
      rw [eb]
      cases o with
      | nx s1=>exact z6l I q hs (by omega)
      | ct s1=>exact z6l I q hs (by omega)
      | bk s1=>exact ⟨_,rfl,q⟩
      | rt d=>exact ⟨_,rfl,q⟩
      | ex e s1=>exact ⟨_,rfl,q⟩
theorem y5w {th : List Nat} (h : th≠[]) : ixD (thD th) (.int (-1))=some (.int ((th.getLast h : Nat) : Int)):=by
  have hl : 0 < th.length:=List.length_pos_iff.mpr h
  show atI (th.map nD) (-1)=_
  unfold atI
  have e : ixN (th.map nD).length (-1)=some (th.length - 1):=by
    rw [List.length_map]
    unfold ixN
    simp
    omega
  rw [e,List.getLast_eq_getElem]
  show (th.map nD)[th.length - 1]? = _
  rw [List.getElem?_eq_getElem (by simp; omega),List.getElem_map]
  rfl
theorem runX_rt {np nl : Nat} {b : SS->Option Out} {ds : List D} {d : D} (hl : ds.length=np) (h : hol (b (ds.map (fun d=>some (.sh d)) ++ List.replicate nl none)) fun o=>o = .rt d) : z9f np nl b ds=some (.val d):=by
  unfold z9f
  rw [if_pos hl,hol_is.mp h]
theorem runX_nx {np nl : Nat} {b : SS->Option Out} {ds : List D} (hl : ds.length=np) (h : hol (b (ds.map (fun d=>some (.sh d)) ++ List.replicate nl none)) fun o=>∃ s,o = .nx s) : z9f np nl b ds=some (.val .non):=by
  obtain ⟨_,e,s,rfl⟩:=h
  unfold z9f
  rw [if_pos hl,e]
theorem runX_ex {np nl : Nat} {b : SS->Option Out} {ds : List D} {c : Nat} (hl : ds.length=np) (h : hol (b (ds.map (fun d=>some (.sh d)) ++ List.replicate nl none)) fun o=>∃ s,o = .ex c s) : z9f np nl b ds=some (.exc c):=by
  obtain ⟨_,e,s,rfl⟩:=h
  unfold z9f
  rw [if_pos hl,e]
noncomputable def rsX (c : Nat) (x : Option D) (s : SS) : Option Out:=match x with
  | some _=>some (.ex c s)
  | none=>none
theorem y5s {c : Nat} {f : DE} {s : SS} : z5r c f s=rsX c (f (z0H s)) s:=by
  unfold z5r rsX
  generalize f (z0H s)=x
  cases x <;> rfl
theorem y5H {c : Nat} {d : D} {s : SS} : rsX c (some d) s=some (.ex c s):=(rfl)
theorem y4y {m : List D->Option XO} {fl : List DE} {δ : DS} : z5v m fl δ=(z0m fl δ).bind m:=(rfl)
theorem z7z {m : List D->Option XO} {fl : List DE} {δ : DS} : y0j m fl δ=valO ((z0m fl δ).bind m):=(rfl)
noncomputable def xeO (x : Option XO) (s : SS) : Option Out:=match x with
  | some (.val _)=>some (.nx s)
  | some (.exc c)=>some (.ex c s)
  | none=>none
theorem y5f {F : DS->Option XO} {s : SS} : y3y F s=xeO (F (z0H s)) s:=by
  unfold y3y xeO
  generalize F (z0H s)=x
  rcases x with _ | _ | _ <;> rfl
theorem eo_xeV {d : D} {s : SS} : xeO (some (.val d)) s=some (.nx s):=(rfl)
theorem z9U {x : Option Out} {b c : SS->Option Out} : z4z (z4z x b) c=z4z x fun s=>z4z (b s) c:=by
  rcases x with _ | x
  · rfl
  · cases x <;> rfl
noncomputable def r2O (x y : Option D) : Option Out:=match x,y with
  | some d,some e=>some (.rt (.lst [d,e]))
  | _,_=>none
theorem ev_ret2 {i j : Nat} {s : SS} : ret2 i j s=r2O (y1I s i) (y1I s j):=by
  unfold ret2 r2O
  generalize y1I s i=x
  generalize y1I s j=y
  rcases x with _ | x <;> rcases y with _ | y <;> rfl
theorem eo_r2 {d e : D} : r2O (some d) (some e)=some (.rt (.lst [d,e])):=(rfl)
theorem es_own0 {d : D} {r : SS} : y1I (some (.ow d) :: r) 0=some d:=(rfl)
theorem es_ownS {x : Option SD} {r : SS} {i : Nat} : y1I (x :: r) (i + 1)=y1I r i:=by
  unfold y1I
  rw [List.getElem?_cons_succ]
end L2
namespace L2
open PySem
noncomputable def okN (n : Nat) (d : D) : Prop:=(toP d).canLay0=true∧(toP d).depth≤n
noncomputable def oksN (n : Nat) (ds : List D) : Prop:=PyData.canLayAll0 (z4R ds)=true∧PyData.depthAll (z4R ds)≤n
theorem z9l {n : Nat} : ∀ {ds : List D},(∀ d∈ds,okN n d)->oksN n ds
  | [],_=>⟨rfl,Nat.zero_le n⟩
  | d :: ds,h=>by
    have h1:=h d List.mem_cons_self
    have h2:=z9l fun x hx=>h x (List.mem_cons_of_mem _ hx)
    constructor
    · show (PyData.canLay0 (toP d) && PyData.canLayAll0 (z4R ds))=true
      rw [h1.1,h2.1]
      rfl
    · show max (PyData.depth (toP d)) (PyData.depthAll (z4R ds))≤n
      have:=h1.2
      have:=h2.2
      omega
theorem okN_lst {n : Nat} {ds : List D} (h : ∀ d∈ds,okN n d) : okN (n + 1) (.lst ds):=by
  have:=z9l h
  exact ⟨this.1,Nat.succ_le_succ this.2⟩
theorem z9T {n : Nat} {ds : List D} (h : ∀ d∈ds,okN n d) : okN (n + 1) (.tup ds):=by
  have:=z9l h
  exact ⟨this.1,Nat.succ_le_succ this.2⟩
theorem z7N {α : Type} {n : Nat} {f : α->D} {xs : List α} (h : ∀ x∈xs,okN n (f x)) : okN (n + 1) (.lst (xs.map f)):=okN_lst fun d hd=>by
  obtain ⟨x,hx,rfl⟩:=List.mem_map.mp hd
  exact h x hx
theorem z5I {α : Type} {n : Nat} {f : α->D} {xs : List α} (h : ∀ x∈xs,okN n (f x)) : okN (n + 1) (.tup (xs.map f)):=z9T fun d hd=>by
  obtain ⟨x,hx,rfl⟩:=List.mem_map.mp hd
  exact h x hx
theorem okN_up {n k : Nat} {d : D} (h : okN n d) (hk : n≤k) : okN k d:=⟨h.1,Nat.le_trans h.2 hk⟩
theorem z2J {i : Int} : okN 0 (.int i):=⟨rfl,Nat.le_refl 0⟩
theorem z6q {n : Nat} : okN 0 (nD n):=z2J
theorem okN_th (th : List Nat) : okN 1 (thD th):=z7N fun _ _=>z6q
theorem y0N (o : List Int) : okN 1 (.lst (o.map .int)):=z7N fun _ _=>z2J
theorem z5u {n : Nat} {d : D} (h : okN n d) (hn : n≤60) : okP d=true:=by
  unfold okP
  rw [Bool.and_eq_true,decide_eq_true_eq]
  exact ⟨h.1,Nat.le_trans h.2 hn⟩
theorem z5T {n : Nat} {d : D} (h : okN n d) (hn : n≤60) : neD d d=some (.bl false):=ne_self (z5u h hn)
theorem z9s {n : Nat} {d : D} (h : okN n d) (hn : n≤60) : eqD d d=some (.bl true):=eq_self (z5u h hn)
theorem z5L {α : Type} {enc : α->D} {xs : List α} {x : α} (hl : xs.length≤1000000) : m0V z5S (some (.lst (xs.map enc))) (some [enc x])=some (.lst ((xs ++ [x]).map enc)):=by
  show (if (xs.map enc).length < sizeLine then some (xs.map enc ++ [enc x]) else none).map D.lst=_
  rw [List.length_map,if_pos (by rw [PySem.sizeLine_eq]; omega),List.map_append]
  rfl
theorem z2z {α : Type} {enc : α->D} {xs : List α} {k : Nat} {x : α} (h : xs[k]? = some x) : ixD (.lst (xs.map enc)) (.int (k : Int))=some (enc x):=y2g (by rw [List.getElem?_map,h]; rfl)
theorem z5a {α : Type} {enc : α->D} {xs : List α} {k : Nat} {d : α} (h : k < xs.length) : ixD (.lst (xs.map enc)) (.int (k : Int))=some (enc (xs.getD k d)):=z2z (by simp [List.getD,List.getElem?_eq_getElem h])
theorem ixT_map {α : Type} {enc : α->D} {xs : List α} {k : Nat} {x : α} (h : xs[k]? = some x) : ixD (.tup (xs.map enc)) (.int (k : Int))=some (enc x):=by
  show atI _ _=_
  exact z0u (by rw [List.getElem?_map,h]; rfl)
theorem len_map {α : Type} {enc : α->D} {xs : List α} : z3j [.lst (xs.map enc)]=some (.int (xs.length : Int)):=by
  show some (D.int ((xs.map enc).length : Int))=_
  rw [List.length_map]
theorem y2J {x : D} {r : List D} : atI (x :: r) 0=some x:=z0u (j:=0) rfl
noncomputable def inD' (ws : List Int) : D:=.lst (ws.map .int)
noncomputable def ttD (o : List Nat) : D:=.tup (o.map nD)
theorem tup_th {o : List Nat} : y6z [thD o]=some (ttD o):=(rfl)
theorem y6L {o : List Nat} : z3j [ttD o]=some (.int (o.length : Int)):=by
  show some (D.int ((o.map nD).length : Int))=_
  rw [List.length_map]
theorem z3I {o : List Nat} : y1r (ttD o)=some (o.map nD):=(rfl)
theorem z5P : ∀ {ds : List D},(∀ d∈ds,d.imm=true)->z2C ds=true
  | [],_=>rfl
  | d :: ds,h=>by
    show (d.imm && z2C ds)=true
    rw [h d List.mem_cons_self,z5P fun x hx=>h x (List.mem_cons_of_mem _ hx)]
    rfl
theorem imm_tt {o : List Nat} : z9P (some (ttD o))=some (ttD o):=by
  show (if (D.tup (o.map nD)).imm=true then some (D.tup (o.map nD)) else none)=_
  rw [if_pos (show (D.tup (o.map nD)).imm=true from z4N o)]
  rfl
noncomputable def y2C (x : Option D) (lo hi : Option (Option Int)) : Option D:=match x,lo,hi with
  | some (.tup ds),some l,some h=>some (.tup (z4Q ds l h))
  | _,_,_=>none
theorem ev_cutT {f : DE} {fl fh : DS->Option (Option Int)} {δ : DS} : y0b f fl fh δ=y2C (f δ) (fl δ) (fh δ):=by
  unfold y0b y2C
  rcases f δ with _ | (_ | _ | _ | _ | _ | _ | _ | _) <;> first | rfl | (cases fl δ <;> cases fh δ <;> rfl)
theorem z8I {ds : List D} {k : Nat} (hk : k≤ds.length) : z4Q ds none (some (k : Int))=ds.take k:=by
  unfold z4Q
  have e1 : HT.sIx ds.length 0 none=0:=rfl
  have e2 : HT.sIx ds.length ds.length (some (k : Int))=k:=by
    show (if (k : Int) < 0 then ((k : Int) + (ds.length : Int)).toNat else min (k : Int).toNat ds.length)=k
    rw [if_neg (by omega)]
    omega
  rw [e1,e2,List.drop_zero,Nat.sub_zero]
theorem z3G {ds : List D} {k : Nat} : z4Q ds (some (k : Int)) none=ds.drop k:=by
  unfold z4Q
  have e1 : HT.sIx ds.length 0 (some (k : Int))=min k ds.length:=by
    show (if (k : Int) < 0 then ((k : Int) + (ds.length : Int)).toNat else min (k : Int).toNat ds.length)=_
    rw [if_neg (by omega),Int.toNat_natCast]
  have e2 : HT.sIx ds.length ds.length none=ds.length:=rfl
  rw [e1,e2]
  by_cases h : k≤ds.length
  · rw [Nat.min_eq_left h]
    exact List.take_of_length_le (by rw [List.length_drop]; exact Nat.le_refl _)
  · rw [Nat.min_eq_right (by omega),List.drop_of_length_le (Nat.le_refl _),List.drop_of_length_le (by omega),List.take_nil]
theorem y1S {o : List Nat} {k : Nat} (hk : k≤o.length) : y2C (some (ttD o)) (some none) (some (some (k : Int)))=some (ttD (o.take k)):=by
  show some (D.tup (z4Q (o.map nD) none (some (k : Int))))=_
  rw [z8I (by simpa using hk),← List.map_take]
  rfl
theorem max_in {ws : List Int} (h : ws≠[]) : y2H [inD' ws]=some (.int (mxI ws)):=by
  show ((z1h (ws.map D.int)).bind fun ns=>if ns.isEmpty=true then none else some (D.int (mxI ns)))=_
  rw [z5Q,Option.bind_some,if_neg (by simpa using h)]
theorem min_in {ws : List Int} (h : ws≠[]) : y3F [inD' ws]=some (.int (mnI ws)):=by
  show ((z1h (ws.map D.int)).bind fun ns=>if ns.isEmpty=true then none else some (D.int (mnI ns)))=_
  rw [z5Q,Option.bind_some,if_neg (by simpa using h)]
theorem lst_in {ws : List Int} : D.lst (ws.map .int)=inD' ws:=(rfl)
theorem flat_in (o : List Int) : z6j (some (o.map D.int))=some (o.map D.int):=z3e (z7R o)
end L2
namespace L2
open PySem
end L2
namespace L2
open PySem
end L2
namespace L2
open PySem
end L2
namespace L2
open PySem
end L2
namespace L2
open PySem
end L2
namespace L2
open PySem
end L2
set_option maxHeartbeats 4000000
namespace Prg
open PySem PySem.Spec PyProof.Rows L2
noncomputable def top (i : Nat) : Stmt:=PySem.Challenge.pw_askorder_k56_whole_line_or_bar.main.body.getD i (.Pass ⟨0,0,0,0⟩)
noncomputable abbrev z2n : Stmt:=top 5
noncomputable abbrev y1C : List Str:=["value", "many"]
noncomputable abbrev z5g : List Str:=["value", "many"]
noncomputable abbrev z0D : Stmt:=top 6
noncomputable abbrev z4Y : List Str:=["order", "many", "told", "thing"]
noncomputable abbrev z1U : List Str:=["order", "many"]
noncomputable abbrev z5f : Stmt:=top 7
noncomputable abbrev N_asked : List Str:=["votes", "many", "ballot"]
noncomputable abbrev z7n : List Str:=["votes", "many"]
noncomputable abbrev z3N : Stmt:=top 8
noncomputable abbrev y5a : List Str:=["votes"]
noncomputable abbrev z7B : List Str:=["votes"]
noncomputable abbrev z1D : Stmt:=top 9
noncomputable abbrev z8V : List Str:=["order", "one", "other"]
noncomputable abbrev z3t : List Str:=["order", "one", "other"]
noncomputable abbrev z2U : Stmt:=top 11
noncomputable abbrev y1T : List Str:=["order", "line"]
noncomputable abbrev z6C : List Str:=["order", "line"]
noncomputable abbrev z0A : Stmt:=top 12
noncomputable abbrev z4H : List Str:=["things", "line", "places"]
noncomputable abbrev z1J : List Str:=["things", "line"]
noncomputable abbrev z2V : Stmt:=top 13
noncomputable abbrev y1U : List Str:=["votes", "many", "lines", "ballot"]
noncomputable abbrev z4O : List Str:=["votes", "many"]
noncomputable abbrev z1R : Stmt:=top 14
noncomputable abbrev z9h : List Str:=["order", "lines", "thing"]
noncomputable abbrev z4o : List Str:=["order"]
noncomputable abbrev z3R : Stmt:=top 15
noncomputable abbrev y4K : List Str:=["votes", "many", "rising", "lasts"]
noncomputable abbrev z7D : List Str:=["votes", "many"]
noncomputable abbrev z5n : Stmt:=top 16
noncomputable abbrev N_picks : List Str:=["count", "many", "found", "step"]
noncomputable abbrev z9N : List Str:=["count", "many"]
noncomputable abbrev z0V : Stmt:=top 17
noncomputable abbrev z6c : List Str:=["found", "many", "longer", "things"]
noncomputable abbrev z2o : List Str:=["found", "many"]
noncomputable abbrev z1X : Stmt:=top 18
noncomputable abbrev z9O : List Str:=["votes", "kind", "found", "things", "places"]
noncomputable abbrev z4j : List Str:=["votes", "kind", "found"]
noncomputable abbrev z1Z : Stmt:=top 19
noncomputable abbrev z9r : List Str:=["kind", "things", "first", "second"]
noncomputable abbrev z4f : List Str:=["kind", "things"]
noncomputable abbrev z0F : Stmt:=top 20
noncomputable abbrev z4U : List Str:=["things", "last"]
noncomputable abbrev z1Q : List Str:=["things", "last"]
noncomputable abbrev z0y : Stmt:=top 21
noncomputable abbrev z3W : List Str:=["one", "between", "other", "above"]
noncomputable abbrev z1v : List Str:=["one", "between", "other", "above"]
noncomputable abbrev z1l : Stmt:=top 22
noncomputable abbrev z6F : List Str:=["votes", "wanted", "places", "pairs", "found"]
noncomputable abbrev z2K : List Str:=["votes", "wanted"]
noncomputable abbrev z0Q : Stmt:=top 23
noncomputable abbrev z5B : List Str:=["order", "pairs"]
noncomputable abbrev z2k : List Str:=["order", "pairs"]
noncomputable abbrev z1k : Stmt:=top 25
noncomputable abbrev z6L : List Str:=["script", "k"]
noncomputable abbrev z2M : List Str:=["script", "k"]
noncomputable abbrev z1E : Stmt:=top 26
noncomputable abbrev z8D : List Str:=["found"]
noncomputable abbrev z3A : List Str:=["found"]
noncomputable abbrev z1F : Stmt:=top 27
noncomputable abbrev z8K : List Str:=["cell", "many", "order", "k"]
noncomputable abbrev z3q : List Str:=["cell", "many"]
noncomputable abbrev z1m : Stmt:=top 28
noncomputable abbrev z6G : List Str:=["cell", "line", "low", "high", "order"]
noncomputable abbrev z2N : List Str:=["cell", "line"]
noncomputable abbrev z1T : Stmt:=top 29
noncomputable abbrev z9o : List Str:=["order", "line", "low", "high", "one", "at"]
noncomputable abbrev z4i : List Str:=["order", "line"]
noncomputable abbrev z1I : Stmt:=top 30
noncomputable abbrev z8C : List Str:=["script", "many", "line", "share", "votes", "cell", "order"]
noncomputable abbrev z3H : List Str:=["script", "many", "line", "share"]
noncomputable abbrev z1Y : Stmt:=top 31
noncomputable abbrev z9A : List Str:=["order", "things"]
noncomputable abbrev z4n : List Str:=["order", "things"]
noncomputable abbrev z1O : Stmt:=top 32
noncomputable abbrev z9v : List Str:=["votes", "paper", "orders", "k", "one", "other"]
noncomputable abbrev z4k : List Str:=["votes", "paper"]
noncomputable abbrev z0E : Stmt:=top 33
noncomputable abbrev z4T : List Str:=["votes", "many", "line", "one"]
noncomputable abbrev z1P : List Str:=["votes", "many", "line"]
noncomputable abbrev z0N : Stmt:=top 34
noncomputable abbrev z5C : List Str:=["votes", "many", "paper", "counts", "one"]
noncomputable abbrev z2f : List Str:=["votes", "many", "paper"]
noncomputable abbrev z1G : Stmt:=top 35
noncomputable abbrev z8t : List Str:=["many", "found", "one", "longer", "order", "at"]
noncomputable abbrev z3B : List Str:=["many"]
noncomputable abbrev z0M : Stmt:=top 36
noncomputable abbrev z5z : List Str:=["votes", "many", "orders", "ballot", "line", "good", "order"]
noncomputable abbrev z2g : List Str:=["votes", "many"]
noncomputable abbrev z7s : Stmt:=top 37
noncomputable abbrev N_law : List Str:=["script", "many", "line", "votes", "handed", "paper"]
noncomputable abbrev P_law : List Str:=["script"]
theorem nd0 : (["votes", "ballot"] : List Str).Nodup:=by decide +kernel
theorem nd1 : (["things", "line", "places", "thing"] : List Str).Nodup:=by decide +kernel
theorem nd2 : (["order", "line", "count"] : List Str).Nodup:=by decide +kernel
theorem nd3 : (["order", "lines", "thing", "line"] : List Str).Nodup:=by decide +kernel
theorem nd4 : (["found", "many", "longer", "things", "thing"] : List Str).Nodup:=by decide +kernel
theorem nd5 : (["things", "last", "thing"] : List Str).Nodup:=by decide +kernel
theorem nd6 : (["kind", "things", "first", "second", "last"] : List Str).Nodup:=by decide +kernel
theorem nd7 : (["order", "pairs", "pair"] : List Str).Nodup:=by decide +kernel
theorem nd8 : (["votes", "wanted", "places", "pairs", "found", "place", "ballot"] : List Str).Nodup:=by decide +kernel
theorem nd9 : (["votes", "many", "rising", "lasts", "things"] : List Str).Nodup:=by decide +kernel
theorem nd10 : (["votes", "many", "lines", "ballot", "line"] : List Str).Nodup:=by decide +kernel
theorem nd11 : (["script", "many", "line", "share", "votes", "cell", "order", "ballot"] : List Str).Nodup:=by decide +kernel
theorem nd12 : (["order", "things", "one"] : List Str).Nodup:=by decide +kernel
theorem nd13 : (["votes", "paper", "orders", "k", "one", "other", "thing"] : List Str).Nodup:=by decide +kernel
theorem nd14 : (["votes", "paper", "orders", "k", "one", "other", "place"] : List Str).Nodup:=by decide +kernel
theorem nd15 : (["votes", "many", "line", "one", "ballot"] : List Str).Nodup:=by decide +kernel
noncomputable def z5o : SS->Option Out:=(z2r (y0U (dIs "int" (z0f 0)) (y0U (d1 uNot (dIs "bool" (z0f 0))) (z7c leI ltI (dC (.int 0)) (z0f 0) (z0f 1)))))
noncomputable def z2l : List D->Option D:=z2Y 2 0 z5o
noncomputable def z1u : SS->Option Out:=(z0P (ifO (z0C (d2 neD (z0k z3j [(z0f 0)]) (z0f 1))) (z2r (dC (.bl false))) z1s)
  (z0P (z4b 2 (dC (.dct [] [])))
  (z0P (z5K 3 (z3U (z0f 0)) (z0P (ifO (z8m (z4m (z1H (z0k z2l [(z0f 3),(z0f 1)]))) (y4p (z0f 3) (z0f 2))) (z2r (dC (.bl false))) z1s)
  (dput 2 (z0f 3) (dC (.bl true)))))
  (z2r (dC (.bl true))))))
noncomputable def z0G : List D->Option D:=z2Y 2 2 z1u
noncomputable def z7w : SS->Option Out:=(z2r (z0k sumF [(mkL (z1M (z3U (z0f 0)) z6U (d2 ixD (z0f 1) (dC (.int 0)))))]))
noncomputable def z4G : List D->Option D:=z2Y 1 0 z7w
noncomputable def z7X : SS->Option Out:=(z0P (z5K 2 (z3U (z0f 0)) (ifO (z4m (z1H (z0k z0G [(d2 ixD (z0f 2) (dC (.int 1))),(z0f 1)]))) (z5r 1 (dC (.str "the order of a ballot does not tell each thing once and nothing else"))) z1s))
  (ifO (z0C (d2 eqD (d2 z5x (z0k z4G [(z0f 0)]) (dC (.int 2))) (dC (.int 0)))) (z5r 2 (dC (.str "the voices of all ballots together are an even number"))) z1s))
noncomputable def z5h : List D->Option XO:=z9f 2 1 z7X
noncomputable def z3r : SS->Option Out:=(z2r (d2 ltI (d2 y6E (z0f 0) (z0f 1)) (d2 y6E (z0f 0) (z0f 2))))
noncomputable def z2c : List D->Option D:=z2Y 3 0 z3r
noncomputable def z1K : SS->Option Out:=(z0P (z4b 2 (z0L (z1M (z3U (z0f 0)) z6U (d2 y5p (z0f 1) (z0f 3)))))
  (z2r (d2 eqD (d2 y4q (z0k y2H [(z0f 2)]) (z0k y3F [(z0f 2)])) (d2 y4q (z0k z3j [(z0f 0)]) (dC (.int 1))))))
noncomputable def z0R : List D->Option D:=z2Y 2 1 z1K
noncomputable def z6z : SS->Option Out:=(z2r (z0k allF [(mkL (z1M (y5m (dC (.int 1)) (d2 z9e (z0k z3j [(z0f 0)]) (dC (.int 1)))) z6U (z0k z0R [(y0b (z0f 0) z3L (z6w (z0f 2))),(z0f 1)])))]))
noncomputable def z3D : List D->Option D:=z2Y 2 0 z6z
noncomputable def z4p : SS->Option Out:=(z0P (y4B 1 (mkL (z0m [(z0L (z0m [(d2 ixD (z0f 0) (dC (.int 0)))]))])))
  (z0P (z5K 2 (z3U (y0b (z0f 0) (z6w (dC (.int 1))) z3L)) (y4B 1 (mkL (y2A (mkL (z1M (z3U (z0f 1)) z6U (z0L (y2A (mkL (z0m [(z0f 2)])) (z0f 3))))) (mkL (z1M (z3U (z0f 1)) z6U (z0L (y2A (z0f 3) (mkL (z0m [(z0f 2)]))))))))))
  (retS (z0f 1))))
noncomputable def z2q : List D->Option D:=z2Y 1 2 z4p
noncomputable def z2B : SS->Option Out:=(z0P (z4b 2 (z0L (z0m [])))
  (z0P (z5K 3 (z3U (z0f 0)) (y4j 2 (z0L (z1M (z5j (z0f 1)) (z0C (d2 y6j (z0f 4) (z0f 3))) (d2 catT (z0f 3) (mkT (z0m [(z0f 4)])))))))
  (y2r 2)))
noncomputable def z1p : List D->Option D:=z2Y 2 2 z2B
noncomputable def z9L : SS->Option Out:=(z0P (z4b 2 (z0L (z0m [(mkT (z0m []))])))
  (z0P (z5K 3 (z5j (z0f 0)) (z4b 2 (z0k z1p [(z0f 2),(z0f 1)])))
  (y2r 2)))
noncomputable def z3C : List D->Option D:=z2Y 2 2 z9L
noncomputable def z1N : SS->Option Out:=(y6x (z0L (z1M (z3U (z0f 0)) (z0C (d2 neD (z0f 2) (z0f 1))) (mkT (z0m [(z0f 2),(z0f 1)])))))
noncomputable def z1a : List D->Option D:=z2Y 2 0 z1N
noncomputable def z1x : SS->Option Out:=(y6x (z0L (z0m [(mkT (z0m [(z0f 0),(z0f 1)])),(mkT (z0m [(z0f 1),(z0f 2)])),(mkT (z0m [(z0f 3),(z0f 1)]))])))
noncomputable def z0r : List D->Option D:=z2Y 4 0 z1x
noncomputable def z3b : SS->Option Out:=(z0P (ifO (z0C (d2 eqD (z0f 0) (dC (.str "lasts")))) (y6x (mkL (z1M (z3U (z0f 1)) z6U (z0k z1a [(z0f 1),(z0f 4)])))) z1s)
  (z0P (z4b 2 (z0k z0r [(d2 ixD (z0f 1) (dC (.int 0))),(d2 ixD (z0f 1) (dC (.int 1))),(d2 ixD (z0f 1) (dC (.int 2))),(d2 ixD (z0f 1) (dC (.int 3)))]))
  (z0P (z4b 3 (z0k z0r [(d2 ixD (z0f 1) (dC (.int 2))),(d2 ixD (z0f 1) (dC (.int 1))),(d2 ixD (z0f 1) (dC (.int 0))),(d2 ixD (z0f 1) (dC (.int 3)))]))
  (ret2 2 3))))
noncomputable def z1r : List D->Option D:=z2Y 2 2 z3b
noncomputable def z2j : SS->Option Out:=(z2r (z0k allF [(mkL (z1M (z3U (z0f 1)) z6U (z0k z2c [(z0f 0),(d2 ixD (z0f 2) (dC (.int 0))),(d2 ixD (z0f 2) (dC (.int 1)))])))]))
noncomputable def z1g : List D->Option D:=z2Y 2 0 z2j
noncomputable def z2L : SS->Option Out:=(z0P (z4b 2 (z0L (z0m [])))
  (z0P (z5K 3 (z3U (z0f 1)) (z0P (z4b 4 (z0L (z7b (y5K (z0f 0)) (z1H (z0k z1g [(d2 ixD (z0f 6) (dC (.int 1))),(z0f 3)])) (z0f 5))))
  (z0P (ifO (z4m (z1H (z0f 4))) (z2r (dC .non)) z1s)
  (m0 2 z5S [(d2 ixD (z0f 4) (dC (.int 0)))]))))
  (z2r (z0k y6z [(z0f 2)]))))
noncomputable def z1j : List D->Option D:=z2Y 2 3 z2L
noncomputable def z4l : SS->Option Out:=(z0P (z5K 3 (z3U (z0f 2)) (z0P (z4b 4 (z0k z1j [(z0f 0),(z0k z1r [(z0f 1),(z0f 3)])]))
  (ifO (y1v (z0f 4)) (z2r (mkT (z0m [(z0f 1),(z0f 3),(z0f 4)]))) z1s)))
  (z2r (dC .non)))
noncomputable def z1W : List D->Option D:=z2Y 3 2 z4l
noncomputable def z7C : SS->Option Out:=(z0P (z4b 2 (z0L (z1M (z3U (z0k z3C [(dC (.int 3)),(z0f 1)])) (z0C (d2 eqD (mkL (z3o z7U [(z0f 4)])) (mkL (z3o z5U [(z0f 4)])))) (z0f 4))))
  (z0P (z4b 3 (z0k z1W [(z0f 0),(dC (.str "lasts")),(z0f 2)]))
  (z0P (ifO (y1v (z0f 3)) (z2r (z0f 3)) z1s)
  (y6x (z0k z1W [(z0f 0),(dC (.str "turned")),(z0k z3C [(dC (.int 4)),(z0f 1)])])))))
noncomputable def z4y : List D->Option D:=z2Y 2 2 z7C
noncomputable def z4C : SS->Option Out:=(z0P (y3y (z5v z5h [(z0f 0),(z0f 1)]))
  (z0P (y4B 2 (z0k z2q [(d2 ixD (d2 ixD (z0f 0) (dC (.int 0))) (dC (.int 1)))]))
  (z0P (z5K 3 (z3U (mkL (y6w (z0f 0) (z6w (dC (.int 1))) z3L))) (y4B 2 (mkL (z1M (z3U (z0f 2)) (z1H (z0k z3D [(d2 ixD (z0f 3) (dC (.int 1))),(z0f 4)])) (z0f 4)))))
  (z0P (ifO (z1H (z0f 2)) (retS (mkT (z0m [(dC (.str "line")),(d2 ixD (z0f 2) (dC (.int 0)))]))) z1s)
  (retS (z0k z4y [(z0f 0),(z0f 1)]))))))
noncomputable def z2u : List D->Option XO:=z9f 2 2 z4C
noncomputable def z2a : SS->Option Out:=(z0P (ifO (z0C (d2 ltI (z0f 1) (z0k z3j [(z0f 0)]))) (z2r (d2 ixD (z0f 0) (z0f 1))) z1s)
  (z2r (dC (.int 0))))
noncomputable def z0t : List D->Option D:=z2Y 2 0 z2a
noncomputable def z2G : SS->Option Out:=(z2r (y0U (dIs "int" (z0f 0)) (d1 uNot (dIs "bool" (z0f 0)))))
noncomputable def z1d : List D->Option D:=z2Y 1 0 z2G
noncomputable def z3y : SS->Option Out:=(z0P (z4b 2 (z0L (z0m [])))
  (z0P (z5K 3 (z5j (z0f 1)) (z0P (m0 2 insF [(d2 z5x (z0f 0) (d2 z9e (z0f 3) (dC (.int 1)))),(z0f 3)])
  (z5q 0 (d2 z8w (z0f 0) (d2 z9e (z0f 3) (dC (.int 1)))))))
  (y2r 2)))
noncomputable def z1o : List D->Option D:=z2Y 2 2 z3y
noncomputable def z2P : SS->Option Out:=(z0P (z5q 2 (d2 z5x (z0f 0) (z0k z3j [(z0f 1)])))
  (z0P (z5q 3 (d2 z9e (z0f 2) (dC (.int 1))))
  (z0P (z4b 4 (z0L (z0m [(d2 ixD (z0f 1) (z0f 2))])))
  (z0P (z5q 0 (d2 z8w (z0f 0) (z0k z3j [(z0f 1)])))
  (z0P (z4A (z0C (d2 ltI (z0k z3j [(z0f 4)]) (z0k z3j [(z0f 1)]))) (z0P (ifO (z8m (z0C (d2 eqD (z0f 3) (z0k z3j [(z0f 1)]))) (y3z (z0C (d2 gtI (z0f 2) (dC (.int 0)))) (z0C (d2 eqD (d2 z5x (z0f 0) (dC (.int 2))) (dC (.int 1)))))) (z0P (z5q 2 (d2 y4q (z0f 2) (dC (.int 1))))
  (m0 4 z5S [(d2 ixD (z0f 1) (z0f 2))])) (z0P (m0 4 z5S [(d2 ixD (z0f 1) (z0f 3))])
  (z5q 3 (d2 z9e (z0f 3) (dC (.int 1))))))
  (z5q 0 (d2 z8w (z0f 0) (dC (.int 2))))) 100)
  (y2r 4))))))
noncomputable def z1y : List D->Option D:=z2Y 2 3 z2P
noncomputable def z4s : SS->Option Out:=(z0P (z5q 2 (d2 y5p (z0f 1) (d2 ixD (z0f 0) (dC (.int 0)))))
  (z0P (z5q 3 (z0f 2))
  (z0P (z5K 4 (z3U (y0b (z0f 0) (z6w (dC (.int 1))) z3L)) (z0P (z5q 5 (d2 y5p (z0f 1) (z0f 4)))
  (ifO (z0C (d2 eqD (z0f 5) (d2 y4q (z0f 2) (dC (.int 1))))) (z5q 2 (z0f 5)) (ifO (z0C (d2 eqD (z0f 5) (d2 z9e (z0f 3) (dC (.int 1))))) (z5q 3 (z0f 5)) (z2r (dC (.bl false)))))))
  (z2r (dC (.bl true))))))
noncomputable def z1f : List D->Option D:=z2Y 2 4 z4s
noncomputable def z3v : SS->Option Out:=(z0P (z4b 4 (z0L (z0m [])))
  (z0P (z5K 5 (z3U (mkL (y6w (z0f 0) (z6w (dC (.int 3))) (z6w (dC (.int 101)))))) (z0P (z4b 6 (z0k z1o [(d2 z5x (d2 z8w (z0f 5) (z0f 3)) (dC (.int 40320))),(z0f 1)]))
  (z0P (ifO (z0C (d2 gtI (d2 z5x (z0f 5) (z0f 3)) (dC (.int 0)))) (z4b 6 (z0k z1y [(d2 z5x (d2 z8w (z0f 5) (z0f 3)) (dC (.int 40320))),(z0f 2)])) z1s)
  (m0 4 z5S [(mkT (z0m [(d2 z9e (dC (.int 1)) (d2 z5x (d2 z8w (z0f 5) (dC (.int 80640))) (d2 y4q (d2 powI (dC (.int 10)) (dC (.int 30))) (dC (.int 1))))),(z0k y6z [(z0f 6)])]))]))))
  (z0P (ifO (z0C (d2 eqD (z0k z3j [(z0f 4)]) (dC (.int 0)))) (m0 4 z5S [(mkT (z0m [(d2 z9e (dC (.int 1)) (d2 z5x (z0k z0t [(z0f 0),(dC (.int 2))]) (d2 y4q (d2 powI (dC (.int 10)) (dC (.int 30))) (dC (.int 1))))),(z0k y6z [(z0f 2)])]))]) z1s)
  (z0P (ifO (z0C (d2 eqD (d2 z5x (z0k sumF [(mkL (z1M (z3U (z0f 4)) z6U (d2 ixD (z0f 7) (dC (.int 0)))))]) (dC (.int 2))) (dC (.int 0)))) (st0 4 (dC (.int 0)) (mkT (z0m [(d2 z9e (d2 ixD (d2 ixD (z0f 4) (dC (.int 0))) (dC (.int 0))) (dC (.int 1))),(d2 ixD (d2 ixD (z0f 4) (dC (.int 0))) (dC (.int 1)))]))) z1s)
  (y2r 4)))))
noncomputable def z2b : List D->Option D:=z2Y 4 3 z3v
noncomputable def z4g : SS->Option Out:=(z2r (d2 ixD (mkL (z1M (z3U (z0f 0)) (z0C (d2 inD (z0f 2) (z0f 1))) (z0f 2))) (d1 uNeg (dC (.int 1)))))
noncomputable def z2s : List D->Option D:=z2Y 2 0 z4g
noncomputable def z3g : SS->Option Out:=(z0P (z4b 2 (z0L (z1M (z3U (d2 ixD (z0f 1) (dC (.int 2)))) z6U (d2 ixD (d2 ixD (z0f 0) (z0f 6)) (dC (.int 1))))))
  (z0P (ifO (z0C (d2 eqD (d2 ixD (z0f 1) (dC (.int 0))) (dC (.str "lasts")))) (z0P (z5K 3 (z5j (dC (.int 3))) (ifO (z0C (d2 neD (z0k z2s [(d2 ixD (z0f 2) (z0f 3)),(d2 ixD (z0f 1) (dC (.int 1)))]) (d2 ixD (d2 ixD (z0f 1) (dC (.int 1))) (z0f 3)))) (z2r (dC (.bl false))) z1s))
  (z2r (dC (.bl true)))) z1s)
  (z0P (z4b 4 (z0L (z1M (z3U (d2 ixD (z0f 1) (dC (.int 1)))) z6U (d2 y6E (d2 ixD (z0f 2) (dC (.int 0))) (z0f 6)))))
  (z0P (z4b 5 (z0L (z1M (z3U (d2 ixD (z0f 1) (dC (.int 1)))) z6U (d2 y6E (d2 ixD (z0f 2) (dC (.int 1))) (z0f 6)))))
  (z0P (ifO (z8m (z0C (d2 gtI (d2 ixD (z0f 4) (dC (.int 0))) (d2 ixD (z0f 4) (dC (.int 1))))) (z8m (z0C (d2 gtI (d2 ixD (z0f 4) (dC (.int 1))) (d2 ixD (z0f 4) (dC (.int 2))))) (z0C (d2 gtI (d2 ixD (z0f 4) (dC (.int 3))) (d2 ixD (z0f 4) (dC (.int 1))))))) (z2r (dC (.bl false))) z1s)
  (z2r (y0U (d2 ltI (d2 ixD (z0f 5) (dC (.int 2))) (d2 ixD (z0f 5) (dC (.int 1)))) (y0U (d2 ltI (d2 ixD (z0f 5) (dC (.int 1))) (d2 ixD (z0f 5) (dC (.int 0)))) (d2 ltI (d2 ixD (z0f 5) (dC (.int 3))) (d2 ixD (z0f 5) (dC (.int 1))))))))))))
noncomputable def z1B : List D->Option D:=z2Y 2 4 z3g
noncomputable def z1S : SS->Option Out:=(z0P (ifO (z8m (z4m (z1H (dIs "list" (z0f 2)))) (z0C (d2 neD (z0k z3j [(z0f 2)]) (z0f 1)))) (z2r (dC (.bl false))) z1s)
  (z0P (z5K 3 (z3U (z0f 2)) (ifO (z4m (z1H (z0k z1d [(z0f 3)]))) (z2r (dC (.bl false))) z1s))
  (z0P (ifO (z0C (d2 neD (mkL (z3o z5U [(z0f 2)])) (mkL (z7e (z5j (z0f 1)))))) (z2r (dC (.bl false))) z1s)
  (z2r (d2 eqD (z0k z3j [(mkL (z1M (z3U (z0f 0)) (z4m (z1H (z0k z1f [(d2 ixD (z0f 4) (dC (.int 1))),(z0f 2)]))) (z0f 4)))]) (dC (.int 0)))))))
noncomputable def z1b : List D->Option D:=z2Y 3 1 z1S
noncomputable def z2i : SS->Option Out:=(z0P (ifO (z8m (z4m (z1H (dIs "tuple" (d2 ixD (z0f 2) (dC (.int 1)))))) (z4m (z1H (dIs "tuple" (d2 ixD (z0f 2) (dC (.int 2))))))) (z2r (dC (.bl false))) z1s)
  (z0P (z4b 3 (y0s (dC (.str "lasts")) (mkT (z0m [(dC (.int 3)),(dC (.int 3))])) (dC (.str "turned")) (mkT (z0m [(dC (.int 4)),(dC (.int 2))]))))
  (z0P (ifO (z8m (y4T (d2 ixD (z0f 2) (dC (.int 0))) (z0f 3)) (z0C (d2 neD (mkT (z0m [(z0k z3j [(d2 ixD (z0f 2) (dC (.int 1)))]),(z0k z3j [(d2 ixD (z0f 2) (dC (.int 2)))])])) (d2 getK (z0f 3) (d2 ixD (z0f 2) (dC (.int 0))))))) (z2r (dC (.bl false))) z1s)
  (z0P (z5K 4 (z3U (d2 catT (d2 ixD (z0f 2) (dC (.int 1))) (d2 ixD (z0f 2) (dC (.int 2))))) (ifO (z8m (z4m (z1H (z0k z1d [(z0f 4)]))) (z0C (d2 ltI (z0f 4) (dC (.int 0))))) (z2r (dC (.bl false))) z1s))
  (z0P (ifO (z8m (z0C (d2 geI (z0k y0c [(d2 ixD (z0f 2) (dC (.int 1)))]) (z0f 1))) (z0C (d2 geI (z0k y0c [(d2 ixD (z0f 2) (dC (.int 2)))]) (z0k z3j [(z0f 0)])))) (z2r (dC (.bl false))) z1s)
  (z0P (ifO (z8m (z0C (d2 neD (d1 y3t (d2 ixD (z0f 2) (dC (.int 1)))) (z0k z3j [(d2 ixD (z0f 2) (dC (.int 1)))]))) (z0C (d2 neD (d1 y3t (d2 ixD (z0f 2) (dC (.int 2)))) (z0k z3j [(d2 ixD (z0f 2) (dC (.int 2)))])))) (z2r (dC (.bl false))) z1s)
  (z2r (y0U (dOr (d2 eqD (d2 ixD (z0f 2) (dC (.int 0))) (dC (.str "turned"))) (d2 eqD (mkL (z3o z7U [(d2 ixD (z0f 2) (dC (.int 1)))])) (mkL (z3o z5U [(d2 ixD (z0f 2) (dC (.int 1)))])))) (z0k z1B [(z0f 0),(z0f 2)])))))))))
noncomputable def z0O : List D->Option D:=z2Y 3 2 z2i
noncomputable def z3J : SS->Option Out:=(z0P (z4b 1 (mkL (z0m [(z0L (z0m []))])))
  (z0P (z5K 2 (z5j (z0f 0)) (z0P (z4b 3 (z0L (z0m [])))
  (z0P (frzO 1 (z5K 4 (z3U (z0f 1)) (z5K 5 (z5j (d2 z9e (z0k z3j [(z0f 4)]) (dC (.int 1)))) (y1L 3 (z0L (y2A (mkL (y2A (mkL (y6w (z0f 4) z3L (z6w (z0f 5)))) (mkL (z0m [(z0f 2)])))) (mkL (y6w (z0f 4) (z6w (z0f 5)) z3L))))))))
  (movO 1 3))))
  (y2r 1)))
noncomputable def z2e : List D->Option D:=z2Y 1 5 z3J
noncomputable def z2h : SS->Option Out:=(z0P (z4b 2 (z0L (z0m [])))
  (z0P (z5K 3 (z3U (z0f 0)) (ifO (z0C (d2 y6j (d2 ixD (z0f 3) (dC (.int 1))) (z0f 2))) (m0 2 z5S [(d2 ixD (z0f 3) (dC (.int 1)))]) z1s))
  (z0P (frzO 2 (z5K 4 (z3U (z0k z2e [(z0f 1)])) (z0P (z5q 5 (dC (.bl true)))
  (z0P (z5K 6 (z3U (z0f 2)) (z5q 5 (y0U (z0f 5) (z0k z1f [(z0f 6),(z0f 4)]))))
  (ifO (z1H (z0f 5)) (z2r (dC (.bl true))) z1s)))))
  (z2r (dC (.bl false))))))
noncomputable def z1i : List D->Option D:=z2Y 2 5 z2h
noncomputable def y5N : SS->Option Out:=(z0P (z5q 1 (d2 z9e (dC (.int 1)) (d2 z5x (z0k z0t [(z0f 0),(dC (.int 0))]) (dC (.int 5)))))
  (z0P (z4b 2 (z0k z1o [(z0k z0t [(z0f 0),(dC (.int 1))]),(z0f 1)]))
  (z0P (z4b 3 (z0k z2b [(z0f 0),(z0f 1),(z0f 2),(d2 ixD (mkL (z0m [(dC (.int 2)),(dC (.int 3)),(dC (.int 9))])) (d2 z5x (d2 z8w (z0k z0t [(z0f 0),(dC (.int 0))]) (dC (.int 5))) (dC (.int 3))))]))
  (z0P (z4b 4 (z0L (z3o z7U [(z0f 3)])))
  (z0P (frzO 4 (y4B 5 (y0j z2u [(z0f 4),(z0f 1)])))
  (z0P (ifO (z8m (z4m (z1H (dIs "tuple" (z0f 5)))) (z8m (z0C (d2 ltI (z0k z3j [(z0f 5)]) (dC (.int 2)))) (z0C (d2 neD (z0f 4) (z0f 3))))) (z2r (dC (.bl false))) z1s)
  (z0P (ifO (z1H (z0k z1i [(z0f 3),(z0f 1)])) (z2r (y0U (d2 eqD (z0k z3j [(z0f 5)]) (dC (.int 2))) (y0U (d2 eqD (d2 ixD (z0f 5) (dC (.int 0))) (dC (.str "line"))) (z0k z1b [(z0f 3),(z0f 1),(d2 ixD (z0f 5) (dC (.int 1)))])))) z1s)
  (z2r (y0U (d2 eqD (z0k z3j [(z0f 5)]) (dC (.int 3))) (z0k z0O [(z0f 3),(z0f 1),(z0f 5)]))))))))))
noncomputable def y1m : List D->Option D:=z2Y 1 5 y5N
structure Txt (mg : Str->Option Value) : Prop where
  b_int : mg "int" = none
  b_isinstance : mg "isinstance" = none
  b_bool : mg "bool" = none
  b_len : mg "len" = none
  b_sum : mg "sum" = none
  b_max : mg "max" = none
  b_min : mg "min" = none
  b_range : mg "range" = none
  b_all : mg "all" = none
  b_tuple : mg "tuple" = none
  b_enumerate : mg "enumerate" = none
  b_list : mg "list" = none
  b_sorted : mg "sorted" = none
  b_set : mg "set" = none
structure Cls (K : PySem.W.Frag) (mg : Str->Option Value) (base : Heap) (cl : Nat->Value) : Prop where
  o_BadBallot : ∃ C,cl 1 = .ref C∧OwnCls "BadBallot" C bmVE "ValueError.__new__" mg base∧PySem.W.nsIn K mainGlobals "BadBallot" = some (some (.ref C))∧True
  o_Even : ∃ C,cl 2 = .ref C∧OwnCls "Even" C bmVE "ValueError.__new__" mg base∧PySem.W.nsIn K mainGlobals "Even" = some (some (.ref C))∧True
section
variable {P : Program} {w : World} {K : PySem.W.Frag} {mg : Str->Option Value} {base : Heap} {cl : Nat->Value}
theorem z9w : FnScope y1C z5g (z0b z2n):=⟨rfl,rfl,rfl,by decide +kernel,rfl,by decide +kernel,by decide +kernel⟩
theorem z9D {f : Addr} {fd : FuncData} (F : Fun K "is_thing" "is_thing" z2n f fd) (hm : mg "is_thing" = some (.ref f)) (hb : Binds K fd z5g []) (T : Txt mg) : DefOk P w K mg base 1 "is_thing" (spN K z2l):=
  z5k (k:=0) (g:=z5o) F hm hb z9w rfl rfl fun cdv A outer s H E hr=>
    (z0i (z0x (z4c (y0C rfl T.b_int rfl T.b_isinstance (z0h 0 (pv 0))) (z4c (y6M (z8P rfl T.b_bool rfl T.b_isinstance (z0h 0 (pv 0)))) (z5t (y4X op_le op_lt z3O z3O z0c (z0h 0 (pv 0)) (z0h 1 (pv 1))))))))
theorem sc_tells_each_once : FnScope z4Y z1U (z0b z0D):=⟨rfl,rfl,rfl,by decide +kernel,rfl,by decide +kernel,by decide +kernel⟩
theorem z4K {f : Addr} {fd : FuncData} (F : Fun K "tells_each_once" "tells_each_once" z0D f fd) (hm : mg "tells_each_once" = some (.ref f)) (hb : Binds K fd z1U []) (T : Txt mg) (G_is_thing : DefOk P w K mg base 1 "is_thing" (spN K z2l)) : DefOk P w K mg base 2 "tells_each_once" (spN K z0G):=
  z5k (k:=1) (g:=z1u) F hm hb sc_tells_each_once rfl rfl fun cdv A outer s H E hr=>
    (z0g (z4v (z7T hr.units (z1z rfl T.b_len (z0h 0 (pv 0))) (z0h 1 (pv 1))) (z0i (z0x z2R)) z0S)
      (z0g (z0X (z0T (i:=2) sc_tells_each_once.nd rfl (Or.inl rfl) pn_dnew))
      (z0g (z2W PassesOwn.never rfl (z0w (z0h 0 (pv 0))) (z0n (i:=3) sc_tells_each_once.nd rfl (Or.inl rfl)) (z0g (z4v (PW.pt (z3n (z2S (z0I (z4S (z0j G_is_thing (hr.mono (by decide)) rfl (z0a (z0h 3 (pv 3)) (z0a (z0h 1 (pv 1)) z0e)))))) (z2O (pt_din hr.units (z0h 3 (pv 3)) (z0h 2 (pv 2)))))) (z0i (z0x z2R)) z0S)
      (z0i (s_dput hr.units (pv 2) (z0h 3 (pv 3)) z2R))))
      (z0i (z0x z2R)))))
theorem y2c : FnScope y5a z7B (z0b z3N):=⟨rfl,rfl,rfl,by decide +kernel,rfl,by decide +kernel,by decide +kernel⟩
theorem y2v {f : Addr} {fd : FuncData} (F : Fun K "voices" "voices" z3N f fd) (hm : mg "voices" = some (.ref f)) (hb : Binds K fd z7B []) (T : Txt mg) : DefOk P w K mg base 1 "voices" (spN K z4G):=
  z5k (k:=0) (g:=z7w) F hm hb y2c rfl rfl fun cdv A outer s H E hr=>
    (z0i (z0x (y6Y rfl rfl T.b_sum (z7h (z4u (N':=["votes", "ballot"])  rfl ⟨rfl,rfl,rfl,rfl,rfl⟩ (n:=1) rfl (z0w (z0h 0 (pv 0))) (fun _ _ _ _ _=>z0n (i:=1) nd0 rfl (Or.inl rfl)) (fun _ _ _ _ _=>z1q) (fun _ _ _ _ _=>(z0p (z0h 1 (pv 1)) z0c)))))))
theorem sc_asked : FnScope N_asked z7n (z0b z5f):=⟨rfl,rfl,rfl,by decide +kernel,rfl,by decide +kernel,by decide +kernel⟩
theorem y5P {f : Addr} {fd : FuncData} (F : Fun K "asked" "asked" z5f f fd) (hm : mg "asked" = some (.ref f)) (hb : Binds K fd z7n []) (T : Txt mg) (Z : Cls K mg base cl) (G_tells_each_once : DefOk P w K mg base 2 "tells_each_once" (spN K z0G)) (G_voices : DefOk P w K mg base 1 "voices" (spN K z4G)) : DefX P w K mg base 3 "asked" (spX K cl z5h):=by
  obtain ⟨C_BadBallot,hc_BadBallot,O_BadBallot,nn_BadBallot,xb_BadBallot⟩:=Z.o_BadBallot
  obtain ⟨C_Even,hc_Even,O_Even,nn_Even,xb_Even⟩:=Z.o_Even
  exact ⟨f,fd,z7n,hm,F.kp,hb,fnX (k:=2) (g:=z7X) F sc_asked rfl rfl fun cdv A outer s H E hr=>
    (z0g (z2W PassesOwn.leaving rfl (z0w (z0h 0 (pv 0))) (z0n (i:=2) sc_asked.nd rfl (Or.inl rfl)) (z0i (z4v (z2S (z0I (z4S (z0j G_tells_each_once (hr.mono (by decide)) rfl (z0a (z0p (z0h 2 (pv 2)) z0c) (z0a (z0h 1 (pv 1)) z0e)))))) (z0i (y0u (c:=1) rfl rfl O_BadBallot (y0X hc_BadBallot) z3z)) z0S)))
      (z0i (z4v (z6K hr.units (z3l (z4S (z0j G_voices (hr.mono (by decide)) rfl (z0a (z0h 0 (pv 0)) z0e))) z0c) z0c) (z0i (y0u (c:=2) rfl rfl O_Even (y0X hc_Even) z3z)) z0S)))⟩
theorem z7Y : FnScope z8V z3t (z0b z1D):=⟨rfl,rfl,rfl,by decide +kernel,rfl,by decide +kernel,by decide +kernel⟩
theorem z7L {f : Addr} {fd : FuncData} (F : Fun K "puts_ahead" "puts_ahead" z1D f fd) (hm : mg "puts_ahead" = some (.ref f)) (hb : Binds K fd z3t []) (T : Txt mg) : DefOk P w K mg base 1 "puts_ahead" (spN K z2c):=
  z5k (k:=0) (g:=z3r) F hm hb z7Y rfl rfl fun cdv A outer s H E hr=>
    (z0i (z0x (y5l (z4D (z0h 0 (pv 0)) (z0h 1 (pv 1))) (z4D (z0h 0 (pv 0)) (z0h 2 (pv 2))))))
theorem sc_are_side_by_side : FnScope z4H z1J (z0b z0A):=⟨rfl,rfl,rfl,by decide +kernel,rfl,by decide +kernel,by decide +kernel⟩
theorem z4t {f : Addr} {fd : FuncData} (F : Fun K "are_side_by_side" "are_side_by_side" z0A f fd) (hm : mg "are_side_by_side" = some (.ref f)) (hb : Binds K fd z1J []) (T : Txt mg) : DefOk P w K mg base 1 "are_side_by_side" (spN K z0R):=
  z5k (k:=0) (g:=z1K) F hm hb sc_are_side_by_side rfl rfl fun cdv A outer s H E hr=>
    (z0g (z0X (PAsg.imp (z8G (i:=2) (N':=["things", "line", "places", "thing"]) sc_are_side_by_side.nd rfl rfl rfl ⟨rfl,rfl,rfl,rfl,rfl⟩ (n:=3) rfl (z0w (z0h 0 (pv 0))) (fun _ _ _ _ _=>z0n (i:=3) nd1 rfl (Or.inl rfl)) (fun _ _ _ _ _=>z1q) (fun _ _ _ _ _=>(z6u (z0h 1 (pv 1)) (z0h 3 (pv 3))))) iNF))
      (z0i (z0x (z9C hr.units (z6X (pd_maxL rfl rfl T.b_max (z0h 2 (pv 2))) (pd_minL rfl rfl T.b_min (z0h 2 (pv 2)))) (z6X (z1z rfl T.b_len (z0h 0 (pv 0))) z0c)))))
theorem y1s : FnScope y1T z6C (z0b z2U):=⟨rfl,rfl,rfl,by decide +kernel,rfl,by decide +kernel,by decide +kernel⟩
theorem y1E {f : Addr} {fd : FuncData} (F : Fun K "lies_on" "lies_on" z2U f fd) (hm : mg "lies_on" = some (.ref f)) (hb : Binds K fd z6C []) (T : Txt mg) (G_are_side_by_side : DefOk P w K mg base 1 "are_side_by_side" (spN K z0R)) : DefOk P w K mg base 2 "lies_on" (spN K z3D):=
  z5k (k:=1) (g:=z6z) F hm hb y1s rfl rfl fun cdv A outer s H E hr=>
    (z0i (z0x (y6Q rfl rfl T.b_all (z4S (z6b (N':=["order", "line", "count"])  rfl ⟨rfl,rfl,rfl,rfl,rfl⟩ (n:=2) rfl (pi_rng2 rfl T.b_range z0c (z3E (z1z rfl T.b_len (z0h 0 (pv 0))) z0c)) (fun _ _ _ _ _=>z0n (i:=2) nd2 rfl (Or.inl rfl)) (fun _ _ _ _ _=>z1q) (fun _ _ _ _ _=>(z0j G_are_side_by_side (hr.mono (by decide)) rfl (z0a (z6D (z0h 0 (pv 0)) z3P (z2F (z0h 2 (pv 2)))) (z0a (z0h 1 (pv 1)) z0e)))))))))
theorem sc_lines_for : FnScope z9h z4o (z0b z1R):=⟨rfl,rfl,rfl,by decide +kernel,rfl,by decide +kernel,by decide +kernel⟩
theorem z8z {f : Addr} {fd : FuncData} (F : Fun K "lines_for" "lines_for" z1R f fd) (hm : mg "lines_for" = some (.ref f)) (hb : Binds K fd z4o []) (T : Txt mg) : DefOk P w K mg base 1 "lines_for" (spR K z2q):=
  defR (k:=0) (g:=z4p) F hm hb sc_lines_for rfl rfl fun cdv A outer s H E B hr=>
    (z0g (z8W (z0T (i:=1) sc_lines_for.nd rfl (Or.inl rfl) (z4S (y3l (y1d (z8g (z1A (z0a (z0p (z0h 0 (pv 0)) z0c) z0e))) y3L)))))
      (z0g (z2W PassesOwn.never rfl (z0w (z6D (z0h 0 (pv 0)) (z2F z0c) z3P)) (z0n (i:=2) sc_lines_for.nd rfl (Or.inr rfl)) (z0i (z8W (z0T (i:=1) sc_lines_for.nd rfl (Or.inl rfl) (z7h (z8M (z4S (z6b (N':=["order", "lines", "thing", "line"])  rfl ⟨rfl,rfl,rfl,rfl,rfl⟩ (n:=3) rfl (z0w (z0h 1 (pv 1))) (fun _ _ _ _ _=>z0n (i:=3) nd3 rfl (Or.inl rfl)) (fun _ _ _ _ _=>z1q) (fun _ _ _ _ _=>(z8g (z8M (z7h (z1A (z0a (z0h 2 (pv 2)) z0e))) (z0h 3 (pv 3))))))) (z4S (z6b (N':=["order", "lines", "thing", "line"])  rfl ⟨rfl,rfl,rfl,rfl,rfl⟩ (n:=3) rfl (z0w (z0h 1 (pv 1))) (fun _ _ _ _ _=>z0n (i:=3) nd3 rfl (Or.inl rfl)) (fun _ _ _ _ _=>z1q) (fun _ _ _ _ _=>(z8g (z8M (z0h 3 (pv 3)) (z7h (z1A (z0a (z0h 2 (pv 2)) z0e))))))))))))))
      (z0i (y3R (z0h 1 (pv 1))))))
theorem sc_with_one_more : FnScope z6c z2o (z0b z0V):=⟨rfl,rfl,rfl,by decide +kernel,rfl,by decide +kernel,by decide +kernel⟩
theorem z5y {f : Addr} {fd : FuncData} (F : Fun K "with_one_more" "with_one_more" z0V f fd) (hm : mg "with_one_more" = some (.ref f)) (hb : Binds K fd z2o []) (T : Txt mg) : DefOk P w K mg base 1 "with_one_more" (spN K z1p):=
  z5k (k:=0) (g:=z2B) F hm hb sc_with_one_more rfl rfl fun cdv A outer s H E hr=>
    (z0g (z0X (z0T (i:=2) sc_with_one_more.nd rfl (Or.inl rfl) (z8g (z1A z0e))))
      (z0g (z2W PassesOwn.never rfl (z0w (z0h 0 (pv 0))) (z0n (i:=3) sc_with_one_more.nd rfl (Or.inr rfl)) (z0i (y2X (pv 2) (z8g (z4u (N':=["found", "many", "longer", "things", "thing"])  rfl ⟨rfl,rfl,rfl,rfl,rfl⟩ (n:=4) rfl (z5e rfl T.b_range (z0h 1 (pv 1))) (fun _ _ _ _ _=>z0n (i:=4) nd4 rfl (Or.inl rfl)) (fun _ _ _ _ _=>z2w (y6P hr.units (z0h 4 (pv 4)) (z0h 3 (pv 3)))) (fun _ _ _ _ _=>(y2a (z0h 3 (pv 3)) (z2I (z0a (z0h 4 (pv 4)) z0e)))))))))
      (z0i (z6N (pv 2)))))
theorem sc_picks : FnScope N_picks z9N (z0b z5n):=⟨rfl,rfl,rfl,by decide +kernel,rfl,by decide +kernel,by decide +kernel⟩
theorem y4L {f : Addr} {fd : FuncData} (F : Fun K "picks" "picks" z5n f fd) (hm : mg "picks" = some (.ref f)) (hb : Binds K fd z9N []) (T : Txt mg) (G_with_one_more : DefOk P w K mg base 1 "with_one_more" (spN K z1p)) : DefOk P w K mg base 2 "picks" (spN K z3C):=
  z5k (k:=1) (g:=z9L) F hm hb sc_picks rfl rfl fun cdv A outer s H E hr=>
    (z0g (z0X (z0T (i:=2) sc_picks.nd rfl (Or.inl rfl) (z8g (z1A (z0a (z2I z0e) z0e)))))
      (z0g (z2W PassesOwn.never rfl (z5e rfl T.b_range (z0h 0 (pv 0))) (z0n (i:=3) sc_picks.nd rfl (Or.inl rfl)) (z0i (z0X (z0T (i:=2) sc_picks.nd rfl (Or.inl rfl) (z0j G_with_one_more (hr.mono (by decide)) rfl (z0a (z0h 2 (pv 2)) (z0a (z0h 1 (pv 1)) z0e)))))))
      (z0i (z6N (pv 2)))))
theorem z4M : FnScope z4U z1Q (z0b z0F):=⟨rfl,rfl,rfl,by decide +kernel,rfl,by decide +kernel,by decide +kernel⟩
theorem z4E {f : Addr} {fd : FuncData} (F : Fun K "pairs_with_last" "pairs_with_last" z0F f fd) (hm : mg "pairs_with_last" = some (.ref f)) (hb : Binds K fd z1Q []) (T : Txt mg) : DefOk P w K mg base 1 "pairs_with_last" (spN K z1a):=
  z5k (k:=0) (g:=z1N) F hm hb z4M rfl rfl fun cdv A outer s H E hr=>
    (z0i (y0o (z8g (z4u (N':=["things", "last", "thing"])  rfl ⟨rfl,rfl,rfl,rfl,rfl⟩ (n:=2) rfl (z0w (z0h 0 (pv 0))) (fun _ _ _ _ _=>z0n (i:=2) nd5 rfl (Or.inl rfl)) (fun _ _ _ _ _=>z2w (z7T hr.units (z0h 2 (pv 2)) (z0h 1 (pv 1)))) (fun _ _ _ _ _=>(z2I (z0a (z0h 2 (pv 2)) (z0a (z0h 1 (pv 1)) z0e))))))))
theorem z3K : FnScope z3W z1v (z0b z0y):=⟨rfl,rfl,rfl,by decide +kernel,rfl,by decide +kernel,by decide +kernel⟩
theorem z3F {f : Addr} {fd : FuncData} (F : Fun K "pairs_with_between" "pairs_with_between" z0y f fd) (hm : mg "pairs_with_between" = some (.ref f)) (hb : Binds K fd z1v []) (T : Txt mg) : DefOk P w K mg base 1 "pairs_with_between" (spN K z0r):=
  z5k (k:=0) (g:=z1x) F hm hb z3K rfl rfl fun cdv A outer s H E hr=>
    (z0i (y0o (z8g (z1A (z0a (z2I (z0a (z0h 0 (pv 0)) (z0a (z0h 1 (pv 1)) z0e))) (z0a (z2I (z0a (z0h 1 (pv 1)) (z0a (z0h 2 (pv 2)) z0e))) (z0a (z2I (z0a (z0h 3 (pv 3)) (z0a (z0h 1 (pv 1)) z0e))) z0e)))))))
theorem sc_wanted_of : FnScope z9r z4f (z0b z1Z):=⟨rfl,rfl,rfl,by decide +kernel,rfl,by decide +kernel,by decide +kernel⟩
theorem z8o {f : Addr} {fd : FuncData} (F : Fun K "wanted_of" "wanted_of" z1Z f fd) (hm : mg "wanted_of" = some (.ref f)) (hb : Binds K fd z4f []) (T : Txt mg) (G_pairs_with_last : DefOk P w K mg base 1 "pairs_with_last" (spN K z1a)) (G_pairs_with_between : DefOk P w K mg base 1 "pairs_with_between" (spN K z0r)) : DefOk P w K mg base 2 "wanted_of" (spN K z1r):=
  z5k (k:=1) (g:=z3b) F hm hb sc_wanted_of rfl rfl fun cdv A outer s H E hr=>
    (z0g (z4v (z6K hr.units (z0h 0 (pv 0)) z3z) (z0i (y0o (z6b (N':=["kind", "things", "first", "second", "last"])  rfl ⟨rfl,rfl,rfl,rfl,rfl⟩ (n:=4) rfl (z0w (z0h 1 (pv 1))) (fun _ _ _ _ _=>z0n (i:=4) nd6 rfl (Or.inl rfl)) (fun _ _ _ _ _=>z1q) (fun _ _ _ _ _=>(z0j G_pairs_with_last (hr.mono (by decide)) rfl (z0a (z0h 1 (pv 1)) (z0a (z0h 4 (pv 4)) z0e))))))) z0S)
      (z0g (z0X (z0T (i:=2) sc_wanted_of.nd rfl (Or.inl rfl) (z0j G_pairs_with_between (hr.mono (by decide)) rfl (z0a (z0p (z0h 1 (pv 1)) z0c) (z0a (z0p (z0h 1 (pv 1)) z0c) (z0a (z0p (z0h 1 (pv 1)) z0c) (z0a (z0p (z0h 1 (pv 1)) z0c) z0e)))))))
      (z0g (z0X (z0T (i:=3) sc_wanted_of.nd rfl (Or.inl rfl) (z0j G_pairs_with_between (hr.mono (by decide)) rfl (z0a (z0p (z0h 1 (pv 1)) z0c) (z0a (z0p (z0h 1 (pv 1)) z0c) (z0a (z0p (z0h 1 (pv 1)) z0c) (z0a (z0p (z0h 1 (pv 1)) z0c) z0e)))))))
      (z0i (s_ret2 (by decide) (pv 2) (pv 3))))))
theorem z5d : FnScope z5B z2k (z0b z0Q):=⟨rfl,rfl,rfl,by decide +kernel,rfl,by decide +kernel,by decide +kernel⟩
theorem z5l {f : Addr} {fd : FuncData} (F : Fun K "puts_all_ahead" "puts_all_ahead" z0Q f fd) (hm : mg "puts_all_ahead" = some (.ref f)) (hb : Binds K fd z2k []) (T : Txt mg) (G_puts_ahead : DefOk P w K mg base 1 "puts_ahead" (spN K z2c)) : DefOk P w K mg base 2 "puts_all_ahead" (spN K z1g):=
  z5k (k:=1) (g:=z2j) F hm hb z5d rfl rfl fun cdv A outer s H E hr=>
    (z0i (z0x (y6Q rfl rfl T.b_all (z4S (z6b (N':=["order", "pairs", "pair"])  rfl ⟨rfl,rfl,rfl,rfl,rfl⟩ (n:=2) rfl (z0w (z0h 1 (pv 1))) (fun _ _ _ _ _=>z0n (i:=2) nd7 rfl (Or.inl rfl)) (fun _ _ _ _ _=>z1q) (fun _ _ _ _ _=>(z0j G_puts_ahead (hr.mono (by decide)) rfl (z0a (z0h 0 (pv 0)) (z0a (z0p (z0h 2 (pv 2)) z0c) (z0a (z0p (z0h 2 (pv 2)) z0c) z0e))))))))))
theorem sc_first_places : FnScope z6F z2K (z0b z1l):=⟨rfl,rfl,rfl,by decide +kernel,rfl,by decide +kernel,by decide +kernel⟩
theorem z5Y {f : Addr} {fd : FuncData} (F : Fun K "first_places" "first_places" z1l f fd) (hm : mg "first_places" = some (.ref f)) (hb : Binds K fd z2K []) (T : Txt mg) (G_puts_all_ahead : DefOk P w K mg base 2 "puts_all_ahead" (spN K z1g)) : DefOk P w K mg base 3 "first_places" (spN K z1j):=
  z5k (k:=2) (g:=z2L) F hm hb sc_first_places rfl rfl fun cdv A outer s H E hr=>
    (z0g (z0X (z0T (i:=2) sc_first_places.nd rfl (Or.inl rfl) (z8g (z1A z0e))))
      (z0g (z2W PassesOwn.never rfl (z0w (z0h 1 (pv 1))) (z0n (i:=3) sc_first_places.nd rfl (Or.inr rfl)) (z0g (z0X (PAsg.imp (pas_cF2 (i:=4) (N':=["votes", "wanted", "places", "pairs", "found", "place", "ballot"]) sc_first_places.nd rfl rfl rfl ⟨rfl,rfl,rfl,rfl,rfl⟩ (n:=5) rfl (y6n rfl T.b_enumerate (z0h 0 (pv 0))) (fun _ _ _ _ _=>pg_two rfl (z0n (i:=5) nd8 rfl (Or.inl rfl)) (z0n (i:=6) nd8 rfl (Or.inl rfl))) (fun _ _ _ _ _=>z2w (z0I (z4S (z0j G_puts_all_ahead (hr.mono (by decide)) rfl (z0a (z0p (z0h 6 (pv 6)) z0c) (z0a (z0h 3 (pv 3)) z0e)))))) (fun _ _ _ _ _=>(z0h 5 (pv 5)))) iNF))
      (z0g (z4v (z2S (z0I (z0h 4 (pv 4)))) (z0i (z0x y6D)) z0S)
      (z0i (s_m0 PySem.F.slot_list_append PySem.F.type_list_append z2d z2y (pv 2) (z0a (z0p (z0h 4 (pv 4)) z0c) z0e))))))
      (z0i (z0x (z8b rfl T.b_tuple (z0h 2 (pv 2)))))))
theorem sc_bar_among : FnScope z9O z4j (z0b z1X):=⟨rfl,rfl,rfl,by decide +kernel,rfl,by decide +kernel,by decide +kernel⟩
theorem z8J {f : Addr} {fd : FuncData} (F : Fun K "bar_among" "bar_among" z1X f fd) (hm : mg "bar_among" = some (.ref f)) (hb : Binds K fd z4j []) (T : Txt mg) (G_wanted_of : DefOk P w K mg base 2 "wanted_of" (spN K z1r)) (G_first_places : DefOk P w K mg base 3 "first_places" (spN K z1j)) : DefOk P w K mg base 4 "bar_among" (spN K z1W):=
  z5k (k:=3) (g:=z4l) F hm hb sc_bar_among rfl rfl fun cdv A outer s H E hr=>
    (z0g (z2W PassesOwn.never rfl (z0w (z0h 2 (pv 2))) (z0n (i:=3) sc_bar_among.nd rfl (Or.inl rfl)) (z0g (z0X (z0T (i:=4) sc_bar_among.nd rfl (Or.inl rfl) (z0j G_first_places (hr.mono (by decide)) rfl (z0a (z0h 0 (pv 0)) (z0a (z4S (z0j G_wanted_of (hr.mono (by decide)) rfl (z0a (z0h 1 (pv 1)) (z0a (z0h 3 (pv 3)) z0e)))) z0e)))))
      (z0i (z4v (z6M (z0h 4 (pv 4))) (z0i (z0x (z2I (z0a (z0h 1 (pv 1)) (z0a (z0h 3 (pv 3)) (z0a (z0h 4 (pv 4)) z0e)))))) z0S))))
      (z0i (z0x y6D)))
theorem sc_bar_of : FnScope y4K z7D (z0b z3R):=⟨rfl,rfl,rfl,by decide +kernel,rfl,by decide +kernel,by decide +kernel⟩
theorem y1X {f : Addr} {fd : FuncData} (F : Fun K "bar_of" "bar_of" z3R f fd) (hm : mg "bar_of" = some (.ref f)) (hb : Binds K fd z7D []) (T : Txt mg) (G_picks : DefOk P w K mg base 2 "picks" (spN K z3C)) (G_bar_among : DefOk P w K mg base 4 "bar_among" (spN K z1W)) : DefOk P w K mg base 5 "bar_of" (spN K z4y):=
  z5k (k:=4) (g:=z7C) F hm hb sc_bar_of rfl rfl fun cdv A outer s H E hr=>
    (z0g (z0X (PAsg.imp (z8G (i:=2) (N':=["votes", "many", "rising", "lasts", "things"]) sc_bar_of.nd rfl rfl rfl ⟨rfl,rfl,rfl,rfl,rfl⟩ (n:=4) rfl (z0w (z4S (z0j G_picks (hr.mono (by decide)) rfl (z0a z0c (z0a (z0h 1 (pv 1)) z0e))))) (fun _ _ _ _ _=>z0n (i:=4) nd9 rfl (Or.inl rfl)) (fun _ _ _ _ _=>z2w (z6K hr.units (z7h (z6y rfl T.b_list (z0h 4 (pv 4)))) (z7h (z6h rfl T.b_sorted (z0h 4 (pv 4)))))) (fun _ _ _ _ _=>(z0h 4 (pv 4)))) iNF))
      (z0g (z0X (z0T (i:=3) sc_bar_of.nd rfl (Or.inl rfl) (z0j G_bar_among (hr.mono (by decide)) rfl (z0a (z0h 0 (pv 0)) (z0a z3z (z0a (z0h 2 (pv 2)) z0e))))))
      (z0g (z4v (z6M (z0h 3 (pv 3))) (z0i (z0x (z0h 3 (pv 3)))) z0S)
      (z0i (y0o (z0j G_bar_among (hr.mono (by decide)) rfl (z0a (z0h 0 (pv 0)) (z0a z3z (z0a (z4S (z0j G_picks (hr.mono (by decide)) rfl (z0a z0c (z0a (z0h 1 (pv 1)) z0e)))) z0e)))))))))
theorem sc_line_of : FnScope y1U z4O (z0b z2V):=⟨rfl,rfl,rfl,by decide +kernel,rfl,by decide +kernel,by decide +kernel⟩
theorem y1D {f : Addr} {fd : FuncData} (F : Fun K "line_of" "line_of" z2V f fd) (hm : mg "line_of" = some (.ref f)) (hb : Binds K fd z4O []) (T : Txt mg) (Z : Cls K mg base cl) (G_asked : DefX P w K mg base 3 "asked" (spX K cl z5h)) (G_lies_on : DefOk P w K mg base 2 "lies_on" (spN K z3D)) (G_lines_for : DefOk P w K mg base 1 "lines_for" (spR K z2q)) (G_bar_of : DefOk P w K mg base 5 "bar_of" (spN K z4y)) : DefX P w K mg base 6 "line_of" (spXS K cl z2u):=by
  exact ⟨f,fd,z4O,hm,F.kp,hb,fnXS (k:=5) (g:=z4C) F sc_line_of rfl rfl fun cdv A outer s H E B hr=>
    (z0g (s_exprX (px_call G_asked (hr.mono (by decide)) rfl xw_def (z0a (z0h 0 (pv 0)) (z0a (z0h 1 (pv 1)) z0e))))
      (z0g (z8W (z0T (i:=2) sc_line_of.nd rfl (Or.inl rfl) (y5e G_lines_for (hr.mono (by decide)) rfl (z0a (z0p (z0p (z0h 0 (pv 0)) z0c) z0c) z0e))))
      (z0g (z2W PassesOwn.leaving rfl (z0w (z7h (z5G (z0h 0 (pv 0)) (z2F z0c) z3P))) (z0n (i:=3) sc_line_of.nd rfl (Or.inr rfl)) (z0i (z8W (PAsg.imp (z8G (i:=2) (N':=["votes", "many", "lines", "ballot", "line"]) sc_line_of.nd rfl rfl rfl ⟨rfl,rfl,rfl,rfl,rfl⟩ (n:=4) rfl (z0w (z0h 2 (pv 2))) (fun _ _ _ _ _=>z0n (i:=4) nd10 rfl (Or.inl rfl)) (fun _ _ _ _ _=>z2w (z0I (z4S (z0j G_lies_on (hr.mono (by decide)) rfl (z0a (z0p (z0h 3 (pv 3)) z0c) (z0a (z0h 4 (pv 4)) z0e)))))) (fun _ _ _ _ _=>(z0h 4 (pv 4)))) iDF))))
      (z0g (z4v (z0I (z0h 2 (pv 2))) (z0i (y3R (z2I (z0a z3z (z0a (z0p (z0h 2 (pv 2)) z0c) z0e))))) z0S)
      (z0i (y3R (z4S (z0j G_bar_of (hr.mono (by decide)) rfl (z0a (z0h 0 (pv 0)) (z0a (z0h 1 (pv 1)) z0e))))))))))⟩
theorem z6x : FnScope z6L z2M (z0b z1k):=⟨rfl,rfl,rfl,by decide +kernel,rfl,by decide +kernel,by decide +kernel⟩
theorem z6A {f : Addr} {fd : FuncData} (F : Fun K "_law_cell_at" "_law_cell_at" z1k f fd) (hm : mg "_law_cell_at" = some (.ref f)) (hb : Binds K fd z2M []) (T : Txt mg) : DefOk P w K mg base 1 "_law_cell_at" (spN K z0t):=
  z5k (k:=0) (g:=z2a) F hm hb z6x rfl rfl fun cdv A outer s H E hr=>
    (z0g (z4v (y5z (z0h 1 (pv 1)) (z1z rfl T.b_len (z0h 0 (pv 0)))) (z0i (z0x (z0p (z0h 0 (pv 0)) (z0h 1 (pv 1))))) z0S)
      (z0i (z0x z0c)))
theorem z7G : FnScope z8D z3A (z0b z1E):=⟨rfl,rfl,rfl,by decide +kernel,rfl,by decide +kernel,by decide +kernel⟩
theorem z7E {f : Addr} {fd : FuncData} (F : Fun K "_law_whole" "_law_whole" z1E f fd) (hm : mg "_law_whole" = some (.ref f)) (hb : Binds K fd z3A []) (T : Txt mg) : DefOk P w K mg base 1 "_law_whole" (spN K z1d):=
  z5k (k:=0) (g:=z2G) F hm hb z7G rfl rfl fun cdv A outer s H E hr=>
    (z0i (z0x (z4c (y0C rfl T.b_int rfl T.b_isinstance (z0h 0 (pv 0))) (z5t (y6M (z8P rfl T.b_bool rfl T.b_isinstance (z0h 0 (pv 0))))))))
theorem sc__law_order : FnScope z8K z3q (z0b z1F):=⟨rfl,rfl,rfl,by decide +kernel,rfl,by decide +kernel,by decide +kernel⟩
theorem z7M {f : Addr} {fd : FuncData} (F : Fun K "_law_order" "_law_order" z1F f fd) (hm : mg "_law_order" = some (.ref f)) (hb : Binds K fd z3q []) (T : Txt mg) : DefOk P w K mg base 1 "_law_order" (spN K z1o):=
  z5k (k:=0) (g:=z3y) F hm hb sc__law_order rfl rfl fun cdv A outer s H E hr=>
    (z0g (z0X (z0T (i:=2) sc__law_order.nd rfl (Or.inl rfl) (z8g (z1A z0e))))
      (z0g (z2W PassesOwn.never rfl (z5e rfl T.b_range (z0h 1 (pv 1))) (z0n (i:=3) sc__law_order.nd rfl (Or.inl rfl)) (z0g (s_m0 PySem.F.slot_list_insert PySem.F.type_list_insert y2m y2d (pv 2) (z0a (z3l (z0h 0 (pv 0)) (z3E (z0h 3 (pv 3)) z0c)) (z0a (z0h 3 (pv 3)) z0e)))
      (z0i (z2x (z0T (i:=0) sc__law_order.nd rfl (Or.inl rfl) (z6m (z0h 0 (pv 0)) (z3E (z0h 3 (pv 3)) z0c)))))))
      (z0i (z6N (pv 2)))))
theorem sc__law_on_line : FnScope z6G z2N (z0b z1m):=⟨rfl,rfl,rfl,by decide +kernel,rfl,by decide +kernel,by decide +kernel⟩
theorem z6f {f : Addr} {fd : FuncData} (F : Fun K "_law_on_line" "_law_on_line" z1m f fd) (hm : mg "_law_on_line" = some (.ref f)) (hb : Binds K fd z2N []) (T : Txt mg) : DefOk P w K mg base 1 "_law_on_line" (spN K z1y):=
  z5k (k:=0) (g:=z2P) F hm hb sc__law_on_line rfl rfl fun cdv A outer s H E hr=>
    (z0g (z2x (z0T (i:=2) sc__law_on_line.nd rfl (Or.inl rfl) (z3l (z0h 0 (pv 0)) (z1z rfl T.b_len (z0h 1 (pv 1))))))
      (z0g (z2x (z0T (i:=3) sc__law_on_line.nd rfl (Or.inl rfl) (z3E (z0h 2 (pv 2)) z0c)))
      (z0g (z0X (z0T (i:=4) sc__law_on_line.nd rfl (Or.inl rfl) (z8g (z1A (z0a (z0p (z0h 1 (pv 1)) (z0h 2 (pv 2))) z0e)))))
      (z0g (z2x (z0T (i:=0) sc__law_on_line.nd rfl (Or.inl rfl) (z6m (z0h 0 (pv 0)) (z1z rfl T.b_len (z0h 1 (pv 1))))))
      (z0g (s_while 100 PassesOwn.never (y5z (z1z rfl T.b_len (z0h 4 (pv 4))) (z1z rfl T.b_len (z0h 1 (pv 1)))) (z0g (z4v (PW.pt (z3n (z6K hr.units (z0h 3 (pv 3)) (z1z rfl T.b_len (z0h 1 (pv 1)))) (z2O (PW.pt (pw_andD (y3s (z0h 2 (pv 2)) z0c) (y4A (z6K hr.units (z3l (z0h 0 (pv 0)) z0c) z0c))))))) (z0g (z2x (z0T (i:=2) sc__law_on_line.nd rfl (Or.inl rfl) (z6X (z0h 2 (pv 2)) z0c)))
      (z0i (s_m0 PySem.F.slot_list_append PySem.F.type_list_append z2d z2y (pv 4) (z0a (z0p (z0h 1 (pv 1)) (z0h 2 (pv 2))) z0e)))) (z0g (s_m0 PySem.F.slot_list_append PySem.F.type_list_append z2d z2y (pv 4) (z0a (z0p (z0h 1 (pv 1)) (z0h 3 (pv 3))) z0e))
      (z0i (z2x (z0T (i:=3) sc__law_on_line.nd rfl (Or.inl rfl) (z3E (z0h 3 (pv 3)) z0c))))))
      (z0i (z2x (z0T (i:=0) sc__law_on_line.nd rfl (Or.inl rfl) (z6m (z0h 0 (pv 0)) z0c))))))
      (z0i (z6N (pv 4))))))))
theorem sc__law_fits : FnScope z9o z4i (z0b z1T):=⟨rfl,rfl,rfl,by decide +kernel,rfl,by decide +kernel,by decide +kernel⟩
theorem z8x {f : Addr} {fd : FuncData} (F : Fun K "_law_fits" "_law_fits" z1T f fd) (hm : mg "_law_fits" = some (.ref f)) (hb : Binds K fd z4i []) (T : Txt mg) : DefOk P w K mg base 1 "_law_fits" (spN K z1f):=
  z5k (k:=0) (g:=z4s) F hm hb sc__law_fits rfl rfl fun cdv A outer s H E hr=>
    (z0g (z2x (z0T (i:=2) sc__law_fits.nd rfl (Or.inl rfl) (z6u (z0h 1 (pv 1)) (z0p (z0h 0 (pv 0)) z0c))))
      (z0g (z2x (z0T (i:=3) sc__law_fits.nd rfl (Or.inl rfl) (z0h 2 (pv 2))))
      (z0g (z2W PassesOwn.never rfl (z0w (z6D (z0h 0 (pv 0)) (z2F z0c) z3P)) (z0n (i:=4) sc__law_fits.nd rfl (Or.inl rfl)) (z0g (z2x (z0T (i:=5) sc__law_fits.nd rfl (Or.inl rfl) (z6u (z0h 1 (pv 1)) (z0h 4 (pv 4)))))
      (z0i (z4v (z6K hr.units (z0h 5 (pv 5)) (z6X (z0h 2 (pv 2)) z0c)) (z0i (z2x (z0T (i:=2) sc__law_fits.nd rfl (Or.inl rfl) (z0h 5 (pv 5))))) (z0i (z4v (z6K hr.units (z0h 5 (pv 5)) (z3E (z0h 3 (pv 3)) z0c)) (z0i (z2x (z0T (i:=3) sc__law_fits.nd rfl (Or.inl rfl) (z0h 5 (pv 5))))) (z0i (z0x z2R))))))))
      (z0i (z0x z2R)))))
theorem sc__law_votes : FnScope z8C z3H (z0b z1I):=⟨rfl,rfl,rfl,by decide +kernel,rfl,by decide +kernel,by decide +kernel⟩
theorem z7x {f : Addr} {fd : FuncData} (F : Fun K "_law_votes" "_law_votes" z1I f fd) (hm : mg "_law_votes" = some (.ref f)) (hb : Binds K fd z3H []) (T : Txt mg) (G__law_cell_at : DefOk P w K mg base 1 "_law_cell_at" (spN K z0t)) (G__law_order : DefOk P w K mg base 1 "_law_order" (spN K z1o)) (G__law_on_line : DefOk P w K mg base 1 "_law_on_line" (spN K z1y)) : DefOk P w K mg base 2 "_law_votes" (spN K z2b):=
  z5k (k:=1) (g:=z3v) F hm hb sc__law_votes rfl rfl fun cdv A outer s H E hr=>
    (z0g (z0X (z0T (i:=4) sc__law_votes.nd rfl (Or.inl rfl) (z8g (z1A z0e))))
      (z0g (z2W PassesOwn.never rfl (z0w (z7h (z5G (z0h 0 (pv 0)) (z2F z0c) (z2F z0c)))) (z0n (i:=5) sc__law_votes.nd rfl (Or.inl rfl)) (z0g (z0X (z0T (i:=6) sc__law_votes.nd rfl (Or.inl rfl) (z0j G__law_order (hr.mono (by decide)) rfl (z0a (z3l (z6m (z0h 5 (pv 5)) (z0h 3 (pv 3))) z0c) (z0a (z0h 1 (pv 1)) z0e)))))
      (z0g (z4v (y3s (z3l (z0h 5 (pv 5)) (z0h 3 (pv 3))) z0c) (z0i (z0X (z0T (i:=6) sc__law_votes.nd rfl (Or.inl rfl) (z0j G__law_on_line (hr.mono (by decide)) rfl (z0a (z3l (z6m (z0h 5 (pv 5)) (z0h 3 (pv 3))) z0c) (z0a (z0h 2 (pv 2)) z0e)))))) z0S)
      (z0i (s_m0 PySem.F.slot_list_append PySem.F.type_list_append z2d z2y (pv 4) (z0a (z2I (z0a (z3E z0c (z3l (z6m (z0h 5 (pv 5)) z0c) (z6X (y6G z0c z0c) z0c))) (z0a (z8b rfl T.b_tuple (z0h 6 (pv 6))) z0e))) z0e))))))
      (z0g (z4v (z6K hr.units (z1z rfl T.b_len (z0h 4 (pv 4))) z0c) (z0i (s_m0 PySem.F.slot_list_append PySem.F.type_list_append z2d z2y (pv 4) (z0a (z2I (z0a (z3E z0c (z3l (z4S (z0j G__law_cell_at (hr.mono (by decide)) rfl (z0a (z0h 0 (pv 0)) (z0a z0c z0e)))) (z6X (y6G z0c z0c) z0c))) (z0a (z8b rfl T.b_tuple (z0h 2 (pv 2))) z0e))) z0e))) z0S)
      (z0g (z4v (z6K hr.units (z3l (y6Y rfl rfl T.b_sum (z7h (z4u (N':=["script", "many", "line", "share", "votes", "cell", "order", "ballot"])  rfl ⟨rfl,rfl,rfl,rfl,rfl⟩ (n:=7) rfl (z0w (z0h 4 (pv 4))) (fun _ _ _ _ _=>z0n (i:=7) nd11 rfl (Or.inl rfl)) (fun _ _ _ _ _=>z1q) (fun _ _ _ _ _=>(z0p (z0h 7 (pv 7)) z0c))))) z0c) z0c) (z0i (s_st0 (pv 4) z0c (z2I (z0a (z3E (z0p (z0p (z0h 4 (pv 4)) z0c) z0c) z0c) (z0a (z0p (z0p (z0h 4 (pv 4)) z0c) z0c) z0e))))) z0S)
      (z0i (z6N (pv 4)))))))
theorem z8v : FnScope z9A z4n (z0b z1Y):=⟨rfl,rfl,rfl,by decide +kernel,rfl,by decide +kernel,by decide +kernel⟩
theorem z9a {f : Addr} {fd : FuncData} (F : Fun K "_law_last" "_law_last" z1Y f fd) (hm : mg "_law_last" = some (.ref f)) (hb : Binds K fd z4n []) (T : Txt mg) : DefOk P w K mg base 1 "_law_last" (spN K z2s):=
  z5k (k:=0) (g:=z4g) F hm hb z8v rfl rfl fun cdv A outer s H E hr=>
    (z0i (z0x (z0p (z7h (z4u (N':=["order", "things", "one"])  rfl ⟨rfl,rfl,rfl,rfl,rfl⟩ (n:=2) rfl (z0w (z0h 0 (pv 0))) (fun _ _ _ _ _=>z0n (i:=2) nd12 rfl (Or.inl rfl)) (fun _ _ _ _ _=>z2w (pt_in hr.units (z0h 2 (pv 2)) (z0h 1 (pv 1)))) (fun _ _ _ _ _=>(z0h 2 (pv 2))))) (pd_neg z0c))))
theorem sc__law_bars : FnScope z9v z4k (z0b z1O):=⟨rfl,rfl,rfl,by decide +kernel,rfl,by decide +kernel,by decide +kernel⟩
theorem z8X {f : Addr} {fd : FuncData} (F : Fun K "_law_bars" "_law_bars" z1O f fd) (hm : mg "_law_bars" = some (.ref f)) (hb : Binds K fd z4k []) (T : Txt mg) (G__law_last : DefOk P w K mg base 1 "_law_last" (spN K z2s)) : DefOk P w K mg base 2 "_law_bars" (spN K z1B):=
  z5k (k:=1) (g:=z3g) F hm hb sc__law_bars rfl rfl fun cdv A outer s H E hr=>
    (z0g (z0X (z0T (i:=2) sc__law_bars.nd rfl (Or.inr rfl) (z8g (z4u (N':=["votes", "paper", "orders", "k", "one", "other", "place"])  rfl ⟨rfl,rfl,rfl,rfl,rfl⟩ (n:=6) rfl (z0w (z0p (z0h 1 (pv 1)) z0c)) (fun _ _ _ _ _=>z0n (i:=6) nd14 rfl (Or.inl rfl)) (fun _ _ _ _ _=>z1q) (fun _ _ _ _ _=>(z0p (z0p (z0h 0 (pv 0)) (z0h 6 (pv 6))) z0c))))))
      (z0g (z4v (z6K hr.units (z0p (z0h 1 (pv 1)) z0c) z3z) (z0g (z2W PassesOwn.never rfl (z5e rfl T.b_range z0c) (z0n (i:=3) sc__law_bars.nd rfl (Or.inl rfl)) (z0i (z4v (z7T hr.units (z4S (z0j G__law_last (hr.mono (by decide)) rfl (z0a (z0p (z0h 2 (pv 2)) (z0h 3 (pv 3))) (z0a (z0p (z0h 1 (pv 1)) z0c) z0e)))) (z0p (z0p (z0h 1 (pv 1)) z0c) (z0h 3 (pv 3)))) (z0i (z0x z2R)) z0S)))
      (z0i (z0x z2R))) z0S)
      (z0g (z0X (PAsg.imp (z8G (i:=4) (N':=["votes", "paper", "orders", "k", "one", "other", "thing"]) sc__law_bars.nd rfl rfl rfl ⟨rfl,rfl,rfl,rfl,rfl⟩ (n:=6) rfl (z0w (z0p (z0h 1 (pv 1)) z0c)) (fun _ _ _ _ _=>z0n (i:=6) nd13 rfl (Or.inl rfl)) (fun _ _ _ _ _=>z1q) (fun _ _ _ _ _=>(z4D (z0p (z0h 2 (pv 2)) z0c) (z0h 6 (pv 6))))) iNF))
      (z0g (z0X (PAsg.imp (z8G (i:=5) (N':=["votes", "paper", "orders", "k", "one", "other", "thing"]) sc__law_bars.nd rfl rfl rfl ⟨rfl,rfl,rfl,rfl,rfl⟩ (n:=6) rfl (z0w (z0p (z0h 1 (pv 1)) z0c)) (fun _ _ _ _ _=>z0n (i:=6) nd13 rfl (Or.inl rfl)) (fun _ _ _ _ _=>z1q) (fun _ _ _ _ _=>(z4D (z0p (z0h 2 (pv 2)) z0c) (z0h 6 (pv 6))))) iNF))
      (z0g (z4v (PW.pt (z3n (y3s (z0p (z0h 4 (pv 4)) z0c) (z0p (z0h 4 (pv 4)) z0c)) (z3n (y3s (z0p (z0h 4 (pv 4)) z0c) (z0p (z0h 4 (pv 4)) z0c)) (z2O (y3s (z0p (z0h 4 (pv 4)) z0c) (z0p (z0h 4 (pv 4)) z0c)))))) (z0i (z0x z2R)) z0S)
      (z0i (z0x (z4c (y5l (z0p (z0h 5 (pv 5)) z0c) (z0p (z0h 5 (pv 5)) z0c)) (z4c (y5l (z0p (z0h 5 (pv 5)) z0c) (z0p (z0h 5 (pv 5)) z0c)) (z5t (y5l (z0p (z0h 5 (pv 5)) z0c) (z0p (z0h 5 (pv 5)) z0c))))))))))))
theorem sc__law_line_holds : FnScope z4T z1P (z0b z0E):=⟨rfl,rfl,rfl,by decide +kernel,rfl,by decide +kernel,by decide +kernel⟩
theorem z4L {f : Addr} {fd : FuncData} (F : Fun K "_law_line_holds" "_law_line_holds" z0E f fd) (hm : mg "_law_line_holds" = some (.ref f)) (hb : Binds K fd z1P []) (T : Txt mg) (G__law_whole : DefOk P w K mg base 1 "_law_whole" (spN K z1d)) (G__law_fits : DefOk P w K mg base 1 "_law_fits" (spN K z1f)) : DefOk P w K mg base 2 "_law_line_holds" (spN K z1b):=
  z5k (k:=1) (g:=z1S) F hm hb sc__law_line_holds rfl rfl fun cdv A outer s H E hr=>
    (z0g (z4v (PW.pt (z3n (z2S (z0I (y4i rfl T.b_list rfl T.b_isinstance (z0h 2 (pv 2))))) (z2O (z7T hr.units (z1z rfl T.b_len (z0h 2 (pv 2))) (z0h 1 (pv 1)))))) (z0i (z0x z2R)) z0S)
      (z0g (z2W PassesOwn.never rfl (z0w (z0h 2 (pv 2))) (z0n (i:=3) sc__law_line_holds.nd rfl (Or.inl rfl)) (z0i (z4v (z2S (z0I (z4S (z0j G__law_whole (hr.mono (by decide)) rfl (z0a (z0h 3 (pv 3)) z0e))))) (z0i (z0x z2R)) z0S)))
      (z0g (z4v (z7T hr.units (z7h (z6h rfl T.b_sorted (z0h 2 (pv 2)))) (z7h (y2N rfl rfl T.b_list rfl T.b_range (z0h 1 (pv 1))))) (z0i (z0x z2R)) z0S)
      (z0i (z0x (z9C hr.units (z1z rfl T.b_len (z7h (z4u (N':=["votes", "many", "line", "one", "ballot"])  rfl ⟨rfl,rfl,rfl,rfl,rfl⟩ (n:=4) rfl (z0w (z0h 0 (pv 0))) (fun _ _ _ _ _=>z0n (i:=4) nd15 rfl (Or.inl rfl)) (fun _ _ _ _ _=>z2w (z2S (z0I (z4S (z0j G__law_fits (hr.mono (by decide)) rfl (z0a (z0p (z0h 4 (pv 4)) z0c) (z0a (z0h 2 (pv 2)) z0e))))))) (fun _ _ _ _ _=>(z0h 4 (pv 4)))))) z0c))))))
theorem sc__law_bar_holds : FnScope z5C z2f (z0b z0N):=⟨rfl,rfl,rfl,by decide +kernel,rfl,by decide +kernel,by decide +kernel⟩
theorem z5i {f : Addr} {fd : FuncData} (F : Fun K "_law_bar_holds" "_law_bar_holds" z0N f fd) (hm : mg "_law_bar_holds" = some (.ref f)) (hb : Binds K fd z2f []) (T : Txt mg) (G__law_whole : DefOk P w K mg base 1 "_law_whole" (spN K z1d)) (G__law_bars : DefOk P w K mg base 2 "_law_bars" (spN K z1B)) : DefOk P w K mg base 3 "_law_bar_holds" (spN K z0O):=
  z5k (k:=2) (g:=z2i) F hm hb sc__law_bar_holds rfl rfl fun cdv A outer s H E hr=>
    (z0g (z4v (PW.pt (z3n (z2S (z0I (z7q rfl T.b_tuple rfl T.b_isinstance (z0p (z0h 2 (pv 2)) z0c)))) (z2O (z2S (z0I (z7q rfl T.b_tuple rfl T.b_isinstance (z0p (z0h 2 (pv 2)) z0c))))))) (z0i (z0x z2R)) z0S)
      (z0g (by refine z0X ?_; refine z0T (i:=3) (x := "counts") (hs:=?hs) (hf:=?hf) ?nd ?hi ?hx ?he; (case nd=>exact sc__law_bar_holds.nd); (case hi=>rfl); (case hx=>exact (Or.inl rfl)); (case he=>exact (y6h z3z (z2I (z0a z0c (z0a z0c z0e))) z3z (z2I (z0a z0c (z0a z0c z0e))))); (case hs=>rfl); (case hf=>first | exact .inl rfl | exact .inr rfl))
      (z0g (z4v (PW.pt (z3n (pt_dnin hr.units (z0p (z0h 2 (pv 2)) z0c) (z0h 3 (pv 3))) (z2O (z7T hr.units (z2I (z0a (z1z rfl T.b_len (z0p (z0h 2 (pv 2)) z0c)) (z0a (z1z rfl T.b_len (z0p (z0h 2 (pv 2)) z0c)) z0e))) (pd_dget hr.units (z0h 3 (pv 3)) (z0p (z0h 2 (pv 2)) z0c)))))) (z0i (z0x z2R)) z0S)
      (z0g (z2W PassesOwn.never rfl (z0w (y2a (z0p (z0h 2 (pv 2)) z0c) (z0p (z0h 2 (pv 2)) z0c))) (z0n (i:=4) sc__law_bar_holds.nd rfl (Or.inl rfl)) (z0i (z4v (PW.pt (z3n (z2S (z0I (z4S (z0j G__law_whole (hr.mono (by decide)) rfl (z0a (z0h 4 (pv 4)) z0e))))) (z2O (y5z (z0h 4 (pv 4)) z0c)))) (z0i (z0x z2R)) z0S)))
      (z0g (z4v (PW.pt (z3n (pt_ge (y3G rfl rfl T.b_max (z0p (z0h 2 (pv 2)) z0c)) (z0h 1 (pv 1))) (z2O (pt_ge (y3G rfl rfl T.b_max (z0p (z0h 2 (pv 2)) z0c)) (z1z rfl T.b_len (z0h 0 (pv 0))))))) (z0i (z0x z2R)) z0S)
      (z0g (z4v (PW.pt (z3n (z7T hr.units (z7k rfl rfl T.b_len rfl T.b_set (z0p (z0h 2 (pv 2)) z0c)) (z1z rfl T.b_len (z0p (z0h 2 (pv 2)) z0c))) (z2O (z7T hr.units (z7k rfl rfl T.b_len rfl T.b_set (z0p (z0h 2 (pv 2)) z0c)) (z1z rfl T.b_len (z0p (z0h 2 (pv 2)) z0c)))))) (z0i (z0x z2R)) z0S)
      (z0i (z0x (z4c (pd_or (z9C hr.units (z0p (z0h 2 (pv 2)) z0c) z3z) (z5t (z9C hr.units (z7h (z6y rfl T.b_list (z0p (z0h 2 (pv 2)) z0c))) (z7h (z6h rfl T.b_sorted (z0p (z0h 2 (pv 2)) z0c)))))) (z5t (z4S (z0j G__law_bars (hr.mono (by decide)) rfl (z0a (z0h 0 (pv 0)) (z0a (z0h 2 (pv 2)) z0e))))))))))))))
theorem sc__law_lines : FnScope z8t z3B (z0b z1G):=⟨rfl,rfl,rfl,by decide +kernel,rfl,by decide +kernel,by decide +kernel⟩
theorem z7r {f : Addr} {fd : FuncData} (F : Fun K "_law_lines" "_law_lines" z1G f fd) (hm : mg "_law_lines" = some (.ref f)) (hb : Binds K fd z3B []) (T : Txt mg) : DefOk P w K mg base 1 "_law_lines" (spN K z2e):=
  z5k (k:=0) (g:=z3J) F hm hb sc__law_lines rfl rfl fun cdv A outer s H E hr=>
    (z0g (z0X (z0T (i:=1) sc__law_lines.nd rfl (Or.inl rfl) (y3l (y1d (z8g (z1A z0e)) y3L))))
      (z0g (z2W PassesOwn.never rfl (z5e rfl T.b_range (z0h 0 (pv 0))) (z0n (i:=2) sc__law_lines.nd rfl (Or.inl rfl)) (z0g (z0X (z0T (i:=3) sc__law_lines.nd rfl (Or.inl rfl) (z8g (z1A z0e))))
      (z0g (s_frz 1 (z2W PassesOwn.never rfl (z0w (z0h 1 (pv 1))) (z0n (i:=4) sc__law_lines.nd rfl (Or.inl rfl)) (z0i (z2W PassesOwn.never rfl (z5e rfl T.b_range (z3E (z1z rfl T.b_len (z0h 4 (pv 4))) z0c)) (z0n (i:=5) sc__law_lines.nd rfl (Or.inl rfl)) (z0i (y4b (pv 3) (z8g (z8M (z7h (z8M (z7h (z5G (z0h 4 (pv 4)) z3P (z2F (z0h 5 (pv 5))))) (z7h (z1A (z0a (z0h 2 (pv 2)) z0e))))) (z7h (z5G (z0h 4 (pv 4)) (z2F (z0h 5 (pv 5))) z3P))))))))))
      (z0i (s_mov (by decide) (z0T (i:=1) sc__law_lines.nd rfl (Or.inl rfl) (pv 3)))))))
      (z0i (z6N (pv 1)))))
theorem sc__law_some_line : FnScope z5z z2g (z0b z0M):=⟨rfl,rfl,rfl,by decide +kernel,rfl,by decide +kernel,by decide +kernel⟩
theorem z4V {f : Addr} {fd : FuncData} (F : Fun K "_law_some_line" "_law_some_line" z0M f fd) (hm : mg "_law_some_line" = some (.ref f)) (hb : Binds K fd z2g []) (T : Txt mg) (G__law_fits : DefOk P w K mg base 1 "_law_fits" (spN K z1f)) (G__law_lines : DefOk P w K mg base 1 "_law_lines" (spN K z2e)) : DefOk P w K mg base 2 "_law_some_line" (spN K z1i):=
  z5k (k:=1) (g:=z2h) F hm hb sc__law_some_line rfl rfl fun cdv A outer s H E hr=>
    (z0g (z0X (z0T (i:=2) sc__law_some_line.nd rfl (Or.inl rfl) (z8g (z1A z0e))))
      (z0g (z2W PassesOwn.never rfl (z0w (z0h 0 (pv 0))) (z0n (i:=3) sc__law_some_line.nd rfl (Or.inl rfl)) (z0i (z4v (y6P hr.units (z0p (z0h 3 (pv 3)) z0c) (z0h 2 (pv 2))) (z0i (s_m0 PySem.F.slot_list_append PySem.F.type_list_append z2d z2y (pv 2) (z0a (z0p (z0h 3 (pv 3)) z0c) z0e))) z0S)))
      (z0g (s_frz 2 (z2W PassesOwn.never rfl (z0w (z4S (z0j G__law_lines (hr.mono (by decide)) rfl (z0a (z0h 1 (pv 1)) z0e)))) (z0n (i:=4) sc__law_some_line.nd rfl (Or.inl rfl)) (z0g (z2x (z0T (i:=5) sc__law_some_line.nd rfl (Or.inl rfl) z2R))
      (z0g (z2W PassesOwn.never rfl (z0w (z0h 2 (pv 2))) (z0n (i:=6) sc__law_some_line.nd rfl (Or.inl rfl)) (z0i (z2x (z0T (i:=5) sc__law_some_line.nd rfl (Or.inl rfl) (z4c (z0h 5 (pv 5)) (z5t (z4S (z0j G__law_fits (hr.mono (by decide)) rfl (z0a (z0h 6 (pv 6)) (z0a (z0h 4 (pv 4)) z0e))))))))))
      (z0i (z4v (z0I (z0h 5 (pv 5))) (z0i (z0x z2R)) z0S))))))
      (z0i (z0x z2R)))))
theorem sc_law : FnScope N_law P_law (z0b z7s):=⟨rfl,rfl,rfl,by decide +kernel,rfl,by decide +kernel,by decide +kernel⟩
theorem ok_law {f : Addr} {fd : FuncData} (F : Fun K "law" "law" z7s f fd) (T : Txt mg) (Z : Cls K mg base cl) (G_line_of : DefX P w K mg base 6 "line_of" (spXS K cl z2u)) (G__law_cell_at : DefOk P w K mg base 1 "_law_cell_at" (spN K z0t)) (G__law_order : DefOk P w K mg base 1 "_law_order" (spN K z1o)) (G__law_votes : DefOk P w K mg base 2 "_law_votes" (spN K z2b)) (G__law_line_holds : DefOk P w K mg base 2 "_law_line_holds" (spN K z1b)) (G__law_bar_holds : DefOk P w K mg base 3 "_law_bar_holds" (spN K z0O)) (G__law_some_line : DefOk P w K mg base 2 "_law_some_line" (spN K z1i)) : FnOk P w K mg base CX0 7 f fd P_law (spN K y1m):=
  fnN (k:=6) (g:=y5N) F sc_law rfl rfl fun cdv A outer s H E hr=>
    (z0g (z2x (z0T (i:=1) sc_law.nd rfl (Or.inl rfl) (z3E z0c (z3l (z4S (z0j G__law_cell_at (hr.mono (by decide)) rfl (z0a (z0h 0 (pv 0)) (z0a z0c z0e)))) z0c))))
      (z0g (z0X (z0T (i:=2) sc_law.nd rfl (Or.inl rfl) (z0j G__law_order (hr.mono (by decide)) rfl (z0a (z4S (z0j G__law_cell_at (hr.mono (by decide)) rfl (z0a (z0h 0 (pv 0)) (z0a z0c z0e)))) (z0a (z0h 1 (pv 1)) z0e)))))
      (z0g (z0X (z0T (i:=3) sc_law.nd rfl (Or.inl rfl) (z0j G__law_votes (hr.mono (by decide)) rfl (z0a (z0h 0 (pv 0)) (z0a (z0h 1 (pv 1)) (z0a (z0h 2 (pv 2)) (z0a (z0p (z7h (z1A (z0a z0c (z0a z0c (z0a z0c z0e))))) (z3l (z6m (z4S (z0j G__law_cell_at (hr.mono (by decide)) rfl (z0a (z0h 0 (pv 0)) (z0a z0c z0e)))) z0c) z0c)) z0e)))))))
      (z0g (z0X (z0T (i:=4) sc_law.nd rfl (Or.inl rfl) (z8g (z6y rfl T.b_list (z0h 3 (pv 3))))))
      (z0g (s_frz 4 (z8W (z0T (i:=5) sc_law.nd rfl (Or.inl rfl) (y3j G_line_of (hr.mono (by decide)) rfl (z0a (z0h 4 (pv 4)) (z0a (z0h 1 (pv 1)) z0e))))))
      (z0g (z4v (PW.pt (z3n (z2S (z0I (z7q rfl T.b_tuple rfl T.b_isinstance (z0h 5 (pv 5))))) (z3n (y5z (z1z rfl T.b_len (z0h 5 (pv 5))) z0c) (z2O (z7T hr.units (z0h 4 (pv 4)) (z0h 3 (pv 3))))))) (z0i (z0x z2R)) z0S)
      (z0g (z4v (z0I (z4S (z0j G__law_some_line (hr.mono (by decide)) rfl (z0a (z0h 3 (pv 3)) (z0a (z0h 1 (pv 1)) z0e))))) (z0i (z0x (z4c (z9C hr.units (z1z rfl T.b_len (z0h 5 (pv 5))) z0c) (z4c (z9C hr.units (z0p (z0h 5 (pv 5)) z0c) z3z) (z5t (z4S (z0j G__law_line_holds (hr.mono (by decide)) rfl (z0a (z0h 3 (pv 3)) (z0a (z0h 1 (pv 1)) (z0a (z0p (z0h 5 (pv 5)) z0c) z0e)))))))))) z0S)
      (z0i (z0x (z4c (z9C hr.units (z1z rfl T.b_len (z0h 5 (pv 5))) z0c) (z5t (z4S (z0j G__law_bar_holds (hr.mono (by decide)) rfl (z0a (z0h 3 (pv 3)) (z0a (z0h 1 (pv 1)) (z0a (z0h 5 (pv 5)) z0e))))))))))))))))
end
theorem us_1 {α : Type} {us : List α} (h : us.length=1) : ∃ a0,us=[a0]:=by
  cases us with
  | nil=>cases h
  | cons b us=>exact ⟨b,by rw [List.length_eq_zero_iff.mp (Nat.succ.inj h)]⟩
theorem z6H {α : Type} {us : List α} (h : us.length=2) : ∃ a0 a1,us=[a0,a1]:=by
  cases us with
  | nil=>cases h
  | cons b us=>obtain ⟨a1,e⟩:=us_1 (Nat.succ.inj h); exact ⟨b,a1,by rw [e]⟩
theorem us_3 {α : Type} {us : List α} (h : us.length=3) : ∃ a0 a1 a2,us=[a0,a1,a2]:=by
  cases us with
  | nil=>cases h
  | cons b us=>obtain ⟨a1,a2,e⟩:=z6H (Nat.succ.inj h); exact ⟨b,a1,a2,by rw [e]⟩
theorem us_4 {α : Type} {us : List α} (h : us.length=4) : ∃ a0 a1 a2 a3,us=[a0,a1,a2,a3]:=by
  cases us with
  | nil=>cases h
  | cons b us=>obtain ⟨a1,a2,a3,e⟩:=us_3 (Nat.succ.inj h); exact ⟨b,a1,a2,a3,by rw [e]⟩
theorem us_5 {α : Type} {us : List α} (h : us.length=5) : ∃ a0 a1 a2 a3 a4,us=[a0,a1,a2,a3,a4]:=by
  cases us with
  | nil=>cases h
  | cons b us=>obtain ⟨a1,a2,a3,a4,e⟩:=us_4 (Nat.succ.inj h); exact ⟨b,a1,a2,a3,a4,by rw [e]⟩
theorem us_6 {α : Type} {us : List α} (h : us.length=6) : ∃ a0 a1 a2 a3 a4 a5,us=[a0,a1,a2,a3,a4,a5]:=by
  cases us with
  | nil=>cases h
  | cons b us=>obtain ⟨a1,a2,a3,a4,a5,e⟩:=us_5 (Nat.succ.inj h); exact ⟨b,a1,a2,a3,a4,a5,by rw [e]⟩
theorem all_mk {l : PySem.W.OpenLaw} {w : World} {K : PySem.W.Frag} {h : Heap} {mg : Str->Option Value} {fa : Addr} (X : K.In h) (G : h.Ns mainGlobals mg) (hfa : mg "law" = some (.ref fa))
    {f_is_thing f_tells_each_once f_asked f_voices f_puts_ahead f_lies_on f_are_side_by_side f_line_of f_lines_for f_bar_of f_picks f_with_one_more f_bar_among f_wanted_of f_pairs_with_last f_pairs_with_between f_first_places f_puts_all_ahead f__law_cell_at f__law_whole f__law_order f__law_on_line f__law_fits f__law_votes f__law_last f__law_bars f__law_line_holds f__law_bar_holds f__law_lines f__law_some_line f_law : Addr} {od23 an23 : Option Addr} {sl23 : Array (Option Value)} {oc23 kV23 dc23 pm23 cd23 ct23 : Value} {od4 an4 : Option Addr} {sl4 : Array (Option Value)} {oc4 kV4 dc4 pm4 cd4 ct4 : Value} {od28 an28 : Option Addr} {sl28 : Array (Option Value)} {oc28 kV28 dc28 pm28 cd28 ct28 : Value} {od27 an27 : Option Addr} {sl27 : Array (Option Value)} {oc27 kV27 dc27 pm27 cd27 ct27 : Value} {od16 an16 : Option Addr} {sl16 : Array (Option Value)} {oc16 kV16 dc16 pm16 cd16 ct16 : Value} {od24 an24 : Option Addr} {sl24 : Array (Option Value)} {oc24 kV24 dc24 pm24 cd24 ct24 : Value} {od1 an1 : Option Addr} {sl1 : Array (Option Value)} {oc1 kV1 dc1 pm1 cd1 ct1 : Value} {od25 an25 : Option Addr} {sl25 : Array (Option Value)} {oc25 kV25 dc25 pm25 cd25 ct25 : Value} {od21 an21 : Option Addr} {sl21 : Array (Option Value)} {oc21 kV21 dc21 pm21 cd21 ct21 : Value} {od26 an26 : Option Addr} {sl26 : Array (Option Value)} {oc26 kV26 dc26 pm26 cd26 ct26 : Value} {od29 an29 : Option Addr} {sl29 : Array (Option Value)} {oc29 kV29 dc29 pm29 cd29 ct29 : Value} {od8 an8 : Option Addr} {sl8 : Array (Option Value)} {oc8 kV8 dc8 pm8 cd8 ct8 : Value} {od20 an20 : Option Addr} {sl20 : Array (Option Value)} {oc20 kV20 dc20 pm20 cd20 ct20 : Value} {od22 an22 : Option Addr} {sl22 : Array (Option Value)} {oc22 kV22 dc22 pm22 cd22 ct22 : Value} {od3 an3 : Option Addr} {sl3 : Array (Option Value)} {oc3 kV3 dc3 pm3 cd3 ct3 : Value} {od0 an0 : Option Addr} {sl0 : Array (Option Value)} {oc0 kV0 dc0 pm0 cd0 ct0 : Value} {od11 an11 : Option Addr} {sl11 : Array (Option Value)} {oc11 kV11 dc11 pm11 cd11 ct11 : Value} {od7 an7 : Option Addr} {sl7 : Array (Option Value)} {oc7 kV7 dc7 pm7 cd7 ct7 : Value} {od9 an9 : Option Addr} {sl9 : Array (Option Value)} {oc9 kV9 dc9 pm9 cd9 ct9 : Value} {od15 an15 : Option Addr} {sl15 : Array (Option Value)} {oc15 kV15 dc15 pm15 cd15 ct15 : Value} {od13 an13 : Option Addr} {sl13 : Array (Option Value)} {oc13 kV13 dc13 pm13 cd13 ct13 : Value} {od10 an10 : Option Addr} {sl10 : Array (Option Value)} {oc10 kV10 dc10 pm10 cd10 ct10 : Value} {od18 an18 : Option Addr} {sl18 : Array (Option Value)} {oc18 kV18 dc18 pm18 cd18 ct18 : Value} {od14 an14 : Option Addr} {sl14 : Array (Option Value)} {oc14 kV14 dc14 pm14 cd14 ct14 : Value} {od19 an19 : Option Addr} {sl19 : Array (Option Value)} {oc19 kV19 dc19 pm19 cd19 ct19 : Value} {od17 an17 : Option Addr} {sl17 : Array (Option Value)} {oc17 kV17 dc17 pm17 cd17 ct17 : Value} {od2 an2 : Option Addr} {sl2 : Array (Option Value)} {oc2 kV2 dc2 pm2 cd2 ct2 : Value} {od5 an5 : Option Addr} {sl5 : Array (Option Value)} {oc5 kV5 dc5 pm5 cd5 ct5 : Value} {od12 an12 : Option Addr} {sl12 : Array (Option Value)} {oc12 kV12 dc12 pm12 cd12 ct12 : Value} {od6 an6 : Option Addr} {sl6 : Array (Option Value)} {oc6 kV6 dc6 pm6 cd6 ct6 : Value} {od30 an30 : Option Addr} {sl30 : Array (Option Value)} {oc30 kV30 dc30 pm30 cd30 ct30 : Value} {C_BadBallot C_Even : Addr}
    (a_is_thing : PySem.W.nsIn K mainGlobals "is_thing" = some (some (.ref f_is_thing))) (l_is_thing : K.lookup f_is_thing=some ⟨oc23,od23,.func (PySem.W.fnOf "is_thing" "is_thing" (z0s z2n) (z0l z2n) (z0b z2n) .none kV23 dc23 pm23 an23 cd23 ct23),sl23⟩) (c_is_thing : PySem.W.codeIn K cd23 "is_thing" = true) (k_is_thing : PySem.W.keepIn K (.ref f_is_thing)=true)
    (a_tells_each_once : PySem.W.nsIn K mainGlobals "tells_each_once" = some (some (.ref f_tells_each_once))) (l_tells_each_once : K.lookup f_tells_each_once=some ⟨oc4,od4,.func (PySem.W.fnOf "tells_each_once" "tells_each_once" (z0s z0D) (z0l z0D) (z0b z0D) .none kV4 dc4 pm4 an4 cd4 ct4),sl4⟩) (c_tells_each_once : PySem.W.codeIn K cd4 "tells_each_once" = true) (k_tells_each_once : PySem.W.keepIn K (.ref f_tells_each_once)=true)
    (a_asked : PySem.W.nsIn K mainGlobals "asked" = some (some (.ref f_asked))) (l_asked : K.lookup f_asked=some ⟨oc28,od28,.func (PySem.W.fnOf "asked" "asked" (z0s z5f) (z0l z5f) (z0b z5f) .none kV28 dc28 pm28 an28 cd28 ct28),sl28⟩) (c_asked : PySem.W.codeIn K cd28 "asked" = true) (k_asked : PySem.W.keepIn K (.ref f_asked)=true)
    (a_voices : PySem.W.nsIn K mainGlobals "voices" = some (some (.ref f_voices))) (l_voices : K.lookup f_voices=some ⟨oc27,od27,.func (PySem.W.fnOf "voices" "voices" (z0s z3N) (z0l z3N) (z0b z3N) .none kV27 dc27 pm27 an27 cd27 ct27),sl27⟩) (c_voices : PySem.W.codeIn K cd27 "voices" = true) (k_voices : PySem.W.keepIn K (.ref f_voices)=true)
    (a_puts_ahead : PySem.W.nsIn K mainGlobals "puts_ahead" = some (some (.ref f_puts_ahead))) (l_puts_ahead : K.lookup f_puts_ahead=some ⟨oc16,od16,.func (PySem.W.fnOf "puts_ahead" "puts_ahead" (z0s z1D) (z0l z1D) (z0b z1D) .none kV16 dc16 pm16 an16 cd16 ct16),sl16⟩) (c_puts_ahead : PySem.W.codeIn K cd16 "puts_ahead" = true) (k_puts_ahead : PySem.W.keepIn K (.ref f_puts_ahead)=true)
    (a_lies_on : PySem.W.nsIn K mainGlobals "lies_on" = some (some (.ref f_lies_on))) (l_lies_on : K.lookup f_lies_on=some ⟨oc24,od24,.func (PySem.W.fnOf "lies_on" "lies_on" (z0s z2U) (z0l z2U) (z0b z2U) .none kV24 dc24 pm24 an24 cd24 ct24),sl24⟩) (c_lies_on : PySem.W.codeIn K cd24 "lies_on" = true) (k_lies_on : PySem.W.keepIn K (.ref f_lies_on)=true)
    (a_are_side_by_side : PySem.W.nsIn K mainGlobals "are_side_by_side" = some (some (.ref f_are_side_by_side))) (l_are_side_by_side : K.lookup f_are_side_by_side=some ⟨oc1,od1,.func (PySem.W.fnOf "are_side_by_side" "are_side_by_side" (z0s z0A) (z0l z0A) (z0b z0A) .none kV1 dc1 pm1 an1 cd1 ct1),sl1⟩) (c_are_side_by_side : PySem.W.codeIn K cd1 "are_side_by_side" = true) (k_are_side_by_side : PySem.W.keepIn K (.ref f_are_side_by_side)=true)
    (a_line_of : PySem.W.nsIn K mainGlobals "line_of" = some (some (.ref f_line_of))) (l_line_of : K.lookup f_line_of=some ⟨oc25,od25,.func (PySem.W.fnOf "line_of" "line_of" (z0s z2V) (z0l z2V) (z0b z2V) .none kV25 dc25 pm25 an25 cd25 ct25),sl25⟩) (c_line_of : PySem.W.codeIn K cd25 "line_of" = true) (k_line_of : PySem.W.keepIn K (.ref f_line_of)=true)
    (a_lines_for : PySem.W.nsIn K mainGlobals "lines_for" = some (some (.ref f_lines_for))) (l_lines_for : K.lookup f_lines_for=some ⟨oc21,od21,.func (PySem.W.fnOf "lines_for" "lines_for" (z0s z1R) (z0l z1R) (z0b z1R) .none kV21 dc21 pm21 an21 cd21 ct21),sl21⟩) (c_lines_for : PySem.W.codeIn K cd21 "lines_for" = true) (k_lines_for : PySem.W.keepIn K (.ref f_lines_for)=true)
    (a_bar_of : PySem.W.nsIn K mainGlobals "bar_of" = some (some (.ref f_bar_of))) (l_bar_of : K.lookup f_bar_of=some ⟨oc26,od26,.func (PySem.W.fnOf "bar_of" "bar_of" (z0s z3R) (z0l z3R) (z0b z3R) .none kV26 dc26 pm26 an26 cd26 ct26),sl26⟩) (c_bar_of : PySem.W.codeIn K cd26 "bar_of" = true) (k_bar_of : PySem.W.keepIn K (.ref f_bar_of)=true)
    (a_picks : PySem.W.nsIn K mainGlobals "picks" = some (some (.ref f_picks))) (l_picks : K.lookup f_picks=some ⟨oc29,od29,.func (PySem.W.fnOf "picks" "picks" (z0s z5n) (z0l z5n) (z0b z5n) .none kV29 dc29 pm29 an29 cd29 ct29),sl29⟩) (c_picks : PySem.W.codeIn K cd29 "picks" = true) (k_picks : PySem.W.keepIn K (.ref f_picks)=true)
    (a_with_one_more : PySem.W.nsIn K mainGlobals "with_one_more" = some (some (.ref f_with_one_more))) (l_with_one_more : K.lookup f_with_one_more=some ⟨oc8,od8,.func (PySem.W.fnOf "with_one_more" "with_one_more" (z0s z0V) (z0l z0V) (z0b z0V) .none kV8 dc8 pm8 an8 cd8 ct8),sl8⟩) (c_with_one_more : PySem.W.codeIn K cd8 "with_one_more" = true) (k_with_one_more : PySem.W.keepIn K (.ref f_with_one_more)=true)
    (a_bar_among : PySem.W.nsIn K mainGlobals "bar_among" = some (some (.ref f_bar_among))) (l_bar_among : K.lookup f_bar_among=some ⟨oc20,od20,.func (PySem.W.fnOf "bar_among" "bar_among" (z0s z1X) (z0l z1X) (z0b z1X) .none kV20 dc20 pm20 an20 cd20 ct20),sl20⟩) (c_bar_among : PySem.W.codeIn K cd20 "bar_among" = true) (k_bar_among : PySem.W.keepIn K (.ref f_bar_among)=true)
    (a_wanted_of : PySem.W.nsIn K mainGlobals "wanted_of" = some (some (.ref f_wanted_of))) (l_wanted_of : K.lookup f_wanted_of=some ⟨oc22,od22,.func (PySem.W.fnOf "wanted_of" "wanted_of" (z0s z1Z) (z0l z1Z) (z0b z1Z) .none kV22 dc22 pm22 an22 cd22 ct22),sl22⟩) (c_wanted_of : PySem.W.codeIn K cd22 "wanted_of" = true) (k_wanted_of : PySem.W.keepIn K (.ref f_wanted_of)=true)
    (a_pairs_with_last : PySem.W.nsIn K mainGlobals "pairs_with_last" = some (some (.ref f_pairs_with_last))) (l_pairs_with_last : K.lookup f_pairs_with_last=some ⟨oc3,od3,.func (PySem.W.fnOf "pairs_with_last" "pairs_with_last" (z0s z0F) (z0l z0F) (z0b z0F) .none kV3 dc3 pm3 an3 cd3 ct3),sl3⟩) (c_pairs_with_last : PySem.W.codeIn K cd3 "pairs_with_last" = true) (k_pairs_with_last : PySem.W.keepIn K (.ref f_pairs_with_last)=true)
    (a_pairs_with_between : PySem.W.nsIn K mainGlobals "pairs_with_between" = some (some (.ref f_pairs_with_between))) (l_pairs_with_between : K.lookup f_pairs_with_between=some ⟨oc0,od0,.func (PySem.W.fnOf "pairs_with_between" "pairs_with_between" (z0s z0y) (z0l z0y) (z0b z0y) .none kV0 dc0 pm0 an0 cd0 ct0),sl0⟩) (c_pairs_with_between : PySem.W.codeIn K cd0 "pairs_with_between" = true) (k_pairs_with_between : PySem.W.keepIn K (.ref f_pairs_with_between)=true)
    (a_first_places : PySem.W.nsIn K mainGlobals "first_places" = some (some (.ref f_first_places))) (l_first_places : K.lookup f_first_places=some ⟨oc11,od11,.func (PySem.W.fnOf "first_places" "first_places" (z0s z1l) (z0l z1l) (z0b z1l) .none kV11 dc11 pm11 an11 cd11 ct11),sl11⟩) (c_first_places : PySem.W.codeIn K cd11 "first_places" = true) (k_first_places : PySem.W.keepIn K (.ref f_first_places)=true)
    (a_puts_all_ahead : PySem.W.nsIn K mainGlobals "puts_all_ahead" = some (some (.ref f_puts_all_ahead))) (l_puts_all_ahead : K.lookup f_puts_all_ahead=some ⟨oc7,od7,.func (PySem.W.fnOf "puts_all_ahead" "puts_all_ahead" (z0s z0Q) (z0l z0Q) (z0b z0Q) .none kV7 dc7 pm7 an7 cd7 ct7),sl7⟩) (c_puts_all_ahead : PySem.W.codeIn K cd7 "puts_all_ahead" = true) (k_puts_all_ahead : PySem.W.keepIn K (.ref f_puts_all_ahead)=true)
    (a__law_cell_at : PySem.W.nsIn K mainGlobals "_law_cell_at" = some (some (.ref f__law_cell_at))) (l__law_cell_at : K.lookup f__law_cell_at=some ⟨oc9,od9,.func (PySem.W.fnOf "_law_cell_at" "_law_cell_at" (z0s z1k) (z0l z1k) (z0b z1k) .none kV9 dc9 pm9 an9 cd9 ct9),sl9⟩) (c__law_cell_at : PySem.W.codeIn K cd9 "_law_cell_at" = true) (k__law_cell_at : PySem.W.keepIn K (.ref f__law_cell_at)=true)
    (a__law_whole : PySem.W.nsIn K mainGlobals "_law_whole" = some (some (.ref f__law_whole))) (l__law_whole : K.lookup f__law_whole=some ⟨oc15,od15,.func (PySem.W.fnOf "_law_whole" "_law_whole" (z0s z1E) (z0l z1E) (z0b z1E) .none kV15 dc15 pm15 an15 cd15 ct15),sl15⟩) (c__law_whole : PySem.W.codeIn K cd15 "_law_whole" = true) (k__law_whole : PySem.W.keepIn K (.ref f__law_whole)=true)
    (a__law_order : PySem.W.nsIn K mainGlobals "_law_order" = some (some (.ref f__law_order))) (l__law_order : K.lookup f__law_order=some ⟨oc13,od13,.func (PySem.W.fnOf "_law_order" "_law_order" (z0s z1F) (z0l z1F) (z0b z1F) .none kV13 dc13 pm13 an13 cd13 ct13),sl13⟩) (c__law_order : PySem.W.codeIn K cd13 "_law_order" = true) (k__law_order : PySem.W.keepIn K (.ref f__law_order)=true)
    (a__law_on_line : PySem.W.nsIn K mainGlobals "_law_on_line" = some (some (.ref f__law_on_line))) (l__law_on_line : K.lookup f__law_on_line=some ⟨oc10,od10,.func (PySem.W.fnOf "_law_on_line" "_law_on_line" (z0s z1m) (z0l z1m) (z0b z1m) .none kV10 dc10 pm10 an10 cd10 ct10),sl10⟩) (c__law_on_line : PySem.W.codeIn K cd10 "_law_on_line" = true) (k__law_on_line : PySem.W.keepIn K (.ref f__law_on_line)=true)
    (a__law_fits : PySem.W.nsIn K mainGlobals "_law_fits" = some (some (.ref f__law_fits))) (l__law_fits : K.lookup f__law_fits=some ⟨oc18,od18,.func (PySem.W.fnOf "_law_fits" "_law_fits" (z0s z1T) (z0l z1T) (z0b z1T) .none kV18 dc18 pm18 an18 cd18 ct18),sl18⟩) (c__law_fits : PySem.W.codeIn K cd18 "_law_fits" = true) (k__law_fits : PySem.W.keepIn K (.ref f__law_fits)=true)
    (a__law_votes : PySem.W.nsIn K mainGlobals "_law_votes" = some (some (.ref f__law_votes))) (l__law_votes : K.lookup f__law_votes=some ⟨oc14,od14,.func (PySem.W.fnOf "_law_votes" "_law_votes" (z0s z1I) (z0l z1I) (z0b z1I) .none kV14 dc14 pm14 an14 cd14 ct14),sl14⟩) (c__law_votes : PySem.W.codeIn K cd14 "_law_votes" = true) (k__law_votes : PySem.W.keepIn K (.ref f__law_votes)=true)
    (a__law_last : PySem.W.nsIn K mainGlobals "_law_last" = some (some (.ref f__law_last))) (l__law_last : K.lookup f__law_last=some ⟨oc19,od19,.func (PySem.W.fnOf "_law_last" "_law_last" (z0s z1Y) (z0l z1Y) (z0b z1Y) .none kV19 dc19 pm19 an19 cd19 ct19),sl19⟩) (c__law_last : PySem.W.codeIn K cd19 "_law_last" = true) (k__law_last : PySem.W.keepIn K (.ref f__law_last)=true)
    (a__law_bars : PySem.W.nsIn K mainGlobals "_law_bars" = some (some (.ref f__law_bars))) (l__law_bars : K.lookup f__law_bars=some ⟨oc17,od17,.func (PySem.W.fnOf "_law_bars" "_law_bars" (z0s z1O) (z0l z1O) (z0b z1O) .none kV17 dc17 pm17 an17 cd17 ct17),sl17⟩) (c__law_bars : PySem.W.codeIn K cd17 "_law_bars" = true) (k__law_bars : PySem.W.keepIn K (.ref f__law_bars)=true)
    (a__law_line_holds : PySem.W.nsIn K mainGlobals "_law_line_holds" = some (some (.ref f__law_line_holds))) (l__law_line_holds : K.lookup f__law_line_holds=some ⟨oc2,od2,.func (PySem.W.fnOf "_law_line_holds" "_law_line_holds" (z0s z0E) (z0l z0E) (z0b z0E) .none kV2 dc2 pm2 an2 cd2 ct2),sl2⟩) (c__law_line_holds : PySem.W.codeIn K cd2 "_law_line_holds" = true) (k__law_line_holds : PySem.W.keepIn K (.ref f__law_line_holds)=true)
    (a__law_bar_holds : PySem.W.nsIn K mainGlobals "_law_bar_holds" = some (some (.ref f__law_bar_holds))) (l__law_bar_holds : K.lookup f__law_bar_holds=some ⟨oc5,od5,.func (PySem.W.fnOf "_law_bar_holds" "_law_bar_holds" (z0s z0N) (z0l z0N) (z0b z0N) .none kV5 dc5 pm5 an5 cd5 ct5),sl5⟩) (c__law_bar_holds : PySem.W.codeIn K cd5 "_law_bar_holds" = true) (k__law_bar_holds : PySem.W.keepIn K (.ref f__law_bar_holds)=true)
    (a__law_lines : PySem.W.nsIn K mainGlobals "_law_lines" = some (some (.ref f__law_lines))) (l__law_lines : K.lookup f__law_lines=some ⟨oc12,od12,.func (PySem.W.fnOf "_law_lines" "_law_lines" (z0s z1G) (z0l z1G) (z0b z1G) .none kV12 dc12 pm12 an12 cd12 ct12),sl12⟩) (c__law_lines : PySem.W.codeIn K cd12 "_law_lines" = true) (k__law_lines : PySem.W.keepIn K (.ref f__law_lines)=true)
    (a__law_some_line : PySem.W.nsIn K mainGlobals "_law_some_line" = some (some (.ref f__law_some_line))) (l__law_some_line : K.lookup f__law_some_line=some ⟨oc6,od6,.func (PySem.W.fnOf "_law_some_line" "_law_some_line" (z0s z0M) (z0l z0M) (z0b z0M) .none kV6 dc6 pm6 an6 cd6 ct6),sl6⟩) (c__law_some_line : PySem.W.codeIn K cd6 "_law_some_line" = true) (k__law_some_line : PySem.W.keepIn K (.ref f__law_some_line)=true)
    (a_law : PySem.W.nsIn K mainGlobals "law" = some (some (.ref f_law))) (l_law : K.lookup f_law=some ⟨oc30,od30,.func (PySem.W.fnOf "law" "law" (z0s z7s) (z0l z7s) (z0b z7s) .none kV30 dc30 pm30 an30 cd30 ct30),sl30⟩) (c_law : PySem.W.codeIn K cd30 "law" = true) (k_law : PySem.W.keepIn K (.ref f_law)=true)
    (x_BadBallot : PySem.W.nsIn K mainGlobals "BadBallot" = some (some (.ref C_BadBallot))) (q_BadBallot : PySem.W.excIn K C_BadBallot bmVE "ValueError.__new__" = true)
    (x_Even : PySem.W.nsIn K mainGlobals "Even" = some (some (.ref C_Even))) (q_Even : PySem.W.excIn K C_Even bmVE "ValueError.__new__" = true)
    (z_int : PySem.W.nsIn K mainGlobals "int" = some none) (z_isinstance : PySem.W.nsIn K mainGlobals "isinstance" = some none) (z_bool : PySem.W.nsIn K mainGlobals "bool" = some none) (z_len : PySem.W.nsIn K mainGlobals "len" = some none) (z_sum : PySem.W.nsIn K mainGlobals "sum" = some none) (z_max : PySem.W.nsIn K mainGlobals "max" = some none) (z_min : PySem.W.nsIn K mainGlobals "min" = some none) (z_range : PySem.W.nsIn K mainGlobals "range" = some none) (z_all : PySem.W.nsIn K mainGlobals "all" = some none) (z_tuple : PySem.W.nsIn K mainGlobals "tuple" = some none) (z_enumerate : PySem.W.nsIn K mainGlobals "enumerate" = some none) (z_list : PySem.W.nsIn K mainGlobals "list" = some none) (z_sorted : PySem.W.nsIn K mainGlobals "sorted" = some none) (z_set : PySem.W.nsIn K mainGlobals "set" = some none) :
    ∃ fd : FuncData,(∀ (s : Shared) (v : Value),BindsTo s fd ⟨[v],[]⟩ [("script",v)])∧∀ base : Heap,K.In base->base.Ns mainGlobals mg->FnOk l.prog w K mg base CX0 7 fa fd ["script"] (y5Z K y1m):=by
  have e:=hfa.symm.trans (PySem.W.mg_of X G a_law)
  cases e
  have T : Txt mg:=⟨PySem.W.mg_none_of X G z_int,PySem.W.mg_none_of X G z_isinstance,PySem.W.mg_none_of X G z_bool,PySem.W.mg_none_of X G z_len,PySem.W.mg_none_of X G z_sum,PySem.W.mg_none_of X G z_max,PySem.W.mg_none_of X G z_min,PySem.W.mg_none_of X G z_range,PySem.W.mg_none_of X G z_all,PySem.W.mg_none_of X G z_tuple,PySem.W.mg_none_of X G z_enumerate,PySem.W.mg_none_of X G z_list,PySem.W.mg_none_of X G z_sorted,PySem.W.mg_none_of X G z_set⟩
  have F_is_thing:=z0J (st:=z2n) l_is_thing c_is_thing k_is_thing
  have b_is_thing:=F_is_thing.binds (ps:=z5g) fun _ _ _ _ _ _ us hl=>by obtain ⟨_,_,rfl⟩:=z6H hl; rfl
  have F_tells_each_once:=z0J (st:=z0D) l_tells_each_once c_tells_each_once k_tells_each_once
  have b_tells_each_once:=F_tells_each_once.binds (ps:=z1U) fun _ _ _ _ _ _ us hl=>by obtain ⟨_,_,rfl⟩:=z6H hl; rfl
  have F_asked:=z0J (st:=z5f) l_asked c_asked k_asked
  have b_asked:=F_asked.binds (ps:=z7n) fun _ _ _ _ _ _ us hl=>by obtain ⟨_,_,rfl⟩:=z6H hl; rfl
  have F_voices:=z0J (st:=z3N) l_voices c_voices k_voices
  have b_voices:=F_voices.binds (ps:=z7B) fun _ _ _ _ _ _ us hl=>by obtain ⟨_,rfl⟩:=us_1 hl; rfl
  have F_puts_ahead:=z0J (st:=z1D) l_puts_ahead c_puts_ahead k_puts_ahead
  have b_puts_ahead:=F_puts_ahead.binds (ps:=z3t) fun _ _ _ _ _ _ us hl=>by obtain ⟨_,_,_,rfl⟩:=us_3 hl; rfl
  have F_lies_on:=z0J (st:=z2U) l_lies_on c_lies_on k_lies_on
  have b_lies_on:=F_lies_on.binds (ps:=z6C) fun _ _ _ _ _ _ us hl=>by obtain ⟨_,_,rfl⟩:=z6H hl; rfl
  have F_are_side_by_side:=z0J (st:=z0A) l_are_side_by_side c_are_side_by_side k_are_side_by_side
  have b_are_side_by_side:=F_are_side_by_side.binds (ps:=z1J) fun _ _ _ _ _ _ us hl=>by obtain ⟨_,_,rfl⟩:=z6H hl; rfl
  have F_line_of:=z0J (st:=z2V) l_line_of c_line_of k_line_of
  have b_line_of:=F_line_of.binds (ps:=z4O) fun _ _ _ _ _ _ us hl=>by obtain ⟨_,_,rfl⟩:=z6H hl; rfl
  have F_lines_for:=z0J (st:=z1R) l_lines_for c_lines_for k_lines_for
  have b_lines_for:=F_lines_for.binds (ps:=z4o) fun _ _ _ _ _ _ us hl=>by obtain ⟨_,rfl⟩:=us_1 hl; rfl
  have F_bar_of:=z0J (st:=z3R) l_bar_of c_bar_of k_bar_of
  have b_bar_of:=F_bar_of.binds (ps:=z7D) fun _ _ _ _ _ _ us hl=>by obtain ⟨_,_,rfl⟩:=z6H hl; rfl
  have F_picks:=z0J (st:=z5n) l_picks c_picks k_picks
  have b_picks:=F_picks.binds (ps:=z9N) fun _ _ _ _ _ _ us hl=>by obtain ⟨_,_,rfl⟩:=z6H hl; rfl
  have F_with_one_more:=z0J (st:=z0V) l_with_one_more c_with_one_more k_with_one_more
  have b_with_one_more:=F_with_one_more.binds (ps:=z2o) fun _ _ _ _ _ _ us hl=>by obtain ⟨_,_,rfl⟩:=z6H hl; rfl
  have F_bar_among:=z0J (st:=z1X) l_bar_among c_bar_among k_bar_among
  have b_bar_among:=F_bar_among.binds (ps:=z4j) fun _ _ _ _ _ _ us hl=>by obtain ⟨_,_,_,rfl⟩:=us_3 hl; rfl
  have F_wanted_of:=z0J (st:=z1Z) l_wanted_of c_wanted_of k_wanted_of
  have b_wanted_of:=F_wanted_of.binds (ps:=z4f) fun _ _ _ _ _ _ us hl=>by obtain ⟨_,_,rfl⟩:=z6H hl; rfl
  have F_pairs_with_last:=z0J (st:=z0F) l_pairs_with_last c_pairs_with_last k_pairs_with_last
  have b_pairs_with_last:=F_pairs_with_last.binds (ps:=z1Q) fun _ _ _ _ _ _ us hl=>by obtain ⟨_,_,rfl⟩:=z6H hl; rfl
  have F_pairs_with_between:=z0J (st:=z0y) l_pairs_with_between c_pairs_with_between k_pairs_with_between
  have b_pairs_with_between:=F_pairs_with_between.binds (ps:=z1v) fun _ _ _ _ _ _ us hl=>by obtain ⟨_,_,_,_,rfl⟩:=us_4 hl; rfl
  have F_first_places:=z0J (st:=z1l) l_first_places c_first_places k_first_places
  have b_first_places:=F_first_places.binds (ps:=z2K) fun _ _ _ _ _ _ us hl=>by obtain ⟨_,_,rfl⟩:=z6H hl; rfl
  have F_puts_all_ahead:=z0J (st:=z0Q) l_puts_all_ahead c_puts_all_ahead k_puts_all_ahead
  have b_puts_all_ahead:=F_puts_all_ahead.binds (ps:=z2k) fun _ _ _ _ _ _ us hl=>by obtain ⟨_,_,rfl⟩:=z6H hl; rfl
  have F__law_cell_at:=z0J (st:=z1k) l__law_cell_at c__law_cell_at k__law_cell_at
  have b__law_cell_at:=F__law_cell_at.binds (ps:=z2M) fun _ _ _ _ _ _ us hl=>by obtain ⟨_,_,rfl⟩:=z6H hl; rfl
  have F__law_whole:=z0J (st:=z1E) l__law_whole c__law_whole k__law_whole
  have b__law_whole:=F__law_whole.binds (ps:=z3A) fun _ _ _ _ _ _ us hl=>by obtain ⟨_,rfl⟩:=us_1 hl; rfl
  have F__law_order:=z0J (st:=z1F) l__law_order c__law_order k__law_order
  have b__law_order:=F__law_order.binds (ps:=z3q) fun _ _ _ _ _ _ us hl=>by obtain ⟨_,_,rfl⟩:=z6H hl; rfl
  have F__law_on_line:=z0J (st:=z1m) l__law_on_line c__law_on_line k__law_on_line
  have b__law_on_line:=F__law_on_line.binds (ps:=z2N) fun _ _ _ _ _ _ us hl=>by obtain ⟨_,_,rfl⟩:=z6H hl; rfl
  have F__law_fits:=z0J (st:=z1T) l__law_fits c__law_fits k__law_fits
  have b__law_fits:=F__law_fits.binds (ps:=z4i) fun _ _ _ _ _ _ us hl=>by obtain ⟨_,_,rfl⟩:=z6H hl; rfl
  have F__law_votes:=z0J (st:=z1I) l__law_votes c__law_votes k__law_votes
  have b__law_votes:=F__law_votes.binds (ps:=z3H) fun _ _ _ _ _ _ us hl=>by obtain ⟨_,_,_,_,rfl⟩:=us_4 hl; rfl
  have F__law_last:=z0J (st:=z1Y) l__law_last c__law_last k__law_last
  have b__law_last:=F__law_last.binds (ps:=z4n) fun _ _ _ _ _ _ us hl=>by obtain ⟨_,_,rfl⟩:=z6H hl; rfl
  have F__law_bars:=z0J (st:=z1O) l__law_bars c__law_bars k__law_bars
  have b__law_bars:=F__law_bars.binds (ps:=z4k) fun _ _ _ _ _ _ us hl=>by obtain ⟨_,_,rfl⟩:=z6H hl; rfl
  have F__law_line_holds:=z0J (st:=z0E) l__law_line_holds c__law_line_holds k__law_line_holds
  have b__law_line_holds:=F__law_line_holds.binds (ps:=z1P) fun _ _ _ _ _ _ us hl=>by obtain ⟨_,_,_,rfl⟩:=us_3 hl; rfl
  have F__law_bar_holds:=z0J (st:=z0N) l__law_bar_holds c__law_bar_holds k__law_bar_holds
  have b__law_bar_holds:=F__law_bar_holds.binds (ps:=z2f) fun _ _ _ _ _ _ us hl=>by obtain ⟨_,_,_,rfl⟩:=us_3 hl; rfl
  have F__law_lines:=z0J (st:=z1G) l__law_lines c__law_lines k__law_lines
  have b__law_lines:=F__law_lines.binds (ps:=z3B) fun _ _ _ _ _ _ us hl=>by obtain ⟨_,rfl⟩:=us_1 hl; rfl
  have F__law_some_line:=z0J (st:=z0M) l__law_some_line c__law_some_line k__law_some_line
  have b__law_some_line:=F__law_some_line.binds (ps:=z2g) fun _ _ _ _ _ _ us hl=>by obtain ⟨_,_,rfl⟩:=z6H hl; rfl
  have F_law:=z0J (st:=z7s) l_law c_law k_law
  have b_law:=F_law.binds (ps:=P_law) fun _ _ _ _ _ _ us hl=>by obtain ⟨_,rfl⟩:=us_1 hl; rfl
  refine ⟨PySem.W.fnOf "law" "law" (z0s z7s) (z0l z7s) (z0b z7s) .none kV30 dc30 pm30 an30 cd30 ct30,fun s v=>.of_eq rfl,fun base KB GB=>?_⟩
  let cl : Nat->Value:=fun n=>match n with | 1=>.ref C_BadBallot | 2=>.ref C_Even | _=>.none
  have Z : Cls K mg base cl:=⟨⟨C_BadBallot,rfl,y6I KB GB x_BadBallot q_BadBallot,x_BadBallot,trivial⟩,⟨C_Even,rfl,y6I KB GB x_Even q_Even,x_Even,trivial⟩⟩
  have G_is_thing : DefOk l.prog w K mg base 1 "is_thing" (spN K z2l):=z9D F_is_thing (PySem.W.mg_of X G a_is_thing) b_is_thing T
  have G_tells_each_once : DefOk l.prog w K mg base 2 "tells_each_once" (spN K z0G):=z4K F_tells_each_once (PySem.W.mg_of X G a_tells_each_once) b_tells_each_once T G_is_thing
  have G_voices : DefOk l.prog w K mg base 1 "voices" (spN K z4G):=y2v F_voices (PySem.W.mg_of X G a_voices) b_voices T
  have G_asked : DefX l.prog w K mg base 3 "asked" (spX K cl z5h):=y5P F_asked (PySem.W.mg_of X G a_asked) b_asked T Z G_tells_each_once G_voices
  have G_puts_ahead : DefOk l.prog w K mg base 1 "puts_ahead" (spN K z2c):=z7L F_puts_ahead (PySem.W.mg_of X G a_puts_ahead) b_puts_ahead T
  have G_are_side_by_side : DefOk l.prog w K mg base 1 "are_side_by_side" (spN K z0R):=z4t F_are_side_by_side (PySem.W.mg_of X G a_are_side_by_side) b_are_side_by_side T
  have G_lies_on : DefOk l.prog w K mg base 2 "lies_on" (spN K z3D):=y1E F_lies_on (PySem.W.mg_of X G a_lies_on) b_lies_on T G_are_side_by_side
  have G_lines_for : DefOk l.prog w K mg base 1 "lines_for" (spR K z2q):=z8z F_lines_for (PySem.W.mg_of X G a_lines_for) b_lines_for T
  have G_with_one_more : DefOk l.prog w K mg base 1 "with_one_more" (spN K z1p):=z5y F_with_one_more (PySem.W.mg_of X G a_with_one_more) b_with_one_more T
  have G_picks : DefOk l.prog w K mg base 2 "picks" (spN K z3C):=y4L F_picks (PySem.W.mg_of X G a_picks) b_picks T G_with_one_more
  have G_pairs_with_last : DefOk l.prog w K mg base 1 "pairs_with_last" (spN K z1a):=z4E F_pairs_with_last (PySem.W.mg_of X G a_pairs_with_last) b_pairs_with_last T
  have G_pairs_with_between : DefOk l.prog w K mg base 1 "pairs_with_between" (spN K z0r):=z3F F_pairs_with_between (PySem.W.mg_of X G a_pairs_with_between) b_pairs_with_between T
  have G_wanted_of : DefOk l.prog w K mg base 2 "wanted_of" (spN K z1r):=z8o F_wanted_of (PySem.W.mg_of X G a_wanted_of) b_wanted_of T G_pairs_with_last G_pairs_with_between
  have G_puts_all_ahead : DefOk l.prog w K mg base 2 "puts_all_ahead" (spN K z1g):=z5l F_puts_all_ahead (PySem.W.mg_of X G a_puts_all_ahead) b_puts_all_ahead T G_puts_ahead
  have G_first_places : DefOk l.prog w K mg base 3 "first_places" (spN K z1j):=z5Y F_first_places (PySem.W.mg_of X G a_first_places) b_first_places T G_puts_all_ahead
  have G_bar_among : DefOk l.prog w K mg base 4 "bar_among" (spN K z1W):=z8J F_bar_among (PySem.W.mg_of X G a_bar_among) b_bar_among T G_wanted_of G_first_places
  have G_bar_of : DefOk l.prog w K mg base 5 "bar_of" (spN K z4y):=y1X F_bar_of (PySem.W.mg_of X G a_bar_of) b_bar_of T G_picks G_bar_among
  have G_line_of : DefX l.prog w K mg base 6 "line_of" (spXS K cl z2u):=y1D F_line_of (PySem.W.mg_of X G a_line_of) b_line_of T Z G_asked G_lies_on G_lines_for G_bar_of
  have G__law_cell_at : DefOk l.prog w K mg base 1 "_law_cell_at" (spN K z0t):=z6A F__law_cell_at (PySem.W.mg_of X G a__law_cell_at) b__law_cell_at T
  have G__law_whole : DefOk l.prog w K mg base 1 "_law_whole" (spN K z1d):=z7E F__law_whole (PySem.W.mg_of X G a__law_whole) b__law_whole T
  have G__law_order : DefOk l.prog w K mg base 1 "_law_order" (spN K z1o):=z7M F__law_order (PySem.W.mg_of X G a__law_order) b__law_order T
  have G__law_on_line : DefOk l.prog w K mg base 1 "_law_on_line" (spN K z1y):=z6f F__law_on_line (PySem.W.mg_of X G a__law_on_line) b__law_on_line T
  have G__law_fits : DefOk l.prog w K mg base 1 "_law_fits" (spN K z1f):=z8x F__law_fits (PySem.W.mg_of X G a__law_fits) b__law_fits T
  have G__law_votes : DefOk l.prog w K mg base 2 "_law_votes" (spN K z2b):=z7x F__law_votes (PySem.W.mg_of X G a__law_votes) b__law_votes T G__law_cell_at G__law_order G__law_on_line
  have G__law_last : DefOk l.prog w K mg base 1 "_law_last" (spN K z2s):=z9a F__law_last (PySem.W.mg_of X G a__law_last) b__law_last T
  have G__law_bars : DefOk l.prog w K mg base 2 "_law_bars" (spN K z1B):=z8X F__law_bars (PySem.W.mg_of X G a__law_bars) b__law_bars T G__law_last
  have G__law_line_holds : DefOk l.prog w K mg base 2 "_law_line_holds" (spN K z1b):=z4L F__law_line_holds (PySem.W.mg_of X G a__law_line_holds) b__law_line_holds T G__law_whole G__law_fits
  have G__law_bar_holds : DefOk l.prog w K mg base 3 "_law_bar_holds" (spN K z0O):=z5i F__law_bar_holds (PySem.W.mg_of X G a__law_bar_holds) b__law_bar_holds T G__law_whole G__law_bars
  have G__law_lines : DefOk l.prog w K mg base 1 "_law_lines" (spN K z2e):=z7r F__law_lines (PySem.W.mg_of X G a__law_lines) b__law_lines T
  have G__law_some_line : DefOk l.prog w K mg base 2 "_law_some_line" (spN K z1i):=z4V F__law_some_line (PySem.W.mg_of X G a__law_some_line) b__law_some_line T G__law_fits G__law_lines
  exact law_of (ok_law F_law T Z G_line_of G__law_cell_at G__law_order G__law_votes G__law_line_holds G__law_bar_holds G__law_some_line)
theorem walk {l : PySem.W.OpenLaw} {q : Program} {loose : List Str} {XP : (Str->Option Value)->Heap->Prop} {YP : World->Heap->Prop} {d : DefRec} {K : Params->PySem.W.Frag} (hn : l.most=some 63) (hdf : d.params.defaults=[])
    (hlaw : ∀ ns : List Int,ns.length≤63->y1m [.scr ns]=some (.bl true)) (hY : ∀ (w : World) (h : Heap),YP w h->(K w.params).In h)
    (F : ∀ (w : World) (mg : Str->Option Value) (fa : Addr) (h : Heap),(K w.params).In h->h.Ns mainGlobals mg->mg d.name=some (.ref fa) →
      ∃ fd : FuncData,(∀ (s : Shared) (u : Value),BindsTo s fd ⟨[u],[]⟩ [("script",u)])∧∀ base : Heap,(K w.params).In base->base.Ns mainGlobals mg->FnOk l.prog w (K w.params) mg base CX0 7 fa fd ["script"] (y5Z (K w.params) y1m)) :
    PySem.W.WalkO q loose XP YP l.row.toRowW d [] (fun f vs=>PySem.call f vs):=
  L2.walk_of (n:=63) (k:=7) (x := "script") (CX:=fun _=>CX0) (sp:=fun w=>y5Z (K w.params) y1m) hn (by decide) hdf ⟨rfl,by decide,by decide⟩ hY F (fun _ _ a ns hl hO hS=>⟨a,ns,rfl,y6i hO hS,hlaw ns hl,fun _=>rfl⟩) fun _ _ _ _ _ z=>z
end Prg
namespace Prg
open PySem L2
open Lean in
local macro_rules
  | `(tactic| simp! only [$xs,*] $[$loc]?)=>do
    let a ← (("ev_var0 ev_varS ev_C ev_d2 ev_d1 ev_test y6k ev_andT ev_orT ev_notT ev_and ev_or y5L y4s ev_call y6d ev_mkL ev_mkT y4n ev_is ev_seq ev_rng1 ev_rng2 ev_comp ev_part y2l ev_cut y3O ev_skip ev_asgS ev_asgI ev_asgN ev_retI ev_retN ev_retS ev_retO y6N ev_forO ev_frz ev_st0 ev_m0 y5M y6g y6a ev_enum y5Q ev_din' ev_dnin ev_dput ev_cat y5v ev_notN ev_mov y5s y4y z7z y5f ev_ret2 ev_cutT eo_2 eo_and eo_andf eo_or eo_ort eo_andT y4C eo_orT eo_orTt eo_itet eo_itef eo_cons eo_nx eo_rt eo_set eo_rtO eo_for eo_immI eo_immB eo_immN eo_part eo_cutR eo_put eo_in eo_mov y5H eo_xeV eo_r2 y2J ea_add ea_sub ea_lt ea_le ea_gt ea_ge ea_eqI ea_neI ea_neg ea_not ea_truB ea_truL ea_seqL ea_lenL ea_lenR ea_ixL ea_ixR ea_isBI ea_isII ea_asB es_own0 es_ownS es_all0 es_allS es_sh0 es_shS es_v1 es_v2 es_shO y5J y5n y2U y2W y4S es_ow0 es_owS es_frz0 es_frzS eb_bs eb_ms eb_mn eb_s0 eb_sS eb_mc eb_mnil eb_rS eb_r0 eb_ca eb_na".splitOn " ").toArray).mapM fun s=>`(Lean.Parser.Tactic.simpLemma| $(mkIdent s.toName):term)
    let b : Syntax.TSepArray [`Lean.Parser.Tactic.simpStar,`Lean.Parser.Tactic.simpErase,`Lean.Parser.Tactic.simpLemma] "," := ⟨(Syntax.TSepArray.ofElems (sep := ",") a).elemsAndSeps⟩
    `(tactic| simp only [$b,*,$xs,*] $[$loc]?)
open Lean in
local macro_rules
  | `(tactic| simp_all! only [$xs,*])=>do
    let a ← (("Int.reduceEq Int.reduceLT Int.reduceLE Int.reduceGT Int.reduceAdd Int.reduceSub Int.reduceMul Int.reduceNeg decide_true decide_false Bool.or_false Bool.false_or Bool.or_true Bool.true_or Bool.and_true Bool.true_and Bool.and_false Bool.false_and Bool.not_true Bool.not_false".splitOn " ").toArray).mapM fun s=>`(Lean.Parser.Tactic.simpLemma| $(mkIdent s.toName):term)
    let b : Syntax.TSepArray [`Lean.Parser.Tactic.simpStar,`Lean.Parser.Tactic.simpErase,`Lean.Parser.Tactic.simpLemma] "," := ⟨(Syntax.TSepArray.ofElems (sep := ",") a).elemsAndSeps⟩
    `(tactic| simp! only [$b,*,$xs,*])
theorem z9H (ns : List Int) (k : Nat) : ∃ c : Int,z0t [.scr ns,.int (k : Int)]=some (.int c):=by
  by_cases h : k < ns.length
  · refine ⟨ns[k],z0K rfl ?_⟩
    have h' : decide ((k : Int) < (ns.length : Int))=true:=by simp; omega
    simp! only [z2a,h',y6T h,z0d]
  · refine ⟨0,z0K rfl ?_⟩
    have h' : decide ((k : Int) < (ns.length : Int))=false:=by simp; omega
    simp! only [z2a,h',z0d]
theorem y4H (n : Int) : z1d [.int n]=some (.bl true):=by
  refine z0K rfl ?_
  simp_all! only [z2G,z0d]
theorem z8S (c : Int) (m : Nat) (hm : m≤1000) : hol (z1o [.int c,.int (m : Int)]) fun d=>∃ o : List Nat,d=thD o∧o.Perm (List.range m):=by
  refine z9W rfl ?_
  simp! only [z3y,z3a (show m≤1000000 by omega),z3c,th_nil]
  refine z0B (I:=fun s=>∃ (o : List Nat) (c' : Int) (o3 : Option SD),s=[some (.sh (.int c')),some (.sh (.int (m : Int))),some (.ow (thD o)),o3]∧o.Perm (List.range m)) ?_ ?_
  · refine z7I (fun n s=>∃ (o : List Nat) (c' : Int) (o3 : Option SD),s=[some (.sh (.int c')),some (.sh (.int (m : Int))),some (.ow (thD o)),o3]∧o.Perm (List.range n)) ⟨[],c,none,rfl,.nil⟩ ?_ fun s z=>⟨s,rfl,z⟩
    rintro n hn s ⟨o,c',o3,rfl,hp⟩
    have hlen : o.length=n:=by have:=hp.length_eq; simpa using this
    obtain ⟨j,ej,hj⟩:=z7K (x:=c') (n:=n + 1) (by omega)
    have ej : c' % ((n : Int) + 1)=(j : Int):=ej
    have m1 : z5x (.int c') (.int ((n : Int) + 1))=some (.int (j : Int)):=by rw [z4a (show (0 : Int) < (n : Int) + 1 by omega),ej]
    have v1 : z8w (.int c') (.int ((n : Int) + 1))=some (.int (c' / ((n : Int) + 1))):=z6V (show CDiv _ _ from ⟨by omega,by omega⟩)
    have im : z8p (some [.int (j : Int),.int (n : Int)])=some [.int (j : Int),.int (n : Int)]:=z5N rfl
    have iv:=ins_thV (o:=o) (b:=j) (v:=n) (by omega) (by omega)
    simp! only [Int.zero_add,m1,v1,im,iv,z0d]
    refine ⟨_,_,_,rfl,?_⟩
    have p1 : (o.take j ++ n :: o.drop j).Perm (n :: o):=by
      refine List.perm_middle.trans ?_
      rw [List.take_append_drop]
    refine p1.trans ?_
    rw [List.range_succ]
    exact (hp.cons _).trans (List.perm_append_singleton _ _).symm
  · rintro s ⟨o,c',o3,rfl,hp⟩
    simp! only [z0d]
    exact ⟨_,rfl,o,rfl,hp⟩
theorem z1n {o : List Nat} {m : Nat} (h : o.Perm (List.range m)) : o.length=m:=by simpa using h.length_eq
theorem z4w {o : List Nat} {m : Nat} (h : o.Perm (List.range m)) : o.Nodup:=h.nodup_iff.mpr List.nodup_range
theorem z1V (o : List Nat) : o.map nD=(o.map fun n=>((n : Nat) : Int)).map D.int:=by rw [List.map_map]; rfl
theorem y3S {o : List Nat} {x : Nat} (h : x∈o) : y5p (thD o) (.int (x : Int))=some (.int ((o.findIdx fun n=>n == x : Nat) : Int)):=by
  show ((z1h (o.map nD)).bind fun ns=>(ns.findIdx? (fun n=>n == (x : Int))).map fun j=>D.int (j : Int))=_
  rw [z1V,z3f,Option.bind_some,List.findIdx?_map]
  have e : ((fun n : Int=>n == (x : Int)) ∘ fun n : Nat=>((n : Nat) : Int))=fun n=>n == x:=by
    funext n
    show ((n : Int) == (x : Int))=(n == x)
    by_cases hz : n=x
    · subst hz; simp
    · have h1 : ((n : Int) == (x : Int))=false:=by rw [beq_eq_false_iff_ne]; omega
      have h2 : (n == x)=false:=by rw [beq_eq_false_iff_ne]; exact hz
      rw [h1,h2]
  rw [e,List.findIdx?_eq_guard_findIdx_lt]
  have hl : o.findIdx (fun n=>n == x) < o.length:=List.findIdx_lt_length_of_exists ⟨x,h,by simp⟩
  simp [Option.guard,hl]
noncomputable def ixO (l : List Nat) (x : Nat) : Nat:=l.findIdx fun n=>n == x
noncomputable def pls (a l : List Nat) : List Int:=a.map fun x=>((ixO l x : Nat) : Int)
noncomputable def sbB (a l : List Nat) (k : Nat) : Bool:=decide (mxI (pls (a.take (k + 1)) l) - mnI (pls (a.take (k + 1)) l)=((k + 1 : Nat) : Int) - 1)
noncomputable def liB (a l : List Nat) : Bool:=(List.range a.length).all fun k=>sbB a l k
theorem y2P {a l : List Nat} (h : a≠[]) : pls a l≠[]:=fun z=>h (List.map_eq_nil_iff.mp z)
theorem rng1s {n : Nat} (h : n≤1000) : rng2 (some (.int 1)) (some (.int ((n : Int) + 1)))=some (z4d 1 n):=by
  rw [eo_rng2 ⟨by omega,by omega,by omega,by omega⟩]
  congr 2
  omega
theorem side_eq {a l : List Nat} {k : Nat} (hk : k < a.length) (hl : a.length≤900) (h : ∀ x∈a,x∈l) : z0R [ttD (a.take (k + 1)),thD l]=some (.bl (sbB a l k)):=by
  refine z0K rfl ?_
  obtain ⟨b,hb⟩ : ∃ b,b=a.take (k + 1):=⟨_,rfl⟩
  have hbl : b.length=k + 1:=by rw [hb,List.length_take]; omega
  have hbm : ∀ x∈b,x∈l:=fun x hx=>h x (List.mem_of_mem_take (by rw [← hb]; exact hx))
  have hne : b≠[]:=fun z=>by rw [z] at hbl; simp at hbl
  unfold sbB
  rw [← hb]
  simp! only [z1K,z3I]
  rw [z3u (fun x=>D.int ((ixO l x : Nat) : Int)) (by omega) fun x hx=>by
    simp! only [nD,y3S (hbm x hx)]
    rfl]
  have e : (b.map fun x=>D.int ((ixO l x : Nat) : Int))=(pls b l).map D.int:=by unfold pls; rw [List.map_map]; rfl
  simp! only [e,flat_in,lst_in,max_in (y2P hne),min_in (y2P hne),y6L,hbl,z0d]
theorem y3Z {a l : List Nat} (hl : a.length≤900) (h : ∀ x∈a,x∈l) : z3D [ttD a,thD l]=some (.bl (liB a l)):=by
  refine z0K rfl ?_
  simp! only [z6z,y6L,rng1s (show a.length≤1000 by omega)]
  unfold z4d
  rw [z3u (enc:=fun i : Nat=>D.int (1 + (i : Nat))) (xs:=List.range a.length) (fun k=>bD (sbB a l k)) (by simp; omega) fun k hk=>by
    have hk:=List.mem_range.mp hk
    have e : (1 : Int) + (k : Int)=((k + 1 : Nat) : Int):=by omega
    simp! only [e,y1S (show k + 1≤a.length by omega),side_eq hk hl h,bD]]
  have e : ((List.range a.length).map fun k=>bD (sbB a l k))=((List.range a.length).map fun k=>sbB a l k).map bD:=by rw [List.map_map]; rfl
  have e2 : (((List.range a.length).map fun k=>sbB a l k).all fun b=>b)=liB a l:=by rw [List.all_map]; rfl
  simp! only [e,y6S,e2,z0d]
theorem y0J {o : List Nat} {x : Nat} (h : x∈o) : y6E (ttD o) (.int (x : Int))=some (.int ((ixO o x : Nat) : Int)):=by
  show ((z1h (o.map nD)).bind fun ns=>(ns.findIdx? (fun n=>n == (x : Int))).map fun j=>D.int (j : Int))=_
  rw [z1V,z3f,Option.bind_some,List.findIdx?_map]
  have e : ((fun n : Int=>n == (x : Int)) ∘ fun n : Nat=>((n : Nat) : Int))=fun n=>n == x:=by
    funext n
    show ((n : Int) == (x : Int))=(n == x)
    by_cases hz : n=x
    · subst hz; simp
    · have h1 : ((n : Int) == (x : Int))=false:=by rw [beq_eq_false_iff_ne]; omega
      have h2 : (n == x)=false:=by rw [beq_eq_false_iff_ne]; exact hz
      rw [h1,h2]
  rw [e,List.findIdx?_eq_guard_findIdx_lt]
  have hl : o.findIdx (fun n=>n == x) < o.length:=List.findIdx_lt_length_of_exists ⟨x,h,by simp⟩
  simp [Option.guard,hl,ixO]
theorem z2H {o : List Nat} {x : Nat} (h : x∈o) : ixO o x < o.length:=List.findIdx_lt_length_of_exists ⟨x,h,by simp⟩
theorem z3w {o : List Nat} {x : Nat} (h : x∈o) : o[ixO o x]'(z2H h)=x:=by
  have:=List.findIdx_getElem (xs:=o) (p:=fun n=>n == x) (w:=z2H h)
  exact beq_iff_eq.mp this
theorem y1N {o : List Nat} {x y : Nat} (hx : x∈o) (hy : y∈o) (h : x≠y) : ixO o x≠ixO o y:=fun e=>h (by
  have h1:=z3w hx
  have h2:=z3w hy
  rw [← h1,← h2]
  congr 1)
noncomputable def ahB (o : List Nat) (a b : Nat) : Bool:=decide (ixO o a < ixO o b)
noncomputable def prD (p : Nat × Nat) : D:=.tup [nD p.1,nD p.2]
theorem puts_eq {o : List Nat} {a b : Nat} (ha : a∈o) (hb : b∈o) : z2c [ttD o,nD a,nD b]=some (.bl (ahB o a b)):=by
  refine z0K rfl ?_
  have e : decide (((ixO o a : Nat) : Int) < ((ixO o b : Nat) : Int))=ahB o a b:=by unfold ahB; congr 1; rw [eq_iff_iff]; omega
  simp! only [z3r,nD,y0J ha,y0J hb,e,z0d]
theorem pts_eq {o : List Nat} {ps : List (Nat × Nat)} (hl : ps.length≤1000) (h : ∀ p∈ps,p.1∈o∧p.2∈o) : z1g [ttD o,.lst (ps.map prD)]=some (.bl (ps.all fun p=>ahB o p.1 p.2)):=by
  refine z0K rfl ?_
  simp! only [z2j]
  rw [z3u (fun p=>bD (ahB o p.1 p.2)) hl fun p hp=>by
    have i0 : ixD (prD p) (.int 0)=some (nD p.1):=z0u (j:=0) rfl
    have i1 : ixD (prD p) (.int 1)=some (nD p.2):=z0u (j:=1) rfl
    simp! only [i0,i1,puts_eq (h p hp).1 (h p hp).2,bD]]
  have e : (ps.map fun p=>bD (ahB o p.1 p.2))=(ps.map fun p=>ahB o p.1 p.2).map bD:=by rw [List.map_map]; rfl
  have e2 : ((ps.map fun p=>ahB o p.1 p.2).all fun b=>b)=ps.all fun p=>ahB o p.1 p.2:=by rw [List.all_map]; rfl
  simp! only [e,y6S,e2,z0d]
theorem y6X {a b : Nat} : neD (nD a) (nD b)=some (.bl (!decide (a=b))):=by
  show some (D.bl (!decide ((a : Int)=(b : Int))))=_
  rw [decide_eq_decide.mpr (show (a : Int)=(b : Int)↔a=b by omega)]
noncomputable def plP (th : List Nat) (l : Nat) : List (Nat × Nat):=(th.filter fun x=>!decide (x=l)).map fun x=>(x,l)
theorem z9n : ∀ ps : List (Nat × Nat),z2C (ps.map prD)=true
  | []=>rfl
  | p :: r=>by
    show ((prD p).imm && z2C (r.map prD))=true
    rw [z9n r]
    rfl
theorem pl_eq {th : List Nat} {l : Nat} (hl : th.length≤1000) : z1a [ttD th,nD l]=some (.lst ((plP th l).map prD)):=by
  refine z0K rfl ?_
  simp! only [z1N,z3I]
  rw [y0d (fun x=>!decide (x=l)) (fun x=>prD (x,l)) hl (fun x hx=>by simp! only [y6X]) fun x hx _=>by simp! only [prD]]
  have e : ((th.filter fun x=>!decide (x=l)).map fun x=>prD (x,l))=(plP th l).map prD:=by unfold plP; rw [List.map_map]; rfl
  simp! only [e,z3e (z9n _),z0d]
theorem pb_eq {a b c d : Nat} : z0r [nD a,nD b,nD c,nD d]=some (.lst ([(a,b),(b,c),(d,b)].map prD)):=by
  refine z0K rfl ?_
  have f:=z3e (z9n [(a,b),(b,c),(d,b)])
  have e : [D.tup [nD a,nD b],.tup [nD b,nD c],.tup [nD d,nD b]]=[(a,b),(b,c),(d,b)].map prD:=rfl
  obtain ⟨w,hw⟩ : ∃ w,w=[(a,b),(b,c),(d,b)]:=⟨_,rfl⟩
  rw [← hw] at e f ⊢
  simp! only [z1x,e,f,z0d]
theorem y0K {a b : Str} {c : Bool} (h1 : okP (.str a)=true) (h2 : okP (.str b)=true) (h : PyData.eqv (.str a) (.str b)=c) : eqD (.str a) (.str b)=some (.bl c):=by
  unfold eqD
  rw [h1,h2]
  show some (D.bl (PyData.eqv (.str a) (.str b)))=_
  rw [h]
theorem eqLL : eqD (.str "lasts") (.str "lasts")=some (.bl true):=y0K (by decide +kernel) (by decide +kernel) (by decide +kernel)
theorem eqTL : eqD (.str "turned") (.str "lasts")=some (.bl false):=y0K (by decide +kernel) (by decide +kernel) (by decide +kernel)
theorem wl_eq {th : List Nat} (hl : th.length≤1000) : z1r [.str "lasts",ttD th]=some (.lst (th.map fun l=>.lst ((plP th l).map prD))):=by
  refine z0K rfl ?_
  simp_all! only [z3b,eqLL,z3I]
  rw [z3u (fun l=>.lst ((plP th l).map prD)) hl fun l _=>by simp! only [pl_eq hl]]
  simp! only [z0d]
noncomputable def bt1 (a b c d : Nat) : List (Nat × Nat):=[(a,b),(b,c),(d,b)]
theorem wt_eq {a b c d : Nat} : z1r [.str "turned",ttD [a,b,c,d]]=some (.lst [.lst ((bt1 a b c d).map prD),.lst ((bt1 c b a d).map prD)]):=by
  refine z0K rfl ?_
  have e1 : z0r [nD a,nD b,nD c,nD d]=some (.lst ((bt1 a b c d).map prD)):=pb_eq
  have e2 : z0r [nD c,nD b,nD a,nD d]=some (.lst ((bt1 c b a d).map prD)):=pb_eq
  have i0 : ixD (ttD [a,b,c,d]) (.int 0)=some (nD a):=z0u (j:=0) rfl
  have i1 : ixD (ttD [a,b,c,d]) (.int 1)=some (nD b):=z0u (j:=1) rfl
  have i2 : ixD (ttD [a,b,c,d]) (.int 2)=some (nD c):=z0u (j:=2) rfl
  have i3 : ixD (ttD [a,b,c,d]) (.int 3)=some (nD d):=z0u (j:=3) rfl
  obtain ⟨t,ht⟩ : ∃ t,t=ttD [a,b,c,d]:=⟨_,rfl⟩
  obtain ⟨x,hx⟩ : ∃ x,x=bt1 a b c d:=⟨_,rfl⟩
  obtain ⟨y,hy⟩ : ∃ y,y=bt1 c b a d:=⟨_,rfl⟩
  rw [← ht] at i0 i1 i2 i3 ⊢
  rw [← hx] at e1 ⊢
  rw [← hy] at e2 ⊢
  simp_all! only [z3b,eqTL,i0,i1,i2,i3,e1,e2,z0d]
noncomputable def vtD (b : Int × List Nat) : D:=.tup [.int b.1,ttD b.2]
noncomputable def z6E (w : Str) (th pl : List Nat) : D:=.tup [.str w,ttD th,ttD pl]
theorem in_tt {a : Nat} {th : List Nat} : inD (.int (a : Int)) (ttD th)=some (.bl (th.contains a)):=by
  have h:=in_ths (a:=a) (th:=th)
  have ok : okP (ttD th)=true:=z5u (z5I fun _ _=>z6q) (by omega)
  have ok2 : okP (thD th)=true:=y6R th
  have ok3 : okP (.int (a : Int))=true:=z5u z2J (by omega)
  have e1 : inD (.int (a : Int)) (ttD th)=(if (okP (.int (a : Int)) && okP (ttD th))=true then some ((th.map nD).any fun y=>PyData.eqv (toP y) (toP (.int (a : Int)))) else none).map .bl:=rfl
  have e2 : inD (.int (a : Int)) (thD th)=(if (okP (.int (a : Int)) && okP (thD th))=true then some ((th.map nD).any fun y=>PyData.eqv (toP y) (toP (.int (a : Int)))) else none).map .bl:=rfl
  rw [e1,ok,ok3]
  rw [e2,ok2,ok3] at h
  exact h
noncomputable def y1O (o th : List Nat) : List Nat:=o.filter fun x=>th.contains x
theorem z9m {p : Nat->Bool} : ∀ {o : List Nat},o.Nodup->∀ (h : o.filter p≠[]),∀ x∈o,p x=true->x≠(o.filter p).getLast h->ixO o x < ixO o ((o.filter p).getLast h)
  | [],_,h,_,_,_,_=>absurd rfl h
  | a :: r,nd,h,x,hx,px,ne=>by
    have ix : ∀ y,ixO (a :: r) y=if a=y then 0 else ixO r y + 1:=fun y=>by
      unfold ixO
      rw [List.findIdx_cons]
      by_cases e : a=y
      · rw [if_pos e,e]; simp
      · rw [if_neg e,beq_eq_false_iff_ne.mpr e]; rfl
    have nda : a ∉ r:=(List.nodup_cons.mp nd).1
    by_cases hr : r.filter p=[]
    · exfalso
      have hn : ∀ y∈r,p y=false:=fun y hy=>by
        cases e : p y with
        | false=>rfl
        | true=>exact absurd (List.mem_filter.mpr ⟨hy,e⟩) (by rw [hr]; exact List.not_mem_nil)
      rcases List.mem_cons.mp hx with z | z
      · subst z
        apply ne
        have : (x :: r).filter p=[x]:=by rw [List.filter_cons,if_pos px,hr]
        simp only [this,List.getLast_singleton]
      · rw [hn x z] at px; cases px
    · have el : (((a :: r).filter p).getLast h)=(r.filter p).getLast hr:=by
        by_cases pa : p a=true
        · have : (a :: r).filter p=a :: r.filter p:=by rw [List.filter_cons,if_pos pa]
          simp only [this,List.getLast_cons hr]
        · have : (a :: r).filter p=r.filter p:=by rw [List.filter_cons,if_neg pa]
          simp only [this]
      have hl : (r.filter p).getLast hr∈r:=(List.mem_filter.mp (List.getLast_mem hr)).1
      rw [el] at ne ⊢
      have hla : a≠(r.filter p).getLast hr:=fun z=>nda (z ▸ hl)
      rw [ix,ix,if_neg hla]
      by_cases e : a=x
      · rw [if_pos e]; omega
      · rw [if_neg e]
        have hxr : x∈r:=(List.mem_cons.mp hx).resolve_left fun z=>e z.symm
        have:=z9m (List.nodup_cons.mp nd).2 hr x hxr px ne
        omega
theorem y3N {o th : List Nat} {t : Nat} (ht : t∈th) (ho : t∈o) : y1O o th≠[]:=fun z=>by
  have : t∈y1O o th:=List.mem_filter.mpr ⟨ho,by simpa using ht⟩
  rw [z] at this
  exact nomatch this
theorem y4M {o th : List Nat} {t : Nat} (nd : o.Nodup) (hs : ∀ x∈th,x∈o) (ht : t∈th) : ((plP th t).all fun p=>ahB o p.1 p.2)=decide ((y1O o th).getLast (y3N ht (hs t ht))=t):=by
  have hne:=y3N ht (hs t ht)
  have hl:=List.mem_filter.mp (List.getLast_mem hne)
  have hlt : (y1O o th).getLast hne∈th:=by simpa using hl.2
  rw [Bool.eq_iff_iff,List.all_eq_true,decide_eq_true_iff]
  constructor
  · intro h
    refine Classical.byContradiction fun z=>?_
    have h1:=h ((y1O o th).getLast hne,t) (List.mem_map.mpr ⟨_,List.mem_filter.mpr ⟨hlt,by simpa using z⟩,rfl⟩)
    have h1:=of_decide_eq_true h1
    have h2:=z9m nd hne t (hs t ht) (by simpa using ht) fun e=>z e.symm
    have h1 : ixO o ((y1O o th).getLast hne) < ixO o t:=h1
    have h2 : ixO o t < ixO o ((y1O o th).getLast hne):=h2
    omega
  · intro h q hq
    obtain ⟨x,hx,rfl⟩:=List.mem_map.mp hq
    obtain ⟨hx1,hx2⟩:=List.mem_filter.mp hx
    have hxt : x≠t:=by simpa using hx2
    refine decide_eq_true ?_
    show ixO o x < ixO o t
    have:=z9m nd hne x (hs x hx1) (by simpa using hx1) (by rw [show (List.filter (fun x=>th.contains x) o).getLast hne=t from h]; exact hxt)
    rw [show (List.filter (fun x=>th.contains x) o).getLast hne=t from h] at this
    exact this
theorem ll_eq {o th : List Nat} (hl : o.length≤1000) (h : y1O o th≠[]) : z2s [ttD o,ttD th]=some (nD ((y1O o th).getLast h)):=by
  refine z0K rfl ?_
  simp! only [z4g,z3I]
  rw [y0d (fun x=>th.contains x) nD hl (fun x _=>by simp! only [nD,in_tt]) fun x _ _=>by simp! only []]
  have ix : ixD (.lst ((o.filter fun x=>th.contains x).map nD)) (.int (-1))=some (nD ((y1O o th).getLast h)):=y5w h
  have im : ∀ n : Nat,z9P (some (nD n))=some (nD n):=fun _=>rfl
  simp! only [ix,im,z0d]
theorem z5Z : ∀ os : List (List Nat),z2C (os.map ttD)=true:=fun os=>z5P fun d hd=>by
  obtain ⟨o,_,rfl⟩:=List.mem_map.mp hd
  show z2C (o.map nD)=true
  exact z4N o
noncomputable def orB (bs : List (Int × List Nat)) (k : Nat) : List Nat:=(bs.getD k (0,[])).2
theorem bl_eq {bs : List (Int × List Nat)} {th pl : List Nat} (hp : pl.length=3) (ht : th.length=3) (hk : ∀ k∈pl,k < bs.length) (hs : ∀ k∈pl,(orB bs k).length≤1000∧∀ x∈th,x∈orB bs k) (nd : ∀ k∈pl,(orB bs k).Nodup) :
    z1B [.lst (bs.map vtD),z6E "lasts" th pl]=some (.bl ((pl.zip (th.map (plP th))).all fun z=>z.2.all fun p=>ahB (orB bs z.1) p.1 p.2)):=by
  refine z0K rfl ?_
  have i0 : ixD (z6E "lasts" th pl) (.int 0)=some (.str "lasts"):=z0u (j:=0) rfl
  have i1 : ixD (z6E "lasts" th pl) (.int 1)=some (ttD th):=z0u (j:=1) rfl
  have i2 : ixD (z6E "lasts" th pl) (.int 2)=some (ttD pl):=z0u (j:=2) rfl
  have ib : ∀ b : Int × List Nat,ixD (vtD b) (.int 1)=some (ttD b.2):=fun b=>z0u (j:=1) rfl
  have iv : ∀ k∈pl,ixD (.lst (bs.map vtD)) (nD k)=some (vtD (bs.getD k (0,[]))):=fun k hk'=>z5a (hk k hk')
  obtain ⟨pp,hpp⟩ : ∃ q,q=z6E "lasts" th pl:=⟨_,rfl⟩
  obtain ⟨vv,hvv⟩ : ∃ q,q=D.lst (bs.map vtD):=⟨_,rfl⟩
  rw [← hpp] at i0 i1 i2 ⊢
  rw [← hvv] at iv ⊢
  simp_all! only [z3g,i2,z3I]
  rw [z3u (fun k=>ttD (orB bs k)) (by omega) fun k hk'=>by
    simp! only [iv k hk',ib,orB]]
  have e1 : (pl.map fun k=>ttD (orB bs k))=(pl.map (orB bs)).map ttD:=by rw [List.map_map]; rfl
  obtain ⟨os,hos⟩ : ∃ os,os=pl.map (orB bs):=⟨_,rfl⟩
  have hol' : os.length=3:=by rw [hos,List.length_map,hp]
  have r3 : y4O (some (.int 3))=some (z4d 0 3):=z3a (m:=3) (by omega)
  rw [e1,← hos]
  simp_all! only [z3e (z5Z os),i0,eqLL,r3,z9U]
  have at3 : ∀ k < 3,pl.getD k 0∈pl:=fun k hk=>by rw [List.getD_eq_getElem?_getD,List.getElem?_eq_getElem (by omega)]; exact List.getElem_mem _
  have tt3 : ∀ k < 3,th.getD k 0∈th:=fun k hk=>by rw [List.getD_eq_getElem?_getD,List.getElem?_eq_getElem (by omega)]; exact List.getElem_mem _
  have key : ((pl.zip (th.map (plP th))).all fun z=>z.2.all fun p=>ahB (orB bs z.1) p.1 p.2)=(List.range 3).all fun k=>((plP th (th.getD k 0)).all fun p=>ahB (orB bs (pl.getD k 0)) p.1 p.2):=by
    clear hpp hvv hos hol' i2 i1 at3 tt3 e1 hs nd hk iv i0 r3
    match pl,th,hp,ht with
    | [p,q,r],[a,b,c],_,_=>rfl
  rw [key]
  refine z5V (I:=fun s=>∃ o3,s=[some (.sh vv),some (.sh pp),some (.ow (.lst (os.map ttD))),o3,none,none]) (c:=(List.range 3).all fun k=>((plP th (th.getD k 0)).all fun p=>ahB (orB bs (pl.getD k 0)) p.1 p.2)) (d:=.bl false) ?_ ?_ ?_
  · refine y4Q (fun s=>∃ o3,s=[some (.sh vv),some (.sh pp),some (.ow (.lst (os.map ttD))),o3,none,none]) (fun k=>((plP th (th.getD k 0)).all fun p=>ahB (orB bs (pl.getD k 0)) p.1 p.2)) (.bl false) ⟨_,rfl⟩ ?_
    rintro k hk3 s ⟨o3,rfl⟩
    have m1:=at3 k hk3
    have m2:=tt3 k hk3
    have hne:=y3N m2 ((hs _ m1).2 _ m2)
    have io : ixD (.lst (os.map ttD)) (.int (k : Int))=some (ttD (orB bs (pl.getD k 0))):=by
      refine z2z ?_
      rw [hos,List.getElem?_map,List.getElem?_eq_getElem (by omega),List.getD_eq_getElem?_getD,List.getElem?_eq_getElem (by omega)]
      rfl
    have it : ixD (ttD th) (.int (k : Int))=some (nD (th.getD k 0)):=by
      refine ixT_map ?_
      rw [List.getElem?_eq_getElem (by omega),List.getD_eq_getElem?_getD,List.getElem?_eq_getElem (by omega)]
      rfl
    have l1:=ll_eq (hs _ m1).1 hne
    have l2:=y4M (nd _ m1) (hs _ m1).2 m2
    simp! only [io,i1,it,l1,y6X]
    rw [l2]
    cases decide ((y1O (orB bs (pl.getD k 0)) th).getLast hne=th.getD k 0) <;> simp_all! only [z0d,if_true,if_false,Bool.false_eq_true]
    exact ⟨_,rfl,_,rfl⟩
  · rintro hc s ⟨o3,rfl⟩
    simp! only [hc,z0d]
  · intro hc
    rw [hc]
theorem y6U {a b : Nat} : decide (((a : Nat) : Int) < ((b : Nat) : Int))=decide (a < b):=decide_eq_decide.mpr (by omega)
theorem bt_eq {bs : List (Int × List Nat)} {a b c d p q : Nat} (hk : p < bs.length∧q < bs.length) (hs : ∀ x∈[a,b,c,d],x∈orB bs p∧x∈orB bs q) (nd : [a,b,c,d].Nodup) :
    z1B [.lst (bs.map vtD),z6E "turned" [a,b,c,d] [p,q]]=some (.bl (([p,q].zip [bt1 a b c d,bt1 c b a d]).all fun z=>z.2.all fun p=>ahB (orB bs z.1) p.1 p.2)):=by
  refine z0K rfl ?_
  have i0 : ixD (z6E "turned" [a,b,c,d] [p,q]) (.int 0)=some (.str "turned"):=z0u (j:=0) rfl
  have i1 : ixD (z6E "turned" [a,b,c,d] [p,q]) (.int 1)=some (ttD [a,b,c,d]):=z0u (j:=1) rfl
  have i2 : ixD (z6E "turned" [a,b,c,d] [p,q]) (.int 2)=some (ttD [p,q]):=z0u (j:=2) rfl
  have ib : ∀ b : Int × List Nat,ixD (vtD b) (.int 1)=some (ttD b.2):=fun b=>z0u (j:=1) rfl
  have iv : ∀ k∈[p,q],ixD (.lst (bs.map vtD)) (nD k)=some (vtD (bs.getD k (0,[]))):=fun k hk'=>by
    simp only [List.mem_cons,List.not_mem_nil,or_false] at hk'
    rcases hk' with rfl | rfl
    · exact z5a hk.1
    · exact z5a hk.2
  obtain ⟨pp,hpp⟩ : ∃ z,z=z6E "turned" [a,b,c,d] [p,q]:=⟨_,rfl⟩
  obtain ⟨vv,hvv⟩ : ∃ z,z=D.lst (bs.map vtD):=⟨_,rfl⟩
  obtain ⟨pl,hpl⟩ : ∃ z,z=[p,q]:=⟨_,rfl⟩
  obtain ⟨th,hth⟩ : ∃ z,z=[a,b,c,d]:=⟨_,rfl⟩
  rw [← hpp] at i0 i1 i2 ⊢
  rw [← hvv] at iv ⊢
  rw [← hpl] at i2 iv
  rw [← hth] at i1 hs
  simp_all! only [z3g,i2,z3I]
  rw [z3u (fun k=>ttD (orB bs k)) (by rw [hpl]; simp) fun k hk'=>by
    simp! only [iv k hk',ib,orB]]
  have e1 : (pl.map fun k=>ttD (orB bs k))=[orB bs p,orB bs q].map ttD:=by rw [hpl]; rfl
  obtain ⟨os,hos⟩ : ∃ os,os=[orB bs p,orB bs q]:=⟨_,rfl⟩
  have x0 : ixD (.lst (os.map ttD)) (.int 0)=some (ttD (orB bs p)):=z2z (k:=0) (by rw [hos]; rfl)
  have x1 : ixD (.lst (os.map ttD)) (.int 1)=some (ttD (orB bs q)):=z2z (k:=1) (by rw [hos]; rfl)
  rw [e1,← hos]
  simp_all! only [z3e (z5Z os),i0,eqTL,i1,z3I]
  have c1 : ∀ δ : DS,z5A (some (th.map nD)) (z5X z6U (d2 y6E (d2 ixD (z0f 2) (dC (.int 0))) (z0f 6)) [some vv,some pp,some (.lst (os.map ttD)),none,none,none])=some (th.map fun x=>nD (ixO (orB bs p) x)):=fun _=>
    z3u (fun x=>nD (ixO (orB bs p) x)) (by rw [hth]; simp) fun x hx=>by simp! only [nD,x0,y0J (hs x hx).1]
  rw [c1 []]
  obtain ⟨us,hus⟩ : ∃ u,u=th.map fun x=>ixO (orB bs p) x:=⟨_,rfl⟩
  obtain ⟨ws,hws⟩ : ∃ u,u=th.map fun x=>ixO (orB bs q) x:=⟨_,rfl⟩
  have e2 : (th.map fun x=>nD (ixO (orB bs p) x))=us.map nD:=by rw [hus,List.map_map]; rfl
  have e3 : (th.map fun x=>nD (ixO (orB bs q) x))=ws.map nD:=by rw [hws,List.map_map]; rfl
  rw [e2]
  simp_all! only [z5m,i1,z3I]
  rw [z3u (fun x=>nD (ixO (orB bs q) x)) (by rw [hth]; simp) fun x hx=>by simp! only [nD,x1,y0J (hs x hx).2],e3]
  have hus' : us=[ixO (orB bs p) a,ixO (orB bs p) b,ixO (orB bs p) c,ixO (orB bs p) d]:=by rw [hus,hth]; rfl
  have hws' : ws=[ixO (orB bs q) a,ixO (orB bs q) b,ixO (orB bs q) c,ixO (orB bs q) d]:=by rw [hws,hth]; rfl
  have u0 : ixD (.lst (us.map nD)) (.int 0)=some (.int ((ixO (orB bs p) a : Nat) : Int)):=z2z (enc:=nD) (k:=0) (by rw [hus']; rfl)
  have u1 : ixD (.lst (us.map nD)) (.int 1)=some (.int ((ixO (orB bs p) b : Nat) : Int)):=z2z (enc:=nD) (k:=1) (by rw [hus']; rfl)
  have u2 : ixD (.lst (us.map nD)) (.int 2)=some (.int ((ixO (orB bs p) c : Nat) : Int)):=z2z (enc:=nD) (k:=2) (by rw [hus']; rfl)
  have u3 : ixD (.lst (us.map nD)) (.int 3)=some (.int ((ixO (orB bs p) d : Nat) : Int)):=z2z (enc:=nD) (k:=3) (by rw [hus']; rfl)
  have w0 : ixD (.lst (ws.map nD)) (.int 0)=some (.int ((ixO (orB bs q) a : Nat) : Int)):=z2z (enc:=nD) (k:=0) (by rw [hws']; rfl)
  have w1 : ixD (.lst (ws.map nD)) (.int 1)=some (.int ((ixO (orB bs q) b : Nat) : Int)):=z2z (enc:=nD) (k:=1) (by rw [hws']; rfl)
  have w2 : ixD (.lst (ws.map nD)) (.int 2)=some (.int ((ixO (orB bs q) c : Nat) : Int)):=z2z (enc:=nD) (k:=2) (by rw [hws']; rfl)
  have w3 : ixD (.lst (ws.map nD)) (.int 3)=some (.int ((ixO (orB bs q) d : Nat) : Int)):=z2z (enc:=nD) (k:=3) (by rw [hws']; rfl)
  rw [hth] at hs
  have h1 : ∀ x∈[a,b,c,d],x∈orB bs p:=fun x hx=>(hs x hx).1
  simp only [List.nodup_cons,List.mem_cons,List.not_mem_nil,or_false,not_or] at nd
  have n1:=y1N (h1 a (by simp)) (h1 b (by simp)) nd.1.1
  have n2:=y1N (h1 b (by simp)) (h1 c (by simp)) nd.2.1.1
  have n3:=y1N (h1 b (by simp)) (h1 d (by simp)) nd.2.1.2
  simp_all! only [z5m,u0,u1,u2,u3,w0,w1,w2,w3,y6U]
  have key : (([p,q].zip [bt1 a b c d,bt1 c b a d]).all fun z=>z.2.all fun p=>ahB (orB bs z.1) p.1 p.2)=(!(decide (ixO (orB bs p) b < ixO (orB bs p) a) || (decide (ixO (orB bs p) c < ixO (orB bs p) b) || decide (ixO (orB bs p) b < ixO (orB bs p) d))) && (decide (ixO (orB bs q) c < ixO (orB bs q) b) && (decide (ixO (orB bs q) b < ixO (orB bs q) a) && decide (ixO (orB bs q) d < ixO (orB bs q) b)))):=by
    rw [Bool.eq_iff_iff]
    simp only [List.zip_cons_cons,List.zip_nil_right,List.all_cons,List.all_nil,bt1,ahB,Bool.and_true,Bool.and_eq_true,Bool.not_eq_true',Bool.or_eq_false_iff,decide_eq_true_iff,decide_eq_false_iff_not]
    omega
  rw [key]
  cases decide (ixO (orB bs p) b < ixO (orB bs p) a) || (decide (ixO (orB bs p) c < ixO (orB bs p) b) || decide (ixO (orB bs p) b < ixO (orB bs p) d)) <;> simp_all! only [w0,w1,w2,w3,y6U,z0d]
theorem z7u {ns : List Int} : ∀ {k i : Nat},i≤k->ns.getD (bst ns k) 0≤ns.getD i 0
  | 0,i,h=>by
    have : i=0:=by omega
    subst this
    exact Int.le_refl _
  | k + 1,i,h=>by
    unfold bst
    by_cases hc : ns.getD (k + 1) 0 < ns.getD (bst ns k) 0
    · rw [if_pos (decide_eq_true hc)]
      by_cases hi : i=k + 1
      · rw [hi]; exact Int.le_refl _
      · have:=z7u (ns:=ns) (k:=k) (i:=i) (by omega)
        omega
    · rw [if_neg (by simpa using hc)]
      by_cases hi : i=k + 1
      · rw [hi]; omega
      · exact z7u (by omega)
theorem y2j {ns : List Int} : ∀ k,bst ns k≤k
  | 0=>Nat.le_refl 0
  | k + 1=>by
    unfold bst
    split
    · exact Nat.le_refl _
    · have:=y2j (ns:=ns) k; omega
theorem z5M {ns : List Int} : ∀ {k i : Nat},i≤k->ns.getD i 0≤ns.getD (z8f ns k) 0
  | 0,i,h=>by
    have : i=0:=by omega
    subst this
    exact Int.le_refl _
  | k + 1,i,h=>by
    unfold z8f
    by_cases hc : ns.getD (k + 1) 0 > ns.getD (z8f ns k) 0
    · rw [if_pos (decide_eq_true hc)]
      by_cases hi : i=k + 1
      · rw [hi]; exact Int.le_refl _
      · have:=z5M (ns:=ns) (k:=k) (i:=i) (by omega)
        omega
    · rw [if_neg (by simpa using hc)]
      by_cases hi : i=k + 1
      · rw [hi]; omega
      · exact z5M (by omega)
theorem z9K {ns : List Int} : ∀ k,z8f ns k≤k
  | 0=>Nat.le_refl 0
  | k + 1=>by
    unfold z8f
    split
    · exact Nat.le_refl _
    · have:=z9K (ns:=ns) k; omega
theorem z7J {ns : List Int} {k : Nat} (h : k < ns.length) : ns.getD k 0∈ns:=by
  rw [List.getD_eq_getElem?_getD,List.getElem?_eq_getElem h]
  exact List.getElem_mem h
theorem y2t {ns : List Int} {z : Int} (hz : z∈ns) (h : ∀ x∈ns,z≤x) : mnI ns=z:=by
  have hp:=List.length_pos_of_mem hz
  obtain ⟨i,hi,rfl⟩:=List.mem_iff_getElem.mp hz
  have h1:=z7u (ns:=ns) (k:=ns.length - 1) (i:=i) (by omega)
  have h2:=h _ (z7J (show bst ns (ns.length - 1) < ns.length by have:=y2j (ns:=ns) (ns.length - 1); omega))
  have e : ns.getD i 0=ns[i]:=by rw [List.getD_eq_getElem?_getD,List.getElem?_eq_getElem hi]; rfl
  unfold mnI
  omega
theorem y4f {ns : List Int} {z : Int} (hz : z∈ns) (h : ∀ x∈ns,x≤z) : mxI ns=z:=by
  have hp:=List.length_pos_of_mem hz
  obtain ⟨i,hi,rfl⟩:=List.mem_iff_getElem.mp hz
  have h1:=z5M (ns:=ns) (k:=ns.length - 1) (i:=i) (by omega)
  have h2:=h _ (z7J (show z8f ns (ns.length - 1) < ns.length by have:=z9K (ns:=ns) (ns.length - 1); omega))
  have e : ns.getD i 0=ns[i]:=by rw [List.getD_eq_getElem?_getD,List.getElem?_eq_getElem hi]; rfl
  unfold mxI
  omega
noncomputable def ftG : Int->Int->List Int->Bool
  | _,_,[]=>true
  | lo,hi,p :: r=>if p=lo - 1 then ftG p hi r else if p=hi + 1 then ftG lo p r else false
theorem y3i : ∀ {r pre : List Int} {lo hi : Int},lo≤hi->(∀ z,z∈pre↔lo≤z∧z≤hi)->hi - lo + 1=(pre.length : Int)->(pre ++ r).Nodup->(ftG lo hi r=true↔∀ k,pre.length≤k->k < (pre ++ r).length->mxI ((pre ++ r).take (k + 1)) - mnI ((pre ++ r).take (k + 1))=(k : Int))
  | [],pre,lo,hi,_,_,_,_=>⟨fun _ k h1 h2=>by rw [List.append_nil] at h2; omega,fun _=>rfl⟩
  | p :: r,pre,lo,hi,hlh,hpre,hlen,nd=>by
    have e0 : pre ++ p :: r=(pre ++ [p]) ++ r:=by simp
    have hp : p ∉ pre:=by
      rw [List.nodup_append] at nd
      exact fun z=>nd.2.2 p z p List.mem_cons_self rfl
    have hp2 : p < lo∨hi < p:=by
      by_cases h : lo≤p∧p≤hi
      · exact absurd ((hpre p).mpr h) hp
      · omega
    have tk : (pre ++ p :: r).take (pre.length + 1)=pre ++ [p]:=by
      rw [e0,List.take_left' (by simp)]
    have hlo : lo∈pre:=(hpre lo).mpr ⟨Int.le_refl _,hlh⟩
    have hhi : hi∈pre:=(hpre hi).mpr ⟨hlh,Int.le_refl _⟩
    have kl : pre.length < (pre ++ p :: r).length:=by simp
    have ll : ((pre ++ [p]).length : Int)=(pre.length : Int) + 1:=by simp
    rw [show ftG lo hi (p :: r)=if p=lo - 1 then ftG p hi r else if p=hi + 1 then ftG lo p r else false from rfl]
    by_cases h1 : p=lo - 1
    · rw [if_pos h1]
      have ih:=y3i (r:=r) (pre:=pre ++ [p]) (lo:=p) (hi:=hi) (by omega) (fun z=>by
        rw [List.mem_append,hpre,List.mem_singleton]; omega) (by rw [ll]; omega) (by rw [← e0]; exact nd)
      rw [ih,← e0]
      constructor
      · intro h k k1 k2
        by_cases hk : k=pre.length
        · subst hk
          rw [tk,y4f (z:=hi) (List.mem_append_left _ hhi) fun x hx=>?_,y2t (z:=p) (by simp) fun x hx=>?_]
          · omega
          · rcases List.mem_append.mp hx with z | z
            · have:=(hpre x).mp z; omega
            · rw [List.mem_singleton.mp z]; omega
          · rcases List.mem_append.mp hx with z | z
            · have:=(hpre x).mp z; omega
            · rw [List.mem_singleton.mp z]; omega
        · exact h k (by simp; omega) k2
      · intro h k k1 k2
        exact h k (by simp at k1; omega) k2
    · rw [if_neg h1]
      by_cases h2 : p=hi + 1
      · rw [if_pos h2]
        have ih:=y3i (r:=r) (pre:=pre ++ [p]) (lo:=lo) (hi:=p) (by omega) (fun z=>by
          rw [List.mem_append,hpre,List.mem_singleton]; omega) (by rw [ll]; omega) (by rw [← e0]; exact nd)
        rw [ih,← e0]
        constructor
        · intro h k k1 k2
          by_cases hk : k=pre.length
          · subst hk
            rw [tk,y4f (z:=p) (by simp) fun x hx=>?_,y2t (z:=lo) (List.mem_append_left _ hlo) fun x hx=>?_]
            · omega
            · rcases List.mem_append.mp hx with z | z
              · have:=(hpre x).mp z; omega
              · rw [List.mem_singleton.mp z]; omega
            · rcases List.mem_append.mp hx with z | z
              · have:=(hpre x).mp z; omega
              · rw [List.mem_singleton.mp z]; omega
          · exact h k (by simp; omega) k2
        · intro h k k1 k2
          exact h k (by simp at k1; omega) k2
      · rw [if_neg h2]
        constructor
        · intro h; cases h
        · intro h
          have h3:=h pre.length (Nat.le_refl _) kl
          rw [tk] at h3
          rcases hp2 with hp2 | hp2
          · rw [y4f (z:=hi) (List.mem_append_left _ hhi) fun x hx=>?_,y2t (z:=p) (by simp) fun x hx=>?_] at h3
            · omega
            · rcases List.mem_append.mp hx with z | z
              · have:=(hpre x).mp z; omega
              · rw [List.mem_singleton.mp z]; omega
            · rcases List.mem_append.mp hx with z | z
              · have:=(hpre x).mp z; omega
              · rw [List.mem_singleton.mp z]; omega
          · rw [y4f (z:=p) (by simp) fun x hx=>?_,y2t (z:=lo) (List.mem_append_left _ hlo) fun x hx=>?_] at h3
            · omega
            · rcases List.mem_append.mp hx with z | z
              · have:=(hpre x).mp z; omega
              · rw [List.mem_singleton.mp z]; omega
            · rcases List.mem_append.mp hx with z | z
              · have:=(hpre x).mp z; omega
              · rw [List.mem_singleton.mp z]; omega
noncomputable def ftB (a l : List Nat) : Bool:=match pls a l with
  | []=>true
  | p :: r=>ftG p p r
theorem z9G {l : List Nat} {x y : Nat} (hx : x∈l) (hy : y∈l) (h : ixO l x=ixO l y) : x=y:=by
  have k1 : ixO l x < l.length:=List.findIdx_lt_length_of_exists ⟨x,hx,by simp⟩
  have k2 : ixO l y < l.length:=List.findIdx_lt_length_of_exists ⟨y,hy,by simp⟩
  have e1 : (l[ixO l x] == x)=true:=List.findIdx_getElem (w:=k1)
  have e2 : (l[ixO l y] == y)=true:=List.findIdx_getElem (w:=k2)
  have e1:=eq_of_beq e1
  have e2:=eq_of_beq e2
  rw [← e1,← e2]
  congr 1
theorem y5t {a l : List Nat} (nd : a.Nodup) (h : ∀ x∈a,x∈l) : liB a l=ftB a l:=by
  have ndp : (pls a l).Nodup:=by
    unfold pls
    rw [List.Nodup,List.pairwise_map]
    refine List.Pairwise.imp_of_mem ?_ nd
    intro x y hx hy hne z
    exact hne (z9G (h x hx) (h y hy) (by omega))
  have key : liB a l=true↔∀ k,k < (pls a l).length->mxI ((pls a l).take (k + 1)) - mnI ((pls a l).take (k + 1))=(k : Int):=by
    unfold liB
    rw [List.all_eq_true]
    have hlen : (pls a l).length=a.length:=by simp [pls]
    have tk : ∀ k,(pls a l).take (k + 1)=pls (a.take (k + 1)) l:=fun k=>by unfold pls; rw [List.map_take]
    constructor
    · intro H k hk
      have:=of_decide_eq_true (H k (List.mem_range.mpr (by omega)))
      rw [tk,this]
      omega
    · intro H k hk
      have:=H k (by rw [hlen]; exact List.mem_range.mp hk)
      rw [tk] at this
      exact decide_eq_true (by rw [this]; omega)
  rw [Bool.eq_iff_iff,key]
  unfold ftB
  cases hp : pls a l with
  | nil=>exact ⟨fun _=>rfl,fun _ k hk=>by simp at hk⟩
  | cons p r=>
    rw [hp] at ndp
    have:=y3i (r:=r) (pre:=[p]) (lo:=p) (hi:=p) (Int.le_refl _) (fun z=>by rw [List.mem_singleton]; omega) (by simp) ndp
    show _↔ftG p p r=true
    rw [this]
    constructor
    · intro H k _ k2
      exact H k k2
    · intro H k k2
      by_cases hk : k=0
      · subst hk
        show mxI [p] - mnI [p]=0
        rw [y4f (z:=p) (by simp) (by simp),y2t (z:=p) (by simp) (by simp)]
        omega
      · exact H k (by simp; omega) k2
theorem z7d {a l : List Nat} (h : ∀ x∈a,x∈l) (ha : a≠[]) (hl : a.length≤900) : z1f [ttD a,thD l]=some (.bl (ftB a l)):=by
  refine z0K rfl ?_
  obtain ⟨x,r,rfl⟩ : ∃ x r,a=x :: r:=by
    cases a with
    | nil=>exact absurd rfl ha
    | cons x r=>exact ⟨x,r,rfl⟩
  have i0 : ixD (ttD (x :: r)) (.int 0)=some (.int (x : Int)):=y2J
  have l0 : y5p (thD l) (.int (x : Int))=some (.int ((ixO l x : Nat) : Int)):=y3S (h x List.mem_cons_self)
  have ct : y2C (some (ttD (x :: r))) (some (some 1)) (some none)=some (ttD r):=by
    show some (D.tup (z4Q ((x :: r).map nD) (some ((1 : Nat) : Int)) none))=_
    rw [z3G]
    rfl
  simp! only [z4s,i0,l0,ct,z3I]
  have gen : ∀ {q : List Nat} {lo hi : Int} {o4 o5 : Option SD},(∀ x∈q,x∈l)->hol (z4B 4 (z0P (z5q 5 (d2 y5p (z0f 1) (z0f 4))) (ifO (z0C (d2 eqD (z0f 5) (d2 y4q (z0f 2) (dC (.int 1))))) (z5q 2 (z0f 5)) (ifO (z0C (d2 eqD (z0f 5) (d2 z9e (z0f 3) (dC (.int 1))))) (z5q 3 (z0f 5)) (z2r (dC (.bl false)))))) (q.map nD) [some (.sh (ttD (x :: r))),some (.sh (thD l)),some (.sh (.int lo)),some (.sh (.int hi)),o4,o5]) fun o=>if ftG lo hi (pls q l)=true then ∃ s,o = .nx s else o = .rt (.bl false):=by
    intro q
    induction q with
    | nil=>exact fun {lo hi o4 o5} _=>⟨_,rfl,(if_pos rfl).mpr ⟨_,rfl⟩⟩
    | cons y q ih=>
      intro lo hi o4 o5 hq
      have ly : y5p (thD l) (.int (y : Int))=some (.int ((ixO l y : Nat) : Int)):=y3S (hq y List.mem_cons_self)
      rw [List.map_cons]
      unfold z4B
      have ep : pls (y :: q) l=((ixO l y : Nat) : Int) :: pls q l:=rfl
      rw [ep,show ftG lo hi (((ixO l y : Nat) : Int) :: pls q l)=if ((ixO l y : Nat) : Int)=lo - 1 then ftG ((ixO l y : Nat) : Int) hi (pls q l) else if ((ixO l y : Nat) : Int)=hi + 1 then ftG lo ((ixO l y : Nat) : Int) (pls q l) else false from rfl]
      by_cases h1 : ((ixO l y : Nat) : Int)=lo - 1
      · have d1 : decide (((ixO l y : Nat) : Int)=lo - 1)=true:=decide_eq_true h1
        rw [if_pos h1]
        simp! only [nD,ly,d1,Option.bind_some]
        exact ih fun x hx=>hq x (List.mem_cons_of_mem _ hx)
      · have d1 : decide (((ixO l y : Nat) : Int)=lo - 1)=false:=decide_eq_false h1
        rw [if_neg h1]
        by_cases h2 : ((ixO l y : Nat) : Int)=hi + 1
        · have d2 : decide (((ixO l y : Nat) : Int)=hi + 1)=true:=decide_eq_true h2
          rw [if_pos h2]
          simp! only [nD,ly,d1,d2,Option.bind_some]
          exact ih fun x hx=>hq x (List.mem_cons_of_mem _ hx)
        · have d2 : decide (((ixO l y : Nat) : Int)=hi + 1)=false:=decide_eq_false h2
          rw [if_neg h2]
          simp! only [nD,ly,d1,d2,Option.bind_some]
          exact ⟨_,rfl,(if_neg Bool.false_ne_true).mpr rfl⟩
  have g:=gen (q:=r) (lo:=((ixO l x : Nat) : Int)) (hi:=((ixO l x : Nat) : Int)) (o4:=none) (o5:=none) fun y hy=>h y (List.mem_cons_of_mem _ hy)
  have ef : ftB (x :: r) l=ftG ((ixO l x : Nat) : Int) ((ixO l x : Nat) : Int) (pls r l):=rfl
  rw [← ef] at g
  obtain ⟨o,eo,q⟩:=g
  rw [eo]
  cases hf : ftB (x :: r) l with
  | true=>
    rw [hf,if_pos rfl] at q
    obtain ⟨s,rfl⟩:=q
    simp! only [z0d]
  | false=>
    rw [hf,if_neg Bool.false_ne_true] at q
    subst q
    simp! only [z0d]
theorem y2Z : ∀ {r : List Int} {lo hi : Int},lo≤hi->ftG lo hi r=true->∀ {r1 : List Int} {p : Int} {r2 : List Int},r=r1 ++ p :: r2->∀ {a b : Int},(lo≤a∧a≤hi∨a∈r1)->(lo≤b∧b≤hi∨b∈r1)->a < p->p < b->False
  | [],_,_,_,_,[],_,_,e,_,_,_,_,_,_=>by cases e
  | [],_,_,_,_,_ :: _,_,_,e,_,_,_,_,_,_=>by cases e
  | q :: r,lo,hi,hlh,h,r1,p,r2,e,a,b,ha,hb,h1,h2=>by
    rw [show ftG lo hi (q :: r)=if q=lo - 1 then ftG q hi r else if q=hi + 1 then ftG lo q r else false from rfl] at h
    cases r1 with
    | nil=>
      cases e
      have ha : lo≤a∧a≤hi:=ha.resolve_right fun z=>nomatch z
      have hb : lo≤b∧b≤hi:=hb.resolve_right fun z=>nomatch z
      split at h
      · omega
      · split at h
        · omega
        · cases h
    | cons q' r1=>
      have e2:=(List.cons.inj e).2
      have e1:=(List.cons.inj e).1
      subst e1
      split at h
      · rename_i hq
        refine y2Z (lo:=q) (hi:=hi) (by omega) h e2 ?_ ?_ h1 h2
        · rcases ha with w | w
          · exact .inl (by omega)
          · rcases List.mem_cons.mp w with w | w
            · exact .inl (by omega)
            · exact .inr w
        · rcases hb with w | w
          · exact .inl (by omega)
          · rcases List.mem_cons.mp w with w | w
            · exact .inl (by omega)
            · exact .inr w
      · split at h
        · rename_i hq
          refine y2Z (lo:=lo) (hi:=q) (by omega) h e2 ?_ ?_ h1 h2
          · rcases ha with w | w
            · exact .inl (by omega)
            · rcases List.mem_cons.mp w with w | w
              · exact .inl (by omega)
              · exact .inr w
          · rcases hb with w | w
            · exact .inl (by omega)
            · rcases List.mem_cons.mp w with w | w
              · exact .inl (by omega)
              · exact .inr w
        · cases h
theorem y3I {o : List Nat} {x y : Nat} (hx : x∈o) (h : ixO o x < ixO o y) : x∈o.take (ixO o y):=by
  have hl:=z2H hx
  have e:=z3w hx
  rw [← e]
  exact List.mem_take_iff_getElem.mpr ⟨ixO o x,by omega,rfl⟩
theorem li_mid {o l : List Nat} (nd : o.Nodup) (h : ∀ x∈o,x∈l) (hf : liB o l=true) {x y z : Nat} (hx : x∈o) (hy : y∈o) (hz : z∈o) (h1 : ixO o x < ixO o y) (h2 : ixO o z < ixO o y) (g1 : ixO l x < ixO l y) (g2 : ixO l y < ixO l z) : False:=by
  rw [y5t nd h] at hf
  have kx:=y3I hx h1
  have kz:=y3I hz h2
  have hl:=z2H hy
  have eo : o=o.take (ixO o y) ++ y :: o.drop (ixO o y + 1):=by
    have e1 : o.drop (ixO o y)=y :: o.drop (ixO o y + 1):=by rw [List.drop_eq_getElem_cons hl,z3w hy]
    rw [← e1,List.take_append_drop]
  obtain ⟨pre,hpre⟩ : ∃ pre,pre=o.take (ixO o y):=⟨_,rfl⟩
  obtain ⟨post,hpost⟩ : ∃ q,q=o.drop (ixO o y + 1):=⟨_,rfl⟩
  rw [← hpre] at kx kz eo
  rw [← hpost] at eo
  cases pre with
  | nil=>exact nomatch kx
  | cons p0 pr=>
    unfold ftB at hf
    have ep : pls o l=((ixO l p0 : Nat) : Int) :: (pls pr l ++ ((ixO l y : Nat) : Int) :: pls post l):=by
      rw [eo]
      unfold pls
      simp
    rw [ep] at hf
    have mem : ∀ {w : Nat},w∈p0 :: pr->(((ixO l p0 : Nat) : Int)≤((ixO l w : Nat) : Int)∧((ixO l w : Nat) : Int)≤((ixO l p0 : Nat) : Int))∨((ixO l w : Nat) : Int)∈pls pr l:=fun {w} hw=>by
      rcases List.mem_cons.mp hw with q | q
      · rw [q]; exact .inl ⟨Int.le_refl _,Int.le_refl _⟩
      · exact .inr (List.mem_map.mpr ⟨w,q,rfl⟩)
    exact y2Z (Int.le_refl _) hf rfl (mem kx) (mem kz) (by omega) (by omega)
noncomputable def Md (o l : List Nat) : Prop:=∀ {x y z : Nat},x∈o->y∈o->z∈o->ixO o x < ixO o y->ixO o z < ixO o y->ixO l x < ixO l y->ixO l y < ixO l z->False
theorem li_md {o l : List Nat} (nd : o.Nodup) (h : ∀ x∈o,x∈l) (hf : liB o l=true) : Md o l:=fun hx hy hz h1 h2 g1 g2=>li_mid nd h hf hx hy hz h1 h2 g1 g2
noncomputable def lnS (L : List (List Nat)) (y : Nat) : List (List Nat):=L.map (fun l=>y :: l) ++ L.map fun l=>l ++ [y]
noncomputable def lnF (x : Nat) (r : List Nat) : List (List Nat):=r.foldl lnS [[x]]
theorem y1Y {l : List Nat} {y z : Nat} (h : z≠y) : ixO (y :: l) z=ixO l z + 1:=by
  unfold ixO
  rw [List.findIdx_cons,beq_eq_false_iff_ne.mpr (Ne.symm h)]
  rfl
theorem y5O {l : List Nat} {y : Nat} : ixO (y :: l) y=0:=by
  unfold ixO
  rw [List.findIdx_cons]
  simp
theorem z6a {l k : List Nat} {z : Nat} (h : z∈l) : ixO (l ++ k) z=ixO l z:=by
  unfold ixO
  rw [List.findIdx_append,if_pos (List.findIdx_lt_length_of_exists ⟨z,h,by simp⟩)]
theorem y6V {l : List Nat} {y : Nat} (h : y ∉ l) : ixO (l ++ [y]) y=l.length:=by
  have e : l.findIdx (fun n=>n == y)=l.length:=List.findIdx_eq_length.mpr fun x hx=>beq_eq_false_iff_ne.mpr fun z=>h (z ▸ hx)
  unfold ixO
  rw [List.findIdx_append,e,if_neg (by omega),List.findIdx_cons]
  simp
theorem ln_ok' : ∀ (n : Nat) (r : List Nat),r.length=n->∀ {x : Nat},(x :: r).Nodup->∀ l∈lnF x r,l.Perm (x :: r)∧Md (x :: r) l:=fun n=>by
  induction n with
  | zero=>
    intro r hr x _ l hl
    have hr : r=[]:=List.length_eq_zero_iff.mp hr
    subst hr
    have : l=[x]:=by simpa [lnF] using hl
    subst this
    refine ⟨.refl _,fun {a b c} ha hb hc h1 _ _ _=>?_⟩
    rw [List.mem_singleton.mp ha,List.mem_singleton.mp hb] at h1
    omega
  | succ n ih0=>
    intro r0 hr0
    obtain ⟨r,y,rfl⟩ : ∃ r y,r0=r ++ [y]:=⟨r0.dropLast,r0.getLast (fun z=>by rw [z] at hr0; simp at hr0),(List.dropLast_concat_getLast _).symm⟩
    intro x nd l' hl'
    have ih:=ih0 r (by rw [List.length_append] at hr0; simp at hr0; omega) (x:=x)
    have nd2 : ((x :: r) ++ [y]).Nodup:=nd
    have ndp : (x :: r).Nodup:=(List.nodup_append.mp nd2).1
    have hy : y ∉ x :: r:=fun z=>(List.nodup_append.mp nd2).2.2 y z y (by simp) rfl
    have e : lnF x (r ++ [y])=lnS (lnF x r) y:=by unfold lnF; rw [List.foldl_append]; rfl
    rw [e] at hl'
    have key : ∀ l∈lnF x r,∀ l',l'.Perm (y :: l)->(∀ z∈x :: r,∀ w∈x :: r,ixO l' z < ixO l' w->ixO l z < ixO l w)->(∀ z∈(x :: r) ++ [y],∀ w∈(x :: r) ++ [y],ixO l' z < ixO l' y->ixO l' y < ixO l' w->False)->l'.Perm ((x :: r) ++ [y])∧Md ((x :: r) ++ [y]) l':=fun l hl l' hp hm he=>by
      obtain ⟨g1,g2⟩:=ih ndp l hl
      refine ⟨(hp.trans (g1.cons y)).trans (List.perm_append_singleton _ _).symm,fun {a b c} ha hb hc h1 h2 k1 k2=>?_⟩
      have inp : ∀ {z : Nat},z∈(x :: r) ++ [y]->z≠y->z∈x :: r:=fun hz hne=>by
        rcases List.mem_append.mp hz with w | w
        · exact w
        · exact (hne (List.mem_singleton.mp w)).elim
      by_cases hby : b=y
      · subst hby
        exact he a ha c hc k1 k2
      · have hb':=inp hb hby
        have ey : ixO ((x :: r) ++ [y]) y=(x :: r).length:=y6V hy
        have eb : ixO ((x :: r) ++ [y]) b=ixO (x :: r) b:=z6a hb'
        have lb:=z2H hb'
        have hay : a≠y:=fun z=>by rw [z,ey,eb] at h1; omega
        have hcy : c≠y:=fun z=>by rw [z,ey,eb] at h2; omega
        have ha':=inp ha hay
        have hc':=inp hc hcy
        rw [z6a ha',eb] at h1
        rw [z6a hc',eb] at h2
        exact g2 ha' hb' hc' h1 h2 (hm a ha' b hb' k1) (hm b hb' c hc' k2)
    show l'.Perm ((x :: r) ++ [y])∧Md ((x :: r) ++ [y]) l'
    rcases List.mem_append.mp hl' with w | w
    · obtain ⟨l,hl,rfl⟩:=List.mem_map.mp w
      refine key l hl _ (.refl _) (fun z hz w hw h=>?_) fun z hz w hw h _=>?_
      · have hzy : z≠y:=fun q=>hy (q ▸ hz)
        have hwy : w≠y:=fun q=>hy (q ▸ hw)
        rw [y1Y hzy,y1Y hwy] at h
        omega
      · rw [y5O] at h
        omega
    · obtain ⟨l,hl,rfl⟩:=List.mem_map.mp w
      have g1:=(ih ndp l hl).1
      have hyl : y ∉ l:=fun z=>hy (g1.mem_iff.mp z)
      refine key l hl _ (List.perm_append_singleton _ _) (fun z hz w hw h=>?_) fun z hz w hw _ h=>?_
      · rw [z6a (g1.mem_iff.mpr hz),z6a (g1.mem_iff.mpr hw)] at h
        exact h
      · rw [y6V hyl] at h
        have hw2 : w∈l ++ [y]:=by
          rcases List.mem_append.mp hw with q | q
          · exact List.mem_append_left _ (g1.mem_iff.mpr q)
          · exact List.mem_append_right _ q
        have:=z2H hw2
        rw [List.length_append] at this
        simp at this
        omega
theorem y5C {r : List Nat} {x : Nat} (nd : (x :: r).Nodup) {l : List Nat} (h : l∈lnF x r) : l.Perm (x :: r)∧Md (x :: r) l:=ln_ok' r.length r rfl nd l h
theorem y0F : ∀ {r : List Nat} {L : List (List Nat)},(r.foldl lnS L).length=2 ^ r.length * L.length
  | [],L=>by simp
  | y :: r,L=>by
    rw [List.foldl_cons,y0F]
    have : (lnS L y).length=2 * L.length:=by unfold lnS; rw [List.length_append,List.length_map,List.length_map]; omega
    rw [this,List.length_cons,Nat.pow_succ,Nat.mul_assoc]
theorem y4g : ∀ {r : List Nat} {L : List (List Nat)} {n : Nat},(∀ l∈L,l.length≤n)->∀ l∈r.foldl lnS L,l.length≤n + r.length
  | [],L,n,h,l,hl=>h l hl
  | y :: r,L,n,h,l,hl=>by
    rw [List.foldl_cons] at hl
    have:=y4g (r:=r) (L:=lnS L y) (n:=n + 1) (fun l hl=>by
      rcases List.mem_append.mp hl with w | w
      · obtain ⟨q,hq,rfl⟩:=List.mem_map.mp w
        have:=h q hq
        simp
        omega
      · obtain ⟨q,hq,rfl⟩:=List.mem_map.mp w
        have:=h q hq
        simp
        omega) l hl
    rw [List.length_cons]
    omega
theorem z6i {x : Nat} {r : List Nat} (hr : r.length≤7) : z2q [ttD (x :: r)]=some (.lst ((lnF x r).map thD)):=by
  refine z0K rfl ?_
  have i0 : ixD (ttD (x :: r)) (.int 0)=some (nD x):=z0u (j:=0) rfl
  have ct : y2C (some (ttD (x :: r))) (some (some 1)) (some none)=some (ttD r):=by
    show some (D.tup (z4Q ((x :: r).map nD) (some ((1 : Nat) : Int)) none))=_
    rw [z3G]
    rfl
  have fl : z6j (some [nD x])=some [nD x]:=rfl
  have t1 : D.lst [D.lst [nD x]] = .lst (([[x]] : List (List Nat)).map thD):=rfl
  obtain ⟨tt,htt⟩ : ∃ q,q=ttD (x :: r):=⟨_,rfl⟩
  rw [← htt] at i0 ct ⊢
  simp! only [z4p,i0,fl,t1,ct,z3I]
  refine z0B (I:=fun s=>∃ o2,s=[some (.sh tt),some (.sh (.lst ((lnF x r).map thD))),o2]) ?_ ?_
  · refine z2p (enc:=nD) (fun pre s=>∃ o2,s=[some (.sh tt),some (.sh (.lst ((pre.foldl lnS [[x]]).map thD))),o2]) ⟨_,rfl⟩ ?_ fun s z=>⟨s,rfl,z⟩
    rintro pre y post e s ⟨o2,rfl⟩
    have hpl : pre.length≤6:=by have:=congrArg List.length e; rw [List.length_append,List.length_cons] at this; omega
    have l1 : (pre.foldl lnS [[x]]).length≤64:=by
      rw [y0F]
      have : 2 ^ pre.length≤2 ^ 6:=Nat.pow_le_pow_right (by omega) hpl
      simpa using this
    have l2 : ∀ l∈pre.foldl lnS [[x]],l.length≤8:=fun l hl=>by
      have:=y4g (n:=1) (by simp) l hl
      omega
    rw [List.foldl_append]
    obtain ⟨L,hL⟩ : ∃ L,L=pre.foldl lnS [[x]]:=⟨_,rfl⟩
    rw [← hL] at l1 l2 ⊢
    have tl : D.lst [nD y]=thD [y]:=rfl
    have c1 : ∀ δ : DS,z5A (some (L.map thD)) (z5X z6U (z0L (y2A (mkL (z0m [z0f 2])) (z0f 3))) [some tt,some (.lst (L.map thD)),some (nD y)])=some ((L.map fun l=>y :: l).map thD):=fun _=>by
      rw [z3u (fun l=>thD (y :: l)) (by omega) fun l hl=>by
        have:=l2 l hl
        have ct:=y0n (a:=[y]) (b:=l) (by simp; omega)
        have ct : y5h (some (thD [y])) (some (thD l))=some ((y :: l).map nD):=ct
        simp! only [tl,ct]
        rw [← eb_mc,z5m]
        rfl,List.map_map]
      rfl
    have c2 : ∀ δ : DS,z5A (some (L.map thD)) (z5X z6U (z0L (y2A (z0f 3) (mkL (z0m [z0f 2])))) [some tt,some (.lst (L.map thD)),some (nD y)])=some ((L.map fun l=>l ++ [y]).map thD):=fun _=>by
      rw [z3u (fun l=>thD (l ++ [y])) (by omega) fun l hl=>by
        have:=l2 l hl
        have ct:=y0n (a:=l) (b:=[y]) (by simp; omega)
        simp! only [tl,ct,z5m]
        rfl,List.map_map]
      rfl
    have ct3 : y5h (some (.lst ((L.map fun l=>y :: l).map thD))) (some (.lst ((L.map fun l=>l ++ [y]).map thD)))=some ((lnS L y).map thD):=by
      rw [y6t (by rw [List.length_map,List.length_map,List.length_map,List.length_map]; omega)]
      unfold lnS
      rw [List.map_append]
    simp! only [c1 [],c2 [],ct3,z0d]
    exact ⟨_,rfl⟩
  · rintro s ⟨o2,rfl⟩
    simp! only [z0d]
theorem nd_inj {l : List Nat} (nd : l.Nodup) {i j : Nat} (hi : i < l.length) (hj : j < l.length) (h : l[i]=l[j]) : i=j:=by
  have:=List.pairwise_iff_getElem.mp nd
  rcases Nat.lt_trichotomy i j with z | z | z
  · exact absurd h (this i j hi hj z)
  · exact z
  · exact absurd h.symm (this j i hj hi z)
theorem ixO_at {l : List Nat} (nd : l.Nodup) {i : Nat} (hi : i < l.length) : ixO l l[i]=i:=nd_inj nd (z2H (List.getElem_mem hi)) hi (z3w (List.getElem_mem hi))
theorem z7H {l : List Nat} : ∀ {r : List Nat} {L : List (List Nat)} {lo hi : Nat},lo≤hi->hi < l.length->(∀ x∈r,x∈l)->(l.drop lo).take (hi + 1 - lo)∈L->ftG (lo : Int) (hi : Int) (pls r l)=true->∃ lo' hi',lo'≤hi'∧hi' < l.length∧hi' + 1 - lo'=hi + 1 - lo + r.length∧(l.drop lo').take (hi' + 1 - lo')∈r.foldl lnS L
  | [],L,lo,hi,h1,h2,_,hm,_=>⟨lo,hi,h1,h2,by simp,hm⟩
  | y :: r,L,lo,hi,h1,h2,hr,hm,hf=>by
    have hy:=hr y (by simp)
    have hr' : ∀ x∈r,x∈l:=fun x hx=>hr x (List.mem_cons_of_mem _ hx)
    have e : pls (y :: r) l=((ixO l y : Nat) : Int) :: pls r l:=rfl
    rw [e] at hf
    unfold ftG at hf
    have ily:=z2H hy
    have gy:=z3w hy
    split at hf
    · rename_i hp
      obtain ⟨k,rfl⟩ : ∃ k,lo=k + 1:=⟨lo - 1,by omega⟩
      have eix : ixO l y=k:=by omega
      have ek : l[k]'(by omega)=y:=by simp only [eix] at gy; exact gy
      rw [eix] at hf
      have seg : (l.drop k).take (hi + 1 - k)=y :: (l.drop (k + 1)).take (hi + 1 - (k + 1)):=by
        rw [List.drop_eq_getElem_cons (show k < l.length by omega),show hi + 1 - k=(hi + 1 - (k + 1)) + 1 by omega,List.take_succ_cons,ek]
      obtain ⟨lo',hi',a,b,c,d⟩:=z7H (r:=r) (L:=lnS L y) (lo:=k) (hi:=hi) (by omega) h2 hr' (by rw [seg]; exact List.mem_append_left _ (List.mem_map.mpr ⟨_,hm,rfl⟩)) hf
      exact ⟨lo',hi',a,b,by rw [c,List.length_cons]; omega,d⟩
    · split at hf
      · rename_i hp
        have eix : ixO l y=hi + 1:=by omega
        have ek : l[hi + 1]'(by omega)=y:=by simp only [eix] at gy; exact gy
        rw [eix] at hf
        have seg : (l.drop lo).take (hi + 1 + 1 - lo)=(l.drop lo).take (hi + 1 - lo) ++ [y]:=by
          rw [show hi + 1 + 1 - lo=(hi + 1 - lo) + 1 by omega,List.take_succ,List.getElem?_drop,show lo + (hi + 1 - lo)=hi + 1 by omega,List.getElem?_eq_getElem (by omega),ek]
          rfl
        obtain ⟨lo',hi',a,b,c,d⟩:=z7H (r:=r) (L:=lnS L y) (lo:=lo) (hi:=hi + 1) (by omega) (by omega) hr' (by rw [seg]; exact List.mem_append_right _ (List.mem_map.mpr ⟨_,hm,rfl⟩)) hf
        exact ⟨lo',hi',a,b,by rw [c,List.length_cons]; omega,d⟩
      · cases hf
theorem ln_has {x : Nat} {r l : List Nat} (hp : (x :: r).Perm l) (hf : ftB (x :: r) l=true) : l∈lnF x r:=by
  have hin : ∀ y∈x :: r,y∈l:=fun y hy=>hp.mem_iff.mp hy
  have hx:=hin x (by simp)
  have hf : ftG ((ixO l x : Nat) : Int) ((ixO l x : Nat) : Int) (pls r l)=true:=hf
  have seg : (l.drop (ixO l x)).take (ixO l x + 1 - ixO l x)=[x]:=by
    rw [List.drop_eq_getElem_cons (z2H hx),show ixO l x + 1 - ixO l x=0 + 1 by omega,List.take_succ_cons,z3w hx]
    rfl
  obtain ⟨lo,hi,h1,h2,h3,h4⟩:=z7H (r:=r) (L:=[[x]]) (lo:=ixO l x) (hi:=ixO l x) (Nat.le_refl _) (z2H hx) (fun y hy=>hin y (List.mem_cons_of_mem _ hy)) (by rw [seg]; simp) hf
  have hl:=hp.length_eq
  rw [List.length_cons] at hl
  have e0 : lo=0:=by omega
  subst e0
  rw [List.drop_zero,List.take_of_length_le (by omega)] at h4
  exact h4
theorem y5F {ps : List Int} (nd : ps.Nodup) {lo hi : Int} (h1 : lo∈ps) (h2 : hi∈ps) (hb : ∀ p∈ps,lo≤p∧p≤hi) (hc : ∀ p,lo≤p->p≤hi->p∈ps) : hi - lo + 1=(ps.length : Int):=by
  have hle:=(hb hi h2).1
  obtain ⟨n,hn⟩ : ∃ n : Nat,hi - lo=(n : Int):=⟨(hi - lo).toNat,by omega⟩
  have nd2 : ((List.range (n + 1)).map fun k : Nat=>lo + (k : Int)).Nodup:=by
    rw [List.Nodup,List.pairwise_map]
    exact List.nodup_range.imp fun h z=>h (by omega)
  have:=((List.perm_ext_iff_of_nodup nd nd2).mpr fun p=>by
    rw [List.mem_map]
    constructor
    · intro h
      have:=hb p h
      exact ⟨(p - lo).toNat,List.mem_range.mpr (by omega),by omega⟩
    · rintro ⟨k,hk,rfl⟩
      have:=List.mem_range.mp hk
      exact hc _ (by omega) (by omega)).length_eq
  rw [List.length_map,List.length_range] at this
  omega
theorem mn_mem {ns : List Int} (h : ns≠[]) : mnI ns∈ns∧∀ x∈ns,mnI ns≤x:=by
  have hp:=List.length_pos_iff.mpr h
  refine ⟨z7J (by have:=y2j (ns:=ns) (ns.length - 1); omega),fun x hx=>?_⟩
  obtain ⟨i,hi,rfl⟩:=List.mem_iff_getElem.mp hx
  have h1:=z7u (ns:=ns) (k:=ns.length - 1) (i:=i) (by omega)
  have e : ns.getD i 0=ns[i]:=by rw [List.getD_eq_getElem?_getD,List.getElem?_eq_getElem hi]; rfl
  unfold mnI
  omega
theorem mx_mem {ns : List Int} (h : ns≠[]) : mxI ns∈ns∧∀ x∈ns,x≤mxI ns:=by
  have hp:=List.length_pos_iff.mpr h
  refine ⟨z7J (by have:=z9K (ns:=ns) (ns.length - 1); omega),fun x hx=>?_⟩
  obtain ⟨i,hi,rfl⟩:=List.mem_iff_getElem.mp hx
  have h1:=z5M (ns:=ns) (k:=ns.length - 1) (i:=i) (by omega)
  have e : ns.getD i 0=ns[i]:=by rw [List.getD_eq_getElem?_getD,List.getElem?_eq_getElem hi]; rfl
  unfold mxI
  omega
theorem md_li {o l : List Nat} (nd : o.Nodup) (hp : o.Perm l) (hM : Md o l) : liB o l=true:=by
  have hin : ∀ y∈o,y∈l:=fun y hy=>hp.mem_iff.mp hy
  have ndl : l.Nodup:=hp.nodup_iff.mp nd
  refine List.all_eq_true.mpr fun k hk=>?_
  have hk:=List.mem_range.mp hk
  refine decide_eq_true ?_
  obtain ⟨b,hb⟩ : ∃ b,b=o.take (k + 1):=⟨_,rfl⟩
  have hbl : b.length=k + 1:=by rw [hb,List.length_take]; omega
  have hbo : ∀ x∈b,x∈o:=fun x hx=>by rw [hb] at hx; exact List.mem_of_mem_take hx
  have ndb : b.Nodup:=by rw [hb]; exact (List.take_sublist _ _).nodup nd
  rw [← hb]
  have ne : pls b l≠[]:=y2P fun z=>by rw [z] at hbl; simp at hbl
  have ndp : (pls b l).Nodup:=by
    unfold pls
    rw [List.Nodup,List.pairwise_map]
    refine List.Pairwise.imp_of_mem (fun {x y} hx hy h z=>h ?_) ndb
    exact z9G (hin x (hbo x hx)) (hin y (hbo y hy)) (by omega)
  have plen : (pls b l).length=k + 1:=by unfold pls; rw [List.length_map,hbl]
  obtain ⟨hmn,mnl⟩:=mn_mem ne
  obtain ⟨hmx,mxl⟩:=mx_mem ne
  have:=y5F ndp hmn hmx (fun p hp=>⟨mnl p hp,mxl p hp⟩) fun p h1 h2=>by
    obtain ⟨u,hu,eu⟩:=List.mem_map.mp hmn
    obtain ⟨w,hw,ew⟩:=List.mem_map.mp hmx
    have hwl:=z2H (hin w (hbo w hw))
    obtain ⟨i,rfl⟩ : ∃ i : Nat,p=(i : Int):=⟨p.toNat,by omega⟩
    have hil : i < l.length:=by omega
    obtain ⟨z,hz⟩ : ∃ z,z=l[i]:=⟨_,rfl⟩
    have hzl : z∈l:=by rw [hz]; exact List.getElem_mem _
    have ez : ixO l z=i:=by rw [hz]; exact ixO_at ndl hil
    have hzo : z∈o:=hp.mem_iff.mpr hzl
    refine Classical.byContradiction fun hnp=>?_
    have hzb : z ∉ b:=fun q=>hnp (List.mem_map.mpr ⟨z,q,by rw [ez]⟩)
    have late : ∀ x∈b,ixO o x < ixO o z:=fun x hx=>by
      have h1 : ixO o x < k + 1:=by
        rw [hb] at hx
        have e : o.take (k + 1) ++ o.drop (k + 1)=o:=List.take_append_drop _ _
        have h2:=z2H hx
        have h3 : ixO o x=ixO (o.take (k + 1)) x:=by
          have:=z6a (k:=o.drop (k + 1)) hx
          rw [e] at this
          exact this
        rw [h3]
        rw [List.length_take] at h2
        omega
      have h2 : k + 1≤ixO o z:=by
        refine Nat.le_of_not_lt fun q=>hzb ?_
        have g:=z3w hzo
        rw [hb,← g]
        exact List.mem_take_iff_getElem.mpr ⟨ixO o z,by have:=z2H hzo; omega,rfl⟩
      omega
    have nu : ixO l u≠i:=fun q=>hnp (List.mem_map.mpr ⟨u,hu,by rw [q]⟩)
    have nw : ixO l w≠i:=fun q=>hnp (List.mem_map.mpr ⟨w,hw,by rw [q]⟩)
    exact hM (hbo u hu) hzo (hbo w hw) (late u hu) (late w hw) (by omega) (by omega)
  rw [plen] at this
  omega
noncomputable def pkS (m : Nat) (F : List (List Nat)) : List (List Nat):=F.flatMap fun t=>((List.range m).filter fun x=>!t.contains x).map fun x=>t ++ [x]
noncomputable def pk (m : Nat) : Nat->List (List Nat)
  | 0=>[[]]
  | k + 1=>pkS m (pk m k)
theorem pk_mem {m : Nat} : ∀ {k : Nat} {t : List Nat},t∈pk m k↔t.length=k∧t.Nodup∧∀ x∈t,x < m
  | 0,t=>by
    constructor
    · intro h
      have : t=[]:=by simpa [pk] using h
      subst this
      exact ⟨rfl,List.nodup_nil,fun x hx=>nomatch hx⟩
    · rintro ⟨h,_,_⟩
      rw [List.length_eq_zero_iff.mp h]
      simp [pk]
  | k + 1,t=>by
    show t∈pkS m (pk m k)↔_
    unfold pkS
    rw [List.mem_flatMap]
    constructor
    · rintro ⟨u,hu,ht⟩
      obtain ⟨x,hx,rfl⟩:=List.mem_map.mp ht
      obtain ⟨h1,h2,h3⟩:=pk_mem.mp hu
      obtain ⟨hx1,hx2⟩:=List.mem_filter.mp hx
      have hxu : x ∉ u:=by simpa using hx2
      refine ⟨by rw [List.length_append]; simp [h1],List.nodup_append.mpr ⟨h2,by simp,fun a ha b hb e=>?_⟩,fun y hy=>?_⟩
      · rw [List.mem_singleton.mp hb] at e
        exact hxu (e ▸ ha)
      · rcases List.mem_append.mp hy with w | w
        · exact h3 y w
        · rw [List.mem_singleton.mp w]; exact List.mem_range.mp hx1
    · rintro ⟨h1,h2,h3⟩
      obtain ⟨u,x,rfl⟩ : ∃ u x,t=u ++ [x]:=⟨t.dropLast,t.getLast (fun z=>by rw [z] at h1; simp at h1),(List.dropLast_concat_getLast _).symm⟩
      obtain ⟨n1,_,n3⟩:=List.nodup_append.mp h2
      refine ⟨u,pk_mem.mpr ⟨by rw [List.length_append] at h1; simp at h1; exact h1,n1,fun y hy=>h3 y (List.mem_append_left _ hy)⟩,List.mem_map.mpr ⟨x,List.mem_filter.mpr ⟨List.mem_range.mpr (h3 x (by simp)),?_⟩,rfl⟩⟩
      have : x ∉ u:=fun z=>n3 x z x (by simp) rfl
      simpa using this
theorem z9t {m : Nat} : ∀ {F : List (List Nat)},(pkS m F).length≤m * F.length
  | []=>by simp [pkS]
  | t :: F=>by
    have ih:=z9t (m:=m) (F:=F)
    have e : pkS m (t :: F)=(((List.range m).filter fun x=>!t.contains x).map fun x=>t ++ [x]) ++ pkS m F:=by unfold pkS; rw [List.flatMap_cons]
    rw [e,List.length_append,List.length_map,List.length_cons,Nat.mul_succ]
    have:=List.length_filter_le (fun x=>!t.contains x) (List.range m)
    rw [List.length_range] at this
    omega
theorem nin_tt {a : Nat} {th : List Nat} : y6j (.int (a : Int)) (ttD th)=some (.bl (!th.contains a)):=by
  have h:=in_tt (a:=a) (th:=th)
  unfold inD at h
  unfold y6j
  obtain ⟨b,e,q⟩:=Option.map_eq_some_iff.mp h
  cases q
  rw [e]
  rfl
theorem one_eq {m : Nat} (hm : m≤8) {F : List (List Nat)} (hF : F.length≤10000) (ht : ∀ t∈F,t.length≤8) : z1p [.lst (F.map ttD),.int (m : Int)]=some (.lst ((pkS m F).map ttD)):=by
  refine z0K rfl ?_
  have nl : D.lst [] = .lst ((pkS m []).map ttD):=rfl
  simp! only [z2B,z3c]
  rw [nl]
  refine z0B (I:=fun s=>∃ o3,s=[some (.sh (.lst (F.map ttD))),some (.sh (.int (m : Int))),some (.ow (.lst ((pkS m F).map ttD))),o3]) ?_ ?_
  · refine z2p (enc:=ttD) (fun pre s=>∃ o3,s=[some (.sh (.lst (F.map ttD))),some (.sh (.int (m : Int))),some (.ow (.lst ((pkS m pre).map ttD))),o3]) ⟨_,rfl⟩ ?_ fun s z=>⟨s,rfl,z⟩
    rintro pre t post e s ⟨o3,rfl⟩
    have htl:=ht t (by rw [e]; simp)
    have rn : y4O (some (.int (m : Int)))=some (z4d 0 m):=z3a (by omega)
    simp! only [rn]
    rw [z9V,y0d (fun x=>!t.contains x) (fun x=>ttD (t ++ [x])) (by rw [List.length_range]; omega) (fun x _=>by simp! only [nD,nin_tt]) fun x _ _=>by
      have ct : catT (ttD t) (.tup [nD x])=some (ttD (t ++ [x])):=by
        unfold ttD
        rw [List.map_append]
        exact if_pos (z2m (by simp; omega))
      simp! only [ct]]
    have em : (((List.range m).filter fun x=>!t.contains x).map fun x=>ttD (t ++ [x]))=(((List.range m).filter fun x=>!t.contains x).map fun x=>t ++ [x]).map ttD:=by rw [List.map_map]; rfl
    obtain ⟨N,hN⟩ : ∃ N,N=((List.range m).filter fun x=>!t.contains x).map fun x=>t ++ [x]:=⟨_,rfl⟩
    have hNl : N.length≤8:=by
      rw [hN,List.length_map]
      exact Nat.le_trans (List.length_filter_le _ _) (by rw [List.length_range]; omega)
    have key : pkS m (pre ++ [t])=pkS m pre ++ N:=by rw [hN]; unfold pkS; rw [List.flatMap_append,List.flatMap_cons,List.flatMap_nil,List.append_nil]
    have pl : (pkS m pre).length≤80000:=by
      have h1:=z9t (m:=m) (F:=pre)
      have h2 : pre.length≤10000:=by have:=congrArg List.length e; rw [List.length_append] at this; omega
      have : m * pre.length≤8 * 10000:=Nat.mul_le_mul hm h2
      omega
    rw [em,← hN,key]
    have ex:=eo_ext (ds:=(pkS m pre).map ttD) (es:=N.map ttD) (by rw [List.length_map,List.length_map]; omega)
    rw [← List.map_append] at ex
    simp! only [z3e (z5Z N),ex,z0d]
    exact ⟨_,rfl⟩
  · rintro s ⟨o3,rfl⟩
    simp! only [z0d]
theorem y2V {m : Nat} (hm : m≤8) : ∀ {k : Nat},(pk m k).length≤8 ^ k
  | 0=>by simp [pk]
  | k + 1=>by
    have h1:=z9t (m:=m) (F:=pk m k)
    have h2:=y2V hm (k:=k)
    have : m * (pk m k).length≤8 * 8 ^ k:=Nat.mul_le_mul hm h2
    show (pkS m (pk m k)).length≤8 ^ (k + 1)
    rw [Nat.pow_succ]
    omega
theorem y0O {m k : Nat} (hm : m≤8) (hk : k≤4) : z3C [.int (k : Int),.int (m : Int)]=some (.lst ((pk m k).map ttD)):=by
  refine z0K rfl ?_
  have rn : y4O (some (.int (k : Int)))=some (z4d 0 k):=z3a (by omega)
  have fl : z6j (some [D.tup []])=some [D.tup []]:=rfl
  have t0 : D.lst [D.tup []] = .lst ((pk m 0).map ttD):=rfl
  simp! only [z9L,fl,t0,rn]
  refine z0B (I:=fun s=>∃ o3,s=[some (.sh (.int (k : Int))),some (.sh (.int (m : Int))),some (.ow (.lst ((pk m k).map ttD))),o3]) ?_ ?_
  · refine z7I (fun n s=>∃ o3,s=[some (.sh (.int (k : Int))),some (.sh (.int (m : Int))),some (.ow (.lst ((pk m n).map ttD))),o3]) ⟨_,rfl⟩ ?_ fun s z=>⟨s,rfl,z⟩
    rintro n hn s ⟨o3,rfl⟩
    have pl : (pk m n).length≤4096:=Nat.le_trans (y2V hm) (Nat.pow_le_pow_right (n:=8) (by omega) (show n≤4 by omega))
    have o1:=one_eq hm (F:=pk m n) (by omega) fun t ht=>by have:=(pk_mem.mp ht).1; omega
    simp! only [o1,z0d]
    exact ⟨_,rfl⟩
  · rintro s ⟨o3,rfl⟩
    simp! only [z0d]
theorem z7Z {α : Type} {enc : α->D} {i : Nat} {b : SS->Option Out} {X : List α} (I : List α->SS->Prop) (p : α->Bool) (d : D) : ∀ {xs pre : List α} {s : SS},X=pre ++ xs->I pre s->(∀ pre x post,X=pre ++ x :: post->∀ δ,I pre δ->hol (b (δ.set i (some (.sh (enc x))))) fun o=>if p x=true then (∃ δ',o = .nx δ'∧I (pre ++ [x]) δ') else o = .rt d) →
    hol (z4B i b (xs.map enc) s) fun o=>if xs.all p=true then (∃ δ',o = .nx δ'∧I X δ') else o = .rt d
  | [],pre,s,eX,h0,_=>⟨_,rfl,(if_pos rfl).mpr ⟨s,rfl,by rw [eX,List.append_nil]; exact h0⟩⟩
  | x :: r,pre,s,eX,h0,hs=>by
    obtain ⟨o,e,q⟩:=hs pre x r eX s h0
    rw [List.map_cons]
    unfold z4B
    rw [e,List.all_cons]
    cases hp : p x with
    | true=>
      rw [hp,if_pos rfl] at q
      obtain ⟨s1,rfl,h1⟩:=q
      rw [Bool.true_and]
      exact z7Z I p d (xs:=r) (by rw [eX,List.append_assoc]; rfl) h1 hs
    | false=>
      rw [hp,if_neg Bool.false_ne_true] at q
      subst q
      rw [Bool.false_and]
      exact ⟨_,rfl,(if_neg Bool.false_ne_true).mpr rfl⟩
noncomputable def fp1 (bs : List (Int × List Nat)) (ps : List (Nat × Nat)) : List Nat:=(bs.zipIdx.filter fun z=>ps.all fun p=>ahB z.1.2 p.1 p.2).map (·.2)
theorem fp1_mem {bs : List (Int × List Nat)} {ps : List (Nat × Nat)} {k : Nat} : k∈fp1 bs ps↔k < bs.length∧(ps.all fun p=>ahB (orB bs k) p.1 p.2)=true:=by
  unfold fp1
  rw [List.mem_map]
  constructor
  · rintro ⟨⟨b,j⟩,h,rfl⟩
    obtain ⟨h1,h2⟩:=List.mem_filter.mp h
    have h1:=List.mem_zipIdx' h1
    refine ⟨h1.1,?_⟩
    have : orB bs j=b.2:=by unfold orB; rw [List.getD_eq_getElem?_getD,List.getElem?_eq_getElem h1.1,Option.getD_some,← h1.2]
    rw [this]
    exact h2
  · rintro ⟨h1,h2⟩
    refine ⟨(bs[k],k),List.mem_filter.mpr ⟨?_,?_⟩,rfl⟩
    · exact List.mem_zipIdx_iff_getElem?.mpr (List.getElem?_eq_getElem h1)
    · have : orB bs k=bs[k].2:=by unfold orB; rw [List.getD_eq_getElem?_getD,List.getElem?_eq_getElem h1,Option.getD_some]
      rw [this] at h2
      exact h2
noncomputable def z3m (bs : List (Int × List Nat)) (ps : List (Nat × Nat)) : Nat:=(fp1 bs ps).headD 0
noncomputable def fpB (bs : List (Int × List Nat)) (W : List (List (Nat × Nat))) : Bool:=W.all fun ps=>!(fp1 bs ps).isEmpty
noncomputable def fpD (bs : List (Int × List Nat)) (W : List (List (Nat × Nat))) : D:=if fpB bs W=true then ttD (W.map (z3m bs)) else .non
theorem fp1_len {bs : List (Int × List Nat)} {ps : List (Nat × Nat)} : (fp1 bs ps).length≤bs.length:=by
  unfold fp1
  rw [List.length_map]
  refine Nat.le_trans (List.length_filter_le _ _) ?_
  rw [List.length_zipIdx]
  exact Nat.le_refl _
theorem enum_ls {ds : List D} : y4h (.lst ds)=some (z0U 0 ds):=(rfl)
theorem y3E {bs : List (Int × List Nat)} (hb : bs.length≤900) {W : List (List (Nat × Nat))} (hW : W.length≤900) (hm : ∀ ps∈W,ps.length≤900∧∀ p∈ps,∀ b∈bs,p.1∈b.2∧p.2∈b.2) :
    z1j [.lst (bs.map vtD),.lst (W.map fun ps=>.lst (ps.map prD))]=some (fpD bs W):=by
  refine z0K rfl ?_
  have ib : ∀ b : Int × List Nat,ixD (vtD b) (.int 1)=some (ttD b.2):=fun b=>z0u (j:=1) rfl
  obtain ⟨ww,hww⟩ : ∃ q,q=D.lst (W.map fun ps=>.lst (ps.map prD)):=⟨_,rfl⟩
  have sw : y1r ww=some (W.map fun ps=>.lst (ps.map prD)):=by rw [hww]; rfl
  have nl : D.lst []=thD ([] : List Nat):=rfl
  rw [← hww]
  simp! only [z2L,z3c,nl,sw]
  refine z5V (I:=fun s=>∃ o3 o4,s=[some (.sh (.lst (bs.map vtD))),some (.sh ww),some (.ow (thD (W.map (z3m bs)))),o3,o4]) (c:=fpB bs W) (d:=.non) ?_ ?_ ?_
  · refine z7Z (enc:=fun ps : List (Nat × Nat)=>D.lst (ps.map prD)) (X:=W) (fun pre s=>∃ o3 o4,s=[some (.sh (.lst (bs.map vtD))),some (.sh ww),some (.ow (thD (pre.map (z3m bs)))),o3,o4]) (fun ps=>!(fp1 bs ps).isEmpty) .non (pre:=[]) rfl ⟨_,_,rfl⟩ ?_
    rintro pre ps post e δ ⟨o3,o4,rfl⟩
    have hpl : pre.length≤900:=by have:=congrArg List.length e; rw [List.length_append] at this; omega
    obtain ⟨hp1,hp2⟩:=hm ps (by rw [e]; simp)
    simp! only [enum_ls]
    rw [cx2_of (enc:=vtD) (fun _ b=>ps.all fun p=>ahB b.2 p.1 p.2) (fun k _=>nD k) (by omega) (fun k hk=>by
      simp! only [ib,pts_eq (o:=bs[k].2) (show ps.length≤1000 by omega) fun p hp=>hp2 p hp bs[k] (List.getElem_mem hk)]) fun k hk _=>by
      simp! only []
      rfl]
    have em : ((bs.zipIdx.filter fun z=>ps.all fun p=>ahB z.1.2 p.1 p.2).map fun z=>nD z.2)=(fp1 bs ps).map nD:=by unfold fp1; rw [List.map_map]; rfl
    have fl:=fp1_len (bs:=bs) (ps:=ps)
    rw [em]
    simp! only [z5m,th_lst,tru_th]
    cases hf : fp1 bs ps with
    | nil=>
      simp_all! only [List.isEmpty_nil,z0d]
      simp
    | cons k r=>
      have ix : ixD (thD (k :: r)) (.int 0)=some (.int (k : Int)):=ix0
      have im : z8p (some [.int (k : Int)])=some [.int (k : Int)]:=z5N rfl
      have ap:=app_thV (th:=pre.map (z3m bs)) (k:=k) (by rw [List.length_map]; omega)
      have e2 : pre.map (z3m bs) ++ [k]=(pre ++ [ps]).map (z3m bs):=by
        rw [List.map_append]
        unfold z3m
        rw [List.map_cons,hf]
        rfl
      rw [e2] at ap
      obtain ⟨kr,hkr⟩ : ∃ q,q=thD (k :: r):=⟨_,rfl⟩
      rw [← hkr] at ix
      rw [← hkr]
      simp_all! only [List.isEmpty_cons,ix,im,ap,z0d]
      exact ⟨_,rfl,_,_,rfl⟩
  · rintro hc s ⟨o3,o4,rfl⟩
    unfold fpD
    rw [hc,if_pos rfl]
    simp! only [tup_th,imm_tt,z0d]
  · intro hc
    unfold fpD
    rw [hc]
    rfl
noncomputable def brD (bs : List (Int × List Nat)) (w : Str) (Wk : List Nat->List (List (Nat × Nat))) (t : List Nat) : D:=z6E w t ((Wk t).map (z3m bs))
noncomputable def amD (bs : List (Int × List Nat)) (w : Str) (Wk : List Nat->List (List (Nat × Nat))) (F : List (List Nat)) : D:=match F.find? fun t=>fpB bs (Wk t) with
  | some t=>brD bs w Wk t
  | none=>.non
theorem y0r {bs : List (Int × List Nat)} (hb : bs.length≤900) {w : Str} {Wk : List Nat->List (List (Nat × Nat))} {F : List (List Nat)} (hW : ∀ t∈F,z1r [.str w,ttD t]=some (.lst ((Wk t).map fun ps=>.lst (ps.map prD))))
    (hl : ∀ t∈F,(Wk t).length≤900) (hm : ∀ t∈F,∀ ps∈Wk t,ps.length≤900∧∀ p∈ps,∀ b∈bs,p.1∈b.2∧p.2∈b.2) :
    z1W [.lst (bs.map vtD),.str w,.lst (F.map ttD)]=some (amD bs w Wk F):=by
  refine z0K rfl ?_
  obtain ⟨ff,hff⟩ : ∃ q,q=D.lst (F.map ttD):=⟨_,rfl⟩
  have sf : y1r ff=some (F.map ttD):=by rw [hff]; rfl
  obtain ⟨vv,hvv⟩ : ∃ q,q=D.lst (bs.map vtD):=⟨_,rfl⟩
  rw [← hff]
  have key : ∀ {G : List (List Nat)} {o3 o4 : Option SD},(∀ t∈G,t∈F)->hol (z4z (z4B 3 (z0P (z4b 4 (z0k z1j [(z0f 0),(z0k z1r [(z0f 1),(z0f 3)])])) (ifO (y1v (z0f 4)) (z2r (mkT (z0m [(z0f 1),(z0f 3),(z0f 4)]))) z1s)) (G.map ttD) [some (.sh vv),some (.sh (.str w)),some (.sh ff),o3,o4]) (z2r (dC .non))) fun o=>o = .rt (amD bs w Wk G):=by
    intro G
    induction G with
    | nil=>
      intro o3 o4 _
      rw [List.map_nil]
      unfold z4B
      simp! only [z0d]
      rfl
    | cons t G ih=>
      intro o3 o4 hG
      have htF:=hG t List.mem_cons_self
      have pe:=y3E hb (hl t htF) (hm t htF)
      have we:=hW t htF
      rw [← hvv] at pe
      rw [List.map_cons]
      unfold z4B
      obtain ⟨wd,hwd⟩ : ∃ q,q=D.lst ((Wk t).map fun ps=>.lst (ps.map prD)):=⟨_,rfl⟩
      rw [← hwd] at pe we
      have eA : amD bs w Wk (t :: G)=if fpB bs (Wk t)=true then brD bs w Wk t else amD bs w Wk G:=by
        unfold amD
        rw [List.find?_cons]
        cases fpB bs (Wk t) <;> rfl
      rw [eA]
      cases hf : fpB bs (Wk t) with
      | true=>
        have ed : fpD bs (Wk t)=ttD ((Wk t).map (z3m bs)):=by unfold fpD; rw [hf,if_pos rfl]
        rw [ed] at pe
        obtain ⟨pl,hpl⟩ : ∃ q,q=(Wk t).map (z3m bs):=⟨_,rfl⟩
        have eB : brD bs w Wk t = .tup [.str w,ttD t,ttD pl]:=by rw [hpl]; rfl
        rw [← hpl] at pe
        have nn : isN (ttD pl)=false:=rfl
        have im : z9P (some (D.tup [.str w,ttD t,ttD pl]))=some (.tup [.str w,ttD t,ttD pl]):=y3V (z5P (ds:=[.str w,ttD t,ttD pl]) fun d hd=>by
          simp only [List.mem_cons,List.not_mem_nil,or_false] at hd
          rcases hd with rfl | rfl | rfl
          · rfl
          · exact z4N _
          · exact z4N _)
        rw [if_pos rfl,eB]
        simp_all! only [we,pe,nn,im,z0d,Option.bind_some]
      | false=>
        have ed : fpD bs (Wk t) = .non:=by unfold fpD; rw [hf]; rfl
        rw [ed] at pe
        have nn : isN D.non=true:=rfl
        rw [if_neg Bool.false_ne_true]
        have:=ih (o3:=some (.sh (ttD t))) (o4:=some (.ow .non)) fun u hu=>hG u (List.mem_cons_of_mem _ hu)
        simp_all! only [we,pe,nn,Option.bind_some]
        exact this
  have:=key (G:=F) (o3:=none) (o4:=none) fun _ h=>h
  rw [← hvv]
  simp! only [z4l,sf]
  exact this
noncomputable def Wl (t : List Nat) : List (List (Nat × Nat)):=t.map (plP t)
noncomputable def Wt : List Nat->List (List (Nat × Nat))
  | [a,b,c,d]=>[bt1 a b c d,bt1 c b a d]
  | _=>[]
noncomputable def srB (t : List Nat) : Bool:=decide (z5p (t.map fun n=>((n : Nat) : Int))=t.map fun n=>((n : Nat) : Int))
noncomputable def ris (m : Nat) : List (List Nat):=(pk m 3).filter srB
noncomputable def barD (bs : List (Int × List Nat)) (m : Nat) : D:=if ((ris m).any fun t=>fpB bs (Wl t))=true then amD bs "lasts" Wl (ris m) else amD bs "turned" Wt (pk m 4)
theorem y3M : ∀ a b : List Int,PyData.eqvAll (z4R (a.map D.int)) (z4R (b.map D.int))=decide (a=b)
  | [],[]=>rfl
  | [],_ :: _=>rfl
  | _ :: _,[]=>rfl
  | x :: a,y :: b=>by
    show ((x == y) && PyData.eqvAll (z4R (a.map D.int)) (z4R (b.map D.int)))=_
    rw [y3M a b]
    by_cases h : x=y
    · subst h
      by_cases h2 : a=b
      · subst h2; simp
      · simp [h2]
    · simp [h]
theorem eq_il {a b : List Int} : eqD (.lst (a.map .int)) (.lst (b.map .int))=some (.bl (decide (a=b))):=by
  have o1 : okP (.lst (a.map .int))=true:=z5u (y0N a) (by omega)
  have o2 : okP (.lst (b.map .int))=true:=z5u (y0N b) (by omega)
  unfold eqD
  rw [o1,o2]
  show some (D.bl (PyData.eqvAll (z4R (a.map D.int)) (z4R (b.map D.int))))=_
  rw [y3M]
theorem Wl_mem {t : List Nat} {ps : List (Nat × Nat)} (h : ps∈Wl t) : ps.length≤t.length∧∀ p∈ps,p.1∈t∧p.2∈t:=by
  obtain ⟨l,hl,rfl⟩:=List.mem_map.mp h
  refine ⟨?_,fun p hp=>?_⟩
  · unfold plP
    rw [List.length_map]
    exact List.length_filter_le _ _
  · obtain ⟨x,hx,rfl⟩:=List.mem_map.mp hp
    exact ⟨(List.mem_filter.mp hx).1,hl⟩
theorem y6r {m : Nat} {t : List Nat} (h : t∈pk m 4) : ∃ a b c d,t=[a,b,c,d]∧[a,b,c,d].Nodup∧(∀ x∈[a,b,c,d],x < m):=by
  obtain ⟨h1,h2,h3⟩:=pk_mem.mp h
  match t,h1,h2,h3 with
  | [a,b,c,d],_,h2,h3=>exact ⟨a,b,c,d,rfl,h2,h3⟩
theorem am_none {bs : List (Int × List Nat)} {w : Str} {Wk : List Nat->List (List (Nat × Nat))} {F : List (List Nat)} (h : (F.any fun t=>fpB bs (Wk t))=false) : amD bs w Wk F = .non:=by
  unfold amD
  rw [List.find?_eq_none.mpr fun t ht=>List.any_eq_false.mp h t ht]
theorem z9J {bs : List (Int × List Nat)} {w : Str} {Wk : List Nat->List (List (Nat × Nat))} {F : List (List Nat)} (h : (F.any fun t=>fpB bs (Wk t))=true) : ∃ t∈F,fpB bs (Wk t)=true∧amD bs w Wk F=brD bs w Wk t:=by
  unfold amD
  cases hf : F.find? fun t=>fpB bs (Wk t) with
  | none=>
    obtain ⟨t,ht,hx⟩:=List.any_eq_true.mp h
    exact absurd hx (List.find?_eq_none.mp hf t ht)
  | some t=>exact ⟨t,List.mem_of_find?_eq_some hf,List.find?_some (p:=fun t=>fpB bs (Wk t)) hf,rfl⟩
theorem imm_br {bs : List (Int × List Nat)} {w : Str} {Wk : List Nat->List (List (Nat × Nat))} {t : List Nat} : (brD bs w Wk t).imm=true:=by
  show (true && (z2C (t.map nD) && (z2C (((Wk t).map (z3m bs)).map nD) && true)))=true
  rw [z4N,z4N]
  rfl
theorem bar_eq {bs : List (Int × List Nat)} (hb : bs.length≤900) {m : Nat} (hm : m≤8) (hp : ∀ b∈bs,b.2.Perm (List.range m)) : z4y [.lst (bs.map vtD),.int (m : Int)]=some (barD bs m):=by
  refine z0K rfl ?_
  have p3:=y0O (m:=m) (k:=3) hm (by omega)
  have p3 : z3C [.int 3,.int (m : Int)]=_:=p3
  have p4:=y0O (m:=m) (k:=4) hm (by omega)
  have p4 : z3C [.int 4,.int (m : Int)]=_:=p4
  have hin : ∀ x < m,∀ b∈bs,x∈b.2:=fun x hx b hbb=>(hp b hbb).mem_iff.mpr (List.mem_range.mpr hx)
  have l3 : (pk m 3).length≤512:=Nat.le_trans (y2V hm) (by decide)
  have risT : ∀ t∈ris m,t∈pk m 3:=fun t ht=>(List.mem_filter.mp ht).1
  have a1:=y0r hb (w := "lasts") (Wk:=Wl) (F:=ris m) (fun t ht=>by
      have:=(pk_mem.mp (risT t ht)).1
      rw [wl_eq (by omega)]
      unfold Wl
      rw [List.map_map]
      rfl) (fun t ht=>by have:=(pk_mem.mp (risT t ht)).1; unfold Wl; rw [List.length_map]; omega) fun t ht ps hps=>by
    obtain ⟨h1,_,h3⟩:=pk_mem.mp (risT t ht)
    obtain ⟨w1,w2⟩:=Wl_mem hps
    exact ⟨by omega,fun p hpp b hbb=>⟨hin _ (h3 _ (w2 p hpp).1) b hbb,hin _ (h3 _ (w2 p hpp).2) b hbb⟩⟩
  have a2:=y0r hb (w := "turned") (Wk:=Wt) (F:=pk m 4) (fun t ht=>by
      obtain ⟨a,b,c,d,rfl,_,_⟩:=y6r ht
      exact wt_eq) (fun t ht=>by obtain ⟨a,b,c,d,rfl,_,_⟩:=y6r ht; show 2≤900; omega) fun t ht ps hps=>by
    obtain ⟨a,b,c,d,rfl,_,h3⟩:=y6r ht
    have hps : ps=bt1 a b c d∨ps=bt1 c b a d:=by
      have : ps∈[bt1 a b c d,bt1 c b a d]:=hps
      simpa using this
    have h4 : ps.length≤900∧∀ p∈ps,p.1∈[a,b,c,d]∧p.2∈[a,b,c,d]:=by
      rcases hps with q | q
      · rw [q]; simp [bt1]
      · rw [q]; simp [bt1]
    exact ⟨h4.1,fun p hpp b hbb=>⟨hin _ (h3 _ (h4.2 p hpp).1) b hbb,hin _ (h3 _ (h4.2 p hpp).2) b hbb⟩⟩
  obtain ⟨vv,hvv⟩ : ∃ q,q=D.lst (bs.map vtD):=⟨_,rfl⟩
  rw [← hvv] at a1 a2 ⊢
  simp! only [z7C,p3]
  rw [y0d srB ttD (by omega) (fun t ht=>by
    have hl:=(pk_mem.mp ht).1
    have li : z7U [ttD t]=some ((t.map fun n=>((n : Nat) : Int)).map .int):=by
      show some (t.map nD)=_
      rw [z1V]
    have so : z5U [ttD t]=some ((z5p (t.map fun n=>((n : Nat) : Int))).map .int):=by
      unfold ttD
      rw [z1V]
      exact y0Y (by rw [List.length_map]; omega)
    have es : decide ((t.map fun n=>((n : Nat) : Int))=z5p (t.map fun n=>((n : Nat) : Int)))=srB t:=by
      unfold srB
      exact decide_eq_decide.mpr ⟨fun h=>h.symm,fun h=>h.symm⟩
    simp! only [li,so,eq_il,es]) fun t _ _=>by simp! only []]
  have er : ((pk m 3).filter srB)=ris m:=rfl
  rw [er]
  simp! only [z3e (z5Z (ris m)),a1]
  unfold barD
  cases hc : (ris m).any fun t=>fpB bs (Wl t) with
  | true=>
    obtain ⟨t,ht,_,et⟩:=z9J (w := "lasts") hc
    have nn : isN (brD bs "lasts" Wl t)=false:=rfl
    rw [if_pos rfl,et]
    obtain ⟨bb,hbb⟩ : ∃ q,q=brD bs "lasts" Wl t:=⟨_,rfl⟩
    have im : z9P (some bb)=some bb:=by rw [hbb]; exact y3V imm_br
    rw [← hbb] at nn ⊢
    simp_all! only [nn,im,z0d]
  | false=>
    have et:=am_none (w := "lasts") hc
    have nn : isN D.non=true:=rfl
    rw [if_neg Bool.false_ne_true,et]
    simp_all! only [nn,p4,a2,z0d]
theorem y2B (bs : List (Int × List Int)) (hl : bs.length≤1000000) : z4G [z9d bs]=some (.int (z7j bs)):=by
  refine z0K rfl ?_
  have hl' : (bs.map z3Q).length≤1000000:=by rw [List.length_map]; exact hl
  have c : z2t (z5X z6U (d2 ixD (z0f 1) (dC (.int 0))) [some (z9d bs)]) (bs.map z3Q)=some ((bs.map (·.1)).map .int):=by
    rw [List.map_map]
    exact z7l (fun b : Int × List Int=>.int b.1) fun b _=>by simp! only [y2b]
  have hv : (bs.map (·.1)).sum=z7j bs:=rfl
  simp! only [z7w,z9X,z8d hl',c,y2q,hv,z0d]
theorem y4G (x : Int) (m : Nat) : z2l [.int x,.int (m : Int)]=some (.bl (decide (0≤x) && decide (x < (m : Int)))):=by
  refine z0K rfl ?_
  have c : chO leI ltI (some (.int 0)) (some (.int x)) (some (.int (m : Int)))=some (.bl (decide (0≤x) && decide (x < (m : Int)))):=y6o ea_le ea_lt
  simp_all! only [z5o,c,z0d]
noncomputable def tk (m : Nat) : List Int->List Int->Bool
  | _,[]=>true
  | p,x :: r=>((decide (0≤x) && decide (x < (m : Int))) && !p.contains x) && tk m (p ++ [x]) r
theorem y3P {m : Nat} : ∀ {o p : List Int},(∀ x∈o,0≤x∧x < (m : Int))->o.Nodup->(∀ x∈o,x ∉ p)->tk m p o=true
  | [],_,_,_,_=>rfl
  | x :: r,p,h1,h2,h3=>by
    have hx:=h1 x List.mem_cons_self
    have nd:=List.nodup_cons.mp h2
    have hp:=h3 x List.mem_cons_self
    have ih:=y3P (m:=m) (o:=r) (p:=p ++ [x]) (fun y hy=>h1 y (List.mem_cons_of_mem _ hy)) nd.2 fun y hy z=>by
      rcases List.mem_append.mp z with z | z
      · exact h3 y (List.mem_cons_of_mem _ hy) z
      · rw [List.mem_singleton] at z; exact nd.1 (z ▸ hy)
    show (((decide (0≤x) && decide (x < (m : Int))) && !p.contains x) && tk m (p ++ [x]) r)=true
    have hc : p.contains x=false:=by rw [← Bool.not_eq_true,List.contains_iff_mem]; exact hp
    rw [ih,hc,decide_eq_true hx.1,decide_eq_true hx.2]
    rfl
noncomputable def z8U (m : Nat) (o : List Int) : Bool:=decide ((o.length : Int)=(m : Int)) && tk m [] o
theorem y0y {p : List Int} {x : Int} : inK (.int x) (z8i p)=some (p.contains x):=by
  show some (y0B (p.map Sum.inl) (.inl x))=_
  congr 1
  unfold y0B
  rw [List.any_map,List.contains_eq_any_beq]
  congr 1
  funext y
  show decide ((Sum.inl y : Key)=Sum.inl x)=(x == y)
  by_cases h : y=x
  · subst h; simp
  · have h1 : decide ((Sum.inl y : Key)=Sum.inl x)=false:=decide_eq_false fun z=>h (by cases z; rfl)
    have h2 : (x == y)=false:=by rw [beq_eq_false_iff_ne]; exact fun z=>h z.symm
    rw [h1,h2]
theorem z7F {i : Nat} {b : SS->Option Out} {m : Nat} {d : D} (J : List Int->SS->Prop) : ∀ {o p : List Int} {s : SS},p.length + o.length≤1000000->J p s →
    (∀ p x s,p.length≤1000000->J p s->hol (b (s.set i (some (.sh (.int x))))) fun r=>if (((decide (0≤x) && decide (x < (m : Int))) && !p.contains x))=true then ∃ s',r = .nx s'∧J (p ++ [x]) s' else r = .rt d) →
    hol (z4B i b (o.map .int) s) fun r=>if tk m p o=true then ∃ s' p',r = .nx s'∧J p' s' else r = .rt d
  | [],p,s,_,h0,_=>⟨_,rfl,(if_pos rfl).mpr ⟨s,p,rfl,h0⟩⟩
  | x :: r,p,s,hn,h0,hs=>by
    have hn : p.length + (r.length + 1)≤1000000:=hn
    obtain ⟨o,e,q⟩:=hs p x s (by omega) h0
    rw [List.map_cons]
    unfold z4B
    rw [e]
    show hol _ fun q=>if (((decide (0≤x) && decide (x < (m : Int))) && !p.contains x) && tk m (p ++ [x]) r)=true then _ else _
    cases hc : ((decide (0≤x) && decide (x < (m : Int))) && !p.contains x) with
    | true=>
      rw [hc,if_pos rfl] at q
      obtain ⟨s1,rfl,h1⟩:=q
      rw [Bool.true_and]
      exact z7F J (by simp; omega) h1 hs
    | false=>
      rw [hc,if_neg Bool.false_ne_true] at q
      subst q
      rw [Bool.false_and]
      exact ⟨_,rfl,(if_neg Bool.false_ne_true).mpr rfl⟩
theorem y1Z {m : Nat} {o : List Int} (hl : o.length≤1000) : z0G [y1J o,.int (m : Int)]=some (.bl (z8U m o)):=by
  refine z0K rfl ?_
  have t0 : D.dct [] []=z8i []:=rfl
  unfold z8U
  cases hd : decide ((o.length : Int)=(m : Int)) with
  | false=>
    simp_all! only [z1u,y1Q,hd,z0d]
  | true=>
    simp_all! only [z1u,y1Q,hd,t0,seq_ord]
    obtain ⟨r,e,q⟩:=z7F (i:=3) (m:=m) (d:=.bl false) (b:=(z0P (ifO (z8m (z4m (z1H (z0k z2l [(z0f 3),(z0f 1)]))) (y4p (z0f 3) (z0f 2))) (z2r (dC (.bl false))) z1s) (dput 2 (z0f 3) (dC (.bl true))))) (fun p s=>∃ o3,s=[some (.sh (y1J o)),some (.sh (.int (m : Int))),some (.ow (z8i p)),o3]) (o:=o) (p:=[]) (s:=[some (.sh (y1J o)),some (.sh (.int (m : Int))),some (.ow (z8i [])),none]) (by simp; omega) ⟨_,rfl⟩ (by
      rintro p x s hp ⟨o3,rfl⟩
      have th:=y4G x m
      cases h1 : (decide (0≤x) && decide (x < (m : Int))) with
      | false=>
        rw [h1] at th
        simp_all! only [th,z0d,Bool.false_eq_true,if_false]
      | true=>
        rw [h1] at th
        cases h2 : p.contains x with
        | true=>
          simp_all! only [th,y0y,h2,z0d,Bool.false_eq_true,if_false]
        | false=>
          have hx : x ∉ p:=fun z=>by rw [List.contains_iff_mem.mpr z] at h2; cases h2
          simp_all! only [th,y0y,h2,y6c hx hp,z0d,if_true]
          exact ⟨_,rfl,_,rfl⟩)
    rw [e]
    cases hk : tk m [] o with
    | true=>
      rw [hk,if_pos rfl] at q
      obtain ⟨s',p',rfl,o3,rfl⟩:=q
      simp_all! only [z0d]
    | false=>
      rw [hk,if_neg Bool.false_ne_true] at q
      subst q
      simp_all! only [z0d]
theorem y1q {m : Nat} {o : List Int} (h : o.Perm (y6m m)) : z8U m o=true:=by
  have hl : o.length=m:=by have:=h.length_eq; simpa [y6m] using this
  unfold z8U
  rw [hl,decide_eq_true rfl,y3P (fun x hx=>y4x (h.mem_iff.mp hx)) (h.nodup_iff.mpr y1G) fun _ _ z=>by cases z]
  rfl
theorem y1f {m : Nat} (hm : m≤1000) {bs : List (Int × List Int)} (hl : bs.length≤1000000) (g : ∀ b∈bs,b.2.length≤1000∧z8U m b.2=true) : z5h [z9d bs,.int (m : Int)]=some (if z7j bs % 2=0 then .exc 2 else .val .non):=by
  have vo:=y2B bs hl
  have dm2 : z5x (.int (z7j bs)) (.int 2)=some (.int (z7j bs % 2)):=z4a (by omega)
  have loop : hol (z4B 2 (ifO (z4m (z1H (z0k z0G [(d2 ixD (z0f 2) (dC (.int 1))),(z0f 1)]))) (z5r 1 (dC (.str "the order of a ballot does not tell each thing once and nothing else"))) z1s) (bs.map z3Q) [some (.sh (z9d bs)),some (.sh (.int (m : Int))),none]) fun o=>∃ s,o = .nx s∧∃ o2,s=[some (.sh (z9d bs)),some (.sh (.int (m : Int))),o2]:=by
    refine z2p (fun pre s=>∃ o2,s=[some (.sh (z9d bs)),some (.sh (.int (m : Int))),o2]) ⟨_,rfl⟩ ?_ fun s z=>⟨s,rfl,z⟩
    rintro pre b post e s ⟨o2,rfl⟩
    have hb:=g b (by rw [e]; simp)
    have t:=y1Z (m:=m) hb.1
    rw [hb.2] at t
    simp_all! only [y3p,t,z0d]
    exact ⟨_,rfl⟩
  by_cases hz : z7j bs % 2=0
  · rw [if_pos hz]
    refine runX_ex rfl ?_
    have d0 : decide (z7j bs % 2=0)=true:=decide_eq_true hz
    simp! only [z7X,z9X]
    refine z0B loop ?_
    rintro s ⟨o2,rfl⟩
    simp! only [vo,dm2,d0,z0d]
    exact ⟨_,rfl⟩
  · rw [if_neg hz]
    refine runX_nx rfl ?_
    have d0 : decide (z7j bs % 2=0)=false:=decide_eq_false hz
    simp! only [z7X,z9X]
    refine z0B loop ?_
    rintro s ⟨o2,rfl⟩
    simp! only [vo,dm2,d0,z0d]
    exact ⟨_,rfl⟩
noncomputable abbrev Bl:=Int × List Nat
noncomputable def iO (o : List Nat) : List Int:=o.map fun n=>((n : Nat) : Int)
noncomputable def tb (b : Bl) : Int × List Int:=(b.1,iO b.2)
noncomputable def blD (vs : List Bl) : D:=z9d (vs.map tb)
theorem y6J {o : List Nat} : y1J (iO o)=ttD o:=by
  show D.tup ((iO o).map .int)=D.tup (o.map nD)
  rw [z1V]
  rfl
theorem y2Y {o : List Nat} {m : Nat} (h : o.Perm (List.range m)) : (iO o).Perm (y6m m):=h.map _
theorem z8j {v : Int} {o : List Nat} : D.tup [.int v,ttD o]=z3Q (tb (v,o)):=by
  show _=D.tup [.int v,y1J (iO o)]
  rw [y6J]
theorem vt_bal {b : Int × List Nat} : vtD b=z3Q (tb b):=z8j
theorem vt_vot {bs : List (Int × List Nat)} : D.lst (bs.map vtD)=z9d (bs.map tb):=by
  unfold z9d
  rw [List.map_map]
  refine congrArg D.lst (List.map_congr_left fun b _=>vt_bal)
noncomputable def Brd (bs : List (Int × List Nat)) (m : Nat) : Prop:=∀ l : List Nat,l.Perm (List.range m)->(∀ b∈bs,Md b.2 l)->False
noncomputable def sumB (bs : List (Int × List Nat)) : Int:=(bs.map (·.1)).sum
theorem y6W {bs : List (Int × List Nat)} : z7j (bs.map tb)=sumB bs:=by
  unfold z7j sumB
  rw [List.map_map]
  rfl
theorem y0T {bs : List (Int × List Nat)} (hb : bs.length≤900) {m : Nat} (hm : m≤8) (hp : ∀ b∈bs,b.2.Perm (List.range m)) : z5h [.lst (bs.map vtD),.int (m : Int)]=some (if sumB bs % 2=0 then .exc 2 else .val .non):=by
  rw [vt_vot,y1f (by omega) (by rw [List.length_map]; omega) fun c hc=>by
    obtain ⟨b,hbb,rfl⟩:=List.mem_map.mp hc
    refine ⟨?_,y1q (y2Y (hp b hbb))⟩
    show (iO b.2).length≤1000
    unfold iO
    rw [List.length_map,z1n (hp b hbb)]
    omega,y6W]
theorem y1x {bs : List (Int × List Nat)} (h1 : 0 < bs.length) (hb : bs.length≤900) {m : Nat} (h0 : 0 < m) (hm : m≤8) (hp : ∀ b∈bs,b.2.Perm (List.range m)) (ho : sumB bs % 2≠0) (hB : Brd bs m) : z2u [.lst (bs.map vtD),.int (m : Int)]=some (.val (barD bs m)):=by
  refine runX_rt rfl ?_
  have ak:=y0T hb hm hp
  rw [if_neg ho] at ak
  have be:=bar_eq hb hm hp
  obtain ⟨b0,rest,rfl⟩ : ∃ b0 rest,bs=b0 :: rest:=by
    cases bs with
    | nil=>simp at h1
    | cons b r=>exact ⟨b,r,rfl⟩
  have hp0:=hp b0 List.mem_cons_self
  have ml:=z1n hp0
  obtain ⟨x,r,exr⟩ : ∃ x r,b0.2=x :: r:=by
    cases h : b0.2 with
    | nil=>rw [h] at ml; simp at ml; omega
    | cons x r=>exact ⟨x,r,rfl⟩
  have rl : r.length≤7:=by rw [exr] at ml; simp at ml; omega
  have ndx : (x :: r).Nodup:=by rw [← exr]; exact z4w hp0
  have i0 : ixD (.lst ((b0 :: rest).map vtD)) (.int 0)=some (vtD b0):=z2z (k:=0) rfl
  have i1 : ixD (vtD b0) (.int 1)=some (ttD b0.2):=z0u (j:=1) rfl
  have ib : ∀ b : Int × List Nat,ixD (vtD b) (.int 1)=some (ttD b.2):=fun b=>z0u (j:=1) rfl
  have ct : cut3 (some (.lst ((b0 :: rest).map vtD))) (some (some 1)) (some none)=some (rest.map vtD):=by
    show some (z4Q ((b0 :: rest).map vtD) (some ((1 : Nat) : Int)) none)=_
    rw [z3G]
    rfl
  have lf:=z6i (x:=x) rl
  rw [← exr] at lf
  obtain ⟨vv,hvv⟩ : ∃ q,q=D.lst ((b0 :: rest).map vtD):=⟨_,rfl⟩
  rw [← hvv] at ak be i0 ct ⊢
  simp! only [z4C,ak,i0,i1,lf,ct]
  have lpm : ∀ l∈lnF x r,l.Perm (List.range m):=fun l hl=>(y5C ndx hl).1.trans (by rw [← exr]; exact hp0)
  have len0 : (lnF x r).length≤128:=by
    unfold lnF
    rw [y0F]
    have : 2 ^ r.length≤2 ^ 7:=Nat.pow_le_pow_right (by omega) rl
    simpa using this
  refine z0B (I:=fun s=>∃ (L : List (List Nat)) (o3 : Option SD),s=[some (.sh vv),some (.sh (.int (m : Int))),some (.sh (.lst (L.map thD))),o3]∧∀ l∈L,l∈lnF x r∧∀ b∈rest,liB b.2 l=true) ?_ ?_
  · refine z2p (enc:=vtD) (fun pre s=>∃ (L : List (List Nat)) (o3 : Option SD),s=[some (.sh vv),some (.sh (.int (m : Int))),some (.sh (.lst (L.map thD))),o3]∧L.length≤128∧∀ l∈L,l∈lnF x r∧∀ b∈pre,liB b.2 l=true) ⟨lnF x r,none,rfl,len0,fun l hl=>⟨hl,fun b hb=>nomatch hb⟩⟩ ?_ fun s ⟨L,o3,z,_,y⟩=>⟨s,rfl,L,o3,z,y⟩
    rintro pre b post e s ⟨L,o3,rfl,hLl,hL⟩
    have hpb:=hp b (List.mem_cons_of_mem _ (by rw [e]; simp))
    simp! only []
    rw [y0d (enc:=thD) (fun l=>liB b.2 l) thD (by omega) (fun l hl=>by
      have lp:=lpm l (hL l hl).1
      simp! only [ib,y3Z (a:=b.2) (l:=l) (by rw [z1n hpb]; omega) fun y hy=>lp.mem_iff.mpr (hpb.mem_iff.mp hy)]) fun l _ _=>by simp! only []]
    simp! only [z0d]
    refine ⟨L.filter fun l=>liB b.2 l,_,rfl,Nat.le_trans (List.length_filter_le _ _) hLl,fun l hl=>?_⟩
    obtain ⟨q1,q2⟩:=List.mem_filter.mp hl
    refine ⟨(hL l q1).1,fun c hc=>?_⟩
    rcases List.mem_append.mp hc with w | w
    · exact (hL l q1).2 c w
    · rw [List.mem_singleton.mp w]; exact q2
  · rintro s ⟨L,o3,rfl,hL⟩
    have eL : L=[]:=by
      cases L with
      | nil=>rfl
      | cons l L'=>
        obtain ⟨q1,q2⟩:=hL l List.mem_cons_self
        refine (hB l (lpm l q1) fun b hb=>?_).elim
        rcases List.mem_cons.mp hb with w | w
        · rw [w,exr]
          exact (y5C ndx q1).2
        · have hpb:=hp b (List.mem_cons_of_mem _ w)
          exact fun {x y z} hx hy hz a1 a2 a3 a4=>li_md (z4w hpb) (fun y hy=>(lpm l q1).mem_iff.mpr (hpb.mem_iff.mp hy)) (q2 b w) hx hy hz a1 a2 a3 a4
    subst eL
    simp_all! only [List.isEmpty_nil,be,z0d]
theorem y4w {np nl : Nat} {b : SS->Option Out} {ds : List D} {Q : XO->Prop} (hl : ds.length=np) (h : hol (b (ds.map (fun d=>some (.sh d)) ++ List.replicate nl none)) fun o=>∃ d,o = .rt d∧Q (.val d)) : hol (z9f np nl b ds) Q:=by
  obtain ⟨o,e,d,rfl,q⟩:=h
  refine ⟨.val d,?_,q⟩
  unfold z9f
  rw [if_pos hl,e]
theorem y3r {bs : List (Int × List Nat)} (h1 : 0 < bs.length) (hb : bs.length≤900) {m : Nat} (h0 : 0 < m) (hm : m≤8) (hp : ∀ b∈bs,b.2.Perm (List.range m)) (ho : sumB bs % 2≠0) {l : List Nat} (hl : l.Perm (List.range m)) (hf : ∀ b∈bs,liB b.2 l=true) :
    ∃ l0 : List Nat,z2u [.lst (bs.map vtD),.int (m : Int)]=some (.val (.tup [.str "line",thD l0]))∧l0.Perm (List.range m)∧∀ b∈bs,liB b.2 l0=true:=by
  suffices h : hol (z2u [.lst (bs.map vtD),.int (m : Int)]) fun o=>∃ l0 : List Nat,o = .val (.tup [.str "line",thD l0])∧l0.Perm (List.range m)∧∀ b∈bs,liB b.2 l0=true by
    obtain ⟨_,e,l0,rfl,q⟩:=h
    exact ⟨l0,e,q⟩
  refine y4w rfl ?_
  have ak:=y0T hb hm hp
  rw [if_neg ho] at ak
  obtain ⟨b0,rest,rfl⟩ : ∃ b0 rest,bs=b0 :: rest:=by
    cases bs with
    | nil=>simp at h1
    | cons b r=>exact ⟨b,r,rfl⟩
  have hp0:=hp b0 List.mem_cons_self
  have ml:=z1n hp0
  obtain ⟨x,r,exr⟩ : ∃ x r,b0.2=x :: r:=by
    cases h : b0.2 with
    | nil=>rw [h] at ml; simp at ml; omega
    | cons x r=>exact ⟨x,r,rfl⟩
  have rl : r.length≤7:=by rw [exr] at ml; simp at ml; omega
  have ndx : (x :: r).Nodup:=by rw [← exr]; exact z4w hp0
  have pl : (x :: r).Perm l:=by rw [← exr]; exact hp0.trans hl.symm
  have lhas : l∈lnF x r:=ln_has pl (by
    rw [← y5t ndx fun y hy=>pl.mem_iff.mp hy,← exr]
    exact hf b0 List.mem_cons_self)
  have i0 : ixD (.lst ((b0 :: rest).map vtD)) (.int 0)=some (vtD b0):=z2z (k:=0) rfl
  have i1 : ixD (vtD b0) (.int 1)=some (ttD b0.2):=z0u (j:=1) rfl
  have ib : ∀ b : Int × List Nat,ixD (vtD b) (.int 1)=some (ttD b.2):=fun b=>z0u (j:=1) rfl
  have ct : cut3 (some (.lst ((b0 :: rest).map vtD))) (some (some 1)) (some none)=some (rest.map vtD):=by
    show some (z4Q ((b0 :: rest).map vtD) (some ((1 : Nat) : Int)) none)=_
    rw [z3G]
    rfl
  have lf:=z6i (x:=x) rl
  rw [← exr] at lf
  obtain ⟨vv,hvv⟩ : ∃ q,q=D.lst ((b0 :: rest).map vtD):=⟨_,rfl⟩
  rw [← hvv] at ak i0 ct ⊢
  simp! only [z4C,ak,i0,i1,lf,ct]
  have lpm : ∀ l∈lnF x r,l.Perm (List.range m):=fun l hl=>(y5C ndx hl).1.trans (by rw [← exr]; exact hp0)
  have len0 : (lnF x r).length≤128:=by
    unfold lnF
    rw [y0F]
    have : 2 ^ r.length≤2 ^ 7:=Nat.pow_le_pow_right (by omega) rl
    simpa using this
  refine z0B (I:=fun s=>∃ (L : List (List Nat)) (o3 : Option SD),s=[some (.sh vv),some (.sh (.int (m : Int))),some (.sh (.lst (L.map thD))),o3]∧(∀ l∈L,l∈lnF x r∧∀ b∈rest,liB b.2 l=true)∧l∈L) ?_ ?_
  · refine z2p (enc:=vtD) (fun pre s=>∃ (L : List (List Nat)) (o3 : Option SD),s=[some (.sh vv),some (.sh (.int (m : Int))),some (.sh (.lst (L.map thD))),o3]∧L.length≤128∧(∀ l∈L,l∈lnF x r∧∀ b∈pre,liB b.2 l=true)∧l∈L) ⟨lnF x r,none,rfl,len0,fun l hl=>⟨hl,fun b hb=>nomatch hb⟩,lhas⟩ ?_ fun s ⟨L,o3,z,_,y⟩=>⟨s,rfl,L,o3,z,y⟩
    rintro pre b post e s ⟨L,o3,rfl,hLl,hL,hlL⟩
    have hbm : b∈b0 :: rest:=List.mem_cons_of_mem _ (by rw [e]; simp)
    have hpb:=hp b hbm
    simp! only []
    rw [y0d (enc:=thD) (fun l=>liB b.2 l) thD (by omega) (fun l hl=>by
      have lp:=lpm l (hL l hl).1
      simp! only [ib,y3Z (a:=b.2) (l:=l) (by rw [z1n hpb]; omega) fun y hy=>lp.mem_iff.mpr (hpb.mem_iff.mp hy)]) fun l _ _=>by simp! only []]
    simp! only [z0d]
    refine ⟨L.filter fun l=>liB b.2 l,_,rfl,Nat.le_trans (List.length_filter_le _ _) hLl,fun l hl=>?_,List.mem_filter.mpr ⟨hlL,hf b hbm⟩⟩
    obtain ⟨q1,q2⟩:=List.mem_filter.mp hl
    refine ⟨(hL l q1).1,fun c hc=>?_⟩
    rcases List.mem_append.mp hc with w | w
    · exact (hL l q1).2 c w
    · rw [List.mem_singleton.mp w]; exact q2
  · rintro s ⟨L,o3,rfl,hL,hlL⟩
    obtain ⟨l0,L',eL⟩ : ∃ l0 L',L=l0 :: L':=by
      cases L with
      | nil=>exact nomatch hlL
      | cons a b=>exact ⟨a,b,rfl⟩
    obtain ⟨q1,q2⟩:=hL l0 (by rw [eL]; simp)
    have ix : ixD (.lst (L.map thD)) (.int 0)=some (thD l0):=z2z (k:=0) (by rw [eL]; rfl)
    have ix2 : atI (L.map thD) 0=some (thD l0):=ix
    have ne : (L.map thD).isEmpty=false:=by rw [eL]; rfl
    simp_all! only [ne,ix,ix2,z0d]
    refine ⟨_,rfl,l0,rfl,lpm l0 q1,fun b hb=>?_⟩
    rcases List.mem_cons.mp hb with w | w
    · rw [w,exr]
      obtain ⟨g1,g2⟩:=y5C ndx q1
      exact md_li ndx g1.symm g2
    · exact q2 b w
theorem iO_len {o : List Nat} : (iO o).length=o.length:=by simp [iO]
theorem y1M {bs : List (Int × List Nat)} (hb : bs.length≤900) {m : Nat} (h0 : 0 < m) (hm : m≤8) (hp : ∀ b∈bs,b.2.Perm (List.range m)) {l : List Nat} (hl : l.Perm (List.range m)) (hf : ∀ b∈bs,liB b.2 l=true) : z1b [.lst (bs.map vtD),.int (m : Int),thD l]=some (.bl true):=by
  refine z0K rfl ?_
  have ll:=z1n hl
  have il : isF "list" (thD l)=true:=rfl
  have nm : neD (.int (m : Int)) (.int (m : Int))=some (.bl false):=z5T z2J (by omega)
  have lt : z3j [thD l]=some (.int (m : Int)):=by rw [z5s,ll]
  have so : z5U [thD l]=some ((List.range m).map nD):=by
    have e : thD l = .lst ((iO l).map .int):=by unfold thD; rw [z1V]; rfl
    rw [e,y4v (by rw [iO_len]; omega)]
    have : z5p (iO l)=y6m m:=by
      refine (z9Y (y2Y hl).symm ?_).symm
      unfold y6m
      rw [List.pairwise_map]
      exact List.pairwise_lt_range.imp fun h=>by omega
    rw [this,z1V]
    rfl
  have sm:=y5R (ds:=(List.range m).map nD) (by simp; omega)
  have rn : y4O (some (.int (m : Int)))=some (z4d 0 m):=z3a (by omega)
  have nl : neD (.lst ((List.range m).map nD)) (.lst ((List.range m).map nD))=some (.bl false):=z5T (okN_th (List.range m)) (by omega)
  have ib : ∀ b : Int × List Nat,ixD (vtD b) (.int 1)=some (ttD b.2):=fun b=>z0u (j:=1) rfl
  obtain ⟨tl,htl⟩ : ∃ q,q=thD l:=⟨_,rfl⟩
  have sq : y1r tl=some (l.map nD):=by rw [htl]; rfl
  have lf : ∀ b∈bs,z1f [ttD b.2,tl]=some (.bl true):=fun b hbm=>by
    have h:=hp b hbm
    have hin : ∀ x∈b.2,x∈l:=fun x hx=>hl.mem_iff.mpr (h.mem_iff.mp hx)
    rw [htl,z7d hin (fun z=>by have:=z1n h; rw [z] at this; simp at this; omega) (by have:=z1n h; omega),← y5t (z4w h) hin,hf b hbm]
  rw [← htl] at il lt so ⊢
  simp_all! only [z1S,il,lt,nm,sq]
  refine z0B (I:=fun s=>∃ o3,s=[some (.sh (.lst (bs.map vtD))),some (.sh (.int (m : Int))),some (.sh tl),o3]) ?_ ?_
  · refine z2p (enc:=nD) (fun _ s=>∃ o3,s=[some (.sh (.lst (bs.map vtD))),some (.sh (.int (m : Int))),some (.sh tl),o3]) ⟨_,rfl⟩ ?_ fun s z=>⟨s,rfl,z⟩
    rintro pre k post _ s ⟨o3,rfl⟩
    simp_all! only [nD,y4H,z0d]
    exact ⟨_,rfl⟩
  · rintro s ⟨o3,rfl⟩
    simp_all! only [so,rn,z9V,sm,nl]
    rw [y0d (enc:=vtD) (xs:=bs) (fun _=>false) vtD (by omega) (fun b hbm=>by simp_all! only [ib,lf b hbm]) fun b _ h=>by cases h]
    have e : bs.filter (fun _=>false)=[]:=List.filter_eq_nil_iff.mpr fun _ _=>Bool.false_ne_true
    rw [e]
    simp_all! only [List.map_nil,List.length_nil,z0d]
    rfl
noncomputable def Bard (m : Nat) (os : List (List Nat)) : Prop:=
  (∃ a b c,[a,b,c].Nodup∧(∀ x∈[a,b,c],x < m)∧∃ A∈os,∃ B∈os,∃ C∈os,(ixO A b < ixO A a∧ixO A c < ixO A a)∧(ixO B a < ixO B b∧ixO B c < ixO B b)∧(ixO C a < ixO C c∧ixO C b < ixO C c)) ∨
  (∃ a b c d,[a,b,c,d].Nodup∧(∀ x∈[a,b,c,d],x < m)∧∃ P∈os,∃ Q∈os,(ixO P a < ixO P b∧ixO P b < ixO P c∧ixO P d < ixO P b)∧(ixO Q c < ixO Q b∧ixO Q b < ixO Q a∧ixO Q d < ixO Q b))
theorem y5G {α : Type} {L : List α} {k : Nat} {d : α} (h : k < L.length) : L.getD k d∈L:=by
  rw [List.getD_eq_getElem?_getD,List.getElem?_eq_getElem h]
  exact List.getElem_mem _
theorem y2I {bs : List (Int × List Nat)} {ps : List (Nat × Nat)} {o : List Nat} (ho : o∈bs.map (·.2)) (h : ∀ p∈ps,ixO o p.1 < ixO o p.2) : (!(fp1 bs ps).isEmpty)=true:=by
  obtain ⟨b,hb,rfl⟩:=List.mem_map.mp ho
  obtain ⟨k,hk,ek⟩:=List.getElem_of_mem hb
  have : k∈fp1 bs ps:=fp1_mem.mpr ⟨hk,by
    have e : orB bs k=b.2:=by unfold orB; rw [List.getD_eq_getElem?_getD,List.getElem?_eq_getElem hk,Option.getD_some,ek]
    rw [e]
    exact List.all_eq_true.mpr fun p hp=>decide_eq_true (h p hp)⟩
  cases hf : fp1 bs ps with
  | nil=>rw [hf] at this; exact nomatch this
  | cons x r=>rfl
theorem sort3 (a b c : Nat) : ∃ u : List Nat,u.Perm [a,b,c]∧srB u=true:=by
  obtain ⟨w,hw⟩ : ∃ w : List Int,w=[a,b,c].map fun n=>((n : Nat) : Int):=⟨_,rfl⟩
  have hp : (z5p w).Perm w:=z6e w
  have pos : ∀ x∈z5p w,((x.toNat : Nat) : Int)=x:=fun x hx=>by
    have:=hp.mem_iff.mp hx
    rw [hw] at this
    obtain ⟨n,_,rfl⟩:=List.mem_map.mp this
    omega
  have e1 : ((z5p w).map Int.toNat).map (fun n=>((n : Nat) : Int))=z5p w:=by
    rw [List.map_map]
    refine Eq.trans (List.map_congr_left fun x hx=>pos x hx) (List.map_id _)
  refine ⟨(z5p w).map Int.toNat,?_,?_⟩
  · have h2:=hp.map Int.toNat
    have e2 : w.map Int.toNat=[a,b,c]:=by rw [hw]; rfl
    rw [e2] at h2
    exact h2
  · unfold srB
    rw [e1]
    exact decide_eq_true (z9Y (.refl _) (z4h w)).symm
theorem ex_bar {bs : List (Int × List Nat)} {m : Nat} (h : Bard m (bs.map (·.2))) : ((ris m).any fun t=>fpB bs (Wl t))=true∨((pk m 4).any fun t=>fpB bs (Wt t))=true:=by
  rcases h with ⟨a,b,c,nd,lt,A,hA,B,hB,C,hC,q1,q2,q3⟩ | ⟨a,b,c,d,nd,lt,P,hP,Q,hQ,q1,q2⟩
  · refine .inl ?_
    obtain ⟨u,up,us⟩:=sort3 a b c
    have ut : ∀ x∈u,x=a∨x=b∨x=c:=fun x hx=>by simpa using up.mem_iff.mp hx
    refine List.any_eq_true.mpr ⟨u,List.mem_filter.mpr ⟨pk_mem.mpr ⟨up.length_eq,up.nodup_iff.mpr nd,fun x hx=>lt x (up.mem_iff.mp hx)⟩,us⟩,?_⟩
    refine List.all_eq_true.mpr fun ps hps=>?_
    obtain ⟨t,ht,rfl⟩:=List.mem_map.mp hps
    have key : ∃ o∈bs.map (·.2),∀ x∈u,x≠t->ixO o x < ixO o t:=by
      rcases ut t ht with rfl | rfl | rfl
      · refine ⟨A,hA,fun x hx ne=>?_⟩
        rcases ut x hx with rfl | rfl | rfl
        · exact absurd rfl ne
        · exact q1.1
        · exact q1.2
      · refine ⟨B,hB,fun x hx ne=>?_⟩
        rcases ut x hx with rfl | rfl | rfl
        · exact q2.1
        · exact absurd rfl ne
        · exact q2.2
      · refine ⟨C,hC,fun x hx ne=>?_⟩
        rcases ut x hx with rfl | rfl | rfl
        · exact q3.1
        · exact q3.2
        · exact absurd rfl ne
    obtain ⟨o,ho,k⟩:=key
    refine y2I ho fun p hp=>?_
    obtain ⟨x,hx,rfl⟩:=List.mem_map.mp hp
    obtain ⟨h1,h2⟩:=List.mem_filter.mp hx
    exact k x h1 (by simpa using h2)
  · refine .inr (List.any_eq_true.mpr ⟨[a,b,c,d],pk_mem.mpr ⟨rfl,nd,lt⟩,?_⟩)
    show ((!(fp1 bs (bt1 a b c d)).isEmpty) && ((!(fp1 bs (bt1 c b a d)).isEmpty) && true))=true
    rw [y2I hP (ps:=bt1 a b c d) fun p hp=>?_,y2I hQ (ps:=bt1 c b a d) fun p hp=>?_]
    · rfl
    · simp only [bt1,List.mem_cons,List.not_mem_nil,or_false] at hp
      rcases hp with rfl | rfl | rfl
      · exact q2.1
      · exact q2.2.1
      · exact q2.2.2
    · simp only [bt1,List.mem_cons,List.not_mem_nil,or_false] at hp
      rcases hp with rfl | rfl | rfl
      · exact q1.1
      · exact q1.2.1
      · exact q1.2.2
theorem y4a {bs : List (Int × List Nat)} {ps : List (Nat × Nat)} (h : (!(fp1 bs ps).isEmpty)=true) : z3m bs ps < bs.length∧(ps.all fun p=>ahB (orB bs (z3m bs ps)) p.1 p.2)=true:=by
  refine fp1_mem.mp ?_
  unfold z3m
  cases hf : fp1 bs ps with
  | nil=>rw [hf] at h; cases h
  | cons x r=>exact List.mem_cons_self
theorem mx_of {th : List Nat} {n : Nat} (hne : th≠[]) (h : ∀ x∈th,x < n) : ∃ mx : Nat,y0c [ttD th]=some (.int (mx : Int))∧mx < n:=by
  have hne' : (th.map fun k=>((k : Nat) : Int))≠[]:=by simpa using hne
  have hp:=List.length_pos_iff.mpr hne'
  obtain ⟨ns,hns⟩ : ∃ ns : List Int,ns=th.map fun k=>((k : Nat) : Int):=⟨_,rfl⟩
  have lt : ∀ k,z8f ns k≤k:=fun k=>by
    induction k with
    | zero=>exact Nat.le_refl _
    | succ k ih=>
      unfold z8f
      split
      · exact Nat.le_refl _
      · omega
  have hl:=lt (ns.length - 1)
  have hb : z8f ns (ns.length - 1) < ns.length:=by rw [← hns] at hp; omega
  have hm : mxI ns∈ns:=by
    unfold mxI
    rw [List.getD_eq_getElem?_getD,List.getElem?_eq_getElem hb]
    exact List.getElem_mem hb
  have e : y0c [ttD th]=some (.int (mxI ns)):=by
    show ((z1h (th.map nD)).bind fun ns=>if ns.isEmpty=true then none else some (D.int (mxI ns)))=_
    rw [z1V,z3f,Option.bind_some,← hns]
    refine if_neg fun z=>hne' ?_
    rw [← hns]
    exact List.isEmpty_iff.mp z
  rw [hns] at hm
  obtain ⟨x,hx,ex⟩:=List.mem_map.mp hm
  refine ⟨x,?_,h x hx⟩
  rw [e,hns,← ex]
theorem y0k {p : List Nat} (hl : p.length≤1000) (nd : p.Nodup) : y3t (ttD p)=some (.int (p.length : Int)):=by
  have nd2 : (p.map fun n=>((n : Nat) : Int)).Nodup:=by
    rw [List.Nodup,List.pairwise_map]
    exact nd.imp fun h z=>h (by omega)
  have e2 : (ddI (p.map fun n=>((n : Nat) : Int))).length=p.length:=by
    have:=((List.perm_ext_iff_of_nodup (y4R (p.map fun n=>((n : Nat) : Int))) nd2).mpr fun x=>dd_mem).length_eq
    rw [this,List.length_map]
  show ((z1h (p.map nD)).bind fun ns=>if ns.length≤1000 then some (D.int ((ddI ns).length : Int)) else none)=_
  rw [z1V,z3f,Option.bind_some,if_pos (by rw [List.length_map]; omega),e2]
noncomputable def ctD : D:=.dct [.inr "lasts",.inr "turned"] [.tup [.int 3,.int 3],.tup [.int 4,.int 2]]
theorem mk_ct : mkD2 (.str "lasts") (.tup [.int 3,.int 3]) (.str "turned") (.tup [.int 4,.int 2])=some ctD:=by
  show (if ("lasts" : Str) ≠ "turned" ∧ D.imm (.tup [.int 3,.int 3])=true∧D.imm (.tup [.int 4,.int 2])=true then some ctD else none)=some ctD
  exact if_pos ⟨by decide +kernel,rfl,rfl⟩
theorem y0i {bs : List (Int × List Nat)} {m : Nat} {w : Str} {th pl : List Nat} {e : Bool} (hin : inK (.str w) ctD=some true) (hget : getK ctD (.str w)=some (.tup [.int (th.length : Int),.int (pl.length : Int)]))
    (ht : th≠[]) (hp : pl≠[]) (htl : th.length≤8) (hpl : pl.length≤8) (hb : bs.length≤900) (ndt : th.Nodup) (ndp : pl.Nodup) (lt : ∀ x∈th,x < m) (lp : ∀ k∈pl,k < bs.length)
    (eq : eqD (.str w) (.str "turned")=some (.bl e)) (hs : e=true∨srB th=true) (hbar : z1B [.lst (bs.map vtD),z6E w th pl]=some (.bl true)) :
    z0O [.lst (bs.map vtD),.int (m : Int),z6E w th pl]=some (.bl true):=by
  refine z0K rfl ?_
  have i0 : ixD (z6E w th pl) (.int 0)=some (.str w):=z0u (j:=0) rfl
  have i1 : ixD (z6E w th pl) (.int 1)=some (ttD th):=z0u (j:=1) rfl
  have i2 : ixD (z6E w th pl) (.int 2)=some (ttD pl):=z0u (j:=2) rfl
  have it : ∀ o : List Nat,isF "tuple" (ttD o)=true:=fun _=>rfl
  have ne1 : ∀ a b : Nat,neD (.tup [.int (a : Int),.int (b : Int)]) (.tup [.int (a : Int),.int (b : Int)])=some (.bl false):=fun a b=>z5T (n:=1) (z9T fun d hd=>by
    simp only [List.mem_cons,List.not_mem_nil,or_false] at hd
    rcases hd with rfl | rfl
    · exact z2J
    · exact z2J) (by omega)
  have ne2 : ∀ a : Nat,neD (.int (a : Int)) (.int (a : Int))=some (.bl false):=fun a=>z5T z2J (by omega)
  have lt1 : ∀ o : List Nat,z3j [ttD o]=some (.int (o.length : Int)):=fun o=>by
    show some (D.int ((o.map nD).length : Int))=_
    rw [List.length_map]
  have lb : z3j [.lst (bs.map vtD)]=some (.int (bs.length : Int)):=len_map
  have ct : catT (ttD th) (ttD pl)=some (ttD (th ++ pl)):=by
    unfold ttD
    rw [List.map_append]
    exact if_pos (z2m (by simp; omega))
  obtain ⟨x,ex,hx⟩:=mx_of ht lt
  obtain ⟨y,ey,hy⟩:=mx_of hp lp
  have dx : decide ((m : Int)≤(x : Int))=false:=decide_eq_false (by omega)
  have dy : decide ((bs.length : Int)≤(y : Int))=false:=decide_eq_false (by omega)
  have wh : ∀ k : Nat,z1d [nD k]=some (.bl true):=fun k=>by
    refine z0K rfl ?_
    have a1 : isF "int" (nD k)=true:=rfl
    have a2 : isF "bool" (nD k)=false:=rfl
    simp_all! only [z2G,a1,a2,z0d]
  have l1:=y0k (show th.length≤1000 by omega) ndt
  have l2:=y0k (show pl.length≤1000 by omega) ndp
  obtain ⟨pp,hpp⟩ : ∃ q,q=z6E w th pl:=⟨_,rfl⟩
  obtain ⟨vv,hvv⟩ : ∃ q,q=D.lst (bs.map vtD):=⟨_,rfl⟩
  obtain ⟨cc,hcc⟩ : ∃ q,q=ctD:=⟨_,rfl⟩
  have mk:=mk_ct
  rw [← hcc] at hin hget mk
  rw [← hpp] at i0 i1 i2 hbar ⊢
  rw [← hvv] at lb hbar ⊢
  have dd : ∀ δ : DS,y0s (dC (.str "lasts")) (mkT (z0m [(dC (.int 3)),(dC (.int 3))])) (dC (.str "turned")) (mkT (z0m [(dC (.int 4)),(dC (.int 2))])) δ=some cc:=fun δ=>mk
  simp_all! only [z2i,i0,i1,i2,it,dd,hin,hget,lt1,ne1,ct,z3I]
  refine z0B (I:=fun s=>∃ o4,s=[some (.sh vv),some (.sh (.int (m : Int))),some (.sh pp),some (.ow cc),o4]) ?_ ?_
  · refine z2p (enc:=nD) (fun _ s=>∃ o4,s=[some (.sh vv),some (.sh (.int (m : Int))),some (.sh pp),some (.ow cc),o4]) ⟨_,rfl⟩ ?_ fun s z=>⟨s,rfl,z⟩
    rintro pre k post _ s ⟨o4,rfl⟩
    have wk:=wh k
    have dk : decide ((k : Int) < 0)=false:=decide_eq_false (by omega)
    simp only [nD] at wk
    simp_all! only [nD,wk,dk,z0d]
    exact ⟨_,rfl⟩
  · rintro s ⟨o4,rfl⟩
    simp_all! only [i0,i1,i2,ex,ey,dx,dy,lb,lt1,l1,l2,ne2,eq]
    cases e with
    | true=>simp_all! only [hbar,z0d]
    | false=>
      have hs:=hs.resolve_left Bool.false_ne_true
      have li : z7U [ttD th]=some ((th.map fun n=>((n : Nat) : Int)).map .int):=by
        show some (th.map nD)=_
        rw [z1V]
      have so : z5U [ttD th]=some ((z5p (th.map fun n=>((n : Nat) : Int))).map .int):=by
        unfold ttD
        rw [z1V]
        exact y0Y (by rw [List.length_map]; omega)
      have es : decide ((th.map fun n=>((n : Nat) : Int))=z5p (th.map fun n=>((n : Nat) : Int)))=true:=decide_eq_true (of_decide_eq_true hs).symm
      simp_all! only [li,so,eq_il,es,hbar,z0d]
theorem eqTT : eqD (.str "turned") (.str "turned")=some (.bl true):=y0K (by decide +kernel) (by decide +kernel) (by decide +kernel)
theorem eqLT : eqD (.str "lasts") (.str "turned")=some (.bl false):=y0K (by decide +kernel) (by decide +kernel) (by decide +kernel)
theorem y3a {bs : List (Int × List Nat)} (hb : bs.length≤900) {m : Nat} (hm : m≤8) (hp : ∀ b∈bs,b.2.Perm (List.range m)) (h : Bard m (bs.map (·.2))) : ∃ w th pl,barD bs m=z6E w th pl∧okN 0 (.str w)∧z0O [.lst (bs.map vtD),.int (m : Int),z6E w th pl]=some (.bl true):=by
  have ho : ∀ k < bs.length,(orB bs k).Perm (List.range m):=fun k hk=>by
    unfold orB
    exact hp _ (y5G hk)
  unfold barD
  cases hc : (ris m).any fun t=>fpB bs (Wl t) with
  | true=>
    obtain ⟨t,ht,hf,et⟩:=z9J (w := "lasts") hc
    obtain ⟨ht1,ht2⟩:=List.mem_filter.mp ht
    obtain ⟨tl,tnd,tlt⟩:=pk_mem.mp ht1
    rw [if_pos rfl,et]
    refine ⟨"lasts",t,(Wl t).map (z3m bs),rfl,⟨by decide +kernel,Nat.le_refl 0⟩,?_⟩
    have hpl : ∀ l∈t,z3m bs (plP t l) < bs.length∧((plP t l).all fun p=>ahB (orB bs (z3m bs (plP t l))) p.1 p.2)=true:=fun l hl=>y4a (List.all_eq_true.mp hf _ (List.mem_map.mpr ⟨l,hl,rfl⟩))
    have ew : (Wl t).map (z3m bs)=t.map fun l=>z3m bs (plP t l):=by unfold Wl; rw [List.map_map]; rfl
    have hk : ∀ k∈(Wl t).map (z3m bs),k < bs.length:=fun k hk=>by
      rw [ew] at hk
      obtain ⟨l,hl,rfl⟩:=List.mem_map.mp hk
      exact (hpl l hl).1
    have ndp : ((Wl t).map (z3m bs)).Nodup:=by
      rw [ew,List.Nodup,List.pairwise_map]
      refine List.Pairwise.imp_of_mem (fun {x y} hx hy hne z=>?_) tnd
      have h1:=List.all_eq_true.mp (hpl x hx).2 (y,x) (List.mem_map.mpr ⟨y,List.mem_filter.mpr ⟨hy,by simpa using fun q : y=x=>hne q.symm⟩,rfl⟩)
      have h2:=List.all_eq_true.mp (hpl y hy).2 (x,y) (List.mem_map.mpr ⟨x,List.mem_filter.mpr ⟨hx,by simpa using hne⟩,rfl⟩)
      have h1:=of_decide_eq_true h1
      have h2:=of_decide_eq_true h2
      rw [z] at h1
      have h1 : ixO (orB bs (z3m bs (plP t y))) y < ixO (orB bs (z3m bs (plP t y))) x:=h1
      have h2 : ixO (orB bs (z3m bs (plP t y))) x < ixO (orB bs (z3m bs (plP t y))) y:=h2
      omega
    have pl3 : ((Wl t).map (z3m bs)).length=3:=by rw [ew,List.length_map,tl]
    have hbar:=bl_eq (bs:=bs) (th:=t) (pl:=(Wl t).map (z3m bs)) pl3 tl hk (fun k hk'=>⟨by rw [z1n (ho k (hk k hk'))]; omega,fun x hx=>(ho k (hk k hk')).mem_iff.mpr (List.mem_range.mpr (tlt x hx))⟩) fun k hk'=>z4w (ho k (hk k hk'))
    have all : ((((Wl t).map (z3m bs)).zip (t.map (plP t))).all fun z=>z.2.all fun p=>ahB (orB bs z.1) p.1 p.2)=true:=by
      refine List.all_eq_true.mpr fun z hz=>?_
      rw [ew,List.zip_map'] at hz
      obtain ⟨l,hl,rfl⟩:=List.mem_map.mp hz
      exact (hpl l hl).2
    rw [all] at hbar
    refine y0i (e:=false) rfl ?_ (fun q=>by rw [q] at tl; simp at tl) (fun q=>by rw [q] at pl3; simp at pl3) (by omega) (by omega) hb tnd ndp tlt hk eqLT (.inr ht2) hbar
    rw [tl,pl3]
    rfl
  | false=>
    have hc2:=(ex_bar h).resolve_left (by rw [hc]; exact Bool.false_ne_true)
    obtain ⟨t,ht,hf,et⟩:=z9J (w := "turned") hc2
    obtain ⟨a,b,c,d,rfl,tnd,tlt⟩:=y6r ht
    rw [if_neg Bool.false_ne_true,et]
    have hf : ((!(fp1 bs (bt1 a b c d)).isEmpty) && ((!(fp1 bs (bt1 c b a d)).isEmpty) && true))=true:=hf
    rw [Bool.and_true,Bool.and_eq_true] at hf
    obtain ⟨p1,p2⟩:=y4a hf.1
    obtain ⟨q1,q2⟩:=y4a hf.2
    refine ⟨"turned",[a,b,c,d],[z3m bs (bt1 a b c d),z3m bs (bt1 c b a d)],rfl,⟨by decide +kernel,Nat.le_refl 0⟩,?_⟩
    have hin : ∀ k < bs.length,∀ x∈[a,b,c,d],x∈orB bs k:=fun k hk x hx=>(ho k hk).mem_iff.mpr (List.mem_range.mpr (tlt x hx))
    have hbar:=bt_eq (bs:=bs) (a:=a) (b:=b) (c:=c) (d:=d) ⟨p1,q1⟩ (fun x hx=>⟨hin _ p1 x hx,hin _ q1 x hx⟩) tnd
    have all : (([z3m bs (bt1 a b c d),z3m bs (bt1 c b a d)].zip [bt1 a b c d,bt1 c b a d]).all fun z=>z.2.all fun p=>ahB (orB bs z.1) p.1 p.2)=true:=by
      rw [List.zip_cons_cons,List.zip_cons_cons,List.zip_nil_right,List.all_cons,List.all_cons,List.all_nil,p2,q2]
      rfl
    rw [all] at hbar
    have ndp : [z3m bs (bt1 a b c d),z3m bs (bt1 c b a d)].Nodup:=by
      refine List.nodup_cons.mpr ⟨fun z=>?_,by simp⟩
      have z:=List.mem_singleton.mp z
      have h1:=of_decide_eq_true (List.all_eq_true.mp p2 (a,b) (by simp [bt1]))
      have h2:=of_decide_eq_true (List.all_eq_true.mp q2 (b,a) (by simp [bt1]))
      rw [z] at h1
      have h1 : ixO (orB bs (z3m bs (bt1 c b a d))) a < ixO (orB bs (z3m bs (bt1 c b a d))) b:=h1
      have h2 : ixO (orB bs (z3m bs (bt1 c b a d))) b < ixO (orB bs (z3m bs (bt1 c b a d))) a:=h2
      omega
    exact y0i (e:=true) rfl rfl (by simp) (by simp) (by simp) (by simp) hb tnd ndp tlt (fun k hk=>by
      simp only [List.mem_cons,List.not_mem_nil,or_false] at hk
      rcases hk with rfl | rfl
      · exact p1
      · exact q1) eqTT (.inl rfl) hbar
section nobar
variable {α : Type} (pos : α->Nat->Nat)
noncomputable def GoodL : List Nat->(Nat->Prop)->Prop
  | [],_=>True
  | x :: r,T=>(∀ o,∀ p∈r,∀ s,T s->¬(pos o p < pos o x∧pos o s < pos o x))∧GoodL r (fun s=>s=x∨T s)
variable {pos}
theorem GoodL.mono : ∀ {r : List Nat} {T T' : Nat->Prop},GoodL pos r T->(∀ s,T' s->T s)->GoodL pos r T'
  | [],_,_,_,_=>trivial
  | x :: r,T,T',h,hs=>⟨fun o p hp s hs'=>h.1 o p hp s (hs s hs'),GoodL.mono h.2 fun s z=>z.imp id (hs s)⟩
variable (pos)
structure Grow (A L R S : List Nat) : Prop where
  perm : (L ++ R ++ S).Perm A
  gl : GoodL pos L fun s=>s∈S∨s∈R
  gr : GoodL pos R fun s=>s∈S∨s∈L
  ends : L=[]∧R=[]∨∀ o,∀ s∈S,(∃ x,L.head? = some x∧pos o s < pos o x)∨∃ y,R.head? = some y∧pos o s < pos o y
  hl : ∀ x,L.head? = some x->∃ o,∀ s∈S,pos o s < pos o x
  hr : ∀ y,R.head? = some y->∃ o,∀ s∈S,pos o s < pos o y
noncomputable def WRs (A : List Nat) : Prop:=∀ a b c,a∈A->b∈A->c∈A->a≠b->a≠c->b≠c->∀ oa ob oc,pos oa b < pos oa a->pos oa c < pos oa a->pos ob a < pos ob b->pos ob c < pos ob b->pos oc a < pos oc c->pos oc b < pos oc c->False
noncomputable def NTs (A : List Nat) : Prop:=∀ a b c d,a∈A->b∈A->c∈A->d∈A->[a,b,c,d].Nodup->∀ P Q,pos P a < pos P b->pos P b < pos P c->pos P d < pos P b->pos Q c < pos Q b->pos Q b < pos Q a->pos Q d < pos Q b->False
noncomputable def OkL (L R S : List Nat) (u : Nat) : Prop:=∀ o,∀ p∈L,∀ s,(s∈S∧s≠u)∨s∈R->¬(pos o p < pos o u∧pos o s < pos o u)
variable {pos}
theorem Grow.swap {A L R S : List Nat} (h : Grow pos A L R S) : Grow pos A R L S:=
  ⟨(List.Perm.append_right S List.perm_append_comm).trans h.perm,h.gr,h.gl,h.ends.imp (fun z=>⟨z.2,z.1⟩) fun z o s hs=>(z o s hs).symm,h.hr,h.hl⟩
structure Base (pos : α->Nat->Nat) (A : List Nat) : Prop where
  nd : A.Nodup
  inj : ∀ o,∀ a∈A,∀ b∈A,pos o a=pos o b->a=b
  wr : WRs pos A
  nt : NTs pos A
theorem Grow.mem {A L R S : List Nat} (h : Grow pos A L R S) {a : Nat} (z : a∈L∨a∈R∨a∈S) : a∈A:=h.perm.mem_iff.mp (by rcases z with z | z | z <;> simp [z])
theorem Grow.ne {A L R S : List Nat} (h : Grow pos A L R S) (hA : A.Nodup) {a b : Nat} (z : (a∈L∧b∈R)∨(a∈L∧b∈S)∨(a∈R∧b∈S)) : a≠b:=by
  have nd:=h.perm.nodup_iff.mpr hA
  obtain ⟨n1,_,n3⟩:=List.nodup_append.mp nd
  obtain ⟨_,_,n4⟩:=List.nodup_append.mp n1
  rcases z with ⟨z,w⟩ | ⟨z,w⟩ | ⟨z,w⟩
  · exact n4 a z b w
  · exact n3 a (by simp [z]) b w
  · exact n3 a (by simp [z]) b w
theorem z5H {L : List Nat} {x : Nat} (h : L.head? = some x) : x∈L:=by
  cases L with
  | nil=>cases h
  | cons a r=>cases h; exact List.mem_cons_self
theorem notL {A L R S : List Nat} (B : Base pos A) (h : Grow pos A L R S) {u : Nat} (hu : u∈S) (hn : ¬ OkL pos L R S u) :
    ∃ x y o s,L.head? = some x∧R.head? = some y∧s∈S∧s≠u∧pos o x < pos o u∧pos o s < pos o u∧pos o u < pos o y:=by
  have : ∃ o,∃ p∈L,∃ s,((s∈S∧s≠u)∨s∈R)∧pos o p < pos o u∧pos o s < pos o u:=by
    refine Classical.byContradiction fun z=>hn fun o p hp s hs hh=>z ⟨o,p,hp,s,hs,hh⟩
  obtain ⟨o,p,hp,s,hs,h1,h2⟩:=this
  cases L with
  | nil=>cases hp
  | cons x Lt=>
    have gl:=h.gl
    have hxu : pos o x < pos o u:=by
      refine Classical.byContradiction fun hge=>?_
      have hne : pos o x≠pos o u:=fun e=>h.ne B.nd (.inr (.inl ⟨List.mem_cons_self,hu⟩)) (B.inj o x (h.mem (.inl List.mem_cons_self)) u (h.mem (.inr (.inr hu))) e)
      have hlt : pos o u < pos o x:=by omega
      rcases List.mem_cons.mp hp with e | hpt
      · rw [e] at h1; omega
      · exact gl.1 o p hpt s (hs.imp And.left id) ⟨by omega,by omega⟩
    rcases h.ends with ⟨z,_⟩ | z
    · cases z
    · rcases z o u hu with ⟨x',hx',q⟩ | ⟨y,hy,q⟩
      · cases hx'; omega
      · cases R with
        | nil=>cases hy
        | cons y' Rt=>
          have hy : y'=y:=by simpa using hy
          subst hy
          rcases hs with ⟨hsS,hsu⟩ | hsR
          · exact ⟨x,y',o,s,rfl,rfl,hsS,hsu,hxu,h2,q⟩
          · rcases List.mem_cons.mp hsR with e | hst
            · rw [e] at h2; omega
            · exact (h.gr.1 o s hst x (.inr List.mem_cons_self) ⟨by omega,by omega⟩).elim
theorem nod4 {a b c d : Nat} (h1 : a≠b) (h2 : a≠c) (h3 : a≠d) (h4 : b≠c) (h5 : b≠d) (h6 : c≠d) : [a,b,c,d].Nodup:=by simp [h1,h2,h3,h4,h5,h6]
theorem z9I {A L R S : List Nat} (B : Base pos A) (h : Grow pos A L R S) {u : Nat} (hu : u∈S) {ou : α} (hl : ∀ s∈S,s≠u->pos ou s < pos ou u) (n1 : ¬ OkL pos L R S u) (n2 : ¬ OkL pos R L S u) : False:=by
  obtain ⟨x,y,P,s',ex,ey,hs',ns',a1,a2,a3⟩:=notL B h hu n1
  obtain ⟨y2,x2,Q,s,ey2,ex2,hs,ns,b1,b2,b3⟩:=notL B h.swap hu n2
  rw [ex] at ex2; cases ex2
  rw [ey] at ey2; cases ey2
  have hx:=z5H ex
  have hy:=z5H ey
  have mx:=h.mem (.inl hx)
  have my:=h.mem (.inr (.inl hy))
  have mu:=h.mem (.inr (.inr hu))
  have ms:=h.mem (.inr (.inr hs))
  have ms':=h.mem (.inr (.inr hs'))
  have xu:=h.ne B.nd (.inr (.inl ⟨hx,hu⟩))
  have xy:=h.ne B.nd (.inl ⟨hx,hy⟩)
  have yu:=h.ne B.nd (.inr (.inr ⟨hy,hu⟩))
  have q1 : ¬ pos Q s' < pos Q u:=fun z=>B.nt x u y s' mx mu my ms' (nod4 xu xy (h.ne B.nd (.inr (.inl ⟨hx,hs'⟩))) yu.symm ns'.symm (h.ne B.nd (.inr (.inr ⟨hy,hs'⟩)))) P Q a1 a3 a2 b1 b3 z
  have q2 : ¬ pos P s < pos P u:=fun z=>B.nt x u y s mx mu my ms (nod4 xu xy (h.ne B.nd (.inr (.inl ⟨hx,hs⟩))) yu.symm ns.symm (h.ne B.nd (.inr (.inr ⟨hy,hs⟩)))) P Q a1 a3 z b1 b3 b2
  have e1 : pos Q s'≠pos Q u:=fun z=>ns' (B.inj Q s' ms' u mu z)
  have e2 : pos P s≠pos P u:=fun z=>ns (B.inj P s ms u mu z)
  have ss : s≠s':=fun z=>by rw [z] at b2; omega
  exact B.wr u s s' mu ms ms' ns.symm ns'.symm ss ou P Q (hl s hs ns) (hl s' hs' ns') (by omega) (by omega) (by omega) (by omega)
theorem y6O {A L R S : List Nat} (B : Base pos A) (h : Grow pos A L R S) {x u v s : Nat} (hx : L.head? = some x) (hu : u∈S) (hv : v∈S) (hs : s∈S) (uv : u≠v) (su : s≠u) {o ou : α} (hl : ∀ s∈S,s≠u->pos ou s < pos ou u) (h1 : pos o x < pos o u) (h2 : pos o u < pos o v) (h3 : pos o s < pos o u) : False:=by
  obtain ⟨p,hp⟩:=h.hl x hx
  have hx:=z5H hx
  have mx:=h.mem (.inl hx)
  have mu:=h.mem (.inr (.inr hu))
  have mv:=h.mem (.inr (.inr hv))
  have ms:=h.mem (.inr (.inr hs))
  have xu:=h.ne B.nd (.inr (.inl ⟨hx,hu⟩))
  have xv:=h.ne B.nd (.inr (.inl ⟨hx,hv⟩))
  have xs:=h.ne B.nd (.inr (.inl ⟨hx,hs⟩))
  have sv : s≠v:=fun z=>by rw [z] at h3; omega
  have k1:=hl v hv uv.symm
  have k2:=hl s hs su
  have nlt : ¬ pos ou x < pos ou u:=fun z=>B.wr x u v mx mu mv xu xv uv p ou o (hp u hu) (hp v hv) z k1 (by omega) h2
  have e1 : pos ou x≠pos ou u:=fun z=>xu (B.inj ou x mx u mu z)
  exact B.nt v u x s mv mu mx ms (nod4 uv.symm xv.symm sv.symm xu.symm su.symm xs) ou o k1 (by omega) k2 h1 h2 h3
theorem y6A {A L R S : List Nat} (B : Base pos A) (h : Grow pos A L R S) {u v : Nat} (hu : u∈S) (hv : v∈S) (uv : u≠v) {ou ov : α} (lu : ∀ s∈S,s≠u->pos ou s < pos ou u) (lv : ∀ s∈S,s≠v->pos ov s < pos ov v) (n1 : ¬ OkL pos L R S u) (n2 : ¬ OkL pos L R S v) : False:=by
  obtain ⟨x,y,P,s,ex,ey,hs,ns,a1,a2,a3⟩:=notL B h hu n1
  obtain ⟨x2,y2,Q,t,ex2,ey2,ht,nt,b1,b2,b3⟩:=notL B h hv n2
  rw [ex] at ex2; cases ex2
  have mu:=h.mem (.inr (.inr hu))
  have mv:=h.mem (.inr (.inr hv))
  have eP : pos P u≠pos P v:=fun z=>uv (B.inj P u mu v mv z)
  have eQ : pos Q u≠pos Q v:=fun z=>uv (B.inj Q u mu v mv z)
  by_cases c1 : pos P u < pos P v
  · exact y6O B h ex hu hv hs uv ns lu a1 c1 a2
  · by_cases c2 : pos Q v < pos Q u
    · exact y6O B h ex hv hu ht uv.symm nt lv b1 c2 b2
    · obtain ⟨p,hp⟩:=h.hl x ex
      have hx:=z5H ex
      exact B.wr x u v (h.mem (.inl hx)) mu mv (h.ne B.nd (.inr (.inl ⟨hx,hu⟩))) (h.ne B.nd (.inr (.inl ⟨hx,hv⟩))) uv p P Q (hp u hu) (hp v hv) a1 (by omega) b1 (by omega)
theorem Grow.ndS {A L R S : List Nat} (h : Grow pos A L R S) (hA : A.Nodup) : S.Nodup:=(List.nodup_append.mp (h.perm.nodup_iff.mpr hA)).2.1
theorem Grow.put1 {A L R S S' : List Nat} (B : Base pos A) (h : Grow pos A L R S) {u : Nat} (hS : S.Perm (u :: S')) (ok : OkL pos L R S u) (hl : ∀ o,∀ s∈S',pos o s < pos o u) (o0 : α) : Grow pos A (u :: L) R S':=by
  have nd:=hS.nodup_iff.mp (h.ndS B.nd)
  have ne : ∀ s∈S',s≠u:=fun s hs e=>(List.nodup_cons.mp nd).1 (e ▸ hs)
  have mS : ∀ s∈S',s∈S:=fun s hs=>hS.mem_iff.mpr (List.mem_cons_of_mem _ hs)
  have mu : u∈S:=hS.mem_iff.mpr List.mem_cons_self
  refine ⟨?_,⟨fun o p hp s hs=>ok o p hp s (hs.imp (fun z=>⟨mS s z,ne s z⟩) id),h.gl.mono fun s z=>?_⟩,h.gr.mono fun s z=>?_,.inr fun o s hs=>.inl ⟨u,rfl,hl o s hs⟩,fun x hx=>?_,fun y hy=>?_⟩
  · refine List.Perm.trans ?_ h.perm
    have : (u :: L ++ R ++ S').Perm (L ++ R ++ (u :: S')):=(List.perm_middle (a:=u) (l₁:=L ++ R) (l₂:=S')).symm
    exact this.trans (List.Perm.append_left _ hS.symm)
  · rcases z with z | z | z
    · rw [z]; exact .inl mu
    · exact .inl (mS s z)
    · exact .inr z
  · rcases z with z | z
    · exact .inl (mS s z)
    · rcases List.mem_cons.mp z with z | z
      · rw [z]; exact .inl mu
      · exact .inr z
  · cases hx
    exact ⟨o0,fun s hs=>hl o0 s hs⟩
  · obtain ⟨o,ho⟩:=h.hr y hy
    exact ⟨o,fun s hs=>ho s (mS s hs)⟩
theorem ok' {L R S : List Nat} {u : Nat} (h : OkL pos L R S u) : ∀ o,∀ p∈L,∀ s,(s∈S∧s≠u)∨s∈R->¬(pos o p < pos o u∧pos o s < pos o u):=h
theorem Grow.put2 {A L R S S' : List Nat} (B : Base pos A) (h : Grow pos A L R S) {u v : Nat} (hS : S.Perm (u :: v :: S')) (okL : OkL pos L R S u) (okR : OkL pos R L S v) (hl : ∀ o,∀ s∈S',pos o s < pos o u∨pos o s < pos o v) {ou ov : α} (hou : ∀ s∈S',pos ou s < pos ou u) (hov : ∀ s∈S',pos ov s < pos ov v) : Grow pos A (u :: L) (v :: R) S':=by
  have nd:=hS.nodup_iff.mp (h.ndS B.nd)
  have n1:=List.nodup_cons.mp nd
  have n2:=List.nodup_cons.mp n1.2
  have uv : u≠v:=fun e=>n1.1 (by rw [e]; exact List.mem_cons_self)
  have neu : ∀ s∈S',s≠u:=fun s hs e=>n1.1 (by rw [← e]; exact List.mem_cons_of_mem _ hs)
  have nev : ∀ s∈S',s≠v:=fun s hs e=>n2.1 (e ▸ hs)
  have mS : ∀ s∈S',s∈S:=fun s hs=>hS.mem_iff.mpr (List.mem_cons_of_mem _ (List.mem_cons_of_mem _ hs))
  have mu : u∈S:=hS.mem_iff.mpr List.mem_cons_self
  have mv : v∈S:=hS.mem_iff.mpr (List.mem_cons_of_mem _ List.mem_cons_self)
  refine ⟨?_,⟨fun o p hp s hs=>ok' okL o p hp s ?_,h.gl.mono fun s z=>?_⟩,⟨fun o p hp s hs=>ok' okR o p hp s ?_,h.gr.mono fun s z=>?_⟩,.inr fun o s hs=>(hl o s hs).imp (fun z=>⟨u,rfl,z⟩) fun z=>⟨v,rfl,z⟩,fun x hx=>?_,fun y hy=>?_⟩
  · refine List.Perm.trans ?_ h.perm
    have e1 : (u :: L ++ v :: R ++ S').Perm (L ++ v :: R ++ (u :: S')):=(List.perm_middle (a:=u) (l₁:=L ++ v :: R) (l₂:=S')).symm
    have e2 : (L ++ v :: R).Perm (v :: (L ++ R)):=List.perm_middle
    have e3 : (v :: (L ++ R) ++ (u :: S')).Perm ((L ++ R) ++ v :: (u :: S')):=(List.perm_middle (a:=v) (l₁:=L ++ R) (l₂:=u :: S')).symm
    have e4 : (v :: u :: S').Perm S:=(List.Perm.swap u v S').trans hS.symm
    exact e1.trans ((e2.append_right _).trans (e3.trans (List.Perm.append_left _ e4)))
  · rcases hs with z | z
    · exact .inl ⟨mS s z,neu s z⟩
    · rcases List.mem_cons.mp z with z | z
      · rw [z]; exact .inl ⟨mv,uv.symm⟩
      · exact .inr z
  · rcases z with z | z | z
    · rw [z]; exact .inl mu
    · exact .inl (mS s z)
    · rcases List.mem_cons.mp z with z | z
      · rw [z]; exact .inl mv
      · exact .inr z
  · rcases hs with z | z
    · exact .inl ⟨mS s z,nev s z⟩
    · rcases List.mem_cons.mp z with z | z
      · rw [z]; exact .inl ⟨mu,uv⟩
      · exact .inr z
  · rcases z with z | z | z
    · rw [z]; exact .inl mv
    · exact .inl (mS s z)
    · rcases List.mem_cons.mp z with z | z
      · rw [z]; exact .inl mu
      · exact .inr z
  · cases hx; exact ⟨ou,hou⟩
  · cases hy; exact ⟨ov,hov⟩
theorem y3u (o : α) : ∀ {S : List Nat},S≠[]->∃ u∈S,∀ s∈S,pos o s≤pos o u
  | [],h=>absurd rfl h
  | [a],_=>⟨a,List.mem_cons_self,fun s hs=>by rw [List.mem_singleton.mp hs]; exact Nat.le_refl _⟩
  | a :: b :: r,_=>by
    obtain ⟨u,hu,hm⟩:=y3u o (S:=b :: r) (by simp)
    by_cases c : pos o u < pos o a
    · refine ⟨a,List.mem_cons_self,fun s hs=>?_⟩
      rcases List.mem_cons.mp hs with z | z
      · rw [z]; exact Nat.le_refl _
      · have:=hm s z; omega
    · refine ⟨u,List.mem_cons_of_mem _ hu,fun s hs=>?_⟩
      rcases List.mem_cons.mp hs with z | z
      · rw [z]; omega
      · exact hm s z
theorem z9i {A S : List Nat} (B : Base pos A) (hS : ∀ s∈S,s∈A) (o : α) (h : S≠[]) : ∃ u∈S,∀ s∈S,s≠u->pos o s < pos o u:=by
  obtain ⟨u,hu,hm⟩:=y3u (pos:=pos) o h
  refine ⟨u,hu,fun s hs ne=>?_⟩
  have h1:=hm s hs
  have h2 : pos o s≠pos o u:=fun z=>ne (B.inj o s (hS s hs) u (hS u hu) z)
  omega
theorem y0l {S : List Nat} (u : Nat) (h : u∈S) : ∃ S',S.Perm (u :: S'):=by
  obtain ⟨a,b,rfl⟩:=List.append_of_mem h
  exact ⟨a ++ b,List.perm_middle⟩
theorem y3c {A L R S : List Nat} (B : Base pos A) (h : Grow pos A L R S) (o0 : α) (hne : S≠[]) : ∃ L' R' S',Grow pos A L' R' S'∧S'.length < S.length:=by
  have mA : ∀ s∈S,s∈A:=fun s hs=>h.mem (.inr (.inr hs))
  obtain ⟨u,hu,lu⟩:=z9i B mA o0 hne
  obtain ⟨S1,hS1⟩:=y0l u hu
  have nd1:=hS1.nodup_iff.mp (h.ndS B.nd)
  have ne1 : ∀ s∈S1,s≠u:=fun s hs e=>(List.nodup_cons.mp nd1).1 (e ▸ hs)
  have m1 : ∀ s∈S1,s∈S:=fun s hs=>hS1.mem_iff.mpr (List.mem_cons_of_mem _ hs)
  have len1 : S1.length < S.length:=by rw [hS1.length_eq]; simp
  by_cases one : ∀ o,∀ s∈S,s≠u->pos o s < pos o u
  · have hl : ∀ o,∀ s∈S1,pos o s < pos o u:=fun o s hs=>one o s (m1 s hs) (ne1 s hs)
    by_cases okL : OkL pos L R S u
    · exact ⟨_,_,S1,h.put1 B hS1 okL hl o0,len1⟩
    · by_cases okR : OkL pos R L S u
      · exact ⟨_,_,S1,(h.swap.put1 B hS1 okR hl o0).swap,len1⟩
      · exact (z9I B h hu lu okL okR).elim
  · obtain ⟨o1,w,hw,wu,hwu⟩ : ∃ o,∃ s∈S,s≠u∧¬ pos o s < pos o u:=by
      refine Classical.byContradiction fun z=>one fun o s hs ne=>Classical.byContradiction fun q=>z ⟨o,s,hs,ne,q⟩
    obtain ⟨v,hv,lv⟩:=z9i B mA o1 hne
    have uv : u≠v:=fun e=>by
      have:=lv w hw (by rw [← e]; exact wu)
      rw [← e] at this
      exact hwu this
    have hvS1 : v∈S1:=(List.mem_cons.mp (hS1.mem_iff.mp hv)).resolve_left uv.symm
    obtain ⟨S',hS'⟩:=y0l v hvS1
    have hS : S.Perm (u :: v :: S'):=hS1.trans (hS'.cons u)
    have hSv : S.Perm (v :: u :: S'):=hS.trans (List.Perm.swap v u S')
    have nod2:=List.nodup_cons.mp (hS'.nodup_iff.mp (List.nodup_cons.mp nd1).2)
    have m2 : ∀ s∈S',s∈S:=fun s hs=>m1 s (hS'.mem_iff.mpr (List.mem_cons_of_mem _ hs))
    have nu : ∀ s∈S',s≠u:=fun s hs=>ne1 s (hS'.mem_iff.mpr (List.mem_cons_of_mem _ hs))
    have nv : ∀ s∈S',s≠v:=fun s hs e=>nod2.1 (e ▸ hs)
    have len2 : S'.length < S.length:=by rw [hS.length_eq]; simp; omega
    have two : ∀ o,∀ s∈S',pos o s < pos o u∨pos o s < pos o v:=fun o s hs=>by
      obtain ⟨t,ht,lt⟩:=z9i B mA o hne
      by_cases tu : t=u
      · exact .inl (by have:=lt s (m2 s hs) (by rw [tu]; exact nu s hs); rw [tu] at this; exact this)
      · by_cases tv : t=v
        · exact .inr (by have:=lt s (m2 s hs) (by rw [tv]; exact nv s hs); rw [tv] at this; exact this)
        · exact (B.wr u v t (mA u hu) (mA v hv) (mA t ht) uv (Ne.symm tu) (Ne.symm tv) o0 o1 o (lu v hv uv.symm) (lu t ht tu) (lv u hu uv) (lv t ht tv) (lt u hu (Ne.symm tu)) (lt v hv (Ne.symm tv))).elim
    have hou : ∀ s∈S',pos o0 s < pos o0 u:=fun s hs=>lu s (m2 s hs) (nu s hs)
    have hov : ∀ s∈S',pos o1 s < pos o1 v:=fun s hs=>lv s (m2 s hs) (nv s hs)
    by_cases c1 : OkL pos L R S u∧OkL pos R L S v
    · exact ⟨_,_,S',h.put2 B hS c1.1 c1.2 two hou hov,len2⟩
    · by_cases c2 : OkL pos L R S v∧OkL pos R L S u
      · exact ⟨_,_,S',h.put2 B hSv c2.1 c2.2 (fun o s hs=>(two o s hs).symm) hov hou,len2⟩
      · exfalso
        by_cases a : OkL pos L R S u
        · have b : ¬ OkL pos R L S v:=fun z=>c1 ⟨a,z⟩
          by_cases c : OkL pos L R S v
          · exact y6A B h.swap hu hv uv lu lv (fun z=>c2 ⟨c,z⟩) b
          · exact z9I B h hv lv c b
        · by_cases d : OkL pos R L S u
          · exact y6A B h hu hv uv lu lv a fun z=>c2 ⟨z,d⟩
          · exact z9I B h hu lu a d
theorem y5W {A : List Nat} (B : Base pos A) (o0 : α) : ∀ (n : Nat) {L R S : List Nat},S.length≤n->Grow pos A L R S->∃ L' R',Grow pos A L' R' []:=fun n=>by
  induction n with
  | zero=>
    intro L R S hl h
    have : S=[]:=List.length_eq_zero_iff.mp (by omega)
    subst this
    exact ⟨L,R,h⟩
  | succ n ih=>
    intro L R S hl h
    by_cases e : S=[]
    · subst e; exact ⟨L,R,h⟩
    · obtain ⟨L',R',S',h',hl'⟩:=y3c B h o0 e
      exact ih (by omega) h'
end nobar
theorem z5c {α : Type} {pos : α->Nat->Nat} : ∀ {l1 l2 : List Nat} {y : Nat} {T : Nat->Prop},GoodL pos (l1 ++ y :: l2) T->∀ o,∀ p∈l2,∀ s,(s∈l1∨T s)->¬(pos o p < pos o y∧pos o s < pos o y)
  | [],l2,y,T,h,o,p,hp,s,hs=>h.1 o p hp s (hs.resolve_left (fun z=>nomatch z))
  | a :: l1,l2,y,T,h,o,p,hp,s,hs=>z5c (l1:=l1) h.2 o p hp s (by
    rcases hs with z | z
    · rcases List.mem_cons.mp z with z | z
      · exact .inr (.inl z)
      · exact .inl z
    · exact .inr (.inr z))
theorem y2n {p q : List Nat} {y : Nat} (h : y ∉ p) : ixO (p ++ y :: q) y=p.length:=by
  have e : p.findIdx (fun n=>n == y)=p.length:=List.findIdx_eq_length.mpr fun x hx=>beq_eq_false_iff_ne.mpr fun z=>h (z ▸ hx)
  unfold ixO
  rw [List.findIdx_append,e,if_neg (by omega),List.findIdx_cons]
  simp
theorem y6C {p q : List Nat} {x : Nat} (h : ixO (p ++ q) x < p.length) : x∈p:=by
  refine Classical.byContradiction fun z=>?_
  have e : p.findIdx (fun n=>n == x)=p.length:=List.findIdx_eq_length.mpr fun a ha=>beq_eq_false_iff_ne.mpr fun w=>z (w ▸ ha)
  unfold ixO at h
  rw [List.findIdx_append,e,if_neg (by omega)] at h
  omega
theorem y6u {p q : List Nat} {y x : Nat} (hy : y ∉ p) (hx : x∈p ++ y :: q) (h : p.length < ixO (p ++ y :: q) x) : x∈q:=by
  rcases List.mem_append.mp hx with z | z
  · rw [z6a z] at h
    have:=z2H z
    omega
  · rcases List.mem_cons.mp z with z | z
    · rw [z,y2n hy] at h; omega
    · exact z
theorem y2R {α : Type} {pos : α->Nat->Nat} {A L R : List Nat} (hA : A.Nodup) (h : Grow pos A L R []) : (L.reverse ++ R).Perm A∧∀ o,∀ x∈A,∀ y∈A,∀ z∈A,pos o x < pos o y->pos o z < pos o y->ixO (L.reverse ++ R) x < ixO (L.reverse ++ R) y->ixO (L.reverse ++ R) y < ixO (L.reverse ++ R) z->False:=by
  have hp : (L.reverse ++ R).Perm A:=by
    have:=h.perm
    rw [List.append_nil] at this
    exact ((List.reverse_perm L).append_right R).trans this
  have nd:=hp.nodup_iff.mpr hA
  refine ⟨hp,fun o x hx y hy z hz h1 h2 k1 k2=>?_⟩
  have hxl:=hp.mem_iff.mpr hx
  have hyl:=hp.mem_iff.mpr hy
  have hzl:=hp.mem_iff.mpr hz
  rcases List.mem_append.mp hyl with w | w
  · obtain ⟨l1,l2,e⟩:=List.append_of_mem (List.mem_reverse.mp w)
    have el : L.reverse ++ R=l2.reverse ++ y :: (l1.reverse ++ R):=by rw [e]; simp
    rw [el] at nd k1 k2 hzl
    have hyn : y ∉ l2.reverse:=fun q=>(List.nodup_append.mp nd).2.2 y q y List.mem_cons_self rfl
    rw [y2n hyn] at k1 k2
    have hx2:=List.mem_reverse.mp (y6C k1)
    have hz2:=y6u hyn hzl k2
    have gl:=h.gl
    rw [e] at gl
    refine z5c gl o x hx2 z ?_ ⟨h1,h2⟩
    rcases List.mem_append.mp hz2 with q | q
    · exact .inl (List.mem_reverse.mp q)
    · exact .inr (.inr q)
  · obtain ⟨r1,r2,e⟩:=List.append_of_mem w
    have el : L.reverse ++ R=(L.reverse ++ r1) ++ y :: r2:=by rw [e]; simp
    rw [el] at nd k1 k2 hzl
    have hyn : y ∉ L.reverse ++ r1:=fun q=>(List.nodup_append.mp nd).2.2 y q y List.mem_cons_self rfl
    rw [y2n hyn] at k1 k2
    have hx2:=y6C k1
    have hz2:=y6u hyn hzl k2
    have gr:=h.gr
    rw [e] at gr
    refine z5c gr o z hz2 x ?_ ⟨h2,h1⟩
    rcases List.mem_append.mp hx2 with q | q
    · exact .inr (.inr (List.mem_reverse.mp q))
    · exact .inl q
theorem brd_bar {bs : List (Int × List Nat)} {m : Nat} (hne : bs≠[]) (hp : ∀ b∈bs,b.2.Perm (List.range m)) (hB : Brd bs m) : Bard m (bs.map (·.2)):=by
  refine Classical.byContradiction fun hn=>?_
  have hin : ∀ b∈bs,∀ x < m,x∈b.2:=fun b hb x hx=>(hp b hb).mem_iff.mpr (List.mem_range.mpr hx)
  have lt : ∀ x∈List.range m,x < m:=fun x hx=>List.mem_range.mp hx
  have mo : ∀ b∈bs,b.2∈bs.map (·.2):=fun b hb=>List.mem_map.mpr ⟨b,hb,rfl⟩
  have B : Base (α:={ b // b∈bs }) (fun b x=>ixO b.1.2 x) (List.range m):=by
    refine ⟨List.nodup_range,fun o a ha b hb e=>?_,fun a b c ha hb hc ab ac bc oa ob oc h1 h2 h3 h4 h5 h6=>hn (.inl ?_),fun a b c d ha hb hc hd nd P Q h1 h2 h3 h4 h5 h6=>hn (.inr ?_)⟩
    · exact z9G (hin o.1 o.2 a (lt a ha)) (hin o.1 o.2 b (lt b hb)) e
    · refine ⟨a,b,c,by simp [ab,ac,bc],fun x hx=>?_,oa.1.2,mo _ oa.2,ob.1.2,mo _ ob.2,oc.1.2,mo _ oc.2,⟨h1,h2⟩,⟨h3,h4⟩,⟨h5,h6⟩⟩
      simp only [List.mem_cons,List.not_mem_nil,or_false] at hx
      rcases hx with z | z | z
      · rw [z]; exact lt a ha
      · rw [z]; exact lt b hb
      · rw [z]; exact lt c hc
    · refine ⟨a,b,c,d,nd,fun x hx=>?_,P.1.2,mo _ P.2,Q.1.2,mo _ Q.2,⟨h1,h2,h3⟩,⟨h4,h5,h6⟩⟩
      simp only [List.mem_cons,List.not_mem_nil,or_false] at hx
      rcases hx with z | z | z | z
      · rw [z]; exact lt a ha
      · rw [z]; exact lt b hb
      · rw [z]; exact lt c hc
      · rw [z]; exact lt d hd
  obtain ⟨b0,hb0⟩ : ∃ b0,b0∈bs:=by
    cases bs with
    | nil=>exact absurd rfl hne
    | cons b r=>exact ⟨b,List.mem_cons_self⟩
  have G0 : Grow (α:={ b // b∈bs }) (fun b x=>ixO b.1.2 x) (List.range m) [] [] (List.range m):=⟨.refl _,trivial,trivial,.inl ⟨rfl,rfl⟩,(fun x hx=>nomatch hx),(fun x hx=>nomatch hx)⟩
  obtain ⟨L,R,G⟩:=y5W B ⟨b0,hb0⟩ _ (Nat.le_refl _) G0
  obtain ⟨pl,hl⟩:=y2R List.nodup_range G
  refine hB _ pl fun b hb=>?_
  intro x y z hx hy hz h1 h2 k1 k2
  have hr : ∀ w∈b.2,w∈List.range m:=fun w hw=>(hp b hb).mem_iff.mp hw
  exact hl ⟨b,hb⟩ x (hr x hx) y (hr y hy) z (hr z hz) h1 h2 k1 k2
theorem imv (bs : List (Int × List Nat)) : z2C (bs.map vtD)=true:=z5P fun d hd=>by
  obtain ⟨b,_,rfl⟩:=List.mem_map.mp hd
  show (true && ((z2C (b.2.map nD)) && true))=true
  rw [z4N]
  rfl
theorem y3n (c : Int) {m : Nat} (hm : m≤64) (h0 : 0 < m) {l : List Nat} (hl : l.length=m) : hol (z1y [.int c,thD l]) fun d=>∃ a : List Nat,d=thD a∧a.length=m∧a.Perm l:=by
  refine z9W rfl ?_
  obtain ⟨w,ew,hw⟩:=z7K (x:=c) (n:=m) h0
  have f1 : z5x (.int c) (.int (m : Int))=some (.int (w : Int)):=by rw [z4a (by omega),ew]
  have f2 : z8w (.int c) (.int (m : Int))=some (.int (c / (m : Int))):=z6V ⟨by omega,by omega⟩
  have i1 : ixD (thD l) (.int (w : Int))=some (nD (l.getD w 0)):=z5a (by omega)
  have fl1 : z6j (some [nD (l.getD w 0)])=some [nD (l.getD w 0)]:=rfl
  have t1 : D.lst [nD (l.getD w 0)]=thD [l.getD w 0]:=rfl
  have gm : ∀ k,k < m->l.getD k 0∈l:=fun k hk=>by simp [List.getD,List.getElem?_eq_getElem (show k < l.length by omega)]
  simp! only [z2P,z5s,hl,f1,f2,i1,fl1,t1]
  refine z0B (I:=fun s=>∃ (a : List Nat) (o0 o2 o3 : Option SD),s=[o0,some (.sh (thD l)),o2,o3,some (.ow (thD a))]∧a.length=m∧a.Perm l) ?_ ?_
  · refine z6l (fun n s=>∃ (a : List Nat) (c' : Int) (lo hi : Nat),s=[some (.sh (.int c')),some (.sh (thD l)),some (.sh (.int (lo : Int))),some (.sh (.int (hi : Int))),some (.ow (thD a))]∧a.length + lo=hi∧hi≤m∧a.length + n=m∧a.Perm ((l.drop lo).take (hi - lo))) (n:=m - 1) ⟨[l.getD w 0],_,w,w + 1,rfl,by simp; omega,by omega,by simp; omega,by
        have eg : l.getD w 0=l[w]'(by omega):=by simp [List.getD,List.getElem?_eq_getElem (show w < l.length by omega)]
        rw [show w + 1 - w=1 by omega,List.drop_eq_getElem_cons (show w < l.length by omega),eg]
        exact List.Perm.refl _⟩ ?_ (by omega)
    rintro n s ⟨a,c',lo,hi,rfl,h1,h2,h3,h4⟩
    refine ⟨decide ((a.length : Int) < (m : Int)),by simp! only [z5s,hl],fun hz=>?_,fun hz=>?_⟩
    · have hz:=of_decide_eq_false hz
      have h0 : lo=0:=by omega
      have hm2 : hi=m:=by omega
      rw [h0,hm2,List.drop_zero,Nat.sub_zero,← hl,List.take_length] at h4
      exact ⟨_,rfl,a,_,_,_,rfl,by omega,h4⟩
    · have hz:=of_decide_eq_true hz
      refine ⟨n - 1,by omega,?_⟩
      obtain ⟨r,g1⟩ : ∃ r : Int,z5x (.int c') (.int 2)=some (.int r):=⟨_,z4a (by omega)⟩
      have g2 : z8w (.int c') (.int 2)=some (.int (c' / 2)):=z6V ⟨by omega,by omega⟩
      have down : ∀ (hlo : 0 < lo),hol (z4z (z0P (z5q 2 (d2 y4q (z0f 2) (dC (.int 1)))) (m0 4 z5S [d2 ixD (z0f 1) (z0f 2)]) [some (.sh (.int c')),some (.sh (thD l)),some (.sh (.int (lo : Int))),some (.sh (.int (hi : Int))),some (.ow (thD a))]) (z5q 0 (d2 z8w (z0f 0) (dC (.int 2))))) fun o=>match o with
          | .nx s=>∃ (a : List Nat) (c' : Int) (lo hi : Nat),s=[some (.sh (.int c')),some (.sh (thD l)),some (.sh (.int (lo : Int))),some (.sh (.int (hi : Int))),some (.ow (thD a))]∧a.length + lo=hi∧hi≤m∧a.length + (n - 1)=m∧a.Perm ((l.drop lo).take (hi - lo))
          | _=>False:=fun hlo=>by
        have e : (lo : Int) - 1=((lo - 1 : Nat) : Int):=by omega
        have i2 : ixD (thD l) (.int ((lo - 1 : Nat) : Int))=some (nD (l.getD (lo - 1) 0)):=z5a (by omega)
        have im : z8p (some [nD (l.getD (lo - 1) 0)])=some [nD (l.getD (lo - 1) 0)]:=rfl
        have ap : m0V z5S (some (thD a)) (some [nD (l.getD (lo - 1) 0)])=some (thD (a ++ [l.getD (lo - 1) 0])):=z5L (by omega)
        simp! only [e,i2,im,ap,g2,z0d]
        refine ⟨_,_,_,_,rfl,by simp; omega,h2,by simp; omega,?_⟩
        rw [List.drop_eq_getElem_cons (show lo - 1 < l.length by omega),show hi - (lo - 1)=(hi - lo) + 1 by omega,List.take_succ_cons,show lo - 1 + 1=lo by omega]
        have eg : l.getD (lo - 1) 0=l[lo - 1]'(by omega):=by simp [List.getD,List.getElem?_eq_getElem (show lo - 1 < l.length by omega)]
        rw [eg]
        exact (List.perm_append_singleton _ _).trans (h4.cons _)
      have up : ∀ (hhi : hi < m),hol (z4z (z0P (m0 4 z5S [d2 ixD (z0f 1) (z0f 3)]) (z5q 3 (d2 z9e (z0f 3) (dC (.int 1)))) [some (.sh (.int c')),some (.sh (thD l)),some (.sh (.int (lo : Int))),some (.sh (.int (hi : Int))),some (.ow (thD a))]) (z5q 0 (d2 z8w (z0f 0) (dC (.int 2))))) fun o=>match o with
          | .nx s=>∃ (a : List Nat) (c' : Int) (lo hi : Nat),s=[some (.sh (.int c')),some (.sh (thD l)),some (.sh (.int (lo : Int))),some (.sh (.int (hi : Int))),some (.ow (thD a))]∧a.length + lo=hi∧hi≤m∧a.length + (n - 1)=m∧a.Perm ((l.drop lo).take (hi - lo))
          | _=>False:=fun hhi=>by
        have e : (hi : Int) + 1=((hi + 1 : Nat) : Int):=by omega
        have i2 : ixD (thD l) (.int (hi : Int))=some (nD (l.getD hi 0)):=z5a (by omega)
        have im : z8p (some [nD (l.getD hi 0)])=some [nD (l.getD hi 0)]:=rfl
        have ap : m0V z5S (some (thD a)) (some [nD (l.getD hi 0)])=some (thD (a ++ [l.getD hi 0])):=z5L (by omega)
        simp! only [i2,im,ap,e,g2,z0d]
        refine ⟨_,_,_,_,rfl,by simp; omega,by omega,by simp; omega,?_⟩
        have eg : (l.drop lo).take (hi + 1 - lo)=(l.drop lo).take (hi - lo) ++ [l.getD hi 0]:=by
          rw [show hi + 1 - lo=(hi - lo) + 1 by omega,List.take_succ,List.getElem?_drop,show lo + (hi - lo)=hi by omega]
          simp [List.getD,List.getElem?_eq_getElem (show hi < l.length by omega)]
        rw [eg]
        exact h4.append_right _
      have weak : ∀ {x : Option Out} {P : SS->Prop} {Q : Out->Prop},hol x (fun o=>match o with | .nx s=>P s | _=>False)->(∀ s,P s->Q (.nx s))->hol x Q:=fun {x P Q} h k=>by
        obtain ⟨o,rfl,q⟩:=h
        cases o with
        | nx s=>exact ⟨_,rfl,k s q⟩
        | _=>exact q.elim
      by_cases hh : hi=m
      · have d1 : decide ((hi : Int)=(m : Int))=true:=decide_eq_true (by omega)
        rw [y3O,y6N]
        simp! only [z5s,hl,d1]
        have:=down (by omega)
        simp! only [] at this
        exact weak this fun s z=>z
      · have d1 : decide ((hi : Int)=(m : Int))=false:=decide_eq_false (by omega)
        by_cases hlo : 0 < lo
        · have d2 : decide ((0 : Int) < (lo : Int))=true:=decide_eq_true (by omega)
          by_cases hr : r=1
          · have:=down hlo
            simp! only [] at this
            simp! only [z5s,hl,d1,d2,g1,hr,decide_true]
            exact weak this fun s z=>z
          · have:=up (by omega)
            simp! only [] at this
            simp! only [z5s,hl,d1,d2,g1,decide_eq_false hr]
            exact weak this fun s z=>z
        · have d2 : decide ((0 : Int) < (lo : Int))=false:=decide_eq_false (by omega)
          have:=up (by omega)
          simp! only [] at this
          simp! only [z5s,hl,d1,d2]
          exact weak this fun s z=>z
  · rintro s ⟨a,o0,o2,o3,rfl,h1,h2⟩
    simp! only [z0d]
    exact ⟨_,rfl,a,rfl,h1,h2⟩
theorem y3H (ns : List Int) (hns : ns.length≤63) {m : Nat} (hm : m≤8) (h0 : 0 < m) {l : List Nat} (hp : l.Perm (List.range m)) {sh : Int} (hsh : 0 < sh∧sh≤9) : hol (z2b [.scr ns,.int (m : Int),thD l,.int sh]) fun d=>∃ vs : List Bl,d=blD vs∧vs≠[]∧vs.length≤800∧(∀ b∈vs,b.2.Perm (List.range m))∧z7j (vs.map tb) % 2=1:=by
  refine z9W rfl ?_
  obtain ⟨cs,ecs,hcs⟩:=y4I ns (some 3) (some 101)
  obtain ⟨c2,e2⟩:=z9H ns 2
  have e2 : z0t [.scr ns,.int 2]=some (.int c2):=e2
  have p30 : powI (.int 10) (.int 30)=some (.int (10 ^ 30)):=pow_lit 30 (by omega)
  have d30 : ∀ x : Int,z5x (.int x) (.int (10 ^ 30 - 1))=some (.int (x % (10 ^ 30 - 1))):=fun x=>z4a (by omega)
  have v9 : ∀ x : Int,z8w (.int x) (.int sh)=some (.int (x / sh)):=fun x=>z6V ⟨by omega,by omega⟩
  have v8 : ∀ x : Int,z8w (.int x) (.int 80640)=some (.int (x / 80640)):=fun x=>z6V ⟨by omega,by omega⟩
  have d4 : ∀ x : Int,z5x (.int x) (.int 40320)=some (.int (x % 40320)):=fun x=>z4a (by omega)
  have d9 : ∀ x : Int,z5x (.int x) (.int sh)=some (.int (x % sh)):=fun x=>z4a (by omega)
  have d2 : ∀ x : Int,z5x (.int x) (.int 2)=some (.int (x % 2)):=fun x=>z4a (by omega)
  have nl : D.lst []=blD []:=rfl
  have tt : ∀ o : List Nat,y6z [thD o]=some (ttD o):=fun o=>rfl
  have lnb : ∀ vs : List Bl,z3j [blD vs]=some (.int (vs.length : Int)):=fun vs=>by
    show z3j [z9d (vs.map tb)]=_
    rw [len_vot,List.length_map]
  have sqb : ∀ vs : List Bl,y1r (blD vs)=some ((vs.map tb).map z3Q):=fun vs=>rfl
  have apb : ∀ {vs : List Bl} {b : Bl},vs.length≤1000000->m0V z5S (some (blD vs)) (some [z3Q (tb b)])=some (blD (vs ++ [b])):=fun {vs b} h=>by
    have:=y6f (bs:=vs.map tb) (b:=tb b) (by rw [List.length_map]; exact h)
    show _=some (z9d ((vs ++ [b]).map tb))
    rw [List.map_append]
    exact this
  have imb : ∀ b : Bl,z8p (some [z3Q (tb b)])=some [z3Q (tb b)]:=fun b=>z5N (y0I [tb b])
  simp! only [z3v,ecs,z3c,nl]
  refine z0B (I:=fun s=>∃ (vs : List Bl) (o5 o6 : Option SD),s=[some (.sh (.scr ns)),some (.sh (.int (m : Int))),some (.sh (thD l)),some (.sh (.int sh)),some (.ow (blD vs)),o5,o6]∧vs.length=cs.length∧∀ b∈vs,b.2.Perm (List.range m)) ?_ ?_
  · refine z2p (enc:=D.int) (fun pre s=>∃ (vs : List Bl) (o5 o6 : Option SD),s=[some (.sh (.scr ns)),some (.sh (.int (m : Int))),some (.sh (thD l)),some (.sh (.int sh)),some (.ow (blD vs)),o5,o6]∧vs.length=pre.length∧∀ b∈vs,b.2.Perm (List.range m)) ⟨[],_,_,rfl,rfl,(fun _ h=>nomatch h)⟩ ?_ fun s z=>⟨s,rfl,z⟩
    rintro pre x post e s ⟨vs,o5,o6,rfl,hvl,hg⟩
    have hpl : pre.length≤63:=by have:=congrArg List.length e; rw [List.length_append] at this; omega
    obtain ⟨_,f1,o,rfl,ho⟩:=z8S (x / sh % 40320) m (by omega)
    obtain ⟨_,f2,q,rfl,_,hq⟩:=y3n (x / sh % 40320) (m:=m) (by omega) h0 (l:=l) (z1n hp)
    have hq : q.Perm (List.range m):=hq.trans hp
    have fin : ∀ o : List Nat,o.Perm (List.range m)->∀ b∈vs ++ [((1 + x / 80640 % (10 ^ 30 - 1),o) : Bl)],b.2.Perm (List.range m):=fun o ho b hb=>by
      rcases List.mem_append.mp hb with z | z
      · exact hg b z
      · rw [List.mem_singleton.mp z]; exact ho
    by_cases hx : x % sh > 0
    · have dd : decide (x % sh > 0)=true:=decide_eq_true hx
      simp_all! only [v9,d4,f1,d9,dd,f2,v8,p30,d30,tt,z8j,imb,apb (show vs.length≤1000000 by omega),z0d]
      exact ⟨_,_,_,rfl,by simp [hvl],fin q hq⟩
    · have dd : decide (x % sh > 0)=false:=decide_eq_false hx
      simp_all! only [v9,d4,f1,d9,dd,v8,p30,d30,tt,z8j,imb,apb (show vs.length≤1000000 by omega),z0d]
      exact ⟨_,_,_,rfl,by simp [hvl],fin o ho⟩
  · rintro s ⟨vs,o5,o6,rfl,hvl,hg⟩
    have fin : ∀ {vs : List Bl} {s : SS},(∃ o5 o6 : Option SD,s=[some (.sh (.scr ns)),some (.sh (.int (m : Int))),some (.sh (thD l)),some (.sh (.int sh)),some (.ow (blD vs)),o5,o6])->vs≠[]->vs.length≤800->(∀ b∈vs,b.2.Perm (List.range m))->hol (z4z (ifO (z0C (L2.d2 eqD (L2.d2 z5x (z0k sumF [(mkL (z1M (z3U (z0f 4)) z6U (L2.d2 ixD (z0f 7) (dC (.int 0)))))]) (dC (.int 2))) (dC (.int 0)))) (st0 4 (dC (.int 0)) (mkT (z0m [(L2.d2 z9e (L2.d2 ixD (L2.d2 ixD (z0f 4) (dC (.int 0))) (dC (.int 0))) (dC (.int 1))),(L2.d2 ixD (L2.d2 ixD (z0f 4) (dC (.int 0))) (dC (.int 1)))]))) z1s s) (y2r 4)) fun o=>∃ d,o = .rt d∧∃ vs : List Bl,d=blD vs∧vs≠[]∧vs.length≤800∧(∀ b∈vs,b.2.Perm (List.range m))∧z7j (vs.map tb) % 2=1:=by
      rintro vs s ⟨o5,o6,rfl⟩ hne hl hg
      have cx : z5A (some ((vs.map tb).map z3Q)) (z5X z6U (L2.d2 ixD (z0f 7) (dC (.int 0))) [some (.scr ns),some (.int (m : Int)),some (thD l),some (.int sh),some (blD vs),o5.map SD.val,o6.map SD.val])=some (((vs.map tb).map (·.1)).map .int):=by
        rw [z3u (enc:=z3Q) (fun b=>D.int b.1) (by rw [List.length_map]; omega) fun b hb=>by simp! only [y2b]]
        simp only [List.map_map]
        rfl
      have sv : ((vs.map tb).map (·.1)).sum=z7j (vs.map tb):=rfl
      by_cases hz : z7j (vs.map tb) % 2=0
      · have dz : decide (z7j (vs.map tb) % 2=0)=true:=decide_eq_true hz
        obtain ⟨b,r,hv⟩ : ∃ b r,vs=b :: r:=by
          cases vs with
          | nil=>exact absurd rfl hne
          | cons b r=>exact ⟨b,r,rfl⟩
        have i0 : ixD (blD vs) (.int 0)=some (z3Q (tb b)):=by rw [hv]; exact y2J
        have j0 : ixD (z3Q (tb b)) (.int 0)=some (.int b.1):=rfl
        have j1 : ixD (z3Q (tb b)) (.int 1)=some (ttD b.2):=by rw [y3p]; show some (y1J (iO b.2))=_; rw [y6J]
        have st : st0V (some (blD vs)) (some (.int 0)) (some (z3Q (tb (b.1 + 1,b.2))))=some (blD ((b.1 + 1,b.2) :: r)):=by
          rw [hv]
          show ((ixN ((b :: r).map tb |>.map z3Q).length 0).map fun k=>D.lst (((b :: r).map tb |>.map z3Q).set k (z3Q (tb (b.1 + 1,b.2)))))=_
          rw [show ixN ((b :: r).map tb |>.map z3Q).length 0=some 0 from ixN_nat (by simp)]
          rfl
        have im : z9P (some (z3Q (tb (b.1 + 1,b.2))))=some (z3Q (tb (b.1 + 1,b.2))):=y3V (y3g _)
        simp! only [sqb,cx,y2q,sv,d2,dz,i0,j0,j1,z8j,im,st,z0d]
        rw [hv] at hl hg hz
        refine ⟨_,rfl,_,rfl,by simp,by simp at hl ⊢; omega,fun c hc=>?_,?_⟩
        · rcases List.mem_cons.mp hc with z | z
          · rw [z]; exact hg b List.mem_cons_self
          · exact hg c (List.mem_cons_of_mem _ z)
        · have e1 : z7j ((b :: r).map tb)=b.1 + z7j (r.map tb):=rfl
          have e2 : z7j ((((b.1 + 1,b.2) : Bl) :: r).map tb)=b.1 + 1 + z7j (r.map tb):=rfl
          rw [e1] at hz
          rw [e2]
          omega
      · have dz : decide (z7j (vs.map tb) % 2=0)=false:=decide_eq_false hz
        simp! only [sqb,cx,y2q,sv,d2,dz,z0d]
        exact ⟨_,rfl,vs,rfl,hne,by omega,hg,by omega⟩
    by_cases hz : vs.length=0
    · have hv : vs=[]:=List.length_eq_zero_iff.mp hz
      subst hv
      have d0 : decide ((([] : List Bl).length : Int)=0)=true:=rfl
      simp! only [lnb,d0,e2,p30,d30,tt,z8j,imb,apb (show ([] : List Bl).length≤1000000 by simp),List.nil_append]
      have:=fin (vs:=[((1 + c2 % (10 ^ 30 - 1),l) : Bl)]) ⟨z7m 4 o5,z7m 4 o6,rfl⟩ (by simp) (by simp) fun b hb=>by
        rw [List.mem_singleton] at hb
        rw [hb]
        exact hp
      simp! only [] at this
      exact this
    · have d0 : decide ((vs.length : Int)=0)=false:=decide_eq_false (by omega)
      simp! only [lnb,d0]
      have:=fin (vs:=vs) ⟨o5,o6,rfl⟩ (fun z=>hz (by rw [z]; rfl)) (by omega) hg
      simp! only [] at this
      exact this
noncomputable def lnG (n : Nat) (o : List Nat) (j : Nat) : List Nat:=o.take j ++ [n] ++ o.drop j
noncomputable def lnE (n : Nat) (F : List (List Nat)) : List (List Nat):=F.flatMap fun o=>(List.range (o.length + 1)).map (lnG n o)
noncomputable def lnP : Nat->List (List Nat)
  | 0=>[[]]
  | n + 1=>lnE n (lnP n)
theorem lnP_mem : ∀ {n : Nat} {l : List Nat},l∈lnP n↔l.Perm (List.range n)
  | 0,l=>by
    show l∈[[]]↔l.Perm []
    rw [List.mem_singleton]
    exact ⟨fun h=>by rw [h],fun h=>h.eq_nil⟩
  | n + 1,l=>by
    show l∈lnE n (lnP n)↔_
    unfold lnE
    rw [List.mem_flatMap,List.range_succ]
    constructor
    · rintro ⟨o,ho,hl⟩
      obtain ⟨j,_,rfl⟩:=List.mem_map.mp hl
      have h1:=lnP_mem.mp ho
      have h2 : (lnG n o j).Perm (o ++ [n]):=by
        have e : lnG n o j=o.take j ++ n :: o.drop j:=by unfold lnG; rw [List.append_assoc]; rfl
        rw [e]
        refine List.perm_middle.trans ?_
        rw [List.take_append_drop]
        exact (List.perm_append_singleton _ _).symm
      exact h2.trans (h1.append_right _)
    · intro h
      have hn : n∈l:=h.mem_iff.mpr (by simp)
      obtain ⟨a,b,rfl⟩:=List.append_of_mem hn
      have h1 : (n :: (a ++ b)).Perm (n :: List.range n):=List.perm_middle.symm.trans (h.trans (List.perm_append_singleton _ _))
      refine ⟨a ++ b,lnP_mem.mpr h1.cons_inv,List.mem_map.mpr ⟨a.length,List.mem_range.mpr (by simp; omega),?_⟩⟩
      unfold lnG
      simp
theorem y3v : ∀ {n : Nat},n≤5->(lnP n).length≤5 ^ n
  | 0,_=>by simp [lnP]
  | n + 1,h=>by
    have ih:=y3v (n:=n) (by omega)
    have key : ∀ {F : List (List Nat)},(∀ o∈F,o.length≤4)->(lnE n F).length≤5 * F.length:=by
      intro F
      induction F with
      | nil=>intro _; simp [lnE]
      | cons o F ihF=>
        intro hF
        have e : lnE n (o :: F)=(List.range (o.length + 1)).map (lnG n o) ++ lnE n F:=by unfold lnE; rw [List.flatMap_cons]
        have h1:=ihF fun q hq=>hF q (List.mem_cons_of_mem _ hq)
        have h2:=hF o List.mem_cons_self
        rw [e,List.length_append,List.length_map,List.length_range,List.length_cons]
        omega
    have:=key (F:=lnP n) fun o ho=>by have:=z1n (lnP_mem.mp ho); omega
    show (lnE n (lnP n)).length≤_
    rw [Nat.pow_succ]
    omega
theorem y5V {m : Nat} (hm : m≤5) : z2e [.int (m : Int)]=some (.lst ((lnP m).map thD)):=by
  refine z0K rfl ?_
  have rn : y4O (some (.int (m : Int)))=some (z4d 0 m):=z3a (by omega)
  have l0 : D.lst [D.lst []] = .lst ((lnP 0).map thD):=rfl
  simp! only [z3J,z3c,rn]
  rw [l0]
  have len5 : ∀ n≤5,(lnP n).length≤3125:=fun n hn=>Nat.le_trans (y3v hn) (Nat.pow_le_pow_right (n:=5) (by omega) hn)
  refine z0B (I:=fun s=>∃ o2 o3 o4 o5,s=[some (.sh (.int (m : Int))),some (.ow (.lst ((lnP m).map thD))),o2,o3,o4,o5]) ?_ ?_
  · refine z7I (fun n s=>∃ o2 o3 o4 o5,s=[some (.sh (.int (m : Int))),some (.ow (.lst ((lnP n).map thD))),o2,o3,o4,o5]) ⟨_,_,_,_,rfl⟩ ?_ fun s z=>⟨s,rfl,z⟩
    rintro n hn s ⟨o2,o3,o4,o5,rfl⟩
    have nl : D.lst [] = .lst ((lnE n []).map thD):=rfl
    simp! only [z3c,Int.zero_add]
    rw [nl]
    refine z0B (I:=fun s=>∃ o4 o5,s=[some (.sh (.int (m : Int))),some (.sh (.lst ((lnP n).map thD))),some (.sh (.int (n : Int))),some (.ow (.lst ((lnE n (lnP n)).map thD))),o4,o5]) ?_ ?_
    · refine z2p (enc:=thD) (fun pre s=>∃ o4 o5,s=[some (.sh (.int (m : Int))),some (.sh (.lst ((lnP n).map thD))),some (.sh (.int (n : Int))),some (.ow (.lst ((lnE n pre).map thD))),o4,o5]) ⟨_,_,rfl⟩ ?_ fun s z=>⟨s,rfl,z⟩
      rintro pre o post e s ⟨o4,o5,rfl⟩
      have ho : o∈lnP n:=by rw [e]; simp
      have ol:=z1n (lnP_mem.mp ho)
      have r1 : y4O (some (.int ((o.length : Int) + 1)))=some (z4d 0 (o.length + 1)):=z3a (m:=o.length + 1) (by omega)
      have ee : lnE n (pre ++ [o])=lnE n pre ++ (List.range (o.length + 1)).map (lnG n o):=by unfold lnE; rw [List.flatMap_append,List.flatMap_cons,List.flatMap_nil,List.append_nil]
      have el : lnE n (lnP n)=lnE n pre ++ lnE n (o :: post):=by rw [e]; unfold lnE; rw [List.flatMap_append]
      have lp : (lnE n pre).length≤3125:=by
        have h1 : (lnP (n + 1)).length≤3125:=len5 (n + 1) (by omega)
        have h2 : (lnE n (lnP n)).length≤3125:=h1
        rw [el,List.length_append] at h2
        omega
      simp! only [z5s,r1]
      rw [ee]
      refine z7I (fun j s=>∃ o5,s=[some (.sh (.int (m : Int))),some (.sh (.lst ((lnP n).map thD))),some (.sh (.int (n : Int))),some (.ow (.lst ((lnE n pre ++ (List.range j).map (lnG n o)).map thD))),some (.sh (thD o)),o5]) ⟨o5,by simp⟩ ?_ fun s ⟨o5,z⟩=>⟨_,o5,z⟩
      rintro j hj s ⟨o5,rfl⟩
      have c1 : cut3 (some (thD o)) (some none) (some (some (j : Int)))=some ((o.take j).map nD):=by
        show some (z4Q (o.map nD) none (some (j : Int)))=_
        rw [z8I (by rw [List.length_map]; omega),List.map_take]
      have c2 : cut3 (some (thD o)) (some (some (j : Int))) (some none)=some ((o.drop j).map nD):=by
        show some (z4Q (o.map nD) (some (j : Int)) none)=_
        rw [z3G,List.map_drop]
      have k1 : y5h (some (.lst ((o.take j).map nD))) (some (.lst [.int (n : Int)]))=some ((o.take j ++ [n]).map nD):=y0n (a:=o.take j) (b:=[n]) (by rw [List.length_take]; simp; omega)
      have k2 : y5h (some (.lst ((o.take j ++ [n]).map nD))) (some (.lst ((o.drop j).map nD)))=some ((lnG n o j).map nD):=y0n (a:=o.take j ++ [n]) (b:=o.drop j) (by rw [List.length_append,List.length_take,List.length_drop]; simp; omega)
      have ap : m0V z5S (some (.lst ((lnE n pre ++ (List.range j).map (lnG n o)).map thD))) (some [.lst ((lnG n o j).map nD)])=some (.lst ((lnE n pre ++ (List.range (j + 1)).map (lnG n o)).map thD)):=by
        rw [List.range_succ,List.map_append (f:=lnG n o),← List.append_assoc]
        exact z5L (enc:=thD) (xs:=lnE n pre ++ (List.range j).map (lnG n o)) (x:=lnG n o j) (by rw [List.length_append,List.length_map,List.length_range]; omega)
      simp! only [Int.zero_add,c1,c2,k1,k2,z5m,ap,z0d]
      exact ⟨_,rfl⟩
    · rintro s ⟨o4,o5,rfl⟩
      simp! only [z0d]
      exact ⟨_,_,_,_,rfl⟩
  · rintro s ⟨o2,o3,o4,o5,rfl⟩
    simp! only [z0d]
theorem y6B {a b : List Nat} : PyData.eqv (toP (ttD a)) (toP (ttD b))=decide (a=b):=by
  show PyData.eqvAll (z4R (a.map nD)) (z4R (b.map nD))=_
  rw [z1V,z1V,y3M]
  refine decide_eq_decide.mpr ⟨fun h=>?_,fun h=>by rw [h]⟩
  have:=congrArg (List.map Int.toNat) h
  rw [List.map_map,List.map_map] at this
  have e : ∀ l : List Nat,l.map (Int.toNat ∘ fun n : Nat=>(n : Int))=l:=fun l=>by
    refine Eq.trans (List.map_congr_left fun x _=>?_) (List.map_id l)
    show ((x : Int)).toNat=x
    omega
  rw [e,e] at this
  exact this
theorem nin_tts {o : List Nat} {us : List (List Nat)} : y6j (ttD o) (.lst (us.map ttD))=some (.bl (!us.contains o)):=by
  have o1 : okP (ttD o)=true:=z5u (z5I fun _ _=>z6q) (by omega)
  have o2 : okP (.lst (us.map ttD))=true:=z5u (n:=2) (z7N fun u _=>z5I fun _ _=>z6q) (by omega)
  unfold y6j
  show (if (okP (ttD o) && okP (.lst (us.map ttD)))=true then some ((us.map ttD).any fun y=>PyData.eqv (toP y) (toP (ttD o))) else none).map (fun b=>D.bl (!b))=_
  rw [o1,o2,Bool.and_true,if_pos rfl,List.any_map]
  have : (us.any ((fun y=>PyData.eqv (toP y) (toP (ttD o))) ∘ ttD))=us.contains o:=by
    rw [Bool.eq_iff_iff,List.any_eq_true,List.contains_iff_mem]
    constructor
    · rintro ⟨u,hu,h⟩
      have h : PyData.eqv (toP (ttD u)) (toP (ttD o))=true:=h
      rw [y6B] at h
      rw [← of_decide_eq_true h]; exact hu
    · intro h
      exact ⟨o,h,by show PyData.eqv (toP (ttD o)) (toP (ttD o))=true; rw [y6B]; simp⟩
  rw [this]
  rfl
theorem some_eq {bs : List (Int × List Nat)} (hb : bs.length≤900) {m : Nat} (h0 : 0 < m) (hm : m≤5) (hp : ∀ b∈bs,b.2.Perm (List.range m)) : z1i [.lst (bs.map vtD),.int (m : Int)]=some (.bl ((lnP m).any fun l=>bs.all fun b=>ftB b.2 l)):=by
  refine z0K rfl ?_
  have ib : ∀ b : Int × List Nat,ixD (vtD b) (.int 1)=some (ttD b.2):=fun b=>z0u (j:=1) rfl
  have nl : D.lst [] = .lst (([] : List (List Nat)).map ttD):=rfl
  have le:=y5V hm
  obtain ⟨vv,hvv⟩ : ∃ q,q=D.lst (bs.map vtD):=⟨_,rfl⟩
  have sv : y1r vv=some (bs.map vtD):=by rw [hvv]; rfl
  rw [← hvv]
  simp! only [z2h,z3c,sv]
  rw [nl]
  refine z0B (I:=fun s=>∃ (us : List (List Nat)) (o3 : Option SD),s=[some (.sh vv),some (.sh (.int (m : Int))),some (.ow (.lst (us.map ttD))),o3,none,none,none]∧us.length≤bs.length∧∀ o,o∈us↔∃ b∈bs,b.2=o) ?_ ?_
  · refine z2p (enc:=vtD) (fun pre s=>∃ (us : List (List Nat)) (o3 : Option SD),s=[some (.sh vv),some (.sh (.int (m : Int))),some (.ow (.lst (us.map ttD))),o3,none,none,none]∧us.length≤pre.length∧∀ o,o∈us↔∃ b∈pre,b.2=o) ⟨[],_,rfl,by simp,fun o=>by simp⟩ ?_ fun s z=>⟨s,rfl,z⟩
    rintro pre b post e s ⟨us,o3,rfl,hul,hu⟩
    have hpl : pre.length≤900:=by have:=congrArg List.length e; rw [List.length_append] at this; omega
    have ni:=nin_tts (o:=b.2) (us:=us)
    cases hc : us.contains b.2 with
    | true=>
      rw [hc] at ni
      simp_all! only [ib,ni,z0d]
      refine ⟨us,_,rfl,by rw [List.length_append]; omega,fun o=>(hu o).trans ?_⟩
      have hm':=(hu b.2).mp (by simpa using hc)
      constructor
      · rintro ⟨c,hc,ec⟩
        exact ⟨c,List.mem_append_left _ hc,ec⟩
      · rintro ⟨c,hc,ec⟩
        rcases List.mem_append.mp hc with z | z
        · exact ⟨c,z,ec⟩
        · rw [List.mem_singleton.mp z] at ec
          rw [← ec]; exact hm'
    | false=>
      rw [hc] at ni
      have im : z8p (some [ttD b.2])=some [ttD b.2]:=z5N (z5Z [b.2])
      have ap:=z5L (enc:=ttD) (xs:=us) (x:=b.2) (by omega)
      simp_all! only [ib,ni,im,ap,z0d]
      refine ⟨us ++ [b.2],_,rfl,by rw [List.length_append,List.length_append]; simp; omega,fun o=>?_⟩
      rw [List.mem_append,List.mem_singleton,hu o]
      constructor
      · rintro (⟨c,hc,ec⟩ | z)
        · exact ⟨c,List.mem_append_left _ hc,ec⟩
        · exact ⟨b,by simp,z.symm⟩
      · rintro ⟨c,hc,ec⟩
        rcases List.mem_append.mp hc with z | z
        · exact .inl ⟨c,z,ec⟩
        · rw [List.mem_singleton.mp z] at ec
          exact .inr ec.symm
  · rintro s ⟨us,o3,rfl,hul,hu⟩
    have key : ∀ l : List Nat,(us.all fun o=>ftB o l)=bs.all fun b=>ftB b.2 l:=fun l=>by
      rw [Bool.eq_iff_iff,List.all_eq_true,List.all_eq_true]
      exact ⟨fun h b hb=>h b.2 ((hu b.2).mpr ⟨b,hb,rfl⟩),fun h o ho=>by obtain ⟨b,hb,e⟩:=(hu o).mp ho; rw [← e]; exact h b hb⟩
    have lf : ∀ o∈us,∀ l∈lnP m,z1f [ttD o,thD l]=some (.bl (ftB o l)):=fun o ho l hl=>by
      obtain ⟨b,hbm,e⟩:=(hu o).mp ho
      have h:=hp b hbm
      rw [e] at h
      have pl:=lnP_mem.mp hl
      exact z7d (fun x hx=>pl.mem_iff.mpr (h.mem_iff.mp hx)) (fun z=>by have:=z1n h; rw [z] at this; simp at this; omega) (by have:=z1n h; omega)
    have fin : ((lnP m).any fun l=>bs.all fun b=>ftB b.2 l) = !((lnP m).all fun l=>!(us.all fun o=>ftB o l)):=by
      rw [Bool.eq_iff_iff,List.any_eq_true,Bool.not_eq_true',← Bool.not_eq_true,List.all_eq_true]
      constructor
      · rintro ⟨l,hl,h⟩ q
        have:=q l hl
        rw [key,h] at this
        cases this
      · intro q
        refine Classical.byContradiction fun z=>q fun l hl=>?_
        cases e : us.all fun o=>ftB o l with
        | false=>rfl
        | true=>exact (z ⟨l,hl,by rw [← key]; exact e⟩).elim
    rw [fin]
    simp! only [le]
    refine z5V (I:=fun s=>∃ o3 o4 o5 o6,s=[some (.sh vv),some (.sh (.int (m : Int))),some (.sh (.lst (us.map ttD))),o3,o4,o5,o6]) (c:=(lnP m).all fun l=>!(us.all fun o=>ftB o l)) (d:=.bl true) ?_ ?_ ?_
    · refine z7Z (enc:=thD) (X:=lnP m) (fun _ s=>∃ o3 o4 o5 o6,s=[some (.sh vv),some (.sh (.int (m : Int))),some (.sh (.lst (us.map ttD))),o3,o4,o5,o6]) (fun l=>!(us.all fun o=>ftB o l)) (.bl true) (pre:=[]) rfl ⟨_,_,_,_,rfl⟩ ?_
      rintro pre l post e s ⟨o3,o4,o5,o6,rfl⟩
      have hl : l∈lnP m:=by rw [e]; simp
      simp! only []
      refine z0B (I:=fun s=>∃ o6,s=[some (.sh vv),some (.sh (.int (m : Int))),some (.sh (.lst (us.map ttD))),o3,some (.sh (thD l)),some (.sh (.bl (us.all fun o=>ftB o l))),o6]) ?_ ?_
      · refine z2p (enc:=ttD) (fun pre s=>∃ o6,s=[some (.sh vv),some (.sh (.int (m : Int))),some (.sh (.lst (us.map ttD))),o3,some (.sh (thD l)),some (.sh (.bl (pre.all fun o=>ftB o l))),o6]) ⟨_,rfl⟩ ?_ fun s z=>⟨s,rfl,z⟩
        rintro pre2 o post2 e2 s ⟨o6,rfl⟩
        have lo:=lf o (by rw [e2]; simp) l hl
        have ea : ((pre2 ++ [o]).all fun o=>ftB o l)=((pre2.all fun o=>ftB o l) && ftB o l):=by rw [List.all_append,List.all_cons,List.all_nil,Bool.and_true]
        rw [ea]
        cases pre2.all fun o=>ftB o l <;> simp_all! only [lo,z0d,Bool.false_and,Bool.true_and] <;> exact ⟨_,rfl⟩
      · rintro s ⟨o6,rfl⟩
        cases us.all fun o=>ftB o l with
        | true=>
          simp_all! only [z0d]
          simp
        | false=>
          simp_all! only [z0d]
          exact ⟨_,rfl,_,_,_,_,rfl⟩
    · rintro hc s ⟨o3,o4,o5,o6,rfl⟩
      rw [hc]
      simp! only [z0d]
      rfl
    · intro hc
      rw [hc]
      rfl
theorem neLn : eqD (.str "line") (.str "line")=some (.bl true):=z9s (n:=0) ⟨by decide +kernel,Nat.le_refl 0⟩ (by omega)
theorem law_true (ns : List Int) (hns : ns.length≤63) : y1m [.scr ns]=some (.bl true):=by
  refine z0K rfl ?_
  obtain ⟨c0,e0⟩:=z9H ns 0
  have e0 : z0t [.scr ns,.int 0]=some (.int c0):=e0
  obtain ⟨c1,e1⟩:=z9H ns 1
  have e1 : z0t [.scr ns,.int 1]=some (.int c1):=e1
  have d5 : z5x (.int c0) (.int 5)=some (.int (c0 % 5)):=z4a (by omega)
  have v5 : z8w (.int c0) (.int 5)=some (.int (c0 / 5)):=z6V ⟨by omega,by omega⟩
  obtain ⟨k,ek,hk⟩:=z7K (x:=c0) (n:=5) (by omega)
  have ek : c0 % 5=(k : Int):=ek
  obtain ⟨m,hm⟩ : ∃ m : Nat,1 + (k : Int)=(m : Int):=⟨1 + k,by omega⟩
  obtain ⟨j,ej,hj⟩:=z7K (x:=c0 / 5) (n:=3) (by omega)
  have ej : c0 / 5 % 3=(j : Int):=ej
  have d3 : z5x (.int (c0 / 5)) (.int 3)=some (.int (j : Int)):=by rw [z4a (by omega),ej]
  obtain ⟨sh,hsh,esh⟩ : ∃ sh : Int,(0 < sh∧sh≤9)∧atI [D.int 2,.int 3,.int 9] (j : Int)=some (.int sh):=by
    rcases j with _ | _ | _ | j
    · exact ⟨2,by omega,z0u (j:=0) rfl⟩
    · exact ⟨3,by omega,z0u (j:=1) rfl⟩
    · exact ⟨9,by omega,z0u (j:=2) rfl⟩
    · omega
  have esh2 : ixD (.lst [D.int 2,.int 3,.int 9]) (.int (j : Int))=some (.int sh):=esh
  obtain ⟨_,e3,l,rfl,hp⟩:=z8S c1 m (by omega)
  obtain ⟨_,e4,bs,rfl,hne,hvl,hbp,hod⟩:=y3H ns hns (show m≤8 by omega) (show 0 < m by omega) hp hsh
  have hbd : blD bs = .lst (bs.map vtD):=vt_vot.symm
  rw [hbd] at e4
  have hv0 : 0 < bs.length:=List.length_pos_iff.mpr hne
  have hsum : sumB bs % 2≠0:=by rw [← y6W]; omega
  have so:=some_eq (show bs.length≤900 by omega) (show 0 < m by omega) (by omega) hbp
  have fb : z6j (some (bs.map vtD))=some (bs.map vtD):=z3e (imv bs)
  have lsf : z7U [.lst (bs.map vtD)]=some (bs.map vtD):=rfl
  have okv : ∀ b : Int × List Nat,okN 2 (vtD b):=fun b=>z9T fun d hd=>by
    rcases List.mem_cons.mp hd with z | z
    · rw [z]; exact okN_up z2J (by omega)
    · rw [List.mem_singleton.mp z]; exact z5I fun _ _=>z6q
  have ne : neD (.lst (bs.map vtD)) (.lst (bs.map vtD))=some (.bl false):=z5T (n:=3) (z7N fun b _=>okv b) (by omega)
  have vo : ∀ d : D,valO (some (.val d))=some d:=fun _=>rfl
  have ftli : ∀ l,l∈lnP m->∀ b∈bs,liB b.2 l=ftB b.2 l:=fun l hl b hb=>y5t (z4w (hbp b hb)) fun x hx=>(lnP_mem.mp hl).mem_iff.mpr ((hbp b hb).mem_iff.mp hx)
  cases hs : (lnP m).any fun l=>bs.all fun b=>ftB b.2 l with
  | true=>
    rw [hs] at so
    obtain ⟨l1,hl1,hf1⟩:=List.any_eq_true.mp hs
    obtain ⟨l0,lo,hl0,hf0⟩:=y3r hv0 (by omega) (show 0 < m by omega) (by omega) hbp hsum (lnP_mem.mp hl1) fun b hb=>by rw [ftli l1 hl1 b hb]; exact List.all_eq_true.mp hf1 b hb
    have hh:=y1M (show bs.length≤900 by omega) (show 0 < m by omega) (by omega) hbp hl0 hf0
    have i0 : ixD (.tup [.str "line",thD l0]) (.int 0)=some (.str "line"):=z0u (j:=0) rfl
    have i1 : ixD (.tup [.str "line",thD l0]) (.int 1)=some (thD l0):=z0u (j:=1) rfl
    have itp : isF "tuple" (.tup [.str "line",thD l0])=true:=rfl
    have lp : z3j [.tup [.str "line",thD l0]]=some (.int 2):=rfl
    have e22 : eqD (.int 2) (.int 2)=some (.bl true):=z9s z2J (by omega)
    obtain ⟨pp,hpp⟩ : ∃ q,q=D.tup [.str "line",thD l0]:=⟨_,rfl⟩
    rw [← hpp] at lo i0 i1 itp lp
    simp_all! only [y5N,e0,e1,d5,ek,hm,e3,v5,d3,esh,esh2,e4,lsf,fb,z7z,lo,vo,itp,lp,e22,i0,neLn,ne,i1,so,hh,z0d]
  | false=>
    rw [hs] at so
    have hB : Brd bs m:=fun l' hl' hM=>by
      have h1:=List.any_eq_false.mp hs l' (lnP_mem.mpr hl')
      refine h1 (List.all_eq_true.mpr fun b hb=>?_)
      rw [← ftli l' (lnP_mem.mpr hl') b hb]
      exact md_li (z4w (hbp b hb)) ((hbp b hb).trans hl'.symm) (hM b hb)
    have hBar:=brd_bar hne hbp hB
    obtain ⟨w,pth,ppl,epap,hw,hhold⟩:=y3a (show bs.length≤900 by omega) (show m≤8 by omega) hbp hBar
    have lo:=y1x hv0 (by omega) (show 0 < m by omega) (by omega) hbp hsum hB
    rw [epap] at lo
    have lp : z3j [z6E w pth ppl]=some (.int 3):=rfl
    have itp : isF "tuple" (z6E w pth ppl)=true:=rfl
    have e33 : eqD (.int 3) (.int 3)=some (.bl true):=z9s z2J (by omega)
    obtain ⟨pp,hpp⟩ : ∃ q,q=z6E w pth ppl:=⟨_,rfl⟩
    rw [← hpp] at lo lp itp hhold
    simp_all! only [y5N,e0,e1,d5,ek,hm,e3,v5,d3,esh,esh2,e4,lsf,fb,z7z,lo,vo,itp,lp,e33,ne,so,hhold,z0d]
end Prg
open PySem PySem.W PyProof.Rows
set_option maxRecDepth 100000 in
set_option maxHeartbeats 0 in
theorem PySem.Challenge.cw_askorder_k56_whole_line_or_bar_holds : PySem.Challenge.rw_askorder_k56_whole_line_or_bar.Holds := by
  w_on; o_law; k_head; (case hw=>w_witness2)
  k_fill
  refine Prg.walk (l:=PySem.Challenge.rw_askorder_k56_whole_line_or_bar) rfl rfl Prg.law_true (fun w h Y=>PySem.W.kIn_of Y) ?F
  case F=>
    intro w mg fa h KX G hmg
    refine' Prg.all_mk KX G hmg ?a_is_thing ?l_is_thing ?c_is_thing ?k_is_thing ?a_tells_each_once ?l_tells_each_once ?c_tells_each_once ?k_tells_each_once ?a_asked ?l_asked ?c_asked ?k_asked ?a_voices ?l_voices ?c_voices ?k_voices ?a_puts_ahead ?l_puts_ahead ?c_puts_ahead ?k_puts_ahead ?a_lies_on ?l_lies_on ?c_lies_on ?k_lies_on ?a_are_side_by_side ?l_are_side_by_side ?c_are_side_by_side ?k_are_side_by_side ?a_line_of ?l_line_of ?c_line_of ?k_line_of ?a_lines_for ?l_lines_for ?c_lines_for ?k_lines_for ?a_bar_of ?l_bar_of ?c_bar_of ?k_bar_of ?a_picks ?l_picks ?c_picks ?k_picks ?a_with_one_more ?l_with_one_more ?c_with_one_more ?k_with_one_more ?a_bar_among ?l_bar_among ?c_bar_among ?k_bar_among ?a_wanted_of ?l_wanted_of ?c_wanted_of ?k_wanted_of ?a_pairs_with_last ?l_pairs_with_last ?c_pairs_with_last ?k_pairs_with_last ?a_pairs_with_between ?l_pairs_with_between ?c_pairs_with_between ?k_pairs_with_between ?a_first_places ?l_first_places ?c_first_places ?k_first_places ?a_puts_all_ahead ?l_puts_all_ahead ?c_puts_all_ahead ?k_puts_all_ahead ?a__law_cell_at ?l__law_cell_at ?c__law_cell_at ?k__law_cell_at ?a__law_whole ?l__law_whole ?c__law_whole ?k__law_whole ?a__law_order ?l__law_order ?c__law_order ?k__law_order ?a__law_on_line ?l__law_on_line ?c__law_on_line ?k__law_on_line ?a__law_fits ?l__law_fits ?c__law_fits ?k__law_fits ?a__law_votes ?l__law_votes ?c__law_votes ?k__law_votes ?a__law_last ?l__law_last ?c__law_last ?k__law_last ?a__law_bars ?l__law_bars ?c__law_bars ?k__law_bars ?a__law_line_holds ?l__law_line_holds ?c__law_line_holds ?k__law_line_holds ?a__law_bar_holds ?l__law_bar_holds ?c__law_bar_holds ?k__law_bar_holds ?a__law_lines ?l__law_lines ?c__law_lines ?k__law_lines ?a__law_some_line ?l__law_some_line ?c__law_some_line ?k__law_some_line ?a_law ?l_law ?c_law ?k_law ?x_BadBallot ?q_BadBallot ?x_Even ?q_Even ?z_int ?z_isinstance ?z_bool ?z_len ?z_sum ?z_max ?z_min ?z_range ?z_all ?z_tuple ?z_enumerate ?z_list ?z_sorted ?z_set
    (case a_is_thing=>k_is)
    (case l_is_thing=>k_is)
    (case c_is_thing=>k_is)
    (case k_is_thing=>k_is)
    (case a_tells_each_once=>k_is)
    (case l_tells_each_once=>k_is)
    (case c_tells_each_once=>k_is)
    (case k_tells_each_once=>k_is)
    (case a_asked=>k_is)
    (case l_asked=>k_is)
    (case c_asked=>k_is)
    (case k_asked=>k_is)
    (case a_voices=>k_is)
    (case l_voices=>k_is)
    (case c_voices=>k_is)
    (case k_voices=>k_is)
    (case a_puts_ahead=>k_is)
    (case l_puts_ahead=>k_is)
    (case c_puts_ahead=>k_is)
    (case k_puts_ahead=>k_is)
    (case a_lies_on=>k_is)
    (case l_lies_on=>k_is)
    (case c_lies_on=>k_is)
    (case k_lies_on=>k_is)
    (case a_are_side_by_side=>k_is)
    (case l_are_side_by_side=>k_is)
    (case c_are_side_by_side=>k_is)
    (case k_are_side_by_side=>k_is)
    (case a_line_of=>k_is)
    (case l_line_of=>k_is)
    (case c_line_of=>k_is)
    (case k_line_of=>k_is)
    (case a_lines_for=>k_is)
    (case l_lines_for=>k_is)
    (case c_lines_for=>k_is)
    (case k_lines_for=>k_is)
    (case a_bar_of=>k_is)
    (case l_bar_of=>k_is)
    (case c_bar_of=>k_is)
    (case k_bar_of=>k_is)
    (case a_picks=>k_is)
    (case l_picks=>k_is)
    (case c_picks=>k_is)
    (case k_picks=>k_is)
    (case a_with_one_more=>k_is)
    (case l_with_one_more=>k_is)
    (case c_with_one_more=>k_is)
    (case k_with_one_more=>k_is)
    (case a_bar_among=>k_is)
    (case l_bar_among=>k_is)
    (case c_bar_among=>k_is)
    (case k_bar_among=>k_is)
    (case a_wanted_of=>k_is)
    (case l_wanted_of=>k_is)
    (case c_wanted_of=>k_is)
    (case k_wanted_of=>k_is)
    (case a_pairs_with_last=>k_is)
    (case l_pairs_with_last=>k_is)
    (case c_pairs_with_last=>k_is)
    (case k_pairs_with_last=>k_is)
    (case a_pairs_with_between=>k_is)
    (case l_pairs_with_between=>k_is)
    (case c_pairs_with_between=>k_is)
    (case k_pairs_with_between=>k_is)
    (case a_first_places=>k_is)
    (case l_first_places=>k_is)
    (case c_first_places=>k_is)
    (case k_first_places=>k_is)
    (case a_puts_all_ahead=>k_is)
    (case l_puts_all_ahead=>k_is)
    (case c_puts_all_ahead=>k_is)
    (case k_puts_all_ahead=>k_is)
    (case a__law_cell_at=>k_is)
    (case l__law_cell_at=>k_is)
    (case c__law_cell_at=>k_is)
    (case k__law_cell_at=>k_is)
    (case a__law_whole=>k_is)
    (case l__law_whole=>k_is)
    (case c__law_whole=>k_is)
    (case k__law_whole=>k_is)
    (case a__law_order=>k_is)
    (case l__law_order=>k_is)
    (case c__law_order=>k_is)
    (case k__law_order=>k_is)
    (case a__law_on_line=>k_is)
    (case l__law_on_line=>k_is)
    (case c__law_on_line=>k_is)
    (case k__law_on_line=>k_is)
    (case a__law_fits=>k_is)
    (case l__law_fits=>k_is)
    (case c__law_fits=>k_is)
    (case k__law_fits=>k_is)
    (case a__law_votes=>k_is)
    (case l__law_votes=>k_is)
    (case c__law_votes=>k_is)
    (case k__law_votes=>k_is)
    (case a__law_last=>k_is)
    (case l__law_last=>k_is)
    (case c__law_last=>k_is)
    (case k__law_last=>k_is)
    (case a__law_bars=>k_is)
    (case l__law_bars=>k_is)
    (case c__law_bars=>k_is)
    (case k__law_bars=>k_is)
    (case a__law_line_holds=>k_is)
    (case l__law_line_holds=>k_is)
    (case c__law_line_holds=>k_is)
    (case k__law_line_holds=>k_is)
    (case a__law_bar_holds=>k_is)
    (case l__law_bar_holds=>k_is)
    (case c__law_bar_holds=>k_is)
    (case k__law_bar_holds=>k_is)
    (case a__law_lines=>k_is)
    (case l__law_lines=>k_is)
    (case c__law_lines=>k_is)
    (case k__law_lines=>k_is)
    (case a__law_some_line=>k_is)
    (case l__law_some_line=>k_is)
    (case c__law_some_line=>k_is)
    (case k__law_some_line=>k_is)
    (case a_law=>k_is)
    (case l_law=>k_is)
    (case c_law=>k_is)
    (case k_law=>k_is)
    (case x_BadBallot=>k_is)
    (case q_BadBallot=>first | k_exc | kernel_rfl!)
    (case x_Even=>k_is)
    (case q_Even=>first | k_exc | kernel_rfl!)
    (case z_int=>k_is)
    (case z_isinstance=>k_is)
    (case z_bool=>k_is)
    (case z_len=>k_is)
    (case z_sum=>k_is)
    (case z_max=>k_is)
    (case z_min=>k_is)
    (case z_range=>k_is)
    (case z_all=>k_is)
    (case z_tuple=>k_is)
    (case z_enumerate=>k_is)
    (case z_list=>k_is)
    (case z_sorted=>k_is)
    (case z_set=>k_is)
