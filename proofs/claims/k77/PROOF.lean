import PyProof.Rows.All
import Wide.All
import OpenK.AllK
import Wide.FinOn
import Lean
import PyProof.EqAt
import PyProof.EqKinds
import PyProof.TupleCall
import PySem.Challenge.RW_askorder_k77_whole_top_rings
set_option Elab.async false
set_option linter.all false
set_option maxRecDepth 100000
noncomputable abbrev PySem.W.Fast.tw11965017579043568225:=PySem.Challenge.pw_askorder_k77_whole_top_rings
theorem PySem.W.Fast.te11965017579043568225 : PySem.Challenge.pw_askorder_k77_whole_top_rings=PySem.W.Fast.tw11965017579043568225:=rfl
namespace L2
open PySem PySem.Spec PyProof.Rows
noncomputable abbrev Key:=Sum Int Str
noncomputable def z8D : Key->Value->Bool
  | .inl k,v=>Value.isInt k v
  | .inr x,v=>Value.isStrOf x v
noncomputable def keyH (w : World) : Key->Int
  | .inl k=>hashInt k
  | .inr x=>hashStr w x
theorem z0F : ∀ {k : Key} {v : Value},z8D k v=true->(∃ i t,k=Sum.inl i∧v=Value.int i t)∨(∃ x t,k=Sum.inr x∧v=Value.str x t)
  | .inl i,v,h=>by
    obtain ⟨t,e⟩:=Value.isInt_shape (k:=i) (v:=v) h
    exact .inl ⟨i,t,rfl,e⟩
  | .inr x,v,h=>by
    obtain ⟨t,e⟩:=Value.isStrOf_shape (x:=x) (v:=v) h
    exact .inr ⟨x,t,rfl,e⟩
theorem y1i (i : Int) (t : Tok) : z8D (.inl i) (.int i t)=true:=by simp [z8D,Value.isInt]
theorem y2R (x : Str) (t : Tok) : z8D (.inr x) (.str x t)=true:=by simp [z8D,Value.isStrOf]
theorem key_ll (a b : Int) : decide ((Sum.inl a : Key)=Sum.inl b)=(a == b):=by
  by_cases e : a=b
  · subst e; simp
  · have h : ¬ (Sum.inl a : Key)=Sum.inl b:=fun q=>e (Sum.inl.inj q)
    rw [decide_eq_false h]
    exact (beq_eq_false_iff_ne.mpr e).symm
theorem key_rr (a b : Str) : decide ((Sum.inr a : Key)=Sum.inr b)=decide (a=b):=by
  by_cases e : a=b
  · subst e; simp
  · have h : ¬ (Sum.inr a : Key)=Sum.inr b:=fun q=>e (Sum.inr.inj q)
    rw [decide_eq_false h,decide_eq_false e]
theorem key_lr (a : Int) (b : Str) : decide ((Sum.inl a : Key)=Sum.inr b)=false:=decide_eq_false (fun q=>nomatch q)
theorem key_rl (a : Str) (b : Int) : decide ((Sum.inr a : Key)=Sum.inl b)=false:=decide_eq_false (fun q=>nomatch q)
noncomputable def z0Y (prog : Program) (w : World) : PySem.KeyKind prog w Key where
  is:=z8D
  hash:=keyH w
  inj:=fun v a b ha hb=>by
    rcases z0F ha with ⟨i,t,rfl,rfl⟩ | ⟨x,t,rfl,rfl⟩
    · rcases z0F hb with ⟨j,u,rfl,e⟩ | ⟨y,u,rfl,e⟩
      · injection e with e1 _; rw [e1]
      · exact nomatch e
    · rcases z0F hb with ⟨j,u,rfl,e⟩ | ⟨y,u,rfl,e⟩
      · exact nomatch e
      · injection e with e1 _; rw [e1]
  byValue:=fun k v h=>by
    rcases z0F h with ⟨i,t,rfl,rfl⟩ | ⟨x,t,rfl,rfl⟩ <;> rfl
  pyHash:=fun hv h=>by
    rcases z0F hv with ⟨i,t,rfl,rfl⟩ | ⟨x,t,rfl,rfl⟩
    · exact wpAny_pyHash_int h
    · exact wpAny_pyHash_str h
  eqBool:=fun hu hv h=>by
    rcases z0F hu with ⟨i,t,rfl,rfl⟩ | ⟨x,t,rfl,rfl⟩
    · rcases z0F hv with ⟨j,u,rfl,rfl⟩ | ⟨y,u,rfl,rfl⟩
      · rw [key_ll] at h; exact wpAny_eqBool_int h
      · rw [key_lr] at h; exact SeqAt.EqAt.int_str i t y u _ _ _ _ h
    · rcases z0F hv with ⟨j,u,rfl,rfl⟩ | ⟨y,u,rfl,rfl⟩
      · rw [key_rl] at h; exact SeqAt.EqAt.str_int x t j u _ _ _ _ h
      · rw [key_rr] at h; exact wpAny_eqBool_str h
  «strs»:=fun k x t v h=>by
    rcases z0F h with ⟨i,u,rfl,e⟩ | ⟨y,u,rfl,e⟩
    · exact nomatch e
    · injection e with e1 _
      subst e1
      cases v <;> rfl
theorem z8A (prog : Program) (w : World) (i : Int) (t : Tok) : (z0Y prog w).is (.inl i) (.int i t)=true:=y1i i t
theorem z8P (prog : Program) (w : World) (x : Str) (t : Tok) : (z0Y prog w).is (.inr x) (.str x t)=true:=y2R x t
end L2
namespace L2
open PySem PySem.Spec PyProof.Rows
inductive V where
  | non | bl (b : Bool) | int (i : Int) | str (x : Str) | byt (b : Array UInt8) | flt (b : UInt64) | ref (a : Addr) | ty (n : String)
  deriving DecidableEq
noncomputable def RelV : V->Value->Prop
  | .non,u=>u=Value.none
  | .bl b,u=>u=Value.bool b
  | .int i,u=>∃ t,u=Value.int i t
  | .str x,u=>∃ t,u=Value.str x t
  | .byt b,u=>∃ t,u=Value.bytes b t
  | .flt b,u=>∃ t,u=Value.float b t
  | .ref a,u=>u=Value.ref a
  | .ty n,u=>u=Value.type n
noncomputable abbrev Vals : List V->List Value->Prop:=Paired RelV
theorem Vals.length {xs : List V} {us : List Value} (r : Vals xs us) : xs.length=us.length:=Paired.length r
theorem Vals.get : ∀ {xs : List V} {us : List Value} {i : Nat} {x : V},Vals xs us->xs[i]? = some x->∃ u,us[i]? = some u∧RelV x u
  | _,_,_,_,.nil,e=>by simp at e
  | _,_,0,_,.cons r _,e=>by simp at e; subst e; exact ⟨_,rfl,r⟩
  | _,_,i + 1,x,.cons _ t,e=>by
    obtain ⟨u,h1,h2⟩:=Vals.get (i:=i) (x:=x) t (by simpa using e)
    exact ⟨u,by simpa using h1,h2⟩
theorem Vals.set {x : V} {u : Value} (r : RelV x u) : ∀ {xs : List V} {us : List Value} (i : Nat),Vals xs us->Vals (xs.set i x) (us.set i u)
  | _,_,_,.nil=>.nil
  | _,_,0,.cons _ t=>.cons r t
  | _,_,i + 1,.cons q t=>.cons q (Vals.set r i t)
theorem Vals.append : ∀ {xs ys : List V} {us ws : List Value},Vals xs us->Vals ys ws->Vals (xs ++ ys) (us ++ ws)
  | _,_,_,_,.nil,s=>s
  | _,_,_,_,.cons r t,s=>.cons r (Vals.append t s)
theorem Vals.take : ∀ {xs : List V} {us : List Value} (n : Nat),Vals xs us->Vals (xs.take n) (us.take n)
  | _,_,0,_=>.nil
  | _,_,_ + 1,.nil=>.nil
  | _,_,n + 1,.cons r t=>.cons r (Vals.take n t)
theorem Vals.drop : ∀ {xs : List V} {us : List Value} (n : Nat),Vals xs us->Vals (xs.drop n) (us.drop n)
  | _,_,0,r=>r
  | _,_,_ + 1,.nil=>.nil
  | _,_,n + 1,.cons _ t=>Vals.drop n t
noncomputable def RelO : Option V->Option Value->Prop
  | some v,some u=>RelV v u
  | none,none=>True
  | _,_=>False
noncomputable def KV {κ : Type} : List (κ × V)->List (κ × Value)->Prop:=Paired fun (p : κ × V) (q : κ × Value)=>p.1=q.1∧RelV p.2 q.2
noncomputable def kV : Key->V
  | .inl i=>.int i
  | .inr x=>.str x
inductive HO where
  | lst (xs : List V)
  | tup (xs : List V)
  | dK (kvs : List (Key × V)) | dT (kvs : List (List Key × V))
  | set (S : Int->Bool) (n : Nat)
  | ins (C dx : Addr) (fs : List (Str × V))
  | own (x : Addr)
  | xd (fs : List (Str × V))
  | met (f x : Addr)
  | rng (lo hi : Int)
  | frz (o : Obj) (u : HO)
  | tbl (ps : Array Value)
  | ext (φ : Heap->Prop)
noncomputable abbrev Hp:=Addr->Option HO
noncomputable def upd (H : Hp) (a : Addr) (o : HO) : Hp:=fun b=>if b=a then some o else H b
theorem z0m {H : Hp} {a : Addr} {o : HO} : upd H a o a=some o:=by unfold upd; rw [if_pos rfl]
theorem z0q {H : Hp} {a b : Addr} {o : HO} (h : b≠a) : upd H a o b=H b:=by unfold upd; rw [if_neg h]
theorem ne_of {H : Hp} {a b : Addr} {o u : HO} (h : H a=some o) (h' : H b=some u) (d : o≠u) : a≠b:=by
  intro e; subst e; rw [h] at h'; exact d (Option.some.inj h')
theorem z1e {H : Hp} {a b : Addr} {o : HO} (h : H a=some o) (h' : H b=none) : a≠b:=by
  intro e; subst e; rw [h] at h'; cases h'
section
variable (P : Program) (w : World)
noncomputable def TupN (h : Heap) (a : Addr) (items : Array Value) : Prop:=∃ o,h.get? a=some o∧(o.cls = .type "tuple" ∧ o.dict=none)∧∃ n,o.data = .seq items n
theorem TupN.is {h : Heap} {a : Addr} {items : Array Value} (x : TupN h a items) : IsTup h a items:=let ⟨o,e,c,n⟩:=x; ⟨o,e,c.1,n⟩
theorem TupN.lt {h : Heap} {a : Addr} {items : Array Value} (x : TupN h a items) : a < h.objs.size:=x.is.lt
theorem TupN.new (h : Heap) (items : Array Value) : TupN (h.push { cls:=.type "tuple",data:=.seq items }) h.objs.size items:=⟨_,Heap.get?_push_size _ rfl,⟨rfl,rfl⟩,_,rfl⟩
noncomputable def ObjOk (H : Hp) (h : Heap) (a : Addr) : HO->Prop
  | .lst xs=>xs.length≤sizeLine∧∃ (its : List Value) (n : Nat),Vals xs its∧h.get? a=some { cls:=.type "list",data:=.seq its.toArray n }
  | .tup xs=>xs.length≤sizeLine∧∃ its : List Value,Vals xs its∧TupN h a its.toArray
  | .dK kvs=>kvs.length≤sizeLine∧(a == sysModules)=false∧∃ vs,KV kvs vs∧h.DictOf (z0Y P w) a vs
  | .dT kvs=>kvs.length≤sizeLine∧(a == sysModules)=false∧∃ xs : List (List Key × Addr × Value),
      Paired (fun (p : List Key × V) (q : List Key × Addr × Value)=>p.1=q.1∧H q.2.1=some (.tup (p.1.map kV))∧RelV p.2 q.2.2) kvs xs ∧
      ∃ o es ep,h.get? a=some o∧o.ExactDict∧o.data = .dict es ep∧es.toList=xs.map (entryOfKey (tupleKind (z0Y P w)))∧(xs.map (·.1)).Nodup
  | .set S n=>h.SetOf (intKind P w) a S n
  | .ins C dx fs=>H dx=some (.own a)∧fs.length≤1000∧dx≠a∧h.get? a=some (PySem.W.instObj C dx) ∧
      ∃ mA,h.Ns1 dx mA∧(∀ f,RelO (fs.lookup f) (mA f))∧PySem.Within mA (fs.map (·.1))
  | .own _=>∃ o,h.get? a=some o
  | .xd fs=>∃ mA,h.Ns1 a mA∧∀ f,RelO (fs.lookup f) (mA f)
  | .rng lo hi=>∃ t u v,h.get? a=some { cls:=.type "range",data:=.fields #[.int lo t,.int hi u,.int 1 v] }
  | .frz o u=>h.get? a=some o∧ObjOk H h a u
  | .tbl ps=>h.get? a=some { cls:=.none,data:=.fields ps }
  | .met f x=>h.get? a=some (PySem.W.methodObj (.ref f) (.ref x))
  | .ext φ=>φ h∧(∃ o,h.get? a=some o)∧∀ h1 h2 : Heap,φ h1->(∀ o,h1.get? a=some o->h2.get? a=some o)->φ h2
noncomputable def HOk (H : Hp) (h : Heap) : Prop:=∀ a o,H a=some o->ObjOk P w H h a o
end
section
variable {P : Program} {w : World} {H H' : Hp} {h h' : Heap} {a : Addr} {o : HO}
theorem ObjOk.lt (x : ObjOk P w H h a o) : a < h.objs.size:=by
  cases o with
  | lst xs=>obtain ⟨_,_,_,_,e⟩:=x; exact Heap.lt_size e
  | tup xs=>obtain ⟨_,_,_,p⟩:=x; exact p.lt
  | dK kvs=>obtain ⟨_,_,_,_,o,_,_,e,_⟩:=x; exact Heap.lt_size e
  | dT kvs=>obtain ⟨_,_,_,_,o,_,_,e,_⟩:=x; exact Heap.lt_size e
  | set S n=>obtain ⟨o,_,_,_,e,_⟩:=x; exact Heap.lt_size e
  | ins C dx fs=>obtain ⟨_,_,_,e,_⟩:=x; exact Heap.lt_size e
  | own y=>obtain ⟨_,e⟩:=x; exact Heap.lt_size e
  | xd fs=>obtain ⟨_,⟨_,_,_,e,_⟩,_⟩:=x; exact Heap.lt_size e
  | rng lo hi=>obtain ⟨_,_,_,e⟩:=x; exact Heap.lt_size e
  | frz ob u=>obtain ⟨e,_⟩:=x; exact Heap.lt_size e
  | tbl ps=>exact Heap.lt_size (show h.get? a=some _ from x)
  | met f y=>exact Heap.lt_size (show h.get? a=some _ from x)
  | ext φ=>obtain ⟨_,⟨_,e⟩,_⟩:=x; exact Heap.lt_size e
theorem Paired.mapP {α β : Type} {F G : α->β->Prop} : ∀ {l₁ : List α} {l₂ : List β},Paired F l₁ l₂->(∀ a b,F a b->G a b)->Paired G l₁ l₂
  | _,_,.nil,_=>.nil
  | _,_,.cons r t,f=>.cons (f _ _ r) (Paired.mapP t f)
theorem ObjOk.stay (x : ObjOk P w H h a o) (k : ∀ b u,(b=a∨H b=some (.own a))->h.get? b=some u->h'.get? b=some u)
    (ho : ∀ b,H b=some (.own a)->H' b=some (.own a)) (ht : ∀ b xs,H b=some (.tup xs)->H' b=some (.tup xs)) : ObjOk P w H' h' a o:=by
  induction o with
  | lst xs=>obtain ⟨z,its,n,r,e⟩:=x; exact ⟨z,its,n,r,k _ _ (.inl rfl) e⟩
  | tup xs=>obtain ⟨z,its,r,ob,e,c⟩:=x; exact ⟨z,its,r,ob,k _ _ (.inl rfl) e,c⟩
  | dK kvs=>obtain ⟨z,y,vs,r,ob,es,ep,e,c⟩:=x; exact ⟨z,y,vs,r,ob,es,ep,k _ _ (.inl rfl) e,c⟩
  | dT kvs=>
    obtain ⟨z,y,xs,r,ob,es,ep,e,c⟩:=x
    exact ⟨z,y,xs,Paired.mapP r fun p q z=>⟨z.1,ht _ _ z.2.1,z.2.2⟩,ob,es,ep,k _ _ (.inl rfl) e,c⟩
  | set S n=>obtain ⟨ob,es,ep,t,e,c⟩:=x; exact ⟨ob,es,ep,t,k _ _ (.inl rfl) e,c⟩
  | ins C dx fs=>
    obtain ⟨d,z,ne,e,mA,⟨od,es,ep,e2,c⟩,r⟩:=x
    exact ⟨ho _ d,z,ne,k _ _ (.inl rfl) e,mA,⟨od,es,ep,k _ _ (.inr d) e2,c⟩,r⟩
  | own y=>obtain ⟨ob,e⟩:=x; exact ⟨ob,k _ _ (.inl rfl) e⟩
  | xd fs=>obtain ⟨mA,⟨od,es,ep,e,c⟩,r⟩:=x; exact ⟨mA,⟨od,es,ep,k _ _ (.inl rfl) e,c⟩,r⟩
  | rng lo hi=>obtain ⟨t,u,v,e⟩:=x; exact ⟨t,u,v,k _ _ (.inl rfl) e⟩
  | frz ob u ih=>obtain ⟨e,q⟩:=x; exact ⟨k _ _ (.inl rfl) e,ih q⟩
  | tbl ps=>
    have e : h.get? a=some { cls:=.none,data:=.fields ps }:=x
    show h'.get? a=some { cls:=.none,data:=.fields ps }
    exact k a _ (.inl rfl) e
  | met f y=>
    have e : h.get? a=some (PySem.W.methodObj (.ref f) (.ref y)):=x
    show h'.get? a=some (PySem.W.methodObj (.ref f) (.ref y))
    exact k a _ (.inl rfl) e
  | ext φ=>obtain ⟨p,⟨o,e⟩,st⟩:=x; exact ⟨st _ _ p fun o q=>k _ _ (.inl rfl) q,⟨o,k _ _ (.inl rfl) e⟩,st⟩
theorem HOk.lt (x : HOk P w H h) (e : H a=some o) : a < h.objs.size:=(x a o e).lt
theorem HOk.fresh (x : HOk P w H h) (e : h.objs.size≤a) : H a=none:=by
  cases q : H a with
  | none=>rfl
  | some u=>exact absurd (Nat.lt_of_lt_of_le (x.lt q) e) (Nat.lt_irrefl _)
theorem HOk.kept (x : HOk P w H h) (k : ∀ b u,h.get? b=some u->h'.get? b=some u) : HOk P w H h':=fun a o e=>
  (x a o e).stay (fun b u _ q=>k b u q) (fun _ q=>q) fun _ _ q=>q
theorem HOk.laid (x : HOk P w H h) (k : ∀ b u,h.get? b=some u->h'.get? b=some u) (hp : h.objs.size≤a) (new : ObjOk P w (upd H a o) h' a o) : HOk P w (upd H a o) h':=fun b u e=>by
  have hn:=x.fresh hp
  by_cases hb : b=a
  · subst hb; rw [z0m] at e; cases e; exact new
  · rw [z0q hb] at e
    exact (x b u e).stay (fun c v _ q=>k c v q) (fun c q=>by rw [z0q (z1e q hn)]; exact q) fun c xs q=>by rw [z0q (z1e q hn)]; exact q
end
noncomputable def Rd (H : Hp) (a : Addr) (u : HO) : Prop:=H a=some u∨∃ o,H a=some (.frz o u)
theorem Rd.ok {P : Program} {w : World} {H : Hp} {h : Heap} {a : Addr} {u : HO} (r : Rd H a u) (x : HOk P w H h) : ObjOk P w H h a u:=by
  rcases r with r | ⟨o,r⟩
  · exact x a u r
  · obtain ⟨_,q⟩:=x a _ r
    exact q
noncomputable def Mut : Option HO->Prop
  | some (.lst _)=>True
  | some (.dK _)=>True
  | some (.dT _)=>True
  | some (.set _ _)=>True
  | some (.ins _ _ _)=>True
  | some (.ext _)=>True
  | _=>False
section
variable {P : Program} {w : World} {H : Hp} {h h' : Heap} {x e : Addr} {o' : HO}
theorem HOk.write (ok : HOk P w H h) (mu : Mut (H x)) (he : e=x∨H e=some (.own x)) (k : ∀ b u,b≠e->h.get? b=some u->h'.get? b=some u) (heo : ∃ u,h'.get? e=some u)
    (new : ObjOk P w (upd H x o') h' x o') : HOk P w (upd H x o') h':=fun b u q=>by
  have nown : ∀ c y,H c=some (.own y)->c≠x:=fun c y r z=>by subst z; rw [r] at mu; exact mu
  have ntup : ∀ c xs,H c=some (.tup xs)->c≠x:=fun c xs r z=>by subst z; rw [r] at mu; exact mu
  by_cases hb : b=x
  · subst hb; rw [z0m] at q; cases q; exact new
  · rw [z0q hb] at q
    by_cases hbe : b=e
    · have q' : H b=some (.own x):=by
        rcases he with z | z
        · exact absurd (hbe.trans z) hb
        · rw [hbe]; exact z
      rw [q] at q'; cases q'
      obtain ⟨v,hv⟩:=heo
      exact ⟨v,by rw [hbe]; exact hv⟩
    · refine (ok b u q).stay (fun c v hc r=>k c v ?_ r) (fun c r=>by rw [z0q (nown c b r)]; exact r) fun c xs r=>by rw [z0q (ntup c xs r)]; exact r
      rcases hc with rfl | hc
      · exact hbe
      · rintro rfl
        rcases he with z | z
        · exact nown c b hc z
        · rw [hc] at z; cases z; exact hb rfl
end
structure Un (fs ex : List Addr) (H H' : Hp) (h h' : Heap) : Prop where
  keep : ∀ b o,h.get? b=some o->H b=none->b ∉ fs->b ∉ ex->h'.get? b=some o
  slot : ∀ b o,h.get? b=some o->H b=none->b∈fs->b ∉ ex->∃ sl,h'.get? b=some { o with slots:=sl }
  free : ∀ b o,h.get? b=some o->H b=none->b ∉ ex->H' b=none
  there : ∀ b o,h.get? b=some o->b ∉ ex->∃ o',h'.get? b=some o'
  tups : ∀ b xs,H b=some (.tup xs)->H' b=some (.tup xs)
  frzs : ∀ b o u,H b=some (.frz o u)->H' b=some (.frz o u)
  tbls : ∀ b ps,H b=some (.tbl ps)->∃ more,H' b=some (.tbl (ps ++ more))
section
variable {fs fs' ex ex' : List Addr} {H H1 H2 : Hp} {h h1 h2 h' : Heap} {a x e : Addr} {o : HO}
theorem Un.any (u : Un fs ex H H1 h h1) {b : Addr} {ob : Obj} (q : h.get? b=some ob) (n : H b=none) (hx : b ∉ ex) : ∃ sl,h1.get? b=some { ob with slots:=sl }:=by
  by_cases hb : b∈fs
  · exact u.slot b ob q n hb hx
  · exact ⟨ob.slots,u.keep b ob q n hb hx⟩
theorem Un.kept (k : ∀ b u,h.get? b=some u->h'.get? b=some u) : Un fs ex H H h h':=
  ⟨fun b ob q _ _ _=>k b ob q,fun b ob q _ _ _=>⟨ob.slots,k b ob q⟩,fun _ _ _ n _=>n,fun b ob q _=>⟨ob,k b ob q⟩,fun _ _ q=>q,fun _ _ _ q=>q,fun _ ps q=>⟨#[],by rw [q]; simp⟩⟩
theorem Un.refl : Un fs ex H H h h:=Un.kept fun _ _ q=>q
theorem Un.laid (k : ∀ b u,h.get? b=some u->h'.get? b=some u) (hp : h.objs.size≤a) (hn : H a=none) : Un fs ex H (upd H a o) h h' where
  keep:=fun b u q _ _ _=>k b u q
  slot:=fun b u q _ _ _=>⟨u.slots,k b u q⟩
  free:=fun b u q n _=>by rw [z0q (Nat.ne_of_lt (Nat.lt_of_lt_of_le (Heap.lt_size q) hp))]; exact n
  there:=fun b u q _=>⟨u,k b u q⟩
  tups:=fun b xs q=>by rw [z0q (z1e q hn)]; exact q
  frzs:=fun b u xs q=>by rw [z0q (z1e q hn)]; exact q
  tbls:=fun b ps q=>⟨#[],by rw [z0q (z1e q hn),q]; simp⟩
theorem Un.write (mu : Mut (H x)) (he : e=x∨H e=some (.own x)) (k : ∀ b u,b≠e->h.get? b=some u->h'.get? b=some u) (heo : ∃ u,h'.get? e=some u) : Un fs ex H (upd H x o) h h':=by
  have hx : ∀ b,H b=none->b≠x:=fun b n z=>by subst z; rw [n] at mu; exact mu
  have hb : ∀ b,H b=none->b≠e:=fun b n z=>by
    subst z
    rcases he with r | r
    · exact hx b n r
    · rw [n] at r; cases r
  have hm : ∀ b u,H b=some u->¬ Mut (some u)->b≠x:=fun b u q nm z=>by subst z; rw [q] at mu; exact nm mu
  refine ⟨fun b u q n _ _=>k b u (hb b n) q,fun b u q n _ _=>⟨u.slots,k b u (hb b n) q⟩,fun b u q n _=>by rw [z0q (hx b n)]; exact n,fun b u q _=>?_,
    fun b xs q=>by rw [z0q (hm b _ q fun z=>z)]; exact q,fun b u xs q=>by rw [z0q (hm b _ q fun z=>z)]; exact q,fun b ps q=>⟨#[],by rw [z0q (hm b _ q fun z=>z),q]; simp⟩⟩
  by_cases hbe : b=e
  · subst hbe; exact heo
  · exact ⟨u,k b u hbe q⟩
end
noncomputable def trk (h : Heap) (H : Hp) : List Addr:=(List.range h.objs.size).filter fun a=>(H a).isSome
noncomputable def y3B (h : Heap) (H : Hp) : Heap:=PySem.W.hideAll h (trk h H)
theorem y1b (h : Heap) (H : Hp) : (y3B h H).objs.size=h.objs.size:=PySem.W.hideAll_size _ _
theorem y3R {h : Heap} {H : Hp} {b : Addr} {o : Obj} (e : h.get? b=some o) (n : H b=none) : (y3B h H).get? b=some o:=
  PySem.W.hideAll_get _ e fun hm=>by
    have q : (H b).isSome=true:=(List.mem_filter.mp hm).2
    rw [n] at q; simp at q
theorem of_hidT {h : Heap} {H : Hp} {b : Addr} {o : Obj} (e : (y3B h H).get? b=some o) : h.get? b=some o∧H b=none:=by
  have e' : h.get? b=some o:=PySem.W.of_hideAll (trk h H) e
  refine ⟨e',?_⟩
  cases q : H b with
  | none=>rfl
  | some x=>
    have hm : b∈trk h H:=List.mem_filter.mpr ⟨List.mem_range.mpr (Heap.lt_size e'),by simp [q]⟩
    have z : (y3B h H).get? b=none:=PySem.W.hideAll_none (trk h H) hm
    rw [z] at e; cases e
noncomputable def allNews (g h : Heap) (L : Addr) : List (Addr × Obj):=(List.range h.objs.size).filterMap fun a=>if a=L∨(g.get? a).isSome=true then none else (h.get? a).map fun o=>(a,o)
noncomputable def rest (g h : Heap) (L d : Addr) : List (Addr × Obj):=(allNews g h L).filter fun p=>decide (p.1≠d)
end L2
namespace L2
open PySem PySem.Spec PyProof.Rows
structure Mod (K : PySem.W.Frag) (mg : Str->Option Value) (base : Heap) : Prop where
  kin : K.In base
  glob : base.Ns mainGlobals mg
  blt : ∃ mb,base.Ns builtinsNs mb∧∀ x : Str,x ≠ "__name__" → mb x=bootBuiltins x
  nolimit : base.NoLimit
structure Cx where
  prog : Program
  w : World
  K : PySem.W.Frag
  mg : Str->Option Value
  base : Heap
  A : Around
  N : List Str
  s₀ : Shared
  H₀ : Hp
  env : Env
  outer : List Env
  stack : List Env
  ex : List Addr
  fn : Str->Bool
  calm : Bool
  pn : List (Addr × Obj)
  xe : Value->Shared->Prop
noncomputable def frs (l : List Env) : List Addr:=l.filterMap (·.frame)
noncomputable abbrev Cx.fs (X : Cx) : List Addr:=frs X.outer
noncomputable def Vis (sc : Scope) (x : Str) : Prop:=sc.names.lookup x=some .local∨sc.names.lookup x=some .cell∨sc.names.lookup x=some .free
noncomputable def Loc (sc : Scope) (x : Str) : Prop:=sc.names.lookup x=some .local∨sc.names.lookup x=some .cell
noncomputable def Look (env : Env) (h : Heap) (m : Str->Option Value) (x : Str) (u : Value) : Prop:=
  (env.kindOf x=some .local∧m x=some u)∨((env.kindOf x=some .cell∨env.kindOf x=some .free)∧∃ c,env.cells.lookup x=some c∧h.IsCell c (some u))
structure Cx.Ok (X : Cx) : Prop where
  mod : Mod X.K X.mg X.base
  kind : X.env.scope.kind = .function
  glob : X.env.globals=mainGlobals
  blt : X.env.builtins=builtinsNs
  above : X.s₀.heap.objs.size≤X.env.locals
  inj : ∀ x y c,X.env.cells.lookup x=some c->X.env.cells.lookup y=some c->x=y
  has : ∀ x,(X.env.kindOf x=some .cell∨X.env.kindOf x=some .free)->∃ c,X.env.cells.lookup x=some c
  cab : ∀ x c,X.fn x=true->X.env.cells.lookup x=some c->X.s₀.heap.objs.size≤c
  hd : X.calm=true->X.A.handled=none
  frames : X.A.frames=some X.stack
  stk : X.stack=X.outer∨(X.stack=X.env :: X.outer∧X.env.frame=some X.env.locals)
  exf : ∀ b∈X.ex,b≠X.env.locals∧∀ x c,X.env.cells.lookup x=some c->c≠b
  bs : ∀ b o,X.base.get? b=some o->X.s₀.heap.get? b=some o∧X.H₀ b=none
  bsz : X.base.objs.size≤X.s₀.heap.objs.size
  noex : ∀ b o,X.base.get? b=some o->b ∉ X.ex
  exfs : ∀ b∈X.ex,b ∉ X.fs
  funs : X.s₀.heap.FunFrames X.base X.outer
  frf : ∀ b∈X.fs,X.H₀ b=none
structure Inv (X : Cx) (pins : List (Addr × Obj)) (σ : List (Option V)) (H : Hp) (s : Shared) : Prop where
  ok : X.Ok
  os : s.os=X.s₀.os
  bare : AllBare s.gens
  base : Un X.fs X.ex X.H₀ H X.s₀.heap s.heap
  loc : ∃ m,s.heap.Ns X.env.locals m∧∀ (i : Nat) (x : Str) (v : V),X.N[i]? = some x->σ[i]? = some (some v)->Vis X.env.scope x->∃ u,RelV v u∧Look X.env s.heap m x u
  cell : ∀ x c,X.env.cells.lookup x=some c->∃ v,s.heap.IsCell c v
  free : H X.env.locals=none
  freeC : ∀ x c,X.env.cells.lookup x=some c->H c=none
  pin : ∀ p∈X.pn ++ pins,s.heap.get? p.1=some p.2∧H p.1=none∧p.1≠X.env.locals∧p.1 ∉ X.fs∧∀ v,p.2.data≠.cell v
  hok : HOk X.prog X.w H s.heap
  len : σ.length=X.N.length
section
variable {X : Cx} {pins : List (Addr × Obj)} {σ : List (Option V)} {H H' : Hp} {s : Shared} {h' : Heap}
theorem Cx.Ok.nofr (ok : X.Ok) {b : Addr} {o : Obj} (e : X.base.get? b=some o) : b ∉ X.fs:=fun hb=>by
  have:=(ok.funs.mem hb).1
  rw [e] at this; cases this
theorem Inv.bs (I : Inv X pins σ H s) : ∀ b o,X.base.get? b=some o->s.heap.get? b=some o∧H b=none:=fun b o e=>
  ⟨I.base.keep b o (I.ok.bs b o e).1 (I.ok.bs b o e).2 (I.ok.nofr e) (I.ok.noex b o e),I.base.free b o (I.ok.bs b o e).1 (I.ok.bs b o e).2 (I.ok.noex b o e)⟩
theorem Inv.bk (I : Inv X pins σ H s) : ∀ b o,X.base.get? b=some o->s.heap.get? b=some o:=fun b o e=>(I.bs b o e).1
theorem Inv.mod (I : Inv X pins σ H s) : Mod X.K X.mg X.base:=I.ok.mod
theorem Inv.kIn (I : Inv X pins σ H s) : X.K.In s.heap:=I.ok.mod.kin.keeps I.bk
theorem Inv.lt (I : Inv X pins σ H s) : X.env.locals < s.heap.objs.size:=let ⟨_,hn,_⟩:=I.loc; hn.lt
theorem Inv.sz (I : Inv X pins σ H s) : X.s₀.heap.objs.size≤s.heap.objs.size:=Nat.le_trans I.ok.above (Nat.le_of_lt I.lt)
theorem Inv.nofs (I : Inv X pins σ H s) {a : Addr} (h : s.heap.objs.size≤a) : a ∉ X.fs:=fun hb=>by
  obtain ⟨_,o,ho,_⟩:=I.ok.funs.mem hb
  exact absurd (Nat.lt_of_lt_of_le (Heap.lt_size ho) (Nat.le_trans I.sz h)) (Nat.lt_irrefl _)
theorem Inv.cne (I : Inv X pins σ H s) : ∀ x c,X.env.cells.lookup x=some c->c≠X.env.locals:=fun x c e z=>by
  obtain ⟨v,o,ho,hd⟩:=I.cell x c e
  obtain ⟨m,⟨o',es,ep,ho',hd',_⟩,_⟩:=I.loc
  rw [z,ho'] at ho; cases ho; rw [hd'] at hd; cases hd
theorem Inv.funs (I : Inv X pins σ H s) : s.heap.FunFrames X.base X.outer:=by
  have all : ∀ (l : List Env),(∀ b∈frs l,b∈X.fs)->X.s₀.heap.FunFrames X.base l->s.heap.FunFrames X.base l:=by
    intro l
    induction l with
    | nil=>intro _ _; trivial
    | cons env r ih=>
      intro hs hl
      obtain ⟨hk,⟨L,o,hf,hn,ho,hd⟩,hr⟩:=hl
      have hL : L∈X.fs:=hs L (by unfold frs; rw [List.filterMap_cons,hf]; exact List.mem_cons_self)
      obtain ⟨sl,e⟩:=I.base.slot L o ho (I.ok.frf L hL) hL fun z=>I.ok.exfs L z hL
      exact ⟨hk,⟨L,_,hf,hn,e,hd⟩,ih (fun b hb=>hs b (by unfold frs; rw [List.filterMap_cons,hf]; exact List.mem_cons_of_mem _ hb)) hr⟩
  exact all X.outer (fun _ hb=>hb) I.ok.funs
theorem Inv.stack (I : Inv X pins σ H s) : s.heap.FunFrames X.base X.stack:=by
  rcases I.ok.stk with e | ⟨e,hf⟩
  · rw [e]; exact I.funs
  · rw [e]
    obtain ⟨m,hn,_⟩:=I.loc
    refine .cons (by rw [I.ok.kind]; decide) hf hn ?_ I.funs
    exact Heap.get?_none_of_le (Nat.le_trans I.ok.bsz I.ok.above)
theorem Inv.stkSub (I : Inv X pins σ H s) : ∀ b∈frs X.stack,b∈X.env.locals :: X.fs:=fun b hb=>by
  rcases I.ok.stk with e | ⟨e,hf⟩
  · rw [e] at hb; exact List.mem_cons_of_mem _ hb
  · rw [e] at hb
    unfold frs at hb
    rw [List.filterMap_cons,hf] at hb
    exact hb
theorem Inv.stkFree (I : Inv X pins σ H s) : ∀ b∈frs X.stack,H b=none:=fun b hb=>by
  rcases List.mem_cons.mp (I.stkSub b hb) with e | hb
  · rw [e]; exact I.free
  · obtain ⟨_,o,ho,_⟩:=I.ok.funs.mem hb
    exact I.base.free b o ho (I.ok.frf b hb) fun z=>I.ok.exfs b z hb
theorem Inv.step {g' : Array GenState} {t' : Nat} {d' : Drawn} {ch : List Addr} (I : Inv X pins σ H s)
    (hch : ∀ b∈ch,(b∈X.ex∨X.s₀.heap.objs.size≤b)∧b≠X.env.locals∧(∀ x c,X.env.cells.lookup x=some c->c≠b)∧∀ p∈X.pn ++ pins,p.1≠b)
    (keep : ∀ b o,b≠X.env.locals->b ∉ X.fs->b ∉ ch->s.heap.get? b=some o->H b=none->h'.get? b=some o)
    (slot : ∀ b o,b≠X.env.locals->b∈X.fs->b ∉ ch->s.heap.get? b=some o->H b=none->∃ sl,h'.get? b=some { o with slots:=sl }) (free : ∀ b o,b ∉ ch->s.heap.get? b=some o->H b=none->H' b=none)
    (there : ∀ b o,b ∉ ch->s.heap.get? b=some o->∃ o',h'.get? b=some o')
    (tups : ∀ b xs,H b=some (.tup xs)->H' b=some (.tup xs)) (frzs : ∀ b o u,H b=some (.frz o u)->H' b=some (.frz o u)) (tbls : ∀ b ps,H b=some (.tbl ps)->∃ more,H' b=some (.tbl (ps ++ more)))
    (ns : ∀ m,s.heap.Ns X.env.locals m->h'.Ns X.env.locals m) (hok : HOk X.prog X.w H' h') (hg : AllBare g') :
    Inv X pins σ H' { s with heap:=h',gens:=g',drawn:=d',toks:=t' }:=by
  have neL : ∀ b o,X.s₀.heap.get? b=some o->b≠X.env.locals:=fun b o e=>Nat.ne_of_lt (Nat.lt_of_lt_of_le (Heap.lt_size e) I.ok.above)
  have neC : ∀ b o,X.s₀.heap.get? b=some o->b ∉ X.ex->b ∉ ch:=fun b o e hx hb=>by
    rcases (hch b hb).1 with z | z
    · exact hx z
    · exact absurd (Nat.lt_of_lt_of_le (Heap.lt_size e) z) (Nat.lt_irrefl _)
  have cellK : ∀ x c,X.env.cells.lookup x=some c->∀ v,s.heap.IsCell c v->h'.IsCell c v:=fun x c e v z_=>by
    obtain ⟨o,ho,hd⟩:=z_
    have nch : c ∉ ch:=fun z=>(hch c z).2.2.1 x c e rfl
    by_cases hc : c∈X.fs
    · obtain ⟨sl,q⟩:=slot c o (I.cne x c e) hc nch ho (I.freeC x c e)
      exact ⟨_,q,hd⟩
    · exact ⟨o,keep c o (I.cne x c e) hc nch ho (I.freeC x c e),hd⟩
  refine ⟨I.ok,I.os,hg,⟨fun b o e n hb hx=>?_,fun b o e n hb hx=>?_,fun b o e n hx=>?_,fun b o e hx=>?_,fun b xs e=>tups b xs (I.base.tups b xs e),fun b o xs e=>frzs b o xs (I.base.frzs b o xs e),fun b ps e=>?_⟩,?_,fun x c e=>?_,?_,fun x c e=>?_,fun p hp=>?_,hok,I.len⟩
  · exact keep b o (neL b o e) hb (neC b o e hx) (I.base.keep b o e n hb hx) (I.base.free b o e n hx)
  · obtain ⟨sl,e1⟩:=I.base.slot b o e n hb hx
    obtain ⟨sl',e2⟩:=slot b _ (neL b o e) hb (neC b o e hx) e1 (I.base.free b o e n hx)
    exact ⟨sl',e2⟩
  · obtain ⟨o',e1⟩:=I.base.there b o e hx
    exact free b o' (neC b o e hx) e1 (I.base.free b o e n hx)
  · obtain ⟨o',e1⟩:=I.base.there b o e hx
    exact there b o' (neC b o e hx) e1
  · obtain ⟨m1,e1⟩:=I.base.tbls b ps e
    obtain ⟨m2,e2⟩:=tbls b _ e1
    exact ⟨m1 ++ m2,by rw [e2,Array.append_assoc]⟩
  · obtain ⟨m,hn,hl⟩:=I.loc
    refine ⟨m,ns m hn,fun i x v e1 e2 e3=>?_⟩
    obtain ⟨u,r,l⟩:=hl i x v e1 e2 e3
    refine ⟨u,r,?_⟩
    rcases l with l | ⟨k,c,e,z⟩
    · exact .inl l
    · exact .inr ⟨k,c,e,cellK x c e _ z⟩
  · obtain ⟨v,z⟩:=I.cell x c e
    exact ⟨v,cellK x c e v z⟩
  · obtain ⟨m,⟨o,_,_,ho,_⟩,_⟩:=I.loc
    exact free _ o (fun z=>(hch _ z).2.1 rfl) ho I.free
  · obtain ⟨v,o,ho,hd⟩:=I.cell x c e
    exact free c o (fun z=>(hch c z).2.2.1 x c e rfl) ho (I.freeC x c e)
  · obtain ⟨e,n,ne,nf,d⟩:=I.pin p hp
    have nch : p.1 ∉ ch:=fun z=>(hch p.1 z).2.2.2 p hp rfl
    exact ⟨keep p.1 p.2 ne nf nch e n,free p.1 p.2 nch e n,ne,nf,d⟩
theorem Inv.un {t' : Nat} (I : Inv X pins σ H s) (u : Un X.fs [] H H' s.heap h') (hok : HOk X.prog X.w H' h') : Inv X pins σ H' { s with heap:=h',toks:=t' }:=by
  obtain ⟨m,⟨o,es,ep,ho,r⟩,_⟩:=id I.loc
  obtain ⟨sl,hL⟩:=u.any ho I.free (by simp)
  exact I.step (g':=s.gens) (d':=s.drawn) (ch:=[]) (fun _ z=>nomatch z) (fun b o _ hb _ e n=>u.keep b o e n hb (by simp)) (fun b o _ hb _ e n=>u.slot b o e n hb (by simp)) (fun b o _ e n=>u.free b o e n (by simp)) (fun b o _ e=>u.there b o e (by simp)) u.tups u.frzs u.tbls (fun m' hm=>by
    obtain ⟨o',es',ep',ho',r'⟩:=hm
    rw [ho] at ho'; cases ho'
    exact ⟨_,es',ep',hL,r'⟩) hok I.bare
theorem Inv.call {g' : Array GenState} {t' : Nat} {d' : Drawn} {ch : List Addr} (I : Inv X pins σ H s) (u : Un (frs X.stack) ch H H' s.heap h') (hok : HOk X.prog X.w H' h') (hg : AllBare g')
    (hch : ∀ b∈ch,(b∈X.ex∨X.s₀.heap.objs.size≤b)∧b≠X.env.locals∧(∀ x c,X.env.cells.lookup x=some c->c≠b)∧∀ p∈X.pn ++ pins,p.1≠b) :
    Inv X pins σ H' { s with heap:=h',gens:=g',drawn:=d',toks:=t' }:=by
  obtain ⟨m,⟨o,es,ep,ho,r⟩,_⟩:=id I.loc
  obtain ⟨sl,hL⟩:=u.any ho I.free fun z=>(hch _ z).2.1 rfl
  exact I.step (ch:=ch) hch (fun b o hL hb hc e n=>u.keep b o e n (fun z=>(List.mem_cons.mp (I.stkSub b z)).elim hL hb) hc) (fun b o _ _ hc e n=>u.any e n hc) (fun b o hc e n=>u.free b o e n hc) (fun b o hc e=>u.there b o e hc) u.tups u.frzs u.tbls (fun m' hm=>by
    obtain ⟨o',es',ep',ho',r'⟩:=hm
    rw [ho] at ho'; cases ho'
    exact ⟨_,es',ep',hL,r'⟩) hok hg
theorem Inv.turned {t' : Nat} {it : Addr} (I : Inv X pins σ H s) (k : ∀ b o,b≠it->s.heap.get? b=some o->h'.get? b=some o) (hn : H it=none) (hL : it≠X.env.locals)
    (h1 : it∈X.ex∨X.s₀.heap.objs.size≤it) (h2 : ∀ x c,X.env.cells.lookup x=some c->c≠it) (h3 : ∀ p∈X.pn ++ pins,p.1≠it) : Inv X pins σ H { s with heap:=h',toks:=t' }:=by
  have nit : ∀ b u,H b=some u->b≠it:=fun b u e z=>by rw [z,hn] at e; cases e
  refine I.step (g':=s.gens) (d':=s.drawn) (ch:=[it]) (fun b hb=>?_) (fun b o _ _ hc e _=>k b o (fun z=>hc (by simp [z])) e) (fun b o _ _ hc e _=>⟨o.slots,k b o (fun z=>hc (by simp [z])) e⟩) (fun _ _ _ _ n=>n)
    (fun b o hc e=>⟨o,k b o (fun z=>hc (by simp [z])) e⟩) (fun _ _ e=>e) (fun _ _ _ e=>e) (fun b ps e=>⟨#[],by rw [e]; simp⟩) (fun m hm=>?_) (fun b u e=>?_) I.bare
  · have e : b=it:=by simpa using hb
    subst e
    exact ⟨h1,hL,h2,h3⟩
  · obtain ⟨o,es,ep,ho,r⟩:=hm
    exact ⟨o,es,ep,k _ o (Ne.symm hL) ho,r⟩
  · refine (I.hok b u e).stay (fun c v hc q=>k c v ?_ q) (fun _ q=>q) fun _ _ q=>q
    rcases hc with z | z
    · rw [z]; exact nit b u e
    · exact nit c _ z
theorem Inv.tok (I : Inv X pins σ H s) (t : Nat) : Inv X pins σ H { s with toks:=t }:=I.un (h':=s.heap) (t':=t) Un.refl I.hok
theorem Inv.kept {t' : Nat} (I : Inv X pins σ H s) (k : ∀ b u,s.heap.get? b=some u->h'.get? b=some u) : Inv X pins σ H { s with heap:=h',toks:=t' }:=I.un (Un.kept k) (I.hok.kept k)
theorem Inv.laid {a : Addr} {o : HO} {t' : Nat} (I : Inv X pins σ H s) (k : ∀ b u,s.heap.get? b=some u->h'.get? b=some u) (hp : s.heap.objs.size≤a) (new : ObjOk X.prog X.w (upd H a o) h' a o) :
    Inv X pins σ (upd H a o) { s with heap:=h',toks:=t' }:=I.un (Un.laid k hp (I.hok.fresh hp)) (I.hok.laid k hp new)
theorem Inv.write {x e : Addr} {o : HO} {t' : Nat} (I : Inv X pins σ H s) (mu : Mut (H x)) (he : e=x∨H e=some (.own x)) (k : ∀ b u,b≠e->s.heap.get? b=some u->h'.get? b=some u) (heo : ∃ u,h'.get? e=some u)
    (new : ObjOk X.prog X.w (upd H x o) h' x o) : Inv X pins σ (upd H x o) { s with heap:=h',toks:=t' }:=I.un (Un.write mu he k heo) (I.hok.write mu he k heo new)
theorem Inv.pins_of {pins' : List (Addr × Obj)} (I : Inv X pins σ H s) (h : ∀ p∈pins',s.heap.get? p.1=some p.2∧H p.1=none∧p.1≠X.env.locals∧p.1 ∉ X.fs∧∀ v,p.2.data≠.cell v) : Inv X pins' σ H s:=
  ⟨I.ok,I.os,I.bare,I.base,I.loc,I.cell,I.free,I.freeC,fun p hp=>(List.mem_append.mp hp).elim (fun z=>I.pin p (List.mem_append_left _ z)) (h p),I.hok,I.len⟩
theorem z9D {N : List Str} (hN : N.Nodup) {i j : Nat} {x : Str} (a : N[i]? = some x) (b : N[j]? = some x) : i=j:=by
  obtain ⟨h1,e1⟩:=List.getElem?_eq_some_iff.mp a
  obtain ⟨h2,e2⟩:=List.getElem?_eq_some_iff.mp b
  exact (List.getElem_inj hN).mp (e1.trans e2.symm)
theorem z7A {M : Model} {A : Around} {E : Value->Shared->Prop} {i : Nat} {x : Str} {v : V} {u : Value} {Q : Unit->Shared->Prop} (I : Inv X pins σ H s) (hN : X.N.Nodup) (hi : X.N[i]? = some x) (hx : Loc X.env.scope x) (r : RelV v u)
    (h : ∀ s',Inv X pins (σ.set i (some v)) H s'->(∃ a,Heap.SameBut a s.heap s'.heap∧(a=X.env.locals∨X.env.cells.lookup x=some a))->Q () s') (hf : X.fn x=true∨X.env.scope.names.lookup x=some .local:=by first | exact .inl rfl | exact .inr rfl | assumption) : wpAny M A (storeName X.env x u) Q E s:=by
  obtain ⟨m,hn,hl⟩:=id I.loc
  have hcls : (X.env.scope.kind == .class || (X.env.scope.kind == .module && X.env.locals != X.env.globals))=false:=by rw [I.ok.kind]; rfl
  have hiσ : i < σ.length:=by rw [I.len]; exact (List.getElem?_eq_some_iff.mp hi).1
  have cne:=I.cne
  have tracked : ∀ {a : Addr} {h' : Heap},(∃ o,s.heap.get? a=some o∧H a=none)->Heap.SameBut a s.heap h'->HOk X.prog X.w H h':=fun {a h'} ha hs b ob e=>by
    obtain ⟨_,_,hfree⟩:=ha
    refine (I.hok b ob e).stay (fun c w' hc q=>(hs.2 c ?_).trans q) (fun _ q=>q) fun _ _ q=>q
    rintro rfl
    rcases hc with rfl | hc
    · rw [hfree] at e; cases e
    · rw [hfree] at hc; cases hc
  rcases hx with hk | hk
  · refine wpAny_storeName_local hk hn (fun h' hn' hs=>?_) hcls
    obtain ⟨oL,_,_,hoL,_⟩:=id hn
    refine h _ ⟨I.ok,I.os,I.bare,⟨fun b o e n hb hx=>?_,fun b o e n hb hx=>?_,I.base.free,fun b o e hx=>?_,I.base.tups,I.base.frzs,I.base.tbls⟩,⟨_,hn',fun j y v' e1 e2 e3=>?_⟩,fun y c e=>?_,I.free,I.freeC,fun p hp=>?_,tracked ⟨oL,hoL,I.free⟩ hs,by simpa using I.len⟩ ⟨_,hs,.inl rfl⟩
    · exact (hs.2 b (Nat.ne_of_lt (Nat.lt_of_lt_of_le (Heap.lt_size e) I.ok.above))).trans (I.base.keep b o e n hb hx)
    · obtain ⟨sl,e1⟩:=I.base.slot b o e n hb hx
      exact ⟨sl,(hs.2 b (Nat.ne_of_lt (Nat.lt_of_lt_of_le (Heap.lt_size e) I.ok.above))).trans e1⟩
    · obtain ⟨o',e1⟩:=I.base.there b o e hx
      exact ⟨o',(hs.2 b (Nat.ne_of_lt (Nat.lt_of_lt_of_le (Heap.lt_size e) I.ok.above))).trans e1⟩
    · by_cases hj : j=i
      · subst hj
        rw [hi] at e1; cases e1
        rw [List.getElem?_set_self hiσ] at e2
        cases e2
        exact ⟨u,r,.inl ⟨hk,by simp⟩⟩
      · rw [List.getElem?_set_ne (Ne.symm hj)] at e2
        obtain ⟨u',r',q⟩:=hl j y v' e1 e2 e3
        refine ⟨u',r',?_⟩
        rcases q with ⟨k,e⟩ | ⟨k,c,e,z⟩
        · refine .inl ⟨k,?_⟩
          have : y≠x:=fun e=>hj (z9D hN e1 (e ▸ hi))
          simp [this,e]
        · exact .inr ⟨k,c,e,z.sameBut hs (cne y c e)⟩
    · obtain ⟨w',z⟩:=I.cell y c e
      exact ⟨w',z.sameBut hs (cne y c e)⟩
    · obtain ⟨e,n,ne,nf,d⟩:=I.pin p hp
      exact ⟨(hs.2 p.1 ne).trans e,n,ne,nf,d⟩
  · have hfn : X.fn x=true:=by
      rcases hf with z | z
      · exact z
      · rw [z] at hk; cases hk
    obtain ⟨c,hc⟩:=I.ok.has x (.inl hk)
    obtain ⟨w',z⟩:=I.cell x c hc
    refine wpAny_storeName_cell I.ok.kind hk hc z (fun h' hc' hs=>?_)
    obtain ⟨oc,hoc,hocd⟩:=id z
    refine h { s with heap:=h' } ⟨I.ok,I.os,I.bare,⟨fun b o e n hb hx=>?_,fun b o e n hb hx=>?_,I.base.free,fun b o e hx=>?_,I.base.tups,I.base.frzs,I.base.tbls⟩,⟨m,hn.sameBut hs (Ne.symm (cne x c hc)),fun j y v' e1 e2 e3=>?_⟩,fun y c' e=>?_,I.free,I.freeC,fun p hp=>?_,tracked ⟨oc,hoc,I.freeC x c hc⟩ hs,by simpa using I.len⟩ ⟨c,hs,.inr hc⟩
    · exact (hs.2 b (Nat.ne_of_lt (Nat.lt_of_lt_of_le (Heap.lt_size e) (I.ok.cab x c hfn hc)))).trans (I.base.keep b o e n hb hx)
    · obtain ⟨sl,e1⟩:=I.base.slot b o e n hb hx
      exact ⟨sl,(hs.2 b (Nat.ne_of_lt (Nat.lt_of_lt_of_le (Heap.lt_size e) (I.ok.cab x c hfn hc)))).trans e1⟩
    · obtain ⟨o',e1⟩:=I.base.there b o e hx
      exact ⟨o',(hs.2 b (Nat.ne_of_lt (Nat.lt_of_lt_of_le (Heap.lt_size e) (I.ok.cab x c hfn hc)))).trans e1⟩
    · by_cases hj : j=i
      · subst hj
        rw [hi] at e1; cases e1
        rw [List.getElem?_set_self hiσ] at e2
        cases e2
        exact ⟨u,r,.inr ⟨.inl hk,c,hc,hc'⟩⟩
      · rw [List.getElem?_set_ne (Ne.symm hj)] at e2
        obtain ⟨u',r',q⟩:=hl j y v' e1 e2 e3
        refine ⟨u',r',?_⟩
        rcases q with q | ⟨k,c',e,z'⟩
        · exact .inl q
        · refine .inr ⟨k,c',e,z'.sameBut hs ?_⟩
          rintro rfl
          exact hj (z9D hN e1 (I.ok.inj _ _ _ e hc ▸ hi))
    · by_cases hcc : c'=c
      · subst hcc; exact ⟨_,hc'⟩
      · obtain ⟨w2,z2⟩:=I.cell y c' e
        exact ⟨w2,z2.sameBut hs hcc⟩
    · obtain ⟨e,n,ne,nf,d⟩:=I.pin p hp
      refine ⟨(hs.2 p.1 ?_).trans e,n,ne,nf,d⟩
      intro q
      rw [q,hoc] at e
      have q' : oc=p.2:=Option.some.inj e
      exact d w' (by rw [← q']; exact hocd)
theorem z9H {M : Model} {A : Around} {E : Value->Shared->Prop} {i : Nat} {x : Str} {v : V} {u : Value} {Q : Unit->Shared->Prop} (I : Inv X pins σ H s) (hN : X.N.Nodup) (hi : X.N[i]? = some x) (hx : Loc X.env.scope x) (r : RelV v u)
    (h : ∀ s',Inv X pins (σ.set i (some v)) H s'->Q () s') (hf : X.fn x=true∨X.env.scope.names.lookup x=some .local:=by first | exact .inl rfl | exact .inr rfl | assumption) : wpAny M A (storeName X.env x u) Q E s:=
  z7A I hN hi hx r (fun s' I' _=>h s' I') hf
theorem Inv.call' {s' : Shared} {ch : List Addr} (I : Inv X pins σ H s) (ho : s'.os=s.os) (u : Un (frs X.stack) ch H H' s.heap s'.heap) (hok : HOk X.prog X.w H' s'.heap) (hg : AllBare s'.gens)
    (hch : ∀ b∈ch,(b∈X.ex∨X.s₀.heap.objs.size≤b)∧b≠X.env.locals∧(∀ x c,X.env.cells.lookup x=some c->c≠b)∧∀ p∈X.pn ++ pins,p.1≠b) : Inv X pins σ H' s':=by
  obtain ⟨h',g',d',t',o'⟩:=s'
  have e : o'=s.os:=ho
  subst e
  exact I.call (g':=g') (t':=t') (d':=d') u hok hg hch
end
noncomputable abbrev XK:=Value->Option Addr->Hp->Prop
noncomputable abbrev St:=List (Option V)
noncomputable abbrev VK:=V->Hp->Prop
noncomputable abbrev TE:=St->Hp->VK->Prop
noncomputable abbrev TT:=St->Hp->(Bool->Hp->Prop)->Prop
noncomputable abbrev TA:=St->Hp->(List V->Hp->Prop)->Prop
structure Ends where
  nx : St->Hp->Prop
  rt : VK
  bk : St->Hp->Prop:=fun _ _=>False
  ct : St->Hp->Prop:=fun _ _=>False
noncomputable abbrev TS:=Ends->St->Hp->Prop
noncomputable def EP (X : Cx) (pins : List (Addr × Obj)) (σ : St) (Q : VK) (u : Value) (s' : Shared) : Prop:=∃ v H',Inv X pins σ H' s'∧RelV v u∧Q v H'
noncomputable def TP (X : Cx) (pins : List (Addr × Obj)) (σ : St) (Q : Bool->Hp->Prop) (b : Bool) (s' : Shared) : Prop:=∃ H',Inv X pins σ H' s'∧Q b H'
noncomputable def AP (X : Cx) (pins : List (Addr × Obj)) (σ : St) (Q : List V->Hp->Prop) (us : List Value) (s' : Shared) : Prop:=∃ vs H',Inv X pins σ H' s'∧Vals vs us∧Q vs H'
noncomputable def SP (X : Cx) (pins : List (Addr × Obj)) (D : Ends) (f : Flow) (s' : Shared) : Prop:=
  match f with
  | .next=>∃ σ' H',Inv X pins σ' H' s'∧D.nx σ' H'
  | .brk=>∃ σ' H',Inv X pins σ' H' s'∧D.bk σ' H'
  | .cont=>∃ σ' H',Inv X pins σ' H' s'∧D.ct σ' H'
  | .ret u=>∃ v σ' H',Inv X pins σ' H' s'∧RelV v u∧D.rt v H'
noncomputable def PE (X : Cx) (e : Expr) (t : TE) : Prop:=
  ∀ (pins : List (Addr × Obj)) (s : Shared) (σ : St) (H : Hp) (Q : VK),Inv X pins σ H s->t σ H Q->wpAny (model X.prog X.w) X.A (eval e X.env) (EP X pins σ Q) X.xe s
noncomputable def PT (X : Cx) (e : Expr) (t : TT) : Prop:=
  ∀ (pins : List (Addr × Obj)) (s : Shared) (σ : St) (H : Hp) (Q : Bool->Hp->Prop),Inv X pins σ H s->t σ H Q->wpAny (model X.prog X.w) X.A (isTrue e X.env (eval e X.env)) (TP X pins σ Q) X.xe s
noncomputable def PW (X : Cx) (e : Expr) (t : TT) : Prop:=
  ∀ (whole : Sem Value) (pins : List (Addr × Obj)) (s : Shared) (σ : St) (H : Hp) (Q : Bool->Hp->Prop),Inv X pins σ H s->t σ H Q->wpAny (model X.prog X.w) X.A (isTrue e X.env whole) (TP X pins σ Q) X.xe s
theorem PW.pt {X : Cx} {e : Expr} {t : TT} (h : PW X e t) : PT X e t:=h _
noncomputable def PA (X : Cx) (es : List Expr) (t : TA) : Prop:=
  ∀ (pos : Pos) (pins : List (Addr × Obj)) (s : Shared) (σ : St) (H : Hp) (Q : List V->Hp->Prop),Inv X pins σ H s->t σ H Q->wpAny (model X.prog X.w) X.A (spliced (backTo pos (starEach es X.env))) (AP X pins σ Q) X.xe s
noncomputable def PS (X : Cx) (st : Stmt) (t : TS) : Prop:=
  ∀ (pins : List (Addr × Obj)) (s : Shared) (σ : St) (H : Hp) (D : Ends),Inv X pins σ H s->t D σ H->wpAny (model X.prog X.w) X.A (exec st X.env) (SP X pins D) X.xe s
noncomputable def PSs (X : Cx) (st : List Stmt) (t : TS) : Prop:=
  ∀ (pins : List (Addr × Obj)) (s : Shared) (σ : St) (H : Hp) (D : Ends),Inv X pins σ H s->t D σ H->wpAny (model X.prog X.w) X.A (execs st X.env) (SP X pins D) X.xe s
theorem thn {α : Type} {t : Sem α} {Q Q' : α->Shared->Prop} {M : Model} {A : Around} {E : Value->Shared->Prop} {s : Shared} (h : wpAny M A t Q E s) (hQ : ∀ a s,Q a s->Q' a s) : wpAny M A t Q' E s:=wpAny_mono h hQ fun _ _ x=>x
end L2
namespace L2
open PySem PySem.Spec PyProof.Rows
section
variable {X : Cx}
noncomputable def z7K (i : Nat) : TE:=fun σ H Q=>∃ v,σ[i]? = some (some v)∧Q v H
noncomputable def tC (v : V) : TE:=fun _ H Q=>Q v H
theorem pe_var {i : Nat} {x : Str} {pos : Pos} (hN : X.N[i]? = some x) (hv : Vis X.env.scope x) (hd : (x == ("__debug__" : Str))=false:=by decide) (hcd : (x == ("__classdict__" : Str))=false:=by decide) : PE X (.Name x pos) (z7K i):=by
  intro pins s σ H Q I h
  obtain ⟨v,e,h⟩:=h
  obtain ⟨m,hn,hl⟩:=I.loc
  obtain ⟨u,r,l⟩:=hl i x v hN e hv
  have fin : EP X pins σ Q u s:=⟨v,H,I,r,h⟩
  rcases l with ⟨hk,hm⟩ | ⟨hk,c,hc,hcell⟩
  · exact wpAny_Name (wpAny_loadName_local I.ok.kind hk hn hm fin) hd
  · rcases hk with hk | hk
    · exact wpAny_Name (wpAny_loadName_cell I.ok.kind hk hc hcell fin) hd
    · exact wpAny_Name (wpAny_loadName_free I.ok.kind hk hc hcell fin hcd) hd
theorem pe_int {i j pos} : PE X (.Constant (.int i) j pos) (tC (.int i)):=fun _ _ _ H _ I h=>wpAny_Constant_int ⟨.int i,H,I.tok _,⟨_,rfl⟩,h⟩
theorem pe_bl {b j pos} : PE X (.Constant (.bool b) j pos) (tC (.bl b)):=fun _ _ _ H _ I h=>Constant_bool ⟨.bl b,H,I,rfl,h⟩
theorem pe_str {x j pos} : PE X (.Constant (.str x) j pos) (tC (.str x)):=fun _ _ _ H _ I h=>Calls.Constant_str ⟨.str x,H,I.tok _,⟨_,rfl⟩,h⟩
noncomputable def Gl (X : Cx) (x : Str) : Prop:=X.env.kindOf x=some .globalImplicit
theorem z8q {E : Value->Shared->Prop} {pins : List (Addr × Obj)} {s : Shared} {σ : St} {H : Hp} {x : Str} {u : Value} {pos : Pos} {Q : Value->Shared->Prop} (I : Inv X pins σ H s) (hg : Gl X x) (hm : X.mg x=some u) (h : Q u s)
    (hd : (x == ("__debug__" : Str))=false:=by decide) : wpAny (model X.prog X.w) X.A (eval (.Name x pos) X.env) Q E s:=
  Calls.Name_function_global I.ok.kind hg (Calls.loadGlobal_global (by rw [I.ok.glob]; exact I.mod.glob.keeps I.bk) hm h) hd
theorem z3P {E : Value->Shared->Prop} {pins : List (Addr × Obj)} {s : Shared} {σ : St} {H : Hp} {x : Str} {u : Value} {pos : Pos} {Q : Value->Shared->Prop} (I : Inv X pins σ H s) (hg : Gl X x) (hm : X.mg x=none) (hv : bootBuiltins x=some u) (h : Q u s)
    (hn : x ≠ "__name__" := by decide) (hd : (x == ("__debug__" : Str))=false:=by decide) : wpAny (model X.prog X.w) X.A (eval (.Name x pos) X.env) Q E s:=by
  obtain ⟨mb,h1,h2⟩:=I.mod.blt
  exact Calls.Name_function_global I.ok.kind hg (Calls.loadGlobal_builtin (by rw [I.ok.glob]; exact I.mod.glob.keeps I.bk) hm (by rw [I.ok.blt]; exact h1.keeps I.bk) ((h2 x hn).trans hv) h) hd
theorem pe_bltn {x : Str} {v : V} {u : Value} {pos : Pos} (hg : Gl X x) (hm : X.mg x=none) (hv : bootBuiltins x=some u) (r : RelV v u) (hn : x ≠ "__name__" := by decide) (hd : (x == ("__debug__" : Str))=false:=by decide) : PE X (.Name x pos) (tC v):=
  fun _ _ _ H _ I h=>z3P I hg hm hv ⟨v,H,I,r,h⟩ hn hd
variable {a b : Expr} {ta tb : TE} {pos : Pos}
noncomputable def PC (X : Cx) (op : CmpOp) (a b : Expr) (t : TE) : Prop:=
  ∀ (pins : List (Addr × Obj)) (s : Shared) (σ : St) (H : Hp) (Q : VK),Inv X pins σ H s->t σ H Q →
    wpAny (model X.prog X.w) X.A (eval a X.env) (fun v s₁=>wpAny (model X.prog X.w) X.A (eval b X.env) (fun u s₂=>wpAny (model X.prog X.w) X.A (compareOp op v u) (EP X pins σ Q) X.xe s₂) X.xe s₁) X.xe s
theorem y3E (b : Expr) {op : CmpOp} (h : op≠.In) (h2 : op≠.NotIn) : behindInMarks op b=false:=by
  have e1 : (op == CmpOp.In)=false:=by cases op <;> first | rfl | exact absurd rfl h
  have e2 : (op == CmpOp.NotIn)=false:=by cases op <;> first | rfl | exact absurd rfl h2
  cases b <;> simp [behindInMarks,e1,e2]
noncomputable def tB (t : TE) : TT:=fun σ H Q=>t σ H fun x H1=>∃ c,x = .bl c∧Q c H1
theorem y5D {op : CmpOp} {t : TE} (h : PC X op a b t) (h1 : behindInMarks op b=false:=by first | exact y3E _ (by decide) (by decide) | rfl) : PT X (.Compare a [op] [b] pos) (tB t):=by
  intro pins s σ H Q I hw
  refine wpAny_isTrue_Compare1 (thn (h pins s σ H _ I hw) fun v s1 h1=>thn h1 fun u s2 h2=>thn h2 fun c s3 ⟨x,H1,I1,r1,q1⟩=>?_) h1
  obtain ⟨d,rfl,q⟩:=q1
  cases r1
  exact wpAny_truthy_bool ⟨H1,I1,q⟩
variable {tA tB' : TT} {rest : List Expr}
noncomputable def tAnd (t u : TT) : TT:=fun σ H Q=>t σ H fun c H1=>if c=true then u σ H1 Q else Q false H1
noncomputable def tOr (t u : TT) : TT:=fun σ H Q=>t σ H fun c H1=>if c=true then Q true H1 else u σ H1 Q
noncomputable def tNot (t : TT) : TT:=fun σ H Q=>t σ H fun c H1=>Q (!c) H1
theorem pw_and1 (ha : PT X a tA) : PW X (.BoolOp .And [a] pos) tA:=by
  intro wh pins s σ H Q I h
  refine isTrue_and (thn (ha pins s σ H Q I h) fun c s1 e=>?_)
  cases c with
  | true=>exact isTrue_and_nil e
  | false=>exact e
theorem pw_or1 (ha : PT X a tA) : PW X (.BoolOp .Or [a] pos) tA:=by
  intro wh pins s σ H Q I h
  refine isTrue_or (thn (ha pins s σ H Q I h) fun c s1 e=>?_)
  cases c with
  | false=>exact isTrue_or_nil e
  | true=>exact e
theorem pw_and (ha : PT X a tA) (hb : PW X (.BoolOp .And (b :: rest) pos) tB') : PW X (.BoolOp .And (a :: b :: rest) pos) (tAnd tA tB'):=by
  intro wh pins s σ H Q I h
  refine isTrue_and (thn (ha pins s σ H _ I h) fun c s1 ⟨H1,I1,q1⟩=>?_)
  cases c with
  | true=>exact hb wh pins s1 σ H1 Q I1 q1
  | false=>exact ⟨H1,I1,q1⟩
theorem pw_or (ha : PT X a tA) (hb : PW X (.BoolOp .Or (b :: rest) pos) tB') : PW X (.BoolOp .Or (a :: b :: rest) pos) (tOr tA tB'):=by
  intro wh pins s σ H Q I h
  refine isTrue_or (thn (ha pins s σ H _ I h) fun c s1 ⟨H1,I1,q1⟩=>?_)
  cases c with
  | true=>exact ⟨H1,I1,q1⟩
  | false=>exact hb wh pins s1 σ H1 Q I1 q1
theorem pt_not (ha : PT X a tA) : PT X (.UnaryOp .Not a pos) (tNot tA):=by
  intro pins s σ H Q I h
  exact isTrue_not (ha pins s σ H (fun c H1=>Q (!c) H1) I h)
noncomputable def tAndV (ta tb : TE) : TE:=fun σ H Q=>ta σ H fun x H1=>∃ c,x = .bl c∧if c=true then tb σ H1 Q else Q (.bl false) H1
noncomputable def tOrV (ta tb : TE) : TE:=fun σ H Q=>ta σ H fun x H1=>∃ c,x = .bl c∧if c=true then Q (.bl true) H1 else tb σ H1 Q
noncomputable def tNotV (ta : TE) : TE:=fun σ H Q=>ta σ H fun x H1=>∃ c,x = .bl c∧Q (.bl (!c)) H1
theorem pe_one {op} {t : TE} (h : PE X a t) : PE X (.BoolOp op [a] pos) t:=fun pins s σ H Q I hw=>BoolOp_one (h pins s σ H Q I hw)
theorem pe_and (ha : PE X a ta) (hb : PE X (.BoolOp .And (b :: rest) pos) tb) : PE X (.BoolOp .And (a :: b :: rest) pos) (tAndV ta tb):=by
  intro pins s σ H Q I h
  refine BoolOp_and (thn (ha pins s σ H _ I h) fun v s1 ⟨x,H1,I1,r1,q1⟩=>?_)
  obtain ⟨c,rfl,q1⟩:=q1
  cases r1
  refine wpAny_truthy_bool ?_
  cases c with
  | true=>exact hb pins s1 σ H1 Q I1 q1
  | false=>exact ⟨.bl false,H1,I1,rfl,q1⟩
theorem pe_or (ha : PE X a ta) (hb : PE X (.BoolOp .Or (b :: rest) pos) tb) : PE X (.BoolOp .Or (a :: b :: rest) pos) (tOrV ta tb):=by
  intro pins s σ H Q I h
  refine BoolOp_or (thn (ha pins s σ H _ I h) fun v s1 ⟨x,H1,I1,r1,q1⟩=>?_)
  obtain ⟨c,rfl,q1⟩:=q1
  cases r1
  refine wpAny_truthy_bool ?_
  cases c with
  | false=>exact hb pins s1 σ H1 Q I1 q1
  | true=>exact ⟨.bl true,H1,I1,rfl,q1⟩
theorem pe_not (ha : PE X a ta) : PE X (.UnaryOp .Not a pos) (tNotV ta):=by
  intro pins s σ H Q I h
  refine UnaryOp_ (thn (ha pins s σ H _ I h) fun v s1 ⟨x,H1,I1,r1,q1⟩=>?_)
  obtain ⟨c,rfl,q1⟩:=q1
  cases r1
  exact not_of (wpAny_truthy_bool ⟨.bl (!c),H1,I1,rfl,q1⟩)
end
end L2
namespace L2
open PySem PySem.Spec PyProof.Rows
noncomputable def SqL (K : PySem.W.Frag) (H : Hp) (a : Addr) (xs : List V) : Prop:=
  Rd H a (.lst xs) ∨
    ∃ (o : Obj) (its : Array Value) (n : Nat),K.lookup a=some o∧o.cls = .type "list" ∧ o.dict=none∧o.data = .seq its n∧its.size≤sizeLine∧Vals xs its.toList
noncomputable def SqT (K : PySem.W.Frag) (H : Hp) (a : Addr) (xs : List V) : Prop:=
  Rd H a (.tup xs) ∨
    ∃ (o : Obj) (its : Array Value) (n : Nat),K.lookup a=some o∧(o.cls = .type "tuple" ∧ o.dict=none)∧o.data = .seq its n∧its.size≤sizeLine∧Vals xs its.toList
noncomputable def absV : Value->Option V
  | .none=>some .non
  | .bool b=>some (.bl b)
  | .int i _=>some (.int i)
  | .str x _=>some (.str x)
  | .bytes b _=>some (.byt b)
  | .float b _=>some (.flt b)
  | .ref a=>some (.ref a)
  | .type n=>some (.ty n)
  | _=>none
theorem RelV.abs {x : V} {u : Value} (r : RelV x u) : absV u=some x:=by
  cases x with
  | non=>cases r; rfl
  | bl _=>cases r; rfl
  | int _=>obtain ⟨t,rfl⟩:=r; rfl
  | str _=>obtain ⟨t,rfl⟩:=r; rfl
  | byt _=>obtain ⟨t,rfl⟩:=r; rfl
  | flt _=>obtain ⟨t,rfl⟩:=r; rfl
  | ref _=>cases r; rfl
  | ty _=>cases r; rfl
theorem RelV.inj {x y : V} {u : Value} (r : RelV x u) (q : RelV y u) : x=y:=Option.some.inj (r.abs.symm.trans q.abs)
theorem Vals.inj : ∀ {xs ys : List V} {us : List Value},Vals xs us->Vals ys us->xs=ys
  | _,_,_,.nil,.nil=>rfl
  | _,_,_,.cons r t,.cons r' t'=>by rw [r.inj r',Vals.inj t t']
section
variable {X : Cx} {pins : List (Addr × Obj)} {σ : St} {H : Hp} {s : Shared} {a : Addr} {xs ys : List V}
theorem SqL.of {K : PySem.W.Frag} (h : H a=some (.lst xs)) : SqL K H a xs:=.inl (.inl h)
theorem SqT.of {K : PySem.W.Frag} (h : H a=some (.tup xs)) : SqT K H a xs:=.inl (.inl h)
theorem Inv.list (I : Inv X pins σ H s) (h : SqL X.K H a xs) : ∃ its : List Value,Vals xs its∧PlainL s.heap a its.toArray∧xs.length≤sizeLine:=by
  rcases h with h | ⟨o,its,n,hk,hc,hd,hs,hz,r⟩
  · obtain ⟨z,its,n,r,e⟩:=h.ok I.hok
    exact ⟨its,r,⟨_,n,e,rfl,rfl,rfl⟩,z⟩
  · refine ⟨its.toList,r,⟨o,n,I.kIn a o hk,hc,hd,by simpa using hs⟩,?_⟩
    have e:=r.length
    simp only [Array.length_toList] at e
    omega
theorem Inv.tuple (I : Inv X pins σ H s) (h : SqT X.K H a xs) : ∃ its : List Value,Vals xs its∧IsTup s.heap a its.toArray∧xs.length≤sizeLine:=by
  rcases h with h | ⟨o,its,n,hk,hc,hs,hz,r⟩
  · obtain ⟨z,its,r,p⟩:=h.ok I.hok
    exact ⟨its,r,p.is,z⟩
  · refine ⟨its.toList,r,⟨o,I.kIn a o hk,hc.1,n,by simpa using hs⟩,?_⟩
    have e:=r.length
    simp only [Array.length_toList] at e
    omega
theorem Inv.list_inj (I : Inv X pins σ H s) (h : SqL X.K H a xs) (h' : SqL X.K H a ys) : xs=ys:=by
  obtain ⟨its,r,⟨o,n,e,_,_,d⟩,_⟩:=I.list h
  obtain ⟨its',r',⟨o',n',e',_,_,d'⟩,_⟩:=I.list h'
  rw [e] at e'; cases e'
  rw [d] at d'
  injection d' with d1 _
  have : its=its':=by simpa using congrArg Array.toList d1
  subst this
  exact r.inj r'
theorem Inv.tuple_inj (I : Inv X pins σ H s) (h : SqT X.K H a xs) (h' : SqT X.K H a ys) : xs=ys:=by
  obtain ⟨its,r,⟨o,e,_,n,d⟩,_⟩:=I.tuple h
  obtain ⟨its',r',⟨o',e',_,n',d'⟩,_⟩:=I.tuple h'
  rw [e] at e'; cases e'
  rw [d] at d'
  injection d' with d1 _
  have : its=its':=by simpa using congrArg Array.toList d1
  subst this
  exact r.inj r'
end
noncomputable abbrev Cx.wish (X : Cx) (E : Value->Shared->Prop) : Cx:={ X with xe:=E }
noncomputable abbrev Cx.nox (X : Cx) : Cx:=X.wish fun _ _=>False
theorem Cx.Ok.wish {X : Cx} (ok : X.Ok) (E : Value->Shared->Prop) : (X.wish E).Ok:=
  ⟨ok.mod,ok.kind,ok.glob,ok.blt,ok.above,ok.inj,ok.has,ok.cab,ok.hd,ok.frames,ok.stk,ok.exf,ok.bs,ok.bsz,ok.noex,ok.exfs,ok.funs,ok.frf⟩
theorem Cx.Ok.unwish {X : Cx} {E : Value->Shared->Prop} (ok : (X.wish E).Ok) : X.Ok:=
  ⟨ok.mod,ok.kind,ok.glob,ok.blt,ok.above,ok.inj,ok.has,ok.cab,ok.hd,ok.frames,ok.stk,ok.exf,ok.bs,ok.bsz,ok.noex,ok.exfs,ok.funs,ok.frf⟩
section
variable {X : Cx} {pins : List (Addr × Obj)} {σ : St} {H : Hp} {s : Shared} {E : Value->Shared->Prop}
theorem Inv.wish (I : Inv X pins σ H s) (E : Value->Shared->Prop) : Inv (X.wish E) pins σ H s:=⟨I.ok.wish E,I.os,I.bare,I.base,I.loc,I.cell,I.free,I.freeC,I.pin,I.hok,I.len⟩
theorem Inv.unwish (I : Inv (X.wish E) pins σ H s) : Inv X pins σ H s:=⟨I.ok.unwish,I.os,I.bare,I.base,I.loc,I.cell,I.free,I.freeC,I.pin,I.hok,I.len⟩
theorem SP.unwish {D : Ends} {f : Flow} {s' : Shared} (h : SP (X.wish E) pins D f s') : SP X pins D f s':=by
  cases f with
  | next=>obtain ⟨σ',H',I,q⟩:=h; exact ⟨σ',H',I.unwish,q⟩
  | brk=>obtain ⟨σ',H',I,q⟩:=h; exact ⟨σ',H',I.unwish,q⟩
  | cont=>obtain ⟨σ',H',I,q⟩:=h; exact ⟨σ',H',I.unwish,q⟩
  | ret u=>obtain ⟨v,σ',H',I,r,q⟩:=h; exact ⟨v,σ',H',I.unwish,r,q⟩
theorem PSs.nox {st : List Stmt} {t : TS} (h : PSs X.nox st t) : PSs X st t:=fun pins s σ H D I hw=>
  wpAny_mono (h pins s σ H D (I.wish _) hw) (fun _ _ q=>q.unwish) fun _ _ z=>False.elim z
end
section
variable {X : Cx} {st : Stmt} {rest : List Stmt} {t u : TS} {e : Expr} {te : TE} {pos : Pos}
noncomputable def tNext : TS:=fun D σ H=>D.nx σ H
noncomputable def tSeq (t u : TS) : TS:=fun D σ H=>t { D with nx:=u D } σ H
theorem pss_nil : PSs X [] tNext:=fun _ _ σ H _ I h=>wpAny_execs_nil ⟨σ,H,I,h⟩
theorem y3J (h1 : PS X st t) (h2 : PSs X rest u) : PSs X (st :: rest) (tSeq t u):=by
  intro pins s σ H D I h
  refine wpAny_execs_cons (thn (h1 pins s σ H { D with nx:=u D } I h) fun f s1 q=>?_)
  cases f with
  | next=>
    obtain ⟨σ',H',I',q⟩:=q
    exact h2 pins s1 σ' H' D I' q
  | ret v=>exact q
  | brk=>exact q
  | cont=>exact q
theorem pss_one (h1 : PS X st t) : PSs X [st] t:=by
  intro pins s σ H D I h
  refine wpAny_execs_cons (thn (h1 pins s σ H D I h) fun f s1 q=>?_)
  cases f with
  | next=>exact wpAny_execs_nil q
  | ret v=>exact q
  | brk=>exact q
  | cont=>exact q
theorem Inv.quiet {pins : List (Addr × Obj)} {σ : St} {H : Hp} {s : Shared} (I : Inv X pins σ H s) : interactive X.env=false:=by simp [interactive,I.ok.kind]
noncomputable def tDrop (te : TE) : TS:=fun D σ H=>te σ H fun _ H1=>D.nx σ H1
theorem z4X (he : PE X e te) (hs : swapsWith e none pos.line X.env=pure false:=by rfl) : PS X (.Expr e pos) (tDrop te):=by
  intro pins s σ H D I h
  exact wpAny_Expr_any (thn (he pins s σ H _ I h) fun v s1 ⟨x,H1,I1,r1,q1⟩=>⟨σ,H1,I1,q1⟩) I.quiet hs
noncomputable def tRet (te : TE) : TS:=fun D σ H=>te σ H D.rt
theorem y0d (he : PE X e te) : PS X (.Return (some e) pos) (tRet te):=by
  intro pins s σ H D I h
  exact wpAny_Return_some (thn (he pins s σ H _ I h) fun v s1 ⟨x,H1,I1,r1,q1⟩=>⟨x,σ,H1,I1,r1,q1⟩)
noncomputable def tIfS (c : TT) (t u : TS) : TS:=fun D σ H=>c σ H fun b H1=>if b=true then t D σ H1 else u D σ H1
theorem ps_if {c : Expr} {a b : List Stmt} {tc : TT} (hc : PT X c tc) (ha : PSs X a t) (hb : PSs X b u) : PS X (.If c a b pos) (tIfS tc t u):=by
  intro pins s σ H D I h
  refine wpAny_If (thn (hc pins s σ H _ I h) fun d s1 ⟨H1,I1,q1⟩=>?_)
  cases d with
  | true=>exact ha pins s1 σ H1 D I1 q1
  | false=>exact hb pins s1 σ H1 D I1 q1
end
noncomputable abbrev TG:=V->St->Hp->(St->Hp->Prop)->Prop
noncomputable abbrev TGs:=List V->St->Hp->(St->Hp->Prop)->Prop
noncomputable def PG (X : Cx) (target : Expr) (t : TG) : Prop:=
  ∀ (pins : List (Addr × Obj)) (s : Shared) (σ : St) (H : Hp) (v : V) (u : Value) (Q : St->Hp->Prop),Inv X pins σ H s->RelV v u->t v σ H Q →
    wpAny (model X.prog X.w) X.A (assign target X.env u) (fun _ s'=>∃ σ' H',Inv X pins σ' H' s'∧Q σ' H') X.xe s
noncomputable def PGs (X : Cx) (ts : List Expr) (t : TGs) : Prop:=
  ∀ (pins : List (Addr × Obj)) (s : Shared) (σ : St) (H : Hp) (vs : List V) (us : List Value) (Q : St->Hp->Prop),Inv X pins σ H s->Vals vs us->t vs σ H Q →
    wpAny (model X.prog X.w) X.A (assignInOrder ((assignEach ts X.env).map (·.2)) us) (fun _ s'=>∃ σ' H',Inv X pins σ' H' s'∧Q σ' H') X.xe s
noncomputable abbrev TSet:=V->V->V->Hp->(Hp->Prop)->Prop
noncomputable def PSet (X : Cx) (t : TSet) : Prop:=
  ∀ (pins : List (Addr × Obj)) (s : Shared) (σ : St) (H : Hp) (o i v : V) (ov iv u : Value) (Q : Hp->Prop),Inv X pins σ H s->RelV o ov->RelV i iv->RelV v u->t o i v H Q →
    wpAny (model X.prog X.w) X.A (setItem ov iv u) (fun _ s'=>∃ H',Inv X pins σ H' s'∧Q H') X.xe s
section
variable {X : Cx} {pos : Pos}
noncomputable def z2b (i : Nat) : TG:=fun v σ H Q=>Q (σ.set i (some v)) H
theorem z0o {i : Nat} {x : Str} (hN : X.N.Nodup) (hi : X.N[i]? = some x) (hx : Loc X.env.scope x) (hf : X.fn x=true∨X.env.scope.names.lookup x=some .local:=by first | exact .inl rfl | exact .inr rfl | assumption) : PG X (.Name x pos) (z2b i):=by
  intro pins s σ H v u Q I r h
  exact wpAny_assign_Name (z9H I hN hi hx r (fun s' I'=>⟨_,H,I',h⟩) hf)
noncomputable def gNil : TGs:=fun vs σ H Q=>vs=[]∧Q σ H
noncomputable def y1Y (t : TG) (u : TGs) : TGs:=fun vs σ H Q=>∃ v r,vs=v :: r∧t v σ H fun σ' H'=>u r σ' H' Q
theorem y2S : PGs X [] gNil:=by
  intro pins s σ H vs us Q I r h
  obtain ⟨e,h⟩:=h
  subst e
  cases r
  exact assignInOrder_nil ⟨σ,H,I,h⟩
theorem z4K {e : Expr} {es : List Expr} {t : TG} {u : TGs} (h1 : PG X e t) (h2 : PGs X es u)
    (hs : (assignEach (e :: es) X.env).map (·.2)=assign e X.env :: (assignEach es X.env).map (·.2):=by rfl) : PGs X (e :: es) (y1Y t u):=by
  intro pins s σ H vs us Q I r h
  obtain ⟨v,vr,e1,h⟩:=h
  subst e1
  cases r with
  | cons r rr=>
    rw [hs]
    refine assignInOrder_cons (thn (h1 pins s σ H _ _ _ I r h) fun _ s1 ⟨σ1,H1,I1,q1⟩=>?_)
    exact h2 pins s1 σ1 H1 _ _ Q I1 rr q1
noncomputable def gTup (K : PySem.W.Frag) (n : Nat) (t : TGs) : TG:=fun v σ H Q=>∃ a xs,v = .ref a∧SqT K H a xs∧xs.length=n∧t xs σ H Q
theorem y5B {es : List Expr} {k : Nat} {t : TGs} {n : Nat} (hc : X.calm=true) (h : PGs X es t)
    (hn : (assignEach es X.env).length=n:=by rfl) (hst : (assignEach es X.env).findIdx? (·.1)=none:=by rfl) : PG X (.Tuple es k pos) (gTup X.K n t):=by
  intro pins s σ H v u Q I r hw
  obtain ⟨a,xs,e1,hq,hl,hw⟩:=hw
  subst e1
  cases r
  obtain ⟨its,rv,ht,hz⟩:=I.tuple hq
  refine assign_Tuple_tuple (I.ok.hd hc) ht (by simp [hn,← hl,rv.length]) hst fun h' hx=>?_
  have I1 : Inv X pins σ H { s with heap:=h' }:=I.kept (t':=s.toks) fun b o e=>hx b o (Nat.ne_of_lt (Heap.lt_size e)) e
  exact h pins _ σ H xs _ Q I1 (by simpa using rv) hw
noncomputable def gSub (to ti : TE) (t : TSet) : TG:=fun v σ H Q=>to σ H fun o H1=>ti σ H1 fun i H2=>t o i v H2 fun H3=>Q σ H3
theorem y5P {o i : Expr} {to ti : TE} {t : TSet} (ho : PE X o to) (hi : PE X i ti) (hs : PSet X t)
    (ha : ∀ v,assign (.Subscript o i pos) X.env v=(do
      let ov ← holding [v] (eval o X.env)
      let iv ← holding [v,ov] (eval i X.env)
      standAt pos
      holding [v,ov,iv] (setItem ov iv v)
      release [v,ov,iv] []):=by intro _; rfl) : PG X (.Subscript o i pos) (gSub to ti t):=by
  intro pins s σ H v u Q I r h
  rw [ha]
  refine wpAny_bind (wpAny_holding (thn (ho pins s σ H _ I h) fun ov s1 ⟨x,H1,I1,r1,q1⟩=>?_))
  refine wpAny_bind (wpAny_holding (thn (hi pins s1 σ H1 _ I1 q1) fun iv s2 ⟨y,H2,I2,r2,q2⟩=>?_))
  refine wpAny_bind (wpAny_standAt (wpAny_bind (wpAny_holding (thn (hs pins s2 σ H2 x y v ov iv u _ I2 r1 r2 r q2) fun _ s3 ⟨H3,I3,q3⟩=>?_))))
  exact wpAny_release ⟨σ,H3,I3,q3⟩
noncomputable def tAsg (te : TE) (g : TG) : TS:=fun D σ H=>te σ H fun x H1=>g x σ H1 D.nx
theorem y5S {tg e : Expr} {te : TE} {g : TG} (he : PE X e te) (hg : PG X tg g) (hs : swapsWithSole [tg] e pos.line X.env=pure false:=by rfl) (hw : swappedStores [tg] e X.env=pure none:=by rfl)
    (h1 : (assignEach [tg] X.env).map (·.2)=[assign tg X.env]:=by rfl) : PS X (.Assign [tg] e pos) (tAsg te g):=by
  intro pins s σ H D I h
  refine wpAny_Assign_stores (thn (he pins s σ H _ I h) fun v s1 ⟨x,H1,I1,r1,q1⟩=>?_) hs hw
  rw [h1]
  exact thn (hg pins s1 σ H1 x v _ I1 r1 q1) fun _ s2 q=>q
theorem ps_set {i : Nat} {x : Str} {e : Expr} {te : TE} {pos' : Pos} (hN : X.N.Nodup) (hi : X.N[i]? = some x) (hx : Loc X.env.scope x) (he : PE X e te) (hs : swapsWith e (some (.Name x pos')) pos.line X.env=pure false:=by rfl) (hf : X.fn x=true∨X.env.scope.names.lookup x=some .local:=by first | exact .inl rfl | exact .inr rfl | assumption) :
    PS X (.Assign [.Name x pos'] e pos) (tAsg te (z2b i)):=by
  intro pins s σ H D I h
  refine wpAny_Assign_Name (thn (he pins s σ H _ I h) fun v s1 ⟨y,H1,I1,r1,q1⟩=>?_) hs
  exact z9H I1 hN hi hx r1 (fun s2 I2=>⟨_,H1,I2,q1⟩) hf
end
section
variable {X : Cx} {pos : Pos}
noncomputable def tWhile (c : TT) (tb : TS) : TS:=fun D σ H=>∃ W : Nat->St->Hp->Prop,(∃ m,W m σ H)∧∀ m σ H,W m σ H →
  c σ H fun b H1=>if b=true then ∃ N : St->Hp->Prop,(∀ σ' H',N σ' H'->∃ m',m' < m∧W m' σ' H')∧tb { D with nx:=N,ct:=N,bk:=D.nx } σ H1 else D.nx σ H1
theorem y3F {c : Expr} {body : List Stmt} {tc : TT} {tb : TS} (hp : PassesOwn (model X.prog X.w) X.A X.env X.xe) (hc : PT X c tc) (hb : PSs X body tb) : PS X (.While c body [] pos) (tWhile tc tb):=by
  intro pins s σ H D I h
  obtain ⟨W,⟨m0,w0⟩,turn⟩:=h
  refine wpAny_While (codeAny_whileLoop (fun n s'=>∃ σ' H',Inv X pins σ' H' s'∧W n σ' H') ?_ m0 ⟨σ,H,I,w0⟩)
  rintro n s1 ⟨σ1,H1,I1,w1⟩
  refine wpAny_passesOwn hp (thn (hc pins s1 σ1 H1 _ I1 (turn n σ1 H1 w1)) fun b s2 ⟨H2,I2,q2⟩=>?_)
  cases b with
  | true=>
    obtain ⟨N,hN,q2⟩:=q2
    rw [if_pos rfl]
    refine wpAny_passesOwn hp (thn (hb pins s2 σ1 H2 _ I2 q2) fun f s3 q3=>?_)
    cases f with
    | next=>
      obtain ⟨σ3,H3,I3,n3⟩:=q3
      obtain ⟨m',hm,w3⟩:=hN σ3 H3 n3
      exact ⟨m',hm,σ3,H3,I3,w3⟩
    | cont=>
      obtain ⟨σ3,H3,I3,n3⟩:=q3
      obtain ⟨m',hm,w3⟩:=hN σ3 H3 n3
      exact ⟨m',hm,σ3,H3,I3,w3⟩
    | brk=>exact q3
    | ret v=>exact q3
  | false=>
    rw [if_neg Bool.false_ne_true]
    exact wpAny_execs_nil ⟨σ1,H2,I2,q2⟩
end
structure It where
  go : Nat->Hp->Prop
  yld : Nat->Hp->V->Hp->Prop
  stop : Nat->Hp->Prop
noncomputable def z8x (X : Cx) (pins : List (Addr × Obj)) (H : Hp) (b : Addr) : Prop:=
  H b=none∧b≠X.env.locals∧b ∉ X.fs∧(b∈X.ex∨X.s₀.heap.objs.size≤b)∧(∀ x c,X.env.cells.lookup x=some c->c≠b)∧∀ p∈X.pn ++ pins,p.1≠b
theorem Inv.fpOk {X : Cx} {pins : List (Addr × Obj)} {σ : St} {H H' : Hp} {s : Shared} {b : Addr} (I : Inv X pins σ H s) (hb : s.heap.objs.size≤b) (hn : H' b=none) : z8x X pins H' b:=by
  refine ⟨hn,Nat.ne_of_gt (Nat.lt_of_lt_of_le I.lt hb),I.nofs hb,.inr (Nat.le_trans I.sz hb),fun x c e z=>?_,fun p hp z=>?_⟩
  · obtain ⟨v,q⟩:=I.cell x c e
    exact absurd (Nat.lt_of_lt_of_le q.lt (by rw [z]; exact hb)) (Nat.lt_irrefl _)
  · exact absurd (Nat.lt_of_lt_of_le (Heap.lt_size (I.pin p hp).1) (by rw [z]; exact hb)) (Nat.lt_irrefl _)
structure Turn (P : Program) (w : World) (K : PySem.W.Frag) (tg : Expr) (J : It) (fp : List Addr) (it : Addr) (tn : Nat->Heap->Prop) : Prop where
  mem : it∈fp
  obj : ∀ i h,tn i h->∀ b∈fp,∃ o,h.get? b=some o∧∀ v,o.data≠.cell v
  keep : ∀ i h h',tn i h->(∀ b∈fp,∀ o,h.get? b=some o->h'.get? b=some o)->tn i h'
  item : ∀ (X : Cx),X.prog=P->X.w=w->X.K=K->X.calm=true->∀ (i : Nat) (pins : List (Addr × Obj)) (s : Shared) (σ : St) (H : Hp) (E : Value->Shared->Prop),Inv X pins σ H s->(∀ b∈fp,z8x X pins H b)->tn i s.heap->J.go i H →
    wpAny (model P w) X.A (pyNext (.ref it)) (fun r s1=>∃ u,r=some u ∧
      wpAny (model P w) X.A (letOwnedTupleGo tg (.ref it) u) (fun _ s2=>∃ x H',Inv X pins σ H' s2∧RelV x u∧J.yld i H x H'∧tn (i + 1) s2.heap∧∀ b∈fp,H' b=none) E s1) E s
  done : ∀ (X : Cx),X.prog=P->X.w=w->X.K=K->X.calm=true->∀ (i : Nat) (pins : List (Addr × Obj)) (s : Shared) (σ : St) (H : Hp) (E : Value->Shared->Prop),Inv X pins σ H s->(∀ b∈fp,z8x X pins H b)->tn i s.heap->J.stop i H →
    wpAny (model P w) X.A (pyNext (.ref it)) (fun r s1=>r=none∧Inv X pins σ H s1) E s
  self : ∀ (A : Around) (i : Nat) (s : Shared) (Q : Value->Shared->Prop) (E : Value->Shared->Prop),tn i s.heap->Q (.ref it) s->wpAny (model P w) A (pyIter (.ref it)) Q E s
noncomputable abbrev TI:=St->Hp->(It->Hp->Prop)->Prop
noncomputable def PIE (X : Cx) (pins : List (Addr × Obj)) (σ : St) (tg : Expr) (R : It->Hp->Prop) (itv : Value) (s2 : Shared) : Prop:=
  ∃ (it : Addr) (fp : List Addr) (tn : Nat->Heap->Prop) (J : It) (H' : Hp),itv = .ref it∧Inv X pins σ H' s2∧Turn X.prog X.w X.K tg J fp it tn∧tn 0 s2.heap∧(∀ b∈fp,z8x X pins H' b)∧R J H'
noncomputable def PI (X : Cx) (tg iter : Expr) (wi : TI) : Prop:=
  ∀ (pins : List (Addr × Obj)) (s : Shared) (σ : St) (H : Hp) (R : It->Hp->Prop),Inv X pins σ H s->wi σ H R →
    wpAny (model X.prog X.w) X.A (eval iter X.env) (fun v s1=>wpAny (model X.prog X.w) X.A (pyIter v) (PIE X pins σ tg R) X.xe s1) X.xe s
theorem y4H {M : Model} {A : Around} {E : Value->Shared->Prop} {s : Shared} {tg : Expr} {it : Addr} {u : Value} {o : Obj} {n : String} {vs : Array Value} {Q : Unit->Shared->Prop} (ho : s.heap.get? it=some o) (hc : o.cls = .type n) (hd : o.data = .fields vs)
    (hn : ["enumerate", "zip", "dict_itemiterator", "dict_reverseitemiterator", "odict_iterator", "itertools.zip_longest", "itertools.pairwise"].contains n=false) (hQ : Q () s) : wpAny M A (letOwnedTupleGo tg (.ref it) u) Q E s:=by
  unfold letOwnedTupleGo
  cases tg <;> first
    | exact wpAny_pure hQ
    | (cases u <;> first
        | exact wpAny_pure hQ
        | (refine wpAny_bind (wpAny_load ho ?_)
           rw [hc,hd]
           show wpAny M A (if (["enumerate", "zip", "dict_itemiterator", "dict_reverseitemiterator", "odict_iterator", "itertools.zip_longest", "itertools.pairwise"].contains n && vs[0]? == some (rawInt _))=true then _ else _) Q E s
           rw [if_neg (by intro h; rw [hn,Bool.false_and] at h; cases h)]
           exact wpAny_pure hQ))
noncomputable def Itl (K : PySem.W.Frag) (a : Addr) : It:=
  ⟨fun i H=>∃ xs x,SqL K H a xs∧xs[i]? = some x,fun i H x H'=>H'=H∧∀ xs,SqL K H a xs->xs[i]? = some x,fun i H=>∃ xs,SqL K H a xs∧xs.length≤i⟩
noncomputable def Itt (K : PySem.W.Frag) (a : Addr) : It:=
  ⟨fun i H=>∃ xs x,SqT K H a xs∧xs[i]? = some x,fun i H x H'=>H'=H∧∀ xs,SqT K H a xs->xs[i]? = some x,fun i H=>∃ xs,SqT K H a xs∧xs.length≤i⟩
noncomputable def Itr (lo : Int) (n : Nat) : It:=⟨fun i _=>i < n,fun i H x H'=>H'=H∧x = .int (lo + i),fun i _=>n≤i⟩
theorem y2V {P : Program} {w : World} {K : PySem.W.Frag} {tg : Expr} (a it : Addr) : Turn P w K tg (Itl K a) [it] it (fun i h=>h.IsListIter it a i) where
  mem:=by simp
  obj:=fun i h st b hb=>by
    have e : b=it:=by simpa using hb
    subst e
    obtain ⟨o,e,c,d⟩:=st
    exact ⟨o,e,fun v z=>by rw [d] at z; cases z⟩
  keep:=fun i h h' st k=>st.at fun o e=>k it (by simp) o e
  item:=by
    intro X hP hw hK hc i pins s σ H E I hf st hg
    subst hP hw hK
    obtain ⟨xs,x,hq,hx⟩:=hg
    obtain ⟨its,rv,p,hz⟩:=I.list hq
    obtain ⟨u,hu,ru⟩:=rv.get hx
    obtain ⟨f0,f1,f2,f3,f4,f5⟩:=hf it (by simp)
    refine wpAny_pyNext_list_item st p.isList (x:=u) (by simpa using hu) fun h' st' sb=>?_
    have I1 : Inv X pins σ H { s with heap:=h' }:=I.turned (t':=s.toks) (fun b o hb e=>(sb.2 b hb).trans e) f0 f1 f3 f4 f5
    obtain ⟨o,e,c,d⟩:=id st'
    exact ⟨u,rfl,y4H (s:={ s with heap:=h' }) e c d (by decide) ⟨x,H,I1,ru,⟨rfl,fun ys hy=>by rw [I.list_inj hy hq]; exact hx⟩,st',fun b hb=>(hf b hb).1⟩⟩
  done:=by
    intro X hP hw hK hc i pins s σ H E I hf st hg
    subst hP hw hK
    obtain ⟨xs,hq,hx⟩:=hg
    obtain ⟨its,rv,p,hz⟩:=I.list hq
    obtain ⟨f0,f1,f2,f3,f4,f5⟩:=hf it (by simp)
    have hl:=rv.length
    exact wpAny_pyNext_list_end (I.ok.hd hc) st p.isList (by simp; omega) fun h' eb=>⟨rfl,I.turned (t':=s.toks) (fun b o hb e=>eb b o hb e) f0 f1 f3 f4 f5⟩
  self:=fun _ _ _ _ _ st h=>wpAny_pyIter_listiter st h
theorem y0k {P : Program} {w : World} {K : PySem.W.Frag} {tg : Expr} (a it : Addr) : Turn P w K tg (Itt K a) [it] it (fun i h=>h.IsTupleIter it a i) where
  mem:=by simp
  obj:=fun i h st b hb=>by
    have e : b=it:=by simpa using hb
    subst e
    obtain ⟨o,e,c,d⟩:=st
    exact ⟨o,e,fun v z=>by rw [d] at z; cases z⟩
  keep:=fun i h h' st k=>st.at fun o e=>k it (by simp) o e
  item:=by
    intro X hP hw hK hc i pins s σ H E I hf st hg
    subst hP hw hK
    obtain ⟨xs,x,hq,hx⟩:=hg
    obtain ⟨its,rv,p,hz⟩:=I.tuple hq
    obtain ⟨u,hu,ru⟩:=rv.get hx
    obtain ⟨f0,f1,f2,f3,f4,f5⟩:=hf it (by simp)
    refine wpAny_pyNext_tuple_item st (show s.heap.IsTuple a its.toArray from p) (x:=u) (by simpa using hu) fun h' st' sb=>?_
    have I1 : Inv X pins σ H { s with heap:=h' }:=I.turned (t':=s.toks) (fun b o hb e=>(sb.2 b hb).trans e) f0 f1 f3 f4 f5
    obtain ⟨o,e,c,d⟩:=id st'
    exact ⟨u,rfl,y4H (s:={ s with heap:=h' }) e c d (by decide) ⟨x,H,I1,ru,⟨rfl,fun ys hy=>by rw [I.tuple_inj hy hq]; exact hx⟩,st',fun b hb=>(hf b hb).1⟩⟩
  done:=by
    intro X hP hw hK hc i pins s σ H E I hf st hg
    subst hP hw hK
    obtain ⟨xs,hq,hx⟩:=hg
    obtain ⟨its,rv,p,hz⟩:=I.tuple hq
    obtain ⟨f0,f1,f2,f3,f4,f5⟩:=hf it (by simp)
    have hl:=rv.length
    exact wpAny_pyNext_tuple_end (I.ok.hd hc) st (show s.heap.IsTuple a its.toArray from p) (by simp; omega) fun h' eb=>⟨rfl,I.turned (t':=s.toks) (fun b o hb e=>eb b o hb e) f0 f1 f3 f4 f5⟩
  self:=fun _ _ _ _ _ st h=>wpAny_pyIter_tupleiter st h
theorem y0K {P : Program} {w : World} {K : PySem.W.Frag} {tg : Expr} (it : Addr) (lo : Int) (n : Nat) : Turn P w K tg (Itr lo n) [it] it (fun i h=>IsRangeIter h it (lo + (i : Nat) * 1) ((n : Int) - (i : Nat)) 1) where
  mem:=by simp
  obj:=fun i h st b hb=>by
    have e : b=it:=by simpa using hb
    subst e
    exact ⟨_,st,fun v z=>by
      have z' : Data.fields _=Data.cell v:=z
      cases z'⟩
  keep:=fun i h h' st k=>k it (by simp) _ st
  item:=by
    intro X hP hw hK hc i pins s σ H E I hf st hg
    subst hP hw hK
    obtain ⟨f0,f1,f2,f3,f4,f5⟩:=hf it (by simp)
    have W:=Walks.range (prog:=X.prog) (w:=X.w) (I.ok.hd hc) it lo 1 n
    refine W.item i s _ _ hg st fun v h' tk hv st' kk=>?_
    obtain ⟨t,rfl⟩:=hv
    have I1 : Inv X pins σ H { s with heap:=h',toks:=tk }:=I.turned (fun b o hb e=>kk b o (by simpa using hb) e) f0 f1 f3 f4 f5
    refine ⟨_,rfl,y4H (s:={ s with heap:=h',toks:=tk }) (n := "range_iterator") st' rfl rfl (by decide) ⟨.int (lo + i),H,I1,⟨t,?_⟩,⟨rfl,rfl⟩,st',fun b hb=>(hf b hb).1⟩⟩
    rw [Int.mul_one]
  done:=by
    intro X hP hw hK hc i pins s σ H E I hf st hg
    subst hP hw hK
    obtain ⟨f0,f1,f2,f3,f4,f5⟩:=hf it (by simp)
    exact wpAny_pyNext_range_end (I.ok.hd hc) st (by have : n≤i:=hg; omega) fun h' eb=>⟨rfl,I.turned (t':=s.toks) (fun b o hb e=>eb b o hb e) f0 f1 f3 f4 f5⟩
  self:=fun _ _ _ _ _ st h=>wpAny_pyIter_rangeiter st h
end L2
namespace L2
open PySem PySem.Spec PyProof.Rows
section
variable {X : Cx} {tg : Expr}
theorem y0b {pins : List (Addr × Obj)} {σ : St} {H : Hp} {s : Shared} {R : It->Hp->Prop} {E : Value->Shared->Prop} {lo hi : Int} {t u v : Tok} {tk : Nat} (I : Inv X pins σ H s) (h1 : -(2 ^ 62)≤lo) (h2 : lo < 2 ^ 62) (h3 : -(2 ^ 62)≤hi) (h4 : hi < 2 ^ 62)
    (q : R (Itr lo (hi - lo).toNat) H) : wpAny (model X.prog X.w) X.A (pyIter (.ref s.heap.objs.size)) (PIE X pins σ tg R) E { s with heap:=s.heap.push { cls:=.type "range",data:=.fields #[.int lo t,.int hi u,.int 1 v] },toks:=tk }:=by
  refine wpAny_pyIter_range (IsRange.new ..) (small_one h1 h2 h3 h4) ?_
  have I1 : Inv X pins σ H { s with heap:=s.heap.push { cls:=.type "range",data:=.fields #[.int lo t,.int hi u,.int 1 v] },toks:=tk }:=I.kept fun b o e=>Heap.get?_push_of_some _ e
  refine ⟨(s.heap.push { cls:=.type "range",data:=.fields #[.int lo t,.int hi u,.int 1 v] }).objs.size,[(s.heap.push { cls:=.type "range",data:=.fields #[.int lo t,.int hi u,.int 1 v] }).objs.size],_,_,H,rfl,
    I1.kept (t':=tk) fun b o e=>Heap.get?_push_of_some _ e,y0K _ lo (hi - lo).toNat,?_,fun b hb=>?_,q⟩
  · have e1 : lo + ((0 : Nat) : Int) * 1=lo:=by simp
    have e2 : (((hi - lo).toNat : Nat) : Int) - ((0 : Nat) : Int)=Builtin.Range.rangeSize lo hi 1:=by rw [rangeSize_one]; split <;> omega
    show IsRangeIter _ _ (lo + ((0 : Nat) : Int) * 1) ((((hi - lo).toNat : Nat) : Int) - ((0 : Nat) : Int)) 1
    rw [e1,e2]
    exact Heap.get?_push_size _ rfl
  · have e : b=(s.heap.push { cls:=.type "range",data:=.fields #[.int lo t,.int hi u,.int 1 v] }).objs.size:=by simpa using hb
    subst e
    exact I1.fpOk (Nat.le_refl _) (I1.hok.fresh (Nat.le_refl _))
noncomputable def iRng1 (ta : TA) : TI:=fun σ H R=>ta σ H fun vs H1=>∃ j : Int,vs=[.int j]∧-(2 ^ 62)≤j∧j < 2 ^ 62∧R (Itr 0 j.toNat) H1
noncomputable def iRng2 (ta : TA) : TI:=fun σ H R=>ta σ H fun vs H1=>∃ i j : Int,vs=[.int i,.int j]∧(-(2 ^ 62)≤i∧i < 2 ^ 62∧-(2 ^ 62)≤j∧j < 2 ^ 62)∧R (Itr i (j - i).toNat) H1
theorem z7M {a : Expr} {ta : TA} {p pos : Pos} (hg : Gl X "range") (hm : X.mg "range" = none) (ha : PA X [a] ta) (hs : starEach [a] X.env=[(false,eval a X.env)]:=by rfl) : PI X tg (.Call (.Name "range" p) [a] [] pos) (iRng1 ta):=by
  intro pins s σ H R I h
  refine Call_ (z3P I hg hm boot_range (PyProof.Rows.callWith_type1 (thn (ha pos pins s σ H _ I h) fun us s1 ⟨vs,H1,I1,r1,q1⟩=>?_) hs rfl))
  obtain ⟨j,e,q1,q2,q⟩:=q1
  subst e
  cases r1 with
  | cons r rr=>
    cases rr
    obtain ⟨t,rfl⟩:=r
    exact call_range_1 (y0b I1 (by omega) (by omega) q1 q2 (by simpa using q))
theorem y2X {a b : Expr} {ta : TA} {p pos : Pos} (hg : Gl X "range") (hm : X.mg "range" = none) (ha : PA X [a,b] ta) (hs : starEach [a,b] X.env=[(false,eval a X.env),(false,eval b X.env)]:=by rfl) (hs2 : starEach [b] X.env=[(false,eval b X.env)]:=by rfl) :
    PI X tg (.Call (.Name "range" p) [a,b] [] pos) (iRng2 ta):=by
  intro pins s σ H R I h
  refine Call_ (z3P I hg hm boot_range (PyProof.Rows.callWith_type1 (thn (ha pos pins s σ H _ I h) fun us s1 ⟨vs,H1,I1,r1,q1⟩=>?_) (by rw [hs,hs2]) (by rw [hs2]; rfl)))
  obtain ⟨i,j,e,⟨q1,q2,q3,q4⟩,q⟩:=q1
  subst e
  cases r1 with
  | cons r rr=>
    cases rr with
    | cons r' rr=>
      cases rr
      obtain ⟨t,rfl⟩:=r
      obtain ⟨t',rfl⟩:=r'
      exact call_range_2 (y0b I1 q1 q2 q3 q4 q)
noncomputable def tFor (wi : TI) (g : TG) (tb : TS) : TS:=fun D σ H=>wi σ H fun J H1=>∃ W : Nat->Nat->St->Hp->Prop,(∃ m,W 0 m σ H1)∧∀ i m σ H,W i m σ H →
  (J.stop i H∧D.nx σ H)∨(J.go i H∧∃ N : St->Hp->Prop,(∀ σ' H',N σ' H'->∃ m',m' < m∧W (i + 1) m' σ' H')∧∀ x H',J.yld i H x H'->g x σ H' fun σ2 H2=>tb { D with nx:=N,ct:=N,bk:=D.nx } σ2 H2)
noncomputable def z7R (fp : List Addr) (h : Heap) : List (Addr × Obj):=fp.filterMap fun b=>(h.get? b).map fun o=>(b,o)
theorem z3n {fp : List Addr} {h : Heap} {b : Addr} {o : Obj} (hb : b∈fp) (e : h.get? b=some o) : (b,o)∈z7R fp h:=List.mem_filterMap.mpr ⟨b,hb,by rw [e]; rfl⟩
theorem y1I {fp : List Addr} {h : Heap} {p : Addr × Obj} (hp : p∈z7R fp h) : p.1∈fp∧h.get? p.1=some p.2:=by
  obtain ⟨b,hb,e⟩:=List.mem_filterMap.mp hp
  cases q : h.get? b with
  | none=>rw [q] at e; cases e
  | some o=>
    rw [q] at e
    have e' : (b,o)=p:=Option.some.inj e
    subst e'
    exact ⟨hb,q⟩
theorem Inv.pinned {pins : List (Addr × Obj)} {σ : St} {H : Hp} {s : Shared} {fp : List Addr} (I : Inv X pins σ H s) (hf : ∀ b∈fp,z8x X pins H b) (ho : ∀ b∈fp,∃ o,s.heap.get? b=some o∧∀ v,o.data≠.cell v) : Inv X (pins ++ z7R fp s.heap) σ H s:=
  I.pins_of fun p hp=>(List.mem_append.mp hp).elim (fun z=>I.pin p (List.mem_append_right _ z)) fun z=>by
    obtain ⟨hb,e⟩:=y1I z
    obtain ⟨f0,f1,f2,_⟩:=hf p.1 hb
    obtain ⟨o,e',d⟩:=ho p.1 hb
    rw [e] at e'; cases e'
    exact ⟨e,f0,f1,f2,d⟩
theorem Inv.unpinned {pins pl : List (Addr × Obj)} {σ : St} {H : Hp} {s : Shared} (I : Inv X (pins ++ pl) σ H s) : Inv X pins σ H s:=I.pins_of fun p hp=>I.pin p (List.mem_append_right _ (List.mem_append_left _ hp))
theorem y1u {iter : Expr} {body : List Stmt} {wi : TI} {g : TG} {tb : TS} {pos : Pos} (hp : PassesOwn (model X.prog X.w) X.A X.env X.xe) (hc : X.calm=true) (hi : PI X tg iter wi) (hg : PG X tg g) (hb : PSs X body tb)
    (hs : ∀ x,foldedSetIterable iter X.env x=pure x:=by intro _; rfl) : PS X (.For tg iter body [] pos) (tFor wi g tb):=by
  intro pins s σ H D I h
  refine wpAny_For (thn (hi pins s σ H _ I h) fun v s1 h1=>thn h1 fun itv s2 h2=>?_) hs
  obtain ⟨it,fp,tn,J,H2,e,I2,T,st2,f2,W,⟨m0,w0⟩,turn⟩:=h2
  subst e
  have stat : ∀ {H' : Hp},(∀ b∈fp,H' b=none)->∀ b∈fp,z8x X pins H' b:=fun hn b hb=>⟨hn b hb,(f2 b hb).2⟩
  refine codeAny_forLoop_any (fun n s'=>∃ i σ' H',Inv X pins σ' H' s'∧tn i s'.heap∧(∀ b∈fp,H' b=none)∧W i n σ' H') ?_ m0 ⟨0,σ,H2,I2,st2,fun b hb=>(f2 b hb).1,w0⟩
  rintro n s3 ⟨i,σ3,H3,I3,st3,fr3,w3⟩
  rcases turn i n σ3 H3 w3 with ⟨stop,qn⟩ | ⟨go,N,hN,step⟩
  · refine wpAny_passesOwn hp (thn (T.done X rfl rfl rfl hc i pins s3 σ3 H3 X.xe I3 (stat fr3) st3 stop) fun r s4 ⟨hr,I4⟩=>?_)
    subst hr
    exact wpAny_execs_nil ⟨σ3,H3,I4,qn⟩
  · refine wpAny_passesOwn hp (thn (T.item X rfl rfl rfl hc i pins s3 σ3 H3 X.xe I3 (stat fr3) st3 go) fun r s4 ⟨u,hr,h4⟩=>?_)
    subst hr
    refine wpAny_passesOwn hp (thn h4 fun _ s5 ⟨x,H5,I5,r5,y5,st5,fr5⟩=>?_)
    have I5':=I5.pinned (stat fr5) (T.obj _ _ st5)
    refine wpAny_passesOwn hp (thn (hg _ s5 σ3 H5 x u _ I5' r5 (step x H5 y5)) fun _ s6 ⟨σ6,H6,I6,q6⟩=>?_)
    refine wpAny_passesOwn hp (thn (hb _ s6 σ6 H6 _ I6 q6) fun f s7 q7=>?_)
    have again : ∀ {σ7 : St} {H7 : Hp},Inv X (pins ++ z7R fp s5.heap) σ7 H7 s7->N σ7 H7->∃ m,m < n∧∃ i σ' H',Inv X pins σ' H' s7∧tn i s7.heap∧(∀ b∈fp,H' b=none)∧W i m σ' H':=fun {σ7 H7} I7 n7=>by
      obtain ⟨m',hm,w7⟩:=hN σ7 H7 n7
      refine ⟨m',hm,i + 1,σ7,H7,I7.unpinned,T.keep _ _ _ st5 fun b hb o e=>(I7.pin (b,o) (List.mem_append_right _ (List.mem_append_right _ (z3n hb e)))).1,fun b hb=>?_,w7⟩
      obtain ⟨o,e,d⟩:=T.obj _ _ st5 b hb
      exact (I7.pin (b,o) (List.mem_append_right _ (List.mem_append_right _ (z3n hb e)))).2.1
    cases f with
    | next=>obtain ⟨σ7,H7,I7,n7⟩:=q7; exact again I7 n7
    | cont=>obtain ⟨σ7,H7,I7,n7⟩:=q7; exact again I7 n7
    | brk=>obtain ⟨σ7,H7,I7,q7⟩:=q7; exact ⟨σ7,H7,I7.unpinned,q7⟩
    | ret v=>obtain ⟨x7,σ7,H7,I7,r7,q7⟩:=q7; exact ⟨x7,σ7,H7,I7.unpinned,r7,q7⟩
end
end L2
namespace L2
open PySem PySem.Spec PyProof.Rows
noncomputable abbrev R2:=V->V->Hp->VK->Prop
noncomputable def OpR (X : Cx) (f : Value->Value->Sem Value) (r : R2) : Prop:=
  ∀ (pins : List (Addr × Obj)) (s : Shared) (σ : St) (H : Hp) (x y : V) (v u : Value) (Q : VK),Inv X pins σ H s->RelV x v->RelV y u->r x y H Q →
    wpAny (model X.prog X.w) X.A (f v u) (EP X pins σ Q) X.xe s
noncomputable def UnR (X : Cx) (f : Value->Sem Value) (r : V->Hp->VK->Prop) : Prop:=
  ∀ (pins : List (Addr × Obj)) (s : Shared) (σ : St) (H : Hp) (x : V) (v : Value) (Q : VK),Inv X pins σ H s->RelV x v->r x H Q →
    wpAny (model X.prog X.w) X.A (f v) (EP X pins σ Q) X.xe s
noncomputable def z4A (X : Cx) (f : Value) (r : List V->Hp->VK->Prop) : Prop:=
  ∀ (pins : List (Addr × Obj)) (s : Shared) (σ : St) (H : Hp) (xs : List V) (us : List Value) (Q : VK),Inv X pins σ H s->Vals xs us->r xs H Q →
    wpAny (model X.prog X.w) X.A (call f us) (EP X pins σ Q) X.xe s
noncomputable def TruR (X : Cx) (r : V->Hp->(Bool->Hp->Prop)->Prop) : Prop:=
  ∀ (pins : List (Addr × Obj)) (s : Shared) (σ : St) (H : Hp) (x : V) (v : Value) (Q : Bool->Hp->Prop),Inv X pins σ H s->RelV x v->r x H Q →
    wpAny (model X.prog X.w) X.A (truthy v) (TP X pins σ Q) X.xe s
noncomputable def tOp (r : R2) (ta tb : TE) : TE:=fun σ H Q=>ta σ H fun x H1=>tb σ H1 fun y H2=>r x y H2 Q
noncomputable def tUn (r : V->Hp->VK->Prop) (ta : TE) : TE:=fun σ H Q=>ta σ H fun x H1=>r x H1 Q
noncomputable def rI (C : Int->Int->Prop) (g : Int->Int->V) : R2:=fun x y H Q=>∃ i j,x = .int i∧y = .int j∧C i j∧Q (g i j) H
noncomputable def rI0 (g : Int->Int->V) : R2:=fun x y H Q=>∃ i j,x = .int i∧y = .int j∧Q (g i j) H
noncomputable def rU (g : Int->V) : V->Hp->VK->Prop:=fun x H Q=>∃ i,x = .int i∧Q (g i) H
section
variable {X : Cx} {a b c : Expr} {ta tb tc : TE} {pos : Pos}
theorem binT (ha : PE X a ta) (hb : PE X b tb) {pins : List (Addr × Obj)} {s : Shared} {σ : St} {H : Hp} {R : V->V->Hp->Prop} (I : Inv X pins σ H s)
    (h : ta σ H fun x H1=>tb σ H1 fun y H2=>R x y H2) {Q : Value->Shared->Prop} {f : Value->Value->Sem Value}
    (hf : ∀ v u s2 x y H2,Inv X pins σ H2 s2->RelV x v->RelV y u->R x y H2->wpAny (model X.prog X.w) X.A (f v u) Q X.xe s2) :
    wpAny (model X.prog X.w) X.A (eval a X.env) (fun v s₁=>wpAny (model X.prog X.w) X.A (eval b X.env) (fun u s₂=>wpAny (model X.prog X.w) X.A (f v u) Q X.xe s₂) X.xe s₁) X.xe s:=by
  refine thn (ha pins s σ H _ I h) fun v s1 ⟨x,H1,I1,r1,q1⟩=>?_
  refine thn (hb pins s1 σ H1 _ I1 q1) fun u s2 ⟨y,H2,I2,r2,q2⟩=>?_
  exact hf v u s2 x y H2 I2 r1 r2 q2
theorem pe_op {op : Operator} {r : R2} (ho : OpR X (binaryOp op) r) (ha : PE X a ta) (hb : PE X b tb) : PE X (.BinOp a op b pos) (tOp r ta tb):=by
  intro pins s σ H Q I h
  exact wpAny_BinOp (binT ha hb I h fun v u s2 x y H2 I2 rx ry q=>ho pins s2 σ H2 x y v u Q I2 rx ry q)
theorem pe_un {op : UnaryOp} {r : V->Hp->VK->Prop} (ho : UnR X (unaryOp op) r) (ha : PE X a ta) : PE X (.UnaryOp op a pos) (tUn r ta):=by
  intro pins s σ H Q I h
  exact UnaryOp_ (thn (ha pins s σ H _ I h) fun v s1 ⟨x,H1,I1,r1,q1⟩=>ho pins s1 σ H1 x v Q I1 r1 q1)
theorem opI {f : Value->Value->Sem Value} {C : Int->Int->Prop} {g : Int->Int->Int}
    (rule : ∀ (i j : Int) (t u : Tok) (s : Shared) (Q : Value->Shared->Prop) (E : Value->Shared->Prop),C i j->Q (.int (g i j) s.toks) { s with toks:=s.toks + 1 }->wpAny (model X.prog X.w) X.A (f (.int i t) (.int j u)) Q E s) :
    OpR X f (rI C fun i j=>.int (g i j)):=by
  intro pins s σ H x y v u Q I rx ry h
  obtain ⟨i,j,rfl,rfl,hc,q⟩:=h
  obtain ⟨t,rfl⟩:=rx
  obtain ⟨t',rfl⟩:=ry
  exact rule i j t t' s _ _ hc ⟨.int (g i j),H,I.tok _,⟨_,rfl⟩,q⟩
theorem opI0 {f : Value->Value->Sem Value} {g : Int->Int->Int}
    (rule : ∀ (i j : Int) (t u : Tok) (s : Shared) (Q : Value->Shared->Prop) (E : Value->Shared->Prop),Q (.int (g i j) s.toks) { s with toks:=s.toks + 1 }->wpAny (model X.prog X.w) X.A (f (.int i t) (.int j u)) Q E s) :
    OpR X f (rI0 fun i j=>.int (g i j)):=by
  intro pins s σ H x y v u Q I rx ry h
  obtain ⟨i,j,rfl,rfl,q⟩:=h
  obtain ⟨t,rfl⟩:=rx
  obtain ⟨t',rfl⟩:=ry
  exact rule i j t t' s _ _ ⟨.int (g i j),H,I.tok _,⟨_,rfl⟩,q⟩
theorem opB0 {f : Value->Value->Sem Value} {g : Int->Int->Bool}
    (rule : ∀ (i j : Int) (t u : Tok) (s : Shared) (Q : Value->Shared->Prop) (E : Value->Shared->Prop),Q (.bool (g i j)) s->wpAny (model X.prog X.w) X.A (f (.int i t) (.int j u)) Q E s) :
    OpR X f (rI0 fun i j=>.bl (g i j)):=by
  intro pins s σ H x y v u Q I rx ry h
  obtain ⟨i,j,rfl,rfl,q⟩:=h
  obtain ⟨t,rfl⟩:=rx
  obtain ⟨t',rfl⟩:=ry
  exact rule i j t t' s _ _ ⟨.bl (g i j),H,I,rfl,q⟩
noncomputable def CDiv (i j : Int) : Prop:=0 < j∧j < 1073741824
noncomputable def CDivN (i j : Int) : Prop:=j≠0∧j.natAbs < 1073741824
noncomputable def CPow (i j : Int) : Prop:=0≤j∧j≤1000000∧i.natAbs < 2 ^ 64
noncomputable def CMul (i j : Int) : Prop:=(-(2 ^ 64) < i∧i < 2 ^ 64)∨(-(2 ^ 64) < j∧j < 2 ^ 64)
theorem CMul.ok {i j : Int} (h : CMul i j) : IntMulOk i j:=by
  rcases h with ⟨h1,h2⟩ | ⟨h1,h2⟩
  · exact .of_left (intBits_le_64 h1 h2)
  · exact .of_right (intBits_le_64 h1 h2)
theorem op_add : OpR X (binaryOp .Add) (rI0 fun i j=>.int (i + j)):=opI0 fun _ _ _ _ _ _ _ q=>add_int q
theorem op_sub : OpR X (binaryOp .Sub) (rI0 fun i j=>.int (i - j)):=opI0 fun _ _ _ _ _ _ _ q=>sub_int q
theorem op_mul : OpR X (binaryOp .Mult) (rI CMul fun i j=>.int (i * j)):=opI fun _ _ _ _ _ _ _ hc q=>mul_int q hc.ok
theorem op_fdiv : OpR X (binaryOp .FloorDiv) (rI CDiv fun i j=>.int (i / j)):=opI fun i j _ _ _ _ _ hc q=>by
  have h1 : (0 : Int) < j:=hc.1
  have h2 : j < 1073741824:=hc.2
  exact floordiv_int (by omega) (by rw [Int.fdiv_eq_ediv_of_nonneg i (by omega)]; exact q) (.inl (PyProof.noPylong_small (by omega)))
theorem op_mod : OpR X (binaryOp .Mod) (rI (fun _ j=>0 < j) fun i j=>.int (i % j)):=opI fun i j _ _ _ _ _ hc q=>by
  have h1 : (0 : Int) < j:=hc
  exact mod_int' (by omega) (by rw [Int.fmod_eq_emod_of_nonneg i (by omega)]; exact q)
theorem unI {f : Value->Sem Value} {g : Int->Int}
    (rule : ∀ (i : Int) (t : Tok) (s : Shared) (Q : Value->Shared->Prop) (E : Value->Shared->Prop),Q (.int (g i) s.toks) { s with toks:=s.toks + 1 }->wpAny (model X.prog X.w) X.A (f (.int i t)) Q E s) :
    UnR X f (rU fun i=>.int (g i)):=by
  intro pins s σ H x v Q I rx h
  obtain ⟨i,rfl,q⟩:=h
  obtain ⟨t,rfl⟩:=rx
  exact rule i t s _ _ ⟨.int (g i),H,I.tok _,⟨_,rfl⟩,q⟩
theorem un_neg : UnR X (unaryOp .USub) (rU fun i=>.int (-i)):=unI fun _ _ _ _ _ q=>neg_int q
end
section
variable {X : Cx} {a b c : Expr} {ta tb tc : TE} {pos : Pos}
theorem op_lt : OpR X (compareOp .Lt) (rI0 fun i j=>.bl (decide (i < j))):=opB0 fun _ _ _ _ _ _ _ q=>lt_int q
theorem op_le : OpR X (compareOp .LtE) (rI0 fun i j=>.bl (decide (i≤j))):=opB0 fun _ _ _ _ _ _ _ q=>le_int q
theorem op_gt : OpR X (compareOp .Gt) (rI0 fun i j=>.bl (decide (j < i))):=opB0 fun _ _ _ _ _ _ _ q=>gt_int q
theorem z7o (b : Expr) {op : CmpOp} (h : op≠.In:=by decide) (h2 : op≠.NotIn:=by decide) : behindInMarks op b=false:=by
  have e1 : (op == CmpOp.In)=false:=by cases op <;> first | rfl | exact absurd rfl h
  have e2 : (op == CmpOp.NotIn)=false:=by cases op <;> first | rfl | exact absurd rfl h2
  cases b <;> simp [behindInMarks,e1,e2]
theorem pe_cmpR {op : CmpOp} {r : R2} (ho : OpR X (compareOp op) r) (ha : PE X a ta) (hb : PE X b tb) (hm : behindInMarks op b=false) : PE X (.Compare a [op] [b] pos) (tOp r ta tb):=by
  intro pins s σ H Q I h
  exact wpAny_Compare1 (binT ha hb I h fun v u s2 x y H2 I2 rx ry q=>ho pins s2 σ H2 x y v u Q I2 rx ry q) hm
noncomputable def tTest (t : TE) : TT:=fun σ H Q=>t σ H fun x H'=>∃ k,x = .bl k∧Q k H'
theorem pt_cmpR {op : CmpOp} {r : R2} (ho : OpR X (compareOp op) r) (ha : PE X a ta) (hb : PE X b tb) (hm : behindInMarks op b=false) : PT X (.Compare a [op] [b] pos) (tTest (tOp r ta tb)):=by
  intro pins s σ H Q I h
  refine wpAny_isTrue_Compare1 (thn (ha pins s σ H _ I h) fun v s1 ⟨x,H1,I1,r1,q1⟩=>thn (hb pins s1 σ H1 _ I1 q1) fun u s2 ⟨y,H2,I2,r2,q2⟩=>
    thn (ho pins s2 σ H2 x y v u _ I2 r1 r2 q2) fun c s3 ⟨z,H3,I3,r3,k,e,q3⟩=>?_) hm
  subst e
  cases r3
  exact wpAny_truthy_bool ⟨H3,I3,q3⟩
noncomputable def y5K (r r' : R2) (ta tb tc : TE) : TE:=fun σ H Q=>ta σ H fun x H1=>tb σ H1 fun y H2=>r x y H2 fun z H3=>∃ k,z = .bl k ∧
  (if k=true then tc σ H3 fun w' H4=>r' y w' H4 Q else Q (.bl false) H3)
theorem y4l {op op' : CmpOp} {r r' : R2} (ho : OpR X (compareOp op) r) (ho' : OpR X (compareOp op') r') (ha : PE X a ta) (hb : PE X b tb) (hc : PE X c tc)
    (hm : lastMarks [op,op'] [b,c]=false:=by with_unfolding_all rfl) : PE X (.Compare a [op,op'] [b,c] pos) (y5K r r' ta tb tc):=by
  intro pins s σ H Q I h
  refine Compare_chain (thn (ha pins s σ H _ I h) fun v s1 ⟨x,H1,I1,r1,q1⟩=>chain_link (thn (hb pins s1 σ H1 _ I1 q1) fun u s2 ⟨y,H2,I2,r2,q2⟩=>
    thn (ho pins s2 σ H2 x y v u _ I2 r1 r2 q2) fun d s3 ⟨z,H3,I3,r3,k,e,q3⟩=>?_)) hm
  subst e
  cases r3
  refine wpAny_truthy_bool ?_
  cases k with
  | false=>exact ite_ff ⟨.bl false,H3,I3,rfl,q3⟩
  | true=>exact ite_tt (chain_last (thn (hc pins s3 σ H3 _ I3 q3) fun w' s4 ⟨z',H4,I4,r4,q4⟩=>ho' pins s4 σ H4 y z' u w' Q I4 r2 r4 q4))
noncomputable def TruV (K : PySem.W.Frag) (x : V) (H : Hp) (k : Bool) : Prop:=
  match x with
  | .non=>k=false
  | .bl b=>k=b
  | .int i=>k=(i != 0)
  | .str y=>y.length≤sizeLine∧k=((y.length : Int) != 0)
  | .byt y=>y.size≤sizeLine∧k=((y.size : Int) != 0)
  | .ref p=>(∃ xs,SqL K H p xs∧k = !xs.isEmpty)∨(∃ xs,SqT K H p xs∧k = !xs.isEmpty)∨∃ kvs,H p=some (.dK kvs)∧k = !kvs.isEmpty
  | _=>False
theorem y0v {κ : Type} {kvs : List (κ × V)} {vs : List (κ × Value)} (r : KV kvs vs) : (!vs.isEmpty) = !kvs.isEmpty:=by
  cases r <;> rfl
theorem z6d {xs : List V} {its : List Value} (r : Vals xs its) : (!its.toArray.isEmpty) = !xs.isEmpty:=by
  cases r <;> simp
theorem z5P : (sizeLine : Nat) < 2 ^ 63:=by rw [sizeLine_eq]; decide
theorem tru_ok : TruR X (fun x H Q=>∃ k,TruV X.K x H k∧Q k H):=by
  intro pins s σ H x v Q I rx h
  obtain ⟨k,e,q⟩:=h
  have hl:=z5P
  have hs : sizeLine=16777216:=sizeLine_eq
  cases x with
  | non=>
    cases rx
    have e' : k=false:=e
    subst e'
    exact truthy_none ⟨H,I,q⟩
  | bl b=>
    cases rx
    have e' : k=b:=e
    subst e'
    exact wpAny_truthy_bool ⟨H,I,q⟩
  | int i=>
    obtain ⟨t,rfl⟩:=rx
    have e' : k=(i != 0):=e
    subst e'
    exact PySem.P.truthy_int ⟨H,I,q⟩
  | str y=>
    obtain ⟨t,rfl⟩:=rx
    obtain ⟨hy,e'⟩ : y.length≤sizeLine∧k=((y.length : Int) != 0):=e
    subst e'
    exact PySem.P.truthy_str (by omega) ⟨H,I.tok _,q⟩
  | byt y=>
    obtain ⟨t,rfl⟩:=rx
    obtain ⟨hy,e'⟩ : y.size≤sizeLine∧k=((y.size : Int) != 0):=e
    subst e'
    exact PySem.W.truthy_bytes (by omega) ⟨H,I.tok _,q⟩
  | ref p=>
    cases rx
    have e' : (∃ xs,SqL X.K H p xs∧k = !xs.isEmpty)∨(∃ xs,SqT X.K H p xs∧k = !xs.isEmpty)∨∃ kvs,H p=some (.dK kvs)∧k = !kvs.isEmpty:=e
    rcases e' with ⟨xs,hx,e'⟩ | ⟨xs,hx,e'⟩ | ⟨kvs,hx,e'⟩
    · subst e'
      obtain ⟨its,r,pl,hz⟩:=I.list hx
      have hlen:=r.length
      exact wpAny_truthy_list pl.isList (by simp only [List.size_toArray]; omega) ⟨H,I.tok _,by rw [z6d r]; exact q⟩
    · subst e'
      obtain ⟨its,r,pl,hz⟩:=I.tuple hx
      have hlen:=r.length
      exact truthy_tuple pl (by simp only [List.size_toArray]; omega) ⟨H,I.tok _,by rw [z6d r]; exact q⟩
    · subst e'
      obtain ⟨hz,hS,vs,r,m⟩ : kvs.length≤sizeLine∧(p == sysModules)=false∧∃ vs,KV kvs vs∧s.heap.DictOf (z0Y X.prog X.w) p vs:=I.hok p _ hx
      have hlen : kvs.length=vs.length:=Paired.length r
      exact wpAny_truthy_dict hS m (by omega) ⟨H,I.tok _,by rw [y0v r]; exact q⟩
  | _=>exact (show False from e).elim
theorem y3I (ha : PE X a ta) (he : ∀ whole,isTrue a X.env whole=(do let v ← whole; standAt a.pos; holding [v] (truthy v))) :
    PT X a (fun σ H Q=>ta σ H fun x H'=>∃ k,TruV X.K x H' k∧Q k H'):=by
  intro pins s σ H Q I h
  exact isTrue_plain (thn (ha pins s σ H _ I h) fun v s1 ⟨x,H1,I1,r1,q1⟩=>tru_ok pins s1 σ H1 x v Q I1 r1 q1) (he _)
theorem y0z {x : V} {us : List Value} (r : Vals [x] us) : ∃ u,us=[u]∧RelV x u:=by
  cases r with
  | cons r1 r2=>cases r2; exact ⟨_,rfl,r1⟩
theorem vals2 {x y : V} {us : List Value} (r : Vals [x,y] us) : ∃ u w',us=[u,w']∧RelV x u∧RelV y w':=by
  cases r with
  | cons r1 r2=>
    cases r2 with
    | cons r3 r4=>cases r4; exact ⟨_,_,rfl,r1,r3⟩
theorem y2m (hc : X.calm=true) : z4A X (.builtin "min") (fun xs H Q=>∃ i j,xs=[.int i,.int j]∧Q (.int (if j < i then j else i)) H):=by
  intro pins s σ H xs us Q I r h
  obtain ⟨i,j,rfl,q⟩:=h
  obtain ⟨u,w',rfl,⟨t,rfl⟩,⟨t',rfl⟩⟩:=vals2 r
  refine min_two_ints (I.ok.hd hc) fun h' tk k=>⟨_,H,I.kept k,?_,q⟩
  by_cases hj : j < i
  · rw [if_pos hj,if_pos hj]; exact ⟨_,rfl⟩
  · rw [if_neg hj,if_neg hj]; exact ⟨_,rfl⟩
noncomputable def LenV (K : PySem.W.Frag) (x : V) (H : Hp) (n : Nat) : Prop:=
  match x with
  | .str y=>y.length≤sizeLine∧n=y.length
  | .byt y=>y.size≤sizeLine∧n=y.size
  | .ref p=>(∃ xs,SqL K H p xs∧n=xs.length)∨∃ xs,SqT K H p xs∧n=xs.length
  | _=>False
theorem y3W : z4A X (.builtin "len") (fun xs H Q=>∃ x n,xs=[x]∧LenV X.K x H n∧Q (.int n) H):=by
  intro pins s σ H xs us Q I r h
  obtain ⟨x,n,rfl,e,q⟩:=h
  obtain ⟨u,rfl,rx⟩:=y0z r
  have hl:=z5P
  have hs : sizeLine=16777216:=sizeLine_eq
  cases x with
  | str y=>
    obtain ⟨t,rfl⟩:=rx
    obtain ⟨hy,e'⟩ : y.length≤sizeLine∧n=y.length:=e
    subst e'
    exact len_str (by omega) ⟨.int _,H,I.tok _,⟨_,rfl⟩,q⟩
  | byt y=>
    obtain ⟨t,rfl⟩:=rx
    obtain ⟨hy,e'⟩ : y.size≤sizeLine∧n=y.size:=e
    subst e'
    exact PySem.W.len_bytes (by omega) ⟨.int _,H,I.tok _,⟨_,rfl⟩,q⟩
  | ref p=>
    cases rx
    have e' : (∃ xs,SqL X.K H p xs∧n=xs.length)∨∃ xs,SqT X.K H p xs∧n=xs.length:=e
    rcases e' with ⟨xs,hx,e'⟩ | ⟨xs,hx,e'⟩
    · subst e'
      obtain ⟨its,r',pl,hz⟩:=I.list hx
      have hlen:=r'.length
      exact Calls.call_len_list pl.isList (by simp only [List.size_toArray]; omega) ⟨.int xs.length,H,I.tok _,⟨_,by simp only [List.size_toArray]; rw [hlen]⟩,q⟩
    · subst e'
      obtain ⟨its,r',pl,hz⟩:=I.tuple hx
      have hlen:=r'.length
      exact len_tuple pl (by simp only [List.size_toArray]; omega) ⟨.int xs.length,H,I.tok _,⟨_,by simp only [List.size_toArray]; rw [hlen]⟩,q⟩
  | _=>exact (show False from e).elim
end
end L2
namespace L2
open PySem PySem.Spec PyProof.Rows
structure ObjM (h : Heap) (x dx C : Addr) (mA : Str->Option Value) : Prop where
  obj : h.get? x=some (PySem.W.instObj C dx)
  ns : h.Ns1 dx mA
  ne : dx≠x
section
variable {prog : Program} {w : World} {A : Around} {E : Value->Shared->Prop} {s : Shared} {K : PySem.W.Frag} {x dx C f : Addr} {mA : Str->Option Value} {name : Str} {v : Value}
end
section
variable {P : Program} {w : World} {H H' : Hp} {h h' : Heap} {a C dx : Addr} {fs fs' : List (Str × V)}
end
structure Cls (K : PySem.W.Frag) (C : Addr) : Prop where
  pg : PySem.W.plainGet K C Str.empty=true
  hd : PySem.W.hasDictIn K C=true
  po : PySem.W.plainOver K C=true
  sa : PySem.W.findIn K (.ref C) "__setattr__" = some (some (.builtin "object.__setattr__"))
structure Con (K : PySem.W.Frag) (C : Addr) (f : Str) (v : V) (u : Value) : Prop where
  at_ : PySem.W.findIn K (.ref C) f=some (some u)
  rel : RelV v u
  get : PySem.W.specialIn K u "__get__" = some none
  cp : PySem.W.copiedNames.contains f=false
structure Meth (K : PySem.W.Frag) (C : Addr) (m : Str) (f : Addr) : Prop where
  at_ : PySem.W.findIn K (.ref C) m=some (some (.ref f))
  fn : PySem.W.isFn K (.ref f)=true
  kp : PySem.W.keepIn K (.ref f)=true
section
variable {X : Cx} {pins : List (Addr × Obj)} {σ : St} {H : Hp} {s : Shared} {a C dx : Addr} {fs : List (Str × V)} {f : Str} {v : V} {A : Around} {E : Value->Shared->Prop}
end
section
variable {X : Cx} {o e value : Expr} {f : Str} {pos pos' tpos : Pos} {ta tv : TE}
end
section
variable {X : Cx} {pins : List (Addr × Obj)} {σ : St} {H : Hp} {s : Shared} {A : Around} {E : Value->Shared->Prop} {Q : Value->Shared->Prop} {c : Value} {b : Bool}
inductive TyOf (K : PySem.W.Frag) (H : Hp) : V->Value->Prop where
  | non : TyOf K H .non (.type "NoneType")
  | bl (x : Bool) : TyOf K H (.bl x) (.type "bool")
  | int (i : Int) : TyOf K H (.int i) (.type "int")
  | str (x : Str) : TyOf K H (.str x) (.type "str")
  | flt (x : UInt64) : TyOf K H (.flt x) (.type "float")
  | lst {a : Addr} {xs : List V} (e : H a=some (.lst xs)) : TyOf K H (.ref a) (.type "list")
  | frz {a : Addr} {o : Obj} {xs : List V} (e : H a=some (.frz o (.lst xs))) : TyOf K H (.ref a) (.type "list")
  | tup {a : Addr} {xs : List V} (e : H a=some (.tup xs)) : TyOf K H (.ref a) (.type "tuple")
  | dK {a : Addr} {kvs : List (Key × V)} (e : H a=some (.dK kvs)) : TyOf K H (.ref a) (.type "dict")
  | dT {a : Addr} {kvs : List (List Key × V)} (e : H a=some (.dT kvs)) : TyOf K H (.ref a) (.type "dict")
  | ins {a C dx : Addr} {fs : List (Str × V)} (e : H a=some (.ins C dx fs)) (cl : Cls K C) (ha : PySem.W.findIn K (.ref C) "__class__" = some (some (.builtin "object.__class__")))
      (hn : PySem.W.specialIn K (.builtin "object.__class__") "__get__" = some (some (.builtin "getset_descriptor.__get__"))) (htk : PySem.W.takesIn K (.builtin "object.__class__")=some true)
      (hm : PySem.W.mroIn K C (.type "object")=some true) : TyOf K H (.ref a) (.ref C)
end
end L2
namespace L2
open PySem PySem.Spec PyProof.Rows
structure Room (k : Nat) (A : Around) : Prop where
  hd : A.handled=none
  dp : A.depth + 3 * k + 5 < recursionLimit
  un : A.units + 16 * k + 200 < cLine
theorem Room.mono {j k : Nat} {A : Around} (r : Room k A) (h : j≤k) : Room j A:=⟨r.hd,by have:=r.dp; omega,by have:=r.un; omega⟩
theorem Room.deeper {k : Nat} {A : Around} (r : Room (k + 1) A) (env : Env) : Room k (A.deeper env):=
  ⟨r.hd,by have:=r.dp; show A.depth + 1 + 3 * k + 5 < _; omega,by have:=r.un; show A.units + 3 + 16 * k + 200 < _; omega⟩
theorem Room.depth {k : Nat} {A : Around} (r : Room k A) : A.depth < recursionLimit:=by have:=r.dp; omega
theorem Room.units {k : Nat} {A : Around} (r : Room k A) : A.units + 64 < cLine:=by have:=r.un; omega
noncomputable def tNil : TA:=fun _ H Q=>Q [] H
noncomputable def tCons (ta : TE) (tr : TA) : TA:=fun σ H Q=>ta σ H fun x H1=>tr σ H1 fun xs H2=>Q (x :: xs) H2
section
variable {X : Cx} {e : Expr} {es : List Expr} {te : TE} {t : TA} {pos : Pos}
theorem pa_nil : PA X [] tNil:=fun _ _ _ _ H Q I h=>Calls.spliced_nil ⟨[],H,I,.nil,h⟩
theorem z2a (ha : PE X e te) (hr : PA X es t) (hs : starEach (e :: es) X.env=(false,eval e X.env) :: starEach es X.env:=by rfl) : PA X (e :: es) (tCons te t):=by
  intro pos pins s σ H Q I h
  rw [hs]
  show wpAny _ _ (spliced ((false,eval e X.env) :: backTo pos (starEach es X.env))) _ _ s
  refine Calls.spliced_cons (thn (ha pins s σ H _ I h) fun u s1 ⟨x,H1,I1,r1,q1⟩=>?_)
  exact thn (hr pos pins s1 σ H1 _ I1 q1) fun us s2 ⟨xs,H2,I2,r2,q2⟩=>⟨x :: xs,H2,I2,.cons r1 r2,q2⟩
noncomputable def tTup (t : TA) : TE:=fun σ H Q=>t σ H fun xs H1=>xs.length≤sizeLine∧∀ p,H1 p=none->Q (.ref p) (upd H1 p (.tup xs))
noncomputable def tLst (t : TA) : TE:=fun σ H Q=>t σ H fun xs H1=>xs.length≤sizeLine∧∀ p,H1 p=none->Q (.ref p) (upd H1 p (.lst xs))
theorem pe_tup {x1} (h : PA X es t) : PE X (.Tuple es x1 pos) (tTup t):=by
  intro pins s σ H Q I hq
  refine wpAny_Tuple_spliced (thn (h pos pins s σ H _ I hq) fun us s1 ⟨xs,H1,I1,r,z,q⟩=>⟨by rw [← r.length]; exact z,?_⟩)
  have hf : H1 s1.heap.objs.size=none:=I1.hok.fresh (Nat.le_refl _)
  refine ⟨.ref s1.heap.objs.size,upd H1 s1.heap.objs.size (.tup xs),I1.laid (t':=s1.toks) (fun b u e=>Heap.get?_push_of_some _ e) (Nat.le_refl _) ?_,rfl,q _ hf⟩
  exact ⟨z,us,r,TupN.new _ _⟩
theorem y5V (h : PA X es t) : PE X (.List es pos) (tLst t):=by
  intro pins s σ H Q I hq
  refine wpAny_List_spliced (thn (h pos pins s σ H _ I hq) fun us s1 ⟨xs,H1,I1,r,z,q⟩=>⟨by rw [← r.length]; exact z,?_⟩)
  have hf : H1 s1.heap.objs.size=none:=I1.hok.fresh (Nat.le_refl _)
  refine ⟨.ref s1.heap.objs.size,upd H1 s1.heap.objs.size (.lst xs),I1.laid (t':=s1.toks) (fun b u e=>Heap.get?_push_of_some _ e) (Nat.le_refl _) ?_,rfl,q _ hf⟩
  exact ⟨z,us,0,r,Heap.get?_push_size _ rfl⟩
end
noncomputable abbrev Sp:=List V->Hp->VK->XK->Prop
noncomputable abbrev CXT:=List Env->Hp->Shared->XK->Value->Shared->Prop
structure Env0 (P : Program) (w : World) (K : PySem.W.Frag) (mg : Str->Option Value) (base : Heap) (A : Around) (outer : List Env) (s : Shared) (H : Hp) : Prop where
  frames : A.frames=some outer
  mod : Mod K mg base
  bs : ∀ b o,base.get? b=some o->s.heap.get? b=some o∧H b=none
  bsz : base.objs.size≤s.heap.objs.size
  funs : s.heap.FunFrames base outer
  frf : ∀ b∈frs outer,H b=none
  hok : HOk P w H s.heap
  bare : AllBare s.gens
noncomputable def CE (outer : List Env) (P : Program) (w : World) (H : Hp) (s : Shared) (Q : VK) (u : Value) (s' : Shared) : Prop:=
  ∃ v H',s'.os=s.os∧AllBare s'.gens∧Un (frs outer) [] H H' s.heap s'.heap∧HOk P w H' s'.heap∧RelV v u∧Q v H'
noncomputable def CR (CX : CXT) (outer : List Env) (P : Program) (w : World) (H : Hp) (s : Shared) (Q : VK) (E : XK) (r : Result) (s' : Shared) : Prop:=
  match r with
  | .ok (.ret u)=>CE outer P w H s Q u s'
  | .ok _=>False
  | .error e=>CX outer H s E e s'
structure FnOk (P : Program) (w : World) (K : PySem.W.Frag) (mg : Str->Option Value) (base : Heap) (CX : CXT) (k : Nat) (f : Addr) (fd : FuncData) (ps : List Str) (sp : Sp) : Prop where
  len : ∀ vs H Q E,sp vs H Q E->vs.length=ps.length
  run : ∀ (A : Around) (outer : List Env) (s : Shared) (H : Hp) (args : Args) (us : List Value) (vs : List V) (Q : VK) (E : XK),Room k A->Env0 P w K mg base A outer s H->BindsTo s fd args (ps.zip us)->Vals vs us->sp vs H Q E →
    codeAny (model P w) A (.call (.ref f) args) (CR CX outer P w H s Q E) s
theorem FnOk.imp {P : Program} {w : World} {K : PySem.W.Frag} {mg : Str->Option Value} {base : Heap} {CX : CXT} {k : Nat} {f : Addr} {fd : FuncData} {ps : List Str} {sp sp' : Sp} (F : FnOk P w K mg base CX k f fd ps sp)
    (h : ∀ vs H Q E,sp' vs H Q E->sp vs H Q E) : FnOk P w K mg base CX k f fd ps sp':=
  ⟨fun vs H Q E q=>F.len vs H Q E (h _ _ _ _ q),fun A outer s H args us vs Q E hr he hb hv hs=>F.run A outer s H args us vs Q E hr he hb hv (h _ _ _ _ hs)⟩
section
variable {X : Cx} {pins : List (Addr × Obj)} {σ : St} {H : Hp} {s s' : Shared}
theorem Inv.env0 (I : Inv X pins σ H s) : Env0 X.prog X.w X.K X.mg X.base X.A X.stack s H:=
  ⟨I.ok.frames,I.ok.mod,I.bs,Nat.le_trans I.ok.bsz I.sz,I.stack,I.stkFree,I.hok,I.bare⟩
theorem Inv.after {Q : VK} {u : Value} (I : Inv X pins σ H s) (h : CE X.stack X.prog X.w H s Q u s') : EP X pins σ Q u s':=by
  obtain ⟨v,H',os,bare,un,hok,r,q⟩:=h
  obtain ⟨hh,g,d,t,os'⟩:=s'
  obtain rfl : os'=s.os:=os
  exact ⟨v,H',I.call (h':=hh) (g':=g) (d':=d) (t':=t) (ch:=[]) un hok bare (fun b z=>absurd z (by simp)),r,q⟩
end
noncomputable def tCall (sp : Sp) (dvs : List V) (E : XK) (t : TA) : TE:=fun σ H Q=>t σ H fun vs H1=>sp (vs ++ dvs) H1 Q E
noncomputable def Binds (K : PySem.W.Frag) (fd : FuncData) (ps : List Str) (ds : List Value) : Prop:=
  ∀ (s : Shared) (us : List Value),K.In s.heap->(us ++ ds).length=ps.length->BindsTo s fd ⟨us,[]⟩ (ps.zip (us ++ ds))
theorem Binds.all {K : PySem.W.Frag} {fd : FuncData} {ps : List Str} (h : ∀ us : List Value,us.length=ps.length->bindArgs fd ⟨us,[]⟩=pure (ps.zip us)) : Binds K fd ps []:=fun s us _ hl=>by
  rw [List.append_nil] at hl ⊢
  exact .of_eq (h us hl)
noncomputable def y2A (CX : CXT) (X : Cx) (E : XK) : Prop:=∀ (pins : List (Addr × Obj)) (σ : St) (H : Hp) (s : Shared) (e : Value) (s' : Shared),Inv X pins σ H s->CX X.stack H s E e s'->X.xe e s'
section
variable {X : Cx} {CX : CXT} {k : Nat} {f C : Addr} {fd : FuncData} {ps : List Str} {sp : Sp} {dvs : List V} {ds : List Value} {E : XK} {x m : Str} {p pos apos : Pos} {e o : Expr} {es : List Expr} {ta : TE} {t : TA}
theorem run_fn {pins : List (Addr × Obj)} {σ : St} {H : Hp} {s : Shared} {Q : VK} {us : List Value} {vs : List V} (F : FnOk X.prog X.w X.K X.mg X.base CX k f fd ps sp) (hr : Room k X.A) (hb : Binds X.K fd ps ds) (hd : Vals dvs ds) (hx : y2A CX X E)
    (I : Inv X pins σ H s) (r : Vals vs us) (h : sp (vs ++ dvs) H Q E) : wpAny (model X.prog X.w) X.A (call (.ref f) us) (EP X pins σ Q) X.xe s:=by
  have r2 : Vals (vs ++ dvs) (us ++ ds):=r.append hd
  have hl : (us ++ ds).length=ps.length:=by rw [← r2.length]; exact F.len _ _ _ _ h
  refine wpAny_call (codeAny_mono (F.run X.A X.stack s H ⟨us,[]⟩ (us ++ ds) (vs ++ dvs) Q E hr I.env0 (hb s us I.kIn hl) r2 h) fun r s' hq=>?_)
  cases r with
  | error e=>exact hx pins σ H s e s' I hq
  | ok fl=>
    cases fl with
    | ret u=>exact I.after hq
    | next=>exact False.elim hq
    | brk=>exact False.elim hq
    | cont=>exact False.elim hq
theorem pe_call (F : FnOk X.prog X.w X.K X.mg X.base CX k f fd ps sp) (hr : Room k X.A) (hg : Gl X x) (hm : X.mg x=some (.ref f)) (hk : PySem.W.keepIn X.K (.ref f)=true) (hb : Binds X.K fd ps ds) (hd : Vals dvs ds) (hx : y2A CX X E)
    (ha : PA X (e :: es) t) (hdb : (x == ("__debug__" : Str))=false:=by decide) (he : starEach (e :: es) X.env=(false,eval e X.env) :: starEach es X.env:=by rfl) (hpl : (backTo pos (starEach es X.env)).any (·.1)=false:=by rfl) :
    PE X (.Call (.Name x p) (e :: es) [] pos) (tCall sp dvs E t):=by
  intro pins s σ H Q I h
  refine wpAny_Call_Name_kw (z8q I hg hm ?_ hdb)
  refine PySem.W.callWith_K (h₀:=X.base) I.ok.mod.kin hk (thn (ha pos pins s σ H _ I h) fun us s1 ⟨vs,H1,I1,r,q⟩=>⟨I1.kIn,?_⟩) he hpl
  exact run_fn F hr hb hd hx I1 r q
structure Mk (K : PySem.W.Frag) (C f : Addr) : Prop where
  makes : PySem.W.makesIn K C=true
  init : PySem.W.findIn K (.ref C) "__init__" = some (some (.ref f))
  fn : PySem.W.isFn K (.ref f)=true
  kp : PySem.W.keepIn K (.ref C)=true
end
section
variable {X : Cx} {CX : CXT} {k : Nat} {f C : Addr} {fd : FuncData} {ps ks : List Str} {sp : Sp} {E : XK} {x m : Str} {p pos apos kpos : Pos} {e o : Expr} {es : List Expr} {kws : List Keyword} {te ta : TE} {t tk : TA} {nm : Option Str}
structure KBinds (K : PySem.W.Frag) (fd : FuncData) (ps ks : List Str) (g : List Value->List Value->List Value) (gV : List V->List V->List V) : Prop where
  to : ∀ (s : Shared) (us ws : List Value),K.In s.heap->(g us ws).length=ps.length->BindsTo s fd ⟨us,ks.zip ws⟩ (ps.zip (g us ws))
  rel : ∀ {vs : List V} {us : List Value} {zs : List V} {ws : List Value},Vals vs us->Vals zs ws->Vals (gV vs zs) (g us ws)
variable {g : List Value->List Value->List Value} {gV : List V->List V->List V}
end
structure FnScope (N P : List Str) (sc : Scope) : Prop where
  kind : sc.kind = .function
  co : sc.isCoroutine=false
  gen : sc.isGenerator=false
  nd : N.Nodup
  pre : N.take P.length=P
  par : ∀ x∈P,sc.names.lookup x=some .local∨sc.names.lookup x=some .cell
  nofree : ∀ y∈sc.names,y.2≠.free
theorem z7X {kindOf : Str->Option NameKind} {x : Str} : ∀ {binds : List (Str × Value)} {m : Str->Option Value},(∀ v,(x,v) ∉ binds)->bindL kindOf binds m x=m x
  | [],_,_=>rfl
  | (n,v) :: r,m,h=>by
    unfold bindL
    rw [z7X fun w hw=>h w (List.mem_cons_of_mem _ hw)]
    split
    · have : x≠n:=by rintro rfl; exact h v List.mem_cons_self
      simp [this]
    · rfl
theorem z7S {kindOf : Str->Option NameKind} {x : Str} : ∀ {binds : List (Str × Value)} {m : Str->Option Value},(∀ v,(x,v) ∉ binds)->bindC kindOf binds m x=m x
  | [],_,_=>rfl
  | (n,v) :: r,m,h=>by
    unfold bindC
    rw [z7S fun w hw=>h w (List.mem_cons_of_mem _ hw)]
    split
    · rfl
    · have : x≠n:=by rintro rfl; exact h v List.mem_cons_self
      simp [this]
theorem z7n {kindOf : Str->Option NameKind} {x : Str} {v : Value} : ∀ {P : List Str} {vs : List Value} {i : Nat} {m : Str->Option Value},P.Nodup->P[i]? = some x->vs[i]? = some v->kindOf x=some .local →
    bindL kindOf (P.zip vs) m x=some v
  | [],_,_,_,_,h,_,_=>by simp at h
  | _ :: _,[],_,_,_,_,h,_=>by simp at h
  | p :: P,w :: vs,0,m,nd,h1,h2,hk=>by
    simp at h1 h2; subst h1; subst h2
    show bindL kindOf ((p,w) :: P.zip vs) m p=_
    unfold bindL
    rw [z7X fun v hv=>(List.nodup_cons.mp nd).1 (List.of_mem_zip hv).1,if_pos hk]
    simp
  | p :: P,w :: vs,i + 1,m,nd,h1,h2,hk=>by
    show bindL kindOf ((p,w) :: P.zip vs) m x=_
    unfold bindL
    exact z7n (i:=i) (List.nodup_cons.mp nd).2 (by simpa using h1) (by simpa using h2) hk
theorem z7W {kindOf : Str->Option NameKind} {x : Str} {v : Value} : ∀ {P : List Str} {vs : List Value} {i : Nat} {m : Str->Option Value},P.Nodup->P[i]? = some x->vs[i]? = some v->kindOf x≠some .local →
    bindC kindOf (P.zip vs) m x=some v
  | [],_,_,_,_,h,_,_=>by simp at h
  | _ :: _,[],_,_,_,_,h,_=>by simp at h
  | p :: P,w :: vs,0,m,nd,h1,h2,hk=>by
    simp at h1 h2; subst h1; subst h2
    show bindC kindOf ((p,w) :: P.zip vs) m p=_
    unfold bindC
    rw [z7S fun v hv=>(List.nodup_cons.mp nd).1 (List.of_mem_zip hv).1,if_neg hk]
    simp
  | p :: P,w :: vs,i + 1,m,nd,h1,h2,hk=>by
    show bindC kindOf ((p,w) :: P.zip vs) m x=_
    unfold bindC
    exact z7W (i:=i) (List.nodup_cons.mp nd).2 (by simpa using h1) (by simpa using h2) hk
noncomputable def z5z (N : List Str) (vs : List V) : St:=vs.map some ++ List.replicate (N.length - vs.length) none
noncomputable def z9A (CX : CXT) (P : Program) (w : World) (K : PySem.W.Frag) (mg : Str->Option Value) (base : Heap) (N : List Str) (qual : Str) (scope : Scope) (f : Addr) (cd : Value) (A : Around) (outer : List Env) (s : Shared) (H : Hp) (E : XK) : Cx where
  prog:=P
  w:=w
  K:=K
  mg:=mg
  base:=base
  A:=A.deeper (envOfC qual scope s.heap.objs.size f cd)
  N:=N
  s₀:=s
  H₀:=H
  env:=envOfC qual scope s.heap.objs.size f cd
  outer:=outer
  stack:=envOfC qual scope s.heap.objs.size f cd :: outer
  ex:=[]
  calm:=true
  fn:=fun _=>true
  pn:=[]
  xe:=fun e s'=>wpAny (model P w) (A.deeper (envOfC qual scope s.heap.objs.size f cd)) (leaving (envOfC qual scope s.heap.objs.size f cd) e) (fun _ s''=>CX outer H s E e s'') (fun e' s''=>CX outer H s E e' s'') s'
theorem z9x {sc : Scope} {n : Nat} {x : Str} (h : sc.names.lookup x=some .cell) : ∃ c,(cellsFrom n sc.names []).lookup x=some c:=by
  have q:=PySem.W.cellsFrom_some sc.names n [] (.inl h)
  exact Option.isSome_iff_exists.mp q
theorem y1S {CX : CXT} {P : Program} {w : World} {K : PySem.W.Frag} {mg : Str->Option Value} {base : Heap} {N ps : List Str} {qual : Str} {scope : Scope} {f : Addr} {cd : Value} {A : Around} {outer : List Env} {s s1 : Shared} {H : Hp} {E : XK} {us : List Value} {vs : List V}
    (S : FnScope N ps scope) (hd : A.handled=none) (e0 : Env0 P w K mg base A outer s H) (hl : vs.length=ps.length) (r : Vals vs us)
    (x : InCallC s s.heap.objs.size (bindL (envOfC qual scope s.heap.objs.size f cd).kindOf (ps.zip us) fun _=>none) (cellsFrom (s.heap.objs.size + 1) scope.names []) (bindC (envOfC qual scope s.heap.objs.size f cd).kindOf (ps.zip us) fun _=>none) s1) :
    Inv (z9A CX P w K mg base N qual scope f cd A outer s H E) [] (z5z N vs) H s1:=by
  have hpl : ps.length≤N.length:=by have:=congrArg List.length S.pre; rw [List.length_take] at this; omega
  obtain ⟨h1,tk,rfl,hk⟩:=x.done
  have noA : ∀ b : Addr,b ∉ (z9A CX P w K mg base N qual scope f cd A outer s H E).ex:=fun b z=>absurd (show b∈([] : List Addr) from z) (by simp)
  refine ⟨⟨e0.mod,S.kind,rfl,rfl,Nat.le_refl _,fun y z c h1 h2=>?_,fun y hy=>?_,fun y c _ h=>?_,fun _=>hd,Around.frames_deeper e0.frames,.inr ⟨rfl,rfl⟩,fun b z=>absurd z (noA b),e0.bs,e0.bsz,fun b _ _=>noA b,fun b z=>absurd z (noA b),e0.funs,e0.frf⟩,
    rfl,e0.bare,Un.kept hk,⟨_,x.toInCall.ns,fun i y v h1 h2 h3=>?_⟩,fun y c h=>⟨_,x.cell y c h⟩,e0.hok.fresh (Nat.le_refl _),fun y c h=>?_,fun p hp=>absurd (show p∈([] : List (Addr × Obj)) from hp) (by simp),e0.hok.kept hk,?_⟩
  · exact name_of_addr x.apart (PySem.mem_of_lookup h1) (PySem.mem_of_lookup h2)
  · have hy : scope.names.lookup y=some .cell∨scope.names.lookup y=some .free:=hy
    rcases hy with hy | hy
    · exact z9x hy
    · exact absurd rfl (S.nofree _ (PySem.mem_of_lookup hy))
  · exact Nat.le_of_lt (x.above y c (PySem.mem_of_lookup h))
  · have hi : i < vs.length:=by
      unfold z5z at h2
      by_cases hi : i < vs.length
      · exact hi
      · rw [List.getElem?_append_right (by simpa using hi)] at h2
        rw [List.getElem?_replicate] at h2
        split at h2 <;> cases h2
    have ha : vs[i]? = some v:=by
      unfold z5z at h2
      rw [List.getElem?_append_left (by simpa using hi),List.getElem?_map] at h2
      cases e : vs[i]? with
      | none=>rw [e] at h2; cases h2
      | some a=>rw [e] at h2; cases h2; rfl
    obtain ⟨u,hu,rv⟩:=r.get ha
    have hp : ps[i]? = some y:=by
      rw [← S.pre,List.getElem?_take_of_lt (by omega)]; exact h1
    have ndP : ps.Nodup:=by rw [← S.pre]; exact S.nd.sublist (List.take_sublist _ _)
    refine ⟨u,rv,?_⟩
    rcases S.par y (List.mem_of_getElem? hp) with k | k
    · exact .inl ⟨k,z7n ndP hp hu k⟩
    · obtain ⟨c,e⟩:=z9x (n:=s.heap.objs.size + 1) k
      refine .inr ⟨.inl k,c,e,?_⟩
      have q:=x.cell y c e
      rw [z7W ndP hp hu (by show scope.names.lookup y≠_; rw [k]; decide)] at q
      exact q
  · exact e0.hok.fresh (Nat.le_of_lt (x.above y c (PySem.mem_of_lookup h)))
  · unfold z5z
    show _=N.length
    rw [List.length_append,List.length_map,List.length_replicate]
    omega
theorem fn_of {CX : CXT} {P : Program} {w : World} {K : PySem.W.Frag} {mg : Str->Option Value} {base : Heap} {k : Nat} {f : Addr} {name qual : Str} {params : Arguments} {body : List Stmt} {scope : Scope} {dV kV doc pm cdv ct oc : Value} {an od : Option Addr}
    {osl : Array (Option Value)} {N ps : List Str} {sp : Sp} (lk : K.lookup f=some ⟨oc,od,.func (PySem.W.fnOf name qual params body scope dV kV doc pm an cdv ct),osl⟩) (hcd : PySem.W.codeIn K cdv qual=true) (S : FnScope N ps scope)
    (len : ∀ vs H Q E,sp vs H Q E->vs.length=ps.length)
    (hbody : ∀ (A : Around) (outer : List Env) (s : Shared) (H : Hp) (vs : List V) (Q : VK) (E : XK),Room k (A.deeper (envOfC qual scope s.heap.objs.size f cdv))->sp vs H Q E →
      ∃ t,PSs (z9A CX P w K mg base N qual scope f cdv A outer s H E) body t∧t { nx:=fun _ H'=>Q .non H',rt:=Q } (z5z N vs) H) :
    FnOk P w K mg base CX (k + 1) f (PySem.W.fnOf name qual params body scope dV kV doc pm an cdv ct) ps sp:=by
  refine ⟨len,fun A outer s H args us vs Q E hr e0 hb r hsp=>?_⟩
  have hl:=len _ _ _ _ hsp
  have KX : K.In s.heap:=e0.mod.kin.keeps fun b o e=>(e0.bs b o e).1
  have lim : s.heap.NoLimit:=e0.mod.nolimit.keeps fun b o e=>(e0.bs b o e).1
  have hkind : ∀ y∈ps.zip us,scope.names.lookup y.1=some .local∨(scope.names.lookup y.1=some .cell∧((cellsFrom (s.heap.objs.size + 1) scope.names []).lookup y.1).isSome=true):=fun ⟨n,v⟩ hy=>by
    rcases S.par n (List.of_mem_zip hy).1 with q | q
    · exact .inl q
    · exact .inr ⟨q,PySem.W.cellsFrom_some _ _ _ (.inl q)⟩
  refine codeAny_call_function hr.depth (KX _ _ lk) rfl S.co S.gen rfl (PySem.W.codeRec_of KX hcd) (hb _ _ _ _ ?_)
  refine wpAny_newFunctionEnv_cells S.kind hkind fun env he s1 x=>?_
  subst he
  refine ⟨lim.keeps x.toInCall.keep,codeAny_func ?_⟩
  obtain ⟨t,ht,hq⟩:=hbody A outer s H vs Q E (hr.deeper _) hsp
  have I : Inv (z9A CX P w K mg base N qual scope f cdv A outer s H E) [] (z5z N vs) H s1:=y1S S hr.hd e0 hl r x
  refine wpAny_mono (ht [] s1 (z5z N vs) H _ I hq) (fun fl s' hs=>?_) fun e s' hs=>hs
  have fin : ∀ {σ' : St} {H' : Hp} {v : V} {u : Value},Inv (z9A CX P w K mg base N qual scope f cdv A outer s H E) [] σ' H' s'->RelV v u->Q v H'->CE outer P w H s Q u s':=
    fun {σ' H' v u} J rv q=>⟨v,H',J.os,J.bare,J.base,J.hok,rv,q⟩
  cases fl with
  | ret u=>
    obtain ⟨v,σ',H',J,rv,q⟩:=hs
    exact fin J rv q
  | next=>
    obtain ⟨σ',H',J,q⟩:=hs
    exact fin (v:=V.non) (u:=Value.none) J rfl q
  | brk=>
    obtain ⟨_,_,_,q⟩:=hs
    exact False.elim q
  | cont=>
    obtain ⟨_,_,_,q⟩:=hs
    exact False.elim q
end L2
namespace L2
open PySem PySem.Spec PyProof.Rows
section
variable {X : Cx} {x : Str} {p pos : Pos} {e : Expr} {es : List Expr} {t : TA} {id T : String} {r : List V->Hp->VK->Prop}
noncomputable def tCB (r : List V->Hp->VK->Prop) (t : TA) : TE:=fun σ H Q=>t σ H fun vs H1=>r vs H1 Q
theorem z4G (hc : z4A X (.builtin id) r) (hg : Gl X x) (hm : X.mg x=none) (hv : bootBuiltins x=some (.builtin id)) (ha : PA X (e :: es) t) (hn : x ≠ "__name__" := by decide) (hdb : (x == ("__debug__" : Str))=false:=by decide)
    (he : starEach (e :: es) X.env=(false,eval e X.env) :: starEach es X.env:=by rfl) (hpl : (backTo pos (starEach es X.env)).any (·.1)=false:=by rfl) : PE X (.Call (.Name x p) (e :: es) [] pos) (tCB r t):=by
  intro pins s σ H Q I h
  refine wpAny_Call_Name_kw (z3P I hg hm hv ?_ hn hdb)
  exact PyProof.Rows.callWith_builtin1 (thn (ha pos pins s σ H _ I h) fun us s1 ⟨vs,H1,I1,r1,q1⟩=>hc pins s1 σ H1 vs us Q I1 r1 q1) he hpl
theorem y2K (hc : z4A X (.type T) r) (hg : Gl X x) (hm : X.mg x=none) (hv : bootBuiltins x=some (.type T)) (ha : PA X (e :: es) t) (hn : x ≠ "__name__" := by decide) (hdb : (x == ("__debug__" : Str))=false:=by decide)
    (he : starEach (e :: es) X.env=(false,eval e X.env) :: starEach es X.env:=by rfl) (hpl : (backTo pos (starEach es X.env)).any (·.1)=false:=by rfl) : PE X (.Call (.Name x p) (e :: es) [] pos) (tCB r t):=by
  intro pins s σ H Q I h
  refine wpAny_Call_Name_kw (z3P I hg hm hv ?_ hn hdb)
  exact PyProof.Rows.callWith_type1 (thn (ha pos pins s σ H _ I h) fun us s1 ⟨vs,H1,I1,r1,q1⟩=>hc pins s1 σ H1 vs us Q I1 r1 q1) he hpl
end
end L2
namespace HT
open PySem PyProof.Rows
section
open PySem.SeqAt
open PySem.AutoSeq1 (wpAny_loadPart')
open PySem.MeetsSeq PySem.MeetsSeq2 PySem.MeetsSeq3
end
section
variable {prog : Program} {w : World} {A : Around} {E : Value->Shared->Prop} {s : Shared}
noncomputable def sIx (n d : Nat) : Option Int->Nat
  | none=>d
  | some v=>if v < 0 then (v + (n : Int)).toNat else min v.toNat n
end
end HT
namespace L2
open PySem PySem.Spec PyProof.Rows
noncomputable abbrev TO:=St->Hp->(Option Int->Hp->Prop)->Prop
theorem y0q {ns : List Int} : ∀ {us : List Value},Vals (ns.map V.int) us->IntsAre us ns:=by
  induction ns with
  | nil=>intro us r; rw [List.map_nil] at r; cases r; exact .nil
  | cons n ns ih=>
    intro us r
    rw [List.map_cons] at r
    cases r with
    | cons r1 r2=>
      obtain ⟨t,e⟩:=r1
      subst e
      exact .cons n t (ih r2)
section
variable {X : Cx} {e : Expr} {te : TE} {lo hi : Option Expr} {tl th : TO} {pos p2 : Pos}
end
end L2
namespace L2
open PySem PySem.Spec PyProof.Rows
noncomputable def ixN (n : Nat) (i : Int) : Option Nat:=if 0≤i then (if i < n then some i.toNat else none) else if -(n : Int)≤i then some (i + n).toNat else none
noncomputable def atI {α : Type} (xs : List α) (i : Int) : Option α:=(ixN xs.length i).bind fun j=>xs[j]?
theorem y2L {n : Nat} {i : Int} {j : Nat} (h : ixN n i=some j) : seqIndex? i n=some j∧j < n∧-(n : Int)≤i∧i < n:=by
  unfold ixN at h
  by_cases h0 : 0≤i
  · rw [if_pos h0] at h
    by_cases h1 : i < n
    · rw [if_pos h1] at h
      have e : i.toNat=j:=Option.some.inj h
      exact ⟨by rw [seqIndex_of h0 h1,e],by omega,by omega,h1⟩
    · rw [if_neg h1] at h; cases h
  · rw [if_neg h0] at h
    by_cases h1 : -(n : Int)≤i
    · rw [if_pos h1] at h
      have e : (i + n).toNat=j:=Option.some.inj h
      exact ⟨by rw [seqIndex_neg (by omega) h1,e],by omega,h1,by omega⟩
    · rw [if_neg h1] at h; cases h
theorem z8N {α : Type} {xs : List α} {i : Int} {v : α} (h : atI xs i=some v) : ∃ j,seqIndex? i xs.length=some j∧xs[j]? = some v∧j < xs.length∧-(xs.length : Int)≤i∧i < xs.length:=by
  unfold atI at h
  cases e : ixN xs.length i with
  | none=>rw [e] at h; cases h
  | some j=>
    rw [e] at h
    obtain ⟨h1,h2,h3,h4⟩:=y2L e
    exact ⟨j,h1,h,h2,h3,h4⟩
theorem z6u {α : Type} {xs : List α} {j : Nat} {v : α} (h : xs[j]? = some v) : atI xs (j : Int)=some v:=by
  have hj : j < xs.length:=(List.getElem?_eq_some_iff.mp h).1
  have e : ixN xs.length (j : Int)=some j:=by
    unfold ixN
    rw [if_pos (by omega),if_pos (by omega)]; simp
  unfold atI; rw [e]; exact h
noncomputable def z6Z (b : Expr) : Prop:=∀ o i,subscripted b false o i=operate [o,i] (getItem o i)
noncomputable def IxR (X : Cx) (r : R2) : Prop:=
  ∀ (value slice : Expr) (pins : List (Addr × Obj)) (s : Shared) (σ : St) (H : Hp) (x y : V) (v u : Value) (Q : VK),Inv X pins σ H s->RelV x v->RelV y u->r x y H Q →
    subscripted slice false v u=operate [v,u] (getItem v u)->wpAny (model X.prog X.w) X.A (subscriptTail value slice v u) (EP X pins σ Q) X.xe s
noncomputable def MtR (X : Cx) (id : String) (r : V->List V->Hp->VK->Prop) : Prop:=
  ∀ (pins : List (Addr × Obj)) (s : Shared) (σ : St) (H : Hp) (x : V) (xs : List V) (v : Value) (us : List Value) (Q : VK),Inv X pins σ H s->RelV x v->Vals xs us->r x xs H Q →
    wpAny (model X.prog X.w) X.A (call (.builtin id) (v :: us)) (EP X pins σ Q) X.xe s
section
variable {X : Cx} {a b : Expr} {ta tb : TE} {pos : Pos}
theorem IxR.or {r r' : R2} (h : IxR X r) (h' : IxR X r') : IxR X (fun x y H Q=>r x y H Q∨r' x y H Q):=by
  intro value slice pins s σ H x y v u Q I rx ry q hs
  rcases q with q | q
  · exact h value slice pins s σ H x y v u Q I rx ry q hs
  · exact h' value slice pins s σ H x y v u Q I rx ry q hs
theorem pe_ix {r : R2} (hr : IxR X r) (ha : PE X a ta) (hb : PE X b tb) (hs : z6Z b) : PE X (.Subscript a b pos) (tOp r ta tb):=by
  intro pins s σ H Q I h
  exact Subscript_ (binT ha hb I h fun v u s2 x y H2 I2 rx ry q=>hr a b pins s2 σ H2 x y v u Q I2 rx ry q (hs _ _))
noncomputable def rIxL (K : PySem.W.Frag) : R2:=fun x y H Q=>∃ p xs i v,x = .ref p∧y = .int i∧SqL K H p xs∧atI xs i=some v∧Q v H
noncomputable def rIxT (K : PySem.W.Frag) : R2:=fun x y H Q=>∃ p xs i v,x = .ref p∧y = .int i∧SqT K H p xs∧atI xs i=some v∧Q v H
noncomputable def rIxS : R2:=fun x y H Q=>∃ z i c,x = .str z∧y = .int i∧z.length≤sizeLine∧atI z.cps.toList i=some c∧Q (.str ⟨#[c]⟩) H
theorem ix_list : IxR X (rIxL X.K):=by
  intro value slice pins s σ H x y v u Q I rx ry h hs
  obtain ⟨p,xs,i,z,rfl,rfl,hq,he,q⟩:=h
  cases rx
  obtain ⟨t,rfl⟩:=ry
  obtain ⟨its,r,pl,hz⟩:=I.list hq
  obtain ⟨j,h1,h2,h3,h4,h5⟩:=z8N he
  obtain ⟨w,ew,rw'⟩:=r.get h2
  have hl:=r.length
  have hn:=z5P
  have fin : EP X pins σ Q w s:=⟨z,H,I,rw',q⟩
  by_cases h0 : 0≤i
  · have hj : i.toNat=j:=by
      rw [seqIndex_of h0 h5] at h1
      exact Option.some.inj h1
    exact item_listR pl.isList h0 (by omega) (by rw [hj]; simpa using ew) fin hs
  · have hj : (i + (its.toArray.size : Int)).toNat=j:=by
      rw [seqIndex_neg (by omega) h4] at h1
      rw [List.size_toArray,← hl]
      exact Option.some.inj h1
    exact subscriptTail_builtinR (x:=w) pl.isList.typeIs slot_list_getitem.lookup
      (wpAny_getItem_list_neg (Q:=fun r s'=>r=w∧EP X pins σ Q r s') pl.isList (by omega) (by rw [List.size_toArray] <;> omega) (by omega) (by rw [hj]; simpa using ew) ⟨rfl,fin⟩) hs
theorem ix_tup : IxR X (rIxT X.K):=by
  intro value slice pins s σ H x y v u Q I rx ry h hs
  obtain ⟨p,xs,i,z,rfl,rfl,hq,he,q⟩:=h
  cases rx
  obtain ⟨t,rfl⟩:=ry
  obtain ⟨its,r,pl,hz⟩:=I.tuple hq
  obtain ⟨j,h1,h2,h3,h4,h5⟩:=z8N he
  obtain ⟨w,ew,rw'⟩:=r.get h2
  have hl:=r.length
  have hn:=z5P
  have fin : EP X pins σ Q w s:=⟨z,H,I,rw',q⟩
  exact subscriptTail_builtinR (x:=w) pl.typeIs slot_tuple_getitem.lookup
    (getItem_tuple (j:=j) (Q:=fun r s'=>r=w∧EP X pins σ Q r s') pl (by omega) (by omega) (by rw [List.size_toArray,← hl]; exact h1) (by simpa using ew) ⟨rfl,fin⟩) hs
theorem ix_str : IxR X rIxS:=by
  intro value slice pins s σ H x y v u Q I rx ry h hs
  obtain ⟨z,i,c,rfl,rfl,hz,he,q⟩:=h
  obtain ⟨t,rfl⟩:=rx
  obtain ⟨t',rfl⟩:=ry
  obtain ⟨j,h1,h2,h3,h4,h5⟩:=z8N he
  have hl : z.cps.toList.length=z.length:=by simp [Str.length]
  rw [hl] at h1 h4 h5
  have hn:=z5P
  exact tail_any (typeIs_str s z t) slot_str_getitem.lookup (getItem_str (c:=c) (by
    have e1 : decide (i < -(2 ^ 63 : Int))=false:=decide_eq_false (by omega)
    have e2 : decide (i ≥ 2 ^ 63)=false:=decide_eq_false (by omega)
    rw [e1,e2,Bool.or_false]) (by rw [h1]; simpa using h2) ⟨.str ⟨#[c]⟩,H,I.tok _,⟨_,rfl⟩,q⟩) hs
noncomputable def rIx (K : PySem.W.Frag) : R2:=fun x y H Q=>rIxL K x y H Q∨rIxT K x y H Q∨rIxS x y H Q
theorem y5X : IxR X (rIx X.K):=ix_list.or (ix_tup.or ix_str)
theorem y0w (its : List Value) (n j : Nat) (u : Value) : Obj.mapSeq (·.setIfInBounds j u) { cls:=.type "list",data:=.seq its.toArray n } = { cls:=.type "list",data:=.seq (its.set j u).toArray n }:=by
  simp [Obj.mapSeq]
theorem Inv.lst {pins : List (Addr × Obj)} {σ : St} {H : Hp} {s : Shared} {p : Addr} {xs : List V} (I : Inv X pins σ H s) (h : H p=some (.lst xs)) :
    ∃ (its : List Value) (n : Nat),Vals xs its∧s.heap.get? p=some { cls:=.type "list",data:=.seq its.toArray n }∧xs.length≤sizeLine:=by
  obtain ⟨z,its,n,r,e⟩:=I.hok p _ h
  exact ⟨its,n,r,e,z⟩
theorem Inv.lstUpd {pins : List (Addr × Obj)} {σ : St} {H : Hp} {s : Shared} {p : Addr} {xs ys : List V} {its its' : List Value} {n n' : Nat} {f : Obj->Obj} (I : Inv X pins σ H s) (h : H p=some (.lst xs))
    (ho : s.heap.get? p=some { cls:=.type "list",data:=.seq its.toArray n }) (hf : f { cls:=.type "list",data:=.seq its.toArray n } = { cls:=.type "list",data:=.seq its'.toArray n' }) (r : Vals ys its') (hz : ys.length≤sizeLine) (t : Nat) :
    Inv X pins σ (upd H p (.lst ys)) { s with heap:=s.heap.update p f,toks:=t }:=by
  have e : (s.heap.update p f).get? p=some { cls:=.type "list",data:=.seq its'.toArray n' }:=by
    rw [Heap.get?_update_self f ho (by rw [hf] <;> rfl),hf]
  refine I.write (x:=p) (e:=p) (by rw [h]; trivial) (.inl rfl) (fun b u hb q=>(Heap.get?_update_other _ _ (Ne.symm hb)).trans q) ⟨_,e⟩ ?_
  exact ⟨hz,its',n',r,e⟩
noncomputable def rSetL : V->V->V->Hp->(Hp->Prop)->Prop:=fun o i v H Q=>∃ p xs k j,o = .ref p∧i = .int k∧H p=some (.lst xs)∧ixN xs.length k=some j∧Q (upd H p (.lst (xs.set j v)))
theorem z9n : PSet X rSetL:=by
  intro pins s σ H o i v ov iv u Q I ro ri rv h
  obtain ⟨p,xs,k,j,rfl,rfl,hp,hj,q⟩:=h
  cases ro
  obtain ⟨t,rfl⟩:=ri
  obtain ⟨its,n,r,ho,hz⟩:=I.lst hp
  obtain ⟨h1,h2,h3,h4⟩:=y2L hj
  have hl:=r.length
  have hn:=z5P
  have I' : Inv X pins σ (upd H p (.lst (xs.set j v))) { s with heap:=s.heap.update p (Obj.mapSeq (·.setIfInBounds j u)) }:=
    I.lstUpd hp ho (y0w its n j u) (r.set rv j) (by rw [List.length_set]; exact hz) s.toks
  by_cases h0 : 0≤k
  · have hk : k.toNat=j:=by
      rw [seqIndex_of h0 h4] at h1
      exact Option.some.inj h1
    exact PySem.W.ki_setAt ho h0 (by omega) (by rw [List.size_toArray,← hl]; exact h4) (by rw [hk]; exact ⟨_,I',q⟩)
  · have hk : (k + (its.toArray.size : Int)).toNat=j:=by
      rw [seqIndex_neg (by omega) h3] at h1
      rw [List.size_toArray,← hl]
      exact Option.some.inj h1
    exact PySem.W.ki_setBack ho (by omega) (by rw [List.size_toArray,← hl]; exact h3) (by omega) (by rw [hk]; exact ⟨_,I',q⟩)
theorem z8b : z4A X (.type "list") (fun xs H Q=>∃ p ys,xs=[.ref p]∧(SqL X.K H p ys∨SqT X.K H p ys)∧∀ l,H l=none->Q (.ref l) (upd H l (.lst ys))):=by
  intro pins s σ H xs us Q I r h
  obtain ⟨p,ys,rfl,hq,q⟩:=h
  obtain ⟨u,rfl,rx⟩:=y0z r
  cases rx
  have fin : ∀ (its : List Value),Vals ys its->ys.length≤sizeLine->∀ (h' : Heap) (c' : Nat),(∀ b o',s.heap.get? b=some o'->h'.get? b=some o') →
      h'.get? s.heap.objs.size=some { cls:=.type "list",dict:=none,data:=.seq its.toArray c',slots:=#[] }->EP X pins σ Q (.ref s.heap.objs.size) { s with heap:=h' }:=fun its r' hz h' c' kp e=>
    ⟨.ref s.heap.objs.size,_,I.laid (t':=s.toks) kp (Nat.le_refl _) (show ObjOk X.prog X.w _ h' _ (.lst ys) from ⟨hz,its,c',r',e⟩),rfl,q _ (I.hok.fresh (Nat.le_refl _))⟩
  rcases hq with hq | hq
  · obtain ⟨its,r',pl,hz⟩:=I.list hq
    have hlen:=r'.length
    obtain ⟨o,ho,hc,n,hd⟩:=pl.isList
    exact call_list_seq p (.inl rfl) ho hc hd (fun h' c' kp e=>fin its r' hz h' c' kp e) (by simp only [List.size_toArray] <;> omega)
  · obtain ⟨its,r',pl,hz⟩:=I.tuple hq
    have hlen:=r'.length
    obtain ⟨o,ho,hc,n,hd⟩:=pl
    exact call_list_seq p (.inr rfl) ho hc hd (fun h' c' kp e=>fin its r' hz h' c' kp e) (by simp only [List.size_toArray] <;> omega)
noncomputable def tyV (K : PySem.W.Frag) (T : String) (x : V) (H : Hp) : Prop:=match x with
  | .str _=>T = "str"
  | .int _=>T = "int"
  | .ref p=>(T = "list" ∧ ∃ xs,SqL K H p xs)∨(T = "tuple" ∧ ∃ o,K.lookup p=some o∧o.cls = .type "tuple" ∧ o.dict=none) ∨
      (T = "dict" ∧ ((∃ kvs,H p=some (.dK kvs))∨∃ kvs,H p=some (.dT kvs)))∨(T = "set" ∧ ∃ S n,H p=some (.set S n))
  | _=>False
theorem tyV_is {pins : List (Addr × Obj)} {σ : St} {H : Hp} {s : Shared} {T : String} {x : V} {v : Value} (I : Inv X pins σ H s) (r : RelV x v) (ty : tyV X.K T x H) :
    s.TypeIs v T∧∀ a,v = .ref a->∃ ob,s.heap.get? a=some ob∧ob.dict=none:=by
  cases x with
  | str z=>
    obtain ⟨t,rfl⟩:=r
    cases (show T = "str" from ty)
    exact ⟨typeIs_str s z t,fun _ e=>nomatch e⟩
  | int i=>
    obtain ⟨t,rfl⟩:=r
    cases (show T = "int" from ty)
    exact ⟨typeIs_int s i t,fun _ e=>nomatch e⟩
  | ref p=>
    cases r
    rcases ty with ⟨rfl,xs,hq⟩ | ⟨rfl,o,hk,hc,hd⟩ | ⟨rfl,hk⟩ | ⟨rfl,S,n,hk⟩
    · obtain ⟨its,_,pl,_⟩:=I.list hq
      refine ⟨pl.isList.typeIs,fun a e=>?_⟩
      cases e
      obtain ⟨o,n,e,c,hd,_⟩:=pl
      exact ⟨o,e,hd⟩
    · refine ⟨⟨o,I.kIn p o hk,hc⟩,fun a e=>?_⟩
      cases e
      exact ⟨o,I.kIn _ o hk,hd⟩
    · have z : ∃ o,s.heap.get? p=some o∧o.ExactDict:=by
        rcases hk with ⟨kvs,hk⟩ | ⟨kvs,hk⟩
        · obtain ⟨_,_,_,_,o,_,_,e,ex,_⟩:=I.hok p _ hk
          exact ⟨o,e,ex⟩
        · obtain ⟨_,_,_,_,o,_,_,e,ex,_⟩:=I.hok p _ hk
          exact ⟨o,e,ex⟩
      obtain ⟨o,e,ex⟩:=z
      refine ⟨⟨o,e,ex.1⟩,fun a e2=>?_⟩
      cases e2
      exact ⟨o,e,ex.2.1⟩
    · obtain ⟨o,_,_,_,e,ex,_⟩:=I.hok p _ hk
      refine ⟨⟨o,e,ex.1⟩,fun a e2=>?_⟩
      cases e2
      exact ⟨o,e,ex.2.1⟩
  | _=>exact False.elim ty
noncomputable def tBM (K : PySem.W.Frag) (T : String) (r : V->List V->Hp->VK->Prop) (to : TE) (t : TA) : TE:=fun σ H Q=>to σ H fun x H1=>tyV K T x H1∧t σ H1 fun xs H2=>r x xs H2 Q
variable {o e : Expr} {es : List Expr} {to : TE} {t : TA} {name : Str} {apos cpos : Pos} {T id : String} {r : V->List V->Hp->VK->Prop}
theorem y5l (pa : PlainAttrs T) (slot : Slot T name id) (hty : typeOf (.builtin id)=pure (.type "method_descriptor")) (hm : MtR X id r) (ho : PE X o to) (ha : PA X (e :: es) t)
    (hbase : attributeBase o name X.env (eval o X.env)=eval o X.env:=by rfl)
    (hfew : ((backTo cpos (starEach (e :: es) X.env)).all (fun x=>!x.1) && (backToKw cpos (keywordEach [] X.env)).all (fun x=>x.1.isSome)
      && decide ((e :: es).length + ([] : List Keyword).length + (if ([] : List Keyword).isEmpty then 0 else 1) < 30))=true:=by rfl)
    (hline : (apos.endLine == cpos.line)=true:=by rfl) (hs : starEach (e :: es) X.env=(false,eval e X.env) :: starEach es X.env:=by rfl) (hplain : (backTo cpos (starEach es X.env)).any (·.1)=false:=by rfl) :
    PE X (.Call (.Attribute o name apos) (e :: es) [] cpos) (tBM X.K T r to t):=by
  intro pins s σ H Q I h
  refine wpAny_Call_method_late hbase hfew hline rfl (thn (ho pins s σ H _ I h) fun v s1 ⟨x,H1,I1,r1,ty,q1⟩=>?_)
  obtain ⟨h1,h2⟩:=tyV_is I1 r1 ty
  refine ⟨T,id,pa,slot,hty,h1,h2,?_⟩
  have hA:=ha cpos pins s1 σ H1 _ I1 q1
  rw [hs] at hA ⊢
  refine Calls.callWith_builtin (by show (false || (backTo cpos (starEach es X.env)).any (·.1))=false; rw [hplain] <;> rfl) (Calls.evalArgs_plain ?_)
  exact thn hA fun us s2 ⟨vs,H2,I2,r2,q2⟩=>hm pins s2 σ H2 x vs v us Q I2 r1 r2 q2
end
end L2
namespace L2
open PySem PySem.Spec PyProof.Rows
noncomputable def MtM (X : Cx) (id : String) (r : V->List V->Hp->VK->Prop) : Prop:=
  ∀ (pins : List (Addr × Obj)) (s : Shared) (σ : St) (H : Hp) (x : V) (xs : List V) (v : Value) (us : List Value) (Q : VK),Inv X pins σ H s->RelV x v->Vals xs us->r x xs H Q →
    wpAny (model X.prog X.w) X.A (call (.builtin id) (v :: us)) (EP X pins σ Q) X.xe s
theorem Vals.one : ∀ {x : V} {us : List Value},Vals [x] us->∃ u,us=[u]∧RelV x u:=fun h=>by
  cases h with | cons r h=>cases h; exact ⟨_,rfl,r⟩
theorem Vals.two : ∀ {x y : V} {us : List Value},Vals [x,y] us->∃ u v,us=[u,v]∧RelV x u∧RelV y v:=fun h=>by
  cases h with | cons r h=>obtain ⟨_,rfl,q⟩:=Vals.one h; exact ⟨_,_,rfl,r,q⟩
theorem Vals.rep {xs : List V} {us : List Value} (h : Vals xs us) : ∀ k : Nat,Vals (List.replicate k xs).flatten (List.replicate k us).flatten
  | 0=>.nil
  | k + 1=>by
    rw [List.replicate_succ,List.replicate_succ,List.flatten_cons,List.flatten_cons]
    exact Vals.append h (Vals.rep h k)
theorem z8g (its : List Value) : ∀ (k : Nat) (acc : List Value),
    List.foldl (fun x1 x2=>x1 ++ x2) acc.toArray (List.replicate k its.toArray)=(acc ++ (List.replicate k its).flatten).toArray
  | 0,acc=>by simp
  | k + 1,acc=>by
    have e : acc.toArray ++ its.toArray=(acc ++ its).toArray:=by simp
    have e2 : (acc ++ its) ++ (List.replicate k its).flatten=acc ++ (List.replicate (k + 1) its).flatten:=by
      rw [List.replicate_succ,List.flatten_cons,List.append_assoc]
    rw [← e2,← z8g its k (acc ++ its),← e,List.replicate_succ,List.foldl_cons]
section
variable {X : Cx} {pins : List (Addr × Obj)} {σ : St} {H : Hp} {s : Shared} {l b : Addr} {xs ys zs : List V}
theorem Inv.lset {its its' : List Value} {n : Nat} {f : Array Value->Array Value} {t' : Nat} (I : Inv X pins σ H s) (hH : H l=some (.lst xs))
    (e : s.heap.get? l=some { cls:=.type "list",data:=.seq its.toArray n }) (hf : f its.toArray=its'.toArray) (hv : Vals ys its') (hz : ys.length≤sizeLine) :
    Inv X pins σ (upd H l (.lst ys)) { s with heap:=s.heap.update l (Obj.mapSeq f),toks:=t' }:=by
  have q:=PySem.IsL.update e f
  rw [hf] at q
  refine I.write (x:=l) (e:=l) (by rw [hH]; exact trivial) (.inl rfl) (fun b' u hb hu=>(Heap.get?_update_other s.heap (Obj.mapSeq f) (Ne.symm hb)).trans hu) ⟨_,q⟩ ?_
  exact ⟨hz,its',_,hv,q⟩
theorem Inv.lnew {its : List Value} {t' : Nat} (I : Inv X pins σ H s) (hv : Vals ys its) (hz : ys.length≤sizeLine) :
    Inv X pins σ (upd H s.heap.objs.size (.lst ys)) { s with heap:=s.heap.push { cls:=.type "list",data:=.seq its.toArray },toks:=t' }:=
  I.laid (fun _ _ q=>Heap.get?_push_of_some _ q) (Nat.le_refl _) ⟨hz,its,0,hv,Heap.get?_push_size _ rfl⟩
theorem Inv.fresh (I : Inv X pins σ H s) : H s.heap.objs.size=none:=I.hok.fresh (Nat.le_refl _)
theorem Inv.lstM (I : Inv X pins σ H s) (hH : H l=some (.lst xs)) : xs.length≤sizeLine∧∃ (its : List Value) (n : Nat),Vals xs its∧xs.length=its.length∧s.heap.get? l=some { cls:=.type "list",data:=.seq its.toArray n }:=by
  obtain ⟨z,its,n,r,e⟩:=I.hok l _ hH
  exact ⟨z,its,n,r,r.length,e⟩
theorem z9B {n : Nat} (h : n≤sizeLine) : Builtin.List.listTooLong n=false:=by
  unfold Builtin.List.listTooLong
  exact decide_eq_false (by omega)
end
section
variable {X : Cx}
noncomputable def z6v : V->List V->Hp->VK->Prop:=fun x vs H Q=>∃ l xs y,x = .ref l∧vs=[y]∧H l=some (.lst xs)∧xs.length < sizeLine∧Q .non (upd H l (.lst (xs ++ [y])))
theorem z3K : MtM X "list.append" z6v:=by
  intro pins s σ H x vs v us Q I rx rv h
  obtain ⟨l,xs,y,rfl,rfl,hH,hz,q⟩:=h
  cases rx
  obtain ⟨u,rfl,ru⟩:=rv.one
  obtain ⟨z,its,n,r,hl,e⟩:=I.lstM hH
  refine call_meets F.slot_list_append ⟨_,e,rfl⟩ F.entry_list_append (F.args_list_append_2 _ _) (PySem.list_append l its.toArray n u (by rw [List.size_toArray]; omega)) ⟨e,?_⟩
  refine ⟨.non,_,I.lset (its':=its ++ [u]) hH e (by simp) (r.append (.cons ru .nil)) ?_,rfl,q⟩
  rw [List.length_append,List.length_singleton]
  omega
noncomputable def rExtend : V->List V->Hp->VK->Prop:=fun x vs H Q=>∃ l b xs zs,x = .ref l∧vs=[.ref b]∧H l=some (.lst xs)∧H b=some (.lst zs)∧xs.length + zs.length≤sizeLine∧Q .non (upd H l (.lst (xs ++ zs)))
theorem y2P : MtM X "list.extend" rExtend:=by
  intro pins s σ H x vs v us Q I rx rv h
  obtain ⟨l,b,xs,zs,rfl,rfl,hH,hB,hz,q⟩:=h
  cases rx
  obtain ⟨u,rfl,ru⟩:=rv.one
  cases ru
  obtain ⟨z,its,n,r,hl,e⟩:=I.lstM hH
  obtain ⟨z2,its2,n2,r2,hl2,e2⟩:=I.lstM hB
  have hsz : its.toArray.size + its2.toArray.size≤sizeLine:=by rw [List.size_toArray,List.size_toArray]; omega
  have hlong : ¬ (!its.toArray.isEmpty && Builtin.List.listTooLong (its.toArray.size + its2.toArray.size))=true:=by
    rw [z9B hsz,Bool.and_false]
    exact Bool.false_ne_true
  refine call_meets F.slot_list_extend ⟨_,e,rfl⟩ F.entry_list_extend (F.args_list_extend_2 _ _)
    (AutoSeq1.list_extend_list_list_0 l its.toArray n b its2.toArray n2 hlong (by rw [List.size_toArray]; omega) (by omega)) ⟨e,e2,?_⟩
  refine ⟨.non,_,I.lset (its':=its ++ its2) hH e (by simp) (r.append r2) ?_,rfl,q⟩
  rw [List.length_append]
  omega
noncomputable def rCat : R2:=fun x y H Q=>∃ l b xs zs,x = .ref l∧y = .ref b∧H l=some (.lst xs)∧H b=some (.lst zs)∧xs.length + zs.length≤sizeLine∧∀ p,H p=none->Q (.ref p) (upd H p (.lst (xs ++ zs)))
theorem op_cat : OpR X (binaryOp .Add) rCat:=by
  intro pins s σ H x y v u Q I rx ry h
  obtain ⟨l,b,xs,zs,rfl,rfl,hH,hB,hz,q⟩:=h
  cases rx
  cases ry
  obtain ⟨z,its,n,r,hl,e⟩:=I.lstM hH
  obtain ⟨z2,its2,n2,r2,hl2,e2⟩:=I.lstM hB
  refine PySem.P.add_list e e2 ?_ (by rw [List.size_toArray,List.size_toArray]; omega)
  have ea : its.toArray ++ its2.toArray=(its ++ its2).toArray:=by simp
  rw [ea]
  exact ⟨.ref _,_,I.lnew (t':=s.toks) (r.append r2) (by rw [List.length_append]; omega),rfl,q _ I.fresh⟩
noncomputable def rRep : R2:=fun x y H Q=>∃ l k xs,x = .ref l∧y = .int k∧H l=some (.lst xs)∧-(2 ^ 63)≤k∧k < 2 ^ 63∧xs.length * k.toNat≤sizeLine ∧
  ∀ p,H p=none->Q (.ref p) (upd H p (.lst (List.replicate k.toNat xs).flatten))
theorem len_rep {α : Type} (xs : List α) (k : Nat) : (List.replicate k xs).flatten.length=k * xs.length:=by
  induction k with
  | zero=>simp
  | succ k ih=>rw [List.replicate_succ,List.flatten_cons,List.length_append,ih,Nat.succ_mul,Nat.add_comm]
theorem op_rep : OpR X (binaryOp .Mult) rRep:=by
  intro pins s σ H x y v u Q I rx ry h
  obtain ⟨l,k,xs,rfl,rfl,hH,h1,h2,hz,q⟩:=h
  cases rx
  obtain ⟨t,rfl⟩:=ry
  obtain ⟨z,its,n,r,hl,e⟩:=I.lstM hH
  have hlen : its.toArray.size * k.toNat≤sizeLine:=by rw [List.size_toArray,← hl]; exact hz
  have hcap : ¬ its.toArray.size * k.toNat > (2 ^ 63 - 1) / 8:=by
    have : (sizeLine : Nat)≤(2 ^ 63 - 1) / 8:=by decide
    omega
  have hfit : ¬ (!Builtin.List.listFitsIndex k)=true:=by
    rw [fitsIndex_both h1 h2]
    exact Bool.false_ne_true
  have hlong : ¬ Builtin.List.listTooLong (its.toArray.size * k.toNat)=true:=by
    rw [z9B hlen]
    exact Bool.false_ne_true
  have hnew : List.foldl (fun x1 x2=>x1 ++ x2) #[] (List.replicate (if its.toArray.isEmpty=true then 0 else k.toNat) its.toArray)=(List.replicate k.toNat its).flatten.toArray:=by
    have f0 : ∀ m : Nat,List.foldl (fun x1 x2=>x1 ++ x2) #[] (List.replicate m its.toArray)=(List.replicate m its).flatten.toArray:=fun m=>by
      have:=z8g its m []
      rw [List.nil_append] at this
      exact this
    rw [f0]
    cases its with
    | nil=>simp
    | cons a r'=>rw [if_neg (by simp)]
  refine wpAny_binaryOp_repeat_ref (T := "list") (U := "int") (by decide) ⟨_,e,rfl⟩ (fun s'=>typeIs_int s' k t) noFill_list_mul F.fills_int_mul F.slot_int_rmul repeat_list F.slot_int_index.lookup
    (call_meets F.slot_int_rmul (typeIs_int s k t) F.entry_int_rmul (F.args_int_rmul_2 _ _) (int___rmul___int_list k t l its.toArray n)
      ⟨e,rfl,⟨_,e,rfl⟩,call_meets F.slot_list_mul ⟨_,e,rfl⟩ F.entry_list_mul (F.args_list_mul_2 _ _) (AutoListH.list___mul___list_int_3 l its.toArray n k t hfit hcap hlong) ⟨e,?_⟩⟩)
  rw [hnew]
  exact ⟨.ref _,_,I.lnew (t':=s.toks) (r.rep k.toNat) (by rw [len_rep,Nat.mul_comm]; exact hz),rfl,q _ I.fresh⟩
end
section
variable {prog : Program} {w : World} {A : Around} {E : Value->Shared->Prop} {s : Shared}
end
section
variable {X : Cx}
end
end L2
namespace Att
open PySem PySem.W PySem.Calls PyProof.Rows
theorem z4U {P : Params} {h : Heap} : ∀ (ns : List Int) (vs : List Value),WellAll P h vs (ns.map WData.int)->IntsAre vs ns:=by
  intro ns
  induction ns with
  | nil=>
    intro vs w
    rw [List.map_nil] at w
    cases w
    exact .nil
  | cons n ns ih=>
    intro vs w
    rw [List.map_cons] at w
    cases w with
    | cons a b=>
      cases a
      exact .cons _ _ (ih _ b)
theorem y2E {l : OpenLaw} {n : Nat} (hn : l.most=some n) {P : Params} {h : Heap} {args : List WData} {vals : List Value}
    (hpre : l.row.toRowW.claim.pre args=true) (hwl : WellAll P h vals args) :
    ∃ a vs ns,vals=[Value.ref a]∧args=[WData.list (ns.map WData.int)]∧h.get? a=some { cls:=.type "list",data:=.seq vs.toArray }∧IntsAre vs ns∧ns.length≤n:=by
  have hsh : WShape.hasAll [] args [.list .int]=true:=(pre_splitW hpre).1
  have hc : l.pre.holds [] { args:=args } = true:=(pre_splitW hpre).2
  obtain ⟨d,r,rfl,h1,h2⟩:=hasAllW_cons hsh
  obtain rfl:=hasAllW_nil h2
  obtain ⟨xs,rfl,h3⟩:=hasW_list h1
  obtain ⟨ns,rfl⟩:=items_int h3
  have hlen : ns.length≤n:=by
    unfold OpenLaw.pre at hc
    have h4 : (WTm.not (.lt (.lit (.int (n : Int))) (.len (.arg 0)))).holds [] { args:=[.list (ns.map .int)] } = true:=by
      have h4:=(holds_andW hc).1
      rw [hn] at h4
      exact h4
    have h5:=condW_of h4 (w_not (w_lt w_lit (w_len_list (w_arg rfl))))
    rw [List.length_map] at h5
    refine Nat.le_of_not_lt fun q=>?_
    have q' : (n : Int) < ((ns.length : Nat) : Int):=by omega
    first
      | (rw [decide_eq_true q'] at h5; exact absurd h5 (by decide))
      | (simp at h5; omega)
  cases hwl with
  | cons w1 w2=>
    cases w2
    cases w1 with
    | list ho hall=>exact ⟨_,_,ns,rfl,rfl,ho,z4U ns _ hall,hlen⟩
theorem y0V (l : OpenLaw) (args : List WData) : l.row.toRowW.claim.post args (.bool true) args=true:=
  postW_of (r:=l.row.toRowW) (X:=(true == true))
    (show WShape.has [] (.bool true) .bool=true by first | rfl | decide | simp [WShape.has,WShape.arms,WShape.armsAll])
    (show (WTm.eq .res (.lit (.bool true))).value [] { args:=args,res:=some (.bool true),after:=args } = some (.bool (true == true)) from w_eq_bool (w_res rfl) w_lit) rfl
theorem attach_call {l : OpenLaw} {n : Nat} {q : Program} {loose : List Str} {XP : (Str->Option Value)->Heap->Prop} {YP : World->Heap->Prop} {d : DefRec}
    (hn : l.most=some n) (hdf : d.params.defaults=[])
    (call : ∀ (w : World) (s₀ s₁ : Shared) (mg mb : Str->Option Value) (fa : Addr) (o : Obj) (pm cd doc : Value) (a : Addr) (vs : List Value) (ns : List Int),
      Ground q loose [] XP w s₀ mg mb s₁.heap->YP w s₁.heap →
      s₁.heap.get? fa=some o->o.data = .func (docDef d.name d.params d.body d.scope pm cd doc)->s₁.heap.CodeRec cd d.name->mg d.name=some (.ref fa) →
      s₁.heap.get? a=some { cls:=.type "list",data:=.seq vs.toArray }->IntsAre vs ns->ns.length≤n->s₁.gens = #[] →
      codeAny (model l.prog w) callerA (.call (.ref fa) ⟨[.ref a],[]⟩) (fun r s'=>r = .ok (.ret (.bool true))∧OldK s₁.heap s'.heap∧s'.os=s₁.os∧AllBare s'.gens) s₁) :
    WalkO q loose XP YP l.row.toRowW d [] (fun f vs=>PySem.call f vs):=by
  intro w s₀ s₁ mg mb G Y fa o pm cd doc dV kV ho hd hcd hD hmg hg args vals as hpre hlay hrd hwl hlo
  obtain rfl : dV = .none:=Dflts.none hD hdf
  obtain rfl : kV = .none:=Dflts.noKw hD
  obtain ⟨a,vs,ns,rfl,rfl,hobj,hints,hlen⟩:=y2E hn hpre hwl
  refine enter_call (codeAny_mono (call w s₀ s₁ mg mb fa o pm cd doc a vs ns G Y ho (fd_plain hd) hcd hmg hobj hints hlen hg) fun r s' hq=>?_)
  obtain ⟨rfl,h2,h3,h4⟩:=hq
  exact ⟨.inl ⟨.bool true,.bool true,[],rfl,fun _=>rfl,.bool true,y0V l _,fun _=>⟨List.Pairwise.nil,fun _ hm=>(nomatch hm)⟩⟩,h2,h3,h4⟩
section
variable {prog : Program} {w : World} {A : Around} {E : Value->Shared->Prop} {s : Shared} {K : Frag}
noncomputable def ledger (h : Heap) (L d : Addr) : List (Addr × Obj):=(List.range h.objs.size).filterMap fun a=>if a=L∨a=d then none else (h.get? a).map fun o=>(a,o)
end
end Att
namespace L2
open PySem PySem.Spec PyProof.Rows
theorem z7T : ∀ {vs : List Value} {ns : List Int},IntsAre vs ns->Vals (ns.map V.int) vs
  | _,_,.nil=>.nil
  | _,_,.cons n t h=>.cons ⟨t,rfl⟩ (z7T h)
noncomputable def Only (H : Hp) : Prop:=∀ b,H b=none∨∃ o xs,H b=some (.frz o (.lst xs))
theorem y4K {P : Program} {w : World} {K : PySem.W.Frag} {mg mb : Str->Option Value} {CX : CXT} {k : Nat} {fa a : Addr} {fd : FuncData} {x : Str} {sp : Sp} {s₁ : Shared} {vs : List Value} {ns : List Int}
    (KX : K.In s₁.heap) (hns : s₁.heap.Ns mainGlobals mg) (hb : s₁.heap.Ns builtinsNs mb) (hbb : ∀ x : Str,x ≠ "__name__" → mb x=bootBuiltins x) (hlim : s₁.heap.NoLimit) (hg : s₁.gens = #[])
    (ha : s₁.heap.get? a=some { cls:=.type "list",data:=.seq vs.toArray }) (hi : IntsAre vs ns) (hl : ns.length≤sizeLine) (hr : Room k callerA)
    (F : ∀ base : Heap,K.In base->base.Ns mainGlobals mg->FnOk P w K mg base CX k fa fd [x] sp) (hbind : ∀ (s : Shared) (u : Value),BindsTo s fd ⟨[u],[]⟩ [(x,u)])
    (hsp : ∀ H : Hp,Only H->SqL K H a (ns.map V.int)->sp [.ref a] H (fun v _=>v = .bl true) fun _ _ _=>False)
    (hCX : ∀ H e s',CX [] H s₁ (fun _ _ _=>False) e s'->False) :
    codeAny (model P w) callerA (.call (.ref fa) ⟨[.ref a],[]⟩) (fun r s'=>r = .ok (.ret (.bool true))∧OldK s₁.heap s'.heap∧s'.os=s₁.os∧AllBare s'.gens) s₁:=by
  have rv:=z7T hi
  have lenV:=hi.length
  have core : ∀ H : Hp,Only H->SqL K H a (ns.map V.int)->HOk P w H s₁.heap->(∀ b,H b≠none->b=a)->(H a≠none->K.lookup a=none) →
      codeAny (model P w) callerA (.call (.ref fa) ⟨[.ref a],[]⟩) (fun r s'=>r = .ok (.ret (.bool true))∧OldK s₁.heap s'.heap∧s'.os=s₁.os∧AllBare s'.gens) s₁:=by
    intro H hO hS hok hA hK
    have base_of : ∀ {b : Addr} {o : Obj},s₁.heap.get? b=some o->H b=none->(y3B s₁.heap H).get? b=some o:=fun e n=>y3R e n
    have noA : ∀ {b : Addr} {o : Obj} {es : Array DictEntry} {ep : Nat},s₁.heap.get? b=some o->o.data = .dict es ep->H b=none:=fun {b o es ep} e d=>by
      cases q : H b with
      | none=>rfl
      | some u=>
        have e' : b=a:=hA b (by rw [q]; simp)
        subst e'
        rw [ha] at e; cases e
        have d' : Data.seq vs.toArray _=Data.dict es ep:=d
        cases d'
    have nsK : ∀ {b : Addr} {m : Str->Option Value},s₁.heap.Ns b m->(y3B s₁.heap H).Ns b m:=fun {b m} ⟨o,es,ep,e,d,r⟩=>⟨o,es,ep,base_of e (noA e d),d,r⟩
    have hKb : K.In (y3B s₁.heap H):=fun b o e=>base_of (KX b o e) (by
      cases q : H b with
      | none=>rfl
      | some u=>
        have e' : b=a:=hA b (by rw [q]; simp)
        subst e'
        rw [hK (by rw [q]; simp)] at e; cases e)
    have hM : Mod K mg (y3B s₁.heap H):=⟨hKb,nsK hns,⟨mb,nsK hb,hbb⟩,let ⟨mc,h1,h2⟩:=hlim; ⟨mc,nsK h1,h2⟩⟩
    have e0 : Env0 P w K mg (y3B s₁.heap H) callerA [] s₁ H:=⟨rfl,hM,fun b o e=>of_hidT e,Nat.le_of_eq (y1b _ _),trivial,fun b hb=>absurd (show b∈([] : List Addr) from hb) (by simp),hok,.of_eq hg⟩
    refine codeAny_mono ((F _ hKb (nsK hns)).run callerA [] s₁ H ⟨[.ref a],[]⟩ [.ref a] [.ref a] _ _ hr e0 (hbind s₁ (.ref a)) (.cons rfl .nil) (hsp H hO hS)) fun r s' h=>?_
    cases r with
    | error e=>exact (hCX H e s' h).elim
    | ok fl=>
      cases fl with
      | next=>exact False.elim h
      | brk=>exact False.elim h
      | cont=>exact False.elim h
      | ret u=>
        obtain ⟨v,H',os,bare,un,hok',r',q⟩:=h
        have q' : v = .bl true:=q
        subst q'
        obtain rfl : u=Value.bool true:=r'
        refine ⟨rfl,OldK.of_keep fun b o e=>?_,os,bare⟩
        cases q : H b with
        | none=>exact un.keep b o e q (by intro z; exact absurd (show b∈([] : List Addr) from z) (by simp)) (by simp)
        | some u=>
          rcases hO b with z | ⟨ob,xs,z⟩
          · rw [q] at z; cases z
          · have z2:=un.frzs b ob _ z
            obtain ⟨e1,_⟩:=hok b _ z
            obtain ⟨e2,_⟩:=hok' b _ z2
            rw [e] at e1; cases e1
            exact e2
  cases hk : K.lookup a with
  | some o=>
    have e:=KX a o hk
    rw [ha] at e
    cases e
    refine core (fun _=>none) (fun _=>.inl rfl) (.inr ⟨_,vs.toArray,_,hk,rfl,rfl,rfl,by rw [List.size_toArray,lenV]; exact hl,by simpa using rv⟩) (fun b u z=>by have z' : (none : Option HO)=some u:=z; cases z') (fun b z=>absurd rfl z) fun z=>absurd rfl z
  | none=>
    refine core (fun b=>if b=a then some (.frz { cls:=.type "list",data:=.seq vs.toArray } (.lst (ns.map V.int))) else none) (fun b=>?_) (.inl (.inr ⟨{ cls:=.type "list",data:=.seq vs.toArray },if_pos rfl⟩)) (fun b u z=>?_) (fun b z=>?_) fun _=>hk
    · by_cases hb : b=a
      · exact .inr ⟨_,_,if_pos hb⟩
      · exact .inl (if_neg hb)
    · by_cases hb : b=a
      · have z':=(if_pos hb).symm.trans z
        cases z'
        subst hb
        exact ⟨ha,by rw [List.length_map]; exact hl,vs,_,rv,ha⟩
      · have z':=(if_neg hb).symm.trans z
        cases z'
    · by_cases hb : b=a
      · exact hb
      · exact absurd (if_neg hb) z
end L2
namespace L2
open PySem PySem.Spec PyProof.Rows
noncomputable abbrev KOf {K : PySem.W.Frag} {h : Heap} (_ : K.In h) : PySem.W.Frag:=K
theorem walk_of {l : PySem.W.OpenLaw} {n k : Nat} {q : Program} {loose : List Str} {XP : (Str->Option Value)->Heap->Prop} {YP : World->Heap->Prop} {d : DefRec} {K : Params->PySem.W.Frag} {CX : World->CXT} {sp : World->Sp} {x : Str}
    (hn : l.most=some n) (hn2 : n≤sizeLine) (hdf : d.params.defaults=[]) (hr : Room k callerA)
    (hY : ∀ (w : World) (h : Heap),YP w h->(K w.params).In h)
    (F : ∀ (w : World) (mg : Str->Option Value) (fa : Addr) (h : Heap),(K w.params).In h->h.Ns mainGlobals mg->mg d.name=some (.ref fa) →
      ∃ fd : FuncData,(∀ (s : Shared) (u : Value),BindsTo s fd ⟨[u],[]⟩ [(x,u)]) ∧
        ∀ base : Heap,(K w.params).In base->base.Ns mainGlobals mg->FnOk l.prog w (K w.params) mg base (CX w) k fa fd [x] (sp w))
    (hsp : ∀ (w : World) (H : Hp) (a : Addr) (ns : List Int),ns.length≤n->Only H->SqL (K w.params) H a (ns.map V.int)->sp w [.ref a] H (fun v _=>v = .bl true) fun _ _ _=>False)
    (hCX : ∀ (w : World) (H : Hp) (s : Shared) (e : Value) (s' : Shared),CX w [] H s (fun _ _ _=>False) e s'->False) :
    PySem.W.WalkO q loose XP YP l.row.toRowW d [] (fun f vs=>PySem.call f vs):=by
  refine Att.attach_call hn hdf fun w s₀ s₁ mg mb fa o pm cd doc a vs ns G Y ho hd hcd hmg hobj hints hlen hg=>?_
  have KX:=hY w _ Y
  obtain ⟨fd,hb,hF⟩:=F w mg fa _ KX G.T.g hmg
  exact y4K KX G.T.g G.T.b G.T.builtins G.T.nolimit hg hobj hints (Nat.le_trans hlen hn2) hr hF hb (fun H hO hS=>hsp w H a ns hlen hO hS) fun H e s'=>hCX w H s₁ e s'
end L2
namespace L2
open PySem PySem.Spec PyProof.Rows
noncomputable def z0p (s : Stmt) : Arguments:=match s with
  | .FunctionDef _ a _ _ _ _ _ _ _ _=>a
  | _=>{ posonlyargs:=[],args:=[],vararg:=none,kwonlyargs:=[],kw_defaults:=[],kwarg:=none,defaults:=[] }
noncomputable def z0l (s : Stmt) : List Stmt:=match s with
  | .FunctionDef _ _ b _ _ _ _ _ _ _=>b
  | _=>[]
noncomputable def z0b (s : Stmt) : Scope:=match s with
  | .FunctionDef _ _ _ _ _ _ sc _ _ _=>sc
  | _=>{ kind:=.function,names:=[],isGenerator:=false,isCoroutine:=false }
noncomputable abbrev CX0 : CXT:=fun _ _ _ _ _ _=>False
noncomputable abbrev E0 : XK:=fun _ _ _=>False
theorem pass0 {X : Cx} : y2A CX0 X E0:=fun _ _ _ _ _ _ _ h=>h.elim
structure Fun (K : PySem.W.Frag) (x qual : Str) (st : Stmt) (f : Addr) (fd : FuncData) : Prop where
  ex : ∃ (oc : Value) (od : Option Addr) (kV doc pm : Value) (an : Option Addr) (cdv ct : Value) (osl : Array (Option Value)),
    fd=PySem.W.fnOf x qual (z0p st) (z0l st) (z0b st) .none kV doc pm an cdv ct∧K.lookup f=some ⟨oc,od,.func fd,osl⟩∧PySem.W.codeIn K cdv qual=true
  kp : PySem.W.keepIn K (.ref f)=true
section
variable {P : Program} {w : World} {K : PySem.W.Frag} {mg : Str->Option Value} {base : Heap}
theorem Fun.ok {x qual : Str} {st : Stmt} {f : Addr} {fd : FuncData} {N ps : List Str} {k : Nat} {sp : Sp} (F : Fun K x qual st f fd) (S : FnScope N ps (z0b st)) (len : ∀ vs H Q E,sp vs H Q E->vs.length=ps.length)
    (hbody : ∀ (cdv : Value) (A : Around) (outer : List Env) (s : Shared) (H : Hp) (vs : List V) (Q : VK) (E : XK),Room k (A.deeper (envOfC qual (z0b st) s.heap.objs.size f cdv))->sp vs H Q E →
      ∃ t,PSs (z9A CX0 P w K mg base N qual (z0b st) f cdv A outer s H E).nox (z0l st) t∧t { nx:=fun _ H'=>Q .non H',rt:=Q } (z5z N vs) H) : FnOk P w K mg base CX0 (k + 1) f fd ps sp:=by
  obtain ⟨oc,od,kV,doc,pm,an,cdv,ct,osl,rfl,lk,hcd⟩:=F.ex
  refine fn_of lk hcd S len fun A outer s H vs Q E hr hsp=>?_
  obtain ⟨t,h,q⟩:=hbody cdv A outer s H vs Q E hr hsp
  exact ⟨t,h.nox,q⟩
theorem Fun.binds {x qual : Str} {st : Stmt} {f : Addr} {fd : FuncData} {ps : List Str} (F : Fun K x qual st f fd)
    (h : ∀ (kV doc pm : Value) (an : Option Addr) (cdv ct : Value) (us : List Value),us.length=ps.length->bindArgs (PySem.W.fnOf x qual (z0p st) (z0l st) (z0b st) .none kV doc pm an cdv ct) ⟨us,[]⟩=pure (ps.zip us)) : Binds K fd ps []:=by
  obtain ⟨oc,od,kV,doc,pm,an,cdv,ct,osl,rfl,lk,hcd⟩:=F.ex
  exact .all (h kV doc pm an cdv ct)
theorem z0D {x qual : Str} {st : Stmt} {f : Addr} {oc : Value} {od an : Option Addr} {osl : Array (Option Value)} {kV doc pm cdv ct : Value} (l : K.lookup f=some ⟨oc,od,.func (PySem.W.fnOf x qual (z0p st) (z0l st) (z0b st) .none kV doc pm an cdv ct),osl⟩)
    (c : PySem.W.codeIn K cdv qual=true) (k : PySem.W.keepIn K (.ref f)=true) : Fun K x qual st f (PySem.W.fnOf x qual (z0p st) (z0l st) (z0b st) .none kV doc pm an cdv ct):=⟨⟨oc,od,kV,doc,pm,an,cdv,ct,osl,rfl,l,c⟩,k⟩
end
theorem z8f {n : Nat} (h : n≤1000) : n < sizeLine:=Nat.lt_of_le_of_lt h (by decide)
section
variable {X : Cx}
theorem pv (i : Nat) {x : Str} {pos : Pos} (hN : X.N[i]? = some x:=by rfl) (hv : Vis X.env.scope x:=by first | exact Or.inl rfl | exact Or.inr (Or.inl rfl) | exact Or.inr (Or.inr rfl)) (hd : (x == ("__debug__" : Str))=false:=by decide)
    (hcd : (x == ("__classdict__" : Str))=false:=by decide) : PE X (.Name x pos) (z7K i):=pe_var hN hv hd hcd
end
theorem iteF {A B : Prop} (h : B) : if false=true then A else B:=by
  rw [if_neg Bool.false_ne_true]
  exact h
theorem iteT {A B : Prop} (h : A) : if true=true then A else B:=by
  rw [if_pos rfl]
  exact h
noncomputable def Same (H H' : Hp) : Prop:=∀ b o,H b=some o->H' b=some o
theorem Same.refl (H : Hp) : Same H H:=fun _ _ h=>h
theorem Same.trans {H H1 H2 : Hp} (a : Same H H1) (b : Same H1 H2) : Same H H2:=fun c o h=>b c o (a c o h)
theorem Same.free {H H' : Hp} (e : Same H H') {l : Addr} (h : H' l=Option.none) : H l=Option.none:=by
  cases q : H l with
  | none=>rfl
  | some o=>
    rw [e l o q] at h
    cases h
end L2
namespace L2
open PySem PySem.Spec PyProof.Rows
section
variable {κ : Type} [DecidableEq κ]
noncomputable def y0c (kvs : List (κ × V)) (k : κ) : Option V:=(kvs.find? fun kv=>decide (kv.1=k)).map (·.2)
noncomputable def z5D (kvs : List (κ × V)) (k : κ) (v : V) : List (κ × V):=
  if (kvs.any fun kv=>decide (kv.1=k))=true then kvs.map (fun kv=>if kv.1=k then (kv.1,v) else kv) else kvs ++ [(k,v)]
theorem z6w {p : κ × V} {r : List (κ × V)} {k : κ} (e : p.1=k) : y0c (p :: r) k=some p.2:=by simp [y0c,List.find?_cons,e]
theorem z6h {p : κ × V} {r : List (κ × V)} {k : κ} (e : ¬ p.1=k) : y0c (p :: r) k=y0c r k:=by simp [y0c,List.find?_cons,e]
theorem z6m (k : κ) : ∀ kvs : List (κ × V),(kvs.any fun kv=>decide (kv.1=k))=(y0c kvs k).isSome
  | []=>rfl
  | p :: r=>by
    rw [List.any_cons]
    by_cases e : p.1=k
    · simp only [z6w e,decide_eq_true e,Bool.true_or,Option.isSome_some]
    · rw [z6h e,decide_eq_false e,Bool.false_or]; exact z6m k r
theorem z3D (kvs : List (κ × V)) (k : κ) (v : V) : (z5D kvs k v).length≤kvs.length + 1:=by
  unfold z5D
  split
  · rw [List.length_map]; omega
  · rw [List.length_append,List.length_cons,List.length_nil]; omega
theorem RelO.isSome_eq {o : Option V} {u : Option Value} (r : RelO o u) : o.isSome=u.isSome:=by
  cases o with
  | none=>cases u with
    | none=>rfl
    | some _=>exact (show False from r).elim
  | some _=>cases u with
    | none=>exact (show False from r).elim
    | some _=>rfl
theorem KV.val {kvs : List (κ × V)} {vs : List (κ × Value)} (r : KV kvs vs) (k : κ) : RelO (y0c kvs k) (valueAt vs k):=by
  unfold KV at r
  induction r with
  | nil=>exact True.intro
  | @cons p q ps qs h t ih=>
    obtain ⟨h1,h2⟩:=h
    by_cases e : p.1=k
    · have e' : q.1=k:=h1.symm.trans e
      have b : valueAt (q :: qs) k=some q.2:=by simp [valueAt,List.find?_cons,e']
      rw [z6w e,b]; exact h2
    · have e' : ¬ q.1=k:=fun z=>e (h1.trans z)
      have b : valueAt (q :: qs) k=valueAt qs k:=by simp [valueAt,List.find?_cons,e']
      rw [z6h e,b]; exact ih
theorem KV.any {kvs : List (κ × V)} {vs : List (κ × Value)} (r : KV kvs vs) (k : κ) : (kvs.any fun kv=>decide (kv.1=k))=vs.any fun kv=>decide (kv.1=k):=by
  unfold KV at r
  induction r with
  | nil=>rfl
  | cons h t ih=>rw [List.any_cons,List.any_cons,ih,h.1]
theorem KV.repl {kvs : List (κ × V)} {vs : List (κ × Value)} (r : KV kvs vs) (k : κ) {y : V} {u : Value} (ry : RelV y u) :
    KV (kvs.map fun kv=>if kv.1=k then (kv.1,y) else kv) (vs.map fun kv=>if kv.1=k then (kv.1,u) else kv):=by
  unfold KV at r ⊢
  induction r with
  | nil=>exact .nil
  | @cons p q ps qs h t ih=>
    rw [List.map_cons,List.map_cons]
    refine .cons ?_ ih
    obtain ⟨h1,h2⟩:=h
    by_cases e : p.1=k
    · rw [if_pos e,if_pos (h1.symm.trans e)]; exact ⟨h1,ry⟩
    · rw [if_neg e,if_neg (fun z=>e (h1.trans z))]; exact ⟨h1,h2⟩
theorem KV.put {kvs : List (κ × V)} {vs : List (κ × Value)} (r : KV kvs vs) (k : κ) {y : V} {u : Value} (ry : RelV y u) : KV (z5D kvs k y) (stored vs k u):=by
  unfold z5D stored
  rw [r.any k]
  by_cases e : (vs.any fun kv=>decide (kv.1=k))=true
  · rw [if_pos e,if_pos e]; exact r.repl k ry
  · rw [if_neg e,if_neg e]; exact Paired.snoc r ⟨rfl,ry⟩
theorem KV.keys {kvs : List (κ × V)} {vs : List (κ × Value)} (r : KV kvs vs) : kvs.map (·.1)=vs.map (·.1):=by
  unfold KV at r
  induction r with
  | nil=>rfl
  | cons h t ih=>rw [List.map_cons,List.map_cons,ih,h.1]
theorem KV.length {kvs : List (κ × V)} {vs : List (κ × Value)} (r : KV kvs vs) : kvs.length=vs.length:=Paired.length r
end
theorem y1s {P : Program} {w : World} {k : Key} {u : Value} (r : RelV (kV k) u) : (z0Y P w).is k u=true:=by
  cases k with
  | inl i=>obtain ⟨t,e⟩:=(show ∃ t,u=Value.int i t from r); subst e; exact z8A P w i t
  | inr x=>obtain ⟨t,e⟩:=(show ∃ t,u=Value.str x t from r); subst e; exact z8P P w x t
theorem z7O {P : Program} {w : World} : ∀ {ks : List Key} {us : List Value},Vals (ks.map kV) us->ItemsAre (z0Y P w) ks us
  | [],_,r=>by rw [List.map_nil] at r; cases r; exact .nil
  | k :: ks,_,r=>by
    rw [List.map_cons] at r
    cases r with
    | cons h t=>exact .cons (y1s h) (z7O t)
noncomputable abbrev KT (H : Hp) : List (List Key × V)->List (List Key × Addr × Value)->Prop:=Paired fun p q=>p.1=q.1∧H q.2.1=some (.tup (p.1.map kV))∧RelV p.2 q.2.2
theorem KT.val {H : Hp} {kvs : List (List Key × V)} {xs : List (List Key × Addr × Value)} (r : KT H kvs xs) (k : List Key) : RelO (y0c kvs k) ((atKey xs k).map (·.2)):=by
  induction r with
  | nil=>exact True.intro
  | @cons p q ps qs h t ih=>
    obtain ⟨h1,_,h2⟩:=h
    by_cases e : p.1=k
    · have e' : q.1=k:=h1.symm.trans e
      have b : atKey (q :: qs) k=some q.2:=by simp [atKey,List.find?_cons,e']
      rw [z6w e,b]; exact h2
    · have e' : ¬ q.1=k:=fun z=>e (h1.trans z)
      have b : atKey (q :: qs) k=atKey qs k:=by simp [atKey,List.find?_cons,e']
      rw [z6h e,b]; exact ih
theorem KT.repl {H : Hp} {kvs : List (List Key × V)} {xs : List (List Key × Addr × Value)} (r : KT H kvs xs) (k : List Key) {y : V} {u : Value} (ry : RelV y u) :
    KT H (kvs.map fun kv=>if kv.1=k then (kv.1,y) else kv) (xs.map (putAt k u)):=by
  induction r with
  | nil=>exact .nil
  | @cons p q ps qs h t ih=>
    rw [List.map_cons,List.map_cons]
    refine .cons ?_ ih
    obtain ⟨h1,h2,h3⟩:=h
    unfold putAt
    by_cases e : p.1=k
    · rw [if_pos e,if_pos (h1.symm.trans e)]; exact ⟨h1,h2,ry⟩
    · rw [if_neg e,if_neg (fun z=>e (h1.trans z))]; exact ⟨h1,h2,h3⟩
theorem KT.put {H : Hp} {kvs : List (List Key × V)} {xs : List (List Key × Addr × Value)} (r : KT H kvs xs) (k : List Key) {b : Addr} {y : V} {u : Value} (hb : H b=some (.tup (k.map kV))) (ry : RelV y u) :
    KT H (z5D kvs k y) (storedH xs k b u):=by
  have e : (kvs.any fun kv=>decide (kv.1=k))=(atKey xs k).isSome:=by
    rw [z6m,(r.val k).isSome_eq,Option.isSome_map]
  unfold z5D storedH
  rw [e]
  by_cases q : (atKey xs k).isSome=true
  · rw [if_pos q,if_pos q]; exact r.repl k ry
  · rw [if_neg q,if_neg q]; exact Paired.snoc r ⟨rfl,hb,ry⟩
theorem KT.keeps {H H' : Hp} {kvs : List (List Key × V)} {xs : List (List Key × Addr × Value)} (r : KT H kvs xs) (ht : ∀ b ys,H b=some (.tup ys)->H' b=some (.tup ys)) : KT H' kvs xs:=
  Paired.mapP r fun _ _ z=>⟨z.1,ht _ _ z.2.1,z.2.2⟩
section
variable {P : Program} {w : World} {H : Hp} {h : Heap} {a : Addr}
theorem rd_of {u : HO} (ok : HOk P w H h) (e : Rd H a u) : ObjOk P w H h a u:=e.ok ok
theorem dk_rd {kvs : List (Key × V)} (ok : HOk P w H h) (e : Rd H a (.dK kvs)) : kvs.length≤sizeLine∧(a == sysModules)=false∧∃ vs,KV kvs vs∧h.DictOf (z0Y P w) a vs:=
  show ObjOk P w H h a (.dK kvs) from rd_of ok e
theorem dk_of {kvs : List (Key × V)} (ok : HOk P w H h) (e : H a=some (.dK kvs)) : kvs.length≤sizeLine∧(a == sysModules)=false∧∃ vs,KV kvs vs∧h.DictOf (z0Y P w) a vs:=dk_rd ok (.inl e)
theorem z9R {ks : List Key} (ok : HOk P w H h) (e : H a=some (.tup (ks.map kV))) : (tupleKind (z0Y P w)).is h ks a:=by
  obtain ⟨_,its,r,o,h1,h2,n,h3⟩:=(show ObjOk P w H h a (.tup (ks.map kV)) from ok a _ e)
  exact ⟨o,its.toArray,n,h1,h2.1,h3,by simpa using z7O r⟩
theorem dt_rd {kvs : List (List Key × V)} (ok : HOk P w H h) (e : Rd H a (.dT kvs)) : kvs.length≤sizeLine∧(a == sysModules)=false ∧
    ∃ xs,KT H kvs xs∧h.DictOfH (tupleKind (z0Y P w)) a xs:=by
  obtain ⟨z,y,xs,r,o,es,ep,h1,h2,h3,h4,h5⟩:=(show ObjOk P w H h a (.dT kvs) from rd_of ok e)
  refine ⟨z,y,xs,r,o,es,ep,h1,h2,h3,h4,fun x hx=>?_,h5⟩
  have all : ∀ {l : List (List Key × V)} {m : List (List Key × Addr × Value)},KT H l m->∀ x∈m,(tupleKind (z0Y P w)).is h x.1 x.2.1:=by
    intro l m q
    induction q with
    | nil=>intro x hx; exact nomatch hx
    | @cons p q ps qs hq t ih=>
      intro x hx
      rcases List.mem_cons.mp hx with e | hx
      · subst e
        exact z9R ok (by rw [← hq.1]; exact hq.2.1)
      · exact ih x hx
  exact all r x hx
theorem dt_of {kvs : List (List Key × V)} (ok : HOk P w H h) (e : H a=some (.dT kvs)) : kvs.length≤sizeLine∧(a == sysModules)=false ∧
    ∃ xs,KT H kvs xs∧h.DictOfH (tupleKind (z0Y P w)) a xs:=dt_rd ok (.inl e)
end
noncomputable def DGet (H : Hp) (a : Addr) (y : V) (r : Option V) : Prop:=
  (∃ kvs k,Rd H a (.dK kvs)∧y=kV k∧r=y0c kvs k)∨∃ kvs k b,Rd H a (.dT kvs)∧y = .ref b∧H b=some (.tup (k.map kV))∧r=y0c kvs k
noncomputable def DPut (H : Hp) (a : Addr) (y v : V) (H' : Hp) : Prop:=
  (∃ kvs k,H a=some (.dK kvs)∧y=kV k∧kvs.length < sizeLine∧H'=upd H a (.dK (z5D kvs k v))) ∨
  ∃ kvs k b,H a=some (.dT kvs)∧y = .ref b∧H b=some (.tup (k.map kV))∧kvs.length < sizeLine∧H'=upd H a (.dT (z5D kvs k v))
theorem DGet.k {H : Hp} {a : Addr} {kvs : List (Key × V)} {k : Key} (e : H a=some (.dK kvs)) : DGet H a (kV k) (y0c kvs k):=.inl ⟨kvs,k,.inl e,rfl,rfl⟩
theorem DPut.k {H : Hp} {a : Addr} {kvs : List (Key × V)} {k : Key} {v : V} (e : H a=some (.dK kvs)) (hl : kvs.length < sizeLine) : DPut H a (kV k) v (upd H a (.dK (z5D kvs k v))):=.inl ⟨kvs,k,e,rfl,hl,rfl⟩
section
variable {X : Cx} {pins : List (Addr × Obj)} {σ : St} {H : Hp} {s : Shared} {a : Addr} {y v : V} {u r : Value} {o : Option V} {A : Around} {E : Value->Shared->Prop}
theorem Inv.big (I : Inv X pins σ H s) : sysModules < s.heap.objs.size:=by
  have h : mainGlobals < s.heap.objs.size:=(I.mod.glob.keeps I.bk).lt
  exact Nat.lt_trans (by decide) h
theorem d_in {Q : Value->Shared->Prop} (hu : A.units + 1 < cLine) (I : Inv X pins σ H s) (g : DGet H a y o) (ry : RelV y u) (h : ∀ s',Inv X pins σ H s'->Q (.bool o.isSome) s') :
    wpAny (model X.prog X.w) A (compareOp .In u (.ref a)) Q E s:=by
  rcases g with ⟨kvs,k,e,ey,l⟩ | ⟨kvs,k,b,e,ey,eb,l⟩
  · subst ey
    obtain ⟨z,hd,vs,rel,dd⟩:=dk_rd I.hok e
    refine wpAny_in_of (y1s ry) hd dd.mapOf ?_
    rw [← (rel.val k).isSome_eq,← l]
    exact h _ (I.tok _)
  · subst ey
    cases (show u=Value.ref b from ry)
    obtain ⟨z,hd,xs,rel,dd⟩:=dt_rd I.hok e
    refine wpAny_in_heap (tupleKind_room_in1 hu) (z9R I.hok eb) hd dd ?_
    have q:=(rel.val k).isSome_eq
    rw [Option.isSome_map] at q
    rw [← q,← l]
    exact h _ (I.tok _)
theorem d_notIn {Q : Value->Shared->Prop} (hu : A.units + 1 < cLine) (I : Inv X pins σ H s) (g : DGet H a y o) (ry : RelV y u) (h : ∀ s',Inv X pins σ H s'->Q (.bool (!o.isSome)) s') :
    wpAny (model X.prog X.w) A (compareOp .NotIn u (.ref a)) Q E s:=by
  rcases g with ⟨kvs,k,e,ey,l⟩ | ⟨kvs,k,b,e,ey,eb,l⟩
  · subst ey
    obtain ⟨z,hd,vs,rel,dd⟩:=dk_rd I.hok e
    refine wpAny_notIn_of (y1s ry) hd dd.mapOf ?_
    rw [← (rel.val k).isSome_eq,← l]
    exact h _ (I.tok _)
  · subst ey
    cases (show u=Value.ref b from ry)
    obtain ⟨z,hd,xs,rel,dd⟩:=dt_rd I.hok e
    refine wpAny_notIn_heap (tupleKind_room_in1 hu) (z9R I.hok eb) hd dd ?_
    have q:=(rel.val k).isSome_eq
    rw [Option.isSome_map] at q
    rw [← q,← l]
    exact h _ (I.tok _)
theorem z8s {h' : Heap} {t' : Nat} {ob : HO} (I : Inv X pins σ H s) (mu : Mut (H a)) (hs : Heap.SameBut a s.heap h') (he : ∃ q,h'.get? a=some q) (new : ObjOk X.prog X.w (upd H a ob) h' a ob) :
    Inv X pins σ (upd H a ob) { s with heap:=h',toks:=t' }:=
  I.write (x:=a) (e:=a) mu (.inl rfl) (fun b q hb z=>(hs.2 b hb).trans z) he new
theorem y5G {P : Program} {w : World} {H' : Hp} {h' : Heap} {kvs : List (Key × V)} {vs : List (Key × Value)} (z : kvs.length≤sizeLine) (hd : (a == sysModules)=false) (rel : KV kvs vs) (dd : h'.DictOf (z0Y P w) a vs) :
    ObjOk P w H' h' a (.dK kvs):=⟨z,hd,vs,rel,dd⟩
theorem y2z {H' : Hp} {Q : Unit->Shared->Prop} (hu : A.units + 1 < cLine) (I : Inv X pins σ H s) (g : DPut H a y v H') (ry : RelV y u) (rv : RelV v r) (h : ∀ s',Inv X pins σ H' s'->Q () s') :
    wpAny (model X.prog X.w) A (setItem (.ref a) u r) Q E s:=by
  rcases g with ⟨kvs,k,e,ey,l,eH⟩ | ⟨kvs,k,b,e,ey,eb,l,eH⟩
  · subst ey eH
    obtain ⟨z,hd,vs,rel,dd⟩:=dk_of I.hok e
    have hz : vs.length≤sizeLine:=by rw [← rel.length]; exact z
    have hl : (z5D kvs k v).length≤sizeLine:=by have:=z3D kvs k v; omega
    refine wpAny_setItem_pairs (hsz:=hz) (y1s ry) dd fun h' dd' hs=>h _ ?_
    have he : ∃ q,h'.get? a=some q:=let ⟨q,_,_,hq,_⟩:=dd'; ⟨q,hq⟩
    exact z8s I (by rw [e]; exact True.intro) hs he (y5G hl hd (rel.put k rv) dd')
  · subst ey eH
    cases (show u=Value.ref b from ry)
    obtain ⟨z,hd,xs,rel,dd⟩:=dt_of I.hok e
    have hz : xs.length≤sizeLine:=by rw [← Paired.length rel]; exact z
    have hl : (z5D kvs k v).length≤sizeLine:=by have:=z3D kvs k v; omega
    refine wpAny_setItem_heap (hsz:=hz) (tupleKind_room_in1 hu) (z9R I.hok eb) dd fun h' dd' hs=>h _ ?_
    obtain ⟨q,es,ep,hq,h2,h3,h4,_,h5⟩:=dd'
    refine z8s I (by rw [e]; exact True.intro) hs ⟨q,hq⟩ ⟨hl,hd,_,(rel.put k eb rv).keeps fun c ys ec=>?_,q,es,ep,hq,h2,h3,h4,h5⟩
    rw [z0q (ne_of ec e (fun z=>nomatch z))]
    exact ec
end
section
variable {X : Cx} {pins : List (Addr × Obj)} {σ : St} {H : Hp} {s : Shared} {a : Addr} {kvs : List (Key × V)} {k : Key} {u : Value} {A : Around} {E : Value->Shared->Prop}
end
noncomputable def tDIn (ty td : TE) : TE:=fun σ H Q=>ty σ H fun y H1=>td σ H1 fun x H2=>∃ a o,x = .ref a∧DGet H2 a y o∧Q (.bl o.isSome) H2
noncomputable def tDNotIn (ty td : TE) : TE:=fun σ H Q=>ty σ H fun y H1=>td σ H1 fun x H2=>∃ a o,x = .ref a∧DGet H2 a y o∧Q (.bl (!o.isSome)) H2
noncomputable def sDPut (td ty tv : TE) : TS:=fun D σ H=>tv σ H fun v H1=>td σ H1 fun x H2=>ty σ H2 fun y H3=>∃ a H4,x = .ref a∧DPut H3 a y v H4∧D.nx σ H4
section
variable {X : Cx} {o i e value : Expr} {pos pos' tpos : Pos} {td ty tv : TE}
theorem pc_din (hu : X.A.units + 1 < cLine) (hi : PE X i ty) (ho : PE X o td) : PC X .In i o (tDIn ty td):=by
  intro pins s σ H Q I h
  refine thn (hi pins s σ H _ I h) fun iv s1 ⟨y,H1,I1,ry,q1⟩=>thn (ho pins s1 σ H1 _ I1 q1) fun u s2 ⟨x,H2,I2,rx,a,ov,ex,g,q2⟩=>?_
  subst ex
  obtain rfl : u=Value.ref a:=rx
  exact d_in hu I2 g ry fun s3 I3=>⟨.bl ov.isSome,H2,I3,rfl,q2⟩
theorem y2Z (hu : X.A.units + 1 < cLine) (hi : PE X i ty) (ho : PE X o td) : PC X .NotIn i o (tDNotIn ty td):=by
  intro pins s σ H Q I h
  refine thn (hi pins s σ H _ I h) fun iv s1 ⟨y,H1,I1,ry,q1⟩=>thn (ho pins s1 σ H1 _ I1 q1) fun u s2 ⟨x,H2,I2,rx,a,ov,ex,g,q2⟩=>?_
  subst ex
  obtain rfl : u=Value.ref a:=rx
  exact d_notIn hu I2 g ry fun s3 I3=>⟨.bl (!ov.isSome),H2,I3,rfl,q2⟩
theorem ps_dput (hu : X.A.units + 1 < cLine) (ho : PE X o td) (hi : PE X i ty) (hv : PE X value tv) (hs : swapsWith value (some (.Subscript o i pos')) pos.line X.env=pure false) :
    PS X (.Assign [.Subscript o i pos'] value pos) (sDPut td ty tv):=by
  intro pins s σ H D I h
  refine wpAny_Assign_Subscript (thn (hv pins s σ H _ I h) fun r s1 ⟨v,H1,I1,rv,q1⟩=>thn (ho pins s1 σ H1 _ I1 q1) fun u s2 ⟨x,H2,I2,rx,q2⟩=>thn (hi pins s2 σ H2 _ I2 q2) fun iv s3 ⟨y,H3,I3,ry,a,H4,ex,g,q3⟩=>?_) hs
  subst ex
  obtain rfl : u=Value.ref a:=rx
  exact y2z hu I3 g ry rv fun s4 I4=>⟨σ,H4,I4,q3⟩
end
theorem z9Z {P : Program} {w : World} {H : Hp} (h : Heap) (hb : sysModules < h.objs.size) : ObjOk P w H (h.push { cls:=.type "dict",data:=.dict #[] }) h.objs.size (.dK []):=
  ⟨Nat.zero_le _,beq_eq_false_iff_ne.mpr (Ne.symm (Nat.ne_of_lt hb)),[],.nil,Heap.DictOf.new h⟩
noncomputable def tDNewK : TE:=fun _ H Q=>∀ p,H p=none->Q (.ref p) (upd H p (.dK []))
section
variable {X : Cx} {pos : Pos}
theorem pe_dnewK : PE X (.Dict [] [] pos) tDNewK:=fun pins s σ H Q I h=>
  wpAny_Dict_empty ⟨.ref s.heap.objs.size,_,I.laid (a:=s.heap.objs.size) (o:=.dK []) (t':=s.toks) (fun _ _ q=>Heap.get?_push_of_some _ q) (Nat.le_refl _) (z9Z s.heap I.big),rfl,h _ (I.hok.fresh (Nat.le_refl _))⟩
end
noncomputable def y1X : List (TE × TE)->St->Hp->(List (V × V)->Hp->Prop)->Prop
  | [],_,H,Q=>Q [] H
  | (tk,tv) :: r,σ,H,Q=>tk σ H fun x H1=>tv σ H1 fun y H2=>y1X r σ H2 fun ps H3=>Q ((x,y) :: ps) H3
noncomputable abbrev VV : List (V × V)->List (Value × Value)->Prop:=Paired fun p q=>RelV p.1 q.1∧RelV p.2 q.2
noncomputable def PPs (X : Cx) (pos : Pos) (keys : List (Option Expr)) (values : List Expr) (trs : List (TE × TE)) : Prop:=
  ∀ (pins : List (Addr × Obj)) (s : Shared) (σ : St) (H : Hp) (Q : List (V × V)->Hp->Prop),Inv X pins σ H s->y1X trs σ H Q →
    wpAny (model X.prog X.w) X.A (evalPairs (pairTrees keys values X.env pos)) (fun vs s'=>∃ ps H',Inv X pins σ H' s'∧VV ps vs∧Q ps H') X.xe s
theorem pps_nil {X : Cx} {pos : Pos} : PPs X pos [] [] []:=fun pins s σ H Q I h=>pairTrees_nil_walk ⟨[],H,I,.nil,h⟩
theorem y5m {X : Cx} {pos : Pos} {k v : Expr} {ks : List (Option Expr)} {vs : List Expr} {tk tv : TE} {trs : List (TE × TE)} (hk : PE X k tk) (hv : PE X v tv) (hr : PPs X pos ks vs trs) :
    PPs X pos (some k :: ks) (v :: vs) ((tk,tv) :: trs):=fun pins s σ H Q I h=>
  pairTrees_cons_walk (thn (hk pins s σ H _ I h) fun u s1 ⟨x,H1,I1,rx,q1⟩=>thn (hv pins s1 σ H1 _ I1 q1) fun w2 s2 ⟨y,H2,I2,ry,q2⟩=>
    thn (hr pins s2 σ H2 _ I2 q2) fun ws s3 ⟨ps,H3,I3,rel,q3⟩=>⟨(x,y) :: ps,H3,I3,.cons ⟨rx,ry⟩ rel,q3⟩)
noncomputable def z7V (kvs more : List (Key × V)) : List (Key × V):=more.foldl (fun acc kv=>z5D acc kv.1 kv.2) kvs
theorem KV.merge : ∀ {more : List (Key × V)} {rs : List (Key × Value)} {kvs : List (Key × V)} {vs : List (Key × Value)},KV more rs->KV kvs vs->KV (z7V kvs more) (merged vs rs):=by
  intro more rs kvs vs r
  unfold KV at r
  induction r generalizing kvs vs with
  | nil=>intro q; exact q
  | @cons p q ps qs h t ih=>
    intro r0
    have e : KV (z5D kvs p.1 p.2) (stored vs q.1 q.2):=by
      have:=r0.put p.1 h.2
      rw [← h.1]; exact this
    exact ih e
theorem z3L : ∀ (more kvs : List (Key × V)),(z7V kvs more).length≤kvs.length + more.length
  | [],kvs=>by show kvs.length≤kvs.length + 0; omega
  | p :: r,kvs=>by
    have h1:=z3L r (z5D kvs p.1 p.2)
    have h2:=z3D kvs p.1 p.2
    show (z7V (z5D kvs p.1 p.2) r).length≤_
    rw [List.length_cons]; omega
theorem z5N {P : Program} {w : World} : ∀ {kvs : List (Key × V)} {ws : List (Value × Value)},VV (kvs.map fun kv=>(kV kv.1,kv.2)) ws->∃ rs,Carries (z0Y P w) ws rs∧KV kvs rs
  | [],_,r=>by rw [List.map_nil] at r; cases r; exact ⟨[],True.intro,.nil⟩
  | p :: kvs,_,r=>by
    rw [List.map_cons] at r
    cases r with
    | @cons a b as bs h t=>
      obtain ⟨rs,c,q⟩:=z5N (P:=P) (w:=w) t
      obtain ⟨b1,b2⟩:=b
      exact ⟨(p.1,b2) :: rs,⟨y1s h.1,rfl,c⟩,.cons ⟨rfl,h.2⟩ q⟩
noncomputable def tDisp (trs : List (TE × TE)) : TE:=fun σ H Q=>∀ p,H p=none->y1X trs σ (upd H p (.dK [])) fun ps H2=>H2 p=some (.dK [])∧∃ kvs : List (Key × V),ps=kvs.map (fun kv=>(kV kv.1,kv.2))∧kvs.length≤15∧Q (.ref p) (upd H2 p (.dK (z7V [] kvs)))
theorem pe_disp {X : Cx} {pos : Pos} {keys : List (Option Expr)} {values : List Expr} {trs : List (TE × TE)} (h : PPs X pos keys values trs) (hall : keys.all (·.isSome)=true) (hl : keys.length=values.length) (h0 : keys≠[])
    (h15 : keys.length≤15) : PE X (.Dict keys values pos) (tDisp trs):=by
  intro pins s σ H Q I q
  have hn:=I.hok.fresh (Nat.le_refl s.heap.objs.size)
  have I1:=I.laid (a:=s.heap.objs.size) (o:=.dK []) (h':=s.heap.push { cls:=.type "dict",data:=.dict #[] }) (t':=s.toks) (fun _ _ q=>Heap.get?_push_of_some _ q) (Nat.le_refl _) (z9Z s.heap I.big)
  refine wpAny_Dict_walk (knd:=z0Y X.prog X.w) hall hl h0 h15 (thn (h pins _ σ _ _ I1 (q _ hn)) fun ws s2 ⟨ps,H2,I2,rel,e,kvs,ep,lk,q2⟩=>?_)
  subst ep
  obtain ⟨rs,c,rk⟩:=z5N (P:=X.prog) (w:=X.w) rel
  obtain ⟨z,hd,vs0,r0,dd⟩:=dk_of I2.hok e
  cases r0
  refine ⟨rs,c,dd,fun h' dd' hs=>⟨.ref s.heap.objs.size,_,?_,rfl,q2⟩⟩
  have hz : (z7V [] kvs).length≤sizeLine:=by
    have h1:=z3L kvs []
    rw [List.length_nil] at h1
    rw [sizeLine_eq]; omega
  have he : ∃ q,h'.get? s.heap.objs.size=some q:=let ⟨q,_,_,hq,_⟩:=dd'; ⟨q,hq⟩
  exact z8s I2 (by rw [e]; exact True.intro) hs he (y5G hz hd (rk.merge .nil) dd')
structure M1 (X : Cx) (o : Expr) (m : Str) (apos : Pos) (e : Expr) (cpos : Pos) : Prop where
  base : attributeBase o m X.env (eval o X.env)=eval o X.env
  few : ((backTo cpos (starEach [e] X.env)).all (fun x=>!x.1) && (backToKw cpos (keywordEach [] X.env)).all (fun x=>x.1.isSome)
    && decide (([e] : List Expr).length + ([] : List Keyword).length + (if ([] : List Keyword).isEmpty then 0 else 1) < 30))=true
  line : (apos.endLine == cpos.line)=true
  trees : backTo cpos (starEach [e] X.env)=[(false,eval e X.env)]
structure M2 (X : Cx) (o : Expr) (m : Str) (apos : Pos) (e f : Expr) (cpos : Pos) : Prop where
  base : attributeBase o m X.env (eval o X.env)=eval o X.env
  few : ((backTo cpos (starEach [e,f] X.env)).all (fun x=>!x.1) && (backToKw cpos (keywordEach [] X.env)).all (fun x=>x.1.isSome)
    && decide (([e,f] : List Expr).length + ([] : List Keyword).length + (if ([] : List Keyword).isEmpty then 0 else 1) < 30))=true
  line : (apos.endLine == cpos.line)=true
  trees : backTo cpos (starEach [e,f] X.env)=[(false,eval e X.env),(false,eval f X.env)]
section
variable {X : Cx} {pins : List (Addr × Obj)} {σ : St} {H : Hp} {s : Shared} {a : Addr} {y d : V} {u r : Value} {o : Option V} {A : Around} {E : Value->Shared->Prop}
end
section
variable {X : Cx} {o e f : Expr} {apos cpos : Pos} {td ty tx : TE}
end
section
variable {X : Cx} {pins : List (Addr × Obj)} {σ : St} {H : Hp} {s : Shared} {a : Addr} {kvs : List (Key × V)} {A : Around} {E : Value->Shared->Prop}
end
section
variable {X : Cx} {pins : List (Addr × Obj)} {σ : St} {H : Hp} {s : Shared} {a : Addr} {y : V} {u : Value} {A : Around} {E : Value->Shared->Prop}
end
end L2
namespace L2
open PySem PySem.Spec PyProof.Rows
noncomputable def z2N (cells : List (Str × Addr)) : List (Str × NameKind)->List (Str × Addr)->List (Str × Addr)
  | [],acc=>acc
  | (n,k) :: r,acc=>if k == .free then z2N cells r ((n,(cells.lookup n).getD 0) :: acc) else z2N cells r acc
theorem z5x {env : Env} (f : Str × NameKind->List (Str × Addr)->Sem (ForInStep (List (Str × Addr))))
    (hf : ∀ n k cs,f (n,k) cs=if k == .free then (do let a ← cellOf env n; pure (.yield ((n,a) :: cs))) else pure (.yield cs)) :
    ∀ (names : List (Str × NameKind)) (acc : List (Str × Addr)),(∀ n,(n,NameKind.free)∈names->∃ c,env.cells.lookup n=some c)->forIn names acc f=pure (z2N env.cells names acc)
  | [],acc,_=>by rw [List.forIn_nil]; rfl
  | (n,k) :: r,acc,h=>by
    have hr:=z5x f hf r
    rw [List.forIn_cons,hf]
    unfold z2N
    by_cases hk : (k == NameKind.free)=true
    · rw [if_pos hk,if_pos hk]
      have ek : k = .free:=eq_of_beq hk
      subst ek
      obtain ⟨c,e⟩:=h n List.mem_cons_self
      have e1 : cellOf env n=pure c:=by unfold cellOf; rw [e]
      rw [e1,e]
      exact hr _ fun m hm=>h m (List.mem_cons_of_mem _ hm)
    · rw [if_neg hk,if_neg hk]
      exact hr _ fun m hm=>h m (List.mem_cons_of_mem _ hm)
theorem z2S {scope : Scope} {env : Env} (h : ∀ n,(n,NameKind.free)∈scope.names->∃ c,env.cells.lookup n=some c) : closureFor scope env=pure (z2N env.cells scope.names []):=by
  simp only [closureFor]
  rw [z5x _ (fun n k cs=>by cases hkc : k == NameKind.free <;> simp [hkc]) scope.names [] h]
  rfl
theorem z3a {cells : List (Str × Addr)} : ∀ (names : List (Str × NameKind)) (acc : List (Str × Addr)) {x : Str} {c : Addr},(x,c)∈z2N cells names acc->(x,c)∈acc∨((x,NameKind.free)∈names∧c=(cells.lookup x).getD 0)
  | [],_,_,_,h=>.inl h
  | (n,k) :: r,acc,x,c,h=>by
    unfold z2N at h
    by_cases hk : (k == NameKind.free)=true
    · rw [if_pos hk] at h
      have ek : k = .free:=eq_of_beq hk
      subst ek
      rcases z3a r _ h with z | ⟨z1,z2⟩
      · rcases List.mem_cons.mp z with q | q
        · cases q
          exact .inr ⟨List.mem_cons_self,rfl⟩
        · exact .inl q
      · exact .inr ⟨List.mem_cons_of_mem _ z1,z2⟩
    · rw [if_neg hk] at h
      rcases z3a r _ h with z | ⟨z1,z2⟩
      · exact .inl z
      · exact .inr ⟨List.mem_cons_of_mem _ z1,z2⟩
theorem z2e {α : Type} {x : Str} {c : α} : ∀ {l : List (Str × α)},(x,c)∈l->(l.lookup x).isSome=true
  | (n,d) :: r,h=>by
    rw [List.lookup_cons]
    cases hb : x == n with
    | true=>rfl
    | false=>
      rcases List.mem_cons.mp h with q | q
      · cases q
        simp at hb
      · exact z2e q
theorem z5d {cells : List (Str × Addr)} {x : Str} : ∀ (names : List (Str × NameKind)) (acc : List (Str × Addr)),(x,NameKind.free)∈names∨(∃ c,(x,c)∈acc)->∃ c,(x,c)∈z2N cells names acc
  | [],_,h=>h.elim (fun z=>nomatch z) id
  | (n,k) :: r,acc,h=>by
    unfold z2N
    by_cases hk : (k == NameKind.free)=true
    · rw [if_pos hk]
      refine z5d r _ ?_
      rcases h with z | ⟨c,z⟩
      · rcases List.mem_cons.mp z with q | q
        · cases q
          exact .inr ⟨_,List.mem_cons_self⟩
        · exact .inl q
      · exact .inr ⟨c,List.mem_cons_of_mem _ z⟩
    · rw [if_neg hk]
      refine z5d r _ ?_
      rcases h with z | z
      · rcases List.mem_cons.mp z with q | q
        · cases q
          exact absurd (by rfl) hk
        · exact .inl q
      · exact .inr z
theorem z2O : ∀ (names : List (Str × NameKind)) (h : Heap) (acc : List (Str × Addr)) {x : Str} {c : Addr},(x,c)∈cellsFrom h.objs.size names acc →
    (x,c)∈acc∨((x,NameKind.cell)∈names∧h.objs.size≤c∧(pushCells h names).IsCell c none)
  | [],_,_,_,_,hm=>.inl hm
  | (n,k) :: r,h,acc,x,c,hm=>by
    unfold cellsFrom at hm
    unfold pushCells
    by_cases hk : (k == NameKind.cell)=true
    · rw [if_pos hk] at hm
      rw [if_pos hk]
      have ek : k = .cell:=eq_of_beq hk
      subst ek
      have e : (h.push { cls:=.type "cell",data:=.cell none }).objs.size=h.objs.size + 1:=Heap.size_push ..
      rw [← e] at hm
      rcases z2O r _ _ hm with z | ⟨z1,z2,z3⟩
      · rcases List.mem_cons.mp z with q | q
        · cases q
          exact .inr ⟨List.mem_cons_self,Nat.le_refl _,⟨_,pushCells_keeps r _ _ _ (Heap.get?_push_size _ rfl),rfl⟩⟩
        · exact .inl q
      · exact .inr ⟨List.mem_cons_of_mem _ z1,by omega,z3⟩
    · rw [if_neg hk] at hm
      rw [if_neg hk]
      rcases z2O r h acc hm with z | ⟨z1,z2,z3⟩
      · exact .inl z
      · exact .inr ⟨List.mem_cons_of_mem _ z1,z2,z3⟩
theorem z2B {x : Str} : ∀ (names : List (Str × NameKind)) (n : Nat) (acc : List (Str × Addr)),(x,NameKind.cell)∈names∨(∃ c,(x,c)∈acc)->∃ c,(x,c)∈cellsFrom n names acc
  | [],_,_,h=>h.elim (fun z=>nomatch z) id
  | (y,k) :: r,n,acc,h=>by
    unfold cellsFrom
    by_cases hk : (k == NameKind.cell)=true
    · rw [if_pos hk]
      refine z2B r _ _ ?_
      rcases h with z | ⟨c,z⟩
      · rcases List.mem_cons.mp z with q | q
        · cases q
          exact .inr ⟨_,List.mem_cons_self⟩
        · exact .inl q
      · exact .inr ⟨c,List.mem_cons_of_mem _ z⟩
    · rw [if_neg hk]
      refine z2B r _ _ ?_
      rcases h with z | z
      · rcases List.mem_cons.mp z with q | q
        · cases q
          exact absurd (by rfl) hk
        · exact .inl q
      · exact .inr z
theorem z2D (lo : Nat) : ∀ (names : List (Str × NameKind)) (n : Nat) (acc : List (Str × Addr)),(∀ x y c,(x,c)∈acc->(y,c)∈acc->lo≤c->x=y)->(∀ p∈acc,p.2 < n) →
    ∀ x y c,(x,c)∈cellsFrom n names acc->(y,c)∈cellsFrom n names acc->lo≤c->x=y
  | [],_,_,h,_=>h
  | (m,k) :: r,n,acc,h,hb=>by
    unfold cellsFrom
    by_cases hk : (k == NameKind.cell)=true
    · rw [if_pos hk]
      refine z2D lo r (n + 1) ((m,n) :: acc) (fun x y c hx hy hc=>?_) fun p hp=>?_
      · rcases List.mem_cons.mp hx with q | q <;> rcases List.mem_cons.mp hy with q' | q'
        · cases q; cases q'; rfl
        · cases q
          exact absurd (hb _ q') (Nat.lt_irrefl _)
        · cases q'
          exact absurd (hb _ q) (Nat.lt_irrefl _)
        · exact h x y c q q' hc
      · rcases List.mem_cons.mp hp with q | q
        · cases q; exact Nat.lt_succ_self _
        · exact Nat.lt_succ_of_lt (hb p q)
    · rw [if_neg hk]
      exact z2D lo r n acc h hb
theorem z3v (env : Env) (x : Str) : ∀ names : List (Str × NameKind),
    (names.map fun (n,k)=>if (k == NameKind.free && env.scope.kind == .function && env.kindOf n == some .cell) then (n,NameKind.cell) else (n,k)).lookup x =
      (names.lookup x).map fun k=>if (k == NameKind.free && env.scope.kind == .function && env.kindOf x == some .cell) then NameKind.cell else k
  | []=>rfl
  | (n,k) :: r=>by
    have ih:=z3v env x r
    show List.lookup x ((if (k == NameKind.free && env.scope.kind == .function && env.kindOf n == some .cell)=true then (n,NameKind.cell) else (n,k)) :: _)=_
    cases hx : x == n with
    | true=>
      have e:=eq_of_beq hx
      subst e
      by_cases hc : (k == NameKind.free && env.scope.kind == .function && env.kindOf x == some .cell)=true
      · rw [if_pos hc]
        simp only [List.lookup_cons,beq_self_eq_true,Option.map_some,hc,if_true]
      · rw [if_neg hc]
        simp only [List.lookup_cons,beq_self_eq_true,Option.map_some]
        rw [if_neg hc]
    | false=>
      by_cases hc : (k == NameKind.free && env.scope.kind == .function && env.kindOf n == some .cell)=true
      · rw [if_pos hc]; simp only [List.lookup_cons,hx]; exact ih
      · rw [if_neg hc]; simp only [List.lookup_cons,hx]; exact ih
theorem z2i {M : Model} {A : Around} {E : Value->Shared->Prop} {s : Shared} {scope : Scope} {globals : Addr} {closure : List (Str × Addr)} {qual : Str} {env : Env} {Q : Env->Shared->Prop}
    (hQ : Q (newEnv scope s.heap.objs.size globals (cellsFrom (s.heap.objs.size + 1) scope.names closure) qual none .none (some env) builtinsNs)
      { s with heap:=pushCells (s.heap.push { cls:=.type "dict",data:=.dict #[] }) scope.names }) :
    wpAny M A (newFunctionEnv scope globals closure [] qual none .none (some env)) Q E s:=by
  simp only [newFunctionEnv,Option.isSome_some,if_true]
  refine wpAny_bind (wpAny_alloc ?_)
  refine wpAny_bind (wpAny_layCells _ (fun name kind cells=>by cases hkc : kind == NameKind.cell <;> simp [hkc]) _ _ _ _ ?_)
  rw [show ({ s with heap:=s.heap.push { cls:=.type "dict",data:=.dict #[] } } : Shared).heap.objs.size=s.heap.objs.size + 1 from Heap.size_push ..]
  refine wpAny_bind ?_
  rw [List.forIn_nil]
  exact wpAny_pure (wpAny_pure hQ)
noncomputable def capOk (out names : List (Str × NameKind)) : Bool:=names.all fun p=>!(decide (p.2=NameKind.free)) || (decide (out.lookup p.1=some NameKind.cell) || decide (out.lookup p.1=some NameKind.free))
noncomputable def nmOk (N N' : List Str) (names : List (Str × NameKind)) : Bool:=(List.range N.length).all fun i=>match N'[i]? with
  | some y=>decide (names.lookup y=none) || (decide (names.lookup y=some NameKind.free) && decide (N[i]? = some y))
  | none=>false
structure CompScope (N : List Str) (out : List (Str × NameKind)) (N' : List Str) (k : Nat) (sc : Scope) : Prop where
  kind : sc.kind = .function
  len : N'.length=N.length + k
  cap : capOk out sc.names=true
  nm : nmOk N N' sc.names=true
  uniq : sc.names.all (fun p=>decide (sc.names.lookup p.1=some p.2))=true
noncomputable def z0C (X : Cx) (N' : List Str) (sc : Scope) (s : Shared) (H : Hp) (fp : List Addr) (pins : List (Addr × Obj)) (E : Value->Shared->Prop) : Cx where
  prog:=X.prog
  w:=X.w
  K:=X.K
  mg:=X.mg
  base:=X.base
  A:=X.A
  N:=N'
  s₀:=s
  H₀:=H
  env:=compEnvC sc (cellsFrom (s.heap.objs.size + 1) sc.names (z2N X.env.cells sc.names [])) s.heap.objs.size X.env
  outer:=X.stack
  stack:=X.stack
  ex:=fp
  fn:=fun x=>decide (sc.names.lookup x=some .cell)
  calm:=X.calm
  pn:=X.pn ++ pins
  xe:=E
section
variable {X : Cx} {N' : List Str} {k : Nat} {sc : Scope} {pins : List (Addr × Obj)} {σ : St} {H : Hp} {s : Shared} {fp : List Addr} {E : Value->Shared->Prop}
theorem CompScope.fr (S : CompScope X.N X.env.scope.names N' k sc) {x : Str} (h : (x,NameKind.free)∈sc.names) : X.env.kindOf x=some .cell∨X.env.kindOf x=some .free:=by
  have q:=List.all_eq_true.mp S.cap _ h
  simp at q
  exact q
theorem CompScope.look {N : List Str} {out : List (Str × NameKind)} (S : CompScope N out N' k sc) {x : Str} {kd : NameKind} (h : (x,kd)∈sc.names) : sc.names.lookup x=some kd:=by
  have q:=List.all_eq_true.mp S.uniq _ h
  exact of_decide_eq_true q
theorem y3U (S : CompScope X.N X.env.scope.names N' k sc) (I : Inv X pins σ H s) (hf : ∀ b∈fp,z8x X pins H b) (hlt : ∀ b∈fp,b < s.heap.objs.size) :
    Inv (z0C X N' sc s H fp pins E) [] (σ ++ List.replicate k none) H { s with heap:=pushCells (s.heap.push { cls:=.type "dict",data:=.dict #[] }) sc.names }:=by
  have keeps : ∀ b o,s.heap.get? b=some o->(pushCells (s.heap.push { cls:=.type "dict",data:=.dict #[] }) sc.names).get? b=some o:=fun b o e=>pushCells_keeps _ _ _ _ (Heap.get?_push_of_some _ e)
  have hsz : (s.heap.push { cls:=.type "dict",data:=.dict #[] }).objs.size=s.heap.objs.size + 1:=Heap.size_push ..
  have hns : (pushCells (s.heap.push { cls:=.type "dict",data:=.dict #[] }) sc.names).Ns s.heap.objs.size (fun _=>none):=(Heap.Ns.new s.heap (.type "dict")).keeps (pushCells_keeps _ _)
  have frc : ∀ x,(x,NameKind.free)∈sc.names->∃ c,X.env.cells.lookup x=some c:=fun x h=>I.ok.has x (S.fr h)
  have cm : ∀ x c,(x,c)∈cellsFrom (s.heap.objs.size + 1) sc.names (z2N X.env.cells sc.names []) →
      ((x,NameKind.cell)∈sc.names∧s.heap.objs.size + 1≤c∧(pushCells (s.heap.push { cls:=.type "dict",data:=.dict #[] }) sc.names).IsCell c none)∨((x,NameKind.free)∈sc.names∧X.env.cells.lookup x=some c):=fun x c h=>by
    rw [← hsz] at h
    rcases z2O _ _ _ h with z | ⟨z1,z2,z3⟩
    · rcases z3a _ _ z with z | ⟨z1,z2⟩
      · exact nomatch z
      · obtain ⟨c',e⟩:=frc x z1
        rw [e] at z2
        cases z2
        exact .inr ⟨z1,e⟩
    · exact .inl ⟨z1,by omega,z3⟩
  have cl : ∀ x c,(cellsFrom (s.heap.objs.size + 1) sc.names (z2N X.env.cells sc.names [])).lookup x=some c->(x,c)∈cellsFrom (s.heap.objs.size + 1) sc.names (z2N X.env.cells sc.names []):=fun x c h=>PySem.mem_of_lookup h
  have clt : ∀ x c,X.env.cells.lookup x=some c->c < s.heap.objs.size:=fun x c h=>by
    obtain ⟨v,q⟩:=I.cell x c h
    exact q.lt
  have has : ∀ x,(x,NameKind.cell)∈sc.names∨(x,NameKind.free)∈sc.names->∃ c,(cellsFrom (s.heap.objs.size + 1) sc.names (z2N X.env.cells sc.names [])).lookup x=some c:=fun x h=>by
    obtain ⟨c,hc⟩:=z2B (x:=x) sc.names (s.heap.objs.size + 1) (z2N X.env.cells sc.names []) (h.imp id fun z=>z5d _ _ (.inl z))
    exact Option.isSome_iff_exists.mp (z2e hc)
  have kd : ∀ x kk,(relabel sc X.env).names.lookup x=some kk->∃ k0,sc.names.lookup x=some k0∧(kk=k0∨(k0 = .free∧kk = .cell)):=fun x kk h=>by
    have q:=z3v X.env x sc.names
    have h' : (sc.names.map fun (n,k)=>if (k == NameKind.free && X.env.scope.kind == .function && X.env.kindOf n == some .cell) then (n,NameKind.cell) else (n,k)).lookup x=some kk:=h
    rw [q] at h'
    cases e : sc.names.lookup x with
    | none=>rw [e] at h'; cases h'
    | some k0=>
      rw [e] at h'
      simp only [Option.map_some,Option.some.injEq] at h'
      refine ⟨k0,rfl,?_⟩
      split at h'
      · rename_i hc
        simp at hc
        exact .inr ⟨hc.1.1,h'.symm⟩
      · exact .inl h'.symm
  refine ⟨⟨I.ok.mod,S.kind,I.ok.glob,I.ok.blt,Nat.le_refl _,?inj,?has,?cab,I.ok.hd,I.ok.frames,.inl rfl,?exf,I.bs,Nat.le_trans I.ok.bsz I.sz,?noex,?exfs,I.stack,I.stkFree⟩,
    rfl,I.bare,Un.kept keeps,⟨_,hns,?loc⟩,?cell,I.hok.fresh (Nat.le_refl _),?freeC,?pin,I.hok.kept keeps,?len⟩
  case inj=>
    intro x y c h1 h2
    rcases cm x c (cl x c h1) with ⟨_,l1,_⟩ | ⟨m1,e1⟩
    · rcases cm y c (cl y c h2) with ⟨_,l2,_⟩ | ⟨m2,e2⟩
      · refine z2D (s.heap.objs.size + 1) sc.names (s.heap.objs.size + 1) (z2N X.env.cells sc.names []) (fun x y c hx _ hc=>?_) (fun p hp=>?_) x y c (cl x c h1) (cl y c h2) l1
        · rcases z3a _ _ hx with z | ⟨z1,z2⟩
          · exact nomatch z
          · obtain ⟨c',e⟩:=frc x z1
            rw [e] at z2
            have z3 : c=c':=z2
            subst z3
            exact absurd (clt x c e) (Nat.not_lt.mpr (Nat.le_of_succ_le hc))
        · obtain ⟨x,c⟩:=p
          rcases z3a _ _ hp with z | ⟨z1,z2⟩
          · exact nomatch z
          · obtain ⟨c',e⟩:=frc x z1
            rw [e] at z2
            have z3 : c=c':=z2
            subst z3
            exact Nat.lt_succ_of_lt (clt x c e)
      · exact absurd (clt y c e2) (Nat.not_lt.mpr (Nat.le_of_succ_le l1))
    · rcases cm y c (cl y c h2) with ⟨_,l2,_⟩ | ⟨m2,e2⟩
      · exact absurd (clt x c e1) (Nat.not_lt.mpr (Nat.le_of_succ_le l2))
      · exact I.ok.inj x y c e1 e2
  case has=>
    intro x hx
    refine has x ?_
    rcases hx with hx | hx
    · obtain ⟨k0,e,h⟩:=kd x _ hx
      rcases h with h | ⟨h,_⟩
      · subst h; exact .inl (PySem.mem_of_lookup e)
      · subst h; exact .inr (PySem.mem_of_lookup e)
    · obtain ⟨k0,e,h⟩:=kd x _ hx
      rcases h with h | ⟨_,h⟩
      · subst h; exact .inr (PySem.mem_of_lookup e)
      · cases h
  case cab=>
    intro x c hfn h
    have hfn' : sc.names.lookup x=some NameKind.cell:=of_decide_eq_true hfn
    rcases cm x c (cl x c h) with ⟨_,l,_⟩ | ⟨m,_⟩
    · exact Nat.le_of_succ_le l
    · rw [S.look m] at hfn'; cases hfn'
  case exf=>
    intro b hb
    refine ⟨Nat.ne_of_lt (hlt b hb),fun x c h=>?_⟩
    rcases cm x c (cl x c h) with ⟨_,l,_⟩ | ⟨_,e⟩
    · intro z
      subst z
      exact absurd (hlt c hb) (Nat.not_lt.mpr (Nat.le_of_succ_le l))
    · exact (hf b hb).2.2.2.2.1 x c e
  case noex=>
    intro b o e hb
    rcases (hf b hb).2.2.2.1 with z | z
    · exact I.ok.noex b o e z
    · exact absurd (Nat.lt_of_lt_of_le (Heap.lt_size e) (Nat.le_trans I.ok.bsz z)) (Nat.lt_irrefl _)
  case exfs=>exact fun b hb z=>(List.mem_cons.mp (I.stkSub b z)).elim (hf b hb).2.1 (hf b hb).2.2.1
  case loc=>
    intro i y v h1 h2 h3
    have hl:=I.len
    by_cases hi : i < σ.length
    · rw [List.getElem?_append_left hi] at h2
      have q:=List.all_eq_true.mp S.nm i (List.mem_range.mpr (by omega))
      have h1' : N'[i]? = some y:=h1
      simp only [h1',Bool.or_eq_true,Bool.and_eq_true,decide_eq_true_eq] at q
      rcases q with q | ⟨q1,q2⟩
      · exfalso
        rcases h3 with z | z | z <;> (obtain ⟨k0,e,_⟩:=kd y _ z; rw [q] at e; cases e)
      · have hm:=PySem.mem_of_lookup q1
        obtain ⟨m,hn,hloc⟩:=I.loc
        have kk:=S.fr hm
        obtain ⟨u,r,l⟩:=hloc i y v q2 h2 (kk.elim (fun z=>.inr (.inl z)) fun z=>.inr (.inr z))
        refine ⟨u,r,.inr ⟨?_,?_⟩⟩
        · rcases h3 with z | z | z
          · obtain ⟨k0,e,h⟩:=kd y _ z
            rw [q1] at e
            cases e
            rcases h with h | ⟨_,h⟩ <;> cases h
          · exact .inl z
          · exact .inr z
        · rcases l with ⟨l,_⟩ | ⟨_,c,ec,hc⟩
          · rcases kk with z | z <;> (rw [z] at l; cases l)
          · obtain ⟨c',e'⟩:=has y (.inr hm)
            refine ⟨c',e',?_⟩
            rcases cm y c' (cl y c' e') with ⟨m',_⟩ | ⟨_,e2⟩
            · have:=S.look m'
              rw [q1] at this
              cases this
            · rw [ec] at e2
              cases e2
              exact hc.keeps keeps
    · rw [List.getElem?_append_right (by omega),List.getElem?_replicate] at h2
      split at h2 <;> cases h2
  case cell=>
    intro x c h
    rcases cm x c (cl x c h) with ⟨_,_,q⟩ | ⟨_,e⟩
    · exact ⟨_,q⟩
    · obtain ⟨v,q⟩:=I.cell x c e
      exact ⟨v,q.keeps keeps⟩
  case freeC=>
    intro x c h
    rcases cm x c (cl x c h) with ⟨_,l,_⟩ | ⟨_,e⟩
    · exact I.hok.fresh (Nat.le_of_succ_le l)
    · exact I.freeC x c e
  case pin=>
    intro p hp
    have hp' : p∈X.pn ++ pins:=by
      rcases List.mem_append.mp hp with z | z
      · exact z
      · exact nomatch z
    obtain ⟨e,n,ne,nf,d⟩:=I.pin p hp'
    exact ⟨keeps _ _ e,n,Nat.ne_of_lt (Heap.lt_size e),fun z=>(List.mem_cons.mp (I.stkSub p.1 z)).elim ne nf,d⟩
  case len=>
    show _=N'.length
    rw [List.length_append,List.length_replicate,S.len,I.len]
theorem z7E {σ' : St} {H' : Hp} {s' : Shared} (I : Inv X pins σ H s) (hf : ∀ b∈fp,z8x X pins H b) (J : Inv (z0C X N' sc s H fp pins E) [] σ' H' s') : Inv X pins σ H' s':=
  I.call' J.os J.base J.hok J.bare fun b hb=>⟨(hf b hb).2.2.2.1,(hf b hb).2.1,(hf b hb).2.2.2.2.1,(hf b hb).2.2.2.2.2⟩
theorem y0Z {H' : Hp} {s' : Shared} {h' : Heap} (I : Inv X pins σ H s) (J : Inv X pins σ H' s') (hn : H' s.heap.objs.size=none) (hb : Heap.SameBut s.heap.objs.size s'.heap h') : Inv X pins σ H' { s' with heap:=h' }:=by
  refine J.turned (t':=s'.toks) (it:=s.heap.objs.size) (fun b o hne e=>(hb.2 b hne).trans e) hn (Nat.ne_of_gt I.lt) (.inr I.sz) (fun x c e=>?_) fun p hp=>?_
  · obtain ⟨v,q⟩:=I.cell x c e
    exact Nat.ne_of_lt q.lt
  · exact Nat.ne_of_lt (Heap.lt_size (I.pin p hp).1)
end
theorem z7J {prog : Program} {w : World} {A : Around} {R : Result->Shared->Prop} {s : Shared} {elt target iter : Expr} {ifs : List Expr} {scope : Scope} {pos : Pos} {it acc : Value} {env : Env} (I : Nat->Shared->Prop)
    (turn : ∀ n s,I n s->wpAny (model prog w) A (pyNext it) (fun r s₁=>match r with
      | none=>R (.ok .next) s₁
      | some v=>wpAny (model prog w) A (letOwnedTupleGo target it v) (fun _ s₁'=>wpAny (model prog w) A (assign target env v) (fun _ s₂=>
          wpAny (model prog w) A (forIn ifs true fun c r=>if r=true then do let ok ← isTrue c env (eval c env); pure (ForInStep.yield ok) else pure (ForInStep.yield r)) (fun ok s₃=>
            if ok=true then wpAny (model prog w) A (eval elt env) (fun x s₄=>
              wpAny (model prog w) A (call (.builtin "list.append") [acc,x]) (fun _ s₅=>∃ m,m < n∧I m s₅) (notedBy (model prog w) A env fun e s'=>R (.error e) s') s₄) (notedBy (model prog w) A env fun e s'=>R (.error e) s') s₃
            else ∃ m,m < n∧I m s₃) (notedBy (model prog w) A env fun e s'=>R (.error e) s') s₂) (notedBy (model prog w) A env fun e s'=>R (.error e) s') s₁') (notedBy (model prog w) A env fun e s'=>R (.error e) s') s₁) (notedBy (model prog w) A env fun e s'=>R (.error e) s') s)
    (n : Nat) (h : I n s) :
    codeAny (model prog w) A (.compLoop (.ListComp elt [⟨target,iter,ifs,0⟩] scope pos) 0 it acc env) R s:=by
  refine codeAny_loop rfl I (fun n s hI=>?_) n h
  show wpAny _ A ((compTurn (.ListComp elt [⟨target,iter,ifs,0⟩] scope pos) 0 it acc env).onRaise (fun x=>do noteFrame x env; theTreesLotGoes x)) _ _ s
  refine wpAny_noted ?_
  rw [compTurn_list]
  refine wpAny_bind (wpAny_standAt (wpAny_bind (wpAny_mono (turn n s hI) (fun r s₁ h₁=>?_) fun _ _ h'=>h')))
  cases r with
  | none=>exact wpAny_pure h₁
  | some v=>
    refine wpAny_bind (wpAny_mono h₁ (fun _ s₁' h₁'=>?_) fun _ _ h'=>h')
    refine wpAny_bind (wpAny_mono h₁' (fun _ s₂ h₂=>wpAny_bind (wpAny_mono h₂ (fun ok s₃ h₃=>?_) fun _ _ h'=>h')) fun _ _ h'=>h')
    cases ok with
    | false=>exact wpAny_pure ⟨rfl,h₃⟩
    | true=>
      exact wpAny_bind (wpAny_bind (wpAny_mono h₃ (fun x s₄ h₄=>wpAny_bind (wpAny_mono h₄ (fun _ s₅ h₅=>wpAny_pure (wpAny_pure ⟨rfl,h₅⟩)) fun _ _ h'=>h')) fun _ _ h'=>h'))
noncomputable def y3q (X : Cx) (ifs : List Expr) (t : TT) : Prop:=
  ∀ (pins : List (Addr × Obj)) (s : Shared) (σ : St) (H : Hp) (Q : Bool->Hp->Prop),Inv X pins σ H s->t σ H Q →
    wpAny (model X.prog X.w) X.A (forIn ifs true fun c r=>if r=true then do let ok ← isTrue c X.env (eval c X.env); pure (ForInStep.yield ok) else pure (ForInStep.yield r)) (TP X pins σ Q) X.xe s
noncomputable def tYes : TT:=fun _ H Q=>Q true H
theorem y3K {X : Cx} : y3q X [] tYes:=fun _ _ _ H _ I h=>wpAny_tests_nil ⟨H,I,h⟩
theorem y5b {X : Cx} {c : Expr} {t : TT} (h : PT X c t) : y3q X [c] t:=fun pins s σ H Q I hw=>wpAny_tests_one (h pins s σ H Q I hw)
noncomputable def y2v (wi : TI) (g : TG) (tc : TT) (te : TE) (k : Nat) : TE:=fun σ H Q=>wi σ H fun J H1=>∀ D,H1 D=none →
  ∃ W : Nat->Nat->St->Hp->Prop,(∃ m,W 0 m (σ ++ List.replicate k none) (upd H1 D (.lst [])))∧∀ i m σ' H',W i m σ' H' →
    (J.stop i H'∧Q (.ref D) H')∨(J.go i H'∧∃ N : St->Hp->Prop,(∀ σ'' H'',N σ'' H''->∃ m',m' < m∧W (i + 1) m' σ'' H'') ∧
      ∀ x H2,J.yld i H' x H2->g x σ' H2 fun σ2 H3=>tc σ2 H3 fun b H4=>if b=true then te σ2 H4 fun y H5=>∃ ys,H5 D=some (.lst ys)∧ys.length < sizeLine∧N σ2 (upd H5 D (.lst (ys ++ [y]))) else N σ2 H4)
structure PComp (X : Cx) (N' : List Str) (sc : Scope) (tg : Expr) (ifs : List Expr) (elt : Expr) (g : TG) (tc : TT) (te : TE) : Prop where
  pg : ∀ s H fp pins E,PG (z0C X N' sc s H fp pins E) tg g
  pt : ∀ s H fp pins E,y3q (z0C X N' sc s H fp pins E) ifs tc
  pe : ∀ s H fp pins E,PE (z0C X N' sc s H fp pins E) elt te
section
variable {X : Cx} {N' : List Str} {k : Nat} {sc : Scope} {tg iter elt : Expr} {ifs : List Expr} {pos : Pos} {g : TG} {tc : TT} {te : TE} {wi : TI}
theorem z5W {pins : List (Addr × Obj)} {σ : St} {H : Hp} {s : Shared} {J : It} {fp : List Addr} {it : Addr} {tn : Nat->Heap->Prop} {Q : VK} {E : Value->Shared->Prop} {RR : Value->Addr->Result->Shared->Prop}
    (hc : X.calm=true) (S : CompScope X.N X.env.scope.names N' k sc) (P : PComp X N' sc tg ifs elt g tc te) (I : Inv X pins σ H s) (T : Turn X.prog X.w X.K tg J fp it tn) (st : tn 0 s.heap) (hf : ∀ b∈fp,z8x X pins H b)
    (hW : ∀ D,H D=none->∃ W : Nat->Nat->St->Hp->Prop,(∃ m,W 0 m (σ ++ List.replicate k none) (upd H D (.lst [])))∧∀ i m σ' H',W i m σ' H' →
      (J.stop i H'∧Q (.ref D) H')∨(J.go i H'∧∃ N : St->Hp->Prop,(∀ σ'' H'',N σ'' H''->∃ m',m' < m∧W (i + 1) m' σ'' H'') ∧
        ∀ x H2,J.yld i H' x H2->g x σ' H2 fun σ2 H3=>tc σ2 H3 fun b H4=>if b=true then te σ2 H4 fun y H5=>∃ ys,H5 D=some (.lst ys)∧ys.length < sizeLine∧N σ2 (upd H5 D (.lst (ys ++ [y]))) else N σ2 H4))
    (hR : ∀ D s3 H3 σ' H' s' E',Inv X pins σ H3 s3->(∀ b∈fp,z8x X pins H3 b)->Inv (z0C X N' sc s3 H3 fp pins E') [] σ' H' s'->Q (.ref D) H'->RR (.ref D) s3.heap.objs.size (.ok .next) s') :
    wpAny (model X.prog X.w) X.A (newList []) (fun acc s₃=>wpAny (model X.prog X.w) X.A (newFunctionEnv sc X.env.globals (z2N X.env.cells sc.names []) [] X.env.qual none .none (some X.env)) (fun cenv s₄=>
      codeAny (model X.prog X.w) X.A (.compStart (.ListComp elt [⟨tg,iter,ifs,0⟩] sc pos) 0 (.ref it) acc { cenv with scope:=relabel sc X.env }) (RR acc cenv.locals) s₄) E s₃) E s:=by
  obtain ⟨W,⟨m0,w0⟩,step⟩:=hW s.heap.objs.size (I.hok.fresh (Nat.le_refl _))
  have I3 : Inv X pins σ (upd H s.heap.objs.size (.lst [])) { s with heap:=s.heap.push { cls:=.type "list",data:=.seq ([] : List Value).toArray },toks:=s.toks }:=I.lnew (t':=s.toks) .nil (Nat.zero_le _)
  have lt0 : ∀ b∈fp,b < s.heap.objs.size:=fun b hb=>by
    obtain ⟨o,e,_⟩:=T.obj 0 _ st b hb
    exact Heap.lt_size e
  have hf3 : ∀ b∈fp,z8x X pins (upd H s.heap.objs.size (.lst [])) b:=fun b hb=>⟨by rw [z0q (Nat.ne_of_lt (lt0 b hb))]; exact (hf b hb).1,(hf b hb).2⟩
  have lt3 : ∀ b∈fp,b < (s.heap.push { cls:=.type "list",data:=.seq ([] : List Value).toArray }).objs.size:=fun b hb=>by
    rw [Heap.size_push]
    exact Nat.lt_succ_of_lt (lt0 b hb)
  refine wpAny_newObj_type (z2i ?_)
  generalize hs3 : ({ s with heap:=s.heap.push { cls:=.type "list",data:=.seq ([] : List Value).toArray },toks:=s.toks } : Shared)=s3 at I3
  have hsh : s3.heap=s.heap.push { cls:=.type "list",data:=.seq ([] : List Value).toArray }:=by rw [← hs3]
  rw [← hsh] at lt3
  have st3 : tn 0 s3.heap:=T.keep _ _ _ st fun b _ o e=>by rw [hsh]; exact Heap.get?_push_of_some _ e
  show codeAny _ _ (.compStart _ 0 (.ref it) (.ref s.heap.objs.size) (compEnvC sc (cellsFrom (s3.heap.objs.size + 1) sc.names (z2N X.env.cells sc.names [])) s3.heap.objs.size X.env)) (RR (.ref s.heap.objs.size) s3.heap.objs.size)
    { s3 with heap:=pushCells (s3.heap.push { cls:=.type "dict",data:=.dict #[] }) sc.names }
  generalize hD : s.heap.objs.size=D at *
  generalize hEn : (notedBy (model X.prog X.w) X.A (compEnvC sc (cellsFrom (s3.heap.objs.size + 1) sc.names (z2N X.env.cells sc.names [])) s3.heap.objs.size X.env) fun e s'=>RR (.ref D) s3.heap.objs.size (.error e) s')=En
  have I4 : Inv (z0C X N' sc s3 (upd H D (.lst [])) fp pins En) [] (σ ++ List.replicate k none) (upd H D (.lst [])) { s3 with heap:=pushCells (s3.heap.push { cls:=.type "dict",data:=.dict #[] }) sc.names }:=y3U S I3 hf3 lt3
  have st4 : tn 0 (pushCells (s3.heap.push { cls:=.type "dict",data:=.dict #[] }) sc.names):=T.keep _ _ _ st3 fun b _ o e=>pushCells_keeps _ _ _ _ (Heap.get?_push_of_some _ e)
  have stat : ∀ {H' : Hp},(∀ b∈fp,H' b=none)->∀ b∈fp,z8x (z0C X N' sc s3 (upd H D (.lst [])) fp pins En) [] H' b:=fun hn b hb=>
    ⟨hn b hb,(I4.ok.exf b hb).1,I4.ok.exfs b hb,.inl hb,(I4.ok.exf b hb).2,fun p hp=>(hf3 b hb).2.2.2.2.2 p (by
      rcases List.mem_append.mp hp with z | z
      · exact z
      · exact nomatch z)⟩
  have loop : codeAny (model X.prog X.w) X.A (.compLoop (.ListComp elt [⟨tg,iter,ifs,0⟩] sc pos) 0 (.ref it) (.ref D) (z0C X N' sc s3 (upd H D (.lst [])) fp pins En).env) (RR (.ref D) s3.heap.objs.size)
      { s3 with heap:=pushCells (s3.heap.push { cls:=.type "dict",data:=.dict #[] }) sc.names }:=by
    refine z7J (fun n s'=>∃ i σ' H',Inv (z0C X N' sc s3 (upd H D (.lst [])) fp pins En) [] σ' H' s'∧tn i s'.heap∧(∀ b∈fp,H' b=none)∧W i n σ' H') ?_ m0 ⟨0,_,_,I4,st4,fun b hb=>(hf3 b hb).1,w0⟩
    have eEn : (notedBy (model X.prog X.w) X.A (z0C X N' sc s3 (upd H D (.lst [])) fp pins En).env fun e s'=>RR (.ref D) s3.heap.objs.size (.error e) s')=En:=hEn
    rw [eEn]
    rintro n s5 ⟨i,σ5,H5,I5,st5,fr5,w5⟩
    rcases step i n σ5 H5 w5 with ⟨stop,qn⟩ | ⟨go,N,hN,turn⟩
    · refine thn (T.done (z0C X N' sc s3 (upd H D (.lst [])) fp pins En) rfl rfl rfl hc i [] s5 σ5 H5 En I5 (stat fr5) st5 stop) fun r s6 ⟨hr,I6⟩=>?_
      subst hr
      exact hR D s3 _ σ5 H5 s6 En I3 hf3 I6 qn
    · refine thn (T.item (z0C X N' sc s3 (upd H D (.lst [])) fp pins En) rfl rfl rfl hc i [] s5 σ5 H5 En I5 (stat fr5) st5 go) fun r s6 ⟨u,hr,h6⟩=>?_
      subst hr
      refine thn h6 fun _ s7 ⟨x,H7,I7,r7,y7,st7,fr7⟩=>?_
      have I7':=I7.pinned (stat fr7) (T.obj _ _ st7)
      have back : ∀ {σ9 : St} {H9 : Hp} {s9 : Shared},Inv (z0C X N' sc s3 (upd H D (.lst [])) fp pins En) ([] ++ z7R fp s7.heap) σ9 H9 s9->N σ9 H9 →
          ∃ m,m < n∧∃ i σ' H',Inv (z0C X N' sc s3 (upd H D (.lst [])) fp pins En) [] σ' H' s9∧tn i s9.heap∧(∀ b∈fp,H' b=none)∧W i m σ' H':=fun {σ9 H9 s9} I9 n9=>by
        obtain ⟨m',hm,w9⟩:=hN σ9 H9 n9
        refine ⟨m',hm,i + 1,σ9,H9,I9.unpinned,T.keep _ _ _ st7 fun b hb o e=>(I9.pin (b,o) (List.mem_append_right _ (List.mem_append_right _ (z3n hb e)))).1,fun b hb=>?_,w9⟩
        obtain ⟨o,e,d⟩:=T.obj _ _ st7 b hb
        exact (I9.pin (b,o) (List.mem_append_right _ (List.mem_append_right _ (z3n hb e)))).2.1
      refine thn (P.pg s3 _ fp pins En _ s7 σ5 H7 x u _ I7' r7 (turn x H7 y7)) fun _ s8 ⟨σ8,H8,I8,q8⟩=>?_
      refine thn (P.pt s3 _ fp pins En _ s8 σ8 H8 _ I8 q8) fun ok s9 ⟨H9,I9,q9⟩=>?_
      cases ok with
      | false=>
        rw [if_neg Bool.false_ne_true] at q9
        rw [if_neg Bool.false_ne_true]
        exact back I9 q9
      | true=>
        rw [if_pos rfl] at q9
        rw [if_pos rfl]
        refine thn (P.pe s3 _ fp pins En _ s9 σ8 H9 _ I9 q9) fun y s10 ⟨yv,H10,I10,r10,ys,hys,hl,q10⟩=>?_
        refine thn (z3K _ s10 σ8 H10 (.ref D) [yv] (.ref D) [y] (fun _ H'=>N σ8 H') I10 rfl (.cons r10 .nil) ⟨D,ys,yv,rfl,rfl,hys,hl,q10⟩) fun _ s11 ⟨_,H11,I11,_,q11⟩=>?_
        exact back I11 q11
  exact codeAny_compStart_list loop (T.self X.A 0 _ _ _ st4 loop)
theorem CompScope.names' {N : List Str} {out : List (Str × NameKind)} (S : CompScope N out N' k sc) : ∀ x∈sc.names,x.2 = .local->sc.names.lookup x.1=some .local:=fun x hx e=>by
  obtain ⟨n,kd⟩:=x
  have e' : kd = .local:=e
  subst e'
  exact S.look hx
theorem z9b (hc : X.calm=true) (S : CompScope X.N X.env.scope.names N' k sc) (hi : PI X tg iter wi) (P : PComp X N' sc tg ifs elt g tc te) (hs : ∀ x,foldedSetIterable iter X.env x=pure x:=by intro _; rfl) :
    PE X (.ListComp elt [⟨tg,iter,ifs,0⟩] sc pos) (y2v wi g tc te k):=by
  intro pins s σ H Q I h
  rw [eval_ListComp]
  refine wpAny_comprehension_free (use:=none) rfl hs (z2S fun n hn=>I.ok.has n (S.fr hn)) S.kind S.names' (thn (hi pins s σ H _ I h) fun v s1 h1=>thn h1 fun itv s2 h2=>?_)
  obtain ⟨it,fp,tn,J,H2,e,I2,T,st2,f2,hW⟩:=h2
  subst e
  refine z5W (Q:=Q) (RR:=fun acc C=>compPost (model X.prog X.w) X.A X.xe none (EP X pins σ Q) acc C) hc S P I2 T st2 f2 hW ?_
  intro D s3 H3 σ' H' s' E' I3 f3 J' q
  obtain ⟨m,hn,_⟩:=J'.loc
  exact ⟨m,hn,fun h' hb=>⟨.ref D,H',y0Z I3 (z7E I3 f3 J') J'.free hb,rfl,q⟩⟩
theorem y2Q {i : Nat} {y : Str} {py spos : Pos} (hc : X.calm=true) (S : CompScope X.N X.env.scope.names N' k sc) (hN : X.N.Nodup) (hy : X.N[i]? = some y) (hyl : X.env.scope.names.lookup y=some .local) (hi : PI X tg iter wi) (P : PComp X N' sc tg ifs elt g tc te)
    (hsw : swapsWith (.ListComp elt [⟨tg,iter,ifs,0⟩] sc pos) (some (.Name y py)) spos.line X.env=pure true:=by rfl) (hs : ∀ x,foldedSetIterable iter X.env x=pure x:=by intro _; rfl) :
    PS X (.Assign [.Name y py] (.ListComp elt [⟨tg,iter,ifs,0⟩] sc pos) spos) (tAsg (y2v wi g tc te k) (z2b i)):=by
  intro pins s σ H D I h
  rw [exec_Assign_Name_used _ _ _ _ hsw]
  refine wpAny_bind (wpAny_standAt (wpAny_bind ?_))
  show wpAny _ X.A (do let _ ← comprehension (.ListComp elt [⟨tg,iter,ifs,0⟩] sc pos) sc X.env _ (newList []) false (eval iter X.env) (some (assign (.Name y py) X.env))) _ _ s
  refine wpAny_bind (wpAny_mono (wpAny_comprehension_free (use:=some (assign (.Name y py) X.env)) (Q:=fun _ s'=>SP X pins D .next s') rfl hs (z2S fun n hn=>I.ok.has n (S.fr hn)) S.kind S.names'
    (thn (hi pins s σ H _ I h) fun v s1 h1=>thn h1 fun itv s2 h2=>?_)) (fun _ s' hq=>wpAny_pure (wpAny_pure hq)) fun _ _ e=>e)
  obtain ⟨it,fp,tn,J,H2,e,I2,T,st2,f2,hW⟩:=h2
  subst e
  refine z5W (Q:=fun v H'=>D.nx (σ.set i (some v)) H') (RR:=fun acc C=>compPost (model X.prog X.w) X.A X.xe (some (assign (.Name y py) X.env)) (fun _ s'=>SP X pins D .next s') acc C) hc S P I2 T st2 f2 hW ?_
  intro a s3 H3 σ' H' s' E' I3 f3 J' q
  have J2:=z7E I3 f3 J'
  obtain ⟨m,hn,_⟩:=J'.loc
  show wpAny _ X.A (assign (.Name y py) X.env (.ref a)) _ _ _
  refine wpAny_assign_Name (z7A J2 hN hy (.inl hyl) (v:=.ref a) rfl (fun s4 I4 hsb=>?_) (.inr hyl))
  obtain ⟨b,hb,hb'⟩:=hsb
  have hne : b≠s3.heap.objs.size:=by
    rcases hb' with z | z
    · rw [z]; exact Nat.ne_of_lt I3.lt
    · obtain ⟨v,w'⟩:=I3.cell y b z
      exact Nat.ne_of_lt w'.lt
  refine ⟨m,hn.sameBut hb (Ne.symm hne),fun h' hb2=>⟨_,H',?_,q⟩⟩
  have I3' : Inv X pins (σ.set i (some (.ref a))) H3 s3∨True:=.inr trivial
  refine I4.turned (t':=s4.toks) (it:=s3.heap.objs.size) (fun b o hne e=>(hb2.2 b hne).trans e) J'.free (Nat.ne_of_gt I3.lt) (.inr I3.sz) (fun x c e=>?_) fun p hp=>?_
  · obtain ⟨v,q⟩:=I3.cell x c e
    exact Nat.ne_of_lt q.lt
  · exact Nat.ne_of_lt (Heap.lt_size (I3.pin p hp).1)
end
end L2
namespace L2
open PySem PySem.Spec PyProof.Rows
inductive D where
  | non | bl (b : Bool) | int (i : Int) | str (x : Str) | lst (xs : List D) | tup (xs : List D) | scr (ns : List Int) | dct (ks : List Key) (xs : List D) | exc (x : Str)
noncomputable def y1Q (K : PySem.W.Frag) (C : Addr) : Bool:=PySem.W.findIn K (.ref C) "__getattribute__" == some (some (.builtin "BaseException.__getattribute__")) && PySem.W.findIn K (.ref C) "__getattr__" == some none && PySem.W.mroIn K C (.type "BaseException") == some true && (PySem.W.clsIn K C).isSome && PySem.W.findIn K (.ref C) "__class__" == some (some (.builtin "object.__class__")) &&
  PySem.W.specialIn K (.builtin "object.__class__") "__get__" == some (some (.builtin "getset_descriptor.__get__")) && PySem.W.takesIn K (.builtin "object.__class__") == some true && PySem.W.mroIn K C (.type "object") == some true &&
  ["bool", "int", "str", "list", "tuple", "dict"].all fun T=>PySem.W.kitOne K (.ref C) (.type T) == some false
noncomputable def isX (a C : Addr) (h : Heap) : Prop:=∃ o,h.get? a=some o∧o.cls = .ref C∧o.dict=none∧PySem.W.notCls o=true
noncomputable def SqF (K : PySem.W.Frag) (H : Hp) (a : Addr) (xs : List V) : Prop:=
  (∃ o,H a=some (.frz o (.lst xs)))∨∃ (o : Obj) (its : Array Value) (n : Nat),K.lookup a=some o∧o.cls = .type "list" ∧ o.dict=none∧o.data = .seq its n∧its.size≤sizeLine∧Vals xs its.toList
theorem SqF.sq {K : PySem.W.Frag} {H : Hp} {a : Addr} {xs : List V} (h : SqF K H a xs) : SqL K H a xs:=h.elim (fun z=>.inl (.inr z)) .inr
mutual
def Rep (K : PySem.W.Frag) (H : Hp) (B : Addr->Prop) : D->V->Prop
  | .non,v=>v = .non
  | .bl b,v=>v = .bl b
  | .int i,v=>v = .int i
  | .str x,v=>v = .str x
  | .lst ds,v=>∃ a xs,v = .ref a∧¬ B a∧H a=some (.lst xs)∧Reps K H B ds xs
  | .tup ds,v=>∃ a xs,v = .ref a∧SqT K H a xs∧Reps K H B ds xs
  | .scr ns,v=>∃ a,v = .ref a∧SqF K H a (ns.map V.int)
  | .dct ks ds,v=>∃ a kvs,v = .ref a∧¬ B a∧H a=some (.dK kvs)∧kvs.map (·.1)=ks∧Reps K H B ds (kvs.map (·.2))
  | .exc x,v=>∃ a C,v = .ref a∧¬ B a∧H a=some (.ext (isX a C))∧PySem.W.nsIn K mainGlobals x=some (some (.ref C))∧y1Q K C=true
def Reps (K : PySem.W.Frag) (H : Hp) (B : Addr->Prop) : List D->List V->Prop
  | [],xs=>xs=[]
  | d :: ds,xs=>∃ x r,xs=x :: r∧Rep K H B d x∧Reps K H B ds r
end
mutual
def Tree (K : PySem.W.Frag) (H : Hp) : D->V->List Addr->Prop
  | .non,v,A=>v = .non∧A=[]
  | .bl b,v,A=>v = .bl b∧A=[]
  | .int i,v,A=>v = .int i∧A=[]
  | .str x,v,A=>v = .str x∧A=[]
  | .lst ds,v,A=>∃ a xs B,v = .ref a∧H a=some (.lst xs)∧Trees K H ds xs B∧A=a :: B
  | .tup ds,v,A=>∃ a xs,v = .ref a∧SqT K H a xs∧Trees K H ds xs A
  | .scr ns,v,A=>(∃ a,v = .ref a∧SqF K H a (ns.map V.int))∧A=[]
  | .dct ks ds,v,A=>∃ a kvs B,v = .ref a∧H a=some (.dK kvs)∧kvs.map (·.1)=ks∧Trees K H ds (kvs.map (·.2)) B∧A=a :: B
  | .exc x,v,A=>∃ a C,v = .ref a∧H a=some (.ext (isX a C))∧PySem.W.nsIn K mainGlobals x=some (some (.ref C))∧y1Q K C=true∧A=[a]
def Trees (K : PySem.W.Frag) (H : Hp) : List D->List V->List Addr->Prop
  | [],xs,A=>xs=[]∧A=[]
  | d :: ds,xs,A=>∃ x r B C,xs=x :: r∧Tree K H d x B∧Trees K H ds r C∧A=B ++ C
end
mutual
def D.imm : D->Bool
  | .non=>true
  | .bl _=>true
  | .int _=>true
  | .str _=>true
  | .lst _=>false
  | .tup ds=>z1L ds
  | .scr _=>true
  | .dct _ _=>false
  | .exc _=>false
def z1L : List D->Bool
  | []=>true
  | d :: ds=>d.imm && z1L ds
end
theorem Same.tup {K : PySem.W.Frag} {H H' : Hp} {a : Addr} {xs : List V} (e : Same H H') (h : SqT K H a xs) : SqT K H' a xs:=by
  rcases h with (h | ⟨o,h⟩) | h
  · exact .inl (.inl (e _ _ h))
  · exact .inl (.inr ⟨o,e _ _ h⟩)
  · exact .inr h
section
variable {K : PySem.W.Frag} {H H' : Hp} {B B' : Addr->Prop}
structure KeepI (K : PySem.W.Frag) (H H' : Hp) : Prop where
  st : ∀ a xs,SqT K H a xs->SqT K H' a xs
  sf : ∀ a xs,SqF K H a xs->SqF K H' a xs
structure Keep (K : PySem.W.Frag) (B : Addr->Prop) (H H' : Hp) : Prop where
  sl : ∀ a xs,¬ B a->H a=some (.lst xs)->H' a=some (.lst xs)
  st : ∀ a xs,SqT K H a xs->SqT K H' a xs
  sf : ∀ a xs,SqF K H a xs->SqF K H' a xs
  sd : ∀ a kvs,¬ B a->H a=some (.dK kvs)->H' a=some (.dK kvs)
  sx : ∀ a φ,¬ B a->H a=some (.ext φ)->H' a=some (.ext φ)
theorem Keep.i (k : Keep K B H H') : KeepI K H H':=⟨k.st,k.sf⟩
mutual
theorem Rep.keep (k : Keep K B H H') : ∀ (d : D) {v : V},Rep K H B d v->Rep K H' B d v
  | .non,_,h=>h
  | .bl _,_,h=>h
  | .int _,_,h=>h
  | .str _,_,h=>h
  | .lst ds,_,h=>by
    unfold Rep at h ⊢
    obtain ⟨a,xs,e,n,s,r⟩:=h
    exact ⟨a,xs,e,n,k.sl a xs n s,Reps.keep k ds r⟩
  | .tup ds,_,h=>by
    unfold Rep at h ⊢
    obtain ⟨a,xs,e,s,r⟩:=h
    exact ⟨a,xs,e,k.st a xs s,Reps.keep k ds r⟩
  | .scr ns,_,h=>by
    unfold Rep at h ⊢
    obtain ⟨a,e,s⟩:=h
    exact ⟨a,e,k.sf a _ s⟩
  | .dct ks ds,_,h=>by
    unfold Rep at h ⊢
    obtain ⟨a,kvs,e,n,s,q,r⟩:=h
    exact ⟨a,kvs,e,n,k.sd a kvs n s,q,Reps.keep k ds r⟩
  | .exc _,_,h=>by
    unfold Rep at h ⊢
    obtain ⟨a,C,e,n,s,r⟩:=h
    exact ⟨a,C,e,n,k.sx a _ n s,r⟩
theorem Reps.keep (k : Keep K B H H') : ∀ (ds : List D) {xs : List V},Reps K H B ds xs->Reps K H' B ds xs
  | [],_,h=>h
  | d :: ds,_,h=>by
    unfold Reps at h ⊢
    obtain ⟨x,r,e,h1,h2⟩:=h
    exact ⟨x,r,e,Rep.keep k d h1,Reps.keep k ds h2⟩
end
mutual
theorem Rep.anti (hb : ∀ a,B' a->B a) : ∀ (d : D) {v : V},Rep K H B d v->Rep K H B' d v
  | .non,_,h=>h
  | .bl _,_,h=>h
  | .int _,_,h=>h
  | .str _,_,h=>h
  | .lst ds,_,h=>by
    unfold Rep at h ⊢
    obtain ⟨a,xs,e,n,s,r⟩:=h
    exact ⟨a,xs,e,fun z=>n (hb a z),s,Reps.anti hb ds r⟩
  | .tup ds,_,h=>by
    unfold Rep at h ⊢
    obtain ⟨a,xs,e,s,r⟩:=h
    exact ⟨a,xs,e,s,Reps.anti hb ds r⟩
  | .scr _,_,h=>h
  | .dct ks ds,_,h=>by
    unfold Rep at h ⊢
    obtain ⟨a,kvs,e,n,s,q,r⟩:=h
    exact ⟨a,kvs,e,fun z=>n (hb a z),s,q,Reps.anti hb ds r⟩
  | .exc _,_,h=>by
    unfold Rep at h ⊢
    obtain ⟨a,C,e,n,r⟩:=h
    exact ⟨a,C,e,fun z=>n (hb a z),r⟩
theorem Reps.anti (hb : ∀ a,B' a->B a) : ∀ (ds : List D) {xs : List V},Reps K H B ds xs->Reps K H B' ds xs
  | [],_,h=>h
  | d :: ds,_,h=>by
    unfold Reps at h ⊢
    obtain ⟨x,r,e,h1,h2⟩:=h
    exact ⟨x,r,e,Rep.anti hb d h1,Reps.anti hb ds h2⟩
end
mutual
theorem Rep.imm : ∀ (d : D) {v : V},d.imm=true->Rep K H B d v->Rep K H B' d v
  | .non,_,_,h=>h
  | .bl _,_,_,h=>h
  | .int _,_,_,h=>h
  | .str _,_,_,h=>h
  | .lst _,_,i,_=>by unfold D.imm at i; cases i
  | .dct _ _,_,i,_=>by unfold D.imm at i; cases i
  | .exc _,_,i,_=>by unfold D.imm at i; cases i
  | .tup ds,_,i,h=>by
    unfold D.imm at i
    unfold Rep at h ⊢
    obtain ⟨a,xs,e,s,r⟩:=h
    exact ⟨a,xs,e,s,Reps.imm ds i r⟩
  | .scr _,_,_,h=>h
theorem Reps.imm : ∀ (ds : List D) {xs : List V},z1L ds=true->Reps K H B ds xs->Reps K H B' ds xs
  | [],_,_,h=>h
  | d :: ds,_,i,h=>by
    unfold z1L at i
    rw [Bool.and_eq_true] at i
    unfold Reps at h ⊢
    obtain ⟨x,r,e,h1,h2⟩:=h
    exact ⟨x,r,e,Rep.imm d i.1 h1,Reps.imm ds i.2 h2⟩
end
mutual
theorem Rep.immTree : ∀ (d : D) {v : V},d.imm=true->Rep K H B d v->Tree K H d v []
  | .non,_,_,h=>⟨h,rfl⟩
  | .bl _,_,_,h=>⟨h,rfl⟩
  | .int _,_,_,h=>⟨h,rfl⟩
  | .str _,_,_,h=>⟨h,rfl⟩
  | .lst _,_,i,_=>by unfold D.imm at i; cases i
  | .dct _ _,_,i,_=>by unfold D.imm at i; cases i
  | .exc _,_,i,_=>by unfold D.imm at i; cases i
  | .tup ds,_,i,h=>by
    unfold D.imm at i
    unfold Rep at h
    unfold Tree
    obtain ⟨a,xs,e,s,r⟩:=h
    exact ⟨a,xs,e,s,Reps.immTree ds i r⟩
  | .scr _,_,_,h=>⟨h,rfl⟩
theorem Reps.immTree : ∀ (ds : List D) {xs : List V},z1L ds=true->Reps K H B ds xs->Trees K H ds xs []
  | [],_,_,h=>⟨h,rfl⟩
  | d :: ds,_,i,h=>by
    unfold z1L at i
    rw [Bool.and_eq_true] at i
    unfold Reps at h
    unfold Trees
    obtain ⟨x,r,e,h1,h2⟩:=h
    exact ⟨x,r,[],[],e,Rep.immTree d i.1 h1,Reps.immTree ds i.2 h2,rfl⟩
end
mutual
theorem Tree.rep : ∀ (d : D) {v : V} {A : List Addr},Tree K H d v A->(∀ a∈A,¬ B a)->Rep K H B d v
  | .non,_,_,h,_=>h.1
  | .bl _,_,_,h,_=>h.1
  | .int _,_,_,h,_=>h.1
  | .str _,_,_,h,_=>h.1
  | .lst ds,_,_,h,n=>by
    unfold Tree at h
    unfold Rep
    obtain ⟨a,xs,C,e,s,r,rfl⟩:=h
    exact ⟨a,xs,e,n a List.mem_cons_self,s,Trees.rep ds r fun b hb=>n b (List.mem_cons_of_mem _ hb)⟩
  | .tup ds,_,_,h,n=>by
    unfold Tree at h
    unfold Rep
    obtain ⟨a,xs,e,s,r⟩:=h
    exact ⟨a,xs,e,s,Trees.rep ds r n⟩
  | .scr _,_,_,h,_=>h.1
  | .dct ks ds,_,_,h,n=>by
    unfold Tree at h
    unfold Rep
    obtain ⟨a,kvs,C,e,s,q,r,rfl⟩:=h
    exact ⟨a,kvs,e,n a List.mem_cons_self,s,q,Trees.rep ds r fun b hb=>n b (List.mem_cons_of_mem _ hb)⟩
  | .exc _,_,_,h,n=>by
    unfold Tree at h
    unfold Rep
    obtain ⟨a,C,e,s,r1,r2,rfl⟩:=h
    exact ⟨a,C,e,n a List.mem_cons_self,s,r1,r2⟩
theorem Trees.rep : ∀ (ds : List D) {xs : List V} {A : List Addr},Trees K H ds xs A->(∀ a∈A,¬ B a)->Reps K H B ds xs
  | [],_,_,h,_=>h.1
  | d :: ds,_,_,h,n=>by
    unfold Trees at h
    unfold Reps
    obtain ⟨x,r,C,C',e,h1,h2,rfl⟩:=h
    exact ⟨x,r,e,Tree.rep d h1 fun b hb=>n b (List.mem_append_left _ hb),Trees.rep ds h2 fun b hb=>n b (List.mem_append_right _ hb)⟩
end
mutual
theorem Tree.keep (kt : KeepI K H H') : ∀ (d : D) {v : V} {A : List Addr},Tree K H d v A->(∀ a∈A,∀ o,H a=some o->H' a=some o)->Tree K H' d v A
  | .non,_,_,h,_=>h
  | .bl _,_,_,h,_=>h
  | .int _,_,_,h,_=>h
  | .str _,_,_,h,_=>h
  | .lst ds,_,_,h,n=>by
    unfold Tree at h ⊢
    obtain ⟨a,xs,C,e,s,r,rfl⟩:=h
    exact ⟨a,xs,C,e,n a List.mem_cons_self _ s,Trees.keep kt ds r fun b hb=>n b (List.mem_cons_of_mem _ hb),rfl⟩
  | .tup ds,_,_,h,n=>by
    unfold Tree at h ⊢
    obtain ⟨a,xs,e,s,r⟩:=h
    exact ⟨a,xs,e,kt.st a xs s,Trees.keep kt ds r n⟩
  | .scr _,_,_,h,_=>by
    unfold Tree at h ⊢
    obtain ⟨⟨a,e,s⟩,q⟩:=h
    exact ⟨⟨a,e,kt.sf a _ s⟩,q⟩
  | .dct ks ds,_,_,h,n=>by
    unfold Tree at h ⊢
    obtain ⟨a,kvs,C,e,s,q,r,rfl⟩:=h
    exact ⟨a,kvs,C,e,n a List.mem_cons_self _ s,q,Trees.keep kt ds r fun b hb=>n b (List.mem_cons_of_mem _ hb),rfl⟩
  | .exc _,_,_,h,n=>by
    unfold Tree at h ⊢
    obtain ⟨a,C,e,s,r1,r2,rfl⟩:=h
    exact ⟨a,C,e,n a List.mem_cons_self _ s,r1,r2,rfl⟩
theorem Trees.keep (kt : KeepI K H H') : ∀ (ds : List D) {xs : List V} {A : List Addr},Trees K H ds xs A->(∀ a∈A,∀ o,H a=some o->H' a=some o)->Trees K H' ds xs A
  | [],_,_,h,_=>h
  | d :: ds,_,_,h,n=>by
    unfold Trees at h ⊢
    obtain ⟨x,r,C,C',e,h1,h2,rfl⟩:=h
    exact ⟨x,r,C,C',e,Tree.keep kt d h1 fun b hb=>n b (List.mem_append_left _ hb),Trees.keep kt ds h2 fun b hb=>n b (List.mem_append_right _ hb),rfl⟩
end
mutual
theorem Tree.held : ∀ (d : D) {v : V} {A : List Addr},Tree K H d v A->∀ a∈A,∃ o,H a=some o∧Mut (some o)
  | .non,_,_,h,a,ha=>by rw [h.2] at ha; cases ha
  | .bl _,_,_,h,a,ha=>by rw [h.2] at ha; cases ha
  | .int _,_,_,h,a,ha=>by rw [h.2] at ha; cases ha
  | .str _,_,_,h,a,ha=>by rw [h.2] at ha; cases ha
  | .lst ds,_,_,h,b,hb=>by
    unfold Tree at h
    obtain ⟨a,xs,C,e,s,r,rfl⟩:=h
    rcases List.mem_cons.mp hb with z | z
    · subst z; exact ⟨_,s,trivial⟩
    · exact Trees.held ds r b z
  | .tup ds,_,_,h,b,hb=>by
    unfold Tree at h
    obtain ⟨a,xs,e,s,r⟩:=h
    exact Trees.held ds r b hb
  | .scr _,_,_,h,a,ha=>by rw [h.2] at ha; cases ha
  | .dct ks ds,_,_,h,b,hb=>by
    unfold Tree at h
    obtain ⟨a,kvs,C,e,s,q,r,rfl⟩:=h
    rcases List.mem_cons.mp hb with z | z
    · subst z; exact ⟨_,s,trivial⟩
    · exact Trees.held ds r b z
  | .exc _,_,_,h,b,hb=>by
    unfold Tree at h
    obtain ⟨a,C,e,s,r1,r2,rfl⟩:=h
    rw [List.mem_singleton.mp hb]
    exact ⟨_,s,trivial⟩
theorem Trees.held : ∀ (ds : List D) {xs : List V} {A : List Addr},Trees K H ds xs A->∀ a∈A,∃ o,H a=some o∧Mut (some o)
  | [],_,_,h,a,ha=>by rw [h.2] at ha; cases ha
  | d :: ds,_,_,h,b,hb=>by
    unfold Trees at h
    obtain ⟨x,r,C,C',e,h1,h2,rfl⟩:=h
    rcases List.mem_append.mp hb with z | z
    · exact Tree.held d h1 b z
    · exact Trees.held ds h2 b z
end
theorem Same.sf (e : Same H H') {a : Addr} {xs : List V} (h : SqF K H a xs) : SqF K H' a xs:=h.elim (fun ⟨o,z⟩=>.inl ⟨o,e _ _ z⟩) .inr
theorem Keep.same (e : Same H H') : Keep K B H H':=⟨fun _ _ _ h=>e _ _ h,fun _ _ h=>e.tup h,fun _ _ h=>e.sf h,fun _ _ _ h=>e _ _ h,fun _ _ _ h=>e _ _ h⟩
theorem KeepI.same (e : Same H H') : KeepI K H H':=⟨fun _ _ h=>e.tup h,fun _ _ h=>e.sf h⟩
theorem Rep.mono {d : D} {v : V} (h : Rep K H B d v) (e : Same H H') : Rep K H' B d v:=Rep.keep (.same e) d h
theorem Reps.mono {ds : List D} {xs : List V} (h : Reps K H B ds xs) (e : Same H H') : Reps K H' B ds xs:=Reps.keep (.same e) ds h
theorem Tree.mono {d : D} {v : V} {A : List Addr} (h : Tree K H d v A) (e : Same H H') : Tree K H' d v A:=Tree.keep (.same e) d h fun a _ o z=>e a o z
theorem Trees.mono {ds : List D} {v : List V} {A : List Addr} (h : Trees K H ds v A) (e : Same H H') : Trees K H' ds v A:=Trees.keep (.same e) ds h fun a _ o z=>e a o z
mutual
theorem Rep.wide {C : Addr->Prop} (hc : ∀ a,C a->H a=none) : ∀ (d : D) {v : V},Rep K H B d v->Rep K H (fun a=>B a∨C a) d v
  | .non,_,h=>h
  | .bl _,_,h=>h
  | .int _,_,h=>h
  | .str _,_,h=>h
  | .lst ds,_,h=>by
    unfold Rep at h ⊢
    obtain ⟨a,xs,e,n,s,r⟩:=h
    refine ⟨a,xs,e,fun z=>z.elim n fun z=>?_,s,Reps.wide hc ds r⟩
    rw [hc a z] at s; cases s
  | .tup ds,_,h=>by
    unfold Rep at h ⊢
    obtain ⟨a,xs,e,s,r⟩:=h
    exact ⟨a,xs,e,s,Reps.wide hc ds r⟩
  | .scr _,_,h=>h
  | .dct ks ds,_,h=>by
    unfold Rep at h ⊢
    obtain ⟨a,kvs,e,n,s,q,r⟩:=h
    refine ⟨a,kvs,e,fun z=>z.elim n fun z=>?_,s,q,Reps.wide hc ds r⟩
    rw [hc a z] at s; cases s
  | .exc _,_,h=>by
    unfold Rep at h ⊢
    obtain ⟨a,C,e,n,s,r⟩:=h
    refine ⟨a,C,e,fun z=>z.elim n fun z=>?_,s,r⟩
    rw [hc a z] at s; cases s
theorem Reps.wide {C : Addr->Prop} (hc : ∀ a,C a->H a=none) : ∀ (ds : List D) {xs : List V},Reps K H B ds xs->Reps K H (fun a=>B a∨C a) ds xs
  | [],_,h=>h
  | d :: ds,_,h=>by
    unfold Reps at h ⊢
    obtain ⟨x,r,e,h1,h2⟩:=h
    exact ⟨x,r,e,Rep.wide hc d h1,Reps.wide hc ds h2⟩
end
theorem Keep.upd {a : Addr} {o : HO} (hb : B a) (mu : Mut (H a)) : Keep K B H (upd H a o):=by
  refine ⟨fun b xs n h=>?_,fun b xs h=>?_,fun b xs h=>?_,fun b kvs n h=>?_,fun b φ n h=>?_⟩
  · have ne : b≠a:=fun z=>n (z ▸ hb)
    rw [z0q ne]; exact h
  · rcases h with (h | ⟨u,h⟩) | h
    · have ne : b≠a:=fun z=>by subst z; rw [h] at mu; exact mu
      exact .inl (.inl (by rw [z0q ne]; exact h))
    · have ne : b≠a:=fun z=>by subst z; rw [h] at mu; exact mu
      exact .inl (.inr ⟨u,by rw [z0q ne]; exact h⟩)
    · exact .inr h
  · rcases h with ⟨u,h⟩ | h
    · have ne : b≠a:=fun z=>by subst z; rw [h] at mu; exact mu
      exact .inl ⟨u,by rw [z0q ne]; exact h⟩
    · exact .inr h
  · have ne : b≠a:=fun z=>n (z ▸ hb)
    rw [z0q ne]; exact h
  · have ne : b≠a:=fun z=>n (z ▸ hb)
    rw [z0q ne]; exact h
theorem z0t {a : Addr} {o : HO} (h : H a=none) : Same H (upd H a o):=fun b u e=>by rw [z0q (z1e e h)]; exact e
theorem Reps.length : ∀ {ds : List D} {xs : List V},Reps K H B ds xs->ds.length=xs.length
  | [],_,h=>by unfold Reps at h; subst h; rfl
  | d :: ds,_,h=>by
    unfold Reps at h
    obtain ⟨x,r,rfl,_,h2⟩:=h
    simp [Reps.length h2]
theorem Reps.get : ∀ {ds : List D} {xs : List V} {i : Nat} {d : D},Reps K H B ds xs->ds[i]? = some d->∃ x,xs[i]? = some x∧Rep K H B d x
  | [],_,_,_,_,e=>by simp at e
  | d :: ds,_,i,d',h,e=>by
    unfold Reps at h
    obtain ⟨x,r,rfl,h1,h2⟩:=h
    cases i with
    | zero=>simp at e; subst e; exact ⟨x,rfl,h1⟩
    | succ i=>simpa using Reps.get (i:=i) h2 (by simpa using e)
theorem Reps.get' : ∀ {ds : List D} {xs : List V} {i : Nat} {x : V},Reps K H B ds xs->xs[i]? = some x->∃ d,ds[i]? = some d∧Rep K H B d x
  | [],_,_,_,h,e=>by unfold Reps at h; subst h; simp at e
  | d :: ds,_,i,x',h,e=>by
    unfold Reps at h
    obtain ⟨x,r,rfl,h1,h2⟩:=h
    cases i with
    | zero=>simp at e; subst e; exact ⟨d,rfl,h1⟩
    | succ i=>simpa using Reps.get' (i:=i) h2 (by simpa using e)
theorem Reps.append : ∀ {ds es : List D} {xs ys : List V},Reps K H B ds xs->Reps K H B es ys->Reps K H B (ds ++ es) (xs ++ ys)
  | [],_,_,_,h,h'=>by unfold Reps at h; subst h; exact h'
  | d :: ds,es,_,ys,h,h'=>by
    unfold Reps at h
    obtain ⟨x,r,rfl,h1,h2⟩:=h
    exact (show Reps K H B (d :: (ds ++ es)) (x :: (r ++ ys)) by unfold Reps; exact ⟨x,r ++ ys,rfl,h1,Reps.append h2 h'⟩)
theorem Reps.one {d : D} {x : V} (h : Rep K H B d x) : Reps K H B [d] [x]:=by unfold Reps; exact ⟨x,[],rfl,h,by unfold Reps; rfl⟩
theorem Reps.nil : Reps K H B [] []:=by unfold Reps; rfl
theorem Reps.cons {d : D} {x : V} {ds : List D} {xs : List V} (h : Rep K H B d x) (h' : Reps K H B ds xs) : Reps K H B (d :: ds) (x :: xs):=by unfold Reps; exact ⟨x,xs,rfl,h,h'⟩
theorem Reps.snoc {d : D} {x : V} {ds : List D} {xs : List V} (h' : Reps K H B ds xs) (h : Rep K H B d x) : Reps K H B (ds ++ [d]) (xs ++ [x]):=h'.append (.one h)
theorem Trees.nil : Trees K H [] [] []:=⟨rfl,rfl⟩
theorem Trees.snoc : ∀ {ds : List D} {xs : List V} {A C : List Addr} {d : D} {x : V},Trees K H ds xs A->Tree K H d x C->Trees K H (ds ++ [d]) (xs ++ [x]) (A ++ C)
  | [],_,_,C,d,x,h,h'=>by
    obtain ⟨rfl,rfl⟩:=h
    exact (show Trees K H [d] [x] C by unfold Trees; exact ⟨x,[],C,[],rfl,h',⟨rfl,rfl⟩,(List.append_nil _).symm⟩)
  | e :: ds,_,_,C,d,x,h,h'=>by
    unfold Trees at h
    obtain ⟨y,r,A1,A2,rfl,h1,h2,rfl⟩:=h
    exact (show Trees K H (e :: (ds ++ [d])) (y :: (r ++ [x])) (A1 ++ A2 ++ C) by unfold Trees; exact ⟨y,_,A1,A2 ++ C,rfl,h1,Trees.snoc h2 h',List.append_assoc _ _ _⟩)
end
end L2
namespace L2
open PySem PySem.Spec PyProof.Rows
noncomputable abbrev DS:=List (Option D)
noncomputable abbrev DE:=DS->Option D
structure RepS (K : PySem.W.Frag) (H : Hp) (B : Addr->Prop) (σ : St) (δ : DS) : Prop where
  len : δ.length=σ.length
  get : ∀ (i : Nat) (d : D),δ[i]? = some (some d)->∃ v,σ[i]? = some (some v)∧Rep K H B d v
noncomputable def InB (B : Addr->Prop) (H : Hp) : Prop:=∀ a,B a->∃ o,H a=some o
noncomputable def noB : Addr->Prop:=fun _=>False
theorem InB.mono {B : Addr->Prop} {H H' : Hp} (h : InB B H) (e : Same H H') : InB B H':=fun a b=>let ⟨o,q⟩:=h a b; ⟨o,e a o q⟩
theorem InB.no {H : Hp} : InB noB H:=fun _ b=>b.elim
theorem InB.fresh {B : Addr->Prop} {H : Hp} (h : InB B H) {a : Addr} (e : H a=none) : ¬ B a:=fun b=>by
  obtain ⟨o,q⟩:=h a b
  rw [e] at q; cases q
theorem RepS.mono {K : PySem.W.Frag} {H H' : Hp} {B : Addr->Prop} {σ : St} {δ : DS} (h : RepS K H B σ δ) (e : Same H H') : RepS K H' B σ δ:=
  ⟨h.len,fun i d q=>let ⟨v,a,r⟩:=h.get i d q; ⟨v,a,r.mono e⟩⟩
theorem RepS.anti {K : PySem.W.Frag} {H : Hp} {B B' : Addr->Prop} {σ : St} {δ : DS} (h : RepS K H B σ δ) (e : ∀ a,B' a->B a) : RepS K H B' σ δ:=
  ⟨h.len,fun i d q=>let ⟨v,a,r⟩:=h.get i d q; ⟨v,a,r.anti e⟩⟩
noncomputable def tD (K : PySem.W.Frag) (f : DE) : TE:=fun σ H Q=>∃ B δ d,InB B H∧RepS K H B σ δ∧f δ=some d∧∀ v H',Same H H'->Rep K H' B d v->Q v H'
noncomputable def tF (K : PySem.W.Frag) (f : DS->Option (List D)) : TE:=fun σ H Q=>∃ B δ ds,InB B H∧RepS K H B σ δ∧f δ=some ds ∧
  ∀ a xs H',Same H H'->H a=none->H' a=some (.lst xs)->Reps K H' B ds xs->Q (.ref a) H'
noncomputable def tN (K : PySem.W.Frag) (f : DE) : TE:=fun σ H Q=>∃ δ d,RepS K H noB σ δ∧f δ=some d∧∀ v H' A,Same H H'->Tree K H' d v A->A.Nodup->(∀ a∈A,H a=none)->Q v H'
noncomputable def tT (K : PySem.W.Frag) (f : DS->Option Bool) : TT:=fun σ H Q=>∃ B δ b,InB B H∧RepS K H B σ δ∧f δ=some b∧∀ H',Same H H'->Q b H'
noncomputable def tDs (K : PySem.W.Frag) (f : DS->Option (List D)) : TA:=fun σ H Q=>∃ B δ ds,InB B H∧RepS K H B σ δ∧f δ=some ds∧∀ vs H',Same H H'->Reps K H' B ds vs->Q vs H'
noncomputable abbrev PD (X : Cx) (e : Expr) (f : DE) : Prop:=PE X e (tD X.K f)
noncomputable abbrev PF (X : Cx) (e : Expr) (f : DS->Option (List D)) : Prop:=PE X e (tF X.K f)
noncomputable abbrev PN (X : Cx) (e : Expr) (f : DE) : Prop:=PE X e (tN X.K f)
noncomputable abbrev PTD (X : Cx) (e : Expr) (f : DS->Option Bool) : Prop:=PT X e (tT X.K f)
noncomputable abbrev PWD (X : Cx) (e : Expr) (f : DS->Option Bool) : Prop:=PW X e (tT X.K f)
section
variable {X : Cx} {e a b c : Expr} {es : List Expr} {pos : Pos}
theorem PE.imp {t t' : TE} (h : PE X e t) (w : ∀ σ H Q,t' σ H Q->t σ H Q) : PE X e t':=fun pins s σ H Q I q=>h pins s σ H Q I (w σ H Q q)
theorem PT.imp {t t' : TT} (h : PT X e t) (w : ∀ σ H Q,t' σ H Q->t σ H Q) : PT X e t':=fun pins s σ H Q I q=>h pins s σ H Q I (w σ H Q q)
theorem PW.imp {t t' : TT} (h : PW X e t) (w : ∀ σ H Q,t' σ H Q->t σ H Q) : PW X e t':=fun wh pins s σ H Q I q=>h wh pins s σ H Q I (w σ H Q q)
theorem PA.imp {t t' : TA} (h : PA X es t) (w : ∀ σ H Q,t' σ H Q->t σ H Q) : PA X es t':=fun po pins s σ H Q I q=>h po pins s σ H Q I (w σ H Q q)
noncomputable def mkL (f : DS->Option (List D)) : DE:=fun δ=>(f δ).map .lst
noncomputable def z0x (f : DS->Option (List D)) : DE:=fun δ=>(f δ).bind fun ds=>if z1L ds=true then some (.lst ds) else none
theorem iDF {K : PySem.W.Frag} {f : DS->Option (List D)} : ∀ σ H Q,tD K (mkL f) σ H Q->tF K f σ H Q:=fun σ H Q z_=>by
  obtain ⟨B,δ,d,hB,S,q,k⟩:=z_
  unfold mkL at q
  cases r : f δ with
  | none=>rw [r] at q; cases q
  | some ds=>
    rw [r] at q
    cases q
    exact ⟨B,δ,ds,hB,S,r,fun a xs H' s hn ha hr=>k _ H' s (by unfold Rep; exact ⟨a,xs,rfl,hB.fresh hn,ha,hr⟩)⟩
theorem iDN {K : PySem.W.Frag} {f : DE} : ∀ σ H Q,tD K f σ H Q->tN K f σ H Q:=fun σ H Q ⟨B,δ,d,hB,S,q,k⟩=>
  ⟨δ,d,S.anti (fun _ z=>z.elim),q,fun v H' A s t nd fr=>k v H' s (t.rep d fun a ha=>hB.fresh (fr a ha))⟩
theorem iNF {K : PySem.W.Frag} {f : DS->Option (List D)} : ∀ σ H Q,tN K (z0x f) σ H Q->tF K f σ H Q:=fun σ H Q z_=>by
  obtain ⟨δ,d,S,q,k⟩:=z_
  unfold z0x at q
  cases r : f δ with
  | none=>rw [r] at q; cases q
  | some ds=>
    rw [r] at q
    have q' : (if z1L ds=true then some (D.lst ds) else none)=some d:=q
    split at q'
    · rename_i hi
      cases q'
      refine ⟨noB,δ,ds,.no,S,r,fun a xs H' s hn ha hr=>k (.ref a) H' [a] s ?_ (List.nodup_cons.mpr ⟨(fun z=>nomatch z),List.nodup_nil⟩) (fun b hb=>by rw [List.mem_singleton.mp hb]; exact hn)⟩
      unfold Tree
      exact ⟨a,xs,[],rfl,ha,hr.immTree ds hi,rfl⟩
    · cases q'
theorem y5z {f : DS->Option (List D)} (h : PF X e f) : PD X e (mkL f):=h.imp iDF
theorem z3T {f : DE} (h : PN X e f) : PD X e f:=h.imp iDN
theorem z3W {f : DS->Option (List D)} (h : PF X e f) : PN X e (z0x f):=h.imp iNF
noncomputable def z0e (i : Nat) : DE:=fun δ=>(δ[i]?).bind id
noncomputable def dC (d : D) : DE:=fun _=>some d
theorem z0g (i : Nat) {x : Str} {p : Pos} (h : PE X (.Name x p) (z7K i)) : PD X (.Name x p) (z0e i):=h.imp fun σ H Q z_=>by
  obtain ⟨B,δ,d,hB,S,q,k⟩:=z_
  unfold z0e at q
  cases r : δ[i]? with
  | none=>rw [r] at q; cases q
  | some o=>
    rw [r] at q
    have q' : o=some d:=q
    subst q'
    obtain ⟨v,e,rv⟩:=S.get i d r
    exact ⟨v,e,k v H (.refl H) rv⟩
theorem pd_C {d : D} {v : V} (h : PE X e (tC v)) (r : ∀ K H B,Rep K H B d v) : PD X e (dC d):=h.imp fun σ H Q z_=>by
  obtain ⟨B,δ,d',hB,S,q,k⟩:=z_
  cases q
  exact k v H (.refl H) (r _ _ _)
theorem z0j {i j p} : PD X (.Constant (.int i) j p) (dC (.int i)):=pd_C pe_int fun _ _ _=>rfl
theorem y0N {i j p} : PD X (.Constant (.bool i) j p) (dC (.bl i)):=pd_C pe_bl fun _ _ _=>rfl
theorem y3h {i j p} : PD X (.Constant (.str i) j p) (dC (.str i)):=pd_C pe_str fun _ _ _=>rfl
noncomputable def d2 (F : D->D->Option D) (f g : DE) : DE:=fun δ=>(f δ).bind fun x=>(g δ).bind fun y=>F x y
theorem z8p {F : D->D->Option D} {f g : DE} {δ : DS} {d : D} (h : d2 F f g δ=some d) : ∃ x y,f δ=some x∧g δ=some y∧F x y=some d:=by
  unfold d2 at h
  cases hx : f δ with
  | none=>rw [hx] at h; cases h
  | some x=>
    rw [hx] at h
    cases hy : g δ with
    | none=>
      have h' : ((g δ).bind fun y=>F x y)=some d:=h
      rw [hy] at h'; cases h'
    | some y=>
      have h' : ((g δ).bind fun y=>F x y)=some d:=h
      rw [hy] at h'
      exact ⟨x,y,rfl,rfl,h'⟩
noncomputable def Op2 (K : PySem.W.Frag) (r : R2) (F : D->D->Option D) : Prop:=∀ (H : Hp) (B : Addr->Prop) (dx dy d : D) (x y : V) (Q : VK),InB B H->Rep K H B dx x->Rep K H B dy y->F dx dy=some d->(∀ v H',Same H H'->Rep K H' B d v->Q v H')->r x y H Q
theorem z9E {r : R2} {F : D->D->Option D} {f g : DE} (ho : Op2 X.K r F) (σ : St) (H : Hp) (Q : VK) (h : tD X.K (d2 F f g) σ H Q) : tOp r (tD X.K f) (tD X.K g) σ H Q:=by
  obtain ⟨B,δ,d,hB,S,q,k⟩:=h
  obtain ⟨dx,dy,e1,e2,e3⟩:=z8p q
  exact ⟨B,δ,dx,hB,S,e1,fun v H1 s1 r1=>⟨B,δ,dy,hB.mono s1,S.mono s1,e2,fun u H2 s2 r2=>
    ho H2 B dx dy d v u Q ((hB.mono s1).mono s2) (r1.mono s2) r2 e3 fun z H' s' rz=>k z H' ((s1.trans s2).trans s') rz⟩⟩
theorem y3f {op : Operator} {r : R2} {F : D->D->Option D} {f g : DE} (ho : OpR X (binaryOp op) r) (hD : Op2 X.K r F) (ha : PD X a f) (hb : PD X b g) : PD X (.BinOp a op b pos) (d2 F f g):=(pe_op ho ha hb).imp (z9E hD)
theorem pd_cmp {op : CmpOp} {r : R2} {F : D->D->Option D} {f g : DE} (ho : OpR X (compareOp op) r) (hD : Op2 X.K r F) (ha : PD X a f) (hb : PD X b g) (hm : behindInMarks op b=false) : PD X (.Compare a [op] [b] pos) (d2 F f g):=(pe_cmpR ho ha hb hm).imp (z9E hD)
noncomputable def z1o (f : DE) : DS->Option Bool:=fun δ=>match f δ with
  | some (.bl b)=>some b
  | _=>none
theorem y0B {f : DE} {δ : DS} {b : Bool} (h : z1o f δ=some b) : f δ=some (.bl b):=by
  unfold z1o at h
  split at h
  · rename_i b' e
    cases h; exact e
  · cases h
theorem test_of {t : TE} {f : DE} (h : ∀ σ H Q,tD X.K f σ H Q->t σ H Q) (σ : St) (H : Hp) (Q : Bool->Hp->Prop) (q : tT X.K (z1o f) σ H Q) : tTest t σ H Q:=by
  obtain ⟨B,δ,b,hB,S,q,k⟩:=q
  refine h σ H _ ⟨B,δ,.bl b,hB,S,y0B q,fun v H' s r=>?_⟩
  exact ⟨b,r,k H' s⟩
theorem z4b {op : CmpOp} {r : R2} {F : D->D->Option D} {f g : DE} (ho : OpR X (compareOp op) r) (hD : Op2 X.K r F) (ha : PD X a f) (hb : PD X b g) (hm : behindInMarks op b=false) : PTD X (.Compare a [op] [b] pos) (z1o (d2 F f g)):=(pt_cmpR ho ha hb hm).imp (test_of (z9E hD))
noncomputable def z5Z (F G : D->D->Option D) (f g h : DE) : DE:=fun δ=>(f δ).bind fun x=>(g δ).bind fun y=>match F x y with
  | some (.bl true)=>(h δ).bind fun z=>G y z
  | some (.bl false)=>some (.bl false)
  | _=>none
theorem y5j {r r' : R2} {F G : D->D->Option D} {f g h : DE} (ho : Op2 X.K r F) (ho' : Op2 X.K r' G) (σ : St) (H : Hp) (Q : VK) (q : tD X.K (z5Z F G f g h) σ H Q) : y5K r r' (tD X.K f) (tD X.K g) (tD X.K h) σ H Q:=by
  obtain ⟨B,δ,d,hB,S,q,k⟩:=q
  unfold z5Z at q
  cases e1 : f δ with
  | none=>rw [e1] at q; cases q
  | some x=>
    rw [e1] at q
    cases e2 : g δ with
    | none=>
      have q' : ((g δ).bind _)=some d:=q
      rw [e2] at q'; cases q'
    | some y=>
      have q' : ((g δ).bind _)=some d:=q
      rw [e2] at q'
      have q2 : (match F x y with | some (.bl true)=>(h δ).bind fun z=>G y z | some (.bl false)=>some (.bl false) | _=>none)=some d:=q'
      refine ⟨B,δ,x,hB,S,e1,fun v H1 s1 r1=>⟨B,δ,y,hB.mono s1,S.mono s1,e2,fun u H2 s2 r2=>?_⟩⟩
      split at q2
      · rename_i e3
        refine ho H2 B x y _ v u _ ((hB.mono s1).mono s2) (r1.mono s2) r2 e3 fun z H3 s3 r3=>⟨true,r3,?_⟩
        rw [if_pos rfl]
        cases e4 : h δ with
        | none=>rw [e4] at q2; cases q2
        | some w=>
          rw [e4] at q2
          have q4 : G y w=some d:=q2
          refine ⟨B,δ,w,((hB.mono s1).mono s2).mono s3,((S.mono s1).mono s2).mono s3,e4,fun t H4 s4 r4=>?_⟩
          exact ho' H4 B y w d u t Q ((((hB.mono s1).mono s2).mono s3).mono s4) ((r2.mono s3).mono s4) r4 q4 fun z' H' s' rz=>k z' H' ((((s1.trans s2).trans s3).trans s4).trans s') rz
      · rename_i e3
        cases q2
        refine ho H2 B x y _ v u _ ((hB.mono s1).mono s2) (r1.mono s2) r2 e3 fun z H3 s3 r3=>⟨false,r3,?_⟩
        rw [if_neg Bool.false_ne_true]
        exact k _ H3 ((s1.trans s2).trans s3) rfl
      · cases q2
theorem y4T {op op' : CmpOp} {r r' : R2} {F G : D->D->Option D} {f g h : DE} (ho : OpR X (compareOp op) r) (ho' : OpR X (compareOp op') r') (hF : Op2 X.K r F) (hG : Op2 X.K r' G) (ha : PD X a f) (hb : PD X b g) (hc : PD X c h)
    (hm : lastMarks [op,op'] [b,c]=false:=by with_unfolding_all rfl) : PD X (.Compare a [op,op'] [b,c] pos) (z5Z F G f g h):=(y4l ho ho' ha hb hc hm).imp (y5j hF hG)
noncomputable def iop (F : Int->Int->Option D) : D->D->Option D
  | .int i,.int j=>F i j
  | _,_=>none
theorem z6H {F : Int->Int->Option D} {x y d : D} (h : iop F x y=some d) : ∃ i j,x = .int i∧y = .int j∧F i j=some d:=by
  unfold iop at h
  split at h
  · exact ⟨_,_,rfl,rfl,h⟩
  · cases h
theorem y2a {K : PySem.W.Frag} {C : Int->Int->Prop} [∀ i j,Decidable (C i j)] {g : Int->Int->Int} : Op2 K (rI C fun i j=>.int (g i j)) (iop fun i j=>if C i j then some (.int (g i j)) else none):=by
  intro H B dx dy d x y Q hB hx hy q k
  obtain ⟨i,j,rfl,rfl,q2⟩:=z6H q
  by_cases hc : C i j
  · rw [if_pos hc] at q2
    cases q2
    exact ⟨i,j,hx,hy,hc,k _ H (.refl H) rfl⟩
  · rw [if_neg hc] at q2
    cases q2
theorem y2H {K : PySem.W.Frag} {g : Int->Int->Int} : Op2 K (rI0 fun i j=>.int (g i j)) (iop fun i j=>some (.int (g i j))):=by
  intro H B dx dy d x y Q hB hx hy q k
  obtain ⟨i,j,rfl,rfl,q2⟩:=z6H q
  cases q2
  exact ⟨i,j,hx,hy,k _ H (.refl H) rfl⟩
theorem z4H {K : PySem.W.Frag} {g : Int->Int->Bool} : Op2 K (rI0 fun i j=>.bl (g i j)) (iop fun i j=>some (.bl (g i j))):=by
  intro H B dx dy d x y Q hB hx hy q k
  obtain ⟨i,j,rfl,rfl,q2⟩:=z6H q
  cases q2
  exact ⟨i,j,hx,hy,k _ H (.refl H) rfl⟩
noncomputable def d1 (F : D->Option D) (f : DE) : DE:=fun δ=>(f δ).bind F
theorem y1B {F : D->Option D} {f : DE} {δ : DS} {d : D} (h : d1 F f δ=some d) : ∃ x,f δ=some x∧F x=some d:=by
  unfold d1 at h
  cases hx : f δ with
  | none=>rw [hx] at h; cases h
  | some x=>rw [hx] at h; exact ⟨x,rfl,h⟩
noncomputable def uNeg : D->Option D
  | .int i=>some (.int (-i))
  | _=>none
theorem pd_neg {f : DE} (h : PD X a f) : PD X (.UnaryOp .USub a pos) (d1 uNeg f):=(pe_un un_neg h).imp fun σ H Q z_=>by
  obtain ⟨B,δ,d,hB,S,q,k⟩:=z_
  obtain ⟨x,e1,e2⟩:=y1B q
  refine ⟨B,δ,x,hB,S,e1,fun v H' s r=>?_⟩
  unfold uNeg at e2
  split at e2
  · cases e2
    exact ⟨_,r,k _ H' s rfl⟩
  · cases e2
noncomputable def z7x : D->Option Bool
  | .non=>some false
  | .bl b=>some b
  | .int i=>some (i != 0)
  | .str x=>if x.length≤sizeLine then some ((x.length : Int) != 0) else none
  | .lst ds=>some (!ds.isEmpty)
  | .tup ds=>some (!ds.isEmpty)
  | .scr ns=>some (!ns.isEmpty)
  | .dct ks _=>some (!ks.isEmpty)
  | .exc _=>none
noncomputable def z1Y (f : DE) : DS->Option Bool:=fun δ=>(f δ).bind z7x
theorem z9J {K : PySem.W.Frag} {H : Hp} {B : Addr->Prop} {ds : List D} {xs : List V} (h : Reps K H B ds xs) : (!ds.isEmpty) = !xs.isEmpty:=by
  have:=h.length
  cases ds <;> cases xs <;> simp_all
theorem y1J {K : PySem.W.Frag} {H : Hp} {B : Addr->Prop} {d : D} {v : V} {k : Bool} (h : Rep K H B d v) (e : z7x d=some k) : TruV K v H k:=by
  cases d with
  | non=>cases h; cases e; rfl
  | bl b=>cases h; cases e; rfl
  | int i=>cases h; cases e; rfl
  | str x=>
    cases h
    have e' : (if x.length≤sizeLine then some ((x.length : Int) != 0) else none)=some k:=e
    by_cases hl : x.length≤sizeLine
    · rw [if_pos hl] at e'
      cases e'
      exact ⟨hl,rfl⟩
    · rw [if_neg hl] at e'
      cases e'
  | lst ds=>
    unfold Rep at h
    obtain ⟨a,xs,rfl,_,s,r⟩:=h
    cases e
    exact .inl ⟨xs,SqL.of s,z9J r⟩
  | tup ds=>
    unfold Rep at h
    obtain ⟨a,xs,rfl,s,r⟩:=h
    cases e
    exact .inr (.inl ⟨xs,s,z9J r⟩)
  | scr ns=>
    unfold Rep at h
    obtain ⟨a,rfl,s⟩:=h
    cases e
    exact .inl ⟨_,s.sq,by cases ns <;> rfl⟩
  | dct ks ds=>
    unfold Rep at h
    obtain ⟨a,kvs,rfl,_,s,q,r⟩:=h
    cases e
    refine .inr (.inr ⟨kvs,s,?_⟩)
    rw [← q]
    cases kvs <;> rfl
  | exc _=>cases e
theorem z1J {f : DE} (h : PD X a f) (he : ∀ whole,isTrue a X.env whole=(do let v ← whole; standAt a.pos; holding [v] (truthy v)):=by intro _; rfl) : PTD X a (z1Y f):=(y3I h he).imp fun σ H Q z_=>by
  obtain ⟨B,δ,k,hB,S,q,kk⟩:=z_
  unfold z1Y at q
  cases e : f δ with
  | none=>rw [e] at q; cases q
  | some d=>
    rw [e] at q
    exact ⟨B,δ,d,hB,S,e,fun v H' s r=>⟨k,y1J r q,kk H' s⟩⟩
noncomputable def y0W (f g : DS->Option Bool) : DS->Option Bool:=fun δ=>(f δ).bind fun c=>if c=true then g δ else some false
noncomputable def dOrT (f g : DS->Option Bool) : DS->Option Bool:=fun δ=>(f δ).bind fun c=>if c=true then some true else g δ
noncomputable def z6q (f : DS->Option Bool) : DS->Option Bool:=fun δ=>(f δ).map (!·)
theorem y4V {f : DS->Option Bool} (h : PTD X a f) : PWD X (.BoolOp .And [a] pos) f:=pw_and1 h
theorem y0S {f : DS->Option Bool} (h : PTD X a f) : PWD X (.BoolOp .Or [a] pos) f:=pw_or1 h
theorem pw_andD {rest : List Expr} {f g : DS->Option Bool} (ha : PTD X a f) (hb : PWD X (.BoolOp .And (b :: rest) pos) g) : PWD X (.BoolOp .And (a :: b :: rest) pos) (y0W f g):=(pw_and ha hb).imp fun σ H Q z_=>by
  obtain ⟨B,δ,k,hB,S,q,kk⟩:=z_
  unfold y0W at q
  cases e : f δ with
  | none=>rw [e] at q; cases q
  | some c=>
    rw [e] at q
    refine ⟨B,δ,c,hB,S,e,fun H1 s1=>?_⟩
    have q' : (if c=true then g δ else some false)=some k:=q
    cases c with
    | true=>
      rw [if_pos rfl] at q'
      refine iteT ?_
      exact ⟨B,δ,k,hB.mono s1,S.mono s1,q',fun H2 s2=>kk H2 (s1.trans s2)⟩
    | false=>
      rw [if_neg Bool.false_ne_true] at q'
      refine iteF ?_
      cases q'
      exact kk H1 s1
theorem y5T {rest : List Expr} {f g : DS->Option Bool} (ha : PTD X a f) (hb : PWD X (.BoolOp .Or (b :: rest) pos) g) : PWD X (.BoolOp .Or (a :: b :: rest) pos) (dOrT f g):=(pw_or ha hb).imp fun σ H Q z_=>by
  obtain ⟨B,δ,k,hB,S,q,kk⟩:=z_
  unfold dOrT at q
  cases e : f δ with
  | none=>rw [e] at q; cases q
  | some c=>
    rw [e] at q
    refine ⟨B,δ,c,hB,S,e,fun H1 s1=>?_⟩
    have q' : (if c=true then some true else g δ)=some k:=q
    cases c with
    | true=>
      rw [if_pos rfl] at q'
      refine iteT ?_
      cases q'
      exact kk H1 s1
    | false=>
      rw [if_neg Bool.false_ne_true] at q'
      refine iteF ?_
      exact ⟨B,δ,k,hB.mono s1,S.mono s1,q',fun H2 s2=>kk H2 (s1.trans s2)⟩
theorem z5p {f : DS->Option Bool} (h : PTD X a f) : PTD X (.UnaryOp .Not a pos) (z6q f):=(pt_not h).imp fun σ H Q z_=>by
  obtain ⟨B,δ,k,hB,S,q,kk⟩:=z_
  unfold z6q at q
  cases e : f δ with
  | none=>rw [e] at q; cases q
  | some c=>
    rw [e] at q
    cases q
    exact ⟨B,δ,c,hB,S,e,kk⟩
noncomputable def dAnd (f g : DE) : DE:=fun δ=>match f δ with
  | some (.bl true)=>g δ
  | some (.bl false)=>some (.bl false)
  | _=>none
noncomputable def dOr (f g : DE) : DE:=fun δ=>match f δ with
  | some (.bl true)=>some (.bl true)
  | some (.bl false)=>g δ
  | _=>none
noncomputable def uNot : D->Option D
  | .bl b=>some (.bl (!b))
  | _=>none
theorem y3g {op} {f : DE} (h : PD X a f) : PD X (.BoolOp op [a] pos) f:=pe_one h
theorem y5U {rest : List Expr} {f g : DE} (ha : PD X a f) (hb : PD X (.BoolOp .And (b :: rest) pos) g) : PD X (.BoolOp .And (a :: b :: rest) pos) (dAnd f g):=(pe_and ha hb).imp fun σ H Q z_=>by
  obtain ⟨B,δ,d,hB,S,q,k⟩:=z_
  unfold dAnd at q
  split at q
  · rename_i e
    refine ⟨B,δ,.bl true,hB,S,e,fun v H1 s1 r=>⟨true,r,?_⟩⟩
    rw [if_pos rfl]
    exact ⟨B,δ,d,hB.mono s1,S.mono s1,q,fun v2 H2 s2 r2=>k v2 H2 (s1.trans s2) r2⟩
  · rename_i e
    cases q
    refine ⟨B,δ,.bl false,hB,S,e,fun v H1 s1 r=>⟨false,r,?_⟩⟩
    rw [if_neg Bool.false_ne_true]
    exact k _ H1 s1 rfl
  · cases q
theorem pd_or {rest : List Expr} {f g : DE} (ha : PD X a f) (hb : PD X (.BoolOp .Or (b :: rest) pos) g) : PD X (.BoolOp .Or (a :: b :: rest) pos) (dOr f g):=(pe_or ha hb).imp fun σ H Q z_=>by
  obtain ⟨B,δ,d,hB,S,q,k⟩:=z_
  unfold dOr at q
  split at q
  · rename_i e
    cases q
    refine ⟨B,δ,.bl true,hB,S,e,fun v H1 s1 r=>⟨true,r,?_⟩⟩
    rw [if_pos rfl]
    exact k _ H1 s1 rfl
  · rename_i e
    refine ⟨B,δ,.bl false,hB,S,e,fun v H1 s1 r=>⟨false,r,?_⟩⟩
    rw [if_neg Bool.false_ne_true]
    exact ⟨B,δ,d,hB.mono s1,S.mono s1,q,fun v2 H2 s2 r2=>k v2 H2 (s1.trans s2) r2⟩
  · cases q
theorem y6b {f : DE} (h : PD X a f) : PD X (.UnaryOp .Not a pos) (d1 uNot f):=(pe_not h).imp fun σ H Q z_=>by
  obtain ⟨B,δ,d,hB,S,q,k⟩:=z_
  obtain ⟨x,e1,e2⟩:=y1B q
  refine ⟨B,δ,x,hB,S,e1,fun v H' s r=>?_⟩
  unfold uNot at e2
  split at e2
  · cases e2
    exact ⟨_,r,k _ H' s rfl⟩
  · cases e2
noncomputable def z0u : List DE->DS->Option (List D)
  | [],_=>some []
  | f :: r,δ=>(f δ).bind fun x=>(z0u r δ).bind fun xs=>some (x :: xs)
theorem z5O {f : DE} {r : List DE} {δ : DS} {ds : List D} (h : z0u (f :: r) δ=some ds) : ∃ x xs,f δ=some x∧z0u r δ=some xs∧ds=x :: xs:=by
  unfold z0u at h
  cases hx : f δ with
  | none=>rw [hx] at h; cases h
  | some x=>
    rw [hx] at h
    have h' : ((z0u r δ).bind fun xs=>some (x :: xs))=some ds:=h
    cases hy : z0u r δ with
    | none=>rw [hy] at h'; cases h'
    | some xs=>
      rw [hy] at h'
      cases h'
      exact ⟨x,xs,rfl,rfl,rfl⟩
theorem z3b : ∀ {fl : List DE} {δ : DS} {ds : List D},z0u fl δ=some ds->ds.length=fl.length
  | [],_,_,h=>by cases h; rfl
  | f :: r,δ,ds,h=>by
    obtain ⟨x,xs,_,e,rfl⟩:=z5O h
    simp [z3b e]
noncomputable abbrev PAD (X : Cx) (es : List Expr) (fl : List DE) : Prop:=PA X es (tDs X.K (z0u fl))
theorem z0c : PAD X [] []:=pa_nil.imp fun σ H Q z_=>by
  obtain ⟨B,δ,ds,hB,S,q,k⟩:=z_
  cases q
  exact k [] H (.refl H) .nil
theorem z0a {f : DE} {fl : List DE} (ha : PD X e f) (hr : PAD X es fl) (hs : starEach (e :: es) X.env=(false,eval e X.env) :: starEach es X.env:=by rfl) : PAD X (e :: es) (f :: fl):=(z2a ha hr hs).imp fun σ H Q z_=>by
  obtain ⟨B,δ,ds,hB,S,q,k⟩:=z_
  obtain ⟨x,xs,e1,e2,rfl⟩:=z5O q
  exact ⟨B,δ,x,hB,S,e1,fun v H1 s1 r1=>⟨B,δ,xs,hB.mono s1,S.mono s1,e2,fun vs H2 s2 r2=>k (v :: vs) H2 (s1.trans s2) (.cons (r1.mono s2) r2)⟩⟩
theorem z1i {fl : List DE} (h : PAD X es fl) (hl : fl.length≤1000:=by decide) : PF X (.List es pos) (z0u fl):=(y5V h).imp fun σ H Q z_=>by
  obtain ⟨B,δ,ds,hB,S,q,k⟩:=z_
  refine ⟨B,δ,ds,hB,S,q,fun vs H1 s1 r1=>⟨?_,fun p hp=>?_⟩⟩
  · rw [← r1.length,z3b q]
    exact Nat.le_of_lt (z8f hl)
  · exact k p vs _ (s1.trans (z0t hp)) (s1.free hp) z0m (r1.mono (z0t hp))
noncomputable def mkT (f : DS->Option (List D)) : DE:=fun δ=>(f δ).map .tup
theorem pd_tup {x1} {fl : List DE} (h : PAD X es fl) (hl : fl.length≤1000:=by decide) : PD X (.Tuple es x1 pos) (mkT (z0u fl)):=(pe_tup h).imp fun σ H Q z_=>by
  obtain ⟨B,δ,d,hB,S,q,k⟩:=z_
  unfold mkT at q
  cases r : z0u fl δ with
  | none=>rw [r] at q; cases q
  | some ds=>
    rw [r] at q
    cases q
    refine ⟨B,δ,ds,hB,S,r,fun vs H1 s1 r1=>⟨?_,fun p hp=>?_⟩⟩
    · rw [← r1.length,z3b r]
      exact Nat.le_of_lt (z8f hl)
    · refine k _ _ (s1.trans (z0t hp)) ?_
      unfold Rep
      exact ⟨p,vs,rfl,SqT.of z0m,r1.mono (z0t hp)⟩
noncomputable def ixD : D->D->Option D
  | .lst ds,.int i=>atI ds i
  | .tup ds,.int i=>atI ds i
  | .scr ns,.int i=>(atI ns i).map .int
  | _,_=>none
theorem atI_map {α β : Type} (f : α->β) (xs : List α) (i : Int) : atI (xs.map f) i=(atI xs i).map f:=by
  unfold atI
  rw [List.length_map]
  cases ixN xs.length i with
  | none=>rfl
  | some j=>simp
theorem z9w {K : PySem.W.Frag} {H : Hp} {B : Addr->Prop} {ds : List D} {xs : List V} {i : Int} {d : D} (h : Reps K H B ds xs) (e : atI ds i=some d) : ∃ x,atI xs i=some x∧Rep K H B d x:=by
  unfold atI at e ⊢
  rw [← h.length]
  cases q : ixN ds.length i with
  | none=>rw [q] at e; cases e
  | some j=>
    rw [q] at e
    exact h.get e
theorem o2_ix {K : PySem.W.Frag} : Op2 K (rIx K) ixD:=by
  intro H B dx dy d x y Q hB hx hy q k
  unfold ixD at q
  split at q
  · unfold Rep at hx
    obtain ⟨a,xs,rfl,_,s,r⟩:=hx
    obtain ⟨v,e,rv⟩:=z9w r q
    exact .inl ⟨a,xs,_,v,rfl,hy,SqL.of s,e,k v H (.refl H) rv⟩
  · unfold Rep at hx
    obtain ⟨a,xs,rfl,s,r⟩:=hx
    obtain ⟨v,e,rv⟩:=z9w r q
    exact .inr (.inl ⟨a,xs,_,v,rfl,hy,s,e,k v H (.refl H) rv⟩)
  · rename_i ns i
    unfold Rep at hx
    obtain ⟨a,rfl,s⟩:=hx
    cases e : atI ns i with
    | none=>rw [e] at q; cases q
    | some n=>
      rw [e] at q
      cases q
      exact .inl ⟨a,_,_,.int n,rfl,hy,s.sq,by rw [atI_map,e]; rfl,k _ H (.refl H) rfl⟩
  · cases q
theorem z0W {f g : DE} (ha : PD X a f) (hb : PD X b g) (hs : z6Z b:=by intro _ _; rfl) : PD X (.Subscript a b pos) (d2 ixD f g):=(pe_ix y5X ha hb hs).imp (z9E o2_ix)
noncomputable def spN (K : PySem.W.Frag) (F : List D->Option D) : Sp:=fun vs H Q _=>∃ ds d,Reps K H noB ds vs∧F ds=some d∧∀ v H' A,Same H H'->Tree K H' d v A->A.Nodup->(∀ a∈A,H a=none)->Q v H'
structure DefOk (P : Program) (w : World) (K : PySem.W.Frag) (mg : Str->Option Value) (base : Heap) (k : Nat) (x : Str) (sp : Sp) : Prop where
  ok : ∃ (f : Addr) (fd : FuncData) (ps : List Str),mg x=some (.ref f)∧PySem.W.keepIn K (.ref f)=true∧Binds K fd ps []∧FnOk P w K mg base CX0 k f fd ps sp
noncomputable def z0k (F : List D->Option D) (fl : List DE) : DE:=fun δ=>(z0u fl δ).bind F
theorem z5M {F : List D->Option D} {fl : List DE} {δ : DS} {d : D} (h : z0k F fl δ=some d) : ∃ ds,z0u fl δ=some ds∧F ds=some d:=by
  unfold z0k at h
  cases q : z0u fl δ with
  | none=>rw [q] at h; cases h
  | some ds=>rw [q] at h; exact ⟨ds,rfl,h⟩
end
end L2
namespace L2
open PySem PySem.Spec PyProof.Rows
section
variable {X : Cx} {e a b c : Expr} {es : List Expr} {pos p : Pos} {x : Str} {k : Nat} {tg iter elt : Expr}
theorem y4s {sp : Sp} {t : TA} (G : DefOk X.prog X.w X.K X.mg X.base k x sp) (hr : Room k X.A) (hg : Gl X x) (ha : PA X (e :: es) t) (hdb : (x == ("__debug__" : Str))=false:=by decide)
    (he : starEach (e :: es) X.env=(false,eval e X.env) :: starEach es X.env:=by rfl) (hpl : (backTo pos (starEach es X.env)).any (·.1)=false:=by rfl) : PE X (.Call (.Name x p) (e :: es) [] pos) (tCall sp [] E0 t):=by
  obtain ⟨f,fd,ps,hm,hk,hb,ok⟩:=G.ok
  exact pe_call ok hr hg hm hk hb .nil pass0 ha hdb he hpl
theorem z0h {F : List D->Option D} {fl : List DE} (G : DefOk X.prog X.w X.K X.mg X.base k x (spN X.K F)) (hr : Room k X.A) (hg : Gl X x) (ha : PAD X (e :: es) fl) (hdb : (x == ("__debug__" : Str))=false:=by decide)
    (he : starEach (e :: es) X.env=(false,eval e X.env) :: starEach es X.env:=by rfl) (hpl : (backTo pos (starEach es X.env)).any (·.1)=false:=by rfl) : PN X (.Call (.Name x p) (e :: es) [] pos) (z0k F fl):=
  (y4s G hr hg ha hdb he hpl).imp fun σ H Q z_=>by
    obtain ⟨δ,d,S,q,k⟩:=z_
    obtain ⟨ds,e1,e2⟩:=z5M q
    refine ⟨noB,δ,ds,.no,S,e1,fun vs H1 s1 r1=>?_⟩
    show spN X.K F (vs ++ []) H1 Q E0
    rw [List.append_nil]
    exact ⟨ds,d,r1,e2,fun v H' A s' t nd fr=>k v H' A (s1.trans s') t nd fun a ha=>s1.free (fr a ha)⟩
structure ItD (K : PySem.W.Frag) (J : It) (H : Hp) (B : Addr->Prop) (ds : List D) : Prop where
  go : ∀ i H',Keep K B H H'->i < ds.length->J.go i H'
  stop : ∀ i H',Keep K B H H'->ds.length≤i->J.stop i H'
  yld : ∀ i H' x H2,Keep K B H H'->J.yld i H' x H2->Same H' H2∧∃ d,(i < ds.length->ds[i]? = some d)∧Rep K H2 B d x
noncomputable def ItW (K : PySem.W.Frag) (J : It) (H : Hp) (B : Addr->Prop) (ds : List D) : Prop:=∀ C : Addr->Prop,(∀ a,C a->H a=none)->ItD K J H (fun a=>B a∨C a) ds
noncomputable def tI (K : PySem.W.Frag) (f : DS->Option (List D)) : TI:=fun σ H R=>∃ B δ ds,InB B H∧RepS K H B σ δ∧f δ=some ds∧∀ J H',Same H H'->ItW K J H' B ds->R J H'
noncomputable abbrev PID (X : Cx) (tg iter : Expr) (f : DS->Option (List D)) : Prop:=PI X tg iter (tI X.K f)
theorem PI.imp {wi wi' : TI} (h : PI X tg iter wi) (w : ∀ σ H R,wi' σ H R->wi σ H R) : PI X tg iter wi':=fun pins s σ H R I q=>h pins s σ H R I (w σ H R q)
noncomputable def iSeq (K : PySem.W.Frag) (tl : TE) : TI:=fun σ H R=>tl σ H fun x H1=>∃ a,x = .ref a∧(((∃ xs,SqL K H1 a xs)∧R (Itl K a) H1)∨((∃ xs,SqT K H1 a xs)∧R (Itt K a) H1))
theorem pi_seq {l : Expr} {tl : TE} (hl : PE X l tl) : PI X tg l (iSeq X.K tl):=by
  intro pins s σ H R I h
  refine thn (hl pins s σ H _ I h) fun v s1 ⟨x,H1,I1,r1,q1⟩=>?_
  obtain ⟨a,e,q1⟩:=q1
  subst e
  cases r1
  have fp : ∀ b∈[s1.heap.objs.size],z8x X pins H1 b:=fun b hb=>by
    have e : b=s1.heap.objs.size:=by simpa using hb
    subst e
    exact I1.fpOk (Nat.le_refl _) (I1.hok.fresh (Nat.le_refl _))
  rcases q1 with ⟨⟨xs,hq⟩,q⟩ | ⟨⟨xs,hq⟩,q⟩
  · obtain ⟨its,rv,p,hz⟩:=I1.list hq
    refine wpAny_pyIter_list p.isList ?_
    exact ⟨s1.heap.objs.size,[s1.heap.objs.size],_,_,H1,rfl,I1.kept (t':=s1.toks) fun b o e=>Heap.get?_push_of_some _ e,y2V a _,⟨_,Heap.get?_push_size _ rfl,rfl,rfl⟩,fp,q⟩
  · obtain ⟨its,rv,p,hz⟩:=I1.tuple hq
    refine wpAny_pyIter_tuple (show s1.heap.IsTuple a its.toArray from p) ?_
    exact ⟨s1.heap.objs.size,[s1.heap.objs.size],_,_,H1,rfl,I1.kept (t':=s1.toks) fun b o e=>Heap.get?_push_of_some _ e,y0k a _,⟨_,Heap.get?_push_size _ rfl,rfl,rfl⟩,fp,q⟩
noncomputable def y4S : D->Option (List D)
  | .lst ds=>some ds
  | .tup ds=>some ds
  | .scr ns=>some (ns.map .int)
  | _=>none
noncomputable def z5a (f : DE) : DS->Option (List D):=fun δ=>(f δ).bind y4S
theorem y3u {K : PySem.W.Frag} {H : Hp} {B : Addr->Prop} {a : Addr} {xs : List V} {ds : List D} (n : ¬ B a) (h : H a=some (.lst xs)) (r : Reps K H B ds xs) : ItD K (Itl K a) H B ds:=by
  have hl:=r.length
  refine ⟨fun i H' kp hi=>?_,fun i H' kp hi=>?_,fun i H' x H2 kp y=>?_⟩
  · exact ⟨xs,xs[i],SqL.of (kp.sl a xs n h),by rw [List.getElem?_eq_getElem]⟩
  · exact ⟨xs,SqL.of (kp.sl a xs n h),by omega⟩
  · obtain ⟨e,y⟩:=y
    subst e
    have hx:=y xs (SqL.of (kp.sl a xs n h))
    obtain ⟨d,e,rd⟩:=(Reps.keep kp ds r).get' hx
    exact ⟨.refl _,d,fun _=>e,rd⟩
theorem itd_tup {K : PySem.W.Frag} {H : Hp} {B : Addr->Prop} {a : Addr} {xs : List V} {ds : List D} (h : SqT K H a xs) (r : Reps K H B ds xs) : ItD K (Itt K a) H B ds:=by
  have hl:=r.length
  refine ⟨fun i H' kp hi=>?_,fun i H' kp hi=>?_,fun i H' x H2 kp y=>?_⟩
  · exact ⟨xs,xs[i],kp.st a xs h,by rw [List.getElem?_eq_getElem]⟩
  · exact ⟨xs,kp.st a xs h,by omega⟩
  · obtain ⟨e,y⟩:=y
    subst e
    have hx:=y xs (kp.st a xs h)
    obtain ⟨d,e,rd⟩:=(Reps.keep kp ds r).get' hx
    exact ⟨.refl _,d,fun _=>e,rd⟩
theorem z1K {K : PySem.W.Frag} {H : Hp} {B : Addr->Prop} : ∀ ns : List Int,Reps K H B (ns.map D.int) (ns.map V.int)
  | []=>.nil
  | n :: ns=>.cons rfl (z1K ns)
theorem itd_scr {K : PySem.W.Frag} {H : Hp} {B : Addr->Prop} {a : Addr} {ns : List Int} (h : SqF K H a (ns.map V.int)) : ItD K (Itl K a) H B (ns.map D.int):=by
  have r : ∀ H',Reps K H' B (ns.map D.int) (ns.map V.int):=fun _=>z1K ns
  refine ⟨fun i H' kp hi=>?_,fun i H' kp hi=>?_,fun i H' x H2 kp y=>?_⟩
  · exact ⟨ns.map V.int,(ns.map V.int)[i]'(by simpa using hi),(kp.sf a _ h).sq,by rw [List.getElem?_eq_getElem]⟩
  · exact ⟨ns.map V.int,(kp.sf a _ h).sq,by simpa using hi⟩
  · obtain ⟨e,y⟩:=y
    subst e
    have hx:=y _ (kp.sf a _ h).sq
    obtain ⟨d,e,rd⟩:=(r _).get' hx
    exact ⟨.refl _,d,fun _=>e,rd⟩
theorem z0O {l : Expr} {f : DE} (h : PD X l f) : PID X tg l (z5a f):=(pi_seq h).imp fun σ H R z_=>by
  obtain ⟨B,δ,ds,hB,S,q,k⟩:=z_
  unfold z5a at q
  cases e : f δ with
  | none=>rw [e] at q; cases q
  | some d=>
    rw [e] at q
    have q' : y4S d=some ds:=q
    refine ⟨B,δ,d,hB,S,e,fun v H1 s1 r1=>?_⟩
    unfold y4S at q'
    split at q'
    · cases q'
      unfold Rep at r1
      obtain ⟨a,xs,rfl,n,h,r⟩:=r1
      exact ⟨a,rfl,.inl ⟨⟨xs,SqL.of h⟩,k _ H1 s1 fun C hC=>y3u (fun z=>z.elim n fun z=>by rw [hC a z] at h; cases h) h (Reps.wide hC _ r)⟩⟩
    · cases q'
      unfold Rep at r1
      obtain ⟨a,xs,rfl,h,r⟩:=r1
      exact ⟨a,rfl,.inr ⟨⟨xs,h⟩,k _ H1 s1 fun C hC=>itd_tup h (Reps.wide hC _ r)⟩⟩
    · cases q'
      unfold Rep at r1
      obtain ⟨a,rfl,h⟩:=r1
      exact ⟨a,rfl,.inl ⟨⟨_,h.sq⟩,k _ H1 s1 fun C hC=>itd_scr h⟩⟩
    · cases q'
noncomputable def z4x (lo : Int) (n : Nat) : List D:=(List.range n).map fun i=>.int (lo + (i : Nat))
theorem z9Y {lo : Int} {n i : Nat} (h : i < n) : (z4x lo n)[i]? = some (.int (lo + i)):=by
  unfold z4x
  rw [List.getElem?_map,List.getElem?_range h]
  rfl
theorem z2A (lo : Int) (n : Nat) : (z4x lo n).length=n:=by unfold z4x; rw [List.length_map,List.length_range]
theorem y0U {K : PySem.W.Frag} {H : Hp} {B : Addr->Prop} {lo : Int} {n : Nat} : ItD K (Itr lo n) H B (z4x lo n):=by
  refine ⟨fun i H' _ hi=>?_,fun i H' _ hi=>?_,fun i H' x H2 _ y=>?_⟩
  · rw [z2A] at hi; exact hi
  · rw [z2A] at hi; exact hi
  · obtain ⟨e,y⟩:=y
    subst e y
    exact ⟨.refl _,.int (lo + i),fun h=>z9Y (by rwa [z2A] at h),rfl⟩
noncomputable def z5e (f : DE) : DS->Option (List D):=fun δ=>match f δ with
  | some (.int j)=>if -(2 ^ 62)≤j∧j < 2 ^ 62 then some (z4x 0 j.toNat) else none
  | _=>none
noncomputable def y3v (f g : DE) : DS->Option (List D):=fun δ=>match f δ,g δ with
  | some (.int i),some (.int j)=>if -(2 ^ 62)≤i∧i < 2 ^ 62∧-(2 ^ 62)≤j∧j < 2 ^ 62 then some (z4x i (j - i).toNat) else none
  | _,_=>none
theorem z3f {f : DE} (hg : Gl X "range") (hm : X.mg "range" = none) (ha : PD X a f) (hs : starEach [a] X.env=[(false,eval a X.env)]:=by rfl) : PID X tg (.Call (.Name "range" p) [a] [] pos) (z5e f):=
  (z7M hg hm (z0a ha z0c hs) hs).imp fun σ H R z_=>by
    obtain ⟨B,δ,ds,hB,S,q,k⟩:=z_
    unfold z5e at q
    split at q
    · rename_i j e
      split at q
      · rename_i hj
        cases q
        have ea : z0u [f] δ=some [.int j]:=by unfold z0u; rw [e]; rfl
        refine ⟨B,δ,[.int j],hB,S,ea,fun vs H1 s1 r1=>?_⟩
        unfold Reps at r1
        obtain ⟨x,r,rfl,rx,rr⟩:=r1
        unfold Reps at rr
        subst rr
        exact ⟨j,by rw [show x=V.int j from rx],hj.1,hj.2,k _ H1 s1 fun C _=>y0U⟩
      · cases q
    · cases q
theorem pi_rng2 {f g : DE} (hg : Gl X "range") (hm : X.mg "range" = none) (ha : PD X a f) (hb : PD X b g) (hs : starEach [a,b] X.env=[(false,eval a X.env),(false,eval b X.env)]:=by rfl) (hs2 : starEach [b] X.env=[(false,eval b X.env)]:=by rfl) :
    PID X tg (.Call (.Name "range" p) [a,b] [] pos) (y3v f g):=
  (y2X hg hm (z0a ha (z0a hb z0c hs2) (by rw [hs,hs2])) hs hs2).imp fun σ H R z_=>by
    obtain ⟨B,δ,ds,hB,S,q,k⟩:=z_
    unfold y3v at q
    split at q
    · rename_i i j e e'
      split at q
      · rename_i hj
        cases q
        have ea : z0u [f,g] δ=some [.int i,.int j]:=by unfold z0u z0u; rw [e,e']; rfl
        refine ⟨B,δ,[.int i,.int j],hB,S,ea,fun vs H1 s1 r1=>?_⟩
        unfold Reps at r1
        obtain ⟨x,r,rfl,rx,rr⟩:=r1
        unfold Reps at rr
        obtain ⟨y,r',rfl,ry,rr⟩:=rr
        unfold Reps at rr
        subst rr
        exact ⟨i,j,by rw [show x=V.int i from rx,show y=V.int j from ry],hj,k _ H1 s1 fun C _=>y0U⟩
      · cases q
    · cases q
noncomputable def y5h : Option D->List D->List D
  | some y,ys=>y :: ys
  | none,ys=>ys
noncomputable def z1z (h : D->Option (Option D)) : List D->Option (List D)
  | []=>some []
  | x :: r=>(h x).bind fun o=>(z1z h r).bind fun ys=>some (y5h o ys)
theorem z3Y {h : D->Option (Option D)} {x : D} {r ds : List D} (e : z1z h (x :: r)=some ds) : ∃ o ys,h x=some o∧z1z h r=some ys∧ds=y5h o ys:=by
  unfold z1z at e
  cases q : h x with
  | none=>rw [q] at e; cases e
  | some o=>
    rw [q] at e
    have e' : ((z1z h r).bind fun ys=>some (y5h o ys))=some ds:=e
    cases q' : z1z h r with
    | none=>rw [q'] at e'; cases e'
    | some ys=>
      rw [q'] at e'
      exact ⟨o,ys,rfl,rfl,(Option.some.inj e').symm⟩
noncomputable def z1r (fi : DS->Option (List D)) (fc : DS->Option Bool) (fe : DE) : DS->Option (List D):=fun δ=>(fi δ).bind fun xs=>if xs.length≤sizeLine then
  z1z (fun x=>(fc (δ ++ [some x])).bind fun k=>if k=true then (fe (δ ++ [some x])).map some else some none) xs else none
noncomputable def z3V : DS->Option Bool:=fun _=>some true
theorem z0J {X : Cx} : y3q X [] (tT X.K z3V):=fun pins s σ H Q I ⟨B,δ,b,hB,S,q,k⟩=>y3K pins s σ H Q I (by cases q; exact k H (.refl H))
theorem z2m {X : Cx} {c : Expr} {f : DS->Option Bool} (h : PTD X c f) : y3q X [c] (tT X.K f):=y5b h
theorem RepS.snoc {K : PySem.W.Frag} {H : Hp} {B : Addr->Prop} {σ : St} {δ : DS} {d : D} {v : V} (S : RepS K H B σ δ) (r : Rep K H B d v) : RepS K H B (σ ++ [some v]) (δ ++ [some d]):=by
  refine ⟨by simp [S.len],fun i d' e=>?_⟩
  by_cases hi : i < δ.length
  · rw [List.getElem?_append_left hi] at e
    obtain ⟨w,e',r'⟩:=S.get i d' e
    exact ⟨w,by rw [List.getElem?_append_left (by rw [← S.len]; exact hi)]; exact e',r'⟩
  · by_cases hj : i=δ.length
    · subst hj
      rw [List.getElem?_append_right (Nat.le_refl _),Nat.sub_self] at e
      cases e
      refine ⟨v,?_,r⟩
      rw [S.len,List.getElem?_append_right (Nat.le_refl _),Nat.sub_self]
      rfl
    · rw [List.getElem?_eq_none (by simp; omega)] at e
      cases e
theorem RepS.wide {K : PySem.W.Frag} {H : Hp} {B C : Addr->Prop} {σ : St} {δ : DS} (h : RepS K H B σ δ) (hc : ∀ a,C a->H a=none) : RepS K H (fun a=>B a∨C a) σ δ:=
  ⟨h.len,fun i d q=>let ⟨v,a,r⟩:=h.get i d q; ⟨v,a,Rep.wide hc d r⟩⟩
theorem z6G {w v : Option V} : ∀ {σ : St},(σ ++ [w]).set σ.length v=σ ++ [v]
  | []=>rfl
  | x :: r=>congrArg (x :: ·) (z6G (σ:=r))
variable {N' : List Str} {sc : Scope} {ifs : List Expr} {n : Nat} {px : Pos} {fi : DS->Option (List D)} {fc : DS->Option Bool} {fe : DE}
theorem z9L {σ : St} {H : Hp} {Q : VK} (hσ : σ.length=n) (hq : tF X.K (z1r fi fc fe) σ H Q) : y2v (tI X.K fi) (z2b n) (tT X.K fc) (tD X.K fe) 1 σ H Q:=by
  obtain ⟨B,δ,ds,hB,Sδ,q,k⟩:=hq
  unfold z1r at q
  cases e1 : fi δ with
  | none=>rw [e1] at q; cases q
  | some xs=>
  rw [e1] at q
  have q1 : (if xs.length≤sizeLine then z1z (fun x=>(fc (δ ++ [some x])).bind fun k=>if k=true then (fe (δ ++ [some x])).map some else some none) xs else none)=some ds:=q
  split at q1
  case isFalse=>cases q1
  case isTrue hsz=>
  refine ⟨B,δ,xs,hB,Sδ,e1,fun J H1 s1 itw=>fun Da hD=>?_⟩
  have hD0 : H Da=none:=s1.free hD
  have it:=itw (fun a=>a=Da) fun a ha=>by rw [ha]; exact hD
  have Sw : RepS X.K H1 (fun a=>B a∨a=Da) σ δ:=(Sδ.mono s1).wide fun a ha=>by rw [ha]; exact hD
  obtain ⟨I,hI⟩ : ∃ I : Nat->Nat->St->Hp->Prop,I=fun i m σ' H'=>m=xs.length - i∧i≤xs.length∧(∃ w,σ'=σ ++ [w])∧Same H1 H'∧∃ ys dn rs,H' Da=some (.lst ys)∧Reps X.K H' (fun a=>B a∨a=Da) dn ys∧ds=dn ++ rs∧dn.length≤i ∧
      z1z (fun x=>(fc (δ ++ [some x])).bind fun k=>if k=true then (fe (δ ++ [some x])).map some else some none) (xs.drop i)=some rs:=⟨_,rfl⟩
  refine ⟨I,⟨xs.length,by rw [hI]; exact ⟨by simp,Nat.zero_le _,⟨none,rfl⟩,z0t hD,[],[],ds,z0m,.nil,rfl,Nat.le_refl _,q1⟩⟩,?_⟩
  intro i m σ' H' hh
  rw [hI] at hh
  obtain ⟨rfl,hi',⟨w,rfl⟩,sm,ys,dn,rs,hys,rys,hds,hln,hrs⟩:=hh
  have kp : Keep X.K (fun a=>B a∨a=Da) H1 H':=.same sm
  by_cases hlt : i < xs.length
  · refine .inr ⟨it.go i H' kp hlt,fun σ'' H''=>I (i + 1) (xs.length - (i + 1)) σ'' H'',fun σ'' H'' h=>⟨xs.length - (i + 1),by omega,h⟩,fun xv H2 hy=>?_⟩
    obtain ⟨s2,d,hd,rd⟩:=it.yld i H' xv H2 kp hy
    have hdi:=hd hlt
    have hx : xs.drop i=d :: xs.drop (i + 1):=by
      obtain ⟨hl,e⟩:=List.getElem?_eq_some_iff.mp hdi
      rw [List.drop_eq_getElem_cons hl,e]
    rw [hx] at hrs
    obtain ⟨o,rs',e2,e3,e4⟩:=z3Y hrs
    show tT X.K fc ((σ ++ [w]).set n (some xv)) H2 _
    rw [← hσ,z6G]
    have hB1 : InB (fun a=>B a∨a=Da) H2:=fun a ha=>ha.elim (fun z=>(((hB.mono s1).mono sm).mono s2) a z) fun z=>⟨_,s2 _ _ (z ▸ hys)⟩
    have S2 : RepS X.K H2 (fun a=>B a∨a=Da) (σ ++ [some xv]) (δ ++ [some d]):=((Sw.mono sm).mono s2).snoc rd
    have hl2 : ys.length < sizeLine:=by
      have:=rys.length
      omega
    cases ec : fc (δ ++ [some d]) with
    | none=>rw [ec] at e2; cases e2
    | some kk=>
      rw [ec] at e2
      have e2' : (if kk=true then (fe (δ ++ [some d])).map some else some none)=some o:=e2
      refine ⟨_,δ ++ [some d],kk,hB1,S2,ec,fun H3 s3=>?_⟩
      cases kk with
      | false=>
        rw [if_neg Bool.false_ne_true] at e2'
        rw [if_neg Bool.false_ne_true]
        cases e2'
        rw [hI]
        exact ⟨rfl,hlt,⟨_,rfl⟩,(sm.trans s2).trans s3,ys,dn,rs',s3 _ _ (s2 _ _ hys),(rys.mono s2).mono s3,by rw [hds,e4]; rfl,Nat.le_succ_of_le hln,e3⟩
      | true=>
        rw [if_pos rfl] at e2'
        rw [if_pos rfl]
        cases ey : fe (δ ++ [some d]) with
        | none=>rw [ey] at e2'; cases e2'
        | some y=>
          rw [ey] at e2'
          cases e2'
          refine ⟨_,δ ++ [some d],y,hB1.mono s3,S2.mono s3,ey,fun yv H5 s5 r5=>⟨ys,s5 _ _ (s3 _ _ (s2 _ _ hys)),hl2,?_⟩⟩
          have hu : H5 Da=some (.lst ys):=s5 _ _ (s3 _ _ (s2 _ _ hys))
          rw [hI]
          refine ⟨rfl,hlt,⟨_,rfl⟩,fun b u hb=>?_,ys ++ [yv],dn ++ [y],rs',z0m,?_,by rw [hds,e4,List.append_assoc]; rfl,by rw [List.length_append]; simp; omega,e3⟩
          · rw [z0q (z1e hb hD)]
            exact s5 _ _ (s3 _ _ (s2 _ _ (sm _ _ hb)))
          · exact Reps.keep (.upd (.inr rfl) (by rw [hu]; exact trivial)) _ (((rys.mono s2).mono s3 |>.mono s5).snoc r5)
  · have e : i=xs.length:=by omega
    subst e
    refine .inl ⟨it.stop _ H' kp (Nat.le_refl _),?_⟩
    rw [List.drop_length] at hrs
    cases hrs
    rw [List.append_nil] at hds
    subst hds
    exact k Da ys H' (s1.trans sm) hD0 hys (rys.anti fun a z=>.inl z)
theorem z3j (hc : X.calm=true) (S : CompScope X.N X.env.scope.names N' 1 sc) (hn : n=X.N.length) (hi : PID X (.Name x px) iter fi)
    (hg : ∀ s H fp pins E,PG (z0C X N' sc s H fp pins E) (.Name x px) (z2b n)) (ht : ∀ s H fp pins E,y3q (z0C X N' sc s H fp pins E) ifs (tT X.K fc)) (he : ∀ s H fp pins E,PE (z0C X N' sc s H fp pins E) elt (tD X.K fe))
    (hs : ∀ x,foldedSetIterable iter X.env x=pure x:=by intro _; rfl) : PF X (.ListComp elt [⟨.Name x px,iter,ifs,0⟩] sc pos) (z1r fi fc fe):=by
  intro pins s σ H Q I hq
  exact z9b hc S hi ⟨hg,ht,he⟩ hs pins s σ H Q I (z9L (by rw [hn,I.len]) hq)
theorem pas_cF {i : Nat} {y : Str} {py spos : Pos} (hN : X.N.Nodup) (hy : X.N[i]? = some y) (hyl : X.env.scope.names.lookup y=some .local) (hc : X.calm=true) (S : CompScope X.N X.env.scope.names N' 1 sc) (hn : n=X.N.length) (hi : PID X (.Name x px) iter fi)
    (hg : ∀ s H fp pins E,PG (z0C X N' sc s H fp pins E) (.Name x px) (z2b n)) (ht : ∀ s H fp pins E,y3q (z0C X N' sc s H fp pins E) ifs (tT X.K fc)) (he : ∀ s H fp pins E,PE (z0C X N' sc s H fp pins E) elt (tD X.K fe))
    (hsw : swapsWith (.ListComp elt [⟨.Name x px,iter,ifs,0⟩] sc pos) (some (.Name y py)) spos.line X.env=pure true:=by rfl) (hs : ∀ x,foldedSetIterable iter X.env x=pure x:=by intro _; rfl) :
    PS X (.Assign [.Name y py] (.ListComp elt [⟨.Name x px,iter,ifs,0⟩] sc pos) spos) (tAsg (tF X.K (z1r fi fc fe)) (z2b i)):=by
  intro pins s σ H D I hq
  exact y2Q hc S hN hy hyl hi ⟨hg,ht,he⟩ hsw hs pins s σ H D I (z9L (by rw [hn,I.len]) hq)
end
end L2
namespace L2
open PySem PySem.Spec PyProof.Rows
inductive SD where
  | sh (d : D) | ow (d : D) | bo (r : Nat) (d : D)
noncomputable abbrev SS:=List (Option SD)
noncomputable def SD.val : SD->D
  | .sh d=>d
  | .ow d=>d
  | .bo _ d=>d
noncomputable def z0v (δ : SS) : DS:=δ.map (Option.map SD.val)
noncomputable def shO : Option SD->Option D
  | some (.sh d)=>some d
  | _=>none
noncomputable def shV (δ : SS) : DS:=δ.map shO
structure RS (K : PySem.W.Frag) (H0 : Hp) (B0 : Addr->Prop) (H : Hp) (σ : St) (δ : SS) (R : Nat->List Addr) : Prop where
  keep : Same H0 H
  inB : InB B0 H0
  len : δ.length=σ.length
  new : ∀ r a,a∈R r->H0 a=none
  held : ∀ r a,a∈R r->∃ o,H a=some o∧Mut (some o)
  disj : ∀ r s a,a∈R r->a∈R s->r=s
  sh : ∀ (i : Nat) (d : D),δ[i]? = some (some (.sh d))->∃ v,σ[i]? = some (some v)∧Rep K H (fun a=>B0 a∨∃ r,a∈R r) d v
  bo : ∀ (i r : Nat) (d : D),δ[i]? = some (some (.bo r d))->∃ v,σ[i]? = some (some v)∧Rep K H (fun a=>B0 a∨∃ s,s≠r∧a∈R s) d v
  ow : ∀ (i : Nat) (d : D),δ[i]? = some (some (.ow d))->∃ v,σ[i]? = some (some v)∧Tree K H d v (R i)∧(R i).Nodup
structure Stp (R : Nat->List Addr) (H : Hp) (R' : Nat->List Addr) (H' : Hp) : Prop where
  keep : ∀ a o,H a=some o->(∀ r,a ∉ R r)->H' a=some o
  from' : ∀ r a,a∈R' r->(∃ s,a∈R s)∨H a=none
  there : ∀ a,H' a=none->H a=none
theorem Stp.refl (R : Nat->List Addr) (H : Hp) : Stp R H R H:=⟨fun _ _ h _=>h,fun r _ h=>.inl ⟨r,h⟩,fun _ h=>h⟩
theorem Stp.trans {R R1 R2 : Nat->List Addr} {H H1 H2 : Hp} (a : Stp R H R1 H1) (b : Stp R1 H1 R2 H2) : Stp R H R2 H2:=by
  refine ⟨fun x o h n=>b.keep x o (a.keep x o h n) fun r hr=>?_,fun r x h=>?_,fun x h=>a.there x (b.there x h)⟩
  · rcases a.from' r x hr with ⟨s,z⟩ | z
    · exact n s z
    · rw [h] at z; cases z
  · rcases b.from' r x h with ⟨s,z⟩ | z
    · exact a.from' s x z
    · exact .inr (a.there x z)
theorem Stp.same {R : Nat->List Addr} {H H' : Hp} (e : Same H H') : Stp R H R H':=⟨fun a o h _=>e a o h,fun r _ h=>.inl ⟨r,h⟩,fun _ h=>e.free h⟩
section
variable {K : PySem.W.Frag} {H0 H H' : Hp} {B0 : Addr->Prop} {σ : St} {δ : SS} {R : Nat->List Addr}
theorem y3z {i : Nat} {d : D} (h : (z0v δ)[i]? = some (some d)) : ∃ x,δ[i]? = some (some x)∧x.val=d:=by
  unfold z0v at h
  rw [List.getElem?_map] at h
  cases e : δ[i]? with
  | none=>rw [e] at h; cases h
  | some o=>
    rw [e] at h
    cases o with
    | none=>cases h
    | some x=>cases h; exact ⟨x,rfl,rfl⟩
theorem shV_get {i : Nat} {d : D} (h : (shV δ)[i]? = some (some d)) : δ[i]? = some (some (.sh d)):=by
  unfold shV at h
  rw [List.getElem?_map] at h
  cases e : δ[i]? with
  | none=>rw [e] at h; cases h
  | some o=>
    rw [e] at h
    have h' : shO o=some d:=Option.some.inj h
    unfold shO at h'
    split at h'
    · cases h'; rfl
    · cases h'
theorem RS.all (h : RS K H0 B0 H σ δ R) : RepS K H noB σ (z0v δ):=by
  refine ⟨by unfold z0v; rw [List.length_map]; exact h.len,fun i d e=>?_⟩
  obtain ⟨x,e',rfl⟩:=y3z e
  cases x with
  | sh d=>
    obtain ⟨v,e1,r⟩:=h.sh i d e'
    exact ⟨v,e1,r.anti fun _ z=>z.elim⟩
  | bo r d=>
    obtain ⟨v,e1,r⟩:=h.bo i r d e'
    exact ⟨v,e1,r.anti fun _ z=>z.elim⟩
  | ow d=>
    obtain ⟨v,e1,t,_⟩:=h.ow i d e'
    exact ⟨v,e1,t.rep d fun _ _ z=>z.elim⟩
theorem RS.shr (h : RS K H0 B0 H σ δ R) : RepS K H (fun a=>B0 a∨∃ r,a∈R r) σ (shV δ):=by
  refine ⟨by unfold shV; rw [List.length_map]; exact h.len,fun i d e=>h.sh i d (shV_get e)⟩
theorem RS.inAll (h : RS K H0 B0 H σ δ R) : InB (fun a=>B0 a∨∃ r,a∈R r) H:=fun a ha=>by
  rcases ha with z | ⟨r,z⟩
  · exact (h.inB.mono h.keep) a z
  · obtain ⟨o,e,_⟩:=h.held r a z
    exact ⟨o,e⟩
theorem RS.mono (h : RS K H0 B0 H σ δ R) (e : Same H H') : RS K H0 B0 H' σ δ R:=by
  refine ⟨h.keep.trans e,h.inB,h.len,h.new,fun r a z=>?_,h.disj,fun i d z=>?_,fun i r d z=>?_,fun i d z=>?_⟩
  · obtain ⟨o,e1,m⟩:=h.held r a z
    exact ⟨o,e a o e1,m⟩
  · obtain ⟨v,e1,r⟩:=h.sh i d z
    exact ⟨v,e1,r.mono e⟩
  · obtain ⟨v,e1,r⟩:=h.bo i r d z
    exact ⟨v,e1,r.mono e⟩
  · obtain ⟨v,e1,t,nd⟩:=h.ow i d z
    exact ⟨v,e1,t.mono e,nd⟩
theorem RS.setSh {i : Nat} {d : D} {v : V} (h : RS K H0 B0 H σ δ R) (r : Rep K H (fun a=>B0 a∨∃ r,a∈R r) d v) : RS K H0 B0 H (σ.set i (some v)) (δ.set i (some (.sh d))) R:=by
  have gs : ∀ {α : Type} {l : List (Option α)} {i j : Nat} {x : Option α} {y : α},(l.set i x)[j]? = some (some y)->(j=i∧x=some y)∨(j≠i∧l[j]? = some (some y)):=fun {α l i j x y} e=>by
    by_cases hj : j=i
    · subst hj
      rw [List.getElem?_set] at e
      simp only [if_true] at e
      split at e
      · exact .inl ⟨rfl,Option.some.inj e⟩
      · cases e
    · rw [List.getElem?_set_ne (Ne.symm hj)] at e
      exact .inr ⟨hj,e⟩
  have up : ∀ {j : Nat} {w : V},j≠i->σ[j]? = some (some w)->(σ.set i (some v))[j]? = some (some w):=fun hj e=>by rw [List.getElem?_set_ne (Ne.symm hj)]; exact e
  refine ⟨h.keep,h.inB,by simp [h.len],h.new,h.held,h.disj,fun j d' z=>?_,fun j r' d' z=>?_,fun j d' z=>?_⟩
  · rcases gs z with ⟨rfl,q⟩ | ⟨hj,q⟩
    · cases q
      have hl : j < σ.length:=by
        rw [← h.len]
        by_cases hl : j < δ.length
        · exact hl
        · rw [List.getElem?_eq_none (by simp; omega)] at z; cases z
      exact ⟨v,by rw [List.getElem?_set]; simp [hl],r⟩
    · obtain ⟨w,e1,r⟩:=h.sh j d' q
      exact ⟨w,up hj e1,r⟩
  · rcases gs z with ⟨rfl,q⟩ | ⟨hj,q⟩
    · cases q
    · obtain ⟨w,e1,r⟩:=h.bo j r' d' q
      exact ⟨w,up hj e1,r⟩
  · rcases gs z with ⟨rfl,q⟩ | ⟨hj,q⟩
    · cases q
    · obtain ⟨w,e1,t⟩:=h.ow j d' q
      exact ⟨w,up hj e1,t⟩
noncomputable def z4r (R : Nat->List Addr) (i : Nat) (A : List Addr) : Nat->List Addr:=fun r=>if r=i then A else R r
theorem z0y {i : Nat} {A : List Addr} : z4r R i A i=A:=if_pos rfl
theorem z0N {i r : Nat} {A : List Addr} (h : r≠i) : z4r R i A r=R r:=if_neg h
theorem z1w {α : Type} {l : List (Option α)} {i j : Nat} {x : Option α} {y : α} (e : (l.set i x)[j]? = some (some y)) : (j=i∧x=some y∧i < l.length)∨(j≠i∧l[j]? = some (some y)):=by
  by_cases hj : j=i
  · subst hj
    rw [List.getElem?_set] at e
    simp only [if_true] at e
    split at e
    · rename_i hl
      exact .inl ⟨rfl,Option.some.inj e,hl⟩
    · cases e
  · rw [List.getElem?_set_ne (Ne.symm hj)] at e
    exact .inr ⟨hj,e⟩
theorem RS.setOw {Hold : Hp} {i : Nat} {d : D} {v : V} {A : List Addr} (h : RS K H0 B0 Hold σ δ R) (e : Same Hold H) (t : Tree K H d v A) (nd : A.Nodup) (fr : ∀ a∈A,Hold a=none) : RS K H0 B0 H (σ.set i (some v)) (δ.set i (some (.ow d))) (z4r R i A):=by
  have hm:=h.mono e
  have up : ∀ {j : Nat} {w : V},j≠i->σ[j]? = some (some w)->(σ.set i (some v))[j]? = some (some w):=fun hj e=>by rw [List.getElem?_set_ne (Ne.symm hj)]; exact e
  have hA : ∀ r a,a∈R r->a ∉ A:=fun r a z z'=>by
    obtain ⟨o,q,_⟩:=h.held r a z
    rw [fr a z'] at q; cases q
  have mem : ∀ r a,a∈z4r R i A r->(r=i∧a∈A)∨(r≠i∧a∈R r):=fun r a z=>by
    by_cases hr : r=i
    · subst hr; rw [z0y] at z; exact .inl ⟨rfl,z⟩
    · rw [z0N hr] at z; exact .inr ⟨hr,z⟩
  refine ⟨hm.keep,h.inB,by simp [h.len],fun r a z=>?_,fun r a z=>?_,fun r s a z z'=>?_,fun j d' z=>?_,fun j r' d' z=>?_,fun j d' z=>?_⟩
  · rcases mem r a z with ⟨_,z⟩ | ⟨_,z⟩
    · exact h.keep.free (fr a z)
    · exact h.new r a z
  · rcases mem r a z with ⟨_,z⟩ | ⟨_,z⟩
    · exact t.held d a z
    · exact hm.held r a z
  · rcases mem r a z with ⟨h1,z⟩ | ⟨h1,z⟩ <;> rcases mem s a z' with ⟨h2,z'⟩ | ⟨h2,z'⟩
    · rw [h1,h2]
    · exact absurd z (hA s a z')
    · exact absurd z' (hA r a z)
    · exact h.disj r s a z z'
  · rcases z1w z with ⟨rfl,q,_⟩ | ⟨hj,q⟩
    · cases q
    · obtain ⟨w,e1,r⟩:=h.sh j d' q
      refine ⟨w,up hj e1,Rep.anti ?_ d' ((Rep.wide (C:=fun a=>a∈A) fr d' r).mono e)⟩
      rintro a (z | ⟨r,z⟩)
      · exact .inl (.inl z)
      · rcases mem r a z with ⟨_,z⟩ | ⟨_,z⟩
        · exact .inr z
        · exact .inl (.inr ⟨r,z⟩)
  · rcases z1w z with ⟨rfl,q,_⟩ | ⟨hj,q⟩
    · cases q
    · obtain ⟨w,e1,r⟩:=h.bo j r' d' q
      refine ⟨w,up hj e1,Rep.anti ?_ d' ((Rep.wide (C:=fun a=>a∈A) fr d' r).mono e)⟩
      rintro a (z | ⟨s,hs,z⟩)
      · exact .inl (.inl z)
      · rcases mem s a z with ⟨_,z⟩ | ⟨_,z⟩
        · exact .inr z
        · exact .inl (.inr ⟨s,hs,z⟩)
  · rcases z1w z with ⟨rfl,q,hl⟩ | ⟨hj,q⟩
    · cases q
      rw [z0y]
      exact ⟨v,by rw [List.getElem?_set]; simp [← h.len,hl],t,nd⟩
    · obtain ⟨w,e1,t'⟩:=hm.ow j d' q
      rw [z0N hj]
      exact ⟨w,up hj e1,t'⟩
noncomputable def y3P (i : Nat) (δ : SS) : SS:=match δ[i]? with
  | some (some (.ow d))=>δ.set i (some (.sh d))
  | _=>δ
theorem RS.frz (i : Nat) (h : RS K H0 B0 H σ δ R) : ∃ R',RS K H0 B0 H σ (y3P i δ) R'∧∀ r a,a∈R' r->a∈R r:=by
  unfold y3P
  split
  · rename_i d e
    obtain ⟨v,e1,t,nd⟩:=h.ow i d e
    refine ⟨z4r R i [],?_,fun r a z=>?_⟩
    · have mem : ∀ r a,a∈z4r R i [] r->r≠i∧a∈R r:=fun r a z=>by
        by_cases hr : r=i
        · subst hr; rw [z0y] at z; cases z
        · rw [z0N hr] at z; exact ⟨hr,z⟩
      refine ⟨h.keep,h.inB,by simp [h.len],fun r a z=>h.new r a (mem r a z).2,fun r a z=>h.held r a (mem r a z).2,fun r s a z z'=>h.disj r s a (mem r a z).2 (mem s a z').2,fun j d' z=>?_,fun j r' d' z=>?_,fun j d' z=>?_⟩
      · rcases z1w z with ⟨rfl,q,hl⟩ | ⟨hj,q⟩
        · cases q
          refine ⟨v,e1,t.rep d fun a ha=>?_⟩
          rintro (z | ⟨r,z⟩)
          · obtain ⟨o,q⟩:=h.inB a z
            rw [h.new j a ha] at q; cases q
          · exact (mem r a z).1 (h.disj r j a (mem r a z).2 ha)
        · obtain ⟨w,e2,r⟩:=h.sh j d' q
          exact ⟨w,e2,r.anti fun a z=>z.imp id fun ⟨r,z⟩=>⟨r,(mem r a z).2⟩⟩
      · rcases z1w z with ⟨rfl,q,_⟩ | ⟨hj,q⟩
        · cases q
        · obtain ⟨w,e2,r⟩:=h.bo j r' d' q
          exact ⟨w,e2,r.anti fun a z=>z.imp id fun ⟨s,hs,z⟩=>⟨s,hs,(mem s a z).2⟩⟩
      · rcases z1w z with ⟨rfl,q,_⟩ | ⟨hj,q⟩
        · cases q
        · rw [z0N hj]
          exact h.ow j d' q
    · by_cases hr : r=i
      · subst hr; rw [z0y] at z; cases z
      · rw [z0N hr] at z; exact z
  · exact ⟨R,h,fun _ _ z=>z⟩
end
inductive Out where
  | nx (δ : SS) | bk (δ : SS) | ct (δ : SS) | rt (d : D) | ex (c : Nat) (δ : SS)
noncomputable abbrev XR:=Nat->St->Hp->Prop
noncomputable abbrev noX : XR:=fun _ _ _=>False
noncomputable def Ret (K : PySem.W.Frag) (H0 : Hp) (B0 : Addr->Prop) (fr : Bool) (H : Hp) (d : D) (v : V) : Prop:=
  Same H0 H∧(fr=true->∃ A,Tree K H d v A∧A.Nodup∧∀ a∈A,H0 a=none)∧(fr=false->Rep K H B0 d v)
noncomputable def Aft (K : PySem.W.Frag) (H0 : Hp) (B0 : Addr->Prop) (fr : Bool) (RX : XR) (R : Nat->List Addr) (H : Hp) (D : Ends) : Out->Prop
  | .nx δ'=>∀ σ' H' R',RS K H0 B0 H' σ' δ' R'->Stp R H R' H'->D.nx σ' H'
  | .bk δ'=>∀ σ' H' R',RS K H0 B0 H' σ' δ' R'->Stp R H R' H'->D.bk σ' H'
  | .ct δ'=>∀ σ' H' R',RS K H0 B0 H' σ' δ' R'->Stp R H R' H'->D.ct σ' H'
  | .rt d=>∀ v H',Ret K H0 B0 fr H' d v->(∀ a,H' a=none->H a=none)->D.rt v H'
  | .ex c δ'=>∀ σ' H' R',RS K H0 B0 H' σ' δ' R'->Stp R H R' H'->RX c σ' H'
noncomputable def tS (K : PySem.W.Frag) (H0 : Hp) (B0 : Addr->Prop) (fr : Bool) (RX : XR) (g : SS->Option Out) : TS:=fun D σ H=>∃ δ R o,RS K H0 B0 H σ δ R∧g δ=some o∧Aft K H0 B0 fr RX R H D o
theorem Aft.back {K : PySem.W.Frag} {H0 : Hp} {B0 : Addr->Prop} {fr : Bool} {RX : XR} {R R1 : Nat->List Addr} {H H1 : Hp} {D : Ends} {o : Out} (h : Aft K H0 B0 fr RX R H D o) (s : Stp R H R1 H1) : Aft K H0 B0 fr RX R1 H1 D o:=by
  cases o with
  | nx δ'=>exact fun σ' H' R' r t=>h σ' H' R' r (s.trans t)
  | bk δ'=>exact fun σ' H' R' r t=>h σ' H' R' r (s.trans t)
  | ct δ'=>exact fun σ' H' R' r t=>h σ' H' R' r (s.trans t)
  | rt d=>exact fun v H' r t=>h v H' r fun a z=>s.there a (t a z)
  | ex c δ'=>exact fun σ' H' R' r t=>h σ' H' R' r (s.trans t)
theorem PS.imp {X : Cx} {st : Stmt} {t t' : TS} (h : PS X st t) (w : ∀ D σ H,t' D σ H->t D σ H) : PS X st t':=fun pins s σ H D I q=>h pins s σ H D I (w D σ H q)
theorem PSs.imp {X : Cx} {st : List Stmt} {t t' : TS} (h : PSs X st t) (w : ∀ D σ H,t' D σ H->t D σ H) : PSs X st t':=fun pins s σ H D I q=>h pins s σ H D I (w D σ H q)
section
variable {X : Cx} {H0 : Hp} {B0 : Addr->Prop} {fr : Bool} {RX : XR} {st : Stmt} {sts : List Stmt} {e : Expr} {pos : Pos}
noncomputable def z1g (g h : SS->Option Out) : SS->Option Out:=fun δ=>(g δ).bind fun o=>match o with
  | .nx δ'=>h δ'
  | o=>some o
noncomputable def z3t : SS->Option Out:=fun δ=>some (.nx δ)
theorem z2d : PSs X [] (tS X.K H0 B0 fr RX z3t):=pss_nil.imp fun D σ H z_=>by
  obtain ⟨δ,R,o,rs,q,k⟩:=z_
  cases q
  exact k σ H R rs (.refl R H)
theorem z0f {g h : SS->Option Out} (h1 : PS X st (tS X.K H0 B0 fr RX g)) (h2 : PSs X sts (tS X.K H0 B0 fr RX h)) : PSs X (st :: sts) (tS X.K H0 B0 fr RX (z1g g h)):=(y3J h1 h2).imp fun D σ H z_=>by
  obtain ⟨δ,R,o,rs,q,k⟩:=z_
  unfold z1g at q
  cases e : g δ with
  | none=>rw [e] at q; cases q
  | some o1=>
    rw [e] at q
    refine ⟨δ,R,o1,rs,e,?_⟩
    cases o1 with
    | nx δ'=>
      have q' : h δ'=some o:=q
      exact fun σ' H' R' rs' s'=>⟨δ',R',o,rs',q',k.back s'⟩
    | bk δ'=>cases q; exact k
    | ct δ'=>cases q; exact k
    | rt d=>cases q; exact k
    | ex c δ'=>cases q; exact k
theorem z0i {g : SS->Option Out} (h1 : PS X st (tS X.K H0 B0 fr RX g)) : PSs X [st] (tS X.K H0 B0 fr RX g):=pss_one h1
noncomputable abbrev PAsg (X : Cx) (st : Stmt) (i : Nat) (te : TE) : Prop:=PS X st (tAsg te (z2b i))
theorem PAsg.imp {i : Nat} {t t' : TE} (h : PAsg X st i t) (w : ∀ σ H Q,t' σ H Q->t σ H Q) : PAsg X st i t':=PS.imp h fun D σ H q=>w σ H _ q
theorem z0Z {i : Nat} {x : Str} {te : TE} {pos' : Pos} (hN : X.N.Nodup) (hi : X.N[i]? = some x) (hx : Loc X.env.scope x) (he : PE X e te) (hs : swapsWith e (some (.Name x pos')) pos.line X.env=pure false:=by rfl) (hf : X.fn x=true∨X.env.scope.names.lookup x=some .local:=by first | exact .inl rfl | exact .inr rfl | assumption) :
    PAsg X (.Assign [.Name x pos'] e pos) i te:=ps_set hN hi hx he hs hf
noncomputable def y3O (i : Nat) (f : DE) : SS->Option Out:=fun δ=>(f (shV δ)).map fun d=>.nx (δ.set i (some (.sh d)))
noncomputable def y3k (i : Nat) (f : DE) : SS->Option Out:=fun δ=>(f (z0v δ)).bind fun d=>if d.imm=true then some (.nx (δ.set i (some (.sh d)))) else none
noncomputable def z3U (i : Nat) (f : DE) : SS->Option Out:=fun δ=>(f (z0v δ)).map fun d=>.nx (δ.set i (some (.ow d)))
theorem z7j {i : Nat} {f : DE} (h : PAsg X st i (tD X.K f)) : PS X st (tS X.K H0 B0 fr RX (y3O i f)):=PS.imp h fun D σ H z_=>by
  obtain ⟨δ,R,o,rs,q,k⟩:=z_
  unfold y3O at q
  cases e : f (shV δ) with
  | none=>rw [e] at q; cases q
  | some d=>
    rw [e] at q
    cases q
    exact ⟨_,shV δ,d,rs.inAll,rs.shr,e,fun v H' s r=>k _ H' R ((rs.mono s).setSh r) (.same s)⟩
theorem z4T {i : Nat} {f : DE} (h : PAsg X st i (tD X.K f)) : PS X st (tS X.K H0 B0 fr RX (y3k i f)):=PS.imp h fun D σ H z_=>by
  obtain ⟨δ,R,o,rs,q,k⟩:=z_
  unfold y3k at q
  cases e : f (z0v δ) with
  | none=>rw [e] at q; cases q
  | some d=>
    rw [e] at q
    have q' : (if d.imm=true then some (Out.nx (δ.set i (some (.sh d)))) else none)=some o:=q
    split at q'
    · rename_i hi
      cases q'
      exact ⟨noB,z0v δ,d,.no,rs.all,e,fun v H' s r=>k _ H' R ((rs.mono s).setSh (r.imm d hi)) (.same s)⟩
    · cases q'
theorem z0V {i : Nat} {f : DE} (h : PAsg X st i (tN X.K f)) : PS X st (tS X.K H0 B0 fr RX (z3U i f)):=PS.imp h fun D σ H z_=>by
  obtain ⟨δ,R,o,rs,q,k⟩:=z_
  unfold z3U at q
  cases e : f (z0v δ) with
  | none=>rw [e] at q; cases q
  | some d=>
    rw [e] at q
    cases q
    refine ⟨z0v δ,d,rs.all,e,fun v H' A s t nd fr'=>k _ H' (z4r R i A) (rs.setOw s t nd fr') ⟨fun a o h _=>s a o h,fun r a z=>?_,fun a z=>s.free z⟩⟩
    by_cases hr : r=i
    · subst hr; rw [z0y] at z; exact .inr (fr' a z)
    · rw [z0N hr] at z; exact .inl ⟨r,z⟩
noncomputable def z8d (f : DE) : SS->Option Out:=fun δ=>(f (z0v δ)).bind fun d=>if d.imm=true then some (.rt d) else none
noncomputable def z6k (f : DE) : SS->Option Out:=fun δ=>(f (z0v δ)).map .rt
noncomputable def y0R (i : Nat) : SS->Option Out:=fun δ=>match δ[i]? with
  | some (some (.ow d))=>some (.rt d)
  | _=>none
theorem z2v {f : DE} (h : PD X e f) : PS X (.Return (some e) pos) (tS X.K H0 B0 fr RX (z8d f)):=PS.imp (y0d h) fun D σ H z_=>by
  obtain ⟨δ,R,o,rs,q,k⟩:=z_
  unfold z8d at q
  cases e : f (z0v δ) with
  | none=>rw [e] at q; cases q
  | some d=>
    rw [e] at q
    have q' : (if d.imm=true then some (Out.rt d) else none)=some o:=q
    split at q'
    · rename_i hi
      cases q'
      exact ⟨noB,z0v δ,d,.no,rs.all,e,fun v H' s r=>k v H' ⟨rs.keep.trans s,fun _=>⟨[],r.immTree d hi,List.nodup_nil,(fun a z=>nomatch z)⟩,fun _=>r.imm d hi⟩ fun a z=>s.free z⟩
    · cases q'
theorem z1X {f : DE} (h : PN X e f) : PS X (.Return (some e) pos) (tS X.K H0 B0 fr RX (z6k f)):=PS.imp (y0d h) fun D σ H z_=>by
  obtain ⟨δ,R,o,rs,q,k⟩:=z_
  unfold z6k at q
  cases e : f (z0v δ) with
  | none=>rw [e] at q; cases q
  | some d=>
    rw [e] at q
    cases q
    exact ⟨z0v δ,d,rs.all,e,fun v H' A s t nd fr'=>k v H' ⟨rs.keep.trans s,fun _=>⟨A,t,nd,fun a z=>rs.keep.free (fr' a z)⟩,fun _=>t.rep d fun a z=>rs.inB.fresh (rs.keep.free (fr' a z))⟩ fun a z=>s.free z⟩
theorem z4q {i : Nat} (h : PE X e (z7K i)) : PS X (.Return (some e) pos) (tS X.K H0 B0 fr RX (y0R i)):=PS.imp (y0d h) fun D σ H z_=>by
  obtain ⟨δ,R,o,rs,q,k⟩:=z_
  unfold y0R at q
  split at q
  · rename_i d e
    cases q
    obtain ⟨v,e1,t,nd⟩:=rs.ow i d e
    exact ⟨v,e1,k v H ⟨rs.keep,fun _=>⟨R i,t,nd,fun a z=>rs.new i a z⟩,fun _=>t.rep d fun a z=>rs.inB.fresh (rs.new i a z)⟩ fun a z=>z⟩
  · cases q
noncomputable def ifO (c : DS->Option Bool) (g h : SS->Option Out) : SS->Option Out:=fun δ=>(c (z0v δ)).bind fun b=>if b=true then g δ else h δ
theorem z9r {c : Expr} {a b : List Stmt} {f : DS->Option Bool} {g h : SS->Option Out} (hc : PTD X c f) (ha : PSs X a (tS X.K H0 B0 fr RX g)) (hb : PSs X b (tS X.K H0 B0 fr RX h)) : PS X (.If c a b pos) (tS X.K H0 B0 fr RX (ifO f g h)):=PS.imp (ps_if hc ha hb) fun D σ H z_=>by
  obtain ⟨δ,R,o,rs,q,k⟩:=z_
  unfold ifO at q
  cases e : f (z0v δ) with
  | none=>rw [e] at q; cases q
  | some b=>
    rw [e] at q
    have q' : (if b=true then g δ else h δ)=some o:=q
    refine ⟨noB,z0v δ,b,.no,rs.all,e,fun H' s=>?_⟩
    cases b with
    | true=>
      rw [if_pos rfl] at q'
      refine iteT ?_
      exact ⟨δ,R,o,rs.mono s,q',k.back (.same s)⟩
    | false=>
      rw [if_neg Bool.false_ne_true] at q'
      refine iteF ?_
      exact ⟨δ,R,o,rs.mono s,q',k.back (.same s)⟩
noncomputable def frzO (i : Nat) (g : SS->Option Out) : SS->Option Out:=fun δ=>g (y3P i δ)
theorem s_frz (i : Nat) {g : SS->Option Out} (h : PS X st (tS X.K H0 B0 fr RX g)) : PS X st (tS X.K H0 B0 fr RX (frzO i g)):=PS.imp h fun D σ H z_=>by
  obtain ⟨δ,R,o,rs,q,k⟩:=z_
  obtain ⟨R',rs',hs⟩:=rs.frz i
  exact ⟨y3P i δ,R',o,rs',q,k.back ⟨fun a o h _=>h,fun r a z=>.inl ⟨r,hs r a z⟩,fun a z=>z⟩⟩
noncomputable def z4y (i : Nat) (b : SS->Option Out) : List D->SS->Option Out
  | [],δ=>some (.nx δ)
  | x :: r,δ=>(b (δ.set i (some (.sh x)))).bind fun o=>match o with
    | .nx δ'=>z4y i b r δ'
    | .ct δ'=>z4y i b r δ'
    | .bk δ'=>some (.nx δ')
    | .rt d=>some (.rt d)
    | .ex c δ'=>some (.ex c δ')
noncomputable def z8j (i : Nat) (f : DS->Option (List D)) (b : SS->Option Out) : SS->Option Out:=fun δ=>(f (shV δ)).bind fun ds=>z4y i b ds δ
theorem Stp.keepB {K : PySem.W.Frag} {R R' : Nat->List Addr} {H H' : Hp} {B : Addr->Prop} (s : Stp R H R' H') (hR : ∀ r a,a∈R r->B a) (hm : ∀ r a,a∈R r->∃ o,H a=some o∧Mut (some o)) : Keep K B H H':=by
  have kp : ∀ a o,H a=some o->¬ Mut (some o)->H' a=some o:=fun a o e n=>s.keep a o e fun r z=>by
    obtain ⟨o',e',m⟩:=hm r a z
    rw [e] at e'; cases e'
    exact n m
  refine ⟨fun a xs n h=>s.keep a _ h fun r z=>n (hR r a z),fun a xs h=>?_,fun a xs h=>?_,fun a kvs n h=>s.keep a _ h fun r z=>n (hR r a z),fun a φ n h=>s.keep a _ h fun r z=>n (hR r a z)⟩
  · rcases h with (h | ⟨o,h⟩) | h
    · exact .inl (.inl (kp a _ h fun z=>z))
    · exact .inl (.inr ⟨o,kp a _ h fun z=>z⟩)
    · exact .inr h
  · rcases h with ⟨o,h⟩ | h
    · exact .inl ⟨o,kp a _ h fun z=>z⟩
    · exact .inr h
theorem z4z {i : Nat} {x : Str} {px : Pos} {iter : Expr} {body : List Stmt} {f : DS->Option (List D)} {g : SS->Option Out} (hp : PassesOwn (model X.prog X.w) X.A X.env X.xe) (hc : X.calm=true) (hi : PID X (.Name x px) iter f) (hg : PG X (.Name x px) (z2b i)) (hb : PSs X body (tS X.K H0 B0 fr RX g))
    (hs : ∀ x,foldedSetIterable iter X.env x=pure x:=by intro _; rfl) : PS X (.For (.Name x px) iter body [] pos) (tS X.K H0 B0 fr RX (z8j i f g)):=PS.imp (y1u hp hc hi hg hb hs) fun D σ H z_=>by
  obtain ⟨δ,R,o,rs,q,k⟩:=z_
  unfold z8j at q
  cases e : f (shV δ) with
  | none=>rw [e] at q; cases q
  | some ds=>
  rw [e] at q
  have q : z4y i g ds δ=some o:=q
  refine ⟨_,shV δ,ds,rs.inAll,rs.shr,e,fun J H1 s1 itw=>?_⟩
  have rs1:=rs.mono s1
  have it:=itw (fun a=>H1 a=none) fun a z=>z
  refine ⟨fun n m σ' H'=>m=ds.length - n∧n≤ds.length∧∃ δ' R',RS X.K H0 B0 H' σ' δ' R'∧Stp R H1 R' H'∧z4y i g (ds.drop n) δ'=some o,⟨ds.length,by simp,Nat.zero_le _,δ,R,rs1,.refl R H1,q⟩,?_⟩
  rintro n m σ' H' ⟨rfl,hn,δ',R',rs',s',q'⟩
  have kp : Keep X.K (fun a=>(B0 a∨∃ r,a∈R r)∨H1 a=none) H1 H':=s'.keepB (fun r a z=>.inl (.inr ⟨r,z⟩)) rs1.held
  by_cases hlt : n < ds.length
  · have hx : ds.drop n=ds[n] :: ds.drop (n + 1):=List.drop_eq_getElem_cons hlt
    rw [hx] at q'
    unfold z4y at q'
    cases eb : g (δ'.set i (some (.sh ds[n]))) with
    | none=>rw [eb] at q'; cases q'
    | some ob=>
      rw [eb] at q'
      refine .inr ⟨it.go n H' kp hlt,fun σ2 H2=>n + 1≤ds.length∧∃ δ2 R2,RS X.K H0 B0 H2 σ2 δ2 R2∧Stp R H1 R2 H2∧z4y i g (ds.drop (n + 1)) δ2=some o,fun σ2 H2 z=>⟨ds.length - (n + 1),by omega,rfl,z⟩,fun xv H2 hy=>?_⟩
      obtain ⟨s2,d,hd,rd⟩:=it.yld n H' xv H2 kp hy
      have hdi : d=ds[n]:=by
        have:=hd hlt
        rw [List.getElem?_eq_getElem hlt] at this
        exact (Option.some.inj this).symm
      subst hdi
      have rd' : Rep X.K H2 (fun a=>B0 a∨∃ r,a∈R' r) ds[n] xv:=rd.anti fun a z=>by
        rcases z with z | ⟨r,z⟩
        · exact .inl (.inl z)
        · rcases s'.from' r a z with z | z
          · exact .inl (.inr z)
          · exact .inr z
      have rs2:=(rs'.mono s2).setSh (i:=i) rd'
      have st2 : Stp R H1 R' H2:=s'.trans (.same s2)
      refine ⟨_,R',ob,rs2,eb,?_⟩
      cases ob with
      | nx δ2=>
        have q2 : z4y i g (ds.drop (n + 1)) δ2=some o:=q'
        exact fun σ3 H3 R3 rs3 s3=>⟨hlt,δ2,R3,rs3,st2.trans s3,q2⟩
      | ct δ2=>
        have q2 : z4y i g (ds.drop (n + 1)) δ2=some o:=q'
        exact fun σ3 H3 R3 rs3 s3=>⟨hlt,δ2,R3,rs3,st2.trans s3,q2⟩
      | bk δ2=>
        cases q'
        exact fun σ3 H3 R3 rs3 s3=>k σ3 H3 R3 rs3 ((Stp.same s1).trans (st2.trans s3))
      | rt d=>
        cases q'
        exact k.back ((Stp.same s1).trans st2)
      | ex c δ2=>
        cases q'
        exact k.back ((Stp.same s1).trans st2)
  · have en : n=ds.length:=by omega
    subst en
    rw [List.drop_length] at q'
    cases q'
    exact .inl ⟨it.stop _ H' kp (Nat.le_refl _),k σ' H' R' rs' ((Stp.same s1).trans s')⟩
end
noncomputable def z2V (np nl : Nat) (g : SS->Option Out) : List D->Option D:=fun ds=>if ds.length=np then (match g (ds.map (fun d=>some (.sh d)) ++ List.replicate nl none) with
  | some (.rt d)=>some d
  | some (.nx _)=>some .non
  | _=>none) else none
theorem z9s {np nl : Nat} {g : SS->Option Out} {ds : List D} {d : D} (h : z2V np nl g ds=some d) : ds.length=np:=by
  unfold z2V at h
  split at h
  · assumption
  · cases h
theorem z9G {K : PySem.W.Frag} {H : Hp} {B : Addr->Prop} {ds : List D} {vs : List V} {N : List Str} {nl : Nat} (hB : InB B H) (r : Reps K H B ds vs) (hN : N.length=ds.length + nl) :
    RS K H B H (z5z N vs) (ds.map (fun d=>some (.sh d)) ++ List.replicate nl none) (fun _=>[]):=by
  have hl:=r.length
  have get : ∀ {i : Nat} {x : SD},(ds.map (fun d=>some (SD.sh d)) ++ List.replicate nl none)[i]? = some (some x)->∃ d,ds[i]? = some d∧x = .sh d:=fun {i x} e=>by
    by_cases hi : i < ds.length
    · rw [List.getElem?_append_left (by simpa using hi),List.getElem?_map,List.getElem?_eq_getElem hi] at e
      cases e
      exact ⟨ds[i],List.getElem?_eq_getElem hi,rfl⟩
    · rw [List.getElem?_append_right (by simpa using hi),List.getElem?_replicate] at e
      split at e <;> cases e
  refine ⟨.refl H,hB,?_,(fun _ _ z=>nomatch z),(fun _ _ z=>nomatch z),(fun _ _ _ z=>nomatch z),fun i d e=>?_,fun i r d e=>?_,fun i d e=>?_⟩
  · unfold z5z
    simp
    omega
  · obtain ⟨d',e1,e2⟩:=get e
    cases e2
    obtain ⟨v,e3,rv⟩:=r.get e1
    refine ⟨v,?_,rv.anti fun a z=>z.elim id (fun ⟨_,z⟩=>nomatch z)⟩
    unfold z5z
    have hi : i < vs.length:=(List.getElem?_eq_some_iff.mp e3).1
    rw [List.getElem?_append_left (by simpa using hi),List.getElem?_map,e3]
    rfl
  · obtain ⟨d',_,e2⟩:=get e
    cases e2
  · obtain ⟨d',_,e2⟩:=get e
    cases e2
section
variable {P : Program} {w : World} {K : PySem.W.Frag} {mg : Str->Option Value} {base : Heap}
theorem fnN {x qual : Str} {st : Stmt} {f : Addr} {fd : FuncData} {N ps : List Str} {k np nl : Nat} {g : SS->Option Out} (F : Fun K x qual st f fd) (S : FnScope N ps (z0b st)) (hnp : ps.length=np) (hN : N.length=np + nl)
    (hbody : ∀ (cdv : Value) (A : Around) (outer : List Env) (s : Shared) (H : Hp) (E : XK),Room k (A.deeper (envOfC qual (z0b st) s.heap.objs.size f cdv)) →
      PSs (z9A CX0 P w K mg base N qual (z0b st) f cdv A outer s H E).nox (z0l st) (tS K H noB true noX g)) : FnOk P w K mg base CX0 (k + 1) f fd ps (spN K (z2V np nl g)):=by
  refine F.ok S (fun vs H Q E h=>?_) fun cdv A outer s H vs Q E hr h=>?_
  · obtain ⟨ds,d,r,e,_⟩:=h
    rw [← r.length,z9s e,hnp]
  · obtain ⟨ds,d,r,e,kk⟩:=h
    refine ⟨_,hbody cdv A outer s H E hr,?_⟩
    have hl:=z9s e
    unfold z2V at e
    rw [if_pos hl] at e
    have rs:=z9G (nl:=nl) .no r (N:=N) (by omega)
    split at e
    · rename_i d' eg
      cases e
      exact ⟨_,_,_,rs,eg,fun v H' z _=>by
        obtain ⟨A',t,nd,fr⟩:=z.2.1 rfl
        exact kk v H' A' z.1 t nd fr⟩
    · rename_i δ' eg
      cases e
      exact ⟨_,_,_,rs,eg,fun σ' H' R' rs' _=>kk .non H' [] rs'.keep ⟨rfl,rfl⟩ List.nodup_nil (fun a z=>nomatch z)⟩
    · cases e
theorem z4u {x qual : Str} {st : Stmt} {f : Addr} {fd : FuncData} {N ps : List Str} {k np nl : Nat} {g : SS->Option Out} (F : Fun K x qual st f fd) (hm : mg x=some (.ref f)) (hb : Binds K fd ps []) (S : FnScope N ps (z0b st)) (hnp : ps.length=np) (hN : N.length=np + nl)
    (hbody : ∀ (cdv : Value) (A : Around) (outer : List Env) (s : Shared) (H : Hp) (E : XK),Room k (A.deeper (envOfC qual (z0b st) s.heap.objs.size f cdv)) →
      PSs (z9A CX0 P w K mg base N qual (z0b st) f cdv A outer s H E).nox (z0l st) (tS K H noB true noX g)) : DefOk P w K mg base (k + 1) x (spN K (z2V np nl g)):=
  ⟨f,fd,ps,hm,F.kp,hb,fnN F S hnp hN hbody⟩
end
end L2
namespace L2
open PySem PySem.Spec PyProof.Rows PySem.SeqAt
mutual
def toP : D->PyData
  | .non=>.none
  | .bl b=>.bool b
  | .int i=>.int i
  | .str x=>.str x
  | .lst ds=>.list (z3Q ds)
  | .tup ds=>.tuple (z3Q ds)
  | .scr ns=>.list (ns.map .int)
  | .dct _ _=>.dict []
  | .exc _=>.dict []
def z3Q : List D->List PyData
  | []=>[]
  | d :: ds=>toP d :: z3Q ds
end
theorem z5V {h : Heap} : ∀ (ns : List Int) {us : List Value},Vals (ns.map V.int) us->∃ as,ReadsAll h us (ns.map .int) as
  | [],_,.nil=>⟨_,.nil⟩
  | n :: ns,_,.cons r t=>by
    obtain ⟨tk,rfl⟩:=r
    obtain ⟨as,ra⟩:=z5V (h:=h) ns t
    exact ⟨_,.cons (.int n tk) ra⟩
section
variable {X : Cx} {pins : List (Addr × Obj)} {σ : St} {H : Hp} {s : Shared} {B : Addr->Prop}
mutual
theorem z0H (I : Inv X pins σ H s) : ∀ (d : D) {v : V} {u : Value},(toP d).canLay0=true->Rep X.K H B d v->RelV v u->∃ as,Reads s.heap u (toP d) as
  | .non,_,_,_,h,r=>by cases h; cases r; exact ⟨_,.none⟩
  | .bl b,_,_,_,h,r=>by cases h; cases r; exact ⟨_,.bool b⟩
  | .int i,_,_,_,h,r=>by cases h; obtain ⟨t,rfl⟩:=r; exact ⟨_,.int i t⟩
  | .str x,_,_,_,h,r=>by cases h; obtain ⟨t,rfl⟩:=r; exact ⟨_,.str x t⟩
  | .lst ds,_,_,hc,h,r=>by
    unfold Rep at h
    obtain ⟨a,xs,rfl,_,hq,rs⟩:=h
    cases r
    obtain ⟨its,rv,⟨o,n,e,c,_,dt⟩,_⟩:=I.list (SqL.of hq)
    have hc' : PyData.canLayAll0 (z3Q ds)=true:=by unfold toP PyData.canLay0 at hc; exact hc
    obtain ⟨as,ra⟩:=z4o I ds hc' rs rv
    unfold toP
    exact ⟨_,.list e c dt (by simpa using ra)⟩
  | .tup ds,_,_,hc,h,r=>by
    unfold Rep at h
    obtain ⟨a,xs,rfl,hq,rs⟩:=h
    cases r
    obtain ⟨its,rv,⟨o,e,c,n,dt⟩,_⟩:=I.tuple hq
    have hc' : PyData.canLayAll0 (z3Q ds)=true:=by unfold toP PyData.canLay0 at hc; exact hc
    obtain ⟨as,ra⟩:=z4o I ds hc' rs rv
    unfold toP
    exact ⟨_,.tuple e c dt (by simpa using ra)⟩
  | .scr ns,_,_,hc,h,r=>by
    unfold Rep at h
    obtain ⟨a,rfl,hq⟩:=h
    cases r
    obtain ⟨its,rv,⟨o,n,e,c,_,dt⟩,_⟩:=I.list hq.sq
    unfold toP
    obtain ⟨as,ra⟩:=z5V (h:=s.heap) ns rv
    exact ⟨_,.list e c dt (by simpa using ra)⟩
  | .dct _ _,_,_,hc,_,_=>by unfold toP PyData.canLay0 at hc; cases hc
  | .exc _,_,_,hc,_,_=>by unfold toP PyData.canLay0 at hc; cases hc
theorem z4o (I : Inv X pins σ H s) : ∀ (ds : List D) {xs : List V} {us : List Value},PyData.canLayAll0 (z3Q ds)=true->Reps X.K H B ds xs->Vals xs us->∃ as,ReadsAll s.heap us (z3Q ds) as
  | [],_,_,_,h,r=>by
    unfold Reps at h
    subst h
    cases r
    exact ⟨_,.nil⟩
  | d :: ds,_,_,hc,h,r=>by
    unfold Reps at h
    obtain ⟨x,rr,rfl,h1,h2⟩:=h
    unfold z3Q PyData.canLayAll0 at hc
    rw [Bool.and_eq_true] at hc
    cases r with
    | cons r1 r2=>
      obtain ⟨as,ra⟩:=z0H I d hc.1 h1 r1
      obtain ⟨bs,rb⟩:=z4o I ds hc.2 h2 r2
      unfold z3Q
      exact ⟨_,.cons ra rb⟩
end
end
noncomputable def okP (d : D) : Bool:=(toP d).canLay0 && decide ((toP d).depth≤60)
noncomputable def eqD (x y : D) : Option D:=if (okP x && okP y)=true then some (.bl (PyData.eqv (toP x) (toP y))) else none
noncomputable def neD (x y : D) : Option D:=if (okP x && okP y)=true then some (.bl (!PyData.eqv (toP x) (toP y))) else none
noncomputable def y1t (x : D) : D->Option Bool
  | .lst ds=>if (okP x && okP (.lst ds))=true then some (ds.any fun y=>PyData.eqv (toP y) (toP x)) else none
  | .tup ds=>if (okP x && okP (.tup ds))=true then some (ds.any fun y=>PyData.eqv (toP y) (toP x)) else none
  | _=>none
noncomputable def inD (x y : D) : Option D:=(y1t x y).map .bl
noncomputable def y3y (x y : D) : Option D:=(y1t x y).map fun b=>.bl (!b)
noncomputable def rEqD (K : PySem.W.Frag) : R2:=fun x y H Q=>∃ B dx dy,Rep K H B dx x∧Rep K H B dy y∧okP dx=true∧okP dy=true∧Q (.bl (PyData.eqv (toP dx) (toP dy))) H
noncomputable def rNeD (K : PySem.W.Frag) : R2:=fun x y H Q=>∃ B dx dy,Rep K H B dx x∧Rep K H B dy y∧okP dx=true∧okP dy=true∧Q (.bl (!PyData.eqv (toP dx) (toP dy))) H
theorem z0r {d : D} (h : okP d=true) : (toP d).canLay0=true∧(toP d).depth≤60:=by
  unfold okP at h
  rw [Bool.and_eq_true,decide_eq_true_eq] at h
  exact h
section
variable {X : Cx}
theorem y5Y (hu : X.A.units + 64 < cLine) : OpR X (compareOp .Eq) (rEqD X.K):=by
  intro pins s σ H x y v u Q I rx ry h
  obtain ⟨B,dx,dy,r1,r2,o1,o2,q⟩:=h
  obtain ⟨as,ra⟩:=z0H I dx (z0r o1).1 r1 rx
  obtain ⟨bs,rb⟩:=z0H I dy (z0r o2).1 r2 ry
  exact compareEq_reads ra rb (z0r o1).1 (z0r o2).1 (by have:=(z0r o1).2; omega) ⟨.bl _,H,I,rfl,q⟩
theorem op_neD (hu : X.A.units + 64 < cLine) : OpR X (compareOp .NotEq) (rNeD X.K):=by
  intro pins s σ H x y v u Q I rx ry h
  obtain ⟨B,dx,dy,r1,r2,o1,o2,q⟩:=h
  obtain ⟨as,ra⟩:=z0H I dx (z0r o1).1 r1 rx
  obtain ⟨bs,rb⟩:=z0H I dy (z0r o2).1 r2 ry
  exact compareNe_reads ra rb (z0r o1).1 (z0r o2).1 (by have:=(z0r o1).2; omega) ⟨.bl _,H,I,rfl,q⟩
theorem o2_eq {K : PySem.W.Frag} : Op2 K (rEqD K) eqD:=by
  intro H B dx dy d x y Q hB hx hy q k
  unfold eqD at q
  split at q
  · rename_i h
    rw [Bool.and_eq_true] at h
    cases q
    exact ⟨B,dx,dy,hx,hy,h.1,h.2,k _ H (.refl H) rfl⟩
  · cases q
theorem o2_ne {K : PySem.W.Frag} : Op2 K (rNeD K) neD:=by
  intro H B dx dy d x y Q hB hx hy q k
  unfold neD at q
  split at q
  · rename_i h
    rw [Bool.and_eq_true] at h
    cases q
    exact ⟨B,dx,dy,hx,hy,h.1,h.2,k _ H (.refl H) rfl⟩
  · cases q
theorem z3N (p : PyData->Bool) : ∀ ds : List D,(z3Q ds).any p=ds.any fun y=>p (toP y)
  | []=>rfl
  | d :: ds=>by unfold z3Q; rw [List.any_cons,List.any_cons,z3N p ds]
noncomputable def rInD (K : PySem.W.Frag) (neg : Bool) : R2:=fun x y H Q=>∃ B dx dy b,Rep K H B dx x∧Rep K H B dy y∧y1t dx dy=some b∧Q (.bl (if neg then !b else b)) H
theorem op_inD (hu : X.A.units + 64 < cLine) : OpR X (compareOp .In) (rInD X.K false):=by
  intro pins s σ H x y v u Q I rx ry h
  obtain ⟨B,dx,dy,b,r1,r2,o,q⟩:=h
  unfold y1t at o
  split at o
  · split at o
    · rename_i ds h
      rw [Bool.and_eq_true] at h
      cases o
      obtain ⟨as,ra⟩:=z0H I dx (z0r h.1).1 r1 rx
      obtain ⟨bs,rb⟩:=z0H I _ (z0r h.2).1 r2 ry
      have hc:=(z0r h.2).1
      unfold toP at rb hc
      unfold PyData.canLay0 at hc
      refine in_list_reads rb ra hc (z0r h.1).1 (by have:=(z0r h.1).2; omega) ?_
      rw [z3N]
      exact ⟨.bl _,H,I,rfl,q⟩
    · cases o
  · split at o
    · rename_i ds h
      rw [Bool.and_eq_true] at h
      cases o
      obtain ⟨as,ra⟩:=z0H I dx (z0r h.1).1 r1 rx
      obtain ⟨bs,rb⟩:=z0H I _ (z0r h.2).1 r2 ry
      have hc:=(z0r h.2).1
      unfold toP at rb hc
      unfold PyData.canLay0 at hc
      refine in_tuple_reads rb ra hc (z0r h.1).1 (by have:=(z0r h.1).2; omega) ?_
      rw [z3N]
      exact ⟨.bl _,H,I,rfl,q⟩
    · cases o
  · cases o
theorem op_ninD (hu : X.A.units + 64 < cLine) : OpR X (compareOp .NotIn) (rInD X.K true):=by
  intro pins s σ H x y v u Q I rx ry h
  obtain ⟨B,dx,dy,b,r1,r2,o,q⟩:=h
  unfold y1t at o
  split at o
  · split at o
    · rename_i ds h
      rw [Bool.and_eq_true] at h
      cases o
      obtain ⟨as,ra⟩:=z0H I dx (z0r h.1).1 r1 rx
      obtain ⟨bs,rb⟩:=z0H I _ (z0r h.2).1 r2 ry
      have hc:=(z0r h.2).1
      unfold toP at rb hc
      unfold PyData.canLay0 at hc
      refine notIn_list_reads rb ra hc (z0r h.1).1 (by have:=(z0r h.1).2; omega) ?_
      rw [z3N]
      exact ⟨.bl _,H,I,rfl,q⟩
    · cases o
  · split at o
    · rename_i ds h
      rw [Bool.and_eq_true] at h
      cases o
      obtain ⟨as,ra⟩:=z0H I dx (z0r h.1).1 r1 rx
      obtain ⟨bs,rb⟩:=z0H I _ (z0r h.2).1 r2 ry
      have hc:=(z0r h.2).1
      unfold toP at rb hc
      unfold PyData.canLay0 at hc
      refine notIn_tuple_reads rb ra hc (z0r h.1).1 (by have:=(z0r h.1).2; omega) ?_
      rw [z3N]
      exact ⟨.bl _,H,I,rfl,q⟩
    · cases o
  · cases o
theorem o2_in {K : PySem.W.Frag} : Op2 K (rInD K false) inD:=by
  intro H B dx dy d x y Q hB hx hy q k
  unfold inD at q
  cases e : y1t dx dy with
  | none=>rw [e] at q; cases q
  | some b=>
    rw [e] at q
    cases q
    exact ⟨B,dx,dy,b,hx,hy,e,k _ H (.refl H) rfl⟩
theorem o2_nin {K : PySem.W.Frag} : Op2 K (rInD K true) y3y:=by
  intro H B dx dy d x y Q hB hx hy q k
  unfold y3y at q
  cases e : y1t dx dy with
  | none=>rw [e] at q; cases q
  | some b=>
    rw [e] at q
    cases q
    exact ⟨B,dx,dy,b,hx,hy,e,k _ H (.refl H) rfl⟩
noncomputable def OpA (K : PySem.W.Frag) (r : List V->Hp->VK->Prop) (F : List D->Option D) : Prop:=∀ (H : Hp) (B : Addr->Prop) (ds : List D) (d : D) (vs : List V) (Q : VK),InB B H->Reps K H B ds vs->F ds=some d->(∀ v H',Same H H'->Rep K H' B d v->Q v H')->r vs H Q
noncomputable def OpL (K : PySem.W.Frag) (r : List V->Hp->VK->Prop) (F : List D->Option (List D)) : Prop:=∀ (H : Hp) (B : Addr->Prop) (ds es : List D) (vs : List V) (Q : VK),InB B H->Reps K H B ds vs->F ds=some es →
  (∀ a xs H',Same H H'->H a=none->H' a=some (.lst xs)->Reps K H' B es xs->Q (.ref a) H')->r vs H Q
noncomputable def z1Z (F : List D->Option (List D)) (fl : List DE) : DS->Option (List D):=fun δ=>(z0u fl δ).bind F
variable {x : Str} {bid T : String} {r : List V->Hp->VK->Prop} {e : Expr} {es : List Expr} {p pos : Pos} {fl : List DE}
theorem callA {F : List D->Option D} (ho : OpA X.K r F) (σ : St) (H : Hp) (Q : VK) (h : tD X.K (z0k F fl) σ H Q) : tCB r (tDs X.K (z0u fl)) σ H Q:=by
  obtain ⟨B,δ,d,hB,S,q,k⟩:=h
  obtain ⟨ds,e1,e2⟩:=z5M q
  exact ⟨B,δ,ds,hB,S,e1,fun vs H1 s1 r1=>ho H1 B ds d vs Q (hB.mono s1) r1 e2 fun v H' s' rv=>k v H' (s1.trans s') rv⟩
theorem callL {F : List D->Option (List D)} (ho : OpL X.K r F) (σ : St) (H : Hp) (Q : VK) (h : tF X.K (z1Z F fl) σ H Q) : tCB r (tDs X.K (z0u fl)) σ H Q:=by
  obtain ⟨B,δ,d,hB,S,q,k⟩:=h
  unfold z1Z at q
  cases e1 : z0u fl δ with
  | none=>rw [e1] at q; cases q
  | some ds=>
    rw [e1] at q
    exact ⟨B,δ,ds,hB,S,e1,fun vs H1 s1 r1=>ho H1 B ds d vs Q (hB.mono s1) r1 q fun a xs H' s' hn ha rv=>k a xs H' (s1.trans s') (s1.free hn) ha rv⟩
theorem z4L {F : List D->Option D} (hc : z4A X (.builtin bid) r) (hD : OpA X.K r F) (hg : Gl X x) (hm : X.mg x=none) (hv : bootBuiltins x=some (.builtin bid)) (ha : PAD X (e :: es) fl) (hn : x ≠ "__name__" := by decide) (hdb : (x == ("__debug__" : Str))=false:=by decide)
    (he : starEach (e :: es) X.env=(false,eval e X.env) :: starEach es X.env:=by rfl) (hpl : (backTo pos (starEach es X.env)).any (·.1)=false:=by rfl) : PD X (.Call (.Name x p) (e :: es) [] pos) (z0k F fl):=
  (z4G hc hg hm hv ha hn hdb he hpl).imp (callA hD)
theorem y5f {F : List D->Option (List D)} (hc : z4A X (.type T) r) (hD : OpL X.K r F) (hg : Gl X x) (hm : X.mg x=none) (hv : bootBuiltins x=some (.type T)) (ha : PAD X (e :: es) fl) (hn : x ≠ "__name__" := by decide) (hdb : (x == ("__debug__" : Str))=false:=by decide)
    (he : starEach (e :: es) X.env=(false,eval e X.env) :: starEach es X.env:=by rfl) (hpl : (backTo pos (starEach es X.env)).any (·.1)=false:=by rfl) : PF X (.Call (.Name x p) (e :: es) [] pos) (z1Z F fl):=
  (y2K hc hg hm hv ha hn hdb he hpl).imp (callL hD)
theorem z3O {K : PySem.W.Frag} {H : Hp} {B : Addr->Prop} {d : D} {vs : List V} (h : Reps K H B [d] vs) : ∃ v,vs=[v]∧Rep K H B d v:=by
  unfold Reps at h
  obtain ⟨x,r,rfl,h1,h2⟩:=h
  unfold Reps at h2
  subst h2
  exact ⟨x,rfl,h1⟩
theorem reps2 {K : PySem.W.Frag} {H : Hp} {B : Addr->Prop} {d e : D} {vs : List V} (h : Reps K H B [d,e] vs) : ∃ v u,vs=[v,u]∧Rep K H B d v∧Rep K H B e u:=by
  unfold Reps at h
  obtain ⟨x,r,rfl,h1,h2⟩:=h
  obtain ⟨u,rfl,h3⟩:=z3O h2
  exact ⟨x,u,rfl,h1,h3⟩
noncomputable def z2U : List D->Option D
  | [.lst ds]=>some (.int ds.length)
  | [.tup ds]=>some (.int ds.length)
  | [.scr ns]=>some (.int ns.length)
  | _=>none
theorem oa_len {K : PySem.W.Frag} : OpA K (fun xs H Q=>∃ x n,xs=[x]∧LenV K x H n∧Q (.int n) H) z2U:=by
  intro H B ds d vs Q hB hr q k
  unfold z2U at q
  split at q
  · cases q
    obtain ⟨v,rfl,r⟩:=z3O hr
    unfold Rep at r
    obtain ⟨a,xs,rfl,_,h,rs⟩:=r
    refine ⟨.ref a,xs.length,rfl,.inl ⟨xs,SqL.of h,rfl⟩,k _ H (.refl H) ?_⟩
    show V.int _=V.int _
    rw [rs.length]
  · cases q
    obtain ⟨v,rfl,r⟩:=z3O hr
    unfold Rep at r
    obtain ⟨a,xs,rfl,h,rs⟩:=r
    refine ⟨.ref a,xs.length,rfl,.inr ⟨xs,h,rfl⟩,k _ H (.refl H) ?_⟩
    show V.int _=V.int _
    rw [rs.length]
  · cases q
    obtain ⟨v,rfl,r⟩:=z3O hr
    unfold Rep at r
    obtain ⟨a,rfl,h⟩:=r
    exact ⟨.ref a,_,rfl,.inl ⟨_,h.sq,(List.length_map ..).symm⟩,k _ H (.refl H) rfl⟩
  · cases q
theorem z0U {f : DE} (hg : Gl X "len") (hm : X.mg "len" = none) (h : PD X e f) (he : starEach [e] X.env=[(false,eval e X.env)]:=by rfl) : PD X (.Call (.Name "len" p) [e] [] pos) (z0k z2U [f]):=
  z4L y3W oa_len hg hm PySem.boot_len (z0a h z0c he) (by decide) (by decide) he rfl
noncomputable def z4E : List D->Option (List Bool)
  | []=>some []
  | .bl b :: r=>(z4E r).map (b :: ·)
  | _=>none
noncomputable def z2H : List D->Option (List Int)
  | []=>some []
  | .int i :: r=>(z2H r).map (i :: ·)
  | _=>none
theorem z4l {K : PySem.W.Frag} {H : Hp} {B : Addr->Prop} : ∀ {ds : List D} {bs : List Bool} {xs : List V},z4E ds=some bs->Reps K H B ds xs->xs=bs.map V.bl
  | [],_,_,e,h=>by cases e; unfold Reps at h; exact h
  | .bl b :: r,bs,xs,e,h=>by
    unfold z4E at e
    cases q : z4E r with
    | none=>rw [q] at e; cases e
    | some cs=>
      rw [q] at e
      cases e
      unfold Reps at h
      obtain ⟨x,r',rfl,h1,h2⟩:=h
      rw [z4l q h2,show x=V.bl b from h1]
      rfl
  | .non :: _,_,_,e,_=>nomatch e
  | .int _ :: _,_,_,e,_=>nomatch e
  | .str _ :: _,_,_,e,_=>nomatch e
  | .lst _ :: _,_,_,e,_=>nomatch e
  | .tup _ :: _,_,_,e,_=>nomatch e
  | .dct _ _ :: _,_,_,e,_=>nomatch e
  | .exc _ :: _,_,_,e,_=>nomatch e
  | .scr _ :: _,_,_,e,_=>nomatch e
theorem z7i {K : PySem.W.Frag} {H : Hp} {B : Addr->Prop} : ∀ {ds : List D} {bs : List Int} {xs : List V},z2H ds=some bs->Reps K H B ds xs->xs=bs.map V.int
  | [],_,_,e,h=>by cases e; unfold Reps at h; exact h
  | .int b :: r,bs,xs,e,h=>by
    unfold z2H at e
    cases q : z2H r with
    | none=>rw [q] at e; cases e
    | some cs=>
      rw [q] at e
      cases e
      unfold Reps at h
      obtain ⟨x,r',rfl,h1,h2⟩:=h
      rw [z7i q h2,show x=V.int b from h1]
      rfl
  | .non :: _,_,_,e,_=>nomatch e
  | .bl _ :: _,_,_,e,_=>nomatch e
  | .str _ :: _,_,_,e,_=>nomatch e
  | .lst _ :: _,_,_,e,_=>nomatch e
  | .tup _ :: _,_,_,e,_=>nomatch e
  | .dct _ _ :: _,_,_,e,_=>nomatch e
  | .exc _ :: _,_,_,e,_=>nomatch e
  | .scr _ :: _,_,_,e,_=>nomatch e
theorem z6Q : ∀ {bs : List Bool} {us : List Value},Vals (bs.map V.bl) us->PyProof.Rows.LSm.BoolsAre us bs
  | [],_,.nil=>.nil
  | b :: bs,_,.cons r t=>by
    cases r
    exact .cons b (z6Q t)
theorem y2b (hc : X.calm=true) : z4A X (.builtin "all") (fun xs H Q=>∃ (p : Addr) (bs : List Bool),xs=[.ref p]∧SqL X.K H p (bs.map V.bl)∧Q (.bl (bs.all (fun b=>b))) H):=by
  intro pins s σ H xs us Q I r h
  obtain ⟨p,bs,rfl,hq,q⟩:=h
  obtain ⟨u,rfl,ru⟩:=y0z r
  cases ru
  obtain ⟨its,rv,pl,hz⟩:=I.list hq
  have hl:=pl.isList
  have hb:=z6Q rv
  have hlt : p < s.heap.objs.size:=by obtain ⟨_,e,_⟩:=hl; exact Heap.lt_size e
  refine call_all_walk (wpAny_pyIter_list hl ?_)
  refine ⟨s.heap.objs.size,[s.heap.objs.size,p],[s.heap.objs.size],its.toArray.size,_,_,fun i=>(bs[i]?).getD true,rfl,Walks.list (A:=X.A.in1) (I.ok.hd hc) _ p (Nat.ne_of_lt hlt) its.toArray,
    ⟨⟨_,Heap.get?_push_size _ rfl,rfl,rfl⟩,hl.push _⟩,fun i v s' Q' E' hP hQ=>?_,fun h' tk hk=>?_⟩
  · obtain ⟨b,e,rfl⟩:=hb.get i v (by simpa using hP)
    simp only [e,Option.getD_some] at hQ
    exact wpAny_truthy_bool hQ
  · have e : ((List.range its.toArray.size).all fun i=>(bs[i]?).getD true)=bs.all (fun b=>b):=by
      rw [List.size_toArray,hb.length]; exact LSm.range_all bs
    rw [e]
    exact ⟨.bl _,H,I.kept (LSm.kept_iter hk),rfl,q⟩
theorem y1M (hc : X.calm=true) : z4A X (.builtin "any") (fun xs H Q=>∃ (p : Addr) (bs : List Bool),xs=[.ref p]∧SqL X.K H p (bs.map V.bl)∧Q (.bl (bs.any (fun b=>b))) H):=by
  intro pins s σ H xs us Q I r h
  obtain ⟨p,bs,rfl,hq,q⟩:=h
  obtain ⟨u,rfl,ru⟩:=y0z r
  cases ru
  obtain ⟨its,rv,pl,hz⟩:=I.list hq
  have hl:=pl.isList
  have hb:=z6Q rv
  have hlt : p < s.heap.objs.size:=by obtain ⟨_,e,_⟩:=hl; exact Heap.lt_size e
  refine call_any_walk (wpAny_pyIter_list hl ?_)
  refine ⟨s.heap.objs.size,[s.heap.objs.size,p],[s.heap.objs.size],its.toArray.size,_,_,fun i=>(bs[i]?).getD false,rfl,Walks.list (A:=X.A.in1) (I.ok.hd hc) _ p (Nat.ne_of_lt hlt) its.toArray,
    ⟨⟨_,Heap.get?_push_size _ rfl,rfl,rfl⟩,hl.push _⟩,fun i v s' Q' E' hP hQ=>?_,fun h' tk hk=>?_⟩
  · obtain ⟨b,e,rfl⟩:=hb.get i v (by simpa using hP)
    simp only [e,Option.getD_some] at hQ
    exact wpAny_truthy_bool hQ
  · have e : ((List.range its.toArray.size).any fun i=>(bs[i]?).getD false)=bs.any (fun b=>b):=by
      rw [List.size_toArray,hb.length]; exact LSm.range_any bs
    rw [e]
    exact ⟨.bl _,H,I.kept (LSm.kept_iter hk),rfl,q⟩
noncomputable def allF : List D->Option D
  | [.lst ds]=>(z4E ds).map fun bs=>.bl (bs.all (fun b=>b))
  | _=>none
noncomputable def anyF : List D->Option D
  | [.lst ds]=>(z4E ds).map fun bs=>.bl (bs.any (fun b=>b))
  | _=>none
theorem oa_all {K : PySem.W.Frag} : OpA K (fun xs H Q=>∃ (p : Addr) (bs : List Bool),xs=[.ref p]∧SqL K H p (bs.map V.bl)∧Q (.bl (bs.all (fun b=>b))) H) allF:=by
  intro H B ds d vs Q hB hr q k
  unfold allF at q
  split at q
  · rename_i es
    cases e : z4E es with
    | none=>rw [e] at q; cases q
    | some bs=>
      rw [e] at q
      cases q
      obtain ⟨v,rfl,r⟩:=z3O hr
      unfold Rep at r
      obtain ⟨a,xs,rfl,_,h,rs⟩:=r
      rw [z4l e rs] at h
      exact ⟨a,bs,rfl,SqL.of h,k _ H (.refl H) rfl⟩
  · cases q
theorem oa_any {K : PySem.W.Frag} : OpA K (fun xs H Q=>∃ (p : Addr) (bs : List Bool),xs=[.ref p]∧SqL K H p (bs.map V.bl)∧Q (.bl (bs.any (fun b=>b))) H) anyF:=by
  intro H B ds d vs Q hB hr q k
  unfold anyF at q
  split at q
  · rename_i es
    cases e : z4E es with
    | none=>rw [e] at q; cases q
    | some bs=>
      rw [e] at q
      cases q
      obtain ⟨v,rfl,r⟩:=z3O hr
      unfold Rep at r
      obtain ⟨a,xs,rfl,_,h,rs⟩:=r
      rw [z4l e rs] at h
      exact ⟨a,bs,rfl,SqL.of h,k _ H (.refl H) rfl⟩
  · cases q
theorem y5R {f : DE} (hc : X.calm=true) (hg : Gl X "all") (hm : X.mg "all" = none) (h : PD X e f) (he : starEach [e] X.env=[(false,eval e X.env)]:=by rfl) : PD X (.Call (.Name "all" p) [e] [] pos) (z0k allF [f]):=
  z4L (y2b hc) oa_all hg hm PyProof.Rows.Boot.«all» (z0a h z0c he) (by decide) (by decide) he rfl
theorem pd_any {f : DE} (hc : X.calm=true) (hg : Gl X "any") (hm : X.mg "any" = none) (h : PD X e f) (he : starEach [e] X.env=[(false,eval e X.env)]:=by rfl) : PD X (.Call (.Name "any" p) [e] [] pos) (z0k anyF [f]):=
  z4L (y1M hc) oa_any hg hm PyProof.Rows.Boot.«any» (z0a h z0c he) (by decide) (by decide) he rfl
noncomputable def z6n : List D->Option (List D)
  | [.lst ds]=>some ds
  | [.tup ds]=>some ds
  | [.scr ns]=>some (ns.map .int)
  | _=>none
theorem ol_list {K : PySem.W.Frag} : OpL K (fun xs H Q=>∃ p ys,xs=[.ref p]∧(SqL K H p ys∨SqT K H p ys)∧∀ l,H l=none->Q (.ref l) (upd H l (.lst ys))) z6n:=by
  intro H B ds es vs Q hB hr q k
  unfold z6n at q
  split at q
  · cases q
    obtain ⟨v,rfl,r⟩:=z3O hr
    unfold Rep at r
    obtain ⟨a,xs,rfl,_,h,rs⟩:=r
    exact ⟨a,xs,rfl,.inl (SqL.of h),fun l hl=>k l xs _ (z0t hl) hl z0m (rs.mono (z0t hl))⟩
  · cases q
    obtain ⟨v,rfl,r⟩:=z3O hr
    unfold Rep at r
    obtain ⟨a,xs,rfl,h,rs⟩:=r
    exact ⟨a,xs,rfl,.inr h,fun l hl=>k l xs _ (z0t hl) hl z0m (rs.mono (z0t hl))⟩
  · cases q
    obtain ⟨v,rfl,r⟩:=z3O hr
    unfold Rep at r
    obtain ⟨a,rfl,h⟩:=r
    exact ⟨a,_,rfl,.inl h.sq,fun l hl=>k l _ _ (z0t hl) hl z0m (z1K _)⟩
  · cases q
theorem z7N {f : DE} (hg : Gl X "list") (hm : X.mg "list" = none) (h : PD X e f) (he : starEach [e] X.env=[(false,eval e X.env)]:=by rfl) : PF X (.Call (.Name "list" p) [e] [] pos) (z1Z z6n [f]):=
  y5f z8b ol_list hg hm PyProof.Rows.Boot.«list» (z0a h z0c he) (by decide) (by decide) he rfl
noncomputable def tupF : List D->Option D
  | [.lst ds]=>some (.tup ds)
  | [.tup ds]=>some (.tup ds)
  | _=>none
end
end L2
namespace L2
open PySem PySem.Spec PyProof.Rows
noncomputable def tyN : D->String
  | .non => "NoneType"
  | .bl _ => "bool"
  | .int _ => "int"
  | .str _ => "str"
  | .lst _ => "list"
  | .tup _ => "tuple"
  | .scr _ => "list"
  | .dct _ _ => "dict"
  | .exc _ => "object"
inductive IsT : String->Prop where
  | bool : IsT "bool" | int : IsT "int" | str : IsT "str" | list : IsT "list" | tuple : IsT "tuple" | dict : IsT "dict"
noncomputable def isF (T : String) (d : D) : Bool:=tyN d == T || (tyN d == "bool" && T == "int")
theorem kit_tt (K : PySem.W.Frag) {T : String} (h : IsT T) (d : D) (hd : ∀ x,d≠.exc x) : PySem.W.kitOne K (.type (tyN d)) (.type T)=some (isF T d):=by
  cases h <;> cases d <;> first | kernel_rfl | exact absurd rfl (hd _)
section
variable {prog : Program} {w : World} {A : Around} {E : Value->Shared->Prop} {K : PySem.W.Frag} {x D : Addr} {ox : Obj} {s : Shared}
theorem y2B {Q : Option Value->Shared->Prop} (X : K.In s.heap) (I : PySem.W.InstAt s.heap x ox D none) (hga : PySem.W.findIn K (.ref D) "__getattribute__" = some (some (.builtin "BaseException.__getattribute__"))) (hgh : PySem.W.findIn K (.ref D) "__getattr__" = some none)
    (hf : PySem.W.findObj K D none "__class__" = some (.bind (.builtin "getset_descriptor.__get__") (.builtin "object.__class__"))) (hm : PySem.W.mroIn K D (.type "object")=some true) (hb : PySem.W.mroIn K D (.type "BaseException")=some true)
    (h : Q (some (.ref D)) { s with toks:=s.toks + 1 }) : wpAny (model prog w) A (getAttr? (.ref x) "__class__") Q E s:=by
  obtain ⟨hp,gs,dr,tk,os⟩:=s
  have T0:=I.type (M:=model prog w)
  have T1:=PySem.W.looks_findIn (M:=model prog w) X hga
  have T2:=PySem.W.looks_findIn (M:=model prog w) X hgh
  have T3:=PySem.W.looks_find (M:=model prog w) X I hf
  have T4:=PySem.W.looks_mroIn (M:=model prog w) X hb
  have hne : (onTheHeap (Value.ref D) && Value.builtin "BaseException.__getattribute__" == Value.builtin "object.__getattribute__")=false:=by
    have z : (Value.builtin "BaseException.__getattribute__" == Value.builtin "object.__getattribute__")=false:=by decide +kernel
    rw [z,Bool.and_false]
  unfold getAttr? getAttrBy?
  refine wpAny_bind (wpAny_mkText ?_)
  refine wpAny_bind (wpAny_attempt ?_)
  unfold getAttrBy
  refine wpAny_holding (wpAny_bind (T0.at ?_))
  refine wpAny_bind (T1.at ?_)
  dsimp only
  rw [hne,if_neg Bool.false_ne_true]
  unfold getAttrByItsOwn hookBefore
  rw [if_pos (show onTheHeap (Value.ref D)=true from rfl)]
  refine wpAny_bind (T2.at ?_)
  refine wpAny_bind (wpAny_attempt (wpAny_holding ?_))
  unfold callGetattribute boundAndCalled
  rw [Bool.false_and,if_neg Bool.false_ne_true,F.excAttr_ValueError.ga.bind]
  refine wpAny_bind (wpAny_pure ?_)
  refine wpAny_call (codeAny_call_builtin F.excAttr_ValueError.ga.plain F.entry_bexc_ga ?_)
  have k1 : builtinKind "BaseException.__getattribute__" = some .slot:=by decide +kernel
  have k2 : splitId "BaseException.__getattribute__" = some ("BaseException", "__getattribute__"):=by decide +kernel
  simp only [checkBuiltinCall,k1,k2]
  have ha:=F.args_bexc_ga (.ref x) (.str "__class__" tk)
  have TI : PySem.W.Looks (model prog w) hp (isInstance (.ref x) (.type "BaseException")) true:=T0.andThen T4
  show wpAny _ _ (isInstance (.ref x) (.type "BaseException") >>= _) _ _ _
  refine wpAny_bind (TI.at ?_)
  rw [if_neg (by decide)]
  unfold argsOk at ha
  refine wpAny_of_eq (a:=()) ha ?_
  unfold Builtin.«object.__getattribute__»
  refine wpAny_bind (wpAny_of_eq (a:=(Value.ref x,[Value.str "__class__" tk])) rfl ?_)
  dsimp only
  refine wpAny_bind (wpAny_of_eq (a:=("__class__" : Str)) rfl ?_)
  refine wpAny_bind (T0.at ?_)
  refine wpAny_bind (T3.at ?_)
  show wpAny _ _ (holding [Value.builtin "object.__class__"] (call (.builtin "getset_descriptor.__get__") [.builtin "object.__class__",.ref x,.ref D]) >>= ret) _ _ _
  refine wpAny_bind (wpAny_holding (wpAny_call (PySem.W.class_get X I hm ?_)))
  refine wpAny_pure ?_
  exact PySem.W.handed_on rfl (wpAny_pure h)
end
theorem xcls_of {K : PySem.W.Frag} {C : Addr} (h : y1Q K C=true) : PySem.W.findIn K (.ref C) "__getattribute__" = some (some (.builtin "BaseException.__getattribute__"))∧PySem.W.findIn K (.ref C) "__getattr__" = some none∧PySem.W.mroIn K C (.type "BaseException")=some true∧(PySem.W.clsIn K C).isSome=true ∧
    PySem.W.findIn K (.ref C) "__class__" = some (some (.builtin "object.__class__"))∧PySem.W.specialIn K (.builtin "object.__class__") "__get__" = some (some (.builtin "getset_descriptor.__get__"))∧PySem.W.takesIn K (.builtin "object.__class__")=some true∧PySem.W.mroIn K C (.type "object")=some true:=by
  unfold y1Q at h
  simp only [Bool.and_eq_true,beq_iff_eq] at h
  exact ⟨h.1.1.1.1.1.1.1.1,h.1.1.1.1.1.1.1.2,h.1.1.1.1.1.1.2,h.1.1.1.1.1.2,h.1.1.1.1.2,h.1.1.1.2,h.1.1.2,h.1.2⟩
theorem y4B {K : PySem.W.Frag} {x C : Addr} {ox : Obj} (h : y1Q K C=true) : PySem.W.KitX K (.ref x) (.ref C) (fun g=>PySem.W.InstAt g x ox C none):=by
  obtain ⟨g1,g2,g3,h2,h3,h4,h5,h6⟩:=xcls_of h
  obtain ⟨cd,hcd⟩:=Option.isSome_iff_exists.mp h2
  have hk : ∃ c d sl,K.lookup C=some ⟨c,d,.cls cd,sl⟩:=by
    unfold PySem.W.clsIn at hcd
    split at hcd
    · cases hcd; exact ⟨_,_,_,by assumption⟩
    · cases hcd
  obtain ⟨c0,d0,sl0,hk⟩:=hk
  have hf : PySem.W.findObj K C none "__class__" = some (.bind (.builtin "getset_descriptor.__get__") (.builtin "object.__class__")):=by
    unfold PySem.W.findObj
    rw [hcd,Option.bind_some,h3,Option.bind_some]
    simp [h4,h5]
  refine ⟨fun _ _ _ I=>I.type,fun _ _ X _=>?_,fun g tp dd its n sl X ht=>?_,fun X I k=>?_⟩
  · intro A' Q' E' s' kk q
    unfold isType loadHead
    exact wpAny_bind (wpAny_loadPart (kk _ _ (X _ _ hk)) (wpAny_pure q))
  · cases hz : (Value.ref C == Value.ref tp) with
    | false=>rfl
    | true=>
      have e : C=tp:=Value.ref.inj (beq_iff_eq.mp hz)
      rw [← e] at ht
      have z:=(X _ _ hk).symm.trans ht
      cases z
  · exact y2B X I g1 g2 hf h6 g3 k
theorem exc_at {X : Cx} {pins : List (Addr × Obj)} {σ : St} {H : Hp} {s : Shared} {a C : Addr} (I : Inv X pins σ H s) (h : H a=some (.ext (isX a C))) : ∃ o,PySem.W.InstAt s.heap a o C none:=by
  obtain ⟨⟨o,h1,h2,h3,h4⟩,_⟩:=(show ObjOk X.prog X.w H s.heap a (.ext (isX a C)) from I.hok a _ h)
  exact ⟨o,h1,h2,h4,by rw [h3]; trivial⟩
section
variable {X : Cx} {pins : List (Addr × Obj)} {σ : St} {H : Hp} {s : Shared} {B : Addr->Prop} {A : Around} {E : Value->Shared->Prop} {Q : Value->Shared->Prop}
theorem y0y {d : D} {v : V} {u : Value} {T : String} (I : Inv X pins σ H s) (r : Rep X.K H B d v) (rv : RelV v u) (hT : IsT T) (h : ∀ tk,Q (.bool (isF T d)) { s with toks:=tk }) : wpAny (model X.prog X.w) A (call (.builtin "isinstance") [u,.type T]) Q E s:=by
  by_cases hd : ∃ x,d = .exc x
  · obtain ⟨x,rfl⟩:=hd
    unfold Rep at r
    obtain ⟨a,C,rfl,_,hq,_,hx⟩:=r
    cases rv
    obtain ⟨o,ie⟩:=exc_at I hq
    have e : PySem.W.kitOne X.K (.ref C) (.type T)=some (isF T (.exc x)):=by
      have h6:=(Bool.and_eq_true_iff.mp hx).2
      rw [List.all_eq_true] at h6
      have h7:=beq_iff_eq.mp (h6 T (by cases hT <;> decide))
      rw [h7]
      cases hT <;> rfl
    exact PySem.W.kia_one (y4B hx) I.kIn ie e (fun z=>nomatch z) h
  have hd : ∀ x,d≠.exc x:=fun x z=>hd ⟨x,z⟩
  have e:=kit_tt X.K hT d hd
  cases d with
  | exc x=>exact absurd rfl (hd x)
  | non=>cases r; cases rv; exact PySem.W.kia_one PySem.W.kitx_none I.kIn True.intro e (fun z=>nomatch z) h
  | bl y=>cases r; cases rv; exact PySem.W.kia_one PySem.W.kitx_bool I.kIn True.intro e (fun z=>nomatch z) h
  | int i=>cases r; obtain ⟨t,q⟩:=rv; cases q; exact PySem.W.kia_one PySem.W.kitx_int I.kIn True.intro e (fun z=>nomatch z) h
  | str y=>cases r; obtain ⟨t,q⟩:=rv; cases q; exact PySem.W.kia_one PySem.W.kitx_str I.kIn True.intro e (fun z=>nomatch z) h
  | lst ds=>
    unfold Rep at r
    obtain ⟨a,xs,rfl,_,hq,_⟩:=r
    cases rv
    obtain ⟨its,_,⟨o,n,e1,c,_⟩,_⟩:=I.list (SqL.of hq)
    exact PySem.W.kia_one PySem.W.kitx_list I.kIn ⟨o,e1,c⟩ e (fun z=>nomatch z) h
  | tup ds=>
    unfold Rep at r
    obtain ⟨a,xs,rfl,hq,_⟩:=r
    cases rv
    obtain ⟨its,_,⟨o,e1,c,_⟩,_⟩:=I.tuple hq
    exact PySem.W.kia_one PySem.W.kitx_tuple I.kIn ⟨o,e1,c⟩ e (fun z=>nomatch z) h
  | scr ns=>
    unfold Rep at r
    obtain ⟨a,rfl,hq⟩:=r
    cases rv
    obtain ⟨its,_,⟨o,n,e1,c,_⟩,_⟩:=I.list hq.sq
    exact PySem.W.kia_one PySem.W.kitx_list I.kIn ⟨o,e1,c⟩ e (fun z=>nomatch z) h
  | dct ks ds=>
    unfold Rep at r
    obtain ⟨a,kvs,rfl,_,ea,_⟩:=r
    cases rv
    obtain ⟨_,_,vs,_,p⟩:=(show ObjOk X.prog X.w H s.heap a (.dK kvs) from I.hok a _ ea)
    obtain ⟨o,es,ep,h1,h2,_⟩:=p
    exact PySem.W.kia_one PySem.W.kitx_dict I.kIn ⟨o,h1,h2.1⟩ e (fun z=>nomatch z) h
end
section
variable {X : Cx} {e : Expr} {p p2 pos : Pos}
noncomputable def dIs (T : String) (f : DE) : DE:=fun δ=>(f δ).map fun d=>.bl (isF T d)
theorem y4P {T : String} (hT : IsT T) : z4A X (.builtin "isinstance") (fun xs H Q=>∃ B d v,xs=[v,.ty T]∧Rep X.K H B d v∧Q (.bl (isF T d)) H):=by
  intro pins s σ H xs us Q I r h
  obtain ⟨B,d,v,rfl,rv,q⟩:=h
  obtain ⟨u,w',rfl,r1,r2⟩:=vals2 r
  cases r2
  exact y0y I rv r1 hT fun tk=>⟨.bl _,H,I.tok tk,rfl,q⟩
theorem pd_is {f : DE} {x : Str} {T : String} (hT : IsT T) (hb : bootBuiltins x=some (.type T)) (hx : Gl X x) (hmx : X.mg x=none) (hnx : x ≠ "__name__") (hdx : (x == ("__debug__" : Str))=false) (hg : Gl X "isinstance") (hm : X.mg "isinstance" = none) (h : PD X e f)
    (he : starEach [e,.Name x p2] X.env=[(false,eval e X.env),(false,eval (.Name x p2) X.env)]:=by rfl) (he2 : starEach [.Name x p2] X.env=[(false,eval (.Name x p2) X.env)]:=by rfl) : PD X (.Call (.Name "isinstance" p) [e,.Name x p2] [] pos) (dIs T f):=
  (z4G (y4P hT) hg hm boot_isinstance (z2a h (z2a (pe_bltn (v:=.ty T) hx hmx hb rfl hnx hdx) pa_nil he2) (by rw [he,he2])) (by decide) (by decide) (by rw [he,he2]) (by rw [he2]; rfl)).imp fun σ H Q z_=>by
    obtain ⟨B,δ,d,hB,S,q,k⟩:=z_
    unfold dIs at q
    cases e1 : f δ with
    | none=>rw [e1] at q; cases q
    | some d'=>
      rw [e1] at q
      cases q
      exact ⟨B,δ,d',hB,S,e1,fun v H1 s1 r1=>⟨B,d',v,rfl,r1,k _ H1 s1 rfl⟩⟩
theorem y1H {f : DE} (hx : Gl X "bool") (hmx : X.mg "bool" = none) (hg : Gl X "isinstance") (hm : X.mg "isinstance" = none) (h : PD X e f) (he : starEach [e,.Name "bool" p2] X.env=[(false,eval e X.env),(false,eval (.Name "bool" p2) X.env)]:=by rfl) :
    PD X (.Call (.Name "isinstance" p) [e,.Name "bool" p2] [] pos) (dIs "bool" f):=pd_is .bool PyProof.Rows.Boot.«bool» hx hmx (by decide) (by decide) hg hm h he rfl
theorem y3T {f : DE} (hx : Gl X "int") (hmx : X.mg "int" = none) (hg : Gl X "isinstance") (hm : X.mg "isinstance" = none) (h : PD X e f) (he : starEach [e,.Name "int" p2] X.env=[(false,eval e X.env),(false,eval (.Name "int" p2) X.env)]:=by rfl) :
    PD X (.Call (.Name "isinstance" p) [e,.Name "int" p2] [] pos) (dIs "int" f):=pd_is .int PyProof.Rows.Boot.«int» hx hmx (by decide) (by decide) hg hm h he rfl
end
noncomputable def z8o (i : Nat) : Option SD->Option SD
  | some (.bo r d)=>if r=i then none else some (.bo r d)
  | o=>o
noncomputable def z0w (i : Nat) (δ : SS) : SS:=δ.map (z8o i)
theorem z1Q {i j : Nat} {δ : SS} {x : SD} (h : (z0w i δ)[j]? = some (some x)) : δ[j]? = some (some x)∧∀ d,x≠.bo i d:=by
  unfold z0w at h
  rw [List.getElem?_map] at h
  cases e : δ[j]? with
  | none=>rw [e] at h; cases h
  | some o=>
    rw [e] at h
    have h' : z8o i o=some x:=Option.some.inj h
    unfold z8o at h'
    split at h'
    · rename_i r d
      split at h'
      · cases h'
      · rename_i hr
        cases h'
        exact ⟨rfl,fun d' z=>by cases z; exact hr rfl⟩
    · rename_i hn
      subst h'
      exact ⟨rfl,fun d z=>hn i d (by rw [z])⟩
section
variable {K : PySem.W.Frag} {H0 H : Hp} {B0 : Addr->Prop} {σ : St} {δ : SS} {R : Nat->List Addr}
theorem RS.rewrite {Hold : Hp} {i : Nat} {d d' : D} {a : Addr} {o : HO} {v : V} {A' : List Addr} (h : RS K H0 B0 Hold σ δ R) (e : Same Hold H) (hi : δ[i]? = some (some (.ow d))) (hv : σ[i]? = some (some v)) (ha : a∈R i) (t : Tree K (upd H a o) d' v A') (nd : A'.Nodup) (sub : ∀ b∈A',b∈R i∨Hold b=none) :
    RS K H0 B0 (upd H a o) σ ((z0w i δ).set i (some (.ow d'))) (z4r R i A')∧Stp R Hold (z4r R i A') (upd H a o):=by
  have hm:=h.mono e
  obtain ⟨oa,ea,ma⟩:=hm.held i a ha
  have mH : Mut (H a):=by rw [ea]; exact ma
  have mem : ∀ r b,b∈z4r R i A' r->b∈R r∨(r=i∧Hold b=none):=fun r b z=>by
    by_cases hr : r=i
    · subst hr; rw [z0y] at z; exact (sub b z).imp id fun q=>⟨rfl,q⟩
    · rw [z0N hr] at z; exact .inl z
  have kt : KeepI K H (upd H a o):=(Keep.upd (K:=K) (B:=fun x=>x=a) rfl mH).i
  have nh : ∀ r b,b∈R r->Hold b=none->False:=fun r b z q=>by
    obtain ⟨u,q',_⟩:=h.held r b z
    rw [q] at q'; cases q'
  refine ⟨⟨fun b u q=>?_,h.inB,by simp [z0w,h.len],fun r b z=>?_,fun r b z=>?_,fun r s b z z'=>?_,fun j d2 z=>?_,fun j r2 d2 z=>?_,fun j d2 z=>?_⟩,⟨fun b u q n=>?_,fun r b z=>?_,fun b z=>?_⟩⟩
  · have ne : b≠a:=fun z=>by subst z; rw [h.new i b ha] at q; cases q
    rw [z0q ne]; exact hm.keep b u q
  · rcases mem r b z with z | ⟨_,z⟩
    · exact h.new r b z
    · exact h.keep.free z
  · by_cases hr : r=i
    · subst hr; rw [z0y] at z; exact t.held d' b z
    · rw [z0N hr] at z
      have ne : b≠a:=fun q=>hr (h.disj r i b z (q ▸ ha))
      rw [z0q ne]; exact hm.held r b z
  · rcases mem r b z with z | ⟨z1,z2⟩ <;> rcases mem s b z' with z' | ⟨z1',z2'⟩
    · exact h.disj r s b z z'
    · exact (nh r b z z2').elim
    · exact (nh s b z' z2).elim
    · rw [z1,z1']
  · rcases z1w z with ⟨rfl,q,_⟩ | ⟨hj,q⟩
    · cases q
    · obtain ⟨q1,_⟩:=z1Q q
      obtain ⟨w,e1,r⟩:=h.sh j d2 q1
      have r2:=(Rep.wide (C:=fun b=>Hold b=none) (fun _ z=>z) d2 r).mono e
      refine ⟨w,e1,Rep.anti ?_ d2 (Rep.keep (.upd (.inl (.inr ⟨i,ha⟩)) mH) d2 r2)⟩
      rintro b (z | ⟨r,z⟩)
      · exact .inl (.inl z)
      · rcases mem r b z with z | ⟨_,z⟩
        · exact .inl (.inr ⟨r,z⟩)
        · exact .inr z
  · rcases z1w z with ⟨rfl,q,_⟩ | ⟨hj,q⟩
    · cases q
    · obtain ⟨q1,q2⟩:=z1Q q
      have hr : i≠r2:=fun e=>q2 d2 (by rw [e])
      obtain ⟨w,e1,r⟩:=h.bo j r2 d2 q1
      have r3:=(Rep.wide (C:=fun b=>Hold b=none) (fun _ z=>z) d2 r).mono e
      refine ⟨w,e1,Rep.anti ?_ d2 (Rep.keep (.upd (.inl (.inr ⟨i,hr,ha⟩)) mH) d2 r3)⟩
      rintro b (z | ⟨s,hs,z⟩)
      · exact .inl (.inl z)
      · rcases mem s b z with z | ⟨_,z⟩
        · exact .inl (.inr ⟨s,hs,z⟩)
        · exact .inr z
  · rcases z1w z with ⟨rfl,q,_⟩ | ⟨hj,q⟩
    · cases q
      rw [z0y]
      exact ⟨v,hv,t,nd⟩
    · obtain ⟨q1,_⟩:=z1Q q
      obtain ⟨w,e1,t',nd'⟩:=hm.ow j d2 q1
      rw [z0N hj]
      refine ⟨w,e1,Tree.keep kt d2 t' fun b hb u q=>?_,nd'⟩
      have ne : b≠a:=fun z=>by subst z; exact hj (h.disj j i b hb ha)
      rw [z0q ne]; exact q
  · have ne : b≠a:=fun z=>n i (z ▸ ha)
    rw [z0q ne]; exact e b u q
  · rcases mem r b z with z | ⟨_,z⟩
    · exact .inl ⟨r,z⟩
    · exact .inr z
  · by_cases hb : b=a
    · subst hb; rw [z0m] at z; cases z
    · rw [z0q hb] at z; exact e.free z
mutual
theorem Tree.flat : ∀ (d : D) {v : V} {A : List Addr},d.imm=true->Tree K H d v A->A=[]
  | .non,_,_,_,h=>h.2
  | .bl _,_,_,_,h=>h.2
  | .int _,_,_,_,h=>h.2
  | .str _,_,_,_,h=>h.2
  | .lst _,_,_,i,_=>by unfold D.imm at i; cases i
  | .dct _ _,_,_,i,_=>by unfold D.imm at i; cases i
  | .exc _,_,_,i,_=>by unfold D.imm at i; cases i
  | .tup ds,_,_,i,h=>by
    unfold D.imm at i
    unfold Tree at h
    obtain ⟨a,xs,_,_,r⟩:=h
    exact Trees.flat ds i r
  | .scr _,_,_,_,h=>h.2
theorem Trees.flat : ∀ (ds : List D) {xs : List V} {A : List Addr},z1L ds=true->Trees K H ds xs A->A=[]
  | [],_,_,_,h=>h.2
  | d :: ds,_,_,i,h=>by
    unfold z1L at i
    rw [Bool.and_eq_true] at i
    unfold Trees at h
    obtain ⟨x,r,C,C',rfl,h1,h2,rfl⟩:=h
    rw [Trees.flat ds i.2 h2,List.append_nil]
    exact Tree.flat d i.1 h1
end
theorem Trees.append : ∀ {ds es : List D} {xs ys : List V} {A C : List Addr},Trees K H ds xs A->Trees K H es ys C->Trees K H (ds ++ es) (xs ++ ys) (A ++ C)
  | [],_,_,_,_,_,h,h'=>by obtain ⟨rfl,rfl⟩:=h; exact h'
  | d :: ds,es,_,ys,_,C,h,h'=>by
    unfold Trees at h
    obtain ⟨y,r,A1,A2,rfl,h1,h2,rfl⟩:=h
    exact (show Trees K H (d :: (ds ++ es)) (y :: (r ++ ys)) (A1 ++ A2 ++ C) by unfold Trees; exact ⟨y,_,A1,A2 ++ C,rfl,h1,Trees.append h2 h',List.append_assoc _ _ _⟩)
theorem Trees.split : ∀ {ds : List D} {xs : List V} {A : List Addr} (k : Nat),Trees K H ds xs A->∃ A1 A2,A=A1 ++ A2∧Trees K H (ds.take k) (xs.take k) A1∧Trees K H (ds.drop k) (xs.drop k) A2
  | ds,xs,A,0,h=>⟨[],A,rfl,by rw [List.take_zero,List.take_zero]; exact ⟨rfl,rfl⟩,h⟩
  | [],_,_,k + 1,h=>by
    obtain ⟨rfl,rfl⟩:=h
    exact ⟨[],[],rfl,⟨rfl,rfl⟩,⟨rfl,rfl⟩⟩
  | d :: ds,_,_,k + 1,h=>by
    unfold Trees at h
    obtain ⟨y,r,A1,A2,rfl,h1,h2,rfl⟩:=h
    obtain ⟨C1,C2,rfl,h3,h4⟩:=Trees.split k h2
    refine ⟨A1 ++ C1,C2,(List.append_assoc _ _ _).symm,?_,h4⟩
    rw [List.take_succ_cons,List.take_succ_cons]
    unfold Trees
    exact ⟨y,_,A1,C1,rfl,h1,h3,rfl⟩
theorem Trees.one {d : D} {x : V} {A : List Addr} (h : Tree K H d x A) : Trees K H [d] [x] A:=by
  unfold Trees
  exact ⟨x,[],A,[],rfl,h,⟨rfl,rfl⟩,(List.append_nil _).symm⟩
theorem Trees.length : ∀ {ds : List D} {xs : List V} {A : List Addr},Trees K H ds xs A->ds.length=xs.length
  | [],_,_,h=>by obtain ⟨rfl,_⟩:=h; rfl
  | d :: ds,_,_,h=>by
    unfold Trees at h
    obtain ⟨x,r,_,_,rfl,_,h2,_⟩:=h
    simp [Trees.length h2]
theorem RS.top {i : Nat} {ds : List D} (h : RS K H0 B0 H σ δ R) (hi : δ[i]? = some (some (.ow (.lst ds)))) : ∃ a xs A,σ[i]? = some (some (.ref a))∧H a=some (.lst xs)∧Trees K H ds xs A∧R i=a :: A∧(a :: A).Nodup:=by
  obtain ⟨v,e,t,nd⟩:=h.ow i _ hi
  unfold Tree at t
  obtain ⟨a,xs,A,rfl,ha,ts,e2⟩:=t
  rw [e2] at nd
  exact ⟨a,xs,A,e,ha,ts,e2,nd⟩
theorem RS.put0 {Hold : Hp} {i : Nat} {ds ds' : List D} {a : Addr} {xs' : List V} {A A' : List Addr} (h : RS K H0 B0 Hold σ δ R) (e : Same Hold H) (hi : δ[i]? = some (some (.ow (.lst ds)))) (hv : σ[i]? = some (some (.ref a))) (hR : R i=a :: A) (nd : (a :: A).Nodup)
    (t : Trees K H ds' xs' A') (nd' : A'.Nodup) (sub : ∀ b∈A',b∈A∨Hold b=none) : RS K H0 B0 (upd H a (.lst xs')) σ ((z0w i δ).set i (some (.ow (.lst ds')))) (z4r R i (a :: A'))∧Stp R Hold (z4r R i (a :: A')) (upd H a (.lst xs')):=by
  have ha : a∈R i:=by rw [hR]; exact List.mem_cons_self
  obtain ⟨oa,ea,ma⟩:=h.held i a ha
  have nA : ∀ b∈A',b≠a:=fun b hb z=>by
    rcases sub b hb with q | q
    · exact (List.nodup_cons.mp nd).1 (z ▸ q)
    · rw [z,ea] at q; cases q
  have mH : Mut (H a):=by rw [e a oa ea]; exact ma
  refine h.rewrite e hi hv ha ?_ (List.nodup_cons.mpr ⟨fun z=>nA a z rfl,nd'⟩) fun b hb=>?_
  · unfold Tree
    refine ⟨a,xs',A',rfl,z0m,Trees.keep (Keep.upd (K:=K) (B:=fun x=>x=a) rfl mH).i ds' t fun b hb o q=>?_,rfl⟩
    rw [z0q (nA b hb)]; exact q
  · rw [hR]
    rcases List.mem_cons.mp hb with z | z
    · rw [z]; exact .inl List.mem_cons_self
    · exact (sub b z).imp (List.mem_cons_of_mem _) id
theorem Trees.set1 {es : List D} : ∀ {ds : List D} {xs : List V} {A : List Addr} (k : Nat),Trees K H ds xs A->A.Nodup->ds[k]? = some (.lst es)->z1L es=true →
    ∃ b ys,xs[k]? = some (.ref b)∧H b=some (.lst ys)∧b∈A∧Trees K H es ys []∧∀ es' ys',Trees K H es' ys' []->Trees K (upd H b (.lst ys')) (ds.set k (.lst es')) xs A
  | [],_,_,_,_,_,e,_=>by simp at e
  | d :: ds,_,_,0,h,nd,e,hi=>by
    simp at e
    subst e
    unfold Trees at h
    obtain ⟨x,r,A1,A2,rfl,h1,h2,rfl⟩:=h
    unfold Tree at h1
    obtain ⟨b,ys,C,rfl,hb,tb,rfl⟩:=h1
    have eC:=Trees.flat es hi tb
    subst eC
    have mH : Mut (H b):=by rw [hb]; exact trivial
    have kt : ∀ o,KeepI K H (upd H b o):=fun o=>(Keep.upd (K:=K) (B:=fun x=>x=b) (o:=o) rfl mH).i
    refine ⟨b,ys,rfl,hb,by simp,tb,fun es' ys' t'=>?_⟩
    rw [List.set_cons_zero]
    unfold Trees
    refine ⟨.ref b,r,[b],A2,rfl,?_,Trees.keep (kt _) ds h2 fun c hc o q=>?_,rfl⟩
    · unfold Tree
      exact ⟨b,ys',[],rfl,z0m,Trees.keep (kt _) es' t' (fun c hc=>nomatch hc),rfl⟩
    · have ne : c≠b:=fun z=>(List.nodup_cons.mp nd).1 (by rw [← z]; exact hc)
      rw [z0q ne]; exact q
  | d :: ds,_,_,k + 1,h,nd,e,hi=>by
    unfold Trees at h
    obtain ⟨x,r,A1,A2,rfl,h1,h2,rfl⟩:=h
    have ndA:=List.nodup_append.mp nd
    obtain ⟨b,ys,e1,hb,hbA,tb,up⟩:=Trees.set1 k h2 ndA.2.1 (by simpa using e) hi
    refine ⟨b,ys,by simpa using e1,hb,List.mem_append_right _ hbA,tb,fun es' ys' t'=>?_⟩
    have mH : Mut (H b):=by rw [hb]; exact trivial
    have kt : KeepI K H (upd H b (.lst ys')):=(Keep.upd (K:=K) (B:=fun x=>x=b) rfl mH).i
    rw [List.set_cons_succ]
    unfold Trees
    refine ⟨x,r,A1,A2,rfl,Tree.keep kt d h1 fun c hc o q=>?_,up es' ys' t',rfl⟩
    have ne : c≠b:=fun z=>ndA.2.2 c hc b hbA z
    rw [z0q ne]; exact q
theorem RS.put1 {Hold : Hp} {i k : Nat} {ds es : List D} (h : RS K H0 B0 Hold σ δ R) (e : Same Hold H) (hi : δ[i]? = some (some (.ow (.lst ds)))) (hk : ds[k]? = some (.lst es)) (hm : z1L es=true) :
    ∃ a xs b ys,σ[i]? = some (some (.ref a))∧Hold a=some (.lst xs)∧xs[k]? = some (.ref b)∧Hold b=some (.lst ys)∧ds.length=xs.length∧Trees K H es ys []∧∀ es' ys',Trees K H es' ys' [] →
      RS K H0 B0 (upd H b (.lst ys')) σ ((z0w i δ).set i (some (.ow (.lst (ds.set k (.lst es')))))) (z4r R i (R i))∧Stp R Hold (z4r R i (R i)) (upd H b (.lst ys')):=by
  obtain ⟨a,xs,A,ev,ha,ts,eR,nd⟩:=h.top hi
  obtain ⟨b,ys,e1,hb,hbA,tb,_⟩:=Trees.set1 k ts (List.nodup_cons.mp nd).2 hk hm
  obtain ⟨b',ys',e1',hb',_,tb',up⟩:=Trees.set1 k (ts.mono e) (List.nodup_cons.mp nd).2 hk hm
  rw [e1] at e1'
  cases e1'
  refine ⟨a,xs,b,ys,ev,ha,e1,hb,ts.length,tb.mono e,fun es' zs t'=>?_⟩
  have hba : b∈R i:=by rw [eR]; exact List.mem_cons_of_mem _ hbA
  have nba : a≠b:=fun z=>(List.nodup_cons.mp nd).1 (z ▸ hbA)
  refine h.rewrite e hi ev hba ?_ (by rw [eR]; exact nd) fun c hc=>.inl hc
  rw [eR]
  unfold Tree
  exact ⟨a,xs,A,rfl,by rw [z0q nba]; exact e _ _ ha,up es' zs t',rfl⟩
end
end L2
namespace L2
open PySem PySem.Spec PyProof.Rows
noncomputable instance {i j : Int} : Decidable (CDiv i j):=by unfold CDiv; infer_instance
noncomputable instance {i j : Int} : Decidable (CPow i j):=by unfold CPow; infer_instance
noncomputable instance {i j : Int} : Decidable (CMul i j):=by unfold CMul; infer_instance
noncomputable def LM (K : PySem.W.Frag) (r : V->List V->Hp->VK->Prop) (F : List D->List D->Option (List D)) : Prop:=
  ∀ (H : Hp) (a : Addr) (xs : List V) (ds args : List D) (vs : List V) (ds' : List D) (Q : VK),H a=some (.lst xs)->ds.length=xs.length->Reps K H noB args vs->F ds args=some ds' →
    (∀ (w : V) (xs' : List V),(∀ (H2 : Hp) (A C : List Addr),Trees K H2 ds xs A->Trees K H2 args vs C->∃ A',Trees K H2 ds' xs' A'∧((A ++ C).Nodup->A'.Nodup)∧∀ b∈A',b∈A∨b∈C)->Q w (upd H a (.lst xs')))->r (.ref a) vs H Q
noncomputable def z6y : List D->List D->Option (List D):=fun ds args=>match args with
  | [d]=>if ds.length < sizeLine then some (ds ++ [d]) else none
  | _=>none
theorem z5i {K : PySem.W.Frag} : LM K z6v z6y:=by
  intro H a xs ds args vs ds' Q ha hl hr q k
  unfold z6y at q
  split at q
  · rename_i d
    split at q
    · rename_i hz
      cases q
      obtain ⟨y,rfl,ry⟩:=z3O hr
      refine ⟨a,xs,y,rfl,rfl,ha,by rw [← hl]; exact hz,k _ _ fun H2 A C t tc=>⟨A ++ C,t.append tc,fun z=>z,fun b hb=>List.mem_append.mp hb⟩⟩
    · cases q
  · cases q
noncomputable def y0O (n : Nat) (i : Int) : Nat:=if i < 0 then (i + (n : Int)).toNat else min i.toNat n
noncomputable def y1h : V->List V->Hp->VK->Prop:=fun x vs H Q=>∃ l xs i y,x = .ref l∧vs=[.int i,y]∧H l=some (.lst xs)∧xs.length < sizeLine∧-(2 ^ 63)≤i∧i < 2 ^ 63∧Q .non (upd H l (.lst (xs.take (y0O xs.length i) ++ y :: xs.drop (y0O xs.length i))))
theorem ins_arr (its : List Value) (k : Nat) (y : Value) : (its.toArray.extract 0 k).push y ++ its.toArray.extract k=(its.take k ++ y :: its.drop k).toArray:=by
  apply Array.ext'
  simp
  rw [List.take_of_length_le (by simp)]
theorem y1F {X : Cx} : MtM X "list.insert" y1h:=by
  intro pins s σ H x vs v us Q I rx rv h
  obtain ⟨l,xs,i,y,rfl,rfl,hH,hz,h1,h2,q⟩:=h
  cases rx
  obtain ⟨u,w',rfl,⟨t,rfl⟩,ry⟩:=rv.two
  obtain ⟨z,its,n,r,hl,e⟩:=I.lstM hH
  have hfit : Builtin.List.listFitsIndex i=true:=fitsIndex_both h1 h2
  refine call_meets F.slot_list_insert ⟨_,e,rfl⟩ F.entry_list_insert (F.args_list_insert_3 _ _ _)
    (AutoSeq1.list_insert_list_int_val_1 l its.toArray n i t w' (by rw [hfit]; decide) (by rw [List.size_toArray]; omega)) ⟨e,?_⟩
  refine ⟨.non,_,I.lset (its':=its.take (y0O its.length i) ++ w' :: its.drop (y0O its.length i)) (ys:=xs.take (y0O xs.length i) ++ y :: xs.drop (y0O xs.length i)) hH e ?_ ?_ ?_,rfl,q⟩
  · show (its.toArray.extract 0 (if i < 0 then (i + (its.toArray.size : Int)).toNat else min i.toNat its.toArray.size)).push w' ++ its.toArray.extract (if i < 0 then (i + (its.toArray.size : Int)).toNat else min i.toNat its.toArray.size)=_
    rw [ins_arr,List.size_toArray]
    rfl
  · rw [← hl]
    exact (r.take _).append (.cons ry (r.drop _))
  · have : y0O xs.length i≤xs.length∨¬ y0O xs.length i≤xs.length:=Decidable.em _
    simp only [List.length_append,List.length_take,List.length_cons,List.length_drop]
    omega
noncomputable def insF : List D->List D->Option (List D):=fun ds args=>match args with
  | [.int i,d]=>if ds.length < sizeLine∧-(2 ^ 63)≤i∧i < 2 ^ 63 then some (ds.take (y0O ds.length i) ++ d :: ds.drop (y0O ds.length i)) else none
  | _=>none
theorem y2i {A1 A2 C : List Addr} (h : (A1 ++ A2 ++ C).Nodup) : (A1 ++ (C ++ A2)).Nodup:=by
  have p : (A1 ++ A2 ++ C).Perm (A1 ++ (C ++ A2)):=by
    rw [List.append_assoc]
    exact List.Perm.append_left _ List.perm_append_comm
  exact p.nodup_iff.mp h
theorem y2Y {K : PySem.W.Frag} : LM K y1h insF:=by
  intro H a xs ds args vs ds' Q ha hl hr q k
  unfold insF at q
  split at q
  · rename_i i d
    split at q
    · rename_i hz
      cases q
      obtain ⟨v,y,rfl,rv,ry⟩:=reps2 hr
      cases (show v=V.int i from rv)
      refine ⟨a,xs,i,y,rfl,rfl,ha,by rw [← hl]; exact hz.1,hz.2.1,hz.2.2,k _ _ fun H2 A C t tc=>?_⟩
      rw [← hl]
      obtain ⟨A1,A2,rfl,t1,t2⟩:=t.split (y0O ds.length i)
      unfold Trees at tc
      obtain ⟨x1,r1,C1,C2,e1,h1,h2,rfl⟩:=tc
      cases e1
      obtain ⟨_,eC1⟩:=(show V.int i=V.int i∧C1=[] from h1)
      subst eC1
      unfold Trees at h2
      obtain ⟨x2,r2,C3,C4,e2,h3,h4,rfl⟩:=h2
      cases e2
      obtain ⟨_,rfl⟩:=h4
      refine ⟨A1 ++ (C3 ++ A2),t1.append ?_,fun z=>?_,fun b hb=>?_⟩
      · unfold Trees
        exact ⟨_,_,C3,A2,rfl,h3,t2,rfl⟩
      · simp only [List.nil_append,List.append_nil] at z
        exact y2i z
      · simp only [List.nil_append,List.append_nil,List.mem_append] at hb ⊢
        rcases hb with z | z | z
        · exact .inl (.inl z)
        · exact .inr z
        · exact .inl (.inr z)
    · cases q
  · cases q
theorem Trees.erase {K : PySem.W.Frag} {H : Hp} : ∀ {ds : List D} {xs : List V} {A : List Addr} (k : Nat),Trees K H ds xs A->∃ A',Trees K H (ds.eraseIdx k) (xs.eraseIdx k) A'∧A'.Sublist A
  | [],_,_,_,h=>by
    obtain ⟨rfl,rfl⟩:=h
    exact ⟨[],⟨rfl,rfl⟩,List.Sublist.refl _⟩
  | d :: ds,_,_,0,h=>by
    unfold Trees at h
    obtain ⟨x,r,A1,A2,rfl,h1,h2,rfl⟩:=h
    exact ⟨A2,h2,List.sublist_append_right _ _⟩
  | d :: ds,_,_,k + 1,h=>by
    unfold Trees at h
    obtain ⟨x,r,A1,A2,rfl,h1,h2,rfl⟩:=h
    obtain ⟨A',t,sb⟩:=Trees.erase k h2
    refine ⟨A1 ++ A',?_,List.Sublist.append_left sb _⟩
    rw [List.eraseIdx_cons_succ,List.eraseIdx_cons_succ]
    unfold Trees
    exact ⟨x,_,A1,A',rfl,h1,t,rfl⟩
section
variable {X : Cx} {H0 : Hp} {B0 : Addr->Prop} {fr : Bool} {RX : XR} {e e2 : Expr} {es : List Expr} {pos ap cp : Pos} {x name : Str} {px p2 : Pos} {bid : String} {r : V->List V->Hp->VK->Prop} {F : List D->List D->Option (List D)} {fl : List DE}
noncomputable def m0 (i : Nat) (F : List D->List D->Option (List D)) (fl : List DE) : SS->Option Out:=fun δ=>(z0u fl (z0v δ)).bind fun args=>if z1L args=true then (match δ[i]? with
  | some (some (.ow (.lst ds)))=>(F ds args).map fun ds'=>.nx ((z0w i δ).set i (some (.ow (.lst ds'))))
  | _=>none) else none
theorem m0_core {i : Nat} {to : TE} (hL : LM X.K r F) (hto : to=z7K i) (D : Ends) (σ : St) (H : Hp) (h : tS X.K H0 B0 fr RX (m0 i F fl) D σ H) : tDrop (tBM X.K "list" r to (tDs X.K (z0u fl))) D σ H:=by
  subst hto
  obtain ⟨δ,R,o,rs,q,k⟩:=h
  unfold m0 at q
  cases e1 : z0u fl (z0v δ) with
  | none=>rw [e1] at q; cases q
  | some args=>
    rw [e1] at q
    have q : (if z1L args=true then (match δ[i]? with | some (some (.ow (.lst ds)))=>(F ds args).map fun ds'=>Out.nx ((z0w i δ).set i (some (.ow (.lst ds')))) | _=>none) else none)=some o:=q
    split at q
    case isFalse=>cases q
    case isTrue hi=>
    split at q
    case h_2=>cases q
    case h_1 ds ei=>
    cases e2 : F ds args with
    | none=>rw [e2] at q; cases q
    | some ds'=>
      rw [e2] at q
      cases q
      obtain ⟨a,xs,A,ev,ha,ts,eR,nd⟩:=rs.top ei
      refine ⟨.ref a,ev,.inl ⟨rfl,xs,SqL.of ha⟩,noB,z0v δ,args,.no,rs.all,e1,fun vs H2 s2 r2=>?_⟩
      refine hL H2 a xs ds args vs ds' _ (s2 _ _ ha) ts.length r2 e2 fun w xs' up=>?_
      obtain ⟨A',t',n',sub⟩:=up H2 A [] (ts.mono s2) (r2.immTree args hi)
      have P:=rs.put0 s2 ei ev eR nd t' (n' (by rw [List.append_nil]; exact (List.nodup_cons.mp nd).2)) fun b hb=>(sub b hb).imp id (fun z=>nomatch z)
      exact k σ _ _ P.1 P.2
theorem s_m0 {i : Nat} (slot : Slot "list" name bid) (hty : typeOf (.builtin bid)=pure (.type "method_descriptor")) (hm : MtM X bid r) (hL : LM X.K r F) (hx : PE X (.Name x px) (z7K i)) (ha : PAD X (e :: es) fl)
    (hbase : attributeBase (.Name x px) name X.env (eval (.Name x px) X.env)=eval (.Name x px) X.env:=by rfl)
    (hfew : ((backTo cp (starEach (e :: es) X.env)).all (fun x=>!x.1) && (backToKw cp (keywordEach [] X.env)).all (fun x=>x.1.isSome) && decide ((e :: es).length + ([] : List Keyword).length + (if ([] : List Keyword).isEmpty then 0 else 1) < 30))=true:=by rfl)
    (hline : (ap.endLine == cp.line)=true:=by rfl) (hs : starEach (e :: es) X.env=(false,eval e X.env) :: starEach es X.env:=by rfl) (hplain : (backTo cp (starEach es X.env)).any (·.1)=false:=by rfl)
    (hsw : swapsWith (.Call (.Attribute (.Name x px) name ap) (e :: es) [] cp) none pos.line X.env=pure false:=by rfl) :
    PS X (.Expr (.Call (.Attribute (.Name x px) name ap) (e :: es) [] cp) pos) (tS X.K H0 B0 fr RX (m0 i F fl)):=
  PS.imp (z4X (y5l PySem.F.plainAttrs_list slot hty hm hx ha hbase hfew hline hs hplain) hsw) (m0_core hL rfl)
noncomputable def m1 (i : Nat) (fk : DE) (F : List D->List D->Option (List D)) (fl : List DE) : SS->Option Out:=fun δ=>(fk (z0v δ)).bind fun dk=>match dk with
  | .int k=>(z0u fl (z0v δ)).bind fun args=>if z1L args=true then (match δ[i]? with
    | some (some (.ow (.lst ds)))=>(ixN ds.length k).bind fun j=>match ds[j]? with
      | some (.lst es)=>if z1L es=true then (F es args).bind fun es'=>if z1L es'=true then some (.nx ((z0w i δ).set i (some (.ow (.lst (ds.set j (.lst es'))))))) else none else none
      | _=>none
    | _=>none) else none
  | _=>none
noncomputable def st0 (i : Nat) (fk fv : DE) : SS->Option Out:=fun δ=>(fv (z0v δ)).bind fun d=>if d.imm=true then (fk (z0v δ)).bind fun dk=>(match dk,δ[i]? with
  | .int k,some (some (.ow (.lst ds)))=>(ixN ds.length k).map fun j=>.nx ((z0w i δ).set i (some (.ow (.lst (ds.set j d)))))
  | _,_=>none) else none
noncomputable def st1 (i : Nat) (fk fj fv : DE) : SS->Option Out:=fun δ=>(fv (z0v δ)).bind fun d=>if d.imm=true then (fk (z0v δ)).bind fun dk=>(fj (z0v δ)).bind fun dj=>(match dk,dj,δ[i]? with
  | .int k,.int j,some (some (.ow (.lst ds)))=>(ixN ds.length k).bind fun k'=>(match ds[k']? with
    | some (.lst es)=>if z1L es=true then (ixN es.length j).map fun j'=>.nx ((z0w i δ).set i (some (.ow (.lst (ds.set k' (.lst (es.set j' d))))))) else none
    | _=>none)
  | _,_,_=>none) else none
end
end L2
namespace L2
open PySem PySem.Spec PyProof.Rows
theorem Trees.setI {K : PySem.W.Frag} {H : Hp} {d : D} {y : V} (ty : Tree K H d y []) : ∀ {ds : List D} {xs : List V} {A : List Addr} (j : Nat),Trees K H ds xs A->∃ A',Trees K H (ds.set j d) (xs.set j y) A'∧A'.Sublist A
  | [],_,_,_,h=>by
    obtain ⟨rfl,rfl⟩:=h
    exact ⟨[],⟨rfl,rfl⟩,List.Sublist.refl _⟩
  | e :: ds,_,_,0,h=>by
    unfold Trees at h
    obtain ⟨x,r,A1,A2,rfl,h1,h2,rfl⟩:=h
    refine ⟨A2,?_,List.sublist_append_right _ _⟩
    rw [List.set_cons_zero,List.set_cons_zero]
    unfold Trees
    exact ⟨y,r,[],A2,rfl,ty,h2,rfl⟩
  | e :: ds,_,_,k + 1,h=>by
    unfold Trees at h
    obtain ⟨x,r,A1,A2,rfl,h1,h2,rfl⟩:=h
    obtain ⟨A',t,sb⟩:=Trees.setI ty k h2
    refine ⟨A1 ++ A',?_,List.Sublist.append_left sb _⟩
    rw [List.set_cons_succ,List.set_cons_succ]
    unfold Trees
    exact ⟨x,_,A1,A',rfl,h1,t,rfl⟩
section
variable {X : Cx} {H0 : Hp} {B0 : Addr->Prop} {fr : Bool} {RX : XR} {e ke je : Expr} {pos : Pos} {x : Str} {px p2 p3 : Pos}
theorem s_st0 {i : Nat} {fk fv : DE} (hx : PE X (.Name x px) (z7K i)) (hk : PD X ke fk) (hv : PD X e fv)
    (ha : ∀ v,assign (.Subscript (.Name x px) ke p2) X.env v=(do
      let ov ← holding [v] (eval (.Name x px) X.env)
      let iv ← holding [v,ov] (eval ke X.env)
      standAt p2
      holding [v,ov,iv] (setItem ov iv v)
      release [v,ov,iv] []):=by intro _; rfl)
    (hs : swapsWithSole [.Subscript (.Name x px) ke p2] e pos.line X.env=pure false:=by rfl) (hw : swappedStores [.Subscript (.Name x px) ke p2] e X.env=pure none:=by rfl)
    (h1 : (assignEach [.Subscript (.Name x px) ke p2] X.env).map (·.2)=[assign (.Subscript (.Name x px) ke p2) X.env]:=by rfl) :
    PS X (.Assign [.Subscript (.Name x px) ke p2] e pos) (tS X.K H0 B0 fr RX (st0 i fk fv)):=
  PS.imp (y5S hv (y5P hx hk z9n ha) hs hw h1) fun D σ H z_=>by
    obtain ⟨δ,R,o,rs,q,kk⟩:=z_
    unfold st0 at q
    cases e1 : fv (z0v δ) with
    | none=>rw [e1] at q; cases q
    | some d=>
    rw [e1] at q
    have q : (if d.imm=true then (fk (z0v δ)).bind fun dk=>(match dk,δ[i]? with
      | .int k,some (some (.ow (.lst ds)))=>(ixN ds.length k).map fun j=>Out.nx ((z0w i δ).set i (some (.ow (.lst (ds.set j d)))))
      | _,_=>none) else none)=some o:=q
    split at q
    case isFalse=>cases q
    case isTrue hi=>
    cases e2 : fk (z0v δ) with
    | none=>rw [e2] at q; cases q
    | some dk=>
    rw [e2] at q
    simp only [Option.bind_some] at q
    split at q
    case h_2=>cases q
    case h_1=>
    rename_i k ds ei
    cases ej : ixN ds.length k with
    | none=>rw [ej] at q; cases q
    | some j=>
    rw [ej] at q
    cases q
    obtain ⟨a,xs,A,ev,ha',ts,eR,nd⟩:=rs.top ei
    refine ⟨noB,z0v δ,d,.no,rs.all,e1,fun v H1 s1 r1=>⟨.ref a,ev,noB,z0v δ,.int k,.no,rs.all.mono s1,e2,fun v2 H2 s2 r2=>?_⟩⟩
    cases (show v2=V.int k from r2)
    refine ⟨a,xs,k,j,rfl,rfl,s2 _ _ (s1 _ _ ha'),by rw [← ts.length]; exact ej,?_⟩
    obtain ⟨A',t',sb⟩:=Trees.setI ((r1.immTree d hi).mono s2) j (ts.mono (s1.trans s2))
    have P:=rs.put0 (s1.trans s2) ei ev eR nd t' ((List.nodup_cons.mp nd).2.sublist sb) fun b hb=>.inl (sb.subset hb)
    exact kk σ _ _ P.1 P.2
theorem s_st1 {i : Nat} {fk fj fv : DE} (hx : PE X (.Name x px) (z7K i)) (hk : PD X ke fk) (hj : PD X je fj) (hv : PD X e fv) (hpi : z6Z ke:=by intro _ _; rfl)
    (ha : ∀ v,assign (.Subscript (.Subscript (.Name x px) ke p3) je p2) X.env v=(do
      let ov ← holding [v] (eval (.Subscript (.Name x px) ke p3) X.env)
      let iv ← holding [v,ov] (eval je X.env)
      standAt p2
      holding [v,ov,iv] (setItem ov iv v)
      release [v,ov,iv] []):=by intro _; rfl)
    (hs : swapsWithSole [.Subscript (.Subscript (.Name x px) ke p3) je p2] e pos.line X.env=pure false:=by rfl) (hw : swappedStores [.Subscript (.Subscript (.Name x px) ke p3) je p2] e X.env=pure none:=by rfl)
    (h1 : (assignEach [.Subscript (.Subscript (.Name x px) ke p3) je p2] X.env).map (·.2)=[assign (.Subscript (.Subscript (.Name x px) ke p3) je p2) X.env]:=by rfl) :
    PS X (.Assign [.Subscript (.Subscript (.Name x px) ke p3) je p2] e pos) (tS X.K H0 B0 fr RX (st1 i fk fj fv)):=
  PS.imp (y5S hv (y5P (pe_ix ix_list hx hk hpi) hj z9n ha) hs hw h1) fun D σ H z_=>by
    obtain ⟨δ,R,o,rs,q,kk⟩:=z_
    unfold st1 at q
    cases e1 : fv (z0v δ) with
    | none=>rw [e1] at q; cases q
    | some d=>
    rw [e1] at q
    have q : (if d.imm=true then (fk (z0v δ)).bind fun dk=>(fj (z0v δ)).bind fun dj=>(match dk,dj,δ[i]? with
      | .int k,.int j,some (some (.ow (.lst ds)))=>(ixN ds.length k).bind fun k'=>(match ds[k']? with
        | some (.lst es)=>if z1L es=true then (ixN es.length j).map fun j'=>Out.nx ((z0w i δ).set i (some (.ow (.lst (ds.set k' (.lst (es.set j' d))))))) else none
        | _=>none)
      | _,_,_=>none) else none)=some o:=q
    split at q
    case isFalse=>cases q
    case isTrue hi=>
    cases e2 : fk (z0v δ) with
    | none=>rw [e2] at q; cases q
    | some dk=>
    cases e3 : fj (z0v δ) with
    | none=>rw [e2,e3] at q; cases q
    | some dj=>
    rw [e2,e3] at q
    simp only [Option.bind_some] at q
    split at q
    case h_2=>cases q
    case h_1=>
    rename_i k j ds ei
    cases ek : ixN ds.length k with
    | none=>rw [ek] at q; cases q
    | some k'=>
    rw [ek] at q
    have q : (match ds[k']? with
        | some (.lst es)=>if z1L es=true then (ixN es.length j).map fun j'=>Out.nx ((z0w i δ).set i (some (.ow (.lst (ds.set k' (.lst (es.set j' d))))))) else none
        | _=>none)=some o:=q
    split at q
    case h_2=>cases q
    case h_1 es ed=>
    split at q
    case isFalse=>cases q
    case isTrue hes=>
    cases ej : ixN es.length j with
    | none=>rw [ej] at q; cases q
    | some j'=>
    rw [ej] at q
    cases q
    obtain ⟨a,xs,b,ys,ev,ha',hxb,hb,hln,_,_⟩:=rs.put1 (.refl H) ei ed hes
    have hat : atI xs k=some (.ref b):=by
      unfold atI
      rw [← hln,ek]
      exact hxb
    refine ⟨noB,z0v δ,d,.no,rs.all,e1,fun v H1 s1 r1=>⟨.ref a,ev,noB,z0v δ,.int k,.no,rs.all.mono s1,e2,fun v2 H2 s2 r2=>?_⟩⟩
    cases (show v2=V.int k from r2)
    refine ⟨a,xs,k,.ref b,rfl,rfl,SqL.of (s2 _ _ (s1 _ _ ha')),hat,noB,z0v δ,.int j,.no,(rs.all.mono s1).mono s2,e3,fun v3 H3 s3 r3=>?_⟩
    cases (show v3=V.int j from r3)
    obtain ⟨a',xs',b',ys',ev',ha'',hxb',hb',_,tb,up⟩:=rs.put1 ((s1.trans s2).trans s3) ei ed hes
    rw [ev] at ev'; cases ev'
    rw [ha'] at ha''; cases ha''
    rw [hxb] at hxb'; cases hxb'
    rw [hb] at hb'; cases hb'
    refine ⟨b,ys,j,j',rfl,rfl,s3 _ _ (s2 _ _ (s1 _ _ hb)),by rw [← tb.length]; exact ej,?_⟩
    obtain ⟨A',t',sb⟩:=Trees.setI (((r1.immTree d hi).mono s2).mono s3) j' tb
    have eA : A'=[]:=List.sublist_nil.mp sb
    subst eA
    have P:=up _ _ t'
    exact kk σ _ _ P.1 P.2
end
section
variable {X : Cx} {e a b : Expr} {lo hi : Option Expr} {p2 pos : Pos}
noncomputable def cutL (ds : List D) (lo hi : Option Int) : List D:=(ds.drop (HT.sIx ds.length 0 lo)).take (HT.sIx ds.length ds.length hi - HT.sIx ds.length 0 lo)
noncomputable def dCut (f : DE) (fl fh : DS->Option (Option Int)) : DS->Option (List D):=fun δ=>match f δ with
  | some (.lst ds)=>(fl δ).bind fun lo=>(fh δ).map fun hi=>cutL ds lo hi
  | some (.scr ns)=>(fl δ).bind fun lo=>(fh δ).map fun hi=>cutL (ns.map .int) lo hi
  | _=>none
end
section
variable {X : Cx} {pos : Pos} {x : Str} {iter elt : Expr} {N' : List Str} {sc : Scope} {ifs : List Expr} {n : Nat} {px : Pos} {fi : DS->Option (List D)} {fc : DS->Option Bool} {fe : DE}
theorem z9T {σ : St} {H : Hp} {Q : VK} (hσ : σ.length=n) (hq : tN X.K (mkL (z1r fi fc fe)) σ H Q) : y2v (tI X.K fi) (z2b n) (tT X.K fc) (tN X.K fe) 1 σ H Q:=by
  obtain ⟨δ,d0,Sδ,q,k⟩:=hq
  unfold mkL at q
  cases eds : z1r fi fc fe δ with
  | none=>rw [eds] at q; cases q
  | some ds=>
  rw [eds] at q
  cases q
  unfold z1r at eds
  cases e1 : fi δ with
  | none=>rw [e1] at eds; cases eds
  | some xs=>
  rw [e1] at eds
  have q1 : (if xs.length≤sizeLine then z1z (fun x=>(fc (δ ++ [some x])).bind fun k=>if k=true then (fe (δ ++ [some x])).map some else some none) xs else none)=some ds:=eds
  split at q1
  case isFalse=>cases q1
  case isTrue hsz=>
  refine ⟨noB,δ,xs,.no,Sδ,e1,fun J H1 s1 itw=>fun Da hD=>?_⟩
  have hD0 : H Da=none:=s1.free hD
  have it:=itw (fun a=>H1 a=none) fun a ha=>ha
  obtain ⟨I,hI⟩ : ∃ I : Nat->Nat->St->Hp->Prop,I=fun i m σ' H'=>m=xs.length - i∧i≤xs.length∧(∃ w,σ'=σ ++ [w])∧Same H1 H'∧∃ ys dn rs A,H' Da=some (.lst ys)∧Trees X.K H' dn ys A∧(Da :: A).Nodup∧(∀ a∈A,H1 a=none)∧ds=dn ++ rs∧dn.length≤i ∧
      z1z (fun x=>(fc (δ ++ [some x])).bind fun k=>if k=true then (fe (δ ++ [some x])).map some else some none) (xs.drop i)=some rs:=⟨_,rfl⟩
  refine ⟨I,⟨xs.length,by rw [hI]; exact ⟨by simp,Nat.zero_le _,⟨none,rfl⟩,z0t hD,[],[],ds,[],z0m,.nil,List.nodup_cons.mpr ⟨(fun z=>nomatch z),List.nodup_nil⟩,(fun a z=>nomatch z),rfl,Nat.le_refl _,q1⟩⟩,?_⟩
  intro i m σ' H' hh
  rw [hI] at hh
  obtain ⟨rfl,hi',⟨w,rfl⟩,sm,ys,dn,rs,A,hys,tys,nd,fr,hds,hln,hrs⟩:=hh
  have kp : Keep X.K (fun a=>noB a∨H1 a=none) H1 H':=.same sm
  by_cases hlt : i < xs.length
  · refine .inr ⟨it.go i H' kp hlt,fun σ'' H''=>I (i + 1) (xs.length - (i + 1)) σ'' H'',fun σ'' H'' h=>⟨xs.length - (i + 1),by omega,h⟩,fun xv H2 hy=>?_⟩
    obtain ⟨s2,d,hd,rd⟩:=it.yld i H' xv H2 kp hy
    have hdi:=hd hlt
    have hx : xs.drop i=d :: xs.drop (i + 1):=by
      obtain ⟨hl,e⟩:=List.getElem?_eq_some_iff.mp hdi
      rw [List.drop_eq_getElem_cons hl,e]
    rw [hx] at hrs
    obtain ⟨o,rs',e2,e3,e4⟩:=z3Y hrs
    show tT X.K fc ((σ ++ [w]).set n (some xv)) H2 _
    rw [← hσ,z6G]
    have S2 : RepS X.K H2 noB (σ ++ [some xv]) (δ ++ [some d]):=(((Sδ.mono s1).mono sm).mono s2).snoc (rd.anti fun a z=>z.elim)
    have hl2 : ys.length < sizeLine:=by
      have:=tys.length
      omega
    cases ec : fc (δ ++ [some d]) with
    | none=>rw [ec] at e2; cases e2
    | some kk=>
      rw [ec] at e2
      have e2' : (if kk=true then (fe (δ ++ [some d])).map some else some none)=some o:=e2
      refine ⟨noB,δ ++ [some d],kk,.no,S2,ec,fun H3 s3=>?_⟩
      cases kk with
      | false=>
        rw [if_neg Bool.false_ne_true] at e2'
        rw [if_neg Bool.false_ne_true]
        cases e2'
        rw [hI]
        exact ⟨rfl,hlt,⟨_,rfl⟩,(sm.trans s2).trans s3,ys,dn,rs',A,s3 _ _ (s2 _ _ hys),(tys.mono s2).mono s3,nd,fr,by rw [hds,e4]; rfl,Nat.le_succ_of_le hln,e3⟩
      | true=>
        rw [if_pos rfl] at e2'
        rw [if_pos rfl]
        cases ey : fe (δ ++ [some d]) with
        | none=>rw [ey] at e2'; cases e2'
        | some y=>
          rw [ey] at e2'
          cases e2'
          refine ⟨δ ++ [some d],y,S2.mono s3,ey,fun yv H5 A5 s5 t5 nd5 fr5=>⟨ys,s5 _ _ (s3 _ _ (s2 _ _ hys)),hl2,?_⟩⟩
          have s15 : Same H' H5:=(s2.trans s3).trans s5
          have hu : H5 Da=some (.lst ys):=s15 _ _ hys
          have mu : Mut (H5 Da):=by rw [hu]; exact trivial
          have hDa3 : H3 Da=some (.lst ys):=s3 _ _ (s2 _ _ hys)
          have nDa : Da ∉ A ++ A5:=fun z=>by
            rcases List.mem_append.mp z with z | z
            · exact (List.nodup_cons.mp nd).1 z
            · have:=fr5 Da z
              rw [hDa3] at this; cases this
          rw [hI]
          refine ⟨rfl,hlt,⟨_,rfl⟩,fun b u hb=>?_,ys ++ [yv],dn ++ [y],rs',A ++ A5,z0m,?_,List.nodup_cons.mpr ⟨nDa,?_⟩,fun a ha=>?_,by rw [hds,e4,List.append_assoc]; rfl,by rw [List.length_append]; simp; omega,e3⟩
          · rw [z0q (z1e hb hD)]
            exact s15 _ _ (sm _ _ hb)
          · refine Trees.keep (Keep.upd (K:=X.K) (B:=fun x=>x=Da) rfl mu).i _ ((tys.mono s15).snoc t5) fun b hb u q=>?_
            have ne : b≠Da:=fun z=>nDa (z ▸ hb)
            rw [z0q ne]; exact q
          · refine List.nodup_append.mpr ⟨(List.nodup_cons.mp nd).2,nd5,fun b hb c hc z=>?_⟩
            subst z
            obtain ⟨u,q,_⟩:=Trees.held _ tys b hb
            have:=fr5 b hc
            rw [(s2.trans s3) _ _ q] at this; cases this
          · rcases List.mem_append.mp ha with z | z
            · exact fr a z
            · exact sm.free ((s2.trans s3).free (fr5 a z))
  · have e : i=xs.length:=by omega
    subst e
    refine .inl ⟨it.stop _ H' kp (Nat.le_refl _),?_⟩
    rw [List.drop_length] at hrs
    cases hrs
    rw [List.append_nil] at hds
    subst hds
    refine k (.ref Da) H' (Da :: A) (s1.trans sm) ?_ nd fun a ha=>?_
    · unfold Tree
      exact ⟨Da,ys,A,rfl,hys,tys,rfl⟩
    · rcases List.mem_cons.mp ha with z | z
      · rw [z]; exact hD0
      · exact s1.free (fr a z)
theorem z3B (hc : X.calm=true) (S : CompScope X.N X.env.scope.names N' 1 sc) (hn : n=X.N.length) (hi : PID X (.Name x px) iter fi)
    (hg : ∀ s H fp pins E,PG (z0C X N' sc s H fp pins E) (.Name x px) (z2b n)) (ht : ∀ s H fp pins E,y3q (z0C X N' sc s H fp pins E) ifs (tT X.K fc)) (he : ∀ s H fp pins E,PE (z0C X N' sc s H fp pins E) elt (tN X.K fe))
    (hs : ∀ x,foldedSetIterable iter X.env x=pure x:=by intro _; rfl) : PN X (.ListComp elt [⟨.Name x px,iter,ifs,0⟩] sc pos) (mkL (z1r fi fc fe)):=by
  intro pins s σ H Q I hq
  exact z9b hc S hi ⟨hg,ht,he⟩ hs pins s σ H Q I (z9T (by rw [hn,I.len]) hq)
theorem pas_cN {i : Nat} {y : Str} {py spos : Pos} (hN : X.N.Nodup) (hy : X.N[i]? = some y) (hyl : X.env.scope.names.lookup y=some .local) (hc : X.calm=true) (S : CompScope X.N X.env.scope.names N' 1 sc) (hn : n=X.N.length) (hi : PID X (.Name x px) iter fi)
    (hg : ∀ s H fp pins E,PG (z0C X N' sc s H fp pins E) (.Name x px) (z2b n)) (ht : ∀ s H fp pins E,y3q (z0C X N' sc s H fp pins E) ifs (tT X.K fc)) (he : ∀ s H fp pins E,PE (z0C X N' sc s H fp pins E) elt (tN X.K fe))
    (hsw : swapsWith (.ListComp elt [⟨.Name x px,iter,ifs,0⟩] sc pos) (some (.Name y py)) spos.line X.env=pure true:=by rfl) (hs : ∀ x,foldedSetIterable iter X.env x=pure x:=by intro _; rfl) :
    PS X (.Assign [.Name y py] (.ListComp elt [⟨.Name x px,iter,ifs,0⟩] sc pos) spos) (tAsg (tN X.K (mkL (z1r fi fc fe))) (z2b i)):=by
  intro pins s σ H D I hq
  exact y2Q hc S hN hy hyl hi ⟨hg,ht,he⟩ hsw hs pins s σ H D I (z9T (by rw [hn,I.len]) hq)
end
end L2
namespace L2
open PySem PySem.Spec PyProof.Rows
section
variable {X : Cx} {a b : Expr} {pos : Pos} {f g : DE}
noncomputable def y3p : D->D->Option D:=iop fun i j=>some (.int (i + j))
noncomputable def subI : D->D->Option D:=iop fun i j=>some (.int (i - j))
noncomputable def mulI : D->D->Option D:=iop fun i j=>if CMul i j then some (.int (i * j)) else none
noncomputable def y3s : D->D->Option D:=iop fun i j=>if CDiv i j then some (.int (i / j)) else none
noncomputable def z7t : D->D->Option D:=iop fun i j=>if 0 < j then some (.int (i % j)) else none
noncomputable def ltI : D->D->Option D:=iop fun i j=>some (.bl (decide (i < j)))
noncomputable def leI : D->D->Option D:=iop fun i j=>some (.bl (decide (i≤j)))
noncomputable def gtI : D->D->Option D:=iop fun i j=>some (.bl (decide (j < i)))
theorem z4s (ha : PD X a f) (hb : PD X b g) : PD X (.BinOp a .Add b pos) (d2 y3p f g):=y3f op_add y2H ha hb
theorem y5v (ha : PD X a f) (hb : PD X b g) : PD X (.BinOp a .Sub b pos) (d2 subI f g):=y3f op_sub y2H ha hb
theorem pd_mul (ha : PD X a f) (hb : PD X b g) : PD X (.BinOp a .Mult b pos) (d2 mulI f g):=y3f op_mul y2a ha hb
theorem z9j (ha : PD X a f) (hb : PD X b g) : PD X (.BinOp a .FloorDiv b pos) (d2 y3s f g):=y3f op_fdiv y2a ha hb
theorem z4v (ha : PD X a f) (hb : PD X b g) : PD X (.BinOp a .Mod b pos) (d2 z7t f g):=y3f op_mod y2a ha hb
theorem y0A (hu : X.A.units + 64 < cLine) (ha : PD X a f) (hb : PD X b g) : PD X (.Compare a [.Eq] [b] pos) (d2 eqD f g):=pd_cmp (y5Y hu) o2_eq ha hb (z7o _)
theorem pt_lt (ha : PD X a f) (hb : PD X b g) : PTD X (.Compare a [.Lt] [b] pos) (z1o (d2 ltI f g)):=z4b op_lt z4H ha hb (z7o _)
theorem pt_gt (ha : PD X a f) (hb : PD X b g) : PTD X (.Compare a [.Gt] [b] pos) (z1o (d2 gtI f g)):=z4b op_gt z4H ha hb (z7o _)
theorem z8B (hu : X.A.units + 64 < cLine) (ha : PD X a f) (hb : PD X b g) : PTD X (.Compare a [.Eq] [b] pos) (z1o (d2 eqD f g)):=z4b (y5Y hu) o2_eq ha hb (z7o _)
theorem pt_ne (hu : X.A.units + 64 < cLine) (ha : PD X a f) (hb : PD X b g) : PTD X (.Compare a [.NotEq] [b] pos) (z1o (d2 neD f g)):=z4b (op_neD hu) o2_ne ha hb (z7o _)
theorem y4i (hu : X.A.units + 64 < cLine) (ha : PD X a f) (hb : PD X b g) (hm : behindInMarks .In b=false:=by rfl) : PTD X (.Compare a [.In] [b] pos) (z1o (d2 inD f g)):=z4b (op_inD hu) o2_in ha hb hm
theorem y5E (hu : X.A.units + 64 < cLine) (ha : PD X a f) (hb : PD X b g) (hm : behindInMarks .NotIn b=false:=by rfl) : PTD X (.Compare a [.NotIn] [b] pos) (z1o (d2 y3y f g)):=z4b (op_ninD hu) o2_nin ha hb hm
end
section
variable {P : Program} {w : World} {K : PySem.W.Frag} {mg : Str->Option Value} {base : Heap}
end
section
variable {X : Cx} {H0 : Hp} {B0 : Addr->Prop} {fr : Bool} {RX : XR} {e : Expr} {es : List Expr} {pos p px px2 cp : Pos} {x fn : Str} {k : Nat} {F : List D->Option D} {fl : List DE}
end
noncomputable def y3Y (K : PySem.W.Frag) (F : List D->Option D) : Sp:=fun vs H Q _=>∃ (a : Addr) (ns : List Int),vs=[.ref a]∧SqF K H a (ns.map V.int)∧F [.scr ns]=some (.bl true)∧∀ H',Q (.bl true) H'
theorem y4G {K : PySem.W.Frag} {H : Hp} {a : Addr} {xs : List V} (hO : Only H) (h : SqL K H a xs) : SqF K H a xs:=by
  rcases h with (h | h) | h
  · rcases hO a with z | ⟨o,ys,z⟩ <;> (rw [h] at z; cases z)
  · exact .inl h
  · exact .inr h
theorem law_of {P : Program} {w : World} {K : PySem.W.Frag} {mg : Str->Option Value} {base : Heap} {k : Nat} {f : Addr} {fd : FuncData} {ps : List Str} {F : List D->Option D} (h : FnOk P w K mg base CX0 k f fd ps (spN K F)) : FnOk P w K mg base CX0 k f fd ps (y3Y K F):=by
  refine h.imp fun vs H Q E z=>?_
  obtain ⟨a,ns,rfl,hq,e,q⟩:=z
  refine ⟨[.scr ns],.bl true,.cons ?_ .nil,e,fun v H' A s t nd fr=>?_⟩
  · unfold Rep
    exact ⟨a,rfl,hq⟩
  · cases (show v=V.bl true∧_ from t).1
    exact q H'
end L2
namespace L2
open PySem PySem.Spec PyProof.Rows
section
variable {X : Cx} {H0 : Hp} {B0 : Addr->Prop} {fr : Bool} {RX : XR} {e e2 : Expr} {pos ap cp : Pos} {x : Str} {px : Pos} {f g : DE}
noncomputable def z8F (i : Nat) (f : DE) : SS->Option Out:=fun δ=>(f (z0v δ)).bind fun d=>(match δ[i]? with
  | some (some (.ow (.lst ds)))=>(z6y ds [d]).map fun ds'=>.nx ((z0w i δ).set i (some (.ow (.lst ds'))))
  | _=>none)
theorem z5q {i : Nat} (hx : PE X (.Name x px) (z7K i)) (he : PN X e f) (hbase : attributeBase (.Name x px) "append" X.env (eval (.Name x px) X.env)=eval (.Name x px) X.env:=by rfl)
    (hfew : ((backTo cp (starEach [e] X.env)).all (fun x=>!x.1) && (backToKw cp (keywordEach [] X.env)).all (fun x=>x.1.isSome) && decide ([e].length + ([] : List Keyword).length + (if ([] : List Keyword).isEmpty then 0 else 1) < 30))=true:=by rfl)
    (hline : (ap.endLine == cp.line)=true:=by rfl) (hs : starEach [e] X.env=(false,eval e X.env) :: starEach [] X.env:=by rfl) (hsw : swapsWith (.Call (.Attribute (.Name x px) "append" ap) [e] [] cp) none pos.line X.env=pure false:=by rfl) :
    PS X (.Expr (.Call (.Attribute (.Name x px) "append" ap) [e] [] cp) pos) (tS X.K H0 B0 fr RX (z8F i f)):=
  PS.imp (z4X (y5l PySem.F.plainAttrs_list PySem.F.slot_list_append PySem.F.type_list_append z3K hx (z2a he pa_nil hs) hbase hfew hline hs rfl) hsw) fun D σ H z_=>by
    obtain ⟨δ,R,o,rs,q,k⟩:=z_
    unfold z8F at q
    cases e1 : f (z0v δ) with
    | none=>rw [e1] at q; cases q
    | some d=>
    rw [e1] at q
    simp only [Option.bind_some] at q
    split at q
    case h_2=>cases q
    case h_1=>
    rename_i ds ei
    cases e2 : z6y ds [d] with
    | none=>rw [e2] at q; cases q
    | some ds'=>
    rw [e2] at q
    cases q
    obtain ⟨a,xs,A,ev,ha,ts,eR,nd⟩:=rs.top ei
    refine ⟨.ref a,ev,.inl ⟨rfl,xs,SqL.of ha⟩,z0v δ,d,rs.all,e1,fun y H2 C s2 t2 nC fC=>?_⟩
    show z6v (.ref a) [y] H2 fun _ H1=>D.nx σ H1
    refine z5i (K:=X.K) H2 a xs ds [d] [y] ds' _ (s2 _ _ ha) ts.length (.one (t2.rep d (fun _ _ z=>z.elim))) e2 fun w xs' up=>?_
    obtain ⟨A',t',n',sub⟩:=up H2 A C (ts.mono s2) (.one t2)
    have hAC : (A ++ C).Nodup:=List.nodup_append.mpr ⟨(List.nodup_cons.mp nd).2,nC,fun b hb c hc z=>by
      subst z
      obtain ⟨u,q,_⟩:=Trees.held ds ts b hb
      rw [fC b hc] at q; cases q⟩
    have P:=rs.put0 s2 ei ev eR nd t' (n' hAC) fun b hb=>(sub b hb).imp id fun z=>fC b z
    exact k σ _ _ P.1 P.2
end
end L2
namespace L2
open PySem PySem.Spec PyProof.Rows
open PySem.MeetsSeq PySem.MeetsSeq2 PySem.MeetsSeq3 PySem.SeqRoads2 PySem.SeqAt
open PySem.AutoSeq1 (wpAny_loadPart')
section
variable {X : Cx}
theorem Inv.tupleO {pins : List (Addr × Obj)} {σ : St} {H : Hp} {s : Shared} {a : Addr} {xs : List V} (I : Inv X pins σ H s) (h : SqT X.K H a xs) : ∃ (its : List Value) (ob : Obj) (n : Nat),Vals xs its∧s.heap.get? a=some ob∧ob.cls = .type "tuple" ∧ ob.dict=none∧ob.data = .seq its.toArray n∧xs.length≤sizeLine:=by
  rcases h with h | ⟨o,its,n,hk,hc,hs,hz,r⟩
  · obtain ⟨z,its,r,ob,e,c,n,hd⟩:=h.ok I.hok
    exact ⟨its,ob,n,r,e,c.1,c.2,hd,z⟩
  · refine ⟨its.toList,o,n,r,I.kIn a o hk,hc.1,hc.2,by simpa using hs,?_⟩
    have e:=r.length
    simp only [Array.length_toList] at e
    omega
variable {o e : Expr} {es : List Expr} {to : TE} {t : TA} {name : Str} {apos cpos : Pos} {id : String} {r : V->List V->Hp->VK->Prop}
theorem z7C : ∀ {ds : List D} {ns : List Int},z2H ds=some ns->ds=ns.map D.int
  | [],ns,h=>by cases h; rfl
  | .int i :: r,ns,h=>by
    unfold z2H at h
    cases e : z2H r with
    | none=>rw [e] at h; cases h
    | some ms=>rw [e] at h; cases h; rw [List.map_cons,z7C e]
  | .non :: _,_,h=>by cases h
  | .bl _ :: _,_,h=>by cases h
  | .str _ :: _,_,h=>by cases h
  | .lst _ :: _,_,h=>by cases h
  | .tup _ :: _,_,h=>by cases h
  | .scr _ :: _,_,h=>by cases h
  | .dct _ _ :: _,_,h=>by cases h
  | .exc _ :: _,_,h=>by cases h
theorem z6S {K : PySem.W.Frag} {H : Hp} {B : Addr->Prop} : ∀ {ns : List Int} {xs : List V},Reps K H B (ns.map D.int) xs->xs=ns.map V.int
  | [],_,h=>by unfold Reps at h; exact h
  | n :: ns,_,h=>by
    rw [List.map_cons] at h
    unfold Reps at h
    obtain ⟨x,r,rfl,h1,h2⟩:=h
    unfold Rep at h1
    rw [h1,z6S h2]
    rfl
end
end L2
namespace L2
open PySem PySem.Spec PyProof.Rows
open PySem.AutoSeq1 (wpAny_loadPart')
section
variable {prog : Program} {w : World} {A : Around} {E : Value->Shared->Prop} {s : Shared}
end
section
variable {X : Cx}
variable {a b : Expr} {f g : DE} {p p2 pos pos2 : Pos}
end
end L2
namespace L2
open PySem PySem.Spec PyProof.Rows
section
variable {X : Cx} {pins : List (Addr × Obj)} {σ : St} {H : Hp} {s : Shared} {h' : Heap}
theorem Inv.turnedL {t' : Nat} {fp : List Addr} (I : Inv X pins σ H s) (k : ∀ b o,b ∉ fp->s.heap.get? b=some o->h'.get? b=some o) (hf : ∀ b∈fp,z8x X pins H b) : Inv X pins σ H { s with heap:=h',toks:=t' }:=by
  have nit : ∀ b u,H b=some u->b ∉ fp:=fun b u e z=>by rw [(hf b z).1] at e; cases e
  have nL : X.env.locals ∉ fp:=fun z=>(hf _ z).2.1 rfl
  refine I.step (g':=s.gens) (d':=s.drawn) (ch:=fp) (fun b hb=>?_) (fun b o _ _ hc e _=>k b o hc e) (fun b o _ _ hc e _=>⟨o.slots,k b o hc e⟩) (fun _ _ _ _ n=>n)
    (fun b o hc e=>⟨o,k b o hc e⟩) (fun _ _ e=>e) (fun _ _ _ e=>e) (fun b ps e=>⟨#[],by rw [e]; simp⟩) (fun m hm=>?_) (fun b u e=>?_) I.bare
  · obtain ⟨f0,f1,f2,f3,f4,f5⟩:=hf b hb
    exact ⟨f3,f1,f4,f5⟩
  · obtain ⟨o,es,ep,ho,r⟩:=hm
    exact ⟨o,es,ep,k _ o nL ho,r⟩
  · refine (I.hok b u e).stay (fun c v hc q=>k c v ?_ q) (fun _ q=>q) fun _ _ q=>q
    rcases hc with z | z
    · rw [z]; exact nit b u e
    · exact nit c _ z
noncomputable def Ite (K : PySem.W.Frag) (a : Addr) : It:=
  ⟨fun i H=>∃ xs x,SqL K H a xs∧xs[i]? = some x,fun i H v H'=>∃ p x,H p=none∧v = .ref p∧H'=upd H p (.tup [.int (i : Nat),x])∧∀ xs,SqL K H a xs->xs[i]? = some x,fun i H=>∃ xs,SqL K H a xs∧xs.length≤i⟩
theorem y1E {P : Program} {w : World} {K : PySem.W.Frag} {elts : List Expr} {x1} {tp : Pos} (a e it : Addr) (hne : e≠it) :
    Turn P w K (.Tuple elts x1 tp) (Ite K a) [e,it] e (fun i h=>(∃ old,IsEnum h e it ((i : Nat) : Int) old)∧h.IsListIter it a i) where
  mem:=by simp
  obj:=fun i h st b hb=>by
    obtain ⟨⟨old,he⟩,o,eo,c,d⟩:=st
    rcases List.mem_cons.mp hb with z | z
    · subst z
      exact ⟨_,he,fun v z=>by cases z⟩
    · have z : b=it:=by simpa using z
      subst z
      exact ⟨o,eo,fun v z=>by rw [d] at z; cases z⟩
  keep:=fun i h h' st k=>by
    obtain ⟨⟨old,he⟩,hi⟩:=st
    exact ⟨⟨old,k e (by simp) _ he⟩,hi.at fun o q=>k it (by simp) o q⟩
  item:=by
    intro X hP hw hK hc i pins s σ H E I hf st hg
    subst hP hw hK
    obtain ⟨xs,x,hq,hx⟩:=hg
    obtain ⟨its,rv,p,hz⟩:=I.list hq
    obtain ⟨u,hu,ru⟩:=rv.get hx
    obtain ⟨⟨old,he⟩,hi⟩:=st
    refine wpAny_pyNext_enum_item he hi p.isList (x:=u) (by simpa using hu) hne fun h1 heo hi1 ht1 hz1 hk1=>⟨_,rfl,?_⟩
    refine wpAny_letOwnedTupleGo_enum heo fun h2 he2 hs2=>?_
    have hs2 : Heap.SameBut e h1 h2:=hs2
    have elt : e < s.heap.objs.size:=Heap.lt_size he
    obtain ⟨oi,eoi,_⟩:=id hi
    have ilt : it < s.heap.objs.size:=Heap.lt_size eoi
    have hp : H s.heap.objs.size=none:=I.hok.fresh (Nat.le_refl _)
    have I1 : Inv X pins σ (upd H s.heap.objs.size (.tup [.int (i : Nat),x])) { s with heap:=s.heap.push { cls:=.type "tuple",data:=.seq #[.int (i : Nat) s.toks,u] },toks:=s.toks + 1 }:=
      I.laid (fun b o q=>Heap.get?_push_of_some _ q) (Nat.le_refl _) (show ObjOk X.prog X.w _ _ _ (.tup [.int (i : Nat),x]) from ⟨by show 2≤sizeLine; rw [sizeLine_eq]; decide,[.int (i : Nat) s.toks,u],.cons ⟨_,rfl⟩ (.cons ru .nil),TupN.new _ _⟩)
    have hf1 : ∀ b∈[e,it],z8x X pins (upd H s.heap.objs.size (.tup [.int (i : Nat),x])) b:=fun b hb=>by
      obtain ⟨f0,f⟩:=hf b hb
      refine ⟨?_,f⟩
      have : b≠s.heap.objs.size:=by
        rcases List.mem_cons.mp hb with z | z
        · rw [z]; exact Nat.ne_of_lt elt
        · have z : b=it:=by simpa using z
          rw [z]; exact Nat.ne_of_lt ilt
      rw [z0q this]
      exact f0
    have kk : ∀ b o,b ∉ [e,it]->(s.heap.push { cls:=.type "tuple",data:=.seq #[.int (i : Nat) s.toks,u] }).get? b=some o->h2.get? b=some o:=by
      intro b o hb q
      have hbe : b≠e:=fun z=>hb (by simp [z])
      have hbi : b≠it:=fun z=>hb (by simp [z])
      rw [hs2.2 b hbe]
      by_cases hbs : b=s.heap.objs.size
      · subst hbs
        rw [ht1]
        have : (s.heap.push { cls:=.type "tuple",data:=.seq #[.int (i : Nat) s.toks,u] }).get? s.heap.objs.size=some { cls:=.type "tuple",data:=.seq #[.int (i : Nat) s.toks,u] }:=Heap.get?_push_size _ rfl
        exact this.symm.trans q
      · have q' : s.heap.get? b=some o:=(Heap.get?_push_ne s.heap _ _ hbs).symm.trans q
        exact hk1 b o hbe hbi q'
    have I2 : Inv X pins σ (upd H s.heap.objs.size (.tup [.int (i : Nat),x])) { s with heap:=h2,toks:=s.toks + 1 }:=Inv.turnedL (s:={ s with heap:=s.heap.push { cls:=.type "tuple",data:=.seq #[.int (i : Nat) s.toks,u] },toks:=s.toks + 1 }) (h':=h2) (t':=s.toks + 1) (fp:=[e,it]) I1 kk hf1
    refine ⟨.ref s.heap.objs.size,_,I2,rfl,⟨_,x,hp,rfl,rfl,fun ys hy=>by rw [I.list_inj hy hq]; exact hx⟩,⟨⟨u,?_⟩,?_⟩,fun b hb=>(hf1 b hb).1⟩
    · have : (((i + 1 : Nat) : Int))=((i : Int) + 1):=by omega
      rw [this]
      exact he2
    · exact hi1.at fun o q=>(hs2.2 it (Ne.symm hne)).trans q
  done:=by
    intro X hP hw hK hc i pins s σ H E I hf st hg
    subst hP hw hK
    obtain ⟨xs,hq,hx⟩:=hg
    obtain ⟨its,rv,p,hz⟩:=I.list hq
    obtain ⟨⟨old,he⟩,hi⟩:=st
    have hl:=rv.length
    exact wpAny_pyNext_enum_end (I.ok.hd hc) he hi p.isList (by simp; omega) fun h' eb=>⟨rfl,I.turnedL (t':=s.toks) (fp:=[e,it]) (fun b o hb q=>eb b o (fun z=>hb (by simp [z])) q) hf⟩
  self:=fun _ _ _ _ _ st h=>let ⟨⟨_,he⟩,_⟩:=st; wpAny_pyIter_enum he h
noncomputable def iEnum (K : PySem.W.Frag) (tl : TE) : TI:=fun σ H R=>tl σ H fun x H1=>∃ a,[x]=[V.ref a]∧(∃ xs,SqL K H1 a xs)∧R (Ite K a) H1
theorem pi_enum {elts : List Expr} {x1} {tp p pos : Pos} {l : Expr} {tl : TE} (hg : Gl X "enumerate") (hm : X.mg "enumerate" = none) (hl : PE X l tl) (hs : starEach [l] X.env=[(false,eval l X.env)]:=by rfl) :
    PI X (.Tuple elts x1 tp) (.Call (.Name "enumerate" p) [l] [] pos) (iEnum X.K tl):=by
  intro pins s σ H R I h
  have hA : PA X [l] (fun σ H Q=>tl σ H fun x H1=>Q [x] H1):=(z2a hl pa_nil (by rw [hs]; rfl)).imp fun σ H Q q=>q
  refine wpAny_Call_Name_kw (z3P I hg hm boot_enumerate (PyProof.Rows.callWith_type1 (thn (hA pos pins s σ H (fun vs H1=>∃ a,vs=[V.ref a]∧(∃ xs,SqL X.K H1 a xs)∧R (Ite X.K a) H1) I h) fun us s1 ⟨vs,H1,I1,r1,q1⟩=>?_) hs rfl))
  obtain ⟨a,rfl,⟨xs,hq⟩,q⟩:=q1
  obtain ⟨u,rfl,ru⟩:=r1.one
  cases ru
  obtain ⟨its,rv,pl,hz⟩:=I1.list hq
  refine call_enumerate_list pl.isList fun h1 he hi hsz kp=>?_
  refine wpAny_pyIter_enum he ?_
  have I2 : Inv X pins σ H1 { s1 with heap:=h1 }:=I1.kept (t':=s1.toks) kp
  refine ⟨s1.heap.objs.size + 1,[s1.heap.objs.size + 1,s1.heap.objs.size],_,_,H1,rfl,I2,y1E a _ _ (Nat.succ_ne_self _),⟨⟨_,he⟩,hi⟩,fun b hb=>?_,q⟩
  have hb' : s1.heap.objs.size≤b:=by
    rcases List.mem_cons.mp hb with z | z
    · rw [z]; exact Nat.le_succ _
    · have z : b=s1.heap.objs.size:=by simpa using z
      rw [z]; exact Nat.le_refl _
  exact I1.fpOk hb' (I1.hok.fresh hb')
end
noncomputable def z0s (k : Nat) : List D->List D
  | []=>[]
  | d :: r=>.tup [.int (k : Nat),d] :: z0s (k + 1) r
theorem z9F : ∀ {ds : List D} {k i : Nat},(z0s k ds)[i]? = (ds[i]?).map fun d=>.tup [.int ((k + i : Nat) : Int),d]
  | [],_,_=>by simp [z0s]
  | d :: r,k,0=>by simp [z0s]
  | d :: r,k,i + 1=>by
    show (z0s (k + 1) r)[i]? = (r[i]?).map _
    rw [z9F]
    congr 1
    funext d
    congr 3
    omega
theorem z6Y : ∀ {ds : List D} {k : Nat},(z0s k ds).length=ds.length
  | [],_=>rfl
  | d :: r,k=>by show (z0s (k + 1) r).length + 1=r.length + 1; rw [z6Y]
theorem z9l {K : PySem.W.Frag} {H : Hp} {B : Addr->Prop} {a : Addr} {xs : List V} {ds : List D} (hs : ∀ H',Keep K B H H'->SqL K H' a xs) (r : Reps K H B ds xs) : ItD K (Ite K a) H B (z0s 0 ds):=by
  have hl:=r.length
  refine ⟨fun i H' kp hi=>?_,fun i H' kp hi=>?_,fun i H' v H2 kp hy=>?_⟩
  · rw [z6Y,hl] at hi
    exact ⟨xs,xs[i],hs H' kp,List.getElem?_eq_getElem hi⟩
  · rw [z6Y,hl] at hi
    exact ⟨xs,hs H' kp,hi⟩
  · obtain ⟨p,x,hp,rfl,rfl,hx⟩:=hy
    have hx:=hx xs (hs H' kp)
    obtain ⟨d,e,rd⟩:=(Reps.keep kp ds r).get' hx
    refine ⟨z0t hp,.tup [.int (i : Nat),d],fun _=>by rw [z9F,e]; simp,?_⟩
    unfold Rep
    exact ⟨p,_,rfl,SqT.of z0m,.cons (by unfold Rep; rfl) (.one (rd.mono (z0t hp)))⟩
noncomputable def z9f : D->Option (List D)
  | .lst ds=>some (z0s 0 ds)
  | .scr ns=>some (z0s 0 (ns.map .int))
  | _=>none
noncomputable def y0m (f : DE) : DS->Option (List D):=fun δ=>(f δ).bind z9f
section
variable {X : Cx}
theorem z6I {elts : List Expr} {x1} {tp p pos : Pos} {l : Expr} {f : DE} (hg : Gl X "enumerate") (hm : X.mg "enumerate" = none) (h : PD X l f) (hs : starEach [l] X.env=[(false,eval l X.env)]:=by rfl) :
    PID X (.Tuple elts x1 tp) (.Call (.Name "enumerate" p) [l] [] pos) (y0m f):=(pi_enum hg hm h hs).imp fun σ H R z_=>by
  obtain ⟨B,δ,ds,hB,S,q,k⟩:=z_
  unfold y0m at q
  cases e : f δ with
  | none=>rw [e] at q; cases q
  | some d=>
    rw [e] at q
    have q' : z9f d=some ds:=q
    refine ⟨B,δ,d,hB,S,e,fun v H1 s1 r1=>?_⟩
    unfold z9f at q'
    split at q'
    · cases q'
      unfold Rep at r1
      obtain ⟨a,xs,rfl,n,h,r⟩:=r1
      refine ⟨a,rfl,⟨xs,SqL.of h⟩,k _ H1 s1 fun C hC=>?_⟩
      have na : ¬ (B a∨C a):=fun z=>z.elim n fun z=>by rw [hC a z] at h; cases h
      exact z9l (xs:=xs) (fun H' kp=>SqL.of (kp.sl a xs na h)) (Reps.wide hC _ r)
    · cases q'
      unfold Rep at r1
      obtain ⟨a,rfl,h⟩:=r1
      exact ⟨a,rfl,⟨_,h.sq⟩,k _ H1 s1 fun C hC=>z9l (fun H' kp=>(kp.sf a _ h).sq) (z1K _)⟩
    · cases q'
noncomputable def two (h : D->D->Option (Option D)) : D->Option (Option D)
  | .tup [a,b]=>h a b
  | _=>none
noncomputable def z3x (fc : DS->Option Bool) (fe : DE) (δ : DS) : D->D->Option (Option D):=fun a b=>(fc (δ ++ [some a,some b])).bind fun k=>if k=true then (fe (δ ++ [some a,some b])).map some else some none
noncomputable def z4Q (fi : DS->Option (List D)) (fc : DS->Option Bool) (fe : DE) : DS->Option (List D):=fun δ=>(fi δ).bind fun xs=>if xs.length≤sizeLine then z1z (two (z3x fc fe δ)) xs else none
theorem y5i {h : D->D->Option (Option D)} {d : D} {o : Option D} (e : two h d=some o) : ∃ a b,d = .tup [a,b]∧h a b=some o:=by
  unfold two at e
  split at e
  · exact ⟨_,_,rfl,e⟩
  · cases e
theorem z7Y {v1 v2 w1 w2 : Option V} : ∀ {σ : St},((σ ++ [w1,w2]).set σ.length v1).set (σ.length + 1) v2=σ ++ [v1,v2]
  | []=>rfl
  | x :: r=>congrArg (x :: ·) (z7Y (σ:=r))
theorem RepS.snoc2 {K : PySem.W.Frag} {H : Hp} {B : Addr->Prop} {σ : St} {δ : DS} {d e : D} {v w : V} (S : RepS K H B σ δ) (r : Rep K H B d v) (r' : Rep K H B e w) : RepS K H B (σ ++ [some v,some w]) (δ ++ [some d,some e]):=by
  have:=(S.snoc r).snoc r'
  rw [List.append_assoc,List.append_assoc] at this
  exact this
variable {N' : List Str} {sc : Scope} {iter elt : Expr} {ifs : List Expr} {n : Nat} {x y : Str} {px py tp pos : Pos} {x1 : Nat} {fi : DS->Option (List D)} {fc : DS->Option Bool} {fe : DE}
noncomputable def gTwo (K : PySem.W.Frag) (n : Nat) : TG:=gTup K 2 (y1Y (z2b n) (y1Y (z2b (n + 1)) gNil))
theorem y1n {σ : St} {H : Hp} {Q : VK} (hσ : σ.length=n) (hq : tF X.K (z4Q fi fc fe) σ H Q) : y2v (tI X.K fi) (gTwo X.K n) (tT X.K fc) (tD X.K fe) 2 σ H Q:=by
  obtain ⟨B,δ,ds,hB,Sδ,q,k⟩:=hq
  unfold z4Q at q
  cases e1 : fi δ with
  | none=>rw [e1] at q; cases q
  | some xs=>
  rw [e1] at q
  have q1 : (if xs.length≤sizeLine then z1z (two (z3x fc fe δ)) xs else none)=some ds:=q
  split at q1
  case isFalse=>cases q1
  case isTrue hsz=>
  refine ⟨B,δ,xs,hB,Sδ,e1,fun J H1 s1 itw=>fun Da hD=>?_⟩
  have hD0 : H Da=none:=s1.free hD
  have it:=itw (fun a=>a=Da) fun a ha=>by rw [ha]; exact hD
  have Sw : RepS X.K H1 (fun a=>B a∨a=Da) σ δ:=(Sδ.mono s1).wide fun a ha=>by rw [ha]; exact hD
  obtain ⟨I,hI⟩ : ∃ I : Nat->Nat->St->Hp->Prop,I=fun i m σ' H'=>m=xs.length - i∧i≤xs.length∧(∃ w w',σ'=σ ++ [w,w'])∧Same H1 H'∧∃ ys dn rs,H' Da=some (.lst ys)∧Reps X.K H' (fun a=>B a∨a=Da) dn ys∧ds=dn ++ rs∧dn.length≤i ∧
      z1z (two (z3x fc fe δ)) (xs.drop i)=some rs:=⟨_,rfl⟩
  refine ⟨I,⟨xs.length,by rw [hI]; exact ⟨by simp,Nat.zero_le _,⟨none,none,rfl⟩,z0t hD,[],[],ds,z0m,.nil,rfl,Nat.le_refl _,q1⟩⟩,?_⟩
  intro i m σ' H' hh
  rw [hI] at hh
  obtain ⟨rfl,hi',⟨w,w',rfl⟩,sm,ys,dn,rs,hys,rys,hds,hln,hrs⟩:=hh
  have kp : Keep X.K (fun a=>B a∨a=Da) H1 H':=.same sm
  by_cases hlt : i < xs.length
  · refine .inr ⟨it.go i H' kp hlt,fun σ'' H''=>I (i + 1) (xs.length - (i + 1)) σ'' H'',fun σ'' H'' h=>⟨xs.length - (i + 1),by omega,h⟩,fun xv H2 hy=>?_⟩
    obtain ⟨s2,d,hd,rd⟩:=it.yld i H' xv H2 kp hy
    have hdi:=hd hlt
    have hx : xs.drop i=d :: xs.drop (i + 1):=by
      obtain ⟨hl,e⟩:=List.getElem?_eq_some_iff.mp hdi
      rw [List.drop_eq_getElem_cons hl,e]
    rw [hx] at hrs
    obtain ⟨o,rs',e2,e3,e4⟩:=z3Y hrs
    obtain ⟨da,db,ed,e2b⟩:=y5i e2
    subst ed
    unfold Rep at rd
    obtain ⟨p,vs,rfl,hsq,rvs⟩:=rd
    unfold Reps at rvs
    obtain ⟨va,r1,rfl,ra,rvs⟩:=rvs
    unfold Reps at rvs
    obtain ⟨vb,r2,rfl,rb,rvs⟩:=rvs
    unfold Reps at rvs
    subst rvs
    refine ⟨p,[va,vb],rfl,hsq,rfl,va,[vb],rfl,vb,[],rfl,rfl,?_⟩
    rw [← hσ,z7Y]
    have hB1 : InB (fun a=>B a∨a=Da) H2:=fun a ha=>ha.elim (fun z=>(((hB.mono s1).mono sm).mono s2) a z) fun z=>⟨_,s2 _ _ (z ▸ hys)⟩
    have S2 : RepS X.K H2 (fun a=>B a∨a=Da) (σ ++ [some va,some vb]) (δ ++ [some da,some db]):=((Sw.mono sm).mono s2).snoc2 ra rb
    have hl2 : ys.length < sizeLine:=by
      have:=rys.length
      omega
    unfold z3x at e2b
    cases ec : fc (δ ++ [some da,some db]) with
    | none=>rw [ec] at e2b; cases e2b
    | some kk=>
      rw [ec] at e2b
      have e2' : (if kk=true then (fe (δ ++ [some da,some db])).map some else some none)=some o:=e2b
      refine ⟨_,δ ++ [some da,some db],kk,hB1,S2,ec,fun H3 s3=>?_⟩
      cases kk with
      | false=>
        rw [if_neg Bool.false_ne_true] at e2'
        rw [if_neg Bool.false_ne_true]
        cases e2'
        rw [hI]
        exact ⟨rfl,hlt,⟨_,_,rfl⟩,(sm.trans s2).trans s3,ys,dn,rs',s3 _ _ (s2 _ _ hys),(rys.mono s2).mono s3,by rw [hds,e4]; rfl,Nat.le_succ_of_le hln,e3⟩
      | true=>
        rw [if_pos rfl] at e2'
        rw [if_pos rfl]
        cases ey : fe (δ ++ [some da,some db]) with
        | none=>rw [ey] at e2'; cases e2'
        | some y=>
          rw [ey] at e2'
          cases e2'
          refine ⟨_,δ ++ [some da,some db],y,hB1.mono s3,S2.mono s3,ey,fun yv H5 s5 r5=>⟨ys,s5 _ _ (s3 _ _ (s2 _ _ hys)),hl2,?_⟩⟩
          have hu : H5 Da=some (.lst ys):=s5 _ _ (s3 _ _ (s2 _ _ hys))
          rw [hI]
          refine ⟨rfl,hlt,⟨_,_,rfl⟩,fun b u hb=>?_,ys ++ [yv],dn ++ [y],rs',z0m,?_,by rw [hds,e4,List.append_assoc]; rfl,by rw [List.length_append]; simp; omega,e3⟩
          · rw [z0q (z1e hb hD)]
            exact s5 _ _ (s3 _ _ (s2 _ _ (sm _ _ hb)))
          · exact Reps.keep (.upd (.inr rfl) (by rw [hu]; exact trivial)) _ (((rys.mono s2).mono s3 |>.mono s5).snoc r5)
  · have e : i=xs.length:=by omega
    subst e
    refine .inl ⟨it.stop _ H' kp (Nat.le_refl _),?_⟩
    rw [List.drop_length] at hrs
    cases hrs
    rw [List.append_nil] at hds
    subst hds
    exact k Da ys H' (s1.trans sm) hD0 hys (rys.anti fun a z=>.inl z)
theorem z9t (hc : X.calm=true) (S : CompScope X.N X.env.scope.names N' 2 sc) (hn : n=X.N.length) (hi : PID X (.Tuple [.Name x px,.Name y py] x1 tp) iter fi)
    (hg : ∀ s H fp pins E,PG (z0C X N' sc s H fp pins E) (.Tuple [.Name x px,.Name y py] x1 tp) (gTwo X.K n)) (ht : ∀ s H fp pins E,y3q (z0C X N' sc s H fp pins E) ifs (tT X.K fc)) (he : ∀ s H fp pins E,PE (z0C X N' sc s H fp pins E) elt (tD X.K fe))
    (hs : ∀ x,foldedSetIterable iter X.env x=pure x:=by intro _; rfl) : PF X (.ListComp elt [⟨.Tuple [.Name x px,.Name y py] x1 tp,iter,ifs,0⟩] sc pos) (z4Q fi fc fe):=by
  intro pins s σ H Q I hq
  exact z9b hc S hi ⟨hg,ht,he⟩ hs pins s σ H Q I (y1n (by rw [hn,I.len]) hq)
theorem y5x {X : Cx} {n : Nat} {x y : Str} {px py tp : Pos} {x1} (hc : X.calm=true) (h1 : PG X (.Name x px) (z2b n)) (h2 : PG X (.Name y py) (z2b (n + 1)))
    (hs : (assignEach [.Name x px,.Name y py] X.env).map (·.2)=assign (.Name x px) X.env :: (assignEach [.Name y py] X.env).map (·.2):=by rfl) (hs2 : (assignEach [.Name y py] X.env).map (·.2)=assign (.Name y py) X.env :: (assignEach [] X.env).map (·.2):=by rfl)
    (hn : (assignEach [.Name x px,.Name y py] X.env).length=2:=by rfl) (hst : (assignEach [.Name x px,.Name y py] X.env).findIdx? (·.1)=none:=by rfl) : PG X (.Tuple [.Name x px,.Name y py] x1 tp) (gTwo X.K n):=
  y5B hc (z4K h1 (z4K h2 y2S hs2) hs) hn hst
end
end L2
namespace L2
open PySem PySem.Spec PyProof.Rows
noncomputable def z8V : D->Option Key
  | .int n=>some (.inl n)
  | .str x=>some (.inr x)
  | _=>none
theorem z9d {K : PySem.W.Frag} {H : Hp} {B : Addr->Prop} {d : D} {k : Key} {v : V} (e : z8V d=some k) (r : Rep K H B d v) : v=kV k:=by
  unfold z8V at e
  split at e
  · cases e; unfold Rep at r; exact r
  · cases e; unfold Rep at r; exact r
  · cases e
noncomputable def setK (ks : List Key) (ds : List D) (k : Key) (d : D) : List D:=match ks,ds with
  | k' :: ks,e :: ds=>(if k'=k then d else e) :: setK ks ds k d
  | _,_=>[]
noncomputable def z9c (ks : List Key) (k : Key) : Bool:=ks.any fun k'=>decide (k'=k)
noncomputable def z7v (ks : List Key) (k : Key) : List Key:=if z9c ks k=true then ks else ks ++ [k]
noncomputable def z7m (ks : List Key) (ds : List D) (k : Key) (d : D) : List D:=if z9c ks k=true then setK ks ds k d else ds ++ [d]
theorem z8t {k : Key} {kvs : List (Key × V)} {ks : List Key} (e : kvs.map (·.1)=ks) : (kvs.any fun kv=>decide (kv.1=k))=z9c ks k:=by
  subst e
  unfold z9c
  rw [List.any_map]
  rfl
theorem z9I {K : PySem.W.Frag} {H : Hp} {k : Key} {d : D} {v : V} (td : Tree K H d v []) : ∀ {kvs : List (Key × V)} {ds : List D},Trees K H ds (kvs.map (·.2)) []->Trees K H (setK (kvs.map (·.1)) ds k d) ((kvs.map fun kv=>if kv.1=k then (kv.1,v) else kv).map (·.2)) []
  | [],ds,t=>by
    cases ds with
    | nil=>exact .nil
    | cons e ds=>unfold Trees at t; obtain ⟨_,_,_,_,z,_⟩:=t; cases z
  | p :: r,[],t=>by obtain ⟨z,_⟩:=t; cases z
  | p :: r,e :: ds,t=>by
    unfold Trees at t
    obtain ⟨x,xs,B,C,e1,t1,t2,e2⟩:=t
    cases e1
    obtain ⟨rfl,rfl⟩:=List.append_eq_nil_iff.mp e2.symm
    have ih:=z9I (k:=k) td (kvs:=r) t2
    rw [List.map_cons,List.map_cons,List.map_cons]
    unfold setK Trees
    refine ⟨_,_,[],[],rfl,?_,ih,rfl⟩
    by_cases h : p.1=k
    · rw [if_pos h,if_pos h]; exact td
    · rw [if_neg h,if_neg h]; exact t1
theorem y4Z {k : Key} {v : V} {kvs : List (Key × V)} : (z5D kvs k v).map (·.1)=z7v (kvs.map (·.1)) k:=by
  unfold z5D z7v
  rw [z8t (k:=k) (kvs:=kvs) rfl]
  by_cases h : z9c (kvs.map (·.1)) k=true
  · rw [if_pos h,if_pos h,List.map_map]
    apply List.map_congr_left
    intro p _
    show (if p.1=k then (p.1,v) else p).1=p.1
    split <;> rfl
  · rw [if_neg h,if_neg h,List.map_append]
    rfl
theorem y3G {K : PySem.W.Frag} {H : Hp} {k : Key} {d : D} {v : V} {kvs : List (Key × V)} {ds : List D} (td : Tree K H d v []) (t : Trees K H ds (kvs.map (·.2)) []) : Trees K H (z7m (kvs.map (·.1)) ds k d) ((z5D kvs k v).map (·.2)) []:=by
  unfold z5D z7m
  rw [z8t (k:=k) (kvs:=kvs) rfl]
  by_cases h : z9c (kvs.map (·.1)) k=true
  · rw [if_pos h,if_pos h]
    exact z9I td t
  · rw [if_neg h,if_neg h,List.map_append]
    exact t.snoc td
theorem z9U {k : Key} {kvs : List (Key × V)} : (y0c kvs k).isSome=z9c (kvs.map (·.1)) k:=by rw [← z6m]; exact z8t rfl
noncomputable def inK : D->D->Option Bool:=fun x y=>match y with
  | .dct ks _=>(z8V x).map fun k=>z9c ks k
  | _=>none
noncomputable def y4O (f g : DE) : DS->Option Bool:=fun δ=>(f δ).bind fun x=>(g δ).bind fun y=>inK x y
noncomputable def y3w (f g : DE) : DS->Option Bool:=fun δ=>(y4O f g δ).map (!·)
section
variable {X : Cx} {a b o i value : Expr} {f g : DE} {pos pos' : Pos}
theorem z9v {δ : DS} {c : Bool} (h : y4O f g δ=some c) : ∃ x k ks ds,f δ=some x∧z8V x=some k∧g δ=some (.dct ks ds)∧c=z9c ks k:=by
  unfold y4O at h
  cases e1 : f δ with
  | none=>rw [e1] at h; cases h
  | some x=>
    rw [e1] at h
    cases e2 : g δ with
    | none=>rw [e2] at h; cases h
    | some y=>
      rw [e2] at h
      have h : inK x y=some c:=h
      unfold inK at h
      split at h
      · cases e3 : z8V x with
        | none=>rw [e3] at h; cases h
        | some k=>rw [e3] at h; cases h; exact ⟨x,k,_,_,rfl,e3,rfl,rfl⟩
      · cases h
theorem pt_din (hu : X.A.units + 64 < cLine) (ha : PD X a f) (hb : PD X b g) (hm : behindInMarks .In b=false:=by rfl) : PTD X (.Compare a [.In] [b] pos) (y4O f g):=
  (y5D (pc_din (by omega) ha hb) hm).imp fun σ H Q z_=>by
    obtain ⟨B,δ,c,hB,S,q,k⟩:=z_
    obtain ⟨x,ky,ks,ds,e1,e2,e3,rfl⟩:=z9v q
    refine ⟨B,δ,x,hB,S,e1,fun v H1 s1 r1=>⟨B,δ,_,hB.mono s1,S.mono s1,e3,fun w H2 s2 r2=>?_⟩⟩
    unfold Rep at r2
    obtain ⟨p,kvs,rfl,n,hp,ek,rs⟩:=r2
    have ev:=z9d e2 r1
    subst ev
    refine ⟨p,y0c kvs ky,rfl,DGet.k hp,_,rfl,?_⟩
    rw [z9U,ek]
    exact k H2 (s1.trans s2)
theorem pt_dnin (hu : X.A.units + 64 < cLine) (ha : PD X a f) (hb : PD X b g) (hm : behindInMarks .NotIn b=false:=by rfl) : PTD X (.Compare a [.NotIn] [b] pos) (y3w f g):=
  (y5D (y2Z (by omega) ha hb) hm).imp fun σ H Q z_=>by
    obtain ⟨B,δ,c,hB,S,q,k⟩:=z_
    unfold y3w at q
    cases e0 : y4O f g δ with
    | none=>rw [e0] at q; cases q
    | some c0=>
    rw [e0] at q
    cases q
    obtain ⟨x,ky,ks,ds,e1,e2,e3,rfl⟩:=z9v e0
    refine ⟨B,δ,x,hB,S,e1,fun v H1 s1 r1=>⟨B,δ,_,hB.mono s1,S.mono s1,e3,fun w H2 s2 r2=>?_⟩⟩
    unfold Rep at r2
    obtain ⟨p,kvs,rfl,n,hp,ek,rs⟩:=r2
    have ev:=z9d e2 r1
    subst ev
    refine ⟨p,y0c kvs ky,rfl,DGet.k hp,_,rfl,?_⟩
    rw [z9U,ek]
    exact k H2 (s1.trans s2)
theorem pn_dnew : PN X (.Dict [] [] pos) (dC (.dct [] [])):=pe_dnewK.imp fun σ H Q z_=>by
  obtain ⟨δ,d,S,q,k⟩:=z_
  cases q
  intro p hp
  refine k _ _ [p] (z0t hp) ?_ (List.nodup_cons.mpr ⟨fun z=>(nomatch z),List.nodup_nil⟩) fun a ha=>?_
  · unfold Tree
    exact ⟨p,[],[],rfl,z0m,rfl,.nil,rfl⟩
  · rw [List.mem_singleton.mp ha]; exact hp
variable {H0 : Hp} {B0 : Addr->Prop} {fr : Bool} {RX : XR} {x : Str} {px : Pos} {ke e : Expr}
noncomputable def dput (i : Nat) (fk fv : DE) : SS->Option Out:=fun δ=>(fv (z0v δ)).bind fun d=>if d.imm=true then (fk (z0v δ)).bind fun dk=>(match z8V dk,δ[i]? with
  | some k,some (some (.ow (.dct ks ds)))=>if z1L ds=true∧ks.length < sizeLine then some (.nx ((z0w i δ).set i (some (.ow (.dct (z7v ks k) (z7m ks ds k d)))))) else none
  | _,_=>none) else none
theorem y3d {K : PySem.W.Frag} {H : Hp} {ds : List D} {xs : List V} {A : List Addr} (t : Trees K H ds xs A) (h : z1L ds=true) : Trees K H ds xs []:=Reps.immTree (B:=fun _=>False) ds h (t.rep ds fun _ _ z=>z)
theorem y5O {i : Nat} {fk fv : DE} (hu : X.A.units + 64 < cLine) (hx : PE X (.Name x px) (z7K i)) (hk : PD X ke fk) (hv : PD X e fv)
    (hs : swapsWith e (some (.Subscript (.Name x px) ke pos')) pos.line X.env=pure false:=by rfl) :
    PS X (.Assign [.Subscript (.Name x px) ke pos'] e pos) (tS X.K H0 B0 fr RX (dput i fk fv)):=
  PS.imp (ps_dput (by omega) hx hk hv hs) fun D σ H z_=>by
    obtain ⟨δ,R,o,rs,q,kk⟩:=z_
    unfold dput at q
    cases e1 : fv (z0v δ) with
    | none=>rw [e1] at q; cases q
    | some d=>
    rw [e1,Option.bind_some] at q
    split at q
    case isFalse=>cases q
    case isTrue hi=>
    cases e2 : fk (z0v δ) with
    | none=>rw [e2] at q; cases q
    | some dk=>
    rw [e2,Option.bind_some] at q
    split at q
    case h_2=>cases q
    case h_1 k ks ds e3 ei=>
    split at q
    case isFalse=>cases q
    case isTrue hc=>
    cases q
    obtain ⟨v0,ev,t0,nd⟩:=rs.ow i _ ei
    unfold Tree at t0
    obtain ⟨a,kvs,A,rfl,ha,ek,ts,eR⟩:=t0
    have ts:=y3d ts hc.1
    refine ⟨noB,z0v δ,d,.no,rs.all,e1,fun v H1 s1 r1=>⟨.ref a,ev,noB,z0v δ,dk,.no,rs.all.mono s1,e2,fun kv H2 s2 r2=>?_⟩⟩
    have ekv:=z9d e3 r2
    subst ekv
    subst ek
    have ha2 : H2 a=some (.dK kvs):=s2 _ _ (s1 _ _ ha)
    refine ⟨a,_,rfl,DPut.k ha2 (by rw [← List.length_map (f:=(·.1))]; exact hc.2),?_⟩
    have haR : a∈R i:=by rw [eR]; exact List.mem_cons_self
    have mu : Mut (H2 a):=by rw [ha2]; exact trivial
    have td : Tree X.K H2 d v []:=(r1.immTree d hi).mono s2
    have tp:=y3G (k:=k) td (ts.mono (s1.trans s2))
    have P:=rs.rewrite (d':=.dct (z7v (kvs.map (·.1)) k) (z7m (kvs.map (·.1)) ds k d)) (a:=a) (o:=.dK (z5D kvs k v)) (A':=[a]) (s1.trans s2) ei ev haR (by
      unfold Tree
      exact ⟨a,z5D kvs k v,[],rfl,z0m,y4Z,Trees.keep (Keep.upd (K:=X.K) (B:=fun x=>x=a) rfl mu).i _ tp fun b hb=>(nomatch hb),rfl⟩) (List.nodup_cons.mpr ⟨fun z=>(nomatch z),List.nodup_nil⟩) fun b hb=>by
        rw [List.mem_singleton.mp hb]; exact .inl haR
    exact kk σ _ _ P.1 P.2
end
end L2
namespace HT
open PySem PySem.Spec PyProof.Rows
section
variable {prog : Program} {w : World} {A : Around} {E : Value->Shared->Prop} {s : Shared}
end
end HT
namespace L2
open PySem PySem.Spec PyProof.Rows
section
variable {X : Cx} {e st : Expr} {te : TE} {tk : TO} {pos p2 : Pos}
variable {f g : DE}
variable {a b : Expr}
noncomputable def catLs : D->D->Option (List D)
  | .lst ds,.lst es=>if ds.length + es.length≤sizeLine then some (ds ++ es) else none
  | _,_=>none
noncomputable def dCat (f g : DE) : DS->Option (List D):=fun δ=>(f δ).bind fun x=>(g δ).bind fun y=>catLs x y
theorem y5w (ha : PD X a f) (hb : PD X b g) : PF X (.BinOp a .Add b pos) (dCat f g):=(pe_op op_cat ha hb).imp fun σ H Q z_=>by
  obtain ⟨B,δ,ds,hB,S,q,k⟩:=z_
  unfold dCat at q
  cases e1 : f δ with
  | none=>rw [e1] at q; cases q
  | some x=>
  rw [e1,Option.bind_some] at q
  cases e2 : g δ with
  | none=>rw [e2] at q; cases q
  | some y=>
  rw [e2,Option.bind_some] at q
  unfold catLs at q
  split at q
  case h_2=>cases q
  case h_1 xs ys=>
  split at q
  case isFalse=>cases q
  case isTrue hl=>
  cases q
  refine ⟨B,δ,_,hB,S,e1,fun v H1 s1 r1=>⟨B,δ,_,hB.mono s1,S.mono s1,e2,fun v2 H2 s2 r2=>?_⟩⟩
  unfold Rep at r1 r2
  obtain ⟨p1,vs,rfl,n1,h1,rs1⟩:=r1
  obtain ⟨p2,ws,rfl,n2,h2,rs2⟩:=r2
  refine ⟨p1,p2,vs,ws,rfl,rfl,s2 _ _ h1,h2,by rw [← rs1.length,← rs2.length]; exact hl,fun p hp=>?_⟩
  exact k p _ _ ((s1.trans s2).trans (z0t hp)) ((s1.trans s2).free hp) z0m (((rs1.mono s2).append rs2).mono (z0t hp))
noncomputable def maxF : List D->Option D
  | [.int i,.int j]=>some (.int (if j > i then j else i))
  | _=>none
noncomputable def minF : List D->Option D
  | [.int i,.int j]=>some (.int (if j < i then j else i))
  | _=>none
theorem oa_min {K : PySem.W.Frag} : OpA K (fun xs H Q=>∃ i j,xs=[.int i,.int j]∧Q (.int (if j < i then j else i)) H) minF:=by
  intro H B ds d vs Q hB hr q k
  unfold minF at q
  split at q
  case h_2=>cases q
  case h_1 i j=>
  cases q
  unfold Reps at hr
  obtain ⟨x,r,rfl,hx,hr⟩:=hr
  obtain ⟨y,rfl,hy⟩:=z3O hr
  unfold Rep at hx hy
  subst hx hy
  exact ⟨i,j,rfl,k _ H (.refl H) (by unfold Rep; rfl)⟩
variable {p : Pos}
theorem y2q (hc : X.calm=true) (hg : Gl X "min") (hm : X.mg "min" = none) (ha : PD X a f) (hb : PD X b g) (he : starEach [a,b] X.env=(false,eval a X.env) :: starEach [b] X.env:=by rfl) (he2 : starEach [b] X.env=[(false,eval b X.env)]:=by rfl) (hpl : (backTo pos (starEach [b] X.env)).any (·.1)=false:=by rfl) : PD X (.Call (.Name "min" p) [a,b] [] pos) (z0k minF [f,g]):=
  z4L (y2m hc) oa_min hg hm PyProof.Rows.Boot.«min» (z0a ha (z0a hb z0c he2) he) (by decide) (by decide) he hpl
end
end L2
namespace L2
open PySem PySem.Spec PyProof.Rows
section
variable {X : Cx} {o e : Expr} {apos cpos : Pos}
end
end L2
namespace L2
open PySem PySem.Spec PyProof.Rows
section
variable {X : Cx} {H0 : Hp} {B0 : Addr->Prop} {fr : Bool} {RX : XR} {e : Expr} {pos : Pos} {f : DE}
end
end L2
namespace L2
open PySem PySem.Spec PyProof.Rows
noncomputable def cntR (lo hi c : Int) : Nat:=if lo < hi then ((hi - lo - 1) / c + 1).toNat else 0
noncomputable def Itr3 (lo c : Int) (n : Nat) : It:=⟨fun i _=>i < n,fun i H x H'=>H'=H∧x = .int (lo + (i : Nat) * c),fun i _=>n≤i⟩
theorem z8E {P : Program} {w : World} {K : PySem.W.Frag} {tg : Expr} (it : Addr) (lo c : Int) (n : Nat) : Turn P w K tg (Itr3 lo c n) [it] it (fun i h=>IsRangeIter h it (lo + (i : Nat) * c) ((n : Int) - (i : Nat)) c) where
  mem:=by simp
  obj:=fun i h st b hb=>by
    have e : b=it:=by simpa using hb
    subst e
    exact ⟨_,st,fun v z=>by
      have z' : Data.fields _=Data.cell v:=z
      cases z'⟩
  keep:=fun i h h' st k=>k it (by simp) _ st
  item:=by
    intro X hP hw hK hc i pins s σ H E I hf st hg
    subst hP hw hK
    obtain ⟨f0,f1,f2,f3,f4,f5⟩:=hf it (by simp)
    have W:=Walks.range (prog:=X.prog) (w:=X.w) (I.ok.hd hc) it lo c n
    refine W.item i s _ _ hg st fun v h' tk hv st' kk=>?_
    obtain ⟨t,rfl⟩:=hv
    have I1 : Inv X pins σ H { s with heap:=h',toks:=tk }:=I.turned (fun b o hb e=>kk b o (by simpa using hb) e) f0 f1 f3 f4 f5
    exact ⟨_,rfl,y4H (s:={ s with heap:=h',toks:=tk }) (n := "range_iterator") st' rfl rfl (by decide) ⟨.int (lo + (i : Nat) * c),H,I1,⟨t,rfl⟩,⟨rfl,rfl⟩,st',fun b hb=>(hf b hb).1⟩⟩
  done:=by
    intro X hP hw hK hc i pins s σ H E I hf st hg
    subst hP hw hK
    obtain ⟨f0,f1,f2,f3,f4,f5⟩:=hf it (by simp)
    exact wpAny_pyNext_range_end (I.ok.hd hc) st (by have : n≤i:=hg; omega) fun h' eb=>⟨rfl,I.turned (t':=s.toks) (fun b o hb e=>eb b o hb e) f0 f1 f3 f4 f5⟩
  self:=fun _ _ _ _ _ st h=>wpAny_pyIter_rangeiter st h
section
variable {X : Cx} {tg : Expr}
theorem Vals.three : ∀ {x y z : V} {us : List Value},Vals [x,y,z] us->∃ u v w,us=[u,v,w]∧RelV x u∧RelV y v∧RelV z w:=fun h=>by
  cases h with | cons r h=>obtain ⟨_,_,rfl,q,p⟩:=Vals.two h; exact ⟨_,_,_,rfl,r,q,p⟩
noncomputable def y2J (lo c : Int) (n : Nat) : List D:=(List.range n).map fun i=>.int (lo + (i : Nat) * c)
theorem y4n {lo c : Int} {n i : Nat} (h : i < n) : (y2J lo c n)[i]? = some (.int (lo + (i : Nat) * c)):=by
  unfold y2J
  rw [List.getElem?_map,List.getElem?_range h]
  rfl
theorem z6z {lo c : Int} {n : Nat} : (y2J lo c n).length=n:=by simp [y2J]
theorem y5t {K : PySem.W.Frag} {H : Hp} {B : Addr->Prop} {lo c : Int} {n : Nat} : ItD K (Itr3 lo c n) H B (y2J lo c n):=by
  refine ⟨fun i H' _ hi=>?_,fun i H' _ hi=>?_,fun i H' x H2 _ y=>?_⟩
  · rw [z6z] at hi; exact hi
  · rw [z6z] at hi; exact hi
  · obtain ⟨e,y⟩:=y
    subst e y
    exact ⟨.refl _,.int (lo + (i : Nat) * c),fun h=>y4n (by rwa [z6z] at h),rfl⟩
noncomputable def rng3 : Option D->Option D->Option D->Option (List D)
  | some (.int i),some (.int j),some (.int c)=>if -(2 ^ 61)≤i∧i < 2 ^ 61∧-(2 ^ 61)≤j∧j < 2 ^ 61∧0 < c∧c < 2 ^ 30 then some (y2J i c (cntR i j c)) else none
  | _,_,_=>none
end
noncomputable def z3w (c : DS->Option Bool) (b : SS->Option Out) : Nat->SS->Option Out
  | 0,_=>none
  | n + 1,δ=>(c (z0v δ)).bind fun k=>if k=true then (b δ).bind fun o=>(match o with
    | .nx δ'=>z3w c b n δ'
    | .ct δ'=>z3w c b n δ'
    | .bk δ'=>some (.nx δ')
    | .rt d=>some (.rt d)
    | .ex c δ'=>some (.ex c δ')) else some (.nx δ)
section
variable {X : Cx} {H0 : Hp} {B0 : Addr->Prop} {fr : Bool} {RX : XR} {pos : Pos}
theorem y3e {c : Expr} {body : List Stmt} {fc : DS->Option Bool} {g : SS->Option Out} (n : Nat) (hp : PassesOwn (model X.prog X.w) X.A X.env X.xe) (hc : PTD X c fc) (hb : PSs X body (tS X.K H0 B0 fr RX g)) : PS X (.While c body [] pos) (tS X.K H0 B0 fr RX (z3w fc g n)):=
  PS.imp (y3F hp hc hb) fun D σ H z_=>by
    obtain ⟨δ,R,o,rs,q,k⟩:=z_
    refine ⟨fun m σ' H'=>∃ δ' R',RS X.K H0 B0 H' σ' δ' R'∧Stp R H R' H'∧z3w fc g m δ'=some o,⟨n,δ,R,rs,.refl R H,q⟩,?_⟩
    rintro m σ' H' ⟨δ',R',rs',s',q'⟩
    cases m with
    | zero=>cases q'
    | succ m=>
      unfold z3w at q'
      cases ec : fc (z0v δ') with
      | none=>rw [ec] at q'; cases q'
      | some kk=>
        rw [ec,Option.bind_some] at q'
        refine ⟨noB,z0v δ',kk,.no,rs'.all,ec,fun H1 s1=>?_⟩
        have rs1:=rs'.mono s1
        have st1 : Stp R H R' H1:=s'.trans (.same s1)
        cases kk with
        | false=>
          rw [if_neg Bool.false_ne_true] at q'
          cases q'
          exact k σ' H1 R' rs1 st1
        | true=>
          rw [if_pos rfl] at q'
          cases eb : g δ' with
          | none=>rw [eb] at q'; cases q'
          | some ob=>
            rw [eb,Option.bind_some] at q'
            refine ⟨fun σ2 H2=>∃ δ2 R2,RS X.K H0 B0 H2 σ2 δ2 R2∧Stp R H R2 H2∧z3w fc g m δ2=some o,fun σ2 H2 z=>⟨m,Nat.lt_succ_self m,z⟩,δ',R',ob,rs1,eb,?_⟩
            cases ob with
            | nx δ2=>exact fun σ3 H3 R3 rs3 s3=>⟨δ2,R3,rs3,st1.trans s3,q'⟩
            | ct δ2=>exact fun σ3 H3 R3 rs3 s3=>⟨δ2,R3,rs3,st1.trans s3,q'⟩
            | bk δ2=>
              cases q'
              exact fun σ3 H3 R3 rs3 s3=>k σ3 H3 R3 rs3 (st1.trans s3)
            | rt d=>
              cases q'
              exact k.back st1
            | ex c δ2=>
              cases q'
              exact k.back st1
variable {a : Expr} {f : DE}
end
end L2
namespace L2
open PySem PySem.Spec PyProof.Rows
section
variable {X : Cx} {a b : Expr} {f g : DE} {pos : Pos}
variable {H0 : Hp} {B0 : Addr->Prop} {fr : Bool} {RX : XR} {x : Str} {px ap cp : Pos} {e : Expr}
noncomputable def ext0N (i : Nat) (f : DE) : SS->Option Out:=fun δ=>(f (z0v δ)).bind fun d=>(match d,δ[i]? with
  | .lst es,some (some (.ow (.lst ds)))=>if ds.length + es.length≤sizeLine then some (.nx ((z0w i δ).set i (some (.ow (.lst (ds ++ es)))))) else none
  | _,_=>none)
end
end L2
namespace L2
open PySem PySem.Spec PyProof.Rows
noncomputable def insS (x : Int) : List Int->List Int
  | []=>[x]
  | y :: r=>if x≤y then x :: y :: r else y :: insS x r
noncomputable def z4I : List Int->List Int
  | []=>[]
  | x :: r=>insS x (z4I r)
theorem z5k (x : Int) : ∀ l : List Int,(insS x l).Perm (x :: l)
  | []=>.refl _
  | y :: r=>by
    unfold insS
    split
    · exact .refl _
    · exact ((z5k x r).cons y).trans (.swap x y r)
theorem z5h : ∀ l : List Int,(z4I l).Perm l
  | []=>.refl _
  | x :: r=>(z5k x _).trans ((z5h r).cons x)
theorem z5j {x : Int} : ∀ {l : List Int},l.Pairwise (· ≤ ·)->(insS x l).Pairwise (· ≤ ·)
  | [],_=>by unfold insS; simp
  | y :: r,h=>by
    unfold insS
    split
    · rename_i hxy
      refine List.pairwise_cons.mpr ⟨fun z hz=>?_,h⟩
      rcases List.mem_cons.mp hz with e | e
      · omega
      · have:=(List.pairwise_cons.mp h).1 z e
        omega
    · rename_i hxy
      refine List.pairwise_cons.mpr ⟨fun z hz=>?_,z5j (List.pairwise_cons.mp h).2⟩
      rcases List.mem_cons.mp ((z5k x r).mem_iff.mp hz) with e | e
      · omega
      · exact (List.pairwise_cons.mp h).1 z e
theorem z5m : ∀ l : List Int,(z4I l).Pairwise (· ≤ ·)
  | []=>.nil
  | _ :: r=>z5j (z5m r)
theorem z5Y : ∀ {a b : List Int},a.Perm b->a.Pairwise (· ≤ ·)->b.Pairwise (· ≤ ·)->a=b
  | [],b,p,_,_=>(List.nil_perm.mp p).symm
  | x :: a,[],p,_,_=>by have:=p.length_eq; simp at this
  | x :: a,y :: b,p,ha,hb=>by
    obtain ⟨ha1,ha2⟩:=List.pairwise_cons.mp ha
    obtain ⟨hb1,hb2⟩:=List.pairwise_cons.mp hb
    have hxy : x=y:=by
      have h1 : x∈y :: b:=p.mem_iff.mp List.mem_cons_self
      have h2 : y∈x :: a:=p.mem_iff.mpr List.mem_cons_self
      rcases List.mem_cons.mp h1 with e | e
      · exact e
      · rcases List.mem_cons.mp h2 with e' | e'
        · exact e'.symm
        · have:=ha1 y e'
          have:=hb1 x e
          omega
    subst hxy
    rw [z5Y (List.perm_cons x |>.mp p) ha2 hb2]
theorem z3z {a l : List Int} (p : a.Perm l) (h : a.Pairwise (· ≤ ·)) : a=z4I l:=z5Y (p.trans (z5h l).symm) h (z5m l)
section
variable {prog : Program} {w : World} {A : Around} {E : Value->Shared->Prop} {s : Shared}
theorem z5T {l : Addr} {T : String} {o : Obj} {vs : List Value} {n : Nat} {ns : List Int} {Q : Value->Shared->Prop} (hT : T = "list" ∨ T = "tuple") (ho : s.heap.get? l=some o) (hc : o.cls = .type T) (hd : o.data = .seq vs.toArray n) (hI : IntsAre vs ns) (h64 : vs.length < 64)
    (h : ∀ (h1 h' : Heap) (out : List Value) (e : Nat) (ns' : List Int),(∀ b o',s.heap.get? b=some o'->h1.get? b=some o')->(∀ b o',h1.get? b=some o'->h'.get? b=some o')->h'.get? h1.objs.size=some { cls:=.type "list",data:=.seq out.toArray e }->IntsAre out ns'->ns'.Perm ns->ns'.Pairwise (· ≤ ·)->Q (.ref h1.objs.size) { s with heap:=h' }) :
    wpAny (model prog w) A (call (.builtin "sorted") [.ref l]) Q E s:=by
  refine Calls.call_function_entry kind_sorted plain_sorted entry_sorted (args_sorted1 _) ?_
  unfold Builtin.«sorted»
  refine wpAny_bind (m:=checkCount "sorted" 1 1 _) (wpAny_pure ?_)
  refine wpAny_bind (wpAny_collect_seq l hT ho hc hd (fun h1 k1=>?_) (by rw [List.size_toArray,sizeLine_eq]; omega))
  rw [List.toList_toArray]
  refine wpAny_bind (wpAny_newList ?_)
  have hoL : (h1.push (seqObj "list" vs.toArray 0)).get? h1.objs.size=some (seqObj "list" vs.toArray 0):=Heap.get?_push_size _ rfl
  show wpAny _ _ _ _ _ { s with heap:=h1.push (seqObj "list" vs.toArray 0) }
  refine wpAny_bind (wpAny_holding (wpAny_call_entry slot_list_sort ⟨_,hoL,rfl⟩ entry_list_sort (list_sort_tree hoL hI h64 fun out ns' a1 a2 a3=>⟨_,rfl,?_⟩) (args_list_sort _)))
  obtain ⟨e,he⟩:=sortedHeap_at (out:=out) hoL
  refine wpAny_pure ⟨_,rfl,h h1 _ out.toList e ns' k1 (fun b o' hb=>?_) (by simpa [seqObj] using he) a1 a2 a3⟩
  have hlt : b < h1.objs.size:=Heap.lt_size hb
  rw [sortedHeap_old (Nat.ne_of_lt hlt) (by rw [size_push']; exact Nat.lt_succ_of_lt hlt)]
  exact Heap.get?_push_of_some _ hb
end
section
variable {X : Cx}
theorem y4m : ∀ {ns : List Int} {vs : List Value},IntsAre vs ns->Vals (ns.map V.int) vs
  | _,_,.nil=>.nil
  | _,_,.cons n t r=>.cons ⟨t,rfl⟩ (y4m r)
theorem z6D : ∀ {ns : List Int} {vs : List Value},Vals (ns.map V.int) vs->IntsAre vs ns
  | [],_,.nil=>.nil
  | n :: ns,_,.cons ⟨t,e⟩ r=>by subst e; exact .cons n t (z6D r)
theorem z7g : z4A X (.builtin "sorted") (fun xs H Q=>∃ (p : Addr) (ns : List Int),xs=[.ref p]∧(SqL X.K H p (ns.map V.int)∨SqT X.K H p (ns.map V.int))∧ns.length < 64∧∀ l,H l=none->Q (.ref l) (upd H l (.lst ((z4I ns).map V.int)))):=by
  intro pins s σ H xs us Q I r h
  obtain ⟨p,ns,rfl,hq,h64,q⟩:=h
  obtain ⟨u,rfl,rx⟩:=y0z r
  cases rx
  have fin : ∀ (its : List Value),Vals (ns.map V.int) its->∀ (h1 h' : Heap) (out : List Value) (e : Nat) (ns' : List Int),(∀ b o',s.heap.get? b=some o'->h1.get? b=some o')->(∀ b o',h1.get? b=some o'->h'.get? b=some o')->h'.get? h1.objs.size=some { cls:=.type "list",data:=.seq out.toArray e }->IntsAre out ns'->ns'.Perm ns->ns'.Pairwise (· ≤ ·)->EP X pins σ Q (.ref h1.objs.size) { s with heap:=h' }:=by
    intro its rv h1 h' out e ns' k1 k2 ho hi hp hs
    have es:=z3z hp hs
    subst es
    have I1 : Inv X pins σ H { s with heap:=h1 }:=I.kept (t':=s.toks) k1
    refine ⟨.ref h1.objs.size,_,Inv.laid (s:={ s with heap:=h1 }) (t':=s.toks) I1 k2 (Nat.le_refl _) (show ObjOk X.prog X.w _ h' _ (.lst ((z4I ns).map V.int)) from ⟨?_,out,e,y4m hi,ho⟩),rfl,q _ (I1.hok.fresh (Nat.le_refl _))⟩
    rw [List.length_map,hp.length_eq,sizeLine_eq]
    omega
  rcases hq with hq | hq
  · obtain ⟨its,rv,⟨o,n,e,c,_,d⟩,hz⟩:=I.list hq
    have hlen : its.length=ns.length:=by have:=rv.length; simpa using this.symm
    exact z5T (.inl rfl) e c d (z6D rv) (by omega) (fin its rv)
  · obtain ⟨its,o,n,rv,e,c,_,d,hz⟩:=I.tupleO hq
    have hlen : its.length=ns.length:=by have:=rv.length; simpa using this.symm
    exact z5T (.inr rfl) e c d (z6D rv) (by omega) (fin its rv)
noncomputable def z5K : List D->Option (List D)
  | [.lst ds]=>(z2H ds).bind fun ns=>if ns.length < 64 then some ((z4I ns).map .int) else none
  | [.tup ds]=>(z2H ds).bind fun ns=>if ns.length < 64 then some ((z4I ns).map .int) else none
  | _=>none
theorem z7H {ds es : List D} (h : ((z2H ds).bind fun ns=>if ns.length < 64 then some ((z4I ns).map D.int) else none)=some es) : ∃ ns : List Int,ds=ns.map D.int∧ns.length < 64∧es=(z4I ns).map D.int:=by
  cases e : z2H ds with
  | none=>rw [e] at h; cases h
  | some ns=>
    rw [e,Option.bind_some] at h
    split at h
    · cases h
      exact ⟨ns,z7C e,by assumption,rfl⟩
    · cases h
theorem ol_sort {K : PySem.W.Frag} : OpL K (fun xs H Q=>∃ (p : Addr) (ns : List Int),xs=[.ref p]∧(SqL K H p (ns.map V.int)∨SqT K H p (ns.map V.int))∧ns.length < 64∧∀ l,H l=none->Q (.ref l) (upd H l (.lst ((z4I ns).map V.int)))) z5K:=by
  intro H B ds es vs Q hB hr q k
  unfold z5K at q
  split at q
  · obtain ⟨ns,rfl,h64,rfl⟩:=z7H q
    obtain ⟨v,rfl,r⟩:=z3O hr
    unfold Rep at r
    obtain ⟨a,xs,rfl,_,h,rs⟩:=r
    have ex:=z6S rs
    subst ex
    exact ⟨a,ns,rfl,.inl (SqL.of h),h64,fun l hl=>k l _ _ (z0t hl) hl z0m (z1K _)⟩
  · obtain ⟨ns,rfl,h64,rfl⟩:=z7H q
    obtain ⟨v,rfl,r⟩:=z3O hr
    unfold Rep at r
    obtain ⟨a,xs,rfl,h,rs⟩:=r
    have ex:=z6S rs
    subst ex
    exact ⟨a,ns,rfl,.inr h,h64,fun l hl=>k l _ _ (z0t hl) hl z0m (z1K _)⟩
  · cases q
variable {e : Expr} {f : DE} {p pos : Pos}
theorem z4P (hg : Gl X "sorted") (hm : X.mg "sorted" = none) (h : PD X e f) (he : starEach [e] X.env=[(false,eval e X.env)]:=by rfl) : PF X (.Call (.Name "sorted" p) [e] [] pos) (z1Z z5K [f]):=
  (z4G z7g hg hm boot_sorted (z0a h z0c he) (by decide) (by decide) he rfl).imp (callL ol_sort)
end
end L2
namespace L2
open PySem PySem.Spec PyProof.Rows
section
variable {prog : Program} {w : World} {A : Around} {s : Shared} {R : Result->Shared->Prop}
variable {I : Addr} {fp wr : List Addr} {G : Array GenState->Array GenState->Prop} {n : Nat} {P : Nat->Value->Prop} {St : Nat->Shared->Prop}
end
section
variable {prog : Program} {w : World} {A : Around} {E : Value->Shared->Prop} {s : Shared}
end
section
variable {X : Cx}
end
end L2
namespace L2
open PySem PySem.Spec PyProof.Rows
noncomputable def Thr (h : Heap) (e T : Addr) (cls : Value) : Prop:=∃ oe vs oT ts,h.get? e=some oe∧oe.cls=cls∧oe.data = .fields vs∧vs[1]? = some (.ref T)∧T≠e∧h.get? T=some oT∧oT.data = .fields ts∧ts[3]? = some .none∧oe.dict=none
noncomputable def Thr0 (h : Heap) (e : Addr) (cls : Value) : Prop:=∃ oe vs,h.get? e=some oe∧oe.cls=cls∧oe.data = .fields vs∧vs[1]? = some .none∧oe.dict=none
structure Gone (S ch : List Addr) (e : Addr) (cls : Value) (h h' : Heap) : Prop where
  keep : ∀ b o,b ∉ S->b ∉ ch->h.get? b=some o->h'.get? b=some o
  slot : ∀ b o,b∈S->b ∉ ch->h.get? b=some o->∃ sl,h'.get? b=some { o with slots:=sl }
  there : ∀ b o,h.get? b=some o->∃ o',h'.get? b=some o'
  thr : ∃ T,h.objs.size≤T∧Thr h' e T cls
section
variable {M : Model} {A : Around} {E : Value->Shared->Prop} {s : Shared}
theorem y3M {o : Obj} {f : Array Value->Array Value} (h : o.dict=none) : (Obj.mapFields f o).dict=none:=by
  unfold Obj.mapFields
  split <;> exact h
theorem z9S {base : Heap} {env : Env} {outer : List Env} {L e : Addr} {oe : Obj} {vs : Array Value} {head : Value} {hadNext : Bool} {Q : Unit->Shared->Prop}
    (hfr : A.frames=some (env :: outer)) (hl : s.heap.FunFrames base (env :: outer)) (hf : env.frame=some L)
    (he : s.heap.get? e=some oe) (hd : oe.data = .fields vs) (hsz : 1 < vs.size) (hdn : oe.dict=none)
    (h : ∀ h',Gone (frs (env :: outer)) [e] e oe.cls s.heap h'->Q () { s with heap:=h' }) :
    wpAny M A (do let a ← frameOf env; let pl ← entryPlaceOf L hadNext; let b ← EntryCells.newEntry head a .none (rawInt L) .none pl; setField (.ref e) 1 b) (fun _ s'=>wpAny M A (setFlight (.ref e) none) Q E s') E s:=by
  have hene : e ∉ frs (env :: outer):=fun hm=>by
    obtain ⟨_,o,ho,hnf⟩:=hl.mem hm
    rw [he] at ho; injection ho with ho; subst ho; exact hnf vs hd
  refine wpAny_bind (wpAny_frameOf_fun hfr hl hf fun h₁ hs₁=>?_)
  refine wpAny_bind (wpAny_entryPlaceOf fun pl hpl=>?_)
  unfold EntryCells.newEntry newFields
  refine wpAny_bind (wpAny_newObj_type ?_ (hpl.sizeOk5 _ _ _ _ _))
  have he₁ : h₁.get? e=some oe:=(hs₁.2.1 e hene).trans he
  generalize hob : ({ cls:=.type "traceback",dict:=none,data:=.fields ([head,.ref L,.none,rawInt L,.none] ++ (if pl.isEmpty then List.replicate 6 Value.none else pl)).toArray } : Obj)=ob
  have hobd : ob.data = .fields ([head,.ref L,.none,rawInt L,.none] ++ (if pl.isEmpty then List.replicate 6 Value.none else pl)).toArray:=by rw [← hob]
  have hobf : ob.isFreed=false:=by rw [← hob]; rfl
  have he₂:=Heap.get?_push_of_some (h:=h₁) ob he₁
  refine wpAny_setField he₂ hd hsz ?_
  have hTe : h₁.objs.size≠e:=Nat.ne_of_gt (Heap.lt_size he₁)
  have hd₃:=Obj.data_mapFields hd (·.setIfInBounds 1 (Value.ref h₁.objs.size))
  have he₃:=Heap.get?_update_self (Obj.mapFields (·.setIfInBounds 1 (Value.ref h₁.objs.size))) he₂ (Obj.isFreed_of_fields hd₃)
  have hT₃:=(Heap.get?_update_other (h₁.push ob) (Obj.mapFields (·.setIfInBounds 1 (Value.ref h₁.objs.size))) (Ne.symm hTe)).trans (Heap.get?_push_size h₁ hobf)
  unfold setFlight
  refine wpAny_bind (wpAny_field he₃ hd₃ (x:=.ref h₁.objs.size) (by simp [hsz]) ?_)
  rw [if_pos (show (Value.ref h₁.objs.size != Value.none)=true from by simp)]
  refine wpAny_setField hT₃ hobd (by simp only [List.size_toArray,List.length_append,List.length_cons,List.length_nil] <;> omega) (h _ ?_)
  have keep : ∀ b o,b≠e->h₁.get? b=some o →
      (((h₁.push ob).update e (Obj.mapFields (·.setIfInBounds 1 (Value.ref h₁.objs.size)))).update h₁.objs.size (Obj.mapFields (·.setIfInBounds 3 ((none : Option Addr).elim Value.none fun f=>rawInt f)))).get? b=some o:=fun b o hbe hb=>by
    have hbT : h₁.objs.size≠b:=Nat.ne_of_gt (Heap.lt_size hb)
    rw [Heap.get?_update_other _ _ hbT,Heap.get?_update_other _ _ (Ne.symm hbe)]
    exact Heap.get?_push_of_some _ hb
  have heF : (((h₁.push ob).update e (Obj.mapFields (·.setIfInBounds 1 (Value.ref h₁.objs.size)))).update h₁.objs.size (Obj.mapFields (·.setIfInBounds 3 ((none : Option Addr).elim Value.none fun f=>rawInt f)))).get? e=some (Obj.mapFields (·.setIfInBounds 1 (Value.ref h₁.objs.size)) oe):=by
    rw [Heap.get?_update_other _ _ hTe]; exact he₃
  refine ⟨fun b o hb hc e1=>?_,fun b o hb hc e1=>?_,fun b o e1=>?_,h₁.objs.size,?_,?_⟩
  · exact keep b o (fun z=>hc (by simp [z])) ((hs₁.2.1 b hb).trans e1)
  · obtain ⟨sl,e2⟩:=hs₁.2.2 b o e1
    exact ⟨sl,keep b _ (fun z=>hc (by simp [z])) e2⟩
  · by_cases hb : b=e
    · exact ⟨Obj.mapFields (·.setIfInBounds 1 (Value.ref h₁.objs.size)) oe,by rw [hb]; exact heF⟩
    · obtain ⟨sl,e2⟩:=hs₁.2.2 b o e1
      exact ⟨_,keep b _ hb e2⟩
  · rw [hs₁.1]
    exact Nat.le_refl _
  · exact ⟨_,_,_,_,heF,Obj.cls_mapFields _ _,hd₃,by simp [hsz],hTe,Heap.get?_update_self _ hT₃ (Obj.isFreed_of_fields (Obj.data_mapFields hobd _)),Obj.data_mapFields hobd _,by first | (simp; done) | (rcases hpl with rfl | ⟨_,_,_,_,_,_,_,rfl⟩ <;> simp),y3M hdn⟩
theorem y0h {base : Heap} {env : Env} {outer : List Env} {L e : Addr} {cls : Value} {Q : Unit->Shared->Prop}
    (hfr : A.frames=some (env :: outer)) (hl : s.heap.FunFrames base (env :: outer)) (hf : env.frame=some L) (ht : Thr0 s.heap e cls)
    (h : ∀ h',Gone (frs (env :: outer)) [e] e cls s.heap h'->Q () { s with heap:=h' }) : wpAny M A (noteFrame (.ref e) env) (fun _ s'=>wpAny M A (setFlight (.ref e) none) Q E s') E s:=by
  obtain ⟨oe,vs,he,rfl,hd,h1,hdn⟩:=ht
  unfold noteFrame
  simp only [hf]
  refine wpAny_bind (wpAny_field he hd h1 ?_)
  rw [if_neg (by decide)]
  exact z9S hfr hl hf he hd (Array.getElem?_eq_some_iff.mp h1).1 hdn h
theorem y0Y {base : Heap} {env : Env} {outer : List Env} {L e T : Addr} {cls : Value} {Q : Unit->Shared->Prop}
    (hfr : A.frames=some (env :: outer)) (hl : s.heap.FunFrames base (env :: outer)) (hf : env.frame=some L) (ht : Thr s.heap e T cls)
    (h : ∀ h',Gone (frs (env :: outer)) [e,T] e cls s.heap h'->Q () { s with heap:=h' }) : wpAny M A (noteFrame (.ref e) env) (fun _ s'=>wpAny M A (setFlight (.ref e) none) Q E s') E s:=by
  obtain ⟨oe,vs,oT,ts,he,rfl,hd,h1,hTe,hT,hdT,h3,hdn⟩:=ht
  unfold noteFrame
  simp only [hf]
  refine wpAny_bind (wpAny_field he hd h1 ?_)
  rw [if_pos (show (Value.ref T != Value.none)=true from by simp)]
  refine wpAny_bind (wpAny_field hT hdT h3 ?_)
  rw [if_neg (show ¬ ((Value.none == rawInt L)=true) from by simp [rawInt])]
  refine wpAny_bind (wpAny_setField hT hdT (Array.getElem?_eq_some_iff.mp h3).1 ?_)
  have other : ∀ b,b≠T->(s.heap.update T (Obj.mapFields (·.setIfInBounds 3 Value.none))).get? b=s.heap.get? b:=fun b hb=>Heap.get?_update_other _ _ (Ne.symm hb)
  have noRecord : ∀ b o,s.heap.get? b=some o->(∀ vs,o.data≠.fields vs)->b≠T:=fun b o hb hnf q=>by
    rw [q,hT] at hb; injection hb with hb; subst hb; exact hnf ts hdT
  refine z9S hfr (hl.of_keeps fun b o hb hnf=>⟨o,(other b (noRecord b o hb hnf)).trans hb,rfl⟩) hf ((other e (Ne.symm hTe)).trans he) hd (Array.getElem?_eq_some_iff.mp h1).1 hdn fun h' G=>h h' ?_
  refine ⟨fun b o hb hc e1=>G.keep b o hb (fun z=>hc (List.mem_cons.mpr (.inl (List.mem_singleton.mp z)))) ((other b fun z=>hc (by simp [z])).trans e1),fun b o hb hc e1=>G.slot b o hb (fun z=>hc (List.mem_cons.mpr (.inl (List.mem_singleton.mp z)))) ((other b fun z=>hc (by simp [z])).trans e1),fun b o e1=>?_,?_⟩
  · by_cases hb : b=T
    · have e2 : (s.heap.update T (Obj.mapFields (·.setIfInBounds 3 Value.none))).get? b=some (Obj.mapFields (·.setIfInBounds 3 Value.none) oT):=by
        rw [hb]
        exact Heap.get?_update_self _ hT (Obj.isFreed_of_fields (Obj.data_mapFields hdT _))
      exact G.there b _ e2
    · exact G.there b o ((other b hb).trans e1)
  · obtain ⟨T',h1,h2⟩:=G.thr
    exact ⟨T',by rwa [Heap.size_after_update] at h1,h2⟩
theorem z6c {env : Env} {e : Value} {Q : Unit->Shared->Prop} (h : wpAny M A (noteFrame e env) (fun _ s'=>wpAny M A (setFlight e none) Q E s') E s) : wpAny M A (leaving env e) Q E s:=by
  unfold leaving
  exact wpAny_bind h
end
end L2
namespace L2
open PySem PySem.Spec PyProof.Rows
theorem ObjOk.some {P : Program} {w : World} {H : Hp} {h : Heap} {a : Addr} {o : HO} (x : ObjOk P w H h a o) : ∃ ob,h.get? a=Option.some ob:=by
  cases q : h.get? a with
  | some ob=>exact ⟨ob,rfl⟩
  | none=>
    have y : ObjOk P w H h a o:=x
    induction o with
    | lst xs=>obtain ⟨_,_,_,_,e⟩:=x; rw [q] at e; cases e
    | tup xs=>obtain ⟨_,_,_,_,e,_⟩:=x; rw [q] at e; cases e
    | dK kvs=>obtain ⟨_,_,_,_,_,_,_,e,_⟩:=x; rw [q] at e; cases e
    | dT kvs=>obtain ⟨_,_,_,_,_,_,_,e,_⟩:=x; rw [q] at e; cases e
    | set S n=>obtain ⟨_,_,_,_,e,_⟩:=x; rw [q] at e; cases e
    | ins C dx fs=>obtain ⟨_,_,_,e,_⟩:=x; rw [q] at e; cases e
    | own y=>obtain ⟨_,e⟩:=x; rw [q] at e; cases e
    | xd fs=>obtain ⟨_,⟨_,_,_,e,_⟩,_⟩:=x; rw [q] at e; cases e
    | met f y=>have e:=x; unfold ObjOk at e; rw [q] at e; cases e
    | rng lo hi=>obtain ⟨_,_,_,e⟩:=x; rw [q] at e; cases e
    | frz ob u ih=>have e:=x.1; rw [q] at e; cases e
    | tbl ps=>have e:=x; unfold ObjOk at e; rw [q] at e; cases e
    | ext φ=>obtain ⟨_,⟨_,e⟩,_⟩:=x; rw [q] at e; cases e
section
variable {X : Cx} {pins : List (Addr × Obj)} {σ : St} {H : Hp} {s : Shared}
noncomputable def FpX (X : Cx) (pins : List (Addr × Obj)) (H : Hp) (b : Addr) : Prop:=
  H b=none∧b≠X.env.locals∧(b∈X.ex∨X.s₀.heap.get? b=none)∧(∀ x c,X.env.cells.lookup x=some c->c≠b)∧∀ p∈X.pn ++ pins,p.1≠b
theorem Inv.fpX {H' : Hp} {b : Addr} (I : Inv X pins σ H s) (hb : s.heap.get? b=none) (hn : H' b=none) : FpX X pins H' b:=by
  refine ⟨hn,fun z=>?_,?_,fun x c e z=>?_,fun p hp z=>?_⟩
  · obtain ⟨m,⟨o,_,_,ho,_⟩,_⟩:=I.loc
    rw [← z,hb] at ho
    cases ho
  · by_cases hx : b∈X.ex
    · exact .inl hx
    · refine .inr ?_
      cases q : X.s₀.heap.get? b with
      | none=>rfl
      | some o=>
        obtain ⟨o',e⟩:=I.base.there b o q hx
        rw [hb] at e
        cases e
  · obtain ⟨v,o,ho,_⟩:=I.cell x c e
    rw [z,hb] at ho
    cases ho
  · have:=(I.pin p hp).1
    rw [z,hb] at this
    cases this
theorem Inv.fresh0 {b : Addr} (I : Inv X pins σ H s) (hb : s.heap.get? b=none) : H b=none:=by
  cases q : H b with
  | none=>rfl
  | some u=>
    obtain ⟨o,e⟩:=(I.hok b u q).some
    rw [hb] at e
    cases e
theorem Inv.gone {ch : List Addr} {e : Addr} {cls : Value} {h' : Heap} (I : Inv X pins σ H s) (G : Gone (frs X.stack) ch e cls s.heap h') (hch : ∀ b∈ch,FpX X pins H b) : Inv X pins σ H { s with heap:=h' }:=by
  have nS : ∀ b u,H b=some u->b ∉ frs X.stack:=fun b u q z=>by rw [I.stkFree b z] at q; cases q
  have nC : ∀ b u,H b=some u->b ∉ ch:=fun b u q z=>by rw [(hch b z).1] at q; cases q
  have hok : HOk X.prog X.w H h':=fun b u q=>(I.hok b u q).stay (fun c v hc e=>by
    rcases hc with rfl | z
    · exact G.keep _ v (nS _ u q) (nC _ u q) e
    · exact G.keep c v (nS c _ z) (nC c _ z) e) (fun _ q=>q) fun _ _ q=>q
  have any : ∀ b o,b ∉ ch->s.heap.get? b=some o->∃ sl,h'.get? b=some { o with slots:=sl }:=fun b o hc q=>by
    by_cases hb : b∈frs X.stack
    · exact G.slot b o hb hc q
    · exact ⟨o.slots,G.keep b o hb hc q⟩
  have new : ∀ b o,X.s₀.heap.get? b=some o->b ∉ X.ex->b ∉ ch:=fun b o q hx z=>by
    rcases (hch b z).2.2.1 with y | y
    · exact hx y
    · rw [y] at q; cases q
  have kp : ∀ b o,b≠X.env.locals->b ∉ X.fs->b ∉ ch->s.heap.get? b=some o->h'.get? b=some o:=fun b o hL hb hc q=>
    G.keep b o (fun z=>(List.mem_cons.mp (I.stkSub b z)).elim hL hb) hc q
  have old : ∀ b o,X.s₀.heap.get? b=some o->b≠X.env.locals:=fun b o q=>Nat.ne_of_lt (Nat.lt_of_lt_of_le (Heap.lt_size q) I.ok.above)
  have cellK : ∀ x c,X.env.cells.lookup x=some c->∀ v,s.heap.IsCell c v->h'.IsCell c v:=fun x c q v z_=>by
    obtain ⟨o,ho,hd⟩:=z_
    obtain ⟨sl,y⟩:=any c o (fun z=>(hch c z).2.2.2.1 x c q rfl) ho
    exact ⟨_,y,hd⟩
  refine ⟨I.ok,I.os,I.bare,⟨?_,?_,fun b o q n hx=>I.base.free b o q n hx,?_,I.base.tups,I.base.frzs,I.base.tbls⟩,?_,?_,I.free,I.freeC,?_,hok,I.len⟩
  · exact fun b o q n hb hx=>kp b o (old b o q) hb (new b o q hx) (I.base.keep b o q n hb hx)
  · intro b o q n hb hx
    obtain ⟨sl,q1⟩:=I.base.slot b o q n hb hx
    obtain ⟨sl',q2⟩:=any b _ (new b o q hx) q1
    exact ⟨sl',q2⟩
  · intro b o q hx
    obtain ⟨o',q1⟩:=I.base.there b o q hx
    exact G.there b o' q1
  · obtain ⟨m,⟨o,es,ep,ho,r⟩,hl⟩:=I.loc
    obtain ⟨sl,hL⟩:=any _ o (fun z=>(hch _ z).2.1 rfl) ho
    refine ⟨m,⟨_,es,ep,hL,r⟩,fun i x v e1 e2 e3=>?_⟩
    obtain ⟨u,r,l⟩:=hl i x v e1 e2 e3
    exact ⟨u,r,l.imp id fun ⟨k,c,q,z⟩=>⟨k,c,q,cellK x c q _ z⟩⟩
  · intro x c q
    obtain ⟨v,z⟩:=I.cell x c q
    exact ⟨v,cellK x c q v z⟩
  · intro p hp
    obtain ⟨q,n,ne,nf,d⟩:=I.pin p hp
    exact ⟨kp p.1 p.2 ne nf (fun z=>(hch p.1 z).2.2.2.2 p hp rfl) q,n,ne,nf,d⟩
end
noncomputable def CXE (P : Program) (w : World) : CXT:=fun outer H s E e s'=>∃ (ea T : Addr) (cls : Value) (H' : Hp),e = .ref ea∧s'.os=s.os∧AllBare s'.gens∧Un (frs outer) [] H H' s.heap s'.heap∧HOk P w H' s'.heap ∧
  s.heap.get? ea=none∧s.heap.get? T=none∧H' ea=none∧H' T=none∧Thr s'.heap ea T cls∧E cls none H'
section
variable {P : Program} {w : World} {K : PySem.W.Frag} {mg : Str->Option Value} {base : Heap} {N : List Str} {qual : Str} {scope : Scope} {f : Addr} {cd : Value} {A : Around} {outer : List Env} {s : Shared} {H : Hp} {E : XK}
theorem y3a {pins : List (Addr × Obj)} {σ : St} {H1 : Hp} {s1 : Shared} {e : Addr} {cls : Value} (I : Inv (z9A (CXE P w) P w K mg base N qual scope f cd A outer s H E) pins σ H1 s1)
    (hf : FpX (z9A (CXE P w) P w K mg base N qual scope f cd A outer s H E) pins H1 e) (ht : Thr0 s1.heap e cls) (hE : E cls none H1) : (z9A (CXE P w) P w K mg base N qual scope f cd A outer s H E).xe (.ref e) s1:=by
  refine z6c (y0h (base:=base) (outer:=outer) I.ok.frames I.stack rfl ht fun h' G=>?_)
  have I':=I.gone G fun b hb=>by rw [List.mem_singleton.mp hb]; exact hf
  obtain ⟨T,hT,th⟩:=G.thr
  have he : s.heap.get? e=none:=by
    rcases hf.2.2.1 with z | z
    · exact absurd (show e∈([] : List Addr) from z) (by simp)
    · exact z
  exact ⟨e,T,cls,H1,rfl,I'.os,I'.bare,I'.base,I'.hok,he,Heap.get?_none_of_le (Nat.le_trans I.sz hT),hf.1,I.hok.fresh hT,th,hE⟩
end
end L2
namespace L2
open PySem PySem.Spec PyProof.Rows
section
variable {X : Cx} {x : Str} {C : Addr} {B Bn newId nid initId inN : String} {bm bmN : List Value} {np cpos pos : Pos} {e₀ : Expr} {te : TE}
noncomputable def tRaise (te : TE) (R : St->Hp->Prop) : TS:=fun _ σ H=>te σ H fun _ H1=>R σ H1
noncomputable def Want (X : Cx) (C : Addr) (R : St->Hp->Prop) : Prop:=∀ (pins : List (Addr × Obj)) (σ : St) (H : Hp) (s : Shared) (e : Addr),Inv X pins σ H s->FpX X pins H e->Thr0 s.heap e (.ref C)->R σ H->X.xe (.ref e) s
theorem y4Q {R : St->Hp->Prop} (hc : X.calm=true) (hg : Gl X x) (O : OwnCls x C bm newId X.mg X.base) (Fn : ExcBaseFacts Bn newId inN bmN) (hBn : bm.contains (.type Bn)=true) (FB : ExcBaseFacts B nid initId bm) (hW : Want X C R) (h : PE X e₀ te)
    (he : starEach [e₀] X.env=[(false,eval e₀ X.env)]:=by rfl) (hd : (x == ("__debug__" : Str))=false:=by decide) : PS X (.Raise (some (.Call (.Name x np) [e₀] [] cpos)) none pos) (tRaise te R):=by
  intro pins s σ H D I hq
  obtain ⟨tl,N,nm,q,bs,hdct,sn,sub,ab,col,dd,k0,k1,k2,k3,k5,mN,hC,hN,hni,T⟩:=O.obj
  refine wpAny_Raise_call_subU (C:=C) (nm:=nm) (q:=q) (N:=N) (bs:=bs) (bm:=tl) (hdct:=hdct) (sn:=sn) (sub:=sub) (ab:=ab) (col:=col) (dd:=dd) (k0:=k0) (k1:=k1) (k2:=k2) (k3:=k3) (k5:=k5)
    Fn hBn FB (mN:=mN) (T.hasType FB.hasBase) (I.ok.hd hc) (by rw [he]; rfl) hni (z8q I hg O.bound ⟨rfl,?_⟩ hd)
  have ha:=(z2a h pa_nil he) cpos pins s σ H (fun vs H1=>match vs with
    | [_]=>R σ H1
    | _=>False) I hq
  rw [he] at ha ⊢
  refine Calls.evalArgs_plain (thn ha fun us s2 ⟨vs,H2,I2,r2,q2⟩=>?_)
  cases r2 with
  | nil=>exact (show False from q2).elim
  | cons r r3=>
    cases r3 with
    | cons _ _=>exact (show False from q2).elim
    | nil=>
      refine ⟨rfl,by show 1≤sizeLine; rw [sizeLine_eq]; omega,I2.bk _ _ hC,hN.keeps I2.bk,T.keeps I2.bk,fun h' e hm=>?_⟩
      obtain ⟨t,he',_⟩:=hm.there
      have I3 : Inv X pins σ H2 { s2 with heap:=h' }:=I2.kept (t':=s2.toks) hm.keeps
      exact hW pins σ H2 _ e I3 (I2.fpX hm.new (I2.fresh0 hm.new)) ⟨_,_,he',rfl,rfl,rfl,rfl⟩ q2
variable {H0 : Hp} {B0 : Addr->Prop} {fr : Bool} {RX : XR}
noncomputable def z4w (c : Nat) (f : DE) : SS->Option Out:=fun δ=>(f (z0v δ)).map fun _=>.ex c δ
theorem s_raise {c : Nat} {f : DE} (hc : X.calm=true) (hg : Gl X x) (O : OwnCls x C bm newId X.mg X.base) (Fn : ExcBaseFacts Bn newId inN bmN) (hBn : bm.contains (.type Bn)=true) (FB : ExcBaseFacts B nid initId bm) (hW : Want X C (RX c)) (h : PD X e₀ f)
    (he : starEach [e₀] X.env=[(false,eval e₀ X.env)]:=by rfl) (hd : (x == ("__debug__" : Str))=false:=by decide) : PS X (.Raise (some (.Call (.Name x np) [e₀] [] cpos)) none pos) (tS X.K H0 B0 fr RX (z4w c f)):=
  PS.imp (y4Q hc hg O Fn hBn FB hW h he hd) fun D σ H z_=>by
    obtain ⟨δ,R,o,rs,q,k⟩:=z_
    unfold z4w at q
    cases e : f (z0v δ) with
    | none=>rw [e] at q; cases q
    | some d=>
      rw [e] at q
      cases q
      exact ⟨noB,z0v δ,d,.no,rs.all,e,fun v H1 s1 r1=>k σ H1 R (rs.mono s1) (.same s1)⟩
end
end L2
namespace L2
open PySem PySem.Spec PyProof.Rows
inductive XO where
  | val (d : D) | exc (c : Nat)
noncomputable def spX (K : PySem.W.Frag) (cl : Nat->Value) (m : List D->Option XO) : Sp:=fun vs H Q E=>∃ ds o,Reps K H noB ds vs∧m ds=some o∧(match o with
  | .val d=>∀ v H' A,Same H H'->Tree K H' d v A->A.Nodup->(∀ a∈A,H a=none)->Q v H'
  | .exc c=>∀ H',Same H H'->E (cl c) none H')
noncomputable def y5A (np nl : Nat) (g : SS->Option Out) : List D->Option XO:=fun ds=>if ds.length=np then (match g (ds.map (fun d=>some (.sh d)) ++ List.replicate nl none) with
  | some (.rt d)=>some (.val d)
  | some (.nx _)=>some (.val .non)
  | some (.ex c _)=>some (.exc c)
  | _=>none) else none
theorem z9p {np nl : Nat} {g : SS->Option Out} {ds : List D} {o : XO} (h : y5A np nl g ds=some o) : ds.length=np:=by
  unfold y5A at h
  split at h
  · assumption
  · cases h
noncomputable abbrev defRX (cl : Nat->Value) (E : XK) : XR:=fun c _ H1=>E (cl c) none H1
section
variable {P : Program} {w : World} {K : PySem.W.Frag} {mg : Str->Option Value} {base : Heap}
theorem fnX {x qual : Str} {st : Stmt} {f : Addr} {fd : FuncData} {N ps : List Str} {k np nl : Nat} {g : SS->Option Out} {cl : Nat->Value} (F : Fun K x qual st f fd) (S : FnScope N ps (z0b st)) (hnp : ps.length=np) (hN : N.length=np + nl)
    (hbody : ∀ (cdv : Value) (A : Around) (outer : List Env) (s : Shared) (H : Hp) (E : XK),Room k (A.deeper (envOfC qual (z0b st) s.heap.objs.size f cdv)) →
      PSs (z9A (CXE P w) P w K mg base N qual (z0b st) f cdv A outer s H E) (z0l st) (tS K H noB true (defRX cl E) g)) : FnOk P w K mg base (CXE P w) (k + 1) f fd ps (spX K cl (y5A np nl g)):=by
  obtain ⟨oc,od,kV,doc,pm,an,cdv,ct,osl,rfl,lk,hcd⟩:=F.ex
  refine fn_of lk hcd S (fun vs H Q E h=>?_) fun A outer s H vs Q E hr h=>?_
  · obtain ⟨ds,o,r,e,_⟩:=h
    rw [← r.length,z9p e,hnp]
  · obtain ⟨ds,o,r,e,kk⟩:=h
    refine ⟨_,hbody cdv A outer s H E hr,?_⟩
    have hl:=z9p e
    unfold y5A at e
    rw [if_pos hl] at e
    have rs:=z9G (nl:=nl) .no r (N:=N) (by omega)
    split at e
    · rename_i d' eg
      cases e
      exact ⟨_,_,_,rs,eg,fun v H' z _=>by
        obtain ⟨A',t,nd,fr⟩:=z.2.1 rfl
        exact kk v H' A' z.1 t nd fr⟩
    · rename_i δ' eg
      cases e
      exact ⟨_,_,_,rs,eg,fun σ' H' R' rs' _=>kk .non H' [] rs'.keep ⟨rfl,rfl⟩ List.nodup_nil (fun a z=>nomatch z)⟩
    · rename_i c δ' eg
      cases e
      exact ⟨_,_,_,rs,eg,fun σ' H' R' rs' _=>kk H' rs'.keep⟩
    · cases e
structure DefX (P : Program) (w : World) (K : PySem.W.Frag) (mg : Str->Option Value) (base : Heap) (k : Nat) (x : Str) (sp : Sp) : Prop where
  ok : ∃ (f : Addr) (fd : FuncData) (ps : List Str),mg x=some (.ref f)∧PySem.W.keepIn K (.ref f)=true∧Binds K fd ps []∧FnOk P w K mg base (CXE P w) k f fd ps sp
noncomputable def XW (X : Cx) (cl : Nat->Value) (RX : XR) : Prop:=∀ (pins : List (Addr × Obj)) (σ : St) (H : Hp) (s : Shared) (ea T : Addr) (c : Nat),Inv X pins σ H s->FpX X pins H ea->FpX X pins H T->Thr s.heap ea T (cl c)->RX c σ H->X.xe (.ref ea) s
theorem xw_def {N : List Str} {qual : Str} {scope : Scope} {f : Addr} {cd : Value} {A : Around} {outer : List Env} {s : Shared} {H : Hp} {E : XK} {cl : Nat->Value} : XW (z9A (CXE P w) P w K mg base N qual scope f cd A outer s H E) cl (defRX cl E):=by
  intro pins σ H1 s1 ea T c I fe fT th hE
  refine z6c (y0Y (base:=base) (outer:=outer) I.ok.frames I.stack rfl th fun h' G=>?_)
  have I':=I.gone G fun b hb=>by
    rcases List.mem_cons.mp hb with rfl | hb
    · exact fe
    · rw [List.mem_singleton.mp hb]; exact fT
  obtain ⟨T',hT,th'⟩:=G.thr
  have he : s.heap.get? ea=none:=by
    rcases fe.2.2.1 with z | z
    · exact absurd (show ea∈([] : List Addr) from z) (by simp)
    · exact z
  exact ⟨ea,T',cl c,H1,rfl,I'.os,I'.bare,I'.base,I'.hok,he,Heap.get?_none_of_le (Nat.le_trans I.sz hT),fe.1,I.hok.fresh hT,th',hE⟩
theorem z6p {N : List Str} {qual : Str} {scope : Scope} {f C : Addr} {cd : Value} {A : Around} {outer : List Env} {s : Shared} {H : Hp} {E : XK} {cl : Nat->Value} {c : Nat} (hc : cl c = .ref C) : Want (z9A (CXE P w) P w K mg base N qual scope f cd A outer s H E) C (defRX cl E c):=
  fun pins σ H1 s1 e I hf ht hE=>y3a I hf ht (by rw [← hc]; exact hE)
end
section
variable {X : Cx} {k : Nat} {f : Addr} {fd : FuncData} {ps : List Str} {sp : Sp} {cl : Nat->Value} {RX : XR}
theorem run_fnX {pins : List (Addr × Obj)} {σ : St} {H : Hp} {s : Shared} {Q : VK} {us : List Value} {vs : List V} (F : FnOk X.prog X.w X.K X.mg X.base (CXE X.prog X.w) k f fd ps sp) (hr : Room k X.A) (hb : Binds X.K fd ps []) (hW : XW X cl RX)
    (I : Inv X pins σ H s) (r : Vals vs us) (h : sp vs H Q (fun cls _ H'=>∃ c,cls=cl c∧RX c σ H')) : wpAny (model X.prog X.w) X.A (call (.ref f) us) (EP X pins σ Q) X.xe s:=by
  have hl : us.length=ps.length:=by rw [← r.length]; exact F.len _ _ _ _ h
  have hb':=hb s us I.kIn (by rw [List.append_nil]; exact hl)
  rw [List.append_nil] at hb'
  refine wpAny_call (codeAny_mono (F.run X.A X.stack s H ⟨us,[]⟩ us vs Q _ hr I.env0 hb' r h) fun r s' hq=>?_)
  cases r with
  | error e=>
    obtain ⟨ea,T,cls,H',rfl,os,bare,un,hok,h1,h2,h3,h4,th,c,rfl,rx⟩:=hq
    exact hW pins σ H' s' ea T c (I.call' os un hok bare fun b hb=>nomatch hb) (I.fpX h1 h3) (I.fpX h2 h4) th rx
  | ok fl=>
    cases fl with
    | ret u=>exact I.after hq
    | next=>exact False.elim hq
    | brk=>exact False.elim hq
    | cont=>exact False.elim hq
end
end L2
namespace L2
open PySem PySem.Spec PyProof.Rows
section
variable {X : Cx} {k : Nat} {sp : Sp} {cl : Nat->Value} {RX : XR} {x : Str} {p pos pos2 : Pos} {e : Expr} {es : List Expr} {t : TA}
noncomputable def tCallX (cl : Nat->Value) (RX : XR) (sp : Sp) (t : TA) : TE:=fun σ H Q=>t σ H fun vs H1=>sp vs H1 Q fun cls _ H'=>∃ c,cls=cl c∧RX c σ H'
theorem y5d (G : DefX X.prog X.w X.K X.mg X.base k x sp) (hr : Room k X.A) (hg : Gl X x) (hW : XW X cl RX) (ha : PA X (e :: es) t) (hdb : (x == ("__debug__" : Str))=false:=by decide)
    (he : starEach (e :: es) X.env=(false,eval e X.env) :: starEach es X.env:=by rfl) (hpl : (backTo pos (starEach es X.env)).any (·.1)=false:=by rfl) : PE X (.Call (.Name x p) (e :: es) [] pos) (tCallX cl RX sp t):=by
  obtain ⟨f,fd,ps,hm,hk,hb,ok⟩:=G.ok
  intro pins s σ H Q I h
  refine wpAny_Call_Name_kw (z8q I hg hm ?_ hdb)
  refine PySem.W.callWith_K (h₀:=X.base) I.ok.mod.kin hk (thn (ha pos pins s σ H _ I h) fun us s1 ⟨vs,H1,I1,r,q⟩=>⟨I1.kIn,?_⟩) he hpl
  exact run_fnX ok hr hb hW I1 r q
noncomputable def tX (K : PySem.W.Frag) (RX : XR) (F : DS->Option XO) : TE:=fun σ H Q=>∃ δ o,RepS K H noB σ δ∧F δ=some o∧(match o with
  | .val d=>∀ v H' A,Same H H'->Tree K H' d v A->A.Nodup->(∀ a∈A,H a=none)->Q v H'
  | .exc c=>∀ H',Same H H'->RX c σ H')
noncomputable def z6b (m : List D->Option XO) (fl : List DE) : DS->Option XO:=fun δ=>(z0u fl δ).bind m
theorem y2h {m : List D->Option XO} {fl : List DE} (G : DefX X.prog X.w X.K X.mg X.base k x (spX X.K cl m)) (hr : Room k X.A) (hg : Gl X x) (hW : XW X cl RX) (ha : PAD X (e :: es) fl) (hdb : (x == ("__debug__" : Str))=false:=by decide)
    (he : starEach (e :: es) X.env=(false,eval e X.env) :: starEach es X.env:=by rfl) (hpl : (backTo pos (starEach es X.env)).any (·.1)=false:=by rfl) : PE X (.Call (.Name x p) (e :: es) [] pos) (tX X.K RX (z6b m fl)):=
  (y5d G hr hg hW ha hdb he hpl).imp fun σ H Q z_=>by
    obtain ⟨δ,o,S,q,kk⟩:=z_
    unfold z6b at q
    cases e1 : z0u fl δ with
    | none=>rw [e1] at q; cases q
    | some ds=>
      rw [e1,Option.bind_some] at q
      refine ⟨noB,δ,ds,.no,S,e1,fun vs H1 s1 r1=>⟨ds,o,r1,q,?_⟩⟩
      cases o with
      | val d=>exact fun v H' A s' t nd fr=>kk v H' A (s1.trans s') t nd fun a ha=>s1.free (fr a ha)
      | exc c=>exact fun H' s'=>⟨c,rfl,kk H' (s1.trans s')⟩
variable {H0 : Hp} {B0 : Addr->Prop} {fr : Bool} {F : DS->Option XO}
noncomputable def y3i (F : DS->Option XO) : SS->Option Out:=fun δ=>(F (z0v δ)).map fun o=>match o with
  | .val _=>.nx δ
  | .exc c=>.ex c δ
theorem s_exprX (h : PE X e (tX X.K RX F)) (hs : swapsWith e none pos.line X.env=pure false:=by rfl) : PS X (.Expr e pos) (tS X.K H0 B0 fr RX (y3i F)):=PS.imp (z4X h hs) fun D σ H z_=>by
  obtain ⟨δ,R,o,rs,q,k⟩:=z_
  unfold y3i at q
  cases e1 : F (z0v δ) with
  | none=>rw [e1] at q; cases q
  | some o1=>
    rw [e1] at q
    refine ⟨z0v δ,o1,rs.all,e1,?_⟩
    cases o1 with
    | val d=>
      cases q
      exact fun v H' A s t nd fr'=>k σ H' R (rs.mono s) (Stp.same s)
    | exc c=>
      cases q
      exact fun H' s=>k σ H' R (rs.mono s) (.same s)
end
end L2
namespace L2
open PySem PySem.Spec PyProof.Rows
section
variable {X : Cx} {pins : List (Addr × Obj)} {σ : St} {H : Hp} {s : Shared} {e : Value}
end
section
variable {X : Cx} {cls : Value} {x : Str} {C : Addr} {np hpos : Pos} {b₀ : Stmt} {suite : List Stmt} {rest : List ExceptHandler} {t : TS}
end
end L2
namespace L2
open PySem PySem.Spec PyProof.Rows
section
variable {X : Cx} {pins pn : List (Addr × Obj)} {xe : Value->Shared->Prop} {σ : St} {H : Hp} {s : Shared}
end
section
variable {X : Cx} {H0 : Hp} {B0 : Addr->Prop} {fr : Bool} {RX : XR} {cl : Nat->Value} {body : List Stmt} {h₀ : ExceptHandler} {hs : List ExceptHandler} {pos : Pos}
end
end L2
namespace L2
open PySem PySem.Spec PyProof.Rows
section
variable {K : PySem.W.Frag} {H0 H : Hp} {B0 : Addr->Prop} {σ : St} {δ : SS} {R : Nat->List Addr}
noncomputable def movS (i j : Nat) (d : D) (δ : SS) : SS:=((z0w j δ).set j none).set i (some (.ow d))
theorem z6r {i j k : Nat} {d : D} {x : SD} (h : (movS i j d δ)[k]? = some (some x)) : (k=i∧x = .ow d∧i < δ.length)∨(k≠i∧k≠j∧δ[k]? = some (some x)∧∀ d,x≠.bo j d):=by
  unfold movS at h
  rcases z1w h with ⟨e,q,hl⟩ | ⟨hk,q⟩
  · cases q
    refine .inl ⟨e,rfl,?_⟩
    rw [List.length_set] at hl
    unfold z0w at hl
    rwa [List.length_map] at hl
  · rcases z1w q with ⟨e,q',_⟩ | ⟨hj,q'⟩
    · cases q'
    · exact .inr ⟨hk,hj,z1Q q'⟩
theorem RS.mov {i j : Nat} {d : D} {v : V} (hij : i≠j) (h : RS K H0 B0 H σ δ R) (t : Tree K H d v (R j)) (nd : (R j).Nodup) : RS K H0 B0 H (σ.set i (some v)) (movS i j d δ) (z4r (z4r R j []) i (R j)):=by
  have up : ∀ {k : Nat} {w : V},k≠i->σ[k]? = some (some w)->(σ.set i (some v))[k]? = some (some w):=fun hj e=>by rw [List.getElem?_set_ne (Ne.symm hj)]; exact e
  have mem : ∀ r a,a∈z4r (z4r R j []) i (R j) r->(r=i∧a∈R j)∨(r≠i∧r≠j∧a∈R r):=fun r a z=>by
    by_cases hr : r=i
    · subst hr; rw [z0y] at z; exact .inl ⟨rfl,z⟩
    · rw [z0N hr] at z
      by_cases hj : r=j
      · subst hj; rw [z0y] at z; cases z
      · rw [z0N hj] at z; exact .inr ⟨hr,hj,z⟩
  refine ⟨h.keep,h.inB,by unfold movS z0w; simp [h.len],fun r a z=>?_,fun r a z=>?_,fun r s a z z'=>?_,fun k d' z=>?_,fun k r' d' z=>?_,fun k d' z=>?_⟩
  · rcases mem r a z with ⟨_,z⟩ | ⟨_,_,z⟩ <;> exact h.new _ a z
  · rcases mem r a z with ⟨_,z⟩ | ⟨_,_,z⟩ <;> exact h.held _ a z
  · rcases mem r a z with ⟨h1,z⟩ | ⟨h1,h1',z⟩ <;> rcases mem s a z' with ⟨h2,z'⟩ | ⟨h2,h2',z'⟩
    · rw [h1,h2]
    · exact absurd (h.disj s j a z' z) h2'
    · exact absurd (h.disj r j a z z') h1'
    · exact h.disj r s a z z'
  · rcases z6r z with ⟨_,q,_⟩ | ⟨h1,h2,q,_⟩
    · cases q
    · obtain ⟨w,e1,r⟩:=h.sh k d' q
      refine ⟨w,up h1 e1,r.anti fun a z=>z.imp id fun ⟨r,z⟩=>?_⟩
      rcases mem r a z with ⟨_,z⟩ | ⟨_,_,z⟩ <;> exact ⟨_,z⟩
  · rcases z6r z with ⟨_,q,_⟩ | ⟨h1,h2,q,hn⟩
    · cases q
    · obtain ⟨w,e1,r⟩:=h.bo k r' d' q
      have hr' : r'≠j:=fun e=>hn d' (by rw [e])
      refine ⟨w,up h1 e1,r.anti fun a z=>z.imp id fun ⟨s,hs,z⟩=>?_⟩
      rcases mem s a z with ⟨_,z⟩ | ⟨_,_,z⟩
      · exact ⟨j,Ne.symm hr',z⟩
      · exact ⟨s,hs,z⟩
  · rcases z6r z with ⟨e,q,hl⟩ | ⟨h1,h2,q,_⟩
    · cases q
      subst e
      rw [z0y]
      exact ⟨v,by rw [List.getElem?_set]; simp [← h.len,hl],t,nd⟩
    · obtain ⟨w,e1,t'⟩:=h.ow k d' q
      rw [z0N h1,z0N h2]
      exact ⟨w,up h1 e1,t'⟩
end
section
variable {X : Cx} {H0 : Hp} {B0 : Addr->Prop} {fr : Bool} {RX : XR} {pos : Pos} {st : Stmt}
noncomputable def movO (i j : Nat) : SS->Option Out:=fun δ=>match δ[j]? with
  | some (some (.ow d))=>some (.nx (movS i j d δ))
  | _=>none
theorem s_mov {i j : Nat} (hij : i≠j) (h : PAsg X st i (z7K j)) : PS X st (tS X.K H0 B0 fr RX (movO i j)):=PS.imp h fun D σ H z_=>by
  obtain ⟨δ,R,o,rs,q,k⟩:=z_
  unfold movO at q
  split at q
  · rename_i d e
    cases q
    obtain ⟨v,e1,t,nd⟩:=rs.ow j d e
    refine ⟨v,e1,k _ H _ (rs.mov hij t nd) ⟨fun a o h _=>h,fun r a z=>?_,fun a z=>z⟩⟩
    by_cases hr : r=i
    · subst hr; rw [z0y] at z; exact .inl ⟨j,z⟩
    · rw [z0N hr] at z
      by_cases hj : r=j
      · subst hj; rw [z0y] at z; cases z
      · rw [z0N hj] at z; exact .inl ⟨r,z⟩
  · cases q
end
end L2
namespace L2
open PySem PySem.Spec PyProof.Rows
section
variable {X : Cx}
end
noncomputable def revS : D->Option (List D)
  | .lst ds=>some ds.reverse
  | _=>none
section
variable {X : Cx}
end
end L2
namespace L2
open PySem PySem.Spec PyProof.Rows
section
variable {X : Cx} {c e : Expr} {fc : DS->Option Bool} {fe : DE} {f g : DS->Option (Option D)} {st : Stmt} {sts : List Stmt} {p1 pos : Pos}
end
section
variable {X : Cx} {H0 : Hp} {B0 : Addr->Prop} {fr : Bool} {RX : XR} {pos : Pos}
end
end L2
namespace L2
open PySem PySem.Spec PyProof.Rows
noncomputable abbrev bmVE : List Value:=[.type "ValueError",.type "Exception",.type "BaseException",.type "object"]
theorem own_mk {K : PySem.W.Frag} {h : Heap} {mg : Str->Option Value} {x : Str} {C : Addr} {bl : List Value} {nid : String} (X : K.In h) (G : h.Ns mainGlobals mg) (ha : PySem.W.nsIn K mainGlobals x=some (some (.ref C))) (hq : PySem.W.excIn K C bl nid=true) : OwnCls x C bl nid mg h:=by
  refine ⟨PySem.W.mg_of X G ha,?_⟩
  unfold PySem.W.excIn at hq
  cases hk : K.lookup C with
  | none=>rw [hk] at hq; cases hq
  | some ob=>
    rw [hk] at hq
    have hat:=X _ _ hk
    split at hq
    case h_2=>cases hq
    case h_1 od cls sl z=>
      cases z
      split at hq
      case h_2=>cases hq
      case h_1 C1 tl b0 b1 b2 b3 n b5 em es=>
        simp only [Bool.and_eq_true,beq_iff_eq,Bool.not_eq_true'] at hq
        obtain ⟨⟨⟨⟨⟨z1,z2⟩,z3⟩,z4⟩,z5⟩,z6⟩:=hq
        cases cls with
        | mk nm bs mro ns qn hd sn sub ab col del=>
          cases sl with
          | mk l=>
            dsimp only at em es z3 z5 z6
            rw [em,es,z3,z1,z2] at hat
            exact ⟨tl,ns,nm,qn,bs,hd,sn,sub,ab,col,od,b0,b1,b2,b3,b5,_,hat,.of_isNs (PySem.W.isNs_of_in X z5),PySem.W.nsMap_none_of_in X z5 z6,PySem.W.tail_of_in X z4⟩
section
variable {X : Cx} {x : Str} {C : Addr} {np cpos pos : Pos} {e₀ : Expr} {H0 : Hp} {B0 : Addr->Prop} {fr : Bool} {RX : XR}
theorem z6U {c : Nat} {f : DE} (hc : X.calm=true) (hg : Gl X x) (O : OwnCls x C bmVE "ValueError.__new__" X.mg X.base) (hW : Want X C (RX c)) (h : PD X e₀ f)
    (he : starEach [e₀] X.env=[(false,eval e₀ X.env)]:=by rfl) (hd : (x == ("__debug__" : Str))=false:=by decide) : PS X (.Raise (some (.Call (.Name x np) [e₀] [] cpos)) none pos) (tS X.K H0 B0 fr RX (z4w c f)):=
  s_raise hc hg O PySem.F.excBase_ValueError (by decide) PySem.F.excBase_ValueError hW h he hd
end
end L2
namespace L2
open PySem PySem.Spec PyProof.Rows
noncomputable def valO : Option XO->Option D
  | some (.val d)=>some d
  | _=>none
noncomputable def z9C (m : List D->Option XO) (fl : List DE) : DE:=fun δ=>valO (z6b m fl δ)
section
variable {X : Cx} {k : Nat} {cl : Nat->Value} {x : Str} {p pos : Pos} {e : Expr} {es : List Expr}
theorem xw_no : XW X cl noX:=fun _ _ _ _ _ _ _ _ _ _ _ h=>h.elim
theorem y5p {m : List D->Option XO} {fl : List DE} (G : DefX X.prog X.w X.K X.mg X.base k x (spX X.K cl m)) (hr : Room k X.A) (hg : Gl X x) (ha : PAD X (e :: es) fl) (hdb : (x == ("__debug__" : Str))=false:=by decide)
    (he : starEach (e :: es) X.env=(false,eval e X.env) :: starEach es X.env:=by rfl) (hpl : (backTo pos (starEach es X.env)).any (·.1)=false:=by rfl) : PN X (.Call (.Name x p) (e :: es) [] pos) (z9C m fl):=
  (y2h (RX:=noX) G hr hg xw_no ha hdb he hpl).imp fun σ H Q z_=>by
    obtain ⟨δ,d,S,q,kk⟩:=z_
    unfold z9C at q
    cases e1 : z6b m fl δ with
    | none=>rw [e1] at q; cases q
    | some o=>
      rw [e1] at q
      cases o with
      | exc c=>cases q
      | val d'=>
        cases q
        exact ⟨δ,.val d,S,e1,kk⟩
end
end L2
namespace L2
open PySem PySem.Spec PyProof.Rows
section
variable {X : Cx} {pins : List (Addr × Obj)} {σ : St} {H : Hp} {s : Shared}
end
section
variable {X : Cx} {x n : Str} {C Ca : Addr} {np hpos : Pos} {b₀ : Stmt} {suite : List Stmt} {rest : List ExceptHandler} {t : TS} {i : Nat}
end
section
variable {K : PySem.W.Frag} {H0 H : Hp} {B0 : Addr->Prop} {σ : St} {δ : SS} {R : Nat->List Addr}
end
section
variable {X : Cx} {e : Expr} {f : DE} {y : Str} {p p2 pos : Pos} {L N : List Str}
end
section
variable {X : Cx} {H0 : Hp} {B0 : Addr->Prop} {fr : Bool} {RX : XR} {x n xn : Str} {C Ca : Addr} {np hpos : Pos} {b₀ : Stmt} {suite : List Stmt} {rest : List ExceptHandler} {g : SS->Option Out} {i : Nat}
end
end L2
namespace L2
open PySem PySem.Spec PyProof.Rows
theorem Trees.len {K : PySem.W.Frag} {H : Hp} : ∀ {ds : List D} {xs : List V} {A : List Addr},Trees K H ds xs A->ds.length=xs.length
  | [],_,_,h=>by unfold Trees at h; rw [h.1]; rfl
  | d :: ds,_,_,h=>by
    unfold Trees at h
    obtain ⟨x,r,C,C',rfl,_,h2,_⟩:=h
    simp [Trees.len h2]
section
variable {X : Cx} {e : Expr} {es : List Expr} {pos : Pos}
variable {H0 : Hp} {B0 : Addr->Prop} {RX : XR} {a b : Expr} {pos' : Pos}
noncomputable def z7U (δ : SS) (i : Nat) : Option D:=match δ[i]? with
  | some (some (.ow d))=>some d
  | some (some (.sh d))=>if d.imm=true then some d else none
  | _=>none
noncomputable def ret2 (i j : Nat) : SS->Option Out:=fun δ=>match z7U δ i,z7U δ j with
  | some d,some e=>some (.rt (.lst [d,e]))
  | _,_=>none
theorem z6E {K : PySem.W.Frag} {H : Hp} {σ : St} {δ : SS} {R : Nat->List Addr} {i : Nat} {d : D} (rs : RS K H0 B0 H σ δ R) (h : z7U δ i=some d) : ∃ v A,σ[i]? = some (some v)∧Tree K H d v A∧A.Nodup∧∀ a∈A,a∈R i:=by
  unfold z7U at h
  split at h
  · rename_i d' e
    cases h
    obtain ⟨v,e1,t,nd⟩:=rs.ow i _ e
    exact ⟨v,R i,e1,t,nd,fun a z=>z⟩
  · rename_i d' e
    split at h
    · rename_i hi
      cases h
      obtain ⟨v,e1,r⟩:=rs.sh i _ e
      exact ⟨v,[],e1,r.immTree _ hi,List.nodup_nil,(fun a z=>nomatch z)⟩
    · cases h
  · cases h
end
end L2
namespace L2
open PySem PySem.Spec PyProof.Rows
section
variable {X : Cx} {k : Nat} {x : Str} {p pos : Pos} {e : Expr} {es : List Expr}
end
end L2
namespace L2
open PySem PySem.Spec PyProof.Rows
noncomputable def repLs : D->D->Option (List D)
  | .lst ds,.int k=>if (0≤k∧k≤1000000)∧ds.length * k.toNat≤sizeLine then some (List.replicate k.toNat ds).flatten else none
  | _,_=>none
noncomputable def dRep (f g : DE) : DS->Option (List D):=fun δ=>(f δ).bind fun x=>(g δ).bind fun y=>repLs x y
theorem Reps.rep {K : PySem.W.Frag} {H : Hp} {B : Addr->Prop} {ds : List D} {xs : List V} (h : Reps K H B ds xs) : ∀ n : Nat,Reps K H B (List.replicate n ds).flatten (List.replicate n xs).flatten
  | 0=>(show Reps K H B [] [] by unfold Reps; rfl)
  | n + 1=>by
    rw [List.replicate_succ,List.replicate_succ,List.flatten_cons,List.flatten_cons]
    exact h.append (Reps.rep h n)
noncomputable def dIxX (F : DS->Option XO) (g : DE) : DS->Option XO:=fun δ=>match F δ with
  | some (.val d)=>(g δ).bind fun y=>(ixD d y).bind fun z=>if z.imm=true then some (.val z) else none
  | some (.exc c)=>some (.exc c)
  | none=>none
section
variable {X : Cx} {a b : Expr} {pos : Pos} {f g : DE} {RX : XR}
theorem y5N (ha : PD X a f) (hb : PD X b g) : PF X (.BinOp a .Mult b pos) (dRep f g):=(pe_op op_rep ha hb).imp fun σ H Q z_=>by
  obtain ⟨B,δ,ds,hB,S,q,k⟩:=z_
  unfold dRep at q
  cases e1 : f δ with
  | none=>rw [e1] at q; cases q
  | some x=>
  rw [e1,Option.bind_some] at q
  cases e2 : g δ with
  | none=>rw [e2] at q; cases q
  | some y=>
  rw [e2,Option.bind_some] at q
  unfold repLs at q
  split at q
  case h_2=>cases q
  case h_1 xs n=>
  split at q
  case isFalse=>cases q
  case isTrue hl=>
  cases q
  refine ⟨B,δ,_,hB,S,e1,fun v H1 s1 r1=>⟨B,δ,_,hB.mono s1,S.mono s1,e2,fun v2 H2 s2 r2=>?_⟩⟩
  unfold Rep at r2
  subst r2
  unfold Rep at r1
  obtain ⟨p1,vs,rfl,n1,h1,rs1⟩:=r1
  refine ⟨p1,n,vs,rfl,rfl,s2 _ _ h1,by omega,by omega,by rw [← rs1.length]; exact hl.2,fun p hp=>?_⟩
  exact k p _ _ ((s1.trans s2).trans (z0t hp)) ((s1.trans s2).free hp) z0m (((rs1.mono s2).rep _).mono (z0t hp))
end
end L2
namespace PySem
open Sem (wp)
theorem z8O : typeLookup (.type "dict") "__len__" = pure (some (.builtin "dict.__len__")):=by rw [typeLookup_type,builtinLookup_eq_fast]; kernel_rfl
section
variable {K : Type} [DecidableEq K] {prog : Program} {w : World} {knd : KeyKind prog w K} {A : Around} {E : Value->Shared->Prop} {s : Shared}
theorem z3S {d : Addr} {kvs : List (K × Value)} {ep : Nat} {Q : List Value->Shared->Prop} (hh : A.in1.handled=none) (hd : (d == sysModules)=false) (hm : s.heap.DictAt knd d kvs ep) (hn : kvs.length≤sizeLine)
    (hQ : ∀ s' acc,Moved [] (fun a b=>b=a) s s'->ItemsOf (fun i v=>∃ k x,kvs[i]? = some (k,x)∧knd.is k v=true) acc kvs.length->Q acc.toList s') : wpAny (model prog w) A (collect (.ref d)) Q E s:=by
  have hlt : (d : Nat) < s.heap.objs.size:=hm.lt_size
  have hSd : s.heap.objs.size≠d:=fun e=>Nat.lt_irrefl _ (e ▸ hlt)
  unfold collect
  refine wpAny_bind (wpAny_runValue (codeAny_builtin F.entry_proto_collect ?_))
  rw [Around.under_plainId F.plain_proto_collect _]
  show wpAny _ A.in1 (newList [] >>= fun l=>again (.builtin "list.__iadd__" ⟨[l,.ref d],[]⟩)) _ _ s
  refine wpAny_bind (wpAny_newObj_type ?_)
  refine wpAny_pure ⟨plainId_quiet F.plain_list_iadd _,codeAny_builtin F.entry_list_iadd ?_⟩
  rw [Around.under_plainId F.plain_list_iadd _]
  have hm1:=hm.push { cls:=.type "list",data:=.seq ([] : List Value).toArray }
  have hT1 : ({ s with heap:=s.heap.push { cls:=.type "list",data:=.seq ([] : List Value).toArray } } : Shared).TypeIs (.ref d) "dict" := hm1.dictOf.typeIs
  have h1 : Builtin.List.listSameRef (.ref s.heap.objs.size) (.ref d)=false:=by simp [Builtin.List.listSameRef,hSd]
  show wpAny _ A.in1 (Builtin.List.listExtendWith (.ref s.heap.objs.size) (.ref d) (.ref s.heap.objs.size)) _ _ _
  unfold Builtin.List.listExtendWith
  refine wpAny_bind (wpAny_typeOf hT1 ?_)
  rw [if_neg (by rw [h1]; decide)]
  refine wpAny_bind (wpAny_pyIter_dict hd hm1 ?_)
  refine wpAny_bind (wpAny_holding ?_)
  unfold Builtin.List.listLengthHint
  have hm2:=hm1.push { cls:=.type "dict_keyiterator",data:=.fields #[.ref d,.int 0 0,.int kvs.length 0,.int ep 0] }
  have hT2:=hm2.dictOf.typeIs (s:={ s with heap:=(s.heap.push { cls:=.type "list",data:=.seq ([] : List Value).toArray }).push { cls:=.type "dict_keyiterator",data:=.fields #[.ref d,.int 0 0,.int kvs.length 0,.int ep 0] } })
  refine wpAny_bind (wpAny_specialOf hT2 z8O ?_)
  (generalize hid : ("dict.__len__" : String)=id0; (fail_if_success (clear hid id0)); wp_delta; rw [show splitId id0=some ("dict", "__len__") from by subst hid; decide +kernel]; subst hid)
  refine wpAny_bind (wpAny_isInstance (b:=true) hT2 (by rw [isSubtype_type]; kernel_rfl) ?_)
  show wpAny _ A.in1 (typeOf (Value.ref d) >>= _) _ _ _
  refine wpAny_bind (wpAny_typeOf hT2 ?_)
  refine wpAny_pure ?_
  show wpAny _ A.in1 (rule "list.extend.makes-room" >>= fun _=>Builtin.List.listTouch (.ref s.heap.objs.size) >>= fun _=>
    again (.builtin "list.extend.loop" ⟨[.ref s.heap.objs.size,.ref (s.heap.push { cls:=.type "list",data:=.seq ([] : List Value).toArray }).objs.size,.ref s.heap.objs.size],[]⟩)) _ _ _
  refine wpAny_bind (wpAny_rule ?_)
  obtain ⟨hA,eA⟩ : ∃ h : Heap,h=s.heap.push { cls:=.type "list",data:=.seq ([] : List Value).toArray }:=⟨_,rfl⟩
  obtain ⟨hB,eB⟩ : ∃ h : Heap,h=hA.push { cls:=.type "dict_keyiterator",data:=.fields #[.ref d,.int 0 0,.int kvs.length 0,.int ep 0] }:=⟨_,rfl⟩
  have sA : hA.objs.size=s.heap.objs.size + 1:=by rw [eA]; simp [Heap.push]
  have hne : d≠hA.objs.size:=Nat.ne_of_lt (Nat.lt_of_lt_of_le hlt (by rw [sA]; exact Nat.le_succ _))
  have W:=(Walks.dictKeys (A:=A.in1) (prog:=prog) (w:=w) (knd:=knd) hh hA.objs.size d hne kvs ep).toS
  have hIt : hB.IsKeyIter hA.objs.size d 0 kvs.length ep:=⟨_,by rw [eB]; exact Heap.get?_push_size _ rfl,rfl,rfl⟩
  have hDt : hB.DictAt knd d kvs ep:=by rw [eB,eA]; exact hm2
  have hS₁ : hB.get? s.heap.objs.size=some { cls:=.type "list",data:=.seq ([] : List Value).toArray }:=by rw [eB,eA]; exact Heap.get?_push_of_some _ (Heap.get?_push_size _ rfl)
  have hSf : s.heap.objs.size ∉ [hA.objs.size,d]:=fun hm=>by
    rcases List.mem_cons.mp hm with z | z
    · omega
    · exact hSd (List.mem_singleton.mp z)
  rw [← eA,← eB]
  refine wpAny_bind ?_
  show wpAny _ A.in1 (updateSeq s.heap.objs.size (·.push .none) >>= fun _=>updateSeq s.heap.objs.size (·.pop)) _ _ _
  refine wpAny_bind (wpAny_updateSeq hS₁ rfl ?_)
  have hS₂:=Heap.get?_update_self (Obj.mapSeq (·.push Value.none)) hS₁ rfl
  refine wpAny_updateSeq hS₂ rfl ?_
  have hS₃:=Heap.get?_update_self (Obj.mapSeq (·.pop)) hS₂ rfl
  have oth : ∀ b o,b≠s.heap.objs.size->hB.get? b=some o->((hB.update s.heap.objs.size (Obj.mapSeq (·.push Value.none))).update s.heap.objs.size (Obj.mapSeq (·.pop))).get? b=some o:=
    fun b o hb e=>(Heap.get?_update_other _ _ (Ne.symm hb)).trans ((Heap.get?_update_other _ _ (Ne.symm hb)).trans e)
  refine wpAny_pure ⟨plainId_quiet F.plain_extend_loop _,codeAny_extend_loopS W hn _ hSf _ kvs.length 0 _ _ _ rfl (Nat.zero_le _)
    (W.frame 0 ({ s with heap:=hB } : Shared) _ s.toks ⟨hIt,hDt⟩ (Nat.le_refl _) fun b hb o e=>oth b o (fun h=>hSf (h ▸ hb)) e) hS₃ (ItemsOf.nil _) fun s' acc' c' hmv hS' hacc=>?_⟩
  show wpAny _ A (load s.heap.objs.size >>= _) _ _ s'
  refine wpAny_bind (wpAny_load hS' ?_)
  refine wpAny_pure (hQ s' acc' ⟨fun b o _ e=>?_,hmv.gens,hmv.drawn,hmv.os,hmv.toks⟩ hacc)
  have hb : (b : Nat) < s.heap.objs.size:=Heap.lt_size e
  refine hmv.heap b o (fun z=>?_) (oth b o (Nat.ne_of_lt hb) (by rw [eB,eA]; exact Heap.get?_push_of_some _ (Heap.get?_push_of_some _ e)))
  rcases List.mem_cons.mp z with z | z
  · exact Nat.ne_of_lt hb z
  · exact Nat.ne_of_lt (Nat.lt_of_lt_of_le hb (by rw [sA]; exact Nat.le_succ _)) (List.mem_singleton.mp z)
end
end PySem
namespace L2
open PySem PySem.Spec PyProof.Rows
theorem y1v : ∀ {vs : List Value} {ns : List Int},vs.length=ns.length->(∀ (j : Nat) (v : Value) (n : Int),vs[j]? = some v->ns[j]? = some n->∃ t : Tok,v=Value.int n t)->IntsAre vs ns
  | [],[],_,_=>.nil
  | [],_ :: _,h,_=>by cases h
  | _ :: _,[],h,_=>by cases h
  | v :: vs,n :: ns,h,hs=>by
    obtain ⟨t,rfl⟩:=hs 0 v n rfl rfl
    exact .cons n t (y1v (by simpa using h) fun j v n e1 e2=>hs (j + 1) v n (by simpa using e1) (by simpa using e2))
section
variable {prog : Program} {w : World} {A : Around} {E : Value->Shared->Prop} {s : Shared}
theorem z8M {d : Addr} {kvs : List (Key × Value)} {ep : Nat} {ns : List Int} {Q : Value->Shared->Prop} (hh : A.handled=none) (hd : (d == sysModules)=false) (hm : s.heap.DictAt (z0Y prog w) d kvs ep) (hk : kvs.map (·.1)=ns.map Sum.inl) (h64 : ns.length < 64)
    (h : ∀ (h1 h' : Heap) (tk : Nat) (out : List Value) (e : Nat) (ns' : List Int),(∀ b o',s.heap.get? b=some o'->h1.get? b=some o')->(∀ b o',h1.get? b=some o'->h'.get? b=some o')->h'.get? h1.objs.size=some { cls:=.type "list",data:=.seq out.toArray e }->IntsAre out ns'->ns'.Perm ns->ns'.Pairwise (· ≤ ·)->Q (.ref h1.objs.size) { s with heap:=h',toks:=tk }) :
    wpAny (model prog w) A (call (.builtin "sorted") [.ref d]) Q E s:=by
  have hl : kvs.length=ns.length:=by rw [← List.length_map (f:=(·.1)),hk,List.length_map]
  refine Calls.call_function_entry kind_sorted plain_sorted entry_sorted (args_sorted1 _) ?_
  unfold Builtin.«sorted»
  refine wpAny_bind (m:=checkCount "sorted" 1 1 _) (wpAny_pure ?_)
  refine wpAny_bind (z3S hh hd hm (by rw [sizeLine_eq]; omega) fun s1 acc mv hit=>?_)
  have hI : IntsAre acc.toList ns:=by
    refine y1v (by rw [Array.length_toList,hit.1,hl]) fun j v n e1 e2=>?_
    obtain ⟨k,x,e3,e4⟩:=hit.2 j v (by rw [← e1]; simp)
    have e5 : (kvs.map (·.1))[j]? = some k:=by rw [List.getElem?_map,e3]; rfl
    rw [hk,List.getElem?_map,e2] at e5
    cases e5
    rcases z0F (show z8D (Sum.inl n) v=true from e4) with ⟨i,t,z1,z2⟩ | ⟨y,t,z1,z2⟩
    · cases z1; exact ⟨t,z2⟩
    · cases z1
  have es:=Moved.eq_with mv
  refine wpAny_bind (wpAny_newList ?_)
  have hoL : (s1.heap.push (seqObj "list" acc.toList.toArray 0)).get? s1.heap.objs.size=some (seqObj "list" acc.toList.toArray 0):=Heap.get?_push_size _ rfl
  show wpAny _ _ _ _ _ { s1 with heap:=s1.heap.push (seqObj "list" acc.toList.toArray 0) }
  have h64' : acc.toList.length < 64:=by rw [Array.length_toList,hit.1,hl]; exact h64
  refine wpAny_bind (wpAny_holding (wpAny_call_entry slot_list_sort ⟨_,hoL,rfl⟩ entry_list_sort (list_sort_tree hoL hI h64' fun out ns' a1 a2 a3=>⟨_,rfl,?_⟩) (args_list_sort _)))
  obtain ⟨e,he⟩:=sortedHeap_at (out:=out) hoL
  have fin:=h s1.heap _ s1.toks out.toList e ns' (fun b o' hb=>mv.heap b o' (fun z=>nomatch z) hb) (fun b o' hb=>?_) (by simpa [seqObj] using he) a1 a2 a3
  · refine wpAny_pure ⟨_,rfl,?_⟩
    rw [es]
    exact fin
  · have hlt : b < s1.heap.objs.size:=Heap.lt_size hb
    rw [sortedHeap_old (Nat.ne_of_lt hlt) (by rw [size_push']; exact Nat.lt_succ_of_lt hlt)]
    exact Heap.get?_push_of_some _ hb
end
section
variable {X : Cx}
theorem z8h (hc : X.calm=true) : z4A X (.builtin "sorted") (fun xs H Q=>∃ (p : Addr) (kvs : List (Key × V)) (ns : List Int),xs=[.ref p]∧H p=some (.dK kvs)∧kvs.map (·.1)=ns.map Sum.inl∧ns.length < 64∧∀ l,H l=none->Q (.ref l) (upd H l (.lst ((z4I ns).map V.int)))):=by
  intro pins s σ H xs us Q I r h
  obtain ⟨p,kvs,ns,rfl,hq,hk,h64,q⟩:=h
  obtain ⟨u,rfl,rx⟩:=y0z r
  cases rx
  obtain ⟨_,hs,vs,rel,dd⟩:=dk_of I.hok hq
  obtain ⟨ep,da⟩:=dd.dictAt
  refine z8M (I.ok.hd hc) hs da (rel.keys.symm.trans hk) h64 fun h1 h' tk out e ns' k1 k2 ho hi hp hs'=>?_
  have es:=z3z hp hs'
  subst es
  have I1 : Inv X pins σ H { s with heap:=h1 }:=I.kept (t':=s.toks) k1
  refine ⟨.ref h1.objs.size,_,Inv.laid (s:={ s with heap:=h1 }) (t':=tk) I1 k2 (Nat.le_refl _) (show ObjOk X.prog X.w _ h' _ (.lst ((z4I ns).map V.int)) from ⟨?_,out,e,y4m hi,ho⟩),rfl,q _ (I1.hok.fresh (Nat.le_refl _))⟩
  rw [List.length_map,hp.length_eq,sizeLine_eq]
  omega
noncomputable def z3I : List Key->Option (List Int)
  | []=>some []
  | .inl n :: r=>(z3I r).map fun ns=>n :: ns
  | .inr _ :: _=>none
theorem z6e : ∀ {ks : List Key} {ns : List Int},z3I ks=some ns->ks=ns.map Sum.inl
  | [],_,h=>by cases h; rfl
  | .inl n :: r,_,h=>by
    unfold z3I at h
    cases e : z3I r with
    | none=>rw [e] at h; cases h
    | some ns=>
      rw [e] at h
      cases h
      rw [List.map_cons,← z6e e]
  | .inr _ :: _,_,h=>by cases h
noncomputable def z7s : List D->Option (List D)
  | [.dct ks _]=>(z3I ks).bind fun ns=>if ns.length < 64 then some ((z4I ns).map .int) else none
  | _=>none
theorem y5s {K : PySem.W.Frag} : OpL K (fun xs H Q=>∃ (p : Addr) (kvs : List (Key × V)) (ns : List Int),xs=[.ref p]∧H p=some (.dK kvs)∧kvs.map (·.1)=ns.map Sum.inl∧ns.length < 64∧∀ l,H l=none->Q (.ref l) (upd H l (.lst ((z4I ns).map V.int)))) z7s:=by
  intro H B ds es vs Q hB hr q k
  unfold z7s at q
  split at q
  · rename_i ks ds'
    cases e : z3I ks with
    | none=>rw [e] at q; cases q
    | some ns=>
      rw [e,Option.bind_some] at q
      split at q
      · rename_i h64
        cases q
        obtain ⟨v,rfl,r⟩:=z3O hr
        unfold Rep at r
        obtain ⟨a,kvs,rfl,_,h,hk,_⟩:=r
        exact ⟨a,kvs,ns,rfl,h,by rw [hk,z6e e],h64,fun l hl=>k l _ _ (z0t hl) hl z0m (z1K _)⟩
      · cases q
  · cases q
variable {e : Expr} {f : DE} {p pos : Pos}
theorem y0f (hc : X.calm=true) (hg : Gl X "sorted") (hm : X.mg "sorted" = none) (h : PD X e f) (he : starEach [e] X.env=[(false,eval e X.env)]:=by rfl) : PF X (.Call (.Name "sorted" p) [e] [] pos) (z1Z z7s [f]):=
  (z4G (z8h hc) hg hm boot_sorted (z0a h z0c he) (by decide) (by decide) he rfl).imp (callL y5s)
end
end L2
namespace L2
open PySem PySem.Spec PyProof.Rows
noncomputable def mkD1 : D->D->Option D
  | .int a,.int b=>some (.dct [.inl a] [.int b])
  | _,_=>none
noncomputable def y1d (fk fv : DE) : DE:=d2 mkD1 fk fv
section
variable {X : Cx} {ke ve : Expr} {pos : Pos} {f g : DE}
theorem y4E (hk : PD X ke f) (hv : PD X ve g) : PN X (.Dict [some ke] [ve] pos) (y1d f g):=(pe_disp (y5m hk hv pps_nil) rfl rfl (by simp) (by simp)).imp fun σ H Q z_=>by
  obtain ⟨δ,d,S,q,kk⟩:=z_
  obtain ⟨dx,dy,e1,e2,e3⟩:=z8p q
  unfold mkD1 at e3
  split at e3
  · rename_i a b
    cases e3
    intro p hp
    have s0 : Same H (upd H p (.dK [])):=z0t hp
    refine ⟨noB,δ,_,.no,S.mono s0,e1,fun v H2 s2 r2=>⟨noB,δ,_,.no,(S.mono s0).mono s2,e2,fun u H3 s3 r3=>?_⟩⟩
    unfold Rep at r2 r3
    subst r2 r3
    have hp3 : H3 p=some (.dK []):=s3 _ _ (s2 _ _ z0m)
    refine ⟨hp3,[(.inl a,.int b)],rfl,by simp,?_⟩
    refine kk (.ref p) _ [p] (fun c o ec=>?_) ?_ (List.nodup_cons.mpr ⟨fun z=>(nomatch z),List.nodup_nil⟩) fun c hc=>?_
    · have hcp : c≠p:=fun z=>by rw [z,hp] at ec; cases ec
      rw [z0q hcp]
      exact s3 _ _ (s2 _ _ (s0 _ _ ec))
    · unfold Tree
      refine ⟨p,[(.inl a,.int b)],[],rfl,z0m,rfl,?_,rfl⟩
      unfold Trees
      exact ⟨.int b,[],[],[],rfl,⟨rfl,rfl⟩,⟨rfl,rfl⟩,rfl⟩
    · rw [List.mem_singleton.mp hc]; exact hp
  · cases e3
end
theorem y1f {lo hi : Int} : Builtin.Range.rangeSize lo hi (-1)=(((lo - hi).toNat : Nat) : Int):=by
  unfold Builtin.Range.rangeSize
  rw [if_neg (by decide)]
  by_cases h : hi < lo
  · rw [if_pos h]
    have : (lo - hi - 1) / 1=lo - hi - 1:=Int.ediv_one _
    simp only [Int.neg_neg]
    omega
  · rw [if_neg h]
    omega
theorem y2j {a b : Int} (ha : -(2 ^ 61)≤a) (ha' : a < 2 ^ 61) (hb : -(2 ^ 61)≤b) (hb' : b < 2 ^ 61) : Builtin.Range.small a b (-1)=true:=by
  unfold Builtin.Range.small
  rw [y1f]
  simp only [Builtin.Range.rangeFitsLong,Bool.and_eq_true,Bool.or_eq_true,decide_eq_true_eq,beq_iff_eq]
  rw [if_neg (by decide),Bool.and_eq_true,decide_eq_true_eq,decide_eq_true_eq]
  omega
section
variable {X : Cx} {tg : Expr}
theorem y2I {pins : List (Addr × Obj)} {σ : St} {H : Hp} {s : Shared} {R : It->Hp->Prop} {E : Value->Shared->Prop} {lo hi : Int} {t u v : Tok} {tk : Nat} (I : Inv X pins σ H s) (h1 : -(2 ^ 61)≤lo) (h2 : lo < 2 ^ 61) (h3 : -(2 ^ 61)≤hi) (h4 : hi < 2 ^ 61)
    (q : R (Itr3 lo (-1) (lo - hi).toNat) H) : wpAny (model X.prog X.w) X.A (pyIter (.ref s.heap.objs.size)) (PIE X pins σ tg R) E { s with heap:=s.heap.push { cls:=.type "range",data:=.fields #[.int lo t,.int hi u,.int (-1) v] },toks:=tk }:=by
  refine wpAny_pyIter_range (IsRange.new ..) (y2j h1 h2 h3 h4) ?_
  have I1 : Inv X pins σ H { s with heap:=s.heap.push { cls:=.type "range",data:=.fields #[.int lo t,.int hi u,.int (-1) v] },toks:=tk }:=I.kept fun b o e=>Heap.get?_push_of_some _ e
  refine ⟨(s.heap.push { cls:=.type "range",data:=.fields #[.int lo t,.int hi u,.int (-1) v] }).objs.size,[(s.heap.push { cls:=.type "range",data:=.fields #[.int lo t,.int hi u,.int (-1) v] }).objs.size],_,_,H,rfl,
    I1.kept (t':=tk) fun b o e=>Heap.get?_push_of_some _ e,z8E _ lo (-1) (lo - hi).toNat,?_,fun b hb=>?_,q⟩
  · have e1 : lo + ((0 : Nat) : Int) * (-1)=lo:=by simp
    have e2 : (((lo - hi).toNat : Nat) : Int) - ((0 : Nat) : Int)=Builtin.Range.rangeSize lo hi (-1):=by rw [y1f]; simp
    show IsRangeIter _ _ (lo + ((0 : Nat) : Int) * (-1)) ((((lo - hi).toNat : Nat) : Int) - ((0 : Nat) : Int)) (-1)
    rw [e1,e2]
    exact Heap.get?_push_size _ rfl
  · have e : b=(s.heap.push { cls:=.type "range",data:=.fields #[.int lo t,.int hi u,.int (-1) v] }).objs.size:=by simpa using hb
    subst e
    exact I1.fpOk (Nat.le_refl _) (I1.hok.fresh (Nat.le_refl _))
noncomputable def iRngN (ta : TA) : TI:=fun σ H R=>ta σ H fun vs H1=>∃ i j : Int,vs=[.int i,.int j,.int (-1)]∧(-(2 ^ 61)≤i∧i < 2 ^ 61∧-(2 ^ 61)≤j∧j < 2 ^ 61)∧R (Itr3 i (-1) (i - j).toNat) H1
theorem y2p {a b c : Expr} {ta : TA} {p pos : Pos} (hg : Gl X "range") (hm : X.mg "range" = none) (ha : PA X [a,b,c] ta) (hs : starEach [a,b,c] X.env=(false,eval a X.env) :: starEach [b,c] X.env:=by rfl) (hpl : (backTo pos (starEach [b,c] X.env)).any (·.1)=false:=by rfl) :
    PI X tg (.Call (.Name "range" p) [a,b,c] [] pos) (iRngN ta):=by
  intro pins s σ H R I h
  refine Call_ (z3P I hg hm boot_range (PyProof.Rows.callWith_type1 (thn (ha pos pins s σ H _ I h) fun us s1 ⟨vs,H1,I1,r1,q1⟩=>?_) hs hpl))
  obtain ⟨i,j,e,hb,q⟩:=q1
  subst e
  obtain ⟨u,v,w,rfl,⟨t1,rfl⟩,⟨t2,rfl⟩,⟨t3,rfl⟩⟩:=r1.three
  exact call_range_3 (by omega) (y2I I1 hb.1 hb.2.1 hb.2.2.1 hb.2.2.2 q) (.inl (PyProof.noPylong_small (by omega)))
noncomputable def rngN : Option D->Option D->Option D->Option (List D)
  | some (.int i),some (.int j),some (.int c)=>if c = -1∧-(2 ^ 61)≤i∧i < 2 ^ 61∧-(2 ^ 61)≤j∧j < 2 ^ 61 then some (y2J i (-1) (i - j).toNat) else none
  | _,_,_=>none
noncomputable def y4b (f g h : DE) : DS->Option (List D):=fun δ=>rngN (f δ) (g δ) (h δ)
theorem pi_rngN {a b c : Expr} {f g h : DE} {p pos : Pos} (hg : Gl X "range") (hm : X.mg "range" = none) (ha : PD X a f) (hb : PD X b g) (hc : PD X c h) (hs : starEach [a,b,c] X.env=(false,eval a X.env) :: starEach [b,c] X.env:=by rfl) (hs2 : starEach [b,c] X.env=(false,eval b X.env) :: starEach [c] X.env:=by rfl) (hs3 : starEach [c] X.env=[(false,eval c X.env)]:=by rfl) (hpl : (backTo pos (starEach [b,c] X.env)).any (·.1)=false:=by rfl) :
    PID X tg (.Call (.Name "range" p) [a,b,c] [] pos) (y4b f g h):=
  (y2p hg hm (z0a ha (z0a hb (z0a hc z0c hs3) hs2) hs) hs hpl).imp fun σ H R z_=>by
    obtain ⟨B,δ,ds,hB,S,q,k⟩:=z_
    unfold y4b rngN at q
    split at q
    · rename_i i j c e1 e2 e3
      split at q
      · rename_i hj
        obtain ⟨rfl,hj⟩:=hj
        cases q
        have ea : z0u [f,g,h] δ=some [.int i,.int j,.int (-1)]:=by unfold z0u z0u z0u; rw [e1,e2,e3]; rfl
        refine ⟨B,δ,[.int i,.int j,.int (-1)],hB,S,ea,fun vs H1 s1 r1=>?_⟩
        unfold Reps at r1
        obtain ⟨x,r,rfl,rx,rr⟩:=r1
        unfold Reps at rr
        obtain ⟨y,r',rfl,ry,rr⟩:=rr
        unfold Reps at rr
        obtain ⟨z,r'',rfl,rz,rr⟩:=rr
        unfold Reps at rr
        subst rr
        exact ⟨i,j,by rw [show x=V.int i from rx,show y=V.int j from ry,show z=V.int (-1) from rz],hj,k _ H1 s1 fun C _=>y5t⟩
      · cases q
    · cases q
end
theorem Trees.at {K : PySem.W.Frag} {H : Hp} : ∀ {ds : List D} {xs : List V} {A : List Addr} {k : Nat} {d : D},Trees K H ds xs A->A.Nodup->ds[k]? = some d->∃ v C,xs[k]? = some v∧Tree K H d v C∧C.Nodup∧∀ a∈C,a∈A
  | [],_,_,_,_,_,_,e=>by cases e
  | d :: ds,xs,A,k,d',h,nd,e=>by
    unfold Trees at h
    obtain ⟨x,r,C,C',rfl,h1,h2,rfl⟩:=h
    have n2:=List.nodup_append.mp nd
    cases k with
    | zero=>cases e; exact ⟨x,C,rfl,h1,n2.1,fun a ha=>List.mem_append.mpr (.inl ha)⟩
    | succ k=>
      obtain ⟨v,D',e1,t1,nd1,sb⟩:=Trees.at (k:=k) h2 n2.2.1 (by simpa using e)
      exact ⟨v,D',by simpa using e1,t1,nd1,fun a ha=>List.mem_append.mpr (.inr (sb a ha))⟩
noncomputable def ixL : D->D->Option D
  | .lst ds,.int i=>atI ds i
  | _,_=>none
section
variable {X : Cx} {a b : Expr} {pos : Pos} {f g : DE}
theorem pn_ixN (ha : PN X a f) (hb : PD X b g) (hs : z6Z b:=by intro _ _; rfl) : PN X (.Subscript a b pos) (d2 ixL f g):=(pe_ix y5X ha hb hs).imp fun σ H Q z_=>by
  obtain ⟨δ,d,S,q,k⟩:=z_
  obtain ⟨dx,dy,e1,e2,e3⟩:=z8p q
  unfold ixL at e3
  split at e3
  · rename_i ds i
    refine ⟨δ,_,S,e1,fun v H1 A s1 t1 nd1 f1=>⟨noB,δ,_,.no,S.mono s1,e2,fun u H2 s2 r2=>?_⟩⟩
    unfold Rep at r2
    subst r2
    have t2:=t1.mono s2
    unfold Tree at t2
    obtain ⟨p,xs,C,rfl,hp,ts,rfl⟩:=t2
    have hl:=ts.len
    unfold atI at e3
    cases e4 : ixN ds.length i with
    | none=>rw [e4] at e3; cases e3
    | some j=>
      rw [e4] at e3
      obtain ⟨v',C',e5,t5,nd5,sb⟩:=ts.at (List.nodup_cons.mp nd1).2 (show ds[j]? = some d from e3)
      have e6 : atI xs i=some v':=by
        unfold atI
        rw [← hl,e4]
        exact e5
      exact .inl ⟨p,xs,i,v',rfl,rfl,SqL.of hp,e6,k v' H2 C' (s1.trans s2) t5 nd5 fun a ha=>f1 a (List.mem_cons_of_mem _ (sb a ha))⟩
  · cases e3
end
end L2
namespace L2
open PySem PySem.Spec PyProof.Rows
noncomputable def twoD : D->Option (D × D)
  | .tup [a,b]=>some (a,b)
  | _=>none
theorem y1U {d : D} {z : D × D} (h : twoD d=some z) : d = .tup [z.1,z.2]:=by
  unfold twoD at h
  split at h
  · cases h; rfl
  · cases h
noncomputable def z4h (i j : Nat) (b : SS->Option Out) : List D->SS->Option Out
  | [],δ=>some (.nx δ)
  | d :: r,δ=>(twoD d).bind fun z=>(b ((δ.set i (some (.sh z.1))).set j (some (.sh z.2)))).bind fun o=>match o with
    | .nx δ'=>z4h i j b r δ'
    | .ct δ'=>z4h i j b r δ'
    | .bk δ'=>some (.nx δ')
    | .rt d=>some (.rt d)
    | .ex c δ'=>some (.ex c δ')
noncomputable def y4A (i j : Nat) (f : DS->Option (List D)) (g : SS->Option Out) : SS->Option Out:=fun δ=>(f (shV δ)).bind fun ds=>z4h i j g ds δ
section
variable {X : Cx} {H0 : Hp} {B0 : Addr->Prop} {fr : Bool} {RX : XR} {pos : Pos}
noncomputable def gPair (K : PySem.W.Frag) (i j : Nat) : TG:=gTup K 2 (y1Y (z2b i) (y1Y (z2b j) gNil))
theorem s_for2 {i j : Nat} {tg : Expr} {iter : Expr} {body : List Stmt} {f : DS->Option (List D)} {g : SS->Option Out} (hp : PassesOwn (model X.prog X.w) X.A X.env X.xe) (hc : X.calm=true) (hi : PID X tg iter f) (hg : PG X tg (gPair X.K i j)) (hb : PSs X body (tS X.K H0 B0 fr RX g))
    (hs : ∀ x,foldedSetIterable iter X.env x=pure x:=by intro _; rfl) : PS X (.For tg iter body [] pos) (tS X.K H0 B0 fr RX (y4A i j f g)):=PS.imp (y1u hp hc hi hg hb hs) fun D σ H z_=>by
  obtain ⟨δ,R,o,rs,q,k⟩:=z_
  unfold y4A at q
  cases e : f (shV δ) with
  | none=>rw [e] at q; cases q
  | some ds=>
  rw [e] at q
  have q : z4h i j g ds δ=some o:=q
  refine ⟨_,shV δ,ds,rs.inAll,rs.shr,e,fun J H1 s1 itw=>?_⟩
  have rs1:=rs.mono s1
  have it:=itw (fun a=>H1 a=none) fun a z=>z
  refine ⟨fun n m σ' H'=>m=ds.length - n∧n≤ds.length∧∃ δ' R',RS X.K H0 B0 H' σ' δ' R'∧Stp R H1 R' H'∧z4h i j g (ds.drop n) δ'=some o,⟨ds.length,by simp,Nat.zero_le _,δ,R,rs1,.refl R H1,q⟩,?_⟩
  rintro n m σ' H' ⟨rfl,hn,δ',R',rs',s',q'⟩
  have kp : Keep X.K (fun a=>(B0 a∨∃ r,a∈R r)∨H1 a=none) H1 H':=s'.keepB (fun r a z=>.inl (.inr ⟨r,z⟩)) rs1.held
  by_cases hlt : n < ds.length
  · have hx : ds.drop n=ds[n] :: ds.drop (n + 1):=List.drop_eq_getElem_cons hlt
    rw [hx] at q'
    unfold z4h at q'
    cases et : twoD ds[n] with
    | none=>rw [et] at q'; cases q'
    | some z=>
    rw [et,Option.bind_some] at q'
    cases eb : g ((δ'.set i (some (.sh z.1))).set j (some (.sh z.2))) with
    | none=>rw [eb] at q'; cases q'
    | some ob=>
      rw [eb] at q'
      refine .inr ⟨it.go n H' kp hlt,fun σ2 H2=>n + 1≤ds.length∧∃ δ2 R2,RS X.K H0 B0 H2 σ2 δ2 R2∧Stp R H1 R2 H2∧z4h i j g (ds.drop (n + 1)) δ2=some o,fun σ2 H2 z=>⟨ds.length - (n + 1),by omega,rfl,z⟩,fun xv H2 hy=>?_⟩
      obtain ⟨s2,d,hd,rd⟩:=it.yld n H' xv H2 kp hy
      have hdi : d=ds[n]:=by
        have:=hd hlt
        rw [List.getElem?_eq_getElem hlt] at this
        exact (Option.some.inj this).symm
      subst hdi
      have rd' : Rep X.K H2 (fun a=>B0 a∨∃ r,a∈R' r) ds[n] xv:=rd.anti fun a z=>by
        rcases z with z | ⟨r,z⟩
        · exact .inl (.inl z)
        · rcases s'.from' r a z with z | z
          · exact .inl (.inr z)
          · exact .inr z
      rw [y1U et] at rd'
      unfold Rep at rd'
      obtain ⟨p,vs,rfl,hsq,rvs⟩:=rd'
      unfold Reps at rvs
      obtain ⟨va,r1,rfl,ra,rvs⟩:=rvs
      unfold Reps at rvs
      obtain ⟨vb,r2,rfl,rb,rvs⟩:=rvs
      unfold Reps at rvs
      subst rvs
      refine ⟨p,[va,vb],rfl,hsq,rfl,va,[vb],rfl,vb,[],rfl,rfl,?_⟩
      have rs2:=((rs'.mono s2).setSh (i:=i) ra).setSh (i:=j) rb
      have st2 : Stp R H1 R' H2:=s'.trans (.same s2)
      refine ⟨_,R',ob,rs2,eb,?_⟩
      cases ob with
      | nx δ2=>
        have q2 : z4h i j g (ds.drop (n + 1)) δ2=some o:=q'
        exact fun σ3 H3 R3 rs3 s3=>⟨hlt,δ2,R3,rs3,st2.trans s3,q2⟩
      | ct δ2=>
        have q2 : z4h i j g (ds.drop (n + 1)) δ2=some o:=q'
        exact fun σ3 H3 R3 rs3 s3=>⟨hlt,δ2,R3,rs3,st2.trans s3,q2⟩
      | bk δ2=>
        cases q'
        exact fun σ3 H3 R3 rs3 s3=>k σ3 H3 R3 rs3 ((Stp.same s1).trans (st2.trans s3))
      | rt d=>
        cases q'
        exact k.back ((Stp.same s1).trans st2)
      | ex c δ2=>
        cases q'
        exact k.back ((Stp.same s1).trans st2)
  · have en : n=ds.length:=by omega
    subst en
    rw [List.drop_length] at q'
    cases q'
    exact .inl ⟨it.stop _ H' kp (Nat.le_refl _),k σ' H' R' rs' ((Stp.same s1).trans s')⟩
theorem pg_pair {i j : Nat} {x y : Str} {px py tp : Pos} {x1} (hc : X.calm=true) (h1 : PG X (.Name x px) (z2b i)) (h2 : PG X (.Name y py) (z2b j))
    (hs : (assignEach [.Name x px,.Name y py] X.env).map (·.2)=assign (.Name x px) X.env :: (assignEach [.Name y py] X.env).map (·.2):=by rfl) (hs2 : (assignEach [.Name y py] X.env).map (·.2)=assign (.Name y py) X.env :: (assignEach [] X.env).map (·.2):=by rfl)
    (hn : (assignEach [.Name x px,.Name y py] X.env).length=2:=by rfl) (hst : (assignEach [.Name x px,.Name y py] X.env).findIdx? (·.1)=none:=by rfl) : PG X (.Tuple [.Name x px,.Name y py] x1 tp) (gPair X.K i j):=
  y5B hc (z4K h1 (z4K h2 y2S hs2) hs) hn hst
end
end L2
namespace L2
open PySem PySem.Spec PyProof.Rows
section
variable {X : Cx}
variable {e : Expr} {f : DE} {p pos : Pos}
end
end L2
namespace L2
open PySem PySem.Spec PyProof.Rows
section
variable {X : Cx} {e lo st : Expr} {te : TE} {tl tk : TO} {pos p2 : Pos}
variable {f g h : DE}
end
end L2
namespace L2
open PySem PySem.Spec PyProof.Rows
noncomputable def bigL : Nat:=2 ^ 250
noncomputable def CMulB (i j : Int) : Prop:=i.natAbs < bigL∧j.natAbs < bigL
noncomputable instance {i j : Int} : Decidable (CMulB i j):=by unfold CMulB; infer_instance
section
variable {X : Cx} {a b : Expr} {pos : Pos} {f g : DE}
end
end L2
namespace L2
open PySem PySem.Spec PyProof.Rows
section
variable {X : Cx} {tg iter a b : Expr} {p pos pos' : Pos}
structure ItF (J : It) (lo : Int) (n : Nat) : Prop where
  go : ∀ i H',i < n->J.go i H'
  stop : ∀ i H',n≤i->J.stop i H'
  yld : ∀ i H' x H2,J.yld i H' x H2->Same H' H2∧x = .int (lo + (i : Int))
theorem itf_rng {lo : Int} {n : Nat} : ItF (Itr lo n) lo n:=⟨fun i H' hi=>hi,fun i H' hi=>hi,fun i H' x H2 y=>by
  obtain ⟨e,y⟩:=y
  subst e y
  exact ⟨.refl _,rfl⟩⟩
noncomputable def tIF (K : PySem.W.Frag) (f : DS->Option (Int × Nat)) : TI:=fun σ H R=>∃ B δ z,InB B H∧RepS K H B σ δ∧f δ=some z∧∀ J H',Same H H'->ItF J z.1 z.2->R J H'
noncomputable abbrev PIF (X : Cx) (tg iter : Expr) (f : DS->Option (Int × Nat)) : Prop:=PI X tg iter (tIF X.K f)
noncomputable def dIv1 (f : DE) : DS->Option (Int × Nat):=fun δ=>match f δ with
  | some (.int j)=>if -(2 ^ 62)≤j∧j < 2 ^ 62 then some (0,j.toNat) else none
  | _=>none
theorem z9W {f : DE} (hg : Gl X "range") (hm : X.mg "range" = none) (ha : PD X a f) (hs : starEach [a] X.env=[(false,eval a X.env)]:=by rfl) : PIF X tg (.Call (.Name "range" p) [a] [] pos) (dIv1 f):=
  (z7M hg hm (z0a ha z0c hs) hs).imp fun σ H R z_=>by
    obtain ⟨B,δ,ds,hB,S,q,k⟩:=z_
    unfold dIv1 at q
    split at q
    · rename_i j e
      split at q
      · rename_i hj
        cases q
        have ea : z0u [f] δ=some [.int j]:=by unfold z0u; rw [e]; rfl
        refine ⟨B,δ,[.int j],hB,S,ea,fun vs H1 s1 r1=>?_⟩
        unfold Reps at r1
        obtain ⟨x,r,rfl,rx,rr⟩:=r1
        unfold Reps at rr
        subst rr
        exact ⟨j,by rw [show x=V.int j from rx],hj.1,hj.2,k _ H1 s1 itf_rng⟩
      · cases q
    · cases q
noncomputable def forI (i : Nat) (f : DS->Option (Int × Nat)) (b : SS->Option Out) : SS->Option Out:=fun δ=>(f (z0v δ)).bind fun z=>z4y i b (z4x z.1 z.2) δ
variable {H0 : Hp} {B0 : Addr->Prop} {fr : Bool} {RX : XR}
theorem y6c {i : Nat} {x : Str} {px : Pos} {body : List Stmt} {f : DS->Option (Int × Nat)} {g : SS->Option Out} (hp : PassesOwn (model X.prog X.w) X.A X.env X.xe) (hc : X.calm=true) (hi : PIF X (.Name x px) iter f) (hg : PG X (.Name x px) (z2b i)) (hb : PSs X body (tS X.K H0 B0 fr RX g))
    (hs : ∀ x,foldedSetIterable iter X.env x=pure x:=by intro _; rfl) : PS X (.For (.Name x px) iter body [] pos) (tS X.K H0 B0 fr RX (forI i f g)):=PS.imp (y1u hp hc hi hg hb hs) fun D σ H z_=>by
  obtain ⟨δ,R,o,rs,q,k⟩:=z_
  unfold forI at q
  cases e : f (z0v δ) with
  | none=>rw [e] at q; cases q
  | some z=>
  rw [e] at q
  obtain ⟨ds,hds⟩ : ∃ ds,ds=z4x z.1 z.2:=⟨_,rfl⟩
  have hlen : ds.length=z.2:=by rw [hds,z2A]
  have q : z4y i g ds δ=some o:=by rw [hds]; exact q
  refine ⟨noB,z0v δ,z,.no,rs.all,e,fun J H1 s1 it=>?_⟩
  have rs1:=rs.mono s1
  refine ⟨fun n m σ' H'=>m=ds.length - n∧n≤ds.length∧∃ δ' R',RS X.K H0 B0 H' σ' δ' R'∧Stp R H1 R' H'∧z4y i g (ds.drop n) δ'=some o,⟨ds.length,by simp,Nat.zero_le _,δ,R,rs1,.refl R H1,q⟩,?_⟩
  rintro n m σ' H' ⟨rfl,hn,δ',R',rs',s',q'⟩
  by_cases hlt : n < ds.length
  · have hx : ds.drop n=ds[n] :: ds.drop (n + 1):=List.drop_eq_getElem_cons hlt
    rw [hx] at q'
    unfold z4y at q'
    cases eb : g (δ'.set i (some (.sh ds[n]))) with
    | none=>rw [eb] at q'; cases q'
    | some ob=>
      rw [eb] at q'
      refine .inr ⟨it.go n H' (by omega),fun σ2 H2=>n + 1≤ds.length∧∃ δ2 R2,RS X.K H0 B0 H2 σ2 δ2 R2∧Stp R H1 R2 H2∧z4y i g (ds.drop (n + 1)) δ2=some o,fun σ2 H2 z=>⟨ds.length - (n + 1),by omega,rfl,z⟩,fun xv H2 hy=>?_⟩
      obtain ⟨s2,hd⟩:=it.yld n H' xv H2 hy
      have hdi : ds[n] = .int (z.1 + (n : Int)):=by
        have h1 : ds[n]? = some (.int (z.1 + (n : Int))):=by rw [hds]; exact z9Y (by omega)
        rw [List.getElem?_eq_getElem hlt] at h1
        exact Option.some.inj h1
      have rd' : Rep X.K H2 (fun a=>B0 a∨∃ r,a∈R' r) ds[n] xv:=by
        rw [hdi]
        exact hd
      have rs2:=(rs'.mono s2).setSh (i:=i) rd'
      have st2 : Stp R H1 R' H2:=s'.trans (.same s2)
      refine ⟨_,R',ob,rs2,eb,?_⟩
      cases ob with
      | nx δ2=>
        have q2 : z4y i g (ds.drop (n + 1)) δ2=some o:=q'
        exact fun σ3 H3 R3 rs3 s3=>⟨hlt,δ2,R3,rs3,st2.trans s3,q2⟩
      | ct δ2=>
        have q2 : z4y i g (ds.drop (n + 1)) δ2=some o:=q'
        exact fun σ3 H3 R3 rs3 s3=>⟨hlt,δ2,R3,rs3,st2.trans s3,q2⟩
      | bk δ2=>
        cases q'
        exact fun σ3 H3 R3 rs3 s3=>k σ3 H3 R3 rs3 ((Stp.same s1).trans (st2.trans s3))
      | rt d=>
        cases q'
        exact k.back ((Stp.same s1).trans st2)
      | ex c δ2=>
        cases q'
        exact k.back ((Stp.same s1).trans st2)
  · have en : n=ds.length:=by omega
    subst en
    rw [List.drop_length] at q'
    cases q'
    exact .inl ⟨it.stop _ H' (by omega),k σ' H' R' rs' ((Stp.same s1).trans s')⟩
noncomputable def ret3 (i j l : Nat) : SS->Option Out:=fun δ=>match z7U δ i,z7U δ j,z7U δ l with
  | some d,some e,some f=>some (.rt (.lst [d,e,f]))
  | _,_,_=>none
variable {c : Expr}
theorem s_ret3 {i j l : Nat} (hij : i≠j) (hil : i≠l) (hjl : j≠l) (ha : PE X a (z7K i)) (hb : PE X b (z7K j)) (hc : PE X c (z7K l)) (hs : starEach [a,b,c] X.env=(false,eval a X.env) :: starEach [b,c] X.env:=by rfl) (hs2 : starEach [b,c] X.env=(false,eval b X.env) :: starEach [c] X.env:=by rfl) (hs3 : starEach [c] X.env=(false,eval c X.env) :: starEach [] X.env:=by rfl) :
    PS X (.Return (some (.List [a,b,c] pos')) pos) (tS X.K H0 B0 true RX (ret3 i j l)):=PS.imp (y0d (y5V (z2a ha (z2a hb (z2a hc pa_nil hs3) hs2) hs))) fun D σ H z_=>by
  obtain ⟨δ,R,o,rs,q,k⟩:=z_
  unfold ret3 at q
  split at q
  · rename_i d e f h1 h2 h3
    cases q
    obtain ⟨v,A,e1,t1,n1,m1⟩:=z6E rs h1
    obtain ⟨w,C,e2,t2,n2,m2⟩:=z6E rs h2
    obtain ⟨u,G,e3,t3,n3,m3⟩:=z6E rs h3
    refine ⟨v,e1,w,e2,u,e3,by show 3≤sizeLine; rw [sizeLine_eq]; omega,fun p hp=>?_⟩
    have sp:=z0t (o:=.lst [v,w,u]) hp
    have hold : ∀ x,x∈A ++ (C ++ G)->H x≠none:=fun x hx z=>by
      rcases List.mem_append.mp hx with y | y
      · obtain ⟨o,q,_⟩:=t1.held _ x y
        rw [z] at q; cases q
      rcases List.mem_append.mp y with y | y
      · obtain ⟨o,q,_⟩:=t2.held _ x y
        rw [z] at q; cases q
      · obtain ⟨o,q,_⟩:=t3.held _ x y
        rw [z] at q; cases q
    have nd : (A ++ (C ++ G)).Nodup:=by
      refine List.nodup_append.mpr ⟨n1,List.nodup_append.mpr ⟨n2,n3,fun x hx y hy z=>?_⟩,fun x hx y hy z=>?_⟩
      · subst z
        exact hjl (rs.disj j l x (m2 x hx) (m3 x hy))
      · subst z
        rcases List.mem_append.mp hy with y | y
        · exact hij (rs.disj i j x (m1 x hx) (m2 x y))
        · exact hil (rs.disj i l x (m1 x hx) (m3 x y))
    refine k (.ref p) _ ⟨rs.keep.trans sp,fun _=>⟨p :: (A ++ (C ++ G)),?_,List.nodup_cons.mpr ⟨fun z=>hold p z hp,nd⟩,fun x hx=>?_⟩,fun z=>by cases z⟩ fun x z=>sp.free z
    · unfold Tree
      refine ⟨p,[v,w,u],A ++ (C ++ G),rfl,z0m,?_,rfl⟩
      unfold Trees
      refine ⟨v,[w,u],A,C ++ G,rfl,t1.mono sp,?_,rfl⟩
      unfold Trees
      refine ⟨w,[u],C,G,rfl,t2.mono sp,?_,rfl⟩
      unfold Trees
      exact ⟨u,[],G,[],rfl,t3.mono sp,⟨rfl,rfl⟩,by simp⟩
    · rcases List.mem_cons.mp hx with z | z
      · rw [z]; exact rs.keep.free hp
      · rcases List.mem_append.mp z with z | z
        · exact rs.new i x (m1 x z)
        rcases List.mem_append.mp z with z | z
        · exact rs.new j x (m2 x z)
        · exact rs.new l x (m3 x z)
  · cases q
end
end L2
namespace L2
open PySem PySem.Spec PyProof.Rows
section
variable {X : Cx} {a b : Expr} {pos : Pos} {f g : DE}
end
end L2
namespace HT
open PySem PySem.Spec PyProof.Rows
section
variable {prog : Program} {w : World} {A : Around} {E : Value->Shared->Prop} {s : Shared}
end
end HT
namespace L2
open PySem PySem.Spec PyProof.Rows
section
variable {X : Cx} {e a b : Expr} {lo hi : Option Expr} {p p2 pos : Pos}
variable {f : DE}
end
end L2
namespace PySem
namespace SetTable
noncomputable def Up (xs : Array Nat) : Prop:=xs.toList.Pairwise (· < ·)
theorem up_le {xs : Array Nat} (h : Up xs) {i k : Nat} (hi : i < k) (hk : k < xs.size) (d : Nat) : xs.getD i d < xs.getD k d:=by
  have h1 : i < xs.toList.length:=by simp; omega
  have h2 : k < xs.toList.length:=by simpa using hk
  have:=List.pairwise_iff_getElem.mp h i k h1 h2 hi
  rw [Array.getD_eq_getD_getElem?,Array.getD_eq_getD_getElem?,Array.getElem?_eq_getElem (show i < xs.size by omega),Array.getElem?_eq_getElem hk]
  simpa using this
theorem z8w {xs : Array Nat} (h : Up xs) (j : Nat) : ∀ (f lo hi : Nat),hi - lo≤f->lo≤hi->hi≤xs.size->(∀ i,i < lo->xs.getD i j < j)->(∀ i,hi≤i->i < xs.size->j≤xs.getD i j) →
    (∀ i,i < below.go xs j f lo hi->xs.getD i j < j)∧(∀ i,below.go xs j f lo hi≤i->i < xs.size->j≤xs.getD i j)∧below.go xs j f lo hi≤xs.size
  | 0,lo,hi,h1,h2,h3,h4,h5=>by
    unfold below.go
    have e : lo=hi:=by omega
    subst e
    exact ⟨h4,h5,h3⟩
  | f + 1,lo,hi,h1,h2,h3,h4,h5=>by
    unfold below.go
    by_cases hl : lo < hi
    · rw [if_pos hl]
      have hm1 : lo≤(lo + hi) / 2:=by omega
      have hm2 : (lo + hi) / 2 < hi:=by omega
      generalize (lo + hi) / 2=mid at hm1 hm2
      show _∧_∧_
      by_cases hx : xs.getD mid j < j
      · simp only [hx,if_true]
        refine z8w h j f (mid + 1) hi (by omega) (by omega) h3 (fun i hi'=>?_) h5
        rcases Nat.lt_or_ge i mid with z | z
        · exact Nat.lt_trans (up_le h z (by omega) j) hx
        · have : i=mid:=by omega
          rw [this]; exact hx
      · simp only [hx,if_false]
        refine z8w h j f lo mid (by omega) hm1 (by omega) h4 fun i h6 h7=>?_
        rcases Nat.lt_or_ge mid i with z | z
        · have:=up_le h z h7 j
          omega
        · have : i=mid:=by omega
          rw [this]; omega
    · rw [if_neg hl]
      have e : lo=hi:=by omega
      subst e
      exact ⟨h4,h5,h3⟩
theorem below_spec {xs : Array Nat} (h : Up xs) (j : Nat) : (∀ i,i < below xs j->xs.getD i j < j)∧(∀ i,below xs j≤i->i < xs.size->j≤xs.getD i j)∧below xs j≤xs.size:=
  z8w h j xs.size 0 xs.size (by omega) (Nat.zero_le _) (Nat.le_refl _) (fun i hi=>absurd hi (by omega)) fun i h1 h2=>absurd h2 (by omega)
noncomputable def NL (t : SetTable) (j : Nat) : Prop:=t.place[below t.place j]?≠some j
theorem insert_up {xs : Array Nat} (h : Up xs) {j : Nat} (hn : xs[below xs j]?≠some j) : Up (insertAt xs (below xs j) j):=by
  obtain ⟨a,b,c⟩:=below_spec h j
  unfold Up
  rw [toList_insertAt]
  generalize below xs j=p at *
  have gt : ∀ i (hi : i < xs.toList.length),xs.getD i j=xs.toList[i]:=fun i hi=>by
    rw [Array.getD_eq_getD_getElem?,Array.getElem?_eq_getElem (by simpa using hi)]
    simp
  have low : ∀ x∈xs.toList.take p,x < j:=fun x hx=>by
    obtain ⟨i,hi,rfl⟩:=List.mem_iff_getElem.mp hx
    rw [List.length_take] at hi
    rw [List.getElem_take,← gt i (by omega)]
    exact a i (by omega)
  have high : ∀ x∈xs.toList.drop p,j < x:=fun x hx=>by
    obtain ⟨i,hi,rfl⟩:=List.mem_iff_getElem.mp hx
    rw [List.length_drop] at hi
    rw [List.getElem_drop,← gt (p + i) (by omega)]
    have h1:=b (p + i) (by omega) (by simp at hi; omega)
    by_cases hi0 : i=0
    · subst hi0
      have h2 : xs[p]? = some (xs.getD p j):=by
        rw [Array.getD_eq_getD_getElem?,Array.getElem?_eq_getElem (by simp at hi; omega)]
        rfl
      have h3 : xs.getD p j≠j:=fun z=>hn (by rw [h2,z])
      rw [Nat.add_zero] at h1 ⊢
      omega
    · have h2:=up_le h (show p < p + i by omega) (by simp at hi; omega) j
      have h3:=b p (Nat.le_refl _) (by simp at hi; omega)
      omega
  refine List.pairwise_append.mpr ⟨h.sublist (List.take_sublist ..),List.pairwise_cons.mpr ⟨high,h.sublist (List.drop_sublist ..)⟩,fun x hx y hy=>?_⟩
  rcases List.mem_cons.mp hy with z | z
  · rw [z]; exact low x hx
  · exact Nat.lt_trans (low x hx) (high y z)
theorem y2W {t : SetTable} {j : Nat} (h : ∀ i,t.slot j≠.live i) : NL t j:=fun z=>by
  refine h (below t.place j) ?_
  unfold slot
  show (if (t.place[below t.place j]? == some j)=true then _ else _)=_
  rw [if_pos (by rw [z]; simp)]
theorem go_nl {t : SetTable} {ha : Nat->Int} {hh : Int} : ∀ {f : Nat} {p : Probe} {j : Nat} {d : Option Nat},(∀ x,p.dummy=some x->NL t x)->probe.go t ha hh f p=some (.empty j d)->NL t (d.getD j)
  | 0,p,j,d,hp,h=>by unfold probe.go at h; cases h
  | f + 1,p,j,d,hp,h=>by
    unfold probe.go at h
    have adv : ∀ q : Probe,(t.advance q).dummy=q.dummy:=fun q=>by
      unfold advance
      split <;> rfl
    cases e : t.slot p.j with
    | empty=>
      rw [e] at h
      cases h
      cases hd : p.dummy with
      | none=>
        refine y2W fun i z=>?_
        have z : t.slot p.j = .live i:=z
        rw [e] at z
        cases z
      | some x=>exact hp x hd
    | dummy=>
      rw [e] at h
      refine go_nl (fun x hx=>?_) h
      rw [adv] at hx
      cases hx
      exact y2W fun i z=>by rw [e] at z; cases z
    | live i=>
      rw [e] at h
      have h : (if (ha i == hh)=true then some (Met.candidate p.j i (t.advance p)) else probe.go t ha hh f (t.advance p))=some (.empty j d):=h
      split at h
      · cases h
      · exact go_nl (fun x hx=>hp x (by rw [adv] at hx; exact hx)) h
end SetTable
noncomputable def TI (t : SetTable) : Prop:=t.led=true∧(t.plain=true->SetTable.Up t.place)
theorem z3r {t : SetTable} {n : Nat} (h : TI t) : TI (t.standIn n):=⟨h.1,fun z=>by cases z⟩
theorem z7L {t : SetTable} {n : Nat} (h : TI t) : TI (t.orStandIn n):=by
  unfold SetTable.orStandIn
  split
  · exact h
  · exact z3r h
theorem y1T {t : SetTable} {es : Array (Int × Value)} {h : Int} {x : Value} (ht : TI t) : TI (layNew t es h x).2.1:=by
  unfold layNew
  cases e : t.freeSlot h with
  | none=>exact z3r ht
  | some z=>
    obtain ⟨slot,wd⟩:=z
    have nl : SetTable.NL t slot:=by
      unfold SetTable.freeSlot at e
      split at e
      · rename_i j d ep
        cases e
        exact SetTable.go_nl (fun x hx=>by cases hx) ep
      · cases e
    show TI ((t.put slot).1.orStandIn _)
    refine z7L ⟨ht.1,fun hp=>?_⟩
    exact SetTable.insert_up (ht.2 hp) nl
theorem z8r {f : Nat->Option Nat} : ∀ l : List Nat,(l.filterMap fun j=>(f j).map fun z=>(j,z)).map (·.1)=l.filter fun j=>(f j).isSome
  | []=>rfl
  | j :: l=>by
    rw [List.filterMap_cons,List.filter_cons]
    cases e : f j with
    | none=>simpa [e] using z8r l
    | some z=>simpa [e] using z8r l
theorem z8S {t : SetTable} {es : Array (Int × Value)} {n : Nat} (ht : TI t) : TI (relayAll t es n).2.1:=by
  unfold relayAll
  cases e : t.relaid (es.map (·.1)) n with
  | none=>exact z3r ht
  | some z=>
    obtain ⟨t',order⟩:=z
    show TI (if _ then _ else _ : Array (Int × Value) × SetTable × Bool).2.1
    split
    · unfold SetTable.relaid SetTable.laid at e
      cases ho : SetTable.layClean (SetTable.sizeAbove n - 1) (es.map (·.1)) with
      | none=>rw [ho] at e; cases e
      | some ow=>
        rw [ho] at e
        cases e
        refine ⟨ht.1,fun _=>?_⟩
        unfold SetTable.Up
        show List.Pairwise _ (((List.range _).filterMap fun j=>(ow.getD j none).map fun z=>(j,z)).map (·.1))
        rw [z8r]
        exact List.Pairwise.filter _ List.pairwise_lt_range
    · exact z3r ht
theorem y5u : TI (SetTable.fresh 0 0 true):=⟨rfl,fun _=>List.Pairwise.nil⟩
end PySem
namespace PySem
section
variable {prog : Program} {w : World} {K : Type} [DecidableEq K] (knd : KeyKind prog w K)
noncomputable def Heap.SetW (g : Heap) (a : Addr) (S : K->Bool) (n : Nat) : Prop:=
  ∃ ob xs ep tb,g.get? a=some ob∧ob.ExactSet∧ob.data = .set xs ep tb∧ElemsOf knd xs.toList∧(∀ k,S k=true↔∃ e∈xs.toList,knd.is k e.2=true)
    ∧ xs.size < scanBound∧tb.fits xs.size=true∧xs.size=n∧(w.params.followText "set-order" = true∨TI tb)
variable {knd} {A : Around} {E : Value->Shared->Prop} {s : Shared}
theorem z6a {g : Heap} {a : Addr} {ob : Obj} {xs ys : Array (Int × Value)} {ep : Nat} {tb tc : SetTable} {S' : K->Bool} (g1 : g.get? a=some ob) (g2 : ob.ExactSet) (g3 : ob.data = .set xs ep tb)
    (k1 : ElemsOf knd ys.toList) (k2 : ∀ k,S' k=true↔∃ e∈ys.toList,knd.is k e.2=true) (k3 : ys.size < scanBound) (k4 : tc.fits ys.size=true) (k5 : w.params.followText "set-order" = true∨TI tc) :
    (g.update a (Obj.putSet ys tc)).get? a=some { ob with data:=.set ys (ep + 1) tc }∧(g.update a (Obj.putSet ys tc)).SetW knd a S' ys.size:=by
  obtain ⟨e1,_⟩:=SetOf_store (knd:=knd) g1 g2 g3 k1 k2 k3 k4
  exact ⟨e1,_,ys,ep + 1,tc,e1,g2,rfl,k1,k2,k3,k4,rfl,k5⟩
theorem z9M {gw : Bool->Sem Unit} (hgw : ∀ (b : Bool) (s₁ : Shared) (Q' : Unit->Shared->Prop),Q' () s₁->wpAny (model prog w) A (gw b) Q' E s₁)
    {a : Addr} {ob : Obj} {xs ys : Array (Int × Value)} {ep : Nat} {tb tc : SetTable} {S' : K->Bool} (g1 : s.heap.get? a=some ob) (g2 : ob.ExactSet) (g3 : ob.data = .set xs ep tb)
    (k1 : ElemsOf knd ys.toList) (k2 : ∀ k,S' k=true↔∃ e∈ys.toList,knd.is k e.2=true) (k3 : ys.size < scanBound) (k4 : tc.fits ys.size=true) (k5 : w.params.followText "set-order" = true∨TI tc) {wd : Bool} {R : Option Bool->Shared->Prop}
    (fin : ∀ g',Heap.SameBut a s.heap g'->g'.SetW knd a S' ys.size->R (some true) { s with heap:=g' }) :
    wpAny (model prog w) A (do
        storeSet a ys tc
        if (!wd && tc.tooFull)=true then do
            gw (relayAll tc ys (SetTable.grown ys.size)).2.2
            storeSet a (relayAll tc ys (SetTable.grown ys.size)).1 (relayAll tc ys (SetTable.grown ys.size)).2.1
            pure (some true)
          else pure (some true)) R E s:=by
  refine wpAny_bind (wpAny_storeSet_of g1 g3 ?_ (fits_of_scanBound k3))
  obtain ⟨o1,w1⟩:=z6a (knd:=knd) g1 g2 g3 k1 k2 k3 k4 k5
  have sb:=Heap.SameBut.update s.heap a (Obj.putSet ys tc)
  split
  · have rp:=relayAll_perm tc ys (SetTable.grown ys.size)
    have rf:=relayAll_fits tc ys (SetTable.grown ys.size)
    have rt : w.params.followText "set-order" = true∨TI (relayAll tc ys (SetTable.grown ys.size)).2.1:=k5.imp id z8S
    generalize relayAll tc ys (SetTable.grown ys.size)=Z at rp rf rt ⊢
    obtain ⟨zs,td,gv⟩:=Z
    dsimp only at rp rf rt ⊢
    have m1 : ElemsOf knd zs.toList:=k1.perm rp
    have m2 : ∀ k',S' k'=true↔∃ e∈zs.toList,knd.is k' e.2=true:=fun k'=>(k2 k').trans ⟨fun ⟨e,he,q⟩=>⟨e,rp.mem_iff.mpr he,q⟩,fun ⟨e,he,q⟩=>⟨e,rp.mem_iff.mp he,q⟩⟩
    have sz : zs.size=ys.size:=by simpa using rp.length_eq
    have m3 : zs.size < scanBound:=sz ▸ k3
    refine wpAny_bind (hgw _ _ _ ?_)
    refine wpAny_bind (wpAny_storeSet_of o1 rfl ?_ (fits_of_scanBound m3))
    obtain ⟨_,w2⟩:=z6a (knd:=knd) o1 g2 rfl m1 m2 m3 rf rt
    rw [sz] at w2
    exact wpAny_pure (fin _ (sb.trans (Heap.SameBut.update _ a _)) w2)
  · exact wpAny_pure (fin _ sb w1)
theorem addW {a : Addr} {S : K->Bool} {n : Nat} {k : K} {x : Value} {Q : Bool->Shared->Prop} (kx : knd.is k x=true) (sx : x.scannable=true) (hS : s.heap.SetW knd a S n) (room : n + 1 < scanBound)
    (fin : ∀ g',Heap.SameBut a s.heap g'->g'.SetW knd a (fun k'=>S k' || decide (k'=k)) (if S k then n else n + 1)->Q (!S k) { s with heap:=g' }) :
    wpAny (model prog w) A (setAddHashed a x (knd.hash k)) Q E s:=by
  obtain ⟨ob,xs,ep,tb,g1,g2,g3,g4,g5,g6,g7,g8,g9⟩:=hS
  have room' : xs.size + 1 < scanBound:=by omega
  unfold setAddHashed setAddHashedIn
  refine wpAny_holding (wpAny_bind (wpAny_setState_of g1 g3 g7 ?_))
  dsimp only
  rw [byScan_of sx g6 g4]
  simp only [↓reduceIte]
  unfold setAddByScan
  refine wpAny_bind ?_
  refine wpAny_bind (wpAny_rule ?_)
  refine wpAny_bind (wpAny_setScan_of kx g1 g3 g7 g4 ?_)
  cases fi : List.findIdx? (fun e=>knd.is k e.2) xs.toList with
  | some j=>
    dsimp only
    obtain ⟨hj,hp,_⟩:=List.findIdx?_eq_some_iff_getElem.mp fi
    have yes : S k=true:=(g5 k).mpr ⟨xs.toList[j],List.getElem_mem hj,hp⟩
    refine wpAny_pure (wpAny_pure ?_)
    have z:=fin s.heap (Heap.SameBut.refl a s.heap) ⟨ob,xs,ep,tb,g1,g2,g3,g4,fun k'=>by
      rw [Bool.or_eq_true,decide_eq_true_eq,← g5 k']
      exact ⟨fun q=>q.elim id fun e=>e ▸ yes,.inl⟩,g6,g7,by rw [yes]; exact g8,g9⟩
    rw [yes] at z
    exact z
  | none=>
    dsimp only
    have no : S k=false:=by
      rw [← Bool.not_eq_true]
      intro hk
      obtain ⟨e,he,hp⟩:=(g5 k).mp hk
      have:=List.findIdx?_eq_none_iff.mp fi e he
      rw [hp] at this
      cases this
    have gw : ∀ (b : Bool) (s₁ : Shared) (Q' : Unit->Shared->Prop),Q' () s₁->wpAny (model prog w) A (match b with | true=>rule "set.scan.the-table-gave-way" | false=>pure ()) Q' E s₁:=by
      intro b s₁ Q' hq
      cases b
      · exact wpAny_pure hq
      · exact wpAny_rule hq
    have lp:=layNew_perm tb xs (knd.hash k) x
    have lf:=layNew_fits tb xs (knd.hash k) x
    have lt : w.params.followText "set-order" = true∨TI (layNew tb xs (knd.hash k) x).2.1:=g9.imp id y1T
    generalize layNew tb xs (knd.hash k) x=L at lp lf lt ⊢
    obtain ⟨ys,tc,wd,gv⟩:=L
    dsimp only at lp lf lt ⊢
    rw [Array.toList_push] at lp
    have m1 : ElemsOf knd ys.toList:=(g4.push kx sx).perm lp
    have m2 : ∀ k',(S k' || decide (k'=k))=true↔∃ e∈ys.toList,knd.is k' e.2=true:=mem_push_iff kx g5 lp
    have m0 : ys.size=n + 1:=by
      have:=lp.length_eq
      simp at this
      omega
    have m3 : ys.size < scanBound:=by omega
    refine wpAny_bind (gw _ _ _ ?_)
    have done : ∀ g',Heap.SameBut a s.heap g'->g'.SetW knd a (fun k'=>S k' || decide (k'=k)) ys.size->Q true { s with heap:=g' }:=fun g' sb z=>by
      have:=fin g' sb
      rw [no] at this
      rw [m0] at z
      exact this z
    split
    · refine wpAny_bind ?_
      rw [hashByValue_scannable 8 sx]
      refine wpAny_pure ?_
      refine z9M gw g1 g2 g3 m1 m2 m3 ?_ ?_ fun g' sb z=>wpAny_pure (done g' sb z)
      · split
        · exact lf
        · exact SetTable.fits_plain_off lf
      · split
        · exact lt
        · exact lt.imp id fun z=>⟨z.1,fun q=>by cases q⟩
    · refine wpAny_bind (wpAny_pure ?_)
      simp only [↓reduceIte]
      exact z9M gw g1 g2 g3 m1 m2 m3 lf lt fun g' sb z=>wpAny_pure (done g' sb z)
end
section
variable {prog : Program} {w : World} {A : Around} {R : Result->Shared->Prop} {I : Addr} {fp wr : List Addr} {G : Array GenState->Array GenState->Prop} {n : Nat} {P : Nat->Value->Prop} {St : Nat->Shared->Prop}
open PyProof.Rows in
theorem updateW (W : WalksS prog w A.in1 I fp wr G n P St) (a : Addr) (af : a ∉ fp) (val : Nat->Int) (hv : ∀ i v,P i v->∃ t,v = .int (val i) t) (hb : n + 1 < scanBound) :
    ∀ (k i : Nat) (s : Shared),n - i=k->i≤n->St i s->s.heap.SetW (intKind prog w) a (fun z=>(firstMet val i).any (· == z)) (firstMet val i).length →
      (∀ s',Moved (a :: wr) G s s'->s'.heap.SetW (intKind prog w) a (fun z=>(firstMet val n).any (· == z)) (firstMet val n).length->R (.ok (.ret .none)) s') →
      codeAny (model prog w) A (.builtin "set.update.loop" ⟨[.ref a,.ref I],[]⟩) R s:=by
  have aw : a ∉ wr:=fun z=>af (W.sub _ z)
  have sub : ∀ b∈wr,b∈a :: wr:=fun b z=>List.mem_cons_of_mem _ z
  have keep : ∀ {s s' : Shared} {S : Int->Bool} {m : Nat},Moved wr G s s'->s.heap.SetW (intKind prog w) a S m->s'.heap.SetW (intKind prog w) a S m:=fun {s s' S m} mv ⟨ob,xs,ep,tb,g1,g⟩=>⟨ob,xs,ep,tb,mv.heap a _ aw g1,g⟩
  intro k
  induction k with
  | zero=>
    intro i s hk hi st hS fin
    obtain rfl : i=n:=by omega
    refine codeAny_builtin F.entry_set_update_loop ?_
    rw [Around.under_plainId F.plain_set_update_loop _]
    show wpAny _ A.in1 (pyNext (.ref I) >>= _) _ _ s
    refine wpAny_bind (W.done s _ _ st fun s' mv=>?_)
    show wpAny _ A.in1 (ret Value.none) _ _ s'
    exact wpAny_pure (fin s' (mv.mono sub) (keep mv hS))
  | succ k ih=>
    intro i s hk hi st hS fin
    have lt : i < n:=by omega
    refine codeAny_builtin F.entry_set_update_loop ?_
    rw [Around.under_plainId F.plain_set_update_loop _]
    show wpAny _ A.in1 (pyNext (.ref I) >>= _) _ _ s
    refine wpAny_bind (W.item i s _ _ lt st fun v s' hP st' mv=>?_)
    obtain ⟨t,rfl⟩:=hv i v hP
    show wpAny _ A.in1 (holding [Value.int (val i) t] (setAdd a (.int (val i) t)) >>= _) _ _ s'
    refine wpAny_bind (wpAny_holding ?_)
    unfold setAdd
    refine wpAny_holding ?_
    refine wpAny_bind ((intKind prog w).pyHash (k:=val i) (intKind_is _ _ _ _) ?_)
    have room : (firstMet val i).length + 1 < scanBound:=by have:=firstMet_length_le val i; omega
    refine addW (knd:=intKind prog w) (s:={ s' with toks:=s'.toks + 1 }) (intKind_is _ _ _ _) rfl (show s'.heap.SetW _ a _ _ from keep mv hS) room fun g' sb w2=>?_
    have w3 : g'.SetW (intKind prog w) a (fun z=>(firstMet val (i + 1)).any (· == z)) (firstMet val (i + 1)).length:=by
      have e1 : (fun z=>(firstMet val i).any (· == z) || decide (z=val i))=fun z=>(firstMet val (i + 1)).any (· == z):=funext fun z=>by rw [firstMet_succ,step_any]
      have e2 : (if ((firstMet val i).any (· == val i))=true then (firstMet val i).length else (firstMet val i).length + 1)=(firstMet val (i + 1)).length:=by rw [firstMet_succ,step_length]
      rw [e1,e2] at w2
      exact w2
    refine wpAny_pure ⟨plainId_quiet F.plain_set_update_loop _,ih (i + 1) _ (by omega) lt (W.frame _ s' _ _ st' (Nat.le_succ _) fun b hb o e=>?_) w3 fun s2 mv2 w4=>?_⟩
    · rw [sb.2 b fun z=>af (z ▸ hb)]
      exact e
    · refine fin s2 (Moved.trans W.gtrans ((mv.mono sub).then_heap (Nat.le_succ _) fun b o hb e=>?_) mv2) w4
      rw [sb.2 b fun z=>hb (z ▸ List.mem_cons_self)]
      exact e
end
end PySem
namespace PySem
section
variable {prog : Program} {w : World} {A : Around} {E : Value->Shared->Prop} {s : Shared}
open PyProof.Rows in
theorem y4d (a : Value) {Q₁ : Value->Shared->Prop}
    (h : Q₁ (.ref s.heap.objs.size) { s with heap:=s.heap.push { cls:=.type "set",dict:=none,data:=.set #[] 0 (.fresh 0 0 (!w.params.followText "set-order")) } }) :
    codeAny (model prog w) A (.call (.builtin "set.__new__") ⟨[.type "set",a],[]⟩) (wants Q₁ E) s:=by
  refine codeAny_of_tree ?_
  show wpAny _ A.in1 (do checkBuiltinCall "set.__new__" ⟨[.type "set",a],[]⟩; again (.builtin "set.__new__" ⟨[.type "set",a],[]⟩)) _ _ s
  refine wpAny_bind (wpAny_of_eq (F.newCall_set_1 a) (wpAny_pure ⟨plainId_quiet F.plain_set_new _,codeAny_builtin F.entry_set_new ?_⟩))
  rw [Around.under_plainId F.plain_set_new _]
  unfold Builtin.«set.__new__» Builtin.Frozenset.newClass
  have hsub:=sub_set_self
  obtain ⟨hp,g,d,tk,os⟩:=s
  dsimp only
  wp_walk
  refine wpAny_askSetting (wpAny_pure ?_)
  dsimp only
  simp only [newObj]
  refine wpAny_bind (wpAny_alloc (wpAny_pure ?_))
  exact wpAny_pure h
set_option maxHeartbeats 3200000 in
open PyProof.Rows in
theorem y3l {l : Addr} {its : Array Value} {ns : List Int} {Q : Value->Shared->Prop} (hh : A.handled=none) (hl : s.heap.IsList l its) (hi : IntsAre its.toList ns) (hb : its.size + 1 < scanBound)
    (fin : ∀ (g' : Heap) (tk : Nat),g'.SetW (intKind prog w) s.heap.objs.size (fun z=>(firstMet (fun i=>ns.getD i 0) its.size).any (· == z)) (firstMet (fun i=>ns.getD i 0) its.size).length →
      (∀ b o,b < s.heap.objs.size->s.heap.get? b=some o->g'.get? b=some o)->Q (.ref s.heap.objs.size) { s with heap:=g',toks:=tk }) :
    wpAny (model prog w) A (call (.type "set") [.ref l]) Q E s:=by
  obtain ⟨c,tl,m1⟩:=F.called_set.mro
  have m2:=F.called_set.made
  have m3:=F.called_set.sub
  refine wpAny_call (codeAny_of_tree ?_)
  show wpAny _ _ (callAny (.type "set") _) _ _ _
  refine wpAny_pure ⟨Code.quiet_builtin _ (by decide +kernel),codeAny_builtin F.entry_type_call ?_⟩
  rw [Around.under_plain (weight_type_call_type "set" [.ref l] []) rfl]
  have m4:=F.called_set.notType
  have m5:=F.called_set.canCreate
  have m6:=F.typeCall_set_1 (.ref l)
  repeat (any_goals (first | assumption | wp_step))
  obtain ⟨ob,hob⟩ : ∃ ob : Obj,ob = { cls:=.type "set",dict:=none,data:=.set #[] 0 (.fresh 0 0 (!w.params.followText "set-order")) }:=⟨_,rfl⟩
  refine codeAny_mono (y4d (.ref l) (E:=E) (Q₁:=fun v s₁=>v = .ref s.heap.objs.size∧s₁ = { s with heap:=s.heap.push ob }) ⟨rfl,by rw [hob]⟩) fun r s₁ hr=>?_
  cases r with
  | error e=>exact hr
  | ok fl=>
    cases fl with
    | ret v=>
      obtain ⟨rfl,rfl⟩:=hr
      have p1 : (s.heap.push ob).get? s.heap.objs.size=some ob:=Heap.get?_push_size _ (by rw [hob]; rfl)
      have p2 : Shared.TypeIs { s with heap:=s.heap.push ob } (.ref s.heap.objs.size) "set" := ⟨_,p1,by rw [hob]⟩
      have p3:=F.called_set.init.lookup
      have p4:=F.called_set.init.bind (.ref s.heap.objs.size)
      repeat (any_goals (first | assumption | wp_step))
      refine codeAny_mono (codeAny_call_builtin (R:=wants (fun r s₂=>r = .none∧∃ g' tk,s₂ = { s with heap:=g',toks:=tk } ∧
          g'.SetW (intKind prog w) s.heap.objs.size (fun z=>(firstMet (fun i=>ns.getD i 0) its.size).any (· == z)) (firstMet (fun i=>ns.getD i 0) its.size).length ∧
          (∀ b o,b < s.heap.objs.size->s.heap.get? b=some o->g'.get? b=some o)) E) F.called_set.init.plain F.entry_set_init (check_set_init_1 p2 ?_)) fun r₂ s₂ hr₂=>?_
      · obtain ⟨ol,q1,q2,nl,q3⟩:=hl
        obtain ⟨ocls,odict,odata,oslots⟩:=ol
        simp only at q2 q3
        subst q2; subst q3
        have q4 : (s.heap.push ob).get? l=some { cls:=.type "list",dict:=odict,data:=.seq its nl,slots:=oslots }:=Heap.get?_push_of_some _ q1
        have q5:=F.sub_list_set
        have q6:=F.sub_list_frozenset
        have q7 : (Value.type "list" == Value.type "dict")=false:=by decide
        have q8 : (s.heap.push ob).IsList l its:=⟨_,q4,rfl,nl,rfl⟩
        unfold Builtin.«set.__init__» noKeywords Builtin.Frozenset.updateFrom
        generalize hPI : pyIter=PI
        rw [hob] at p1 p2 q4 q8 ⊢
        wp_walk
        subst hPI
        refine wpAny_pyIter_list q8 ?_
        refine wpAny_bind (wpAny_runValue ?_)
        have ls : l < s.heap.objs.size:=Heap.lt_size q1
        have hh3 : A.in1.in1.in1.handled=none:=by simp [hh]
        rw [← hob] at p1 q8 ⊢
        have ne1 : l≠(s.heap.push ob).objs.size:=by
          rw [Heap.size_push]
          exact Nat.ne_of_lt (Nat.lt_succ_of_lt ls)
        have af : s.heap.objs.size ∉ [(s.heap.push ob).objs.size,l]:=fun z=>by
          rw [Heap.size_push] at z
          rcases List.mem_cons.mp z with z | z
          · exact absurd z (Nat.ne_of_lt (Nat.lt_succ_self _))
          · exact absurd (List.mem_singleton.mp z) (Nat.ne_of_gt ls)
        refine updateW ((Walks.list hh3 _ l ne1 its).toS) s.heap.objs.size af (fun i=>ns.getD i 0) (fun i v hv=>IntsAre.int_at hi i v (by rw [Array.getElem?_toList]; exact hv)) hb (its.size - 0) 0 _ (by omega) (Nat.zero_le _)
          ⟨⟨_,Heap.get?_push_size _ rfl,rfl,rfl⟩,(q8.push _)⟩ ?h0 ?h1
        case h0=>
          have e1 : ((s.heap.push ob).push { cls:=.type "list_iterator",data:=.fields #[.ref l,.int 0 0] }).get? s.heap.objs.size=some ob:=Heap.get?_push_of_some _ p1
          refine ⟨ob,#[],0,.fresh 0 0 (!w.params.followText "set-order"),e1,by rw [hob]; exact ⟨rfl,rfl,rfl⟩,by rw [hob],(fun e he=>nomatch he),fun k=>?_,by decide,rfl,rfl,?_⟩
          · constructor
            · intro z; cases z
            · rintro ⟨e,he,_⟩; cases he
          · cases hf : w.params.followText "set-order" with
            | true=>exact .inl rfl
            | false=>exact .inr y5u
        case h1=>
          intro s' mv w1
          obtain ⟨g',gs,dr,tk',os'⟩:=s'
          have eg : gs=s.gens:=mv.gens
          have ed : dr=s.drawn:=mv.drawn
          have eo : os'=s.os:=mv.os
          subst eg; subst ed; subst eo
          refine wpAny_pure ?_
          show wpAny _ _ (ret Value.none) _ _ _
          refine wpAny_pure ⟨rfl,g',tk',rfl,w1,fun b o hb e=>?_⟩
          refine mv.heap b o (fun z=>?_) (Heap.get?_push_of_some _ (Heap.get?_push_of_some _ e))
          rcases List.mem_cons.mp z with z | z
          · exact absurd z (Nat.ne_of_lt hb)
          · rw [List.mem_singleton,Heap.size_push] at z
            exact absurd z (Nat.ne_of_lt (Nat.lt_succ_of_lt hb))
      · cases r₂ with
        | error e=>exact hr₂
        | ok fl₂=>
          cases fl₂ with
          | ret r=>
            obtain ⟨rfl,g',tk,rfl,w1,w2⟩:=hr₂
            repeat (any_goals (first | assumption | wp_step))
            exact fin _ _ w1 w2
          | _=>exact hr₂.elim
    | _=>exact hr.elim
end
end PySem
namespace PySem
theorem z9a : entryFor table "set.__iter__" = some Builtin.«frozenset.__iter__»:=entryFor_alias (id' := "frozenset.__iter__") (by kernel_rfl) rfl (by decide +kernel) (by kernel_rfl)
theorem sl_sit_next : Slot "set_iterator" "__next__" "set_iterator.__next__" :=
  .of (owner := "set_iterator") (n := "__next__") (by rw [typeLookup_type,builtinLookup_eq_fast]; kernel_rfl) (by decide +kernel) (by decide +kernel) (by decide +kernel) (by first | exact .inl (by decide +kernel) | exact .inr (by decide +kernel)) (by rw [isSubtype_type]; kernel_rfl)
theorem z2J : entryFor table "set_iterator.__next__" = some Builtin.«set_iterator.__next__»:=entryFor_of_tree (by kernel_rfl)
theorem y5C : Manifest.owners.lookup (String.ofList ['r','o','t','a','r','e','t','i','_','t','e','s'].reverse)=some Manifest.sig_set_iterator:=by kernel_rfl
theorem z2C (a : Value) : argsOk "set_iterator.__next__" ⟨[a],[]⟩:=by
  unfold argsOk
  rw [signature?_of (id := "set_iterator.__next__") (n:=['_','_','t','x','e','n','_','_']) (o:=['r','o','t','a','r','e','t','i','_','t','e','s']) (by kernel_rfl) y5C]
  kernel_rfl
theorem z3Z {α : Type} : ∀ {l : List α} {i : Nat} (h : i < l.length),(l[i] :: l.eraseIdx i).Perm l
  | x :: r,0,_=>.refl _
  | x :: r,i + 1,h=>by
    have hi : i < r.length:=by simpa using h
    exact (List.Perm.swap x (r[i]'hi) (r.eraseIdx i)).trans ((z3Z hi).cons x)
section
variable {M : Model} {A : Around} {E : Value->Shared->Prop} {s : Shared}
theorem y0G {src : Source} {n : Nat} {Q : Nat->Shared->Prop} (hn : n≠0) (h : ∀ i,i < n->∀ dr,Q i { s with drawn:=dr }) : wpAny M A (choose src n) Q E s:=fun Γ p _=>⟨hn,h _ (Nat.mod_lt _ (Nat.pos_of_ne_zero hn)) _⟩
theorem z5y {α : Type} : ∀ (n : Nat) (xs : List α) (s : Shared) {Q : List α->Shared->Prop},xs.length=n->(∀ ys dr,ys.Perm xs->Q ys { s with drawn:=dr })->wpAny M A (drawOrder n xs) Q E s
  | 0,[],s,Q,_,h=>wpAny_pure (h [] s.drawn (.refl _))
  | 0,_ :: _,_,_,hl,_=>by cases hl
  | n + 1,[],_,_,hl,_=>by cases hl
  | n + 1,x :: r,s,Q,hl,h=>by
    unfold drawOrder
    refine wpAny_bind (y0G (by simp) fun i hi dr=>?_)
    obtain ⟨y,hy⟩ : ∃ y,(x :: r)[i]? = some y:=⟨(x :: r)[i],List.getElem?_eq_getElem hi⟩
    rw [hy]
    refine wpAny_bind (z5y n ((x :: r).eraseIdx i) _ (by rw [List.length_eraseIdx_of_lt hi]; simp at hl ⊢; omega) fun ys dr2 hp=>wpAny_pure (h (y :: ys) dr2 ?_))
    obtain ⟨hi',rfl⟩:=List.getElem?_eq_some_iff.mp hy
    exact (hp.cons _).trans (z3Z hi')
end
theorem z8e {α : Type} (next : Nat->Nat) : ∀ (f k : Nat) (left : List α) (out : Array α),left.length=f->(pickOrder.go next f k left out).toList.Perm (out.toList ++ left)
  | 0,k,left,out,h=>by
    obtain rfl:=List.length_eq_zero_iff.mp h
    unfold pickOrder.go
    simp
  | f + 1,k,left,out,h=>by
    unfold pickOrder.go
    have hi : next k % left.length < left.length:=Nat.mod_lt _ (by omega)
    rw [List.getElem?_eq_getElem hi]
    refine (z8e next f (k + 1) _ _ (by rw [List.length_eraseIdx_of_lt hi]; omega)).trans ?_
    rw [Array.toList_push,List.append_assoc]
    exact List.Perm.append_left _ (z3Z hi)
theorem y0E {α : Type} (next : Nat->Nat) (xs : Array α) : (pickOrder next xs).toList.Perm xs.toList:=by
  have:=z8e next xs.size 0 xs.toList #[] (by simp)
  unfold pickOrder
  simpa using this
section
variable {prog : Program} {w : World} {A : Around} {E : Value->Shared->Prop} {s : Shared}
theorem y2u {a : Addr} {ob : Obj} {xs : Array (Int × Value)} {ep sl i : Nat} {tb : SetTable} {Q : Option (Value × Nat)->Shared->Prop} (g1 : s.heap.get? a=some ob) (g3 : ob.data = .set xs ep tb) (g7 : tb.fits xs.size=true)
    (ht : w.params.followText "set-order" = true) (h : Q (((pickOrder (w.params.setOrder a ep) xs)[i]?).map fun e=>(e.2,sl)) s) : wpAny (model prog w) A (setNext a sl i ep) Q E s:=by
  unfold setNext
  refine wpAny_bind (wpAny_setState_of g1 g3 g7 ?_)
  dsimp only
  unfold setsByText
  refine wpAny_bind (wpAny_bind (wpAny_askSetting (wpAny_pure ?_)))
  show wpAny _ _ (if w.params.followText "set-order" = true then _ else _) _ _ s
  rw [if_pos ht,if_neg (by simp)]
  refine wpAny_bind ?_
  unfold setWalk
  refine wpAny_bind (wpAny_setState_of g1 g3 g7 ?_)
  dsimp only
  unfold setsByText
  refine wpAny_bind (wpAny_bind (wpAny_askSetting (wpAny_pure ?_)))
  show wpAny _ _ (if w.params.followText "set-order" = true then _ else _) _ _ s
  rw [if_pos ht]
  exact wpAny_bind (wpAny_askSetting (wpAny_pure (wpAny_pure h)))
noncomputable def slP (tb : SetTable) : Nat->Nat
  | 0=>0
  | i + 1=>tb.place.getD i 0 + 1
theorem y4t {tb : SetTable} (hu : SetTable.Up tb.place) {i : Nat} (hi : i≤tb.place.size) : SetTable.below tb.place (slP tb i)=i:=by
  obtain ⟨a,b,c⟩:=SetTable.below_spec hu (slP tb i)
  have gd : ∀ k d,k < tb.place.size->tb.place.getD k d=tb.place.getD k 0:=fun k d hk=>by simp [hk]
  rcases Nat.lt_trichotomy (SetTable.below tb.place (slP tb i)) i with z | z | z
  · have h1:=b _ (Nat.le_refl _) (by omega)
    generalize SetTable.below tb.place (slP tb i)=r at h1 z
    rw [gd r _ (by omega)] at h1
    cases i with
    | zero=>omega
    | succ i=>
      have h2 : slP tb (i + 1)=tb.place.getD i 0 + 1:=rfl
      rw [h2] at h1
      rcases Nat.lt_or_ge r i with q | q
      · have:=SetTable.up_le hu q (by omega) 0
        omega
      · have : r=i:=by omega
        rw [this] at h1
        omega
  · exact z
  · have h1:=a i z
    rw [gd i _ (by omega)] at h1
    cases i with
    | zero=>have h2 : slP tb 0=0:=rfl; omega
    | succ i=>
      have h2 : slP tb (i + 1)=tb.place.getD i 0 + 1:=rfl
      have:=SetTable.up_le hu (show i < i + 1 by omega) (by omega) 0
      omega
theorem y0Q {a : Addr} {ob : Obj} {xs : Array (Int × Value)} {ep i : Nat} {tb : SetTable} {Q : Option (Value × Nat)->Shared->Prop} (g1 : s.heap.get? a=some ob) (g3 : ob.data = .set xs ep tb) (g7 : tb.fits xs.size=true)
    (ht : w.params.followText "set-order" = false) (hd : (!tb.plain && decide (xs.size > 1))=false) (hled : tb.led=true) (hu : SetTable.Up tb.place) (hi : i≤xs.size) (h : Q ((xs[i]?).map fun e=>(e.2,slP tb (i + 1))) s) : wpAny (model prog w) A (setNext a (slP tb i) i ep) Q E s:=by
  have hp : tb.place.size=xs.size:=by
    unfold SetTable.fits at g7
    rw [Bool.and_eq_true] at g7
    exact eq_of_beq g7.1
  unfold setNext
  refine wpAny_bind (wpAny_setState_of g1 g3 g7 ?_)
  dsimp only
  unfold setsByText
  refine wpAny_bind (wpAny_bind (wpAny_askSetting (wpAny_pure ?_)))
  show wpAny _ _ (if w.params.followText "set-order" = true then _ else _) _ _ s
  rw [if_neg (by rw [ht]; exact Bool.false_ne_true)]
  show wpAny _ _ (if (!tb.plain && decide (xs.size > 1))=true then _ else _) _ _ s
  rw [if_neg (by rw [hd]; exact Bool.false_ne_true)]
  refine wpAny_bind ?_
  show wpAny _ _ (if (!tb.led && !xs.isEmpty)=true then _ else _) _ _ s
  rw [if_neg (by rw [hled]; exact Bool.false_ne_true)]
  refine wpAny_pure (wpAny_pure ?_)
  show Q (match xs[SetTable.below tb.place (slP tb i)]?,tb.place[SetTable.below tb.place (slP tb i)]? with | some (_,x),some j=>some (x,j + 1) | _,_=>none) s
  rw [y4t hu (by omega)]
  by_cases hlt : i < xs.size
  · rw [Array.getElem?_eq_getElem hlt] at h ⊢
    rw [Array.getElem?_eq_getElem (show i < tb.place.size by omega)]
    have e : slP tb (i + 1)=tb.place[i] + 1:=by
      show tb.place.getD i 0 + 1=_
      simp [show i < tb.place.size by omega]
    rw [e] at h
    exact h
  · rw [Array.getElem?_eq_none (by omega)] at h ⊢
    exact h
end
end PySem
namespace PySem
noncomputable def Heap.SIt (g : Heap) (I a : Addr) (first : Value) (i n ep : Nat) : Prop:=∃ ob,g.get? I=some ob∧ob.cls = .type "set_iterator" ∧ ob.data = .fields #[first,.int i 0,.ref a,.int n 0,.int ep 0]
noncomputable def Heap.SDt (g : Heap) (a : Addr) (xs : Array (Int × Value)) (ep : Nat) (tb : SetTable) : Prop:=∃ ob,g.get? a=some ob∧ob.data = .set xs ep tb
section
variable {prog : Program} {w : World} {A : Around} {E : Value->Shared->Prop} {s : Shared}
theorem z1q {I a : Addr} {f : Value} {i n ep : Nat} (h : s.heap.SIt I a f i n ep) : s.TypeIs (.ref I) "set_iterator" := by
  obtain ⟨ob,h1,h2,_⟩:=h
  exact ⟨ob,h1,h2⟩
theorem z2r {a : Addr} {xs : Array (Int × Value)} {ep : Nat} {tb : SetTable} {Q : Array (Int × Value)->Shared->Prop} (h : s.heap.SDt a xs ep tb) (hf : tb.fits xs.size=true) (q : Q xs s) : wpAny (model prog w) A (setEntries a) Q E s:=by
  obtain ⟨ob,g1,g3⟩:=h
  unfold setEntries
  exact wpAny_bind (wpAny_setState_of g1 g3 hf (wpAny_pure q))
theorem y5e {I a : Addr} {sl sl' i ep : Nat} {xs : Array (Int × Value)} {tb : SetTable} {x : Value} {Q : Option Value->Shared->Prop} (hit : s.heap.SIt I a (.int sl 0) i xs.size ep) (hs : s.heap.SDt a xs ep tb) (hf : tb.fits xs.size=true)
    (hn : ∀ (A' : Around) (E' : Value->Shared->Prop) (Q' : Option (Value × Nat)->Shared->Prop),Q' (some (x,sl')) s->wpAny (model prog w) A' (setNext a sl i ep) Q' E' s)
    (hQ : ∀ g',g'.SIt I a (.int sl' 0) (i + 1) xs.size ep->Heap.SameBut I s.heap g'->Q (some x) { s with heap:=g' }) : wpAny (model prog w) A (pyNext (.ref I)) Q E s:=by
  obtain ⟨ob,h1,h2,h3⟩:=id hit
  unfold pyNext
  refine wpAny_bind (wpAny_attempt (wpAny_callSpecial?_slot (name:=Str.ofString "__next__") (z1q hit) sl_sit_next (wpAny_call_entry sl_sit_next (z1q hit) z2J ?_ (z2C _))))
  unfold Builtin.«set_iterator.__next__»
  refine wpAny_bind (wpAny_pure ?_)
  refine wpAny_bind (wpAny_fieldsOf h1 h3 ?_)
  dsimp only
  refine wpAny_bind (z2r hs hf ?_)
  rw [if_neg (by simp)]
  refine wpAny_bind (hn _ _ _ ?_)
  dsimp only
  refine wpAny_bind (wpAny_setField h1 h3 (by simp) ?_)
  have k1:=Heap.get?_update_self (Obj.mapFields (·.setIfInBounds 0 (rawInt (sl' : Int)))) h1 (Obj.isFreed_of_fields (Obj.data_mapFields h3 _))
  have k3:=Obj.data_mapFields h3 (·.setIfInBounds 0 (rawInt (sl' : Int)))
  refine wpAny_bind (wpAny_setField k1 k3 (by simp) ?_)
  have m1:=Heap.get?_update_self (Obj.mapFields (·.setIfInBounds 1 (rawInt ((i : Int) + 1)))) k1 (Obj.isFreed_of_fields (Obj.data_mapFields k3 _))
  have m3:=Obj.data_mapFields k3 (·.setIfInBounds 1 (rawInt ((i : Int) + 1)))
  refine wpAny_pure ⟨_,rfl,wpAny_pure (hQ _ ⟨_,m1,((Obj.cls_mapFields ..).trans (Obj.cls_mapFields ..)).trans h2,?_⟩ ((Heap.SameBut.update ..).trans (Heap.SameBut.update ..)))⟩
  rw [m3]
  simp [rawInt]
theorem sit_end {I a : Addr} {sl i ep : Nat} {xs : Array (Int × Value)} {tb : SetTable} {Q : Option Value->Shared->Prop} (hh : A.handled=none) (hit : s.heap.SIt I a (.int sl 0) i xs.size ep) (hs : s.heap.SDt a xs ep tb) (hf : tb.fits xs.size=true)
    (hn : ∀ (A' : Around) (E' : Value->Shared->Prop) (Q' : Option (Value × Nat)->Shared->Prop),Q' none s->wpAny (model prog w) A' (setNext a sl i ep) Q' E' s)
    (hQ : ∀ g',Heap.ExtBut I s.heap g'->Q none { s with heap:=g' }) : wpAny (model prog w) A (pyNext (.ref I)) Q E s:=by
  obtain ⟨ob,h1,h2,h3⟩:=id hit
  unfold pyNext
  refine wpAny_bind (wpAny_attempt (wpAny_callSpecial?_slot (name:=Str.ofString "__next__") (z1q hit) sl_sit_next (wpAny_call_entry sl_sit_next (z1q hit) z2J ?_ (z2C _))))
  unfold Builtin.«set_iterator.__next__»
  refine wpAny_bind (wpAny_pure ?_)
  refine wpAny_bind (wpAny_fieldsOf h1 h3 ?_)
  dsimp only
  refine wpAny_bind (z2r hs hf ?_)
  rw [if_neg (by simp)]
  refine wpAny_bind (hn _ _ _ ?_)
  dsimp only
  refine wpAny_bind (wpAny_setField h1 h3 (by simp) ?_)
  refine wpAny_bind ?_
  simp only [newExc,newTuple]
  refine wpAny_bind (wpAny_newObj_type ?_ (by size_fits))
  refine wpAny_bind (m:=firstArgMember _ _) (wpAny_of_eq (a:=Value.none) (by first | rfl | (simp only [firstArgMember]; rfl)) ?_)
  refine wpAny_newObj_type ?_ (by size_fits)
  simp only [raiseNew]
  refine wpAny_bind (wpAny_handled ?_)
  rw [show A.in1.handled=none from hh]
  refine wpAny_bind (wpAny_pure (wpAny_throw ?_))
  refine wpAny_bind (wpAny_isInstance (T := "StopIteration") (b:=true) ⟨_,Heap.get?_push_size _ rfl,rfl⟩ isSubtype_stop ?_)
  exact wpAny_pure (hQ _ (((Heap.SameBut.update ..).extBut.push _).push _))
theorem y0o {I a tp : Addr} {i ep p : Nat} {xs : Array (Int × Value)} {tb : SetTable} {ps : Array Value} {x : Int × Value} {Q : Option Value->Shared->Prop} (hit : s.heap.SIt I a (.ref tp) i xs.size ep) (hs : s.heap.SDt a xs ep tb) (hf : tb.fits xs.size=true)
    (ht : ∀ (A' : Around) (E' : Value->Shared->Prop) (Q' : Option (Array Value)->Shared->Prop),Q' (some ps) s->wpAny (model prog w) A' (seqItems? (.ref tp)) Q' E' s) (hp : ps[i]? = some (.int p 0)) (hx : xs[p]? = some x)
    (hQ : ∀ g',g'.SIt I a (.ref tp) (i + 1) xs.size ep->Heap.SameBut I s.heap g'->Q (some x.2) { s with heap:=g' }) : wpAny (model prog w) A (pyNext (.ref I)) Q E s:=by
  obtain ⟨ob,h1,h2,h3⟩:=id hit
  obtain ⟨oa,g1,g3⟩:=id hs
  unfold pyNext
  refine wpAny_bind (wpAny_attempt (wpAny_callSpecial?_slot (name:=Str.ofString "__next__") (z1q hit) sl_sit_next (wpAny_call_entry sl_sit_next (z1q hit) z2J ?_ (z2C _))))
  unfold Builtin.«set_iterator.__next__»
  refine wpAny_bind (wpAny_pure ?_)
  refine wpAny_bind (wpAny_fieldsOf h1 h3 ?_)
  dsimp only
  refine wpAny_bind (z2r hs hf ?_)
  rw [if_neg (by simp)]
  refine wpAny_bind (ht _ _ _ ?_)
  dsimp only
  rw [Int.toNat_natCast,hp]
  dsimp only
  refine wpAny_bind ?_
  unfold setNextDrawn
  refine wpAny_bind (wpAny_setState_of g1 g3 hf ?_)
  dsimp only
  rw [if_neg (by simp),Int.toNat_natCast,hx]
  refine wpAny_pure ?_
  refine wpAny_bind (wpAny_setField h1 h3 (by simp) ?_)
  have k1:=Heap.get?_update_self (Obj.mapFields (·.setIfInBounds 1 (rawInt ((i : Int) + 1)))) h1 (Obj.isFreed_of_fields (Obj.data_mapFields h3 _))
  have k3:=Obj.data_mapFields h3 (·.setIfInBounds 1 (rawInt ((i : Int) + 1)))
  refine wpAny_pure ⟨_,rfl,wpAny_pure (hQ _ ⟨_,k1,(Obj.cls_mapFields ..).trans h2,?_⟩ (Heap.SameBut.update ..))⟩
  rw [k3]
  simp [rawInt]
theorem y1A {I a tp : Addr} {i ep : Nat} {xs : Array (Int × Value)} {tb : SetTable} {ps : Array Value} {Q : Option Value->Shared->Prop} (hh : A.handled=none) (hit : s.heap.SIt I a (.ref tp) i xs.size ep) (hs : s.heap.SDt a xs ep tb) (hf : tb.fits xs.size=true)
    (ht : ∀ (A' : Around) (E' : Value->Shared->Prop) (Q' : Option (Array Value)->Shared->Prop),Q' (some ps) s->wpAny (model prog w) A' (seqItems? (.ref tp)) Q' E' s) (hp : ps[i]? = none)
    (hQ : ∀ g',Heap.ExtBut I s.heap g'->Q none { s with heap:=g' }) : wpAny (model prog w) A (pyNext (.ref I)) Q E s:=by
  obtain ⟨ob,h1,h2,h3⟩:=id hit
  unfold pyNext
  refine wpAny_bind (wpAny_attempt (wpAny_callSpecial?_slot (name:=Str.ofString "__next__") (z1q hit) sl_sit_next (wpAny_call_entry sl_sit_next (z1q hit) z2J ?_ (z2C _))))
  unfold Builtin.«set_iterator.__next__»
  refine wpAny_bind (wpAny_pure ?_)
  refine wpAny_bind (wpAny_fieldsOf h1 h3 ?_)
  dsimp only
  refine wpAny_bind (z2r hs hf ?_)
  rw [if_neg (by simp)]
  refine wpAny_bind (ht _ _ _ ?_)
  dsimp only
  rw [Int.toNat_natCast,hp]
  dsimp only
  refine wpAny_bind (wpAny_setField h1 h3 (by simp) ?_)
  have k1:=Heap.get?_update_self (Obj.mapFields (·.setIfInBounds 0 (rawInt 0))) h1 (Obj.isFreed_of_fields (Obj.data_mapFields h3 _))
  have k3:=Obj.data_mapFields h3 (·.setIfInBounds 0 (rawInt 0))
  refine wpAny_bind (wpAny_setField k1 k3 (by simp) ?_)
  refine wpAny_bind ?_
  simp only [newExc,newTuple]
  refine wpAny_bind (wpAny_newObj_type ?_ (by size_fits))
  refine wpAny_bind (m:=firstArgMember _ _) (wpAny_of_eq (a:=Value.none) (by first | rfl | (simp only [firstArgMember]; rfl)) ?_)
  refine wpAny_newObj_type ?_ (by size_fits)
  simp only [raiseNew]
  refine wpAny_bind (wpAny_handled ?_)
  rw [show A.in1.handled=none from hh]
  refine wpAny_bind (wpAny_pure (wpAny_throw ?_))
  refine wpAny_bind (wpAny_isInstance (T := "StopIteration") (b:=true) ⟨_,Heap.get?_push_size _ rfl,rfl⟩ isSubtype_stop ?_)
  exact wpAny_pure (hQ _ ((((Heap.SameBut.update ..).trans (Heap.SameBut.update ..)).extBut.push _).push _))
end
end PySem
namespace PySem
theorem z5o : Slot "set_iterator" "__iter__" "set_iterator.__iter__" :=
  .of (owner := "set_iterator") (n := "__iter__") (by rw [typeLookup_type,builtinLookup_eq_fast]; kernel_rfl) (by decide +kernel) (by decide +kernel) (by decide +kernel) (by first | exact .inl (by decide +kernel) | exact .inr (by decide +kernel)) (by rw [isSubtype_type]; kernel_rfl)
theorem z8L : entryFor table "set_iterator.__iter__" = some Builtin.«dict_keyiterator.__iter__»:=entryFor_alias (id' := "dict_keyiterator.__iter__") (by kernel_rfl) rfl (by decide +kernel) (by kernel_rfl)
theorem z8Y (a : Value) : argsOk "set_iterator.__iter__" ⟨[a],[]⟩:=by
  unfold argsOk
  rw [signature?_of (id := "set_iterator.__iter__") (n:=['_','_','r','e','t','i','_','_']) (o:=['r','o','t','a','r','e','t','i','_','t','e','s']) (by kernel_rfl) y5C]
  kernel_rfl
section
variable {prog : Program} {w : World} {A : Around} {E : Value->Shared->Prop} {s : Shared}
theorem z9O {I a : Addr} {f : Value} {i n ep : Nat} {Q : Value->Shared->Prop} (h : s.heap.SIt I a f i n ep) (q : Q (.ref I) s) : wpAny (model prog w) A (pyIter (.ref I)) Q E s:=by
  refine wpAny_pyIter_slot (z1q h) z5o (wpAny_call_entry z5o (z1q h) z8L ?_ (z8Y _))
  exact wpAny_pure ⟨_,rfl, "set_iterator",_,z1q h,sl_sit_next.lookup,q⟩
theorem y5Z {g g' : Heap} {I a : Addr} {f : Value} {i n ep : Nat} (h : g.SIt I a f i n ep) (k : ∀ o,g.get? I=some o->g'.get? I=some o) : g'.SIt I a f i n ep:=by
  obtain ⟨ob,h1,h2⟩:=h
  exact ⟨ob,k _ h1,h2⟩
theorem z5R {g g' : Heap} {a : Addr} {xs : Array (Int × Value)} {ep : Nat} {tb : SetTable} (h : g.SDt a xs ep tb) (k : ∀ o,g.get? a=some o->g'.get? a=some o) : g'.SDt a xs ep tb:=by
  obtain ⟨ob,h1,h2⟩:=h
  exact ⟨ob,k _ h1,h2⟩
theorem Walks.setA (hh : A.handled=none) (I a : Addr) (ne : a≠I) {xs : Array (Int × Value)} {ep : Nat} {tb : SetTable} (hf : tb.fits xs.size=true) (sl : Nat->Nat) (vs : List Value) (hl : vs.length=xs.size)
    (hn : ∀ i,i≤xs.size->∀ (s : Shared),s.heap.SDt a xs ep tb->∀ (A' : Around) (E' : Value->Shared->Prop) (Q' : Option (Value × Nat)->Shared->Prop),Q' ((vs[i]?).map fun v=>(v,sl (i + 1))) s->wpAny (model prog w) A' (setNext a (sl i) i ep) Q' E' s) :
    Walks prog w A I [I,a] [I] xs.size (fun i v=>vs[i]? = some v) (fun i g=>g.SIt I a (.int (sl i) 0) i xs.size ep∧g.SDt a xs ep tb) where
  sub:=fun b hb=>by simp at hb; simp [hb]
  frame:=fun _ _ _ st k=>⟨y5Z st.1 fun o e=>k I (by simp) o e,z5R st.2 fun o e=>k a (by simp) o e⟩
  item:=fun i s Q E hi st hQ=>by
    obtain ⟨v,hv⟩ : ∃ v,vs[i]? = some v:=⟨vs[i],List.getElem?_eq_getElem (by omega)⟩
    refine y5e st.1 st.2 hf (fun A' E' Q' q=>hn i (by omega) s st.2 A' E' Q' (by rw [hv]; exact q)) fun g' k1 k2=>?_
    exact hQ v g' s.toks hv ⟨k1,z5R st.2 fun o e=>k2.extBut a o ne e⟩ fun b o hb e=>k2.extBut b o (fun h=>hb (by simp [h])) e
  done:=fun s Q E st hQ=>sit_end hh st.1 st.2 hf (fun A' E' Q' q=>hn xs.size (Nat.le_refl _) s st.2 A' E' Q' (by rw [List.getElem?_eq_none (by omega)]; exact q)) fun g' k=>hQ g' s.toks fun b o hb e=>k b o (fun h=>hb (by simp [h])) e
  self:=fun _ _ _ _ st q=>z9O st.1 q
theorem Walks.setB (hh : A.handled=none) (I a tp : Addr) (ne : a≠I) (ne2 : tp≠I) {xs : Array (Int × Value)} {ep : Nat} {tb : SetTable} (hf : tb.fits xs.size=true) (ps : List Nat) (hl : ps.length=xs.size) (hp : ∀ p∈ps,p < xs.size) :
    Walks prog w A I [I,a,tp] [I] xs.size (fun i v=>(ps.filterMap fun p=>(xs[p]?).map (·.2))[i]? = some v) (fun i g=>g.SIt I a (.ref tp) i xs.size ep∧g.SDt a xs ep tb∧∃ ob n,g.get? tp=some ob∧ob.data = .seq (ps.map fun (p : Nat)=>Value.int p 0).toArray n) where
  sub:=fun b hb=>by simp at hb; simp [hb]
  frame:=fun _ _ _ st k=>⟨y5Z st.1 fun o e=>k I (by simp) o e,z5R st.2.1 fun o e=>k a (by simp) o e,by
    obtain ⟨ob,n,e1,e2⟩:=st.2.2
    exact ⟨ob,n,k tp (by simp) _ e1,e2⟩⟩
  item:=fun i s Q E hi st hQ=>by
    obtain ⟨ob,n,e1,e2⟩:=st.2.2
    have hi' : i < ps.length:=by omega
    have hpi:=hp ps[i] (List.getElem_mem hi')
    refine y0o (p:=ps[i]) (x:=xs[ps[i]]) st.1 st.2.1 hf (fun A' E' Q' q=>wpAny_seqItems e1 e2 q) (by simp [hi']) (Array.getElem?_eq_getElem hpi) fun g' k1 k2=>?_
    refine hQ _ g' s.toks ?_ ⟨k1,z5R st.2.1 fun o e=>k2.extBut a o ne e,ob,n,k2.extBut tp ob ne2 e1,e2⟩ fun b o hb e=>k2.extBut b o (fun h=>hb (by simp [h])) e
    have em : (ps.filterMap fun p=>(xs[p]?).map (·.2))=ps.map fun p=>(xs[p]?.map (·.2)).getD .none:=by
      have gen : ∀ l : List Nat,(∀ p∈l,p < xs.size)->(l.filterMap fun p=>(xs[p]?).map (·.2))=l.map fun p=>(xs[p]?.map (·.2)).getD .none:=fun l=>by
        induction l with
        | nil=>exact fun _=>rfl
        | cons p l ih=>
          intro h
          rw [List.filterMap_cons,List.map_cons,Array.getElem?_eq_getElem (h p List.mem_cons_self),ih fun q hq=>h q (List.mem_cons_of_mem _ hq)]
          rfl
      exact gen ps hp
    rw [em,List.getElem?_map,List.getElem?_eq_getElem hi',Option.map_some,Array.getElem?_eq_getElem hpi]
    rfl
  done:=fun s Q E st hQ=>by
    obtain ⟨ob,n,e1,e2⟩:=st.2.2
    exact y1A hh st.1 st.2.1 hf (fun A' E' Q' q=>wpAny_seqItems e1 e2 q) (by simp; omega) fun g' k=>hQ g' s.toks fun b o hb e=>k b o (fun h=>hb (by simp [h])) e
  self:=fun _ _ _ _ st q=>z9O st.1 q
end
end PySem
namespace PySem
open Sem (wp)
theorem y0L : typeLookup (.type "set") "__len__" = pure (some (.builtin "set.__len__")):=by rw [typeLookup_type,builtinLookup_eq_fast]; kernel_rfl
section
variable {K : Type} [DecidableEq K] {prog : Program} {w : World} {knd : KeyKind prog w K} {A : Around} {E : Value->Shared->Prop} {s : Shared}
theorem z4S {a : Addr} {S : K->Bool} {n : Nat} (h : s.heap.SetW knd a S n) : s.TypeIs (.ref a) "set" := by
  obtain ⟨ob,xs,ep,tb,g1,g2,_⟩:=h
  exact ⟨ob,g1,g2.1⟩
theorem y2f {g g' : Heap} {a : Addr} {S : K->Bool} {n : Nat} (h : g.SetW knd a S n) (k : ∀ o,g.get? a=some o->g'.get? a=some o) : g'.SetW knd a S n:=by
  obtain ⟨ob,xs,ep,tb,g1,r⟩:=h
  exact ⟨ob,xs,ep,tb,k _ g1,r⟩
theorem y3Q {a : Addr} {S : K->Bool} {n : Nat} {Q : Value->Shared->Prop} (hS : s.heap.SetW knd a S n)
    (hQ : ∀ (g : Heap) (dr : Drawn) (I : Addr) (fp : List Addr) (vs : List Value) (St : Nat->Heap->Prop),(∀ b o,s.heap.get? b=some o->g.get? b=some o)->s.heap.objs.size≤I->(∀ b∈fp,b=a∨s.heap.objs.size≤b) →
      (∀ A' : Around,A'.handled=none->Walks prog w A' I fp [I] n (fun i v=>vs[i]? = some v) St)->St 0 g->vs.length=n->(∀ k,S k=true↔∃ v∈vs,knd.is k v=true)->(∀ v∈vs,∃ k,knd.is k v=true)->Q (.ref I) { s with heap:=g,drawn:=dr }) :
    wpAny (model prog w) A (pyIter (.ref a)) Q E s:=by
  have hT:=z4S hS
  obtain ⟨ob,xs,ep,tb,g1,g2,g3,g4,g5,g6,g7,g8,g9⟩:=hS
  have hlt : (a : Nat) < s.heap.objs.size:=Heap.lt_size g1
  have sd : s.heap.SDt a xs ep tb:=⟨ob,g1,g3⟩
  have mem : ∀ vs : List Value,vs.Perm (xs.toList.map (·.2))->vs.length=n∧(∀ k,S k=true↔∃ v∈vs,knd.is k v=true)∧∀ v∈vs,∃ k,knd.is k v=true:=fun vs hp=>by
    refine ⟨by rw [hp.length_eq]; simpa using g8,fun k=>?_,fun v hv=>?_⟩
    · rw [g5 k]
      constructor
      · rintro ⟨e,he,q⟩
        exact ⟨e.2,hp.mem_iff.mpr (List.mem_map_of_mem he),q⟩
      · rintro ⟨v,hv,q⟩
        obtain ⟨e,he,rfl⟩:=List.mem_map.mp (hp.mem_iff.mp hv)
        exact ⟨e,he,q⟩
    · obtain ⟨e,he,rfl⟩:=List.mem_map.mp (hp.mem_iff.mp hv)
      obtain ⟨⟨k,q,_⟩,_⟩:=g4 e he
      exact ⟨k,q⟩
  refine wpAny_pyIter_slot hT F.slot_set_iter (wpAny_call_entry F.slot_set_iter hT z9a ?_ (F.args_set_iter_1 _))
  unfold Builtin.«frozenset.__iter__»
  refine wpAny_bind (m:=Builtin.Frozenset.slot0 "__iter__" _) (wpAny_bind (wpAny_pure (wpAny_pure ?_)))
  refine wpAny_bind (m:=Builtin.Frozenset.sizeOf a) (wpAny_bind (z2r sd g7 (wpAny_pure ?_)))
  refine wpAny_bind ?_
  unfold setDrawn
  refine wpAny_bind (wpAny_setState_of g1 g3 g7 ?_)
  dsimp only
  unfold setsByText
  refine wpAny_bind (wpAny_bind (wpAny_askSetting (wpAny_pure ?_)))
  refine wpAny_pure ?_
  show wpAny _ _ (if (!w.params.followText "set-order" && (!tb.plain && decide (xs.size > 1)))=true then _ else _) _ _ s
  have plainCase : ∀ (sl : Nat->Nat) (vs : List Value),sl 0=0->vs.Perm (xs.toList.map (·.2)) →
      (∀ i,i≤xs.size->∀ (s : Shared),s.heap.SDt a xs ep tb->∀ (A' : Around) (E' : Value->Shared->Prop) (Q' : Option (Value × Nat)->Shared->Prop),Q' ((vs[i]?).map fun v=>(v,sl (i + 1))) s->wpAny (model prog w) A' (setNext a (sl i) i ep) Q' E' s) →
      Q (.ref s.heap.objs.size) { s with heap:=s.heap.push { cls:=.type "set_iterator",data:=.fields #[.int 0 0,.int 0 0,.ref a,.int xs.size 0,.int ep 0] } }:=fun sl vs h0 hp hn=>by
    obtain ⟨z1,z2,z3⟩:=mem vs hp
    have ne : a≠s.heap.objs.size:=Nat.ne_of_lt hlt
    refine hQ _ s.drawn s.heap.objs.size [s.heap.objs.size,a] vs (fun i g=>g.SIt s.heap.objs.size a (.int (sl i) 0) i xs.size ep∧g.SDt a xs ep tb) (fun b o e=>Heap.get?_push_of_some _ e) (Nat.le_refl _) (fun b hb=>?_) (fun A' hh=>?_) ?_ z1 z2 z3
    · rcases List.mem_cons.mp hb with z | z
      · exact .inr (Nat.le_of_eq z.symm)
      · exact .inl (List.mem_singleton.mp z)
    · have W:=Walks.setA (prog:=prog) (w:=w) (A:=A') hh s.heap.objs.size a ne g7 sl vs (by omega) hn
      rw [g8] at W ⊢
      exact W
    · refine ⟨⟨_,Heap.get?_push_size _ rfl,rfl,?_⟩,z5R sd fun o e=>Heap.get?_push_of_some _ e⟩
      rw [h0]
      rfl
  by_cases ht : w.params.followText "set-order" = true
  · rw [if_neg (by rw [ht]; simp)]
    refine wpAny_bind (wpAny_pure ?_)
    refine wpAny_bind (wpAny_setEpoch_of g1 g3 g7 ?_)
    refine wpAny_bind (wpAny_newObj_type (wpAny_pure ⟨_,rfl, "set_iterator",_,⟨_,Heap.get?_push_size _ rfl,rfl⟩,sl_sit_next.lookup,?_⟩))
    refine plainCase (fun _=>0) ((pickOrder (w.params.setOrder a ep) xs).toList.map (·.2)) rfl ((y0E _ xs).map _) fun i hi s' sd' A' E' Q' q=>?_
    obtain ⟨o',e1,e3⟩:=sd'
    refine y2u e1 e3 g7 ht ?_
    rw [List.getElem?_map,Array.getElem?_toList,Option.map_map] at q
    exact q
  · have ht : w.params.followText "set-order" = false:=by simpa using ht
    have ti : TI tb:=g9.resolve_left (by rw [ht]; exact Bool.false_ne_true)
    cases hd : (!tb.plain && decide (xs.size > 1)) with
    | false=>
      rw [if_neg (by simp)]
      have hu : SetTable.Up tb.place:=by
        have hp : tb.place.size=xs.size:=by
          unfold SetTable.fits at g7
          rw [Bool.and_eq_true] at g7
          exact eq_of_beq g7.1
        cases hpl : tb.plain with
        | true=>exact ti.2 hpl
        | false=>
          rw [hpl] at hd
          have h1 : ¬ xs.size > 1:=by simpa using hd
          unfold SetTable.Up
          have h2 : tb.place.toList.length≤1:=by simp; omega
          match hl : tb.place.toList with
          | []=>exact .nil
          | [x]=>exact List.pairwise_singleton _ _
          | _ :: _ :: _=>rw [hl] at h2; simp at h2
      refine wpAny_bind (wpAny_pure ?_)
      refine wpAny_bind (wpAny_setEpoch_of g1 g3 g7 ?_)
      refine wpAny_bind (wpAny_newObj_type (wpAny_pure ⟨_,rfl, "set_iterator",_,⟨_,Heap.get?_push_size _ rfl,rfl⟩,sl_sit_next.lookup,?_⟩))
      refine plainCase (slP tb) (xs.toList.map (·.2)) rfl (.refl _) fun i hi s' sd' A' E' Q' q=>?_
      obtain ⟨o',e1,e3⟩:=sd'
      refine y0Q e1 e3 g7 ht hd ti.1 hu hi ?_
      rw [List.getElem?_map,Array.getElem?_toList,Option.map_map] at q
      exact q
    | true=>
      rw [if_pos (by rw [ht]; rfl)]
      refine wpAny_bind (z5y xs.size (List.range xs.size) s (by simp) fun ys dr hp=>?_)
      refine wpAny_bind (wpAny_newObj_type ?_ ?_)
      · have e1 : ({ s with drawn:=dr,heap:=s.heap.push { cls:=.type "tuple",data:=.seq (ys.map fun (i : Nat)=>rawInt i).toArray } } : Shared).heap.get? a=some ob:=Heap.get?_push_of_some _ g1
        refine wpAny_bind (wpAny_setEpoch_of e1 g3 g7 ?_)
        refine wpAny_bind (wpAny_newObj_type (wpAny_pure ⟨_,rfl, "set_iterator",_,⟨_,Heap.get?_push_size _ rfl,rfl⟩,sl_sit_next.lookup,?_⟩))
        obtain ⟨gT,eT⟩ : ∃ gT : Heap,gT=s.heap.push { cls:=.type "tuple",data:=.seq (ys.map fun (i : Nat)=>rawInt i).toArray }:=⟨_,rfl⟩
        have sT : gT.objs.size=s.heap.objs.size + 1:=by rw [eT]; exact Heap.size_push ..
        have oT : gT.get? s.heap.objs.size=some { cls:=.type "tuple",data:=.seq (ys.map fun (i : Nat)=>rawInt i).toArray }:=by rw [eT]; exact Heap.get?_push_size _ rfl
        have old : ∀ b o,s.heap.get? b=some o->gT.get? b=some o:=fun b o e=>by rw [eT]; exact Heap.get?_push_of_some _ e
        have hyl : ys.length=xs.size:=by simpa using hp.length_eq
        have hyp : ∀ p∈ys,p < xs.size:=fun p hp'=>List.mem_range.mp (hp.mem_iff.mp hp')
        have hvp : (ys.filterMap fun p=>(xs[p]?).map (·.2)).Perm (xs.toList.map (·.2)):=by
          refine (hp.filterMap _).trans ?_
          rw [← filterMap_getElem?_range xs,List.map_filterMap]
        obtain ⟨z1,z2,z3⟩:=mem _ hvp
        have ne : a≠gT.objs.size:=Nat.ne_of_lt (by rw [sT]; exact Nat.lt_succ_of_lt hlt)
        have ne2 : s.heap.objs.size≠gT.objs.size:=Nat.ne_of_lt (by rw [sT]; exact Nat.lt_succ_self _)
        rw [← eT]
        refine hQ _ dr gT.objs.size [gT.objs.size,a,s.heap.objs.size] (ys.filterMap fun p=>(xs[p]?).map (·.2)) (fun i g=>g.SIt gT.objs.size a (.ref s.heap.objs.size) i xs.size ep∧g.SDt a xs ep tb∧∃ ob n,g.get? s.heap.objs.size=some ob∧ob.data = .seq (ys.map fun (p : Nat)=>Value.int p 0).toArray n) (fun b o e=>Heap.get?_push_of_some _ (old b o e)) (by rw [sT]; exact Nat.le_succ _) (fun b hb=>?_) (fun A' hh=>?_) ?_ z1 z2 z3
        · simp only [List.mem_cons,List.not_mem_nil,or_false] at hb
          rcases hb with z | z | z
          · exact .inr (by rw [z,sT]; exact Nat.le_succ _)
          · exact .inl z
          · exact .inr (Nat.le_of_eq z.symm)
        · have W:=Walks.setB (ep:=ep) (prog:=prog) (w:=w) (A:=A') hh gT.objs.size a s.heap.objs.size ne ne2 g7 ys hyl hyp
          rw [g8] at W ⊢
          exact W
        · exact ⟨⟨_,Heap.get?_push_size _ rfl,rfl,rfl⟩,z5R sd fun o e=>Heap.get?_push_of_some _ (old a o e),_,_,Heap.get?_push_of_some _ oT,rfl⟩
      · show (ys.map fun (i : Nat)=>rawInt i).toArray.size≤sizeLine
        have hyl : ys.length=xs.size:=by simpa using hp.length_eq
        have : scanBound≤sizeLine:=by rw [sizeLine_eq]; decide
        simp
        omega
theorem z8G {a : Addr} {S : K->Bool} {n : Nat} {Q : List Value->Shared->Prop} (hh : A.in1.handled=none) (hS : s.heap.SetW knd a S n) (hn : n≤sizeLine)
    (fin : ∀ (g : Heap) (dr : Drawn) (tk : Nat) (acc : List Value),(∀ b o,s.heap.get? b=some o->g.get? b=some o)->acc.length=n->(∀ k,S k=true↔∃ v∈acc,knd.is k v=true)->(∀ v∈acc,∃ k,knd.is k v=true)->Q acc { s with heap:=g,drawn:=dr,toks:=tk }) : wpAny (model prog w) A (collect (.ref a)) Q E s:=by
  have hlt : (a : Nat) < s.heap.objs.size:=by
    obtain ⟨ob,xs,ep,tb,g1,_⟩:=hS
    exact Heap.lt_size g1
  have hSa : s.heap.objs.size≠a:=fun e=>Nat.lt_irrefl _ (e ▸ hlt)
  unfold collect
  refine wpAny_bind (wpAny_runValue (codeAny_builtin F.entry_proto_collect ?_))
  rw [Around.under_plainId F.plain_proto_collect _]
  show wpAny _ A.in1 (newList [] >>= fun l=>again (.builtin "list.__iadd__" ⟨[l,.ref a],[]⟩)) _ _ s
  refine wpAny_bind (wpAny_newObj_type ?_)
  refine wpAny_pure ⟨plainId_quiet F.plain_list_iadd _,codeAny_builtin F.entry_list_iadd ?_⟩
  rw [Around.under_plainId F.plain_list_iadd _]
  obtain ⟨gA,eA⟩ : ∃ gA : Heap,gA=s.heap.push { cls:=.type "list",data:=.seq ([] : List Value).toArray }:=⟨_,rfl⟩
  have sA : gA.objs.size=s.heap.objs.size + 1:=by rw [eA]; exact Heap.size_push ..
  rw [← eA]
  have w1 : gA.SetW knd a S n:=y2f hS fun o e=>by rw [eA]; exact Heap.get?_push_of_some _ e
  have t1 : ({ s with heap:=gA } : Shared).TypeIs (.ref a) "set" := z4S w1
  have f1 : Builtin.List.listSameRef (.ref s.heap.objs.size) (.ref a)=false:=by simp [Builtin.List.listSameRef,hSa]
  have oA : gA.get? s.heap.objs.size=some { cls:=.type "list",data:=.seq ([] : List Value).toArray }:=by rw [eA]; exact Heap.get?_push_size _ rfl
  show wpAny _ A.in1 (Builtin.List.listExtendWith (.ref s.heap.objs.size) (.ref a) (.ref s.heap.objs.size)) _ _ _
  unfold Builtin.List.listExtendWith
  refine wpAny_bind (wpAny_typeOf t1 ?_)
  rw [if_neg (by rw [f1]; decide)]
  refine wpAny_bind (y3Q (s:={ s with heap:=gA }) w1 fun gB dr I fp vs St kB hI hfp W0 st0 z1 z2 z3=>?_)
  refine wpAny_bind (wpAny_holding ?_)
  unfold Builtin.List.listLengthHint
  have t2 : ({ s with heap:=gB,drawn:=dr } : Shared).TypeIs (.ref a) "set" := z4S (y2f w1 fun o e=>kB a o e)
  refine wpAny_bind (wpAny_specialOf t2 y0L ?_)
  (generalize hid : ("set.__len__" : String)=id0; (fail_if_success (clear hid id0)); wp_delta; rw [show splitId id0=some ("set", "__len__") from by subst hid; decide +kernel]; subst hid)
  refine wpAny_bind (wpAny_isInstance (b:=true) t2 (by rw [isSubtype_type]; kernel_rfl) ?_)
  show wpAny _ A.in1 (typeOf (Value.ref a) >>= _) _ _ _
  refine wpAny_bind (wpAny_typeOf t2 ?_)
  refine wpAny_pure ?_
  show wpAny _ A.in1 (rule "list.extend.makes-room" >>= fun _=>Builtin.List.listTouch (.ref s.heap.objs.size) >>= fun _=>again (.builtin "list.extend.loop" ⟨[.ref s.heap.objs.size,.ref I,.ref s.heap.objs.size],[]⟩)) _ _ _
  refine wpAny_bind (wpAny_rule ?_)
  have W:=(W0 A.in1 hh).toS
  have oB : gB.get? s.heap.objs.size=some { cls:=.type "list",data:=.seq ([] : List Value).toArray }:=kB _ _ oA
  have hSf : s.heap.objs.size ∉ fp:=fun z=>by
    rcases hfp _ z with q | q
    · exact hSa q
    · rw [sA] at q
      exact absurd q (Nat.not_succ_le_self _)
  refine wpAny_bind ?_
  show wpAny _ A.in1 (updateSeq s.heap.objs.size (·.push .none) >>= fun _=>updateSeq s.heap.objs.size (·.pop)) _ _ _
  refine wpAny_bind (wpAny_updateSeq oB rfl ?_)
  have oC:=Heap.get?_update_self (Obj.mapSeq (·.push Value.none)) oB rfl
  refine wpAny_updateSeq oC rfl ?_
  have oD:=Heap.get?_update_self (Obj.mapSeq (·.pop)) oC rfl
  have oth : ∀ b o,b≠s.heap.objs.size->gB.get? b=some o->((gB.update s.heap.objs.size (Obj.mapSeq (·.push Value.none))).update s.heap.objs.size (Obj.mapSeq (·.pop))).get? b=some o:=fun b o hb e=>(Heap.get?_update_other _ _ (Ne.symm hb)).trans ((Heap.get?_update_other _ _ (Ne.symm hb)).trans e)
  refine wpAny_pure ⟨plainId_quiet F.plain_extend_loop _,codeAny_extend_loopS W hn _ hSf _ n 0 _ _ _ rfl (Nat.zero_le _) (W.frame 0 ({ s with heap:=gB,drawn:=dr } : Shared) _ s.toks st0 (Nat.le_refl _) fun b hb o e=>oth b o (fun h=>hSf (h ▸ hb)) e) oD (ItemsOf.nil _) fun s' acc c' mv hS' hacc=>?_⟩
  show wpAny _ A (load s.heap.objs.size >>= _) _ _ s'
  refine wpAny_bind (wpAny_load hS' ?_)
  have ea : acc.toList=vs:=by
    apply List.ext_getElem?
    intro i
    by_cases hi : i < n
    · have hi' : i < acc.size:=by rw [hacc.1]; exact hi
      have:=hacc.2 i acc[i] (Array.getElem?_eq_getElem hi')
      rw [this,Array.getElem?_toList,Array.getElem?_eq_getElem hi']
    · rw [List.getElem?_eq_none (by rw [Array.length_toList,hacc.1]; omega),List.getElem?_eq_none (by omega)]
  obtain ⟨g',gs,dr',tk',os'⟩:=s'
  have eg : gs=s.gens:=mv.gens
  have eo : os'=s.os:=mv.os
  subst eg; subst eo
  refine wpAny_pure ?_
  refine fin g' dr' tk' acc.toList (fun b o e=>?_) (by rw [ea]; exact z1) (by rw [ea]; exact z2) (by rw [ea]; exact z3)
  have hb : (b : Nat) < s.heap.objs.size:=Heap.lt_size e
  refine mv.heap b o (fun z=>?_) (oth b o (Nat.ne_of_lt hb) (kB b o (by rw [eA]; exact Heap.get?_push_of_some _ e)))
  rcases List.mem_cons.mp z with z | z
  · exact Nat.ne_of_lt hb z
  · rw [List.mem_singleton] at z
    rw [z] at hb
    rw [sA] at hI
    exact absurd (Nat.lt_of_lt_of_le hb (Nat.le_of_succ_le hI)) (Nat.lt_irrefl _)
end
end PySem
namespace L2
open PySem PySem.Spec PyProof.Rows
noncomputable def ddI (ns : List Int) : List Int:=ns.foldl (fun acc n=>if acc.any (· == n) then acc else acc ++ [n]) []
theorem y4W (ns : List Int) : firstMet (fun i=>ns.getD i 0) ns.length=ddI ns:=by
  unfold firstMet ddI
  have e : (List.range ns.length).map (fun i=>ns.getD i 0)=ns:=by
    apply List.ext_getElem
    · simp
    · intro i h1 h2
      simp [List.getD,List.getElem?_eq_getElem h2]
  rw [e]
  rfl
theorem z6M : ∀ (ns acc : List Int),acc.Nodup->(ns.foldl (fun acc n=>if acc.any (· == n) then acc else acc ++ [n]) acc).Nodup∧∀ x,x∈ns.foldl (fun acc n=>if acc.any (· == n) then acc else acc ++ [n]) acc↔x∈acc∨x∈ns
  | [],acc,h=>⟨h,fun x=>by simp⟩
  | n :: ns,acc,h=>by
    rw [List.foldl_cons]
    by_cases hn : acc.any (· == n)=true
    · rw [if_pos hn]
      obtain ⟨a,b⟩:=z6M ns acc h
      refine ⟨a,fun x=>?_⟩
      rw [b x,List.mem_cons]
      have : n∈acc:=by simpa using hn
      constructor
      · rintro (z | z)
        · exact .inl z
        · exact .inr (.inr z)
      · rintro (z | z | z)
        · exact .inl z
        · exact .inl (z ▸ this)
        · exact .inr z
    · rw [if_neg hn]
      have hn' : n ∉ acc:=by simpa using hn
      obtain ⟨a,b⟩:=z6M ns (acc ++ [n]) (List.nodup_append.mpr ⟨h,by simp,fun x hx y hy z=>by rw [List.mem_singleton] at hy; subst hy; exact hn' (z ▸ hx)⟩)
      refine ⟨a,fun x=>?_⟩
      rw [b x,List.mem_append,List.mem_singleton,List.mem_cons,or_assoc]
theorem z6t (ns : List Int) : (ddI ns).Nodup:=(z6M ns [] List.nodup_nil).1
theorem dd_mem {ns : List Int} {x : Int} : x∈ddI ns↔x∈ns:=by
  have:=(z6M ns [] List.nodup_nil).2 x
  unfold ddI
  rw [this]
  simp
theorem z5g : ∀ {l o : List Int},l.Nodup->(∀ x∈l,x∈o)->l.length=o.length->l.Perm o
  | [],o,_,_,h=>by
    have : o=[]:=List.eq_nil_of_length_eq_zero (by simpa using h.symm)
    rw [this]
  | x :: l,o,nd,sub,h=>by
    have hx:=sub x List.mem_cons_self
    have nd':=List.nodup_cons.mp nd
    have p:=List.perm_cons_erase hx
    have hl : (o.erase x).length + 1=o.length:=by
      have:=p.length_eq
      simpa using this.symm
    refine ((z5g nd'.2 (fun y hy=>?_) (by simp at h; omega)).cons x).trans p.symm
    have hy':=p.mem_iff.mp (sub y (List.mem_cons_of_mem _ hy))
    rcases List.mem_cons.mp hy' with z | z
    · exact absurd (z ▸ hy) nd'.1
    · exact z
theorem z7f {prog : Program} {w : World} : ∀ {vs : List Value},(∀ v∈vs,∃ k,(intKind prog w).is k v=true)->∃ ms : List Int,IntsAre vs ms∧∀ k,k∈ms↔∃ v∈vs,(intKind prog w).is k v=true
  | [],_=>⟨[],.nil,fun k=>by simp⟩
  | v :: vs,h=>by
    obtain ⟨ms,h1,h2⟩:=z7f (prog:=prog) (w:=w) fun u hu=>h u (List.mem_cons_of_mem _ hu)
    obtain ⟨k,hk⟩:=h v List.mem_cons_self
    obtain ⟨t,rfl⟩:=Value.isInt_shape (show Value.isInt k v=true from hk)
    refine ⟨k :: ms,.cons k t h1,fun k'=>?_⟩
    rw [List.mem_cons,h2 k']
    constructor
    · rintro (z | ⟨u,hu,q⟩)
      · exact ⟨_,List.mem_cons_self,z ▸ hk⟩
      · exact ⟨u,List.mem_cons_of_mem _ hu,q⟩
    · rintro ⟨u,hu,q⟩
      rcases List.mem_cons.mp hu with z | z
      · subst z
        exact .inl ((intKind prog w).inj _ _ _ q hk)
      · exact .inr ⟨u,z,q⟩
section
variable {prog : Program} {w : World} {A : Around} {E : Value->Shared->Prop} {s : Shared}
theorem z9g {a : Addr} {ns : List Int} {Q : Value->Shared->Prop} (hh : A.handled=none) (hS : s.heap.SetW (intKind prog w) a (fun z=>(ddI ns).any (· == z)) (ddI ns).length) (h64 : (ddI ns).length < 64)
    (h : ∀ (g1 g' : Heap) (dr : Drawn) (tk : Nat) (out : List Value) (e : Nat),(∀ b o',s.heap.get? b=some o'->g1.get? b=some o')->(∀ b o',g1.get? b=some o'->g'.get? b=some o')->g'.get? g1.objs.size=some { cls:=.type "list",data:=.seq out.toArray e }->IntsAre out (z4I (ddI ns))->Q (.ref g1.objs.size) { s with heap:=g',drawn:=dr,toks:=tk }) :
    wpAny (model prog w) A (call (.builtin "sorted") [.ref a]) Q E s:=by
  refine Calls.call_function_entry kind_sorted plain_sorted entry_sorted (args_sorted1 _) ?_
  unfold Builtin.«sorted»
  refine wpAny_bind (m:=checkCount "sorted" 1 1 _) (wpAny_pure ?_)
  refine wpAny_bind (z8G hh hS (by rw [sizeLine_eq]; omega) fun g1 dr tk acc k1 z1 z2 z3=>?_)
  obtain ⟨ms,i1,i2⟩:=z7f z3
  have hml : ms.length=acc.length:=i1.length.symm
  have pm : ms.Perm (ddI ns):=by
    refine (z5g (z6t ns) (fun x hx=>?_) (by omega)).symm
    rw [i2 x,← z2 x]
    simpa using hx
  refine wpAny_bind (wpAny_newList ?_)
  have oL : (g1.push (seqObj "list" acc.toArray 0)).get? g1.objs.size=some (seqObj "list" acc.toArray 0):=Heap.get?_push_size _ rfl
  show wpAny _ _ _ _ _ { s with heap:=g1.push (seqObj "list" acc.toArray 0),drawn:=dr,toks:=tk }
  refine wpAny_bind (wpAny_holding (wpAny_call_entry slot_list_sort ⟨_,oL,rfl⟩ entry_list_sort (list_sort_tree oL i1 (by omega) fun out ns' a1 a2 a3=>⟨_,rfl,?_⟩) (args_list_sort _)))
  obtain ⟨e,he⟩:=sortedHeap_at (out:=out) oL
  have es:=z3z (a2.trans pm) a3
  subst es
  refine wpAny_pure ⟨_,rfl,h g1 _ dr tk out.toList e k1 (fun b o' hb=>?_) (by simpa [seqObj] using he) a1⟩
  have hlt : b < g1.objs.size:=Heap.lt_size hb
  rw [sortedHeap_old (Nat.ne_of_lt hlt) (by rw [size_push']; exact Nat.lt_succ_of_lt hlt)]
  exact Heap.get?_push_of_some _ hb
end
section
variable {X : Cx} {e : Expr} {te : TE} {p p' pos pos' : Pos}
theorem Inv.draw {pins : List (Addr × Obj)} {σ : List (Option V)} {H : Hp} {s : Shared} (I : Inv X pins σ H s) (dr : Drawn) : Inv X pins σ H { s with drawn:=dr }:=⟨I.ok,I.os,I.bare,I.base,I.loc,I.cell,I.free,I.freeC,I.pin,I.hok,I.len⟩
theorem y5q : bootBuiltins "set" = some (.type "set"):=by kernel_rfl
noncomputable def tSS (K : PySem.W.Frag) (te : TE) : TE:=fun σ H Q=>te σ H fun x H1=>∃ (q : Addr) (ns : List Int),x = .ref q∧SqL K H1 q (ns.map V.int)∧(ns.length≤1000∧(ddI ns).length < 64)∧∀ l,H1 l=none->Q (.ref l) (upd H1 l (.lst ((z4I (ddI ns)).map V.int)))
theorem y0j (hc : X.calm=true) (hg : Gl X "sorted") (hm : X.mg "sorted" = none) (hg' : Gl X "set") (hm' : X.mg "set" = none) (ha : PE X e te)
    (he : starEach [e] X.env=[(false,eval e X.env)]:=by rfl) (he' : starEach [.Call (.Name "set" p') [e] [] pos'] X.env=[(false,eval (.Call (.Name "set" p') [e] [] pos') X.env)]:=by rfl) :
    PE X (.Call (.Name "sorted" p) [.Call (.Name "set" p') [e] [] pos'] [] pos) (tSS X.K te):=by
  intro pins s σ H Q I h
  refine wpAny_Call_Name_kw (z3P I hg hm boot_sorted ?_)
  refine callWith_builtin1 ?_ he' rfl
  rw [he']
  show wpAny _ _ (spliced [(false,eval (.Call (.Name "set" p') [e] [] pos') X.env)]) _ _ s
  refine Calls.spliced_cons ?_
  refine wpAny_Call_Name_kw (z3P I hg' hm' y5q ?_)
  refine callWith_type1 ?_ he rfl
  rw [he]
  show wpAny _ _ (spliced [(false,eval e X.env)]) _ _ s
  refine Calls.spliced_cons (thn (ha pins s σ H _ I h) fun u s1 ⟨x,H1,I1,r1,q1⟩=>?_)
  refine Calls.spliced_nil ?_
  obtain ⟨q,ns,rfl,hq,h64,k⟩:=q1
  cases r1
  obtain ⟨its,rv,pl,hz⟩:=I1.list hq
  have hi:=y0q rv
  have hlen : its.length=ns.length:=by have:=rv.length; simpa using this.symm
  refine y3l (I1.ok.hd hc) pl.isList hi (by have:=h64.1; simp; unfold scanBound; omega) fun g' tk w1 w2=>?_
  refine Calls.spliced_nil ?_
  have esz : its.toArray.size=ns.length:=by simpa using hlen
  rw [esz,y4W] at w1
  have I2 : Inv X pins σ H1 { s1 with heap:=g',toks:=tk }:=I1.kept fun b o e=>w2 b o (Heap.lt_size e) e
  refine z9g (I2.ok.hd hc) w1 h64.2 fun g1 g2 dr tk' out e k1 k2 ho ho2=>?_
  have I3 : Inv X pins σ H1 { s1 with heap:=g1,toks:=tk,drawn:=dr }:=(I2.kept (t':=tk) k1).draw dr
  refine ⟨.ref g1.objs.size,_,Inv.laid (s:={ s1 with heap:=g1,toks:=tk,drawn:=dr }) (t':=tk') I3 k2 (Nat.le_refl _) (show ObjOk X.prog X.w _ g2 _ (.lst ((z4I (ddI ns)).map V.int)) from ⟨?_,out,e,y4m ho2,ho⟩),rfl,k _ (I3.hok.fresh (Nat.le_refl _))⟩
  have:=(z5h (ddI ns)).length_eq
  have:=h64.2
  rw [List.length_map,sizeLine_eq]
  omega
noncomputable def z7q : D->Option (List D)
  | .lst ds=>(z2H ds).bind fun ns=>if ns.length≤1000∧(ddI ns).length < 64 then some ((z4I (ddI ns)).map .int) else none
  | _=>none
noncomputable def z9i (f : DE) : DS->Option (List D):=fun δ=>(f δ).bind z7q
variable {f : DE}
theorem y0H (hc : X.calm=true) (hg : Gl X "sorted") (hm : X.mg "sorted" = none) (hg' : Gl X "set") (hm' : X.mg "set" = none) (ha : PD X e f)
    (he : starEach [e] X.env=[(false,eval e X.env)]:=by rfl) (he' : starEach [.Call (.Name "set" p') [e] [] pos'] X.env=[(false,eval (.Call (.Name "set" p') [e] [] pos') X.env)]:=by rfl) :
    PF X (.Call (.Name "sorted" p) [.Call (.Name "set" p') [e] [] pos'] [] pos) (z9i f):=(y0j hc hg hm hg' hm' ha he he').imp fun σ H Q z_=>by
  obtain ⟨B,δ,ds',hB,S,q,k⟩:=z_
  unfold z9i at q
  cases e1 : f δ with
  | none=>rw [e1] at q; cases q
  | some d=>
  rw [e1,Option.bind_some] at q
  refine ⟨B,δ,d,hB,S,e1,fun v H1 s1 r1=>?_⟩
  unfold z7q at q
  split at q
  · rename_i es
    cases e2 : z2H es with
    | none=>rw [e2] at q; cases q
    | some ns=>
      rw [e2,Option.bind_some] at q
      split at q
      · rename_i h64
        cases q
        unfold Rep at r1
        obtain ⟨a,xs,rfl,_,h,rs⟩:=r1
        rw [z7i e2 rs] at h
        exact ⟨a,ns,rfl,SqL.of h,h64,fun l hl=>k l _ _ (s1.trans (z0t hl)) (s1.free hl) z0m (z1K _)⟩
      · cases q
  · cases q
end
end L2
namespace L2
open PySem PySem.Spec PyProof.Rows
section
variable {X : Cx} {a b : Expr} {pos : Pos} {f g : DE}
end
end L2
namespace L2
open PySem PySem.Spec PyProof.Rows
section
variable {X : Cx} {e : Expr} {p p2 pos : Pos}
end
end L2
namespace L2
open PySem PySem.Spec PyProof.Rows
section
variable {X : Cx} {e : Expr} {te : TE} {p p' pos pos' : Pos}
variable {f : DE}
end
end L2
namespace L2
open PySem PySem.Spec PyProof.Rows
section
variable {X : Cx} {a b : Expr} {pos : Pos} {f g : DE}
end
end L2
namespace L2
open PySem PySem.Spec PyProof.Rows
section
variable {X : Cx} {c : Expr} {a b : List Stmt} {p2 pos : Pos} {H0 : Hp} {B0 : Addr->Prop} {fr : Bool} {RX : XR} {F : DS->Option XO} {g h : SS->Option Out}
end
end L2
namespace L2
open PySem PySem.Spec PyProof.Rows
section
variable {X : Cx} {x : Str} {C : Addr} {np cpos : Pos} {e₀ : Expr} {te : TE} {f : DE}
end
end L2
namespace L2
open PySem PySem.Spec PyProof.Rows
section
variable {X : Cx} {pos : Pos} {H0 : Hp} {B0 : Addr->Prop} {fr : Bool} {RX : XR} {F : DS->Option XO}
end
end L2
namespace L2
open PySem PySem.Spec PyProof.Rows
section
variable {P : Program} {w : World} {K : PySem.W.Frag} {mg : Str->Option Value} {base : Heap}
end
section
variable {X : Cx} {k : Nat} {x : Str} {p pos : Pos} {e e' : Expr} {es : List Expr}
variable {H0 : Hp} {B0 : Addr->Prop} {RX : XR} {a : Expr} {pos' : Pos}
end
end L2
namespace L2
open PySem PySem.Spec PyProof.Rows
section
variable {K : PySem.W.Frag} {H0 H : Hp} {B0 : Addr->Prop} {σ : St} {δ : SS} {R : Nat->List Addr}
noncomputable def givS (i j : Nat) (d : D) (δ : SS) : SS:=((z0w i (z0w j δ)).set j none).set i (some (.ow d))
theorem z6A {i j k : Nat} {d : D} {x : SD} (h : (givS i j d δ)[k]? = some (some x)) : (k=i∧x = .ow d)∨(k≠i∧k≠j∧δ[k]? = some (some x)∧(∀ d,x≠.bo i d)∧∀ d,x≠.bo j d):=by
  unfold givS at h
  rcases z1w h with ⟨e,q,hl⟩ | ⟨hk,q⟩
  · cases q
    exact .inl ⟨e,rfl⟩
  · rcases z1w q with ⟨e,q',_⟩ | ⟨hj,q'⟩
    · cases q'
    · obtain ⟨q1,n1⟩:=z1Q q'
      obtain ⟨q2,n2⟩:=z1Q q1
      exact .inr ⟨hk,hj,q2,n1,n2⟩
theorem RS.give {i j : Nat} {d d' : D} {a : Addr} {o : HO} {v : V} {A' : List Addr} (hij : i≠j) (h : RS K H0 B0 H σ δ R) (hi : δ[i]? = some (some (.ow d))) (hv : σ[i]? = some (some v)) (ha : a∈R i) (t : Tree K (upd H a o) d' v A') (nd : A'.Nodup) (sub : ∀ b∈A',b∈R i∨b∈R j) :
    RS K H0 B0 (upd H a o) σ (givS i j d' δ) (z4r (z4r R j []) i A')∧Stp R H (z4r (z4r R j []) i A') (upd H a o):=by
  obtain ⟨oa,ea,ma⟩:=h.held i a ha
  have mH : Mut (H a):=by rw [ea]; exact ma
  have mem : ∀ r b,b∈z4r (z4r R j []) i A' r->(r=i∧(b∈R i∨b∈R j))∨(r≠i∧r≠j∧b∈R r):=fun r b z=>by
    by_cases hr : r=i
    · subst hr; rw [z0y] at z; exact .inl ⟨rfl,sub b z⟩
    · rw [z0N hr] at z
      by_cases hj : r=j
      · subst hj; rw [z0y] at z; cases z
      · rw [z0N hj] at z; exact .inr ⟨hr,hj,z⟩
  have some' : ∀ r b,b∈z4r (z4r R j []) i A' r->∃ s,b∈R s:=fun r b z=>by
    rcases mem r b z with ⟨_,z | z⟩ | ⟨_,_,z⟩
    · exact ⟨i,z⟩
    · exact ⟨j,z⟩
    · exact ⟨r,z⟩
  have kt : KeepI K H (upd H a o):=(Keep.upd (K:=K) (B:=fun x=>x=a) rfl mH).i
  refine ⟨⟨fun b u q=>?_,h.inB,by simp [givS,z0w,h.len],fun r b z=>?_,fun r b z=>?_,fun r s b z z'=>?_,fun k d2 z=>?_,fun k r2 d2 z=>?_,fun k d2 z=>?_⟩,⟨fun b u q n=>?_,fun r b z=>.inl (some' r b z),fun b z=>?_⟩⟩
  · have ne : b≠a:=fun z=>by subst z; rw [h.new i b ha] at q; cases q
    rw [z0q ne]; exact h.keep b u q
  · obtain ⟨s,z⟩:=some' r b z
    exact h.new s b z
  · by_cases hr : r=i
    · subst hr; rw [z0y] at z; exact t.held d' b z
    · rcases mem r b z with ⟨e,_⟩ | ⟨_,_,z⟩
      · exact absurd e hr
      · have ne : b≠a:=fun q=>hr (h.disj r i b z (q ▸ ha))
        rw [z0q ne]; exact h.held r b z
  · rcases mem r b z with ⟨e1,z⟩ | ⟨n1,n1',z⟩ <;> rcases mem s b z' with ⟨e2,z'⟩ | ⟨n2,n2',z'⟩
    · rw [e1,e2]
    · rcases z with z | z
      · exact absurd (h.disj s i b z' z) n2
      · exact absurd (h.disj s j b z' z) n2'
    · rcases z' with z' | z'
      · exact absurd (h.disj r i b z z') n1
      · exact absurd (h.disj r j b z z') n1'
    · exact h.disj r s b z z'
  · rcases z6A z with ⟨_,q⟩ | ⟨_,_,q,_,_⟩
    · cases q
    · obtain ⟨w,e1,r⟩:=h.sh k d2 q
      refine ⟨w,e1,Rep.anti ?_ d2 (Rep.keep (.upd (.inr ⟨i,ha⟩) mH) d2 r)⟩
      rintro b (z | ⟨s,z⟩)
      · exact .inl z
      · exact .inr (some' s b z)
  · rcases z6A z with ⟨_,q⟩ | ⟨_,_,q,n1,n2⟩
    · cases q
    · have hr : i≠r2:=fun e=>n1 d2 (by rw [e])
      have hr' : j≠r2:=fun e=>n2 d2 (by rw [e])
      obtain ⟨w,e1,r⟩:=h.bo k r2 d2 q
      refine ⟨w,e1,Rep.anti ?_ d2 (Rep.keep (.upd (.inr ⟨i,hr,ha⟩) mH) d2 r)⟩
      rintro b (z | ⟨s,hs,z⟩)
      · exact .inl z
      · rcases mem s b z with ⟨_,z | z⟩ | ⟨_,_,z⟩
        · exact .inr ⟨i,hr,z⟩
        · exact .inr ⟨j,hr',z⟩
        · exact .inr ⟨s,hs,z⟩
  · rcases z6A z with ⟨e,q⟩ | ⟨n1,n2,q,_,_⟩
    · cases q
      subst e
      rw [z0y]
      exact ⟨v,hv,t,nd⟩
    · obtain ⟨w,e1,t',nd'⟩:=h.ow k d2 q
      rw [z0N n1,z0N n2]
      refine ⟨w,e1,Tree.keep kt d2 t' fun b hb u q=>?_,nd'⟩
      have ne : b≠a:=fun z=>by subst z; exact n1 (h.disj k i b hb ha)
      rw [z0q ne]; exact q
  · have ne : b≠a:=fun z=>n i (z ▸ ha)
    rw [z0q ne]; exact q
  · by_cases hb : b=a
    · subst hb; rw [z0m] at z; cases z
    · rw [z0q hb] at z; exact z
end
section
variable {X : Cx} {H0 : Hp} {B0 : Addr->Prop} {fr : Bool} {RX : XR} {e : Expr} {pos ap cp : Pos} {x : Str} {px : Pos}
noncomputable def appO (i j : Nat) : SS->Option Out:=fun δ=>match δ[j]?,δ[i]? with
  | some (some (.ow d)),some (some (.ow (.lst ds)))=>(z6y ds [d]).map fun ds'=>.nx (givS i j (.lst ds') δ)
  | _,_=>none
theorem s_appO {i j : Nat} (hij : i≠j) (hx : PE X (.Name x px) (z7K i)) (he : PE X e (z7K j)) (hbase : attributeBase (.Name x px) "append" X.env (eval (.Name x px) X.env)=eval (.Name x px) X.env:=by rfl)
    (hfew : ((backTo cp (starEach [e] X.env)).all (fun x=>!x.1) && (backToKw cp (keywordEach [] X.env)).all (fun x=>x.1.isSome) && decide ([e].length + ([] : List Keyword).length + (if ([] : List Keyword).isEmpty then 0 else 1) < 30))=true:=by rfl)
    (hline : (ap.endLine == cp.line)=true:=by rfl) (hs : starEach [e] X.env=(false,eval e X.env) :: starEach [] X.env:=by rfl) (hsw : swapsWith (.Call (.Attribute (.Name x px) "append" ap) [e] [] cp) none pos.line X.env=pure false:=by rfl) :
    PS X (.Expr (.Call (.Attribute (.Name x px) "append" ap) [e] [] cp) pos) (tS X.K H0 B0 fr RX (appO i j)):=
  PS.imp (z4X (y5l PySem.F.plainAttrs_list PySem.F.slot_list_append PySem.F.type_list_append z3K hx (z2a he pa_nil hs) hbase hfew hline hs rfl) hsw) fun D σ H z_=>by
    obtain ⟨δ,R,o,rs,q,k⟩:=z_
    unfold appO at q
    split at q
    case h_2=>cases q
    case h_1=>
    rename_i d ds ej ei
    cases e2 : z6y ds [d] with
    | none=>rw [e2] at q; cases q
    | some ds'=>
    rw [e2] at q
    cases q
    obtain ⟨a,xs,A,ev,ha,ts,eR,nd⟩:=rs.top ei
    obtain ⟨v,ev2,t2,nC⟩:=rs.ow j d ej
    refine ⟨.ref a,ev,.inl ⟨rfl,xs,SqL.of ha⟩,v,ev2,?_⟩
    show z6v (.ref a) [v] H fun _ H1=>D.nx σ H1
    refine z5i (K:=X.K) H a xs ds [d] [v] ds' _ ha ts.length (.one (t2.rep d (fun _ _ z=>z.elim))) e2 fun w xs' up=>?_
    obtain ⟨A',t',n',sub⟩:=up H A (R j) ts (.one t2)
    have hAC : (A ++ R j).Nodup:=List.nodup_append.mpr ⟨(List.nodup_cons.mp nd).2,nC,fun b hb c hc z=>by
      subst z
      exact hij (rs.disj i j b (by rw [eR]; exact List.mem_cons_of_mem _ hb) hc)⟩
    have haR : a∈R i:=by rw [eR]; exact List.mem_cons_self
    have mH : Mut (H a):=by rw [ha]; exact trivial
    have nA : ∀ b∈A',b≠a:=fun b hb z=>by
      rcases sub b hb with q | q
      · exact (List.nodup_cons.mp nd).1 (z ▸ q)
      · exact hij (rs.disj i j a haR (z ▸ q))
    have T : Tree X.K (upd H a (.lst xs')) (.lst ds') (.ref a) (a :: A'):=by
      unfold Tree
      refine ⟨a,xs',A',rfl,z0m,Trees.keep (Keep.upd (K:=X.K) (B:=fun x=>x=a) rfl mH).i ds' t' fun b hb o q=>?_,rfl⟩
      rw [z0q (nA b hb)]; exact q
    have P:=rs.give hij ei ev haR T (List.nodup_cons.mpr ⟨fun z=>nA a z rfl,n' hAC⟩) fun b hb=>by
      rcases List.mem_cons.mp hb with z | z
      · rw [z]; exact .inl haR
      · exact (sub b z).imp (fun q=>by rw [eR]; exact List.mem_cons_of_mem _ q) id
    exact k σ _ _ P.1 P.2
end
section
variable {X : Cx} {pos : Pos}
variable {H0 : Hp} {B0 : Addr->Prop} {fr : Bool} {RX : XR}
@[irreducible] def PSb (X : Cx) (st : Stmt) (t : TS) : Prop:=PS X st t
@[irreducible] def PSsb (X : Cx) (st : List Stmt) (t : TS) : Prop:=PSs X st t
end
section
variable {P : Program} {w : World} {K : PySem.W.Frag} {mg : Str->Option Value} {base : Heap}
end
end L2
namespace L2
open PySem PySem.Spec PyProof.Rows
section
variable {X : Cx} {H0 : Hp} {B0 : Addr->Prop} {fr : Bool} {RX : XR} {x : Str} {px p2 ap cp pos : Pos} {ke : Expr} {fk : DE}
end
end L2
namespace L2
open PySem PySem.Spec PyProof.Rows
section
variable {X : Cx} {H0 : Hp} {B0 : Addr->Prop} {fr : Bool} {RX : XR} {e : Expr} {f : DE} {pos ap cp : Pos} {x : Str} {px : Pos}
noncomputable def y2w (i : Nat) (f : DE) : SS->Option Out:=fun δ=>(f (z0v δ)).bind fun d=>(match d,δ[i]? with
  | .lst es,some (some (.ow (.lst ds)))=>if z1L es=true∧ds.length + es.length≤sizeLine then some (.nx ((z0w i δ).set i (some (.ow (.lst (ds ++ es)))))) else none
  | _,_=>none)
theorem y3c {i : Nat} (hx : PE X (.Name x px) (z7K i)) (he : PD X e f) (hbase : attributeBase (.Name x px) "extend" X.env (eval (.Name x px) X.env)=eval (.Name x px) X.env:=by rfl)
    (hfew : ((backTo cp (starEach [e] X.env)).all (fun x=>!x.1) && (backToKw cp (keywordEach [] X.env)).all (fun x=>x.1.isSome) && decide ([e].length + ([] : List Keyword).length + (if ([] : List Keyword).isEmpty then 0 else 1) < 30))=true:=by rfl)
    (hline : (ap.endLine == cp.line)=true:=by rfl) (hs : starEach [e] X.env=(false,eval e X.env) :: starEach [] X.env:=by rfl) (hsw : swapsWith (.Call (.Attribute (.Name x px) "extend" ap) [e] [] cp) none pos.line X.env=pure false:=by rfl) :
    PS X (.Expr (.Call (.Attribute (.Name x px) "extend" ap) [e] [] cp) pos) (tS X.K H0 B0 fr RX (y2w i f)):=
  PS.imp (z4X (y5l PySem.F.plainAttrs_list PySem.F.slot_list_extend PySem.F.type_list_extend y2P hx (z2a he pa_nil hs) hbase hfew hline hs rfl) hsw) fun D σ H z_=>by
    obtain ⟨δ,R,o,rs,q,k⟩:=z_
    unfold y2w at q
    cases e1 : f (z0v δ) with
    | none=>rw [e1] at q; cases q
    | some d=>
    rw [e1,Option.bind_some] at q
    split at q
    case h_2=>cases q
    case h_1 es ds ei=>
    split at q
    case isFalse=>cases q
    case isTrue hl=>
    cases q
    obtain ⟨a,xs,A,ev,ha,ts,eR,nd⟩:=rs.top ei
    refine ⟨.ref a,ev,.inl ⟨rfl,xs,SqL.of ha⟩,noB,z0v δ,_,.no,rs.all,e1,fun y H2 s2 r2=>?_⟩
    unfold Rep at r2
    obtain ⟨b,zs,rfl,_,hb,rz⟩:=r2
    refine ⟨a,b,xs,zs,rfl,rfl,s2 _ _ ha,hb,by rw [← ts.length,← rz.length]; exact hl.2,?_⟩
    have tz:=rz.immTree es hl.1
    have P:=rs.put0 s2 ei ev eR nd ((ts.mono s2).append tz) (by rw [List.append_nil]; exact (List.nodup_cons.mp nd).2) fun p hp=>.inl (by rw [List.append_nil] at hp; exact hp)
    exact k σ _ _ P.1 P.2
end
section
variable {X : Cx} {pos : Pos}
variable {H0 : Hp} {B0 : Addr->Prop} {fr : Bool} {RX : XR}
end
end L2
namespace L2
open PySem PySem.Spec PyProof.Rows
section
variable {X : Cx} {e : Expr} {f : DE} {y z : Str} {p p2 p3 p4 pos : Pos} {x1 : Nat} {L M1 M2 N : List Str}
end
end L2
namespace L2
open PySem PySem.Spec PyProof.Rows
section
variable {X : Cx} {o e : Expr} {apos cpos : Pos}
end
section
variable {X : Cx} {H0 : Hp} {B0 : Addr->Prop} {fr : Bool} {RX : XR} {e ke : Expr} {pos : Pos} {x : Str} {px p2 : Pos}
end
end L2
namespace L2
open PySem PySem.Spec PyProof.Rows
section
variable {X : Cx} {H0 : Hp} {B0 : Addr->Prop} {fr : Bool} {RX : XR} {pos : Pos}
end
end L2
namespace L2
open PySem PySem.Spec PyProof.Rows
section
variable {K : PySem.W.Frag} {H : Hp} {B : Addr->Prop} {m : Addr} {xs : List V} {o : Obj}
end
section
variable {X : Cx} {H0 : Hp} {B0 : Addr->Prop} {fr : Bool} {RX : XR} {st : Stmt}
end
end L2
namespace L2
open PySem PySem.Spec PyProof.Rows
section
variable {K : PySem.W.Frag} {H : Hp} {B : Addr->Prop} {m : Addr} {xs : List V}
end
section
variable {K : PySem.W.Frag} {H0 H H' : Hp} {B0 : Addr->Prop} {σ : St} {δ : SS} {R : Nat->List Addr}
end
section
variable {X : Cx} {H0 : Hp} {B0 : Addr->Prop} {fr : Bool} {RX : XR} {st1 st2 : Stmt} {sts : List Stmt} {f : DE} {z : Int}
end
end L2
namespace L2
open PySem PySem.Spec PyProof.Rows
section
variable {P : Program} {w : World} {K : PySem.W.Frag} {mg : Str->Option Value} {base : Heap}
end
section
variable {X : Cx} {e : Expr} {pos ap cp p2 : Pos} {x : Str} {px : Pos} {f : DE} {z : Int} {ke : Expr}
end
end L2
namespace L2
open PySem PySem.Spec PyProof.Rows
section
variable {X : Cx}
variable {e : Expr} {f : DE} {p pos : Pos}
end
end L2
namespace L2
open PySem PySem.Spec PyProof.Rows
section
variable {X : Cx} {H0 : Hp} {B0 : Addr->Prop} {fr : Bool} {RX : XR} {e : Expr} {pos ap cp ap2 cp2 : Pos} {x y : Str} {px py : Pos}
end
end L2
namespace L2
open PySem PySem.Spec PyProof.Rows
section
variable {prog : Program} {w : World} {A : Around} {E : Value->Shared->Prop} {s : Shared} {it t : Addr} {i : Nat} {its : Array Value} {Q : Fin->Shared->Prop} {o ol : Obj} {n : Nat} {x : Value}
end
section
variable {prog : Program} {w : World} {A : Around} {E : Value->Shared->Prop} {s : Shared} {z TI TO i1 i2 : Addr} {a b : Value}
end
section
variable {prog : Program} {w : World} {A : Around} {E : Value->Shared->Prop} {s : Shared} {z TI TO i1 i2 : Addr} {a b : Value}
end
end L2
namespace L2
open PySem PySem.Spec PyProof.Rows
noncomputable def SIt (h : Heap) (tp : Bool) (it a : Addr) (i : Nat) : Prop:=if tp=true then h.IsTupleIter it a i else h.IsListIter it a i
section
variable {X : Cx} {pins : List (Addr × Obj)} {σ : St} {H : Hp} {s : Shared} {a : Addr} {xs ys : List V} {tp : Bool}
end
structure ZipAt (h : Heap) (tp : Bool) (a b z TI TO i1 i2 : Addr) (i : Nat) : Prop where
  zip : IsZip h z TI TO .none
  its : IsPair h TI (.ref i1) (.ref i2)
  out : ∃ u v,IsPair h TO u v
  one : SIt h tp i1 a i
  two : SIt h false i2 b i
end L2
namespace L2
open PySem PySem.Spec PyProof.Rows
section
variable {ob : Addr->Obj} {L : Addr->Bool} {H : Hp} {a : Addr}
end
section
variable {K : PySem.W.Frag} {ob : Addr->Obj} {L : Addr->Bool} {H0 H : Hp} {B B0 : Addr->Prop} {σ : St} {δ : SS} {R : Nat->List Addr}
end
section
variable {K : PySem.W.Frag} {ob : Addr->Obj} {L : Addr->Bool} {H : Hp}
end
section
variable {X : Cx} {H0 : Hp} {B0 : Addr->Prop} {fr : Bool} {RX : XR} {st : Stmt}
end
end L2
namespace L2
open PySem PySem.Spec PyProof.Rows
section
variable {X : Cx}
variable {a b : Expr} {f g : DE} {pos : Pos}
end
end L2
namespace PySem
section
variable {prog : Program} {w : World} {A : Around} {E : Value->Shared->Prop} {s : Shared}
set_option maxHeartbeats 3200000 in
open PyProof.Rows in
end
end PySem
namespace L2
open PySem PySem.Spec PyProof.Rows
section
variable {X : Cx} {e : Expr} {te : TE} {p p' pos pos' : Pos}
variable {f : DE}
end
end L2
namespace L2
open PySem PySem.Spec PyProof.Rows
section
variable {X : Cx} {ka va kb vb : Expr} {pos : Pos} {fa fb fc fd : DE}
end
end L2
namespace L2
open PySem PySem.Spec PyProof.Rows
section
variable {X : Cx} {N' : List Str} {sc : Scope} {iter elt : Expr} {ifs : List Expr} {n : Nat} {x x' : Str} {px px' tp pos : Pos} {x1 : Nat} {fi : DS->Option (List D)} {fc : DS->Option Bool} {fe : DE}
end
end L2
namespace L2
open PySem PySem.Spec PyProof.Rows
section
variable {P : Program} {w : World} {K : PySem.W.Frag} {mg : Str->Option Value} {base : Heap}
end
section
variable {X : Cx} {k : Nat} {sp : Sp} {cl : Nat->Value} {RX : XR} {x : Str} {p pos pos2 : Pos} {e : Expr} {es : List Expr} {t : TA}
variable {H0 : Hp} {B0 : Addr->Prop} {fr : Bool} {F : DS->Option XO}
end
end L2
namespace L2
open PySem PySem.Spec PyProof.Rows
section
variable {K : PySem.W.Frag} {H : Hp} {B : Addr->Prop} {m : Addr} {c : Int} {ys : List V}
end
section
variable {K : PySem.W.Frag} {H0 H H' : Hp} {B0 : Addr->Prop} {σ : St} {δ : SS} {R : Nat->List Addr}
end
section
variable {X : Cx} {H0 : Hp} {B0 : Addr->Prop} {fr : Bool} {RX : XR} {st1 : Stmt} {sts : List Stmt} {f : DE} {x : Str} {px p2 ap cp pos : Pos} {ke e : Expr}
end
end L2
namespace L2
open PySem PySem.Spec PyProof.Rows
section
variable {X : Cx} {a b c e o : Expr} {f g h : DE} {p pos apos cpos p2 : Pos} {tg : Expr}
end
end L2
namespace L2
open PySem PySem.Spec PyProof.Rows
noncomputable instance {i j : Int} : Decidable (CDivN i j):=by unfold CDivN; infer_instance
section
variable {X : Cx} {a b e : Expr} {f g : DE} {p pos : Pos}
end
end L2
namespace L2
open PySem
theorem y2y {np nl : Nat} {g : SS->Option Out} {ds : List D} {d : D} (hl : ds.length=np) (e : g (ds.map (fun d=>some (.sh d)) ++ List.replicate nl none)=some (.rt d)) : z2V np nl g ds=some d:=by
  unfold z2V
  rw [if_pos hl,e]
theorem z3q {n : Nat} (h : n≤1000000) : n≤sizeLine:=by rw [PySem.sizeLine_eq]; omega
noncomputable def bD (b : Bool) : D:=.bl b
noncomputable def z2T (r : List Bool) : D:=.lst (r.map bD)
noncomputable def z0M (T : List (List Bool)) : D:=.lst (T.map z2T)
theorem z7u {ds : List D} {k : Nat} {d : D} (h : ds[k]? = some d) : ixD (.lst ds) (.int (k : Int))=some d:=z6u h
theorem z4R : ∀ bs : List Bool,z4E (bs.map bD)=some bs
  | []=>rfl
  | b :: bs=>by
    show (z4E (bs.map bD)).map (b :: ·)=_
    rw [z4R bs]
    rfl
theorem z1h : ∀ r : List Bool,z1L (r.map bD)=true
  | []=>rfl
  | b :: r=>by
    show (true && z1L (r.map bD))=true
    rw [z1h r]
    rfl
end L2
namespace L2
open PySem
theorem eq_self {d : D} (h : okP d=true) : eqD d d=some (.bl true):=by
  unfold eqD
  rw [h]
  show (if (true && true)=true then some (D.bl (PyData.eqv (toP d) (toP d))) else none)=_
  rw [if_pos (show (true && true)=true from rfl),SeqAt.eqv_refl _ (z0r h).1]
theorem row_ix {r : List Bool} {k : Nat} (h : k < r.length) : ixD (z2T r) (.int (k : Int))=some (.bl r[k]):=z7u (by rw [List.getElem?_map,List.getElem?_eq_getElem h]; rfl)
theorem tab_ix {T : List (List Bool)} {k : Nat} (h : k < T.length) : ixD (z0M T) (.int (k : Int))=some (z2T T[k]):=z7u (by rw [List.getElem?_map,List.getElem?_eq_getElem h]; rfl)
theorem z8C {n k : Nat} (h : k < n) : ixN n (k : Int)=some k:=by
  unfold ixN
  rw [if_pos (by omega),if_pos (by omega)]
  simp
noncomputable def Sq (n : Nat) (T : List (List Bool)) : Prop:=T.length=n∧∀ r∈T,r.length=n
theorem Sq.row {n : Nat} {T : List (List Bool)} (h : Sq n T) {k : Nat} (hk : k < T.length) : T[k].length=n:=h.2 _ (List.getElem_mem hk)
theorem Sq.set {n : Nat} {T : List (List Bool)} (h : Sq n T) {a b : Nat} {v : Bool} (ha : a < T.length) : Sq n (T.set a (T[a].set b v)):=by
  refine ⟨by simp [h.1],fun r hr=>?_⟩
  rcases List.mem_or_eq_of_mem_set hr with z | z
  · exact h.2 r z
  · subst z
    rw [List.length_set]
    exact h.row ha
end L2
namespace L2
open PySem
noncomputable def hol {α : Type} (x : Option α) (Q : α->Prop) : Prop:=∃ a,x=some a∧Q a
section
variable {α β : Type} {Q : α->Prop} {R : β->Prop}
theorem z0d {a : α} : hol (some a) Q=Q a:=propext ⟨fun ⟨_,e,q⟩=>by cases e; exact q,fun q=>⟨a,rfl,q⟩⟩
theorem hol_is {x : Option α} {a : α} : hol x (fun b=>b=a)↔x=some a:=⟨fun ⟨_,e,q⟩=>q ▸ e,fun e=>⟨a,e,rfl⟩⟩
end
noncomputable def asB : D->Option Bool
  | .bl b=>some b
  | _=>none
section
variable {Q : D->Prop} {QB : Bool->Prop} {QL : List D->Prop} {QO : Out->Prop} {δ : DS} {s : SS} {f g h : DE} {F : D->D->Option D}
theorem ho_var0 {x : Option D} {r : DS} : z0e 0 (x :: r)=x:=by cases x <;> rfl
noncomputable def owA (i : Nat) (s : SS) : Option D:=match s[i]? with
  | some (some (.ow d))=>some d
  | _=>none
theorem z0P {np nl : Nat} {b : SS->Option Out} {ds : List D} {d : D} (hl : ds.length=np) (h : hol (b (ds.map (fun d=>some (.sh d)) ++ List.replicate nl none)) fun o=>o = .rt d) : z2V np nl b ds=some d:=y2y hl (hol_is.mp h)
theorem z6W {np nl : Nat} {b : SS->Option Out} {ds : List D} (hl : ds.length=np) (h : hol (b (ds.map (fun d=>some (.sh d)) ++ List.replicate nl none)) fun o=>∃ d,o = .rt d∧Q d) : hol (z2V np nl b ds) Q:=by
  obtain ⟨o,e,d,rfl,q⟩:=h
  exact ⟨d,y2y hl e,q⟩
theorem y3j {i : Nat} {b : SS->Option Out} {ds : List D} {s : SS} (I : Nat->SS->Prop) (h0 : I 0 s) (hs : ∀ n (h : n < ds.length) δ,I n δ->hol (b (δ.set i (some (.sh ds[n])))) fun o=>match o with | .nx δ'=>I (n + 1) δ' | .ct δ'=>I (n + 1) δ' | .bk δ'=>QO (.nx δ') | .rt d=>QO (.rt d) | .ex c δ'=>QO (.ex c δ')) (he : ∀ δ,I ds.length δ->QO (.nx δ)) : hol (z4y i b ds s) QO:=by
  induction ds generalizing s I with
  | nil=>exact ⟨_,rfl,he _ h0⟩
  | cons x r ih=>
    obtain ⟨o,e,q⟩:=hs 0 (by simp) s h0
    have e : b (s.set i (some (.sh x)))=some o:=e
    have step : ∀ s1,I 1 s1->hol (z4y i b r s1) QO:=fun s1 h1=>ih (fun n=>I (n + 1)) h1 (fun n hn δ hI=>by
      have:=hs (n + 1) (by simpa using hn) δ hI
      simpa using this) fun δ hI=>he δ (by simpa using hI)
    unfold z4y
    rw [e]
    cases o with
    | nx s1=>exact step s1 q
    | ct s1=>exact step s1 q
    | bk s1=>exact ⟨_,rfl,q⟩
    | rt d=>exact ⟨_,rfl,q⟩
    | ex c s1=>exact ⟨_,rfl,q⟩
theorem z4d {i : Nat} {b : SS->Option Out} {lo : Int} {m : Nat} {s : SS} (I : Nat->SS->Prop) (h0 : I 0 s) (hs : ∀ n,n < m->∀ δ,I n δ->hol (b (δ.set i (some (.sh (.int (lo + (n : Int))))))) fun o=>match o with | .nx δ'=>I (n + 1) δ' | .ct δ'=>I (n + 1) δ' | .bk δ'=>QO (.nx δ') | .rt d=>QO (.rt d) | .ex c δ'=>QO (.ex c δ')) (he : ∀ δ,I m δ->QO (.nx δ)) : hol (z4y i b (z4x lo m) s) QO:=by
  refine y3j I h0 (fun n hn δ hI=>?_) fun δ hI=>he δ (by simpa [z4x] using hI)
  have hn' : n < m:=by simpa [z4x] using hn
  have:=hs n hn' δ hI
  simpa [z4x] using this
theorem z2X {α : Type} {enc : α->D} {i : Nat} {b : SS->Option Out} {xs : List α} {s : SS} (I : List α->SS->Prop) (h0 : I [] s) (hs : ∀ pre x post,xs=pre ++ x :: post->∀ δ,I pre δ->hol (b (δ.set i (some (.sh (enc x))))) fun o=>match o with | .nx δ'=>I (pre ++ [x]) δ' | .ct δ'=>I (pre ++ [x]) δ' | .bk δ'=>QO (.nx δ') | .rt d=>QO (.rt d) | .ex c δ'=>QO (.ex c δ')) (he : ∀ δ,I xs δ->QO (.nx δ)) : hol (z4y i b (xs.map enc) s) QO:=by
  refine y3j (fun n δ=>I (xs.take n) δ) (by simpa using h0) (fun n hn δ hI=>?_) fun δ hI=>he δ (by simpa using hI)
  have hn' : n < xs.length:=by simpa using hn
  have e : xs=xs.take n ++ xs[n] :: xs.drop (n + 1):=by
    rw [← List.drop_eq_getElem_cons hn',List.take_append_drop]
  have:=hs (xs.take n) xs[n] _ e δ hI
  rw [← List.take_succ_eq_append_getElem hn'] at this
  rw [List.getElem_map]
  exact this
end
end L2
namespace L2
open PySem
noncomputable def o2 (F : D->D->Option D) : Option D->Option D->Option D
  | some x,some y=>F x y
  | _,_=>none
noncomputable def andO : Option D->Option D->Option D
  | some (.bl true),y=>y
  | some (.bl false),_=>some (.bl false)
  | _,_=>none
noncomputable def orO : Option D->Option D->Option D
  | some (.bl true),_=>some (.bl true)
  | some (.bl false),y=>y
  | _,_=>none
noncomputable def andT : Option Bool->Option Bool->Option Bool
  | some true,y=>y
  | some false,_=>some false
  | _,_=>none
noncomputable def orT : Option Bool->Option Bool->Option Bool
  | some true,_=>some true
  | some false,y=>y
  | _,_=>none
noncomputable def iteO {α : Type} : Option Bool->Option α->Option α->Option α
  | some true,x,_=>x
  | some false,_,y=>y
  | _,_,_=>none
noncomputable def consA : Option D->Option (List D)->Option (List D)
  | some x,some xs=>some (x :: xs)
  | _,_=>none
noncomputable def y3x : Option D->Option D
  | some d=>if d.imm=true then some d else none
  | none=>none
noncomputable def z6J : Option (List D)->Option (List D)
  | some ds=>if z1L ds=true then some ds else none
  | none=>none
noncomputable def y1C (x : Option Out) (b : SS->Option Out) : Option Out:=match x with
  | some (.nx s)=>b s
  | o=>o
noncomputable def rng1 : Option D->Option (List D)
  | some (.int j)=>if -(2 ^ 62)≤j∧j < 2 ^ 62 then some (z4x 0 j.toNat) else none
  | _=>none
noncomputable def rng2 : Option D->Option D->Option (List D)
  | some (.int i),some (.int j)=>if -(2 ^ 62)≤i∧i < 2 ^ 62∧-(2 ^ 62)≤j∧j < 2 ^ 62 then some (z4x i (j - i).toNat) else none
  | _,_=>none
noncomputable def setO (mk : D->SD) (i : Nat) (x : Option D) (s : SS) : Option Out:=match x with
  | some d=>some (.nx (s.set i (some (mk d))))
  | none=>none
noncomputable def rtO : Option D->Option Out
  | some d=>some (.rt d)
  | none=>none
noncomputable def forX (i : Nat) (ds : Option (List D)) (b : SS->Option Out) (s : SS) : Option Out:=match ds with
  | some ds=>z4y i b ds s
  | none=>none
noncomputable def z7d (i : Nat) (x : Option D) (s : SS) : Option Out:=match x with
  | some d=>some (.nx ((z0w i s).set i (some (.ow d))))
  | none=>none
noncomputable def z2F (fc : DS->Option Bool) (fe : DE) (δ : DS) : D->Option (Option D):=fun x=>(fc (δ ++ [some x])).bind fun k=>if k=true then (fe (δ ++ [some x])).map some else some none
noncomputable def z2o (xs : Option (List D)) (h : D->Option (Option D)) : Option (List D):=match xs with
  | some xs=>if xs.length≤sizeLine then z1z h xs else none
  | none=>none
section
variable {f g h : DE} {δ : DS} {s : SS} {F : D->D->Option D} {c e : DS->Option Bool} {a b : SS->Option Out} {i j : Nat}
theorem ev_var0 {x : Option D} {r : DS} : z0e 0 (x :: r)=x:=ho_var0
theorem ev_varS {x : Option D} {r : DS} : z0e (i + 1) (x :: r)=z0e i r:=(rfl)
theorem ev_C {d : D} : dC d δ=some d:=(rfl)
theorem ev_d2 : d2 F f g δ=o2 F (f δ) (g δ):=by
  unfold d2 o2
  cases f δ <;> cases g δ <;> rfl
theorem ev_d1 {G : D->Option D} : d1 G f δ=(f δ).bind G:=(rfl)
theorem ev_test : z1o f δ=(f δ).bind asB:=by
  unfold z1o
  cases f δ with
  | none=>rfl
  | some d=>cases d <;> rfl
theorem y3S : z1Y f δ=(f δ).bind z7x:=(rfl)
theorem ev_andT : y0W c e δ=andT (c δ) (e δ):=by
  unfold y0W
  rcases c δ with _ | _ | _ <;> rfl
theorem ev_orT : dOrT c e δ=orT (c δ) (e δ):=by
  unfold dOrT
  rcases c δ with _ | _ | _ <;> rfl
theorem ev_notT : z6q c δ=(c δ).map (!·):=(rfl)
theorem ev_and : dAnd f g δ=andO (f δ) (g δ):=by
  unfold dAnd andO
  rcases f δ with _ | (_ | (_ | _) | _ | _ | _ | _ | _ | _) <;> rfl
theorem ev_or : dOr f g δ=orO (f δ) (g δ):=by
  unfold dOr orO
  rcases f δ with _ | (_ | (_ | _) | _ | _ | _ | _ | _ | _) <;> rfl
theorem y4u : z0u [] δ=some []:=(rfl)
theorem y4c {r : List DE} : z0u (f :: r) δ=consA (f δ) (z0u r δ):=by
  show ((f δ).bind fun x=>(z0u r δ).bind fun xs=>some (x :: xs))=_
  cases f δ <;> cases z0u r δ <;> rfl
theorem ev_call {M : List D->Option D} {fl : List DE} : z0k M fl δ=(z0u fl δ).bind M:=(rfl)
theorem y4R {M : List D->Option (List D)} {fl : List DE} : z1Z M fl δ=(z0u fl δ).bind M:=(rfl)
theorem ev_mkL {f : DS->Option (List D)} : mkL f δ=(f δ).map .lst:=(rfl)
theorem ev_mkT {f : DS->Option (List D)} : mkT f δ=(f δ).map .tup:=(rfl)
theorem y1g {f : DS->Option (List D)} : z0x f δ=(z6J (f δ)).map .lst:=by
  unfold z0x z6J
  cases f δ with
  | none=>rfl
  | some ds=>
    show (if z1L ds=true then _ else _)=Option.map _ (if z1L ds=true then _ else _)
    split <;> rfl
theorem ev_is {T : String} : dIs T f δ=(f δ).map fun d=>.bl (isF T d):=(rfl)
theorem ev_seq : z5a f δ=(f δ).bind y4S:=(rfl)
theorem ev_rng1 : z5e f δ=rng1 (f δ):=(rfl)
theorem ev_rng2 : y3v f g δ=rng2 (f δ) (g δ):=(rfl)
theorem ev_comp {fi : DS->Option (List D)} : z1r fi c f δ=z2o (fi δ) (z2F c f δ):=by
  unfold z1r z2o
  cases fi δ <;> rfl
theorem ev_seqO : z1g a b s=y1C (a s) b:=by
  unfold z1g y1C
  rcases a s with _ | (_ | _ | _ | _) <;> rfl
theorem ev_skip : z3t s=some (.nx s):=(rfl)
theorem ev_asgS : y3O i f s=setO .sh i (f (shV s)) s:=by
  unfold y3O setO
  cases f (shV s) <;> rfl
theorem ev_asgI : y3k i f s=setO .sh i (y3x (f (z0v s))) s:=by
  unfold y3k setO y3x
  cases f (z0v s) with
  | none=>rfl
  | some d=>
    show (if d.imm=true then _ else _)=(match (if d.imm=true then some d else none) with | some d=>some (Out.nx (s.set i (some (SD.sh d)))) | none=>none)
    split <;> rfl
theorem ev_asgN : z3U i f s=setO .ow i (f (z0v s)) s:=by
  unfold z3U setO
  cases f (z0v s) <;> rfl
theorem ev_retI : z8d f s=rtO (y3x (f (z0v s))):=by
  unfold z8d rtO y3x
  cases f (z0v s) with
  | none=>rfl
  | some d=>
    show (if d.imm=true then _ else _)=(match (if d.imm=true then some d else none) with | some d=>some (Out.rt d) | none=>none)
    split <;> rfl
theorem ev_retN : z6k f s=rtO (f (z0v s)):=by
  unfold z6k rtO
  cases f (z0v s) <;> rfl
theorem ev_retO : y0R i s=rtO (owA i s):=by
  unfold y0R rtO owA
  rcases s[i]? with _ | _ | ⟨x | x | ⟨r,x⟩⟩ <;> rfl
theorem ev_ifO : ifO c a b s=iteO (c (z0v s)) (a s) (b s):=by
  unfold ifO
  rcases c (z0v s) with _ | _ | _ <;> rfl
theorem ev_forO {fi : DS->Option (List D)} : z8j i fi b s=forX i (fi (shV s)) b s:=by
  unfold z8j forX
  cases fi (shV s) <;> rfl
theorem ev_frz : frzO i b s=b (y3P i s):=(rfl)
theorem eo_2 {x y : D} : o2 F (some x) (some y)=F x y:=(rfl)
theorem eo_and {x y : Bool} : andO (some (.bl x)) (some (.bl y))=some (.bl (x && y)):=by cases x <;> rfl
theorem eo_or {x y : Bool} : orO (some (.bl x)) (some (.bl y))=some (.bl (x || y)):=by cases x <;> rfl
theorem eo_ort {y : Option D} : orO (some (.bl true)) y=some (.bl true):=(rfl)
theorem eo_andT {x y : Bool} : andT (some x) (some y)=some (x && y):=by cases x <;> rfl
theorem eo_orT {x y : Bool} : orT (some x) (some y)=some (x || y):=by cases x <;> rfl
theorem eo_itet {α : Type} {x y : Option α} : iteO (some true) x y=x:=(rfl)
theorem eo_itef {α : Type} {x y : Option α} : iteO (some false) x y=y:=(rfl)
theorem eo_cons {x : D} {xs : List D} : consA (some x) (some xs)=some (x :: xs):=(rfl)
theorem eo_nx : y1C (some (.nx s)) b=b s:=(rfl)
theorem eo_rt {d : D} : y1C (some (.rt d)) b=some (.rt d):=(rfl)
theorem eo_set {mk : D->SD} {d : D} : setO mk i (some d) s=some (.nx (s.set i (some (mk d)))):=(rfl)
theorem eo_rtO {d : D} : rtO (some d)=some (.rt d):=(rfl)
theorem eo_for {ds : List D} : forX i (some ds) b s=z4y i b ds s:=(rfl)
theorem eo_immI {n : Int} : y3x (some (.int n))=some (.int n):=(rfl)
theorem eo_immB {n : Bool} : y3x (some (.bl n))=some (.bl n):=(rfl)
theorem z2Y {ds : List D} (h : z1L ds=true) : z6J (some ds)=some ds:=if_pos h
theorem eo_rng1 {n : Int} (h : -(2 ^ 62)≤n∧n < 2 ^ 62) : rng1 (some (.int n))=some (z4x 0 n.toNat):=if_pos h
theorem eo_rng2 {m n : Int} (h : -(2 ^ 62)≤m∧m < 2 ^ 62∧-(2 ^ 62)≤n∧n < 2 ^ 62) : rng2 (some (.int m)) (some (.int n))=some (z4x m (n - m).toNat):=if_pos h
theorem z4a {xs : List D} {k : D->Option (Option D)} (h : xs.length≤1000000) : z2o (some xs) k=z1z k xs:=if_pos (z3q h)
section
variable {m n : Int} {p q : Bool} {ds es : List D} {x y : Str} {ns : List Int}
theorem ea_add : y3p (.int m) (.int n)=some (.int (m + n)):=(rfl)
theorem ea_sub : subI (.int m) (.int n)=some (.int (m - n)):=(rfl)
theorem ea_mul (h : CMul m n) : mulI (.int m) (.int n)=some (.int (m * n)):=if_pos h
theorem z9X (h : CDiv m n) : y3s (.int m) (.int n)=some (.int (m / n)):=if_pos h
theorem z4N (h : 0 < n) : z7t (.int m) (.int n)=some (.int (m % n)):=if_pos h
theorem ea_lt : ltI (.int m) (.int n)=some (.bl (decide (m < n))):=(rfl)
theorem ea_le : leI (.int m) (.int n)=some (.bl (decide (m≤n))):=(rfl)
theorem ea_gt : gtI (.int m) (.int n)=some (.bl (decide (n < m))):=(rfl)
theorem ea_eqI : eqD (.int m) (.int n)=some (.bl (decide (m=n))):=(rfl)
theorem ea_neI : neD (.int m) (.int n)=some (.bl (!decide (m=n))):=(rfl)
theorem ea_neg : uNeg (.int m)=some (.int (-m)):=(rfl)
theorem ea_not : uNot (.bl p)=some (.bl (!p)):=(rfl)
theorem ea_truB : z7x (.bl p)=some p:=(rfl)
theorem ea_lenR : z2U [.scr ns]=some (.int (ns.length : Int)):=(rfl)
theorem ea_ixL : ixD (.lst ds) (.int m)=atI ds m:=(rfl)
theorem ea_ixR : ixD (.scr ns) (.int m)=(atI ns m).map .int:=(rfl)
theorem ea_isBI : isF "bool" (.int m)=false:=(rfl)
theorem ea_isII : isF "int" (.int m)=true:=(rfl)
theorem ea_asB : asB (.bl p)=some p:=(rfl)
end
theorem eb_bs {α β : Type} {a : α} {k : α->Option β} : (some a).bind k=k a:=(rfl)
theorem eb_ms {α β : Type} {a : α} {k : α->β} : (some a).map k=some (k a):=(rfl)
theorem eb_mn {α β : Type} {k : α->β} : (none : Option α).map k=none:=(rfl)
theorem eb_s0 {α : Type} {x y : α} {r : List α} : (x :: r).set 0 y=y :: r:=(rfl)
theorem eb_sS {α : Type} {n : Nat} {x y : α} {r : List α} : (x :: r).set (n + 1) y=x :: r.set n y:=(rfl)
theorem eb_mc {α β : Type} {x : α} {r : List α} {k : α->β} : (x :: r).map k=k x :: r.map k:=(rfl)
theorem eb_mnil {α β : Type} {k : α->β} : ([] : List α).map k=[]:=(rfl)
theorem eb_rS {α : Type} {n : Nat} {x : α} : List.replicate (n + 1) x=x :: List.replicate n x:=(rfl)
theorem eb_r0 {α : Type} {x : α} : List.replicate 0 x=[]:=(rfl)
theorem eb_ca {α : Type} {x : α} {r t : List α} : (x :: r) ++ t=x :: (r ++ t):=(rfl)
theorem eb_na {α : Type} {t : List α} : [] ++ t=t:=(rfl)
theorem es_all0 : z0v []=[]:=(rfl)
theorem es_allS {x : Option SD} {r : SS} : z0v (x :: r)=x.map SD.val :: z0v r:=(rfl)
theorem es_sh0 : shV []=[]:=(rfl)
theorem es_shS {x : Option SD} {r : SS} : shV (x :: r)=shO x :: shV r:=(rfl)
theorem es_shO {d : D} : shO (some (.sh d))=some d:=(rfl)
theorem y4g : z0w i []=[]:=(rfl)
theorem y4D {x : Option SD} {r : SS} : z0w i (x :: r)=z8o i x :: z0w i r:=(rfl)
theorem y1L {d : D} : z8o i (some (.sh d))=some (.sh d):=(rfl)
theorem y3m {d : D} : z8o i (some (.ow d))=some (.ow d):=(rfl)
theorem y4r : z8o i none=none:=(rfl)
theorem es_ow0 {d : D} {r : SS} : owA 0 (some (.ow d) :: r)=some d:=(rfl)
theorem es_owS {x : Option SD} {r : SS} : owA (i + 1) (x :: r)=owA i r:=(rfl)
end
end L2
namespace L2
open PySem
noncomputable def y4I : Option (List D)->Option (List D):=z6J
noncomputable def st0V (o k v : Option D) : Option D:=match o,k,v with
  | some (.lst ds),some (.int k),some d=>(ixN ds.length k).map fun j=>.lst (ds.set j d)
  | _,_,_=>none
noncomputable def st1V (o k j v : Option D) : Option D:=match o,k,j,v with
  | some (.lst ds),some (.int k),some (.int j),some d=>(ixN ds.length k).bind fun k'=>(match ds[k']? with
    | some (.lst es)=>if z1L es=true then (ixN es.length j).map fun j'=>.lst (ds.set k' (.lst (es.set j' d))) else none
    | _=>none)
  | _,_,_,_=>none
noncomputable def m0V (M : List D->List D->Option (List D)) (o : Option D) (args : Option (List D)) : Option D:=match o,args with
  | some (.lst ds),some args=>(M ds args).map .lst
  | _,_=>none
section
variable {f g fk fj fv : DE} {s : SS} {i : Nat} {M : List D->List D->Option (List D)} {fl : List DE}
theorem eo_put {d : D} : z7d i (some d) s=some (.nx ((z0w i s).set i (some (.ow d)))):=(rfl)
theorem z9q {ds : List D} (h : z1L ds=true) : y4I (some ds)=some ds:=if_pos h
noncomputable def kI : D->Option Int
  | .int k=>some k
  | _=>none
noncomputable def kL : D->Option (List D)
  | .lst ds=>some ds
  | _=>none
noncomputable def kW : Option (Option SD)->Option D
  | some (some (.ow d))=>some d
  | _=>none
theorem y6a : owA i s=kW s[i]?:=by
  unfold owA kW
  generalize s[i]? = x
  rcases x with _ | _ | ⟨x | x | ⟨r,x⟩⟩ <;> rfl
theorem mt2 {β : Type} {k : D} {x : Option (Option SD)} {F : Int->List D->Option β} : (match k,x with | .int k,some (some (.ow (.lst ds)))=>F k ds | _,_=>none)=(kI k).bind fun k=>((kW x).bind kL).bind fun ds=>F k ds:=by
  cases k with
  | int k=>rcases x with _ | _ | ⟨x | x | ⟨r,x⟩⟩ <;> first | rfl | (cases x <;> rfl)
  | _=>rfl
theorem mt3 {β : Type} {k j : D} {x : Option (Option SD)} {F : Int->Int->List D->Option β} : (match k,j,x with | .int k,.int j,some (some (.ow (.lst ds)))=>F k j ds | _,_,_=>none)=(kI k).bind fun k=>(kI j).bind fun j=>((kW x).bind kL).bind fun ds=>F k j ds:=by
  cases k with
  | int k=>
    cases j with
    | int j=>rcases x with _ | _ | ⟨x | x | ⟨r,x⟩⟩ <;> first | rfl | (cases x <;> rfl)
    | _=>rfl
  | _=>rfl
theorem st0V_k {o k v : Option D} : st0V o k v=(o.bind kL).bind fun ds=>(k.bind kI).bind fun k=>v.bind fun d=>(ixN ds.length k).map fun j=>.lst (ds.set j d):=by
  rcases o with _ | o
  · rfl
  · cases o with
    | lst ds=>
      rcases k with _ | k
      · rfl
      · cases k with
        | int k=>cases v <;> rfl
        | _=>rfl
    | _=>rfl
theorem y5M {o k j v : Option D} : st1V o k j v=(o.bind kL).bind fun ds=>(k.bind kI).bind fun k=>(j.bind kI).bind fun j=>v.bind fun d=>(ixN ds.length k).bind fun k'=>(match ds[k']? with
    | some (.lst es)=>if z1L es=true then (ixN es.length j).map fun j'=>.lst (ds.set k' (.lst (es.set j' d))) else none
    | _=>none):=by
  rcases o with _ | o
  · rfl
  · cases o with
    | lst ds=>
      rcases k with _ | k
      · rfl
      · cases k with
        | int k=>
          rcases j with _ | j
          · rfl
          · cases j with
            | int j=>cases v <;> rfl
            | _=>rfl
        | _=>rfl
    | _=>rfl
theorem y2l {α : Type} {x : Option α} {F : α->Option D} : z7d i (x.bind F) s=x.bind fun a=>z7d i (F a) s:=by cases x <;> rfl
theorem z2f {α β : Type} {x : Option α} : (x.bind fun _=>(none : Option β))=none:=by cases x <;> rfl
theorem ev_st0 : st0 i fk fv s=z7d i (st0V (owA i s) (fk (z0v s)) (y3x (fv (z0v s)))) s:=by
  have e : st0 i fk fv s=(fv (z0v s)).bind fun d=>if d.imm=true then (fk (z0v s)).bind fun dk=>(kI dk).bind fun k=>((kW s[i]?).bind kL).bind fun ds=>(ixN ds.length k).map fun j=>.nx ((z0w i s).set i (some (.ow (.lst (ds.set j d))))) else none:=by
    refine congrArg (Option.bind (fv (z0v s))) (funext fun d=>?_)
    refine congrArg (fun z=>if d.imm=true then z else none) ?_
    refine congrArg (Option.bind (fk (z0v s))) (funext fun dk=>?_)
    exact mt2 (F:=fun k ds=>(ixN ds.length k).map fun j=>Out.nx ((z0w i s).set i (some (.ow (.lst (ds.set j d))))))
  rw [e,st0V_k,y6a]
  simp only [y2l]
  generalize (kW s[i]?).bind kL=x
  rcases fv (z0v s) with _ | d
  · show none=x.bind fun ds=>((fk (z0v s)).bind kI).bind fun k=>(none : Option Out)
    simp only [z2f]
  · show (if d.imm=true then (fk (z0v s)).bind fun dk=>_ else none)=x.bind fun ds=>((fk (z0v s)).bind kI).bind fun k=>(if d.imm=true then some d else none).bind fun d=>_
    split
    · rcases fk (z0v s) with _ | k
      · simp only [Option.bind_none,z2f]
      · simp only [Option.bind_some]
        cases kI k with
        | none=>simp only [Option.bind_none,z2f]
        | some k=>
          simp only [Option.bind_some]
          cases x with
          | none=>rfl
          | some ds=>
            simp only [Option.bind_some]
            cases ixN ds.length k <;> rfl
    · simp only [Option.bind_none,z2f]
theorem m_st1 {k j : Int} {d : D} {ds : List D} : ((ixN ds.length k).bind fun k'=>(match ds[k']? with
      | some (.lst es)=>if z1L es=true then (ixN es.length j).map fun j'=>Out.nx ((z0w i s).set i (some (.ow (.lst (ds.set k' (.lst (es.set j' d))))))) else none
      | _=>none))=z7d i (st1V (some (.lst ds)) (some (.int k)) (some (.int j)) (some d)) s:=by
  show _=z7d i ((ixN ds.length k).bind _) s
  cases ixN ds.length k with
  | none=>rfl
  | some k'=>
    rw [Option.bind_some,Option.bind_some]
    cases ds[k']? with
    | none=>rfl
    | some y=>
      cases y with
      | lst es=>
        dsimp only
        split
        · cases ixN es.length j <;> rfl
        · rfl
      | _=>rfl
theorem ev_st1 : st1 i fk fj fv s=z7d i (st1V (owA i s) (fk (z0v s)) (fj (z0v s)) (y3x (fv (z0v s)))) s:=by
  have e : st1 i fk fj fv s=(fv (z0v s)).bind fun d=>if d.imm=true then (fk (z0v s)).bind fun dk=>(fj (z0v s)).bind fun dj=>(kI dk).bind fun k=>(kI dj).bind fun j=>((kW s[i]?).bind kL).bind fun ds=>(ixN ds.length k).bind fun k'=>(match ds[k']? with
      | some (.lst es)=>if z1L es=true then (ixN es.length j).map fun j'=>.nx ((z0w i s).set i (some (.ow (.lst (ds.set k' (.lst (es.set j' d))))))) else none
      | _=>none) else none:=by
    refine congrArg (Option.bind (fv (z0v s))) (funext fun d=>?_)
    refine congrArg (fun z=>if d.imm=true then z else none) ?_
    refine congrArg (Option.bind (fk (z0v s))) (funext fun dk=>?_)
    refine congrArg (Option.bind (fj (z0v s))) (funext fun dj=>?_)
    exact mt3 (F:=fun k j ds=>(ixN ds.length k).bind fun k'=>(match ds[k']? with
      | some (.lst es)=>if z1L es=true then (ixN es.length j).map fun j'=>Out.nx ((z0w i s).set i (some (.ow (.lst (ds.set k' (.lst (es.set j' d))))))) else none
      | _=>none))
  rw [e,y5M,y6a]
  simp only [y2l]
  generalize (kW s[i]?).bind kL=x
  rcases fv (z0v s) with _ | d
  · show none=x.bind fun ds=>((fk (z0v s)).bind kI).bind fun k=>((fj (z0v s)).bind kI).bind fun j=>(none : Option Out)
    simp only [z2f]
  · show (if d.imm=true then (fk (z0v s)).bind fun dk=>_ else none)=x.bind fun ds=>((fk (z0v s)).bind kI).bind fun k=>((fj (z0v s)).bind kI).bind fun j=>(if d.imm=true then some d else none).bind fun d=>_
    split
    · rcases fk (z0v s) with _ | k
      · simp only [Option.bind_none,z2f]
      · simp only [Option.bind_some]
        rcases fj (z0v s) with _ | j
        · simp only [Option.bind_none,z2f]
        · simp only [Option.bind_some]
          cases kI k with
          | none=>simp only [Option.bind_none,z2f]
          | some k=>
            cases kI j with
            | none=>simp only [Option.bind_none,Option.bind_some,z2f]
            | some j=>
              simp only [Option.bind_some]
              cases x with
              | none=>rfl
              | some ds=>
                have:=m_st1 (i:=i) (s:=s) (k:=k) (j:=j) (d:=d) (ds:=ds)
                rw [y5M] at this
                simp only [Option.bind_some,y2l,kL,kI] at this
                simp only [Option.bind_some]
                exact this
    · simp only [Option.bind_none,z2f]
theorem ev_m0 : m0 i M fl s=z7d i (m0V M (owA i s) (y4I (z0u fl (z0v s)))) s:=by
  unfold m0 owA
  rcases z0u fl (z0v s) with _ | args
  · rcases s[i]? with _ | _ | ⟨x | x | ⟨r,x⟩⟩ <;> (first | rfl | (cases x <;> rfl))
  · show (if z1L args=true then _ else _)=z7d i (m0V M _ (if z1L args=true then some args else none)) s
    split
    · rcases s[i]? with _ | _ | ⟨x | x | ⟨r,x⟩⟩ <;> (first | rfl | (cases x <;> first | rfl | (rename_i ds; show Option.map _ (M ds args)=z7d i (Option.map _ (M ds args)) s; cases M ds args <;> rfl)))
    · rcases s[i]? with _ | _ | ⟨x | x | ⟨r,x⟩⟩ <;> (first | rfl | (cases x <;> rfl))
theorem y3H : z8F i f s=z7d i (m0V z6y (owA i s) (consA (f (z0v s)) (some []))) s:=by
  unfold z8F owA
  rcases f (z0v s) with _ | d
  · rcases s[i]? with _ | _ | ⟨x | x | ⟨r,x⟩⟩ <;> (first | rfl | (cases x <;> rfl))
  · rcases s[i]? with _ | _ | ⟨x | x | ⟨r,x⟩⟩ <;> (first | rfl | (cases x <;> first | rfl | (rename_i ds; show Option.map _ (z6y ds [d])=z7d i (Option.map _ (z6y ds [d])) s; cases z6y ds [d] <;> rfl)))
end
theorem es_v1 {d : D} : (SD.sh d).val=d:=(rfl)
theorem es_v2 {d : D} : (SD.ow d).val=d:=(rfl)
theorem y5L {bs : List Bool} : allF [.lst (bs.map bD)]=some (.bl (bs.all fun b=>b)):=by
  show (z4E (bs.map bD)).map (fun bs=>D.bl (bs.all fun b=>b))=_
  rw [z4R]
  rfl
theorem ea_any {bs : List Bool} : anyF [.lst (bs.map bD)]=some (.bl (bs.any fun b=>b)):=by
  show (z4E (bs.map bD)).map (fun bs=>D.bl (bs.any fun b=>b))=_
  rw [z4R]
  rfl
theorem z9z : ∀ ns : List Int,z2H (ns.map D.int)=some ns
  | []=>rfl
  | n :: ns=>by
    show (z2H (ns.map D.int)).map (n :: ·)=_
    rw [z9z ns]
    rfl
theorem z9K {T : List (List Bool)} {a b : Nat} {v : Bool} (ha : a < T.length) (hb : b < T[a].length) : st1V (some (z0M T)) (some (.int (a : Int))) (some (.int (b : Int))) (some (.bl v))=some (z0M (T.set a (T[a].set b v))):=by
  show ((ixN (T.map z2T).length (a : Int)).bind fun k'=>(match (T.map z2T)[k']? with
    | some (.lst es)=>if z1L es=true then (ixN es.length (b : Int)).map fun j'=>D.lst ((T.map z2T).set k' (.lst (es.set j' (.bl v)))) else none
    | _=>none))=_
  rw [z8C (by simpa using ha),Option.bind_some]
  have e1 : (T.map z2T)[a]? = some (.lst (T[a].map bD)):=by rw [List.getElem?_map,List.getElem?_eq_getElem ha]; rfl
  rw [e1]
  dsimp only
  rw [if_pos (z1h _),z8C (by simpa using hb),Option.map_some]
  unfold z0M
  rw [List.map_set]
  unfold z2T
  rw [List.map_set]
  rfl
theorem z2x {T : List (List Bool)} : z2U [z0M T]=some (.int (T.length : Int)):=by
  show some (D.int ((T.map z2T).length : Nat))=_
  rw [List.length_map]
theorem ix_tab {T : List (List Bool)} {k : Nat} (h : k < T.length) : ixD (z0M T) (.int (k : Int))=some (z2T T[k]):=tab_ix h
theorem ix_row {r : List Bool} {k : Nat} (h : k < r.length) : ixD (z2T r) (.int (k : Int))=some (.bl r[k]):=row_ix h
theorem ins_at {n b : Nat} (h : b≤n) : y0O n (b : Int)=b:=by
  unfold y0O
  rw [if_neg (by omega),Int.toNat_natCast,Nat.min_eq_left h]
theorem z6o {x : Int} {n : Nat} (h : 0 < n) : ∃ a : Nat,x % (n : Int)=(a : Int)∧a < n:=by
  have h1:=Int.emod_nonneg x (show (n : Int)≠0 by omega)
  have h2:=Int.emod_lt_of_pos x (show (0 : Int) < n by omega)
  exact ⟨(x % (n : Int)).toNat,by omega,by omega⟩
theorem z8K {α : Type} {enc : α->D} {c : DS->Option Bool} {f : DE} {δ : DS} (p : α->Bool) (g : α->D) : ∀ {xs : List α},(∀ x∈xs,c (δ ++ [some (enc x)])=some (p x))->(∀ x∈xs,p x=true->f (δ ++ [some (enc x)])=some (g x))->z1z (z2F c f δ) (xs.map enc)=some ((xs.filter p).map g)
  | [],_,_=>rfl
  | x :: r,hc,hf=>by
    have ih:=z8K (xs:=r) p g (fun y hy=>hc y (List.mem_cons_of_mem _ hy)) fun y hy=>hf y (List.mem_cons_of_mem _ hy)
    rw [List.map_cons]
    unfold z1z
    rw [ih]
    unfold z2F
    rw [hc x List.mem_cons_self]
    cases hp : p x with
    | true=>
      show ((if true=true then (f (δ ++ [some (enc x)])).map some else some none).bind _)=_
      rw [if_pos rfl,hf x List.mem_cons_self hp,List.filter_cons_of_pos hp]
      rfl
    | false=>
      rw [List.filter_cons_of_neg (by rw [hp]; exact Bool.false_ne_true)]
      rfl
theorem z4f {α : Type} {enc : α->D} {f : DE} {δ : DS} (g : α->D) {xs : List α} (hf : ∀ x∈xs,f (δ ++ [some (enc x)])=some (g x)) : z1z (z2F z3V f δ) (xs.map enc)=some (xs.map g):=by
  rw [z8K (fun _=>true) g (fun _ _=>rfl) fun x hx _=>hf x hx,List.filter_eq_self.mpr fun _ _=>rfl]
noncomputable def nD (n : Nat) : D:=.int (n : Int)
theorem z5u {n : Nat} : z4x 0 n=(List.range n).map nD:=by
  unfold z4x nD
  refine List.map_congr_left fun k _=>?_
  rw [Int.zero_add]
theorem at_nat {α : Type} {xs : List α} {k : Nat} (h : k < xs.length) : atI xs (k : Int)=some xs[k]:=z6u (List.getElem?_eq_getElem h)
theorem ixN_of {n k : Nat} (h : k < n) : ixN n (k : Int)=some k:=z8C h
end L2
namespace L2
open PySem
theorem z9u : ∀ o : List Int,z1L (o.map D.int)=true
  | []=>rfl
  | n :: o=>by
    show (true && z1L (o.map D.int))=true
    rw [z9u o]
    rfl
theorem z6l : ∀ o : List Int,PyData.canLayAll0 (z3Q (o.map D.int))=true
  | []=>rfl
  | n :: o=>by
    show (true && PyData.canLayAll0 (z3Q (o.map D.int)))=true
    rw [z6l o]
    rfl
theorem z6C : ∀ o : List Int,PyData.depthAll (z3Q (o.map D.int))=0
  | []=>rfl
  | n :: o=>by
    show max 0 (PyData.depthAll (z3Q (o.map D.int)))=0
    rw [z6C o]
    rfl
theorem z0E {x : Option Out} {b : SS->Option Out} {I : SS->Prop} {Q : Out->Prop} (h : hol x fun o=>∃ s,o = .nx s∧I s) (k : ∀ s,I s->hol (b s) Q) : hol (y1C x b) Q:=by
  obtain ⟨o,rfl,s,rfl,q⟩:=h
  exact k s q
noncomputable def rngI (m : Nat) : List Int:=(List.range m).map fun k=>((k : Nat) : Int)
structure Good (m : Nat) (b : Int × List Int) : Prop where
  lo : 1≤b.1
  hi : b.1≤10 ^ 30
  perm : b.2.Perm (rngI m)
end L2
namespace L2
open PySem
noncomputable def at2 (T : List (List Bool)) (i j : Nat) : Bool:=(T.getD i []).getD j false
noncomputable def thD (th : List Nat) : D:=.lst (th.map nD)
theorem z8l {T : List (List Bool)} {i : Nat} (h : i < T.length) : ixD (z0M T) (.int (i : Int))=some (z2T (T.getD i [])):=by
  rw [ix_tab h]
  simp [List.getD,List.getElem?_eq_getElem h]
theorem y2O {r : List Bool} {j : Nat} (h : j < r.length) : ixD (z2T r) (.int (j : Int))=some (.bl (r.getD j false)):=by
  rw [ix_row h]
  simp [List.getD,List.getElem?_eq_getElem h]
theorem Sq.len {n : Nat} {T : List (List Bool)} (h : Sq n T) {i : Nat} (hi : i < n) : (T.getD i []).length=n:=by
  have h1 : i < T.length:=by rw [h.1]; exact hi
  have : T.getD i []=T[i]:=by simp [List.getD,List.getElem?_eq_getElem h1]
  rw [this]
  exact h.row h1
theorem ix2 {n : Nat} {T : List (List Bool)} (h : Sq n T) {i j : Nat} (hi : i < n) (hj : j < n) : o2 ixD (ixD (z0M T) (.int (i : Int))) (some (.int (j : Int)))=some (.bl (at2 T i j)):=by
  rw [z8l (by rw [h.1]; exact hi),eo_2,y2O (by rw [h.len hi]; exact hj)]
  rfl
noncomputable def z2p (th : List Nat) (f : Nat->Nat->Bool) : List (List Bool):=th.map fun i=>th.map fun j=>f i j
theorem z9o {α β : Type} {f : α->β} {xs : List α} {i : Nat} {d : β} (h : i < xs.length) : (xs.map f).getD i d=f xs[i]:=by
  simp [List.getD,h]
theorem y1k {th : List Nat} {f : Nat->Nat->Bool} : Sq th.length (z2p th f):=by
  refine ⟨by simp [z2p],fun r hr=>?_⟩
  obtain ⟨i,_,rfl⟩:=List.mem_map.mp hr
  simp
theorem z3c {th : List Nat} : y4S (thD th)=some (th.map nD):=(rfl)
theorem z5n {th : List Nat} : z2U [thD th]=some (.int (th.length : Int)):=by
  show some (D.int ((th.map nD).length : Nat))=_
  rw [List.length_map]
theorem z7I : ∀ th : List Nat,z1L (th.map nD)=true
  | []=>rfl
  | n :: th=>by
    show (true && z1L (th.map nD))=true
    rw [z7I th]
    rfl
theorem z9P (th : List Nat) : okP (thD th)=true:=by
  have e : th.map nD=(th.map fun n=>((n : Nat) : Int)).map D.int:=by rw [List.map_map]; rfl
  unfold okP thD
  rw [e,Bool.and_eq_true,decide_eq_true_eq]
  refine ⟨z6l _,?_⟩
  show PyData.depthAll (z3Q ((th.map fun n=>((n : Nat) : Int)).map D.int)) + 1≤60
  rw [z6C]
  decide
theorem ne_self {d : D} (h : okP d=true) : neD d d=some (.bl false):=by
  unfold neD
  rw [h]
  show (if (true && true)=true then some (D.bl (!PyData.eqv (toP d) (toP d))) else none)=_
  rw [if_pos (show (true && true)=true from rfl),SeqAt.eqv_refl _ (z0r h).1]
  rfl
theorem app_thV {th : List Nat} {k : Nat} (hl : th.length≤1000000) : m0V z6y (some (thD th)) (some [.int (k : Int)])=some (thD (th ++ [k])):=by
  show Option.map _ (if (th.map nD).length < sizeLine then some (th.map nD ++ [.int (k : Int)]) else none)=_
  rw [List.length_map,if_pos (by rw [PySem.sizeLine_eq]; omega)]
  unfold thD
  rw [List.map_append]
  rfl
theorem y3t {fi : DS->Option (List D)} {c : DS->Option Bool} {f : DE} {δ : DS} : z4Q fi c f δ=z2o (fi δ) (two (z3x c f δ)):=by
  unfold z4Q z2o
  cases fi δ <;> rfl
theorem ev_enum {f : DE} {δ : DS} : y0m f δ=(f δ).bind z9f:=(rfl)
noncomputable def z3u (k : Nat) : List Bool->List Nat
  | []=>[]
  | b :: r=>if b=true then k :: z3u (k + 1) r else z3u (k + 1) r
theorem y1z : ∀ {r : List Bool} {k : Nat},z3u k r=(List.range' k r.length).filter fun i=>r.getD (i - k) false
  | [],_=>rfl
  | b :: r,k=>by
    have ih:=y1z (r:=r) (k:=k + 1)
    unfold z3u
    rw [List.length_cons,List.range'_succ]
    have e : (List.range' (k + 1) r.length).filter (fun i=>(b :: r).getD (i - k) false)=(List.range' (k + 1) r.length).filter fun i=>r.getD (i - (k + 1)) false:=by
      apply List.filter_congr
      intro i hi
      have:=(List.mem_range'_1.mp hi).1
      have e : i - k=(i - (k + 1)) + 1:=by omega
      rw [e]
      rfl
    cases b with
    | true=>
      rw [List.filter_cons_of_pos (by simp),e,ih]
      rfl
    | false=>
      rw [List.filter_cons_of_neg (by simp),e,ih]
      rfl
theorem z5s : ∀ {ds : List D} {k : Nat},(z0s k ds).length=ds.length
  | [],_=>rfl
  | d :: r,k=>by show (z0s (k + 1) r).length + 1=r.length + 1; rw [z5s]
end L2
namespace L2
open PySem
noncomputable def chO (F G : D->D->Option D) (x y z : Option D) : Option D:=match x,y with
  | some x,some y=>match F x y with
    | some (.bl true)=>z.bind fun z=>G y z
    | some (.bl false)=>some (.bl false)
    | _=>none
  | _,_=>none
theorem y4C {F G : D->D->Option D} {f g h : DE} {δ : DS} : z5Z F G f g h δ=chO F G (f δ) (g δ) (h δ):=by
  unfold z5Z chO
  cases f δ <;> cases g δ <;> rfl
theorem y4N {F G : D->D->Option D} {x y z : D} {b c : Bool} (h1 : F x y=some (.bl b)) (h2 : G y z=some (.bl c)) : chO F G (some x) (some y) (some z)=some (.bl (b && c)):=by
  show (match F x y with
    | some (.bl true)=>(some z).bind fun z=>G y z
    | some (.bl false)=>some (.bl false)
    | _=>none)=_
  rw [h1]
  cases b with
  | true=>exact h2
  | false=>rfl
noncomputable def inO : Option D->Option D->Option Bool
  | some x,some y=>inK x y
  | _,_=>none
theorem ev_din' {f g : DE} {δ : DS} : y4O f g δ=inO (f δ) (g δ):=by
  unfold y4O inO
  cases f δ <;> cases g δ <;> rfl
theorem eo_in {x y : D} : inO (some x) (some y)=inK x y:=(rfl)
theorem ev_dnin {f g : DE} {δ : DS} : y3w f g δ=(y4O f g δ).map (!·):=(rfl)
noncomputable def y2r (o k v : Option D) : Option D:=match o,k,v with
  | some (.dct ks ds),some dk,some d=>(z8V dk).bind fun k=>if z1L ds=true∧ks.length < sizeLine then some (.dct (z7v ks k) (z7m ks ds k d)) else none
  | _,_,_=>none
theorem m_dput {i : Nat} {s : SS} {dk d : D} {ks : List Key} {ds : List D} : (match z8V dk,(some (some (SD.ow (.dct ks ds))) : Option (Option SD)) with
      | some k,some (some (.ow (.dct ks ds)))=>if z1L ds=true∧ks.length < sizeLine then some (Out.nx ((z0w i s).set i (some (.ow (.dct (z7v ks k) (z7m ks ds k d)))))) else none
      | _,_=>none)=z7d i (y2r (some (.dct ks ds)) (some dk) (some d)) s:=by
  show _=z7d i ((z8V dk).bind _) s
  cases z8V dk with
  | none=>rfl
  | some k=>
    show (if z1L ds=true∧ks.length < sizeLine then _ else _)=z7d i (if z1L ds=true∧ks.length < sizeLine then _ else _) s
    split <;> rfl
theorem ev_dput {i : Nat} {fk fv : DE} {s : SS} : dput i fk fv s=z7d i (y2r (owA i s) (fk (z0v s)) (y3x (fv (z0v s)))) s:=by
  unfold dput owA
  rcases fv (z0v s) with _ | d
  · rcases fk (z0v s) with _ | dk <;> rcases s[i]? with _ | _ | ⟨x | x | ⟨r,x⟩⟩ <;> (first | rfl | (cases x <;> rfl))
  · show (if d.imm=true then _ else _)=z7d i (y2r _ _ (if d.imm=true then some d else none)) s
    split
    · rcases fk (z0v s) with _ | dk
      · rcases s[i]? with _ | _ | ⟨x | x | ⟨r,x⟩⟩ <;> (first | rfl | (cases x <;> rfl))
      · rw [Option.bind_some]
        rcases s[i]? with _ | _ | ⟨x | x | ⟨r,x⟩⟩
        · cases z8V dk <;> rfl
        · cases z8V dk <;> rfl
        · cases z8V dk <;> rfl
        · cases x with
          | dct ks ds=>exact m_dput
          | _=>(cases z8V dk <;> rfl)
        · cases z8V dk <;> rfl
    · rcases fk (z0v s) with _ | dk <;> rcases s[i]? with _ | _ | ⟨x | x | ⟨r,x⟩⟩ <;> (first | rfl | (cases x <;> rfl))
noncomputable def catO : Option D->Option D->Option (List D)
  | some x,some y=>catLs x y
  | _,_=>none
theorem ev_cat {f g : DE} {δ : DS} : dCat f g δ=catO (f δ) (g δ):=by
  unfold dCat catO
  cases f δ <;> cases g δ <;> rfl
theorem eo_cat {ds es : List D} (h : ds.length + es.length≤1000000) : catO (some (.lst ds)) (some (.lst es))=some (ds ++ es):=if_pos (z3q h)
theorem es_frz0 {d : D} {r : SS} : y3P 0 (some (.ow d) :: r)=some (.sh d) :: r:=(rfl)
theorem es_frzS {i : Nat} {x : Option SD} {r : SS} : y3P (i + 1) (x :: r)=x :: y3P i r:=by
  unfold y3P
  rw [List.getElem?_cons_succ]
  rcases r[i]? with _ | _ | ⟨y | y | ⟨q,y⟩⟩ <;> rfl
noncomputable def z8z (p : List Int) : D:=.dct (p.map Sum.inl) (p.map fun _=>.bl true)
theorem y0T {p : List Int} {x : Int} (h : x ∉ p) : inK (.int x) (z8z p)=some false:=by
  show some (z9c (p.map Sum.inl) (.inl x))=_
  congr 1
  unfold z9c
  rw [List.any_map,List.any_eq_false]
  intro y hy z
  have : (Sum.inl y : Key)=Sum.inl x:=of_decide_eq_true z
  cases this
  exact h hy
theorem z8c : ∀ p : List Int,z1L (p.map fun _=>D.bl true)=true
  | []=>rfl
  | _ :: p=>by
    show (true && z1L (p.map fun _=>D.bl true))=true
    rw [z8c p]
    rfl
theorem y4a {p : List Int} {x : Int} (h : x ∉ p) (hl : p.length≤1000000) : y2r (some (z8z p)) (some (.int x)) (some (.bl true))=some (z8z (p ++ [x])):=by
  show (if z1L (p.map fun _=>D.bl true)=true∧(p.map (Sum.inl : Int->Key)).length < sizeLine then _ else _)=_
  rw [if_pos ⟨z8c p,by rw [List.length_map,PySem.sizeLine_eq]; omega⟩]
  have hh : z9c (p.map Sum.inl) (.inl x)=false:=by
    have:=y0T h
    exact Option.some.inj this
  unfold z7v z7m z8z
  rw [hh,if_neg Bool.false_ne_true,if_neg Bool.false_ne_true,List.map_append,List.map_append]
  rfl
end L2
namespace Prg
open PySem L2
noncomputable def extV (o x : Option D) : Option D:=match x,o with
  | some (.lst es),some (.lst ds)=>if ds.length + es.length≤sizeLine then some (.lst (ds ++ es)) else none
  | _,_=>none
theorem z9k : ∀ ns : List Int,z2H (ns.map .int)=some ns
  | []=>rfl
  | n :: ns=>by
    rw [List.map_cons]
    unfold z2H
    rw [z9k ns]
    rfl
theorem z9V {ns : List Int} (h : ns.length < 64) : z5K [.lst (ns.map .int)]=some ((z4I ns).map .int):=by
  show ((z2H (ns.map .int)).bind fun ns=>if ns.length < 64 then some ((z4I ns).map D.int) else none)=_
  rw [z9k,Option.bind_some,if_pos h]
noncomputable def sm (f : Nat->Nat) : Nat->Nat
  | 0=>0
  | n + 1=>sm f n + f n
end Prg
namespace L2
open PySem
theorem y5r {α : Type} {enc : α->D} {c : DS->Option Bool} {f : DE} {δ : DS} (p : α->Bool) (g : α->D) {xs : List α} (hl : xs.length≤1000) (hc : ∀ x∈xs,c (δ ++ [some (enc x)])=some (p x)) (hf : ∀ x∈xs,p x=true->f (δ ++ [some (enc x)])=some (g x)) : z2o (some (xs.map enc)) (z2F c f δ)=some ((xs.filter p).map g):=by
  rw [z4a (by rw [List.length_map]; omega)]
  exact z8K p g hc hf
theorem z3l {α : Type} {enc : α->D} {f : DE} {δ : DS} (g : α->D) {xs : List α} (hl : xs.length≤1000) (hf : ∀ x∈xs,f (δ ++ [some (enc x)])=some (g x)) : z2o (some (xs.map enc)) (z2F z3V f δ)=some (xs.map g):=by
  rw [z4a (by rw [List.length_map]; omega)]
  exact z4f g hf
theorem z2K {m : Nat} (h : m≤1000000) : rng1 (some (.int (m : Int)))=some (z4x 0 m):=by rw [eo_rng1 (by omega)]; rfl
theorem y1V {a : Nat} {th : List Nat} : y1t (.int (a : Int)) (thD th)=some (th.contains a):=by
  unfold thD y1t
  show (if (okP (.int (a : Int)) && okP (.lst (th.map nD)))=true then _ else none)=_
  rw [show okP (.lst (th.map nD))=true from z9P th,show okP (.int (a : Int))=true from rfl]
  show some ((th.map nD).any fun y=>PyData.eqv (toP y) (toP (.int (a : Int))))=_
  congr 1
  rw [List.any_map,List.contains_eq_any_beq]
  congr 1
  funext x
  show decide ((x : Int)=(a : Int))=(a == x)
  by_cases h : x=a
  · subst h; simp
  · have : ¬ a=x:=fun e=>h e.symm
    have h2 : ¬ (x : Int)=(a : Int):=by omega
    simp [this,h2]
theorem in_ths {a : Nat} {th : List Nat} : inD (.int (a : Int)) (thD th)=some (.bl (th.contains a)):=by
  unfold inD
  rw [y1V]
  rfl
theorem nin_ths {a : Nat} {th : List Nat} : y3y (.int (a : Int)) (thD th)=some (.bl (!th.contains a)):=by
  unfold y3y
  rw [y1V]
  rfl
theorem y5H {th : List Nat} : z7x (thD th)=some (!th.isEmpty):=by cases th <;> rfl
theorem z9Q {α : Type} {enc : α->D} {c : DS->Option Bool} {f : DE} {δ : DS} (p : Nat->α->Bool) (g : Nat->α->D) : ∀ {xs : List α} {k : Nat},(∀ i (h : i < xs.length),c (δ ++ [some (.int ((k + i : Nat) : Int)),some (enc xs[i])])=some (p (k + i) xs[i]))->(∀ i (h : i < xs.length),p (k + i) xs[i]=true->f (δ ++ [some (.int ((k + i : Nat) : Int)),some (enc xs[i])])=some (g (k + i) xs[i])) →
    z1z (two (z3x c f δ)) (z0s k (xs.map enc))=some (((xs.zipIdx k).filter fun z=>p z.2 z.1).map fun z=>g z.2 z.1)
  | [],_,_,_=>rfl
  | x :: r,k,hc,hf=>by
    have ih:=z9Q (xs:=r) (k:=k + 1) p g (fun i h=>by
      have:=hc (i + 1) (by simpa using h)
      have e : k + 1 + i=k + (i + 1):=by omega
      rw [e]
      simpa using this) fun i h hp=>by
      have e : k + 1 + i=k + (i + 1):=by omega
      rw [e] at hp ⊢
      have:=hf (i + 1) (by simpa using h) (by simpa using hp)
      simpa using this
    show z1z _ (.tup [.int (k : Nat),enc x] :: z0s (k + 1) (r.map enc))=_
    unfold z1z
    rw [ih]
    have h0:=hc 0 (by simp)
    have h1:=hf 0 (by simp)
    simp only [Nat.add_zero,List.getElem_cons_zero] at h0 h1
    have e : two (z3x c f δ) (.tup [.int (k : Nat),enc x])=some (if p k x=true then some (g k x) else none):=by
      show z3x c f δ (.int (k : Nat)) (enc x)=_
      unfold z3x
      rw [h0]
      cases hp : p k x with
      | true=>
        have:=h1 hp
        show (if true=true then (f (δ ++ [some (.int (k : Nat)),some (enc x)])).map some else some none)=_
        rw [if_pos rfl,this]
        rfl
      | false=>rfl
    rw [e,List.zipIdx_cons,List.filter_cons]
    show some (y5h _ _)=_
    cases hp : p k x with
    | true=>rfl
    | false=>rfl
theorem cx2_of {α : Type} {enc : α->D} {c : DS->Option Bool} {f : DE} {δ : DS} (p : Nat->α->Bool) (g : Nat->α->D) {xs : List α} (hl : xs.length≤1000) (hc : ∀ i (h : i < xs.length),c (δ ++ [some (.int (i : Int)),some (enc xs[i])])=some (p i xs[i])) (hf : ∀ i (h : i < xs.length),p i xs[i]=true->f (δ ++ [some (.int (i : Int)),some (enc xs[i])])=some (g i xs[i])) :
    z2o (some (z0s 0 (xs.map enc))) (two (z3x c f δ))=some ((xs.zipIdx.filter fun z=>p z.2 z.1).map fun z=>g z.2 z.1):=by
  rw [z4a (by rw [z5s,List.length_map]; omega)]
  refine z9Q p g (fun i h=>?_) fun i h hp=>?_
  · rw [Nat.zero_add]; exact hc i h
  · rw [Nat.zero_add] at hp ⊢; exact hf i h hp
theorem enum_th {th : List Nat} : z9f (thD th)=some (z0s 0 (th.map nD)):=(rfl)
theorem y5Q {a b : List Nat} (h : a.length + b.length≤1000000) : catO (some (thD a)) (some (thD b))=some ((a ++ b).map nD):=by
  show catO (some (.lst (a.map nD))) (some (.lst (b.map nD)))=_
  rw [eo_cat (by rw [List.length_map,List.length_map]; exact h),List.map_append]
theorem z7l (o : List Nat) : D.lst (o.map nD)=thD o:=(rfl)
theorem th_one {j : Nat} : D.lst [.int (j : Int)]=thD [j]:=(rfl)
theorem z1M (o : List Nat) : z6J (some (o.map nD))=some (o.map nD):=z2Y (z7I o)
theorem z2G : z6J (some [])=some []:=(rfl)
theorem y1G : D.lst []=thD []:=(rfl)
noncomputable def movX (x : Option D) (i j : Nat) (s : SS) : Option Out:=match x with
  | some d=>some (.nx (((z0w j s).set j none).set i (some (.ow d))))
  | none=>none
theorem ev_mov {i j : Nat} {s : SS} : movO i j s=movX (owA j s) i j s:=by
  unfold movO owA movX
  generalize s[j]? = z
  rcases z with _ | _ | x
  · rfl
  · rfl
  · cases x <;> rfl
theorem eo_mov {d : D} {i j : Nat} {s : SS} : movX (some d) i j s=some (.nx (((z0w j s).set j none).set i (some (.ow d)))):=(rfl)
theorem z3J {c : DS->Option Bool} {b : SS->Option Out} {QO : Out->Prop} (I : Nat->SS->Prop) : ∀ {n : Nat} {s : SS},I n s->(∀ n δ,I n δ->∃ k,c (z0v δ)=some k∧(k=false->QO (.nx δ))∧(k=true->∃ n',n=n' + 1∧hol (b δ) fun o=>match o with | .nx δ'=>I n' δ' | .ct δ'=>I n' δ' | .bk δ'=>QO (.nx δ') | .rt d=>QO (.rt d) | .ex e δ'=>QO (.ex e δ')))->∀ {f : Nat},n < f->hol (z3w c b f s) QO
  | n,s,h0,hs,0,hf=>absurd hf (by omega)
  | n,s,h0,hs,f + 1,hf=>by
    obtain ⟨k,ec,h1,h2⟩:=hs n s h0
    unfold z3w
    rw [ec]
    cases k with
    | false=>exact ⟨_,rfl,h1 rfl⟩
    | true=>
      obtain ⟨n',rfl,o,eb,q⟩:=h2 rfl
      show hol ((b s).bind _) QO
      rw [eb]
      cases o with
      | nx s1=>exact z3J I q hs (by omega)
      | ct s1=>exact z3J I q hs (by omega)
      | bk s1=>exact ⟨_,rfl,q⟩
      | rt d=>exact ⟨_,rfl,q⟩
      | ex e s1=>exact ⟨_,rfl,q⟩
theorem y2G {np nl : Nat} {b : SS->Option Out} {ds : List D} {d : D} (hl : ds.length=np) (h : hol (b (ds.map (fun d=>some (.sh d)) ++ List.replicate nl none)) fun o=>o = .rt d) : y5A np nl b ds=some (.val d):=by
  unfold y5A
  rw [if_pos hl,hol_is.mp h]
noncomputable def rsX (c : Nat) (x : Option D) (s : SS) : Option Out:=match x with
  | some _=>some (.ex c s)
  | none=>none
theorem y4p {c : Nat} {f : DE} {s : SS} : z4w c f s=rsX c (f (z0v s)) s:=by
  unfold z4w rsX
  generalize f (z0v s)=x
  cases x <;> rfl
theorem y4J {c : Nat} {d : D} {s : SS} : rsX c (some d) s=some (.ex c s):=(rfl)
theorem y5a {m : List D->Option XO} {fl : List DE} {δ : DS} : z6b m fl δ=(z0u fl δ).bind m:=(rfl)
theorem y3X {m : List D->Option XO} {fl : List DE} {δ : DS} : z9C m fl δ=valO ((z0u fl δ).bind m):=(rfl)
noncomputable def repO (x y : Option D) : Option (List D):=x.bind fun a=>y.bind fun b=>repLs a b
theorem ev_rep {f g : DE} {δ : DS} : dRep f g δ=repO (f δ) (g δ):=(rfl)
theorem y1y {d : D} {n : Nat} (h : n≤1000000) : repO (some (.lst [d])) (some (.int (n : Int)))=some (List.replicate n d):=by
  have e : ∀ k : Nat,(List.replicate k [d]).flatten=List.replicate k d:=fun k=>by
    induction k with
    | zero=>rfl
    | succ k ih=>rw [List.replicate_succ,List.flatten_cons,ih,List.replicate_succ]; rfl
  show (if (0≤(n : Int)∧(n : Int)≤1000000)∧[d].length * (n : Int).toNat≤sizeLine then some (List.replicate (n : Int).toNat [d]).flatten else none)=_
  rw [if_pos ⟨⟨by omega,by omega⟩,z3q (by simp; exact h)⟩,Int.toNat_natCast,e]
theorem y4x {f g : DE} {δ : DS} : y1d f g δ=o2 mkD1 (f δ) (g δ):=ev_d2
theorem ev_rngN {f g h : DE} {δ : DS} : y4b f g h δ=rngN (f δ) (g δ) (h δ):=(rfl)
theorem ea_mkD1 {a b : Int} : mkD1 (.int a) (.int b)=some (.dct [.inl a] [.int b]):=(rfl)
theorem ea_ixLL {ds : List D} {i : Int} : ixL (.lst ds) (.int i)=atI ds i:=(rfl)
noncomputable def forX2 (i j : Nat) (xs : Option (List D)) (b : SS->Option Out) (s : SS) : Option Out:=xs.bind fun ds=>z4h i j b ds s
theorem y4e {i j : Nat} {f : DS->Option (List D)} {g : SS->Option Out} {s : SS} : y4A i j f g s=forX2 i j (f (shV s)) g s:=(rfl)
theorem eo_for2 {i j : Nat} {ds : List D} {b : SS->Option Out} {s : SS} : forX2 i j (some ds) b s=z4h i j b ds s:=(rfl)
theorem z6O {α : Type} {enc : α->D} {i j : Nat} {b : SS->Option Out} {QO : Out->Prop} {xs : List α} (I : List α->SS->Prop) (hs : ∀ pre x post,xs=pre ++ x :: post->∀ δ,I pre δ->hol (b ((δ.set i (some (.sh (.int ((pre.length : Nat) : Int))))).set j (some (.sh (enc x))))) fun o=>match o with | .nx δ'=>I (pre ++ [x]) δ' | .ct δ'=>I (pre ++ [x]) δ' | .bk δ'=>QO (.nx δ') | .rt d=>QO (.rt d) | .ex c δ'=>QO (.ex c δ')) (he : ∀ δ,I xs δ->QO (.nx δ)) :
    ∀ {post pre : List α} {s : SS},xs=pre ++ post->I pre s->hol (z4h i j b (z0s pre.length (post.map enc)) s) QO
  | [],pre,s,e,h=>⟨_,rfl,he s (by rw [e,List.append_nil]; exact h)⟩
  | x :: post,pre,s,e,h=>by
    obtain ⟨o,eo,q⟩:=hs pre x post e s h
    have e2 : z0s pre.length ((x :: post).map enc) = .tup [.int ((pre.length : Nat) : Int),enc x] :: z0s (pre ++ [x]).length (post.map enc):=by
      rw [List.map_cons,List.length_append]
      rfl
    rw [e2]
    unfold z4h
    show hol ((b ((s.set i (some (.sh (.int ((pre.length : Nat) : Int))))).set j (some (.sh (enc x))))).bind _) QO
    rw [eo]
    have e3 : xs=(pre ++ [x]) ++ post:=by rw [e]; simp
    cases o with
    | nx s1=>exact z6O I hs he e3 q
    | ct s1=>exact z6O I hs he e3 q
    | bk s1=>exact ⟨_,rfl,q⟩
    | rt d=>exact ⟨_,rfl,q⟩
    | ex c s1=>exact ⟨_,rfl,q⟩
theorem eo_val {d : D} : valO (some (.val d))=some d:=(rfl)
noncomputable def xeO (x : Option XO) (s : SS) : Option Out:=match x with
  | some (.val _)=>some (.nx s)
  | some (.exc c)=>some (.ex c s)
  | none=>none
theorem y3D {F : DS->Option XO} {s : SS} : y3i F s=xeO (F (z0v s)) s:=by
  unfold y3i xeO
  generalize F (z0v s)=x
  rcases x with _ | _ | _ <;> rfl
theorem eo_xeV {d : D} {s : SS} : xeO (some (.val d)) s=some (.nx s):=(rfl)
theorem es_own0 {d : D} {r : SS} : z7U (some (.ow d) :: r) 0=some d:=(rfl)
theorem es_ownS {x : Option SD} {r : SS} {i : Nat} : z7U (x :: r) (i + 1)=z7U r i:=by
  unfold z7U
  rw [List.getElem?_cons_succ]
end L2
namespace L2
open PySem
noncomputable def iv1 : Option D->Option (Int × Nat)
  | some (.int j)=>if -(2 ^ 62)≤j∧j < 2 ^ 62 then some (0,j.toNat) else none
  | _=>none
theorem ev_iv1 {f : DE} {δ : DS} : dIv1 f δ=iv1 (f δ):=(rfl)
noncomputable def forIX (i : Nat) (o : Option (Int × Nat)) (b : SS->Option Out) (s : SS) : Option Out:=o.bind fun z=>z4y i b (z4x z.1 z.2) s
theorem ev_forI {i : Nat} {f : DS->Option (Int × Nat)} {b : SS->Option Out} {s : SS} : forI i f b s=forIX i (f (z0v s)) b s:=(rfl)
theorem eo_forI {i : Nat} {lo : Int} {n : Nat} {b : SS->Option Out} {s : SS} : forIX i (some (lo,n)) b s=z4y i b (z4x lo n) s:=(rfl)
theorem eo_iv1 {n : Int} (h : -(2 ^ 62)≤n∧n < 2 ^ 62) : iv1 (some (.int n))=some (0,n.toNat):=if_pos h
theorem y1e {m : Nat} (h : m≤1000000) : iv1 (some (.int (m : Int)))=some (0,m):=by rw [eo_iv1 (by omega)]; rfl
noncomputable def r3O (x y z : Option D) : Option Out:=match x,y,z with
  | some d,some e,some f=>some (.rt (.lst [d,e,f]))
  | _,_,_=>none
theorem ev_ret3 {i j l : Nat} {s : SS} : ret3 i j l s=r3O (z7U s i) (z7U s j) (z7U s l):=by
  unfold ret3 r3O
  generalize z7U s i=x
  generalize z7U s j=y
  generalize z7U s l=z
  rcases x with _ | x <;> rcases y with _ | y <;> rcases z with _ | z <;> rfl
theorem eo_r3 {d e f : D} : r3O (some d) (some e) (some f)=some (.rt (.lst [d,e,f])):=(rfl)
theorem z6R {α : Type} {enc : α->D} {xs : List α} {x : α} (hl : xs.length≤1000000) : m0V z6y (some (.lst (xs.map enc))) (some [enc x])=some (.lst ((xs ++ [x]).map enc)):=by
  show (if (xs.map enc).length < sizeLine then some (xs.map enc ++ [enc x]) else none).map D.lst=_
  rw [List.length_map,if_pos (by rw [PySem.sizeLine_eq]; omega),List.map_append]
  rfl
theorem y4o {α : Type} {enc : α->D} {xs : List α} {x : α} {b : Nat} (hb : b≤xs.length) (hl : xs.length≤1000000) : m0V insF (some (.lst (xs.map enc))) (some [.int (b : Int),enc x])=some (.lst ((xs.take b ++ x :: xs.drop b).map enc)):=by
  show Option.map _ (if (xs.map enc).length < sizeLine∧-(2 ^ 63)≤(b : Int)∧(b : Int) < 2 ^ 63 then _ else none)=_
  rw [List.length_map,if_pos ⟨by rw [PySem.sizeLine_eq]; omega,by omega,by omega⟩,ins_at hb]
  rw [List.map_append,List.map_cons,List.map_take,List.map_drop]
  rfl
theorem ix_map {α : Type} {enc : α->D} {xs : List α} {k : Nat} {x : α} (h : xs[k]? = some x) : ixD (.lst (xs.map enc)) (.int (k : Int))=some (enc x):=z7u (by rw [List.getElem?_map,h]; rfl)
theorem y1D {α : Type} {enc : α->D} {xs : List α} {k : Nat} {d : α} (h : k < xs.length) : ixD (.lst (xs.map enc)) (.int (k : Int))=some (enc (xs.getD k d)):=ix_map (by simp [List.getD,List.getElem?_eq_getElem h])
theorem y1c {α : Type} {enc : α->D} {xs : List α} : z2U [.lst (xs.map enc)]=some (.int (xs.length : Int)):=by
  show some (D.int ((xs.map enc).length : Int))=_
  rw [List.length_map]
theorem z9N {x : D} {r : List D} : atI (x :: r) 0=some x:=z6u (j:=0) rfl
theorem ea_min {i j : Int} : minF [.int i,.int j]=some (.int (if j < i then j else i)):=(rfl)
noncomputable def y4j (ws : List Int) : D:=.lst (ws.map .int)
theorem y4U {f : DE} {δ : DS} : z9i f δ=(f δ).bind z7q:=(rfl)
end L2
namespace L2
open PySem
noncomputable def apX (x y : Option D) (i j : Nat) (s : SS) : Option Out:=match x,y with
  | some d,some (.lst ds)=>(z6y ds [d]).map fun ds'=>.nx (givS i j (.lst ds') s)
  | _,_=>none
theorem ev_appO {i j : Nat} {s : SS} : appO i j s=apX (owA j s) (owA i s) i j s:=by
  unfold appO owA apX
  rcases s[j]? with _ | _ | ⟨x | x | ⟨r,x⟩⟩ <;> rcases s[i]? with _ | _ | ⟨y | y | ⟨r',y⟩⟩ <;> (first | rfl | (cases y <;> rfl))
theorem ap_map {α : Type} {enc : α->D} {xs : List α} {x : α} {i j : Nat} {s : SS} (hl : xs.length≤1000000) : apX (some (enc x)) (some (.lst (xs.map enc))) i j s=some (.nx (((z0w i (z0w j s)).set j none).set i (some (.ow (.lst ((xs ++ [x]).map enc)))))):=by
  have : z6y (xs.map enc) [enc x]=some (xs.map enc ++ [enc x]):=if_pos (by rw [List.length_map,PySem.sizeLine_eq]; omega)
  show (z6y (xs.map enc) [enc x]).map _=_
  rw [this,List.map_append]
  rfl
end L2
namespace L2
open PySem
noncomputable def y5o (o x : Option D) : Option D:=match x,o with
  | some (.lst es),some (.lst ds)=>if z1L es=true∧ds.length + es.length≤sizeLine then some (.lst (ds ++ es)) else none
  | _,_=>none
theorem y4F {i : Nat} {f : DE} {s : SS} : y2w i f s=z7d i (y5o (owA i s) (f (z0v s))) s:=by
  unfold y2w owA
  cases f (z0v s) with
  | none=>rcases s[i]? with _ | _ | ⟨x | x | ⟨r,x⟩⟩ <;> rfl
  | some d=>
    cases d <;> rcases s[i]? with _ | _ | ⟨x | x | ⟨r,x⟩⟩ <;> (first | rfl | (cases x <;> (first | rfl | (show (if _ then _ else _)=z7d i (if _ then _ else _) s; split <;> rfl))))
theorem eo_extD {ds es : List D} (hi : z1L es=true) (h : ds.length + es.length≤1000000) : y5o (some (.lst ds)) (some (.lst es))=some (.lst (ds ++ es)):=if_pos ⟨hi,z3q h⟩
end L2
namespace L2
open PySem
end L2
namespace L2
open PySem
end L2
namespace L2
open PySem
end L2
namespace L2
open PySem
end L2
set_option maxHeartbeats 4000000
namespace Prg
open PySem PySem.Spec PyProof.Rows L2
noncomputable def top (i : Nat) : Stmt:=PySem.Challenge.pw_askorder_k77_whole_top_rings.main.body.getD i (.Pass ⟨0,0,0,0⟩)
noncomputable abbrev z5U : Stmt:=top 4
noncomputable abbrev N_part : List Str:=["table", "things"]
noncomputable abbrev y1w : List Str:=["table", "things"]
noncomputable abbrev z3p : Stmt:=top 5
noncomputable abbrev y3A : List Str:=["row", "things"]
noncomputable abbrev z6T : List Str:=["row", "things"]
noncomputable abbrev z1v : Stmt:=top 6
noncomputable abbrev z8Z : List Str:=["table", "one"]
noncomputable abbrev z3y : List Str:=["table", "one"]
noncomputable abbrev z1f : Stmt:=top 7
noncomputable abbrev z6s : List Str:=["marks"]
noncomputable abbrev z2E : List Str:=["marks"]
noncomputable abbrev z2n : Stmt:=top 9
noncomputable abbrev y2F : List Str:=["table", "one"]
noncomputable abbrev z5c : List Str:=["table", "one"]
noncomputable abbrev z1n : Stmt:=top 10
noncomputable abbrev z7w : List Str:=["table", "one", "steps", "edge", "further", "here", "other"]
noncomputable abbrev z3h : List Str:=["table", "one"]
noncomputable abbrev z4j : Stmt:=top 11
noncomputable abbrev N_rings : List Str:=["table", "counts"]
noncomputable abbrev z8k : List Str:=["table"]
noncomputable abbrev z1c : Stmt:=top 12
noncomputable abbrev z6B : List Str:=["counts", "wanted"]
noncomputable abbrev z2R : List Str:=["counts", "wanted"]
noncomputable abbrev z1O : Stmt:=top 13
noncomputable abbrev y0n : List Str:=["table"]
noncomputable abbrev z4m : List Str:=["table"]
noncomputable abbrev z0B : Stmt:=top 15
noncomputable abbrev z4n : List Str:=["table", "things"]
noncomputable abbrev z1x : List Str:=["table", "things"]
noncomputable abbrev z2l : Stmt:=top 16
noncomputable abbrev y1K : List Str:=["table", "things"]
noncomputable abbrev z5b : List Str:=["table", "things"]
noncomputable abbrev z1d : Stmt:=top 17
noncomputable abbrev z6N : List Str:=["table", "other", "things", "marks"]
noncomputable abbrev z2y : List Str:=["table", "other", "things"]
noncomputable abbrev z2t : Stmt:=top 18
noncomputable abbrev y1p : List Str:=["table", "things", "wider", "further"]
noncomputable abbrev z5v : List Str:=["table", "things"]
noncomputable abbrev z3X : Stmt:=top 19
noncomputable abbrev N_parts : List Str:=["table", "from_the_top", "found", "thing", "mates"]
noncomputable abbrev z8U : List Str:=["table"]
noncomputable abbrev z0I : Stmt:=top 20
noncomputable abbrev z4W : List Str:=["table", "thing"]
noncomputable abbrev z1V : List Str:=["table", "thing"]
noncomputable abbrev z0S : Stmt:=top 21
noncomputable abbrev z5E : List Str:=["table", "thing", "other"]
noncomputable abbrev z2k : List Str:=["table", "thing", "other"]
noncomputable abbrev z1P : Stmt:=top 23
noncomputable abbrev y0g : List Str:=["value", "many"]
noncomputable abbrev z4g : List Str:=["value", "many"]
noncomputable abbrev z0A : Stmt:=top 24
noncomputable abbrev z4e : List Str:=["order", "many", "told", "thing"]
noncomputable abbrev z1B : List Str:=["order", "many"]
noncomputable abbrev z1C : Stmt:=top 26
noncomputable abbrev z8X : List Str:=["pieces", "many", "told", "piece", "places", "place", "thing"]
noncomputable abbrev z2w : List Str:=["pieces", "many"]
noncomputable abbrev z3s : Stmt:=top 27
noncomputable abbrev y4w : List Str:=["table", "pieces"]
noncomputable abbrev z4F : List Str:=["table", "pieces"]
noncomputable abbrev z0Q : Stmt:=top 29
noncomputable abbrev z5I : List Str:=["script", "k"]
noncomputable abbrev z2h : List Str:=["script", "k"]
noncomputable abbrev z0L : Stmt:=top 30
noncomputable abbrev z5f : List Str:=["cell", "many", "rows", "rest", "one", "other"]
noncomputable abbrev z1U : List Str:=["cell", "many"]
noncomputable abbrev z1j : Stmt:=top 31
noncomputable abbrev z7B : List Str:=["script", "many", "outer", "inner", "homes", "k", "cell", "most", "size", "at", "turn"]
noncomputable abbrev z2W : List Str:=["script"]
noncomputable abbrev z1m : Stmt:=top 32
noncomputable abbrev z7z : List Str:=["mixed", "one", "other"]
noncomputable abbrev z2Z : List Str:=["mixed", "one", "other"]
noncomputable abbrev z1k : Stmt:=top 33
noncomputable abbrev z7P : List Str:=["mixed", "rows", "one"]
noncomputable abbrev z3i : List Str:=["mixed"]
noncomputable abbrev z1b : Stmt:=top 34
noncomputable abbrev z6P : List Str:=["mixed", "pieces", "k"]
noncomputable abbrev z2P : List Str:=["mixed"]
noncomputable abbrev z1y : Stmt:=top 35
noncomputable abbrev z8Q : List Str:=["table", "things"]
noncomputable abbrev z3A : List Str:=["table", "things"]
noncomputable abbrev z1N : Stmt:=top 36
noncomputable abbrev y0F : List Str:=["table", "pieces", "upper", "piece", "found", "k"]
noncomputable abbrev z4k : List Str:=["table", "pieces"]
noncomputable abbrev z6F : Stmt:=top 37
noncomputable abbrev N_law : List Str:=["script", "mixed", "table", "told", "pieces"]
noncomputable abbrev P_law : List Str:=["script"]
theorem nd0 : (["row", "things", "other"] : List Str).Nodup:=by decide +kernel
theorem nd1 : (["table", "things", "one"] : List Str).Nodup:=by decide +kernel
theorem nd2 : (["marks", "place", "mark"] : List Str).Nodup:=by decide +kernel
theorem nd3 : (["counts", "wanted", "place", "count"] : List Str).Nodup:=by decide +kernel
theorem nd4 : (["table", "counts", "count"] : List Str).Nodup:=by decide +kernel
theorem nd5 : (["table", "counts", "one"] : List Str).Nodup:=by decide +kernel
theorem nd6 : (["table", "other", "things", "marks", "thing"] : List Str).Nodup:=by decide +kernel
theorem nd7 : (["table", "things", "other"] : List Str).Nodup:=by decide +kernel
theorem nd8 : (["table", "thing", "other"] : List Str).Nodup:=by decide +kernel
theorem nd9 : (["table", "pieces", "piece"] : List Str).Nodup:=by decide +kernel
theorem nd10 : (["cell", "many", "rows", "rest", "one", "other", "k"] : List Str).Nodup:=by decide +kernel
theorem nd11 : (["mixed", "rows", "one", "other"] : List Str).Nodup:=by decide +kernel
theorem nd12 : (["mixed", "pieces", "k", "thing"] : List Str).Nodup:=by decide +kernel
theorem nd13 : (["table", "things", "one", "other"] : List Str).Nodup:=by decide +kernel
theorem nd14 : (["table", "pieces", "upper", "piece", "found", "k", "at"] : List Str).Nodup:=by decide +kernel
theorem nd15 : (["table", "pieces", "upper", "3", "found", "k", "piece"] : List Str).Nodup:=by decide +kernel
theorem nd16 : (["script", "mixed", "table", "told", "pieces", "row"] : List Str).Nodup:=by decide +kernel
noncomputable def z7b : SS->Option Out:=(z6k (z0x (z1r (z5a (z0e 1)) z3V (d2 ixD (z0e 0) (z0e 2)))))
noncomputable def z3m : List D->Option D:=z2V 2 0 z7b
noncomputable def y2M : SS->Option Out:=(z6k (mkL (z1r (z5a (z0e 1)) z3V (z0k z3m [(d2 ixD (z0e 0) (z0e 2)),(z0e 1)]))))
noncomputable def z7k : List D->Option D:=z2V 2 0 y2M
noncomputable def z2L : SS->Option Out:=(z6k (z0x (z4Q (y0m (z0e 0)) (z1Y (z0e 2)) (z0e 1))))
noncomputable def z1u : List D->Option D:=z2V 1 0 z2L
noncomputable def z3E : SS->Option Out:=(z6k (z0k z1u [(d2 ixD (z0e 0) (z0e 1))]))
noncomputable def z1R : List D->Option D:=z2V 2 0 z3E
noncomputable def z3e : SS->Option Out:=(z1g (z3U 2 (y1d (z0e 1) (z0e 1)))
  (z1g (z3U 3 (z0x (z0u [(z0e 1)])))
  (z1g (z3w (z1Y (z0e 3)) (z1g (z3U 4 (z0x (z0u [])))
  (z1g (frzO 3 (z8j 5 (z5a (z0e 3)) (z8j 6 (z5a (z0k z1R [(z0e 0),(z0e 5)])) (ifO (y3w (z0e 6) (z0e 2)) (z1g (dput 2 (z0e 6) (z0e 5))
  (m0 4 z6y [(z0e 6)])) z3t))))
  (movO 3 4))) 100)
  (y0R 2))))
noncomputable def z1H : List D->Option D:=z2V 2 5 z3e
noncomputable def z5t : SS->Option Out:=(z6k (z0x (z1Z z7s [(z0k z1H [(z0e 0),(z0e 1)])])))
noncomputable def z2s : List D->Option D:=z2V 2 0 z5t
noncomputable def z2M : SS->Option Out:=(z6k (z0x (z4Q (y0m (z0e 0)) (z1o (d2 eqD (z0e 3) (z0e 1))) (z0e 2))))
noncomputable def z1a : List D->Option D:=z2V 2 0 z2M
noncomputable def z8R : SS->Option Out:=(z1g (z3U 1 (z0x (z1r (z5e (z0k z2U [(z0e 0)])) z3V (z0k z2U [(z0k z2s [(z0e 0),(z0e 2)])]))))
  (z6k (mkL (z1r (y4b (z0k z2U [(z0e 0)]) (dC (.int 0)) (d1 uNeg (dC (.int 1)))) (z1o (d2 inD (z0e 2) (z0e 1))) (z0k z1a [(z0e 1),(z0e 2)])))))
noncomputable def z2j : List D->Option D:=z2V 1 1 z8R
noncomputable def z4p : SS->Option Out:=(z6k (d2 ixL (z0k z2j [(z0e 0)]) (dC (.int 0))))
noncomputable def z0R : List D->Option D:=z2V 1 0 z4p
noncomputable def z2Q : SS->Option Out:=(z1g (z3U 3 (z0x (z1r (z5a (z0e 2)) z3V (d2 ixD (d2 ixD (z0e 0) (z0e 1)) (z0e 4)))))
  (z8d (dOr (z0k allF [(z0e 3)]) (d1 uNot (z0k anyF [(z0e 3)])))))
noncomputable def z1s : List D->Option D:=z2V 3 1 z2Q
noncomputable def z4O : SS->Option Out:=(z6k (z0x (z1r (z5e (z0k z2U [(z0e 0)])) (y0W (z1o (d2 y3y (z0e 2) (z0e 1))) (z6q (z1Y (z0k z1s [(z0e 0),(z0e 2),(z0e 1)])))) (z0e 2))))
noncomputable def z1t : List D->Option D:=z2V 2 0 z4O
noncomputable def z1E : SS->Option Out:=(z8d (d2 eqD (z0k z2U [(z0k z1t [(z0e 0),(z0e 1)])]) (dC (.int 0))))
noncomputable def z0z : List D->Option D:=z2V 2 0 z1E
noncomputable def z5w : SS->Option Out:=(z1g (z3U 2 (z0x (z9i (z0e 1))))
  (z1g (z3U 3 (z0k z1t [(z0e 0),(z0e 2)]))
  (z1g (z3w (z1Y (z0e 3)) (z1g (z3U 2 (z0x (z1Z z5K [(mkL (dCat (z0e 2) (z0e 3)))])))
  (z3U 3 (z0k z1t [(z0e 0),(z0e 2)]))) 100)
  (y0R 2))))
noncomputable def z3k : List D->Option D:=z2V 2 2 z5w
noncomputable def z2g : SS->Option Out:=(z8d (d2 eqD (z0k z2U [(z0k z3k [(z0e 0),(mkL (z0u [(z0e 1),(z0e 2)]))])]) (z0k z2U [(z0e 0)])))
noncomputable def z0T : List D->Option D:=z2V 3 0 z2g
noncomputable def z1T : SS->Option Out:=(z6k (z0x (z1r (z5e (z0k z2U [(z0e 0)])) (dOrT (z1o (d2 eqD (z0e 2) (z0e 1))) (z6q (z1Y (z0k z0T [(z0e 0),(z0e 1),(z0e 2)])))) (z0e 2))))
noncomputable def z0X : List D->Option D:=z2V 2 0 z1T
noncomputable def z6j : SS->Option Out:=(z1g (z3U 1 (z0k z2j [(z0e 0)]))
  (z1g (ifO (z1o (d2 gtI (z0k z2U [(z0e 1)]) (dC (.int 1)))) (y0R 1) z3t)
  (z1g (z3U 2 (z0x (z0u [])))
  (z1g (z8j 3 (z5e (z0k z2U [(z0e 0)])) (z1g (z3U 4 (z0k z0X [(z0e 0),(z0e 3)]))
  (ifO (z1o (d2 y3y (z0e 4) (z0e 2))) (appO 2 4) z3t)))
  (y0R 2)))))
noncomputable def z3F : List D->Option D:=z2V 1 4 z6j
noncomputable def z4i : SS->Option Out:=(z8d (dAnd (dIs "int" (z0e 0)) (dAnd (d1 uNot (dIs "bool" (z0e 0))) (z5Z leI ltI (dC (.int 0)) (z0e 0) (z0e 1)))))
noncomputable def z2q : List D->Option D:=z2V 2 0 z4i
noncomputable def z1D : SS->Option Out:=(z1g (ifO (z1o (d2 neD (z0k z2U [(z0e 0)]) (z0e 1))) (z8d (dC (.bl false))) z3t)
  (z1g (z3U 2 (dC (.dct [] [])))
  (z1g (z8j 3 (z5a (z0e 0)) (z1g (ifO (dOrT (z6q (z1Y (z0k z2q [(z0e 3),(z0e 1)]))) (y4O (z0e 3) (z0e 2))) (z8d (dC (.bl false))) z3t)
  (dput 2 (z0e 3) (dC (.bl true)))))
  (z8d (dC (.bl true))))))
noncomputable def z0K : List D->Option D:=z2V 2 2 z1D
noncomputable def z2z : SS->Option Out:=(z1g (z3U 2 (z0x (z0u [])))
  (z1g (z8j 3 (z5a (z0e 0)) (z1g (ifO (z1o (d2 eqD (z0k z2U [(z0e 3)]) (dC (.int 0)))) (z4w 1 (dC (.str "a piece is empty"))) z3t)
  (y2w 2 (z0e 3))))
  (z1g (ifO (z6q (z1Y (z0k z0K [(z0e 2),(z0e 1)]))) (z4w 1 (dC (.str "the pieces do not tell each thing once and nothing else"))) z3t)
  (z1g (z3U 4 (z0x (dRep (mkL (z0u [(dC (.int 0))])) (z0e 1))))
  (z1g (y4A 5 3 (y0m (z0e 0)) (z8j 6 (z5a (z0e 3)) (st0 4 (z0e 6) (z0e 5))))
  (y0R 4))))))
noncomputable def z1A : List D->Option XO:=y5A 2 5 z2z
noncomputable def z6L : SS->Option Out:=(z1g (y3i (z6b z1A [(z0e 1),(z0k z2U [(z0e 0)])]))
  (z1g (ifO (z6q (z1Y (z0k allF [(mkL (z1r (z5a (z0e 1)) z3V (z0k z0z [(z0e 0),(z0e 2)])))]))) (z4w 1 (dC (.str "a piece does not stand together"))) z3t)
  (z6k (z0k z7k [(z0e 0),(mkL (z1r (z5a (z0e 1)) z3V (d2 ixD (z0e 2) (dC (.int 0)))))]))))
noncomputable def z3H : List D->Option XO:=y5A 2 0 z6L
noncomputable def z1F : SS->Option Out:=(z1g (ifO (z1o (d2 ltI (z0e 1) (z0k z2U [(z0e 0)]))) (z8d (d2 ixD (z0e 0) (z0e 1))) z3t)
  (z8d (dC (.int 0))))
noncomputable def z0n : List D->Option D:=z2V 2 0 z1F
noncomputable def z1S : SS->Option Out:=(z1g (z3U 2 (mkL (z1r (z5e (z0e 1)) z3V (z0x (dRep (mkL (z0u [(dC (.bl false))])) (z0e 1))))))
  (z1g (y3k 3 (d2 z7t (d2 mulI (z0e 0) (dC (.int 48271))) (dC (.int 2147483647))))
  (z1g (z8j 4 (z5e (z0e 1)) (z8j 5 (y3v (d2 y3p (z0e 4) (dC (.int 1))) (z0e 1)) (z1g (st1 2 (z0e 4) (z0e 5) (d2 eqD (d2 z7t (z0e 3) (dC (.int 2))) (dC (.int 0))))
  (z1g (st1 2 (z0e 5) (z0e 4) (d2 eqD (d2 z7t (z0e 3) (dC (.int 2))) (dC (.int 1))))
  (y3k 3 (d2 y3s (z0e 3) (dC (.int 2))))))))
  (y0R 2))))
noncomputable def z0G : List D->Option D:=z2V 2 4 z1S
noncomputable def z3d : SS->Option Out:=(z1g (y3k 1 (d2 y3p (dC (.int 1)) (d2 z7t (z0k z0n [(z0e 0),(dC (.int 0))]) (dC (.int 4)))))
  (z1g (ifO (z1o (d2 eqD (d2 z7t (d2 y3s (z0k z0n [(z0e 0),(dC (.int 0))]) (dC (.int 4))) (dC (.int 4))) (dC (.int 1)))) (y3k 1 (d2 y3p (z0e 1) (dC (.int 4)))) z3t)
  (z1g (z3U 2 (z0k z0G [(z0k z0n [(z0e 0),(dC (.int 1))]),(z0e 1)]))
  (z1g (z3U 3 (z0x (z0u [])))
  (z1g (z3U 4 (z0x (z0u [])))
  (z1g (forI 5 (dIv1 (z0k z2U [(z0e 2)])) (z1g (z3U 6 (z0k z0n [(z0e 0),(d2 y3p (dC (.int 2)) (z0e 5))]))
  (z1g (y3k 7 (d2 y3p (d2 subI (d2 subI (dC (.int 9)) (z0k z2U [(z0e 4)])) (z0k z2U [(z0e 2)])) (z0e 5)))
  (z1g (y3k 8 (d2 ixD (mkL (z0u [(dC (.int 1)),(z0k minF [(dC (.int 3)),(z0e 7)]),(d2 y3p (dC (.int 1)) (d2 z7t (d2 y3s (z0e 6) (dC (.int 4))) (z0e 7)))])) (z0k minF [(d2 z7t (z0e 6) (dC (.int 4))),(dC (.int 2))])))
  (z1g (z8F 3 (z0k z0G [(d2 y3s (z0e 6) (dC (.int 32))),(z0e 8)]))
  (z8j 9 (z5e (z0e 8)) (z1g (y3k 10 (d2 z7t (z0k z0n [(z0e 0),(d2 y3p (dC (.int 6)) (z0k z2U [(z0e 4)]))]) (d2 y3p (z0k z2U [(z0e 4)]) (dC (.int 1)))))
  (m0 4 insF [(z0e 10),(mkT (z0u [(z0e 5),(z0e 9)]))]))))))))
  (ret3 2 3 4)))))))
noncomputable def z1l : List D->Option D:=z2V 1 10 z3d
noncomputable def z2c : SS->Option Out:=(z1g (ifO (z1o (d2 eqD (d2 ixD (z0e 1) (dC (.int 0))) (d2 ixD (z0e 2) (dC (.int 0))))) (z8d (d2 ixD (d2 ixD (d2 ixD (d2 ixD (z0e 0) (dC (.int 1))) (d2 ixD (z0e 1) (dC (.int 0)))) (d2 ixD (z0e 1) (dC (.int 1)))) (d2 ixD (z0e 2) (dC (.int 1))))) z3t)
  (z8d (d2 ixD (d2 ixD (d2 ixD (z0e 0) (dC (.int 0))) (d2 ixD (z0e 1) (dC (.int 0)))) (d2 ixD (z0e 2) (dC (.int 0))))))
noncomputable def z1G : List D->Option D:=z2V 3 0 z2c
noncomputable def z3g : SS->Option Out:=(z1g (z3U 1 (z0x (z0u [])))
  (z1g (z8j 2 (z5a (d2 ixD (z0e 0) (dC (.int 2)))) (z8F 1 (mkL (z1r (z5a (d2 ixD (z0e 0) (dC (.int 2)))) z3V (z0k z1G [(z0e 0),(z0e 2),(z0e 3)])))))
  (y0R 1)))
noncomputable def z1I : List D->Option D:=z2V 1 2 z3g
noncomputable def z2I : SS->Option Out:=(z1g (z3U 1 (z0x (z0u [])))
  (z1g (forI 2 (dIv1 (z0k z2U [(d2 ixD (z0e 0) (dC (.int 0)))])) (z8F 1 (z0x (z1r (z5e (z0k z2U [(d2 ixD (z0e 0) (dC (.int 2)))])) (z1o (d2 eqD (d2 ixD (d2 ixD (d2 ixD (z0e 0) (dC (.int 2))) (z0e 3)) (dC (.int 0))) (z0e 2))) (z0e 3)))))
  (y0R 1)))
noncomputable def z1p : List D->Option D:=z2V 1 2 z2I
noncomputable def z3C : SS->Option Out:=(z6k (mkL (z1r (z5a (z0e 1)) z3V (z0x (z1r (z5a (z0e 1)) z3V (d2 ixD (d2 ixD (z0e 0) (z0e 2)) (z0e 3)))))))
noncomputable def z1W : List D->Option D:=z2V 2 0 z3C
noncomputable def z4c : SS->Option Out:=(z1g (y3O 2 (z0k z0R [(z9C z3H [(z0e 0),(mkL (z1r (z5a (z0e 1)) z3V (z0x (z1Z z6n [(z0e 6)]))))])]))
  (z1g (ifO (z1o (d2 eqD (z0k z2U [(z0e 2)]) (dC (.int 1)))) (z1g (y3O 3 (d2 ixD (z0e 1) (d2 ixD (z0e 2) (dC (.int 0)))))
  (z6k (z0x (z1Z z5K [(mkL (z1r (z5a (z0k z0R [(z0k z1W [(z0e 0),(z0e 3)])])) z3V (d2 ixD (z0e 3) (z0e 6))))])))) z3t)
  (z1g (z3U 4 (z0x (z0u [])))
  (z1g (z8j 5 (z5a (z0e 2)) (z3U 4 (z0x (dCat (z0e 4) (d2 ixD (z0e 1) (z0e 5))))))
  (z1g (ifO (z1o (d2 ltI (z0k z2U [(z0e 2)]) (dC (.int 3)))) (z6k (z0x (z0u []))) z3t)
  (z6k (z0x (z1Z z5K [(z0e 4)]))))))))
noncomputable def z2u : List D->Option D:=z2V 2 4 z4c
noncomputable def g_law : SS->Option Out:=(z1g (y3O 1 (z0k z1l [(z0e 0)]))
  (z1g (y3O 2 (z0k z1I [(z0e 1)]))
  (z1g (y3O 3 (z0k z3F [(mkL (z1r (z5a (z0e 2)) z3V (z0x (z1Z z6n [(z0e 5)]))))]))
  (z1g (z8j 4 (z5a (mkL (z0u [(z0k z1p [(z0e 1)]),(z0e 3)]))) (ifO (z1o (d2 neD (z0k z0R [(z0e 2)]) (z0k z2u [(z0e 2),(z0e 4)]))) (z8d (dC (.bl false))) z3t))
  (z8d (dOr (d2 eqD (z0k z2U [(z0k z2j [(z0e 2)])]) (dC (.int 1))) (d2 eqD (d2 ixD (z0e 3) (dC (.int 0))) (z0k z0R [(z0e 2)]))))))))
noncomputable def y0D : List D->Option D:=z2V 1 4 g_law
structure Txt (mg : Str->Option Value) : Prop where
  b_enumerate : mg "enumerate" = none
  b_sorted : mg "sorted" = none
  b_range : mg "range" = none
  b_len : mg "len" = none
  b_all : mg "all" = none
  b_any : mg "any" = none
  b_set : mg "set" = none
  b_int : mg "int" = none
  b_isinstance : mg "isinstance" = none
  b_bool : mg "bool" = none
  b_min : mg "min" = none
  b_list : mg "list" = none
structure Cls (K : PySem.W.Frag) (mg : Str->Option Value) (base : Heap) (cl : Nat->Value) : Prop where
  o_BadParts : ∃ C,cl 1 = .ref C∧OwnCls "BadParts" C bmVE "ValueError.__new__" mg base∧PySem.W.nsIn K mainGlobals "BadParts" = some (some (.ref C))∧True
section
variable {P : Program} {w : World} {K : PySem.W.Frag} {mg : Str->Option Value} {base : Heap} {cl : Nat->Value}
theorem y2C : FnScope y3A z6T (z0b z3p):=⟨rfl,rfl,rfl,by decide +kernel,rfl,by decide +kernel,by decide +kernel⟩
theorem y2c {f : Addr} {fd : FuncData} (F : Fun K "picked" "picked" z3p f fd) (hm : mg "picked" = some (.ref f)) (hb : Binds K fd z6T []) (T : Txt mg) : DefOk P w K mg base 1 "picked" (spN K z3m):=
  z4u (k:=0) (g:=z7b) F hm hb y2C rfl rfl fun cdv A outer s H E hr=>
    (z0i (z1X (z3W (z3j (N':=["row", "things", "other"])  rfl ⟨rfl,rfl,rfl,rfl,rfl⟩ (n:=2) rfl (z0O (z0g 1 (pv 1))) (fun _ _ _ _ _=>z0o (i:=2) nd0 rfl (Or.inl rfl)) (fun _ _ _ _ _=>z0J) (fun _ _ _ _ _=>(z0W (z0g 0 (pv 0)) (z0g 2 (pv 2))))))))
theorem sc_part : FnScope N_part y1w (z0b z5U):=⟨rfl,rfl,rfl,by decide +kernel,rfl,by decide +kernel,by decide +kernel⟩
theorem ok_part {f : Addr} {fd : FuncData} (F : Fun K "part" "part" z5U f fd) (hm : mg "part" = some (.ref f)) (hb : Binds K fd y1w []) (T : Txt mg) (G_picked : DefOk P w K mg base 1 "picked" (spN K z3m)) : DefOk P w K mg base 2 "part" (spN K z7k):=
  z4u (k:=1) (g:=y2M) F hm hb sc_part rfl rfl fun cdv A outer s H E hr=>
    (z0i (z1X (z3B (N':=["table", "things", "one"])  rfl ⟨rfl,rfl,rfl,rfl,rfl⟩ (n:=2) rfl (z0O (z0g 1 (pv 1))) (fun _ _ _ _ _=>z0o (i:=2) nd1 rfl (Or.inl rfl)) (fun _ _ _ _ _=>z0J) (fun _ _ _ _ _=>(z0h G_picked (hr.mono (by decide)) rfl (z0a (z0W (z0g 0 (pv 0)) (z0g 2 (pv 2))) (z0a (z0g 1 (pv 1)) z0c)))))))
theorem z5C : FnScope z6s z2E (z0b z1f):=⟨rfl,rfl,rfl,by decide +kernel,rfl,by decide +kernel,by decide +kernel⟩
theorem z5B {f : Addr} {fd : FuncData} (F : Fun K "places_true" "places_true" z1f f fd) (hm : mg "places_true" = some (.ref f)) (hb : Binds K fd z2E []) (T : Txt mg) : DefOk P w K mg base 1 "places_true" (spN K z1u):=
  z4u (k:=0) (g:=z2L) F hm hb z5C rfl rfl fun cdv A outer s H E hr=>
    (z0i (z1X (z3W (z9t (N':=["marks", "place", "mark"])  rfl ⟨rfl,rfl,rfl,rfl,rfl⟩ (n:=1) rfl (z6I rfl T.b_enumerate (z0g 0 (pv 0))) (fun _ _ _ _ _=>y5x rfl (z0o (i:=1) nd2 rfl (Or.inl rfl)) (z0o (i:=2) nd2 rfl (Or.inl rfl))) (fun _ _ _ _ _=>z2m (z1J (z0g 2 (pv 2)))) (fun _ _ _ _ _=>(z0g 1 (pv 1)))))))
theorem z7p : FnScope z8Z z3y (z0b z1v):=⟨rfl,rfl,rfl,by decide +kernel,rfl,by decide +kernel,by decide +kernel⟩
theorem z7Z {f : Addr} {fd : FuncData} (F : Fun K "beaten_by" "beaten_by" z1v f fd) (hm : mg "beaten_by" = some (.ref f)) (hb : Binds K fd z3y []) (T : Txt mg) (G_places_true : DefOk P w K mg base 1 "places_true" (spN K z1u)) : DefOk P w K mg base 2 "beaten_by" (spN K z1R):=
  z4u (k:=1) (g:=z3E) F hm hb z7p rfl rfl fun cdv A outer s H E hr=>
    (z0i (z1X (z0h G_places_true (hr.mono (by decide)) rfl (z0a (z0W (z0g 0 (pv 0)) (z0g 1 (pv 1))) z0c))))
theorem sc_steps_from : FnScope z7w z3h (z0b z1n):=⟨rfl,rfl,rfl,by decide +kernel,rfl,by decide +kernel,by decide +kernel⟩
theorem z6f {f : Addr} {fd : FuncData} (F : Fun K "steps_from" "steps_from" z1n f fd) (hm : mg "steps_from" = some (.ref f)) (hb : Binds K fd z3h []) (T : Txt mg) (G_beaten_by : DefOk P w K mg base 2 "beaten_by" (spN K z1R)) : DefOk P w K mg base 3 "steps_from" (spN K z1H):=
  z4u (k:=2) (g:=z3e) F hm hb sc_steps_from rfl rfl fun cdv A outer s H E hr=>
    (z0f (z0V (z0Z (i:=2) sc_steps_from.nd rfl (Or.inl rfl) (y4E (z0g 1 (pv 1)) (z0g 1 (pv 1)))))
      (z0f (z0V (z0Z (i:=3) sc_steps_from.nd rfl (Or.inl rfl) (z3W (z1i (z0a (z0g 1 (pv 1)) z0c)))))
      (z0f (y3e 100 PassesOwn.never (z1J (z0g 3 (pv 3))) (z0f (z0V (z0Z (i:=4) sc_steps_from.nd rfl (Or.inl rfl) (z3W (z1i z0c))))
      (z0f (s_frz 3 (z4z PassesOwn.never rfl (z0O (z0g 3 (pv 3))) (z0o (i:=5) sc_steps_from.nd rfl (Or.inl rfl)) (z0i (z4z PassesOwn.never rfl (z0O (z3T (z0h G_beaten_by (hr.mono (by decide)) rfl (z0a (z0g 0 (pv 0)) (z0a (z0g 5 (pv 5)) z0c))))) (z0o (i:=6) sc_steps_from.nd rfl (Or.inl rfl)) (z0i (z9r (pt_dnin hr.units (z0g 6 (pv 6)) (z0g 2 (pv 2))) (z0f (y5O hr.units (pv 2) (z0g 6 (pv 6)) (z0g 5 (pv 5)))
      (z0i (s_m0 PySem.F.slot_list_append PySem.F.type_list_append z3K z5i (pv 4) (z0a (z0g 6 (pv 6)) z0c)))) z2d))))))
      (z0i (s_mov (by decide) (z0Z (i:=3) sc_steps_from.nd rfl (Or.inl rfl) (pv 4)))))))
      (z0i (z4q (pv 2))))))
theorem y0I : FnScope y2F z5c (z0b z2n):=⟨rfl,rfl,rfl,by decide +kernel,rfl,by decide +kernel,by decide +kernel⟩
theorem y0i {f : Addr} {fd : FuncData} (F : Fun K "reached" "reached" z2n f fd) (hm : mg "reached" = some (.ref f)) (hb : Binds K fd z5c []) (T : Txt mg) (G_steps_from : DefOk P w K mg base 3 "steps_from" (spN K z1H)) : DefOk P w K mg base 4 "reached" (spN K z2s):=
  z4u (k:=3) (g:=z5t) F hm hb y0I rfl rfl fun cdv A outer s H E hr=>
    (z0i (z1X (z3W (y0f rfl rfl T.b_sorted (z3T (z0h G_steps_from (hr.mono (by decide)) rfl (z0a (z0g 0 (pv 0)) (z0a (z0g 1 (pv 1)) z0c))))))))
theorem z5H : FnScope z6B z2R (z0b z1c):=⟨rfl,rfl,rfl,by decide +kernel,rfl,by decide +kernel,by decide +kernel⟩
theorem z5F {f : Addr} {fd : FuncData} (F : Fun K "places_with" "places_with" z1c f fd) (hm : mg "places_with" = some (.ref f)) (hb : Binds K fd z2R []) (T : Txt mg) : DefOk P w K mg base 1 "places_with" (spN K z1a):=
  z4u (k:=0) (g:=z2M) F hm hb z5H rfl rfl fun cdv A outer s H E hr=>
    (z0i (z1X (z3W (z9t (N':=["counts", "wanted", "place", "count"])  rfl ⟨rfl,rfl,rfl,rfl,rfl⟩ (n:=2) rfl (z6I rfl T.b_enumerate (z0g 0 (pv 0))) (fun _ _ _ _ _=>y5x rfl (z0o (i:=2) nd3 rfl (Or.inl rfl)) (z0o (i:=3) nd3 rfl (Or.inl rfl))) (fun _ _ _ _ _=>z2m (z8B hr.units (z0g 3 (pv 3)) (z0g 1 (pv 1)))) (fun _ _ _ _ _=>(z0g 2 (pv 2)))))))
theorem sc_rings : FnScope N_rings z8k (z0b z4j):=⟨rfl,rfl,rfl,by decide +kernel,rfl,by decide +kernel,by decide +kernel⟩
theorem y4y {f : Addr} {fd : FuncData} (F : Fun K "rings" "rings" z4j f fd) (hm : mg "rings" = some (.ref f)) (hb : Binds K fd z8k []) (T : Txt mg) (G_reached : DefOk P w K mg base 4 "reached" (spN K z2s)) (G_places_with : DefOk P w K mg base 1 "places_with" (spN K z1a)) : DefOk P w K mg base 5 "rings" (spN K z2j):=
  z4u (k:=4) (g:=z8R) F hm hb sc_rings rfl rfl fun cdv A outer s H E hr=>
    (z0f (z0V (z0Z (i:=1) sc_rings.nd rfl (Or.inr rfl) (z3W (z3j (N':=["table", "counts", "one"])  rfl ⟨rfl,rfl,rfl,rfl,rfl⟩ (n:=2) rfl (z3f rfl T.b_range (z0U rfl T.b_len (z0g 0 (pv 0)))) (fun _ _ _ _ _=>z0o (i:=2) nd5 rfl (Or.inl rfl)) (fun _ _ _ _ _=>z0J) (fun _ _ _ _ _=>(z0U rfl T.b_len (z3T (z0h G_reached (hr.mono (by decide)) rfl (z0a (z0g 0 (pv 0)) (z0a (z0g 2 (pv 2)) z0c))))))))))
      (z0i (z1X (z3B (N':=["table", "counts", "count"])  rfl ⟨rfl,rfl,rfl,rfl,rfl⟩ (n:=2) rfl (pi_rngN rfl T.b_range (z0U rfl T.b_len (z0g 0 (pv 0))) z0j (pd_neg z0j)) (fun _ _ _ _ _=>z0o (i:=2) nd4 rfl (Or.inl rfl)) (fun _ _ _ _ _=>z2m (y4i hr.units (z0g 2 (pv 2)) (z0g 1 (pv 1)))) (fun _ _ _ _ _=>(z0h G_places_with (hr.mono (by decide)) rfl (z0a (z0g 1 (pv 1)) (z0a (z0g 2 (pv 2)) z0c))))))))
theorem z9e : FnScope y0n z4m (z0b z1O):=⟨rfl,rfl,rfl,by decide +kernel,rfl,by decide +kernel,by decide +kernel⟩
theorem z8J {f : Addr} {fd : FuncData} (F : Fun K "top_ring" "top_ring" z1O f fd) (hm : mg "top_ring" = some (.ref f)) (hb : Binds K fd z4m []) (T : Txt mg) (G_rings : DefOk P w K mg base 5 "rings" (spN K z2j)) : DefOk P w K mg base 6 "top_ring" (spN K z0R):=
  z4u (k:=5) (g:=z4p) F hm hb z9e rfl rfl fun cdv A outer s H E hr=>
    (z0i (z1X (pn_ixN (z0h G_rings (hr.mono (by decide)) rfl (z0a (z0g 0 (pv 0)) z0c)) z0j)))
theorem sc_sees_as_one : FnScope z6N z2y (z0b z1d):=⟨rfl,rfl,rfl,by decide +kernel,rfl,by decide +kernel,by decide +kernel⟩
theorem z5G {f : Addr} {fd : FuncData} (F : Fun K "sees_as_one" "sees_as_one" z1d f fd) (hm : mg "sees_as_one" = some (.ref f)) (hb : Binds K fd z2y []) (T : Txt mg) : DefOk P w K mg base 1 "sees_as_one" (spN K z1s):=
  z4u (k:=0) (g:=z2Q) F hm hb sc_sees_as_one rfl rfl fun cdv A outer s H E hr=>
    (z0f (z0V (PAsg.imp (pas_cF (i:=3) (N':=["table", "other", "things", "marks", "thing"]) sc_sees_as_one.nd rfl rfl rfl ⟨rfl,rfl,rfl,rfl,rfl⟩ (n:=4) rfl (z0O (z0g 2 (pv 2))) (fun _ _ _ _ _=>z0o (i:=4) nd6 rfl (Or.inl rfl)) (fun _ _ _ _ _=>z0J) (fun _ _ _ _ _=>(z0W (z0W (z0g 0 (pv 0)) (z0g 1 (pv 1))) (z0g 4 (pv 4))))) iNF))
      (z0i (z2v (pd_or (y5R rfl rfl T.b_all (z0g 3 (pv 3))) (y3g (y6b (pd_any rfl rfl T.b_any (z0g 3 (pv 3)))))))))
theorem y0u : FnScope y1K z5b (z0b z2l):=⟨rfl,rfl,rfl,by decide +kernel,rfl,by decide +kernel,by decide +kernel⟩
theorem y0J {f : Addr} {fd : FuncData} (F : Fun K "parting" "parting" z2l f fd) (hm : mg "parting" = some (.ref f)) (hb : Binds K fd z5b []) (T : Txt mg) (G_sees_as_one : DefOk P w K mg base 1 "sees_as_one" (spN K z1s)) : DefOk P w K mg base 2 "parting" (spN K z1t):=
  z4u (k:=1) (g:=z4O) F hm hb y0u rfl rfl fun cdv A outer s H E hr=>
    (z0i (z1X (z3W (z3j (N':=["table", "things", "other"])  rfl ⟨rfl,rfl,rfl,rfl,rfl⟩ (n:=2) rfl (z3f rfl T.b_range (z0U rfl T.b_len (z0g 0 (pv 0)))) (fun _ _ _ _ _=>z0o (i:=2) nd7 rfl (Or.inl rfl)) (fun _ _ _ _ _=>z2m (PW.pt (pw_andD (y5E hr.units (z0g 2 (pv 2)) (z0g 1 (pv 1))) (y4V (z5p (z1J (z3T (z0h G_sees_as_one (hr.mono (by decide)) rfl (z0a (z0g 0 (pv 0)) (z0a (z0g 2 (pv 2)) (z0a (z0g 1 (pv 1)) z0c))))))))))) (fun _ _ _ _ _=>(z0g 2 (pv 2)))))))
theorem z3G : FnScope z4n z1x (z0b z0B):=⟨rfl,rfl,rfl,by decide +kernel,rfl,by decide +kernel,by decide +kernel⟩
theorem z3M {f : Addr} {fd : FuncData} (F : Fun K "stands_together" "stands_together" z0B f fd) (hm : mg "stands_together" = some (.ref f)) (hb : Binds K fd z1x []) (T : Txt mg) (G_parting : DefOk P w K mg base 2 "parting" (spN K z1t)) : DefOk P w K mg base 3 "stands_together" (spN K z0z):=
  z4u (k:=2) (g:=z1E) F hm hb z3G rfl rfl fun cdv A outer s H E hr=>
    (z0i (z2v (y0A hr.units (z0U rfl T.b_len (z3T (z0h G_parting (hr.mono (by decide)) rfl (z0a (z0g 0 (pv 0)) (z0a (z0g 1 (pv 1)) z0c))))) z0j)))
theorem sc_closure : FnScope y1p z5v (z0b z2t):=⟨rfl,rfl,rfl,by decide +kernel,rfl,by decide +kernel,by decide +kernel⟩
theorem y0l {f : Addr} {fd : FuncData} (F : Fun K "closure" "closure" z2t f fd) (hm : mg "closure" = some (.ref f)) (hb : Binds K fd z5v []) (T : Txt mg) (G_parting : DefOk P w K mg base 2 "parting" (spN K z1t)) : DefOk P w K mg base 3 "closure" (spN K z3k):=
  z4u (k:=2) (g:=z5w) F hm hb sc_closure rfl rfl fun cdv A outer s H E hr=>
    (z0f (z0V (z0Z (i:=2) sc_closure.nd rfl (Or.inl rfl) (z3W (y0H rfl rfl T.b_sorted rfl T.b_set (z0g 1 (pv 1))))))
      (z0f (z0V (z0Z (i:=3) sc_closure.nd rfl (Or.inl rfl) (z0h G_parting (hr.mono (by decide)) rfl (z0a (z0g 0 (pv 0)) (z0a (z0g 2 (pv 2)) z0c)))))
      (z0f (y3e 100 PassesOwn.never (z1J (z0g 3 (pv 3))) (z0f (z0V (z0Z (i:=2) sc_closure.nd rfl (Or.inl rfl) (z3W (z4P rfl T.b_sorted (y5z (y5w (z0g 2 (pv 2)) (z0g 3 (pv 3))))))))
      (z0i (z0V (z0Z (i:=3) sc_closure.nd rfl (Or.inl rfl) (z0h G_parting (hr.mono (by decide)) rfl (z0a (z0g 0 (pv 0)) (z0a (z0g 2 (pv 2)) z0c))))))))
      (z0i (z4q (pv 2))))))
theorem z4Z : FnScope z5E z2k (z0b z0S):=⟨rfl,rfl,rfl,by decide +kernel,rfl,by decide +kernel,by decide +kernel⟩
theorem z4Y {f : Addr} {fd : FuncData} (F : Fun K "leads_to_all" "leads_to_all" z0S f fd) (hm : mg "leads_to_all" = some (.ref f)) (hb : Binds K fd z2k []) (T : Txt mg) (G_closure : DefOk P w K mg base 3 "closure" (spN K z3k)) : DefOk P w K mg base 4 "leads_to_all" (spN K z0T):=
  z4u (k:=3) (g:=z2g) F hm hb z4Z rfl rfl fun cdv A outer s H E hr=>
    (z0i (z2v (y0A hr.units (z0U rfl T.b_len (z3T (z0h G_closure (hr.mono (by decide)) rfl (z0a (z0g 0 (pv 0)) (z0a (y5z (z1i (z0a (z0g 1 (pv 1)) (z0a (z0g 2 (pv 2)) z0c)))) z0c))))) (z0U rfl T.b_len (z0g 0 (pv 0))))))
theorem z4D : FnScope z4W z1V (z0b z0I):=⟨rfl,rfl,rfl,by decide +kernel,rfl,by decide +kernel,by decide +kernel⟩
theorem z4C {f : Addr} {fd : FuncData} (F : Fun K "greatest_with" "greatest_with" z0I f fd) (hm : mg "greatest_with" = some (.ref f)) (hb : Binds K fd z1V []) (T : Txt mg) (G_leads_to_all : DefOk P w K mg base 4 "leads_to_all" (spN K z0T)) : DefOk P w K mg base 5 "greatest_with" (spN K z0X):=
  z4u (k:=4) (g:=z1T) F hm hb z4D rfl rfl fun cdv A outer s H E hr=>
    (z0i (z1X (z3W (z3j (N':=["table", "thing", "other"])  rfl ⟨rfl,rfl,rfl,rfl,rfl⟩ (n:=2) rfl (z3f rfl T.b_range (z0U rfl T.b_len (z0g 0 (pv 0)))) (fun _ _ _ _ _=>z0o (i:=2) nd8 rfl (Or.inl rfl)) (fun _ _ _ _ _=>z2m (PW.pt (y5T (z8B hr.units (z0g 2 (pv 2)) (z0g 1 (pv 1))) (y0S (z5p (z1J (z3T (z0h G_leads_to_all (hr.mono (by decide)) rfl (z0a (z0g 0 (pv 0)) (z0a (z0g 1 (pv 1)) (z0a (z0g 2 (pv 2)) z0c))))))))))) (fun _ _ _ _ _=>(z0g 2 (pv 2)))))))
theorem sc_parts : FnScope N_parts z8U (z0b z3X):=⟨rfl,rfl,rfl,by decide +kernel,rfl,by decide +kernel,by decide +kernel⟩
theorem y3Z {f : Addr} {fd : FuncData} (F : Fun K "parts" "parts" z3X f fd) (hm : mg "parts" = some (.ref f)) (hb : Binds K fd z8U []) (T : Txt mg) (G_rings : DefOk P w K mg base 5 "rings" (spN K z2j)) (G_greatest_with : DefOk P w K mg base 5 "greatest_with" (spN K z0X)) : DefOk P w K mg base 6 "parts" (spN K z3F):=
  z4u (k:=5) (g:=z6j) F hm hb sc_parts rfl rfl fun cdv A outer s H E hr=>
    (z0f (z0V (z0Z (i:=1) sc_parts.nd rfl (Or.inl rfl) (z0h G_rings (hr.mono (by decide)) rfl (z0a (z0g 0 (pv 0)) z0c))))
      (z0f (z9r (pt_gt (z0U rfl T.b_len (z0g 1 (pv 1))) z0j) (z0i (z4q (pv 1))) z2d)
      (z0f (z0V (z0Z (i:=2) sc_parts.nd rfl (Or.inl rfl) (z3W (z1i z0c))))
      (z0f (z4z PassesOwn.never rfl (z3f rfl T.b_range (z0U rfl T.b_len (z0g 0 (pv 0)))) (z0o (i:=3) sc_parts.nd rfl (Or.inl rfl)) (z0f (z0V (z0Z (i:=4) sc_parts.nd rfl (Or.inl rfl) (z0h G_greatest_with (hr.mono (by decide)) rfl (z0a (z0g 0 (pv 0)) (z0a (z0g 3 (pv 3)) z0c)))))
      (z0i (z9r (y5E hr.units (z0g 4 (pv 4)) (z0g 2 (pv 2))) (z0i (s_appO (by decide) (pv 2) (pv 4))) z2d))))
      (z0i (z4q (pv 2)))))))
theorem z8n : FnScope y0g z4g (z0b z1P):=⟨rfl,rfl,rfl,by decide +kernel,rfl,by decide +kernel,by decide +kernel⟩
theorem z8y {f : Addr} {fd : FuncData} (F : Fun K "is_thing" "is_thing" z1P f fd) (hm : mg "is_thing" = some (.ref f)) (hb : Binds K fd z4g []) (T : Txt mg) : DefOk P w K mg base 1 "is_thing" (spN K z2q):=
  z4u (k:=0) (g:=z4i) F hm hb z8n rfl rfl fun cdv A outer s H E hr=>
    (z0i (z2v (y5U (y3T rfl T.b_int rfl T.b_isinstance (z0g 0 (pv 0))) (y5U (y6b (y1H rfl T.b_bool rfl T.b_isinstance (z0g 0 (pv 0)))) (y3g (y4T op_le op_lt z4H z4H z0j (z0g 0 (pv 0)) (z0g 1 (pv 1))))))))
theorem sc_tells_each_once : FnScope z4e z1B (z0b z0A):=⟨rfl,rfl,rfl,by decide +kernel,rfl,by decide +kernel,by decide +kernel⟩
theorem z3R {f : Addr} {fd : FuncData} (F : Fun K "tells_each_once" "tells_each_once" z0A f fd) (hm : mg "tells_each_once" = some (.ref f)) (hb : Binds K fd z1B []) (T : Txt mg) (G_is_thing : DefOk P w K mg base 1 "is_thing" (spN K z2q)) : DefOk P w K mg base 2 "tells_each_once" (spN K z0K):=
  z4u (k:=1) (g:=z1D) F hm hb sc_tells_each_once rfl rfl fun cdv A outer s H E hr=>
    (z0f (z9r (pt_ne hr.units (z0U rfl T.b_len (z0g 0 (pv 0))) (z0g 1 (pv 1))) (z0i (z2v y0N)) z2d)
      (z0f (z0V (z0Z (i:=2) sc_tells_each_once.nd rfl (Or.inl rfl) pn_dnew))
      (z0f (z4z PassesOwn.never rfl (z0O (z0g 0 (pv 0))) (z0o (i:=3) sc_tells_each_once.nd rfl (Or.inl rfl)) (z0f (z9r (PW.pt (y5T (z5p (z1J (z3T (z0h G_is_thing (hr.mono (by decide)) rfl (z0a (z0g 3 (pv 3)) (z0a (z0g 1 (pv 1)) z0c)))))) (y0S (pt_din hr.units (z0g 3 (pv 3)) (z0g 2 (pv 2)))))) (z0i (z2v y0N)) z2d)
      (z0i (y5O hr.units (pv 2) (z0g 3 (pv 3)) y0N))))
      (z0i (z2v y0N)))))
theorem sc_places_of : FnScope z8X z2w (z0b z1C):=⟨rfl,rfl,rfl,by decide +kernel,rfl,by decide +kernel,by decide +kernel⟩
theorem z7F {f : Addr} {fd : FuncData} (F : Fun K "places_of" "places_of" z1C f fd) (hm : mg "places_of" = some (.ref f)) (hb : Binds K fd z2w []) (T : Txt mg) (Z : Cls K mg base cl) (G_tells_each_once : DefOk P w K mg base 2 "tells_each_once" (spN K z0K)) : DefX P w K mg base 3 "places_of" (spX K cl z1A):=by
  obtain ⟨C_BadParts,hc_BadParts,O_BadParts,nn_BadParts,xb_BadParts⟩:=Z.o_BadParts
  exact ⟨f,fd,z2w,hm,F.kp,hb,fnX (k:=2) (g:=z2z) F sc_places_of rfl rfl fun cdv A outer s H E hr=>
    (z0f (z0V (z0Z (i:=2) sc_places_of.nd rfl (Or.inl rfl) (z3W (z1i z0c))))
      (z0f (z4z PassesOwn.leaving rfl (z0O (z0g 0 (pv 0))) (z0o (i:=3) sc_places_of.nd rfl (Or.inl rfl)) (z0f (z9r (z8B hr.units (z0U rfl T.b_len (z0g 3 (pv 3))) z0j) (z0i (z6U (c:=1) rfl rfl O_BadParts (z6p hc_BadParts) y3h)) z2d)
      (z0i (y3c (pv 2) (z0g 3 (pv 3))))))
      (z0f (z9r (z5p (z1J (z3T (z0h G_tells_each_once (hr.mono (by decide)) rfl (z0a (z0g 2 (pv 2)) (z0a (z0g 1 (pv 1)) z0c)))))) (z0i (z6U (c:=1) rfl rfl O_BadParts (z6p hc_BadParts) y3h)) z2d)
      (z0f (z0V (z0Z (i:=4) sc_places_of.nd rfl (Or.inl rfl) (z3W (y5N (y5z (z1i (z0a z0j z0c))) (z0g 1 (pv 1))))))
      (z0f (s_for2 PassesOwn.leaving rfl (z6I rfl T.b_enumerate (z0g 0 (pv 0))) (pg_pair rfl (z0o (i:=5) sc_places_of.nd rfl (Or.inl rfl)) (z0o (i:=3) sc_places_of.nd rfl (Or.inl rfl))) (z0i (z4z PassesOwn.leaving rfl (z0O (z0g 3 (pv 3))) (z0o (i:=6) sc_places_of.nd rfl (Or.inl rfl)) (z0i (s_st0 (pv 4) (z0g 6 (pv 6)) (z0g 5 (pv 5)))))))
      (z0i (z4q (pv 4))))))))⟩
theorem y3b : FnScope y4w z4F (z0b z3s):=⟨rfl,rfl,rfl,by decide +kernel,rfl,by decide +kernel,by decide +kernel⟩
theorem y2x {f : Addr} {fd : FuncData} (F : Fun K "folded" "folded" z3s f fd) (hm : mg "folded" = some (.ref f)) (hb : Binds K fd z4F []) (T : Txt mg) (Z : Cls K mg base cl) (G_part : DefOk P w K mg base 2 "part" (spN K z7k)) (G_stands_together : DefOk P w K mg base 3 "stands_together" (spN K z0z)) (G_places_of : DefX P w K mg base 3 "places_of" (spX K cl z1A)) : DefX P w K mg base 4 "folded" (spX K cl z3H):=by
  obtain ⟨C_BadParts,hc_BadParts,O_BadParts,nn_BadParts,xb_BadParts⟩:=Z.o_BadParts
  exact ⟨f,fd,z4F,hm,F.kp,hb,fnX (k:=3) (g:=z6L) F y3b rfl rfl fun cdv A outer s H E hr=>
    (z0f (s_exprX (y2h G_places_of (hr.mono (by decide)) rfl xw_def (z0a (z0g 1 (pv 1)) (z0a (z0U rfl T.b_len (z0g 0 (pv 0))) z0c))))
      (z0f (z9r (z5p (z1J (y5R rfl rfl T.b_all (z3T (z3B (N':=["table", "pieces", "piece"])  rfl ⟨rfl,rfl,rfl,rfl,rfl⟩ (n:=2) rfl (z0O (z0g 1 (pv 1))) (fun _ _ _ _ _=>z0o (i:=2) nd9 rfl (Or.inl rfl)) (fun _ _ _ _ _=>z0J) (fun _ _ _ _ _=>(z0h G_stands_together (hr.mono (by decide)) rfl (z0a (z0g 0 (pv 0)) (z0a (z0g 2 (pv 2)) z0c))))))))) (z0i (z6U (c:=1) rfl rfl O_BadParts (z6p hc_BadParts) y3h)) z2d)
      (z0i (z1X (z0h G_part (hr.mono (by decide)) rfl (z0a (z0g 0 (pv 0)) (z0a (y5z (z3j (N':=["table", "pieces", "piece"])  rfl ⟨rfl,rfl,rfl,rfl,rfl⟩ (n:=2) rfl (z0O (z0g 1 (pv 1))) (fun _ _ _ _ _=>z0o (i:=2) nd9 rfl (Or.inl rfl)) (fun _ _ _ _ _=>z0J) (fun _ _ _ _ _=>(z0W (z0g 2 (pv 2)) z0j)))) z0c)))))))⟩
theorem z4M : FnScope z5I z2h (z0b z0Q):=⟨rfl,rfl,rfl,by decide +kernel,rfl,by decide +kernel,by decide +kernel⟩
theorem z4V {f : Addr} {fd : FuncData} (F : Fun K "_law_cell_at" "_law_cell_at" z0Q f fd) (hm : mg "_law_cell_at" = some (.ref f)) (hb : Binds K fd z2h []) (T : Txt mg) : DefOk P w K mg base 1 "_law_cell_at" (spN K z0n):=
  z4u (k:=0) (g:=z1F) F hm hb z4M rfl rfl fun cdv A outer s H E hr=>
    (z0f (z9r (pt_lt (z0g 1 (pv 1)) (z0U rfl T.b_len (z0g 0 (pv 0)))) (z0i (z2v (z0W (z0g 0 (pv 0)) (z0g 1 (pv 1))))) z2d)
      (z0i (z2v z0j)))
theorem sc__law_table_by : FnScope z5f z1U (z0b z0L):=⟨rfl,rfl,rfl,by decide +kernel,rfl,by decide +kernel,by decide +kernel⟩
theorem z4B {f : Addr} {fd : FuncData} (F : Fun K "_law_table_by" "_law_table_by" z0L f fd) (hm : mg "_law_table_by" = some (.ref f)) (hb : Binds K fd z1U []) (T : Txt mg) : DefOk P w K mg base 1 "_law_table_by" (spN K z0G):=
  z4u (k:=0) (g:=z1S) F hm hb sc__law_table_by rfl rfl fun cdv A outer s H E hr=>
    (z0f (z0V (pas_cN (i:=2) (N':=["cell", "many", "rows", "rest", "one", "other", "k"]) sc__law_table_by.nd rfl rfl rfl ⟨rfl,rfl,rfl,rfl,rfl⟩ (n:=6) rfl (z3f rfl T.b_range (z0g 1 (pv 1))) (fun _ _ _ _ _=>z0o (i:=6) nd10 rfl (Or.inl rfl)) (fun _ _ _ _ _=>z0J) (fun _ _ _ _ _=>(z3W (y5N (y5z (z1i (z0a y0N z0c))) (z0g 1 (pv 1)))))))
      (z0f (z4T (z0Z (i:=3) sc__law_table_by.nd rfl (Or.inl rfl) (z4v (pd_mul (z0g 0 (pv 0)) z0j) z0j)))
      (z0f (z4z PassesOwn.never rfl (z3f rfl T.b_range (z0g 1 (pv 1))) (z0o (i:=4) sc__law_table_by.nd rfl (Or.inl rfl)) (z0i (z4z PassesOwn.never rfl (pi_rng2 rfl T.b_range (z4s (z0g 4 (pv 4)) z0j) (z0g 1 (pv 1))) (z0o (i:=5) sc__law_table_by.nd rfl (Or.inl rfl)) (z0f (s_st1 (pv 2) (z0g 4 (pv 4)) (z0g 5 (pv 5)) (y0A hr.units (z4v (z0g 3 (pv 3)) z0j) z0j))
      (z0f (s_st1 (pv 2) (z0g 5 (pv 5)) (z0g 4 (pv 4)) (y0A hr.units (z4v (z0g 3 (pv 3)) z0j) z0j))
      (z0i (z4T (z0Z (i:=3) sc__law_table_by.nd rfl (Or.inl rfl) (z9j (z0g 3 (pv 3)) z0j)))))))))
      (z0i (z4q (pv 2))))))
theorem sc__law_mixed : FnScope z7B z2W (z0b z1j):=⟨rfl,rfl,rfl,by decide +kernel,rfl,by decide +kernel,by decide +kernel⟩
theorem z7c {f : Addr} {fd : FuncData} (F : Fun K "_law_mixed" "_law_mixed" z1j f fd) (hm : mg "_law_mixed" = some (.ref f)) (hb : Binds K fd z2W []) (T : Txt mg) (G__law_cell_at : DefOk P w K mg base 1 "_law_cell_at" (spN K z0n)) (G__law_table_by : DefOk P w K mg base 1 "_law_table_by" (spN K z0G)) : DefOk P w K mg base 2 "_law_mixed" (spN K z1l):=
  z4u (k:=1) (g:=z3d) F hm hb sc__law_mixed rfl rfl fun cdv A outer s H E hr=>
    (z0f (z4T (z0Z (i:=1) sc__law_mixed.nd rfl (Or.inl rfl) (z4s z0j (z4v (z3T (z0h G__law_cell_at (hr.mono (by decide)) rfl (z0a (z0g 0 (pv 0)) (z0a z0j z0c)))) z0j))))
      (z0f (z9r (z8B hr.units (z4v (z9j (z3T (z0h G__law_cell_at (hr.mono (by decide)) rfl (z0a (z0g 0 (pv 0)) (z0a z0j z0c)))) z0j) z0j) z0j) (z0i (z4T (z0Z (i:=1) sc__law_mixed.nd rfl (Or.inl rfl) (z4s (z0g 1 (pv 1)) z0j)))) z2d)
      (z0f (z0V (z0Z (i:=2) sc__law_mixed.nd rfl (Or.inl rfl) (z0h G__law_table_by (hr.mono (by decide)) rfl (z0a (z3T (z0h G__law_cell_at (hr.mono (by decide)) rfl (z0a (z0g 0 (pv 0)) (z0a z0j z0c)))) (z0a (z0g 1 (pv 1)) z0c)))))
      (z0f (z0V (z0Z (i:=3) sc__law_mixed.nd rfl (Or.inl rfl) (z3W (z1i z0c))))
      (z0f (z0V (z0Z (i:=4) sc__law_mixed.nd rfl (Or.inl rfl) (z3W (z1i z0c))))
      (z0f (y6c PassesOwn.never rfl (z9W rfl T.b_range (z0U rfl T.b_len (z0g 2 (pv 2)))) (z0o (i:=5) sc__law_mixed.nd rfl (Or.inl rfl)) (z0f (z0V (z0Z (i:=6) sc__law_mixed.nd rfl (Or.inl rfl) (z0h G__law_cell_at (hr.mono (by decide)) rfl (z0a (z0g 0 (pv 0)) (z0a (z4s z0j (z0g 5 (pv 5))) z0c)))))
      (z0f (z4T (z0Z (i:=7) sc__law_mixed.nd rfl (Or.inl rfl) (z4s (y5v (y5v z0j (z0U rfl T.b_len (z0g 4 (pv 4)))) (z0U rfl T.b_len (z0g 2 (pv 2)))) (z0g 5 (pv 5)))))
      (z0f (z4T (z0Z (i:=8) sc__law_mixed.nd rfl (Or.inl rfl) (z0W (y5z (z1i (z0a z0j (z0a (y2q rfl rfl T.b_min z0j (z0g 7 (pv 7))) (z0a (z4s z0j (z4v (z9j (z0g 6 (pv 6)) z0j) (z0g 7 (pv 7)))) z0c))))) (y2q rfl rfl T.b_min (z4v (z0g 6 (pv 6)) z0j) z0j))))
      (z0f (z5q (pv 3) (z0h G__law_table_by (hr.mono (by decide)) rfl (z0a (z9j (z0g 6 (pv 6)) z0j) (z0a (z0g 8 (pv 8)) z0c))))
      (z0i (z4z PassesOwn.never rfl (z3f rfl T.b_range (z0g 8 (pv 8))) (z0o (i:=9) sc__law_mixed.nd rfl (Or.inl rfl)) (z0f (z4T (z0Z (i:=10) sc__law_mixed.nd rfl (Or.inl rfl) (z4v (z3T (z0h G__law_cell_at (hr.mono (by decide)) rfl (z0a (z0g 0 (pv 0)) (z0a (z4s z0j (z0U rfl T.b_len (z0g 4 (pv 4)))) z0c)))) (z4s (z0U rfl T.b_len (z0g 4 (pv 4))) z0j))))
      (z0i (s_m0 PySem.F.slot_list_insert PySem.F.type_list_insert y1F y2Y (pv 4) (z0a (z0g 10 (pv 10)) (z0a (pd_tup (z0a (z0g 5 (pv 5)) (z0a (z0g 9 (pv 9)) z0c))) z0c))))))))))))
      (z0i (s_ret3 (by decide) (by decide) (by decide) (pv 2) (pv 3) (pv 4)))))))))
theorem z7a : FnScope z7z z2Z (z0b z1m):=⟨rfl,rfl,rfl,by decide +kernel,rfl,by decide +kernel,by decide +kernel⟩
theorem z6X {f : Addr} {fd : FuncData} (F : Fun K "_law_beats" "_law_beats" z1m f fd) (hm : mg "_law_beats" = some (.ref f)) (hb : Binds K fd z2Z []) (T : Txt mg) : DefOk P w K mg base 1 "_law_beats" (spN K z1G):=
  z4u (k:=0) (g:=z2c) F hm hb z7a rfl rfl fun cdv A outer s H E hr=>
    (z0f (z9r (z8B hr.units (z0W (z0g 1 (pv 1)) z0j) (z0W (z0g 2 (pv 2)) z0j)) (z0i (z2v (z0W (z0W (z0W (z0W (z0g 0 (pv 0)) z0j) (z0W (z0g 1 (pv 1)) z0j)) (z0W (z0g 1 (pv 1)) z0j)) (z0W (z0g 2 (pv 2)) z0j)))) z2d)
      (z0i (z2v (z0W (z0W (z0W (z0g 0 (pv 0)) z0j) (z0W (z0g 1 (pv 1)) z0j)) (z0W (z0g 2 (pv 2)) z0j)))))
theorem sc__law_table : FnScope z7P z3i (z0b z1k):=⟨rfl,rfl,rfl,by decide +kernel,rfl,by decide +kernel,by decide +kernel⟩
theorem z6g {f : Addr} {fd : FuncData} (F : Fun K "_law_table" "_law_table" z1k f fd) (hm : mg "_law_table" = some (.ref f)) (hb : Binds K fd z3i []) (T : Txt mg) (G__law_beats : DefOk P w K mg base 1 "_law_beats" (spN K z1G)) : DefOk P w K mg base 2 "_law_table" (spN K z1I):=
  z4u (k:=1) (g:=z3g) F hm hb sc__law_table rfl rfl fun cdv A outer s H E hr=>
    (z0f (z0V (z0Z (i:=1) sc__law_table.nd rfl (Or.inl rfl) (z3W (z1i z0c))))
      (z0f (z4z PassesOwn.never rfl (z0O (z0W (z0g 0 (pv 0)) z0j)) (z0o (i:=2) sc__law_table.nd rfl (Or.inr rfl)) (z0i (z5q (pv 1) (z3B (N':=["mixed", "rows", "one", "other"])  rfl ⟨rfl,rfl,rfl,rfl,rfl⟩ (n:=3) rfl (z0O (z0W (z0g 0 (pv 0)) z0j)) (fun _ _ _ _ _=>z0o (i:=3) nd11 rfl (Or.inl rfl)) (fun _ _ _ _ _=>z0J) (fun _ _ _ _ _=>(z0h G__law_beats (hr.mono (by decide)) rfl (z0a (z0g 0 (pv 0)) (z0a (z0g 2 (pv 2)) (z0a (z0g 3 (pv 3)) z0c)))))))))
      (z0i (z4q (pv 1)))))
theorem sc__law_pieces : FnScope z6P z2P (z0b z1b):=⟨rfl,rfl,rfl,by decide +kernel,rfl,by decide +kernel,by decide +kernel⟩
theorem z5J {f : Addr} {fd : FuncData} (F : Fun K "_law_pieces" "_law_pieces" z1b f fd) (hm : mg "_law_pieces" = some (.ref f)) (hb : Binds K fd z2P []) (T : Txt mg) : DefOk P w K mg base 1 "_law_pieces" (spN K z1p):=
  z4u (k:=0) (g:=z2I) F hm hb sc__law_pieces rfl rfl fun cdv A outer s H E hr=>
    (z0f (z0V (z0Z (i:=1) sc__law_pieces.nd rfl (Or.inl rfl) (z3W (z1i z0c))))
      (z0f (y6c PassesOwn.never rfl (z9W rfl T.b_range (z0U rfl T.b_len (z0W (z0g 0 (pv 0)) z0j))) (z0o (i:=2) sc__law_pieces.nd rfl (Or.inr rfl)) (z0i (z5q (pv 1) (z3W (z3j (N':=["mixed", "pieces", "k", "thing"])  rfl ⟨rfl,rfl,rfl,rfl,rfl⟩ (n:=3) rfl (z3f rfl T.b_range (z0U rfl T.b_len (z0W (z0g 0 (pv 0)) z0j))) (fun _ _ _ _ _=>z0o (i:=3) nd12 rfl (Or.inl rfl)) (fun _ _ _ _ _=>z2m (z8B hr.units (z0W (z0W (z0W (z0g 0 (pv 0)) z0j) (z0g 3 (pv 3))) z0j) (z0g 2 (pv 2)))) (fun _ _ _ _ _=>(z0g 3 (pv 3))))))))
      (z0i (z4q (pv 1)))))
theorem z7Q : FnScope z8Q z3A (z0b z1y):=⟨rfl,rfl,rfl,by decide +kernel,rfl,by decide +kernel,by decide +kernel⟩
theorem z8a {f : Addr} {fd : FuncData} (F : Fun K "_law_part" "_law_part" z1y f fd) (hm : mg "_law_part" = some (.ref f)) (hb : Binds K fd z3A []) (T : Txt mg) : DefOk P w K mg base 1 "_law_part" (spN K z1W):=
  z4u (k:=0) (g:=z3C) F hm hb z7Q rfl rfl fun cdv A outer s H E hr=>
    (z0i (z1X (z3B (N':=["table", "things", "one"])  rfl ⟨rfl,rfl,rfl,rfl,rfl⟩ (n:=2) rfl (z0O (z0g 1 (pv 1))) (fun _ _ _ _ _=>z0o (i:=2) nd1 rfl (Or.inr rfl)) (fun _ _ _ _ _=>z0J) (fun _ _ _ _ _=>(z3W (z3j (N':=["table", "things", "one", "other"])  rfl ⟨rfl,rfl,rfl,rfl,rfl⟩ (n:=3) rfl (z0O (z0g 1 (pv 1))) (fun _ _ _ _ _=>z0o (i:=3) nd13 rfl (Or.inl rfl)) (fun _ _ _ _ _=>z0J) (fun _ _ _ _ _=>(z0W (z0W (z0g 0 (pv 0)) (z0g 2 (pv 2))) (z0g 3 (pv 3))))))))))
theorem sc__law_due : FnScope y0F z4k (z0b z1N):=⟨rfl,rfl,rfl,by decide +kernel,rfl,by decide +kernel,by decide +kernel⟩
theorem z8u {f : Addr} {fd : FuncData} (F : Fun K "_law_due" "_law_due" z1N f fd) (hm : mg "_law_due" = some (.ref f)) (hb : Binds K fd z4k []) (T : Txt mg) (Z : Cls K mg base cl) (G_top_ring : DefOk P w K mg base 6 "top_ring" (spN K z0R)) (G_folded : DefX P w K mg base 4 "folded" (spX K cl z3H)) (G__law_part : DefOk P w K mg base 1 "_law_part" (spN K z1W)) : DefOk P w K mg base 7 "_law_due" (spN K z2u):=
  z4u (k:=6) (g:=z4c) F hm hb sc__law_due rfl rfl fun cdv A outer s H E hr=>
    (z0f (z7j (z0Z (i:=2) sc__law_due.nd rfl (Or.inl rfl) (z3T (z0h G_top_ring (hr.mono (by decide)) rfl (z0a (z3T (y5p G_folded (hr.mono (by decide)) rfl (z0a (z0g 0 (pv 0)) (z0a (z3T (z3B (N':=["table", "pieces", "upper", "3", "found", "k", "piece"])  rfl ⟨rfl,rfl,rfl,rfl,rfl⟩ (n:=6) rfl (z0O (z0g 1 (pv 1))) (fun _ _ _ _ _=>z0o (i:=6) nd15 rfl (Or.inl rfl)) (fun _ _ _ _ _=>z0J) (fun _ _ _ _ _=>(z3W (z7N rfl T.b_list (z0g 6 (pv 6))))))) z0c)))) z0c)))))
      (z0f (z9r (z8B hr.units (z0U rfl T.b_len (z0g 2 (pv 2))) z0j) (z0f (z7j (z0Z (i:=3) sc__law_due.nd rfl (Or.inr rfl) (z0W (z0g 1 (pv 1)) (z0W (z0g 2 (pv 2)) z0j))))
      (z0i (z1X (z3W (z4P rfl T.b_sorted (y5z (z3j (N':=["table", "pieces", "upper", "piece", "found", "k", "at"])  rfl ⟨rfl,rfl,rfl,rfl,rfl⟩ (n:=6) rfl (z0O (z3T (z0h G_top_ring (hr.mono (by decide)) rfl (z0a (z3T (z0h G__law_part (hr.mono (by decide)) rfl (z0a (z0g 0 (pv 0)) (z0a (z0g 3 (pv 3)) z0c)))) z0c)))) (fun _ _ _ _ _=>z0o (i:=6) nd14 rfl (Or.inl rfl)) (fun _ _ _ _ _=>z0J) (fun _ _ _ _ _=>(z0W (z0g 3 (pv 3)) (z0g 6 (pv 6))))))))))) z2d)
      (z0f (z0V (z0Z (i:=4) sc__law_due.nd rfl (Or.inl rfl) (z3W (z1i z0c))))
      (z0f (z4z PassesOwn.never rfl (z0O (z0g 2 (pv 2))) (z0o (i:=5) sc__law_due.nd rfl (Or.inl rfl)) (z0i (z0V (z0Z (i:=4) sc__law_due.nd rfl (Or.inl rfl) (z3W (y5w (z0g 4 (pv 4)) (z0W (z0g 1 (pv 1)) (z0g 5 (pv 5)))))))))
      (z0f (z9r (pt_lt (z0U rfl T.b_len (z0g 2 (pv 2))) z0j) (z0i (z1X (z3W (z1i z0c)))) z2d)
      (z0i (z1X (z3W (z4P rfl T.b_sorted (z0g 4 (pv 4)))))))))))
theorem sc_law : FnScope N_law P_law (z0b z6F):=⟨rfl,rfl,rfl,by decide +kernel,rfl,by decide +kernel,by decide +kernel⟩
theorem ok_law {f : Addr} {fd : FuncData} (F : Fun K "law" "law" z6F f fd) (T : Txt mg) (Z : Cls K mg base cl) (G_rings : DefOk P w K mg base 5 "rings" (spN K z2j)) (G_top_ring : DefOk P w K mg base 6 "top_ring" (spN K z0R)) (G_parts : DefOk P w K mg base 6 "parts" (spN K z3F)) (G__law_mixed : DefOk P w K mg base 2 "_law_mixed" (spN K z1l)) (G__law_table : DefOk P w K mg base 2 "_law_table" (spN K z1I)) (G__law_pieces : DefOk P w K mg base 1 "_law_pieces" (spN K z1p)) (G__law_due : DefOk P w K mg base 7 "_law_due" (spN K z2u)) : FnOk P w K mg base CX0 8 f fd P_law (spN K y0D):=
  fnN (k:=7) (g:=g_law) F sc_law rfl rfl fun cdv A outer s H E hr=>
    (z0f (z7j (z0Z (i:=1) sc_law.nd rfl (Or.inl rfl) (z3T (z0h G__law_mixed (hr.mono (by decide)) rfl (z0a (z0g 0 (pv 0)) z0c)))))
      (z0f (z7j (z0Z (i:=2) sc_law.nd rfl (Or.inl rfl) (z3T (z0h G__law_table (hr.mono (by decide)) rfl (z0a (z0g 1 (pv 1)) z0c)))))
      (z0f (z7j (z0Z (i:=3) sc_law.nd rfl (Or.inl rfl) (z3T (z0h G_parts (hr.mono (by decide)) rfl (z0a (z3T (z3B (N':=["script", "mixed", "table", "told", "pieces", "row"])  rfl ⟨rfl,rfl,rfl,rfl,rfl⟩ (n:=5) rfl (z0O (z0g 2 (pv 2))) (fun _ _ _ _ _=>z0o (i:=5) nd16 rfl (Or.inl rfl)) (fun _ _ _ _ _=>z0J) (fun _ _ _ _ _=>(z3W (z7N rfl T.b_list (z0g 5 (pv 5))))))) z0c)))))
      (z0f (z4z PassesOwn.never rfl (z0O (y5z (z1i (z0a (z3T (z0h G__law_pieces (hr.mono (by decide)) rfl (z0a (z0g 1 (pv 1)) z0c))) (z0a (z0g 3 (pv 3)) z0c))))) (z0o (i:=4) sc_law.nd rfl (Or.inl rfl)) (z0i (z9r (pt_ne hr.units (z3T (z0h G_top_ring (hr.mono (by decide)) rfl (z0a (z0g 2 (pv 2)) z0c))) (z3T (z0h G__law_due (hr.mono (by decide)) rfl (z0a (z0g 2 (pv 2)) (z0a (z0g 4 (pv 4)) z0c))))) (z0i (z2v y0N)) z2d)))
      (z0i (z2v (pd_or (y0A hr.units (z0U rfl T.b_len (z3T (z0h G_rings (hr.mono (by decide)) rfl (z0a (z0g 2 (pv 2)) z0c)))) z0j) (y3g (y0A hr.units (z0W (z0g 3 (pv 3)) z0j) (z3T (z0h G_top_ring (hr.mono (by decide)) rfl (z0a (z0g 2 (pv 2)) z0c))))))))))))
end
theorem y5n {α : Type} {us : List α} (h : us.length=1) : ∃ a0,us=[a0]:=by
  cases us with
  | nil=>cases h
  | cons b us=>exact ⟨b,by rw [List.length_eq_zero_iff.mp (Nat.succ.inj h)]⟩
theorem z6x {α : Type} {us : List α} (h : us.length=2) : ∃ a0 a1,us=[a0,a1]:=by
  cases us with
  | nil=>cases h
  | cons b us=>obtain ⟨a1,e⟩:=y5n (Nat.succ.inj h); exact ⟨b,a1,by rw [e]⟩
theorem us_3 {α : Type} {us : List α} (h : us.length=3) : ∃ a0 a1 a2,us=[a0,a1,a2]:=by
  cases us with
  | nil=>cases h
  | cons b us=>obtain ⟨a1,a2,e⟩:=z6x (Nat.succ.inj h); exact ⟨b,a1,a2,by rw [e]⟩
theorem us_4 {α : Type} {us : List α} (h : us.length=4) : ∃ a0 a1 a2 a3,us=[a0,a1,a2,a3]:=by
  cases us with
  | nil=>cases h
  | cons b us=>obtain ⟨a1,a2,a3,e⟩:=us_3 (Nat.succ.inj h); exact ⟨b,a1,a2,a3,by rw [e]⟩
theorem us_5 {α : Type} {us : List α} (h : us.length=5) : ∃ a0 a1 a2 a3 a4,us=[a0,a1,a2,a3,a4]:=by
  cases us with
  | nil=>cases h
  | cons b us=>obtain ⟨a1,a2,a3,a4,e⟩:=us_4 (Nat.succ.inj h); exact ⟨b,a1,a2,a3,a4,by rw [e]⟩
theorem us_6 {α : Type} {us : List α} (h : us.length=6) : ∃ a0 a1 a2 a3 a4 a5,us=[a0,a1,a2,a3,a4,a5]:=by
  cases us with
  | nil=>cases h
  | cons b us=>obtain ⟨a1,a2,a3,a4,a5,e⟩:=us_5 (Nat.succ.inj h); exact ⟨b,a1,a2,a3,a4,a5,by rw [e]⟩
theorem all_mk {l : PySem.W.OpenLaw} {w : World} {K : PySem.W.Frag} {h : Heap} {mg : Str->Option Value} {fa : Addr} (X : K.In h) (G : h.Ns mainGlobals mg) (hfa : mg "law" = some (.ref fa))
    {f_part f_picked f_beaten_by f_places_true f_reached f_steps_from f_rings f_places_with f_top_ring f_stands_together f_parting f_sees_as_one f_closure f_parts f_greatest_with f_leads_to_all f_is_thing f_tells_each_once f_places_of f_folded f__law_cell_at f__law_table_by f__law_mixed f__law_beats f__law_table f__law_pieces f__law_part f__law_due f_law : Addr} {od27 an27 : Option Addr} {sl27 : Array (Option Value)} {oc27 kV27 dc27 pm27 cd27 ct27 : Value} {od24 an24 : Option Addr} {sl24 : Array (Option Value)} {oc24 kV24 dc24 pm24 cd24 ct24 : Value} {od15 an15 : Option Addr} {sl15 : Array (Option Value)} {oc15 kV15 dc15 pm15 cd15 ct15 : Value} {od7 an7 : Option Addr} {sl7 : Array (Option Value)} {oc7 kV7 dc7 pm7 cd7 ct7 : Value} {od22 an22 : Option Addr} {sl22 : Array (Option Value)} {oc22 kV22 dc22 pm22 cd22 ct22 : Value} {od13 an13 : Option Addr} {sl13 : Array (Option Value)} {oc13 kV13 dc13 pm13 cd13 ct13 : Value} {od26 an26 : Option Addr} {sl26 : Array (Option Value)} {oc26 kV26 dc26 pm26 cd26 ct26 : Value} {od8 an8 : Option Addr} {sl8 : Array (Option Value)} {oc8 kV8 dc8 pm8 cd8 ct8 : Value} {od19 an19 : Option Addr} {sl19 : Array (Option Value)} {oc19 kV19 dc19 pm19 cd19 ct19 : Value} {od0 an0 : Option Addr} {sl0 : Array (Option Value)} {oc0 kV0 dc0 pm0 cd0 ct0 : Value} {od21 an21 : Option Addr} {sl21 : Array (Option Value)} {oc21 kV21 dc21 pm21 cd21 ct21 : Value} {od9 an9 : Option Addr} {sl9 : Array (Option Value)} {oc9 kV9 dc9 pm9 cd9 ct9 : Value} {od20 an20 : Option Addr} {sl20 : Array (Option Value)} {oc20 kV20 dc20 pm20 cd20 ct20 : Value} {od25 an25 : Option Addr} {sl25 : Array (Option Value)} {oc25 kV25 dc25 pm25 cd25 ct25 : Value} {od3 an3 : Option Addr} {sl3 : Array (Option Value)} {oc3 kV3 dc3 pm3 cd3 ct3 : Value} {od5 an5 : Option Addr} {sl5 : Array (Option Value)} {oc5 kV5 dc5 pm5 cd5 ct5 : Value} {od18 an18 : Option Addr} {sl18 : Array (Option Value)} {oc18 kV18 dc18 pm18 cd18 ct18 : Value} {od1 an1 : Option Addr} {sl1 : Array (Option Value)} {oc1 kV1 dc1 pm1 cd1 ct1 : Value} {od16 an16 : Option Addr} {sl16 : Array (Option Value)} {oc16 kV16 dc16 pm16 cd16 ct16 : Value} {od23 an23 : Option Addr} {sl23 : Array (Option Value)} {oc23 kV23 dc23 pm23 cd23 ct23 : Value} {od4 an4 : Option Addr} {sl4 : Array (Option Value)} {oc4 kV4 dc4 pm4 cd4 ct4 : Value} {od2 an2 : Option Addr} {sl2 : Array (Option Value)} {oc2 kV2 dc2 pm2 cd2 ct2 : Value} {od11 an11 : Option Addr} {sl11 : Array (Option Value)} {oc11 kV11 dc11 pm11 cd11 ct11 : Value} {od10 an10 : Option Addr} {sl10 : Array (Option Value)} {oc10 kV10 dc10 pm10 cd10 ct10 : Value} {od12 an12 : Option Addr} {sl12 : Array (Option Value)} {oc12 kV12 dc12 pm12 cd12 ct12 : Value} {od6 an6 : Option Addr} {sl6 : Array (Option Value)} {oc6 kV6 dc6 pm6 cd6 ct6 : Value} {od14 an14 : Option Addr} {sl14 : Array (Option Value)} {oc14 kV14 dc14 pm14 cd14 ct14 : Value} {od17 an17 : Option Addr} {sl17 : Array (Option Value)} {oc17 kV17 dc17 pm17 cd17 ct17 : Value} {od28 an28 : Option Addr} {sl28 : Array (Option Value)} {oc28 kV28 dc28 pm28 cd28 ct28 : Value} {C_BadParts : Addr}
    (a_part : PySem.W.nsIn K mainGlobals "part" = some (some (.ref f_part))) (l_part : K.lookup f_part=some ⟨oc27,od27,.func (PySem.W.fnOf "part" "part" (z0p z5U) (z0l z5U) (z0b z5U) .none kV27 dc27 pm27 an27 cd27 ct27),sl27⟩) (c_part : PySem.W.codeIn K cd27 "part" = true) (k_part : PySem.W.keepIn K (.ref f_part)=true)
    (a_picked : PySem.W.nsIn K mainGlobals "picked" = some (some (.ref f_picked))) (l_picked : K.lookup f_picked=some ⟨oc24,od24,.func (PySem.W.fnOf "picked" "picked" (z0p z3p) (z0l z3p) (z0b z3p) .none kV24 dc24 pm24 an24 cd24 ct24),sl24⟩) (c_picked : PySem.W.codeIn K cd24 "picked" = true) (k_picked : PySem.W.keepIn K (.ref f_picked)=true)
    (a_beaten_by : PySem.W.nsIn K mainGlobals "beaten_by" = some (some (.ref f_beaten_by))) (l_beaten_by : K.lookup f_beaten_by=some ⟨oc15,od15,.func (PySem.W.fnOf "beaten_by" "beaten_by" (z0p z1v) (z0l z1v) (z0b z1v) .none kV15 dc15 pm15 an15 cd15 ct15),sl15⟩) (c_beaten_by : PySem.W.codeIn K cd15 "beaten_by" = true) (k_beaten_by : PySem.W.keepIn K (.ref f_beaten_by)=true)
    (a_places_true : PySem.W.nsIn K mainGlobals "places_true" = some (some (.ref f_places_true))) (l_places_true : K.lookup f_places_true=some ⟨oc7,od7,.func (PySem.W.fnOf "places_true" "places_true" (z0p z1f) (z0l z1f) (z0b z1f) .none kV7 dc7 pm7 an7 cd7 ct7),sl7⟩) (c_places_true : PySem.W.codeIn K cd7 "places_true" = true) (k_places_true : PySem.W.keepIn K (.ref f_places_true)=true)
    (a_reached : PySem.W.nsIn K mainGlobals "reached" = some (some (.ref f_reached))) (l_reached : K.lookup f_reached=some ⟨oc22,od22,.func (PySem.W.fnOf "reached" "reached" (z0p z2n) (z0l z2n) (z0b z2n) .none kV22 dc22 pm22 an22 cd22 ct22),sl22⟩) (c_reached : PySem.W.codeIn K cd22 "reached" = true) (k_reached : PySem.W.keepIn K (.ref f_reached)=true)
    (a_steps_from : PySem.W.nsIn K mainGlobals "steps_from" = some (some (.ref f_steps_from))) (l_steps_from : K.lookup f_steps_from=some ⟨oc13,od13,.func (PySem.W.fnOf "steps_from" "steps_from" (z0p z1n) (z0l z1n) (z0b z1n) .none kV13 dc13 pm13 an13 cd13 ct13),sl13⟩) (c_steps_from : PySem.W.codeIn K cd13 "steps_from" = true) (k_steps_from : PySem.W.keepIn K (.ref f_steps_from)=true)
    (a_rings : PySem.W.nsIn K mainGlobals "rings" = some (some (.ref f_rings))) (l_rings : K.lookup f_rings=some ⟨oc26,od26,.func (PySem.W.fnOf "rings" "rings" (z0p z4j) (z0l z4j) (z0b z4j) .none kV26 dc26 pm26 an26 cd26 ct26),sl26⟩) (c_rings : PySem.W.codeIn K cd26 "rings" = true) (k_rings : PySem.W.keepIn K (.ref f_rings)=true)
    (a_places_with : PySem.W.nsIn K mainGlobals "places_with" = some (some (.ref f_places_with))) (l_places_with : K.lookup f_places_with=some ⟨oc8,od8,.func (PySem.W.fnOf "places_with" "places_with" (z0p z1c) (z0l z1c) (z0b z1c) .none kV8 dc8 pm8 an8 cd8 ct8),sl8⟩) (c_places_with : PySem.W.codeIn K cd8 "places_with" = true) (k_places_with : PySem.W.keepIn K (.ref f_places_with)=true)
    (a_top_ring : PySem.W.nsIn K mainGlobals "top_ring" = some (some (.ref f_top_ring))) (l_top_ring : K.lookup f_top_ring=some ⟨oc19,od19,.func (PySem.W.fnOf "top_ring" "top_ring" (z0p z1O) (z0l z1O) (z0b z1O) .none kV19 dc19 pm19 an19 cd19 ct19),sl19⟩) (c_top_ring : PySem.W.codeIn K cd19 "top_ring" = true) (k_top_ring : PySem.W.keepIn K (.ref f_top_ring)=true)
    (a_stands_together : PySem.W.nsIn K mainGlobals "stands_together" = some (some (.ref f_stands_together))) (l_stands_together : K.lookup f_stands_together=some ⟨oc0,od0,.func (PySem.W.fnOf "stands_together" "stands_together" (z0p z0B) (z0l z0B) (z0b z0B) .none kV0 dc0 pm0 an0 cd0 ct0),sl0⟩) (c_stands_together : PySem.W.codeIn K cd0 "stands_together" = true) (k_stands_together : PySem.W.keepIn K (.ref f_stands_together)=true)
    (a_parting : PySem.W.nsIn K mainGlobals "parting" = some (some (.ref f_parting))) (l_parting : K.lookup f_parting=some ⟨oc21,od21,.func (PySem.W.fnOf "parting" "parting" (z0p z2l) (z0l z2l) (z0b z2l) .none kV21 dc21 pm21 an21 cd21 ct21),sl21⟩) (c_parting : PySem.W.codeIn K cd21 "parting" = true) (k_parting : PySem.W.keepIn K (.ref f_parting)=true)
    (a_sees_as_one : PySem.W.nsIn K mainGlobals "sees_as_one" = some (some (.ref f_sees_as_one))) (l_sees_as_one : K.lookup f_sees_as_one=some ⟨oc9,od9,.func (PySem.W.fnOf "sees_as_one" "sees_as_one" (z0p z1d) (z0l z1d) (z0b z1d) .none kV9 dc9 pm9 an9 cd9 ct9),sl9⟩) (c_sees_as_one : PySem.W.codeIn K cd9 "sees_as_one" = true) (k_sees_as_one : PySem.W.keepIn K (.ref f_sees_as_one)=true)
    (a_closure : PySem.W.nsIn K mainGlobals "closure" = some (some (.ref f_closure))) (l_closure : K.lookup f_closure=some ⟨oc20,od20,.func (PySem.W.fnOf "closure" "closure" (z0p z2t) (z0l z2t) (z0b z2t) .none kV20 dc20 pm20 an20 cd20 ct20),sl20⟩) (c_closure : PySem.W.codeIn K cd20 "closure" = true) (k_closure : PySem.W.keepIn K (.ref f_closure)=true)
    (a_parts : PySem.W.nsIn K mainGlobals "parts" = some (some (.ref f_parts))) (l_parts : K.lookup f_parts=some ⟨oc25,od25,.func (PySem.W.fnOf "parts" "parts" (z0p z3X) (z0l z3X) (z0b z3X) .none kV25 dc25 pm25 an25 cd25 ct25),sl25⟩) (c_parts : PySem.W.codeIn K cd25 "parts" = true) (k_parts : PySem.W.keepIn K (.ref f_parts)=true)
    (a_greatest_with : PySem.W.nsIn K mainGlobals "greatest_with" = some (some (.ref f_greatest_with))) (l_greatest_with : K.lookup f_greatest_with=some ⟨oc3,od3,.func (PySem.W.fnOf "greatest_with" "greatest_with" (z0p z0I) (z0l z0I) (z0b z0I) .none kV3 dc3 pm3 an3 cd3 ct3),sl3⟩) (c_greatest_with : PySem.W.codeIn K cd3 "greatest_with" = true) (k_greatest_with : PySem.W.keepIn K (.ref f_greatest_with)=true)
    (a_leads_to_all : PySem.W.nsIn K mainGlobals "leads_to_all" = some (some (.ref f_leads_to_all))) (l_leads_to_all : K.lookup f_leads_to_all=some ⟨oc5,od5,.func (PySem.W.fnOf "leads_to_all" "leads_to_all" (z0p z0S) (z0l z0S) (z0b z0S) .none kV5 dc5 pm5 an5 cd5 ct5),sl5⟩) (c_leads_to_all : PySem.W.codeIn K cd5 "leads_to_all" = true) (k_leads_to_all : PySem.W.keepIn K (.ref f_leads_to_all)=true)
    (a_is_thing : PySem.W.nsIn K mainGlobals "is_thing" = some (some (.ref f_is_thing))) (l_is_thing : K.lookup f_is_thing=some ⟨oc18,od18,.func (PySem.W.fnOf "is_thing" "is_thing" (z0p z1P) (z0l z1P) (z0b z1P) .none kV18 dc18 pm18 an18 cd18 ct18),sl18⟩) (c_is_thing : PySem.W.codeIn K cd18 "is_thing" = true) (k_is_thing : PySem.W.keepIn K (.ref f_is_thing)=true)
    (a_tells_each_once : PySem.W.nsIn K mainGlobals "tells_each_once" = some (some (.ref f_tells_each_once))) (l_tells_each_once : K.lookup f_tells_each_once=some ⟨oc1,od1,.func (PySem.W.fnOf "tells_each_once" "tells_each_once" (z0p z0A) (z0l z0A) (z0b z0A) .none kV1 dc1 pm1 an1 cd1 ct1),sl1⟩) (c_tells_each_once : PySem.W.codeIn K cd1 "tells_each_once" = true) (k_tells_each_once : PySem.W.keepIn K (.ref f_tells_each_once)=true)
    (a_places_of : PySem.W.nsIn K mainGlobals "places_of" = some (some (.ref f_places_of))) (l_places_of : K.lookup f_places_of=some ⟨oc16,od16,.func (PySem.W.fnOf "places_of" "places_of" (z0p z1C) (z0l z1C) (z0b z1C) .none kV16 dc16 pm16 an16 cd16 ct16),sl16⟩) (c_places_of : PySem.W.codeIn K cd16 "places_of" = true) (k_places_of : PySem.W.keepIn K (.ref f_places_of)=true)
    (a_folded : PySem.W.nsIn K mainGlobals "folded" = some (some (.ref f_folded))) (l_folded : K.lookup f_folded=some ⟨oc23,od23,.func (PySem.W.fnOf "folded" "folded" (z0p z3s) (z0l z3s) (z0b z3s) .none kV23 dc23 pm23 an23 cd23 ct23),sl23⟩) (c_folded : PySem.W.codeIn K cd23 "folded" = true) (k_folded : PySem.W.keepIn K (.ref f_folded)=true)
    (a__law_cell_at : PySem.W.nsIn K mainGlobals "_law_cell_at" = some (some (.ref f__law_cell_at))) (l__law_cell_at : K.lookup f__law_cell_at=some ⟨oc4,od4,.func (PySem.W.fnOf "_law_cell_at" "_law_cell_at" (z0p z0Q) (z0l z0Q) (z0b z0Q) .none kV4 dc4 pm4 an4 cd4 ct4),sl4⟩) (c__law_cell_at : PySem.W.codeIn K cd4 "_law_cell_at" = true) (k__law_cell_at : PySem.W.keepIn K (.ref f__law_cell_at)=true)
    (a__law_table_by : PySem.W.nsIn K mainGlobals "_law_table_by" = some (some (.ref f__law_table_by))) (l__law_table_by : K.lookup f__law_table_by=some ⟨oc2,od2,.func (PySem.W.fnOf "_law_table_by" "_law_table_by" (z0p z0L) (z0l z0L) (z0b z0L) .none kV2 dc2 pm2 an2 cd2 ct2),sl2⟩) (c__law_table_by : PySem.W.codeIn K cd2 "_law_table_by" = true) (k__law_table_by : PySem.W.keepIn K (.ref f__law_table_by)=true)
    (a__law_mixed : PySem.W.nsIn K mainGlobals "_law_mixed" = some (some (.ref f__law_mixed))) (l__law_mixed : K.lookup f__law_mixed=some ⟨oc11,od11,.func (PySem.W.fnOf "_law_mixed" "_law_mixed" (z0p z1j) (z0l z1j) (z0b z1j) .none kV11 dc11 pm11 an11 cd11 ct11),sl11⟩) (c__law_mixed : PySem.W.codeIn K cd11 "_law_mixed" = true) (k__law_mixed : PySem.W.keepIn K (.ref f__law_mixed)=true)
    (a__law_beats : PySem.W.nsIn K mainGlobals "_law_beats" = some (some (.ref f__law_beats))) (l__law_beats : K.lookup f__law_beats=some ⟨oc10,od10,.func (PySem.W.fnOf "_law_beats" "_law_beats" (z0p z1m) (z0l z1m) (z0b z1m) .none kV10 dc10 pm10 an10 cd10 ct10),sl10⟩) (c__law_beats : PySem.W.codeIn K cd10 "_law_beats" = true) (k__law_beats : PySem.W.keepIn K (.ref f__law_beats)=true)
    (a__law_table : PySem.W.nsIn K mainGlobals "_law_table" = some (some (.ref f__law_table))) (l__law_table : K.lookup f__law_table=some ⟨oc12,od12,.func (PySem.W.fnOf "_law_table" "_law_table" (z0p z1k) (z0l z1k) (z0b z1k) .none kV12 dc12 pm12 an12 cd12 ct12),sl12⟩) (c__law_table : PySem.W.codeIn K cd12 "_law_table" = true) (k__law_table : PySem.W.keepIn K (.ref f__law_table)=true)
    (a__law_pieces : PySem.W.nsIn K mainGlobals "_law_pieces" = some (some (.ref f__law_pieces))) (l__law_pieces : K.lookup f__law_pieces=some ⟨oc6,od6,.func (PySem.W.fnOf "_law_pieces" "_law_pieces" (z0p z1b) (z0l z1b) (z0b z1b) .none kV6 dc6 pm6 an6 cd6 ct6),sl6⟩) (c__law_pieces : PySem.W.codeIn K cd6 "_law_pieces" = true) (k__law_pieces : PySem.W.keepIn K (.ref f__law_pieces)=true)
    (a__law_part : PySem.W.nsIn K mainGlobals "_law_part" = some (some (.ref f__law_part))) (l__law_part : K.lookup f__law_part=some ⟨oc14,od14,.func (PySem.W.fnOf "_law_part" "_law_part" (z0p z1y) (z0l z1y) (z0b z1y) .none kV14 dc14 pm14 an14 cd14 ct14),sl14⟩) (c__law_part : PySem.W.codeIn K cd14 "_law_part" = true) (k__law_part : PySem.W.keepIn K (.ref f__law_part)=true)
    (a__law_due : PySem.W.nsIn K mainGlobals "_law_due" = some (some (.ref f__law_due))) (l__law_due : K.lookup f__law_due=some ⟨oc17,od17,.func (PySem.W.fnOf "_law_due" "_law_due" (z0p z1N) (z0l z1N) (z0b z1N) .none kV17 dc17 pm17 an17 cd17 ct17),sl17⟩) (c__law_due : PySem.W.codeIn K cd17 "_law_due" = true) (k__law_due : PySem.W.keepIn K (.ref f__law_due)=true)
    (a_law : PySem.W.nsIn K mainGlobals "law" = some (some (.ref f_law))) (l_law : K.lookup f_law=some ⟨oc28,od28,.func (PySem.W.fnOf "law" "law" (z0p z6F) (z0l z6F) (z0b z6F) .none kV28 dc28 pm28 an28 cd28 ct28),sl28⟩) (c_law : PySem.W.codeIn K cd28 "law" = true) (k_law : PySem.W.keepIn K (.ref f_law)=true)
    (x_BadParts : PySem.W.nsIn K mainGlobals "BadParts" = some (some (.ref C_BadParts))) (q_BadParts : PySem.W.excIn K C_BadParts bmVE "ValueError.__new__" = true)
    (z_enumerate : PySem.W.nsIn K mainGlobals "enumerate" = some none) (z_sorted : PySem.W.nsIn K mainGlobals "sorted" = some none) (z_range : PySem.W.nsIn K mainGlobals "range" = some none) (z_len : PySem.W.nsIn K mainGlobals "len" = some none) (z_all : PySem.W.nsIn K mainGlobals "all" = some none) (z_any : PySem.W.nsIn K mainGlobals "any" = some none) (z_set : PySem.W.nsIn K mainGlobals "set" = some none) (z_int : PySem.W.nsIn K mainGlobals "int" = some none) (z_isinstance : PySem.W.nsIn K mainGlobals "isinstance" = some none) (z_bool : PySem.W.nsIn K mainGlobals "bool" = some none) (z_min : PySem.W.nsIn K mainGlobals "min" = some none) (z_list : PySem.W.nsIn K mainGlobals "list" = some none) :
    ∃ fd : FuncData,(∀ (s : Shared) (v : Value),BindsTo s fd ⟨[v],[]⟩ [("script",v)])∧∀ base : Heap,K.In base->base.Ns mainGlobals mg->FnOk l.prog w K mg base CX0 8 fa fd ["script"] (y3Y K y0D):=by
  have e:=hfa.symm.trans (PySem.W.mg_of X G a_law)
  cases e
  have T : Txt mg:=⟨PySem.W.mg_none_of X G z_enumerate,PySem.W.mg_none_of X G z_sorted,PySem.W.mg_none_of X G z_range,PySem.W.mg_none_of X G z_len,PySem.W.mg_none_of X G z_all,PySem.W.mg_none_of X G z_any,PySem.W.mg_none_of X G z_set,PySem.W.mg_none_of X G z_int,PySem.W.mg_none_of X G z_isinstance,PySem.W.mg_none_of X G z_bool,PySem.W.mg_none_of X G z_min,PySem.W.mg_none_of X G z_list⟩
  have F_part:=z0D (st:=z5U) l_part c_part k_part
  have b_part:=F_part.binds (ps:=y1w) fun _ _ _ _ _ _ us hl=>by obtain ⟨_,_,rfl⟩:=z6x hl; rfl
  have F_picked:=z0D (st:=z3p) l_picked c_picked k_picked
  have b_picked:=F_picked.binds (ps:=z6T) fun _ _ _ _ _ _ us hl=>by obtain ⟨_,_,rfl⟩:=z6x hl; rfl
  have F_beaten_by:=z0D (st:=z1v) l_beaten_by c_beaten_by k_beaten_by
  have b_beaten_by:=F_beaten_by.binds (ps:=z3y) fun _ _ _ _ _ _ us hl=>by obtain ⟨_,_,rfl⟩:=z6x hl; rfl
  have F_places_true:=z0D (st:=z1f) l_places_true c_places_true k_places_true
  have b_places_true:=F_places_true.binds (ps:=z2E) fun _ _ _ _ _ _ us hl=>by obtain ⟨_,rfl⟩:=y5n hl; rfl
  have F_reached:=z0D (st:=z2n) l_reached c_reached k_reached
  have b_reached:=F_reached.binds (ps:=z5c) fun _ _ _ _ _ _ us hl=>by obtain ⟨_,_,rfl⟩:=z6x hl; rfl
  have F_steps_from:=z0D (st:=z1n) l_steps_from c_steps_from k_steps_from
  have b_steps_from:=F_steps_from.binds (ps:=z3h) fun _ _ _ _ _ _ us hl=>by obtain ⟨_,_,rfl⟩:=z6x hl; rfl
  have F_rings:=z0D (st:=z4j) l_rings c_rings k_rings
  have b_rings:=F_rings.binds (ps:=z8k) fun _ _ _ _ _ _ us hl=>by obtain ⟨_,rfl⟩:=y5n hl; rfl
  have F_places_with:=z0D (st:=z1c) l_places_with c_places_with k_places_with
  have b_places_with:=F_places_with.binds (ps:=z2R) fun _ _ _ _ _ _ us hl=>by obtain ⟨_,_,rfl⟩:=z6x hl; rfl
  have F_top_ring:=z0D (st:=z1O) l_top_ring c_top_ring k_top_ring
  have b_top_ring:=F_top_ring.binds (ps:=z4m) fun _ _ _ _ _ _ us hl=>by obtain ⟨_,rfl⟩:=y5n hl; rfl
  have F_stands_together:=z0D (st:=z0B) l_stands_together c_stands_together k_stands_together
  have b_stands_together:=F_stands_together.binds (ps:=z1x) fun _ _ _ _ _ _ us hl=>by obtain ⟨_,_,rfl⟩:=z6x hl; rfl
  have F_parting:=z0D (st:=z2l) l_parting c_parting k_parting
  have b_parting:=F_parting.binds (ps:=z5b) fun _ _ _ _ _ _ us hl=>by obtain ⟨_,_,rfl⟩:=z6x hl; rfl
  have F_sees_as_one:=z0D (st:=z1d) l_sees_as_one c_sees_as_one k_sees_as_one
  have b_sees_as_one:=F_sees_as_one.binds (ps:=z2y) fun _ _ _ _ _ _ us hl=>by obtain ⟨_,_,_,rfl⟩:=us_3 hl; rfl
  have F_closure:=z0D (st:=z2t) l_closure c_closure k_closure
  have b_closure:=F_closure.binds (ps:=z5v) fun _ _ _ _ _ _ us hl=>by obtain ⟨_,_,rfl⟩:=z6x hl; rfl
  have F_parts:=z0D (st:=z3X) l_parts c_parts k_parts
  have b_parts:=F_parts.binds (ps:=z8U) fun _ _ _ _ _ _ us hl=>by obtain ⟨_,rfl⟩:=y5n hl; rfl
  have F_greatest_with:=z0D (st:=z0I) l_greatest_with c_greatest_with k_greatest_with
  have b_greatest_with:=F_greatest_with.binds (ps:=z1V) fun _ _ _ _ _ _ us hl=>by obtain ⟨_,_,rfl⟩:=z6x hl; rfl
  have F_leads_to_all:=z0D (st:=z0S) l_leads_to_all c_leads_to_all k_leads_to_all
  have b_leads_to_all:=F_leads_to_all.binds (ps:=z2k) fun _ _ _ _ _ _ us hl=>by obtain ⟨_,_,_,rfl⟩:=us_3 hl; rfl
  have F_is_thing:=z0D (st:=z1P) l_is_thing c_is_thing k_is_thing
  have b_is_thing:=F_is_thing.binds (ps:=z4g) fun _ _ _ _ _ _ us hl=>by obtain ⟨_,_,rfl⟩:=z6x hl; rfl
  have F_tells_each_once:=z0D (st:=z0A) l_tells_each_once c_tells_each_once k_tells_each_once
  have b_tells_each_once:=F_tells_each_once.binds (ps:=z1B) fun _ _ _ _ _ _ us hl=>by obtain ⟨_,_,rfl⟩:=z6x hl; rfl
  have F_places_of:=z0D (st:=z1C) l_places_of c_places_of k_places_of
  have b_places_of:=F_places_of.binds (ps:=z2w) fun _ _ _ _ _ _ us hl=>by obtain ⟨_,_,rfl⟩:=z6x hl; rfl
  have F_folded:=z0D (st:=z3s) l_folded c_folded k_folded
  have b_folded:=F_folded.binds (ps:=z4F) fun _ _ _ _ _ _ us hl=>by obtain ⟨_,_,rfl⟩:=z6x hl; rfl
  have F__law_cell_at:=z0D (st:=z0Q) l__law_cell_at c__law_cell_at k__law_cell_at
  have b__law_cell_at:=F__law_cell_at.binds (ps:=z2h) fun _ _ _ _ _ _ us hl=>by obtain ⟨_,_,rfl⟩:=z6x hl; rfl
  have F__law_table_by:=z0D (st:=z0L) l__law_table_by c__law_table_by k__law_table_by
  have b__law_table_by:=F__law_table_by.binds (ps:=z1U) fun _ _ _ _ _ _ us hl=>by obtain ⟨_,_,rfl⟩:=z6x hl; rfl
  have F__law_mixed:=z0D (st:=z1j) l__law_mixed c__law_mixed k__law_mixed
  have b__law_mixed:=F__law_mixed.binds (ps:=z2W) fun _ _ _ _ _ _ us hl=>by obtain ⟨_,rfl⟩:=y5n hl; rfl
  have F__law_beats:=z0D (st:=z1m) l__law_beats c__law_beats k__law_beats
  have b__law_beats:=F__law_beats.binds (ps:=z2Z) fun _ _ _ _ _ _ us hl=>by obtain ⟨_,_,_,rfl⟩:=us_3 hl; rfl
  have F__law_table:=z0D (st:=z1k) l__law_table c__law_table k__law_table
  have b__law_table:=F__law_table.binds (ps:=z3i) fun _ _ _ _ _ _ us hl=>by obtain ⟨_,rfl⟩:=y5n hl; rfl
  have F__law_pieces:=z0D (st:=z1b) l__law_pieces c__law_pieces k__law_pieces
  have b__law_pieces:=F__law_pieces.binds (ps:=z2P) fun _ _ _ _ _ _ us hl=>by obtain ⟨_,rfl⟩:=y5n hl; rfl
  have F__law_part:=z0D (st:=z1y) l__law_part c__law_part k__law_part
  have b__law_part:=F__law_part.binds (ps:=z3A) fun _ _ _ _ _ _ us hl=>by obtain ⟨_,_,rfl⟩:=z6x hl; rfl
  have F__law_due:=z0D (st:=z1N) l__law_due c__law_due k__law_due
  have b__law_due:=F__law_due.binds (ps:=z4k) fun _ _ _ _ _ _ us hl=>by obtain ⟨_,_,rfl⟩:=z6x hl; rfl
  have F_law:=z0D (st:=z6F) l_law c_law k_law
  have b_law:=F_law.binds (ps:=P_law) fun _ _ _ _ _ _ us hl=>by obtain ⟨_,rfl⟩:=y5n hl; rfl
  refine ⟨PySem.W.fnOf "law" "law" (z0p z6F) (z0l z6F) (z0b z6F) .none kV28 dc28 pm28 an28 cd28 ct28,fun s v=>.of_eq rfl,fun base KB GB=>?_⟩
  let cl : Nat->Value:=fun n=>match n with | 1=>.ref C_BadParts | _=>.none
  have Z : Cls K mg base cl:=⟨⟨C_BadParts,rfl,own_mk KB GB x_BadParts q_BadParts,x_BadParts,trivial⟩⟩
  have G_picked : DefOk l.prog w K mg base 1 "picked" (spN K z3m):=y2c F_picked (PySem.W.mg_of X G a_picked) b_picked T
  have G_part : DefOk l.prog w K mg base 2 "part" (spN K z7k):=ok_part F_part (PySem.W.mg_of X G a_part) b_part T G_picked
  have G_places_true : DefOk l.prog w K mg base 1 "places_true" (spN K z1u):=z5B F_places_true (PySem.W.mg_of X G a_places_true) b_places_true T
  have G_beaten_by : DefOk l.prog w K mg base 2 "beaten_by" (spN K z1R):=z7Z F_beaten_by (PySem.W.mg_of X G a_beaten_by) b_beaten_by T G_places_true
  have G_steps_from : DefOk l.prog w K mg base 3 "steps_from" (spN K z1H):=z6f F_steps_from (PySem.W.mg_of X G a_steps_from) b_steps_from T G_beaten_by
  have G_reached : DefOk l.prog w K mg base 4 "reached" (spN K z2s):=y0i F_reached (PySem.W.mg_of X G a_reached) b_reached T G_steps_from
  have G_places_with : DefOk l.prog w K mg base 1 "places_with" (spN K z1a):=z5F F_places_with (PySem.W.mg_of X G a_places_with) b_places_with T
  have G_rings : DefOk l.prog w K mg base 5 "rings" (spN K z2j):=y4y F_rings (PySem.W.mg_of X G a_rings) b_rings T G_reached G_places_with
  have G_top_ring : DefOk l.prog w K mg base 6 "top_ring" (spN K z0R):=z8J F_top_ring (PySem.W.mg_of X G a_top_ring) b_top_ring T G_rings
  have G_sees_as_one : DefOk l.prog w K mg base 1 "sees_as_one" (spN K z1s):=z5G F_sees_as_one (PySem.W.mg_of X G a_sees_as_one) b_sees_as_one T
  have G_parting : DefOk l.prog w K mg base 2 "parting" (spN K z1t):=y0J F_parting (PySem.W.mg_of X G a_parting) b_parting T G_sees_as_one
  have G_stands_together : DefOk l.prog w K mg base 3 "stands_together" (spN K z0z):=z3M F_stands_together (PySem.W.mg_of X G a_stands_together) b_stands_together T G_parting
  have G_closure : DefOk l.prog w K mg base 3 "closure" (spN K z3k):=y0l F_closure (PySem.W.mg_of X G a_closure) b_closure T G_parting
  have G_leads_to_all : DefOk l.prog w K mg base 4 "leads_to_all" (spN K z0T):=z4Y F_leads_to_all (PySem.W.mg_of X G a_leads_to_all) b_leads_to_all T G_closure
  have G_greatest_with : DefOk l.prog w K mg base 5 "greatest_with" (spN K z0X):=z4C F_greatest_with (PySem.W.mg_of X G a_greatest_with) b_greatest_with T G_leads_to_all
  have G_parts : DefOk l.prog w K mg base 6 "parts" (spN K z3F):=y3Z F_parts (PySem.W.mg_of X G a_parts) b_parts T G_rings G_greatest_with
  have G_is_thing : DefOk l.prog w K mg base 1 "is_thing" (spN K z2q):=z8y F_is_thing (PySem.W.mg_of X G a_is_thing) b_is_thing T
  have G_tells_each_once : DefOk l.prog w K mg base 2 "tells_each_once" (spN K z0K):=z3R F_tells_each_once (PySem.W.mg_of X G a_tells_each_once) b_tells_each_once T G_is_thing
  have G_places_of : DefX l.prog w K mg base 3 "places_of" (spX K cl z1A):=z7F F_places_of (PySem.W.mg_of X G a_places_of) b_places_of T Z G_tells_each_once
  have G_folded : DefX l.prog w K mg base 4 "folded" (spX K cl z3H):=y2x F_folded (PySem.W.mg_of X G a_folded) b_folded T Z G_part G_stands_together G_places_of
  have G__law_cell_at : DefOk l.prog w K mg base 1 "_law_cell_at" (spN K z0n):=z4V F__law_cell_at (PySem.W.mg_of X G a__law_cell_at) b__law_cell_at T
  have G__law_table_by : DefOk l.prog w K mg base 1 "_law_table_by" (spN K z0G):=z4B F__law_table_by (PySem.W.mg_of X G a__law_table_by) b__law_table_by T
  have G__law_mixed : DefOk l.prog w K mg base 2 "_law_mixed" (spN K z1l):=z7c F__law_mixed (PySem.W.mg_of X G a__law_mixed) b__law_mixed T G__law_cell_at G__law_table_by
  have G__law_beats : DefOk l.prog w K mg base 1 "_law_beats" (spN K z1G):=z6X F__law_beats (PySem.W.mg_of X G a__law_beats) b__law_beats T
  have G__law_table : DefOk l.prog w K mg base 2 "_law_table" (spN K z1I):=z6g F__law_table (PySem.W.mg_of X G a__law_table) b__law_table T G__law_beats
  have G__law_pieces : DefOk l.prog w K mg base 1 "_law_pieces" (spN K z1p):=z5J F__law_pieces (PySem.W.mg_of X G a__law_pieces) b__law_pieces T
  have G__law_part : DefOk l.prog w K mg base 1 "_law_part" (spN K z1W):=z8a F__law_part (PySem.W.mg_of X G a__law_part) b__law_part T
  have G__law_due : DefOk l.prog w K mg base 7 "_law_due" (spN K z2u):=z8u F__law_due (PySem.W.mg_of X G a__law_due) b__law_due T Z G_top_ring G_folded G__law_part
  exact law_of (ok_law F_law T Z G_rings G_top_ring G_parts G__law_mixed G__law_table G__law_pieces G__law_due)
theorem walk {l : PySem.W.OpenLaw} {q : Program} {loose : List Str} {XP : (Str->Option Value)->Heap->Prop} {YP : World->Heap->Prop} {d : DefRec} {K : Params->PySem.W.Frag} (hn : l.most=some 63) (hdf : d.params.defaults=[])
    (hlaw : ∀ ns : List Int,ns.length≤63->y0D [.scr ns]=some (.bl true)) (hY : ∀ (w : World) (h : Heap),YP w h->(K w.params).In h)
    (F : ∀ (w : World) (mg : Str->Option Value) (fa : Addr) (h : Heap),(K w.params).In h->h.Ns mainGlobals mg->mg d.name=some (.ref fa) →
      ∃ fd : FuncData,(∀ (s : Shared) (u : Value),BindsTo s fd ⟨[u],[]⟩ [("script",u)])∧∀ base : Heap,(K w.params).In base->base.Ns mainGlobals mg->FnOk l.prog w (K w.params) mg base CX0 8 fa fd ["script"] (y3Y (K w.params) y0D)) :
    PySem.W.WalkO q loose XP YP l.row.toRowW d [] (fun f vs=>PySem.call f vs):=
  L2.walk_of (n:=63) (k:=8) (x := "script") (CX:=fun _=>CX0) (sp:=fun w=>y3Y (K w.params) y0D) hn (by decide) hdf ⟨rfl,by decide,by decide⟩ hY F (fun _ _ a ns hl hO hS=>⟨a,ns,rfl,y4G hO hS,hlaw ns hl,fun _=>rfl⟩) fun _ _ _ _ _ z=>z
end Prg
namespace Prg
open PySem L2
open Lean in
local macro_rules
  | `(tactic| simp! only [$xs,*] $[$loc]?)=>do
    let a ← (("ev_var0 ev_varS ev_C ev_d2 ev_d1 ev_test y3S ev_andT ev_orT ev_notT ev_and ev_or y4u y4c ev_call y4R ev_mkL ev_mkT y1g ev_is ev_seq ev_rng1 ev_rng2 ev_comp ev_seqO ev_skip ev_asgS ev_asgI ev_asgN ev_retI ev_retN ev_retO ev_ifO ev_forO ev_frz ev_st0 ev_st1 ev_m0 y3H y3t ev_enum y4C ev_din' ev_dnin ev_dput ev_cat ev_mov y4p y5a y3X y4e y4x ev_rngN ev_rep y3D ev_ret3 ev_forI y4U ev_iv1 ev_appO y4F eo_2 eo_and eo_or eo_ort eo_andT eo_orT eo_itet eo_itef eo_cons eo_nx eo_rt eo_set eo_rtO eo_for eo_immI eo_immB eo_put eo_in eo_mov y4J eo_for2 eo_val eo_xeV eo_r3 eo_forI z9N ea_mkD1 ea_ixLL ea_add ea_sub ea_lt ea_le ea_gt ea_eqI ea_neI ea_neg ea_not ea_truB ea_lenR ea_ixL ea_ixR ea_isBI ea_isII ea_asB es_own0 es_ownS es_all0 es_allS es_sh0 es_shS es_v1 es_v2 es_shO y4g y4D y1L y3m y4r es_ow0 es_owS es_frz0 es_frzS eb_bs eb_ms eb_mn eb_s0 eb_sS eb_mc eb_mnil eb_rS eb_r0 eb_ca eb_na".splitOn " ").toArray).mapM fun s=>`(Lean.Parser.Tactic.simpLemma| $(mkIdent s.toName):term)
    let b : Syntax.TSepArray [`Lean.Parser.Tactic.simpStar,`Lean.Parser.Tactic.simpErase,`Lean.Parser.Tactic.simpLemma] "," := ⟨(Syntax.TSepArray.ofElems (sep := ",") a).elemsAndSeps⟩
    `(tactic| simp only [$b,*,$xs,*] $[$loc]?)
open Lean in
local macro_rules
  | `(tactic| simp_all! only [$xs,*])=>do
    let a ← (("Int.reduceEq Int.reduceLT Int.reduceLE Int.reduceGT Int.reduceAdd Int.reduceSub Int.reduceMul Int.reduceNeg decide_true decide_false Bool.or_false Bool.false_or Bool.or_true Bool.true_or Bool.and_true Bool.true_and Bool.and_false Bool.false_and Bool.not_true Bool.not_false".splitOn " ").toArray).mapM fun s=>`(Lean.Parser.Tactic.simpLemma| $(mkIdent s.toName):term)
    let b : Syntax.TSepArray [`Lean.Parser.Tactic.simpStar,`Lean.Parser.Tactic.simpErase,`Lean.Parser.Tactic.simpLemma] "," := ⟨(Syntax.TSepArray.ofElems (sep := ",") a).elemsAndSeps⟩
    `(tactic| simp! only [$b,*,$xs,*])
theorem z6V (ns : List Int) (k : Nat) : ∃ c : Int,z0n [.scr ns,.int (k : Int)]=some (.int c):=by
  by_cases h : k < ns.length
  · refine ⟨ns[k],z0P rfl ?_⟩
    have h' : decide ((k : Int) < (ns.length : Int))=true:=by simp; omega
    simp! only [z1F,h',at_nat h,z0d]
  · refine ⟨0,z0P rfl ?_⟩
    have h' : decide ((k : Int) < (ns.length : Int))=false:=by simp; omega
    simp! only [z1F,h',z0d]
structure Full (m : Nat) (T : List (List Bool)) : Prop where
  sq : Sq m T
  own : ∀ i < m,at2 T i i=false
  two : ∀ i < m,∀ j < m,i≠j->at2 T i j = !at2 T j i
theorem y3n {m i j : Nat} : at2 (List.replicate m (List.replicate m false)) i j=false:=by
  unfold at2
  simp only [List.getD,List.getElem?_replicate]
  by_cases h : i < m
  · simp only [h,if_true,Option.getD_some,List.getElem?_replicate]
    by_cases h2 : j < m <;> simp [h2]
  · simp [h]
theorem y1l {T : List (List Bool)} {i j a b : Nat} {v : Bool} (hi : i < T.length) (hj : j < T[i].length) : at2 (T.set i (T[i].set j v)) a b=if a=i∧b=j then v else at2 T a b:=by
  unfold at2
  by_cases h : a=i
  · subst h
    simp only [List.getD,List.getElem?_set_self hi,Option.getD_some,List.getElem?_eq_getElem hi]
    by_cases h2 : b=j
    · subst h2
      simp [hj]
    · simp [h2,List.getElem?_set_ne (Ne.symm h2)]
  · simp only [List.getD,List.getElem?_set_ne (Ne.symm h)]
    simp [h]
structure Up (m : Nat) (T : List (List Bool)) (n n2 : Nat) : Prop where
  own : ∀ i < m,at2 T i i=false
  two : ∀ i j,i < j->j < m->i < n∨(i=n∧j < n2)->at2 T i j = !at2 T j i
theorem up0 {m : Nat} : Up m (List.replicate m (List.replicate m false)) 0 0:=⟨fun _ _=>y3n,fun _ _ _ _ h=>by omega⟩
theorem Up.begin {m n : Nat} {T : List (List Bool)} (F : Up m T n 0) : Up m T n (n + 1):=⟨F.own,fun i j h1 h2 h=>F.two i j h1 h2 (by omega)⟩
theorem Up.row {m n : Nat} {T : List (List Bool)} (F : Up m T n m) : Up m T (n + 1) 0:=⟨F.own,fun i j h1 h2 h=>F.two i j h1 h2 (by omega)⟩
theorem Up.full {m : Nat} {T : List (List Bool)} (F : Up m T m 0) (sq : Sq m T) : Full m T:=⟨sq,F.own,fun i hi j hj hij=>by
  by_cases h : i < j
  · exact F.two i j h hj (.inl hi)
  · rw [F.two j i (by omega) hi (.inl hj),Bool.not_not]⟩
theorem Up.next {m n j : Nat} {T : List (List Bool)} {b : Int} (F : Up m T n j) (sq : Sq m T) (hnj : n < j) (hj : j < m) (hb : b=0∨b=1) (h1 : n < T.length) (h3 : j < (T.set n (T[n].set j (decide (b=0)))).length) :
    Up m ((T.set n (T[n].set j (decide (b=0)))).set j ((T.set n (T[n].set j (decide (b=0))))[j].set n (decide (b=1)))) n (j + 1):=by
  have h2 : j < T[n].length:=by rw [sq.row h1]; exact hj
  have sq1 : Sq m (T.set n (T[n].set j (decide (b=0)))):=sq.set h1
  have h4 : n < (T.set n (T[n].set j (decide (b=0))))[j].length:=by rw [sq1.row h3]; omega
  have e : ∀ x y,at2 ((T.set n (T[n].set j (decide (b=0)))).set j ((T.set n (T[n].set j (decide (b=0))))[j].set n (decide (b=1)))) x y=if x=j∧y=n then decide (b=1) else if x=n∧y=j then decide (b=0) else at2 T x y:=fun x y=>by
    rw [y1l h3 h4,y1l h1 h2]
  refine ⟨fun i hi=>?_,fun i k hik hk h=>?_⟩
  · rw [e,if_neg (by omega),if_neg (by omega)]
    exact F.own i hi
  · rw [e,e]
    by_cases z : i=n∧k=j
    · obtain ⟨rfl,rfl⟩:=z
      rw [if_neg (by omega),if_pos ⟨rfl,rfl⟩,if_pos ⟨rfl,rfl⟩]
      rcases hb with rfl | rfl <;> rfl
    · rw [if_neg (by omega),if_neg z,if_neg (by omega),if_neg (by omega)]
      exact F.two i k hik hk (by omega)
theorem tab6 {m : Nat} (hm : m≤1000) {x0 : Option D} {a2 a3 a4 a5 : Option D} : z2o (some (z4x 0 m)) (z2F z3V (z0x (dRep (mkL (z0u [dC (.bl false)])) (z0e 1))) [x0,some (.int (m : Int)),a2,a3,a4,a5])=some ((List.replicate m (List.replicate m false)).map z2T):=by
  rw [z5u,z3l (fun _=>z2T (List.replicate m false)) (by simp; omega) fun x hx=>?_]
  · congr 1
    apply List.ext_getElem <;> simp
  · have e : (List.replicate m (D.bl false))=(List.replicate m false).map bD:=by rw [List.map_replicate]; rfl
    simp! only [y1y (show m≤1000000 by omega),e,z2Y (z1h _)]
    rfl
theorem z5S (c : Int) (m : Nat) (hm : m≤8) : hol (z0G [.int c,.int (m : Int)]) fun d=>∃ T,d=z0M T∧Full m T:=by
  refine z6W rfl ?_
  have f1 : mulI (.int c) (.int 48271)=some (.int (c * 48271)):=ea_mul (.inr (by omega))
  obtain ⟨r0,f2⟩ : ∃ r0 : Int,z7t (.int (c * 48271)) (.int 2147483647)=some (.int r0):=⟨_,z4N (by omega)⟩
  have tl : D.lst ((List.replicate m (List.replicate m false)).map z2T)=z0M (List.replicate m (List.replicate m false)):=rfl
  simp! only [z1S,f1,f2,z2K (show m≤1000000 by omega),tab6 (show m≤1000 by omega),tl]
  refine z0E (I:=fun s=>∃ (T : List (List Bool)) (o3 o4 o5 : Option SD),s=[some (.sh (.int c)),some (.sh (.int (m : Int))),some (.ow (z0M T)),o3,o4,o5]∧Full m T) ?_ ?_
  · refine z4d (fun n s=>∃ (T : List (List Bool)) (a : Int) (o4 o5 : Option SD),s=[some (.sh (.int c)),some (.sh (.int (m : Int))),some (.ow (z0M T)),some (.sh (.int a)),o4,o5]∧Sq m T∧Up m T n 0) ?_ ?_ ?_
    · exact ⟨_,r0,none,none,rfl,⟨by simp,by simp⟩,up0⟩
    · rintro n hn s ⟨T,a,o4,o5,rfl,sq,F⟩
      have hr2 : rng2 (some (.int ((n : Int) + 1))) (some (.int (m : Int)))=some (z4x ((n : Int) + 1) ((m : Int) - ((n : Int) + 1)).toNat):=eo_rng2 ⟨by omega,by omega,by omega,by omega⟩
      simp! only [Int.zero_add,hr2]
      refine z4d (fun n2 s=>∃ (T : List (List Bool)) (a : Int) (o5 : Option SD),s=[some (.sh (.int c)),some (.sh (.int (m : Int))),some (.ow (z0M T)),some (.sh (.int a)),some (.sh (.int (n : Int))),o5]∧Sq m T∧Up m T n (n + 1 + n2)) ?_ ?_ ?_
      · exact ⟨T,a,o5,rfl,sq,F.begin⟩
      · rintro n2 hn2 s ⟨T,a,o5,rfl,sq,F⟩
        obtain ⟨j,hj⟩ : ∃ j : Nat,j=n + 1 + n2:=⟨_,rfl⟩
        have hj' : (n : Int) + 1 + (n2 : Int)=(j : Int):=by omega
        have hjm : j < m:=by omega
        rw [← hj] at F
        obtain ⟨r,hr3,hb⟩ : ∃ r : Int,z7t (.int a) (.int 2)=some (.int r)∧(r=0∨r=1):=⟨_,z4N (by omega),Int.emod_two_eq _⟩
        obtain ⟨b,g2⟩ : ∃ b : Int,y3s (.int a) (.int 2)=some (.int b):=⟨_,z9X ⟨by omega,by omega⟩⟩
        have h1 : n < T.length:=by rw [sq.1]; exact hn
        have h2 : j < T[n].length:=by rw [sq.row h1]; exact hjm
        have e1:=z9K (v:=decide (r=0)) h1 h2
        have sq1 : Sq m (T.set n (T[n].set j (decide (r=0)))):=sq.set h1
        have h3 : j < (T.set n (T[n].set j (decide (r=0)))).length:=by rw [sq1.1]; exact hjm
        have h4 : n < (T.set n (T[n].set j (decide (r=0))))[j].length:=by rw [sq1.row h3]; exact hn
        have e2:=z9K (v:=decide (r=1)) h3 h4
        simp! only [hj',g2,hr3,e1,e2,z0d]
        have F2:=F.next sq (by omega) hjm hb h1 h3
        have ej : n + 1 + (n2 + 1)=j + 1:=by omega
        rw [ej]
        exact ⟨_,_,_,rfl,sq1.set h3,F2⟩
      · rintro s ⟨T,a,o5,rfl,sq,F⟩
        have hz : n + 1 + ((m : Int) - ((n : Int) + 1)).toNat=m:=by omega
        rw [hz] at F
        exact ⟨T,_,_,_,rfl,sq,F.row⟩
    · rintro s ⟨T,a,o4,o5,rfl,sq,F⟩
      exact ⟨_,rfl,T,_,_,_,rfl,F.full sq⟩
  · rintro s ⟨T,o3,o4,o5,rfl,F⟩
    simp! only [z0d]
    exact ⟨_,rfl,T,rfl,F⟩
noncomputable def prD (z : Nat × Nat) : D:=.tup [.int (z.1 : Int),.int (z.2 : Int)]
noncomputable def y2D (hs : List (Nat × Nat)) : D:=.lst (hs.map prD)
noncomputable def z5A (Is : List (List (List Bool))) : D:=.lst (Is.map z0M)
theorem z8v {hs : List (Nat × Nat)} : z2U [y2D hs]=some (.int (hs.length : Int)):=y1c
structure Part (Is : List (List (List Bool))) (hs : List (Nat × Nat)) : Prop where
  inn : ∀ k,k < Is.length->Full (Is.getD k []).length (Is.getD k [])∧0 < (Is.getD k []).length
  mem : ∀ z,z∈hs↔z.1 < Is.length∧z.2 < (Is.getD z.1 []).length
  nd : hs.Nodup
structure Mix (O : List (List Bool)) (Is : List (List (List Bool))) (hs : List (Nat × Nat)) : Prop where
  out : Full O.length O
  pos : 0 < O.length
  o8 : O.length≤8
  len : Is.length=O.length
  prt : Part Is hs
  le : hs.length≤8
theorem z7y {α : Type} {xs : List α} {x d : α} {k : Nat} : (xs ++ [x]).getD k d=if k < xs.length then xs.getD k d else if k=xs.length then x else d:=by
  by_cases h : k < xs.length
  · rw [if_pos h]
    simp [List.getD,List.getElem?_append_left h]
  · rw [if_neg h]
    by_cases h2 : k=xs.length
    · subst h2
      simp [List.getD]
    · rw [if_neg h2]
      have : (xs ++ [x])[k]? = none:=by rw [List.getElem?_eq_none_iff]; simp; omega
      simp [List.getD,this]
theorem y3V (ns : List Int) : hol (z1l [.scr ns]) fun d=>∃ O Is hs,d = .lst [z0M O,z5A Is,y2D hs]∧Mix O Is hs:=by
  refine z6W rfl ?_
  obtain ⟨c0,e0⟩:=z6V ns 0
  have e0 : z0n [.scr ns,.int 0]=some (.int c0):=e0
  obtain ⟨c1,e1⟩:=z6V ns 1
  have e1 : z0n [.scr ns,.int 1]=some (.int c1):=e1
  obtain ⟨k,ek,hk⟩:=z6o (x:=c0) (n:=4) (by omega)
  have f1 : z7t (.int c0) (.int 4)=some (.int (k : Int)):=by rw [z4N (by omega)]; exact congrArg _ (congrArg _ ek)
  have f2 : y3s (.int c0) (.int 4)=some (.int (c0 / 4)):=z9X ⟨by omega,by omega⟩
  obtain ⟨r,f3⟩ : ∃ r : Int,z7t (.int (c0 / 4)) (.int 4)=some (.int r):=⟨_,z4N (by omega)⟩
  have nil1 : D.lst []=z5A []:=rfl
  simp! only [z3d,e0,f1,f2,f3]
  refine z0E (I:=fun s=>∃ m : Nat,s=[some (.sh (.scr ns)),some (.sh (.int (m : Int))),none,none,none,none,none,none,none,none,none]∧0 < m∧m≤8) ?_ ?_
  · by_cases hr : r=1
    · simp! only [hr,decide_true,z0d]
      exact ⟨_,rfl,1 + k + 4,by congr 3,by omega,by omega⟩
    · simp! only [decide_eq_false hr,z0d]
      exact ⟨_,rfl,1 + k,by congr 3,by omega,by omega⟩
  rintro s ⟨m,rfl,h0,h8⟩
  obtain ⟨_,e2,O,rfl,F⟩:=z5S c1 m h8
  have hO : O.length=m:=F.sq.1
  simp! only [e1,e2,z2G,z2x,hO,y1e (show m≤1000000 by omega)]
  refine z0E (I:=fun s=>∃ (Is : List (List (List Bool))) (hs : List (Nat × Nat)) (o5 o6 o7 o8 o9 o10 : Option SD),s=[some (.sh (.scr ns)),some (.sh (.int (m : Int))),some (.ow (z0M O)),some (.ow (z5A Is)),some (.ow (y2D hs)),o5,o6,o7,o8,o9,o10]∧Is.length=m∧Part Is hs∧hs.length≤8) ?_ ?_
  · refine z4d (fun n s=>∃ (Is : List (List (List Bool))) (hs : List (Nat × Nat)) (o5 o6 o7 o8 o9 o10 : Option SD),s=[some (.sh (.scr ns)),some (.sh (.int (m : Int))),some (.ow (z0M O)),some (.ow (z5A Is)),some (.ow (y2D hs)),o5,o6,o7,o8,o9,o10]∧Is.length=n∧Part Is hs∧hs.length + m≤8 + n) ?_ ?_ ?_
    · exact ⟨[],[],none,none,none,none,none,none,rfl,rfl,⟨fun k h=>absurd h (by simp),fun z=>by simp,List.nodup_nil⟩,by simpa using h8⟩
    · rintro n hn s ⟨Is,hs,o5,o6,o7,o8,o9,o10,rfl,hI,P,hl⟩
      obtain ⟨c,ec⟩:=z6V ns (2 + n)
      have ec : z0n [.scr ns,.int (2 + (n : Int))]=some (.int c):=by rw [← ec]; congr 3
      obtain ⟨most,hmost⟩ : ∃ most : Nat,(9 : Int) - (hs.length : Int) - (m : Int) + (n : Int)=(most : Int):=⟨9 + n - hs.length - m,by omega⟩
      have hm1 : 0 < most:=by omega
      have hm8 : most + hs.length + m=9 + n:=by omega
      obtain ⟨j4,ej4,hj4⟩:=z6o (x:=c) (n:=4) (by omega)
      have g1 : z7t (.int c) (.int 4)=some (.int (j4 : Int)):=by rw [z4N (by omega)]; exact congrArg _ (congrArg _ ej4)
      have g2 : y3s (.int c) (.int 4)=some (.int (c / 4)):=z9X ⟨by omega,by omega⟩
      obtain ⟨jm,ejm,hjm⟩:=z6o (x:=c / 4) (n:=most) (by omega)
      have g3 : z7t (.int (c / 4)) (.int (most : Int))=some (.int (jm : Int)):=by rw [z4N (by omega),ejm]
      have g4 : y3s (.int c) (.int 32)=some (.int (c / 32)):=z9X ⟨by omega,by omega⟩
      obtain ⟨sz,esz,hs1,hs2⟩ : ∃ sz : Nat,atI [D.int 1,.int (if (most : Int) < 3 then (most : Int) else 3),.int (1 + (jm : Int))] (if (2 : Int) < (j4 : Int) then 2 else (j4 : Int))=some (.int (sz : Int))∧0 < sz∧sz≤most:=by
        have : j4=0∨j4=1∨j4=2∨j4=3:=by omega
        rcases this with rfl | rfl | rfl | rfl
        · exact ⟨1,rfl,by omega,by omega⟩
        · by_cases h3 : (most : Int) < 3
          · exact ⟨most,by rw [if_pos h3]; rfl,by omega,by omega⟩
          · exact ⟨3,by rw [if_neg h3]; rfl,by omega,by omega⟩
        · exact ⟨1 + jm,rfl,by omega,by omega⟩
        · exact ⟨1 + jm,rfl,by omega,by omega⟩
      obtain ⟨_,e3,T,rfl,FT⟩:=z5S (c / 32) sz (by omega)
      have hT : T.length=sz:=FT.sq.1
      have ap : m0V z6y (some (z5A Is)) (some [z0M T])=some (z5A (Is ++ [T])):=z6R (by omega)
      simp! only [Int.zero_add,ec,z8v,z2x,hO,hmost,g1,g2,g3,g4,ea_min,esz,e3,ap,z2K (show sz≤1000000 by omega)]
      refine z4d (fun a s=>∃ (hs' : List (Nat × Nat)) (o9 o10 : Option SD),s=[some (.sh (.scr ns)),some (.sh (.int (m : Int))),some (.ow (z0M O)),some (.ow (z5A (Is ++ [T]))),some (.ow (y2D hs')),some (.sh (.int (n : Int))),some (.ow (.int c)),some (.sh (.int (most : Int))),some (.sh (.int (sz : Int))),o9,o10]∧hs'.length=hs.length + a∧hs'.Nodup∧∀ z,z∈hs'↔z∈hs∨(z.1=n∧z.2 < a)) ?_ ?_ ?_
      · exact ⟨hs,_,_,rfl,rfl,P.nd,fun z=>by simp⟩
      · rintro a ha s ⟨hs',o9,o10,rfl,hl',nd',mem'⟩
        obtain ⟨c6,ec6⟩:=z6V ns (6 + hs'.length)
        have ec6 : z0n [.scr ns,.int (6 + (hs'.length : Int))]=some (.int c6):=by rw [← ec6]; congr 3
        obtain ⟨t,et,ht⟩:=z6o (x:=c6) (n:=hs'.length + 1) (by omega)
        have et : c6 % ((hs'.length : Int) + 1)=(t : Int):=et
        have m1 : z7t (.int c6) (.int ((hs'.length : Int) + 1))=some (.int (t : Int)):=by rw [z4N (show (0 : Int) < (hs'.length : Int) + 1 by omega),et]
        have pe : D.tup [.int (n : Int),.int (a : Int)]=prD (n,a):=rfl
        have im : y4I (some [.int (t : Int),prD (n,a)])=some [.int (t : Int),prD (n,a)]:=z9q rfl
        have iv : m0V insF (some (y2D hs')) (some [.int (t : Int),prD (n,a)])=some (y2D (hs'.take t ++ (n,a) :: hs'.drop t)):=y4o (by omega) (by omega)
        have pm : (hs'.take t ++ (n,a) :: hs'.drop t).Perm ((n,a) :: hs'):=by
          refine List.perm_middle.trans ?_
          rw [List.take_append_drop]
        have hno : (n,a) ∉ hs':=fun h=>by
          rcases (mem' _).mp h with h | h
          · have:=((P.mem _).mp h).1
            simp only at this
            omega
          · simp only at h
            omega
        simp! only [Int.zero_add,z8v,ec6,m1,pe,im,iv,z0d]
        refine ⟨_,_,_,rfl,?_,?_,fun z=>?_⟩
        · rw [pm.length_eq,List.length_cons]; omega
        · exact pm.nodup_iff.mpr (List.nodup_cons.mpr ⟨hno,nd'⟩)
        · rw [pm.mem_iff,List.mem_cons,mem' z]
          constructor
          · rintro (h | h | h)
            · subst h; exact .inr ⟨rfl,by simp⟩
            · exact .inl h
            · exact .inr ⟨h.1,by omega⟩
          · rintro (h | h)
            · exact .inr (.inl h)
            · by_cases hz : z.2 < a
              · exact .inr (.inr ⟨h.1,hz⟩)
              · exact .inl (Prod.ext h.1 (by show z.2=a; omega))
      · rintro s ⟨hs',o9,o10,rfl,hl',nd',mem'⟩
        refine ⟨_,_,_,_,_,_,_,_,rfl,by simp [hI],⟨fun k hk=>?_,fun z=>?_,nd'⟩,by omega⟩
        · rw [z7y]
          rw [List.length_append,List.length_singleton] at hk
          by_cases h : k < Is.length
          · rw [if_pos h]; exact P.inn k h
          · rw [if_neg h,if_pos (by omega),hT]; exact ⟨FT,hs1⟩
        · rw [mem' z,P.mem z,z7y,List.length_append,List.length_singleton]
          by_cases h : z.1 < Is.length
          · rw [if_pos h]
            constructor
            · rintro (q | q)
              · exact ⟨by omega,q.2⟩
              · omega
            · rintro q
              exact .inl ⟨h,q.2⟩
          · rw [if_neg h]
            by_cases h2 : z.1=Is.length
            · rw [if_pos h2,hT]
              constructor
              · rintro (q | q)
                · omega
                · exact ⟨by omega,q.2⟩
              · rintro q
                exact .inr ⟨by omega,q.2⟩
            · constructor
              · rintro (q | q) <;> omega
              · rintro q; omega
    · rintro s ⟨Is,hs,o5,o6,o7,o8,o9,o10,rfl,hI,P,hl⟩
      exact ⟨_,rfl,Is,hs,_,_,_,_,_,_,rfl,hI,P,by omega⟩
  · rintro s ⟨Is,hs,o5,o6,o7,o8,o9,o10,rfl,hI,P,hl⟩
    simp! only [z0d]
    exact ⟨_,rfl,O,Is,hs,rfl,⟨by rw [hO]; exact F,by omega,by omega,by omega,P,hl⟩⟩
noncomputable def y0r (O : List (List Bool)) (Is : List (List (List Bool))) (hs : List (Nat × Nat)) : D:=.lst [z0M O,z5A Is,y2D hs]
theorem mix_0 {O : List (List Bool)} {Is : List (List (List Bool))} {hs : List (Nat × Nat)} : ixD (y0r O Is hs) (.int 0)=some (z0M O):=(rfl)
theorem mix_1 {O : List (List Bool)} {Is : List (List (List Bool))} {hs : List (Nat × Nat)} : ixD (y0r O Is hs) (.int 1)=some (z5A Is):=(rfl)
theorem y4f {O : List (List Bool)} {Is : List (List (List Bool))} {hs : List (Nat × Nat)} : ixD (y0r O Is hs) (.int 2)=some (y2D hs):=(rfl)
theorem pr_0 {z : Nat × Nat} : ixD (prD z) (.int 0)=some (.int (z.1 : Int)):=(rfl)
theorem pr_1 {z : Nat × Nat} : ixD (prD z) (.int 1)=some (.int (z.2 : Int)):=(rfl)
noncomputable def mb (O : List (List Bool)) (Is : List (List (List Bool))) (a b : Nat × Nat) : Bool:=if a.1=b.1 then at2 (Is.getD a.1 []) a.2 b.2 else at2 O a.1 b.1
noncomputable def y3r (O : List (List Bool)) (Is : List (List (List Bool))) (hs : List (Nat × Nat)) : List (List Bool):=hs.map fun a=>hs.map fun b=>mb O Is a b
section
variable {O : List (List Bool)} {Is : List (List (List Bool))} {hs : List (Nat × Nat)}
theorem y5c (M : Mix O Is hs) {a b : Nat × Nat} (ha : a∈hs) (hb : b∈hs) : z1G [y0r O Is hs,prD a,prD b]=some (.bl (mb O Is a b)):=by
  refine z0P rfl ?_
  obtain ⟨a1,a2⟩:=(M.prt.mem a).mp ha
  obtain ⟨b1,b2⟩:=(M.prt.mem b).mp hb
  by_cases h : a.1=b.1
  · have hd : decide ((a.1 : Int)=(b.1 : Int))=true:=by simp [h]
    have i1 : ixD (z5A Is) (.int (a.1 : Int))=some (z0M (Is.getD a.1 [])):=y1D a1
    have i2:=ix2 (M.prt.inn a.1 a1).1.sq a2 (j:=b.2) (by rw [h]; exact b2)
    simp! only [z2c,pr_0,pr_1,hd,mix_1,i1,i2,z0d]
    unfold mb
    rw [if_pos h]
  · have hd : decide ((a.1 : Int)=(b.1 : Int))=false:=by simp; omega
    have i2:=ix2 M.out.sq (i:=a.1) (j:=b.1) (by rw [← M.len]; exact a1) (by rw [← M.len]; exact b1)
    simp! only [z2c,pr_0,pr_1,hd,mix_0,i2,z0d]
    unfold mb
    rw [if_neg h]
theorem y1x : y4S (y2D hs)=some (hs.map prD):=(rfl)
theorem y1W (M : Mix O Is hs) : z1I [y0r O Is hs]=some (z0M (y3r O Is hs)):=by
  refine z0P rfl ?_
  simp! only [z3g,z2G,y4f,y1x]
  refine z0E (I:=fun s=>∃ o2,s=[some (.sh (y0r O Is hs)),some (.ow (z0M (y3r O Is hs))),o2]) ?_ ?_
  · refine z2X (fun pre s=>∃ o2,s=[some (.sh (y0r O Is hs)),some (.ow (z0M (pre.map fun a=>hs.map fun b=>mb O Is a b))),o2]) ⟨_,rfl⟩ ?_ fun s z=>⟨s,rfl,z⟩
    rintro pre a post e s ⟨o2,rfl⟩
    have ha : a∈hs:=by rw [e]; simp
    have hpl : pre.length≤8:=by
      have:=M.le
      rw [e] at this
      simp at this
      omega
    simp! only [y4f,y1x]
    rw [z3l (enc:=prD) (xs:=hs) (fun b=>bD (mb O Is a b)) (by have:=M.le; omega) fun b hb=>by simp! only [y5c M ha hb,bD]]
    have er : D.lst (hs.map fun b=>bD (mb O Is a b))=z2T (hs.map fun b=>mb O Is a b):=by unfold z2T; rw [List.map_map]; rfl
    have ap : m0V z6y (some (z0M (pre.map fun a=>hs.map fun b=>mb O Is a b))) (some [z2T (hs.map fun b=>mb O Is a b)])=some (z0M ((pre.map fun a=>hs.map fun b=>mb O Is a b) ++ [hs.map fun b=>mb O Is a b])):=z6R (by simp; omega)
    simp! only [er,ap,z0d]
    exact ⟨_,by rw [List.map_append]; rfl⟩
  · rintro s ⟨o2,rfl⟩
    simp! only [z0d]
theorem z6K {i j : Nat} (hi : i < hs.length) (hj : j < hs.length) : at2 (y3r O Is hs) i j=mb O Is hs[i] hs[j]:=by
  unfold at2 y3r
  rw [z9o hi,z9o hj]
theorem sq_mtab : Sq hs.length (y3r O Is hs):=by
  refine ⟨by simp [y3r],fun r hr=>?_⟩
  obtain ⟨i,_,rfl⟩:=List.mem_map.mp hr
  simp
theorem y2t (M : Mix O Is hs) : Full hs.length (y3r O Is hs):=by
  refine ⟨sq_mtab,fun i hi=>?_,fun i hi j hj hij=>?_⟩
  · rw [z6K hi hi]
    unfold mb
    rw [if_pos rfl]
    obtain ⟨a1,a2⟩:=(M.prt.mem hs[i]).mp (List.getElem_mem hi)
    exact (M.prt.inn _ a1).1.own _ a2
  · rw [z6K hi hj,z6K hj hi]
    obtain ⟨a1,a2⟩:=(M.prt.mem hs[i]).mp (List.getElem_mem hi)
    obtain ⟨b1,b2⟩:=(M.prt.mem hs[j]).mp (List.getElem_mem hj)
    have hne : hs[i]≠hs[j]:=fun h=>hij ((List.getElem_inj M.prt.nd).mp h)
    unfold mb
    by_cases h : hs[i].1=hs[j].1
    · rw [if_pos h,if_pos h.symm,← h]
      rw [← h] at b2
      exact (M.prt.inn _ a1).1.two _ a2 _ b2 fun e=>hne (Prod.ext h e)
    · rw [if_neg h,if_neg (Ne.symm h)]
      exact M.out.two _ (by rw [← M.len]; exact a1) _ (by rw [← M.len]; exact b1) h
theorem hs_pos (M : Mix O Is hs) : 0 < hs.length:=by
  have h0 : 0 < Is.length:=by rw [M.len]; exact M.pos
  have : ((0,0) : Nat × Nat)∈hs:=(M.prt.mem _).mpr ⟨h0,(M.prt.inn 0 h0).2⟩
  exact List.length_pos_of_mem this
noncomputable def llD (L : List (List Nat)) : D:=.lst (L.map thD)
noncomputable def pc (hs : List (Nat × Nat)) (k : Nat) : List Nat:=(List.range hs.length).filter fun t=>decide ((hs.getD t (0,0)).1=k)
noncomputable def pcs (n : Nat) (hs : List (Nat × Nat)) : List (List Nat):=(List.range n).map (pc hs)
theorem y1N (M : Mix O Is hs) : z1p [y0r O Is hs]=some (llD (pcs O.length hs)):=by
  refine z0P rfl ?_
  have h8:=M.o8
  simp! only [z2I,z2G,mix_0,z2x,y1e (show O.length≤1000000 by omega)]
  refine z0E (I:=fun s=>∃ o2,s=[some (.sh (y0r O Is hs)),some (.ow (llD (pcs O.length hs))),o2]) ?_ ?_
  · refine z4d (fun n s=>∃ o2,s=[some (.sh (y0r O Is hs)),some (.ow (llD (pcs n hs))),o2]) ⟨_,rfl⟩ ?_ fun s z=>⟨s,rfl,z⟩
    rintro n hn s ⟨o2,rfl⟩
    simp! only [Int.zero_add,y4f,z8v,z2K (show hs.length≤1000000 by have:=M.le; omega)]
    rw [z5u,y5r (enc:=nD) (xs:=List.range hs.length) (fun t=>decide ((hs.getD t (0,0)).1=n)) nD (by have:=M.le; simp; omega) (fun t ht=>by
      have i1 : ixD (y2D hs) (.int (t : Int))=some (prD (hs.getD t (0,0))):=y1D (List.mem_range.mp ht)
      have hd : decide (((hs.getD t (0,0)).1 : Int)=(n : Int))=decide ((hs.getD t (0,0)).1=n):=decide_eq_decide.mpr (by omega)
      simp! only [nD,y4f,i1,pr_0,hd]) fun t ht _=>by simp! only [nD]]
    have ap : m0V z6y (some (llD (pcs n hs))) (some [thD (pc hs n)])=some (llD (pcs n hs ++ [pc hs n])):=z6R (by simp [pcs]; omega)
    have ef : z6J (some (((List.range hs.length).filter fun t=>decide ((hs.getD t (0,0)).1=n)).map nD))=some ((pc hs n).map nD):=z1M _
    have et : D.lst ((pc hs n).map nD)=thD (pc hs n):=rfl
    simp! only [ef,et,ap,z0d]
    exact ⟨_,by
      unfold pcs
      rw [List.range_succ,List.map_append]
      rfl⟩
  · rintro s ⟨o2,rfl⟩
    simp! only [z0d]
end
noncomputable def y0p (T : List (List Bool)) (o : Nat) (th : List Nat) : Bool:=(th.all fun j=>at2 T o j) || !(th.any fun j=>at2 T o j)
noncomputable def brk (T : List (List Bool)) (o : Nat) (th : List Nat) : Bool:=!th.contains o && !y0p T o th
noncomputable def prt (T : List (List Bool)) (m : Nat) (th : List Nat) : List Nat:=(List.range m).filter fun o=>brk T o th
noncomputable def togB (T : List (List Bool)) (m : Nat) (th : List Nat) : Bool:=(List.range m).all fun o=>!brk T o th
section
variable {T : List (List Bool)} {m : Nat} {th : List Nat}
theorem sees_eq (sq : Sq m T) (hm : m≤900) {o : Nat} (ho : o < m) (hl : th.length≤900) (h : ∀ x∈th,x < m) : z1s [z0M T,.int (o : Int),thD th]=some (.bl (y0p T o th)):=by
  refine z0P rfl ?_
  simp! only [z2Q,z3c]
  rw [z3l (fun j=>bD (at2 T o j)) (by omega) fun j hj=>by simp! only [nD,ix2 sq ho (h j hj),bD]]
  have e : (th.map fun j=>bD (at2 T o j))=(th.map fun j=>at2 T o j).map bD:=by rw [List.map_map]; rfl
  have e2 : ((th.map fun j=>at2 T o j).all fun b=>b)=th.all fun j=>at2 T o j:=by rw [List.all_map]; rfl
  have e3 : ((th.map fun j=>at2 T o j).any fun b=>b)=th.any fun j=>at2 T o j:=by rw [List.any_map]; rfl
  simp! only [e,z2Y (z1h _),y5L,ea_any,e2,e3,z0d]
  unfold y0p
  cases (th.all fun j=>at2 T o j) <;> simp! only [z0d,Bool.false_or,Bool.true_or]
theorem z5L (sq : Sq m T) (hm : m≤900) (hl : th.length≤900) (h : ∀ x∈th,x < m) : z1t [z0M T,thD th]=some (thD (prt T m th)):=by
  refine z0P rfl ?_
  simp! only [z4O,z2x,sq.1,z2K (show m≤1000000 by omega)]
  rw [z5u,y5r (enc:=nD) (xs:=List.range m) (fun o=>brk T o th) nD (by simp; omega) (fun o ho=>by
    have ho:=List.mem_range.mp ho
    simp! only [nD,nin_ths,sees_eq sq hm ho hl h]
    unfold brk
    cases th.contains o <;> cases y0p T o th <;> simp! only [Bool.not_true,Bool.not_false,Bool.and_true,Bool.and_false,Bool.false_and,Bool.true_and,Option.map_some]) fun o _ _=>by simp! only [nD]]
  simp! only [z1M,z0d]
  rfl
theorem tog_one {x : Nat} : togB T m [x]=true:=List.all_eq_true.mpr fun o _=>by
  unfold brk y0p
  simp only [List.all_cons,List.all_nil,List.any_cons,List.any_nil,Bool.and_true,Bool.or_false]
  cases at2 T o x <;> simp
end
theorem tog_of {m : Nat} {T : List (List Bool)} {A : List Nat} (h : prt T m A=[]) : togB T m A=true:=List.all_eq_true.mpr fun o ho=>by
  have:=List.filter_eq_nil_iff.mp h o ho
  simpa using this
theorem z7G {m : Nat} : ∀ {th : List Nat},th.Nodup->(∀ x∈th,x < m)->th.length=m->∀ o,o < m->o∈th:=fun {th} nd lt hl o ho=>by
  by_cases h : o∈th
  · exact h
  · have nd2 : (o :: th).Nodup:=List.nodup_cons.mpr ⟨h,nd⟩
    have : (o :: th).length≤(List.range m).length:=List.Nodup.length_le_of_subset nd2 fun x hx=>by
      rcases List.mem_cons.mp hx with rfl | hx
      · exact List.mem_range.mpr ho
      · exact List.mem_range.mpr (lt x hx)
    simp at this
    omega
noncomputable def rsI (ns : List Int) : List Int:=z4I (ddI ns)
theorem y4M {a b : List Int} (ha : a.Nodup) (hb : b.Nodup) (h : ∀ x,x∈a↔x∈b) : a.Perm b:=(List.perm_ext_iff_of_nodup ha hb).mpr h
theorem rs_is {a ns : List Int} (nd : a.Nodup) (hs : a.Pairwise (· ≤ ·)) (h : ∀ x,x∈a↔x∈ns) : a=rsI ns:=z3z (y4M nd (z6t ns) fun x=>by rw [h x,dd_mem]) hs
theorem rs_len {ns U : List Int} (h : ∀ x∈ns,x∈U) : (ddI ns).length≤U.length:=List.Nodup.length_le_of_subset (z6t ns) fun x hx=>h x (dd_mem.mp hx)
theorem y5k {ns : List Int} (h1 : ns.length≤1000) (h2 : (ddI ns).length < 64) : z7q (.lst (ns.map .int))=some ((rsI ns).map .int):=by
  show ((z2H (ns.map D.int)).bind fun ns=>if ns.length≤1000∧(ddI ns).length < 64 then some ((z4I (ddI ns)).map D.int) else none)=_
  rw [z9z,Option.bind_some,if_pos ⟨h1,h2⟩]
  rfl
theorem z5X {m : Nat} {p : Nat->Bool} : ((List.range m).filter p).Pairwise (· < ·):=List.Pairwise.filter _ List.pairwise_lt_range
noncomputable def wid (T : List (List Bool)) (m : Nat) (W : List Nat) : List Nat:=(List.range m).filter fun x=>W.contains x || brk T x W
inductive Rea (T : List (List Bool)) (m : Nat) : List Nat->List Nat->Prop
  | here (W : List Nat) : Rea T m W W
  | step {W V : List Nat} : prt T m W≠[]->Rea T m (wid T m W) V->Rea T m W V
theorem Rea.snoc {T : List (List Bool)} {m : Nat} {W A : List Nat} (h : Rea T m W A) (hn : prt T m A≠[]) : Rea T m W (wid T m A):=by
  induction h with
  | here W=>exact .step hn (.here _)
  | step hn' _ ih=>exact .step hn' (ih hn)
section
variable {T : List (List Bool)} {m : Nat} {W : List Nat}
structure Ris (m : Nat) (W : List Nat) : Prop where
  up : W.Pairwise (· < ·)
  lt : ∀ x∈W,x < m
theorem Ris.nd (h : Ris m W) : W.Nodup:=h.up.imp fun h=>Nat.ne_of_lt h
theorem Ris.len (h : Ris m W) : W.length≤m:=by simpa using List.Nodup.length_le_of_subset h.nd fun x hx=>List.mem_range.mpr (h.lt x hx)
theorem ris_fil {p : Nat->Bool} : Ris m ((List.range m).filter p):=⟨z5X,fun x hx=>List.mem_range.mp (List.mem_filter.mp hx).1⟩
theorem y2n {x : Nat} (h : x∈prt T m W) : x ∉ W∧x < m:=by
  have h:=List.mem_filter.mp h
  refine ⟨fun z=>?_,List.mem_range.mp h.1⟩
  have h2:=h.2
  unfold brk at h2
  have : W.contains x=true:=by simpa using z
  rw [this] at h2
  cases h2
theorem z8H {o : List Nat} (h : o.Pairwise (· < ·)) : (o.map fun n=>((n : Nat) : Int)).Pairwise (· ≤ ·):=by
  rw [List.pairwise_map]
  exact h.imp fun h=>by omega
theorem cast_nd {o : List Nat} (h : o.Nodup) : (o.map fun n=>((n : Nat) : Int)).Nodup:=by
  unfold List.Nodup
  rw [List.pairwise_map]
  exact h.imp fun h z=>h (by omega)
theorem cast_mem {o : List Nat} {x : Nat} : ((x : Nat) : Int)∈o.map (fun n=>((n : Nat) : Int))↔x∈o:=by
  rw [List.mem_map]
  constructor
  · rintro ⟨y,hy,e⟩
    have : y=x:=by omega
    exact this ▸ hy
  · exact fun h=>⟨x,h,rfl⟩
theorem z7r {a b : List Nat} (h : a.Perm b) : (a.map fun n=>((n : Nat) : Int)).Perm (b.map fun n=>((n : Nat) : Int)):=h.map _
theorem z3o (o : List Nat) : o.map nD=(o.map fun n=>((n : Nat) : Int)).map D.int:=by rw [List.map_map]; rfl
theorem y0a {a b : List Nat} (ha : a.Nodup) (hb : b.Nodup) (h : ∀ x,x∈a↔x∈b) : a.Perm b:=(List.perm_ext_iff_of_nodup ha hb).mpr h
theorem y3C (R : Ris m W) (hm : m≤30) : z5K [thD (W ++ prt T m W)]=some ((wid T m W).map nD):=by
  unfold thD
  have hl:=R.len
  have hp : (prt T m W).length≤m:=Nat.le_trans (List.length_filter_le ..) (by simp)
  rw [z3o,z9V (by simp; omega),z3o (wid T m W)]
  congr 2
  refine (z3z ?_ (z8H ris_fil.up)).symm
  refine z7r (y0a ris_fil.nd (List.nodup_append.mpr ⟨R.nd,(ris_fil (p:=fun o=>brk T o W)).nd,fun x hx y hy z=>(y2n hy).1 (z ▸ hx)⟩) fun x=>?_)
  unfold prt
  rw [List.mem_filter,List.mem_append,List.mem_filter,List.mem_range,Bool.or_eq_true,List.contains_iff_mem]
  constructor
  · rintro ⟨h1,h2 | h2⟩
    · exact .inl h2
    · exact .inr ⟨h1,h2⟩
  · rintro (h | h)
    · exact ⟨R.lt x h,.inl h⟩
    · exact ⟨h.1,.inr h.2⟩
theorem wid_len (R : Ris m W) (hn : prt T m W≠[]) : W.length < m∧W.length < (wid T m W).length:=by
  obtain ⟨x,hx⟩:=List.exists_mem_of_ne_nil _ hn
  obtain ⟨h1,h2⟩:=y2n hx
  have nd : (x :: W).Nodup:=List.nodup_cons.mpr ⟨h1,R.nd⟩
  constructor
  · have : (x :: W).length≤(List.range m).length:=List.Nodup.length_le_of_subset nd fun y hy=>by
      rcases List.mem_cons.mp hy with z | z
      · exact List.mem_range.mpr (z ▸ h2)
      · exact List.mem_range.mpr (R.lt y z)
    simp at this
    omega
  · have : (x :: W).length≤(wid T m W).length:=List.Nodup.length_le_of_subset nd fun y hy=>by
      unfold wid
      rw [List.mem_filter,List.mem_range,Bool.or_eq_true,List.contains_iff_mem]
      rcases List.mem_cons.mp hy with z | z
      · subst z
        exact ⟨h2,.inr (List.mem_filter.mp hx).2⟩
      · exact ⟨R.lt y z,.inl z⟩
    simp at this
    omega
noncomputable def w0 (m : Nat) (th : List Nat) : List Nat:=(List.range m).filter fun x=>th.contains x
theorem z4t {th : List Nat} (lt : ∀ x∈th,x < m) {x : Nat} : x∈w0 m th↔x∈th:=by
  unfold w0
  rw [List.mem_filter,List.mem_range,List.contains_iff_mem]
  exact ⟨fun h=>h.2,fun h=>⟨lt x h,h⟩⟩
theorem y3N {th : List Nat} (lt : ∀ x∈th,x < m) (hm : m≤30) (hl : th.length≤1000) : z7q (thD th)=some ((w0 m th).map nD):=by
  unfold thD
  rw [z3o,z3o (w0 m th)]
  have hmem : ∀ x : Int,x∈(w0 m th).map (fun n=>((n : Nat) : Int))↔x∈th.map fun n=>((n : Nat) : Int):=fun x=>by
    constructor
    · intro h
      obtain ⟨y,hy,rfl⟩:=List.mem_map.mp h
      exact cast_mem.mpr ((z4t lt).mp hy)
    · intro h
      obtain ⟨y,hy,rfl⟩:=List.mem_map.mp h
      exact cast_mem.mpr ((z4t lt).mpr hy)
  rw [y5k (by simpa using hl) (Nat.lt_of_le_of_lt (rs_len fun x hx=>(hmem x).mpr hx) (by
    have : (w0 m th).length≤m:=(ris_fil (m:=m) (p:=fun x=>th.contains x)).len
    rw [List.length_map]
    omega))]
  rw [← rs_is (cast_nd ris_fil.nd) (z8H ris_fil.up) hmem]
  rfl
theorem sort_nd {th : List Nat} (lt : ∀ x∈th,x < m) (nd : th.Nodup) (hm : m≤30) : z5K [thD th]=some ((w0 m th).map nD):=by
  have hl : th.length≤m:=by simpa using List.Nodup.length_le_of_subset nd fun x hx=>List.mem_range.mpr (lt x hx)
  unfold thD
  rw [z3o,z9V (by simp; omega),z3o (w0 m th)]
  congr 2
  exact (z3z (z7r (y0a ris_fil.nd nd fun x=>z4t lt)) (z8H ris_fil.up)).symm
theorem y0e (sq : Sq m T) (hm : m≤8) {th : List Nat} (lt : ∀ x∈th,x < m) (hl : th.length≤1000) : hol (z3k [z0M T,thD th]) fun d=>∃ A,d=thD A∧Rea T m (w0 m th) A∧prt T m A=[]∧Ris m A:=by
  refine z6W rfl ?_
  have s0:=y3N lt (by omega) hl
  have p0 : ∀ {W : List Nat},Ris m W->z1t [z0M T,thD W]=some (thD (prt T m W)):=fun {W} R=>z5L sq (by omega) (by have:=R.len; omega) R.lt
  have tl : ∀ W : List Nat,D.lst (W.map nD)=thD W:=fun _=>rfl
  have R0 : Ris m (w0 m th):=ris_fil
  simp! only [z5w,Option.bind_some,s0,z1M,tl,p0 R0]
  refine z0E (I:=fun s=>∃ A o3,s=[some (.sh (z0M T)),some (.sh (thD th)),some (.ow (thD A)),o3]∧Rea T m (w0 m th) A∧prt T m A=[]∧Ris m A) ?_ ?_
  · refine z3J (fun n s=>∃ A,s=[some (.sh (z0M T)),some (.sh (thD th)),some (.ow (thD A)),some (.ow (thD (prt T m A)))]∧Rea T m (w0 m th) A∧Ris m A∧m≤A.length + n) (n:=m) ⟨_,rfl,.here _,R0,by omega⟩ ?_ (by omega)
    rintro n s ⟨A,rfl,hr,R,hn⟩
    refine ⟨!(prt T m A).isEmpty,by simp! only [y5H],fun hz=>?_,fun hz=>?_⟩
    · exact ⟨_,rfl,A,_,rfl,hr,by simpa using hz,R⟩
    · have hne : prt T m A≠[]:=by simpa using hz
      obtain ⟨k1,k2⟩:=wid_len R hne
      have ct : catO (some (thD A)) (some (thD (prt T m A)))=some ((A ++ prt T m A).map nD):=by
        have : (prt T m A).length≤m:=Nat.le_trans (List.length_filter_le ..) (by simp)
        exact y5Q (by omega)
      refine ⟨n - 1,by omega,?_⟩
      simp! only [ct,y3C R (show m≤30 by omega),z1M,tl,p0 (W:=wid T m A) ris_fil,z0d]
      exact ⟨_,rfl,hr.snoc hne,ris_fil,by omega⟩
  · rintro s ⟨A,o3,rfl,h1,h2,h3⟩
    simp! only [z0d]
    exact ⟨_,rfl,A,rfl,h1,h2,h3⟩
end
theorem z7e {r0 : List Bool} : ∀ (r : List Bool) (k : Nat),z1z (two (z3x (z1Y (z0e 2)) (z0e 1) [some (z2T r0)])) (z0s k (r.map bD))=some ((z3u k r).map nD)
  | [],_=>rfl
  | b :: r,k=>by
    have ih:=z7e (r0:=r0) r (k + 1)
    rw [List.map_cons]
    show z1z _ (.tup [.int (k : Nat),bD b] :: z0s (k + 1) (r.map bD))=_
    unfold z1z
    rw [ih]
    have e : two (z3x (z1Y (z0e 2)) (z0e 1) [some (z2T r0)]) (.tup [.int (k : Nat),bD b])=some (if b=true then some (nD k) else none):=by
      show z3x _ _ _ _ _=_
      unfold z3x
      have e1 : z1Y (z0e 2) ([some (z2T r0)] ++ [some (.int (k : Nat)),some (bD b)])=some b:=rfl
      rw [e1]
      cases b <;> rfl
    have t : z3u k (b :: r)=if b=true then k :: z3u (k + 1) r else z3u (k + 1) r:=rfl
    rw [e,t]
    cases b <;> rfl
theorem y2o (r : List Bool) (hl : r.length≤1000) : z1u [z2T r]=some (thD ((List.range r.length).filter fun i=>r.getD i false)):=by
  refine z0P rfl ?_
  have e : z3u 0 r=(List.range r.length).filter fun i=>r.getD i false:=by
    rw [y1z,List.range_eq_range']
    rfl
  have h0 : z9f (z2T r)=some (z0s 0 (r.map bD)):=rfl
  have hl' : (z0s 0 (r.map bD)).length≤1000000:=by rw [z5s,List.length_map]; omega
  have fl:=z2Y (z7I (z3u 0 r))
  simp! only [z2L,h0,z4a hl',z7e,fl,z0d]
  rw [e]
  rfl
theorem y2e {n : Nat} {T : List (List Bool)} (sq : Sq n T) (hn : n≤1000) {k : Nat} (hk : k < n) : z1R [z0M T,.int (k : Int)]=some (thD ((List.range n).filter fun j=>at2 T k j)):=by
  refine z0P rfl ?_
  have hk' : k < T.length:=by rw [sq.1]; exact hk
  have p:=y2o (T.getD k []) (by rw [sq.len hk]; omega)
  rw [sq.len hk] at p
  simp! only [z3E,z8l hk',p,z0d]
  rfl
noncomputable def ky (n : Nat) : Key:=.inl (n : Int)
noncomputable def stD (ks : List Nat) (vs : List Nat) : D:=.dct (ks.map ky) (vs.map nD)
theorem y2s {ks vs : List Nat} {y : Nat} : inK (.int (y : Int)) (stD ks vs)=some (ks.contains y):=by
  show some (z9c (ks.map ky) (.inl (y : Int)))=_
  congr 1
  unfold z9c
  rw [List.any_map,List.contains_eq_any_beq]
  congr 1
  funext z
  show decide ((Sum.inl (z : Int) : Key)=Sum.inl (y : Int))=(y == z)
  by_cases h : z=y
  · subst h; simp
  · have h1 : decide ((Sum.inl (z : Int) : Key)=Sum.inl (y : Int))=false:=decide_eq_false fun e=>h (by cases e; rfl)
    have h2 : (y == z)=false:=by rw [beq_eq_false_iff_ne]; exact fun e=>h e.symm
    rw [h1,h2]
theorem st_put {ks vs : List Nat} {x y : Nat} (h : y ∉ ks) (hl : ks.length≤1000000) : y2r (some (stD ks vs)) (some (.int (y : Int))) (some (.int (x : Int)))=some (stD (ks ++ [y]) (vs ++ [x])):=by
  show (if z1L (vs.map nD)=true∧(ks.map ky).length < sizeLine then _ else _)=_
  rw [if_pos ⟨z7I vs,by rw [List.length_map,PySem.sizeLine_eq]; omega⟩]
  have hh : z9c (ks.map ky) (.inl (y : Int))=false:=by
    have:=y2s (ks:=ks) (vs:=vs) (y:=y)
    have hc : ks.contains y=false:=by rw [← Bool.not_eq_true,List.contains_iff_mem]; exact h
    rw [hc] at this
    exact Option.some.inj this
  unfold z7v z7m stD
  rw [hh,if_neg Bool.false_ne_true,if_neg Bool.false_ne_true,List.map_append,List.map_append]
  rfl
inductive Rch (T : List (List Bool)) (m a : Nat) : Nat->Prop
  | here : Rch T m a a
  | step {x y : Nat} : Rch T m a x->y < m->at2 T x y=true->Rch T m a y
structure Stp (T : List (List Bool)) (m a : Nat) (ks : List Nat) : Prop where
  nd : ks.Nodup
  lt : ∀ x∈ks,x < m
  on : a∈ks
  rc : ∀ x∈ks,Rch T m a x
noncomputable def Cld (T : List (List Bool)) (m : Nat) (ks : List Nat) (x : Nat) : Prop:=∀ y < m,at2 T x y=true->y∈ks
theorem Stp.add {T : List (List Bool)} {m a x y : Nat} {ks : List Nat} (P : Stp T m a ks) (hx : x∈ks) (hy : y < m) (h : at2 T x y=true) (hn : y ∉ ks) : Stp T m a (ks ++ [y]):=
  ⟨List.nodup_append.mpr ⟨P.nd,by simp,fun u hu v hv z=>by rw [List.mem_singleton] at hv; exact hn (hv ▸ z ▸ hu)⟩,fun z hz=>by
    rcases List.mem_append.mp hz with q | q
    · exact P.lt z q
    · rw [List.mem_singleton.mp q]; exact hy,List.mem_append.mpr (.inl P.on),fun z hz=>by
    rcases List.mem_append.mp hz with q | q
    · exact P.rc z q
    · rw [List.mem_singleton.mp q]; exact .step (P.rc x hx) hy h⟩
theorem Stp.len {T : List (List Bool)} {m a : Nat} {ks : List Nat} (P : Stp T m a ks) : ks.length≤m:=by
  have:=List.Nodup.length_le_of_subset (l₂:=List.range m) P.nd fun x hx=>List.mem_range.mpr (P.lt x hx)
  simpa using this
theorem y4X {m : Nat} {T : List (List Bool)} (sq : Sq m T) (hm : m≤90) {a : Nat} (ha : a < m) : hol (z1H [z0M T,.int (a : Int)]) fun d=>∃ ks vs,d=stD ks vs∧Stp T m a ks∧∀ x∈ks,Cld T m ks x:=by
  refine z6W rfl ?_
  have s0 : D.dct [.inl (a : Int)] [.int (a : Int)]=stD [a] [a]:=rfl
  have f0 : z6J (some [.int (a : Int)])=some [.int (a : Int)]:=rfl
  simp! only [z3e,s0,f0,th_one]
  refine z0E (I:=fun s=>∃ ks vs o3 o4 o5 o6,s=[some (.sh (z0M T)),some (.sh (.int (a : Int))),some (.ow (stD ks vs)),o3,o4,o5,o6]∧Stp T m a ks∧∀ x∈ks,Cld T m ks x) ?_ ?_
  · refine z3J (fun n s=>∃ ks vs E o5 o6,s=[some (.sh (z0M T)),some (.sh (.int (a : Int))),some (.ow (stD ks vs)),some (.ow (thD E)),none,o5,o6]∧Stp T m a ks∧(∀ x∈E,x∈ks)∧(∀ x∈ks,x ∉ E->Cld T m ks x)∧(E≠[]->m + 1≤ks.length + n)) (n:=m) ⟨[a],[a],[a],_,_,rfl,⟨by simp,fun x hx=>by rw [List.mem_singleton.mp hx]; exact ha,by simp,fun x hx=>by rw [List.mem_singleton.mp hx]; exact .here⟩,fun x hx=>hx,fun x hx hn=>absurd hx hn,fun _=>by simp; omega⟩ ?_ (by omega)
    rintro n s ⟨ks,vs,E,o5,o6,rfl,P,hE,hC,hn⟩
    refine ⟨!E.isEmpty,by simp! only [y5H],fun hz=>?_,fun hz=>?_⟩
    · have hz : E=[]:=by simpa using hz
      exact ⟨_,rfl,ks,vs,_,_,_,_,rfl,P,fun x hx=>hC x hx (by rw [hz]; simp)⟩
    · have hz : E≠[]:=by simpa using hz
      have hn:=hn hz
      have hl:=P.len
      refine ⟨n - 1,by omega,?_⟩
      simp! only [z2G,y1G,z3c]
      refine z0E (I:=fun s=>∃ F ws o5 o6,s=[some (.sh (z0M T)),some (.sh (.int (a : Int))),some (.ow (stD (ks ++ F) ws)),some (.sh (thD E)),some (.ow (thD F)),o5,o6]∧Stp T m a (ks ++ F)∧∀ x∈E,Cld T m (ks ++ F) x) ?_ ?_
      · refine z2X (fun pre s=>∃ F ws o5 o6,s=[some (.sh (z0M T)),some (.sh (.int (a : Int))),some (.ow (stD (ks ++ F) ws)),some (.sh (thD E)),some (.ow (thD F)),o5,o6]∧Stp T m a (ks ++ F)∧∀ x∈pre,Cld T m (ks ++ F) x) ⟨[],vs,_,_,by rw [List.append_nil],by rw [List.append_nil]; exact P,fun x hx=>nomatch hx⟩ ?_ fun s z=>⟨s,rfl,z⟩
        rintro pre x post e s ⟨F,ws,o5,o6,rfl,P1,C1⟩
        have hxE : x∈E:=by rw [e]; simp
        have hxk:=hE x hxE
        have hxm:=P.lt x hxk
        simp! only [nD,y2e sq (show m≤1000 by omega) hxm,z3c]
        refine z2X (fun q s=>∃ F ws o6,s=[some (.sh (z0M T)),some (.sh (.int (a : Int))),some (.ow (stD (ks ++ F) ws)),some (.sh (thD E)),some (.ow (thD F)),some (.sh (.int (x : Int))),o6]∧Stp T m a (ks ++ F)∧(∀ x∈pre,Cld T m (ks ++ F) x)∧∀ y∈q,y∈ks ++ F) ⟨F,ws,_,rfl,P1,C1,fun y hy=>nomatch hy⟩ ?_ ?_
        · rintro q y r e2 s ⟨F,ws,o6,rfl,P2,C2,Q2⟩
          have hy : y∈(List.range m).filter fun j=>at2 T x j:=by rw [e2]; simp
          have hy:=List.mem_filter.mp hy
          have hym:=List.mem_range.mp hy.1
          have hl2:=P2.len
          cases hc : (ks ++ F).contains y with
          | true=>
            simp! only [nD,y2s,hc,Option.map_some,Bool.not_true,z0d]
            refine ⟨F,ws,_,rfl,P2,C2,fun z hz=>?_⟩
            rcases List.mem_append.mp hz with z1 | z1
            · exact Q2 z z1
            · rw [List.mem_singleton.mp z1]; exact List.contains_iff_mem.mp hc
          | false=>
            have hny : y ∉ ks ++ F:=fun z=>by rw [List.contains_iff_mem.mpr z] at hc; cases hc
            have im : y4I (some [.int (y : Int)])=some [.int (y : Int)]:=z9q rfl
            have pt:=st_put (vs:=ws) (x:=x) hny (by omega)
            have ap:=app_thV (th:=F) (k:=y) (by rw [List.length_append] at hl2; omega)
            have P3:=P2.add (List.mem_append.mpr (.inl hxk)) hym hy.2 hny
            rw [List.append_assoc] at P3 pt
            have sub : ∀ z,z∈ks ++ F->z∈ks ++ (F ++ [y]):=fun z hz=>by rw [← List.append_assoc]; exact List.mem_append.mpr (.inl hz)
            simp! only [nD,y2s,hc,Option.map_some,Bool.not_false,pt,im,ap,z0d]
            refine ⟨F ++ [y],_,_,rfl,P3,fun z hz w hw h=>sub w (C2 z hz w hw h),fun z hz=>?_⟩
            rcases List.mem_append.mp hz with z1 | z1
            · exact sub z (Q2 z z1)
            · rw [List.mem_singleton.mp z1]; simp
        · rintro s ⟨F,ws,o6,rfl,P2,C2,Q2⟩
          refine ⟨F,ws,_,_,rfl,P2,fun z hz=>?_⟩
          rcases List.mem_append.mp hz with z1 | z1
          · exact C2 z z1
          · rw [List.mem_singleton.mp z1]
            exact fun y hy h=>Q2 y (List.mem_filter.mpr ⟨List.mem_range.mpr hy,h⟩)
      · rintro s ⟨F,ws,o5,o6,rfl,P1,C1⟩
        simp! only [z0d]
        refine ⟨ks ++ F,ws,F,_,_,rfl,P1,fun x hx=>List.mem_append.mpr (.inr hx),fun x hx hnx=>?_,fun hF=>?_⟩
        · have hxk : x∈ks:=by
            rcases List.mem_append.mp hx with z | z
            · exact z
            · exact absurd z hnx
          by_cases hxE : x∈E
          · exact C1 x hxE
          · exact fun y hy h=>List.mem_append.mpr (.inl (hC x hxk hxE y hy h))
        · have : 0 < F.length:=List.length_pos_iff.mpr hF
          rw [List.length_append]
          omega
  · rintro s ⟨ks,vs,o3,o4,o5,o6,rfl,P,C⟩
    simp! only [z0d]
    exact ⟨_,rfl,ks,vs,rfl,P,C⟩
open Classical in
noncomputable def rcL (T : List (List Bool)) (m a : Nat) : List Nat:=(List.range m).filter fun x=>decide (Rch T m a x)
theorem rcL_mem {T : List (List Bool)} {m a x : Nat} : x∈rcL T m a↔x < m∧Rch T m a x:=by
  unfold rcL
  rw [List.mem_filter,List.mem_range]
  exact and_congr_right fun _=>@decide_eq_true_iff _ (Classical.propDecidable _)
theorem y1R {T : List (List Bool)} {m a : Nat} : (rcL T m a).length≤m:=by
  have:=List.length_filter_le (fun x=>@decide (Rch T m a x) (Classical.propDecidable _)) (List.range m)
  rw [List.length_range] at this
  exact this
theorem y1o : ∀ ks : List Nat,z3I (ks.map ky)=some (ks.map fun n=>((n : Nat) : Int))
  | []=>rfl
  | k :: ks=>by
    show (z3I (ks.map ky)).map (fun ns=>(k : Int) :: ns)=_
    rw [y1o ks]
    rfl
theorem y0t {m : Nat} {T : List (List Bool)} (sq : Sq m T) (hm : m≤60) {a : Nat} (ha : a < m) : z2s [z0M T,.int (a : Int)]=some (thD (rcL T m a)):=by
  refine z0P rfl ?_
  obtain ⟨d,e,ks,vs,rfl,P,C⟩:=y4X sq (by omega) ha
  have hl:=P.len
  have hin : ∀ x,x∈ks↔x∈rcL T m a:=fun x=>by
    rw [rcL_mem]
    refine ⟨fun h=>⟨P.lt x h,P.rc x h⟩,fun h=>?_⟩
    have : ∀ y,Rch T m a y->y∈ks:=fun y r=>by
      induction r with
      | here=>exact P.on
      | step r1 hy h ih=>exact C _ ih _ hy h
    exact this x h.2
  have nd2 : (rcL T m a).Nodup:=List.Pairwise.filter _ List.nodup_range
  have pm : ((rcL T m a).map fun n=>((n : Nat) : Int)).Perm (ks.map fun n=>((n : Nat) : Int)):=((List.perm_ext_iff_of_nodup nd2 P.nd).mpr fun x=>(hin x).symm).map _
  have so : ((rcL T m a).map fun n=>((n : Nat) : Int)).Pairwise (· ≤ ·):=by
    rw [List.pairwise_map]
    refine List.Pairwise.imp ?_ (List.Pairwise.filter _ List.pairwise_lt_range)
    intro x y h
    omega
  have es:=z3z pm so
  have st : z7s [stD ks vs]=some ((rcL T m a).map nD):=by
    show ((z3I (ks.map ky)).bind fun ns=>if ns.length < 64 then some ((z4I ns).map D.int) else none)=_
    rw [y1o,Option.bind_some,if_pos (by rw [List.length_map]; omega),← es,List.map_map]
    rfl
  simp! only [z5t,e,st,z1M,z7l,z0d]
noncomputable def z5r (T : List (List Bool)) (m : Nat) : List Nat:=(List.range m).map fun a=>(rcL T m a).length
noncomputable def plL (cs : List Nat) (c : Nat) : List Nat:=(cs.zipIdx.filter fun z=>decide ((z.1 : Int)=(c : Int))).map fun z=>z.2
theorem plL_mem {cs : List Nat} {c i : Nat} : i∈plL cs c↔cs[i]? = some c:=by
  unfold plL
  rw [List.mem_map]
  constructor
  · rintro ⟨z,hz,rfl⟩
    obtain ⟨h1,h2⟩:=List.mem_filter.mp hz
    have h2 : z.1=c:=by have:=of_decide_eq_true h2; omega
    have:=List.mem_zipIdx_iff_getElem?.mp h1
    rw [this,h2]
  · intro h
    exact ⟨(c,i),List.mem_filter.mpr ⟨List.mem_zipIdx_iff_getElem?.mpr h,decide_eq_true rfl⟩,rfl⟩
theorem y0s {cs : List Nat} (hl : cs.length≤1000) (c : Nat) : z1a [thD cs,.int (c : Int)]=some (thD (plL cs c)):=by
  refine z0P rfl ?_
  have cx : z2o (some (z0s 0 (cs.map nD))) (two (z3x (z1o (d2 eqD (z0e 3) (z0e 1))) (z0e 2) [some (thD cs),some (.int (c : Int))]))=some ((plL cs c).map nD):=by
    rw [cx2_of (enc:=nD) (fun _ x=>decide ((x : Int)=(c : Int))) (fun i _=>nD i) hl (fun i h=>by simp! only [nD]) fun i h _=>by simp! only []; rfl]
    unfold plL
    rw [List.map_map]
    rfl
  simp! only [z2M,enum_th,cx,z1M,z7l,z0d]
noncomputable def dnL (m : Nat) : List Nat:=(List.range m).map fun i=>m - i
noncomputable def rgL (T : List (List Bool)) (m : Nat) : List (List Nat):=((dnL m).filter fun c=>(z5r T m).contains c).map fun c=>plL (z5r T m) c
theorem eo_rngN {i j c : Int} (h : c = -1∧-(2 ^ 61)≤i∧i < 2 ^ 61∧-(2 ^ 61)≤j∧j < 2 ^ 61) : rngN (some (.int i)) (some (.int j)) (some (.int c))=some (y2J i (-1) (i - j).toNat):=if_pos h
theorem z4J {m : Nat} {T : List (List Bool)} (sq : Sq m T) (hm : m≤60) : z2j [z0M T]=some (.lst ((rgL T m).map thD)):=by
  refine z0P rfl ?_
  have hcl : (z5r T m).length=m:=by simp [z5r]
  have c1 : z2o (some (z4x 0 m)) (z2F z3V (z0k z2U [z0k z2s [z0e 0,z0e 2]]) [some (z0M T),none])=some ((z5r T m).map nD):=by
    rw [z5u,z3l (enc:=nD) (xs:=List.range m) (fun a=>nD (rcL T m a).length) (by simp; omega) fun a ha=>by simp! only [nD,y0t sq hm (List.mem_range.mp ha),z5n]]
    unfold z5r
    rw [List.map_map]
    rfl
  have rn : rngN (some (.int (m : Int))) (some (.int 0)) (some (.int (-1)))=some ((dnL m).map nD):=by
    have hz : ((m : Int) - 0).toNat=m:=by omega
    have e1 : rngN (some (.int (m : Int))) (some (.int 0)) (some (.int (-1)))=some (y2J (m : Int) (-1) ((m : Int) - 0).toNat):=eo_rngN ⟨rfl,by omega,by omega,by omega,by omega⟩
    have e2 : y2J (m : Int) (-1) m=(dnL m).map nD:=by
      unfold y2J dnL
      rw [List.map_map]
      refine List.map_congr_left fun i hi=>?_
      have:=List.mem_range.mp hi
      have e : (m : Int) + (i : Int) * (-1)=((m - i : Nat) : Int):=by omega
      exact congrArg D.int e
    rw [e1,hz,e2]
  have c2 : z2o (some ((dnL m).map nD)) (z2F (z1o (d2 inD (z0e 2) (z0e 1))) (z0k z1a [z0e 1,z0e 2]) [some (z0M T),some (thD (z5r T m))])=some ((rgL T m).map thD):=by
    rw [y5r (enc:=nD) (xs:=dnL m) (fun c=>(z5r T m).contains c) (fun c=>thD (plL (z5r T m) c)) (by simp [dnL]; omega) (fun c hc=>by simp! only [nD,in_ths]) fun c hc _=>by simp! only [nD,y0s (show (z5r T m).length≤1000 by omega)]]
    unfold rgL
    rw [List.map_map]
    rfl
  simp! only [z8R,z2x,sq.1,z2K (show m≤1000000 by omega),c1,z1M,z7l,rn,c2,z0d]
theorem y0P {m : Nat} {T : List (List Bool)} (sq : Sq m T) (hm : m≤60) (h0 : 0 < m) (h : m∈z5r T m) : z0R [z0M T]=some (thD (plL (z5r T m) m)):=by
  refine z0P rfl ?_
  have e : ∃ r,rgL T m=plL (z5r T m) m :: r:=by
    unfold rgL dnL
    obtain ⟨n,rfl⟩ : ∃ n,m=n + 1:=⟨m - 1,by omega⟩
    rw [List.range_succ_eq_map,List.map_cons,List.filter_cons]
    have hc : (z5r T (n + 1)).contains (n + 1 - 0)=true:=List.contains_iff_mem.mpr h
    rw [hc,if_pos rfl,List.map_cons]
    exact ⟨_,rfl⟩
  obtain ⟨r,hr⟩:=e
  have re:=z4J sq hm
  rw [hr,List.map_cons] at re
  have ix : atI (thD (plL (z5r T m) m) :: r.map thD) 0=some (thD (plL (z5r T m) m)):=z6u (j:=0) rfl
  simp! only [z4p,re,ix,z0d]
theorem Rch.trans {T : List (List Bool)} {m a b c : Nat} (h : Rch T m a b) (h2 : Rch T m b c) : Rch T m a c:=by
  induction h2 with
  | here=>exact h
  | step _ hy e ih=>exact .step ih hy e
theorem Rch.lt {T : List (List Bool)} {m a b : Nat} (ha : a < m) (h : Rch T m a b) : b < m:=by
  cases h with
  | here=>exact ha
  | step _ hy _=>exact hy
theorem rch_tot {T : List (List Bool)} {m a b : Nat} (F : Full m T) (ha : a < m) (hb : b < m) : Rch T m a b∨Rch T m b a:=by
  by_cases e : a=b
  · rw [e]; exact .inl .here
  · cases h : at2 T a b with
    | true=>exact .inl (.step .here hb h)
    | false=>exact .inr (.step .here ha (by rw [F.two b hb a ha (Ne.symm e),h]; rfl))
theorem y2k {T : List (List Bool)} {m a : Nat} : (rcL T m a).Nodup:=List.Pairwise.filter _ List.nodup_range
theorem z6i {T : List (List Bool)} {m a b : Nat} (F : Full m T) (ha : a < m) (hb : b < m) : Rch T m a b↔(rcL T m b).length≤(rcL T m a).length:=by
  constructor
  · intro h
    exact List.Nodup.length_le_of_subset y2k fun x hx=>rcL_mem.mpr ⟨(rcL_mem.mp hx).1,h.trans (rcL_mem.mp hx).2⟩
  · intro h
    by_cases hn : Rch T m a b
    · exact hn
    · have h2 : Rch T m b a:=(rch_tot F ha hb).resolve_left hn
      have nd : (b :: rcL T m a).Nodup:=List.nodup_cons.mpr ⟨fun z=>hn (rcL_mem.mp z).2,y2k⟩
      have : (b :: rcL T m a).length≤(rcL T m b).length:=List.Nodup.length_le_of_subset nd fun x hx=>by
        rcases List.mem_cons.mp hx with z | z
        · rw [z]; exact rcL_mem.mpr ⟨hb,.here⟩
        · exact rcL_mem.mpr ⟨(rcL_mem.mp z).1,h2.trans (rcL_mem.mp z).2⟩
      rw [List.length_cons] at this
      omega
theorem z7h {T : List (List Bool)} {m a b : Nat} (F : Full m T) (ha : a < m) (hb : b < m) (h : (rcL T m b).length < (rcL T m a).length) : at2 T a b=true:=by
  cases e : at2 T a b with
  | true=>rfl
  | false=>
    have hab : a≠b:=fun z=>by rw [z] at h; omega
    have h1 : Rch T m b a:=.step .here ha (by rw [F.two b hb a ha (Ne.symm hab),e]; rfl)
    have:=(z6i F hb ha).mp h1
    omega
theorem rch_pos {T : List (List Bool)} {m a : Nat} (ha : a < m) : 0 < (rcL T m a).length:=List.length_pos_of_mem (rcL_mem.mpr ⟨ha,.here⟩)
theorem uniqL {α : Type} {R : α->α->Prop} (as : ∀ x y,R x y->R y x->False) : ∀ {l l' : List α},l.Pairwise R->l'.Pairwise R->(∀ x,x∈l↔x∈l')->l=l'
  | [],[],_,_,_=>rfl
  | [],b :: l',_,_,h=>by have:=(h b).mpr List.mem_cons_self; cases this
  | a :: l,[],_,_,h=>by have:=(h a).mp List.mem_cons_self; cases this
  | a :: l,b :: l',p,p',h=>by
    have p1:=List.pairwise_cons.mp p
    have p2:=List.pairwise_cons.mp p'
    have e : a=b:=by
      rcases List.mem_cons.mp ((h a).mp List.mem_cons_self) with z | z
      · exact z
      · rcases List.mem_cons.mp ((h b).mpr List.mem_cons_self) with y | y
        · exact y.symm
        · exact (as a b (p1.1 b y) (p2.1 a z)).elim
    subst e
    refine congrArg _ (uniqL as p1.2 p2.2 fun x=>⟨fun hx=>?_,fun hx=>?_⟩)
    · rcases List.mem_cons.mp ((h x).mp (List.mem_cons_of_mem _ hx)) with z | z
      · subst z; exact (as x x (p1.1 x hx) (p1.1 x hx)).elim
      · exact z
    · rcases List.mem_cons.mp ((h x).mpr (List.mem_cons_of_mem _ hx)) with z | z
      · subst z; exact (as x x (p2.1 x hx) (p2.1 x hx)).elim
      · exact z
noncomputable def Upp (f : Nat->Nat) (r s : List Nat) : Prop:=r≠[]∧s≠[]∧∀ a∈r,∀ b∈s,f b < f a
noncomputable def cls (m : Nat) (f : Nat->Nat) (a : Nat) : List Nat:=(List.range m).filter fun b=>decide (f b=f a)
structure Rgs (m : Nat) (f : Nat->Nat) (L : List (List Nat)) : Prop where
  pw : L.Pairwise (Upp f)
  mem : ∀ r,r∈L↔∃ a < m,r=cls m f a
theorem z5Q {cs : List Nat} {c : Nat} : (plL cs c).Pairwise (· < ·):=by
  unfold plL
  rw [List.pairwise_map]
  refine List.Pairwise.filter _ ?_
  have h : (cs.zipIdx.map fun z=>z.2).Pairwise (· < ·):=by
    rw [show (cs.zipIdx.map fun z=>z.2)=List.range' 0 cs.length from List.zipIdx_map_snd 0 cs]
    exact List.pairwise_lt_range'
  exact List.pairwise_map.mp h
theorem y1r {T : List (List Bool)} {m : Nat} : Rgs m (fun a=>(rcL T m a).length) (rgL T m):=by
  have hc : ∀ a c,(z5r T m)[a]? = some c↔a < m∧(rcL T m a).length=c:=fun a c=>by
    unfold z5r
    rw [List.getElem?_map]
    by_cases h : a < m
    · rw [List.getElem?_range h]
      simp [h]
    · rw [List.getElem?_eq_none (by simp; omega)]
      simp [h]
  have pe : ∀ a < m,plL (z5r T m) (rcL T m a).length=cls m (fun a=>(rcL T m a).length) a:=fun a ha=>
    uniqL (R:=(· < ·)) (fun x y h h'=>by omega) z5Q (List.Pairwise.filter _ List.pairwise_lt_range) fun x=>by
      rw [plL_mem,hc]
      unfold cls
      rw [List.mem_filter,List.mem_range,decide_eq_true_iff]
  refine ⟨?_,fun r=>?_⟩
  · unfold rgL
    rw [List.pairwise_map]
    have hd : (dnL m).Pairwise (· > ·):=by
      unfold dnL
      rw [List.pairwise_map]
      refine List.Pairwise.imp_of_mem ?_ List.pairwise_lt_range
      intro x y hx hy h
      have:=List.mem_range.mp hy
      show m - y < m - x
      omega
    refine List.Pairwise.imp_of_mem ?_ (List.Pairwise.filter _ hd)
    intro c d hcm hdm hcd
    have hcm:=(List.mem_filter.mp hcm).2
    have hdm:=(List.mem_filter.mp hdm).2
    obtain ⟨i,hi⟩:=List.getElem?_of_mem (List.contains_iff_mem.mp hcm)
    obtain ⟨j,hj⟩:=List.getElem?_of_mem (List.contains_iff_mem.mp hdm)
    refine ⟨List.ne_nil_of_mem (plL_mem.mpr hi),List.ne_nil_of_mem (plL_mem.mpr hj),fun a ha b hb=>?_⟩
    have h1:=(hc a c).mp (plL_mem.mp ha)
    have h2:=(hc b d).mp (plL_mem.mp hb)
    show (rcL T m b).length < (rcL T m a).length
    have : c > d:=hcd
    omega
  · unfold rgL
    rw [List.mem_map]
    constructor
    · rintro ⟨c,hcm,rfl⟩
      have hcm:=(List.mem_filter.mp hcm).2
      obtain ⟨i,hi⟩:=List.getElem?_of_mem (List.contains_iff_mem.mp hcm)
      have h1:=(hc i c).mp hi
      exact ⟨i,h1.1,by rw [← h1.2,pe i h1.1]⟩
    · rintro ⟨a,ha,rfl⟩
      refine ⟨(rcL T m a).length,List.mem_filter.mpr ⟨?_,List.contains_iff_mem.mpr (List.mem_of_getElem? ((hc a _).mpr ⟨ha,rfl⟩))⟩,pe a ha⟩
      unfold dnL
      have h1:=y1R (T:=T) (m:=m) (a:=a)
      have h2:=rch_pos (T:=T) ha
      exact List.mem_map.mpr ⟨m - (rcL T m a).length,List.mem_range.mpr (by omega),by omega⟩
noncomputable def wk (T : List (List Bool)) : Nat->List Nat->Prop
  | _,[]=>True
  | x,y :: r=>at2 T x y=true∧wk T y r
noncomputable def lsN : Nat->List Nat->Nat
  | x,[]=>x
  | _,y :: r=>lsN y r
structure Cyc (T : List (List Bool)) (c : Nat) (r : List Nat) : Prop where
  nd : (c :: r).Nodup
  wk : wk T c r
  cl : r≠[]->at2 T (lsN c r) c=true
inductive Det (T : List (List Bool)) (L : List Nat) (h b : Nat) : List Nat->Prop
  | one {x : Nat} : x∈L->at2 T h x=true->at2 T x b=true->Det T L h b [x]
  | two {x y : Nat} : x∈L->y∈L->at2 T h x=true->at2 T x y=true->at2 T y b=true->Det T L h b [x,y]
noncomputable def Stg (T : List (List Bool)) (R : List Nat) : Prop:=∀ S : Nat->Prop,(∃ x∈R,S x)->(∃ y∈R,¬S y)->∃ x∈R,∃ y∈R,S x∧¬S y∧at2 T x y=true
theorem Full.tot {m : Nat} {T : List (List Bool)} (F : Full m T) {x y : Nat} (hx : x < m) (hy : y < m) (hne : x≠y) : at2 T x y=true∨at2 T y x=true:=by
  have:=F.two x hx y hy hne
  cases h : at2 T x y with
  | true=>exact .inl rfl
  | false=>
    rw [h] at this
    cases h2 : at2 T y x with
    | true=>exact .inr rfl
    | false=>rw [h2] at this; cases this
theorem Full.no {m : Nat} {T : List (List Bool)} (F : Full m T) {x y : Nat} (hx : x < m) (hy : y < m) (h1 : at2 T x y=true) (h2 : at2 T y x=true) : False:=by
  by_cases hne : x=y
  · subst hne
    rw [F.own x hx] at h1
    cases h1
  · have:=F.two x hx y hy hne
    rw [h1,h2] at this
    cases this
theorem y4k {m : Nat} {T : List (List Bool)} (F : Full m T) {a : Nat} : Stg T (cls m (fun a=>(rcL T m a).length) a):=by
  rintro S ⟨x0,hx0,sx⟩ ⟨y0,hy0,sy⟩
  apply Classical.byContradiction
  intro hn
  obtain ⟨hx1,hx2⟩:=List.mem_filter.mp hx0
  obtain ⟨hy1,hy2⟩:=List.mem_filter.mp hy0
  have hx1:=List.mem_range.mp hx1
  have hy1:=List.mem_range.mp hy1
  have hx2 : (rcL T m x0).length=(rcL T m a).length:=of_decide_eq_true hx2
  have hy2 : (rcL T m y0).length=(rcL T m a).length:=of_decide_eq_true hy2
  have hr : Rch T m x0 y0:=(z6i F hx1 hy1).mpr (by omega)
  have key : ∀ z,Rch T m x0 z->z < m∧((rcL T m z).length < (rcL T m a).length∨((rcL T m z).length=(rcL T m a).length∧S z)):=fun z h=>by
    induction h with
    | here=>exact ⟨hx1,.inr ⟨hx2,sx⟩⟩
    | @step x y _ hy hxy ih=>
      refine ⟨hy,?_⟩
      have le : (rcL T m y).length≤(rcL T m x).length:=(z6i F ih.1 hy).mp (.step .here hy hxy)
      rcases ih.2 with q | ⟨q1,q2⟩
      · exact .inl (by omega)
      · by_cases hc : (rcL T m y).length=(rcL T m a).length
        · refine .inr ⟨hc,Classical.byContradiction fun ns=>hn ⟨x,List.mem_filter.mpr ⟨List.mem_range.mpr ih.1,decide_eq_true q1⟩,y,List.mem_filter.mpr ⟨List.mem_range.mpr hy,decide_eq_true hc⟩,q2,ns,hxy⟩⟩
        · exact .inl (by omega)
  rcases (key y0 hr).2 with q | q
  · omega
  · exact sy q.2
noncomputable def Md (T : List (List Bool)) (m : Nat) (S : Nat->Prop) : Prop:=∀ o < m,¬S o->(∀ x < m,S x->at2 T o x=true)∨∀ x < m,S x->at2 T o x=false
theorem brk_no {T : List (List Bool)} {o : Nat} {th : List Nat} : brk T o th=false↔(o∈th∨(∀ x∈th,at2 T o x=true)∨∀ x∈th,at2 T o x=false):=by
  unfold brk y0p
  constructor
  · intro h
    by_cases ho : o∈th
    · exact .inl ho
    · have hc : th.contains o=false:=by rw [← Bool.not_eq_true,List.contains_iff_mem]; exact ho
      rw [hc] at h
      have key : ∀ X : Bool,(!false && !X)=false->X=true:=by decide
      have h:=key _ h
      rcases Bool.or_eq_true_iff.mp h with q | q
      · exact .inr (.inl (List.all_eq_true.mp q))
      · have q : (th.any fun j=>at2 T o j)=false:=by simpa using q
        exact .inr (.inr fun x hx=>by
          have:=List.any_eq_false.mp q x hx
          simpa using this)
  · rintro (h | h | h)
    · rw [List.contains_iff_mem.mpr h]; rfl
    · rw [List.all_eq_true.mpr h]; simp
    · have : (th.any fun j=>at2 T o j)=false:=List.any_eq_false.mpr fun x hx=>by rw [h x hx]; exact Bool.false_ne_true
      rw [this]; simp
theorem z8i {T : List (List Bool)} {m : Nat} {A : List Nat} (lt : ∀ x∈A,x < m) : togB T m A=true↔Md T m fun x=>x∈A:=by
  unfold togB
  rw [List.all_eq_true]
  constructor
  · intro h o ho hn
    have:=h o (List.mem_range.mpr ho)
    have:=brk_no.mp (show brk T o A=false by simpa using this)
    rcases this with q | q | q
    · exact absurd q hn
    · exact .inl fun x _ hx=>q x hx
    · exact .inr fun x _ hx=>q x hx
  · intro h o ho
    have ho:=List.mem_range.mp ho
    have : brk T o A=false:=by
      rw [brk_no]
      by_cases hn : o∈A
      · exact .inl hn
      · rcases h o ho hn with q | q
        · exact .inr (.inl fun x hx=>q x (lt x hx) hx)
        · exact .inr (.inr fun x hx=>q x (lt x hx) hx)
    rw [this]
    rfl
theorem Rea.least {T : List (List Bool)} {m : Nat} {W A : List Nat} (h : Rea T m W A) {S : Nat->Prop} (hS : Md T m S) : (∀ x∈W,x < m∧S x)->∀ x∈A,S x:=by
  induction h with
  | here W=>exact fun hw x hx=>(hw x hx).2
  | @step W V hn _ ih=>
    refine fun hw=>ih fun x hx=>?_
    obtain ⟨h1,h2⟩:=List.mem_filter.mp hx
    have h1:=List.mem_range.mp h1
    refine ⟨h1,?_⟩
    rcases Bool.or_eq_true_iff.mp h2 with q | q
    · exact (hw x (List.contains_iff_mem.mp q)).2
    · apply Classical.byContradiction
      intro hsx
      have : brk T x W=false:=by
        rw [brk_no]
        rcases hS x h1 hsx with w | w
        · exact .inr (.inl fun y hy=>w y (hw y hy).1 (hw y hy).2)
        · exact .inr (.inr fun y hy=>w y (hw y hy).1 (hw y hy).2)
      rw [this] at q
      cases q
theorem Rea.more {T : List (List Bool)} {m : Nat} {W A : List Nat} (h : Rea T m W A) : (∀ x∈W,x < m)->∀ x∈W,x∈A:=by
  induction h with
  | here W=>exact fun _ x hx=>hx
  | @step W V hn _ ih=>
    intro lt x hx
    refine ih (fun y hy=>List.mem_range.mp (List.mem_filter.mp hy).1) x (List.mem_filter.mpr ⟨List.mem_range.mpr (lt x hx),?_⟩)
    rw [List.contains_iff_mem.mpr hx]
    rfl
noncomputable def Bg (T : List (List Bool)) (m a o : Nat) : Prop:=∀ S : Nat->Prop,Md T m S->S a->S o->∀ x < m,S x
theorem y4L {T : List (List Bool)} {m : Nat} (F : Full m T) (hs : Stg T (List.range m)) {A B : Nat->Prop} (hA : Md T m A) (hB : Md T m B) {a : Nat} (ha : a < m) (aA : A a) (aB : B a) (pA : ∃ y < m,¬A y) (pB : ∃ y < m,¬B y) : Md T m (fun x=>A x∨B x)∧∃ y < m,¬(A y∨B y):=by
  refine ⟨fun o ho hn=>?_,?_⟩
  · have nA : ¬A o:=fun z=>hn (.inl z)
    have nB : ¬B o:=fun z=>hn (.inr z)
    rcases hA o ho nA with p | p
    · rcases hB o ho nB with q | q
      · exact .inl fun x hx h=>h.elim (p x hx) (q x hx)
      · have:=p a ha aA
        rw [q a ha aB] at this
        cases this
    · rcases hB o ho nB with q | q
      · have:=q a ha aB
        rw [p a ha aA] at this
        cases this
      · exact .inr fun x hx h=>h.elim (p x hx) (q x hx)
  · apply Classical.byContradiction
    intro hn
    have cov : ∀ y < m,A y∨B y:=fun y hy=>Classical.byContradiction fun z=>hn ⟨y,hy,z⟩
    have side : ∀ (A B : Nat->Prop),Md T m A->Md T m B->(∀ y < m,A y∨B y)->∀ x < m,∀ y < m,¬B x->¬A y->at2 T x y=true->False:=fun A B hA hB cov x hx y hy nx ny hxy=>by
      have Ax : A x:=(cov x hx).resolve_right nx
      have By : B y:=(cov y hy).resolve_left ny
      have yA : ∀ z < m,A z->at2 T y z=false:=by
        rcases hA y hy ny with p | p
        · exact absurd (p x hx Ax) fun w=>F.no hx hy hxy w
        · exact p
      have Ay : ∀ z < m,A z->at2 T z y=true:=fun z hz az=>by
        have hne : z≠y:=fun e=>ny (e ▸ az)
        rcases F.tot hz hy hne with w | w
        · exact w
        · rw [yA z hz az] at w; cases w
      have all : ∀ z < m,¬B z->∀ w < m,B w->at2 T z w=true:=fun z hz nz w hw bw=>by
        have az : A z:=(cov z hz).resolve_right nz
        rcases hB z hz nz with p | p
        · exact p w hw bw
        · have:=Ay z hz az
          rw [p y hy By] at this
          cases this
      obtain ⟨u,hu,v,hv,bu,nv,huv⟩:=hs B ⟨y,List.mem_range.mpr hy,By⟩ ⟨x,List.mem_range.mpr hx,nx⟩
      have hu:=List.mem_range.mp hu
      have hv:=List.mem_range.mp hv
      exact F.no hu hv huv (all v hv nv u hu bu)
    obtain ⟨y,hy,ny⟩:=pA
    obtain ⟨x,hx,nx⟩:=pB
    have hne : x≠y:=fun e=>by
      subst e
      rcases cov x hx with q | q
      · exact ny q
      · exact nx q
    rcases F.tot hx hy hne with w | w
    · exact side A B hA hB cov x hx y hy nx ny w
    · exact side B A hB hA (fun z hz=>(cov z hz).symm) y hy x hx ny nx w
theorem md_one {T : List (List Bool)} {m a : Nat} : Md T m fun x=>x=a:=fun o _ _=>by
  cases h : at2 T o a with
  | true=>exact .inl fun x _ e=>by rw [e]; exact h
  | false=>exact .inr fun x _ e=>by rw [e]; exact h
noncomputable def Cg (T : List (List Bool)) (m a x : Nat) : Prop:=x < m∧(x=a∨¬Bg T m a x)
theorem y5W {T : List (List Bool)} {m : Nat} (F : Full m T) (hs : Stg T (List.range m)) (h2 : 2≤m) {a : Nat} (ha : a < m) : Md T m (Cg T m a)∧∃ y < m,¬Cg T m a y:=by
  have ex : ∀ l : List Nat,∃ S : Nat->Prop,Md T m S∧S a∧(∃ y < m,¬S y)∧∀ o∈l,o < m->¬Bg T m a o->S o:=fun l=>by
    induction l with
    | nil=>
      refine ⟨fun x=>x=a,md_one,rfl,?_,fun o ho=>nomatch ho⟩
      by_cases h0 : a=0
      · exact ⟨1,by omega,by omega⟩
      · exact ⟨0,by omega,fun e=>h0 e.symm⟩
    | cons o l ih=>
      obtain ⟨S,m1,s1,p1,all⟩:=ih
      by_cases ho : o < m∧¬Bg T m a o
      · have : ∃ S' : Nat->Prop,Md T m S'∧S' a∧S' o∧∃ x < m,¬S' x:=Classical.byContradiction fun hn=>ho.2 fun S' q1 q2 q3 x hx=>Classical.byContradiction fun nx=>hn ⟨S',q1,q2,q3,x,hx,nx⟩
        obtain ⟨S',q1,q2,q3,q4⟩:=this
        obtain ⟨u1,u2⟩:=y4L F hs m1 q1 ha s1 q2 p1 q4
        refine ⟨fun x=>S x∨S' x,u1,.inl s1,u2,fun z hz hzm hb=>?_⟩
        rcases List.mem_cons.mp hz with e | e
        · rw [e]; exact .inr q3
        · exact .inl (all z e hzm hb)
      · refine ⟨S,m1,s1,p1,fun z hz hzm hb=>?_⟩
        rcases List.mem_cons.mp hz with e | e
        · exact absurd ⟨e ▸ hzm,e ▸ hb⟩ ho
        · exact all z e hzm hb
  obtain ⟨S,m1,s1,⟨y,hy,ny⟩,all⟩:=ex (List.range m)
  have iff : ∀ x < m,Cg T m a x↔S x:=fun x hx=>by
    constructor
    · rintro ⟨_,h | h⟩
      · rw [h]; exact s1
      · exact all x (List.mem_range.mpr hx) hx h
    · intro h
      exact ⟨hx,.inr fun hb=>ny (hb S m1 s1 h y hy)⟩
  refine ⟨fun o ho hn=>?_,y,hy,fun z=>ny ((iff y hy).mp z)⟩
  rcases m1 o ho fun z=>hn ((iff o ho).mpr z) with p | p
  · exact .inl fun x hx h=>p x hx ((iff x hx).mp h)
  · exact .inr fun x hx h=>p x hx ((iff x hx).mp h)
theorem y1O {T : List (List Bool)} {m : Nat} (F : Full m T) (hs : Stg T (List.range m)) (h2 : 2≤m) {a x : Nat} (ha : a < m) (h : Cg T m a x) {z : Nat} (hz : Cg T m a z) : Cg T m x z:=by
  obtain ⟨m1,y,hy,ny⟩:=y5W F hs h2 ha
  exact ⟨hz.1,.inr fun hb=>ny (hb _ m1 h hz y hy)⟩
theorem z5l {T : List (List Bool)} {m : Nat} (F : Full m T) (hs : Stg T (List.range m)) (h2 : 2≤m) {a x : Nat} (ha : a < m) (h : Cg T m a x) (z : Nat) : Cg T m a z↔Cg T m x z:=by
  have ha' : Cg T m a a:=⟨ha,.inl rfl⟩
  exact ⟨fun q=>y1O F hs h2 ha h q,fun q=>y1O F hs h2 h.1 (y1O F hs h2 ha h ha') q⟩
theorem y3o (o : List Nat) : o.map nD=(o.map fun n=>((n : Nat) : Int)).map D.int:=by rw [List.map_map]; rfl
theorem okP_lls (L : List (List Nat)) : okP (.lst (L.map thD))=true:=by
  have h1 : ∀ L : List (List Nat),PyData.canLayAll0 (z3Q (L.map thD))=true:=fun L=>by
    induction L with
    | nil=>rfl
    | cons r L ih=>
      show (PyData.canLayAll0 (z3Q (r.map nD)) && PyData.canLayAll0 (z3Q (L.map thD)))=true
      rw [ih,y3o,z6l]
      rfl
  have h2 : ∀ L : List (List Nat),PyData.depthAll (z3Q (L.map thD))≤1:=fun L=>by
    induction L with
    | nil=>decide
    | cons r L ih=>
      show max (PyData.depthAll (z3Q (r.map nD)) + 1) (PyData.depthAll (z3Q (L.map thD)))≤1
      rw [y3o,z6C]
      omega
  unfold okP
  rw [Bool.and_eq_true,decide_eq_true_eq]
  refine ⟨h1 L,?_⟩
  show PyData.depthAll (z3Q (L.map thD)) + 1≤60
  have:=h2 L
  omega
theorem y5J : ∀ {a b : List Nat},PyData.eqvAll (z3Q (a.map nD)) (z3Q (b.map nD))=decide (a=b)
  | [],[]=>by simp; rfl
  | [],_ :: _=>by simp; rfl
  | _ :: _,[]=>by simp; rfl
  | x :: a,y :: b=>by
    have ih:=y5J (a:=a) (b:=b)
    show (((x : Int) == (y : Int)) && PyData.eqvAll (z3Q (a.map nD)) (z3Q (b.map nD)))=_
    rw [ih]
    by_cases h : x=y
    · subst h; simp
    · have h1 : ((x : Int) == (y : Int))=false:=by rw [beq_eq_false_iff_ne]; omega
      have h2 : ¬(x :: a=y :: b):=fun e=>h (List.cons.inj e).1
      rw [h1,decide_eq_false h2]
      rfl
theorem mem_lls {w : List Nat} {L : List (List Nat)} : y1t (thD w) (llD L)=some (L.contains w):=by
  unfold llD y1t
  show (if (okP (thD w) && okP (.lst (L.map thD)))=true then _ else none)=_
  rw [okP_lls,z9P]
  show some ((L.map thD).any fun y=>PyData.eqv (toP y) (toP (thD w)))=_
  congr 1
  rw [List.any_map,List.contains_eq_any_beq]
  congr 1
  funext x
  show PyData.eqvAll (z3Q (x.map nD)) (z3Q (w.map nD))=(w == x)
  rw [y5J]
  by_cases h : x=w
  · subst h; simp
  · have : ¬w=x:=fun e=>h e.symm
    simp [h,this]
theorem y1q {w : List Nat} {L : List (List Nat)} : y3y (thD w) (llD L)=some (.bl (!L.contains w)):=by
  unfold y3y
  rw [mem_lls]
  rfl
theorem y4z {m : Nat} {T : List (List Bool)} (sq : Sq m T) (hm : m≤8) {a o : Nat} (ha : a < m) (ho : o < m) : ∃ b,z0T [z0M T,.int (a : Int),.int (o : Int)]=some (.bl b)∧(b=true↔Bg T m a o):=by
  have lt : ∀ x∈[a,o],x < m:=fun x hx=>by
    rcases List.mem_cons.mp hx with z | z
    · rw [z]; exact ha
    · rw [List.mem_singleton.mp z]; exact ho
  obtain ⟨_,e,A,rfl,hr,hp,R⟩:=y0e sq hm (th:=[a,o]) lt (by simp)
  refine ⟨decide ((A.length : Int)=(m : Int)),z0P rfl ?_,?_⟩
  · have t2 : D.lst [.int (a : Int),.int (o : Int)]=thD [a,o]:=rfl
    simp! only [z2g,t2,e,z5n,z2x,sq.1,z0d]
  · rw [decide_eq_true_iff]
    constructor
    · intro hl S hS sa so x hx
      have hx:=z7G R.nd R.lt (by omega) x hx
      refine hr.least hS (fun y hy=>?_) x hx
      have:=(z4t lt).mp hy
      refine ⟨lt y this,?_⟩
      rcases List.mem_cons.mp this with z | z
      · rw [z]; exact sa
      · rw [List.mem_singleton.mp z]; exact so
    · intro h
      have w0lt : ∀ x∈w0 m [a,o],x < m:=fun x hx=>lt x ((z4t lt).mp hx)
      have:=h (fun x=>x∈A) ((z8i R.lt).mp (tog_of hp)) (hr.more w0lt a ((z4t lt).mpr (by simp))) (hr.more w0lt o ((z4t lt).mpr (by simp)))
      have h1:=List.Nodup.length_le_of_subset (l₂:=A) (List.nodup_range (n:=m)) fun x hx=>this x (List.mem_range.mp hx)
      rw [List.length_range] at h1
      have:=R.len
      omega
open Classical in
noncomputable def gwL (T : List (List Bool)) (m a : Nat) : List Nat:=(List.range m).filter fun o=>decide (Cg T m a o)
theorem gw_mem {T : List (List Bool)} {m a x : Nat} : x∈gwL T m a↔Cg T m a x:=by
  unfold gwL
  rw [List.mem_filter,List.mem_range]
  constructor
  · rintro ⟨_,h⟩
    exact @of_decide_eq_true _ (Classical.propDecidable _) h
  · intro h
    exact ⟨h.1,@decide_eq_true _ (Classical.propDecidable _) h⟩
theorem gw_ris {T : List (List Bool)} {m a : Nat} : Ris m (gwL T m a):=ris_fil
open Classical in
theorem z8W {m : Nat} {T : List (List Bool)} (sq : Sq m T) (hm : m≤8) {a : Nat} (ha : a < m) : z0X [z0M T,.int (a : Int)]=some (thD (gwL T m a)):=by
  refine z0P rfl ?_
  have cx : z2o (some (z4x 0 m)) (z2F (dOrT (z1o (d2 eqD (z0e 2) (z0e 1))) (z6q (z1Y (z0k z0T [z0e 0,z0e 1,z0e 2])))) (z0e 2) [some (z0M T),some (.int (a : Int))])=some ((gwL T m a).map nD):=by
    rw [z5u]
    refine y5r (fun o=>decide (Cg T m a o)) nD (by simp; omega) (fun o ho=>?_) fun o _ _=>by simp! only []
    have ho:=List.mem_range.mp ho
    obtain ⟨b,e,hb⟩:=y4z sq hm ha ho
    simp! only [nD,e]
    congr 1
    rw [Bool.eq_iff_iff,Bool.or_eq_true_iff,decide_eq_true_iff,decide_eq_true_iff]
    unfold Cg
    constructor
    · rintro (h | h)
      · exact ⟨ho,.inl (by omega)⟩
      · exact ⟨ho,.inr fun z=>by rw [hb.mpr z] at h; cases h⟩
    · rintro ⟨_,h | h⟩
      · exact .inl (by omega)
      · refine .inr ?_
        cases b with
        | false=>rfl
        | true=>exact absurd (hb.mp rfl) h
  simp! only [z1T,z2x,sq.1,z2K (show m≤1000000 by omega),cx,z1M,z0d]
  rfl
noncomputable def Mn (T : List (List Bool)) (m t : Nat) : Prop:=∀ s < t,¬Cg T m t s
open Classical in
noncomputable def ptL (T : List (List Bool)) (m k : Nat) : List (List Nat):=((List.range k).filter fun t=>decide (Mn T m t)).map (gwL T m)
theorem pt_mem {T : List (List Bool)} {m k : Nat} {w : List Nat} : w∈ptL T m k↔∃ t < k,Mn T m t∧w=gwL T m t:=by
  unfold ptL
  rw [List.mem_map]
  constructor
  · rintro ⟨t,ht,rfl⟩
    obtain ⟨h1,h2⟩:=List.mem_filter.mp ht
    exact ⟨t,List.mem_range.mp h1,@of_decide_eq_true _ (Classical.propDecidable _) h2,rfl⟩
  · rintro ⟨t,ht,h,rfl⟩
    exact ⟨t,List.mem_filter.mpr ⟨List.mem_range.mpr ht,@decide_eq_true _ (Classical.propDecidable _) h⟩,rfl⟩
theorem gw_eq {T : List (List Bool)} {m a b : Nat} (h : ∀ z,Cg T m a z↔Cg T m b z) : gwL T m a=gwL T m b:=by
  unfold gwL
  exact List.filter_congr fun x _=>by rw [Bool.eq_iff_iff,@decide_eq_true_iff _ (Classical.propDecidable _),@decide_eq_true_iff _ (Classical.propDecidable _)]; exact h x
theorem mn_of {T : List (List Bool)} {m : Nat} (F : Full m T) (hs : Stg T (List.range m)) (h2 : 2≤m) : ∀ {t : Nat},t < m->∃ s≤t,Mn T m s∧Cg T m t s:=fun {t}=>by
  induction t using Nat.strongRecOn with
  | _ t ih=>
    intro ht
    by_cases hn : Mn T m t
    · exact ⟨t,Nat.le_refl _,hn,ht,.inl rfl⟩
    · have : ∃ s < t,Cg T m t s:=Classical.byContradiction fun z=>hn fun s hs hc=>z ⟨s,hs,hc⟩
      obtain ⟨s,hst,hc⟩:=this
      obtain ⟨u,hu,mu,cu⟩:=ih s hst hc.1
      exact ⟨u,by omega,mu,(z5l F hs h2 ht hc u).mpr cu⟩
theorem y4i {T : List (List Bool)} {m : Nat} (F : Full m T) (hs : Stg T (List.range m)) (h2 : 2≤m) {k : Nat} (hk : k < m) : gwL T m k∈ptL T m k↔¬Mn T m k:=by
  rw [pt_mem]
  constructor
  · rintro ⟨t,ht,mt,e⟩ hn
    refine hn t ht ?_
    have : t∈gwL T m t:=gw_mem.mpr ⟨by omega,.inl rfl⟩
    rw [← e] at this
    exact gw_mem.mp this
  · intro hn
    obtain ⟨s,hs',ms,cs⟩:=mn_of F hs h2 hk
    have hlt : s < k:=by
      by_cases h : s=k
      · rw [h] at ms; exact absurd ms hn
      · omega
    exact ⟨s,hlt,ms,gw_eq (z5l F hs h2 hk cs)⟩
open Classical in
theorem y1j {T : List (List Bool)} {m k : Nat} : ptL T m (k + 1)=ptL T m k ++ if Mn T m k then [gwL T m k] else []:=by
  unfold ptL
  rw [List.range_succ,List.filter_append,List.map_append,List.filter_cons,List.filter_nil]
  by_cases h : Mn T m k
  · rw [if_pos h,if_pos (decide_eq_true h)]; rfl
  · rw [if_neg h,if_neg (by rw [decide_eq_false h]; exact Bool.false_ne_true)]; rfl
theorem pt_len {T : List (List Bool)} {m k : Nat} : (ptL T m k).length≤k:=by
  unfold ptL
  rw [List.length_map]
  exact Nat.le_trans (List.length_filter_le _ _) (by simp)
theorem y1Z {m : Nat} {T : List (List Bool)} (F : Full m T) (hm : m≤8) (h0 : 0 < m) (hs : 2≤m->Stg T (List.range m)) (hr : (rgL T m).length≤1) : z3F [z0M T]=some (llD (if 2≤m then ptL T m m else [[0]])):=by
  refine z0P rfl ?_
  have re:=z4J F.sq (show m≤60 by omega)
  have ll : z2U [.lst ((rgL T m).map thD)]=some (.int ((rgL T m).length : Int)):=by
    show some (D.int (((rgL T m).map thD).length : Int))=_
    rw [List.length_map]
  have d1 : decide (((rgL T m).length : Int) > 1)=false:=decide_eq_false (by omega)
  obtain ⟨Lr,hLr⟩ : ∃ L,L=D.lst ((rgL T m).map thD):=⟨_,rfl⟩
  rw [← hLr] at re ll
  have nl : D.lst []=llD []:=rfl
  simp! only [z6j,re,ll,d1,z2G,nl,z2x,F.sq.1,z2K (show m≤1000000 by omega)]
  refine z0E (I:=fun s=>∃ o3 o4,s=[some (.sh (z0M T)),some (.ow Lr),some (.ow (llD (if 2≤m then ptL T m m else [[0]]))),o3,o4]) ?_ ?_
  · refine z4d (fun k s=>∃ o3 o4,s=[some (.sh (z0M T)),some (.ow Lr),some (.ow (llD (if 2≤m then ptL T m k else if k=0 then [] else [[0]]))),o3,o4]) ⟨_,_,by
      have : (if 2≤m then ptL T m 0 else if 0=0 then [] else [[0]])=[]:=by split <;> rfl
      rw [this]⟩ ?_ fun s ⟨o3,o4,e⟩=>⟨s,rfl,o3,o4,by rw [e,if_neg (show ¬m=0 by omega)]⟩
    rintro k hk s ⟨o3,o4,rfl⟩
    have ge:=z8W F.sq hm hk
    have key : ∃ (L L' : List (List Nat)) (b : Bool),(if 2≤m then ptL T m k else if k=0 then [] else [[0]])=L∧(if 2≤m then ptL T m (k + 1) else if k + 1=0 then [] else [[0]])=L'∧(!L.contains (gwL T m k))=b∧(b=true->L'=L ++ [gwL T m k])∧(b=false->L'=L)∧L.length≤1000:=by
      by_cases h2 : 2≤m
      · rw [if_pos h2,if_pos h2]
        refine ⟨_,_,_,rfl,rfl,rfl,fun hb=>?_,fun hb=>?_,Nat.le_trans pt_len (by omega)⟩
        · have hn : gwL T m k ∉ ptL T m k:=fun z=>by rw [List.contains_iff_mem.mpr z] at hb; cases hb
          have hmn : Mn T m k:=Classical.byContradiction fun z=>hn ((y4i F (hs h2) h2 hk).mpr z)
          rw [y1j,if_pos hmn]
        · have hin : gwL T m k∈ptL T m k:=by
            rw [← List.contains_iff_mem]
            simpa using hb
          rw [y1j,if_neg ((y4i F (hs h2) h2 hk).mp hin),List.append_nil]
      · rw [if_neg h2,if_neg h2]
        have hk0 : k=0:=by omega
        have hm1 : m=1:=by omega
        subst hk0
        subst hm1
        refine ⟨_,_,_,rfl,rfl,rfl,fun _=>?_,fun hb=>?_,by simp⟩
        · have : gwL T 1 0=[0]:=by
            have h1 : ∀ x,x∈gwL T 1 0↔x=0:=fun x=>by
              rw [gw_mem]
              exact ⟨fun h=>by have:=h.1; omega,fun h=>⟨by omega,.inl h⟩⟩
            have up:=(gw_ris (T:=T) (m:=1) (a:=0)).up
            have ln:=(gw_ris (T:=T) (m:=1) (a:=0)).len
            cases hg : gwL T 1 0 with
            | nil=>have:=(h1 0).mpr rfl; rw [hg] at this; cases this
            | cons x r=>
              rw [hg] at ln
              have : r=[]:=List.length_eq_zero_iff.mp (by rw [List.length_cons] at ln; omega)
              have hx : x=0:=(h1 x).mp (by rw [hg]; exact List.mem_cons_self)
              rw [this,hx]
          rw [this]
          rfl
        · cases hb
    obtain ⟨L,L',b,e1,e2,e3,h1,h2,hl⟩:=key
    rw [e1,e2]
    have ap:=ap_map (enc:=thD) (xs:=L) (x:=gwL T m k) (i:=2) (j:=4) (s:=[some (.sh (z0M T)),some (.ow Lr),some (.ow (llD L)),some (.sh (.int (k : Int))),some (.ow (thD (gwL T m k)))]) (by omega)
    have ap : apX (some (thD (gwL T m k))) (some (llD L)) 2 4 [some (.sh (z0M T)),some (.ow Lr),some (.ow (llD L)),some (.sh (.int (k : Int))),some (.ow (thD (gwL T m k)))]=_:=ap
    have lL : ∀ Z : List (List Nat),D.lst (Z.map thD)=llD Z:=fun _=>rfl
    cases b with
    | true=>
      rw [h1 rfl]
      simp! only [Int.zero_add,ge,y1q,e3,ap,lL,z0d]
      exact ⟨_,_,rfl⟩
    | false=>
      rw [h2 rfl]
      simp! only [Int.zero_add,ge,y1q,e3,z0d]
      exact ⟨_,_,rfl⟩
  · rintro s ⟨o3,o4,rfl⟩
    simp! only [z0d]
theorem y0C {m : Nat} {T : List (List Bool)} (F : Full m T) (hm : m≤8) (hr : 1 < (rgL T m).length) : z3F [z0M T]=some (llD (rgL T m)):=by
  refine z0P rfl ?_
  have re:=z4J F.sq (show m≤60 by omega)
  have ll : z2U [llD (rgL T m)]=some (.int ((rgL T m).length : Int)):=by
    show some (D.int (((rgL T m).map thD).length : Int))=_
    rw [List.length_map]
  have re : z2j [z0M T]=some (llD (rgL T m)):=re
  have d1 : decide (((rgL T m).length : Int) > 1)=true:=decide_eq_true (by omega)
  simp! only [z6j,re,ll,d1,z0d]
theorem cls_up {m : Nat} {f : Nat->Nat} {a : Nat} : (cls m f a).Pairwise (· < ·):=List.Pairwise.filter _ List.pairwise_lt_range
theorem cls_lt {m : Nat} {f : Nat->Nat} {a x : Nat} (h : x∈cls m f a) : x < m:=List.mem_range.mp (List.mem_filter.mp h).1
theorem cls_f {m : Nat} {f : Nat->Nat} {a x : Nat} (h : x∈cls m f a) : f x=f a:=of_decide_eq_true (List.mem_filter.mp h).2
theorem z9h {m : Nat} {f : Nat->Nat} {a : Nat} (h : a < m) : a∈cls m f a:=List.mem_filter.mpr ⟨List.mem_range.mpr h,decide_eq_true rfl⟩
theorem Rgs.perm {m : Nat} {f : Nat->Nat} {L : List (List Nat)} (h : Rgs m f L) : L.flatten.Perm (List.range m):=by
  refine (List.perm_ext_iff_of_nodup ?_ List.nodup_range).mpr fun x=>?_
  · unfold List.Nodup
    rw [List.pairwise_flatten]
    refine ⟨fun r hr=>?_,h.pw.imp fun {r s} q=>?_⟩
    · obtain ⟨a,_,rfl⟩:=(h.mem r).mp hr
      exact cls_up.imp fun h=>Nat.ne_of_lt h
    · intro x hx y hy e
      subst e
      have:=q.2.2 x hx x hy
      omega
  · rw [List.mem_flatten,List.mem_range]
    constructor
    · rintro ⟨r,hr,hx⟩
      obtain ⟨a,_,rfl⟩:=(h.mem r).mp hr
      exact cls_lt hx
    · intro hx
      exact ⟨cls m f x,(h.mem _).mpr ⟨x,hx,rfl⟩,z9h hx⟩
theorem Rgs.cons {m : Nat} {f : Nat->Nat} {L : List (List Nat)} (h : Rgs m f L) (h0 : 0 < m) : ∃ r0 rest,L=r0 :: rest:=by
  have : cls m f 0∈L:=(h.mem _).mpr ⟨0,h0,rfl⟩
  cases L with
  | nil=>cases this
  | cons r s=>exact ⟨r,s,rfl⟩
theorem perm_lt {o : List Nat} {m : Nat} (h : o.Perm (List.range m)) : ∀ x∈o,x < m:=fun _ hx=>List.mem_range.mp (h.mem_iff.mp hx)
theorem z9m {o : List Nat} {m : Nat} (h : o.Perm (List.range m)) : o.length=m:=by simpa using h.length_eq
theorem perm_nd {o : List Nat} {m : Nat} (h : o.Perm (List.range m)) : o.Nodup:=h.nodup_iff.mpr List.nodup_range
structure Gd (T : List (List Bool)) (m : Nat) (L : List (List Nat)) : Prop where
  ris : ∀ p∈L,Ris m p
  ne : ∀ p∈L,p≠[]
  tg : ∀ p∈L,togB T m p=true
  pm : L.flatten.Perm (List.range m)
theorem Gd.len {T : List (List Bool)} {m : Nat} {L : List (List Nat)} (G : Gd T m L) : L.length≤m:=by
  have h : ∀ M : List (List Nat),(∀ p∈M,p≠[])->M.length≤M.flatten.length:=fun M=>by
    induction M with
    | nil=>exact fun _=>Nat.le_refl _
    | cons p M ih=>
      intro hne
      have:=ih fun q hq=>hne q (List.mem_cons_of_mem _ hq)
      have h1:=List.length_pos_iff.mpr (hne p List.mem_cons_self)
      rw [List.flatten_cons,List.length_append,List.length_cons]
      omega
  have:=h L G.ne
  rw [G.pm.length_eq,List.length_range] at this
  exact this
theorem cls_md {m : Nat} {T : List (List Bool)} (F : Full m T) {a : Nat} : Md T m fun x=>x∈cls m (fun a=>(rcL T m a).length) a:=fun o ho hn=>by
  have hne : (rcL T m o).length≠(rcL T m a).length:=fun e=>hn (List.mem_filter.mpr ⟨List.mem_range.mpr ho,decide_eq_true e⟩)
  have fx : ∀ x,x∈cls m (fun a=>(rcL T m a).length) a->(rcL T m x).length=(rcL T m a).length:=fun x hx=>cls_f hx
  by_cases h : (rcL T m a).length < (rcL T m o).length
  · exact .inl fun x hx hm=>z7h F ho hx (by rw [fx x hm]; exact h)
  · refine .inr fun x hx hm=>?_
    have:=z7h F hx ho (by rw [fx x hm]; omega)
    cases e : at2 T o x with
    | false=>rfl
    | true=>exact absurd e fun w=>F.no hx ho this w
theorem y5g {m : Nat} {T : List (List Bool)} (F : Full m T) : Gd T m (rgL T m):=by
  have G:=y1r (T:=T) (m:=m)
  have ris : ∀ p∈rgL T m,Ris m p:=fun p hp=>by
    obtain ⟨a,ha,rfl⟩:=(G.mem p).mp hp
    exact ris_fil
  refine ⟨ris,fun p hp=>?_,fun p hp=>?_,G.perm⟩
  · obtain ⟨a,ha,rfl⟩:=(G.mem p).mp hp
    exact List.ne_nil_of_mem (z9h ha)
  · rw [z8i (ris p hp).lt]
    obtain ⟨a,ha,rfl⟩:=(G.mem p).mp hp
    exact cls_md F
theorem stg_of {T : List (List Bool)} {P Q : List Nat} (h : Stg T P) (e : ∀ x,x∈P↔x∈Q) : Stg T Q:=fun S ⟨x,hx,sx⟩ ⟨y,hy,sy⟩=>by
  obtain ⟨u,hu,v,hv,q⟩:=h S ⟨x,(e x).mpr hx,sx⟩ ⟨y,(e y).mpr hy,sy⟩
  exact ⟨u,(e u).mp hu,v,(e v).mp hv,q⟩
theorem y4Y {m : Nat} {T : List (List Bool)} (F : Full m T) (hs : Stg T (List.range m)) (h2 : 2≤m) : Gd T m (ptL T m m):=by
  have cs:=fun {t : Nat} (ht : t < m)=>y5W F hs h2 ht
  refine ⟨fun p hp=>?_,fun p hp=>?_,fun p hp=>?_,?_⟩
  · obtain ⟨t,ht,mt,rfl⟩:=pt_mem.mp hp
    exact gw_ris
  · obtain ⟨t,ht,mt,rfl⟩:=pt_mem.mp hp
    exact List.ne_nil_of_mem (gw_mem.mpr ⟨ht,.inl rfl⟩)
  · obtain ⟨t,ht,mt,rfl⟩:=pt_mem.mp hp
    rw [z8i gw_ris.lt]
    have:=(cs ht).1
    intro o ho hn
    rcases this o ho (fun z=>hn (gw_mem.mpr z)) with q | q
    · exact .inl fun x hx h=>q x hx (gw_mem.mp h)
    · exact .inr fun x hx h=>q x hx (gw_mem.mp h)
  · refine (List.perm_ext_iff_of_nodup ?_ List.nodup_range).mpr fun x=>?_
    · unfold List.Nodup
      rw [List.pairwise_flatten]
      refine ⟨fun p hp=>?_,?_⟩
      · obtain ⟨t,ht,mt,rfl⟩:=pt_mem.mp hp
        exact gw_ris.nd
      · unfold ptL
        rw [List.pairwise_map]
        refine List.Pairwise.imp_of_mem (fun {t u} ht hu htu=>?_) (List.Pairwise.filter _ (List.pairwise_lt_range (n:=m)))
        obtain ⟨ht1,ht2⟩:=List.mem_filter.mp ht
        obtain ⟨hu1,hu2⟩:=List.mem_filter.mp hu
        have hu3 : Mn T m u:=@of_decide_eq_true _ (Classical.propDecidable _) hu2
        have htm:=List.mem_range.mp ht1
        have hum:=List.mem_range.mp hu1
        intro x hx y hy e
        subst e
        have c1:=gw_mem.mp hx
        have c2:=gw_mem.mp hy
        refine hu3 t htu ?_
        have k1:=(z5l F hs h2 htm c1 t).mp ⟨htm,.inl rfl⟩
        exact (z5l F hs h2 hum c2 t).mpr k1
    · rw [List.mem_flatten,List.mem_range]
      constructor
      · rintro ⟨p,hp,hx⟩
        obtain ⟨t,ht,mt,rfl⟩:=pt_mem.mp hp
        exact gw_ris.lt x hx
      · intro hx
        obtain ⟨s,hs',ms,c⟩:=mn_of F hs h2 hx
        exact ⟨gwL T m s,pt_mem.mpr ⟨s,by omega,ms,rfl⟩,gw_mem.mpr ((z5l F hs h2 hx c x).mp ⟨hx,.inl rfl⟩)⟩
theorem y4q {m : Nat} {T : List (List Bool)} (F : Full m T) (hm : m≤8) (h0 : 0 < m) : ∃ L,z3F [z0M T]=some (llD L)∧Gd T m L∧(1 < (rgL T m).length->L=rgL T m):=by
  by_cases hr : 1 < (rgL T m).length
  · exact ⟨rgL T m,y0C F hm hr,y5g F,fun _=>rfl⟩
  · have G:=y1r (T:=T) (m:=m)
    obtain ⟨r0,rest,e⟩:=G.cons h0
    have er : rest=[]:=by
      cases rest with
      | nil=>rfl
      | cons r rest=>rw [e] at hr; simp at hr
    have hs : Stg T (List.range m):=by
      obtain ⟨a,ha,ea⟩:=(G.mem r0).mp (by rw [e]; exact List.mem_cons_self)
      refine stg_of (P:=r0) (by rw [ea]; exact y4k F) fun x=>?_
      have:=G.perm.mem_iff (a:=x)
      rw [e,er] at this
      simpa using this
    refine ⟨_,y1Z F hm h0 (fun _=>hs) (by omega),?_,fun z=>absurd z hr⟩
    by_cases h2 : 2≤m
    · rw [if_pos h2]
      exact y4Y F hs h2
    · rw [if_neg h2]
      have : m=1:=by omega
      subst this
      refine ⟨fun p hp=>?_,fun p hp=>?_,fun p hp=>?_,?_⟩
      · rw [List.mem_singleton.mp hp]
        exact ⟨by simp,fun x hx=>by rw [List.mem_singleton.mp hx]; omega⟩
      · rw [List.mem_singleton.mp hp]; simp
      · rw [List.mem_singleton.mp hp]; exact tog_one
      · exact List.Perm.refl _
theorem z8m {x : Int} {m : Nat} (h : 0≤x∧x < (m : Int)) : z2q [.int x,.int (m : Int)]=some (.bl true):=by
  refine z0P rfl ?_
  have c : chO leI ltI (some (.int 0)) (some (.int x)) (some (.int (m : Int)))=some (.bl (true && true)):=y4N (by rw [ea_le,decide_eq_true h.1]) (by rw [ea_lt,decide_eq_true h.2])
  simp_all! only [z4i,c,z0d]
theorem y4h {m : Nat} (hm : m≤1000) {o : List Nat} (hp : o.Perm (List.range m)) : z0K [thD o,.int (m : Int)]=some (.bl true):=by
  refine z0P rfl ?_
  have hl : decide ((o.length : Int)=(m : Int))=true:=decide_eq_true (by rw [z9m hp])
  have t0 : D.dct [] []=z8z []:=rfl
  simp_all! only [z1D,z5n,hl,t0,z3c]
  refine z0E (I:=fun s=>∃ p o3,s=[some (.sh (thD o)),some (.sh (.int (m : Int))),some (.ow (z8z p)),o3]) ?_ ?_
  · refine z2X (fun pre s=>∃ o3,s=[some (.sh (thD o)),some (.sh (.int (m : Int))),some (.ow (z8z (pre.map fun n=>((n : Nat) : Int)))),o3]) ⟨none,rfl⟩ ?_ fun s ⟨o3,z⟩=>⟨s,rfl,_,o3,z⟩
    rintro pre x post e s ⟨o3,rfl⟩
    have hx : x∈o:=by rw [e]; simp
    have hxm:=perm_lt hp x hx
    have it:=z8m (x:=(x : Int)) (m:=m) ⟨by omega,by omega⟩
    have nd:=perm_nd hp
    rw [e,List.nodup_append] at nd
    have hnp : (x : Int) ∉ pre.map fun n=>((n : Nat) : Int):=fun z=>by
      obtain ⟨y,hy,hyx⟩:=List.mem_map.mp z
      have : y=x:=by omega
      subst this
      exact nd.2.2 y hy y List.mem_cons_self rfl
    have hpl : (pre.map fun n=>((n : Nat) : Int)).length≤1000000:=by
      have h1:=z9m hp
      rw [e,List.length_append] at h1
      rw [List.length_map]
      omega
    simp_all! only [nD,it,y0T hnp,y4a hnp hpl,z0d]
    rw [List.map_append]
    exact ⟨_,rfl⟩
  · rintro s ⟨p,o3,rfl⟩
    simp! only [z0d]
section
variable {T : List (List Bool)} {m : Nat} {th : List Nat}
theorem y1m (sq : Sq m T) (hm : m≤900) (hl : th.length≤900) (h : ∀ x∈th,x < m) : z0z [z0M T,thD th]=some (.bl (togB T m th)):=by
  refine z0P rfl ?_
  simp! only [z1E,z5L sq hm hl h,z5n,z0d]
  congr 2
  unfold togB prt
  by_cases e : ((List.range m).all fun o=>!brk T o th)=true
  · rw [e]
    have : (List.range m).filter (fun o=>brk T o th)=[]:=by
      rw [List.filter_eq_nil_iff]
      intro o ho hb
      have:=List.all_eq_true.mp e o ho
      rw [hb] at this
      cases this
    rw [this]
    rfl
  · rw [Bool.not_eq_true] at e
    rw [e]
    apply decide_eq_false
    intro z
    have z' : ((List.range m).filter fun o=>brk T o th)=[]:=List.eq_nil_of_length_eq_zero (by omega)
    rw [List.filter_eq_nil_iff] at z'
    have : ((List.range m).all fun o=>!brk T o th)=true:=List.all_eq_true.mpr fun o ho=>by
      have:=z' o ho
      simpa using this
    rw [this] at e
    cases e
end
theorem y2U {r : List Bool} {th : List Nat} (hl : th.length≤1000) (h : ∀ x∈th,x < r.length) : z3m [z2T r,thD th]=some (z2T (th.map fun j=>r.getD j false)):=by
  refine z0P rfl ?_
  have hl' : (th.map nD).length≤1000000:=by rw [List.length_map]; omega
  have hc : z1z (z2F z3V (d2 ixD (z0e 0) (z0e 2)) [some (z2T r),some (thD th)]) (th.map nD)=some ((th.map fun j=>r.getD j false).map bD):=by
    rw [List.map_map]
    exact z4f (fun j : Nat=>bD (r.getD j false)) fun j hj=>by simp! only [nD,y2O (h j hj),bD]
  have fl:=z2Y (z1h (th.map fun j=>r.getD j false))
  simp! only [z7b,z3c,z4a hl',hc,fl,z0d]
  rfl
theorem part_eq {n : Nat} {T : List (List Bool)} (sq : Sq n T) {th : List Nat} (hl : th.length≤1000) (h : ∀ x∈th,x < n) : z7k [z0M T,thD th]=some (z0M (z2p th (at2 T))):=by
  refine z0P rfl ?_
  have hl' : (th.map nD).length≤1000000:=by rw [List.length_map]; omega
  have hc : z1z (z2F z3V (z0k z3m [d2 ixD (z0e 0) (z0e 2),z0e 1]) [some (z0M T),some (thD th)]) (th.map nD)=some ((z2p th (at2 T)).map z2T):=by
    unfold z2p
    rw [List.map_map]
    exact z4f (fun i : Nat=>z2T (th.map fun j=>at2 T i j)) fun i hi=>by
      have p:=y2U (r:=T.getD i []) (th:=th) hl (fun x hx=>by rw [sq.len (h i hi)]; exact h x hx)
      simp! only [nD,z8l (show i < T.length by rw [sq.1]; exact h i hi),p]
      rfl
  simp! only [y2M,z3c,z4a hl',hc,z0d]
  rfl
theorem z8T {L : List (List Nat)} : y4S (llD L)=some (L.map thD):=(rfl)
noncomputable def ouT (T : List (List Bool)) (L : List (List Nat)) : List (List Bool):=z2p (L.map fun p=>p.headD 0) (at2 T)
theorem st_intP {o : List Int} {k : Nat} {x : Int} (h : k < o.length) : st0V (some (y4j o)) (some (.int (k : Int))) (some (.int x))=some (y4j (o.set k x)):=by
  show (ixN (o.map D.int).length (k : Int)).map (fun j=>D.lst ((o.map D.int).set j (.int x)))=_
  rw [ixN_of (by simpa using h),Option.map_some,← List.map_set]
  rfl
section
variable {T : List (List Bool)} {m : Nat} {L : List (List Nat)}
theorem Gd.lt (G : Gd T m L) {p : List Nat} (hp : p∈L) : ∀ x∈p,x < m:=(G.ris p hp).lt
theorem y0x (G : Gd T m L) (hm : m≤8) : ∃ xs : List Int,xs.length=m∧z1A [llD L,.int (m : Int)]=some (.val (y4j xs)):=by
  suffices h : hol (z1A [llD L,.int (m : Int)]) fun d=>∃ xs : List Int,xs.length=m∧d = .val (y4j xs) by
    obtain ⟨_,e,xs,hl,rfl⟩:=h
    exact ⟨xs,hl,e⟩
  have hl:=G.len
  have key : hol (z2z ([llD L,.int (m : Int)].map (fun d=>some (.sh d)) ++ List.replicate 5 none)) fun o=>∃ xs : List Int,xs.length=m∧o = .rt (y4j xs):=by
    simp! only [z2z,z2G,y1G,z8T]
    refine z0E (I:=fun s=>∃ o3,s=[some (.sh (llD L)),some (.sh (.int (m : Int))),some (.ow (thD L.flatten)),o3,none,none,none]) (z2X (enc:=thD) (xs:=L) (fun pre s=>∃ o3,s=[some (.sh (llD L)),some (.sh (.int (m : Int))),some (.ow (thD pre.flatten)),o3,none,none,none]) ⟨_,rfl⟩ ?_ fun s z=>⟨s,rfl,z⟩) ?_
    · rintro pre p post e s ⟨o3,rfl⟩
      have hp : p∈L:=by rw [e]; simp
      have hpl:=(G.ris p hp).len
      have z0 : decide ((p.length : Int)=0)=false:=decide_eq_false fun z=>G.ne p hp (List.length_eq_zero_iff.mp (by omega))
      have fl : pre.flatten.length≤m:=by
        have:=G.pm.length_eq
        rw [e,List.flatten_append,List.length_append,List.length_range] at this
        omega
      have ex : y5o (some (thD pre.flatten)) (some (thD p))=some (thD (pre.flatten ++ p)):=by
        show y5o (some (.lst (pre.flatten.map nD))) (some (.lst (p.map nD)))=_
        rw [eo_extD (z7I _) (by rw [List.length_map,List.length_map]; omega),← List.map_append]
        rfl
      have ef : (pre ++ [p]).flatten=pre.flatten ++ p:=by simp
      rw [ef]
      obtain ⟨W,hW⟩ : ∃ W,W=pre.flatten ++ p:=⟨_,rfl⟩
      rw [← hW] at ex ⊢
      simp_all! only [z5n,z0,ex,z0d]
      exact ⟨_,rfl⟩
    · rintro s ⟨o3,rfl⟩
      have te:=y4h (show m≤1000 by omega) G.pm
      have rp : repO (some (.lst [.int 0])) (some (.int (m : Int)))=some ((List.replicate m (0 : Int)).map .int):=by rw [y1y (by omega),List.map_replicate]
      have fl : z6J (some ((List.replicate m (0 : Int)).map D.int))=some ((List.replicate m (0 : Int)).map D.int):=z2Y (z9u _)
      have li : D.lst ((List.replicate m (0 : Int)).map .int)=y4j (List.replicate m 0):=rfl
      have en : z9f (llD L)=some (z0s 0 (L.map thD)):=rfl
      simp_all! only [te,rp,fl,li,en]
      refine z0E (I:=fun s=>∃ (xs : List Int) (o2 o3 o5 o6 : Option SD),s=[some (.sh (llD L)),some (.sh (.int (m : Int))),o2,o3,some (.ow (y4j xs)),o5,o6]∧xs.length=m) ?_ ?_
      · refine z6O (enc:=thD) (xs:=L) (fun p s=>∃ (xs : List Int) (o2 o3 o5 o6 : Option SD),s=[some (.sh (llD L)),some (.sh (.int (m : Int))),o2,o3,some (.ow (y4j xs)),o5,o6]∧xs.length=m) ?_ (fun s z=>⟨s,rfl,z⟩) (pre:=[]) rfl ⟨_,_,_,_,_,rfl,by simp⟩
        rintro pre p post e s ⟨xs,o2,o3,o5,o6,rfl,hx⟩
        have hp : p∈L:=by rw [← List.nil_append L,e]; simp
        simp! only [z3c]
        refine z2X (enc:=nD) (xs:=p) (fun _ s=>∃ (xs : List Int) (o2 o6 : Option SD),s=[some (.sh (llD L)),some (.sh (.int (m : Int))),o2,some (.sh (thD p)),some (.ow (y4j xs)),some (.sh (.int ((pre.length : Nat) : Int))),o6]∧xs.length=m) ⟨_,_,_,rfl,hx⟩ ?_ ?_
        · rintro pr t po e2 s ⟨xs,o2,o6,rfl,hx⟩
          have ht : t < m:=G.lt hp t (by rw [e2]; simp)
          simp! only [nD,st_intP (show t < xs.length by omega),z0d]
          exact ⟨_,_,_,rfl,by rw [List.length_set]; exact hx⟩
        · rintro s ⟨xs,o2,o6,rfl,hx⟩
          exact ⟨_,_,_,_,_,rfl,hx⟩
      · rintro s ⟨xs,o2,o3,o5,o6,rfl,hx⟩
        simp! only [z0d]
        exact ⟨xs,hx,rfl⟩
  obtain ⟨_,e,xs,hx,rfl⟩:=key
  exact ⟨_,y2G rfl ⟨_,e,rfl⟩,xs,hx,rfl⟩
theorem y2N (F : Full m T) (G : Gd T m L) (hm : m≤8) : z3H [z0M T,llD L]=some (.val (z0M (ouT T L))):=by
  refine y2G rfl ?_
  have hl:=G.len
  obtain ⟨xs,_,pv⟩:=y0x G hm
  have c1 : z2o (some (L.map thD)) (z2F z3V (z0k z0z [z0e 0,z0e 2]) [some (z0M T),some (llD L)])=some ((L.map fun _=>true).map bD):=by
    rw [List.map_map]
    refine z3l (enc:=thD) (xs:=L) (fun _=>bD true) (by omega) fun p hp=>?_
    have hpl:=(G.ris p hp).len
    have st:=y1m F.sq (show m≤900 by omega) (show p.length≤900 by omega) (G.lt hp)
    rw [G.tg p hp] at st
    simp! only [st,bD]
  have c2 : z2o (some (L.map thD)) (z2F z3V (d2 ixD (z0e 2) (dC (.int 0))) [some (z0M T),some (llD L)])=some ((L.map fun p=>p.headD 0).map nD):=by
    rw [List.map_map]
    refine z3l (enc:=thD) (xs:=L) (fun p=>nD (p.headD 0)) (by omega) fun p hp=>?_
    have ix : ixD (thD p) (.int 0)=some (nD (p.headD 0)):=by
      cases h : p with
      | nil=>exact absurd h (G.ne p hp)
      | cons a r=>exact z9N
    simp! only [ix]
  have al : allF [.lst ((L.map fun _=>true).map bD)]=some (.bl true):=by
    rw [y5L]
    congr 2
    simp
  have pt:=part_eq F.sq (th:=L.map fun p=>p.headD 0) (by rw [List.length_map]; omega) fun x hx=>by
    obtain ⟨p,hp,rfl⟩:=List.mem_map.mp hx
    cases h : p with
    | nil=>exact absurd h (G.ne p hp)
    | cons a r=>exact G.lt hp a (by rw [h]; exact List.mem_cons_self)
  simp_all! only [z6L,z2x,F.sq.1,pv,z8T,c1,al,c2,z7l,pt,z0d]
  rfl
end
section
variable {O : List (List Bool)} {Is : List (List (List Bool))} {hs : List (Nat × Nat)}
theorem pc_mem {k t : Nat} : t∈pc hs k↔t < hs.length∧(hs.getD t (0,0)).1=k:=by
  unfold pc
  rw [List.mem_filter,List.mem_range,decide_eq_true_eq]
theorem y2T (M : Mix O Is hs) : Gd (y3r O Is hs) hs.length (pcs O.length hs):=by
  have gt : ∀ t (h : t < hs.length),hs.getD t (0,0)=hs[t]:=fun t h=>by simp [List.getD,h]
  have ris : ∀ p∈pcs O.length hs,Ris hs.length p:=fun p hp=>by
    obtain ⟨k,_,rfl⟩:=List.mem_map.mp hp
    exact ris_fil
  refine ⟨ris,fun p hp=>?_,fun p hp=>?_,?_⟩
  · obtain ⟨k,hk,rfl⟩:=List.mem_map.mp hp
    have hk : k < Is.length:=by rw [M.len]; exact List.mem_range.mp hk
    have hz : ((k,0) : Nat × Nat)∈hs:=(M.prt.mem _).mpr ⟨hk,(M.prt.inn k hk).2⟩
    obtain ⟨t,ht,e⟩:=List.mem_iff_getElem.mp hz
    exact List.ne_nil_of_mem (pc_mem.mpr ⟨ht,by rw [gt t ht,e]⟩)
  · rw [z8i (ris p hp).lt]
    obtain ⟨k,hk,rfl⟩:=List.mem_map.mp hp
    intro o ho hn
    have ho1 : (hs.getD o (0,0)).1≠k:=fun z=>hn (pc_mem.mpr ⟨ho,z⟩)
    have e : ∀ x,x < hs.length->x∈pc hs k->at2 (y3r O Is hs) o x=at2 O (hs.getD o (0,0)).1 k:=fun x hx hm=>by
      have hm:=(pc_mem.mp hm).2
      rw [gt x hx] at hm
      rw [gt o ho] at ho1 ⊢
      rw [z6K ho hx]
      unfold mb
      rw [if_neg (by rw [hm]; exact ho1),hm]
    cases h : at2 O (hs.getD o (0,0)).1 k with
    | true=>exact .inl fun x hx hm=>by rw [e x hx hm,h]
    | false=>exact .inr fun x hx hm=>by rw [e x hx hm,h]
  · refine (List.perm_ext_iff_of_nodup ?_ List.nodup_range).mpr fun x=>?_
    · unfold List.Nodup
      rw [List.pairwise_flatten]
      refine ⟨fun p hp=>(ris p hp).nd,?_⟩
      unfold pcs
      rw [List.pairwise_map]
      refine (List.nodup_range (n:=O.length)).imp fun {k j} hkj x hx y hy e=>?_
      subst e
      exact hkj ((pc_mem.mp hx).2.symm.trans (pc_mem.mp hy).2)
    · rw [List.mem_flatten,List.mem_range]
      constructor
      · rintro ⟨p,hp,hx⟩
        exact (ris p hp).lt x hx
      · intro hx
        have h1:=(M.prt.mem hs[x]).mp (List.getElem_mem hx)
        refine ⟨pc hs hs[x].1,List.mem_map.mpr ⟨_,List.mem_range.mpr (by rw [← M.len]; exact h1.1),rfl⟩,pc_mem.mpr ⟨hx,by rw [gt x hx]⟩⟩
end
section
variable {T : List (List Bool)} {m : Nat} {L : List (List Nat)}
noncomputable def pk (L : List (List Nat)) (k : Nat) : List Nat:=L.getD k []
theorem z7D {k : Nat} (h : k < L.length) : pk L k∈L:=by
  unfold pk
  rw [List.getD_eq_getElem?_getD,List.getElem?_eq_getElem h]
  exact List.getElem_mem h
theorem Gd.has (G : Gd T m L) {x : Nat} (hx : x < m) : ∃ k,k < L.length∧x∈pk L k:=by
  obtain ⟨p,hp,h⟩:=List.mem_flatten.mp (G.pm.mem_iff.mpr (List.mem_range.mpr hx))
  obtain ⟨k,hk,rfl⟩:=List.mem_iff_getElem.mp hp
  refine ⟨k,hk,?_⟩
  unfold pk
  rw [List.getD_eq_getElem?_getD,List.getElem?_eq_getElem hk]
  exact h
theorem Gd.only (G : Gd T m L) {k j x : Nat} (hk : k < L.length) (hj : j < L.length) (h1 : x∈pk L k) (h2 : x∈pk L j) : k=j:=by
  have nd : L.flatten.Nodup:=G.pm.nodup_iff.mpr List.nodup_range
  unfold List.Nodup at nd
  rw [List.pairwise_flatten] at nd
  have pw:=List.pairwise_iff_getElem.mp nd.2
  unfold pk at h1 h2
  rw [List.getD_eq_getElem?_getD,List.getElem?_eq_getElem hk] at h1
  rw [List.getD_eq_getElem?_getD,List.getElem?_eq_getElem hj] at h2
  rcases Nat.lt_trichotomy k j with z | z | z
  · exact absurd rfl (pw k j hk hj z x h1 x h2)
  · exact z
  · exact absurd rfl (pw j k hj hk z x h2 x h1)
theorem Gd.plt (G : Gd T m L) {k x : Nat} (hk : k < L.length) (h : x∈pk L k) : x < m:=G.lt (z7D hk) x h
theorem Gd.head (G : Gd T m L) {k : Nat} (hk : k < L.length) : (pk L k).headD 0∈pk L k:=by
  have:=G.ne _ (z7D hk)
  cases h : pk L k with
  | nil=>exact absurd h this
  | cons a r=>exact List.mem_cons_self
theorem Gd.same (F : Full m T) (G : Gd T m L) {k j : Nat} (hk : k < L.length) (hj : j < L.length) (hkj : k≠j) {x x' y y' : Nat} (hx : x∈pk L k) (hx' : x'∈pk L k) (hy : y∈pk L j) (hy' : y'∈pk L j) : at2 T x y=at2 T x' y':=by
  have one : ∀ {k j : Nat},k < L.length->j < L.length->k≠j->∀ {x y y' : Nat},x∈pk L k->y∈pk L j->y'∈pk L j->at2 T x y=at2 T x y':=fun {k j} hk hj hkj {x y y'} hx hy hy'=>by
    have md:=(z8i (G.lt (z7D hj))).mp (G.tg _ (z7D hj))
    rcases md x (G.plt hk hx) (fun z=>hkj (G.only hk hj hx z)) with h | h
    · rw [h y (G.plt hj hy) hy,h y' (G.plt hj hy') hy']
    · rw [h y (G.plt hj hy) hy,h y' (G.plt hj hy') hy']
  have ne : ∀ {a b : Nat},a∈pk L k->b∈pk L j->a≠b:=fun ha hb z=>hkj (G.only hk hj ha (z ▸ hb))
  rw [one hk hj hkj hx hy hy',F.two x (G.plt hk hx) y' (G.plt hj hy') (ne hx hy'),F.two x' (G.plt hk hx') y' (G.plt hj hy') (ne hx' hy'),one hj hk (Ne.symm hkj) hy' hx hx']
theorem y2d {k : Nat} (hk : k < L.length) : (L.map fun p=>p.headD 0).getD k 0=(pk L k).headD 0:=by
  unfold pk
  simp [List.getD,List.getElem?_eq_getElem hk]
theorem y0M (F : Full m T) (G : Gd T m L) {k j : Nat} (hk : k < L.length) (hj : j < L.length) (hkj : k≠j) {x y : Nat} (hx : x∈pk L k) (hy : y∈pk L j) : at2 (ouT T L) k j=at2 T x y:=by
  unfold ouT
  have e : at2 (z2p (L.map fun p=>p.headD 0) (at2 T)) k j=at2 T ((L.map fun p=>p.headD 0).getD k 0) ((L.map fun p=>p.headD 0).getD j 0):=by
    unfold at2 z2p
    simp [List.getD,List.getElem?_eq_getElem hk,List.getElem?_eq_getElem hj]
  rw [e,y2d hk,y2d hj]
  exact G.same F hk hj hkj (G.head hk) hx (G.head hj) hy
theorem z8I (F : Full m T) (G : Gd T m L) : Full L.length (ouT T L):=by
  have sq : Sq L.length (ouT T L):=by
    have:=y1k (th:=L.map fun p=>p.headD 0) (f:=at2 T)
    rwa [List.length_map] at this
  refine ⟨sq,fun k hk=>?_,fun k hk j hj hkj=>?_⟩
  · unfold ouT
    have e : at2 (z2p (L.map fun p=>p.headD 0) (at2 T)) k k=at2 T ((L.map fun p=>p.headD 0).getD k 0) ((L.map fun p=>p.headD 0).getD k 0):=by
      unfold at2 z2p
      simp [List.getD,List.getElem?_eq_getElem hk]
    rw [e,y2d hk]
    exact F.own _ (G.plt hk (G.head hk))
  · rw [y0M F G hk hj hkj (G.head hk) (G.head hj),y0M F G hj hk (Ne.symm hkj) (G.head hj) (G.head hk)]
    exact F.two _ (G.plt hk (G.head hk)) _ (G.plt hj (G.head hj)) fun z=>hkj (G.only hk hj (G.head hk) (z ▸ G.head hj))
end
section
variable {T : List (List Bool)} {m : Nat}
noncomputable def Tpp (T : List (List Bool)) (m x : Nat) : Prop:=x < m∧∀ y,y < m->Rch T m x y
noncomputable def tpL (T : List (List Bool)) (m : Nat) : List Nat:=plL (z5r T m) m
theorem cnt_all {x : Nat} (hx : x < m) : (rcL T m x).length=m↔∀ y,y < m->Rch T m x y:=by
  constructor
  · intro h y hy
    have:=z7G (y2k (T:=T) (m:=m) (a:=x)) (fun z hz=>(rcL_mem.mp hz).1) h y hy
    exact (rcL_mem.mp this).2
  · intro h
    have h1:=List.Nodup.length_le_of_subset (List.nodup_range (n:=m)) (l₂:=rcL T m x) fun z hz=>rcL_mem.mpr ⟨List.mem_range.mp hz,h z (List.mem_range.mp hz)⟩
    have h2:=y1R (T:=T) (m:=m) (a:=x)
    rw [List.length_range] at h1
    omega
theorem tp_mem {x : Nat} : x∈tpL T m↔Tpp T m x:=by
  unfold tpL Tpp
  rw [plL_mem]
  unfold z5r
  rw [List.getElem?_map]
  by_cases h : x < m
  · rw [List.getElem?_eq_getElem (by simpa using h),List.getElem_range]
    show some _=some m↔_
    rw [Option.some.injEq,cnt_all h]
    exact ⟨fun z=>⟨h,z⟩,fun z=>z.2⟩
  · rw [List.getElem?_eq_none (by simpa using h)]
    exact ⟨(fun z=>nomatch z),fun z=>absurd z.1 h⟩
theorem tp_up : (tpL T m).Pairwise (· < ·):=z5Q
theorem y2g (F : Full m T) (h0 : 0 < m) : ∃ a,Tpp T m a:=by
  have h : ∀ k,0 < k->k≤m->∃ a,a < m∧∀ b,b < k->(rcL T m b).length≤(rcL T m a).length:=by
    intro k
    induction k with
    | zero=>intro h; omega
    | succ k ih=>
      intro _ hk
      by_cases z : k=0
      · subst z
        exact ⟨0,h0,fun b hb=>by rw [show b=0 by omega]; exact Nat.le_refl _⟩
      · obtain ⟨a,ha,q⟩:=ih (by omega) (by omega)
        by_cases c : (rcL T m k).length≤(rcL T m a).length
        · refine ⟨a,ha,fun b hb=>?_⟩
          by_cases e : b=k
          · subst e; exact c
          · exact q b (by omega)
        · refine ⟨k,by omega,fun b hb=>?_⟩
          by_cases e : b=k
          · subst e; exact Nat.le_refl _
          · have:=q b (by omega)
            omega
  obtain ⟨a,ha,q⟩:=h m h0 (Nat.le_refl _)
  exact ⟨a,ha,fun y hy=>(z6i F ha hy).mpr (q y hy)⟩
theorem y5y (F : Full m T) (h0 : 0 < m) : m∈z5r T m:=by
  obtain ⟨a,ha⟩:=y2g F h0
  have:=tp_mem.mpr ha
  unfold tpL at this
  exact List.mem_of_getElem? (plL_mem.mp this)
theorem y1P (F : Full m T) (hm : m≤60) (h0 : 0 < m) : z0R [z0M T]=some (thD (tpL T m)):=y0P F.sq hm h0 (y5y F h0)
theorem rg_top (F : Full m T) (h0 : 0 < m) : ∃ r,rgL T m=tpL T m :: r:=by
  have h:=y5y F h0
  unfold rgL dnL tpL
  obtain ⟨n,rfl⟩ : ∃ n,m=n + 1:=⟨m - 1,by omega⟩
  rw [List.range_succ_eq_map,List.map_cons,List.filter_cons]
  have hc : (z5r T (n + 1)).contains (n + 1 - 0)=true:=List.contains_iff_mem.mpr h
  rw [hc,if_pos rfl,List.map_cons]
  exact ⟨_,rfl⟩
theorem y5F (hm : m≤8) : (tpL T m).length≤8:=by
  have:=List.Nodup.length_le_of_subset ((tp_up (T:=T) (m:=m)).imp fun h=>Nat.ne_of_lt h) (l₂:=List.range m) fun x hx=>List.mem_range.mpr (tp_mem.mp hx).1
  rw [List.length_range] at this
  omega
theorem z9y {E : List Nat} (hm : m≤8) (nd : E.Nodup) (h : ∀ x,x∈E↔Tpp T m x) : z5K [thD E]=some ((tpL T m).map nD):=by
  have lt : ∀ x∈E,x < m:=fun x hx=>((h x).mp hx).1
  rw [sort_nd lt nd (by omega)]
  have : w0 m E=tpL T m:=uniqL (R:=fun a b : Nat=>a < b) (fun x y h1 h2=>by omega) z5X tp_up fun x=>by rw [z4t lt,tp_mem]; exact h x
  rw [this]
variable {L : List (List Nat)}
theorem one_top (F : Full m T) {k : Nat} (hu : tpL T m=[k]) : ∀ j,j < m->j≠k->at2 T k j=true:=fun j hj hjk=>by
  have hk : Tpp T m k:=tp_mem.mp (by rw [hu]; exact List.mem_cons_self)
  rcases F.tot hk.1 hj (Ne.symm hjk) with h | h
  · exact h
  · have : j∈tpL T m:=tp_mem.mpr ⟨hj,fun y hy=>(Rch.step .here hk.1 h).trans (hk.2 y hy)⟩
    rw [hu] at this
    exact absurd (List.mem_singleton.mp this) hjk
theorem not_two (F : Full m T) {a b : Nat} (ha : a∈tpL T m) (hb : b∈tpL T m) (hab : a≠b) : ∃ c∈tpL T m,c≠a∧c≠b:=by
  have key : ∀ a b,Tpp T m a->Tpp T m b->a≠b->at2 T a b=true->∃ c∈tpL T m,c≠a∧c≠b:=fun a b ha hb hab h=>by
    have hr:=hb.2 a ha.1
    have : ∀ z,Rch T m b z->z=b∨(∃ c,c < m∧at2 T b c=true∧Rch T m c z):=fun z hz=>by
      induction hz with
      | here=>exact .inl rfl
      | step h1 hy hxy ih=>
        rcases ih with e | ⟨c,h2,h3,h4⟩
        · exact .inr ⟨_,hy,e ▸ hxy,.here⟩
        · exact .inr ⟨c,h2,h3,.step h4 hy hxy⟩
    rcases this a hr with e | ⟨c,h2,h3,h4⟩
    · exact absurd e hab
    · refine ⟨c,tp_mem.mpr ⟨h2,fun y hy=>h4.trans (ha.2 y hy)⟩,fun e=>?_,fun e=>?_⟩
      · exact F.no ha.1 hb.1 h (e ▸ h3)
      · rw [e,F.own b hb.1] at h3
        cases h3
  have ha:=tp_mem.mp ha
  have hb:=tp_mem.mp hb
  rcases F.tot ha.1 hb.1 hab with h | h
  · exact key a b ha hb hab h
  · obtain ⟨c,h1,h2,h3⟩:=key b a hb ha (Ne.symm hab) h
    exact ⟨c,h1,h3,h2⟩
theorem lift (F : Full m T) (G : Gd T m L) {k j : Nat} (hk : k < L.length) (h : Rch (ouT T L) L.length k j) {x : Nat} (hx : x∈pk L k) : j < L.length∧(j≠k->∀ y∈pk L j,Rch T m x y):=by
  induction h with
  | here=>exact ⟨hk,fun z=>absurd rfl z⟩
  | @step a b h1 hb hab ih=>
    refine ⟨hb,fun hbk y hy=>?_⟩
    have hab' : a≠b:=fun z=>by
      rw [z,(z8I F G).own b hb] at hab
      cases hab
    by_cases hak : a=k
    · subst hak
      refine .step .here (G.plt hb hy) ?_
      rw [← y0M F G ih.1 hb hab' hx hy]
      exact hab
    · have hz:=G.head ih.1
      refine .step (ih.2 hak _ hz) (G.plt hb hy) ?_
      rw [← y0M F G ih.1 hb hab' hz hy]
      exact hab
theorem down (F : Full m T) (G : Gd T m L) {x y : Nat} (hx : x < m) (h : Rch T m x y) : ∀ {k j : Nat},k < L.length->j < L.length->x∈pk L k->y∈pk L j->Rch (ouT T L) L.length k j:=by
  induction h with
  | here=>intro k j hk hj h1 h2; rw [G.only hk hj h1 h2]; exact .here
  | @step a b h1 hb hab ih=>
    intro k j hk hj hxk hbj
    obtain ⟨l,hl,hal⟩:=G.has (h1.lt hx)
    have:=ih hk hl hxk hal
    by_cases e : l=j
    · rw [← e]; exact this
    · refine .step this hj ?_
      rw [y0M F G hl hj e hal hbj]
      exact hab
theorem y3L (F : Full m T) (G : Gd T m L) {k k' : Nat} (h1 : k∈tpL (ouT T L) L.length) (h2 : k'∈tpL (ouT T L) L.length) (hne : k≠k') : ∀ x,(∃ j∈tpL (ouT T L) L.length,x∈pk L j)↔Tpp T m x:=fun x=>by
  constructor
  · rintro ⟨j,hj,hx⟩
    have tj:=tp_mem.mp hj
    refine ⟨G.plt tj.1 hx,fun y hy=>?_⟩
    obtain ⟨l,hl,hyl⟩:=G.has hy
    by_cases e : l=j
    · subst e
      obtain ⟨o,ho,hol⟩ : ∃ o∈tpL (ouT T L) L.length,o≠l:=by
        by_cases z : k=l
        · exact ⟨k',h2,fun w=>hne (z.trans w.symm)⟩
        · exact ⟨k,h1,z⟩
      have to:=tp_mem.mp ho
      have hz:=G.head to.1
      exact ((lift F G tj.1 (tj.2 o to.1) hx).2 hol _ hz).trans ((lift F G to.1 (to.2 l hl) hz).2 (Ne.symm hol) y hyl)
    · exact (lift F G tj.1 (tj.2 l hl) hx).2 e y hyl
  · intro h
    obtain ⟨j,hj,hx⟩:=G.has h.1
    refine ⟨j,tp_mem.mpr ⟨hj,fun l hl=>?_⟩,hx⟩
    exact down F G h.1 (h.2 _ (G.plt hl (G.head hl))) hj hl hx (G.head hl)
theorem y0X {P : List Nat} (nd : P.Nodup) {i j : Nat} (hi : i < P.length) (hj : j < P.length) (h : P[i]=P[j]) : i=j:=by
  rcases Nat.lt_trichotomy i j with z | z | z
  · exact absurd h (List.pairwise_iff_getElem.mp nd i j hi hj z)
  · exact z
  · exact absurd h.symm (List.pairwise_iff_getElem.mp nd j i hj hi z)
theorem y1a {P : List Nat} {i j : Nat} (hi : i < P.length) (hj : j < P.length) : at2 (z2p P (at2 T)) i j=at2 T (P.getD i 0) (P.getD j 0):=by
  unfold at2 z2p
  simp [List.getD,List.getElem?_eq_getElem hi,List.getElem?_eq_getElem hj]
theorem gr_full (F : Full m T) {P : List Nat} (nd : P.Nodup) (lt : ∀ x∈P,x < m) : Full P.length (z2p P (at2 T)):=by
  have gi : ∀ i,i < P.length->P.getD i 0 < m:=fun i hi=>by
    rw [List.getD_eq_getElem?_getD,List.getElem?_eq_getElem hi]
    exact lt _ (List.getElem_mem hi)
  refine ⟨y1k,fun i hi=>?_,fun i hi j hj hij=>?_⟩
  · rw [y1a hi hi]; exact F.own _ (gi i hi)
  · rw [y1a hi hj,y1a hj hi]
    refine F.two _ (gi i hi) _ (gi j hj) fun z=>hij ?_
    rw [List.getD_eq_getElem?_getD,List.getD_eq_getElem?_getD,List.getElem?_eq_getElem hi,List.getElem?_eq_getElem hj] at z
    exact y0X nd hi hj z
theorem top_one (F : Full m T) (G : Gd T m L) {k : Nat} (hu : tpL (ouT T L) L.length=[k]) : ∀ x,(∃ i∈tpL (z2p (pk L k) (at2 T)) (pk L k).length,x=(pk L k).getD i 0)↔Tpp T m x:=by
  have hk : Tpp (ouT T L) L.length k:=tp_mem.mp (by rw [hu]; exact List.mem_cons_self)
  have FO:=z8I F G
  have bt : ∀ a∈pk L k,∀ b,b < m->b ∉ pk L k->at2 T a b=true:=fun a ha b hb hn=>by
    obtain ⟨j,hj,hbj⟩:=G.has hb
    have hjk : j≠k:=fun z=>hn (z ▸ hbj)
    rw [← y0M F G hk.1 hj (Ne.symm hjk) ha hbj]
    exact one_top FO hu j hj hjk
  have plt : ∀ a∈pk L k,a < m:=fun a ha=>G.plt hk.1 ha
  have nd:=(G.ris _ (z7D hk.1)).nd
  have gm : ∀ i,i < (pk L k).length->(pk L k).getD i 0∈pk L k:=fun i hi=>by
    rw [List.getD_eq_getElem?_getD,List.getElem?_eq_getElem hi]
    exact List.getElem_mem hi
  have gx : ∀ a∈pk L k,∃ i,i < (pk L k).length∧(pk L k).getD i 0=a:=fun a ha=>by
    obtain ⟨i,hi,rfl⟩:=List.mem_iff_getElem.mp ha
    exact ⟨i,hi,by simp [List.getD,hi]⟩
  obtain ⟨P,hP⟩ : ∃ P,P=pk L k:=⟨_,rfl⟩
  rw [← hP] at bt plt nd gm gx ⊢
  have up : ∀ {i j : Nat},i < P.length->Rch (z2p P (at2 T)) P.length i j->j < P.length∧Rch T m (P.getD i 0) (P.getD j 0):=fun {i j} hi h=>by
    induction h with
    | here=>exact ⟨hi,.here⟩
    | @step a b h1 hb hab ih=>
      rw [y1a ih.1 hb] at hab
      exact ⟨hb,.step ih.2 (plt _ (gm b hb)) hab⟩
  intro x
  constructor
  · rintro ⟨i,hi,rfl⟩
    have ti:=tp_mem.mp hi
    refine ⟨plt _ (gm i ti.1),fun y hy=>?_⟩
    by_cases h : y∈P
    · obtain ⟨j,hj,rfl⟩:=gx y h
      exact (up ti.1 (ti.2 j hj)).2
    · exact .step .here hy (bt _ (gm i ti.1) y hy h)
  · intro h
    have noin : ∀ a b,a < m->a ∉ P->b∈P->at2 T a b=true->False:=fun a b ha hn hb hab=>F.no ha (plt b hb) hab (bt b hb a ha hn)
    have stay : ∀ z,Rch T m x z->z∈P->x∈P:=fun z hz=>by
      induction hz with
      | here=>exact id
      | @step a b h1 hb hab ih=>
        intro hbP
        by_cases haP : a∈P
        · exact ih haP
        · exact (noin a b (h1.lt h.1) haP hbP hab).elim
    have hP0 : (P.headD 0)∈P:=by rw [hP]; exact G.head hk.1
    have hxP:=stay _ (h.2 _ (plt _ hP0)) hP0
    obtain ⟨i,hi,e⟩:=gx x hxP
    refine ⟨i,tp_mem.mpr ⟨hi,fun j hj=>?_⟩,e.symm⟩
    have back : ∀ z,Rch T m x z->∀ j,j < P.length->P.getD j 0=z->Rch (z2p P (at2 T)) P.length i j:=fun z hz=>by
      induction hz with
      | here=>
        intro j hj ej
        have : j=i:=by
          rw [List.getD_eq_getElem?_getD,List.getElem?_eq_getElem hj] at ej
          rw [List.getD_eq_getElem?_getD,List.getElem?_eq_getElem hi] at e
          exact y0X nd hj hi (show P[j]=P[i] from ej.trans e.symm)
        rw [this]
        exact .here
      | @step a b h1 hb hab ih=>
        intro j hj ej
        have hbP : b∈P:=ej ▸ gm j hj
        have haP : a∈P:=by
          by_cases haP : a∈P
          · exact haP
          · exact (noin a b (h1.lt h.1) haP hbP hab).elim
        obtain ⟨l,hl,el⟩:=gx a haP
        refine .step (ih l hl el) hj ?_
        rw [y1a hl hj,el,ej]
        exact hab
    exact back _ (h.2 _ (plt _ (gm j hj))) j hj rfl
end
theorem y4v {m : Nat} {T : List (List Bool)} (sq : Sq m T) {P : List Nat} (hl : P.length≤1000) (lt : ∀ x∈P,x < m) : z1W [z0M T,thD P]=some (z0M (z2p P (at2 T))):=by
  refine z0P rfl ?_
  have c2 : z2o (some (P.map nD)) (z2F z3V (z0x (z1r (z5a (z0e 1)) z3V (d2 ixD (d2 ixD (z0e 0) (z0e 2)) (z0e 3)))) [some (z0M T),some (thD P)])=some ((z2p P (at2 T)).map z2T):=by
    rw [z3l (fun i=>z2T (P.map fun j=>at2 T i j)) hl fun i hi=>?_]
    · unfold z2p
      rw [List.map_map]
      rfl
    · have c3 : z2o (some (P.map nD)) (z2F z3V (d2 ixD (d2 ixD (z0e 0) (z0e 2)) (z0e 3)) [some (z0M T),some (thD P),some (nD i)])=some ((P.map fun j=>at2 T i j).map bD):=by
        rw [z3l (fun j=>bD (at2 T i j)) hl fun j hj=>?_]
        · rw [List.map_map]
          rfl
        · simp! only [nD,ix2 sq (lt i hi) (lt j hj),bD]
      simp! only [z3c,c3,z2Y (z1h _)]
      rfl
  simp! only [z3C,z3c,c2,z0d]
  rfl
theorem y5I {L : List (List Nat)} {k : Nat} (h : k < L.length) : ixD (llD L) (.int (k : Int))=some (thD (pk L k)):=by
  have e : pk L k=L[k]:=by
    unfold pk
    simp [List.getD,h]
  rw [e]
  exact z7u (by rw [List.getElem?_map,List.getElem?_eq_getElem h]; rfl)
theorem due_eq {m : Nat} {T : List (List Bool)} {L : List (List Nat)} (F : Full m T) (h0 : 0 < m) (hm : m≤8) (G : Gd T m L) : z2u [z0M T,llD L]=some (thD (tpL T m)):=by
  refine z0P rfl ?_
  have hl:=G.len
  have FO:=z8I F G
  have n0 : 0 < L.length:=by
    obtain ⟨k,hk,_⟩:=G.has h0
    omega
  have cp : ∀ a b c d : Option D,z2o (some (L.map thD)) (z2F z3V (z0x (z1Z z6n [z0e 6])) [some (z0M T),some (llD L),a,b,c,d])=some (L.map thD):=fun a b c d=>by
    refine z3l (enc:=thD) (xs:=L) thD (by omega) fun p _=>?_
    have lp : z6n [thD p]=some (p.map nD):=rfl
    simp! only [lp,z1M,z7l]
  have ll : D.lst (L.map thD)=llD L:=rfl
  have fo:=y2N F G hm
  have tu:=y1P FO (by omega) n0
  obtain ⟨U,hU⟩ : ∃ U,U=tpL (ouT T L) L.length:=⟨_,rfl⟩
  have ul : U.length≤8:=by rw [hU]; exact y5F (by omega)
  have und : U.Nodup:=by rw [hU]; exact tp_up.imp fun h=>Nat.ne_of_lt h
  rw [← hU] at tu
  have tl : ∀ W : List Nat,D.lst (W.map nD)=thD W:=fun _=>rfl
  simp! only [z4c,z8T,cp,ll,fo,tu,z5n]
  by_cases h1 : U.length=1
  · obtain ⟨k,hk⟩ : ∃ k,U=[k]:=by
      cases U with
      | nil=>simp at h1
      | cons a r=>
        have : r=[]:=List.length_eq_zero_iff.mp (by simpa using h1)
        exact ⟨a,by rw [this]⟩
    have hu : tpL (ouT T L) L.length=[k]:=by rw [← hU,hk]
    have tk : Tpp (ouT T L) L.length k:=tp_mem.mp (by rw [hu]; exact List.mem_cons_self)
    have R:=G.ris _ (z7D tk.1)
    have FP:=gr_full F R.nd R.lt
    have p0 : 0 < (pk L k).length:=List.length_pos_iff.mpr (G.ne _ (z7D tk.1))
    have pl:=R.len
    have tp:=y1P FP (by omega) p0
    have lp:=y4v F.sq (P:=pk L k) (by omega) R.lt
    have i0 : ixD (thD U) (.int 0)=some (.int (k : Int)):=by rw [hk]; exact z9N
    have ik:=y5I tk.1
    have d1 : decide ((U.length : Int)=1)=true:=decide_eq_true (by omega)
    obtain ⟨P,hP⟩ : ∃ P,P=pk L k:=⟨_,rfl⟩
    have t1:=top_one F G hu
    rw [← hP] at R FP p0 pl tp lp ik t1
    obtain ⟨V,hV⟩ : ∃ V,V=tpL (z2p P (at2 T)) P.length:=⟨_,rfl⟩
    have vnd : V.Nodup:=by rw [hV]; exact tp_up.imp fun h=>Nat.ne_of_lt h
    have vlt : ∀ i∈V,i < P.length:=fun i hi=>by rw [hV] at hi; exact (tp_mem.mp hi).1
    have vl : V.length≤8:=by rw [hV]; exact y5F (by omega)
    rw [← hV] at tp t1
    have cx : ∀ a b : Option D,z2o (some (V.map nD)) (z2F z3V (d2 ixD (z0e 3) (z0e 6)) [some (z0M T),some (llD L),some (thD U),some (thD P),a,b])=some ((V.map fun i=>P.getD i 0).map nD):=fun a b=>by
      rw [List.map_map]
      refine z3l (enc:=nD) (xs:=V) (fun i=>nD (P.getD i 0)) (by omega) fun i hi=>?_
      have hi':=vlt i hi
      have : ixD (thD P) (.int (i : Int))=some (nD (P.getD i 0)):=by
        have e : P.getD i 0=P[i]:=by simp [List.getD,hi']
        rw [e]
        exact z7u (by rw [List.getElem?_map,List.getElem?_eq_getElem hi']; rfl)
      simp! only [nD,this]
    have so:=z9y (T:=T) (E:=V.map fun i=>P.getD i 0) hm (by
      unfold List.Nodup
      rw [List.pairwise_map]
      refine List.Pairwise.imp_of_mem (fun {i j} hi hj hij z=>hij ?_) vnd
      have hi:=vlt i hi
      have hj:=vlt j hj
      rw [List.getD_eq_getElem?_getD,List.getD_eq_getElem?_getD,List.getElem?_eq_getElem hi,List.getElem?_eq_getElem hj] at z
      exact y0X R.nd hi hj z) fun x=>by
        rw [List.mem_map,← t1 x]
        exact ⟨fun ⟨i,h,e⟩=>⟨i,h,e.symm⟩,fun ⟨i,h,e⟩=>⟨i,h,e.symm⟩⟩
    simp_all! only [d1,i0,ik,lp,tp,z3c,cx,tl,so,z1M,z0d]
  · have d1 : decide ((U.length : Int)=1)=false:=decide_eq_false (by omega)
    have hn0 : U≠[]:=fun z=>by
      obtain ⟨a,ha⟩:=y2g FO n0
      have:=tp_mem.mpr ha
      rw [← hU,z] at this
      cases this
    obtain ⟨a,b,r,hab⟩ : ∃ a b r,U=a :: b :: r:=by
      cases hq : U with
      | nil=>exact absurd hq hn0
      | cons a r=>
        cases r with
        | nil=>rw [hq] at h1; exact absurd rfl h1
        | cons b r=>exact ⟨a,b,r,rfl⟩
    have nab : a≠b:=fun z=>by
      rw [hab] at und
      exact (List.nodup_cons.mp und).1 (by rw [z]; exact List.mem_cons_self)
    have ha : a∈tpL (ouT T L) L.length:=by rw [← hU,hab]; simp
    have hb : b∈tpL (ouT T L) L.length:=by rw [← hU,hab]; simp
    obtain ⟨c,hc,hca,hcb⟩:=not_two FO ha hb nab
    have u3 : 3≤U.length:=by
      rw [← hU,hab] at hc
      rcases List.mem_cons.mp hc with z | z
      · exact absurd z hca
      · rcases List.mem_cons.mp z with z | z
        · exact absurd z hcb
        · have:=List.length_pos_of_mem z
          rw [hab]
          simp only [List.length_cons]
          omega
    have d3 : decide ((U.length : Int) < 3)=false:=decide_eq_false (by omega)
    have ult : ∀ k∈U,k < L.length:=fun k hk=>by rw [hU] at hk; exact (tp_mem.mp hk).1
    have tm:=y3L F G ha hb nab
    rw [← hU] at tm
    have fnd : (U.flatMap (pk L)).Nodup:=by
      rw [List.flatMap_def]
      unfold List.Nodup
      rw [List.pairwise_flatten]
      refine ⟨fun p hp=>?_,?_⟩
      · obtain ⟨k,hk,rfl⟩:=List.mem_map.mp hp
        exact (G.ris _ (z7D (ult k hk))).nd
      · rw [List.pairwise_map]
        refine List.Pairwise.imp_of_mem (fun {i j} hi hj hij x hx y hy e=>hij ?_) und
        exact G.only (ult i hi) (ult j hj) hx (e ▸ hy)
    have so:=z9y (T:=T) (E:=U.flatMap (pk L)) hm fnd fun x=>by rw [List.mem_flatMap]; exact tm x
    have fle : ∀ pre post : List Nat,U=pre ++ post->(pre.flatMap (pk L)).length≤8:=fun pre post e=>by
      have h2:=List.Nodup.length_le_of_subset (l₂:=List.range m) (show (pre.flatMap (pk L)).Nodup by
        rw [e,List.flatMap_append] at fnd
        exact (List.nodup_append.mp fnd).1) fun x hx=>by
          obtain ⟨k,hk,hx⟩:=List.mem_flatMap.mp hx
          exact List.mem_range.mpr (G.plt (ult k (by rw [e]; exact List.mem_append_left _ hk)) hx)
      rw [List.length_range] at h2
      omega
    simp_all! only [d1,z2G,y1G,z3c]
    refine z0E (I:=fun s=>∃ o3 o5,s=[some (.sh (z0M T)),some (.sh (llD L)),some (.sh (thD U)),o3,some (.ow (thD (U.flatMap (pk L)))),o5]) (z2X (enc:=nD) (xs:=U) (fun pre s=>∃ o3 o5,s=[some (.sh (z0M T)),some (.sh (llD L)),some (.sh (thD U)),o3,some (.ow (thD (pre.flatMap (pk L)))),o5]) ⟨_,_,rfl⟩ ?_ fun s z=>⟨s,rfl,z⟩) ?_
    · rintro pre k post e s ⟨o3,o5,rfl⟩
      have hk:=ult k (by rw [e]; simp)
      have h1:=fle (pre ++ [k]) post (by rw [e]; simp)
      have ef : (pre ++ [k]).flatMap (pk L)=pre.flatMap (pk L) ++ pk L k:=by simp
      rw [ef,List.length_append] at h1
      have ct:=y5Q (a:=pre.flatMap (pk L)) (b:=pk L k) (by omega)
      rw [ef]
      obtain ⟨W,hW⟩ : ∃ W,W=pre.flatMap (pk L) ++ pk L k:=⟨_,rfl⟩
      rw [← hW] at ct ⊢
      simp! only [nD,y5I hk,ct,z1M,tl,z0d]
      exact ⟨_,_,rfl⟩
    · rintro s ⟨o3,o5,rfl⟩
      simp_all! only [z5n,d3,so,z1M,tl,z0d]
theorem law_true (ns : List Int) (hns : ns.length≤63) : y0D [.scr ns]=some (.bl true):=by
  refine z0P rfl ?_
  obtain ⟨_,e0,O,Is,hs,rfl,M⟩:=y3V ns
  have e0 : z1l [.scr ns]=some (y0r O Is hs):=e0
  have et:=y1W M
  have F:=y2t M
  have h0:=hs_pos M
  have h8:=M.le
  have ep:=y1N M
  have G1:=y2T M
  obtain ⟨T,hT⟩ : ∃ T,T=y3r O Is hs:=⟨_,rfl⟩
  obtain ⟨m,hm⟩ : ∃ m,m=hs.length:=⟨_,rfl⟩
  rw [← hT] at et F G1
  rw [← hm] at F h0 h8 G1
  obtain ⟨L1,hL1⟩ : ∃ L1,L1=pcs O.length hs:=⟨_,rfl⟩
  rw [← hL1] at ep G1
  obtain ⟨L,ea,G,hr⟩:=y4q F h8 h0
  have cp : ∀ d1 d3 d4 : Option D,z2o (some (T.map z2T)) (z2F z3V (z0x (z1Z z6n [z0e 5])) [some (.scr ns),d1,some (z0M T),d3,d4])=some (T.map z2T):=fun d1 d3 d4=>by
    refine z3l (enc:=z2T) (xs:=T) z2T (by rw [F.sq.1]; omega) fun r _=>?_
    have lr : z6n [z2T r]=some (r.map bD):=rfl
    simp! only [lr,z2Y (z1h _)]
    rfl
  have lT : D.lst (T.map z2T)=z0M T:=rfl
  have sT : y4S (z0M T)=some (T.map z2T):=rfl
  have tp:=y1P F (by omega) h0
  have re:=z4J F.sq (show m≤60 by omega)
  have nt : neD (thD (tpL T m)) (thD (tpL T m))=some (.bl false):=ne_self (z9P _)
  have sl : y4S (.lst [llD L1,llD L])=some ([L1,L].map llD):=rfl
  simp_all! only [g_law,e0,et,sT,cp,lT,ea,ep,sl]
  refine z0E (I:=fun s=>∃ o4,s=[some (.sh (.scr ns)),some (.sh (y0r O Is hs)),some (.sh (z0M T)),some (.sh (llD L)),o4]) (z2X (enc:=llD) (xs:=[L1,L]) (fun _ s=>∃ o4,s=[some (.sh (.scr ns)),some (.sh (y0r O Is hs)),some (.sh (z0M T)),some (.sh (llD L)),o4]) ⟨_,rfl⟩ ?_ fun s z=>⟨s,rfl,z⟩) ?_
  · rintro pre W post e s ⟨o4,rfl⟩
    have GW : Gd T m W:=by
      have : W∈[L1,L]:=by rw [e]; simp
      rcases List.mem_cons.mp this with z | z
      · rw [z]; exact G1
      · rw [List.mem_singleton.mp z]; exact G
    have du:=due_eq F h0 h8 GW
    simp_all! only [tp,du,nt,z0d]
    exact ⟨_,rfl⟩
  · rintro s ⟨o4,rfl⟩
    obtain ⟨r,er⟩:=rg_top F h0
    have lr : z2U [.lst ((rgL T m).map thD)]=some (.int ((rgL T m).length : Int)):=y1c
    by_cases h1 : (rgL T m).length=1
    · have d1 : decide (((rgL T m).length : Int)=1)=true:=decide_eq_true (by omega)
      simp_all! only [re,lr,d1,z0d]
    · have d1 : decide (((rgL T m).length : Int)=1)=false:=decide_eq_false (by omega)
      have hL:=hr (by rw [er,List.length_cons] at h1 ⊢; omega)
      have i0 : ixD (llD L) (.int 0)=some (thD (tpL T m)):=by
        rw [hL,er]
        exact z9N
      have eqt : eqD (thD (tpL T m)) (thD (tpL T m))=some (.bl true):=eq_self (z9P _)
      simp_all! only [re,lr,d1,i0,tp,eqt,z0d]
end Prg
open PySem PySem.W PyProof.Rows
set_option maxRecDepth 100000 in
set_option maxHeartbeats 0 in
theorem PySem.Challenge.cw_askorder_k77_whole_top_rings_holds : PySem.Challenge.rw_askorder_k77_whole_top_rings.Holds := by
  w_on; o_law; k_head; (case hw=>w_witness2)
  k_fill
  refine Prg.walk (l:=PySem.Challenge.rw_askorder_k77_whole_top_rings) rfl rfl Prg.law_true (fun w h Y=>PySem.W.kIn_of Y) ?F
  case F=>
    intro w mg fa h KX G hmg
    refine' Prg.all_mk KX G hmg ?a_part ?l_part ?c_part ?k_part ?a_picked ?l_picked ?c_picked ?k_picked ?a_beaten_by ?l_beaten_by ?c_beaten_by ?k_beaten_by ?a_places_true ?l_places_true ?c_places_true ?k_places_true ?a_reached ?l_reached ?c_reached ?k_reached ?a_steps_from ?l_steps_from ?c_steps_from ?k_steps_from ?a_rings ?l_rings ?c_rings ?k_rings ?a_places_with ?l_places_with ?c_places_with ?k_places_with ?a_top_ring ?l_top_ring ?c_top_ring ?k_top_ring ?a_stands_together ?l_stands_together ?c_stands_together ?k_stands_together ?a_parting ?l_parting ?c_parting ?k_parting ?a_sees_as_one ?l_sees_as_one ?c_sees_as_one ?k_sees_as_one ?a_closure ?l_closure ?c_closure ?k_closure ?a_parts ?l_parts ?c_parts ?k_parts ?a_greatest_with ?l_greatest_with ?c_greatest_with ?k_greatest_with ?a_leads_to_all ?l_leads_to_all ?c_leads_to_all ?k_leads_to_all ?a_is_thing ?l_is_thing ?c_is_thing ?k_is_thing ?a_tells_each_once ?l_tells_each_once ?c_tells_each_once ?k_tells_each_once ?a_places_of ?l_places_of ?c_places_of ?k_places_of ?a_folded ?l_folded ?c_folded ?k_folded ?a__law_cell_at ?l__law_cell_at ?c__law_cell_at ?k__law_cell_at ?a__law_table_by ?l__law_table_by ?c__law_table_by ?k__law_table_by ?a__law_mixed ?l__law_mixed ?c__law_mixed ?k__law_mixed ?a__law_beats ?l__law_beats ?c__law_beats ?k__law_beats ?a__law_table ?l__law_table ?c__law_table ?k__law_table ?a__law_pieces ?l__law_pieces ?c__law_pieces ?k__law_pieces ?a__law_part ?l__law_part ?c__law_part ?k__law_part ?a__law_due ?l__law_due ?c__law_due ?k__law_due ?a_law ?l_law ?c_law ?k_law ?x_BadParts ?q_BadParts ?z_enumerate ?z_sorted ?z_range ?z_len ?z_all ?z_any ?z_set ?z_int ?z_isinstance ?z_bool ?z_min ?z_list
    (case a_part=>k_is)
    (case l_part=>k_is)
    (case c_part=>k_is)
    (case k_part=>k_is)
    (case a_picked=>k_is)
    (case l_picked=>k_is)
    (case c_picked=>k_is)
    (case k_picked=>k_is)
    (case a_beaten_by=>k_is)
    (case l_beaten_by=>k_is)
    (case c_beaten_by=>k_is)
    (case k_beaten_by=>k_is)
    (case a_places_true=>k_is)
    (case l_places_true=>k_is)
    (case c_places_true=>k_is)
    (case k_places_true=>k_is)
    (case a_reached=>k_is)
    (case l_reached=>k_is)
    (case c_reached=>k_is)
    (case k_reached=>k_is)
    (case a_steps_from=>k_is)
    (case l_steps_from=>k_is)
    (case c_steps_from=>k_is)
    (case k_steps_from=>k_is)
    (case a_rings=>k_is)
    (case l_rings=>k_is)
    (case c_rings=>k_is)
    (case k_rings=>k_is)
    (case a_places_with=>k_is)
    (case l_places_with=>k_is)
    (case c_places_with=>k_is)
    (case k_places_with=>k_is)
    (case a_top_ring=>k_is)
    (case l_top_ring=>k_is)
    (case c_top_ring=>k_is)
    (case k_top_ring=>k_is)
    (case a_stands_together=>k_is)
    (case l_stands_together=>k_is)
    (case c_stands_together=>k_is)
    (case k_stands_together=>k_is)
    (case a_parting=>k_is)
    (case l_parting=>k_is)
    (case c_parting=>k_is)
    (case k_parting=>k_is)
    (case a_sees_as_one=>k_is)
    (case l_sees_as_one=>k_is)
    (case c_sees_as_one=>k_is)
    (case k_sees_as_one=>k_is)
    (case a_closure=>k_is)
    (case l_closure=>k_is)
    (case c_closure=>k_is)
    (case k_closure=>k_is)
    (case a_parts=>k_is)
    (case l_parts=>k_is)
    (case c_parts=>k_is)
    (case k_parts=>k_is)
    (case a_greatest_with=>k_is)
    (case l_greatest_with=>k_is)
    (case c_greatest_with=>k_is)
    (case k_greatest_with=>k_is)
    (case a_leads_to_all=>k_is)
    (case l_leads_to_all=>k_is)
    (case c_leads_to_all=>k_is)
    (case k_leads_to_all=>k_is)
    (case a_is_thing=>k_is)
    (case l_is_thing=>k_is)
    (case c_is_thing=>k_is)
    (case k_is_thing=>k_is)
    (case a_tells_each_once=>k_is)
    (case l_tells_each_once=>k_is)
    (case c_tells_each_once=>k_is)
    (case k_tells_each_once=>k_is)
    (case a_places_of=>k_is)
    (case l_places_of=>k_is)
    (case c_places_of=>k_is)
    (case k_places_of=>k_is)
    (case a_folded=>k_is)
    (case l_folded=>k_is)
    (case c_folded=>k_is)
    (case k_folded=>k_is)
    (case a__law_cell_at=>k_is)
    (case l__law_cell_at=>k_is)
    (case c__law_cell_at=>k_is)
    (case k__law_cell_at=>k_is)
    (case a__law_table_by=>k_is)
    (case l__law_table_by=>k_is)
    (case c__law_table_by=>k_is)
    (case k__law_table_by=>k_is)
    (case a__law_mixed=>k_is)
    (case l__law_mixed=>k_is)
    (case c__law_mixed=>k_is)
    (case k__law_mixed=>k_is)
    (case a__law_beats=>k_is)
    (case l__law_beats=>k_is)
    (case c__law_beats=>k_is)
    (case k__law_beats=>k_is)
    (case a__law_table=>k_is)
    (case l__law_table=>k_is)
    (case c__law_table=>k_is)
    (case k__law_table=>k_is)
    (case a__law_pieces=>k_is)
    (case l__law_pieces=>k_is)
    (case c__law_pieces=>k_is)
    (case k__law_pieces=>k_is)
    (case a__law_part=>k_is)
    (case l__law_part=>k_is)
    (case c__law_part=>k_is)
    (case k__law_part=>k_is)
    (case a__law_due=>k_is)
    (case l__law_due=>k_is)
    (case c__law_due=>k_is)
    (case k__law_due=>k_is)
    (case a_law=>k_is)
    (case l_law=>k_is)
    (case c_law=>k_is)
    (case k_law=>k_is)
    (case x_BadParts=>k_is)
    (case q_BadParts=>first | k_exc | kernel_rfl!)
    (case z_enumerate=>k_is)
    (case z_sorted=>k_is)
    (case z_range=>k_is)
    (case z_len=>k_is)
    (case z_all=>k_is)
    (case z_any=>k_is)
    (case z_set=>k_is)
    (case z_int=>k_is)
    (case z_isinstance=>k_is)
    (case z_bool=>k_is)
    (case z_min=>k_is)
    (case z_list=>k_is)
